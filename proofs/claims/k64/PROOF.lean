import PyProof.Rows.All
import OpenK.KLine
import Open.Tops
import Wide.FinOn
import KE.KRevSl
import KE.KItem
import KE.KxWritten
import KE.KFromBytes
import KE.LcSums
import KE.KBits
import KE.KTryMore
import KE.KDictOf
import PyProof.AttrMissHeap
import KE.KEqDict
import KE.KSortTup
import PyProof.DictItems
import PyProof.DictItemsLoops
import KE.KPairComp
import KE.KDictList
import PyProof.DictTruth
import PyProof.DictCompW
import PySem.Challenge.RW_widewords_k64_small_rows_refused
set_option Elab.async false
set_option linter.all false
set_option maxRecDepth 100000
set_option maxHeartbeats 0
local macro_rules
 | `(#print $s:str)=>do
  let n:=fun (x:Lean.Name)=>Lean.mkIdent (.mkSimple s!"tw{x.hash}")
  let mut a:=#[n `PySem.Challenge.pw_widewords_k64_small_rows_refused]
  for e in s.getString.splitOn "|" do
   let f:=e.splitOn " "
   let mut p:=0
   for r in f.tail! do
    let g:=(r.splitOn ".").map String.toNat!
    p:=p+g[0]!
    for j in [0:g.getD 1 0+1] do a:=a.push (n (.mkStr2 "sh" (f[0]!++toString (p+j))))
    p:=p+g.getD 1 0
  `(structure $(Lean.mkIdent `PySem.W.Fast):declId:Prop where ($a*:True))
set_option genSizeOf false
set_option genInjectivity false
#print "o_ 3 2 4 3.1 2.2 4 2 3 3.1 2.1 4 2 3 3.1 2.1 4 2 3 3.1 2.1 4 2 3 3.1 2.1 4 2 3 3.1 2.1 4 2 3 3.1 2.1 4 2 3 3.1 2.1 4 2 3 3.1 2.1 4 2 3 3.1 2.1 4 2 3 3.1 2.1 4 2 3 3.1 2.1 4 2 3 3.1 2.1 4 2 3 3.1 2.1 4 2 3 3.1 2.1 5 2.2 5.2 3 2.2 3 2.2 3 2.2 2 4 2.2 3 2.2 3 2.2 3 2.2 3 2.2 3 2.4 4 4 2.2 3.2 5.2 3 2.2 3 2.2 3.2 3.2 3.2 5.2 3 2.2 3 2.2 3 2.2 2 4 2.2 5.2 3.2 3.2 3 2.2 3 2.2|sts_ 4 17 16 16 16 16 16 16 16 16 16 16 16 16 16 51 49 79|tree_ 19 16 16 16 16 16 16 16 16 16 16 16 16 16 51 47 81 41"
set_option genSizeOf true
set_option genInjectivity true
open_shared sh for PySem.Challenge.pw_widewords_k64_small_rows_refused leaving 0
namespace hh
open PySem PySem.W PySem.Calls PyProof.Rows
noncomputable abbrev p:=PySem.Challenge.pw_widewords_k64_small_rows_refused
abbrev z:Pos:=⟨0,0,0,0⟩
abbrev an:Option Value:=some (.ref 6)
noncomputable abbrev bE:=behindTheImports p
noncomputable abbrev cE:Code:=.body bE sh.env_1
noncomputable abbrev H1(P:Params):Heap:=absHeap (sh.tree_447 P) 389 {}
noncomputable abbrev S0(w:World)(os:OsState):Shared:=⟨boot_heap w.params,⟨[]⟩,boot_drawn,boot_toks,os⟩
noncomputable abbrev Sb(w:World)(os:OsState):Shared:=SharedT.abs ⟨sh.tree_4 w.params,15,{},⟨[]⟩,{},187,os⟩
noncomputable abbrev Sk(w:World)(os:OsState):Shared:=SharedT.abs ⟨sh.tree_447 w.params,389,{},⟨[]⟩,{},750,os⟩
theorem pre(w os):topGo treeTable p w 11 an 12 (S0 w os) (topStub p)=some (Sb w os,⟨denote treeTable cE,cE,z,[topFrame z]⟩):=by kernel_rfl
theorem blk(w os):segRun treeTable p w 11 an 1 1 (Sb w os) (blockOf bE sh.env_1 cE z [topFrame z])=some (.next,Sb w os,cE,z):=by kernel_rfl
theorem fin(w os):topRun treeTable p w 11 an 2 (Sk w os) (restOf [] sh.env_1 cE ⟨180,0,199,131⟩ [topFrame z])=some (Sk w os):=by kernel_rfl
theorem bod:bE=sh.sts_4++(sh.sts_21++(sh.sts_37++(sh.sts_53++(sh.sts_69++(sh.sts_85++(sh.sts_101++(sh.sts_117++(sh.sts_133++(sh.sts_149++(sh.sts_165++(sh.sts_181++(sh.sts_197++(sh.sts_213++(sh.sts_229++(sh.sts_280++(sh.sts_329++(sh.sts_408++[]))))))))))))))))):=by kernel_rfl
theorem run(w os):topRun treeTable p w 11 an (12+(1+(196+(214+(214+(214+(214+(214+(214+(214+(214+(214+(214+(214+(214+(214+(383+(398+(375+(185+2)))))))))))))))))))) (S0 w os) (topStub p)=some (Sk w os):=by
 refine go_top (pre w os) (piece_block (blk w os) ?_)
 have h:=sh.chain p bE w os [] 2 (Sk w os) (fin w os)
 rw[<-bod] at h
 exact h
noncomputable def q:Program:=view p [51]
noncomputable abbrev lo:List Str:=p.boundNames
theorem look(w:World):(fun os=>((staticsOk (importedModules p.main.body) (boot_heap w.params) (H1 w.params) && namesBound p (H1 w.params) && gensDone (Sk w os) && laidKept (boot_heap w.params) (H1 w.params)),openSeen q lo (importedModules p.main.body) (fun _=>true) true (Sk w os),(Sk w os).heap))=fun _=>(true,openGood q lo,H1 w.params):=by kernel_rfl
theorem left:LeftO p q lo (fun _=>true) Shared.heap (fun w=>H1 w.params) 8728:=.of_pieces (boot_open (by kernel_rfl) (by kernel_rfl) fun s=>by kernel_rfl) (fun w=>by kernel_rfl) run (by kernel_rfl) look
theorem inA{t:BT}{n:Nat}{f:Life}{K:Frag}(h1:K.all (fun x=>Nat.blt x.1 n)=true)(h2:K.map (fun x=>t.get x.1)=K.map fun x=>some x.2)(h3:K.map (fun x=>alive x.2)=K.map fun x=>some x.2):K.In (absHeap t n f):=by
 intro a o e
 induction K with
 | nil=>cases e
 | cons x r ih=>
  obtain ⟨b,y⟩:=x
  simp only[List.map_cons,List.cons.injEq,List.all_cons,Bool.and_eq_true] at h1 h2 h3
  by_cases hb:(a==b)=true
  · rw[List.lookup_cons,hb] at e
    cases e
    have:=beq_iff_eq.mp hb
    subst this
    rw[abs_get (Nat.le_of_ble_eq_true h1.1) h2.1]
    exact h3.1
  · rw[List.lookup_cons,eq_false_of_ne_true hb] at e
    exact ih h1.2 h2.2 h3.2 e
local macro_rules
 | `(panic! $s:str)=>do
  let mut v:=#[]
  let mut p:=0
  let mut q:=0
  for r in s.getString.splitOn " " do
   if let g::l::m:=(r.splitOn ",").map String.toNat! then
    let i:=m.headD (q+g)
    p:=p+g
    for j in [0:l] do v:=v.push (p+j,if i==0 then .str `PySem.W s!"boot_o_{p+j}" else .str `sh s!"o_{i+j}")
    p:=p+l
    q:=i+l
  let mut a ← `(List.nil)
  for (x,o) in v.reverse do a ← `(List.cons (nat_lit $(Lean.Syntax.mkNumLit (toString x)),$(Lean.mkIdent o) P) $a)
  `(fun P=>$a)
noncomputable def KK:Params->Frag:=panic! "2,1,0 0,1,408 11,1,7 6,2 0,1,231 0,1,17 2,1,24 6,3 2,1,40 6,3 2,1,56 6,3 2,1,72 6,3 2,1,88 6,3 2,1,104 6,3 2,1,120 6,3 2,1,136 6,3 2,1,152 6,3 2,1,168 6,3 2,1,184 6,3 2,1,200 6,3 2,1,216 6,3 2,1,232 6,3 2,1 1,2 1,3 1,2 1,3 1,2 1,3 1,2 1,3 1,2 1,2 0,1,282 1,2 1,3 1,2 1,3 1,2 1,3 1,2 1,3 1,2 1,3 1,2 1,4 0,1,331 1,2 1,3 2,3 1,2 1,3 1,2 1,3 1,2 1,3 2,3 2,3 2,3 1,2 1,3 1,2 1,3 1,2 1,3 1,2 1,2 0,1,410 1,2 1,3 1,2 1,3 2,3 2,3 1,2 1,3 1,2 1,2"
theorem inK(w:World):InK KK w (H1 w.params):=inA (K:=KK w.params) (by kernel_rfl) (by kernel_rfl) (by kernel_rfl)
theorem hd{d:DefRec}{k:List (Str×Expr)}(a:defOf q "law"=some (d,k))(b:p.theDef "law"=some (d.params,d.body,d.scope))(c:kwWritten? d.params.kwonlyargs d.params.kw_defaults=some k)(h:WalkO q lo (fun _ _=>True) (InK KK) PySem.Challenge.rw_widewords_k64_small_rows_refused.row.toRowW d k fun f vs=>PySem.call f vs):PySem.Challenge.rw_widewords_k64_small_rows_refused.Holds:=by
 w_on;o_law
 refine holds_open left (YP:=InK KK) (XP:=fun _ _=>True) (fun w s e=>e ▸ inK w) InK.keeps (fun _ _=>trivial) (fun _ _ _ _ _=>trivial) a b c (fun s _=>recFacts_nil rfl) (by rfl) (by assumption) (by decide +kernel) ⟨rfl,rfl,rfl,rfl,rfl,by decide +kernel⟩ ?hw h
 w_witness2
end hh
local macro_rules|`(⋯)=>`((by decide))
local macro_rules|`(∅)=>`((by lia))
set_option compiler.extract_closed false
set_option bootstrap.genMatcherCode false
set_option genSizeOf false
open Option renaming some->AA,none->AB,isSome_iff_exists->Ac,getD_some->B1,bind_some->CL,map_some->CT,any_eq_true_iff_get->C7,get_some->E7,isSome_some->FW,getD_none->Fq
open Bool renaming true->AC,false->AE,and_eq_true->AJ,false_ne_true->AV,not_eq_true'->BH,and_eq_true_iff->Ba,or_eq_true->CS,false_eq_true->Cm,and_self->EB,eq_iff_iff->GF,not_true->G1,or_false->G2,false_or->G7,true_and->G8,true_or->Gg
open PySem.W renaming Frag->AD,keepIn->Ab,findIn->Ai,nsIn->Ay,kitOne->BA,fnOf->BU,codeIn->Bm,hideAll->Ch,isFn->Cv,cellsFrom_some->Cw,excIn->DL,looks_findIn->DM,callWith_K->Da,exmOne->Dg,methodObj->Dt,clsIn->Dy,mg_of->EA,OpenLaw->ER,makesIn->E6,hideAll_get->Ez,of_hideAll->FP,codeRec_of->FQ,hasDictIn->F2,plainOver->F3,plainGet->Fm,WalkO->GH,kitAny->GV,subIn->G3,mroIn->G4,Looks->G5,Rel2->Gh
open PySem renaming Value->AF,Addr->AG,Shared->AH,wpAny_bind->AI,Expr->AM,Str->AN,wpAny_pure->AO,wpAny->A2,Program->A3,Around->A8,World->Aa,FuncData->Am,Heap->An,Scope->Ao,wpAny_newObj_type->Aw,wpAny_mono->Az,Env->BF,sizeLine_eq->BG,wpAny_Call_Name_kw->BQ,Obj->BR,call_meets->BW,wpAny_standAt->B3,Keyword->B4,wpAny_binaryOp_repeat_ref->B6,Pos->Bc,Stmt->Bd,NameKind->Bl,wpAny_passesOwn->Br,DictEntry->Bs,wpAny_holding->Bz,wpAny_comprehension_free->CB,Comprehension->CC,mem_of_lookup->CF,wpAny_callSpecial?_slot->CJ,wpAny_field->CN,wpAny_truthy_bool->CV,typeIs_int->C3,wpAny_execs_nil->Ci,wpAny_pyIter_tuple->Cn,wpAny_call_entry->DH,codeAny_mono->DU,PassesOwn->DY,Result->D6,wpAny_newFunctionEnv_cells->D7,typeIs_str->D9,BindsTo->Du,wpAny_loadPart_at->Dv,Operator->EC,noFill_tuple_add->EF,wpAny_rule->ET,IsPart->EV,Builtin->EY,strKind_is->E2,codeAny_call_function->E9,wpAny_seqItems->Ee,wpAny_loadName_local->Ef,wpAny_bindName->Eg,wpAny_setField->El,wpAny_newFunctionEnv->En,codeAny_call_builtin->Eo,wpAny_loadName_cell->FA,seq_tuple_add->FJ,wpAny_assign_Name->F0,concat_meets->F4,wpAny_sequenceKey->F5,wpAny_typeOf->F6,slot_list_getitem->F7,wpAny_pyIter_enum->Fb,Sem->Fi,wpAny_execs_cons->Fk,wpAny_getItem_of->Ft,seqSlot_of->Fw,seqIndex_of->Fz,wpAny_specialOf->GB,PyData->GI,Paired->GL,Model->GM,wpAny_Name->GN,call->GR,wpAny_call->GT,Tok->GX,BoolOp->Gj,Reads->Gp,CmpOp->Gr
open List renaming replicate->AK,mem_cons_of_mem->AL,getElem?_append_left->AQ,mem_cons_self->AW,size_toArray->AY,map_cons->AZ,getElem?_append_right->A1,all_eq_true->A4,mem_of_getElem?->A5,mem_cons->A6,mem_append_right->A9,getElem?_eq_some_iff->Ad,getElem?_cons_succ->Ae,length_cons->Ag,getElem?_cons_zero->Ah,getElem?_eq_none->Aj,length_map->Ak,getElem?_set_ne->Al,length_append->Ap,all_cons->Ar,replicate_succ->As,lookup_cons->Av,getElem?_map->Ax,drop_eq_getElem_cons->BB,getElem?_set_self->BD,mem_append->BE,append_nil->BJ,length_set->BK,flatten_cons->BV,set_cons_zero->BY,set_cons_succ->BZ,filter_cons->B0,any_cons->B5,getElem?_eq_getElem->B7,mem_map->B8,find?_cons->Be,not_mem_nil->Bj,length->Bv,filterMap_cons->CD,drop_length->CK,map_nil->CO,foldl_cons->CP,getElem?_set->CY,mem_append_left->C2,any_eq_true->C9,nil_append->Cj,length_nil->Ck,mem_range->Ct,append_assoc->DA,filterMap->DC,range->DE,length_take->DG,cons_append->DI,countP_cons->DJ,nodup_cons->DO,of_mem_zip->DP,set_set->DX,mem_filterMap->D4,zip_cons_cons->Dc,mem_singleton->Dm,getElem?_zip_eq_some->Dq,pairwise_iff_getElem->Ds,getElem?_replicate->ED,length_drop->EG,mem_flatMap->EO,getElem_mem->EQ,forIn_cons->E4,mem_filter->E5,contains_iff_mem->Ed,getElem_toArray->Et,length_pos_iff->FG,findIdx?_cons->FX,isEmpty_cons->Fd,map_map->Fe,reverse_cons->Ff,ext_getElem?->Fg,any_eq_false->Fh,isEmpty_nil->Fu,take_length->Fv,lookup->GA,foldl->GQ,range'->Gw
open Nat renaming le_refl->AR,lt_of_lt_of_le->A0,ne_of_lt->Af,le_trans->BC,zero_le->BX,lt_irrefl->Bi,le_succ->C5,add_comm->DB,lt_of_le_of_lt->De,mul_le_mul->Di,lt_succ_self->EN,ne_of_gt->EU,lt_or_ge->E3,reduceSub->FK,le_of_lt->FZ,mul_comm->F8,lt_trans->Fc,add_assoc->G0,le_of_eq->Gf,log2_lt->Gv
open PySem.Heap renaming get?_push_of_some->AS,lt_size->AX,get?_push_size->A7,SameBut->Bf,get?_update_other->Cz,FlyingW->EZ,get?_update_self->Ea,size_push->Em,MadeExcOf->GS
open PySem.Str renaming ofString->AT,join->C6,empty->DF
open Option.some renaming inj->AU,injEq->Bb
open PyProof.Rows renaming slot_tuple_getitem->Aq,tupleItemsOf_->CM,callWith_type1->CW,AllBare->Cu,boot_isinstance->DR,assignInOrder_cons->D3,subscriptTail_builtinR->EW,entry_tuple_getitem->FD,args_tuple_getitem->FR,assignInOrder_nil->F1,callWith_builtin1->Fp,join_plain_closes->Fx,IntsAre->GG,Subscript_->GO,IsTup->Gb,split_pos->Gk,join_list->Gm,split_le->Gn
open PySem.Value renaming ref->Au,none->By,builtin->Dz,type->FO,bool->GJ,isStrOf->GZ,int->G9,str->Ga,isInt->Go
open PySem.Heap.FunFrames renaming mem->BI
open PySem.F renaming slot_int_rmul->BL,slot_tuple_mul->Bg,slot_tuple_iterator_next->Bo,args_int_rmul_2->CQ,slot_int_index->CZ,entry_int_rmul->C0,fills_int_mul->C8,args_tuple_add_2->Cc,args_tuple_mul_2->Cg,entry_tuple_add->Co,entry_tuple_mul->Cp,plainAttrs_list->Cq,slot_str_split->Cr,slot_tuple_add->Cy,args_tuple_iterator_next_1->DQ,entry_tuple_iterator_next->DV,args_str_split_2->Dj,slot_dict_getitem->Dr,entry_str_split->Dw,slot_tuple_rmul->EJ,plainAttrs_str->E1,typeOf_object_class->Eb,slot_list_insert->Ec,slot_list_count->Ep,slot_list_index->Es
open False renaming elim->BM
open PySem.Builtin.Tuple renaming tupleExact->BN,tupleItemsOf->C1,tupleTooMany->Dh,tupleHashOf->Dp
open PySem.PyData renaming depthAll->BO,eqv->BP,depth->BS,canLay0->B9,canLayAll0->Bt,eqvAll->CU,keyHash->Dl
open PySem.Challenge renaming rw_widewords_k64_small_rows_refused->Bk,pw_widewords_k64_small_rows_refused->D0
open PySem.Builtin.Slice renaming slicePlaces->Bp,sliceAdjust->Ca,sliceApplied->D8,slicePartIndex->GE,sliceFields->GY
open PySem.Builtin.SmallTypes renaming nextOf->Bq
open Ne renaming symm->Bu
open Eq renaming refl->Bw
open PySem.NameKind renaming free->CA,cell->Dx
open PySem.Builtin.Str renaming occurrences->CG,strSliceIndices->DW,strKind->FF
open PySem.Value.type renaming inj->C4
open PySem.Builtin.Int renaming intBits->Cb
open PySem.Builtin.List renaming listTooLong->Cd,listFitsIndex->GW
open PySem.AutoSeq1 renaming sub_tuple_tuple->Cf,idx_int->EK
open PUnit renaming unit->DD
open ForInStep renaming yield->DN
open Array renaming length_toList->DS,append_assoc->D1,getElem?_eq_some_iff->Db,toList_inj->EL,forIn_toList->FN,toList->FY,all_append->Fy
open And renaming intro->DZ
open PySem.Calls renaming Name_function_global->D2,evalArgs_plain->Ej
open Int renaming fdiv_eq_ediv_of_nonneg->D5,emod_lt_of_pos->Do,emod_nonneg->E8,toNat_natCast->F9,mul_one->Gq
open PySem.ScopeKind renaming function->Dn
open PySem.W.Looks renaming ld->EH
open PySem.Builtin.Getset_descriptor renaming descrCheckInstance->EI,descrNameAndClass->ES,descrGetter->Ey,descrGet->FV
open PySem.Txt renaming split->EM
open PySem.Obj renaming mapSeq->EX,data_mapFields->FT
open PySem.Builtin renaming bitAnd->Eh,bitXor->Ei,bitOr->FI
open Sum renaming inl->Eu,inr->Ex
open PySem.Heap.SameBut renaming update->FE,refl->HA
open PySem.Paired renaming length->FH
open PySem.SeqAt.EqAt renaming int_str->FL,str_int->FM
open PySem.W.KF renaming slot_gs->FU
open PySem.WalksT renaming enumerateD->Fa
open PySem.Around renaming in1_units->Fj
open PySem.SeqAt renaming EqAt->GP,shaped->Gi
open True renaming intro->GU
open PySem.Value.ref renaming inj->G6
open PySem.Flow renaming next->Gc
open PySem.Builtin.Range renaming rangeSize->Gd
open PySem.Heap.UpToSlots renaming of_keeps->Ge
open PySem.Data renaming seq->Gu
open PySem.Heap.IsSliceOf renaming new->Gx
open PySem.W.WShape renaming has->Gy
open List.Pairwise renaming nil->Gz
open PySem.W.WData renaming int->HB
noncomputable section
open Lean in
def cnvP:Nat->Syntax->MacroM (TSyntax `rcasesPat)
 |0,_=>Macro.throwUnsupported
 |n+1,s=>do
  if s.isOfKind ``Lean.Parser.Term.anonymousCtor then `(rcasesPat| ⟨$[$(← s[1].getSepArgs.mapM (cnvP n)):rcasesPat],*⟩)
  else if s.isIdent then `(rcasesPat| $(⟨s⟩):ident)
  else if s.isOfKind ``Lean.Parser.Term.hole then `(rcasesPat| _)
  else Macro.throwUnsupported
local macro_rules | `(tactic| let $p:term := $e)=>do `(tactic| obtain $(← cnvP 9 p):rcasesPat := $e)
local macro_rules | `(tactic| erw [$rs,*] $(l)?)=>do
 let t<-rs.getElems.mapM λ|`(Lean.Parser.Tactic.rwRule| $t:term)=>`(Lean.Parser.Tactic.simpLemma| $t:term)|_=>Lean.Macro.throwUnsupported
 `(tactic| simp only[$t,*] $(l)?)
local macro_rules | `(fun $bs* => $b)=>do
 if !(bs.any λx=>x.raw.isOfKind ``Lean.Parser.Term.anonymousCtor)||(b.raw.find? λx=>x.isOfKind ``Lean.Parser.Term.syntheticHole).isSome then Lean.Macro.throwUnsupported
 `(by rintro $[$(← bs.mapM λx=>cnvP 9 x.raw):rcasesPat]*;exact $b)
set_option backward.eqns.nonrecursive false
local macro_rules (kind:=Lean.Parser.Command.declaration)
 |s=>do
  let k:=s[1].getKind
  unless (k==``Lean.Parser.Command.definition||k==``Lean.Parser.Command.abbrev)&&s[0].getArgs.all (·.isNone) do Lean.Macro.throwUnsupported
  if k==``Lean.Parser.Command.definition&&(toString s[1][1][0].getId).startsWith "z" then
   let m←`(theorem x:True:=trivial)
   return s.setArg 1 (((m.raw[1].setArg 1 s[1][1]).setArg 2 (Lean.mkNode ``Lean.Parser.Command.declSig #[s[1][2][0],s[1][2][1][0]])).setArg 3 s[1][3])
  let m←`(noncomputable def x:=0)
  return s.setArg 0 m.raw[0]
namespace L2
open PySem PySem.Spec PyProof.Rows
abbrev Key:=Sum Int AN
def yaV:Key->AF->Bool
 |.inl k,v=>Go k v
 |.inr x,v=>GZ x v
def yeC(w:Aa):Key->Int
 |.inl k=>hashInt k
 |.inr x=>hashStr w x
def ze:∀{k:Key} {v:AF},yaV k v=AC->(∃i t,k=Eu i/\v=G9 i t) \/ (∃x t,k=Ex x/\v=Ga x t)
 |.inl i,v,h=>by
  let⟨t,e⟩:=Value.isInt_shape (k:=i) (v:=v) h;exact .inl ⟨i,t,rfl,e⟩
 |.inr x,v,h=>by
  let⟨t,e⟩:=Value.isStrOf_shape (x:=x) (v:=v) h;exact .inr ⟨x,t,rfl,e⟩
def zd3(i:Int)(t:GX):yaV (.inl i) (.int i t)=true:=by simp[yaV,Go]
def zeI(x:AN)(t:GX):yaV (.inr x) (.str x t)=true:=by simp[yaV,GZ]
def ziS(a b:Int):decide ((Eu a:Key)=Eu b)=(a==b):=by
 by_cases e:a=b
 .subst e;simp
 .have h:¬(Eu a:Key)=Eu b:=λq=>e (Sum.inl.inj q);rw[decide_eq_false h];exact(beq_eq_false_iff_ne.mpr e).symm
def ziQ(a b:AN):decide ((Ex a:Key)=Ex b)=decide (a=b):=by
 by_cases e:a=b
 .subst e;simp
 .have h:¬(Ex a:Key)=Ex b:=λq=>e (Sum.inr.inj q);rw[decide_eq_false h,decide_eq_false e]
def zjj(a:Int)(b:AN):decide ((Eu a:Key)=Ex b)=false:=decide_eq_false (λq=>nomatch q)
def zjm(a:AN)(b:Int):decide ((Ex a:Key)=Eu b)=false:=decide_eq_false (λq=>nomatch q)
def yaa(prog:A3)(w:Aa):PySem.KeyKind prog w Key where
 is:=yaV
 hash:=yeC w
 inj:=λv a b ha hb=>by
  rcases ze ha with⟨i,t,rfl,rfl⟩|⟨x,t,rfl,rfl⟩
  .rcases ze hb with⟨j,u,rfl,e⟩|⟨y,u,rfl,e⟩
   .injection e with e1 _;rw[e1]
   .exact nomatch e
  .rcases ze hb with⟨j,u,rfl,e⟩|⟨y,u,rfl,e⟩
   .exact nomatch e
   .injection e with e1 _;rw[e1]
 byValue:=λk v h=>by
  rcases ze h with⟨i,t,rfl,rfl⟩|⟨x,t,rfl,rfl⟩<;>rfl
 pyHash:=λhv h=>by
  rcases ze hv with⟨i,t,rfl,rfl⟩|⟨x,t,rfl,rfl⟩
  .exact wpAny_pyHash_int h
  .exact wpAny_pyHash_str h
 eqBool:=λhu hv h=>by
  rcases ze hu with⟨i,t,rfl,rfl⟩|⟨x,t,rfl,rfl⟩
  .rcases ze hv with⟨j,u,rfl,rfl⟩|⟨y,u,rfl,rfl⟩
   .rw[ziS]at h;exact wpAny_eqBool_int h
   .rw[zjj]at h;exact FL i t y u _ _ _ _ h
  .rcases ze hv with⟨j,u,rfl,rfl⟩|⟨y,u,rfl,rfl⟩
   .rw[zjm]at h;exact FM x t j u _ _ _ _ h
   .rw[ziQ]at h;exact wpAny_eqBool_str h
 «strs»:=λk x t v h=>by
  rcases ze h with⟨i,u,rfl,e⟩|⟨y,u,rfl,e⟩
  .exact nomatch e
  .injection e with e1 _;subst e1
   cases v<;>rfl
def zbY(prog:A3)(w:Aa)(i:Int)(t:GX):(yaa prog w).is (.inl i) (.int i t)=true:=zd3 i t
def zb9(prog:A3)(w:Aa)(x:AN)(t:GX):(yaa prog w).is (.inr x) (.str x t)=true:=zeI x t
end L2
namespace L2
open PySem
inductive NK where
 |a (k:Key)
 |t (l:List NK)
noncomputable instance:DecidableEq NK:=λ_ _=>Classical.propDecidable _
mutual
def NI(h:An):NK->AF->Prop
 |.a k,v=>yaV k v=AC
 |.t l,v=>∃(b:AG) (its:List AF),v=.ref b/\h.get? b=AA {cls:=.type "tuple",data:=.seq its.toArray}/\NIs h l its
def NIs(h:An):List NK->List AF->Prop
 |[],vs=>vs=[]
 |k::l,vs=>∃v r,vs=v::r/\NI h k v/\NIs h l r
end
mutual
def nkH(w:Aa):NK->Int
 |.a k=>yeC w k
 |.t l=>reduceHash (Dp (ycM w l))
def ycM(w:Aa):List NK->List Int
 |[]=>[]
 |k::l=>nkH w k::ycM w l
end
mutual
def nkN:NK->Nat
 |.a _=>1
 |.t l=>ydj l+1
def ydj:List NK->Nat
 |[]=>0
 |k::l=>nkN k+ydj l
end
mutual
def nkD:NK->GI
 |.a (.inl i)=>.int i
 |.a (.inr x)=>.str x
 |.t l=>.tuple (yaL l)
def yaL:List NK->List GI
 |[]=>[]
 |k::l=>nkD k::yaL l
end
section
variable {prog:A3}{w:Aa}{E:AF->AH->Prop}
mutual
theorem zeT:∀(k:NK) (v:AF) (A:A8) (s:AH) (Q:Int->AH->Prop),NI s.heap k v->A.units+(nkD k).depth<cLine->Q (nkH w k) {s with toks:=s.toks+nkN k}->A2 (model prog w) A (pyHash v) Q E s
 |.a k,v,A,s,Q,hi,_,h=>(yaa prog w).pyHash (k:=k) hi h
 |.t l,v,A,s,Q,hi,hu,h=>by
  let⟨b,its,rfl,g,hs⟩:=hi;erw[nkD,BS]at hu;refine PySem.W.pyHash_slot (T:="tuple") ⟨_,g,rfl⟩ F.slot_tuple_hash F.entry_tuple_hash (F.args_tuple_hash_1 _) (beq_builtin_none _) (.inr ∅) ?_;show A2 _ _ (C1 (.ref b) >>= _) _ _ s;refine AI (wpAny_tupleItemsOf g rfl ?_);refine AI ?_;rw[<-FN];refine zdu l its A.in1 s #[] _ hs (by erw[Fj];lia) λb' hb=>?_;show A2 _ _ (retInt (Dp b'.toList)) _ _ _;rw[hb];exact AI (wpAny_mkInt (AO ⟨_,_,rfl,h⟩))
theorem zdu:∀(l:List NK) (vs:List AF) (A:A8) (s:AH) (b:Array Int) (Q:Array Int->AH->Prop),NIs s.heap l vs->A.units+BO (yaL l)<cLine ->
  (∀b',b'.toList=b.toList++ycM w l->Q b' {s with toks:=s.toks+ydj l}) ->
  A2 (model prog w) A (forIn vs b λx r=>do let h <-pyHash x;pure DD;pure (DN (r.push h))) Q E s
 |[],vs,A,s,b,Q,hi,_,h=>by
  cases (show vs=[]from hi)
  exact AO (h b (by simp[ycM]))
 |k::l,vs,A,s,b,Q,hi,hu,h=>by
  let⟨v,r,rfl,h1,h2⟩:=hi;erw[yaL,BO]at hu;rw[E4];refine AI (AI (zeT k v A s _ h1 ∅ ?_));refine AI (AO (AO ?_));refine zdu l r A _ _ Q h2 ∅ λb' hb=>?_;have:=h b' (by simp[hb,ycM]);simpa [ydj,G0] using this
end
mutual
theorem zbc{h:An}:∀(k:NK) (v:AF),NI h k v->∃as,Gp h v (nkD k) as
 |.a (.inl i),v,hi=>by
  rcases ze hi with⟨j,t,e,rfl⟩|⟨x,t,e,rfl⟩
  .cases e;exact⟨_,.int _ _⟩
  .cases e
 |.a (.inr x),v,hi=>by
  rcases ze hi with⟨j,t,e,rfl⟩|⟨y,t,e,rfl⟩
  .cases e
  .cases e;exact⟨_,.str _ _⟩
 |.t l,v,hi=>by
  let⟨b,its,rfl,g,hs⟩:=hi;let⟨as,r⟩:=zbx l its hs;exact⟨as,.tuple g rfl rfl (by simpa using r)⟩
theorem zbx{h:An}:∀(l:List NK) (vs:List AF),NIs h l vs->∃as,ReadsAll h vs (yaL l) as
 |[],vs,hi=>by cases (show vs=[]from hi);exact⟨_,.nil⟩
 |k::l,vs,hi=>by
  let⟨v,r,rfl,h1,h2⟩:=hi;let⟨a1,r1⟩:=zbc k v h1;let⟨a2,r2⟩:=zbx l r h2;exact⟨_,.cons r1 r2⟩
end
mutual
theorem zgi:∀a b:NK,BP (nkD a) (nkD b)=decide (a=b)
 |.a (.inl i),.a (.inl j)=>by erw[nkD,BP];by_cases e:i=j<;>simp[e]
 |.a (.inl i),.a (.inr j)=>by simp[nkD,BP]
 |.a (.inr i),.a (.inl j)=>by simp[nkD,BP]
 |.a (.inr i),.a (.inr j)=>by erw[nkD,BP];by_cases e:i=j<;>simp[e]
 |.a (.inl i),.t l=>by simp[nkD,BP]
 |.a (.inr i),.t l=>by simp[nkD,BP]
 |.t l,.a (.inl i)=>by simp[nkD,BP]
 |.t l,.a (.inr i)=>by simp[nkD,BP]
 |.t l,.t m=>by erw[nkD,BP,zd2 l m];by_cases e:l=m<;>simp[e]
theorem zd2:∀a b:List NK,CU (yaL a) (yaL b)=decide (a=b)
 |[],[]=>by simp[yaL,CU]
 |[],_::_=>by simp[yaL,CU]
 |_::_,[]=>by simp[yaL,CU]
 |a::l,b::m=>by
  erw[yaL,CU,zgi a b,zd2 l m]
  by_cases e:a=b<;>by_cases f:l=m<;>simp[e,f]
end
mutual
theorem zc0:∀(k:NK) (v:AF) (n:Nat) (A:A8) (s:AH) (Q:Bool->AH->Prop),NI s.heap k v->(nkD k).depth<=n->Q AC s->A2 (model prog w) A (eqIsQuiet n v) Q E s
 |.a k,v,n,A,s,Q,hi,_,h=>by
  rw[eqIsQuiet_byValue n ((yaa prog w).byValue k v hi)];exact AO h
 |.t l,v,n,A,s,Q,hi,hd,h=>by
  let⟨b,its,rfl,g,hs⟩:=hi;erw[nkD,BS]at hd;obtain⟨m,rfl⟩:∃m,n=m+1:=⟨n-1,by lia⟩;unfold eqIsQuiet;refine AI (GB (T:="tuple") ⟨_,g,rfl⟩ F.slot_tuple_eq.lookup ?_);show A2 _ _ (isInstance (.ref b) (.type "tuple") >>= _) _ _ s;refine AI (wpAny_isInstance (T:="tuple") ⟨_,g,rfl⟩ isSubtype_tuple_tuple ?_);erw[G1,Cm,if_false];refine AI (Ee g rfl ?_);refine AI ?_;show A2 _ _ (forIn its.toArray _ _) _ _ s;rw[<-FN];refine zbm l its m A s _ hs ∅ ?_;exact AO h
theorem zbm:∀(l:List NK) (vs:List AF) (n:Nat) (A:A8) (s:AH) (Q:Option Bool×PUnit->AH->Prop),NIs s.heap l vs->BO (yaL l)<=n->Q (AB,DD) s ->
  A2 (model prog w) A (forIn vs (AB,DD) λy r=>do
   let b <-eqIsQuiet n y
   if (!b)=AC then pure (ForInStep.done (AA AE,DD))else do
    pure DD
    pure (DN (AB,DD))) Q E s
 |[],vs,n,A,s,Q,hi,_,h=>by
  cases (show vs=[]from hi)
  exact AO h
 |k::l,vs,n,A,s,Q,hi,hd,h=>by
  let⟨v,r,rfl,h1,h2⟩:=hi;erw[yaL,BO]at hd;rw[E4];refine AI (AI (zc0 k v n A s _ h1 ∅ ?_));erw[G1,Cm,if_false];refine AI (AO (AO ?_));exact zbm l r n A s Q h2 ∅ h
end
mutual
theorem zgm{h:An}:∀(a b:NK) (v:AF),NI h a v->NI h b v->a=b
 |.a k,.a j,v,x,y=>by
  rcases ze x with⟨_,_,rfl,rfl⟩|⟨_,_,rfl,rfl⟩<;>rcases ze y with⟨_,_,rfl,e⟩|⟨_,_,rfl,e⟩<;>cases e<;>rfl
 |.a k,.t l,v,x,y=>by
  let⟨b,its,rfl,_⟩:=y;rcases ze x with⟨_,_,_,e⟩|⟨_,_,_,e⟩<;>cases e
 |.t l,.a k,v,x,y=>by
  let⟨b,its,rfl,_⟩:=x;rcases ze y with⟨_,_,_,e⟩|⟨_,_,_,e⟩<;>cases e
 |.t l,.t m,v,x,y=>by
  let⟨b,its,rfl,g,hs⟩:=x;let⟨b',its',e,g',hs'⟩:=y
  cases e
  rw[g]at g';injection g' with g';injection g' with _ _ g' _;injection g' with g' _;have e2:its=its':=by simpa using congrArg FY g'
  subst e2;rw[zeC l m its hs hs']
theorem zeC{h:An}:∀(a b:List NK) (vs:List AF),NIs h a vs->NIs h b vs->a=b
 |[],[],_,_,_=>rfl
 |[],_::_,vs,x,y=>by
  cases (show vs=[]from x)
  let⟨_,_,e,_⟩:=y;cases e
 |_::_,[],vs,x,y=>by
  cases (show vs=[]from y)
  let⟨_,_,e,_⟩:=x;cases e
 |a::l,b::m,vs,x,y=>by
  let⟨v,r,rfl,h1,h2⟩:=x;let⟨_,_,e,h3,h4⟩:=y
  cases e
  rw[zgm a b v h1 h3,zeC l m r h2 h4]
end
end
mutual
theorem NI.stay{h h':An}(k:∀b its,h.get? b=AA {cls:=.type "tuple",data:=.seq its}->h'.get? b=AA {cls:=.type "tuple",data:=.seq its}):∀(a:NK) (v:AF),NI h a v->NI h' a v
 |.a _,_,x=>x
 |.t l,v,x=>by
  let⟨b,its,e,g,hs⟩:=x;exact⟨b,its,e,k _ _ g,NIs.stay k l its hs⟩
theorem NIs.stay{h h':An}(k:∀b its,h.get? b=AA {cls:=.type "tuple",data:=.seq its}->h'.get? b=AA {cls:=.type "tuple",data:=.seq its}):∀(a:List NK) (vs:List AF),NIs h a vs->NIs h' a vs
 |[],_,x=>x
 |a::l,vs,x=>by
  let⟨v,r,e,h1,h2⟩:=x;exact⟨v,r,e,NI.stay k a v h1,NIs.stay k l r h2⟩
end
def ydk(l:List NK):Prop:=Bt (yaL l)=AC/\BO (yaL l)<=6
def yaO(P:A3)(w:Aa):HeapKind P w (List NK) where
 is:=λh l a=>NI h (.t l) (.ref a)/\ydk l
 hash:=λl=>nkH w (.t l)
 draws:=λl=>nkN (.t l)
 room:=λA=>A.units+8<cLine
 inj:=λx y=>by have e:=zgm _ _ _ x.1 y.1;injection e
 keeps:=λx ho hd hs=>⟨NI.stay (λb its g=>(hs.2 b (λe=>by subst e;rw[ho]at g;cases g;cases hd)).trans g) _ _ x.1,x.2⟩
 pyHash:=λhu x h=>zeT _ _ _ _ _ x.1 (by have:=x.2.2;erw[nkD,BS];lia) h
 eqBool:=λ{A E s x y a b Q} hu hx hy h=>by
  let⟨as,ra⟩:=zbc _ _ hx.1;let⟨bs,rb⟩:=zbc _ _ hy.1;refine SeqAt.eqBoolOverData P w A E s _ _ _ _ as bs Q ra rb (by erw[nkD,B9];exact hx.2.1) (by erw[nkD,B9];exact hy.2.1) (by have:=hx.2.2;erw[nkD,BS];lia) ?_;rw[zgi];have:decide (NK.t x=NK.t y)=decide (x=y):=by by_cases e:x=y<;>simp[e]
  rw[this];exact h
 quiet:=λx h=>zc0 _ _ _ _ _ _ x.1 (by have:=x.2.2;erw[nkD,BS];lia) h
end L2
namespace L2
open PySem PySem.Spec PyProof.Rows
inductive V where
 |non|bl (b:Bool)|int (i:Int)|str (x:AN)|byt (b:Array UInt8)|flt (b:UInt64)|ref (a:AG)|ty (n:String)
 deriving DecidableEq
def RelV:V->AF->Prop
 |.non,u=>u=By
 |.bl b,u=>u=GJ b
 |.int i,u=>∃t,u=G9 i t
 |.str x,u=>∃t,u=Ga x t
 |.byt b,u=>∃t,u=Value.bytes b t
 |.flt b,u=>∃t,u=Value.float b t
 |.ref a,u=>u=Au a
 |.ty n,u=>u=FO n
abbrev Vals:List V->List AF->Prop:=GL RelV
theorem Vals.length{xs:List V}{us:List AF}(r:Vals xs us):xs.length=us.length:=FH r
theorem Vals.get:∀{xs:List V} {us:List AF} {i:Nat} {x:V},Vals xs us->xs[i]?=AA x->∃u,us[i]?=AA u/\RelV x u
 |_,_,_,_,.nil,e=>by simp at e
 |_,_,0,_,.cons r _,e=>by simp at e;subst e;exact⟨_,rfl,r⟩
 |_,_,i+1,x,.cons _ t,e=>by
  let⟨u,h1,h2⟩:=Vals.get (i:=i) (x:=x) t (by simpa using e);exact⟨u,by simpa using h1,h2⟩
theorem Vals.set{x:V}{u:AF}(r:RelV x u):∀{xs:List V} {us:List AF} (i:Nat),Vals xs us->Vals (xs.set i x) (us.set i u)
 |_,_,_,.nil=>.nil
 |_,_,0,.cons _ t=>.cons r t
 |_,_,i+1,.cons q t=>.cons q (Vals.set r i t)
theorem Vals.append:∀{xs ys:List V} {us ws:List AF},Vals xs us->Vals ys ws->Vals (xs++ys) (us++ws)
 |_,_,_,_,.nil,s=>s
 |_,_,_,_,.cons r t,s=>.cons r (Vals.append t s)
theorem Vals.take:∀{xs:List V} {us:List AF} (n:Nat),Vals xs us->Vals (xs.take n) (us.take n)
 |_,_,0,_=>.nil
 |_,_,_+1,.nil=>.nil
 |_,_,n+1,.cons r t=>.cons r (Vals.take n t)
theorem Vals.drop:∀{xs:List V} {us:List AF} (n:Nat),Vals xs us->Vals (xs.drop n) (us.drop n)
 |_,_,0,r=>r
 |_,_,_+1,.nil=>.nil
 |_,_,n+1,.cons _ t=>Vals.drop n t
def ybq:Option V->Option AF->Prop
 |some v,AA u=>RelV v u
 |none,AB=>True
 |_,_=>False
def KV{κ:Type}:List (κ×V)->List (κ×AF)->Prop:=GL λ(p:κ×V) (q:κ×AF)=>p.1=q.1/\RelV p.2 q.2
def kV:Key->V
 |.inl i=>.int i
 |.inr x=>.str x
inductive HO where
 |lst (xs:List V)
 |tup (xs:List V)
 |dK (kvs:List (Key×V))|dT (kvs:List (List NK×V))
 |set (S:Int->Bool) (n:Nat)
 |ins (C dx:AG) (fs:List (AN×V))
 |own (x:AG)
 |xd (fs:List (AN×V))
 |met (f x:AG)
 |rng (lo hi:Int)
 |frz (o:BR) (u:HO)
 |tbl (ps:Array AF)
 |ext (φ:An->Prop)
abbrev Hp:=AG->Option HO
def upd(H:Hp)(a:AG)(o:HO):Hp:=λb=>if b=a then AA o else H b
def zd{H:Hp}{a:AG}{o:HO}:upd H a o a=AA o:=by unfold upd;rw[if_pos rfl]
def za{H:Hp}{a b:AG}{o:HO}(h:b≠a):upd H a o b=H b:=by unfold upd;rw[if_neg h]
theorem upd_upd{H:Hp}{a:AG}{o u:HO}:upd (upd H a o) a u=upd H a u:=by
 funext b;unfold upd;split<;>rfl
def zkw{H:Hp}{a b:AG}{o u:HO}(h:H a=AA o)(h':H b=AA u)(d:o≠u):a≠b:=by
 intro e;subst e;rw[h]at h';exact d (AU h')
def zc{H:Hp}{a b:AG}{o:HO}(h:H a=AA o)(h':H b=AB):a≠b:=by
 intro e;subst e;rw[h]at h';cases h'
mutual
def NKr(H:Hp):NK->V->Prop
 |.a k,v=>v=kV k
 |.t l,v=>∃(b:AG) (xs:List V),v=.ref b/\H b=AA (.tup xs)/\NKs H l xs
def NKs(H:Hp):List NK->List V->Prop
 |[],xs=>xs=[]
 |k::l,xs=>∃y ys,xs=y::ys/\NKr H k y/\NKs H l ys
end
def KyR(H:Hp)(l:List NK)(b:AG):Prop:=NKr H (.t l) (.ref b)/\ydk l
mutual
theorem NKr.stay{H H':Hp}(k:∀b xs,H b=AA (.tup xs)->H' b=AA (.tup xs)):∀(a:NK) (v:V),NKr H a v->NKr H' a v
 |.a _,_,x=>x
 |.t l,v,x=>by
  let⟨b,xs,e,g,hs⟩:=x;exact⟨b,xs,e,k _ _ g,NKs.stay k l xs hs⟩
theorem NKs.stay{H H':Hp}(k:∀b xs,H b=AA (.tup xs)->H' b=AA (.tup xs)):∀(a:List NK) (xs:List V),NKs H a xs->NKs H' a xs
 |[],_,x=>x
 |a::l,xs,x=>by
  let⟨y,ys,e,h1,h2⟩:=x;exact⟨y,ys,e,NKr.stay k a y h1,NKs.stay k l ys h2⟩
end
theorem KyR.stay{H H':Hp}{l:List NK}{b:AG}(x:KyR H l b)(k:∀b xs,H b=AA (.tup xs)->H' b=AA (.tup xs)):KyR H' l b:=⟨NKr.stay k _ _ x.1,x.2⟩
section
variable (P:A3)(w:Aa)
def yG(H:Hp)(h:An)(a:AG):HO->Prop
 |.lst xs=>xs.length<=sizeLine/\∃(its:List AF) (n:Nat),Vals xs its/\h.get? a=AA {cls:=.type "list",data:=.seq its.toArray n}
 |.tup xs=>xs.length<=sizeLine/\∃its:List AF,Vals xs its/\h.get? a=AA {cls:=.type "tuple",data:=.seq its.toArray}
 |.dK kvs=>kvs.length<=sizeLine/\(a==sysModules)=AE/\∃vs,KV kvs vs/\h.DictOf (yaa P w) a vs
 |.dT kvs=>kvs.length<=sizeLine/\(a==sysModules)=AE/\∃xs:List (List NK×AG×AF),
   GL (λ(p:List NK×V) (q:List NK×AG×AF)=>p.1=q.1/\KyR H p.1 q.2.1/\RelV p.2 q.2.2) kvs xs /\
   ∃o es ep,h.get? a=AA o/\o.ExactDict/\o.data=.dict es ep/\es.toList=xs.map (entryOfKey (yaO P w))/\(xs.map (·.1)).Nodup
 |.set S n=>h.SetOf (intKind P w) a S n
 |.ins C dx fs=>H dx=AA (.own a)/\fs.length<=1000/\dx≠a/\h.get? a=AA (PySem.W.instObj C dx) /\
   ∃mA,h.Ns1 dx mA/\(∀f,ybq (fs.lookup f) (mA f))/\PySem.Within mA (fs.map (·.1))
 |.own _=>∃o,h.get? a=AA o
 |.xd fs=>∃mA,h.Ns1 a mA/\∀f,ybq (fs.lookup f) (mA f)
 |.rng lo hi=>∃t u v,h.get? a=AA {cls:=.type "range",data:=.fields #[.int lo t,.int hi u,.int 1 v]}
 |.frz o u=>h.get? a=AA o/\yG H h a u
 |.tbl ps=>h.get? a=AA {cls:=.none,data:=.fields ps}
 |.met f x=>h.get? a=AA (Dt (.ref f) (.ref x))
 |.ext φ=>φ h/\(∃o,h.get? a=AA o)/\∀h1 h2:An,φ h1->(∀o,h1.get? a=AA o->h2.get? a=AA o)->φ h2
def HOk(H:Hp)(h:An):Prop:=∀a o,H a=AA o->yG P w H h a o
end
section
variable {P:A3}{w:Aa}{H H':Hp}{h h':An}{a:AG}{o:HO}
theorem yG.lt(x:yG P w H h a o):a<h.objs.size:=by
 cases o with
 |lst xs=>let⟨_,_,_,_,e⟩:=x;exact AX e
 |tup xs=>let⟨_,_,_,p⟩:=x;exact AX p
 |dK kvs=>let⟨_,_,_,_,o,_,_,e,_⟩:=x;exact AX e
 |dT kvs=>let⟨_,_,_,_,o,_,_,e,_⟩:=x;exact AX e
 |set S n=>let⟨o,_,_,_,e,_⟩:=x;exact AX e
 |ins C dx fs=>let⟨_,_,_,e,_⟩:=x;exact AX e
 |own y=>let⟨_,e⟩:=x;exact AX e
 |xd fs=>let⟨_,⟨_,_,_,e,_⟩,_⟩:=x;exact AX e
 |rng lo hi=>let⟨_,_,_,e⟩:=x;exact AX e
 |frz ob u=>let⟨e,_⟩:=x;exact AX e
 |tbl ps=>exact AX (show h.get? a=AA _ from x)
 |met f y=>exact AX (show h.get? a=AA _ from x)
 |ext φ=>let⟨_,⟨_,e⟩,_⟩:=x;exact AX e
theorem Paired.mapP{α β:Type}{F G:α->β->Prop}:∀{l₁:List α} {l₂:List β},GL F l₁ l₂->(∀a b,F a b->G a b)->GL G l₁ l₂
 |_,_,.nil,_=>.nil
 |_,_,.cons r t,f=>.cons (f _ _ r) (Paired.mapP t f)
theorem yG.stay(x:yG P w H h a o)(k:∀b u,(b=a \/ H b=AA (.own a))->h.get? b=AA u->h'.get? b=AA u)
  (ho:∀b,H b=AA (.own a)->H' b=AA (.own a)) (ht:∀b xs,H b=AA (.tup xs)->H' b=AA (.tup xs)):yG P w H' h' a o:=by
 induction o with
 |lst xs=>let⟨z,its,n,r,e⟩:=x;exact⟨z,its,n,r,k _ _ (.inl rfl) e⟩
 |tup xs=>let⟨z,its,r,e⟩:=x;exact⟨z,its,r,k _ _ (.inl rfl) e⟩
 |dK kvs=>let⟨z,y,vs,r,ob,es,ep,e,c⟩:=x;exact⟨z,y,vs,r,ob,es,ep,k _ _ (.inl rfl) e,c⟩
 |dT kvs=>
  let⟨z,y,xs,r,ob,es,ep,e,c⟩:=x;exact⟨z,y,xs,Paired.mapP r λp q z=>⟨z.1,z.2.1.stay ht,z.2.2⟩,ob,es,ep,k _ _ (.inl rfl) e,c⟩
 |set S n=>let⟨ob,es,ep,t,e,c⟩:=x;exact⟨ob,es,ep,t,k _ _ (.inl rfl) e,c⟩
 |ins C dx fs=>
  let⟨d,z,ne,e,mA,⟨od,es,ep,e2,c⟩,r⟩:=x;exact⟨ho _ d,z,ne,k _ _ (.inl rfl) e,mA,⟨od,es,ep,k _ _ (.inr d) e2,c⟩,r⟩
 |own y=>let⟨ob,e⟩:=x;exact⟨ob,k _ _ (.inl rfl) e⟩
 |xd fs=>let⟨mA,⟨od,es,ep,e,c⟩,r⟩:=x;exact⟨mA,⟨od,es,ep,k _ _ (.inl rfl) e,c⟩,r⟩
 |rng lo hi=>let⟨t,u,v,e⟩:=x;exact⟨t,u,v,k _ _ (.inl rfl) e⟩
 |frz ob u ih=>let⟨e,q⟩:=x;exact⟨k _ _ (.inl rfl) e,ih q⟩
 |tbl ps=>
  have e:h.get? a=AA {cls:=.none,data:=.fields ps}:=x;show h'.get? a=AA {cls:=.none,data:=.fields ps};exact k a _ (.inl rfl) e
 |met f y=>
  have e:h.get? a=AA (Dt (.ref f) (.ref y)):=x;show h'.get? a=AA (Dt (.ref f) (.ref y));exact k a _ (.inl rfl) e
 |ext φ=>let⟨p,⟨o,e⟩,st⟩:=x;exact⟨st _ _ p λo q=>k _ _ (.inl rfl) q,⟨o,k _ _ (.inl rfl) e⟩,st⟩
theorem HOk.lt(x:HOk P w H h)(e:H a=AA o):a<h.objs.size:=(x a o e).lt
theorem HOk.fresh(x:HOk P w H h)(e:h.objs.size<=a):H a=none:=by
 cases q:H a with
 |none=>rfl
 |some u=>exact absurd (A0 (x.lt q) e) (Bi _)
theorem HOk.kept(x:HOk P w H h)(k:∀b u,h.get? b=AA u->h'.get? b=AA u):HOk P w H h':=λa o e=>
 (x a o e).stay (λb u _ q=>k b u q) (λ_ q=>q) λ_ _ q=>q
theorem HOk.laid(x:HOk P w H h)(k:∀b u,h.get? b=AA u->h'.get? b=AA u)(hp:h.objs.size<=a)(new:yG P w (upd H a o) h' a o):HOk P w (upd H a o) h':=λb u e=>by
 have hn:=x.fresh hp
 by_cases hb:b=a
 .subst hb;rw[zd]at e;cases e;exact new
 .rw[za hb]at e;exact(x b u e).stay (λc v _ q=>k c v q) (λc q=>by rw[za (zc q hn)];exact q) λc xs q=>by rw[za (zc q hn)];exact q
end
def Rd(H:Hp)(a:AG)(u:HO):Prop:=H a=AA u \/ ∃o,H a=AA (.frz o u)
theorem Rd.of{H:Hp}{a:AG}{u:HO}(h:H a=AA u):Rd H a u:=.inl h
theorem Rd.ok{P:A3}{w:Aa}{H:Hp}{h:An}{a:AG}{u:HO}(r:Rd H a u)(x:HOk P w H h):yG P w H h a u:=by
 rcases r with r|⟨o,r⟩
 .exact x a u r
 .let⟨_,q⟩:=x a _ r;exact q
def Mut:Option HO->Prop
 |some (.lst _)=>True
 |some (.dK _)=>True
 |some (.dT _)=>True
 |some (.set _ _)=>True
 |some (.ins _ _ _)=>True
 |some (.ext _)=>True
 |_=>False
section
variable {P:A3}{w:Aa}{H:Hp}{h h':An}{x e:AG}{o':HO}
theorem HOk.write(ok:HOk P w H h)(mu:Mut (H x))(he:e=x \/ H e=AA (.own x))(k:∀b u,b≠e->h.get? b=AA u->h'.get? b=AA u)(heo:∃u,h'.get? e=AA u)
  (new:yG P w (upd H x o') h' x o'):HOk P w (upd H x o') h':=λb u q=>by
 have nown:∀c y,H c=AA (.own y)->c≠x:=λc y r z=>by subst z;rw[r]at mu;exact mu
 have ntup:∀c xs,H c=AA (.tup xs)->c≠x:=λc xs r z=>by subst z;rw[r]at mu;exact mu
 by_cases hb:b=x
 .subst hb;rw[zd]at q;cases q;exact new
 .rw[za hb]at q
  by_cases hbe:b=e
  .have q':H b=AA (.own x):=by
    rcases he with z|z
    .exact absurd (hbe.trans z) hb
    .rw[hbe];exact z
   rw[q]at q';cases q';let⟨v,hv⟩:=heo;exact⟨v,by rw[hbe];exact hv⟩
  .refine(ok b u q).stay (λc v hc r=>k c v ?_ r) (λc r=>by rw[za (nown c b r)];exact r) λc xs r=>by rw[za (ntup c xs r)];exact r
   rcases hc with rfl|hc
   .exact hbe
   .rintro rfl
    rcases he with z|z
    .exact nown c b hc z
    .rw[hc]at z;cases z;exact hb rfl
end
structure Un(fs ex:List AG)(H H':Hp)(h h':An):Prop where
 keep:∀b o,h.get? b=AA o->H b=AB->b∉fs->b∉ex->h'.get? b=AA o
 slot:∀b o,h.get? b=AA o->H b=AB->b∈fs->b∉ex->∃sl,h'.get? b=AA {o with slots:=sl}
 free:∀b o,h.get? b=AA o->H b=AB->b∉ex->H' b=AB
 there:∀b o,h.get? b=AA o->b∉ex->∃o',h'.get? b=AA o'
 tups:∀b xs,H b=AA (.tup xs)->H' b=AA (.tup xs)
 frzs:∀b o u,H b=AA (.frz o u)->H' b=AA (.frz o u)
 tbls:∀b ps,H b=AA (.tbl ps)->∃more,H' b=AA (.tbl (ps++more))
section
variable {fs fs' ex ex':List AG}{H H1 H2:Hp}{h h1 h2 h':An}{a x e:AG}{o:HO}
theorem Un.any(u:Un fs ex H H1 h h1){b:AG}{ob:BR}(q:h.get? b=AA ob)(n:H b=AB)(hx:b∉ex):∃sl,h1.get? b=AA {ob with slots:=sl}:=by
 by_cases hb:b∈fs
 .exact u.slot b ob q n hb hx
 .exact⟨ob.slots,u.keep b ob q n hb hx⟩
theorem Un.kept(k:∀b u,h.get? b=AA u->h'.get? b=AA u):Un fs ex H H h h':=
 ⟨λb ob q _ _ _=>k b ob q,λb ob q _ _ _=>⟨ob.slots,k b ob q⟩,λ_ _ _ n _=>n,λb ob q _=>⟨ob,k b ob q⟩,λ_ _ q=>q,λ_ _ _ q=>q,λ_ ps q=>⟨#[],by rw[q];simp⟩⟩
theorem Un.refl:Un fs ex H H h h:=Un.kept λ_ _ q=>q
theorem Un.laid(k:∀b u,h.get? b=AA u->h'.get? b=AA u)(hp:h.objs.size<=a)(hn:H a=AB):Un fs ex H (upd H a o) h h' where
 keep:=λb u q _ _ _=>k b u q
 slot:=λb u q _ _ _=>⟨u.slots,k b u q⟩
 free:=λb u q n _=>by rw[za (Af (A0 (AX q) hp))];exact n
 there:=λb u q _=>⟨u,k b u q⟩
 tups:=λb xs q=>by rw[za (zc q hn)];exact q
 frzs:=λb u xs q=>by rw[za (zc q hn)];exact q
 tbls:=λb ps q=>⟨#[],by rw[za (zc q hn),q];simp⟩
theorem Un.write(mu:Mut (H x))(he:e=x \/ H e=AA (.own x))(k:∀b u,b≠e->h.get? b=AA u->h'.get? b=AA u)(heo:∃u,h'.get? e=AA u):Un fs ex H (upd H x o) h h':=by
 have hx:∀b,H b=AB->b≠x:=λb n z=>by subst z;rw[n]at mu;exact mu
 have hb:∀b,H b=AB->b≠e:=λb n z=>by
  subst z;rcases he with r|r
  .exact hx b n r
  .rw[n]at r;cases r
 have hm:∀b u,H b=AA u->¬Mut (AA u)->b≠x:=λb u q nm z=>by subst z;rw[q]at mu;exact nm mu
 refine⟨λb u q n _ _=>k b u (hb b n) q,λb u q n _ _=>⟨u.slots,k b u (hb b n) q⟩,λb u q n _=>by rw[za (hx b n)];exact n,λb u q _=>?_,
  λb xs q=>by rw[za (hm b _ q λz=>z)];exact q,λb u xs q=>by rw[za (hm b _ q λz=>z)];exact q,λb ps q=>⟨#[],by rw[za (hm b _ q λz=>z),q];simp⟩⟩
 by_cases hbe:b=e
 .subst hbe;exact heo
 .exact⟨u,k b u hbe q⟩
end
def trk(h:An)(H:Hp):List Addr:=(DE h.objs.size).filter λa=>(H a).isSome
def ybQ(h:An)(H:Hp):Heap:=Ch h (trk h H)
def ze7(h:An)(H:Hp):(ybQ h H).objs.size=h.objs.size:=PySem.W.hideAll_size _ _
def zfY{h:An}{H:Hp}{b:AG}{o:BR}(e:h.get? b=AA o)(n:H b=AB):(ybQ h H).get? b=AA o:=
 Ez _ e λhm=>by
  have q:(H b).isSome=true:=(E5.mp hm).2;rw[n]at q;simp at q
def zhS{h:An}{H:Hp}{b:AG}{o:BR}(e:(ybQ h H).get? b=AA o):h.get? b=AA o/\H b=none:=by
 have e':h.get? b=AA o:=FP (trk h H) e;refine⟨e',?_⟩
 cases q:H b with
 |none=>rfl
 |some x=>
  have hm:b∈trk h H:=E5.mpr ⟨Ct.mpr (AX e'),by simp[q]⟩;have z:(ybQ h H).get? b=none:=PySem.W.hideAll_none (trk h H) hm;rw[z]at e;cases e
structure Mod(K:AD)(mg:AN->Option AF)(base:An):Prop where
 kin:K.In base
 glob:base.Ns mainGlobals mg
 blt:∃mb,base.Ns builtinsNs mb/\∀x:AN,x ≠ "__name__"->mb x=bootBuiltins x
 nolimit:base.NoLimit
structure Cx where
 prog:A3
 w:Aa
 K:AD
 mg:AN->Option AF
 base:An
 A:A8
 N:List AN
 s₀:AH
 H₀:Hp
 env:Env
 outer:List Env
 stack:List Env
 ex:List AG
 fn:AN->Bool
 calm:Bool
 pn:List (AG×BR)
 xe:AF->AH->Prop
def frs(l:List Env):List Addr:=l.filterMap (·.frame)
abbrev Cx.fs(X:Cx):List Addr:=frs X.outer
def Vis(sc:Ao)(x:AN):Prop:=sc.names.lookup x=AA .local \/ sc.names.lookup x=AA .cell \/ sc.names.lookup x=AA .free
def Loc(sc:Ao)(x:AN):Prop:=sc.names.lookup x=AA .local \/ sc.names.lookup x=AA .cell
def Look(env:Env)(h:An)(m:AN->Option AF)(x:AN)(u:AF):Prop:=
 (env.kindOf x=AA .local/\m x=AA u) \/ ((env.kindOf x=AA .cell \/ env.kindOf x=AA .free)/\∃c,env.cells.lookup x=AA c/\h.IsCell c (AA u))
structure Cx.Ok(X:Cx):Prop where
 mod:Mod X.K X.mg X.base
 kind:X.env.scope.kind=.function
 glob:X.env.globals=mainGlobals
 blt:X.env.builtins=builtinsNs
 above:X.s₀.heap.objs.size<=X.env.locals
 inj:∀x y c,X.env.cells.lookup x=AA c->X.env.cells.lookup y=AA c->x=y
 has:∀x,(X.env.kindOf x=AA .cell \/ X.env.kindOf x=AA .free)->∃c,X.env.cells.lookup x=AA c
 cab:∀x c,X.fn x=AC->X.env.cells.lookup x=AA c->X.s₀.heap.objs.size<=c
 hd:X.calm=AC->X.A.handled=AB
 frames:X.A.frames=AA X.stack
 stk:X.stack=X.outer \/ (X.stack=X.env::X.outer/\X.env.frame=AA X.env.locals)
 exf:∀b∈X.ex,b≠X.env.locals/\∀x c,X.env.cells.lookup x=AA c->c≠b
 bs:∀b o,X.base.get? b=AA o->X.s₀.heap.get? b=AA o/\X.H₀ b=AB
 bsz:X.base.objs.size<=X.s₀.heap.objs.size
 noex:∀b o,X.base.get? b=AA o->b∉X.ex
 exfs:∀b∈X.ex,b∉X.fs
 funs:X.s₀.heap.FunFrames X.base X.outer
 frf:∀b∈X.fs,X.H₀ b=AB
structure Inv(X:Cx)(π:List (AG×BR))(σ:List (Option V))(H:Hp)(s:AH):Prop where
 ok:X.Ok
 os:s.os=X.s₀.os
 bare:Cu s.gens
 base:Un X.fs X.ex X.H₀ H X.s₀.heap s.heap
 loc:∃m,s.heap.Ns X.env.locals m/\∀(i:Nat) (x:AN) (v:V),X.N[i]?=AA x->σ[i]?=AA (AA v)->Vis X.env.scope x->∃u,RelV v u/\Look X.env s.heap m x u
 cell:∀x c,X.env.cells.lookup x=AA c->∃v,s.heap.IsCell c v
 free:H X.env.locals=AB
 freeC:∀x c,X.env.cells.lookup x=AA c->H c=AB
 pin:∀p∈X.pn++π,s.heap.get? p.1=AA p.2/\H p.1=AB/\p.1≠X.env.locals/\p.1∉X.fs/\∀v,p.2.data ≠ .cell v
 hok:HOk X.prog X.w H s.heap
 len:σ.length=X.N.length
section
variable {X:Cx}{π:List (AG×BR)}{σ:List (Option V)}{H H':Hp}{s:AH}{h':An}
theorem Cx.Ok.nofr(ok:X.Ok){b:AG}{o:BR}(e:X.base.get? b=AA o):b∉X.fs:=λhb=>by
 have:=(ok.funs.mem hb).1;rw[e]at this;cases this
theorem Inv.bs(I:Inv X π σ H s):∀b o,X.base.get? b=AA o->s.heap.get? b=AA o/\H b=none:=λb o e=>
 ⟨I.base.keep b o (I.ok.bs b o e).1 (I.ok.bs b o e).2 (I.ok.nofr e) (I.ok.noex b o e),I.base.free b o (I.ok.bs b o e).1 (I.ok.bs b o e).2 (I.ok.noex b o e)⟩
theorem Inv.bk(I:Inv X π σ H s):∀b o,X.base.get? b=AA o->s.heap.get? b=AA o:=λb o e=>(I.bs b o e).1
theorem Inv.mod(I:Inv X π σ H s):Mod X.K X.mg X.base:=I.ok.mod
theorem Inv.kIn(I:Inv X π σ H s):X.K.In s.heap:=I.ok.mod.kin.keeps I.bk
theorem Inv.lt(I:Inv X π σ H s):X.env.locals<s.heap.objs.size:=let ⟨_,hn,_⟩:=I.loc;hn.lt
theorem Inv.sz(I:Inv X π σ H s):X.s₀.heap.objs.size<=s.heap.objs.size:=BC I.ok.above (FZ I.lt)
theorem Inv.nofs(I:Inv X π σ H s){a:AG}(h:s.heap.objs.size<=a):a∉X.fs:=λhb=>by
 let⟨_,o,ho,_⟩:=I.ok.funs.mem hb;exact absurd (A0 (AX ho) (BC I.sz h)) (Bi _)
theorem Inv.cne(I:Inv X π σ H s):∀x c,X.env.cells.lookup x=AA c->c≠X.env.locals:=λx c e z=>by
 let⟨v,o,ho,hd⟩:=I.cell x c e;let⟨m,⟨o',es,ep,ho',hd',_⟩,_⟩:=I.loc;rw[z,ho']at ho;cases ho;rw[hd']at hd;cases hd
theorem Inv.funs(I:Inv X π σ H s):s.heap.FunFrames X.base X.outer:=by
 have all:∀(l:List Env),(∀b∈frs l,b∈X.fs)->X.s₀.heap.FunFrames X.base l->s.heap.FunFrames X.base l:=by
  intro l
  induction l with
  |nil=>intro _ _;trivial
  |cons env r ih=>
   intro hs hl;let⟨hk,⟨L,o,hf,hn,ho,hd⟩,hr⟩:=hl;have hL:L∈X.fs:=hs L (by unfold frs;rw[CD,hf];exact AW);let⟨sl,e⟩:=I.base.slot L o ho (I.ok.frf L hL) hL λz=>I.ok.exfs L z hL;exact⟨hk,⟨L,_,hf,hn,e,hd⟩,ih (λb hb=>hs b (by unfold frs;rw[CD,hf];exact AL _ hb)) hr⟩
 exact all X.outer (λ_ hb=>hb) I.ok.funs
theorem Inv.stack(I:Inv X π σ H s):s.heap.FunFrames X.base X.stack:=by
 rcases I.ok.stk with e|⟨e,hf⟩
 .rw[e];exact I.funs
 .rw[e];let⟨m,hn,_⟩:=I.loc;refine .cons (by rw[I.ok.kind];decide) hf hn ?_ I.funs;exact Heap.get?_none_of_le (BC I.ok.bsz I.ok.above)
theorem Inv.stkSub(I:Inv X π σ H s):∀b∈frs X.stack,b∈X.env.locals::X.fs:=λb hb=>by
 rcases I.ok.stk with e|⟨e,hf⟩
 .rw[e]at hb;exact AL _ hb
 .rw[e]at hb;unfold frs at hb;rw[CD,hf]at hb;exact hb
theorem Inv.stkFree(I:Inv X π σ H s):∀b∈frs X.stack,H b=none:=λb hb=>by
 rcases A6.mp (I.stkSub b hb)with e|hb
 .rw[e];exact I.free
 .let⟨_,o,ho,_⟩:=I.ok.funs.mem hb;exact I.base.free b o ho (I.ok.frf b hb) λz=>I.ok.exfs b z hb
theorem Inv.step{g':Array GenState}{t':Nat}{d':Drawn}{ch:List AG}(I:Inv X π σ H s)
  (hch:∀b∈ch,(b∈X.ex \/ X.s₀.heap.objs.size<=b)/\b≠X.env.locals/\(∀x c,X.env.cells.lookup x=AA c->c≠b)/\∀p∈X.pn++π,p.1≠b)
  (keep:∀b o,b≠X.env.locals->b∉X.fs->b∉ch->s.heap.get? b=AA o->H b=AB->h'.get? b=AA o)
  (slot:∀b o,b≠X.env.locals->b∈X.fs->b∉ch->s.heap.get? b=AA o->H b=AB->∃sl,h'.get? b=AA {o with slots:=sl}) (free:∀b o,b∉ch->s.heap.get? b=AA o->H b=AB->H' b=AB)
  (there:∀b o,b∉ch->s.heap.get? b=AA o->∃o',h'.get? b=AA o')
  (tups:∀b xs,H b=AA (.tup xs)->H' b=AA (.tup xs)) (frzs:∀b o u,H b=AA (.frz o u)->H' b=AA (.frz o u)) (tbls:∀b ps,H b=AA (.tbl ps)->∃more,H' b=AA (.tbl (ps++more)))
  (ns:∀m,s.heap.Ns X.env.locals m->h'.Ns X.env.locals m) (hok:HOk X.prog X.w H' h') (hg:Cu g'):
  Inv X π σ H' {s with heap:=h',gens:=g',drawn:=d',toks:=t'}:=by
 have neL:∀b o,X.s₀.heap.get? b=AA o->b≠X.env.locals:=λb o e=>Af (A0 (AX e) I.ok.above);have neC:∀b o,X.s₀.heap.get? b=AA o->b∉X.ex->b∉ch:=λb o e hx hb=>by
  rcases (hch b hb).1 with z|z
  .exact hx z
  .exact absurd (A0 (AX e) z) (Bi _)
 have cellK:∀x c,X.env.cells.lookup x=AA c->∀v,s.heap.IsCell c v->h'.IsCell c v:=λx c e v ⟨o,ho,hd⟩=>by
  have nch:c∉ch:=λz=>(hch c z).2.2.1 x c e rfl
  by_cases hc:c∈X.fs
  .let⟨sl,q⟩:=slot c o (I.cne x c e) hc nch ho (I.freeC x c e);exact⟨_,q,hd⟩
  .exact⟨o,keep c o (I.cne x c e) hc nch ho (I.freeC x c e),hd⟩
 refine⟨I.ok,I.os,hg,⟨λb o e n hb hx=>?_,λb o e n hb hx=>?_,λb o e n hx=>?_,λb o e hx=>?_,λb xs e=>tups b xs (I.base.tups b xs e),λb o xs e=>frzs b o xs (I.base.frzs b o xs e),λb ps e=>?_⟩,?_,λx c e=>?_,?_,λx c e=>?_,λp hp=>?_,hok,I.len⟩
 .exact keep b o (neL b o e) hb (neC b o e hx) (I.base.keep b o e n hb hx) (I.base.free b o e n hx)
 .let⟨sl,e1⟩:=I.base.slot b o e n hb hx;let⟨sl',e2⟩:=slot b _ (neL b o e) hb (neC b o e hx) e1 (I.base.free b o e n hx);exact⟨sl',e2⟩
 .let⟨o',e1⟩:=I.base.there b o e hx;exact free b o' (neC b o e hx) e1 (I.base.free b o e n hx)
 .let⟨o',e1⟩:=I.base.there b o e hx;exact there b o' (neC b o e hx) e1
 .let⟨m1,e1⟩:=I.base.tbls b ps e;let⟨m2,e2⟩:=tbls b _ e1;exact⟨m1++m2,by rw[e2,D1]⟩
 .let⟨m,hn,hl⟩:=I.loc;refine⟨m,ns m hn,λi x v e1 e2 e3=>?_⟩;let⟨u,r,l⟩:=hl i x v e1 e2 e3;refine⟨u,r,?_⟩;rcases l with l|⟨k,c,e,z⟩
  .exact .inl l
  .exact .inr ⟨k,c,e,cellK x c e _ z⟩
 .let⟨v,z⟩:=I.cell x c e;exact⟨v,cellK x c e v z⟩
 .let⟨m,⟨o,_,_,ho,_⟩,_⟩:=I.loc;exact free _ o (λz=>(hch _ z).2.1 rfl) ho I.free
 .let⟨v,o,ho,hd⟩:=I.cell x c e;exact free c o (λz=>(hch c z).2.2.1 x c e rfl) ho (I.freeC x c e)
 .let⟨e,n,ne,nf,d⟩:=I.pin p hp;have nch:p.1∉ch:=λz=>(hch p.1 z).2.2.2 p hp rfl;exact⟨keep p.1 p.2 ne nf nch e n,free p.1 p.2 nch e n,ne,nf,d⟩
theorem Inv.un{t':Nat}(I:Inv X π σ H s)(u:Un X.fs [] H H' s.heap h')(hok:HOk X.prog X.w H' h'):Inv X π σ H' {s with heap:=h',toks:=t'}:=by
 let⟨m,⟨o,es,ep,ho,r⟩,_⟩:=id I.loc;let⟨sl,hL⟩:=u.any ho I.free (by simp);exact I.step (g':=s.gens) (d':=s.drawn) (ch:=[]) (λ_ z=>nomatch z) (λb o _ hb _ e n=>u.keep b o e n hb (by simp)) (λb o _ hb _ e n=>u.slot b o e n hb (by simp)) (λb o _ e n=>u.free b o e n (by simp)) (λb o _ e=>u.there b o e (by simp)) u.tups u.frzs u.tbls (λm' hm=>by
  let⟨o',es',ep',ho',r'⟩:=hm;rw[ho]at ho';cases ho';exact⟨_,es',ep',hL,r'⟩) hok I.bare
theorem Inv.call{g':Array GenState}{t':Nat}{d':Drawn}{ch:List AG}(I:Inv X π σ H s)(u:Un (frs X.stack) ch H H' s.heap h')(hok:HOk X.prog X.w H' h')(hg:Cu g')
  (hch:∀b∈ch,(b∈X.ex \/ X.s₀.heap.objs.size<=b)/\b≠X.env.locals/\(∀x c,X.env.cells.lookup x=AA c->c≠b)/\∀p∈X.pn++π,p.1≠b):
  Inv X π σ H' {s with heap:=h',gens:=g',drawn:=d',toks:=t'}:=by
 let⟨m,⟨o,es,ep,ho,r⟩,_⟩:=id I.loc;let⟨sl,hL⟩:=u.any ho I.free λz=>(hch _ z).2.1 rfl;exact I.step (ch:=ch) hch (λb o hL hb hc e n=>u.keep b o e n (λz=>(A6.mp (I.stkSub b z)).elim hL hb) hc) (λb o _ _ hc e n=>u.any e n hc) (λb o hc e n=>u.free b o e n hc) (λb o hc e=>u.there b o e hc) u.tups u.frzs u.tbls (λm' hm=>by
  let⟨o',es',ep',ho',r'⟩:=hm;rw[ho]at ho';cases ho';exact⟨_,es',ep',hL,r'⟩) hok hg
theorem Inv.turned{t':Nat}{it:AG}(I:Inv X π σ H s)(k:∀b o,b≠it->s.heap.get? b=AA o->h'.get? b=AA o)(hn:H it=AB)(hL:it≠X.env.locals)
  (h1:it∈X.ex \/ X.s₀.heap.objs.size<=it) (h2:∀x c,X.env.cells.lookup x=AA c->c≠it) (h3:∀p∈X.pn++π,p.1≠it):Inv X π σ H {s with heap:=h',toks:=t'}:=by
 have nit:∀b u,H b=AA u->b≠it:=λb u e z=>by rw[z,hn]at e;cases e
 refine I.step (g':=s.gens) (d':=s.drawn) (ch:=[it]) (λb hb=>?_) (λb o _ _ hc e _=>k b o (λz=>hc (by simp[z])) e) (λb o _ _ hc e _=>⟨o.slots,k b o (λz=>hc (by simp[z])) e⟩) (λ_ _ _ _ n=>n)
  (λb o hc e=>⟨o,k b o (λz=>hc (by simp[z])) e⟩) (λ_ _ e=>e) (λ_ _ _ e=>e) (λb ps e=>⟨#[],by rw[e];simp⟩) (λm hm=>?_) (λb u e=>?_) I.bare
 .have e:b=it:=by simpa using hb
  subst e;exact⟨h1,hL,h2,h3⟩
 .let⟨o,es,ep,ho,r⟩:=hm;exact⟨o,es,ep,k _ o (Bu hL) ho,r⟩
 .refine(I.hok b u e).stay (λc v hc q=>k c v ?_ q) (λ_ q=>q) λ_ _ q=>q;rcases hc with z|z
  .rw[z];exact nit b u e
  .exact nit c _ z
theorem Inv.tok(I:Inv X π σ H s)(t:Nat):Inv X π σ H {s with toks:=t}:=I.un (h':=s.heap) (t':=t) Un.refl I.hok
theorem Inv.kept{t':Nat}(I:Inv X π σ H s)(k:∀b u,s.heap.get? b=AA u->h'.get? b=AA u):Inv X π σ H {s with heap:=h',toks:=t'}:=I.un (Un.kept k) (I.hok.kept k)
theorem Inv.laid{a:AG}{o:HO}{t':Nat}(I:Inv X π σ H s)(k:∀b u,s.heap.get? b=AA u->h'.get? b=AA u)(hp:s.heap.objs.size<=a)(new:yG X.prog X.w (upd H a o) h' a o):
  Inv X π σ (upd H a o) {s with heap:=h',toks:=t'}:=I.un (Un.laid k hp (I.hok.fresh hp)) (I.hok.laid k hp new)
theorem Inv.write{x e:AG}{o:HO}{t':Nat}(I:Inv X π σ H s)(mu:Mut (H x))(he:e=x \/ H e=AA (.own x))(k:∀b u,b≠e->s.heap.get? b=AA u->h'.get? b=AA u)(heo:∃u,h'.get? e=AA u)
  (new:yG X.prog X.w (upd H x o) h' x o):Inv X π σ (upd H x o) {s with heap:=h',toks:=t'}:=I.un (Un.write mu he k heo) (I.hok.write mu he k heo new)
theorem Inv.pins_of{pins':List (AG×BR)}(I:Inv X π σ H s)(h:∀p∈pins',s.heap.get? p.1=AA p.2/\H p.1=AB/\p.1≠X.env.locals/\p.1∉X.fs/\∀v,p.2.data ≠ .cell v):Inv X pins' σ H s:=
 ⟨I.ok,I.os,I.bare,I.base,I.loc,I.cell,I.free,I.freeC,λp hp=>(BE.mp hp).elim (λz=>I.pin p (C2 _ z)) (h p),I.hok,I.len⟩
def zcu{N:List AN}(hN:N.Nodup){i j:Nat}{x:AN}(a:N[i]?=AA x)(b:N[j]?=AA x):i=j:=by
 let⟨h1,e1⟩:=Ad.mp a;let⟨h2,e2⟩:=Ad.mp b;exact(List.getElem_inj hN).mp (e1.trans e2.symm)
def zeP{M:GM}{A:A8}{E:AF->AH->Prop}{i:Nat}{x:AN}{v:V}{u:AF}{Q:Unit->AH->Prop}(I:Inv X π σ H s)(hN:X.N.Nodup)(hi:X.N[i]?=AA x)(hx:Loc X.env.scope x)(r:RelV v u)
  (h:∀s',Inv X π (σ.set i (AA v)) H s'->(∃a,Bf a s.heap s'.heap/\(a=X.env.locals \/ X.env.cells.lookup x=AA a))->Q () s') (hf:X.fn x=AC \/ X.env.scope.names.lookup x=AA .local:=by first|exact .inl rfl|exact .inr rfl|assumption):A2 M A (storeName X.env x u) Q E s:=by
 let⟨m,hn,hl⟩:=id I.loc;have hcls:(X.env.scope.kind==.class || (X.env.scope.kind==.module&&X.env.locals != X.env.globals))=false:=by rw[I.ok.kind];rfl
 have hiσ:i<σ.length:=by rw[I.len];exact(Ad.mp hi).1
 have cne:=I.cne;have tracked:∀{a:AG} {h':An},(∃o,s.heap.get? a=AA o/\H a=AB)->Bf a s.heap h'->HOk X.prog X.w H h':=λ{a h'} ha hs b ob e=>by
  let⟨_,_,hfree⟩:=ha;refine(I.hok b ob e).stay (λc w' hc q=>(hs.2 c ?_).trans q) (λ_ q=>q) λ_ _ q=>q
  rintro rfl
  rcases hc with rfl|hc
  .rw[hfree]at e;cases e
  .rw[hfree]at hc;cases hc
 rcases hx with hk|hk
 .refine wpAny_storeName_local hk hn (λh' hn' hs=>?_) hcls;let⟨oL,_,_,hoL,_⟩:=id hn;refine h _ ⟨I.ok,I.os,I.bare,⟨λb o e n hb hx=>?_,λb o e n hb hx=>?_,I.base.free,λb o e hx=>?_,I.base.tups,I.base.frzs,I.base.tbls⟩,⟨_,hn',λj y v' e1 e2 e3=>?_⟩,λy c e=>?_,I.free,I.freeC,λp hp=>?_,tracked ⟨oL,hoL,I.free⟩ hs,by simpa using I.len⟩ ⟨_,hs,.inl rfl⟩
  .exact(hs.2 b (Af (A0 (AX e) I.ok.above))).trans (I.base.keep b o e n hb hx)
  .let⟨sl,e1⟩:=I.base.slot b o e n hb hx;exact⟨sl,(hs.2 b (Af (A0 (AX e) I.ok.above))).trans e1⟩
  .let⟨o',e1⟩:=I.base.there b o e hx;exact⟨o',(hs.2 b (Af (A0 (AX e) I.ok.above))).trans e1⟩
  .by_cases hj:j=i
   .subst hj;rw[hi]at e1;cases e1;rw[BD hiσ]at e2
    cases e2
    exact⟨u,r,.inl ⟨hk,by simp⟩⟩
   .rw[Al (Bu hj)]at e2;let⟨u',r',q⟩:=hl j y v' e1 e2 e3;refine⟨u',r',?_⟩;rcases q with⟨k,e⟩|⟨k,c,e,z⟩
    .refine .inl ⟨k,?_⟩;have:y≠x:=λe=>hj (zcu hN e1 (e ▸ hi));simp[this,e]
    .exact .inr ⟨k,c,e,z.sameBut hs (cne y c e)⟩
  .let⟨w',z⟩:=I.cell y c e;exact⟨w',z.sameBut hs (cne y c e)⟩
  .let⟨e,n,ne,nf,d⟩:=I.pin p hp;exact⟨(hs.2 p.1 ne).trans e,n,ne,nf,d⟩
 .have hfn:X.fn x=true:=by
   rcases hf with z|z
   .exact z
   .rw[z]at hk;cases hk
  let⟨c,hc⟩:=I.ok.has x (.inl hk);let⟨w',z⟩:=I.cell x c hc;refine wpAny_storeName_cell I.ok.kind hk hc z (λh' hc' hs=>?_);let⟨oc,hoc,hocd⟩:=id z;refine h {s with heap:=h'} ⟨I.ok,I.os,I.bare,⟨λb o e n hb hx=>?_,λb o e n hb hx=>?_,I.base.free,λb o e hx=>?_,I.base.tups,I.base.frzs,I.base.tbls⟩,⟨m,hn.sameBut hs (Bu (cne x c hc)),λj y v' e1 e2 e3=>?_⟩,λy c' e=>?_,I.free,I.freeC,λp hp=>?_,tracked ⟨oc,hoc,I.freeC x c hc⟩ hs,by simpa using I.len⟩ ⟨c,hs,.inr hc⟩
  .exact(hs.2 b (Af (A0 (AX e) (I.ok.cab x c hfn hc)))).trans (I.base.keep b o e n hb hx)
  .let⟨sl,e1⟩:=I.base.slot b o e n hb hx;exact⟨sl,(hs.2 b (Af (A0 (AX e) (I.ok.cab x c hfn hc)))).trans e1⟩
  .let⟨o',e1⟩:=I.base.there b o e hx;exact⟨o',(hs.2 b (Af (A0 (AX e) (I.ok.cab x c hfn hc)))).trans e1⟩
  .by_cases hj:j=i
   .subst hj;rw[hi]at e1;cases e1;rw[BD hiσ]at e2
    cases e2
    exact⟨u,r,.inr ⟨.inl hk,c,hc,hc'⟩⟩
   .rw[Al (Bu hj)]at e2;let⟨u',r',q⟩:=hl j y v' e1 e2 e3;refine⟨u',r',?_⟩;rcases q with q|⟨k,c',e,z'⟩
    .exact .inl q
    .refine .inr ⟨k,c',e,z'.sameBut hs ?_⟩
     rintro rfl
     exact hj (zcu hN e1 (I.ok.inj _ _ _ e hc ▸ hi))
  .by_cases hcc:c'=c
   .subst hcc;exact⟨_,hc'⟩
   .let⟨w2,z2⟩:=I.cell y c' e;exact⟨w2,z2.sameBut hs hcc⟩
  .let⟨e,n,ne,nf,d⟩:=I.pin p hp;refine⟨(hs.2 p.1 ?_).trans e,n,ne,nf,d⟩;intro q;rw[q,hoc]at e;have q':oc=p.2:=AU e;exact d w' (by rw[<-q'];exact hocd)
def zz{M:GM}{A:A8}{E:AF->AH->Prop}{i:Nat}{x:AN}{v:V}{u:AF}{Q:Unit->AH->Prop}(I:Inv X π σ H s)(hN:X.N.Nodup)(hi:X.N[i]?=AA x)(hx:Loc X.env.scope x)(r:RelV v u)
  (h:∀s',Inv X π (σ.set i (AA v)) H s'->Q () s') (hf:X.fn x=AC \/ X.env.scope.names.lookup x=AA .local:=by first|exact .inl rfl|exact .inr rfl|assumption):A2 M A (storeName X.env x u) Q E s:=
 zeP I hN hi hx r (λs' I' _=>h s' I') hf
theorem Inv.call'{s':AH}{ch:List AG}(I:Inv X π σ H s)(ho:s'.os=s.os)(u:Un (frs X.stack) ch H H' s.heap s'.heap)(hok:HOk X.prog X.w H' s'.heap)(hg:Cu s'.gens)
  (hch:∀b∈ch,(b∈X.ex \/ X.s₀.heap.objs.size<=b)/\b≠X.env.locals/\(∀x c,X.env.cells.lookup x=AA c->c≠b)/\∀p∈X.pn++π,p.1≠b):Inv X π σ H' s':=by
 let⟨h',g',d',t',o'⟩:=s';have e:o'=s.os:=ho;subst e;exact I.call (g':=g') (t':=t') (d':=d') u hok hg hch
end
abbrev XK:=AF->Option AG->Hp->Prop
abbrev St:=List (Option V)
abbrev VK:=V->Hp->Prop
abbrev TE:=St->Hp->VK->Prop
abbrev TT:=St->Hp->(Bool->Hp->Prop)->Prop
abbrev TA:=St->Hp->(List V->Hp->Prop)->Prop
structure Ends where
 nx:St->Hp->Prop
 rt:VK
 bk:St->Hp->Prop:=λ_ _=>False
 ct:St->Hp->Prop:=λ_ _=>False
abbrev TS:=Ends->St->Hp->Prop
def EP(X:Cx)(π:List (AG×BR))(σ:St)(Q:VK)(u:AF)(s':AH):Prop:=∃v H',Inv X π σ H' s'/\RelV v u/\Q v H'
def TP(X:Cx)(π:List (AG×BR))(σ:St)(Q:Bool->Hp->Prop)(b:Bool)(s':AH):Prop:=∃H',Inv X π σ H' s'/\Q b H'
def AP(X:Cx)(π:List (AG×BR))(σ:St)(Q:List V->Hp->Prop)(us:List AF)(s':AH):Prop:=∃vs H',Inv X π σ H' s'/\Vals vs us/\Q vs H'
def SP(X:Cx)(π:List (AG×BR))(D:Ends)(f:Flow)(s':AH):Prop:=
 match f with
 |.next=>∃σ' H',Inv X π σ' H' s'/\D.nx σ' H'
 |.brk=>∃σ' H',Inv X π σ' H' s'/\D.bk σ' H'
 |.cont=>∃σ' H',Inv X π σ' H' s'/\D.ct σ' H'
 |.ret u=>∃v σ' H',Inv X π σ' H' s'/\RelV v u/\D.rt v H'
def PE(X:Cx)(e:AM)(t:TE):Prop:=
 ∀(π:List (AG×BR)) (s:AH) (σ:St) (H:Hp) (Q:VK),Inv X π σ H s->t σ H Q->A2 (model X.prog X.w) X.A (eval e X.env) (EP X π σ Q) X.xe s
def PT(X:Cx)(e:AM)(t:TT):Prop:=
 ∀(π:List (AG×BR)) (s:AH) (σ:St) (H:Hp) (Q:Bool->Hp->Prop),Inv X π σ H s->t σ H Q->A2 (model X.prog X.w) X.A (isTrue e X.env (eval e X.env)) (TP X π σ Q) X.xe s
def PW(X:Cx)(e:AM)(t:TT):Prop:=
 ∀(whole:Fi AF) (π:List (AG×BR)) (s:AH) (σ:St) (H:Hp) (Q:Bool->Hp->Prop),Inv X π σ H s->t σ H Q->A2 (model X.prog X.w) X.A (isTrue e X.env whole) (TP X π σ Q) X.xe s
theorem PW.pt{X:Cx}{e:AM}{t:TT}(h:PW X e t):PT X e t:=h _
def PA(X:Cx)(es:List AM)(t:TA):Prop:=
 ∀(pos:Bc) (π:List (AG×BR)) (s:AH) (σ:St) (H:Hp) (Q:List V->Hp->Prop),Inv X π σ H s->t σ H Q->A2 (model X.prog X.w) X.A (spliced (backTo pos (starEach es X.env))) (AP X π σ Q) X.xe s
def PS(X:Cx)(st:Bd)(t:TS):Prop:=
 ∀(π:List (AG×BR)) (s:AH) (σ:St) (H:Hp) (D:Ends),Inv X π σ H s->t D σ H->A2 (model X.prog X.w) X.A (exec st X.env) (SP X π D) X.xe s
def PSs(X:Cx)(st:List Bd)(t:TS):Prop:=
 ∀(π:List (AG×BR)) (s:AH) (σ:St) (H:Hp) (D:Ends),Inv X π σ H s->t D σ H->A2 (model X.prog X.w) X.A (execs st X.env) (SP X π D) X.xe s
theorem thn{α:Type}{t:Fi α}{Q Q':α->AH->Prop}{M:GM}{A:A8}{E:AF->AH->Prop}{s:AH}(h:A2 M A t Q E s)(hQ:∀a s,Q a s->Q' a s):A2 M A t Q' E s:=Az h hQ λ_ _ x=>x
section
variable {X:Cx}
def yf2(i:Nat):TE:=λσ H Q=>∃v,σ[i]?=AA (AA v)/\Q v H
def tC(v:V):TE:=λ_ H Q=>Q v H
def zgp{i:Nat}{x:AN}{pos:Bc}(hN:X.N[i]?=AA x)(hv:Vis X.env.scope x)(hd:(x==("__debug__":AN))=false:=by decide)(hcd:(x==("__classdict__":AN))=false:=by decide):PE X (.Name x pos) (yf2 i):=by
 intro π s σ H Q I h;let⟨v,e,h⟩:=h;let⟨m,hn,hl⟩:=I.loc;let⟨u,r,l⟩:=hl i x v hN e hv;have fin:EP X π σ Q u s:=⟨v,H,I,r,h⟩;rcases l with⟨hk,hm⟩|⟨hk,c,hc,hcell⟩
 .exact GN (Ef I.ok.kind hk hn hm fin) hd
 .rcases hk with hk|hk
  .exact GN (FA I.ok.kind hk hc hcell fin) hd
  .exact GN (wpAny_loadName_free I.ok.kind hk hc hcell fin hcd) hd
def zk7{i j pos}:PE X (.Constant (.int i) j pos) (tC (.int i)):=λ_ _ _ H _ I h=>wpAny_Constant_int ⟨.int i,H,I.tok _,⟨_,rfl⟩,h⟩
def zk8{b j pos}:PE X (.Constant (.bool b) j pos) (tC (.bl b)):=λ_ _ _ H _ I h=>Constant_bool ⟨.bl b,H,I,rfl,h⟩
def zk9{j pos}:PE X (.Constant .none j pos) (tC .non):=λ_ _ _ H _ I h=>Constant_none ⟨.non,H,I,rfl,h⟩
def zk0{x j pos}:PE X (.Constant (.str x) j pos) (tC (.str x)):=λ_ _ _ H _ I h=>Calls.Constant_str ⟨.str x,H,I.tok _,⟨_,rfl⟩,h⟩
def Gl(X:Cx)(x:AN):Prop:=X.env.kindOf x=AA .globalImplicit
def z5{E:AF->AH->Prop}{π:List (AG×BR)}{s:AH}{σ:St}{H:Hp}{x:AN}{u:AF}{pos:Bc}{Q:AF->AH->Prop}(I:Inv X π σ H s)(hg:Gl X x)(hm:X.mg x=AA u)(h:Q u s)
  (hd:(x==("__debug__":AN))=false:=by decide):A2 (model X.prog X.w) X.A (eval (.Name x pos) X.env) Q E s:=
 D2 I.ok.kind hg (Calls.loadGlobal_global (by rw[I.ok.glob];exact I.mod.glob.keeps I.bk) hm h) hd
def zbC{E:AF->AH->Prop}{π:List (AG×BR)}{s:AH}{σ:St}{H:Hp}{x:AN}{u:AF}{pos:Bc}{Q:AF->AH->Prop}(I:Inv X π σ H s)(hg:Gl X x)(hm:X.mg x=AB)(hv:bootBuiltins x=AA u)(h:Q u s)
  (hn:x ≠ "__name__":=by decide) (hd:(x==("__debug__":AN))=false:=by decide):A2 (model X.prog X.w) X.A (eval (.Name x pos) X.env) Q E s:=by
 let⟨mb,h1,h2⟩:=I.mod.blt;exact D2 I.ok.kind hg (Calls.loadGlobal_builtin (by rw[I.ok.glob];exact I.mod.glob.keeps I.bk) hm (by rw[I.ok.blt];exact h1.keeps I.bk) ((h2 x hn).trans hv) h) hd
def zbb{x:AN}{v:V}{u:AF}{pos:Bc}(hg:Gl X x)(hm:X.mg x=AA u)(r:RelV v u)(hd:(x==("__debug__":AN))=false:=by decide):PE X (.Name x pos) (tC v):=
 λ_ _ _ H _ I h=>z5 I hg hm ⟨v,H,I,r,h⟩ hd
def zif{x:AN}{v:V}{u:AF}{pos:Bc}(hg:Gl X x)(hm:X.mg x=AB)(hv:bootBuiltins x=AA u)(r:RelV v u)(hn:x ≠ "__name__":=by decide)(hd:(x==("__debug__":AN))=false:=by decide):PE X (.Name x pos) (tC v):=
 λ_ _ _ H _ I h=>zbC I hg hm hv ⟨v,H,I,r,h⟩ hn hd
variable {a b:AM}{ta tb:TE}{pos:Bc}
variable {tA tB':TT}{rest:List AM}
def yf0(t u:TT):TT:=λσ H Q=>t σ H λc H1=>if c=AC then u σ H1 Q else Q AE H1
def tOr(t u:TT):TT:=λσ H Q=>t σ H λc H1=>if c=AC then Q AC H1 else u σ H1 Q
def yf8(t:TT):TT:=λσ H Q=>t σ H λc H1=>Q (!c) H1
def zih(ha:PT X a tA):PW X (.BoolOp .And [a] pos) tA:=by
 intro wh π s σ H Q I h;refine isTrue_and (thn (ha π s σ H Q I h) λc s1 e=>?_)
 cases c with
 |true=>exact isTrue_and_nil e
 |false=>exact e
def ziM(ha:PT X a tA):PW X (.BoolOp .Or [a] pos) tA:=by
 intro wh π s σ H Q I h;refine isTrue_or (thn (ha π s σ H Q I h) λc s1 e=>?_)
 cases c with
 |false=>exact isTrue_or_nil e
 |true=>exact e
def zjE(ha:PT X a tA)(hb:PW X (.BoolOp .And (b::rest) pos) tB'):PW X (.BoolOp .And (a::b::rest) pos) (yf0 tA tB'):=by
 intro wh π s σ H Q I h;refine isTrue_and (thn (ha π s σ H _ I h) λc s1 kq=>?_);let⟨H1,I1,q1⟩:=kq
 cases c with
 |true=>exact hb wh π s1 σ H1 Q I1 q1
 |false=>exact⟨H1,I1,q1⟩
def zkj(ha:PT X a tA)(hb:PW X (.BoolOp .Or (b::rest) pos) tB'):PW X (.BoolOp .Or (a::b::rest) pos) (tOr tA tB'):=by
 intro wh π s σ H Q I h;refine isTrue_or (thn (ha π s σ H _ I h) λc s1 kq=>?_);let⟨H1,I1,q1⟩:=kq
 cases c with
 |true=>exact⟨H1,I1,q1⟩
 |false=>exact hb wh π s1 σ H1 Q I1 q1
def zi5(ha:PT X a tA):PT X (.UnaryOp .Not a pos) (yf8 tA):=by
 intro π s σ H Q I h;exact isTrue_not (ha π s σ H (λc H1=>Q (!c) H1) I h)
def ydS(ta tb:TE):TE:=λσ H Q=>ta σ H λx H1=>∃c,x=.bl c/\if c=AC then tb σ H1 Q else Q (.bl AE) H1
def yfo(ta tb:TE):TE:=λσ H Q=>ta σ H λx H1=>∃c,x=.bl c/\if c=AC then Q (.bl AC) H1 else tb σ H1 Q
def ydx(ta:TE):TE:=λσ H Q=>ta σ H λx H1=>∃c,x=.bl c/\Q (.bl (!c)) H1
def zjH{op}{t:TE}(h:PE X a t):PE X (.BoolOp op [a] pos) t:=λπ s σ H Q I hw=>BoolOp_one (h π s σ H Q I hw)
def zit(ha:PE X a ta)(hb:PE X (.BoolOp .And (b::rest) pos) tb):PE X (.BoolOp .And (a::b::rest) pos) (ydS ta tb):=by
 intro π s σ H Q I h;refine BoolOp_and (thn (ha π s σ H _ I h) λv s1 kq=>?_);let⟨x,H1,I1,r1,q1⟩:=kq;let⟨c,rfl,q1⟩:=q1
 cases r1
 refine CV ?_
 cases c with
 |true=>exact hb π s1 σ H1 Q I1 q1
 |false=>exact⟨.bl AE,H1,I1,rfl,q1⟩
def zkJ(ha:PE X a ta)(hb:PE X (.BoolOp .Or (b::rest) pos) tb):PE X (.BoolOp .Or (a::b::rest) pos) (yfo ta tb):=by
 intro π s σ H Q I h;refine BoolOp_or (thn (ha π s σ H _ I h) λv s1 kq=>?_);let⟨x,H1,I1,r1,q1⟩:=kq;let⟨c,rfl,q1⟩:=q1
 cases r1
 refine CV ?_
 cases c with
 |false=>exact hb π s1 σ H1 Q I1 q1
 |true=>exact⟨.bl AC,H1,I1,rfl,q1⟩
def zjz(ha:PE X a ta):PE X (.UnaryOp .Not a pos) (ydx ta):=by
 intro π s σ H Q I h;refine UnaryOp_ (thn (ha π s σ H _ I h) λv s1 kq=>?_);let⟨x,H1,I1,r1,q1⟩:=kq;let⟨c,rfl,q1⟩:=q1
 cases r1
 exact not_of (CV ⟨.bl (!c),H1,I1,rfl,q1⟩)
def tIf(t:TT)(ta tb:TE):TE:=λσ H Q=>t σ H λc H1=>if c=AC then ta σ H1 Q else tb σ H1 Q
def zfF{c:AM}(hc:PT X c tA)(ha:PE X a ta)(hb:PE X b tb):PE X (.IfExp c a b pos) (tIf tA ta tb):=by
 intro π s σ H Q I h;refine wpAny_IfExp (thn (hc π s σ H _ I h) λd s1 kq=>?_);let⟨H1,I1,q1⟩:=kq
 cases d with
 |true=>exact ha π s1 σ H1 Q I1 q1
 |false=>exact hb π s1 σ H1 Q I1 q1
end
def SqL(K:AD)(H:Hp)(a:AG)(xs:List V):Prop:=
 Rd H a (.lst xs) \/
  ∃(o:BR) (its:Array AF) (n:Nat),K.lookup a=AA o/\o.cls=.type "list"/\o.dict=AB/\o.data=.seq its n/\its.size<=sizeLine/\Vals xs its.toList
def SqT(K:AD)(H:Hp)(a:AG)(xs:List V):Prop:=
 Rd H a (.tup xs) \/
  ∃(o:BR) (its:Array AF) (n:Nat),K.lookup a=AA o/\o.cls=.type "tuple"/\o.data=.seq its n/\its.size<=sizeLine/\Vals xs its.toList
def ygB:AF->Option V
 |.none=>AA .non
 |.bool b=>AA (.bl b)
 |.int i _=>AA (.int i)
 |.str x _=>AA (.str x)
 |.bytes b _=>AA (.byt b)
 |.float b _=>AA (.flt b)
 |.ref a=>AA (.ref a)
 |.type n=>AA (.ty n)
 |_=>AB
theorem RelV.abs{x:V}{u:AF}(r:RelV x u):ygB u=AA x:=by
 cases x with
 |non=>cases r;rfl
 |bl _=>cases r;rfl
 |int _=>let⟨t,rfl⟩:=r;rfl
 |str _=>let⟨t,rfl⟩:=r;rfl
 |byt _=>let⟨t,rfl⟩:=r;rfl
 |flt _=>let⟨t,rfl⟩:=r;rfl
 |ref _=>cases r;rfl
 |ty _=>cases r;rfl
theorem RelV.inj{x y:V}{u:AF}(r:RelV x u)(q:RelV y u):x=y:=AU (r.abs.symm.trans q.abs)
theorem Vals.inj:∀{xs ys:List V} {us:List AF},Vals xs us->Vals ys us->xs=ys
 |_,_,_,.nil,.nil=>rfl
 |_,_,_,.cons r t,.cons r' t'=>by rw[r.inj r',Vals.inj t t']
section
variable {X:Cx}{π:List (AG×BR)}{σ:St}{H:Hp}{s:AH}{a:AG}{xs ys:List V}
theorem SqL.of{K:AD}(h:H a=AA (.lst xs)):SqL K H a xs:=.inl (.inl h)
theorem Inv.list(I:Inv X π σ H s)(h:SqL X.K H a xs):∃its:List AF,Vals xs its/\PlainL s.heap a its.toArray/\xs.length<=sizeLine:=by
 rcases h with h|⟨o,its,n,hk,hc,hd,hs,hz,r⟩
 .let⟨z,its,n,r,e⟩:=h.ok I.hok;exact⟨its,r,⟨_,n,e,rfl,rfl,rfl⟩,z⟩
 .refine⟨its.toList,r,⟨o,n,I.kIn a o hk,hc,hd,by simpa using hs⟩,?_⟩;have e:=r.length;erw[DS]at e;lia
theorem Inv.tuple(I:Inv X π σ H s)(h:SqT X.K H a xs):∃its:List AF,Vals xs its/\Gb s.heap a its.toArray/\xs.length<=sizeLine:=by
 rcases h with h|⟨o,its,n,hk,hc,hs,hz,r⟩
 .let⟨z,its,r,p⟩:=h.ok I.hok;exact⟨its,r,⟨_,p,rfl,_,rfl⟩,z⟩
 .refine⟨its.toList,r,⟨o,I.kIn a o hk,hc,n,by simpa using hs⟩,?_⟩;have e:=r.length;erw[DS]at e;lia
theorem Inv.list_inj(I:Inv X π σ H s)(h:SqL X.K H a xs)(h':SqL X.K H a ys):xs=ys:=by
 let⟨its,r,⟨o,n,e,_,_,d⟩,_⟩:=I.list h;let⟨its',r',⟨o',n',e',_,_,d'⟩,_⟩:=I.list h';rw[e]at e';cases e';rw[d]at d';injection d' with d1 _;have:its=its':=by simpa using congrArg FY d1
 subst this;exact r.inj r'
theorem Inv.tuple_inj(I:Inv X π σ H s)(h:SqT X.K H a xs)(h':SqT X.K H a ys):xs=ys:=by
 let⟨its,r,⟨o,e,_,n,d⟩,_⟩:=I.tuple h;let⟨its',r',⟨o',e',_,n',d'⟩,_⟩:=I.tuple h';rw[e]at e';cases e';rw[d]at d';injection d' with d1 _;have:its=its':=by simpa using congrArg FY d1
 subst this;exact r.inj r'
end
abbrev Cx.wish(X:Cx)(E:AF->AH->Prop):Cx:={X with xe:=E}
theorem Cx.Ok.wish{X:Cx}(ok:X.Ok)(E:AF->AH->Prop):(X.wish E).Ok:=
 ⟨ok.mod,ok.kind,ok.glob,ok.blt,ok.above,ok.inj,ok.has,ok.cab,ok.hd,ok.frames,ok.stk,ok.exf,ok.bs,ok.bsz,ok.noex,ok.exfs,ok.funs,ok.frf⟩
theorem Cx.Ok.unwish{X:Cx}{E:AF->AH->Prop}(ok:(X.wish E).Ok):X.Ok:=
 ⟨ok.mod,ok.kind,ok.glob,ok.blt,ok.above,ok.inj,ok.has,ok.cab,ok.hd,ok.frames,ok.stk,ok.exf,ok.bs,ok.bsz,ok.noex,ok.exfs,ok.funs,ok.frf⟩
section
variable {X:Cx}{π:List (AG×BR)}{σ:St}{H:Hp}{s:AH}{E:AF->AH->Prop}
theorem Inv.wish(I:Inv X π σ H s)(E:AF->AH->Prop):Inv (X.wish E) π σ H s:=⟨I.ok.wish E,I.os,I.bare,I.base,I.loc,I.cell,I.free,I.freeC,I.pin,I.hok,I.len⟩
theorem Inv.unwish(I:Inv (X.wish E) π σ H s):Inv X π σ H s:=⟨I.ok.unwish,I.os,I.bare,I.base,I.loc,I.cell,I.free,I.freeC,I.pin,I.hok,I.len⟩
end
section
variable {X:Cx}{st:Bd}{rest:List Bd}{t u:TS}{e:AM}{te:TE}{pos:Bc}
def yd3:TS:=λD σ H=>D.nx σ H
def ygu(t u:TS):TS:=λD σ H=>t {D with nx:=u D} σ H
def zla:PSs X [] yd3:=λ_ _ σ H _ I h=>Ci ⟨σ,H,I,h⟩
def zcz(h1:PS X st t)(h2:PSs X rest u):PSs X (st::rest) (ygu t u):=by
 intro π s σ H D I h;refine Fk (thn (h1 π s σ H {D with nx:=u D} I h) λf s1 q=>?_)
 cases f with
 |next=>
  let⟨σ',H',I',q⟩:=q;exact h2 π s1 σ' H' D I' q
 |ret v=>exact q
 |brk=>exact q
 |cont=>exact q
def zhY(h1:PS X st t):PSs X [st] t:=by
 intro π s σ H D I h;refine Fk (thn (h1 π s σ H D I h) λf s1 q=>?_)
 cases f with
 |next=>exact Ci q
 |ret v=>exact q
 |brk=>exact q
 |cont=>exact q
theorem Inv.quiet{π:List (AG×BR)}{σ:St}{H:Hp}{s:AH}(I:Inv X π σ H s):interactive X.env=false:=by simp[interactive,I.ok.kind]
def yel(te:TE):TS:=λD σ H=>te σ H λ_ H1=>D.nx σ H1
def zhN(he:PE X e te)(hs:swapsWith e AB pos.line X.env=pure false:=by rfl):PS X (.Expr e pos) (yel te):=by
 intro π s σ H D I h;exact wpAny_Expr_any (thn (he π s σ H _ I h) λv s1 ⟨x,H1,I1,r1,q1⟩=>⟨σ,H1,I1,q1⟩) I.quiet hs
def yfX(te:TE):TS:=λD σ H=>te σ H D.rt
def zgt(he:PE X e te):PS X (.Return (AA e) pos) (yfX te):=by
 intro π s σ H D I h;exact wpAny_Return_some (thn (he π s σ H _ I h) λv s1 ⟨x,H1,I1,r1,q1⟩=>⟨x,σ,H1,I1,r1,q1⟩)
def ydz:TS:=λD _ H=>D.rt .non H
def zlb:PS X (.Return AB pos) ydz:=λ_ _ σ H _ I h=>wpAny_Return_none ⟨.non,σ,H,I,rfl,h⟩
def yfZ(c:TT)(t u:TS):TS:=λD σ H=>c σ H λb H1=>if b=AC then t D σ H1 else u D σ H1
def zkp{c:AM}{a b:List Bd}{tc:TT}(hc:PT X c tc)(ha:PSs X a t)(hb:PSs X b u):PS X (.If c a b pos) (yfZ tc t u):=by
 intro π s σ H D I h;refine wpAny_If (thn (hc π s σ H _ I h) λd s1 kq=>?_);let⟨H1,I1,q1⟩:=kq
 cases d with
 |true=>exact ha π s1 σ H1 D I1 q1
 |false=>exact hb π s1 σ H1 D I1 q1
end
abbrev TG:=V->St->Hp->(St->Hp->Prop)->Prop
abbrev TGs:=List V->St->Hp->(St->Hp->Prop)->Prop
def PG(X:Cx)(target:AM)(t:TG):Prop:=
 ∀(π:List (AG×BR)) (s:AH) (σ:St) (H:Hp) (v:V) (u:AF) (Q:St->Hp->Prop),Inv X π σ H s->RelV v u->t v σ H Q ->
  A2 (model X.prog X.w) X.A (assign target X.env u) (λ_ s'=>∃σ' H',Inv X π σ' H' s'/\Q σ' H') X.xe s
def PGs(X:Cx)(ts:List AM)(t:TGs):Prop:=
 ∀(π:List (AG×BR)) (s:AH) (σ:St) (H:Hp) (vs:List V) (us:List AF) (Q:St->Hp->Prop),Inv X π σ H s->Vals vs us->t vs σ H Q ->
  A2 (model X.prog X.w) X.A (assignInOrder ((assignEach ts X.env).map (·.2)) us) (λ_ s'=>∃σ' H',Inv X π σ' H' s'/\Q σ' H') X.xe s
abbrev yd6:=V->V->V->Hp->(Hp->Prop)->Prop
def yev(X:Cx)(t:yd6):Prop:=
 ∀(π:List (AG×BR)) (s:AH) (σ:St) (H:Hp) (o i v:V) (ov iv u:AF) (Q:Hp->Prop),Inv X π σ H s->RelV o ov->RelV i iv->RelV v u->t o i v H Q ->
  A2 (model X.prog X.w) X.A (setItem ov iv u) (λ_ s'=>∃H',Inv X π σ H' s'/\Q H') X.xe s
abbrev TIp:=V->V->Hp->VK->Prop
def PIp(X:Cx)(op:EC)(t:TIp):Prop:=
 ∀(π:List (AG×BR)) (s:AH) (σ:St) (H:Hp) (x y:V) (v u:AF) (Q:VK),Inv X π σ H s->RelV x v->RelV y u->t x y H Q ->
  A2 (model X.prog X.w) X.A (inplaceOp op v u) (EP X π σ Q) X.xe s
section
variable {X:Cx}{pos:Bc}
def ybM(i:Nat):TG:=λv σ H Q=>Q (σ.set i (AA v)) H
def zeR{i:Nat}{x:AN}(hN:X.N.Nodup)(hi:X.N[i]?=AA x)(hx:Loc X.env.scope x)(hf:X.fn x=AC \/ X.env.scope.names.lookup x=AA .local:=by first|exact .inl rfl|exact .inr rfl|assumption):PG X (.Name x pos) (ybM i):=by
 intro π s σ H v u Q I r h;exact F0 (zz I hN hi hx r (λs' I'=>⟨_,H,I',h⟩) hf)
def yfA:TGs:=λvs σ H Q=>vs=[]/\Q σ H
def yd5(t:TG)(u:TGs):TGs:=λvs σ H Q=>∃v r,vs=v::r/\t v σ H λσ' H'=>u r σ' H' Q
def zlc:PGs X [] yfA:=by
 intro π s σ H vs us Q I r h;let⟨e,h⟩:=h;subst e
 cases r
 exact F1 ⟨σ,H,I,h⟩
def zfE{e:AM}{es:List AM}{t:TG}{u:TGs}(h1:PG X e t)(h2:PGs X es u)
  (hs:(assignEach (e::es) X.env).map (·.2)=assign e X.env::(assignEach es X.env).map (·.2):=by rfl):PGs X (e::es) (yd5 t u):=by
 intro π s σ H vs us Q I r h;let⟨v,vr,e1,h⟩:=h;subst e1
 cases r with
 |cons r rr=>
  rw[hs];refine D3 (thn (h1 π s σ H _ _ _ I r h) λ_ s1 kq=>?_);let⟨σ1,H1,I1,q1⟩:=kq;exact h2 π s1 σ1 H1 _ _ Q I1 rr q1
def yfN(K:AD)(n:Nat)(t:TGs):TG:=λv σ H Q=>∃a xs,v=.ref a/\SqT K H a xs/\xs.length=n/\t xs σ H Q
def zj0{es:List AM}{k:Nat}{t:TGs}{n:Nat}(hc:X.calm=AC)(h:PGs X es t)
  (hn:(assignEach es X.env).length=n:=by rfl) (hst:(assignEach es X.env).findIdx? (·.1)=none:=by rfl):PG X (.Tuple es k pos) (yfN X.K n t):=by
 intro π s σ H v u Q I r hw;let⟨a,xs,e1,hq,hl,hw⟩:=hw;subst e1
 cases r
 let⟨its,rv,ht,hz⟩:=I.tuple hq;refine assign_Tuple_tuple (I.ok.hd hc) ht (by simp[hn,<-hl,rv.length]) hst λh' hx=>?_;have I1:Inv X π σ H {s with heap:=h'}:=I.kept (t':=s.toks) λb o e=>hx b o (Af (AX e)) e;exact h π _ σ H xs _ Q I1 (by simpa using rv) hw
def yeu(to ti:TE)(t:yd6):TG:=λv σ H Q=>to σ H λo H1=>ti σ H1 λi H2=>t o i v H2 λH3=>Q σ H3
def zgM{o i:AM}{to ti:TE}{t:yd6}(ho:PE X o to)(hi:PE X i ti)(hs:yev X t)
  (ha:∀v,assign (.Subscript o i pos) X.env v=(do
   let ov <-holding [v] (eval o X.env)
   let iv <-holding [v,ov] (eval i X.env)
   standAt pos
   holding [v,ov,iv] (setItem ov iv v)
   release [v,ov,iv] []):=by intro _;rfl):PG X (.Subscript o i pos) (yeu to ti t):=by
 intro π s σ H v u Q I r h;rw[ha];refine AI (Bz (thn (ho π s σ H _ I h) λov s1 kq=>?_));let⟨x,H1,I1,r1,q1⟩:=kq;refine AI (Bz (thn (hi π s1 σ H1 _ I1 q1) λiv s2 kq=>?_));let⟨y,H2,I2,r2,q2⟩:=kq;refine AI (B3 (AI (Bz (thn (hs π s2 σ H2 x y v ov iv u _ I2 r1 r2 r q2) λ_ s3 kq=>?_))));let⟨H3,I3,q3⟩:=kq;exact wpAny_release ⟨σ,H3,I3,q3⟩
def ydQ(te:TE)(g:TG):TS:=λD σ H=>te σ H λx H1=>g x σ H1 D.nx
def zgw{tg e:AM}{te:TE}{g:TG}(he:PE X e te)(hg:PG X tg g)(hs:swapsWithSole [tg] e pos.line X.env=pure false:=by rfl)(hw:swappedStores [tg] e X.env=pure none:=by rfl)
  (h1:(assignEach [tg] X.env).map (·.2)=[assign tg X.env]:=by rfl):PS X (.Assign [tg] e pos) (ydQ te g):=by
 intro π s σ H D I h;refine wpAny_Assign_stores (thn (he π s σ H _ I h) λv s1 kq=>?_) hs hw;let⟨x,H1,I1,r1,q1⟩:=kq;rw[h1];exact thn (hg π s1 σ H1 x v _ I1 r1 q1) λ_ s2 q=>q
def zgq{i:Nat}{x:AN}{e:AM}{te:TE}{pos':Bc}(hN:X.N.Nodup)(hi:X.N[i]?=AA x)(hx:Loc X.env.scope x)(he:PE X e te)(hs:swapsWith e (AA (.Name x pos')) pos.line X.env=pure false:=by rfl)(hf:X.fn x=AC \/ X.env.scope.names.lookup x=AA .local:=by first|exact .inl rfl|exact .inr rfl|assumption):
  PS X (.Assign [.Name x pos'] e pos) (ydQ te (ybM i)):=by
 intro π s σ H D I h;refine wpAny_Assign_Name (thn (he π s σ H _ I h) λv s1 kq=>?_) hs;let⟨y,H1,I1,r1,q1⟩:=kq;exact zz I1 hN hi hx r1 (λs2 I2=>⟨_,H1,I2,q1⟩) hf
def ye1(i j:Nat)(ta:TA):TS:=λD σ H=>ta σ H λvs H1=>∃v w,vs=[v,w]/\D.nx ((σ.set i (AA v)).set j (AA w)) H1
def zju{i j:Nat}{x y:AN}{a b:AM}{ta:TA}{px py pt:Bc}{kt k2 pt2}(hc:X.calm=AC)(hN:X.N.Nodup)(hi:X.N[i]?=AA x)(hj:X.N[j]?=AA y)(hij:i≠j)
  (hx:X.env.scope.names.lookup x=AA .local) (hy:X.env.scope.names.lookup y=AA .local) (ha:PA X [a,b] ta)
  (hw:swappedStores [.Tuple [.Name x px,.Name y py] kt pt] (.Tuple [a,b] k2 pt2) X.env=pure (AA [x,y]))
  (hs:swapsWithSole [.Tuple [.Name x px,.Name y py] kt pt] (.Tuple [a,b] k2 pt2) pos.line X.env=pure false:=by rfl):
  PS X (.Assign [.Tuple [.Name x px,.Name y py] kt pt] (.Tuple [a,b] k2 pt2) pos) (ye1 i j ta):=by
 intro π s σ H D I h;rw[exec_Assign_arm];refine AI (B3 ?_);rw[hs];refine AI (AO ?_);rw[if_neg ⋯];refine AI (Tuple_ (thn (ha _ π s σ H _ I h) λus s1 kq=>?_));let⟨vs,H1,I1,r1,q1⟩:=kq;let⟨v,w,e1,q1⟩:=q1;subst e1;obtain⟨u1,u2,rfl,rv,rw'⟩:∃u1 u2,us=[u1,u2]/\RelV v u1/\RelV w u2:=by
  cases r1 with
  |cons p q=>
   cases q with
   |cons p' q'=>
    cases q'
    exact⟨_,_,rfl,p,p'⟩
 refine Aw ?_ (by show 2<=sizeLine;decide);have I2:Inv X π σ H1 {s1 with heap:=s1.heap.push {cls:=.type "tuple",data:=.seq [u1,u2].toArray} }:=I1.kept (t':=s1.toks) λb o e=>AS _ e;rw[hw];refine AI (AO ?_);show A2 (model X.prog X.w) X.A (do rule "assign.swapped-stores";let items <-unpackItems (.ref s1.heap.objs.size) 2 AB;assignInOrder [λv=>bindName X.env y v,λv=>bindName X.env x v] items.reverse;pure Gc) _ _ _;refine AI (ET (AI (unpackItems_tuple (items:=#[u1,u2]) (I.ok.hd hc) (IsTup.new s1.heap _) λh' hx'=>?_)));have I3:=I2.kept (h':=h') (t':=s1.toks) λb o e=>hx' b o (Af (AX e)) e;show A2 _ _ (assignInOrder [λv=>bindName X.env y v,λv=>bindName X.env x v] [u2,u1] >>= λ_=>pure Gc) _ _ _;refine AI (D3 (Eg (zz I3 hN hj (.inl hy) rw' (λs2 I4=>?_) (.inr hy))));refine D3 (Eg (zz I4 hN hi (.inl hx) rv (λs3 I5=>F1 (AO ?_)) (.inr hx)));rw[List.set_comm _ _ (Bu hij)]at I5;exact⟨_,H1,I5,q1⟩
def ygr(i:Nat)(te:TE)(ti:TIp):TS:=λD σ H=>∃x,σ[i]?=AA (AA x)/\te σ H λy H1=>ti x y H1 λz H2=>D.nx (σ.set i (AA z)) H2
def zjl{i:Nat}{x:AN}{e:AM}{te:TE}{op:EC}{ti:TIp}{pos':Bc}(hN:X.N.Nodup)(hi:X.N[i]?=AA x)(hx:Loc X.env.scope x)(he:PE X e te)(ho:PIp X op ti)(hf:X.fn x=AC \/ X.env.scope.names.lookup x=AA .local:=by first|exact .inl rfl|exact .inr rfl|assumption):
  PS X (.AugAssign (.Name x pos') op e pos) (ygr i te ti):=by
 intro π s σ H D I h;let⟨v,e1,h⟩:=h;let⟨m,hn,hl⟩:=I.loc;have vis:Vis X.env.scope x:=by rcases hx with k|k;exact .inl k;exact .inr (.inl k)
 let⟨u,r,l⟩:=hl i x v hi e1 vis;refine wpAny_AugAssign_Name ?_;have go:A2 (model X.prog X.w) X.A (eval e X.env) (λw s₂=>A2 (model X.prog X.w) X.A (inplaceOp op u w) (λr s₃=>A2 (model X.prog X.w) X.A (storeName X.env x r) (λ_=>SP X π D .next) X.xe s₃) X.xe s₂) X.xe s:=by
  refine thn (he π s σ H _ I h) λw s1 kq=>?_;let⟨y,H1,I1,r1,q1⟩:=kq;refine thn (ho π s1 σ H1 v y u w _ I1 r r1 q1) λz s2 kq=>?_;let⟨zv,H2,I2,r2,q2⟩:=kq;exact zz I2 hN hi hx r2 (λs3 I3=>⟨_,H2,I3,q2⟩) hf
 rcases l with⟨hk,hm⟩|⟨hk,c,hc,hcell⟩
 .exact Ef I.ok.kind hk hn hm go
 .rcases hk with hk|hk
  .exact FA I.ok.kind hk hc hcell go
  .rcases hx with k|k
   .have:X.env.scope.names.lookup x=AA .free:=hk;rw[k]at this;cases this
   .have:X.env.scope.names.lookup x=AA .free:=hk;rw[k]at this;cases this
def ipI(f:Int->Int->Int):TIp:=λx y H Q=>∃i j,x=.int i/\y=.int j/\Q (.int (f i j)) H
def zjY:PIp X .Add (ipI λi j=>i+j):=by
 intro π s σ H x y v u Q I r1 r2 h;let⟨i,j,e1,e2,q⟩:=h;subst e1;subst e2;let⟨t,rfl⟩:=r1;let⟨t',rfl⟩:=r2;exact iadd_int ⟨.int _,H,I.tok _,⟨_,rfl⟩,q⟩
end
section
variable {X:Cx}{pos:Bc}
def ycF(c:TT)(tb:TS):TS:=λD σ H=>∃W:Nat->St->Hp->Prop,(∃m,W m σ H)/\∀m σ H,W m σ H ->
 c σ H λb H1=>if b=AC then ∃N:St->Hp->Prop,(∀σ' H',N σ' H'->∃m',m' < m/\W m' σ' H')/\tb {D with nx:=N,ct:=N,bk:=D.nx} σ H1 else D.nx σ H1
def zfw{c:AM}{body:List Bd}{tc:TT}{tb:TS}(hp:DY (model X.prog X.w) X.A X.env X.xe)(hc:PT X c tc)(hb:PSs X body tb):PS X (.While c body [] pos) (ycF tc tb):=by
 intro π s σ H D I h;let⟨W,⟨m0,w0⟩,turn⟩:=h;refine wpAny_While (codeAny_whileLoop (λn s'=>∃σ' H',Inv X π σ' H' s'/\W n σ' H') ?_ m0 ⟨σ,H,I,w0⟩)
 rintro n s1 ⟨σ1,H1,I1,w1⟩
 refine Br hp (thn (hc π s1 σ1 H1 _ I1 (turn n σ1 H1 w1)) λb s2 kq=>?_);let⟨H2,I2,q2⟩:=kq
 cases b with
 |true=>
  let⟨N,hN,q2⟩:=q2;rw[if_pos rfl];refine Br hp (thn (hb π s2 σ1 H2 _ I2 q2) λf s3 q3=>?_)
  cases f with
  |next=>
   let⟨σ3,H3,I3,n3⟩:=q3;let⟨m',hm,w3⟩:=hN σ3 H3 n3;exact⟨m',hm,σ3,H3,I3,w3⟩
  |cont=>
   let⟨σ3,H3,I3,n3⟩:=q3;let⟨m',hm,w3⟩:=hN σ3 H3 n3;exact⟨m',hm,σ3,H3,I3,w3⟩
  |brk=>exact q3
  |ret v=>exact q3
 |false=>
  rw[if_neg AV];exact Ci ⟨σ1,H2,I2,q2⟩
end
structure It where
 go:Nat->Hp->Prop
 yld:Nat->Hp->V->Hp->Prop
 stop:Nat->Hp->Prop
def yal(X:Cx)(π:List (AG×BR))(H:Hp)(b:AG):Prop:=
 H b=AB/\b≠X.env.locals/\b∉X.fs/\(b∈X.ex \/ X.s₀.heap.objs.size<=b)/\(∀x c,X.env.cells.lookup x=AA c->c≠b)/\∀p∈X.pn++π,p.1≠b
theorem Inv.fpOk{X:Cx}{π:List (AG×BR)}{σ:St}{H H':Hp}{s:AH}{b:AG}(I:Inv X π σ H s)(hb:s.heap.objs.size<=b)(hn:H' b=AB):yal X π H' b:=by
 refine⟨hn,EU (A0 I.lt hb),I.nofs hb,.inr (BC I.sz hb),λx c e z=>?_,λp hp z=>?_⟩
 .let⟨v,q⟩:=I.cell x c e;exact absurd (A0 q.lt (by rw[z];exact hb)) (Bi _)
 .exact absurd (A0 (AX (I.pin p hp).1) (by rw[z];exact hb)) (Bi _)
structure Turn(P:A3)(w:Aa)(K:AD)(tg:AM)(J:It)(fp:List AG)(it:AG)(tn:Nat->An->Prop):Prop where
 mem:it∈fp
 obj:∀i h,tn i h->∀b∈fp,∃o,h.get? b=AA o/\∀v,o.data ≠ .cell v
 keep:∀i h h',tn i h->(∀b∈fp,∀o,h.get? b=AA o->h'.get? b=AA o)->tn i h'
 item:∀(X:Cx),X.prog=P->X.w=w->X.K=K->X.calm=AC->∀(i:Nat) (π:List (AG×BR)) (s:AH) (σ:St) (H:Hp) (E:AF->AH->Prop),Inv X π σ H s->(∀b∈fp,yal X π H b)->tn i s.heap->J.go i H ->
  A2 (model P w) X.A (pyNext (.ref it)) (λr s1=>∃u,r=AA u /\
   A2 (model P w) X.A (letOwnedTupleGo tg (.ref it) u) (λ_ s2=>∃x H',Inv X π σ H' s2/\RelV x u/\J.yld i H x H'/\tn (i+1) s2.heap/\∀b∈fp,H' b=AB) E s1) E s
 done:∀(X:Cx),X.prog=P->X.w=w->X.K=K->X.calm=AC->∀(i:Nat) (π:List (AG×BR)) (s:AH) (σ:St) (H:Hp) (E:AF->AH->Prop),Inv X π σ H s->(∀b∈fp,yal X π H b)->tn i s.heap->J.stop i H ->
  A2 (model P w) X.A (pyNext (.ref it)) (λr s1=>r=AB/\Inv X π σ H s1) E s
 self:∀(A:A8) (i:Nat) (s:AH) (Q:AF->AH->Prop) (E:AF->AH->Prop),tn i s.heap->Q (.ref it) s->A2 (model P w) A (pyIter (.ref it)) Q E s
abbrev TI:=St->Hp->(It->Hp->Prop)->Prop
def PIE(X:Cx)(π:List (AG×BR))(σ:St)(tg:AM)(R:It->Hp->Prop)(itv:AF)(s2:AH):Prop:=
 ∃(it:AG) (fp:List AG) (tn:Nat->An->Prop) (J:It) (H':Hp),itv=.ref it/\Inv X π σ H' s2/\Turn X.prog X.w X.K tg J fp it tn/\tn 0 s2.heap/\(∀b∈fp,yal X π H' b)/\R J H'
def PI(X:Cx)(tg iter:AM)(wi:TI):Prop:=
 ∀(π:List (AG×BR)) (s:AH) (σ:St) (H:Hp) (R:It->Hp->Prop),Inv X π σ H s->wi σ H R ->
  A2 (model X.prog X.w) X.A (eval iter X.env) (λv s1=>A2 (model X.prog X.w) X.A (pyIter v) (PIE X π σ tg R) X.xe s1) X.xe s
def zhO{M:GM}{A:A8}{E:AF->AH->Prop}{s:AH}{tg:AM}{it:AG}{u:AF}{o:BR}{n:String}{vs:Array AF}{Q:Unit->AH->Prop}(ho:s.heap.get? it=AA o)(hc:o.cls=.type n)(hd:o.data=.fields vs)
  (hn:["enumerate","zip","dict_itemiterator","dict_reverseitemiterator","odict_iterator","itertools.zip_longest","itertools.pairwise"].contains n=AE) (hQ:Q () s):A2 M A (letOwnedTupleGo tg (.ref it) u) Q E s:=by
 unfold letOwnedTupleGo
 cases tg<;>first
  |exact AO hQ
  | (cases u<;>first
    |exact AO hQ
    | (refine AI (wpAny_load ho ?_)
       rw[hc,hd];show A2 M A (if (["enumerate","zip","dict_itemiterator","dict_reverseitemiterator","odict_iterator","itertools.zip_longest","itertools.pairwise"].contains n&&vs[0]? == AA (rawInt _))=AC then _ else _) Q E s;rw[if_neg (by intro h;rw[hn,Bool.false_and]at h;cases h)];exact AO hQ))
def Itl(K:AD)(a:AG):It:=
 ⟨λi H=>∃xs x,SqL K H a xs/\xs[i]?=AA x,λi H x H'=>H'=H/\∀xs,SqL K H a xs->xs[i]?=AA x,λi H=>∃xs,SqL K H a xs/\xs.length<=i⟩
def Itt(K:AD)(a:AG):It:=
 ⟨λi H=>∃xs x,SqT K H a xs/\xs[i]?=AA x,λi H x H'=>H'=H/\∀xs,SqT K H a xs->xs[i]?=AA x,λi H=>∃xs,SqT K H a xs/\xs.length<=i⟩
def Itr(lo:Int)(n:Nat):It:=⟨λi _=>i<n,λi H x H'=>H'=H/\x=.int (lo+i),λi _=>n<=i⟩
def zfb{P:A3}{w:Aa}{K:AD}{tg:AM}(a it:AG):Turn P w K tg (Itl K a) [it] it (λi h=>h.IsListIter it a i) where
 mem:=by simp
 obj:=λi h st b hb=>by
  have e:b=it:=by simpa using hb
  subst e;let⟨o,e,c,d⟩:=st;exact⟨o,e,λv z=>by rw[d]at z;cases z⟩
 keep:=λi h h' st k=>st.at λo e=>k it (by simp) o e
 item:=by
  intro X hP hw hK hc i π s σ H E I hf st hg;subst hP hw hK;let⟨xs,x,hq,hx⟩:=hg;let⟨its,rv,p,hz⟩:=I.list hq;let⟨u,hu,ru⟩:=rv.get hx;let⟨f0,f1,f2,f3,f4,f5⟩:=hf it (by simp);refine wpAny_pyNext_list_item st p.isList (x:=u) (by simpa using hu) λh' st' sb=>?_;have I1:Inv X π σ H {s with heap:=h'}:=I.turned (t':=s.toks) (λb o hb e=>(sb.2 b hb).trans e) f0 f1 f3 f4 f5;let⟨o,e,c,d⟩:=id st';exact⟨u,rfl,zhO (s:={s with heap:=h'}) e c d ⋯ ⟨x,H,I1,ru,⟨rfl,λys hy=>by rw[I.list_inj hy hq];exact hx⟩,st',λb hb=>(hf b hb).1⟩⟩
 done:=by
  intro X hP hw hK hc i π s σ H E I hf st hg;subst hP hw hK;let⟨xs,hq,hx⟩:=hg;let⟨its,rv,p,hz⟩:=I.list hq;let⟨f0,f1,f2,f3,f4,f5⟩:=hf it (by simp);have hl:=rv.length;exact wpAny_pyNext_list_end (I.ok.hd hc) st p.isList (by simp;lia) λh' eb=>⟨rfl,I.turned (t':=s.toks) (λb o hb e=>eb b o hb e) f0 f1 f3 f4 f5⟩
 self:=λ_ _ _ _ _ st h=>wpAny_pyIter_listiter st h
def zc6{P:A3}{w:Aa}{K:AD}{tg:AM}(a it:AG):Turn P w K tg (Itt K a) [it] it (λi h=>h.IsTupleIter it a i) where
 mem:=by simp
 obj:=λi h st b hb=>by
  have e:b=it:=by simpa using hb
  subst e;let⟨o,e,c,d⟩:=st;exact⟨o,e,λv z=>by rw[d]at z;cases z⟩
 keep:=λi h h' st k=>st.at λo e=>k it (by simp) o e
 item:=by
  intro X hP hw hK hc i π s σ H E I hf st hg;subst hP hw hK;let⟨xs,x,hq,hx⟩:=hg;let⟨its,rv,p,hz⟩:=I.tuple hq;let⟨u,hu,ru⟩:=rv.get hx;let⟨f0,f1,f2,f3,f4,f5⟩:=hf it (by simp);refine wpAny_pyNext_tuple_item st (show s.heap.IsTuple a its.toArray from p) (x:=u) (by simpa using hu) λh' st' sb=>?_;have I1:Inv X π σ H {s with heap:=h'}:=I.turned (t':=s.toks) (λb o hb e=>(sb.2 b hb).trans e) f0 f1 f3 f4 f5;let⟨o,e,c,d⟩:=id st';exact⟨u,rfl,zhO (s:={s with heap:=h'}) e c d ⋯ ⟨x,H,I1,ru,⟨rfl,λys hy=>by rw[I.tuple_inj hy hq];exact hx⟩,st',λb hb=>(hf b hb).1⟩⟩
 done:=by
  intro X hP hw hK hc i π s σ H E I hf st hg;subst hP hw hK;let⟨xs,hq,hx⟩:=hg;let⟨its,rv,p,hz⟩:=I.tuple hq;let⟨f0,f1,f2,f3,f4,f5⟩:=hf it (by simp);have hl:=rv.length;exact wpAny_pyNext_tuple_end (I.ok.hd hc) st (show s.heap.IsTuple a its.toArray from p) (by simp;lia) λh' eb=>⟨rfl,I.turned (t':=s.toks) (λb o hb e=>eb b o hb e) f0 f1 f3 f4 f5⟩
 self:=λ_ _ _ _ _ st h=>wpAny_pyIter_tupleiter st h
def zdj{P:A3}{w:Aa}{K:AD}{tg:AM}(it:AG)(lo:Int)(n:Nat):Turn P w K tg (Itr lo n) [it] it (λi h=>IsRangeIter h it (lo+(i:Nat)*1) ((n:Int)-(i:Nat)) 1) where
 mem:=by simp
 obj:=λi h st b hb=>by
  have e:b=it:=by simpa using hb
  subst e;exact⟨_,st,λv z=>by
   have z':Data.fields _=Data.cell v:=z
   cases z'⟩
 keep:=λi h h' st k=>k it (by simp) _ st
 item:=by
  intro X hP hw hK hc i π s σ H E I hf st hg;subst hP hw hK;let⟨f0,f1,f2,f3,f4,f5⟩:=hf it (by simp);have W:=Walks.range (prog:=X.prog) (w:=X.w) (I.ok.hd hc) it lo 1 n;refine W.item i s _ _ hg st λv h' tk hv st' kk=>?_;let⟨t,rfl⟩:=hv;have I1:Inv X π σ H {s with heap:=h',toks:=tk}:=I.turned (λb o hb e=>kk b o (by simpa using hb) e) f0 f1 f3 f4 f5;refine⟨_,rfl,zhO (s:={s with heap:=h',toks:=tk}) (n:="range_iterator") st' rfl rfl ⋯ ⟨.int (lo+i),H,I1,⟨t,?_⟩,⟨rfl,rfl⟩,st',λb hb=>(hf b hb).1⟩⟩;rw[Gq]
 done:=by
  intro X hP hw hK hc i π s σ H E I hf st hg;subst hP hw hK;let⟨f0,f1,f2,f3,f4,f5⟩:=hf it (by simp);exact wpAny_pyNext_range_end (I.ok.hd hc) st (by have:n<=i:=hg;lia) λh' eb=>⟨rfl,I.turned (t':=s.toks) (λb o hb e=>eb b o hb e) f0 f1 f3 f4 f5⟩
 self:=λ_ _ _ _ _ st h=>wpAny_pyIter_rangeiter st h
section
variable {X:Cx}{tg:AM}
def zfh{π:List (AG×BR)}{σ:St}{H:Hp}{s:AH}{R:It->Hp->Prop}{E:AF->AH->Prop}{lo hi:Int}{t u v:GX}{tk:Nat}(I:Inv X π σ H s)(h1:-(2^62)<=lo)(h2:lo<2^62)(h3:-(2^62)<=hi)(h4:hi<2^62)
  (q:R (Itr lo (hi-lo).toNat) H):A2 (model X.prog X.w) X.A (pyIter (.ref s.heap.objs.size)) (PIE X π σ tg R) E {s with heap:=s.heap.push {cls:=.type "range",data:=.fields #[.int lo t,.int hi u,.int 1 v]},toks:=tk}:=by
 refine wpAny_pyIter_range (IsRange.new ..) (small_one h1 h2 h3 h4) ?_;have I1:Inv X π σ H {s with heap:=s.heap.push {cls:=.type "range",data:=.fields #[.int lo t,.int hi u,.int 1 v]},toks:=tk}:=I.kept λb o e=>AS _ e;refine⟨(s.heap.push {cls:=.type "range",data:=.fields #[.int lo t,.int hi u,.int 1 v]}).objs.size,[(s.heap.push {cls:=.type "range",data:=.fields #[.int lo t,.int hi u,.int 1 v]}).objs.size],_,_,H,rfl,
  I1.kept (t':=tk) λb o e=>AS _ e,zdj _ lo (hi-lo).toNat,?_,λb hb=>?_,q⟩
 .have e1:lo+((0:Nat):Int)*1=lo:=by simp
  have e2:(((hi-lo).toNat:Nat):Int)-((0:Nat):Int)=Gd lo hi 1:=by rw[rangeSize_one];split<;>lia
  show IsRangeIter _ _ (lo+((0:Nat):Int)*1) ((((hi-lo).toNat:Nat):Int)-((0:Nat):Int)) 1;rw[e1,e2];exact A7 _ rfl
 .have e:b=(s.heap.push {cls:=.type "range",data:=.fields #[.int lo t,.int hi u,.int 1 v]}).objs.size:=by simpa using hb
  subst e;exact I1.fpOk (AR _) (I1.hok.fresh (AR _))
def yef(ta:TA):TI:=λσ H R=>ta σ H λvs H1=>∃j:Int,vs=[.int j]/\-(2^62)<=j/\j<2^62/\R (Itr 0 j.toNat) H1
def zbo{a:AM}{ta:TA}{p pos:Bc}(hg:Gl X "range")(hm:X.mg "range"=AB)(ha:PA X [a] ta)(hs:starEach [a] X.env=[(AE,eval a X.env)]:=by rfl):PI X tg (.Call (.Name "range" p) [a] [] pos) (yef ta):=by
 intro π s σ H R I h;refine Call_ (zbC I hg hm boot_range (CW (thn (ha pos π s σ H _ I h) λus s1 kq=>?_) hs rfl));let⟨vs,H1,I1,r1,q1⟩:=kq;let⟨j,e,q1,q2,q⟩:=q1;subst e
 cases r1 with
 |cons r rr=>
  cases rr
  let⟨t,rfl⟩:=r;exact call_range_1 (zfh I1 ∅ ∅ q1 q2 (by simpa using q))
def yfa(wi:TI)(g:TG)(tb:TS):TS:=λD σ H=>wi σ H λJ H1=>∃W:Nat->Nat->St->Hp->Prop,(∃m,W 0 m σ H1)/\∀i m σ H,W i m σ H ->
 (J.stop i H/\D.nx σ H) \/ (J.go i H/\∃N:St->Hp->Prop,(∀σ' H',N σ' H'->∃m',m' < m/\W (i+1) m' σ' H')/\∀x H',J.yld i H x H'->g x σ H' λσ2 H2=>tb {D with nx:=N,ct:=N,bk:=D.nx} σ2 H2)
def yaF(fp:List AG)(h:An):List (AG×BR):=fp.filterMap λb=>(h.get? b).map λo=>(b,o)
def zr{fp:List AG}{h:An}{b:AG}{o:BR}(hb:b∈fp)(e:h.get? b=AA o):(b,o)∈yaF fp h:=D4.mpr ⟨b,hb,by rw[e];rfl⟩
def zdH{fp:List AG}{h:An}{p:AG×BR}(hp:p∈yaF fp h):p.1∈fp/\h.get? p.1=AA p.2:=by
 let⟨b,hb,e⟩:=D4.mp hp
 cases q:h.get? b with
 |none=>rw[q]at e;cases e
 |some o=>
  rw[q]at e;have e':(b,o)=p:=AU e;subst e';exact⟨hb,q⟩
theorem Inv.pinned{π:List (AG×BR)}{σ:St}{H:Hp}{s:AH}{fp:List AG}(I:Inv X π σ H s)(hf:∀b∈fp,yal X π H b)(ho:∀b∈fp,∃o,s.heap.get? b=AA o/\∀v,o.data ≠ .cell v):Inv X (π++yaF fp s.heap) σ H s:=
 I.pins_of λp hp=>(BE.mp hp).elim (λz=>I.pin p (A9 _ z)) λz=>by
  let⟨hb,e⟩:=zdH z;let⟨f0,f1,f2,_⟩:=hf p.1 hb;let⟨o,e',d⟩:=ho p.1 hb;rw[e]at e';cases e';exact⟨e,f0,f1,f2,d⟩
theorem Inv.unpinned{π pl:List (AG×BR)}{σ:St}{H:Hp}{s:AH}(I:Inv X (π++pl) σ H s):Inv X π σ H s:=I.pins_of λp hp=>I.pin p (A9 _ (C2 _ hp))
def zgA{iter:AM}{body:List Bd}{wi:TI}{g:TG}{tb:TS}{pos:Bc}(hp:DY (model X.prog X.w) X.A X.env X.xe)(hc:X.calm=AC)(hi:PI X tg iter wi)(hg:PG X tg g)(hb:PSs X body tb)
  (hs:∀x,foldedSetIterable iter X.env x=pure x:=by intro _;rfl):PS X (.For tg iter body [] pos) (yfa wi g tb):=by
 intro π s σ H D I h;refine wpAny_For (thn (hi π s σ H _ I h) λv s1 h1=>thn h1 λitv s2 h2=>?_) hs;let⟨it,fp,tn,J,H2,e,I2,T,st2,f2,W,⟨m0,w0⟩,turn⟩:=h2;subst e;have stat:∀{H':Hp},(∀b∈fp,H' b=AB)->∀b∈fp,yal X π H' b:=λhn b hb=>⟨hn b hb,(f2 b hb).2⟩;refine codeAny_forLoop_any (λn s'=>∃i σ' H',Inv X π σ' H' s'/\tn i s'.heap/\(∀b∈fp,H' b=AB)/\W i n σ' H') ?_ m0 ⟨0,σ,H2,I2,st2,λb hb=>(f2 b hb).1,w0⟩
 rintro n s3 ⟨i,σ3,H3,I3,st3,fr3,w3⟩
 rcases turn i n σ3 H3 w3 with⟨stop,qn⟩|⟨go,N,hN,step⟩
 .refine Br hp (thn (T.done X rfl rfl rfl hc i π s3 σ3 H3 X.xe I3 (stat fr3) st3 stop) λr s4 kq=>?_);let⟨hr,I4⟩:=kq;subst hr;exact Ci ⟨σ3,H3,I4,qn⟩
 .refine Br hp (thn (T.item X rfl rfl rfl hc i π s3 σ3 H3 X.xe I3 (stat fr3) st3 go) λr s4 kq=>?_);let⟨u,hr,h4⟩:=kq;subst hr;refine Br hp (thn h4 λ_ s5 kq=>?_);let⟨x,H5,I5,r5,y5,st5,fr5⟩:=kq;have I5':=I5.pinned (stat fr5) (T.obj _ _ st5);refine Br hp (thn (hg _ s5 σ3 H5 x u _ I5' r5 (step x H5 y5)) λ_ s6 kq=>?_);let⟨σ6,H6,I6,q6⟩:=kq;refine Br hp (thn (hb _ s6 σ6 H6 _ I6 q6) λf s7 q7=>?_);have again:∀{σ7:St} {H7:Hp},Inv X (π++yaF fp s5.heap) σ7 H7 s7->N σ7 H7->∃m,m<n/\∃i σ' H',Inv X π σ' H' s7/\tn i s7.heap/\(∀b∈fp,H' b=AB)/\W i m σ' H':=λ{σ7 H7} I7 n7=>by
   let⟨m',hm,w7⟩:=hN σ7 H7 n7;refine⟨m',hm,i+1,σ7,H7,I7.unpinned,T.keep _ _ _ st5 λb hb o e=>(I7.pin (b,o) (A9 _ (A9 _ (zr hb e)))).1,λb hb=>?_,w7⟩;let⟨o,e,d⟩:=T.obj _ _ st5 b hb;exact(I7.pin (b,o) (A9 _ (A9 _ (zr hb e)))).2.1
  cases f with
  |next=>let⟨σ7,H7,I7,n7⟩:=q7;exact again I7 n7
  |cont=>let⟨σ7,H7,I7,n7⟩:=q7;exact again I7 n7
  |brk=>let⟨σ7,H7,I7,q7⟩:=q7;exact⟨σ7,H7,I7.unpinned,q7⟩
  |ret v=>let⟨x7,σ7,H7,I7,r7,q7⟩:=q7;exact⟨x7,σ7,H7,I7.unpinned,r7,q7⟩
end
abbrev R2:=V->V->Hp->VK->Prop
def OpR(X:Cx)(f:AF->AF->Fi AF)(r:R2):Prop:=
 ∀(π:List (AG×BR)) (s:AH) (σ:St) (H:Hp) (x y:V) (v u:AF) (Q:VK),Inv X π σ H s->RelV x v->RelV y u->r x y H Q ->
  A2 (model X.prog X.w) X.A (f v u) (EP X π σ Q) X.xe s
def yag(X:Cx)(f:AF)(r:List V->Hp->VK->Prop):Prop:=
 ∀(π:List (AG×BR)) (s:AH) (σ:St) (H:Hp) (xs:List V) (us:List AF) (Q:VK),Inv X π σ H s->Vals xs us->r xs H Q ->
  A2 (model X.prog X.w) X.A (call f us) (EP X π σ Q) X.xe s
def yfm(X:Cx)(r:V->Hp->(Bool->Hp->Prop)->Prop):Prop:=
 ∀(π:List (AG×BR)) (s:AH) (σ:St) (H:Hp) (x:V) (v:AF) (Q:Bool->Hp->Prop),Inv X π σ H s->RelV x v->r x H Q ->
  A2 (model X.prog X.w) X.A (truthy v) (TP X π σ Q) X.xe s
def tOp(r:R2)(ta tb:TE):TE:=λσ H Q=>ta σ H λx H1=>tb σ H1 λy H2=>r x y H2 Q
def rI(C:Int->Int->Prop)(g:Int->Int->V):R2:=λx y H Q=>∃i j,x=.int i/\y=.int j/\C i j/\Q (g i j) H
def rI0(g:Int->Int->V):R2:=λx y H Q=>∃i j,x=.int i/\y=.int j/\Q (g i j) H
section
variable {X:Cx}{a b c:AM}{ta tb tc:TE}{pos:Bc}
def zkW(ha:PE X a ta)(hb:PE X b tb){π:List (AG×BR)}{s:AH}{σ:St}{H:Hp}{R:V->V->Hp->Prop}(I:Inv X π σ H s)
  (h:ta σ H λx H1=>tb σ H1 λy H2=>R x y H2) {Q:AF->AH->Prop} {f:AF->AF->Fi AF}
  (hf:∀v u s2 x y H2,Inv X π σ H2 s2->RelV x v->RelV y u->R x y H2->A2 (model X.prog X.w) X.A (f v u) Q X.xe s2):
  A2 (model X.prog X.w) X.A (eval a X.env) (λv s₁=>A2 (model X.prog X.w) X.A (eval b X.env) (λu s₂=>A2 (model X.prog X.w) X.A (f v u) Q X.xe s₂) X.xe s₁) X.xe s:=by
 refine thn (ha π s σ H _ I h) λv s1 kq=>?_;let⟨x,H1,I1,r1,q1⟩:=kq;refine thn (hb π s1 σ H1 _ I1 q1) λu s2 kq=>?_;let⟨y,H2,I2,r2,q2⟩:=kq;exact hf v u s2 x y H2 I2 r1 r2 q2
def ziH{op:EC}{r:R2}(ho:OpR X (binaryOp op) r)(ha:PE X a ta)(hb:PE X b tb):PE X (.BinOp a op b pos) (tOp r ta tb):=by
 intro π s σ H Q I h;exact wpAny_BinOp (zkW ha hb I h λv u s2 x y H2 I2 rx ry q=>ho π s2 σ H2 x y v u Q I2 rx ry q)
theorem opI{f:AF->AF->Fi AF}{C:Int->Int->Prop}{g:Int->Int->Int}
  (rule:∀(i j:Int) (t u:GX) (s:AH) (Q:AF->AH->Prop) (E:AF->AH->Prop),C i j->Q (.int (g i j) s.toks) {s with toks:=s.toks+1}->A2 (model X.prog X.w) X.A (f (.int i t) (.int j u)) Q E s):
  OpR X f (rI C λi j=>.int (g i j)):=by
 intro π s σ H x y v u Q I rx ry h;let⟨i,j,rfl,rfl,hc,q⟩:=h;let⟨t,rfl⟩:=rx;let⟨t',rfl⟩:=ry;exact rule i j t t' s _ _ hc ⟨.int (g i j),H,I.tok _,⟨_,rfl⟩,q⟩
def zkR{f:AF->AF->Fi AF}{g:Int->Int->Int}
  (rule:∀(i j:Int) (t u:GX) (s:AH) (Q:AF->AH->Prop) (E:AF->AH->Prop),Q (.int (g i j) s.toks) {s with toks:=s.toks+1}->A2 (model X.prog X.w) X.A (f (.int i t) (.int j u)) Q E s):
  OpR X f (rI0 λi j=>.int (g i j)):=by
 intro π s σ H x y v u Q I rx ry h;let⟨i,j,rfl,rfl,q⟩:=h;let⟨t,rfl⟩:=rx;let⟨t',rfl⟩:=ry;exact rule i j t t' s _ _ ⟨.int (g i j),H,I.tok _,⟨_,rfl⟩,q⟩
def zkX{f:AF->AF->Fi AF}{g:Int->Int->Bool}
  (rule:∀(i j:Int) (t u:GX) (s:AH) (Q:AF->AH->Prop) (E:AF->AH->Prop),Q (.bool (g i j)) s->A2 (model X.prog X.w) X.A (f (.int i t) (.int j u)) Q E s):
  OpR X f (rI0 λi j=>.bl (g i j)):=by
 intro π s σ H x y v u Q I rx ry h;let⟨i,j,rfl,rfl,q⟩:=h;let⟨t,rfl⟩:=rx;let⟨t',rfl⟩:=ry;exact rule i j t t' s _ _ ⟨.bl (g i j),H,I,rfl,q⟩
def yey(i j:Int):Prop:=0<=j/\j<=1000000/\i.natAbs<2^64
def ycR(i j:Int):Prop:=(-(2^64)<i/\i<2^64) \/ (-(2^64)<j/\j<2^64)
theorem ycR.ok{i j:Int}(h:ycR i j):IntMulOk i j:=by
 rcases h with⟨h1,h2⟩|⟨h1,h2⟩
 .exact .of_left (intBits_le_64 h1 h2)
 .exact .of_right (intBits_le_64 h1 h2)
def zdq(k:Nat):(0:Int)<=2^k:=by
 rw[two_pow_cast];exact Int.natCast_nonneg _
def zj1:OpR X (binaryOp .Add) (rI0 λi j=>.int (i+j)):=zkR λ_ _ _ _ _ _ _ q=>add_int q
def ziO:OpR X (binaryOp .Sub) (rI0 λi j=>.int (i-j)):=zkR λ_ _ _ _ _ _ _ q=>sub_int q
def zjW:OpR X (binaryOp .Mult) (rI ycR λi j=>.int (i*j)):=opI λ_ _ _ _ _ _ _ hc q=>mul_int q hc.ok
def zj3:OpR X (binaryOp .Mod) (rI (λ_ j=>0<j) λi j=>.int (i%j)):=opI λi j _ _ _ _ _ hc q=>by
 have h1:(0:Int)<j:=hc;exact mod_int' ∅ (by rw[Int.fmod_eq_emod_of_nonneg i ∅];exact q)
def zi8:OpR X (binaryOp .Pow) (rI yey λi j=>.int (i^j.toNat)):=opI λ_ _ _ _ _ _ _ hc q=>pow_int_small hc.1 hc.2.1 hc.2.2 q
def zjd:OpR X (binaryOp .RShift) (rI (λ_ j=>0<=j) λi j=>.int (i/2^j.toNat)):=opI λi j _ _ _ _ _ hc q=>
 rshift_int hc (by rw[D5 i (zdq _)];exact q)
def ziG:OpR X (binaryOp .BitAnd) (rI0 λi j=>.int (Eh i j)):=zkR λ_ _ _ _ _ _ _ q=>and_int q
def zkr:OpR X (binaryOp .BitOr) (rI0 λi j=>.int (FI i j)):=zkR λ_ _ _ _ _ _ _ q=>or_int q
def zi1:OpR X (binaryOp .BitXor) (rI0 λi j=>.int (Ei i j)):=zkR λ_ _ _ _ _ _ _ q=>xor_int q
def zdJ:OpR X (binaryOp .Add) (λx y H Q=>∃i k,x=.int i/\y=.bl k/\Q (.int (i+b2i k)) H):=by
 intro π s σ H x y v u Q I rx ry h;let⟨i,k,rfl,rfl,q⟩:=h;let⟨t,rfl⟩:=rx
 cases ry
 exact add_int_bool ⟨.int (i+b2i k),H,I.tok _,⟨_,rfl⟩,q⟩
end
section
variable {X:Cx}{a b c:AM}{ta tb tc:TE}{pos:Bc}
def zgu{π:List (AG×BR)}{σ:St}{H:Hp}{s:AH}{Q:VK}{k k':Bool}(I:Inv X π σ H s)(q:Q (.bl k) H)(e:k=k'):EP X π σ Q (.bool k') s:=by
 subst e;exact⟨.bl k,H,I,rfl,q⟩
def zkG:OpR X (compareOp .Lt) (rI0 λi j=>.bl (decide (i<j))):=zkX λ_ _ _ _ _ _ _ q=>lt_int q
def zkq:OpR X (compareOp .Gt) (rI0 λi j=>.bl (decide (j<i))):=zkX λ_ _ _ _ _ _ _ q=>gt_int q
def zkF:OpR X (compareOp .GtE) (rI0 λi j=>.bl (decide (j<=i))):=zkX λ_ _ _ _ _ _ _ q=>ge_int q
def zd0:OpR X (compareOp .Lt) (λx y H Q=>∃i j,x=.str i/\y=.str j/\Q (.bl (decide (i.cps.toList<j.cps.toList))) H):=by
 intro π s σ H x y v u Q I rx ry h;let⟨i,j,rfl,rfl,q⟩:=h;let⟨t,rfl⟩:=rx;let⟨t',rfl⟩:=ry;exact lt_str (zgu I q rfl)
def zeY:OpR X (compareOp .In) (λx y H Q=>∃i j,x=.str i/\y=.str j/\Q (.bl (!(CG j i 0 j.length 1).isEmpty)) H):=by
 intro π s σ H x y v u Q I rx ry h;let⟨i,j,rfl,rfl,q⟩:=h;let⟨t,rfl⟩:=rx;let⟨t',rfl⟩:=ry;exact in_str (zgu I q rfl)
def zer{op:Gr}{r:R2}(ho:OpR X (compareOp op) r)(ha:PE X a ta)(hb:PE X b tb)(hm:behindInMarks op b=AE):PE X (.Compare a [op] [b] pos) (tOp r ta tb):=by
 intro π s σ H Q I h;exact wpAny_Compare1 (zkW ha hb I h λv u s2 x y H2 I2 rx ry q=>ho π s2 σ H2 x y v u Q I2 rx ry q) hm
def yeg(t:TE):TT:=λσ H Q=>t σ H λx H'=>∃k,x=.bl k/\Q k H'
def zfe{op:Gr}{r:R2}(ho:OpR X (compareOp op) r)(ha:PE X a ta)(hb:PE X b tb)(hm:behindInMarks op b=AE):PT X (.Compare a [op] [b] pos) (yeg (tOp r ta tb)):=by
 intro π s σ H Q I h;refine wpAny_isTrue_Compare1 (thn (ha π s σ H _ I h) λv s1 ⟨x,H1,I1,r1,q1⟩=>thn (hb π s1 σ H1 _ I1 q1) λu s2 ⟨y,H2,I2,r2,q2⟩=>
  thn (ho π s2 σ H2 x y v u _ I2 r1 r2 q2) λc s3 ⟨z,H3,I3,r3,k,e,q3⟩=>?_) hm
 subst e
 cases r3
 exact CV ⟨H3,I3,q3⟩
def yd8(K:AD)(x:V)(H:Hp)(k:Bool):Prop:=
 match x with
 |.non=>k=AE
 |.bl b=>k=b
 |.int i=>k=(i != 0)
 |.str y=>y.length<=sizeLine/\k=((y.length:Int) != 0)
 |.byt y=>y.size<=sizeLine/\k=((y.size:Int) != 0)
 |.ref p=>(∃xs,SqL K H p xs/\k=!xs.isEmpty) \/ (∃xs,SqT K H p xs/\k=!xs.isEmpty) \/ ∃kvs,H p=AA (.dK kvs)/\k=!kvs.isEmpty
 |_=>False
def zdb{κ:Type}{kvs:List (κ×V)}{vs:List (κ×AF)}(r:KV kvs vs):(!vs.isEmpty)=!kvs.isEmpty:=by
 cases r<;>rfl
def za0{xs:List V}{its:List AF}(r:Vals xs its):(!its.toArray.isEmpty)=!xs.isEmpty:=by
 cases r<;>simp
def zkQ:(sizeLine:Nat)<2^63:=by rw[BG];decide
def zjC:yfm X (λx H Q=>∃k,yd8 X.K x H k/\Q k H):=by
 intro π s σ H x v Q I rx h;let⟨k,e,q⟩:=h;have hl:=zkQ;have hs:sizeLine=16777216:=BG
 cases x with
 |non=>
  cases rx
  have e':k=false:=e;subst e';exact truthy_none ⟨H,I,q⟩
 |bl b=>
  cases rx
  have e':k=b:=e;subst e';exact CV ⟨H,I,q⟩
 |int i=>
  let⟨t,rfl⟩:=rx;have e':k=(i != 0):=e;subst e';exact PySem.P.truthy_int ⟨H,I,q⟩
 |str y=>
  let⟨t,rfl⟩:=rx;obtain⟨hy,e'⟩:y.length<=sizeLine/\k=((y.length:Int) != 0):=e;subst e';exact PySem.P.truthy_str ∅ ⟨H,I.tok _,q⟩
 |byt y=>
  let⟨t,rfl⟩:=rx;obtain⟨hy,e'⟩:y.size<=sizeLine/\k=((y.size:Int) != 0):=e;subst e';exact PySem.W.truthy_bytes ∅ ⟨H,I.tok _,q⟩
 |ref p=>
  cases rx
  have e':(∃xs,SqL X.K H p xs/\k=!xs.isEmpty) \/ (∃xs,SqT X.K H p xs/\k=!xs.isEmpty) \/ ∃kvs,H p=AA (.dK kvs)/\k=!kvs.isEmpty:=e;rcases e' with⟨xs,hx,e'⟩|⟨xs,hx,e'⟩|⟨kvs,hx,e'⟩
  .subst e';let⟨its,r,pl,hz⟩:=I.list hx;have hlen:=r.length;exact wpAny_truthy_list pl.isList (by erw[AY];lia) ⟨H,I.tok _,by rw[za0 r];exact q⟩
  .subst e';let⟨its,r,pl,hz⟩:=I.tuple hx;have hlen:=r.length;exact truthy_tuple pl (by erw[AY];lia) ⟨H,I.tok _,by rw[za0 r];exact q⟩
  .subst e';obtain⟨hz,hS,vs,r,m⟩:kvs.length<=sizeLine/\(p==sysModules)=AE/\∃vs,KV kvs vs/\s.heap.DictOf (yaa X.prog X.w) p vs:=I.hok p _ hx;have hlen:kvs.length=vs.length:=FH r;exact wpAny_truthy_dict hS m ∅ ⟨H,I.tok _,by rw[zdb r];exact q⟩
 |_=>exact(show False from e).elim
def zf4(ha:PE X a ta)(he:∀whole,isTrue a X.env whole=(do let v <-whole;standAt a.pos;holding [v] (truthy v))):
  PT X a (λσ H Q=>ta σ H λx H'=>∃k,yd8 X.K x H' k/\Q k H'):=by
 intro π s σ H Q I h;exact isTrue_plain (thn (ha π s σ H _ I h) λv s1 ⟨x,H1,I1,r1,q1⟩=>zjC π s1 σ H1 x v Q I1 r1 q1) (he _)
def zdk:OpR X (binaryOp .Add) (λx y H Q=>∃i j,x=.str i/\y=.str j/\i.length+j.length<=sizeLine/\Q (.str (i++j)) H):=by
 intro π s σ H x y v u Q I rx ry h;let⟨i,j,rfl,rfl,hz,q⟩:=h;let⟨t,rfl⟩:=rx;let⟨t',rfl⟩:=ry;exact add_str (λt' tk=>⟨.str (i++j),H,I.tok _,⟨_,rfl⟩,q⟩) hz
theorem vals1{x:V}{us:List AF}(r:Vals [x] us):∃u,us=[u]/\RelV x u:=by
 cases r with
 |cons r1 r2=>cases r2;exact⟨_,rfl,r1⟩
theorem vals2{x y:V}{us:List AF}(r:Vals [x,y] us):∃u w',us=[u,w']/\RelV x u/\RelV y w':=by
 cases r with
 |cons r1 r2=>
  cases r2 with
  |cons r3 r4=>cases r4;exact⟨_,_,rfl,r1,r3⟩
end
section
variable {prog:A3}{w:Aa}{A:A8}{E:AF->AH->Prop}{s:AH}{K:AD}{x dx C f:AG}{mA:AN->Option AF}{name:AN}{v:AF}
end
def yek(f:AN)(v:V):List (AN×V)->List (AN×V)
 |[]=>[(f,v)]
 |(g,x)::r=>if g=f then(g,v)::r else(g,x)::yek f v r
theorem ybq.some_of{v:V}{o:Option AF}(r:ybq (AA v) o):∃u,o=AA u/\RelV v u:=by
 cases o with
 |none=>exact(show False from r).elim
 |some u=>exact⟨u,rfl,r⟩
section
variable {P:A3}{w:Aa}{H H':Hp}{h h':An}{a C dx:AG}{fs fs':List (AN×V)}
end
structure Cls(K:AD)(C:AG):Prop where
 pg:Fm K C DF=AC
 hd:F2 K C=AC
 po:F3 K C=AC
 sa:Ai K (.ref C) "__setattr__"=AA (AA (.builtin "object.__setattr__"))
def yb3(K:AD)(C:AG)(f:AN):Prop:=Ai K (.ref C) f=AA AB
structure Con(K:AD)(C:AG)(f:AN)(v:V)(u:AF):Prop where
 at_:Ai K (.ref C) f=AA (AA u)
 rel:RelV v u
 get:PySem.W.specialIn K u "__get__"=AA AB
 cp:PySem.W.copiedNames.contains f=AE
structure Meth(K:AD)(C:AG)(m:AN)(f:AG):Prop where
 at_:Ai K (.ref C) m=AA (AA (.ref f))
 fn:Cv K (.ref f)=AC
 kp:Ab K (.ref f)=AC
section
variable {X:Cx}{π:List (AG×BR)}{σ:St}{H:Hp}{s:AH}{a C dx:AG}{fs:List (AN×V)}{f:AN}{v:V}{A:A8}{E:AF->AH->Prop}
end
section
variable {X:Cx}{o e value:AM}{f:AN}{pos pos' tpos:Bc}{ta tv:TE}
end
section
variable {X:Cx}{π:List (AG×BR)}{σ:St}{H:Hp}{s:AH}{A:A8}{E:AF->AH->Prop}{Q:AF->AH->Prop}{c:AF}{b:Bool}
end
structure yas(k:Nat)(A:A8):Prop where
 hd:A.handled=AB
 dp:A.depth+3*k+5<recursionLimit
 un:A.units+16*k+200<cLine
theorem yas.mono{j k:Nat}{A:A8}(r:yas k A)(h:j<=k):yas j A:=⟨r.hd,by have:=r.dp;lia,by have:=r.un;lia⟩
theorem yas.deeper{k:Nat}{A:A8}(r:yas (k+1) A)(env:Env):yas k (A.deeper env):=
 ⟨r.hd,by have:=r.dp;show A.depth+1+3*k+5<_;lia,by have:=r.un;show A.units+3+16*k+200<_;lia⟩
theorem yas.depth{k:Nat}{A:A8}(r:yas k A):A.depth<recursionLimit:=by have:=r.dp;lia
def ydJ:TA:=λ_ H Q=>Q [] H
def ycT(ta:TE)(tr:TA):TA:=λσ H Q=>ta σ H λx H1=>tr σ H1 λxs H2=>Q (x::xs) H2
section
variable {X:Cx}{e:AM}{es:List AM}{te:TE}{t:TA}{pos:Bc}
def zkP:PA X [] ydJ:=λ_ _ _ _ H Q I h=>Calls.spliced_nil ⟨[],H,I,.nil,h⟩
def zB(ha:PE X e te)(hr:PA X es t)(hs:starEach (e::es) X.env=(AE,eval e X.env)::starEach es X.env:=by rfl):PA X (e::es) (ycT te t):=by
 intro pos π s σ H Q I h;rw[hs];show A2 _ _ (spliced ((AE,eval e X.env)::backTo pos (starEach es X.env))) _ _ s;refine Calls.spliced_cons (thn (ha π s σ H _ I h) λu s1 kq=>?_);let⟨x,H1,I1,r1,q1⟩:=kq;exact thn (hr pos π s1 σ H1 _ I1 q1) λus s2 ⟨xs,H2,I2,r2,q2⟩=>⟨x::xs,H2,I2,.cons r1 r2,q2⟩
def yf4(t:TA):TE:=λσ H Q=>t σ H λxs H1=>xs.length<=sizeLine/\∀p,H1 p=AB->Q (.ref p) (upd H1 p (.tup xs))
def ye6(t:TA):TE:=λσ H Q=>t σ H λxs H1=>xs.length<=sizeLine/\∀p,H1 p=AB->Q (.ref p) (upd H1 p (.lst xs))
def zgH{x1}(h:PA X es t):PE X (.Tuple es x1 pos) (yf4 t):=by
 intro π s σ H Q I hq;refine wpAny_Tuple_spliced (thn (h pos π s σ H _ I hq) λus s1 kq=>?_);let⟨xs,H1,I1,r,z,q⟩:=kq;refine ⟨by rw[<-r.length];exact z,?_⟩;have hf:H1 s1.heap.objs.size=none:=I1.hok.fresh (AR _);refine⟨.ref s1.heap.objs.size,upd H1 s1.heap.objs.size (.tup xs),I1.laid (t':=s1.toks) (λb u e=>AS _ e) (AR _) ?_,rfl,q _ hf⟩;exact⟨z,us,r,A7 _ rfl⟩
def zgr(h:PA X es t):PE X (.List es pos) (ye6 t):=by
 intro π s σ H Q I hq;refine wpAny_List_spliced (thn (h pos π s σ H _ I hq) λus s1 kq=>?_);let⟨xs,H1,I1,r,z,q⟩:=kq;refine ⟨by rw[<-r.length];exact z,?_⟩;have hf:H1 s1.heap.objs.size=none:=I1.hok.fresh (AR _);refine⟨.ref s1.heap.objs.size,upd H1 s1.heap.objs.size (.lst xs),I1.laid (t':=s1.toks) (λb u e=>AS _ e) (AR _) ?_,rfl,q _ hf⟩;exact⟨z,us,0,r,A7 _ rfl⟩
end
abbrev Sp:=List V->Hp->VK->XK->Prop
abbrev CXT:=List Env->Hp->AH->XK->AF->AH->Prop
structure ycv(P:A3)(w:Aa)(K:AD)(mg:AN->Option AF)(base:An)(A:A8)(outer:List Env)(s:AH)(H:Hp):Prop where
 frames:A.frames=AA outer
 mod:Mod K mg base
 bs:∀b o,base.get? b=AA o->s.heap.get? b=AA o/\H b=AB
 bsz:base.objs.size<=s.heap.objs.size
 funs:s.heap.FunFrames base outer
 frf:∀b∈frs outer,H b=AB
 hok:HOk P w H s.heap
 bare:Cu s.gens
def CE(outer:List Env)(P:A3)(w:Aa)(H:Hp)(s:AH)(Q:VK)(u:AF)(s':AH):Prop:=
 ∃v H',s'.os=s.os/\Cu s'.gens/\Un (frs outer) [] H H' s.heap s'.heap/\HOk P w H' s'.heap/\RelV v u/\Q v H'
def CR(CX:CXT)(outer:List Env)(P:A3)(w:Aa)(H:Hp)(s:AH)(Q:VK)(E:XK)(r:D6)(s':AH):Prop:=
 match r with
 |.ok (.ret u)=>CE outer P w H s Q u s'
 |.ok _=>False
 |.error e=>CX outer H s E e s'
structure yaK(P:A3)(w:Aa)(K:AD)(mg:AN->Option AF)(base:An)(CX:CXT)(k:Nat)(f:AG)(fd:Am)(ps:List AN)(sp:Sp):Prop where
 len:∀vs H Q E,sp vs H Q E->vs.length=ps.length
 run:∀(A:A8) (outer:List Env) (s:AH) (H:Hp) (args:Args) (us:List AF) (vs:List V) (Q:VK) (E:XK),yas k A->ycv P w K mg base A outer s H->Du s fd args (ps.zip us)->Vals vs us->sp vs H Q E ->
  codeAny (model P w) A (.call (.ref f) args) (CR CX outer P w H s Q E) s
theorem yaK.imp{P:A3}{w:Aa}{K:AD}{mg:AN->Option AF}{base:An}{CX:CXT}{k:Nat}{f:AG}{fd:Am}{ps:List AN}{sp sp':Sp}(F:yaK P w K mg base CX k f fd ps sp)
  (h:∀vs H Q E,sp' vs H Q E->sp vs H Q E):yaK P w K mg base CX k f fd ps sp':=
 ⟨λvs H Q E q=>F.len vs H Q E (h _ _ _ _ q),λA outer s H args us vs Q E hr he hb hv hs=>F.run A outer s H args us vs Q E hr he hb hv (h _ _ _ _ hs)⟩
section
variable {X:Cx}{π:List (AG×BR)}{σ:St}{H:Hp}{s s':AH}
theorem Inv.env0(I:Inv X π σ H s):ycv X.prog X.w X.K X.mg X.base X.A X.stack s H:=
 ⟨I.ok.frames,I.ok.mod,I.bs,BC I.ok.bsz I.sz,I.stack,I.stkFree,I.hok,I.bare⟩
theorem Inv.after{Q:VK}{u:AF}(I:Inv X π σ H s)(h:CE X.stack X.prog X.w H s Q u s'):EP X π σ Q u s':=by
 let⟨v,H',os,bare,un,hok,r,q⟩:=h;let⟨hh,g,d,t,os'⟩:=s';obtain rfl:os'=s.os:=os;exact⟨v,H',I.call (h':=hh) (g':=g) (d':=d) (t':=t) (ch:=[]) un hok bare (λb z=>absurd z (by simp)),r,q⟩
end
def Binds(K:AD)(fd:Am)(ps:List AN)(ds:List AF):Prop:=
 ∀(s:AH) (us:List AF),K.In s.heap->(us++ds).length=ps.length->Du s fd ⟨us,[]⟩ (ps.zip (us++ds))
theorem Binds.all{K:AD}{fd:Am}{ps:List AN}(h:∀us:List AF,us.length=ps.length->bindArgs fd ⟨us,[]⟩=pure (ps.zip us)):Binds K fd ps []:=λs us _ hl=>by
 rw[BJ]at hl ⊢;exact .of_eq (h us hl)
def ycZ(CX:CXT)(X:Cx)(E:XK):Prop:=∀(π:List (AG×BR)) (σ:St) (H:Hp) (s:AH) (e:AF) (s':AH),Inv X π σ H s->CX X.stack H s E e s'->X.xe e s'
section
variable {X:Cx}{CX:CXT}{k:Nat}{f C:AG}{fd:Am}{ps:List AN}{sp:Sp}{dvs:List V}{ds:List AF}{E:XK}{x m:AN}{p pos apos:Bc}{e o:AM}{es:List AM}{ta:TE}{t:TA}
structure Mk(K:AD)(C f:AG):Prop where
 makes:E6 K C=AC
 init:Ai K (.ref C) "__init__"=AA (AA (.ref f))
 fn:Cv K (.ref f)=AC
 kp:Ab K (.ref C)=AC
end
def PK(X:Cx)(kws:List B4)(t:TA):Prop:=
 ∀(pos:Bc) (π:List (AG×BR)) (s:AH) (σ:St) (H:Hp) (Q:List V->Hp->Prop),Inv X π σ H s->t σ H Q->A2 (model X.prog X.w) X.A (evalAll ((backToKw pos (keywordEach kws X.env)).map (·.2))) (AP X π σ Q) X.xe s
section
variable {X:Cx}{CX:CXT}{k:Nat}{f C:AG}{fd:Am}{ps ks:List AN}{sp:Sp}{E:XK}{x m:AN}{p pos apos kpos:Bc}{e o:AM}{es:List AM}{kws:List B4}{te ta:TE}{t tk:TA}{nm:Option AN}
def zld:PK X [] ydJ:=λ_ _ _ _ H Q I h=>wpAny_evalAll_nil ⟨[],H,I,.nil,h⟩
def zhL(ha:PE X e te)(hr:PK X kws t):PK X (⟨nm,e,kpos⟩ :: kws) (ycT te t):=by
 intro pos π s σ H Q I h;show A2 _ _ (evalAll ((do let v <-eval e X.env;standAt pos;pure v)::(backToKw pos (keywordEach kws X.env)).map (·.2))) _ _ s;refine wpAny_evalAll_cons (AI (thn (ha π s σ H _ I h) λu s1 kq=>?_));let⟨x,H1,I1,r1,q1⟩:=kq;refine AI (B3 (AO ?_));exact thn (hr pos π s1 σ H1 _ I1 q1) λus s2 ⟨xs,H2,I2,r2,q2⟩=>⟨x::xs,H2,I2,.cons r1 r2,q2⟩
structure ybt(K:AD)(fd:Am)(ps ks:List AN)(g:List AF->List AF->List AF)(gV:List V->List V->List V):Prop where
 to:∀(s:AH) (us ws:List AF),K.In s.heap->(g us ws).length=ps.length->Du s fd ⟨us,ks.zip ws⟩ (ps.zip (g us ws))
 rel:∀{vs:List V} {us:List AF} {zs:List V} {ws:List AF},Vals vs us->Vals zs ws->Vals (gV vs zs) (g us ws)
variable {g:List AF->List AF->List AF}{gV:List V->List V->List V}
end
structure yai(N P:List AN)(sc:Ao):Prop where
 kind:sc.kind=.function
 co:sc.isCoroutine=AE
 gen:sc.isGenerator=AE
 nd:N.Nodup
 pre:N.take P.length=P
 par:∀x∈P,sc.names.lookup x=AA .local \/ sc.names.lookup x=AA .cell
 nofree:∀y∈sc.names,y.2 ≠ .free
def zbu{kindOf:AN->Option Bl}{x:AN}:∀{binds:List (AN×AF)} {m:AN->Option AF},(∀v,(x,v)∉binds)->bindL kindOf binds m x=m x
 |[],_,_=>rfl
 |(n,v)::r,m,h=>by
  unfold bindL;rw[zbu λw hw=>h w (AL _ hw)];split
  .have:x≠n:=by rintro rfl;exact h v AW
   simp[this]
  .rfl
def zbL{kindOf:AN->Option Bl}{x:AN}:∀{binds:List (AN×AF)} {m:AN->Option AF},(∀v,(x,v)∉binds)->bindC kindOf binds m x=m x
 |[],_,_=>rfl
 |(n,v)::r,m,h=>by
  unfold bindC;rw[zbL λw hw=>h w (AL _ hw)];split
  .rfl
  .have:x≠n:=by rintro rfl;exact h v AW
   simp[this]
def zbH{kindOf:AN->Option Bl}{x:AN}{v:AF}:∀{P:List AN} {vs:List AF} {i:Nat} {m:AN->Option AF},P.Nodup->P[i]?=AA x->vs[i]?=AA v->kindOf x=AA .local ->
  bindL kindOf (P.zip vs) m x=AA v
 |[],_,_,_,_,h,_,_=>by simp at h
 |_::_,[],_,_,_,_,h,_=>by simp at h
 |p::P,w::vs,0,m,nd,h1,h2,hk=>by
  simp at h1 h2;subst h1;subst h2;show bindL kindOf ((p,w)::P.zip vs) m p=_;unfold bindL;rw[zbu λv hv=>(DO.mp nd).1 (DP hv).1,if_pos hk];simp
 |p::P,w::vs,i+1,m,nd,h1,h2,hk=>by
  show bindL kindOf ((p,w)::P.zip vs) m x=_;unfold bindL;exact zbH (i:=i) (DO.mp nd).2 (by simpa using h1) (by simpa using h2) hk
def zbK{kindOf:AN->Option Bl}{x:AN}{v:AF}:∀{P:List AN} {vs:List AF} {i:Nat} {m:AN->Option AF},P.Nodup->P[i]?=AA x->vs[i]?=AA v->kindOf x≠AA .local ->
  bindC kindOf (P.zip vs) m x=AA v
 |[],_,_,_,_,h,_,_=>by simp at h
 |_::_,[],_,_,_,_,h,_=>by simp at h
 |p::P,w::vs,0,m,nd,h1,h2,hk=>by
  simp at h1 h2;subst h1;subst h2;show bindC kindOf ((p,w)::P.zip vs) m p=_;unfold bindC;rw[zbL λv hv=>(DO.mp nd).1 (DP hv).1,if_neg hk];simp
 |p::P,w::vs,i+1,m,nd,h1,h2,hk=>by
  show bindC kindOf ((p,w)::P.zip vs) m x=_;unfold bindC;exact zbK (i:=i) (DO.mp nd).2 (by simpa using h1) (by simpa using h2) hk
def start(N:List AN)(vs:List V):St:=vs.map AA++AK (N.length-vs.length) AB
def yaq(CX:CXT)(P:A3)(w:Aa)(K:AD)(mg:AN->Option AF)(base:An)(N:List AN)(qual:AN)(scope:Ao)(f:AG)(cd:AF)(A:A8)(outer:List Env)(s:AH)(H:Hp)(E:XK):Cx where
 prog:=P
 w:=w
 K:=K
 mg:=mg
 base:=base
 A:=A.deeper (envOfC qual scope s.heap.objs.size f cd)
 N:=N
 s₀:=s
 H₀:=H
 env:=envOfC qual scope s.heap.objs.size f cd
 outer:=outer
 stack:=envOfC qual scope s.heap.objs.size f cd::outer
 ex:=[]
 calm:=AC
 fn:=λ_=>AC
 pn:=[]
 xe:=λe s'=>A2 (model P w) (A.deeper (envOfC qual scope s.heap.objs.size f cd)) («leaving» (envOfC qual scope s.heap.objs.size f cd) e) (λ_ s''=>CX outer H s E e s'') (λe' s''=>CX outer H s E e' s'') s'
def zcM{sc:Ao}{n:Nat}{x:AN}(h:sc.names.lookup x=AA .cell):∃c,(cellsFrom n sc.names []).lookup x=AA c:=by
 have q:=Cw sc.names n [] (.inl h);exact Ac.mp q
def zbs{CX:CXT}{P:A3}{w:Aa}{K:AD}{mg:AN->Option AF}{base:An}{N ps:List AN}{qual:AN}{scope:Ao}{f:AG}{cd:AF}{A:A8}{outer:List Env}{s s1:AH}{H:Hp}{E:XK}{us:List AF}{vs:List V}
  (S:yai N ps scope) (hd:A.handled=AB) (e0:ycv P w K mg base A outer s H) (hl:vs.length=ps.length) (r:Vals vs us)
  (x:InCallC s s.heap.objs.size (bindL (envOfC qual scope s.heap.objs.size f cd).kindOf (ps.zip us) λ_=>AB) (cellsFrom (s.heap.objs.size+1) scope.names []) (bindC (envOfC qual scope s.heap.objs.size f cd).kindOf (ps.zip us) λ_=>AB) s1):
  Inv (yaq CX P w K mg base N qual scope f cd A outer s H E) [] (start N vs) H s1:=by
 have hpl:ps.length<=N.length:=by have:=congrArg Bv S.pre;rw[DG]at this;lia
 let⟨h1,tk,rfl,hk⟩:=x.done;have noA:∀b:AG,b∉(yaq CX P w K mg base N qual scope f cd A outer s H E).ex:=λb z=>absurd (show b∈([]:List AG)from z) (by simp);refine⟨⟨e0.mod,S.kind,rfl,rfl,AR _,λy z c h1 h2=>?_,λy hy=>?_,λy c _ h=>?_,λ_=>hd,Around.frames_deeper e0.frames,.inr ⟨rfl,rfl⟩,λb z=>absurd z (noA b),e0.bs,e0.bsz,λb _ _=>noA b,λb z=>absurd z (noA b),e0.funs,e0.frf⟩,
  rfl,e0.bare,Un.kept hk,⟨_,x.toInCall.ns,λi y v h1 h2 h3=>?_⟩,λy c h=>⟨_,x.cell y c h⟩,e0.hok.fresh (AR _),λy c h=>?_,λp hp=>absurd (show p∈([]:List (AG×BR))from hp) (by simp),e0.hok.kept hk,?_⟩
 .exact name_of_addr x.apart (CF h1) (CF h2)
 .have hy:scope.names.lookup y=AA .cell \/ scope.names.lookup y=AA .free:=hy;rcases hy with hy|hy
  .exact zcM hy
  .exact absurd rfl (S.nofree _ (CF hy))
 .exact FZ (x.above y c (CF h))
 .have hi:i<vs.length:=by
   unfold start at h2
   by_cases hi:i<vs.length
   .exact hi
   .rw[A1 (by simpa using hi)]at h2;rw[ED]at h2;split at h2<;>cases h2
  have ha:vs[i]?=AA v:=by
   unfold start at h2;rw[AQ (by simpa using hi),Ax]at h2
   cases e:vs[i]? with
   |none=>rw[e]at h2;cases h2
   |some a=>rw[e]at h2;cases h2;rfl
  let⟨u,hu,rv⟩:=r.get ha;have hp:ps[i]?=AA y:=by
   rw[<-S.pre,List.getElem?_take_of_lt ∅];exact h1
  have ndP:ps.Nodup:=by rw[<-S.pre];exact S.nd.sublist (List.take_sublist _ _)
  refine⟨u,rv,?_⟩;rcases S.par y (A5 hp)with k|k
  .exact .inl ⟨k,zbH ndP hp hu k⟩
  .let⟨c,e⟩:=zcM (n:=s.heap.objs.size+1) k;refine .inr ⟨.inl k,c,e,?_⟩;have q:=x.cell y c e;rw[zbK ndP hp hu (by show scope.names.lookup y≠_;rw[k];decide)]at q;exact q
 .exact e0.hok.fresh (FZ (x.above y c (CF h)))
 .unfold start;show _=N.length;rw[Ap,Ak,List.length_replicate];lia
def zks{CX:CXT}{P:A3}{w:Aa}{K:AD}{mg:AN->Option AF}{base:An}{k:Nat}{f:AG}{name qual:AN}{params:Arguments}{body:List Bd}{scope:Ao}{dV kV doc pm cdv ct oc:AF}{an od:Option AG}
  {osl:Array (Option AF)} {N ps:List AN} {sp:Sp} (lk:K.lookup f=AA ⟨oc,od,.func (BU name qual params body scope dV kV doc pm an cdv ct),osl⟩) (hcd:Bm K cdv qual=AC) (S:yai N ps scope)
  (len:∀vs H Q E,sp vs H Q E->vs.length=ps.length)
  (hbody:∀(A:A8) (outer:List Env) (s:AH) (H:Hp) (vs:List V) (Q:VK) (E:XK),yas k (A.deeper (envOfC qual scope s.heap.objs.size f cdv))->sp vs H Q E ->
   ∃t,PSs (yaq CX P w K mg base N qual scope f cdv A outer s H E) body t/\t {nx:=λ_ H'=>Q .non H',rt:=Q} (start N vs) H):
  yaK P w K mg base CX (k+1) f (BU name qual params body scope dV kV doc pm an cdv ct) ps sp:=by
 refine⟨len,λA outer s H args us vs Q E hr e0 hb r hsp=>?_⟩;have hl:=len _ _ _ _ hsp;have KX:K.In s.heap:=e0.mod.kin.keeps λb o e=>(e0.bs b o e).1;have lim:s.heap.NoLimit:=e0.mod.nolimit.keeps λb o e=>(e0.bs b o e).1;have hkind:∀y∈ps.zip us,scope.names.lookup y.1=AA .local \/ (scope.names.lookup y.1=AA .cell/\((cellsFrom (s.heap.objs.size+1) scope.names []).lookup y.1).isSome=AC):=λ⟨n,v⟩ hy=>by
  rcases S.par n (DP hy).1 with q|q
  .exact .inl q
  .exact .inr ⟨q,Cw _ _ _ (.inl q)⟩
 refine E9 hr.depth (KX _ _ lk) rfl S.co S.gen rfl (FQ KX hcd) (hb _ _ _ _ ?_);refine D7 S.kind hkind λenv he s1 x=>?_;subst he;refine⟨lim.keeps x.toInCall.keep,codeAny_func ?_⟩;let⟨t,ht,hq⟩:=hbody A outer s H vs Q E (hr.deeper _) hsp;have I:Inv (yaq CX P w K mg base N qual scope f cdv A outer s H E) [] (start N vs) H s1:=zbs S hr.hd e0 hl r x;refine Az (ht [] s1 (start N vs) H _ I hq) (λfl s' hs=>?_) λe s' hs=>hs;have fin:∀{σ':St} {H':Hp} {v:V} {u:AF},Inv (yaq CX P w K mg base N qual scope f cdv A outer s H E) [] σ' H' s'->RelV v u->Q v H'->CE outer P w H s Q u s':=
  λ{σ' H' v u} J rv q=>⟨v,H',J.os,J.bare,J.base,J.hok,rv,q⟩
 cases fl with
 |ret u=>
  let⟨v,σ',H',J,rv,q⟩:=hs;exact fin J rv q
 |next=>
  let⟨σ',H',J,q⟩:=hs;exact fin (v:=V.non) (u:=By) J rfl q
 |brk=>
  let⟨_,_,_,q⟩:=hs;exact BM q
 |cont=>
  let⟨_,_,_,q⟩:=hs;exact BM q
section
variable {X:Cx}{x:AN}{p pos:Bc}{e:AM}{es:List AM}{t:TA}{id T:String}{r:List V->Hp->VK->Prop}
def tCB(r:List V->Hp->VK->Prop)(t:TA):TE:=λσ H Q=>t σ H λvs H1=>r vs H1 Q
def za9(hc:yag X (.builtin id) r)(hg:Gl X x)(hm:X.mg x=AB)(hv:bootBuiltins x=AA (.builtin id))(ha:PA X (e::es) t)(hn:x ≠ "__name__":=by decide)(hdb:(x==("__debug__":AN))=false:=by decide)
  (he:starEach (e::es) X.env=(AE,eval e X.env)::starEach es X.env:=by rfl) (hpl:(backTo pos (starEach es X.env)).any (·.1)=false:=by rfl):PE X (.Call (.Name x p) (e::es) [] pos) (tCB r t):=by
 intro π s σ H Q I h;refine BQ (zbC I hg hm hv ?_ hn hdb);exact Fp (thn (ha pos π s σ H _ I h) λus s1 ⟨vs,H1,I1,r1,q1⟩=>hc π s1 σ H1 vs us Q I1 r1 q1) he hpl
def zdW(hc:yag X (.type T) r)(hg:Gl X x)(hm:X.mg x=AB)(hv:bootBuiltins x=AA (.type T))(ha:PA X (e::es) t)(hn:x ≠ "__name__":=by decide)(hdb:(x==("__debug__":AN))=false:=by decide)
  (he:starEach (e::es) X.env=(AE,eval e X.env)::starEach es X.env:=by rfl) (hpl:(backTo pos (starEach es X.env)).any (·.1)=false:=by rfl):PE X (.Call (.Name x p) (e::es) [] pos) (tCB r t):=by
 intro π s σ H Q I h;refine BQ (zbC I hg hm hv ?_ hn hdb);exact CW (thn (ha pos π s σ H _ I h) λus s1 ⟨vs,H1,I1,r1,q1⟩=>hc π s1 σ H1 vs us Q I1 r1 q1) he hpl
end
end L2
namespace HT
open PySem PyProof.Rows
section
open PySem.SeqAt
open PySem.AutoSeq1 (wpAny_loadPart')
open PySem.MeetsSeq PySem.MeetsSeq2 PySem.MeetsSeq3
end
section
variable {prog:A3}{w:Aa}{A:A8}{E:AF->AH->Prop}{s:AH}
theorem cat_tup{t b:AG}{vs ws:List AF}{Q:AF->AH->Prop}(ht:Gb s.heap t vs.toArray)(hb:Gb s.heap b ws.toArray)(hv:vs≠[])
  (h1:ws=[]->Q (.ref t) s) (h2:ws≠[]->Q (.ref s.heap.objs.size) {s with heap:=s.heap.push {cls:=.type "tuple",data:=.seq (vs++ws).toArray} })
  (hsz:vs.length+ws.length<=sizeLine):A2 (model prog w) A (binaryOp .Add (.ref t) (.ref b)) Q E s:=by
 let⟨⟨cls,dd,data,sl⟩,ho,hc,n,hd⟩:=id ht;let⟨⟨cls2,dd2,data2,sl2⟩,ho2,hc2,n2,hd2⟩:=id hb;simp only at hc hd hc2 hd2;subst hc hd hc2 hd2;have e:vs.toArray++ws.toArray=(vs++ws).toArray:=by simp
 by_cases hw:ws=[]
 .exact F4 ⟨_,ho,rfl⟩ ⟨_,ho2,rfl⟩ EF FJ Cy Co (Cc _ _)
   (tuple_addW1 t b vs.toArray ws.toArray n n2 dd dd2 sl sl2 (by simpa using hv) (by simp[hw])) ⟨ho,ho2,h1 hw⟩
 .refine F4 ⟨_,ho,rfl⟩ ⟨_,ho2,rfl⟩ EF FJ Cy Co (Cc _ _)
   (tuple_addW2 t b vs.toArray ws.toArray n n2 dd dd2 sl sl2 (by simpa using hv) (by simpa using hw) (by rw[AY,AY];exact hsz)) ⟨ho,ho2,?_⟩
  rw[e];exact h2 hw
def sIx(n d:Nat):Option Int->Nat
 |none=>d
 |some v=>if v<0 then(v+(n:Int)).toNat else min v.toNat n
theorem sIx_le(n d:Nat)(hd:d<=n)(o:Option Int):sIx n d o<=n:=by
 cases o with
 |none=>exact hd
 |some v=>
  show (if v<0 then(v+(n:Int)).toNat else min v.toNat n)<=n
  by_cases hv:v<0
  .rw[if_pos hv];lia
  .rw[if_neg hv];exact Nat.min_le_right _ _
def zep(v:Int)(n d:Nat):(if v<0 then max (v+(n:Int)) 0 else min v (n:Int))=((sIx n d (AA v):Nat):Int):=by
 show (if v<0 then max (v+(n:Int)) 0 else min v (n:Int))=(((if v<0 then(v+(n:Int)).toNat else min v.toNat n):Nat):Int)
 by_cases hv:v<0
 .simp only[if_pos hv];lia
 .simp only[if_neg hv];lia
def zdd(lo hi:Option Int)(n:Nat):Ca lo hi 1 (n:Int)=(((sIx n 0 lo:Nat):Int),((sIx n n hi:Nat):Int)):=by
 have h1:¬((1:Int)<0):=by lia
 unfold Ca;erw[h1,if_false];refine Prod.ext ?_ ?_
 .cases lo with
  |none=>rfl
  |some v=>exact zep v n 0
 .cases hi with
  |none=>rfl
  |some v=>exact zep v n n
def zdf(i j:Nat):Bp (i:Int) (j:Int) 1=j-i:=by
 unfold Bp;have h1:(1:Int) > 0:=by lia
 erw[h1,if_true,Int.ediv_one];split<;>lia
def zaV{v:AF}{o:Option Int}{Q:Option Int->AH->Prop}(p:EV v o)(h:Q o s):A2 (model prog w) A (GE v) Q E s:=by
 cases p with
 |none=>exact slicePart_none h
 |int i t=>exact slicePart_int h
theorem sliceApplied_gen{sl:AG}{vl vu:AF}{lo hi:Option Int}{n:Nat}{Q:Int×Int×Nat->AH->Prop}(hs:s.heap.IsSliceOf sl vl vu .none)(pl:EV vl lo)(pu:EV vu hi)
  (h:Q (((sIx n 0 lo:Nat):Int),1,sIx n n hi-sIx n 0 lo) s):A2 (model prog w) A (D8 (.ref sl) (pure (n:Int))) Q E s:=by
 let⟨os,hos,hcs,hds⟩:=id hs;unfold D8 GY;refine AI (AI (CN hos hds (x:=vl) rfl (AI (CN hos hds (x:=vu) rfl (AI (CN hos hds (x:=.none) rfl (AO ?_)))))));refine AI (slicePart_none ?_);show A2 _ _ (if ((1:Int)==0)=AC then _ else _) _ _ s;rw[if_neg ⋯];refine AI (zaV pl (AI (zaV pu (AI (AO ?_)))));show A2 _ _ (match Ca lo hi 1 (n:Int)with|(lo,hi)=>pure (lo,(1:Int),Bp lo hi 1)) _ _ s;rw[zdd lo hi n];show A2 _ _ (pure (((sIx n 0 lo:Nat):Int),(1:Int),Bp ((sIx n 0 lo:Nat):Int) ((sIx n n hi:Nat):Int) 1)) _ _ s;rw[zdf];exact AO h
def zfz(xs:Array AF)(i k:Nat):((DE k).filterMap λ(m:Nat)=>xs[((i:Int)+(m:Int)*1).toNat]?).toArray=((xs.toList.drop i).take k).toArray:=by
 have e:(λ(m:Nat)=>xs[((i:Int)+(m:Int)*1).toNat]?)=λm=>xs[i+m]?:=by
  funext m
  have:((i:Int)+(m:Int)*1).toNat=i+m:=by lia
  rw[this]
 rw[e];have:=pick_run xs i k;rw[List.filterMap_map]at this;have e2:((λx=>xs[x]?) ∘ λx=>i+x)=λm=>xs[i+m]?:=rfl;rw[e2]at this;rw[this]
theorem getItem_tuple_cut{t sl:AG}{items:Array AF}{vl vu:AF}{lo hi:Option Int}{Q:AF->AH->Prop}(ht:Gb s.heap t items)(hs:s.heap.IsSliceOf sl vl vu .none)(pl:EV vl lo)(pu:EV vu hi)
  (hw:¬(sIx items.size 0 lo=0/\sIx items.size items.size hi=items.size))
  (h:Q (.ref s.heap.objs.size) {s with heap:=s.heap.push {cls:=.type "tuple",data:=.seq ((items.toList.drop (sIx items.size 0 lo)).take (sIx items.size items.size hi-sIx items.size 0 lo)).toArray} })
  (hsz:items.size<=sizeLine):A2 (model prog w) A (getItem (.ref t) (.ref sl)) Q E s:=by
 have htake:sizeOk (.seq ((items.toList.drop (sIx items.size 0 lo)).take (sIx items.size items.size hi-sIx items.size 0 lo)).toArray):=by
  show ((items.toList.drop (sIx items.size 0 lo)).take (sIx items.size items.size hi-sIx items.size 0 lo)).toArray.size<=sizeLine;rw[AY,DG,EG,DS];lia
 have hj:sIx items.size items.size hi<=items.size:=sIx_le _ _ (AR _) hi;let⟨os,hos,hcs,hds⟩:=id hs;have hTs:s.TypeIs (.ref sl) "slice":=⟨os,hos,hcs⟩;unfold getItem
 try with_reducible refine Bz ?_
 first|refine AI (AO ?_)|skip
 refine AI (F5 ht.typeIs ⋯ ?_);refine AI (CJ (name:=AT "__getitem__") ht.typeIs Aq
  (DH Aq ht.typeIs FD ?_ (FR _ _)))
 show A2 _ _ (C1 (.ref t) >>= _) _ _ s;refine AI (CM ht ?_);refine AI (F6 hTs ?_);rw[if_pos ⋯];refine AI (sliceApplied_gen hs pl pu ?_);have hno:¬((((sIx items.size 0 lo:Nat):Int)==0&&(1:Int)==1&&(sIx items.size items.size hi-sIx items.size 0 lo)==items.size)=AC):=by
  intro q;rw[AJ,AJ]at q;have q1:((sIx items.size 0 lo:Nat):Int)=0:=eq_of_beq q.1.1;have q2:sIx items.size items.size hi-sIx items.size 0 lo=items.size:=eq_of_beq q.2;exact hw ⟨by lia,by lia⟩
 show A2 _ _ (if (((sIx items.size 0 lo:Nat):Int)==0&&(1:Int)==1&&(sIx items.size items.size hi-sIx items.size 0 lo)==items.size)=AC then _ else _) _ _ s;rw[if_neg hno,zfz]
 first
  |exact AI (m:=BN _) (Aw (AO ⟨_,rfl,AO h⟩) htake)
  |exact AI (m:=BN _) (Aw (AI (AO (AO ⟨_,rfl,AO h⟩))) htake)
  |exact AI (AI (m:=BN _) (Aw (AO (AO ⟨_,rfl,AO h⟩)) htake))
  |exact AI (AI (m:=BN _) (Aw (AO ⟨_,rfl,AO h⟩) htake))
end
end HT
namespace L2
open PySem PySem.Spec PyProof.Rows
abbrev TO:=St->Hp->(Option Int->Hp->Prop)->Prop
def PO(X:Cx)(e:Option AM)(t:TO):Prop:=
 ∀(π:List (AG×BR)) (s:AH) (σ:St) (H:Hp) (Q:Option Int->Hp->Prop),Inv X π σ H s->t σ H Q ->
  A2 (model X.prog X.w) X.A (evalPart e X.env) (λu s'=>∃o H',Inv X π σ H' s'/\EV u o/\Q o H') X.xe s
def yb6:TO:=λ_ H Q=>Q AB H
section
variable {X:Cx}{e:AM}{te:TE}{lo hi:Option AM}{tl th:TO}{pos p2:Bc}
def zhF:PO X AB yb6:=by
 intro π s σ H Q I h;rw[evalPart_none];exact AO ⟨AB,H,I,.none,h⟩
def SlR(X:Cx)(r:V->Option Int->Option Int->Hp->VK->Prop):Prop:=
 ∀(π:List (AG×BR)) (s:AH) (σ:St) (H:Hp) (x:V) (v vl vu:AF) (lo hi:Option Int) (sl:AG) (Q:VK),Inv X π σ H s->RelV x v->s.heap.IsSliceOf sl vl vu .none->EV vl lo->EV vu hi->r x lo hi H Q ->
  ∃T id,typeLookup (.type T) "__getitem__"=pure (AA (.builtin id))/\s.TypeIs v T/\A2 (model X.prog X.w) X.A (getItem v (.ref sl)) (EP X π σ Q) X.xe s
def tSl(r:V->Option Int->Option Int->Hp->VK->Prop)(te:TE)(tl th:TO):TE:=λσ H Q=>te σ H λx H1=>tl σ H1 λl H2=>th σ H2 λu H3=>r x l u H3 Q
def zga{r:V->Option Int->Option Int->Hp->VK->Prop}(hr:SlR X r)(he:PE X e te)(hl:PO X lo tl)(hu:PO X hi th):PE X (.Subscript e (.Slice lo hi AB p2) pos) (tSl r te tl th):=by
 intro π s σ H Q I h;refine GO (thn (he π s σ H _ I h) λv s1 kq=>?_);let⟨x,H1,I1,r1,q1⟩:=kq;refine wpAny_Slice (thn (hl π s1 σ H1 _ I1 q1) λvl s2 kq=>?_);let⟨l,H2,I2,pl,q2⟩:=kq;refine thn (hu π s2 σ H2 _ I2 q2) λvu s3 kq=>?_;let⟨u,H3,I3,pu,q3⟩:=kq;rw[evalPart_none];refine AO ?_;have I4:Inv X π σ H3 {s3 with heap:=s3.heap.push {cls:=.type "slice",data:=.fields #[vl,vu,.none]} }:=I3.kept (t':=s3.toks) λb ob q=>AS _ q;let⟨T,id,hT,ht,hg⟩:=hr π {s3 with heap:=s3.heap.push {cls:=.type "slice",data:=.fields #[vl,vu,.none]} } σ H3 x v vl vu l u s3.heap.objs.size Q I4 r1 (Gx ..) pl pu q3;show A2 (model X.prog X.w) X.A (subscriptTail e (.Slice lo hi AB p2) v (.ref s3.heap.objs.size)) (EP X π σ Q) X.xe {s3 with heap:=s3.heap.push {cls:=.type "slice",data:=.fields #[vl,vu,.none]} };exact tail_any (ops:=[.ref s3.heap.objs.size,v]) ht hT hg (by with_unfolding_all rfl)
def ybX(xs:List V)(lo hi:Option Int):List V:=(xs.drop (HT.sIx xs.length 0 lo)).take (HT.sIx xs.length xs.length hi-HT.sIx xs.length 0 lo)
def zaM(xs:List V)(lo hi:Option Int):(ybX xs lo hi).length<=xs.length:=by
 unfold ybX;rw[DG,EG];lia
def yfp(K:AD):V->Option Int->Option Int->Hp->VK->Prop:=λx lo hi H Q=>∃a xs,x=.ref a/\SqT K H a xs /\
 ¬(HT.sIx xs.length 0 lo=0/\HT.sIx xs.length xs.length hi=xs.length)/\∀p,H p=AB->Q (.ref p) (upd H p (.tup (ybX xs lo hi)))
def zji:SlR X (yfp X.K):=by
 intro π s σ H x v vl vu lo hi sl Q I rx hs pl pu h;let⟨a,xs,rfl,hx,hw,q⟩:=h
 cases rx
 let⟨its,r,ht,hz⟩:=I.tuple hx;have hlen:its.toArray.size=xs.length:=by rw[AY];exact r.length.symm
 refine⟨"tuple",_,Aq.lookup,ht.typeIs,?_⟩;refine HT.getItem_tuple_cut ht hs pl pu (by rw[hlen];exact hw) ?_ (by rw[hlen];exact hz);rw[hlen];refine⟨.ref s.heap.objs.size,_,I.laid (t':=s.toks) (o:=.tup (ybX xs lo hi)) (λb ob q=>AS _ q) (AR _) ?_,rfl,q _ (I.hok.fresh (AR _))⟩;exact⟨BC (zaM xs lo hi) hz,_,(r.drop (HT.sIx xs.length 0 lo)).take (HT.sIx xs.length xs.length hi-HT.sIx xs.length 0 lo),A7 _ rfl⟩
def ydy(K:AD):R2:=λx y H Q=>∃a b xs ys,x=.ref a/\y=.ref b/\SqT K H a xs/\SqT K H b ys/\xs≠[]/\xs.length+ys.length<=sizeLine /\
 (ys=[]->Q (.ref a) H)/\(ys≠[]->∀p,H p=AB->Q (.ref p) (upd H p (.tup (xs++ys))))
theorem Vals.nil_iff{xs:List V}{us:List AF}(r:Vals xs us):us=[] ↔ xs=[]:=by
 cases r with
 |nil=>simp
 |cons _ _=>simp
def zhn:OpR X (binaryOp .Add) (ydy X.K):=by
 intro π s σ H x y v u Q I rx ry h;let⟨a,b,xs,ys,rfl,rfl,ha,hb,hx,hz,q1,q2⟩:=h
 cases rx
 cases ry
 let⟨its,r1,p1,_⟩:=I.tuple ha;let⟨its2,r2,p2,_⟩:=I.tuple hb;refine HT.cat_tup p1 p2 (λz=>hx (r1.nil_iff.mp z)) (λz=>⟨.ref a,H,I,rfl,q1 (r2.nil_iff.mp z)⟩) (λz=>?_) (by rw[<-r1.length,<-r2.length];exact hz);refine⟨.ref s.heap.objs.size,_,I.laid (t':=s.toks) (o:=.tup (xs++ys)) (λb ob q=>AS _ q) (AR _) ?_,rfl,q2 (λw=>z (r2.nil_iff.mpr w)) _ (I.hok.fresh (AR _))⟩;exact⟨by rw[Ap];exact hz,_,r1.append r2,A7 _ rfl⟩
end
def ixN(n:Nat)(i:Int):Option Nat:=if 0<=i then(if i<n then AA i.toNat else AB)else if -(n:Int)<=i then AA (i+n).toNat else AB
def atI{α:Type}(xs:List α)(i:Int):Option α:=(ixN xs.length i).bind λj=>xs[j]?
def ze0{n:Nat}{i:Int}{j:Nat}(h:ixN n i=AA j):seqIndex? i n=AA j/\j<n/\-(n:Int)<=i/\i<n:=by
 unfold ixN at h
 by_cases h0:0<=i
 .rw[if_pos h0]at h
  by_cases h1:i<n
  .rw[if_pos h1]at h;have e:i.toNat=j:=AU h;exact⟨by rw[Fz h0 h1,e],by lia,by lia,h1⟩
  .rw[if_neg h1]at h;cases h
 .rw[if_neg h0]at h
  by_cases h1:-(n:Int)<=i
  .rw[if_pos h1]at h;have e:(i+n).toNat=j:=AU h;exact⟨by rw[seqIndex_neg ∅ h1,e],by lia,h1,by lia⟩
  .rw[if_neg h1]at h;cases h
def zb0{α:Type}{xs:List α}{i:Int}{v:α}(h:atI xs i=AA v):∃j,seqIndex? i xs.length=AA j/\xs[j]?=AA v/\j<xs.length/\-(xs.length:Int)<=i/\i<xs.length:=by
 unfold atI at h
 cases e:ixN xs.length i with
 |none=>rw[e]at h;cases h
 |some j=>
  rw[e]at h;let⟨h1,h2,h3,h4⟩:=ze0 e;exact⟨j,h1,h,h2,h3,h4⟩
def ya2(b:AM):Prop:=∀o i,subscripted b AE o i=operate [o,i] (getItem o i)
def IxR(X:Cx)(r:R2):Prop:=
 ∀(value slice:AM) (π:List (AG×BR)) (s:AH) (σ:St) (H:Hp) (x y:V) (v u:AF) (Q:VK),Inv X π σ H s->RelV x v->RelV y u->r x y H Q ->
  subscripted slice AE v u=operate [v,u] (getItem v u)->A2 (model X.prog X.w) X.A (subscriptTail value slice v u) (EP X π σ Q) X.xe s
def MtR(X:Cx)(id:String)(r:V->List V->Hp->VK->Prop):Prop:=
 ∀(π:List (AG×BR)) (s:AH) (σ:St) (H:Hp) (x:V) (xs:List V) (v:AF) (us:List AF) (Q:VK),Inv X π σ H s->RelV x v->Vals xs us->r x xs H Q ->
  A2 (model X.prog X.w) X.A (call (.builtin id) (v::us)) (EP X π σ Q) X.xe s
section
variable {X:Cx}{a b:AM}{ta tb:TE}{pos:Bc}
theorem IxR.or{r r':R2}(h:IxR X r)(h':IxR X r'):IxR X (λx y H Q=>r x y H Q \/ r' x y H Q):=by
 intro value slice π s σ H x y v u Q I rx ry q hs;rcases q with q|q
 .exact h value slice π s σ H x y v u Q I rx ry q hs
 .exact h' value slice π s σ H x y v u Q I rx ry q hs
def zkv{r:R2}(hr:IxR X r)(ha:PE X a ta)(hb:PE X b tb)(hs:ya2 b):PE X (.Subscript a b pos) (tOp r ta tb):=by
 intro π s σ H Q I h;exact GO (zkW ha hb I h λv u s2 x y H2 I2 rx ry q=>hr a b π s2 σ H2 x y v u Q I2 rx ry q (hs _ _))
def yeA(K:AD):R2:=λx y H Q=>∃p xs i v,x=.ref p/\y=.int i/\SqL K H p xs/\atI xs i=AA v/\Q v H
def yeQ(K:AD):R2:=λx y H Q=>∃p xs i v,x=.ref p/\y=.int i/\SqT K H p xs/\atI xs i=AA v/\Q v H
def yer:R2:=λx y H Q=>∃z i c,x=.str z/\y=.int i/\z.length<=sizeLine/\atI z.cps.toList i=AA c/\Q (.str ⟨#[c]⟩) H
def zle:IxR X (yeA X.K):=by
 intro value slice π s σ H x y v u Q I rx ry h hs;let⟨p,xs,i,z,rfl,rfl,hq,he,q⟩:=h
 cases rx
 let⟨t,rfl⟩:=ry;let⟨its,r,pl,hz⟩:=I.list hq;let⟨j,h1,h2,h3,h4,h5⟩:=zb0 he;let⟨w,ew,rw'⟩:=r.get h2;have hl:=r.length;have hn:=zkQ;have fin:EP X π σ Q w s:=⟨z,H,I,rw',q⟩
 by_cases h0:0<=i
 .have hj:i.toNat=j:=by
   rw[Fz h0 h5]at h1;exact AU h1
  exact item_listR pl.isList h0 ∅ (by rw[hj];simpa using ew) fin hs
 .have hj:(i+(its.toArray.size:Int)).toNat=j:=by
   rw[seqIndex_neg ∅ h4]at h1;rw[AY,<-hl];exact AU h1
  exact EW (x:=w) pl.isList.typeIs F7.lookup
   (wpAny_getItem_list_neg (Q:=λr s'=>r=w/\EP X π σ Q r s') pl.isList ∅ (by rw[AY]<;>lia) ∅ (by rw[hj];simpa using ew) ⟨rfl,fin⟩) hs
def zlf:IxR X (yeQ X.K):=by
 intro value slice π s σ H x y v u Q I rx ry h hs;let⟨p,xs,i,z,rfl,rfl,hq,he,q⟩:=h
 cases rx
 let⟨t,rfl⟩:=ry;let⟨its,r,pl,hz⟩:=I.tuple hq;let⟨j,h1,h2,h3,h4,h5⟩:=zb0 he;let⟨w,ew,rw'⟩:=r.get h2;have hl:=r.length;have hn:=zkQ;have fin:EP X π σ Q w s:=⟨z,H,I,rw',q⟩;exact EW (x:=w) pl.typeIs Aq.lookup
  (getItem_tuple (j:=j) (Q:=λr s'=>r=w/\EP X π σ Q r s') pl ∅ ∅ (by rw[AY,<-hl];exact h1) (by simpa using ew) ⟨rfl,fin⟩) hs
def zjb:IxR X yer:=by
 intro value slice π s σ H x y v u Q I rx ry h hs;let⟨z,i,c,rfl,rfl,hz,he,q⟩:=h;let⟨t,rfl⟩:=rx;let⟨t',rfl⟩:=ry;let⟨j,h1,h2,h3,h4,h5⟩:=zb0 he;have hl:z.cps.toList.length=z.length:=by simp[Str.length]
 rw[hl]at h1 h4 h5;have hn:=zkQ;exact tail_any (D9 s z t) slot_str_getitem.lookup (getItem_str (c:=c) (by
  have e1:decide (i < -(2^63:Int))=false:=decide_eq_false ∅;have e2:decide (i ≥ 2^63)=false:=decide_eq_false ∅;rw[e1,e2,G2]) (by rw[h1];simpa using h2) ⟨.str ⟨#[c]⟩,H,I.tok _,⟨_,rfl⟩,q⟩) hs
def rIx(K:AD):R2:=λx y H Q=>yeA K x y H Q \/ yeQ K x y H Q \/ yer x y H Q
def zcP:IxR X (rIx X.K):=zle.or (zlf.or zjb)
def zdp(its:List AF)(n j:Nat)(u:AF):EX (·.setIfInBounds j u) {cls:=.type "list",data:=.seq its.toArray n}={cls:=.type "list",data:=.seq (its.set j u).toArray n}:=by
 simp[EX]
theorem Inv.lst{π:List (AG×BR)}{σ:St}{H:Hp}{s:AH}{p:AG}{xs:List V}(I:Inv X π σ H s)(h:H p=AA (.lst xs)):
  ∃(its:List AF) (n:Nat),Vals xs its/\s.heap.get? p=AA {cls:=.type "list",data:=.seq its.toArray n}/\xs.length<=sizeLine:=by
 let⟨z,its,n,r,e⟩:=I.hok p _ h;exact⟨its,n,r,e,z⟩
theorem Inv.lstUpd{π:List (AG×BR)}{σ:St}{H:Hp}{s:AH}{p:AG}{xs ys:List V}{its its':List AF}{n n':Nat}{f:BR->BR}(I:Inv X π σ H s)(h:H p=AA (.lst xs))
  (ho:s.heap.get? p=AA {cls:=.type "list",data:=.seq its.toArray n}) (hf:f {cls:=.type "list",data:=.seq its.toArray n}={cls:=.type "list",data:=.seq its'.toArray n'}) (r:Vals ys its') (hz:ys.length<=sizeLine) (t:Nat):
  Inv X π σ (upd H p (.lst ys)) {s with heap:=s.heap.update p f,toks:=t}:=by
 have e:(s.heap.update p f).get? p=AA {cls:=.type "list",data:=.seq its'.toArray n'}:=by
  rw[Ea f ho (by rw[hf]<;>rfl),hf]
 refine I.write (x:=p) (e:=p) (by rw[h];trivial) (.inl rfl) (λb u hb q=>(Cz _ _ (Bu hb)).trans q) ⟨_,e⟩ ?_;exact⟨hz,its',n',r,e⟩
def yc6:V->V->V->Hp->(Hp->Prop)->Prop:=λo i v H Q=>∃p xs k j,o=.ref p/\i=.int k/\H p=AA (.lst xs)/\ixN xs.length k=AA j/\Q (upd H p (.lst (xs.set j v)))
def zcD:yev X yc6:=by
 intro π s σ H o i v ov iv u Q I ro ri rv h;let⟨p,xs,k,j,rfl,rfl,hp,hj,q⟩:=h
 cases ro
 let⟨t,rfl⟩:=ri;let⟨its,n,r,ho,hz⟩:=I.lst hp;let⟨h1,h2,h3,h4⟩:=ze0 hj;have hl:=r.length;have hn:=zkQ;have I':Inv X π σ (upd H p (.lst (xs.set j v))) {s with heap:=s.heap.update p (EX (·.setIfInBounds j u))}:=
  I.lstUpd hp ho (zdp its n j u) (r.set rv j) (by rw[BK];exact hz) s.toks
 by_cases h0:0<=k
 .have hk:k.toNat=j:=by
   rw[Fz h0 h4]at h1;exact AU h1
  exact PySem.W.ki_setAt ho h0 ∅ (by rw[AY,<-hl];exact h4) (by rw[hk];exact⟨_,I',q⟩)
 .have hk:(k+(its.toArray.size:Int)).toNat=j:=by
   rw[seqIndex_neg ∅ h3]at h1;rw[AY,<-hl];exact AU h1
  exact PySem.W.ki_setBack ho ∅ (by rw[AY,<-hl];exact h3) ∅ (by rw[hk];exact⟨_,I',q⟩)
def zbO(lo hi:Option Int)(n:Nat):(sliceBounds lo hi AB n).1=((HT.sIx n 0 lo:Nat):Int)/\(sliceBounds lo hi AB n).2.1=((HT.sIx n n hi:Nat):Int)/\(sliceBounds lo hi AB n).2.2=1:=by
 refine⟨?_,?_,rfl⟩
 .cases lo with
  |none=>simp[sliceBounds,HT.sIx]
  |some i=>
   erw[sliceBounds,HT.sIx,Fq,show (1:Int) > 0 by decide,if_true]
   by_cases h:i<0
   .simp only[h,if_true]<;>lia
   .simp only[h,if_false]<;>lia
 .cases hi with
  |none=>simp[sliceBounds,HT.sIx]
  |some i=>
   erw[sliceBounds,HT.sIx,Fq,show (1:Int) > 0 by decide,if_true]
   by_cases h:i<0
   .simp only[h,if_true]<;>lia
   .simp only[h,if_false]<;>lia
def zbl(its:List AF)(lo hi:Option Int):slicePick its.toArray lo hi AB=((its.drop (HT.sIx its.length 0 lo)).take (HT.sIx its.length its.length hi-HT.sIx its.length 0 lo)).toArray:=by
 let⟨h1,h2,h3⟩:=zbO lo hi its.toArray.size;unfold slicePick;rw[h1,h2,h3];erw[sliceRange_one,pick_run,AY]<;>rfl
def ygk(K:AD):V->Option Int->Option Int->Hp->VK->Prop:=λx lo hi H Q=>∃a xs,x=.ref a/\SqL K H a xs/\∀p,H p=AB->Q (.ref p) (upd H p (.lst (ybX xs lo hi)))
def zdM:SlR X (ygk X.K):=by
 intro π s σ H x v vl vu lo hi sl Q I rx hs pl pu h;let⟨a,xs,rfl,hx,q⟩:=h
 cases rx
 let⟨its,r,ht,hz⟩:=I.list hx;have hlen:=r.length;refine⟨"list",_,F7.lookup,ht.isList.typeIs,?_⟩;refine wpAny_getItem_list_slice ht.isList hs pl pu .none (by simp) ?_ (by rw[AY]<;>lia);rw[zbl,<-hlen];refine⟨.ref s.heap.objs.size,_,I.laid (t':=s.toks) (o:=.lst (ybX xs lo hi)) (λb ob q=>AS _ q) (AR _) ?_,rfl,q _ (I.hok.fresh (AR _))⟩;exact⟨BC (zaM xs lo hi) hz,_,0,(r.drop (HT.sIx xs.length 0 lo)).take (HT.sIx xs.length xs.length hi-HT.sIx xs.length 0 lo),A7 _ rfl⟩
def yac:V->Bool
 |.non=>AC
 |.bl _=>AC
 |.int _=>AC
 |.str _=>AC
 |_=>AE
def eqV:V->V->Bool
 |.non,.non=>AC
 |.bl a,.bl b=>a==b
 |.bl a,.int b=>(if a then 1 else 0)==b
 |.int a,.bl b=>a==(if b then 1 else 0)
 |.int a,.int b=>a==b
 |.str a,.str b=>a==b
 |_,_=>AE
def zkc{A:A8}{s:AH}{y x:V}{u v:AF}(ry:RelV y u)(rx:RelV x v)(fy:yac y=AC)(fx:yac x=AC):GP A s u v (eqV y x):=by
 cases y with
 |non=>
  cases ry
  cases x with
  |non=>cases rx;exact SeqAt.EqAt.same _
  |bl b=>cases rx;exact SeqAt.EqAt.none_bool b
  |int b=>let⟨t,rfl⟩:=rx;exact SeqAt.EqAt.none_int b t
  |str b=>let⟨t,rfl⟩:=rx;exact SeqAt.EqAt.none_str b t
  |_=>exact absurd (show AE=AC from fx) AV
 |bl a=>
  cases ry
  cases x with
  |non=>cases rx;exact SeqAt.EqAt.bool_none a
  |bl b=>cases rx;exact SeqAt.EqAt.bool_bool a b
  |int b=>let⟨t,rfl⟩:=rx;exact SeqAt.EqAt.bool_int a b t
  |str b=>let⟨t,rfl⟩:=rx;exact SeqAt.EqAt.bool_str a b t
  |_=>exact absurd (show AE=AC from fx) AV
 |int a=>
  let⟨t',rfl⟩:=ry
  cases x with
  |non=>cases rx;exact SeqAt.EqAt.int_none a t'
  |bl b=>cases rx;exact SeqAt.EqAt.int_bool a t' b
  |int b=>let⟨t,rfl⟩:=rx;exact SeqAt.EqAt.int_int a t' b t
  |str b=>let⟨t,rfl⟩:=rx;exact FL a t' b t
  |_=>exact absurd (show AE=AC from fx) AV
 |str a=>
  let⟨t',rfl⟩:=ry
  cases x with
  |non=>cases rx;exact SeqAt.EqAt.str_none a t'
  |bl b=>cases rx;exact SeqAt.EqAt.str_bool a t' b
  |int b=>let⟨t,rfl⟩:=rx;exact FM a t' b t
  |str b=>let⟨t,rfl⟩:=rx;exact SeqAt.EqAt.str_str a t' b t
  |_=>exact absurd (show AE=AC from fx) AV
 |_=>exact absurd (show AE=AC from fy) AV
def eqU(x:V)(u:AF):Bool:=match u with
 |.none=>eqV .non x
 |.bool b=>eqV (.bl b) x
 |.int i _=>eqV (.int i) x
 |.str z _=>eqV (.str z) x
 |_=>AE
def zby{x y:V}{u:AF}(r:RelV y u)(f:yac y=AC):eqU x u=eqV y x:=by
 cases y with
 |non=>cases r;rfl
 |bl b=>cases r;rfl
 |int i=>let⟨t,rfl⟩:=r;rfl
 |str z=>let⟨t,rfl⟩:=r;rfl
 |_=>exact absurd (show AE=AC from f) AV
def zb8{x:V}:∀{xs:List V} {us:List AF},Vals xs us->xs.all yac=AC->us.any (eqU x)=xs.any λy=>eqV y x
 |_,_,.nil,_=>rfl
 |y::xs,u::us,.cons r t,f=>by
  rw[Ar,AJ]at f;rw[B5,B5,zby r f.1,zb8 t f.2]
def zab{A:A8}{s:AH}{x:V}{v:AF}(rx:RelV x v)(fx:yac x=AC):∀{xs:List V} {us:List AF},Vals xs us->xs.all yac=AC->∀u∈us,GP A s u v (eqU x u)
 |_,_,.nil,_=>λu hu=>by cases hu
 |y::xs,u::us,.cons r t,f=>λu' hu=>by
  rw[Ar,AJ]at f;rcases A6.mp hu with rfl|hu
  .rw[zby r f.1];exact zkc r rx f.1 fx
  .exact zab rx fx t f.2 u' hu
def inV(x:V)(xs:List V):Bool:=xs.any λy=>eqV y x
def rIn(K:AD)(neg:Bool):R2:=λx y H Q=>∃p xs,y=.ref p/\(SqL K H p xs \/ SqT K H p xs)/\yac x=AC/\xs.all yac=AC/\Q (.bl (if neg then !inV x xs else inV x xs)) H
def zbD:OpR X (compareOp .In) (rIn X.K AE):=by
 intro π s σ H x y v u Q I rx ry h;let⟨p,xs,rfl,hq,fx,fs,q⟩:=h
 cases ry
 rcases hq with hq|hq
 .let⟨its,r,pl,hz⟩:=I.list hq;refine SeqAt.in_listAt (eqU x) pl.isList (λw hw=>zab rx fx r fs w (by simpa using hw)) ⟨.bl _,H,I,rfl,?_⟩;rw[show its.toArray.any (eqU x)=its.any (eqU x)by simp,zb8 r fs];exact q
 .let⟨its,r,pl,hz⟩:=I.tuple hq;refine SeqAt.in_tupleAt (eqU x) pl (λw hw=>zab rx fx r fs w (by simpa using hw)) ⟨.bl _,H,I,rfl,?_⟩;rw[show its.toArray.any (eqU x)=its.any (eqU x)by simp,zb8 r fs];exact q
def zbP:yag X (.builtin "len") (λxs H Q=>∃p ys,xs=[.ref p]/\(SqL X.K H p ys \/ SqT X.K H p ys)/\Q (.int ys.length) H):=by
 intro π s σ H xs us Q I r h;let⟨p,ys,rfl,hq,q⟩:=h;let⟨u,rfl,rx⟩:=vals1 r
 cases rx
 have hn:=zkQ;rcases hq with hq|hq
 .let⟨its,r',pl,hz⟩:=I.list hq;have hlen:=r'.length;exact Calls.call_len_list pl.isList (by erw[AY]<;>lia) ⟨.int ys.length,H,I.tok _,⟨s.toks+1,by rw[AY,hlen]⟩,q⟩
 .let⟨its,r',pl,hz⟩:=I.tuple hq;have hlen:=r'.length;exact len_tuple pl (by erw[AY]<;>lia) ⟨.int ys.length,H,I.tok _,⟨s.toks+1,by rw[AY,hlen]⟩,q⟩
def zbt:yag X (.builtin "len") (λxs H Q=>∃z,xs=[.str z]/\z.length<=sizeLine/\Q (.int z.length) H):=by
 intro π s σ H xs us Q I r h;let⟨z,rfl,hz,q⟩:=h;let⟨u,rfl,t,rfl⟩:=vals1 r;have hn:=zkQ;exact len_str ∅ ⟨.int z.length,H,I.tok _,⟨_,rfl⟩,q⟩
def z8:yag X (.type "tuple") (λxs H Q=>∃p ys,xs=[.ref p]/\((SqL X.K H p ys/\∀l,H l=AB->Q (.ref l) (upd H l (.tup ys))) \/ (SqT X.K H p ys/\Q (.ref p) H))):=by
 intro π s σ H xs us Q I r h;let⟨p,ys,rfl,h⟩:=h;let⟨u,rfl,rx⟩:=vals1 r
 cases rx
 rcases h with⟨hq,q⟩|⟨hq,q⟩
 .let⟨its,r',pl,hz⟩:=I.list hq;have hlen:=r'.length;refine call_tuple_list pl.isList (λh' kp=>?_) (by erw[AY]<;>lia);have I1:Inv X π σ H {s with heap:=h'}:=I.kept (t':=s.toks) kp;have I2:Inv X π σ (upd H h'.objs.size (.tup ys)) {s with heap:=h'.push {cls:=.type "tuple",data:=.seq its.toArray} }:=
   I1.laid (t':=s.toks) (λb o e=>AS _ e) (AR _) (show yG X.prog X.w _ _ _ (.tup ys)from ⟨hz,its,r',A7 _ rfl⟩)
  exact⟨.ref h'.objs.size,_,I2,rfl,q _ (I1.hok.fresh (AR _))⟩
 .let⟨its,r',pl,hz⟩:=I.tuple hq;exact call_tuple_same pl ⟨.ref p,H,I,rfl,q⟩
def tyV(K:AD)(T:String)(x:V)(H:Hp):Prop:=match x with
 |.str _=>T="str"
 |.int _=>T="int"
 |.ref p=>(T="list"/\∃xs,SqL K H p xs) \/ (T="tuple"/\∃o,K.lookup p=AA o/\o.cls=.type "tuple"/\o.dict=AB) \/
   (T="dict"/\((∃kvs,H p=AA (.dK kvs)) \/ ∃kvs,H p=AA (.dT kvs))) \/ (T="set"/\∃S n,H p=AA (.set S n))
 |_=>False
def ziJ{π:List (AG×BR)}{σ:St}{H:Hp}{s:AH}{T:String}{x:V}{v:AF}(I:Inv X π σ H s)(r:RelV x v)(ty:tyV X.K T x H):
  s.TypeIs v T/\∀a,v=.ref a->∃ob,s.heap.get? a=AA ob/\ob.dict=none:=by
 cases x with
 |str z=>
  let⟨t,rfl⟩:=r
  cases (show T="str" from ty)
  exact⟨D9 s z t,λ_ e=>nomatch e⟩
 |int i=>
  let⟨t,rfl⟩:=r
  cases (show T="int" from ty)
  exact⟨C3 s i t,λ_ e=>nomatch e⟩
 |ref p=>
  cases r
  rcases ty with⟨rfl,xs,hq⟩|⟨rfl,o,hk,hc,hd⟩|⟨rfl,hk⟩|⟨rfl,S,n,hk⟩
  .let⟨its,_,pl,_⟩:=I.list hq;refine⟨pl.isList.typeIs,λa e=>?_⟩
   cases e
   let⟨o,n,e,c,hd,_⟩:=pl;exact⟨o,e,hd⟩
  .refine⟨⟨o,I.kIn p o hk,hc⟩,λa e=>?_⟩
   cases e
   exact⟨o,I.kIn _ o hk,hd⟩
  .have z:∃o,s.heap.get? p=AA o/\o.ExactDict:=by
    rcases hk with⟨kvs,hk⟩|⟨kvs,hk⟩
    .let⟨_,_,_,_,o,_,_,e,ex,_⟩:=I.hok p _ hk;exact⟨o,e,ex⟩
    .let⟨_,_,_,_,o,_,_,e,ex,_⟩:=I.hok p _ hk;exact⟨o,e,ex⟩
   let⟨o,e,ex⟩:=z;refine⟨⟨o,e,ex.1⟩,λa e2=>?_⟩
   cases e2
   exact⟨o,e,ex.2.1⟩
  .let⟨o,_,_,_,e,ex,_⟩:=I.hok p _ hk;refine⟨⟨o,e,ex.1⟩,λa e2=>?_⟩
   cases e2
   exact⟨o,e,ex.2.1⟩
 |_=>exact BM ty
def tBM(K:AD)(T:String)(r:V->List V->Hp->VK->Prop)(to:TE)(t:TA):TE:=λσ H Q=>to σ H λx H1=>tyV K T x H1/\t σ H1 λxs H2=>r x xs H2 Q
variable {o e:AM}{es:List AM}{to:TE}{t:TA}{name:AN}{apos cpos:Bc}{T id:String}{r:V->List V->Hp->VK->Prop}
def zeE(pa:PlainAttrs T)(slot:Slot T name id)(hty:typeOf (.builtin id)=pure (.type "method_descriptor"))(hm:MtR X id r)(ho:PE X o to)(ha:PA X (e::es) t)
  (hbase:attributeBase o name X.env (eval o X.env)=eval o X.env:=by rfl)
  (hfew:((backTo cpos (starEach (e::es) X.env)).all (λx=>!x.1)&&(backToKw cpos (keywordEach [] X.env)).all (λx=>x.1.isSome)
   && decide ((e::es).length+([]:List B4).length+(if ([]:List B4).isEmpty then 0 else 1)<30))=true:=by rfl)
  (hline:(apos.endLine==cpos.line)=true:=by rfl) (hs:starEach (e::es) X.env=(AE,eval e X.env)::starEach es X.env:=by rfl) (hplain:(backTo cpos (starEach es X.env)).any (·.1)=false:=by rfl):
  PE X (.Call (.Attribute o name apos) (e::es) [] cpos) (tBM X.K T r to t):=by
 intro π s σ H Q I h;refine wpAny_Call_method_late hbase hfew hline rfl (thn (ho π s σ H _ I h) λv s1 kq=>?_);let⟨x,H1,I1,r1,ty,q1⟩:=kq;let⟨h1,h2⟩:=ziJ I1 r1 ty;refine⟨T,id,pa,slot,hty,h1,h2,?_⟩;have hA:=ha cpos π s1 σ H1 _ I1 q1;rw[hs]at hA ⊢;refine Calls.callWith_builtin (by show (AE || (backTo cpos (starEach es X.env)).any (·.1))=AE;rw[hplain]<;>rfl) (Ej ?_);exact thn hA λus s2 ⟨vs,H2,I2,r2,q2⟩=>hm π s2 σ H2 x vs v us Q I2 r1 r2 q2
/- xs.append(e),list.index on a module's tuple .. are MtR facts of 06m -/
end
def MtM(X:Cx)(id:String)(r:V->List V->Hp->VK->Prop):Prop:=
 ∀(π:List (AG×BR)) (s:AH) (σ:St) (H:Hp) (x:V) (xs:List V) (v:AF) (us:List AF) (Q:VK),Inv X π σ H s->RelV x v->Vals xs us->r x xs H Q ->
  A2 (model X.prog X.w) X.A (call (.builtin id) (v::us)) (EP X π σ Q) X.xe s
theorem Vals.one:∀{x:V} {us:List AF},Vals [x] us->∃u,us=[u]/\RelV x u
 |_,_,.cons r .nil=>⟨_,rfl,r⟩
theorem Vals.two:∀{x y:V} {us:List AF},Vals [x,y] us->∃u v,us=[u,v]/\RelV x u/\RelV y v
 |_,_,_,.cons r (.cons q .nil)=>⟨_,_,rfl,r,q⟩
theorem Vals.rep{xs:List V}{us:List AF}(h:Vals xs us):∀k:Nat,Vals (AK k xs).flatten (AK k us).flatten
 |0=>.nil
 |k+1=>by
  rw[As,As,BV,BV];exact Vals.append h (Vals.rep h k)
def zbW(its:List AF):∀(k:Nat) (acc:List AF),
  GQ (λx1 x2=>x1++x2) acc.toArray (AK k its.toArray)=(acc++(AK k its).flatten).toArray
 |0,acc=>by simp
 |k+1,acc=>by
  have e:acc.toArray++its.toArray=(acc++its).toArray:=by simp
  have e2:(acc++its)++(AK k its).flatten=acc++(AK (k+1) its).flatten:=by
   rw[As,BV,DA]
  rw[<-e2,<-zbW its k (acc++its),<-e,As,CP]
section
variable {X:Cx}{π:List (AG×BR)}{σ:St}{H:Hp}{s:AH}{l b:AG}{xs ys zs:List V}
theorem Inv.lset{its its':List AF}{n:Nat}{f:Array AF->Array AF}{t':Nat}(I:Inv X π σ H s)(hH:H l=AA (.lst xs))
  (e:s.heap.get? l=AA {cls:=.type "list",data:=.seq its.toArray n}) (hf:f its.toArray=its'.toArray) (hv:Vals ys its') (hz:ys.length<=sizeLine):
  Inv X π σ (upd H l (.lst ys)) {s with heap:=s.heap.update l (EX f),toks:=t'}:=by
 have q:=PySem.IsL.update e f;rw[hf]at q;refine I.write (x:=l) (e:=l) (by rw[hH];exact trivial) (.inl rfl) (λb' u hb hu=>(Cz s.heap (EX f) (Bu hb)).trans hu) ⟨_,q⟩ ?_;exact⟨hz,its',_,hv,q⟩
theorem Inv.lnew{its:List AF}{t':Nat}(I:Inv X π σ H s)(hv:Vals ys its)(hz:ys.length<=sizeLine):
  Inv X π σ (upd H s.heap.objs.size (.lst ys)) {s with heap:=s.heap.push {cls:=.type "list",data:=.seq its.toArray},toks:=t'}:=
 I.laid (λ_ _ q=>AS _ q) (AR _) ⟨hz,its,0,hv,A7 _ rfl⟩
theorem Inv.fresh(I:Inv X π σ H s):H s.heap.objs.size=none:=I.hok.fresh (AR _)
theorem Inv.lstM(I:Inv X π σ H s)(hH:H l=AA (.lst xs)):xs.length<=sizeLine/\∃(its:List AF) (n:Nat),Vals xs its/\xs.length=its.length/\s.heap.get? l=AA {cls:=.type "list",data:=.seq its.toArray n}:=by
 let⟨z,its,n,r,e⟩:=I.hok l _ hH;exact⟨z,its,n,r,r.length,e⟩
def zlg{n:Nat}(h:n<=sizeLine):Cd n=false:=by
 unfold Cd;exact decide_eq_false ∅
end
section
variable {X:Cx}
def ycb:V->List V->Hp->VK->Prop:=λx vs H Q=>∃l xs y,x=.ref l/\vs=[y]/\H l=AA (.lst xs)/\xs.length<sizeLine/\Q .non (upd H l (.lst (xs++[y])))
def zbw:MtM X "list.append" ycb:=by
 intro π s σ H x vs v us Q I rx rv h;let⟨l,xs,y,rfl,rfl,hH,hz,q⟩:=h
 cases rx
 let⟨u,rfl,ru⟩:=rv.one;let⟨z,its,n,r,hl,e⟩:=I.lstM hH;refine BW F.slot_list_append ⟨_,e,rfl⟩ F.entry_list_append (F.args_list_append_2 _ _) (PySem.list_append l its.toArray n u (by rw[AY];lia)) ⟨e,?_⟩;refine⟨.non,_,I.lset (its':=its++[u]) hH e (by simp) (r.append (.cons ru .nil)) ?_,rfl,q⟩;rw[Ap,List.length_singleton];lia
def yff:R2:=λx y H Q=>∃l b xs zs,x=.ref l/\y=.ref b/\H l=AA (.lst xs)/\H b=AA (.lst zs)/\xs.length+zs.length<=sizeLine/\∀p,H p=AB->Q (.ref p) (upd H p (.lst (xs++zs)))
def ziZ:OpR X (binaryOp .Add) yff:=by
 intro π s σ H x y v u Q I rx ry h;let⟨l,b,xs,zs,rfl,rfl,hH,hB,hz,q⟩:=h
 cases rx
 cases ry
 let⟨z,its,n,r,hl,e⟩:=I.lstM hH;let⟨z2,its2,n2,r2,hl2,e2⟩:=I.lstM hB;refine PySem.P.add_list e e2 ?_ (by rw[AY,AY];lia);have ea:its.toArray++its2.toArray=(its++its2).toArray:=by simp
 rw[ea];exact⟨.ref _,_,I.lnew (t':=s.toks) (r.append r2) (by rw[Ap];lia),rfl,q _ I.fresh⟩
def ygh:R2:=λx y H Q=>∃l k xs,x=.ref l/\y=.int k/\H l=AA (.lst xs)/\-(2^63)<=k/\k<2^63/\xs.length*k.toNat<=sizeLine /\
 ∀p,H p=AB->Q (.ref p) (upd H p (.lst (AK k.toNat xs).flatten))
def zh2{α:Type}(xs:List α)(k:Nat):(AK k xs).flatten.length=k*xs.length:=by
 induction k with
 |zero=>simp
 |succ k ih=>rw[As,BV,Ap,ih,Nat.succ_mul,DB]
def zix:OpR X (binaryOp .Mult) ygh:=by
 intro π s σ H x y v u Q I rx ry h;let⟨l,k,xs,rfl,rfl,hH,h1,h2,hz,q⟩:=h
 cases rx
 let⟨t,rfl⟩:=ry;let⟨z,its,n,r,hl,e⟩:=I.lstM hH;have hlen:its.toArray.size*k.toNat<=sizeLine:=by rw[AY,<-hl];exact hz
 have hcap:¬its.toArray.size*k.toNat > (2^63-1)/8:=by
  have:(sizeLine:Nat)<=(2^63-1)/8:=by decide
  lia
 have hfit:¬(!Builtin.List.listFitsIndex k)=true:=by
  rw[fitsIndex_both h1 h2];exact AV
 have hlong:¬Cd (its.toArray.size*k.toNat)=true:=by
  rw[zlg hlen];exact AV
 have hnew:GQ (λx1 x2=>x1++x2) #[] (AK (if its.toArray.isEmpty=AC then 0 else k.toNat) its.toArray)=(AK k.toNat its).flatten.toArray:=by
  have f0:∀m:Nat,GQ (λx1 x2=>x1++x2) #[] (AK m its.toArray)=(AK m its).flatten.toArray:=λm=>by
   have:=zbW its m [];rw[Cj]at this;exact this
  rw[f0]
  cases its with
  |nil=>simp
  |cons a r'=>rw[if_neg (by simp)]
 refine B6 (T:="list") (U:="int") ⋯ ⟨_,e,rfl⟩ (λs'=>C3 s' k t) noFill_list_mul C8 BL repeat_list CZ.lookup
  (BW BL (C3 s k t) C0 (CQ _ _) (int___rmul___int_list k t l its.toArray n)
   ⟨e,rfl,⟨_,e,rfl⟩,BW F.slot_list_mul ⟨_,e,rfl⟩ F.entry_list_mul (F.args_list_mul_2 _ _) (AutoListH.list___mul___list_int_3 l its.toArray n k t hfit hcap hlong) ⟨e,?_⟩⟩)
 rw[hnew];exact⟨.ref _,_,I.lnew (t':=s.toks) (r.rep k.toNat) (by rw[zh2,F8];exact hz),rfl,q _ I.fresh⟩
end
section
variable {prog:A3}{w:Aa}{A:A8}{E:AF->AH->Prop}{s:AH}
end
section
variable {X:Cx}
end
end L2
namespace Att
open PySem PySem.W PySem.Calls PyProof.Rows
def zaw{P:Params}{h:An}:∀(ns:List Int) (vs:List AF),WellAll P h vs (ns.map HB)->GG vs ns:=by
 intro ns
 induction ns with
 |nil=>
  intro vs w;rw[CO]at w
  cases w
  exact .nil
 |cons n ns ih=>
  intro vs w;rw[AZ]at w
  cases w with
  |cons a b=>
   cases a
   exact .cons _ _ (ih _ b)
def zd5{l:ER}{n:Nat}(hn:l.most=AA n){P:Params}{h:An}{args:List WData}{vals:List AF}
  (hpre:l.row.toRowW.claim.pre args=AC) (hwl:WellAll P h vals args):
  ∃a vs ns,vals=[Au a]/\args=[WData.list (ns.map HB)]/\h.get? a=AA {cls:=.type "list",data:=.seq vs.toArray}/\GG vs ns/\ns.length<=n:=by
 have hsh:WShape.hasAll [] args [.list .int]=true:=(pre_splitW hpre).1;have hc:l.pre.holds [] {args:=args}=true:=(pre_splitW hpre).2;let⟨d,r,rfl,h1,h2⟩:=hasAllW_cons hsh;obtain rfl:=hasAllW_nil h2;let⟨xs,rfl,h3⟩:=hasW_list h1;let⟨ns,rfl⟩:=items_int h3;have hlen:ns.length<=n:=by
  unfold OpenLaw.pre at hc;have h4:(WTm.not (.lt (.lit (.int (n:Int))) (.len (.arg 0)))).holds [] {args:=[.list (ns.map .int)]}=true:=by
   have h4:=(holds_andW hc).1;rw[hn]at h4;exact h4
  have h5:=condW_of h4 (w_not (w_lt w_lit (w_len_list (w_arg rfl))));rw[Ak]at h5;refine Nat.le_of_not_lt λq=>?_;have q':(n:Int)<((ns.length:Nat):Int):=by lia
  first
   |(rw[decide_eq_true q']at h5;exact absurd h5 ⋯)
   |(simp at h5;lia)
 cases hwl with
 |cons w1 w2=>
  cases w2
  cases w1 with
  |list ho hall=>exact⟨_,_,ns,rfl,rfl,ho,zaw ns _ hall,hlen⟩
def zey(l:ER)(args:List WData):l.row.toRowW.claim.post args (.bool AC) args=true:=
 postW_of (r:=l.row.toRowW) (X:=(AC==AC))
  (show Gy [] (.bool AC) .bool=AC by first|rfl|decide|simp[Gy,WShape.arms,WShape.armsAll])
  (show (WTm.eq .res (.lit (.bool AC))).value [] {args:=args,res:=AA (.bool AC),after:=args}=AA (.bool (AC==AC))from w_eq_bool (w_res rfl) w_lit) rfl
theorem attach_call{l:ER}{n:Nat}{q:A3}{loose:List AN}{XP:(AN->Option AF)->An->Prop}{YP:Aa->An->Prop}{d:DefRec}
  (hn:l.most=AA n) (hdf:d.params.defaults=[])
  (call:∀(w:Aa) (s₀ s₁:AH) (mg mb:AN->Option AF) (fa:AG) (o:BR) (pm cd doc:AF) (a:AG) (vs:List AF) (ns:List Int),
   Ground q loose [] XP w s₀ mg mb s₁.heap->YP w s₁.heap ->
   s₁.heap.get? fa=AA o->o.data=.func (docDef d.name d.params d.body d.scope pm cd doc)->s₁.heap.CodeRec cd d.name->mg d.name=AA (.ref fa) ->
   s₁.heap.get? a=AA {cls:=.type "list",data:=.seq vs.toArray}->GG vs ns->ns.length<=n->s₁.gens=#[] ->
   codeAny (model l.prog w) callerA (.call (.ref fa) ⟨[.ref a],[]⟩) (λr s'=>r=.ok (.ret (.bool AC))/\OldK s₁.heap s'.heap/\s'.os=s₁.os/\Cu s'.gens) s₁):
  GH q loose XP YP l.row.toRowW d [] (λf vs=>GR f vs):=by
 intro w s₀ s₁ mg mb G Y fa o pm cd doc dV kV ho hd hcd hD hmg hg args vals as hpre hlay hrd hwl hlo;obtain rfl:dV=.none:=Dflts.none hD hdf;obtain rfl:kV=.none:=Dflts.noKw hD;let⟨a,vs,ns,rfl,rfl,hobj,hints,hlen⟩:=zd5 hn hpre hwl;refine enter_call (DU (call w s₀ s₁ mg mb fa o pm cd doc a vs ns G Y ho (fd_plain hd) hcd hmg hobj hints hlen hg) λr s' hq=>?_);let⟨rfl,h2,h3,h4⟩:=hq;exact⟨.inl ⟨.bool AC,.bool AC,[],rfl,λ_=>rfl,.bool AC,zey l _,λ_=>⟨Gz,λ_ hm=>(nomatch hm)⟩⟩,h2,h3,h4⟩
section
variable {prog:A3}{w:Aa}{A:A8}{E:AF->AH->Prop}{s:AH}{K:AD}
end
end Att
namespace L2
open PySem PySem.Spec PyProof.Rows
def zbq:∀{vs:List AF} {ns:List Int},GG vs ns->Vals (ns.map V.int) vs
 |_,_,.nil=>.nil
 |_,_,.cons n t h=>.cons ⟨t,rfl⟩ (zbq h)
def Only(H:Hp):Prop:=∀b,H b=AB \/ ∃o xs,H b=AA (.frz o (.lst xs))
def zfP{P:A3}{w:Aa}{K:AD}{mg mb:AN->Option AF}{CX:CXT}{k:Nat}{fa a:AG}{fd:Am}{x:AN}{sp:Sp}{s₁:AH}{vs:List AF}{ns:List Int}
  (KX:K.In s₁.heap) (hns:s₁.heap.Ns mainGlobals mg) (hb:s₁.heap.Ns builtinsNs mb) (hbb:∀x:AN,x ≠ "__name__"->mb x=bootBuiltins x) (hlim:s₁.heap.NoLimit) (hg:s₁.gens=#[])
  (ha:s₁.heap.get? a=AA {cls:=.type "list",data:=.seq vs.toArray}) (hi:GG vs ns) (hl:ns.length<=sizeLine) (hr:yas k callerA)
  (F:∀base:An,K.In base->base.Ns mainGlobals mg->yaK P w K mg base CX k fa fd [x] sp) (hbind:∀(s:AH) (u:AF),Du s fd ⟨[u],[]⟩ [(x,u)])
  (hsp:∀H:Hp,Only H->SqL K H a (ns.map V.int)->sp [.ref a] H (λv _=>v=.bl AC) λ_ _ _=>False)
  (hCX:∀H e s',CX [] H s₁ (λ_ _ _=>False) e s'->False):
  codeAny (model P w) callerA (.call (.ref fa) ⟨[.ref a],[]⟩) (λr s'=>r=.ok (.ret (.bool AC))/\OldK s₁.heap s'.heap/\s'.os=s₁.os/\Cu s'.gens) s₁:=by
 have rv:=zbq hi;have lenV:=hi.length;have core:∀H:Hp,Only H->SqL K H a (ns.map V.int)->HOk P w H s₁.heap->(∀b,H b≠AB->b=a)->(H a≠AB->K.lookup a=AB) ->
   codeAny (model P w) callerA (.call (.ref fa) ⟨[.ref a],[]⟩) (λr s'=>r=.ok (.ret (.bool AC))/\OldK s₁.heap s'.heap/\s'.os=s₁.os/\Cu s'.gens) s₁:=by
  intro H hO hS hok hA hK;have base_of:∀{b:AG} {o:BR},s₁.heap.get? b=AA o->H b=AB->(ybQ s₁.heap H).get? b=AA o:=λe n=>zfY e n;have noA:∀{b:AG} {o:BR} {es:Array Bs} {ep:Nat},s₁.heap.get? b=AA o->o.data=.dict es ep->H b=none:=λ{b o es ep} e d=>by
   cases q:H b with
   |none=>rfl
   |some u=>
    have e':b=a:=hA b (by rw[q];simp);subst e';rw[ha]at e;cases e;have d':Gu vs.toArray _=Data.dict es ep:=d
    cases d'
  have nsK:∀{b:AG} {m:AN->Option AF},s₁.heap.Ns b m->(ybQ s₁.heap H).Ns b m:=λ{b m} ⟨o,es,ep,e,d,r⟩=>⟨o,es,ep,base_of e (noA e d),d,r⟩;have hKb:K.In (ybQ s₁.heap H):=λb o e=>base_of (KX b o e) (by
   cases q:H b with
   |none=>rfl
   |some u=>
    have e':b=a:=hA b (by rw[q];simp);subst e';rw[hK (by rw[q];simp)]at e;cases e)
  have hM:Mod K mg (ybQ s₁.heap H):=⟨hKb,nsK hns,⟨mb,nsK hb,hbb⟩,let ⟨mc,h1,h2⟩:=hlim;⟨mc,nsK h1,h2⟩⟩;have e0:ycv P w K mg (ybQ s₁.heap H) callerA [] s₁ H:=⟨rfl,hM,λb o e=>zhS e,Gf (ze7 _ _),trivial,λb hb=>absurd (show b∈([]:List AG)from hb) (by simp),hok,.of_eq hg⟩;refine DU ((F _ hKb (nsK hns)).run callerA [] s₁ H ⟨[.ref a],[]⟩ [.ref a] [.ref a] _ _ hr e0 (hbind s₁ (.ref a)) (.cons rfl .nil) (hsp H hO hS)) λr s' h=>?_
  cases r with
  |error e=>exact(hCX H e s' h).elim
  |ok fl=>
   cases fl with
   |next=>exact BM h
   |brk=>exact BM h
   |cont=>exact BM h
   |ret u=>
    let⟨v,H',os,bare,un,hok',r',q⟩:=h;have q':v=.bl true:=q;subst q';obtain rfl:u=GJ true:=r';refine⟨rfl,OldK.of_keep λb o e=>?_,os,bare⟩
    cases q:H b with
    |none=>exact un.keep b o e q (by intro z;exact absurd (show b∈([]:List AG)from z) (by simp)) (by simp)
    |some u=>
     rcases hO b with z|⟨ob,xs,z⟩
     .rw[q]at z;cases z
     .have z2:=un.frzs b ob _ z;let⟨e1,_⟩:=hok b _ z;let⟨e2,_⟩:=hok' b _ z2;rw[e]at e1;cases e1;exact e2
 cases hk:K.lookup a with
 |some o=>
  have e:=KX a o hk;rw[ha]at e
  cases e
  refine core (λ_=>AB) (λ_=>.inl rfl) (.inr ⟨_,vs.toArray,_,hk,rfl,rfl,rfl,by rw[AY,lenV];exact hl,by simpa using rv⟩) (λb u z=>by have z':(AB:Option HO)=AA u:=z;cases z') (λb z=>absurd rfl z) λz=>absurd rfl z
 |none=>
  refine core (λb=>if b=a then AA (.frz {cls:=.type "list",data:=.seq vs.toArray} (.lst (ns.map V.int)))else AB) (λb=>?_) (.inl (.inr ⟨{cls:=.type "list",data:=.seq vs.toArray},if_pos rfl⟩)) (λb u z=>?_) (λb z=>?_) λ_=>hk
  .by_cases hb:b=a
   .exact .inr ⟨_,_,if_pos hb⟩
   .exact .inl (if_neg hb)
  .by_cases hb:b=a
   .have z':=(if_pos hb).symm.trans z
    cases z'
    subst hb;exact⟨ha,by rw[Ak];exact hl,vs,_,rv,ha⟩
   .have z':=(if_neg hb).symm.trans z
    cases z'
  .by_cases hb:b=a
   .exact hb
   .exact absurd (if_neg hb) z
theorem walk_of{l:ER}{n k:Nat}{q:A3}{loose:List AN}{XP:(AN->Option AF)->An->Prop}{YP:Aa->An->Prop}{d:DefRec}{K:Params->AD}{CX:Aa->CXT}{sp:Aa->Sp}{x:AN}
  (hn:l.most=AA n) (hn2:n<=sizeLine) (hdf:d.params.defaults=[]) (hr:yas k callerA)
  (hY:∀(w:Aa) (h:An),YP w h->(K w.params).In h)
  (F:∀(w:Aa) (mg:AN->Option AF) (fa:AG) (h:An),(K w.params).In h->h.Ns mainGlobals mg->mg d.name=AA (.ref fa) ->
   ∃fd:Am,(∀(s:AH) (u:AF),Du s fd ⟨[u],[]⟩ [(x,u)]) /\
    ∀base:An,(K w.params).In base->base.Ns mainGlobals mg->yaK l.prog w (K w.params) mg base (CX w) k fa fd [x] (sp w))
  (hsp:∀(w:Aa) (H:Hp) (a:AG) (ns:List Int),ns.length<=n->Only H->SqL (K w.params) H a (ns.map V.int)->sp w [.ref a] H (λv _=>v=.bl AC) λ_ _ _=>False)
  (hCX:∀(w:Aa) (H:Hp) (s:AH) (e:AF) (s':AH),CX w [] H s (λ_ _ _=>False) e s'->False):
  GH q loose XP YP l.row.toRowW d [] (λf vs=>GR f vs):=by
 refine Att.attach_call hn hdf λw s₀ s₁ mg mb fa o pm cd doc a vs ns G Y ho hd hcd hmg hobj hints hlen hg=>?_;have KX:=hY w _ Y;let⟨fd,hb,hF⟩:=F w mg fa _ KX G.T.g hmg;exact zfP KX G.T.g G.T.b G.T.builtins G.T.nolimit hg hobj hints (BC hlen hn2) hr hF hb (λH hO hS=>hsp w H a ns hlen hO hS) λH e s'=>hCX w H s₁ e s'
def yS(s:Bd):Arguments:=match s with
 |.FunctionDef _ a _ _ _ _ _ _ _ _=>a
 |_=>{posonlyargs:=[],args:=[],vararg:=AB,kwonlyargs:=[],kw_defaults:=[],kwarg:=AB,defaults:=[]}
def yF(s:Bd):List Stmt:=match s with
 |.FunctionDef _ _ b _ _ _ _ _ _ _=>b
 |_=>[]
def yg(s:Bd):Scope:=match s with
 |.FunctionDef _ _ _ _ _ _ sc _ _ _=>sc
 |_=>{kind:=.function,names:=[],isGenerator:=AE,isCoroutine:=AE}
abbrev CX0:CXT:=λ_ _ _ _ _ _=>False
abbrev E0:XK:=λ_ _ _=>False
structure Fun(K:AD)(x qual:AN)(st:Bd)(f:AG)(fd:Am):Prop where
 ex:∃(oc:AF) (od:Option AG) (kV doc pm:AF) (an:Option AG) (cdv ct:AF) (osl:Array (Option AF)),
  fd=BU x qual (yS st) (yF st) (yg st) .none kV doc pm an cdv ct/\K.lookup f=AA ⟨oc,od,.func fd,osl⟩/\Bm K cdv qual=AC
 kp:Ab K (.ref f)=AC
section
variable {P:A3}{w:Aa}{K:AD}{mg:AN->Option AF}{base:An}
theorem Fun.binds{x qual:AN}{st:Bd}{f:AG}{fd:Am}{ps:List AN}(F:Fun K x qual st f fd)
  (h:∀(kV doc pm:AF) (an:Option AG) (cdv ct:AF) (us:List AF),us.length=ps.length->bindArgs (BU x qual (yS st) (yF st) (yg st) .none kV doc pm an cdv ct) ⟨us,[]⟩=pure (ps.zip us)):Binds K fd ps []:=by
 let⟨oc,od,kV,doc,pm,an,cdv,ct,osl,rfl,lk,hcd⟩:=F.ex;exact .all (h kV doc pm an cdv ct)
end
section
variable {X:Cx}
end
def yeE(i j:Int):Prop:=0<=j/\j<=1000000/\i.natAbs<2^200
def zfL{a n:Int}(ha:a.natAbs<2^200)(hn:n<=1000000):(Cb a:Int)+n<=2^27:=by
 have hb:Cb a<=200:=by
  unfold Cb;split
  .exact BX _
  .rename_i h;have h0:a.natAbs≠0:=λz=>h (by simpa using Int.natAbs_eq_zero.1 z);exact(Gv h0).2 ha
 lia
section
variable {X:Cx}
def zhc:OpR X (binaryOp .LShift) (rI yeE λi j=>.int (i*2^j.toNat)):=opI λ_ _ _ _ _ _ _ hc q=>lshift_int hc.1 (zfL hc.2.2 hc.2.1) q
end
end L2
namespace WE
open PySem PySem.Spec PyProof.Rows
open AutoSeq1 (wpAny_loadPart')
section
variable {pg:A3}{wd:Aa}{A:A8}{Er:AF->AH->Prop}{s:AH}
def zc7{it t:AG}{i:Nat}{xs:Array AF}{x:AF}{Q:AF->AH->Prop}(hi:s.heap.IsTupleIter it t i)(ht:s.heap.IsTuple t xs)(hx:xs[i]?=AA x)
  (k:∀h',h'.IsTupleIter it t (i+1)->Bf it s.heap h'->Q x {s with heap:=h'}):A2 (model pg wd) A (Bq (.ref it)) Q Er s:=by
 let⟨oi,gi,ci,di⟩:=id hi;let⟨ot,gt,_,nt,dt⟩:=ht;unfold Bq;refine AI (CJ (name:=AT "__next__") hi.typeIs Bo (DH Bo hi.typeIs DV ?_ (DQ _)));show A2 _ _ (field (.ref it) 0 >>= _) _ _ _;refine AI (CN gi di (x:=.ref t) rfl ?_);show A2 _ _ (if (Au t==By)=AC then _ else _) _ _ _;rw[if_neg (show ¬((Au t==By)=AC)from λz=>AV z)];show A2 _ _ (field (.ref it) 1 >>= _) _ _ _;refine AI (CN gi di (x:=.int i 0) rfl ?_);show A2 _ _ (seqItems? (.ref t) >>= _) _ _ _;refine AI (Ee gt dt ?_);erw[F9,hx];refine AI (El gi di (by simp) (AO ⟨x,rfl,AO (k _ ?_ (FE ..))⟩));refine⟨_,Ea _ gi (Obj.isFreed_of_fields (FT di _)),(Obj.cls_mapFields ..).trans ci,?_⟩;rw[FT di];simp[rawInt]
def zdY{it t:AG}{i:Nat}{xs:Array AF}{Q:AF->AH->Prop}(hh:A.handled=AB)(hi:s.heap.IsTupleIter it t i)(ht:s.heap.IsTuple t xs)(hx:xs[i]?=AB)
  (k:∀h' e,Heap.ExtBut it s.heap h'->(∃o,h'.get? e=AA o/\o.cls=.type "StopIteration")->Er (.ref e) {s with heap:=h'}):A2 (model pg wd) A (Bq (.ref it)) Q Er s:=by
 let⟨oi,gi,ci,di⟩:=id hi;let⟨ot,gt,_,nt,dt⟩:=ht;unfold Bq;refine AI (CJ (name:=AT "__next__") hi.typeIs Bo (DH Bo hi.typeIs DV ?_ (DQ _)));show A2 _ _ (field (.ref it) 0 >>= _) _ _ _;refine AI (CN gi di (x:=.ref t) rfl ?_);show A2 _ _ (if (Au t==By)=AC then _ else _) _ _ _;rw[if_neg (show ¬((Au t==By)=AC)from λz=>AV z)];show A2 _ _ (field (.ref it) 1 >>= _) _ _ _;refine AI (CN gi di (x:=.int i 0) rfl ?_);show A2 _ _ (seqItems? (.ref t) >>= _) _ _ _;refine AI (Ee gt dt ?_);erw[F9,hx];refine AI (ET (AI (El gi di (by simp) ?_)));show A2 _ _ (newExc (.type "StopIteration") [] >>= _) _ _ _;refine AI ?_;erw[newExc,newTuple];refine AI (Aw ?_ (by size_fits));refine AI (m:=firstArgMember _ _) (wpAny_of_eq (a:=By) (by first|rfl|(erw[firstArgMember];rfl)) ?_);refine Aw ?_ (by size_fits);erw[raiseNew];refine AI (wpAny_handled ?_);first|rw[show A.in1.handled=AB from hh]|rw[hh]
 refine AI (AO (wpAny_throw ?_));exact k _ _ (((FE ..).extBut.push _).push _) ⟨_,A7 _ rfl,rfl⟩
end
theorem draws_tuple{pg:A3}{wd:Aa}{A:A8}(hh:A.handled=AB)(it t:AG)(hne:t≠it)(xs:Array AF):
  Draws pg wd A it [it,t] xs.size (λi v=>xs[i]?=AA v) (λi h=>h.IsTupleIter it t i/\h.IsTuple t xs) where
 live:=λ_ _ st=>let ⟨o,g,_⟩:=st.1;⟨o,g⟩
 frame:=λ_ _ _ st kp=>⟨let ⟨o,g,r⟩:=st.1;⟨o,kp it (by simp) o g,r⟩,let ⟨o,g,r⟩:=st.2;⟨o,kp t (by simp) o g,r⟩⟩
 item:=λi s Q E hi st hQ=>zc7 st.1 st.2 (x:=xs[i]) (by simp[hi]) λh' hit' hs'=>hQ _ h' s.toks (by simp[hi]) ⟨hit',st.2.extBut hs'.extBut hne⟩ hs'
 done:=λs Q E st hE=>zdY hh st.1 st.2 (by simp) hE
def zcg(l:AG)(xs:Array AF)(n:Nat)(dc:Option AG)(sl:Array (Option AF)):
  Meets (EY.«enumerate.__new__» ⟨[.type "enumerate",.ref l],[]⟩) (λ_ R s=>s.heap.get? l=AA {cls:=.type "tuple",dict:=dc,data:=.seq xs n,slots:=sl} /\
   R (.ok (.ret (.ref (s.heap.push {cls:=.type "tuple_iterator",data:=.fields #[.ref l,.int 0 0]}).objs.size)))
    {s with heap:=(s.heap.push {cls:=.type "tuple_iterator",data:=.fields #[.ref l,.int 0 0]}).push {cls:=.type "enumerate",data:=.fields #[.none,.bool AE,.ref s.heap.objs.size,rawInt 0,.none,.none]} }):=
 .of_wp λprog w A R s h=>by
  let⟨hp,g,d,tk,os⟩:=s;let⟨gl,h⟩:=h;have hsub:=sub_enumerate;have hT:Heap.IsTuple (Shared.heap ⟨hp,g,d,tk,os⟩) l xs:=⟨_,gl,rfl,n,rfl⟩
  wp_walk using wpAny_loadPart' gl
  refine wpAny_stack_any λst=>AO ?_;split
  .rename_i c _ _ _ _ _
   cases (c==FO "enumerate")
   .wp_walk using wpAny_loadPart' gl,Cn hT
    exact⟨_,rfl,h⟩
   .wp_walk using wpAny_loadPart' gl,Cn hT
    exact⟨_,rfl,h⟩
  .wp_walk using wpAny_loadPart' gl,Cn hT
   exact⟨_,rfl,h⟩
theorem call_enumT{pg:A3}{wd:Aa}{A:A8}{Er:AF->AH->Prop}{s:AH}{l:AG}{xs:Array AF}{Q:AF->AH->Prop}(hT:s.heap.IsTuple l xs)
  (k:∀h',IsEnum h' (s.heap.objs.size+1) s.heap.objs.size 0 .none->h'.IsTupleIter s.heap.objs.size l 0->h'.objs.size=s.heap.objs.size+2 ->
   (∀b o,s.heap.get? b=AA o->h'.get? b=AA o)->Q (.ref (s.heap.objs.size+1)) {s with heap:=h'}):A2 (model pg wd) A (call (.type "enumerate") [.ref l]) Q Er s:=by
 let⟨⟨c,dct,dt,sl⟩,gl,hc,n,hd⟩:=hT
 cases (show c=.type "tuple" from hc)
 cases (show dt=.seq xs n from hd)
 refine callType_new F.called_enumerate ⋯ (F.typeCall_enumerate_1 _) (F.newCall_enumerate_1 _) (λobj=>F.args_object_init_2 obj _) F.entry_enumerate_new (zcg l xs n dct sl) ⟨gl,?_⟩;have hz:(s.heap.push {cls:=.type "tuple_iterator",data:=.fields #[.ref l,.int 0 0]}).objs.size=s.heap.objs.size+1:=Em ..;show _/\_;rw[hz];have he:IsEnum ((s.heap.push {cls:=.type "tuple_iterator",data:=.fields #[.ref l,.int 0 0]}).push {cls:=.type "enumerate",data:=.fields #[.none,.bool AE,.ref s.heap.objs.size,rawInt 0,.none,.none]}) (s.heap.objs.size+1) s.heap.objs.size 0 .none:=by
  have q:=A7 (s.heap.push {cls:=.type "tuple_iterator",data:=.fields #[.ref l,.int 0 0]}) (o:={cls:=.type "enumerate",data:=.fields #[.none,.bool AE,.ref s.heap.objs.size,rawInt 0,.none,.none]}) rfl;rw[hz]at q;exact q
 exact⟨⟨_,he,rfl⟩,k _ he ⟨_,AS _ (A7 _ rfl),rfl,rfl⟩ (by rw[Em,hz]) λb o y=>AS _ (AS _ y)⟩
end WE
namespace L2
open PySem PySem.Spec PyProof.Rows
section
variable {X:Cx}
def ydd(i j:Int):Prop:=0<j/\j<10000000000000000000000000000000000000000000000000000000000000000000000
def zfj:OpR X (binaryOp .FloorDiv) (rI ydd λi j=>.int (i/j)):=opI λi j _ _ _ _ _ hc q=>by
 let⟨h1,h2⟩:=hc;refine floordiv_int ∅ (by rw[D5 i ∅];exact q) (.inl (PyProof.noPylong_of_log2 ?_));have h0:j.natAbs≠0:=by lia
 refine A0 ((Gv h0).mpr (?_:j.natAbs<2^250)) ⋯;have e:(10000000000000000000000000000000000000000000000000000000000000000000000:Nat)<2^250:=by decide
 lia
end
section
variable {X:Cx}{π:List (AG×BR)}{σ:St}{H:Hp}{s:AH}{h':An}
theorem Inv.turnLaid{t':Nat}{ch:List AG}{T:AG}{o:HO}(I:Inv X π σ H s)(hf:∀b∈ch,yal X π H b)(k:∀b u,b∉ch->s.heap.get? b=AA u->h'.get? b=AA u)
  (hp:s.heap.objs.size<=T) (new:yG X.prog X.w (upd H T o) h' T o):Inv X π σ (upd H T o) {s with heap:=h',toks:=t'}:=by
 have hn:H T=none:=I.hok.fresh hp;have nch:∀b u,H b=AA u->b∉ch:=λb u e z=>by
  have q:=(hf b z).1;rw[e]at q
  cases q
 refine I.step (g':=s.gens) (d':=s.drawn) (ch:=ch) (λb hb=>?_) (λb u _ _ hc e _=>k b u hc e) (λb u _ _ hc e _=>⟨u.slots,k b u hc e⟩) (λb u _ e n=>?_) (λb u hc e=>⟨u,k b u hc e⟩) (λb xs e=>?_) (λb u v e=>?_) (λb ps e=>⟨#[],?_⟩) (λm hm=>?_) (λb u e=>?_) I.bare
 .let⟨f0,f1,f2,f3,f4,f5⟩:=hf b hb;exact⟨f3,f1,f4,f5⟩
 .rw[za (Af (A0 (AX e) hp))];exact n
 .rw[za (zc e hn)];exact e
 .rw[za (zc e hn)];exact e
 .rw[za (zc e hn),e];simp
 .let⟨ob,es,ep,ho,r⟩:=hm;exact⟨ob,es,ep,k _ ob (λz=>(hf _ z).2.1 rfl) ho,r⟩
 .by_cases hb:b=T
  .subst hb;rw[zd]at e
   cases e
   exact new
  .rw[za hb]at e;refine(I.hok b u e).stay (λc v hc q=>k c v ?_ q) (λc q=>by rw[za (zc q hn)];exact q) λc xs q=>by rw[za (zc q hn)];exact q
   rcases hc with z|z
   .rw[z];exact nch b u e
   .exact nch c _ z
theorem Inv.turnedL{t':Nat}{ch:List AG}(I:Inv X π σ H s)(hf:∀b∈ch,yal X π H b)(k:∀b u,b∉ch->s.heap.get? b=AA u->h'.get? b=AA u):Inv X π σ H {s with heap:=h',toks:=t'}:=by
 have nch:∀b u,H b=AA u->b∉ch:=λb u e z=>by
  have q:=(hf b z).1;rw[e]at q
  cases q
 refine I.step (g':=s.gens) (d':=s.drawn) (ch:=ch) (λb hb=>?_) (λb u _ _ hc e _=>k b u hc e) (λb u _ _ hc e _=>⟨u.slots,k b u hc e⟩) (λ_ _ _ _ n=>n) (λb u hc e=>⟨u,k b u hc e⟩) (λ_ _ e=>e) (λ_ _ _ e=>e) (λb ps e=>⟨#[],by rw[e];simp⟩) (λm hm=>?_) (λb u e=>?_) I.bare
 .let⟨f0,f1,f2,f3,f4,f5⟩:=hf b hb;exact⟨f3,f1,f4,f5⟩
 .let⟨ob,es,ep,ho,r⟩:=hm;exact⟨ob,es,ep,k _ ob (λz=>(hf _ z).2.1 rfl) ho,r⟩
 .refine(I.hok b u e).stay (λc v hc q=>k c v ?_ q) (λ_ q=>q) λ_ _ q=>q;rcases hc with z|z
  .rw[z];exact nch b u e
  .exact nch c _ z
end
def Ite(K:AD)(a:AG):It:=
 ⟨λi H=>∃xs x,SqT K H a xs/\xs[i]?=AA x,λi H x H'=>∃T,H T=AB/\x=.ref T/\∀xs y,SqT K H a xs->xs[i]?=AA y->H'=upd H T (.tup [.int i,y]),λi H=>∃xs,SqT K H a xs/\xs.length=i⟩
def za1{h:An}{a b:AG}{o u:BR}(x:h.get? a=AA o)(y:h.get? b=AA u)(z:o.cls≠u.cls):a≠b:=λe=>by
 subst e;rw[x]at y
 cases y
 exact z rfl
def zdc{P:A3}{w:Aa}{K:AD}{es:List AM}{kk:Nat}{pos:Bc}(a e it:AG):
  Turn P w K (.Tuple es kk pos) (Ite K a) [e,it] e (λi h=>(∃old,IsEnum h e it i old)/\h.IsTupleIter it a i) where
 mem:=by simp
 obj:=λi h st b hb=>by
  let⟨⟨old,he⟩,oi,gi,ci,di⟩:=st;rcases A6.mp hb with z|z
  .subst z;exact⟨_,he,λv y=>nomatch y⟩
  .have z:b=it:=by simpa using z
   subst z;exact⟨oi,gi,λv y=>by rw[di]at y;cases y⟩
 keep:=λi h h' st k=>by
  let⟨⟨old,he⟩,oi,gi,r⟩:=st;exact⟨⟨old,k e (by simp) _ he⟩,oi,k it (by simp) _ gi,r⟩
 item:=by
  intro X hP hw hK hc i π s σ H E I hf st hg;subst hP hw hK;let⟨xs,x,hq,hx⟩:=hg;let⟨its,rv,p,hz⟩:=I.tuple hq;let⟨⟨old,he⟩,hi⟩:=st;let⟨oi,gi,ci,di⟩:=id hi;let⟨oa,ga,ca,na,da⟩:=id p;have nai:a≠it:=za1 ga gi (by rw[ca,ci];exact λz=>absurd (C4 z) ⋯);have nei:e≠it:=za1 he gi (by rw[ci];exact λz=>absurd (C4 z) ⋯);have nea:e≠a:=za1 he ga (by rw[ca];exact λz=>absurd (C4 z) ⋯);have hl:=rv.length;have hil:i<its.toArray.size:=by
   have:=(Ad.mp hx).1;simpa using (by lia:i<its.length)
  have W:=Fa (prog:=X.prog) (w:=X.w) (A:=X.A) (WE.draws_tuple (pg:=X.prog) (wd:=X.w) (A:=X.A.in1) (I.ok.hd hc) it a nai its.toArray) e nei (by simp[nei,nea]) (by simp);refine wpAny_pyNext_enum_itemD (WE.draws_tuple (pg:=X.prog) (wd:=X.w) (A:=X.A.in1) (I.ok.hd hc) it a nai its.toArray) he ⟨hi,p⟩ hil nei (by simp[nei,nea]) λy h1 tk hy ho hs' hT hsz' kp'=>⟨_,rfl,?_⟩;obtain⟨T,eT⟩:∃T,s.heap.objs.size=T:=⟨_,rfl⟩;have hsz:s.heap.objs.size<=T:=Gf eT;have kp:∀b o,b∉[e,it]->s.heap.get? b=AA o->h1.get? b=AA o:=λb o hb y=>kp' b o (λe'=>hb (by simp[e'])) (λe'=>hb (by simp[e'])) y;have mid:(∃x,IsEnumOut h1 e it ((i:Int)+1) x s.heap.objs.size)/\(h1.IsTupleIter it a (i+1)/\h1.IsTuple a its.toArray)/\s.heap.objs.size≠e/\s.heap.objs.size≠it:=⟨⟨_,ho⟩,hs',EU (AX he),EU (AX gi)⟩;rw[eT]at mid hT ⊢;refine W.go es kk pos i T _ _ E mid λh2 st2 kp2=>?_;let⟨u,hu,ru⟩:=rv.get hx;have ey:y=u:=AU (hy.symm.trans (by simpa using hu));subst ey;have hch:∀b o,b∉[e,it]->s.heap.get? b=AA o->h2.get? b=AA o:=λb o hb q=>kp2 b o hb (kp b o hb q);have hTw:=W.apart i T h1 mid;have new:yG X.prog X.w (upd H T (.tup [.int i,x])) h2 T (.tup [.int i,x]):=by
   exact⟨by show 2<=sizeLine;decide,[.int i tk,y],.cons ⟨tk,rfl⟩ (.cons ru .nil),kp2 T _ hTw hT⟩
  have I2:=I.turnLaid (t':=tk+1) hf hch hsz new;refine⟨.ref T,_,I2,rfl,⟨T,I.hok.fresh hsz,rfl,λys z hy' hz'=>?_⟩,⟨st2.1,st2.2.1⟩,λb hb=>?_⟩
  .rw[I.tuple_inj hy' hq]at hz';rw[hx]at hz'
   cases hz'
   rfl
  .rw[za (λz:b=T=>hTw (z ▸ hb))];exact(hf b hb).1
 done:=by
  intro X hP hw hK hc i π s σ H E I hf st hg;subst hP hw hK;let⟨xs,hq,hx⟩:=hg;let⟨its,rv,p,hz⟩:=I.tuple hq;let⟨⟨old,he⟩,hi⟩:=st;let⟨oi,gi,ci,di⟩:=id hi;let⟨oa,ga,ca,na,da⟩:=id p;have nai:a≠it:=za1 ga gi (by rw[ca,ci];exact λz=>absurd (C4 z) ⋯);have nei:e≠it:=za1 he gi (by rw[ci];exact λz=>absurd (C4 z) ⋯);have nea:e≠a:=za1 he ga (by rw[ca];exact λz=>absurd (C4 z) ⋯);have hl:=rv.length;have W:=Fa (prog:=X.prog) (w:=X.w) (A:=X.A) (WE.draws_tuple (pg:=X.prog) (wd:=X.w) (A:=X.A.in1) (I.ok.hd hc) it a nai its.toArray) e nei (by simp[nei,nea]) (by simp);have en:its.toArray.size=i:=by simp;lia
  refine W.done s _ E (by rw[en];exact⟨⟨old,he⟩,hi,p⟩) λh2 tk kp=>⟨rfl,I.turnedL (t':=tk) hf kp⟩
 self:=λ_ _ _ _ _ st q=>by
  let⟨⟨old,he⟩,_⟩:=st;exact Fb he q
def yfD(K:AD)(ta:TA):TI:=λσ H R=>ta σ H λvs H1=>∃a,vs=[.ref a]/\(∃xs,SqT K H1 a xs)/\R (Ite K a) H1
def zfA{X:Cx}{a:AM}{es:List AM}{kk:Nat}{tp:Bc}{ta:TA}{p pos:Bc}(hg:Gl X "enumerate")(hm:X.mg "enumerate"=AB)(ha:PA X [a] ta)(hs:starEach [a] X.env=[(AE,eval a X.env)]:=by rfl):
  PI X (.Tuple es kk tp) (.Call (.Name "enumerate" p) [a] [] pos) (yfD X.K ta):=by
 intro π s σ H R I h;refine BQ (zbC I hg hm boot_enumerate ?_);refine CW (thn (ha pos π s σ H _ I h) λus s1 kq=>?_) hs rfl;let⟨vs,H1,I1,r1,q1⟩:=kq;let⟨l,rfl,⟨xs,hq⟩,q⟩:=q1;let⟨u,rfl,ru⟩:=Vals.one r1
 cases (show u=Au l from ru)
 let⟨its,rv,pt,hz⟩:=I1.tuple hq;refine WE.call_enumT (show s1.heap.IsTuple l its.toArray from pt) λh1 he hi hsz kp=>?_;refine Fb he ?_;refine⟨_,[s1.heap.objs.size+1,s1.heap.objs.size],_,_,H1,rfl,I1.kept (t':=s1.toks) kp,zdc l _ s1.heap.objs.size,⟨⟨_,he⟩,hi⟩,λb hb=>?_,q⟩;have hb2:s1.heap.objs.size<=b:=by
  rcases A6.mp hb with z|z
  .subst z;exact C5 _
  .have z:b=s1.heap.objs.size:=by simpa using z
   subst z;exact AR _
 exact I1.fpOk hb2 (I1.hok.fresh hb2)
abbrev No:AF->AH->Prop:=λ_ _=>False
abbrev ycr(ifs:List AM)(env:Env):Fi Bool:=forIn ifs AC λc r=>if r=AC then do let ok <-isTrue c env (eval c env);pure (DN ok)else pure (DN r)
section
variable {pg:A3}{wd:Aa}{A:A8}{R:D6->AH->Prop}{s:AH}
def zeN{elt tg iter:AM}{ifs:List AM}{sc:Ao}{pos:Bc}{it acc:AF}{env:Env}(I:Nat->AH->Prop)
  (turn:∀n s,I n s->A2 (model pg wd) A (pyNext it) (λr s1=>match r with
   |none=>R (.ok .next) s1
   |some v=>A2 (model pg wd) A (letOwnedTupleGo tg it v) (λ_ s2=>A2 (model pg wd) A (assign tg env v) (λ_ s3=>A2 (model pg wd) A (ycr ifs env) (λok s4=>
     if ok=AC then A2 (model pg wd) A (eval elt env) (λx s5=>A2 (model pg wd) A (call (.builtin "list.append") [acc,x]) (λ_ s6=>∃m,m<n/\I m s6) No s5) No s4
     else ∃m,m<n/\I m s4) No s3) No s2) No s1) No s)
  (n:Nat) (h:I n s):codeAny (model pg wd) A (.compLoop (.ListComp elt [⟨tg,iter,ifs,0⟩] sc pos) 0 it acc env) R s:=by
 refine codeAny_loop rfl I (λn s hI=>?_) n h;show A2 _ A ((compTurn (.ListComp elt [⟨tg,iter,ifs,0⟩] sc pos) 0 it acc env).onRaise (λx=>do noteFrame x env;theTreesLotGoes x)) _ _ s;refine wpAny_noted ?_;rw[compTurn_list];refine AI (B3 (AI (Az (turn n s hI) (λr s1 h1=>?_) λ_ _ f=>f.elim)))
 cases r with
 |none=>exact AO h1
 |some v=>
  refine AI (Az h1 (λ_ s2 h2=>AI (Az h2 (λ_ s3 h3=>AI (Az h3 (λok s4 h4=>?_) λ_ _ f=>f.elim)) λ_ _ f=>f.elim)) λ_ _ f=>f.elim)
  cases ok with
  |false=>exact AO ⟨rfl,h4⟩
  |true=>exact AI (AI (Az h4 (λx s5 h5=>AI (Az h5 (λ_ s6 h6=>AO (AO ⟨rfl,h6⟩)) λ_ _ f=>f.elim)) λ_ _ f=>f.elim))
end
def yO(env:Env)(r:List (AN×AG))(x:AN×Bl):List (AN×AG):=if x.2=.free then(x.1,(env.cells.lookup x.1).getD 0)::r else r
def yaT(sc:Ao)(env:Env):List (AN×AG):=sc.names.foldl (yO env) []
def zc9{α β:Type}{l:List α}{f:α->β->Fi (ForInStep β)}{g:β->α->β}(h:∀x∈l,∀c,f x c=pure (.yield (g c x))):∀c:β,forIn l c f=pure (l.foldl g c):=by
 induction l with
 |nil=>exact λ_=>rfl
 |cons x l ih=>
  intro c;rw[E4,h x AW,pure_bind,CP];exact ih (λy hy=>h y (AL _ hy)) (g c x)
def zm{sc:Ao}{env:Env}(hf:∀y∈sc.names,y.2=.free->∃c,env.cells.lookup y.1=AA c):closureFor sc env=pure (yaT sc env):=by
 erw[closureFor];rw[zc9 (g:=yO env) (λx hx c=>?_)]
 .rfl
 .let⟨n,k⟩:=x
  by_cases hk:k=.free
  .subst hk;let⟨a,ha⟩:=hf _ hx rfl;have ha':env.cells.lookup n=AA a:=ha;simp[yO,cellOf,ha']
  .have hb:(k==CA)=false:=by simpa using hk
   simp[yO,hk,hb]
def zag{env:Env}:∀(l:List (AN×Bl)) (r:List (AN×AG)),(∀y∈l,y.2=.free->∃c,env.cells.lookup y.1=AA c)->(∀x c,r.lookup x=AA c->env.cells.lookup x=AA c) ->
  ∀x c,(l.foldl (yO env) r).lookup x=AA c->env.cells.lookup x=AA c
 |[],r,_,h=>h
 |y::l,r,hf,h=>by
  refine zag l (yO env r y) (λz hz=>hf z (AL _ hz)) λx c e=>?_;unfold yO at e
  by_cases hk:y.2=.free
  .let⟨a,ha⟩:=hf y AW hk;rw[if_pos hk,Av]at e
   cases hx:x==y.1 with
   |true=>
    rw[hx,ha]at e;rw[eq_of_beq hx,ha];exact e
   |false=>
    rw[hx]at e;exact h x c e
  .rw[if_neg hk]at e;exact h x c e
def zaI{env:Env}{x:AN}:∀(l:List (AN×Bl)) (r:List (AN×AG)),(∃c,r.lookup x=AA c)->∃c,(l.foldl (yO env) r).lookup x=AA c
 |[],r,h=>h
 |y::l,r,h=>by
  refine zaI l (yO env r y) ?_;unfold yO
  by_cases hk:y.2=.free
  .rw[if_pos hk,Av]
   cases hx:x==y.1 with
   |true=>exact⟨_,rfl⟩
   |false=>exact h
  .rw[if_neg hk];exact h
def zE{env:Env}:∀(l:List (AN×Bl)) (r:List (AN×AG)),∀y∈l,y.2=.free->∃c,(l.foldl (yO env) r).lookup y.1=AA c
 |[],_,y,hy,_=>nomatch hy
 |z::l,r,y,hy,hk=>by
  rcases A6.mp hy with e|e
  .subst e;refine zaI l (yO env r y) ?_;unfold yO;rw[if_pos hk,Av,beq_self_eq_true];exact⟨_,rfl⟩
  .exact zE l (yO env r z) y e hk
theorem mem_of_lookup{β:Type}{x:AN}{k:β}:∀{l:List (AN×β)},l.lookup x=AA k->(x,k)∈l
 |[],h=>nomatch h
 |y::l,h=>by
  rw[Av]at h
  cases hx:x==y.1 with
  |true=>
   rw[hx]at h
   cases h
   rw[eq_of_beq hx];exact AW
  |false=>
   rw[hx]at h;exact AL _ (mem_of_lookup h)
def ybH(env:Env)(x:AN)(k:Bl):NameKind:=if (k==.free&&env.scope.kind==.function&&env.kindOf x==AA .cell)=AC then .cell else k
def zR{sc:Ao}{env:Env}(x:AN):(relabel sc env).names.lookup x=(sc.names.lookup x).map (ybH env x):=by
 unfold relabel;show (sc.names.map λ(n,k)=>if (k==CA&&env.scope.kind==.function&&env.kindOf n==AA .cell)then(n,Dx)else(n,k)).lookup x=_
 induction sc.names with
 |nil=>rfl
 |cons y l ih=>
  let⟨n,k⟩:=y;rw[AZ];show GA x ((if (k==CA&&env.scope.kind==.function&&env.kindOf n==AA .cell)=AC then(n,Dx)else(n,k))::_)=_
  cases hx:x==n with
  |true=>
   have e:=eq_of_beq hx;subst e
   by_cases hc:(k==CA&&env.scope.kind==.function&&env.kindOf x==AA .cell)=AC
   .rw[if_pos hc,Av,beq_self_eq_true];simp[ybH,hc]
   .rw[if_neg hc,Av,beq_self_eq_true];simp[ybH,hc]
  |false=>
   by_cases hc:(k==CA&&env.scope.kind==.function&&env.kindOf n==AA .cell)=AC
   .rw[if_pos hc];erw[Av,hx];exact ih
   .rw[if_neg hc];erw[Av,hx];exact ih
structure CI where
 C:AG
 s:AH
 H:Hp
 fp:List AG
def cxC(X:Cx)(sc:Ao)(NC:List AN)(j:CI):Cx where
 prog:=X.prog
 w:=X.w
 K:=X.K
 mg:=X.mg
 base:=X.base
 A:=X.A
 N:=NC
 s₀:=j.s
 H₀:=j.H
 env:=compEnvC sc (yaT sc X.env) j.C X.env
 outer:=X.stack
 stack:=X.stack
 ex:=j.fp
 fn:=λ_=>AE
 calm:=X.calm
 pn:=[]
 xe:=No
def inn(slots:List (Option Nat))(σ:St):St:=slots.map λo=>o.bind λj=>(σ[j]?).join
structure yK(X:Cx)(sc:Ao)(NC:List AN)(slots:List (Option Nat)):Prop where
 kind:sc.kind=.function
 names:∀y∈sc.names,y.2=.local->sc.names.lookup y.1=AA .local
 nocell:∀y∈sc.names,y.2 ≠ .cell
 free:∀y∈sc.names,y.2=.free->X.env.scope.names.lookup y.1=AA .cell
 slot:∀(i:Nat) (x:AN) (j:Nat),NC[i]?=AA x->slots[i]?=AA (AA j)->X.N[j]?=AA x/\sc.names.lookup x=AA .free
 len:slots.length=NC.length
def zlh{X:Cx}{sc:Ao}{NC:List AN}{slots:List (Option Nat)}(N:List AN)(so:Ao)(hN:X.N=N)(hs:X.env.scope=so)(kind:sc.kind=.function)
  (names:∀y∈sc.names,y.2=.local->sc.names.lookup y.1=AA .local) (nocell:∀y∈sc.names,y.2 ≠ .cell) (free:∀y∈sc.names,y.2=.free->so.names.lookup y.1=AA .cell)
  (slot:∀p∈NC.zip slots,(p.2.all λj=>decide (N[j]?=AA p.1/\sc.names.lookup p.1=AA .free))=AC) (len:slots.length=NC.length):yK X sc NC slots:=by
 subst hN hs;refine⟨kind,names,nocell,free,λi x j e1 e2=>?_,len⟩;have hm:(x,AA j)∈NC.zip slots:=A5 (i:=i) (by rw[Dq];exact⟨e1,e2⟩);have:=slot _ hm;simpa using this
section
variable {X:Cx}{sc:Ao}{NC:List AN}{slots:List (Option Nat)}{π:List (AG×BR)}{σ:St}{H:Hp}{s:AH}
theorem yK.cells(O:yK X sc NC slots)(ok:X.Ok):∀y∈sc.names,y.2=.free->∃c,X.env.cells.lookup y.1=AA c:=λy hy hk=>ok.has y.1 (.inl (O.free y hy hk))
theorem yK.sub(O:yK X sc NC slots)(ok:X.Ok):∀x c,(yaT sc X.env).lookup x=AA c->X.env.cells.lookup x=AA c:=zag sc.names [] (O.cells ok) λ_ _ e=>nomatch e
theorem yK.rel(O:yK X sc NC slots)(ok:X.Ok){x:AN}(h:sc.names.lookup x=AA .free):(relabel sc X.env).names.lookup x=AA .cell:=by
 rw[zR,h];have e:X.env.kindOf x=AA .cell:=O.free _ (mem_of_lookup h) rfl;simp[ybH,ok.kind,e]
def zaX(I:Inv X π σ H s)(O:yK X sc NC slots){fp:List AG}(hf:∀b∈fp,yal X π H b)(hob:∀b∈fp,∃o,s.heap.get? b=AA o){h1:An}{t':Nat}{m:AN->Option AF}(hns:h1.Ns s.heap.objs.size m)
  (hk:∀b o,s.heap.get? b=AA o->h1.get? b=AA o):Inv (cxC X sc NC ⟨s.heap.objs.size,s,H,fp⟩) [] (inn slots σ) H {s with heap:=h1,toks:=t'}:=by
 have sub:=O.sub I.ok;have fss:∀b,b≠X.env.locals->b∉X.fs->b∉frs X.stack:=λb h1 h2 hb=>(A6.mp (I.stkSub b hb)).elim h1 h2;have ltC:∀x c,(yaT sc X.env).lookup x=AA c->c<s.heap.objs.size:=λx c e=>by
  let⟨v,q⟩:=I.cell x c (sub x c e);exact q.lt
 refine⟨⟨I.ok.mod,O.kind,I.ok.glob,I.ok.blt,AR _,λx y c e1 e2=>I.ok.inj x y c (sub x c e1) (sub y c e2),λx hx=>?_,λ_ _ z=>(nomatch z),I.ok.hd,I.ok.frames,.inl rfl,λb hb=>⟨?_,λx c e=>(hf b hb).2.2.2.2.1 x c (sub x c e)⟩,I.bs,BC I.ok.bsz I.sz,λb o e hb=>?_,λb hb=>fss b (hf b hb).2.1 (hf b hb).2.2.1,I.stack,I.stkFree⟩,
  rfl,I.bare,Un.kept hk,⟨m,hns,λi x v e1 e2 e3=>?_⟩,λx c e=>?_,I.hok.fresh (AR _),λx c e=>I.freeC x c (sub x c e),λp hp=>(nomatch hp),I.hok.kept hk,?_⟩
 .have hx':(relabel sc X.env).names.lookup x=AA .cell \/ (relabel sc X.env).names.lookup x=AA .free:=hx;rw[zR]at hx'
  cases q:sc.names.lookup x with
  |none=>
   rw[q]at hx';rcases hx' with z|z<;>cases z
  |some k=>
   have hm:=mem_of_lookup q;have hkf:k=.free:=by
    rw[q]at hx';have nc:=O.nocell _ hm
    by_cases hk:k=.free
    .exact hk
    .exfalso;have hb:(k==CA)=false:=by simpa using hk
     rcases hx' with z|z
     .simp[ybH,hb]at z;exact nc z
     .simp[ybH,hb]at z;exact hk z
   subst hkf;exact zE sc.names [] _ hm rfl
 .let⟨o,e⟩:=hob b hb;exact Af (AX e)
 .rcases (hf b hb).2.2.2.1 with z|z
  .exact I.ok.noex b o e z
  .exact absurd (A0 (AX e) (BC I.ok.bsz z)) (Bi _)
 .obtain⟨j,e4,e5⟩:∃j,slots[i]?=AA (AA j)/\σ[j]?=AA (AA v):=by
   have e2':(slots.map λo=>o.bind λj=>(σ[j]?).join)[i]?=AA (AA v):=e2;rw[Ax]at e2'
   cases q:slots[i]? with
   |none=>
    rw[q]at e2'
    cases e2'
   |some o=>
    rw[q]at e2'
    cases o with
    |none=>cases e2'
    |some j=>
     refine⟨j,rfl,?_⟩;have e6:(σ[j]?).join=AA v:=AU e2'
     cases q2:σ[j]? with
     |none=>
      rw[q2]at e6
      cases e6
     |some w=>
      rw[q2]at e6;have e7:w=AA v:=e6;rw[e7]
  let⟨e6,e7⟩:=O.slot i x j e1 e4;have kc:X.env.scope.names.lookup x=AA .cell:=O.free _ (mem_of_lookup e7) rfl;let⟨m0,hn0,hl⟩:=I.loc;let⟨u,r,lk⟩:=hl j x v e6 e5 (.inr (.inl kc));refine⟨u,r,.inr ⟨.inl (O.rel I.ok e7),?_⟩⟩;rcases lk with⟨z,_⟩|⟨_,c,hc,o,ho,hd⟩
  .rw[show X.env.kindOf x=AA .cell from kc]at z
   cases z
  .let⟨c',hc'⟩:=zE (env:=X.env) sc.names [] _ (mem_of_lookup e7) rfl;have e8:c'=c:=AU ((sub x c' hc').symm.trans hc);subst e8;exact⟨c',hc',o,hk _ _ ho,hd⟩
 .let⟨v,o,ho,hd⟩:=I.cell x c (sub x c e);exact⟨v,o,hk _ _ ho,hd⟩
 .show (slots.map λo=>o.bind λj=>(σ[j]?).join).length=NC.length;rw[Ak,O.len]
def zaT(I:Inv X π σ H s){fp:List AG}(hf:∀b∈fp,yal X π H b){C:AG}(hC:s.heap.objs.size<=C){pl:List (AG×BR)}{σ':St}{H':Hp}{s':AH}(J:Inv (cxC X sc NC ⟨C,s,H,fp⟩) pl σ' H' s')
  {h2:An} (hb:Bf C s'.heap h2):Inv X π σ H' {s' with heap:=h2}:=by
 have nC:∀b o,s.heap.get? b=AA o->b≠C:=λb o e=>Af (A0 (AX e) hC);have B:Un (frs X.stack) fp H H' s.heap s'.heap:=J.base;have fC:H' C=none:=J.free;refine I.call' (ch:=fp) J.os ⟨λb o e n h3 h4=>(hb.2 b (nC b o e)).trans (B.keep b o e n h3 h4),λb o e n h3 h4=>?_,B.free,λb o e h4=>?_,B.tups,B.frzs,B.tbls⟩ (λb u e=>?_) J.bare λb h3=>⟨(hf b h3).2.2.2.1,(hf b h3).2.1,(hf b h3).2.2.2.2.1,(hf b h3).2.2.2.2.2⟩
 .let⟨sl,q⟩:=B.slot b o e n h3 h4;exact⟨sl,(hb.2 b (nC b o e)).trans q⟩
 .let⟨o',q⟩:=B.there b o e h4;exact⟨o',(hb.2 b (nC b o e)).trans q⟩
 .refine(J.hok b u e).stay (λc v hc q=>(hb.2 c λz=>?_).trans q) (λ_ q=>q) λ_ _ q=>q;subst z;rcases hc with z|z
  .rw[z,e]at fC
   cases fC
  .rw[z]at fC
   cases fC
end
def PTs(X:Cx)(ifs:List AM)(t:TT):Prop:=
 ∀(π:List (AG×BR)) (s:AH) (σ:St) (H:Hp) (Q:Bool->Hp->Prop),Inv X π σ H s->t σ H Q->A2 (model X.prog X.w) X.A (ycr ifs X.env) (TP X π σ Q) X.xe s
def yb7:TT:=λ_ H Q=>Q AC H
def zaK{X:Cx}:PTs X [] yb7:=λ_ _ _ H _ I h=>wpAny_tests_nil ⟨H,I,h⟩
def zhG{X:Cx}{c:AM}{t:TT}(h:PT X c t):PTs X [c] t:=λπ s σ H Q I q=>wpAny_tests_one (h π s σ H Q I q)
def ybK(J:It)(D:AG)(g:TG)(ti:TT)(te:TE)(W:Nat->Nat->St->List V->Hp->Prop)(Q:Hp->Prop):Prop:=
 ∀i m σc ys H2,W i m σc ys H2->H2 D=AA (.lst ys)/\((J.stop i H2/\Q H2) \/ (J.go i H2/\ys.length<sizeLine/\∃N:St->List V->Hp->Prop,(∀σ' ys' H',N σ' ys' H'->∃m',m' < m/\W (i+1) m' σ' ys' H') /\
  ∀x H3,J.yld i H2 x H3->g x σc H3 λσ4 H4=>ti σ4 H4 λb H5=>if b=AC then te σ4 H5 λy H6=>H6 D=AA (.lst ys)/\N σ4 (ys++[y]) (upd H6 D (.lst (ys++[y])))else N σ4 ys H5))
def ybG(slots:List (Option Nat))(wi:TI)(g:TG)(ti:TT)(te:TE):TE:=λσ H Q=>wi σ H λJ H1=>∀D,H1 D=AB->∃W:Nat->Nat->St->List V->Hp->Prop,(∃m,W 0 m (inn slots σ) [] (upd H1 D (.lst [])))/\ybK J D g ti te W (Q (.ref D))
section
variable {X:Cx}{sc:Ao}{NC:List AN}{slots:List (Option Nat)}{elt tg iter:AM}{ifs:List AM}{pos:Bc}{g:TG}{ti:TT}{te:TE}
def zfR(hc:X.calm=AC)(hg:∀j,PG (cxC X sc NC j) tg g)(ht:∀j,PTs (cxC X sc NC j) ifs ti)(he:∀j,PE (cxC X sc NC j) elt te){cj:CI}{it D:AG}{tn:Nat->An->Prop}{J:It}
  {W:Nat->Nat->St->List V->Hp->Prop} {Q:Hp->Prop} {R:D6->AH->Prop} {s:AH} {σc:St} {ys:List V} {H:Hp} (T:Turn X.prog X.w X.K tg J cj.fp it tn)
  (I:Inv (cxC X sc NC cj) [] σc H s) (hf:∀b∈cj.fp,yal (cxC X sc NC cj) [] H b) (st:tn 0 s.heap) {m:Nat} (w0:W 0 m σc ys H) (step:ybK J D g ti te W Q)
  (fin:∀σ' H' s',Inv (cxC X sc NC cj) [] σ' H' s'->Q H'->R (.ok .next) s'):
  codeAny (model X.prog X.w) X.A (.compLoop (.ListComp elt [⟨tg,iter,ifs,0⟩] sc pos) 0 (.ref it) (.ref D) (cxC X sc NC cj).env) R s:=by
 have stat:∀{H':Hp},(∀b∈cj.fp,H' b=AB)->∀b∈cj.fp,yal (cxC X sc NC cj) [] H' b:=λhn b hb=>⟨hn b hb,(hf b hb).2⟩;refine zeN (λn s'=>∃i σ' ys' H',Inv (cxC X sc NC cj) [] σ' H' s'/\tn i s'.heap/\(∀b∈cj.fp,H' b=AB)/\W i n σ' ys' H') ?_ m ⟨0,σc,ys,H,I,st,λb hb=>(hf b hb).1,w0⟩
 rintro n s3 ⟨i,σ3,ys3,H3,I3,st3,fr3,w3⟩
 let⟨hD,q⟩:=step i n σ3 ys3 H3 w3;rcases q with⟨stop,qn⟩|⟨go,hz,N,hN,turn⟩
 .refine thn (T.done (cxC X sc NC cj) rfl rfl rfl hc i [] s3 σ3 H3 No I3 (stat fr3) st3 stop) λr s4 kq=>?_;let⟨hr,I4⟩:=kq;subst hr;exact fin σ3 H3 s4 I4 qn
 .refine thn (T.item (cxC X sc NC cj) rfl rfl rfl hc i [] s3 σ3 H3 No I3 (stat fr3) st3 go) λr s4 kq=>?_;let⟨u,hr,h4⟩:=kq;subst hr;refine thn h4 λ_ s5 kq=>?_;let⟨x,H5,I5,r5,y5,st5,fr5⟩:=kq;have I5':=I5.pinned (stat fr5) (T.obj _ _ st5);refine thn (hg cj _ s5 σ3 H5 x u _ I5' r5 (turn x H5 y5)) λ_ s6 kq=>?_;let⟨σ6,H6,I6,q6⟩:=kq;refine thn (ht cj _ s6 σ6 H6 _ I6 q6) λok s7 kq=>?_;let⟨H7,I7,q7⟩:=kq;have again:∀{σ8:St} {ys8:List V} {H8:Hp} {s8:AH},Inv (cxC X sc NC cj) ([]++yaF cj.fp s5.heap) σ8 H8 s8->N σ8 ys8 H8->∃m,m<n/\∃i σ' ys' H',Inv (cxC X sc NC cj) [] σ' H' s8/\tn i s8.heap/\(∀b∈cj.fp,H' b=AB)/\W i m σ' ys' H':=λ{σ8 ys8 H8 s8} I8 n8=>by
   let⟨m',hm,w8⟩:=hN σ8 ys8 H8 n8;refine⟨m',hm,i+1,σ8,ys8,H8,I8.unpinned,T.keep _ _ _ st5 λb hb o e=>(I8.pin (b,o) (A9 _ (A9 _ (zr hb e)))).1,λb hb=>?_,w8⟩;let⟨o,e,d⟩:=T.obj _ _ st5 b hb;exact(I8.pin (b,o) (A9 _ (A9 _ (zr hb e)))).2.1
  cases ok with
  |false=>
   rw[if_neg AV]at q7 ⊢;exact again I7 q7
  |true=>
   rw[if_pos rfl]at q7 ⊢;refine thn (he cj _ s7 σ6 H7 _ I7 q7) λy s8 kq=>?_;let⟨v,H8,I8,r8,hD8,q8⟩:=kq;refine thn (zbw (X:=cxC X sc NC cj) _ s8 σ6 H8 (.ref D) [v] (.ref D) [y] (λz H'=>z=.non/\H'=upd H8 D (.lst (ys3++[v]))) I8 rfl (.cons r8 .nil) ⟨D,ys3,v,rfl,rfl,hD8,hz,rfl,rfl⟩) λz s9 kq=>?_;let⟨zv,H9,I9,r9,e1,e2⟩:=kq;subst e2;exact again I9 q8
def zaR(hc:X.calm=AC)(O:yK X sc NC slots)(hg:∀j,PG (cxC X sc NC j) tg g)(ht:∀j,PTs (cxC X sc NC j) ifs ti)(he:∀j,PE (cxC X sc NC j) elt te){π:List (AG×BR)}{s:AH}{σ:St}{H:Hp}(I:Inv X π σ H s)
  {it:AG} {fp:List AG} {tn:Nat->An->Prop} {J:It} (T:Turn X.prog X.w X.K tg J fp it tn) (st:tn 0 s.heap) (hf:∀b∈fp,yal X π H b) {Q:VK}
  (h:∀D,H D=AB->∃W:Nat->Nat->St->List V->Hp->Prop,(∃m,W 0 m (inn slots σ) [] (upd H D (.lst [])))/\ybK J D g ti te W (Q (.ref D))) {RR:AF->AG->D6->AH->Prop}
  (fin:∀D C s' H',Q (.ref D) H'->(∃o m,s'.heap.get? C=AA o/\s'.heap.Ns C m/\∀v,o.data ≠ .cell v)->yal X π H' C->(∀h2,Bf C s'.heap h2->Inv X π σ H' {s' with heap:=h2})->RR (.ref D) C (.ok .next) s'):
  A2 (model X.prog X.w) X.A (newList []) (λacc s3=>A2 (model X.prog X.w) X.A (newFunctionEnv sc X.env.globals (yaT sc X.env) [] X.env.qual AB .none (AA X.env)) (λcenv s4=>
   codeAny (model X.prog X.w) X.A (.compStart (.ListComp elt [⟨tg,iter,ifs,0⟩] sc pos) 0 (.ref it) acc {cenv with scope:=relabel sc X.env}) (RR acc cenv.locals) s4) X.xe s3) X.xe s:=by
 refine Aw (En O.nocell (by intro y hy;simp at hy) (λh1 hns1 hsb1=>?_) O.kind);dsimp only at hns1 hsb1 ⊢;have hDn:H s.heap.objs.size=none:=I.hok.fresh (AR _);let⟨W,⟨m,w0⟩,step⟩:=h s.heap.objs.size hDn;obtain⟨s3,hs3⟩:∃x:AH,x=({s with heap:=s.heap.push {cls:=.type "list",dict:=AB,data:=.seq ([]:List AF).toArray} }:AH):=⟨_,rfl⟩;have e3:s3.heap=s.heap.push {cls:=.type "list",dict:=AB,data:=.seq ([]:List AF).toArray}:=by rw[hs3]
 rw[<-e3]at hns1 hsb1;have hp3:∀b o,s.heap.get? b=AA o->s3.heap.get? b=AA o:=λb o e=>by
  rw[e3];exact AS _ e
 have I3:Inv X π σ (upd H s.heap.objs.size (.lst [])) s3:=by
  have q:=I.laid (a:=s.heap.objs.size) (o:=.lst []) (h':=s3.heap) (t':=s.toks) hp3 (AR _) ⟨BX _,[],_,.nil,by rw[e3];exact A7 _ rfl⟩;rw[hs3]at q ⊢;exact q
 have hf3:∀b∈fp,yal X π (upd H s.heap.objs.size (.lst [])) b:=λb hb=>by
  let⟨o,e,_⟩:=T.obj _ _ st b hb;refine⟨?_,(hf b hb).2⟩;rw[za (Af (AX e))];exact(hf b hb).1
 have st3:tn 0 s3.heap:=T.keep _ _ _ st λb _ o e=>hp3 b o e;have hob:∀b∈fp,∃o,s3.heap.get? b=AA o:=λb hb=>by
  let⟨o,e,_⟩:=T.obj _ _ st3 b hb;exact⟨o,e⟩
 have hk1:∀b o,s3.heap.get? b=AA o->h1.get? b=AA o:=λb o e=>hsb1.extBut b o (Af (AX e)) (AS _ e);have J1:=zaX (t':=s3.toks+([]:List (AN×AF)).length) I3 O hf3 hob hns1 hk1;have hfc:∀b∈fp,yal (cxC X sc NC ⟨s3.heap.objs.size,s3,upd H s.heap.objs.size (.lst []),fp⟩) [] (upd H s.heap.objs.size (.lst [])) b:=λb hb=>
  ⟨(hf3 b hb).1,(J1.ok.exf b hb).1,J1.ok.exfs b hb,.inl hb,(J1.ok.exf b hb).2,λp hp=>nomatch hp⟩
 have loop:codeAny (model X.prog X.w) X.A (.compLoop (.ListComp elt [⟨tg,iter,ifs,0⟩] sc pos) 0 (.ref it) (.ref s.heap.objs.size) (cxC X sc NC ⟨s3.heap.objs.size,s3,upd H s.heap.objs.size (.lst []),fp⟩).env) (RR (.ref s.heap.objs.size) s3.heap.objs.size)
   {s3 with heap:=h1,toks:=s3.toks+([]:List (AN×AF)).length}:=by
  refine zfR (D:=s.heap.objs.size) (Q:=Q (.ref s.heap.objs.size)) hc hg ht he T J1 hfc (T.keep _ _ _ st3 λb _ o e=>hk1 b o e) w0 step λσ' H' s' J' q'=>?_;have fC:H' s3.heap.objs.size=none:=J'.free;refine fin _ _ s' H' q' ?_ (I3.fpOk (AR _) fC) λh2 hb=>zaT I3 hf3 (AR _) J' hb;let⟨m',hn',_⟩:=J'.loc;let⟨o,es,ep,ho,hd,r⟩:=id hn';exact⟨o,m',ho,hn',λv z=>by rw[hd]at z;cases z⟩
 have self:=λ(RQ:AF->AH->Prop) (EE:AF->AH->Prop)=>T.self X.A 0 {s3 with heap:=h1,toks:=s3.toks+([]:List (AN×AF)).length} RQ EE (T.keep _ _ _ st3 λb _ o e=>hk1 b o e);subst hs3;exact codeAny_compStart_list loop (self _ _ loop)
variable {wi:TI}
def zeW(hc:X.calm=AC)(O:yK X sc NC slots)(hi:PI X tg iter wi)(hg:∀j,PG (cxC X sc NC j) tg g)(ht:∀j,PTs (cxC X sc NC j) ifs ti)(he:∀j,PE (cxC X sc NC j) elt te)
  (hs:∀x,foldedSetIterable iter X.env x=pure x:=by intro _;rfl):PE X (.ListComp elt [⟨tg,iter,ifs,0⟩] sc pos) (ybG slots wi g ti te):=by
 intro π s σ H Q I h;rw[eval_ListComp];refine CB (use:=AB) rfl hs (zm (O.cells I.ok)) O.kind O.names (thn (hi π s σ H _ I h) λv s1 h1=>thn h1 λitv s2 h2=>?_);let⟨it,fp,tn,J,H2,rfl,I2,T,st2,f2,q2⟩:=h2;refine zaR hc O hg ht he I2 T st2 f2 q2 λD C s' H' q' ⟨o,m,ho,hn,_⟩ _ out=>⟨m,hn,λh2 hb=>⟨.ref D,H',out h2 hb,rfl,q'⟩⟩
def zik{i:Nat}{x:AN}{px spos:Bc}(hN:X.N.Nodup)(hix:X.N[i]?=AA x)(hx:Loc X.env.scope x)(hc:X.calm=AC)(O:yK X sc NC slots)(hi:PI X tg iter wi)(hg:∀j,PG (cxC X sc NC j) tg g)(ht:∀j,PTs (cxC X sc NC j) ifs ti)(he:∀j,PE (cxC X sc NC j) elt te)
  (hsw:swapsWith (.ListComp elt [⟨tg,iter,ifs,0⟩] sc pos) (AA (.Name x px)) spos.line X.env=pure true:=by rfl) (hs:∀x,foldedSetIterable iter X.env x=pure x:=by intro _;rfl)
  (hf:X.fn x=AC \/ X.env.scope.names.lookup x=AA .local:=by first|exact .inl rfl|exact .inr rfl|assumption):PS X (.Assign [.Name x px] (.ListComp elt [⟨tg,iter,ifs,0⟩] sc pos) spos) (ydQ (ybG slots wi g ti te) (ybM i)):=by
 intro π s σ H Dd I h;rw[exec_Assign_Name_used _ _ _ _ hsw,arm_evalThenUse_ListComp];refine AI (B3 (AI (AI ?_)));refine CB (Q:=λ_ s'=>A2 (model X.prog X.w) X.A (pure ()) (λ_ s''=>A2 (model X.prog X.w) X.A (pure Gc) (SP X π Dd) X.xe s'') X.xe s') rfl hs (zm (O.cells I.ok)) O.kind O.names (thn (hi π s σ H _ I h) λv s1 h1=>thn h1 λitv s2 h2=>?_);let⟨it,fp,tn,J,H2,rfl,I2,T,st2,f2,q2⟩:=h2;refine zaR (Q:=λx H1=>ybM i x σ H1 Dd.nx) hc O hg ht he I2 T st2 f2 q2 λD C s' H' q' ⟨o,m,ho,hn,hd⟩ FC out=>?_;have I':Inv X π σ H' s':=out s'.heap (HA ..);have Ip:Inv X (π++[(C,o)]) σ H' s':=I'.pins_of λp hp=>(BE.mp hp).elim (λz=>I'.pin p (A9 _ z)) λz=>by
  have e:p=(C,o):=by simpa using z
  subst e;exact⟨ho,FC.1,FC.2.1,FC.2.2.1,hd⟩
 show A2 (model X.prog X.w) X.A (assign (.Name x px) X.env (.ref D)) _ _ s';refine F0 (zz Ip hN hix hx (show RelV (.ref D) (.ref D)from rfl) (λs6 I6=>?_) hf);have g6:=(I6.pin (C,o) (A9 _ (A9 _ AW))).1;let⟨o',es,ep,ho',r⟩:=hn;rw[ho]at ho'
 cases ho'
 refine⟨m,⟨o,es,ep,g6,r⟩,λh2 hb=>AO (AO ?_)⟩;exact⟨_,H',I6.unpinned.turned (t':=s6.toks) (λb u hb' e=>(hb.2 b hb').trans e) FC.1 FC.2.1 FC.2.2.2.1 FC.2.2.2.2.1 FC.2.2.2.2.2,q'⟩
end
section
variable {X:Cx}
end
section
variable {X:Cx}{π:List (AG×BR)}{σ:St}{H:Hp}{s:AH}
end
section
variable {X:Cx}{a:AM}{ta:TE}{K:AD}
end
end L2
namespace L2
end L2
namespace L2
open PySem PySem.Spec PyProof.Rows
def CX1(P:A3)(w:Aa):CXT:=λouter H s E e s'=>∃(a:AG) (cls a0:AF) (H':Hp) (B:An),e=.ref a/\s'.os=s.os/\Cu s'.gens/\EZ B outer a cls a0 s'.heap/\HOk P w H' s'.heap/\Un (frs outer) [] H H' s.heap s'.heap /\
 (∀b o,s.heap.get? b=AA o->H b=AB->b∉frs outer->B.get? b=AA o)/\(∀b u,H' b=AA u->∃o,B.get? b=AA o)/\(∀b o,s.heap.get? b=AA o->b∉frs outer->∃o',B.get? b=AA o')/\E cls AB H'
theorem yG.there{P:A3}{w:Aa}{H:Hp}{h:An}{a:AG}{o:HO}(x:yG P w H h a o):∃ob,h.get? a=AA ob:=by
 induction o with
 |lst xs=>let⟨_,_,_,_,e⟩:=x;exact⟨_,e⟩
 |tup xs=>let⟨_,_,_,e⟩:=x;exact⟨_,e⟩
 |dK kvs=>let⟨_,_,_,_,ob,_,_,e,_⟩:=x;exact⟨ob,e⟩
 |dT kvs=>let⟨_,_,_,_,ob,_,_,e,_⟩:=x;exact⟨ob,e⟩
 |set S n=>let⟨ob,_,_,_,e,_⟩:=x;exact⟨ob,e⟩
 |ins C dx fs=>let⟨_,_,_,e,_⟩:=x;exact⟨_,e⟩
 |own y=>exact x
 |xd fs=>let⟨_,⟨ob,_,_,e,_⟩,_⟩:=x;exact⟨ob,e⟩
 |rng lo hi=>let⟨_,_,_,e⟩:=x;exact⟨_,e⟩
 |frz ob u ih=>exact⟨ob,x.1⟩
 |tbl ps=>exact⟨_,x⟩
 |met f y=>exact⟨_,x⟩
 |ext φ=>exact x.2.1
theorem HOk.inB{P:A3}{w:Aa}{H:Hp}{h h' B:An}(ok:HOk P w H h)(hB:B.StaysIn h)(hB':B.StaysIn h')(tr:∀b u,H b=AA u->∃o,B.get? b=AA o):HOk P w H h':=λa o e=>
 (ok a o e).stay (λb u hb q=>by
  have hb':∃o,B.get? b=AA o:=by
   rcases hb with z|z
   .rw[z];exact tr a o e
   .exact tr b _ z
  let⟨o',q'⟩:=hb';have:=hB b o' q';rw[q]at this
  cases this
  exact hB' b u q') (λ_ q=>q) λ_ _ q=>q
section
variable {P:A3}{w:Aa}{K:AD}{mg:AN->Option AF}{base:An}{N:List AN}{qual:AN}{scope:Ao}{f:AG}{cd:AF}{A:A8}{outer:List Env}{s₀:AH}{H₀:Hp}{E:XK}
 {π:List (AG×BR)} {σ:St} {H:Hp} {s:AH}
def zeb{h':An}{e:AG}{cls:AF}{vs:List AF}(I:Inv (yaq (CX1 P w) P w K mg base N qual scope f cd A outer s₀ H₀ E) π σ H s)(hx:GS s.heap h' e cls vs)(hE:E cls AB H):
  (yaq (CX1 P w) P w K mg base N qual scope f cd A outer s₀ H₀ E).xe (.ref e) {s with heap:=h'}:=by
 have stk:s.heap.FunFrames base (envOfC qual scope s₀.heap.objs.size f cd::outer):=I.stack;have hst:∀b,b∈frs (envOfC qual scope s₀.heap.objs.size f cd::outer)->b=s₀.heap.objs.size \/ b∈frs outer:=λb hb=>by
  have hb':b∈s₀.heap.objs.size::frs outer:=hb;exact A6.mp hb'
 have inB:∀b o,s.heap.get? b=AA o->b∉frs (envOfC qual scope s₀.heap.objs.size f cd::outer)->(Ch s.heap (frs (envOfC qual scope s₀.heap.objs.size f cd::outer))).get? b=AA o:=λb o q n=>Ez _ q n;have hB:(Ch s.heap (frs (envOfC qual scope s₀.heap.objs.size f cd::outer))).StaysIn s.heap:=λb o q=>FP _ q;have bse:Un (frs outer) [] H₀ H s₀.heap s.heap:=I.base;have lt:∀b o,s₀.heap.get? b=AA o->b≠s₀.heap.objs.size:=λb o q=>Af (AX q);have tr:∀b u,H b=AA u->∃o,(Ch s.heap (frs (envOfC qual scope s₀.heap.objs.size f cd::outer))).get? b=AA o:=λb u q=>by
  let⟨o,ho⟩:=yG.there (I.hok b u q);exact⟨o,inB b o ho λhb=>by
   have:=I.stkFree b hb;rw[q]at this
   cases this⟩
 refine wpAny_leaves_madeW (base:=Ch s.heap (frs (envOfC qual scope s₀.heap.objs.size f cd::outer))) (h:=s.heap) I.ok.frames rfl hB (PySem.W.funFrames_hide stk λenv he a ha=>D4.mpr ⟨env,he,ha⟩) hx λh'' t fl tu tn up=>?_;have up':s.heap.UpToSlots h'':=(Ge hx.keeps).trans up;refine⟨e,cls,_,H,_,rfl,I.os,I.bare,fl,HOk.inB I.hok hB fl.1 tr,⟨λb o q n hb _=>?_,λb o q n hb _=>?_,bse.free,λb o q _=>?_,bse.tups,bse.frzs,bse.tbls⟩,λb o q n hb=>?_,tr,λb o q hb=>?_,hE⟩
 .refine fl.1 b o (inB b o (bse.keep b o q n hb (by simp)) λz=>?_);rcases hst b z with z|z
  .exact lt b o q z
  .exact hb z
 .let⟨sl,q1⟩:=bse.slot b o q n hb (by simp);let⟨_,o',ho',hd⟩:=BI stk (show b∈DC (λ(z:Env)=>z.frame) _ from AL _ hb);let⟨sl',q2⟩:=up' b _ q1 (by rw[ho']at q1;cases q1;exact hd);exact⟨sl',q2⟩
 .let⟨o',q1⟩:=bse.there b o q (by simp)
  by_cases hb:b∈frs (envOfC qual scope s₀.heap.objs.size f cd::outer)
  .let⟨_,o2,ho',hd⟩:=BI stk hb;let⟨sl',q2⟩:=up' b _ ho' hd;exact⟨_,q2⟩
  .exact⟨o',fl.1 b o' (inB b o' q1 hb)⟩
 .refine inB b o (bse.keep b o q n hb (by simp)) λz=>?_;rcases hst b z with z|z
  .exact lt b o q z
  .exact hb z
 .let⟨o',q1⟩:=bse.there b o q (by simp);refine⟨o',inB b o' q1 λz=>?_⟩;rcases hst b z with z|z
  .exact lt b o q z
  .exact hb z
def zli:ycZ (CX1 P w) (yaq (CX1 P w) P w K mg base N qual scope f cd A outer s₀ H₀ E) E:=by
 intro π σ H s e s' I h;let⟨a,cls,a0,H',B,rfl,os,bare,fl,hok,un,hB,tr,hT,hE⟩:=h;have bse:Un (frs outer) [] H₀ H s₀.heap s.heap:=I.base;have lt:∀b o,s₀.heap.get? b=AA o->b≠s₀.heap.objs.size:=λb o q=>Af (AX q);have hst:∀b,b∈frs (envOfC qual scope s₀.heap.objs.size f cd::outer)->b=s₀.heap.objs.size \/ b∈frs outer:=λb hb=>by
  have hb':b∈s₀.heap.objs.size::frs outer:=hb;exact A6.mp hb'
 have un':Un (frs (envOfC qual scope s₀.heap.objs.size f cd::outer)) [] H H' s.heap s'.heap:=un;have kB:∀b o,s₀.heap.get? b=AA o->H₀ b=AB->b∉frs outer->B.get? b=AA o:=λb o q n hb=>hB b o (bse.keep b o q n hb (by simp)) (bse.free b o q n (by simp)) λz=>by
  rcases hst b z with z|z
  .exact lt b o q z
  .exact hb z
 have kT:∀b o,s₀.heap.get? b=AA o->b∉frs outer->∃o',B.get? b=AA o':=λb o q hb=>by
  let⟨o',q1⟩:=bse.there b o q (by simp);refine hT b o' q1 λz=>?_;rcases hst b z with z|z
  .exact lt b o q z
  .exact hb z
 refine wpAny_leaves_onW I.ok.frames rfl fl λh'' fl' up=>?_;refine⟨a,cls,a0,H',B,rfl,os.trans I.os,bare,fl',HOk.inB hok fl.1 fl'.1 tr,⟨λb o q n hb _=>fl'.1 b o (kB b o q n hb),λb o q n hb _=>?_,λb o q n _=>?_,λb o q _=>?_,λb xs q=>un'.tups b xs (bse.tups b xs q),λb o u q=>un'.frzs b o u (bse.frzs b o u q),λb ps q=>?_⟩,kB,tr,kT,hE⟩
 .let⟨sl,q1⟩:=bse.slot b o q n hb (by simp);have n1:=bse.free b o q n (by simp);let⟨sl1,q2⟩:=un'.slot b _ q1 n1 (AL _ hb) (by simp);let⟨_,o',ho',hd⟩:=BI fl.2.2.1 (show b∈DC (λ(z:Env)=>z.frame) _ from AL _ hb);let⟨sl',q3⟩:=up b _ q2 (by rw[ho']at q2;cases q2;exact hd);exact⟨sl',q3⟩
 .let⟨o',q1⟩:=bse.there b o q (by simp);exact un'.free b o' q1 (bse.free b o q n (by simp)) (by simp)
 .let⟨o',q1⟩:=bse.there b o q (by simp);let⟨o2,q2⟩:=un'.there b o' q1 (by simp)
  by_cases hb:b∈frs outer
  .let⟨_,o3,ho3,hd⟩:=BI fl.2.2.1 (show b∈DC (λ(z:Env)=>z.frame) _ from AL _ hb);let⟨sl',q3⟩:=up b _ ho3 hd;exact⟨_,q3⟩
  .let⟨o4,q4⟩:=kT b o q hb;exact⟨o4,fl'.1 b o4 q4⟩
 .let⟨m1,e1⟩:=bse.tbls b ps q;let⟨m2,e2⟩:=un'.tbls b _ e1;exact⟨m1++m2,by rw[e2,D1]⟩
end
section
variable {X:Cx}{e:AM}{es:List AM}{te:TE}
abbrev TJ:=AN->St->Hp->VK->Prop
def PJ(X:Cx)(es:List AM)(t:TJ):Prop:=
 ∀(out:AN) (π:List (AG×BR)) (s:AH) (σ:St) (H:Hp) (Q:VK),Inv X π σ H s->t out σ H Q->A2 (model X.prog X.w) X.A (joinParts out (evalEach es X.env)) (EP X π σ Q) X.xe s
def ye8:TJ:=λout _ H Q=>out.length<=sizeLine/\Q (.str out) H
def yem(te:TE)(t:TJ):TJ:=λout σ H Q=>te σ H λv H1=>∃y,v=.str y/\(out++y).length<=sizeLine/\t (out++y) σ H1 Q
def zjK:PJ X [] ye8:=λout _ _ _ H _ I h=>joinParts_nil ⟨.str out,H,I.tok _,⟨_,rfl⟩,h.2⟩ h.1
def zg3{t:TJ}(he:PE X e te)(hr:PJ X es t)(hs:evalEach (e::es) X.env=eval e X.env::evalEach es X.env:=by rfl):PJ X (e::es) (yem te t):=by
 intro out π s σ H Q I h;rw[hs];refine joinParts_cons (thn (he π s σ H _ I h) λv s1 kq=>?_);let⟨x,H1,I1,r1,y,e1,hz,q⟩:=kq;subst e1;let⟨tk,rfl⟩:=r1;exact⟨hz,hr (out++y) π s1 σ H1 Q I1 q⟩
def yb8(t:TJ):TE:=λσ H Q=>t DF σ H Q
def zd8{v1 v2:AM}{rest:List AM}{pos:Bc}{t:TJ}(h:PJ X (v1::v2::rest) t):PE X (.JoinedStr (v1::v2::rest) pos) (yb8 t):=λπ s σ H Q I q=>JoinedStr_many (h DF π s σ H Q I q)
end
section
variable {X:Cx}{e:AM}{es:List AM}{t:TA}{E:XK}
end
structure ya6(K:AD)(C:AG):Prop where
 ga:Ai K (.ref C) "__getattribute__"=AA (AA (.builtin "BaseException.__getattribute__"))
 gh:Ai K (.ref C) "__getattr__"=AA AB
 cl:Ai K (.ref C) "__class__"=AA (AA (.builtin "object.__class__"))
 sb:G3 K (.ref C) (.type "BaseException")=AA AC
 mo:G4 K C (.type "object")=AA AC
 ct:∃cd,Dy K C=AA cd
section
variable {pg:A3}{wd:Aa}{A:A8}{E:AF->AH->Prop}{h:An}{g:Array GenState}{d:Drawn}{t:Nat}{os:OsState}{a C:AG}{o:BR}{K:AD}
def zcb{M:GM}{nv:AF}{Q:Unit->AH->Prop}(X:K.In h)(Z:ya6 K C)(hx:h.get? a=AA o)(hc:o.cls=.ref C)(hq:Q () ⟨h,g,d,t,os⟩):A2 M A (checkBuiltinCall "BaseException.__getattribute__" ⟨[.ref a,nv],[]⟩) Q E ⟨h,g,d,t,os⟩:=by
 have hk:builtinKind "BaseException.__getattribute__"=AA .slot:=by decide +kernel
 have hsp:splitId "BaseException.__getattribute__"=AA ("BaseException","__getattribute__"):=by decide +kernel
 have ha:=F.args_bexc_ga (.ref a) nv;have LS:=PySem.W.looks_subIn (M:=M) X Z.sb;erw[checkBuiltinCall,hk,hsp];refine AI ?_
 .unfold isInstance
  repeat (first|(with_reducible refine Dv hx ?_;rw[hc])|with_reducible refine LS.at ?_|wp_step)
  exact hq
def ze9{tp:AF}{R:D6->AH->Prop}(X:K.In h)(Z:ya6 K C)(hx:h.get? a=AA o)(hc:o.cls=.ref C)(hq:R (.ok (.ret (.ref C))) ⟨h,g,d,t,os⟩):
  codeAny (model pg wd) A (.call (.builtin "getset_descriptor.__get__") ⟨[.builtin "object.__class__",.ref a,tp],[]⟩) R ⟨h,g,d,t,os⟩:=by
 have L0:G5 (model pg wd) h (typeOf (.ref a)) (.ref C):=hc ▸ (EH hx).andThen .now;have L1:=PySem.W.looks_mroIn (M:=model pg wd) X Z.mo;refine Eo FU.plain PySem.W.KF.entry_gs (FU.check _ _ _ _ _ _ _ _ PySem.W.KF.type_class (PySem.W.KF.args_gs _ _ _) ?_)
 (unfold EY.«getset_descriptor.__get__» FV);rw[PySem.W.dga_obj]
 refine AI (AO ?_);(unfold Ey EI ES isInstance);erw[PySem.W.KF.owner_class];repeat lk
 refine⟨Code.quiet_builtin _ (by decide +kernel),codeAny_builtin PySem.W.KF.entry_class ?_⟩
 (unfold EY.«object.__class__» shownTypeOf);repeat lk
 exact hq
def zcm{tk:GX}{Q:Fin->AH->Prop}(X:K.In h)(Z:ya6 K C)(hx:h.get? a=AA o)(hc:o.cls=.ref C)(hq:Q (.done (.ret (.ref C))) ⟨h,g,d,t,os⟩):
  A2 (model pg wd) A (EY.«object.__getattribute__» ⟨[.ref a,.str "__class__" tk],[]⟩) Q E ⟨h,g,d,t,os⟩:=by
 have hT5:(⟨h,g,d,t,os⟩:AH).TypeIs (.builtin "object.__class__") "getset_descriptor":=Eb;have f5:=Eb;have f6:=F.slot_gs_get.lookup;have f7:=F.slot_gs_set.lookup;have L3:=DM (M:=model pg wd) X Z.cl
 repeat (any_goals (first|assumption|(with_reducible refine Dv hx ?_;rw[hc])|with_reducible refine L3.at ?_|wp_step))
 refine ze9 X Z hx hc ?_
 repeat (any_goals (first|assumption|wp_step))
def zdo{tk:GX}{R:D6->AH->Prop}{Bn:String}(ga:Slot Bn "__getattribute__" "BaseException.__getattribute__")(X:K.In h)(Z:ya6 K C)(hx:h.get? a=AA o)(hc:o.cls=.ref C)(hq:R (.ok (.ret (.ref C))) ⟨h,g,d,t,os⟩):
  codeAny (model pg wd) A (.call (.builtin "BaseException.__getattribute__") ⟨[.ref a,.str "__class__" tk],[]⟩) R ⟨h,g,d,t,os⟩:=
 Eo ga.plain F.entry_bexc_ga (zcb X Z hx hc (zcm X Z hx hc hq))
def zfr{tk:GX}{Q:AF->AH->Prop}{Bn:String}(ga:Slot Bn "__getattribute__" "BaseException.__getattribute__")(X:K.In h)(Z:ya6 K C)(hx:h.get? a=AA o)(hc:o.cls=.ref C)(hq:Q (.ref C) ⟨h,g,d,t,os⟩):
  A2 (model pg wd) A (getAttrBy (.ref a) (.str "__class__" tk) AE) Q E ⟨h,g,d,t,os⟩:=by
 have f3:=ga.bind (.ref a);have hx2:(Dz "BaseException.__getattribute__" == Dz "object.__getattribute__")=false:=by decide +kernel
 have hx1:(onTheHeap (Au C)&&Dz "BaseException.__getattribute__" == Dz "object.__getattribute__")=false:=by rw[hx2];rfl
 have L1:=DM (M:=model pg wd) X Z.ga;have L2:=DM (M:=model pg wd) X Z.gh
 repeat (any_goals (first|assumption|(with_reducible refine Dv hx ?_;rw[hc])|with_reducible refine L1.at ?_|with_reducible refine L2.at ?_|wp_step))
 refine zdo ga X Z hx hc ?_
 repeat (any_goals (first|assumption|wp_step))
def zcd{Q:Option AF->AH->Prop}{Bn:String}(ga:Slot Bn "__getattribute__" "BaseException.__getattribute__")(X:K.In h)(Z:ya6 K C)(hx:h.get? a=AA o)(hc:o.cls=.ref C)(hq:Q (AA (.ref C)) ⟨h,g,d,t+1,os⟩):
  A2 (model pg wd) A (getAttr? (.ref a) "__class__") Q E ⟨h,g,d,t,os⟩:=by
 unfold getAttr? getAttrBy?
 repeat (any_goals (first|assumption|with_reducible apply zfr ga X Z hx hc|wp_step))
end
def ybm(a C:AG):An->Prop:=λh=>∃o,h.get? a=AA o/\o.cls=.ref C
theorem ybm.keep{a C:AG}{h1 h2:An}(x:ybm a C h1)(k:∀o,h1.get? a=AA o->h2.get? a=AA o):ybm a C h2:=by
 let⟨o,h,c⟩:=x;exact⟨o,k o h,c⟩
def zcw{K:AD}{a C:AG}(Z:ya6 K C){Bn:String}(ga:Slot Bn "__getattribute__" "BaseException.__getattribute__"):PySem.W.KitX K (.ref a) (.ref C) (ybm a C) where
 ty:=λM h X p=>by
  let⟨o,hx,hc⟩:=p;exact hc ▸ (EH hx).andThen .now
 it:=λM h X p=>by
  let⟨cd,hcd⟩:=Z.ct;unfold Dy at hcd;split at hcd
  .rename_i c' d' cd' sl' ho;intro A' Q' E' s' k q;unfold isType loadHead;exact AI (wpAny_loadPart (k _ _ (X _ _ ho)) (AO q))
  .cases hcd
 ne:=λh tp dd its n sl X htp=>by
  let⟨cd,hcd⟩:=Z.ct;refine Bool.eq_false_iff.mpr λq=>?_;have e:C=tp:=G6 (beq_iff_eq.mp q);subst e;unfold Dy at hcd;split at hcd
  .rename_i c' d' cd' sl' ho;have z:=(X _ _ ho).symm.trans htp
   cases z
  .cases hcd
 ca:=λ{pg wd A E Q s} X p k=>by
  let⟨o,hx,hc⟩:=p;let⟨h,g,d,t,os⟩:=s;exact zcd ga X Z hx hc k
section
variable {X:Cx}
end
section
variable {X:Cx}{π:List (AG×BR)}{σ:St}{H:Hp}{s:AH}
theorem Inv.track{a:AG}{o:HO}(I:Inv X π σ H s)(hn:H a=AB)(h0:∀ob,X.s₀.heap.get? a≠AA ob)(hL:a≠X.env.locals)(hc:∀x c,X.env.cells.lookup x=AA c->c≠a)(hp:∀p∈X.pn++π,p.1≠a)
  (new:yG X.prog X.w (upd H a o) s.heap a o):Inv X π σ (upd H a o) s:=by
 refine⟨I.ok,I.os,I.bare,⟨I.base.keep,I.base.slot,λb u e n hx=>?_,I.base.there,λb xs e=>?_,λb u v e=>?_,λb ps e=>?_⟩,I.loc,I.cell,?_,λx c e=>?_,λp hq=>?_,λb u e=>?_,I.len⟩
 .rw[za (λz:b=a=>h0 u (z ▸ e))];exact I.base.free b u e n hx
 .have q:=I.base.tups b xs e;rw[za (zc q hn)];exact q
 .have q:=I.base.frzs b u v e;rw[za (zc q hn)];exact q
 .let⟨m,q⟩:=I.base.tbls b ps e;refine⟨m,?_⟩;rw[za (zc q hn)];exact q
 .rw[za (Bu hL)];exact I.free
 .rw[za (hc x c e)];exact I.freeC x c e
 .let⟨q1,q2,q3⟩:=I.pin p hq;refine⟨q1,?_,q3⟩;rw[za (hp p hq)];exact q2
 .by_cases hb:b=a
  .subst hb;rw[zd]at e
   cases e
   exact new
  .rw[za hb]at e;exact(I.hok b u e).stay (λ_ _ _ q=>q) (λc q=>by rw[za (zc q hn)];exact q) λc xs q=>by rw[za (zc q hn)];exact q
theorem Inv.back{s1:AH}{h:An}{H':Hp}{B:An}{a:AG}{cls a0:AF}{t':Nat}(I:Inv X π σ H s)(os:s1.os=s.os)(bare:Cu s1.gens)(fl:EZ B X.stack a cls a0 s1.heap)(hok:HOk X.prog X.w H' s1.heap)(un:Un (frs X.stack) [] H H' s.heap s1.heap)
  (hB:∀b o,s.heap.get? b=AA o->H b=AB->b∉frs X.stack->B.get? b=AA o) (tr:∀b u,H' b=AA u->∃o,B.get? b=AA o) (hT:∀b o,s.heap.get? b=AA o->b∉frs X.stack->∃o',B.get? b=AA o') (st:B.StaysIn h) (up:s1.heap.UpToSlots h):
  Inv X π σ H' {s1 with heap:=h,toks:=t'}:=by
 refine I.call' (ch:=[]) (s':={s1 with heap:=h,toks:=t'}) os ⟨λb o q n hb _=>st b o (hB b o q n hb),λb o q n hb _=>?_,un.free,λb o q _=>?_,un.tups,un.frzs,un.tbls⟩ (HOk.inB hok fl.1 st tr) bare (λb z=>absurd z (by simp))
 .let⟨sl,q1⟩:=un.slot b o q n hb (by simp);let⟨_,o',ho',hd⟩:=BI fl.2.2.1 hb;let⟨sl',q2⟩:=up b _ q1 (by rw[ho']at q1;cases q1;exact hd);exact⟨sl',q2⟩
 .by_cases hb:b∈frs X.stack
  .let⟨_,o',ho',hd⟩:=BI fl.2.2.1 hb;let⟨sl',q2⟩:=up b _ ho' hd;exact⟨_,q2⟩
  .let⟨o',q1⟩:=hT b o q hb;exact⟨o',st b o' q1⟩
end
abbrev cxP(X:Cx)(pn:List (AG×BR)):Cx:={X with pn:=pn}
abbrev cxS(X:Cx)(pn:List (AG×BR))(a:AG):Cx:={X with A:=X.A.mark (AA (.ref a)),calm:=AE,pn:=pn,xe:=No}
section
variable {X:Cx}{π:List (AG×BR)}{σ:St}{H:Hp}{s:AH}
theorem Cx.Ok.pn(ok:X.Ok)(pn:List (AG×BR)):(cxP X pn).Ok:=⟨ok.mod,ok.kind,ok.glob,ok.blt,ok.above,ok.inj,ok.has,ok.cab,ok.hd,ok.frames,ok.stk,ok.exf,ok.bs,ok.bsz,ok.noex,ok.exfs,ok.funs,ok.frf⟩
theorem Cx.Ok.suite(ok:X.Ok)(pn:List (AG×BR))(a:AG):(cxS X pn a).Ok:=⟨ok.mod,ok.kind,ok.glob,ok.blt,ok.above,ok.inj,ok.has,ok.cab,(λz=>nomatch z),ok.frames,ok.stk,ok.exf,ok.bs,ok.bsz,ok.noex,ok.exfs,ok.funs,ok.frf⟩
theorem Inv.toP(I:Inv X π σ H s):Inv (cxP X (X.pn++π)) [] σ H s:=⟨I.ok.pn _,I.os,I.bare,I.base,I.loc,I.cell,I.free,I.freeC,λp hp=>I.pin p (by simpa using hp),I.hok,I.len⟩
theorem Inv.ofP(ok:X.Ok){pl:List (AG×BR)}(I:Inv (cxP X (X.pn++π)) pl σ H s):Inv X π σ H s:=⟨ok,I.os,I.bare,I.base,I.loc,I.cell,I.free,I.freeC,λp hp=>I.pin p (C2 _ hp),I.hok,I.len⟩
theorem Inv.toS(I:Inv (cxP X (X.pn++π)) [] σ H s)(a:AG):Inv (cxS X (X.pn++π) a) [] σ H s:=⟨Cx.Ok.suite (X:=X) ⟨I.ok.mod,I.ok.kind,I.ok.glob,I.ok.blt,I.ok.above,I.ok.inj,I.ok.has,I.ok.cab,I.ok.hd,I.ok.frames,I.ok.stk,I.ok.exf,I.ok.bs,I.ok.bsz,I.ok.noex,I.ok.exfs,I.ok.funs,I.ok.frf⟩ _ a,I.os,I.bare,I.base,I.loc,I.cell,I.free,I.freeC,I.pin,I.hok,I.len⟩
theorem Inv.ofS(ok:X.Ok){a:AG}{pl:List (AG×BR)}(I:Inv (cxS X (X.pn++π) a) pl σ H s):Inv X π σ H s:=⟨ok,I.os,I.bare,I.base,I.loc,I.cell,I.free,I.freeC,λp hp=>I.pin p (C2 _ hp),I.hok,I.len⟩
end
section
variable {X:Cx}{body suite:List Bd}{b₀:Bd}{x n:AN}{np hpos pos:Bc}{tb:XK->TS}{ts:TS}{W:AG}{i:Nat}
end
structure yQ(k:Nat)(A:A8):Prop where
 dp:A.depth+3*k+5<recursionLimit
 un:A.units+16*k+200<cLine
theorem yas.h{k:Nat}{A:A8}(r:yas k A):yQ k A:=⟨r.dp,r.un⟩
theorem yQ.mark{k:Nat}{A:A8}{e:Option AF}(r:yQ k A):yQ k (A.mark e):=⟨r.dp,r.un⟩
theorem yQ.deeper{k:Nat}{A:A8}(r:yQ (k+1) A)(env:Env):yQ k (A.deeper env):=⟨by have:=r.dp;show A.depth+1+3*k+5<_;lia,by have:=r.un;show A.units+3+16*k+200<_;lia⟩
theorem yQ.mono{j k:Nat}{A:A8}(r:yQ k A)(h:j<=k):yQ j A:=⟨by have:=r.dp;lia,by have:=r.un;lia⟩
structure ya3(P:A3)(w:Aa)(K:AD)(mg:AN->Option AF)(base:An)(k:Nat)(f:AG)(fd:Am)(ps:List AN)(sp:Sp):Prop where
 len:∀vs H Q E,sp vs H Q E->vs.length=ps.length
 run:∀(A:A8) (outer:List Env) (s:AH) (H:Hp) (args:Args) (us:List AF) (vs:List V) (Q:VK),yQ k A->ycv P w K mg base A outer s H->Du s fd args (ps.zip us)->Vals vs us->sp vs H Q E0 ->
  codeAny (model P w) A (.call (.ref f) args) (CR CX0 outer P w H s Q E0) s
abbrev ybf(P:A3)(w:Aa)(K:AD)(mg:AN->Option AF)(base:An)(N:List AN)(qual:AN)(scope:Ao)(f:AG)(cd:AF)(A:A8)(outer:List Env)(s:AH)(H:Hp):Cx:=
 {yaq CX0 P w K mg base N qual scope f cd A outer s H E0 with calm:=AE,xe:=No}
theorem Inv.calmless{X:Cx}{π:List (AG×BR)}{σ:St}{H:Hp}{s:AH}(I:Inv X π σ H s)(A:A8)(E:AF->AH->Prop)(hf:A.frames=X.A.frames):Inv {X with A:=A,calm:=AE,xe:=E} π σ H s:=
 ⟨⟨I.ok.mod,I.ok.kind,I.ok.glob,I.ok.blt,I.ok.above,I.ok.inj,I.ok.has,I.ok.cab,(λz=>nomatch z),hf.trans I.ok.frames,I.ok.stk,I.ok.exf,I.ok.bs,I.ok.bsz,I.ok.noex,I.ok.exfs,I.ok.funs,I.ok.frf⟩,I.os,I.bare,I.base,I.loc,I.cell,I.free,I.freeC,I.pin,I.hok,I.len⟩
section
variable {P:A3}{w:Aa}{K:AD}{mg:AN->Option AF}{base:An}
theorem Fun.okH{x qual:AN}{st:Bd}{f:AG}{fd:Am}{N ps:List AN}{k:Nat}{sp:Sp}(F:Fun K x qual st f fd)(S:yai N ps (yg st))(len:∀vs H Q E,sp vs H Q E->vs.length=ps.length)
  (hbody:∀(cdv:AF) (A:A8) (outer:List Env) (s:AH) (H:Hp) (vs:List V) (Q:VK),yQ k (A.deeper (envOfC qual (yg st) s.heap.objs.size f cdv))->sp vs H Q E0 ->
   ∃t,PSs (ybf P w K mg base N qual (yg st) f cdv A outer s H) (yF st) t/\t {nx:=λ_ H'=>Q .non H',rt:=Q} (start N vs) H):ya3 P w K mg base (k+1) f fd ps sp:=by
 let⟨oc,od,kV,doc,pm,an,cdv,ct,osl,rfl,lk,hcd⟩:=F.ex;refine⟨len,λA outer s H args us vs Q hr e0 hb r hsp=>?_⟩;have hl:=len _ _ _ _ hsp;have KX:K.In s.heap:=e0.mod.kin.keeps λb o e=>(e0.bs b o e).1;have lim:s.heap.NoLimit:=e0.mod.nolimit.keeps λb o e=>(e0.bs b o e).1;have hkind:∀y∈ps.zip us,(yg st).names.lookup y.1=AA .local \/ ((yg st).names.lookup y.1=AA .cell/\((cellsFrom (s.heap.objs.size+1) (yg st).names []).lookup y.1).isSome=AC):=λ⟨n,v⟩ hy=>by
  rcases S.par n (DP hy).1 with q|q
  .exact .inl q
  .exact .inr ⟨q,Cw _ _ _ (.inl q)⟩
 refine E9 (by have:=hr.dp;lia) (KX _ _ lk) rfl S.co S.gen rfl (FQ KX hcd) (hb _ _ _ _ ?_);refine D7 S.kind hkind λenv he s1 x=>?_;subst he;refine⟨lim.keeps x.toInCall.keep,codeAny_func ?_⟩;let⟨t,ht,hq⟩:=hbody cdv A outer s H vs Q (hr.deeper _) hsp;have e0':ycv P w K mg base {A with handled:=AB} outer s H:=⟨e0.frames,e0.mod,e0.bs,e0.bsz,e0.funs,e0.frf,e0.hok,e0.bare⟩;have I0:Inv (yaq CX0 P w K mg base N qual (yg st) f cdv {A with handled:=AB} outer s H E0) [] (start N vs) H s1:=zbs S rfl e0' hl r x;have I:Inv (ybf P w K mg base N qual (yg st) f cdv A outer s H) [] (start N vs) H s1:=I0.calmless (A.deeper (envOfC qual (yg st) s.heap.objs.size f cdv)) No rfl;refine Az (ht [] s1 (start N vs) H _ I hq) (λfl s' hs=>?_) λe s' z=>z.elim;have fin:∀{σ':St} {H':Hp} {v:V} {u:AF},Inv (ybf P w K mg base N qual (yg st) f cdv A outer s H) [] σ' H' s'->RelV v u->Q v H'->CE outer P w H s Q u s':=
  λ{σ' H' v u} J rv q=>⟨v,H',J.os,J.bare,J.base,J.hok,rv,q⟩
 cases fl with
 |ret u=>
  let⟨v,σ',H',J,rv,q⟩:=hs;exact fin J rv q
 |next=>
  let⟨σ',H',J,q⟩:=hs;exact fin (v:=V.non) (u:=By) J rfl q
 |brk=>
  let⟨_,_,_,q⟩:=hs;exact BM q
 |cont=>
  let⟨_,_,_,q⟩:=hs;exact BM q
end
section
variable {X:Cx}{k:Nat}{f:AG}{fd:Am}{ps:List AN}{sp:Sp}{x:AN}{p pos:Bc}{e:AM}{es:List AM}{t:TA}
def ycQ(sp:Sp)(t:TA):TE:=λσ H Q=>t σ H λvs H1=>sp vs H1 Q E0
def zf6(F:ya3 X.prog X.w X.K X.mg X.base k f fd ps sp)(hr:yQ k X.A)(hg:Gl X x)(hm:X.mg x=AA (.ref f))(hk:Ab X.K (.ref f)=AC)(hb:Binds X.K fd ps [])(ha:PA X (e::es) t)
  (hdb:(x==("__debug__":AN))=false:=by decide) (he:starEach (e::es) X.env=(AE,eval e X.env)::starEach es X.env:=by rfl) (hpl:(backTo pos (starEach es X.env)).any (·.1)=false:=by rfl):
  PE X (.Call (.Name x p) (e::es) [] pos) (ycQ sp t):=by
 intro π s σ H Q I h;refine BQ (z5 I hg hm ?_ hdb);refine Da (h₀:=X.base) I.ok.mod.kin hk (thn (ha pos π s σ H _ I h) λus s1 kq=>?_) he hpl;let⟨vs,H1,I1,r,q⟩:=kq;refine ⟨I1.kIn,?_⟩;have hl:us.length=ps.length:=by rw[<-r.length];exact F.len _ _ _ _ q
 have hb1:Du s1 fd ⟨us,[]⟩ (ps.zip us):=by
  have:=hb s1 us I1.kIn (by simpa using hl);simpa using this
 refine GT (DU (F.run X.A X.stack s1 H1 ⟨us,[]⟩ us vs Q hr I1.env0 hb1 r q) λr' s' hq=>?_)
 cases r' with
 |error z=>exact hq.elim
 |ok fl=>
  cases fl with
  |ret u=>exact I1.after hq
  |next=>exact BM hq
  |brk=>exact BM hq
  |cont=>exact BM hq
end
section
variable {P:A3}{w:Aa}{K:AD}{mg:AN->Option AF}{base:An}
theorem own1{N:List AN}{qual:AN}{scope:Ao}{f:AG}{cd:AF}{A:A8}{outer:List Env}{s:AH}{H:Hp}{E:XK}{CX:CXT}:
  DY (model (yaq CX P w K mg base N qual scope f cd A outer s H E).prog (yaq CX P w K mg base N qual scope f cd A outer s H E).w) (yaq CX P w K mg base N qual scope f cd A outer s H E).A (yaq CX P w K mg base N qual scope f cd A outer s H E).env (yaq CX P w K mg base N qual scope f cd A outer s H E).xe:=
 PassesOwn.leaving
def zlj{x:AN}{C:AG}{ts:List AF}{nid:String}{h:An}(X:K.In h)(b:mg x=AA (.ref C))(q:DL K C ts nid=AC):OwnCls x C ts nid mg h:=by
 constructor
 .exact b
 .revert q
  unfold DL
  cases hl:K.lookup C with
  |none=>intro q;cases q
  |some o=>
   intro q;split at q
   .rename_i dd cd sl ho;split at q
    .rename_i C' bm k0 k1 k2 k3 n k5 hm hs;erw[AJ,beq_iff_eq,BH]at q;rcases q with⟨⟨⟨⟨⟨r1,r2⟩,r3⟩,r4⟩,r5⟩,r6⟩;subst r1 r2;rcases cd with⟨nm,bs,mro,ns,qn,hd,sn,sub,ab,col,del⟩;dsimp only at hm r3 r5 r6;subst hm r3;rcases sl with⟨l⟩;simp only at hs;subst hs
     cases ho
     exact⟨bm,ns,nm,qn,bs,hd,sn,sub,ab,col,_,k0,k1,k2,k3,k5,_,X _ _ hl,.of_isNs (PySem.W.isNs_of_in X r5),PySem.W.nsMap_none_of_in X r5 r6,PySem.W.tail_of_in X r4⟩
    .cases q
   .cases q
end
section
variable {X:Cx}
end
section
variable {X:Cx}
end
section
variable {κ:Type}[DecidableEq κ]
def yaC(kvs:List (κ×V))(k:κ):Option V:=(kvs.find? λkv=>decide (kv.1=k)).map (·.2)
def putK(kvs:List (κ×V))(k:κ)(v:V):List (κ×V):=
 if (kvs.any λkv=>decide (kv.1=k))=AC then kvs.map (λkv=>if kv.1=k then(kv.1,v)else kv)else kvs++[(k,v)]
def zW{p:κ×V}{r:List (κ×V)}{k:κ}(e:p.1=k):yaC (p::r) k=AA p.2:=by simp[yaC,Be,e]
def zV{p:κ×V}{r:List (κ×V)}{k:κ}(e:¬p.1=k):yaC (p::r) k=yaC r k:=by simp[yaC,Be,e]
def zcF(k:κ):∀kvs:List (κ×V),(kvs.any λkv=>decide (kv.1=k))=(yaC kvs k).isSome
 |[]=>rfl
 |p::r=>by
  rw[B5]
  by_cases e:p.1=k
  .simp only[zW e,decide_eq_true e,Gg,FW]
  .rw[zV e,decide_eq_false e,G7];exact zcF k r
def zb6(kvs:List (κ×V))(k:κ)(v:V):(putK kvs k v).length<=kvs.length+1:=by
 unfold putK;split
 .rw[Ak];lia
 .rw[Ap,Ag,Ck];lia
theorem ybq.isSome_eq{o:Option V}{u:Option AF}(r:ybq o u):o.isSome=u.isSome:=by
 cases o with
 |none=>cases u with
  |none=>rfl
  |some _=>exact(show False from r).elim
 |some _=>cases u with
  |none=>exact(show False from r).elim
  |some _=>rfl
theorem ybq.getD{o:Option V}{u:Option AF}{d:V}{d':AF}(r:ybq o u)(rd:RelV d d'):RelV (o.getD d) (u.getD d'):=by
 cases o with
 |none=>cases u with
  |none=>exact rd
  |some _=>exact(show False from r).elim
 |some _=>cases u with
  |none=>exact(show False from r).elim
  |some _=>exact r
theorem KV.val{kvs:List (κ×V)}{vs:List (κ×AF)}(r:KV kvs vs)(k:κ):ybq (yaC kvs k) (valueAt vs k):=by
 unfold KV at r
 induction r with
 |nil=>exact GU
 |@cons p q ps qs h t ih=>
  let⟨h1,h2⟩:=h
  by_cases e:p.1=k
  .have e':q.1=k:=h1.symm.trans e;have b:valueAt (q::qs) k=AA q.2:=by simp[valueAt,Be,e']
   rw[zW e,b];exact h2
  .have e':¬q.1=k:=λz=>e (h1.trans z);have b:valueAt (q::qs) k=valueAt qs k:=by simp[valueAt,Be,e']
   rw[zV e,b];exact ih
end
def zjr{P:A3}{w:Aa}{k:Key}{u:AF}(r:RelV (kV k) u):(yaa P w).is k u=true:=by
 cases k with
 |inl i=>let⟨t,e⟩:=(show ∃t,u=G9 i t from r);subst e;exact zbY P w i t
 |inr x=>let⟨t,e⟩:=(show ∃t,u=Ga x t from r);subst e;exact zb9 P w x t
abbrev KT(H:Hp):List (List NK×V)->List (List NK×AG×AF)->Prop:=GL λp q=>p.1=q.1/\KyR H p.1 q.2.1/\RelV p.2 q.2.2
theorem KT.val{H:Hp}{kvs:List (List NK×V)}{xs:List (List NK×AG×AF)}(r:KT H kvs xs)(k:List NK):ybq (yaC kvs k) ((atKey xs k).map (·.2)):=by
 induction r with
 |nil=>exact GU
 |@cons p q ps qs h t ih=>
  let⟨h1,_,h2⟩:=h
  by_cases e:p.1=k
  .have e':q.1=k:=h1.symm.trans e;have b:atKey (q::qs) k=AA q.2:=by simp[atKey,Be,e']
   rw[zW e,b];exact h2
  .have e':¬q.1=k:=λz=>e (h1.trans z);have b:atKey (q::qs) k=atKey qs k:=by simp[atKey,Be,e']
   rw[zV e,b];exact ih
theorem KT.repl{H:Hp}{kvs:List (List NK×V)}{xs:List (List NK×AG×AF)}(r:KT H kvs xs)(k:List NK){y:V}{u:AF}(ry:RelV y u):
  KT H (kvs.map λkv=>if kv.1=k then(kv.1,y)else kv) (xs.map (putAt k u)):=by
 induction r with
 |nil=>exact .nil
 |@cons p q ps qs h t ih=>
  rw[AZ,AZ];refine .cons ?_ ih;let⟨h1,h2,h3⟩:=h;unfold putAt
  by_cases e:p.1=k
  .rw[if_pos e,if_pos (h1.symm.trans e)];exact⟨h1,h2,ry⟩
  .rw[if_neg e,if_neg (λz=>e (h1.trans z))];exact⟨h1,h2,h3⟩
theorem KT.put{H:Hp}{kvs:List (List NK×V)}{xs:List (List NK×AG×AF)}(r:KT H kvs xs)(k:List NK){b:AG}{y:V}{u:AF}(hb:KyR H k b)(ry:RelV y u):
  KT H (putK kvs k y) (storedH xs k b u):=by
 have e:(kvs.any λkv=>decide (kv.1=k))=(atKey xs k).isSome:=by
  rw[zcF,(r.val k).isSome_eq,Option.isSome_map]
 unfold putK storedH;rw[e]
 by_cases q:(atKey xs k).isSome=AC
 .rw[if_pos q,if_pos q];exact r.repl k ry
 .rw[if_neg q,if_neg q];exact Paired.snoc r ⟨rfl,hb,ry⟩
theorem KT.keeps{H H':Hp}{kvs:List (List NK×V)}{xs:List (List NK×AG×AF)}(r:KT H kvs xs)(ht:∀b ys,H b=AA (.tup ys)->H' b=AA (.tup ys)):KT H' kvs xs:=
 Paired.mapP r λ_ _ z=>⟨z.1,z.2.1.stay ht,z.2.2⟩
section
variable {P:A3}{w:Aa}{H:Hp}{h:An}{a:AG}
def zjw{u:HO}(ok:HOk P w H h)(e:Rd H a u):yG P w H h a u:=e.ok ok
def zio{kvs:List (Key×V)}(ok:HOk P w H h)(e:Rd H a (.dK kvs)):kvs.length<=sizeLine/\(a==sysModules)=AE/\∃vs,KV kvs vs/\h.DictOf (yaa P w) a vs:=
 show yG P w H h a (.dK kvs)from zjw ok e
mutual
theorem ziB(ok:HOk P w H h):∀(k:NK) (v:V) (u:AF),NKr H k v->RelV v u->NI h k u
 |.a k,v,u,x,r=>by cases (show v=kV k from x);exact zjr (P:=P) (w:=w) r
 |.t l,v,u,x,r=>by
  let⟨b,xs,rfl,g,hs⟩:=x
  cases (show u=Au b from r)
  let⟨_,its,rv,h1⟩:=(show yG P w H h b (.tup xs)from ok b _ g);exact⟨b,its,rfl,h1,zgR ok l xs its hs rv⟩
theorem zgR(ok:HOk P w H h):∀(l:List NK) (xs:List V) (us:List AF),NKs H l xs->Vals xs us->NIs h l us
 |[],xs,us,x,r=>by cases (show xs=[]from x);cases r;rfl
 |k::l,xs,us,x,r=>by
  let⟨y,ys,rfl,h1,h2⟩:=x
  cases r with
  |cons r t=>exact⟨_,_,rfl,ziB ok k y _ h1 r,zgR ok l ys _ h2 t⟩
end
def zeQ{ks:List NK}(ok:HOk P w H h)(e:KyR H ks a):(yaO P w).is h ks a:=⟨ziB ok _ _ _ e.1 rfl,e.2⟩
def zg6{kvs:List (List NK×V)}(ok:HOk P w H h)(e:Rd H a (.dT kvs)):kvs.length<=sizeLine/\(a==sysModules)=AE /\
  ∃xs,KT H kvs xs/\h.DictOfH (yaO P w) a xs:=by
 let⟨z,y,xs,r,o,es,ep,h1,h2,h3,h4,h5⟩:=(show yG P w H h a (.dT kvs)from zjw ok e);refine⟨z,y,xs,r,o,es,ep,h1,h2,h3,h4,λx hx=>?_,h5⟩;have all:∀{l:List (List NK×V)} {m:List (List NK×AG×AF)},KT H l m->∀x∈m,(yaO P w).is h x.1 x.2.1:=by
  intro l m q
  induction q with
  |nil=>intro x hx;exact nomatch hx
  |@cons p q ps qs hq t ih=>
   intro x hx;rcases A6.mp hx with e|hx
   .subst e;exact zeQ ok (by rw[<-hq.1];exact hq.2.1)
   .exact ih x hx
 exact all r x hx
def zkK{kvs:List (List NK×V)}(ok:HOk P w H h)(e:H a=AA (.dT kvs)):kvs.length<=sizeLine/\(a==sysModules)=AE /\
  ∃xs,KT H kvs xs/\h.DictOfH (yaO P w) a xs:=zg6 ok (.inl e)
end
def ydv(H:Hp)(a:AG)(y:V)(r:Option V):Prop:=
 (∃kvs k,Rd H a (.dK kvs)/\y=kV k/\r=yaC kvs k) \/ ∃kvs k b,Rd H a (.dT kvs)/\y=.ref b/\KyR H k b/\r=yaC kvs k
section
variable {X:Cx}{π:List (AG×BR)}{σ:St}{H:Hp}{s:AH}{a:AG}{y v:V}{u r:AF}{o:Option V}{A:A8}{E:AF->AH->Prop}
theorem Inv.big(I:Inv X π σ H s):sysModules<s.heap.objs.size:=by
 have h:mainGlobals<s.heap.objs.size:=(I.mod.glob.keeps I.bk).lt;exact Fc ⋯ h
def zd6{Q:AF->AH->Prop}(hu:A.units+16<cLine)(I:Inv X π σ H s)(g:ydv H a y (AA v))(ry:RelV y u)(h:∀w' s',Inv X π σ H s'->RelV v w'->Q w' s'):
  A2 (model X.prog X.w) A (getItem (.ref a) u) Q E s:=by
 rcases g with⟨kvs,k,e,ey,l⟩|⟨kvs,k,b,e,ey,eb,l⟩
 .subst ey;let⟨z,hd,vs,rel,dd⟩:=zio I.hok e;let⟨w',hw,rw'⟩:=ybq.some_of (v:=v) (o:=valueAt vs k) (by rw[l];exact rel.val k);exact Ft (zjr ry) dd.mapOf hw (h w' _ (I.tok _) rw')
 .subst ey
  cases (show u=Au b from ry)
  let⟨z,hd,xs,rel,dd⟩:=zg6 I.hok e;let⟨w',hw,rw'⟩:=ybq.some_of (v:=v) (o:=(atKey xs k).map (·.2)) (by rw[l];exact rel.val k);let⟨p,hp,hp2⟩:=Option.map_eq_some_iff.mp hw;refine wpAny_getItem_heap ((show A.in1.units+8<cLine by erw[Fj];lia)) (zeQ I.hok eb) dd hp ?_;rw[hp2];exact h w' _ (I.tok _) rw'
def zgU{h':An}{t':Nat}{ob:HO}(I:Inv X π σ H s)(mu:Mut (H a))(hs:Bf a s.heap h')(he:∃q,h'.get? a=AA q)(new:yG X.prog X.w (upd H a ob) h' a ob):
  Inv X π σ (upd H a ob) {s with heap:=h',toks:=t'}:=
 I.write (x:=a) (e:=a) mu (.inl rfl) (λb q hb z=>(hs.2 b hb).trans z) he new
end
section
variable {X:Cx}{π:List (AG×BR)}{σ:St}{H:Hp}{s:AH}{a:AG}{kvs:List (Key×V)}{k:Key}{u:AF}{A:A8}{E:AF->AH->Prop}
end
def ycz(i:AM):Prop:=∀ov iv,subscripted i AE ov iv=operate [ov,iv] (getItem ov iv)
def zeO{prog:A3}{w:Aa}{A:A8}{E:AF->AH->Prop}{s:AH}{env:Env}{value slice:AM}{pos:Bc}{T id:String}{Q:AF->AH->Prop}
  (hl:typeLookup (.type T) "__getitem__"=pure (AA (.builtin id))) (hs:ycz slice)
  (h:A2 (model prog w) A (eval value env) (λo s₁=>A2 (model prog w) A (eval slice env) (λi s₂=>s₂.TypeIs o T/\A2 (model prog w) A (getItem o i) Q E s₂) E s₁) E s):
  A2 (model prog w) A (eval (.Subscript value slice pos) env) Q E s:=by
 refine GO (Az h (λo s₁ h₁=>Az h₁ (λi s₂ h₂=>?_) λ_ _ x=>x) λ_ _ x=>x);let⟨hT,h₂⟩:=h₂;unfold subscriptTail;refine AI ?_;rw[getitemInPython_of_ne hT.not_modules];refine AI (GB hT hl ?_);have fin:A2 (model prog w) A (subscripted slice AE o i) (λr s₃=>A2 (model prog w) A (letTemporaryGo value o r >>= λ_=>pure r) Q E s₃) E s₂:=by
  rw[hs o i];exact wpAny_operating (Az h₂ (λr s₃ h₃=>AI (wpAny_letTemporaryGo (AO h₃))) λ_ _ x=>x)
 first
  |exact AO (AI fin)
  |exact AI (AO (AI fin))
  |exact AI fin
def zcp{X:Cx}{π:List (AG×BR)}{σ:St}{H:Hp}{s:AH}{a:AG}{y:V}{o:Option V}(I:Inv X π σ H s)(g:ydv H a y o):s.TypeIs (.ref a) "dict":=by
 rcases g with⟨kvs,k,e,_,_⟩|⟨kvs,k,b,e,_,_,_⟩
 .let⟨_,_,vs,_,dd⟩:=zio I.hok e;exact dd.typeIs
 .let⟨_,_,xs,_,dd⟩:=zg6 I.hok e;exact dd.typeIs
def ydL(td ty:TE):TE:=λσ H Q=>td σ H λx H1=>ty σ H1 λy H2=>∃a v,x=.ref a/\ydv H2 a y (AA v)/\Q v H2
section
variable {X:Cx}{o i e value:AM}{pos pos' tpos:Bc}{td ty tv:TE}
def zg2(hu:X.A.units+16<cLine)(ho:PE X o td)(hi:PE X i ty)(hs:ycz i):PE X (.Subscript o i pos) (ydL td ty):=by
 intro π s σ H Q I h;refine zeO Dr.lookup hs (thn (ho π s σ H _ I h) λu s1 kq=>?_);let⟨x,H1,I1,rx,q1⟩:=kq;refine thn (hi π s1 σ H1 _ I1 q1) λiv s2 kq=>?_;let⟨y,H2,I2,ry,a,v,ex,g,q2⟩:=kq;subst ex;obtain rfl:u=Au a:=rx;exact⟨zcp I2 g,zd6 hu I2 g ry λw' s3 I3 rw'=>⟨v,H2,I3,rw',q2⟩⟩
end
def zfH{P:A3}{w:Aa}{H:Hp}(h:An)(hb:sysModules<h.objs.size):yG P w H (h.push {cls:=.type "dict",data:=.dict #[]}) h.objs.size (.dT []):=
 ⟨BX _,beq_eq_false_iff_ne.mpr (Bu (Af hb)),[],.nil,_,#[],0,A7 _ rfl,⟨rfl,rfl,rfl⟩,rfl,rfl,List.nodup_nil⟩
section
variable {X:Cx}{pos:Bc}
end
section
variable {X:Cx}{π:List (AG×BR)}{σ:St}{H:Hp}{s:AH}{a:AG}{y d:V}{u r:AF}{o:Option V}{A:A8}{E:AF->AH->Prop}
end
section
variable {X:Cx}{o e f:AM}{apos cpos:Bc}{td ty tx:TE}
end
section
variable {X:Cx}{π:List (AG×BR)}{σ:St}{H:Hp}{s:AH}{a:AG}{kvs:List (Key×V)}{A:A8}{E:AF->AH->Prop}
end
section
variable {X:Cx}{π:List (AG×BR)}{σ:St}{H:Hp}{s:AH}{a:AG}{y:V}{u:AF}{A:A8}{E:AF->AH->Prop}
end
end L2
namespace IC
open PySem
inductive PV where
 |non|bl (b:Bool)|int (i:Int)|str (x:AN)|tp (k:Bool) (xs:List PV)|lst (xs:List PV)|loc (n:Nat)|exn (c:Nat)|scr (xs:List PV)|fnc (j:Nat)
deriving Inhabited
abbrev PV.tup(xs:List PV):PV:=.tp AE xs
mutual
noncomputable def nL:PV->Bool
 |.loc _=>AE
 |.exn _=>AE
 |.fnc _=>AC
 |.tp _ xs=>nLs xs
 |.lst xs=>nLs xs
 |.scr xs=>nLs xs
 |_=>AC
noncomputable def nLs:List PV->Bool
 |[]=>AC
 |x::xs=>nL x&&nLs xs
end
mutual
noncomputable def shd(n:Nat):PV->Bool
 |.non=>AC
 |.bl _=>AC
 |.int _=>AC
 |.str x=>x.cps.all (· < 0x110000)
 |.tp _ xs=>decide (0<n)&&yaH (n-1) xs
 |.lst xs=>decide (0<n)&&yaH (n-1) xs
 |_=>AE
noncomputable def yaH(n:Nat):List PV->Bool
 |[]=>AC
 |x::xs=>shd n x&&yaH n xs
end
abbrev shp(v:PV):Bool:=shd 60 v
def flat:PV->Bool
 |.non=>AC
 |.bl _=>AC
 |.int _=>AC
 |.str _=>AC
 |_=>AE
def bi(b:Bool):Int:=if b then 1 else 0
mutual
noncomputable def peq:PV->PV->Bool
 |.non,.non=>AC
 |.bl a,.bl b=>a==b
 |.bl a,.int j=>bi a==j
 |.int i,.bl b=>i==bi b
 |.int i,.int j=>i==j
 |.str x,.str y=>x==y
 |.tp _ xs,.tp _ ys=>ybi xs ys
 |.lst xs,.lst ys=>ybi xs ys
 |_,_=>AE
noncomputable def ybi:List PV->List PV->Bool
 |[],[]=>AC
 |x::xs,y::ys=>peq x y&&ybi xs ys
 |_,_=>AE
end
inductive Ob where
 |lst (xs:List PV)|dct (t:Bool) (kvs:List (PV×PV))|dead|ins (c:Nat) (fs:List (AN×PV))
abbrev Env:=List (Option PV)
abbrev SO:=List Ob
inductive R(α:Type) where
 |ok (a:α) (st:SO)|exc (c:Nat) (st:SO)|bad
def R.bind{α β:Type}(r:R α)(k:α->SO->R β):R β:=
 match r with
 |.ok a st=>k a st
 |.exc c st=>.exc c st
 |.bad=>.bad
inductive BOp where
 |add|sub|mul|fdiv|mod|pow|shl|shr|band|bor|bxor
inductive COp where
 |eq|ne|lt|le|gt|ge|is|isnot|isin|notin
inductive Ty where
 |int|bool|str|tuple|list|cls (c:Nat)|val
inductive Blt where
 |len|int|abs|min|max|tuple|list|all|sum|dict|rev|str|any
inductive Mth where
 |append|extend|get|bits|upper|insert|count|index|join|split|sidx|clear
inductive Tg where
 |n (i:Nat)|t (l:List Nat)
set_option genInjectivity false
mutual
inductive Ce where
 |cst (v:PV)
 |var (i:Nat)
 |bin (o:BOp) (a b:Ce)
 |not (a:Ce)
 |and (a b:Ce)
 |or (a b:Ce)
 |cmp (o:COp) (a b:Ce)
 |ite (c a b:Ce)
 |tup (es:Ces)
 |lst (es:Ces)
 |newl (es:Ces)
 |idx (a i:Ce)
 |slc (a:Ce) (lo hi:Ce)
 |call (f:Nat) (args:Ces)
 |blt (b:Blt) (args:Ces)
 |mth (m:Mth) (o:Ce) (args:Ces)
 |isx (a:Ce) (cs:List Nat) (t:List Ty)
 |comp (sl:List (Option Nat)) (tg:Tg) (it:Cit) (c:Ce) (e:Ce)
 |nope
 |fst (e:Ces)
 |rep (a b:Ce)
 |thw (a:Ce)
 |nin (a b:Ce)
 |dgt (a i:Ce)
 |qcl (i:Nat) (es:Ces)
 |cmq (sl:List (Option Nat)) (tg:Tg) (it:Cit) (m:Ce)
 |emq (tg:Tg) (it:Cit) (m:Ce)
 |dcm (sl:List (Option Nat)) (tg:Tg) (it:Cit) (k v:Ce)
inductive Ces where
 |nil
 |cons (e:Ce) (es:Ces)
inductive Cit where
 |seq (e:Ce)
 |range1 (a:Ce)
 |range2 (a b:Ce)
 |rangeD (a b:Ce)
 |enum (e:Ce)
 |zip (a b:Ce)
 |revl (e:Ce)
 |revr (a:Ce)
 |chars (e:Ce)
end
set_option genInjectivity true
abbrev Ce.i(n:Int):Ce:=.cst (.int n)
abbrev Ce.s(x:AN):Ce:=.cst (.str x)
abbrev Ce.v:=Ce.var
abbrev Ces.k:=Ces.cons
abbrev Ces.e:=Ces.nil
mutual
inductive Cs where
 |expr (e:Ce)
 |asg (t:Tg) (e:Ce)
 |six (o i e:Ce)
 |aug (i:Nat) (o:BOp) (e:Ce)
 |ret (e:Ce)
 |ite (c:Ce) (a b:Css)
 |for (t:Tg) (it:Cit) (b:Css)
 |while (c:Ce) (b:Css)
 |nope
 |raise (c:Nat) (e:Ce)
 |try (b:Css) (cs:List Nat) (i:Nat) (h:Css)
 |mkr (i:Nat) (D:List (AN×Nat)) (n:Ce) (es:Ces)
 |forl (t:Tg) (e:Ce) (b:Css)
inductive Css where
 |nil
 |cons (s:Cs) (ss:Css)
end
abbrev Css.k:=Css.cons
abbrev Css.e:=Css.nil
def yay(i j:Int):Bool:=(decide (i.natAbs<18446744073709551616)) || (decide (j.natAbs<18446744073709551616))
def binI(o:BOp)(i j:Int):Option PV:=
 match o with
 |.add=>AA (.int (i+j))
 |.sub=>AA (.int (i-j))
 |.mul=>if yay i j then AA (.int (i*j))else AB
 |.fdiv=>if 0<j/\j<10000000000000000000000000000000000000000000000000000000000000000000000 then AA (.int (i/j))else AB
 |.mod=>if 0<j then AA (.int (i%j))else AB
 |.pow=>if 0<=j/\j<=1000000/\i.natAbs<18446744073709551616 then AA (.int (i^j.toNat))else AB
 |.shl=>if 0<=j/\j<=1000000/\i.natAbs<1606938044258990275541962092341162602522202993782792835301376 then AA (.int (i*2^j.toNat))else AB
 |.shr=>if 0<=j then AA (.int (i/2^j.toNat))else AB
 |.band=>AA (.int (Eh i j))
 |.bor=>AA (.int (FI i j))
 |.bxor=>AA (.int (Ei i j))
def sizeMax:Nat:=16777216
def ydW(k:Bool)(a:List PV)(j:Bool)(b:List PV):PV:=if a.isEmpty then .tp j b else if b.isEmpty then .tp k a else .tup (a++b)
def ycB(x y:PV):Option PV:=
 match x,y with
 |.str a,.int n=>if 1<=n/\n<=1000/\a.length<=1000/\1<=a.length then AA (.str ⟨(AK n.toNat a.cps.toList).flatten.toArray⟩)else AB
 |.tp k a,.int n=>if n=1 then AA (.tp k a)else if 2<=n/\n<=1000/\a.isEmpty=AE/\a.length<=1000 then AA (.tup (AK n.toNat a).flatten)else if n=0/\a.isEmpty=AE then AA (.tup [])else AB
 |.lst a,.int n=>if 1<=n/\n<=1000/\a.length<=1000 then AA (.lst (AK n.toNat a).flatten)else AB
 |_,_=>AB
def yx(o:BOp)(x y:PV):Option PV:=
 match x,y with
 |.int i,.int j=>binI o i j
 |.int i,.bl b=>match o with
  |.add=>AA (.int (i+bi b))
  |_=>AB
 |.str a,.str b=>match o with
  |.add=>if a.length+b.length<=sizeMax then AA (.str (a++b))else AB
  |_=>AB
 |.tp k a,.tp j b=>match o with
  |.add=>if a.length+b.length<=sizeMax then AA (ydW k a j b)else AB
  |_=>AB
 |.lst a,.lst b=>match o with
  |.add=>if a.length+b.length<=sizeMax then AA (.lst (a++b))else AB
  |_=>AB
 |_,_=>AB
def yba(o:BOp)(x y:PV):Option PV:=
 match x,y with
 |.int i,.int j=>binI o i j
 |_,_=>AB
def isNon:PV->Bool
 |.non=>AC
 |_=>AE
def inL(x:PV):List PV->Bool
 |[]=>AE
 |y::ys=>peq y x || inL x ys
def inS(a b:AN):Bool:=(DE (b.length+1)).any λi=>decide (i+a.length<=b.length)&&(b.cps.extract i (i+a.length)==a.cps)
def ybw(o:COp)(i j:Int):Option PV:=
 match o with
 |.lt=>AA (.bl (decide (i<j)))
 |.le=>AA (.bl (decide (i<=j)))
 |.gt=>AA (.bl (decide (j<i)))
 |.ge=>AA (.bl (decide (j<=i)))
 |_=>AB
def yeo(o:COp)(a b:AN):Option PV:=
 match o with
 |.lt=>AA (.bl (decide (a.cps.toList<b.cps.toList)))
 |.le=>AA (.bl (!decide (b.cps.toList<a.cps.toList)))
 |_=>AB
def yI(o:COp)(x y:PV):Option PV:=
 match o with
 |.eq=>if shp x&&shp y then AA (.bl (peq x y))else AB
 |.ne=>if shp x&&shp y then AA (.bl (!peq x y))else AB
 |.is=>match y with
  |.non=>AA (.bl (isNon x))
  |.bl b=>match x with
   |.bl a=>AA (.bl (a==b))
   |_=>AB
  |_=>AB
 |.isnot=>match y with
  |.non=>AA (.bl (!isNon x))
  |.bl b=>match x with
   |.bl a=>AA (.bl (!(a==b)))
   |_=>AB
  |_=>AB
 |.isin=>match x,y with
  |.str a,.str b=>AA (.bl (inS a b))
  |x,.tp _ l=>if flat x&&l.all flat then AA (.bl (inL x l))else AB
  |x,.lst l=>if flat x&&l.all flat then AA (.bl (inL x l))else AB
  |_,_=>AB
 |.notin=>match x,y with
  |.str a,.str b=>AA (.bl (!inS a b))
  |x,.tp _ l=>if flat x&&l.all flat then AA (.bl (!inL x l))else AB
  |x,.lst l=>if flat x&&l.all flat then AA (.bl (!inL x l))else AB
  |_,_=>AB
 |o=>match x,y with
  |.int i,.int j=>ybw o i j
  |.str a,.str b=>yeo o a b
  |_,_=>AB
def yar(st:SO)(x:PV):Option Bool:=
 match x with
 |.non=>AA AE
 |.bl b=>AA b
 |.int i=>AA (i != 0)
 |.str y=>if y.length<=sizeMax then AA ((y.length:Int) != 0)else AB
 |.tp _ xs=>AA (!xs.isEmpty)
 |.lst xs=>AA (!xs.isEmpty)
 |.loc n=>match st[n]? with
  |some (.lst xs)=>AA (!xs.isEmpty)
  |_=>AB
 |_=>AB
def ixI(n:Nat)(i:Int):Option Nat:=if 0<=i then(if i<n then AA i.toNat else AB)else if -(n:Int)<=i then AA (i+n).toNat else AB
def at?{α:Type}(xs:List α)(i:Int):Option α:=(ixI xs.length i).bind λj=>xs[j]?
def look(k:PV):List (PV×PV)->Option PV
 |[]=>AB
 |(a,b)::r=>if peq a k then AA b else look k r
def put(k v:PV)(kvs:List (PV×PV)):List (PV×PV):=
 if (kvs.any λp=>peq p.1 k)=AC then kvs.map (λp=>if peq p.1 k=AC then(p.1,v)else p)else kvs++[(k,v)]
def yb2:PV->Bool
 |.int _=>AC
 |.str _=>AC
 |_=>AE
mutual
noncomputable def yea(n:Nat):PV->Bool
 |.int _=>AC
 |.str x=>x.cps.all (· < 0x110000)
 |.tp k xs=>!k&&decide (0<n)&&yby (n-1) xs
 |_=>AE
noncomputable def yby(n:Nat):List PV->Bool
 |[]=>AC
 |x::xs=>yea n x&&yby n xs
end
def isKey(t:Bool)(k:PV):Bool:=
 match t with
 |false=>yb2 k
 |true=>match k with
  |.tp AE xs=>yby 5 xs
  |_=>AE
def yaQ{α:Type}(xs:List α)(i:PV):Option α:=
 match i with
 |.int k=>at? xs k
 |_=>AB
def idxV(st:SO)(x i:PV):Option PV:=
 match x with
 |.tp _ xs=>yaQ xs i
 |.lst xs=>yaQ xs i
 |.str s=>if s.length<=sizeMax then(yaQ s.cps.toList i).map λc=>.str ⟨#[c]⟩else AB
 |.loc n=>match st[n]? with
  |some (.lst xs)=>yaQ xs i
  |_=>AB
 |_=>AB
def ybC(n:Nat)(v:Int):Nat:=if v<0 then(v+(n:Int)).toNat else min v.toNat n
def yct(n:Nat)(lo:Option Int):Nat:=
 match lo with
 |none=>0
 |some i=>ybC n i
def yc5(n:Nat)(hi:Option Int):Nat:=
 match hi with
 |none=>n
 |some i=>ybC n i
def cut{α:Type}(xs:List α)(lo hi:Option Int):List α:=(xs.drop (yct xs.length lo)).take (yc5 xs.length hi-yct xs.length lo)
def ybW:PV->Option (Option Int)
 |.non=>AA AB
 |.int i=>AA (AA i)
 |_=>AB
def ycd(x:PV)(a b:Option Int):Option PV:=
 match x with
 |.tp k xs=>if yct xs.length a=0/\yc5 xs.length b=xs.length then AA (.tp k xs)else AA (.tup (cut xs a b))
 |.str s=>if s.length<=sizeMax then AA (.str ⟨(cut s.cps.toList a b).toArray⟩)else AB
 |.lst xs=>AA (.lst (cut xs a b))
 |.scr xs=>AA (.lst (cut xs a b))
 |_=>AB
def ycW(x:PV)(a:Option Int)(hi:PV):Option PV:=
 match ybW hi with
 |some b=>ycd x a b
 |none=>AB
def yaE(x:PV)(t:Ty):Bool:=
 match x,t with
 |.int _,.int=>AC
 |.bl _,.int=>AC
 |.bl _,.bool=>AC
 |.str _,.str=>AC
 |.tp _ _,.tuple=>AC
 |.lst _,.list=>AC
 |.exn c,.cls d=>c==d
 |.exn _,.val=>AC
 |_,_=>AE
def ycw(cs:List Nat)(x:PV)(ts:List Ty):Option PV:=
 match x with
 |.exn c=>if cs.contains c then AA (.bl (ts.any (yaE (.exn c))))else AB
 |_=>AB
def ycy:PV->Option AN
 |.int i=>if i.natAbs.log2<1920 then AA (AT (toString i))else AB
 |.str s=>if s.length<=16777216 then AA s else AB
 |_=>AB
def ycx:AN->List PV->Option AN
 |out,[]=>if out.length<=16777216 then AA out else AB
 |out,v::vs=>match ycy v with
  |some y=>if (out++y).length<=16777216 then ycx (out++y) vs else AB
  |none=>AB
def yd2(r:R (List PV)):R PV:=
 match r with
 |.ok vs st=>match ycx DF vs with
  |some z=>.ok (.str z) st
  |none=>.bad
 |_=>.bad
def allB:List PV->Option Bool
 |[]=>AA AC
 |.bl b::r=>match allB r with
  |some c=>AA (b&&c)
  |none=>AB
 |_::_=>AB
def yeK:List PV->Option Int
 |[]=>AA 0
 |.int i::r=>match yeK r with
  |some c=>AA (i+c)
  |none=>AB
 |_::_=>AB
def yew:List PV->Option Int
 |[]=>AB
 |[.int i]=>AA i
 |.int i::r=>match yew r with
  |some c=>AA (if i<c then c else i)
  |none=>AB
 |_::_=>AB
def yad(st:SO):PV->Option (List PV)
 |.tp _ xs=>AA xs
 |.lst xs=>AA xs
 |.loc n=>match st[n]? with
  |some (.lst xs)=>AA xs
  |_=>AB
 |_=>AB
def yw(st:SO):PV->Option (List PV)
 |.lst xs=>AA xs
 |.loc n=>match st[n]? with
  |some (.lst xs)=>AA xs
  |_=>AB
 |_=>AB
def lenV(st:SO)(x:PV):Option PV:=
 match x with
 |.str s=>if s.length<=sizeMax then AA (.int s.length)else AB
 |x=>(yad st x).map λxs=>.int xs.length
def yfE(x:PV):Option PV:=
 match x with
 |.int i=>AA (.int i)
 |.bl k=>AA (.int (bi k))
 |_=>AB
def ydM(x:PV):Option PV:=
 match x with
 |.int i=>AA (.int (if i<0 then -i else i))
 |_=>AB
def ye5(x y:PV):Option PV:=
 match x,y with
 |.int i,.int j=>AA (.int (if j<i then j else i))
 |_,_=>AB
def maxV(x y:PV):Option PV:=
 match x,y with
 |.int i,.int j=>AA (.int (if i<j then j else i))
 |_,_=>AB
def ydp(st:SO)(x:PV):Option PV:=
 match x with
 |.tp k xs=>AA (.tp k xs)
 |x=>(yw st x).map .tup
def ygg:PV->Option PV
 |.tp _ xs=>AA (.tup xs.reverse)
 |.lst xs=>AA (.lst xs.reverse)
 |_=>AB
def anyB:List PV->Option Bool
 |[]=>AA AE
 |.bl b::r=>match anyB r with
  |some c=>AA (b || c)
  |none=>AB
 |_=>AB
def anyI:List PV->Option Bool
 |[]=>AA AE
 |.int i::r=>match anyI r with
  |some c=>AA ((i != 0) || c)
  |none=>AB
 |_=>AB
def yfL:PV->Option PV
 |.int i=>if i=0 then AA (.str "0")else if i=1 then AA (.str "1")else AB
 |_=>AB
def yaB(b:Blt)(st:SO)(vs:List PV):Option PV:=
 match vs with
 |[x]=>match b with
  |.len=>lenV st x
  |.int=>yfE x
  |.abs=>ydM x
  |.max=>(yw st x).bind λxs=>(yew xs).map .int
  |.tuple=>ydp st x
  |.list=>(yad st x).map .lst
  |.all=>(yw st x).bind λxs=>(allB xs).map .bl
  |.sum=>(yw st x).bind λxs=>(yeK xs).map .int
  |.rev=>ygg x
  |.str=>yfL x
  |.any=>match x with
   |.tp _ xs=>(anyI xs).map .bl
   |x=>(yw st x).bind λxs=>(anyB xs).map .bl
  |_=>AB
 |[x,y]=>match b with
  |.min=>ye5 x y
  |.max=>maxV x y
  |_=>AB
 |_=>AB
def yah(st:SO):PV->Option (Bool×List (PV×PV))
 |.loc n=>match st[n]? with
  |some (.dct t xs)=>AA (t,xs)
  |_=>AB
 |_=>AB
def yax(m:Mth)(st:SO)(x:PV):Option Bool:=
 match m with
 |.append=>(yw st x).map λ_=>AC
 |.extend=>(yw st x).map λ_=>AC
 |.insert=>(yw st x).map λ_=>AC
 |.count=>(yw st x).map λ_=>AC
 |.index=>(yw st x).map λ_=>AC
 |.get=>(yah st x).map λ_=>AC
 |.bits=>match x with
  |.int _=>AA AC
  |_=>AB
 |.upper=>match x with
  |.str _=>AA AC
  |_=>AB
 |.join=>match x with
  |.str _=>AA AC
  |_=>AB
 |.split=>match x with
  |.str _=>AA AC
  |_=>AB
 |.sidx=>match x with
  |.str _=>AA AC
  |_=>AB
 |.clear=>match x with
  |.loc n=>(yw st (.loc n)).map λ_=>AC
  |_=>AB
def yf9(st:SO)(o v:PV):R PV:=
 match o with
 |.loc n=>match st[n]? with
  |some (.lst xs)=>if xs.length<1000000 then .ok .non (st.set n (.lst (xs++[v])))else .bad
  |_=>.bad
 |_=>.bad
def yfr(st:SO)(o v:PV):R PV:=
 match o with
 |.loc n=>match st[n]? with
  |some (.lst xs)=>match v with
   |.lst ys=>if xs.length+ys.length<=1000000 then .ok .non (st.set n (.lst (xs++ys)))else .bad
   |_=>.bad
  |_=>.bad
 |_=>.bad
def ydi(st:SO)(o i v:PV):R PV:=
 match o with
 |.loc n=>match st[n]? with
  |some (.lst xs)=>match i with
   |.int k=>if 0<=k/\k<=xs.length/\xs.length<1000000 then .ok .non (st.set n (.lst (xs.take k.toNat++v::xs.drop k.toNat)))else .bad
   |_=>.bad
  |_=>.bad
 |_=>.bad
def yf1(st:SO)(o k d:PV):R PV:=
 match yah st o with
 |some (t,kvs)=>if isKey t k then .ok ((look k kvs).getD d) st else .bad
 |none=>.bad
def yeF(st:SO)(o v:PV):R PV:=
 match yw st o with
 |some xs=>if flat v&&xs.all flat then .ok (.int (xs.countP λy=>peq y v)) st else .bad
 |none=>.bad
def ybr(v:PV):List PV->Option Nat
 |[]=>AB
 |y::ys=>if peq y v then AA 0 else(ybr v ys).map (·+1)
def yeU(st:SO)(o v:PV):R PV:=
 match yw st o with
 |some xs=>if flat v&&xs.all flat then(match ybr v xs with
  |some j=>.ok (.int j) st
  |none=>.bad)else .bad
 |none=>.bad
def upC(c:Nat):Nat:=if 97<=c/\c<=122 then c-32 else c
def upS(s:AN):Str:=⟨(s.cps.toList.map upC).toArray⟩
def yN(c:Nat):List Nat->List (List Nat)
 |[]=>[[]]
 |x::xs=>if x=c then []::yN c xs else match yN c xs with
  |[]=>[[x]]
  |p::ps=>(x::p)::ps
def strsOf:List PV->Option (List AN)
 |[]=>AA []
 |.str s::r=>(strsOf r).map (s :: ·)
 |_=>AB
def ybb(st:SO)(o v:PV):R PV:=
 match o,yw st v with
 |.str s,AA xs=>match strsOf xs with
  |some ys=>if s.length<=10/\xs.length<=1000/\(ys.all λy=>decide (y.length<=1000))=AC then .ok (.str (C6 s ys)) st else .bad
  |none=>.bad
 |_,_=>.bad
def ygs(st:SO)(o:PV):R PV:=
 match o with
 |.loc n=>match st[n]? with
  |some (.lst _)=>.ok .non (st.set n (.lst []))
  |_=>.bad
 |_=>.bad
def ydP(st:SO)(o v:PV):R PV:=
 match o,v with
 |.str s,.str y=>if s=AT "01" then(if y=AT "0" then .ok (.int 0) st else if y=AT "1" then .ok (.int 1) st else .bad)else .bad
 |_,_=>.bad
def ya4(st:SO)(o v:PV):R PV:=
 match o,v with
 |.str s,.str y=>match y.cps.toList with
  |[c]=>if s.length<=100000 then .ok (.lst ((yN c s.cps.toList).map λl=>.str ⟨l.toArray⟩)) st else .bad
  |_=>.bad
 |_,_=>.bad
def ybJ(m:Mth)(st:SO)(o:PV)(vs:List PV):R PV:=
 match m,vs with
 |.append,[v]=>yf9 st o v
 |.extend,[v]=>yfr st o v
 |.insert,[i,v]=>ydi st o i v
 |.get,[k,d]=>yf1 st o k d
 |.count,[v]=>yeF st o v
 |.index,[v]=>yeU st o v
 |.join,[v]=>ybb st o v
 |.split,[v]=>ya4 st o v
 |.sidx,[v]=>ydP st o v
 |.clear,[]=>ygs st o
 |.bits,[]=>match o with
  |.int i=>.ok (.int (Cb i)) st
  |_=>.bad
 |.upper,[]=>match o with
  |.str s=>if s.cps.toList.all (· < 128)/\s.length<=1000000 then .ok (.str (upS s)) st else .bad
  |_=>.bad
 |_,_=>.bad
def toR(o:Option PV)(st:SO):R PV:=
 match o with
 |some v=>.ok v st
 |none=>.bad
def yo(t:Tg)(v:PV)(ρ:Env):Option Env:=
 match t,v with
 |.n i,v=>AA (ρ.set i (AA v))
 |.t l,.tp _ xs=>if l.length=xs.length then AA ((l.zip xs).foldl (λρ p=>ρ.set p.1 (AA p.2)) ρ)else AB
 |_,_=>AB
def yR:Nat->List PV->List PV
 |_,[]=>[]
 |k,x::xs=>.tup [.int k,x]::yR (k+1) xs
def yc2:List PV->List PV->List PV
 |x::xs,y::ys=>.tup [x,y]::yc2 xs ys
 |_,_=>[]
def yfs:PV->Option (List PV)
 |.tp _ xs=>AA xs.reverse
 |.lst xs=>AA xs.reverse
 |_=>AB
def ycV:PV->Option (List PV)
 |.str s=>if s.length<=1000000 then AA (s.cps.toList.map λc=>.str ⟨#[c]⟩)else AB
 |_=>AB
def yfx(x y:PV):Option (List PV):=
 match x,y with
 |.tp _ xs,.tp _ ys=>if xs.length<=ys.length then AA (yc2 xs ys)else AB
 |_,_=>AB
def yaU(s:AN):List (AN×PV)->Option PV
 |[]=>AB
 |(a,b)::r=>if decide (a=s)then AA b else yaU s r
def yr:Nat->Int->Int->List PV
 |0,_,_=>[]
 |n+1,a,d=>.int a::yr n (a+d) d
def ybP(x:PV):Option (List PV):=
 match x with
 |.int j=>if j.natAbs<1000000000 then AA (yr j.toNat 0 1)else AB
 |_=>AB
def ygv(x:PV):Option (List PV):=
 match x with
 |.int j=>if 0<=j/\j<1000000000 then AA (yr j.toNat (j-1) (-1))else AB
 |_=>AB
def yfM(x y:PV):Option (List PV):=
 match x,y with
 |.int i,.int j=>if i.natAbs<1000000000/\j.natAbs<1000000000 then AA (yr (j-i).toNat i 1)else AB
 |_,_=>AB
def yfq(x y:PV):Option (List PV):=
 match x,y with
 |.int i,.int j=>if i.natAbs<1000000000/\j.natAbs<1000000000 then AA (yr (i-j).toNat i (-1))else AB
 |_,_=>AB
def toL(o:Option (List PV))(st:SO):R (List PV):=
 match o with
 |some v=>.ok v st
 |none=>.bad
def ydl(v:PV)(st:SO):R PV:=
 match v with
 |.lst xs=>.ok (.loc st.length) (st++[.lst xs])
 |_=>.bad
def ybL(st:SO)(x y:PV):Option PV:=
 match yad st y with
 |some xs=>if shp x&&yaH 60 xs then AA (.bl (!inL x xs))else AB
 |none=>AB
def ycP(st:SO)(x k:PV):Option PV:=
 match yah st x with
 |some (t,kvs)=>if isKey t k then look k kvs else AB
 |none=>AB
def mkV(D:List (AN×Nat))(b:Bool)(x:PV):Option Nat:=
 match x with
 |.str s=>if b then D.lookup s else AB
 |_=>AB
def yds(f:AN)(v:PV):List (AN×PV)->List (AN×PV)
 |[]=>[(f,v)]
 |(g,x)::r=>if g=f then(g,v)::r else(g,x)::yds f v r
def yaZ(r:R PV):R PV:=
 match r with
 |.ok v st=>.ok v st
 |_=>.bad
inductive Fl where
 |nx (ρ:Env) (st:SO)|rt (v:PV) (st:SO)|bk (ρ:Env) (st:SO)|ct (ρ:Env) (st:SO)|exc (c:Nat) (ρ:Env) (st:SO)|bad
def onBl{α:Type}(x:PV)(k:Bool->R α):R α:=
 match x with
 |.bl b=>k b
 |_=>.bad
def onO{α:Type}(o:Option Bool)(k:Bool->R α):R α:=
 match o with
 |some b=>k b
 |none=>.bad
def onF(o:Option Bool)(k:Bool->Fl):Fl:=
 match o with
 |some b=>k b
 |none=>.bad
def onP{α:Type}(o:Option (Option Int))(k:Option Int->R α):R α:=
 match o with
 |some b=>k b
 |none=>.bad
def ybd(o:Option PV)(ys:List PV):List PV:=
 match o with
 |some y=>y::ys
 |none=>ys
def compL(one:PV->SO->R (Option PV)):List PV->SO->R (List PV)
 |[],st=>.ok [] st
 |x::xs,st=>(one x st).bind λo st1=>(compL one xs st1).bind λys st2=>.ok (ybd o ys) st2
def ya0(r:R (List PV)):R PV:=
 match r with
 |.ok ys st=>if ys.length<=1000000 then .ok (.lst ys) st else .bad
 |_=>.bad
def ybl:PV×PV->Bool
 |(_,.int _)=>AC
 |_=>AE
def ivP:PV->Int
 |.int i=>i
 |_=>0
def yae(one:PV->SO->R (List PV)):List PV->SO->R (List PV)
 |[],st=>.ok [] st
 |x::xs,st=>(one x st).bind λo st1=>(yae one xs st1).bind λys st2=>.ok (o++ys) st2
def emR(r:R PV):R (List PV):=
 match r with
 |.ok (.tp AE vs) st=>.ok vs st
 |_=>.bad
def yc3(o:Option (Option PV)):Bool:=
 match o with
 |some AB=>AC
 |_=>AE
def yaf(t:Tg)(ρ:Env):Bool:=
 match t with
 |.n i=>yc3 ρ[i]?
 |.t l=>l.all λi=>yc3 ρ[i]?
def tupR(r:R (List PV)):R PV:=
 match r with
 |.ok vs st=>.ok (.tp AE vs) st
 |_=>.bad
def yaw(one:PV->SO->R (PV×PV)):List PV->List (PV×PV)->SO->R (List (PV×PV))
 |[],acc,st=>.ok acc st
 |x::xs,acc,st=>(one x st).bind λp st1=>if isKey AC p.1 then yaw one xs (put p.1 p.2 acc) st1 else .bad
def dctR(r:R (List (PV×PV))):R PV:=
 match r with
 |.ok kvs st=>.ok (.loc st.length) (st++[.dct AC kvs])
 |_=>.bad
def ycm(ka kb:List (PV×PV)):Bool:=ka.length==kb.length&&ka.all λp=>match look p.1 kb with
 |some v=>ivP p.2==ivP v
 |none=>AE
mutual
noncomputable def ev(call:Nat->List PV->SO->R PV)(ρ:Env)(st:SO):Ce->R PV
 |.cst v=>.ok v st
 |.var i=>match ρ[i]? with
  |some (AA v)=>.ok v st
  |_=>.bad
 |.bin o a b=>(ev call ρ st a).bind λx st1=>(ev call ρ st1 b).bind λy st2=>toR (yx o x y) st2
 |.not a=>(ev call ρ st a).bind λx st1=>onBl x λk=>.ok (.bl (!k)) st1
 |.and a b=>(ev call ρ st a).bind λx st1=>onBl x λk=>cond k (ev call ρ st1 b) (.ok (.bl AE) st1)
 |.or a b=>(ev call ρ st a).bind λx st1=>onBl x λk=>cond k (.ok (.bl AC) st1) (ev call ρ st1 b)
 |.cmp o a b=>(ev call ρ st a).bind λx st1=>(ev call ρ st1 b).bind λy st2=>toR (yI o x y) st2
 |.ite c a b=>(ev call ρ st c).bind λx st1=>onO (yar st1 x) λk=>cond k (ev call ρ st1 a) (ev call ρ st1 b)
 |.tup es=>(evs call ρ st es).bind λvs st1=>if vs.length<=sizeMax then .ok (.tup vs) st1 else .bad
 |.lst es=>(evs call ρ st es).bind λvs st1=>if vs.length<=sizeMax then .ok (.lst vs) st1 else .bad
 |.newl es=>(evs call ρ st es).bind λvs st1=>if vs.length<=sizeMax then .ok (.loc st1.length) (st1++[.lst vs])else .bad
 |.idx a i=>(ev call ρ st a).bind λx st1=>(ev call ρ st1 i).bind λy st2=>toR (idxV st2 x y) st2
 |.slc a l h=>(ev call ρ st a).bind λx st1=>(ev call ρ st1 l).bind λy st2=>onP (ybW y) λo=>(ev call ρ st2 h).bind λz st3=>toR (ycW x o z) st3
 |.call f es=>(evs call ρ st es).bind λvs st1=>call f vs st1
 |.blt b es=>(evs call ρ st es).bind λvs st1=>toR (yaB b st1 vs) st1
 |.mth m o es=>(ev call ρ st o).bind λx st1=>onO (yax m st1 x) λ_=>(evs call ρ st1 es).bind λvs st2=>ybJ m st2 x vs
 |.isx a cs ts=>(ev call ρ st a).bind λx st1=>toR (ycw cs x ts) st1
 |.comp sl tg it c e=>(evi call ρ st it).bind λxs st1=>
  let ρ0:Env:=sl.map λo=>o.bind λj=>(ρ[j]?).join
  ya0 (compL (λx st2=>match yo tg x ρ0 with
   |none=>.bad
   |some ρ1=>(ev call ρ1 st2 c).bind λb st3=>onO (yar st3 b) λk=>cond k ((ev call ρ1 st3 e).bind λy st4=>.ok (AA y) st4) (.ok AB st3)) xs st1)
 |.nope=>.bad
 |.fst es=>yd2 (evs call ρ st es)
 |.rep a b=>(ev call ρ st a).bind λx st1=>(ev call ρ st1 b).bind λy st2=>toR (ycB x y) st2
 |.thw a=>(ev call ρ st a).bind λx st1=>ydl x st1
 |.nin a b=>(ev call ρ st a).bind λx st1=>(ev call ρ st1 b).bind λy st2=>toR (ybL st2 x y) st2
 |.dgt a i=>(ev call ρ st a).bind λx st1=>(ev call ρ st1 i).bind λy st2=>toR (ycP st2 x y) st2
 |.qcl i es=>(evs call ρ st es).bind λvs st1=>yaZ (call i vs st1)
 |.cmq sl tg it m=>(evi call ρ st it).bind λxs st1=>
  let ρ0:Env:=sl.map λo=>o.bind λj=>(ρ[j]?).join
  ya0 (yae (λx st2=>match yo tg x ρ0 with
   |none=>.bad
   |some ρ1=>emR (ev call ρ1 st2 m)) xs st1)
 | .emq tg it m=>(evi call ρ st it).bind λxs st1=>if yaf tg ρ=AC then tupR (yae (λx st2=>match yo tg x ρ with
   |none=>.bad
   |some ρ1=>emR (ev call ρ1 st2 m)) xs st1)else .bad
 |.dcm sl tg it k v=>(evi call ρ st it).bind λxs st1=>
  let ρ0:Env:=sl.map λo=>o.bind λj=>(ρ[j]?).join
  if xs.length<=1000000 then dctR (yaw (λx st2=>match yo tg x ρ0 with
   |none=>.bad
   |some ρ1=>(ev call ρ1 st2 k).bind λa st3=>(ev call ρ1 st3 v).bind λb st4=>.ok (a,b) st4) xs [] st1)else .bad
noncomputable def evs(call:Nat->List PV->SO->R PV)(ρ:Env)(st:SO):Ces->R (List PV)
 |.nil=>.ok [] st
 |.cons e es=>(ev call ρ st e).bind λv st1=>(evs call ρ st1 es).bind λvs st2=>.ok (v::vs) st2
noncomputable def evi(call:Nat->List PV->SO->R PV)(ρ:Env)(st:SO):Cit->R (List PV)
 |.seq e=>(ev call ρ st e).bind λv st1=>match v with
  |.tp _ xs=>.ok xs st1
  |.lst xs=>.ok xs st1
  |_=>.bad
 |.range1 a=>(ev call ρ st a).bind λx st1=>toL (ybP x) st1
 |.range2 a b=>(ev call ρ st a).bind λx st1=>(ev call ρ st1 b).bind λy st2=>toL (yfM x y) st2
 |.rangeD a b=>(ev call ρ st a).bind λx st1=>(ev call ρ st1 b).bind λy st2=>toL (yfq x y) st2
 |.enum e=>(ev call ρ st e).bind λv st1=>match v with
  |.tp _ xs=>.ok (yR 0 xs) st1
  |_=>.bad
 |.zip a b=>(ev call ρ st a).bind λx st1=>(ev call ρ st1 b).bind λy st2=>toL (yfx x y) st2
 |.revl e=>(ev call ρ st e).bind λv st1=>toL (yfs v) st1
 |.revr a=>(ev call ρ st a).bind λx st1=>toL (ygv x) st1
 |.chars e=>(ev call ρ st e).bind λv st1=>toL (ycV v) st1
end
def R.fl{α:Type}(r:R α)(ρ:Env)(k:α->SO->Fl):Fl:=
 match r with
 |.ok a st=>k a st
 |.exc c st=>.exc c ρ st
 |.bad=>.bad
def yam(f:Fl)(k:Env->SO->Fl):Fl:=
 match f with
 |.nx ρ st=>k ρ st
 |.ct ρ st=>k ρ st
 |.bk ρ st=>.nx ρ st
 |f=>f
def forL(t:Tg)(body:Env->SO->Fl):List PV->Env->SO->Fl
 |[],ρ,st=>.nx ρ st
 |x::xs,ρ,st=>match yo t x ρ with
  |none=>.bad
  |some ρ1=>yam (body ρ1 st) λρ2 st2=>forL t body xs ρ2 st2
def ya8(t:Tg)(body:Env->SO->Fl)(n:Nat):Nat->Nat->Env->SO->Fl
 |0,_,_,_=>.bad
 |f+1,i,ρ,st=>match st[n]? with
  |some (.lst xs)=>match xs[i]? with
   |some x=>(match yo t x ρ with
    |none=>.bad
    |some ρ1=>yam (body ρ1 st) λρ2 st2=>ya8 t body n f (i+1) ρ2 st2)
   |none=>.nx ρ st
  |_=>.bad
def yV(test:Env->SO->R PV)(body:Env->SO->Fl):Nat->Env->SO->Fl
 |0,_,_=>.bad
 |n+1,ρ,st=>(test ρ st).fl ρ λx st1=>onF (yar st1 x) λk=>cond k (yam (body ρ st1) λρ2 st2=>yV test body n ρ2 st2) (.nx ρ st1)
def yaY(st:SO)(o i v:PV):Option SO:=
 match o with
 |.loc n=>match st[n]? with
  |some (.lst xs)=>match i with
   |.int k=>match ixI xs.length k with
    |some j=>AA (st.set n (.lst (xs.set j v)))
    |none=>AB
   |_=>AB
  |_=>AB
 |_=>AB
mutual
noncomputable def ex(call:Nat->List PV->SO->R PV)(ρ:Env)(st:SO):Cs->Fl
 |.expr e=>(ev call ρ st e).fl ρ λ_ st1=>.nx ρ st1
 |.asg t e=>(ev call ρ st e).fl ρ λv st1=>match yo t v ρ with
  |some ρ1=>.nx ρ1 st1
  |none=>.bad
 |.six o i e=>(ev call ρ st e).fl ρ λv st1=>(ev call ρ st1 o).fl ρ λx st2=>(ev call ρ st2 i).fl ρ λy st3=>match yaY st3 x y v with
  |some st4=>.nx ρ st4
  |none=>.bad
 |.aug i o e=>match ρ[i]? with
  |some (AA x)=>(ev call ρ st e).fl ρ λy st1=>match yba o x y with
   |some z=>.nx (ρ.set i (AA z)) st1
   |none=>.bad
  |_=>.bad
 |.ret e=>(ev call ρ st e).fl ρ λv st1=>.rt v st1
 |.ite c a b=>(ev call ρ st c).fl ρ λx st1=>onF (yar st1 x) λk=>cond k (exs call ρ st1 a) (exs call ρ st1 b)
 |.for t it b=>(evi call ρ st it).fl ρ λxs st1=>forL t (λρ2 st2=>exs call ρ2 st2 b) xs ρ st1
 |.while c b=>yV (λρ2 st2=>ev call ρ2 st2 c) (λρ2 st2=>exs call ρ2 st2 b) 100000 ρ st
 |.nope=>.bad
 |.raise c e=>(ev call ρ st e).fl ρ λ_ st1=>.exc c ρ st1
 |.try b cs i h=>match exs call ρ st b with
  | .exc d ρ1 st1=>if cs.contains d then(match exs call (ρ1.set i (AA (.exn d))) st1 h with
   |.nx ρ2 st2=>.nx (ρ2.set i AB) st2
   |.rt v st2=>.rt v st2
   |_=>.bad)else .bad
  |f=>f
 |.mkr i D n es=>(ev call ρ st n).fl ρ λx st1=>match mkV D (decide (i<ρ.length)) x with
  |some j=>((evs call (ρ.set i AB) st1 es).bind λvs st2=>call j vs st2).fl (ρ.set i AB) λv st3=>.rt v st3
  |none=>.bad
 |.forl t e b=>(ev call ρ st e).fl ρ λv st1=>match v with
  |.tp _ xs=>forL t (λρ2 st2=>exs call ρ2 st2 b) xs ρ st1
  |.lst xs=>forL t (λρ2 st2=>exs call ρ2 st2 b) xs ρ st1
  |.loc n=>ya8 t (λρ2 st2=>exs call ρ2 st2 b) n 100000 0 ρ st1
  |_=>.bad
noncomputable def exs(call:Nat->List PV->SO->R PV)(ρ:Env)(st:SO):Css->Fl
 |.nil=>.nx ρ st
 |.cons s ss=>match ex call ρ st s with
  |.nx ρ1 st1=>exs call ρ1 st1 ss
  |f=>f
end
structure Fn where
 np:Nat
 ns:Nat
 pure:Bool
 body:Css
def yd(T:Nat->Option Fn):Nat->Nat->List PV->SO->R PV
 |0,_,_,_=>.bad
 |k+1,f,args,st=>match T f with
  |none=>.bad
  |some fn=>if args.length=fn.np then
    if fn.pure then
     if nLs args then match exs (yd T k) (args.map AA++AK (fn.ns-fn.np) AB) [] fn.body with
      |.rt v _=>if nL v then .ok v st else .bad
      |.nx _ _=>.ok .non st
      |.exc c _ _=>.exc c st
      |_=>.bad
     else .bad
    else match exs (yd T k) (args.map AA++AK (fn.ns-fn.np) AB) st fn.body with
     |.rt v st1=>.ok v st1
     |.nx _ st1=>.ok .non st1
     |.exc c _ st1=>.exc c st1
     |_=>.bad
   else .bad
def yZ:List (Sum Ce Int)->Ces
 |[]=>.nil
 |.inl c::r=>.cons c (yZ r)
 |.inr i::r=>.cons (.cst (.int i)) (yZ r)
def yb5:Ces->Ces->Ces
 |.nil,b=>b
 |.cons e r,b=>.cons e (yb5 r b)
end IC
namespace L2
open PySem PySem.Spec PyProof.Rows IC
abbrev Ph:=List (Option AG)
section
variable (K:AD)(cl:Nat->AG)(B:AG->Prop)(φ:Ph)(H:Hp)
def ybs(k:Bool)(a:AG)(xs:List V):Prop:=(H a=AA (.tup xs)/\¬B a/\AA a∉φ) \/
 k=AC/\∃(o:BR) (its:Array AF) (n:Nat),K.lookup a=AA o/\o.cls=.type "tuple"/\o.data=.seq its n/\its.size<=sizeLine/\Vals xs its.toList
def ybE(a:AG)(xs:List V):Prop:=H a=AA (.lst xs)/\¬B a/\AA a∉φ
def ydn(a:AG)(xs:List V):Prop:=(Rd H a (.lst xs)/\¬B a/\AA a∉φ) \/
 ∃(o:BR) (its:Array AF) (n:Nat),K.lookup a=AA o/\o.cls=.type "list"/\o.dict=AB/\o.data=.seq its n/\its.size<=sizeLine/\Vals xs its.toList
mutual
noncomputable def yc:PV->V->Prop
 |.non,x=>x=.non
 |.bl b,x=>x=.bl b
 |.int i,x=>x=.int i
 |.str s,x=>x=.str s
 |.tp k vs,x=>∃a xs,x=.ref a/\ybs K B φ H k a xs/\ye vs xs
 |.lst vs,x=>∃a xs,x=.ref a/\ybE B φ H a xs/\ye vs xs
 |.loc n,x=>n<φ.length/\∃a,x=.ref a/\∀b,φ[n]?=AA (AA b)->b=a
 |.exn c,x=>∃a,x=.ref a/\H a=AA (.ext (ybm a (cl c)))/\¬B a/\AA a∉φ
 |.scr vs,x=>∃a xs,x=.ref a/\ydn K B φ H a xs/\ye vs xs
 |.fnc j,x=>x=.ref (cl (1000+j))
noncomputable def ye:List PV->List V->Prop
 |[],xs=>xs=[]
 |v::vs,xs=>∃y ys,xs=y::ys/\yc v y/\ye vs ys
end
def ya1:Key->PV
 |.inl i=>.int i
 |.inr y=>.str y
mutual
noncomputable def nkP:NK->PV
 |.a k=>ya1 k
 |.t l=>.tup (yao l)
noncomputable def yao:List NK->List PV
 |[]=>[]
 |k::l=>nkP k::yao l
end
def DK:List (PV×PV)->List (Key×V)->Prop
 |[],ks=>ks=[]
 |(k,v)::r,ks=>∃q x s,ks=(q,x)::s/\k=ya1 q/\yc K cl B φ H v x/\DK r s
def DT:List (PV×PV)->List (List NK×V)->Prop
 |[],ks=>ks=[]
 |(k,v)::r,ks=>∃q x s,ks=(q,x)::s/\k=.tup (yao q)/\yc K cl B φ H v x/\DT r s
def FS:List (AN×PV)->List (AN×V)->Prop
 |[],ks=>ks=[]
 |(k,v)::r,ks=>∃x s,ks=(k,x)::s/\yc K cl B φ H v x/\FS r s
def ybD:Ob->AG->Prop
 |.lst vs,a=>∃xs,H a=AA (.lst xs)/\ye K cl B φ H vs xs
 |.dct AE kvs,a=>∃ks,H a=AA (.dK ks)/\DK K cl B φ H kvs ks
 |.dct AC kvs,a=>∃ks,H a=AA (.dT ks)/\DT K cl B φ H kvs ks
 |.dead,_=>False
 |.ins c fs,a=>∃ks,(∃dx,H a=AA (.ins (cl c) dx ks))/\FS K cl B φ H fs ks
structure yh(st:SO):Prop where
 len:φ.length=st.length
 inj:∀(m n:Nat) (a:AG),φ[m]?=AA (AA a)->φ[n]?=AA (AA a)->m=n
 obj:∀(n:Nat) (a:AG),φ[n]?=AA (AA a)->∃o,st[n]?=AA o/\ybD K cl B φ H o a
 liv:∀(n:Nat) (o:Ob),st[n]?=AA o->o ≠ .dead->∃a,φ[n]?=AA (AA a)
 nb:∀a,AA a∈φ->¬B a
 dom:∀a,B a->∃o,H a=AA o
 nt:∀a,B a->∀xs,H a≠AA (.tup xs)
structure yp(ρ:IC.Env)(σ:St):Prop where
 len:ρ.length=σ.length
 get:∀(i:Nat) (v:PV),ρ[i]?=AA (AA v)->∃x,σ[i]?=AA (AA x)/\yc K cl B φ H v x
end
structure Step(φ:Ph)(H:Hp)(φ':Ph)(H':Hp):Prop where
 keep:∀b o,AA b∉φ->H b=AA o->H' b=AA o
 len:φ.length<=φ'.length
 pre:∀(n:Nat) (a:AG),n<φ.length->φ'[n]?=AA (AA a)->φ[n]?=AA (AA a)
 new:∀b,AA b∈φ'->AA b∈φ \/ H b=AB
theorem Step.rfl{φ:Ph}{H:Hp}:Step φ H φ H:=⟨λ_ _ _ e=>e,AR _,λ_ _ _ e=>e,λ_ h=>.inl h⟩
theorem Step.trans{φ φ1 φ2:Ph}{H H1 H2:Hp}(s:Step φ H φ1 H1)(t:Step φ1 H1 φ2 H2):Step φ H φ2 H2:=by
 refine⟨λb o n e=>?_,BC s.len t.len,λn a hn e=>s.pre n a hn (t.pre n a (A0 hn s.len) e),λb hb=>?_⟩
 .refine t.keep b o (λh=>?_) (s.keep b o n e);rcases s.new b h with q|q
  .exact n q
  .rw[e]at q;cases q
 .rcases t.new b hb with q|q
  .exact s.new b q
  .by_cases h:AA b∈φ
   .exact .inl h
   .refine .inr ?_
    cases e:H b with
    |none=>exact Bw _
    |some o=>rw[s.keep b o h e]at q;cases q
section
variable {K:AD}{cl:Nat->AG}{B:AG->Prop}{φ φ':Ph}{H H':Hp}{st:SO}{ρ:IC.Env}{σ:St}
theorem Rd.step(s:Step φ H φ' H'){a:AG}{u:HO}(n:AA a∉φ)(r:Rd H a u):Rd H' a u/\AA a∉φ':=by
 have h:∃o,H a=AA o:=by
  rcases r with r|⟨o,r⟩<;>exact⟨_,r⟩
 refine⟨?_,λz=>?_⟩
 .rcases r with r|⟨o,r⟩
  .exact .inl (s.keep _ _ n r)
  .exact .inr ⟨o,s.keep _ _ n r⟩
 .let⟨o,e⟩:=h;rcases s.new a z with q|q
  .exact n q
  .rw[e]at q;cases q
theorem ybs.step(s:Step φ H φ' H'){k:Bool}{a:AG}{xs:List V}(r:ybs K B φ H k a xs):ybs K B φ' H' k a xs:=by
 rcases r with⟨r,b,n⟩|r
 .let⟨_,n'⟩:=(Rd.of r).step s n;exact .inl ⟨s.keep _ _ n r,b,n'⟩
 .exact .inr r
theorem ybE.step(s:Step φ H φ' H'){a:AG}{xs:List V}(r:ybE B φ H a xs):ybE B φ' H' a xs:=by
 let⟨r,b,n⟩:=r;let⟨_,n'⟩:=(Rd.of r).step s n;exact⟨s.keep _ _ n r,b,n'⟩
theorem ydn.step(s:Step φ H φ' H'){a:AG}{xs:List V}(r:ydn K B φ H a xs):ydn K B φ' H' a xs:=by
 rcases r with⟨r,b,n⟩|r
 .let⟨r',n'⟩:=r.step s n;exact .inl ⟨r',b,n'⟩
 .exact .inr r
mutual
theorem yc.step(s:Step φ H φ' H'):∀(v:PV) (x:V),yc K cl B φ H v x->yc K cl B φ' H' v x
 |.non,x,h=>by erw[yc]at h ⊢;exact h
 |.bl b,x,h=>by erw[yc]at h ⊢;exact h
 |.int i,x,h=>by erw[yc]at h ⊢;exact h
 |.str y,x,h=>by erw[yc]at h ⊢;exact h
 |.tp k vs,x,h=>by
  erw[yc]at h ⊢;let⟨a,xs,e,r,l⟩:=h;exact⟨a,xs,e,r.step s,ye.step s vs xs l⟩
 |.lst vs,x,h=>by
  erw[yc]at h ⊢;let⟨a,xs,e,r,l⟩:=h;exact⟨a,xs,e,r.step s,ye.step s vs xs l⟩
 |.loc n,x,h=>by
  erw[yc]at h ⊢;let⟨h1,a,e,h2⟩:=h;exact⟨A0 h1 s.len,a,e,λb q=>h2 b (s.pre n b h1 q)⟩
 |.fnc j,x,h=>by erw[yc]at h ⊢;exact h
 |.exn c,x,h=>by
  erw[yc]at h ⊢;let⟨a,e,r,b,n⟩:=h;let⟨_,n'⟩:=(Rd.of r).step s n;exact⟨a,e,s.keep _ _ n r,b,n'⟩
 |.scr vs,x,h=>by
  erw[yc]at h ⊢;let⟨a,xs,e,r,l⟩:=h;exact⟨a,xs,e,r.step s,ye.step s vs xs l⟩
theorem ye.step(s:Step φ H φ' H'):∀(v:List PV) (x:List V),ye K cl B φ H v x->ye K cl B φ' H' v x
 |[],x,h=>by erw[ye]at h ⊢;exact h
 |v::vs,x,h=>by
  erw[ye]at h ⊢;let⟨y,ys,e,r,l⟩:=h;exact⟨y,ys,e,yc.step s v y r,ye.step s vs ys l⟩
end
theorem yp.step(s:Step φ H φ' H')(r:yp K cl B φ H ρ σ):yp K cl B φ' H' ρ σ:=⟨r.len,λi v e=>by
 let⟨x,h,q⟩:=r.get i v e;exact⟨x,h,q.step s⟩⟩
mutual
theorem yc.inn(hn:∀a,AA a∈φ->¬B a):∀(v:PV) (x:V),nL v=AC->yc K cl B φ H v x->yc K cl (λa=>B a \/ AA a∈φ) [] H v x
 |.non,x,_,h=>by erw[yc]at h ⊢;exact h
 |.bl b,x,_,h=>by erw[yc]at h ⊢;exact h
 |.int i,x,_,h=>by erw[yc]at h ⊢;exact h
 |.str y,x,_,h=>by erw[yc]at h ⊢;exact h
 |.tp k vs,x,q,h=>by
  erw[yc]at h ⊢;let⟨a,xs,e,r,l⟩:=h;refine⟨a,xs,e,?_,ye.inn hn vs xs (by simpa only[nL] using q) l⟩;rcases r with⟨r,b,n⟩|r
  .exact .inl ⟨r,λz=>z.elim b n,by simp⟩
  .exact .inr r
 |.lst vs,x,q,h=>by
  erw[yc]at h ⊢;let⟨a,xs,e,⟨r,b,n⟩,l⟩:=h;exact⟨a,xs,e,⟨r,λz=>z.elim b n,by simp⟩,ye.inn hn vs xs (by simpa only[nL] using q) l⟩
 |.loc n,x,q,h=>by simp[nL]at q
 |.fnc j,x,q,h=>by erw[yc]at h ⊢;exact h
 |.exn c,x,q,h=>by simp[nL]at q
 |.scr vs,x,q,h=>by
  erw[yc]at h ⊢;let⟨a,xs,e,r,l⟩:=h;refine⟨a,xs,e,?_,ye.inn hn vs xs (by simpa only[nL] using q) l⟩;rcases r with⟨r,b,n⟩|r
  .exact .inl ⟨r,λz=>z.elim b n,by simp⟩
  .exact .inr r
theorem ye.inn(hn:∀a,AA a∈φ->¬B a):∀(v:List PV) (x:List V),nLs v=AC->ye K cl B φ H v x->ye K cl (λa=>B a \/ AA a∈φ) [] H v x
 |[],x,_,h=>by erw[ye]at h ⊢;exact h
 |v::vs,x,q,h=>by
  erw[ye]at h ⊢;erw[nLs,AJ]at q;let⟨y,ys,e,r,l⟩:=h;exact⟨y,ys,e,yc.inn hn v y q.1 r,ye.inn hn vs ys q.2 l⟩
end
mutual
theorem yc.out{ψ:Ph}:∀(v:PV) (x:V),nL v=AC->yc K cl (λa=>B a \/ AA a∈φ) ψ H v x->yc K cl B φ H v x
 |.non,x,_,h=>by erw[yc]at h ⊢;exact h
 |.bl b,x,_,h=>by erw[yc]at h ⊢;exact h
 |.int i,x,_,h=>by erw[yc]at h ⊢;exact h
 |.str y,x,_,h=>by erw[yc]at h ⊢;exact h
 |.tp k vs,x,q,h=>by
  erw[yc]at h ⊢;let⟨a,xs,e,r,l⟩:=h;refine⟨a,xs,e,?_,ye.out vs xs (by simpa only[nL] using q) l⟩;rcases r with⟨r,b,n⟩|r
  .exact .inl ⟨r,λz=>b (.inl z),λz=>b (.inr z)⟩
  .exact .inr r
 |.lst vs,x,q,h=>by
  erw[yc]at h ⊢;let⟨a,xs,e,⟨r,b,n⟩,l⟩:=h;exact⟨a,xs,e,⟨r,λz=>b (.inl z),λz=>b (.inr z)⟩,ye.out vs xs (by simpa only[nL] using q) l⟩
 |.loc n,x,q,h=>by simp[nL]at q
 |.fnc j,x,q,h=>by erw[yc]at h ⊢;exact h
 |.exn c,x,q,h=>by simp[nL]at q
 |.scr vs,x,q,h=>by
  erw[yc]at h ⊢;let⟨a,xs,e,r,l⟩:=h;refine⟨a,xs,e,?_,ye.out vs xs (by simpa only[nL] using q) l⟩;rcases r with⟨r,b,n⟩|r
  .exact .inl ⟨r,λz=>b (.inl z),λz=>b (.inr z)⟩
  .exact .inr r
theorem ye.out{ψ:Ph}:∀(v:List PV) (x:List V),nLs v=AC->ye K cl (λa=>B a \/ AA a∈φ) ψ H v x->ye K cl B φ H v x
 |[],x,_,h=>by erw[ye]at h ⊢;exact h
 |v::vs,x,q,h=>by
  erw[ye]at h ⊢;erw[nLs,AJ]at q;let⟨y,ys,e,r,l⟩:=h;exact⟨y,ys,e,yc.out v y q.1 r,ye.out vs ys q.2 l⟩
end
theorem ye.length:∀{v:List PV} {x:List V},ye K cl B φ H v x->v.length=x.length
 |[],x,h=>by erw[ye]at h;subst h;rfl
 |v::vs,x,h=>by
  erw[ye]at h;let⟨y,ys,rfl,_,l⟩:=h;simp[ye.length l]
theorem DK.step(s:Step φ H φ' H'):∀{kvs:List (PV×PV)} {ks:List (Key×V)},DK K cl B φ H kvs ks->DK K cl B φ' H' kvs ks
 |[],ks,h=>h
 |(k,v)::r,ks,h=>by
  let⟨q,x,t,e,m,rv,l⟩:=h;exact⟨q,x,t,e,m,rv.step s,DK.step s l⟩
theorem DT.step(s:Step φ H φ' H'):∀{kvs:List (PV×PV)} {ks:List (List NK×V)},DT K cl B φ H kvs ks->DT K cl B φ' H' kvs ks
 |[],ks,h=>h
 |(k,v)::r,ks,h=>by
  let⟨q,x,t,e,m,rv,l⟩:=h;exact⟨q,x,t,e,m,rv.step s,DT.step s l⟩
theorem FS.step(s:Step φ H φ' H'):∀{kvs:List (AN×PV)} {ks:List (AN×V)},FS K cl B φ H kvs ks->FS K cl B φ' H' kvs ks
 |[],ks,h=>h
 |(k,v)::r,ks,h=>by
  let⟨x,t,e,rv,l⟩:=h;exact⟨x,t,e,rv.step s,FS.step s l⟩
theorem ybD.step(s:Step φ H φ' H'){o:Ob}{a:AG}(e:H' a=H a)(r:ybD K cl B φ H o a):ybD K cl B φ' H' o a:=by
 cases o with
 |lst vs=>
  let⟨xs,q,l⟩:=r;exact⟨xs,e.trans q,l.step s⟩
 |dct t kvs=>
  cases t with
  |false=>let⟨ks,q,l⟩:=r;exact⟨ks,e.trans q,l.step s⟩
  |true=>let⟨ks,q,l⟩:=r;exact⟨ks,e.trans q,l.step s⟩
 |dead=>exact r
 |ins c fs=>let⟨ks,⟨dx,q⟩,l⟩:=r;exact⟨ks,⟨dx,e.trans q⟩,l.step s⟩
theorem ybD.there{o:Ob}{a:AG}(r:ybD K cl B φ H o a):∃u,H a=AA u:=by
 cases o with
 |lst vs=>let⟨xs,q,l⟩:=r;exact⟨_,q⟩
 |dct t kvs=>cases t<;>(let⟨ks,q,l⟩:=r;exact⟨_,q⟩)
 |dead=>exact r.elim
 |ins c fs=>let⟨ks,⟨dx,q⟩,l⟩:=r;exact⟨_,q⟩
theorem yh.there(S:yh K cl B φ H st){a:AG}(h:AA a∈φ):∃u,H a=AA u:=by
 let⟨n,e⟩:=List.mem_iff_getElem?.mp h;let⟨o,_,r⟩:=S.obj n a e;exact r.there
theorem Step.upd{p:AG}{o:HO}(hp:H p=AB):Step φ H φ (upd H p o):=
 ⟨λb u n e=>by rw[za (zc e hp)];exact e,AR _,λ_ _ _ e=>e,λ_ h=>.inl h⟩
theorem yh.same(S:yh K cl B φ H st)(k:∀b o,H b=AA o->H' b=AA o):yh K cl B φ H' st:=by
 have s:Step φ H φ H':=⟨λb o _ e=>k b o e,AR _,λ_ _ _ e=>e,λ_ h=>.inl h⟩;refine⟨S.len,S.inj,λn a e=>?_,S.liv,S.nb,λa h=>?_,λa h xs e=>?_⟩
 .let⟨o,q,r⟩:=S.obj n a e;let⟨u,z⟩:=r.there;exact⟨o,q,r.step s ((k a u z).trans z.symm)⟩
 .let⟨o,q⟩:=S.dom a h;exact⟨o,k a o q⟩
 .let⟨o,q⟩:=S.dom a h;have z:=k a o q;rw[e]at z
  cases z
  exact S.nt a h xs q
theorem yh.upd{p:AG}{o:HO}(S:yh K cl B φ H st)(hp:H p=AB):yh K cl B φ (upd H p o) st:=S.same λb u e=>by rw[za (zc e hp)];exact e
mutual
theorem yc.moreB{B':AG->Prop}(hn:∀y,B' y->B y \/ H y=AB):∀(v:PV) (x:V),yc K cl B φ H v x->yc K cl B' φ H v x
 |.non,x,h=>by erw[yc]at h ⊢;exact h
 |.bl b,x,h=>by erw[yc]at h ⊢;exact h
 |.int i,x,h=>by erw[yc]at h ⊢;exact h
 |.str y,x,h=>by erw[yc]at h ⊢;exact h
 |.tp k vs,x,h=>by
  erw[yc]at h ⊢;let⟨y,xs,e,r,l⟩:=h;refine⟨y,xs,e,?_,ye.moreB hn vs xs l⟩;rcases r with⟨r,b,n⟩|r
  .exact .inl ⟨r,λz=>(hn y z).elim b λq=>(by rw[q]at r;cases r),n⟩
  .exact .inr r
 |.lst vs,x,h=>by
  erw[yc]at h ⊢;let⟨y,xs,e,⟨r,b,n⟩,l⟩:=h;exact⟨y,xs,e,⟨r,λz=>(hn y z).elim b λq=>(by rw[q]at r;cases r),n⟩,ye.moreB hn vs xs l⟩
 |.loc n,x,h=>by erw[yc]at h ⊢;exact h
 |.fnc j,x,h=>by erw[yc]at h ⊢;exact h
 |.exn c,x,h=>by
  erw[yc]at h ⊢;let⟨y,e,r,b,n⟩:=h;exact⟨y,e,r,λz=>(hn y z).elim b λq=>(by rw[q]at r;cases r),n⟩
 |.scr vs,x,h=>by
  erw[yc]at h ⊢;let⟨y,xs,e,r,l⟩:=h;refine⟨y,xs,e,?_,ye.moreB hn vs xs l⟩;rcases r with⟨r,b,n⟩|r
  .refine .inl ⟨r,λz=>(hn y z).elim b λq=>?_,n⟩;rcases r with r|⟨o,r⟩<;>(rw[q]at r;cases r)
  .exact .inr r
theorem ye.moreB{B':AG->Prop}(hn:∀y,B' y->B y \/ H y=AB):∀(v:List PV) (x:List V),ye K cl B φ H v x->ye K cl B' φ H v x
 |[],x,h=>by erw[ye]at h ⊢;exact h
 |v::vs,x,h=>by
  erw[ye]at h ⊢;let⟨y,ys,e,r,l⟩:=h;exact⟨y,ys,e,yc.moreB hn v y r,ye.moreB hn vs ys l⟩
end
end
end L2
namespace L2
open PySem PySem.Spec PyProof.Rows
def CXH(X:Cx)(H:Hp)(s:AH)(E:XK)(e:AF)(s':AH):Prop:=
 ∃(C a:AG) (cls a0 fl:AF) (H':Hp) (B:An),X.s₀.heap.objs.size<=C/\e=.ref a/\s'.os=s.os/\Cu s'.gens /\
  (B.StaysIn s'.heap/\B.get? a=AB/\s'.heap.FunFrames B X.stack/\s'.heap.TracedAtW B a cls a0 fl)/\HOk X.prog X.w H' s'.heap/\Un (frs X.stack) [C] H H' s.heap s'.heap /\
  (∀b o,s.heap.get? b=AA o->H b=AB->b∉frs X.stack->b≠C->B.get? b=AA o)/\(∀b u,H' b=AA u->∃o,B.get? b=AA o)/\(∀b o,s.heap.get? b=AA o->b∉frs X.stack->b≠C->∃o',B.get? b=AA o')/\E cls AB H'
theorem CXH.mono{X:Cx}{H:Hp}{s:AH}{E E':XK}{e:AF}{s':AH}(h:CXH X H s E e s')(n:∀cls H',E cls AB H'->E' cls AB H'):CXH X H s E' e s':=by
 let⟨C,a,cls,a0,fl,H',B,r1,r2,r3,r4,r5,r6,r7,r8,r9,r10,r11⟩:=h;exact⟨C,a,cls,a0,fl,H',B,r1,r2,r3,r4,r5,r6,r7,r8,r9,r10,n _ _ r11⟩
section
variable {M:GM}{A:A8}{E:AF->AH->Prop}{s:AH}
def zb3{base:An}{env:Env}{outer:List Env}{L e:AG}{cls a0 fl:AF}{Q:Unit->AH->Prop}
  (hfr:A.frames=AA (env::outer)) (hf:env.frame=AA L) (f1:base.StaysIn s.heap) (f2:base.get? e=AB) (f3:s.heap.FunFrames base (env::outer)) (f4:s.heap.TracedAtW base e cls a0 fl)
  (hQ:∀h',EZ base outer e cls a0 h'->s.heap.UpToSlots h'->Q () {s with heap:=h'}):A2 M A («leaving» env (.ref e)) Q E s:=by
 by_cases hfl:fl=rawInt L
 .subst hfl;unfold «leaving»;refine AI (wpAny_noteFrame_againW hf f4 ?_);refine wpAny_landsW ⟨f1,f2,f3,f4⟩ λh' hfl up=>?_;let⟨k1,k2,⟨_,_,k3⟩,k4⟩:=hfl;exact hQ h' ⟨k1,k2,k3,k4⟩ up
 .let⟨oe,vs,T,oT,ts,he,⟨hcls,h0⟩,hd,h1,hnT,hTe,hT,hdT,h3⟩:=f4;subst hcls;unfold «leaving» noteFrame;erw[hf];refine AI (AI (CN he hd h1 ?_));rw[if_pos (show (Au T != By)=AC from by simp)];refine AI (CN hT hdT h3 ?_);rw[if_neg (show ¬((fl==rawInt L)=AC)from λz=>hfl (eq_of_beq z))];refine AI (El hT hdT (Db.mp h3).1 ?_);have other:∀b,b≠T->(s.heap.update T (Obj.mapFields (·.setIfInBounds 3 By))).get? b=s.heap.get? b:=λb hb=>Cz _ _ (Bu hb);have noRecord:∀b o,s.heap.get? b=AA o->(∀vs,o.data ≠ .fields vs)->b≠T:=λb o hb hnf q=>by
   rw[q,hT]at hb;injection hb with hb;subst hb;exact hnf ts hdT
  refine wpAny_newEntryW hfr (f3.of_keeps λb o hb hnf=>⟨o,(other b (noRecord b o hb hnf)).trans hb,rfl⟩) hf ((other e (Bu hTe)).trans he)
   (λb o hbo=>(other b λq=>by rw[q,hnT]at hbo;cases hbo).trans (f1 b o hbo)) f2 hd (Db.mp h1).1 h0
   λh' ⟨x1,⟨_,_,x2⟩,x3,x4⟩=>hQ h' ⟨x1,f2,x2,x3⟩ λb o hb hnf=>x4 b o ((other b (noRecord b o hb hnf)).trans hb) hnf
end
section
variable {P:A3}{w:Aa}{K:AD}{mg:AN->Option AF}{base:An}{N:List AN}{qual:AN}{scope:Ao}{f:AG}{cd:AF}{A:A8}{outer:List Env}{s₀:AH}{H₀:Hp}{E:XK}
def zlk{π:List (AG×BR)}{σ:St}{H:Hp}{s:AH}{e:AF}{s':AH}(I:Inv (yaq (CX1 P w) P w K mg base N qual scope f cd A outer s₀ H₀ E) π σ H s)(h:CXH (yaq (CX1 P w) P w K mg base N qual scope f cd A outer s₀ H₀ E) H s E e s'):
  (yaq (CX1 P w) P w K mg base N qual scope f cd A outer s₀ H₀ E).xe e s':=by
 let⟨C,a,cls,a0,fl,H',B,hC,rfl,os,bare,⟨f1,f2,f3,f4⟩,hok,un,hB,tr,hT,hE⟩:=h;have bse:Un (frs outer) [] H₀ H s₀.heap s.heap:=I.base;have lt:∀b o,s₀.heap.get? b=AA o->b≠s₀.heap.objs.size:=λb o q=>Af (AX q);have neC:∀b o,s₀.heap.get? b=AA o->b≠C:=λb o q=>Af (A0 (AX q) hC);have niC:∀b o,s₀.heap.get? b=AA o->b∉[C]:=λb o q z=>neC b o q (by simpa using z);have hst:∀b,b∈frs (envOfC qual scope s₀.heap.objs.size f cd::outer)->b=s₀.heap.objs.size \/ b∈frs outer:=λb hb=>by
  have hb':b∈s₀.heap.objs.size::frs outer:=hb;exact A6.mp hb'
 have un':Un (frs (envOfC qual scope s₀.heap.objs.size f cd::outer)) [C] H H' s.heap s'.heap:=un;have kB:∀b o,s₀.heap.get? b=AA o->H₀ b=AB->b∉frs outer->B.get? b=AA o:=λb o q n hb=>hB b o (bse.keep b o q n hb (by simp)) (bse.free b o q n (by simp)) (λz=>by
  rcases hst b z with z|z
  .exact lt b o q z
  .exact hb z) (neC b o q)
 have kT:∀b o,s₀.heap.get? b=AA o->b∉frs outer->∃o',B.get? b=AA o':=λb o q hb=>by
  let⟨o',q1⟩:=bse.there b o q (by simp);refine hT b o' q1 (λz=>?_) (neC b o q);rcases hst b z with z|z
  .exact lt b o q z
  .exact hb z
 refine zb3 I.ok.frames rfl f1 f2 f3 f4 λh'' fl' up=>?_;refine⟨a,cls,a0,H',B,rfl,os.trans I.os,bare,fl',HOk.inB hok f1 fl'.1 tr,⟨λb o q n hb _=>fl'.1 b o (kB b o q n hb),λb o q n hb _=>?_,λb o q n _=>?_,λb o q _=>?_,λb xs q=>un'.tups b xs (bse.tups b xs q),λb o u q=>un'.frzs b o u (bse.frzs b o u q),λb ps q=>?_⟩,kB,tr,kT,hE⟩
 .let⟨sl,q1⟩:=bse.slot b o q n hb (by simp);have n1:=bse.free b o q n (by simp);let⟨sl1,q2⟩:=un'.slot b _ q1 n1 (AL _ hb) (niC b o q);let⟨_,o',ho',hd⟩:=BI f3 (show b∈DC (λ(z:Env)=>z.frame) _ from AL _ hb);let⟨sl',q3⟩:=up b _ q2 (by rw[ho']at q2;cases q2;exact hd);exact⟨sl',q3⟩
 .let⟨o',q1⟩:=bse.there b o q (by simp);exact un'.free b o' q1 (bse.free b o q n (by simp)) (niC b o q)
 .let⟨o',q1⟩:=bse.there b o q (by simp);let⟨o2,q2⟩:=un'.there b o' q1 (niC b o q)
  by_cases hb:b∈frs outer
  .let⟨_,o3,ho3,hd⟩:=BI f3 (show b∈DC (λ(z:Env)=>z.frame) _ from AL _ hb);let⟨sl',q3⟩:=up b _ ho3 hd;exact⟨_,q3⟩
  .let⟨o4,q4⟩:=kT b o q hb;exact⟨o4,fl'.1 b o4 q4⟩
 .let⟨m1,e1⟩:=bse.tbls b ps q;let⟨m2,e2⟩:=un'.tbls b _ e1;exact⟨m1++m2,by rw[e2,D1]⟩
end
section
variable {pg:A3}{wd:Aa}{A:A8}{R:D6->AH->Prop}{s:AH}
end
section
variable {X:Cx}{sc:Ao}{NC:List AN}{slots:List (Option Nat)}{elt tg iter:AM}{ifs:List AM}{pos:Bc}{g:TG}{ti:TT}{te:CI->TE}{E:XK}
end
end L2
namespace L2
open PySem PySem.Spec PyProof.Rows IC
structure Se where
 cl:Nat->AG
 call:Nat->List PV->SO->R PV
 may:Bool
section
variable (S:Se)(X:Cx)
def ExcAt(σ:St)(B:AG->Prop)(φ:Ph)(H:Hp)(k:Nat)(st':SO)(e:AF)(s':AH):Prop:=
 (∃π H1 s φ1,Inv X π σ H1 s/\Step φ H φ1 H1/\CX1 X.prog X.w X.stack H1 s (λcls _ H'=>cls=.ref (S.cl k)/\∃φ',Step φ1 H1 φ' H'/\yh X.K S.cl B φ' H' st') e s') \/
 (S.may=AC/\∃π H1 s φ1 h' e0 vs,Inv X π σ H1 s/\Step φ H φ1 H1/\yh X.K S.cl B φ1 H1 st'/\GS s.heap h' e0 (.ref (S.cl k)) vs/\e=.ref e0/\s'={s with heap:=h'}) \/
 (S.may=AC/\∃π H1 s,Inv X π σ H1 s/\CXH X H1 s (λcls _ H'=>cls=.ref (S.cl k)/\∃φ',Step φ H φ' H'/\yh X.K S.cl B φ' H' st') e s')
def Run{α β:Type}(σ:St)(B:AG->Prop)(φ:Ph)(H:Hp)(Rel:Ph->Hp->α->β->Prop)(r:R α)(Q:β->Hp->Prop):Prop:=
 match r with
 |.ok v st'=>∀x H' φ',Step φ H φ' H'->yh X.K S.cl B φ' H' st'->Rel φ' H' v x->Q x H'
 |.exc k st'=>∀e s',ExcAt S X σ B φ H k st' e s'->X.xe e s'
 |.bad=>False
abbrev RV(B:AG->Prop):Ph->Hp->PV->V->Prop:=λφ H=>yc X.K S.cl B φ H
abbrev RL(B:AG->Prop):Ph->Hp->List PV->List V->Prop:=λφ H=>ye X.K S.cl B φ H
abbrev RB:Ph->Hp->Bool->Bool->Prop:=λ_ _ b c=>b=c
def tE(c:Ce):TE:=λσ H Q=>∃B φ st ρ,yh X.K S.cl B φ H st/\yp X.K S.cl B φ H ρ σ/\Run S X σ B φ H (RV S X B) (ev S.call ρ st c) Q
def tAs(c:Ces):TA:=λσ H Q=>∃B φ st ρ,yh X.K S.cl B φ H st/\yp X.K S.cl B φ H ρ σ/\Run S X σ B φ H (RL S X B) (evs S.call ρ st c) Q
def yaz(r:R PV):R Bool:=r.bind λx st=>onO (yar st x) λb=>.ok b st
def tTs(c:Ce):TT:=λσ H Q=>∃B φ st ρ,yh X.K S.cl B φ H st/\yp X.K S.cl B φ H ρ σ/\Run S X σ B φ H RB (yaz (ev S.call ρ st c)) Q
end
section
variable {S:Se}{X:Cx}{σ:St}{B:AG->Prop}{φ φ1:Ph}{H H1:Hp}
theorem ExcAt.back{k:Nat}{st':SO}{e:AF}{s':AH}(s:Step φ H φ1 H1)(h:ExcAt S X σ B φ1 H1 k st' e s'):ExcAt S X σ B φ H k st' e s':=by
 rcases h with⟨π,H2,t,φ2,I,q,c⟩|⟨m,π,H2,t,φ2,h',e0,vs,I,q,c⟩|⟨m,π,H2,t,I,c⟩
 .exact .inl ⟨π,H2,t,φ2,I,s.trans q,c⟩
 .exact .inr (.inl ⟨m,π,H2,t,φ2,h',e0,vs,I,s.trans q,c⟩)
 .exact .inr (.inr ⟨m,π,H2,t,I,c.mono λcls H' ⟨e1,φ',s2,r⟩=>⟨e1,φ',s.trans s2,r⟩⟩)
variable {α β γ δ:Type}{Rel:Ph->Hp->α->β->Prop}{Gh:Ph->Hp->γ->δ->Prop}
theorem Run.on{r:R α}{Q:β->Hp->Prop}(s:Step φ H φ1 H1)(h:Run S X σ B φ H Rel r Q):Run S X σ B φ1 H1 Rel r Q:=by
 cases r with
 |ok v st'=>exact λx H' φ' t=>h x H' φ' (s.trans t)
 |exc k st'=>exact λe s' x=>h e s' (x.back s)
 |bad=>exact h
theorem Run.mono{r:R α}{Q Q':β->Hp->Prop}(h:Run S X σ B φ H Rel r Q)(k:∀x H',Q x H'->Q' x H'):Run S X σ B φ H Rel r Q':=by
 cases r with
 |ok v st'=>exact λx H' φ' t rs rv=>k x H' (h x H' φ' t rs rv)
 |exc c st'=>exact h
 |bad=>exact h
theorem Run.bind{r:R α}{k:α->SO->R γ}{Q:δ->Hp->Prop}(h:Run S X σ B φ H Gh (r.bind k) Q):
  Run S X σ B φ H Rel r λx H1=>∃v st1 φ1,Step φ H φ1 H1/\yh X.K S.cl B φ1 H1 st1/\Rel φ1 H1 v x/\Run S X σ B φ1 H1 Gh (k v st1) Q:=by
 cases r with
 |ok v st'=>exact λx H' φ' t rs rv=>⟨v,st',φ',t,rs,rv,Run.on t h⟩
 |exc c st'=>exact h
 |bad=>exact h
theorem Run.ok{v:α}{st:SO}{Q:β->Hp->Prop}(h:Run S X σ B φ H Rel (.ok v st) Q)(rs:yh X.K S.cl B φ H st){x:β}(rv:Rel φ H v x):Q x H:=h x H φ .rfl rs rv
theorem PE.imp{e:AM}{t t':TE}(h:PE X e t')(k:∀σ H Q,t σ H Q->t' σ H Q):PE X e t:=λπ s σ H Q I q=>h π s σ H Q I (k σ H Q q)
theorem PT.imp{e:AM}{t t':TT}(h:PT X e t')(k:∀σ H Q,t σ H Q->t' σ H Q):PT X e t:=λπ s σ H Q I q=>h π s σ H Q I (k σ H Q q)
theorem PW.imp{e:AM}{t t':TT}(h:PW X e t')(k:∀σ H Q,t σ H Q->t' σ H Q):PW X e t:=λwh π s σ H Q I q=>h wh π s σ H Q I (k σ H Q q)
theorem PA.imp{e:List AM}{t t':TA}(h:PA X e t')(k:∀σ H Q,t σ H Q->t' σ H Q):PA X e t:=λpos π s σ H Q I q=>h pos π s σ H Q I (k σ H Q q)
theorem tE.bind{c:Ce}{ρ:IC.Env}{st:SO}{k:PV->SO->R γ}{Q:δ->Hp->Prop}{P:V->Hp->Prop}(rs:yh X.K S.cl B φ H st)(re:yp X.K S.cl B φ H ρ σ)(h:Run S X σ B φ H Gh ((ev S.call ρ st c).bind k) Q)
  (n:∀x H1 v st1 φ1,Step φ H φ1 H1->yh X.K S.cl B φ1 H1 st1->yp X.K S.cl B φ1 H1 ρ σ->yc X.K S.cl B φ1 H1 v x->Run S X σ B φ1 H1 Gh (k v st1) Q->P x H1):tE S X c σ H P:=
 ⟨B,φ,st,ρ,rs,re,(Run.bind h).mono λx H1 ⟨v,st1,φ1,s,rs1,rv,h1⟩=>n x H1 v st1 φ1 s rs1 (re.step s) rv h1⟩
theorem tAs.bind{c:Ces}{ρ:IC.Env}{st:SO}{k:List PV->SO->R γ}{Q:δ->Hp->Prop}{P:List V->Hp->Prop}(rs:yh X.K S.cl B φ H st)(re:yp X.K S.cl B φ H ρ σ)(h:Run S X σ B φ H Gh ((evs S.call ρ st c).bind k) Q)
  (n:∀x H1 v st1 φ1,Step φ H φ1 H1->yh X.K S.cl B φ1 H1 st1->yp X.K S.cl B φ1 H1 ρ σ->ye X.K S.cl B φ1 H1 v x->Run S X σ B φ1 H1 Gh (k v st1) Q->P x H1):tAs S X c σ H P:=
 ⟨B,φ,st,ρ,rs,re,(Run.bind h).mono λx H1 ⟨v,st1,φ1,s,rs1,rv,h1⟩=>n x H1 v st1 φ1 s rs1 (re.step s) rv h1⟩
variable {i:Int}{b:Bool}{x:AN}{j:Nat}{pos:Bc}{e a a':AM}{c ca cb cc:Ce}
def zjA:PE X (.Constant (.int i) j pos) (tE S X (.cst (.int i))):=zk7.imp λσ H Q ⟨B,φ,st,ρ,rs,re,h⟩=>by
 erw[ev]at h;exact h.ok rs (by erw[yc])
def zkM:PE X (.Constant (.bool b) j pos) (tE S X (.cst (.bl b))):=zk8.imp λσ H Q ⟨B,φ,st,ρ,rs,re,h⟩=>by
 erw[ev]at h;exact h.ok rs (by erw[yc])
def zjI:PE X (.Constant .none j pos) (tE S X (.cst .non)):=zk9.imp λσ H Q ⟨B,φ,st,ρ,rs,re,h⟩=>by
 erw[ev]at h;exact h.ok rs (by erw[yc])
def zi2:PE X (.Constant (.str x) j pos) (tE S X (.cst (.str x))):=zk0.imp λσ H Q ⟨B,φ,st,ρ,rs,re,h⟩=>by
 erw[ev]at h;exact h.ok rs (by erw[yc])
def zka{i:Nat}(hN:X.N[i]?=AA x)(hv:Vis X.env.scope x)(hd:(x==("__debug__":AN))=false:=by decide)(hcd:(x==("__classdict__":AN))=false:=by decide):PE X (.Name x pos) (tE S X (.var i)):=
 (zgp hN hv hd hcd).imp λσ H Q ⟨B,φ,st,ρ,rs,re,h⟩=>by
  erw[ev]at h
  cases q:ρ[i]? with
  |none=>rw[q]at h;exact h.elim
  |some o=>
   cases o with
   |none=>rw[q]at h;exact h.elim
   |some v=>
    rw[q]at h;let⟨y,hy,rv⟩:=re.get i v q;exact⟨y,hy,h.ok rs rv⟩
def ze8{v:PV}{y:AG}(hg:Gl X x)(hm:X.mg x=AA (.ref y))(hk:∀B φ H,yc X.K S.cl B φ H v (.ref y))(hd:(x==("__debug__":AN))=false:=by decide):PE X (.Name x pos) (tE S X (.cst v)):=
 (zbb hg hm (show RelV (.ref y) (.ref y)from rfl) hd).imp λσ H Q ⟨B,φ,st,ρ,rs,re,h⟩=>by
  erw[ev]at h;exact h.ok rs (hk B φ H)
def zu{o:Option PV}{st:SO}{Q:VK}(h:Run S X σ B φ H (RV S X B) (toR o st) Q)(rs:yh X.K S.cl B φ H st):∃z,o=AA z/\∀z' H' φ',Step φ H φ' H'->yh X.K S.cl B φ' H' st->yc X.K S.cl B φ' H' z z'->Q z' H':=by
 cases o with
 |none=>exact h.elim
 |some z=>exact⟨z,rfl,h⟩
def rT2(S:Se)(X:Cx)(f:PV->PV->Option PV):R2:=λx y H Q=>∃B φ st v w z,yh X.K S.cl B φ H st/\yc X.K S.cl B φ H v x/\yc X.K S.cl B φ H w y/\f v w=AA z /\
 ∀z' H' φ',Step φ H φ' H'->yh X.K S.cl B φ' H' st->yc X.K S.cl B φ' H' z z'->Q z' H'
def zjB{op:EC}{o:BOp}(ho:OpR X (binaryOp op) (rT2 S X (yx o)))(ha:PE X a (tE S X ca))(hb:PE X a' (tE S X cb)):PE X (.BinOp a op a' pos) (tE S X (.bin o ca cb)):=
 (ziH ho ha hb).imp λσ H Q ⟨B,φ,st,ρ,rs,re,h⟩=>by
  erw[ev]at h;refine tE.bind rs re h λx H1 v st1 φ1 s1 rs1 re1 rv h1=>tE.bind rs1 re1 h1 λy H2 w st2 φ2 s2 rs2 re2 rw h2=>?_;let⟨z,e,q⟩:=zu h2 rs2;exact⟨B,φ2,st2,v,w,z,rs2,rv.step s2,rw,e,q⟩
def zkb{op:Gr}{o:COp}(ho:OpR X (compareOp op) (rT2 S X (yI o)))(ha:PE X a (tE S X ca))(hb:PE X a' (tE S X cb))(hm:behindInMarks op a'=AE):PE X (.Compare a [op] [a'] pos) (tE S X (.cmp o ca cb)):=
 (zer ho ha hb hm).imp λσ H Q ⟨B,φ,st,ρ,rs,re,h⟩=>by
  erw[ev]at h;refine tE.bind rs re h λx H1 v st1 φ1 s1 rs1 re1 rv h1=>tE.bind rs1 re1 h1 λy H2 w st2 φ2 s2 rs2 re2 rw h2=>?_;let⟨z,e,q⟩:=zu h2 rs2;exact⟨B,φ2,st2,v,w,z,rs2,rv.step s2,rw,e,q⟩
end
section
variable {S:Se}{X:Cx}{σ:St}{B:AG->Prop}{φ φ1:Ph}{H H1:Hp}{K:AD}{cl:Nat->AG}{st:SO}
theorem ybs.sq{k:Bool}{a:AG}{xs:List V}(r:ybs K B φ H k a xs):SqT K H a xs:=by
 rcases r with⟨r,_⟩|r
 .exact .inl (.inl r)
 .exact .inr r.2
theorem ybE.sq{a:AG}{xs:List V}(r:ybE B φ H a xs):SqL K H a xs:=.inl (.inl r.1)
theorem yc.tup_new{vs:List PV}{xs:List V}{p:AG}(hp:H p=AB)(rs:yh K cl B φ H st)(r:ye K cl B φ H vs xs):yc K cl B φ (upd H p (.tup xs)) (.tup vs) (.ref p):=by
 erw[yc];refine⟨p,xs,rfl,.inl ⟨zd,λz=>?_,λz=>?_⟩,r.step (.upd hp)⟩
 .let⟨o,e⟩:=rs.dom p z;rw[hp]at e;cases e
 .let⟨o,e⟩:=rs.there z;rw[hp]at e;cases e
theorem yc.lst_new{vs:List PV}{xs:List V}{p:AG}(hp:H p=AB)(rs:yh K cl B φ H st)(r:ye K cl B φ H vs xs):yc K cl B φ (upd H p (.lst xs)) (.lst vs) (.ref p):=by
 erw[yc];refine⟨p,xs,rfl,⟨zd,λz=>?_,λz=>?_⟩,r.step (.upd hp)⟩
 .let⟨o,e⟩:=rs.dom p z;rw[hp]at e;cases e
 .let⟨o,e⟩:=rs.there z;rw[hp]at e;cases e
theorem ye.append:∀{vs ws:List PV} {xs ys:List V},ye K cl B φ H vs xs->ye K cl B φ H ws ys->ye K cl B φ H (vs++ws) (xs++ys)
 |[],ws,xs,ys,h,q=>by erw[ye]at h;subst h;exact q
 |v::vs,ws,xs,ys,h,q=>by
  erw[ye]at h;let⟨y,zs,rfl,r,l⟩:=h;show ye K cl B φ H (v::(vs++ws)) (y::(zs++ys));erw[ye];exact⟨y,zs++ys,rfl,r,ye.append l q⟩
theorem ye.get:∀{vs:List PV} {xs:List V} (j:Nat) {v:PV},ye K cl B φ H vs xs->vs[j]?=AA v->∃x,xs[j]?=AA x/\yc K cl B φ H v x
 |[],xs,j,v,h,e=>by simp at e
 |w::vs,xs,0,v,h,e=>by
  erw[ye]at h;let⟨y,zs,rfl,r,l⟩:=h;simp at e;subst e;exact⟨y,rfl,r⟩
 |w::vs,xs,j+1,v,h,e=>by
  erw[ye]at h;let⟨y,zs,rfl,r,l⟩:=h;let⟨x,q1,q2⟩:=ye.get j l (by simpa using e);exact⟨x,by simpa using q1,q2⟩
theorem ye.drop:∀{vs:List PV} {xs:List V} (n:Nat),ye K cl B φ H vs xs->ye K cl B φ H (vs.drop n) (xs.drop n)
 |vs,xs,0,h=>by simpa using h
 |[],xs,n+1,h=>by erw[ye]at h;subst h;simp[ye]
 |v::vs,xs,n+1,h=>by
  erw[ye]at h;let⟨y,ys,rfl,_,l⟩:=h;simpa using ye.drop n l
theorem ye.take:∀{vs:List PV} {xs:List V} (n:Nat),ye K cl B φ H vs xs->ye K cl B φ H (vs.take n) (xs.take n)
 |vs,xs,0,h=>by simp[ye]
 |[],xs,n+1,h=>by erw[ye]at h;subst h;simp[ye]
 |v::vs,xs,n+1,h=>by
  erw[ye]at h;let⟨y,ys,rfl,r,l⟩:=h;erw[List.take_succ_cons,ye];exact⟨y,ys.take n,rfl,r,ye.take n l⟩
def zai{f:AF->AF->Fi AF}{o:BOp}{C:Int->Int->Prop}{g:Int->Int->Int}(h:OpR X f (rI C λi j=>.int (g i j)))
  (hb:∀v w z,yx o v w=AA z->∃i j,v=.int i/\w=.int j/\C i j/\z=.int (g i j)):OpR X f (rT2 S X (yx o)):=by
 rintro π s σ H x y v u Q I rx ry ⟨B,φ,st,a,b,z,rs,ra,rb,e,q⟩
 let⟨i,j,rfl,rfl,hc,rfl⟩:=hb a b z e;erw[yc]at ra rb;subst ra rb;exact h π s σ H _ _ v u Q I rx ry ⟨i,j,rfl,rfl,hc,q _ H φ .rfl rs (by erw[yc])⟩
def zas{f:AF->AF->Fi AF}{o:BOp}{g:Int->Int->Int}(h:OpR X f (rI0 λi j=>.int (g i j)))
  (hb:∀v w z,yx o v w=AA z->∃i j,v=.int i/\w=.int j/\z=.int (g i j)):OpR X f (rT2 S X (yx o)):=by
 rintro π s σ H x y v u Q I rx ry ⟨B,φ,st,a,b,z,rs,ra,rb,e,q⟩
 let⟨i,j,rfl,rfl,rfl⟩:=hb a b z e;erw[yc]at ra rb;subst ra rb;exact h π s σ H _ _ v u Q I rx ry ⟨i,j,rfl,rfl,q _ H φ .rfl rs (by erw[yc])⟩
def zhM(v w z:PV)(h:yx .sub v w=AA z):∃i j,v=.int i/\w=.int j/\z=.int (i-j):=by
 unfold yx at h;split at h<;>first|(cases h;done)|skip
 exact⟨_,_,rfl,rfl,(AU h).symm⟩
def zig(v w z:PV)(h:yx .mul v w=AA z):∃i j,v=.int i/\w=.int j/\ycR i j/\z=.int (i*j):=by
 unfold yx at h;split at h<;>first|(cases h;done)|skip
 rename_i i j;erw[IC.binI]at h;split at h
 .rename_i c;refine⟨i,j,rfl,rfl,?_,(AU h).symm⟩;erw[yay,CS,decide_eq_true_eq]at c;unfold ycR;rcases c with c|c
  .left;constructor<;>lia
  .right;constructor<;>lia
 .cases h
def zfu(v w z:PV)(h:yx .fdiv v w=AA z):∃i j,v=.int i/\w=.int j/\ydd i j/\z=.int (i/j):=by
 unfold yx at h;split at h<;>first|(cases h;done)|skip
 rename_i i j;erw[IC.binI]at h;split at h
 .rename_i c;exact⟨i,j,rfl,rfl,c,(AU h).symm⟩
 .cases h
def zhk(v w z:PV)(h:yx .mod v w=AA z):∃i j,v=.int i/\w=.int j/\0<j/\z=.int (i%j):=by
 unfold yx at h;split at h<;>first|(cases h;done)|skip
 rename_i i j;erw[IC.binI]at h;split at h
 .rename_i c;exact⟨i,j,rfl,rfl,c,(AU h).symm⟩
 .cases h
def zhm(v w z:PV)(h:yx .pow v w=AA z):∃i j,v=.int i/\w=.int j/\yey i j/\z=.int (i^j.toNat):=by
 unfold yx at h;split at h<;>first|(cases h;done)|skip
 rename_i i j;erw[IC.binI]at h;split at h
 .rename_i c;exact⟨i,j,rfl,rfl,⟨c.1,c.2.1,by have:=c.2.2;lia⟩,(AU h).symm⟩
 .cases h
def zij(v w z:PV)(h:yx .shl v w=AA z):∃i j,v=.int i/\w=.int j/\yeE i j/\z=.int (i*2^j.toNat):=by
 unfold yx at h;split at h<;>first|(cases h;done)|skip
 rename_i i j;erw[IC.binI]at h;split at h
 .rename_i c;exact⟨i,j,rfl,rfl,⟨c.1,c.2.1,by have:=c.2.2;lia⟩,(AU h).symm⟩
 .cases h
def zhV(v w z:PV)(h:yx .shr v w=AA z):∃i j,v=.int i/\w=.int j/\0<=j/\z=.int (i/2^j.toNat):=by
 unfold yx at h;split at h<;>first|(cases h;done)|skip
 rename_i i j;erw[IC.binI]at h;split at h
 .rename_i c;exact⟨i,j,rfl,rfl,c,(AU h).symm⟩
 .cases h
def zfC(v w z:PV)(h:yx .band v w=AA z):∃i j,v=.int i/\w=.int j/\z=.int (Eh i j):=by
 unfold yx at h;split at h<;>first|(cases h;done)|skip
 exact⟨_,_,rfl,rfl,(AU h).symm⟩
def zhT(v w z:PV)(h:yx .bor v w=AA z):∃i j,v=.int i/\w=.int j/\z=.int (FI i j):=by
 unfold yx at h;split at h<;>first|(cases h;done)|skip
 exact⟨_,_,rfl,rfl,(AU h).symm⟩
def zfU(v w z:PV)(h:yx .bxor v w=AA z):∃i j,v=.int i/\w=.int j/\z=.int (Ei i j):=by
 unfold yx at h;split at h<;>first|(cases h;done)|skip
 exact⟨_,_,rfl,rfl,(AU h).symm⟩
def ziw:OpR X (binaryOp .Sub) (rT2 S X (yx .sub)):=zas ziO zhM
def zkd:OpR X (binaryOp .Mult) (rT2 S X (yx .mul)):=zai zjW zig
def zhA:OpR X (binaryOp .FloorDiv) (rT2 S X (yx .fdiv)):=zai zfj zfu
def zj7:OpR X (binaryOp .Mod) (rT2 S X (yx .mod)):=zai zj3 zhk
def ziT:OpR X (binaryOp .Pow) (rT2 S X (yx .pow)):=zai zi8 zhm
def zjf:OpR X (binaryOp .LShift) (rT2 S X (yx .shl)):=zai zhc zij
def zil:OpR X (binaryOp .RShift) (rT2 S X (yx .shr)):=zai zjd zhV
def zh5:OpR X (binaryOp .BitAnd) (rT2 S X (yx .band)):=zas ziG zfC
def zi9:OpR X (binaryOp .BitOr) (rT2 S X (yx .bor)):=zas zkr zhT
def zhR:OpR X (binaryOp .BitXor) (rT2 S X (yx .bxor)):=zas zi1 zfU
def zh:sizeMax=sizeLine:=by rw[BG];rfl
def zg0:OpR X (binaryOp .Add) (λx y H Q=>∃a b ys,x=.ref a/\y=.ref b/\SqT X.K H a []/\SqT X.K H b ys/\Q (.ref b) H):=by
 intro π s σ H x y v u Q I rx ry h;let⟨a,b,ys,rfl,rfl,ha,hb,q⟩:=h
 cases rx
 cases ry
 let⟨its,r1,p1,_⟩:=I.tuple ha;let⟨its2,r2,p2,_⟩:=I.tuple hb;have:its=[]:=r1.nil_iff.mpr rfl;subst this;let⟨⟨cls,dd,data,sl⟩,ho,hc,n,hd⟩:=id p1;let⟨⟨cls2,dd2,data2,sl2⟩,ho2,hc2,n2,hd2⟩:=id p2;simp only at hc hd hc2 hd2;subst hc hd hc2 hd2;exact F4 ⟨_,ho,rfl⟩ ⟨_,ho2,rfl⟩ EF FJ Cy Co (Cc _ _)
   (tuple_addW0 a b [].toArray its2.toArray n n2 dd dd2 sl sl2 (by simp)) ⟨ho,ho2,⟨.ref b,H,I,rfl,q⟩⟩
def zjO:OpR X (binaryOp .Add) (rT2 S X (yx .add)):=by
 rintro π s σ H x y v u Q I rx ry ⟨B,φ,st,a,b,z,rs,ra,rb,e,q⟩
 unfold yx at e;split at e
 .rename_i i j;erw[yc]at ra rb;subst ra rb
  cases e
  exact zj1 π s σ H _ _ v u Q I rx ry ⟨i,j,rfl,rfl,q _ H φ .rfl rs (by erw[yc])⟩
 .rename_i i k;erw[yc]at ra rb;subst ra rb
  cases e
  exact zdJ π s σ H _ _ v u Q I rx ry ⟨i,k,rfl,rfl,q _ H φ .rfl rs (by erw[yc];cases k<;>rfl)⟩
 .rename_i i j;erw[yc]at ra rb;subst ra rb;dsimp only at e;split at e
  .rename_i c
   cases e
   exact zdk π s σ H _ _ v u Q I rx ry ⟨i,j,rfl,rfl,by rw[<-zh];exact c,q _ H φ .rfl rs (by erw[yc])⟩
  .cases e
 .rename_i k1 vs k2 ws;erw[yc]at ra rb;let⟨p,xs,rfl,r1,l1⟩:=ra;let⟨p',ys,rfl,r2,l2⟩:=rb;dsimp only at e;split at e
  .rename_i c
   cases e
   have n1:=l1.length;have n2:=l2.length;unfold ydW at q
   cases vs with
   |nil=>
    have:xs=[]:=by cases xs with|nil=>rfl|cons _ _=>simp at n1
    subst this;refine zg0 π s σ H _ _ v u Q I rx ry ⟨p,p',ys,rfl,rfl,r1.sq,r2.sq,q _ H φ .rfl rs ?_⟩;erw[Fu,if_true,yc];exact⟨p',ys,rfl,r2,l2⟩
   |cons v1 vr=>
    erw[Fd,Cm,if_false]at q;refine zhn π s σ H _ _ v u Q I rx ry ⟨p,p',xs,ys,rfl,rfl,r1.sq,r2.sq,?_,by rw[<-zh];lia,λz=>?_,λz t ht=>?_⟩
    .rintro rfl
     simp at n1
    .subst z;have:ws=[]:=by cases ws with|nil=>rfl|cons _ _=>simp at n2
     subst this;erw[Fu,if_true]at q;refine q _ H φ .rfl rs ?_;erw[yc];exact⟨p,xs,rfl,r1,l1⟩
    .cases ws with
     |nil=>exact absurd (List.length_eq_zero_iff.mp n2.symm) z
     |cons w1 wr=>
      erw[Fd,Cm,if_false]at q;exact q _ _ φ (.upd ht) (rs.upd ht) (.tup_new ht rs (l1.append l2))
  .cases e
 .rename_i vs ws;erw[yc]at ra rb;let⟨p,xs,rfl,r1,l1⟩:=ra;let⟨p',ys,rfl,r2,l2⟩:=rb;dsimp only at e;split at e
  .rename_i c
   cases e
   have n1:=l1.length;have n2:=l2.length;exact ziZ π s σ H _ _ v u Q I rx ry ⟨p,p',xs,ys,rfl,rfl,r1.1,r2.1,by rw[<-zh];lia,λt ht=>q _ _ φ (.upd ht) (rs.upd ht) (.lst_new ht rs (l1.append l2))⟩
  .cases e
 .cases e
end
mutual
noncomputable def toD:PV->GI
 |.non=>.none
 |.bl b=>.bool b
 |.int i=>.int i
 |.str x=>.str x
 |.tp _ xs=>.tuple (ybn xs)
 |.lst xs=>.list (ybn xs)
 |_=>.none
noncomputable def ybn:List PV->List GI
 |[]=>[]
 |x::xs=>toD x::ybn xs
end
mutual
theorem zbh:∀(v:PV) (n:Nat),shd n v=AC->(toD v).canLay0=AC/\(toD v).depth<=n
 |.non,n,h=>by simp[toD,B9,BS]
 |.bl b,n,h=>by simp[toD,B9,BS]
 |.int i,n,h=>by simp[toD,B9,BS]
 |.str x,n,h=>by
  erw[shd]at h;erw[toD,B9,BS,BX,and_true];exact h
 |.tp _ xs,n,h=>by
  erw[shd,AJ,decide_eq_true_eq]at h;let⟨q1,q2⟩:=zbk xs (n-1) h.2;erw[toD,B9,BS];exact⟨q1,by lia⟩
 |.lst xs,n,h=>by
  erw[shd,AJ,decide_eq_true_eq]at h;let⟨q1,q2⟩:=zbk xs (n-1) h.2;erw[toD,B9,BS];exact⟨q1,by lia⟩
 |.loc k,n,h=>by simp[shd]at h
 |.fnc k,n,h=>by simp[shd]at h
 |.exn k,n,h=>by simp[shd]at h
 |.scr xs,n,h=>by simp[shd]at h
theorem zbk:∀(v:List PV) (n:Nat),yaH n v=AC->Bt (ybn v)=AC/\BO (ybn v)<=n
 |[],n,h=>by simp[ybn,Bt,BO]
 |v::vs,n,h=>by
  erw[yaH,AJ]at h;let⟨q1,q2⟩:=zbh v n h.1;let⟨q3,q4⟩:=zbk vs n h.2;erw[ybn,Bt,BO,AJ];exact⟨⟨q1,q3⟩,by lia⟩
end
def zU{v:PV}(h:shp v=AC):Gi (toD v)=true:=by
 let⟨q1,q2⟩:=zbh v 60 h;unfold Gi;rw[q1,G8,decide_eq_true_eq];lia
mutual
theorem za6:∀(v w:PV) (n m:Nat),shd n v=AC->shd m w=AC->BP (toD v) (toD w)=peq v w
 |.non,w,n,m,h,q=>by cases w<;>first|rfl|exact absurd q AV
 |.bl b,w,n,m,h,q=>by cases w<;>first|rfl|exact absurd q AV
 |.int i,w,n,m,h,q=>by cases w<;>first|rfl|exact absurd q AV
 |.str x,w,n,m,h,q=>by cases w<;>first|rfl|exact absurd q AV
 |.tp _ xs,.tp _ ys,n,m,h,q=>by
  have h:=Ba.1 h;have q:=Ba.1 q;exact zbj xs ys (n-1) (m-1) h.2 q.2
 |.lst xs,.lst ys,n,m,h,q=>by
  have h:=Ba.1 h;have q:=Ba.1 q;exact zbj xs ys (n-1) (m-1) h.2 q.2
 |.tp _ xs,.non,n,m,h,q=>rfl
 |.tp _ xs,.bl _,n,m,h,q=>rfl
 |.tp _ xs,.int _,n,m,h,q=>rfl
 |.tp _ xs,.str _,n,m,h,q=>rfl
 |.tp _ xs,.lst _,n,m,h,q=>rfl
 |.lst xs,.non,n,m,h,q=>rfl
 |.lst xs,.bl _,n,m,h,q=>rfl
 |.lst xs,.int _,n,m,h,q=>rfl
 |.lst xs,.str _,n,m,h,q=>rfl
 |.lst xs,.tp _ _,n,m,h,q=>rfl
 |.loc k,w,n,m,h,q=>absurd h AV
 |.fnc k,w,n,m,h,q=>absurd h AV
 |.exn k,w,n,m,h,q=>absurd h AV
 |.scr k,w,n,m,h,q=>absurd h AV
 |v,.loc k,n,m,h,q=>absurd q AV
 |v,.fnc k,n,m,h,q=>absurd q AV
 |v,.exn k,n,m,h,q=>absurd q AV
 |v,.scr k,n,m,h,q=>absurd q AV
theorem zbj:∀(v w:List PV) (n m:Nat),yaH n v=AC->yaH m w=AC->CU (ybn v) (ybn w)=ybi v w
 |[],[],n,m,h,q=>rfl
 |[],y::ys,n,m,h,q=>rfl
 |x::xs,[],n,m,h,q=>rfl
 |x::xs,y::ys,n,m,h,q=>by
  have h:=Ba.1 h;have q:=Ba.1 q;show (BP (toD x) (toD y)&&CU (ybn xs) (ybn ys))=(peq x y&&ybi xs ys);rw[za6 x y n m h.1 q.1,zbj xs ys n m h.2 q.2]
end
section
variable {S:Se}{X:Cx}{σ:St}{B:AG->Prop}{φ φ1:Ph}{H H1:Hp}{st:SO}{π:List (AG×BR)}{s:AH}
mutual
theorem zy(I:Inv X π σ H s):∀(v:PV) (n:Nat) (x:V) (u:AF),shd n v=AC->yc X.K S.cl B φ H v x->RelV x u->∃as,Gp s.heap u (toD v) as
 |.non,n,x,u,h,r,q=>by
  erw[yc]at r;subst r;cases (show u=By from q);exact⟨_,.none⟩
 |.bl b,n,x,u,h,r,q=>by
  erw[yc]at r;subst r;cases (show u=GJ b from q);exact⟨_,.bool b⟩
 |.int i,n,x,u,h,r,q=>by
  erw[yc]at r;subst r;let⟨t,rfl⟩:=q;exact⟨_,.int i t⟩
 |.str y,n,x,u,h,r,q=>by
  erw[yc]at r;subst r;let⟨t,rfl⟩:=q;exact⟨_,.str y t⟩
 |.tp _ vs,n,x,u,h,r,q=>by
  erw[yc]at r;let⟨a,xs,rfl,rt,l⟩:=r
  cases (show u=Au a from q)
  erw[shd,AJ]at h;let⟨its,rv,⟨o,g,c,k,d⟩,_⟩:=I.tuple rt.sq;let⟨as,z⟩:=zaA I vs (n-1) xs its h.2 l rv;exact⟨as,.tuple g c d (by simpa using z)⟩
 |.lst vs,n,x,u,h,r,q=>by
  erw[yc]at r;let⟨a,xs,rfl,rt,l⟩:=r
  cases (show u=Au a from q)
  erw[shd,AJ]at h;let⟨its,rv,⟨o,k,g,c,_,d⟩,_⟩:=I.list (rt.sq (K:=X.K));let⟨as,z⟩:=zaA I vs (n-1) xs its h.2 l rv;exact⟨_,.list g c d (by simpa using z)⟩
 |.loc k,n,x,u,h,r,q=>by simp[shd]at h
 |.fnc k,n,x,u,h,r,q=>by simp[shd]at h
 |.exn k,n,x,u,h,r,q=>by simp[shd]at h
 |.scr k,n,x,u,h,r,q=>by simp[shd]at h
theorem zaA(I:Inv X π σ H s):∀(v:List PV) (n:Nat) (x:List V) (u:List AF),yaH n v=AC->ye X.K S.cl B φ H v x->Vals x u->∃as,ReadsAll s.heap u (ybn v) as
 |[],n,x,u,h,r,q=>by
  erw[ye]at r;subst r;cases q;exact⟨_,.nil⟩
 |v::vs,n,x,u,h,r,q=>by
  erw[ye]at r;let⟨y,ys,rfl,rv,l⟩:=r;erw[yaH,AJ]at h
  cases q with
  |cons q1 q2=>
   let⟨as,z1⟩:=zy I v n y _ h.1 rv q1;let⟨bs,z2⟩:=zaA I vs n ys _ h.2 l q2;exact⟨_,.cons z1 z2⟩
end
def zkI(hu:X.A.units+64<cLine):OpR X (compareOp .Eq) (rT2 S X (yI .eq)):=by
 rintro π s σ H x y v u Q I rx ry ⟨B,φ,st,a,b,z,rs,ra,rb,e,q⟩
 erw[yI]at e;split at e
 .rename_i c;rw[AJ]at c
  cases e
  let⟨as,z1⟩:=zy (S:=S) I a 60 x v c.1 ra rx;let⟨bs,z2⟩:=zy (S:=S) I b 60 y u c.2 rb ry;refine eq_dataH z1 z2 (zU c.1) (zU c.2) hu ⟨.bl _,H,I,rfl,?_⟩;rw[za6 a b 60 60 c.1 c.2];exact q _ H φ .rfl rs (by erw[yc])
 .cases e
def zkC(hu:X.A.units+64<cLine):OpR X (compareOp .NotEq) (rT2 S X (yI .ne)):=by
 rintro π s σ H x y v u Q I rx ry ⟨B,φ,st,a,b,z,rs,ra,rb,e,q⟩
 erw[yI]at e;split at e
 .rename_i c;rw[AJ]at c
  cases e
  let⟨as,z1⟩:=zy (S:=S) I a 60 x v c.1 ra rx;let⟨bs,z2⟩:=zy (S:=S) I b 60 y u c.2 rb ry;refine ne_dataH z1 z2 (zU c.1) (zU c.2) hu ⟨.bl _,H,I,rfl,?_⟩;rw[za6 a b 60 60 c.1 c.2];exact q _ H φ .rfl rs (by erw[yc])
 .cases e
def zeA{f:AF->AF->Fi AF}{o:COp}{g:Int->Int->Bool}(h:OpR X f (rI0 λi j=>.bl (g i j)))
  (hb:∀v w z,yI o v w=AA z->∃i j,v=.int i/\w=.int j/\z=.bl (g i j)):OpR X f (rT2 S X (yI o)):=by
 rintro π s σ H x y v u Q I rx ry ⟨B,φ,st,a,b,z,rs,ra,rb,e,q⟩
 let⟨i,j,rfl,rfl,rfl⟩:=hb a b z e;erw[yc]at ra rb;subst ra rb;exact h π s σ H _ _ v u Q I rx ry ⟨i,j,rfl,rfl,q _ H φ .rfl rs (by erw[yc])⟩
def zky:OpR X (compareOp .Lt) (rT2 S X (yI .lt)):=by
 rintro π s σ H x y v u Q I rx ry ⟨B,φ,st,a,b,z,rs,ra,rb,e,q⟩
 erw[yI]at e;split at e
 .rename_i i j;erw[yc]at ra rb;subst ra rb
  cases e
  exact zkG π s σ H _ _ v u Q I rx ry ⟨i,j,rfl,rfl,q _ H φ .rfl rs (by erw[yc])⟩
 .rename_i i j;erw[yc]at ra rb;subst ra rb
  cases e
  exact zd0 π s σ H _ _ v u Q I rx ry ⟨i,j,rfl,rfl,q _ H φ .rfl rs (by erw[yc])⟩
 .cases e
def zcL{o:COp}{g:Int->Int->Bool}(ho:∀v w,yI o v w=match v,w with
   |.int i,.int j=>ybw o i j
   |.str a,.str b=>yeo o a b
   |_,_=>AB) (hs:∀a b,yeo o a b=AB) (hg:∀i j,ybw o i j=AA (.bl (g i j))) (v w z:PV) (h:yI o v w=AA z):∃i j,v=.int i/\w=.int j/\z=.bl (g i j):=by
 rw[ho]at h;split at h
 .rename_i i j;rw[hg]at h;exact⟨i,j,rfl,rfl,(AU h).symm⟩
 .rw[hs]at h;cases h
 .cases h
def zkD:OpR X (compareOp .Gt) (rT2 S X (yI .gt)):=zeA zkq (zcL (λ_ _=>rfl) (λ_ _=>rfl) λ_ _=>rfl)
def zki:OpR X (compareOp .GtE) (rT2 S X (yI .ge)):=zeA zkF (zcL (λ_ _=>rfl) (λ_ _=>rfl) λ_ _=>rfl)
theorem yc.isNon{K:AD}{cl:Nat->AG}{v:PV}{x:V}(r:yc K cl B φ H v x):decide (x=.non)=IC.isNon v:=by
 cases v with
 |loc n=>erw[yc]at r;let⟨_,a,rfl,_⟩:=r;rfl
 |non=>erw[yc]at r;subst r;rfl
 |bl b=>erw[yc]at r;subst r;rfl
 |int b=>erw[yc]at r;subst r;rfl
 |str b=>erw[yc]at r;subst r;rfl
 |tp k vs=>erw[yc]at r;let⟨a,xs,rfl,_⟩:=r;rfl
 |lst vs=>erw[yc]at r;let⟨a,xs,rfl,_⟩:=r;rfl
 |fnc j=>erw[yc]at r;subst r;rfl
 |exn vs=>erw[yc]at r;let⟨a,rfl,_⟩:=r;rfl
 |scr vs=>erw[yc]at r;let⟨a,xs,rfl,_⟩:=r;rfl
theorem yc.flat{K:AD}{cl:Nat->AG}{v:PV}{x:V}(r:yc K cl B φ H v x)(h:IC.flat v=AC):yac x=AC/\∀(w:PV) (y:V),IC.flat w=AC->yc K cl B φ H w y->eqV x y=peq v w:=by
 cases v with
 |non=>
  erw[yc]at r;subst r;refine⟨rfl,λw y hw rw=>?_⟩
  cases w<;>first|(simp[IC.flat]at hw;done)|(erw[yc]at rw;subst rw;rfl)
 |bl b=>
  erw[yc]at r;subst r;refine⟨rfl,λw y hw rw=>?_⟩
  cases w<;>first|(simp[IC.flat]at hw;done)|(erw[yc]at rw;subst rw;rfl)
 |int b=>
  erw[yc]at r;subst r;refine⟨rfl,λw y hw rw=>?_⟩
  cases w<;>first|(simp[IC.flat]at hw;done)|(erw[yc]at rw;subst rw;rfl)
 |str b=>
  erw[yc]at r;subst r;refine⟨rfl,λw y hw rw=>?_⟩
  cases w<;>first|(simp[IC.flat]at hw;done)|(erw[yc]at rw;subst rw;rfl)
 |_=>simp[IC.flat]at h
def zM{K:AD}{cl:Nat->AG}{v:PV}{x:V}(r:yc K cl B φ H v x)(h:IC.flat v=AC):∀{vs:List PV} {xs:List V},ye K cl B φ H vs xs->vs.all IC.flat=AC->xs.all yac=AC/\inV x xs=inL v vs
 |[],xs,l,_=>by erw[ye]at l;subst l;exact⟨rfl,rfl⟩
 |w::vs,xs,l,f=>by
  erw[ye]at l;let⟨y,ys,rfl,rw,l⟩:=l;rw[Ar,AJ]at f;let⟨q1,q2⟩:=zM r h l f.2;let⟨q3,q4⟩:=rw.flat f.1;refine⟨by rw[Ar,q3,q1];rfl,?_⟩;unfold inV at q2 ⊢;rw[B5,q2,q4 v x h r];rfl
end
def zhv(a b:AN):(!(CG b a 0 b.length 1).isEmpty)=inS a b:=by
 rw[GF,StrLaws.found_iff];unfold inS;rw[C9];constructor
 .rintro⟨i,h1,h2⟩
  exact⟨i,by rw[Ct];lia,by rw[AJ,decide_eq_true_eq];exact⟨h1,h2⟩⟩
 .rintro⟨i,_,h⟩
  rw[AJ,decide_eq_true_eq]at h;exact⟨i,h.1,h.2⟩
section
variable {S:Se}{X:Cx}{σ:St}{B:AG->Prop}{φ φ1:Ph}{H H1:Hp}{st:SO}
def zkm:OpR X (compareOp .In) (rT2 S X (yI .isin)):=by
 rintro π s σ H x y v u Q I rx ry ⟨B,φ,st,a,b,z,rs,ra,rb,e,q⟩
 erw[yI]at e;split at e
 .rename_i i j;erw[yc]at ra rb;subst ra rb
  cases e
  exact zeY π s σ H _ _ v u Q I rx ry ⟨i,j,rfl,rfl,by rw[zhv];exact q _ H φ .rfl rs (by erw[yc])⟩
 .rename_i l;split at e
  .rename_i c;rw[AJ]at c
   cases e
   erw[yc]at rb;let⟨p,xs,rfl,r,l'⟩:=rb;let⟨q1,q2⟩:=zM ra c.1 l' c.2;exact zbD π s σ H _ _ v u Q I rx ry ⟨p,xs,rfl,.inr r.sq,(ra.flat c.1).1,q1,q _ H φ .rfl rs (by erw[yc];rw[<-q2];rfl)⟩
  .cases e
 .rename_i l;split at e
  .rename_i c;rw[AJ]at c
   cases e
   erw[yc]at rb;let⟨p,xs,rfl,r,l'⟩:=rb;let⟨q1,q2⟩:=zM ra c.1 l' c.2;exact zbD π s σ H _ _ v u Q I rx ry ⟨p,xs,rfl,.inl r.sq,(ra.flat c.1).1,q1,q _ H φ .rfl rs (by erw[yc];rw[<-q2];rfl)⟩
  .cases e
 .cases e
theorem ye.empty{K:AD}{cl:Nat->AG}{vs:List PV}{xs:List V}(l:ye K cl B φ H vs xs):vs.isEmpty=xs.isEmpty:=by
 have:=l.length
 cases vs<;>cases xs<;>simp_all
def zhH{K:AD}{cl:Nat->AG}{v:PV}{x:V}{k:Bool}(rs:yh K cl B φ H st)(r:yc K cl B φ H v x)(h:yar st v=AA k):yd8 K x H k:=by
 cases v with
 |non=>erw[yc]at r;subst r;cases h;rfl
 |bl b=>erw[yc]at r;subst r;cases h;rfl
 |int b=>erw[yc]at r;subst r;cases h;rfl
 |str b=>
  erw[yc]at r;subst r;erw[yar]at h;split at h
  .rename_i c
   cases h
   exact⟨by rw[<-zh];exact c,rfl⟩
  .cases h
 |tp k vs=>
  erw[yc]at r;let⟨a,xs,rfl,rt,l⟩:=r
  cases h
  exact .inr (.inl ⟨xs,rt.sq,by rw[l.empty]⟩)
 |lst vs=>
  erw[yc]at r;let⟨a,xs,rfl,rt,l⟩:=r
  cases h
  exact .inl ⟨xs,rt.sq,by rw[l.empty]⟩
 |loc n=>
  erw[yc]at r;let⟨hn,a,rfl,ha⟩:=r;erw[yar]at h;split at h
  .rename_i vs hv
   cases h
   let⟨b,hb⟩:=rs.liv n _ hv (by intro z;cases z);obtain rfl:=ha b hb;let⟨o,ho,ro⟩:=rs.obj n b hb;rw[hv]at ho;cases ho;let⟨xs,hx,l⟩:=ro;exact .inl ⟨xs,.of hx,by rw[l.empty]⟩
  .cases h
 |fnc c=>cases h
 |exn c=>cases h
 |scr c=>cases h
end
theorem R.bind_assoc{α β γ:Type}{r:R α}{k:α->SO->R β}{l:β->SO->R γ}:(r.bind k).bind l=r.bind λa s=>(k a s).bind l:=by
 cases r<;>rfl
section
variable {S:Se}{X:Cx}{σ:St}{B:AG->Prop}{φ φ1:Ph}{H H1:Hp}{st:SO}{ρ:IC.Env}{pos:Bc}{a b c d:AM}{ca cb cc:Ce}{es:List AM}{ces:Ces}
def zhe{o:COp}{v w z:PV}(h:yI o v w=AA z):∃k,z=.bl k:=by
 cases o<;>erw[yI]at h
 all_goals (repeat' split at h)<;>first|(cases h;done)|(cases h;exact⟨_,rfl⟩)|skip
 all_goals (erw[ybw]at h;cases h;exact⟨_,rfl⟩)
def ziF{op:Gr}{o:COp}(ho:OpR X (compareOp op) (rT2 S X (yI o)))(ha:PE X a (tE S X ca))(hb:PE X b (tE S X cb))(hm:behindInMarks op b=AE):PT X (.Compare a [op] [b] pos) (tTs S X (.cmp o ca cb)):=
 (zfe ho ha hb hm).imp λσ H Q ⟨B,φ,st,ρ,rs,re,h⟩=>by
  erw[ev,yaz,R.bind_assoc]at h;refine tE.bind rs re h λx H1 v st1 φ1 s1 rs1 re1 rv h1=>tE.bind rs1 re1 h1 λy H2 w st2 φ2 s2 rs2 re2 rw h2=>?_
  cases e:yI o v w with
  |none=>rw[e]at h2;exact h2.elim
  |some z=>
   let⟨k,rfl⟩:=zhe e;rw[e]at h2;refine⟨B,φ2,st2,v,w,.bl k,rs2,rv.step s2,rw,e,λz' H' φ' s' rs' rz=>?_⟩;erw[yc]at rz;exact⟨k,rz,h2 k H' φ' s' rs' rfl⟩
def ziN(ha:PE X a (tE S X ca))(he:∀whole,isTrue a X.env whole=(do let v <-whole;standAt a.pos;holding [v] (truthy v)):=by intro _;rfl):PT X a (tTs S X ca):=
 (zf4 ha he).imp λσ H Q ⟨B,φ,st,ρ,rs,re,h⟩=>by
  erw[yaz]at h;refine tE.bind rs re h λx H1 v st1 φ1 s1 rs1 re1 rv h1=>?_
  cases e:yar st1 v with
  |none=>rw[e]at h1;exact h1.elim
  |some k=>
   rw[e]at h1;exact⟨k,zhH rs1 rv e,h1.ok rs1 rfl⟩
theorem tTs.bind{γ δ:Type}{Gh:Ph->Hp->γ->δ->Prop}{k:Bool->SO->R γ}{Q:δ->Hp->Prop}{P:Bool->Hp->Prop}(rs:yh X.K S.cl B φ H st)(re:yp X.K S.cl B φ H ρ σ)(h:Run S X σ B φ H Gh ((yaz (ev S.call ρ st ca)).bind k) Q)
  (n:∀b H1 st1 φ1,Step φ H φ1 H1->yh X.K S.cl B φ1 H1 st1->yp X.K S.cl B φ1 H1 ρ σ->Run S X σ B φ1 H1 Gh (k b st1) Q->P b H1):tTs S X ca σ H P:=
 ⟨B,φ,st,ρ,rs,re,(Run.bind h).mono λx H1 ⟨v,st1,φ1,s,rs1,rv,h1⟩=>by
  subst rv;exact n v H1 st1 φ1 s rs1 (re.step s) h1⟩
def zco(r:R PV)(f:Bool->SO->R PV):yaz (r.bind λx st1=>onBl x λb=>f b st1)=r.bind λx st1=>onBl x λb=>yaz (f b st1):=by
 unfold yaz;rw[R.bind_assoc]
 congr 1
 funext x st1
 cases x<;>rfl
theorem Run.bl_tru{r:R PV}{k:Bool->SO->R Bool}{Q:Bool->Hp->Prop}(h:Run S X σ B φ H RB (r.bind λx st1=>onBl x λb=>k b st1) Q):Run S X σ B φ H RB ((yaz r).bind k) Q:=by
 cases r with
 |bad=>exact h
 |exc c s=>exact h
 |ok v s=>
  cases v with
  |bl b=>exact h
  |_=>exact h.elim
def zjp(ha:PT X a (tTs S X ca)):PT X (.UnaryOp .Not a pos) (tTs S X (.not ca)):=
 (zi5 ha).imp λσ H Q ⟨B,φ,st,ρ,rs,re,h⟩=>by
  erw[ev]at h;rw[zco _ λk st1=>.ok (.bl (!k)) st1]at h;exact tTs.bind rs re (Run.bl_tru (k:=λb st1=>.ok (!b) st1) h) λb H1 st1 φ1 s1 rs1 re1 h1=>h1.ok rs1 rfl
variable {rest:List AM}
def zhX(ha:PT X a (tTs S X ca)):PW X (.BoolOp .And [a] pos) (tTs S X ca):=zih ha
def zjc(ha:PT X a (tTs S X ca)):PW X (.BoolOp .Or [a] pos) (tTs S X ca):=ziM ha
def ziz(ha:PT X a (tTs S X ca))(hb:PW X (.BoolOp .And (b::rest) pos) (tTs S X cb)):PW X (.BoolOp .And (a::b::rest) pos) (tTs S X (.and ca cb)):=
 (zjE ha hb).imp λσ H Q ⟨B,φ,st,ρ,rs,re,h⟩=>by
  erw[ev]at h;rw[zco _ λk st1=>cond k (ev S.call ρ st1 cb) (.ok (.bl AE) st1)]at h;refine tTs.bind rs re (Run.bl_tru h) λk H1 st1 φ1 s1 rs1 re1 h1=>?_
  cases k with
  |false=>exact h1.ok rs1 rfl
  |true=>exact⟨B,φ1,st1,ρ,rs1,re1,h1⟩
def zku(ha:PT X a (tTs S X ca))(hb:PW X (.BoolOp .Or (b::rest) pos) (tTs S X cb)):PW X (.BoolOp .Or (a::b::rest) pos) (tTs S X (.or ca cb)):=
 (zkj ha hb).imp λσ H Q ⟨B,φ,st,ρ,rs,re,h⟩=>by
  erw[ev]at h;rw[zco _ λk st1=>cond k (.ok (.bl AC) st1) (ev S.call ρ st1 cb)]at h;refine tTs.bind rs re (Run.bl_tru h) λk H1 st1 φ1 s1 rs1 re1 h1=>?_
  cases k with
  |true=>exact h1.ok rs1 rfl
  |false=>exact⟨B,φ1,st1,ρ,rs1,re1,h1⟩
def zgn{op:Gj}(h:PE X a (tE S X ca)):PE X (.BoolOp op [a] pos) (tE S X ca):=zjH h
def zgS(ha:PE X a (tE S X ca))(hb:PE X (.BoolOp .And (b::rest) pos) (tE S X cb)):PE X (.BoolOp .And (a::b::rest) pos) (tE S X (.and ca cb)):=
 (zit ha hb).imp λσ H Q ⟨B,φ,st,ρ,rs,re,h⟩=>by
  erw[ev]at h;refine tE.bind rs re h λx H1 v st1 φ1 s1 rs1 re1 rv h1=>?_
  cases v with
  |bl k=>
   erw[yc]at rv;refine⟨k,rv,?_⟩
   cases k with
   |true=>exact⟨B,φ1,st1,ρ,rs1,re1,h1⟩
   |false=>exact h1.ok rs1 (by erw[yc])
  |_=>exact h1.elim
def ziC(ha:PE X a (tE S X ca))(hb:PE X (.BoolOp .Or (b::rest) pos) (tE S X cb)):PE X (.BoolOp .Or (a::b::rest) pos) (tE S X (.or ca cb)):=
 (zkJ ha hb).imp λσ H Q ⟨B,φ,st,ρ,rs,re,h⟩=>by
  erw[ev]at h;refine tE.bind rs re h λx H1 v st1 φ1 s1 rs1 re1 rv h1=>?_
  cases v with
  |bl k=>
   erw[yc]at rv;refine⟨k,rv,?_⟩
   cases k with
   |false=>exact⟨B,φ1,st1,ρ,rs1,re1,h1⟩
   |true=>exact h1.ok rs1 (by erw[yc])
  |_=>exact h1.elim
def zin(ha:PE X a (tE S X ca)):PE X (.UnaryOp .Not a pos) (tE S X (.not ca)):=
 (zjz ha).imp λσ H Q ⟨B,φ,st,ρ,rs,re,h⟩=>by
  erw[ev]at h;refine tE.bind rs re h λx H1 v st1 φ1 s1 rs1 re1 rv h1=>?_
  cases v with
  |bl k=>
   erw[yc]at rv;exact⟨k,rv,h1.ok rs1 (by erw[yc])⟩
  |_=>exact h1.elim
def zjT(hc:PT X c (tTs S X cc))(ha:PE X a (tE S X ca))(hb:PE X b (tE S X cb)):PE X (.IfExp c a b pos) (tE S X (.ite cc ca cb)):=
 (zfF hc ha hb).imp λσ H Q ⟨B,φ,st,ρ,rs,re,h⟩=>by
  erw[ev]at h;have e:((ev S.call ρ st cc).bind λx st1=>onO (yar st1 x) λk=>cond k (ev S.call ρ st1 ca) (ev S.call ρ st1 cb))=(yaz (ev S.call ρ st cc)).bind λk st1=>cond k (ev S.call ρ st1 ca) (ev S.call ρ st1 cb):=by
   unfold yaz;rw[R.bind_assoc]
   congr 1
   funext x st1
   cases yar st1 x<;>rfl
  rw[e]at h;refine tTs.bind rs re h λk H1 st1 φ1 s1 rs1 re1 h1=>?_
  cases k with
  |true=>exact⟨B,φ1,st1,ρ,rs1,re1,h1⟩
  |false=>exact⟨B,φ1,st1,ρ,rs1,re1,h1⟩
def zaz:PA X [] (tAs S X .nil):=zkP.imp λσ H Q ⟨B,φ,st,ρ,rs,re,h⟩=>by
 erw[evs]at h;exact h.ok rs (by erw[ye])
def zG(ha:PE X a (tE S X ca))(hr:PA X es (tAs S X ces))(hs:starEach (a::es) X.env=(AE,eval a X.env)::starEach es X.env:=by rfl):PA X (a::es) (tAs S X (.cons ca ces)):=
 (zB ha hr hs).imp λσ H Q ⟨B,φ,st,ρ,rs,re,h⟩=>by
  erw[evs]at h;refine tE.bind rs re h λx H1 v st1 φ1 s1 rs1 re1 rv h1=>tAs.bind rs1 re1 h1 λxs H2 vs st2 φ2 s2 rs2 re2 rvs h2=>?_;refine h2.ok rs2 ?_;erw[ye];exact⟨x,xs,rfl,rv.step s2,rvs⟩
def zjv{k:Nat}(h:PA X es (tAs S X ces)):PE X (.Tuple es k pos) (tE S X (.tup ces)):=
 (zgH h).imp λσ H Q ⟨B,φ,st,ρ,rs,re,h⟩=>by
  erw[ev]at h;refine tAs.bind rs re h λxs H1 vs st1 φ1 s1 rs1 re1 rv h1=>?_;split at h1
  .rename_i c;refine⟨by rw[<-zh,<-rv.length];exact c,λp hp=>h1 _ _ φ1 (.upd hp) (rs1.upd hp) (.tup_new hp rs1 rv)⟩
  .exact h1.elim
def zir(h:PA X es (tAs S X ces)):PE X (.List es pos) (tE S X (.lst ces)):=
 (zgr h).imp λσ H Q ⟨B,φ,st,ρ,rs,re,h⟩=>by
  erw[ev]at h;refine tAs.bind rs re h λxs H1 vs st1 φ1 s1 rs1 re1 rv h1=>?_;split at h1
  .rename_i c;refine⟨by rw[<-zh,<-rv.length];exact c,λp hp=>h1 _ _ φ1 (.upd hp) (rs1.upd hp) (.lst_new hp rs1 rv)⟩
  .exact h1.elim
theorem Step.push{p:AG}{o:HO}(hp:H p=AB):Step φ H (φ++[AA p]) (L2.upd H p o):=by
 refine⟨λb u n e=>by rw[za (zc e hp)];exact e,by simp,λn a hn e=>?_,λb h=>?_⟩
 .rw[AQ hn]at e;exact e
 .rw[BE]at h;rcases h with h|h
  .exact .inl h
  .have:b=p:=by simpa using h
   subst this;exact .inr hp
theorem yh.push{K:AD}{cl:Nat->AG}{p:AG}{u:HO}{o:Ob}(rs:yh K cl B φ H st)(hp:H p=AB)(hb:¬B p)(ho:ybD K cl B (φ++[AA p]) (L2.upd H p u) o p):yh K cl B (φ++[AA p]) (L2.upd H p u) (st++[o]):=by
 have s:Step φ H (φ++[AA p]) (L2.upd H p u):=.push hp;have np:AA p∉φ:=λz=>by
  let⟨w,e⟩:=rs.there z;rw[hp]at e;cases e
 have hl:φ.length=st.length:=rs.len;refine⟨by simp[hl],λm n a e1 e2=>?_,λn a e=>?_,λn o' e ho'=>?_,λa h=>?_,λa h=>?_,λa h xs e=>?_⟩
 .by_cases hm:m<φ.length
  .rw[AQ hm]at e1
   by_cases hn:n<φ.length
   .rw[AQ hn]at e2;exact rs.inj m n a e1 e2
   .rw[A1 ∅]at e2;have:a=p:=by
     cases q:n-φ.length with
     |zero=>rw[q]at e2;simpa using e2.symm
     |succ k=>rw[q]at e2;simp at e2
    subst this;exact absurd (A5 e1) np
  .rw[A1 ∅]at e1;have:m-φ.length=0/\a=p:=by
    cases q:m-φ.length with
    |zero=>rw[q]at e1;exact⟨rfl,by simpa using e1.symm⟩
    |succ k=>rw[q]at e1;simp at e1
   let⟨q1,rfl⟩:=this
   by_cases hn:n<φ.length
   .rw[AQ hn]at e2;exact absurd (A5 e2) np
   .rw[A1 ∅]at e2;have:n-φ.length=0:=by
     cases q:n-φ.length with
     |zero=>rfl
     |succ k=>rw[q]at e2;simp at e2
    lia
 .by_cases hn:n<φ.length
  .rw[AQ hn]at e;let⟨o',q,r⟩:=rs.obj n a e;refine⟨o',by rw[AQ ∅];exact q,r.step s ?_⟩;rw[za]
   rintro rfl
   exact np (A5 e)
  .rw[A1 ∅]at e;have:n-φ.length=0/\a=p:=by
    cases q:n-φ.length with
    |zero=>rw[q]at e;exact⟨rfl,by simpa using e.symm⟩
    |succ k=>rw[q]at e;simp at e
   let⟨q1,rfl⟩:=this;refine⟨o,?_,ho⟩;rw[A1 ∅];have:n-st.length=0:=by lia
   rw[this];rfl
 .by_cases hn:n<φ.length
  .rw[AQ ∅]at e;let⟨a,q⟩:=rs.liv n o' e ho';exact⟨a,by rw[AQ hn];exact q⟩
  .rw[A1 ∅]at e;have:n-st.length=0:=by
    cases q:n-st.length with
    |zero=>rfl
    |succ k=>rw[q]at e;simp at e
   refine⟨p,?_⟩;rw[A1 ∅];have:n-φ.length=0:=by lia
   rw[this];rfl
 .rw[BE]at h;rcases h with h|h
  .exact rs.nb a h
  .have:a=p:=by simpa using h
   subst this;exact hb
 .let⟨w,e⟩:=rs.dom a h;exact⟨w,by rw[za (zc e hp)];exact e⟩
 .let⟨w,q⟩:=rs.dom a h;rw[za (zc q hp)]at e;exact rs.nt a h xs e
theorem yh.untup{K:AD}{cl:Nat->AG}{a:AG}{xs:List V}(rs:yh K cl B φ H st)(h:AA a∈φ)(e:H a=AA (.tup xs)):False:=by
 let⟨n,hn⟩:=List.getElem?_of_mem h;let⟨o,q,r⟩:=rs.obj n a hn
 cases o with
 |lst vs=>let⟨ys,hx,l⟩:=r;rw[e]at hx;cases hx
 |dct t kvs=>cases t<;>(let⟨ys,hx,l⟩:=r;rw[e]at hx;cases hx)
 |ins c fs=>let⟨ks,⟨dx,hx⟩,l⟩:=r;rw[e]at hx;cases hx
 |dead=>exact r.elim
theorem yh.nB{K:AD}{cl:Nat->AG}{p:AG}(rs:yh K cl B φ H st)(hp:H p=AB):¬B p:=λz=>by
 let⟨o,e⟩:=rs.dom p z;rw[hp]at e;cases e
theorem yc.loc_new{K:AD}{cl:Nat->AG}{p:AG}(rs:yh K cl B φ H st):yc K cl B (φ++[AA p]) H1 (.loc st.length) (.ref p):=by
 erw[yc];have hl:=rs.len;refine⟨by simp[hl],p,rfl,λb e=>?_⟩;rw[A1 ∅]at e;have:st.length-φ.length=0:=by lia
 rw[this]at e;simpa using e.symm
def zg9(h:PA X es (tAs S X ces)):PE X (.List es pos) (tE S X (.newl ces)):=
 (zgr h).imp λσ H Q ⟨B,φ,st,ρ,rs,re,h⟩=>by
  erw[ev]at h;refine tAs.bind rs re h λxs H1 vs st1 φ1 s1 rs1 re1 rv h1=>?_;split at h1
  .rename_i c;refine⟨by rw[<-zh,<-rv.length];exact c,λp hp=>h1 _ _ (φ1++[AA p]) (.push hp) (rs1.push hp (rs1.nB hp) ⟨xs,zd,rv.step (.push hp)⟩) (.loc_new rs1)⟩
  .exact h1.elim
end
section
variable {S:Se}{X:Cx}{σ:St}{B:AG->Prop}{φ φ1:Ph}{H H1:Hp}{st:SO}{ρ:IC.Env}{pos p2:Bc}{a b c d:AM}{ca cb cc:Ce}{es:List AM}{ces:Ces}{K:AD}{cl:Nat->AG}
theorem ye.at{vs:List PV}{xs:List V}{i:Int}{v:PV}(l:ye K cl B φ H vs xs)(h:at? vs i=AA v):∃x,atI xs i=AA x/\yc K cl B φ H v x:=by
 unfold at? at h;rw[l.length]at h;unfold atI
 cases e:ixI xs.length i with
 |none=>rw[e]at h;cases h
 |some j=>
  rw[e]at h;have e':ixN xs.length i=AA j:=e;rw[e'];exact l.get j h
theorem yh.list{n:Nat}{vs:List PV}{x:V}(rs:yh K cl B φ H st)(r:yc K cl B φ H (.loc n) x)(h:st[n]?=AA (.lst vs)):∃a xs,x=.ref a/\φ[n]?=AA (AA a)/\H a=AA (.lst xs)/\ye K cl B φ H vs xs:=by
 erw[yc]at r;let⟨hn,a,rfl,ha⟩:=r;let⟨b,hb⟩:=rs.liv n _ h (by intro z;cases z);obtain rfl:=ha b hb;let⟨o,ho,ro⟩:=rs.obj n b hb;rw[h]at ho;cases ho;let⟨xs,hx,l⟩:=ro;exact⟨b,xs,rfl,hb,hx,l⟩
def rTS(S:Se)(X:Cx)(f:SO->PV->PV->Option PV):R2:=λx y H Q=>∃B φ st v w z,yh X.K S.cl B φ H st/\yc X.K S.cl B φ H v x/\yc X.K S.cl B φ H w y/\f st v w=AA z /\
 ∀z' H' φ',Step φ H φ' H'->yh X.K S.cl B φ' H' st->yc X.K S.cl B φ' H' z z'->Q z' H'
def zar{α:Type}{xs:List α}{i:PV}{z:α}(h:yaQ xs i=AA z):∃k,i=.int k/\at? xs k=AA z:=by
 cases i with
 |int k=>exact⟨k,rfl,h⟩
 |_=>cases h
def zhb:IxR X (rTS S X idxV):=by
 rintro value slice π s σ H x y v u Q I rx ry ⟨B,φ,st,a,i,z,rs,ra,ri,e,q⟩ hs
 cases a with
 |tp k vs=>
  let⟨k,rfl,e⟩:=zar e;erw[yc]at ra ri;subst ri;let⟨p,xs,rfl,rt,l⟩:=ra;let⟨w,e1,rw⟩:=l.at e;exact zcP value slice π s σ H _ _ v u Q I rx ry (.inr (.inl ⟨p,xs,k,w,rfl,rfl,rt.sq,e1,q w H φ .rfl rs rw⟩)) hs
 |lst vs=>
  let⟨k,rfl,e⟩:=zar e;erw[yc]at ra ri;subst ri;let⟨p,xs,rfl,rt,l⟩:=ra;let⟨w,e1,rw⟩:=l.at e;exact zcP value slice π s σ H _ _ v u Q I rx ry (.inl ⟨p,xs,k,w,rfl,rfl,rt.sq,e1,q w H φ .rfl rs rw⟩) hs
 |loc n=>
  erw[idxV]at e;split at e
  .rename_i vs h1;let⟨k,rfl,e⟩:=zar e;erw[yc]at ri;subst ri;let⟨p,xs,rfl,_,hx,l⟩:=rs.list ra h1;let⟨w,e1,rw⟩:=l.at e;exact zcP value slice π s σ H _ _ v u Q I rx ry (.inl ⟨p,xs,k,w,rfl,rfl,.of hx,e1,q w H φ .rfl rs rw⟩) hs
  .cases e
 |str t=>
  erw[idxV]at e;split at e
  .rename_i hl
   cases e1:yaQ t.cps.toList i with
   |none=>rw[e1]at e;cases e
   |some c=>
    rw[e1]at e
    cases e
    let⟨k,rfl,e1⟩:=zar e1;erw[yc]at ra ri;subst ra ri;exact zcP value slice π s σ H _ _ v u Q I rx ry (.inr (.inr ⟨t,k,c,rfl,rfl,by rw[<-zh];exact hl,e1,q _ H φ .rfl rs (by erw[yc])⟩)) hs
  .cases e
 |_=>cases e
def zjM(ha:PE X a (tE S X ca))(hb:PE X b (tE S X cb))(hs:ya2 b:=by exact λ_ _=>rfl):PE X (.Subscript a b pos) (tE S X (.idx ca cb)):=
 (zkv zhb ha hb hs).imp λσ H Q ⟨B,φ,st,ρ,rs,re,h⟩=>by
  erw[ev]at h;refine tE.bind rs re h λx H1 v st1 φ1 s1 rs1 re1 rv h1=>tE.bind rs1 re1 h1 λy H2 w st2 φ2 s2 rs2 re2 rw h2=>?_;let⟨z,e,q⟩:=zu h2 rs2;exact⟨B,φ2,st2,v,w,z,rs2,rv.step s2,rw,e,q⟩
theorem ye.cut{vs:List PV}{xs:List V}(lo hi:Option Int)(l:ye K cl B φ H vs xs):ye K cl B φ H (IC.cut vs lo hi) (ybX xs lo hi):=by
 have e1:∀n o,yct n o=HT.sIx n 0 o:=λn o=>by cases o<;>rfl
 have e2:∀n o,yc5 n o=HT.sIx n n o:=λn o=>by cases o<;>rfl
 unfold IC.cut ybX;rw[l.length,e1,e2];exact(l.drop _).take _
def tO(S:Se)(X:Cx)(c:Ce):TO:=λσ H Q=>tE S X c σ H λx H1=>(x=.non/\Q AB H1) \/ ∃i,x=.int i/\Q (AA i) H1
def zh0:PO X AB (tO S X (.cst .non)):=λπ s σ H Q I h=>by
 refine zhF π s σ H Q I ?_;let⟨B,φ,st,ρ,rs,re,h⟩:=h;erw[ev]at h;rcases h.ok rs (x:=V.non) (by erw[yc])with q|⟨i,z,_⟩
 .exact q.2
 .cases z
def zhC(ha:PE X a (tE S X ca)):PO X (AA a) (tO S X ca):=by
 intro π s σ H Q I hw;rw[evalPart_some];refine thn (ha π s σ H _ I hw) λu s1 kq=>?_;let⟨x,H1,I1,r1,q1⟩:=kq;rcases q1 with⟨rfl,q⟩|⟨i,rfl,q⟩
 .cases r1
  exact⟨AB,H1,I1,.none,q⟩
 .let⟨t,rfl⟩:=r1;exact⟨AA i,H1,I1,.int i t,q⟩
def rSl(S:Se)(X:Cx):V->Option Int->Option Int->Hp->VK->Prop:=λx lo hi H Q=>∃B φ st v z,yh X.K S.cl B φ H st/\yc X.K S.cl B φ H v x/\ycd v lo hi=AA z /\
 ∀z' H' φ',Step φ H φ' H'->yh X.K S.cl B φ' H' st->yc X.K S.cl B φ' H' z z'->Q z' H'
def z6{prog:A3}{w:Aa}{A:A8}{E:AF->AH->Prop}{s:AH}{t sl:AG}{items:Array AF}{vl vu:AF}{lo hi:Option Int}{Q:AF->AH->Prop}(ht:Gb s.heap t items)(hs:s.heap.IsSliceOf sl vl vu .none)(pl:EV vl lo)(pu:EV vu hi)
  (hw:HT.sIx items.size 0 lo=0/\HT.sIx items.size items.size hi=items.size)
  (h:Q (.ref t) s):A2 (model prog w) A (getItem (.ref t) (.ref sl)) Q E s:=by
 let⟨os,hos,hcs,hds⟩:=id hs;have hTs:s.TypeIs (.ref sl) "slice":=⟨os,hos,hcs⟩;unfold getItem
 try with_reducible refine Bz ?_
 first|refine AI (AO ?_)|skip
 refine AI (F5 ht.typeIs ⋯ ?_);refine AI (CJ (name:=AT "__getitem__") ht.typeIs Aq
  (DH Aq ht.typeIs FD ?_ (FR _ _)))
 show A2 _ _ (C1 (.ref t) >>= _) _ _ s;refine AI (CM ht ?_);refine AI (F6 hTs ?_);rw[if_pos ⋯];refine AI (HT.sliceApplied_gen hs pl pu ?_);have hyes:(((HT.sIx items.size 0 lo:Nat):Int)==0&&(1:Int)==1&&(HT.sIx items.size items.size hi-HT.sIx items.size 0 lo)==items.size)=true:=by
  rw[hw.1,hw.2];simp
 show A2 _ _ (if (((HT.sIx items.size 0 lo:Nat):Int)==0&&(1:Int)==1&&(HT.sIx items.size items.size hi-HT.sIx items.size 0 lo)==items.size)=AC then _ else _) _ _ s;rw[if_pos hyes];refine AI (AI (F6 ht.typeIs (AO ?_)));rw[if_pos ⋯]
 first
  |exact AI (AO (AO ⟨_,rfl,AO h⟩))
  |exact AI (ET (AO ⟨_,rfl,AO h⟩))
  |(wp_step;wp_step;exact⟨_,rfl,AO h⟩)
def yfw(K:AD):V->Option Int->Option Int->Hp->VK->Prop:=λx lo hi H Q=>∃a xs,x=.ref a/\SqT K H a xs /\
 (HT.sIx xs.length 0 lo=0/\HT.sIx xs.length xs.length hi=xs.length)/\Q (.ref a) H
def zfl:SlR X (yfw X.K):=by
 intro π s σ H x v vl vu lo hi sl Q I rx hs pl pu h;let⟨a,xs,rfl,hx,hw,q⟩:=h
 cases rx
 let⟨its,r,ht,hz⟩:=I.tuple hx;have hlen:its.toArray.size=xs.length:=by rw[AY];exact r.length.symm
 refine⟨"tuple",_,Aq.lookup,ht.typeIs,?_⟩;exact z6 ht hs pl pu (by rw[hlen];exact hw) ⟨.ref a,H,I,rfl,q⟩
def yfK:V->Option Int->Option Int->Hp->VK->Prop:=λx lo hi H Q=>∃y:AN,x=.str y/\y.length<=sizeLine/\Q (.str ⟨((y.cps.toList.drop (HT.sIx y.cps.toList.length 0 lo)).take (HT.sIx y.cps.toList.length y.cps.toList.length hi-HT.sIx y.cps.toList.length 0 lo)).toArray⟩) H
def zll(lo hi:Option Int)(n:Nat):DW lo hi 1 n=sliceRange ((HT.sIx n 0 lo:Nat):Int) ((HT.sIx n n hi:Nat):Int) 1:=by
 unfold DW;erw[show (1:Int) > 0 by decide,if_true]
 congr 1
 .cases lo with
  |none=>simp[HT.sIx]
  |some i=>
   erw[HT.sIx]
   by_cases h:i<0
   .simp only[h,if_true]<;>lia
   .simp only[h,if_false]<;>lia
 .cases hi with
  |none=>simp[HT.sIx]
  |some i=>
   erw[HT.sIx]
   by_cases h:i<0
   .simp only[h,if_true]<;>lia
   .simp only[h,if_false]<;>lia
def zeU(y:AN)(lo hi:Option Int):Txt.slice y lo hi=⟨((y.cps.toList.drop (HT.sIx y.cps.toList.length 0 lo)).take (HT.sIx y.cps.toList.length y.cps.toList.length hi-HT.sIx y.cps.toList.length 0 lo)).toArray⟩:=by
 have hn:y.length=y.cps.toList.length:=by simp[Str.length]
 unfold Txt.slice;rw[zll,hn,sliceRange_one];have ha:=HT.sIx_le y.cps.toList.length 0 (BX _) lo;have hb:=HT.sIx_le y.cps.toList.length y.cps.toList.length (AR _) hi;generalize HT.sIx y.cps.toList.length 0 lo=a,HT.sIx y.cps.toList.length y.cps.toList.length hi=b at *;split
 .rename_i c;erw[Ak,List.length_range,AJ,beq_iff_eq]at c;obtain⟨rfl,rfl⟩:a=0/\b=y.cps.toList.length:=by lia
  rw[List.drop_zero,Nat.sub_zero,Fv]
 .rw[pick_run]
def zhU:SlR X yfK:=by
 intro π s σ H x v vl vu lo hi sl Q I rx hs pl pu h;let⟨y,rfl,hz,q⟩:=h;let⟨t,rfl⟩:=rx;rw[<-zeU]at q;refine⟨"str",_,PySem.F.slot_str_getitem.lookup,D9 _ _ _,?_⟩;have go:∀l u:Option (Int×GX),vl=partValue l->vu=partValue u->lo=l.map (·.1)->hi=u.map (·.1)->A2 (model X.prog X.w) X.A (getItem (.str y t) (.ref sl)) (EP X π σ Q) X.xe s:=by
  rintro l u rfl rfl rfl rfl
  refine wpAny_getItem_str_slice (l:=l) (u:=u) (st:=AB) hs rfl ?_;exact post_val_or_str ⟨BC (Txt.slice_le y _ _) hz,λt' k=>⟨.str _,H,I.tok k,⟨_,rfl⟩,q⟩⟩
 cases pl with
 |none=>
  cases pu with
  |none=>exact go AB AB rfl rfl rfl rfl
  |int j u=>exact go AB (AA (j,u)) rfl rfl rfl rfl
 |int i t1=>
  cases pu with
  |none=>exact go (AA (i,t1)) AB rfl rfl rfl rfl
  |int j u=>exact go (AA (i,t1)) (AA (j,u)) rfl rfl rfl rfl
def zhg:SlR X (rSl S X):=by
 rintro π s σ H x v vl vu lo hi sl Q I rx hs pl pu ⟨B,φ,st,w,z,rs,rw,e,q⟩
 have e1:∀n o,yct n o=HT.sIx n 0 o:=λn o=>by cases o<;>rfl
 have e2:∀n o,yc5 n o=HT.sIx n n o:=λn o=>by cases o<;>rfl
 cases w with
 |tp k vs=>
  erw[ycd]at e;split at e
  .rename_i c
   cases e
   have rw':=rw;erw[yc]at rw;let⟨p,xs,rfl,rt,l⟩:=rw;refine zfl π s σ H _ v vl vu lo hi sl Q I rx hs pl pu ⟨p,xs,rfl,rt.sq,?_,q _ H φ .rfl rs rw'⟩;rw[l.length,e1,e2]at c;exact c
  .rename_i c
   cases e
   erw[yc]at rw;let⟨p,xs,rfl,rt,l⟩:=rw;refine zji π s σ H _ v vl vu lo hi sl Q I rx hs pl pu ⟨p,xs,rfl,rt.sq,?_,λt ht=>q _ _ φ (.upd ht) (rs.upd ht) (.tup_new ht rs (l.cut lo hi))⟩;rw[l.length,e1,e2]at c;exact c
 |str y=>
  erw[ycd]at e;split at e
  .rename_i c
   cases e
   erw[yc]at rw;subst rw;refine zhU π s σ H _ v vl vu lo hi sl Q I rx hs pl pu ⟨y,rfl,by rw[<-zh];exact c,?_⟩;have:=q (.str ⟨(cut y.cps.toList lo hi).toArray⟩) H φ .rfl rs (by erw[yc]);rw[cut,e1,e2]at this;exact this
  .cases e
 |lst vs=>
  erw[ycd]at e
  cases e
  erw[yc]at rw;let⟨p,xs,rfl,rt,l⟩:=rw;exact zdM π s σ H _ v vl vu lo hi sl Q I rx hs pl pu ⟨p,xs,rfl,rt.sq,λt ht=>q _ _ φ (.upd ht) (rs.upd ht) (.lst_new ht rs (l.cut lo hi))⟩
 |scr vs=>
  erw[ycd]at e
  cases e
  erw[yc]at rw;let⟨p,xs,rfl,rt,l⟩:=rw;exact zdM π s σ H _ v vl vu lo hi sl Q I rx hs pl pu ⟨p,xs,rfl,(by rcases rt with rt|rt;exact .inl rt.1;exact .inr rt),λt ht=>q _ _ φ (.upd ht) (rs.upd ht) (.lst_new ht rs (l.cut lo hi))⟩
 |_=>cases e
def ziP{lo hi:Option AM}(ha:PE X a (tE S X ca))(hl:PO X lo (tO S X cb))(hh:PO X hi (tO S X cc)):PE X (.Subscript a (.Slice lo hi AB p2) pos) (tE S X (.slc ca cb cc)):=
 (zga zhg ha hl hh).imp λσ H Q ⟨B,φ,st,ρ,rs,re,h⟩=>by
  erw[ev]at h;have oi:∀{v:PV} {x:V} {o:Option Int} {B φ H},yc X.K S.cl B φ H v x->ybW v=AA o->(x=.non/\o=AB) \/ ∃i,x=.int i/\o=AA i:=λ{v x o B φ H} r e=>by
   cases v with
   |non=>erw[yc]at r;cases e;exact .inl ⟨r,rfl⟩
   |int i=>erw[yc]at r;cases e;exact .inr ⟨i,r,rfl⟩
   |_=>cases e
  refine tE.bind rs re h λx H1 v st1 φ1 s1 rs1 re1 rv h1=>tE.bind rs1 re1 h1 λy H2 w st2 φ2 s2 rs2 re2 rw h2=>?_
  cases eo:ybW w with
  |none=>rw[eo]at h2;exact h2.elim
  |some o1=>
   rw[eo]at h2;have key:tO S X cc σ H2 λu H3=>rSl S X x o1 u H3 Q:=by
    refine tE.bind rs2 re2 h2 λy' H3 w' st3 φ3 s3 rs3 re3 rw' h3=>?_;let⟨z,e,q⟩:=zu h3 rs3;unfold ycW at e
    cases eo':ybW w' with
    |none=>rw[eo']at e;cases e
    |some o2=>
     rw[eo']at e;have fin:rSl S X x o1 o2 H3 Q:=⟨B,φ3,st3,v,z,rs3,(rv.step s2).step s3,e,q⟩;rcases oi rw' eo' with⟨rfl,rfl⟩|⟨i,rfl,rfl⟩
     .exact .inl ⟨rfl,fin⟩
     .exact .inr ⟨i,rfl,fin⟩
   rcases oi rw eo with⟨rfl,rfl⟩|⟨i,rfl,rfl⟩
   .exact .inl ⟨rfl,key⟩
   .exact .inr ⟨i,rfl,key⟩
end
section
variable {S:Se}{X:Cx}{σ:St}{B:AG->Prop}{φ φ1:Ph}{H H1:Hp}{st:SO}{ρ:IC.Env}{p pos p2:Bc}{a b c d:AM}{ca cb cc:Ce}{es:List AM}{ces:Ces}{K:AD}{cl:Nat->AG}
def rB(S:Se)(X:Cx)(k:Blt):List V->Hp->VK->Prop:=λxs H Q=>∃B φ st vs z,yh X.K S.cl B φ H st/\ye X.K S.cl B φ H vs xs/\yaB k st vs=AA z /\
 ∀z' H' φ',Step φ H φ' H'->yh X.K S.cl B φ' H' st->yc X.K S.cl B φ' H' z z'->Q z' H'
theorem ye.one{v:PV}{xs:List V}(l:ye K cl B φ H [v] xs):∃x,xs=[x]/\yc K cl B φ H v x:=by
 erw[ye]at l;let⟨y,ys,rfl,r,rfl⟩:=l;exact⟨y,rfl,r⟩
theorem ye.two{v w:PV}{xs:List V}(l:ye K cl B φ H [v,w] xs):∃x y,xs=[x,y]/\yc K cl B φ H v x/\yc K cl B φ H w y:=by
 erw[ye]at l;let⟨y,ys,rfl,r,z,zs,rfl,r2,rfl⟩:=l;exact⟨y,z,rfl,r,r2⟩
def zdV{k:Blt}{st:SO}{vs:List PV}{z:PV}(h:yaB k st vs=AA z)(h2:∀x y,yaB k st [x,y]=AB):∃x,vs=[x]:=by
 match vs,h with
 |[x],_=>exact⟨x,rfl⟩
 |[x,y],h=>rw[h2]at h;cases h
def zY{v:PV}{x:V}{vs:List PV}(rs:yh K cl B φ H st)(r:yc K cl B φ H v x)(h:yw st v=AA vs):∃a xs,x=.ref a/\SqL K H a xs/\ye K cl B φ H vs xs:=by
 cases v with
 |lst ws=>
  cases h
  erw[yc]at r;let⟨a,xs,rfl,rt,l⟩:=r;exact⟨a,xs,rfl,rt.sq,l⟩
 |loc n=>
  erw[yw]at h;split at h
  .rename_i ws hw
   cases h
   let⟨a,xs,rfl,_,hx,l⟩:=rs.list r hw;exact⟨a,xs,rfl,.of hx,l⟩
  .cases h
 |_=>cases h
def zgz{v:PV}{x:V}{vs:List PV}(rs:yh K cl B φ H st)(r:yc K cl B φ H v x)(h:yad st v=AA vs):∃a xs,x=.ref a/\(SqL K H a xs \/ SqT K H a xs)/\ye K cl B φ H vs xs:=by
 cases v with
 |tp k ws=>
  cases h
  erw[yc]at r;let⟨a,xs,rfl,rt,l⟩:=r;exact⟨a,xs,rfl,.inr rt.sq,l⟩
 |lst ws=>
  let⟨a,xs,e,q,l⟩:=zY rs r (vs:=vs) h;exact⟨a,xs,e,.inl q,l⟩
 |loc n=>
  let⟨a,xs,e,q,l⟩:=zY rs r (vs:=vs) h;exact⟨a,xs,e,.inl q,l⟩
 |_=>cases h
def ziV:yag X (.builtin "len") (rB S X .len):=by
 rintro π s σ H xs us Q I r ⟨B,φ,st,vs,z,rs,l,e,q⟩
 let⟨v,rfl⟩:=zdV e λ_ _=>rfl;let⟨x,rfl,rv⟩:=l.one;erw[yaB,lenV]at e;split at e
 .rename_i t;split at e
  .rename_i c
   cases e
   erw[yc]at rv;subst rv;exact zbt π s σ H _ us Q I r ⟨t,rfl,by rw[<-zh];exact c,q _ H φ .rfl rs (by erw[yc])⟩
  .cases e
 .cases e1:yad st v with
  |none=>rw[e1]at e;cases e
  |some ws=>
   rw[e1]at e
   cases e
   let⟨a,ys,rfl,h,l⟩:=zgz rs rv e1;refine zbP π s σ H _ us Q I r ⟨a,ys,rfl,?_,q _ H φ .rfl rs (by erw[yc];rw[l.length])⟩;exact h
theorem ye.ints:∀{ns:List Int} {xs:List V},ye K cl B φ H (ns.map .int) xs->xs=ns.map V.int
 |[],xs,h=>by simpa only[CO,ye] using h
 |n::ns,xs,h=>by
  erw[AZ,ye]at h;let⟨y,ys,rfl,r,l⟩:=h;erw[yc]at r;rw[r,ye.ints l];rfl
def zgg:yag X (.type "tuple") (rB S X .tuple):=by
 rintro π s σ H xs us Q I r ⟨B,φ,st,vs,z,rs,l,e,q⟩
 let⟨v,rfl⟩:=zdV e λ_ _=>rfl;let⟨x,rfl,rv⟩:=l.one;erw[yaB,ydp]at e;split at e
 .cases e
  erw[yc]at rv;let⟨a,ys,rfl,rt,l⟩:=rv;exact z8 π s σ H _ us Q I r ⟨a,ys,rfl,.inr ⟨rt.sq,q _ H φ .rfl rs (by erw[yc];exact⟨a,ys,rfl,rt,l⟩)⟩⟩
 .cases e1:yw st v with
  |none=>rw[e1]at e;cases e
  |some ws=>
   rw[e1]at e
   cases e
   let⟨a,ys,rfl,h,l⟩:=zY rs rv e1;exact z8 π s σ H _ us Q I r ⟨a,ys,rfl,.inl ⟨h,λt ht=>q _ _ φ (.upd ht) (rs.upd ht) (.tup_new ht rs l)⟩⟩
variable {x:AN}{id T:String}{k:Blt}
def ziy(hc:yag X (.builtin id) (rB S X k))(hg:Gl X x)(hm:X.mg x=AB)(hv:bootBuiltins x=AA (.builtin id))(ha:PA X (a::es) (tAs S X ces))(hn:x ≠ "__name__":=by decide)(hdb:(x==("__debug__":AN))=false:=by decide)
  (he:starEach (a::es) X.env=(AE,eval a X.env)::starEach es X.env:=by rfl) (hpl:(backTo pos (starEach es X.env)).any (·.1)=false:=by rfl):PE X (.Call (.Name x p) (a::es) [] pos) (tE S X (.blt k ces)):=
 (za9 hc hg hm hv ha hn hdb he hpl).imp λσ H Q ⟨B,φ,st,ρ,rs,re,h⟩=>by
  erw[ev]at h;refine tAs.bind rs re h λxs H1 vs st1 φ1 s1 rs1 re1 rv h1=>?_;let⟨z,e,q⟩:=zu h1 rs1;exact⟨B,φ1,st1,vs,z,rs1,rv,e,q⟩
def zh9(hc:yag X (.type T) (rB S X k))(hg:Gl X x)(hm:X.mg x=AB)(hv:bootBuiltins x=AA (.type T))(ha:PA X (a::es) (tAs S X ces))(hn:x ≠ "__name__":=by decide)(hdb:(x==("__debug__":AN))=false:=by decide)
  (he:starEach (a::es) X.env=(AE,eval a X.env)::starEach es X.env:=by rfl) (hpl:(backTo pos (starEach es X.env)).any (·.1)=false:=by rfl):PE X (.Call (.Name x p) (a::es) [] pos) (tE S X (.blt k ces)):=
 (zdW hc hg hm hv ha hn hdb he hpl).imp λσ H Q ⟨B,φ,st,ρ,rs,re,h⟩=>by
  erw[ev]at h;refine tAs.bind rs re h λxs H1 vs st1 φ1 s1 rs1 re1 rv h1=>?_;let⟨z,e,q⟩:=zu h1 rs1;exact⟨B,φ1,st1,vs,z,rs1,rv,e,q⟩
end
section
variable {S:Se}{X:Cx}{σ:St}{B:AG->Prop}{φ φ1:Ph}{H H1:Hp}{st:SO}{ρ:IC.Env}{p pos p2 apos:Bc}{a b c d:AM}{ca cb cc:Ce}{es:List AM}{ces:Ces}{K:AD}{cl:Nat->AG}
theorem Step.put{l:AG}{u:HO}(hl:AA l∈φ):Step φ H φ (L2.upd H l u):=
 ⟨λb o n e=>by rw[za (show b≠l from λz=>n (by rw[z];exact hl))];exact e,AR _,λ_ _ _ e=>e,λ_ h=>.inl h⟩
theorem yh.put{n:Nat}{l:AG}{u:HO}{o:Ob}(rs:yh K cl B φ H st)(hn:φ[n]?=AA (AA l))(ho:ybD K cl B φ (L2.upd H l u) o l):yh K cl B φ (L2.upd H l u) (st.set n o):=by
 have hm:AA l∈φ:=A5 hn;have s:Step φ H φ (L2.upd H l u):=.put hm;have hlt:n<st.length:=by rw[<-rs.len];exact(Ad.mp hn).1
 refine⟨by rw[BK];exact rs.len,rs.inj,λm a e=>?_,λm o' e ho'=>?_,rs.nb,λa h=>?_,λa h xs e=>?_⟩
 .by_cases hmn:m=n
  .subst hmn;rw[hn]at e;cases e;exact⟨o,by rw[BD hlt],ho⟩
  .let⟨o',q,r⟩:=rs.obj m a e;refine⟨o',by rw[Al (Bu hmn)];exact q,r.step s ?_⟩;rw[za]
   rintro rfl
   exact hmn (rs.inj m n a e hn)
 .by_cases hmn:m=n
  .subst hmn;exact⟨l,hn⟩
  .rw[Al (Bu hmn)]at e;exact rs.liv m o' e ho'
 .let⟨w,e⟩:=rs.dom a h
  by_cases z:a=l
  .subst z;exact⟨u,zd⟩
  .exact⟨w,by rw[za z];exact e⟩
 .have z:a≠l:=λz=>rs.nb l hm (z ▸ h);rw[za z]at e;exact rs.nt a h xs e
def zlm:1000000<=sizeLine:=by rw[BG];decide
def zay{m:Mth}{v:PV}{st:SO}{α β:Type}{Rel:Ph->Hp->α->β->Prop}{k:Bool->R α}{Q:β->Hp->Prop}(h:Run S X σ B φ H Rel (onO (yax m st v) k) Q):∃b,yax m st v=AA b/\Run S X σ B φ H Rel (k b) Q:=by
 cases e:yax m st v with
 |none=>rw[e]at h;exact h.elim
 |some z=>rw[e]at h;exact⟨z,rfl,h⟩
end
section
variable (S:Se)(X:Cx)
def yP(B:AG->Prop)(φ:Ph)(H:Hp)(f:Fl)(D:Ends):Prop:=
 match f with
 |.nx ρ' st'=>∀σ' H' φ',Step φ H φ' H'->yh X.K S.cl B φ' H' st'->yp X.K S.cl B φ' H' ρ' σ'->D.nx σ' H'
 |.rt v st'=>∀x H' φ',Step φ H φ' H'->yh X.K S.cl B φ' H' st'->yc X.K S.cl B φ' H' v x->D.rt x H'
 |.bk ρ' st'=>∀σ' H' φ',Step φ H φ' H'->yh X.K S.cl B φ' H' st'->yp X.K S.cl B φ' H' ρ' σ'->D.bk σ' H'
 |.ct ρ' st'=>∀σ' H' φ',Step φ H φ' H'->yh X.K S.cl B φ' H' st'->yp X.K S.cl B φ' H' ρ' σ'->D.ct σ' H'
 |.exc k ρ' st'=>∀σ' φ1 H1 e s',Step φ H φ1 H1->yp X.K S.cl B φ1 H1 ρ' σ'->ExcAt S X σ' B φ1 H1 k st' e s'->X.xe e s'
 |.bad=>False
def tS(c:Cs):TS:=λD σ H=>∃B φ st ρ,yh X.K S.cl B φ H st/\yp X.K S.cl B φ H ρ σ/\yP S X B φ H (ex S.call ρ st c) D
def tSs(c:Css):TS:=λD σ H=>∃B φ st ρ,yh X.K S.cl B φ H st/\yp X.K S.cl B φ H ρ σ/\yP S X B φ H (exs S.call ρ st c) D
end
section
variable {S:Se}{X:Cx}{σ:St}{B:AG->Prop}{φ φ1:Ph}{H H1:Hp}{st:SO}{ρ:IC.Env}{D:Ends}{pos p2 px:Bc}{a b c o:AM}{ca cb cc:Ce}{s1:Bd}{ss ss':List Bd}{c1:Cs}{cs cs':Css}
theorem yP.on{f:Fl}(s:Step φ H φ1 H1)(h:yP S X B φ H f D):yP S X B φ1 H1 f D:=by
 cases f with
 |nx ρ st=>exact λσ' H' φ' t=>h σ' H' φ' (s.trans t)
 |rt ρ st=>exact λσ' H' φ' t=>h σ' H' φ' (s.trans t)
 |bk ρ st=>exact λσ' H' φ' t=>h σ' H' φ' (s.trans t)
 |ct ρ st=>exact λσ' H' φ' t=>h σ' H' φ' (s.trans t)
 |exc k ρ st=>exact λσ' φ2 H2 e s' t=>h σ' φ2 H2 e s' (s.trans t)
 |bad=>exact h
theorem tE.fl{k:PV->SO->Fl}{P:V->Hp->Prop}(rs:yh X.K S.cl B φ H st)(re:yp X.K S.cl B φ H ρ σ)(h:yP S X B φ H ((ev S.call ρ st ca).fl ρ k) D)
  (n:∀x H1 v st1 φ1,Step φ H φ1 H1->yh X.K S.cl B φ1 H1 st1->yp X.K S.cl B φ1 H1 ρ σ->yc X.K S.cl B φ1 H1 v x->yP S X B φ1 H1 (k v st1) D->P x H1):tE S X ca σ H P:=by
 refine⟨B,φ,st,ρ,rs,re,?_⟩
 cases e:ev S.call ρ st ca with
 |ok v st'=>
  rw[e]at h;exact λx H' φ' s rs' rv=>n x H' v st' φ' s rs' (re.step s) rv (h.on s)
 |exc k st'=>
  rw[e]at h;exact λe s' x=>h σ φ H e s' .rfl re x
 |bad=>rw[e]at h;exact h
theorem PS.imp{t t':TS}(h:PS X s1 t')(k:∀D σ H,t D σ H->t' D σ H):PS X s1 t:=λπ s σ H D I q=>h π s σ H D I (k D σ H q)
theorem PSs.imp{t t':TS}(h:PSs X ss t')(k:∀D σ H,t D σ H->t' D σ H):PSs X ss t:=λπ s σ H D I q=>h π s σ H D I (k D σ H q)
theorem yp.set{K:AD}{cl:Nat->AG}(r:yp K cl B φ H ρ σ)(i:Nat){v:PV}{x:V}(rv:yc K cl B φ H v x):yp K cl B φ H (ρ.set i (AA v)) (σ.set i (AA x)):=by
 refine⟨by rw[BK,BK];exact r.len,λj w e=>?_⟩
 by_cases h:j=i
 .subst h
  by_cases hl:j<ρ.length
  .rw[BD hl]at e
   cases e
   exact⟨x,by rw[BD (by rw[<-r.len];exact hl)],rv⟩
  .rw[Aj (by rw[BK];lia)]at e
   cases e
 .rw[Al (Bu h)]at e ⊢;exact r.get j w e
def zjL:PSs X [] (tSs S X .nil):=zla.imp λD σ H ⟨B,φ,st,ρ,rs,re,h⟩=>by
 erw[exs]at h;exact h σ H φ .rfl rs re
def zg7(h1:PS X s1 (tS S X c1))(h2:PSs X ss (tSs S X cs)):PSs X (s1::ss) (tSs S X (.cons c1 cs)):=
 (zcz h1 h2).imp λD σ H ⟨B,φ,st,ρ,rs,re,h⟩=>by
  erw[exs]at h;refine⟨B,φ,st,ρ,rs,re,?_⟩
  cases e:ex S.call ρ st c1 with
  |nx ρ1 st1=>
   rw[e]at h;exact λσ' H' φ' s rs' re'=>⟨B,φ',st1,ρ1,rs',re',h.on s⟩
  |rt v st1=>rw[e]at h;exact h
  |bk ρ1 st1=>rw[e]at h;exact h
  |ct ρ1 st1=>rw[e]at h;exact h
  |exc k ρ1 st1=>rw[e]at h;exact h
  |bad=>rw[e]at h;exact h
def zhq(he:PE X a (tE S X ca))(hs:swapsWith a AB pos.line X.env=pure false:=by rfl):PS X (.Expr a pos) (tS S X (.expr ca)):=
 (zhN he hs).imp λD σ H ⟨B,φ,st,ρ,rs,re,h⟩=>by
  erw[ex]at h;exact tE.fl rs re h λx H1 v st1 φ1 s rs1 re1 rv h1=>h1 σ H1 φ1 .rfl rs1 re1
def zi0(he:PE X a (tE S X ca)):PS X (.Return (AA a) pos) (tS S X (.ret ca)):=
 (zgt he).imp λD σ H ⟨B,φ,st,ρ,rs,re,h⟩=>by
  erw[ex]at h;exact tE.fl rs re h λx H1 v st1 φ1 s rs1 re1 rv h1=>h1 x H1 φ1 .rfl rs1 rv
def zid:PS X (.Return AB pos) (tS S X (.ret (.cst .non))):=
 zlb.imp λD σ H ⟨B,φ,st,ρ,rs,re,h⟩=>by
  erw[ex,ev,R.fl]at h;exact h .non H φ .rfl rs (by erw[yc])
def zjk{i:Nat}{x:AN}(hN:X.N.Nodup)(hi:X.N[i]?=AA x)(hx:Loc X.env.scope x)(he:PE X a (tE S X ca))(hs:swapsWith a (AA (.Name x px)) pos.line X.env=pure false:=by rfl)
  (hf:X.fn x=AC \/ X.env.scope.names.lookup x=AA .local:=by first|exact .inl rfl|exact .inr rfl|assumption):PS X (.Assign [.Name x px] a pos) (tS S X (.asg (.n i) ca)):=
 (zgq hN hi hx he hs hf).imp λD σ H ⟨B,φ,st,ρ,rs,re,h⟩=>by
  erw[ex]at h;exact tE.fl rs re h λx H1 v st1 φ1 s rs1 re1 rv h1=>h1 _ H1 φ1 .rfl rs1 (re1.set i rv)
theorem flT(r:R PV)(f:Bool->SO->Fl):(r.fl ρ λx st1=>onF (yar st1 x) λk=>f k st1)=(yaz r).fl ρ f:=by
 cases r with
 |ok v s=>
  erw[R.fl,yaz,R.bind]
  cases yar s v<;>rfl
 |exc c s=>rfl
 |bad=>rfl
theorem tTs.fl{k:Bool->SO->Fl}{P:Bool->Hp->Prop}(rs:yh X.K S.cl B φ H st)(re:yp X.K S.cl B φ H ρ σ)(h:yP S X B φ H ((yaz (ev S.call ρ st ca)).fl ρ k) D)
  (n:∀b H1 st1 φ1,Step φ H φ1 H1->yh X.K S.cl B φ1 H1 st1->yp X.K S.cl B φ1 H1 ρ σ->yP S X B φ1 H1 (k b st1) D->P b H1):tTs S X ca σ H P:=by
 refine⟨B,φ,st,ρ,rs,re,?_⟩
 cases e:yaz (ev S.call ρ st ca)with
 |ok v st'=>
  rw[e]at h;exact λx H' φ' s rs' rv=>by
   subst rv;exact n v H' st' φ' s rs' (re.step s) (h.on s)
 |exc k st'=>
  rw[e]at h;exact λe s' x=>h σ φ H e s' .rfl re x
 |bad=>rw[e]at h;exact h
def zkB(hc:PT X c (tTs S X cc))(ha:PSs X ss (tSs S X cs))(hb:PSs X ss' (tSs S X cs')):PS X (.If c ss ss' pos) (tS S X (.ite cc cs cs')):=
 (zkp hc ha hb).imp λD σ H ⟨B,φ,st,ρ,rs,re,h⟩=>by
  erw[ex]at h;rw[flT _ λk st1=>cond k (exs S.call ρ st1 cs) (exs S.call ρ st1 cs')]at h;refine tTs.fl rs re h λk H1 st1 φ1 s rs1 re1 h1=>?_
  cases k with
  |true=>exact⟨B,φ1,st1,ρ,rs1,re1,h1⟩
  |false=>exact⟨B,φ1,st1,ρ,rs1,re1,h1⟩
def ziv{i:Nat}{x:AN}{op:EC}{bo:BOp}(hN:X.N.Nodup)(hi:X.N[i]?=AA x)(hx:Loc X.env.scope x)(he:PE X a (tE S X ca))(ho:PIp X op (rT2 S X (yba bo)))
  (hf:X.fn x=AC \/ X.env.scope.names.lookup x=AA .local:=by first|exact .inl rfl|exact .inr rfl|assumption) (hd:(x==("__debug__":AN))=false:=by decide) (hcd:(x==("__classdict__":AN))=false:=by decide):PS X (.AugAssign (.Name x px) op a pos) (tS S X (.aug i bo ca)):=
 (zjl hN hi hx he ho hf).imp λD σ H ⟨B,φ,st,ρ,rs,re,h⟩=>by
  erw[ex]at h
  cases q:ρ[i]? with
  |none=>rw[q]at h;exact h.elim
  |some w=>
   cases w with
   |none=>rw[q]at h;exact h.elim
   |some w=>
    rw[q]at h;let⟨y,hy,rw⟩:=re.get i w q;refine⟨y,hy,tE.fl rs re h λz H1 v st1 φ1 s rs1 re1 rv h1=>?_⟩
    cases e:yba bo w v with
    |none=>rw[e]at h1;exact h1.elim
    |some u=>
     rw[e]at h1;exact⟨B,φ1,st1,w,v,u,rs1,rw.step s,rv,e,λz' H' φ' s' rs' rz=>h1 _ H' φ' s' rs' ((re1.step s').set i rz)⟩
end
section
variable (S:Se)(X:Cx)
structure Drw(B:AG->Prop)(φ0:Ph)(H0:Hp)(xs:List PV)(J:It):Prop where
 stop:∀φ H,Step φ0 H0 φ H->J.stop xs.length H
 go:∀(i:Nat) φ H,Step φ0 H0 φ H->i<xs.length->J.go i H
 yld:∀(i:Nat) φ H st x H' (B':AG->Prop),(∀y,B' y->B y \/ H0 y=AB)->Step φ0 H0 φ H->yh X.K S.cl B' φ H st->i<xs.length->J.yld i H x H'->∃v,xs[i]?=AA v/\yc X.K S.cl B' φ H' v x/\∀b o,H b=AA o->H' b=AA o
abbrev RD(B:AG->Prop):Ph->Hp->List PV->It->Prop:=λφ H=>Drw S X B φ H
def tI(c:Cit):TI:=λσ H R=>∃B φ st ρ,yh X.K S.cl B φ H st/\yp X.K S.cl B φ H ρ σ/\Run S X σ B φ H (RD S X B) (evi S.call ρ st c) R
end
section
variable {S:Se}{X:Cx}{σ:St}{B:AG->Prop}{φ φ1:Ph}{H H1:Hp}{st:SO}{ρ:IC.Env}{D:Ends}{pos p p2 px:Bc}{a b c o tg l:AM}{ca cb cc:Ce}{es:List AM}{ces:Ces}{ss:List Bd}{cs:Css}{ci:Cit}{ct:Tg}
def zhf:PE X a (tE S X .nope):=λπ s σ H Q I ⟨B,φ,st,ρ,rs,re,h⟩=>by
 erw[ev]at h;exact h.elim
def zhp{s1:Bd}:PS X s1 (tS S X .nope):=λπ s σ H D I ⟨B,φ,st,ρ,rs,re,h⟩=>by
 erw[ex]at h;exact h.elim
theorem PI.imp{t t':TI}(h:PI X tg l t')(k:∀σ H R,t σ H R->t' σ H R):PI X tg l t:=λπ s σ H R I q=>h π s σ H R I (k σ H R q)
def zd7{tl:TE}(hl:PE X l tl):PI X tg l (λσ H R=>tl σ H λx H1=>∃a,x=.ref a/\(((∃xs,SqL X.K H1 a xs)/\R (Itl X.K a) H1) \/ ((∃xs,SqT X.K H1 a xs)/\R (Itt X.K a) H1))):=by
 intro π s σ H R I h;refine thn (hl π s σ H _ I h) λv s1 kq=>?_;let⟨x,H1,I1,r1,q1⟩:=kq;let⟨a,e,q1⟩:=q1;subst e
 cases r1
 rcases q1 with⟨⟨xs,hq⟩,q⟩|⟨⟨xs,hq⟩,q⟩
 .let⟨its,rv,p,hz⟩:=I1.list hq;refine wpAny_pyIter_list p.isList ?_;refine⟨s1.heap.objs.size,[s1.heap.objs.size],_,_,H1,rfl,I1.kept (t':=s1.toks) λb o e=>AS _ e,zfb a _,⟨_,A7 _ rfl,rfl,rfl⟩,λb hb=>?_,q⟩;have e:b=s1.heap.objs.size:=by simpa using hb
  subst e;exact I1.fpOk (AR _) (I1.hok.fresh (AR _))
 .let⟨its,rv,p,hz⟩:=I1.tuple hq;refine Cn (show s1.heap.IsTuple a its.toArray from p) ?_;refine⟨s1.heap.objs.size,[s1.heap.objs.size],_,_,H1,rfl,I1.kept (t':=s1.toks) λb o e=>AS _ e,zc6 a _,⟨_,A7 _ rfl,rfl,rfl⟩,λb hb=>?_,q⟩;have e:b=s1.heap.objs.size:=by simpa using hb
  subst e;exact I1.fpOk (AR _) (I1.hok.fresh (AR _))
def zb1{k:Bool}{vs:List PV}{xs:List V}{y:AG}(rt:ybs X.K B φ H k y xs)(l:ye X.K S.cl B φ H vs xs):Drw S X B φ H vs (Itt X.K y):=by
 have hl:=l.length;refine⟨λφ' H' s=>⟨xs,(rt.step s).sq,by lia⟩,λi φ' H' s hi=>⟨xs,xs[i]'∅,(rt.step s).sq,by simp[show i<xs.length by lia]⟩,λi φ' H' st x H2 B' hB s rs hi q=>?_⟩;let⟨rfl,q⟩:=q;obtain⟨v,hv⟩:∃v,vs[i]?=AA v:=⟨vs[i],by simp[hi]⟩;let⟨x',hx',rv⟩:=l.get i hv;have:=q xs (rt.step s).sq;rw[this]at hx'
 cases hx'
 exact⟨v,hv,(rv.moreB hB).step s,λ_ _ e=>e⟩
def zb7{vs:List PV}{xs:List V}{y:AG}(rt:ybE B φ H y xs)(l:ye X.K S.cl B φ H vs xs):Drw S X B φ H vs (Itl X.K y):=by
 have hl:=l.length;refine⟨λφ' H' s=>⟨xs,(rt.step s).sq,by lia⟩,λi φ' H' s hi=>⟨xs,xs[i]'∅,(rt.step s).sq,by simp[show i<xs.length by lia]⟩,λi φ' H' st x H2 B' hB s rs hi q=>?_⟩;let⟨rfl,q⟩:=q;obtain⟨v,hv⟩:∃v,vs[i]?=AA v:=⟨vs[i],by simp[hi]⟩;let⟨x',hx',rv⟩:=l.get i hv;have:=q xs (rt.step s).sq;rw[this]at hx'
 cases hx'
 exact⟨v,hv,(rv.moreB hB).step s,λ_ _ e=>e⟩
def zjs(hl:PE X l (tE S X ca)):PI X tg l (tI S X (.seq ca)):=
 (zd7 hl).imp λσ H R ⟨B,φ,st,ρ,rs,re,h⟩=>by
  erw[evi]at h;refine tE.bind rs re h λx H1 v st1 φ1 s1 rs1 re1 rv h1=>?_
  cases v with
  |tp k vs=>
   erw[yc]at rv;let⟨y,xs,rfl,rt,l⟩:=rv;exact⟨y,rfl,.inr ⟨⟨xs,rt.sq⟩,h1.ok rs1 (zb1 rt l)⟩⟩
  |lst vs=>
   erw[yc]at rv;let⟨y,xs,rfl,rt,l⟩:=rv;exact⟨y,rfl,.inl ⟨⟨xs,rt.sq⟩,h1.ok rs1 (zb7 rt l)⟩⟩
  |_=>exact h1.elim
def za2:∀(n:Nat) (lo d:Int) (i:Nat),(yr n lo d)[i]?=if i<n then AA (.int (lo+i*d))else AB
 |0,lo,d,i=>by simp[yr]
 |n+1,lo,d,0=>by simp[yr]
 |n+1,lo,d,i+1=>by
  erw[yr,Ae];rw[za2 n (lo+d) d i]
  by_cases h:i<n
  .rw[if_pos h,if_pos ∅,Int.natCast_succ,Int.add_mul,Int.one_mul,Int.add_assoc,Int.add_comm d]
  .rw[if_neg h,if_neg ∅]
def zS:∀(n:Nat) (lo d:Int),(yr n lo d).length=n
 |0,lo,d=>rfl
 |n+1,lo,d=>by simp[yr,zS n]
def zbM{lo:Int}{n:Nat}:Drw S X B φ H (yr n lo 1) (Itr lo n):=by
 refine⟨λφ' H' s=>by rw[zS];exact AR _,λi φ' H' s hi=>by rw[zS]at hi;exact hi,λi φ' H' st x H2 B' hB s rs hi q=>?_⟩;rw[zS]at hi;let⟨rfl,rfl⟩:=q;refine⟨.int (lo+i),?_,by erw[yc],λ_ _ e=>e⟩;rw[za2,if_pos hi,Gq]
def zhj{o:Option (List PV)}{st:SO}{Q:It->Hp->Prop}(h:Run S X σ B φ H (RD S X B) (toL o st) Q):∃xs,o=AA xs/\Run S X σ B φ H (RD S X B) (.ok xs st) Q:=by
 cases o with
 |none=>exact h.elim
 |some z=>exact⟨z,rfl,h⟩
def zd4(hg:Gl X "range")(hm:X.mg "range"=AB)(ha:PE X a (tE S X ca))(hs:starEach [a] X.env=[(AE,eval a X.env)]:=by rfl):PI X tg (.Call (.Name "range" p) [a] [] pos) (tI S X (.range1 ca)):=
 (zbo hg hm (zB ha zkP hs) hs).imp λσ H R ⟨B,φ,st,ρ,rs,re,h⟩=>by
  erw[evi]at h;refine tE.bind rs re h λx H1 v st1 φ1 s1 rs1 re1 rv h1=>?_;let⟨xs,e,h1⟩:=zhj h1
  cases v with
  |int j=>
   erw[ybP]at e;split at e
   .cases e
    erw[yc]at rv;subst rv;exact⟨j,rfl,by lia,by lia,h1.ok rs1 zbM⟩
   .cases e
  |_=>cases e
def zaC:∀(xs:List PV) (k i:Nat),(yR k xs)[i]?=(xs[i]?).map λx=>.tup [.int ((k+i:Nat):Int),x]
 |[],k,i=>by simp[yR]
 |x::xs,k,0=>by simp[yR]
 |x::xs,k,i+1=>by
  erw[yR,Ae];rw[zaC xs (k+1) i];have:k+1+i=k+(i+1):=by lia
  rw[this]
def zaH:∀(xs:List PV) (k:Nat),(yR k xs).length=xs.length
 |[],k=>rfl
 |x::xs,k=>by simp[yR,zaH xs]
def zfK{k:Bool}{vs:List PV}{xs:List V}{y:AG}(rt:ybs X.K B φ H k y xs)(l:ye X.K S.cl B φ H vs xs):Drw S X B φ H (yR 0 vs) (Ite X.K y):=by
 have hl:=l.length;have hp:=zaH vs 0;refine⟨λφ' H' s=>⟨xs,(rt.step s).sq,by lia⟩,λi φ' H' s hi=>⟨xs,xs[i]'∅,(rt.step s).sq,by simp[show i<xs.length by lia]⟩,λi φ' H' st x H2 B' hB s rs hi q=>?_⟩;let⟨T,hT,rfl,q⟩:=q;obtain⟨v,hv⟩:∃v,vs[i]?=AA v:=⟨vs[i]'∅,by simp[show i<vs.length by lia]⟩;let⟨x',hx',rv⟩:=l.get i hv;have e:=q xs x' (rt.step s).sq hx';subst e;refine⟨.tup [.int i,v],?_,.tup_new hT rs ?_,λb o e=>by rw[za (zc e hT)];exact e⟩
 .rw[zaC,hv];simp
 .simp only[ye,yc];exact⟨_,_,rfl,rfl,x',[],rfl,(rv.moreB hB).step s,rfl⟩
def zhl{es:List AM}{kk:Nat}{tp:Bc}(hg:Gl X "enumerate")(hm:X.mg "enumerate"=AB)(ha:PE X a (tE S X ca))(hs:starEach [a] X.env=[(AE,eval a X.env)]:=by rfl):
  PI X (.Tuple es kk tp) (.Call (.Name "enumerate" p) [a] [] pos) (tI S X (.enum ca)):=
 (zfA hg hm (zB ha zkP hs) hs).imp λσ H R ⟨B,φ,st,ρ,rs,re,h⟩=>by
  erw[evi]at h;refine tE.bind rs re h λx H1 v st1 φ1 s1 rs1 re1 rv h1=>?_
  cases v with
  |tp k vs=>
   erw[yc]at rv;let⟨y,xs,rfl,rt,l⟩:=rv;exact⟨y,rfl,⟨xs,rt.sq⟩,h1.ok rs1 (zfK rt l)⟩
  |_=>exact h1.elim
def tG(S:Se)(X:Cx)(t:Tg):TG:=λv σ H Q=>∃B φ st ρ w ρ',yh X.K S.cl B φ H st/\yp X.K S.cl B φ H ρ σ/\yc X.K S.cl B φ H w v/\yo t w ρ=AA ρ'/\∀σ',yp X.K S.cl B φ H ρ' σ'->Q σ' H
theorem PG.imp{t t':TG}(h:PG X tg t')(k:∀v σ H Q,t v σ H Q->t' v σ H Q):PG X tg t:=λπ s σ H v u Q I rv q=>h π s σ H v u Q I rv (k v σ H Q q)
def ze4{i:Nat}{x:AN}(hN:X.N.Nodup)(hi:X.N[i]?=AA x)(hx:Loc X.env.scope x)(hf:X.fn x=AC \/ X.env.scope.names.lookup x=AA .local:=by first|exact .inl rfl|exact .inr rfl|assumption):PG X (.Name x pos) (tG S X (.n i)):=
 (zeR hN hi hx hf).imp λv σ H Q ⟨B,φ,st,ρ,w,ρ',rs,re,rv,e,q⟩=>by
  cases e
  exact q _ (re.set i rv)
def gNs(l:List Nat):TGs:=λvs σ H Q=>vs.length=l.length/\Q ((l.zip vs).foldl (λσ p=>σ.set p.1 (AA p.2)) σ) H
theorem PGs.imp{es:List AM}{t t':TGs}(h:PGs X es t')(k:∀v σ H Q,t v σ H Q->t' v σ H Q):PGs X es t:=λπ s σ H vs us Q I rv q=>h π s σ H vs us Q I rv (k vs σ H Q q)
def zet:PGs X [] (gNs []):=zlc.imp λvs σ H Q ⟨h,q⟩=>by
 cases vs with
 |nil=>exact⟨rfl,q⟩
 |cons _ _=>cases h
def zcW{es:List AM}{l:List Nat}{i:Nat}{x:AN}(hN:X.N.Nodup)(hi:X.N[i]?=AA x)(hx:Loc X.env.scope x)(h2:PGs X es (gNs l))(hf:X.fn x=AC \/ X.env.scope.names.lookup x=AA .local:=by first|exact .inl rfl|exact .inr rfl|assumption):PGs X (.Name x pos::es) (gNs (i::l)):=
 (zfE (zeR hN hi hx hf) h2).imp λvs σ H Q ⟨h,q⟩=>by
  cases vs with
  |nil=>cases h
  |cons v vs=>exact⟨v,vs,rfl,by simpa using h,q⟩
theorem yp.sets{K:AD}{cl:Nat->AG}:∀(l:List Nat) {vs:List PV} {xs:List V} {ρ:IC.Env} {σ:St},yp K cl B φ H ρ σ->ye K cl B φ H vs xs ->
  yp K cl B φ H ((l.zip vs).foldl (λρ p=>ρ.set p.1 (AA p.2)) ρ) ((l.zip xs).foldl (λσ p=>σ.set p.1 (AA p.2)) σ)
 |[],vs,xs,ρ,σ,re,l=>by simpa using re
 |i::is,[],xs,ρ,σ,re,l=>by
  erw[ye]at l;subst l;simpa using re
 |i::is,v::vs,xs,ρ,σ,re,l=>by
  erw[ye]at l;let⟨y,ys,rfl,r,l⟩:=l;erw[Dc,CP];exact yp.sets is (re.set i r) l
def zgk{es:List AM}{l:List Nat}{k:Nat}(hc:X.calm=AC)(h:PGs X es (gNs l))(hn:(assignEach es X.env).length=l.length:=by rfl)(hst:(assignEach es X.env).findIdx? (·.1)=none:=by rfl):PG X (.Tuple es k pos) (tG S X (.t l)):=
 (zj0 hc h hn hst).imp λv σ H Q ⟨B,φ,st,ρ,w,ρ',rs,re,rv,e,q⟩=>by
  cases w with
  |tp kk vs=>
   erw[yo]at e;split at e
   .rename_i c
    cases e
    erw[yc]at rv;let⟨y,xs,rfl,rt,lr⟩:=rv;have hl:=lr.length;exact⟨y,xs,rfl,rt.sq,by lia,by lia,q _ (yp.sets l re lr)⟩
   .cases e
  |_=>cases e
def zhs{es:List AM}{l:List Nat}{k:Nat}(he:PE X a (tE S X ca))(hg:PG X (.Tuple es k p2) (tG S X (.t l)))(hs:swapsWithSole [.Tuple es k p2] a pos.line X.env=pure false:=by rfl)(hw:swappedStores [.Tuple es k p2] a X.env=pure none:=by rfl):
  PS X (.Assign [.Tuple es k p2] a pos) (tS S X (.asg (.t l) ca)):=
 (zgw he hg hs hw).imp λD σ H ⟨B,φ,st,ρ,rs,re,h⟩=>by
  erw[ex]at h;refine tE.fl rs re h λx H1 v st1 φ1 s rs1 re1 rv h1=>?_
  cases e:yo (.t l) v ρ with
  |none=>rw[e]at h1;exact h1.elim
  |some ρ'=>
   rw[e]at h1;exact⟨B,φ1,st1,ρ,v,ρ',rs1,re1,rv,e,λσ' re'=>h1 σ' H1 φ1 .rfl rs1 re'⟩
theorem tI.fl{k:List PV->SO->Fl}{P:It->Hp->Prop}(rs:yh X.K S.cl B φ H st)(re:yp X.K S.cl B φ H ρ σ)(h:yP S X B φ H ((evi S.call ρ st ci).fl ρ k) D)
  (n:∀x H1 v st1 φ1,Step φ H φ1 H1->yh X.K S.cl B φ1 H1 st1->yp X.K S.cl B φ1 H1 ρ σ->Drw S X B φ1 H1 v x->yP S X B φ1 H1 (k v st1) D->P x H1):tI S X ci σ H P:=by
 refine⟨B,φ,st,ρ,rs,re,?_⟩
 cases e:evi S.call ρ st ci with
 |ok v st'=>
  rw[e]at h;exact λx H' φ' s rs' rv=>n x H' v st' φ' s rs' (re.step s) rv (h.on s)
 |exc k st'=>
  rw[e]at h;exact λe s' x=>h σ φ H e s' .rfl re x
 |bad=>rw[e]at h;exact h
def ziL(hp:DY (model X.prog X.w) X.A X.env X.xe)(hc:X.calm=AC)(hi:PI X tg l (tI S X ci))(hg:PG X tg (tG S X ct))(hb:PSs X ss (tSs S X cs))(hs:∀x,foldedSetIterable l X.env x=pure x:=by intro _;rfl):
  PS X (.For tg l ss [] pos) (tS S X (.for ct ci cs)):=
 (zgA hp hc hi hg hb hs).imp λD σ H ⟨B,φ,st,ρ,rs,re,h⟩=>by
  erw[ex]at h;refine tI.fl rs re h λJ H1 xs st1 φ1 s1 rs1 re1 dr h1=>?_;refine⟨λi m σ H=>∃φ st ρ,i+m=xs.length/\Step φ1 H1 φ H/\yh X.K S.cl B φ H st/\yp X.K S.cl B φ H ρ σ/\yP S X B φ H (forL ct (λρ2 st2=>exs S.call ρ2 st2 cs) (xs.drop i) ρ st) D,
   ⟨xs.length,φ1,st1,ρ,by lia,.rfl,rs1,re1,by simpa using h1⟩,?_⟩
  rintro i m σ2 H2 ⟨φ2,st2,ρ2,hm,s2,rs2,re2,h2⟩
  by_cases hi:i<xs.length
  .refine .inr ⟨dr.go i φ2 H2 s2 hi,λσ' H'=>∃φ st ρ,Step φ1 H1 φ H'/\yh X.K S.cl B φ H' st/\yp X.K S.cl B φ H' ρ σ'/\yP S X B φ H' (forL ct (λρ2 st2=>exs S.call ρ2 st2 cs) (xs.drop (i+1)) ρ st) D,
    λσ' H' ⟨φ,st,ρ,s,q⟩=>⟨m-1,by lia,φ,st,ρ,by lia,s,q⟩,λx H3 hy=>?_⟩
   let⟨v,hv,rv,kk⟩:=dr.yld i φ2 H2 st2 x H3 B (λ_ z=>.inl z) s2 rs2 hi hy;have e:xs.drop i=v::xs.drop (i+1):=by
    rw[BB hi];rw[B7 hi]at hv;rw[AU hv]
   have s3:Step φ2 H2 φ2 H3:=⟨λb o _ e=>kk b o e,AR _,λ_ _ _ e=>e,λ_ h=>.inl h⟩;have rs3:yh X.K S.cl B φ2 H3 st2:=rs2.same kk;rw[e,forL]at h2
   cases eb:yo ct v ρ2 with
   |none=>rw[eb]at h2;exact h2.elim
   |some ρ3=>
    rw[eb]at h2;refine⟨B,φ2,st2,ρ2,v,ρ3,rs3,re2.step s3,rv,eb,λσ' re'=>⟨B,φ2,st2,ρ3,rs3,re',?_⟩⟩;have h3:=yP.on s3 h2;dsimp only at h3
    cases ee:exs S.call ρ3 st2 cs with
    |nx ρ4 st4=>
     rw[ee]at h3;exact λσ4 H4 φ4 s4 rs4 re4=>⟨φ4,st4,ρ4,s2.trans (s3.trans s4),rs4,re4,yP.on s4 h3⟩
    |ct ρ4 st4=>
     rw[ee]at h3;exact λσ4 H4 φ4 s4 rs4 re4=>⟨φ4,st4,ρ4,s2.trans (s3.trans s4),rs4,re4,yP.on s4 h3⟩
    |bk ρ4 st4=>rw[ee]at h3;exact h3
    |rt v4 st4=>rw[ee]at h3;exact h3
    |exc k ρ4 st4=>rw[ee]at h3;exact h3
    |bad=>rw[ee]at h3;exact h3
  .have e:i=xs.length:=by lia
   subst e;rw[CK,forL]at h2;exact .inl ⟨dr.stop φ2 H2 s2,h2 σ2 H2 φ2 .rfl rs2 re2⟩
def zfi(hp:DY (model X.prog X.w) X.A X.env X.xe)(hc:PT X c (tTs S X cc))(hb:PSs X ss (tSs S X cs)):PS X (.While c ss [] pos) (tS S X (.while cc cs)):=
 (zfw hp hc hb).imp λD σ H ⟨B,φ,st,ρ,rs,re,h⟩=>by
  erw[ex]at h;refine⟨λm σ H=>∃φ st ρ,yh X.K S.cl B φ H st/\yp X.K S.cl B φ H ρ σ/\yP S X B φ H (yV (λρ2 st2=>ev S.call ρ2 st2 cc) (λρ2 st2=>exs S.call ρ2 st2 cs) m ρ st) D,⟨100000,φ,st,ρ,rs,re,h⟩,?_⟩
  rintro m σ2 H2 ⟨φ2,st2,ρ2,rs2,re2,h2⟩
  cases m with
  |zero=>exact h2.elim
  |succ m=>
   rw[yV]at h2;rw[flT _ λk st1=>cond k (yam (exs S.call ρ2 st1 cs) λρ2 st2=>yV (λρ2 st2=>ev S.call ρ2 st2 cc) (λρ2 st2=>exs S.call ρ2 st2 cs) m ρ2 st2) (.nx ρ2 st1)]at h2;refine tTs.fl rs2 re2 h2 λk H3 st3 φ3 s3 rs3 re3 h3=>?_
   cases k with
   |false=>exact h3 σ2 H3 φ3 .rfl rs3 re3
   |true=>
    refine⟨λσ' H'=>∃φ st ρ,yh X.K S.cl B φ H' st/\yp X.K S.cl B φ H' ρ σ'/\yP S X B φ H' (yV (λρ2 st2=>ev S.call ρ2 st2 cc) (λρ2 st2=>exs S.call ρ2 st2 cs) m ρ st) D,
     λσ' H' q=>⟨m,by lia,q⟩,B,φ3,st3,ρ2,rs3,re3,?_⟩
    erw[cond_true]at h3
    cases ee:exs S.call ρ2 st3 cs with
    |nx ρ4 st4=>
     rw[ee]at h3;exact λσ4 H4 φ4 s4 rs4 re4=>⟨φ4,st4,ρ4,rs4,re4,yP.on s4 h3⟩
    |ct ρ4 st4=>
     rw[ee]at h3;exact λσ4 H4 φ4 s4 rs4 re4=>⟨φ4,st4,ρ4,rs4,re4,yP.on s4 h3⟩
    |bk ρ4 st4=>rw[ee]at h3;exact h3
    |rt v4 st4=>rw[ee]at h3;exact h3
    |exc k ρ4 st4=>rw[ee]at h3;exact h3
    |bad=>rw[ee]at h3;exact h3
end
end L2
namespace IC
open PySem
def RLe{α:Type}(r q:R α):Prop:=r=.bad \/ r=q
def FLe(f g:Fl):Prop:=f=.bad \/ f=g
abbrev Cl:=Nat->List PV->SO->R PV
def CLe(c d:Cl):Prop:=∀f a s,RLe (c f a s) (d f a s)
theorem RLe.rfl{α:Type}{r:R α}:RLe r r:=.inr (Bw _)
theorem FLe.rfl{f:Fl}:FLe f f:=.inr (Bw _)
theorem RLe.bind{α β:Type}{r q:R α}{k l:α->SO->R β}(h:RLe r q)(hk:∀a s,RLe (k a s) (l a s)):RLe (r.bind k) (q.bind l):=by
 rcases h with h|h
 .subst h;exact .inl (Bw _)
 .subst h
  cases r with
  |ok a s=>exact hk a s
  |exc c s=>exact .rfl
  |bad=>exact .rfl
theorem RLe.fl{α:Type}{r q:R α}{ρ:Env}{k l:α->SO->Fl}(h:RLe r q)(hk:∀a s,FLe (k a s) (l a s)):FLe (r.fl ρ k) (q.fl ρ l):=by
 rcases h with h|h
 .subst h;exact .inl (Bw _)
 .subst h
  cases r with
  |ok a s=>exact hk a s
  |exc c s=>exact .rfl
  |bad=>exact .rfl
theorem RLe.comp{r q:R (List PV)}(h:RLe r q):RLe (ya0 r) (ya0 q):=by
 rcases h with h|h
 .subst h;exact .inl (Bw _)
 .subst h;exact .rfl
def zev{α:Type}{x:PV}{k l:Bool->R α}(h:∀b,RLe (k b) (l b)):RLe (onBl x k) (onBl x l):=by
 cases x with
 |bl b=>exact h b
 |_=>exact .rfl
def zbJ{α:Type}{x:Option Bool}{k l:Bool->R α}(h:∀b,RLe (k b) (l b)):RLe (onO x k) (onO x l):=by
 cases x with
 |some b=>exact h b
 |none=>exact .rfl
def zgB{x:Option Bool}{k l:Bool->Fl}(h:∀b,FLe (k b) (l b)):FLe (onF x k) (onF x l):=by
 cases x with
 |some b=>exact h b
 |none=>exact .rfl
def ziW{α:Type}{x:Option (Option Int)}{k l:Option Int->R α}(h:∀b,RLe (k b) (l b)):RLe (onP x k) (onP x l):=by
 cases x with
 |some b=>exact h b
 |none=>exact .rfl
def zaN{α:Type}{b:Bool}{r q r' q':R α}(h:RLe r q)(h':RLe r' q'):RLe (cond b r r') (cond b q q'):=by
 cases b
 .exact h'
 .exact h
def zcX{b:Bool}{r q r' q':Fl}(h:FLe r q)(h':FLe r' q'):FLe (cond b r r') (cond b q q'):=by
 cases b
 .exact h'
 .exact h
def zaq{f g:PV->SO->R (Option PV)}(h:∀x s,RLe (f x s) (g x s)):∀xs s,RLe (compL f xs s) (compL g xs s)
 |[],s=>.rfl
 |x::xs,s=>(h x s).bind λo s1=>(zaq h xs s1).bind λys s2=>.rfl
def za4{f g:PV->SO->R (List PV)}(h:∀x s,RLe (f x s) (g x s)):∀xs s,RLe (yae f xs s) (yae g xs s)
 |[],s=>.rfl
 |x::xs,s=>(h x s).bind λo s1=>(za4 h xs s1).bind λys s2=>.rfl
def zcv{f g:PV->SO->R (PV×PV)}(h:∀x s,RLe (f x s) (g x s)):∀xs acc s,RLe (yaw f xs acc s) (yaw g xs acc s)
 |[],acc,s=>.rfl
 |x::xs,acc,s=>(h x s).bind λp s1=>by
  split
  .exact zcv h xs _ s1
  .exact .rfl
theorem RLe.emR{a b:R PV}(h:RLe a b):RLe (emR a) (emR b):=by
 rcases h with h|h
 .subst h;exact .inl (Bw R.bad)
 .subst h;exact .rfl
theorem RLe.tupR{a b:R (List PV)}(h:RLe a b):RLe (tupR a) (tupR b):=by
 rcases h with h|h
 .subst h;exact .inl (Bw R.bad)
 .subst h;exact .rfl
theorem RLe.dctR{a b:R (List (PV×PV))}(h:RLe a b):RLe (dctR a) (dctR b):=by
 rcases h with h|h
 .subst h;exact .inl (Bw R.bad)
 .subst h;exact .rfl
def zaB{f g:Fl}{k l:Env->SO->Fl}(h:FLe f g)(hk:∀ρ s,FLe (k ρ s) (l ρ s)):FLe (yam f k) (yam g l):=by
 rcases h with h|h
 .subst h;exact .inl (Bw _)
 .subst h
  cases f with
  |nx ρ s=>exact hk ρ s
  |ct ρ s=>exact hk ρ s
  |_=>exact .rfl
def za7{t:Tg}{f g:Env->SO->Fl}(h:∀ρ s,FLe (f ρ s) (g ρ s)):∀xs ρ s,FLe (forL t f xs ρ s) (forL t g xs ρ s)
 |[],ρ,s=>.rfl
 |x::xs,ρ,s=>by
  unfold forL
  cases yo t x ρ with
  |none=>exact .rfl
  |some ρ1=>exact zaB (h ρ1 s) λρ2 s2=>za7 h xs ρ2 s2
def zdv{t:Tg}{f g:Env->SO->Fl}{n:Nat}(h:∀ρ s,FLe (f ρ s) (g ρ s)):∀k i ρ s,FLe (ya8 t f n k i ρ s) (ya8 t g n k i ρ s)
 |0,i,ρ,s=>.rfl
 |k+1,i,ρ,s=>by
  unfold ya8
  cases s[n]? with
  |none=>exact .rfl
  |some o=>
   cases o with
   |lst xs=>
    dsimp only
    cases xs[i]? with
    |none=>exact .rfl
    |some x=>
     dsimp only
     cases yo t x ρ with
     |none=>exact .rfl
     |some ρ1=>exact zaB (h ρ1 s) λρ2 s2=>zdv h k (i+1) ρ2 s2
   |_=>exact .rfl
def zbv{t u:Env->SO->R PV}{f g:Env->SO->Fl}(ht:∀ρ s,RLe (t ρ s) (u ρ s))(h:∀ρ s,FLe (f ρ s) (g ρ s)):∀n ρ s,FLe (yV t f n ρ s) (yV u g n ρ s)
 |0,ρ,s=>.rfl
 |n+1,ρ,s=>by
  unfold yV;exact(ht ρ s).fl λx s1=>zgB λb=>zcX (zaB (h ρ s1) λρ2 s2=>zbv ht h n ρ2 s2) .rfl
mutual
theorem zb{c d:Cl}(h:CLe c d):∀(e:Ce) (ρ:Env) (s:SO),RLe (ev c ρ s e) (ev d ρ s e)
 |.cst v,ρ,s=>by exact .rfl
 |.var i,ρ,s=>by exact .rfl
 |.bin o a b,ρ,s=>by
  exact(zb h a ρ s).bind λx s1=>(zb h b ρ s1).bind λy s2=>.rfl
 |.not a,ρ,s=>by
  exact(zb h a ρ s).bind λx s1=>.rfl
 |.and a b,ρ,s=>by
  refine(zb h a ρ s).bind λx s1=>?_;exact zev λk=>zaN (zb h b ρ s1) .rfl
 |.or a b,ρ,s=>by
  refine(zb h a ρ s).bind λx s1=>?_;exact zev λk=>zaN .rfl (zb h b ρ s1)
 |.cmp o a b,ρ,s=>by
  exact(zb h a ρ s).bind λx s1=>(zb h b ρ s1).bind λy s2=>.rfl
 |.ite k a b,ρ,s=>by
  exact(zb h k ρ s).bind λx s1=>zbJ λq=>zaN (zb h a ρ s1) (zb h b ρ s1)
 |.tup es,ρ,s=>by
  exact(zA h es ρ s).bind λx s1=>.rfl
 |.lst es,ρ,s=>by
  exact(zA h es ρ s).bind λx s1=>.rfl
 |.newl es,ρ,s=>by
  exact(zA h es ρ s).bind λx s1=>.rfl
 |.idx a i,ρ,s=>by
  exact(zb h a ρ s).bind λx s1=>(zb h i ρ s1).bind λy s2=>.rfl
 |.slc a l u,ρ,s=>by
  exact(zb h a ρ s).bind λx s1=>(zb h l ρ s1).bind λy s2=>ziW λo=>(zb h u ρ s2).bind λz s3=>.rfl
 |.call f es,ρ,s=>by
  exact(zA h es ρ s).bind λx s1=>h f x s1
 |.blt b es,ρ,s=>by
  exact(zA h es ρ s).bind λx s1=>.rfl
 |.mth m o es,ρ,s=>by
  exact(zb h o ρ s).bind λx s1=>zbJ λ_=>(zA h es ρ s1).bind λy s2=>.rfl
 |.isx a cs ts,ρ,s=>by
  exact(zb h a ρ s).bind λx s1=>.rfl
 |.comp sl tg it k e,ρ,s=>by
  refine(zaQ h it ρ s).bind λxs s1=>?_;have q:=λ(f g:PV->SO->R (Option PV)) (hfg:∀x s,RLe (f x s) (g x s))=>zaq hfg xs s1;refine RLe.comp (zaq (λx s2=>?_) xs s1)
  cases yo tg x _ with
  |none=>exact .rfl
  |some ρ1=>
   dsimp only;exact(zb h k ρ1 s2).bind λb s3=>zbJ λq=>zaN ((zb h e ρ1 s3).bind λy s4=>.rfl) .rfl
 |.nope,ρ,s=>by exact .rfl
 |.fst es,ρ,s=>by
  first|unfold ev|unfold ex|unfold evs|unfold evi|unfold exs
  rcases zA h es ρ s with e|e
  .rw[e];exact .inl (Bw _)
  .rw[e];exact .rfl
 |.rep a b,ρ,s=>by
  exact(zb h a ρ s).bind λx s1=>(zb h b ρ s1).bind λy s2=>.rfl
 |.thw a,ρ,s=>by
  exact(zb h a ρ s).bind λx s1=>.rfl
 |.nin a b,ρ,s=>by
  exact(zb h a ρ s).bind λx s1=>(zb h b ρ s1).bind λy s2=>.rfl
 |.dgt a i,ρ,s=>by
  exact(zb h a ρ s).bind λx s1=>(zb h i ρ s1).bind λy s2=>.rfl
 |.qcl i es,ρ,s=>by
  refine(zA h es ρ s).bind λx s1=>?_;rcases h i x s1 with e|e
  .rw[e];exact .inl (Bw _)
  .rw[e];exact .rfl
 |.cmq sl tg it m,ρ,s=>by
  refine(zaQ h it ρ s).bind λxs s1=>?_;refine RLe.comp (za4 (λx s2=>?_) xs s1);split
  .exact .rfl
  .exact(zb h m _ s2).emR
 |.emq tg it m,ρ,s=>by
  refine(zaQ h it ρ s).bind λxs s1=>?_;split
  .refine RLe.tupR (za4 (λx s2=>?_) xs s1);split
   .exact .rfl
   .exact(zb h m _ s2).emR
  .exact .rfl
 |.dcm sl tg it k v,ρ,s=>by
  refine(zaQ h it ρ s).bind λxs s1=>?_;dsimp only;split
  .refine RLe.dctR (zcv (λx s2=>?_) xs [] s1);split
   .exact .rfl
   .exact(zb h k _ s2).bind λa s3=>(zb h v _ s3).bind λb s4=>.rfl
  .exact .rfl
theorem zA{c d:Cl}(h:CLe c d):∀(e:Ces) (ρ:Env) (s:SO),RLe (evs c ρ s e) (evs d ρ s e)
 |.nil,ρ,s=>by exact .rfl
 |.cons e es,ρ,s=>by
  exact(zb h e ρ s).bind λx s1=>(zA h es ρ s1).bind λy s2=>.rfl
theorem zaQ{c d:Cl}(h:CLe c d):∀(e:Cit) (ρ:Env) (s:SO),RLe (evi c ρ s e) (evi d ρ s e)
 |.seq e,ρ,s=>by
  exact(zb h e ρ s).bind λx s1=>.rfl
 |.range1 a,ρ,s=>by
  exact(zb h a ρ s).bind λx s1=>.rfl
 |.range2 a b,ρ,s=>by
  exact(zb h a ρ s).bind λx s1=>(zb h b ρ s1).bind λy s2=>.rfl
 |.rangeD a b,ρ,s=>by
  exact(zb h a ρ s).bind λx s1=>(zb h b ρ s1).bind λy s2=>.rfl
 |.enum e,ρ,s=>by
  exact(zb h e ρ s).bind λx s1=>.rfl
 |.zip a b,ρ,s=>by
  exact(zb h a ρ s).bind λx s1=>(zb h b ρ s1).bind λy s2=>.rfl
 |.revl e,ρ,s=>by
  exact(zb h e ρ s).bind λx s1=>.rfl
 |.revr e,ρ,s=>by
  exact(zb h e ρ s).bind λx s1=>.rfl
 |.chars e,ρ,s=>by
  exact(zb h e ρ s).bind λx s1=>.rfl
end
mutual
theorem zkx{c d:Cl}(h:CLe c d):∀(x:Cs) (ρ:Env) (s:SO),FLe (ex c ρ s x) (ex d ρ s x)
 |.expr e,ρ,s=>by
  exact(zb h e ρ s).fl λx s1=>.rfl
 |.asg t e,ρ,s=>by
  exact(zb h e ρ s).fl λx s1=>.rfl
 |.six o i e,ρ,s=>by
  exact(zb h e ρ s).fl λx s1=>(zb h o ρ s1).fl λy s2=>(zb h i ρ s2).fl λz s3=>.rfl
 |.aug i o e,ρ,s=>by
  first|unfold ev|unfold ex|unfold evs|unfold evi|unfold exs
  split
  .exact(zb h e ρ s).fl λx s1=>.rfl
  .exact .rfl
 |.ret e,ρ,s=>by
  exact(zb h e ρ s).fl λx s1=>.rfl
 |.ite k a b,ρ,s=>by
  exact(zb h k ρ s).fl λx s1=>zgB λq=>zcX (zJ h a ρ s1) (zJ h b ρ s1)
 |.for t it b,ρ,s=>by
  exact(zaQ h it ρ s).fl λxs s1=>za7 (λρ2 s2=>zJ h b ρ2 s2) xs ρ s1
 |.forl t e b,ρ,s=>by
  refine(zb h e ρ s).fl λx s1=>?_
  cases x with
  |tp k xs=>exact za7 (λρ2 s2=>zJ h b ρ2 s2) xs ρ s1
  |lst xs=>exact za7 (λρ2 s2=>zJ h b ρ2 s2) xs ρ s1
  |loc n=>exact zdv (λρ2 s2=>zJ h b ρ2 s2) 100000 0 ρ s1
  |_=>exact .rfl
 |.while k b,ρ,s=>by
  exact zbv (λρ2 s2=>zb h k ρ2 s2) (λρ2 s2=>zJ h b ρ2 s2) _ ρ s
 |.nope,ρ,s=>by exact .rfl
 |.raise k e,ρ,s=>by
  exact(zb h e ρ s).fl λx s1=>.rfl
 |.try b k i u,ρ,s=>by
  first|unfold ev|unfold ex|unfold evs|unfold evi|unfold exs
  rcases zJ h b ρ s with e|e
  .rw[e];exact .inl (Bw _)
  .rw[e]
   cases exs d ρ s b with
   |exc q ρ1 s1=>
    dsimp only;split
    .rcases zJ h u (ρ1.set i (AA (.exn q))) s1 with e|e
     .rw[e];exact .inl (Bw _)
     .rw[e];exact .rfl
    .exact .rfl
   |_=>exact .rfl
 |.mkr i D n es,ρ,s=>by
  refine(zb h n ρ s).fl λx s1=>?_;split
  .exact((zA h es _ s1).bind λvs s2=>h _ vs s2).fl λv s3=>.rfl
  .exact .rfl
theorem zJ{c d:Cl}(h:CLe c d):∀(x:Css) (ρ:Env) (s:SO),FLe (exs c ρ s x) (exs d ρ s x)
 |.nil,ρ,s=>by exact .rfl
 |.cons x xs,ρ,s=>by
  first|unfold ev|unfold ex|unfold evs|unfold evi|unfold exs
  rcases zkx h x ρ s with e|e
  .rw[e];exact .inl (Bw _)
  .rw[e]
   cases ex d ρ s x with
   |nx ρ1 s1=>exact zJ h xs ρ1 s1
   |_=>exact .rfl
end
def zbV(T:Nat->Option Fn):∀k,CLe (yd T k) (yd T (k+1))
 |0,f,a,s=>.inl (Bw _)
 |k+1,f,a,s=>by
  have h:=zbV T k;rw[yd,yd]
  cases T f with
  |none=>exact .rfl
  |some fn=>
   dsimp only;split
   .split
    .split
     .rcases zJ h fn.body (a.map AA++AK (fn.ns-fn.np) AB) []with e|e
      .rw[e];exact .inl (Bw _)
      .rw[e];exact .rfl
     .exact .rfl
    .rcases zJ h fn.body (a.map AA++AK (fn.ns-fn.np) AB) s with e|e
     .rw[e];exact .inl (Bw _)
     .rw[e];exact .rfl
   .exact .rfl
def zT{T:Nat->Option Fn}{k:Nat}{f:Nat}{a:List PV}{s s':SO}{v:PV}(h:yd T k f a s=.ok v s'):∀j,yd T (k+j) f a s=.ok v s'
 |0=>h
 |j+1=>by
  have q:=zT h j;rcases zbV T (k+j) f a s with e|e
  .rw[q]at e;cases e
  .rw[G0]at e;rw[<-e];exact q
def yaM(call:Cl)(t:Tg)(b:Css)(xs:List PV)(ρ:Env)(st:SO):Fl:=forL t (λρ2 st2=>exs call ρ2 st2 b) xs ρ st
def yav(call:Cl)(c:Ce)(b:Css)(n:Nat)(ρ:Env)(st:SO):Fl:=yV (λρ2 st2=>ev call ρ2 st2 c) (λρ2 st2=>exs call ρ2 st2 b) n ρ st
def ybp(call:Cl)(ρ0:Env)(t:Tg)(c e:Ce)(x:PV)(st2:SO):R (Option PV):=match yo t x ρ0 with
 |none=>.bad
 |some ρ1=>(ev call ρ1 st2 c).bind λb st3=>onO (yar st3 b) λk=>cond k ((ev call ρ1 st3 e).bind λy st4=>.ok (AA y) st4) (.ok AB st3)
def yU(call:Cl)(ρ0:Env)(t:Tg)(c e:Ce)(xs:List PV)(st:SO):R (List PV):=compL (ybp call ρ0 t c e) xs st
def yaA(f:Fl)(k:Env->SO->Fl):Fl:=
 match f with
 |.nx ρ st=>k ρ st
 |f=>f
def nxO(o:Option Env)(st:SO):Fl:=
 match o with
 |some ρ=>.nx ρ st
 |none=>.bad
def stO(ρ:Env)(o:Option SO):Fl:=
 match o with
 |some st=>.nx ρ st
 |none=>.bad
section
variable {call:Cl}{ρ:Env}{st:SO}
theorem x_for{t:Tg}{it:Cit}{b:Css}:ex call ρ st (.for t it b)=(evi call ρ st it).fl ρ λxs st1=>yaM call t b xs ρ st1:=rfl
def zg4{c:Ce}{b:Css}:ex call ρ st (.while c b)=yav call c b 100000 ρ st:=rfl
theorem v_comp{sl:List (Option Nat)}{t:Tg}{it:Cit}{c e:Ce}:ev call ρ st (.comp sl t it c e)=(evi call ρ st it).bind λxs st1=>ya0 (yU call (sl.map λo=>o.bind λj=>(ρ[j]?).join) t c e xs st1):=rfl
def zQ{t:Tg}{b:Css}:yaM call t b [] ρ st=.nx ρ st:=rfl
def zD{t:Tg}{b:Css}{x:PV}{xs:List PV}{ρ1:Env}(h:yo t x ρ=AA ρ1):yaM call t b (x::xs) ρ st=yam (exs call ρ1 st b) λρ2 st2=>yaM call t b xs ρ2 st2:=by
 rw[yaM,forL,h];rfl
def zcQ{t:Tg}{b:Css}(P:Nat->Env->SO->Prop):∀(xs:List PV) (i:Nat) (ρ:Env) (st:SO),P i ρ st ->
  (∀(j:Nat) (x:PV) (ρ:Env) (st:SO),xs[j]?=AA x->P (i+j) ρ st->∃ρ1 ρ2 st2,yo t x ρ=AA ρ1/\exs call ρ1 st b=.nx ρ2 st2/\P (i+j+1) ρ2 st2) ->
  ∃ρ' st',yaM call t b xs ρ st=.nx ρ' st'/\P (i+xs.length) ρ' st'
 |[],i,ρ,st,h,_=>⟨ρ,st,zQ,h⟩
 |x::xs,i,ρ,st,h,k=>by
  let⟨ρ1,ρ2,st2,e1,e2,h2⟩:=k 0 x ρ st rfl h;let⟨ρ',st',e3,h3⟩:=zcQ P xs (i+1) ρ2 st2 h2 λj y ρ st hy hp=>by
   have:=k (j+1) y ρ st (by simpa using hy) (by rw[show i+(j+1)=i+1+j by lia];exact hp);rw[show i+(j+1)+1=i+1+j+1 by lia]at this;exact this
  refine⟨ρ',st',?_,by rw[Ag,show i+(xs.length+1)=i+1+xs.length by lia];exact h3⟩;rw[zD e1,e2];exact e3
def zdA{c:Ce}{b:Css}{n:Nat}{x:PV}{st1 st2:SO}{ρ2:Env}(h:ev call ρ st c=.ok x st1)(ht:yar st1 x=AA AC)(hb:exs call ρ st1 b=.nx ρ2 st2):yav call c b (n+1) ρ st=yav call c b n ρ2 st2:=by
 rw[yav,yV,h];erw[R.fl,ht,onF,cond_true,hb,yam];rfl
def zca{c:Ce}{b:Css}{n:Nat}{x:PV}{st1:SO}(h:ev call ρ st c=.ok x st1)(ht:yar st1 x=AA AE):yav call c b (n+1) ρ st=.nx ρ st1:=by
 rw[yav,yV,h];erw[R.fl,ht,onF,cond_false]
def zO{ρ0:Env}{t:Tg}{c e:Ce}:yU call ρ0 t c e [] st=.ok [] st:=rfl
def zq{ρ0:Env}{t:Tg}{c e:Ce}{x:PV}{xs:List PV}:yU call ρ0 t c e (x::xs) st=(ybp call ρ0 t c e x st).bind λo st1=>(yU call ρ0 t c e xs st1).bind λys st2=>.ok (ybd o ys) st2:=rfl
theorem xs_nil:exs call ρ st .nil=.nx ρ st:=rfl
theorem xs_cons{s:Cs}{ss:Css}:exs call ρ st (.cons s ss)=yaA (ex call ρ st s) λρ1 st1=>exs call ρ1 st1 ss:=rfl
theorem x_asg{t:Tg}{e:Ce}:ex call ρ st (.asg t e)=(ev call ρ st e).fl ρ λv st1=>nxO (yo t v ρ) st1:=rfl
theorem x_expr{e:Ce}:ex call ρ st (.expr e)=(ev call ρ st e).fl ρ λ_ st1=>.nx ρ st1:=rfl
theorem x_ret{e:Ce}:ex call ρ st (.ret e)=(ev call ρ st e).fl ρ λv st1=>.rt v st1:=rfl
theorem x_ite{c:Ce}{a b:Css}:ex call ρ st (.ite c a b)=(ev call ρ st c).fl ρ λx st1=>onF (yar st1 x) λk=>cond k (exs call ρ st1 a) (exs call ρ st1 b):=rfl
theorem x_raise{c:Nat}{e:Ce}:ex call ρ st (.raise c e)=(ev call ρ st e).fl ρ λ_ st1=>.exc c ρ st1:=rfl
def yda(i:Nat)(f:Fl):Fl:=
 match f with
 |.nx ρ2 st2=>.nx (ρ2.set i AB) st2
 |.rt v st2=>.rt v st2
 |_=>.bad
def yce(cs:List Nat)(i:Nat)(f:Fl)(k:Env->SO->Nat->Fl):Fl:=
 match f with
 |.exc d ρ1 st1=>if cs.contains d then yda i (k ρ1 st1 d)else .bad
 |f=>f
theorem x_try{b h:Css}{cs:List Nat}{i:Nat}:ex call ρ st (.try b cs i h)=yce cs i (exs call ρ st b) λρ1 st1 d=>exs call (ρ1.set i (AA (.exn d))) st1 h:=rfl
theorem x_six{o i e:Ce}:ex call ρ st (.six o i e)=(ev call ρ st e).fl ρ λv st1=>(ev call ρ st1 o).fl ρ λx st2=>(ev call ρ st2 i).fl ρ λy st3=>stO ρ (yaY st3 x y v):=rfl
theorem x_aug{i:Nat}{o:BOp}{e:Ce}{x:PV}(h:ρ[i]?=AA (AA x)):ex call ρ st (.aug i o e)=(ev call ρ st e).fl ρ λy st1=>nxO ((yba o x y).map λz=>ρ.set i (AA z)) st1:=by
 rw[ex,h];show (ev call ρ st e).fl ρ _=_;refine congrArg _ (funext λy=>funext λst1=>?_)
 cases yba o x y<;>rfl
end
theorem ve1(call:Nat->List PV->SO->R PV)(ρ:Env)(st:SO)(v:PV):
  ev call ρ st (Ce.cst v)=R.ok v st:=rfl
theorem ve2(call:Nat->List PV->SO->R PV)(ρ:Env)(st:SO)(i:Nat):
  ev call ρ st (Ce.var i) =
  match ρ[i]? with
  |some (AA v)=>R.ok v st
  |x=>R.bad:=rfl
theorem ve3(call:Nat->List PV->SO->R PV)(ρ:Env)(st:SO)(o:BOp)(a b:Ce):
  ev call ρ st (Ce.bin o a b)=R.bind (ev call ρ st a) λx st1=>R.bind (ev call ρ st1 b) λy st2=>toR (yx o x y) st2:=rfl
theorem ve5(call:Nat->List PV->SO->R PV)(ρ:Env)(st:SO)(a:Ce):
  ev call ρ st (Ce.not a)=R.bind (ev call ρ st a) λx st1=>onBl x λk=>R.ok (PV.bl !k) st1:=rfl
theorem ve6(call:Nat->List PV->SO->R PV)(ρ:Env)(st:SO)(a b:Ce):
  ev call ρ st (Ce.and a b)=R.bind (ev call ρ st a) λx st1=>onBl x λk=>bif k then ev call ρ st1 b else R.ok (PV.bl AE) st1:=rfl
theorem ve7(call:Nat->List PV->SO->R PV)(ρ:Env)(st:SO)(a b:Ce):
  ev call ρ st (Ce.or a b)=R.bind (ev call ρ st a) λx st1=>onBl x λk=>bif k then R.ok (PV.bl AC) st1 else ev call ρ st1 b:=rfl
theorem ve8(call:Nat->List PV->SO->R PV)(ρ:Env)(st:SO)(o:COp)(a b:Ce):
  ev call ρ st (Ce.cmp o a b)=R.bind (ev call ρ st a) λx st1=>R.bind (ev call ρ st1 b) λy st2=>toR (yI o x y) st2:=rfl
theorem ve10(call:Nat->List PV->SO->R PV)(ρ:Env)(st:SO)(c a b:Ce):
  ev call ρ st (Ce.ite c a b)=R.bind (ev call ρ st c) λx st1=>onO (yar st1 x) λk=>bif k then ev call ρ st1 a else ev call ρ st1 b:=rfl
theorem ve11(call:Nat->List PV->SO->R PV)(ρ:Env)(st:SO)(es:Ces):
  ev call ρ st (Ce.tup es)=R.bind (evs call ρ st es) λvs st1=>if Bv vs<=sizeMax then R.ok (PV.tup vs) st1 else R.bad:=rfl
theorem ve12(call:Nat->List PV->SO->R PV)(ρ:Env)(st:SO)(es:Ces):
  ev call ρ st (Ce.lst es)=R.bind (evs call ρ st es) λvs st1=>if Bv vs<=sizeMax then R.ok (PV.lst vs) st1 else R.bad:=rfl
theorem ve13(call:Nat->List PV->SO->R PV)(ρ:Env)(st:SO)(es:Ces):
  ev call ρ st (Ce.newl es)=R.bind (evs call ρ st es) λvs st1=>if Bv vs<=sizeMax then R.ok (PV.loc (Bv st1)) (st1++[Ob.lst vs])else R.bad:=rfl
theorem ve16(call:Nat->List PV->SO->R PV)(ρ:Env)(st:SO)(a i:Ce):
  ev call ρ st (Ce.idx a i)=R.bind (ev call ρ st a) λx st1=>R.bind (ev call ρ st1 i) λy st2=>toR (idxV st2 x y) st2:=rfl
theorem ve17(call:Nat->List PV->SO->R PV)(ρ:Env)(st:SO)(a l h:Ce):
  ev call ρ st (Ce.slc a l h)=R.bind (ev call ρ st a) λx st1=>R.bind (ev call ρ st1 l) λy st2=>onP (ybW y) λo=>R.bind (ev call ρ st2 h) λz st3=>toR (ycW x o z) st3:=rfl
theorem ve18(call:Nat->List PV->SO->R PV)(ρ:Env)(st:SO)(f:Nat)(es:Ces):
  ev call ρ st (Ce.call f es)=R.bind (evs call ρ st es) λvs st1=>call f vs st1:=rfl
theorem ve19(call:Nat->List PV->SO->R PV)(ρ:Env)(st:SO)(b:Blt)(es:Ces):
  ev call ρ st (Ce.blt b es)=R.bind (evs call ρ st es) λvs st1=>toR (yaB b st1 vs) st1:=rfl
theorem ve20(call:Nat->List PV->SO->R PV)(ρ:Env)(st:SO)(m:Mth)(o:Ce)(es:Ces):
  ev call ρ st (Ce.mth m o es)=R.bind (ev call ρ st o) λx st1=>onO (yax m st1 x) λx_1=>R.bind (evs call ρ st1 es) λvs st2=>ybJ m st2 x vs:=rfl
theorem ve22(call:Nat->List PV->SO->R PV)(ρ:Env)(st:SO)(a:Ce)(cs:List Nat)(ts:List Ty):
  ev call ρ st (Ce.isx a cs ts)=R.bind (ev call ρ st a) λx st1=>toR (ycw cs x ts) st1:=rfl
theorem ve24(call:Nat->List PV->SO->R PV)(ρ:Env)(st:SO):
  ev call ρ st Ce.nope=R.bad:=rfl
theorem ve26(call:Nat->List PV->SO->R PV)(ρ:Env)(st:SO)(es:Ces):
  ev call ρ st (Ce.fst es)=yd2 (evs call ρ st es):=rfl
theorem ve27(call:Nat->List PV->SO->R PV)(ρ:Env)(st:SO)(a b:Ce):
  ev call ρ st (Ce.rep a b)=R.bind (ev call ρ st a) λx st1=>R.bind (ev call ρ st1 b) λy st2=>toR (ycB x y) st2:=rfl
theorem ve30(call:Nat->List PV->SO->R PV)(ρ:Env)(st:SO)(a:Ce):
  ev call ρ st (Ce.thw a)=R.bind (ev call ρ st a) λx st1=>ydl x st1:=rfl
theorem ve31(call:Nat->List PV->SO->R PV)(ρ:Env)(st:SO)(a b:Ce):
  ev call ρ st (Ce.nin a b)=R.bind (ev call ρ st a) λx st1=>R.bind (ev call ρ st1 b) λy st2=>toR (ybL st2 x y) st2:=rfl
theorem ve34(call:Nat->List PV->SO->R PV)(ρ:Env)(st:SO)(a i:Ce):
  ev call ρ st (Ce.dgt a i)=R.bind (ev call ρ st a) λx st1=>R.bind (ev call ρ st1 i) λy st2=>toR (ycP st2 x y) st2:=rfl
theorem ve35(call:Nat->List PV->SO->R PV)(ρ:Env)(st:SO)(i:Nat)(es:Ces):
  ev call ρ st (Ce.qcl i es)=R.bind (evs call ρ st es) λvs st1=>yaZ (call i vs st1):=rfl
def ybj(call:Cl)(ρ0:Env)(t:Tg)(m:Ce)(x:PV)(st:SO):R (List PV):=match yo t x ρ0 with
 |none=>.bad
 |some ρ1=>emR (ev call ρ1 st m)
def yb1(call:Cl)(ρ0:Env)(t:Tg)(k v:Ce)(x:PV)(st:SO):R (PV×PV):=match yo t x ρ0 with
 |none=>.bad
 |some ρ1=>(ev call ρ1 st k).bind λa st3=>(ev call ρ1 st3 v).bind λb st4=>.ok (a,b) st4
theorem ve52(call:Nat->List PV->SO->R PV)(ρ:Env)(st:SO)(sl:List (Option Nat))(tg:Tg)(it:Cit)(m:Ce):
  ev call ρ st (Ce.cmq sl tg it m)=R.bind (evi call ρ st it) λxs st1=>ya0 (yae (ybj call (sl.map λo=>o.bind λj=>(ρ[j]?).join) tg m) xs st1):=rfl
theorem ve53(call:Nat->List PV->SO->R PV)(ρ:Env)(st:SO)(tg:Tg)(it:Cit)(m:Ce):
  ev call ρ st (Ce.emq tg it m)=R.bind (evi call ρ st it) λxs st1=>if yaf tg ρ=AC then tupR (yae (ybj call ρ tg m) xs st1)else .bad:=rfl
theorem ve54(call:Nat->List PV->SO->R PV)(ρ:Env)(st:SO)(sl:List (Option Nat))(tg:Tg)(it:Cit)(k v:Ce):
  ev call ρ st (Ce.dcm sl tg it k v)=R.bind (evi call ρ st it) λxs st1=>if xs.length<=1000000 then dctR (yaw (yb1 call (sl.map λo=>o.bind λj=>(ρ[j]?).join) tg k v) xs [] st1)else .bad:=rfl
end IC
namespace L2
open PySem PySem.Spec PyProof.Rows IC
section
variable (S:Se)(K:AD)
def yeW{α β:Type}(B:AG->Prop)(φ:Ph)(H:Hp)(Rel:Ph->Hp->α->β->Prop)(r:R α)(Q:β->Hp->Prop):Prop:=
 match r with
 |.ok v st'=>∀x H' φ',Step φ H φ' H'->yh K S.cl B φ' H' st'->Rel φ' H' v x->Q x H'
 |_=>False
def tE0(c:Ce):TE:=λσ H Q=>∃B φ st ρ,yh K S.cl B φ H st/\yp K S.cl B φ H ρ σ/\yeW S K B φ H (λφ H=>yc K S.cl B φ H) (ev S.call ρ st c) Q
def tT0(c:Ce):TT:=λσ H Q=>∃B φ st ρ,yh K S.cl B φ H st/\yp K S.cl B φ H ρ σ/\yeW S K B φ H RB (yaz (ev S.call ρ st c)) Q
def tG0(t:Tg):TG:=λv σ H Q=>∃B φ st ρ w ρ',yh K S.cl B φ H st/\yp K S.cl B φ H ρ σ/\yc K S.cl B φ H w v/\yo t w ρ=AA ρ'/\∀σ',yp K S.cl B φ H ρ' σ'->Q σ' H
end
section
variable {S:Se}{X:Cx}{K:AD}{cl:Nat->AG}{σ:St}{B:AG->Prop}{φ φ1:Ph}{H H1:Hp}{st:SO}{ρ:IC.Env}{pos p p2 px:Bc}{a b c o tg l elt iter:AM}{ca cb cc ce:Ce}{ci:Cit}{ct:Tg}
def zav(hK:X.K=K)(h:PE X a (tE S X ca)):PE X a (tE0 S K ca):=by
 subst hK;refine h.imp λσ H Q kq=>?_;let⟨B,φ,st,ρ,rs,re,q⟩:=kq;refine ⟨B,φ,st,ρ,rs,re,?_⟩
 cases e:ev S.call ρ st ca with
 |ok v st'=>rw[e]at q;exact q
 |exc k st'=>rw[e]at q;exact q.elim
 |bad=>rw[e]at q;exact q
def zh3(hK:X.K=K)(h:PT X a (tTs S X ca)):PTs X [a] (tT0 S K ca):=by
 subst hK;refine zhG (h.imp λσ H Q kq=>?_);let⟨B,φ,st,ρ,rs,re,q⟩:=kq;refine ⟨B,φ,st,ρ,rs,re,?_⟩
 cases e:yaz (ev S.call ρ st ca)with
 |ok v st'=>rw[e]at q;exact q
 |exc k st'=>rw[e]at q;exact q.elim
 |bad=>rw[e]at q;exact q
def zfM:PTs X [] (tT0 S K (.cst (.bl AC))):=λπ s σ H Q I ⟨B,φ,st,ρ,rs,re,q⟩=>by
 refine zaK π s σ H Q I ?_;erw[ev,yaz,R.bind,yar,onO]at q;exact q AC H φ .rfl rs rfl
def z7(hK:X.K=K)(h:PG X tg (tG S X ct)):PG X tg (tG0 S K ct):=by
 subst hK;exact h
theorem ybs.skip{k:Bool}{D y:AG}{u:HO}{xs:List V}(hD:B D)(r:ybs K B φ H k y xs):ybs K B φ (L2.upd H D u) k y xs:=by
 rcases r with⟨r,b,n⟩|r
 .exact .inl ⟨by rw[za (show y≠D from λz=>b (z ▸ hD))];exact r,b,n⟩
 .exact .inr r
mutual
theorem yc.skip{D:AG}{u:HO}(hD:B D):∀(v:PV) (x:V),yc K cl B φ H v x->yc K cl B φ (L2.upd H D u) v x
 |.non,x,h=>by erw[yc]at h ⊢;exact h
 |.bl b,x,h=>by erw[yc]at h ⊢;exact h
 |.int i,x,h=>by erw[yc]at h ⊢;exact h
 |.str y,x,h=>by erw[yc]at h ⊢;exact h
 |.tp k vs,x,h=>by
  erw[yc]at h ⊢;let⟨y,xs,e,r,l⟩:=h;exact⟨y,xs,e,r.skip hD,ye.skip hD vs xs l⟩
 |.lst vs,x,h=>by
  erw[yc]at h ⊢;let⟨y,xs,e,⟨r,b,n⟩,l⟩:=h;exact⟨y,xs,e,⟨by rw[za (show y≠D from λz=>b (z ▸ hD))];exact r,b,n⟩,ye.skip hD vs xs l⟩
 |.loc n,x,h=>by erw[yc]at h ⊢;exact h
 |.fnc j,x,h=>by erw[yc]at h ⊢;exact h
 |.exn c,x,h=>by
  erw[yc]at h ⊢;let⟨y,e,r,b,n⟩:=h;exact⟨y,e,by rw[za (show y≠D from λz=>b (z ▸ hD))];exact r,b,n⟩
 |.scr vs,x,h=>by
  erw[yc]at h ⊢;let⟨y,xs,e,r,l⟩:=h;refine⟨y,xs,e,?_,ye.skip hD vs xs l⟩;rcases r with⟨r,b,n⟩|r
  .refine .inl ⟨?_,b,n⟩;have ne:y≠D:=λz=>b (z ▸ hD);rcases r with r|⟨o,r⟩
   .exact .inl (by rw[za ne];exact r)
   .exact .inr ⟨o,by rw[za ne];exact r⟩
  .exact .inr r
theorem ye.skip{D:AG}{u:HO}(hD:B D):∀(v:List PV) (x:List V),ye K cl B φ H v x->ye K cl B φ (L2.upd H D u) v x
 |[],x,h=>by erw[ye]at h ⊢;exact h
 |v::vs,x,h=>by
  erw[ye]at h ⊢;let⟨y,ys,e,r,l⟩:=h;exact⟨y,ys,e,yc.skip hD v y r,ye.skip hD vs ys l⟩
end
theorem DK.skip{D:AG}{u:HO}(hD:B D):∀{kvs:List (PV×PV)} {ks:List (Key×V)},DK K cl B φ H kvs ks->DK K cl B φ (L2.upd H D u) kvs ks
 |[],ks,h=>h
 |(k,v)::r,ks,h=>by
  let⟨q,x,t,e,m,rv,l⟩:=h;exact⟨q,x,t,e,m,rv.skip hD,DK.skip hD l⟩
theorem DT.skip{D:AG}{u:HO}(hD:B D):∀{kvs:List (PV×PV)} {ks:List (List NK×V)},DT K cl B φ H kvs ks->DT K cl B φ (L2.upd H D u) kvs ks
 |[],ks,h=>h
 |(k,v)::r,ks,h=>by
  let⟨q,x,t,e,m,rv,l⟩:=h;exact⟨q,x,t,e,m,rv.skip hD,DT.skip hD l⟩
theorem FS.skip{D:AG}{u:HO}(hD:B D):∀{kvs:List (AN×PV)} {ks:List (AN×V)},FS K cl B φ H kvs ks->FS K cl B φ (L2.upd H D u) kvs ks
 |[],ks,h=>h
 |(k,v)::r,ks,h=>by
  let⟨x,t,e,rv,l⟩:=h;exact⟨x,t,e,rv.skip hD,FS.skip hD l⟩
theorem yh.skip{D:AG}{u:HO}(hD:B D)(rs:yh K cl B φ H st)(hu:∀xs,u ≠ .tup xs:=by intro _ z;cases z):yh K cl B φ (L2.upd H D u) st:=by
 refine⟨rs.len,rs.inj,λn y e=>?_,rs.liv,rs.nb,λy h=>?_,λy h xs e=>?_⟩
 .let⟨o,q,r⟩:=rs.obj n y e;have ne:y≠D:=λz=>rs.nb y (A5 e) (z ▸ hD);refine⟨o,q,?_⟩
  cases o with
  |lst vs=>
   let⟨xs,hx,l⟩:=r;exact⟨xs,by rw[za ne];exact hx,l.skip hD⟩
  |dct t kvs=>
   cases t with
   |false=>
    let⟨xs,hx,l⟩:=r;exact⟨xs,by rw[za ne];exact hx,l.skip hD⟩
   |true=>
    let⟨xs,hx,l⟩:=r;exact⟨xs,by rw[za ne];exact hx,l.skip hD⟩
  |ins c fs=>
   let⟨ks,⟨dx,hx⟩,l⟩:=r;exact⟨ks,⟨dx,by rw[za ne];exact hx⟩,l.skip hD⟩
  |dead=>exact r.elim
 .by_cases z:y=D
  .subst z;exact⟨u,zd⟩
  .let⟨w,e⟩:=rs.dom y h;exact⟨w,by rw[za z];exact e⟩
 .by_cases z:y=D
  .subst z;rw[zd]at e;exact hu xs (AU e)
  .rw[za z]at e;exact rs.nt y h xs e
theorem yp.skip{D:AG}{u:HO}(hD:B D)(re:yp K cl B φ H ρ σ):yp K cl B φ (L2.upd H D u) ρ σ:=⟨re.len,λi v e=>by
 let⟨x,h,q⟩:=re.get i v e;exact⟨x,h,q.skip hD⟩⟩
def Bx(B:AG->Prop)(D:AG):AG->Prop:=λy=>B y \/ y=D
def zfc{D:AG}(hn:H D=AB):∀y,Bx B D y->B y \/ H y=none:=λy z=>z.elim .inl λq=>.inr (q ▸ hn)
theorem yc.more{D:AG}(hn:H D=AB){v:PV}{x:V}(h:yc K cl B φ H v x):yc K cl (Bx B D) φ H v x:=h.moreB (zfc hn)
theorem ye.more{D:AG}(hn:H D=AB){v:List PV}{x:List V}(h:ye K cl B φ H v x):ye K cl (Bx B D) φ H v x:=h.moreB (zfc hn)
mutual
theorem yc.less{D:AG}:∀(v:PV) (x:V),yc K cl (Bx B D) φ H v x->yc K cl B φ H v x
 |.non,x,h=>by erw[yc]at h ⊢;exact h
 |.bl b,x,h=>by erw[yc]at h ⊢;exact h
 |.int i,x,h=>by erw[yc]at h ⊢;exact h
 |.str y,x,h=>by erw[yc]at h ⊢;exact h
 |.tp k vs,x,h=>by
  erw[yc]at h ⊢;let⟨y,xs,e,r,l⟩:=h;refine⟨y,xs,e,?_,ye.less vs xs l⟩;rcases r with⟨r,b,n⟩|r
  .exact .inl ⟨r,λz=>b (.inl z),n⟩
  .exact .inr r
 |.lst vs,x,h=>by
  erw[yc]at h ⊢;let⟨y,xs,e,⟨r,b,n⟩,l⟩:=h;exact⟨y,xs,e,⟨r,λz=>b (.inl z),n⟩,ye.less vs xs l⟩
 |.loc n,x,h=>by erw[yc]at h ⊢;exact h
 |.fnc j,x,h=>by erw[yc]at h ⊢;exact h
 |.exn c,x,h=>by
  erw[yc]at h ⊢;let⟨y,e,r,b,n⟩:=h;exact⟨y,e,r,λz=>b (.inl z),n⟩
 |.scr vs,x,h=>by
  erw[yc]at h ⊢;let⟨y,xs,e,r,l⟩:=h;refine⟨y,xs,e,?_,ye.less vs xs l⟩;rcases r with⟨r,b,n⟩|r
  .exact .inl ⟨r,λz=>b (.inl z),n⟩
  .exact .inr r
theorem ye.less{D:AG}:∀(v:List PV) (x:List V),ye K cl (Bx B D) φ H v x->ye K cl B φ H v x
 |[],x,h=>by erw[ye]at h ⊢;exact h
 |v::vs,x,h=>by
  erw[ye]at h ⊢;let⟨y,ys,e,r,l⟩:=h;exact⟨y,ys,e,yc.less v y r,ye.less vs ys l⟩
end
theorem DK.more{D:AG}(hn:H D=AB):∀{kvs:List (PV×PV)} {ks:List (Key×V)},DK K cl B φ H kvs ks->DK K cl (Bx B D) φ H kvs ks
 |[],ks,h=>h
 |(k,v)::r,ks,h=>by
  let⟨q,x,t,e,m,rv,l⟩:=h;exact⟨q,x,t,e,m,rv.more hn,DK.more hn l⟩
theorem DT.more{D:AG}(hn:H D=AB):∀{kvs:List (PV×PV)} {ks:List (List NK×V)},DT K cl B φ H kvs ks->DT K cl (Bx B D) φ H kvs ks
 |[],ks,h=>h
 |(k,v)::r,ks,h=>by
  let⟨q,x,t,e,m,rv,l⟩:=h;exact⟨q,x,t,e,m,rv.more hn,DT.more hn l⟩
theorem FS.more{D:AG}(hn:H D=AB):∀{kvs:List (AN×PV)} {ks:List (AN×V)},FS K cl B φ H kvs ks->FS K cl (Bx B D) φ H kvs ks
 |[],ks,h=>h
 |(k,v)::r,ks,h=>by
  let⟨x,t,e,rv,l⟩:=h;exact⟨x,t,e,rv.more hn,FS.more hn l⟩
theorem DK.less{D:AG}:∀{kvs:List (PV×PV)} {ks:List (Key×V)},DK K cl (Bx B D) φ H kvs ks->DK K cl B φ H kvs ks
 |[],ks,h=>h
 |(k,v)::r,ks,h=>by
  let⟨q,x,t,e,m,rv,l⟩:=h;exact⟨q,x,t,e,m,rv.less,DK.less l⟩
theorem DT.less{D:AG}:∀{kvs:List (PV×PV)} {ks:List (List NK×V)},DT K cl (Bx B D) φ H kvs ks->DT K cl B φ H kvs ks
 |[],ks,h=>h
 |(k,v)::r,ks,h=>by
  let⟨q,x,t,e,m,rv,l⟩:=h;exact⟨q,x,t,e,m,rv.less,DT.less l⟩
theorem FS.less{D:AG}:∀{kvs:List (AN×PV)} {ks:List (AN×V)},FS K cl (Bx B D) φ H kvs ks->FS K cl B φ H kvs ks
 |[],ks,h=>h
 |(k,v)::r,ks,h=>by
  let⟨x,t,e,rv,l⟩:=h;exact⟨x,t,e,rv.less,FS.less l⟩
theorem yh.less{D:AG}(rs:yh K cl (Bx B D) φ H st):yh K cl B φ H st:=by
 refine⟨rs.len,rs.inj,λn y e=>?_,rs.liv,λy h z=>rs.nb y h (.inl z),λy h=>rs.dom y (.inl h),λy h=>rs.nt y (.inl h)⟩;let⟨o,q,r⟩:=rs.obj n y e;refine⟨o,q,?_⟩
 cases o with
 |lst vs=>let⟨xs,hx,l⟩:=r;exact⟨xs,hx,l.less⟩
 |dct t kvs=>cases t<;>(let⟨xs,hx,l⟩:=r;exact⟨xs,hx,l.less⟩)
 |ins c fs=>let⟨ks,hx,l⟩:=r;exact⟨ks,hx,l.less⟩
 |dead=>exact r.elim
theorem yh.more{D:AG}{u:HO}(hn:H D=AB)(rs:yh K cl B φ H st)(hu:∀xs,u ≠ .tup xs:=by intro _ z;cases z):yh K cl (Bx B D) φ (L2.upd H D u) st:=by
 have nD:AA D∉φ:=λz=>by
  let⟨w,e⟩:=rs.there z;rw[hn]at e;cases e
 have s:Step φ H φ (L2.upd H D u):=.upd hn;have rs':=rs.upd (o:=u) hn;refine⟨rs.len,rs.inj,λn y e=>?_,rs.liv,λy h z=>z.elim (rs.nb y h) λq=>nD (q ▸ h),λy h=>?_,λy h xs e=>?_⟩
 .let⟨o,q,r⟩:=rs.obj n y e;have ne:y≠D:=λz=>nD (z ▸ A5 e);have hD:Bx B D D:=.inr rfl;refine⟨o,q,?_⟩
  cases o with
  |lst vs=>let⟨xs,hx,l⟩:=r;exact⟨xs,by rw[za ne];exact hx,(l.more hn).skip hD⟩
  |dct t kvs=>
   cases t with
   |false=>let⟨xs,hx,l⟩:=r;exact⟨xs,by rw[za ne];exact hx,(l.more hn).skip hD⟩
   |true=>let⟨xs,hx,l⟩:=r;exact⟨xs,by rw[za ne];exact hx,(l.more hn).skip hD⟩
  |ins c fs=>let⟨ks,⟨dx,hx⟩,l⟩:=r;exact⟨ks,⟨dx,by rw[za ne];exact hx⟩,(l.more hn).skip hD⟩
  |dead=>exact r.elim
 .rcases h with h|h
  .exact rs'.dom y h
  .subst h;exact⟨u,zd⟩
 .rcases h with h|h
  .exact rs'.nt y h xs e
  .subst h;rw[zd]at e;exact hu xs (AU e)
theorem yp.more{D:AG}{u:HO}(hn:H D=AB)(re:yp K cl B φ H ρ σ):yp K cl (Bx B D) φ (L2.upd H D u) ρ σ:=⟨re.len,λi v e=>by
 let⟨x,h,q⟩:=re.get i v e;exact⟨x,h,(q.more hn).skip (.inr rfl)⟩⟩
def yt:Tg->List (Option Nat)->Bool
 |.n i,sl=>decide (sl[i]?=AA AB)
 |.t l,sl=>l.all λi=>decide (sl[i]?=AA AB)
def zcH:∀(l:List Nat) (vs:List PV) (ρ:IC.Env) (j:Nat),j∉l->((l.zip vs).foldl (λρ p=>ρ.set p.1 (AA p.2)) ρ)[j]?=ρ[j]?
 |[],vs,ρ,j,h=>by simp
 |i::is,[],ρ,j,h=>by simp
 |i::is,v::vs,ρ,j,h=>by
  erw[Dc,CP];rw[zcH is vs _ j λz=>h (AL _ z),Al]
  rintro rfl
  exact h AW
def zcq:∀(l:List Nat) (vs:List PV) (ρ:IC.Env),((l.zip vs).foldl (λρ p=>ρ.set p.1 (AA p.2)) ρ).length=ρ.length
 |[],vs,ρ=>by simp
 |i::is,[],ρ=>by simp
 |i::is,v::vs,ρ=>by
  erw[Dc,CP];rw[zcq is vs,BK]
theorem yp.untgt{sl:List (Option Nat)}{ρ0 ρ1:IC.Env}{v:PV}(hf:yt ct sl=AC)(h0:∀(i:Nat),sl[i]?=AA AB->ρ0[i]?=AA AB)(hb:yo ct v ρ0=AA ρ1)(re:yp K cl B φ H ρ1 σ):yp K cl B φ H ρ0 σ:=by
 cases ct with
 |n i=>
  cases hb
  erw[yt,decide_eq_true_eq]at hf;refine⟨by rw[<-re.len,BK],λj w e=>re.get j w ?_⟩;rw[Al]
  .exact e
  .rintro rfl
   rw[h0 _ hf]at e;cases e
 |t l=>
  cases v with
  |tp k vs=>
   erw[yo]at hb;split at hb
   .cases hb
    erw[yt,A4,decide_eq_true_eq]at hf;refine⟨by rw[<-re.len,zcq],λj w e=>re.get j w ?_⟩;rw[zcH]
    .exact e
    .intro z;rw[h0 _ (hf j z)]at e;cases e
   .cases hb
  |_=>cases hb
theorem yp.inn{sl:List (Option Nat)}(re:yp K cl B φ H ρ σ):yp K cl B φ H (sl.map λo=>o.bind λj=>(ρ[j]?).join) (L2.inn sl σ):=by
 unfold L2.inn;refine⟨by simp,λi v e=>?_⟩;rw[Ax]at e ⊢
 cases q:sl[i]? with
 |none=>rw[q]at e;cases e
 |some o=>
  rw[q]at e
  cases o with
  |none=>cases e
  |some j=>
   erw[CT,CL,Bb]at e ⊢
   cases q2:ρ[j]? with
   |none=>rw[q2]at e;cases e
   |some w=>
    rw[q2]at e;erw[Option.join_some]at e;subst e;let⟨x,hx,rv⟩:=re.get j v q2;exact⟨x,by rw[hx];rfl,rv⟩
def zkU:1000000<sizeLine:=by rw[BG];decide
def zgv{α:Type}{o:Option Bool}{k:Bool->R α}{z:α}{s:SO}(h:onO o k=.ok z s):∃b,o=AA b/\k b=.ok z s:=by
 cases o with
 |none=>cases h
 |some b=>exact⟨b,rfl,h⟩
def zg{α β:Type}{r:R α}{k:α->SO->R β}{z:β}{s:SO}(h:r.bind k=.ok z s):∃a s1,r=.ok a s1/\k a s1=.ok z s:=by
 cases r with
 |ok a s1=>exact⟨a,s1,rfl,h⟩
 |exc c s=>cases h
 |bad=>cases h
def zcI{Rel:Ph->Hp->PV->V->Prop}{r:R (List PV)}{Q:VK}(h:Run S X σ B φ H Rel (ya0 r) Q):∃zs st5,r=.ok zs st5/\zs.length<=1000000/\∀x H' φ',Step φ H φ' H'->yh X.K S.cl B φ' H' st5->Rel φ' H' (.lst zs) x->Q x H':=by
 cases r with
 |ok zs st5=>
  by_cases hz:zs.length<=1000000
  .simp only[ya0,if_pos hz]at h;exact⟨zs,st5,rfl,hz,h⟩
  .simp only[ya0,if_neg hz]at h;exact h.elim
 |exc k s=>exact h.elim
 |bad=>exact h.elim
def zde{call:Nat->List PV->SO->R PV}{ρ0:IC.Env}{xs rest:List PV}{i:Nat}{v:PV}{st2 st5:SO}(hv:xs[i]?=AA v)(ec:yU call ρ0 ct cc ce (xs.drop i) st2=.ok rest st5):
  ∃ρ1 k st6,yo ct v ρ0=AA ρ1/\yaz (ev call ρ1 st2 cc)=.ok k st6/\((k=AE/\yU call ρ0 ct cc ce (xs.drop (i+1)) st6=.ok rest st5) \/
   (k=AC/\∃y st7 rest',ev call ρ1 st6 ce=.ok y st7/\yU call ρ0 ct cc ce (xs.drop (i+1)) st7=.ok rest' st5/\rest=y::rest')):=by
 let⟨hi,e⟩:=Ad.1 hv;rw[BB hi,e,zq]at ec;let⟨o,st3,e1,ec⟩:=zg ec;let⟨rest',st4,e2,ec⟩:=zg ec;injection ec with q1 q2;subst q1 q2;unfold ybp at e1
 cases eb:yo ct v ρ0 with
 |none=>rw[eb]at e1;cases e1
 |some ρ1=>
  rw[eb]at e1;let⟨bv,st6,e3,e1⟩:=zg e1;let⟨k,e4,e1⟩:=zgv e1;refine⟨ρ1,k,st6,rfl,by rw[e3];erw[yaz,R.bind,e4,onO],?_⟩
  cases k with
  |false=>cases e1;exact .inl ⟨rfl,e2⟩
  |true=>
   let⟨y,st7,e5,e1⟩:=zg e1
   cases e1
   exact .inr ⟨rfl,y,_,rest',e5,e2,rfl⟩
def ybT(S:Se)(K:AD)(B:AG->Prop)(D:AG)(φ1:Ph)(H1:Hp)(ρ0:IC.Env)(cB:List PV->SO->R (List PV))(zs:List PV)(st5:SO)(xs:List PV)(σc:St)(ys:List V)(H2:Hp):Prop:=
 ∃φ2 st2 vs rest,Step φ1 H1 φ2 H2/\H2 D=AA (.lst ys)/\AA D∉φ2/\yh K S.cl (Bx B D) φ2 H2 st2/\yp K S.cl (Bx B D) φ2 H2 ρ0 σc/\ye K S.cl (Bx B D) φ2 H2 vs ys/\cB xs st2=.ok rest st5/\vs++rest=zs
theorem stays{D:AG}{φ5:Ph}{H5:Hp}{u:HO}(s:Step φ H φ5 H5)(n:AA D∉φ)(e:H D=AA u):AA D∉φ5/\H5 D=AA u:=by
 refine⟨λz=>?_,s.keep D _ n e⟩;rcases s.new D z with q|q
 .exact n q
 .rw[e]at q;cases q
theorem ybT.skip{D:AG}{cB:List PV->SO->R (List PV)}{zs:List PV}{st5:SO}{xs:List PV}{φ2 φ5:Ph}{H2 H5:Hp}{ρ0 ρ1:IC.Env}{σ4:St}{st6:SO}{vs rest:List PV}{ys:List V}{v:PV}(s2:Step φ1 H1 φ2 H2)(s5:Step φ2 H2 φ5 H5)(nD:AA D∉φ2)(hD:H2 D=AA (.lst ys))
  (rs:yh K S.cl (Bx B D) φ5 H5 st6) (hf:yt ct (sl:List (Option Nat))=AC) (h0:∀(i:Nat),sl[i]?=AA AB->ρ0[i]?=AA AB) (hb:yo ct v ρ0=AA ρ1) (re:yp K S.cl (Bx B D) φ2 H2 ρ1 σ4) (l:ye K S.cl (Bx B D) φ2 H2 vs ys) (ec:cB xs st6=.ok rest st5) (ez:vs++rest=zs):
  ybT S K B D φ1 H1 ρ0 cB zs st5 xs σ4 ys H5:=⟨φ5,st6,vs,rest,s2.trans s5,(stays s5 nD hD).2,(stays s5 nD hD).1,rs,yp.untgt hf h0 hb (re.step s5),l.step s5,ec,ez⟩
theorem ybT.put{D:AG}{cB:List PV->SO->R (List PV)}{zs:List PV}{st5:SO}{xs:List PV}{φ2 φ5:Ph}{H2 H5:Hp}{ρ0 ρ1:IC.Env}{σ4:St}{st7:SO}{vs rest:List PV}{ys:List V}{v y:PV}{y':V}(hn:H1 D=AB)(s2:Step φ1 H1 φ2 H2)(s5:Step φ2 H2 φ5 H5)(nD:AA D∉φ2)(hD:H2 D=AA (.lst ys))
  (rs:yh K S.cl (Bx B D) φ5 H5 st7) (ry:yc K S.cl (Bx B D) φ5 H5 y y') (hf:yt ct (sl:List (Option Nat))=AC) (h0:∀(i:Nat),sl[i]?=AA AB->ρ0[i]?=AA AB) (hb:yo ct v ρ0=AA ρ1) (re:yp K S.cl (Bx B D) φ2 H2 ρ1 σ4) (l:ye K S.cl (Bx B D) φ2 H2 vs ys) (ec:cB xs st7=.ok rest st5) (ez:vs++y::rest=zs):
  H5 D=AA (.lst ys)/\ybT S K B D φ1 H1 ρ0 cB zs st5 xs σ4 (ys++[y']) (L2.upd H5 D (.lst (ys++[y']))):=by
 let⟨n5,h5⟩:=stays s5 nD hD;have hBD:Bx B D D:=.inr rfl;have s16:=s2.trans s5;exact⟨h5,φ5,st7,vs++[y],rest,⟨λb o n q=>by rw[za (zc q hn)];exact s16.keep b o n q,s16.len,s16.pre,s16.new⟩,zd,n5,rs.skip hBD,(yp.untgt hf h0 hb (re.step s5)).skip hBD,
  ((l.step s5).append (by erw[ye];exact⟨y',[],rfl,ry,rfl⟩)).skip hBD,ec,by rw[DA];exact ez⟩
def zaF{sl:List (Option Nat)}(i:Nat)(q:sl[i]?=AA AB):(sl.map λo=>o.bind λj=>(ρ[j]?).join)[i]?=AA none:=by
 rw[Ax,q];rfl
def zdr{sl:List (Option Nat)}(hf:yt ct sl=AC){J:It}{xs zs:List PV}{st1 st5:SO}{Q:VK}(rs1:yh X.K S.cl B φ H st1)(re1:yp X.K S.cl B φ H ρ σ)(dr:RD S X B φ H xs J){D:AG}(hD:H D=AB)
  (e:yU S.call (sl.map λo=>o.bind λj=>(ρ[j]?).join) ct cc ce xs st1=.ok zs st5) (hz:zs.length<=1000000) (h1:∀x H' φ',Step φ H φ' H'->yh X.K S.cl B φ' H' st5->RV S X B φ' H' (.lst zs) x->Q x H'):
  ∃W:Nat->Nat->St->List V->Hp->Prop,(∃m,W 0 m (inn sl σ) [] (L2.upd H D (.lst [])))/\ybK J D (tG0 S X.K ct) (tT0 S X.K cc) (tE0 S X.K ce) W (Q (.ref D)):=by
 have nB:¬B D:=rs1.nB hD;have nD:AA D∉φ:=λz=>by
  let⟨w,e⟩:=rs1.there z;rw[hD]at e;cases e
 have r0:yp X.K S.cl (Bx B D) φ (L2.upd H D (.lst [])) (sl.map λo=>o.bind λj=>(ρ[j]?).join) (inn sl σ):=(yp.inn re1).more hD;have h0:=zaF (ρ:=ρ) (sl:=sl);generalize (sl.map λo=>o.bind λj=>(ρ[j]?).join)=ρ0 at *;refine⟨λi m σc ys H2=>i+m=xs.length/\ybT S X.K B D φ H ρ0 (yU S.call ρ0 ct cc ce) zs st5 (xs.drop i) σc ys H2,
  ⟨xs.length,by lia,φ,st1,[],zs,.upd hD,zd,nD,rs1.more hD,r0,by erw[ye],by simpa using e,rfl⟩,?_⟩
 rintro i m σc ys H2 ⟨hm,φ2,st2,vs,rest,s2,hD2,nD2,rs2,re2,l2,ec,ez⟩
 refine⟨hD2,?_⟩
 by_cases hi:i<xs.length
 .have hzl:=congrArg Bv ez;rw[Ap,l2.length]at hzl;refine .inr ⟨dr.go i φ2 H2 s2 hi,De ∅ zkU,λσ' ys' H'=>ybT S X.K B D φ H ρ0 (yU S.call ρ0 ct cc ce) zs st5 (xs.drop (i+1)) σ' ys' H',λσ' ys' H' q=>⟨m-1,by lia,by lia,q⟩,λx H3 hy=>?_⟩;let⟨v,hv,rv,kk⟩:=dr.yld i φ2 H2 st2 x H3 (Bx B D) (λy z=>z.elim .inl λq=>.inr (q ▸ hD)) s2 rs2 hi hy;have s3:Step φ2 H2 φ2 H3:=⟨λb o _ e=>kk b o e,AR _,λ_ _ _ e=>e,λ_ h=>.inl h⟩;let⟨ρ1,k,st6,eb,et,q⟩:=zde hv ec;refine⟨Bx B D,φ2,st2,_,v,ρ1,rs2.same kk,re2.step s3,rv,eb,λσ4 re4=>⟨Bx B D,φ2,st2,ρ1,rs2.same kk,re4,?_⟩⟩;rw[et]
  rintro k' H5 φ5 s5 rs5 rfl
  rcases q with⟨rfl,e2⟩|⟨rfl,y,st7,rest',e5,e2,rfl⟩
  .exact ybT.skip (s2.trans s3) s5 nD2 (kk D _ hD2) rs5 hf h0 eb re4 (l2.step s3) e2 ez
  .refine⟨Bx B D,φ5,st6,ρ1,rs5,re4.step s5,?_⟩;rw[e5];intro y' H6 φ6 s6 rs6 ry;exact ybT.put hD (s2.trans s3) (s5.trans s6) nD2 (kk D _ hD2) rs6 ry hf h0 eb re4 (l2.step s3) e2 ez
 .have ei:i=xs.length:=by lia
  subst ei;rw[CK]at ec
  cases ec
  refine .inl ⟨dr.stop φ2 H2 s2,h1 (.ref D) H2 φ2 s2 rs2.less ?_⟩;erw[yc];exact⟨D,ys,rfl,⟨hD2,nB,nD2⟩,by rw[<-ez,BJ];exact l2.less⟩
def zbR{sl:List (Option Nat)}(hf:yt ct sl=AC){H:Hp}{Q:VK}(h:tE S X (.comp sl ct ci cc ce) σ H Q):ybG sl (tI S X ci) (tG0 S X.K ct) (tT0 S X.K cc) (tE0 S X.K ce) σ H Q:=by
 let⟨B,φ,st,ρ,rs,re,h⟩:=h;rw[v_comp]at h;refine⟨B,φ,st,ρ,rs,re,(Run.bind h).mono λJ H1 kq=>?_⟩;let⟨xs,st1,φ1,s1,rs1,dr,h1⟩:=kq;refine λD hD=>?_;let⟨zs,st5,e,hz,h1⟩:=zcI h1;exact zdr hf rs1 (re.step s1) dr hD e hz h1
def zgX{sc:Ao}{NC:List AN}{sl:List (Option Nat)}{ifs:List AM}(hc:X.calm=AC)(O:yK X sc NC sl)(hf:yt ct sl=AC)(hi:PI X tg iter (tI S X ci))(hg:∀j,PG (cxC X sc NC j) tg (tG0 S X.K ct))
  (ht:∀j,PTs (cxC X sc NC j) ifs (tT0 S X.K cc)) (he:∀j,PE (cxC X sc NC j) elt (tE0 S X.K ce)) (hs:∀x,foldedSetIterable iter X.env x=pure x:=by intro _;rfl):
  PE X (.ListComp elt [⟨tg,iter,ifs,0⟩] sc pos) (tE S X (.comp sl ct ci cc ce)):=
 (zeW hc O hi hg ht he hs).imp λσ H Q h=>zbR hf h
def zhh{sc:Ao}{NC:List AN}{sl:List (Option Nat)}{ifs:List AM}{i:Nat}{x:AN}{spos:Bc}(hN:X.N.Nodup)(hix:X.N[i]?=AA x)(hx:Loc X.env.scope x)(hc:X.calm=AC)(O:yK X sc NC sl)(hf:yt ct sl=AC)(hi:PI X tg iter (tI S X ci))(hg:∀j,PG (cxC X sc NC j) tg (tG0 S X.K ct))
  (ht:∀j,PTs (cxC X sc NC j) ifs (tT0 S X.K cc)) (he:∀j,PE (cxC X sc NC j) elt (tE0 S X.K ce))
  (hsw:swapsWith (.ListComp elt [⟨tg,iter,ifs,0⟩] sc pos) (AA (.Name x px)) spos.line X.env=pure true:=by rfl) (hs:∀x,foldedSetIterable iter X.env x=pure x:=by intro _;rfl)
  (hfn:X.fn x=AC \/ X.env.scope.names.lookup x=AA .local:=by first|exact .inl rfl|exact .inr rfl|assumption):PS X (.Assign [.Name x px] (.ListComp elt [⟨tg,iter,ifs,0⟩] sc pos) spos) (tS S X (.asg (.n i) (.comp sl ct ci cc ce))):=
 (zik hN hix hx hc O hi hg ht he hsw hs hfn).imp λD σ H ⟨B,φ,st,ρ,rs,re,h⟩=>by
  refine zbR hf ?_;erw[ex]at h;exact tE.fl rs re h λx H1 v st1 φ1 s rs1 re1 rv h1=>h1 _ H1 φ1 .rfl rs1 (re1.set i rv)
end
def spI(K:AD)(cl:Nat->AG)(call:Nat->List PV->SO->R PV)(f:Nat):Sp:=λvs H Q E=>∃B φ st args,yh K cl B φ H st/\ye K cl B φ H args vs/\match call f args st with
 |.ok v st'=>∀x H' φ',Step φ H φ' H'->yh K cl B φ' H' st'->yc K cl B φ' H' v x->Q x H'
 |.exc c st'=>∀H' φ',Step φ H φ' H'->yh K cl B φ' H' st'->E (.ref (cl c)) AB H'
 |.bad=>False
section
variable {S:Se}{X:Cx}{k:Nat}{f:AG}{fd:Am}{ps ks:List AN}{sp:Sp}{dvs:List V}{ds:List AF}{x:AN}{p pos:Bc}{e:AM}{es:List AM}{t tk:TA}{CX:CXT}{σ:St}{H:Hp}
def zcn{π:List (AG×BR)}{s:AH}{Q:VK}{us:List AF}{vs:List V}{E:XK}(F:yaK X.prog X.w X.K X.mg X.base CX k f fd ps sp)(hr:yas k X.A)(hb:Binds X.K fd ps ds)(hd:Vals dvs ds)
  (I:Inv X π σ H s) (r:Vals vs us) (h:sp (vs++dvs) H Q E) (hx:∀e s',CX X.stack H s E e s'->X.xe e s'):A2 (model X.prog X.w) X.A (call (.ref f) us) (EP X π σ Q) X.xe s:=by
 have r2:Vals (vs++dvs) (us++ds):=r.append hd;have hl:(us++ds).length=ps.length:=by rw[<-r2.length];exact F.len _ _ _ _ h
 refine GT (DU (F.run X.A X.stack s H ⟨us,[]⟩ (us++ds) (vs++dvs) Q E hr I.env0 (hb s us I.kIn hl) r2 h) λr s' hq=>?_)
 cases r with
 |error e=>exact hx e s' hq
 |ok fl=>
  cases fl with
  |ret u=>exact I.after hq
  |next=>exact BM hq
  |brk=>exact BM hq
  |cont=>exact BM hq
def yb4(CX:CXT)(X:Cx)(sp:Sp)(dvs:List V)(t:TA):TE:=λσ H Q=>t σ H λvs H1=>∃E:XK,sp (vs++dvs) H1 Q E/\∀π s e s',Inv X π σ H1 s->CX X.stack H1 s E e s'->X.xe e s'
def zf0(F:yaK X.prog X.w X.K X.mg X.base CX k f fd ps sp)(hr:yas k X.A)(hg:Gl X x)(hm:X.mg x=AA (.ref f))(hk:Ab X.K (.ref f)=AC)(hb:Binds X.K fd ps ds)(hd:Vals dvs ds)
  (ha:PA X (e::es) t) (hdb:(x==("__debug__":AN))=false:=by decide) (he:starEach (e::es) X.env=(AE,eval e X.env)::starEach es X.env:=by rfl) (hpl:(backTo pos (starEach es X.env)).any (·.1)=false:=by rfl):
  PE X (.Call (.Name x p) (e::es) [] pos) (yb4 CX X sp dvs t):=by
 intro π s σ H Q I h;refine BQ (z5 I hg hm ?_ hdb);refine Da (h₀:=X.base) I.ok.mod.kin hk (thn (ha pos π s σ H _ I h) λus s1 kq=>?_) he hpl;let⟨vs,H1,I1,r,E,q,hx⟩:=kq;refine ⟨I1.kIn,?_⟩;exact zcn F hr hb hd I1 r q λe s' c=>hx π s1 e s' I1 c
def zeh(F:yaK X.prog X.w X.K X.mg X.base CX k f fd ps sp)(hr:yas k X.A)(hg:Gl X x)(hm:X.mg x=AA (.ref f))(hk:Ab X.K (.ref f)=AC)(hb:Binds X.K fd ps ds)(hd:Vals dvs ds)
  (hdb:(x==("__debug__":AN))=false:=by decide):PE X (.Call (.Name x p) [] [] pos) (yb4 CX X sp dvs ydJ):=by
 intro π s σ H Q I h;let⟨E,q,hx⟩:=h;refine BQ (z5 I hg hm ?_ hdb);exact PySem.W.callWith_K0 I.kIn hk (zcn F hr hb hd I .nil q λe s' c=>hx π s e s' I c)
variable {B:AG->Prop}{φ:Ph}{st:SO}{ces:Ces}{fi:Nat}
def zad{vs:List PV}{xs:List V}{Q:VK}(rs:yh X.K S.cl B φ H st)(l:ye X.K S.cl B φ H vs xs)(h:Run S X σ B φ H (RV S X B) (S.call fi vs st) Q):
  ∃E:XK,spI X.K S.cl S.call fi xs H Q E/\∀π s e s',Inv X π σ H s->CX1 X.prog X.w X.stack H s E e s'->X.xe e s':=by
 cases c:S.call fi vs st with
 |ok v st'=>
  rw[c]at h;refine⟨λ_ _ _=>False,⟨B,φ,st,vs,rs,l,by rw[c];exact h⟩,λπ s e s' _ z=>?_⟩;let⟨_,_,_,_,_,_,_,_,_,_,_,_,_,_,z⟩:=z;exact z.elim
 |exc k st'=>
  rw[c]at h;refine⟨λcls _ H'=>cls=.ref (S.cl k)/\∃φ',Step φ H φ' H'/\yh X.K S.cl B φ' H' st',⟨B,φ,st,vs,rs,l,by rw[c];exact λH' φ' s r=>⟨rfl,φ',s,r⟩⟩,λπ s e s' I z=>h e s' (.inl ⟨π,H,s,φ,I,.rfl,z⟩)⟩
 |bad=>rw[c]at h;exact h.elim
def zhD(F:yaK X.prog X.w X.K X.mg X.base (CX1 X.prog X.w) k f fd ps (spI X.K S.cl S.call fi))(hr:yas k X.A)(hg:Gl X x)(hm:X.mg x=AA (.ref f))(hk:Ab X.K (.ref f)=AC)(hb:Binds X.K fd ps [])
  (ha:PA X (e::es) (tAs S X ces)) (hdb:(x==("__debug__":AN))=false:=by decide) (he:starEach (e::es) X.env=(AE,eval e X.env)::starEach es X.env:=by rfl) (hpl:(backTo pos (starEach es X.env)).any (·.1)=false:=by rfl):
  PE X (.Call (.Name x p) (e::es) [] pos) (tE S X (.call fi ces)):=
 (zf0 F hr hg hm hk hb .nil ha hdb he hpl).imp λσ H Q ⟨B,φ,st,ρ,rs,re,h⟩=>by
  erw[ev]at h;refine tAs.bind rs re h λxs H1 vs st1 φ1 s1 rs1 re1 rv h1=>?_;rw[BJ];exact zad rs1 rv h1
def zff(F:yaK X.prog X.w X.K X.mg X.base (CX1 X.prog X.w) k f fd ps (spI X.K S.cl S.call fi))(hr:yas k X.A)(hg:Gl X x)(hm:X.mg x=AA (.ref f))(hk:Ab X.K (.ref f)=AC)(hb:Binds X.K fd ps [])
  (hdb:(x==("__debug__":AN))=false:=by decide):PE X (.Call (.Name x p) [] [] pos) (tE S X (.call fi .nil)):=
 (zeh F hr hg hm hk hb .nil hdb).imp λσ H Q ⟨B,φ,st,ρ,rs,re,h⟩=>by
  erw[ev,evs,R.bind]at h;exact zad rs (by erw[ye];rfl) h
end
section
variable {P:A3}{w:Aa}{K:AD}{mg:AN->Option AF}{base:An}{cl:Nat->AG}{T:Nat->Option IC.Fn}{fi:Nat}{fn:IC.Fn}{x qual:AN}{stm:Bd}{f:AG}{fd:Am}{N ps:List AN}{k:Nat}
theorem CX1.mono{outer:List BF}{H:Hp}{s:AH}{E E':XK}{e:AF}{s':AH}(h:CX1 P w outer H s E e s')(n:∀cls H',E cls AB H'->E' cls AB H'):CX1 P w outer H s E' e s':=by
 let⟨a,cls,a0,H',Bh,r1,r2,r3,r4,r5,r6,r7,r8,r9,r10⟩:=h;exact⟨a,cls,a0,H',Bh,r1,r2,r3,r4,r5,r6,r7,r8,r9,n _ _ r10⟩
theorem yp.start{B:AG->Prop}{φ:Ph}{H:Hp}{args:List PV}{vs:List V}(l:ye K cl B φ H args vs)(n:Nat)(hn:N.length-vs.length=n):yp K cl B φ H (args.map AA++AK n AB) (L2.start N vs):=by
 have hl:=l.length;unfold L2.start;refine⟨by simp[hl,hn],λi v e=>?_⟩
 by_cases hi:i<args.length
 .rw[AQ (by simpa using hi),Ax]at e
  cases q:args[i]? with
  |none=>rw[q]at e;cases e
  |some v'=>
   rw[q]at e
   cases e
   let⟨y,hy,rv⟩:=l.get i q;exact⟨y,by rw[AQ (by simp;lia),Ax,hy];rfl,rv⟩
 .rw[A1 (by simp;lia),ED]at e;split at e<;>cases e
theorem leave{N:List AN}{scope:Ao}{cd:AF}{A:A8}{outer:List BF}{s₀:AH}{H₀:Hp}{E:XK}{call:Nat->List PV->SO->R PV}{σ:St}{B:AG->Prop}{φ:Ph}{H:Hp}{c:Nat}{st':SO}{e:AF}{s':AH}
  (h:ExcAt ⟨cl,call,AC⟩ (yaq (CX1 P w) P w K mg base N qual scope f cd A outer s₀ H₀ E) σ B φ H c st' e s') (n:∀φ' H',Step φ H φ' H'->yh K cl B φ' H' st'->E (.ref (cl c)) AB H'):
  (yaq (CX1 P w) P w K mg base N qual scope f cd A outer s₀ H₀ E).xe e s':=by
 rcases h with⟨π,H1,s,φ1,I,s1,q⟩|⟨_,π,H1,s,φ1,h',e0,vs,I,s1,rs,mk,rfl,rfl⟩|⟨_,π,H1,s,I,q⟩
 .exact zli π σ H1 s e s' I (q.mono λcls H' ⟨e1,φ',s2,r⟩=>by subst e1;exact n φ' H' (s1.trans s2) r)
 .exact zeb I mk (n φ1 H1 s1 rs)
 .exact zlk I (q.mono λcls H' ⟨e1,φ',s2,r⟩=>by subst e1;exact n φ' H' s2 r)
def zel(hT:T fi=AA fn):∀(args:List PV) (st:SO),yd T (k+1) fi args st ≠ .bad->args.length=fn.np:=λargs st hne=>by
 apply Classical.byContradiction;intro c;apply hne;rw[yd,hT];exact if_neg c
def zgK(hT:T fi=AA fn)(hnp:ps.length=fn.np){vs:List V}{H:Hp}{Q:VK}{E:XK}(h:spI K cl (yd T (k+1)) fi vs H Q E):vs.length=ps.length:=by
 let⟨B,φ,st,args,rs,l,h⟩:=h;rw[hnp,<-l.length];refine zel (k:=k) hT args st λz=>?_;rw[z]at h;exact h
def zgY(hT:T fi=AA fn)(hns:N.length=fn.ns){scope:Ao}{cdv:AF}{A:A8}{outer:List BF}{s:AH}{vs:List V}{H:Hp}{Q:VK}{E:XK}(h:spI K cl (yd T (k+1)) fi vs H Q E):
  tSs ⟨cl,yd T k,AC⟩ (yaq (CX1 P w) P w K mg base N qual scope f cdv A outer s H E) fn.body {nx:=λ_ H'=>Q .non H',rt:=Q} (L2.start N vs) H:=by
 let⟨B,φ,st,args,rs,l,h⟩:=h;have hl:args.length=fn.np:=zel (k:=k) hT args st λz=>by rw[z]at h;exact h
 have hlen:=l.length;rw[yd,hT]at h;dsimp only at h;rw[if_pos hl]at h
 by_cases hp:fn.pure=AC
 .rw[if_pos hp]at h
  by_cases hz:nLs args=AC
  .rw[if_pos hz]at h;have rs0:yh K cl (λa=>B a \/ AA a∈φ) [] H []:=⟨rfl,λm n a e=>by simp at e,λn a e=>by simp at e,λn o e=>by simp at e,λa z=>by simp at z,λa z=>z.elim (rs.dom a) rs.there,λa z xs e=>z.elim (λb=>rs.nt a b xs e) λq=>rs.untup q e⟩;have back:∀{φ':Ph} {H':Hp},Step [] H φ' H'->Step φ H φ H'/\yh K cl B φ H' st:=λ{φ' H'} s'=>
    have kk:∀b o,H b=AA o->H' b=AA o:=λb o e=>s'.keep b o (by simp) e
    ⟨⟨λb o _ e=>kk b o e,AR _,λ_ _ _ e=>e,λ_ h=>.inl h⟩,rs.same kk⟩
   refine⟨_,[],[],_,rs0,yp.start (ye.inn rs.nb args vs hz l) (fn.ns-fn.np) ∅,?_⟩;show yP _ _ _ _ _ (exs (yd T k) (args.map AA++AK (fn.ns-fn.np) AB) [] fn.body) _
   cases e:exs (yd T k) (args.map AA++AK (fn.ns-fn.np) AB) [] fn.body with
   |nx ρ' st'=>
    rw[e]at h;intro σ' H' φ' s' rs' re';let⟨s2,r2⟩:=back s';exact h .non H' φ s2 r2 (by erw[yc])
   |rt v st'=>
    rw[e]at h;dsimp only at h
    by_cases hv:nL v=AC
    .rw[if_pos hv]at h;intro y H' φ' s' rs' rv;let⟨s2,r2⟩:=back s';exact h y H' φ s2 r2 (yc.out v y hv rv)
    .rw[if_neg hv]at h;exact h.elim
   |exc c ρ' st'=>
    rw[e]at h;intro σ' φ1 H1 ev s' s1 _ ex;refine leave ex λφ2 H2 s2 _=>?_;let⟨s3,r3⟩:=back (s1.trans s2);exact h H2 φ s3 r3
   |bk ρ' st'=>rw[e]at h;exact h.elim
   |ct ρ' st'=>rw[e]at h;exact h.elim
   |bad=>rw[e]at h;exact h.elim
  .rw[if_neg hz]at h;exact h.elim
 .rw[if_neg hp]at h;refine⟨B,φ,st,_,rs,yp.start l (fn.ns-fn.np) ∅,?_⟩;show yP _ _ _ _ _ (exs (yd T k) (args.map AA++AK (fn.ns-fn.np) AB) st fn.body) _
  cases e:exs (yd T k) (args.map AA++AK (fn.ns-fn.np) AB) st fn.body with
  |nx ρ' st'=>
   rw[e]at h;intro σ' H' φ' s' rs' re';exact h .non H' φ' s' rs' (by erw[yc])
  |rt v st'=>
   rw[e]at h;intro y H' φ' s' rs' rv;exact h y H' φ' s' rs' rv
  |exc c ρ' st'=>
   rw[e]at h;intro σ' φ1 H1 ev s' s1 _ ex;exact leave ex λφ2 H2 s2 r2=>h H2 φ2 (s1.trans s2) r2
  |bk ρ' st'=>rw[e]at h;exact h.elim
  |ct ρ' st'=>rw[e]at h;exact h.elim
  |bad=>rw[e]at h;exact h.elim
end
def tyN:Ty->String
 |.int=>"int" | .bool=>"bool" | .str=>"str" | .tuple=>"tuple" | .list=>"list" | _=>""
structure yfC(K:AD)(t:Ty):Prop where
 n:BA K (.type "NoneType") (.type (tyN t))=AA (yaE .non t)
 b:BA K (.type "bool") (.type (tyN t))=AA (yaE (.bl AC) t)
 i:BA K (.type "int") (.type (tyN t))=AA (yaE (.int 0) t)
 s:BA K (.type "str") (.type (tyN t))=AA (yaE (.str DF) t)
 p:BA K (.type "tuple") (.type (tyN t))=AA (yaE (.tp AC []) t)
 l:BA K (.type "list") (.type (tyN t))=AA (yaE (.lst []) t)
section
variable {S:Se}{X:Cx}{σ:St}{B:AG->Prop}{φ:Ph}{H:Hp}{st:SO}{p pos p2 px:Bc}{a b c d o:AM}{ca cb cc:Ce}{t:Ty}
def zfV{st4:SO}{x y v:PV}(h:yaY st x y v=AA st4):∃n xs k j,x=.loc n/\st[n]?=AA (.lst xs)/\y=.int k/\ixI xs.length k=AA j/\st4=st.set n (.lst (xs.set j v)):=by
 cases x with
 |loc n=>
  erw[yaY]at h
  cases q:st[n]? with
  |none=>rw[q]at h;cases h
  |some o=>
   rw[q]at h
   cases o with
   |lst xs=>
    cases y with
    |int k=>
     dsimp only at h
     cases q2:ixI xs.length k with
     |none=>rw[q2]at h;cases h
     |some j=>rw[q2]at h;exact⟨n,xs,k,j,rfl,q,rfl,q2,(AU h).symm⟩
    |_=>cases h
   |_=>cases h
 |_=>cases h
theorem ye.put{K:AD}{cl:Nat->AG}:∀{vs:List PV} {xs:List V} (j:Nat) {v:PV} {x:V},ye K cl B φ H vs xs->yc K cl B φ H v x->ye K cl B φ H (vs.set j v) (xs.set j x)
 |[],xs,j,v,x,l,r=>by erw[ye]at l;subst l;simp[ye]
 |w::vs,xs,0,v,x,l,r=>by
  erw[ye]at l;let⟨y,ys,rfl,_,l⟩:=l;erw[BY,ye];exact⟨x,ys,rfl,r,l⟩
 |w::vs,xs,j+1,v,x,l,r=>by
  erw[ye]at l;let⟨y,ys,rfl,ry,l⟩:=l;erw[BZ,ye];exact⟨y,ys.set j x,rfl,ry,ye.put j l r⟩
def ziK(he:PE X a (tE S X ca))(ho:PE X b (tE S X cb))(hi:PE X c (tE S X cc))(hs:swapsWithSole [.Subscript b c px] a pos.line X.env=pure false:=by rfl)(hw:swappedStores [.Subscript b c px] a X.env=pure none:=by rfl)
  (hg:PG X (.Subscript b c px) (yeu (tE S X cb) (tE S X cc) yc6):=by exact zgM ‹_› ‹_› zcD):PS X (.Assign [.Subscript b c px] a pos) (tS S X (.six cb cc ca)):=
 (zgw he hg hs hw).imp λD σ H ⟨B,φ,st,ρ,rs,re,h⟩=>by
  erw[ex]at h;refine tE.fl rs re h λv' H1 v st1 φ1 s1 rs1 re1 rv h1=>tE.fl rs1 re1 h1 λx' H2 x st2 φ2 s2 rs2 re2 rx h2=>tE.fl rs2 re2 h2 λy' H3 y st3 φ3 s3 rs3 re3 ry h3=>?_
  cases e:yaY st3 x y v with
  |none=>rw[e]at h3;exact h3.elim
  |some st4=>
   rw[e]at h3;let⟨n,xs,k,j,rfl,hn,rfl,hj,rfl⟩:=zfV e;erw[yc]at ry;subst ry;let⟨l,ys,rfl,hp,hx,lr⟩:=rs3.list (rx.step s3) hn;refine⟨l,ys,k,j,rfl,rfl,hx,by rw[<-lr.length];exact hj,?_⟩;have s4:Step φ3 H3 φ3 (L2.upd H3 l (.lst (ys.set j v'))):=.put (A5 hp);exact h3 σ _ φ3 s4 (rs3.put hp ⟨_,zd,(lr.put j ((rv.step s2).step s3)).step s4⟩) (re3.step s4)
end
section
variable {S:Se}{X:Cx}{σ:St}{B:AG->Prop}{φ:Ph}{H:Hp}{st:SO}{p pos p2 px py pt pt2 apos:Bc}{a b c d o:AM}{ca cb cc:Ce}{kt k2:Nat}
def zjR{i j:Nat}{x y:AN}(hc:X.calm=AC)(hN:X.N.Nodup)(hi:X.N[i]?=AA x)(hj:X.N[j]?=AA y)(hij:i≠j)(h:PS X (.Assign [.Tuple [.Name x px,.Name y py] kt pt] (.Tuple [a,b] k2 pt2) pos) (ye1 i j (tAs S X (.cons ca (.cons cb .nil))))):
  PS X (.Assign [.Tuple [.Name x px,.Name y py] kt pt] (.Tuple [a,b] k2 pt2) pos) (tS S X (.asg (.t [i,j]) (.tup (.cons ca (.cons cb .nil))))):=
 h.imp λD σ H ⟨B,φ,st,ρ,rs,re,h⟩=>by
  erw[ex,ev]at h;refine⟨B,φ,st,ρ,rs,re,?_⟩
  cases e:evs S.call ρ st (.cons ca (.cons cb .nil))with
  |bad=>rw[e]at h;exact h
  |exc k st'=>rw[e]at h;exact λe s' x=>h σ φ H e s' .rfl re x
  |ok vs st'=>
   rw[e]at h;intro xs H' φ' s rs' l;erw[R.bind]at h;split at h
   .rcases vs with _|⟨v,_|⟨w,_|⟨u,t⟩⟩⟩
    .exact h.elim
    .exact h.elim
    .let⟨v',w',rfl,rv,rw⟩:=l.two;refine⟨v',w',rfl,?_⟩;exact h _ H' φ' s rs' (((re.step s).set i rv).set j rw)
    .exact h.elim
   .exact h.elim
def zh7{bo:BOp}{v w z:PV}(h:yba bo v w=AA z):∃i j,v=.int i/\w=.int j/\IC.binI bo i j=AA z:=by
 unfold yba at h;split at h
 .exact⟨_,_,rfl,rfl,h⟩
 .cases h
def zha:PIp X .Add (rT2 S X (yba .add)):=by
 rintro π s σ H x y v u Q I rx ry ⟨B,φ,st,a,b,z,rs,ra,rb,e,q⟩
 let⟨i,j,rfl,rfl,e⟩:=zh7 e
 cases e
 erw[yc]at ra rb;subst ra rb;exact zjY π s σ H _ _ v u Q I rx ry ⟨i,j,rfl,rfl,q _ H φ .rfl rs (by erw[yc])⟩
end
end L2
namespace WK
open PySem L2 IC
def GC(K:AD)(mg:AN->Option AF)(cl:Nat->AG)(x:AN)(v:PV):Prop:=∃y:AG,mg x=AA (.ref y)/\∀B φ H,yc K cl B φ H v (.ref y)
def zkE{S:Se}{X:Cx}{x:AN}{v:PV}{pos:Bc}(hg:Gl X x)(h:GC X.K X.mg S.cl x v)(hd:(x==("__debug__":AN))=false:=by decide):PE X (.Name x pos) (tE S X (.cst v)):=by
 let⟨y,hm,hk⟩:=h;exact ze8 hg hm hk hd
def zfg:bootBuiltins "tuple"=AA (.type "tuple"):=by decide +kernel
def ziI:bootBuiltins "len"=AA (.builtin "len"):=by decide +kernel
end WK
namespace L2
open PySem PySem.Spec PyProof.Rows IC
def shC:Sum Ce Int->Option Int
 |.inl _=>AB
 |.inr i=>AA i
def yaD:List (Option Int)->List V->List V
 |[],_=>[]
 |some i::r,zs=>.int i::yaD r zs
 |none::r,z::zs=>z::yaD r zs
 |none::_,[]=>[]
def pick:List (Option Int)->List V->List V
 |none::r,v::vs=>v::pick r vs
 |some _::r,_::vs=>pick r vs
 |_,_=>[]
def nKw:List (Option Int)->Nat
 |[]=>0
 |none::r=>nKw r+1
 |some _::r=>nKw r
def ycC:Ces->Nat
 |.nil=>0
 |.cons _ r=>ycC r+1
def gK(np:Nat)(sh:List (Option Int))(vs zs:List V):List V:=if vs.length=np/\zs.length=nKw sh then vs++yaD sh zs else []
def zdT{call:Nat->List PV->SO->R PV}{ρ:IC.Env}:∀(a:Ces) {st st':SO} {vs:List PV},evs call ρ st a=.ok vs st'->vs.length=ycC a
 |.nil,st,st',vs,h=>by erw[evs]at h;cases h;rfl
 |.cons e r,st,st',vs,h=>by
  erw[evs]at h
  cases q:ev call ρ st e with
  |ok v s1=>
   rw[q]at h;erw[R.bind]at h
   cases q2:evs call ρ s1 r with
   |ok ws s2=>
    rw[q2]at h
    cases h
    simp[ycC,zdT r q2]
   |exc c s=>rw[q2]at h;cases h
   |bad=>rw[q2]at h;cases h
  |exc c s=>rw[q]at h;cases h
  |bad=>rw[q]at h;cases h
def ze1{call:Nat->List PV->SO->R PV}{ρ:IC.Env}:∀(a b:Ces) (st:SO),evs call ρ st (yb5 a b)=(evs call ρ st a).bind λvs st1=>(evs call ρ st1 b).bind λws st2=>.ok (vs++ws) st2
 |.nil,b,st=>by
  erw[yb5,evs,R.bind,Cj]
  cases evs call ρ st b<;>rfl
 |.cons e r,b,st=>by
  erw[yb5,evs]
  cases ev call ρ st e with
  |ok v st1=>
   erw[R.bind];rw[ze1 r b st1]
   cases evs call ρ st1 r with
   |ok vs st2=>
    erw[R.bind]
    cases evs call ρ st2 b<;>rfl
   |exc c s=>rfl
   |bad=>rfl
  |exc c s=>rfl
  |bad=>rfl
section
variable {S:Se}{X:Cx}{k:Nat}{f:AG}{fd:Am}{ps ks:List AN}{sp:Sp}{x:AN}{p pos kpos:Bc}{e:AM}{es:List AM}{kws:List B4}{nm:Option AN}{t tk:TA}{CX:CXT}{ca:Ce}{ces:Ces}{items:List (Sum Ce Int)}{g:List AF->List AF->List AF}{gV:List V->List V->List V}
def zae{K:AD}{cl:Nat->AG}{B:AG->Prop}{φ:Ph}{H:Hp}{call:Nat->List PV->SO->R PV}{ρ:IC.Env}:∀(items:List (Sum Ce Int)) {st st':SO} {vs:List PV} {xs:List V},evs call ρ st (yZ items)=.ok vs st'->ye K cl B φ H vs xs->yaD (items.map shC) (pick (items.map shC) xs)=xs/\(pick (items.map shC) xs).length=nKw (items.map shC)
 |[],st,st',vs,xs,h,l=>by
  erw[yZ,evs]at h
  cases h
  erw[ye]at l;subst l;exact⟨rfl,rfl⟩
 |.inl c::r,st,st',vs,xs,h,l=>by
  erw[yZ,evs]at h;let⟨v,s1,e1,h⟩:=zg h;let⟨ws,s2,e2,h⟩:=zg h
  cases h
  erw[ye]at l;let⟨y,ys,rfl,_,l⟩:=l;let⟨q1,q2⟩:=zae r e2 l;erw[AZ,shC,pick,yaD,nKw,Ag,q1,q2];exact⟨trivial,trivial⟩
 |.inr i::r,st,st',vs,xs,h,l=>by
  erw[yZ,evs,ev]at h;let⟨v,s1,e1,h⟩:=zg h;let⟨ws,s2,e2,h⟩:=zg h
  cases h
  cases e1
  erw[ye,yc]at l;let⟨y,ys,rfl,rfl,l⟩:=l;let⟨q1,q2⟩:=zae r e2 l;erw[AZ,shC,pick,yaD,nKw,q1,q2];exact⟨trivial,trivial⟩
def tK(S:Se)(X:Cx)(items:List (Sum Ce Int)):TA:=λσ H Q=>∃B φ st ρ,yh X.K S.cl B φ H st/\yp X.K S.cl B φ H ρ σ/\Run S X σ B φ H (RL S X B) (evs S.call ρ st (yZ items)) λxs H'=>Q (pick (items.map shC) xs) H'
theorem PK.imp{t t':TA}(h:PK X kws t')(k:∀σ H Q,t σ H Q->t' σ H Q):PK X kws t:=λpos π s σ H Q I q=>h pos π s σ H Q I (k σ H Q q)
def zkf:PK X [] (tK S X []):=zld.imp λσ H Q ⟨B,φ,st,ρ,rs,re,h⟩=>by
 erw[yZ,evs]at h;exact h.ok rs (x:=[]) (by erw[ye])
def zkA{i:Int}(h:PK X kws (tK S X items)):PK X kws (tK S X (.inr i::items)):=h.imp λσ H Q ⟨B,φ,st,ρ,rs,re,h⟩=>by
 erw[yZ,evs,ev,R.bind]at h;refine⟨B,φ,st,ρ,rs,re,?_⟩
 cases e:evs S.call ρ st (yZ items)with
 |ok vs st'=>
  rw[e]at h;intro xs H' φ' s rs' l;exact h (.int i::xs) H' φ' s rs' (by erw[ye,yc];exact⟨_,_,rfl,rfl,l⟩)
 |exc c s=>rw[e]at h;exact h
 |bad=>rw[e]at h;exact h
def zkn(ha:PE X e (tE S X ca))(h:PK X kws (tK S X items)):PK X (⟨nm,e,kpos⟩ :: kws) (tK S X (.inl ca::items)):=(zhL ha h).imp λσ H Q ⟨B,φ,st,ρ,rs,re,h⟩=>by
 erw[yZ,evs]at h;refine tE.bind rs re h λx H1 v st1 φ1 s1 rs1 re1 rv h1=>⟨B,φ1,st1,ρ,rs1,re1,?_⟩;refine(Run.bind (Rel:=RL S X B) h1).mono λxs H2 kq=>?_;let⟨ws,st2,φ2,s2,rs2,l,h2⟩:=kq;exact h2.ok rs2 (x:=x::xs) (by erw[ye];exact⟨x,xs,rfl,rv.step s2,l⟩)
def zf2{fi:Nat}(F:yaK X.prog X.w X.K X.mg X.base (CX1 X.prog X.w) k f fd ps (spI X.K S.cl S.call fi))(hr:yas k X.A)(hg:Gl X x)(hm:X.mg x=AA (.ref f))(hk:Ab X.K (.ref f)=AC){np:Nat}(hb:∃g,ybt X.K fd ps ks g (gK np (items.map shC)))(hnp:ycC ces=np)
  (ha:PA X (e::es) (tAs S X ces)) (hkw:PK X kws (tK S X items)) (hall:(backToKw pos (keywordEach kws X.env)).all (·.1.isSome)=true:=by rfl) (hks:(backToKw pos (keywordEach kws X.env)).filterMap (·.1)=ks:=by rfl)
  (hdb:(x==("__debug__":AN))=false:=by decide) (he:starEach (e::es) X.env=(AE,eval e X.env)::starEach es X.env:=by rfl)
  (hpl:((backTo pos (starEach (e::es) X.env)).any (·.1) || (backToKw pos (keywordEach kws X.env)).any (·.1.isNone))=false:=by rfl):
  PE X (.Call (.Name x p) (e::es) kws pos) (tE S X (.call fi (yb5 ces (yZ items)))):=by
 intro π s σ H Q I ⟨B,φ,st,ρ,rs,re,h⟩;erw[ev]at h;rw[ze1,R.bind_assoc]at h;refine BQ (z5 I hg hm ?_ hdb);have h0:tAs S X ces σ H λvs H1=>tK S X items σ H1 λzs H2=>∃E:XK,spI X.K S.cl S.call fi (gK np (items.map shC) vs zs) H2 Q E/\∀π s e s',Inv X π σ H2 s->CX1 X.prog X.w X.stack H2 s E e s'->X.xe e s':=by
  have hlen:∀vs st',evs S.call ρ st ces=.ok vs st'->vs.length=np:=λvs st' q=>(zdT ces q).trans hnp;refine⟨B,φ,st,ρ,rs,re,?_⟩
  cases q:evs S.call ρ st ces with
  |exc c s=>rw[q]at h;exact h
  |bad=>rw[q]at h;exact h
  |ok vs st1=>
  rw[q]at h;intro xs H1 φ1 s1 rs1 rv;have h1:=Run.on s1 h;have re1:=re.step s1;have hv:=hlen vs st1 q;refine⟨B,φ1,st1,ρ,rs1,re1,?_⟩;have h1:Run S X σ B φ1 H1 (RV S X B) (((evs S.call ρ st1 (yZ items)).bind λa st=>(R.ok (vs++a) st:R (List PV))).bind λvs st1=>S.call fi vs st1) Q:=h1;rw[R.bind_assoc]at h1
  cases e:evs S.call ρ st1 (yZ items)with
  |ok ws st2=>
   rw[e]at h1;intro ys H2 φ2 s2 rs2 l2;let⟨m1,m2⟩:=zae items e l2;have eg:gK np (items.map shC) xs (pick (items.map shC) ys)=xs++ys:=by
    unfold gK;rw[if_pos ⟨by rw[<-rv.length];exact hv,m2⟩,m1]
   show ∃E:XK,spI X.K S.cl S.call fi (gK np (items.map shC) xs (pick (items.map shC) ys)) H2 Q E/\_;rw[eg];exact zad rs2 ((rv.step s2).append l2) (Run.on s2 h1)
  |exc c s=>rw[e]at h1;exact h1
  |bad=>rw[e]at h1;exact h1
 refine PySem.W.callWith_KW (h₀:=X.base) I.ok.mod.kin hk hall (thn (ha pos π s σ H _ I h0) λus s1 kq=>?_) hpl he;let⟨vs,H1,I1,r,q⟩:=kq;refine thn (hkw pos π s1 σ H1 _ I1 q) λws s2 kq=>?_;let⟨zs,H2,I2,rz,E,q2,hx⟩:=kq;refine ⟨I2.kIn,?_⟩;rw[hks];let⟨g,hb⟩:=hb;have r2:=hb.rel r rz;have hl:(g us ws).length=ps.length:=by rw[<-r2.length];exact F.len _ _ _ _ q2
 refine GT (DU (F.run X.A X.stack s2 H2 ⟨us,ks.zip ws⟩ (g us ws) (gK np (items.map shC) vs zs) Q E hr I2.env0 (hb.to s2 us ws I2.kIn hl) r2 q2) λr s' hq=>?_)
 cases r with
 |error e=>exact hx π s2 e s' I2 hq
 |ok fl=>
  cases fl with
  |ret u=>exact I2.after hq
  |next=>exact BM hq
  |brk=>exact BM hq
  |cont=>exact BM hq
end
structure FnD(K:AD)(mg:AN->Option AF)(x:AN)(st:Bd)(ps:List AN)(ds:List Int)(f:AG)(fd:Am):Prop where
 ex:∃(oc:AF) (od:Option AG) (dT:AG) (kV doc pm:AF) (an:Option AG) (cdv ct:AF) (osl:Array (Option AF)) (o:BR) (its:Array AF) (n:Nat),
  fd=BU x x (yS st) (yF st) (yg st) (.ref dT) kV doc pm an cdv ct/\K.lookup f=AA ⟨oc,od,.func fd,osl⟩/\Bm K cdv x=AC/\K.lookup dT=AA o/\o.data=.seq its n/\Vals (ds.map V.int) its.toList
 kp:Ab K (.ref f)=AC
 m:mg x=AA (.ref f)
section
variable {P:A3}{w:Aa}{K:AD}{mg:AN->Option AF}{base:An}{cl:Nat->AG}{T:Nat->Option IC.Fn}{fi:Nat}{fn:IC.Fn}{x:AN}{stm:Bd}{f:AG}{fd:Am}{N ps:List AN}{ds:List Int}{k:Nat}
end
def za5(a b:Key):peq (ya1 a) (ya1 b)=decide (a=b):=by
 rw[GF]
 cases a with
 |inl i=>cases b with
  |inl j=>show (i==j)=AC ↔ _;simp
  |inr y=>show AE=AC ↔ _;simp
 |inr x=>cases b with
  |inl j=>show AE=AC ↔ _;simp
  |inr y=>show (x==y)=AC ↔ _;simp
mutual
theorem zjq:∀a b:NK,peq (nkP a) (nkP b)=decide (a=b)
 |.a k,.a j=>by
  rw[nkP,nkP,za5]
  by_cases e:k=j<;>simp[e]
 |.a k,.t l=>by rw[nkP,nkP];cases k<;>simp[ya1,peq]
 |.t l,.a k=>by rw[nkP,nkP];cases k<;>simp[ya1,peq]
 |.t l,.t m=>by
  rw[nkP,nkP];erw[peq,zb5 l m]
  by_cases e:l=m<;>simp[e]
theorem zb5:∀a b:List NK,ybi (yao a) (yao b)=decide (a=b)
 |[],[]=>by simp[yao,ybi]
 |[],y::ys=>by simp[yao,ybi]
 |x::xs,[]=>by simp[yao,ybi]
 |x::xs,y::ys=>by
  erw[yao,ybi,zjq x y,zb5 xs ys]
  by_cases e:x=y<;>by_cases f:xs=ys<;>simp[e,f]
end
def zap(a b:List NK):peq (.tup (yao a)) (.tup (yao b))=decide (a=b):=by
 erw[peq,zb5]
def zhQ{k:PV}(h:yb2 k=AC):∃q,k=ya1 q:=by
 cases k with
 |int i=>exact⟨.inl i,rfl⟩
 |str i=>exact⟨.inr i,rfl⟩
 |_=>cases h
mutual
theorem zkH:∀(k:PV) (n:Nat),yea n k=AC->∃q:NK,k=nkP q/\B9 (nkD q)=AC/\(nkD q).depth<=n
 |.int i,n,_=>⟨.a (.inl i),rfl,rfl,BX _⟩
 |.str x,n,h=>⟨.a (.inr x),rfl,h,BX _⟩
 |.tp k xs,n,h=>by
  erw[yea,AJ,decide_eq_true_eq,BH]at h;let⟨q,e,c,d⟩:=zdB xs (n-1) h.2;refine⟨.t q,by rw[h.1.1,e];rfl,c,?_⟩;erw[nkD,BS];lia
 |.non,n,h=>by cases h
 |.bl _,n,h=>by cases h
 |.lst _,n,h=>by cases h
 |.loc _,n,h=>by cases h
 |.exn _,n,h=>by cases h
 |.scr _,n,h=>by cases h
 |.fnc _,n,h=>by cases h
theorem zdB:∀(ks:List PV) (n:Nat),yby n ks=AC->∃qs:List NK,ks=yao qs/\Bt (yaL qs)=AC/\BO (yaL qs)<=n
 |[],n,_=>⟨[],rfl,rfl,BX _⟩
 |k::ks,n,h=>by
  erw[yby,AJ]at h;let⟨q,e1,c1,d1⟩:=zkH k n h.1;let⟨qs,e2,c2,d2⟩:=zdB ks n h.2;refine⟨q::qs,by rw[e1,e2];rfl,by erw[yaL,Bt,c1,c2];rfl,?_⟩;erw[yaL,BO];lia
end
section
variable {S:Se}{X:Cx}{K:AD}{cl:Nat->AG}{σ:St}{B:AG->Prop}{φ:Ph}{H:Hp}{st:SO}{p pos p2 px apos:Bc}{a b c d o:AM}{ca cb cc:Ce}
def zk1{q:Key}{x:V}:yc K cl B φ H (ya1 q) x ↔ x=kV q:=by
 cases q<;>simp[ya1,yc,kV]
mutual
theorem ze6:∀(q:NK) (x:V),yc K cl B φ H (nkP q) x->NKr H q x
 |.a k,x,r=>zk1.mp r
 |.t l,x,r=>by
  erw[nkP,yc]at r;let⟨y,xs,rfl,rt,rl⟩:=r;rcases rt with⟨rt,_⟩|⟨z,_⟩
  .exact⟨y,xs,rfl,rt,zes l xs rl⟩
  .cases z
theorem zes:∀(q:List NK) (xs:List V),ye K cl B φ H (yao q) xs->NKs H q xs
 |[],xs,l=>show xs=[]by simpa only[yao,ye] using l
 |q::qs,xs,l=>by
  erw[yao,ye]at l;let⟨y,ys,rfl,r,l⟩:=l;exact⟨y,ys,rfl,ze6 q y r,zes qs ys l⟩
end
theorem DK.look{q:Key}:∀{kvs:List (PV×PV)} {ks:List (Key×V)},DK K cl B φ H kvs ks->∀{v:PV} {x:V},yc K cl B φ H v x->yc K cl B φ H ((IC.look (ya1 q) kvs).getD v) ((yaC ks q).getD x)
 |[],ks,h,v,x,r=>by cases h;exact r
 |(k,w)::t,ks,h,v,x,r=>by
  let⟨q',y,s,rfl,rfl,rv,l⟩:=h;erw[IC.look,za5]
  by_cases e:q'=q
  .rw[zW (p:=(q',y)) e];simp[e,rv]
  .rw[zV (p:=(q',y)) e];erw[decide_eq_true_eq,e,if_false];exact DK.look l r
theorem DT.look{q:List NK}:∀{kvs:List (PV×PV)} {ks:List (List NK×V)},DT K cl B φ H kvs ks->∀{v:PV} {x:V},yc K cl B φ H v x->yc K cl B φ H ((IC.look (.tup (yao q)) kvs).getD v) ((yaC ks q).getD x)
 |[],ks,h,v,x,r=>by cases h;exact r
 |(k,w)::t,ks,h,v,x,r=>by
  let⟨q',y,s,rfl,rfl,rv,l⟩:=h;erw[IC.look,zap]
  by_cases e:q'=q
  .rw[zW (p:=(q',y)) e];simp[e,rv]
  .rw[zV (p:=(q',y)) e];erw[decide_eq_true_eq,e,if_false];exact DT.look l r
theorem DK.any{q:Key}:∀{kvs:List (PV×PV)} {ks:List (Key×V)},DK K cl B φ H kvs ks->(kvs.any λp=>peq p.1 (ya1 q))=ks.any λkv=>decide (kv.1=q)
 |[],ks,h=>by cases h;rfl
 |(k,w)::t,ks,h=>by
  let⟨q',y,s,rfl,rfl,rv,l⟩:=h;erw[B5,za5,DK.any l]
theorem DT.any{q:List NK}:∀{kvs:List (PV×PV)} {ks:List (List NK×V)},DT K cl B φ H kvs ks->(kvs.any λp=>peq p.1 (.tup (yao q)))=ks.any λkv=>decide (kv.1=q)
 |[],ks,h=>by cases h;rfl
 |(k,w)::t,ks,h=>by
  let⟨q',y,s,rfl,rfl,rv,l⟩:=h;erw[B5,zap,DT.any l]
theorem DK.map{q:Key}{v:PV}{x:V}(r:yc K cl B φ H v x):∀{kvs:List (PV×PV)} {ks:List (Key×V)},DK K cl B φ H kvs ks->DK K cl B φ H (kvs.map λp=>if peq p.1 (ya1 q)=AC then(p.1,v)else p) (ks.map λkv=>if kv.1=q then(kv.1,x)else kv)
 |[],ks,h=>by cases h;exact rfl
 |(k,w)::t,ks,h=>by
  let⟨q',y,s,rfl,rfl,rv,l⟩:=h;erw[AZ,za5,decide_eq_true_eq]
  by_cases e:q'=q
  .simp only[e,if_true];exact⟨q,x,_,rfl,rfl,r,DK.map r l⟩
  .simp only[e,if_false];exact⟨q',y,_,rfl,rfl,rv,DK.map r l⟩
theorem DT.map{q:List NK}{v:PV}{x:V}(r:yc K cl B φ H v x):∀{kvs:List (PV×PV)} {ks:List (List NK×V)},DT K cl B φ H kvs ks->DT K cl B φ H (kvs.map λp=>if peq p.1 (.tup (yao q))=AC then(p.1,v)else p) (ks.map λkv=>if kv.1=q then(kv.1,x)else kv)
 |[],ks,h=>by cases h;exact rfl
 |(k,w)::t,ks,h=>by
  let⟨q',y,s,rfl,rfl,rv,l⟩:=h;erw[AZ,zap,decide_eq_true_eq]
  by_cases e:q'=q
  .simp only[e,if_true];exact⟨q,x,_,rfl,rfl,r,DT.map r l⟩
  .simp only[e,if_false];exact⟨q',y,_,rfl,rfl,rv,DT.map r l⟩
theorem DK.snoc{q:Key}{v:PV}{x:V}(r:yc K cl B φ H v x):∀{kvs:List (PV×PV)} {ks:List (Key×V)},DK K cl B φ H kvs ks->DK K cl B φ H (kvs++[(ya1 q,v)]) (ks++[(q,x)])
 |[],ks,h=>by cases h;exact⟨q,x,[],rfl,rfl,r,rfl⟩
 |(k,w)::t,ks,h=>by
  let⟨q',y,s,rfl,rfl,rv,l⟩:=h;exact⟨q',y,_,rfl,rfl,rv,DK.snoc r l⟩
theorem DT.snoc{q:List NK}{v:PV}{x:V}(r:yc K cl B φ H v x):∀{kvs:List (PV×PV)} {ks:List (List NK×V)},DT K cl B φ H kvs ks->DT K cl B φ H (kvs++[(.tup (yao q),v)]) (ks++[(q,x)])
 |[],ks,h=>by cases h;exact⟨q,x,[],rfl,rfl,r,rfl⟩
 |(k,w)::t,ks,h=>by
  let⟨q',y,s,rfl,rfl,rv,l⟩:=h;exact⟨q',y,_,rfl,rfl,rv,DT.snoc r l⟩
theorem DK.put{q:Key}{v:PV}{x:V}{kvs:List (PV×PV)}{ks:List (Key×V)}(l:DK K cl B φ H kvs ks)(r:yc K cl B φ H v x):DK K cl B φ H (IC.put (ya1 q) v kvs) (putK ks q x):=by
 unfold IC.put putK;rw[DK.any l];split
 .exact DK.map r l
 .exact DK.snoc r l
theorem DT.put{q:List NK}{v:PV}{x:V}{kvs:List (PV×PV)}{ks:List (List NK×V)}(l:DT K cl B φ H kvs ks)(r:yc K cl B φ H v x):DT K cl B φ H (IC.put (.tup (yao q)) v kvs) (putK ks q x):=by
 unfold IC.put putK;rw[DT.any l];split
 .exact DT.map r l
 .exact DT.snoc r l
theorem DK.len:∀{kvs:List (PV×PV)} {ks:List (Key×V)},DK K cl B φ H kvs ks->kvs.length=ks.length
 |[],ks,h=>by cases h;rfl
 |(k,w)::t,ks,h=>by
  let⟨q',y,s,rfl,rfl,rv,l⟩:=h;simp[DK.len l]
theorem DT.len:∀{kvs:List (PV×PV)} {ks:List (List NK×V)},DT K cl B φ H kvs ks->kvs.length=ks.length
 |[],ks,h=>by cases h;rfl
 |(k,w)::t,ks,h=>by
  let⟨q',y,s,rfl,rfl,rv,l⟩:=h;simp[DT.len l]
theorem yh.dct{n:Nat}{t:Bool}{kvs:List (PV×PV)}{x:V}(rs:yh K cl B φ H st)(r:yc K cl B φ H (.loc n) x)(h:st[n]?=AA (.dct t kvs)):∃y,x=.ref y/\φ[n]?=AA (AA y)/\ybD K cl B φ H (.dct t kvs) y:=by
 erw[yc]at r;let⟨hn,y,rfl,ha⟩:=r;let⟨z,hz⟩:=rs.liv n _ h (by intro z;cases z);obtain rfl:=ha z hz;let⟨o,ho,ro⟩:=rs.obj n z hz;rw[h]at ho;cases ho;exact⟨z,rfl,hz,ro⟩
def zea{v:PV}{t:Bool}{kvs:List (PV×PV)}(h:yah st v=AA (t,kvs)):∃n,v=.loc n/\st[n]?=AA (.dct t kvs):=by
 cases v with
 |loc n=>
  erw[yah]at h;split at h
  .rename_i t' xs q
   cases h
   exact⟨n,rfl,q⟩
  .cases h
 |_=>cases h
def zg8{k:PV}(h:isKey AE k=AC):∃q,k=ya1 q:=zhQ h
def zdQ{k:PV}(h:isKey AC k=AC):∃q:List NK,k=.tup (yao q)/\ydk q:=by
 cases k with
 |tp b xs=>
  cases b with
  |false=>
   let⟨qs,rfl,c,d⟩:=zdB xs 5 h;exact⟨qs,rfl,c,Nat.le_succ_of_le d⟩
  |true=>cases h
 |_=>cases h
def zek{q:List NK}{x:V}(hq:ydk q)(r:yc K cl B φ H (.tup (yao q)) x):∃y,x=.ref y/\KyR H q y:=by
 have r':yc K cl B φ H (nkP (.t q)) x:=r;let⟨b,xs,rfl,g,hs⟩:=ze6 (.t q) x r';exact⟨b,rfl,⟨b,xs,rfl,g,hs⟩,hq⟩
end
section
variable {S:Se}{X:Cx}{σ:St}{B:AG->Prop}{φ:Ph}{H:Hp}{p pos p3 p4:Bc}{a b tg:AM}{ca cb:Ce}
end
end L2
namespace WK
open PySem L2 IC
section
variable {K:AD}{cl:Nat->AG}{B:AG->Prop}{φ:Ph}{H:Hp}
def zgI:ye K cl B φ H [] []:=by erw[ye]
def zeX{v:PV}{x:V}{vs:List PV}{xs:List V}(h:yc K cl B φ H v x)(l:ye K cl B φ H vs xs):ye K cl B φ H (v::vs) (x::xs):=by
 erw[ye];exact⟨x,xs,rfl,h,l⟩
end
def zjF{P:A3}{w:Aa}{outer:List BF}{H:Hp}{s:AH}{e:AF}{s':AH}(h:CX1 P w outer H s (λ_ _ _=>False) e s'):False:=by
 let⟨_,_,_,_,_,_,_,_,_,_,_,_,_,_,z⟩:=h;exact z
def zem{K:AD}{cl:Nat->AG}{B:AG->Prop}{φ:Ph}{H:Hp}:∀ns:List Int,ye K cl B φ H (ns.map .int) (ns.map V.int)
 |[]=>zgI
 |n::ns=>zeX (by erw[yc]) (zem ns)
def spX(K:AD)(call:Nat->List PV->SO->R PV)(fi:Nat):Sp:=λvs H Q E=>∀cl,spI K cl call fi vs H Q E
def zeq{K:AD}{call:Nat->List PV->SO->R PV}{fi:Nat}{H:Hp}{a:AG}{ns:List Int}(ht:∀ns:List Int,ns.length<=63->call fi [.scr (ns.map .int)] []=.ok (.bl AC) [])(hl:ns.length<=63)(hS:SqL K H a (ns.map V.int)):
  spX K call fi [.ref a] H (λv _=>v=.bl AC) λ_ _ _=>False:=by
 intro cl;refine⟨λ_=>False,[],[],[.scr (ns.map .int)],⟨rfl,λm n a e=>by simp at e,λn a e=>by simp at e,λn o e=>by simp at e,λa z=>by simp at z,λa z=>z.elim,λa z=>z.elim⟩,zeX ?_ zgI,?_⟩
 .simp only[yc];refine⟨a,_,rfl,?_,zem ns⟩;rcases hS with hS|hS
  .exact .inl ⟨hS,λz=>z,by simp⟩
  .exact .inr hS
 .rw[ht ns hl];intro x H' φ' _ _ r;simpa only[yc] using r
end WK
namespace L2
open PySem PySem.Spec PyProof.Rows IC
def zeS{l:List AN}(h:l.Nodup){i j:Nat}(hi:i<l.length)(hj:j<l.length)(e:l[i]=l[j]):i=j:=by
 rcases Nat.lt_trichotomy i j with q|q|q
 .exact absurd e (Ds.mp h i j hi hj q)
 .exact q
 .exact absurd e.symm (Ds.mp h j i hj hi q)
section
variable {X:Cx}{π:List (AG×BR)}{σ:St}{H:Hp}{s:AH}
theorem Inv.drop{h':An}{m:AN->Option AF}{v:Option AF}{i:Nat}{n:AN}(I:Inv X π σ H s)(hN:X.N.Nodup)(hi:X.N[i]?=AA n)(hm:s.heap.Ns X.env.locals m)(look:∀(i:Nat) (x:AN) (v:V),X.N[i]?=AA x->σ[i]?=AA (AA v)->Vis X.env.scope x->∃u,RelV v u/\Look X.env s.heap m x u)(hs:Bf X.env.locals s.heap h')(hn:h'.Ns X.env.locals (λx=>if x=n then v else m x)):Inv X π (σ.set i AB) H {s with heap:=h'}:=by
 have k:∀b u,b≠X.env.locals->s.heap.get? b=AA u->h'.get? b=AA u:=λb u hb q=>(hs.2 b hb).trans q;have nl:∀b o,X.s₀.heap.get? b=AA o->b≠X.env.locals:=λb o e=>Af (A0 (AX e) I.ok.above);refine⟨I.ok,I.os,I.bare,⟨λb o q n hb hx=>k b o (nl b o q) (I.base.keep b o q n hb hx),λb o q n hb hx=>?_,I.base.free,λb o q hx=>?_,I.base.tups,I.base.frzs,I.base.tbls⟩,⟨_,hn,λj x v e1 e2 hv=>?_⟩,λx c e=>?_,I.free,I.freeC,λp hp=>?_,λb u e=>?_,?_⟩
 .let⟨sl,q1⟩:=I.base.slot b o q n hb hx;exact⟨sl,k b _ (nl b o q) q1⟩
 .let⟨o',q1⟩:=I.base.there b o q hx;exact⟨o',k b o' (nl b o q) q1⟩
 .have hj:j≠i:=λz=>by
   subst z;rw[CY]at e2;erw[if_true]at e2;split at e2<;>cases e2
  rw[Al (Bu hj)]at e2;have hx:x≠n:=λz=>by
   subst z;let⟨l1,g1⟩:=Ad.mp e1;let⟨l2,g2⟩:=Ad.mp hi;exact hj (zeS hN l1 l2 (g1.trans g2.symm))
  let⟨u,r,lk⟩:=look j x v e1 e2 hv;refine⟨u,r,?_⟩;rcases lk with⟨q1,q2⟩|⟨q1,c,q2,o,q3,q4⟩
  .exact .inl ⟨q1,by dsimp only;rw[if_neg hx];exact q2⟩
  .exact .inr ⟨q1,c,q2,o,k c o (I.cne x c q2) q3,q4⟩
 .let⟨v,o,ho,hd⟩:=I.cell x c e;exact⟨v,o,k c o (I.cne x c e) ho,hd⟩
 .let⟨q1,q2,q3,q4⟩:=I.pin p hp;exact⟨k _ _ q3 q1,q2,q3,q4⟩
 .refine(I.hok b u e).stay (λc v hc q=>k c v (λz=>?_) q) (λ_ q=>q) λ_ _ q=>q;have fr:=I.free;subst z;rcases hc with z|z
  .rw[z,e]at fr
   cases fr
  .rw[z]at fr
   cases fr
 .rw[BK];exact I.len
end
def yfH(X:Cx)(pn:List (AG×BR))(P:St->AF->Hp->Prop):AF->AH->Prop:=λe s'=>∃π σ H s,Inv (cxP X pn) π σ H s/\CX1 X.prog X.w X.stack H s (λcls _ H'=>P σ cls H') e s'
abbrev yc1(X:Cx)(pn:List (AG×BR))(P:St->AF->Hp->Prop):Cx:=(cxP X pn).wish (yfH X pn P)
section
variable {X:Cx}{body suite:List Bd}{b₀:Bd}{x n:AN}{np hpos pos:Bc}{W:AG}{i:Nat}
def zaG{π:List (AG×BR)}{σ:St}{H:Hp}{s:AH}{Q:Unit->AH->Prop}{E:AF->AH->Prop}{A:A8}(I:Inv X π σ H s)(hN:X.N.Nodup)(hi:X.N[i]?=AA n)(hx:X.env.scope.names.lookup n=AA .local)(hl:i<σ.length)
  (h:∀s',Inv X π (σ.set i AB) H s'->Q () s'):A2 (model X.prog X.w) A (do bindName X.env n .none;unbindBehindTheSuite X.env n pos) Q E s:=by
 refine AI (Eg (zz I hN hi (.inl hx) (show RelV .non .none from rfl) (λs2 I2=>?_) (.inr hx)));let⟨m,hn,look⟩:=I2.loc;let⟨u,ru,lk⟩:=look i n .non hi (by rw[CY];simp[hl]) (.inl hx);have hm:m n=AA u:=by
  rcases lk with⟨_,q⟩|⟨z,_⟩
  .exact q
  .rw[show X.env.kindOf n=AA .local from hx]at z;rcases z with z|z<;>cases z
 have hkn:X.env.kindOf n=AA .local:=hx;have hkind:X.env.scope.kind=.function:=I.ok.kind;unfold unbindBehindTheSuite;refine wpAny_onRaise ?_;unfold unbindName deleteName;refine AI (wpAny_point (AI ?_));erw[hkn,hkind];refine AI (m:=nsDel X.env.locals n) (wpAny_nsDel_keeps hn λh' m' hn' hs'=>?_);rw[hm];refine AO (wpAny_point ?_);have J:=I2.drop hN hi hn look hs' hn';rw[DX]at J;exact h _ J
def zgT{tb:List (AG×BR)->(St->AF->Hp->Prop)->TS}{ts:List (AG×BR)->AG->TS}(hstk:∃outer,X.stack=X.env::outer)(hex0:X.ex=[])(hfr:X.env.frame=AA X.env.locals)(hN:X.N.Nodup)(hi:X.N[i]?=AA n)(hx:X.env.scope.names.lookup n=AA .local)(hgx:Gl X x)(hmx:X.mg x=AA (.ref W))
  (hb:∀pn P,PSs (yc1 X pn P) body (tb pn P)) (hs:∀pn a,PSs (cxS X pn a) (b₀::suite) (ts pn a)) (hdb:(x==("__debug__":AN))=false:=by decide):
  PS X (.Try body [.ExceptHandler (AA (.Name x np)) (AA n) (b₀::suite) hpos] [] [] pos) (λD σ H=>∀pn,∃P:St->AF->Hp->Prop,tb pn P D σ H/\∀σ1 cls H',P σ1 cls H'->∃C,cls=.ref C/\Dg X.K (.ref C) (.ref W)=AA AC /\
   ∀a,H' a=AB->ts pn a {nx:=λσ2 H2=>D.nx (σ2.set i AB) H2,rt:=D.rt} (σ1.set i (AA (.ref a))) (upd H' a (.ext (ybm a C)))):=by
 intro π s σ H D I h;let⟨P,hbody,hex⟩:=h (X.pn++π);let⟨outer,hst⟩:=hstk;refine wpAny_Try_except (Az (hb (X.pn++π) P [] s σ H D (I.toP.wish _) hbody) (λf s1 hf=>?_) λe s1 hx1=>?_)
 .have cv:SP X π D f s1:=by
   cases f with
   |next=>
    let⟨σ',H',J,q⟩:=hf;exact⟨σ',H',Inv.ofP I.ok J.unwish,q⟩
   |brk=>
    let⟨σ',H',J,q⟩:=hf;exact⟨σ',H',Inv.ofP I.ok J.unwish,q⟩
   |cont=>
    let⟨σ',H',J,q⟩:=hf;exact⟨σ',H',Inv.ofP I.ok J.unwish,q⟩
   |ret u=>
    let⟨v,σ',H',J,r,q⟩:=hf;exact⟨v,σ',H',Inv.ofP I.ok J.unwish,r,q⟩
  cases f with
  |next=>exact Ci cv
  |brk=>exact cv
  |cont=>exact cv
  |ret u=>exact cv
 .let⟨pins1,σ1,H1,s2,I1,a,cls,a0,H',B,rfl,os,bare,fl,hok,un,hB,tr,hT,hE⟩:=hx1;let⟨C,rfl,hm,hsuite⟩:=hex σ1 cls H' hE;have I1:Inv (cxP X (X.pn++π)) [] σ1 H1 s2:=I1.pins_of λp hp=>absurd hp (by simp);have frs':X.A.frames=AA (X.env::outer):=by rw[<-hst];exact I.ok.frames
  have fl0:EZ B (X.env::outer) a (.ref C) a0 s1.heap:=by rw[<-hst];exact fl
  refine wpAny_looks_onW frs' hfr fl0 λh1 held1 up1=>?_;refine wpAny_landsW (s:={s1 with heap:=h1}) held1 λh2 fl2 up2=>?_;have up12:s1.heap.UpToSlots h2:=up1.trans up2;have I2:Inv (cxP X (X.pn++π)) [] σ1 H' {s1 with heap:=h2}:=I1.back (t':=s1.toks) os bare fl hok un hB tr hT fl2.1 up12;let⟨ob,hob,hobc⟩:=fl2.there;have LT:∀M:GM,G5 M h2 (typeOf (.ref a)) (.ref C):=λM=>hobc ▸ (EH hob).andThen .now;refine wpAny_handleBy_cons (codeAny_handlers_test ?_) (by intro q;cases q);refine z5 (X:=cxS X (X.pn++π) a) (I2.toS a) hgx hmx ?_ hdb;refine PySem.W.Looks.at (PySem.W.exm_one I2.kIn (LT _) hm) ?_;rw[if_pos rfl];refine codeAny_handlers_suite_as ?_;refine lands_againW (s:={s1 with heap:=h2}) fl2 λh3 fl3 up3=>?_;have up13:=up12.trans up3;have I3:Inv (cxP X (X.pn++π)) [] σ1 H' {s1 with heap:=h3}:=I1.back (t':=s1.toks) os bare fl hok un hB tr hT fl3.1 up13;let⟨oe,ws,T3,oT,tsx,ge,⟨gc,g0⟩,gd,_⟩:=id fl3.2.2.2;have nfr:a∉frs X.stack:=λz=>by
   let⟨_,o',ho',hd⟩:=BI fl3.2.2.1 (by rw[<-hst];exact z);rw[ge]at ho'
   cases ho'
   exact hd ws gd
  have nB:B.get? a=none:=fl3.2.1;have ns2:∀o,s2.heap.get? a≠AA o:=λo z=>by
   let⟨o',q⟩:=hT a o z nfr;rw[nB]at q
   cases q
  have nH:H' a=none:=by
   cases z:H' a with
   |none=>rfl
   |some u=>
    let⟨o',q⟩:=tr a u z;rw[nB]at q
    cases q
  have n0:∀o,X.s₀.heap.get? a≠AA o:=λo z=>by
   have hx':a∉X.ex:=by
    rw[hex0];simp
   let⟨o',q⟩:=I1.base.there a o z hx';exact ns2 o' q
  have nl:a≠X.env.locals:=λz=>by
   let⟨m,hn,_⟩:=I1.loc;let⟨ol,_,_,hol,_⟩:=hn;exact ns2 ol (z ▸ hol)
  have nc:∀y c,X.env.cells.lookup y=AA c->c≠a:=λy c q z=>by
   let⟨v,oc,hoc,_⟩:=I1.cell y c q;exact ns2 oc (z ▸ hoc)
  have np:∀p∈(cxP X (X.pn++π)).pn++[],p.1≠a:=λp hp z=>ns2 p.2 (z ▸ (I1.pin p hp).1);have new:yG X.prog X.w (upd H' a (.ext (ybm a C))) h3 a (.ext (ybm a C)):=⟨⟨oe,ge,gc⟩,⟨oe,ge⟩,λk1 k2 p q=>p.keep q⟩;have I4:Inv (cxP X (X.pn++π)) [] σ1 (upd H' a (.ext (ybm a C))) {s1 with heap:=h3}:=I3.track nH n0 nl nc np new;have hln:i<X.N.length:=(Ad.mp hi).1;refine zz (X:=cxS X (X.pn++π) a) (I4.toS a) hN hi (.inl hx) (show RelV (.ref a) (.ref a)from rfl) (λs6 I6=>?_) (.inr hx);refine Az (hs (X.pn++π) a [] s6 _ _ _ I6 (hsuite a nH)) (λf s7 hf=>?_) λ_ _ z=>z.elim
  cases f with
  |next=>
   let⟨σ7,H7,J7,q7⟩:=hf;have J8:Inv X π σ7 H7 s7:=Inv.ofS I.ok J7;exact zaG (pos:=hpos) J8 hN hi hx (by rw[J8.len];exact hln) λs8 J9=>⟨_,H7,J9,q7⟩
  |brk=>
   let⟨_,_,_,z⟩:=hf;exact z.elim
  |cont=>
   let⟨_,_,_,z⟩:=hf;exact z.elim
  |ret u=>
   let⟨v,σ7,H7,J7,r7,q7⟩:=hf;have J8:Inv X π σ7 H7 s7:=Inv.ofS I.ok J7;exact zaG (pos:=hpos) J8 hN hi hx (by rw[J8.len];exact hln) λs8 J9=>⟨v,_,H7,J9,r7,q7⟩
end
section
variable {S:Se}{X:Cx}{σ:St}{B:AG->Prop}{φ φ1:Ph}{H H1:Hp}{st:SO}{ρ:IC.Env}{D:Ends}{body suite:List Bd}{b₀:Bd}{x n:AN}{p p2 np hpos pos cpos:Bc}{W:AG}{i:Nat}{cb ch:Css}{a e:AM}{es:List AM}{ca ce:Ce}{ces:Ces}
theorem yp.drop{K:AD}{cl:Nat->AG}(r:yp K cl B φ H ρ σ)(i:Nat):yp K cl B φ H (ρ.set i AB) (σ.set i AB):=by
 refine⟨by rw[BK,BK];exact r.len,λj w e=>?_⟩
 by_cases h:j=i
 .subst h;rw[CY]at e;erw[if_true]at e;split at e<;>cases e
 .rw[Al (Bu h)]at e ⊢;exact r.get j w e
abbrev Se.quiet(S:Se):Se:={S with may:=AE}
def ziu{cs:List Nat}(hstk:∃outer,X.stack=X.env::outer)(hex0:X.ex=[])(hfr:X.env.frame=AA X.env.locals)(hN:X.N.Nodup)(hi:X.N[i]?=AA n)(hx:X.env.scope.names.lookup n=AA .local)(hgx:Gl X x)(hmx:X.mg x=AA (.ref W))(hW:∀c∈cs,Dg X.K (.ref (S.cl c)) (.ref W)=AA AC)
  (hb:∀pn P,PSs (yc1 X pn P) body (tSs S.quiet (yc1 X pn P) cb)) (hs:∀pn a,PSs (cxS X pn a) (b₀::suite) (tSs S.quiet (cxS X pn a) ch)) (hdb:(x==("__debug__":AN))=false:=by decide):
  PS X (.Try body [.ExceptHandler (AA (.Name x np)) (AA n) (b₀::suite) hpos] [] [] pos) (tS S X (.try cb cs i ch)):=by
 refine(zgT (tb:=λpn P=>tSs S.quiet (yc1 X pn P) cb) (ts:=λpn a=>tSs S.quiet (cxS X pn a) ch) hstk hex0 hfr hN hi hx hgx hmx hb hs hdb).imp λD σ H ⟨B,φ,st,ρ,rs,re,h⟩ pn=>?_;erw[ex]at h
 cases q:exs S.call ρ st cb with
 |exc d ρ1 st1=>
  rw[q]at h;dsimp only at h
  by_cases hd:cs.contains d=AC
  .rw[if_pos hd]at h;refine⟨λσ1 cls H'=>cls=.ref (S.cl d)/\∃φ',Step φ H φ' H'/\yh X.K S.cl B φ' H' st1/\yp X.K S.cl B φ' H' ρ1 σ1,⟨B,φ,st,ρ,rs,re,?_⟩,?_⟩
   .show yP _ _ _ _ _ (exs S.call ρ st cb) _;rw[q];intro σ' φ1 H1 e s' s1 re1 hx;rcases hx with⟨π,H2,t,φ2,I,q2,c⟩|⟨m,_⟩|⟨m,_⟩
    .refine⟨π,σ',H2,t,I.unwish,CX1.mono c λcls H' z=>?_⟩;let⟨z1,φ',z2,z3⟩:=z;exact⟨z1,φ',(s1.trans q2).trans z2,z3,(re1.step q2).step z2⟩
    .cases m
    .cases m
   .rintro σ1 cls H' ⟨rfl,φ',s1,rs1,re1⟩
    refine⟨S.cl d,rfl,hW d (by simpa using hd),λa ha=>?_⟩;have nB:¬B a:=λz=>by
     let⟨o,e⟩:=rs1.dom a z;rw[ha]at e
     cases e
    have nφ:AA a∉φ':=λz=>by
     let⟨o,e⟩:=rs1.there z;rw[ha]at e
     cases e
    have s2:Step φ' H' φ' (upd H' a (.ext (ybm a (S.cl d)))):=.upd ha;refine⟨B,φ',st1,ρ1.set i (AA (.exn d)),rs1.upd ha,(re1.step s2).set i ?_,?_⟩
    .simp only[yc];exact⟨a,rfl,zd,nB,nφ⟩
    .show yP _ _ _ _ _ (exs S.call (ρ1.set i (AA (.exn d))) st1 ch) _
     cases q2:exs S.call (ρ1.set i (AA (.exn d))) st1 ch with
     |nx ρ2 st2=>
      rw[q2]at h;intro σ' H2 φ2 s3 rs3 re3;exact h _ H2 φ2 ((s1.trans s2).trans s3) rs3 (re3.drop i)
     |rt v st2=>
      rw[q2]at h;intro y H2 φ2 s3 rs3 rv;exact h y H2 φ2 ((s1.trans s2).trans s3) rs3 rv
     |bk ρ2 st2=>rw[q2]at h;exact h.elim
     |ct ρ2 st2=>rw[q2]at h;exact h.elim
     |exc k ρ2 st2=>rw[q2]at h;exact h.elim
     |bad=>rw[q2]at h;exact h.elim
  .rw[if_neg hd]at h;exact h.elim
 |nx ρ1 st1=>
  rw[q]at h;exact⟨λ_ _ _=>False,⟨B,φ,st,ρ,rs,re,by show yP _ _ _ _ _ (exs S.call ρ st cb) _;rw[q];exact h⟩,λ_ _ _ z=>z.elim⟩
 |rt v st1=>
  rw[q]at h;exact⟨λ_ _ _=>False,⟨B,φ,st,ρ,rs,re,by show yP _ _ _ _ _ (exs S.call ρ st cb) _;rw[q];exact h⟩,λ_ _ _ z=>z.elim⟩
 |bk ρ1 st1=>
  rw[q]at h;exact⟨λ_ _ _=>False,⟨B,φ,st,ρ,rs,re,by show yP _ _ _ _ _ (exs S.call ρ st cb) _;rw[q];exact h⟩,λ_ _ _ z=>z.elim⟩
 |ct ρ1 st1=>
  rw[q]at h;exact⟨λ_ _ _=>False,⟨B,φ,st,ρ,rs,re,by show yP _ _ _ _ _ (exs S.call ρ st cb) _;rw[q];exact h⟩,λ_ _ _ z=>z.elim⟩
 |bad=>rw[q]at h;exact h.elim
theorem all_cons{P:Nat->Prop}{c:Nat}{cs:List Nat}(h:P c)(t:∀d∈cs,P d):∀d∈c::cs,P d:=λd hd=>by
 rcases A6.mp hd with e|e
 .exact e ▸ h
 .exact t d e
structure ybV(K:AD)(mg:AN->Option AF)(C:AG)(x:AN):Prop where
 m:mg x=AA (.ref C)
 q:DL K C [.type "ValueError",.type "Exception",.type "BaseException",.type "object"] "ValueError.__new__"=AC
def zf3{k:Nat}(Z:ybV X.K X.mg (S.cl k) x)(hmay:S.may=AC)(hc:X.calm=AC)(hg:Gl X x)(ha:PE X a (tE S X ca))
  (hs:starEach [a] X.env=(AE,eval a X.env)::starEach [] X.env:=by rfl) (hpl:(backTo cpos (starEach [] X.env)).any (·.1)=false:=by rfl) (hdb:(x==("__debug__":AN))=false:=by decide):
  PS X (.Raise (AA (.Call (.Name x np) [a] [] cpos)) AB pos) (tS S X (.raise k ca)):=by
 intro π s σ H D I ⟨B,φ,st,ρ,rs,re,h⟩;erw[ex]at h;have OC:=zlj I.ok.mod.kin Z.m Z.q;have FB:=PySem.F.excBase_ValueError;let⟨tl,Nn,nm,q,bs,hdct,sn,sub,ab,col,dd,k0,k1,k2,k3,k5,mN,hC,hN,hni,TL⟩:=OC.obj;refine wpAny_Raise_call_subT (C:=S.cl k) (nm:=nm) (q:=q) (N:=Nn) (bs:=bs) (bm:=tl) (hdct:=hdct) (sn:=sn) (sub:=sub) (ab:=ab) (col:=col) (dd:=dd) (k0:=k0) (k1:=k1) (k2:=k2) (k3:=k3) (k5:=k5)
  FB (mN:=mN) (TL.hasType FB.hasBase) (I.ok.hd hc) (by rw[hs];show (AE || (backTo cpos (starEach [] X.env)).any (·.1))=AE;rw[hpl];rfl) hni (z5 I hg OC.bound ⟨rfl,?_⟩ hdb)
 have hA:=(zB ha zkP hs) cpos π s σ H (λvs H1=>∃v,vs=[v]/\∃φ1 st1,Step φ H φ1 H1/\yh X.K S.cl B φ1 H1 st1/\yp X.K S.cl B φ1 H1 ρ σ/\yP S X B φ1 H1 (.exc k ρ st1) D) I
  (tE.fl rs re h λx H1 v st1 φ1 s1 rs1 re1 rv h1=>⟨x,rfl,φ1,st1,s1,rs1,re1,h1⟩)
 rw[hs]at hA ⊢;refine Ej (thn hA λus s1 kq=>?_);let⟨vs,H1,I1,r1,v,ev,φ1,st1,t1,rs1,re1,h1⟩:=kq;subst ev;refine⟨rfl,by rw[<-r1.length];show 1<=sizeLine;decide,I1.bk _ _ hC,hN.keeps I1.bk,TL.keeps I1.bk,λh' e' hx=>?_⟩;exact h1 σ φ1 H1 _ _ .rfl re1 (.inr (.inl ⟨hmay,π,H1,s1,φ1,h',e',us,I1,.rfl,rs1,hx,rfl,rfl⟩))
def tyZ(cl:Nat->AG):Ty->AF
 |.cls d=>.ref (cl d)
 |_=>.type "ValueError"
def ybo(cl:Nat->AG):Ty->V
 |.cls d=>.ref (cl d)
 |_=>.ty "ValueError"
def zcs{cl:Nat->AG}{t:Ty}{c:AF}(r:RelV (ybo cl t) c):c=tyZ cl t:=by
 cases t<;>exact r
def zeZ:bootBuiltins "ValueError"=AA (.type "ValueError"):=by decide +kernel
def zi4{d:Nat}{cl:Nat->AG}(hg:Gl X x)(hm:X.mg x=AA (.ref (cl d)))(hd:(x==("__debug__":AN))=false:=by decide):PE X (.Name x pos) (tC (ybo cl (.cls d))):=zbb hg hm rfl hd
def ziA{cl:Nat->AG}(hg:Gl X "ValueError")(hm:X.mg "ValueError"=AB):PE X (.Name "ValueError" pos) (tC (ybo cl .val)):=zif hg hm zeZ rfl
def yb0(K:AD)(cl:Nat->AG)(c:Nat)(t:Ty):Prop:=BA K (.ref (cl c)) (tyZ cl t)=AA (yaE (.exn c) t)
def zdR{K:AD}{cl:Nat->AG}{c:Nat}:∀{ts:List Ty},(∀t∈ts,yb0 K cl c t)->GV K (.ref (cl c)) (ts.map (tyZ cl))=AA (ts.any (yaE (.exn c)))
 |[],_=>rfl
 |t::ts,h=>by
  have ht:=h t AW;unfold yb0 at ht;rw[AZ,GV,ht,B5]
  cases yaE (.exn c) t with
  |true=>rfl
  |false=>exact zdR λt' h'=>h t' (AL _ h')
abbrev gaE:=PySem.F.attr_ValueError.ga
def zgN{cs:List Nat}{ts:List Ty}{v z:PV}(h:ycw cs v ts=AA z):∃c,v=.exn c/\c∈cs/\z=.bl (ts.any (yaE (.exn c))):=by
 cases v with
 |exn c=>
  erw[ycw]at h;split at h
  .rename_i q;exact⟨c,rfl,by simpa using q,(AU h).symm⟩
  .cases h
 |_=>cases h
def yfO(S:Se)(X:Cx)(cs:List Nat)(t:Ty):List V->Hp->VK->Prop:=λxs H Q=>∃B φ st v x z,xs=[x,ybo S.cl t]/\yh X.K S.cl B φ H st/\yc X.K S.cl B φ H v x/\ycw cs v [t]=AA z /\
 ∀z' H' φ',Step φ H φ' H'->yh X.K S.cl B φ' H' st->yc X.K S.cl B φ' H' z z'->Q z' H'
def zjN{cs:List Nat}{t:Ty}(Z:∀c∈cs,ya6 X.K (S.cl c)/\yb0 X.K S.cl c t):yag X (.builtin "isinstance") (yfO S X cs t):=by
 rintro π s σ H xs us Q I r ⟨B,φ,st,v,x,z,rfl,rs,rv,e,q⟩
 let⟨u,c',rfl,ru,rc⟩:=vals2 r;let⟨c,rfl,hc,rfl⟩:=zgN e
 cases zcs rc
 erw[yc]at rv;let⟨a,rfl,hH,_,_⟩:=rv
 cases (show u=Au a from ru)
 let⟨Z1,Z2⟩:=Z c hc;have p:ybm a (S.cl c) s.heap:=(I.hok a _ hH).1;exact PySem.W.kia_one (zcw Z1 gaE) I.kIn p Z2 (λz=>nomatch z) λtk=>⟨.bl _,H,I.tok tk,rfl,q _ H φ .rfl rs (by simp[yc])⟩
def zim{cs:List Nat}{t:Ty}{en:AM}(Z:∀c∈cs,ya6 X.K (S.cl c)/\yb0 X.K S.cl c t)(hg:Gl X "isinstance")(hm:X.mg "isinstance"=AB)(hn:PE X en (tC (ybo S.cl t)))(ha:PE X a (tE S X ca))
  (he:starEach [a,en] X.env=(AE,eval a X.env)::starEach [en] X.env:=by rfl) (he2:starEach [en] X.env=(AE,eval en X.env)::starEach [] X.env:=by rfl) (hpl:(backTo pos (starEach [en] X.env)).any (·.1)=false:=by rfl):
  PE X (.Call (.Name "isinstance" p) [a,en] [] pos) (tE S X (.isx ca cs [t])):=
 (za9 (zjN Z) hg hm DR (zB ha (zB hn zkP he2) he) ⋯ ⋯ he hpl).imp λσ H Q ⟨B,φ,st,ρ,rs,re,h⟩=>by
  erw[ev]at h;refine tE.bind rs re h λx H1 v st1 φ1 s1 rs1 re1 rv h1=>?_;let⟨z,e,q⟩:=zu h1 rs1;exact⟨B,φ1,st1,v,x,z,rfl,rs1,rv,e,q⟩
abbrev tNs(vs:List V):TA:=λ_ H Q=>Q vs H
def zj9:PA X [] (tNs []):=zkP.imp λσ H Q h=>h
def zic{v:V}{vs:List V}(h:PE X e (tC v))(t:PA X es (tNs vs))(he:starEach (e::es) X.env=(AE,eval e X.env)::starEach es X.env:=by rfl):PA X (e::es) (tNs (v::vs)):=(zB h t he).imp λσ H Q h=>h
def zec{cl:Nat->AG}:∀{ts:List Ty} {us:List AF},Vals (ts.map (ybo cl)) us->us=ts.map (tyZ cl)
 |[],us,h=>by cases h;rfl
 |t::ts,us,h=>by
  cases h with
  |cons r q=>rw[zcs r,zec q];rfl
def ydO(S:Se)(X:Cx)(cs:List Nat)(ts:List Ty):List V->Hp->VK->Prop:=λxs H Q=>∃B φ st v x z p,xs=[x,.ref p]/\H p=AA (.tup (ts.map (ybo S.cl)))/\yh X.K S.cl B φ H st/\yc X.K S.cl B φ H v x/\ycw cs v ts=AA z /\
 ∀z' H' φ',Step φ H φ' H'->yh X.K S.cl B φ' H' st->yc X.K S.cl B φ' H' z z'->Q z' H'
def zho{cs:List Nat}{ts:List Ty}(Z:∀c∈cs,ya6 X.K (S.cl c)/\∀t∈ts,yb0 X.K S.cl c t):yag X (.builtin "isinstance") (ydO S X cs ts):=by
 rintro π s σ H xs us Q I r ⟨B,φ,st,v,x,z,p,rfl,hp,rs,rv,e,q⟩
 let⟨u,c',rfl,ru,rc⟩:=vals2 r;let⟨c,rfl,hc,rfl⟩:=zgN e
 cases (show c'=Au p from rc)
 erw[yc]at rv;let⟨a,rfl,hH,_,_⟩:=rv
 cases (show u=Au a from ru)
 let⟨Z1,Z2⟩:=Z c hc;have pp:ybm a (S.cl c) s.heap:=(I.hok a _ hH).1;let⟨_,its,r2,g⟩:=(show yG X.prog X.w H s.heap p (.tup (ts.map (ybo S.cl)))from I.hok p _ hp);have:=zec r2;subst this;exact PySem.W.kia_tup (zcw Z1 gaE) I.kIn pp g (zdR Z2) (λz=>nomatch z) λtk=>⟨.bl _,H,I.tok tk,rfl,q _ H φ .rfl rs (by simp[yc])⟩
def zia{cs:List Nat}{ts:List Ty}{k:Nat}{tp:Bc}(Z:∀c∈cs,ya6 X.K (S.cl c)/\∀t∈ts,yb0 X.K S.cl c t)(hz:ts.length<=1000)(hg:Gl X "isinstance")(hm:X.mg "isinstance"=AB)(hn:PA X es (tNs (ts.map (ybo S.cl))))(ha:PE X a (tE S X ca))
  (he:starEach [a,.Tuple es k tp] X.env=(AE,eval a X.env)::starEach [.Tuple es k tp] X.env:=by rfl) (he2:starEach [.Tuple es k tp] X.env=(AE,eval (.Tuple es k tp) X.env)::starEach [] X.env:=by rfl) (hpl:(backTo pos (starEach [.Tuple es k tp] X.env)).any (·.1)=false:=by rfl):
  PE X (.Call (.Name "isinstance" p) [a,.Tuple es k tp] [] pos) (tE S X (.isx ca cs ts)):=
 (za9 (zho Z) hg hm DR (zB ha (zB (zgH hn) zkP he2) he) ⋯ ⋯ he hpl).imp λσ H Q ⟨B,φ,st,ρ,rs,re,h⟩=>by
  erw[ev]at h;refine tE.bind rs re h λx H1 v st1 φ1 s1 rs1 re1 rv h1=>?_;let⟨z,e,q⟩:=zu h1 rs1;refine⟨by rw[Ak,BG];lia,λpp hp=>?_⟩;have s2:Step φ1 H1 φ1 (upd H1 pp (.tup (ts.map (ybo S.cl)))):=.upd hp;exact⟨B,φ1,st1,v,x,z,pp,rfl,zd,rs1.upd hp,rv.step s2,e,λz' H' φ' s'=>q z' H' φ' (s2.trans s')⟩
def tJ(S:Se)(X:Cx)(c:Ces):TJ:=λout σ H Q=>∃B φ st ρ,yh X.K S.cl B φ H st/\yp X.K S.cl B φ H ρ σ/\∃vs st' z,evs S.call ρ st c=.ok vs st'/\ycx out vs=AA z/\∀H' φ',Step φ H φ' H'->yh X.K S.cl B φ' H' st'->Q (.str z) H'
def tF(S:Se)(X:Cx)(c:Ce):TE:=λσ H Q=>∃B φ st ρ,yh X.K S.cl B φ H st/\yp X.K S.cl B φ H ρ σ/\∃v st' y,ev S.call ρ st c=.ok v st'/\ycy v=AA y/\∀H' φ',Step φ H φ' H'->yh X.K S.cl B φ' H' st'->Q (.str y) H'
def ziE(h:PE X e (tE S X ce)):PE X (.FormattedValue e (-1) AB pos) (tF S X ce):=by
 intro π s σ H Q I ⟨B,φ,st,ρ,rs,re,v,st',y,e1,e2,q⟩;refine FormattedValue_plain (thn (h π s σ H (λx H1=>∃φ1,Step φ H φ1 H1/\yh X.K S.cl B φ1 H1 st'/\yc X.K S.cl B φ1 H1 v x) I ⟨B,φ,st,ρ,rs,re,by rw[e1];exact λx H' φ' t r rv=>⟨φ',t,r,rv⟩⟩) λu s1 kq=>?_);let⟨x,H1,I1,r1,φ1,t1,rs1,rv⟩:=kq
 cases v with
 |int i=>
  erw[yc]at rv;subst rv;let⟨tk,rfl⟩:=r1;erw[ycy]at e2;split at e2
  .rename_i hd
   cases e2
   exact formatField_int_small hd ⟨.str _,H1,I1.tok _,⟨_,rfl⟩,q H1 φ1 t1 rs1⟩
  .cases e2
 |str z=>
  erw[yc]at rv;subst rv;let⟨tk,rfl⟩:=r1;erw[ycy]at e2;split at e2
  .rename_i hd
   cases e2
   exact formatField_str (λt' tk=>⟨.str _,H1,I1.tok _,⟨_,rfl⟩,q H1 φ1 t1 rs1⟩) (by rw[BG];exact hd)
  .cases e2
 |_=>cases e2
def zje{y:AN}{j:Nat}:PE X (.Constant (.str y) j pos) (tF S X (.cst (.str y))):=zk0.imp λσ H Q ⟨B,φ,st,ρ,rs,re,v,st',z,e1,e2,q⟩=>by
 erw[ev]at e1
 cases e1
 erw[ycy]at e2;split at e2
 .cases e2;exact q H φ .rfl rs
 .cases e2
def zjh:PJ X [] (tJ S X .nil):=λout π s σ H Q I ⟨B,φ,st,ρ,rs,re,vs,st',z,e1,e2,q⟩=>by
 erw[evs]at e1
 cases e1
 erw[ycx]at e2;split at e2
 .rename_i hz
  cases e2
  exact zjK out π s σ H Q I ⟨by rw[BG];exact hz,q H φ .rfl rs⟩
 .cases e2
def zed(he:PE X e (tF S X ce))(hr:PJ X es (tJ S X ces))(hs:evalEach (e::es) X.env=eval e X.env::evalEach es X.env:=by rfl):PJ X (e::es) (tJ S X (.cons ce ces)):=λout π s σ H Q I ⟨B,φ,st,ρ,rs,re,vs,st',z,e1,e2,q⟩=>by
 erw[evs]at e1
 cases e3:ev S.call ρ st ce with
 |ok v st1=>
  rw[e3]at e1;erw[R.bind]at e1
  cases e4:evs S.call ρ st1 ces with
  |ok ws st2=>
   rw[e4]at e1;simp only at e1
   cases e1
   erw[ycx]at e2
   cases e5:ycy v with
   |none=>rw[e5]at e2;cases e2
   |some y=>
    rw[e5]at e2;simp only at e2;split at e2
    .rename_i hz;refine zg3 he hr hs out π s σ H Q I ⟨B,φ,st,ρ,rs,re,v,st1,y,e3,e5,λH' φ' t1 rs1=>⟨y,rfl,by rw[BG];exact hz,B,φ',st1,ρ,rs1,re.step t1,ws,st',z,e4,e2,λH2 φ2 t2 rs2=>q H2 φ2 (t1.trans t2) rs2⟩⟩
    .cases e2
  |exc c st2=>rw[e4]at e1;cases e1
  |bad=>rw[e4]at e1;cases e1
 |exc c st1=>rw[e3]at e1;cases e1
 |bad=>rw[e3]at e1;cases e1
def zjZ{v1 v2:AM}{rest:List AM}(h:PJ X (v1::v2::rest) (tJ S X ces)):PE X (.JoinedStr (v1::v2::rest) pos) (tE S X (.fst ces)):=(zd8 h).imp λσ H Q ⟨B,φ,st,ρ,rs,re,h⟩=>by
 erw[ev]at h
 cases e1:evs S.call ρ st ces with
 |ok vs st1=>
  rw[e1]at h;erw[yd2]at h
  cases e2:ycx DF vs with
  |none=>rw[e2]at h;exact h.elim
  |some z=>
   rw[e2]at h;exact⟨B,φ,st,ρ,rs,re,vs,st1,z,e1,e2,λH' φ' t r=>h _ H' φ' t r (by erw[yc])⟩
 |exc c st1=>rw[e1]at h;exact h.elim
 |bad=>rw[e1]at h;exact h.elim
end
def zp:fillsNumberSlot (.type "tuple") "mul"=pure false:=
 PySem.fillsNumberSlot_seq (id:="tuple.__mul__") (r:=AA (.builtin "tuple.__rmul__")) Bg.lookup (by decide +kernel) EJ.lookup (by decide +kernel)
def zP:seqRepeat? (.type "tuple")=pure (AA (.builtin "tuple.__mul__")):=by
 unfold seqRepeat?;rw[Fw (T:="tuple") (name:="__mul__") (id:="tuple.__mul__") Bg.lookup (by decide +kernel),Fw (T:="tuple") (name:="__rmul__") (id:="tuple.__rmul__") EJ.lookup (by decide +kernel)];rfl
def zC(a:Int)(t:GX)(l:AG)(items:Array AF)(n:Nat)(dd:Option AG)(sl:Array (Option AF)):
  Meets (EY.«int.__rmul__» ⟨[.int a t,.ref l],[]⟩) (λ_ R s=>s.heap.get? l=AA {cls:=.type "tuple",dict:=dd,data:=.seq items n,slots:=sl}/\R (.ok (.ret Value.notImplemented)) s):=
 .of_wp λprog w A R s h=>by let⟨hp,g,d,tk,os⟩:=s;let⟨hl,h⟩:=h;wp_walk;exact⟨_,rfl,h⟩
def zda(l:AG)(items:Array AF)(n:Nat)(dd:Option AG)(sl:Array (Option AF))(x:Int)(u:GX)(hc0:¬(decide (x < -(2^63)) || decide (x ≥ 2^63))=AC)(hc1:¬(items.isEmpty || x==1)=AC)(hc2:¬(decide (x<=0) || items.isEmpty)=AC)(hc3:¬(items.size:Int)*x > (2^63-1)/8)(hc4:¬Dh ((items.size:Int)*x)=AC)
  (hsz:((AK x.toNat items).foldl (·++·) #[]).size<=sizeLine):
  Meets (EY.«tuple.__mul__» ⟨[.ref l,.int x u],[]⟩) (λ_ R s=>s.heap.get? l=AA {cls:=.type "tuple",dict:=dd,data:=.seq items n,slots:=sl}/\R (.ok (.ret (Au s.heap.objs.size))) {s with heap:=s.heap.push {cls:=FO "tuple",data:=Gu ((AK x.toNat items).foldl (·++·) #[])},toks:=s.toks}):=
 .of_wp λprog w A R s h=>by
  let⟨hp,g,d,tk,os⟩:=s;let⟨hl,h⟩:=h;have f1:=EK;have f2:=Cf
  have ht:Gb (⟨hp,g,d,tk,os⟩:AH).heap l items:=⟨_,hl,rfl,n,rfl⟩
  wp_walk
  rw[if_neg hc0];refine AI (CM ht ?_);rw[if_neg hc1];rw[if_neg hc2];rw[if_neg hc3];rw[if_neg hc4];exact AI (m:=BN _) (Aw (AO ⟨_,rfl,h⟩) hsz)
def zdh(l:AG)(items:Array AF)(n:Nat)(dd:Option AG)(sl:Array (Option AF))(u:GX):
  Meets (EY.«tuple.__mul__» ⟨[.ref l,.int 1 u],[]⟩) (λ_ R s=>s.heap.get? l=AA {cls:=.type "tuple",dict:=dd,data:=.seq items n,slots:=sl}/\R (.ok (.ret (Au l))) s):=
 .of_wp λprog w A R s h=>by
  let⟨hp,g,d,tk,os⟩:=s;let⟨hl,h⟩:=h;have f1:=EK;have f2:=Cf
  wp_walk
  exact⟨_,rfl,h⟩
def zdn(l:AG)(items:Array AF)(n:Nat)(dd:Option AG)(sl:Array (Option AF))(x:Int)(u:GX)(hc0:¬(decide (x < -(2^63)) || decide (x ≥ 2^63))=AC)(hc1:¬(items.isEmpty || x==1)=AC)(hc2:(decide (x<=0) || items.isEmpty)=AC):
  Meets (EY.«tuple.__mul__» ⟨[.ref l,.int x u],[]⟩) (λ_ R s=>s.heap.get? l=AA {cls:=.type "tuple",dict:=dd,data:=.seq items n,slots:=sl}/\R (.ok (.ret (Au s.heap.objs.size))) {s with heap:=s.heap.push {cls:=FO "tuple",data:=Gu #[]},toks:=s.toks}):=
 .of_wp λprog w A R s h=>by
  let⟨hp,g,d,tk,os⟩:=s;let⟨hl,h⟩:=h;have f1:=EK;have f2:=Cf
  have ht:Gb (⟨hp,g,d,tk,os⟩:AH).heap l items:=⟨_,hl,rfl,n,rfl⟩
  wp_walk
  rw[if_neg hc0];refine AI (CM ht ?_);rw[if_neg hc1];rw[if_pos hc2];exact AI (m:=BN _) (Aw (AO ⟨_,rfl,h⟩) (show (#[]:Array AF).size<=sizeLine from BX _))
def zaP(its:List AF):∀k:Nat,(AK k its.toArray).foldl (·++·) #[]=((AK k its).flatten).toArray:=λk=>by
 have:=listMul_foldl its.toArray k #[];simpa using this
theorem Vals.repN{xs:List V}{us:List AF}(r:Vals xs us):∀k:Nat,Vals (AK k xs).flatten (AK k us).flatten
 |0=>.nil
 |k+1=>by
  rw[As,As,BV,BV];exact r.append (Vals.repN r k)
section
variable {S:Se}{X:Cx}{p pos p2 px apos:Bc}{a b:AM}{ca cb:Ce}
def zii:OpR X (binaryOp .Mult) (λx y H Q=>∃a xs n,x=.ref a/\y=.int n/\SqT X.K H a xs/\xs≠[]/\2<=n/\n<=1000/\xs.length<=1000/\∀p,H p=AB->Q (.ref p) (upd H p (.tup (AK n.toNat xs).flatten))):=by
 intro π s σ H x y v u Q I rx ry h;let⟨a,xs,n,rfl,rfl,ha,hx,h2,hn,hz,q⟩:=h
 cases rx
 let⟨t,rfl⟩:=ry;let⟨its,r1,p1,_⟩:=I.tuple ha;let⟨⟨cls,dd,data,sl⟩,ho,hc,m,hd⟩:=id p1;simp only at hc hd;subst hc hd;have hl:=r1.length;have hne:its≠[]:=λz=>hx (r1.nil_iff.mp z);have hmul:its.length*n.toNat<=1000*1000:=Di ∅ ∅;have hmulI:(its.length:Int)*n<=1000000:=by
  have:((its.length*n.toNat:Nat):Int)=(its.length:Int)*n:=by rw[Int.natCast_mul,Int.toNat_of_nonneg ∅]
  lia
 have hfl:∀k,((AK k its).flatten).length=k*its.length:=λk=>by simp
 have hflx:((AK n.toNat xs).flatten).length<=sizeLine:=by
  rw[List.length_flatten,BG];erw[List.map_replicate,List.sum_replicate_nat];rw[hl,F8];lia
 refine B6 (T:="tuple") (U:="int") ⋯ ⟨_,ho,rfl⟩ (λs'=>C3 s' n t) zp C8 BL zP CZ.lookup
  (BW BL (C3 s n t) C0 (CQ _ _) (zC n t a its.toArray m dd sl)
   ⟨ho,rfl,⟨_,ho,rfl⟩,BW Bg ⟨_,ho,rfl⟩ Cp (Cg _ _)
    (zda a its.toArray m dd sl n t (by simp;lia) (by simp[hne];lia) (by simp[hne];lia) (by erw[AY];lia) (by erw[Dh,AY];simp[BG];lia) (by rw[zaP,AY,hfl,BG,F8];lia)) ⟨ho,?_⟩⟩)
 rw[zaP];refine⟨.ref s.heap.objs.size,_,I.laid (t':=s.toks) (o:=.tup (AK n.toNat xs).flatten) (λb ob q=>AS _ q) (AR _) ?_,rfl,q _ (I.hok.fresh (AR _))⟩;exact⟨hflx,_,r1.repN n.toNat,A7 _ rfl⟩
def zgW:OpR X (binaryOp .Mult) (λx y H Q=>∃a xs,x=.ref a/\y=.int 1/\SqT X.K H a xs/\Q (.ref a) H):=by
 intro π s σ H x y v u Q I rx ry h;let⟨a,xs,rfl,rfl,ha,q⟩:=h
 cases rx
 let⟨t,rfl⟩:=ry;let⟨its,r1,p1,_⟩:=I.tuple ha;let⟨⟨cls,dd,data,sl⟩,ho,hc,m,hd⟩:=id p1;simp only at hc hd;subst hc hd;exact B6 (T:="tuple") (U:="int") ⋯ ⟨_,ho,rfl⟩ (λs'=>C3 s' 1 t) zp C8 BL zP CZ.lookup
  (BW BL (C3 s 1 t) C0 (CQ _ _) (zC 1 t a its.toArray m dd sl)
   ⟨ho,rfl,⟨_,ho,rfl⟩,BW Bg ⟨_,ho,rfl⟩ Cp (Cg _ _) (zdh a its.toArray m dd sl t) ⟨ho,⟨.ref a,H,I,rfl,q⟩⟩⟩)
def zgZ:OpR X (binaryOp .Mult) (λx y H Q=>∃a xs,x=.ref a/\y=.int 0/\SqT X.K H a xs/\xs≠[]/\∀p,H p=AB->Q (.ref p) (upd H p (.tup []))):=by
 intro π s σ H x y v u Q I rx ry h;let⟨a,xs,rfl,rfl,ha,hx,q⟩:=h
 cases rx
 let⟨t,rfl⟩:=ry;let⟨its,r1,p1,_⟩:=I.tuple ha;let⟨⟨cls,dd,data,sl⟩,ho,hc,m,hd⟩:=id p1;simp only at hc hd;subst hc hd;have hne:its≠[]:=λz=>hx (r1.nil_iff.mp z);refine B6 (T:="tuple") (U:="int") ⋯ ⟨_,ho,rfl⟩ (λs'=>C3 s' 0 t) zp C8 BL zP CZ.lookup
  (BW BL (C3 s 0 t) C0 (CQ _ _) (zC 0 t a its.toArray m dd sl)
   ⟨ho,rfl,⟨_,ho,rfl⟩,BW Bg ⟨_,ho,rfl⟩ Cp (Cg _ _)
    (zdn a its.toArray m dd sl 0 t (by simp) (by simp[hne]) (by simp)) ⟨ho,?_⟩⟩)
 refine⟨.ref s.heap.objs.size,_,I.laid (t':=s.toks) (o:=.tup []) (λb ob q=>AS _ q) (AR _) ?_,rfl,q _ (I.hok.fresh (AR _))⟩;exact⟨BX _,_,.nil,A7 _ rfl⟩
theorem ye.rep{K:AD}{cl:Nat->AG}{B:AG->Prop}{φ:Ph}{H:Hp}{vs:List PV}{xs:List V}(l:ye K cl B φ H vs xs):∀k:Nat,ye K cl B φ H (AK k vs).flatten (AK k xs).flatten
 |0=>by simp[ye]
 |k+1=>by
  rw[As,As,BV,BV];exact l.append (ye.rep l k)
def zbp(a:Array Nat):∀(k:Nat) (acc:Array Nat),((AK k a).foldl (·++·) acc).toList=acc.toList++(AK k a.toList).flatten
 |0,acc=>by simp
 |k+1,acc=>by
  rw[As,CP,zbp a k (acc++a)];simp[As]
def zi3{x:AN}{n:Int}(h1:1<=n)(h2:1<=x.length):Txt.mul x n=⟨(AK n.toNat x.cps.toList).flatten.toArray⟩:=by
 unfold Txt.mul;rw[if_neg ∅]
 by_cases q:n=1
 .subst q;rw[if_pos (by simp)]
  cases x
  simp
 .have:(n==1 || x.length==0)=false:=by simp[q];lia
  rw[if_neg (by rw[this];simp)]
  congr 1
  apply EL.mp;rw[zbp];simp
def zh8{x:AN}{n:Int}(h1:1<=n)(h2:n<=1000)(h3:x.length<=1000)(h4:1<=x.length){π:List (AG×BR)}{s:AH}{σ:St}{H:Hp}{t u:GX}{Q:VK}(I:Inv X π σ H s)(q:Q (.str ⟨(AK n.toNat x.cps.toList).flatten.toArray⟩) H):
  A2 (model X.prog X.w) X.A (binaryOp .Mult (.str x t) (.int n u)) (EP X π σ Q) X.xe s:=by
 have hm:x.length*n.toNat<=1000*1000:=Di h3 ∅;refine SB.mul ⟨by rw[decide_eq_false ∅,decide_eq_false ∅];rfl,λ_ _=>?_,λ_ _=>?_⟩ λt' k=>?_
 .have h5:(x.length:Int)*n<=1000*1000:=Int.mul_le_mul ∅ h2 ∅ ∅;have:=(Int.le_ediv_iff_mul_le (a:=(x.length:Int)) (b:=2^63-1) (show (0:Int)<n by lia)).2 ∅;lia
 .unfold Builtin.Str.tooLong;rw[BG];exact decide_eq_false ∅
 .rw[zi3 h1 h4];exact⟨.str _,H,I.tok k,⟨_,rfl⟩,q⟩
def zi6:OpR X (binaryOp .Mult) (rT2 S X ycB):=by
 rintro π s σ H x y v u Q I rx ry ⟨B,φ,st,a,b,z,rs,ra,rb,e,q⟩
 unfold ycB at e;split at e
 .rename_i a n;split at e
  .rename_i c
   cases e
   erw[yc]at ra rb;subst ra rb;let⟨t1,rfl⟩:=rx;let⟨t2,rfl⟩:=ry;exact zh8 c.1 c.2.1 c.2.2.1 c.2.2.2 I (q _ H φ .rfl rs (by erw[yc]))
  .cases e
 .rename_i k vs n;split at e
  .rename_i c
   cases e
   subst c;erw[yc]at rb;have ra':=ra;erw[yc]at ra';let⟨p,xs,rfl,rt,l⟩:=ra';exact zgW π s σ H _ _ v u Q I rx ry ⟨p,xs,rfl,rb,rt.sq,q _ H φ .rfl rs ra⟩
  split at e
  .rename_i c
   cases e
   erw[yc]at ra rb;subst rb;let⟨p,xs,rfl,rt,l⟩:=ra;have hl:=l.length;refine zii π s σ H _ _ v u Q I rx ry ⟨p,xs,n,rfl,rfl,rt.sq,?_,c.1,c.2.1,by rw[<-hl];exact c.2.2.2,λt ht=>q _ _ φ (.upd ht) (rs.upd ht) (.tup_new ht rs (l.rep n.toNat))⟩
   rintro rfl
   cases vs with
   |nil=>exact absurd c.2.2.1 (by simp)
   |cons _ _=>simp at hl
  split at e
  .rename_i c
   cases e
   erw[yc]at ra rb;subst rb;let⟨p,xs,rfl,rt,l⟩:=ra;have hl:=l.length;let⟨rfl,c2⟩:=c;refine zgZ π s σ H _ _ v u Q I rx ry ⟨p,xs,rfl,rfl,rt.sq,?_,λt ht=>q _ _ φ (.upd ht) (rs.upd ht) (.tup_new ht rs (by simp[ye]))⟩
   rintro rfl
   cases vs with
   |nil=>exact absurd c2 (by simp)
   |cons _ _=>simp at hl
  .cases e
 .rename_i vs n;split at e
  .rename_i c
   cases e
   erw[yc]at ra rb;subst rb;let⟨p,xs,rfl,rt,l⟩:=ra;have hl:=l.length;have hm:xs.length*n.toNat<=1000*1000:=Di ∅ ∅;exact zix π s σ H _ _ v u Q I rx ry ⟨p,n,xs,rfl,rfl,rt.1,by lia,by lia,by rw[BG];lia,λt ht=>q _ _ φ (.upd ht) (rs.upd ht) (.lst_new ht rs (l.rep n.toNat))⟩
  .cases e
 .cases e
def zj5(ha:PE X a (tE S X ca))(hb:PE X b (tE S X cb)):PE X (.BinOp a .Mult b pos) (tE S X (.rep ca cb)):=
 (ziH zi6 ha hb).imp λσ H Q ⟨B,φ,st,ρ,rs,re,h⟩=>by
  erw[ev]at h;refine tE.bind rs re h λx H1 v st1 φ1 s1 rs1 re1 rv h1=>tE.bind rs1 re1 h1 λy H2 w st2 φ2 s2 rs2 re2 rw h2=>?_;let⟨z,e,q⟩:=zu h2 rs2;exact⟨B,φ2,st2,v,w,z,rs2,rv.step s2,rw,e,q⟩
def GCI(mg:AN->Option AF)(x:AN)(i:Int):Prop:=∃t,mg x=AA (.int i t)
def zjG{x:AN}{i:Int}(hg:Gl X x)(h:GCI X.mg x i)(hd:(x==("__debug__":AN))=false:=by decide):PE X (.Name x pos) (tE S X (.cst (.int i))):=by
 let⟨t,hm⟩:=h;exact(zbb hg hm (show RelV (.int i) (.int i t)from ⟨t,rfl⟩) hd).imp λσ H Q ⟨B,φ,st,ρ,rs,re,h⟩=>by
  erw[ev]at h;exact h.ok rs (by erw[yc])
end
end L2
namespace WE
open PySem PySem.Spec PyProof.Rows
section
variable {prog:A3}{w:Aa}{A:A8}{E:AF->AH->Prop}{s:AH}
def yc9(h:An)(a t:AG)(i:Int):Prop:=∃o,h.get? a=AA o/\o.cls=.type "reversed"/\o.data=.fields #[.ref t,rawInt i]
theorem yc9.typeIs{a t:AG}{i:Int}(x:yc9 s.heap a t i):s.TypeIs (.ref a) "reversed":=let ⟨o,ho,hc,_⟩:=x;⟨o,ho,hc⟩
end
end WE
namespace L2
open PySem PySem.Spec PyProof.Rows
end L2
namespace L2
open PySem PySem.Spec PyProof.Rows IC
open Classical in
def eqR(h:An)(dw:GI)(u:AF):Bool:=decide (∃d as,Gp h u d as/\BP d dw=AC)
def zgD{h:An}{u:AF}{d dw:GI}{as:List AG}(r:Gp h u d as):eqR h dw u=BP d dw:=by
 unfold eqR
 classical
 cases c:BP d dw with
 |true=>exact decide_eq_true (p:=∃d as,Gp h u d as/\BP d dw=AC) ⟨d,as,r,c⟩
 |false=>
  refine decide_eq_false ?_
  rintro⟨d',as',r',q⟩
  have:=(reads_det (λb o e _=>e) r r').1;subst this;rw[c]at q
  cases q
section
variable {S:Se}{X:Cx}{σ:St}{B:AG->Prop}{φ φ1:Ph}{H H1:Hp}{st:SO}{ρ:IC.Env}{p pos p2 px py pt pt2:Bc}{a b c d o a' b' c' d':AM}{ca cb cc cd ce cf:Ce}{π:List (AG×BR)}{s:AH}{kt k2:Nat}{es:List AM}{ces:Ces}{x:AN}
def zbX(I:Inv X π σ H s)(w:PV)(hw:shd 60 w=AC):∀(vs:List PV) (xs:List V) (us:List AF),yaH 60 vs=AC->ye X.K S.cl B φ H vs xs->Vals xs us->us.any (eqR s.heap (toD w))=inL w vs
 |[],xs,us,h,r,q=>by
  erw[ye]at r;subst r;cases q;rfl
 |v::vs,xs,us,h,r,q=>by
  erw[ye]at r;let⟨y,ys,rfl,rv,l⟩:=r;erw[yaH,AJ]at h
  cases q with
  |cons q1 q2=>
   let⟨as,z1⟩:=zy (S:=S) I v 60 y _ h.1 rv q1;rw[B5,zbX I w hw vs ys _ h.2 l q2,zgD z1,za6 v w 60 60 h.1 hw];rfl
def zb2(I:Inv X π σ H s)(w:PV)(hw:shd 60 w=AC){wv:AF}{bs:List AG}(zw:Gp s.heap wv (toD w) bs)(hu:X.A.units+64<cLine):∀(vs:List PV) (xs:List V) (us:List AF),yaH 60 vs=AC->ye X.K S.cl B φ H vs xs->Vals xs us->∀u∈us,GP X.A.in1 s u wv (eqR s.heap (toD w) u)
 |[],xs,us,h,r,q=>by
  erw[ye]at r;subst r;cases q;intro u hu;cases hu
 |v::vs,xs,us,h,r,q=>by
  erw[ye]at r;let⟨y,ys,rfl,rv,l⟩:=r;erw[yaH,AJ]at h
  cases q with
  |cons q1 q2=>
   let⟨as,z1⟩:=zy (S:=S) I v 60 y _ h.1 rv q1;intro u hm;rcases A6.mp hm with rfl|hm
   .rw[zgD z1];let⟨l1,d1⟩:=zbh v 60 h.1;let⟨l2,d2⟩:=zbh w 60 hw;refine SeqAt.eqAt_reads _ _ X.A.in1 s _ _ as bs z1 zw l1 l2 ?_;show X.A.units+1+_<_;lia
   .exact zb2 I w hw zw hu vs ys _ h.2 l q2 u hm
def rTs(S:Se)(X:Cx)(f:SO->PV->PV->Option PV):R2:=λx y H Q=>∃B φ st v w z,yh X.K S.cl B φ H st/\yc X.K S.cl B φ H v x/\yc X.K S.cl B φ H w y/\f st v w=AA z /\
 ∀z' H' φ',Step φ H φ' H'->yh X.K S.cl B φ' H' st->yc X.K S.cl B φ' H' z z'->Q z' H'
def zgh(hu:X.A.units+64<cLine):OpR X (compareOp .NotIn) (rTs S X ybL):=by
 rintro π s σ H x y v u Q I rx ry ⟨B,φ,st,a,b,z,rs,ra,rb,e,q⟩
 erw[ybL]at e
 cases e1:yad st b with
 |none=>rw[e1]at e;cases e
 |some ws=>
  rw[e1]at e;dsimp only at e;split at e
  .rename_i c;rw[AJ]at c
   cases e
   let⟨l,ys,rfl,hq,lr⟩:=zgz rs rb e1
   cases (show u=Au l from ry)
   let⟨bs,z1⟩:=zy (S:=S) I a 60 x v c.1 ra rx;rcases hq with hq|hq
   .let⟨its,r,pl,hz⟩:=I.list hq;refine SeqAt.notIn_listAt (eqR s.heap (toD a)) pl.isList (λw hw=>zb2 (S:=S) I a c.1 z1 hu ws ys its c.2 lr r w (by simpa using hw)) ⟨.bl _,H,I,rfl,?_⟩;rw[show its.toArray.any (eqR s.heap (toD a))=its.any (eqR s.heap (toD a))by simp,zbX (S:=S) I a c.1 ws ys its c.2 lr r];exact q _ H φ .rfl rs (by erw[yc])
   .let⟨its,r,pl,hz⟩:=I.tuple hq;refine SeqAt.notIn_tupleAt (eqR s.heap (toD a)) pl (λw hw=>zb2 (S:=S) I a c.1 z1 hu ws ys its c.2 lr r w (by simpa using hw)) ⟨.bl _,H,I,rfl,?_⟩;rw[show its.toArray.any (eqR s.heap (toD a))=its.any (eqR s.heap (toD a))by simp,zbX (S:=S) I a c.1 ws ys its c.2 lr r];exact q _ H φ .rfl rs (by erw[yc])
  .cases e
def ziR(hu:X.A.units+64<cLine)(ha:PE X a (tE S X ca))(hb:PE X b (tE S X cb))(hm:behindInMarks .NotIn b=AE):PE X (.Compare a [.NotIn] [b] pos) (tE S X (.nin ca cb)):=
 (zer (zgh hu) ha hb hm).imp λσ H Q ⟨B,φ,st,ρ,rs,re,h⟩=>by
  erw[ev]at h;refine tE.bind rs re h λx H1 v st1 φ1 s1 rs1 re1 rv h1=>tE.bind rs1 re1 h1 λy H2 w st2 φ2 s2 rs2 re2 rw h2=>?_;let⟨z,e,q⟩:=zu h2 rs2;exact⟨B,φ2,st2,v,w,z,rs2,rv.step s2,rw,e,q⟩
def zhZ{st:SO}{x y z:PV}(h:ybL st x y=AA z):∃k,z=.bl k:=by
 unfold ybL at h;split at h
 .split at h
  .cases h;exact⟨_,rfl⟩
  .cases h
 .cases h
def zi7(hu:X.A.units+64<cLine)(ha:PE X a (tE S X ca))(hb:PE X b (tE S X cb))(hm:behindInMarks .NotIn b=AE):PT X (.Compare a [.NotIn] [b] pos) (tTs S X (.nin ca cb)):=
 (zfe (zgh hu) ha hb hm).imp λσ H Q ⟨B,φ,st,ρ,rs,re,h⟩=>by
  erw[ev,yaz,R.bind_assoc]at h;refine tE.bind rs re h λx H1 v st1 φ1 s1 rs1 re1 rv h1=>tE.bind rs1 re1 h1 λy H2 w st2 φ2 s2 rs2 re2 rw h2=>?_
  cases e:ybL st2 v w with
  |none=>rw[e]at h2;exact h2.elim
  |some z=>
   let⟨k,rfl⟩:=zhZ e;rw[e]at h2;refine⟨B,φ2,st2,v,w,.bl k,rs2,rv.step s2,rw,e,λz' H' φ' s' rs' rz=>?_⟩;erw[yc]at rz;exact⟨k,rz,h2 k H' φ' s' rs' rfl⟩
end
end L2
namespace IC
open PySem
def glue(c:Nat):List (List Nat)->List Nat
 |[]=>[]
 |[p]=>p
 |p::q::r=>p++c::glue c (q::r)
def zaJ{c:Nat}:∀{p:List Nat},c∉p->yN c p=[p]
 |[],_=>rfl
 |x::p,h=>by
  have h1:¬x=c:=λe=>h (by simp[e]);erw[yN,if_neg h1,zaJ (λe=>h (AL _ e):c∉p)]
def zaS{c:Nat}:∀{p:List Nat} (r:List Nat),c∉p->yN c (p++c::r)=p::yN c r
 |[],r,_=>by simp[yN]
 |x::p,r,h=>by
  have h1:¬x=c:=λe=>h (by simp[e]);erw[DI,yN,if_neg h1,zaS r (λe=>h (AL _ e):c∉p)]
def zaU{c:Nat}:∀{ps:List (List Nat)},ps≠[]->(∀p∈ps,c∉p)->yN c (glue c ps)=ps
 |[],h,_=>absurd rfl h
 |[p],_,h=>by erw[glue];exact zaJ (h p (by simp))
 |p::q::r,_,h=>by
  erw[glue];rw[zaS _ (h p (by simp)),zaU (by simp) λx hx=>h x (AL _ hx)]
def zcS(a b:AN):(a++b).cps.toList=a.cps.toList++b.cps.toList:=by
 show (a.cps++b.cps).toList=_;simp
def zbB(c:Nat):∀ys:List AN,(C6 ⟨#[c]⟩ ys).cps.toList=glue c (ys.map (·.cps.toList))
 |[]=>rfl
 |[y]=>rfl
 |y::z::r=>by
  erw[C6,AZ,glue];rw[zcS,zcS,zbB c (z::r)];simp
def zef{a b:AN}(h:a.cps.toList=b.cps.toList):a=b:=by
 cases a;cases b
 erw[Str.mk.injEq];exact EL.mp h
def zfQ(x:AN)(c:Nat):EM x ⟨#[c]⟩=(yN c x.cps.toList).map λl=>⟨l.toArray⟩:=by
 have h1:=StrLaws.join_split x ⟨#[c]⟩;have h2:=StrLaws.split_free x c;have h3:=Gk x ⟨#[c]⟩;have h4:x.cps.toList=glue c ((EM x ⟨#[c]⟩).map (·.cps.toList)):=by rw[<-zbB,h1]
 rw[h4,zaU]
 .rw[Fe]
  conv=>lhs;rw[<-List.map_id (EM x ⟨#[c]⟩)]
  refine List.map_congr_left λa _=>zef ?_;simp
 .intro e;have:=congrArg Bv e;simp at this;rw[this]at h3;simp at h3
 .intro p hp;let⟨a,ha,rfl⟩:=B8.1 hp;exact h2 a ha
end IC
namespace L2
open PySem PySem.Spec PyProof.Rows IC
section
variable {S:Se}{X:Cx}{σ:St}{B:AG->Prop}{φ:Ph}{H:Hp}{p p2 pos pos2 apos:Bc}{a b tg:AM}{ca cb:Ce}
def ycK:V->List V->Hp->VK->Prop:=λx vs H Q=>∃s c,x=.str s/\vs=[.str ⟨#[c]⟩]/\s.length<=100000/\∀l,H l=AB->Q (.ref l) (upd H l (.lst ((yN c s.cps.toList).map λl=>.str ⟨l.toArray⟩)))
def zbA:∀l:List (AN×GX),Vals (l.map λp=>V.str p.1) (strValues l)
 |[]=>.nil
 |p::l=>.cons ⟨p.2,rfl⟩ (zbA l)
def zf8:MtR X "str.split" ycK:=by
 intro π s σ H x vs v us Q I rx rv h;let⟨x,c,rfl,rfl,hz,q⟩:=h;let⟨t,rfl⟩:=rx;let⟨w,rfl,rw⟩:=vals1 rv;let⟨u,rfl⟩:=rw;have hle:(EM x ⟨#[c]⟩).length<=sizeLine:=by
  have:=Gn x ⟨#[c]⟩;rw[BG];lia
 have fin:∀(l:List (AN×GX)) (tk:Nat),l.map (·.1)=EM x ⟨#[c]⟩->EP X π σ Q (.ref s.heap.objs.size) {s with heap:=s.heap.push {cls:=.type "list",data:=.seq (strValues l).toArray},toks:=tk}:=λl tk e=>by
  have e2:l.map (λp=>V.str p.1)=(yN c x.cps.toList).map λl=>.str ⟨l.toArray⟩:=by
   rw[zfQ]at e;have:=congrArg (List.map V.str) e;simpa [Fe,Function.comp_def] using this
  have hl:(l.map λp=>V.str p.1).length<=sizeLine:=by
   rw[Ak,<-Ak (f:=(·.1)),e];exact hle
  refine⟨.ref s.heap.objs.size,_,I.laid (t':=tk) (λb o e=>AS _ e) (AR _) (show yG X.prog X.w _ _ _ (.lst ((yN c x.cps.toList).map λl=>.str ⟨l.toArray⟩))from ?_),rfl,q _ (I.hok.fresh (AR _))⟩;rw[<-e2];exact⟨hl,strValues l,_,zbA l,A7 _ rfl⟩
 have hsz:x.length<=sizeLine:=by rw[BG];lia
 cases h1:(decide (x.length<(⟨#[c]⟩:AN).length) || decide (FF x<FF ⟨#[c]⟩))
 .cases hf:(CG x ⟨#[c]⟩ 0 x.length (x.length+1)).isEmpty
  .refine BW Cr (D9 _ _ _) Dw (Dj _ _) (PySem.meets_str_split_sep x ⟨#[c]⟩ t u h1 rfl hf hsz ?_) ?_
   .have:=hle;unfold EM at this;rw[if_neg (ne_true_of_eq_false h1),if_neg (ne_true_of_eq_false hf)]at this;exact this
   show wants _ _ _ {s with toks:=_,heap:=s.heap.push {cls:=.type "list",data:=.seq (strsFrom s.toks (Builtin.Str.partsBetween x (CG x ⟨#[c]⟩ 0 x.length (x.length+1)) (⟨#[c]⟩:AN).length)).toArray} };rw[strsFrom_eq];exact fin (numbered s.toks _) _ ((numbered_texts _ _).trans ((if_neg (ne_true_of_eq_false h1)).trans (if_neg (ne_true_of_eq_false hf))).symm)
  .exact BW Cr (D9 _ _ _) Dw (Dj _ _) (PySem.meets_str_split_not_found x ⟨#[c]⟩ t u h1 rfl hf)
    (fin [(x,t)] _ ((if_neg (ne_true_of_eq_false h1)).trans (if_pos hf)).symm)
 .exact BW Cr (D9 _ _ _) Dw (Dj _ _) (PySem.meets_str_split_cannot_occur x ⟨#[c]⟩ t u h1)
   (fin [(x,t)] _ (if_pos h1).symm)
def zcR{c:Nat}{K:AD}{cl:Nat->AG}:∀ls:List (List Nat),ye K cl B φ H (ls.map λl=>PV.str ⟨l.toArray⟩) (ls.map λl=>V.str ⟨l.toArray⟩)
 |[]=>by simp[ye]
 |l::ls=>by
  erw[AZ,ye];exact⟨_,_,rfl,by erw[yc],zcR (c:=c) ls⟩
def zen(st:SO)(y q:AN):(∃c,q=⟨#[c]⟩/\y.length<=100000/\ya4 st (.str y) (.str q)=.ok (.lst ((yN c y.cps.toList).map λl=>.str ⟨l.toArray⟩)) st) \/ ya4 st (.str y) (.str q)=.bad:=by
 erw[ya4];split
 .rename_i c hc;split
  .rename_i hz;exact .inl ⟨c,zef (by rw[hc]),hz,rfl⟩
  .exact .inr rfl
 .exact .inr rfl
def zfG(ha:PE X a (tE S X ca))(hb:PE X b (tE S X cb))(hs:starEach [b] X.env=(AE,eval b X.env)::starEach [] X.env:=by rfl)(hbase:attributeBase a "split" X.env (eval a X.env)=eval a X.env:=by rfl)(hline:(apos.endLine==pos.line)=true:=by rfl)
  (hfew:((backTo pos (starEach [b] X.env)).all (λx=>!x.1)&&(backToKw pos (keywordEach [] X.env)).all (λx=>x.1.isSome)&&decide (([b]:List AM).length+([]:List B4).length+(if ([]:List B4).isEmpty then 0 else 1)<30))=true:=by rfl) (hany:(backTo pos (starEach [] X.env)).any (·.1)=false:=by rfl):
  PE X (.Call (.Attribute a "split" apos) [b] [] pos) (tE S X (.mth .split ca (.cons cb .nil))):=
 (zeE E1 Cr PySem.F.type_str_split zf8 ha (zG (S:=S) hb zaz hs) hbase hfew hline hs hany).imp λσ H Q ⟨B,φ,st,ρ,rs,re,h⟩=>by
  erw[ev]at h;refine tE.bind rs re h λx H1 v st1 φ1 s1 rs1 re1 rv h1=>?_;let⟨_,e1,h1⟩:=zay h1
  cases v with
  |str y=>
   erw[yc]at rv;subst rv;refine⟨rfl,tAs.bind rs1 re1 h1 λys H2 vs st2 φ2 s2 rs2 re2 rvs h2=>?_⟩;rcases vs with _|⟨w,_|⟨w',t⟩⟩
   .exact h2.elim
   .let⟨z,rfl,rw⟩:=rvs.one;erw[ybJ]at h2
    cases w with
    |str q=>
     erw[yc]at rw;subst rw;rcases zen st2 y q with⟨c,rfl,hz,e⟩|e
     .rw[e]at h2;exact⟨y,c,rfl,rfl,hz,λl hl=>h2 _ _ φ2 (.upd hl) (rs2.upd hl) (.lst_new hl rs2 (zcR (c:=c) _))⟩
     .rw[e]at h2;exact h2.elim
    |_=>exact h2.elim
   .exact h2.elim
  |_=>cases e1
def rJoin(K:AD):V->List V->Hp->VK->Prop:=λx vs H Q=>∃s a ys,x=.str s/\vs=[.ref a]/\SqL K H a (ys.map .str)/\s.length<=10/\ys.length<=1000/\(∀y∈ys,y.length<=1000)/\Q (.str (C6 s ys)) H
def zdI:∀{ys:List AN} {us:List AF},Vals (ys.map V.str) us->StrsAre us ys
 |[],us,h=>by cases h;exact .nil
 |y::ys,us,h=>by
  cases h with
  |cons r t=>
   let⟨k,rfl⟩:=r;exact .cons y k (zdI t)
def zgG:∀{ys:List AN},(∀y∈ys,y.length<=1000)->(ys.map (·.length)).sum<=1000*ys.length
 |[],_=>by simp
 |y::ys,h=>by
  have:=zgG λz hz=>h z (AL _ hz);have:=h y (by simp);erw[AZ,List.sum_cons,Ag];lia
def zhI:MtR X "str.join" (rJoin X.K):=by
 intro π s σ H x vs v us Q I rx rv h;let⟨x,a,ys,rfl,rfl,hq,h1,h2,h3,q⟩:=h;let⟨t,rfl⟩:=rx;let⟨w,rfl,rw⟩:=vals1 rv
 cases (show _=Au a from rw)
 let⟨its,r,p,hz⟩:=I.list hq;have e:Txt.join x ys=C6 x ys:=by
  have:=Fx x ys;simpa using this
 have hs:=zgG h3;have hm:ys.length*x.length<=1000*10:=Di h2 h1;refine Gm p.isList (by simpa using zdI r) ∅ λt' k=>?_;rw[e];exact⟨.str _,H,I.tok k,⟨_,rfl⟩,q⟩
def zbI:∀{xs:List PV} {ys:List AN},strsOf xs=AA ys->xs=ys.map .str
 |[],ys,h=>by cases h;rfl
 |.str s::r,ys,h=>by
  erw[strsOf]at h
  cases e:strsOf r with
  |none=>rw[e]at h;cases h
  |some zs=>
   rw[e]at h
   cases h
   rw[zbI e];rfl
 |.non::r,ys,h=>by cases h
 |.bl _::r,ys,h=>by cases h
 |.int _::r,ys,h=>by cases h
 |.tp _ _::r,ys,h=>by cases h
 |.lst _::r,ys,h=>by cases h
 |.loc _::r,ys,h=>by cases h
 |.fnc _::r,ys,h=>by cases h
 |.exn _::r,ys,h=>by cases h
 |.scr _::r,ys,h=>by cases h
def zcx{K:AD}{cl:Nat->AG}:∀{ys:List AN} {xs:List V},ye K cl B φ H (ys.map PV.str) xs->xs=ys.map V.str
 |[],xs,h=>by simpa only[CO,ye] using h
 |y::ys,xs,h=>by
  erw[AZ,ye]at h;let⟨z,zs,rfl,rz,l⟩:=h;erw[yc]at rz;rw[zcx l,rz];rfl
def zfv(st:SO)(y:AN)(w:PV):(∃xs ys,yw st w=AA xs/\xs=ys.map .str/\y.length<=10/\ys.length<=1000/\(∀z∈ys,z.length<=1000)/\ybb st (.str y) w=.ok (.str (C6 y ys)) st) \/ ybb st (.str y) w=.bad:=by
 erw[ybb]
 cases e:yw st w with
 |none=>exact .inr rfl
 |some xs=>
  dsimp only
  cases e2:strsOf xs with
  |none=>exact .inr rfl
  |some ys=>
   dsimp only;split
   .rename_i h;have hx:=zbI e2;refine .inl ⟨xs,ys,rfl,hx,h.1,?_,λz hz=>?_,rfl⟩
    .have:=h.2.1;rw[hx,Ak]at this;exact this
    .have:=A4.1 h.2.2 z hz;simpa using this
   .exact .inr rfl
def zhy(ha:PE X a (tE S X ca))(hb:PE X b (tE S X cb))(hs:starEach [b] X.env=(AE,eval b X.env)::starEach [] X.env:=by rfl)(hbase:attributeBase a "join" X.env (eval a X.env)=eval a X.env:=by rfl)(hline:(apos.endLine==pos.line)=true:=by rfl)
  (hfew:((backTo pos (starEach [b] X.env)).all (λx=>!x.1)&&(backToKw pos (keywordEach [] X.env)).all (λx=>x.1.isSome)&&decide (([b]:List AM).length+([]:List B4).length+(if ([]:List B4).isEmpty then 0 else 1)<30))=true:=by rfl) (hany:(backTo pos (starEach [] X.env)).any (·.1)=false:=by rfl):
  PE X (.Call (.Attribute a "join" apos) [b] [] pos) (tE S X (.mth .join ca (.cons cb .nil))):=
 (zeE E1 PySem.F.slot_str_join PySem.F.type_str_join zhI ha (zG (S:=S) hb zaz hs) hbase hfew hline hs hany).imp λσ H Q ⟨B,φ,st,ρ,rs,re,h⟩=>by
  erw[ev]at h;refine tE.bind rs re h λx H1 v st1 φ1 s1 rs1 re1 rv h1=>?_;let⟨_,e1,h1⟩:=zay h1
  cases v with
  |str y=>
   erw[yc]at rv;subst rv;refine⟨rfl,tAs.bind rs1 re1 h1 λys H2 vs st2 φ2 s2 rs2 re2 rvs h2=>?_⟩;rcases vs with _|⟨w,_|⟨w',t⟩⟩
   .exact h2.elim
   .let⟨z,rfl,rw⟩:=rvs.one;erw[ybJ]at h2;rcases zfv st2 y w with⟨xs,zs,t2,rfl,h3,h4,h5,e⟩|e
    .rw[e]at h2;let⟨l,us,rfl,hl,rl⟩:=zY rs2 rw t2;have:=zcx rl;subst this;exact⟨y,l,zs,rfl,rfl,hl,h3,h4,h5,h2.ok rs2 (by erw[yc])⟩
    .rw[e]at h2;exact h2.elim
   .exact h2.elim
  |_=>cases e1
end
end L2
namespace WE
open PySem PySem.Spec PyProof.Rows
section
variable {pg:A3}{wd:Aa}{A:A8}{Er:AF->AH->Prop}{s:AH}
end
end WE
namespace L2
open PySem PySem.Spec PyProof.Rows
end L2
namespace L2
open PySem PySem.Spec PyProof.Rows IC
inductive ybS(K:AD)(cl:Nat->AG)(w:Aa):List (AN×PV)->List Bs->Prop
 |nil:ybS K cl w [] []
 |cons {k:AN} {v:PV} {t:GX} {u:AF} {x:V} {D:List (AN×PV)} {es:List Bs} (hr:RelV x u) (hv:∀B φ H,yc K cl B φ H v x) (h:ybS K cl w D es):ybS K cl w ((k,v)::D) (⟨Dl w.params k,.str k t,u⟩ :: es)
def GD(K:AD)(w:Aa)(mg:AN->Option AF)(cl:Nat->AG)(x:AN)(D:List (AN×PV)):Prop:=
 ∃(y:AG) (es:Array Bs) (ep:Nat),mg x=AA (.ref y)/\K.lookup y=AA ⟨.type "dict",AB,.dict es ep,#[]⟩/\(y==sysModules)=AE/\ybS K cl w D es.toList/\(D.map (·.1)).Nodup
theorem ybS.pairs{K:AD}{cl:Nat->AG}{P:A3}{w:Aa}{D:List (AN×PV)}{es:List Bs}(h:ybS K cl w D es):
  ∃vs:List (AN×AF),Pairs (strKind P w) es vs/\(∀e∈es,∃k,(strKind P w).is k e.key=AC/\e.hash=(strKind P w).hash k)/\vs.map (·.1)=D.map (·.1) /\
   (∀s,(valueAt vs s).isSome=(yaU s D).isSome)/\∀s v,yaU s D=AA v->∃u x,valueAt vs s=AA u/\RelV x u/\∀B φ H,yc K cl B φ H v x:=by
 induction h with
 |nil=>exact⟨[],.nil,λe he=>(by cases he),rfl,λs=>rfl,λs v e=>by cases e⟩
 |@cons k v t u x D es hr hv h ih=>
  let⟨vs,h1,h2,h3,h4,h5⟩:=ih;have hat:∀s,valueAt ((k,u)::vs) s=if k=s then AA u else valueAt vs s:=λs=>by
   unfold valueAt;rw[Be]
   by_cases e:k=s
   .simp[e]
   .simp[e]
  refine⟨(k,u)::vs,.cons (E2 P w k t) rfl h1,λe he=>?_,by rw[AZ,AZ,h3],λs=>?_,λs v' e=>?_⟩
  .rcases A6.1 he with rfl|he
   .exact⟨k,E2 P w k t,rfl⟩
   .exact h2 e he
  .rw[hat,yaU]
   by_cases e:k=s
   .rw[if_pos e,if_pos (by simpa using e)];rfl
   .rw[if_neg e,if_neg (by simpa using e),h4]
  .rw[yaU]at e;rw[hat]
   by_cases q:k=s
   .rw[if_pos (by simpa using q)]at e
    cases e
    exact⟨u,x,by rw[if_pos q],hr,hv⟩
   .rw[if_neg (by simpa using q)]at e;let⟨u',x',e1,e2,e3⟩:=h5 s v' e;exact⟨u',x',by rw[if_neg q];exact e1,e2,e3⟩
section
variable {S:Se}{X:Cx}{σ:St}{B:AG->Prop}{φ:Ph}{H:Hp}{st:SO}{pos p:Bc}{a b i:AM}{ca cb:Ce}{x:AN}{D:List (AN×PV)}{ty:TE}
end
section
variable {K:AD}{cl:Nat->AG}{B:AG->Prop}{φ:Ph}{H:Hp}{st:SO}
theorem nth{D y:AG}(b:¬Bx B D y)(n:AA y∉φ):¬B y/\AA y∉φ++[AA D]:=⟨λz=>b (.inl z),λz=>by
 rcases BE.1 z with z|z
 .exact n z
 .simp only[A6,Bj,or_false,Bb]at z;exact b (.inr z)⟩
mutual
theorem yc.thaw{D:AG}:∀(v:PV) (x:V),yc K cl (Bx B D) φ H v x->yc K cl B (φ++[AA D]) H v x
 |.non,x,h=>by erw[yc]at h ⊢;exact h
 |.bl b,x,h=>by erw[yc]at h ⊢;exact h
 |.int i,x,h=>by erw[yc]at h ⊢;exact h
 |.str y,x,h=>by erw[yc]at h ⊢;exact h
 |.tp k vs,x,h=>by
  erw[yc]at h ⊢;let⟨y,xs,e,r,l⟩:=h;refine⟨y,xs,e,?_,ye.thaw vs xs l⟩;rcases r with⟨r,b,n⟩|r
  .exact .inl ⟨r,nth b n⟩
  .exact .inr r
 |.lst vs,x,h=>by
  erw[yc]at h ⊢;let⟨y,xs,e,⟨r,b,n⟩,l⟩:=h;exact⟨y,xs,e,⟨r,nth b n⟩,ye.thaw vs xs l⟩
 |.loc n,x,h=>by
  erw[yc]at h ⊢;let⟨hn,y,e,q⟩:=h;exact⟨by simp;lia,y,e,λb z=>q b (by rw[AQ hn]at z;exact z)⟩
 |.fnc j,x,h=>by erw[yc]at h ⊢;exact h
 |.exn c,x,h=>by
  erw[yc]at h ⊢;let⟨y,e,r,b,n⟩:=h;exact⟨y,e,r,nth b n⟩
 |.scr vs,x,h=>by
  erw[yc]at h ⊢;let⟨y,xs,e,r,l⟩:=h;refine⟨y,xs,e,?_,ye.thaw vs xs l⟩;rcases r with⟨r,b,n⟩|r
  .exact .inl ⟨r,nth b n⟩
  .exact .inr r
theorem ye.thaw{D:AG}:∀(v:List PV) (x:List V),ye K cl (Bx B D) φ H v x->ye K cl B (φ++[AA D]) H v x
 |[],x,h=>by erw[ye]at h ⊢;exact h
 |v::vs,x,h=>by
  erw[ye]at h ⊢;let⟨y,ys,e,r,l⟩:=h;exact⟨y,ys,e,yc.thaw v y r,ye.thaw vs ys l⟩
end
theorem DK.thaw{D:AG}:∀{kvs:List (PV×PV)} {ks:List (Key×V)},DK K cl (Bx B D) φ H kvs ks->DK K cl B (φ++[AA D]) H kvs ks
 |[],ks,h=>h
 |(k,v)::r,ks,h=>by
  let⟨q,x,t,e,m,rv,l⟩:=h;exact⟨q,x,t,e,m,rv.thaw,DK.thaw l⟩
theorem DT.thaw{D:AG}:∀{kvs:List (PV×PV)} {ks:List (List NK×V)},DT K cl (Bx B D) φ H kvs ks->DT K cl B (φ++[AA D]) H kvs ks
 |[],ks,h=>h
 |(k,v)::r,ks,h=>by
  let⟨q,x,t,e,m,rv,l⟩:=h;exact⟨q,x,t,e,m,rv.thaw,DT.thaw l⟩
theorem FS.thaw{D:AG}:∀{kvs:List (AN×PV)} {ks:List (AN×V)},FS K cl (Bx B D) φ H kvs ks->FS K cl B (φ++[AA D]) H kvs ks
 |[],ks,h=>h
 |(k,v)::r,ks,h=>by
  let⟨x,t,e,rv,l⟩:=h;exact⟨x,t,e,rv.thaw,FS.thaw l⟩
theorem yh.thaw{D:AG}{zs:List PV}{ys:List V}(rs:yh K cl (Bx B D) φ H st)(nB:¬B D)(hD:H D=AA (.lst ys))(nD:AA D∉φ)(l:ye K cl (Bx B D) φ H zs ys):yh K cl B (φ++[AA D]) H (st++[.lst zs]):=by
 have hl:φ.length=st.length:=rs.len;have spl:∀{n:Nat} {a:AG},(φ++[AA D])[n]?=AA (AA a)->(n<φ.length/\φ[n]?=AA (AA a)) \/ (n=φ.length/\a=D):=λ{n a} e=>by
  by_cases hn:n<φ.length
  .rw[AQ hn]at e;exact .inl ⟨hn,e⟩
  .rw[A1 ∅]at e;rcases (by lia:n-φ.length=0 \/ 0<n-φ.length)with q|q
   .rw[q]at e;simp at e;exact .inr ⟨by lia,e.symm⟩
   .rw[Aj (by simp;lia)]at e;cases e
 have ne:∀{n:Nat} {a:AG},φ[n]?=AA (AA a)->a≠D:=λe z=>nD (z ▸ A5 e);refine⟨by simp[hl],λm n a e1 e2=>?_,λn a e=>?_,λn o e ho=>?_,λa h=>?_,λa h=>rs.dom a (.inl h),λa h=>rs.nt a (.inl h)⟩
 .rcases spl e1 with⟨h1,e1⟩|⟨h1,q1⟩<;>rcases spl e2 with⟨h2,e2⟩|⟨h2,q2⟩
  .exact rs.inj m n a e1 e2
  .exact absurd q2 (ne e1)
  .exact absurd q1 (ne e2)
  .lia
 .rcases spl e with⟨h1,e1⟩|⟨h1,q1⟩
  .let⟨o,q,r⟩:=rs.obj n a e1;refine⟨o,by rw[AQ ∅];exact q,?_⟩
   cases o with
   |lst vs=>let⟨xs,hx,l⟩:=r;exact⟨xs,hx,l.thaw⟩
   |dct t kvs=>cases t<;>(let⟨xs,hx,l⟩:=r;exact⟨xs,hx,l.thaw⟩)
   |ins c fs=>let⟨ks,hx,l⟩:=r;exact⟨ks,hx,l.thaw⟩
   |dead=>exact r.elim
  .subst q1;exact⟨.lst zs,by rw[h1,hl,A1 (AR _)];simp,ys,hD,l.thaw⟩
 .by_cases hn:n<st.length
  .rw[AQ hn]at e;let⟨a,q⟩:=rs.liv n o e ho;exact⟨a,by rw[AQ ∅];exact q⟩
  .have hn2:n=st.length:=by
    rcases (by lia:n=st.length \/ st.length<n)with q|q
    .exact q
    .rw[Aj (by simp;lia)]at e;cases e
   exact⟨D,by rw[hn2,<-hl,A1 (AR _)];simp⟩
 .rcases BE.1 h with h|h
  .exact λz=>rs.nb a h (.inl z)
  .simp only[A6,Bj,or_false,Bb]at h;subst h;exact nB
end
section
variable {S:Se}{X:Cx}{K:AD}{cl:Nat->AG}{σ:St}{B:AG->Prop}{φ φ1:Ph}{H H1:Hp}{st:SO}{ρ:IC.Env}{pos p p2 px:Bc}{a b c o tg l elt iter:AM}{ca cb cc ce:Ce}{ci:Cit}{ct:Tg}
def zc8{sl:List (Option Nat)}(hf:yt ct sl=AC){H:Hp}{Q:VK}(h:tE S X (.thw (.comp sl ct ci cc ce)) σ H Q):ybG sl (tI S X ci) (tG0 S X.K ct) (tT0 S X.K cc) (tE0 S X.K ce) σ H Q:=by
  let⟨B,φ,st,ρ,rs,re,h⟩:=h;erw[ev,R.bind_assoc]at h;refine⟨B,φ,st,ρ,rs,re,(Run.bind h).mono λJ H1 kq=>?_⟩;let⟨xs,st1,φ1,s1,rs1,dr,h1⟩:=kq;refine λD hD=>?_
  generalize hone:(λ(x:PV) (st2:SO)=>match yo ct x (sl.map λo=>o.bind λj=>(ρ[j]?).join)with
   |none=>(R.bad:R (Option PV))
   |some ρ1=>(ev S.call ρ1 st2 cc).bind λb st3=>onO (yar st3 b) λk=>cond k ((ev S.call ρ1 st3 ce).bind λy st4=>.ok (AA y) st4) (.ok AB st3))=one at h1
  cases e:compL one xs st1 with
  |exc k s=>rw[e]at h1;erw[ya0,R.bind]at h1;exact h1.elim
  |bad=>rw[e]at h1;erw[ya0,R.bind]at h1;exact h1.elim
  |ok zs st5=>
   rw[e]at h1;erw[ya0]at h1
   by_cases hz:zs.length<=1000000
   case neg=>rw[if_neg hz]at h1;erw[R.bind]at h1;exact h1.elim
   rw[if_pos hz]at h1;erw[R.bind,ydl]at h1;have nB:¬B D:=rs1.nB hD;have nD:AA D∉φ1:=λz=>by
    let⟨w,e⟩:=rs1.there z;rw[hD]at e;cases e
   refine⟨λi m σc ys H2=>∃φ2 st2 vs rest,i+m=xs.length/\Step φ1 H1 φ2 H2/\H2 D=AA (.lst ys)/\AA D∉φ2/\yh X.K S.cl (Bx B D) φ2 H2 st2/\yp X.K S.cl (Bx B D) φ2 H2 (sl.map λo=>o.bind λj=>(ρ[j]?).join) σc /\
     ye X.K S.cl (Bx B D) φ2 H2 vs ys/\compL one (xs.drop i) st2=.ok rest st5/\vs++rest=zs,
    ⟨xs.length,φ1,st1,[],zs,by lia,.upd hD,zd,nD,rs1.more hD,(yp.inn (re.step s1)).more hD,by erw[ye],by simpa using e,rfl⟩,?_⟩
   rintro i m σc ys H2 ⟨φ2,st2,vs,rest,hm,s2,hD2,nD2,rs2,re2,l2,ec,ez⟩
   refine⟨hD2,?_⟩
   by_cases hi:i<xs.length
   .have hl2:=l2.length;have hml:=zkU;have hzl:=congrArg Bv ez;rw[Ap]at hzl;refine .inr ⟨dr.go i φ2 H2 s2 hi,by lia,λσ' ys' H'=>∃φ2 st2 vs rest,Step φ1 H1 φ2 H'/\H' D=AA (.lst ys')/\AA D∉φ2/\yh X.K S.cl (Bx B D) φ2 H' st2/\yp X.K S.cl (Bx B D) φ2 H' (sl.map λo=>o.bind λj=>(ρ[j]?).join) σ' /\
     ye X.K S.cl (Bx B D) φ2 H' vs ys'/\compL one (xs.drop (i+1)) st2=.ok rest st5/\vs++rest=zs,λσ' ys' H' ⟨φ2,st2,vs,rest,q⟩=>⟨m-1,by lia,φ2,st2,vs,rest,by lia,q⟩,λx H3 hy=>?_⟩
    let⟨v,hv,rv,kk⟩:=dr.yld i φ2 H2 st2 x H3 (Bx B D) (λy z=>z.elim .inl λq=>.inr (q ▸ hD)) s2 rs2 hi hy;have s3:Step φ2 H2 φ2 H3:=⟨λb o _ e=>kk b o e,AR _,λ_ _ _ e=>e,λ_ h=>.inl h⟩;have rs3:yh X.K S.cl (Bx B D) φ2 H3 st2:=rs2.same kk;have ed:xs.drop i=v::xs.drop (i+1):=by
     rw[BB hi];rw[B7 hi]at hv;rw[AU hv]
    rw[ed,compL]at ec;let⟨o,st3,e1,ec⟩:=zg ec;let⟨rest',st4,e2,ec⟩:=zg ec;rw[<-hone]at e1;dsimp only at e1
    cases eb:yo ct v (sl.map λo=>o.bind λj=>(ρ[j]?).join)with
    |none=>rw[eb]at e1;cases e1
    |some ρ1=>
     rw[eb]at e1;dsimp only at e1;let⟨bv,st6,e3,e1⟩:=zg e1;let⟨k,e4,e1⟩:=zgv e1;have er:st4=st5/\ybd o rest'=rest:=by
      injection ec with q1 q2;exact⟨q2,q1⟩
     let⟨rfl,rfl⟩:=er;refine⟨Bx B D,φ2,st2,_,v,ρ1,rs3,re2.step s3,rv,eb,λσ4 re4=>⟨Bx B D,φ2,st2,ρ1,rs3,re4,?_⟩⟩;have et:yaz (ev S.call ρ1 st2 cc)=.ok k st6:=by
      rw[e3];erw[yaz,R.bind,e4,onO]
     rw[et]
     rintro k' H5 φ5 s5 rs5 rfl
     have nD5:AA D∉φ5:=λz=>by
      rcases s5.new D z with q|q
      .exact nD2 q
      .rw[kk D _ hD2]at q;cases q
     have hD5:H5 D=AA (.lst ys):=s5.keep D _ nD2 (kk D _ hD2);have s25:Step φ1 H1 φ5 H5:=s2.trans (s3.trans s5);have l5:=(l2.step s3).step s5;have re5:yp X.K S.cl (Bx B D) φ5 H5 ρ1 σ4:=re4.step s5;have h0:∀(i:Nat),sl[i]?=AA AB->(sl.map λo=>o.bind λj=>(ρ[j]?).join)[i]?=AA none:=λi q=>by
      rw[Ax,q];rfl
     cases k with
     |false=>
      erw[cond_false]at e1
      cases e1
      exact⟨φ5,_,vs,rest',s25,hD5,nD5,rs5,yp.untgt hf h0 eb re5,l5,e2,ez⟩
     |true=>
      erw[cond_true]at e1;let⟨y,st7,e5,e1⟩:=zg e1
      cases e1
      refine⟨Bx B D,φ5,st6,ρ1,rs5,re5,?_⟩;rw[e5];intro y' H6 φ6 s6 rs6 ry;have nD6:AA D∉φ6:=λz=>by
       rcases s6.new D z with q|q
       .exact nD5 q
       .rw[hD5]at q;cases q
      have hD6:H6 D=AA (.lst ys):=s6.keep D _ nD5 hD5;have hBD:Bx B D D:=.inr rfl;refine⟨hD6,φ6,_,vs++[y],rest',?_,zd,nD6,rs6.skip hBD,(yp.untgt hf h0 eb (re5.step s6)).skip hBD,((l5.step s6).append (by erw[ye];exact⟨y',[],rfl,ry,rfl⟩)).skip hBD,e2,?_⟩
      .have s16:=s25.trans s6;exact⟨λb o n q=>by rw[za (zc q hD)];exact s16.keep b o n q,s16.len,s16.pre,s16.new⟩
      .simpa [ybd] using ez
   .have ei:i=xs.length:=by lia
    subst ei;rw[CK,compL]at ec
    cases ec
    have s3:Step φ1 H1 (φ2++[AA D]) H2:=⟨λb o n q=>s2.keep b o n q,BC s2.len (by simp),λn b h e=>by rw[AQ (A0 h s2.len)]at e;exact s2.pre n b h e,λb h=>by
     rcases BE.1 h with h|h
     .exact s2.new b h
     .simp only[A6,Bj,or_false,Bb]at h;subst h;exact .inr hD⟩
    refine .inl ⟨dr.stop φ2 H2 s2,h1 (.ref D) H2 (φ2++[AA D]) s3 (yh.thaw rs2 nB hD2 nD2 (by rw[<-ez,BJ];exact l2)) ?_⟩;erw[yc];refine⟨by simp[rs2.len],D,rfl,λb e=>?_⟩;rw[<-rs2.len,A1 (AR _)]at e;simpa using e.symm
end
section
variable {K:AD}{cl:Nat->AG}{B:AG->Prop}{φ:Ph}{H:Hp}{st:SO}
theorem FS.lookup{f:AN}:∀{fs:List (AN×PV)} {ks:List (AN×V)},FS K cl B φ H fs ks->(∀v,fs.lookup f=AA v->∃x,ks.lookup f=AA x/\yc K cl B φ H v x)/\(fs.lookup f=AB->ks.lookup f=AB)
 |[],ks,h=>by
  cases (show ks=[]from h)
  exact⟨nofun,λ_=>rfl⟩
 |(k,v)::r,ks,h=>by
  let⟨x,s,rfl,rv,l⟩:=h;let⟨q1,q2⟩:=FS.lookup (f:=f) l;erw[GA]
  cases e:f==k with
  |true=>exact⟨λw z=>by cases z;exact⟨x,rfl,rv⟩,λz=>by cases z⟩
  |false=>exact⟨q1,q2⟩
theorem FS.put{f:AN}{v:PV}{x:V}(r:yc K cl B φ H v x):∀{fs:List (AN×PV)} {ks:List (AN×V)},FS K cl B φ H fs ks->FS K cl B φ H (yds f v fs) (yek f x ks)
 |[],ks,h=>by
  cases (show ks=[]from h)
  exact⟨x,[],rfl,r,rfl⟩
 |(k,w)::q,ks,h=>by
  let⟨y,s,rfl,ry,l⟩:=h;erw[yds,yek]
  by_cases c:k=f
  .rw[if_pos c,if_pos c];exact⟨x,s,rfl,r,l⟩
  .rw[if_neg c,if_neg c];exact⟨y,_,rfl,ry,FS.put r l⟩
theorem FS.len:∀{fs:List (AN×PV)} {ks:List (AN×V)},FS K cl B φ H fs ks->fs.length=ks.length
 |[],ks,h=>by cases (show ks=[]from h);rfl
 |(k,w)::q,ks,h=>by
  let⟨y,s,rfl,ry,l⟩:=h;simp[FS.len l]
theorem yh.ins{n c:Nat}{fs:List (AN×PV)}{x:V}(rs:yh K cl B φ H st)(r:yc K cl B φ H (.loc n) x)(h:st[n]?=AA (.ins c fs)):∃y ks dx,x=.ref y/\φ[n]?=AA (AA y)/\H y=AA (.ins (cl c) dx ks)/\FS K cl B φ H fs ks:=by
 erw[yc]at r;let⟨hn,y,rfl,hy⟩:=r;let⟨a,ha⟩:=rs.liv n _ h (by intro z;cases z);let⟨o,ho,ro⟩:=rs.obj n a ha;have e:=hy a ha;subst e;rw[h]at ho
 cases ho
 let⟨ks,⟨dx,q⟩,l⟩:=ro;exact⟨a,ks,dx,rfl,ha,q,l⟩
end
theorem yc.inj_non{K:AD}{cl:Nat->AG}{B:AG->Prop}{φ:Ph}{H:Hp}{v:PV}(h:yc K cl B φ H v .non):v=.non:=by
 cases v with
 |non=>rfl
 |bl b=>simp[yc]at h
 |int b=>simp[yc]at h
 |str b=>simp[yc]at h
 |tp k b=>erw[yc]at h;let⟨_,_,e,_⟩:=h;cases e
 |lst b=>erw[yc]at h;let⟨_,_,e,_⟩:=h;cases e
 |loc b=>erw[yc]at h;let⟨_,_,e,_⟩:=h;cases e
 |fnc b=>erw[yc]at h;cases h
 |exn b=>erw[yc]at h;let⟨_,e,_⟩:=h;cases e
 |scr b=>erw[yc]at h;let⟨_,_,e,_⟩:=h;cases e
section
variable {S:Se}{X:Cx}{σ:St}{B:AG->Prop}{φ φ1:Ph}{H H1:Hp}{st:SO}{ρ:IC.Env}{p pos pos' p2 apos:Bc}{a b d o e:AM}{ca cb cc:Ce}{es:List AM}{ces:Ces}{c i k:Nat}{f m x:AN}{fa:AG}{fd:Am}{ps:List AN}
def zbS{kk:PV}{kvs:List (PV×PV)}{v:PV}(h:look kk kvs=AA v)(w:PV):(look kk kvs).getD w=v:=by rw[h];rfl
def ziU(hu:X.A.units+16<cLine)(ha:PE X a (tE S X ca))(hb:PE X b (tE S X cb))(hs:ycz b:=by exact λ_ _=>rfl):PE X (.Subscript a b pos) (tE S X (.dgt ca cb)):=
 (zg2 hu ha hb hs).imp λσ H Q ⟨B,φ,st,ρ,rs,re,h⟩=>by
  erw[ev]at h;refine tE.bind rs re h λx H1 v st1 φ1 s1 rs1 re1 rv h1=>tE.bind rs1 re1 h1 λy H2 w st2 φ2 s2 rs2 re2 rw h2=>?_;let⟨z,e,q⟩:=zu h2 rs2;erw[ycP]at e
  cases q3:yah st2 v with
  |none=>rw[q3]at e;cases e
  |some tk=>
   let⟨t,kvs⟩:=tk;rw[q3]at e;dsimp only at e;split at e
   .rename_i hk;let⟨n,rfl,hn⟩:=zea q3;let⟨y3,rfl,hy3,ro3⟩:=rs2.dct (rv.step s2) hn
    cases t with
    |false=>
     let⟨kq,rfl⟩:=zg8 hk;let⟨ks,hks,l⟩:=ro3;obtain⟨vv,hv,rvv⟩:∃vv,yaC ks kq=AA vv/\yc X.K S.cl B φ2 H2 z vv:=by
      have hn:=DK.look (q:=kq) l (v:=.non) (x:=.non) (by erw[yc]);have hb:=DK.look (q:=kq) l (v:=.bl AC) (x:=.bl AC) (by erw[yc]);rw[zbS e]at hn hb
      cases hv:yaC ks kq with
      |some vv=>rw[hv]at hn;exact⟨vv,rfl,hn⟩
      |none=>
       rw[hv]at hn hb;exact absurd (yc.inj_non hn) (λez=>by subst ez;simp[yc]at hb)
     exact⟨y3,vv,rfl,.inl ⟨ks,kq,.inl hks,zk1.mp rw,hv.symm⟩,q vv H2 φ2 .rfl rs2 rvv⟩
    |true=>
     let⟨kq,rfl,hkq⟩:=zdQ hk;let⟨ks,hks,l⟩:=ro3;let⟨b',rfl,hb'⟩:=zek hkq rw;obtain⟨vv,hv,rvv⟩:∃vv,yaC ks kq=AA vv/\yc X.K S.cl B φ2 H2 z vv:=by
      have hn:=DT.look (q:=kq) l (v:=.non) (x:=.non) (by erw[yc]);have hb:=DT.look (q:=kq) l (v:=.bl AC) (x:=.bl AC) (by erw[yc]);rw[zbS e]at hn hb
      cases hv:yaC ks kq with
      |some vv=>rw[hv]at hn;exact⟨vv,rfl,hn⟩
      |none=>
       rw[hv]at hn hb;exact absurd (yc.inj_non hn) (λez=>by subst ez;simp[yc]at hb)
     exact⟨y3,vv,rfl,.inr ⟨ks,kq,b',.inl hks,rfl,hb',hv.symm⟩,q vv H2 φ2 .rfl rs2 rvv⟩
   .cases e
end
inductive ybO(w:Aa)(fa:Nat->AG):List (AN×Nat)->List Bs->Prop
 |nil:ybO w fa [] []
 |cons {k:AN} {i:Nat} {t:GX} {D:List (AN×Nat)} {es:List Bs} (h:ybO w fa D es):ybO w fa ((k,i)::D) (⟨Dl w.params k,.str k t,.ref (fa i)⟩ :: es)
def GDF(K:AD)(w:Aa)(mg:AN->Option AF)(fa:Nat->AG)(x:AN)(D:List (AN×Nat)):Prop:=
 ∃(y:AG) (es:Array Bs) (ep:Nat),mg x=AA (.ref y)/\K.lookup y=AA ⟨.type "dict",AB,.dict es ep,#[]⟩/\ybO w fa D es.toList/\(D.map (·.1)).Nodup
theorem ybO.pairs{P:A3}{w:Aa}{fa:Nat->AG}{D:List (AN×Nat)}{es:List Bs}(h:ybO w fa D es):
  ∃vs:List (AN×AF),Pairs (strKind P w) es vs/\(∀e∈es,∃k,(strKind P w).is k e.key=AC/\e.hash=(strKind P w).hash k)/\vs.map (·.1)=D.map (·.1) /\
   ∀s i,D.lookup s=AA i->valueAt vs s=AA (.ref (fa i)):=by
 induction h with
 |nil=>exact⟨[],.nil,λe he=>(by cases he),rfl,λs v e=>by cases e⟩
 |@cons k i t D es h ih=>
  let⟨vs,h1,h2,h3,h5⟩:=ih;have hat:∀s,valueAt ((k,Au (fa i))::vs) s=if k=s then AA (.ref (fa i))else valueAt vs s:=λs=>by
   unfold valueAt;rw[Be]
   by_cases e:k=s
   .simp[e]
   .simp[e]
  refine⟨(k,.ref (fa i))::vs,.cons (E2 P w k t) rfl h1,λe he=>?_,by rw[AZ,AZ,h3],λs j e=>?_⟩
  .rcases A6.1 he with rfl|he
   .exact⟨k,E2 P w k t,rfl⟩
   .exact h2 e he
  .rw[hat];erw[GA]at e
   by_cases q:k=s
   .subst q;rw[beq_self_eq_true]at e
    cases e
    rw[if_pos rfl]
   .rw[beq_eq_false_iff_ne.2 (Bu q)]at e;rw[if_neg q];exact h5 s j e
section
variable {S:Se}{X:Cx}{σ:St}{B:AG->Prop}{φ:Ph}{H:Hp}{st:SO}{ρ:IC.Env}{pos p p1 p2 p3 p4 p5 p6 p7:Bc}{a b i e n:AM}{es:List AM}{ca cn:Ce}{ces:Ces}{x y:AN}{D:List (AN×Nat)}{ty:TE}{t:TA}{fa:Nat->AG}{fdd:Nat->Am}{ps:Nat->List AN}{k ix:Nat}
def yc7(D:List (AN×Nat))(fa:Nat->AG)(ty:TE):TE:=λσ H Q=>ty σ H λz H2=>∃s j,z=.str s/\D.lookup s=AA j/\Q (.ref (fa j)) H2
def zgf(hg:Gl X x)(h:GDF X.K X.w X.mg fa x D)(hi:PE X i ty)(hs:ycz i)(hd:(x==("__debug__":AN))=false:=by decide):PE X (.Subscript (.Name x p) i pos) (yc7 D fa ty):=by
 let⟨y,es,ep,hm,hk,hr,hn⟩:=h;let⟨vs,h1,h2,h3,h5⟩:=hr.pairs (P:=X.prog);intro π s σ H Q I q0;refine zeO Dr.lookup hs (thn (zbb (v:=.ref y) hg hm rfl hd π s σ H (λz H1=>z=.ref y/\ty σ H1 λz H2=>∃s j,z=.str s/\D.lookup s=AA j/\Q (.ref (fa j)) H2) I ⟨rfl,q0⟩) λu s1 kq=>?_);let⟨z,H1,I1,rz,ez,q1⟩:=kq;refine thn (hi π s1 σ H1 _ I1 q1) λiv s2 kq=>?_;let⟨z2,H2,I2,rz2,sx,j,ez2,e,q2⟩:=kq;subst ez;subst ez2;obtain rfl:u=Au y:=rz;let⟨t,rfl⟩:=rz2;have dd:s2.heap.DictOf (strKind X.prog X.w) y vs:=⟨_,es,ep,I2.kIn y _ hk,⟨rfl,rfl,rfl⟩,rfl,λe he=>h2 e (by simpa using he),h1,by rw[h3];exact hn⟩;exact⟨dd.typeIs,Ft (E2 X.prog X.w sx t) dd.mapOf (h5 sx j e) ⟨.ref (fa j),H2,I2.tok _,rfl,q2⟩⟩
structure Makers(S:Se)(X:Cx)(k:Nat)(D:List (AN×Nat))(fa:Nat->AG)(fdd:Nat->Am)(ps:Nat->List AN):Prop where
 F:∀s j,D.lookup s=AA j->yaK X.prog X.w X.K X.mg X.base (CX1 X.prog X.w) k (fa j) (fdd j) (ps j) (spI X.K S.cl S.call j)
 kp:∀s j,D.lookup s=AA j->Ab X.K (.ref (fa j))=AC
 b:∀s j,D.lookup s=AA j->Binds X.K (fdd j) (ps j) []
def ycY(S:Se)(X:Cx)(D:List (AN×Nat))(fa:Nat->AG)(ix:Nat)(t:TA):TE:=λσ H Q=>∃s j,D.lookup s=AA j/\σ[ix]?=AA (AA (.ref (fa j)))/\t σ H λvs H1=>∃E:XK,spI X.K S.cl S.call j vs H1 Q E/\∀π s e s',Inv X π σ H1 s->CX1 X.prog X.w X.stack H1 s E e s'->X.xe e s'
def zfO(M:Makers S X k D fa fdd ps)(hr:yas k X.A)(hN:X.N[ix]?=AA x)(hv:Vis X.env.scope x)(ha:PA X (e::es) t)
  (hd:(x==("__debug__":AN))=false:=by decide) (hcd:(x==("__classdict__":AN))=false:=by decide) (he:starEach (e::es) X.env=(AE,eval e X.env)::starEach es X.env:=by rfl) (hpl:(backTo pos (starEach es X.env)).any (·.1)=false:=by rfl):
  PE X (.Call (.Name x p) (e::es) [] pos) (ycY S X D fa ix t):=by
 intro π s σ H Q I ⟨sx,j,hl,hs,h⟩;refine BQ (thn (zgp hN hv hd hcd π s σ H (λz H1=>z=.ref (fa j)/\t σ H1 λvs H1=>∃E:XK,spI X.K S.cl S.call j vs H1 Q E/\∀π s e s',Inv X π σ H1 s->CX1 X.prog X.w X.stack H1 s E e s'->X.xe e s') I ⟨_,hs,rfl,h⟩) λu s1 kq=>?_);let⟨z,H1,I1,rz,ez,q1⟩:=kq;subst ez;obtain rfl:u=Au (fa j):=rz;refine Da (h₀:=X.base) I.ok.mod.kin (M.kp sx j hl) (thn (ha pos π s1 σ H1 _ I1 q1) λus s2 kq=>?_) he hpl;let⟨vs,H2,I2,r,E,q,hx⟩:=kq;refine ⟨I2.kIn,?_⟩;exact zcn (M.F sx j hl) hr (M.b sx j hl) .nil I2 r (by rw[BJ];exact q) λe s' c=>hx π s2 e s' I2 c
theorem yp.hole{K:AD}{cl:Nat->AG}{v:V}(re:yp K cl B φ H ρ σ):yp K cl B φ H (ρ.set ix AB) (σ.set ix (AA v)):=by
 refine⟨by simp[re.len],λj w e=>?_⟩
 by_cases q:ix=j
 .subst q
  by_cases hj:ix<ρ.length
  .rw[BD hj]at e;cases e
  .rw[Aj (by simp;lia)]at e;cases e
 .rw[Al q]at e ⊢;exact re.get j w e
def zfN{v:PV}{j:Nat}{b:Bool}(h:mkV D b v=AA j):∃s,v=.str s/\D.lookup s=AA j/\b=true:=by
 cases v with
 |str s=>
  cases b with
  |true=>exact⟨s,rfl,h,rfl⟩
  |false=>cases h
 |_=>cases h
def zjX(M:Makers S X k D fa fdd ps)(hr:yas k X.A)(hN:X.N.Nodup)(hi:X.N[ix]?=AA x)(hx:Loc X.env.scope x)(hv:Vis X.env.scope x)(hg:Gl X y)(hd:GDF X.K X.w X.mg fa y D)(hn:PE X n (tE S X cn))(ha:PA X (e::es) (tAs S X ces))
  (hs:ycz n:=by exact λ_ _=>rfl) (hsw:swapsWith (.Subscript (.Name y p2) n p3) (AA (.Name x p1)) p4.line X.env=pure false:=by rfl) (hf:X.fn x=AC \/ X.env.scope.names.lookup x=AA .local:=by first|exact .inl rfl|exact .inr rfl|assumption)
  (hyd:(y==("__debug__":AN))=false:=by decide) (hxd:(x==("__debug__":AN))=false:=by decide) (hcd:(x==("__classdict__":AN))=false:=by decide) (he:starEach (e::es) X.env=(AE,eval e X.env)::starEach es X.env:=by rfl) (hpl:(backTo p6 (starEach es X.env)).any (·.1)=false:=by rfl):
  PSs X [.Assign [.Name x p1] (.Subscript (.Name y p2) n p3) p4,.Return (AA (.Call (.Name x p5) (e::es) [] p6)) p7] (tSs S X (.cons (.mkr ix D cn ces) .nil)):=
 (zcz (zgq hN hi hx (zgf hg hd hn hs hyd) hsw hf) (zhY (zgt (zfO M hr hi hv ha hxd hcd he hpl)))).imp λD' σ H ⟨B,φ,st,ρ,rs,re,h⟩=>by
  have h:yP S X B φ H (ex S.call ρ st (.mkr ix D cn ces)) D':=by
   erw[exs]at h
   cases q:ex S.call ρ st (.mkr ix D cn ces)with
   |nx ρ' s'=>
    exfalso;erw[ex]at q
    cases q1:ev S.call ρ st cn with
    |ok v1 s1=>
     rw[q1]at q;erw[R.fl]at q;split at q
     .rename_i j _
      cases q2:(evs S.call (ρ.set ix AB) s1 ces).bind λvs st2=>S.call j vs st2 with
      |ok v2 s2=>rw[q2]at q;cases q
      |exc c s2=>rw[q2]at q;cases q
      |bad=>rw[q2]at q;cases q
     .cases q
    |exc c s1=>rw[q1]at q;cases q
    |bad=>rw[q1]at q;cases q
   |rt v s'=>rw[q]at h;exact h
   |bk ρ' s'=>rw[q]at h;exact h
   |ct ρ' s'=>rw[q]at h;exact h
   |exc c ρ' s'=>rw[q]at h;exact h
   |bad=>rw[q]at h;exact h
  erw[ex]at h;refine tE.fl rs re h λx' H1 v st1 φ1 s1 rs1 re1 rv h1=>?_
  cases q:mkV D (decide (ix<ρ.length)) v with
  |none=>rw[q]at h1;exact h1.elim
  |some j=>
   rw[q]at h1;let⟨sx,rfl,hl,hb⟩:=zfN q;erw[yc]at rv;subst rv;have hlen:ix<σ.length:=by
    rw[<-re1.len];exact of_decide_eq_true hb
   refine⟨sx,j,rfl,hl,sx,j,hl,by rw[BD hlen],B,φ1,st1,ρ.set ix AB,rs1,re1.hole,?_⟩;dsimp only at h1
   cases q2:evs S.call (ρ.set ix AB) st1 ces with
   |bad=>rw[q2]at h1;exact h1
   |exc c s2=>rw[q2]at h1;exact λe s' z=>h1 _ φ1 H1 e s' .rfl re1.hole z
   |ok vs st2=>
    rw[q2]at h1;intro xs H2 φ2 s2 rs2 rl;have h2:yP S X B φ1 H1 ((S.call j vs st2).fl (ρ.set ix AB) λv st3=>.rt v st3) D':=h1;refine zad rs2 rl ?_
    cases q3:S.call j vs st2 with
    |bad=>rw[q3]at h2;exact h2
    |ok v st3=>rw[q3]at h2;exact λx H' φ' s' rs' rv=>h2 x H' φ' (s2.trans s') rs' rv
    |exc c st3=>rw[q3]at h2;exact λe s' z=>h2 _ φ2 H2 e s' s2 (re1.hole.step s2) z
end
section
variable {P:A3}{w:Aa}{K:AD}{mg:AN->Option AF}{base:An}{cl:Nat->AG}{T:Nat->Option IC.Fn}{fi:Nat}{fn:IC.Fn}{x qual:AN}{stm:Bd}{f:AG}{fd:Am}{N ps:List AN}{k m:Nat}
def zfB:yaK P w K mg base (CX1 P w) m f fd ps (spI K cl (yd T 0) fi):=
 ⟨λvs H Q E ⟨_,_,_,_,_,_,h⟩=>by rw[yd]at h;exact h.elim,λA outer s H args us vs Q E _ _ _ _ ⟨_,_,_,_,_,_,h⟩=>by rw[yd]at h;exact h.elim⟩
end
theorem yQ.units{k:Nat}{A:A8}(r:yQ k A):A.units+64<cLine:=by have:=r.un;lia
section
variable {P:A3}{w:Aa}{K:AD}{mg:AN->Option AF}{base:An}{cl:Nat->AG}{T:Nat->Option IC.Fn}{fi:Nat}{fn:IC.Fn}{x qual:AN}{stm:Bd}{f:AG}{fd:Am}{N ps:List AN}{k m:Nat}
def zfZ(hT:T fi=AA fn)(hns:N.length=fn.ns)(hpu:fn.pure=AE){scope:Ao}{cdv:AF}{A:A8}{outer:List BF}{s:AH}{vs:List V}{H:Hp}{Q:VK}(h:spI K cl (yd T (k+1)) fi vs H Q E0):
  tSs ⟨cl,yd T k,AE⟩ (ybf P w K mg base N qual scope f cdv A outer s H) fn.body {nx:=λ_ H'=>Q .non H',rt:=Q} (L2.start N vs) H:=by
 let⟨B,φ,st,args,rs,l,h⟩:=h;have hl:args.length=fn.np:=zel (k:=k) hT args st λz=>by rw[z]at h;exact h
 have hlen:=l.length;rw[yd,hT]at h;dsimp only at h;rw[if_pos hl,hpu,if_neg (by simp)]at h;refine⟨B,φ,st,_,rs,yp.start l (fn.ns-fn.np) ∅,?_⟩;show yP _ _ _ _ _ (exs (yd T k) (args.map AA++AK (fn.ns-fn.np) AB) st fn.body) _
 cases e:exs (yd T k) (args.map AA++AK (fn.ns-fn.np) AB) st fn.body with
 |nx ρ' st'=>
  rw[e]at h;intro σ' H' φ' s' rs' re';exact h .non H' φ' s' rs' (by erw[yc])
 |rt v st'=>
  rw[e]at h;intro y H' φ' s' rs' rv;exact h y H' φ' s' rs' rv
 |exc c ρ' st'=>
  rw[e]at h;intro σ' φ1 H1 ev s' s1 _ ex;rcases ex with⟨π,H2,s2,φ2,I,s3,q⟩|⟨hm,_⟩|⟨hm,_⟩
  .let⟨_,cls,_,H',_,_,_,_,_,_,_,_,_,_,e1,φ',s4,r⟩:=q;exact(h H' φ' (s1.trans (s3.trans s4)) r).elim
  .cases hm
  .cases hm
 |bk ρ' st'=>rw[e]at h;exact h.elim
 |ct ρ' st'=>rw[e]at h;exact h.elim
 |bad=>rw[e]at h;exact h.elim
def zjg(hT:T fi=AA fn)(F:Fun K x qual stm f fd)(Sc:yai N ps (yg stm))(hnp:ps.length=fn.np)(hns:N.length=fn.ns)(hpu:fn.pure=AE)
  (body:∀(cdv:AF) (A:A8) (outer:List BF) (s:AH) (H:Hp),yQ m (A.deeper (envOfC qual (yg stm) s.heap.objs.size f cdv)) ->
   PSs (ybf P w K mg base N qual (yg stm) f cdv A outer s H) (yF stm) (tSs ⟨cl,yd T k,AE⟩ (ybf P w K mg base N qual (yg stm) f cdv A outer s H) fn.body)):
  ya3 P w K mg base (m+1) f fd ps (spI K cl (yd T (k+1)) fi):=
 F.okH Sc (λvs H Q E h=>zgK hT hnp h) λcdv A outer s H vs Q hr h=>⟨_,body cdv A outer s H hr,zfZ hT hns hpu h⟩
def zfq:ya3 P w K mg base m f fd ps (spI K cl (yd T 0) fi):=
 ⟨λvs H Q E ⟨_,_,_,_,_,_,h⟩=>by rw[yd]at h;exact h.elim,λA outer s H args us vs Q _ _ _ _ ⟨_,_,_,_,_,_,h⟩=>by rw[yd]at h;exact h.elim⟩
end
section
variable {S:Se}{X:Cx}{σ:St}{B:AG->Prop}{φ:Ph}{H:Hp}{st:SO}{ρ:IC.Env}{p pos:Bc}{e:AM}{es:List AM}{ces:Ces}{fi k:Nat}{x:AN}{f:AG}{fd:Am}{ps:List AN}
def zgd(F:ya3 X.prog X.w X.K X.mg X.base k f fd ps (spI X.K S.cl S.call fi))(hr:yQ k X.A)(hg:Gl X x)(hm:X.mg x=AA (.ref f))(hk:Ab X.K (.ref f)=AC)(hb:Binds X.K fd ps [])
  (ha:PA X (e::es) (tAs S X ces)) (hdb:(x==("__debug__":AN))=false:=by decide) (he:starEach (e::es) X.env=(AE,eval e X.env)::starEach es X.env:=by rfl) (hpl:(backTo pos (starEach es X.env)).any (·.1)=false:=by rfl):
  PE X (.Call (.Name x p) (e::es) [] pos) (tE S X (.qcl fi ces)):=
 (zf6 F hr hg hm hk hb ha hdb he hpl).imp λσ H Q ⟨B,φ,st,ρ,rs,re,h⟩=>by
  erw[ev]at h;refine tAs.bind rs re h λxs H1 vs st1 φ1 s1 rs1 re1 rv h1=>?_;refine⟨B,φ1,st1,vs,rs1,rv,?_⟩
  cases c:S.call fi vs st1 with
  |ok v st'=>rw[c]at h1;exact h1
  |exc k st'=>rw[c]at h1;exact h1.elim
  |bad=>rw[c]at h1;exact h1.elim
end
end L2
namespace L2
open PySem IC
section
variable {S:Se}{X:Cx}{σ:St}{B:AG->Prop}{φ φ1:Ph}{H H1:Hp}{st:SO}{ρ:IC.Env}{p pos p2 px py pt pt2:Bc}{a b c d o a' b' c' d':AM}{ca cb cc cd ce cf:Ce}{π:List (AG×BR)}{s:AH}{kt k2:Nat}{es:List AM}{ces:Ces}{x:AN}
end
end L2
namespace L2
open PySem PySem.Spec PyProof.Rows
section
variable {X:Cx}
def zfk{i:Int}(i0:0<=i)(i1:i<=sizeLine):(!Builtin.List.listFitsIndex i)=false:=by
 unfold GW;have:sizeLine<=9000000000000000000:=by decide
 simp;lia
def ycp:V->List V->Hp->VK->Prop:=λx vs H Q=>∃l i xs y,x=.ref l/\vs=[.int i,y]/\H l=AA (.lst xs)/\0<=i/\i<=xs.length/\xs.length<sizeLine/\Q .non (upd H l (.lst (xs.take i.toNat++y::xs.drop i.toNat)))
def zdx:MtM X "list.insert" ycp:=by
 intro π s σ H x vs v us Q I rx rv h;let⟨l,i,xs,y,rfl,rfl,hH,i0,i1,hz,q⟩:=h
 cases rx
 let⟨u,w,rfl,ru,rw⟩:=rv.two;let⟨tk,rfl⟩:=ru;let⟨z,its,n,r,hl,e⟩:=I.lstM hH;refine BW Ec ⟨_,e,rfl⟩ F.entry_list_insert (F.args_list_insert_3 _ _ _) (AutoSeq1.list_insert_list_int_val_1 l its.toArray n i tk w (by rw[zfk i0 ∅];exact AV) (by rw[AY];lia)) ⟨e,?_⟩;refine⟨.non,_,I.lset (its':=its.take i.toNat++w::its.drop i.toNat) hH e ?_ ((r.take i.toNat).append (.cons rw (r.drop i.toNat))) ?_,rfl,q⟩
 .show (its.toArray.extract 0 (if i<0 then(i+(its.toArray.size:Int)).toNat else min i.toNat its.toArray.size)).push w++its.toArray.extract (if i<0 then(i+(its.toArray.size:Int)).toNat else min i.toNat its.toArray.size)=_;rw[if_neg ∅,AY,Nat.min_eq_left ∅];apply EL.mp;simp;exact List.take_of_length_le (by simp)
 .rw[Ap,Ag,DG,EG];lia
end
end L2
namespace L2
open PySem PySem.Spec PyProof.Rows IC
section
variable {S:Se}{X:Cx}{σ:St}{B:AG->Prop}{φ φ1:Ph}{H H1:Hp}{st:SO}{ρ:IC.Env}{p pos p2 apos:Bc}{a b c d:AM}{ca cb cc:Ce}{es:List AM}{ces:Ces}{K:AD}{cl:Nat->AG}
def zdP(ha:PE X a (tE S X ca))(hb:PE X b (tE S X cb))(hc:PE X c (tE S X cc))(hs:starEach [b,c] X.env=[(AE,eval b X.env),(AE,eval c X.env)]:=by rfl)(hs2:starEach [c] X.env=[(AE,eval c X.env)]:=by rfl)(hbase:attributeBase a "insert" X.env (eval a X.env)=eval a X.env:=by rfl)(hline:(apos.endLine==pos.line)=true:=by rfl)(hany:((backTo pos (starEach [c] X.env)).any λx=>x.1)=false:=by rfl)
  (hfew:((backTo pos (starEach [b,c] X.env)).all (λx=>!x.1)&&(backToKw pos (keywordEach [] X.env)).all (λx=>x.1.isSome)&&decide (([b,c]:List AM).length+([]:List B4).length+(if ([]:List B4).isEmpty then 0 else 1)<30))=true:=by rfl):
  PE X (.Call (.Attribute a "insert" apos) [b,c] [] pos) (tE S X (.mth .insert ca (.cons cb (.cons cc .nil)))):=
 (zeE Cq Ec PySem.F.type_list_insert zdx ha (zG (S:=S) hb (zG (S:=S) hc zaz hs2) (by rw[hs,hs2])) hbase hfew hline (by rw[hs,hs2]) hany).imp λσ H Q ⟨B,φ,st,ρ,rs,re,h⟩=>by
  erw[ev]at h;refine tE.bind rs re h λx H1 v st1 φ1 s1 rs1 re1 rv h1=>?_;let⟨_,e1,h1⟩:=zay h1;have t1:∃ws,yw st1 v=AA ws:=by
   erw[yax]at e1
   cases q:yw st1 v with
   |none=>rw[q]at e1;cases e1
   |some ws=>exact⟨ws,rfl⟩
  let⟨ws,t1⟩:=t1;let⟨l,xs,rfl,hl,_⟩:=zY rs1 rv t1;refine⟨.inl ⟨rfl,xs,hl⟩,tAs.bind rs1 re1 h1 λys H2 vs st2 φ2 s2 rs2 re2 rvs h2=>?_⟩;have rv2:=rv.step s2;rcases vs with _|⟨w,_|⟨w',_|⟨w'',t⟩⟩⟩
  .exact h2.elim
  .exact h2.elim
  .let⟨y,y',rfl,rw,rw'⟩:=rvs.two;unfold ybJ at h2;erw[ydi]at h2;split at h2
   .rename_i n;split at h2
    .rename_i zs hz;split at h2
     .rename_i k;split at h2
      .rename_i c;let⟨l',xs',e,hn,hx,lr⟩:=rs2.list rv2 hz
       cases e
       erw[yc]at rw;subst rw;have hln:=lr.length;refine⟨l,k,xs',y',rfl,rfl,hx,c.1,by lia,by have:=zlm;lia,?_⟩;exact h2 _ _ φ2 (.put (A5 hn)) (rs2.put hn ⟨_,zd,((lr.take k.toNat).append (show ye _ _ _ _ _ (w'::zs.drop k.toNat) (y'::xs'.drop k.toNat)by erw[ye];exact⟨y',_,rfl,rw',lr.drop k.toNat⟩)).step (.put (A5 hn))⟩) (by erw[yc])
      .exact h2.elim
     .exact h2.elim
    .exact h2.elim
   .exact h2.elim
  .exact h2.elim
end
section
variable {S:Se}{X:Cx}{a b:AM}{c i:Nat}{j:Int}{f:AN}{pos tpos:Bc}
end
end L2
namespace HT
open PySem PySem.Spec PyProof.Rows
section
variable {prog:A3}{w:Aa}{A:A8}{E:AF->AH->Prop}{s:AH}
end
end HT
namespace L2
open PySem PySem.Spec PyProof.Rows IC
section
variable {S:Se}{X:Cx}{pos p2:Bc}{e e3:AM}{te t3:TE}{a:AM}{ca c3:Ce}
theorem ye.reverse{K:AD}{cl:Nat->AG}{B:AG->Prop}{φ:Ph}{H:Hp}:∀{vs:List PV} {xs:List V},ye K cl B φ H vs xs->ye K cl B φ H vs.reverse xs.reverse
 |[],xs,h=>by
  erw[ye]at h;subst h;erw[List.reverse_nil,ye]
 |v::vs,xs,h=>by
  erw[ye]at h;let⟨y,ys,rfl,r,l⟩:=h;rw[Ff,Ff];exact(ye.reverse l).append (by erw[ye];exact⟨y,[],rfl,r,rfl⟩)
end
section
variable {X:Cx}{prog:A3}{w:Aa}{A:A8}{E:AF->AH->Prop}{s:AH}
end
section
variable {S:Se}{X:Cx}{pos px:Bc}{a:AM}{ca:Ce}
end
end L2
namespace PySem
open Sem (wp)
section
variable {prog:A3}{w:Aa}{K:Type}[DecidableEq K]{A:A8}{R:D6->AH->Prop}
end
end PySem
namespace L2
open PySem PySem.Spec PyProof.Rows
section
variable {X:Cx}
end
end L2
namespace L2
open PySem PySem.Spec PyProof.Rows IC
section
variable {K:AD}{cl:Nat->AG}{B:AG->Prop}{φ:Ph}{H:Hp}
end
section
variable {S:Se}{X:Cx}{a:AM}{ca:Ce}{p pos:Bc}
end
end L2
namespace PySem
open Sem (wp)
section
variable {prog:A3}{w:Aa}{K:Type}[DecidableEq K]{A:A8}{R:D6->AH->Prop}
end
end PySem
namespace L2
open PySem PySem.Spec PyProof.Rows
section
variable {X:Cx}
end
end L2
namespace PySem
open Sem (wp)
section
variable {prog:A3}{w:Aa}{A:A8}{E:AF->AH->Prop}{s:AH}
end
end PySem
namespace L2
open PySem PySem.Spec PyProof.Rows
section
variable {X:Cx}{π:List (AG×BR)}{σ:St}{H:Hp}{s:AH}{a:AG}{o:BR}{u:HO}
end
section
variable {X:Cx}{tg:AM}
end
end L2
namespace PySem.W
open PySem PySem.Calls PyProof.Rows
section
variable {prog:A3}{w:Aa}{A:A8}{E:AF->AH->Prop}{s:AH}{a:AG}{x y:AF}
end
end PySem.W
namespace PySem
open Sem (wp)
section
variable {prog:A3}{w:Aa}{K:Type}[DecidableEq K]{knd:HeapKind prog w K}{A:A8}{E:AF->AH->Prop}{s:AH}
end
end PySem
namespace L2
open PySem PySem.Spec PyProof.Rows
def yed(kvs:List (List NK×V)):Prop:=∀p∈kvs,∃i,p.2=.int i
def vI:V->Int
 |.int i=>i
 |_=>0
def yc4(ka kb:List (List NK×V)):Bool:=ka.length==kb.length&&ka.all λp=>match yaC kb p.1 with
 |some v=>vI p.2==vI v
 |none=>AE
section
variable {X:Cx}
end
section
variable {X:Cx}
end
end L2
namespace L2
open PySem PySem.Spec PyProof.Rows IC
section
variable {K:AD}{cl:Nat->AG}{B:AG->Prop}{φ:Ph}{H:Hp}
theorem DT.ints:∀{kvs:List (PV×PV)} {ks:List (List NK×V)},DT K cl B φ H kvs ks->kvs.all ybl=AC->yed ks
 |[],ks,h,_=>by cases (show ks=[]from h);intro p hp;cases hp
 |(k,v)::r,ks,h,a=>by
  let⟨q,x,s,rfl,rfl,rv,l⟩:=h;erw[Ar,AJ]at a;intro p hp;rcases A6.1 hp with rfl|hp
  .cases v with
   |int i=>erw[yc]at rv;exact⟨i,rv⟩
   |_=>exact absurd a.1 AV
  .exact DT.ints l a.2 p hp
def zdC{v:PV}{x:V}(a:ybl ((.non:PV),v)=AC)(r:yc K cl B φ H v x):vI x=ivP v/\x=.int (ivP v):=by
 cases v with
 |int i=>erw[yc]at r;subst r;exact⟨rfl,rfl⟩
 |_=>exact absurd a AV
def zcB{p:PV×PV}(h:ybl p=AC):ybl ((.non:PV),p.2)=true:=by
 let⟨a,b⟩:=p
 cases b<;>first|rfl|exact h
theorem DT.find{q:List NK}:∀{kvs:List (PV×PV)} {ks:List (List NK×V)},DT K cl B φ H kvs ks->kvs.all ybl=AC ->
  (match IC.look (.tup (yao q)) kvs with|some v=>AA (ivP v)|none=>AB)=(yaC ks q).map vI
 |[],ks,h,_=>by cases (show ks=[]from h);rfl
 |(k,v)::r,ks,h,a=>by
  let⟨q',x,s,rfl,rfl,rv,l⟩:=h;erw[Ar,AJ]at a;have e:=(zdC (zcB a.1) rv).1;erw[IC.look,zap]
  by_cases eq:q'=q
  .rw[zW (p:=(q',x)) eq];erw[eq,decide_true,if_true,CT];exact congrArg AA e.symm
  .rw[zV (p:=(q',x)) eq];erw[decide_eq_true_eq,eq,if_false];exact DT.find l a.2
theorem DT.all{kb:List (PV×PV)}{sb:List (List NK×V)}(b:DT K cl B φ H kb sb)(hb:kb.all ybl=AC):∀{kvs:List (PV×PV)} {ks:List (List NK×V)},DT K cl B φ H kvs ks->kvs.all ybl=AC ->
  (ks.all λp=>match yaC sb p.1 with|some v=>vI p.2==vI v|none=>AE)=kvs.all λp=>match IC.look p.1 kb with|some v=>ivP p.2==ivP v|none=>AE
 |[],ks,h,_=>by cases (show ks=[]from h);rfl
 |(k,v)::r,ks,h,a=>by
  let⟨q,x,s,rfl,rfl,rv,l⟩:=h;erw[Ar,AJ]at a;have e:=(zdC (zcB a.1) rv).1;rw[Ar,Ar,DT.all b hb l a.2]
  congr 1
  have f:=b.find hb (q:=q);dsimp only
  cases e1:IC.look (.tup (yao q)) kb with
  |none=>
   rw[e1]at f
   cases e2:yaC sb q with
   |none=>rfl
   |some y=>rw[e2]at f;cases f
  |some w=>
   rw[e1]at f
   cases e2:yaC sb q with
   |none=>rw[e2]at f;cases f
   |some y=>
    rw[e2]at f;have f:ivP w=vI y:=AU f;have e:vI x=ivP v:=e;erw[f,e]
theorem DT.same{ka kb:List (PV×PV)}{sa sb:List (List NK×V)}(a:DT K cl B φ H ka sa)(b:DT K cl B φ H kb sb)(ha:ka.all ybl=AC)(hb:kb.all ybl=AC):yc4 sa sb=ycm ka kb:=by
 unfold yc4 ycm;rw[<-a.len,<-b.len];exact congrArg (λz=>ka.length==kb.length&&z) (DT.all b hb a ha)
end
section
variable {S:Se}{X:Cx}{σ:St}{a b:AM}{ca cb:Ce}{p pos:Bc}
end
end L2
namespace PySem
open Sem (wp)
section
variable {prog:A3}{w:Aa}{A:A8}{E:AF->AH->Prop}{s:AH}
end
end PySem
namespace L2
open PySem PySem.Spec PyProof.Rows
section
variable {X:Cx}{el:List AM}{kk:Nat}{tp apos cpos:Bc}
end
end L2
namespace L2
open PySem PySem.Spec PyProof.Rows IC
section
variable {K:AD}{cl:Nat->AG}{B:AG->Prop}{φ:Ph}{H:Hp}{st:SO}
end
section
variable {S:Se}{X:Cx}
end
end L2
namespace L2
open PySem PySem.Spec PyProof.Rows
section
variable {X:Cx}
end
end L2
namespace L2
open PySem PySem.Spec PyProof.Rows IC
section
variable {S:Se}{X:Cx}{a:AM}{ca:Ce}{p pos:Bc}
end
end L2
namespace PySem
open Sem (wp)
section
variable {prog:A3}{w:Aa}{A:A8}{E:AF->AH->Prop}{s:AH}
end
end PySem
namespace L2
open PySem PySem.Spec PyProof.Rows
section
variable {X:Cx}
end
end L2
namespace L2
open PySem PySem.Spec PyProof.Rows IC
theorem DT.size{K:AD}{cl:Nat->AG}{B:AG->Prop}{φ:Ph}{H:Hp}:∀{kvs:List (PV×PV)} {ks:List (List NK×V)},DT K cl B φ H kvs ks->kvs.length=ks.length
 |[],ks,t=>by cases (show ks=[]from t);rfl
 |(k,v)::r,ks,t=>by
  let⟨q,x,s,rfl,rfl,rv,t'⟩:=t;rw[Ag,Ag,t'.size]
section
variable {S:Se}{X:Cx}{a:AM}{ca:Ce}{p pos:Bc}
end
end L2
namespace L2
open PySem PySem.Spec PyProof.Rows
def cxK(X:Cx)(sc:Ao)(NC:List AN)(x0:AN)(j:CI):Cx where
 prog:=X.prog
 w:=X.w
 K:=X.K
 mg:=X.mg
 base:=X.base
 A:=X.A
 N:=NC
 s₀:=j.s
 H₀:=j.H
 env:=compEnvC sc ((x0,j.C+1)::yaT sc X.env) j.C X.env
 outer:=X.stack
 stack:=X.stack
 ex:=j.fp
 fn:=λx=>x==x0
 calm:=X.calm
 pn:=[]
 xe:=No
structure yM(X:Cx)(sc:Ao)(NC:List AN)(slots:List (Option Nat))(x0:AN):Prop where
 kind:sc.kind=.function
 names:∀y∈sc.names,y.2=.local->sc.names.lookup y.1=AA .local
 own:∀y∈sc.names,y.2=.cell->y.1=x0
 own2:∀y∈sc.names,y.2=.free->(y.1==x0)=AE
 cf:∀n acc,cellsFrom n sc.names acc=(x0,n)::acc
 pc:∀h,pushCells h sc.names=h.push {cls:=.type "cell",data:=.cell AB}
 free:∀y∈sc.names,y.2=.free->X.env.scope.names.lookup y.1=AA .cell
 slot:∀(i:Nat) (x:AN) (j:Nat),NC[i]?=AA x->slots[i]?=AA (AA j)->X.N[j]?=AA x/\sc.names.lookup x=AA .free
 len:slots.length=NC.length
def zln{X:Cx}{sc:Ao}{NC:List AN}{slots:List (Option Nat)}{x0:AN}(N:List AN)(so:Ao)(hN:X.N=N)(hs:X.env.scope=so)(kind:sc.kind=.function)
  (names:∀y∈sc.names,y.2=.local->sc.names.lookup y.1=AA .local) (own:∀y∈sc.names,y.2=.cell->y.1=x0) (own2:∀y∈sc.names,y.2=.free->(y.1==x0)=AE) (cf:∀n acc,cellsFrom n sc.names acc=(x0,n)::acc) (pc:∀h,pushCells h sc.names=h.push {cls:=.type "cell",data:=.cell AB}) (free:∀y∈sc.names,y.2=.free->so.names.lookup y.1=AA .cell)
  (slot:∀p∈NC.zip slots,(p.2.all λj=>decide (N[j]?=AA p.1/\sc.names.lookup p.1=AA .free))=AC) (len:slots.length=NC.length):yM X sc NC slots x0:=by
 subst hN hs;refine⟨kind,names,own,own2,cf,pc,free,λi x j e1 e2=>?_,len⟩;have hm:(x,AA j)∈NC.zip slots:=A5 (i:=i) (by rw[Dq];exact⟨e1,e2⟩);have:=slot _ hm;simpa using this
def zfW{M:GM}{A:A8}{E:AF->AH->Prop}{s:AH}{scope:Ao}{globals:AG}{closure:List (AN×AG)}{qual:AN}{func:Option AG}{code:AF}{outer:Env}{builtins:AG}{x0:AN}{Q:Env->AH->Prop}
  (cf:∀n acc,cellsFrom n scope.names acc=(x0,n)::acc) (pc:∀h,pushCells h scope.names=h.push {cls:=.type "cell",data:=.cell AB})
  (hQ:∀h',h'.Ns s.heap.objs.size (λ_=>AB)->(∀b o,s.heap.get? b=AA o->h'.get? b=AA o)->h'.IsCell (s.heap.objs.size+1) AB->Q (newEnv scope s.heap.objs.size globals ((x0,s.heap.objs.size+1)::closure) qual func code (AA outer) builtins) {s with heap:=h'}):
  A2 M A (newFunctionEnv scope globals closure [] qual func code (AA outer) builtins) Q E s:=by
 erw[newFunctionEnv,FW,if_true];refine AI (wpAny_alloc ?_);refine AI (wpAny_layCells _ (λname kind cells=>by cases hkc:kind==Dx<;>simp[hkc]) _ _ _ _ ?_);rw[cf,pc];have e:({s with heap:=s.heap.push {cls:=.type "dict",data:=.dict #[]} }:AH).heap.objs.size=s.heap.objs.size+1:=Em ..;rw[e];refine AI ?_;rw[List.forIn_nil];refine AO (AO (hQ _ ?_ (λb o q=>AS _ (AS _ q)) ?_))
 .exact(Heap.Ns.new s.heap (.type "dict")).keeps λb o q=>AS _ q
 .exact⟨_,by rw[<-e];exact A7 _ rfl,rfl⟩
section
variable {X:Cx}{sc:Ao}{NC:List AN}{slots:List (Option Nat)}{x0:AN}{π:List (AG×BR)}{σ:St}{H:Hp}{s:AH}
theorem yM.cells(O:yM X sc NC slots x0)(ok:X.Ok):∀y∈sc.names,y.2=.free->∃c,X.env.cells.lookup y.1=AA c:=λy hy hk=>ok.has y.1 (.inl (O.free y hy hk))
theorem yM.sub(O:yM X sc NC slots x0)(ok:X.Ok):∀x c,(yaT sc X.env).lookup x=AA c->X.env.cells.lookup x=AA c:=zag sc.names [] (O.cells ok) λ_ _ e=>nomatch e
theorem yM.rel(O:yM X sc NC slots x0)(ok:X.Ok){x:AN}(h:sc.names.lookup x=AA .free):(relabel sc X.env).names.lookup x=AA .cell:=by
 rw[zR,h];have e:X.env.kindOf x=AA .cell:=O.free _ (mem_of_lookup h) rfl;simp[ybH,ok.kind,e]
def zbZ(I:Inv X π σ H s)(O:yM X sc NC slots x0){fp:List AG}(hf:∀b∈fp,yal X π H b)(hob:∀b∈fp,∃o,s.heap.get? b=AA o){h1:An}{t':Nat}{m:AN->Option AF}(hns:h1.Ns s.heap.objs.size m)
  (hk:∀b o,s.heap.get? b=AA o->h1.get? b=AA o) (hcell:h1.IsCell (s.heap.objs.size+1) AB):Inv (cxK X sc NC x0 ⟨s.heap.objs.size,s,H,fp⟩) [] (inn slots σ) H {s with heap:=h1,toks:=t'}:=by
 have sub:=O.sub I.ok;have fss:∀b,b≠X.env.locals->b∉X.fs->b∉frs X.stack:=λb h1 h2 hb=>(A6.mp (I.stkSub b hb)).elim h1 h2;have ltC:∀x c,(yaT sc X.env).lookup x=AA c->c<s.heap.objs.size:=λx c e=>by
  let⟨v,q⟩:=I.cell x c (sub x c e);exact q.lt
 have two:∀x c,((x0,s.heap.objs.size+1)::yaT sc X.env).lookup x=AA c->(x=x0/\c=s.heap.objs.size+1) \/ ((x==x0)=AE/\(yaT sc X.env).lookup x=AA c):=λx c e=>by
  rw[Av]at e
  cases q:x==x0 with
  |true=>
   rw[q]at e
   cases e
   exact .inl ⟨eq_of_beq q,rfl⟩
  |false=>
   rw[q]at e;exact .inr ⟨rfl,e⟩
 refine⟨⟨I.ok.mod,O.kind,I.ok.glob,I.ok.blt,AR _,λx y c e1 e2=>?_,λx hx=>?_,λx c z e=>?_,I.ok.hd,I.ok.frames,.inl rfl,λb hb=>⟨?_,λx c e=>?_⟩,I.bs,BC I.ok.bsz I.sz,λb o e hb=>?_,λb hb=>fss b (hf b hb).2.1 (hf b hb).2.2.1,I.stack,I.stkFree⟩,
  rfl,I.bare,Un.kept hk,⟨m,hns,λi x v e1 e2 e3=>?_⟩,λx c e=>?_,I.hok.fresh (AR _),λx c e=>?_,λp hp=>(nomatch hp),I.hok.kept hk,?_⟩
 .rcases two x c e1 with⟨rfl,rfl⟩|⟨_,q1⟩
  .rcases two y _ e2 with⟨rfl,_⟩|⟨_,q2⟩
   .rfl
   .exact absurd (Fc (EN _) (ltC _ _ q2)) (Bi _)
  .rcases two y c e2 with⟨rfl,rfl⟩|⟨_,q2⟩
   .exact absurd (Fc (EN _) (ltC _ _ q1)) (Bi _)
   .exact I.ok.inj x y c (sub x c q1) (sub y c q2)
 .have hx':(relabel sc X.env).names.lookup x=AA .cell \/ (relabel sc X.env).names.lookup x=AA .free:=hx;show ∃c,((x0,s.heap.objs.size+1)::yaT sc X.env).lookup x=AA c;rw[Av]
  cases qx:x==x0 with
  |true=>exact⟨_,rfl⟩
  |false=>
  rw[zR]at hx'
  cases q:sc.names.lookup x with
  |none=>
   rw[q]at hx';rcases hx' with z|z<;>cases z
  |some k=>
   have hm:=mem_of_lookup q;have hkf:k=.free:=by
    rw[q]at hx'
    by_cases hk:k=.free
    .exact hk
    .exfalso;have hb:(k==CA)=false:=by simpa using hk
     rcases hx' with z|z
     .simp[ybH,hb]at z;have:=O.own _ hm z;have e:x=x0:=this;rw[e]at qx;simp at qx
     .simp[ybH,hb]at z;exact hk z
   subst hkf;exact zE sc.names [] _ hm rfl
 .have e0:x=x0:=eq_of_beq z;rcases two x c e with⟨_,rfl⟩|⟨q,_⟩
  .exact C5 _
  .rw[e0]at q;simp at q
 .let⟨o,e⟩:=hob b hb;exact Af (AX e)
 .rcases two x c e with⟨_,rfl⟩|⟨_,q⟩
  .let⟨o,e⟩:=hob b hb;exact EU (Nat.lt_succ_of_lt (AX e))
  .exact(hf b hb).2.2.2.2.1 x c (sub x c q)
 .rcases (hf b hb).2.2.2.1 with z|z
  .exact I.ok.noex b o e z
  .exact absurd (A0 (AX e) (BC I.ok.bsz z)) (Bi _)
 .obtain⟨j,e4,e5⟩:∃j,slots[i]?=AA (AA j)/\σ[j]?=AA (AA v):=by
   have e2':(slots.map λo=>o.bind λj=>(σ[j]?).join)[i]?=AA (AA v):=e2;rw[Ax]at e2'
   cases q:slots[i]? with
   |none=>
    rw[q]at e2'
    cases e2'
   |some o=>
    rw[q]at e2'
    cases o with
    |none=>cases e2'
    |some j=>
     refine⟨j,rfl,?_⟩;have e6:(σ[j]?).join=AA v:=AU e2'
     cases q2:σ[j]? with
     |none=>
      rw[q2]at e6
      cases e6
     |some w=>
      rw[q2]at e6;have e7:w=AA v:=e6;rw[e7]
  let⟨e6,e7⟩:=O.slot i x j e1 e4;have kc:X.env.scope.names.lookup x=AA .cell:=O.free _ (mem_of_lookup e7) rfl;let⟨m0,hn0,hl⟩:=I.loc;let⟨u,r,lk⟩:=hl j x v e6 e5 (.inr (.inl kc));refine⟨u,r,.inr ⟨.inl (O.rel I.ok e7),?_⟩⟩;rcases lk with⟨z,_⟩|⟨_,c,hc,o,ho,hd⟩
  .rw[show X.env.kindOf x=AA .cell from kc]at z
   cases z
  .let⟨c',hc'⟩:=zE (env:=X.env) sc.names [] _ (mem_of_lookup e7) rfl;have e8:c'=c:=AU ((sub x c' hc').symm.trans hc);subst e8;refine⟨c',?_,o,hk _ _ ho,hd⟩;show ((x0,s.heap.objs.size+1)::yaT sc X.env).lookup x=AA c';rw[Av,O.own2 _ (mem_of_lookup e7) rfl];exact hc'
 .rcases two x c e with⟨_,rfl⟩|⟨_,q⟩
  .exact⟨AB,hcell⟩
  .let⟨v,o,ho,hd⟩:=I.cell x c (sub x c q);exact⟨v,o,hk _ _ ho,hd⟩
 .rcases two x c e with⟨_,rfl⟩|⟨_,q⟩
  .exact I.hok.fresh (C5 _)
  .exact I.freeC x c (sub x c q)
 .show (slots.map λo=>o.bind λj=>(σ[j]?).join).length=NC.length;rw[Ak,O.len]
def zch(I:Inv X π σ H s){fp:List AG}(hf:∀b∈fp,yal X π H b){C:AG}(hC:s.heap.objs.size<=C){pl:List (AG×BR)}{σ':St}{H':Hp}{s':AH}(J:Inv (cxK X sc NC x0 ⟨C,s,H,fp⟩) pl σ' H' s')
  {h2:An} (hb:Bf C s'.heap h2):Inv X π σ H' {s' with heap:=h2}:=by
 have nC:∀b o,s.heap.get? b=AA o->b≠C:=λb o e=>Af (A0 (AX e) hC);have B:Un (frs X.stack) fp H H' s.heap s'.heap:=J.base;have fC:H' C=none:=J.free;refine I.call' (ch:=fp) J.os ⟨λb o e n h3 h4=>(hb.2 b (nC b o e)).trans (B.keep b o e n h3 h4),λb o e n h3 h4=>?_,B.free,λb o e h4=>?_,B.tups,B.frzs,B.tbls⟩ (λb u e=>?_) J.bare λb h3=>⟨(hf b h3).2.2.2.1,(hf b h3).2.1,(hf b h3).2.2.2.2.1,(hf b h3).2.2.2.2.2⟩
 .let⟨sl,q⟩:=B.slot b o e n h3 h4;exact⟨sl,(hb.2 b (nC b o e)).trans q⟩
 .let⟨o',q⟩:=B.there b o e h4;exact⟨o',(hb.2 b (nC b o e)).trans q⟩
 .refine(J.hok b u e).stay (λc v hc q=>(hb.2 c λz=>?_).trans q) (λ_ q=>q) λ_ _ q=>q;subst z;rcases hc with z|z
  .rw[z,e]at fC
   cases fC
  .rw[z]at fC
   cases fC
end
section
variable {X:Cx}{sc:Ao}{NC:List AN}{slots:List (Option Nat)}{x0:AN}{elt tg iter:AM}{ifs:List AM}{pos:Bc}{g:TG}{ti:TT}{te:TE}
variable {wi:TI}
end
abbrev TM:=St->Hp->(St->Hp->Prop)->Prop
def PEm(X:Cx)(em:Fi Unit)(t:TM):Prop:=∀(π:List (AG×BR)) (s:AH) (σ:St) (H:Hp) (Q:St->Hp->Prop),Inv X π σ H s->t σ H Q ->
 A2 (model X.prog X.w) X.A em (λ_ s'=>∃σ' H',Inv X π σ' H' s'/\Q σ' H') X.xe s
def turnOf(tg iter:AM)(ifs:List AM)(e:AM)(d:Nat)(it acc:AF)(env:Env)(em:Fi Unit):Fi Fin:=do
 standAt iter.pos
 match <-pyNext it with
 |none=>pure (.done .next)
 |some v=>
  letOwnedTupleGo tg it v
  assign tg env v
  let mut ok:=AC
  for c in ifs do
   if ok then ok <-isTrue c env (eval c env)
  if ok then em
  again (.compLoop e d it acc env)
def ybI(tg iter:AM)(ifs:List AM)(e:AM)(d:Nat)(it acc:AF)(env:Env)(em:Fi Fin->Fi Fin):Fi Fin:=do
 standAt iter.pos
 match <-pyNext it with
 |none=>pure (.done .next)
 |some v=>
  letOwnedTupleGo tg it v
  assign tg env v
  let mut ok:=AC
  for c in ifs do
   if ok then ok <-isTrue c env (eval c env)
  if ok then em (again (.compLoop e d it acc env))else again (.compLoop e d it acc env)
def nextM(iter:AM)(e:AM)(d:Nat)(acc:AF)(env:Env):Fi Unit:=do
 let x <-eval iter env
 standAt iter.pos
 let x <-foldedSetIterable iter env x
 let _ <-runOwn (.compStart e d (<-holding [x] (pyIter x)) acc env) env
def nextK(iter:AM)(e:AM)(d:Nat)(acc:AF)(env:Env)(k:Fi Fin):Fi Fin:=do
 let x <-eval iter env
 standAt iter.pos
 let x <-foldedSetIterable iter env x
 let _ <-runOwn (.compStart e d (<-holding [x] (pyIter x)) acc env) env
 k
def zfD(iter:AM)(e:AM)(d:Nat)(acc:AF)(env:Env)(k:Fi Fin):nextK iter e d acc env k=(nextM iter e d acc env >>= λ_=>k):=by
 erw[nextK,nextM,bind_assoc,pure_bind]
def zaO(tg iter iter2:AM)(ifs:List AM)(e:AM)(d d2:Nat)(it acc:AF)(env:Env):ybI tg iter ifs e d it acc env (nextK iter2 e d2 acc env)=turnOf tg iter ifs e d it acc env (nextM iter2 e d2 acc env):=
 congrArg (ybI tg iter ifs e d it acc env) (funext λk=>zfD iter2 e d2 acc env k)
structure ybc(A:A8)(e:AM)(d:Nat)(tg iter:AM)(ifs:List AM)(acc:AF)(env:Env)(em:Fi Unit):Prop where
 turn:∀it,compTurn e d it acc env=turnOf tg iter ifs e d it acc env em
 cl:(clausesOf e)[d]?=AA ⟨tg,iter,ifs,0⟩
 dn:∀pg wd it,(model pg wd).den (.compLoop e d it acc env)=(compTurn e d it acc env).onRaise (λx=>do noteFrame x env;theTreesLotGoes x)
 dn2:∀pg wd it,(model pg wd).den (.compStart e d it acc env)=(compStart e d it acc env).onRaise (λx=>do noteFrame x env;standAt theWindowsPlace)
 un:∀it,A.under (.compLoop e d it acc env)=A
 un2:∀it,A.under (.compStart e d it acc env)=A
 q:∀it,(Code.compLoop e d it acc env).quiet=AC
section
variable {pg:A3}{wd:Aa}{A:A8}{R:D6->AH->Prop}{s:AH}{e:AM}{d:Nat}{tg iter:AM}{ifs:List AM}{acc it:AF}{env:Env}{em:Fi Unit}
def zib(C:ybc A e d tg iter ifs acc env em)(I:Nat->AH->Prop)
  (turn:∀n s,I n s->A2 (model pg wd) A (pyNext it) (λr s1=>match r with
   |none=>R (.ok .next) s1
   |some v=>A2 (model pg wd) A (letOwnedTupleGo tg it v) (λ_ s2=>A2 (model pg wd) A (assign tg env v) (λ_ s3=>A2 (model pg wd) A (ycr ifs env) (λok s4=>
     if ok=AC then A2 (model pg wd) A em (λ_ s6=>∃m,m<n/\I m s6) No s4
     else ∃m,m<n/\I m s4) No s3) No s2) No s1) No s)
  (n:Nat) (h:I n s):codeAny (model pg wd) A (.compLoop e d it acc env) R s:=by
 refine codeAny_loop (C.q it) I (λn s hI=>?_) n h;rw[C.un,C.dn];refine wpAny_noted ?_;rw[C.turn];refine AI (B3 (AI (Az (turn n s hI) (λr s1 h1=>?_) λ_ _ f=>f.elim)))
 cases r with
 |none=>exact AO h1
 |some v=>
  refine AI (Az h1 (λ_ s2 h2=>AI (Az h2 (λ_ s3 h3=>AI (Az h3 (λok s4 h4=>?_) λ_ _ f=>f.elim)) λ_ _ f=>f.elim)) λ_ _ f=>f.elim)
  cases ok with
  |false=>exact AO ⟨rfl,h4⟩
  |true=>exact AI (Az h4 (λ_ s6 h6=>AO ⟨rfl,h6⟩) λ_ _ f=>f.elim)
def zcy(C:ybc A e d tg iter ifs acc env em)(h0:codeAny (model pg wd) A (.compLoop e d it acc env) R s)
  (h:A2 (model pg wd) A (pyIter it) (λit' s'=>codeAny (model pg wd) A (.compLoop e d it' acc env) R s') (notedBy (model pg wd) A env λx s'=>R (.error x) s') s):
  codeAny (model pg wd) A (.compStart e d it acc env) R s:=by
 refine codeAny_of_tree ?_;rw[C.un2,C.dn2];refine wpAny_notedAt ?_;unfold compStart;rw[C.cl];show A2 _ _ (ask >>= _) _ _ s;refine AI (wpAny_askSetting (wpAny_ite ?_));split
 .first
   |exact AI (AO (AO (DZ (C.q it) h0)))
   |exact AO (DZ (C.q it) h0)
 .first
   |exact AI (ET (AI (B3 (AI (Az h (λit' s' h'=>AO (DZ (C.q it') h')) λ_ _ x=>x)))))
   |(refine AI (ET ?_);show A2 _ _ (standAt iter.pos >>= _) _ _ s;exact AI (B3 (AI (Az h (λit' s' h'=>AO (DZ (C.q it') h')) λ_ _ x=>x))))
end
def ybA(J:It)(g:TG)(ti:TT)(tm:TM)(W:Nat->Nat->St->Hp->Prop)(Q:St->Hp->Prop):Prop:=
 ∀i m σ H,W i m σ H->(J.stop i H/\Q σ H) \/ (J.go i H/\∃N:St->Hp->Prop,(∀σ' H',N σ' H'->∃m',m' < m/\W (i+1) m' σ' H') /\
  ∀x H',J.yld i H x H'->g x σ H' λσ2 H2=>ti σ2 H2 λb H3=>if b=AC then tm σ2 H3 N else N σ2 H3)
section
variable {Y:Cx}{e:AM}{d:Nat}{tg iter:AM}{ifs:List AM}{acc:AF}{em:Fi Unit}{g:TG}{ti:TT}{tm:TM}{π:List (AG×BR)}{σ:St}{H:Hp}{s:AH}{R:D6->AH->Prop}
def zk2(hx:Y.xe=No)(hc:Y.calm=AC)(C:ybc Y.A e d tg iter ifs acc Y.env em)(hg:PG Y tg g)(ht:PTs Y ifs ti)(hm:PEm Y em tm){it:AG}{fp:List AG}{tn:Nat->An->Prop}{J:It}
  {W:Nat->Nat->St->Hp->Prop} {Q:St->Hp->Prop} (T:Turn Y.prog Y.w Y.K tg J fp it tn) (I:Inv Y π σ H s) (hf:∀b∈fp,yal Y π H b) (st:tn 0 s.heap) {m:Nat} (w0:W 0 m σ H) (step:ybA J g ti tm W Q)
  (fin:∀σ' H' s',Inv Y π σ' H' s'->(∀b∈fp,H' b=AB)->Q σ' H'->R (.ok .next) s'):
  codeAny (model Y.prog Y.w) Y.A (.compLoop e d (.ref it) acc Y.env) R s:=by
 have stat:∀{H':Hp},(∀b∈fp,H' b=AB)->∀b∈fp,yal Y π H' b:=λhn b hb=>⟨hn b hb,(hf b hb).2⟩;refine zib C (λn s'=>∃i σ' H',Inv Y π σ' H' s'/\tn i s'.heap/\(∀b∈fp,H' b=AB)/\W i n σ' H') ?_ m ⟨0,σ,H,I,st,λb hb=>(hf b hb).1,w0⟩
 rintro n s3 ⟨i,σ3,H3,I3,st3,fr3,w3⟩
 rcases step i n σ3 H3 w3 with⟨stop,qn⟩|⟨go,N,hN,turn⟩
 .refine thn (T.done Y rfl rfl rfl hc i π s3 σ3 H3 No I3 (stat fr3) st3 stop) λr s4 kq=>?_;let⟨hr,I4⟩:=kq;subst hr;exact fin σ3 H3 s4 I4 fr3 qn
 .refine thn (T.item Y rfl rfl rfl hc i π s3 σ3 H3 No I3 (stat fr3) st3 go) λr s4 kq=>?_;let⟨u,hr,h4⟩:=kq;subst hr;refine thn h4 λ_ s5 kq=>?_;let⟨x,H5,I5,r5,y5,st5,fr5⟩:=kq;have I5':=I5.pinned (stat fr5) (T.obj _ _ st5);have again:∀{σ8:St} {H8:Hp} {s8:AH},Inv Y (π++yaF fp s5.heap) σ8 H8 s8->N σ8 H8->∃m,m<n/\∃i σ' H',Inv Y π σ' H' s8/\tn i s8.heap/\(∀b∈fp,H' b=AB)/\W i m σ' H':=λ{σ8 H8 s8} I8 n8=>by
   let⟨m',hm,w8⟩:=hN σ8 H8 n8;refine⟨m',hm,i+1,σ8,H8,I8.unpinned,T.keep _ _ _ st5 λb hb o e=>(I8.pin (b,o) (A9 _ (A9 _ (zr hb e)))).1,λb hb=>?_,w8⟩;let⟨o,e,d⟩:=T.obj _ _ st5 b hb;exact(I8.pin (b,o) (A9 _ (A9 _ (zr hb e)))).2.1
  have hg':=hg _ s5 σ3 H5 x u _ I5' r5 (turn x H5 y5);rw[hx]at hg';refine thn hg' λ_ s6 kq=>?_;let⟨σ6,H6,I6,q6⟩:=kq;have ht':=ht _ s6 σ6 H6 _ I6 q6;rw[hx]at ht';refine thn ht' λok s7 kq=>?_;let⟨H7,I7,q7⟩:=kq
  cases ok with
  |false=>
   rw[if_neg AV]at q7 ⊢;exact again I7 q7
  |true=>
   rw[if_pos rfl]at q7 ⊢;have hm':=hm _ s7 σ6 H7 _ I7 q7;rw[hx]at hm';exact thn hm' λ_ s8 ⟨σ8,H8,I8,q8⟩=>again I8 q8
def ybv(wi:TI)(g:TG)(ti:TT)(tm:TM):TM:=λσ H Q=>wi σ H λJ H1=>∃W,(∃m,W 0 m σ H1)/\ybA J g ti tm W Q
def zfJ{wi:TI}(hx:Y.xe=No)(hc:Y.calm=AC)(C:ybc Y.A e d tg iter ifs acc Y.env em)(hi:PI Y tg iter wi)(hg:PG Y tg g)(ht:PTs Y ifs ti)(hm:PEm Y em tm)
  (hs:∀x,foldedSetIterable iter Y.env x=pure x:=by intro _;rfl):PEm Y (nextM iter e d acc Y.env) (ybv wi g ti tm):=by
 intro π s σ H Q I h;unfold nextM;refine AI (thn (hi π s σ H _ I h) λv s1 h1=>AI (B3 (AI (wpAny_of_eq (hs v) (AI (Bz (thn h1 λitv s2 h2=>?_)))))));let⟨it,fp,tn,J,H2,rfl,I2,T,st2,f2,W,⟨m0,w0⟩,step⟩:=h2;refine AI (wpAny_runOwn ?_);rw[show Y.A.mark AB=Y.A by cases Y.A;rfl];have lp:=zk2 (R:=λr s'=>match r with | .ok f=>A2 (model Y.prog Y.w) Y.A (pure DD) (λ_ s'=>∃σ' H',Inv Y π σ' H' s'/\Q σ' H') Y.xe s' | .error e=>cameBackBy (model Y.prog Y.w) Y.A Y.env Y.xe e s')
  hx hc C hg ht hm T I2 f2 st2 w0 step λσ' H' s' I' _ q=>AO ⟨σ',H',I',q⟩
 exact zcy C lp (T.self Y.A 0 s2 _ _ st2 lp)
def zhB{elt:AM}{te:TE}{D:AG}(he:PE Y elt te):PEm Y (do let _ <-call (.builtin "list.append") [.ref D,<-eval elt Y.env]) (λσ H Q=>te σ H λy H'=>∃ys,H' D=AA (.lst ys)/\ys.length<sizeLine/\Q σ (upd H' D (.lst (ys++[y])))):=by
 intro π s σ H Q I h;refine AI (thn (he π s σ H _ I h) λy s8 kq=>?_);let⟨v,H8,I8,r8,ys,hD8,hz,q8⟩:=kq;refine AI (thn (zbw (X:=Y) _ s8 σ H8 (.ref D) [v] (.ref D) [y] (λz H'=>z=.non/\H'=upd H8 D (.lst (ys++[v]))) I8 rfl (.cons r8 .nil) ⟨D,ys,v,rfl,rfl,hD8,hz,rfl,rfl⟩) λz s9 kq=>?_);let⟨zv,H9,I9,r9,e1,e2⟩:=kq;subst e2;exact AO ⟨σ,_,I9,q8⟩
end
section
variable {Y:Cx}{π:List (AG×BR)}{σ:St}{H:Hp}{s:AH}
def zdF{A:A8}{E:AF->AH->Prop}{D b:AG}{kvs:List (List NK×V)}{k:List NK}{v:V}{r:AF}{Q:Unit->AH->Prop}(hu:A.units+16<cLine)(I:Inv Y π σ H s)(e:H D=AA (.dT kvs))(eb:KyR H k b)(l:kvs.length<sizeLine)(rv:RelV v r)
  (h:∀s',Inv Y π σ (upd H D (.dT (putK kvs k v))) s'->Q () s'):A2 (model Y.prog Y.w) A (dictSet D (.ref b) r) Q E s:=by
 let⟨z,hd,xs,rel,dd⟩:=zkK I.hok e;have hz:xs.length<=sizeLine:=by rw[<-FH rel];exact z
 have hl:(putK kvs k v).length<=sizeLine:=by have:=zb6 kvs k v;lia
 refine wpAny_dictSet_heap (hsz:=hz) ((show A.units+8<cLine by lia)) (zeQ I.hok eb) dd λh' dd' hs=>h _ ?_;let⟨q,es,ep,hq,h2,h3,h4,_,h5⟩:=dd';refine zgU I (by rw[e];exact GU) hs ⟨q,hq⟩ ⟨hl,hd,_,(rel.put k eb rv).keeps λc ys ec=>?_,q,es,ep,hq,h2,h3,h4,h5⟩;rw[za (zkw ec e (λz=>nomatch z))];exact ec
def zhE{kx vx:AM}{tk tv:TE}{D:AG}(hu:Y.A.units+16<cLine)(hk:PE Y kx tk)(hv:PE Y vx tv):PEm Y (do
    let kv <-eval kx Y.env
    let vv <-holding [kv] (eval vx Y.env)
    standAt {kx.pos with endLine:=vx.pos.endLine,endCol:=vx.pos.endCol}
    holding [kv,vv] (dictSet D kv vv)) (λσ H Q=>tk σ H λx H1=>tv σ H1 λv H2=>∃b k kvs,x=.ref b/\H2 D=AA (.dT kvs)/\KyR H2 k b/\kvs.length<sizeLine/\Q σ (upd H2 D (.dT (putK kvs k v)))):=by
 intro π s σ H Q I h;refine AI (thn (hk π s σ H _ I h) λkv s1 kq=>?_);let⟨x,H1,I1,r1,q1⟩:=kq;refine AI (Bz (thn (hv π s1 σ H1 _ I1 q1) λvv s2 kq=>?_));let⟨v,H2,I2,r2,b,k,kvs,ex,e,eb,l,q2⟩:=kq;subst ex
 cases (show kv=Au b from r1)
 exact AI (B3 (Bz (zdF hu I2 e eb l r2 λs3 I3=>⟨σ,_,I3,q2⟩)))
end
def cxL(X:Cx)(sc:Ao)(NC:List AN)(own:AG->List (AN×AG))(fn:AN->Bool)(j:CI):Cx where
 prog:=X.prog
 w:=X.w
 K:=X.K
 mg:=X.mg
 base:=X.base
 A:=X.A
 N:=NC
 s₀:=j.s
 H₀:=j.H
 env:=compEnvC sc (own j.C++yaT sc X.env) j.C X.env
 outer:=X.stack
 stack:=X.stack
 ex:=j.fp
 fn:=fn
 calm:=X.calm
 pn:=[]
 xe:=No
structure ybe(X:Cx)(sc:Ao)(NC:List AN)(slots:List (Option Nat))(own:AG->List (AN×AG))(fn:AN->Bool):Prop where
 kind:sc.kind=.function
 names:∀y∈sc.names,y.2=.local->sc.names.lookup y.1=AA .local
 cells:X.Ok->∀y∈sc.names,y.2=.free->∃c,X.env.cells.lookup y.1=AA c
 enter:∀{π:List (AG×BR)} {σ:St} {H:Hp} {s:AH} {fp:List AG} {Q:Env->AH->Prop},Inv X π σ H s->(∀b∈fp,yal X π H b)->(∀b∈fp,∃o,s.heap.get? b=AA o) ->
  (∀h1 t1 cenv,Inv (cxL X sc NC own fn ⟨s.heap.objs.size,s,H,fp⟩) [] (inn slots σ) H {s with heap:=h1,toks:=t1}->(∀b o,s.heap.get? b=AA o->h1.get? b=AA o) ->
   {cenv with scope:=relabel sc X.env}=(cxL X sc NC own fn ⟨s.heap.objs.size,s,H,fp⟩).env->cenv.locals=s.heap.objs.size->Q cenv {s with heap:=h1,toks:=t1}) ->
  A2 (model X.prog X.w) X.A (newFunctionEnv sc X.env.globals (yaT sc X.env) [] X.env.qual AB .none (AA X.env)) Q X.xe s
 leave:∀{π:List (AG×BR)} {σ:St} {H:Hp} {s:AH} {fp:List AG} {C:AG} {pl:List (AG×BR)} {σ':St} {H':Hp} {s':AH} {h2:An},Inv X π σ H s->(∀b∈fp,yal X π H b)->s.heap.objs.size<=C ->
  Inv (cxL X sc NC own fn ⟨C,s,H,fp⟩) pl σ' H' s'->Bf C s'.heap h2->Inv X π σ H' {s' with heap:=h2}
theorem yK.blk{X:Cx}{sc:Ao}{NC:List AN}{slots:List (Option Nat)}(O:yK X sc NC slots):ybe X sc NC slots (λ_=>[]) (λ_=>AE) where
 kind:=O.kind
 names:=O.names
 cells:=O.cells
 enter:=λ{π σ H s fp Q} I hf hob h=>En O.nocell (by intro y hy;simp at hy) (λh1 hns1 hsb1=>
  have hk1:∀b o,s.heap.get? b=AA o->h1.get? b=AA o:=λb o e=>hsb1.extBut b o (Af (AX e)) (AS _ e)
  h h1 _ _ (zaX I O hf hob hns1 hk1) hk1 rfl rfl) O.kind
 leave:=λI hf hC J hb=>zaT I hf hC J hb
theorem yM.blk{X:Cx}{sc:Ao}{NC:List AN}{slots:List (Option Nat)}{x0:AN}(O:yM X sc NC slots x0):ybe X sc NC slots (λC=>[(x0,C+1)]) (λx=>x==x0) where
 kind:=O.kind
 names:=O.names
 cells:=O.cells
 enter:=λ{π σ H s fp Q} I hf hob h=>zfW O.cf O.pc λh1 hns1 hk1 hcell=>h h1 _ _ (zbZ I O hf hob hns1 hk1 hcell) hk1 rfl rfl
 leave:=λI hf hC J hb=>zch I hf hC J hb
section
variable {X:Cx}{sc:Ao}{NC:List AN}{slots:List (Option Nat)}{own:AG->List (AN×AG)}{fn:AN->Bool}{e tg iter:AM}{ifs:List AM}{g:TG}{ti:TT}{tm:AG->TM}{em:AG->Env->Fi Unit}{u0:HO}{ob:BR}{acc:Fi AF}
def zaL(hc:X.calm=AC)(O:ybe X sc NC slots own fn)(C:∀j D,ybc X.A e 0 tg iter ifs (.ref D) (cxL X sc NC own fn j).env (em D (cxL X sc NC own fn j).env))(hg:∀j,PG (cxL X sc NC own fn j) tg g)(ht:∀j,PTs (cxL X sc NC own fn j) ifs ti)(hm:∀j D,PEm (cxL X sc NC own fn j) (em D (cxL X sc NC own fn j).env) (tm D))
  {π:List (AG×BR)} {s:AH} {σ:St} {H:Hp} (I:Inv X π σ H s)
  (hacc:∀{Q:AF->AH->Prop} {E:AF->AH->Prop},Q (.ref s.heap.objs.size) {s with heap:=s.heap.push ob}->A2 (model X.prog X.w) X.A acc Q E s) (hobj:yG X.prog X.w (upd H s.heap.objs.size u0) (s.heap.push ob) s.heap.objs.size u0) (hob:ob.isFreed=AE)
  {it:AG} {fp:List AG} {tn:Nat->An->Prop} {J:It} (T:Turn X.prog X.w X.K tg J fp it tn) (st:tn 0 s.heap) (hf:∀b∈fp,yal X π H b) {Q:VK}
  (h:∀D,H D=AB->∃W,(∃m,W 0 m (inn slots σ) (upd H D u0))/\ybA J g ti (tm D) W (λ_ H'=>Q (.ref D) H')) {RR:AF->AG->D6->AH->Prop}
  (fin:∀D C s' H',Q (.ref D) H'->(∃o m,s'.heap.get? C=AA o/\s'.heap.Ns C m/\∀v,o.data ≠ .cell v)->yal X π H' C->(∀h2,Bf C s'.heap h2->Inv X π σ H' {s' with heap:=h2})->RR (.ref D) C (.ok .next) s'):
  A2 (model X.prog X.w) X.A acc (λacc s3=>A2 (model X.prog X.w) X.A (newFunctionEnv sc X.env.globals (yaT sc X.env) [] X.env.qual AB .none (AA X.env)) (λcenv s4=>
   codeAny (model X.prog X.w) X.A (.compStart e 0 (.ref it) acc {cenv with scope:=relabel sc X.env}) (RR acc cenv.locals) s4) X.xe s3) X.xe s:=by
 refine hacc ?_;have hDn:H s.heap.objs.size=none:=I.hok.fresh (AR _);let⟨W,⟨m,w0⟩,step⟩:=h s.heap.objs.size hDn;obtain⟨s3,hs3⟩:∃x:AH,x=({s with heap:=s.heap.push ob}:AH):=⟨_,rfl⟩;have e3:s3.heap=s.heap.push ob:=by rw[hs3]
 have hp3:∀b o,s.heap.get? b=AA o->s3.heap.get? b=AA o:=λb o e=>by
  rw[e3];exact AS _ e
 have I3:Inv X π σ (upd H s.heap.objs.size u0) s3:=by
  have q:=I.laid (a:=s.heap.objs.size) (o:=u0) (h':=s3.heap) (t':=s.toks) hp3 (AR _) (by rw[e3];exact hobj);rw[hs3]at q ⊢;exact q
 have hf3:∀b∈fp,yal X π (upd H s.heap.objs.size u0) b:=λb hb=>by
  let⟨o,e,_⟩:=T.obj _ _ st b hb;refine⟨?_,(hf b hb).2⟩;rw[za (Af (AX e))];exact(hf b hb).1
 have st3:tn 0 s3.heap:=T.keep _ _ _ st λb _ o e=>hp3 b o e;have hob:∀b∈fp,∃o,s3.heap.get? b=AA o:=λb hb=>by
  let⟨o,e,_⟩:=T.obj _ _ st3 b hb;exact⟨o,e⟩
 rw[<-hs3];refine O.enter I3 hf3 hob λh1 t1 cenv J1 hk1 ee el=>?_;rw[ee,el];have hfc:∀b∈fp,yal (cxL X sc NC own fn ⟨s3.heap.objs.size,s3,upd H s.heap.objs.size u0,fp⟩) [] (upd H s.heap.objs.size u0) b:=λb hb=>
  ⟨(hf3 b hb).1,(J1.ok.exf b hb).1,J1.ok.exfs b hb,.inl hb,(J1.ok.exf b hb).2,λp hp=>nomatch hp⟩
 have stl:tn 0 ({s3 with heap:=h1,toks:=t1}:AH).heap:=T.keep _ _ _ st3 λb _ o e=>hk1 b o e;have loop:codeAny (model X.prog X.w) X.A (.compLoop e 0 (.ref it) (.ref s.heap.objs.size) (cxL X sc NC own fn ⟨s3.heap.objs.size,s3,upd H s.heap.objs.size u0,fp⟩).env) (RR (.ref s.heap.objs.size) s3.heap.objs.size) {s3 with heap:=h1,toks:=t1}:=by
  refine zk2 (Y:=cxL X sc NC own fn ⟨s3.heap.objs.size,s3,upd H s.heap.objs.size u0,fp⟩) rfl hc (C _ _) (hg _) (ht _) (hm _ _) T J1 hfc stl w0 step λσ' H' s' J' fr' q'=>?_;have fC:H' s3.heap.objs.size=none:=J'.free;refine fin _ _ s' H' q' ?_ (I3.fpOk (AR _) fC) λh2 hb=>O.leave I3 hf3 (AR _) J' hb;let⟨m',hn',_⟩:=J'.loc;let⟨o,es,ep,ho,hd,r⟩:=id hn';exact⟨o,m',ho,hn',λv z=>by rw[hd]at z;cases z⟩
 exact zcy (C _ _) loop (T.self X.A 0 _ _ _ stl loop)
variable {wi:TI}
def ya5(slots:List (Option Nat))(wi:TI)(g:TG)(ti:TT)(u0:HO)(tm:AG->TM):TE:=λσ H Q=>wi σ H λJ H1=>∀D,H1 D=AB->∃W,(∃m,W 0 m (inn slots σ) (upd H1 D u0))/\ybA J g ti (tm D) W (λ_ H'=>Q (.ref D) H')
def zc1{elt:AM}{rest:List CC}{pos:Bc}(hc:X.calm=AC)(O:ybe X sc NC slots own fn)(C:∀j D,ybc X.A (.ListComp elt (⟨tg,iter,ifs,0⟩ :: rest) sc pos) 0 tg iter ifs (.ref D) (cxL X sc NC own fn j).env (em D (cxL X sc NC own fn j).env))(hi:PI X tg iter wi)(hg:∀j,PG (cxL X sc NC own fn j) tg g)(ht:∀j,PTs (cxL X sc NC own fn j) ifs ti)(hm:∀j D,PEm (cxL X sc NC own fn j) (em D (cxL X sc NC own fn j).env) (tm D))
  (hs:∀x,foldedSetIterable iter X.env x=pure x:=by intro _;rfl):PE X (.ListComp elt (⟨tg,iter,ifs,0⟩ :: rest) sc pos) (ya5 slots wi g ti (.lst []) tm):=by
 intro π s σ H Q I h;rw[eval_ListComp];refine CB (use:=AB) rfl hs (zm (O.cells I.ok)) O.kind O.names (thn (hi π s σ H _ I h) λv s1 h1=>thn h1 λitv s2 h2=>?_);let⟨it,fp,tn,J,H2,rfl,I2,T,st2,f2,q2⟩:=h2;refine zaL (u0:=.lst []) (ob:={cls:=.type "list",dict:=AB,data:=.seq ([]:List AF).toArray}) hc O C hg ht hm I2 (λq=>Aw q) ⟨BX _,[],_,.nil,A7 _ rfl⟩ rfl T st2 f2 q2 λD C s' H' q' ⟨o,m,ho,hn,_⟩ _ out=>⟨m,hn,λh2 hb=>⟨.ref D,H',out h2 hb,rfl,q'⟩⟩
def zft{kx vx:AM}{rest:List CC}{pos:Bc}(hc:X.calm=AC)(O:ybe X sc NC slots own fn)(C:∀j D,ybc X.A (.DictComp kx vx (⟨tg,iter,ifs,0⟩ :: rest) sc pos) 0 tg iter ifs (.ref D) (cxL X sc NC own fn j).env (em D (cxL X sc NC own fn j).env))(hi:PI X tg iter wi)(hg:∀j,PG (cxL X sc NC own fn j) tg g)(ht:∀j,PTs (cxL X sc NC own fn j) ifs ti)(hm:∀j D,PEm (cxL X sc NC own fn j) (em D (cxL X sc NC own fn j).env) (tm D))
  (hs:∀x,foldedSetIterable iter X.env x=pure x:=by intro _;rfl):PE X (.DictComp kx vx (⟨tg,iter,ifs,0⟩ :: rest) sc pos) (ya5 slots wi g ti (.dT []) tm):=by
 intro π s σ H Q I h;rw[arm_eval_DictComp];refine CB (use:=AB) rfl hs (zm (O.cells I.ok)) O.kind O.names (thn (hi π s σ H _ I h) λv s1 h1=>thn h1 λitv s2 h2=>?_);let⟨it,fp,tn,J,H2,rfl,I2,T,st2,f2,q2⟩:=h2;refine zaL (u0:=.dT []) (ob:={cls:=.type "dict",data:=.dict #[]}) hc O C hg ht hm I2 (λq=>Aw q) (zfH s2.heap I2.big) rfl T st2 f2 q2 λD C s' H' q' ⟨o,m,ho,hn,_⟩ _ out=>⟨m,hn,λh2 hb=>⟨.ref D,H',out h2 hb,rfl,q'⟩⟩
end
def zbz{A:A8}{elt tg iter tg2 iter2:AM}{ifs ifs2:List AM}{rest:List CC}{sc:Ao}{pos:Bc}{acc:AF}{env:Env}:ybc A (.ListComp elt (⟨tg,iter,ifs,0⟩ :: ⟨tg2,iter2,ifs2,0⟩ :: rest) sc pos) 0 tg iter ifs acc env (nextM iter2 (.ListComp elt (⟨tg,iter,ifs,0⟩ :: ⟨tg2,iter2,ifs2,0⟩ :: rest) sc pos) 1 acc env):=
 ⟨λit=>(show _=ybI _ _ _ _ _ _ _ _ (nextK _ _ _ _ _)from rfl).trans (zaO ..),rfl,λ_ _ it=>rfl,λ_ _ it=>rfl,λit=>rfl,λit=>rfl,λit=>rfl⟩
def zdZ{A:A8}{elt tg iter tg2 iter2:AM}{ifs ifs2:List AM}{c0:CC}{rest:List CC}{sc:Ao}{pos:Bc}{acc:AF}{env:Env}:ybc A (.ListComp elt (c0 :: ⟨tg,iter,ifs,0⟩ :: ⟨tg2,iter2,ifs2,0⟩ :: rest) sc pos) 1 tg iter ifs acc env (nextM iter2 (.ListComp elt (c0 :: ⟨tg,iter,ifs,0⟩ :: ⟨tg2,iter2,ifs2,0⟩ :: rest) sc pos) 2 acc env):=
 ⟨λit=>(show _=ybI _ _ _ _ _ _ _ _ (nextK _ _ _ _ _)from rfl).trans (zaO ..),rfl,λ_ _ it=>rfl,λ_ _ it=>rfl,λit=>rfl,λit=>rfl,λit=>rfl⟩
def zdD{A:A8}{elt tg iter:AM}{ifs:List AM}{c0:CC}{sc:Ao}{pos:Bc}{D:AG}{env:Env}:ybc A (.ListComp elt [c0,⟨tg,iter,ifs,0⟩] sc pos) 1 tg iter ifs (.ref D) env (do let _ <-call (.builtin "list.append") [.ref D,<-eval elt env]):=
 ⟨λit=>rfl,rfl,λ_ _ it=>rfl,λ_ _ it=>rfl,λit=>rfl,λit=>rfl,λit=>rfl⟩
def zeo{A:A8}{elt tg iter:AM}{ifs:List AM}{c0 c1:CC}{sc:Ao}{pos:Bc}{D:AG}{env:Env}:ybc A (.ListComp elt [c0,c1,⟨tg,iter,ifs,0⟩] sc pos) 2 tg iter ifs (.ref D) env (do let _ <-call (.builtin "list.append") [.ref D,<-eval elt env]):=
 ⟨λit=>rfl,rfl,λ_ _ it=>rfl,λ_ _ it=>rfl,λit=>rfl,λit=>rfl,λit=>rfl⟩
def zfn{A:A8}{k v tg iter:AM}{ifs:List AM}{sc:Ao}{pos:Bc}{D:AG}{env:Env}:ybc A (.DictComp k v [⟨tg,iter,ifs,0⟩] sc pos) 0 tg iter ifs (.ref D) env (do
    let kv <-eval k env
    let vv <-holding [kv] (eval v env)
    standAt {k.pos with endLine:=v.pos.endLine,endCol:=v.pos.endCol}
    holding [kv,vv] (dictSet D kv vv)):=
 ⟨λit=>rfl,rfl,λ_ _ it=>rfl,λ_ _ it=>rfl,λit=>rfl,λit=>rfl,λit=>rfl⟩
end L2
namespace L2
open PySem PySem.Spec PyProof.Rows IC
section
variable {S:Se}{X Y:Cx}{K:AD}{cl:Nat->AG}{σ:St}{B:AG->Prop}{φ φ' φ1:Ph}{H H' H1:Hp}{st:SO}{ρ:IC.Env}{D:AG}{elt tg iter l:AM}{ca ce m:Ce}{ci:Cit}{ct:Tg}{Q':St->Hp->Prop}
theorem Step.putD{u w:HO}(s:Step φ (L2.upd H D u) φ' H')(n:AA D∉φ'):Step φ (L2.upd H D w) φ' (L2.upd H' D w):=by
 refine⟨λb o nb e=>?_,s.len,s.pre,λb hb=>?_⟩
 .by_cases z:b=D
  .subst z;rw[zd]at e ⊢;exact e
  .rw[za z]at e ⊢;exact s.keep b o nb (by rw[za z];exact e)
 .have z:b≠D:=λz=>n (z ▸ hb);rcases s.new b hb with q|q
  .exact .inl q
  .rw[za z]at q;exact .inr (by rw[za z];exact q)
theorem Step.withD{u w:HO}(hD:H D=AA u)(hD':H' D=AA u)(s:Step φ H φ' H')(n:AA D∉φ'):Step φ (L2.upd H D w) φ' (L2.upd H' D w):=by
 have s0:Step φ (L2.upd H D u) φ' H':=⟨λb o nb e=>by
  by_cases z:b=D
  .subst z;rw[zd]at e;rw[hD'];exact e
  .rw[za z]at e;exact s.keep b o nb e,s.len,s.pre,λb hb=>by
  rcases s.new b hb with z|z
  .exact .inl z
  .exact .inr (by rw[za (λw=>by subst w;rw[hD]at z;cases z)];exact z)⟩
 exact s0.putD n
theorem Step.ext(k:∀b o,H b=AA o->H' b=AA o):Step φ H φ H':=⟨λb o _ e=>k b o e,AR _,λ_ _ _ e=>e,λ_ h=>.inl h⟩
def zhP{u:HO}(k:∀b o,H b=AA o->H' b=AA o):∀b o,L2.upd H D u b=AA o->L2.upd H' D u b=AA o:=λb o e=>by
 by_cases z:b=D
 .subst z;rw[zd]at e ⊢;exact e
 .rw[za z]at e ⊢;exact k b o e
theorem ybE.skip{a:AG}{xs:List V}{u:HO}(hB:B D)(r:ybE B φ H a xs):ybE B φ (L2.upd H D u) a xs:=⟨by rw[za (show a≠D from λz=>r.2.1 (z ▸ hB))];exact r.1,r.2⟩
theorem yp.untgtN{ρ0 ρ1:IC.Env}{v:PV}(hf:yaf ct ρ0=AC)(hb:yo ct v ρ0=AA ρ1)(re:yp K cl B φ H ρ1 σ):yp K cl B φ H ρ0 σ:=by
 have no:∀i:Nat,yc3 ρ0[i]?=AC->ρ0[i]?=AA none:=λi h=>by
  unfold yc3 at h;split at h
  .rename_i e;exact e
  .cases h
 refine yp.untgt (sl:=ρ0.map λo=>o.map λ_=>0) ?_ (λi e=>?_) hb re
 .cases ct with
  |n i=>
   have hf:=no i hf;erw[yt,Ax,hf,decide_eq_true_eq];rfl
  |t l=>
   erw[yaf,A4]at hf;erw[yt,A4,decide_eq_true_eq,Ax];exact λi hi=>by rw[no i (hf i hi)];rfl
 .rw[Ax]at e
  cases q:ρ0[i]? with
  |none=>rw[q]at e;cases e
  |some o=>
   rw[q]at e
   cases o with
   |none=>rfl
   |some v=>cases e
def zbF{sl:List (Option Nat)}(hf:yt ct sl=AC):yaf ct (sl.map λo=>o.bind λj=>(ρ[j]?).join)=true:=by
 cases ct with
 |n i=>
  erw[yt,decide_eq_true_eq]at hf;erw[yaf,zaF i hf,yc3]
 |t l=>
  erw[yt,A4,decide_eq_true_eq]at hf;erw[yaf,A4];exact λi hi=>by rw[zaF i (hf i hi)];rfl
def tID(S:Se)(X:Cx)(c:Cit)(D:AG):TI:=λσ H R=>∃B φ st ρ,B D/\yh X.K S.cl B φ H st/\yp X.K S.cl B φ H ρ σ/\Run S X σ B φ H (λφ H xs J=>∀u,Drw S X B φ (L2.upd H D u) xs J) (evi S.call ρ st c) R
def zh6(hl:PE X l (tE S X ca)):PI X tg l (tID S X (.seq ca) D):=
 (zd7 hl).imp λσ H R ⟨B,φ,st,ρ,hB,rs,re,h⟩=>by
  erw[evi]at h;refine tE.bind rs re h λx H1 v st1 φ1 s1 rs1 re1 rv h1=>?_
  cases v with
  |tp k vs=>
   erw[yc]at rv;let⟨y,xs,rfl,rt,l⟩:=rv;exact⟨y,rfl,.inr ⟨⟨xs,rt.sq⟩,h1.ok rs1 λu=>zb1 (rt.skip hB) (l.skip hB)⟩⟩
  |lst vs=>
   erw[yc]at rv;let⟨y,xs,rfl,rt,l⟩:=rv;exact⟨y,rfl,.inl ⟨⟨xs,rt.sq⟩,h1.ok rs1 λu=>zb7 (rt.skip hB) (l.skip hB)⟩⟩
  |_=>exact h1.elim
def zdg{a:AM}{p pos:Bc}(hg:Gl X "range")(hm:X.mg "range"=AB)(ha:PE X a (tE S X ca))(hs:starEach [a] X.env=[(AE,eval a X.env)]:=by rfl):PI X tg (.Call (.Name "range" p) [a] [] pos) (tID S X (.range1 ca) D):=
 (zbo hg hm (zB ha zkP hs) hs).imp λσ H R ⟨B,φ,st,ρ,hB,rs,re,h⟩=>by
  erw[evi]at h;refine tE.bind rs re h λx H1 v st1 φ1 s1 rs1 re1 rv h1=>?_
  cases v with
  |int j=>
   erw[ybP]at h1;split at h1
   .simp only[yc]at rv;subst rv;exact⟨j,rfl,by lia,by lia,h1.ok rs1 λu=>zbM⟩
   .exact h1.elim
  |_=>exact h1.elim
def tM0(S:Se)(K:AD)(m:Ce)(D:AG):TM:=λσ H Q=>∃B φ st ρ ys0 vs st5,B D/\yh K S.cl B φ H st/\yp K S.cl B φ H ρ σ/\H D=AA (.lst ys0)/\emR (ev S.call ρ st m)=.ok vs st5/\ys0.length+vs.length<=1000000 /\
 ∀σ' H' φ' ys,H' D=AA (.lst (ys0++ys))->Step φ (L2.upd H D (.lst (ys0++ys))) φ' H'->yh K S.cl B φ' H' st5->ye K S.cl B φ' H' vs ys->yp K S.cl B φ' H' ρ σ'->Q σ' H'
def zgy{r:R PV}{vs:List PV}{st5:SO}(h:emR r=.ok vs st5):r=.ok (.tp AE vs) st5:=by
 unfold emR at h;split at h
 .cases h;rfl
 .cases h
def zei(he:PE Y elt (tE0 S K ce)):PEm Y (do let _ <-call (.builtin "list.append") [.ref D,<-eval elt Y.env]) (tM0 S K (.tup (.cons ce .nil)) D):=by
 intro π s σ H Q I ⟨B,φ,st,ρ,ys0,vs,st5,hB,rs,re,hD,e,hz,q⟩;refine zhB he π s σ H Q I ⟨B,φ,st,ρ,rs,re,?_⟩;have e:=zgy e;erw[ev,evs]at e;let⟨ws,st6,e1,e2⟩:=zg e;let⟨v,st7,e3,e4⟩:=zg e1
 cases e4
 cases e2
 rw[e3];intro y H6 φ6 s6 rs6 ry;have nD:AA D∉φ:=λz=>rs.nb D z hB;have h6:H6 D=AA (.lst ys0):=s6.keep D _ nD hD;refine⟨ys0,h6,De (by simp at hz;lia) zkU,q σ _ φ6 [y] zd ?_ (rs6.skip hB) ?_ ((re.step s6).skip hB)⟩
 .exact s6.withD hD h6 λz=>rs6.nb D z hB
 .have:ye K S.cl B φ6 H6 [v] [y]:=by erw[ye];exact⟨y,[],rfl,ry,rfl⟩
  exact this.skip hB
def yeI(S:Se)(K:AD)(B:AG->Prop)(D:AG)(ys0:List V)(φ1:Ph)(H1:Hp)(ρ0:IC.Env)(one:PV->SO->R (List PV))(zs:List PV)(st5:SO)(xs:List PV)(σc:St)(H2:Hp):Prop:=
 ∃φ2 st2 vs rest ys,H2 D=AA (.lst (ys0++ys))/\Step φ1 (L2.upd H1 D (.lst (ys0++ys))) φ2 H2/\yh K S.cl B φ2 H2 st2/\yp K S.cl B φ2 H2 ρ0 σc/\ye K S.cl B φ2 H2 vs ys/\yae one xs st2=.ok rest st5/\vs++rest=zs
def zal{J:It}{xs zs:List PV}{st1 st5:SO}{ys0:List V}{Q:St->Hp->Prop}(hB:B D)(rs1:yh X.K S.cl B φ H st1)(re1:yp X.K S.cl B φ H ρ σ)(hD:H D=AA (.lst ys0))(dr:∀u,Drw S X B φ (L2.upd H D u) xs J)(hn:yaf ct ρ=AC)
  (e:yae (ybj S.call ρ ct m) xs st1=.ok zs st5) (hz:ys0.length+zs.length<=1000000)
  (fin:∀σ' H' φ' ys,H' D=AA (.lst (ys0++ys))->Step φ (L2.upd H D (.lst (ys0++ys))) φ' H'->yh X.K S.cl B φ' H' st5->ye X.K S.cl B φ' H' zs ys->yp X.K S.cl B φ' H' ρ σ'->Q σ' H'):
  ∃W,(∃m,W 0 m σ H)/\ybA J (tG0 S X.K ct) yb7 (tM0 S X.K m D) W Q:=by
 have eq0:L2.upd H D (.lst (ys0++[]))=H:=by
  funext b
  by_cases z:b=D
  .subst z;rw[zd,hD,BJ]
  .rw[za z]
 refine⟨λi m' σc H2=>i+m'=xs.length/\yeI S X.K B D ys0 φ H ρ (ybj S.call ρ ct m) zs st5 (xs.drop i) σc H2,
  ⟨xs.length,by lia,φ,st1,[],zs,[],by rw[BJ];exact hD,by rw[eq0];exact .rfl,rs1,re1,by erw[ye],by simpa using e,rfl⟩,?_⟩
 rintro i m' σc H2 ⟨hm,φ2,st2,vs,rest,ys,hD2,s2,rs2,re2,l2,ec,ez⟩
 by_cases hi:i<xs.length
 .refine .inr ⟨(dr _).go i φ2 H2 s2 hi,λσ' H'=>yeI S X.K B D ys0 φ H ρ (ybj S.call ρ ct m) zs st5 (xs.drop (i+1)) σ' H',λσ' H' q=>⟨m'-1,by lia,by lia,q⟩,λx H3 hy=>?_⟩;let⟨v,hv,rv,kk⟩:=(dr _).yld i φ2 H2 st2 x H3 B (λy z=>.inl z) s2 rs2 hi hy;let⟨_,ev'⟩:=Ad.1 hv;rw[BB hi,ev',yae]at ec;let⟨ws,st3,e1,ec⟩:=zg ec;let⟨rest',st4,e2,ec⟩:=zg ec
  cases ec
  unfold ybj at e1
  cases eb:yo ct v ρ with
  |none=>rw[eb]at e1;cases e1
  |some ρ1=>
   rw[eb]at e1;have s3:Step φ2 H2 φ2 H3:=.ext kk;refine⟨B,φ2,st2,ρ,v,ρ1,rs2.same kk,re2.step s3,rv,eb,λσ4 re4=>?_⟩;dsimp only[yb7];rw[if_pos rfl];have hl2:=l2.length;have hzl:=congrArg Bv ez;erw[Ap]at hzl;refine⟨B,φ2,st2,ρ1,ys0++ys,ws,st3,hB,rs2.same kk,re4,kk D _ hD2,e1,by rw[Ap];lia,λσ5 H5 φ5 ys5 h5 s5 rs5 l5 re5=>?_⟩;have nD5:AA D∉φ5:=λz=>rs5.nb D z hB;have nD2:AA D∉φ2:=λz=>rs2.nb D z hB;rw[DA]at h5 s5;have s25:Step φ2 (L2.upd H2 D (.lst (ys0++(ys++ys5)))) φ5 H5:=(Step.ext (zhP kk)).trans s5;refine⟨φ5,st3,vs++ws,rest',ys++ys5,h5,(s2.putD nD2).trans s25,rs5,yp.untgtN hn eb re5,ye.append ((l2.skip hB).step s25) l5,e2,by rw[DA];exact ez⟩
 .have ei:i=xs.length:=by lia
  subst ei;rw[CK]at ec
  cases ec
  rw[BJ]at ez;subst ez;exact .inl ⟨(dr _).stop φ2 H2 s2,fin σc H2 φ2 ys hD2 s2 rs2 l2 re2⟩
def zhK(h:tM0 S Y.K (.emq ct ci m) D σ H Q'):ybv (tID S Y ci D) (tG0 S Y.K ct) yb7 (tM0 S Y.K m D) σ H Q':=by
 let⟨B,φ,st,ρ,ys0,vs,st5,hB,rs,re,hD,e,hz,q⟩:=h;have e:=zgy e;rw[ve53]at e;let⟨xs,st1,e1,e2⟩:=zg e;split at e2
 case isFalse=>cases e2
 rename_i hn;refine⟨B,φ,st,ρ,hB,rs,re,?_⟩;rw[e1];intro J H1 φ1 s1 rs1 dr;have e3:yae (ybj S.call ρ ct m) xs st1=.ok vs st5:=by
  unfold tupR at e2;split at e2
  .rename_i e4;cases e2;exact e4
  .cases e2
 have nD:AA D∉φ:=λz=>rs.nb D z hB;have nD1:AA D∉φ1:=λz=>rs1.nb D z hB;have hD1:H1 D=AA (.lst ys0):=s1.keep D _ nD hD;exact zal hB rs1 (re.step s1) hD1 dr hn e3 hz λσ' H' φ' ys h5 s5 rs5 l5 re5=>q σ' H' φ' ys h5 ((s1.withD hD hD1 nD1).trans s5) rs5 l5 re5
def zcc{e:AM}{d:Nat}{em:Fi Unit}(hx:Y.xe=No)(hc:Y.calm=AC)(C:ybc Y.A e d tg iter [] (.ref D) Y.env em)(hi:PI Y tg iter (tID S Y ci D))(hg:PG Y tg (tG0 S Y.K ct))(hm:PEm Y em (tM0 S Y.K m D))
  (hs:∀x,foldedSetIterable iter Y.env x=pure x:=by intro _;rfl):PEm Y (nextM iter e d (.ref D) Y.env) (tM0 S Y.K (.emq ct ci m) D):=λπ s σ H Q I h=>zfJ hx hc C hi hg zaK hm hs π s σ H Q I (zhK h)
def zaZ{sl:List (Option Nat)}(hf:yt ct sl=AC){H:Hp}{Q:VK}(h:tE S X (.cmq sl ct ci m) σ H Q):ya5 sl (tI S X ci) (tG0 S X.K ct) yb7 (.lst []) (λD=>tM0 S X.K m D) σ H Q:=by
 let⟨B,φ,st,ρ,rs,re,h⟩:=h;rw[ve52]at h;refine⟨B,φ,st,ρ,rs,re,(Run.bind h).mono λJ H1 kq=>?_⟩;let⟨xs,st1,φ1,s1,rs1,dr,h1⟩:=kq;refine λD hD=>?_;let⟨zs,st5,e,hz,h1⟩:=zcI h1;have nB:¬B D:=rs1.nB hD;refine zal (B:=Bx B D) (ys0:=[]) (.inr rfl) (rs1.more hD) ((yp.inn (re.step s1)).more hD) zd (λu=>?_) (zbF hf) e (by simpa using hz) λσ' H' φ' ys h5 s5 rs5 l5 re5=>?_
 .rw[L2.upd_upd];exact⟨λφ H s=>dr.stop φ H ((Step.upd hD).trans s),λi φ H s hi=>dr.go i φ H ((Step.upd hD).trans s) hi,λi φ H st x H' B' hB s rs hi q=>dr.yld i φ H st x H' B' (λy z=>(hB y z).elim (λw=>w.elim .inl λw=>.inr (w ▸ hD)) λw=>.inr (by
   by_cases z:y=D
   .subst z;exact hD
   .rw[za z]at w;exact w)) ((Step.upd hD).trans s) rs hi q⟩
 .rw[L2.upd_upd]at s5;refine h1 (.ref D) H' φ' ((Step.upd hD).trans s5) rs5.less ?_;erw[yc];exact⟨D,ys,rfl,⟨h5,nB,λz=>rs5.nb D z (.inr rfl)⟩,l5.less⟩
theorem yh.thawO{o:Ob}(rs:yh K cl (Bx B D) φ H st)(nB:¬B D)(nD:AA D∉φ)(l:ybD K cl B (φ++[AA D]) H o D):yh K cl B (φ++[AA D]) H (st++[o]):=by
 have hl:φ.length=st.length:=rs.len;have spl:∀{n:Nat} {a:AG},(φ++[AA D])[n]?=AA (AA a)->(n<φ.length/\φ[n]?=AA (AA a)) \/ (n=φ.length/\a=D):=λ{n a} e=>by
  by_cases hn:n<φ.length
  .rw[AQ hn]at e;exact .inl ⟨hn,e⟩
  .rw[A1 ∅]at e;rcases (by lia:n-φ.length=0 \/ 0<n-φ.length)with q|q
   .rw[q]at e;simp at e;exact .inr ⟨by lia,e.symm⟩
   .rw[Aj (by simp;lia)]at e;cases e
 have ne:∀{n:Nat} {a:AG},φ[n]?=AA (AA a)->a≠D:=λe z=>nD (z ▸ A5 e);refine⟨by simp[hl],λm n a e1 e2=>?_,λn a e=>?_,λn o' e ho=>?_,λa h=>?_,λa h=>rs.dom a (.inl h),λa h=>rs.nt a (.inl h)⟩
 .rcases spl e1 with⟨h1,e1⟩|⟨h1,q1⟩<;>rcases spl e2 with⟨h2,e2⟩|⟨h2,q2⟩
  .exact rs.inj m n a e1 e2
  .exact absurd q2 (ne e1)
  .exact absurd q1 (ne e2)
  .lia
 .rcases spl e with⟨h1,e1⟩|⟨h1,q1⟩
  .let⟨o,q,r⟩:=rs.obj n a e1;refine⟨o,by rw[AQ ∅];exact q,?_⟩
   cases o with
   |lst vs=>let⟨xs,hx,l⟩:=r;exact⟨xs,hx,l.thaw⟩
   |dct t kvs=>cases t<;>(let⟨xs,hx,l⟩:=r;exact⟨xs,hx,l.thaw⟩)
   |ins c fs=>let⟨ks,hx,l⟩:=r;exact⟨ks,hx,l.thaw⟩
   |dead=>exact r.elim
  .subst q1;exact⟨o,by rw[h1,hl,A1 (AR _)];simp,l⟩
 .by_cases hn:n<st.length
  .rw[AQ hn]at e;let⟨a,q⟩:=rs.liv n o' e ho;exact⟨a,by rw[AQ ∅];exact q⟩
  .have hn2:n=st.length:=by
    rcases (by lia:n=st.length \/ st.length<n)with q|q
    .exact q
    .rw[Aj (by simp;lia)]at e;cases e
   exact⟨D,by rw[hn2,<-hl,A1 (AR _)];simp⟩
 .rcases BE.1 h with h|h
  .exact λz=>rs.nb a h (.inl z)
  .simp only[A6,Bj,or_false,Bb]at h;subst h;exact nB
def zhz(k v:PV)(kvs:List (PV×PV)):(IC.put k v kvs).length<=kvs.length+1:=by
 unfold IC.put;split<;>simp
def tD0(S:Se)(K:AD)(ck cv:Ce)(D:AG):TM:=λσ H Q=>tE0 S K ck σ H λx H1=>tE0 S K cv σ H1 λv H2=>∃b k kvs,x=.ref b/\H2 D=AA (.dT kvs)/\KyR H2 k b/\kvs.length<sizeLine/\Q σ (L2.upd H2 D (.dT (putK kvs k v)))
def zke{kx vx:AM}{ck cv:Ce}(hu:Y.A.units+16<cLine)(hk:PE Y kx (tE0 S K ck))(hv:PE Y vx (tE0 S K cv)):PEm Y (do
    let kv <-eval kx Y.env
    let vv <-holding [kv] (eval vx Y.env)
    standAt {kx.pos with endLine:=vx.pos.endLine,endCol:=vx.pos.endCol}
    holding [kv,vv] (dictSet D kv vv)) (tD0 S K ck cv D):=zhE hu hk hv
def zf9{Rel:Ph->Hp->PV->V->Prop}{r:R (List (PV×PV))}{Q:VK}(h:Run S X σ B φ H Rel (dctR r) Q):∃kvs st5,r=.ok kvs st5/\∀x H' φ',Step φ H φ' H'->yh X.K S.cl B φ' H' (st5++[.dct AC kvs])->Rel φ' H' (.loc st5.length) x->Q x H':=by
 cases r with
 |ok kvs st5=>exact⟨kvs,st5,rfl,h⟩
 |exc k s=>exact h.elim
 |bad=>exact h.elim
def zdl{ck cv:Ce}{sl:List (Option Nat)}(hf:yt ct sl=AC){H:Hp}{Q:VK}(h:tE S X (.dcm sl ct ci ck cv) σ H Q):ya5 sl (tI S X ci) (tG0 S X.K ct) yb7 (.dT []) (λD=>tD0 S X.K ck cv D) σ H Q:=by
 let⟨B,φ,st,ρ,rs,re,h⟩:=h;rw[ve54]at h;refine⟨B,φ,st,ρ,rs,re,(Run.bind h).mono λJ H1 kq=>?_⟩;let⟨xs,st1,φ1,s1,rs1,dr,h1⟩:=kq;refine λD hD=>?_;split at h1
 case isFalse=>exact h1.elim
 rename_i hxs;let⟨kvs,st5,e,h2⟩:=zf9 h1
 clear h1 h
 have nB:¬B D:=rs1.nB hD;have nD:AA D∉φ1:=λz=>by
  let⟨w,e⟩:=rs1.there z;rw[hD]at e;cases e
 have r0:=(yp.inn (sl:=sl) (re.step s1)).more (u:=.dT []) hD;have h0:=zbF (ρ:=ρ) hf;generalize (sl.map λo=>o.bind λj=>(ρ[j]?).join)=ρ0 at *;refine⟨λi m' σc H2=>i+m'=xs.length/\∃φ2 st2 acc ks,Step φ1 H1 φ2 H2/\H2 D=AA (.dT ks)/\AA D∉φ2/\yh X.K S.cl (Bx B D) φ2 H2 st2/\yp X.K S.cl (Bx B D) φ2 H2 ρ0 σc/\DT X.K S.cl (Bx B D) φ2 H2 acc ks/\acc.length<=i/\yaw (yb1 S.call ρ0 ct ck cv) (xs.drop i) acc st2=.ok kvs st5,
  ⟨xs.length,by lia,φ1,st1,[],[],.upd hD,zd,nD,rs1.more hD,r0,rfl,AR _,by simpa using e⟩,?_⟩
 rintro i m' σc H2 ⟨hm,φ2,st2,acc,ks,s2,hD2,nD2,rs2,re2,l2,la,ec⟩
 by_cases hi:i<xs.length
 .refine .inr ⟨dr.go i φ2 H2 s2 hi,λσ' H'=>∃φ2 st2 acc ks,Step φ1 H1 φ2 H'/\H' D=AA (.dT ks)/\AA D∉φ2/\yh X.K S.cl (Bx B D) φ2 H' st2/\yp X.K S.cl (Bx B D) φ2 H' ρ0 σ'/\DT X.K S.cl (Bx B D) φ2 H' acc ks/\acc.length<=i+1/\yaw (yb1 S.call ρ0 ct ck cv) (xs.drop (i+1)) acc st2=.ok kvs st5,
   λσ' H' q=>⟨m'-1,by lia,by lia,q⟩,λx H3 hy=>?_⟩
  let⟨v,hv,rv,kk⟩:=dr.yld i φ2 H2 st2 x H3 (Bx B D) (λy z=>z.elim .inl λq=>.inr (q ▸ hD)) s2 rs2 hi hy;have s3:Step φ2 H2 φ2 H3:=.ext kk;let⟨_,ev'⟩:=Ad.1 hv;rw[BB hi,ev',yaw]at ec;let⟨p,st3,e1,ec⟩:=zg ec;split at ec
  case isFalse=>cases ec
  rename_i hk;unfold yb1 at e1
  cases eb:yo ct v ρ0 with
  |none=>rw[eb]at e1;cases e1
  |some ρ1=>
   rw[eb]at e1;let⟨a,st6,e2,e1⟩:=zg e1;let⟨b,st7,e3,e1⟩:=zg e1
   cases e1
   refine⟨Bx B D,φ2,st2,ρ0,v,ρ1,rs2.same kk,re2.step s3,rv,eb,λσ4 re4=>?_⟩;dsimp only[yb7];rw[if_pos rfl];refine⟨Bx B D,φ2,st2,ρ1,rs2.same kk,re4,?_⟩;rw[e2];intro x5 H5 φ5 s5 rs5 r5;refine⟨Bx B D,φ5,st6,ρ1,rs5,re4.step s5,?_⟩;rw[e3];intro x6 H6 φ6 s6 rs6 r6;let⟨q,ea,hq⟩:=zdQ hk;have ea:a=.tup (yao q):=ea;subst ea;let⟨y,rfl,ky⟩:=zek hq (r5.step s6);have s36:Step φ2 H2 φ6 H6:=s3.trans (s5.trans s6);let⟨n6,h6⟩:=stays s36 nD2 hD2;have hBD:Bx B D D:=.inr rfl;have s16:=s2.trans s36;have lk:=l2.len;refine⟨y,q,ks,rfl,h6,ky,De ∅ zkU,φ6,st3,_,_,⟨λb o n z=>by rw[za (zc z hD)];exact s16.keep b o n z,s16.len,s16.pre,s16.new⟩,zd,n6,rs6.skip hBD,(yp.untgtN h0 eb (re4.step (s5.trans s6))).skip hBD,((l2.step s36).put r6).skip hBD,BC (zhz _ _ _) ∅,ec⟩
 .have ei:i=xs.length:=by lia
  subst ei;rw[CK]at ec
  cases ec
  refine .inl ⟨dr.stop φ2 H2 s2,h2 (.ref D) H2 (φ2++[AA D]) ⟨s2.keep,by simp;have:=s2.len;lia,λn a hn z=>?_,λb hb=>?_⟩ (rs2.thawO nB nD2 ⟨ks,hD2,l2.thaw⟩) (.loc_new rs2.less)⟩
  .rw[AQ (A0 hn s2.len)]at z;exact s2.pre n a hn z
  .rcases BE.1 hb with z|z
   .exact s2.new b z
   .simp only[A6,Bj,or_false,Bb]at z;exact .inr (z ▸ hD)
end
section
variable {X:Cx}
def zdz{x:V}:∀{xs:List V} {us:List AF},Vals xs us->xs.all yac=AC->us.countP (eqU x)=xs.countP λy=>eqV y x
 |_,_,.nil,_=>rfl
 |y::xs,u::us,.cons r t,f=>by
  rw[Ar,AJ]at f;rw[DJ,DJ,zby r f.1,zdz t f.2]
def ycS:V->List V->Hp->VK->Prop:=λx vs H Q=>∃l xs y,x=.ref l/\vs=[y]/\H l=AA (.lst xs)/\yac y=AC/\xs.all yac=AC/\Q (.int (xs.countP λz=>eqV z y)) H
def zfy:MtM X "list.count" ycS:=by
 intro π s σ H x vs v us Q I rx rv h;let⟨l,xs,y,rfl,rfl,hH,fy,fs,q⟩:=h
 cases rx
 let⟨w,rfl,rw⟩:=vals1 rv;let⟨z,its,n,r,hl,e⟩:=I.lstM hH;refine BW Ep ⟨_,e,rfl⟩ F.entry_list_count (F.args_list_count_2 _ _) (SeqAt.list_countAt l its.toArray n AB #[] w (eqU y)) ⟨e,λu hu=>zab rw fy r fs u (by simpa using hu),?_⟩;refine⟨.int _,H,I.tok _,⟨_,rfl⟩,?_⟩;rw[show its.toArray.toList=its from rfl,zdz r fs];exact q
def ydb:V->List V->Hp->VK->Prop:=λx vs H Q=>∃l xs y j,x=.ref l/\vs=[y]/\H l=AA (.lst xs)/\yac y=AC/\xs.all yac=AC/\(∃z,xs[j]?=AA z/\eqV z y=AC)/\(∀m z,m<j->xs[m]?=AA z->eqV z y=AE)/\Q (.int (j:Nat)) H
def zcN{xs:List V}{us:List AF}(h:Vals xs us):∀{m:Nat} {u:AF},us[m]?=AA u->∃z,xs[m]?=AA z/\RelV z u:=by
 induction h with
 |nil=>intro m u e;simp at e
 |cons r t ih=>
  intro m u e
  cases m with
  |zero=>simp at e;subst e;exact⟨_,rfl,r⟩
  |succ m=>simp at e;let⟨z,e1,e2⟩:=ih e;exact⟨z,by simpa using e1,e2⟩
def zfS:MtM X "list.index" ydb:=by
 intro π s σ H x vs v us Q I rx rv h;let⟨l,xs,y,j,rfl,rfl,hH,fy,fs,⟨z,hz,ez⟩,hno,q⟩:=h
 cases rx
 let⟨w,rfl,rw⟩:=vals1 rv;let⟨hsz,its,n,r,hl,e⟩:=I.lstM hH;have hj:j<its.length:=by
  have:=(Ad.1 hz).1;lia
 have flatAt:∀{m:Nat} {z:V},xs[m]?=AA z->yac z=true:=λ{m z} hm=>A4.1 fs z (A5 hm);have sz:sizeLine<2^63-1:=by rw[BG];decide
 refine BW Es ⟨_,e,rfl⟩ F.entry_list_index (F.args_list_index_2 _ _) (SeqAt.list_indexAt l its.toArray n AB #[] w (eqU y) j (by simpa using hj) ∅ ?_ ?_) ⟨e,λu hu=>zab rw fy r fs u (by simpa using hu),?_⟩
 .let⟨z',e1,r1⟩:=zcN r (m:=j) (u:=its[j]) (by simp[hj]);rw[hz]at e1
  cases e1
  erw[Et];rw[zby r1 (flatAt hz)];exact ez
 .intro m hm hlt;have hm':m<its.length:=by simpa using hm
  let⟨z',e1,r1⟩:=zcN r (m:=m) (u:=its[m]) (by simp[hm']);erw[Et];rw[zby r1 (flatAt e1)];exact hno m z' hlt e1
 .exact⟨.int _,H,I.tok _,⟨_,rfl⟩,q⟩
end
section
variable {S:Se}{X:Cx}{σ:St}{B:AG->Prop}{φ φ1:Ph}{H H1:Hp}{st:SO}{ρ:IC.Env}{p pos p2 apos:Bc}{a b:AM}{ca cb:Ce}{K:AD}{cl:Nat->AG}
def zci{v:PV}{x:V}(r:yc K cl B φ H v x)(h:IC.flat v=AC):∀{vs:List PV} {xs:List V},ye K cl B φ H vs xs->vs.all IC.flat=AC->(xs.countP λy=>eqV y x)=vs.countP λy=>peq y v
 |[],xs,l,_=>by erw[ye]at l;subst l;rfl
 |w::vs,xs,l,f=>by
  erw[ye]at l;let⟨y,ys,rfl,rw,l⟩:=l;rw[Ar,AJ]at f;rw[DJ,DJ,zci r h l f.2,(rw.flat f.1).2 v x h r]
def zb4{v:PV}{x:V}(r:yc K cl B φ H v x)(h:IC.flat v=AC):∀{vs:List PV} {xs:List V} {j:Nat},ye K cl B φ H vs xs->vs.all IC.flat=AC->ybr v vs=AA j->(∃z,xs[j]?=AA z/\eqV z x=AC)/\∀m z,m<j->xs[m]?=AA z->eqV z x=AE
 |[],xs,j,l,_,e=>by cases e
 |w::vs,xs,j,l,f,e=>by
  erw[ye]at l;let⟨y,ys,rfl,rw,l⟩:=l;rw[Ar,AJ]at f;have hq:=(rw.flat f.1).2 v x h r;erw[ybr]at e;split at e
  .rename_i c
   cases e
   exact⟨⟨y,rfl,by rw[hq];exact c⟩,λm z hm=>by lia⟩
  .rename_i c
   cases e1:ybr v vs with
   |none=>rw[e1]at e;cases e
   |some i=>
    rw[e1]at e
    cases e
    let⟨q1,q2⟩:=zb4 r h l f.2 e1;refine⟨by simpa using q1,λm z hm hz=>?_⟩
    cases m with
    |zero=>
     simp at hz;subst hz;rw[hq];simpa using c
    |succ m=>exact q2 m z (Nat.lt_of_succ_lt_succ hm) (by simpa using hz)
def zf7(ha:PE X a (tE S X ca))(hb:PE X b (tE S X cb))(hs:starEach [b] X.env=(AE,eval b X.env)::starEach [] X.env:=by rfl)(hbase:attributeBase a "count" X.env (eval a X.env)=eval a X.env:=by rfl)(hline:(apos.endLine==pos.line)=true:=by rfl)(hany:(backTo pos (starEach [] X.env)).any (·.1)=false:=by rfl)
  (hfew:((backTo pos (starEach [b] X.env)).all (λx=>!x.1)&&(backToKw pos (keywordEach [] X.env)).all (λx=>x.1.isSome)&&decide (([b]:List AM).length+([]:List B4).length+(if ([]:List B4).isEmpty then 0 else 1)<30))=true:=by rfl):
  PE X (.Call (.Attribute a "count" apos) [b] [] pos) (tE S X (.mth .count ca (.cons cb .nil))):=
 (zeE Cq Ep PySem.F.type_list_count zfy ha (zG (S:=S) hb zaz hs) hbase hfew hline hs hany).imp λσ H Q ⟨B,φ,st,ρ,rs,re,h⟩=>by
  erw[ev]at h;refine tE.bind rs re h λx H1 v st1 φ1 s1 rs1 re1 rv h1=>?_;let⟨_,e1,h1⟩:=zay h1;obtain⟨ws,t1⟩:∃ws,yw st1 v=AA ws:=by
   erw[yax]at e1
   cases q:yw st1 v with
   |none=>rw[q]at e1;cases e1
   |some ws=>exact⟨ws,rfl⟩
  let⟨l,xs,rfl,hl,_⟩:=zY rs1 rv t1;refine⟨.inl ⟨rfl,xs,hl⟩,tAs.bind rs1 re1 h1 λys H2 vs st2 φ2 s2 rs2 re2 rvs h2=>?_⟩;have rv2:=rv.step s2;rcases vs with _|⟨w,_|⟨w',t⟩⟩
  .exact h2.elim
  .let⟨y,rfl,rw⟩:=rvs.one;unfold ybJ at h2;erw[yeF]at h2
   cases t2:yw st2 v with
   |none=>rw[t2]at h2;exact h2.elim
   |some zs=>
    rw[t2]at h2;dsimp only at h2;split at h2
    .rename_i c;rw[AJ]at c;let⟨l',xs',e',hl',lr⟩:=zY rs2 rv2 t2
     cases e'
     let⟨q1,_⟩:=zM rw c.1 lr c.2
     cases v with
     |loc n=>
      erw[yw]at t2;split at t2
      .rename_i zs' hz
       cases t2
       let⟨l2,xs2,e2,hn,hx,lr2⟩:=rs2.list rv2 hz
       cases e2
       let⟨q1,_⟩:=zM rw c.1 lr2 c.2;exact⟨l,xs2,y,rfl,rfl,hx,(rw.flat c.1).1,q1,h2.ok rs2 (by erw[yc];rw[zci rw c.1 lr2 c.2])⟩
      .cases t2
     |lst zs'=>
      cases t2
      erw[yc]at rv2;let⟨a',xs2,e2,⟨hx,_,_⟩,lr2⟩:=rv2
      cases e2
      let⟨q1,_⟩:=zM rw c.1 lr2 c.2;exact⟨l,xs2,y,rfl,rfl,hx,(rw.flat c.1).1,q1,h2.ok rs2 (by erw[yc];rw[zci rw c.1 lr2 c.2])⟩
     |_=>cases t2
    .exact h2.elim
  .exact h2.elim
def zfX(ha:PE X a (tE S X ca))(hb:PE X b (tE S X cb))(hs:starEach [b] X.env=(AE,eval b X.env)::starEach [] X.env:=by rfl)(hbase:attributeBase a "index" X.env (eval a X.env)=eval a X.env:=by rfl)(hline:(apos.endLine==pos.line)=true:=by rfl)(hany:(backTo pos (starEach [] X.env)).any (·.1)=false:=by rfl)
  (hfew:((backTo pos (starEach [b] X.env)).all (λx=>!x.1)&&(backToKw pos (keywordEach [] X.env)).all (λx=>x.1.isSome)&&decide (([b]:List AM).length+([]:List B4).length+(if ([]:List B4).isEmpty then 0 else 1)<30))=true:=by rfl):
  PE X (.Call (.Attribute a "index" apos) [b] [] pos) (tE S X (.mth .index ca (.cons cb .nil))):=
 (zeE Cq Es PySem.F.type_list_index zfS ha (zG (S:=S) hb zaz hs) hbase hfew hline hs hany).imp λσ H Q ⟨B,φ,st,ρ,rs,re,h⟩=>by
  erw[ev]at h;refine tE.bind rs re h λx H1 v st1 φ1 s1 rs1 re1 rv h1=>?_;let⟨_,e1,h1⟩:=zay h1;obtain⟨ws,t1⟩:∃ws,yw st1 v=AA ws:=by
   erw[yax]at e1
   cases q:yw st1 v with
   |none=>rw[q]at e1;cases e1
   |some ws=>exact⟨ws,rfl⟩
  let⟨l,xs,rfl,hl,_⟩:=zY rs1 rv t1;refine⟨.inl ⟨rfl,xs,hl⟩,tAs.bind rs1 re1 h1 λys H2 vs st2 φ2 s2 rs2 re2 rvs h2=>?_⟩;have rv2:=rv.step s2;rcases vs with _|⟨w,_|⟨w',t⟩⟩
  .exact h2.elim
  .let⟨y,rfl,rw⟩:=rvs.one;unfold ybJ at h2;erw[yeU]at h2
   cases t2:yw st2 v with
   |none=>rw[t2]at h2;exact h2.elim
   |some zs=>
    rw[t2]at h2;dsimp only at h2;split at h2
    .rename_i c;rw[AJ]at c;split at h2
     .rename_i j hj
      cases v with
      |loc n=>
       erw[yw]at t2;split at t2
       .rename_i zs' hz
        cases t2
        let⟨l2,xs2,e2,hn,hx,lr2⟩:=rs2.list rv2 hz
        cases e2
        let⟨q1,_⟩:=zM rw c.1 lr2 c.2;let⟨q2,q3⟩:=zb4 rw c.1 lr2 c.2 hj;exact⟨l,xs2,y,j,rfl,rfl,hx,(rw.flat c.1).1,q1,q2,q3,h2.ok rs2 (by erw[yc])⟩
       .cases t2
      |lst zs'=>
       cases t2
       erw[yc]at rv2;let⟨a',xs2,e2,⟨hx,_,_⟩,lr2⟩:=rv2
       cases e2
       let⟨q1,_⟩:=zM rw c.1 lr2 c.2;let⟨q2,q3⟩:=zb4 rw c.1 lr2 c.2 hj;exact⟨l,xs2,y,j,rfl,rfl,hx,(rw.flat c.1).1,q1,q2,q3,h2.ok rs2 (by erw[yc])⟩
      |_=>cases t2
     .exact h2.elim
    .exact h2.elim
  .exact h2.elim
end
section
variable {S:Se}{X:Cx}{σ:St}{B:AG->Prop}{φ:Ph}{H:Hp}{st:SO}{p pos p2 px apos:Bc}{a b c d o tg l:AM}{ca cb cc:Ce}{ct:Tg}{ss:List Bd}{cs:Css}
def zeK{D:Ends}{J:It}{H1:Hp}{xs:List PV}{st1:SO}{φ1:Ph}{ρ:IC.Env}(rs1:yh X.K S.cl B φ1 H1 st1)(re1:yp X.K S.cl B φ1 H1 ρ σ)(dr:Drw S X B φ1 H1 xs J)(h1:yP S X B φ1 H1 (forL ct (λρ2 st2=>exs S.call ρ2 st2 cs) xs ρ st1) D):
  ∃W:Nat->Nat->St->Hp->Prop,(∃m,W 0 m σ H1)/\∀i m σ H,W i m σ H ->
   (J.stop i H/\D.nx σ H) \/ (J.go i H/\∃N:St->Hp->Prop,(∀σ' H',N σ' H'->∃m',m' < m/\W (i+1) m' σ' H')/\∀x H',J.yld i H x H'->tG S X ct x σ H' λσ2 H2=>tSs S X cs {D with nx:=N,ct:=N,bk:=D.nx} σ2 H2):=by
 refine⟨λi m σ H=>∃φ st ρ,i+m=xs.length/\Step φ1 H1 φ H/\yh X.K S.cl B φ H st/\yp X.K S.cl B φ H ρ σ/\yP S X B φ H (forL ct (λρ2 st2=>exs S.call ρ2 st2 cs) (xs.drop i) ρ st) D,
  ⟨xs.length,φ1,st1,ρ,by lia,.rfl,rs1,re1,by simpa using h1⟩,?_⟩
 rintro i m σ2 H2 ⟨φ2,st2,ρ2,hm,s2,rs2,re2,h2⟩
 by_cases hi:i<xs.length
 .refine .inr ⟨dr.go i φ2 H2 s2 hi,λσ' H'=>∃φ st ρ,Step φ1 H1 φ H'/\yh X.K S.cl B φ H' st/\yp X.K S.cl B φ H' ρ σ'/\yP S X B φ H' (forL ct (λρ2 st2=>exs S.call ρ2 st2 cs) (xs.drop (i+1)) ρ st) D,
   λσ' H' ⟨φ,st,ρ,s,q⟩=>⟨m-1,by lia,φ,st,ρ,by lia,s,q⟩,λx H3 hy=>?_⟩
  let⟨v,hv,rv,kk⟩:=dr.yld i φ2 H2 st2 x H3 B (λ_ z=>.inl z) s2 rs2 hi hy;have e:xs.drop i=v::xs.drop (i+1):=by
   rw[BB hi];rw[B7 hi]at hv;rw[AU hv]
  have s3:Step φ2 H2 φ2 H3:=⟨λb o _ e=>kk b o e,AR _,λ_ _ _ e=>e,λ_ h=>.inl h⟩;have rs3:yh X.K S.cl B φ2 H3 st2:=rs2.same kk;rw[e,forL]at h2
  cases eb:yo ct v ρ2 with
  |none=>rw[eb]at h2;exact h2.elim
  |some ρ3=>
   rw[eb]at h2;refine⟨B,φ2,st2,ρ2,v,ρ3,rs3,re2.step s3,rv,eb,λσ' re'=>⟨B,φ2,st2,ρ3,rs3,re',?_⟩⟩;have h3:=yP.on s3 h2;dsimp only at h3
   cases ee:exs S.call ρ3 st2 cs with
   |nx ρ4 st4=>
    rw[ee]at h3;exact λσ4 H4 φ4 s4 rs4 re4=>⟨φ4,st4,ρ4,s2.trans (s3.trans s4),rs4,re4,yP.on s4 h3⟩
   |ct ρ4 st4=>
    rw[ee]at h3;exact λσ4 H4 φ4 s4 rs4 re4=>⟨φ4,st4,ρ4,s2.trans (s3.trans s4),rs4,re4,yP.on s4 h3⟩
   |bk ρ4 st4=>rw[ee]at h3;exact h3
   |rt v4 st4=>rw[ee]at h3;exact h3
   |exc k ρ4 st4=>rw[ee]at h3;exact h3
   |bad=>rw[ee]at h3;exact h3
 .have e:i=xs.length:=by lia
  subst e;rw[CK,forL]at h2;exact .inl ⟨dr.stop φ2 H2 s2,h2 σ2 H2 φ2 .rfl rs2 re2⟩
def zge{D:Ends}{n:Nat}{y:AG}{H1:Hp}{st1:SO}{φ1:Ph}{ρ:IC.Env}{f:Nat}(rs1:yh X.K S.cl B φ1 H1 st1)(re1:yp X.K S.cl B φ1 H1 ρ σ)(rv:yc X.K S.cl B φ1 H1 (.loc n) (.ref y))(h1:yP S X B φ1 H1 (ya8 ct (λρ2 st2=>exs S.call ρ2 st2 cs) n f 0 ρ st1) D):
  ∃W:Nat->Nat->St->Hp->Prop,(∃m,W 0 m σ H1)/\∀i m σ H,W i m σ H ->
   ((Itl X.K y).stop i H/\D.nx σ H) \/ ((Itl X.K y).go i H/\∃N:St->Hp->Prop,(∀σ' H',N σ' H'->∃m',m' < m/\W (i+1) m' σ' H')/\∀x H',(Itl X.K y).yld i H x H'->tG S X ct x σ H' λσ2 H2=>tSs S X cs {D with nx:=N,ct:=N,bk:=D.nx} σ2 H2):=by
 refine⟨λi m σ H=>∃φ st ρ,Step φ1 H1 φ H/\yh X.K S.cl B φ H st/\yp X.K S.cl B φ H ρ σ/\yP S X B φ H (ya8 ct (λρ2 st2=>exs S.call ρ2 st2 cs) n m i ρ st) D,
  ⟨f,φ1,st1,ρ,.rfl,rs1,re1,h1⟩,?_⟩
 rintro i m σ2 H2 ⟨φ2,st2,ρ2,s2,rs2,re2,h2⟩
 cases m with
 |zero=>rw[ya8]at h2;exact h2.elim
 |succ m=>
  unfold ya8 at h2
  cases e:st2[n]? with
  |none=>rw[e]at h2;exact h2.elim
  |some ob=>
   rw[e]at h2
   cases ob with
   |lst xs=>
    dsimp only at h2;have rv2:=rv.step s2;have hlo:yw st2 (.loc n)=AA xs:=by erw[yw,e]
    let⟨y',us,ey,hq,l⟩:=zY rs2 rv2 hlo
    cases ey
    have hl:=l.length
    cases ex:xs[i]? with
    |none=>
     rw[ex]at h2;have:xs.length<=i:=by
      rcases E3 i xs.length with z|z
      .rw[B7 z]at ex;cases ex
      .exact z
     exact .inl ⟨⟨us,hq,by lia⟩,h2 σ2 H2 φ2 .rfl rs2 re2⟩
    |some v=>
     rw[ex]at h2;dsimp only at h2;let⟨x,hx,rx⟩:=l.get i ex;refine .inr ⟨⟨us,x,hq,hx⟩,λσ' H'=>∃φ st ρ,Step φ1 H1 φ H'/\yh X.K S.cl B φ H' st/\yp X.K S.cl B φ H' ρ σ'/\yP S X B φ H' (ya8 ct (λρ2 st2=>exs S.call ρ2 st2 cs) n m (i+1) ρ st) D,
      λσ' H' ⟨φ,st,ρ,s,q⟩=>⟨m,EN m,φ,st,ρ,s,q⟩,λx' H3 hy=>?_⟩
     let⟨e3,hy⟩:=hy;subst e3;have:=hy us hq;rw[hx]at this
     cases this
     cases eb:yo ct v ρ2 with
     |none=>rw[eb]at h2;exact h2.elim
     |some ρ3=>
      rw[eb]at h2;refine⟨B,φ2,st2,ρ2,v,ρ3,rs2,re2,rx,eb,λσ' re'=>⟨B,φ2,st2,ρ3,rs2,re',?_⟩⟩;dsimp only at h2
      cases ee:exs S.call ρ3 st2 cs with
      |nx ρ4 st4=>
       rw[ee]at h2;exact λσ4 H4 φ4 s4 rs4 re4=>⟨φ4,st4,ρ4,s2.trans s4,rs4,re4,yP.on s4 h2⟩
      |ct ρ4 st4=>
       rw[ee]at h2;exact λσ4 H4 φ4 s4 rs4 re4=>⟨φ4,st4,ρ4,s2.trans s4,rs4,re4,yP.on s4 h2⟩
      |bk ρ4 st4=>rw[ee]at h2;exact h2
      |rt v4 st4=>rw[ee]at h2;exact h2
      |exc k ρ4 st4=>rw[ee]at h2;exact h2
      |bad=>rw[ee]at h2;exact h2
   |_=>exact h2.elim
def zhu(hp:DY (model X.prog X.w) X.A X.env X.xe)(hc:X.calm=AC)(hi:PE X l (tE S X ca))(hg:PG X tg (tG S X ct))(hb:PSs X ss (tSs S X cs))(hs:∀x,foldedSetIterable l X.env x=pure x:=by intro _;rfl):
  PS X (.For tg l ss [] pos) (tS S X (.forl ct ca cs)):=
 (zgA hp hc (zd7 hi) hg hb hs).imp λD σ H ⟨B,φ,st,ρ,rs,re,h⟩=>by
  erw[ex]at h;refine tE.fl rs re h λx H1 v st1 φ1 s1 rs1 re1 rv h1=>?_
  cases v with
  |tp k vs=>
   erw[yc]at rv;let⟨y,xs,rfl,rt,l⟩:=rv;exact⟨y,rfl,.inr ⟨⟨xs,rt.sq⟩,zeK rs1 re1 (zb1 rt l) h1⟩⟩
  |lst vs=>
   erw[yc]at rv;let⟨y,xs,rfl,rt,l⟩:=rv;exact⟨y,rfl,.inl ⟨⟨xs,rt.sq⟩,zeK rs1 re1 (zb7 rt l) h1⟩⟩
  |loc n=>
   dsimp only at h1;unfold ya8 at h1
   cases e:st1[n]? with
   |none=>rw[e]at h1;exact h1.elim
   |some ob=>
    cases ob with
    |lst zs=>
     have hlo:yw st1 (.loc n)=AA zs:=by erw[yw,e]
     let⟨y,us,rfl,hq,_⟩:=zY rs1 rv hlo;refine⟨y,rfl,.inl ⟨⟨us,hq⟩,zge (f:=100000) rs1 re1 rv ?_⟩⟩;unfold ya8;exact h1
    |_=>rw[e]at h1;exact h1.elim
  |_=>exact h1.elim
end
section
variable {S:Se}{X:Cx}{σ:St}{B:AG->Prop}{φ φ1:Ph}{H H1:Hp}{st:SO}{ρ:IC.Env}{pos:Bc}{a b tg elt iter:AM}{ca cb ce:Ce}{ct:Tg}
end
end L2
namespace L2
open PySem PySem.Spec PyProof.Rows IC WK
inductive GK where
 |fn (i:Nat)|fnD (i:Nat)|cst (v:PV)|dct (D:List (AN×PV))|exc (c:Nat)|cls (c i:Nat)
structure Gs where
 g:AN->Option GK
 b:AN->Bool
 t:Ty->Bool
 fl:Nat->AN->Bool
 me:Nat->AN->Option Nat
 kb:Nat->Nat->List AN->Option (List (Option Int))
 mr:AN->Option (List (AN×Nat))
 fv:AN->Nat->Bool
 xk:Nat->Ty->Bool
 xc:Nat->AN->Bool
 xm:Nat->AN->Bool
 qf:Nat->Bool
structure Kx where
 N:List AN
 sc:Ao
 own:Bool
 h:Bool
def Fo(m:Nat)(S:Se)(X:Cx)(i:Nat)(f:AG)(fd:Am)(ps:List AN):Prop:=yaK X.prog X.w X.K X.mg X.base (CX1 X.prog X.w) m f fd ps (spI X.K S.cl S.call i)
def zk3{β:Type}{x:AN}{k:β}:∀{l:List (AN×β)},l.lookup x=AA k->(x,k)∈l
 |[],h=>nomatch h
 |y::l,h=>by
  rw[Av]at h
  cases hx:x==y.1 with
  |true=>rw[hx]at h;cases h;rw[eq_of_beq hx];exact AW
  |false=>rw[hx]at h;exact AL _ (zk3 h)
structure Glo(γ:Gs)(m:Nat)(S:Se)(X:Cx):Prop where
 F:∀x i,γ.g x=AA (.fn i)->∃f fd ps,Fo m S X i f fd ps/\X.mg x=AA (.ref f)/\Ab X.K (.ref f)=AC/\Binds X.K fd ps []
 Q:∀x i np ks sh,γ.g x=AA (.fnD i)->γ.kb i np ks=AA sh->∃f fd ps,Fo m S X i f fd ps/\X.mg x=AA (.ref f)/\Ab X.K (.ref f)=AC/\∃g,ybt X.K fd ps ks g (gK np sh)
 C:∀x v,γ.g x=AA (.cst v)->GC X.K X.mg S.cl x v \/ ∃i,v=.int i/\GCI X.mg x i
 D:∀x d,γ.g x=AA (.dct d)->GD X.K X.w X.mg S.cl x d
 E:∀x c,γ.g x=AA (.exc c)->ybV X.K X.mg (S.cl c) x
 N:∀x c i,γ.g x=AA (.cls c i)->X.mg x=AA (.ref (S.cl c))/\∃f fd ps,Mk X.K (S.cl c) f/\Fo m S X i f fd ps/\Binds X.K fd ps []
 B:∀x,γ.b x=AC->X.mg x=AB
 T:∀t,γ.t t=AC->yfC X.K t
 A:∀c f,γ.fl c f=AC->Cls X.K (S.cl c)/\yb3 X.K (S.cl c) f
 M:∀c n i,γ.me c n=AA i->Cls X.K (S.cl c)/\∃f fd ps,Meth X.K (S.cl c) n f/\Fo m S X i f fd ps/\Binds X.K fd ps []
 K:∀y D,γ.mr y=AA D->∃fa fdd ps,Makers S X m D fa fdd ps/\GDF X.K X.w X.mg fa y D
 V:∀x i,γ.g x=AA (.fn i)->γ.fv x i=AC->X.mg x=AA (.ref (S.cl (1000+i)))
 I:∀c t,γ.xk c t=AC->ya6 X.K (S.cl c)/\yb0 X.K S.cl c t
 L:∀d x,γ.xc d x=AC->X.mg x=AA (.ref (S.cl d))
 H:∀c x,γ.xm c x=AC->∃W,X.mg x=AA (.ref W)/\Dg X.K (.ref (S.cl c)) (.ref W)=AA AC
 Z:∀x i,γ.g x=AA (.fn i)->γ.qf i=AC->∃f fd ps,ya3 X.prog X.w X.K X.mg X.base m f fd ps (spI X.K S.cl S.call i)/\X.mg x=AA (.ref f)/\Ab X.K (.ref f)=AC/\Binds X.K fd ps []
theorem Glo.mkr{γ:Gs}{m:Nat}{S:Se}{X:Cx}(G:Glo γ m S X){p:AN×Nat}{L:List (AN×Nat)}(h:∀q∈p::L,γ.g q.1=AA (.fn q.2)/\γ.fv q.1 q.2=AC):∃fdd ps,Makers S X m (p::L) (λj=>S.cl (1000+j)) fdd ps:=by
 have one:∀q∈p::L,∃z:Am×List AN,Fo m S X q.2 (S.cl (1000+q.2)) z.1 z.2/\Ab X.K (.ref (S.cl (1000+q.2)))=AC/\Binds X.K z.1 z.2 []:=λq hq=>by
  let⟨f,fd,ps,h1,h2,h3,h4⟩:=G.F q.1 q.2 (h q hq).1;have e:=G.V q.1 q.2 (h q hq).1 (h q hq).2;rw[h2]at e
  cases e
  exact⟨(fd,ps),h1,h3,h4⟩
 have all:∀j,∃z:Am×List AN,(∃s,(p::L).lookup s=AA j)->Fo m S X j (S.cl (1000+j)) z.1 z.2/\Ab X.K (.ref (S.cl (1000+j)))=AC/\Binds X.K z.1 z.2 []:=λj=>by
  by_cases hj:∃s,(p::L).lookup s=AA j
  .let⟨s,hs⟩:=hj;let⟨z,hz⟩:=one (s,j) (zk3 hs);exact⟨z,λ_=>hz⟩
  .let⟨z,_⟩:=one p AW;exact⟨z,λq=>absurd q hj⟩
 let⟨f,hf⟩:=Classical.skolem.1 all;exact⟨λj=>(f j).1,λj=>(f j).2,⟨λs j e=>(hf j ⟨s,e⟩).1,λs j e=>(hf j ⟨s,e⟩).2.1,λs j e=>(hf j ⟨s,e⟩).2.2⟩⟩
structure Good(γ:Gs)(κ:Kx)(m:Nat)(S:Se)(X:Cx):Prop where
 n:X.N=κ.N
 sc:X.env.scope=κ.sc
 calm:κ.h=AE->X.calm=AC
 room:yQ (m+1) X.A
 hd:κ.h=AE->X.A.handled=AB
 own:κ.own=AC->DY (model X.prog X.w) X.A X.env X.xe/\(∀x,X.fn x=AC)/\S.may=AC
 top:κ.own=AC->(∃outer,X.stack=X.env::outer)/\X.ex=[]/\X.env.frame=AA X.env.locals
 glo:Glo γ m S X
theorem Good.rm{γ:Gs}{κ:Kx}{m:Nat}{S:Se}{X:Cx}(G:Good γ κ m S X)(h:κ.h=AE):yas (m+1) X.A:=⟨G.hd h,G.room.dp,G.room.un⟩
def zjy{k:Nat}{A:A8}(r:yQ k A):A.units+16<cLine:=by have:=r.units;lia
def zh4{k:Nat}{A:A8}(r:yQ k A):A.units+16<cLine:=by have:=r.units;lia
abbrev Pr(P:Prop):Type:=Option (PLift P)
abbrev YE(γ:Gs)(κ:Kx)(e:AM)(c:Ce):Prop:=∀m S X,Good γ κ m S X->PE X e (tE S X c)
abbrev YT(γ:Gs)(κ:Kx)(e:AM)(c:Ce):Prop:=∀m S X,Good γ κ m S X->PT X e (tTs S X c)
abbrev YW(γ:Gs)(κ:Kx)(e:AM)(c:Ce):Prop:=∀m S X,Good γ κ m S X->PW X e (tTs S X c)
abbrev YA(γ:Gs)(κ:Kx)(e:List AM)(c:Ces):Prop:=∀m S X,Good γ κ m S X->PA X e (tAs S X c)
abbrev YO(γ:Gs)(κ:Kx)(e:Option AM)(c:Ce):Prop:=∀m S X,Good γ κ m S X->PO X e (tO S X c)
abbrev YS(γ:Gs)(κ:Kx)(s:Bd)(c:Cs):Prop:=∀m S X,Good γ κ m S X->PS X s (tS S X c)
abbrev YSs(γ:Gs)(κ:Kx)(s:List Bd)(c:Css):Prop:=∀m S X,Good γ κ m S X->PSs X s (tSs S X c)
def an{P Q:Prop}(a:Pr P)(k:P->Pr Q):Pr Q:=match a with
 |some h=>k h.down
 |none=>AB
def ok{P:Prop}(h:P):Pr P:=AA ⟨h⟩
def ask(p:Prop)[Decidable p]:Pr p:=if h:p then AA ⟨h⟩else AB
def nst:AM->Bool
 |.Starred _ _=>AE
 |_=>AC
def zcE{a:AM}{es:List AM}{env:BF}(h:nst a=AC):starEach (a::es) env=(AE,eval a env)::starEach es env:=by
 cases a<;>first|rfl|cases h
def yca(es:List AM):Bool:=es.all nst
theorem stars{pos:Bc}{env:BF}:∀{es:List AM},yca es=AC->(backTo pos (starEach es env)).any (·.1)=AE
 |[],_=>rfl
 |a::es,h=>by
  erw[yca,Ar,AJ]at h;rw[zcE h.1];have:=stars (pos:=pos) (env:=env) (es:=es) h.2;simpa [backTo] using this
def nco:AM->Bool
 |.ListComp ..=>AE
 |.SetComp ..=>AE
 |.DictComp ..=>AE
 |_=>AC
theorem swp{a:AM}{t:Option AM}{l:Nat}{env:BF}(h:nco a=AC):swapsWith a t l env=pure false:=by
 cases a<;>first|rfl|cases h
def nse:AM->Bool
 |.Set ..=>AE
 |_=>AC
theorem fse{a:AM}{env:BF}(h:nse a=AC):∀x,foldedSetIterable a env x=pure x:=by
 cases a<;>first|exact λ_=>rfl|cases h
theorem nmk{op:Gr}{a:AM}(h:nse a=AC):behindInMarks op a=false:=by
 cases a<;>first|rfl|cases h
def nsl:AM->Bool
 |.Slice ..=>AE
 |_=>AC
theorem pix{a:AM}(h:nsl a=AC):ya2 a:=by
 cases a<;>first|exact λ_ _=>rfl|cases h
theorem nos{a:AM}(h:nsl a=AC):ycz a:=pix h
def ntu:AM->Bool
 |.Tuple ..=>AE
 |_=>AC
def nte:AM->Bool
 |.UnaryOp ..=>AE
 |.BoolOp ..=>AE
 |.IfExp ..=>AE
 |.Compare ..=>AE
 |_=>AC
theorem itr{a:AM}{env:BF}(h:nte a=AC):∀whole,isTrue a env whole=(do let v <-whole;standAt a.pos;holding [v] (truthy v)):=by
 cases a<;>first|exact λ_=>rfl|cases h
def nca:AM->Bool
 |.Call ..=>AE
 |_=>AC
def zkS{a:AM}{f:AN}{env:BF}{w:Fi AF}(h:nca a=AC):attributeBase a f env w=w:=by
 cases a<;>first|rfl|cases h
def mOp(op:EC)(o:BOp):Pr (∀S X,OpR X (binaryOp op) (rT2 S X (yx o))):=
 match op,o with
 |.Add,.add=>ok (λ_ _=>zjO)
 |.Sub,.sub=>ok (λ_ _=>ziw)
 |.Mult,.mul=>ok (λ_ _=>zkd)
 |.FloorDiv,.fdiv=>ok (λ_ _=>zhA)
 |.Mod,.mod=>ok (λ_ _=>zj7)
 |.Pow,.pow=>ok (λ_ _=>ziT)
 |.LShift,.shl=>ok (λ_ _=>zjf)
 |.RShift,.shr=>ok (λ_ _=>zil)
 |.BitAnd,.band=>ok (λ_ _=>zh5)
 |.BitOr,.bor=>ok (λ_ _=>zi9)
 |.BitXor,.bxor=>ok (λ_ _=>zhR)
 |_,_=>AB
def mCm(op:Gr)(o:COp):Pr (∀m S X,yQ m X.A->OpR X (compareOp op) (rT2 S X (yI o))):=
 match op,o with
 |.Eq,.eq=>ok (λ_ _ _ r=>zkI r.units)
 |.NotEq,.ne=>ok (λ_ _ _ r=>zkC r.units)
 |.Lt,.lt=>ok (λ_ _ _ _=>zky)
 |.Gt,.gt=>ok (λ_ _ _ _=>zkD)
 |.GtE,.ge=>ok (λ_ _ _ _=>zki)
 |.In,.isin=>ok (λ_ _ _ _=>zkm)
 |_,_=>AB
def ydo(sc:Ao)(x:AN):Bool:=match sc.names.lookup x with
 |some .local=>AC
 |some .cell=>AC
 |some .free=>AC
 |_=>AE
def zew{sc:Ao}{x:AN}(h:ydo sc x=AC):Vis sc x:=by
 unfold ydo at h;split at h
 .exact .inl ‹_›
 .exact .inr (.inl ‹_›)
 .exact .inr (.inr ‹_›)
 .cases h
def ycH(sc:Ao)(x:AN):Bool:=match sc.names.lookup x with
 |some .local=>AC
 |some .cell=>AC
 |_=>AE
def zcf{sc:Ao}{x:AN}(h:ycH sc x=AC):Loc sc x:=by
 unfold ycH at h;split at h
 .exact .inl ‹_›
 .exact .inr ‹_›
 .cases h
def pln(x:AN):Bool:=!(x==("__debug__":AN))&&!(x==("__classdict__":AN))&&!(x==("__name__":AN))
def zkN{x:AN}(h:pln x=AC):(x==("__debug__":AN))=false:=by
 erw[pln,AJ,BH]at h;exact h.1.1
def zkY{x:AN}(h:pln x=AC):(x==("__classdict__":AN))=false:=by
 erw[pln,AJ,BH]at h;exact h.1.2
def zk4{x:AN}(h:pln x=AC):x ≠ "__name__":=by
 erw[pln,AJ,BH]at h;intro e;rw[e]at h;exact absurd h.2 ⋯
def hf(κ:Kx){P:Prop}(f:κ.h=AE->Pr P):Pr P:=if h:κ.h=AE then f h else AB
def glB(κ:Kx)(x:AN):Bool:=decide (κ.sc.names.lookup x=AA .globalImplicit)&&pln x
def zl{γ:Gs}{κ:Kx}{m:Nat}{S:Se}{X:Cx}(G:Good γ κ m S X){x:AN}(h:glB κ x=AC):Gl X x:=by
 erw[glB,AJ,decide_eq_true_eq]at h;show X.env.scope.names.lookup x=_;rw[G.sc];exact h.1
def zZ{κ:Kx}{x:AN}(h:glB κ x=AC):pln x=true:=by
 erw[glB,AJ]at h;exact h.2
def setB(κ:Kx)(i:Nat)(x:AN):Bool:=decide (κ.N[i]?=AA x)&&decide κ.N.Nodup&&ycH κ.sc x&&(κ.own || decide (κ.sc.names.lookup x=AA .local))&&pln x
structure ycI(X:Cx)(i:Nat)(x:AN):Prop where
 d:X.N.Nodup
 i:X.N[i]?=AA x
 l:Loc X.env.scope x
 f:X.fn x=AC \/ X.env.scope.names.lookup x=AA .local
 p:pln x=AC
def zN{γ:Gs}{κ:Kx}{m:Nat}{S:Se}{X:Cx}(G:Good γ κ m S X){i:Nat}{x:AN}(h:setB κ i x=AC):ycI X i x:=by
 erw[setB,AJ,CS,decide_eq_true_eq]at h;let⟨⟨⟨⟨h1,h2⟩,h3⟩,h4⟩,h5⟩:=h;refine⟨by rw[G.n];exact h2,by rw[G.n];exact h1,by rw[G.sc];exact zcf h3,?_,h5⟩;rcases h4 with h4|h4
 .exact .inl ((G.own h4).2.1 x)
 .exact .inr (by rw[G.sc];exact h4)
def gFn(γ:Gs)(x:AN)(i:Nat):Pr (γ.g x=AA (.fn i)):=match h:γ.g x with
 |some (.fn j)=>if e:j=i then AA ⟨by subst e;rfl⟩else AB
 |_=>AB
section
variable {γ:Gs}{κ:Kx}{ca cb cc:Ce}{ces:Ces}
def yfd(v:PV)(e:AM):Pr (YE γ κ e (.cst v)):=
 match e with
 |.Constant (.int i) _ _=>match v with
  |.int j=>an (ask (i=j)) λh=>ok (λ_ _ _ _=>by cases h;exact zjA)
  |_=>AB
 |.Constant (.bool i) _ _=>match v with
  |.bl j=>an (ask (i=j)) λh=>ok (λ_ _ _ _=>by cases h;exact zkM)
  |_=>AB
 |.Constant .none _ _=>match v with
  |.non=>ok (λ_ _ _ _=>zjI)
  |_=>AB
 |.Constant (.str i) _ _=>match v with
  |.str j=>an (ask (i=j)) λh=>ok (λ_ _ _ _=>by cases h;exact zi2)
  |_=>AB
 |_=>AB
def ygw(i:Nat)(e:AM):Pr (YE γ κ e (.var i)):=
 match e with
 |.Name x _=>an (ask (κ.N[i]?=AA x/\ydo κ.sc x=AC/\pln x=AC)) λh=>ok (λ_ _ _ G=>zka (by rw[G.n];exact h.1) (by rw[G.sc];exact zew h.2.1) (zkN h.2.2) (zkY h.2.2))
 |_=>AB
def yfV(o:BOp)(e:AM)(fa:∀x,Pr (YE γ κ x ca))(fb:∀x,Pr (YE γ κ x cb)):Pr (YE γ κ e (.bin o ca cb)):=
 match e with
 |.BinOp a op b _=>
  an (mOp op o) λho=>an (fa a) λha=>an (fb b) λhb=>ok (λm S X G=>zjB (ho S X) (ha m S X G) (hb m S X G))
 |_=>AB
def ygC(e:AM)(fa:∀x,Pr (YE γ κ x ca))(fb:∀x,Pr (YE γ κ x cb)):Pr (YE γ κ e (.rep ca cb)):=
 match e with
 |.BinOp a .Mult b _=>an (fa a) λha=>an (fb b) λhb=>ok (λm S X G=>zj5 (ha m S X G) (hb m S X G))
 |_=>AB
def ygb(e:AM)(fa:∀x,Pr (YE γ κ x ca)):Pr (YE γ κ e (.not ca)):=
 match e with
 |.UnaryOp .Not a _=>
  an (fa a) λha=>ok (λm S X G=>zin (ha m S X G))
 |_=>AB
def yfW(o:COp)(e:AM)(fa:∀x,Pr (YE γ κ x ca))(fb:∀x,Pr (YE γ κ x cb)):Pr (YE γ κ e (.cmp o ca cb)):=
 match e with
 |.Compare a [op] [b] _=>
  an (mCm op o) λho=>an (ask (nse b=AC)) λhs=>an (fa a) λha=>an (fb b) λhb=>ok (λm S X G=>zkb (ho _ S X G.room) (ha m S X G) (hb m S X G) (nmk hs))
 |_=>AB
def ydR(o:COp)(e:AM)(fa:∀x,Pr (YE γ κ x ca))(fb:∀x,Pr (YE γ κ x cb)):Pr (YT γ κ e (.cmp o ca cb)):=
 match e with
 |.Compare a [op] [b] _=>
  an (mCm op o) λho=>an (ask (nse b=AC)) λhs=>an (fa a) λha=>an (fb b) λhb=>ok (λm S X G=>ziF (ho _ S X G.room) (ha m S X G) (hb m S X G) (nmk hs))
 |_=>AB
def ye7(e:AM)(fc:∀x,Pr (YT γ κ x cc))(fa:∀x,Pr (YE γ κ x ca))(fb:∀x,Pr (YE γ κ x cb)):Pr (YE γ κ e (.ite cc ca cb)):=
 match e with
 |.IfExp c a b _=>
  an (fc c) λhc=>an (fa a) λha=>an (fb b) λhb=>ok (λm S X G=>zjT (hc m S X G) (ha m S X G) (hb m S X G))
 |_=>AB
def yfR(e:AM)(fa:∀x,Pr (YA γ κ x ces)):Pr (YE γ κ e (.tup ces)):=
 match e with
 |.Tuple es _ _=>
  an (fa es) λha=>ok (λm S X G=>zjv (ha m S X G))
 |_=>AB
def yfc(e:AM)(fa:∀x,Pr (YA γ κ x ces)):Pr (YE γ κ e (.lst ces)):=
 match e with
 |.List es _=>
  an (fa es) λha=>ok (λm S X G=>zir (ha m S X G))
 |_=>AB
def yei(e:AM)(fa:∀x,Pr (YA γ κ x ces)):Pr (YE γ κ e (.newl ces)):=
 match e with
 |.List es _=>
  an (fa es) λha=>ok (λm S X G=>zg9 (ha m S X G))
 |_=>AB
def mIdx(e:AM)(fa:∀x,Pr (YE γ κ x ca))(fb:∀x,Pr (YE γ κ x cb)):Pr (YE γ κ e (.idx ca cb)):=
 match e with
 |.Subscript a b _=>
  an (ask (nsl b=AC)) λhs=>an (fa a) λha=>an (fb b) λhb=>ok (λm S X G=>zjM (ha m S X G) (hb m S X G) (pix hs))
 |_=>AB
def ygl(e:AM)(fa:∀x,Pr (YE γ κ x ca))(fb:∀x,Pr (YE γ κ x cb)):Pr (YE γ κ e (.dgt ca cb)):=
 match e with
 |.Subscript a b _=>
  an (ask (nsl b=AC)) λhs=>an (fa a) λha=>an (fb b) λhb=>ok (λm S X G=>ziU (zjy G.room) (ha m S X G) (hb m S X G) (nos hs))
 |_=>AB
def ygt(e:AM)(fa:∀x,Pr (YE γ κ x ca))(fb:∀x,Pr (YO γ κ x cb))(fc:∀x,Pr (YO γ κ x cc)):Pr (YE γ κ e (.slc ca cb cc)):=
 match e with
 |.Subscript a (.Slice l h AB _) _=>
  an (fa a) λha=>an (fb l) λhb=>an (fc h) λhc=>ok (λm S X G=>ziP (ha m S X G) (hb m S X G) (hc m S X G))
 |_=>AB
def yeB(c:Ce)(e:Option AM)(fa:∀x,Pr (YE γ κ x c)):Pr (YO γ κ e c):=
 match e with
 |none=>match c with
  |.cst .non=>ok (λ_ _ _ _=>zh0)
  |_=>AB
 |some a=>
  an (fa a) λha=>ok (λm S X G=>zhC (ha m S X G))
inductive Fs(γ:Gs)(κ:Kx):Ces->Type where
 |nil:Fs γ κ .nil
 |cons {c:Ce} {cs:Ces} (f:∀x,Pr (YE γ κ x c)) (r:Fs γ κ cs):Fs γ κ (.cons c cs)
def yaJ:{ces:Ces}->Fs γ κ ces->(es:List AM)->Pr (YA γ κ es ces)
 |_,.nil,[]=>ok λ_ _ _ _=>zaz
 |_,.cons f r,a::es=>an (ask (nst a=AC)) λhs=>an (f a) λha=>an (yaJ r es) λhr=>ok λm S X G=>zG (ha m S X G) (hr m S X G) (zcE hs)
 |_,_,_=>AB
structure Sp2(γ:Gs)(κ:Kx)(ces:Ces)(np:Nat) where
 c1:Ces
 c2:Ces
 f1:Fs γ κ c1
 f2:Fs γ κ c2
 h:yb5 c1 c2=ces
 l:ycC c1=np
def ybU:(np:Nat)->{ces:Ces}->Fs γ κ ces->Option (Sp2 γ κ ces np)
 |0,ces,F=>AA ⟨.nil,ces,.nil,F,rfl,rfl⟩
 |n+1,_,.cons f r=>match ybU n r with
  |some s=>AA ⟨.cons _ s.c1,s.c2,.cons f s.f1,s.f2,by rw[yb5,s.h],by rw[ycC,s.l]⟩
  |none=>AB
 |_,_,_=>AB
structure It2(γ:Gs)(κ:Kx)(ces:Ces)(sh:List (Option Int))(kws:List B4) where
 it:List (Sum Ce Int)
 h:yZ it=ces
 s:it.map shC=sh
 k:∀m S X,Good γ κ m S X->PK X kws (tK S X it)
def ybx:(sh:List (Option Int))->{ces:Ces}->Fs γ κ ces->(kws:List B4)->Option (It2 γ κ ces sh kws)
 |[],_,.nil,[]=>AA ⟨[],rfl,rfl,λ_ _ _ _=>zkf⟩
 |none::sh,.cons c _,.cons f r,⟨_,e,_⟩ :: kws=>match f e,ybx sh r kws with
  |some h,AA q=>AA ⟨.inl c::q.it,by rw[yZ,q.h],by rw[AZ,q.s];rfl,λm S X G=>zkn (h.down m S X G) (q.k m S X G)⟩
  |_,_=>AB
 |some i::sh,.cons (.cst (.int j)) _,.cons _ r,kws=>if e:i=j then match ybx sh r kws with
  |some q=>AA ⟨.inr i::q.it,by rw[yZ,q.h,e],by rw[AZ,q.s];rfl,λm S X G=>zkA (q.k m S X G)⟩
  |none=>AB
  else AB
 |_,_,_,_=>AB
def kwN:List B4->List AN
 |[]=>[]
 |⟨AA x,_,_⟩ :: r=>x::kwN r
 |_::r=>kwN r
def kwB:List B4->Bool
 |[]=>AC
 |⟨AA _,_,_⟩ :: r=>kwB r
 |_=>AE
def zjS{pos:Bc}{env:BF}:∀{kws:List B4},kwB kws=AC->(backToKw pos (keywordEach kws env)).all (·.1.isSome)=AC/\(backToKw pos (keywordEach kws env)).filterMap (·.1)=kwN kws/\(backToKw pos (keywordEach kws env)).any (·.1.isNone)=AE
 |[],_=>⟨rfl,rfl,rfl⟩
 |⟨AA x,e,_⟩ :: r,h=>by
  let⟨h1,h2,h3⟩:=zjS (pos:=pos) (env:=env) (kws:=r) h;erw[backToKw]at h1 h2 h3 ⊢;erw[keywordEach,AZ,Ar,CD,B5,h1,h2,h3,kwN];simp
def yf6(hκ:κ.h=AE)(i:Nat)(F:Fs γ κ ces)(e:AM):Pr (YE γ κ e (.call i ces)):=
 match e with
 |.Call (.Name x _) [] [] _=>match F with
  |.nil=>an (ask (glB κ x=AC)) λhg=>an (gFn γ x i) λhf=>ok λm S X G=>by
   let⟨f,fd,ps,h1,h2,h3,h4⟩:=G.glo.F x i hf;exact zff h1 ((G.rm hκ).mono (C5 m)) (zl G hg) h2 h3 h4 (zkN (zZ hg))
  |_=>AB
 |.Call (.Name x _) (a::es) kws _=>an (ask (glB κ x=AC/\nst a=AC/\yca es=AC)) λhg=>
  match hx:γ.g x with
  |some (.fn j)=>match kws with
   |[]=>an (ask (j=i)) λhj=>an (yaJ F (a::es)) λha=>ok λm S X G=>by
    subst hj;let⟨f,fd,ps,h1,h2,h3,h4⟩:=G.glo.F x j hx;exact zhD h1 ((G.rm hκ).mono (C5 m)) (zl G hg.1) h2 h3 h4 (ha m S X G) (zkN (zZ hg.1)) (zcE hg.2.1) (stars hg.2.2)
   |_=>AB
  |some (.fnD j)=>match hk:γ.kb j (es.length+1) (kwN kws)with
   |none=>AB
   |some sh=>match ybU (es.length+1) F with
    |none=>AB
    |some s=>match ybx sh s.f2 kws with
     |none=>AB
     |some q=>an (ask (kwB kws=AC/\j=i)) λhw=>an (yaJ s.f1 (a::es)) λha=>ok λm S X G=>by
      let⟨hw,rfl⟩:=hw;let⟨f,fd,ps,h1,h2,h3,h4⟩:=G.glo.Q x j _ _ sh hx hk;rw[<-s.h,<-q.h];rw[<-q.s]at h4;have w:=λ{pos}=>zjS (pos:=pos) (env:=X.env) hw;exact zf2 h1 ((G.rm hκ).mono (C5 m)) (zl G hg.1) h2 h3 h4 s.l (ha m S X G) (q.k m S X G) w.1 w.2.1 (zkN (zZ hg.1)) (zcE hg.2.1) (by
       rw[w.2.2,G2];exact stars (es:=a::es) (by erw[yca,Ar,hg.2.1,G8];exact hg.2.2))
  |_=>AB
 |_=>AB
abbrev yd4(b:Blt)(x:AN):Prop:=∀S X,X.calm=AC->(∃id,yag X (.builtin id) (rB S X b)/\bootBuiltins x=AA (.builtin id)) \/ ∃T,yag X (.type T) (rB S X b)/\bootBuiltins x=AA (.type T)
def yge(b:Blt)(x:AN):Pr (yd4 b x):=
 match b with
 |.len=>an (ask (x="len")) λh=>ok λ_ _ _=>.inl ⟨_,ziV,h ▸ ziI⟩
 |.tuple=>an (ask (x="tuple")) λh=>ok λ_ _ _=>.inr ⟨_,zgg,h ▸ zfg⟩
 |_=>AB
def ygp(b:Blt)(F:Fs γ κ ces)(e:AM):Pr (YE γ κ e (.blt b ces)):=
 match e with
 |.Call (.Name x _) (a::es) [] _=>hf κ λhκ=>an (ask (glB κ x=AC/\nst a=AC/\yca es=AC/\γ.b x=AC)) λhg=>an (yge b x) λhb=>an (yaJ F (a::es)) λha=>ok λm S X G=>by
  rcases hb S X (G.calm hκ)with⟨id,h1,h2⟩|⟨T,h1,h2⟩
  .exact ziy h1 (zl G hg.1) (G.glo.B x hg.2.2.2) h2 (ha m S X G) (zk4 (zZ hg.1)) (zkN (zZ hg.1)) (zcE hg.2.1) (stars hg.2.2.1)
  .exact zh9 h1 (zl G hg.1) (G.glo.B x hg.2.2.2) h2 (ha m S X G) (zk4 (zZ hg.1)) (zkN (zZ hg.1)) (zcE hg.2.1) (stars hg.2.2.1)
 |_=>AB
def yfS(b:Blt)(F:Fs γ κ ces)(e:AM):Pr (YE γ κ e (.blt b ces)):=
 match b with
 |b=>ygp b F e
mutual
noncomputable def ydK:(a b:PV)->Pr (a=b)
 |.non,.non=>ok rfl
 |.bl a,.bl b=>an (ask (a=b)) λh=>ok (by rw[h])
 |.int a,.int b=>an (ask (a=b)) λh=>ok (by rw[h])
 |.str a,.str b=>an (ask (a=b)) λh=>ok (by rw[h])
 |.tp k a,.tp j b=>an (ask (k=j)) λh=>an (yco a b) λg=>ok (by rw[h,g])
 |.lst a,.lst b=>an (yco a b) λg=>ok (by rw[g])
 |_,_=>AB
noncomputable def yco:(a b:List PV)->Pr (a=b)
 |[],[]=>ok rfl
 |a::x,b::y=>an (ydK a b) λh=>an (yco x y) λg=>ok (by rw[h,g])
 |_,_=>AB
end
def eqD:(a b:List (AN×PV))->Pr (a=b)
 |[],[]=>ok rfl
 |(k,a)::x,(j,b)::y=>an (ask (k=j)) λe=>an (ydK a b) λh=>an (eqD x y) λg=>ok (by rw[e,h,g])
 |_,_=>AB
def ygn(v:PV)(e:AM):Pr (YE γ κ e (.cst v)):=
 match e with
 |.Name x _=>match h:γ.g x with
  |some (.cst u)=>an (ask (glB κ x=AC)) λhg=>an (ydK u v) λhv=>ok λm S X G=>by
   subst hv;rcases G.glo.C x u h with q|⟨i,rfl,q⟩
   .exact zkE (zl G hg) q (zkN (zZ hg))
   .exact zjG (zl G hg) q (zkN (zZ hg))
  |some (.fn i)=>match v with
   |.fnc j=>an (ask (glB κ x=AC/\γ.fv x i=AC/\i=j)) λhg=>ok λm S X G=>by
    let⟨h1,h2,rfl⟩:=hg;exact ze8 (zl G h1) (G.glo.V x i h h2) (λB φ H=>by erw[yc]) (zkN (zZ h1))
   |_=>AB
  |_=>AB
 |e=>yfd v e
def zkV{pos:Bc}{env:BF}{b:AM}(h:nst b=AC):((backTo pos (starEach [b] env)).all (λx=>!x.1)&&(backToKw pos (keywordEach [] env)).all (λx=>x.1.isSome)&&decide (([b]:List AM).length+([]:List B4).length+(if ([]:List B4).isEmpty then 0 else 1)<30))=true:=by
 rw[zcE h];rfl
def yfb(k:Mth)(F:Fs γ κ ces)(e:AM)(fa:∀x,Pr (YE γ κ x ca)):Pr (YE γ κ e (.mth k ca ces)):=
 match k,e,F with
 |.insert,.Call (.Attribute a n ap) [b,c] [] pos,.cons fb (.cons fc .nil)=>an (ask (n="insert"/\nca a=AC/\nst b=AC/\nst c=AC/\(ap.endLine==pos.line)=AC)) λh=>an (fa a) λha=>an (fb b) λhb=>an (fc c) λhc=>ok λm S X G=>by
  let⟨rfl,h1,h2,h4,h3⟩:=h;exact zdP (ha m S X G) (hb m S X G) (hc m S X G) (by rw[zcE h2,zcE h4];rfl) (by rw[zcE h4];rfl) (zkS h1) h3 (by rw[zcE h4];rfl) (by rw[zcE h2,zcE h4];rfl)
 |.split,.Call (.Attribute a n ap) [b] [] pos,.cons fb .nil=>an (ask (n="split"/\nca a=AC/\nst b=AC/\(ap.endLine==pos.line)=AC)) λh=>an (fa a) λha=>an (fb b) λhb=>ok λm S X G=>by
  let⟨rfl,h1,h2,h3⟩:=h;exact zfG (ha m S X G) (hb m S X G) (zcE h2) (zkS h1) h3 (zkV h2) rfl
 |.join,.Call (.Attribute a n ap) [b] [] pos,.cons fb .nil=>an (ask (n="join"/\nca a=AC/\nst b=AC/\(ap.endLine==pos.line)=AC)) λh=>an (fa a) λha=>an (fb b) λhb=>ok λm S X G=>by
  let⟨rfl,h1,h2,h3⟩:=h;exact zhy (ha m S X G) (hb m S X G) (zcE h2) (zkS h1) h3 (zkV h2) rfl
 |.count,.Call (.Attribute a n ap) [b] [] pos,.cons fb .nil=>an (ask (n="count"/\nca a=AC/\nst b=AC/\(ap.endLine==pos.line)=AC)) λh=>an (fa a) λha=>an (fb b) λhb=>ok λm S X G=>by
  let⟨rfl,h1,h2,h3⟩:=h;exact zf7 (ha m S X G) (hb m S X G) (zcE h2) (zkS h1) h3 rfl (zkV h2)
 |.index,.Call (.Attribute a n ap) [b] [] pos,.cons fb .nil=>an (ask (n="index"/\nca a=AC/\nst b=AC/\(ap.endLine==pos.line)=AC)) λh=>an (fa a) λha=>an (fb b) λhb=>ok λm S X G=>by
  let⟨rfl,h1,h2,h3⟩:=h;exact zfX (ha m S X G) (hb m S X G) (zcE h2) (zkS h1) h3 rfl (zkV h2)
 |_,_,_=>AB
def ygm(e:AM)(fa:∀x,Pr (YE γ κ x ca))(fb:∀x,Pr (YE γ κ x cb)):Pr (YE γ κ e (.nin ca cb)):=
 match e with
 |.Compare a [.NotIn] [b] _=>an (ask (behindInMarks .NotIn b=AE)) λh=>an (fa a) λha=>an (fb b) λhb=>ok λm S X G=>ziR G.room.units (ha m S X G) (hb m S X G) h
 |_=>AB
def ydX(e:AM)(fa:∀x,Pr (YE γ κ x ca))(fb:∀x,Pr (YE γ κ x cb)):Pr (YT γ κ e (.nin ca cb)):=
 match e with
 |.Compare a [.NotIn] [b] _=>an (ask (behindInMarks .NotIn b=AE)) λh=>an (fa a) λha=>an (fb b) λhb=>ok λm S X G=>zi7 G.room.units (ha m S X G) (hb m S X G) h
 |_=>AB
def mCn(t:Ty)(e:AM):Pr (∀m S X,Good γ κ m S X->PE X e (tC (ybo S.cl t))):=
 match t,e with
 |.cls d,.Name y _=>an (ask (γ.xc d y=AC/\glB κ y=AC)) λh=>ok λm S X G=>zi4 (zl G h.2) (G.glo.L d y h.1) (zkN (zZ h.2))
 |.val,.Name y _=>an (ask (y="ValueError"/\γ.b y=AC/\glB κ y=AC)) λh=>ok λm S X G=>by
  let⟨rfl,h1,h2⟩:=h;exact ziA (zl G h2) (G.glo.B _ h1)
 |_,_=>AB
def mNs:(ts:List Ty)->(es:List AM)->Pr (∀m S X,Good γ κ m S X->PA X es (tNs (ts.map (ybo S.cl))))
 |[],[]=>ok λ_ _ _ _=>zj9
 |t::ts,e::es=>an (ask (nst e=AC)) λh=>an (mCn t e) λhe=>an (mNs ts es) λhr=>ok λm S X G=>zic (he m S X G) (hr m S X G) (zcE h)
 |_,_=>AB
def xkB(γ:Gs)(cs:List Nat)(ts:List Ty):Bool:=cs.all λc=>ts.all λt=>γ.xk c t
def zgE{γ:Gs}{m:Nat}{S:Se}{X:Cx}(G:Glo γ m S X){cs:List Nat}{ts:List Ty}(h:xkB γ cs ts=AC)(hn:ts≠[]):∀c∈cs,ya6 X.K (S.cl c)/\∀t∈ts,yb0 X.K S.cl c t:=λc hc=>by
 erw[xkB,A4]at h;refine⟨?_,λt ht=>(G.I c t (h c hc t ht)).2⟩
 cases ts with
 |nil=>exact absurd rfl hn
 |cons t ts=>exact(G.I c t (h c hc t AW)).1
def yfu(cs:List Nat)(ts:List Ty)(e:AM)(fa:∀x,Pr (YE γ κ x ca)):Pr (YE γ κ e (.isx ca cs ts)):=
 match e with
 |.Call (.Name x _) [a,.Tuple es _ _] [] _=>an (ask (x="isinstance"/\glB κ x=AC/\γ.b x=AC/\nst a=AC/\xkB γ cs ts=AC/\ts.length<=1000/\ts≠[])) λh=>an (fa a) λha=>an (mNs (γ:=γ) (κ:=κ) ts es) λhn=>ok λm S X G=>by
  let⟨rfl,h1,h2,h3,h4,h5,h6⟩:=h;exact zia (zgE G.glo h4 h6) h5 (zl G h1) (G.glo.B _ h2) (hn m S X G) (ha m S X G) (zcE h3) rfl rfl
 |.Call (.Name x _) [a,.Name y py] [] _=>match ts with
  |[t]=>an (ask (x="isinstance"/\glB κ x=AC/\γ.b x=AC/\nst a=AC/\xkB γ cs [t]=AC)) λh=>an (fa a) λha=>an (mCn (γ:=γ) (κ:=κ) t (.Name y py)) λhn=>ok λm S X G=>by
   let⟨rfl,h1,h2,h3,h4⟩:=h;exact zim (λc hc=>let z:=zgE G.glo h4 (by simp) c hc;⟨z.1,z.2 t AW⟩) (zl G h1) (G.glo.B _ h2) (hn m S X G) (ha m S X G) (zcE h3) rfl rfl
  |_=>AB
 |_=>AB
def yfP(i:Nat)(F:Fs γ κ ces)(e:AM):Pr (YE γ κ e (.qcl i ces)):=
 match e with
 |.Call (.Name x _) (a::es) [] _=>an (ask (glB κ x=AC/\nst a=AC/\yca es=AC/\γ.qf i=AC)) λhg=>an (gFn γ x i) λhx=>an (yaJ F (a::es)) λha=>ok λm S X G=>by
  let⟨f,fd,ps,h1,h2,h3,h4⟩:=G.glo.Z x i hx hg.2.2.2;exact zgd h1 (G.room.mono (C5 m)) (zl G hg.1) h2 h3 h4 (ha m S X G) (zkN (zZ hg.1)) (zcE hg.2.1) (stars hg.2.2.1)
 |_=>AB
def mJ:(ces:Ces)->Fs γ κ ces->(es:List AM)->Pr (∀m S X,Good γ κ m S X->PJ X es (tJ S X ces))
 |.nil,_,[]=>ok λ_ _ _ _=>zjh
 |.cons (.cst (.str y)) cs,.cons _ r,.Constant (.str z) _ _::es=>an (ask (z=y)) λhz=>an (mJ cs r es) λhr=>ok λm S X G=>by
  subst hz;exact zed zje (hr m S X G)
 |.cons _ cs,.cons f r,.FormattedValue e k AB _::es=>an (ask (k=-1)) λhk=>an (f e) λh=>an (mJ cs r es) λhr=>ok λm S X G=>by
  subst hk;exact zed (ziE (h m S X G)) (hr m S X G)
 |_,_,_=>AB
def yft(F:Fs γ κ ces)(e:AM):Pr (YE γ κ e (.fst ces)):=
 match e with
 |.JoinedStr (v1::v2::rest) _=>an (mJ ces F (v1::v2::rest)) λh=>ok λm S X G=>zjZ (h m S X G)
 |_=>AB
end
structure Ev(γ:Gs)(c:Ce) where
 e:∀κ x,Pr (YE γ κ x c)
 t:∀κ x,Pr (YT γ κ x c)
 w:∀κ op l pos,Pr (YW γ κ (.BoolOp op l pos) c)
section
variable {γ:Gs}{ca cb cc:Ce}
def w1{c:Ce}(t:∀κ x,Pr (YT γ κ x c))(κ:Kx)(op:Gj)(l:List AM)(pos:Bc):Pr (YW γ κ (.BoolOp op l pos) c):=
 match op,l with
 |.And,[a]=>an (t κ a) λh=>ok λm S X G=>zhX (h m S X G)
 |.Or,[a]=>an (t κ a) λh=>ok λm S X G=>zjc (h m S X G)
 |_,_=>AB
def plT{c:Ce}(e:∀κ x,Pr (YE γ κ x c))(κ:Kx)(x:AM):Pr (YT γ κ x c):=an (ask (nte x=AC)) λh=>an (e κ x) λhe=>ok λm S X G=>ziN (he m S X G) (itr h)
def plain{c:Ce}(e:∀κ x,Pr (YE γ κ x c)):Ev γ c:=⟨e,plT e,w1 (plT e)⟩
def ycf{c:Ce}(e:∀κ x,Pr (YE γ κ x c))(t:∀κ x,Pr (YT γ κ x c)):Ev γ c:=⟨e,t,w1 t⟩
def yfT(A:Ev γ ca)(κ:Kx)(e:AM):Pr (YT γ κ e (.not ca)):=
 match e with
 |.UnaryOp .Not a _=>an (A.t κ a) λh=>ok λm S X G=>zjp (h m S X G)
 |_=>AB
def yfl(A:Ev γ ca)(B:Ev γ cb)(κ:Kx)(e:AM):Pr (YE γ κ e (.and ca cb)):=
 match e with
 |.BoolOp .And (a::b::[]) _=>an (A.e κ a) λha=>an (B.e κ b) λhb=>ok λm S X G=>zgS (ha m S X G) (zgn (hb m S X G))
 |.BoolOp .And (a::b::c::r) p=>an (A.e κ a) λha=>an (B.e κ (.BoolOp .And (b::c::r) p)) λhb=>ok λm S X G=>zgS (ha m S X G) (hb m S X G)
 |_=>AB
def orE(A:Ev γ ca)(B:Ev γ cb)(κ:Kx)(e:AM):Pr (YE γ κ e (.or ca cb)):=
 match e with
 |.BoolOp .Or (a::b::[]) _=>an (A.e κ a) λha=>an (B.e κ b) λhb=>ok λm S X G=>ziC (ha m S X G) (zgn (hb m S X G))
 |.BoolOp .Or (a::b::c::r) p=>an (A.e κ a) λha=>an (B.e κ (.BoolOp .Or (b::c::r) p)) λhb=>ok λm S X G=>ziC (ha m S X G) (hb m S X G)
 |_=>AB
def ydG(A:Ev γ ca)(B:Ev γ cb)(κ:Kx)(op:Gj)(l:List AM)(pos:Bc):Pr (YW γ κ (.BoolOp op l pos) (.and ca cb)):=
 match op,l with
 |.And,a::b::r=>an (A.t κ a) λha=>an (B.w κ .And (b::r) pos) λhb=>ok λm S X G=>ziz (ha m S X G) (hb m S X G)
 |_,_=>AB
def orW(A:Ev γ ca)(B:Ev γ cb)(κ:Kx)(op:Gj)(l:List AM)(pos:Bc):Pr (YW γ κ (.BoolOp op l pos) (.or ca cb)):=
 match op,l with
 |.Or,a::b::r=>an (A.t κ a) λha=>an (B.w κ .Or (b::r) pos) λhb=>ok λm S X G=>zku (ha m S X G) (hb m S X G)
 |_,_=>AB
def ptW{c:Ce}(w:∀κ op l pos,Pr (YW γ κ (.BoolOp op l pos) c))(κ:Kx)(e:AM):Pr (YT γ κ e c):=
 match e with
 |.BoolOp op l p=>an (w κ op l p) λh=>ok λm S X G=>PW.pt (h m S X G)
 |_=>AB
def yeT{c:Ce}(t:∀κ x,Pr (YT γ κ x c))(w:∀κ op l pos,Pr (YW γ κ (.BoolOp op l pos) c))(κ:Kx)(op:Gj)(l:List AM)(pos:Bc):Pr (YW γ κ (.BoolOp op l pos) c):=
 match l with
 |[a]=>w1 t κ op [a] pos
 |l=>w κ op l pos
def ydV(A:Ev γ ca)(B:Ev γ cb):Ev γ (.and ca cb):=⟨yfl A B,ptW (ydG A B),yeT (ptW (ydG A B)) (ydG A B)⟩
def ygx(A:Ev γ ca)(B:Ev γ cb):Ev γ (.or ca cb):=⟨orE A B,ptW (orW A B),yeT (ptW (orW A B)) (orW A B)⟩
end
abbrev YI(γ:Gs)(κ:Kx)(tg l:AM)(c:Cit):Prop:=∀m S X,Good γ κ m S X->PI X tg l (tI S X c)
abbrev YG(γ:Gs)(κ:Kx)(tg:AM)(c:Tg):Prop:=∀m S X,Good γ κ m S X->PG X tg (tG S X c)
section
variable {γ:Gs}{κ:Kx}{ca cb cc ce:Ce}{ci:Cit}
def yfg(e:∀x,Pr (YE γ κ x ca))(tg l:AM):Pr (YI γ κ tg l (.seq ca)):=an (e l) λh=>ok λm S X G=>zjs (h m S X G)
def iR1(fa:∀x,Pr (YE γ κ x ca))(tg l:AM):Pr (YI γ κ tg l (.range1 ca)):=
 match l with
 |.Call (.Name x _) [a] [] _=>an (ask (x="range"/\glB κ x=AC/\γ.b x=AC/\nst a=AC)) λh=>an (fa a) λha=>ok λm S X G=>by
  let⟨rfl,h1,h2,h3⟩:=h;exact zd4 (zl G h1) (G.glo.B _ h2) (ha m S X G) (zcE h3)
 |_=>AB
def yd7(fa:∀x,Pr (YE γ κ x ca))(tg l:AM):Pr (YI γ κ tg l (.enum ca)):=
 match tg,l with
 |.Tuple _ _ _,.Call (.Name x _) [a] [] _=>an (ask (x="enumerate"/\glB κ x=AC/\γ.b x=AC/\nst a=AC)) λh=>an (fa a) λha=>ok λm S X G=>by
  let⟨rfl,h1,h2,h3⟩:=h;exact zhl (zl G h1) (G.glo.B _ h2) (ha m S X G) (zcE h3)
 |_,_=>AB
def gNm(κ:Kx):(l:List Nat)->(es:List AM)->Pr (∀m S X,Good γ κ m S X->PGs X es (gNs l)/\(assignEach es X.env).length=l.length/\(assignEach es X.env).findIdx? (·.1)=AB)
 |[],[]=>ok λ_ _ _ _=>⟨zet,rfl,rfl⟩
 |i::l,.Name x _::es=>an (ask (setB κ i x=AC)) λh=>an (gNm κ l es) λhr=>ok λm S X G=>by
  have s:=zN G h;let⟨h1,h2,h3⟩:=hr m S X G;refine⟨zcW s.d s.i s.l h1 s.f,?_,?_⟩
  .simp only[assignEach,Ag,h2]
  .simp only[assignEach,FX,h3];rfl
 |_,_=>AB
def mTg(ct:Tg)(tg:AM):Pr (YG γ κ tg ct):=
 match ct,tg with
 |.n i,.Name x _=>an (ask (setB κ i x=AC)) λh=>ok λm S X G=>let s:=zN G h;ze4 s.d s.i s.l s.f
 |.t l,.Tuple es _ _=>hf κ λhκ=>an (gNm κ l es) λh=>ok λm S X G=>zgk (G.calm hκ) (h m S X G).1 (h m S X G).2.1 (h m S X G).2.2
 |_,_=>AB
def tgN:AM->List AN
 |.Name x _=>[x]
 |.Tuple es _ _=>es.filterMap fun
  |.Name x _=>AA x
  |_=>AB
 |_=>[]
def yc0(N:List AN)(sl:List (Option Nat))(tg:AM):List Str:=tgN tg++(sl.drop (tgN tg).length).filterMap λo=>o.bind λj=>N[j]?
def yW(sc so:Ao):Scope:={sc with names:=sc.names.map λ(n,k)=>if (k==CA&&so.kind==.function&&so.names.lookup n==AA .cell)then(n,Dx)else(n,k)}
def yU(N:List AN)(so sc:Ao)(NC:List AN)(sl:List (Option Nat)):Bool:=
 decide (sc.kind=.function)&&(sc.names.all λy=>y.2 != .local || decide (sc.names.lookup y.1=AA .local))&&(sc.names.all λy=>y.2 != .cell)&&(sc.names.all λy=>y.2 != .free || decide (so.names.lookup y.1=AA .cell)) &&
  ((NC.zip sl).all λp=>p.2.all λj=>decide (N[j]?=AA p.1/\sc.names.lookup p.1=AA .free))&&decide (sl.length=NC.length)
def zc3{X:Cx}{sc:Ao}{NC:List AN}{sl:List (Option Nat)}(h:yU X.N X.env.scope sc NC sl=AC):yK X sc NC sl:=by
 erw[yU,AJ,decide_eq_true_eq,A4,CS,bne_iff_ne,ne_eq]at h;let⟨⟨⟨⟨⟨h1,h2⟩,h3⟩,h4⟩,h5⟩,h6⟩:=h;exact zlh _ _ rfl rfl h1 (λy hy e=>(h2 y hy).resolve_left λz=>z e) h3 (λy hy e=>(h4 y hy).resolve_left λz=>z e) (λp hp=>by simpa using h5 p hp) h6
theorem Good.comp{m:Nat}{S:Se}{X:Cx}(G:Good γ κ m S X)(sc:Ao)(NC:List AN)(j:CI):Good γ ⟨NC,yW sc κ.sc,AE,κ.h⟩ m S (cxC X sc NC j):=by
 refine⟨rfl,?_,G.calm,G.room,G.hd,(λh=>nomatch h),(λh=>nomatch h),⟨G.glo.F,G.glo.Q,G.glo.C,G.glo.D,G.glo.E,G.glo.N,G.glo.B,G.glo.T,G.glo.A,G.glo.M,λy D h=>let ⟨fa,fdd,ps,M,d⟩:=G.glo.K y D h;⟨fa,fdd,ps,⟨M.F,M.kp,M.b⟩,d⟩,G.glo.V,G.glo.I,G.glo.L,G.glo.H,G.glo.Z⟩⟩;show relabel sc X.env=_;rw[<-G.sc];rfl
def yf3(c:Ce)(f:∀x,Pr (YT γ κ x c))(ifs:List AM):Pr (∀m S X,Good γ κ m S X->PTs X ifs (tT0 S X.K c)):=
 match ifs with
 |[]=>match c with
  |.cst (.bl AC)=>ok λ_ _ _ _=>zfM
  |_=>AB
 |[a]=>an (f a) λh=>ok λm S X G=>zh3 rfl (h m S X G)
 |_=>AB
structure ycq(γ:Gs)(κ:Kx)(sl:List (Option Nat))(ct:Tg)(ci:Cit)(cc ce:Ce)(elt tg it:AM)(ifs:List AM)(sc:Ao):Prop where
 q:∀m S X,Good γ κ m S X->∃NC,yK X sc NC sl/\PI X tg it (tI S X ci)/\(∀j,PG (cxC X sc NC j) tg (tG0 S X.K ct))/\(∀j,PTs (cxC X sc NC j) ifs (tT0 S X.K cc))/\∀j,PE (cxC X sc NC j) elt (tE0 S X.K ce)
 f:yt ct sl=AC
 s:nse it=AC
def mCo(sl:List (Option Nat))(ct:Tg)(fi:∀tg l,Pr (YI γ κ tg l ci))(C:Ev γ cc)(E:Ev γ ce)(elt tg it:AM)(ifs:List AM)(sc:Ao):Pr (ycq γ κ sl ct ci cc ce elt tg it ifs sc):=
 an (ask (yU κ.N κ.sc sc (yc0 κ.N sl tg) sl=AC/\yt ct sl=AC/\nse it=AC)) λh=>an (fi tg it) λhi=>an (mTg (γ:=γ) (κ:=⟨yc0 κ.N sl tg,yW sc κ.sc,AE,κ.h⟩) ct tg) λhg=>
  an (yf3 (γ:=γ) (κ:=⟨yc0 κ.N sl tg,yW sc κ.sc,AE,κ.h⟩) cc (C.t _) ifs) λht=>an (E.e ⟨yc0 κ.N sl tg,yW sc κ.sc,AE,κ.h⟩ elt) λhe=>ok ⟨λm S X G=>⟨yc0 κ.N sl tg,by
   rw[<-G.n,<-G.sc]at h;rw[<-G.n];exact zc3 h.1,hi m S X G,λj=>z7 rfl (hg m S _ (G.comp sc _ j)),λj=>ht m S _ (G.comp sc _ j),λj=>zav rfl (he m S _ (G.comp sc _ j))⟩,h.2.1,h.2.2⟩
def ydB(sl:List (Option Nat))(ct:Tg)(fi:∀tg l,Pr (YI γ κ tg l ci))(C:Ev γ cc)(E:Ev γ ce)(e:AM):Pr (YE γ κ e (.comp sl ct ci cc ce)):=
 match e with
 |.ListComp elt [⟨tg,it,ifs,0⟩] sc _=>hf κ λhκ=>an (mCo sl ct fi C E elt tg it ifs sc) λh=>ok λm S X G=>by
  let⟨NC,h1,h2,h3,h4,h5⟩:=h.q m S X G;exact zgX (G.calm hκ) h1 h.f h2 h3 h4 h5 (fse h.s)
 |_=>AB
def ycG(sl:List (Option Nat))(ct:Tg)(fi:∀tg l,Pr (YI γ κ tg l ci))(C:Ev γ cc)(E:Ev γ ce)(e:AM):Pr (YE γ κ e (.thw (.comp sl ct ci cc ce))):=
 match e with
 |.ListComp elt [⟨tg,it,ifs,0⟩] sc _=>hf κ λhκ=>an (mCo sl ct fi C E elt tg it ifs sc) λh=>ok λm S X G=>by
  let⟨NC,h1,h2,h3,h4,h5⟩:=h.q m S X G;exact(zeW (G.calm hκ) h1 h2 h3 h4 h5 (fse h.s)).imp λσ H Q q=>zc8 h.f q
 |_=>AB
end
section
variable {γ:Gs}{κ:Kx}{ca ce ck cv m:Ce}{ci:Cit}{ct:Tg}
theorem Good.compL{n:Nat}{S:Se}{X:Cx}(G:Good γ κ n S X)(sc:Ao)(NC:List AN)(own:AG->List (AN×AG))(fn:AN->Bool)(j:CI):Good γ ⟨NC,yW sc κ.sc,AE,κ.h⟩ n S (cxL X sc NC own fn j):=by
 refine⟨rfl,?_,G.calm,G.room,G.hd,(λh=>nomatch h),(λh=>nomatch h),⟨G.glo.F,G.glo.Q,G.glo.C,G.glo.D,G.glo.E,G.glo.N,G.glo.B,G.glo.T,G.glo.A,G.glo.M,λy D h=>let ⟨fa,fdd,ps,M,d⟩:=G.glo.K y D h;⟨fa,fdd,ps,⟨M.F,M.kp,M.b⟩,d⟩,G.glo.V,G.glo.I,G.glo.L,G.glo.H,G.glo.Z⟩⟩;show relabel sc X.env=_;rw[<-G.sc];rfl
def ydr(fb:AN->Bool)(κ:Kx)(i:Nat)(x:AN):Bool:=decide (κ.N[i]?=AA x)&&decide κ.N.Nodup&&ycH κ.sc x&&(fb x || decide (κ.sc.names.lookup x=AA .local))&&pln x
def zdG{n:Nat}{S:Se}{X:Cx}{fb:AN->Bool}(G:Good γ κ n S X)(hf:∀x,fb x=AC->X.fn x=AC){i:Nat}{x:AN}(h:ydr fb κ i x=AC):ycI X i x:=by
 erw[ydr,AJ,CS,decide_eq_true_eq]at h;let⟨⟨⟨⟨h1,h2⟩,h3⟩,h4⟩,h5⟩:=h;exact⟨by rw[G.n];exact h2,by rw[G.n];exact h1,by rw[G.sc];exact zcf h3,h4.imp (hf x) λh4=>by rw[G.sc];exact h4,h5⟩
def yeY(fb:AN->Bool)(κ:Kx):(l:List Nat)->(es:List AM)->Pr (∀n S X,Good γ κ n S X->(∀x,fb x=AC->X.fn x=AC)->PGs X es (gNs l)/\(assignEach es X.env).length=l.length/\(assignEach es X.env).findIdx? (·.1)=AB)
 |[],[]=>ok λ_ _ _ _ _=>⟨zet,rfl,rfl⟩
 |i::l,.Name x _::es=>an (ask (ydr fb κ i x=AC)) λh=>an (yeY fb κ l es) λhr=>ok λn S X G F=>by
  have s:=zdG G F h;let⟨h1,h2,h3⟩:=hr n S X G F;refine⟨zcW s.d s.i s.l h1 s.f,?_,?_⟩
  .simp only[assignEach,Ag,h2]
  .simp only[assignEach,FX,h3];rfl
 |_,_=>AB
def ycu(fb:AN->Bool)(ct:Tg)(tg:AM):Pr (∀n S X,Good γ κ n S X->(∀x,fb x=AC->X.fn x=AC)->PG X tg (tG S X ct)):=
 match ct,tg with
 |.n i,.Name x _=>an (ask (ydr fb κ i x=AC)) λh=>ok λn S X G F=>let s:=zdG G F h;ze4 s.d s.i s.l s.f
 |.t l,.Tuple es _ _=>hf κ λhκ=>an (yeY fb κ l es) λh=>ok λn S X G F=>zgk (G.calm hκ) (h n S X G F).1 (h n S X G F).2.1 (h n S X G F).2.2
 |_,_=>AB
abbrev YID(γ:Gs)(κ:Kx)(tg l:AM)(c:Cit):Prop:=∀n S X,Good γ κ n S X->∀D,PI X tg l (tID S X c D)
def yeh(e:∀x,Pr (YE γ κ x ca))(tg l:AM):Pr (YID γ κ tg l (.seq ca)):=an (e l) λh=>ok λn S X G D=>zh6 (h n S X G)
def ygA(fa:∀x,Pr (YE γ κ x ca))(tg l:AM):Pr (YID γ κ tg l (.range1 ca)):=
 match l with
 |.Call (.Name x _) [a] [] _=>an (ask (x="range"/\glB κ x=AC/\γ.b x=AC/\nst a=AC)) λh=>an (fa a) λha=>ok λn S X G D=>by
  let⟨rfl,h1,h2,h3⟩:=h;exact zdg (zl G h1) (G.glo.B _ h2) (ha n S X G) (zcE h3)
 |_=>AB
def ziq:∀(l:List (AN×Bl)) (n:Nat) (acc:List (AN×AG)),(l.filter λy=>y.2==.cell)=[]->cellsFrom n l acc=acc
 |[],_,_,_=>rfl
 |(x,k)::l,n,acc,h=>by
  cases e:k==.cell with
  |true=>erw[B0,e,if_true]at h;cases h
  |false=>erw[B0,e]at h;erw[cellsFrom,e];exact ziq l n acc h
def zgl{x0:AN}{k0:Bl}:∀(l:List (AN×Bl)) (n:Nat) (acc:List (AN×AG)),(l.filter λy=>y.2==.cell)=[(x0,k0)]->cellsFrom n l acc=(x0,n)::acc
 |[],_,_,h=>nomatch h
 |(x,k)::l,n,acc,h=>by
  cases e:k==.cell with
  |true=>
   erw[B0,e,if_true]at h;injection h with h1 h2
   cases h1
   erw[cellsFrom,e,if_true];exact ziq l _ _ h2
  |false=>erw[B0,e]at h;erw[cellsFrom,e];exact zgl l n acc h
def ziY:∀(l:List (AN×Bl)) (h:An),(l.filter λy=>y.2==.cell)=[]->pushCells h l=h
 |[],_,_=>rfl
 |(x,k)::l,n,h=>by
  cases e:k==.cell with
  |true=>erw[B0,e,if_true]at h;cases h
  |false=>erw[B0,e]at h;erw[pushCells,e];exact ziY l n h
def zgO{x0:AN}{k0:Bl}:∀(l:List (AN×Bl)) (h:An),(l.filter λy=>y.2==.cell)=[(x0,k0)]->pushCells h l=h.push {cls:=.type "cell",data:=.cell AB}
 |[],_,h=>nomatch h
 |(x,k)::l,n,h=>by
  cases e:k==.cell with
  |true=>
   erw[B0,e,if_true]at h;injection h with h1 h2;erw[pushCells,e,if_true];exact ziY l _ h2
  |false=>erw[B0,e]at h;erw[pushCells,e];exact zgO l n h
def ybu(N:List AN)(so sc:Ao)(NC:List AN)(sl:List (Option Nat))(x0:AN):Bool:=
 decide (sc.kind=.function)&&(sc.names.all λy=>y.2 != .local || decide (sc.names.lookup y.1=AA .local))&&decide ((sc.names.filter λy=>y.2==.cell)=[(x0,.cell)])&&(sc.names.all λy=>y.2 != .free || (decide (so.names.lookup y.1=AA .cell)&&!(y.1==x0))) &&
  ((NC.zip sl).all λp=>p.2.all λj=>decide (N[j]?=AA p.1/\sc.names.lookup p.1=AA .free))&&decide (sl.length=NC.length)
def ze5{X:Cx}{sc:Ao}{NC:List AN}{sl:List (Option Nat)}{x0:AN}(h:ybu X.N X.env.scope sc NC sl x0=AC):yM X sc NC sl x0:=by
 erw[ybu,AJ,decide_eq_true_eq,A4,CS,bne_iff_ne,ne_eq,BH]at h;let⟨⟨⟨⟨⟨h1,h2⟩,h3⟩,h4⟩,h5⟩,h6⟩:=h;refine zln _ _ rfl rfl h1 (λy hy e=>(h2 y hy).resolve_left λz=>z e) (λy hy e=>?_) (λy hy e=>((h4 y hy).resolve_left λz=>z e).2) (λn acc=>zgl _ n acc h3) (λg=>zgO _ g h3) (λy hy e=>((h4 y hy).resolve_left λz=>z e).1) (λp hp=>by simpa using h5 p hp) h6;have q:y∈sc.names.filter λy=>y.2==.cell:=E5.2 ⟨hy,by rw[e];rfl⟩;rw[h3]at q;rw[Dm.1 q]
structure yfk(γ:Gs)(κ:Kx)(sc:Ao)(NC:List AN)(sl:List (Option Nat))(fb:AN->Bool):Prop where
 q:∀n S X,Good γ κ n S X->∃own fn,ybe X sc NC sl own fn/\∀x,fb x=AC->fn x=AC
def yaI(sc:Ao):Option Str:=(sc.names.find? λy=>y.2==.cell).map (·.1)
def yej(sc:Ao)(NC:List AN)(sl:List (Option Nat)):(o:Option AN)->Pr (yfk γ κ sc NC sl λx=>o==AA x)
 |none=>an (ask (yU κ.N κ.sc sc NC sl=AC)) λh=>ok ⟨λn S X G=>⟨_,_,(zc3 (by rw[<-G.n,<-G.sc]at h;exact h)).blk,λx z=>by cases z⟩⟩
 |some x0=>an (ask (ybu κ.N κ.sc sc NC sl x0=AC)) λh=>ok ⟨λn S X G=>⟨_,_,(ze5 (by rw[<-G.n,<-G.sc]at h;exact h)).blk,λx z=>by
  have e:AA x0=AA x:=eq_of_beq z
  cases e
  exact beq_self_eq_true x0⟩⟩
def ncL(N:List AN)(sl:List (Option Nat))(own:List AN):List Str:=own++(sl.drop own.length).filterMap λo=>o.bind λj=>N[j]?
def yd1(sl:List (Option Nat))(ct ct2:Tg){ci2:Cit}(fi:∀tg l,Pr (YI γ κ tg l ci))(fi2:∀κ tg l,Pr (YID γ κ tg l ci2))(E:Ev γ ce)(e:AM):Pr (YE γ κ e (.cmq sl ct ci (.emq ct2 ci2 (.tup (.cons ce .nil))))):=
 match e with
 |.ListComp elt [⟨tg,it,[],0⟩,⟨tg2,it2,[],0⟩] sc _=>hf κ λhκ=>an (ask (yt ct sl=AC/\nse it=AC/\nse it2=AC)) λh=>
  an (yej (κ:=κ) sc (ncL κ.N sl (tgN tg++tgN tg2)) sl (yaI sc)) λhB=>an (fi tg it) λhi=>an (ycu (κ:=⟨ncL κ.N sl (tgN tg++tgN tg2),yW sc κ.sc,AE,κ.h⟩) (λx=>yaI sc==AA x) ct tg) λhg=>an (ycu (κ:=⟨ncL κ.N sl (tgN tg++tgN tg2),yW sc κ.sc,AE,κ.h⟩) (λx=>yaI sc==AA x) ct2 tg2) λhg2=>
  an (fi2 ⟨ncL κ.N sl (tgN tg++tgN tg2),yW sc κ.sc,AE,κ.h⟩ tg2 it2) λhi2=>an (E.e ⟨ncL κ.N sl (tgN tg++tgN tg2),yW sc κ.sc,AE,κ.h⟩ elt) λhe=>ok λn S X G=>by
   let⟨own,fn,O,hfn⟩:=hB.q n S X G;have GC:=λj=>G.compL sc (ncL κ.N sl (tgN tg++tgN tg2)) own fn j;exact(zc1 (em:=λD env=>nextM it2 (.ListComp elt [⟨tg,it,[],0⟩,⟨tg2,it2,[],0⟩] sc _) 1 (.ref D) env) (G.calm hκ) O (λj D=>zbz) (hi n S X G) (λj=>z7 rfl (hg n S _ (GC j) hfn)) (λj=>zaK)
    (λj D=>zcc (Y:=cxL X sc (ncL κ.N sl (tgN tg++tgN tg2)) own fn j) rfl (G.calm hκ) zdD (hi2 n S _ (GC j) D) (z7 rfl (hg2 n S _ (GC j) hfn)) (zei (zav rfl (he n S _ (GC j)))) (fse h.2.2)) (fse h.2.1)).imp λσ H Q q=>zaZ h.1 q
 |_=>AB
def ydU(sl:List (Option Nat))(ct ct2 ct3:Tg){ci2 ci3:Cit}(fi:∀tg l,Pr (YI γ κ tg l ci))(fi2:∀κ tg l,Pr (YID γ κ tg l ci2))(fi3:∀κ tg l,Pr (YID γ κ tg l ci3))(E:Ev γ ce)(e:AM):Pr (YE γ κ e (.cmq sl ct ci (.emq ct2 ci2 (.emq ct3 ci3 (.tup (.cons ce .nil)))))):=
 match e with
 |.ListComp elt [⟨tg,it,[],0⟩,⟨tg2,it2,[],0⟩,⟨tg3,it3,[],0⟩] sc _=>hf κ λhκ=>an (ask (yt ct sl=AC/\nse it=AC/\nse it2=AC/\nse it3=AC)) λh=>
  an (yej (κ:=κ) sc (ncL κ.N sl (tgN tg++(tgN tg2++tgN tg3))) sl (yaI sc)) λhB=>an (fi tg it) λhi=>an (ycu (κ:=⟨ncL κ.N sl (tgN tg++(tgN tg2++tgN tg3)),yW sc κ.sc,AE,κ.h⟩) (λx=>yaI sc==AA x) ct tg) λhg=>an (ycu (κ:=⟨ncL κ.N sl (tgN tg++(tgN tg2++tgN tg3)),yW sc κ.sc,AE,κ.h⟩) (λx=>yaI sc==AA x) ct2 tg2) λhg2=>an (ycu (κ:=⟨ncL κ.N sl (tgN tg++(tgN tg2++tgN tg3)),yW sc κ.sc,AE,κ.h⟩) (λx=>yaI sc==AA x) ct3 tg3) λhg3=>
  an (fi2 ⟨ncL κ.N sl (tgN tg++(tgN tg2++tgN tg3)),yW sc κ.sc,AE,κ.h⟩ tg2 it2) λhi2=>an (fi3 ⟨ncL κ.N sl (tgN tg++(tgN tg2++tgN tg3)),yW sc κ.sc,AE,κ.h⟩ tg3 it3) λhi3=>an (E.e ⟨ncL κ.N sl (tgN tg++(tgN tg2++tgN tg3)),yW sc κ.sc,AE,κ.h⟩ elt) λhe=>ok λn S X G=>by
   let⟨own,fn,O,hfn⟩:=hB.q n S X G;have GC:=λj=>G.compL sc (ncL κ.N sl (tgN tg++(tgN tg2++tgN tg3))) own fn j;exact(zc1 (em:=λD env=>nextM it2 (.ListComp elt [⟨tg,it,[],0⟩,⟨tg2,it2,[],0⟩,⟨tg3,it3,[],0⟩] sc _) 1 (.ref D) env) (G.calm hκ) O (λj D=>zbz) (hi n S X G) (λj=>z7 rfl (hg n S _ (GC j) hfn)) (λj=>zaK)
    (λj D=>zcc (Y:=cxL X sc (ncL κ.N sl (tgN tg++(tgN tg2++tgN tg3))) own fn j) rfl (G.calm hκ) zdZ (hi2 n S _ (GC j) D) (z7 rfl (hg2 n S _ (GC j) hfn))
     (zcc (Y:=cxL X sc (ncL κ.N sl (tgN tg++(tgN tg2++tgN tg3))) own fn j) rfl (G.calm hκ) zeo (hi3 n S _ (GC j) D) (z7 rfl (hg3 n S _ (GC j) hfn)) (zei (zav rfl (he n S _ (GC j)))) (fse h.2.2.2)) (fse h.2.2.1)) (fse h.2.1)).imp λσ H Q q=>zaZ h.1 q
 |_=>AB
def yf7(sl:List (Option Nat))(ct:Tg)(fi:∀tg l,Pr (YI γ κ tg l ci))(Ek:Ev γ ck)(Ew:Ev γ cv)(e:AM):Pr (YE γ κ e (.dcm sl ct ci ck cv)):=
 match e with
 |.DictComp kx vx [⟨tg,it,[],0⟩] sc _=>hf κ λhκ=>an (ask (yt ct sl=AC/\nse it=AC)) λh=>
  an (yej (κ:=κ) sc (ncL κ.N sl (tgN tg)) sl (yaI sc)) λhB=>an (fi tg it) λhi=>an (ycu (κ:=⟨ncL κ.N sl (tgN tg),yW sc κ.sc,AE,κ.h⟩) (λx=>yaI sc==AA x) ct tg) λhg=>
  an (Ek.e ⟨ncL κ.N sl (tgN tg),yW sc κ.sc,AE,κ.h⟩ kx) λhk=>an (Ew.e ⟨ncL κ.N sl (tgN tg),yW sc κ.sc,AE,κ.h⟩ vx) λhv=>ok λn S X G=>by
   let⟨own,fn,O,hfn⟩:=hB.q n S X G;have GC:=λj=>G.compL sc (ncL κ.N sl (tgN tg)) own fn j;exact(zft (em:=λD env=>do
    let kv <-eval kx env
    let vv <-holding [kv] (eval vx env)
    standAt {kx.pos with endLine:=vx.pos.endLine,endCol:=vx.pos.endCol}
    holding [kv,vv] (dictSet D kv vv)) (G.calm hκ) O (λj D=>zfn) (hi n S X G) (λj=>z7 rfl (hg n S _ (GC j) hfn)) (λj=>zaK)
    (λj D=>zke (Y:=cxL X sc (ncL κ.N sl (tgN tg)) own fn j) (zh4 G.room) (zav rfl (hk n S _ (GC j))) (zav rfl (hv n S _ (GC j)))) (fse h.2)).imp λσ H Q q=>zdl h.1 q
 |_=>AB
end
section
variable {γ:Gs}{κ:Kx}
end
section
variable {γ:Gs}{κ:Kx}
end
mutual
noncomputable def ch(γ:Gs):(c:Ce)->Ev γ c
 |.cst v=>plain λκ x=>ygn v x
 |.var i=>plain λκ x=>ygw i x
 |.bin o a b=>plain λκ x=>yfV o x ((ch γ a).e κ) ((ch γ b).e κ)
 |.rep a b=>plain λκ x=>ygC x ((ch γ a).e κ) ((ch γ b).e κ)
 |.not a=>ycf (λκ x=>ygb x ((ch γ a).e κ)) (yfT (ch γ a))
 |.and a b=>ydV (ch γ a) (ch γ b)
 |.or a b=>ygx (ch γ a) (ch γ b)
 |.cmp o a b=>ycf (λκ x=>yfW o x ((ch γ a).e κ) ((ch γ b).e κ)) (λκ x=>ydR o x ((ch γ a).e κ) ((ch γ b).e κ))
 |.ite c a b=>plain λκ x=>ye7 x ((ch γ c).t κ) ((ch γ a).e κ) ((ch γ b).e κ)
 |.tup es=>plain λκ x=>yfR x (yaJ (chs γ es κ))
 |.lst es=>plain λκ x=>yfc x (yaJ (chs γ es κ))
 |.newl es=>plain λκ x=>yei x (yaJ (chs γ es κ))
 |.cmq sl t it (.emq t2 it2 (.tup (.cons e .nil)))=>plain λκ x=>yd1 sl t t2 (chi γ it κ) (chd γ it2) (ch γ e) x
 |.cmq sl t it (.emq t2 it2 (.emq t3 it3 (.tup (.cons e .nil))))=>plain λκ x=>ydU sl t t2 t3 (chi γ it κ) (chd γ it2) (chd γ it3) (ch γ e) x
 |.dcm sl t it k v=>plain λκ x=>yf7 sl t (chi γ it κ) (ch γ k) (ch γ v) x
 |.idx a i=>plain λκ x=>mIdx x ((ch γ a).e κ) ((ch γ i).e κ)
 |.dgt a i=>plain λκ x=>ygl x ((ch γ a).e κ) ((ch γ i).e κ)
 |.slc a l h=>plain λκ x=>ygt x ((ch γ a).e κ) (λo=>yeB l o ((ch γ l).e κ)) (λo=>yeB h o ((ch γ h).e κ))
 |.call f es=>plain λκ x=>hf κ λh=>yf6 h f (chs γ es κ) x
 |.fst es=>plain λκ x=>yft (chs γ es κ) x
 |.qcl i es=>plain λκ x=>yfP i (chs γ es κ) x
 |.isx a cs ts=>plain λκ x=>yfu cs ts x ((ch γ a).e κ)
 |.nin a b=>ycf (λκ x=>ygm x ((ch γ a).e κ) ((ch γ b).e κ)) (λκ x=>ydX x ((ch γ a).e κ) ((ch γ b).e κ))
 |.thw (.comp sl tg it c e)=>plain λκ x=>ycG sl tg (chi γ it κ) (ch γ c) (ch γ e) x
 |.blt b es=>plain λκ x=>yfS b (chs γ es κ) x
 |.mth k o es=>plain λκ x=>yfb k (chs γ es κ) x ((ch γ o).e κ)
 |.comp sl tg it c e=>plain λκ x=>ydB sl tg (chi γ it κ) (ch γ c) (ch γ e) x
 |.nope=>plain λκ x=>ok λ_ _ _ _=>zhf
 |_=>plain λ_ _=>AB
noncomputable def chs(γ:Gs):(cs:Ces)->(κ:Kx)->Fs γ κ cs
 |.nil,_=>.nil
 |.cons c cs,κ=>.cons (λx=>(ch γ c).e κ x) (chs γ cs κ)
noncomputable def chd(γ:Gs):(c:Cit)->(κ:Kx)->∀tg l,Pr (YID γ κ tg l c)
 |.seq a,κ=>yeh ((ch γ a).e κ)
 |.range1 a,κ=>ygA ((ch γ a).e κ)
 |_,_=>λ_ _=>AB
noncomputable def chi(γ:Gs):(c:Cit)->(κ:Kx)->∀tg l,Pr (YI γ κ tg l c)
 |.seq a,κ=>yfg ((ch γ a).e κ)
 |.range1 a,κ=>iR1 ((ch γ a).e κ)
 |.enum a,κ=>yd7 ((ch γ a).e κ)
 |_,_=>λ_ _=>AB
end
section
variable {γ:Gs}{κ:Kx}{ca cb cc ce:Ce}{ci:Cit}{ct:Tg}{cs cs':Css}{ces:Ces}
def swB(so:Ao)(x:AN)(px pos:Bc)(sc:Ao):Bool:=(if so.kind.isAnnotationScope then Dn else so.kind)==.function&&so.names.lookup x==AA .local&&px.line==pos.line&&!(sc.names.any λ(n,k)=>n==x&&(k==.local || k==.cell))
def zlo{elt:AM}{gs:List CC}{sc:Ao}{pos px:Bc}{x:AN}{l:Nat}{env:BF}:swapsWith (.ListComp elt gs sc pos) (AA (.Name x px)) l env=pure (swB env.scope x px pos sc):=rfl
def yen(f:∀x,Pr (YE γ κ x ca))(s:Bd):Pr (YS γ κ s (.expr ca)):=
 match s with
 |.Expr a _=>an (ask (nco a=AC)) λhs=>an (f a) λh=>ok λm S X G=>zhq (h m S X G) (swp hs)
 |_=>AB
def yfI(i:Nat)(f:∀x,Pr (YE γ κ x ca))(s:Bd):Pr (YS γ κ s (.asg (.n i) ca)):=
 match s with
 |.Assign [.Name x _] a _=>an (ask (nco a=AC/\setB κ i x=AC)) λhs=>an (f a) λh=>ok λm S X G=>let q:=zN G hs.2;zjk q.d q.i q.l (h m S X G) (swp hs.1) q.f
 |_=>AB
def ydE(i:Nat)(sl:List (Option Nat))(ct:Tg)(fi:∀tg l,Pr (YI γ κ tg l ci))(C:Ev γ cc)(E:Ev γ ce)(s:Bd):Pr (YS γ κ s (.asg (.n i) (.comp sl ct ci cc ce))):=
 match s with
 |.Assign [.Name x px] (.ListComp elt [⟨tg,it,ifs,0⟩] sc p) _=>hf κ λhκ=>an (ask (setB κ i x=AC/\swB κ.sc x px p sc=AC)) λhs=>an (mCo sl ct fi C E elt tg it ifs sc) λh=>ok λm S X G=>by
  let⟨NC,h1,h2,h3,h4,h5⟩:=h.q m S X G;have q:=zN G hs.1;exact zhh q.d q.i q.l (G.calm hκ) h1 h.f h2 h3 h4 h5 (by rw[zlo,G.sc,hs.2]) (fse h.s) q.f
 |_=>AB
def zk5{a:AM}(h:nst a=AC):(match (generalizing:=false) a with | .Starred _ _=>AC|_=>AE)=false:=by
 revert h;cases a<;>intro h<;>first|rfl|cases h
def swD(so:Ao)(x y:AN)(px py:Bc)(a b:AM):Bool:=(if so.kind.isAnnotationScope then Dn else so.kind)==.function&&so.names.lookup x==AA .local&&so.names.lookup y==AA .local&&py.line==px.line&&nst a&&nst b&&!(x==y)&&!(foldedForSure 8 a&&foldedForSure 8 b)&&!(constantsAlone 8 a&&constantsAlone 8 b)
def zlp{x y:AN}{px py pt pt2:Bc}{kt k2:Nat}{a b:AM}{env:BF}(h:swD env.scope x y px py a b=AC):
  swappedStores [.Tuple [.Name x px,.Name y py] kt pt] (.Tuple [a,b] k2 pt2) env=pure (AA [x,y]):=by
 erw[swD,AJ,BH]at h;let⟨⟨⟨⟨⟨⟨⟨⟨h1,h2⟩,h3⟩,h4⟩,h5⟩,h6⟩,h7⟩,h8⟩,h9⟩:=h;have k1:(env.blockKind != .function)=false:=by
  show (!((if env.scope.kind.isAnnotationScope then Dn else env.scope.kind)==.function))=AE;rw[h1];rfl
 have k2:env.kindOf x=AA .local:=eq_of_beq h2;have k3:env.kindOf y=AA .local:=eq_of_beq h3;have k4:py.line=px.line:=eq_of_beq h4;have k7:¬y=x:=λz=>by subst z;simp at h7
 have m1:=zk5 h5;have m2:=zk5 h6;have c8:¬(foldedForSure 8 a=AC/\foldedForSure 8 b=AC):=λz=>by rw[z.1,z.2]at h8;cases h8
 have c9:¬(constantsAlone 8 a=AC/\constantsAlone 8 b=AC):=λz=>by rw[z.1,z.2]at h9;cases h9
 have x1:(Expr.Name x px).pos=px:=rfl;have x2:(Expr.Name y py).pos=py:=rfl;unfold swappedStores;simp[k1,m1,m2,k2,k3,k4,List.eraseDups_cons,k7,x1,x2,c8,c9,CD];intro z;exfalso;rcases z with z|z
 .exact AV (m1.symm.trans z)
 .exact AV (m2.symm.trans z)
def yf5(i j:Nat)(fa:∀x,Pr (YE γ κ x ca))(fb:∀x,Pr (YE γ κ x cb))(s:Bd):Pr (YS γ κ s (.asg (.t [i,j]) (.tup (.cons ca (.cons cb .nil))))):=
 match s with
 |.Assign [.Tuple [.Name x px,.Name y py] _ _] (.Tuple [a,b] _ _) _=>hf κ λhκ=>an (ask (setB κ i x=AC/\setB κ j y=AC/\i≠j/\swD κ.sc x y px py a b=AC)) λh=>an (fa a) λha=>an (fb b) λhb=>ok λm S X G=>by
  let⟨h1,h2,h3,h4⟩:=h;have q:=zN G h1;have r:=zN G h2;have h5:=h4;erw[swD,AJ]at h5;have e1:X.env.scope.names.lookup x=AA .local:=by rw[G.sc];exact eq_of_beq h5.1.1.1.1.1.1.1.2
  have e2:X.env.scope.names.lookup y=AA .local:=by rw[G.sc];exact eq_of_beq h5.1.1.1.1.1.1.2
  exact zjR (G.calm hκ) q.d q.i r.i h3 (zju (G.calm hκ) q.d q.i r.i h3 e1 e2 (zG (ha m S X G) (zG (hb m S X G) zaz (zcE h5.1.1.1.2)) (zcE h5.1.1.1.1.2)) (zlp (by rw[G.sc];exact h4)))
 |_=>AB
theorem sw0{es:List AM}{k:Nat}{p:Bc}{a:AM}{env:BF}(h:ntu a=AC):swappedStores [.Tuple es k p] a env=pure none:=by
 cases a<;>first|rfl|cases h
theorem sw1{b c:AM}{p:Bc}{a:AM}{env:BF}:swappedStores [.Subscript b c p] a env=pure none:=by
 cases a<;>rfl
def zk6{t a:AM}{l:Nat}{env:BF}(h:nco a=AC):swapsWithSole [t] a l env=pure false:=by
 show swapsWith a (AA t) l env=_;exact swp h
theorem asS{b c:AM}{pos:Bc}{env:BF}(h:nsl c=AC):∀v,assign (.Subscript b c pos) env v=(do
   let ov <-holding [v] (eval b env)
   let iv <-holding [v,ov] (eval c env)
   standAt pos
   holding [v,ov,iv] (setItem ov iv v)
   release [v,ov,iv] []):=by
 cases c<;>first|exact λ_=>rfl|cases h
def ygc(l:List Nat)(f:∀x,Pr (YE γ κ x ca))(s:Bd):Pr (YS γ κ s (.asg (.t l) ca)):=
 match s with
 |.Assign [.Tuple es k p] a _=>an (ask (nco a=AC/\ntu a=AC)) λhs=>an (mTg (γ:=γ) (κ:=κ) (.t l) (.Tuple es k p)) λhg=>an (f a) λh=>ok λm S X G=>zhs (h m S X G) (hg m S X G) (zk6 hs.1) (sw0 hs.2)
 |_=>AB
def yfy(f:∀x,Pr (YE γ κ x cc))(fo:∀x,Pr (YE γ κ x ca))(fi:∀x,Pr (YE γ κ x cb))(s:Bd):Pr (YS γ κ s (.six ca cb cc)):=
 match s with
 |.Assign [.Subscript b c _] a _=>an (ask (nco a=AC/\nsl c=AC)) λhs=>an (f a) λh=>an (fo b) λho=>an (fi c) λhi=>ok λm S X G=>ziK (h m S X G) (ho m S X G) (hi m S X G) (zk6 hs.1) sw1 (zgM (ho m S X G) (hi m S X G) zcD (asS hs.2))
 |_=>AB
def ygq(op:EC)(o:BOp):Pr (∀S X,PIp X op (rT2 S X (yba o))):=
 match op,o with
 |.Add,.add=>ok λ_ _=>zha
 |_,_=>AB
def ygo(i:Nat)(o:BOp)(f:∀x,Pr (YE γ κ x ca))(s:Bd):Pr (YS γ κ s (.aug i o ca)):=
 match s with
 |.AugAssign (.Name x _) op a _=>an (ask (setB κ i x=AC)) λh=>an (ygq op o) λhp=>an (f a) λha=>ok λm S X G=>let q:=zN G h;ziv q.d q.i q.l (ha m S X G) (hp S X) q.f (zkN q.p) (zkY q.p)
 |_=>AB
def yfG(c:Ce)(f:∀x,Pr (YE γ κ x c))(s:Bd):Pr (YS γ κ s (.ret c)):=
 match s with
 |.Return (AA a) _=>an (f a) λh=>ok λm S X G=>zi0 (h m S X G)
 |.Return AB _=>match c with
  |.cst .non=>ok λ_ _ _ _=>zid
  |_=>AB
 |_=>AB
def sIf(fc:∀x,Pr (YT γ κ x cc))(fa:∀x,Pr (YSs γ κ x cs))(fb:∀x,Pr (YSs γ κ x cs'))(s:Bd):Pr (YS γ κ s (.ite cc cs cs')):=
 match s with
 |.If c a b _=>an (fc c) λhc=>an (fa a) λha=>an (fb b) λhb=>ok λm S X G=>zkB (hc m S X G) (ha m S X G) (hb m S X G)
 |_=>AB
def ye4(ct:Tg)(fi:∀tg l,Pr (YI γ κ tg l ci))(fb:∀x,Pr (YSs γ κ x cs))(s:Bd):Pr (YS γ κ s (.for ct ci cs)):=
 match s with
 |.For tg l b [] _=>hf κ λhκ=>an (ask (κ.own=AC/\nse l=AC)) λho=>an (fi tg l) λhi=>an (mTg (γ:=γ) (κ:=κ) ct tg) λhg=>an (fb b) λhb=>ok λm S X G=>ziL (G.own ho.1).1 (G.calm hκ) (hi m S X G) (hg m S X G) (hb m S X G) (fse ho.2)
 |_=>AB
def ydF(ct:Tg)(fa:∀x,Pr (YE γ κ x ca))(fb:∀x,Pr (YSs γ κ x cs))(s:Bd):Pr (YS γ κ s (.forl ct ca cs)):=
 match s with
 |.For tg l b [] _=>hf κ λhκ=>an (ask (κ.own=AC/\nse l=AC)) λho=>an (fa l) λha=>an (mTg (γ:=γ) (κ:=κ) ct tg) λhg=>an (fb b) λhb=>ok λm S X G=>zhu (G.own ho.1).1 (G.calm hκ) (ha m S X G) (hg m S X G) (hb m S X G) (fse ho.2)
 |_=>AB
def sWh(fc:∀x,Pr (YT γ κ x cc))(fb:∀x,Pr (YSs γ κ x cs))(s:Bd):Pr (YS γ κ s (.while cc cs)):=
 match s with
 |.While c b [] _=>an (ask (κ.own=AC)) λho=>an (fc c) λhc=>an (fb b) λhb=>ok λm S X G=>zfi (G.own ho).1 (hc m S X G) (hb m S X G)
 |_=>AB
def ygi(k:Nat)(f:∀x,Pr (YE γ κ x ca))(s:Bd):Pr (YS γ κ s (.raise k ca)):=
 match s with
 |.Raise (AA (.Call (.Name x _) [a] [] _)) AB _=>hf κ λhκ=>match hx:γ.g x with
  |some (.exc c)=>an (ask (c=k/\κ.own=AC/\glB κ x=AC/\nst a=AC)) λh=>an (f a) λha=>ok λm S X G=>by
   let⟨rfl,h1,h2,h3⟩:=h;exact zf3 (G.glo.E x c hx) (G.own h1).2.2 (G.calm hκ) (zl G h2) (ha m S X G) (zcE h3) rfl (zkN (zZ h2))
  |_=>AB
 |_=>AB
def yfz(hκ:κ.h=AE)(ix:Nat)(D:List (AN×Nat)){cn:Ce}{ces:Ces}(fn:∀x,Pr (YE γ κ x cn))(F:Fs γ κ ces)(ss:List Bd):Pr (YSs γ κ ss (.cons (.mkr ix D cn ces) .nil)):=
 match ss with
 |[.Assign [.Name x _] (.Subscript (.Name y _) n _) _,.Return (AA (.Call (.Name x' _) (e::es) [] _)) _]=>match hy:γ.mr y with
  |some E=>an (ask (E=D/\x'=x/\setB κ ix x=AC/\ydo κ.sc x=AC/\glB κ y=AC/\nsl n=AC/\nst e=AC/\yca es=AC)) λh=>an (fn n) λhn=>an (yaJ F (e::es)) λha=>ok λm S X G=>by
   let⟨rfl,rfl,h1,h2,h3,h4,h5,h6⟩:=h;have q:=zN G h1;let⟨fa,fdd,ps,M,d⟩:=G.glo.K y E hy;exact zjX M ((G.rm hκ).mono (C5 m)) q.d q.i q.l (by rw[G.sc];exact zew h2) (zl G h3) d (hn m S X G) (ha m S X G) (nos h4) (swp rfl) q.f (zkN (zZ h3)) (zkN q.p) (zkY q.p) (zcE h5) (stars h6)
  |none=>AB
 |_=>AB
theorem Good.tb{m:Nat}{S:Se}{X:Cx}(G:Good γ κ m S X)(hκ:κ.h=AE)(pn:List (AG×BR))(P:St->AF->Hp->Prop):Good γ ⟨κ.N,κ.sc,AE,AE⟩ m S.quiet (yc1 X pn P):=
 ⟨G.n,G.sc,λ_=>G.calm hκ,G.room,λ_=>G.hd hκ,(λh=>nomatch h),(λh=>nomatch h),⟨G.glo.F,G.glo.Q,G.glo.C,G.glo.D,G.glo.E,G.glo.N,G.glo.B,G.glo.T,G.glo.A,G.glo.M,λy D h=>let ⟨fa,fdd,ps,M,d⟩:=G.glo.K y D h;⟨fa,fdd,ps,⟨M.F,M.kp,M.b⟩,d⟩,G.glo.V,G.glo.I,G.glo.L,G.glo.H,G.glo.Z⟩⟩
theorem Good.th{m:Nat}{S:Se}{X:Cx}(G:Good γ κ m S X)(pn:List (AG×BR))(a:AG):Good γ ⟨κ.N,κ.sc,AE,AC⟩ m S.quiet (cxS X pn a):=
 ⟨G.n,G.sc,(λh=>nomatch h),G.room.mark,(λh=>nomatch h),(λh=>nomatch h),(λh=>nomatch h),⟨G.glo.F,G.glo.Q,G.glo.C,G.glo.D,G.glo.E,G.glo.N,G.glo.B,G.glo.T,G.glo.A,G.glo.M,λy D h=>let ⟨fa,fdd,ps,M,d⟩:=G.glo.K y D h;⟨fa,fdd,ps,⟨M.F,M.kp,M.b⟩,d⟩,G.glo.V,G.glo.I,G.glo.L,G.glo.H,G.glo.Z⟩⟩
def yfe(cs:List Nat)(i:Nat){cb ch:Css}(fb:∀s,Pr (YSs γ ⟨κ.N,κ.sc,AE,AE⟩ s cb))(fh:∀s,Pr (YSs γ ⟨κ.N,κ.sc,AE,AC⟩ s ch))(s:Bd):Pr (YS γ κ s (.try cb cs i ch)):=
 match s with
 |.Try body [.ExceptHandler (AA (.Name x _)) (AA n) (b₀::suite) _] [] [] _=>hf κ λhκ=>an (ask (κ.own=AC/\κ.N.Nodup/\κ.N[i]?=AA n/\κ.sc.names.lookup n=AA .local/\glB κ x=AC/\(cs.all λc=>γ.xm c x)=AC/\cs≠[])) λh=>an (fb body) λhb=>an (fh (b₀::suite)) λhs=>ok λm S X G=>by
  let⟨h1,h2,h3,h4,h5,h6,h7⟩:=h;erw[A4]at h6;obtain⟨W,hW⟩:∃W,X.mg x=AA (.ref W):=by
   cases cs with
   |nil=>exact absurd rfl h7
   |cons c cs=>let⟨W,q,_⟩:=G.glo.H c x (h6 c AW);exact⟨W,q⟩
  refine ziu (G.top h1).1 (G.top h1).2.1 (G.top h1).2.2 (by rw[G.n];exact h2) (by rw[G.n];exact h3) (by rw[G.sc];exact h4) (zl G h5) hW (λc hc=>?_) (λpn P=>hb m _ _ (G.tb hκ pn P)) (λpn a=>hs m _ _ (G.th pn a)) (zkN (zZ h5));let⟨W',q,e⟩:=G.glo.H c x (h6 c hc);rw[hW]at q
  cases q
  exact e
 |_=>AB
end
mutual
noncomputable def chS(γ:Gs):(c:Cs)->(κ:Kx)->∀s,Pr (YS γ κ s c)
 |.expr e,κ=>yen ((ch γ e).e κ)
 |.asg (.n i) (.comp sl ct ci cc ce),κ=>ydE i sl ct (chi γ ci κ) (ch γ cc) (ch γ ce)
 |.asg (.n i) c,κ=>yfI i ((ch γ c).e κ)
 |.asg (.t [i,j]) (.tup (.cons a (.cons b .nil))),κ=>yf5 i j ((ch γ a).e κ) ((ch γ b).e κ)
 |.asg (.t l) c,κ=>ygc l ((ch γ c).e κ)
 |.six o i e,κ=>yfy ((ch γ e).e κ) ((ch γ o).e κ) ((ch γ i).e κ)
 |.aug i o e,κ=>ygo i o ((ch γ e).e κ)
 |.ret e,κ=>yfG e ((ch γ e).e κ)
 |.ite c a b,κ=>sIf ((ch γ c).t κ) (ybF γ a κ) (ybF γ b κ)
 |.for t it b,κ=>ye4 t (chi γ it κ) (ybF γ b κ)
 |.forl t a b,κ=>ydF t ((ch γ a).e κ) (ybF γ b κ)
 |.while c b,κ=>sWh ((ch γ c).t κ) (ybF γ b κ)
 |.nope,_=>λ_=>ok λ_ _ _ _=>zhp
 |.try b cs i h,κ=>yfe cs i (ybF γ b ⟨κ.N,κ.sc,AE,AE⟩) (ybF γ h ⟨κ.N,κ.sc,AE,AC⟩)
 |.raise k e,κ=>ygi k ((ch γ e).e κ)
 |_,_=>λ_=>AB
noncomputable def ybF(γ:Gs):(c:Css)->(κ:Kx)->∀s,Pr (YSs γ κ s c)
 |.nil,_,[]=>ok λ_ _ _ _=>zjL
 |.cons (.mkr ix D cn ces) .nil,κ,ss=>hf κ λh=>yfz h ix D ((ch γ cn).e κ) (chs γ ces κ) ss
 |.cons c cs,κ,s::ss=>an (chS γ c κ s) λh=>an (ybF γ cs κ ss) λhr=>ok λm S X G=>zg7 (h m S X G) (hr m S X G)
 |_,_,_=>AB
end
inductive Dk where
 |fn|fd (ds:List Int)|me (c:Nat)|ini (c:Nat)
structure Df where
 gn:AN
 nm:AN
 q:AN
 st:Bd
 N:List AN
 ps:List AN
 fn:IC.Fn
 k:Dk
def scB(N P:List AN)(sc:Ao):Bool:=decide (sc.kind=.function)&&!sc.isCoroutine&&!sc.isGenerator&&decide N.Nodup&&decide (N.take P.length=P)&&P.all (ycH sc)&&sc.names.all λy=>y.2 != .free
def zgF{N P:List AN}{sc:Ao}(h:scB N P sc=AC):yai N P sc:=by
 erw[scB,AJ,decide_eq_true_eq,BH,A4,bne_iff_ne,ne_eq]at h;let⟨⟨⟨⟨⟨⟨h1,h2⟩,h3⟩,h4⟩,h5⟩,h6⟩,h7⟩:=h;exact⟨h1,h2,h3,h4,h5,λx hx=>zcf (h6 x hx),h7⟩
def okD(γ:Gs)(d:Df):Bool:=scB d.N d.ps (yg d.st)&&decide (d.ps.length=d.fn.np)&&decide (d.N.length=d.fn.ns)&&(ybF γ d.fn.body ⟨d.N,yg d.st,AC,AE⟩ (yF d.st)).isSome
def ybk{α:Type}(P:α->Prop):List α->Prop
 |[]=>True
 |d::r=>P d/\ybk P r
theorem ybk.get{α:Type}{P:α->Prop}:∀{l:List α},ybk P l->∀d∈l,P d
 |_::_,h,d,hd=>by
  rcases A6.1 hd with rfl|hd
  .exact h.1
  .exact h.2.get d hd
def ya9:List AN->(List AF->Prop)->Prop
 |[],P=>P []
 |_::r,P=>∀a,ya9 r λus=>P (a::us)
theorem ya9.get:∀{ps:List AN} {P:List AF->Prop},ya9 ps P->∀us,us.length=ps.length->P us
 |[],P,h,[],_=>h
 |_::r,P,h,a::us,e=>(h a).get us (by simpa using e)
def yaG(d:Df):Prop:=∀(kV doc pm:AF) (an:Option AG) (cdv ct:AF),ya9 d.ps λus=>bindArgs (BU d.nm d.q (yS d.st) (yF d.st) (yg d.st) .none kV doc pm an cdv ct) ⟨us,[]⟩=pure (d.ps.zip us)
structure ybN(K:AD)(d:Df)(dv:AF)(f:AG)(fd:Am):Prop where
 ex:∃(oc:AF) (od:Option AG) (kV doc pm:AF) (an:Option AG) (cdv ct:AF) (osl:Array (Option AF)),
  fd=BU d.nm d.q (yS d.st) (yF d.st) (yg d.st) dv kV doc pm an cdv ct/\K.lookup f=AA ⟨oc,od,.func fd,osl⟩/\Bm K cdv d.q=AC
 kp:Ab K (.ref f)=AC
def At(K:AD)(cn:Nat->AN)(d:Df)(f:AG):Prop:=
 match d.k with
 |.fn=>Ay K mainGlobals d.gn=AA (AA (.ref f))/\yaG d
 |.fd _=>Ay K mainGlobals d.gn=AA (AA (.ref f))
 |.me c=>yaG d/\∃q,Ay K mainGlobals (cn c)=AA (AA (.ref q))/\Ai K (.ref q) d.nm=AA (AA (.ref f))/\Cv K (.ref f)=AC
 |.ini c=>yaG d/\∃q,Ay K mainGlobals (cn c)=AA (AA (.ref q))/\Ai K (.ref q) d.nm=AA (AA (.ref f))/\Cv K (.ref f)=AC/\E6 K q=AC/\Ab K (.ref q)=AC
def DvP(K:AD)(d:Df)(dv:AF):Prop:=
 match d.k with
 |.fd ds=>∃dT o its n,dv=.ref dT/\K.lookup dT=AA o/\o.data=.seq its n/\Vals (ds.map V.int) its.toList
 |_=>dv=.none
def ycs(K:AD)(cn:Nat->AN)(d:Df):Prop:=∃dv f fd,ybN K d dv f fd/\At K cn d f/\DvP K d dv
section
variable {K:AD}{cn:Nat->AN}{gn nm:AN}{st:Bd}{N ps:List AN}{fn:IC.Fn}{f:AG}{oc:AF}{od:Option AG}{kV doc pm:AF}{an:Option AG}{cdv ct:AF}{osl:Array (Option AF)}
theorem rowFn(a:Ay K mainGlobals gn=AA (AA (.ref f)))(l:K.lookup f=AA ⟨oc,od,.func (BU nm nm (yS st) (yF st) (yg st) .none kV doc pm an cdv ct),osl⟩)
  (c:Bm K cdv nm=AC) (p:Ab K (.ref f)=AC) (b:yaG ⟨gn,nm,nm,st,N,ps,fn,.fn⟩):ycs K cn ⟨gn,nm,nm,st,N,ps,fn,.fn⟩:=
 ⟨.none,f,_,⟨⟨oc,od,kV,doc,pm,an,cdv,ct,osl,rfl,l,c⟩,p⟩,⟨a,b⟩,rfl⟩
theorem rowFd{ds:List Int}{dT:AG}{o:BR}{its:Array AF}{n:Nat}(a:Ay K mainGlobals gn=AA (AA (.ref f)))(l:K.lookup f=AA ⟨oc,od,.func (BU nm nm (yS st) (yF st) (yg st) (.ref dT) kV doc pm an cdv ct),osl⟩)
  (c:Bm K cdv nm=AC) (p:Ab K (.ref f)=AC) (d:K.lookup dT=AA o) (e:o.data=.seq its n) (v:Vals (ds.map V.int) its.toList):ycs K cn ⟨gn,nm,nm,st,N,ps,fn,.fd ds⟩:=
 ⟨.ref dT,f,_,⟨⟨oc,od,kV,doc,pm,an,cdv,ct,osl,rfl,l,c⟩,p⟩,a,dT,o,its,n,rfl,d,e,v⟩
theorem rowMe{qn:AN}{cc:Nat}{q:AG}(z:Ay K mainGlobals (cn cc)=AA (AA (.ref q)))(a:Ai K (.ref q) nm=AA (AA (.ref f)))(i:Cv K (.ref f)=AC)(l:K.lookup f=AA ⟨oc,od,.func (BU nm qn (yS st) (yF st) (yg st) .none kV doc pm an cdv ct),osl⟩)
  (c:Bm K cdv qn=AC) (p:Ab K (.ref f)=AC) (b:yaG ⟨gn,nm,qn,st,N,ps,fn,.me cc⟩):ycs K cn ⟨gn,nm,qn,st,N,ps,fn,.me cc⟩:=
 ⟨.none,f,_,⟨⟨oc,od,kV,doc,pm,an,cdv,ct,osl,rfl,l,c⟩,p⟩,⟨b,q,z,a,i⟩,rfl⟩
theorem rowIni{qn:AN}{cc:Nat}{q:AG}(z:Ay K mainGlobals (cn cc)=AA (AA (.ref q)))(a:Ai K (.ref q) nm=AA (AA (.ref f)))(i:Cv K (.ref f)=AC)(l:K.lookup f=AA ⟨oc,od,.func (BU nm qn (yS st) (yF st) (yg st) .none kV doc pm an cdv ct),osl⟩)
  (c:Bm K cdv qn=AC) (p:Ab K (.ref f)=AC) (b:yaG ⟨gn,nm,qn,st,N,ps,fn,.ini cc⟩) (mk:E6 K q=AC) (kq:Ab K (.ref q)=AC):ycs K cn ⟨gn,nm,qn,st,N,ps,fn,.ini cc⟩:=
 ⟨.none,f,_,⟨⟨oc,od,kV,doc,pm,an,cdv,ct,osl,rfl,l,c⟩,p⟩,⟨b,q,z,a,i,mk,kq⟩,rfl⟩
theorem gdf_mk{w:Aa}{h:An}{mg:AN->Option AF}{x:AN}{D:List (AN×Nat)}{fa:Nat->AG}{y:AG}{es:Array Bs}{ep:Nat}(X:K.In h)(G:h.Ns mainGlobals mg)(a:Ay K mainGlobals x=AA (AA (.ref y)))(l:K.lookup y=AA ⟨.type "dict",AB,.dict es ep,#[]⟩)
  (r:ybO w fa D es.toList) (n:(D.map (·.1)).Nodup):GDF K w mg fa x D:=⟨y,es,ep,EA X G a,l,r,n⟩
theorem gd_mk{w:Aa}{h:An}{mg:AN->Option AF}{x:AN}{D:List (AN×PV)}{cl:Nat->AG}{y:AG}{es:Array Bs}{ep:Nat}(X:K.In h)(G:h.Ns mainGlobals mg)(a:Ay K mainGlobals x=AA (AA (.ref y)))(l:K.lookup y=AA ⟨.type "dict",AB,.dict es ep,#[]⟩)
  (s:(y==sysModules)=AE) (r:ybS K cl w D es.toList) (n:(D.map (·.1)).Nodup):GD K w mg cl x D:=⟨y,es,ep,EA X G a,l,s,r,n⟩
end
abbrev KoV(K:AD)(v:PV)(u:AF):Prop:=∃x:V,RelV x u/\∀cl B φ H,yc K cl B φ H v x
abbrev KoL(K:AD)(vs:List PV)(us:List AF):Prop:=∃xs:List V,Vals xs us/\∀cl B φ H,ye K cl B φ H vs xs
mutual
noncomputable def ydT(K:AD):(v:PV)->(u:AF)->Pr (KoV K v u)
 |.int i,.int j t=>an (ask (i=j)) λh=>ok ⟨.int i,⟨t,by rw[h]⟩,λ_ _ _ _=>by erw[yc]⟩
 |.str i,.str j t=>an (ask (i=j)) λh=>ok ⟨.str i,⟨t,by rw[h]⟩,λ_ _ _ _=>by erw[yc]⟩
 |.tp AC vs,.ref a=>match h:K.lookup a with
  |some ⟨c,_,.seq its n,_⟩=>an (ask (c=.type "tuple"/\its.size<=sizeLine)) λq=>an (ycO K vs its.toList) λr=>ok (by
    let⟨xs,r1,r2⟩:=r;refine⟨.ref a,rfl,λcl B φ H=>?_⟩;erw[yc];exact⟨a,xs,rfl,.inr ⟨rfl,_,its,n,h,q.1,rfl,q.2,r1⟩,r2 cl B φ H⟩)
  |_=>AB
 |_,_=>AB
noncomputable def ycO(K:AD):(vs:List PV)->(us:List AF)->Pr (KoL K vs us)
 |[],[]=>ok ⟨[],.nil,λ_ _ _ _=>by erw[ye]⟩
 |v::vs,u::us=>an (ydT K v u) λh=>an (ycO K vs us) λr=>ok (by
   let⟨x,h1,h2⟩:=h;let⟨xs,r1,r2⟩:=r;refine⟨x::xs,.cons h1 r1,λcl B φ H=>?_⟩;erw[ye];exact⟨x,xs,rfl,h2 cl B φ H,r2 cl B φ H⟩)
 |_,_=>AB
end
theorem con_row{K:AD}{cl:Nat->AG}{w:Aa}{k:AN}{v:PV}{tk:GX}{u:AF}{D:List (AN×PV)}{es:List Bs}(c:(ydT K v u).isSome=AC)(h:ybS K cl w D es):ybS K cl w ((k,v)::D) (⟨Dl w.params k,.str k tk,u⟩ :: es):=by
 let⟨⟨x,r,q⟩,_⟩:=Ac.1 c;exact .cons r (q cl) h
theorem frow_cons{w:Aa}{fa:Nat->AG}{k:AN}{i:Nat}{tk:GX}{a:AG}{D:List (AN×Nat)}{es:List Bs}(e:fa i=a)(h:ybO w fa D es):ybO w fa ((k,i)::D) (⟨Dl w.params k,.str k tk,.ref a⟩ :: es):=by
 subst e;exact .cons h
structure Tb where
 tbl:List Df
 al:List (AN×GK)
 bs:List AN
 ts:List Ty
 fl:List (Nat×AN)
 me:List ((Nat×AN)×Nat)
 kb:List ((Nat×Nat×List AN)×List (Option Int))
 cn:List (Nat×AN)
 dd:List (AN×List (AN×PV))
 ml:List (AN×List (AN×Nat))
 xs:List (Nat×Ty)
 xc:List (Nat×AN)
 xm:List (Nat×AN)
 qh:List AN
abbrev eF(x:AN)(i:Nat):AN×GK:=(x,.fn i)
abbrev eC(x:AN)(v:PV):AN×GK:=(x,.cst v)
abbrev eG(x:AN)(g:GK):AN×GK:=(x,g)
abbrev eN(c:Nat)(x:AN):Nat×Str:=(c,x)
abbrev eL(x:AN)(d:List (AN×Nat)):AN×List (AN×Nat):=(x,d)
def tyE:Ty->Ty->Bool
 |.int,.int=>AC
 |.bool,.bool=>AC
 |.str,.str=>AC
 |.tuple,.tuple=>AC
 |.list,.list=>AC
 |_,_=>AE
def zis{a b:Ty}(h:tyE a b=AC):a=b:=by
 cases a<;>cases b<;>first|rfl|cases h
def tyX:Ty->Ty->Bool
 |.cls a,.cls b=>a==b
 |.val,.val=>AC
 |_,_=>AE
def ziD{a b:Ty}(h:tyX a b=AC):a=b:=by
 cases a<;>cases b<;>first|rfl|(cases h;done)|(rw[eq_of_beq (show _=AC from h)])
def Tb.gs(t:Tb):Gs:=⟨λx=>t.al.lookup x,λx=>t.bs.contains x,λy=>t.ts.any (tyE y),λc f=>t.fl.contains (c,f),λc n=>t.me.lookup (c,n),λi n ks=>t.kb.lookup (i,n,ks),λx=>t.ml.lookup x,λx i=>decide (t.cn.lookup (1000+i)=AA x),λc y=>t.xs.any λp=>p.1==c&&tyX p.2 y,λd x=>t.xc.contains (d,x),λc x=>t.xm.contains (c,x),λi=>match t.tbl[i]? with
 |some d=>t.qh.contains d.gn
 |none=>AE⟩
def nmA(K:AD)(x:AN):Option Addr:=match Ay K mainGlobals x with
 |some (AA (.ref q))=>AA q
 |_=>AB
def clA(K:AD)(t:Tb)(c:Nat):Addr:=((t.cn.lookup c).bind (nmA K)).getD 0
def cnm(t:Tb)(c:Nat):Str:=(t.cn.lookup c).getD ""
def faA(K:AD)(t:Tb)(i:Nat):Addr:=match t.tbl[i]? with
 |some d=>match d.k with
  |.fn=>(nmA K d.gn).getD 0
  |.fd _=>(nmA K d.gn).getD 0
  |.me c=>match Ai K (.ref (clA K t c)) d.nm with
   |some (AA (.ref f))=>f
   |_=>0
  |.ini c=>match Ai K (.ref (clA K t c)) d.nm with
   |some (AA (.ref f))=>f
   |_=>0
 |none=>0
def yb9:Dk->Bool
 |.fn=>AC
 |_=>AE
def yd9:Dk->Bool
 |.fd _=>AC
 |_=>AE
def ygf:PV->Bool
 |.int _=>AC
 |.tp _ _=>AC
 |_=>AE
def alB(K:AD)(t:Tb):AN×GK->Bool
 |(x,.fn i)=>match t.tbl[i]? with
  |some d=>yb9 d.k&&(decide (x=d.gn) || decide (nmA K x=nmA K d.gn))
  |none=>AE
 |(x,.fnD i)=>match t.tbl[i]? with
  |some d=>yd9 d.k&&(decide (x=d.gn) || decide (nmA K x=nmA K d.gn))
  |none=>AE
 |(x,.cst v)=>ygf v&&match Ay K mainGlobals x with
  |some (AA u)=>(ydT K v u).isSome
  |_=>AE
 |(x,.dct d)=>t.dd.any λp=>decide (p.1=x)&&(eqD p.2 d).isSome
 |(x,.exc c)=>decide (t.cn.lookup c=AA x)&&(nmA K x).any λq=>DL K q [.type "ValueError",.type "Exception",.type "BaseException",.type "object"] "ValueError.__new__"
 |(x,.cls c i)=>decide (t.cn.lookup c=AA x)&&(nmA K x).isSome&&match t.tbl[i]? with
  |some d=>match d.k with
   |.ini c'=>decide (c'=c)&&decide (d.nm="__init__")
   |_=>AE
  |none=>AE
def yeD(K:AD)(t:Ty):Bool:=
 decide (BA K (.type "NoneType") (.type (tyN t))=AA (yaE .non t))&&decide (BA K (.type "bool") (.type (tyN t))=AA (yaE (.bl AC) t))&&decide (BA K (.type "int") (.type (tyN t))=AA (yaE (.int 0) t))&&decide (BA K (.type "str") (.type (tyN t))=AA (yaE (.str DF) t))&&decide (BA K (.type "tuple") (.type (tyN t))=AA (yaE (.tp AC []) t))&&decide (BA K (.type "list") (.type (tyN t))=AA (yaE (.lst []) t))
def ydf(K:AD)(q:AG):Bool:=Fm K q DF&&F2 K q&&F3 K q&&decide (Ai K (.ref q) "__setattr__"=AA (AA (.builtin "object.__setattr__")))
def zdX{K:AD}{q:AG}(h:ydf K q=AC):Cls K q:=by
 erw[ydf,AJ,decide_eq_true_eq]at h;exact⟨h.1.1.1,h.1.1.2,h.1.2,h.2⟩
def ydZ(K:AD)(q:AG):Bool:=decide (Ai K (.ref q) "__getattribute__"=AA (AA (.builtin "BaseException.__getattribute__")))&&decide (Ai K (.ref q) "__getattr__"=AA AB)&&decide (Ai K (.ref q) "__class__"=AA (AA (.builtin "object.__class__")))&&decide (G3 K (.ref q) (.type "BaseException")=AA AC)&&decide (G4 K q (.type "object")=AA AC)&&(Dy K q).isSome
def zh1{K:AD}{q:AG}(h:ydZ K q=AC):ya6 K q:=by
 erw[ydZ,AJ,decide_eq_true_eq]at h;let⟨⟨⟨⟨⟨h1,h2⟩,h3⟩,h4⟩,h5⟩,h6⟩:=h;exact⟨h1,h2,h3,h4,h5,Ac.1 h6⟩
def yeZ(K:AD)(t:Tb):Bool:=
 t.xs.all (λp=>ydZ K (clA K t p.1)&&decide (BA K (.ref (clA K t p.1)) (tyZ (clA K t) p.2)=AA (yaE (.exn p.1) p.2))) &&
  t.xc.all (λp=>decide (t.cn.lookup p.1=AA p.2)&&(nmA K p.2).isSome) &&
  t.xm.all λp=>(nmA K p.2).any λW=>decide (Dg K (.ref (clA K t p.1)) (.ref W)=AA AC)
def ycX(K:AD)(t:Tb):Bool:=
 t.al.all (alB K t)&&t.bs.all (λx=>decide (Ay K mainGlobals x=AA AB))&&t.ts.all (yeD K) &&
  t.fl.all (λp=>(t.cn.lookup p.1).isSome&&(nmA K (cnm t p.1)).any λq=>ydf K q&&decide (Ai K (.ref q) p.2=AA AB)) &&
  t.me.all (λp=>(t.cn.lookup p.1.1).isSome&&(nmA K (cnm t p.1.1)).any λq=>ydf K q&&match t.tbl[p.2]? with
   |some d=>(match d.k with
    |.me c=>decide (c=p.1.1)
    |_=>AE)&&decide (d.nm=p.1.2)
   |none=>AE) &&
  t.ml.all λp=>p.2.all λq=>match t.tbl[q.2]? with
   |some d=>yb9 d.k
   |none=>AE
def ydH(K:AD)(t:Tb):Bool:=ycX K t&&yeZ K t
def fd0:FuncData:=BU "" "" (yS (.Pass ⟨0,0,0,0⟩)) [] (yg (.Pass ⟨0,0,0,0⟩)) .none .none .none .none AB .none .none
def fdA(K:AD)(t:Tb)(i:Nat):FuncData:=match K.lookup (faA K t i)with
 |some ⟨_,_,.func fd,_⟩=>fd
 |_=>fd0
def psA(t:Tb)(i:Nat):List Str:=match t.tbl[i]? with
 |some d=>d.ps
 |none=>[]
theorem lkm{α β:Type}[BEq α][LawfulBEq α]{x:α}{k:β}:∀{l:List (α×β)},l.lookup x=AA k->(x,k)∈l
 |[],h=>nomatch h
 |y::l,h=>by
  rw[Av]at h
  cases hx:x==y.1 with
  |true=>rw[hx]at h;cases h;rw[eq_of_beq hx];exact AW
  |false=>rw[hx]at h;exact AL _ (lkm h)
def KbP(t:Tb)(p:(Nat×Nat×List AN)×List (Option Int)):Prop:=∀d ds,t.tbl[p.1.1]?=AA d->d.k=.fd ds->∀(K:AD) (mg:AN->Option AF) (f:AG) (fd:Am),FnD K mg d.nm d.st d.ps ds f fd->∃g,ybt K fd d.ps p.1.2.2 g (gK p.1.2.1 p.2)
structure Fact(t:Tb)(w:Aa)(K:AD)(mg:AN->Option AF):Prop where
 X:∀x u,Ay K mainGlobals x=AA u->mg x=u
 R:ybk (ycs K (cnm t)) t.tbl
 B:ydH K t=AC
 D:ybk (λp=>∀cl,GD K w mg cl p.1 p.2) t.dd
 Kb:ybk (KbP t) t.kb
 Ml:ybk (λp=>GDF K w mg (faA K t) p.1 p.2) t.ml
def zjo{K:AD}{x:AN}{q:AG}(h:nmA K x=AA q):Ay K mainGlobals x=AA (AA (.ref q)):=by
 unfold nmA at h;split at h
 .cases h;assumption
 .cases h
def zX{K:AD}{x:AN}{q:AG}(h:Ay K mainGlobals x=AA (AA (.ref q))):nmA K x=AA q:=by
 erw[nmA,h]
def zcC{K:AD}{t:Tb}{c:Nat}{q:AG}(h:nmA K (cnm t c)=AA q)(hc:(t.cn.lookup c).isSome=AC):clA K t c=q:=by
 let⟨x,e⟩:=Ac.1 hc;erw[clA,e,CL];erw[cnm,e,B1]at h;rw[h];rfl
def okH(t:Tb)(d:Df):Bool:=(ybF t.gs d.fn.body ⟨d.N,yg d.st,AE,AC⟩ (yF d.st)).isSome&&!d.fn.pure&&yb9 d.k
def okT(t:Tb)(d:Df):Bool:=okD t.gs d&&(!t.qh.contains d.gn || okH t d)&&match d.k with
 |.fn=>AC
 |.fd _=>decide (d.q=d.nm)
 |.me c=>(t.cn.lookup c).isSome
 |.ini c=>(t.cn.lookup c).isSome&&decide (d.nm="__init__")
section
variable {t:Tb}{w:Aa}{K:AD}{mg:AN->Option AF}{T:Nat->Option IC.Fn}{P:A3}{base:An}{k:Nat}
def zao(F:Fact t w K mg)(O:∀d∈t.tbl,okT t d=AC){i:Nat}{d:Df}(h:t.tbl[i]?=AA d):∃dv fd,ybN K d dv (faA K t i) fd/\At K (cnm t) d (faA K t i)/\DvP K d dv:=by
 have hm:=A5 h;let⟨dv,f,fd,h1,h2,h3⟩:=F.R.get d hm;have e:f=faA K t i:=by
  have o:=O d hm;erw[okT,AJ]at o;have o:=o.2;erw[faA,h];unfold At at h2
  cases q:d.k with
  |fn=>
   rw[q]at h2;erw[zX h2.1,B1]
  |fd ds=>
   rw[q]at h2;have h2:Ay K mainGlobals d.gn=AA (AA (.ref f)):=h2;erw[zX h2,B1]
  |me c=>
   rw[q]at h2 o;let⟨_,q',e1,e2,_⟩:=h2;erw[zcC (zX e1) o,e2]
  |ini c=>
   rw[q]at h2 o;let⟨_,q',e1,e2,_⟩:=h2;erw[AJ]at o;erw[zcC (zX e1) o.1,e2]
 subst e;exact⟨dv,fd,h1,h2,h3⟩
theorem ybN.binds{d:Df}{f:AG}{fd:Am}(R:ybN K d .none f fd)(b:yaG d):Binds K fd d.ps []:=
 Fun.binds ⟨R.ex,R.kp⟩ λkV doc pm an cdv ct us hl=>(b kV doc pm an cdv ct).get us hl
theorem ybN.ok{d:Df}{dv:AF}{f:AG}{fd:Am}{fi m:Nat}{cl:Nat->AG}(R:ybN K d dv f fd)(hT:T fi=AA d.fn)(Sc:yai d.N d.ps (yg d.st))(hnp:d.ps.length=d.fn.np)(hns:d.N.length=d.fn.ns)
  (body:∀(cdv:AF) (A:A8) (outer:List BF) (s:AH) (H:Hp) (E:XK),yas m (A.deeper (envOfC d.q (yg d.st) s.heap.objs.size f cdv)) ->
   PSs (yaq (CX1 P w) P w K mg base d.N d.q (yg d.st) f cdv A outer s H E) (yF d.st) (tSs ⟨cl,yd T k,AC⟩ (yaq (CX1 P w) P w K mg base d.N d.q (yg d.st) f cdv A outer s H E) d.fn.body)):
  yaK P w K mg base (CX1 P w) (m+1) f fd d.ps (spI K cl (yd T (k+1)) fi):=by
 let⟨oc,od,kV,doc,pm,an,cdv,ct,osl,rfl,lk,hcd⟩:=R.ex;exact zks lk hcd Sc (λvs H Q E h=>zgK hT hnp h) λA outer s H vs Q E hr h=>⟨_,body cdv A outer s H E hr,zgY hT hns h⟩
def Fn2(t:Tb)(P:A3)(w:Aa)(K:AD)(mg:AN->Option AF)(base:An)(T:Nat->Option IC.Fn)(k:Nat):Prop:=
 ∀i d dv fd,t.tbl[i]?=AA d->ybN K d dv (faA K t i) fd->yaK P w K mg base (CX1 P w) (2*k) (faA K t i) fd d.ps (spI K (clA K t) (yd T k) i)
def FnH(t:Tb)(P:A3)(w:Aa)(K:AD)(mg:AN->Option AF)(base:An)(T:Nat->Option IC.Fn)(k:Nat):Prop:=
 ∀i d fd,t.tbl[i]?=AA d->t.qh.contains d.gn=AC->ybN K d .none (faA K t i) fd->ya3 P w K mg base (2*k) (faA K t i) fd d.ps (spI K (clA K t) (yd T k) i)
def zc5(F:Fact t w K mg)(O:∀d∈t.tbl,okT t d=AC)(C:Fn2 t P w K mg base T k)(CH:FnH t P w K mg base T k){N:List AN}{q:AN}{sc:Ao}{f:AG}{cdv:AF}{A:A8}{outer:List BF}{s:AH}{H:Hp}{E:XK}:
  Glo t.gs (2*k) ⟨clA K t,yd T k,AC⟩ (yaq (CX1 P w) P w K mg base N q sc f cdv A outer s H E):=by
 have B:=F.B;erw[ydH,AJ]at B;let⟨B,B2⟩:=B;erw[ycX,AJ,A4]at B;erw[yeZ,AJ,A4]at B2;let⟨⟨⟨⟨⟨b1,b2⟩,b3⟩,b4⟩,b5⟩,b6⟩:=B;let⟨⟨b7,b8⟩,b9⟩:=B2;have mgr:∀{x:AN} {a:AG},nmA K x=AA a->mg x=AA (.ref a):=λh=>F.X _ _ (zjo h);have same:∀{x y:AN} {a:AG},(decide (x=y) || decide (nmA K x=nmA K y))=AC->nmA K y=AA a->nmA K x=AA a:=λ{x y a} h e=>by
  erw[CS,decide_eq_true_eq]at h;rcases h with rfl|h
  .exact e
  .rw[h];exact e
 refine⟨λx i h=>?_,λx i np ks sh h hk=>?_,λx v h=>?_,λx d h=>?_,λx c h=>?_,λx c i h=>?_,λx h=>?_,λy h=>?_,λc n h=>?_,λc n i h=>?_,λy D h=>?_,λx i h hv=>?_,λc y h=>?_,λd x h=>?_,λc x h=>?_,λx i h hq=>?_⟩
 .have q:=b1 _ (lkm h);erw[alB]at q;split at q
  .rename_i d hd;erw[AJ]at q;let⟨dv,fd,r1,r2,r3⟩:=zao F O hd;have hk:d.k=.fn:=by cases e:d.k<;>rw[e]at q<;>first|rfl|cases q.1
   erw[At,hk]at r2;erw[DvP,hk]at r3;subst r3;exact⟨_,fd,d.ps,C i d _ fd hd r1,mgr (same q.2 (zX r2.1)),r1.kp,r1.binds r2.2⟩
  .cases q
 .have q:=b1 _ (lkm h);erw[alB]at q;split at q
  .rename_i d hd;erw[AJ]at q;let⟨dv,fd,r1,r2,r3⟩:=zao F O hd;obtain⟨ds,hk'⟩:∃ds,d.k=.fd ds:=by cases e:d.k<;>rw[e]at q<;>first|exact⟨_,rfl⟩|cases q.1
   erw[At,hk']at r2;erw[DvP,hk']at r3;let⟨dT,o,its,n,rfl,e1,e2,e3⟩:=r3;have oo:=O d (A5 hd);erw[okT,hk',AJ,decide_eq_true_eq]at oo;have D:FnD K (λ_=>AA (.ref (faA K t i))) d.nm d.st d.ps ds (faA K t i) fd:=by
    let⟨oc,od,kV,doc,pm,an,cdv,ct,osl,z1,z2,z3⟩:=r1.ex;rw[oo.2]at z1 z3;exact⟨⟨oc,od,dT,kV,doc,pm,an,cdv,ct,osl,o,its,n,z1,z2,z3,e1,e2,e3⟩,r1.kp,rfl⟩
   exact⟨_,fd,d.ps,C i d _ fd hd r1,mgr (same q.2 (zX r2)),r1.kp,F.Kb.get _ (lkm hk) d ds hd hk' K _ _ _ D⟩
  .cases q
 .have q:=b1 _ (lkm h);erw[alB,AJ]at q;let⟨q0,q⟩:=q;split at q
  .rename_i u hu;let⟨⟨y,r,z⟩,_⟩:=Ac.1 q;have hm:=F.X _ _ hu
   cases v with
   |int i=>
    have z:=z (λ_=>0) (λ_=>False) [] (λ_=>AB);erw[yc]at z;subst z;let⟨tk,rfl⟩:=r;exact .inr ⟨i,rfl,tk,hm⟩
   |tp b vs=>
    have z0:=z (λ_=>0) (λ_=>False) [] (λ_=>AB);erw[yc]at z0;let⟨a,xs,rfl,_⟩:=z0;have r:u=.ref a:=r;subst r;exact .inl ⟨a,hm,λB φ H=>z _ B φ H⟩
   |_=>cases q0
  .cases q
 .have q:=b1 _ (lkm h);erw[alB,C9,AJ,decide_eq_true_eq]at q;let⟨p,hp,rfl,q⟩:=q;let⟨⟨e⟩,_⟩:=Ac.1 q;rw[<-e];exact F.D.get p hp _
 .have q:=b1 _ (lkm h);erw[alB,AJ,decide_eq_true_eq,C7]at q;let⟨q1,q2,q3⟩:=q;let⟨a,ha⟩:=Ac.1 q2;have e:clA K t c=a:=by erw[clA,q1,CL,ha,B1]
  erw[ha,E7]at q3;exact⟨by show mg x=AA (.ref (clA K t c));rw[e];exact mgr ha,by show DL K (clA K t c) _ _=AC;rw[e];exact q3⟩
 .have q:=b1 _ (lkm h);erw[alB,AJ,decide_eq_true_eq]at q;let⟨⟨q1,q2⟩,q3⟩:=q;let⟨a,ha⟩:=Ac.1 q2;have e:clA K t c=a:=by erw[clA,q1,CL,ha,B1]
  split at q3
  .rename_i d hd
   cases hk:d.k with
   |ini c'=>
    rw[hk]at q3;erw[AJ,decide_eq_true_eq]at q3;let⟨rfl,hn⟩:=q3;let⟨dv,fd,r1,r2,r3⟩:=zao F O hd;erw[At,hk]at r2;erw[DvP,hk]at r3;subst r3;let⟨r0,q',r4,r5,r6,r7,r8⟩:=r2;have e2:q'=a:=by
     have:nmA K (cnm t c')=AA q':=zX r4;erw[cnm,q1,B1,ha]at this;exact(AU this).symm
    subst e2;rw[hn]at r5;refine⟨by show mg x=AA (.ref (clA K t c'));rw[e];exact mgr ha,_,fd,d.ps,?_,C i d _ fd hd r1,r1.binds r0⟩;show Mk K (clA K t c') _;rw[e];exact⟨r7,r5,r6,r8⟩
   |_=>rw[hk]at q3;cases q3
  .cases q3
 .have q:x∈t.bs:=by simpa [Tb.gs] using h
  have:=b2 x q;erw[decide_eq_true_eq]at this;exact F.X _ _ this
 .simp only[Tb.gs,C9]at h;let⟨y',hy,e⟩:=h;have:=zis e;subst this;have q:=b3 y hy;erw[yeD,AJ,decide_eq_true_eq]at q;exact⟨q.1.1.1.1.1,q.1.1.1.1.2,q.1.1.1.2,q.1.1.2,q.1.2,q.2⟩
 .have q:(c,n)∈t.fl:=by simpa [Tb.gs] using h
  have q:=b4 _ q;erw[AJ,C7,decide_eq_true_eq]at q;let⟨q1,q2,q3⟩:=q;let⟨a,ha⟩:=Ac.1 q2;erw[ha,E7]at q3;have e:clA K t c=a:=zcC ha q1;show Cls K (clA K t c)/\yb3 K (clA K t c) n;rw[e];exact⟨zdX q3.1,q3.2⟩
 .have q:=b5 _ (lkm h);erw[AJ,C7,decide_eq_true_eq]at q;let⟨q1,q2,q3,q4⟩:=q;let⟨a,ha⟩:=Ac.1 q2;erw[ha,E7]at q3;have e:clA K t c=a:=zcC ha q1;split at q4
  .rename_i d hd;erw[AJ,decide_eq_true_eq]at q4;let⟨q4,hn⟩:=q4
   cases hk:d.k with
   |me c'=>
    rw[hk]at q4;have q4:c'=c:=by simpa using q4
    subst q4;let⟨dv,fd,r1,r2,r3⟩:=zao F O hd;erw[At,hk]at r2;erw[DvP,hk]at r3;subst r3;let⟨r0,q',r4,r5,r6⟩:=r2;have e2:q'=a:=AU ((zX r4).symm.trans ha);subst e2;refine⟨by show Cls K (clA K t c');rw[e];exact zdX q3,_,fd,d.ps,?_,C i d _ fd hd r1,r1.binds r0⟩;show Meth K (clA K t c') n _;rw[e,<-hn];exact⟨r5,r6,r1.kp⟩
   |_=>rw[hk]at q4;cases q4
  .cases q4
 .have q:=b6 _ (lkm h);have g:∀s j,D.lookup s=AA j->∃d dv fd,t.tbl[j]?=AA d/\ybN K d dv (faA K t j) fd/\dv=.none/\yaG d/\fd=fdA K t j/\d.ps=psA t j:=λs j hj=>by
   have q:=q _ (lkm hj);split at q
   .rename_i d hd;let⟨dv,fd,r1,r2,r3⟩:=zao F O hd;have hk:d.k=.fn:=by cases e:d.k<;>rw[e]at q<;>first|rfl|cases q
    erw[At,hk]at r2;erw[DvP,hk]at r3;let⟨oc,od,kV,doc,pm,an,cdv,ct,osl,_,lk,_⟩:=r1.ex;exact⟨d,dv,fd,hd,r1,r3,r2.2,by erw[fdA,lk],by erw[psA,hd]⟩
   .cases q
  refine⟨faA K t,fdA K t,psA t,⟨λs j hj=>?_,λs j hj=>?_,λs j hj=>?_⟩,F.Ml.get _ (lkm h)⟩
  .let⟨d,dv,fd,h1,h2,h3,h4,h5,h6⟩:=g s j hj;rw[<-h5,<-h6];exact C j d dv fd h1 h2
  .let⟨d,dv,fd,h1,h2,h3,h4,h5,h6⟩:=g s j hj;exact h2.kp
  .let⟨d,dv,fd,h1,h2,h3,h4,h5,h6⟩:=g s j hj;subst h3;rw[<-h5,<-h6];exact h2.binds h4
 .have q:=b1 _ (lkm h);erw[alB]at q;split at q
  .rename_i d hd;erw[AJ]at q;let⟨dv,fd,r1,r2,r3⟩:=zao F O hd;have hk:d.k=.fn:=by cases e:d.k<;>rw[e]at q<;>first|rfl|cases q.1
   erw[At,hk]at r2;have hn:=same q.2 (zX r2.1);have e:t.cn.lookup (1000+i)=AA x:=of_decide_eq_true hv;have z:clA K t (1000+i)=faA K t i:=by erw[clA,e,CL,hn,B1]
   show mg x=AA (.ref (clA K t (1000+i)));rw[z];exact mgr hn
  .cases q
 .let⟨p,hp,q⟩:=C9.1 h;erw[AJ,beq_iff_eq]at q;let⟨rfl,q⟩:=q;have:=ziD q;subst this;have b:=b7 p hp;erw[decide_eq_true_eq]at b;exact⟨zh1 b.1,b.2⟩
 .have b:=b8 _ (Ed.1 h);erw[decide_eq_true_eq]at b;let⟨a,ha⟩:=Ac.1 b.2;have e:clA K t d=a:=by erw[clA,b.1,CL,ha,B1]
  show mg x=AA (.ref (clA K t d));rw[e];exact mgr ha
 .have b:=b9 _ (Ed.1 h)
  cases ha:nmA K x with
  |none=>rw[ha]at b;cases b
  |some W=>
   rw[ha]at b;exact⟨W,mgr ha,of_decide_eq_true b⟩
 .have q:=b1 _ (lkm h);erw[alB]at q;split at q
  .rename_i d hd;erw[AJ]at q;let⟨dv,fd,r1,r2,r3⟩:=zao F O hd;have hk:d.k=.fn:=by cases e:d.k<;>rw[e]at q<;>first|rfl|cases q.1
   erw[At,hk]at r2;erw[DvP,hk]at r3;subst r3;have hq:t.qh.contains d.gn=true:=by simpa only[Tb.gs,hd] using hq
   exact⟨_,fd,d.ps,CH i d fd hd hq r1,mgr (same q.2 (zX r2.1)),r1.kp,r1.binds r2.2⟩
  .cases q
def ze2(F:Fact t w K mg)(O:∀d∈t.tbl,okT t d=AC)(hT:∀i d,t.tbl[i]?=AA d->T i=AA d.fn):∀k,Fn2 t P w K mg base T k/\FnH t P w K mg base T k
 |0=>⟨λi d dv fd _ _=>zfB,λi d fd _ _ _=>zfq⟩
 |k+1=>by
  have ih:=ze2 F O hT k;refine⟨λi d dv fd h R=>?_,λi d fd h hq R=>?_⟩
  .have o:=O d (A5 h);erw[okT,okD,AJ,decide_eq_true_eq]at o;let⟨⟨⟨⟨⟨o1,o2⟩,o3⟩,o4⟩,_⟩,_⟩:=o;let⟨⟨y⟩,_⟩:=Ac.1 o4;exact R.ok (m:=2*k+1) (hT i d h) (zgF o1) o2 o3 λ_ _ _ _ _ _ hr=>y (2*k) _ _ ⟨rfl,rfl,λ_=>rfl,hr.h,λ_=>hr.hd,λ_=>⟨own1,λ_=>rfl,rfl⟩,λ_=>⟨⟨_,rfl⟩,rfl,rfl⟩,zc5 F O ih.1 ih.2⟩
  .have o:=O d (A5 h);erw[okT,okD,AJ,decide_eq_true_eq]at o;let⟨⟨⟨⟨⟨o1,o2⟩,o3⟩,_⟩,oq⟩,_⟩:=o;have oh:okH t d=true:=by rw[hq]at oq;simpa using oq
   erw[okH,AJ,BH]at oh;let⟨⟨y⟩,_⟩:=Ac.1 oh.1.1;refine zjg (m:=2*k+1) (hT i d h) ⟨R.ex,R.kp⟩ (zgF o1) o2 o3 oh.1.2 λcdv A outer s H hr=>y (2*k) _ _ ⟨rfl,rfl,(λh=>nomatch h),hr,(λh=>nomatch h),(λh=>nomatch h),(λh=>nomatch h),?_⟩;have G:=zc5 (N:=d.N) (q:=d.q) (sc:=yg d.st) (f:=faA K t i) (cdv:=cdv) (A:=A) (outer:=outer) (s:=s) (H:=H) (E:=E0) F O ih.1 ih.2;exact⟨G.F,G.Q,G.C,G.D,G.E,G.N,G.B,G.T,G.A,G.M,λy D h=>let ⟨fa,fdd,ps,M,d⟩:=G.K y D h;⟨fa,fdd,ps,⟨M.F,M.kp,M.b⟩,d⟩,G.V,G.I,G.L,G.H,G.Z⟩
def zg5(F:Fact t w K mg)(O:∀d∈t.tbl,okT t d=AC)(hT:∀i d,t.tbl[i]?=AA d->T i=AA d.fn)(k:Nat):Fn2 t P w K mg base T k:=(ze2 F O hT k).1
def ydN:Nat->(List AF->Prop)->Prop
 |0,P=>P []
 |n+1,P=>∀a,ydN n λus=>P (a::us)
theorem ydN.get:∀{n:Nat} {P:List AF->Prop},ydN n P->∀us,us.length=n->P us
 |0,P,h,[],_=>h
 |n+1,P,h,a::us,e=>(h a).get us (by simpa using e)
theorem all_mk2{h:An}{fx:AG}(X:K.In h)(G:h.Ns mainGlobals mg)(hfa:mg "law"=AA (.ref fx))(R:ybk (ycs K (cnm t)) t.tbl)(B:ydH K t=AC)(D:ybk (λp=>∀cl,GD K w mg cl p.1 p.2) t.dd)(Kb:ybk (KbP t) t.kb)(Ml:ybk (λp=>GDF K w mg (faA K t) p.1 p.2) t.ml)
  (O:t.tbl.all (okT t)=AC) (hT:∀i d,t.tbl[i]?=AA d->T i=AA d.fn) {L:Nat} {st:Bd} {N:List AN} {fn:IC.Fn} (hL:t.tbl[L]?=AA ⟨"law","law","law",st,N,["_law_script"],fn,.fn⟩) (lvl:Nat):
  ∃fd:Am,(∀(s:AH) (v:AF),Du s fd ⟨[v],[]⟩ [("_law_script",v)])/\∀base:An,K.In base->base.Ns mainGlobals mg->yaK P w K mg base (CX1 P w) (2*lvl) fx fd ["_law_script"] (spX K (yd T lvl) L):=by
 have F:Fact t w K mg:=⟨λx u e=>by
  cases u with
  |none=>exact PySem.W.mg_none_of X G e
  |some v=>exact EA X G e,R,B,D,Kb,Ml⟩
 have O':=A4.1 O;let⟨dv,fd,r1,r2,r3⟩:=zao F O' hL;have r3:dv=.none:=r3;subst r3;have r2:Ay K mainGlobals "law"=AA (AA (.ref (faA K t L)))/\yaG _:=r2;have e:=G6 (AU (hfa.symm.trans (EA X G r2.1)));subst e;refine⟨fd,λs v=>?_,λbase _ _=>(zg5 F O' hT lvl L _ _ fd hL r1).imp λ_ _ _ _ h=>h _⟩;let⟨oc,od,kV,doc,pm,an,cdv,ct,osl,rfl,_⟩:=r1.ex;exact .of_eq (r2.2 kV doc pm an cdv ct v)
end
end L2
namespace IC
open PySem
def yez:List (AN×Nat):=[(AT "move",2),(AT "bare",3),(AT "sum",4),(AT "less",5),(AT "both",6),(AT "any",7),(AT "odd",8),(AT "twice",9),(AT "half",10)]
def yl:PV:=(.int 8)
def yeG:PV:=(.int 3)
def yf:PV:=(.tp AC [(.str "add"),(.str "less"),(.str "swap"),(.str "copy"),(.str "twice"),(.str "half"),(.str "bare"),(.str "both"),(.str "any"),(.str "odd"),(.str "nought"),(.str "clear"),(.str "one")])
section zq
local macro_rules|`(#[$x,*])=>do
 let mut a←`(.e)
 for y in x.getElems.reverse do a←`(.k $y $a)
 pure a
def yeH:Fn:=⟨5,6,AC,#[.mkr 5 yez (.v 0) #[.v 1,.v 2,.v 3,.v 4]]⟩
def yeN:Fn:=⟨1,1,AC,#[.ret (.bin .sub (.bin .shl (.i 1) (.v 0)) (.i 1))]⟩
def yeP:Fn:=⟨4,4,AC,#[.ret (.tup #[.v 1,.v 3])]⟩
def yeR:Fn:=⟨4,4,AC,#[.ret (.tup #[.bin .sub (.call 1 #[.v 0]) (.v 1),.v 3])]⟩
def yeS:Fn:=⟨4,5,AC,#[.asg (.n 4) (.bin .add (.bin .add (.v 1) (.v 2)) (.v 3)),.ret (.tup #[.bin .band (.v 4) (.call 1 #[.v 0]),.bin .shr (.v 4) (.v 0)])]⟩
def yeV:Fn:=⟨4,5,AC,#[.asg (.n 4) (.bin .sub (.bin .sub (.v 1) (.v 2)) (.v 3)),.ret (.tup #[.bin .band (.v 4) (.call 1 #[.v 0]),.ite (.cmp .lt (.v 4) (.i 0)) (.i 1) (.i 0)])]⟩
def yeX:Fn:=⟨4,4,AC,#[.ret (.tup #[.bin .band (.v 1) (.v 2),.v 3])]⟩
def ye2:Fn:=⟨4,4,AC,#[.ret (.tup #[.bin .bor (.v 1) (.v 2),.v 3])]⟩
def ye3:Fn:=⟨4,4,AC,#[.ret (.tup #[.bin .bxor (.v 1) (.v 2),.v 3])]⟩
def yfh:Fn:=⟨4,4,AC,#[.ret (.call 4 #[.v 0,.v 1,.v 1,.v 3])]⟩
def yfi:Fn:=⟨4,4,AC,#[.ret (.tup #[.bin .bor (.bin .shr (.v 1) (.i 1)) (.bin .shl (.v 3) (.bin .sub (.v 0) (.i 1))),.bin .band (.v 1) (.i 1)])]⟩
def yi:Fn:=⟨5,5,AE,#[.expr (.call 13 #[.v 0]),.ret (.call 14 #[.v 0,.v 1,.v 2,.v 3,.v 4])]⟩
def f_short:Fn:=⟨2,10,AE,#[.expr (.call 13 #[.v 0]),.asg (.n 2) (.call 16 #[.v 1]),.asg (.n 3) (.comp [AB,AB,AB,AA 0,AA 1] (.t [0,1,2]) (.seq (.v 2)) (.cst (.bl AC)) (.call 14 #[.v 3,.v 4,.v 0,.v 1,.v 2])),.asg (.n 4) (.comp [AB,AA 1,AA 2] (.n 0) (.seq (.cst yf)) (.cst (.bl AC)) (.tup #[.v 0,.call 17 #[.v 0,.v 1,.v 2]])),.asg (.n 5) (.i 0),.asg (.n 6) (.lst #[.tup #[.tup .e,.v 2]]),.for (.n 7) (.range1 (.bin .add (.cst yeG) (.i 1))) #[.ite (.cmp .gt (.v 7) (.i 0)) #[.asg (.n 6) (.call 18 #[.v 6,.v 4])] .e,.for (.t [8,9]) (.seq (.v 6)) #[.ite (.cmp .eq (.v 9) (.v 3)) #[.ret (.tup #[.v 8,.v 5])] .e,.aug 5 .add (.i 1)]],.ret (.tup #[.cst .non,.v 5])]⟩
def yj:Fn:=⟨1,2,AE,#[.forl (.n 1) (.v 0) #[.ite (.nin (.v 1) (.cst yf)) #[.raise 4 (.s "this is no row of the small machine")] .e],.ite (.cmp .gt (.blt .len #[.v 0]) (.cst yl)) #[.raise 8 (.fst #[.s "there are more than ",.cst yl,.s " rows"])] .e]⟩
def yD:Fn:=⟨5,6,AE,#[.forl (.n 5) (.v 0) #[.asg (.t [2,3,4]) (.call 15 #[.v 5,.v 1,.v 2,.v 3,.v 4])],.ret (.tup #[.v 2,.v 3,.v 4])]⟩
def yn:Fn:=⟨5,7,AC,#[.ite (.cmp .eq (.v 0) (.s "swap")) #[.ret (.tup #[.v 3,.v 2,.v 4])] .e,.ite (.cmp .eq (.v 0) (.s "copy")) #[.ret (.tup #[.v 2,.v 2,.v 4])] .e,.ite (.cmp .eq (.v 0) (.s "nought")) #[.ret (.tup #[.i 0,.v 3,.v 4])] .e,.ite (.cmp .eq (.v 0) (.s "clear")) #[.ret (.tup #[.v 2,.v 3,.i 0])] .e,.ite (.cmp .eq (.v 0) (.s "one")) #[.ret (.tup #[.v 2,.v 3,.i 1])] .e,.asg (.t [5,6]) (.call 0 #[.ite (.cmp .eq (.v 0) (.s "add")) (.s "sum") (.v 0),.v 1,.v 2,.v 3,.v 4]),.ret (.tup #[.v 5,.v 3,.v 6])]⟩
def yv:Fn:=⟨1,2,AC,#[.asg (.n 1) (.bin .shl (.i 1) (.v 0)),.ret (.cmq [AB,AB,AB,AA 1] (.n 0) (.range1 (.v 1)) (.emq (.n 1) (.range1 (.v 3)) (.emq (.n 2) (.range1 (.i 2)) (.tup #[.tup #[.v 0,.v 1,.v 2]]))))]⟩
def yE:Fn:=⟨3,6,AE,#[.ret (.dcm [AB,AB,AB,AA 0,AA 1] (.t [0,1,2]) (.seq (.v 2)) (.tup #[.v 0,.v 1,.v 2]) (.call 15 #[.v 3,.v 4,.v 0,.v 1,.v 2]))]⟩
def yC:Fn:=⟨2,2,AE,#[.ret (.cmq [AB,AB,AB,AB,AA 1] (.t [0,1]) (.seq (.v 0)) (.emq (.t [2,3]) (.seq (.v 4)) (.tup #[.tup #[.bin .add (.v 0) (.tup #[.v 2]),.comp [AB,AA 3] (.n 0) (.seq (.v 1)) (.cst (.bl AC)) (.dgt (.v 1) (.v 0))]])))]⟩
def ydu:Fn:=⟨1,1,AE,#[.ret (.newl #[.slc (.v 0) (.cst .non) (.i 63),.i 0,.i 0,.cst (.bl AE)])]⟩
def yab:Fn:=⟨1,8,AC,#[.asg (.n 1) (.tup #[.i 2147483647,.i 2147483629,.i 2147483587,.i 2147483579,.i 2147483563]),.asg (.n 2) (.i 0),.for (.t [3,4]) (.enum (.v 1)) #[.asg (.n 5) (.bin .add (.v 0) (.idx (.tup #[.i 11,.i 101,.i 1009,.i 10007,.i 100003]) (.v 3))),.asg (.n 5) (.bin .mod (.bin .mul (.v 5) (.bin .add (.i 48271) (.bin .mul (.i 2) (.v 3)))) (.v 4)),.asg (.n 6) (.bin .mod (.bin .mul (.v 5) (.v 5)) (.v 4)),.asg (.n 7) (.bin .mod (.bin .mul (.bin .mod (.bin .mul (.v 6) (.v 6)) (.v 4)) (.v 5)) (.v 4)),.asg (.n 2) (.bin .add (.bin .mul (.v 2) (.v 4)) (.v 7))],.ret (.v 2)]⟩
def yL:Fn:=⟨1,4,AE,#[.asg (.t [1,2]) (.tup #[.idx (.v 0) (.i 0),.idx (.v 0) (.i 1)]),.asg (.n 3) (.bin .add (.bin .mul (.i 31) (.v 2)) (.i 7)),.ite (.cmp .gt (.blt .len #[.v 1]) (.i 0)) #[.asg (.n 3) (.bin .mul (.i 104729) (.bin .fdiv (.v 2) (.blt .len #[.v 1]))),.asg (.n 3) (.bin .add (.v 3) (.idx (.v 1) (.bin .mod (.v 2) (.blt .len #[.v 1]))))] .e,.six (.v 0) (.i 1) (.bin .add (.v 2) (.i 1)),.six (.v 0) (.i 3) (.or (.cmp .ge (.v 2) (.blt .len #[.v 1])) (.cmp .lt (.v 3) (.bin .pow (.i 10) (.i 18)))),.ite (.idx (.v 0) (.i 3)) #[.six (.v 0) (.i 2) (.call 20 #[.v 3])] #[.six (.v 0) (.i 2) (.bin .sub (.v 3) (.bin .pow (.i 10) (.i 18)))]]⟩
def yJ:Fn:=⟨2,4,AE,#[.asg (.n 2) (.i 0),.while (.and (.cmp .lt (.v 2) (.i 64)) (.or (.cmp .eq (.idx (.v 0) (.i 2)) (.i 0)) (.and (.idx (.v 0) (.i 3)) (.cmp .lt (.idx (.v 0) (.i 2)) (.bin .mul (.v 1) (.i 4096)))))) #[.expr (.call 21 #[.v 0]),.aug 2 .add (.i 1),.ite (.and (.idx (.v 0) (.i 3)) (.cmp .lt (.idx (.v 0) (.i 2)) (.bin .mul (.v 1) (.i 4096)))) #[.six (.v 0) (.i 2) (.bin .add (.idx (.v 0) (.i 2)) (.bin .mul (.bin .mul (.v 1) (.i 4096)) (.bin .add (.i 1) (.bin .mod (.idx (.v 0) (.i 2)) (.i 4093)))))] .e],.asg (.n 3) (.bin .mod (.idx (.v 0) (.i 2)) (.v 1)),.six (.v 0) (.i 2) (.bin .fdiv (.idx (.v 0) (.i 2)) (.v 1)),.ret (.v 3)]⟩
def yfn:Fn:=⟨1,3,AE,#[.asg (.n 1) (.lst #[.isx (.v 0) [4,8] [.cls 0],.isx (.v 0) [4,8] [.cls 1],.isx (.v 0) [4,8] [.cls 2],.isx (.v 0) [4,8] [.cls 3]]),.asg (.n 1) (.bin .add (.v 1) (.lst #[.isx (.v 0) [4,8] [.cls 4],.isx (.v 0) [4,8] [.cls 5],.isx (.v 0) [4,8] [.cls 6],.isx (.v 0) [4,8] [.cls 7]])),.asg (.n 1) (.bin .add (.v 1) (.lst #[.isx (.v 0) [4,8] [.cls 8],.isx (.v 0) [4,8] [.cls 9],.isx (.v 0) [4,8] [.cls 10],.isx (.v 0) [4,8] [.cls 11]])),.asg (.n 1) (.bin .add (.v 1) (.lst #[.isx (.v 0) [4,8] [.cls 12],.isx (.v 0) [4,8] [.cls 13]])),.ite (.or (.cmp .ne (.mth .count (.v 1) #[.cst (.bl AC)]) (.i 1)) (.not (.isx (.v 0) [4,8] [.val]))) #[.nope] .e,.asg (.n 2) (.tup #[.s "NoFit",.s "NoText",.s "NoCell",.s "NoWord",.s "NoRow",.s "NoTelling",.s "NoDeed",.s "NoQuotient",.s "TooMany"]),.ret (.idx (.bin .add (.v 2) (.tup #[.s "NoLine",.s "NoName",.s "NoWidth",.s "NoPair",.s "NoUndo"])) (.mth .index (.v 1) #[.cst (.bl AC)]))]⟩
def yeq:Fn:=⟨0,1,AC,#[.asg (.n 0) (.s "add less swap copy twice half bare both any odd nought clear one"),.ret (.blt .tuple #[.mth .split (.v 0) #[.s " "]])]⟩
def yu:Fn:=⟨2,3,AE,#[.asg (.n 2) (.call 22 #[.v 0,.bin .add (.v 1) (.i 1)]),.ret (.thw (.comp [AB,AA 0] (.n 0) (.range1 (.v 2)) (.cst (.bl AC)) (.idx (.call 24 .e) (.call 22 #[.v 1,.i 13]))))]⟩
def yq:Fn:=⟨1,4,AE,#[.asg (.n 1) (.lst #[.s "",.s "Add",.s "add ",.s " less",.s "swapp",.s "cop",.s "twice2",.s "halfs",.s "BARE",.s "bot",.s "anyy",.s "od",.s "zero",.s "mark"]),.asg (.n 1) (.bin .add (.v 1) (.lst #[.cst .non,.i 7,.cst (.bl AC),.tup #[.s "add"],.lst #[.s "swap"],.i 0,.tup #[.s "clear",.s "one"],.s "add,less",.tup #[.lst #[.s "add"]],.lst #[.lst .e]])),.asg (.n 2) (.call 22 #[.v 0,.i 30]),.ite (.cmp .lt (.v 2) (.blt .len #[.v 1])) #[.ret (.idx (.v 1) (.v 2))] .e,.asg (.n 3) (.mth .join (.s "") #[.comp [AB,AA 0] (.n 0) (.range1 (.bin .add (.i 1) (.call 22 #[.v 0,.i 6]))) (.cst (.bl AC)) (.idx (.s "abcdefghijklmnopqrstuvwxyz") (.call 22 #[.v 1,.i 26]))]),.ite (.cmp .isin (.v 3) (.call 24 .e)) #[.asg (.n 3) (.bin .add (.v 3) (.s "x"))] .e,.ret (.v 3)]⟩
def ya:Fn:=⟨4,5,AE,#[.try #[.ite (.cmp .eq (.v 0) (.i 0)) #[.expr (.call 11 #[.v 1,.v 2,.idx (.v 3) (.i 0),.idx (.v 3) (.i 1),.idx (.v 3) (.i 2)])] #[.expr (.call 12 #[.v 1,.v 2])]] [4,8] 4 #[.ret (.qcl 23 #[.v 4])],.ret (.s "told")]⟩
def yap:Fn:=⟨1,11,AC,#[.asg (.n 1) (.call 19 #[.v 0]),.asg (.n 2) (.call 22 #[.v 1,.i 3]),.asg (.n 3) (.bin .add (.i 1) (.call 22 #[.v 1,.i 3])),.asg (.n 4) (.bin .mul (.i 2) (.idx (.lst #[.i 1,.i 2,.i 4]) (.bin .sub (.v 3) (.i 1)))),.asg (.n 5) (.tup #[.call 22 #[.v 1,.v 4],.call 22 #[.v 1,.v 4],.call 22 #[.v 1,.i 2]]),.asg (.n 6) (.call 25 #[.v 1,.i 12]),.asg (.n 7) (.s "told"),.ite (.cmp .gt (.blt .len #[.v 6]) (.i 8)) #[.asg (.n 7) (.s "TooMany")] .e,.for (.n 8) (.range1 (.v 2)) #[.expr (.mth .insert (.v 6) #[.call 22 #[.v 1,.bin .add (.blt .len #[.v 6]) (.i 1)],.call 26 #[.v 1]]),.asg (.n 7) (.s "NoRow")],.asg (.n 9) (.call 22 #[.v 1,.i 2]),.asg (.n 10) (.tup #[.v 6,.blt .tuple #[.v 6]]),.ite (.or (.cmp .ne (.call 27 #[.i 0,.idx (.v 10) (.v 9),.v 3,.v 5]) (.v 7)) (.cmp .ne (.call 27 #[.i 1,.idx (.v 10) (.bin .sub (.i 1) (.v 9)),.v 3,.v 5]) (.v 7))) #[.ret (.cst (.bl AE))] .e,.ite (.cmp .ne (.call 27 #[.i 0,.idx (.v 10) (.bin .sub (.i 1) (.v 9)),.v 3,.v 5]) (.v 7)) #[.ret (.cst (.bl AE))] .e,.ret (.and (.cmp .eq (.call 27 #[.i 0,.rep (.lst #[.s "add"]) (.i 8),.v 3,.v 5]) (.s "told")) (.cmp .eq (.call 27 #[.i 1,.rep (.lst #[.s "add"]) (.i 9),.v 3,.v 5]) (.s "TooMany")))]⟩
end zq
def Tl:List Fn:=[yeH,yeN,yeP,yeR,yeS,yeV,yeX,ye2,ye3,yfh,yfi,yi,f_short,yj,yD,yn,yv,yE,yC,ydu,yab,yL,yJ,yfn,yeq,yu,yq,ya,yap]
def T(i:Nat):Option Fn:=Tl[i]?
abbrev ym:Nat:=11
abbrev ybg:Nat:=12
abbrev yb:Nat:=13
abbrev yfv:Nat:=14
abbrev yy:Nat:=15
abbrev yk:Nat:=16
abbrev yfF:Nat:=17
abbrev yfJ:Nat:=18
abbrev yfY:Nat:=19
abbrev yes:Nat:=20
abbrev yga:Nat:=21
abbrev yet:Nat:=22
abbrev ydA:Nat:=23
abbrev yex:Nat:=24
abbrev ygz:Nat:=25
abbrev ygE:Nat:=26
abbrev ydD:Nat:=27
abbrev yep:Nat:=28
end IC
namespace WK
open PySem L2 IC
def top(i:Nat):Stmt:=D0.main.body.getD i (.Pass ⟨0,0,0,0⟩)
def tbQ:Tb where
 tbl:=[⟨"made","made","made",top 17,["name","w","x","y","k","make"],["name","w","x","y","k"],yeH,.fn⟩,⟨"highest","highest","highest",top 18,["w"],["w"],yeN,.fn⟩,⟨"moved","moved","moved",top 19,["w","x","y","k"],["w","x","y","k"],yeP,.fn⟩,⟨"bared","bared","bared",top 20,["w","x","y","k"],["w","x","y","k"],yeR,.fn⟩,⟨"summed","summed","summed",top 21,["w","x","y","k","total"],["w","x","y","k"],yeS,.fn⟩,⟨"taken_away","taken_away","taken_away",top 22,["w","x","y","k","total"],["w","x","y","k"],yeV,.fn⟩,⟨"in_both","in_both","in_both",top 23,["w","x","y","k"],["w","x","y","k"],yeX,.fn⟩,⟨"in_any","in_any","in_any",top 24,["w","x","y","k"],["w","x","y","k"],ye2,.fn⟩,⟨"in_one","in_one","in_one",top 25,["w","x","y","k"],["w","x","y","k"],ye3,.fn⟩,⟨"doubled","doubled","doubled",top 26,["w","x","y","k"],["w","x","y","k"],yfh,.fn⟩,⟨"halved","halved","halved",top 27,["w","x","y","k"],["w","x","y","k"],yfi,.fn⟩,⟨"small_run","small_run","small_run",top 33,["rows","w","lo","hi","k"],["rows","w","lo","hi","k"],yi,.fn⟩,⟨"short","short","short",top 34,["rows","w","begun","wanted","tables","looked","tried","length","found","ended"],["rows","w"],f_short,.fn⟩,⟨"refuse_rows","refuse_rows","refuse_rows",top 35,["rows","row"],["rows"],yj,.fn⟩,⟨"all_done","all_done","all_done",top 36,["rows","w","lo","hi","k","row"],["rows","w","lo","hi","k"],yD,.fn⟩,⟨"small_done","small_done","small_done",top 37,["row","w","lo","hi","k","word","mark"],["row","w","lo","hi","k"],yn,.fn⟩,⟨"every_state","every_state","every_state",top 38,["w","size"],["w"],yv,.fn⟩,⟨"table_of","table_of","table_of",top 39,["row","w","begun","lo","hi","k"],["row","w","begun"],yE,.fn⟩,⟨"one_longer","one_longer","one_longer",top 40,["tried","tables"],["tried","tables"],yC,.fn⟩,⟨"_law_fresh","_law_fresh","_law_fresh",top 42,["_law_script"],["_law_script"],ydu,.fn⟩,⟨"_law_mixed","_law_mixed","_law_mixed",top 43,["_law_seed","_law_primes","_law_number","_law_k","_law_prime","_law_far","_law_square","_law_power"],["_law_seed"],yab,.fn⟩,⟨"_law_fill","_law_fill","_law_fill",top 44,["_law_state","_law_cells","_law_at","_law_seed"],["_law_state"],yL,.fn⟩,⟨"_law_take","_law_take","_law_take",top 45,["_law_state","_law_many","_law_turns","_law_digit"],["_law_state","_law_many"],yJ,.fn⟩,⟨"_law_kind","_law_kind","_law_kind",top 46,["_law_e","_law_kinds","_law_names"],["_law_e"],yfn,.fn⟩,⟨"_law_texts","_law_texts","_law_texts",top 47,["_law_words"],[],yeq,.fn⟩,⟨"_law_small_rows","_law_small_rows","_law_small_rows",top 48,["_law_state","_law_most","_law_many"],["_law_state","_law_most"],yu,.fn⟩,⟨"_law_odd_text","_law_odd_text","_law_odd_text",top 49,["_law_state","_law_near","_law_way","_law_word"],["_law_state"],yq,.fn⟩,⟨"_law_asked","_law_asked","_law_asked",top 50,["_law_way","_law_rows","_law_w","_law_begin","_law_e"],["_law_way","_law_rows","_law_w","_law_begin"],ya,.fn⟩,⟨"law","law","law",top 51,["_law_script","_law_state","_law_way","_law_w","_law_wide","_law_begin","_law_rows","_law_due","_law_k","_law_which","_law_handed"],["_law_script"],yap,.fn⟩]
 al:=[eF "made" 0,eF "highest" 1,eF "moved" 2,eF "bared" 3,eF "summed" 4,eF "taken_away" 5,eF "in_both" 6,eF "in_any" 7,eF "in_one" 8,eF "doubled" 9,eF "halved" 10,eF "small_run" 11,eF "short" 12,eF "refuse_rows" 13,eF "all_done" 14,eF "small_done" 15,eF "every_state" 16,eF "table_of" 17,eF "one_longer" 18,eF "_law_fresh" 19,eF "_law_mixed" 20,eF "_law_fill" 21,eF "_law_take" 22,eF "_law_kind" 23,eF "_law_texts" 24,eF "_law_small_rows" 25,eF "_law_odd_text" 26,eF "_law_asked" 27,eF "law" 28,eC "MOST_ROWS" (.int (8)),eC "MOST_SHORT" (.int (3)),eC "SMALL_ROWS" yf,eG "NoRow" (.exc 4),eG "TooMany" (.exc 8)]
 bs:=["ValueError","enumerate","isinstance","len","range","tuple"]
 ts:=[]
 fl:=[]
 me:=[]
 kb:=[]
 cn:=[eN 4 "NoRow",eN 8 "TooMany",eN 0 "NoFit",eN 1 "NoText",eN 2 "NoCell",eN 3 "NoWord",eN 5 "NoTelling",eN 6 "NoDeed",eN 7 "NoQuotient",eN 9 "NoLine",eN 10 "NoName",eN 11 "NoWidth",eN 12 "NoPair",eN 13 "NoUndo"]
 dd:=[]
 ml:=[eL "MAKERS" yez]
 xs:=[(4,.cls 0),(4,.cls 1),(4,.cls 10),(4,.cls 11),(4,.cls 12),(4,.cls 13),(4,.cls 2),(4,.cls 3),(4,.cls 4),(4,.cls 5),(4,.cls 6),(4,.cls 7),(4,.cls 8),(4,.cls 9),(4,.val),(8,.cls 0),(8,.cls 1),(8,.cls 10),(8,.cls 11),(8,.cls 12),(8,.cls 13),(8,.cls 2),(8,.cls 3),(8,.cls 4),(8,.cls 5),(8,.cls 6),(8,.cls 7),(8,.cls 8),(8,.cls 9),(8,.val)]
 xc:=[eN 0 "NoFit",eN 1 "NoText",eN 2 "NoCell",eN 3 "NoWord",eN 4 "NoRow",eN 5 "NoTelling",eN 6 "NoDeed",eN 7 "NoQuotient",eN 8 "TooMany",eN 9 "NoLine",eN 10 "NoName",eN 11 "NoWidth",eN 12 "NoPair",eN 13 "NoUndo"]
 xm:=[eN 4 "WordError",eN 8 "WordError"]
 qh:=["_law_kind"]
theorem ok_all:tbQ.tbl.all (okT tbQ)=true:=by decide +kernel
theorem T_ok:∀i d,tbQ.tbl[i]?=AA d->T i=AA d.fn:=λi d h=>by
 have e:Tl=tbQ.tbl.map (·.fn):=rfl;rw[T,e,Ax,h];rfl
theorem kb_all:ybk (KbP tbQ) tbQ.kb:=trivial
mutual
noncomputable def pvq:PV->PV->Bool
 |.non,.non=>AC
 |.bl a,.bl b=>a==b
 |.int i,.int j=>decide (i=j)
 |.str x,.str y=>decide (x=y)
 |.tp k xs,.tp l ys=>(k==l)&&ybY xs ys
 |.lst xs,.lst ys=>ybY xs ys
 |_,_=>AE
noncomputable def ybY:List PV->List PV->Bool
 |[],[]=>AC
 |x::xs,y::ys=>pvq x y&&ybY xs ys
 |_,_=>AE
end
mutual
theorem zkg:∀(a b:PV),pvq a b=AC->a=b
 |.non,b,h=>by cases b<;>simp[pvq]at h ⊢
 |.bl a,b,h=>by cases b<;>simp[pvq]at h ⊢;exact h
 |.int a,b,h=>by cases b<;>simp[pvq]at h ⊢;exact h
 |.str a,b,h=>by cases b<;>simp[pvq]at h ⊢;exact h
 |.tp k xs,b,h=>by
  cases b<;>simp[pvq]at h ⊢
  exact⟨h.1,zbf _ _ h.2⟩
 |.lst xs,b,h=>by
  cases b<;>simp[pvq]at h ⊢
  exact zbf _ _ h
 |.loc _,b,h=>by cases b<;>simp[pvq]at h
 |.fnc _,b,h=>by cases b<;>simp[pvq]at h
 |.exn _,b,h=>by cases b<;>simp[pvq]at h
 |.scr _,b,h=>by cases b<;>simp[pvq]at h
theorem zbf:∀(a b:List PV),ybY a b=AC->a=b
 |[],b,h=>by cases b<;>simp[ybY]at h ⊢
 |x::xs,b,h=>by
  cases b with
  |nil=>simp[ybY]at h
  |cons y ys=>
   simp[ybY]at h;rw[zkg x y h.1,zbf xs ys h.2]
end
def chS(c:Nat):Str:=⟨#[c]⟩
def yee(c:Nat)(i:Int):PV:=.tup [.str (chS c),.int i]
abbrev Mem:=Nat->Int->Int
def upd(M:Mem)(c:Nat)(i v:Int):Mem:=λd j=>if d=c/\j=i then v else M d j
def Rel(kvs:List (PV×PV))(M:Mem):Prop:=∀c i,(look (yee c i) kvs).getD (.int 0)=.int (M c i)
abbrev Cel:=Nat×Int
inductive Rw where
 |mark (d:Int)|ask (x:Cel)|set (t:Cel) (d:Int)|move (t x:Cel)|bare (t x:Cel)|twice (t x:Cel)|half (t x:Cel)
 |sum (t x y:Cel)|less (t x y:Cel)|both (t x y:Cel)|any (t x y:Cel)|odd (t x y:Cel)
def zgc{st:SO}{n:Nat}{o:Ob}(h:st[n]?=AA o):st=st.set n o:=by
 refine Fg λi=>?_;rw[CY];split
 .rename_i e;subst e;split
  .exact h
  .rename_i z;rw[Aj ∅]at h
   cases h
 .rfl
def zcl(i:Int):shp (.int i)=true:=rfl
section
variable {st:SO}{k:Bool}{a b c d e:PV}{r:List PV}{i j:Int}
theorem b_add:yx .add (.int i) (.int j)=AA (.int (i+j)):=rfl
theorem b_sub:yx .sub (.int i) (.int j)=AA (.int (i-j)):=rfl
def zhi(h:i.natAbs<18446744073709551616 \/ j.natAbs<18446744073709551616):yx .mul (.int i) (.int j)=AA (.int (i*j)):=by
 have:yay i j=true:=by simpa [yay] using h
 simp[yx,binI,this]
def zgC(h:i.natAbs<18446744073709551616):yx .mul (.int i) (.int j)=AA (.int (i*j)):=zhi (.inl h)
def zej(h:j.natAbs<18446744073709551616):yx .mul (.int i) (.int j)=AA (.int (i*j)):=zhi (.inr h)
theorem b_mul2:yx .mul (.int 2) (.int j)=AA (.int (2*j)):=zhi (.inl ⋯)
def zkk(h:0<j)(h2:j<18446744073709551616*18446744073709551616):yx .fdiv (.int i) (.int j)=AA (.int (i/j)):=by
 have h3:j<10000000000000000000000000000000000000000000000000000000000000000000000:=by lia
 simp[yx,binI,h,h3]
theorem b_div2:yx .fdiv (.int i) (.int 2)=AA (.int (i/2)):=rfl
def zj8(h:0<j):yx .mod (.int i) (.int j)=AA (.int (i%j)):=if_pos h
theorem toR_some{v:PV}:toR (AA v) st=.ok v st:=rfl
def zie:peq (.int i) (.int j)=(i==j):=rfl
theorem c_ne:yI .ne (.int i) (.int j)=AA (.bl (!(i==j))):=rfl
theorem c_eq:yI .eq (.int i) (.int j)=AA (.bl (i==j)):=rfl
theorem c_lt:yI .lt (.int i) (.int j)=AA (.bl (decide (i<j))):=rfl
theorem c_le:yI .le (.int i) (.int j)=AA (.bl (decide (i<=j))):=rfl
theorem c_gt:yI .gt (.int i) (.int j)=AA (.bl (decide (j<i))):=rfl
theorem c_ge:yI .ge (.int i) (.int j)=AA (.bl (decide (j<=i))):=rfl
theorem t_bl{b:Bool}:yar st (.bl b)=AA b:=rfl
theorem on_t{f:Bool->Fl}{b:Bool}:onF (AA b) f=f b:=rfl
theorem ono{α:Type}{f:Bool->R α}{b:Bool}:onO (AA b) f=f b:=rfl
theorem nxO_some{ρ:IC.Env}:nxO (AA ρ) st=.nx ρ st:=rfl
theorem fl_ok{α:Type}{a:α}{ρ:IC.Env}{k:α->SO->Fl}:(R.ok a st).fl ρ k=k a st:=rfl
theorem bd_ok{α β:Type}{a:α}{k:α->SO->R β}:(R.ok a st).bind k=k a st:=rfl
theorem th_nx{ρ:IC.Env}{k:IC.Env->SO->Fl}:yaA (.nx ρ st) k=k ρ st:=rfl
theorem th_rt{v:PV}{k:IC.Env->SO->Fl}:yaA (.rt v st) k=.rt v st:=rfl
theorem fl_exc{α:Type}{c:Nat}{ρ:IC.Env}{k:α->SO->Fl}:(R.exc c st:R α).fl ρ k=.exc c ρ st:=rfl
theorem bd_exc{α β:Type}{c:Nat}{k:α->SO->R β}:(R.exc c st:R α).bind k=.exc c st:=rfl
theorem th_exc{c:Nat}{ρ:IC.Env}{k:IC.Env->SO->Fl}:yaA (.exc c ρ st) k=.exc c ρ st:=rfl
theorem noLocs_ints:∀(l:List Int),nLs (l.map PV.int)=AC
 |[]=>rfl
 |_::l=>by simp[nLs,nL,noLocs_ints l]
theorem bT_n{i:Nat}{v:PV}{ρ:IC.Env}:yo (.n i) v ρ=AA (ρ.set i (AA v)):=rfl
end
def yX:PV:=.tup [.int 2147483647,.int 2147483629,.int 2147483587,.int 2147483579,.int 2147483563]
def ycD:Css:=match yab.body with
 |.cons _ (.cons _ (.cons (.for _ _ b) _))=>b
 |_=>.nil
def zax{c:Cl}{s num g p:Int}{i:Nat}{u5 u6 u7:Option PV}(hg:∀st,idxV st (.tup [.int 11,.int 101,.int 1009,.int 10007,.int 100003]) (.int i)=AA (.int g))(hi:i<5)(hp:0<p)(hp2:p<18446744073709551616):
  ∃num' v5 v6 v7,exs c [AA (.int s),AA yX,AA (.int num),AA (.int i),AA (.int p),u5,u6,u7] [] ycD=.nx [AA (.int s),AA yX,AA (.int num'),AA (.int i),AA (.int p),v5,v6,v7] []:=by
 have h1:∀z:Int,yx .mul (.int z) (.int (48271+2*(i:Int)))=AA (.int (z*(48271+2*(i:Int)))):=λz=>zej ∅;have h2:∀z y:Int,yx .mul (.int z) (.int (y%p))=AA (.int (z*(y%p))):=λz y=>zej (by
  have a:=E8 y (show p≠0 by lia);have b:=Do y hp;lia)
 have h3:∀z:Int,yx .mul (.int z) (.int p)=AA (.int (z*p)):=λz=>zej ∅;erw[ycD,yab,Ag,Ck,Nat.zero_add,Nat.reduceAdd,if_true,xs_cons,xs_nil,x_asg,IC.ve1,IC.ve2,IC.ve3,IC.ve11,IC.ve16,evs,Ah,Ae,bd_ok,fl_ok,toR_some,bT_n,nxO_some,th_nx,BY,BZ,sizeMax,Nat.reduceLeDiff,b_add,b_mul2,hg,h1,h2,h3,zj8 hp];exact⟨_,_,_,_,rfl⟩
def zf5{c:Cl}{s num:Int}{u5 u6 u7:Option PV}(i:Nat)(p:Int)(h:(i,p)∈[(0,(2147483647:Int)),(1,2147483629),(2,2147483587),(3,2147483579),(4,2147483563)]):
  ∃num' v5 v6 v7,exs c [AA (.int s),AA yX,AA (.int num),AA (.int i),AA (.int p),u5,u6,u7] [] ycD=.nx [AA (.int s),AA yX,AA (.int num'),AA (.int i),AA (.int p),v5,v6,v7] []:=by
 erw[A6,Prod.mk.injEq,Bj,or_false]at h;rcases h with⟨rfl,rfl⟩|⟨rfl,rfl⟩|⟨rfl,rfl⟩|⟨rfl,rfl⟩|⟨rfl,rfl⟩
 .exact zax (λ_=>rfl) ⋯ ⋯ ⋯
 .exact zax (λ_=>rfl) ⋯ ⋯ ⋯
 .exact zax (λ_=>rfl) ⋯ ⋯ ⋯
 .exact zax (λ_=>rfl) ⋯ ⋯ ⋯
 .exact zax (λ_=>rfl) ⋯ ⋯ ⋯
def ydh:List PV:=[.tup [.int 0,.int 2147483647],.tup [.int 1,.int 2147483629],.tup [.int 2,.int 2147483587],.tup [.int 3,.int 2147483579],.tup [.int 4,.int 2147483563]]
theorem mixed(k:Nat)(s:Int)(st:SO):∃num,yd T (k+1) yes [.int s] st=.ok (.int num) st:=by
 let⟨ρ',st',h,num,a,b,c,d,e,e1,e2⟩:=zcQ (call:=yd T k) (t:=.t [3,4]) (b:=ycD) (λ_ ρ st=>∃num a b c d e,ρ=[AA (.int s),AA yX,AA (.int num),a,b,c,d,e]/\st=[]) ydh 0 [AA (.int s),AA yX,AA (.int 0),AB,AB,AB,AB,AB] [] ⟨_,_,_,_,_,_,rfl,rfl⟩ (by
  rintro j x ρ st hx ⟨num,a,b,c,d,e,rfl,rfl⟩
  have hx:=A5 hx;have hx:∃i p,x=.tup [.int ((i:Nat):Int),.int p]/\(i,p)∈[(0,(2147483647:Int)),(1,2147483629),(2,2147483587),(3,2147483579),(4,2147483563)]:=by
   erw[ydh,A6,Bj,or_false]at hx;rcases hx with rfl|rfl|rfl|rfl|rfl
   .exact⟨0,_,rfl,by simp⟩
   .exact⟨1,_,rfl,by simp⟩
   .exact⟨2,_,rfl,by simp⟩
   .exact⟨3,_,rfl,by simp⟩
   .exact⟨4,_,rfl,by simp⟩
  let⟨i,p,rfl,hm⟩:=hx;let⟨num',v5,v6,v7,hh⟩:=zf5 (c:=yd T k) (s:=s) (num:=num) (u5:=c) (u6:=d) (u7:=e) i p hm;exact⟨_,_,_,rfl,hh,_,_,_,_,_,_,rfl,rfl⟩)
 subst e1 e2;refine⟨num,?_⟩;rw[yd];have hb:yab.body=.cons (.asg (.n 1) (.tup (.cons (.cst (.int 2147483647)) (.cons (.cst (.int 2147483629)) (.cons (.cst (.int 2147483587)) (.cons (.cst (.int 2147483579)) (.cons (.cst (.int 2147483563)) .nil))))))) (.cons (.asg (.n 2) (.cst (.int 0))) (.cons (.for (.t [3,4]) (.enum (.var 1)) ycD) (.cons (.ret (.var 2)) .nil))):=rfl;have hT:T yes=AA ⟨1,8,AC,yab.body⟩:=rfl;have hp:PV.tup [.int 2147483647,.int 2147483629,.int 2147483587,.int 2147483579,.int 2147483563]=yX:=rfl;rw[hT,hb];have h5:ev (yd T k) [AA (.int s),AB,AB,AB,AB,AB,AB,AB] [] (.tup (.cons (.cst (.int 2147483647)) (.cons (.cst (.int 2147483629)) (.cons (.cst (.int 2147483587)) (.cons (.cst (.int 2147483579)) (.cons (.cst (.int 2147483563)) .nil))))))=.ok yX []:=by
  simp[IC.ve1,IC.ve11,evs,R.bind,sizeMax,yX]
 have he:evi (yd T k) [AA (.int s),AA yX,AA (.int 0),AB,AB,AB,AB,AB] [] (.enum (.var 1))=.ok ydh []:=by
  simp[evi,IC.ve2,R.bind,yX,yR,ydh]
 erw[Ag,Ck,if_true,nLs,nL,EB,AZ,CO,FK,AK,DI,Cj,xs_cons,xs_nil,x_asg,x_for,x_ret,h5,R.fl,yo,nxO,yaA,BY,BZ,IC.ve1,he,h,IC.ve2,Ah,Ae]
def zH(ys:List PV)(h:ys.length<=1000000)(st:SO):ya0 (.ok ys st)=.ok (.lst ys) st:=by simp[ya0,h]
def zbd(n:Nat)(h:n<1000):ybP (.int (n:Int))=AA (yr n 0 1):=by
 simp[ybP];lia
def zx{z:Int}(h:0<=z):∃n:Nat,z=n:=⟨z.toNat,by lia⟩
def ydC(st:SO)(f:Fl):R PV:=
 match f with
 |.rt v _=>if nL v then .ok v st else .bad
 |.nx _ _=>.ok .non st
 |.exc c _ _=>.exc c st
 |_=>.bad
def zbU{T:Nat->Option IC.Fn}{k f:Nat}{fn:IC.Fn}{args:List PV}{st:SO}(hT:T f=AA fn)(hp:fn.pure=AC)(hl:args.length=fn.np)(hn:nLs args=AC):
  yd T (k+1) f args st=ydC st (exs (yd T k) (args.map AA++AK (fn.ns-fn.np) AB) [] fn.body):=by
 rw[yd,hT];dsimp only;rw[if_pos hl,if_pos hp,if_pos hn];rfl
def outI(f:Fl):R PV:=
 match f with
 |.rt v st1=>.ok v st1
 |.nx _ st1=>.ok .non st1
 |.exc c _ st1=>.exc c st1
 |_=>.bad
def zi{T:Nat->Option IC.Fn}{k f:Nat}{fn:IC.Fn}{args:List PV}{st:SO}(hT:T f=AA fn)(hp:fn.pure=AE)(hl:args.length=fn.np):
  yd T (k+1) f args st=outI (exs (yd T k) (args.map AA++AK (fn.ns-fn.np) AB) st fn.body):=by
 rw[yd,hT];dsimp only;rw[if_pos hl,hp,if_neg (by simp)];rfl
def zak{st:SO}{v:PV}:outI (.rt v st)=.ok v st:=rfl
def zgs{st s:SO}{b:Bool}:ydC st (.rt (.bl b) s)=.ok (.bl b) st:=rfl
set_option backward.eqns.nonrecursive true
local macro_rules | `(tactic| simp! [$xs,*])=>do
 let l<-("IC.xs_cons IC.xs_nil IC.x_asg IC.x_ite IC.x_ret IC.x_expr IC.x_for IC.x_six IC.x_try IC.x_raise IC.evs IC.evi IC.ve1 IC.ve2 IC.ve3 IC.ve5 IC.ve6 IC.ve7 IC.ve8 IC.ve10 IC.ve11 IC.ve12 IC.ve13 IC.ve16 IC.ve17 IC.ve18 IC.ve19 IC.ve20 IC.ve22 IC.ve24 IC.ve26 IC.v_comp List.getElem?_cons_zero List.getElem?_cons_succ WK.bd_ok WK.fl_ok WK.bd_exc WK.fl_exc WK.toR_some IC.toL WK.bT_n WK.nxO_some WK.th_nx WK.th_rt WK.th_exc List.set_cons_zero List.set_cons_succ WK.on_t WK.t_bl WK.ono IC.onBl cond_true cond_false List.length_cons List.length_nil Nat.zero_add Nat.reduceAdd Nat.reduceSub Nat.reduceLeDiff if_true IC.nL IC.nLs WK.noLocs_ints Bool.and_self Bool.not_true Bool.not_false List.map_cons List.map_nil List.replicate List.cons_append List.nil_append List.append_nil Option.bind_none Option.bind_some Option.join_some WK.b_add WK.b_sub WK.b_mul2 WK.b_div2 WK.c_lt WK.c_le WK.c_gt WK.c_ge WK.c_eq WK.c_ne IC.PV.tup IC.sizeMax".splitOn " ").toArray.mapM λs=>`(Lean.Parser.Tactic.simpLemma| $(Lean.mkIdent s.toName):term)
 `(tactic| simp only[$l,*,$xs,*])
theorem rdS{st:SO}{n:Nat}{o x:Ob}(h:st[n]?=AA o):(st.set n x)[n]?=AA x:=by
 have:n<st.length:=by
  rcases E3 n st.length with h1|h1
  .exact h1
  .rw[Aj h1]at h;cases h
 rw[BD this]
def zjP(ns:List Int)(a:Int)(h:ns≠[]):∃v,yaQ (ns.map PV.int) (.int (a%(ns.length:Int)))=AA (.int v):=by
 have h0:0<ns.length:=FG.2 h;have h1:=E8 a (show (ns.length:Int)≠0 by lia);have h2:=Do a (show (0:Int)<ns.length by lia);have h3:(a%(ns.length:Int)).toNat<ns.length:=by lia
 refine⟨ns[(a%(ns.length:Int)).toNat],?_⟩;simp[yaQ,at?,ixI,h1,h2,h3]
def flT:Css:=match yL.body with
 |.cons _ (.cons _ (.cons _ t))=>t
 |x=>x
abbrev flS(l:PV)(a p:Int)(f:Bool):Ob:=.lst [l,.int a,.int p,.bl f]
def zkL{st:SO}{n:Nat}{l:PV}{a p v:Int}{f:Bool}(h:st[n]?=AA (flS l a p f)):yaY st (.loc n) (.int 1) (.int v)=AA (st.set n (flS l v p f)):=by erw[yaY,h];rfl
def zkt{st:SO}{n:Nat}{l:PV}{a p v:Int}{f:Bool}(h:st[n]?=AA (flS l a p f)):yaY st (.loc n) (.int 2) (.int v)=AA (st.set n (flS l a v f)):=by erw[yaY,h];rfl
def zkz{st:SO}{n:Nat}{l:PV}{a p:Int}{f g:Bool}(h:st[n]?=AA (flS l a p f)):yaY st (.loc n) (.int 3) (.bl g)=AA (st.set n (flS l a p g)):=by erw[yaY,h];rfl
def zlq{st:SO}{n:Nat}{l:PV}{a p:Int}{f:Bool}(h:st[n]?=AA (flS l a p f)):idxV st (.loc n) (.int 0)=AA l:=by erw[idxV,h];rfl
def zlr{st:SO}{n:Nat}{l:PV}{a p:Int}{f:Bool}(h:st[n]?=AA (flS l a p f)):idxV st (.loc n) (.int 1)=AA (.int a):=by erw[idxV,h];rfl
def zls{st:SO}{n:Nat}{l:PV}{a p:Int}{f:Bool}(h:st[n]?=AA (flS l a p f)):idxV st (.loc n) (.int 3)=AA (.bl f):=by erw[idxV,h];rfl
theorem p18:yx .pow (.int 10) (.int 18)=AA (.int 1000000000000000000):=by with_unfolding_all rfl
def zcA(k n:Nat){l:PV}{m a v p q:Int}{f g:Bool}{st:SO}(h:st[n]?=AA (flS l a p f))(hl:∀st,yaB .len st [l]=AA (.int m))(hg:(decide (a ≥ m) || decide (v<1000000000000000000))=g)
  (h1:g=AC->yd T (k+1) yes [.int v] (st.set n (flS l (a+1) p AC))=.ok (.int q) (st.set n (flS l (a+1) p AC))) (h2:g=AE->q=v-1000000000000000000):
  exs (yd T (k+1)) [AA (.loc n),AA l,AA (.int a),AA (.int v)] st flT=.nx [AA (.loc n),AA l,AA (.int a),AA (.int v)] (st.set n (flS l (a+1) q g)):=by
 have s1:=zkL h (v:=a+1);have r1:=rdS h (x:=flS l (a+1) p f);have s2:=zkz r1 (g:=g);have r2:=rdS r1 (x:=flS l (a+1) p g);have s3:=zkt r2 (v:=q);have i3:=zls r2;rw[DX]at s2 s3 i3 r2;rw[DX]at s3
 have hb:flT=(match flT with
  |.cons a (.cons (.six x y _) r)=>.cons a (.cons (.six x y (.or (.cmp .ge (.var 2) (.blt .len (.cons (.var 1) .nil))) (.cmp .lt (.var 3) (.bin .pow (.cst (.int 10)) (.cst (.int 18)))))) r)
  |x=>x):=rfl
 have hor:∀st,ev (yd T (k+1)) [AA (.loc n),AA l,AA (.int a),AA (.int v)] st (.or (.cmp .ge (.var 2) (.blt .len (.cons (.var 1) .nil))) (.cmp .lt (.var 3) (.bin .pow (.cst (.int 10)) (.cst (.int 18)))))=.ok (.bl g) st:=λst=>by
  cases c:decide (a ≥ m)
  .rw[c,G7]at hg;simp! [hl,c,p18,hg]
  .rw[c,Gg]at hg;subst hg;simp! [hl,c]
 generalize hE:(Ce.or (.cmp .ge (.var 2) (.blt .len (.cons (.var 1) .nil))) (.cmp .lt (.var 3) (.bin .pow (.cst (.int 10)) (.cst (.int 18)))))=E at *
 cases g with
 |true=>
  have h1:=h1 rfl;rw[hb];simp! [flT,yL,stO,s1,hor,s2,i3,h1,s3]
 |false=>
  have h2:=h2 rfl;subst h2;rw[hb];simp! [flT,yL,stO,s1,hor,s2,i3,p18,s3]
theorem fill(k n:Nat)(ns:List Int)(hns:ns.length<=1000)(a p:Int)(ha:0<=a)(f:Bool)(st:SO)(h:st[n]?=AA (.lst [.lst (ns.map .int),.int a,.int p,.bl f])):
  ∃p' f',yd T (k+2) yga [.loc n] st=.ok .non (st.set n (.lst [.lst (ns.map .int),.int (a+1),.int p',.bl f'])):=by
 have hT:T yga=AA ⟨1,4,AE,yL.body⟩:=rfl;have hl:∀st,yaB .len st [.lst (ns.map .int)]=AA (.int (ns.length:Int)):=λst=>by
  show AA (PV.int (((ns.map PV.int).length:Nat):Int))=_;simp
 have i0:=zlq h;have i1:=zlr h;have bt:∀(a b:PV) (ρ:IC.Env),yo (.t [1,2]) (.tp AE [a,b]) ρ=AA ((ρ.set 1 (AA a)).set 2 (AA b)):=λ_ _ _=>rfl
 have hb:yL.body=(match yL.body with
  |.cons a (.cons b (.cons c _))=>.cons a (.cons b (.cons c flT))
  |x=>x):=rfl
 have m31:yx .mul (.int 31) (.int a)=AA (.int (31*a)):=zgC ⋯;obtain⟨v,hv⟩:∃v,exs (yd T (k+1)) [AA (.loc n),AB,AB,AB] st yL.body=exs (yd T (k+1)) [AA (.loc n),AA (.lst (ns.map .int)),AA (.int a),AA (.int v)] st flT:=by
  by_cases hn:ns=[]
  .have c0:decide ((ns.length:Int) > 0)=false:=by subst hn;rfl
   refine⟨31*a+7,?_⟩;rw[hb];generalize flT=F,ns.map PV.int=L at *;simp! [yL,i0,i1,bt,m31,hl,c0]
  .have h0:0<ns.length:=FG.2 hn;let⟨v,hv⟩:=zjP ns a hn;have c0:decide ((ns.length:Int) > 0)=true:=decide_eq_true ∅;have d1:=zkk (i:=a) (j:=(ns.length:Int)) ∅ ∅;have d2:=zj8 (i:=a) (j:=(ns.length:Int)) ∅;have m1:yx .mul (.int 104729) (.int (a/(ns.length:Int)))=AA (.int (104729*(a/(ns.length:Int)))):=zgC ⋯;have ix:∀st,idxV st (.lst (ns.map .int)) (.int (a%(ns.length:Int)))=AA (.int v):=λ_=>hv;refine⟨104729*(a/(ns.length:Int))+v,?_⟩;rw[hb];generalize flT=F,ns.map PV.int=L at *;simp! [yL,i0,i1,bt,m31,hl,c0,d1,d2,m1,ix]
 cases c:(decide (a ≥ (ns.length:Int)) || decide (v<1000000000000000000))with
 |true=>
  let⟨q,hq⟩:=mixed k v (st.set n (flS (.lst (ns.map .int)) (a+1) p AC));refine⟨q,AC,?_⟩;rw[zi hT rfl rfl];have e:=zcA k n h hl c (λ_=>hq) (λh=>nomatch h);rw[<-hv]at e;exact(congrArg _ e).trans rfl
 |false=>
  refine⟨v-1000000000000000000,AE,?_⟩;rw[zi hT rfl rfl];have e:=zcA k n h hl c (λh=>nomatch h) (λ_=>rfl);rw[<-hv]at e;exact(congrArg _ e).trans rfl
def yaX:Ce:=match yJ.body with
 |.cons _ (.cons (.while c _) _)=>c
 |_=>.nope
def ybh:Css:=match yJ.body with
 |.cons _ (.cons (.while _ b) _)=>b
 |_=>.nil
def zeF{c:Cl}{n:Nat}{ns:List Int}{a p m t:Int}{f:Bool}{u:Option PV}{st:SO}(h:st[n]?=AA (.lst [.lst (ns.map .int),.int a,.int p,.bl f])):
  ∃B,ev c [AA (.loc n),AA (.int m),AA (.int t),u] st yaX=.ok (.bl B) st/\(B=AC->t<64):=by
 by_cases h1:t<64
 .by_cases h2:p=0
  .refine⟨AC,?_,λ_=>h1⟩;erw[yaX,yJ,IC.ve1,IC.ve2,IC.ve3,IC.ve6,IC.ve7,IC.ve8,IC.ve16,R.bind,Ah,Ae,h,idxV,yaQ,at?,ixI,yx,binI,yay,toR,yI,ybw,onBl];simp[h1,h2,zcl,zie]
  .have h2:(p==0)=false:=by simp[h2]
   cases f
   .refine⟨AE,?_,λ_=>h1⟩;erw[yaX,yJ,IC.ve1,IC.ve2,IC.ve3,IC.ve6,IC.ve7,IC.ve8,IC.ve16,R.bind,Ah,Ae,h,idxV,yaQ,at?,ixI,yx,binI,yay,toR,yI,ybw,onBl];simp[h,h1,h2,zcl,zie]
   .refine⟨decide (p<m*4096),?_,λ_=>h1⟩;erw[yaX,yJ,IC.ve1,IC.ve2,IC.ve3,IC.ve6,IC.ve7,IC.ve8,IC.ve16,R.bind,Ah,Ae,h,idxV,yaQ,at?,ixI,yx,binI,yay,toR,yI,ybw,onBl];simp[h,h1,h2,zcl,zie]
 .refine⟨AE,?_,λz=>by cases z⟩;erw[yaX,yJ,IC.ve1,IC.ve2,IC.ve3,IC.ve6,IC.ve7,IC.ve8,IC.ve16,R.bind,Ah,Ae,h,idxV,yaQ,at?,ixI,yx,binI,yay,toR,yI,ybw,onBl];simp[h1]
def zd1(k:Nat){n:Nat}{ns:List Int}(hns:ns.length<=1000){a p m t:Int}(ha:0<=a){f:Bool}{u:Option PV}{st:SO}(h:st[n]?=AA (.lst [.lst (ns.map .int),.int a,.int p,.bl f])):
  ∃p' f',exs (yd T (k+2)) [AA (.loc n),AA (.int m),AA (.int t),u] st ybh=.nx [AA (.loc n),AA (.int m),AA (.int (t+1)),u] (st.set n (.lst [.lst (ns.map .int),.int (a+1),.int p',.bl f'])):=by
 let⟨q,g,hq⟩:=fill k n ns hns a p ha f st h;have hm:(1+q%4093).natAbs<18446744073709551616:=by lia
 have hau:∀st,ex (yd T (k+2)) [AA (.loc n),AA (.int m),AA (.int t),u] st (.aug 2 .add (.cst (.int 1)))=.nx [AA (.loc n),AA (.int m),AA (.int (t+1)),u] st:=λst=>by
  rw[x_aug (x:=.int t) rfl];simp[IC.ve1,R.fl,yba,yx,binI,nxO]
 cases g
 .refine⟨q,AE,?_⟩;erw[ybh,yJ,xs_cons,xs_nil,x_expr,x_ite,x_six,hau,yaA,nxO,IC.ve1,IC.ve2,IC.ve3,IC.ve6,IC.ve8,IC.ve16,IC.ve18,evs,R.fl,R.bind,hq,yba,yx,binI,CT,BY,BZ,Ah,Ae,rdS h,idxV,yaQ,at?,ixI,yay,toR,yI,ybw,onBl,onF,yar];simp[rdS h]
 .by_cases hl:q<m*4096
  .refine⟨q+m*4096*(1+q%4093),AC,?_⟩;erw[ybh,yJ,xs_cons,xs_nil,x_expr,x_ite,x_six,hau,yaA,nxO,IC.ve1,IC.ve2,IC.ve3,IC.ve6,IC.ve8,IC.ve16,IC.ve18,evs,R.fl,R.bind,hq,yba,yx,binI,CT,BY,BZ,Ah,Ae,rdS h,idxV,yaQ,at?,ixI,yay,toR,yI,ybw,onBl,onF,yar,stO,yaY];simp[rdS h,hl,hm]
  .refine⟨q,AC,?_⟩;erw[ybh,yJ,xs_cons,xs_nil,x_expr,x_ite,x_six,hau,yaA,nxO,IC.ve1,IC.ve2,IC.ve3,IC.ve6,IC.ve8,IC.ve16,IC.ve18,evs,R.fl,R.bind,hq,yba,yx,binI,CT,BY,BZ,Ah,Ae,rdS h,idxV,yaQ,at?,ixI,yay,toR,yI,ybw,onBl,onF,yar];simp[rdS h,hl]
def zbN(k:Nat){n:Nat}{ns:List Int}(hns:ns.length<=1000){m:Int}{u:Option PV}:∀(r N:Nat) (t a p:Int) (f:Bool) (st:SO),r<=N->64-t<=r->0<=a->st[n]?=AA (.lst [.lst (ns.map .int),.int a,.int p,.bl f]) ->
  ∃t' a' p' f',0<=a'/\yav (yd T (k+2)) yaX ybh (N+1) [AA (.loc n),AA (.int m),AA (.int t),u] st=.nx [AA (.loc n),AA (.int m),AA (.int t'),u] (st.set n (.lst [.lst (ns.map .int),.int a',.int p',.bl f']))
 |r,N,t,a,p,f,st,hN,ht,ha,h=>by
  let⟨B,hB,hb⟩:=zeF (c:=yd T (k+2)) (m:=m) (t:=t) (u:=u) h;have hs:st.set n (.lst [.lst (ns.map .int),.int a,.int p,.bl f])=st:=by
   refine Fg λi=>?_;rw[CY];split
   .rename_i e;subst e;split
    .exact h.symm
    .rename_i z;rw[Aj ∅]at h
     cases h
   .rfl
  cases B with
  |false=>exact⟨t,a,p,f,ha,by rw[zca hB rfl,hs]⟩
  |true=>
   have h64:=hb rfl
   match r,N with
   |0,_=>exact absurd ht ∅
   |r+1,N+1=>
    let⟨p1,f1,hx⟩:=zd1 k hns (m:=m) (t:=t) ha (u:=u) h;let⟨t',a',p',f',h0,h2⟩:=zbN k hns (m:=m) (u:=u) r N (t+1) (a+1) p1 f1 _ ∅ ∅ ∅ (rdS h);refine⟨t',a',p',f',h0,?_⟩;rw[zdA hB rfl hx,h2,DX]
theorem take(k n:Nat)(ns:List Int)(hns:ns.length<=1000)(a p m:Int)(ha:0<=a)(hm:0<m)(hm2:m<10000000000000000000000000000000000000000000000000000000000000000000000)(f:Bool)(st:SO)(h:st[n]?=AA (.lst [.lst (ns.map .int),.int a,.int p,.bl f])):
  ∃d a' p' f',0<=d/\d<m/\0<=a'/\yd T (k+3) yet [.loc n,.int m] st=.ok (.int d) (st.set n (.lst [.lst (ns.map .int),.int a',.int p',.bl f'])):=by
 let⟨t',a',p',f',h0,h2⟩:=zbN k hns (m:=m) (u:=AB) 64 99999 0 a p f st ∅ ∅ ha h;refine⟨p'%m,a',p'/m,f',E8 _ ∅,Do _ hm,h0,?_⟩;have hb:yJ.body=.cons (.asg (.n 2) (.cst (.int 0))) (.cons (.while yaX ybh) (.cons (.asg (.n 3) (.bin .mod (.idx (.var 0) (.cst (.int 2))) (.var 1))) (.cons (.six (.var 0) (.cst (.int 2)) (.bin .fdiv (.idx (.var 0) (.cst (.int 2))) (.var 1))) (.cons (.ret (.var 3)) .nil)))):=rfl;have hT:T yet=AA ⟨2,4,AE,yJ.body⟩:=rfl;rw[yd,hT,hb];erw[Ag,Ck,if_true,AZ,CO,FK,AK,DI,Cj,xs_cons,xs_nil,x_asg,zg4,x_six,x_ret,yaA,nxO,stO,IC.ve1,IC.ve2,IC.ve3,IC.ve16,R.fl,R.bind,yo,BY,BZ,Ah,Ae,h2,rdS h,idxV,yaQ,at?,ixI,yx,binI,hm,hm2,and_self,toR,yaY];simp[rdS h,hm,hm2]
def Drw(ns:List Int)(n:Nat)(st:SO):Prop:=∃a p f,0<=a/\st[n]?=AA (.lst [.lst (ns.map .int),.int a,.int p,.bl f])
def Onl(ns:List Int)(n:Nat)(st st':SO):Prop:=∃a p f,0<=a/\st'=st.set n (.lst [.lst (ns.map .int),.int a,.int p,.bl f])
theorem Onl.drw{ns:List Int}{n:Nat}{st st':SO}(h:Drw ns n st)(o:Onl ns n st st'):Drw ns n st':=by
 let⟨a,p,f,ha,h⟩:=h;let⟨b,q,g,hb,rfl⟩:=o;exact⟨b,q,g,hb,rdS h⟩
theorem Onl.trans{ns:List Int}{n:Nat}{st st1 st2:SO}(o:Onl ns n st st1)(o2:Onl ns n st1 st2):Onl ns n st st2:=by
 let⟨b,q,g,hb,rfl⟩:=o;let⟨c,r,j,hc,rfl⟩:=o2;exact⟨c,r,j,hc,by rw[DX]⟩
def zkO(k:Nat){n:Nat}{ns:List Int}(hns:ns.length<=1000){m:Int}(hm:0<m)(hm2:m<10000000000000000000000000000000000000000000000000000000000000000000000){st:SO}(h:Drw ns n st):
  ∃d st',0<=d/\d<m/\Onl ns n st st'/\yd T (k+3) yet [.loc n,.int m] st=.ok (.int d) st':=by
 let⟨a,p,f,ha,h⟩:=h;let⟨d,a',p',f',h1,h2,h3,h4⟩:=take k n ns hns a p m ha hm hm2 f st h;exact⟨d,_,h1,h2,⟨_,_,_,h3,rfl⟩,h4⟩
theorem fresh(k:Nat)(ns:List Int)(h:ns.length<=63)(st:SO):∃v,yd T (k+1) yfY [.scr (ns.map .int)] st=.ok (.loc st.length) (st++[v])/\v=.lst [.lst (ns.map .int),.int 0,.int 0,.bl AE]:=by
 have hT:T yfY=AA ydu:=rfl;refine⟨_,?_,rfl⟩;rw[yd,hT];erw[ydu,Ag,Ck,if_true,AZ,CO,FK,AK,DI,Cj,xs_cons,xs_nil,x_ret,yaA,ev,evs,R.fl,R.bind,Ah,toR];have hc:ycW (.scr (ns.map PV.int)) AB (.int 63)=AA (.lst (ns.map .int)):=by
  have hk:ybC ns.length 63=ns.length:=by
   show min 63 ns.length=ns.length;lia
  simp[ycW,ybW,ycd,cut,yct,yc5,hk]
  try rw[<-Ak (f:=PV.int),Fv]
 simp[ybW,onP,hc,sizeMax]
theorem Drw.refl{ns:List Int}{n:Nat}{st:SO}(h:Drw ns n st):Onl ns n st st:=by
 let⟨a,p,f,ha,h⟩:=h;exact⟨a,p,f,ha,zgc h⟩
theorem Drw.pos{ns:List Int}{st:SO}(h:Drw ns 0 st):0<st.length:=by
 let⟨a,p,f,ha,h⟩:=h;rcases E3 0 st.length with z|z
 .exact z
 .rw[Aj z]at h;cases h
theorem Drw.app{ns:List Int}{st:SO}(h:Drw ns 0 st)(o:Ob):Drw ns 0 (st++[o]):=by
 have hl:=h.pos;let⟨a,p,f,ha,h⟩:=h;exact⟨a,p,f,ha,by rw[AQ hl];exact h⟩
theorem Drw.put{ns:List Int}{st:SO}(h:Drw ns 0 st){L:Nat}(hL:L≠0)(o:Ob):Drw ns 0 (st.set L o):=by
 let⟨a,p,f,ha,h⟩:=h;exact⟨a,p,f,ha,by rw[Al hL];exact h⟩
theorem Onl.get{ns:List Int}{st st':SO}(o:Onl ns 0 st st'){L:Nat}(hL:L≠0):st'[L]?=st[L]?:=by
 let⟨a,p,f,ha,rfl⟩:=o;rw[Al (Bu hL)]
def zdm(l:List Int):nLs [PV.scr (l.map .int)]=true:=by simp[nLs,nL,noLocs_ints]
theorem Onl.len{ns:List Int}{n:Nat}{st st':SO}(o:Onl ns n st st'):st'.length=st.length:=by
 let⟨a,p,f,ha,rfl⟩:=o;rw[BK]
local macro_rules | `(tactic| simp! [$xs,*])=>do
 let l<-("IC.xs_cons IC.xs_nil IC.x_asg IC.x_ite IC.x_ret IC.x_expr IC.x_for IC.x_six IC.x_try IC.x_raise IC.evs IC.evi IC.ve1 IC.ve2 IC.ve3 IC.ve5 IC.ve6 IC.ve7 IC.ve8 IC.ve10 IC.ve11 IC.ve12 IC.ve13 IC.ve16 IC.ve17 IC.ve18 IC.ve19 IC.ve20 IC.ve22 IC.ve24 IC.ve26 IC.ve31 IC.v_comp List.getElem?_cons_zero List.getElem?_cons_succ WK.bd_ok WK.fl_ok WK.bd_exc WK.fl_exc WK.toR_some IC.toL WK.bT_n WK.nxO_some WK.th_nx WK.th_rt WK.th_exc List.set_cons_zero List.set_cons_succ WK.on_t WK.t_bl WK.ono IC.onBl cond_true cond_false List.length_cons List.length_nil Nat.zero_add Nat.reduceAdd Nat.reduceSub Nat.reduceLeDiff if_true IC.nL IC.nLs WK.noLocs_ints Bool.and_self Bool.not_true Bool.not_false List.map_cons List.map_nil List.replicate List.cons_append List.nil_append List.append_nil Option.bind_none Option.bind_some Option.join_some WK.b_add WK.b_sub WK.b_mul2 WK.b_div2 WK.c_lt WK.c_le WK.c_gt WK.c_ge WK.c_eq WK.c_ne IC.PV.tup IC.sizeMax".splitOn " ").toArray.mapM λs=>`(Lean.Parser.Tactic.simpLemma| $(Lean.mkIdent s.toName):term)
 `(tactic| simp only[$l,*,$xs,*])
def rws:List Str:=[AT "add",AT "less",AT "swap",AT "copy",AT "twice",AT "half",AT "bare",AT "both",AT "any",AT "odd",AT "nought",AT "clear",AT "one"]
abbrev T3:=Int×Int×Int
def t3(t:T3):PV:=.tp AE [.int t.1,.int t.2.1,.int t.2.2]
def r3:R PV->Option T3
 |.ok (.tp AE [.int x,.int y,.int z]) _=>AA (x,y,z)
 |_=>AB
def zdS{r:R PV}{p:T3}(h:r3 r=AA p):∃st,r=.ok (t3 p) st:=by
 unfold r3 at h;split at h
 .cases h;exact⟨_,rfl⟩
 .cases h
def W3(w:Nat)(t:T3):Prop:=0<=t.1/\t.1<((2^w:Nat):Int)/\0<=t.2.1/\t.2.1<((2^w:Nat):Int)/\0<=t.2.2/\t.2.2<2
instance (w:Nat) (t:T3):Decidable (W3 w t):=by unfold W3;infer_instance
def sd(w:Nat)(r:AN)(t:T3):T3:=(r3 (yd T 5 yy [.str r,.int w,.int t.1,.int t.2.1,.int t.2.2] [])).getD t
def sts(w:Nat):List T3:=(DE (2^w)).flatMap λ(a:Nat)=>(DE (2^w)).flatMap λ(b:Nat)=>(DE 2).map λ(c:Nat)=>(((a:Int),(b:Int),(c:Int)):T3)
def yeM(w:Nat)(r:AN)(t:T3):Bool:=
 match r3 (yd T 5 yy [.str r,.int w,.int t.1,.int t.2.1,.int t.2.2] [])with
 |some p=>decide (W3 w p)
 |_=>AE
def ydm(w:Nat)(r:AN):Bool:=(sts w).all (yeM w r)
theorem ck1:(rws.all (ydm 1))=true:=by decide +kernel
theorem ck2:(rws.all (ydm 2))=true:=by decide +kernel
theorem ck3:(rws.all (ydm 3))=true:=by decide +kernel
def zfd{w:Nat}{t:T3}(h:W3 w t):t∈sts w:=by
 let⟨x,y,z⟩:=t;let⟨a0,a1,b0,b1,c0,c1⟩:=h;let⟨a,rfl⟩:=zx a0;let⟨b,rfl⟩:=zx b0;let⟨c,rfl⟩:=zx c0;erw[sts,EO,B8,Ct];dsimp only at a1 b1 c1;generalize 2^w=W at *;exact⟨a,by lia,b,by lia,c,by lia,rfl⟩
def zhr{w:Nat}{t:T3}(h:t∈sts w):W3 w t:=by
 erw[sts,EO,B8,Ct]at h;let⟨a,ha,b,hb,c,hc,rfl⟩:=h;unfold W3;dsimp only;generalize 2^w=W at *;lia
def zcj{k f:Nat}{fn:IC.Fn}{args:List PV}{v:PV}{s:SO}(hT:T f=AA fn)(hp:fn.pure=AC)(hl:args.length=fn.np)(hn:nLs args=AC)(h:yd T (k+1) f args []=.ok v s)(st:SO):yd T (k+1) f args st=.ok v st:=by
 rw[zbU hT hp hl hn]at h ⊢;unfold ydC at h ⊢;split at h
 .rename_i v1 s1 e;split at h
  .rename_i q;rw[if_pos q];injection h with h1 h2;rw[h1]
  .cases h
 .rename_i e;injection h with h1 h2;rw[<-h1]
 .cases h
 .cases h
abbrev Wid(w:Nat):Prop:=w=1 \/ w=2 \/ w=3
def zdw{w:Nat}(hw:Wid w){r:AN}(hr:r∈rws){t:T3}(h:W3 w t)(k:Nat)(st:SO):W3 w (sd w r t)/\yd T (k+5) yy [.str r,.int w,.int t.1,.int t.2.1,.int t.2.2] st=.ok (t3 (sd w r t)) st:=by
 have h2:ydm w r=true:=by
  rcases hw with rfl|rfl|rfl
  .exact A4.1 ck1 r hr
  .exact A4.1 ck2 r hr
  .exact A4.1 ck3 r hr
 have h5:=A4.1 h2 t (zfd h);unfold yeM at h5;split at h5
 .rename_i p e1;rw[decide_eq_true_eq]at h5;let⟨s1,f1⟩:=zdS e1;have e:sd w r t=p:=by unfold sd;rw[e1];rfl
  rw[e];refine⟨h5,?_⟩;rw[DB];exact zT (zcj (fn:=yn) rfl rfl rfl rfl f1 st) k
 .cases h5
def ad(w:Nat)(ss:List AN)(t:T3):T3:=ss.foldl (λt r=>sd w r t) t
def zbQ{t:Tg}{F:IC.Env->SO->Fl}{n:Nat}{xs:List PV}{st:SO}(hs:st[n]?=AA (.lst xs))(P:IC.Env->Prop)(hP:∀v∈xs,∀ρ,P ρ->∃ρ1,yo t v ρ=AA ρ1/\((∃ρ2,F ρ1 st=.nx ρ2 st/\P ρ2) \/ ∃c ρ2,F ρ1 st=.exc c ρ2 st)):
  ∀(m i:Nat) (ρ:IC.Env),P ρ->i<=xs.length->xs.length<i+m->ya8 t F n m i ρ st=forL t F (xs.drop i) ρ st
 |0,i,ρ,hρ,h1,h2=>by lia
 |m+1,i,ρ,hρ,h1,h2=>by
  rw[ya8,hs];dsimp only
  by_cases hi:i<xs.length
  .rw[B7 hi,BB hi,forL];dsimp only;obtain⟨ρ1,e1,⟨ρ2,e2,h3⟩|⟨c,ρ2,e2⟩⟩:=hP xs[i] (EQ hi) ρ hρ
   .rw[e1];dsimp only;rw[e2];exact zbQ hs P hP m (i+1) ρ2 h3 ∅ ∅
   .rw[e1];dsimp only;rw[e2];rfl
  .rw[Aj ∅,List.drop_eq_nil_of_le ∅,forL]
def Src(st:SO)(v:PV)(vs:List PV):Prop:=(∃b,v=.tp b vs) \/ v=.lst vs \/ ∃n,v=.loc n/\st[n]?=AA (.lst vs)
def zd9{call:Cl}{t:Tg}{b:Css}{ρ:IC.Env}{st:SO}{i:Nat}{v:PV}{vs:List PV}(hv:ρ[i]?=AA (AA v))(h:Src st v vs)(hl:vs.length<=1000)(P:IC.Env->Prop)(h0:P ρ)(hP:∀r∈vs,∀ρ,P ρ->∃ρ1,yo t r ρ=AA ρ1/\((∃ρ2,exs call ρ1 st b=.nx ρ2 st/\P ρ2) \/ ∃c ρ2,exs call ρ1 st b=.exc c ρ2 st)):
  ex call ρ st (.forl t (.var i) b)=yaM call t b vs ρ st:=by
 have h1:ev call ρ st (.var i)=.ok v st:=by rw[IC.ve2,hv]
 rw[ex,h1,fl_ok];rcases h with⟨b,rfl⟩|rfl|⟨n,rfl,hn⟩
 .rfl
 .rfl
 .dsimp only;exact(zbQ hn P hP 100000 0 ρ h0 ∅ ∅).trans rfl
def ze3{st:SO}{v:PV}{vs:List PV}(h:Src st v vs):yaB .len st [v]=AA (.int vs.length):=by
 rcases h with⟨b,rfl⟩|rfl|⟨n,rfl,hn⟩
 .simp[yaB,lenV,yad]
 .simp[yaB,lenV,yad]
 .simp[yaB,lenV,yad,hn]
def adB:Css:=match yD.body with
 |.cons (.forl _ _ b) _=>b
 |x=>x
def adT:Css:=match yD.body with
 |.cons _ r=>r
 |x=>x
def zlt{i j k:Nat}{a b c:PV}{ρ:IC.Env}:yo (.t [i,j,k]) (.tp AE [a,b,c]) ρ=AA (((ρ.set i (AA a)).set j (AA b)).set k (AA c)):=rfl
def zdO{w:Nat}(hw:Wid w){r:AN}(hr:r∈rws){t:T3}(h:W3 w t)(k:Nat)(st:SO)(p0:Option PV):
  exs (yd T (k+5)) [p0,AA (.int w),AA (.int t.1),AA (.int t.2.1),AA (.int t.2.2),AA (.str r)] st adB=.nx [p0,AA (.int w),AA (.int (sd w r t).1),AA (.int (sd w r t).2.1),AA (.int (sd w r t).2.2),AA (.str r)] st:=by
 have e:=(zdw hw hr h k st).2;simp! [adB,yD,e,zlt,t3]
def zeB{w:Nat}(hw:Wid w)(k:Nat)(st:SO)(p0:Option PV):∀(ss:List AN),(∀r∈ss,r∈rws)->∀{t:T3},W3 w t->∀p5,∃q5,
  yaM (yd T (k+5)) (.n 5) adB (ss.map .str) [p0,AA (.int w),AA (.int t.1),AA (.int t.2.1),AA (.int t.2.2),p5] st=.nx [p0,AA (.int w),AA (.int (ad w ss t).1),AA (.int (ad w ss t).2.1),AA (.int (ad w ss t).2.2),q5] st
 |[],hs,t,h,p5=>⟨p5,zQ⟩
 |r::ss,hs,t,h,p5=>by
  have hr:=hs r AW;let⟨q5,f⟩:=zeB hw k st p0 ss (λr hr=>hs r (AL _ hr)) (zdw hw hr h 0 []).1 (AA (.str r));refine⟨q5,?_⟩;rw[AZ,zD (ρ1:=[p0,AA (.int w),AA (.int t.1),AA (.int t.2.1),AA (.int t.2.2),AA (.str r)]) rfl,zdO hw hr h k st p0];exact f
def zaD{w:Nat}(hw:Wid w)(k:Nat){ss:List AN}(hs:∀r∈ss,r∈rws)(hl:ss.length<=8){t:T3}(h:W3 w t)(st:SO){v:PV}(hv:Src st v (ss.map .str)):
  yd T (k+6) yfv [v,.int w,.int t.1,.int t.2.1,.int t.2.2] st=.ok (t3 (ad w ss t)) st:=by
 let⟨q5,e⟩:=zeB hw k st (AA v) ss hs h AB;have hT:T yfv=AA yD:=rfl;have hb:yD.body=.cons (.forl (.n 5) (.var 0) adB) adT:=rfl;rw[zi hT rfl rfl];show outI (exs (yd T (k+5)) [AA v,AA (.int w),AA (.int t.1),AA (.int t.2.1),AA (.int t.2.2),AB] st yD.body)=_;rw[hb,xs_cons,zd9 (v:=v) rfl hv (by simp;lia) (λρ=>∃t p,W3 w t/\ρ=[AA v,AA (.int w),AA (.int t.1),AA (.int t.2.1),AA (.int t.2.2),p]) ⟨t,AB,h,rfl⟩ (λr hr ρ hρ=>by
  let⟨t,p,h,rfl⟩:=hρ;let⟨r,hr',rfl⟩:=B8.1 hr;have hr:=hr';exact⟨_,rfl,.inl ⟨_,zdO hw (hs r hr) h k st _,_,_,(zdw hw (hs r hr) h 0 []).1,rfl⟩⟩),e,th_nx]
 simp! [adT,yD,zak,t3]
def l3:R PV->Option (List T3)
 |.ok (.lst vs) _=>vs.mapM λv=>r3 (.ok v [])
 |_=>AB
def zjx{v:PV}{p:T3}(h:r3 (.ok v [])=AA p):v=t3 p:=by
 let⟨st,e⟩:=zdS h
 cases e;rfl
def zdy:∀(vs:List PV) (l:List T3),(vs.mapM λv=>r3 (.ok v []))=AA l->vs=l.map t3
 |[],l,h=>by cases h;rfl
 |v::vs,l,h=>by
  erw[List.mapM_cons,Option.bind_eq_bind,Option.bind_eq_some_iff,Option.pure_def,Bb]at h;let⟨p,h1,q,h2,rfl⟩:=h;rw[AZ,zjx h1,zdy vs q h2]
def zgV{r:R PV}{l:List T3}(h:l3 r=AA l):∃st,r=.ok (.lst (l.map t3)) st:=by
 unfold l3 at h;split at h
 .rename_i vs st;exact⟨st,by rw[zdy vs l h]⟩
 .cases h
theorem es1:l3 (yd T 1 yk [.int 1] [])=AA (sts 1):=by decide +kernel
theorem es2:l3 (yd T 1 yk [.int 2] [])=AA (sts 2):=by decide +kernel
theorem es3:l3 (yd T 1 yk [.int 3] [])=AA (sts 3):=by decide +kernel
def zfp{w:Nat}(hw:Wid w)(k:Nat)(st:SO):yd T (k+1) yk [.int w] st=.ok (.lst ((sts w).map t3)) st:=by
 have h:l3 (yd T 1 yk [.int w] [])=AA (sts w):=by
  rcases hw with rfl|rfl|rfl
  .exact es1
  .exact es2
  .exact es3
 let⟨s,e⟩:=zgV h;rw[DB];exact zT (zcj (fn:=yv) rfl rfl rfl rfl e st) k
def zez(a b:T3):peq (t3 a) (t3 b)=decide (a=b):=by
 let⟨x,y,z⟩:=a;let⟨x',y',z'⟩:=b;erw[t3,peq,ybi,Bool.and_true]
 by_cases h1:x=x'<;>by_cases h2:y=y'<;>by_cases h3:z=z'<;>simp[h1,h2,h3]
def zhx{k v:PV}{kvs:List (PV×PV)}(h:∀p∈kvs,peq p.1 k=AE):IC.put k v kvs=kvs++[(k,v)]:=by
 have:(kvs.any λp=>peq p.1 k)=false:=by
  rw[Fh];exact λp hp=>by rw[h p hp];simp
 unfold IC.put;rw[if_neg (by rw[this];simp)]
def kvt(w:Nat)(r:AN)(ts:List T3):List (PV×PV):=ts.map λt=>(t3 t,t3 (sd w r t))
def zgJ(w:Nat)(r:AN):∀(ts:List T3) {t:T3},t∈ts->look (t3 t) (kvt w r ts)=AA (t3 (sd w r t))
 |[],t,h=>nomatch h
 |u::ts,t,h=>by
  erw[kvt,AZ,look,zez]
  by_cases e:u=t
  .subst e;simp
  .rw[decide_eq_false e];exact zgJ w r ts ((A6.1 h).resolve_left λz=>e z.symm)
def toE:Ce:=match yE.body with
 |.cons (.ret (.dcm _ _ _ k _)) _=>k
 |_=>.nope
def toV:Ce:=match yE.body with
 |.cons (.ret (.dcm _ _ _ _ v)) _=>v
 |_=>.nope
def zjV{w:Nat}(hw:Wid w){r:AN}(hr:r∈rws){t:T3}(h:W3 w t)(k:Nat)(st:SO):yb1 (yd T (k+5)) [AB,AB,AB,AA (.str r),AA (.int w)] (.t [0,1,2]) toE toV (t3 t) st=.ok (t3 t,t3 (sd w r t)) st:=by
 have e:=(zdw hw hr h k st).2;have hb:yo (.t [0,1,2]) (t3 t) [AB,AB,AB,AA (.str r),AA (.int w)]=AA [AA (.int t.1),AA (.int t.2.1),AA (.int t.2.2),AA (.str r),AA (.int w)]:=rfl;erw[yb1,hb];simp! [toE,toV,yE,e];rfl
def zeJ{w:Nat}(hw:Wid w){r:AN}(hr:r∈rws)(k:Nat)(st:SO):∀(ts done:List T3),(∀t∈ts,W3 w t)->(done++ts).Nodup ->
  yaw (yb1 (yd T (k+5)) [AB,AB,AB,AA (.str r),AA (.int w)] (.t [0,1,2]) toE toV) (ts.map t3) (kvt w r done) st=.ok (kvt w r (done++ts)) st
 |[],done,h,hn=>by rw[BJ];rfl
 |t::ts,done,h,hn=>by
  rw[AZ,yaw,zjV hw hr (h t AW) k st,bd_ok];have hk:isKey AC (t3 t)=true:=rfl;dsimp only;rw[if_pos hk,zhx]
  .have e:kvt w r done++[(t3 t,t3 (sd w r t))]=kvt w r (done++[t]):=by simp[kvt]
   rw[e,zeJ hw hr k st ts (done++[t]) (λt h'=>h t (AL _ h')) (by simpa using hn)];simp
  .intro p hp;erw[kvt,B8]at hp;let⟨u,hu,rfl⟩:=hp;rw[zez];refine decide_eq_false λe=>?_;subst e;rw[List.nodup_append]at hn;exact hn.2.2 u hu u AW rfl
def zj2{w:Nat}(hw:Wid w):(sts w).Nodup:=by rcases hw with rfl|rfl|rfl<;>decide +kernel
def zck{w:Nat}(hw:Wid w):(sts w).length<=128:=by rcases hw with rfl|rfl|rfl<;>decide +kernel
def zfs{w:Nat}(hw:Wid w){r:AN}(hr:r∈rws)(k:Nat)(st:SO):yd T (k+6) yfF [.str r,.int w,.lst ((sts w).map t3)] st=.ok (.loc st.length) (st++[.dct AC (kvt w r (sts w))]):=by
 have e:=zeJ hw hr k st (sts w) [] (λt h=>zhr h) (by simpa using zj2 hw);have hl:=zck hw;have hT:T yfF=AA yE:=rfl;have hb:yE.body=.cons (.ret (.dcm [AB,AB,AB,AA 0,AA 1] (.t [0,1,2]) (.seq (.var 2)) toE toV)) .nil:=rfl;rw[zi hT rfl rfl,hb];have e:yaw (yb1 (yd T (k+5)) [AB,AB,AB,AA (.str r),AA (.int w)] (.t [0,1,2]) toE toV) ((sts w).map t3) [] st=.ok (kvt w r (sts w)) st:=e;simp! [yE,IC.ve54,e,dctR,Ak];rw[if_pos ∅];rfl
abbrev Pt:=List AN×List T3
def tv(p:Pt):PV:=.tp AE [.tp AE (p.1.map .str),.lst (p.2.map t3)]
def tbv(q:AN×Nat):PV:=.tp AE [.str q.1,.loc q.2]
def nxt(w:Nat)(p:Pt)(r:AN):Pt:=(p.1++[r],p.2.map (sd w r))
def ycA(w:Nat)(st:SO)(tabs:List (AN×Nat)):Prop:=∀q∈tabs,q.1∈rws/\st[q.2]?=AA (.dct AC (kvt w q.1 (sts w)))
def zj6{w:Nat}{st:SO}{n:Nat}{r:AN}(h:st[n]?=AA (.dct AC (kvt w r (sts w)))){t:T3}(ht:W3 w t):ycP st (.loc n) (t3 t)=AA (t3 (sd w r t)):=by
 have hk:isKey AC (t3 t)=true:=rfl;erw[ycP,yah,h,hk,if_true];exact zgJ w r (sts w) (zfd ht)
def zds{call:Cl}{w:Nat}{st:SO}{n:Nat}{r:AN}(h:st[n]?=AA (.dct AC (kvt w r (sts w)))):∀(en:List T3),(∀t∈en,W3 w t) ->
  yU call [AB,AA (.loc n)] (.n 0) (.cst (.bl AC)) (.dgt (.var 1) (.var 0)) (en.map t3) st=.ok ((en.map (sd w r)).map t3) st
 |[],_=>zO
 |t::en,he=>by
  have hb:yo (.n 0) (t3 t) [AB,AA (.loc n)]=AA [AA (t3 t),AA (.loc n)]:=rfl;rw[AZ,zq];erw[ybp,hb,IC.ve1,bd_ok,t_bl,ono,cond_true];simp! [IC.ve34,zj6 h (he t AW),zds h en λt h'=>he t (AL _ h')];rfl
def olM:Ce:=match yC.body with
 |.cons (.ret (.cmq _ _ _ m)) _=>m
 |_=>.nope
def olE:Ce:=match olM with
 |.emq _ _ m=>m
 |_=>.nope
def zj4{k:Nat}{w:Nat}{st:SO}{p:Pt}(hp:∀t∈p.2,W3 w t)(hl:p.1.length<=100)(hl2:p.2.length<=1000){q:AN×Nat}(hq:st[q.2]?=AA (.dct AC (kvt w q.1 (sts w))))(tb:PV):
  ybj (yd T k) [AA (.tp AE (p.1.map .str)),AA (.lst (p.2.map t3)),AB,AB,AA tb] (.t [2,3]) olE (tbv q) st=.ok [tv (nxt w p q.1)] st:=by
 have hb:yo (.t [2,3]) (tbv q) [AA (.tp AE (p.1.map .str)),AA (.lst (p.2.map t3)),AB,AB,AA tb]=AA [AA (.tp AE (p.1.map .str)),AA (.lst (p.2.map t3)),AA (.str q.1),AA (.loc q.2),AA tb]:=rfl;have ha:yx .add (.tp AE (p.1.map .str)) (.tp AE [.str q.1])=AA (.tp AE ((p.1++[q.1]).map .str)):=by
  cases hp1:p.1 with
  |nil=>rfl
  |cons a l=>
   rw[hp1]at hl;have hz:((a::l).map PV.str).length+[PV.str q.1].length<=sizeMax:=by simp[sizeMax]at hl ⊢;lia
   erw[yx];rw[if_pos hz];simp[ydW]
 have hc:=zds (call:=yd T k) hq p.2 hp;have hz:((p.2.map (sd w q.1)).map t3).length<=1000000:=by simp;lia
 erw[ybj,hb];simp! [olE,olM,yC,ha,hc,zH _ hz];rfl
def zjD{k:Nat}{w:Nat}{st:SO}{p:Pt}(hp:∀t∈p.2,W3 w t)(hl:p.1.length<=100)(hl2:p.2.length<=1000)(tb:PV):∀(tabs:List (AN×Nat)),ycA w st tabs ->
  yae (ybj (yd T k) [AA (.tp AE (p.1.map .str)),AA (.lst (p.2.map t3)),AB,AB,AA tb] (.t [2,3]) olE) (tabs.map tbv) st=.ok ((tabs.map λq=>nxt w p q.1).map tv) st
 |[],_=>rfl
 |q::tabs,h=>by
  rw[AZ,yae,zj4 hp hl hl2 (h q AW).2 tb,bd_ok,zjD hp hl hl2 tb tabs λq hq=>h q (AL _ hq),bd_ok];rfl
def zgo{k:Nat}{w:Nat}{st:SO}{tabs:List (AN×Nat)}(ht:ycA w st tabs):∀(ps:List Pt),(∀p∈ps,(∀t∈p.2,W3 w t)/\p.1.length<=100/\p.2.length<=1000) ->
  yae (ybj (yd T k) [AB,AB,AB,AB,AA (.lst (tabs.map tbv))] (.t [0,1]) olM) (ps.map tv) st=.ok ((ps.flatMap λp=>tabs.map λq=>nxt w p q.1).map tv) st
 |[],_=>rfl
 |p::ps,h=>by
  let⟨h1,h2,h3⟩:=h p AW;have hb:yo (.t [0,1]) (tv p) [AB,AB,AB,AB,AA (.lst (tabs.map tbv))]=AA [AA (.tp AE (p.1.map .str)),AA (.lst (p.2.map t3)),AB,AB,AA (.lst (tabs.map tbv))]:=rfl;have hm:olM=.emq (.t [2,3]) (.seq (.var 4)) olE:=rfl;have hi:=zjD (k:=k) h1 h2 h3 (.lst (tabs.map tbv)) tabs ht;have e1:ybj (yd T k) [AB,AB,AB,AB,AA (.lst (tabs.map tbv))] (.t [0,1]) olM (tv p) st=.ok ((tabs.map λq=>nxt w p q.1).map tv) st:=by
   erw[ybj,hb,hm];have hn:yaf (.t [2,3]) [AA (PV.tp AE (p.1.map .str)),AA (PV.lst (p.2.map t3)),AB,AB,AA (.lst (tabs.map tbv))]=true:=rfl;simp! [IC.ve53,hi,hn];rfl
  rw[AZ,yae,e1,bd_ok,zgo ht ps λp hp=>h p (AL _ hp),bd_ok];simp
def zeD(k:Nat){w:Nat}{st:SO}{tabs:List (AN×Nat)}(ht:ycA w st tabs){ps:List Pt}(h:∀p∈ps,(∀t∈p.2,W3 w t)/\p.1.length<=100/\p.2.length<=1000)(hz:(ps.flatMap λp=>tabs.map λq=>nxt w p q.1).length<=1000000):
  yd T (k+1) yfJ [.lst (ps.map tv),.lst (tabs.map tbv)] st=.ok (.lst ((ps.flatMap λp=>tabs.map λq=>nxt w p q.1).map tv)) st:=by
 have e:=zgo (k:=k) ht ps h;have hT:T yfJ=AA yC:=rfl;have hb:yC.body=.cons (.ret (.cmq [AB,AB,AB,AB,AA 1] (.t [0,1]) (.seq (.var 0)) olM)) .nil:=rfl;rw[zi hT rfl rfl,hb];have hz:((ps.flatMap λp=>tabs.map λq=>nxt w p q.1).map tv).length<=1000000:=by rw[Ak];exact hz
 simp! [yC,IC.ve52,e,zH _ hz];rfl
def yaS:List PV:=rws.map .str
def zac:yf=.tp AC yaS:=by with_unfolding_all rfl
def zf1:yaH 60 yaS=true:=by decide +kernel
def inR(x:PV):Bool:=inL x yaS
def zjn{x:PV}(h:shp x=AC)(st:SO):ybL st x yf=AA (.bl (!inR x)):=by
 rw[zac];erw[ybL,yad,h,zf1,EB,if_true];rfl
def zbr{r:AN}(hr:r∈rws):shp (.str r)=AC/\inR (.str r)=true:=by
 have:(rws.all λr=>shp (.str r)&&inR (.str r))=true:=by decide +kernel
 simpa using A4.1 this r hr
def rrB:Css:=match yj.body with
 |.cons (.forl _ _ b) _=>b
 |x=>x
def rrT:Css:=match yj.body with
 |.cons _ r=>r
 |x=>x
def zgL{call:Cl}{x v:PV}(h:shp x=AC)(st:SO):exs call [AA v,AA x] st rrB=if inR x then .nx [AA v,AA x] st else .exc 4 [AA v,AA x] st:=by
 have e:=zjn h st
 cases hi:inR x with
 |true=>
  rw[hi]at e;simp! [rrB,yj,e]
 |false=>
  rw[hi]at e;simp! [rrB,yj,e];rfl
def zeV{call:Cl}{v:PV}(st:SO):∀(vs:List PV),(∀x∈vs,shp x=AC)->∀p,(vs.all inR=AC->∃q,yaM call (.n 1) rrB vs [AA v,p] st=.nx [AA v,q] st)/\(vs.all inR=AE->∃ρ,yaM call (.n 1) rrB vs [AA v,p] st=.exc 4 ρ st)
 |[],_,p=>⟨λ_=>⟨p,zQ⟩,λh=>(by cases h)⟩
 |x::vs,hs,p=>by
  have h1:=zgL (call:=call) (v:=v) (hs x AW) st;let⟨i1,i2⟩:=zeV (call:=call) (v:=v) st vs (λx hx=>hs x (AL _ hx)) (AA x);rw[zD (ρ1:=[AA v,AA x]) rfl,h1,Ar]
  cases hi:inR x with
  |true=>exact⟨λh=>i1 (by simpa using h),λh=>i2 (by simpa using h)⟩
  |false=>exact⟨λh=>(by cases h),λ_=>⟨_,rfl⟩⟩
def zaf(k:Nat){st:SO}{v:PV}{vs:List PV}(h:Src st v vs)(hs:∀x∈vs,shp x=AC)(hl:vs.length<=1000):yd T (k+1) yb [v] st=if vs.all inR then(if vs.length<=8 then .ok .non st else .exc 8 st)else .exc 4 st:=by
 have hT:T yb=AA yj:=rfl;have hb:yj.body=.cons (.forl (.n 1) (.var 0) rrB) rrT:=rfl;let⟨i1,i2⟩:=zeV (call:=yd T k) (v:=v) st vs hs AB;rw[zi hT rfl rfl];show outI (exs (yd T k) [AA v,AB] st yj.body)=_;rw[hb,xs_cons,zd9 (v:=v) (vs:=vs) rfl h ∅ (λρ=>∃p,ρ=[AA v,p]) ⟨AB,rfl⟩ (λx hx ρ hρ=>by
  let⟨p,rfl⟩:=hρ;refine⟨_,rfl,?_⟩;have h1:=zgL (call:=yd T k) (v:=v) (hs x hx) st;show (∃ρ2,exs (yd T k) [AA v,AA x] st rrB=.nx ρ2 st/\_) \/ ∃c ρ2,exs (yd T k) [AA v,AA x] st rrB=.exc c ρ2 st;rw[h1]
  cases inR x with
  |true=>exact .inl ⟨_,rfl,_,rfl⟩
  |false=>exact .inr ⟨_,_,rfl⟩)]
 cases ha:vs.all inR with
 |false=>
  let⟨ρ,e⟩:=i2 ha;rw[e,th_exc];rfl
 |true=>
  let⟨q,e⟩:=i1 ha;rw[e,th_nx];have hm:yl=.int 8:=rfl
  by_cases hc:vs.length<=8
  .have hd:yI .gt (.int (vs.length:Int)) yl=AA (.bl AE):=by rw[hm,c_gt,decide_eq_false ∅]
   rw[if_pos rfl,if_pos hc];simp! [rrT,yj,ze3 h,hd,outI]
  .have hd:yI .gt (.int (vs.length:Int)) yl=AA (.bl AC):=by rw[hm,c_gt,decide_eq_true ∅]
   rw[if_pos rfl,if_neg hc];simp! [rrT,yj,ze3 h,hd,outI];rfl
def zdE(k:Nat){st:SO}{v:PV}{ss:List AN}(h:Src st v (ss.map .str))(hs:∀r∈ss,r∈rws)(hl:ss.length<=8):yd T (k+1) yb [v] st=.ok .non st:=by
 rw[zaf k h (λx hx=>by
  let⟨r,hr,rfl⟩:=B8.1 hx;exact(zbr (hs r hr)).1) (by simp;lia),if_pos,if_pos (by simp;lia)]
 rw[A4];intro x hx;let⟨r,hr,rfl⟩:=B8.1 hx;exact(zbr (hs r hr)).2
def lv(w:Nat):Nat->List Pt
 |0=>[([],sts w)]
 |n+1=>(lv w n).flatMap λp=>rws.map λr=>nxt w p r
def ziX{w:Nat}(hw:Wid w):∀(n:Nat),∀p∈lv w n,(∀t∈p.2,W3 w t)/\p.1.length=n/\p.2.length=(sts w).length/\∀r∈p.1,r∈rws
 |0,p,h=>by
  rw[Dm.1 h];exact⟨λt ht=>zhr ht,rfl,rfl,λr hr=>nomatch hr⟩
 |n+1,p,h=>by
  erw[lv,EO,B8]at h;let⟨q,hq,r,hr,rfl⟩:=h;let⟨h1,h2,h3,h4⟩:=ziX hw n q hq;refine⟨λt ht=>?_,by simp[nxt,h2],by simp[nxt,h3],λs hs=>?_⟩
  .simp only[nxt,B8]at ht;let⟨u,hu,rfl⟩:=ht;exact(zdw hw hr (h1 u hu) 0 []).1
  .simp only[nxt,BE,Dm]at hs;rcases hs with hs|rfl
   .exact h4 s hs
   .exact hr
def zgQ(w:Nat):∀n,(lv w n).length=13^n
 |0=>rfl
 |n+1=>by
  have:∀(l:List Pt),(l.flatMap λp=>rws.map λr=>nxt w p r).length=l.length*13:=by
   intro l
   induction l with
   |nil=>rfl
   |cons a l ih=>rw[List.flatMap_cons,Ap,ih,Ak,Ag];show 13+_=_;lia
  rw[lv,this,zgQ w n,Nat.pow_succ]
def zja(n:Nat)(t:T3):shd (n+1) (t3 t)=true:=by simp[t3,shd,yaH]
def zdL(n:Nat):∀l:List T3,yaH (n+1) (l.map t3)=AC
 |[]=>rfl
 |t::l=>by rw[AZ,yaH,zja,zdL n l];rfl
def zjt(l:List T3):shp (.lst (l.map t3))=true:=by
 show shd 60 (.lst (l.map t3))=AC;rw[shd,zdL 58 l];rfl
def zdU:∀a b:List T3,ybi (a.map t3) (b.map t3)=decide (a=b)
 |[],[]=>rfl
 |[],b::bs=>rfl
 |a::as,[]=>rfl
 |a::as,b::bs=>by
  rw[AZ,AZ,ybi,zez,zdU as bs]
  by_cases h1:a=b<;>by_cases h2:as=bs<;>simp[h1,h2]
def zko(a b:List T3):yI .eq (.lst (a.map t3)) (.lst (b.map t3))=AA (.bl (decide (a=b))):=by
 erw[yI,zjt,EB,if_true,peq,zdU]
def yaN(tg:List T3):List Pt->Int->Option PV
 |[],_=>AB
 |p::ps,n=>if p.2=tg then AA (.tp AE [.tp AE (p.1.map .str),.int n])else yaN tg ps (n+1)
def ych(w:Nat)(tg:List T3):List Nat->Int->PV
 |[],n=>.tp AE [.non,.int n]
 |i::is,n=>match yaN tg (lv w i) n with
  |some v=>v
  |none=>ych w tg is (n+((lv w i).length:Int))
def ybz:Css:=match f_short.body with
 |.cons _ (.cons _ (.cons _ (.cons _ (.cons _ (.cons _ (.cons (.for _ _ b) _))))))=>b
 |_=>.nil
def ycj:Css:=match ybz with
 |.cons _ (.cons (.for _ _ b) _)=>b
 |_=>.nil
abbrev rho(v:PV)(w:Nat)(b wn tb:PV)(n:Int)(tr:PV)(l p8 p9:Option PV):IC.Env:=[AA v,AA (.int w),AA b,AA wn,AA tb,AA (.int n),AA tr,l,p8,p9]
def zcV{call:Cl}{v b tb tr:PV}{w:Nat}{tg:List T3}{l:Option PV}(st:SO):∀(ps:List Pt) (n:Int) (p8 p9:Option PV),
  (∀u,yaN tg ps n=AA u->yaM call (.t [8,9]) ycj (ps.map tv) (rho v w b (.lst (tg.map t3)) tb n tr l p8 p9) st=.rt u st) /\
  (yaN tg ps n=AB->∃q8 q9,yaM call (.t [8,9]) ycj (ps.map tv) (rho v w b (.lst (tg.map t3)) tb n tr l p8 p9) st=.nx (rho v w b (.lst (tg.map t3)) tb (n+(ps.length:Int)) tr l q8 q9) st)
 |[],n,p8,p9=>⟨λu h=>(by cases h),λ_=>⟨p8,p9,by rw[CO,zQ];simp⟩⟩
 |p::ps,n,p8,p9=>by
  have he:=zko p.2 tg;let⟨i1,i2⟩:=zcV (call:=call) (v:=v) (b:=b) (tb:=tb) (tr:=tr) (w:=w) (tg:=tg) (l:=l) st ps (n+1) (AA (.tp AE (p.1.map .str))) (AA (.lst (p.2.map t3)));have hb:yo (.t [8,9]) (tv p) (rho v w b (.lst (tg.map t3)) tb n tr l p8 p9)=AA (rho v w b (.lst (tg.map t3)) tb n tr l (AA (.tp AE (p.1.map .str))) (AA (.lst (p.2.map t3)))):=rfl;rw[AZ,zD hb,yaN]
  by_cases h:p.2=tg
  .rw[decide_eq_true h]at he;have e:exs call (rho v w b (.lst (tg.map t3)) tb n tr l (AA (.tp AE (p.1.map .str))) (AA (.lst (p.2.map t3)))) st ycj=.rt (.tp AE [.tp AE (p.1.map .str),.int n]) st:=by
    simp! [ycj,ybz,f_short,rho,he]
   rw[if_pos h,e];exact⟨λu hu=>(by cases hu;rfl),λhu=>(by cases hu)⟩
  .rw[decide_eq_false h]at he;have e:exs call (rho v w b (.lst (tg.map t3)) tb n tr l (AA (.tp AE (p.1.map .str))) (AA (.lst (p.2.map t3)))) st ycj=.nx (rho v w b (.lst (tg.map t3)) tb (n+1) tr l (AA (.tp AE (p.1.map .str))) (AA (.lst (p.2.map t3)))) st:=by
    simp! [ycj,ybz,f_short,rho,he];rw[IC.x_aug (x:=.int n) rfl];rfl
   rw[if_neg h,e];refine⟨λu hu=>i1 u hu,λhu=>?_⟩;let⟨q8,q9,f⟩:=i2 hu;refine⟨q8,q9,?_⟩;show yaM call _ _ _ _ st=_;rw[f,show n+1+(ps.length:Int)=n+(((p::ps).length:Nat):Int)by rw[Ag];lia]
def dcs(w:Nat)(ss:List AN):SO:=ss.map λr=>.dct AC (kvt w r (sts w))
def tabs:List AN->Nat->List (AN×Nat)
 |[],_=>[]
 |s::ss,m=>(s,m)::tabs ss (m+1)
def zbg:∀(ss:List AN) (m:Nat),(tabs ss m).map (·.1)=ss
 |[],_=>rfl
 |s::ss,m=>by rw[tabs,AZ,zbg ss]
def zdN(w:Nat):∀(ss:List AN),(∀r∈ss,r∈rws)->∀(st:SO),ycA w (st++dcs w ss) (tabs ss st.length)
 |[],_,st=>λq hq=>nomatch hq
 |s::ss,hs,st=>λq hq=>by
  have e:st++dcs w (s::ss)=(st++[.dct AC (kvt w s (sts w))])++dcs w ss:=by simp[dcs]
  rw[tabs]at hq;rcases A6.1 hq with rfl|hq
  .exact⟨hs s AW,by rw[e];simp⟩
  .rw[e];refine zdN w ss (λr hr=>hs r (AL _ hr)) _ q ?_;simpa using hq
def ydg:Ce:=match f_short.body with
 |.cons _ (.cons _ (.cons _ (.cons (.asg _ (.comp _ _ _ _ e)) _)))=>e
 |_=>.nope
def zcO{w:Nat}(hw:Wid w)(k:Nat):∀(ss:List AN),(∀r∈ss,r∈rws)->∀(st:SO),
  yU (yd T (k+6)) [AB,AA (.int w),AA (.lst ((sts w).map t3))] (.n 0) (.cst (.bl AC)) ydg (ss.map .str) st=.ok ((tabs ss st.length).map tbv) (st++dcs w ss)
 |[],_,st=>by rw[CO,zO];simp[tabs,dcs]
 |s::ss,hs,st=>by
  have hb:yo (.n 0) (.str s) [AB,AA (.int w),AA (.lst ((sts w).map t3))]=AA [AA (.str s),AA (.int w),AA (.lst ((sts w).map t3))]:=rfl;have e:=zfs hw (hs s AW) k st;have i:=zcO hw k ss (λr hr=>hs r (AL _ hr)) (st++[.dct AC (kvt w s (sts w))]);have e1:ybp (yd T (k+6)) [AB,AA (.int w),AA (.lst ((sts w).map t3))] (.n 0) (.cst (.bl AC)) ydg (.str s) st=.ok (AA (tbv (s,st.length))) (st++[.dct AC (kvt w s (sts w))]):=by
   erw[ybp,hb,IC.ve1,bd_ok,t_bl,ono,cond_true];simp! [ydg,f_short,e];rfl
  rw[AZ,zq,e1,bd_ok,i,bd_ok];simp[tabs,dcs,ybd]
def wnE:Ce:=match f_short.body with
 |.cons _ (.cons _ (.cons (.asg _ (.comp _ _ _ _ e)) _))=>e
 |_=>.nope
def zeG{w:Nat}(hw:Wid w)(k:Nat){ss:List AN}(hs:∀r∈ss,r∈rws)(hl:ss.length<=8){st:SO}{v:PV}(hv:Src st v (ss.map .str)):∀(ts:List T3),(∀t∈ts,W3 w t) ->
  yU (yd T (k+6)) [AB,AB,AB,AA v,AA (.int w)] (.t [0,1,2]) (.cst (.bl AC)) wnE (ts.map t3) st=.ok ((ts.map (ad w ss)).map t3) st
 |[],_=>zO
 |t::ts,h=>by
  have hb:yo (.t [0,1,2]) (t3 t) [AB,AB,AB,AA v,AA (.int w)]=AA [AA (.int t.1),AA (.int t.2.1),AA (.int t.2.2),AA v,AA (.int w)]:=rfl;have e:=zaD hw k hs hl (h t AW) st hv;have i:=zeG hw k hs hl hv ts λt h'=>h t (AL _ h');have e1:ybp (yd T (k+6)) [AB,AB,AB,AA v,AA (.int w)] (.t [0,1,2]) (.cst (.bl AC)) wnE (t3 t) st=.ok (AA (t3 (ad w ss t))) st:=by
   erw[ybp,hb,IC.ve1,bd_ok,t_bl,ono,cond_true];simp! [wnE,f_short,e]
  rw[AZ,zq,e1,bd_ok,i,bd_ok];rfl
def zhJ(k:Nat){w:Nat}(hw:Wid w){v b:PV}{tg:List T3}{tb:List (AN×Nat)}{st:SO}(ht:ycA w st tb)(hf:tb.map (·.1)=rws)(i:Nat)(hi:i<4)(n:Int)(p8 p9:Option PV):
  (∀u,yaN tg (lv w i) n=AA u->exs (yd T (k+1)) (rho v w b (.lst (tg.map t3)) (.lst (tb.map tbv)) n (.lst ((lv w (i-1)).map tv)) (AA (.int i)) p8 p9) st ybz=.rt u st) /\
  (yaN tg (lv w i) n=AB->∃q8 q9,exs (yd T (k+1)) (rho v w b (.lst (tg.map t3)) (.lst (tb.map tbv)) n (.lst ((lv w (i-1)).map tv)) (AA (.int i)) p8 p9) st ybz =
   .nx (rho v w b (.lst (tg.map t3)) (.lst (tb.map tbv)) (n+((lv w i).length:Int)) (.lst ((lv w i).map tv)) (AA (.int i)) q8 q9) st):=by
 have hb:ybz=.cons (.ite (.cmp .gt (.var 7) (.cst (.int 0))) (.cons (.asg (.n 6) (.call 18 (.cons (.var 6) (.cons (.var 4) .nil)))) .nil) .nil) (.cons (.for (.t [8,9]) (.seq (.var 6)) ycj) .nil):=rfl;have first:ex (yd T (k+1)) (rho v w b (.lst (tg.map t3)) (.lst (tb.map tbv)) n (.lst ((lv w (i-1)).map tv)) (AA (.int i)) p8 p9) st (.ite (.cmp .gt (.var 7) (.cst (.int 0))) (.cons (.asg (.n 6) (.call 18 (.cons (.var 6) (.cons (.var 4) .nil)))) .nil) .nil) =
   .nx (rho v w b (.lst (tg.map t3)) (.lst (tb.map tbv)) n (.lst ((lv w i).map tv)) (AA (.int i)) p8 p9) st:=by
  cases i with
  |zero=>
   have hc:yI .gt (.int ((0:Nat):Int)) (.int 0)=AA (.bl AE):=rfl;simp! [rho,hc]
  |succ i=>
   have hc:yI .gt (.int ((i+1:Nat):Int)) (.int 0)=AA (.bl AC):=by rw[c_gt,decide_eq_true ∅]
   have el:((lv w i).flatMap λp=>tb.map λq=>nxt w p q.1)=lv w (i+1):=by
    rw[lv]
    congr 1
    funext p
    rw[<-hf,Fe];rfl
   have hz:(lv w (i+1)).length<=1000000:=by
    rw[zgQ];rcases (by lia:i=0 \/ i=1 \/ i=2)with rfl|rfl|rfl<;>decide
   have hn:=zck hw;have e:=zeD k ht (ps:=lv w i) (λp hp=>by
    let⟨h1,h2,h3,h4⟩:=ziX hw i p hp;exact⟨h1,by lia,by lia⟩) (by rw[el];exact hz)
   rw[el]at e;have e:yd T (k+1) 18 [.lst ((lv w (i+1-1)).map tv),.lst (tb.map tbv)] st=.ok (.lst ((lv w (i+1)).map tv)) st:=e;simp! [rho,hc,e]
 let⟨i1,i2⟩:=zcV (call:=yd T (k+1)) (v:=v) (b:=b) (tb:=.lst (tb.map tbv)) (tr:=.lst ((lv w i).map tv)) (w:=w) (tg:=tg) (l:=AA (.int i)) st (lv w i) n p8 p9;rw[hb];constructor
 .intro u hu;rw[xs_cons,first,th_nx,xs_cons,x_for];have hv:evi (yd T (k+1)) (rho v w b (.lst (tg.map t3)) (.lst (tb.map tbv)) n (.lst ((lv w i).map tv)) (AA (.int i)) p8 p9) st (.seq (.var 6))=.ok ((lv w i).map tv) st:=rfl;rw[hv,fl_ok,i1 u hu,th_rt]
 .intro hu;let⟨q8,q9,f⟩:=i2 hu;refine⟨q8,q9,?_⟩;rw[xs_cons,first,th_nx,xs_cons,x_for];have hv:evi (yd T (k+1)) (rho v w b (.lst (tg.map t3)) (.lst (tb.map tbv)) n (.lst ((lv w i).map tv)) (AA (.int i)) p8 p9) st (.seq (.var 6))=.ok ((lv w i).map tv) st:=rfl;rw[hv,fl_ok,f,th_nx,xs_nil]
theorem lens(k:Nat){w:Nat}(hw:Wid w){v b:PV}{tg:List T3}{tb:List (AN×Nat)}{st:SO}(ht:ycA w st tb)(hf:tb.map (·.1)=rws):∀(m i:Nat),i+m=4->∀(n:Int) (l p8 p9:Option PV),
  (∃u,yaM (yd T (k+1)) (.n 7) ybz (yr m i 1) (rho v w b (.lst (tg.map t3)) (.lst (tb.map tbv)) n (.lst ((lv w (i-1)).map tv)) l p8 p9) st=.rt u st/\ych w tg (Gw i m) n=u) \/
  ∃n' tr' l' q8 q9,yaM (yd T (k+1)) (.n 7) ybz (yr m i 1) (rho v w b (.lst (tg.map t3)) (.lst (tb.map tbv)) n (.lst ((lv w (i-1)).map tv)) l p8 p9) st=.nx (rho v w b (.lst (tg.map t3)) (.lst (tb.map tbv)) n' tr' l' q8 q9) st/\ych w tg (Gw i m) n=.tp AE [.non,.int n']
 |0,i,_,n,l,p8,p9=>.inr ⟨n,_,l,p8,p9,by rw[yr,zQ],rfl⟩
 |m+1,i,hm,n,l,p8,p9=>by
  let⟨i1,i2⟩:=zhJ k hw (v:=v) (b:=b) (tg:=tg) ht hf i ∅ n p8 p9;have hb:yo (.n 7) (.int (i:Int)) (rho v w b (.lst (tg.map t3)) (.lst (tb.map tbv)) n (.lst ((lv w (i-1)).map tv)) l p8 p9)=AA (rho v w b (.lst (tg.map t3)) (.lst (tb.map tbv)) n (.lst ((lv w (i-1)).map tv)) (AA (.int i)) p8 p9):=rfl;rw[yr,zD hb,List.range'_succ,ych]
  cases hh:yaN tg (lv w i) n with
  |some u=>
   rw[i1 u hh];exact .inl ⟨u,rfl,rfl⟩
  |none=>
   let⟨q8,q9,f⟩:=i2 hh;rw[f];have:=lens k hw (v:=v) (b:=b) (tg:=tg) ht hf m (i+1) ∅ (n+((lv w i).length:Int)) (AA (.int i)) q8 q9;exact this
def zfo(k:Nat){w:Nat}(hw:Wid w){ss:List AN}(hs:∀r∈ss,r∈rws)(hl:ss.length<=8){st:SO}{v:PV}(hv:Src st v (ss.map .str)):
  yd T (k+7) ybg [v,.int w] st=.ok (ych w ((sts w).map (ad w ss)) [0,1,2,3] 0) (st++dcs w rws):=by
 have hT:T ybg=AA f_short:=rfl;have e1:yd T (k+6) yb [v] st=.ok .non st:=zdE (k+5) hv hs hl;have e2:yd T (k+6) yk [.int w] st=.ok (.lst ((sts w).map t3)) st:=zfp hw (k+5) st;have e3:=zeG hw k hs hl hv (sts w) λt h=>zhr h;have e4:=zcO hw k rws (λr hr=>hr) st;have hn:=zck hw;have z3:(((sts w).map (ad w ss)).map t3).length<=1000000:=by simp;lia
 have z4:((tabs rws st.length).map tbv).length<=1000000:=by
  have:=congrArg Bv (zbg rws st.length);erw[Ak]at this ⊢;rw[this];decide
 have hr:ybP (.int 4)=AA (yr 4 0 1):=rfl
 have hb:f_short.body=(match f_short.body with
  |.cons a (.cons b (.cons (.asg t1 (.comp s1 g1 j1 c1 _)) (.cons (.asg t2 (.comp s2 g2 j2 c2 _)) (.cons d (.cons e (.cons (.for t i _) r))))))=>.cons a (.cons b (.cons (.asg t1 (.comp s1 g1 j1 c1 wnE)) (.cons (.asg t2 (.comp s2 g2 j2 c2 ydg)) (.cons d (.cons e (.cons (.for t i ybz) r))))))
  |x=>x):=rfl
 have hsr:yf=.tp AC (rws.map .str):=zac;have h3:yx .add yeG (.int 1)=AA (.int 4):=rfl;rw[zi hT rfl rfl,hb];have hfin:=lens (k+5) hw (v:=v) (b:=.lst ((sts w).map t3)) (tg:=(sts w).map (ad w ss)) (zdN w rws (λr hr=>hr) st) (zbg rws st.length) 4 0 rfl 0 AB AB AB;have h0:(PV.lst ((lv w (0-1)).map tv))=.lst [.tp AE [.tp AE [],.lst ((sts w).map t3)]]:=rfl;rw[h0]at hfin;rcases hfin with⟨u,f,g⟩|⟨n',tr',l',q8,q9,f,g⟩
 .have f:yaM (yd T (k+6)) (.n 7) ybz (yr 4 0 1) [AA v,AA (.int w),AA (.lst ((sts w).map t3)),AA (.lst (((sts w).map (ad w ss)).map t3)),AA (.lst ((tabs rws st.length).map tbv)),AA (.int 0),AA (.lst [.tp AE [.tp AE [],.lst ((sts w).map t3)]]),AB,AB,AB] (st++dcs w rws)=.rt u (st++dcs w rws):=f;have g:ych w ((sts w).map (ad w ss)) [0,1,2,3] 0=u:=g;simp! [f_short,e1,e2,e3,zH _ z3,hsr,e4,zH _ z4,h3,hr,f,zak,g]
 .have f:yaM (yd T (k+6)) (.n 7) ybz (yr 4 0 1) [AA v,AA (.int w),AA (.lst ((sts w).map t3)),AA (.lst (((sts w).map (ad w ss)).map t3)),AA (.lst ((tabs rws st.length).map tbv)),AA (.int 0),AA (.lst [.tp AE [.tp AE [],.lst ((sts w).map t3)]]),AB,AB,AB] (st++dcs w rws)=.nx _ (st++dcs w rws):=f;have g:ych w ((sts w).map (ad w ss)) [0,1,2,3] 0=.tp AE [.non,.int n']:=g;simp! [f_short,e1,e2,e3,zH _ z3,hsr,e4,zH _ z4,h3,hr,f,zak,g]
def Rok(vs:List PV):Prop:=vs.length<=14/\∀x∈vs,shp x=AC/\((∃r∈rws,x=.str r) \/ inR x=AE)
def zcJ{vs:List PV}(h:Rok vs)(ha:vs.all inR=AC):∃ss:List AN,vs=ss.map .str/\∀r∈ss,r∈rws:=by
 have:∀(vs:List PV),(∀x∈vs,shp x=AC/\((∃r∈rws,x=.str r) \/ inR x=AE))->vs.all inR=AC->∃ss:List AN,vs=ss.map .str/\∀r∈ss,r∈rws:=by
  intro vs
  induction vs with
  |nil=>exact λ_ _=>⟨[],rfl,λr hr=>nomatch hr⟩
  |cons x vs ih=>
   intro h ha;rw[Ar,AJ]at ha;let⟨ss,rfl,hs⟩:=ih (λx hx=>h x (AL _ hx)) ha.2;rcases (h x AW).2 with⟨r,hr,rfl⟩|z
   .exact⟨r::ss,rfl,λq hq=>(A6.1 hq).elim (λe=>e ▸ hr) (hs q)⟩
   .rw[z]at ha;cases ha.1
 exact this vs h.2 ha
def yaj(vs:List PV):Str:=if vs.all inR then(if vs.length<=8 then AT "told" else AT "TooMany")else AT "NoRow"
theorem kd4(k:Nat)(st:SO):yd T (k+1) ydA [.exn 4] st=.ok (.str "NoRow") st:=by
 have h:yd T 1 ydA [.exn 4] st=.ok (.str "NoRow") st:=by with_unfolding_all rfl
 rw[DB];exact zT h k
theorem kd8(k:Nat)(st:SO):yd T (k+1) ydA [.exn 8] st=.ok (.str "TooMany") st:=by
 have h:yd T 1 ydA [.exn 8] st=.ok (.str "TooMany") st:=by with_unfolding_all rfl
 rw[DB];exact zT h k
def zhd(k:Nat){w:Nat}(hw:Wid w){st:SO}{v:PV}{vs:List PV}(hv:Src st v vs)(h:Rok vs){t:T3}(ht:W3 w t):
  if vs.all inR then(if vs.length<=8 then ∃u,yd T (k+7) ym [v,.int w,.int t.1,.int t.2.1,.int t.2.2] st=.ok u st else yd T (k+7) ym [v,.int w,.int t.1,.int t.2.1,.int t.2.2] st=.exc 8 st)else yd T (k+7) ym [v,.int w,.int t.1,.int t.2.1,.int t.2.2] st=.exc 4 st:=by
 have hT:T ym=AA yi:=rfl;have e:=zaf (k+5) hv (λx hx=>(h.2 x hx).1) (by have:=h.1;lia);rw[zi hT rfl rfl]
 cases ha:vs.all inR with
 |false=>
  rw[ha]at e;have e:yd T (k+6) yb [v] st=.exc 4 st:=e;rw[if_neg ⋯];simp! [yi,e];rfl
 |true=>
  rw[ha,if_pos rfl]at e;rw[if_pos rfl]
  by_cases hl:vs.length<=8
  .rw[if_pos hl]at e ⊢;have e:yd T (k+6) yb [v] st=.ok .non st:=e;let⟨ss,rfl,hs⟩:=zcJ h ha;have e2:=zaD hw k hs (by simpa using hl) ht st hv;refine⟨t3 (ad w ss t),?_⟩;simp! [yi,e,e2,zak]
  .rw[if_neg hl]at e ⊢;have e:yd T (k+6) yb [v] st=.exc 8 st:=e;simp! [yi,e];rfl
def zdt(k:Nat){w:Nat}(hw:Wid w){st:SO}{v:PV}{vs:List PV}(hv:Src st v vs)(h:Rok vs):
  if vs.all inR then(if vs.length<=8 then ∃u,yd T (k+7) ybg [v,.int w] st=.ok u (st++dcs w rws)else yd T (k+7) ybg [v,.int w] st=.exc 8 st)else yd T (k+7) ybg [v,.int w] st=.exc 4 st:=by
 have hT:T ybg=AA f_short:=rfl;have e:=zaf (k+5) hv (λx hx=>(h.2 x hx).1) (by have:=h.1;lia)
 cases ha:vs.all inR with
 |false=>
  rw[ha]at e;have e:yd T (k+6) yb [v] st=.exc 4 st:=e;rw[if_neg ⋯,zi hT rfl rfl];simp! [f_short,e];rfl
 |true=>
  rw[ha,if_pos rfl]at e;rw[if_pos rfl]
  by_cases hl:vs.length<=8
  .rw[if_pos hl];let⟨ss,rfl,hs⟩:=zcJ h ha;exact⟨_,zfo k hw hs (by simpa using hl) hv⟩
  .rw[if_neg hl]at e ⊢;have e:yd T (k+6) yb [v] st=.exc 8 st:=e;rw[zi hT rfl rfl];simp! [f_short,e];rfl
def zkl(st:SO)(t:T3):idxV st (t3 t) (.int 0)=AA (.int t.1)/\idxV st (t3 t) (.int 1)=AA (.int t.2.1)/\idxV st (t3 t) (.int 2)=AA (.int t.2.2):=⟨rfl,rfl,rfl⟩
def zkT(k:Nat){w:Nat}(hw:Wid w){st:SO}{v:PV}{vs:List PV}(hv:Src st v vs)(h:Rok vs){t:T3}(ht:W3 w t):yd T (k+8) ydD [.int 0,v,.int w,t3 t] st=.ok (.str (yaj vs)) st:=by
 have hT:T ydD=AA ya:=rfl;have e:=zhd k hw hv h ht;let⟨x0,x1,x2⟩:=zkl st t;have b0:yI .eq (.int 0) (.int 0)=AA (.bl AC):=rfl;rw[zi hT rfl rfl];unfold yaj
 cases ha:vs.all inR with
 |false=>
  rw[ha,if_neg ⋯]at e;rw[if_neg ⋯];have hk:=kd4 (k+6) st;have hc:([4,8]:List Nat).contains 4=true:=rfl;simp! [ya,b0,x0,x1,x2,e,yce,hc,hk,yda,yaZ,IC.ve35];rfl
 |true=>
  rw[ha,if_pos rfl]at e;rw[if_pos rfl]
  by_cases hl:vs.length<=8
  .rw[if_pos hl]at e ⊢;let⟨u,e⟩:=e;simp! [ya,b0,x0,x1,x2,e,yce];rfl
  .rw[if_neg hl]at e ⊢;have hk:=kd8 (k+6) st;have hc:([4,8]:List Nat).contains 8=true:=rfl;simp! [ya,b0,x0,x1,x2,e,yce,hc,hk,yda,yaZ,IC.ve35];rfl
def zkZ(k:Nat){w:Nat}(hw:Wid w){st:SO}{v:PV}{vs:List PV}(hv:Src st v vs)(h:Rok vs)(b:PV):∃ds,yd T (k+8) ydD [.int 1,v,.int w,b] st=.ok (.str (yaj vs)) (st++ds):=by
 have hT:T ydD=AA ya:=rfl;have e:=zdt k hw hv h;have b0:yI .eq (.int 1) (.int 0)=AA (.bl AE):=rfl;rw[zi hT rfl rfl];unfold yaj
 cases ha:vs.all inR with
 |false=>
  rw[ha,if_neg ⋯]at e;rw[if_neg ⋯];have hk:=kd4 (k+6) st;have hc:([4,8]:List Nat).contains 4=true:=rfl;refine⟨[],?_⟩;rw[BJ];simp! [ya,b0,e,yce,hc,hk,yda,yaZ,IC.ve35];rfl
 |true=>
  rw[ha,if_pos rfl]at e;rw[if_pos rfl]
  by_cases hl:vs.length<=8
  .rw[if_pos hl]at e ⊢;let⟨u,e⟩:=e;refine⟨dcs w rws,?_⟩;simp! [ya,b0,e,yce];rfl
  .rw[if_neg hl]at e ⊢;have hk:=kd8 (k+6) st;have hc:([4,8]:List Nat).contains 8=true:=rfl;refine⟨[],?_⟩;rw[BJ];simp! [ya,b0,e,yce,hc,hk,yda,yaZ,IC.ve35];rfl
def zct(k:Nat)(st:SO):yd T (k+1) yex [] st=.ok (.tp AE yaS) st:=by
 have h:(match yd T 1 yex [] []with | .ok (.tp AE xs) _=>ybY xs yaS|_=>AE)=true:=by decide +kernel
 split at h
 .rename_i xs s e;rw[zbf _ _ h]at e;rw[DB];exact zT (zcj (k:=0) (fn:=yeq) rfl rfl rfl rfl e st) k
 .cases h
def zgx{α:Type}{xs:List α}{d:Nat}(h:d<xs.length):at? xs (d:Int)=AA xs[d]:=by
 unfold at? ixI;rw[if_pos ∅,if_pos ∅];simp[h]
def good(s:AN):Bool:=s.cps.all (· < 0x110000)
def zfx:good (AT "")=true:=by decide +kernel
def zbn:∀(ys:List AN),(∀y∈ys,good y=AC)->good (C6 (AT "") ys)=AC
 |[],_=>by decide +kernel
 |[x],h=>h x AW
 |x::y::r,h=>by
  have i:=zbn (y::r) λz hz=>h z (AL _ hz);have hx:=h x AW;have e:(C6 (AT "") (x::y::r)).cps=x.cps++(AT "").cps++(C6 (AT "") (y::r)).cps:=rfl;unfold good at *;have g:=zfx;unfold good at g;rw[e,Fy,Fy,hx,i,g];rfl
def zfm{s:AN}(h:good s=AC):shp (.str s)=true:=h
def zeM(s:AN):∀l:List AN,inL (.str s) (l.map .str)=l.any (· == s)
 |[]=>rfl
 |a::l=>by rw[AZ,inL,B5,zeM s l];rfl
def zeH(s:AN):inR (.str s)=decide (s∈rws):=by
 unfold inR yaS;rw[zeM]
 by_cases h:s∈rws
 .rw[decide_eq_true h,C9];exact⟨s,h,by simp⟩
 .rw[decide_eq_false h,Fh];exact λx hx e=>h (by rw[<-eq_of_beq e];exact hx)
def otA:Css:=match yq.body with
 |.cons a (.cons b _)=>.cons a (.cons b (.cons (.ret (.var 1)) .nil))
 |_=>.nil
def otR:Css:=match yq.body with
 |.cons _ (.cons _ r)=>r
 |_=>.nil
def yaW:List PV:=match exs (λ_ _ _=>.bad) [AB,AB,AB,AB] [] otA with
 |.rt (.lst xs) _=>xs
 |_=>[]
def zhW:yaW.all (λx=>shp x&&!inR x)=true:=by decide +kernel
def zcZ:yaW.length=24:=by decide +kernel
def abc:Str:=AT "abcdefghijklmnopqrstuvwxyz"
def zjJ{d:Nat}(h:d<26)(st:SO):∃s:AN,idxV st (.str abc) (.int d)=AA (.str s)/\good s=AC/\s.length<=1000:=by
 have:(DE 26).all (λd=>match idxV [] (.str abc) (.int (d:Int))with|some (.str s)=>good s&&decide (s.length<=1000)|_=>AE)=true:=by decide +kernel
 have:=A4.1 this d (Ct.2 h);have e:idxV st (.str abc) (.int d)=idxV [] (.str abc) (.int d):=rfl;rw[e];split at this
 .rename_i s f;rw[AJ,decide_eq_true_eq]at this;exact⟨s,f,this⟩
 .cases this
def leE:Ce:=match otR with
 |.cons _ (.cons _ (.cons (.asg _ (.mth _ _ (.cons (.comp _ _ _ _ e) _))) _))=>e
 |_=>.nope
def zee{ns:List Int}(hns:ns.length<=1000)(k:Nat):∀(xs:List PV) {st:SO},Drw ns 0 st->∃(ss:List AN) (st':SO),ss.length=xs.length/\(∀s∈ss,good s=AC/\s.length<=1000)/\Onl ns 0 st st'/\yU (yd T (k+3)) [AB,AA (.loc 0)] (.n 0) (.cst (.bl AC)) leE xs st=.ok (ss.map .str) st'
 |[],st,h=>⟨[],st,rfl,by simp,h.refl,zO⟩
 |x::xs,st,h=>by
  let⟨d,s1,d0,d1,o1,e1⟩:=zkO k hns (m:=26) ∅ ∅ h;let⟨d,rfl⟩:=zx d0;let⟨s,hi,hg⟩:=zjJ (d:=d) ∅ s1;let⟨ss,s2,l,hs,o2,e2⟩:=zee hns k xs (o1.drw h);have hb:yo (.n 0) x [AB,AA (.loc 0)]=AA [AA x,AA (.loc 0)]:=rfl;have e3:ybp (yd T (k+3)) [AB,AA (.loc 0)] (.n 0) (.cst (.bl AC)) leE x st=.ok (AA (.str s)) s1:=by
   erw[ybp,hb,IC.ve1,bd_ok,t_bl,ono,cond_true];have hi:idxV s1 (.str "abcdefghijklmnopqrstuvwxyz") (.int d)=AA (.str s):=hi;simp! [leE,otR,yq,e1,hi]
  refine⟨s::ss,s2,by simp[l],λq hq=>?_,o1.trans o2,?_⟩
  .rcases A6.1 hq with rfl|hq
   .exact hg
   .exact hs q hq
  .rw[zq,e3,bd_ok,e2,bd_ok];rfl
def zcK:∀ss:List AN,strsOf (ss.map .str)=AA ss
 |[]=>rfl
 |s::ss=>by rw[AZ,strsOf,zcK ss];rfl
def zbe:∀(n:Nat) (a:Int),(yr n a 1).length=n
 |0,a=>rfl
 |n+1,a=>by rw[yr,Ag,zbe n]
def zjQ{r:AN}(hr:r∈rws):∃v,yx .add (.str r) (.str "x")=AA v/\shp v=AC/\inR v=false:=by
 have:(rws.all λr=>match yx .add (.str r) (.str "x")with|some v=>shp v&&!inR v|none=>AE)=true:=by decide +kernel
 have:=A4.1 this r hr;split at this
 .rename_i v e;exact⟨v,e,by simpa using this⟩
 .cases this
def zg1(s:AN):yI .isin (.str s) (.tp AE yaS)=AA (.bl (decide (s∈rws))):=by
 have h:yaS.all flat=true:=by decide +kernel
 rw[<-zeH];erw[yI,flat,h,EB,if_true];rfl
def zkh{ns:List Int}(hns:ns.length<=1000)(k:Nat){st:SO}(h:Drw ns 0 st):∃x st',Onl ns 0 st st'/\shp x=AC/\inR x=AE/\yd T (k+4) ygE [.loc 0] st=.ok x st':=by
 have hT:T ygE=AA yq:=rfl;let⟨d,s1,d0,d1,o1,e1⟩:=zkO k hns (m:=30) ∅ ∅ h;let⟨d,rfl⟩:=zx d0;have e1:yd T (k+3) 22 [.loc 0,.int 30] st=.ok (.int d) s1:=e1;have hn:yaB .len s1 [.lst yaW]=AA (.int 24):=by
  have:yaB .len s1 [.lst yaW]=AA (.int yaW.length):=by simp[yaB,lenV,yad]
  rw[this,zcZ];rfl
 have first:exs (yd T (k+3)) [AA (.loc 0),AB,AB,AB] st yq.body=exs (yd T (k+3)) [AA (.loc 0),AA (.lst yaW),AB,AB] st otR:=by with_unfolding_all rfl
 rw[zi hT rfl rfl];show ∃x st',Onl ns 0 st st'/\shp x=AC/\inR x=AE/\outI (exs (yd T (k+3)) [AA (.loc 0),AB,AB,AB] st yq.body)=.ok x st';rw[first];generalize hnv:yaW=nv at *
 by_cases hd:d<24
 .have hl:d<nv.length:=by rw[<-hnv,zcZ];exact hd
  have hx:idxV s1 (.lst nv) (.int d)=AA nv[d]:=zgx hl;have hc:yI .lt (.int (d:Int)) (.int 24)=AA (.bl AC):=by rw[c_lt,decide_eq_true ∅]
  have q:=A4.1 (hnv ▸ zhW) nv[d] (EQ hl);rw[AJ,BH]at q;refine⟨nv[d],s1,o1,q.1,q.2,?_⟩;simp! [otR,yq,e1,hn,hc,hx,zak]
 .have hc:yI .lt (.int (d:Int)) (.int 24)=AA (.bl AE):=by rw[c_lt,decide_eq_false ∅]
  let⟨m,s2,m0,m1,o2,e2⟩:=zkO k hns (m:=6) ∅ ∅ (o1.drw h);let⟨m,rfl⟩:=zx m0;have e2:yd T (k+3) 22 [.loc 0,.int 6] s1=.ok (.int m) s2:=e2;let⟨ss,s3,l,hs,o3,e3⟩:=zee hns k (yr (1+m) 0 1) (o2.drw (o1.drw h));rw[zbe]at l;have hr:ybP (.int (1+(m:Int)))=AA (yr (1+m) 0 1):=by
   have:=zbd (1+m) ∅;rw[<-this];congr 2
  have z3:(ss.map PV.str).length<=1000000:=by simp;lia
  have hj:ybJ .join s3 (.str "") [.lst (ss.map .str)]=.ok (.str (C6 (AT "") ss)) s3:=by
   show ybb s3 (.str "") (.lst (ss.map .str))=_;have hl:yw s3 (.lst (ss.map .str))=AA (ss.map .str):=rfl;erw[ybb,hl,zcK];rw[if_pos];refine⟨by decide,by simp;lia,?_⟩;rw[A4];exact λy hy=>decide_eq_true (hs y hy).2
  have hg:good (C6 (AT "") ss)=true:=zbn ss λy hy=>(hs y hy).1;generalize C6 (AT "") ss=word at *;have e4:yd T (k+3) 24 [] s3=.ok (.tp AE yaS) s3:=zct (k+2) s3;have hi:=zg1 word;have hok:∀st,yax .join st (.str "")=AA true:=λ_=>rfl
  have hb:otR=(match otR with
   |.cons a (.cons b (.cons (.asg t (.mth m o (.cons (.comp s g i c _) n))) r))=>.cons a (.cons b (.cons (.asg t (.mth m o (.cons (.comp s g i c leE) n))) r))
   |x=>x):=rfl
  by_cases hw:word∈rws
  .rw[decide_eq_true hw]at hi;let⟨v,f1,f2,f3⟩:=zjQ hw;refine⟨v,s3,o1.trans (o2.trans o3),f2,f3,?_⟩;rw[hb];simp! [otR,yq,e1,hn,hc,e2,hr,e3,zH _ z3,hok,hj,e4,hi,f1,zak]
  .rw[decide_eq_false hw]at hi;refine⟨.str word,s3,o1.trans (o2.trans o3),zfm hg,by rw[zeH,decide_eq_false hw],?_⟩;rw[hb];simp! [otR,yq,e1,hn,hc,e2,hr,e3,zH _ z3,hok,hj,e4,hi,zak]
def srE:Ce:=match yu.body with
 |.cons _ (.cons (.ret (.thw (.comp _ _ _ _ e))) _)=>e
 |_=>.nope
def zeu{ns:List Int}(hns:ns.length<=1000)(k:Nat):∀(xs:List PV) {st:SO},Drw ns 0 st->∃(ss:List AN) (st':SO),ss.length=xs.length/\(∀r∈ss,r∈rws)/\Onl ns 0 st st'/\yU (yd T (k+3)) [AB,AA (.loc 0)] (.n 0) (.cst (.bl AC)) srE xs st=.ok (ss.map .str) st'
 |[],st,h=>⟨[],st,rfl,by simp,h.refl,zO⟩
 |x::xs,st,h=>by
  let⟨d,s1,d0,d1,o1,e1⟩:=zkO k hns (m:=13) ∅ ∅ h;let⟨d,rfl⟩:=zx d0;have hd:d<rws.length:=by simp[rws];lia
  have hi:idxV s1 (.tp AE yaS) (.int d)=AA (.str rws[d]):=by
   have hl:d<yaS.length:=by rw[yaS,Ak];exact hd
   show at? yaS (d:Int)=_;rw[zgx hl];simp[yaS]
  let⟨ss,s2,l,hs,o2,e2⟩:=zeu hns k xs (o1.drw h);have e4:yd T (k+3) yex [] st=.ok (.tp AE yaS) st:=zct (k+2) st;have hb:yo (.n 0) x [AB,AA (.loc 0)]=AA [AA x,AA (.loc 0)]:=rfl;have e3:ybp (yd T (k+3)) [AB,AA (.loc 0)] (.n 0) (.cst (.bl AC)) srE x st=.ok (AA (.str rws[d])) s1:=by
   erw[ybp,hb,IC.ve1,bd_ok,t_bl,ono,cond_true];simp! [srE,yu,e4,e1,hi]
  refine⟨rws[d]::ss,s2,by simp[l],λq hq=>?_,o1.trans o2,?_⟩
  .rcases A6.1 hq with rfl|hq
   .exact EQ hd
   .exact hs q hq
  .rw[zq,e3,bd_ok,e2,bd_ok];rfl
def zdi{ns:List Int}(hns:ns.length<=1000)(k:Nat){M:Nat}(hM:M<=100){st:SO}(h:Drw ns 0 st):∃(ss:List AN) (st':SO),ss.length<=M/\(∀r∈ss,r∈rws)/\Onl ns 0 st st'/\yd T (k+4) ygz [.loc 0,.int M] st=.ok (.loc st'.length) (st'++[.lst (ss.map .str)]):=by
 have hT:T ygz=AA yu:=rfl;let⟨d,s1,d0,d1,o1,e1⟩:=zkO k hns (m:=(M:Int)+1) ∅ ∅ h;let⟨d,rfl⟩:=zx d0;let⟨ss,s2,l,hs,o2,e2⟩:=zeu hns k (yr d 0 1) (o1.drw h);have hl:(yr d 0 1).length=d:=zbe d 0;refine⟨ss,s2,by lia,hs,o1.trans o2,?_⟩
 have hb:yu.body=(match yu.body with
  |.cons a (.cons (.ret (.thw (.comp s t i c _))) r)=>.cons a (.cons (.ret (.thw (.comp s t i c srE))) r)
  |x=>x):=rfl
 have hr:ybP (.int (d:Int))=AA (yr d 0 1):=zbd d ∅;rw[zi hT rfl rfl,hb];simp! [yu,e1,hr,e2,zH _ (show (ss.map PV.str).length<=1000000 by simp;lia),IC.ve30,ydl,zak]
def lwL:Css:=match yap.body with
 |.cons _ (.cons _ (.cons _ (.cons _ (.cons _ (.cons _ (.cons _ (.cons _ (.cons (.for _ _ b) _))))))))=>b
 |_=>.nil
def lwT:Css:=match yap.body with
 |.cons _ (.cons _ (.cons _ (.cons _ (.cons _ (.cons _ (.cons _ (.cons _ (.cons _ r))))))))=>r
 |_=>.nil
abbrev ro(p0 p2:Option PV)(w:Nat)(p4:Option PV)(t:T3)(L:Nat)(due:AN)(p8 p9 p10:Option PV):IC.Env:=[p0,AA (.loc 0),p2,AA (.int w),p4,AA (t3 t),AA (.loc L),AA (.str due),p8,p9,p10]
def Rst(ns:List Int)(L:Nat)(vs:List PV)(st:SO):Prop:=Drw ns 0 st/\L≠0/\st[L]?=AA (.lst vs)
def zhw{vs:List PV}(h:∀x∈vs,shp x=AC/\((∃r∈rws,x=.str r) \/ inR x=AE)){x:PV}(h1:shp x=AC)(h2:inR x=AE)(p:Nat):∀y∈vs.take p++x::vs.drop p,shp y=AC/\((∃r∈rws,y=.str r) \/ inR y=AE):=λy hy=>by
 rcases BE.1 hy with hy|hy
 .exact h y (List.mem_of_mem_take hy)
 .rcases A6.1 hy with rfl|hy
  .exact⟨h1,.inr h2⟩
  .exact h y (List.mem_of_mem_drop hy)
def zgb{ns:List Int}(hns:ns.length<=1000){vs:List PV}{L:Nat}{st:SO}(h:Rst ns L vs st)(hr:∀x∈vs,shp x=AC/\((∃r∈rws,x=.str r) \/ inR x=AE))(hl:vs.length<=100)(p0 p2:Option PV)(w:Nat)(p4:Option PV)(t:T3)(due:AN)(p8 p9 p10:Option PV):
  ∃vs' st',Rst ns L vs' st'/\(∀x∈vs',shp x=AC/\((∃r∈rws,x=.str r) \/ inR x=AE))/\vs'.length=vs.length+1/\vs'.all inR=AE /\
   exs (yd T 24) (ro p0 p2 w p4 t L due p8 p9 p10) st lwL=.nx (ro p0 p2 w p4 t L (AT "NoRow") p8 p9 p10) st':=by
 let⟨hd,hL,hv⟩:=h;let⟨p,s1,h0,h1,o1,e1⟩:=zkO 21 hns (m:=(vs.length:Int)+1) ∅ ∅ hd;let⟨p,rfl⟩:=zx h0;let⟨x,s2,o2,hx1,hx2,e2⟩:=zkh hns 20 (o1.drw hd);have hv2:s2[L]?=AA (.lst vs):=by rw[o2.get hL,o1.get hL];exact hv
 have hlen:yaB .len st [.loc L]=AA (.int vs.length):=by simp[yaB,lenV,yad,hv]
 have hok:yax .insert st (.loc L)=AA true:=by erw[yax,yw,hv,CT]
 have hins:ybJ .insert s2 (.loc L) [.int p,x]=.ok .non (s2.set L (.lst (vs.take p++x::vs.drop p))):=by
  show ydi s2 (.loc L) (.int p) x=_;erw[ydi,hv2];rw[if_pos ∅];rfl
 refine⟨vs.take p++x::vs.drop p,s2.set L (.lst (vs.take p++x::vs.drop p)),⟨(o2.drw (o1.drw hd)).put hL _,hL,?_⟩,zhw hr hx1 hx2 p,?_,?_,?_⟩
 .exact rdS hv2
 .simp;lia
 .rw[List.all_eq_false];exact⟨x,by simp,by rw[hx2];simp⟩
 .simp! [lwL,yap,ro,hok,hlen,e1,e2,hins]
def zcU{ns:List Int}(hns:ns.length<=1000){L:Nat}(p0 p2:Option PV)(w:Nat)(p4:Option PV)(t:T3)(p9 p10:Option PV):∀(xs:List PV) (vs:List PV) (st:SO) (p8:Option PV),Rst ns L vs st->(∀x∈vs,shp x=AC/\((∃r∈rws,x=.str r) \/ inR x=AE))->vs.length+xs.length<=14 ->
  ∃vs' st' q8,Rst ns L vs' st'/\Rok vs'/\yaM (yd T 24) (.n 8) lwL xs (ro p0 p2 w p4 t L (yaj vs) p8 p9 p10) st=.nx (ro p0 p2 w p4 t L (yaj vs') q8 p9 p10) st'
 |[],vs,st,p8,h,hr,hl=>⟨vs,st,p8,h,⟨by simpa using hl,hr⟩,zQ⟩
 |x::xs,vs,st,p8,h,hr,hl=>by
  erw[Ag]at hl;let⟨vs1,s1,h1,r1,l1,a1,e1⟩:=zgb hns h hr ∅ p0 p2 w p4 t (yaj vs) (AA x) p9 p10;let⟨vs2,s2,q8,h2,r2,e2⟩:=zcU hns p0 p2 w p4 t p9 p10 xs vs1 s1 (AA x) h1 r1 ∅;refine⟨vs2,s2,q8,h2,r2,?_⟩;have hd:yaj vs1=AT "NoRow":=by unfold yaj;rw[a1];rfl
  rw[hd]at e2;rw[zD (ρ1:=ro p0 p2 w p4 t L (yaj vs) (AA x) p9 p10) rfl,e1];exact e2
def zjU(vs:List PV):yI .ne (.str (yaj vs)) (.str (yaj vs))=AA (.bl AE):=by
 unfold yaj;split
 .split<;>with_unfolding_all rfl
 .with_unfolding_all rfl
def v8:List PV:=AK 8 (.str "add")
def v9:List PV:=AK 9 (.str "add")
def zgP:AT "add" ∈ rws:=AW
def zfa{n:Nat}(hn:n<=14):Rok (AK n (.str "add")):=⟨by simpa using hn,λx hx=>by
 rw[List.eq_of_mem_replicate hx];exact⟨(zbr zgP).1,.inl ⟨_,zgP,rfl⟩⟩⟩
def zlu:yaj v8=AT "told":=by decide +kernel
def zlv:yaj v9=AT "TooMany":=by decide +kernel
def zht{ns:List Int}(hns:ns.length<=1000){w:Nat}(hw:Wid w){t:T3}(ht:W3 w t){L:Nat}{vs:List PV}{st:SO}(h:Rst ns L vs st)(hr:Rok vs)(p0 p2 p4 p8 p9 p10:Option PV):
  ∃st',exs (yd T 24) (ro p0 p2 w p4 t L (yaj vs) p8 p9 p10) st lwT=.rt (.bl AC) st':=by
 let⟨hd,hL,hv⟩:=h;let⟨c,s1,c0,c1,o1,e1⟩:=zkO 21 hns (m:=2) ∅ ∅ hd;have hv1:s1[L]?=AA (.lst vs):=by rw[o1.get hL];exact hv
 have htu:yaB .tuple s1 [.loc L]=AA (.tp AE vs):=by
  show ydp s1 (.loc L)=_;simp[ydp,yad,yw,hv1]
 have hlt:∀(s2:SO) (ds:SO),s2[L]?=AA (.lst vs)->(s2++ds)[L]?=AA (.lst vs):=λs2 ds h=>by
  rw[AQ]
  .exact h
  .rcases E3 L s2.length with z|z
   .exact z
   .rw[Aj z]at h;cases h
 have hne:=zjU vs;have n8:ycB (.lst [.str "add"]) (.int 8)=AA (.lst v8):=rfl;have n9:ycB (.lst [.str "add"]) (.int 9)=AA (.lst v9):=rfl;have q1:yI .eq (.str "told") (.str "told")=AA (.bl AC):=by with_unfolding_all rfl
 have q2:yI .eq (.str "TooMany") (.str "TooMany")=AA (.bl AC):=by with_unfolding_all rfl
 have src1:∀s2:SO,s2[L]?=AA (.lst vs)->Src s2 (.loc L) vs:=λs2 h=>.inr (.inr ⟨L,rfl,h⟩);have src2:∀s2:SO,Src s2 (.tp AE vs) vs:=λs2=>.inl ⟨AE,rfl⟩;have a8:=λs2=>zkT 16 hw (st:=s2) (v:=.lst v8) (vs:=v8) (.inr (.inl rfl)) (zfa ∅) ht;have a9:=λs2=>zkZ 16 hw (st:=s2) (v:=.lst v9) (vs:=v9) (.inr (.inl rfl)) (zfa ∅) (t3 t);erw[zlu,zlv]at a8 a9;have a8:∀s2,yd T 24 27 [.int 0,.lst v8,.int w,t3 t] s2=.ok (.str "told") s2:=a8;have a9:∀s2,∃ds,yd T 24 27 [.int 1,.lst v9,.int w,t3 t] s2=.ok (.str "TooMany") (s2++ds):=a9;have e1:yd T 24 22 [.loc 0,.int 2] st=.ok (.int c) s1:=e1;have two:c=0 \/ c=1:=by lia
 rcases two with rfl|rfl
 .have i0:idxV s1 (.tp AE [.loc L,.tp AE vs]) (.int 0)=AA (.loc L):=rfl;have i1:∀s2,idxV s2 (.tp AE [.loc L,.tp AE vs]) (.int (1-0))=AA (.tp AE vs):=λ_=>rfl;have b1:yd T 24 27 [.int 0,.loc L,.int w,t3 t] s1=.ok (.str (yaj vs)) s1:=zkT 16 hw (src1 s1 hv1) hr ht;let⟨ds,b2⟩:=zkZ 16 hw (src2 s1) hr (t3 t);have b2:yd T 24 27 [.int 1,.tp AE vs,.int w,t3 t] s1=.ok (.str (yaj vs)) (s1++ds):=b2;have b3:yd T 24 27 [.int 0,.tp AE vs,.int w,t3 t] (s1++ds)=.ok (.str (yaj vs)) (s1++ds):=zkT 16 hw (src2 _) hr ht;let⟨d9,a9⟩:=a9 (s1++ds);refine⟨s1++ds++d9,?_⟩;simp! [lwT,yap,ro,e1,htu,i0,i1,b1,b2,b3,hne,n8,n9,a8,a9,q1,q2,IC.ve27]
 .have i0:idxV s1 (.tp AE [.loc L,.tp AE vs]) (.int 1)=AA (.tp AE vs):=rfl;have i1:∀s2,idxV s2 (.tp AE [.loc L,.tp AE vs]) (.int (1-1))=AA (.loc L):=λ_=>rfl;have b1:yd T 24 27 [.int 0,.tp AE vs,.int w,t3 t] s1=.ok (.str (yaj vs)) s1:=zkT 16 hw (src2 s1) hr ht;let⟨ds,b2⟩:=zkZ 16 hw (src1 s1 hv1) hr (t3 t);have b2:yd T 24 27 [.int 1,.loc L,.int w,t3 t] s1=.ok (.str (yaj vs)) (s1++ds):=b2;have b3:yd T 24 27 [.int 0,.loc L,.int w,t3 t] (s1++ds)=.ok (.str (yaj vs)) (s1++ds):=zkT 16 hw (src1 _ (hlt s1 ds hv1)) hr ht;let⟨d9,a9⟩:=a9 (s1++ds);refine⟨s1++ds++d9,?_⟩;simp! [lwT,yap,ro,e1,htu,i0,i1,b1,b2,b3,hne,n8,n9,a8,a9,q1,q2,IC.ve27]
def zfT(ns:List Int)(hn:ns.length<=63):yd T 25 yep [.scr (ns.map .int)] []=.ok (.bl AC) []:=by
 let⟨o,e1,ho⟩:=fresh 23 ns hn [];have h0:Drw ns 0 [o]:=⟨0,0,AE,by lia,by rw[ho];rfl⟩;have hns:ns.length<=1000:=by lia
 have hT:T yep=AA ⟨1,11,AC,yap.body⟩:=rfl;have e1:yd T 24 19 [.scr (ns.map .int)] []=.ok (.loc 0) [o]:=e1;let⟨wy,s1,y0,y1,o1,e2⟩:=zkO 21 hns (m:=3) ∅ ∅ h0;let⟨wy,rfl⟩:=zx y0;have h1:=o1.drw h0;let⟨d,s2,d0,d1,o2,e3⟩:=zkO 21 hns (m:=3) ∅ ∅ h1;let⟨d,rfl⟩:=zx d0;have h2:=o2.drw h1;have hw:Wid (1+d):=by unfold Wid;lia
 have hW:(0:Int)<((2^(1+d):Nat):Int):=Int.natCast_pos.2 (Nat.two_pow_pos _);have hW2:((2^(1+d):Nat):Int)<10000000000000000000000000000000000000000000000000000000000000000000000:=by rcases hw with e|e|e<;>rw[e]<;>decide
 let⟨a,s3,a0,a1,o3,e4⟩:=zkO 21 hns (m:=((2^(1+d):Nat):Int)) hW hW2 h2;have h3:=o3.drw h2;let⟨b,s4,b0,b1,o4,e5⟩:=zkO 21 hns (m:=((2^(1+d):Nat):Int)) hW hW2 h3;have h4:=o4.drw h3;let⟨c,s5,c0,c1,o5,e6⟩:=zkO 21 hns (m:=2) ∅ ∅ h4;have h5:=o5.drw h4;have ht:W3 (1+d) (a,b,c):=⟨a0,a1,b0,b1,c0,c1⟩;let⟨ss,s6,l,hs,o6,e7⟩:=zdi hns 20 (M:=12) ∅ h5;have h6:=o6.drw h5;have hp:=h6.pos;have hR:Rst ns s6.length (ss.map .str) (s6++[.lst (ss.map .str)]):=⟨h6.app _,by lia,by simp⟩;have hrk:∀x∈ss.map PV.str,shp x=AC/\((∃r∈rws,x=.str r) \/ inR x=AE):=λx hx=>by
  let⟨r,hr,rfl⟩:=B8.1 hx;exact⟨(zbr (hs r hr)).1,.inl ⟨r,hs r hr,rfl⟩⟩
 have hwy:(yr wy 0 1).length=wy:=zbe wy 0;let⟨vs,s7,q8,h7,r7,e8⟩:=zcU hns (L:=s6.length) (AA (.scr (ns.map .int))) (AA (.int wy)) (1+d) (AA (.int ((2^(1+d):Nat):Int))) (a,b,c) AB AB (yr wy 0 1) (ss.map .str) _ AB hR hrk (by rw[hwy];simp;lia);let⟨s8,e9⟩:=zht hns hw ht h7 r7 (AA (.scr (ns.map .int))) (AA (.int wy)) (AA (.int ((2^(1+d):Nat):Int))) q8 AB AB
 have hb:yap.body=(match yap.body with
  |.cons a (.cons b (.cons c (.cons d (.cons e (.cons f (.cons g (.cons h (.cons (.for t i _) _))))))))=>.cons a (.cons b (.cons c (.cons d (.cons e (.cons f (.cons g (.cons h (.cons (.for t i lwL) lwT))))))))
  |_=>.nil):=rfl
 have hr:ybP (.int (wy:Int))=AA (yr wy 0 1):=zbd wy ∅;have hwd:idxV s2 (.lst [.int 1,.int 2,.int 4]) (.int (((1+d:Nat):Int)-1))=AA (.int ((2^d:Nat):Int)):=by
  rcases (by lia:d=0 \/ d=1 \/ d=2)with rfl|rfl|rfl<;>rfl
 have hml:yx .mul (.int 2) (.int ((2^d:Nat):Int))=AA (.int ((2^(1+d):Nat):Int)):=by
  rcases (by lia:d=0 \/ d=1 \/ d=2)with rfl|rfl|rfl<;>rfl
 have hlen:yaB .len (s6++[.lst (ss.map .str)]) [.loc s6.length]=AA (.int ss.length):=by simp[yaB,lenV,yad]
 have hall:(ss.map PV.str).all inR=true:=by
  rw[A4];intro x hx;let⟨r,hr,rfl⟩:=B8.1 hx;exact(zbr (hs r hr)).2
 have e2:yd T 24 22 [.loc 0,.int 3] [o]=.ok (.int wy) s1:=e2;have e3:yd T 24 22 [.loc 0,.int 3] s1=.ok (.int d) s2:=e3;have e4:yd T 24 22 [.loc 0,.int ((2^(1+d):Nat):Int)] s2=.ok (.int a) s3:=e4;have e5:yd T 24 22 [.loc 0,.int ((2^(1+d):Nat):Int)] s3=.ok (.int b) s4:=e5;have e6:yd T 24 22 [.loc 0,.int 2] s4=.ok (.int c) s5:=e6;have e7:yd T 24 25 [.loc 0,.int 12] s5=.ok (.loc s6.length) (s6++[.lst (ss.map .str)]):=e7;have hw1:((1:Int)+(d:Int))=((1+d:Nat):Int):=by lia
 rw[zbU hT rfl rfl (zdm ns)];dsimp only;rw[hb]
 by_cases hl:ss.length<=8
 .have hc:yI .gt (.int (ss.length:Int)) (.int 8)=AA (.bl AE):=by rw[c_gt,decide_eq_false ∅]
  have hd:yaj (ss.map .str)=AT "told":=by unfold yaj;rw[if_pos hall,if_pos (by simpa using hl)]
  rw[hd]at e8;erw[ro,t3]at e8 e9;simp! [yap,BX,e1,e2,e3,hwd,hml,e4,e5,e6,e7,hlen,hc,hr,hw1,e8,e9,zgs]
 .have hc:yI .gt (.int (ss.length:Int)) (.int 8)=AA (.bl AC):=by rw[c_gt,decide_eq_true ∅]
  have hd:yaj (ss.map .str)=AT "TooMany":=by unfold yaj;rw[if_pos hall,if_neg (by simpa using hl)]
  rw[hd]at e8;erw[ro,t3]at e8 e9;simp! [yap,BX,e1,e2,e3,hwd,hml,e4,e5,e6,e7,hlen,hc,hr,hw1,e8,e9,zgs]
theorem walk{l:ER}{q:A3}{loose:List AN}{XP:(AN->Option AF)->An->Prop}{YP:Aa->An->Prop}{d:DefRec}{K:Params->AD}(hn:l.most=AA 63)(hdf:d.params.defaults=[])
  (hY:∀(w:Aa) (h:An),YP w h->(K w.params).In h)
  (F:∀(w:Aa) (mg:AN->Option AF) (fa:AG) (h:An),(K w.params).In h->h.Ns mainGlobals mg->mg d.name=AA (.ref fa) ->
   ∃fd:Am,(∀(s:AH) (u:AF),Du s fd ⟨[u],[]⟩ [("_law_script",u)])/\∀base:An,(K w.params).In base->base.Ns mainGlobals mg->yaK l.prog w (K w.params) mg base (CX1 l.prog w) (2*25) fa fd ["_law_script"] (spX (K w.params) (yd T 25) yep)):
  GH q loose XP YP l.row.toRowW d [] (λf vs=>GR f vs):=
 L2.walk_of (n:=63) (k:=2*25) (x:="_law_script") (CX:=λw=>CX1 l.prog w) (sp:=λw=>spX (K w.params) (yd T 25) yep) hn ⋯ hdf ⟨rfl,by decide,by decide⟩ hY F (λw H a ns hl _ hS=>zeq zfT hl hS) λ_ _ _ _ _ z=>zjF z
end WK
end
open PySem PySem.W PyProof.Rows
theorem PySem.Challenge.cw_widewords_k64_small_rows_refused_holds : PySem.Challenge.rw_widewords_k64_small_rows_refused.Holds := by
 refine hh.hd (by rfl) (by rfl) (by rfl) ?_
 k_fill
 refine WK.walk (l:=PySem.Challenge.rw_widewords_k64_small_rows_refused) rfl rfl (λw h Y=>Y) ?F
 case F =>
  intro w mg fa h KX G hmg
  refine' L2.all_mk2 (t:=WK.tbQ) KX G hmg ?R ?B ?D WK.kb_all ?Ml WK.ok_all WK.T_ok (L:=28) rfl 25
  case R =>
   repeat' (first|exact trivial|apply And.intro|(refine' L2.rowFn ?a9 ?l9 ?c9 ?p9 ?b9;(case a9|l9|c9|p9=>k_is);(case b9=>((repeat intro _);first|rfl|kernel_rfl)))|(refine' L2.rowMe ?z9 ?a9 ?i9 ?l9 ?c9 ?p9 ?b9;(case z9=>(skip;k_is));(case a9|i9|l9|c9|p9=>k_is);(case b9=>((repeat intro _);first|rfl|kernel_rfl)))|(refine' L2.rowIni ?z9 ?a9 ?i9 ?l9 ?c9 ?p9 ?b9 ?m9 ?k9;(case z9=>(skip;k_is));(case a9|i9|l9|c9|p9=>k_is);(case b9=>((repeat intro _);first|rfl|kernel_rfl));(case m9|k9=>k_is))|(refine' L2.rowFd ?a9 ?l9 ?c9 ?p9 ?d9 ?e9 ?v9;(case a9|l9|c9|p9|d9=>k_is);(case e9=>rfl);(case v9=>(repeat first|exact .nil|refine .cons ⟨_,rfl⟩ ?_))))
  case B=>kernel_rfl
  case D =>
   repeat' (first|exact trivial|apply And.intro|intro _|(refine' L2.gd_mk KX G ?a9 ?l9 ?s9 ?r9 ?n9;(case a9|l9=>k_is);(case s9=>rfl);(case r9=>(repeat first|exact .nil|refine L2.con_row (by kernel_rfl) ?_));(case n9=>decide +kernel)))
  case Ml =>
   repeat' (first|exact trivial|apply And.intro|(refine' L2.gdf_mk KX G ?a9 ?l9 ?r9 ?n9;(case a9|l9=>k_is);(case r9=>(repeat first|exact .nil|refine L2.frow_cons (by kernel_rfl) ?_));(case n9=>decide +kernel)))
