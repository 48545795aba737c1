import PyProof.Rows.All
import OpenK.KLine
import Open.Tops
import Wide.FinOn
import KE.KRevSl
import KE.KItem
import KE.KxWritten
import KE.KFromBytes
import KE.LcSums
import KE.KBits
import KE.KTryMore
import KE.KDictOf
import PyProof.AttrMissHeap
import KE.KEqDict
import KE.KSortTup
import PyProof.DictItems
import PyProof.DictItemsLoops
import KE.KPairComp
import KE.KDictList
import PyProof.DictTruth
import PyProof.DictCompW
import PySem.Challenge.RW_widewords_k65_whole_short
set_option Elab.async false
set_option linter.all false
set_option maxRecDepth 100000
set_option maxHeartbeats 0
local macro_rules
 | `(#print $s:str)=>do
  let n:=fun (x:Lean.Name)=>Lean.mkIdent (.mkSimple s!"tw{x.hash}")
  let mut a:=#[n `PySem.Challenge.pw_widewords_k65_whole_short]
  for e in s.getString.splitOn "|" do
   let f:=e.splitOn " "
   let mut p:=0
   for r in f.tail! do
    let g:=(r.splitOn ".").map String.toNat!
    p:=p+g[0]!
    for j in [0:g.getD 1 0+1] do a:=a.push (n (.mkStr2 "sh" (f[0]!++toString (p+j))))
    p:=p+g.getD 1 0
  `(structure $(Lean.mkIdent `PySem.W.Fast):declId:Prop where ($a*:True))
set_option genSizeOf false
set_option genInjectivity false
#print "o_ 3 2 4 3.1 2.2 4 2 3 3.1 2.1 4 2 3 3.1 2.1 5 2.2 5.2 3 2.2 3 2.2 3 2.2 2 4 2.2 3 2.2 3 2.2 3 2.2 3 2.2 3 2.4 4 4.2 5.2 3 2.2 3 2.2 3.2 3.2 3.2 5.2 3 2.2 3 2.2 3 2.2 5.2 5.2 2 4 2.2 3 2.2 3.2 3 2.2 3.2 3.2 3 2.2|sts_ 4 17 16 51 49 86|tree_ 19 16 51 47 88 46"
set_option genSizeOf true
set_option genInjectivity true
open_shared sh for PySem.Challenge.pw_widewords_k65_whole_short leaving 0
namespace hh
open PySem PySem.W PySem.Calls PyProof.Rows
noncomputable abbrev p:=PySem.Challenge.pw_widewords_k65_whole_short
abbrev z:Pos:=⟨0,0,0,0⟩
abbrev an:Option Value:=some (.ref 6)
noncomputable abbrev bE:=behindTheImports p
noncomputable abbrev cE:Code:=.body bE sh.env_1
noncomputable abbrev H1(P:Params):Heap:=absHeap (sh.tree_267 P) 257 {}
noncomputable abbrev S0(w:World)(os:OsState):Shared:=⟨boot_heap w.params,⟨[]⟩,boot_drawn,boot_toks,os⟩
noncomputable abbrev Sb(w:World)(os:OsState):Shared:=SharedT.abs ⟨sh.tree_4 w.params,15,{},⟨[]⟩,{},187,os⟩
noncomputable abbrev Sk(w:World)(os:OsState):Shared:=SharedT.abs ⟨sh.tree_267 w.params,257,{},⟨[]⟩,{},575,os⟩
theorem pre(w os):topGo treeTable p w 11 an 12 (S0 w os) (topStub p)=some (Sb w os,⟨denote treeTable cE,cE,z,[topFrame z]⟩):=by kernel_rfl
theorem blk(w os):segRun treeTable p w 11 an 1 1 (Sb w os) (blockOf bE sh.env_1 cE z [topFrame z])=some (.next,Sb w os,cE,z):=by kernel_rfl
theorem fin(w os):topRun treeTable p w 11 an 2 (Sk w os) (restOf [] sh.env_1 cE ⟨182,0,200,54⟩ [topFrame z])=some (Sk w os):=by kernel_rfl
theorem bod:bE=sh.sts_4++(sh.sts_21++(sh.sts_37++(sh.sts_88++(sh.sts_137++(sh.sts_223++[]))))):=by kernel_rfl
theorem run(w os):topRun treeTable p w 11 an (12+(1+(196+(214+(383+(398+(400+(219+2)))))))) (S0 w os) (topStub p)=some (Sk w os):=by
 refine go_top (pre w os) (piece_block (blk w os) ?_)
 have h:=sh.chain p bE w os [] 2 (Sk w os) (fin w os)
 rw[<-bod] at h
 exact h
noncomputable def q:Program:=view p [41]
noncomputable abbrev lo:List Str:=p.boundNames
theorem look(w:World):(fun os=>((staticsOk (importedModules p.main.body) (boot_heap w.params) (H1 w.params) && namesBound p (H1 w.params) && gensDone (Sk w os) && laidKept (boot_heap w.params) (H1 w.params)),openSeen q lo (importedModules p.main.body) (fun _=>true) true (Sk w os),(Sk w os).heap))=fun _=>(true,openGood q lo,H1 w.params):=by kernel_rfl
theorem left:LeftO p q lo (fun _=>true) Shared.heap (fun w=>H1 w.params) 3734:=.of_pieces (boot_open (by kernel_rfl) (by kernel_rfl) fun s=>by kernel_rfl) (fun w=>by kernel_rfl) run (by kernel_rfl) look
theorem inA{t:BT}{n:Nat}{f:Life}{K:Frag}(h1:K.all (fun x=>Nat.blt x.1 n)=true)(h2:K.map (fun x=>t.get x.1)=K.map fun x=>some x.2)(h3:K.map (fun x=>alive x.2)=K.map fun x=>some x.2):K.In (absHeap t n f):=by
 intro a o e
 induction K with
 | nil=>cases e
 | cons x r ih=>
  obtain ⟨b,y⟩:=x
  simp only[List.map_cons,List.cons.injEq,List.all_cons,Bool.and_eq_true] at h1 h2 h3
  by_cases hb:(a==b)=true
  · rw[List.lookup_cons,hb] at e
    cases e
    have:=beq_iff_eq.mp hb
    subst this
    rw[abs_get (Nat.le_of_ble_eq_true h1.1) h2.1]
    exact h3.1
  · rw[List.lookup_cons,eq_false_of_ne_true hb] at e
    exact ih h1.2 h2.2 h3.2 e
local macro_rules
 | `(panic! $s:str)=>do
  let mut v:=#[]
  let mut p:=0
  let mut q:=0
  for r in s.getString.splitOn " " do
   if let g::l::m:=(r.splitOn ",").map String.toNat! then
    let i:=m.headD (q+g)
    p:=p+g
    for j in [0:l] do v:=v.push (p+j,if i==0 then .str `PySem.W s!"boot_o_{p+j}" else .str `sh s!"o_{i+j}")
    p:=p+l
    q:=i+l
  let mut a ← `(List.nil)
  for (x,o) in v.reverse do a ← `(List.cons (nat_lit $(Lean.Syntax.mkNumLit (toString x)),$(Lean.mkIdent o) P) $a)
  `(fun P=>$a)
noncomputable def KK:Params->Frag:=panic! "2,1,0 0,1,223 11,1,7 6,2 0,1,39 0,1,17 2,1,24 6,3 2,1,40 6,3 2,1 1,2 1,3 1,2 1,3 1,2 1,3 1,2 1,3 1,2 1,2 0,1,90 1,2 1,3 1,2 1,3 1,2 1,3 1,2 1,3 1,2 1,3 1,2 1,4 0,1,139 2,3 1,2 1,3 1,2 1,3 1,2 1,3 2,3 2,3 2,3 1,2 1,3 1,2 1,3 1,2 1,3 1,2 1,3 1,2 1,3 1,2 1,2 0,1,225 1,2 1,3 1,2 1,3 2,3 1,2 1,3 2,3 2,3 1,2 1,2"
theorem inK(w:World):InK KK w (H1 w.params):=inA (K:=KK w.params) (by kernel_rfl) (by kernel_rfl) (by kernel_rfl)
theorem hd{d:DefRec}{k:List (Str×Expr)}(a:defOf q "law"=some (d,k))(b:p.theDef "law"=some (d.params,d.body,d.scope))(c:kwWritten? d.params.kwonlyargs d.params.kw_defaults=some k)(h:WalkO q lo (fun _ _=>True) (InK KK) PySem.Challenge.rw_widewords_k65_whole_short.row.toRowW d k fun f vs=>PySem.call f vs):PySem.Challenge.rw_widewords_k65_whole_short.Holds:=by
 w_on;o_law
 refine holds_open left (YP:=InK KK) (XP:=fun _ _=>True) (fun w s e=>e ▸ inK w) InK.keeps (fun _ _=>trivial) (fun _ _ _ _ _=>trivial) a b c (fun s _=>recFacts_nil rfl) (by rfl) (by assumption) (by decide +kernel) ⟨rfl,rfl,rfl,rfl,rfl,by decide +kernel⟩ ?hw h
 w_witness2
end hh
local macro_rules|`(⋯)=>`((by decide))
local macro_rules|`(∅)=>`((by lia))
set_option compiler.extract_closed false
set_option bootstrap.genMatcherCode false
set_option genSizeOf false
open Option renaming some->AA,none->AB,isSome_iff_exists->A9,getD_some->BK,bind_some->Be,map_some->Bq,any_eq_true_iff_get->CV,get_some->EC,isSome_some->Ef,getD_none->FO
open Bool renaming true->AC,false->AE,and_eq_true->AI,false_ne_true->AX,not_eq_true'->BG,and_eq_true_iff->B4,or_eq_true->CK,and_self->CN,false_eq_true->C4,not_true->D8,eq_iff_iff->FY,or_false->Fd,false_or->Fh,true_and->Fi,true_or->Fx
open PySem.W renaming Frag->AD,keepIn->Ad,findIn->Aj,nsIn->Av,kitOne->Ax,fnOf->BM,codeIn->Bi,kia_one->CL,hideAll->C1,isFn->Cc,cellsFrom_some->Cd,excIn->Cv,methodObj->D4,mg_of->Da,OpenLaw->Dl,makesIn->EB,hideAll_get->EX,of_hideAll->Eb,codeRec_of->Ec,callWith_K->Eg,hasDictIn->En,plainOver->Eo,plainGet->FL,WalkO->F1,exmOne->F9,subIn->Fe,mroIn->Ff,clsIn->Fg,Rel2->Fy
open PySem renaming Value->AF,Addr->AG,Shared->AH,wpAny_bind->AJ,Expr->AL,Str->AM,wpAny_pure->AQ,Program->A1,wpAny->A2,Around->A5,World->Ab,FuncData->Al,Scope->An,Heap->Ao,Env->BC,wpAny_mono->BD,wpAny_newObj_type->BE,wpAny_Call_Name_kw->BQ,Obj->BW,Pos->BX,wpAny_standAt->BY,Stmt->B8,sizeLine_eq->Bc,NameKind->Bg,wpAny_passesOwn->Bn,DictEntry->Bo,wpAny_truthy_bool->Bs,Keyword->Bt,wpAny_holding->Bu,wpAny_comprehension_free->By,Comprehension->Bz,mem_of_lookup->CB,wpAny_callSpecial?_slot->CD,wpAny_field->CJ,wpAny_pyIter_tuple->C5,wpAny_call_entry->Co,wpAny_execs_nil->Cy,PassesOwn->DG,wpAny_newFunctionEnv_cells->DP,typeIs_str->DR,call_meets->DS,Operator->Db,noFill_tuple_add->Dg,wpAny_rule->Dm,Result->Do,BindsTo->Dp,IsPart->Dq,codeAny_mono->Du,strKind_is->Dw,codeAny_call_function->EF,wpAny_seqItems->EK,wpAny_loadName_local->EM,wpAny_setField->ES,wpAny_newFunctionEnv->EU,wpAny_loadName_cell->EY,seq_tuple_add->E6,wpAny_assign_Name->El,concat_meets->Ep,wpAny_sequenceKey->Es,wpAny_typeOf->Et,slot_list_getitem->Eu,wpAny_pyIter_enum->Ez,wpAny_pyIter_list->FA,Sem->FH,Paired->FJ,wpAny_execs_cons->FK,wpAny_getItem_of->FP,seqIndex_of->FU,wpAny_specialOf->FW,PyData->F2,wpAny_Name->F4,call->F7,Reads->Fm,Model->Fp,BoolOp->GA,CmpOp->GH,Tok->GP
open List renaming mem_cons_of_mem->AK,getElem?_append_left->AO,map_cons->AR,size_toArray->AV,mem_cons_self->AW,mem_of_getElem?->AY,getElem?_append_right->A0,getElem?_set_ne->A3,mem_append_right->A7,mem_cons->A8,getElem?_set_self->Aa,getElem?_eq_some_iff->Ae,length_cons->Af,getElem?_cons_succ->Ag,all_eq_true->Ah,getElem?_cons_zero->Ai,length_map->Ak,replicate->Am,getElem?_eq_none->Ap,length_append->Aq,lookup_cons->As,getElem?_map->Au,mem_append->Aw,drop_eq_getElem_cons->Ay,all_cons->BB,length_set->BF,append_nil->BN,set_cons_zero->BR,set_cons_succ->BS,not_mem_nil->BU,filter_cons->BV,any_cons->BZ,map_nil->B0,getElem?_eq_getElem->B1,find?_cons->B7,mem_map->Ba,length->Bd,length_nil->Bp,filterMap_cons->CA,drop_length->CF,foldl_cons->C2,nil_append->C3,zip_cons_cons->C6,mem_singleton->C7,filterMap->Ch,getElem?_set->Ci,mem_iff_getElem?->Cj,range->Cm,any_eq_true->Cp,cons_append->Cq,mem_flatMap->Cr,getElem_mem->Ct,nodup_cons->Cz,of_mem_zip->DA,mem_range->DI,mem_filterMap->DN,getElem?_zip_eq_some->D1,pairwise_iff_getElem->D3,append_assoc->D5,range'->D7,length_take->Dc,getElem?_replicate->De,map_map->Dv,set_set->Dy,forIn_cons->Dz,mem_filter->EA,contains_iff_mem->EJ,mem_append_left->EL,length_pos_iff->E3,findIdx?_cons->Eh,isEmpty_cons->FE,reverse_cons->FF,ext_getElem?->FG,length_drop->FN,isEmpty_nil->FQ,take_length->FR,range'_succ->FT,lookup->FV,map_id->GM
open Nat renaming le_refl->AN,lt_of_lt_of_le->AZ,ne_of_lt->Ac,le_trans->Az,zero_le->BO,lt_irrefl->Bb,le_succ->C9,add_comm->DF,lt_of_le_of_lt->DV,lt_succ_self->Di,ne_of_gt->Dn,lt_or_ge->Dx,reduceSub->E7,le_of_lt->Ej,lt_trans->FD,add_assoc->Fc,le_of_eq->Fv,log2_lt->GI
open PySem.Heap renaming get?_push_of_some->AS,lt_size->AT,get?_push_size->A6,SameBut->B9,get?_update_other->Cg,get?_update_self->EG,size_push->ET,MadeExcOf->F8,FlyingW->Fw
open Option.some renaming inj->AU,injEq->B6
open PySem.Str renaming ofString->A4,empty->Cn,join->GL
open PyProof.Rows renaming slot_tuple_getitem->Ar,callWith_type1->CO,AllBare->Cu,assignInOrder_cons->DM,subscriptTail_builtinR->Dr,tupleItemsOf_->EW,entry_tuple_getitem->EZ,args_tuple_getitem->Ed,assignInOrder_nil->Em,callWith_builtin1->FM,boot_isinstance->FZ,IntsAre->F0,Subscript_->F5,split_pos->GB,split_le->GE
open PySem.Value renaming ref->BA,none->Bf,bool->CS,type->F3,isStrOf->Fb,int->Fj,str->Fk,isInt->GF
open PySem.PyData renaming depthAll->BH,eqv->BJ,depth->BL,canLay0->B3,canLayAll0->Br,eqvAll->CM,keyHash->DX
open Ne renaming symm->BI
open False renaming elim->BP
open Sum renaming inr->B5,inl->EV
open PySem.F renaming slot_tuple_iterator_next->Bj,args_tuple_add_2->CZ,entry_tuple_add->C8,plainAttrs_list->Ca,slot_str_split->Cb,slot_tuple_add->Cf,args_tuple_iterator_next_1->DB,entry_tuple_iterator_next->DD,args_str_split_2->DW,slot_dict_getitem->D2,entry_str_split->D6,slot_list_append->EH,slot_list_extend->EI,slot_list_clear->ER
open PySem.Heap.FunFrames renaming mem->Bk
open PySem.Builtin.Slice renaming slicePlaces->Bl,sliceAdjust->CW,sliceApplied->DQ,slicePartIndex->FX,sliceFields->Fa
open PySem.Builtin.SmallTypes renaming nextOf->Bm
open PySem.Builtin.Tuple renaming tupleExact->Bv,tupleItemsOf->CQ,tupleHashOf->D0
open PySem.NameKind renaming free->Bw,cell->D9
open PySem.Builtin.Str renaming occurrences->CC,strSliceIndices->DE,strKind->E2
open PySem.Challenge renaming rw_widewords_k65_whole_short->CG,pw_widewords_k65_whole_short->Dj
open Eq renaming refl->CP
open PySem.Value.type renaming inj->CT
open True renaming intro->CU
open PySem.Builtin.Int renaming intBits->CY
open PySem.Builtin.List renaming listTooLong->C0
open PUnit renaming unit->Ck
open ForInStep renaming yield->Cw
open Array renaming length_toList->DC,append_assoc->DJ,getElem?_eq_some_iff->DU,forIn_toList->Ea,toList->Ei
open And renaming intro->DH
open PySem.Calls renaming Name_function_global->DL,callWith_builtin->Dt,evalArgs_plain->EQ
open Int renaming fdiv_eq_ediv_of_nonneg->DO,emod_lt_of_pos->DZ,emod_nonneg->ED,toNat_natCast->Ex,mul_one->GG
open PySem.ScopeKind renaming function->DY
open PySem.Txt renaming split->Dh
open PySem.Obj renaming mapSeq->Ds,data_mapFields->Ee
open PySem.Builtin renaming bitAnd->EN,bitXor->EO,bitOr->E5
open PySem.Heap.SameBut renaming update->E1,refl->GR
open PySem.Paired renaming length->E4,snoc->GJ
open PySem.SeqAt.EqAt renaming int_str->E8,str_int->E9
open PySem.WalksT renaming enumerateD->Ey
open PySem.Around renaming in1_units->FI
open PySem.SeqAt renaming EqAt->F6,shaped->Fz
open PySem.Flow renaming next->Fq
open PySem.Builtin.Range renaming rangeSize->Ft
open PySem.Heap.UpToSlots renaming of_keeps->Fu
open PySem.Heap.IsSliceOf renaming new->GN
open PySem.W.WShape renaming has->GO
open List.Pairwise renaming nil->GQ
open PySem.W.WData renaming int->GS
noncomputable section
open Lean in
def cnvP:Nat->Syntax->MacroM (TSyntax `rcasesPat)
 |0,_=>Macro.throwUnsupported
 |n+1,s=>do
  if s.isOfKind ``Lean.Parser.Term.anonymousCtor then `(rcasesPat| ⟨$[$(← s[1].getSepArgs.mapM (cnvP n)):rcasesPat],*⟩)
  else if s.isIdent then `(rcasesPat| $(⟨s⟩):ident)
  else if s.isOfKind ``Lean.Parser.Term.hole then `(rcasesPat| _)
  else Macro.throwUnsupported
local macro_rules | `(tactic| let $p:term := $e)=>do `(tactic| obtain $(← cnvP 9 p):rcasesPat := $e)
local macro_rules | `(tactic| erw [$rs,*] $(l)?)=>do
 let t<-rs.getElems.mapM λ|`(Lean.Parser.Tactic.rwRule| $t:term)=>`(Lean.Parser.Tactic.simpLemma| $t:term)|_=>Lean.Macro.throwUnsupported
 `(tactic| simp only[$t,*] $(l)?)
local macro_rules | `(fun $bs* => $b)=>do
 if !(bs.any λx=>x.raw.isOfKind ``Lean.Parser.Term.anonymousCtor)||(b.raw.find? λx=>x.isOfKind ``Lean.Parser.Term.syntheticHole).isSome then Lean.Macro.throwUnsupported
 `(by rintro $[$(← bs.mapM λx=>cnvP 9 x.raw):rcasesPat]*;exact $b)
set_option backward.eqns.nonrecursive false
local macro_rules (kind:=Lean.Parser.Command.declaration)
 |s=>do
  let k:=s[1].getKind
  unless (k==``Lean.Parser.Command.definition||k==``Lean.Parser.Command.abbrev)&&s[0].getArgs.all (·.isNone) do Lean.Macro.throwUnsupported
  if k==``Lean.Parser.Command.definition&&(toString s[1][1][0].getId).startsWith "z" then
   let m←`(theorem x:True:=trivial)
   return s.setArg 1 (((m.raw[1].setArg 1 s[1][1]).setArg 2 (Lean.mkNode ``Lean.Parser.Command.declSig #[s[1][2][0],s[1][2][1][0]])).setArg 3 s[1][3])
  let m←`(noncomputable def x:=0)
  return s.setArg 0 m.raw[0]
namespace L2
open PySem PySem.Spec PyProof.Rows
abbrev Key:=Sum Int AM
def ya0:Key->AF->Bool
 |.inl k,v=>GF k v
 |.inr x,v=>Fb x v
def yeY(w:Ab):Key->Int
 |.inl k=>hashInt k
 |.inr x=>hashStr w x
def ze:∀{k:Key} {v:AF},ya0 k v=AC->(∃i t,k=EV i/\v=Fj i t) \/ (∃x t,k=B5 x/\v=Fk x t)
 |.inl i,v,h=>by
  let⟨t,e⟩:=Value.isInt_shape (k:=i) (v:=v) h;exact .inl ⟨i,t,rfl,e⟩
 |.inr x,v,h=>by
  let⟨t,e⟩:=Value.isStrOf_shape (x:=x) (v:=v) h;exact .inr ⟨x,t,rfl,e⟩
def zd4(i:Int)(t:GP):ya0 (.inl i) (.int i t)=true:=by simp[ya0,GF]
def zeG(x:AM)(t:GP):ya0 (.inr x) (.str x t)=true:=by simp[ya0,Fb]
def zjB(a b:Int):decide ((EV a:Key)=EV b)=(a==b):=by
 by_cases e:a=b
 .subst e;simp
 .have h:¬(EV a:Key)=EV b:=λq=>e (Sum.inl.inj q);rw[decide_eq_false h];exact(beq_eq_false_iff_ne.mpr e).symm
def zjP(a b:AM):decide ((B5 a:Key)=B5 b)=decide (a=b):=by
 by_cases e:a=b
 .subst e;simp
 .have h:¬(B5 a:Key)=B5 b:=λq=>e (Sum.inr.inj q);rw[decide_eq_false h,decide_eq_false e]
def zil(a:Int)(b:AM):decide ((EV a:Key)=B5 b)=false:=decide_eq_false (λq=>nomatch q)
def ziI(a:AM)(b:Int):decide ((B5 a:Key)=EV b)=false:=decide_eq_false (λq=>nomatch q)
def yL(prog:A1)(w:Ab):PySem.KeyKind prog w Key where
 is:=ya0
 hash:=yeY w
 inj:=λv a b ha hb=>by
  rcases ze ha with⟨i,t,rfl,rfl⟩|⟨x,t,rfl,rfl⟩
  .rcases ze hb with⟨j,u,rfl,e⟩|⟨y,u,rfl,e⟩
   .injection e with e1 _;rw[e1]
   .exact nomatch e
  .rcases ze hb with⟨j,u,rfl,e⟩|⟨y,u,rfl,e⟩
   .exact nomatch e
   .injection e with e1 _;rw[e1]
 byValue:=λk v h=>by
  rcases ze h with⟨i,t,rfl,rfl⟩|⟨x,t,rfl,rfl⟩<;>rfl
 pyHash:=λhv h=>by
  rcases ze hv with⟨i,t,rfl,rfl⟩|⟨x,t,rfl,rfl⟩
  .exact wpAny_pyHash_int h
  .exact wpAny_pyHash_str h
 eqBool:=λhu hv h=>by
  rcases ze hu with⟨i,t,rfl,rfl⟩|⟨x,t,rfl,rfl⟩
  .rcases ze hv with⟨j,u,rfl,rfl⟩|⟨y,u,rfl,rfl⟩
   .rw[zjB]at h;exact wpAny_eqBool_int h
   .rw[zil]at h;exact E8 i t y u _ _ _ _ h
  .rcases ze hv with⟨j,u,rfl,rfl⟩|⟨y,u,rfl,rfl⟩
   .rw[ziI]at h;exact E9 x t j u _ _ _ _ h
   .rw[zjP]at h;exact wpAny_eqBool_str h
 «strs»:=λk x t v h=>by
  rcases ze h with⟨i,u,rfl,e⟩|⟨y,u,rfl,e⟩
  .exact nomatch e
  .injection e with e1 _;subst e1
   cases v<;>rfl
def zca(prog:A1)(w:Ab)(i:Int)(t:GP):(yL prog w).is (.inl i) (.int i t)=true:=zd4 i t
def zb2(prog:A1)(w:Ab)(x:AM)(t:GP):(yL prog w).is (.inr x) (.str x t)=true:=zeG x t
end L2
namespace L2
open PySem
inductive NK where
 |a (k:Key)
 |t (l:List NK)
noncomputable instance:DecidableEq NK:=λ_ _=>Classical.propDecidable _
mutual
def NI(h:Ao):NK->AF->Prop
 |.a k,v=>ya0 k v=AC
 |.t l,v=>∃(b:AG) (its:List AF),v=.ref b/\h.get? b=AA {cls:=.type "tuple",data:=.seq its.toArray}/\NIs h l its
def NIs(h:Ao):List NK->List AF->Prop
 |[],vs=>vs=[]
 |k::l,vs=>∃v r,vs=v::r/\NI h k v/\NIs h l r
end
mutual
def nkH(w:Ab):NK->Int
 |.a k=>yeY w k
 |.t l=>reduceHash (D0 (yc1 w l))
def yc1(w:Ab):List NK->List Int
 |[]=>[]
 |k::l=>nkH w k::yc1 w l
end
mutual
def nkN:NK->Nat
 |.a _=>1
 |.t l=>ydi l+1
def ydi:List NK->Nat
 |[]=>0
 |k::l=>nkN k+ydi l
end
mutual
def nkD:NK->F2
 |.a (.inl i)=>.int i
 |.a (.inr x)=>.str x
 |.t l=>.tuple (yaL l)
def yaL:List NK->List F2
 |[]=>[]
 |k::l=>nkD k::yaL l
end
section
variable {prog:A1}{w:Ab}{E:AF->AH->Prop}
mutual
theorem zeA:∀(k:NK) (v:AF) (A:A5) (s:AH) (Q:Int->AH->Prop),NI s.heap k v->A.units+(nkD k).depth<cLine->Q (nkH w k) {s with toks:=s.toks+nkN k}->A2 (model prog w) A (pyHash v) Q E s
 |.a k,v,A,s,Q,hi,_,h=>(yL prog w).pyHash (k:=k) hi h
 |.t l,v,A,s,Q,hi,hu,h=>by
  let⟨b,its,rfl,g,hs⟩:=hi;erw[nkD,BL]at hu;refine PySem.W.pyHash_slot (T:="tuple") ⟨_,g,rfl⟩ F.slot_tuple_hash F.entry_tuple_hash (F.args_tuple_hash_1 _) (beq_builtin_none _) (.inr ∅) ?_;show A2 _ _ (CQ (.ref b) >>= _) _ _ s;refine AJ (wpAny_tupleItemsOf g rfl ?_);refine AJ ?_;rw[<-Ea];refine zdF l its A.in1 s #[] _ hs (by erw[FI];lia) λb' hb=>?_;show A2 _ _ (retInt (D0 b'.toList)) _ _ _;rw[hb];exact AJ (wpAny_mkInt (AQ ⟨_,_,rfl,h⟩))
theorem zdF:∀(l:List NK) (vs:List AF) (A:A5) (s:AH) (b:Array Int) (Q:Array Int->AH->Prop),NIs s.heap l vs->A.units+BH (yaL l)<cLine ->
  (∀b',b'.toList=b.toList++yc1 w l->Q b' {s with toks:=s.toks+ydi l}) ->
  A2 (model prog w) A (forIn vs b λx r=>do let h <-pyHash x;pure Ck;pure (Cw (r.push h))) Q E s
 |[],vs,A,s,b,Q,hi,_,h=>by
  cases (show vs=[]from hi)
  exact AQ (h b (by simp[yc1]))
 |k::l,vs,A,s,b,Q,hi,hu,h=>by
  let⟨v,r,rfl,h1,h2⟩:=hi;erw[yaL,BH]at hu;rw[Dz];refine AJ (AJ (zeA k v A s _ h1 ∅ ?_));refine AJ (AQ (AQ ?_));refine zdF l r A _ _ Q h2 ∅ λb' hb=>?_;have:=h b' (by simp[hb,yc1]);simpa [ydi,Fc] using this
end
mutual
theorem zbf{h:Ao}:∀(k:NK) (v:AF),NI h k v->∃as,Fm h v (nkD k) as
 |.a (.inl i),v,hi=>by
  rcases ze hi with⟨j,t,e,rfl⟩|⟨x,t,e,rfl⟩
  .cases e;exact⟨_,.int _ _⟩
  .cases e
 |.a (.inr x),v,hi=>by
  rcases ze hi with⟨j,t,e,rfl⟩|⟨y,t,e,rfl⟩
  .cases e
  .cases e;exact⟨_,.str _ _⟩
 |.t l,v,hi=>by
  let⟨b,its,rfl,g,hs⟩:=hi;let⟨as,r⟩:=zbw l its hs;exact⟨as,.tuple g rfl rfl (by simpa using r)⟩
theorem zbw{h:Ao}:∀(l:List NK) (vs:List AF),NIs h l vs->∃as,ReadsAll h vs (yaL l) as
 |[],vs,hi=>by cases (show vs=[]from hi);exact⟨_,.nil⟩
 |k::l,vs,hi=>by
  let⟨v,r,rfl,h1,h2⟩:=hi;let⟨a1,r1⟩:=zbf k v h1;let⟨a2,r2⟩:=zbw l r h2;exact⟨_,.cons r1 r2⟩
end
mutual
theorem zgI:∀a b:NK,BJ (nkD a) (nkD b)=decide (a=b)
 |.a (.inl i),.a (.inl j)=>by erw[nkD,BJ];by_cases e:i=j<;>simp[e]
 |.a (.inl i),.a (.inr j)=>by simp[nkD,BJ]
 |.a (.inr i),.a (.inl j)=>by simp[nkD,BJ]
 |.a (.inr i),.a (.inr j)=>by erw[nkD,BJ];by_cases e:i=j<;>simp[e]
 |.a (.inl i),.t l=>by simp[nkD,BJ]
 |.a (.inr i),.t l=>by simp[nkD,BJ]
 |.t l,.a (.inl i)=>by simp[nkD,BJ]
 |.t l,.a (.inr i)=>by simp[nkD,BJ]
 |.t l,.t m=>by erw[nkD,BJ,zdN l m];by_cases e:l=m<;>simp[e]
theorem zdN:∀a b:List NK,CM (yaL a) (yaL b)=decide (a=b)
 |[],[]=>by simp[yaL,CM]
 |[],_::_=>by simp[yaL,CM]
 |_::_,[]=>by simp[yaL,CM]
 |a::l,b::m=>by
  erw[yaL,CM,zgI a b,zdN l m]
  by_cases e:a=b<;>by_cases f:l=m<;>simp[e,f]
end
mutual
theorem zcy:∀(k:NK) (v:AF) (n:Nat) (A:A5) (s:AH) (Q:Bool->AH->Prop),NI s.heap k v->(nkD k).depth<=n->Q AC s->A2 (model prog w) A (eqIsQuiet n v) Q E s
 |.a k,v,n,A,s,Q,hi,_,h=>by
  rw[eqIsQuiet_byValue n ((yL prog w).byValue k v hi)];exact AQ h
 |.t l,v,n,A,s,Q,hi,hd,h=>by
  let⟨b,its,rfl,g,hs⟩:=hi;erw[nkD,BL]at hd;obtain⟨m,rfl⟩:∃m,n=m+1:=⟨n-1,by lia⟩;unfold eqIsQuiet;refine AJ (FW (T:="tuple") ⟨_,g,rfl⟩ F.slot_tuple_eq.lookup ?_);show A2 _ _ (isInstance (.ref b) (.type "tuple") >>= _) _ _ s;refine AJ (wpAny_isInstance (T:="tuple") ⟨_,g,rfl⟩ isSubtype_tuple_tuple ?_);erw[D8,C4,if_false];refine AJ (EK g rfl ?_);refine AJ ?_;show A2 _ _ (forIn its.toArray _ _) _ _ s;rw[<-Ea];refine zbS l its m A s _ hs ∅ ?_;exact AQ h
theorem zbS:∀(l:List NK) (vs:List AF) (n:Nat) (A:A5) (s:AH) (Q:Option Bool×PUnit->AH->Prop),NIs s.heap l vs->BH (yaL l)<=n->Q (AB,Ck) s ->
  A2 (model prog w) A (forIn vs (AB,Ck) λy r=>do
   let b <-eqIsQuiet n y
   if (!b)=AC then pure (ForInStep.done (AA AE,Ck))else do
    pure Ck
    pure (Cw (AB,Ck))) Q E s
 |[],vs,n,A,s,Q,hi,_,h=>by
  cases (show vs=[]from hi)
  exact AQ h
 |k::l,vs,n,A,s,Q,hi,hd,h=>by
  let⟨v,r,rfl,h1,h2⟩:=hi;erw[yaL,BH]at hd;rw[Dz];refine AJ (AJ (zcy k v n A s _ h1 ∅ ?_));erw[D8,C4,if_false];refine AJ (AQ (AQ ?_));exact zbS l r n A s Q h2 ∅ h
end
mutual
theorem zgr{h:Ao}:∀(a b:NK) (v:AF),NI h a v->NI h b v->a=b
 |.a k,.a j,v,x,y=>by
  rcases ze x with⟨_,_,rfl,rfl⟩|⟨_,_,rfl,rfl⟩<;>rcases ze y with⟨_,_,rfl,e⟩|⟨_,_,rfl,e⟩<;>cases e<;>rfl
 |.a k,.t l,v,x,y=>by
  let⟨b,its,rfl,_⟩:=y;rcases ze x with⟨_,_,_,e⟩|⟨_,_,_,e⟩<;>cases e
 |.t l,.a k,v,x,y=>by
  let⟨b,its,rfl,_⟩:=x;rcases ze y with⟨_,_,_,e⟩|⟨_,_,_,e⟩<;>cases e
 |.t l,.t m,v,x,y=>by
  let⟨b,its,rfl,g,hs⟩:=x;let⟨b',its',e,g',hs'⟩:=y
  cases e
  rw[g]at g';injection g' with g';injection g' with _ _ g' _;injection g' with g' _;have e2:its=its':=by simpa using congrArg Ei g'
  subst e2;rw[zer l m its hs hs']
theorem zer{h:Ao}:∀(a b:List NK) (vs:List AF),NIs h a vs->NIs h b vs->a=b
 |[],[],_,_,_=>rfl
 |[],_::_,vs,x,y=>by
  cases (show vs=[]from x)
  let⟨_,_,e,_⟩:=y;cases e
 |_::_,[],vs,x,y=>by
  cases (show vs=[]from y)
  let⟨_,_,e,_⟩:=x;cases e
 |a::l,b::m,vs,x,y=>by
  let⟨v,r,rfl,h1,h2⟩:=x;let⟨_,_,e,h3,h4⟩:=y
  cases e
  rw[zgr a b v h1 h3,zer l m r h2 h4]
end
end
mutual
theorem NI.stay{h h':Ao}(k:∀b its,h.get? b=AA {cls:=.type "tuple",data:=.seq its}->h'.get? b=AA {cls:=.type "tuple",data:=.seq its}):∀(a:NK) (v:AF),NI h a v->NI h' a v
 |.a _,_,x=>x
 |.t l,v,x=>by
  let⟨b,its,e,g,hs⟩:=x;exact⟨b,its,e,k _ _ g,NIs.stay k l its hs⟩
theorem NIs.stay{h h':Ao}(k:∀b its,h.get? b=AA {cls:=.type "tuple",data:=.seq its}->h'.get? b=AA {cls:=.type "tuple",data:=.seq its}):∀(a:List NK) (vs:List AF),NIs h a vs->NIs h' a vs
 |[],_,x=>x
 |a::l,vs,x=>by
  let⟨v,r,e,h1,h2⟩:=x;exact⟨v,r,e,NI.stay k a v h1,NIs.stay k l r h2⟩
end
def yda(l:List NK):Prop:=Br (yaL l)=AC/\BH (yaL l)<=6
def yaR(P:A1)(w:Ab):HeapKind P w (List NK) where
 is:=λh l a=>NI h (.t l) (.ref a)/\yda l
 hash:=λl=>nkH w (.t l)
 draws:=λl=>nkN (.t l)
 room:=λA=>A.units+8<cLine
 inj:=λx y=>by have e:=zgr _ _ _ x.1 y.1;injection e
 keeps:=λx ho hd hs=>⟨NI.stay (λb its g=>(hs.2 b (λe=>by subst e;rw[ho]at g;cases g;cases hd)).trans g) _ _ x.1,x.2⟩
 pyHash:=λhu x h=>zeA _ _ _ _ _ x.1 (by have:=x.2.2;erw[nkD,BL];lia) h
 eqBool:=λ{A E s x y a b Q} hu hx hy h=>by
  let⟨as,ra⟩:=zbf _ _ hx.1;let⟨bs,rb⟩:=zbf _ _ hy.1;refine SeqAt.eqBoolOverData P w A E s _ _ _ _ as bs Q ra rb (by erw[nkD,B3];exact hx.2.1) (by erw[nkD,B3];exact hy.2.1) (by have:=hx.2.2;erw[nkD,BL];lia) ?_;rw[zgI];have:decide (NK.t x=NK.t y)=decide (x=y):=by by_cases e:x=y<;>simp[e]
  rw[this];exact h
 quiet:=λx h=>zcy _ _ _ _ _ _ x.1 (by have:=x.2.2;erw[nkD,BL];lia) h
end L2
namespace L2
open PySem PySem.Spec PyProof.Rows
inductive V where
 |non|bl (b:Bool)|int (i:Int)|str (x:AM)|byt (b:Array UInt8)|flt (b:UInt64)|ref (a:AG)|ty (n:String)
 deriving DecidableEq
def RelV:V->AF->Prop
 |.non,u=>u=Bf
 |.bl b,u=>u=CS b
 |.int i,u=>∃t,u=Fj i t
 |.str x,u=>∃t,u=Fk x t
 |.byt b,u=>∃t,u=Value.bytes b t
 |.flt b,u=>∃t,u=Value.float b t
 |.ref a,u=>u=BA a
 |.ty n,u=>u=F3 n
abbrev Vals:List V->List AF->Prop:=FJ RelV
theorem Vals.length{xs:List V}{us:List AF}(r:Vals xs us):xs.length=us.length:=E4 r
theorem Vals.get:∀{xs:List V} {us:List AF} {i:Nat} {x:V},Vals xs us->xs[i]?=AA x->∃u,us[i]?=AA u/\RelV x u
 |_,_,_,_,.nil,e=>by simp at e
 |_,_,0,_,.cons r _,e=>by simp at e;subst e;exact⟨_,rfl,r⟩
 |_,_,i+1,x,.cons _ t,e=>by
  let⟨u,h1,h2⟩:=Vals.get (i:=i) (x:=x) t (by simpa using e);exact⟨u,by simpa using h1,h2⟩
theorem Vals.set{x:V}{u:AF}(r:RelV x u):∀{xs:List V} {us:List AF} (i:Nat),Vals xs us->Vals (xs.set i x) (us.set i u)
 |_,_,_,.nil=>.nil
 |_,_,0,.cons _ t=>.cons r t
 |_,_,i+1,.cons q t=>.cons q (Vals.set r i t)
theorem Vals.append:∀{xs ys:List V} {us ws:List AF},Vals xs us->Vals ys ws->Vals (xs++ys) (us++ws)
 |_,_,_,_,.nil,s=>s
 |_,_,_,_,.cons r t,s=>.cons r (Vals.append t s)
theorem Vals.take:∀{xs:List V} {us:List AF} (n:Nat),Vals xs us->Vals (xs.take n) (us.take n)
 |_,_,0,_=>.nil
 |_,_,_+1,.nil=>.nil
 |_,_,n+1,.cons r t=>.cons r (Vals.take n t)
theorem Vals.drop:∀{xs:List V} {us:List AF} (n:Nat),Vals xs us->Vals (xs.drop n) (us.drop n)
 |_,_,0,r=>r
 |_,_,_+1,.nil=>.nil
 |_,_,n+1,.cons _ t=>Vals.drop n t
def ybl:Option V->Option AF->Prop
 |some v,AA u=>RelV v u
 |none,AB=>True
 |_,_=>False
def KV{κ:Type}:List (κ×V)->List (κ×AF)->Prop:=FJ λ(p:κ×V) (q:κ×AF)=>p.1=q.1/\RelV p.2 q.2
def kV:Key->V
 |.inl i=>.int i
 |.inr x=>.str x
inductive HO where
 |lst (xs:List V)
 |tup (xs:List V)
 |dK (kvs:List (Key×V))|dT (kvs:List (List NK×V))
 |set (S:Int->Bool) (n:Nat)
 |ins (C dx:AG) (fs:List (AM×V))
 |own (x:AG)
 |xd (fs:List (AM×V))
 |met (f x:AG)
 |rng (lo hi:Int)
 |frz (o:BW) (u:HO)
 |tbl (ps:Array AF)
 |ext (φ:Ao->Prop)
abbrev Hp:=AG->Option HO
def upd(H:Hp)(a:AG)(o:HO):Hp:=λb=>if b=a then AA o else H b
def zc{H:Hp}{a:AG}{o:HO}:upd H a o a=AA o:=by unfold upd;rw[if_pos rfl]
def za{H:Hp}{a b:AG}{o:HO}(h:b≠a):upd H a o b=H b:=by unfold upd;rw[if_neg h]
theorem upd_upd{H:Hp}{a:AG}{o u:HO}:upd (upd H a o) a u=upd H a u:=by
 funext b;unfold upd;split<;>rfl
def zky{H:Hp}{a b:AG}{o u:HO}(h:H a=AA o)(h':H b=AA u)(d:o≠u):a≠b:=by
 intro e;subst e;rw[h]at h';exact d (AU h')
def zd{H:Hp}{a b:AG}{o:HO}(h:H a=AA o)(h':H b=AB):a≠b:=by
 intro e;subst e;rw[h]at h';cases h'
mutual
def NKr(H:Hp):NK->V->Prop
 |.a k,v=>v=kV k
 |.t l,v=>∃(b:AG) (xs:List V),v=.ref b/\H b=AA (.tup xs)/\NKs H l xs
def NKs(H:Hp):List NK->List V->Prop
 |[],xs=>xs=[]
 |k::l,xs=>∃y ys,xs=y::ys/\NKr H k y/\NKs H l ys
end
def KyR(H:Hp)(l:List NK)(b:AG):Prop:=NKr H (.t l) (.ref b)/\yda l
mutual
theorem NKr.stay{H H':Hp}(k:∀b xs,H b=AA (.tup xs)->H' b=AA (.tup xs)):∀(a:NK) (v:V),NKr H a v->NKr H' a v
 |.a _,_,x=>x
 |.t l,v,x=>by
  let⟨b,xs,e,g,hs⟩:=x;exact⟨b,xs,e,k _ _ g,NKs.stay k l xs hs⟩
theorem NKs.stay{H H':Hp}(k:∀b xs,H b=AA (.tup xs)->H' b=AA (.tup xs)):∀(a:List NK) (xs:List V),NKs H a xs->NKs H' a xs
 |[],_,x=>x
 |a::l,xs,x=>by
  let⟨y,ys,e,h1,h2⟩:=x;exact⟨y,ys,e,NKr.stay k a y h1,NKs.stay k l ys h2⟩
end
theorem KyR.stay{H H':Hp}{l:List NK}{b:AG}(x:KyR H l b)(k:∀b xs,H b=AA (.tup xs)->H' b=AA (.tup xs)):KyR H' l b:=⟨NKr.stay k _ _ x.1,x.2⟩
section
variable (P:A1)(w:Ab)
def yH(H:Hp)(h:Ao)(a:AG):HO->Prop
 |.lst xs=>xs.length<=sizeLine/\∃(its:List AF) (n:Nat),Vals xs its/\h.get? a=AA {cls:=.type "list",data:=.seq its.toArray n}
 |.tup xs=>xs.length<=sizeLine/\∃its:List AF,Vals xs its/\h.get? a=AA {cls:=.type "tuple",data:=.seq its.toArray}
 |.dK kvs=>kvs.length<=sizeLine/\(a==sysModules)=AE/\∃vs,KV kvs vs/\h.DictOf (yL P w) a vs
 |.dT kvs=>kvs.length<=sizeLine/\(a==sysModules)=AE/\∃xs:List (List NK×AG×AF),
   FJ (λ(p:List NK×V) (q:List NK×AG×AF)=>p.1=q.1/\KyR H p.1 q.2.1/\RelV p.2 q.2.2) kvs xs /\
   ∃o es ep,h.get? a=AA o/\o.ExactDict/\o.data=.dict es ep/\es.toList=xs.map (entryOfKey (yaR P w))/\(xs.map (·.1)).Nodup
 |.set S n=>h.SetOf (intKind P w) a S n
 |.ins C dx fs=>H dx=AA (.own a)/\fs.length<=1000/\dx≠a/\h.get? a=AA (PySem.W.instObj C dx) /\
   ∃mA,h.Ns1 dx mA/\(∀f,ybl (fs.lookup f) (mA f))/\PySem.Within mA (fs.map (·.1))
 |.own _=>∃o,h.get? a=AA o
 |.xd fs=>∃mA,h.Ns1 a mA/\∀f,ybl (fs.lookup f) (mA f)
 |.rng lo hi=>∃t u v,h.get? a=AA {cls:=.type "range",data:=.fields #[.int lo t,.int hi u,.int 1 v]}
 |.frz o u=>h.get? a=AA o/\yH H h a u
 |.tbl ps=>h.get? a=AA {cls:=.none,data:=.fields ps}
 |.met f x=>h.get? a=AA (D4 (.ref f) (.ref x))
 |.ext φ=>φ h/\(∃o,h.get? a=AA o)/\∀h1 h2:Ao,φ h1->(∀o,h1.get? a=AA o->h2.get? a=AA o)->φ h2
def HOk(H:Hp)(h:Ao):Prop:=∀a o,H a=AA o->yH P w H h a o
end
section
variable {P:A1}{w:Ab}{H H':Hp}{h h':Ao}{a:AG}{o:HO}
theorem yH.lt(x:yH P w H h a o):a<h.objs.size:=by
 cases o with
 |lst xs=>let⟨_,_,_,_,e⟩:=x;exact AT e
 |tup xs=>let⟨_,_,_,p⟩:=x;exact AT p
 |dK kvs=>let⟨_,_,_,_,o,_,_,e,_⟩:=x;exact AT e
 |dT kvs=>let⟨_,_,_,_,o,_,_,e,_⟩:=x;exact AT e
 |set S n=>let⟨o,_,_,_,e,_⟩:=x;exact AT e
 |ins C dx fs=>let⟨_,_,_,e,_⟩:=x;exact AT e
 |own y=>let⟨_,e⟩:=x;exact AT e
 |xd fs=>let⟨_,⟨_,_,_,e,_⟩,_⟩:=x;exact AT e
 |rng lo hi=>let⟨_,_,_,e⟩:=x;exact AT e
 |frz ob u=>let⟨e,_⟩:=x;exact AT e
 |tbl ps=>exact AT (show h.get? a=AA _ from x)
 |met f y=>exact AT (show h.get? a=AA _ from x)
 |ext φ=>let⟨_,⟨_,e⟩,_⟩:=x;exact AT e
theorem Paired.mapP{α β:Type}{F G:α->β->Prop}:∀{l₁:List α} {l₂:List β},FJ F l₁ l₂->(∀a b,F a b->G a b)->FJ G l₁ l₂
 |_,_,.nil,_=>.nil
 |_,_,.cons r t,f=>.cons (f _ _ r) (Paired.mapP t f)
theorem yH.stay(x:yH P w H h a o)(k:∀b u,(b=a \/ H b=AA (.own a))->h.get? b=AA u->h'.get? b=AA u)
  (ho:∀b,H b=AA (.own a)->H' b=AA (.own a)) (ht:∀b xs,H b=AA (.tup xs)->H' b=AA (.tup xs)):yH P w H' h' a o:=by
 induction o with
 |lst xs=>let⟨z,its,n,r,e⟩:=x;exact⟨z,its,n,r,k _ _ (.inl rfl) e⟩
 |tup xs=>let⟨z,its,r,e⟩:=x;exact⟨z,its,r,k _ _ (.inl rfl) e⟩
 |dK kvs=>let⟨z,y,vs,r,ob,es,ep,e,c⟩:=x;exact⟨z,y,vs,r,ob,es,ep,k _ _ (.inl rfl) e,c⟩
 |dT kvs=>
  let⟨z,y,xs,r,ob,es,ep,e,c⟩:=x;exact⟨z,y,xs,Paired.mapP r λp q z=>⟨z.1,z.2.1.stay ht,z.2.2⟩,ob,es,ep,k _ _ (.inl rfl) e,c⟩
 |set S n=>let⟨ob,es,ep,t,e,c⟩:=x;exact⟨ob,es,ep,t,k _ _ (.inl rfl) e,c⟩
 |ins C dx fs=>
  let⟨d,z,ne,e,mA,⟨od,es,ep,e2,c⟩,r⟩:=x;exact⟨ho _ d,z,ne,k _ _ (.inl rfl) e,mA,⟨od,es,ep,k _ _ (.inr d) e2,c⟩,r⟩
 |own y=>let⟨ob,e⟩:=x;exact⟨ob,k _ _ (.inl rfl) e⟩
 |xd fs=>let⟨mA,⟨od,es,ep,e,c⟩,r⟩:=x;exact⟨mA,⟨od,es,ep,k _ _ (.inl rfl) e,c⟩,r⟩
 |rng lo hi=>let⟨t,u,v,e⟩:=x;exact⟨t,u,v,k _ _ (.inl rfl) e⟩
 |frz ob u ih=>let⟨e,q⟩:=x;exact⟨k _ _ (.inl rfl) e,ih q⟩
 |tbl ps=>
  have e:h.get? a=AA {cls:=.none,data:=.fields ps}:=x;show h'.get? a=AA {cls:=.none,data:=.fields ps};exact k a _ (.inl rfl) e
 |met f y=>
  have e:h.get? a=AA (D4 (.ref f) (.ref y)):=x;show h'.get? a=AA (D4 (.ref f) (.ref y));exact k a _ (.inl rfl) e
 |ext φ=>let⟨p,⟨o,e⟩,st⟩:=x;exact⟨st _ _ p λo q=>k _ _ (.inl rfl) q,⟨o,k _ _ (.inl rfl) e⟩,st⟩
theorem HOk.lt(x:HOk P w H h)(e:H a=AA o):a<h.objs.size:=(x a o e).lt
theorem HOk.fresh(x:HOk P w H h)(e:h.objs.size<=a):H a=none:=by
 cases q:H a with
 |none=>rfl
 |some u=>exact absurd (AZ (x.lt q) e) (Bb _)
theorem HOk.kept(x:HOk P w H h)(k:∀b u,h.get? b=AA u->h'.get? b=AA u):HOk P w H h':=λa o e=>
 (x a o e).stay (λb u _ q=>k b u q) (λ_ q=>q) λ_ _ q=>q
theorem HOk.laid(x:HOk P w H h)(k:∀b u,h.get? b=AA u->h'.get? b=AA u)(hp:h.objs.size<=a)(new:yH P w (upd H a o) h' a o):HOk P w (upd H a o) h':=λb u e=>by
 have hn:=x.fresh hp
 by_cases hb:b=a
 .subst hb;rw[zc]at e;cases e;exact new
 .rw[za hb]at e;exact(x b u e).stay (λc v _ q=>k c v q) (λc q=>by rw[za (zd q hn)];exact q) λc xs q=>by rw[za (zd q hn)];exact q
end
def Rd(H:Hp)(a:AG)(u:HO):Prop:=H a=AA u \/ ∃o,H a=AA (.frz o u)
theorem Rd.of{H:Hp}{a:AG}{u:HO}(h:H a=AA u):Rd H a u:=.inl h
theorem Rd.ok{P:A1}{w:Ab}{H:Hp}{h:Ao}{a:AG}{u:HO}(r:Rd H a u)(x:HOk P w H h):yH P w H h a u:=by
 rcases r with r|⟨o,r⟩
 .exact x a u r
 .let⟨_,q⟩:=x a _ r;exact q
def Mut:Option HO->Prop
 |some (.lst _)=>True
 |some (.dK _)=>True
 |some (.dT _)=>True
 |some (.set _ _)=>True
 |some (.ins _ _ _)=>True
 |some (.ext _)=>True
 |_=>False
section
variable {P:A1}{w:Ab}{H:Hp}{h h':Ao}{x e:AG}{o':HO}
theorem HOk.write(ok:HOk P w H h)(mu:Mut (H x))(he:e=x \/ H e=AA (.own x))(k:∀b u,b≠e->h.get? b=AA u->h'.get? b=AA u)(heo:∃u,h'.get? e=AA u)
  (new:yH P w (upd H x o') h' x o'):HOk P w (upd H x o') h':=λb u q=>by
 have nown:∀c y,H c=AA (.own y)->c≠x:=λc y r z=>by subst z;rw[r]at mu;exact mu
 have ntup:∀c xs,H c=AA (.tup xs)->c≠x:=λc xs r z=>by subst z;rw[r]at mu;exact mu
 by_cases hb:b=x
 .subst hb;rw[zc]at q;cases q;exact new
 .rw[za hb]at q
  by_cases hbe:b=e
  .have q':H b=AA (.own x):=by
    rcases he with z|z
    .exact absurd (hbe.trans z) hb
    .rw[hbe];exact z
   rw[q]at q';cases q';let⟨v,hv⟩:=heo;exact⟨v,by rw[hbe];exact hv⟩
  .refine(ok b u q).stay (λc v hc r=>k c v ?_ r) (λc r=>by rw[za (nown c b r)];exact r) λc xs r=>by rw[za (ntup c xs r)];exact r
   rcases hc with rfl|hc
   .exact hbe
   .rintro rfl
    rcases he with z|z
    .exact nown c b hc z
    .rw[hc]at z;cases z;exact hb rfl
end
structure Un(fs ex:List AG)(H H':Hp)(h h':Ao):Prop where
 keep:∀b o,h.get? b=AA o->H b=AB->b∉fs->b∉ex->h'.get? b=AA o
 slot:∀b o,h.get? b=AA o->H b=AB->b∈fs->b∉ex->∃sl,h'.get? b=AA {o with slots:=sl}
 free:∀b o,h.get? b=AA o->H b=AB->b∉ex->H' b=AB
 there:∀b o,h.get? b=AA o->b∉ex->∃o',h'.get? b=AA o'
 tups:∀b xs,H b=AA (.tup xs)->H' b=AA (.tup xs)
 frzs:∀b o u,H b=AA (.frz o u)->H' b=AA (.frz o u)
 tbls:∀b ps,H b=AA (.tbl ps)->∃more,H' b=AA (.tbl (ps++more))
section
variable {fs fs' ex ex':List AG}{H H1 H2:Hp}{h h1 h2 h':Ao}{a x e:AG}{o:HO}
theorem Un.any(u:Un fs ex H H1 h h1){b:AG}{ob:BW}(q:h.get? b=AA ob)(n:H b=AB)(hx:b∉ex):∃sl,h1.get? b=AA {ob with slots:=sl}:=by
 by_cases hb:b∈fs
 .exact u.slot b ob q n hb hx
 .exact⟨ob.slots,u.keep b ob q n hb hx⟩
theorem Un.kept(k:∀b u,h.get? b=AA u->h'.get? b=AA u):Un fs ex H H h h':=
 ⟨λb ob q _ _ _=>k b ob q,λb ob q _ _ _=>⟨ob.slots,k b ob q⟩,λ_ _ _ n _=>n,λb ob q _=>⟨ob,k b ob q⟩,λ_ _ q=>q,λ_ _ _ q=>q,λ_ ps q=>⟨#[],by rw[q];simp⟩⟩
theorem Un.refl:Un fs ex H H h h:=Un.kept λ_ _ q=>q
theorem Un.laid(k:∀b u,h.get? b=AA u->h'.get? b=AA u)(hp:h.objs.size<=a)(hn:H a=AB):Un fs ex H (upd H a o) h h' where
 keep:=λb u q _ _ _=>k b u q
 slot:=λb u q _ _ _=>⟨u.slots,k b u q⟩
 free:=λb u q n _=>by rw[za (Ac (AZ (AT q) hp))];exact n
 there:=λb u q _=>⟨u,k b u q⟩
 tups:=λb xs q=>by rw[za (zd q hn)];exact q
 frzs:=λb u xs q=>by rw[za (zd q hn)];exact q
 tbls:=λb ps q=>⟨#[],by rw[za (zd q hn),q];simp⟩
theorem Un.write(mu:Mut (H x))(he:e=x \/ H e=AA (.own x))(k:∀b u,b≠e->h.get? b=AA u->h'.get? b=AA u)(heo:∃u,h'.get? e=AA u):Un fs ex H (upd H x o) h h':=by
 have hx:∀b,H b=AB->b≠x:=λb n z=>by subst z;rw[n]at mu;exact mu
 have hb:∀b,H b=AB->b≠e:=λb n z=>by
  subst z;rcases he with r|r
  .exact hx b n r
  .rw[n]at r;cases r
 have hm:∀b u,H b=AA u->¬Mut (AA u)->b≠x:=λb u q nm z=>by subst z;rw[q]at mu;exact nm mu
 refine⟨λb u q n _ _=>k b u (hb b n) q,λb u q n _ _=>⟨u.slots,k b u (hb b n) q⟩,λb u q n _=>by rw[za (hx b n)];exact n,λb u q _=>?_,
  λb xs q=>by rw[za (hm b _ q λz=>z)];exact q,λb u xs q=>by rw[za (hm b _ q λz=>z)];exact q,λb ps q=>⟨#[],by rw[za (hm b _ q λz=>z),q];simp⟩⟩
 by_cases hbe:b=e
 .subst hbe;exact heo
 .exact⟨u,k b u hbe q⟩
end
def trk(h:Ao)(H:Hp):List Addr:=(Cm h.objs.size).filter λa=>(H a).isSome
def ybQ(h:Ao)(H:Hp):Heap:=C1 h (trk h H)
def zdB(h:Ao)(H:Hp):(ybQ h H).objs.size=h.objs.size:=PySem.W.hideAll_size _ _
def zfl{h:Ao}{H:Hp}{b:AG}{o:BW}(e:h.get? b=AA o)(n:H b=AB):(ybQ h H).get? b=AA o:=
 EX _ e λhm=>by
  have q:(H b).isSome=true:=(EA.mp hm).2;rw[n]at q;simp at q
def zhT{h:Ao}{H:Hp}{b:AG}{o:BW}(e:(ybQ h H).get? b=AA o):h.get? b=AA o/\H b=none:=by
 have e':h.get? b=AA o:=Eb (trk h H) e;refine⟨e',?_⟩
 cases q:H b with
 |none=>rfl
 |some x=>
  have hm:b∈trk h H:=EA.mpr ⟨DI.mpr (AT e'),by simp[q]⟩;have z:(ybQ h H).get? b=none:=PySem.W.hideAll_none (trk h H) hm;rw[z]at e;cases e
structure Mod(K:AD)(mg:AM->Option AF)(base:Ao):Prop where
 kin:K.In base
 glob:base.Ns mainGlobals mg
 blt:∃mb,base.Ns builtinsNs mb/\∀x:AM,x ≠ "__name__"->mb x=bootBuiltins x
 nolimit:base.NoLimit
structure Cx where
 prog:A1
 w:Ab
 K:AD
 mg:AM->Option AF
 base:Ao
 A:A5
 N:List AM
 s₀:AH
 H₀:Hp
 env:Env
 outer:List Env
 stack:List Env
 ex:List AG
 fn:AM->Bool
 calm:Bool
 pn:List (AG×BW)
 xe:AF->AH->Prop
def frs(l:List Env):List Addr:=l.filterMap (·.frame)
abbrev Cx.fs(X:Cx):List Addr:=frs X.outer
def Vis(sc:An)(x:AM):Prop:=sc.names.lookup x=AA .local \/ sc.names.lookup x=AA .cell \/ sc.names.lookup x=AA .free
def Loc(sc:An)(x:AM):Prop:=sc.names.lookup x=AA .local \/ sc.names.lookup x=AA .cell
def Look(env:Env)(h:Ao)(m:AM->Option AF)(x:AM)(u:AF):Prop:=
 (env.kindOf x=AA .local/\m x=AA u) \/ ((env.kindOf x=AA .cell \/ env.kindOf x=AA .free)/\∃c,env.cells.lookup x=AA c/\h.IsCell c (AA u))
structure Cx.Ok(X:Cx):Prop where
 mod:Mod X.K X.mg X.base
 kind:X.env.scope.kind=.function
 glob:X.env.globals=mainGlobals
 blt:X.env.builtins=builtinsNs
 above:X.s₀.heap.objs.size<=X.env.locals
 inj:∀x y c,X.env.cells.lookup x=AA c->X.env.cells.lookup y=AA c->x=y
 has:∀x,(X.env.kindOf x=AA .cell \/ X.env.kindOf x=AA .free)->∃c,X.env.cells.lookup x=AA c
 cab:∀x c,X.fn x=AC->X.env.cells.lookup x=AA c->X.s₀.heap.objs.size<=c
 hd:X.calm=AC->X.A.handled=AB
 frames:X.A.frames=AA X.stack
 stk:X.stack=X.outer \/ (X.stack=X.env::X.outer/\X.env.frame=AA X.env.locals)
 exf:∀b∈X.ex,b≠X.env.locals/\∀x c,X.env.cells.lookup x=AA c->c≠b
 bs:∀b o,X.base.get? b=AA o->X.s₀.heap.get? b=AA o/\X.H₀ b=AB
 bsz:X.base.objs.size<=X.s₀.heap.objs.size
 noex:∀b o,X.base.get? b=AA o->b∉X.ex
 exfs:∀b∈X.ex,b∉X.fs
 funs:X.s₀.heap.FunFrames X.base X.outer
 frf:∀b∈X.fs,X.H₀ b=AB
structure Inv(X:Cx)(π:List (AG×BW))(σ:List (Option V))(H:Hp)(s:AH):Prop where
 ok:X.Ok
 os:s.os=X.s₀.os
 bare:Cu s.gens
 base:Un X.fs X.ex X.H₀ H X.s₀.heap s.heap
 loc:∃m,s.heap.Ns X.env.locals m/\∀(i:Nat) (x:AM) (v:V),X.N[i]?=AA x->σ[i]?=AA (AA v)->Vis X.env.scope x->∃u,RelV v u/\Look X.env s.heap m x u
 cell:∀x c,X.env.cells.lookup x=AA c->∃v,s.heap.IsCell c v
 free:H X.env.locals=AB
 freeC:∀x c,X.env.cells.lookup x=AA c->H c=AB
 pin:∀p∈X.pn++π,s.heap.get? p.1=AA p.2/\H p.1=AB/\p.1≠X.env.locals/\p.1∉X.fs/\∀v,p.2.data ≠ .cell v
 hok:HOk X.prog X.w H s.heap
 len:σ.length=X.N.length
section
variable {X:Cx}{π:List (AG×BW)}{σ:List (Option V)}{H H':Hp}{s:AH}{h':Ao}
theorem Cx.Ok.nofr(ok:X.Ok){b:AG}{o:BW}(e:X.base.get? b=AA o):b∉X.fs:=λhb=>by
 have:=(ok.funs.mem hb).1;rw[e]at this;cases this
theorem Inv.bs(I:Inv X π σ H s):∀b o,X.base.get? b=AA o->s.heap.get? b=AA o/\H b=none:=λb o e=>
 ⟨I.base.keep b o (I.ok.bs b o e).1 (I.ok.bs b o e).2 (I.ok.nofr e) (I.ok.noex b o e),I.base.free b o (I.ok.bs b o e).1 (I.ok.bs b o e).2 (I.ok.noex b o e)⟩
theorem Inv.bk(I:Inv X π σ H s):∀b o,X.base.get? b=AA o->s.heap.get? b=AA o:=λb o e=>(I.bs b o e).1
theorem Inv.mod(I:Inv X π σ H s):Mod X.K X.mg X.base:=I.ok.mod
theorem Inv.kIn(I:Inv X π σ H s):X.K.In s.heap:=I.ok.mod.kin.keeps I.bk
theorem Inv.lt(I:Inv X π σ H s):X.env.locals<s.heap.objs.size:=let ⟨_,hn,_⟩:=I.loc;hn.lt
theorem Inv.sz(I:Inv X π σ H s):X.s₀.heap.objs.size<=s.heap.objs.size:=Az I.ok.above (Ej I.lt)
theorem Inv.nofs(I:Inv X π σ H s){a:AG}(h:s.heap.objs.size<=a):a∉X.fs:=λhb=>by
 let⟨_,o,ho,_⟩:=I.ok.funs.mem hb;exact absurd (AZ (AT ho) (Az I.sz h)) (Bb _)
theorem Inv.cne(I:Inv X π σ H s):∀x c,X.env.cells.lookup x=AA c->c≠X.env.locals:=λx c e z=>by
 let⟨v,o,ho,hd⟩:=I.cell x c e;let⟨m,⟨o',es,ep,ho',hd',_⟩,_⟩:=I.loc;rw[z,ho']at ho;cases ho;rw[hd']at hd;cases hd
theorem Inv.funs(I:Inv X π σ H s):s.heap.FunFrames X.base X.outer:=by
 have all:∀(l:List Env),(∀b∈frs l,b∈X.fs)->X.s₀.heap.FunFrames X.base l->s.heap.FunFrames X.base l:=by
  intro l
  induction l with
  |nil=>intro _ _;trivial
  |cons env r ih=>
   intro hs hl;let⟨hk,⟨L,o,hf,hn,ho,hd⟩,hr⟩:=hl;have hL:L∈X.fs:=hs L (by unfold frs;rw[CA,hf];exact AW);let⟨sl,e⟩:=I.base.slot L o ho (I.ok.frf L hL) hL λz=>I.ok.exfs L z hL;exact⟨hk,⟨L,_,hf,hn,e,hd⟩,ih (λb hb=>hs b (by unfold frs;rw[CA,hf];exact AK _ hb)) hr⟩
 exact all X.outer (λ_ hb=>hb) I.ok.funs
theorem Inv.stack(I:Inv X π σ H s):s.heap.FunFrames X.base X.stack:=by
 rcases I.ok.stk with e|⟨e,hf⟩
 .rw[e];exact I.funs
 .rw[e];let⟨m,hn,_⟩:=I.loc;refine .cons (by rw[I.ok.kind];decide) hf hn ?_ I.funs;exact Heap.get?_none_of_le (Az I.ok.bsz I.ok.above)
theorem Inv.stkSub(I:Inv X π σ H s):∀b∈frs X.stack,b∈X.env.locals::X.fs:=λb hb=>by
 rcases I.ok.stk with e|⟨e,hf⟩
 .rw[e]at hb;exact AK _ hb
 .rw[e]at hb;unfold frs at hb;rw[CA,hf]at hb;exact hb
theorem Inv.stkFree(I:Inv X π σ H s):∀b∈frs X.stack,H b=none:=λb hb=>by
 rcases A8.mp (I.stkSub b hb)with e|hb
 .rw[e];exact I.free
 .let⟨_,o,ho,_⟩:=I.ok.funs.mem hb;exact I.base.free b o ho (I.ok.frf b hb) λz=>I.ok.exfs b z hb
theorem Inv.step{g':Array GenState}{t':Nat}{d':Drawn}{ch:List AG}(I:Inv X π σ H s)
  (hch:∀b∈ch,(b∈X.ex \/ X.s₀.heap.objs.size<=b)/\b≠X.env.locals/\(∀x c,X.env.cells.lookup x=AA c->c≠b)/\∀p∈X.pn++π,p.1≠b)
  (keep:∀b o,b≠X.env.locals->b∉X.fs->b∉ch->s.heap.get? b=AA o->H b=AB->h'.get? b=AA o)
  (slot:∀b o,b≠X.env.locals->b∈X.fs->b∉ch->s.heap.get? b=AA o->H b=AB->∃sl,h'.get? b=AA {o with slots:=sl}) (free:∀b o,b∉ch->s.heap.get? b=AA o->H b=AB->H' b=AB)
  (there:∀b o,b∉ch->s.heap.get? b=AA o->∃o',h'.get? b=AA o')
  (tups:∀b xs,H b=AA (.tup xs)->H' b=AA (.tup xs)) (frzs:∀b o u,H b=AA (.frz o u)->H' b=AA (.frz o u)) (tbls:∀b ps,H b=AA (.tbl ps)->∃more,H' b=AA (.tbl (ps++more)))
  (ns:∀m,s.heap.Ns X.env.locals m->h'.Ns X.env.locals m) (hok:HOk X.prog X.w H' h') (hg:Cu g'):
  Inv X π σ H' {s with heap:=h',gens:=g',drawn:=d',toks:=t'}:=by
 have neL:∀b o,X.s₀.heap.get? b=AA o->b≠X.env.locals:=λb o e=>Ac (AZ (AT e) I.ok.above);have neC:∀b o,X.s₀.heap.get? b=AA o->b∉X.ex->b∉ch:=λb o e hx hb=>by
  rcases (hch b hb).1 with z|z
  .exact hx z
  .exact absurd (AZ (AT e) z) (Bb _)
 have cellK:∀x c,X.env.cells.lookup x=AA c->∀v,s.heap.IsCell c v->h'.IsCell c v:=λx c e v ⟨o,ho,hd⟩=>by
  have nch:c∉ch:=λz=>(hch c z).2.2.1 x c e rfl
  by_cases hc:c∈X.fs
  .let⟨sl,q⟩:=slot c o (I.cne x c e) hc nch ho (I.freeC x c e);exact⟨_,q,hd⟩
  .exact⟨o,keep c o (I.cne x c e) hc nch ho (I.freeC x c e),hd⟩
 refine⟨I.ok,I.os,hg,⟨λb o e n hb hx=>?_,λb o e n hb hx=>?_,λb o e n hx=>?_,λb o e hx=>?_,λb xs e=>tups b xs (I.base.tups b xs e),λb o xs e=>frzs b o xs (I.base.frzs b o xs e),λb ps e=>?_⟩,?_,λx c e=>?_,?_,λx c e=>?_,λp hp=>?_,hok,I.len⟩
 .exact keep b o (neL b o e) hb (neC b o e hx) (I.base.keep b o e n hb hx) (I.base.free b o e n hx)
 .let⟨sl,e1⟩:=I.base.slot b o e n hb hx;let⟨sl',e2⟩:=slot b _ (neL b o e) hb (neC b o e hx) e1 (I.base.free b o e n hx);exact⟨sl',e2⟩
 .let⟨o',e1⟩:=I.base.there b o e hx;exact free b o' (neC b o e hx) e1 (I.base.free b o e n hx)
 .let⟨o',e1⟩:=I.base.there b o e hx;exact there b o' (neC b o e hx) e1
 .let⟨m1,e1⟩:=I.base.tbls b ps e;let⟨m2,e2⟩:=tbls b _ e1;exact⟨m1++m2,by rw[e2,DJ]⟩
 .let⟨m,hn,hl⟩:=I.loc;refine⟨m,ns m hn,λi x v e1 e2 e3=>?_⟩;let⟨u,r,l⟩:=hl i x v e1 e2 e3;refine⟨u,r,?_⟩;rcases l with l|⟨k,c,e,z⟩
  .exact .inl l
  .exact .inr ⟨k,c,e,cellK x c e _ z⟩
 .let⟨v,z⟩:=I.cell x c e;exact⟨v,cellK x c e v z⟩
 .let⟨m,⟨o,_,_,ho,_⟩,_⟩:=I.loc;exact free _ o (λz=>(hch _ z).2.1 rfl) ho I.free
 .let⟨v,o,ho,hd⟩:=I.cell x c e;exact free c o (λz=>(hch c z).2.2.1 x c e rfl) ho (I.freeC x c e)
 .let⟨e,n,ne,nf,d⟩:=I.pin p hp;have nch:p.1∉ch:=λz=>(hch p.1 z).2.2.2 p hp rfl;exact⟨keep p.1 p.2 ne nf nch e n,free p.1 p.2 nch e n,ne,nf,d⟩
theorem Inv.un{t':Nat}(I:Inv X π σ H s)(u:Un X.fs [] H H' s.heap h')(hok:HOk X.prog X.w H' h'):Inv X π σ H' {s with heap:=h',toks:=t'}:=by
 let⟨m,⟨o,es,ep,ho,r⟩,_⟩:=id I.loc;let⟨sl,hL⟩:=u.any ho I.free (by simp);exact I.step (g':=s.gens) (d':=s.drawn) (ch:=[]) (λ_ z=>nomatch z) (λb o _ hb _ e n=>u.keep b o e n hb (by simp)) (λb o _ hb _ e n=>u.slot b o e n hb (by simp)) (λb o _ e n=>u.free b o e n (by simp)) (λb o _ e=>u.there b o e (by simp)) u.tups u.frzs u.tbls (λm' hm=>by
  let⟨o',es',ep',ho',r'⟩:=hm;rw[ho]at ho';cases ho';exact⟨_,es',ep',hL,r'⟩) hok I.bare
theorem Inv.call{g':Array GenState}{t':Nat}{d':Drawn}{ch:List AG}(I:Inv X π σ H s)(u:Un (frs X.stack) ch H H' s.heap h')(hok:HOk X.prog X.w H' h')(hg:Cu g')
  (hch:∀b∈ch,(b∈X.ex \/ X.s₀.heap.objs.size<=b)/\b≠X.env.locals/\(∀x c,X.env.cells.lookup x=AA c->c≠b)/\∀p∈X.pn++π,p.1≠b):
  Inv X π σ H' {s with heap:=h',gens:=g',drawn:=d',toks:=t'}:=by
 let⟨m,⟨o,es,ep,ho,r⟩,_⟩:=id I.loc;let⟨sl,hL⟩:=u.any ho I.free λz=>(hch _ z).2.1 rfl;exact I.step (ch:=ch) hch (λb o hL hb hc e n=>u.keep b o e n (λz=>(A8.mp (I.stkSub b z)).elim hL hb) hc) (λb o _ _ hc e n=>u.any e n hc) (λb o hc e n=>u.free b o e n hc) (λb o hc e=>u.there b o e hc) u.tups u.frzs u.tbls (λm' hm=>by
  let⟨o',es',ep',ho',r'⟩:=hm;rw[ho]at ho';cases ho';exact⟨_,es',ep',hL,r'⟩) hok hg
theorem Inv.turned{t':Nat}{it:AG}(I:Inv X π σ H s)(k:∀b o,b≠it->s.heap.get? b=AA o->h'.get? b=AA o)(hn:H it=AB)(hL:it≠X.env.locals)
  (h1:it∈X.ex \/ X.s₀.heap.objs.size<=it) (h2:∀x c,X.env.cells.lookup x=AA c->c≠it) (h3:∀p∈X.pn++π,p.1≠it):Inv X π σ H {s with heap:=h',toks:=t'}:=by
 have nit:∀b u,H b=AA u->b≠it:=λb u e z=>by rw[z,hn]at e;cases e
 refine I.step (g':=s.gens) (d':=s.drawn) (ch:=[it]) (λb hb=>?_) (λb o _ _ hc e _=>k b o (λz=>hc (by simp[z])) e) (λb o _ _ hc e _=>⟨o.slots,k b o (λz=>hc (by simp[z])) e⟩) (λ_ _ _ _ n=>n)
  (λb o hc e=>⟨o,k b o (λz=>hc (by simp[z])) e⟩) (λ_ _ e=>e) (λ_ _ _ e=>e) (λb ps e=>⟨#[],by rw[e];simp⟩) (λm hm=>?_) (λb u e=>?_) I.bare
 .have e:b=it:=by simpa using hb
  subst e;exact⟨h1,hL,h2,h3⟩
 .let⟨o,es,ep,ho,r⟩:=hm;exact⟨o,es,ep,k _ o (BI hL) ho,r⟩
 .refine(I.hok b u e).stay (λc v hc q=>k c v ?_ q) (λ_ q=>q) λ_ _ q=>q;rcases hc with z|z
  .rw[z];exact nit b u e
  .exact nit c _ z
theorem Inv.tok(I:Inv X π σ H s)(t:Nat):Inv X π σ H {s with toks:=t}:=I.un (h':=s.heap) (t':=t) Un.refl I.hok
theorem Inv.kept{t':Nat}(I:Inv X π σ H s)(k:∀b u,s.heap.get? b=AA u->h'.get? b=AA u):Inv X π σ H {s with heap:=h',toks:=t'}:=I.un (Un.kept k) (I.hok.kept k)
theorem Inv.laid{a:AG}{o:HO}{t':Nat}(I:Inv X π σ H s)(k:∀b u,s.heap.get? b=AA u->h'.get? b=AA u)(hp:s.heap.objs.size<=a)(new:yH X.prog X.w (upd H a o) h' a o):
  Inv X π σ (upd H a o) {s with heap:=h',toks:=t'}:=I.un (Un.laid k hp (I.hok.fresh hp)) (I.hok.laid k hp new)
theorem Inv.write{x e:AG}{o:HO}{t':Nat}(I:Inv X π σ H s)(mu:Mut (H x))(he:e=x \/ H e=AA (.own x))(k:∀b u,b≠e->s.heap.get? b=AA u->h'.get? b=AA u)(heo:∃u,h'.get? e=AA u)
  (new:yH X.prog X.w (upd H x o) h' x o):Inv X π σ (upd H x o) {s with heap:=h',toks:=t'}:=I.un (Un.write mu he k heo) (I.hok.write mu he k heo new)
theorem Inv.pins_of{pins':List (AG×BW)}(I:Inv X π σ H s)(h:∀p∈pins',s.heap.get? p.1=AA p.2/\H p.1=AB/\p.1≠X.env.locals/\p.1∉X.fs/\∀v,p.2.data ≠ .cell v):Inv X pins' σ H s:=
 ⟨I.ok,I.os,I.bare,I.base,I.loc,I.cell,I.free,I.freeC,λp hp=>(Aw.mp hp).elim (λz=>I.pin p (EL _ z)) (h p),I.hok,I.len⟩
def zc2{N:List AM}(hN:N.Nodup){i j:Nat}{x:AM}(a:N[i]?=AA x)(b:N[j]?=AA x):i=j:=by
 let⟨h1,e1⟩:=Ae.mp a;let⟨h2,e2⟩:=Ae.mp b;exact(List.getElem_inj hN).mp (e1.trans e2.symm)
def zdS{M:Fp}{A:A5}{E:AF->AH->Prop}{i:Nat}{x:AM}{v:V}{u:AF}{Q:Unit->AH->Prop}(I:Inv X π σ H s)(hN:X.N.Nodup)(hi:X.N[i]?=AA x)(hx:Loc X.env.scope x)(r:RelV v u)
  (h:∀s',Inv X π (σ.set i (AA v)) H s'->(∃a,B9 a s.heap s'.heap/\(a=X.env.locals \/ X.env.cells.lookup x=AA a))->Q () s') (hf:X.fn x=AC \/ X.env.scope.names.lookup x=AA .local:=by first|exact .inl rfl|exact .inr rfl|assumption):A2 M A (storeName X.env x u) Q E s:=by
 let⟨m,hn,hl⟩:=id I.loc;have hcls:(X.env.scope.kind==.class || (X.env.scope.kind==.module&&X.env.locals != X.env.globals))=false:=by rw[I.ok.kind];rfl
 have hiσ:i<σ.length:=by rw[I.len];exact(Ae.mp hi).1
 have cne:=I.cne;have tracked:∀{a:AG} {h':Ao},(∃o,s.heap.get? a=AA o/\H a=AB)->B9 a s.heap h'->HOk X.prog X.w H h':=λ{a h'} ha hs b ob e=>by
  let⟨_,_,hfree⟩:=ha;refine(I.hok b ob e).stay (λc w' hc q=>(hs.2 c ?_).trans q) (λ_ q=>q) λ_ _ q=>q
  rintro rfl
  rcases hc with rfl|hc
  .rw[hfree]at e;cases e
  .rw[hfree]at hc;cases hc
 rcases hx with hk|hk
 .refine wpAny_storeName_local hk hn (λh' hn' hs=>?_) hcls;let⟨oL,_,_,hoL,_⟩:=id hn;refine h _ ⟨I.ok,I.os,I.bare,⟨λb o e n hb hx=>?_,λb o e n hb hx=>?_,I.base.free,λb o e hx=>?_,I.base.tups,I.base.frzs,I.base.tbls⟩,⟨_,hn',λj y v' e1 e2 e3=>?_⟩,λy c e=>?_,I.free,I.freeC,λp hp=>?_,tracked ⟨oL,hoL,I.free⟩ hs,by simpa using I.len⟩ ⟨_,hs,.inl rfl⟩
  .exact(hs.2 b (Ac (AZ (AT e) I.ok.above))).trans (I.base.keep b o e n hb hx)
  .let⟨sl,e1⟩:=I.base.slot b o e n hb hx;exact⟨sl,(hs.2 b (Ac (AZ (AT e) I.ok.above))).trans e1⟩
  .let⟨o',e1⟩:=I.base.there b o e hx;exact⟨o',(hs.2 b (Ac (AZ (AT e) I.ok.above))).trans e1⟩
  .by_cases hj:j=i
   .subst hj;rw[hi]at e1;cases e1;rw[Aa hiσ]at e2
    cases e2
    exact⟨u,r,.inl ⟨hk,by simp⟩⟩
   .rw[A3 (BI hj)]at e2;let⟨u',r',q⟩:=hl j y v' e1 e2 e3;refine⟨u',r',?_⟩;rcases q with⟨k,e⟩|⟨k,c,e,z⟩
    .refine .inl ⟨k,?_⟩;have:y≠x:=λe=>hj (zc2 hN e1 (e ▸ hi));simp[this,e]
    .exact .inr ⟨k,c,e,z.sameBut hs (cne y c e)⟩
  .let⟨w',z⟩:=I.cell y c e;exact⟨w',z.sameBut hs (cne y c e)⟩
  .let⟨e,n,ne,nf,d⟩:=I.pin p hp;exact⟨(hs.2 p.1 ne).trans e,n,ne,nf,d⟩
 .have hfn:X.fn x=true:=by
   rcases hf with z|z
   .exact z
   .rw[z]at hk;cases hk
  let⟨c,hc⟩:=I.ok.has x (.inl hk);let⟨w',z⟩:=I.cell x c hc;refine wpAny_storeName_cell I.ok.kind hk hc z (λh' hc' hs=>?_);let⟨oc,hoc,hocd⟩:=id z;refine h {s with heap:=h'} ⟨I.ok,I.os,I.bare,⟨λb o e n hb hx=>?_,λb o e n hb hx=>?_,I.base.free,λb o e hx=>?_,I.base.tups,I.base.frzs,I.base.tbls⟩,⟨m,hn.sameBut hs (BI (cne x c hc)),λj y v' e1 e2 e3=>?_⟩,λy c' e=>?_,I.free,I.freeC,λp hp=>?_,tracked ⟨oc,hoc,I.freeC x c hc⟩ hs,by simpa using I.len⟩ ⟨c,hs,.inr hc⟩
  .exact(hs.2 b (Ac (AZ (AT e) (I.ok.cab x c hfn hc)))).trans (I.base.keep b o e n hb hx)
  .let⟨sl,e1⟩:=I.base.slot b o e n hb hx;exact⟨sl,(hs.2 b (Ac (AZ (AT e) (I.ok.cab x c hfn hc)))).trans e1⟩
  .let⟨o',e1⟩:=I.base.there b o e hx;exact⟨o',(hs.2 b (Ac (AZ (AT e) (I.ok.cab x c hfn hc)))).trans e1⟩
  .by_cases hj:j=i
   .subst hj;rw[hi]at e1;cases e1;rw[Aa hiσ]at e2
    cases e2
    exact⟨u,r,.inr ⟨.inl hk,c,hc,hc'⟩⟩
   .rw[A3 (BI hj)]at e2;let⟨u',r',q⟩:=hl j y v' e1 e2 e3;refine⟨u',r',?_⟩;rcases q with q|⟨k,c',e,z'⟩
    .exact .inl q
    .refine .inr ⟨k,c',e,z'.sameBut hs ?_⟩
     rintro rfl
     exact hj (zc2 hN e1 (I.ok.inj _ _ _ e hc ▸ hi))
  .by_cases hcc:c'=c
   .subst hcc;exact⟨_,hc'⟩
   .let⟨w2,z2⟩:=I.cell y c' e;exact⟨w2,z2.sameBut hs hcc⟩
  .let⟨e,n,ne,nf,d⟩:=I.pin p hp;refine⟨(hs.2 p.1 ?_).trans e,n,ne,nf,d⟩;intro q;rw[q,hoc]at e;have q':oc=p.2:=AU e;exact d w' (by rw[<-q'];exact hocd)
def zK{M:Fp}{A:A5}{E:AF->AH->Prop}{i:Nat}{x:AM}{v:V}{u:AF}{Q:Unit->AH->Prop}(I:Inv X π σ H s)(hN:X.N.Nodup)(hi:X.N[i]?=AA x)(hx:Loc X.env.scope x)(r:RelV v u)
  (h:∀s',Inv X π (σ.set i (AA v)) H s'->Q () s') (hf:X.fn x=AC \/ X.env.scope.names.lookup x=AA .local:=by first|exact .inl rfl|exact .inr rfl|assumption):A2 M A (storeName X.env x u) Q E s:=
 zdS I hN hi hx r (λs' I' _=>h s' I') hf
theorem Inv.call'{s':AH}{ch:List AG}(I:Inv X π σ H s)(ho:s'.os=s.os)(u:Un (frs X.stack) ch H H' s.heap s'.heap)(hok:HOk X.prog X.w H' s'.heap)(hg:Cu s'.gens)
  (hch:∀b∈ch,(b∈X.ex \/ X.s₀.heap.objs.size<=b)/\b≠X.env.locals/\(∀x c,X.env.cells.lookup x=AA c->c≠b)/\∀p∈X.pn++π,p.1≠b):Inv X π σ H' s':=by
 let⟨h',g',d',t',o'⟩:=s';have e:o'=s.os:=ho;subst e;exact I.call (g':=g') (t':=t') (d':=d') u hok hg hch
end
abbrev XK:=AF->Option AG->Hp->Prop
abbrev St:=List (Option V)
abbrev VK:=V->Hp->Prop
abbrev TE:=St->Hp->VK->Prop
abbrev TT:=St->Hp->(Bool->Hp->Prop)->Prop
abbrev TA:=St->Hp->(List V->Hp->Prop)->Prop
structure Ends where
 nx:St->Hp->Prop
 rt:VK
 bk:St->Hp->Prop:=λ_ _=>False
 ct:St->Hp->Prop:=λ_ _=>False
abbrev TS:=Ends->St->Hp->Prop
def EP(X:Cx)(π:List (AG×BW))(σ:St)(Q:VK)(u:AF)(s':AH):Prop:=∃v H',Inv X π σ H' s'/\RelV v u/\Q v H'
def TP(X:Cx)(π:List (AG×BW))(σ:St)(Q:Bool->Hp->Prop)(b:Bool)(s':AH):Prop:=∃H',Inv X π σ H' s'/\Q b H'
def AP(X:Cx)(π:List (AG×BW))(σ:St)(Q:List V->Hp->Prop)(us:List AF)(s':AH):Prop:=∃vs H',Inv X π σ H' s'/\Vals vs us/\Q vs H'
def SP(X:Cx)(π:List (AG×BW))(D:Ends)(f:Flow)(s':AH):Prop:=
 match f with
 |.next=>∃σ' H',Inv X π σ' H' s'/\D.nx σ' H'
 |.brk=>∃σ' H',Inv X π σ' H' s'/\D.bk σ' H'
 |.cont=>∃σ' H',Inv X π σ' H' s'/\D.ct σ' H'
 |.ret u=>∃v σ' H',Inv X π σ' H' s'/\RelV v u/\D.rt v H'
def PE(X:Cx)(e:AL)(t:TE):Prop:=
 ∀(π:List (AG×BW)) (s:AH) (σ:St) (H:Hp) (Q:VK),Inv X π σ H s->t σ H Q->A2 (model X.prog X.w) X.A (eval e X.env) (EP X π σ Q) X.xe s
def PT(X:Cx)(e:AL)(t:TT):Prop:=
 ∀(π:List (AG×BW)) (s:AH) (σ:St) (H:Hp) (Q:Bool->Hp->Prop),Inv X π σ H s->t σ H Q->A2 (model X.prog X.w) X.A (isTrue e X.env (eval e X.env)) (TP X π σ Q) X.xe s
def PW(X:Cx)(e:AL)(t:TT):Prop:=
 ∀(whole:FH AF) (π:List (AG×BW)) (s:AH) (σ:St) (H:Hp) (Q:Bool->Hp->Prop),Inv X π σ H s->t σ H Q->A2 (model X.prog X.w) X.A (isTrue e X.env whole) (TP X π σ Q) X.xe s
theorem PW.pt{X:Cx}{e:AL}{t:TT}(h:PW X e t):PT X e t:=h _
def PA(X:Cx)(es:List AL)(t:TA):Prop:=
 ∀(pos:BX) (π:List (AG×BW)) (s:AH) (σ:St) (H:Hp) (Q:List V->Hp->Prop),Inv X π σ H s->t σ H Q->A2 (model X.prog X.w) X.A (spliced (backTo pos (starEach es X.env))) (AP X π σ Q) X.xe s
def PS(X:Cx)(st:B8)(t:TS):Prop:=
 ∀(π:List (AG×BW)) (s:AH) (σ:St) (H:Hp) (D:Ends),Inv X π σ H s->t D σ H->A2 (model X.prog X.w) X.A (exec st X.env) (SP X π D) X.xe s
def PSs(X:Cx)(st:List B8)(t:TS):Prop:=
 ∀(π:List (AG×BW)) (s:AH) (σ:St) (H:Hp) (D:Ends),Inv X π σ H s->t D σ H->A2 (model X.prog X.w) X.A (execs st X.env) (SP X π D) X.xe s
theorem thn{α:Type}{t:FH α}{Q Q':α->AH->Prop}{M:Fp}{A:A5}{E:AF->AH->Prop}{s:AH}(h:A2 M A t Q E s)(hQ:∀a s,Q a s->Q' a s):A2 M A t Q' E s:=BD h hQ λ_ _ x=>x
section
variable {X:Cx}
def ye2(i:Nat):TE:=λσ H Q=>∃v,σ[i]?=AA (AA v)/\Q v H
def tC(v:V):TE:=λ_ H Q=>Q v H
def zgw{i:Nat}{x:AM}{pos:BX}(hN:X.N[i]?=AA x)(hv:Vis X.env.scope x)(hd:(x==("__debug__":AM))=false:=by decide)(hcd:(x==("__classdict__":AM))=false:=by decide):PE X (.Name x pos) (ye2 i):=by
 intro π s σ H Q I h;let⟨v,e,h⟩:=h;let⟨m,hn,hl⟩:=I.loc;let⟨u,r,l⟩:=hl i x v hN e hv;have fin:EP X π σ Q u s:=⟨v,H,I,r,h⟩;rcases l with⟨hk,hm⟩|⟨hk,c,hc,hcell⟩
 .exact F4 (EM I.ok.kind hk hn hm fin) hd
 .rcases hk with hk|hk
  .exact F4 (EY I.ok.kind hk hc hcell fin) hd
  .exact F4 (wpAny_loadName_free I.ok.kind hk hc hcell fin hcd) hd
def zkX{i j pos}:PE X (.Constant (.int i) j pos) (tC (.int i)):=λ_ _ _ H _ I h=>wpAny_Constant_int ⟨.int i,H,I.tok _,⟨_,rfl⟩,h⟩
def zkY{b j pos}:PE X (.Constant (.bool b) j pos) (tC (.bl b)):=λ_ _ _ H _ I h=>Constant_bool ⟨.bl b,H,I,rfl,h⟩
def zkZ{j pos}:PE X (.Constant .none j pos) (tC .non):=λ_ _ _ H _ I h=>Constant_none ⟨.non,H,I,rfl,h⟩
def zkK{x j pos}:PE X (.Constant (.str x) j pos) (tC (.str x)):=λ_ _ _ H _ I h=>Calls.Constant_str ⟨.str x,H,I.tok _,⟨_,rfl⟩,h⟩
def Gl(X:Cx)(x:AM):Prop:=X.env.kindOf x=AA .globalImplicit
def zaP{E:AF->AH->Prop}{π:List (AG×BW)}{s:AH}{σ:St}{H:Hp}{x:AM}{u:AF}{pos:BX}{Q:AF->AH->Prop}(I:Inv X π σ H s)(hg:Gl X x)(hm:X.mg x=AA u)(h:Q u s)
  (hd:(x==("__debug__":AM))=false:=by decide):A2 (model X.prog X.w) X.A (eval (.Name x pos) X.env) Q E s:=
 DL I.ok.kind hg (Calls.loadGlobal_global (by rw[I.ok.glob];exact I.mod.glob.keeps I.bk) hm h) hd
def zbG{E:AF->AH->Prop}{π:List (AG×BW)}{s:AH}{σ:St}{H:Hp}{x:AM}{u:AF}{pos:BX}{Q:AF->AH->Prop}(I:Inv X π σ H s)(hg:Gl X x)(hm:X.mg x=AB)(hv:bootBuiltins x=AA u)(h:Q u s)
  (hn:x ≠ "__name__":=by decide) (hd:(x==("__debug__":AM))=false:=by decide):A2 (model X.prog X.w) X.A (eval (.Name x pos) X.env) Q E s:=by
 let⟨mb,h1,h2⟩:=I.mod.blt;exact DL I.ok.kind hg (Calls.loadGlobal_builtin (by rw[I.ok.glob];exact I.mod.glob.keeps I.bk) hm (by rw[I.ok.blt];exact h1.keeps I.bk) ((h2 x hn).trans hv) h) hd
def zcc{x:AM}{v:V}{u:AF}{pos:BX}(hg:Gl X x)(hm:X.mg x=AA u)(r:RelV v u)(hd:(x==("__debug__":AM))=false:=by decide):PE X (.Name x pos) (tC v):=
 λ_ _ _ H _ I h=>zaP I hg hm ⟨v,H,I,r,h⟩ hd
def zhJ{x:AM}{v:V}{u:AF}{pos:BX}(hg:Gl X x)(hm:X.mg x=AB)(hv:bootBuiltins x=AA u)(r:RelV v u)(hn:x ≠ "__name__":=by decide)(hd:(x==("__debug__":AM))=false:=by decide):PE X (.Name x pos) (tC v):=
 λ_ _ _ H _ I h=>zbG I hg hm hv ⟨v,H,I,r,h⟩ hn hd
variable {a b:AL}{ta tb:TE}{pos:BX}
variable {tA tB':TT}{rest:List AL}
def ygt(t u:TT):TT:=λσ H Q=>t σ H λc H1=>if c=AC then u σ H1 Q else Q AE H1
def tOr(t u:TT):TT:=λσ H Q=>t σ H λc H1=>if c=AC then Q AC H1 else u σ H1 Q
def ygj(t:TT):TT:=λσ H Q=>t σ H λc H1=>Q (!c) H1
def zh1(ha:PT X a tA):PW X (.BoolOp .And [a] pos) tA:=by
 intro wh π s σ H Q I h;refine isTrue_and (thn (ha π s σ H Q I h) λc s1 e=>?_)
 cases c with
 |true=>exact isTrue_and_nil e
 |false=>exact e
def ziS(ha:PT X a tA):PW X (.BoolOp .Or [a] pos) tA:=by
 intro wh π s σ H Q I h;refine isTrue_or (thn (ha π s σ H Q I h) λc s1 e=>?_)
 cases c with
 |false=>exact isTrue_or_nil e
 |true=>exact e
def zi8(ha:PT X a tA)(hb:PW X (.BoolOp .And (b::rest) pos) tB'):PW X (.BoolOp .And (a::b::rest) pos) (ygt tA tB'):=by
 intro wh π s σ H Q I h;refine isTrue_and (thn (ha π s σ H _ I h) λc s1 kq=>?_);let⟨H1,I1,q1⟩:=kq
 cases c with
 |true=>exact hb wh π s1 σ H1 Q I1 q1
 |false=>exact⟨H1,I1,q1⟩
def zkn(ha:PT X a tA)(hb:PW X (.BoolOp .Or (b::rest) pos) tB'):PW X (.BoolOp .Or (a::b::rest) pos) (tOr tA tB'):=by
 intro wh π s σ H Q I h;refine isTrue_or (thn (ha π s σ H _ I h) λc s1 kq=>?_);let⟨H1,I1,q1⟩:=kq
 cases c with
 |true=>exact⟨H1,I1,q1⟩
 |false=>exact hb wh π s1 σ H1 Q I1 q1
def zja(ha:PT X a tA):PT X (.UnaryOp .Not a pos) (ygj tA):=by
 intro π s σ H Q I h;exact isTrue_not (ha π s σ H (λc H1=>Q (!c) H1) I h)
def ydW(ta tb:TE):TE:=λσ H Q=>ta σ H λx H1=>∃c,x=.bl c/\if c=AC then tb σ H1 Q else Q (.bl AE) H1
def yfD(ta tb:TE):TE:=λσ H Q=>ta σ H λx H1=>∃c,x=.bl c/\if c=AC then Q (.bl AC) H1 else tb σ H1 Q
def ydV(ta:TE):TE:=λσ H Q=>ta σ H λx H1=>∃c,x=.bl c/\Q (.bl (!c)) H1
def zij{op}{t:TE}(h:PE X a t):PE X (.BoolOp op [a] pos) t:=λπ s σ H Q I hw=>BoolOp_one (h π s σ H Q I hw)
def zjW(ha:PE X a ta)(hb:PE X (.BoolOp .And (b::rest) pos) tb):PE X (.BoolOp .And (a::b::rest) pos) (ydW ta tb):=by
 intro π s σ H Q I h;refine BoolOp_and (thn (ha π s σ H _ I h) λv s1 kq=>?_);let⟨x,H1,I1,r1,q1⟩:=kq;let⟨c,rfl,q1⟩:=q1
 cases r1
 refine Bs ?_
 cases c with
 |true=>exact hb π s1 σ H1 Q I1 q1
 |false=>exact⟨.bl AE,H1,I1,rfl,q1⟩
def zku(ha:PE X a ta)(hb:PE X (.BoolOp .Or (b::rest) pos) tb):PE X (.BoolOp .Or (a::b::rest) pos) (yfD ta tb):=by
 intro π s σ H Q I h;refine BoolOp_or (thn (ha π s σ H _ I h) λv s1 kq=>?_);let⟨x,H1,I1,r1,q1⟩:=kq;let⟨c,rfl,q1⟩:=q1
 cases r1
 refine Bs ?_
 cases c with
 |false=>exact hb π s1 σ H1 Q I1 q1
 |true=>exact⟨.bl AC,H1,I1,rfl,q1⟩
def zjp(ha:PE X a ta):PE X (.UnaryOp .Not a pos) (ydV ta):=by
 intro π s σ H Q I h;refine UnaryOp_ (thn (ha π s σ H _ I h) λv s1 kq=>?_);let⟨x,H1,I1,r1,q1⟩:=kq;let⟨c,rfl,q1⟩:=q1
 cases r1
 exact not_of (Bs ⟨.bl (!c),H1,I1,rfl,q1⟩)
def tIf(t:TT)(ta tb:TE):TE:=λσ H Q=>t σ H λc H1=>if c=AC then ta σ H1 Q else tb σ H1 Q
def zfI{c:AL}(hc:PT X c tA)(ha:PE X a ta)(hb:PE X b tb):PE X (.IfExp c a b pos) (tIf tA ta tb):=by
 intro π s σ H Q I h;refine wpAny_IfExp (thn (hc π s σ H _ I h) λd s1 kq=>?_);let⟨H1,I1,q1⟩:=kq
 cases d with
 |true=>exact ha π s1 σ H1 Q I1 q1
 |false=>exact hb π s1 σ H1 Q I1 q1
end
def SqL(K:AD)(H:Hp)(a:AG)(xs:List V):Prop:=
 Rd H a (.lst xs) \/
  ∃(o:BW) (its:Array AF) (n:Nat),K.lookup a=AA o/\o.cls=.type "list"/\o.dict=AB/\o.data=.seq its n/\its.size<=sizeLine/\Vals xs its.toList
def SqT(K:AD)(H:Hp)(a:AG)(xs:List V):Prop:=
 Rd H a (.tup xs) \/
  ∃(o:BW) (its:Array AF) (n:Nat),K.lookup a=AA o/\o.cls=.type "tuple"/\o.data=.seq its n/\its.size<=sizeLine/\Vals xs its.toList
def yfh:AF->Option V
 |.none=>AA .non
 |.bool b=>AA (.bl b)
 |.int i _=>AA (.int i)
 |.str x _=>AA (.str x)
 |.bytes b _=>AA (.byt b)
 |.float b _=>AA (.flt b)
 |.ref a=>AA (.ref a)
 |.type n=>AA (.ty n)
 |_=>AB
theorem RelV.abs{x:V}{u:AF}(r:RelV x u):yfh u=AA x:=by
 cases x with
 |non=>cases r;rfl
 |bl _=>cases r;rfl
 |int _=>let⟨t,rfl⟩:=r;rfl
 |str _=>let⟨t,rfl⟩:=r;rfl
 |byt _=>let⟨t,rfl⟩:=r;rfl
 |flt _=>let⟨t,rfl⟩:=r;rfl
 |ref _=>cases r;rfl
 |ty _=>cases r;rfl
theorem RelV.inj{x y:V}{u:AF}(r:RelV x u)(q:RelV y u):x=y:=AU (r.abs.symm.trans q.abs)
theorem Vals.inj:∀{xs ys:List V} {us:List AF},Vals xs us->Vals ys us->xs=ys
 |_,_,_,.nil,.nil=>rfl
 |_,_,_,.cons r t,.cons r' t'=>by rw[r.inj r',Vals.inj t t']
section
variable {X:Cx}{π:List (AG×BW)}{σ:St}{H:Hp}{s:AH}{a:AG}{xs ys:List V}
theorem SqL.of{K:AD}(h:H a=AA (.lst xs)):SqL K H a xs:=.inl (.inl h)
theorem Inv.list(I:Inv X π σ H s)(h:SqL X.K H a xs):∃its:List AF,Vals xs its/\PlainL s.heap a its.toArray/\xs.length<=sizeLine:=by
 rcases h with h|⟨o,its,n,hk,hc,hd,hs,hz,r⟩
 .let⟨z,its,n,r,e⟩:=h.ok I.hok;exact⟨its,r,⟨_,n,e,rfl,rfl,rfl⟩,z⟩
 .refine⟨its.toList,r,⟨o,n,I.kIn a o hk,hc,hd,by simpa using hs⟩,?_⟩;have e:=r.length;erw[DC]at e;lia
theorem Inv.tuple(I:Inv X π σ H s)(h:SqT X.K H a xs):∃its:List AF,Vals xs its/\IsTup s.heap a its.toArray/\xs.length<=sizeLine:=by
 rcases h with h|⟨o,its,n,hk,hc,hs,hz,r⟩
 .let⟨z,its,r,p⟩:=h.ok I.hok;exact⟨its,r,⟨_,p,rfl,_,rfl⟩,z⟩
 .refine⟨its.toList,r,⟨o,I.kIn a o hk,hc,n,by simpa using hs⟩,?_⟩;have e:=r.length;erw[DC]at e;lia
theorem Inv.list_inj(I:Inv X π σ H s)(h:SqL X.K H a xs)(h':SqL X.K H a ys):xs=ys:=by
 let⟨its,r,⟨o,n,e,_,_,d⟩,_⟩:=I.list h;let⟨its',r',⟨o',n',e',_,_,d'⟩,_⟩:=I.list h';rw[e]at e';cases e';rw[d]at d';injection d' with d1 _;have:its=its':=by simpa using congrArg Ei d1
 subst this;exact r.inj r'
theorem Inv.tuple_inj(I:Inv X π σ H s)(h:SqT X.K H a xs)(h':SqT X.K H a ys):xs=ys:=by
 let⟨its,r,⟨o,e,_,n,d⟩,_⟩:=I.tuple h;let⟨its',r',⟨o',e',_,n',d'⟩,_⟩:=I.tuple h';rw[e]at e';cases e';rw[d]at d';injection d' with d1 _;have:its=its':=by simpa using congrArg Ei d1
 subst this;exact r.inj r'
end
section
variable {X:Cx}{π:List (AG×BW)}{σ:St}{H:Hp}{s:AH}{E:AF->AH->Prop}
end
section
variable {X:Cx}{st:B8}{rest:List B8}{t u:TS}{e:AL}{te:TE}{pos:BX}
def ydo:TS:=λD σ H=>D.nx σ H
def ygm(t u:TS):TS:=λD σ H=>t {D with nx:=u D} σ H
def zk0:PSs X [] ydo:=λ_ _ σ H _ I h=>Cy ⟨σ,H,I,h⟩
def zcA(h1:PS X st t)(h2:PSs X rest u):PSs X (st::rest) (ygm t u):=by
 intro π s σ H D I h;refine FK (thn (h1 π s σ H {D with nx:=u D} I h) λf s1 q=>?_)
 cases f with
 |next=>
  let⟨σ',H',I',q⟩:=q;exact h2 π s1 σ' H' D I' q
 |ret v=>exact q
 |brk=>exact q
 |cont=>exact q
def zhr(h1:PS X st t):PSs X [st] t:=by
 intro π s σ H D I h;refine FK (thn (h1 π s σ H D I h) λf s1 q=>?_)
 cases f with
 |next=>exact Cy q
 |ret v=>exact q
 |brk=>exact q
 |cont=>exact q
theorem Inv.quiet{π:List (AG×BW)}{σ:St}{H:Hp}{s:AH}(I:Inv X π σ H s):interactive X.env=false:=by simp[interactive,I.ok.kind]
def ydJ(te:TE):TS:=λD σ H=>te σ H λ_ H1=>D.nx σ H1
def zhW(he:PE X e te)(hs:swapsWith e AB pos.line X.env=pure false:=by rfl):PS X (.Expr e pos) (ydJ te):=by
 intro π s σ H D I h;exact wpAny_Expr_any (thn (he π s σ H _ I h) λv s1 ⟨x,H1,I1,r1,q1⟩=>⟨σ,H1,I1,q1⟩) I.quiet hs
def yfX(te:TE):TS:=λD σ H=>te σ H D.rt
def zgg(he:PE X e te):PS X (.Return (AA e) pos) (yfX te):=by
 intro π s σ H D I h;exact wpAny_Return_some (thn (he π s σ H _ I h) λv s1 ⟨x,H1,I1,r1,q1⟩=>⟨x,σ,H1,I1,r1,q1⟩)
def ydZ:TS:=λD _ H=>D.rt .non H
def zk1:PS X (.Return AB pos) ydZ:=λ_ _ σ H _ I h=>wpAny_Return_none ⟨.non,σ,H,I,rfl,h⟩
def yfw(c:TT)(t u:TS):TS:=λD σ H=>c σ H λb H1=>if b=AC then t D σ H1 else u D σ H1
def zkp{c:AL}{a b:List B8}{tc:TT}(hc:PT X c tc)(ha:PSs X a t)(hb:PSs X b u):PS X (.If c a b pos) (yfw tc t u):=by
 intro π s σ H D I h;refine wpAny_If (thn (hc π s σ H _ I h) λd s1 kq=>?_);let⟨H1,I1,q1⟩:=kq
 cases d with
 |true=>exact ha π s1 σ H1 D I1 q1
 |false=>exact hb π s1 σ H1 D I1 q1
end
abbrev TG:=V->St->Hp->(St->Hp->Prop)->Prop
abbrev TGs:=List V->St->Hp->(St->Hp->Prop)->Prop
def PG(X:Cx)(target:AL)(t:TG):Prop:=
 ∀(π:List (AG×BW)) (s:AH) (σ:St) (H:Hp) (v:V) (u:AF) (Q:St->Hp->Prop),Inv X π σ H s->RelV v u->t v σ H Q ->
  A2 (model X.prog X.w) X.A (assign target X.env u) (λ_ s'=>∃σ' H',Inv X π σ' H' s'/\Q σ' H') X.xe s
def PGs(X:Cx)(ts:List AL)(t:TGs):Prop:=
 ∀(π:List (AG×BW)) (s:AH) (σ:St) (H:Hp) (vs:List V) (us:List AF) (Q:St->Hp->Prop),Inv X π σ H s->Vals vs us->t vs σ H Q ->
  A2 (model X.prog X.w) X.A (assignInOrder ((assignEach ts X.env).map (·.2)) us) (λ_ s'=>∃σ' H',Inv X π σ' H' s'/\Q σ' H') X.xe s
abbrev yeb:=V->V->V->Hp->(Hp->Prop)->Prop
def yeG(X:Cx)(t:yeb):Prop:=
 ∀(π:List (AG×BW)) (s:AH) (σ:St) (H:Hp) (o i v:V) (ov iv u:AF) (Q:Hp->Prop),Inv X π σ H s->RelV o ov->RelV i iv->RelV v u->t o i v H Q ->
  A2 (model X.prog X.w) X.A (setItem ov iv u) (λ_ s'=>∃H',Inv X π σ H' s'/\Q H') X.xe s
abbrev TIp:=V->V->Hp->VK->Prop
def PIp(X:Cx)(op:Db)(t:TIp):Prop:=
 ∀(π:List (AG×BW)) (s:AH) (σ:St) (H:Hp) (x y:V) (v u:AF) (Q:VK),Inv X π σ H s->RelV x v->RelV y u->t x y H Q ->
  A2 (model X.prog X.w) X.A (inplaceOp op v u) (EP X π σ Q) X.xe s
section
variable {X:Cx}{pos:BX}
def ybR(i:Nat):TG:=λv σ H Q=>Q (σ.set i (AA v)) H
def zey{i:Nat}{x:AM}(hN:X.N.Nodup)(hi:X.N[i]?=AA x)(hx:Loc X.env.scope x)(hf:X.fn x=AC \/ X.env.scope.names.lookup x=AA .local:=by first|exact .inl rfl|exact .inr rfl|assumption):PG X (.Name x pos) (ybR i):=by
 intro π s σ H v u Q I r h;exact El (zK I hN hi hx r (λs' I'=>⟨_,H,I',h⟩) hf)
def yf4:TGs:=λvs σ H Q=>vs=[]/\Q σ H
def yd2(t:TG)(u:TGs):TGs:=λvs σ H Q=>∃v r,vs=v::r/\t v σ H λσ' H'=>u r σ' H' Q
def zk2:PGs X [] yf4:=by
 intro π s σ H vs us Q I r h;let⟨e,h⟩:=h;subst e
 cases r
 exact Em ⟨σ,H,I,h⟩
def zfR{e:AL}{es:List AL}{t:TG}{u:TGs}(h1:PG X e t)(h2:PGs X es u)
  (hs:(assignEach (e::es) X.env).map (·.2)=assign e X.env::(assignEach es X.env).map (·.2):=by rfl):PGs X (e::es) (yd2 t u):=by
 intro π s σ H vs us Q I r h;let⟨v,vr,e1,h⟩:=h;subst e1
 cases r with
 |cons r rr=>
  rw[hs];refine DM (thn (h1 π s σ H _ _ _ I r h) λ_ s1 kq=>?_);let⟨σ1,H1,I1,q1⟩:=kq;exact h2 π s1 σ1 H1 _ _ Q I1 rr q1
def ye6(K:AD)(n:Nat)(t:TGs):TG:=λv σ H Q=>∃a xs,v=.ref a/\SqT K H a xs/\xs.length=n/\t xs σ H Q
def zjq{es:List AL}{k:Nat}{t:TGs}{n:Nat}(hc:X.calm=AC)(h:PGs X es t)
  (hn:(assignEach es X.env).length=n:=by rfl) (hst:(assignEach es X.env).findIdx? (·.1)=none:=by rfl):PG X (.Tuple es k pos) (ye6 X.K n t):=by
 intro π s σ H v u Q I r hw;let⟨a,xs,e1,hq,hl,hw⟩:=hw;subst e1
 cases r
 let⟨its,rv,ht,hz⟩:=I.tuple hq;refine assign_Tuple_tuple (I.ok.hd hc) ht (by simp[hn,<-hl,rv.length]) hst λh' hx=>?_;have I1:Inv X π σ H {s with heap:=h'}:=I.kept (t':=s.toks) λb o e=>hx b o (Ac (AT e)) e;exact h π _ σ H xs _ Q I1 (by simpa using rv) hw
def yew(to ti:TE)(t:yeb):TG:=λv σ H Q=>to σ H λo H1=>ti σ H1 λi H2=>t o i v H2 λH3=>Q σ H3
def zgO{o i:AL}{to ti:TE}{t:yeb}(ho:PE X o to)(hi:PE X i ti)(hs:yeG X t)
  (ha:∀v,assign (.Subscript o i pos) X.env v=(do
   let ov <-holding [v] (eval o X.env)
   let iv <-holding [v,ov] (eval i X.env)
   standAt pos
   holding [v,ov,iv] (setItem ov iv v)
   release [v,ov,iv] []):=by intro _;rfl):PG X (.Subscript o i pos) (yew to ti t):=by
 intro π s σ H v u Q I r h;rw[ha];refine AJ (Bu (thn (ho π s σ H _ I h) λov s1 kq=>?_));let⟨x,H1,I1,r1,q1⟩:=kq;refine AJ (Bu (thn (hi π s1 σ H1 _ I1 q1) λiv s2 kq=>?_));let⟨y,H2,I2,r2,q2⟩:=kq;refine AJ (BY (AJ (Bu (thn (hs π s2 σ H2 x y v ov iv u _ I2 r1 r2 r q2) λ_ s3 kq=>?_))));let⟨H3,I3,q3⟩:=kq;exact wpAny_release ⟨σ,H3,I3,q3⟩
def ydX(te:TE)(g:TG):TS:=λD σ H=>te σ H λx H1=>g x σ H1 D.nx
def zgD{tg e:AL}{te:TE}{g:TG}(he:PE X e te)(hg:PG X tg g)(hs:swapsWithSole [tg] e pos.line X.env=pure false:=by rfl)(hw:swappedStores [tg] e X.env=pure none:=by rfl)
  (h1:(assignEach [tg] X.env).map (·.2)=[assign tg X.env]:=by rfl):PS X (.Assign [tg] e pos) (ydX te g):=by
 intro π s σ H D I h;refine wpAny_Assign_stores (thn (he π s σ H _ I h) λv s1 kq=>?_) hs hw;let⟨x,H1,I1,r1,q1⟩:=kq;rw[h1];exact thn (hg π s1 σ H1 x v _ I1 r1 q1) λ_ s2 q=>q
def zgP{i:Nat}{x:AM}{e:AL}{te:TE}{pos':BX}(hN:X.N.Nodup)(hi:X.N[i]?=AA x)(hx:Loc X.env.scope x)(he:PE X e te)(hs:swapsWith e (AA (.Name x pos')) pos.line X.env=pure false:=by rfl)(hf:X.fn x=AC \/ X.env.scope.names.lookup x=AA .local:=by first|exact .inl rfl|exact .inr rfl|assumption):
  PS X (.Assign [.Name x pos'] e pos) (ydX te (ybR i)):=by
 intro π s σ H D I h;refine wpAny_Assign_Name (thn (he π s σ H _ I h) λv s1 kq=>?_) hs;let⟨y,H1,I1,r1,q1⟩:=kq;exact zK I1 hN hi hx r1 (λs2 I2=>⟨_,H1,I2,q1⟩) hf
def yeQ(i j:Nat)(ta:TA):TS:=λD σ H=>ta σ H λvs H1=>∃v w,vs=[v,w]/\D.nx ((σ.set i (AA v)).set j (AA w)) H1
def zjz{i j:Nat}{x y:AM}{a b:AL}{ta:TA}{px py pt:BX}{kt k2 pt2}(hc:X.calm=AC)(hN:X.N.Nodup)(hi:X.N[i]?=AA x)(hj:X.N[j]?=AA y)(hij:i≠j)
  (hx:X.env.scope.names.lookup x=AA .local) (hy:X.env.scope.names.lookup y=AA .local) (ha:PA X [a,b] ta)
  (hw:swappedStores [.Tuple [.Name x px,.Name y py] kt pt] (.Tuple [a,b] k2 pt2) X.env=pure (AA [x,y]))
  (hs:swapsWithSole [.Tuple [.Name x px,.Name y py] kt pt] (.Tuple [a,b] k2 pt2) pos.line X.env=pure false:=by rfl):
  PS X (.Assign [.Tuple [.Name x px,.Name y py] kt pt] (.Tuple [a,b] k2 pt2) pos) (yeQ i j ta):=by
 intro π s σ H D I h;rw[exec_Assign_arm];refine AJ (BY ?_);rw[hs];refine AJ (AQ ?_);rw[if_neg ⋯];refine AJ (Tuple_ (thn (ha _ π s σ H _ I h) λus s1 kq=>?_));let⟨vs,H1,I1,r1,q1⟩:=kq;let⟨v,w,e1,q1⟩:=q1;subst e1;obtain⟨u1,u2,rfl,rv,rw'⟩:∃u1 u2,us=[u1,u2]/\RelV v u1/\RelV w u2:=by
  cases r1 with
  |cons p q=>
   cases q with
   |cons p' q'=>
    cases q'
    exact⟨_,_,rfl,p,p'⟩
 refine BE ?_ (by show 2<=sizeLine;decide);have I2:Inv X π σ H1 {s1 with heap:=s1.heap.push {cls:=.type "tuple",data:=.seq [u1,u2].toArray} }:=I1.kept (t':=s1.toks) λb o e=>AS _ e;rw[hw];refine AJ (AQ ?_);show A2 (model X.prog X.w) X.A (do rule "assign.swapped-stores";let items <-unpackItems (.ref s1.heap.objs.size) 2 AB;assignInOrder [λv=>bindName X.env y v,λv=>bindName X.env x v] items.reverse;pure Fq) _ _ _;refine AJ (Dm (AJ (unpackItems_tuple (items:=#[u1,u2]) (I.ok.hd hc) (IsTup.new s1.heap _) λh' hx'=>?_)));have I3:=I2.kept (h':=h') (t':=s1.toks) λb o e=>hx' b o (Ac (AT e)) e;show A2 _ _ (assignInOrder [λv=>bindName X.env y v,λv=>bindName X.env x v] [u2,u1] >>= λ_=>pure Fq) _ _ _;refine AJ (DM (wpAny_bindName (zK I3 hN hj (.inl hy) rw' (λs2 I4=>?_) (.inr hy))));refine DM (wpAny_bindName (zK I4 hN hi (.inl hx) rv (λs3 I5=>Em (AQ ?_)) (.inr hx)));rw[List.set_comm _ _ (BI hij)]at I5;exact⟨_,H1,I5,q1⟩
def ygn(i:Nat)(te:TE)(ti:TIp):TS:=λD σ H=>∃x,σ[i]?=AA (AA x)/\te σ H λy H1=>ti x y H1 λz H2=>D.nx (σ.set i (AA z)) H2
def zj3{i:Nat}{x:AM}{e:AL}{te:TE}{op:Db}{ti:TIp}{pos':BX}(hN:X.N.Nodup)(hi:X.N[i]?=AA x)(hx:Loc X.env.scope x)(he:PE X e te)(ho:PIp X op ti)(hf:X.fn x=AC \/ X.env.scope.names.lookup x=AA .local:=by first|exact .inl rfl|exact .inr rfl|assumption):
  PS X (.AugAssign (.Name x pos') op e pos) (ygn i te ti):=by
 intro π s σ H D I h;let⟨v,e1,h⟩:=h;let⟨m,hn,hl⟩:=I.loc;have vis:Vis X.env.scope x:=by rcases hx with k|k;exact .inl k;exact .inr (.inl k)
 let⟨u,r,l⟩:=hl i x v hi e1 vis;refine wpAny_AugAssign_Name ?_;have go:A2 (model X.prog X.w) X.A (eval e X.env) (λw s₂=>A2 (model X.prog X.w) X.A (inplaceOp op u w) (λr s₃=>A2 (model X.prog X.w) X.A (storeName X.env x r) (λ_=>SP X π D .next) X.xe s₃) X.xe s₂) X.xe s:=by
  refine thn (he π s σ H _ I h) λw s1 kq=>?_;let⟨y,H1,I1,r1,q1⟩:=kq;refine thn (ho π s1 σ H1 v y u w _ I1 r r1 q1) λz s2 kq=>?_;let⟨zv,H2,I2,r2,q2⟩:=kq;exact zK I2 hN hi hx r2 (λs3 I3=>⟨_,H2,I3,q2⟩) hf
 rcases l with⟨hk,hm⟩|⟨hk,c,hc,hcell⟩
 .exact EM I.ok.kind hk hn hm go
 .rcases hk with hk|hk
  .exact EY I.ok.kind hk hc hcell go
  .rcases hx with k|k
   .have:X.env.scope.names.lookup x=AA .free:=hk;rw[k]at this;cases this
   .have:X.env.scope.names.lookup x=AA .free:=hk;rw[k]at this;cases this
def ipI(f:Int->Int->Int):TIp:=λx y H Q=>∃i j,x=.int i/\y=.int j/\Q (.int (f i j)) H
def zi3:PIp X .Add (ipI λi j=>i+j):=by
 intro π s σ H x y v u Q I r1 r2 h;let⟨i,j,e1,e2,q⟩:=h;subst e1;subst e2;let⟨t,rfl⟩:=r1;let⟨t',rfl⟩:=r2;exact iadd_int ⟨.int _,H,I.tok _,⟨_,rfl⟩,q⟩
end
section
variable {X:Cx}{pos:BX}
def ycU(c:TT)(tb:TS):TS:=λD σ H=>∃W:Nat->St->Hp->Prop,(∃m,W m σ H)/\∀m σ H,W m σ H ->
 c σ H λb H1=>if b=AC then ∃N:St->Hp->Prop,(∀σ' H',N σ' H'->∃m',m' < m/\W m' σ' H')/\tb {D with nx:=N,ct:=N,bk:=D.nx} σ H1 else D.nx σ H1
def zfM{c:AL}{body:List B8}{tc:TT}{tb:TS}(hp:DG (model X.prog X.w) X.A X.env X.xe)(hc:PT X c tc)(hb:PSs X body tb):PS X (.While c body [] pos) (ycU tc tb):=by
 intro π s σ H D I h;let⟨W,⟨m0,w0⟩,turn⟩:=h;refine wpAny_While (codeAny_whileLoop (λn s'=>∃σ' H',Inv X π σ' H' s'/\W n σ' H') ?_ m0 ⟨σ,H,I,w0⟩)
 rintro n s1 ⟨σ1,H1,I1,w1⟩
 refine Bn hp (thn (hc π s1 σ1 H1 _ I1 (turn n σ1 H1 w1)) λb s2 kq=>?_);let⟨H2,I2,q2⟩:=kq
 cases b with
 |true=>
  let⟨N,hN,q2⟩:=q2;rw[if_pos rfl];refine Bn hp (thn (hb π s2 σ1 H2 _ I2 q2) λf s3 q3=>?_)
  cases f with
  |next=>
   let⟨σ3,H3,I3,n3⟩:=q3;let⟨m',hm,w3⟩:=hN σ3 H3 n3;exact⟨m',hm,σ3,H3,I3,w3⟩
  |cont=>
   let⟨σ3,H3,I3,n3⟩:=q3;let⟨m',hm,w3⟩:=hN σ3 H3 n3;exact⟨m',hm,σ3,H3,I3,w3⟩
  |brk=>exact q3
  |ret v=>exact q3
 |false=>
  rw[if_neg AX];exact Cy ⟨σ1,H2,I2,q2⟩
end
structure It where
 go:Nat->Hp->Prop
 yld:Nat->Hp->V->Hp->Prop
 stop:Nat->Hp->Prop
def yaq(X:Cx)(π:List (AG×BW))(H:Hp)(b:AG):Prop:=
 H b=AB/\b≠X.env.locals/\b∉X.fs/\(b∈X.ex \/ X.s₀.heap.objs.size<=b)/\(∀x c,X.env.cells.lookup x=AA c->c≠b)/\∀p∈X.pn++π,p.1≠b
theorem Inv.fpOk{X:Cx}{π:List (AG×BW)}{σ:St}{H H':Hp}{s:AH}{b:AG}(I:Inv X π σ H s)(hb:s.heap.objs.size<=b)(hn:H' b=AB):yaq X π H' b:=by
 refine⟨hn,Dn (AZ I.lt hb),I.nofs hb,.inr (Az I.sz hb),λx c e z=>?_,λp hp z=>?_⟩
 .let⟨v,q⟩:=I.cell x c e;exact absurd (AZ q.lt (by rw[z];exact hb)) (Bb _)
 .exact absurd (AZ (AT (I.pin p hp).1) (by rw[z];exact hb)) (Bb _)
structure Turn(P:A1)(w:Ab)(K:AD)(tg:AL)(J:It)(fp:List AG)(it:AG)(tn:Nat->Ao->Prop):Prop where
 mem:it∈fp
 obj:∀i h,tn i h->∀b∈fp,∃o,h.get? b=AA o/\∀v,o.data ≠ .cell v
 keep:∀i h h',tn i h->(∀b∈fp,∀o,h.get? b=AA o->h'.get? b=AA o)->tn i h'
 item:∀(X:Cx),X.prog=P->X.w=w->X.K=K->X.calm=AC->∀(i:Nat) (π:List (AG×BW)) (s:AH) (σ:St) (H:Hp) (E:AF->AH->Prop),Inv X π σ H s->(∀b∈fp,yaq X π H b)->tn i s.heap->J.go i H ->
  A2 (model P w) X.A (pyNext (.ref it)) (λr s1=>∃u,r=AA u /\
   A2 (model P w) X.A (letOwnedTupleGo tg (.ref it) u) (λ_ s2=>∃x H',Inv X π σ H' s2/\RelV x u/\J.yld i H x H'/\tn (i+1) s2.heap/\∀b∈fp,H' b=AB) E s1) E s
 done:∀(X:Cx),X.prog=P->X.w=w->X.K=K->X.calm=AC->∀(i:Nat) (π:List (AG×BW)) (s:AH) (σ:St) (H:Hp) (E:AF->AH->Prop),Inv X π σ H s->(∀b∈fp,yaq X π H b)->tn i s.heap->J.stop i H ->
  A2 (model P w) X.A (pyNext (.ref it)) (λr s1=>r=AB/\Inv X π σ H s1) E s
 self:∀(A:A5) (i:Nat) (s:AH) (Q:AF->AH->Prop) (E:AF->AH->Prop),tn i s.heap->Q (.ref it) s->A2 (model P w) A (pyIter (.ref it)) Q E s
abbrev TI:=St->Hp->(It->Hp->Prop)->Prop
def PIE(X:Cx)(π:List (AG×BW))(σ:St)(tg:AL)(R:It->Hp->Prop)(itv:AF)(s2:AH):Prop:=
 ∃(it:AG) (fp:List AG) (tn:Nat->Ao->Prop) (J:It) (H':Hp),itv=.ref it/\Inv X π σ H' s2/\Turn X.prog X.w X.K tg J fp it tn/\tn 0 s2.heap/\(∀b∈fp,yaq X π H' b)/\R J H'
def PI(X:Cx)(tg iter:AL)(wi:TI):Prop:=
 ∀(π:List (AG×BW)) (s:AH) (σ:St) (H:Hp) (R:It->Hp->Prop),Inv X π σ H s->wi σ H R ->
  A2 (model X.prog X.w) X.A (eval iter X.env) (λv s1=>A2 (model X.prog X.w) X.A (pyIter v) (PIE X π σ tg R) X.xe s1) X.xe s
def zhG{M:Fp}{A:A5}{E:AF->AH->Prop}{s:AH}{tg:AL}{it:AG}{u:AF}{o:BW}{n:String}{vs:Array AF}{Q:Unit->AH->Prop}(ho:s.heap.get? it=AA o)(hc:o.cls=.type n)(hd:o.data=.fields vs)
  (hn:["enumerate","zip","dict_itemiterator","dict_reverseitemiterator","odict_iterator","itertools.zip_longest","itertools.pairwise"].contains n=AE) (hQ:Q () s):A2 M A (letOwnedTupleGo tg (.ref it) u) Q E s:=by
 unfold letOwnedTupleGo
 cases tg<;>first
  |exact AQ hQ
  | (cases u<;>first
    |exact AQ hQ
    | (refine AJ (wpAny_load ho ?_)
       rw[hc,hd];show A2 M A (if (["enumerate","zip","dict_itemiterator","dict_reverseitemiterator","odict_iterator","itertools.zip_longest","itertools.pairwise"].contains n&&vs[0]? == AA (rawInt _))=AC then _ else _) Q E s;rw[if_neg (by intro h;rw[hn,Bool.false_and]at h;cases h)];exact AQ hQ))
def Itl(K:AD)(a:AG):It:=
 ⟨λi H=>∃xs x,SqL K H a xs/\xs[i]?=AA x,λi H x H'=>H'=H/\∀xs,SqL K H a xs->xs[i]?=AA x,λi H=>∃xs,SqL K H a xs/\xs.length<=i⟩
def Itt(K:AD)(a:AG):It:=
 ⟨λi H=>∃xs x,SqT K H a xs/\xs[i]?=AA x,λi H x H'=>H'=H/\∀xs,SqT K H a xs->xs[i]?=AA x,λi H=>∃xs,SqT K H a xs/\xs.length<=i⟩
def Itr(lo:Int)(n:Nat):It:=⟨λi _=>i<n,λi H x H'=>H'=H/\x=.int (lo+i),λi _=>n<=i⟩
def zeh{P:A1}{w:Ab}{K:AD}{tg:AL}(a it:AG):Turn P w K tg (Itl K a) [it] it (λi h=>h.IsListIter it a i) where
 mem:=by simp
 obj:=λi h st b hb=>by
  have e:b=it:=by simpa using hb
  subst e;let⟨o,e,c,d⟩:=st;exact⟨o,e,λv z=>by rw[d]at z;cases z⟩
 keep:=λi h h' st k=>st.at λo e=>k it (by simp) o e
 item:=by
  intro X hP hw hK hc i π s σ H E I hf st hg;subst hP hw hK;let⟨xs,x,hq,hx⟩:=hg;let⟨its,rv,p,hz⟩:=I.list hq;let⟨u,hu,ru⟩:=rv.get hx;let⟨f0,f1,f2,f3,f4,f5⟩:=hf it (by simp);refine wpAny_pyNext_list_item st p.isList (x:=u) (by simpa using hu) λh' st' sb=>?_;have I1:Inv X π σ H {s with heap:=h'}:=I.turned (t':=s.toks) (λb o hb e=>(sb.2 b hb).trans e) f0 f1 f3 f4 f5;let⟨o,e,c,d⟩:=id st';exact⟨u,rfl,zhG (s:={s with heap:=h'}) e c d ⋯ ⟨x,H,I1,ru,⟨rfl,λys hy=>by rw[I.list_inj hy hq];exact hx⟩,st',λb hb=>(hf b hb).1⟩⟩
 done:=by
  intro X hP hw hK hc i π s σ H E I hf st hg;subst hP hw hK;let⟨xs,hq,hx⟩:=hg;let⟨its,rv,p,hz⟩:=I.list hq;let⟨f0,f1,f2,f3,f4,f5⟩:=hf it (by simp);have hl:=rv.length;exact wpAny_pyNext_list_end (I.ok.hd hc) st p.isList (by simp;lia) λh' eb=>⟨rfl,I.turned (t':=s.toks) (λb o hb e=>eb b o hb e) f0 f1 f3 f4 f5⟩
 self:=λ_ _ _ _ _ st h=>wpAny_pyIter_listiter st h
def zds{P:A1}{w:Ab}{K:AD}{tg:AL}(a it:AG):Turn P w K tg (Itt K a) [it] it (λi h=>h.IsTupleIter it a i) where
 mem:=by simp
 obj:=λi h st b hb=>by
  have e:b=it:=by simpa using hb
  subst e;let⟨o,e,c,d⟩:=st;exact⟨o,e,λv z=>by rw[d]at z;cases z⟩
 keep:=λi h h' st k=>st.at λo e=>k it (by simp) o e
 item:=by
  intro X hP hw hK hc i π s σ H E I hf st hg;subst hP hw hK;let⟨xs,x,hq,hx⟩:=hg;let⟨its,rv,p,hz⟩:=I.tuple hq;let⟨u,hu,ru⟩:=rv.get hx;let⟨f0,f1,f2,f3,f4,f5⟩:=hf it (by simp);refine wpAny_pyNext_tuple_item st (show s.heap.IsTuple a its.toArray from p) (x:=u) (by simpa using hu) λh' st' sb=>?_;have I1:Inv X π σ H {s with heap:=h'}:=I.turned (t':=s.toks) (λb o hb e=>(sb.2 b hb).trans e) f0 f1 f3 f4 f5;let⟨o,e,c,d⟩:=id st';exact⟨u,rfl,zhG (s:={s with heap:=h'}) e c d ⋯ ⟨x,H,I1,ru,⟨rfl,λys hy=>by rw[I.tuple_inj hy hq];exact hx⟩,st',λb hb=>(hf b hb).1⟩⟩
 done:=by
  intro X hP hw hK hc i π s σ H E I hf st hg;subst hP hw hK;let⟨xs,hq,hx⟩:=hg;let⟨its,rv,p,hz⟩:=I.tuple hq;let⟨f0,f1,f2,f3,f4,f5⟩:=hf it (by simp);have hl:=rv.length;exact wpAny_pyNext_tuple_end (I.ok.hd hc) st (show s.heap.IsTuple a its.toArray from p) (by simp;lia) λh' eb=>⟨rfl,I.turned (t':=s.toks) (λb o hb e=>eb b o hb e) f0 f1 f3 f4 f5⟩
 self:=λ_ _ _ _ _ st h=>wpAny_pyIter_tupleiter st h
def zdg{P:A1}{w:Ab}{K:AD}{tg:AL}(it:AG)(lo:Int)(n:Nat):Turn P w K tg (Itr lo n) [it] it (λi h=>IsRangeIter h it (lo+(i:Nat)*1) ((n:Int)-(i:Nat)) 1) where
 mem:=by simp
 obj:=λi h st b hb=>by
  have e:b=it:=by simpa using hb
  subst e;exact⟨_,st,λv z=>by
   have z':Data.fields _=Data.cell v:=z
   cases z'⟩
 keep:=λi h h' st k=>k it (by simp) _ st
 item:=by
  intro X hP hw hK hc i π s σ H E I hf st hg;subst hP hw hK;let⟨f0,f1,f2,f3,f4,f5⟩:=hf it (by simp);have W:=Walks.range (prog:=X.prog) (w:=X.w) (I.ok.hd hc) it lo 1 n;refine W.item i s _ _ hg st λv h' tk hv st' kk=>?_;let⟨t,rfl⟩:=hv;have I1:Inv X π σ H {s with heap:=h',toks:=tk}:=I.turned (λb o hb e=>kk b o (by simpa using hb) e) f0 f1 f3 f4 f5;refine⟨_,rfl,zhG (s:={s with heap:=h',toks:=tk}) (n:="range_iterator") st' rfl rfl ⋯ ⟨.int (lo+i),H,I1,⟨t,?_⟩,⟨rfl,rfl⟩,st',λb hb=>(hf b hb).1⟩⟩;rw[GG]
 done:=by
  intro X hP hw hK hc i π s σ H E I hf st hg;subst hP hw hK;let⟨f0,f1,f2,f3,f4,f5⟩:=hf it (by simp);exact wpAny_pyNext_range_end (I.ok.hd hc) st (by have:n<=i:=hg;lia) λh' eb=>⟨rfl,I.turned (t':=s.toks) (λb o hb e=>eb b o hb e) f0 f1 f3 f4 f5⟩
 self:=λ_ _ _ _ _ st h=>wpAny_pyIter_rangeiter st h
section
variable {X:Cx}{tg:AL}
def zf2{π:List (AG×BW)}{σ:St}{H:Hp}{s:AH}{R:It->Hp->Prop}{E:AF->AH->Prop}{lo hi:Int}{t u v:GP}{tk:Nat}(I:Inv X π σ H s)(h1:-(2^62)<=lo)(h2:lo<2^62)(h3:-(2^62)<=hi)(h4:hi<2^62)
  (q:R (Itr lo (hi-lo).toNat) H):A2 (model X.prog X.w) X.A (pyIter (.ref s.heap.objs.size)) (PIE X π σ tg R) E {s with heap:=s.heap.push {cls:=.type "range",data:=.fields #[.int lo t,.int hi u,.int 1 v]},toks:=tk}:=by
 refine wpAny_pyIter_range (IsRange.new ..) (small_one h1 h2 h3 h4) ?_;have I1:Inv X π σ H {s with heap:=s.heap.push {cls:=.type "range",data:=.fields #[.int lo t,.int hi u,.int 1 v]},toks:=tk}:=I.kept λb o e=>AS _ e;refine⟨(s.heap.push {cls:=.type "range",data:=.fields #[.int lo t,.int hi u,.int 1 v]}).objs.size,[(s.heap.push {cls:=.type "range",data:=.fields #[.int lo t,.int hi u,.int 1 v]}).objs.size],_,_,H,rfl,
  I1.kept (t':=tk) λb o e=>AS _ e,zdg _ lo (hi-lo).toNat,?_,λb hb=>?_,q⟩
 .have e1:lo+((0:Nat):Int)*1=lo:=by simp
  have e2:(((hi-lo).toNat:Nat):Int)-((0:Nat):Int)=Ft lo hi 1:=by rw[rangeSize_one];split<;>lia
  show IsRangeIter _ _ (lo+((0:Nat):Int)*1) ((((hi-lo).toNat:Nat):Int)-((0:Nat):Int)) 1;rw[e1,e2];exact A6 _ rfl
 .have e:b=(s.heap.push {cls:=.type "range",data:=.fields #[.int lo t,.int hi u,.int 1 v]}).objs.size:=by simpa using hb
  subst e;exact I1.fpOk (AN _) (I1.hok.fresh (AN _))
def ydp(ta:TA):TI:=λσ H R=>ta σ H λvs H1=>∃j:Int,vs=[.int j]/\-(2^62)<=j/\j<2^62/\R (Itr 0 j.toNat) H1
def zbT{a:AL}{ta:TA}{p pos:BX}(hg:Gl X "range")(hm:X.mg "range"=AB)(ha:PA X [a] ta)(hs:starEach [a] X.env=[(AE,eval a X.env)]:=by rfl):PI X tg (.Call (.Name "range" p) [a] [] pos) (ydp ta):=by
 intro π s σ H R I h;refine Call_ (zbG I hg hm boot_range (CO (thn (ha pos π s σ H _ I h) λus s1 kq=>?_) hs rfl));let⟨vs,H1,I1,r1,q1⟩:=kq;let⟨j,e,q1,q2,q⟩:=q1;subst e
 cases r1 with
 |cons r rr=>
  cases rr
  let⟨t,rfl⟩:=r;exact call_range_1 (zf2 I1 ∅ ∅ q1 q2 (by simpa using q))
def yfW(wi:TI)(g:TG)(tb:TS):TS:=λD σ H=>wi σ H λJ H1=>∃W:Nat->Nat->St->Hp->Prop,(∃m,W 0 m σ H1)/\∀i m σ H,W i m σ H ->
 (J.stop i H/\D.nx σ H) \/ (J.go i H/\∃N:St->Hp->Prop,(∀σ' H',N σ' H'->∃m',m' < m/\W (i+1) m' σ' H')/\∀x H',J.yld i H x H'->g x σ H' λσ2 H2=>tb {D with nx:=N,ct:=N,bk:=D.nx} σ2 H2)
def yaI(fp:List AG)(h:Ao):List (AG×BW):=fp.filterMap λb=>(h.get? b).map λo=>(b,o)
def zr{fp:List AG}{h:Ao}{b:AG}{o:BW}(hb:b∈fp)(e:h.get? b=AA o):(b,o)∈yaI fp h:=DN.mpr ⟨b,hb,by rw[e];rfl⟩
def zez{fp:List AG}{h:Ao}{p:AG×BW}(hp:p∈yaI fp h):p.1∈fp/\h.get? p.1=AA p.2:=by
 let⟨b,hb,e⟩:=DN.mp hp
 cases q:h.get? b with
 |none=>rw[q]at e;cases e
 |some o=>
  rw[q]at e;have e':(b,o)=p:=AU e;subst e';exact⟨hb,q⟩
theorem Inv.pinned{π:List (AG×BW)}{σ:St}{H:Hp}{s:AH}{fp:List AG}(I:Inv X π σ H s)(hf:∀b∈fp,yaq X π H b)(ho:∀b∈fp,∃o,s.heap.get? b=AA o/\∀v,o.data ≠ .cell v):Inv X (π++yaI fp s.heap) σ H s:=
 I.pins_of λp hp=>(Aw.mp hp).elim (λz=>I.pin p (A7 _ z)) λz=>by
  let⟨hb,e⟩:=zez z;let⟨f0,f1,f2,_⟩:=hf p.1 hb;let⟨o,e',d⟩:=ho p.1 hb;rw[e]at e';cases e';exact⟨e,f0,f1,f2,d⟩
theorem Inv.unpinned{π pl:List (AG×BW)}{σ:St}{H:Hp}{s:AH}(I:Inv X (π++pl) σ H s):Inv X π σ H s:=I.pins_of λp hp=>I.pin p (A7 _ (EL _ hp))
def zgj{iter:AL}{body:List B8}{wi:TI}{g:TG}{tb:TS}{pos:BX}(hp:DG (model X.prog X.w) X.A X.env X.xe)(hc:X.calm=AC)(hi:PI X tg iter wi)(hg:PG X tg g)(hb:PSs X body tb)
  (hs:∀x,foldedSetIterable iter X.env x=pure x:=by intro _;rfl):PS X (.For tg iter body [] pos) (yfW wi g tb):=by
 intro π s σ H D I h;refine wpAny_For (thn (hi π s σ H _ I h) λv s1 h1=>thn h1 λitv s2 h2=>?_) hs;let⟨it,fp,tn,J,H2,e,I2,T,st2,f2,W,⟨m0,w0⟩,turn⟩:=h2;subst e;have stat:∀{H':Hp},(∀b∈fp,H' b=AB)->∀b∈fp,yaq X π H' b:=λhn b hb=>⟨hn b hb,(f2 b hb).2⟩;refine codeAny_forLoop_any (λn s'=>∃i σ' H',Inv X π σ' H' s'/\tn i s'.heap/\(∀b∈fp,H' b=AB)/\W i n σ' H') ?_ m0 ⟨0,σ,H2,I2,st2,λb hb=>(f2 b hb).1,w0⟩
 rintro n s3 ⟨i,σ3,H3,I3,st3,fr3,w3⟩
 rcases turn i n σ3 H3 w3 with⟨stop,qn⟩|⟨go,N,hN,step⟩
 .refine Bn hp (thn (T.done X rfl rfl rfl hc i π s3 σ3 H3 X.xe I3 (stat fr3) st3 stop) λr s4 kq=>?_);let⟨hr,I4⟩:=kq;subst hr;exact Cy ⟨σ3,H3,I4,qn⟩
 .refine Bn hp (thn (T.item X rfl rfl rfl hc i π s3 σ3 H3 X.xe I3 (stat fr3) st3 go) λr s4 kq=>?_);let⟨u,hr,h4⟩:=kq;subst hr;refine Bn hp (thn h4 λ_ s5 kq=>?_);let⟨x,H5,I5,r5,y5,st5,fr5⟩:=kq;have I5':=I5.pinned (stat fr5) (T.obj _ _ st5);refine Bn hp (thn (hg _ s5 σ3 H5 x u _ I5' r5 (step x H5 y5)) λ_ s6 kq=>?_);let⟨σ6,H6,I6,q6⟩:=kq;refine Bn hp (thn (hb _ s6 σ6 H6 _ I6 q6) λf s7 q7=>?_);have again:∀{σ7:St} {H7:Hp},Inv X (π++yaI fp s5.heap) σ7 H7 s7->N σ7 H7->∃m,m<n/\∃i σ' H',Inv X π σ' H' s7/\tn i s7.heap/\(∀b∈fp,H' b=AB)/\W i m σ' H':=λ{σ7 H7} I7 n7=>by
   let⟨m',hm,w7⟩:=hN σ7 H7 n7;refine⟨m',hm,i+1,σ7,H7,I7.unpinned,T.keep _ _ _ st5 λb hb o e=>(I7.pin (b,o) (A7 _ (A7 _ (zr hb e)))).1,λb hb=>?_,w7⟩;let⟨o,e,d⟩:=T.obj _ _ st5 b hb;exact(I7.pin (b,o) (A7 _ (A7 _ (zr hb e)))).2.1
  cases f with
  |next=>let⟨σ7,H7,I7,n7⟩:=q7;exact again I7 n7
  |cont=>let⟨σ7,H7,I7,n7⟩:=q7;exact again I7 n7
  |brk=>let⟨σ7,H7,I7,q7⟩:=q7;exact⟨σ7,H7,I7.unpinned,q7⟩
  |ret v=>let⟨x7,σ7,H7,I7,r7,q7⟩:=q7;exact⟨x7,σ7,H7,I7.unpinned,r7,q7⟩
end
abbrev R2:=V->V->Hp->VK->Prop
def OpR(X:Cx)(f:AF->AF->FH AF)(r:R2):Prop:=
 ∀(π:List (AG×BW)) (s:AH) (σ:St) (H:Hp) (x y:V) (v u:AF) (Q:VK),Inv X π σ H s->RelV x v->RelV y u->r x y H Q ->
  A2 (model X.prog X.w) X.A (f v u) (EP X π σ Q) X.xe s
def yab(X:Cx)(f:AF)(r:List V->Hp->VK->Prop):Prop:=
 ∀(π:List (AG×BW)) (s:AH) (σ:St) (H:Hp) (xs:List V) (us:List AF) (Q:VK),Inv X π σ H s->Vals xs us->r xs H Q ->
  A2 (model X.prog X.w) X.A (call f us) (EP X π σ Q) X.xe s
def yfC(X:Cx)(r:V->Hp->(Bool->Hp->Prop)->Prop):Prop:=
 ∀(π:List (AG×BW)) (s:AH) (σ:St) (H:Hp) (x:V) (v:AF) (Q:Bool->Hp->Prop),Inv X π σ H s->RelV x v->r x H Q ->
  A2 (model X.prog X.w) X.A (truthy v) (TP X π σ Q) X.xe s
def tOp(r:R2)(ta tb:TE):TE:=λσ H Q=>ta σ H λx H1=>tb σ H1 λy H2=>r x y H2 Q
def rI(C:Int->Int->Prop)(g:Int->Int->V):R2:=λx y H Q=>∃i j,x=.int i/\y=.int j/\C i j/\Q (g i j) H
def rI0(g:Int->Int->V):R2:=λx y H Q=>∃i j,x=.int i/\y=.int j/\Q (g i j) H
section
variable {X:Cx}{a b c:AL}{ta tb tc:TE}{pos:BX}
def zkL(ha:PE X a ta)(hb:PE X b tb){π:List (AG×BW)}{s:AH}{σ:St}{H:Hp}{R:V->V->Hp->Prop}(I:Inv X π σ H s)
  (h:ta σ H λx H1=>tb σ H1 λy H2=>R x y H2) {Q:AF->AH->Prop} {f:AF->AF->FH AF}
  (hf:∀v u s2 x y H2,Inv X π σ H2 s2->RelV x v->RelV y u->R x y H2->A2 (model X.prog X.w) X.A (f v u) Q X.xe s2):
  A2 (model X.prog X.w) X.A (eval a X.env) (λv s₁=>A2 (model X.prog X.w) X.A (eval b X.env) (λu s₂=>A2 (model X.prog X.w) X.A (f v u) Q X.xe s₂) X.xe s₁) X.xe s:=by
 refine thn (ha π s σ H _ I h) λv s1 kq=>?_;let⟨x,H1,I1,r1,q1⟩:=kq;refine thn (hb π s1 σ H1 _ I1 q1) λu s2 kq=>?_;let⟨y,H2,I2,r2,q2⟩:=kq;exact hf v u s2 x y H2 I2 r1 r2 q2
def zkb{op:Db}{r:R2}(ho:OpR X (binaryOp op) r)(ha:PE X a ta)(hb:PE X b tb):PE X (.BinOp a op b pos) (tOp r ta tb):=by
 intro π s σ H Q I h;exact wpAny_BinOp (zkL ha hb I h λv u s2 x y H2 I2 rx ry q=>ho π s2 σ H2 x y v u Q I2 rx ry q)
theorem opI{f:AF->AF->FH AF}{C:Int->Int->Prop}{g:Int->Int->Int}
  (rule:∀(i j:Int) (t u:GP) (s:AH) (Q:AF->AH->Prop) (E:AF->AH->Prop),C i j->Q (.int (g i j) s.toks) {s with toks:=s.toks+1}->A2 (model X.prog X.w) X.A (f (.int i t) (.int j u)) Q E s):
  OpR X f (rI C λi j=>.int (g i j)):=by
 intro π s σ H x y v u Q I rx ry h;let⟨i,j,rfl,rfl,hc,q⟩:=h;let⟨t,rfl⟩:=rx;let⟨t',rfl⟩:=ry;exact rule i j t t' s _ _ hc ⟨.int (g i j),H,I.tok _,⟨_,rfl⟩,q⟩
def zkG{f:AF->AF->FH AF}{g:Int->Int->Int}
  (rule:∀(i j:Int) (t u:GP) (s:AH) (Q:AF->AH->Prop) (E:AF->AH->Prop),Q (.int (g i j) s.toks) {s with toks:=s.toks+1}->A2 (model X.prog X.w) X.A (f (.int i t) (.int j u)) Q E s):
  OpR X f (rI0 λi j=>.int (g i j)):=by
 intro π s σ H x y v u Q I rx ry h;let⟨i,j,rfl,rfl,q⟩:=h;let⟨t,rfl⟩:=rx;let⟨t',rfl⟩:=ry;exact rule i j t t' s _ _ ⟨.int (g i j),H,I.tok _,⟨_,rfl⟩,q⟩
def zkM{f:AF->AF->FH AF}{g:Int->Int->Bool}
  (rule:∀(i j:Int) (t u:GP) (s:AH) (Q:AF->AH->Prop) (E:AF->AH->Prop),Q (.bool (g i j)) s->A2 (model X.prog X.w) X.A (f (.int i t) (.int j u)) Q E s):
  OpR X f (rI0 λi j=>.bl (g i j)):=by
 intro π s σ H x y v u Q I rx ry h;let⟨i,j,rfl,rfl,q⟩:=h;let⟨t,rfl⟩:=rx;let⟨t',rfl⟩:=ry;exact rule i j t t' s _ _ ⟨.bl (g i j),H,I,rfl,q⟩
def yep(i j:Int):Prop:=0<=j/\j<=1000000/\i.natAbs<2^64
def ycB(i j:Int):Prop:=(-(2^64)<i/\i<2^64) \/ (-(2^64)<j/\j<2^64)
theorem ycB.ok{i j:Int}(h:ycB i j):IntMulOk i j:=by
 rcases h with⟨h1,h2⟩|⟨h1,h2⟩
 .exact .of_left (intBits_le_64 h1 h2)
 .exact .of_right (intBits_le_64 h1 h2)
def zdi(k:Nat):(0:Int)<=2^k:=by
 rw[two_pow_cast];exact Int.natCast_nonneg _
def ziA:OpR X (binaryOp .Add) (rI0 λi j=>.int (i+j)):=zkG λ_ _ _ _ _ _ _ q=>add_int q
def zjv:OpR X (binaryOp .Sub) (rI0 λi j=>.int (i-j)):=zkG λ_ _ _ _ _ _ _ q=>sub_int q
def ziG:OpR X (binaryOp .Mult) (rI ycB λi j=>.int (i*j)):=opI λ_ _ _ _ _ _ _ hc q=>mul_int q hc.ok
def zi9:OpR X (binaryOp .Mod) (rI (λ_ j=>0<j) λi j=>.int (i%j)):=opI λi j _ _ _ _ _ hc q=>by
 have h1:(0:Int)<j:=hc;exact mod_int' ∅ (by rw[Int.fmod_eq_emod_of_nonneg i ∅];exact q)
def zih:OpR X (binaryOp .Pow) (rI yep λi j=>.int (i^j.toNat)):=opI λ_ _ _ _ _ _ _ hc q=>pow_int_small hc.1 hc.2.1 hc.2.2 q
def zjr:OpR X (binaryOp .RShift) (rI (λ_ j=>0<=j) λi j=>.int (i/2^j.toNat)):=opI λi j _ _ _ _ _ hc q=>
 rshift_int hc (by rw[DO i (zdi _)];exact q)
def ziV:OpR X (binaryOp .BitAnd) (rI0 λi j=>.int (EN i j)):=zkG λ_ _ _ _ _ _ _ q=>and_int q
def zj7:OpR X (binaryOp .BitOr) (rI0 λi j=>.int (E5 i j)):=zkG λ_ _ _ _ _ _ _ q=>or_int q
def zju:OpR X (binaryOp .BitXor) (rI0 λi j=>.int (EO i j)):=zkG λ_ _ _ _ _ _ _ q=>xor_int q
def zdE:OpR X (binaryOp .Add) (λx y H Q=>∃i k,x=.int i/\y=.bl k/\Q (.int (i+b2i k)) H):=by
 intro π s σ H x y v u Q I rx ry h;let⟨i,k,rfl,rfl,q⟩:=h;let⟨t,rfl⟩:=rx
 cases ry
 exact add_int_bool ⟨.int (i+b2i k),H,I.tok _,⟨_,rfl⟩,q⟩
end
section
variable {X:Cx}{a b c:AL}{ta tb tc:TE}{pos:BX}
def zcQ{π:List (AG×BW)}{σ:St}{H:Hp}{s:AH}{Q:VK}{k k':Bool}(I:Inv X π σ H s)(q:Q (.bl k) H)(e:k=k'):EP X π σ Q (.bool k') s:=by
 subst e;exact⟨.bl k,H,I,rfl,q⟩
def zkx:OpR X (compareOp .Lt) (rI0 λi j=>.bl (decide (i<j))):=zkM λ_ _ _ _ _ _ _ q=>lt_int q
def zko:OpR X (compareOp .Gt) (rI0 λi j=>.bl (decide (j<i))):=zkM λ_ _ _ _ _ _ _ q=>gt_int q
def zkv:OpR X (compareOp .GtE) (rI0 λi j=>.bl (decide (j<=i))):=zkM λ_ _ _ _ _ _ _ q=>ge_int q
def ze0:OpR X (compareOp .Lt) (λx y H Q=>∃i j,x=.str i/\y=.str j/\Q (.bl (decide (i.cps.toList<j.cps.toList))) H):=by
 intro π s σ H x y v u Q I rx ry h;let⟨i,j,rfl,rfl,q⟩:=h;let⟨t,rfl⟩:=rx;let⟨t',rfl⟩:=ry;exact lt_str (zcQ I q rfl)
def zeq:OpR X (compareOp .In) (λx y H Q=>∃i j,x=.str i/\y=.str j/\Q (.bl (!(CC j i 0 j.length 1).isEmpty)) H):=by
 intro π s σ H x y v u Q I rx ry h;let⟨i,j,rfl,rfl,q⟩:=h;let⟨t,rfl⟩:=rx;let⟨t',rfl⟩:=ry;exact in_str (zcQ I q rfl)
def zi4:OpR X (compareOp .Is) (λx y H Q=>y=.non/\Q (.bl (decide (x=.non))) H):=by
 intro π s σ H x y v u Q I rx ry h;let⟨rfl,q⟩:=h
 cases ry
 refine is_none_gen (zcQ I q ?_)
 cases x<;>first
  |(cases rx;rfl)
  |(let⟨t,rfl⟩:=rx;rfl)
def zeL{op:GH}{r:R2}(ho:OpR X (compareOp op) r)(ha:PE X a ta)(hb:PE X b tb)(hm:behindInMarks op b=AE):PE X (.Compare a [op] [b] pos) (tOp r ta tb):=by
 intro π s σ H Q I h;exact wpAny_Compare1 (zkL ha hb I h λv u s2 x y H2 I2 rx ry q=>ho π s2 σ H2 x y v u Q I2 rx ry q) hm
def yec(t:TE):TT:=λσ H Q=>t σ H λx H'=>∃k,x=.bl k/\Q k H'
def zch{op:GH}{r:R2}(ho:OpR X (compareOp op) r)(ha:PE X a ta)(hb:PE X b tb)(hm:behindInMarks op b=AE):PT X (.Compare a [op] [b] pos) (yec (tOp r ta tb)):=by
 intro π s σ H Q I h;refine wpAny_isTrue_Compare1 (thn (ha π s σ H _ I h) λv s1 ⟨x,H1,I1,r1,q1⟩=>thn (hb π s1 σ H1 _ I1 q1) λu s2 ⟨y,H2,I2,r2,q2⟩=>
  thn (ho π s2 σ H2 x y v u _ I2 r1 r2 q2) λc s3 ⟨z,H3,I3,r3,k,e,q3⟩=>?_) hm
 subst e
 cases r3
 exact Bs ⟨H3,I3,q3⟩
def ydv(K:AD)(x:V)(H:Hp)(k:Bool):Prop:=
 match x with
 |.non=>k=AE
 |.bl b=>k=b
 |.int i=>k=(i != 0)
 |.str y=>y.length<=sizeLine/\k=((y.length:Int) != 0)
 |.byt y=>y.size<=sizeLine/\k=((y.size:Int) != 0)
 |.ref p=>(∃xs,SqL K H p xs/\k=!xs.isEmpty) \/ (∃xs,SqT K H p xs/\k=!xs.isEmpty) \/ ∃kvs,H p=AA (.dK kvs)/\k=!kvs.isEmpty
 |_=>False
def zda{κ:Type}{kvs:List (κ×V)}{vs:List (κ×AF)}(r:KV kvs vs):(!vs.isEmpty)=!kvs.isEmpty:=by
 cases r<;>rfl
def za2{xs:List V}{its:List AF}(r:Vals xs its):(!its.toArray.isEmpty)=!xs.isEmpty:=by
 cases r<;>simp
def zkD:(sizeLine:Nat)<2^63:=by rw[Bc];decide
def zid:yfC X (λx H Q=>∃k,ydv X.K x H k/\Q k H):=by
 intro π s σ H x v Q I rx h;let⟨k,e,q⟩:=h;have hl:=zkD;have hs:sizeLine=16777216:=Bc
 cases x with
 |non=>
  cases rx
  have e':k=false:=e;subst e';exact truthy_none ⟨H,I,q⟩
 |bl b=>
  cases rx
  have e':k=b:=e;subst e';exact Bs ⟨H,I,q⟩
 |int i=>
  let⟨t,rfl⟩:=rx;have e':k=(i != 0):=e;subst e';exact PySem.P.truthy_int ⟨H,I,q⟩
 |str y=>
  let⟨t,rfl⟩:=rx;obtain⟨hy,e'⟩:y.length<=sizeLine/\k=((y.length:Int) != 0):=e;subst e';exact PySem.P.truthy_str ∅ ⟨H,I.tok _,q⟩
 |byt y=>
  let⟨t,rfl⟩:=rx;obtain⟨hy,e'⟩:y.size<=sizeLine/\k=((y.size:Int) != 0):=e;subst e';exact PySem.W.truthy_bytes ∅ ⟨H,I.tok _,q⟩
 |ref p=>
  cases rx
  have e':(∃xs,SqL X.K H p xs/\k=!xs.isEmpty) \/ (∃xs,SqT X.K H p xs/\k=!xs.isEmpty) \/ ∃kvs,H p=AA (.dK kvs)/\k=!kvs.isEmpty:=e;rcases e' with⟨xs,hx,e'⟩|⟨xs,hx,e'⟩|⟨kvs,hx,e'⟩
  .subst e';let⟨its,r,pl,hz⟩:=I.list hx;have hlen:=r.length;exact wpAny_truthy_list pl.isList (by erw[AV];lia) ⟨H,I.tok _,by rw[za2 r];exact q⟩
  .subst e';let⟨its,r,pl,hz⟩:=I.tuple hx;have hlen:=r.length;exact truthy_tuple pl (by erw[AV];lia) ⟨H,I.tok _,by rw[za2 r];exact q⟩
  .subst e';obtain⟨hz,hS,vs,r,m⟩:kvs.length<=sizeLine/\(p==sysModules)=AE/\∃vs,KV kvs vs/\s.heap.DictOf (yL X.prog X.w) p vs:=I.hok p _ hx;have hlen:kvs.length=vs.length:=E4 r;exact wpAny_truthy_dict hS m ∅ ⟨H,I.tok _,by rw[zda r];exact q⟩
 |_=>exact(show False from e).elim
def zfg(ha:PE X a ta)(he:∀whole,isTrue a X.env whole=(do let v <-whole;standAt a.pos;holding [v] (truthy v))):
  PT X a (λσ H Q=>ta σ H λx H'=>∃k,ydv X.K x H' k/\Q k H'):=by
 intro π s σ H Q I h;exact isTrue_plain (thn (ha π s σ H _ I h) λv s1 ⟨x,H1,I1,r1,q1⟩=>zid π s1 σ H1 x v Q I1 r1 q1) (he _)
def zdb:OpR X (binaryOp .Add) (λx y H Q=>∃i j,x=.str i/\y=.str j/\i.length+j.length<=sizeLine/\Q (.str (i++j)) H):=by
 intro π s σ H x y v u Q I rx ry h;let⟨i,j,rfl,rfl,hz,q⟩:=h;let⟨t,rfl⟩:=rx;let⟨t',rfl⟩:=ry;exact add_str (λt' tk=>⟨.str (i++j),H,I.tok _,⟨_,rfl⟩,q⟩) hz
theorem vals1{x:V}{us:List AF}(r:Vals [x] us):∃u,us=[u]/\RelV x u:=by
 cases r with
 |cons r1 r2=>cases r2;exact⟨_,rfl,r1⟩
theorem vals2{x y:V}{us:List AF}(r:Vals [x,y] us):∃u w',us=[u,w']/\RelV x u/\RelV y w':=by
 cases r with
 |cons r1 r2=>
  cases r2 with
  |cons r3 r4=>cases r4;exact⟨_,_,rfl,r1,r3⟩
def zbA:yab X (.type "int") (λxs H Q=>(∃i,xs=[.int i]/\Q (.int i) H) \/ ∃k,xs=[.bl k]/\Q (.int (if k then 1 else 0)) H):=by
 intro π s σ H xs us Q I r h;rcases h with⟨i,rfl,q⟩|⟨k,rfl,q⟩
 .let⟨u,rfl,t,rfl⟩:=vals1 r;exact call_int_int ⟨.int i,H,I,⟨_,rfl⟩,q⟩
 .let⟨u,rfl,r1⟩:=vals1 r
  cases r1
  exact call_int_bool ⟨.int (if k then 1 else 0),H,I.tok _,⟨_,rfl⟩,q⟩
end
section
variable {prog:A1}{w:Ab}{A:A5}{E:AF->AH->Prop}{s:AH}{K:AD}{x dx C f:AG}{mA:AM->Option AF}{name:AM}{v:AF}
end
def yd3(f:AM)(v:V):List (AM×V)->List (AM×V)
 |[]=>[(f,v)]
 |(g,x)::r=>if g=f then(g,v)::r else(g,x)::yd3 f v r
theorem ybl.some_of{v:V}{o:Option AF}(r:ybl (AA v) o):∃u,o=AA u/\RelV v u:=by
 cases o with
 |none=>exact(show False from r).elim
 |some u=>exact⟨u,rfl,r⟩
section
variable {P:A1}{w:Ab}{H H':Hp}{h h':Ao}{a C dx:AG}{fs fs':List (AM×V)}
end
structure Cls(K:AD)(C:AG):Prop where
 pg:FL K C Cn=AC
 hd:En K C=AC
 po:Eo K C=AC
 sa:Aj K (.ref C) "__setattr__"=AA (AA (.builtin "object.__setattr__"))
def yb6(K:AD)(C:AG)(f:AM):Prop:=Aj K (.ref C) f=AA AB
structure Con(K:AD)(C:AG)(f:AM)(v:V)(u:AF):Prop where
 at_:Aj K (.ref C) f=AA (AA u)
 rel:RelV v u
 get:PySem.W.specialIn K u "__get__"=AA AB
 cp:PySem.W.copiedNames.contains f=AE
structure Meth(K:AD)(C:AG)(m:AM)(f:AG):Prop where
 at_:Aj K (.ref C) m=AA (AA (.ref f))
 fn:Cc K (.ref f)=AC
 kp:Ad K (.ref f)=AC
section
variable {X:Cx}{π:List (AG×BW)}{σ:St}{H:Hp}{s:AH}{a C dx:AG}{fs:List (AM×V)}{f:AM}{v:V}{A:A5}{E:AF->AH->Prop}
end
section
variable {X:Cx}{o e value:AL}{f:AM}{pos pos' tpos:BX}{ta tv:TE}
end
section
variable {X:Cx}{π:List (AG×BW)}{σ:St}{H:Hp}{s:AH}{A:A5}{E:AF->AH->Prop}{Q:AF->AH->Prop}{c:AF}{b:Bool}
end
structure yat(k:Nat)(A:A5):Prop where
 hd:A.handled=AB
 dp:A.depth+3*k+5<recursionLimit
 un:A.units+16*k+200<cLine
theorem yat.mono{j k:Nat}{A:A5}(r:yat k A)(h:j<=k):yat j A:=⟨r.hd,by have:=r.dp;lia,by have:=r.un;lia⟩
theorem yat.deeper{k:Nat}{A:A5}(r:yat (k+1) A)(env:Env):yat k (A.deeper env):=
 ⟨r.hd,by have:=r.dp;show A.depth+1+3*k+5<_;lia,by have:=r.un;show A.units+3+16*k+200<_;lia⟩
theorem yat.depth{k:Nat}{A:A5}(r:yat k A):A.depth<recursionLimit:=by have:=r.dp;lia
def yd7:TA:=λ_ H Q=>Q [] H
def ycT(ta:TE)(tr:TA):TA:=λσ H Q=>ta σ H λx H1=>tr σ H1 λxs H2=>Q (x::xs) H2
section
variable {X:Cx}{e:AL}{es:List AL}{te:TE}{t:TA}{pos:BX}
def zkF:PA X [] yd7:=λ_ _ _ _ H Q I h=>Calls.spliced_nil ⟨[],H,I,.nil,h⟩
def zV(ha:PE X e te)(hr:PA X es t)(hs:starEach (e::es) X.env=(AE,eval e X.env)::starEach es X.env:=by rfl):PA X (e::es) (ycT te t):=by
 intro pos π s σ H Q I h;rw[hs];show A2 _ _ (spliced ((AE,eval e X.env)::backTo pos (starEach es X.env))) _ _ s;refine Calls.spliced_cons (thn (ha π s σ H _ I h) λu s1 kq=>?_);let⟨x,H1,I1,r1,q1⟩:=kq;exact thn (hr pos π s1 σ H1 _ I1 q1) λus s2 ⟨xs,H2,I2,r2,q2⟩=>⟨x::xs,H2,I2,.cons r1 r2,q2⟩
def yfp(t:TA):TE:=λσ H Q=>t σ H λxs H1=>xs.length<=sizeLine/\∀p,H1 p=AB->Q (.ref p) (upd H1 p (.tup xs))
def ygq(t:TA):TE:=λσ H Q=>t σ H λxs H1=>xs.length<=sizeLine/\∀p,H1 p=AB->Q (.ref p) (upd H1 p (.lst xs))
def zin{x1}(h:PA X es t):PE X (.Tuple es x1 pos) (yfp t):=by
 intro π s σ H Q I hq;refine wpAny_Tuple_spliced (thn (h pos π s σ H _ I hq) λus s1 kq=>?_);let⟨xs,H1,I1,r,z,q⟩:=kq;refine ⟨by rw[<-r.length];exact z,?_⟩;have hf:H1 s1.heap.objs.size=none:=I1.hok.fresh (AN _);refine⟨.ref s1.heap.objs.size,upd H1 s1.heap.objs.size (.tup xs),I1.laid (t':=s1.toks) (λb u e=>AS _ e) (AN _) ?_,rfl,q _ hf⟩;exact⟨z,us,r,A6 _ rfl⟩
def zgM(h:PA X es t):PE X (.List es pos) (ygq t):=by
 intro π s σ H Q I hq;refine wpAny_List_spliced (thn (h pos π s σ H _ I hq) λus s1 kq=>?_);let⟨xs,H1,I1,r,z,q⟩:=kq;refine ⟨by rw[<-r.length];exact z,?_⟩;have hf:H1 s1.heap.objs.size=none:=I1.hok.fresh (AN _);refine⟨.ref s1.heap.objs.size,upd H1 s1.heap.objs.size (.lst xs),I1.laid (t':=s1.toks) (λb u e=>AS _ e) (AN _) ?_,rfl,q _ hf⟩;exact⟨z,us,0,r,A6 _ rfl⟩
end
abbrev Sp:=List V->Hp->VK->XK->Prop
abbrev CXT:=List Env->Hp->AH->XK->AF->AH->Prop
structure yct(P:A1)(w:Ab)(K:AD)(mg:AM->Option AF)(base:Ao)(A:A5)(outer:List Env)(s:AH)(H:Hp):Prop where
 frames:A.frames=AA outer
 mod:Mod K mg base
 bs:∀b o,base.get? b=AA o->s.heap.get? b=AA o/\H b=AB
 bsz:base.objs.size<=s.heap.objs.size
 funs:s.heap.FunFrames base outer
 frf:∀b∈frs outer,H b=AB
 hok:HOk P w H s.heap
 bare:Cu s.gens
def CE(outer:List Env)(P:A1)(w:Ab)(H:Hp)(s:AH)(Q:VK)(u:AF)(s':AH):Prop:=
 ∃v H',s'.os=s.os/\Cu s'.gens/\Un (frs outer) [] H H' s.heap s'.heap/\HOk P w H' s'.heap/\RelV v u/\Q v H'
def CR(CX:CXT)(outer:List Env)(P:A1)(w:Ab)(H:Hp)(s:AH)(Q:VK)(E:XK)(r:Do)(s':AH):Prop:=
 match r with
 |.ok (.ret u)=>CE outer P w H s Q u s'
 |.ok _=>False
 |.error e=>CX outer H s E e s'
structure yaM(P:A1)(w:Ab)(K:AD)(mg:AM->Option AF)(base:Ao)(CX:CXT)(k:Nat)(f:AG)(fd:Al)(ps:List AM)(sp:Sp):Prop where
 len:∀vs H Q E,sp vs H Q E->vs.length=ps.length
 run:∀(A:A5) (outer:List Env) (s:AH) (H:Hp) (args:Args) (us:List AF) (vs:List V) (Q:VK) (E:XK),yat k A->yct P w K mg base A outer s H->Dp s fd args (ps.zip us)->Vals vs us->sp vs H Q E ->
  codeAny (model P w) A (.call (.ref f) args) (CR CX outer P w H s Q E) s
theorem yaM.imp{P:A1}{w:Ab}{K:AD}{mg:AM->Option AF}{base:Ao}{CX:CXT}{k:Nat}{f:AG}{fd:Al}{ps:List AM}{sp sp':Sp}(F:yaM P w K mg base CX k f fd ps sp)
  (h:∀vs H Q E,sp' vs H Q E->sp vs H Q E):yaM P w K mg base CX k f fd ps sp':=
 ⟨λvs H Q E q=>F.len vs H Q E (h _ _ _ _ q),λA outer s H args us vs Q E hr he hb hv hs=>F.run A outer s H args us vs Q E hr he hb hv (h _ _ _ _ hs)⟩
section
variable {X:Cx}{π:List (AG×BW)}{σ:St}{H:Hp}{s s':AH}
theorem Inv.env0(I:Inv X π σ H s):yct X.prog X.w X.K X.mg X.base X.A X.stack s H:=
 ⟨I.ok.frames,I.ok.mod,I.bs,Az I.ok.bsz I.sz,I.stack,I.stkFree,I.hok,I.bare⟩
theorem Inv.after{Q:VK}{u:AF}(I:Inv X π σ H s)(h:CE X.stack X.prog X.w H s Q u s'):EP X π σ Q u s':=by
 let⟨v,H',os,bare,un,hok,r,q⟩:=h;let⟨hh,g,d,t,os'⟩:=s';obtain rfl:os'=s.os:=os;exact⟨v,H',I.call (h':=hh) (g':=g) (d':=d) (t':=t) (ch:=[]) un hok bare (λb z=>absurd z (by simp)),r,q⟩
end
def Binds(K:AD)(fd:Al)(ps:List AM)(ds:List AF):Prop:=
 ∀(s:AH) (us:List AF),K.In s.heap->(us++ds).length=ps.length->Dp s fd ⟨us,[]⟩ (ps.zip (us++ds))
theorem Binds.all{K:AD}{fd:Al}{ps:List AM}(h:∀us:List AF,us.length=ps.length->bindArgs fd ⟨us,[]⟩=pure (ps.zip us)):Binds K fd ps []:=λs us _ hl=>by
 rw[BN]at hl ⊢;exact .of_eq (h us hl)
def ycO(CX:CXT)(X:Cx)(E:XK):Prop:=∀(π:List (AG×BW)) (σ:St) (H:Hp) (s:AH) (e:AF) (s':AH),Inv X π σ H s->CX X.stack H s E e s'->X.xe e s'
section
variable {X:Cx}{CX:CXT}{k:Nat}{f C:AG}{fd:Al}{ps:List AM}{sp:Sp}{dvs:List V}{ds:List AF}{E:XK}{x m:AM}{p pos apos:BX}{e o:AL}{es:List AL}{ta:TE}{t:TA}
structure Mk(K:AD)(C f:AG):Prop where
 makes:EB K C=AC
 init:Aj K (.ref C) "__init__"=AA (AA (.ref f))
 fn:Cc K (.ref f)=AC
 kp:Ad K (.ref C)=AC
end
def PK(X:Cx)(kws:List Bt)(t:TA):Prop:=
 ∀(pos:BX) (π:List (AG×BW)) (s:AH) (σ:St) (H:Hp) (Q:List V->Hp->Prop),Inv X π σ H s->t σ H Q->A2 (model X.prog X.w) X.A (evalAll ((backToKw pos (keywordEach kws X.env)).map (·.2))) (AP X π σ Q) X.xe s
section
variable {X:Cx}{CX:CXT}{k:Nat}{f C:AG}{fd:Al}{ps ks:List AM}{sp:Sp}{E:XK}{x m:AM}{p pos apos kpos:BX}{e o:AL}{es:List AL}{kws:List Bt}{te ta:TE}{t tk:TA}{nm:Option AM}
def zk3:PK X [] yd7:=λ_ _ _ _ H Q I h=>wpAny_evalAll_nil ⟨[],H,I,.nil,h⟩
def zia(ha:PE X e te)(hr:PK X kws t):PK X (⟨nm,e,kpos⟩ :: kws) (ycT te t):=by
 intro pos π s σ H Q I h;show A2 _ _ (evalAll ((do let v <-eval e X.env;standAt pos;pure v)::(backToKw pos (keywordEach kws X.env)).map (·.2))) _ _ s;refine wpAny_evalAll_cons (AJ (thn (ha π s σ H _ I h) λu s1 kq=>?_));let⟨x,H1,I1,r1,q1⟩:=kq;refine AJ (BY (AQ ?_));exact thn (hr pos π s1 σ H1 _ I1 q1) λus s2 ⟨xs,H2,I2,r2,q2⟩=>⟨x::xs,H2,I2,.cons r1 r2,q2⟩
structure ybv(K:AD)(fd:Al)(ps ks:List AM)(g:List AF->List AF->List AF)(gV:List V->List V->List V):Prop where
 to:∀(s:AH) (us ws:List AF),K.In s.heap->(g us ws).length=ps.length->Dp s fd ⟨us,ks.zip ws⟩ (ps.zip (g us ws))
 rel:∀{vs:List V} {us:List AF} {zs:List V} {ws:List AF},Vals vs us->Vals zs ws->Vals (gV vs zs) (g us ws)
variable {g:List AF->List AF->List AF}{gV:List V->List V->List V}
end
structure yam(N P:List AM)(sc:An):Prop where
 kind:sc.kind=.function
 co:sc.isCoroutine=AE
 gen:sc.isGenerator=AE
 nd:N.Nodup
 pre:N.take P.length=P
 par:∀x∈P,sc.names.lookup x=AA .local \/ sc.names.lookup x=AA .cell
 nofree:∀y∈sc.names,y.2 ≠ .free
def zbO{kindOf:AM->Option Bg}{x:AM}:∀{binds:List (AM×AF)} {m:AM->Option AF},(∀v,(x,v)∉binds)->bindL kindOf binds m x=m x
 |[],_,_=>rfl
 |(n,v)::r,m,h=>by
  unfold bindL;rw[zbO λw hw=>h w (AK _ hw)];split
  .have:x≠n:=by rintro rfl;exact h v AW
   simp[this]
  .rfl
def zbI{kindOf:AM->Option Bg}{x:AM}:∀{binds:List (AM×AF)} {m:AM->Option AF},(∀v,(x,v)∉binds)->bindC kindOf binds m x=m x
 |[],_,_=>rfl
 |(n,v)::r,m,h=>by
  unfold bindC;rw[zbI λw hw=>h w (AK _ hw)];split
  .rfl
  .have:x≠n:=by rintro rfl;exact h v AW
   simp[this]
def zbq{kindOf:AM->Option Bg}{x:AM}{v:AF}:∀{P:List AM} {vs:List AF} {i:Nat} {m:AM->Option AF},P.Nodup->P[i]?=AA x->vs[i]?=AA v->kindOf x=AA .local ->
  bindL kindOf (P.zip vs) m x=AA v
 |[],_,_,_,_,h,_,_=>by simp at h
 |_::_,[],_,_,_,_,h,_=>by simp at h
 |p::P,w::vs,0,m,nd,h1,h2,hk=>by
  simp at h1 h2;subst h1;subst h2;show bindL kindOf ((p,w)::P.zip vs) m p=_;unfold bindL;rw[zbO λv hv=>(Cz.mp nd).1 (DA hv).1,if_pos hk];simp
 |p::P,w::vs,i+1,m,nd,h1,h2,hk=>by
  show bindL kindOf ((p,w)::P.zip vs) m x=_;unfold bindL;exact zbq (i:=i) (Cz.mp nd).2 (by simpa using h1) (by simpa using h2) hk
def zbQ{kindOf:AM->Option Bg}{x:AM}{v:AF}:∀{P:List AM} {vs:List AF} {i:Nat} {m:AM->Option AF},P.Nodup->P[i]?=AA x->vs[i]?=AA v->kindOf x≠AA .local ->
  bindC kindOf (P.zip vs) m x=AA v
 |[],_,_,_,_,h,_,_=>by simp at h
 |_::_,[],_,_,_,_,h,_=>by simp at h
 |p::P,w::vs,0,m,nd,h1,h2,hk=>by
  simp at h1 h2;subst h1;subst h2;show bindC kindOf ((p,w)::P.zip vs) m p=_;unfold bindC;rw[zbI λv hv=>(Cz.mp nd).1 (DA hv).1,if_neg hk];simp
 |p::P,w::vs,i+1,m,nd,h1,h2,hk=>by
  show bindC kindOf ((p,w)::P.zip vs) m x=_;unfold bindC;exact zbQ (i:=i) (Cz.mp nd).2 (by simpa using h1) (by simpa using h2) hk
def start(N:List AM)(vs:List V):St:=vs.map AA++Am (N.length-vs.length) AB
def yav(CX:CXT)(P:A1)(w:Ab)(K:AD)(mg:AM->Option AF)(base:Ao)(N:List AM)(qual:AM)(scope:An)(f:AG)(cd:AF)(A:A5)(outer:List Env)(s:AH)(H:Hp)(E:XK):Cx where
 prog:=P
 w:=w
 K:=K
 mg:=mg
 base:=base
 A:=A.deeper (envOfC qual scope s.heap.objs.size f cd)
 N:=N
 s₀:=s
 H₀:=H
 env:=envOfC qual scope s.heap.objs.size f cd
 outer:=outer
 stack:=envOfC qual scope s.heap.objs.size f cd::outer
 ex:=[]
 calm:=AC
 fn:=λ_=>AC
 pn:=[]
 xe:=λe s'=>A2 (model P w) (A.deeper (envOfC qual scope s.heap.objs.size f cd)) («leaving» (envOfC qual scope s.heap.objs.size f cd) e) (λ_ s''=>CX outer H s E e s'') (λe' s''=>CX outer H s E e' s'') s'
def zcp{sc:An}{n:Nat}{x:AM}(h:sc.names.lookup x=AA .cell):∃c,(cellsFrom n sc.names []).lookup x=AA c:=by
 have q:=Cd sc.names n [] (.inl h);exact A9.mp q
def zbV{CX:CXT}{P:A1}{w:Ab}{K:AD}{mg:AM->Option AF}{base:Ao}{N ps:List AM}{qual:AM}{scope:An}{f:AG}{cd:AF}{A:A5}{outer:List Env}{s s1:AH}{H:Hp}{E:XK}{us:List AF}{vs:List V}
  (S:yam N ps scope) (hd:A.handled=AB) (e0:yct P w K mg base A outer s H) (hl:vs.length=ps.length) (r:Vals vs us)
  (x:InCallC s s.heap.objs.size (bindL (envOfC qual scope s.heap.objs.size f cd).kindOf (ps.zip us) λ_=>AB) (cellsFrom (s.heap.objs.size+1) scope.names []) (bindC (envOfC qual scope s.heap.objs.size f cd).kindOf (ps.zip us) λ_=>AB) s1):
  Inv (yav CX P w K mg base N qual scope f cd A outer s H E) [] (start N vs) H s1:=by
 have hpl:ps.length<=N.length:=by have:=congrArg Bd S.pre;rw[Dc]at this;lia
 let⟨h1,tk,rfl,hk⟩:=x.done;have noA:∀b:AG,b∉(yav CX P w K mg base N qual scope f cd A outer s H E).ex:=λb z=>absurd (show b∈([]:List AG)from z) (by simp);refine⟨⟨e0.mod,S.kind,rfl,rfl,AN _,λy z c h1 h2=>?_,λy hy=>?_,λy c _ h=>?_,λ_=>hd,Around.frames_deeper e0.frames,.inr ⟨rfl,rfl⟩,λb z=>absurd z (noA b),e0.bs,e0.bsz,λb _ _=>noA b,λb z=>absurd z (noA b),e0.funs,e0.frf⟩,
  rfl,e0.bare,Un.kept hk,⟨_,x.toInCall.ns,λi y v h1 h2 h3=>?_⟩,λy c h=>⟨_,x.cell y c h⟩,e0.hok.fresh (AN _),λy c h=>?_,λp hp=>absurd (show p∈([]:List (AG×BW))from hp) (by simp),e0.hok.kept hk,?_⟩
 .exact name_of_addr x.apart (CB h1) (CB h2)
 .have hy:scope.names.lookup y=AA .cell \/ scope.names.lookup y=AA .free:=hy;rcases hy with hy|hy
  .exact zcp hy
  .exact absurd rfl (S.nofree _ (CB hy))
 .exact Ej (x.above y c (CB h))
 .have hi:i<vs.length:=by
   unfold start at h2
   by_cases hi:i<vs.length
   .exact hi
   .rw[A0 (by simpa using hi)]at h2;rw[De]at h2;split at h2<;>cases h2
  have ha:vs[i]?=AA v:=by
   unfold start at h2;rw[AO (by simpa using hi),Au]at h2
   cases e:vs[i]? with
   |none=>rw[e]at h2;cases h2
   |some a=>rw[e]at h2;cases h2;rfl
  let⟨u,hu,rv⟩:=r.get ha;have hp:ps[i]?=AA y:=by
   rw[<-S.pre,List.getElem?_take_of_lt ∅];exact h1
  have ndP:ps.Nodup:=by rw[<-S.pre];exact S.nd.sublist (List.take_sublist _ _)
  refine⟨u,rv,?_⟩;rcases S.par y (AY hp)with k|k
  .exact .inl ⟨k,zbq ndP hp hu k⟩
  .let⟨c,e⟩:=zcp (n:=s.heap.objs.size+1) k;refine .inr ⟨.inl k,c,e,?_⟩;have q:=x.cell y c e;rw[zbQ ndP hp hu (by show scope.names.lookup y≠_;rw[k];decide)]at q;exact q
 .exact e0.hok.fresh (Ej (x.above y c (CB h)))
 .unfold start;show _=N.length;rw[Aq,Ak,List.length_replicate];lia
def zki{CX:CXT}{P:A1}{w:Ab}{K:AD}{mg:AM->Option AF}{base:Ao}{k:Nat}{f:AG}{name qual:AM}{params:Arguments}{body:List B8}{scope:An}{dV kV doc pm cdv ct oc:AF}{an od:Option AG}
  {osl:Array (Option AF)} {N ps:List AM} {sp:Sp} (lk:K.lookup f=AA ⟨oc,od,.func (BM name qual params body scope dV kV doc pm an cdv ct),osl⟩) (hcd:Bi K cdv qual=AC) (S:yam N ps scope)
  (len:∀vs H Q E,sp vs H Q E->vs.length=ps.length)
  (hbody:∀(A:A5) (outer:List Env) (s:AH) (H:Hp) (vs:List V) (Q:VK) (E:XK),yat k (A.deeper (envOfC qual scope s.heap.objs.size f cdv))->sp vs H Q E ->
   ∃t,PSs (yav CX P w K mg base N qual scope f cdv A outer s H E) body t/\t {nx:=λ_ H'=>Q .non H',rt:=Q} (start N vs) H):
  yaM P w K mg base CX (k+1) f (BM name qual params body scope dV kV doc pm an cdv ct) ps sp:=by
 refine⟨len,λA outer s H args us vs Q E hr e0 hb r hsp=>?_⟩;have hl:=len _ _ _ _ hsp;have KX:K.In s.heap:=e0.mod.kin.keeps λb o e=>(e0.bs b o e).1;have lim:s.heap.NoLimit:=e0.mod.nolimit.keeps λb o e=>(e0.bs b o e).1;have hkind:∀y∈ps.zip us,scope.names.lookup y.1=AA .local \/ (scope.names.lookup y.1=AA .cell/\((cellsFrom (s.heap.objs.size+1) scope.names []).lookup y.1).isSome=AC):=λ⟨n,v⟩ hy=>by
  rcases S.par n (DA hy).1 with q|q
  .exact .inl q
  .exact .inr ⟨q,Cd _ _ _ (.inl q)⟩
 refine EF hr.depth (KX _ _ lk) rfl S.co S.gen rfl (Ec KX hcd) (hb _ _ _ _ ?_);refine DP S.kind hkind λenv he s1 x=>?_;subst he;refine⟨lim.keeps x.toInCall.keep,codeAny_func ?_⟩;let⟨t,ht,hq⟩:=hbody A outer s H vs Q E (hr.deeper _) hsp;have I:Inv (yav CX P w K mg base N qual scope f cdv A outer s H E) [] (start N vs) H s1:=zbV S hr.hd e0 hl r x;refine BD (ht [] s1 (start N vs) H _ I hq) (λfl s' hs=>?_) λe s' hs=>hs;have fin:∀{σ':St} {H':Hp} {v:V} {u:AF},Inv (yav CX P w K mg base N qual scope f cdv A outer s H E) [] σ' H' s'->RelV v u->Q v H'->CE outer P w H s Q u s':=
  λ{σ' H' v u} J rv q=>⟨v,H',J.os,J.bare,J.base,J.hok,rv,q⟩
 cases fl with
 |ret u=>
  let⟨v,σ',H',J,rv,q⟩:=hs;exact fin J rv q
 |next=>
  let⟨σ',H',J,q⟩:=hs;exact fin (v:=V.non) (u:=Bf) J rfl q
 |brk=>
  let⟨_,_,_,q⟩:=hs;exact BP q
 |cont=>
  let⟨_,_,_,q⟩:=hs;exact BP q
section
variable {X:Cx}{x:AM}{p pos:BX}{e:AL}{es:List AL}{t:TA}{id T:String}{r:List V->Hp->VK->Prop}
def tCB(r:List V->Hp->VK->Prop)(t:TA):TE:=λσ H Q=>t σ H λvs H1=>r vs H1 Q
def zcT(hc:yab X (.builtin id) r)(hg:Gl X x)(hm:X.mg x=AB)(hv:bootBuiltins x=AA (.builtin id))(ha:PA X (e::es) t)(hn:x ≠ "__name__":=by decide)(hdb:(x==("__debug__":AM))=false:=by decide)
  (he:starEach (e::es) X.env=(AE,eval e X.env)::starEach es X.env:=by rfl) (hpl:(backTo pos (starEach es X.env)).any (·.1)=false:=by rfl):PE X (.Call (.Name x p) (e::es) [] pos) (tCB r t):=by
 intro π s σ H Q I h;refine BQ (zbG I hg hm hv ?_ hn hdb);exact FM (thn (ha pos π s σ H _ I h) λus s1 ⟨vs,H1,I1,r1,q1⟩=>hc π s1 σ H1 vs us Q I1 r1 q1) he hpl
def zbH(hc:yab X (.type T) r)(hg:Gl X x)(hm:X.mg x=AB)(hv:bootBuiltins x=AA (.type T))(ha:PA X (e::es) t)(hn:x ≠ "__name__":=by decide)(hdb:(x==("__debug__":AM))=false:=by decide)
  (he:starEach (e::es) X.env=(AE,eval e X.env)::starEach es X.env:=by rfl) (hpl:(backTo pos (starEach es X.env)).any (·.1)=false:=by rfl):PE X (.Call (.Name x p) (e::es) [] pos) (tCB r t):=by
 intro π s σ H Q I h;refine BQ (zbG I hg hm hv ?_ hn hdb);exact CO (thn (ha pos π s σ H _ I h) λus s1 ⟨vs,H1,I1,r1,q1⟩=>hc π s1 σ H1 vs us Q I1 r1 q1) he hpl
end
end L2
namespace HT
open PySem PyProof.Rows
section
open PySem.SeqAt
open PySem.AutoSeq1 (wpAny_loadPart')
open PySem.MeetsSeq PySem.MeetsSeq2 PySem.MeetsSeq3
end
section
variable {prog:A1}{w:Ab}{A:A5}{E:AF->AH->Prop}{s:AH}
theorem cat_tup{t b:AG}{vs ws:List AF}{Q:AF->AH->Prop}(ht:IsTup s.heap t vs.toArray)(hb:IsTup s.heap b ws.toArray)(hv:vs≠[])
  (h1:ws=[]->Q (.ref t) s) (h2:ws≠[]->Q (.ref s.heap.objs.size) {s with heap:=s.heap.push {cls:=.type "tuple",data:=.seq (vs++ws).toArray} })
  (hsz:vs.length+ws.length<=sizeLine):A2 (model prog w) A (binaryOp .Add (.ref t) (.ref b)) Q E s:=by
 let⟨⟨cls,dd,data,sl⟩,ho,hc,n,hd⟩:=id ht;let⟨⟨cls2,dd2,data2,sl2⟩,ho2,hc2,n2,hd2⟩:=id hb;simp only at hc hd hc2 hd2;subst hc hd hc2 hd2;have e:vs.toArray++ws.toArray=(vs++ws).toArray:=by simp
 by_cases hw:ws=[]
 .exact Ep ⟨_,ho,rfl⟩ ⟨_,ho2,rfl⟩ Dg E6 Cf C8 (CZ _ _)
   (tuple_addW1 t b vs.toArray ws.toArray n n2 dd dd2 sl sl2 (by simpa using hv) (by simp[hw])) ⟨ho,ho2,h1 hw⟩
 .refine Ep ⟨_,ho,rfl⟩ ⟨_,ho2,rfl⟩ Dg E6 Cf C8 (CZ _ _)
   (tuple_addW2 t b vs.toArray ws.toArray n n2 dd dd2 sl sl2 (by simpa using hv) (by simpa using hw) (by rw[AV,AV];exact hsz)) ⟨ho,ho2,?_⟩
  rw[e];exact h2 hw
def sIx(n d:Nat):Option Int->Nat
 |none=>d
 |some v=>if v<0 then(v+(n:Int)).toNat else min v.toNat n
theorem sIx_le(n d:Nat)(hd:d<=n)(o:Option Int):sIx n d o<=n:=by
 cases o with
 |none=>exact hd
 |some v=>
  show (if v<0 then(v+(n:Int)).toNat else min v.toNat n)<=n
  by_cases hv:v<0
  .rw[if_pos hv];lia
  .rw[if_neg hv];exact Nat.min_le_right _ _
def zdU(v:Int)(n d:Nat):(if v<0 then max (v+(n:Int)) 0 else min v (n:Int))=((sIx n d (AA v):Nat):Int):=by
 show (if v<0 then max (v+(n:Int)) 0 else min v (n:Int))=(((if v<0 then(v+(n:Int)).toNat else min v.toNat n):Nat):Int)
 by_cases hv:v<0
 .simp only[if_pos hv];lia
 .simp only[if_neg hv];lia
def zdc(lo hi:Option Int)(n:Nat):CW lo hi 1 (n:Int)=(((sIx n 0 lo:Nat):Int),((sIx n n hi:Nat):Int)):=by
 have h1:¬((1:Int)<0):=by lia
 unfold CW;erw[h1,if_false];refine Prod.ext ?_ ?_
 .cases lo with
  |none=>rfl
  |some v=>exact zdU v n 0
 .cases hi with
  |none=>rfl
  |some v=>exact zdU v n n
def zdk(i j:Nat):Bl (i:Int) (j:Int) 1=j-i:=by
 unfold Bl;have h1:(1:Int) > 0:=by lia
 erw[h1,if_true,Int.ediv_one];split<;>lia
def za6{v:AF}{o:Option Int}{Q:Option Int->AH->Prop}(p:Dq v o)(h:Q o s):A2 (model prog w) A (FX v) Q E s:=by
 cases p with
 |none=>exact slicePart_none h
 |int i t=>exact slicePart_int h
theorem sliceApplied_gen{sl:AG}{vl vu:AF}{lo hi:Option Int}{n:Nat}{Q:Int×Int×Nat->AH->Prop}(hs:s.heap.IsSliceOf sl vl vu .none)(pl:Dq vl lo)(pu:Dq vu hi)
  (h:Q (((sIx n 0 lo:Nat):Int),1,sIx n n hi-sIx n 0 lo) s):A2 (model prog w) A (DQ (.ref sl) (pure (n:Int))) Q E s:=by
 let⟨os,hos,hcs,hds⟩:=id hs;unfold DQ Fa;refine AJ (AJ (CJ hos hds (x:=vl) rfl (AJ (CJ hos hds (x:=vu) rfl (AJ (CJ hos hds (x:=.none) rfl (AQ ?_)))))));refine AJ (slicePart_none ?_);show A2 _ _ (if ((1:Int)==0)=AC then _ else _) _ _ s;rw[if_neg ⋯];refine AJ (za6 pl (AJ (za6 pu (AJ (AQ ?_)))));show A2 _ _ (match CW lo hi 1 (n:Int)with|(lo,hi)=>pure (lo,(1:Int),Bl lo hi 1)) _ _ s;rw[zdc lo hi n];show A2 _ _ (pure (((sIx n 0 lo:Nat):Int),(1:Int),Bl ((sIx n 0 lo:Nat):Int) ((sIx n n hi:Nat):Int) 1)) _ _ s;rw[zdk];exact AQ h
def zfD(xs:Array AF)(i k:Nat):((Cm k).filterMap λ(m:Nat)=>xs[((i:Int)+(m:Int)*1).toNat]?).toArray=((xs.toList.drop i).take k).toArray:=by
 have e:(λ(m:Nat)=>xs[((i:Int)+(m:Int)*1).toNat]?)=λm=>xs[i+m]?:=by
  funext m
  have:((i:Int)+(m:Int)*1).toNat=i+m:=by lia
  rw[this]
 rw[e];have:=pick_run xs i k;rw[List.filterMap_map]at this;have e2:((λx=>xs[x]?) ∘ λx=>i+x)=λm=>xs[i+m]?:=rfl;rw[e2]at this;rw[this]
theorem getItem_tuple_cut{t sl:AG}{items:Array AF}{vl vu:AF}{lo hi:Option Int}{Q:AF->AH->Prop}(ht:IsTup s.heap t items)(hs:s.heap.IsSliceOf sl vl vu .none)(pl:Dq vl lo)(pu:Dq vu hi)
  (hw:¬(sIx items.size 0 lo=0/\sIx items.size items.size hi=items.size))
  (h:Q (.ref s.heap.objs.size) {s with heap:=s.heap.push {cls:=.type "tuple",data:=.seq ((items.toList.drop (sIx items.size 0 lo)).take (sIx items.size items.size hi-sIx items.size 0 lo)).toArray} })
  (hsz:items.size<=sizeLine):A2 (model prog w) A (getItem (.ref t) (.ref sl)) Q E s:=by
 have htake:sizeOk (.seq ((items.toList.drop (sIx items.size 0 lo)).take (sIx items.size items.size hi-sIx items.size 0 lo)).toArray):=by
  show ((items.toList.drop (sIx items.size 0 lo)).take (sIx items.size items.size hi-sIx items.size 0 lo)).toArray.size<=sizeLine;rw[AV,Dc,FN,DC];lia
 have hj:sIx items.size items.size hi<=items.size:=sIx_le _ _ (AN _) hi;let⟨os,hos,hcs,hds⟩:=id hs;have hTs:s.TypeIs (.ref sl) "slice":=⟨os,hos,hcs⟩;unfold getItem
 try with_reducible refine Bu ?_
 first|refine AJ (AQ ?_)|skip
 refine AJ (Es ht.typeIs ⋯ ?_);refine AJ (CD (name:=A4 "__getitem__") ht.typeIs Ar
  (Co Ar ht.typeIs EZ ?_ (Ed _ _)))
 show A2 _ _ (CQ (.ref t) >>= _) _ _ s;refine AJ (EW ht ?_);refine AJ (Et hTs ?_);rw[if_pos ⋯];refine AJ (sliceApplied_gen hs pl pu ?_);have hno:¬((((sIx items.size 0 lo:Nat):Int)==0&&(1:Int)==1&&(sIx items.size items.size hi-sIx items.size 0 lo)==items.size)=AC):=by
  intro q;rw[AI,AI]at q;have q1:((sIx items.size 0 lo:Nat):Int)=0:=eq_of_beq q.1.1;have q2:sIx items.size items.size hi-sIx items.size 0 lo=items.size:=eq_of_beq q.2;exact hw ⟨by lia,by lia⟩
 show A2 _ _ (if (((sIx items.size 0 lo:Nat):Int)==0&&(1:Int)==1&&(sIx items.size items.size hi-sIx items.size 0 lo)==items.size)=AC then _ else _) _ _ s;rw[if_neg hno,zfD]
 first
  |exact AJ (m:=Bv _) (BE (AQ ⟨_,rfl,AQ h⟩) htake)
  |exact AJ (m:=Bv _) (BE (AJ (AQ (AQ ⟨_,rfl,AQ h⟩))) htake)
  |exact AJ (AJ (m:=Bv _) (BE (AQ (AQ ⟨_,rfl,AQ h⟩)) htake))
  |exact AJ (AJ (m:=Bv _) (BE (AQ ⟨_,rfl,AQ h⟩) htake))
end
end HT
namespace L2
open PySem PySem.Spec PyProof.Rows
abbrev TO:=St->Hp->(Option Int->Hp->Prop)->Prop
def PO(X:Cx)(e:Option AL)(t:TO):Prop:=
 ∀(π:List (AG×BW)) (s:AH) (σ:St) (H:Hp) (Q:Option Int->Hp->Prop),Inv X π σ H s->t σ H Q ->
  A2 (model X.prog X.w) X.A (evalPart e X.env) (λu s'=>∃o H',Inv X π σ H' s'/\Dq u o/\Q o H') X.xe s
def ycm:TO:=λ_ H Q=>Q AB H
section
variable {X:Cx}{e:AL}{te:TE}{lo hi:Option AL}{tl th:TO}{pos p2:BX}
def zhZ:PO X AB ycm:=by
 intro π s σ H Q I h;rw[evalPart_none];exact AQ ⟨AB,H,I,.none,h⟩
def SlR(X:Cx)(r:V->Option Int->Option Int->Hp->VK->Prop):Prop:=
 ∀(π:List (AG×BW)) (s:AH) (σ:St) (H:Hp) (x:V) (v vl vu:AF) (lo hi:Option Int) (sl:AG) (Q:VK),Inv X π σ H s->RelV x v->s.heap.IsSliceOf sl vl vu .none->Dq vl lo->Dq vu hi->r x lo hi H Q ->
  ∃T id,typeLookup (.type T) "__getitem__"=pure (AA (.builtin id))/\s.TypeIs v T/\A2 (model X.prog X.w) X.A (getItem v (.ref sl)) (EP X π σ Q) X.xe s
def tSl(r:V->Option Int->Option Int->Hp->VK->Prop)(te:TE)(tl th:TO):TE:=λσ H Q=>te σ H λx H1=>tl σ H1 λl H2=>th σ H2 λu H3=>r x l u H3 Q
def zfZ{r:V->Option Int->Option Int->Hp->VK->Prop}(hr:SlR X r)(he:PE X e te)(hl:PO X lo tl)(hu:PO X hi th):PE X (.Subscript e (.Slice lo hi AB p2) pos) (tSl r te tl th):=by
 intro π s σ H Q I h;refine F5 (thn (he π s σ H _ I h) λv s1 kq=>?_);let⟨x,H1,I1,r1,q1⟩:=kq;refine wpAny_Slice (thn (hl π s1 σ H1 _ I1 q1) λvl s2 kq=>?_);let⟨l,H2,I2,pl,q2⟩:=kq;refine thn (hu π s2 σ H2 _ I2 q2) λvu s3 kq=>?_;let⟨u,H3,I3,pu,q3⟩:=kq;rw[evalPart_none];refine AQ ?_;have I4:Inv X π σ H3 {s3 with heap:=s3.heap.push {cls:=.type "slice",data:=.fields #[vl,vu,.none]} }:=I3.kept (t':=s3.toks) λb ob q=>AS _ q;let⟨T,id,hT,ht,hg⟩:=hr π {s3 with heap:=s3.heap.push {cls:=.type "slice",data:=.fields #[vl,vu,.none]} } σ H3 x v vl vu l u s3.heap.objs.size Q I4 r1 (GN ..) pl pu q3;show A2 (model X.prog X.w) X.A (subscriptTail e (.Slice lo hi AB p2) v (.ref s3.heap.objs.size)) (EP X π σ Q) X.xe {s3 with heap:=s3.heap.push {cls:=.type "slice",data:=.fields #[vl,vu,.none]} };exact tail_any (ops:=[.ref s3.heap.objs.size,v]) ht hT hg (by with_unfolding_all rfl)
def yb4(xs:List V)(lo hi:Option Int):List V:=(xs.drop (HT.sIx xs.length 0 lo)).take (HT.sIx xs.length xs.length hi-HT.sIx xs.length 0 lo)
def zay(xs:List V)(lo hi:Option Int):(yb4 xs lo hi).length<=xs.length:=by
 unfold yb4;rw[Dc,FN];lia
def yfE(K:AD):V->Option Int->Option Int->Hp->VK->Prop:=λx lo hi H Q=>∃a xs,x=.ref a/\SqT K H a xs /\
 ¬(HT.sIx xs.length 0 lo=0/\HT.sIx xs.length xs.length hi=xs.length)/\∀p,H p=AB->Q (.ref p) (upd H p (.tup (yb4 xs lo hi)))
def zjT:SlR X (yfE X.K):=by
 intro π s σ H x v vl vu lo hi sl Q I rx hs pl pu h;let⟨a,xs,rfl,hx,hw,q⟩:=h
 cases rx
 let⟨its,r,ht,hz⟩:=I.tuple hx;have hlen:its.toArray.size=xs.length:=by rw[AV];exact r.length.symm
 refine⟨"tuple",_,Ar.lookup,ht.typeIs,?_⟩;refine HT.getItem_tuple_cut ht hs pl pu (by rw[hlen];exact hw) ?_ (by rw[hlen];exact hz);rw[hlen];refine⟨.ref s.heap.objs.size,_,I.laid (t':=s.toks) (o:=.tup (yb4 xs lo hi)) (λb ob q=>AS _ q) (AN _) ?_,rfl,q _ (I.hok.fresh (AN _))⟩;exact⟨Az (zay xs lo hi) hz,_,(r.drop (HT.sIx xs.length 0 lo)).take (HT.sIx xs.length xs.length hi-HT.sIx xs.length 0 lo),A6 _ rfl⟩
def ydK(K:AD):R2:=λx y H Q=>∃a b xs ys,x=.ref a/\y=.ref b/\SqT K H a xs/\SqT K H b ys/\xs≠[]/\xs.length+ys.length<=sizeLine /\
 (ys=[]->Q (.ref a) H)/\(ys≠[]->∀p,H p=AB->Q (.ref p) (upd H p (.tup (xs++ys))))
theorem Vals.nil_iff{xs:List V}{us:List AF}(r:Vals xs us):us=[] ↔ xs=[]:=by
 cases r with
 |nil=>simp
 |cons _ _=>simp
def zgQ:OpR X (binaryOp .Add) (ydK X.K):=by
 intro π s σ H x y v u Q I rx ry h;let⟨a,b,xs,ys,rfl,rfl,ha,hb,hx,hz,q1,q2⟩:=h
 cases rx
 cases ry
 let⟨its,r1,p1,_⟩:=I.tuple ha;let⟨its2,r2,p2,_⟩:=I.tuple hb;refine HT.cat_tup p1 p2 (λz=>hx (r1.nil_iff.mp z)) (λz=>⟨.ref a,H,I,rfl,q1 (r2.nil_iff.mp z)⟩) (λz=>?_) (by rw[<-r1.length,<-r2.length];exact hz);refine⟨.ref s.heap.objs.size,_,I.laid (t':=s.toks) (o:=.tup (xs++ys)) (λb ob q=>AS _ q) (AN _) ?_,rfl,q2 (λw=>z (r2.nil_iff.mpr w)) _ (I.hok.fresh (AN _))⟩;exact⟨by rw[Aq];exact hz,_,r1.append r2,A6 _ rfl⟩
end
def ixN(n:Nat)(i:Int):Option Nat:=if 0<=i then(if i<n then AA i.toNat else AB)else if -(n:Int)<=i then AA (i+n).toNat else AB
def atI{α:Type}(xs:List α)(i:Int):Option α:=(ixN xs.length i).bind λj=>xs[j]?
def ze4{n:Nat}{i:Int}{j:Nat}(h:ixN n i=AA j):seqIndex? i n=AA j/\j<n/\-(n:Int)<=i/\i<n:=by
 unfold ixN at h
 by_cases h0:0<=i
 .rw[if_pos h0]at h
  by_cases h1:i<n
  .rw[if_pos h1]at h;have e:i.toNat=j:=AU h;exact⟨by rw[FU h0 h1,e],by lia,by lia,h1⟩
  .rw[if_neg h1]at h;cases h
 .rw[if_neg h0]at h
  by_cases h1:-(n:Int)<=i
  .rw[if_pos h1]at h;have e:(i+n).toNat=j:=AU h;exact⟨by rw[seqIndex_neg ∅ h1,e],by lia,h1,by lia⟩
  .rw[if_neg h1]at h;cases h
def zb0{α:Type}{xs:List α}{i:Int}{v:α}(h:atI xs i=AA v):∃j,seqIndex? i xs.length=AA j/\xs[j]?=AA v/\j<xs.length/\-(xs.length:Int)<=i/\i<xs.length:=by
 unfold atI at h
 cases e:ixN xs.length i with
 |none=>rw[e]at h;cases h
 |some j=>
  rw[e]at h;let⟨h1,h2,h3,h4⟩:=ze4 e;exact⟨j,h1,h,h2,h3,h4⟩
def yaX(b:AL):Prop:=∀o i,subscripted b AE o i=operate [o,i] (getItem o i)
def IxR(X:Cx)(r:R2):Prop:=
 ∀(value slice:AL) (π:List (AG×BW)) (s:AH) (σ:St) (H:Hp) (x y:V) (v u:AF) (Q:VK),Inv X π σ H s->RelV x v->RelV y u->r x y H Q ->
  subscripted slice AE v u=operate [v,u] (getItem v u)->A2 (model X.prog X.w) X.A (subscriptTail value slice v u) (EP X π σ Q) X.xe s
def MtR(X:Cx)(id:String)(r:V->List V->Hp->VK->Prop):Prop:=
 ∀(π:List (AG×BW)) (s:AH) (σ:St) (H:Hp) (x:V) (xs:List V) (v:AF) (us:List AF) (Q:VK),Inv X π σ H s->RelV x v->Vals xs us->r x xs H Q ->
  A2 (model X.prog X.w) X.A (call (.builtin id) (v::us)) (EP X π σ Q) X.xe s
section
variable {X:Cx}{a b:AL}{ta tb:TE}{pos:BX}
theorem IxR.or{r r':R2}(h:IxR X r)(h':IxR X r'):IxR X (λx y H Q=>r x y H Q \/ r' x y H Q):=by
 intro value slice π s σ H x y v u Q I rx ry q hs;rcases q with q|q
 .exact h value slice π s σ H x y v u Q I rx ry q hs
 .exact h' value slice π s σ H x y v u Q I rx ry q hs
def zka{r:R2}(hr:IxR X r)(ha:PE X a ta)(hb:PE X b tb)(hs:yaX b):PE X (.Subscript a b pos) (tOp r ta tb):=by
 intro π s σ H Q I h;exact F5 (zkL ha hb I h λv u s2 x y H2 I2 rx ry q=>hr a b π s2 σ H2 x y v u Q I2 rx ry q (hs _ _))
def yer(K:AD):R2:=λx y H Q=>∃p xs i v,x=.ref p/\y=.int i/\SqL K H p xs/\atI xs i=AA v/\Q v H
def yem(K:AD):R2:=λx y H Q=>∃p xs i v,x=.ref p/\y=.int i/\SqT K H p xs/\atI xs i=AA v/\Q v H
def yeC:R2:=λx y H Q=>∃z i c,x=.str z/\y=.int i/\z.length<=sizeLine/\atI z.cps.toList i=AA c/\Q (.str ⟨#[c]⟩) H
def zk4:IxR X (yer X.K):=by
 intro value slice π s σ H x y v u Q I rx ry h hs;let⟨p,xs,i,z,rfl,rfl,hq,he,q⟩:=h
 cases rx
 let⟨t,rfl⟩:=ry;let⟨its,r,pl,hz⟩:=I.list hq;let⟨j,h1,h2,h3,h4,h5⟩:=zb0 he;let⟨w,ew,rw'⟩:=r.get h2;have hl:=r.length;have hn:=zkD;have fin:EP X π σ Q w s:=⟨z,H,I,rw',q⟩
 by_cases h0:0<=i
 .have hj:i.toNat=j:=by
   rw[FU h0 h5]at h1;exact AU h1
  exact item_listR pl.isList h0 ∅ (by rw[hj];simpa using ew) fin hs
 .have hj:(i+(its.toArray.size:Int)).toNat=j:=by
   rw[seqIndex_neg ∅ h4]at h1;rw[AV,<-hl];exact AU h1
  exact Dr (x:=w) pl.isList.typeIs Eu.lookup
   (wpAny_getItem_list_neg (Q:=λr s'=>r=w/\EP X π σ Q r s') pl.isList ∅ (by rw[AV]<;>lia) ∅ (by rw[hj];simpa using ew) ⟨rfl,fin⟩) hs
def zk5:IxR X (yem X.K):=by
 intro value slice π s σ H x y v u Q I rx ry h hs;let⟨p,xs,i,z,rfl,rfl,hq,he,q⟩:=h
 cases rx
 let⟨t,rfl⟩:=ry;let⟨its,r,pl,hz⟩:=I.tuple hq;let⟨j,h1,h2,h3,h4,h5⟩:=zb0 he;let⟨w,ew,rw'⟩:=r.get h2;have hl:=r.length;have hn:=zkD;have fin:EP X π σ Q w s:=⟨z,H,I,rw',q⟩;exact Dr (x:=w) pl.typeIs Ar.lookup
  (getItem_tuple (j:=j) (Q:=λr s'=>r=w/\EP X π σ Q r s') pl ∅ ∅ (by rw[AV,<-hl];exact h1) (by simpa using ew) ⟨rfl,fin⟩) hs
def ziu:IxR X yeC:=by
 intro value slice π s σ H x y v u Q I rx ry h hs;let⟨z,i,c,rfl,rfl,hz,he,q⟩:=h;let⟨t,rfl⟩:=rx;let⟨t',rfl⟩:=ry;let⟨j,h1,h2,h3,h4,h5⟩:=zb0 he;have hl:z.cps.toList.length=z.length:=by simp[Str.length]
 rw[hl]at h1 h4 h5;have hn:=zkD;exact tail_any (DR s z t) slot_str_getitem.lookup (getItem_str (c:=c) (by
  have e1:decide (i < -(2^63:Int))=false:=decide_eq_false ∅;have e2:decide (i ≥ 2^63)=false:=decide_eq_false ∅;rw[e1,e2,Fd]) (by rw[h1];simpa using h2) ⟨.str ⟨#[c]⟩,H,I.tok _,⟨_,rfl⟩,q⟩) hs
def rIx(K:AD):R2:=λx y H Q=>yer K x y H Q \/ yem K x y H Q \/ yeC x y H Q
def zcK:IxR X (rIx X.K):=zk4.or (zk5.or ziu)
def zdp(its:List AF)(n j:Nat)(u:AF):Ds (·.setIfInBounds j u) {cls:=.type "list",data:=.seq its.toArray n}={cls:=.type "list",data:=.seq (its.set j u).toArray n}:=by
 simp[Ds]
theorem Inv.lst{π:List (AG×BW)}{σ:St}{H:Hp}{s:AH}{p:AG}{xs:List V}(I:Inv X π σ H s)(h:H p=AA (.lst xs)):
  ∃(its:List AF) (n:Nat),Vals xs its/\s.heap.get? p=AA {cls:=.type "list",data:=.seq its.toArray n}/\xs.length<=sizeLine:=by
 let⟨z,its,n,r,e⟩:=I.hok p _ h;exact⟨its,n,r,e,z⟩
theorem Inv.lstUpd{π:List (AG×BW)}{σ:St}{H:Hp}{s:AH}{p:AG}{xs ys:List V}{its its':List AF}{n n':Nat}{f:BW->BW}(I:Inv X π σ H s)(h:H p=AA (.lst xs))
  (ho:s.heap.get? p=AA {cls:=.type "list",data:=.seq its.toArray n}) (hf:f {cls:=.type "list",data:=.seq its.toArray n}={cls:=.type "list",data:=.seq its'.toArray n'}) (r:Vals ys its') (hz:ys.length<=sizeLine) (t:Nat):
  Inv X π σ (upd H p (.lst ys)) {s with heap:=s.heap.update p f,toks:=t}:=by
 have e:(s.heap.update p f).get? p=AA {cls:=.type "list",data:=.seq its'.toArray n'}:=by
  rw[EG f ho (by rw[hf]<;>rfl),hf]
 refine I.write (x:=p) (e:=p) (by rw[h];trivial) (.inl rfl) (λb u hb q=>(Cg _ _ (BI hb)).trans q) ⟨_,e⟩ ?_;exact⟨hz,its',n',r,e⟩
def ycQ:V->V->V->Hp->(Hp->Prop)->Prop:=λo i v H Q=>∃p xs k j,o=.ref p/\i=.int k/\H p=AA (.lst xs)/\ixN xs.length k=AA j/\Q (upd H p (.lst (xs.set j v)))
def zcw:yeG X ycQ:=by
 intro π s σ H o i v ov iv u Q I ro ri rv h;let⟨p,xs,k,j,rfl,rfl,hp,hj,q⟩:=h
 cases ro
 let⟨t,rfl⟩:=ri;let⟨its,n,r,ho,hz⟩:=I.lst hp;let⟨h1,h2,h3,h4⟩:=ze4 hj;have hl:=r.length;have hn:=zkD;have I':Inv X π σ (upd H p (.lst (xs.set j v))) {s with heap:=s.heap.update p (Ds (·.setIfInBounds j u))}:=
  I.lstUpd hp ho (zdp its n j u) (r.set rv j) (by rw[BF];exact hz) s.toks
 by_cases h0:0<=k
 .have hk:k.toNat=j:=by
   rw[FU h0 h4]at h1;exact AU h1
  exact PySem.W.ki_setAt ho h0 ∅ (by rw[AV,<-hl];exact h4) (by rw[hk];exact⟨_,I',q⟩)
 .have hk:(k+(its.toArray.size:Int)).toNat=j:=by
   rw[seqIndex_neg ∅ h3]at h1;rw[AV,<-hl];exact AU h1
  exact PySem.W.ki_setBack ho ∅ (by rw[AV,<-hl];exact h3) ∅ (by rw[hk];exact⟨_,I',q⟩)
def zby(lo hi:Option Int)(n:Nat):(sliceBounds lo hi AB n).1=((HT.sIx n 0 lo:Nat):Int)/\(sliceBounds lo hi AB n).2.1=((HT.sIx n n hi:Nat):Int)/\(sliceBounds lo hi AB n).2.2=1:=by
 refine⟨?_,?_,rfl⟩
 .cases lo with
  |none=>simp[sliceBounds,HT.sIx]
  |some i=>
   erw[sliceBounds,HT.sIx,FO,show (1:Int) > 0 by decide,if_true]
   by_cases h:i<0
   .simp only[h,if_true]<;>lia
   .simp only[h,if_false]<;>lia
 .cases hi with
  |none=>simp[sliceBounds,HT.sIx]
  |some i=>
   erw[sliceBounds,HT.sIx,FO,show (1:Int) > 0 by decide,if_true]
   by_cases h:i<0
   .simp only[h,if_true]<;>lia
   .simp only[h,if_false]<;>lia
def za7(its:List AF)(lo hi:Option Int):slicePick its.toArray lo hi AB=((its.drop (HT.sIx its.length 0 lo)).take (HT.sIx its.length its.length hi-HT.sIx its.length 0 lo)).toArray:=by
 let⟨h1,h2,h3⟩:=zby lo hi its.toArray.size;unfold slicePick;rw[h1,h2,h3];erw[sliceRange_one,pick_run,AV]<;>rfl
def ygl(K:AD):V->Option Int->Option Int->Hp->VK->Prop:=λx lo hi H Q=>∃a xs,x=.ref a/\SqL K H a xs/\∀p,H p=AB->Q (.ref p) (upd H p (.lst (yb4 xs lo hi)))
def zec:SlR X (ygl X.K):=by
 intro π s σ H x v vl vu lo hi sl Q I rx hs pl pu h;let⟨a,xs,rfl,hx,q⟩:=h
 cases rx
 let⟨its,r,ht,hz⟩:=I.list hx;have hlen:=r.length;refine⟨"list",_,Eu.lookup,ht.isList.typeIs,?_⟩;refine wpAny_getItem_list_slice ht.isList hs pl pu .none (by simp) ?_ (by rw[AV]<;>lia);rw[za7,<-hlen];refine⟨.ref s.heap.objs.size,_,I.laid (t':=s.toks) (o:=.lst (yb4 xs lo hi)) (λb ob q=>AS _ q) (AN _) ?_,rfl,q _ (I.hok.fresh (AN _))⟩;exact⟨Az (zay xs lo hi) hz,_,0,(r.drop (HT.sIx xs.length 0 lo)).take (HT.sIx xs.length xs.length hi-HT.sIx xs.length 0 lo),A6 _ rfl⟩
def yaF:V->Bool
 |.non=>AC
 |.bl _=>AC
 |.int _=>AC
 |.str _=>AC
 |_=>AE
def eqV:V->V->Bool
 |.non,.non=>AC
 |.bl a,.bl b=>a==b
 |.bl a,.int b=>(if a then 1 else 0)==b
 |.int a,.bl b=>a==(if b then 1 else 0)
 |.int a,.int b=>a==b
 |.str a,.str b=>a==b
 |_,_=>AE
def zig{A:A5}{s:AH}{y x:V}{u v:AF}(ry:RelV y u)(rx:RelV x v)(fy:yaF y=AC)(fx:yaF x=AC):F6 A s u v (eqV y x):=by
 cases y with
 |non=>
  cases ry
  cases x with
  |non=>cases rx;exact SeqAt.EqAt.same _
  |bl b=>cases rx;exact SeqAt.EqAt.none_bool b
  |int b=>let⟨t,rfl⟩:=rx;exact SeqAt.EqAt.none_int b t
  |str b=>let⟨t,rfl⟩:=rx;exact SeqAt.EqAt.none_str b t
  |_=>exact absurd (show AE=AC from fx) AX
 |bl a=>
  cases ry
  cases x with
  |non=>cases rx;exact SeqAt.EqAt.bool_none a
  |bl b=>cases rx;exact SeqAt.EqAt.bool_bool a b
  |int b=>let⟨t,rfl⟩:=rx;exact SeqAt.EqAt.bool_int a b t
  |str b=>let⟨t,rfl⟩:=rx;exact SeqAt.EqAt.bool_str a b t
  |_=>exact absurd (show AE=AC from fx) AX
 |int a=>
  let⟨t',rfl⟩:=ry
  cases x with
  |non=>cases rx;exact SeqAt.EqAt.int_none a t'
  |bl b=>cases rx;exact SeqAt.EqAt.int_bool a t' b
  |int b=>let⟨t,rfl⟩:=rx;exact SeqAt.EqAt.int_int a t' b t
  |str b=>let⟨t,rfl⟩:=rx;exact E8 a t' b t
  |_=>exact absurd (show AE=AC from fx) AX
 |str a=>
  let⟨t',rfl⟩:=ry
  cases x with
  |non=>cases rx;exact SeqAt.EqAt.str_none a t'
  |bl b=>cases rx;exact SeqAt.EqAt.str_bool a t' b
  |int b=>let⟨t,rfl⟩:=rx;exact E9 a t' b t
  |str b=>let⟨t,rfl⟩:=rx;exact SeqAt.EqAt.str_str a t' b t
  |_=>exact absurd (show AE=AC from fx) AX
 |_=>exact absurd (show AE=AC from fy) AX
def eqU(x:V)(u:AF):Bool:=match u with
 |.none=>eqV .non x
 |.bool b=>eqV (.bl b) x
 |.int i _=>eqV (.int i) x
 |.str z _=>eqV (.str z) x
 |_=>AE
def zgL{x y:V}{u:AF}(r:RelV y u)(f:yaF y=AC):eqU x u=eqV y x:=by
 cases y with
 |non=>cases r;rfl
 |bl b=>cases r;rfl
 |int i=>let⟨t,rfl⟩:=r;rfl
 |str z=>let⟨t,rfl⟩:=r;rfl
 |_=>exact absurd (show AE=AC from f) AX
def zb5{x:V}:∀{xs:List V} {us:List AF},Vals xs us->xs.all yaF=AC->us.any (eqU x)=xs.any λy=>eqV y x
 |_,_,.nil,_=>rfl
 |y::xs,u::us,.cons r t,f=>by
  rw[BB,AI]at f;rw[BZ,BZ,zgL r f.1,zb5 t f.2]
def zbh{A:A5}{s:AH}{x:V}{v:AF}(rx:RelV x v)(fx:yaF x=AC):∀{xs:List V} {us:List AF},Vals xs us->xs.all yaF=AC->∀u∈us,F6 A s u v (eqU x u)
 |_,_,.nil,_=>λu hu=>by cases hu
 |y::xs,u::us,.cons r t,f=>λu' hu=>by
  rw[BB,AI]at f;rcases A8.mp hu with rfl|hu
  .rw[zgL r f.1];exact zig r rx f.1 fx
  .exact zbh rx fx t f.2 u' hu
def inV(x:V)(xs:List V):Bool:=xs.any λy=>eqV y x
def rIn(K:AD)(neg:Bool):R2:=λx y H Q=>∃p xs,y=.ref p/\(SqL K H p xs \/ SqT K H p xs)/\yaF x=AC/\xs.all yaF=AC/\Q (.bl (if neg then !inV x xs else inV x xs)) H
def zbP:OpR X (compareOp .In) (rIn X.K AE):=by
 intro π s σ H x y v u Q I rx ry h;let⟨p,xs,rfl,hq,fx,fs,q⟩:=h
 cases ry
 rcases hq with hq|hq
 .let⟨its,r,pl,hz⟩:=I.list hq;refine SeqAt.in_listAt (eqU x) pl.isList (λw hw=>zbh rx fx r fs w (by simpa using hw)) ⟨.bl _,H,I,rfl,?_⟩;rw[show its.toArray.any (eqU x)=its.any (eqU x)by simp,zb5 r fs];exact q
 .let⟨its,r,pl,hz⟩:=I.tuple hq;refine SeqAt.in_tupleAt (eqU x) pl (λw hw=>zbh rx fx r fs w (by simpa using hw)) ⟨.bl _,H,I,rfl,?_⟩;rw[show its.toArray.any (eqU x)=its.any (eqU x)by simp,zb5 r fs];exact q
def zbs:yab X (.builtin "len") (λxs H Q=>∃p ys,xs=[.ref p]/\(SqL X.K H p ys \/ SqT X.K H p ys)/\Q (.int ys.length) H):=by
 intro π s σ H xs us Q I r h;let⟨p,ys,rfl,hq,q⟩:=h;let⟨u,rfl,rx⟩:=vals1 r
 cases rx
 have hn:=zkD;rcases hq with hq|hq
 .let⟨its,r',pl,hz⟩:=I.list hq;have hlen:=r'.length;exact Calls.call_len_list pl.isList (by erw[AV]<;>lia) ⟨.int ys.length,H,I.tok _,⟨s.toks+1,by rw[AV,hlen]⟩,q⟩
 .let⟨its,r',pl,hz⟩:=I.tuple hq;have hlen:=r'.length;exact len_tuple pl (by erw[AV]<;>lia) ⟨.int ys.length,H,I.tok _,⟨s.toks+1,by rw[AV,hlen]⟩,q⟩
def zbx:yab X (.builtin "len") (λxs H Q=>∃z,xs=[.str z]/\z.length<=sizeLine/\Q (.int z.length) H):=by
 intro π s σ H xs us Q I r h;let⟨z,rfl,hz,q⟩:=h;let⟨u,rfl,t,rfl⟩:=vals1 r;have hn:=zkD;exact len_str ∅ ⟨.int z.length,H,I.tok _,⟨_,rfl⟩,q⟩
def zaj:yab X (.type "list") (λxs H Q=>∃p ys,xs=[.ref p]/\(SqL X.K H p ys \/ SqT X.K H p ys)/\∀l,H l=AB->Q (.ref l) (upd H l (.lst ys))):=by
 intro π s σ H xs us Q I r h;let⟨p,ys,rfl,hq,q⟩:=h;let⟨u,rfl,rx⟩:=vals1 r
 cases rx
 have fin:∀(its:List AF),Vals ys its->ys.length<=sizeLine->∀(h':Ao) (c':Nat),(∀b o',s.heap.get? b=AA o'->h'.get? b=AA o') ->
   h'.get? s.heap.objs.size=AA {cls:=.type "list",dict:=AB,data:=.seq its.toArray c',slots:=#[]}->EP X π σ Q (.ref s.heap.objs.size) {s with heap:=h'}:=λits r' hz h' c' kp e=>
  ⟨.ref s.heap.objs.size,_,I.laid (t':=s.toks) kp (AN _) (show yH X.prog X.w _ h' _ (.lst ys)from ⟨hz,its,c',r',e⟩),rfl,q _ (I.hok.fresh (AN _))⟩
 rcases hq with hq|hq
 .let⟨its,r',pl,hz⟩:=I.list hq;have hlen:=r'.length;let⟨o,ho,hc,n,hd⟩:=pl.isList;exact call_list_seq p (.inl rfl) ho hc hd (λh' c' kp e=>fin its r' hz h' c' kp e) (by erw[AV]<;>lia)
 .let⟨its,r',pl,hz⟩:=I.tuple hq;have hlen:=r'.length;let⟨o,ho,hc,n,hd⟩:=pl;exact call_list_seq p (.inr rfl) ho hc hd (λh' c' kp e=>fin its r' hz h' c' kp e) (by erw[AV]<;>lia)
def zaa:yab X (.type "tuple") (λxs H Q=>∃p ys,xs=[.ref p]/\((SqL X.K H p ys/\∀l,H l=AB->Q (.ref l) (upd H l (.tup ys))) \/ (SqT X.K H p ys/\Q (.ref p) H))):=by
 intro π s σ H xs us Q I r h;let⟨p,ys,rfl,h⟩:=h;let⟨u,rfl,rx⟩:=vals1 r
 cases rx
 rcases h with⟨hq,q⟩|⟨hq,q⟩
 .let⟨its,r',pl,hz⟩:=I.list hq;have hlen:=r'.length;refine call_tuple_list pl.isList (λh' kp=>?_) (by erw[AV]<;>lia);have I1:Inv X π σ H {s with heap:=h'}:=I.kept (t':=s.toks) kp;have I2:Inv X π σ (upd H h'.objs.size (.tup ys)) {s with heap:=h'.push {cls:=.type "tuple",data:=.seq its.toArray} }:=
   I1.laid (t':=s.toks) (λb o e=>AS _ e) (AN _) (show yH X.prog X.w _ _ _ (.tup ys)from ⟨hz,its,r',A6 _ rfl⟩)
  exact⟨.ref h'.objs.size,_,I2,rfl,q _ (I1.hok.fresh (AN _))⟩
 .let⟨its,r',pl,hz⟩:=I.tuple hq;exact call_tuple_same pl ⟨.ref p,H,I,rfl,q⟩
def tyV(K:AD)(T:String)(x:V)(H:Hp):Prop:=match x with
 |.str _=>T="str"
 |.int _=>T="int"
 |.ref p=>(T="list"/\∃xs,SqL K H p xs) \/ (T="tuple"/\∃o,K.lookup p=AA o/\o.cls=.type "tuple"/\o.dict=AB) \/
   (T="dict"/\((∃kvs,H p=AA (.dK kvs)) \/ ∃kvs,H p=AA (.dT kvs))) \/ (T="set"/\∃S n,H p=AA (.set S n))
 |_=>False
def zgz{π:List (AG×BW)}{σ:St}{H:Hp}{s:AH}{T:String}{x:V}{v:AF}(I:Inv X π σ H s)(r:RelV x v)(ty:tyV X.K T x H):
  s.TypeIs v T/\∀a,v=.ref a->∃ob,s.heap.get? a=AA ob/\ob.dict=none:=by
 cases x with
 |str z=>
  let⟨t,rfl⟩:=r
  cases (show T="str" from ty)
  exact⟨DR s z t,λ_ e=>nomatch e⟩
 |int i=>
  let⟨t,rfl⟩:=r
  cases (show T="int" from ty)
  exact⟨typeIs_int s i t,λ_ e=>nomatch e⟩
 |ref p=>
  cases r
  rcases ty with⟨rfl,xs,hq⟩|⟨rfl,o,hk,hc,hd⟩|⟨rfl,hk⟩|⟨rfl,S,n,hk⟩
  .let⟨its,_,pl,_⟩:=I.list hq;refine⟨pl.isList.typeIs,λa e=>?_⟩
   cases e
   let⟨o,n,e,c,hd,_⟩:=pl;exact⟨o,e,hd⟩
  .refine⟨⟨o,I.kIn p o hk,hc⟩,λa e=>?_⟩
   cases e
   exact⟨o,I.kIn _ o hk,hd⟩
  .have z:∃o,s.heap.get? p=AA o/\o.ExactDict:=by
    rcases hk with⟨kvs,hk⟩|⟨kvs,hk⟩
    .let⟨_,_,_,_,o,_,_,e,ex,_⟩:=I.hok p _ hk;exact⟨o,e,ex⟩
    .let⟨_,_,_,_,o,_,_,e,ex,_⟩:=I.hok p _ hk;exact⟨o,e,ex⟩
   let⟨o,e,ex⟩:=z;refine⟨⟨o,e,ex.1⟩,λa e2=>?_⟩
   cases e2
   exact⟨o,e,ex.2.1⟩
  .let⟨o,_,_,_,e,ex,_⟩:=I.hok p _ hk;refine⟨⟨o,e,ex.1⟩,λa e2=>?_⟩
   cases e2
   exact⟨o,e,ex.2.1⟩
 |_=>exact BP ty
def yfs(K:AD)(T:String)(r:V->List V->Hp->VK->Prop)(to:TE):TE:=λσ H Q=>to σ H λx H1=>tyV K T x H1/\r x [] H1 Q
def tBM(K:AD)(T:String)(r:V->List V->Hp->VK->Prop)(to:TE)(t:TA):TE:=λσ H Q=>to σ H λx H1=>tyV K T x H1/\t σ H1 λxs H2=>r x xs H2 Q
variable {o e:AL}{es:List AL}{to:TE}{t:TA}{name:AM}{apos cpos:BX}{T id:String}{r:V->List V->Hp->VK->Prop}
def ziy(pa:PlainAttrs T)(slot:Slot T name id)(hty:typeOf (.builtin id)=pure (.type "method_descriptor"))(hm:MtR X id r)(ho:PE X o to)
  (hbase:attributeBase o name X.env (eval o X.env)=eval o X.env:=by rfl) (hline:(apos.endLine==cpos.line)=true:=by rfl):PE X (.Call (.Attribute o name apos) [] [] cpos) (yfs X.K T r to):=by
 intro π s σ H Q I h;refine wpAny_Call_method0_late hbase hline (thn (ho π s σ H _ I h) λv s1 kq=>?_);let⟨x,H1,I1,r1,ty,q1⟩:=kq;let⟨h1,h2⟩:=zgz I1 r1 ty;exact⟨T,id,pa,slot,hty,h1,h2,Dt rfl (PySem.evalArgs_none (hm π s1 σ H1 x [] v [] Q I1 r1 .nil q1))⟩
def zgT(pa:PlainAttrs T)(slot:Slot T name id)(hty:typeOf (.builtin id)=pure (.type "method_descriptor"))(hm:MtR X id r)(ho:PE X o to)(ha:PA X (e::es) t)
  (hbase:attributeBase o name X.env (eval o X.env)=eval o X.env:=by rfl)
  (hfew:((backTo cpos (starEach (e::es) X.env)).all (λx=>!x.1)&&(backToKw cpos (keywordEach [] X.env)).all (λx=>x.1.isSome)
   && decide ((e::es).length+([]:List Bt).length+(if ([]:List Bt).isEmpty then 0 else 1)<30))=true:=by rfl)
  (hline:(apos.endLine==cpos.line)=true:=by rfl) (hs:starEach (e::es) X.env=(AE,eval e X.env)::starEach es X.env:=by rfl) (hplain:(backTo cpos (starEach es X.env)).any (·.1)=false:=by rfl):
  PE X (.Call (.Attribute o name apos) (e::es) [] cpos) (tBM X.K T r to t):=by
 intro π s σ H Q I h;refine wpAny_Call_method_late hbase hfew hline rfl (thn (ho π s σ H _ I h) λv s1 kq=>?_);let⟨x,H1,I1,r1,ty,q1⟩:=kq;let⟨h1,h2⟩:=zgz I1 r1 ty;refine⟨T,id,pa,slot,hty,h1,h2,?_⟩;have hA:=ha cpos π s1 σ H1 _ I1 q1;rw[hs]at hA ⊢;refine Dt (by show (AE || (backTo cpos (starEach es X.env)).any (·.1))=AE;rw[hplain]<;>rfl) (EQ ?_);exact thn hA λus s2 ⟨vs,H2,I2,r2,q2⟩=>hm π s2 σ H2 x vs v us Q I2 r1 r2 q2
/- xs.append(e),list.index on a module's tuple .. are MtR facts of 06m -/
end
def MtM(X:Cx)(id:String)(r:V->List V->Hp->VK->Prop):Prop:=
 ∀(π:List (AG×BW)) (s:AH) (σ:St) (H:Hp) (x:V) (xs:List V) (v:AF) (us:List AF) (Q:VK),Inv X π σ H s->RelV x v->Vals xs us->r x xs H Q ->
  A2 (model X.prog X.w) X.A (call (.builtin id) (v::us)) (EP X π σ Q) X.xe s
theorem Vals.one:∀{x:V} {us:List AF},Vals [x] us->∃u,us=[u]/\RelV x u
 |_,_,.cons r .nil=>⟨_,rfl,r⟩
theorem Vals.zero:∀{us:List AF},Vals [] us->us=[]
 |_,.nil=>rfl
section
variable {X:Cx}{π:List (AG×BW)}{σ:St}{H:Hp}{s:AH}{l b:AG}{xs ys zs:List V}
theorem Inv.lset{its its':List AF}{n:Nat}{f:Array AF->Array AF}{t':Nat}(I:Inv X π σ H s)(hH:H l=AA (.lst xs))
  (e:s.heap.get? l=AA {cls:=.type "list",data:=.seq its.toArray n}) (hf:f its.toArray=its'.toArray) (hv:Vals ys its') (hz:ys.length<=sizeLine):
  Inv X π σ (upd H l (.lst ys)) {s with heap:=s.heap.update l (Ds f),toks:=t'}:=by
 have q:=PySem.IsL.update e f;rw[hf]at q;refine I.write (x:=l) (e:=l) (by rw[hH];exact trivial) (.inl rfl) (λb' u hb hu=>(Cg s.heap (Ds f) (BI hb)).trans hu) ⟨_,q⟩ ?_;exact⟨hz,its',_,hv,q⟩
theorem Inv.lnew{its:List AF}{t':Nat}(I:Inv X π σ H s)(hv:Vals ys its)(hz:ys.length<=sizeLine):
  Inv X π σ (upd H s.heap.objs.size (.lst ys)) {s with heap:=s.heap.push {cls:=.type "list",data:=.seq its.toArray},toks:=t'}:=
 I.laid (λ_ _ q=>AS _ q) (AN _) ⟨hz,its,0,hv,A6 _ rfl⟩
theorem Inv.fresh(I:Inv X π σ H s):H s.heap.objs.size=none:=I.hok.fresh (AN _)
theorem Inv.lstM(I:Inv X π σ H s)(hH:H l=AA (.lst xs)):xs.length<=sizeLine/\∃(its:List AF) (n:Nat),Vals xs its/\xs.length=its.length/\s.heap.get? l=AA {cls:=.type "list",data:=.seq its.toArray n}:=by
 let⟨z,its,n,r,e⟩:=I.hok l _ hH;exact⟨z,its,n,r,r.length,e⟩
def zk6{n:Nat}(h:n<=sizeLine):C0 n=false:=by
 unfold C0;exact decide_eq_false ∅
end
section
variable {X:Cx}
def yca:V->List V->Hp->VK->Prop:=λx vs H Q=>∃l xs y,x=.ref l/\vs=[y]/\H l=AA (.lst xs)/\xs.length<sizeLine/\Q .non (upd H l (.lst (xs++[y])))
def zaL:MtM X "list.append" yca:=by
 intro π s σ H x vs v us Q I rx rv h;let⟨l,xs,y,rfl,rfl,hH,hz,q⟩:=h
 cases rx
 let⟨u,rfl,ru⟩:=rv.one;let⟨z,its,n,r,hl,e⟩:=I.lstM hH;refine DS EH ⟨_,e,rfl⟩ F.entry_list_append (F.args_list_append_2 _ _) (PySem.list_append l its.toArray n u (by rw[AV];lia)) ⟨e,?_⟩;refine⟨.non,_,I.lset (its':=its++[u]) hH e (by simp) (r.append (.cons ru .nil)) ?_,rfl,q⟩;rw[Aq,List.length_singleton];lia
def ycp:V->List V->Hp->VK->Prop:=λx vs H Q=>∃l b xs zs,x=.ref l/\vs=[.ref b]/\H l=AA (.lst xs)/\H b=AA (.lst zs)/\xs.length+zs.length<=sizeLine/\Q .non (upd H l (.lst (xs++zs)))
def zeJ:MtM X "list.extend" ycp:=by
 intro π s σ H x vs v us Q I rx rv h;let⟨l,b,xs,zs,rfl,rfl,hH,hB,hz,q⟩:=h
 cases rx
 let⟨u,rfl,ru⟩:=rv.one
 cases ru
 let⟨z,its,n,r,hl,e⟩:=I.lstM hH;let⟨z2,its2,n2,r2,hl2,e2⟩:=I.lstM hB;have hsz:its.toArray.size+its2.toArray.size<=sizeLine:=by rw[AV,AV];lia
 have hlong:¬(!its.toArray.isEmpty&&C0 (its.toArray.size+its2.toArray.size))=true:=by
  rw[zk6 hsz,Bool.and_false];exact AX
 refine DS EI ⟨_,e,rfl⟩ F.entry_list_extend (F.args_list_extend_2 _ _)
  (AutoSeq1.list_extend_list_list_0 l its.toArray n b its2.toArray n2 hlong (by rw[AV];lia) ∅) ⟨e,e2,?_⟩
 refine⟨.non,_,I.lset (its':=its++its2) hH e (by simp) (r.append r2) ?_,rfl,q⟩;rw[Aq];lia
def ycE:V->List V->Hp->VK->Prop:=λx vs H Q=>∃l xs,x=.ref l/\vs=[]/\H l=AA (.lst xs)/\Q .non (upd H l (.lst []))
def zfQ:MtM X "list.clear" ycE:=by
 intro π s σ H x vs v us Q I rx rv h;let⟨l,xs,rfl,rfl,hH,q⟩:=h
 cases rx
 have hus:=rv.zero;subst hus;let⟨z,its,n,r,hl,e⟩:=I.lstM hH;refine DS ER ⟨_,e,rfl⟩ F.entry_list_clear (F.args_list_clear_1 _) (AutoSeq1.list_clear_list_0 l its.toArray n (by rw[AV];lia)) ⟨e,?_⟩;exact⟨.non,_,I.lset (its':=[]) (ys:=[]) hH e rfl .nil (BO _),rfl,q⟩
def yf8:R2:=λx y H Q=>∃l b xs zs,x=.ref l/\y=.ref b/\H l=AA (.lst xs)/\H b=AA (.lst zs)/\xs.length+zs.length<=sizeLine/\∀p,H p=AB->Q (.ref p) (upd H p (.lst (xs++zs)))
def ziM:OpR X (binaryOp .Add) yf8:=by
 intro π s σ H x y v u Q I rx ry h;let⟨l,b,xs,zs,rfl,rfl,hH,hB,hz,q⟩:=h
 cases rx
 cases ry
 let⟨z,its,n,r,hl,e⟩:=I.lstM hH;let⟨z2,its2,n2,r2,hl2,e2⟩:=I.lstM hB;refine PySem.P.add_list e e2 ?_ (by rw[AV,AV];lia);have ea:its.toArray++its2.toArray=(its++its2).toArray:=by simp
 rw[ea];exact⟨.ref _,_,I.lnew (t':=s.toks) (r.append r2) (by rw[Aq];lia),rfl,q _ I.fresh⟩
end
section
variable {prog:A1}{w:Ab}{A:A5}{E:AF->AH->Prop}{s:AH}
end
section
variable {X:Cx}
end
end L2
namespace Att
open PySem PySem.W PySem.Calls PyProof.Rows
def zaM{P:Params}{h:Ao}:∀(ns:List Int) (vs:List AF),WellAll P h vs (ns.map GS)->F0 vs ns:=by
 intro ns
 induction ns with
 |nil=>
  intro vs w;rw[B0]at w
  cases w
  exact .nil
 |cons n ns ih=>
  intro vs w;rw[AR]at w
  cases w with
  |cons a b=>
   cases a
   exact .cons _ _ (ih _ b)
def zea{l:Dl}{n:Nat}(hn:l.most=AA n){P:Params}{h:Ao}{args:List WData}{vals:List AF}
  (hpre:l.row.toRowW.claim.pre args=AC) (hwl:WellAll P h vals args):
  ∃a vs ns,vals=[BA a]/\args=[WData.list (ns.map GS)]/\h.get? a=AA {cls:=.type "list",data:=.seq vs.toArray}/\F0 vs ns/\ns.length<=n:=by
 have hsh:WShape.hasAll [] args [.list .int]=true:=(pre_splitW hpre).1;have hc:l.pre.holds [] {args:=args}=true:=(pre_splitW hpre).2;let⟨d,r,rfl,h1,h2⟩:=hasAllW_cons hsh;obtain rfl:=hasAllW_nil h2;let⟨xs,rfl,h3⟩:=hasW_list h1;let⟨ns,rfl⟩:=items_int h3;have hlen:ns.length<=n:=by
  unfold OpenLaw.pre at hc;have h4:(WTm.not (.lt (.lit (.int (n:Int))) (.len (.arg 0)))).holds [] {args:=[.list (ns.map .int)]}=true:=by
   have h4:=(holds_andW hc).1;rw[hn]at h4;exact h4
  have h5:=condW_of h4 (w_not (w_lt w_lit (w_len_list (w_arg rfl))));rw[Ak]at h5;refine Nat.le_of_not_lt λq=>?_;have q':(n:Int)<((ns.length:Nat):Int):=by lia
  first
   |(rw[decide_eq_true q']at h5;exact absurd h5 ⋯)
   |(simp at h5;lia)
 cases hwl with
 |cons w1 w2=>
  cases w2
  cases w1 with
  |list ho hall=>exact⟨_,_,ns,rfl,rfl,ho,zaM ns _ hall,hlen⟩
def zdV(l:Dl)(args:List WData):l.row.toRowW.claim.post args (.bool AC) args=true:=
 postW_of (r:=l.row.toRowW) (X:=(AC==AC))
  (show GO [] (.bool AC) .bool=AC by first|rfl|decide|simp[GO,WShape.arms,WShape.armsAll])
  (show (WTm.eq .res (.lit (.bool AC))).value [] {args:=args,res:=AA (.bool AC),after:=args}=AA (.bool (AC==AC))from w_eq_bool (w_res rfl) w_lit) rfl
theorem attach_call{l:Dl}{n:Nat}{q:A1}{loose:List AM}{XP:(AM->Option AF)->Ao->Prop}{YP:Ab->Ao->Prop}{d:DefRec}
  (hn:l.most=AA n) (hdf:d.params.defaults=[])
  (call:∀(w:Ab) (s₀ s₁:AH) (mg mb:AM->Option AF) (fa:AG) (o:BW) (pm cd doc:AF) (a:AG) (vs:List AF) (ns:List Int),
   Ground q loose [] XP w s₀ mg mb s₁.heap->YP w s₁.heap ->
   s₁.heap.get? fa=AA o->o.data=.func (docDef d.name d.params d.body d.scope pm cd doc)->s₁.heap.CodeRec cd d.name->mg d.name=AA (.ref fa) ->
   s₁.heap.get? a=AA {cls:=.type "list",data:=.seq vs.toArray}->F0 vs ns->ns.length<=n->s₁.gens=#[] ->
   codeAny (model l.prog w) callerA (.call (.ref fa) ⟨[.ref a],[]⟩) (λr s'=>r=.ok (.ret (.bool AC))/\OldK s₁.heap s'.heap/\s'.os=s₁.os/\Cu s'.gens) s₁):
  F1 q loose XP YP l.row.toRowW d [] (λf vs=>F7 f vs):=by
 intro w s₀ s₁ mg mb G Y fa o pm cd doc dV kV ho hd hcd hD hmg hg args vals as hpre hlay hrd hwl hlo;obtain rfl:dV=.none:=Dflts.none hD hdf;obtain rfl:kV=.none:=Dflts.noKw hD;let⟨a,vs,ns,rfl,rfl,hobj,hints,hlen⟩:=zea hn hpre hwl;refine enter_call (Du (call w s₀ s₁ mg mb fa o pm cd doc a vs ns G Y ho (fd_plain hd) hcd hmg hobj hints hlen hg) λr s' hq=>?_);let⟨rfl,h2,h3,h4⟩:=hq;exact⟨.inl ⟨.bool AC,.bool AC,[],rfl,λ_=>rfl,.bool AC,zdV l _,λ_=>⟨GQ,λ_ hm=>(nomatch hm)⟩⟩,h2,h3,h4⟩
section
variable {prog:A1}{w:Ab}{A:A5}{E:AF->AH->Prop}{s:AH}{K:AD}
end
end Att
namespace L2
open PySem PySem.Spec PyProof.Rows
def zbM:∀{vs:List AF} {ns:List Int},F0 vs ns->Vals (ns.map V.int) vs
 |_,_,.nil=>.nil
 |_,_,.cons n t h=>.cons ⟨t,rfl⟩ (zbM h)
def Only(H:Hp):Prop:=∀b,H b=AB \/ ∃o xs,H b=AA (.frz o (.lst xs))
def zgb{P:A1}{w:Ab}{K:AD}{mg mb:AM->Option AF}{CX:CXT}{k:Nat}{fa a:AG}{fd:Al}{x:AM}{sp:Sp}{s₁:AH}{vs:List AF}{ns:List Int}
  (KX:K.In s₁.heap) (hns:s₁.heap.Ns mainGlobals mg) (hb:s₁.heap.Ns builtinsNs mb) (hbb:∀x:AM,x ≠ "__name__"->mb x=bootBuiltins x) (hlim:s₁.heap.NoLimit) (hg:s₁.gens=#[])
  (ha:s₁.heap.get? a=AA {cls:=.type "list",data:=.seq vs.toArray}) (hi:F0 vs ns) (hl:ns.length<=sizeLine) (hr:yat k callerA)
  (F:∀base:Ao,K.In base->base.Ns mainGlobals mg->yaM P w K mg base CX k fa fd [x] sp) (hbind:∀(s:AH) (u:AF),Dp s fd ⟨[u],[]⟩ [(x,u)])
  (hsp:∀H:Hp,Only H->SqL K H a (ns.map V.int)->sp [.ref a] H (λv _=>v=.bl AC) λ_ _ _=>False)
  (hCX:∀H e s',CX [] H s₁ (λ_ _ _=>False) e s'->False):
  codeAny (model P w) callerA (.call (.ref fa) ⟨[.ref a],[]⟩) (λr s'=>r=.ok (.ret (.bool AC))/\OldK s₁.heap s'.heap/\s'.os=s₁.os/\Cu s'.gens) s₁:=by
 have rv:=zbM hi;have lenV:=hi.length;have core:∀H:Hp,Only H->SqL K H a (ns.map V.int)->HOk P w H s₁.heap->(∀b,H b≠AB->b=a)->(H a≠AB->K.lookup a=AB) ->
   codeAny (model P w) callerA (.call (.ref fa) ⟨[.ref a],[]⟩) (λr s'=>r=.ok (.ret (.bool AC))/\OldK s₁.heap s'.heap/\s'.os=s₁.os/\Cu s'.gens) s₁:=by
  intro H hO hS hok hA hK;have base_of:∀{b:AG} {o:BW},s₁.heap.get? b=AA o->H b=AB->(ybQ s₁.heap H).get? b=AA o:=λe n=>zfl e n;have noA:∀{b:AG} {o:BW} {es:Array Bo} {ep:Nat},s₁.heap.get? b=AA o->o.data=.dict es ep->H b=none:=λ{b o es ep} e d=>by
   cases q:H b with
   |none=>rfl
   |some u=>
    have e':b=a:=hA b (by rw[q];simp);subst e';rw[ha]at e;cases e;have d':Data.seq vs.toArray _=Data.dict es ep:=d
    cases d'
  have nsK:∀{b:AG} {m:AM->Option AF},s₁.heap.Ns b m->(ybQ s₁.heap H).Ns b m:=λ{b m} ⟨o,es,ep,e,d,r⟩=>⟨o,es,ep,base_of e (noA e d),d,r⟩;have hKb:K.In (ybQ s₁.heap H):=λb o e=>base_of (KX b o e) (by
   cases q:H b with
   |none=>rfl
   |some u=>
    have e':b=a:=hA b (by rw[q];simp);subst e';rw[hK (by rw[q];simp)]at e;cases e)
  have hM:Mod K mg (ybQ s₁.heap H):=⟨hKb,nsK hns,⟨mb,nsK hb,hbb⟩,let ⟨mc,h1,h2⟩:=hlim;⟨mc,nsK h1,h2⟩⟩;have e0:yct P w K mg (ybQ s₁.heap H) callerA [] s₁ H:=⟨rfl,hM,λb o e=>zhT e,Fv (zdB _ _),trivial,λb hb=>absurd (show b∈([]:List AG)from hb) (by simp),hok,.of_eq hg⟩;refine Du ((F _ hKb (nsK hns)).run callerA [] s₁ H ⟨[.ref a],[]⟩ [.ref a] [.ref a] _ _ hr e0 (hbind s₁ (.ref a)) (.cons rfl .nil) (hsp H hO hS)) λr s' h=>?_
  cases r with
  |error e=>exact(hCX H e s' h).elim
  |ok fl=>
   cases fl with
   |next=>exact BP h
   |brk=>exact BP h
   |cont=>exact BP h
   |ret u=>
    let⟨v,H',os,bare,un,hok',r',q⟩:=h;have q':v=.bl true:=q;subst q';obtain rfl:u=CS true:=r';refine⟨rfl,OldK.of_keep λb o e=>?_,os,bare⟩
    cases q:H b with
    |none=>exact un.keep b o e q (by intro z;exact absurd (show b∈([]:List AG)from z) (by simp)) (by simp)
    |some u=>
     rcases hO b with z|⟨ob,xs,z⟩
     .rw[q]at z;cases z
     .have z2:=un.frzs b ob _ z;let⟨e1,_⟩:=hok b _ z;let⟨e2,_⟩:=hok' b _ z2;rw[e]at e1;cases e1;exact e2
 cases hk:K.lookup a with
 |some o=>
  have e:=KX a o hk;rw[ha]at e
  cases e
  refine core (λ_=>AB) (λ_=>.inl rfl) (.inr ⟨_,vs.toArray,_,hk,rfl,rfl,rfl,by rw[AV,lenV];exact hl,by simpa using rv⟩) (λb u z=>by have z':(AB:Option HO)=AA u:=z;cases z') (λb z=>absurd rfl z) λz=>absurd rfl z
 |none=>
  refine core (λb=>if b=a then AA (.frz {cls:=.type "list",data:=.seq vs.toArray} (.lst (ns.map V.int)))else AB) (λb=>?_) (.inl (.inr ⟨{cls:=.type "list",data:=.seq vs.toArray},if_pos rfl⟩)) (λb u z=>?_) (λb z=>?_) λ_=>hk
  .by_cases hb:b=a
   .exact .inr ⟨_,_,if_pos hb⟩
   .exact .inl (if_neg hb)
  .by_cases hb:b=a
   .have z':=(if_pos hb).symm.trans z
    cases z'
    subst hb;exact⟨ha,by rw[Ak];exact hl,vs,_,rv,ha⟩
   .have z':=(if_neg hb).symm.trans z
    cases z'
  .by_cases hb:b=a
   .exact hb
   .exact absurd (if_neg hb) z
theorem walk_of{l:Dl}{n k:Nat}{q:A1}{loose:List AM}{XP:(AM->Option AF)->Ao->Prop}{YP:Ab->Ao->Prop}{d:DefRec}{K:Params->AD}{CX:Ab->CXT}{sp:Ab->Sp}{x:AM}
  (hn:l.most=AA n) (hn2:n<=sizeLine) (hdf:d.params.defaults=[]) (hr:yat k callerA)
  (hY:∀(w:Ab) (h:Ao),YP w h->(K w.params).In h)
  (F:∀(w:Ab) (mg:AM->Option AF) (fa:AG) (h:Ao),(K w.params).In h->h.Ns mainGlobals mg->mg d.name=AA (.ref fa) ->
   ∃fd:Al,(∀(s:AH) (u:AF),Dp s fd ⟨[u],[]⟩ [(x,u)]) /\
    ∀base:Ao,(K w.params).In base->base.Ns mainGlobals mg->yaM l.prog w (K w.params) mg base (CX w) k fa fd [x] (sp w))
  (hsp:∀(w:Ab) (H:Hp) (a:AG) (ns:List Int),ns.length<=n->Only H->SqL (K w.params) H a (ns.map V.int)->sp w [.ref a] H (λv _=>v=.bl AC) λ_ _ _=>False)
  (hCX:∀(w:Ab) (H:Hp) (s:AH) (e:AF) (s':AH),CX w [] H s (λ_ _ _=>False) e s'->False):
  F1 q loose XP YP l.row.toRowW d [] (λf vs=>F7 f vs):=by
 refine Att.attach_call hn hdf λw s₀ s₁ mg mb fa o pm cd doc a vs ns G Y ho hd hcd hmg hobj hints hlen hg=>?_;have KX:=hY w _ Y;let⟨fd,hb,hF⟩:=F w mg fa _ KX G.T.g hmg;exact zgb KX G.T.g G.T.b G.T.builtins G.T.nolimit hg hobj hints (Az hlen hn2) hr hF hb (λH hO hS=>hsp w H a ns hlen hO hS) λH e s'=>hCX w H s₁ e s'
def yU(s:B8):Arguments:=match s with
 |.FunctionDef _ a _ _ _ _ _ _ _ _=>a
 |_=>{posonlyargs:=[],args:=[],vararg:=AB,kwonlyargs:=[],kw_defaults:=[],kwarg:=AB,defaults:=[]}
def yI(s:B8):List Stmt:=match s with
 |.FunctionDef _ _ b _ _ _ _ _ _ _=>b
 |_=>[]
def yg(s:B8):Scope:=match s with
 |.FunctionDef _ _ _ _ _ _ sc _ _ _=>sc
 |_=>{kind:=.function,names:=[],isGenerator:=AE,isCoroutine:=AE}
abbrev CX0:CXT:=λ_ _ _ _ _ _=>False
abbrev E0:XK:=λ_ _ _=>False
structure Fun(K:AD)(x qual:AM)(st:B8)(f:AG)(fd:Al):Prop where
 ex:∃(oc:AF) (od:Option AG) (kV doc pm:AF) (an:Option AG) (cdv ct:AF) (osl:Array (Option AF)),
  fd=BM x qual (yU st) (yI st) (yg st) .none kV doc pm an cdv ct/\K.lookup f=AA ⟨oc,od,.func fd,osl⟩/\Bi K cdv qual=AC
 kp:Ad K (.ref f)=AC
section
variable {P:A1}{w:Ab}{K:AD}{mg:AM->Option AF}{base:Ao}
theorem Fun.binds{x qual:AM}{st:B8}{f:AG}{fd:Al}{ps:List AM}(F:Fun K x qual st f fd)
  (h:∀(kV doc pm:AF) (an:Option AG) (cdv ct:AF) (us:List AF),us.length=ps.length->bindArgs (BM x qual (yU st) (yI st) (yg st) .none kV doc pm an cdv ct) ⟨us,[]⟩=pure (ps.zip us)):Binds K fd ps []:=by
 let⟨oc,od,kV,doc,pm,an,cdv,ct,osl,rfl,lk,hcd⟩:=F.ex;exact .all (h kV doc pm an cdv ct)
end
section
variable {X:Cx}
end
def yen(i j:Int):Prop:=0<=j/\j<=1000000/\i.natAbs<2^200
def zfm{a n:Int}(ha:a.natAbs<2^200)(hn:n<=1000000):(CY a:Int)+n<=2^27:=by
 have hb:CY a<=200:=by
  unfold CY;split
  .exact BO _
  .rename_i h;have h0:a.natAbs≠0:=λz=>h (by simpa using Int.natAbs_eq_zero.1 z);exact(GI h0).2 ha
 lia
section
variable {X:Cx}
def zh0:OpR X (binaryOp .LShift) (rI yen λi j=>.int (i*2^j.toNat)):=opI λ_ _ _ _ _ _ _ hc q=>lshift_int hc.1 (zfm hc.2.2 hc.2.1) q
end
end L2
namespace WE
open PySem PySem.Spec PyProof.Rows
open AutoSeq1 (wpAny_loadPart')
section
variable {pg:A1}{wd:Ab}{A:A5}{Er:AF->AH->Prop}{s:AH}
def zdo{it t:AG}{i:Nat}{xs:Array AF}{x:AF}{Q:AF->AH->Prop}(hi:s.heap.IsTupleIter it t i)(ht:s.heap.IsTuple t xs)(hx:xs[i]?=AA x)
  (k:∀h',h'.IsTupleIter it t (i+1)->B9 it s.heap h'->Q x {s with heap:=h'}):A2 (model pg wd) A (Bm (.ref it)) Q Er s:=by
 let⟨oi,gi,ci,di⟩:=id hi;let⟨ot,gt,_,nt,dt⟩:=ht;unfold Bm;refine AJ (CD (name:=A4 "__next__") hi.typeIs Bj (Co Bj hi.typeIs DD ?_ (DB _)));show A2 _ _ (field (.ref it) 0 >>= _) _ _ _;refine AJ (CJ gi di (x:=.ref t) rfl ?_);show A2 _ _ (if (BA t==Bf)=AC then _ else _) _ _ _;rw[if_neg (show ¬((BA t==Bf)=AC)from λz=>AX z)];show A2 _ _ (field (.ref it) 1 >>= _) _ _ _;refine AJ (CJ gi di (x:=.int i 0) rfl ?_);show A2 _ _ (seqItems? (.ref t) >>= _) _ _ _;refine AJ (EK gt dt ?_);erw[Ex,hx];refine AJ (ES gi di (by simp) (AQ ⟨x,rfl,AQ (k _ ?_ (E1 ..))⟩));refine⟨_,EG _ gi (Obj.isFreed_of_fields (Ee di _)),(Obj.cls_mapFields ..).trans ci,?_⟩;rw[Ee di];simp[rawInt]
def zeU{it t:AG}{i:Nat}{xs:Array AF}{Q:AF->AH->Prop}(hh:A.handled=AB)(hi:s.heap.IsTupleIter it t i)(ht:s.heap.IsTuple t xs)(hx:xs[i]?=AB)
  (k:∀h' e,Heap.ExtBut it s.heap h'->(∃o,h'.get? e=AA o/\o.cls=.type "StopIteration")->Er (.ref e) {s with heap:=h'}):A2 (model pg wd) A (Bm (.ref it)) Q Er s:=by
 let⟨oi,gi,ci,di⟩:=id hi;let⟨ot,gt,_,nt,dt⟩:=ht;unfold Bm;refine AJ (CD (name:=A4 "__next__") hi.typeIs Bj (Co Bj hi.typeIs DD ?_ (DB _)));show A2 _ _ (field (.ref it) 0 >>= _) _ _ _;refine AJ (CJ gi di (x:=.ref t) rfl ?_);show A2 _ _ (if (BA t==Bf)=AC then _ else _) _ _ _;rw[if_neg (show ¬((BA t==Bf)=AC)from λz=>AX z)];show A2 _ _ (field (.ref it) 1 >>= _) _ _ _;refine AJ (CJ gi di (x:=.int i 0) rfl ?_);show A2 _ _ (seqItems? (.ref t) >>= _) _ _ _;refine AJ (EK gt dt ?_);erw[Ex,hx];refine AJ (Dm (AJ (ES gi di (by simp) ?_)));show A2 _ _ (newExc (.type "StopIteration") [] >>= _) _ _ _;refine AJ ?_;erw[newExc,newTuple];refine AJ (BE ?_ (by size_fits));refine AJ (m:=firstArgMember _ _) (wpAny_of_eq (a:=Bf) (by first|rfl|(erw[firstArgMember];rfl)) ?_);refine BE ?_ (by size_fits);erw[raiseNew];refine AJ (wpAny_handled ?_);first|rw[show A.in1.handled=AB from hh]|rw[hh]
 refine AJ (AQ (wpAny_throw ?_));exact k _ _ (((E1 ..).extBut.push _).push _) ⟨_,A6 _ rfl,rfl⟩
end
theorem draws_tuple{pg:A1}{wd:Ab}{A:A5}(hh:A.handled=AB)(it t:AG)(hne:t≠it)(xs:Array AF):
  Draws pg wd A it [it,t] xs.size (λi v=>xs[i]?=AA v) (λi h=>h.IsTupleIter it t i/\h.IsTuple t xs) where
 live:=λ_ _ st=>let ⟨o,g,_⟩:=st.1;⟨o,g⟩
 frame:=λ_ _ _ st kp=>⟨let ⟨o,g,r⟩:=st.1;⟨o,kp it (by simp) o g,r⟩,let ⟨o,g,r⟩:=st.2;⟨o,kp t (by simp) o g,r⟩⟩
 item:=λi s Q E hi st hQ=>zdo st.1 st.2 (x:=xs[i]) (by simp[hi]) λh' hit' hs'=>hQ _ h' s.toks (by simp[hi]) ⟨hit',st.2.extBut hs'.extBut hne⟩ hs'
 done:=λs Q E st hE=>zeU hh st.1 st.2 (by simp) hE
def zcg(l:AG)(xs:Array AF)(n:Nat)(dc:Option AG)(sl:Array (Option AF)):
  Meets (Builtin.«enumerate.__new__» ⟨[.type "enumerate",.ref l],[]⟩) (λ_ R s=>s.heap.get? l=AA {cls:=.type "tuple",dict:=dc,data:=.seq xs n,slots:=sl} /\
   R (.ok (.ret (.ref (s.heap.push {cls:=.type "tuple_iterator",data:=.fields #[.ref l,.int 0 0]}).objs.size)))
    {s with heap:=(s.heap.push {cls:=.type "tuple_iterator",data:=.fields #[.ref l,.int 0 0]}).push {cls:=.type "enumerate",data:=.fields #[.none,.bool AE,.ref s.heap.objs.size,rawInt 0,.none,.none]} }):=
 .of_wp λprog w A R s h=>by
  let⟨hp,g,d,tk,os⟩:=s;let⟨gl,h⟩:=h;have hsub:=sub_enumerate;have hT:Heap.IsTuple (Shared.heap ⟨hp,g,d,tk,os⟩) l xs:=⟨_,gl,rfl,n,rfl⟩
  wp_walk using wpAny_loadPart' gl
  refine wpAny_stack_any λst=>AQ ?_;split
  .rename_i c _ _ _ _ _
   cases (c==F3 "enumerate")
   .wp_walk using wpAny_loadPart' gl,C5 hT
    exact⟨_,rfl,h⟩
   .wp_walk using wpAny_loadPart' gl,C5 hT
    exact⟨_,rfl,h⟩
  .wp_walk using wpAny_loadPart' gl,C5 hT
   exact⟨_,rfl,h⟩
theorem call_enumT{pg:A1}{wd:Ab}{A:A5}{Er:AF->AH->Prop}{s:AH}{l:AG}{xs:Array AF}{Q:AF->AH->Prop}(hT:s.heap.IsTuple l xs)
  (k:∀h',IsEnum h' (s.heap.objs.size+1) s.heap.objs.size 0 .none->h'.IsTupleIter s.heap.objs.size l 0->h'.objs.size=s.heap.objs.size+2 ->
   (∀b o,s.heap.get? b=AA o->h'.get? b=AA o)->Q (.ref (s.heap.objs.size+1)) {s with heap:=h'}):A2 (model pg wd) A (call (.type "enumerate") [.ref l]) Q Er s:=by
 let⟨⟨c,dct,dt,sl⟩,gl,hc,n,hd⟩:=hT
 cases (show c=.type "tuple" from hc)
 cases (show dt=.seq xs n from hd)
 refine callType_new F.called_enumerate ⋯ (F.typeCall_enumerate_1 _) (F.newCall_enumerate_1 _) (λobj=>F.args_object_init_2 obj _) F.entry_enumerate_new (zcg l xs n dct sl) ⟨gl,?_⟩;have hz:(s.heap.push {cls:=.type "tuple_iterator",data:=.fields #[.ref l,.int 0 0]}).objs.size=s.heap.objs.size+1:=ET ..;show _/\_;rw[hz];have he:IsEnum ((s.heap.push {cls:=.type "tuple_iterator",data:=.fields #[.ref l,.int 0 0]}).push {cls:=.type "enumerate",data:=.fields #[.none,.bool AE,.ref s.heap.objs.size,rawInt 0,.none,.none]}) (s.heap.objs.size+1) s.heap.objs.size 0 .none:=by
  have q:=A6 (s.heap.push {cls:=.type "tuple_iterator",data:=.fields #[.ref l,.int 0 0]}) (o:={cls:=.type "enumerate",data:=.fields #[.none,.bool AE,.ref s.heap.objs.size,rawInt 0,.none,.none]}) rfl;rw[hz]at q;exact q
 exact⟨⟨_,he,rfl⟩,k _ he ⟨_,AS _ (A6 _ rfl),rfl,rfl⟩ (by rw[ET,hz]) λb o y=>AS _ (AS _ y)⟩
end WE
namespace L2
open PySem PySem.Spec PyProof.Rows
section
variable {X:Cx}
def yc0(i j:Int):Prop:=0<j/\j<10000000000000000000000000000000000000000000000000000000000000000000000
def zfA:OpR X (binaryOp .FloorDiv) (rI yc0 λi j=>.int (i/j)):=opI λi j _ _ _ _ _ hc q=>by
 let⟨h1,h2⟩:=hc;refine floordiv_int ∅ (by rw[DO i ∅];exact q) (.inl (PyProof.noPylong_of_log2 ?_));have h0:j.natAbs≠0:=by lia
 refine AZ ((GI h0).mpr (?_:j.natAbs<2^250)) ⋯;have e:(10000000000000000000000000000000000000000000000000000000000000000000000:Nat)<2^250:=by decide
 lia
end
section
variable {X:Cx}{π:List (AG×BW)}{σ:St}{H:Hp}{s:AH}{h':Ao}
theorem Inv.turnLaid{t':Nat}{ch:List AG}{T:AG}{o:HO}(I:Inv X π σ H s)(hf:∀b∈ch,yaq X π H b)(k:∀b u,b∉ch->s.heap.get? b=AA u->h'.get? b=AA u)
  (hp:s.heap.objs.size<=T) (new:yH X.prog X.w (upd H T o) h' T o):Inv X π σ (upd H T o) {s with heap:=h',toks:=t'}:=by
 have hn:H T=none:=I.hok.fresh hp;have nch:∀b u,H b=AA u->b∉ch:=λb u e z=>by
  have q:=(hf b z).1;rw[e]at q
  cases q
 refine I.step (g':=s.gens) (d':=s.drawn) (ch:=ch) (λb hb=>?_) (λb u _ _ hc e _=>k b u hc e) (λb u _ _ hc e _=>⟨u.slots,k b u hc e⟩) (λb u _ e n=>?_) (λb u hc e=>⟨u,k b u hc e⟩) (λb xs e=>?_) (λb u v e=>?_) (λb ps e=>⟨#[],?_⟩) (λm hm=>?_) (λb u e=>?_) I.bare
 .let⟨f0,f1,f2,f3,f4,f5⟩:=hf b hb;exact⟨f3,f1,f4,f5⟩
 .rw[za (Ac (AZ (AT e) hp))];exact n
 .rw[za (zd e hn)];exact e
 .rw[za (zd e hn)];exact e
 .rw[za (zd e hn),e];simp
 .let⟨ob,es,ep,ho,r⟩:=hm;exact⟨ob,es,ep,k _ ob (λz=>(hf _ z).2.1 rfl) ho,r⟩
 .by_cases hb:b=T
  .subst hb;rw[zc]at e
   cases e
   exact new
  .rw[za hb]at e;refine(I.hok b u e).stay (λc v hc q=>k c v ?_ q) (λc q=>by rw[za (zd q hn)];exact q) λc xs q=>by rw[za (zd q hn)];exact q
   rcases hc with z|z
   .rw[z];exact nch b u e
   .exact nch c _ z
theorem Inv.turnedL{t':Nat}{ch:List AG}(I:Inv X π σ H s)(hf:∀b∈ch,yaq X π H b)(k:∀b u,b∉ch->s.heap.get? b=AA u->h'.get? b=AA u):Inv X π σ H {s with heap:=h',toks:=t'}:=by
 have nch:∀b u,H b=AA u->b∉ch:=λb u e z=>by
  have q:=(hf b z).1;rw[e]at q
  cases q
 refine I.step (g':=s.gens) (d':=s.drawn) (ch:=ch) (λb hb=>?_) (λb u _ _ hc e _=>k b u hc e) (λb u _ _ hc e _=>⟨u.slots,k b u hc e⟩) (λ_ _ _ _ n=>n) (λb u hc e=>⟨u,k b u hc e⟩) (λ_ _ e=>e) (λ_ _ _ e=>e) (λb ps e=>⟨#[],by rw[e];simp⟩) (λm hm=>?_) (λb u e=>?_) I.bare
 .let⟨f0,f1,f2,f3,f4,f5⟩:=hf b hb;exact⟨f3,f1,f4,f5⟩
 .let⟨ob,es,ep,ho,r⟩:=hm;exact⟨ob,es,ep,k _ ob (λz=>(hf _ z).2.1 rfl) ho,r⟩
 .refine(I.hok b u e).stay (λc v hc q=>k c v ?_ q) (λ_ q=>q) λ_ _ q=>q;rcases hc with z|z
  .rw[z];exact nch b u e
  .exact nch c _ z
end
def Ite(K:AD)(a:AG):It:=
 ⟨λi H=>∃xs x,SqT K H a xs/\xs[i]?=AA x,λi H x H'=>∃T,H T=AB/\x=.ref T/\∀xs y,SqT K H a xs->xs[i]?=AA y->H'=upd H T (.tup [.int i,y]),λi H=>∃xs,SqT K H a xs/\xs.length=i⟩
def zaY{h:Ao}{a b:AG}{o u:BW}(x:h.get? a=AA o)(y:h.get? b=AA u)(z:o.cls≠u.cls):a≠b:=λe=>by
 subst e;rw[x]at y
 cases y
 exact z rfl
def zdd{P:A1}{w:Ab}{K:AD}{es:List AL}{kk:Nat}{pos:BX}(a e it:AG):
  Turn P w K (.Tuple es kk pos) (Ite K a) [e,it] e (λi h=>(∃old,IsEnum h e it i old)/\h.IsTupleIter it a i) where
 mem:=by simp
 obj:=λi h st b hb=>by
  let⟨⟨old,he⟩,oi,gi,ci,di⟩:=st;rcases A8.mp hb with z|z
  .subst z;exact⟨_,he,λv y=>nomatch y⟩
  .have z:b=it:=by simpa using z
   subst z;exact⟨oi,gi,λv y=>by rw[di]at y;cases y⟩
 keep:=λi h h' st k=>by
  let⟨⟨old,he⟩,oi,gi,r⟩:=st;exact⟨⟨old,k e (by simp) _ he⟩,oi,k it (by simp) _ gi,r⟩
 item:=by
  intro X hP hw hK hc i π s σ H E I hf st hg;subst hP hw hK;let⟨xs,x,hq,hx⟩:=hg;let⟨its,rv,p,hz⟩:=I.tuple hq;let⟨⟨old,he⟩,hi⟩:=st;let⟨oi,gi,ci,di⟩:=id hi;let⟨oa,ga,ca,na,da⟩:=id p;have nai:a≠it:=zaY ga gi (by rw[ca,ci];exact λz=>absurd (CT z) ⋯);have nei:e≠it:=zaY he gi (by rw[ci];exact λz=>absurd (CT z) ⋯);have nea:e≠a:=zaY he ga (by rw[ca];exact λz=>absurd (CT z) ⋯);have hl:=rv.length;have hil:i<its.toArray.size:=by
   have:=(Ae.mp hx).1;simpa using (by lia:i<its.length)
  have W:=Ey (prog:=X.prog) (w:=X.w) (A:=X.A) (WE.draws_tuple (pg:=X.prog) (wd:=X.w) (A:=X.A.in1) (I.ok.hd hc) it a nai its.toArray) e nei (by simp[nei,nea]) (by simp);refine wpAny_pyNext_enum_itemD (WE.draws_tuple (pg:=X.prog) (wd:=X.w) (A:=X.A.in1) (I.ok.hd hc) it a nai its.toArray) he ⟨hi,p⟩ hil nei (by simp[nei,nea]) λy h1 tk hy ho hs' hT hsz' kp'=>⟨_,rfl,?_⟩;obtain⟨T,eT⟩:∃T,s.heap.objs.size=T:=⟨_,rfl⟩;have hsz:s.heap.objs.size<=T:=Fv eT;have kp:∀b o,b∉[e,it]->s.heap.get? b=AA o->h1.get? b=AA o:=λb o hb y=>kp' b o (λe'=>hb (by simp[e'])) (λe'=>hb (by simp[e'])) y;have mid:(∃x,IsEnumOut h1 e it ((i:Int)+1) x s.heap.objs.size)/\(h1.IsTupleIter it a (i+1)/\h1.IsTuple a its.toArray)/\s.heap.objs.size≠e/\s.heap.objs.size≠it:=⟨⟨_,ho⟩,hs',Dn (AT he),Dn (AT gi)⟩;rw[eT]at mid hT ⊢;refine W.go es kk pos i T _ _ E mid λh2 st2 kp2=>?_;let⟨u,hu,ru⟩:=rv.get hx;have ey:y=u:=AU (hy.symm.trans (by simpa using hu));subst ey;have hch:∀b o,b∉[e,it]->s.heap.get? b=AA o->h2.get? b=AA o:=λb o hb q=>kp2 b o hb (kp b o hb q);have hTw:=W.apart i T h1 mid;have new:yH X.prog X.w (upd H T (.tup [.int i,x])) h2 T (.tup [.int i,x]):=by
   exact⟨by show 2<=sizeLine;decide,[.int i tk,y],.cons ⟨tk,rfl⟩ (.cons ru .nil),kp2 T _ hTw hT⟩
  have I2:=I.turnLaid (t':=tk+1) hf hch hsz new;refine⟨.ref T,_,I2,rfl,⟨T,I.hok.fresh hsz,rfl,λys z hy' hz'=>?_⟩,⟨st2.1,st2.2.1⟩,λb hb=>?_⟩
  .rw[I.tuple_inj hy' hq]at hz';rw[hx]at hz'
   cases hz'
   rfl
  .rw[za (λz:b=T=>hTw (z ▸ hb))];exact(hf b hb).1
 done:=by
  intro X hP hw hK hc i π s σ H E I hf st hg;subst hP hw hK;let⟨xs,hq,hx⟩:=hg;let⟨its,rv,p,hz⟩:=I.tuple hq;let⟨⟨old,he⟩,hi⟩:=st;let⟨oi,gi,ci,di⟩:=id hi;let⟨oa,ga,ca,na,da⟩:=id p;have nai:a≠it:=zaY ga gi (by rw[ca,ci];exact λz=>absurd (CT z) ⋯);have nei:e≠it:=zaY he gi (by rw[ci];exact λz=>absurd (CT z) ⋯);have nea:e≠a:=zaY he ga (by rw[ca];exact λz=>absurd (CT z) ⋯);have hl:=rv.length;have W:=Ey (prog:=X.prog) (w:=X.w) (A:=X.A) (WE.draws_tuple (pg:=X.prog) (wd:=X.w) (A:=X.A.in1) (I.ok.hd hc) it a nai its.toArray) e nei (by simp[nei,nea]) (by simp);have en:its.toArray.size=i:=by simp;lia
  refine W.done s _ E (by rw[en];exact⟨⟨old,he⟩,hi,p⟩) λh2 tk kp=>⟨rfl,I.turnedL (t':=tk) hf kp⟩
 self:=λ_ _ _ _ _ st q=>by
  let⟨⟨old,he⟩,_⟩:=st;exact Ez he q
def yfy(K:AD)(ta:TA):TI:=λσ H R=>ta σ H λvs H1=>∃a,vs=[.ref a]/\(∃xs,SqT K H1 a xs)/\R (Ite K a) H1
def zfv{X:Cx}{a:AL}{es:List AL}{kk:Nat}{tp:BX}{ta:TA}{p pos:BX}(hg:Gl X "enumerate")(hm:X.mg "enumerate"=AB)(ha:PA X [a] ta)(hs:starEach [a] X.env=[(AE,eval a X.env)]:=by rfl):
  PI X (.Tuple es kk tp) (.Call (.Name "enumerate" p) [a] [] pos) (yfy X.K ta):=by
 intro π s σ H R I h;refine BQ (zbG I hg hm boot_enumerate ?_);refine CO (thn (ha pos π s σ H _ I h) λus s1 kq=>?_) hs rfl;let⟨vs,H1,I1,r1,q1⟩:=kq;let⟨l,rfl,⟨xs,hq⟩,q⟩:=q1;let⟨u,rfl,ru⟩:=Vals.one r1
 cases (show u=BA l from ru)
 let⟨its,rv,pt,hz⟩:=I1.tuple hq;refine WE.call_enumT (show s1.heap.IsTuple l its.toArray from pt) λh1 he hi hsz kp=>?_;refine Ez he ?_;refine⟨_,[s1.heap.objs.size+1,s1.heap.objs.size],_,_,H1,rfl,I1.kept (t':=s1.toks) kp,zdd l _ s1.heap.objs.size,⟨⟨_,he⟩,hi⟩,λb hb=>?_,q⟩;have hb2:s1.heap.objs.size<=b:=by
  rcases A8.mp hb with z|z
  .subst z;exact C9 _
  .have z:b=s1.heap.objs.size:=by simpa using z
   subst z;exact AN _
 exact I1.fpOk hb2 (I1.hok.fresh hb2)
abbrev No:AF->AH->Prop:=λ_ _=>False
abbrev yci(ifs:List AL)(env:Env):FH Bool:=forIn ifs AC λc r=>if r=AC then do let ok <-isTrue c env (eval c env);pure (Cw ok)else pure (Cw r)
section
variable {pg:A1}{wd:Ab}{A:A5}{R:Do->AH->Prop}{s:AH}
def zen{elt tg iter:AL}{ifs:List AL}{sc:An}{pos:BX}{it acc:AF}{env:Env}(I:Nat->AH->Prop)
  (turn:∀n s,I n s->A2 (model pg wd) A (pyNext it) (λr s1=>match r with
   |none=>R (.ok .next) s1
   |some v=>A2 (model pg wd) A (letOwnedTupleGo tg it v) (λ_ s2=>A2 (model pg wd) A (assign tg env v) (λ_ s3=>A2 (model pg wd) A (yci ifs env) (λok s4=>
     if ok=AC then A2 (model pg wd) A (eval elt env) (λx s5=>A2 (model pg wd) A (call (.builtin "list.append") [acc,x]) (λ_ s6=>∃m,m<n/\I m s6) No s5) No s4
     else ∃m,m<n/\I m s4) No s3) No s2) No s1) No s)
  (n:Nat) (h:I n s):codeAny (model pg wd) A (.compLoop (.ListComp elt [⟨tg,iter,ifs,0⟩] sc pos) 0 it acc env) R s:=by
 refine codeAny_loop rfl I (λn s hI=>?_) n h;show A2 _ A ((compTurn (.ListComp elt [⟨tg,iter,ifs,0⟩] sc pos) 0 it acc env).onRaise (λx=>do noteFrame x env;theTreesLotGoes x)) _ _ s;refine wpAny_noted ?_;rw[compTurn_list];refine AJ (BY (AJ (BD (turn n s hI) (λr s1 h1=>?_) λ_ _ f=>f.elim)))
 cases r with
 |none=>exact AQ h1
 |some v=>
  refine AJ (BD h1 (λ_ s2 h2=>AJ (BD h2 (λ_ s3 h3=>AJ (BD h3 (λok s4 h4=>?_) λ_ _ f=>f.elim)) λ_ _ f=>f.elim)) λ_ _ f=>f.elim)
  cases ok with
  |false=>exact AQ ⟨rfl,h4⟩
  |true=>exact AJ (AJ (BD h4 (λx s5 h5=>AJ (BD h5 (λ_ s6 h6=>AQ (AQ ⟨rfl,h6⟩)) λ_ _ f=>f.elim)) λ_ _ f=>f.elim))
end
def yR(env:Env)(r:List (AM×AG))(x:AM×Bg):List (AM×AG):=if x.2=.free then(x.1,(env.cells.lookup x.1).getD 0)::r else r
def yaW(sc:An)(env:Env):List (AM×AG):=sc.names.foldl (yR env) []
def zdl{α β:Type}{l:List α}{f:α->β->FH (ForInStep β)}{g:β->α->β}(h:∀x∈l,∀c,f x c=pure (.yield (g c x))):∀c:β,forIn l c f=pure (l.foldl g c):=by
 induction l with
 |nil=>exact λ_=>rfl
 |cons x l ih=>
  intro c;rw[Dz,h x AW,pure_bind,C2];exact ih (λy hy=>h y (AK _ hy)) (g c x)
def zl{sc:An}{env:Env}(hf:∀y∈sc.names,y.2=.free->∃c,env.cells.lookup y.1=AA c):closureFor sc env=pure (yaW sc env):=by
 erw[closureFor];rw[zdl (g:=yR env) (λx hx c=>?_)]
 .rfl
 .let⟨n,k⟩:=x
  by_cases hk:k=.free
  .subst hk;let⟨a,ha⟩:=hf _ hx rfl;have ha':env.cells.lookup n=AA a:=ha;simp[yR,cellOf,ha']
  .have hb:(k==Bw)=false:=by simpa using hk
   simp[yR,hk,hb]
def zah{env:Env}:∀(l:List (AM×Bg)) (r:List (AM×AG)),(∀y∈l,y.2=.free->∃c,env.cells.lookup y.1=AA c)->(∀x c,r.lookup x=AA c->env.cells.lookup x=AA c) ->
  ∀x c,(l.foldl (yR env) r).lookup x=AA c->env.cells.lookup x=AA c
 |[],r,_,h=>h
 |y::l,r,hf,h=>by
  refine zah l (yR env r y) (λz hz=>hf z (AK _ hz)) λx c e=>?_;unfold yR at e
  by_cases hk:y.2=.free
  .let⟨a,ha⟩:=hf y AW hk;rw[if_pos hk,As]at e
   cases hx:x==y.1 with
   |true=>
    rw[hx,ha]at e;rw[eq_of_beq hx,ha];exact e
   |false=>
    rw[hx]at e;exact h x c e
  .rw[if_neg hk]at e;exact h x c e
def zaN{env:Env}{x:AM}:∀(l:List (AM×Bg)) (r:List (AM×AG)),(∃c,r.lookup x=AA c)->∃c,(l.foldl (yR env) r).lookup x=AA c
 |[],r,h=>h
 |y::l,r,h=>by
  refine zaN l (yR env r y) ?_;unfold yR
  by_cases hk:y.2=.free
  .rw[if_pos hk,As]
   cases hx:x==y.1 with
   |true=>exact⟨_,rfl⟩
   |false=>exact h
  .rw[if_neg hk];exact h
def zE{env:Env}:∀(l:List (AM×Bg)) (r:List (AM×AG)),∀y∈l,y.2=.free->∃c,(l.foldl (yR env) r).lookup y.1=AA c
 |[],_,y,hy,_=>nomatch hy
 |z::l,r,y,hy,hk=>by
  rcases A8.mp hy with e|e
  .subst e;refine zaN l (yR env r y) ?_;unfold yR;rw[if_pos hk,As,beq_self_eq_true];exact⟨_,rfl⟩
  .exact zE l (yR env r z) y e hk
theorem mem_of_lookup{β:Type}{x:AM}{k:β}:∀{l:List (AM×β)},l.lookup x=AA k->(x,k)∈l
 |[],h=>nomatch h
 |y::l,h=>by
  rw[As]at h
  cases hx:x==y.1 with
  |true=>
   rw[hx]at h
   cases h
   rw[eq_of_beq hx];exact AW
  |false=>
   rw[hx]at h;exact AK _ (mem_of_lookup h)
def ybF(env:Env)(x:AM)(k:Bg):NameKind:=if (k==.free&&env.scope.kind==.function&&env.kindOf x==AA .cell)=AC then .cell else k
def zQ{sc:An}{env:Env}(x:AM):(relabel sc env).names.lookup x=(sc.names.lookup x).map (ybF env x):=by
 unfold relabel;show (sc.names.map λ(n,k)=>if (k==Bw&&env.scope.kind==.function&&env.kindOf n==AA .cell)then(n,D9)else(n,k)).lookup x=_
 induction sc.names with
 |nil=>rfl
 |cons y l ih=>
  let⟨n,k⟩:=y;rw[AR];show FV x ((if (k==Bw&&env.scope.kind==.function&&env.kindOf n==AA .cell)=AC then(n,D9)else(n,k))::_)=_
  cases hx:x==n with
  |true=>
   have e:=eq_of_beq hx;subst e
   by_cases hc:(k==Bw&&env.scope.kind==.function&&env.kindOf x==AA .cell)=AC
   .rw[if_pos hc,As,beq_self_eq_true];simp[ybF,hc]
   .rw[if_neg hc,As,beq_self_eq_true];simp[ybF,hc]
  |false=>
   by_cases hc:(k==Bw&&env.scope.kind==.function&&env.kindOf n==AA .cell)=AC
   .rw[if_pos hc];erw[As,hx];exact ih
   .rw[if_neg hc];erw[As,hx];exact ih
structure CI where
 C:AG
 s:AH
 H:Hp
 fp:List AG
def cxC(X:Cx)(sc:An)(NC:List AM)(j:CI):Cx where
 prog:=X.prog
 w:=X.w
 K:=X.K
 mg:=X.mg
 base:=X.base
 A:=X.A
 N:=NC
 s₀:=j.s
 H₀:=j.H
 env:=compEnvC sc (yaW sc X.env) j.C X.env
 outer:=X.stack
 stack:=X.stack
 ex:=j.fp
 fn:=λ_=>AE
 calm:=X.calm
 pn:=[]
 xe:=No
def inn(slots:List (Option Nat))(σ:St):St:=slots.map λo=>o.bind λj=>(σ[j]?).join
structure yJ(X:Cx)(sc:An)(NC:List AM)(slots:List (Option Nat)):Prop where
 kind:sc.kind=.function
 names:∀y∈sc.names,y.2=.local->sc.names.lookup y.1=AA .local
 nocell:∀y∈sc.names,y.2 ≠ .cell
 free:∀y∈sc.names,y.2=.free->X.env.scope.names.lookup y.1=AA .cell
 slot:∀(i:Nat) (x:AM) (j:Nat),NC[i]?=AA x->slots[i]?=AA (AA j)->X.N[j]?=AA x/\sc.names.lookup x=AA .free
 len:slots.length=NC.length
def zk7{X:Cx}{sc:An}{NC:List AM}{slots:List (Option Nat)}(N:List AM)(so:An)(hN:X.N=N)(hs:X.env.scope=so)(kind:sc.kind=.function)
  (names:∀y∈sc.names,y.2=.local->sc.names.lookup y.1=AA .local) (nocell:∀y∈sc.names,y.2 ≠ .cell) (free:∀y∈sc.names,y.2=.free->so.names.lookup y.1=AA .cell)
  (slot:∀p∈NC.zip slots,(p.2.all λj=>decide (N[j]?=AA p.1/\sc.names.lookup p.1=AA .free))=AC) (len:slots.length=NC.length):yJ X sc NC slots:=by
 subst hN hs;refine⟨kind,names,nocell,free,λi x j e1 e2=>?_,len⟩;have hm:(x,AA j)∈NC.zip slots:=AY (i:=i) (by rw[D1];exact⟨e1,e2⟩);have:=slot _ hm;simpa using this
section
variable {X:Cx}{sc:An}{NC:List AM}{slots:List (Option Nat)}{π:List (AG×BW)}{σ:St}{H:Hp}{s:AH}
theorem yJ.cells(O:yJ X sc NC slots)(ok:X.Ok):∀y∈sc.names,y.2=.free->∃c,X.env.cells.lookup y.1=AA c:=λy hy hk=>ok.has y.1 (.inl (O.free y hy hk))
theorem yJ.sub(O:yJ X sc NC slots)(ok:X.Ok):∀x c,(yaW sc X.env).lookup x=AA c->X.env.cells.lookup x=AA c:=zah sc.names [] (O.cells ok) λ_ _ e=>nomatch e
theorem yJ.rel(O:yJ X sc NC slots)(ok:X.Ok){x:AM}(h:sc.names.lookup x=AA .free):(relabel sc X.env).names.lookup x=AA .cell:=by
 rw[zQ,h];have e:X.env.kindOf x=AA .cell:=O.free _ (mem_of_lookup h) rfl;simp[ybF,ok.kind,e]
def zaX(I:Inv X π σ H s)(O:yJ X sc NC slots){fp:List AG}(hf:∀b∈fp,yaq X π H b)(hob:∀b∈fp,∃o,s.heap.get? b=AA o){h1:Ao}{t':Nat}{m:AM->Option AF}(hns:h1.Ns s.heap.objs.size m)
  (hk:∀b o,s.heap.get? b=AA o->h1.get? b=AA o):Inv (cxC X sc NC ⟨s.heap.objs.size,s,H,fp⟩) [] (inn slots σ) H {s with heap:=h1,toks:=t'}:=by
 have sub:=O.sub I.ok;have fss:∀b,b≠X.env.locals->b∉X.fs->b∉frs X.stack:=λb h1 h2 hb=>(A8.mp (I.stkSub b hb)).elim h1 h2;have ltC:∀x c,(yaW sc X.env).lookup x=AA c->c<s.heap.objs.size:=λx c e=>by
  let⟨v,q⟩:=I.cell x c (sub x c e);exact q.lt
 refine⟨⟨I.ok.mod,O.kind,I.ok.glob,I.ok.blt,AN _,λx y c e1 e2=>I.ok.inj x y c (sub x c e1) (sub y c e2),λx hx=>?_,λ_ _ z=>(nomatch z),I.ok.hd,I.ok.frames,.inl rfl,λb hb=>⟨?_,λx c e=>(hf b hb).2.2.2.2.1 x c (sub x c e)⟩,I.bs,Az I.ok.bsz I.sz,λb o e hb=>?_,λb hb=>fss b (hf b hb).2.1 (hf b hb).2.2.1,I.stack,I.stkFree⟩,
  rfl,I.bare,Un.kept hk,⟨m,hns,λi x v e1 e2 e3=>?_⟩,λx c e=>?_,I.hok.fresh (AN _),λx c e=>I.freeC x c (sub x c e),λp hp=>(nomatch hp),I.hok.kept hk,?_⟩
 .have hx':(relabel sc X.env).names.lookup x=AA .cell \/ (relabel sc X.env).names.lookup x=AA .free:=hx;rw[zQ]at hx'
  cases q:sc.names.lookup x with
  |none=>
   rw[q]at hx';rcases hx' with z|z<;>cases z
  |some k=>
   have hm:=mem_of_lookup q;have hkf:k=.free:=by
    rw[q]at hx';have nc:=O.nocell _ hm
    by_cases hk:k=.free
    .exact hk
    .exfalso;have hb:(k==Bw)=false:=by simpa using hk
     rcases hx' with z|z
     .simp[ybF,hb]at z;exact nc z
     .simp[ybF,hb]at z;exact hk z
   subst hkf;exact zE sc.names [] _ hm rfl
 .let⟨o,e⟩:=hob b hb;exact Ac (AT e)
 .rcases (hf b hb).2.2.2.1 with z|z
  .exact I.ok.noex b o e z
  .exact absurd (AZ (AT e) (Az I.ok.bsz z)) (Bb _)
 .obtain⟨j,e4,e5⟩:∃j,slots[i]?=AA (AA j)/\σ[j]?=AA (AA v):=by
   have e2':(slots.map λo=>o.bind λj=>(σ[j]?).join)[i]?=AA (AA v):=e2;rw[Au]at e2'
   cases q:slots[i]? with
   |none=>
    rw[q]at e2'
    cases e2'
   |some o=>
    rw[q]at e2'
    cases o with
    |none=>cases e2'
    |some j=>
     refine⟨j,rfl,?_⟩;have e6:(σ[j]?).join=AA v:=AU e2'
     cases q2:σ[j]? with
     |none=>
      rw[q2]at e6
      cases e6
     |some w=>
      rw[q2]at e6;have e7:w=AA v:=e6;rw[e7]
  let⟨e6,e7⟩:=O.slot i x j e1 e4;have kc:X.env.scope.names.lookup x=AA .cell:=O.free _ (mem_of_lookup e7) rfl;let⟨m0,hn0,hl⟩:=I.loc;let⟨u,r,lk⟩:=hl j x v e6 e5 (.inr (.inl kc));refine⟨u,r,.inr ⟨.inl (O.rel I.ok e7),?_⟩⟩;rcases lk with⟨z,_⟩|⟨_,c,hc,o,ho,hd⟩
  .rw[show X.env.kindOf x=AA .cell from kc]at z
   cases z
  .let⟨c',hc'⟩:=zE (env:=X.env) sc.names [] _ (mem_of_lookup e7) rfl;have e8:c'=c:=AU ((sub x c' hc').symm.trans hc);subst e8;exact⟨c',hc',o,hk _ _ ho,hd⟩
 .let⟨v,o,ho,hd⟩:=I.cell x c (sub x c e);exact⟨v,o,hk _ _ ho,hd⟩
 .show (slots.map λo=>o.bind λj=>(σ[j]?).join).length=NC.length;rw[Ak,O.len]
def zaT(I:Inv X π σ H s){fp:List AG}(hf:∀b∈fp,yaq X π H b){C:AG}(hC:s.heap.objs.size<=C){pl:List (AG×BW)}{σ':St}{H':Hp}{s':AH}(J:Inv (cxC X sc NC ⟨C,s,H,fp⟩) pl σ' H' s')
  {h2:Ao} (hb:B9 C s'.heap h2):Inv X π σ H' {s' with heap:=h2}:=by
 have nC:∀b o,s.heap.get? b=AA o->b≠C:=λb o e=>Ac (AZ (AT e) hC);have B:Un (frs X.stack) fp H H' s.heap s'.heap:=J.base;have fC:H' C=none:=J.free;refine I.call' (ch:=fp) J.os ⟨λb o e n h3 h4=>(hb.2 b (nC b o e)).trans (B.keep b o e n h3 h4),λb o e n h3 h4=>?_,B.free,λb o e h4=>?_,B.tups,B.frzs,B.tbls⟩ (λb u e=>?_) J.bare λb h3=>⟨(hf b h3).2.2.2.1,(hf b h3).2.1,(hf b h3).2.2.2.2.1,(hf b h3).2.2.2.2.2⟩
 .let⟨sl,q⟩:=B.slot b o e n h3 h4;exact⟨sl,(hb.2 b (nC b o e)).trans q⟩
 .let⟨o',q⟩:=B.there b o e h4;exact⟨o',(hb.2 b (nC b o e)).trans q⟩
 .refine(J.hok b u e).stay (λc v hc q=>(hb.2 c λz=>?_).trans q) (λ_ q=>q) λ_ _ q=>q;subst z;rcases hc with z|z
  .rw[z,e]at fC
   cases fC
  .rw[z]at fC
   cases fC
end
def PTs(X:Cx)(ifs:List AL)(t:TT):Prop:=
 ∀(π:List (AG×BW)) (s:AH) (σ:St) (H:Hp) (Q:Bool->Hp->Prop),Inv X π σ H s->t σ H Q->A2 (model X.prog X.w) X.A (yci ifs X.env) (TP X π σ Q) X.xe s
def yb7:TT:=λ_ H Q=>Q AC H
def zaC{X:Cx}:PTs X [] yb7:=λ_ _ _ H _ I h=>wpAny_tests_nil ⟨H,I,h⟩
def zhK{X:Cx}{c:AL}{t:TT}(h:PT X c t):PTs X [c] t:=λπ s σ H Q I q=>wpAny_tests_one (h π s σ H Q I q)
def ybH(J:It)(D:AG)(g:TG)(ti:TT)(te:TE)(W:Nat->Nat->St->List V->Hp->Prop)(Q:Hp->Prop):Prop:=
 ∀i m σc ys H2,W i m σc ys H2->H2 D=AA (.lst ys)/\((J.stop i H2/\Q H2) \/ (J.go i H2/\ys.length<sizeLine/\∃N:St->List V->Hp->Prop,(∀σ' ys' H',N σ' ys' H'->∃m',m' < m/\W (i+1) m' σ' ys' H') /\
  ∀x H3,J.yld i H2 x H3->g x σc H3 λσ4 H4=>ti σ4 H4 λb H5=>if b=AC then te σ4 H5 λy H6=>H6 D=AA (.lst ys)/\N σ4 (ys++[y]) (upd H6 D (.lst (ys++[y])))else N σ4 ys H5))
def ybP(slots:List (Option Nat))(wi:TI)(g:TG)(ti:TT)(te:TE):TE:=λσ H Q=>wi σ H λJ H1=>∀D,H1 D=AB->∃W:Nat->Nat->St->List V->Hp->Prop,(∃m,W 0 m (inn slots σ) [] (upd H1 D (.lst [])))/\ybH J D g ti te W (Q (.ref D))
section
variable {X:Cx}{sc:An}{NC:List AM}{slots:List (Option Nat)}{elt tg iter:AL}{ifs:List AL}{pos:BX}{g:TG}{ti:TT}{te:TE}
def zf4(hc:X.calm=AC)(hg:∀j,PG (cxC X sc NC j) tg g)(ht:∀j,PTs (cxC X sc NC j) ifs ti)(he:∀j,PE (cxC X sc NC j) elt te){cj:CI}{it D:AG}{tn:Nat->Ao->Prop}{J:It}
  {W:Nat->Nat->St->List V->Hp->Prop} {Q:Hp->Prop} {R:Do->AH->Prop} {s:AH} {σc:St} {ys:List V} {H:Hp} (T:Turn X.prog X.w X.K tg J cj.fp it tn)
  (I:Inv (cxC X sc NC cj) [] σc H s) (hf:∀b∈cj.fp,yaq (cxC X sc NC cj) [] H b) (st:tn 0 s.heap) {m:Nat} (w0:W 0 m σc ys H) (step:ybH J D g ti te W Q)
  (fin:∀σ' H' s',Inv (cxC X sc NC cj) [] σ' H' s'->Q H'->R (.ok .next) s'):
  codeAny (model X.prog X.w) X.A (.compLoop (.ListComp elt [⟨tg,iter,ifs,0⟩] sc pos) 0 (.ref it) (.ref D) (cxC X sc NC cj).env) R s:=by
 have stat:∀{H':Hp},(∀b∈cj.fp,H' b=AB)->∀b∈cj.fp,yaq (cxC X sc NC cj) [] H' b:=λhn b hb=>⟨hn b hb,(hf b hb).2⟩;refine zen (λn s'=>∃i σ' ys' H',Inv (cxC X sc NC cj) [] σ' H' s'/\tn i s'.heap/\(∀b∈cj.fp,H' b=AB)/\W i n σ' ys' H') ?_ m ⟨0,σc,ys,H,I,st,λb hb=>(hf b hb).1,w0⟩
 rintro n s3 ⟨i,σ3,ys3,H3,I3,st3,fr3,w3⟩
 let⟨hD,q⟩:=step i n σ3 ys3 H3 w3;rcases q with⟨stop,qn⟩|⟨go,hz,N,hN,turn⟩
 .refine thn (T.done (cxC X sc NC cj) rfl rfl rfl hc i [] s3 σ3 H3 No I3 (stat fr3) st3 stop) λr s4 kq=>?_;let⟨hr,I4⟩:=kq;subst hr;exact fin σ3 H3 s4 I4 qn
 .refine thn (T.item (cxC X sc NC cj) rfl rfl rfl hc i [] s3 σ3 H3 No I3 (stat fr3) st3 go) λr s4 kq=>?_;let⟨u,hr,h4⟩:=kq;subst hr;refine thn h4 λ_ s5 kq=>?_;let⟨x,H5,I5,r5,y5,st5,fr5⟩:=kq;have I5':=I5.pinned (stat fr5) (T.obj _ _ st5);refine thn (hg cj _ s5 σ3 H5 x u _ I5' r5 (turn x H5 y5)) λ_ s6 kq=>?_;let⟨σ6,H6,I6,q6⟩:=kq;refine thn (ht cj _ s6 σ6 H6 _ I6 q6) λok s7 kq=>?_;let⟨H7,I7,q7⟩:=kq;have again:∀{σ8:St} {ys8:List V} {H8:Hp} {s8:AH},Inv (cxC X sc NC cj) ([]++yaI cj.fp s5.heap) σ8 H8 s8->N σ8 ys8 H8->∃m,m<n/\∃i σ' ys' H',Inv (cxC X sc NC cj) [] σ' H' s8/\tn i s8.heap/\(∀b∈cj.fp,H' b=AB)/\W i m σ' ys' H':=λ{σ8 ys8 H8 s8} I8 n8=>by
   let⟨m',hm,w8⟩:=hN σ8 ys8 H8 n8;refine⟨m',hm,i+1,σ8,ys8,H8,I8.unpinned,T.keep _ _ _ st5 λb hb o e=>(I8.pin (b,o) (A7 _ (A7 _ (zr hb e)))).1,λb hb=>?_,w8⟩;let⟨o,e,d⟩:=T.obj _ _ st5 b hb;exact(I8.pin (b,o) (A7 _ (A7 _ (zr hb e)))).2.1
  cases ok with
  |false=>
   rw[if_neg AX]at q7 ⊢;exact again I7 q7
  |true=>
   rw[if_pos rfl]at q7 ⊢;refine thn (he cj _ s7 σ6 H7 _ I7 q7) λy s8 kq=>?_;let⟨v,H8,I8,r8,hD8,q8⟩:=kq;refine thn (zaL (X:=cxC X sc NC cj) _ s8 σ6 H8 (.ref D) [v] (.ref D) [y] (λz H'=>z=.non/\H'=upd H8 D (.lst (ys3++[v]))) I8 rfl (.cons r8 .nil) ⟨D,ys3,v,rfl,rfl,hD8,hz,rfl,rfl⟩) λz s9 kq=>?_;let⟨zv,H9,I9,r9,e1,e2⟩:=kq;subst e2;exact again I9 q8
def zaW(hc:X.calm=AC)(O:yJ X sc NC slots)(hg:∀j,PG (cxC X sc NC j) tg g)(ht:∀j,PTs (cxC X sc NC j) ifs ti)(he:∀j,PE (cxC X sc NC j) elt te){π:List (AG×BW)}{s:AH}{σ:St}{H:Hp}(I:Inv X π σ H s)
  {it:AG} {fp:List AG} {tn:Nat->Ao->Prop} {J:It} (T:Turn X.prog X.w X.K tg J fp it tn) (st:tn 0 s.heap) (hf:∀b∈fp,yaq X π H b) {Q:VK}
  (h:∀D,H D=AB->∃W:Nat->Nat->St->List V->Hp->Prop,(∃m,W 0 m (inn slots σ) [] (upd H D (.lst [])))/\ybH J D g ti te W (Q (.ref D))) {RR:AF->AG->Do->AH->Prop}
  (fin:∀D C s' H',Q (.ref D) H'->(∃o m,s'.heap.get? C=AA o/\s'.heap.Ns C m/\∀v,o.data ≠ .cell v)->yaq X π H' C->(∀h2,B9 C s'.heap h2->Inv X π σ H' {s' with heap:=h2})->RR (.ref D) C (.ok .next) s'):
  A2 (model X.prog X.w) X.A (newList []) (λacc s3=>A2 (model X.prog X.w) X.A (newFunctionEnv sc X.env.globals (yaW sc X.env) [] X.env.qual AB .none (AA X.env)) (λcenv s4=>
   codeAny (model X.prog X.w) X.A (.compStart (.ListComp elt [⟨tg,iter,ifs,0⟩] sc pos) 0 (.ref it) acc {cenv with scope:=relabel sc X.env}) (RR acc cenv.locals) s4) X.xe s3) X.xe s:=by
 refine BE (EU O.nocell (by intro y hy;simp at hy) (λh1 hns1 hsb1=>?_) O.kind);dsimp only at hns1 hsb1 ⊢;have hDn:H s.heap.objs.size=none:=I.hok.fresh (AN _);let⟨W,⟨m,w0⟩,step⟩:=h s.heap.objs.size hDn;obtain⟨s3,hs3⟩:∃x:AH,x=({s with heap:=s.heap.push {cls:=.type "list",dict:=AB,data:=.seq ([]:List AF).toArray} }:AH):=⟨_,rfl⟩;have e3:s3.heap=s.heap.push {cls:=.type "list",dict:=AB,data:=.seq ([]:List AF).toArray}:=by rw[hs3]
 rw[<-e3]at hns1 hsb1;have hp3:∀b o,s.heap.get? b=AA o->s3.heap.get? b=AA o:=λb o e=>by
  rw[e3];exact AS _ e
 have I3:Inv X π σ (upd H s.heap.objs.size (.lst [])) s3:=by
  have q:=I.laid (a:=s.heap.objs.size) (o:=.lst []) (h':=s3.heap) (t':=s.toks) hp3 (AN _) ⟨BO _,[],_,.nil,by rw[e3];exact A6 _ rfl⟩;rw[hs3]at q ⊢;exact q
 have hf3:∀b∈fp,yaq X π (upd H s.heap.objs.size (.lst [])) b:=λb hb=>by
  let⟨o,e,_⟩:=T.obj _ _ st b hb;refine⟨?_,(hf b hb).2⟩;rw[za (Ac (AT e))];exact(hf b hb).1
 have st3:tn 0 s3.heap:=T.keep _ _ _ st λb _ o e=>hp3 b o e;have hob:∀b∈fp,∃o,s3.heap.get? b=AA o:=λb hb=>by
  let⟨o,e,_⟩:=T.obj _ _ st3 b hb;exact⟨o,e⟩
 have hk1:∀b o,s3.heap.get? b=AA o->h1.get? b=AA o:=λb o e=>hsb1.extBut b o (Ac (AT e)) (AS _ e);have J1:=zaX (t':=s3.toks+([]:List (AM×AF)).length) I3 O hf3 hob hns1 hk1;have hfc:∀b∈fp,yaq (cxC X sc NC ⟨s3.heap.objs.size,s3,upd H s.heap.objs.size (.lst []),fp⟩) [] (upd H s.heap.objs.size (.lst [])) b:=λb hb=>
  ⟨(hf3 b hb).1,(J1.ok.exf b hb).1,J1.ok.exfs b hb,.inl hb,(J1.ok.exf b hb).2,λp hp=>nomatch hp⟩
 have loop:codeAny (model X.prog X.w) X.A (.compLoop (.ListComp elt [⟨tg,iter,ifs,0⟩] sc pos) 0 (.ref it) (.ref s.heap.objs.size) (cxC X sc NC ⟨s3.heap.objs.size,s3,upd H s.heap.objs.size (.lst []),fp⟩).env) (RR (.ref s.heap.objs.size) s3.heap.objs.size)
   {s3 with heap:=h1,toks:=s3.toks+([]:List (AM×AF)).length}:=by
  refine zf4 (D:=s.heap.objs.size) (Q:=Q (.ref s.heap.objs.size)) hc hg ht he T J1 hfc (T.keep _ _ _ st3 λb _ o e=>hk1 b o e) w0 step λσ' H' s' J' q'=>?_;have fC:H' s3.heap.objs.size=none:=J'.free;refine fin _ _ s' H' q' ?_ (I3.fpOk (AN _) fC) λh2 hb=>zaT I3 hf3 (AN _) J' hb;let⟨m',hn',_⟩:=J'.loc;let⟨o,es,ep,ho,hd,r⟩:=id hn';exact⟨o,m',ho,hn',λv z=>by rw[hd]at z;cases z⟩
 have self:=λ(RQ:AF->AH->Prop) (EE:AF->AH->Prop)=>T.self X.A 0 {s3 with heap:=h1,toks:=s3.toks+([]:List (AM×AF)).length} RQ EE (T.keep _ _ _ st3 λb _ o e=>hk1 b o e);subst hs3;exact codeAny_compStart_list loop (self _ _ loop)
variable {wi:TI}
def zgU(hc:X.calm=AC)(O:yJ X sc NC slots)(hi:PI X tg iter wi)(hg:∀j,PG (cxC X sc NC j) tg g)(ht:∀j,PTs (cxC X sc NC j) ifs ti)(he:∀j,PE (cxC X sc NC j) elt te)
  (hs:∀x,foldedSetIterable iter X.env x=pure x:=by intro _;rfl):PE X (.ListComp elt [⟨tg,iter,ifs,0⟩] sc pos) (ybP slots wi g ti te):=by
 intro π s σ H Q I h;rw[eval_ListComp];refine By (use:=AB) rfl hs (zl (O.cells I.ok)) O.kind O.names (thn (hi π s σ H _ I h) λv s1 h1=>thn h1 λitv s2 h2=>?_);let⟨it,fp,tn,J,H2,rfl,I2,T,st2,f2,q2⟩:=h2;refine zaW hc O hg ht he I2 T st2 f2 q2 λD C s' H' q' ⟨o,m,ho,hn,_⟩ _ out=>⟨m,hn,λh2 hb=>⟨.ref D,H',out h2 hb,rfl,q'⟩⟩
def zeQ{i:Nat}{x:AM}{px spos:BX}(hN:X.N.Nodup)(hix:X.N[i]?=AA x)(hx:Loc X.env.scope x)(hc:X.calm=AC)(O:yJ X sc NC slots)(hi:PI X tg iter wi)(hg:∀j,PG (cxC X sc NC j) tg g)(ht:∀j,PTs (cxC X sc NC j) ifs ti)(he:∀j,PE (cxC X sc NC j) elt te)
  (hsw:swapsWith (.ListComp elt [⟨tg,iter,ifs,0⟩] sc pos) (AA (.Name x px)) spos.line X.env=pure true:=by rfl) (hs:∀x,foldedSetIterable iter X.env x=pure x:=by intro _;rfl)
  (hf:X.fn x=AC \/ X.env.scope.names.lookup x=AA .local:=by first|exact .inl rfl|exact .inr rfl|assumption):PS X (.Assign [.Name x px] (.ListComp elt [⟨tg,iter,ifs,0⟩] sc pos) spos) (ydX (ybP slots wi g ti te) (ybR i)):=by
 intro π s σ H Dd I h;rw[exec_Assign_Name_used _ _ _ _ hsw,arm_evalThenUse_ListComp];refine AJ (BY (AJ (AJ ?_)));refine By (Q:=λ_ s'=>A2 (model X.prog X.w) X.A (pure ()) (λ_ s''=>A2 (model X.prog X.w) X.A (pure Fq) (SP X π Dd) X.xe s'') X.xe s') rfl hs (zl (O.cells I.ok)) O.kind O.names (thn (hi π s σ H _ I h) λv s1 h1=>thn h1 λitv s2 h2=>?_);let⟨it,fp,tn,J,H2,rfl,I2,T,st2,f2,q2⟩:=h2;refine zaW (Q:=λx H1=>ybR i x σ H1 Dd.nx) hc O hg ht he I2 T st2 f2 q2 λD C s' H' q' ⟨o,m,ho,hn,hd⟩ FC out=>?_;have I':Inv X π σ H' s':=out s'.heap (GR ..);have Ip:Inv X (π++[(C,o)]) σ H' s':=I'.pins_of λp hp=>(Aw.mp hp).elim (λz=>I'.pin p (A7 _ z)) λz=>by
  have e:p=(C,o):=by simpa using z
  subst e;exact⟨ho,FC.1,FC.2.1,FC.2.2.1,hd⟩
 show A2 (model X.prog X.w) X.A (assign (.Name x px) X.env (.ref D)) _ _ s';refine El (zK Ip hN hix hx (show RelV (.ref D) (.ref D)from rfl) (λs6 I6=>?_) hf);have g6:=(I6.pin (C,o) (A7 _ (A7 _ AW))).1;let⟨o',es,ep,ho',r⟩:=hn;rw[ho]at ho'
 cases ho'
 refine⟨m,⟨o,es,ep,g6,r⟩,λh2 hb=>AQ (AQ ?_)⟩;exact⟨_,H',I6.unpinned.turned (t':=s6.toks) (λb u hb' e=>(hb.2 b hb').trans e) FC.1 FC.2.1 FC.2.2.2.1 FC.2.2.2.2.1 FC.2.2.2.2.2,q'⟩
end
def zc8:∀{bs:List Bool} {us:List AF},Vals (bs.map V.bl) us->LSm.BoolsAre us bs
 |[],_,.nil=>.nil
 |b::bs,_,.cons r q=>by
  cases (show _=CS b from r)
  exact .cons b (zc8 q)
section
variable {X:Cx}
def ye7(K:AD):List V->Hp->VK->Prop:=λxs H Q=>∃(l:AG) (bs:List Bool),xs=[.ref l]/\SqL K H l (bs.map V.bl)/\Q (.bl (bs.all id)) H
def zfH(hc:X.calm=AC):yab X (.builtin "all") (ye7 X.K):=by
 intro π s σ H xs us Q I r h;let⟨l,bs,rfl,hq,q⟩:=h;let⟨u,rfl,ru⟩:=Vals.one r
 cases (show u=BA l from ru)
 let⟨its,rv,pl,hz⟩:=I.list hq;have hb:=zc8 rv;have hl:=pl.isList;have hlt:l<s.heap.objs.size:=by
  let⟨_,e,_⟩:=hl;exact AT e
 refine call_all_walk (FA hl ?_);refine⟨s.heap.objs.size,[s.heap.objs.size,l],[s.heap.objs.size],its.toArray.size,_,_,λi=>(bs[i]?).getD AC,rfl,Walks.list (A:=X.A.in1) (I.ok.hd hc) _ l (Ac hlt) its.toArray,⟨⟨_,A6 _ rfl,rfl,rfl⟩,hl.push _⟩,λi v s' Q' E' hP hQ=>?_,λh' tk hk=>?_⟩
 .let⟨b,e,rfl⟩:=hb.get i v (by simpa using hP);erw[e,BK]at hQ;exact Bs hQ
 .have e:((Cm its.toArray.size).all λi=>(bs[i]?).getD AC)=bs.all id:=by
   rw[AV,hb.length];exact LSm.range_all bs
  rw[e];exact⟨.bl _,H,I.kept (t':=tk) (LSm.kept_iter hk),rfl,q⟩
end
section
variable {X:Cx}{π:List (AG×BW)}{σ:St}{H:Hp}{s:AH}
end
section
variable {X:Cx}{a:AL}{ta:TE}{K:AD}
end
end L2
namespace L2
end L2
namespace L2
open PySem PySem.Spec PyProof.Rows
def CX1(P:A1)(w:Ab):CXT:=λouter H s E e s'=>∃(a:AG) (cls a0:AF) (H':Hp) (B:Ao),e=.ref a/\s'.os=s.os/\Cu s'.gens/\Fw B outer a cls a0 s'.heap/\HOk P w H' s'.heap/\Un (frs outer) [] H H' s.heap s'.heap /\
 (∀b o,s.heap.get? b=AA o->H b=AB->b∉frs outer->B.get? b=AA o)/\(∀b u,H' b=AA u->∃o,B.get? b=AA o)/\(∀b o,s.heap.get? b=AA o->b∉frs outer->∃o',B.get? b=AA o')/\E cls AB H'
theorem yH.there{P:A1}{w:Ab}{H:Hp}{h:Ao}{a:AG}{o:HO}(x:yH P w H h a o):∃ob,h.get? a=AA ob:=by
 induction o with
 |lst xs=>let⟨_,_,_,_,e⟩:=x;exact⟨_,e⟩
 |tup xs=>let⟨_,_,_,e⟩:=x;exact⟨_,e⟩
 |dK kvs=>let⟨_,_,_,_,ob,_,_,e,_⟩:=x;exact⟨ob,e⟩
 |dT kvs=>let⟨_,_,_,_,ob,_,_,e,_⟩:=x;exact⟨ob,e⟩
 |set S n=>let⟨ob,_,_,_,e,_⟩:=x;exact⟨ob,e⟩
 |ins C dx fs=>let⟨_,_,_,e,_⟩:=x;exact⟨_,e⟩
 |own y=>exact x
 |xd fs=>let⟨_,⟨ob,_,_,e,_⟩,_⟩:=x;exact⟨ob,e⟩
 |rng lo hi=>let⟨_,_,_,e⟩:=x;exact⟨_,e⟩
 |frz ob u ih=>exact⟨ob,x.1⟩
 |tbl ps=>exact⟨_,x⟩
 |met f y=>exact⟨_,x⟩
 |ext φ=>exact x.2.1
theorem HOk.inB{P:A1}{w:Ab}{H:Hp}{h h' B:Ao}(ok:HOk P w H h)(hB:B.StaysIn h)(hB':B.StaysIn h')(tr:∀b u,H b=AA u->∃o,B.get? b=AA o):HOk P w H h':=λa o e=>
 (ok a o e).stay (λb u hb q=>by
  have hb':∃o,B.get? b=AA o:=by
   rcases hb with z|z
   .rw[z];exact tr a o e
   .exact tr b _ z
  let⟨o',q'⟩:=hb';have:=hB b o' q';rw[q]at this
  cases this
  exact hB' b u q') (λ_ q=>q) λ_ _ q=>q
section
variable {P:A1}{w:Ab}{K:AD}{mg:AM->Option AF}{base:Ao}{N:List AM}{qual:AM}{scope:An}{f:AG}{cd:AF}{A:A5}{outer:List Env}{s₀:AH}{H₀:Hp}{E:XK}
 {π:List (AG×BW)} {σ:St} {H:Hp} {s:AH}
def zeM{h':Ao}{e:AG}{cls:AF}{vs:List AF}(I:Inv (yav (CX1 P w) P w K mg base N qual scope f cd A outer s₀ H₀ E) π σ H s)(hx:F8 s.heap h' e cls vs)(hE:E cls AB H):
  (yav (CX1 P w) P w K mg base N qual scope f cd A outer s₀ H₀ E).xe (.ref e) {s with heap:=h'}:=by
 have stk:s.heap.FunFrames base (envOfC qual scope s₀.heap.objs.size f cd::outer):=I.stack;have hst:∀b,b∈frs (envOfC qual scope s₀.heap.objs.size f cd::outer)->b=s₀.heap.objs.size \/ b∈frs outer:=λb hb=>by
  have hb':b∈s₀.heap.objs.size::frs outer:=hb;exact A8.mp hb'
 have inB:∀b o,s.heap.get? b=AA o->b∉frs (envOfC qual scope s₀.heap.objs.size f cd::outer)->(C1 s.heap (frs (envOfC qual scope s₀.heap.objs.size f cd::outer))).get? b=AA o:=λb o q n=>EX _ q n;have hB:(C1 s.heap (frs (envOfC qual scope s₀.heap.objs.size f cd::outer))).StaysIn s.heap:=λb o q=>Eb _ q;have bse:Un (frs outer) [] H₀ H s₀.heap s.heap:=I.base;have lt:∀b o,s₀.heap.get? b=AA o->b≠s₀.heap.objs.size:=λb o q=>Ac (AT q);have tr:∀b u,H b=AA u->∃o,(C1 s.heap (frs (envOfC qual scope s₀.heap.objs.size f cd::outer))).get? b=AA o:=λb u q=>by
  let⟨o,ho⟩:=yH.there (I.hok b u q);exact⟨o,inB b o ho λhb=>by
   have:=I.stkFree b hb;rw[q]at this
   cases this⟩
 refine wpAny_leaves_madeW (base:=C1 s.heap (frs (envOfC qual scope s₀.heap.objs.size f cd::outer))) (h:=s.heap) I.ok.frames rfl hB (PySem.W.funFrames_hide stk λenv he a ha=>DN.mpr ⟨env,he,ha⟩) hx λh'' t fl tu tn up=>?_;have up':s.heap.UpToSlots h'':=(Fu hx.keeps).trans up;refine⟨e,cls,_,H,_,rfl,I.os,I.bare,fl,HOk.inB I.hok hB fl.1 tr,⟨λb o q n hb _=>?_,λb o q n hb _=>?_,bse.free,λb o q _=>?_,bse.tups,bse.frzs,bse.tbls⟩,λb o q n hb=>?_,tr,λb o q hb=>?_,hE⟩
 .refine fl.1 b o (inB b o (bse.keep b o q n hb (by simp)) λz=>?_);rcases hst b z with z|z
  .exact lt b o q z
  .exact hb z
 .let⟨sl,q1⟩:=bse.slot b o q n hb (by simp);let⟨_,o',ho',hd⟩:=Bk stk (show b∈Ch (λ(z:Env)=>z.frame) _ from AK _ hb);let⟨sl',q2⟩:=up' b _ q1 (by rw[ho']at q1;cases q1;exact hd);exact⟨sl',q2⟩
 .let⟨o',q1⟩:=bse.there b o q (by simp)
  by_cases hb:b∈frs (envOfC qual scope s₀.heap.objs.size f cd::outer)
  .let⟨_,o2,ho',hd⟩:=Bk stk hb;let⟨sl',q2⟩:=up' b _ ho' hd;exact⟨_,q2⟩
  .exact⟨o',fl.1 b o' (inB b o' q1 hb)⟩
 .refine inB b o (bse.keep b o q n hb (by simp)) λz=>?_;rcases hst b z with z|z
  .exact lt b o q z
  .exact hb z
 .let⟨o',q1⟩:=bse.there b o q (by simp);refine⟨o',inB b o' q1 λz=>?_⟩;rcases hst b z with z|z
  .exact lt b o q z
  .exact hb z
def zk8:ycO (CX1 P w) (yav (CX1 P w) P w K mg base N qual scope f cd A outer s₀ H₀ E) E:=by
 intro π σ H s e s' I h;let⟨a,cls,a0,H',B,rfl,os,bare,fl,hok,un,hB,tr,hT,hE⟩:=h;have bse:Un (frs outer) [] H₀ H s₀.heap s.heap:=I.base;have lt:∀b o,s₀.heap.get? b=AA o->b≠s₀.heap.objs.size:=λb o q=>Ac (AT q);have hst:∀b,b∈frs (envOfC qual scope s₀.heap.objs.size f cd::outer)->b=s₀.heap.objs.size \/ b∈frs outer:=λb hb=>by
  have hb':b∈s₀.heap.objs.size::frs outer:=hb;exact A8.mp hb'
 have un':Un (frs (envOfC qual scope s₀.heap.objs.size f cd::outer)) [] H H' s.heap s'.heap:=un;have kB:∀b o,s₀.heap.get? b=AA o->H₀ b=AB->b∉frs outer->B.get? b=AA o:=λb o q n hb=>hB b o (bse.keep b o q n hb (by simp)) (bse.free b o q n (by simp)) λz=>by
  rcases hst b z with z|z
  .exact lt b o q z
  .exact hb z
 have kT:∀b o,s₀.heap.get? b=AA o->b∉frs outer->∃o',B.get? b=AA o':=λb o q hb=>by
  let⟨o',q1⟩:=bse.there b o q (by simp);refine hT b o' q1 λz=>?_;rcases hst b z with z|z
  .exact lt b o q z
  .exact hb z
 refine wpAny_leaves_onW I.ok.frames rfl fl λh'' fl' up=>?_;refine⟨a,cls,a0,H',B,rfl,os.trans I.os,bare,fl',HOk.inB hok fl.1 fl'.1 tr,⟨λb o q n hb _=>fl'.1 b o (kB b o q n hb),λb o q n hb _=>?_,λb o q n _=>?_,λb o q _=>?_,λb xs q=>un'.tups b xs (bse.tups b xs q),λb o u q=>un'.frzs b o u (bse.frzs b o u q),λb ps q=>?_⟩,kB,tr,kT,hE⟩
 .let⟨sl,q1⟩:=bse.slot b o q n hb (by simp);have n1:=bse.free b o q n (by simp);let⟨sl1,q2⟩:=un'.slot b _ q1 n1 (AK _ hb) (by simp);let⟨_,o',ho',hd⟩:=Bk fl.2.2.1 (show b∈Ch (λ(z:Env)=>z.frame) _ from AK _ hb);let⟨sl',q3⟩:=up b _ q2 (by rw[ho']at q2;cases q2;exact hd);exact⟨sl',q3⟩
 .let⟨o',q1⟩:=bse.there b o q (by simp);exact un'.free b o' q1 (bse.free b o q n (by simp)) (by simp)
 .let⟨o',q1⟩:=bse.there b o q (by simp);let⟨o2,q2⟩:=un'.there b o' q1 (by simp)
  by_cases hb:b∈frs outer
  .let⟨_,o3,ho3,hd⟩:=Bk fl.2.2.1 (show b∈Ch (λ(z:Env)=>z.frame) _ from AK _ hb);let⟨sl',q3⟩:=up b _ ho3 hd;exact⟨_,q3⟩
  .let⟨o4,q4⟩:=kT b o q hb;exact⟨o4,fl'.1 b o4 q4⟩
 .let⟨m1,e1⟩:=bse.tbls b ps q;let⟨m2,e2⟩:=un'.tbls b _ e1;exact⟨m1++m2,by rw[e2,DJ]⟩
end
section
variable {X:Cx}{e:AL}{es:List AL}{te:TE}
abbrev TJ:=AM->St->Hp->VK->Prop
def PJ(X:Cx)(es:List AL)(t:TJ):Prop:=
 ∀(out:AM) (π:List (AG×BW)) (s:AH) (σ:St) (H:Hp) (Q:VK),Inv X π σ H s->t out σ H Q->A2 (model X.prog X.w) X.A (joinParts out (evalEach es X.env)) (EP X π σ Q) X.xe s
def yfx:TJ:=λout _ H Q=>out.length<=sizeLine/\Q (.str out) H
def yek(te:TE)(t:TJ):TJ:=λout σ H Q=>te σ H λv H1=>∃y,v=.str y/\(out++y).length<=sizeLine/\t (out++y) σ H1 Q
def zjU:PJ X [] yfx:=λout _ _ _ H _ I h=>joinParts_nil ⟨.str out,H,I.tok _,⟨_,rfl⟩,h.2⟩ h.1
def zh4{t:TJ}(he:PE X e te)(hr:PJ X es t)(hs:evalEach (e::es) X.env=eval e X.env::evalEach es X.env:=by rfl):PJ X (e::es) (yek te t):=by
 intro out π s σ H Q I h;rw[hs];refine joinParts_cons (thn (he π s σ H _ I h) λv s1 kq=>?_);let⟨x,H1,I1,r1,y,e1,hz,q⟩:=kq;subst e1;let⟨tk,rfl⟩:=r1;exact⟨hz,hr (out++y) π s1 σ H1 Q I1 q⟩
def ycf(t:TJ):TE:=λσ H Q=>t Cn σ H Q
def zev{v1 v2:AL}{rest:List AL}{pos:BX}{t:TJ}(h:PJ X (v1::v2::rest) t):PE X (.JoinedStr (v1::v2::rest) pos) (ycf t):=λπ s σ H Q I q=>JoinedStr_many (h Cn π s σ H Q I q)
end
section
variable {X:Cx}{e:AL}{es:List AL}{t:TA}{E:XK}
end
structure yeW(K:AD)(C:AG):Prop where
 ga:Aj K (.ref C) "__getattribute__"=AA (AA (.builtin "BaseException.__getattribute__"))
 gh:Aj K (.ref C) "__getattr__"=AA AB
 cl:Aj K (.ref C) "__class__"=AA (AA (.builtin "object.__class__"))
 sb:Fe K (.ref C) (.type "BaseException")=AA AC
 mo:Ff K C (.type "object")=AA AC
 ct:∃cd,Fg K C=AA cd
section
variable {pg:A1}{wd:Ab}{A:A5}{E:AF->AH->Prop}{h:Ao}{g:Array GenState}{d:Drawn}{t:Nat}{os:OsState}{a C:AG}{o:BW}{K:AD}
end
def yfS(a C:AG):Ao->Prop:=λh=>∃o,h.get? a=AA o/\o.cls=.ref C
section
variable {X:Cx}
end
section
variable {X:Cx}{π:List (AG×BW)}{σ:St}{H:Hp}{s:AH}
end
section
variable {X:Cx}{π:List (AG×BW)}{σ:St}{H:Hp}{s:AH}
end
section
variable {X:Cx}{body suite:List B8}{b₀:B8}{x n:AM}{np hpos pos:BX}{tb:XK->TS}{ts:TS}{W:AG}{i:Nat}
end
structure yao(k:Nat)(A:A5):Prop where
 dp:A.depth+3*k+5<recursionLimit
 un:A.units+16*k+200<cLine
theorem yat.h{k:Nat}{A:A5}(r:yat k A):yao k A:=⟨r.dp,r.un⟩
theorem yao.deeper{k:Nat}{A:A5}(r:yao (k+1) A)(env:Env):yao k (A.deeper env):=⟨by have:=r.dp;show A.depth+1+3*k+5<_;lia,by have:=r.un;show A.units+3+16*k+200<_;lia⟩
structure yby(P:A1)(w:Ab)(K:AD)(mg:AM->Option AF)(base:Ao)(k:Nat)(f:AG)(fd:Al)(ps:List AM)(sp:Sp):Prop where
 len:∀vs H Q E,sp vs H Q E->vs.length=ps.length
 run:∀(A:A5) (outer:List Env) (s:AH) (H:Hp) (args:Args) (us:List AF) (vs:List V) (Q:VK),yao k A->yct P w K mg base A outer s H->Dp s fd args (ps.zip us)->Vals vs us->sp vs H Q E0 ->
  codeAny (model P w) A (.call (.ref f) args) (CR CX0 outer P w H s Q E0) s
abbrev ybb(P:A1)(w:Ab)(K:AD)(mg:AM->Option AF)(base:Ao)(N:List AM)(qual:AM)(scope:An)(f:AG)(cd:AF)(A:A5)(outer:List Env)(s:AH)(H:Hp):Cx:=
 {yav CX0 P w K mg base N qual scope f cd A outer s H E0 with calm:=AE,xe:=No}
theorem Inv.calmless{X:Cx}{π:List (AG×BW)}{σ:St}{H:Hp}{s:AH}(I:Inv X π σ H s)(A:A5)(E:AF->AH->Prop)(hf:A.frames=X.A.frames):Inv {X with A:=A,calm:=AE,xe:=E} π σ H s:=
 ⟨⟨I.ok.mod,I.ok.kind,I.ok.glob,I.ok.blt,I.ok.above,I.ok.inj,I.ok.has,I.ok.cab,(λz=>nomatch z),hf.trans I.ok.frames,I.ok.stk,I.ok.exf,I.ok.bs,I.ok.bsz,I.ok.noex,I.ok.exfs,I.ok.funs,I.ok.frf⟩,I.os,I.bare,I.base,I.loc,I.cell,I.free,I.freeC,I.pin,I.hok,I.len⟩
section
variable {P:A1}{w:Ab}{K:AD}{mg:AM->Option AF}{base:Ao}
theorem Fun.okH{x qual:AM}{st:B8}{f:AG}{fd:Al}{N ps:List AM}{k:Nat}{sp:Sp}(F:Fun K x qual st f fd)(S:yam N ps (yg st))(len:∀vs H Q E,sp vs H Q E->vs.length=ps.length)
  (hbody:∀(cdv:AF) (A:A5) (outer:List Env) (s:AH) (H:Hp) (vs:List V) (Q:VK),yao k (A.deeper (envOfC qual (yg st) s.heap.objs.size f cdv))->sp vs H Q E0 ->
   ∃t,PSs (ybb P w K mg base N qual (yg st) f cdv A outer s H) (yI st) t/\t {nx:=λ_ H'=>Q .non H',rt:=Q} (start N vs) H):yby P w K mg base (k+1) f fd ps sp:=by
 let⟨oc,od,kV,doc,pm,an,cdv,ct,osl,rfl,lk,hcd⟩:=F.ex;refine⟨len,λA outer s H args us vs Q hr e0 hb r hsp=>?_⟩;have hl:=len _ _ _ _ hsp;have KX:K.In s.heap:=e0.mod.kin.keeps λb o e=>(e0.bs b o e).1;have lim:s.heap.NoLimit:=e0.mod.nolimit.keeps λb o e=>(e0.bs b o e).1;have hkind:∀y∈ps.zip us,(yg st).names.lookup y.1=AA .local \/ ((yg st).names.lookup y.1=AA .cell/\((cellsFrom (s.heap.objs.size+1) (yg st).names []).lookup y.1).isSome=AC):=λ⟨n,v⟩ hy=>by
  rcases S.par n (DA hy).1 with q|q
  .exact .inl q
  .exact .inr ⟨q,Cd _ _ _ (.inl q)⟩
 refine EF (by have:=hr.dp;lia) (KX _ _ lk) rfl S.co S.gen rfl (Ec KX hcd) (hb _ _ _ _ ?_);refine DP S.kind hkind λenv he s1 x=>?_;subst he;refine⟨lim.keeps x.toInCall.keep,codeAny_func ?_⟩;let⟨t,ht,hq⟩:=hbody cdv A outer s H vs Q (hr.deeper _) hsp;have e0':yct P w K mg base {A with handled:=AB} outer s H:=⟨e0.frames,e0.mod,e0.bs,e0.bsz,e0.funs,e0.frf,e0.hok,e0.bare⟩;have I0:Inv (yav CX0 P w K mg base N qual (yg st) f cdv {A with handled:=AB} outer s H E0) [] (start N vs) H s1:=zbV S rfl e0' hl r x;have I:Inv (ybb P w K mg base N qual (yg st) f cdv A outer s H) [] (start N vs) H s1:=I0.calmless (A.deeper (envOfC qual (yg st) s.heap.objs.size f cdv)) No rfl;refine BD (ht [] s1 (start N vs) H _ I hq) (λfl s' hs=>?_) λe s' z=>z.elim;have fin:∀{σ':St} {H':Hp} {v:V} {u:AF},Inv (ybb P w K mg base N qual (yg st) f cdv A outer s H) [] σ' H' s'->RelV v u->Q v H'->CE outer P w H s Q u s':=
  λ{σ' H' v u} J rv q=>⟨v,H',J.os,J.bare,J.base,J.hok,rv,q⟩
 cases fl with
 |ret u=>
  let⟨v,σ',H',J,rv,q⟩:=hs;exact fin J rv q
 |next=>
  let⟨σ',H',J,q⟩:=hs;exact fin (v:=V.non) (u:=Bf) J rfl q
 |brk=>
  let⟨_,_,_,q⟩:=hs;exact BP q
 |cont=>
  let⟨_,_,_,q⟩:=hs;exact BP q
end
section
variable {X:Cx}{k:Nat}{f:AG}{fd:Al}{ps:List AM}{sp:Sp}{x:AM}{p pos:BX}{e:AL}{es:List AL}{t:TA}
end
section
variable {P:A1}{w:Ab}{K:AD}{mg:AM->Option AF}{base:Ao}
theorem own1{N:List AM}{qual:AM}{scope:An}{f:AG}{cd:AF}{A:A5}{outer:List Env}{s:AH}{H:Hp}{E:XK}{CX:CXT}:
  DG (model (yav CX P w K mg base N qual scope f cd A outer s H E).prog (yav CX P w K mg base N qual scope f cd A outer s H E).w) (yav CX P w K mg base N qual scope f cd A outer s H E).A (yav CX P w K mg base N qual scope f cd A outer s H E).env (yav CX P w K mg base N qual scope f cd A outer s H E).xe:=
 PassesOwn.leaving
def zk9{x:AM}{C:AG}{ts:List AF}{nid:String}{h:Ao}(X:K.In h)(b:mg x=AA (.ref C))(q:Cv K C ts nid=AC):OwnCls x C ts nid mg h:=by
 constructor
 .exact b
 .revert q
  unfold Cv
  cases hl:K.lookup C with
  |none=>intro q;cases q
  |some o=>
   intro q;split at q
   .rename_i dd cd sl ho;split at q
    .rename_i C' bm k0 k1 k2 k3 n k5 hm hs;erw[AI,beq_iff_eq,BG]at q;rcases q with⟨⟨⟨⟨⟨r1,r2⟩,r3⟩,r4⟩,r5⟩,r6⟩;subst r1 r2;rcases cd with⟨nm,bs,mro,ns,qn,hd,sn,sub,ab,col,del⟩;dsimp only at hm r3 r5 r6;subst hm r3;rcases sl with⟨l⟩;simp only at hs;subst hs
     cases ho
     exact⟨bm,ns,nm,qn,bs,hd,sn,sub,ab,col,_,k0,k1,k2,k3,k5,_,X _ _ hl,.of_isNs (PySem.W.isNs_of_in X r5),PySem.W.nsMap_none_of_in X r5 r6,PySem.W.tail_of_in X r4⟩
    .cases q
   .cases q
end
section
variable {X:Cx}
end
section
variable {X:Cx}
end
section
variable {κ:Type}[DecidableEq κ]
def yay(kvs:List (κ×V))(k:κ):Option V:=(kvs.find? λkv=>decide (kv.1=k)).map (·.2)
def putK(kvs:List (κ×V))(k:κ)(v:V):List (κ×V):=
 if (kvs.any λkv=>decide (kv.1=k))=AC then kvs.map (λkv=>if kv.1=k then(kv.1,v)else kv)else kvs++[(k,v)]
def zP{p:κ×V}{r:List (κ×V)}{k:κ}(e:p.1=k):yay (p::r) k=AA p.2:=by simp[yay,B7,e]
def zL{p:κ×V}{r:List (κ×V)}{k:κ}(e:¬p.1=k):yay (p::r) k=yay r k:=by simp[yay,B7,e]
def zcO(k:κ):∀kvs:List (κ×V),(kvs.any λkv=>decide (kv.1=k))=(yay kvs k).isSome
 |[]=>rfl
 |p::r=>by
  rw[BZ]
  by_cases e:p.1=k
  .simp only[zP e,decide_eq_true e,Fx,Ef]
  .rw[zL e,decide_eq_false e,Fh];exact zcO k r
def zaH(kvs:List (κ×V))(k:κ)(v:V):(putK kvs k v).length<=kvs.length+1:=by
 unfold putK;split
 .rw[Ak];lia
 .rw[Aq,Af,Bp];lia
theorem ybl.isSome_eq{o:Option V}{u:Option AF}(r:ybl o u):o.isSome=u.isSome:=by
 cases o with
 |none=>cases u with
  |none=>rfl
  |some _=>exact(show False from r).elim
 |some _=>cases u with
  |none=>exact(show False from r).elim
  |some _=>rfl
theorem ybl.getD{o:Option V}{u:Option AF}{d:V}{d':AF}(r:ybl o u)(rd:RelV d d'):RelV (o.getD d) (u.getD d'):=by
 cases o with
 |none=>cases u with
  |none=>exact rd
  |some _=>exact(show False from r).elim
 |some _=>cases u with
  |none=>exact(show False from r).elim
  |some _=>exact r
theorem KV.val{kvs:List (κ×V)}{vs:List (κ×AF)}(r:KV kvs vs)(k:κ):ybl (yay kvs k) (valueAt vs k):=by
 unfold KV at r
 induction r with
 |nil=>exact CU
 |@cons p q ps qs h t ih=>
  let⟨h1,h2⟩:=h
  by_cases e:p.1=k
  .have e':q.1=k:=h1.symm.trans e;have b:valueAt (q::qs) k=AA q.2:=by simp[valueAt,B7,e']
   rw[zP e,b];exact h2
  .have e':¬q.1=k:=λz=>e (h1.trans z);have b:valueAt (q::qs) k=valueAt qs k:=by simp[valueAt,B7,e']
   rw[zL e,b];exact ih
theorem KV.any{kvs:List (κ×V)}{vs:List (κ×AF)}(r:KV kvs vs)(k:κ):(kvs.any λkv=>decide (kv.1=k))=vs.any λkv=>decide (kv.1=k):=by
 unfold KV at r
 induction r with
 |nil=>rfl
 |cons h t ih=>rw[BZ,BZ,ih,h.1]
theorem KV.repl{kvs:List (κ×V)}{vs:List (κ×AF)}(r:KV kvs vs)(k:κ){y:V}{u:AF}(ry:RelV y u):
  KV (kvs.map λkv=>if kv.1=k then(kv.1,y)else kv) (vs.map λkv=>if kv.1=k then(kv.1,u)else kv):=by
 unfold KV at r ⊢
 induction r with
 |nil=>exact .nil
 |@cons p q ps qs h t ih=>
  rw[AR,AR];refine .cons ?_ ih;let⟨h1,h2⟩:=h
  by_cases e:p.1=k
  .rw[if_pos e,if_pos (h1.symm.trans e)];exact⟨h1,ry⟩
  .rw[if_neg e,if_neg (λz=>e (h1.trans z))];exact⟨h1,h2⟩
theorem KV.put{kvs:List (κ×V)}{vs:List (κ×AF)}(r:KV kvs vs)(k:κ){y:V}{u:AF}(ry:RelV y u):KV (putK kvs k y) (stored vs k u):=by
 unfold putK stored;rw[r.any k]
 by_cases e:(vs.any λkv=>decide (kv.1=k))=AC
 .rw[if_pos e,if_pos e];exact r.repl k ry
 .rw[if_neg e,if_neg e];exact GJ r ⟨rfl,ry⟩
end
def zg5{P:A1}{w:Ab}{k:Key}{u:AF}(r:RelV (kV k) u):(yL P w).is k u=true:=by
 cases k with
 |inl i=>let⟨t,e⟩:=(show ∃t,u=Fj i t from r);subst e;exact zca P w i t
 |inr x=>let⟨t,e⟩:=(show ∃t,u=Fk x t from r);subst e;exact zb2 P w x t
abbrev KT(H:Hp):List (List NK×V)->List (List NK×AG×AF)->Prop:=FJ λp q=>p.1=q.1/\KyR H p.1 q.2.1/\RelV p.2 q.2.2
theorem KT.val{H:Hp}{kvs:List (List NK×V)}{xs:List (List NK×AG×AF)}(r:KT H kvs xs)(k:List NK):ybl (yay kvs k) ((atKey xs k).map (·.2)):=by
 induction r with
 |nil=>exact CU
 |@cons p q ps qs h t ih=>
  let⟨h1,_,h2⟩:=h
  by_cases e:p.1=k
  .have e':q.1=k:=h1.symm.trans e;have b:atKey (q::qs) k=AA q.2:=by simp[atKey,B7,e']
   rw[zP e,b];exact h2
  .have e':¬q.1=k:=λz=>e (h1.trans z);have b:atKey (q::qs) k=atKey qs k:=by simp[atKey,B7,e']
   rw[zL e,b];exact ih
theorem KT.repl{H:Hp}{kvs:List (List NK×V)}{xs:List (List NK×AG×AF)}(r:KT H kvs xs)(k:List NK){y:V}{u:AF}(ry:RelV y u):
  KT H (kvs.map λkv=>if kv.1=k then(kv.1,y)else kv) (xs.map (putAt k u)):=by
 induction r with
 |nil=>exact .nil
 |@cons p q ps qs h t ih=>
  rw[AR,AR];refine .cons ?_ ih;let⟨h1,h2,h3⟩:=h;unfold putAt
  by_cases e:p.1=k
  .rw[if_pos e,if_pos (h1.symm.trans e)];exact⟨h1,h2,ry⟩
  .rw[if_neg e,if_neg (λz=>e (h1.trans z))];exact⟨h1,h2,h3⟩
theorem KT.put{H:Hp}{kvs:List (List NK×V)}{xs:List (List NK×AG×AF)}(r:KT H kvs xs)(k:List NK){b:AG}{y:V}{u:AF}(hb:KyR H k b)(ry:RelV y u):
  KT H (putK kvs k y) (storedH xs k b u):=by
 have e:(kvs.any λkv=>decide (kv.1=k))=(atKey xs k).isSome:=by
  rw[zcO,(r.val k).isSome_eq,Option.isSome_map]
 unfold putK storedH;rw[e]
 by_cases q:(atKey xs k).isSome=AC
 .rw[if_pos q,if_pos q];exact r.repl k ry
 .rw[if_neg q,if_neg q];exact GJ r ⟨rfl,hb,ry⟩
theorem KT.keeps{H H':Hp}{kvs:List (List NK×V)}{xs:List (List NK×AG×AF)}(r:KT H kvs xs)(ht:∀b ys,H b=AA (.tup ys)->H' b=AA (.tup ys)):KT H' kvs xs:=
 Paired.mapP r λ_ _ z=>⟨z.1,z.2.1.stay ht,z.2.2⟩
section
variable {P:A1}{w:Ab}{H:Hp}{h:Ao}{a:AG}
def zji{u:HO}(ok:HOk P w H h)(e:Rd H a u):yH P w H h a u:=e.ok ok
def zhq{kvs:List (Key×V)}(ok:HOk P w H h)(e:Rd H a (.dK kvs)):kvs.length<=sizeLine/\(a==sysModules)=AE/\∃vs,KV kvs vs/\h.DictOf (yL P w) a vs:=
 show yH P w H h a (.dK kvs)from zji ok e
def zj6{kvs:List (Key×V)}(ok:HOk P w H h)(e:H a=AA (.dK kvs)):kvs.length<=sizeLine/\(a==sysModules)=AE/\∃vs,KV kvs vs/\h.DictOf (yL P w) a vs:=zhq ok (.inl e)
mutual
theorem zjV(ok:HOk P w H h):∀(k:NK) (v:V) (u:AF),NKr H k v->RelV v u->NI h k u
 |.a k,v,u,x,r=>by cases (show v=kV k from x);exact zg5 (P:=P) (w:=w) r
 |.t l,v,u,x,r=>by
  let⟨b,xs,rfl,g,hs⟩:=x
  cases (show u=BA b from r)
  let⟨_,its,rv,h1⟩:=(show yH P w H h b (.tup xs)from ok b _ g);exact⟨b,its,rfl,h1,zgB ok l xs its hs rv⟩
theorem zgB(ok:HOk P w H h):∀(l:List NK) (xs:List V) (us:List AF),NKs H l xs->Vals xs us->NIs h l us
 |[],xs,us,x,r=>by cases (show xs=[]from x);cases r;rfl
 |k::l,xs,us,x,r=>by
  let⟨y,ys,rfl,h1,h2⟩:=x
  cases r with
  |cons r t=>exact⟨_,_,rfl,zjV ok k y _ h1 r,zgB ok l ys _ h2 t⟩
end
def zd0{ks:List NK}(ok:HOk P w H h)(e:KyR H ks a):(yaR P w).is h ks a:=⟨zjV ok _ _ _ e.1 rfl,e.2⟩
def zhc{kvs:List (List NK×V)}(ok:HOk P w H h)(e:Rd H a (.dT kvs)):kvs.length<=sizeLine/\(a==sysModules)=AE /\
  ∃xs,KT H kvs xs/\h.DictOfH (yaR P w) a xs:=by
 let⟨z,y,xs,r,o,es,ep,h1,h2,h3,h4,h5⟩:=(show yH P w H h a (.dT kvs)from zji ok e);refine⟨z,y,xs,r,o,es,ep,h1,h2,h3,h4,λx hx=>?_,h5⟩;have all:∀{l:List (List NK×V)} {m:List (List NK×AG×AF)},KT H l m->∀x∈m,(yaR P w).is h x.1 x.2.1:=by
  intro l m q
  induction q with
  |nil=>intro x hx;exact nomatch hx
  |@cons p q ps qs hq t ih=>
   intro x hx;rcases A8.mp hx with e|hx
   .subst e;exact zd0 ok (by rw[<-hq.1];exact hq.2.1)
   .exact ih x hx
 exact all r x hx
def zkj{kvs:List (List NK×V)}(ok:HOk P w H h)(e:H a=AA (.dT kvs)):kvs.length<=sizeLine/\(a==sysModules)=AE /\
  ∃xs,KT H kvs xs/\h.DictOfH (yaR P w) a xs:=zhc ok (.inl e)
end
def ydY(H:Hp)(a:AG)(y:V)(r:Option V):Prop:=
 (∃kvs k,Rd H a (.dK kvs)/\y=kV k/\r=yay kvs k) \/ ∃kvs k b,Rd H a (.dT kvs)/\y=.ref b/\KyR H k b/\r=yay kvs k
section
variable {X:Cx}{π:List (AG×BW)}{σ:St}{H:Hp}{s:AH}{a:AG}{y v:V}{u r:AF}{o:Option V}{A:A5}{E:AF->AH->Prop}
theorem Inv.big(I:Inv X π σ H s):sysModules<s.heap.objs.size:=by
 have h:mainGlobals<s.heap.objs.size:=(I.mod.glob.keeps I.bk).lt;exact FD ⋯ h
def zdA{Q:AF->AH->Prop}(hu:A.units+16<cLine)(I:Inv X π σ H s)(g:ydY H a y (AA v))(ry:RelV y u)(h:∀w' s',Inv X π σ H s'->RelV v w'->Q w' s'):
  A2 (model X.prog X.w) A (getItem (.ref a) u) Q E s:=by
 rcases g with⟨kvs,k,e,ey,l⟩|⟨kvs,k,b,e,ey,eb,l⟩
 .subst ey;let⟨z,hd,vs,rel,dd⟩:=zhq I.hok e;let⟨w',hw,rw'⟩:=ybl.some_of (v:=v) (o:=valueAt vs k) (by rw[l];exact rel.val k);exact FP (zg5 ry) dd.mapOf hw (h w' _ (I.tok _) rw')
 .subst ey
  cases (show u=BA b from ry)
  let⟨z,hd,xs,rel,dd⟩:=zhc I.hok e;let⟨w',hw,rw'⟩:=ybl.some_of (v:=v) (o:=(atKey xs k).map (·.2)) (by rw[l];exact rel.val k);let⟨p,hp,hp2⟩:=Option.map_eq_some_iff.mp hw;refine wpAny_getItem_heap ((show A.in1.units+8<cLine by erw[FI];lia)) (zd0 I.hok eb) dd hp ?_;rw[hp2];exact h w' _ (I.tok _) rw'
def zeO{h':Ao}{t':Nat}{ob:HO}(I:Inv X π σ H s)(mu:Mut (H a))(hs:B9 a s.heap h')(he:∃q,h'.get? a=AA q)(new:yH X.prog X.w (upd H a ob) h' a ob):
  Inv X π σ (upd H a ob) {s with heap:=h',toks:=t'}:=
 I.write (x:=a) (e:=a) mu (.inl rfl) (λb q hb z=>(hs.2 b hb).trans z) he new
def ziw{P:A1}{w:Ab}{H':Hp}{h':Ao}{kvs:List (Key×V)}{vs:List (Key×AF)}(z:kvs.length<=sizeLine)(hd:(a==sysModules)=AE)(rel:KV kvs vs)(dd:h'.DictOf (yL P w) a vs):
  yH P w H' h' a (.dK kvs):=⟨z,hd,vs,rel,dd⟩
end
section
variable {X:Cx}{π:List (AG×BW)}{σ:St}{H:Hp}{s:AH}{a:AG}{kvs:List (Key×V)}{k:Key}{u:AF}{A:A5}{E:AF->AH->Prop}
end
def yb9(i:AL):Prop:=∀ov iv,subscripted i AE ov iv=operate [ov,iv] (getItem ov iv)
def zew{prog:A1}{w:Ab}{A:A5}{E:AF->AH->Prop}{s:AH}{env:Env}{value slice:AL}{pos:BX}{T id:String}{Q:AF->AH->Prop}
  (hl:typeLookup (.type T) "__getitem__"=pure (AA (.builtin id))) (hs:yb9 slice)
  (h:A2 (model prog w) A (eval value env) (λo s₁=>A2 (model prog w) A (eval slice env) (λi s₂=>s₂.TypeIs o T/\A2 (model prog w) A (getItem o i) Q E s₂) E s₁) E s):
  A2 (model prog w) A (eval (.Subscript value slice pos) env) Q E s:=by
 refine F5 (BD h (λo s₁ h₁=>BD h₁ (λi s₂ h₂=>?_) λ_ _ x=>x) λ_ _ x=>x);let⟨hT,h₂⟩:=h₂;unfold subscriptTail;refine AJ ?_;rw[getitemInPython_of_ne hT.not_modules];refine AJ (FW hT hl ?_);have fin:A2 (model prog w) A (subscripted slice AE o i) (λr s₃=>A2 (model prog w) A (letTemporaryGo value o r >>= λ_=>pure r) Q E s₃) E s₂:=by
  rw[hs o i];exact wpAny_operating (BD h₂ (λr s₃ h₃=>AJ (wpAny_letTemporaryGo (AQ h₃))) λ_ _ x=>x)
 first
  |exact AQ (AJ fin)
  |exact AJ (AQ (AJ fin))
  |exact AJ fin
def zb4{X:Cx}{π:List (AG×BW)}{σ:St}{H:Hp}{s:AH}{a:AG}{y:V}{o:Option V}(I:Inv X π σ H s)(g:ydY H a y o):s.TypeIs (.ref a) "dict":=by
 rcases g with⟨kvs,k,e,_,_⟩|⟨kvs,k,b,e,_,_,_⟩
 .let⟨_,_,vs,_,dd⟩:=zhq I.hok e;exact dd.typeIs
 .let⟨_,_,xs,_,dd⟩:=zhc I.hok e;exact dd.typeIs
def yd4(td ty:TE):TE:=λσ H Q=>td σ H λx H1=>ty σ H1 λy H2=>∃a v,x=.ref a/\ydY H2 a y (AA v)/\Q v H2
section
variable {X:Cx}{o i e value:AL}{pos pos' tpos:BX}{td ty tv:TE}
def zdx(hu:X.A.units+16<cLine)(ho:PE X o td)(hi:PE X i ty)(hs:yb9 i):PE X (.Subscript o i pos) (yd4 td ty):=by
 intro π s σ H Q I h;refine zew D2.lookup hs (thn (ho π s σ H _ I h) λu s1 kq=>?_);let⟨x,H1,I1,rx,q1⟩:=kq;refine thn (hi π s1 σ H1 _ I1 q1) λiv s2 kq=>?_;let⟨y,H2,I2,ry,a,v,ex,g,q2⟩:=kq;subst ex;obtain rfl:u=BA a:=rx;exact⟨zb4 I2 g,zdA hu I2 g ry λw' s3 I3 rw'=>⟨v,H2,I3,rw',q2⟩⟩
end
def zf0{P:A1}{w:Ab}{H:Hp}(h:Ao)(hb:sysModules<h.objs.size):yH P w H (h.push {cls:=.type "dict",data:=.dict #[]}) h.objs.size (.dK []):=
 ⟨BO _,beq_eq_false_iff_ne.mpr (BI (Ac hb)),[],.nil,Heap.DictOf.new h⟩
def zfY{P:A1}{w:Ab}{H:Hp}(h:Ao)(hb:sysModules<h.objs.size):yH P w H (h.push {cls:=.type "dict",data:=.dict #[]}) h.objs.size (.dT []):=
 ⟨BO _,beq_eq_false_iff_ne.mpr (BI (Ac hb)),[],.nil,_,#[],0,A6 _ rfl,⟨rfl,rfl,rfl⟩,rfl,rfl,List.nodup_nil⟩
section
variable {X:Cx}{pos:BX}
end
def yaP:List (TE×TE)->St->Hp->(List (V×V)->Hp->Prop)->Prop
 |[],_,H,Q=>Q [] H
 |(tk,tv)::r,σ,H,Q=>tk σ H λx H1=>tv σ H1 λy H2=>yaP r σ H2 λps H3=>Q ((x,y)::ps) H3
abbrev VV:List (V×V)->List (AF×AF)->Prop:=FJ λp q=>RelV p.1 q.1/\RelV p.2 q.2
def PPs(X:Cx)(pos:BX)(keys:List (Option AL))(values:List AL)(trs:List (TE×TE)):Prop:=
 ∀(π:List (AG×BW)) (s:AH) (σ:St) (H:Hp) (Q:List (V×V)->Hp->Prop),Inv X π σ H s->yaP trs σ H Q ->
  A2 (model X.prog X.w) X.A (evalPairs (pairTrees keys values X.env pos)) (λvs s'=>∃ps H',Inv X π σ H' s'/\VV ps vs/\Q ps H') X.xe s
def zhp{X:Cx}{pos:BX}:PPs X pos [] [] []:=λπ s σ H Q I h=>pairTrees_nil_walk ⟨[],H,I,.nil,h⟩
def zf5{X:Cx}{pos:BX}{k v:AL}{ks:List (Option AL)}{vs:List AL}{tk tv:TE}{trs:List (TE×TE)}(hk:PE X k tk)(hv:PE X v tv)(hr:PPs X pos ks vs trs):
  PPs X pos (AA k::ks) (v::vs) ((tk,tv)::trs):=λπ s σ H Q I h=>
 pairTrees_cons_walk (thn (hk π s σ H _ I h) λu s1 ⟨x,H1,I1,rx,q1⟩=>thn (hv π s1 σ H1 _ I1 q1) λw2 s2 ⟨y,H2,I2,ry,q2⟩=>
  thn (hr π s2 σ H2 _ I2 q2) λws s3 ⟨ps,H3,I3,rel,q3⟩=>⟨(x,y)::ps,H3,I3,.cons ⟨rx,ry⟩ rel,q3⟩)
def yP(kvs more:List (Key×V)):List (Key×V):=more.foldl (λacc kv=>putK acc kv.1 kv.2) kvs
theorem KV.merge:∀{more:List (Key×V)} {rs:List (Key×AF)} {kvs:List (Key×V)} {vs:List (Key×AF)},KV more rs->KV kvs vs->KV (yP kvs more) (merged vs rs):=by
 intro more rs kvs vs r;unfold KV at r
 induction r generalizing kvs vs with
 |nil=>intro q;exact q
 |@cons p q ps qs h t ih=>
  intro r0;have e:KV (putK kvs p.1 p.2) (stored vs q.1 q.2):=by
   have:=r0.put p.1 h.2;rw[<-h.1];exact this
  exact ih e
def zZ:∀(more kvs:List (Key×V)),(yP kvs more).length<=kvs.length+more.length
 |[],kvs=>by show kvs.length<=kvs.length+0;lia
 |p::r,kvs=>by
  have h1:=zZ r (putK kvs p.1 p.2);have h2:=zaH kvs p.1 p.2;show (yP (putK kvs p.1 p.2) r).length<=_;rw[Af];lia
def zaV{P:A1}{w:Ab}:∀{kvs:List (Key×V)} {ws:List (AF×AF)},VV (kvs.map λkv=>(kV kv.1,kv.2)) ws->∃rs,Carries (yL P w) ws rs/\KV kvs rs
 |[],_,r=>by rw[B0]at r;cases r;exact⟨[],CU,.nil⟩
 |p::kvs,_,r=>by
  rw[AR]at r
  cases r with
  |@cons a b as bs h t=>
   let⟨rs,c,q⟩:=zaV (P:=P) (w:=w) t;let⟨b1,b2⟩:=b;exact⟨(p.1,b2)::rs,⟨zg5 h.1,rfl,c⟩,.cons ⟨rfl,h.2⟩ q⟩
def ydQ(trs:List (TE×TE)):TE:=λσ H Q=>∀p,H p=AB->yaP trs σ (upd H p (.dK [])) λps H2=>H2 p=AA (.dK [])/\∃kvs:List (Key×V),ps=kvs.map (λkv=>(kV kv.1,kv.2))/\kvs.length<=15/\Q (.ref p) (upd H2 p (.dK (yP [] kvs)))
def zhz{X:Cx}{pos:BX}{keys:List (Option AL)}{values:List AL}{trs:List (TE×TE)}(h:PPs X pos keys values trs)(hall:keys.all (·.isSome)=AC)(hl:keys.length=values.length)(h0:keys≠[])
  (h15:keys.length<=15):PE X (.Dict keys values pos) (ydQ trs):=by
 intro π s σ H Q I q;have hn:=I.hok.fresh (AN s.heap.objs.size);have I1:=I.laid (a:=s.heap.objs.size) (o:=.dK []) (h':=s.heap.push {cls:=.type "dict",data:=.dict #[]}) (t':=s.toks) (λ_ _ q=>AS _ q) (AN _) (zf0 s.heap I.big);refine wpAny_Dict_walk (knd:=yL X.prog X.w) hall hl h0 h15 (thn (h π _ σ _ _ I1 (q _ hn)) λws s2 kq=>?_);let⟨ps,H2,I2,rel,e,kvs,ep,lk,q2⟩:=kq;subst ep;let⟨rs,c,rk⟩:=zaV (P:=X.prog) (w:=X.w) rel;let⟨z,hd,vs0,r0,dd⟩:=zj6 I2.hok e
 cases r0
 refine⟨rs,c,dd,λh' dd' hs=>⟨.ref s.heap.objs.size,_,?_,rfl,q2⟩⟩;have hz:(yP [] kvs).length<=sizeLine:=by
  have h1:=zZ kvs [];rw[Bp]at h1;rw[Bc];lia
 have he:∃q,h'.get? s.heap.objs.size=AA q:=let ⟨q,_,_,hq,_⟩:=dd';⟨q,hq⟩
 exact zeO I2 (by rw[e];exact CU) hs he (ziw hz hd (rk.merge .nil) dd')
section
variable {X:Cx}{π:List (AG×BW)}{σ:St}{H:Hp}{s:AH}{a:AG}{y d:V}{u r:AF}{o:Option V}{A:A5}{E:AF->AH->Prop}
end
section
variable {X:Cx}{o e f:AL}{apos cpos:BX}{td ty tx:TE}
end
section
variable {X:Cx}{π:List (AG×BW)}{σ:St}{H:Hp}{s:AH}{a:AG}{kvs:List (Key×V)}{A:A5}{E:AF->AH->Prop}
end
section
variable {X:Cx}{π:List (AG×BW)}{σ:St}{H:Hp}{s:AH}{a:AG}{y:V}{u:AF}{A:A5}{E:AF->AH->Prop}
end
end L2
namespace IC
open PySem
inductive PV where
 |non|bl (b:Bool)|int (i:Int)|str (x:AM)|tp (k:Bool) (xs:List PV)|lst (xs:List PV)|loc (n:Nat)|exn (c:Nat)|scr (xs:List PV)|fnc (j:Nat)
deriving Inhabited
abbrev PV.tup(xs:List PV):PV:=.tp AE xs
mutual
noncomputable def nL:PV->Bool
 |.loc _=>AE
 |.exn _=>AE
 |.fnc _=>AC
 |.tp _ xs=>nLs xs
 |.lst xs=>nLs xs
 |.scr xs=>nLs xs
 |_=>AC
noncomputable def nLs:List PV->Bool
 |[]=>AC
 |x::xs=>nL x&&nLs xs
end
mutual
noncomputable def shd(n:Nat):PV->Bool
 |.non=>AC
 |.bl _=>AC
 |.int _=>AC
 |.str x=>x.cps.all (· < 0x110000)
 |.tp _ xs=>decide (0<n)&&yaD (n-1) xs
 |.lst xs=>decide (0<n)&&yaD (n-1) xs
 |_=>AE
noncomputable def yaD(n:Nat):List PV->Bool
 |[]=>AC
 |x::xs=>shd n x&&yaD n xs
end
abbrev shp(v:PV):Bool:=shd 60 v
def flat:PV->Bool
 |.non=>AC
 |.bl _=>AC
 |.int _=>AC
 |.str _=>AC
 |_=>AE
def bi(b:Bool):Int:=if b then 1 else 0
mutual
noncomputable def peq:PV->PV->Bool
 |.non,.non=>AC
 |.bl a,.bl b=>a==b
 |.bl a,.int j=>bi a==j
 |.int i,.bl b=>i==bi b
 |.int i,.int j=>i==j
 |.str x,.str y=>x==y
 |.tp _ xs,.tp _ ys=>yaS xs ys
 |.lst xs,.lst ys=>yaS xs ys
 |_,_=>AE
noncomputable def yaS:List PV->List PV->Bool
 |[],[]=>AC
 |x::xs,y::ys=>peq x y&&yaS xs ys
 |_,_=>AE
end
inductive Ob where
 |lst (xs:List PV)|dct (t:Bool) (kvs:List (PV×PV))|dead|ins (c:Nat) (fs:List (AM×PV))
abbrev Env:=List (Option PV)
abbrev SO:=List Ob
inductive R(α:Type) where
 |ok (a:α) (st:SO)|exc (c:Nat) (st:SO)|bad
def R.bind{α β:Type}(r:R α)(k:α->SO->R β):R β:=
 match r with
 |.ok a st=>k a st
 |.exc c st=>.exc c st
 |.bad=>.bad
inductive BOp where
 |add|sub|mul|fdiv|mod|pow|shl|shr|band|bor|bxor
inductive COp where
 |eq|ne|lt|le|gt|ge|is|isnot|isin|notin
inductive Ty where
 |int|bool|str|tuple|list|cls (c:Nat)|val
inductive Blt where
 |len|int|abs|min|max|tuple|list|all|sum|dict|rev|str|any
inductive Mth where
 |append|extend|get|bits|upper|insert|count|index|join|split|sidx|clear
inductive Tg where
 |n (i:Nat)|t (l:List Nat)
set_option genInjectivity false
mutual
inductive Ce where
 |cst (v:PV)
 |var (i:Nat)
 |bin (o:BOp) (a b:Ce)
 |not (a:Ce)
 |and (a b:Ce)
 |or (a b:Ce)
 |cmp (o:COp) (a b:Ce)
 |ite (c a b:Ce)
 |tup (es:Ces)
 |lst (es:Ces)
 |newl (es:Ces)
 |idx (a i:Ce)
 |slc (a:Ce) (lo hi:Ce)
 |call (f:Nat) (args:Ces)
 |blt (b:Blt) (args:Ces)
 |mth (m:Mth) (o:Ce) (args:Ces)
 |isi (a:Ce) (t:List Ty)
 |comp (sl:List (Option Nat)) (tg:Tg) (it:Cit) (c:Ce) (e:Ce)
 |frz (a:Ce)
 |nope
 |fst (e:Ces)
 |thw (a:Ce)
 |nin (a b:Ce)
 |dgt (a i:Ce)
 |dsub (ks:List AM) (es:Ces) (i:Ce)
 |nel (a b:Ce)
 |cmq (sl:List (Option Nat)) (tg:Tg) (it:Cit) (m:Ce)
 |emq (tg:Tg) (it:Cit) (m:Ce)
 |dcm (sl:List (Option Nat)) (tg:Tg) (it:Cit) (k v:Ce)
inductive Ces where
 |nil
 |cons (e:Ce) (es:Ces)
inductive Cit where
 |seq (e:Ce)
 |range1 (a:Ce)
 |range2 (a b:Ce)
 |rangeD (a b:Ce)
 |enum (e:Ce)
 |zip (a b:Ce)
 |revl (e:Ce)
 |revr (a:Ce)
 |chars (e:Ce)
end
set_option genInjectivity true
abbrev Ce.i(n:Int):Ce:=.cst (.int n)
abbrev Ce.s(x:AM):Ce:=.cst (.str x)
abbrev Ce.v:=Ce.var
abbrev Ces.k:=Ces.cons
abbrev Ces.e:=Ces.nil
mutual
inductive Cs where
 |expr (e:Ce)
 |asg (t:Tg) (e:Ce)
 |six (o i e:Ce)
 |aug (i:Nat) (o:BOp) (e:Ce)
 |ret (e:Ce)
 |ite (c:Ce) (a b:Css)
 |for (t:Tg) (it:Cit) (b:Css)
 |while (c:Ce) (b:Css)
 |nope
 |raise (c:Nat) (e:Ce)
 |mkr (i:Nat) (D:List (AM×Nat)) (n:Ce) (es:Ces)
 |forl (t:Tg) (e:Ce) (b:Css)
inductive Css where
 |nil
 |cons (s:Cs) (ss:Css)
end
abbrev Css.k:=Css.cons
abbrev Css.e:=Css.nil
def yaC(i j:Int):Bool:=(decide (i.natAbs<18446744073709551616)) || (decide (j.natAbs<18446744073709551616))
def binI(o:BOp)(i j:Int):Option PV:=
 match o with
 |.add=>AA (.int (i+j))
 |.sub=>AA (.int (i-j))
 |.mul=>if yaC i j then AA (.int (i*j))else AB
 |.fdiv=>if 0<j/\j<10000000000000000000000000000000000000000000000000000000000000000000000 then AA (.int (i/j))else AB
 |.mod=>if 0<j then AA (.int (i%j))else AB
 |.pow=>if 0<=j/\j<=1000000/\i.natAbs<18446744073709551616 then AA (.int (i^j.toNat))else AB
 |.shl=>if 0<=j/\j<=1000000/\i.natAbs<1606938044258990275541962092341162602522202993782792835301376 then AA (.int (i*2^j.toNat))else AB
 |.shr=>if 0<=j then AA (.int (i/2^j.toNat))else AB
 |.band=>AA (.int (EN i j))
 |.bor=>AA (.int (E5 i j))
 |.bxor=>AA (.int (EO i j))
def sizeMax:Nat:=16777216
def ydj(k:Bool)(a:List PV)(j:Bool)(b:List PV):PV:=if a.isEmpty then .tp j b else if b.isEmpty then .tp k a else .tup (a++b)
def yw(o:BOp)(x y:PV):Option PV:=
 match x,y with
 |.int i,.int j=>binI o i j
 |.int i,.bl b=>match o with
  |.add=>AA (.int (i+bi b))
  |_=>AB
 |.str a,.str b=>match o with
  |.add=>if a.length+b.length<=sizeMax then AA (.str (a++b))else AB
  |_=>AB
 |.tp k a,.tp j b=>match o with
  |.add=>if a.length+b.length<=sizeMax then AA (ydj k a j b)else AB
  |_=>AB
 |.lst a,.lst b=>match o with
  |.add=>if a.length+b.length<=sizeMax then AA (.lst (a++b))else AB
  |_=>AB
 |_,_=>AB
def yba(o:BOp)(x y:PV):Option PV:=
 match x,y with
 |.int i,.int j=>binI o i j
 |_,_=>AB
def isNon:PV->Bool
 |.non=>AC
 |_=>AE
def inL(x:PV):List PV->Bool
 |[]=>AE
 |y::ys=>peq y x || inL x ys
def inS(a b:AM):Bool:=(Cm (b.length+1)).any λi=>decide (i+a.length<=b.length)&&(b.cps.extract i (i+a.length)==a.cps)
def ybz(o:COp)(i j:Int):Option PV:=
 match o with
 |.lt=>AA (.bl (decide (i<j)))
 |.le=>AA (.bl (decide (i<=j)))
 |.gt=>AA (.bl (decide (j<i)))
 |.ge=>AA (.bl (decide (j<=i)))
 |_=>AB
def ydr(o:COp)(a b:AM):Option PV:=
 match o with
 |.lt=>AA (.bl (decide (a.cps.toList<b.cps.toList)))
 |.le=>AA (.bl (!decide (b.cps.toList<a.cps.toList)))
 |_=>AB
def yG(o:COp)(x y:PV):Option PV:=
 match o with
 |.eq=>if shp x&&shp y then AA (.bl (peq x y))else AB
 |.ne=>if shp x&&shp y then AA (.bl (!peq x y))else AB
 |.is=>match y with
  |.non=>AA (.bl (isNon x))
  |.bl b=>match x with
   |.bl a=>AA (.bl (a==b))
   |_=>AB
  |_=>AB
 |.isnot=>match y with
  |.non=>AA (.bl (!isNon x))
  |.bl b=>match x with
   |.bl a=>AA (.bl (!(a==b)))
   |_=>AB
  |_=>AB
 |.isin=>match x,y with
  |.str a,.str b=>AA (.bl (inS a b))
  |x,.tp _ l=>if flat x&&l.all flat then AA (.bl (inL x l))else AB
  |x,.lst l=>if flat x&&l.all flat then AA (.bl (inL x l))else AB
  |_,_=>AB
 |.notin=>match x,y with
  |.str a,.str b=>AA (.bl (!inS a b))
  |x,.tp _ l=>if flat x&&l.all flat then AA (.bl (!inL x l))else AB
  |x,.lst l=>if flat x&&l.all flat then AA (.bl (!inL x l))else AB
  |_,_=>AB
 |o=>match x,y with
  |.int i,.int j=>ybz o i j
  |.str a,.str b=>ydr o a b
  |_,_=>AB
def yas(st:SO)(x:PV):Option Bool:=
 match x with
 |.non=>AA AE
 |.bl b=>AA b
 |.int i=>AA (i != 0)
 |.str y=>if y.length<=sizeMax then AA ((y.length:Int) != 0)else AB
 |.tp _ xs=>AA (!xs.isEmpty)
 |.lst xs=>AA (!xs.isEmpty)
 |.loc n=>match st[n]? with
  |some (.lst xs)=>AA (!xs.isEmpty)
  |_=>AB
 |_=>AB
def ixI(n:Nat)(i:Int):Option Nat:=if 0<=i then(if i<n then AA i.toNat else AB)else if -(n:Int)<=i then AA (i+n).toNat else AB
def at?{α:Type}(xs:List α)(i:Int):Option α:=(ixI xs.length i).bind λj=>xs[j]?
def look(k:PV):List (PV×PV)->Option PV
 |[]=>AB
 |(a,b)::r=>if peq a k then AA b else look k r
def put(k v:PV)(kvs:List (PV×PV)):List (PV×PV):=
 if (kvs.any λp=>peq p.1 k)=AC then kvs.map (λp=>if peq p.1 k=AC then(p.1,v)else p)else kvs++[(k,v)]
def ybX:PV->Bool
 |.int _=>AC
 |.str _=>AC
 |_=>AE
mutual
noncomputable def ydM(n:Nat):PV->Bool
 |.int _=>AC
 |.str x=>x.cps.all (· < 0x110000)
 |.tp k xs=>!k&&decide (0<n)&&ybt (n-1) xs
 |_=>AE
noncomputable def ybt(n:Nat):List PV->Bool
 |[]=>AC
 |x::xs=>ydM n x&&ybt n xs
end
def isKey(t:Bool)(k:PV):Bool:=
 match t with
 |false=>ybX k
 |true=>match k with
  |.tp AE xs=>ybt 5 xs
  |_=>AE
def yaU{α:Type}(xs:List α)(i:PV):Option α:=
 match i with
 |.int k=>at? xs k
 |_=>AB
def idxV(st:SO)(x i:PV):Option PV:=
 match x with
 |.tp _ xs=>yaU xs i
 |.lst xs=>yaU xs i
 |.str s=>if s.length<=sizeMax then(yaU s.cps.toList i).map λc=>.str ⟨#[c]⟩else AB
 |.loc n=>match st[n]? with
  |some (.lst xs)=>yaU xs i
  |_=>AB
 |_=>AB
def yaw(n:Nat)(v:Int):Nat:=if v<0 then(v+(n:Int)).toNat else min v.toNat n
def yb3(n:Nat)(lo:Option Int):Nat:=
 match lo with
 |none=>0
 |some i=>yaw n i
def ycj(n:Nat)(hi:Option Int):Nat:=
 match hi with
 |none=>n
 |some i=>yaw n i
def cut{α:Type}(xs:List α)(lo hi:Option Int):List α:=(xs.drop (yb3 xs.length lo)).take (ycj xs.length hi-yb3 xs.length lo)
def ybm:PV->Option (Option Int)
 |.non=>AA AB
 |.int i=>AA (AA i)
 |_=>AB
def ybL(x:PV)(a b:Option Int):Option PV:=
 match x with
 |.tp k xs=>if yb3 xs.length a=0/\ycj xs.length b=xs.length then AA (.tp k xs)else AA (.tup (cut xs a b))
 |.str s=>if s.length<=sizeMax then AA (.str ⟨(cut s.cps.toList a b).toArray⟩)else AB
 |.lst xs=>AA (.lst (cut xs a b))
 |.scr xs=>AA (.lst (cut xs a b))
 |_=>AB
def ybT(x:PV)(a:Option Int)(hi:PV):Option PV:=
 match ybm hi with
 |some b=>ybL x a b
 |none=>AB
def yaO(x:PV)(t:Ty):Bool:=
 match x,t with
 |.int _,.int=>AC
 |.bl _,.int=>AC
 |.bl _,.bool=>AC
 |.str _,.str=>AC
 |.tp _ _,.tuple=>AC
 |.lst _,.list=>AC
 |.exn c,.cls d=>c==d
 |.exn _,.val=>AC
 |_,_=>AE
def ycI:Ty->Bool
 |.cls _=>AE
 |.val=>AE
 |_=>AC
def ybi(x:PV)(ts:List Ty):Option PV:=
 match x with
 |.loc _=>AB
 |.scr _=>AB
 |.fnc _=>AB
 |.exn c=>if ts.all ycI then AB else AA (.bl (ts.any (yaO (.exn c))))
 |x=>match ts with
  |[t]=>if ycI t then AA (.bl (yaO x t))else AB
  |_=>AB
def ycr:PV->Option AM
 |.int i=>if i.natAbs.log2<1920 then AA (A4 (toString i))else AB
 |.str s=>if s.length<=16777216 then AA s else AB
 |_=>AB
def ycy:AM->List PV->Option AM
 |out,[]=>if out.length<=16777216 then AA out else AB
 |out,v::vs=>match ycr v with
  |some y=>if (out++y).length<=16777216 then ycy (out++y) vs else AB
  |none=>AB
def ydG(r:R (List PV)):R PV:=
 match r with
 |.ok vs st=>match ycy Cn vs with
  |some z=>.ok (.str z) st
  |none=>.bad
 |_=>.bad
def allB:List PV->Option Bool
 |[]=>AA AC
 |.bl b::r=>match allB r with
  |some c=>AA (b&&c)
  |none=>AB
 |_::_=>AB
def yeV:List PV->Option Int
 |[]=>AA 0
 |.int i::r=>match yeV r with
  |some c=>AA (i+c)
  |none=>AB
 |_::_=>AB
def yeB:List PV->Option Int
 |[]=>AB
 |[.int i]=>AA i
 |.int i::r=>match yeB r with
  |some c=>AA (if i<c then c else i)
  |none=>AB
 |_::_=>AB
def yac(st:SO):PV->Option (List PV)
 |.tp _ xs=>AA xs
 |.lst xs=>AA xs
 |.loc n=>match st[n]? with
  |some (.lst xs)=>AA xs
  |_=>AB
 |_=>AB
def yD(st:SO):PV->Option (List PV)
 |.lst xs=>AA xs
 |.loc n=>match st[n]? with
  |some (.lst xs)=>AA xs
  |_=>AB
 |_=>AB
def lenV(st:SO)(x:PV):Option PV:=
 match x with
 |.str s=>if s.length<=sizeMax then AA (.int s.length)else AB
 |x=>(yac st x).map λxs=>.int xs.length
def ygg(x:PV):Option PV:=
 match x with
 |.int i=>AA (.int i)
 |.bl k=>AA (.int (bi k))
 |_=>AB
def ydm(x:PV):Option PV:=
 match x with
 |.int i=>AA (.int (if i<0 then -i else i))
 |_=>AB
def yfi(x y:PV):Option PV:=
 match x,y with
 |.int i,.int j=>AA (.int (if j<i then j else i))
 |_,_=>AB
def maxV(x y:PV):Option PV:=
 match x,y with
 |.int i,.int j=>AA (.int (if i<j then j else i))
 |_,_=>AB
def yeP(st:SO)(x:PV):Option PV:=
 match x with
 |.tp k xs=>AA (.tp k xs)
 |x=>(yD st x).map .tup
def yfN:PV->Option PV
 |.tp _ xs=>AA (.tup xs.reverse)
 |.lst xs=>AA (.lst xs.reverse)
 |_=>AB
def anyB:List PV->Option Bool
 |[]=>AA AE
 |.bl b::r=>match anyB r with
  |some c=>AA (b || c)
  |none=>AB
 |_=>AB
def anyI:List PV->Option Bool
 |[]=>AA AE
 |.int i::r=>match anyI r with
  |some c=>AA ((i != 0) || c)
  |none=>AB
 |_=>AB
def yfo:PV->Option PV
 |.int i=>if i=0 then AA (.str "0")else if i=1 then AA (.str "1")else AB
 |_=>AB
def yag(b:Blt)(st:SO)(vs:List PV):Option PV:=
 match vs with
 |[x]=>match b with
  |.len=>lenV st x
  |.int=>ygg x
  |.abs=>ydm x
  |.max=>(yD st x).bind λxs=>(yeB xs).map .int
  |.tuple=>yeP st x
  |.list=>(yac st x).map .lst
  |.all=>(yD st x).bind λxs=>(allB xs).map .bl
  |.sum=>(yD st x).bind λxs=>(yeV xs).map .int
  |.rev=>yfN x
  |.str=>yfo x
  |.any=>match x with
   |.tp _ xs=>(anyI xs).map .bl
   |x=>(yD st x).bind λxs=>(anyB xs).map .bl
  |_=>AB
 |[x,y]=>match b with
  |.min=>yfi x y
  |.max=>maxV x y
  |_=>AB
 |_=>AB
def yan(st:SO):PV->Option (Bool×List (PV×PV))
 |.loc n=>match st[n]? with
  |some (.dct t xs)=>AA (t,xs)
  |_=>AB
 |_=>AB
def yaA(m:Mth)(st:SO)(x:PV):Option Bool:=
 match m with
 |.append=>(yD st x).map λ_=>AC
 |.extend=>(yD st x).map λ_=>AC
 |.insert=>(yD st x).map λ_=>AC
 |.count=>(yD st x).map λ_=>AC
 |.index=>(yD st x).map λ_=>AC
 |.get=>(yan st x).map λ_=>AC
 |.bits=>match x with
  |.int _=>AA AC
  |_=>AB
 |.upper=>match x with
  |.str _=>AA AC
  |_=>AB
 |.join=>match x with
  |.str _=>AA AC
  |_=>AB
 |.split=>match x with
  |.str _=>AA AC
  |_=>AB
 |.sidx=>match x with
  |.str _=>AA AC
  |_=>AB
 |.clear=>match x with
  |.loc n=>(yD st (.loc n)).map λ_=>AC
  |_=>AB
def yeA(st:SO)(o v:PV):R PV:=
 match o with
 |.loc n=>match st[n]? with
  |some (.lst xs)=>if xs.length<1000000 then .ok .non (st.set n (.lst (xs++[v])))else .bad
  |_=>.bad
 |_=>.bad
def ydC(st:SO)(o v:PV):R PV:=
 match o with
 |.loc n=>match st[n]? with
  |some (.lst xs)=>match v with
   |.lst ys=>if xs.length+ys.length<=1000000 then .ok .non (st.set n (.lst (xs++ys)))else .bad
   |_=>.bad
  |_=>.bad
 |_=>.bad
def yfe(st:SO)(o i v:PV):R PV:=
 match o with
 |.loc n=>match st[n]? with
  |some (.lst xs)=>match i with
   |.int k=>if 0<=k/\k<=xs.length/\xs.length<1000000 then .ok .non (st.set n (.lst (xs.take k.toNat++v::xs.drop k.toNat)))else .bad
   |_=>.bad
  |_=>.bad
 |_=>.bad
def yfK(st:SO)(o k d:PV):R PV:=
 match yan st o with
 |some (t,kvs)=>if isKey t k then .ok ((look k kvs).getD d) st else .bad
 |none=>.bad
def yfr(st:SO)(o v:PV):R PV:=
 match yD st o with
 |some xs=>if flat v&&xs.all flat then .ok (.int (xs.countP λy=>peq y v)) st else .bad
 |none=>.bad
def ycZ(v:PV):List PV->Option Nat
 |[]=>AB
 |y::ys=>if peq y v then AA 0 else(ycZ v ys).map (·+1)
def yfj(st:SO)(o v:PV):R PV:=
 match yD st o with
 |some xs=>if flat v&&xs.all flat then(match ycZ v xs with
  |some j=>.ok (.int j) st
  |none=>.bad)else .bad
 |none=>.bad
def upC(c:Nat):Nat:=if 97<=c/\c<=122 then c-32 else c
def upS(s:AM):Str:=⟨(s.cps.toList.map upC).toArray⟩
def yN(c:Nat):List Nat->List (List Nat)
 |[]=>[[]]
 |x::xs=>if x=c then []::yN c xs else match yN c xs with
  |[]=>[[x]]
  |p::ps=>(x::p)::ps
def strsOf:List PV->Option (List AM)
 |[]=>AA []
 |.str s::r=>(strsOf r).map (s :: ·)
 |_=>AB
def ydt(st:SO)(o v:PV):R PV:=
 match o,yD st v with
 |.str s,AA xs=>match strsOf xs with
  |some ys=>if s.length<=10/\xs.length<=1000/\(ys.all λy=>decide (y.length<=1000))=AC then .ok (.str (GL s ys)) st else .bad
  |none=>.bad
 |_,_=>.bad
def yef(st:SO)(o:PV):R PV:=
 match o with
 |.loc n=>match st[n]? with
  |some (.lst _)=>.ok .non (st.set n (.lst []))
  |_=>.bad
 |_=>.bad
def yc2(ks:List AM)(vs:List PV)(y:PV):Option PV:=
 match y with
 |.str q=>look (.str q) ((ks.zip vs).foldl (λacc kv=>put (.str kv.1) kv.2 acc) [])
 |_=>AB
def ydw(st:SO)(o v:PV):R PV:=
 match o,v with
 |.str s,.str y=>if s=A4 "01" then(if y=A4 "0" then .ok (.int 0) st else if y=A4 "1" then .ok (.int 1) st else .bad)else .bad
 |_,_=>.bad
def ya6(st:SO)(o v:PV):R PV:=
 match o,v with
 |.str s,.str y=>match y.cps.toList with
  |[c]=>if s.length<=100000 then .ok (.lst ((yN c s.cps.toList).map λl=>.str ⟨l.toArray⟩)) st else .bad
  |_=>.bad
 |_,_=>.bad
def ybC(m:Mth)(st:SO)(o:PV)(vs:List PV):R PV:=
 match m,vs with
 |.append,[v]=>yeA st o v
 |.extend,[v]=>ydC st o v
 |.insert,[i,v]=>yfe st o i v
 |.get,[k,d]=>yfK st o k d
 |.count,[v]=>yfr st o v
 |.index,[v]=>yfj st o v
 |.join,[v]=>ydt st o v
 |.split,[v]=>ya6 st o v
 |.sidx,[v]=>ydw st o v
 |.clear,[]=>yef st o
 |.bits,[]=>match o with
  |.int i=>.ok (.int (CY i)) st
  |_=>.bad
 |.upper,[]=>match o with
  |.str s=>if s.cps.toList.all (· < 128)/\s.length<=1000000 then .ok (.str (upS s)) st else .bad
  |_=>.bad
 |_,_=>.bad
def toR(o:Option PV)(st:SO):R PV:=
 match o with
 |some v=>.ok v st
 |none=>.bad
def yo(t:Tg)(v:PV)(ρ:Env):Option Env:=
 match t,v with
 |.n i,v=>AA (ρ.set i (AA v))
 |.t l,.tp _ xs=>if l.length=xs.length then AA ((l.zip xs).foldl (λρ p=>ρ.set p.1 (AA p.2)) ρ)else AB
 |_,_=>AB
def yS:Nat->List PV->List PV
 |_,[]=>[]
 |k,x::xs=>.tup [.int k,x]::yS (k+1) xs
def ycR:List PV->List PV->List PV
 |x::xs,y::ys=>.tup [x,y]::ycR xs ys
 |_,_=>[]
def yfQ:PV->Option (List PV)
 |.tp _ xs=>AA xs.reverse
 |.lst xs=>AA xs.reverse
 |_=>AB
def yc8:PV->Option (List PV)
 |.str s=>if s.length<=1000000 then AA (s.cps.toList.map λc=>.str ⟨#[c]⟩)else AB
 |_=>AB
def ye1(x y:PV):Option (List PV):=
 match x,y with
 |.tp _ xs,.tp _ ys=>if xs.length<=ys.length then AA (ycR xs ys)else AB
 |_,_=>AB
def yaY(s:AM):List (AM×PV)->Option PV
 |[]=>AB
 |(a,b)::r=>if decide (a=s)then AA b else yaY s r
def yq:Nat->Int->Int->List PV
 |0,_,_=>[]
 |n+1,a,d=>.int a::yq n (a+d) d
def ybS(x:PV):Option (List PV):=
 match x with
 |.int j=>if j.natAbs<1000000000 then AA (yq j.toNat 0 1)else AB
 |_=>AB
def yfa(x:PV):Option (List PV):=
 match x with
 |.int j=>if 0<=j/\j<1000000000 then AA (yq j.toNat (j-1) (-1))else AB
 |_=>AB
def ygx(x y:PV):Option (List PV):=
 match x,y with
 |.int i,.int j=>if i.natAbs<1000000000/\j.natAbs<1000000000 then AA (yq (j-i).toNat i 1)else AB
 |_,_=>AB
def yfb(x y:PV):Option (List PV):=
 match x,y with
 |.int i,.int j=>if i.natAbs<1000000000/\j.natAbs<1000000000 then AA (yq (i-j).toNat i (-1))else AB
 |_,_=>AB
def toL(o:Option (List PV))(st:SO):R (List PV):=
 match o with
 |some v=>.ok v st
 |none=>.bad
def ycL(v:PV)(st:SO):R PV:=
 match v with
 |.loc n=>match st[n]? with
  |some (.lst xs)=>.ok (.lst xs) (st.set n .dead)
  |_=>.bad
 |v=>.ok v st
def yc6(v:PV)(st:SO):R PV:=
 match v with
 |.lst xs=>.ok (.loc st.length) (st++[.lst xs])
 |_=>.bad
def ybV(st:SO)(x y:PV):Option PV:=
 match yac st y with
 |some xs=>if shp x&&yaD 60 xs then AA (.bl (!inL x xs))else AB
 |none=>AB
def ycM(st:SO)(x k:PV):Option PV:=
 match yan st x with
 |some (t,kvs)=>if isKey t k then look k kvs else AB
 |none=>AB
def mkV(D:List (AM×Nat))(b:Bool)(x:PV):Option Nat:=
 match x with
 |.str s=>if b then D.lookup s else AB
 |_=>AB
def ydc(f:AM)(v:PV):List (AM×PV)->List (AM×PV)
 |[]=>[(f,v)]
 |(g,x)::r=>if g=f then(g,v)::r else(g,x)::ydc f v r
inductive Fl where
 |nx (ρ:Env) (st:SO)|rt (v:PV) (st:SO)|bk (ρ:Env) (st:SO)|ct (ρ:Env) (st:SO)|exc (c:Nat) (ρ:Env) (st:SO)|bad
def onBl{α:Type}(x:PV)(k:Bool->R α):R α:=
 match x with
 |.bl b=>k b
 |_=>.bad
def onO{α:Type}(o:Option Bool)(k:Bool->R α):R α:=
 match o with
 |some b=>k b
 |none=>.bad
def onF(o:Option Bool)(k:Bool->Fl):Fl:=
 match o with
 |some b=>k b
 |none=>.bad
def onP{α:Type}(o:Option (Option Int))(k:Option Int->R α):R α:=
 match o with
 |some b=>k b
 |none=>.bad
def ybc(o:Option PV)(ys:List PV):List PV:=
 match o with
 |some y=>y::ys
 |none=>ys
def compL(one:PV->SO->R (Option PV)):List PV->SO->R (List PV)
 |[],st=>.ok [] st
 |x::xs,st=>(one x st).bind λo st1=>(compL one xs st1).bind λys st2=>.ok (ybc o ys) st2
def yaZ(r:R (List PV)):R PV:=
 match r with
 |.ok ys st=>if ys.length<=1000000 then .ok (.lst ys) st else .bad
 |_=>.bad
def ybK(st:SO)(x y:PV):Option PV:=
 match x with
 |.loc n=>match st[n]? with
  |some (.lst xs)=>if shp (.lst xs)&&shp y then AA (.bl (!peq (.lst xs) y))else AB
  |_=>AB
 |_=>AB
def ybk:PV×PV->Bool
 |(_,.int _)=>AC
 |_=>AE
def ivP:PV->Int
 |.int i=>i
 |_=>0
def yah(one:PV->SO->R (List PV)):List PV->SO->R (List PV)
 |[],st=>.ok [] st
 |x::xs,st=>(one x st).bind λo st1=>(yah one xs st1).bind λys st2=>.ok (o++ys) st2
def emR(r:R PV):R (List PV):=
 match r with
 |.ok (.tp AE vs) st=>.ok vs st
 |_=>.bad
def ycY(o:Option (Option PV)):Bool:=
 match o with
 |some AB=>AC
 |_=>AE
def yaj(t:Tg)(ρ:Env):Bool:=
 match t with
 |.n i=>ycY ρ[i]?
 |.t l=>l.all λi=>ycY ρ[i]?
def tupR(r:R (List PV)):R PV:=
 match r with
 |.ok vs st=>.ok (.tp AE vs) st
 |_=>.bad
def yaz(one:PV->SO->R (PV×PV)):List PV->List (PV×PV)->SO->R (List (PV×PV))
 |[],acc,st=>.ok acc st
 |x::xs,acc,st=>(one x st).bind λp st1=>if isKey AC p.1 then yaz one xs (put p.1 p.2 acc) st1 else .bad
def dctR(r:R (List (PV×PV))):R PV:=
 match r with
 |.ok kvs st=>.ok (.loc st.length) (st++[.dct AC kvs])
 |_=>.bad
def ycl(ka kb:List (PV×PV)):Bool:=ka.length==kb.length&&ka.all λp=>match look p.1 kb with
 |some v=>ivP p.2==ivP v
 |none=>AE
mutual
noncomputable def ev(call:Nat->List PV->SO->R PV)(ρ:Env)(st:SO):Ce->R PV
 |.cst v=>.ok v st
 |.var i=>match ρ[i]? with
  |some (AA v)=>.ok v st
  |_=>.bad
 |.bin o a b=>(ev call ρ st a).bind λx st1=>(ev call ρ st1 b).bind λy st2=>toR (yw o x y) st2
 |.not a=>(ev call ρ st a).bind λx st1=>onBl x λk=>.ok (.bl (!k)) st1
 |.and a b=>(ev call ρ st a).bind λx st1=>onBl x λk=>cond k (ev call ρ st1 b) (.ok (.bl AE) st1)
 |.or a b=>(ev call ρ st a).bind λx st1=>onBl x λk=>cond k (.ok (.bl AC) st1) (ev call ρ st1 b)
 |.cmp o a b=>(ev call ρ st a).bind λx st1=>(ev call ρ st1 b).bind λy st2=>toR (yG o x y) st2
 |.ite c a b=>(ev call ρ st c).bind λx st1=>onO (yas st1 x) λk=>cond k (ev call ρ st1 a) (ev call ρ st1 b)
 |.tup es=>(evs call ρ st es).bind λvs st1=>if vs.length<=sizeMax then .ok (.tup vs) st1 else .bad
 |.lst es=>(evs call ρ st es).bind λvs st1=>if vs.length<=sizeMax then .ok (.lst vs) st1 else .bad
 |.newl es=>(evs call ρ st es).bind λvs st1=>if vs.length<=sizeMax then .ok (.loc st1.length) (st1++[.lst vs])else .bad
 |.idx a i=>(ev call ρ st a).bind λx st1=>(ev call ρ st1 i).bind λy st2=>toR (idxV st2 x y) st2
 |.slc a l h=>(ev call ρ st a).bind λx st1=>(ev call ρ st1 l).bind λy st2=>onP (ybm y) λo=>(ev call ρ st2 h).bind λz st3=>toR (ybT x o z) st3
 |.call f es=>(evs call ρ st es).bind λvs st1=>call f vs st1
 |.blt b es=>(evs call ρ st es).bind λvs st1=>toR (yag b st1 vs) st1
 |.mth m o es=>(ev call ρ st o).bind λx st1=>onO (yaA m st1 x) λ_=>(evs call ρ st1 es).bind λvs st2=>ybC m st2 x vs
 |.isi a ts=>(ev call ρ st a).bind λx st1=>toR (ybi x ts) st1
 |.comp sl tg it c e=>(evi call ρ st it).bind λxs st1=>
  let ρ0:Env:=sl.map λo=>o.bind λj=>(ρ[j]?).join
  yaZ (compL (λx st2=>match yo tg x ρ0 with
   |none=>.bad
   |some ρ1=>(ev call ρ1 st2 c).bind λb st3=>onO (yas st3 b) λk=>cond k ((ev call ρ1 st3 e).bind λy st4=>.ok (AA y) st4) (.ok AB st3)) xs st1)
 |.nope=>.bad
 |.frz a=>(ev call ρ st a).bind λx st1=>ycL x st1
 |.fst es=>ydG (evs call ρ st es)
 |.thw a=>(ev call ρ st a).bind λx st1=>yc6 x st1
 |.nin a b=>(ev call ρ st a).bind λx st1=>(ev call ρ st1 b).bind λy st2=>toR (ybV st2 x y) st2
 |.dgt a i=>(ev call ρ st a).bind λx st1=>(ev call ρ st1 i).bind λy st2=>toR (ycM st2 x y) st2
 |.dsub ks es i=>match evs call ρ st es with
  |.ok vs st1=>if ks.length=vs.length/\ks.length<=15 then(ev call ρ st1 i).bind λy st2=>toR (yc2 ks vs y) st2 else .bad
  |_=>.bad
 |.nel a b=>(ev call ρ st a).bind λx st1=>(ev call ρ st1 b).bind λy st2=>toR (ybK st2 x y) st2
 |.cmq sl tg it m=>(evi call ρ st it).bind λxs st1=>
  let ρ0:Env:=sl.map λo=>o.bind λj=>(ρ[j]?).join
  yaZ (yah (λx st2=>match yo tg x ρ0 with
   |none=>.bad
   |some ρ1=>emR (ev call ρ1 st2 m)) xs st1)
 | .emq tg it m=>(evi call ρ st it).bind λxs st1=>if yaj tg ρ=AC then tupR (yah (λx st2=>match yo tg x ρ with
   |none=>.bad
   |some ρ1=>emR (ev call ρ1 st2 m)) xs st1)else .bad
 |.dcm sl tg it k v=>(evi call ρ st it).bind λxs st1=>
  let ρ0:Env:=sl.map λo=>o.bind λj=>(ρ[j]?).join
  if xs.length<=1000000 then dctR (yaz (λx st2=>match yo tg x ρ0 with
   |none=>.bad
   |some ρ1=>(ev call ρ1 st2 k).bind λa st3=>(ev call ρ1 st3 v).bind λb st4=>.ok (a,b) st4) xs [] st1)else .bad
noncomputable def evs(call:Nat->List PV->SO->R PV)(ρ:Env)(st:SO):Ces->R (List PV)
 |.nil=>.ok [] st
 |.cons e es=>(ev call ρ st e).bind λv st1=>(evs call ρ st1 es).bind λvs st2=>.ok (v::vs) st2
noncomputable def evi(call:Nat->List PV->SO->R PV)(ρ:Env)(st:SO):Cit->R (List PV)
 |.seq e=>(ev call ρ st e).bind λv st1=>match v with
  |.tp _ xs=>.ok xs st1
  |.lst xs=>.ok xs st1
  |_=>.bad
 |.range1 a=>(ev call ρ st a).bind λx st1=>toL (ybS x) st1
 |.range2 a b=>(ev call ρ st a).bind λx st1=>(ev call ρ st1 b).bind λy st2=>toL (ygx x y) st2
 |.rangeD a b=>(ev call ρ st a).bind λx st1=>(ev call ρ st1 b).bind λy st2=>toL (yfb x y) st2
 |.enum e=>(ev call ρ st e).bind λv st1=>match v with
  |.tp _ xs=>.ok (yS 0 xs) st1
  |_=>.bad
 |.zip a b=>(ev call ρ st a).bind λx st1=>(ev call ρ st1 b).bind λy st2=>toL (ye1 x y) st2
 |.revl e=>(ev call ρ st e).bind λv st1=>toL (yfQ v) st1
 |.revr a=>(ev call ρ st a).bind λx st1=>toL (yfa x) st1
 |.chars e=>(ev call ρ st e).bind λv st1=>toL (yc8 v) st1
end
def R.fl{α:Type}(r:R α)(ρ:Env)(k:α->SO->Fl):Fl:=
 match r with
 |.ok a st=>k a st
 |.exc c st=>.exc c ρ st
 |.bad=>.bad
def yap(f:Fl)(k:Env->SO->Fl):Fl:=
 match f with
 |.nx ρ st=>k ρ st
 |.ct ρ st=>k ρ st
 |.bk ρ st=>.nx ρ st
 |f=>f
def forL(t:Tg)(body:Env->SO->Fl):List PV->Env->SO->Fl
 |[],ρ,st=>.nx ρ st
 |x::xs,ρ,st=>match yo t x ρ with
  |none=>.bad
  |some ρ1=>yap (body ρ1 st) λρ2 st2=>forL t body xs ρ2 st2
def ya4(t:Tg)(body:Env->SO->Fl)(n:Nat):Nat->Nat->Env->SO->Fl
 |0,_,_,_=>.bad
 |f+1,i,ρ,st=>match st[n]? with
  |some (.lst xs)=>match xs[i]? with
   |some x=>(match yo t x ρ with
    |none=>.bad
    |some ρ1=>yap (body ρ1 st) λρ2 st2=>ya4 t body n f (i+1) ρ2 st2)
   |none=>.nx ρ st
  |_=>.bad
def yW(test:Env->SO->R PV)(body:Env->SO->Fl):Nat->Env->SO->Fl
 |0,_,_=>.bad
 |n+1,ρ,st=>(test ρ st).fl ρ λx st1=>onF (yas st1 x) λk=>cond k (yap (body ρ st1) λρ2 st2=>yW test body n ρ2 st2) (.nx ρ st1)
def ya1(st:SO)(o i v:PV):Option SO:=
 match o with
 |.loc n=>match st[n]? with
  |some (.lst xs)=>match i with
   |.int k=>match ixI xs.length k with
    |some j=>AA (st.set n (.lst (xs.set j v)))
    |none=>AB
   |_=>AB
  |_=>AB
 |_=>AB
mutual
noncomputable def ex(call:Nat->List PV->SO->R PV)(ρ:Env)(st:SO):Cs->Fl
 |.expr e=>(ev call ρ st e).fl ρ λ_ st1=>.nx ρ st1
 |.asg t e=>(ev call ρ st e).fl ρ λv st1=>match yo t v ρ with
  |some ρ1=>.nx ρ1 st1
  |none=>.bad
 |.six o i e=>(ev call ρ st e).fl ρ λv st1=>(ev call ρ st1 o).fl ρ λx st2=>(ev call ρ st2 i).fl ρ λy st3=>match ya1 st3 x y v with
  |some st4=>.nx ρ st4
  |none=>.bad
 |.aug i o e=>match ρ[i]? with
  |some (AA x)=>(ev call ρ st e).fl ρ λy st1=>match yba o x y with
   |some z=>.nx (ρ.set i (AA z)) st1
   |none=>.bad
  |_=>.bad
 |.ret e=>(ev call ρ st e).fl ρ λv st1=>.rt v st1
 |.ite c a b=>(ev call ρ st c).fl ρ λx st1=>onF (yas st1 x) λk=>cond k (exs call ρ st1 a) (exs call ρ st1 b)
 |.for t it b=>(evi call ρ st it).fl ρ λxs st1=>forL t (λρ2 st2=>exs call ρ2 st2 b) xs ρ st1
 |.while c b=>yW (λρ2 st2=>ev call ρ2 st2 c) (λρ2 st2=>exs call ρ2 st2 b) 100000 ρ st
 |.nope=>.bad
 |.raise c e=>(ev call ρ st e).fl ρ λ_ st1=>.exc c ρ st1
 |.mkr i D n es=>(ev call ρ st n).fl ρ λx st1=>match mkV D (decide (i<ρ.length)) x with
  |some j=>((evs call (ρ.set i AB) st1 es).bind λvs st2=>call j vs st2).fl (ρ.set i AB) λv st3=>.rt v st3
  |none=>.bad
 |.forl t e b=>(ev call ρ st e).fl ρ λv st1=>match v with
  |.tp _ xs=>forL t (λρ2 st2=>exs call ρ2 st2 b) xs ρ st1
  |.lst xs=>forL t (λρ2 st2=>exs call ρ2 st2 b) xs ρ st1
  |.loc n=>ya4 t (λρ2 st2=>exs call ρ2 st2 b) n 100000 0 ρ st1
  |_=>.bad
noncomputable def exs(call:Nat->List PV->SO->R PV)(ρ:Env)(st:SO):Css->Fl
 |.nil=>.nx ρ st
 |.cons s ss=>match ex call ρ st s with
  |.nx ρ1 st1=>exs call ρ1 st1 ss
  |f=>f
end
structure Fn where
 np:Nat
 ns:Nat
 pure:Bool
 body:Css
def yd(T:Nat->Option Fn):Nat->Nat->List PV->SO->R PV
 |0,_,_,_=>.bad
 |k+1,f,args,st=>match T f with
  |none=>.bad
  |some fn=>if args.length=fn.np then
    if fn.pure then
     if nLs args then match exs (yd T k) (args.map AA++Am (fn.ns-fn.np) AB) [] fn.body with
      |.rt v _=>if nL v then .ok v st else .bad
      |.nx _ _=>.ok .non st
      |.exc c _ _=>.exc c st
      |_=>.bad
     else .bad
    else match exs (yd T k) (args.map AA++Am (fn.ns-fn.np) AB) st fn.body with
     |.rt v st1=>.ok v st1
     |.nx _ st1=>.ok .non st1
     |.exc c _ st1=>.exc c st1
     |_=>.bad
   else .bad
def yae:List (Sum Ce Int)->Ces
 |[]=>.nil
 |.inl c::r=>.cons c (yae r)
 |.inr i::r=>.cons (.cst (.int i)) (yae r)
def ycc:Ces->Ces->Ces
 |.nil,b=>b
 |.cons e r,b=>.cons e (ycc r b)
end IC
namespace L2
open PySem PySem.Spec PyProof.Rows IC
abbrev Ph:=List (Option AG)
section
variable (K:AD)(cl:Nat->AG)(B:AG->Prop)(φ:Ph)(H:Hp)
def ybw(k:Bool)(a:AG)(xs:List V):Prop:=(H a=AA (.tup xs)/\¬B a/\AA a∉φ) \/
 k=AC/\∃(o:BW) (its:Array AF) (n:Nat),K.lookup a=AA o/\o.cls=.type "tuple"/\o.data=.seq its n/\its.size<=sizeLine/\Vals xs its.toList
def ybD(a:AG)(xs:List V):Prop:=H a=AA (.lst xs)/\¬B a/\AA a∉φ
def ydk(a:AG)(xs:List V):Prop:=(Rd H a (.lst xs)/\¬B a/\AA a∉φ) \/
 ∃(o:BW) (its:Array AF) (n:Nat),K.lookup a=AA o/\o.cls=.type "list"/\o.dict=AB/\o.data=.seq its n/\its.size<=sizeLine/\Vals xs its.toList
mutual
noncomputable def yc:PV->V->Prop
 |.non,x=>x=.non
 |.bl b,x=>x=.bl b
 |.int i,x=>x=.int i
 |.str s,x=>x=.str s
 |.tp k vs,x=>∃a xs,x=.ref a/\ybw K B φ H k a xs/\ye vs xs
 |.lst vs,x=>∃a xs,x=.ref a/\ybD B φ H a xs/\ye vs xs
 |.loc n,x=>n<φ.length/\∃a,x=.ref a/\∀b,φ[n]?=AA (AA b)->b=a
 |.exn c,x=>∃a,x=.ref a/\H a=AA (.ext (yfS a (cl c)))/\¬B a/\AA a∉φ
 |.scr vs,x=>∃a xs,x=.ref a/\ydk K B φ H a xs/\ye vs xs
 |.fnc j,x=>x=.ref (cl (1000+j))
noncomputable def ye:List PV->List V->Prop
 |[],xs=>xs=[]
 |v::vs,xs=>∃y ys,xs=y::ys/\yc v y/\ye vs ys
end
def yaT:Key->PV
 |.inl i=>.int i
 |.inr y=>.str y
mutual
noncomputable def nkP:NK->PV
 |.a k=>yaT k
 |.t l=>.tup (yar l)
noncomputable def yar:List NK->List PV
 |[]=>[]
 |k::l=>nkP k::yar l
end
def DK:List (PV×PV)->List (Key×V)->Prop
 |[],ks=>ks=[]
 |(k,v)::r,ks=>∃q x s,ks=(q,x)::s/\k=yaT q/\yc K cl B φ H v x/\DK r s
def DT:List (PV×PV)->List (List NK×V)->Prop
 |[],ks=>ks=[]
 |(k,v)::r,ks=>∃q x s,ks=(q,x)::s/\k=.tup (yar q)/\yc K cl B φ H v x/\DT r s
def FS:List (AM×PV)->List (AM×V)->Prop
 |[],ks=>ks=[]
 |(k,v)::r,ks=>∃x s,ks=(k,x)::s/\yc K cl B φ H v x/\FS r s
def ybE:Ob->AG->Prop
 |.lst vs,a=>∃xs,H a=AA (.lst xs)/\ye K cl B φ H vs xs
 |.dct AE kvs,a=>∃ks,H a=AA (.dK ks)/\DK K cl B φ H kvs ks
 |.dct AC kvs,a=>∃ks,H a=AA (.dT ks)/\DT K cl B φ H kvs ks
 |.dead,_=>False
 |.ins c fs,a=>∃ks,(∃dx,H a=AA (.ins (cl c) dx ks))/\FS K cl B φ H fs ks
structure yh(st:SO):Prop where
 len:φ.length=st.length
 inj:∀(m n:Nat) (a:AG),φ[m]?=AA (AA a)->φ[n]?=AA (AA a)->m=n
 obj:∀(n:Nat) (a:AG),φ[n]?=AA (AA a)->∃o,st[n]?=AA o/\ybE K cl B φ H o a
 liv:∀(n:Nat) (o:Ob),st[n]?=AA o->o ≠ .dead->∃a,φ[n]?=AA (AA a)
 nb:∀a,AA a∈φ->¬B a
 dom:∀a,B a->∃o,H a=AA o
 nt:∀a,B a->∀xs,H a≠AA (.tup xs)
structure yp(ρ:IC.Env)(σ:St):Prop where
 len:ρ.length=σ.length
 get:∀(i:Nat) (v:PV),ρ[i]?=AA (AA v)->∃x,σ[i]?=AA (AA x)/\yc K cl B φ H v x
end
structure Step(φ:Ph)(H:Hp)(φ':Ph)(H':Hp):Prop where
 keep:∀b o,AA b∉φ->H b=AA o->H' b=AA o
 len:φ.length<=φ'.length
 pre:∀(n:Nat) (a:AG),n<φ.length->φ'[n]?=AA (AA a)->φ[n]?=AA (AA a)
 new:∀b,AA b∈φ'->AA b∈φ \/ H b=AB
theorem Step.rfl{φ:Ph}{H:Hp}:Step φ H φ H:=⟨λ_ _ _ e=>e,AN _,λ_ _ _ e=>e,λ_ h=>.inl h⟩
theorem Step.trans{φ φ1 φ2:Ph}{H H1 H2:Hp}(s:Step φ H φ1 H1)(t:Step φ1 H1 φ2 H2):Step φ H φ2 H2:=by
 refine⟨λb o n e=>?_,Az s.len t.len,λn a hn e=>s.pre n a hn (t.pre n a (AZ hn s.len) e),λb hb=>?_⟩
 .refine t.keep b o (λh=>?_) (s.keep b o n e);rcases s.new b h with q|q
  .exact n q
  .rw[e]at q;cases q
 .rcases t.new b hb with q|q
  .exact s.new b q
  .by_cases h:AA b∈φ
   .exact .inl h
   .refine .inr ?_
    cases e:H b with
    |none=>exact CP _
    |some o=>rw[s.keep b o h e]at q;cases q
section
variable {K:AD}{cl:Nat->AG}{B:AG->Prop}{φ φ':Ph}{H H':Hp}{st:SO}{ρ:IC.Env}{σ:St}
theorem Rd.step(s:Step φ H φ' H'){a:AG}{u:HO}(n:AA a∉φ)(r:Rd H a u):Rd H' a u/\AA a∉φ':=by
 have h:∃o,H a=AA o:=by
  rcases r with r|⟨o,r⟩<;>exact⟨_,r⟩
 refine⟨?_,λz=>?_⟩
 .rcases r with r|⟨o,r⟩
  .exact .inl (s.keep _ _ n r)
  .exact .inr ⟨o,s.keep _ _ n r⟩
 .let⟨o,e⟩:=h;rcases s.new a z with q|q
  .exact n q
  .rw[e]at q;cases q
theorem ybw.step(s:Step φ H φ' H'){k:Bool}{a:AG}{xs:List V}(r:ybw K B φ H k a xs):ybw K B φ' H' k a xs:=by
 rcases r with⟨r,b,n⟩|r
 .let⟨_,n'⟩:=(Rd.of r).step s n;exact .inl ⟨s.keep _ _ n r,b,n'⟩
 .exact .inr r
theorem ybD.step(s:Step φ H φ' H'){a:AG}{xs:List V}(r:ybD B φ H a xs):ybD B φ' H' a xs:=by
 let⟨r,b,n⟩:=r;let⟨_,n'⟩:=(Rd.of r).step s n;exact⟨s.keep _ _ n r,b,n'⟩
theorem ydk.step(s:Step φ H φ' H'){a:AG}{xs:List V}(r:ydk K B φ H a xs):ydk K B φ' H' a xs:=by
 rcases r with⟨r,b,n⟩|r
 .let⟨r',n'⟩:=r.step s n;exact .inl ⟨r',b,n'⟩
 .exact .inr r
mutual
theorem yc.step(s:Step φ H φ' H'):∀(v:PV) (x:V),yc K cl B φ H v x->yc K cl B φ' H' v x
 |.non,x,h=>by erw[yc]at h ⊢;exact h
 |.bl b,x,h=>by erw[yc]at h ⊢;exact h
 |.int i,x,h=>by erw[yc]at h ⊢;exact h
 |.str y,x,h=>by erw[yc]at h ⊢;exact h
 |.tp k vs,x,h=>by
  erw[yc]at h ⊢;let⟨a,xs,e,r,l⟩:=h;exact⟨a,xs,e,r.step s,ye.step s vs xs l⟩
 |.lst vs,x,h=>by
  erw[yc]at h ⊢;let⟨a,xs,e,r,l⟩:=h;exact⟨a,xs,e,r.step s,ye.step s vs xs l⟩
 |.loc n,x,h=>by
  erw[yc]at h ⊢;let⟨h1,a,e,h2⟩:=h;exact⟨AZ h1 s.len,a,e,λb q=>h2 b (s.pre n b h1 q)⟩
 |.fnc j,x,h=>by erw[yc]at h ⊢;exact h
 |.exn c,x,h=>by
  erw[yc]at h ⊢;let⟨a,e,r,b,n⟩:=h;let⟨_,n'⟩:=(Rd.of r).step s n;exact⟨a,e,s.keep _ _ n r,b,n'⟩
 |.scr vs,x,h=>by
  erw[yc]at h ⊢;let⟨a,xs,e,r,l⟩:=h;exact⟨a,xs,e,r.step s,ye.step s vs xs l⟩
theorem ye.step(s:Step φ H φ' H'):∀(v:List PV) (x:List V),ye K cl B φ H v x->ye K cl B φ' H' v x
 |[],x,h=>by erw[ye]at h ⊢;exact h
 |v::vs,x,h=>by
  erw[ye]at h ⊢;let⟨y,ys,e,r,l⟩:=h;exact⟨y,ys,e,yc.step s v y r,ye.step s vs ys l⟩
end
theorem yp.step(s:Step φ H φ' H')(r:yp K cl B φ H ρ σ):yp K cl B φ' H' ρ σ:=⟨r.len,λi v e=>by
 let⟨x,h,q⟩:=r.get i v e;exact⟨x,h,q.step s⟩⟩
mutual
theorem yc.inn(hn:∀a,AA a∈φ->¬B a):∀(v:PV) (x:V),nL v=AC->yc K cl B φ H v x->yc K cl (λa=>B a \/ AA a∈φ) [] H v x
 |.non,x,_,h=>by erw[yc]at h ⊢;exact h
 |.bl b,x,_,h=>by erw[yc]at h ⊢;exact h
 |.int i,x,_,h=>by erw[yc]at h ⊢;exact h
 |.str y,x,_,h=>by erw[yc]at h ⊢;exact h
 |.tp k vs,x,q,h=>by
  erw[yc]at h ⊢;let⟨a,xs,e,r,l⟩:=h;refine⟨a,xs,e,?_,ye.inn hn vs xs (by simpa only[nL] using q) l⟩;rcases r with⟨r,b,n⟩|r
  .exact .inl ⟨r,λz=>z.elim b n,by simp⟩
  .exact .inr r
 |.lst vs,x,q,h=>by
  erw[yc]at h ⊢;let⟨a,xs,e,⟨r,b,n⟩,l⟩:=h;exact⟨a,xs,e,⟨r,λz=>z.elim b n,by simp⟩,ye.inn hn vs xs (by simpa only[nL] using q) l⟩
 |.loc n,x,q,h=>by simp[nL]at q
 |.fnc j,x,q,h=>by erw[yc]at h ⊢;exact h
 |.exn c,x,q,h=>by simp[nL]at q
 |.scr vs,x,q,h=>by
  erw[yc]at h ⊢;let⟨a,xs,e,r,l⟩:=h;refine⟨a,xs,e,?_,ye.inn hn vs xs (by simpa only[nL] using q) l⟩;rcases r with⟨r,b,n⟩|r
  .exact .inl ⟨r,λz=>z.elim b n,by simp⟩
  .exact .inr r
theorem ye.inn(hn:∀a,AA a∈φ->¬B a):∀(v:List PV) (x:List V),nLs v=AC->ye K cl B φ H v x->ye K cl (λa=>B a \/ AA a∈φ) [] H v x
 |[],x,_,h=>by erw[ye]at h ⊢;exact h
 |v::vs,x,q,h=>by
  erw[ye]at h ⊢;erw[nLs,AI]at q;let⟨y,ys,e,r,l⟩:=h;exact⟨y,ys,e,yc.inn hn v y q.1 r,ye.inn hn vs ys q.2 l⟩
end
mutual
theorem yc.out{ψ:Ph}:∀(v:PV) (x:V),nL v=AC->yc K cl (λa=>B a \/ AA a∈φ) ψ H v x->yc K cl B φ H v x
 |.non,x,_,h=>by erw[yc]at h ⊢;exact h
 |.bl b,x,_,h=>by erw[yc]at h ⊢;exact h
 |.int i,x,_,h=>by erw[yc]at h ⊢;exact h
 |.str y,x,_,h=>by erw[yc]at h ⊢;exact h
 |.tp k vs,x,q,h=>by
  erw[yc]at h ⊢;let⟨a,xs,e,r,l⟩:=h;refine⟨a,xs,e,?_,ye.out vs xs (by simpa only[nL] using q) l⟩;rcases r with⟨r,b,n⟩|r
  .exact .inl ⟨r,λz=>b (.inl z),λz=>b (.inr z)⟩
  .exact .inr r
 |.lst vs,x,q,h=>by
  erw[yc]at h ⊢;let⟨a,xs,e,⟨r,b,n⟩,l⟩:=h;exact⟨a,xs,e,⟨r,λz=>b (.inl z),λz=>b (.inr z)⟩,ye.out vs xs (by simpa only[nL] using q) l⟩
 |.loc n,x,q,h=>by simp[nL]at q
 |.fnc j,x,q,h=>by erw[yc]at h ⊢;exact h
 |.exn c,x,q,h=>by simp[nL]at q
 |.scr vs,x,q,h=>by
  erw[yc]at h ⊢;let⟨a,xs,e,r,l⟩:=h;refine⟨a,xs,e,?_,ye.out vs xs (by simpa only[nL] using q) l⟩;rcases r with⟨r,b,n⟩|r
  .exact .inl ⟨r,λz=>b (.inl z),λz=>b (.inr z)⟩
  .exact .inr r
theorem ye.out{ψ:Ph}:∀(v:List PV) (x:List V),nLs v=AC->ye K cl (λa=>B a \/ AA a∈φ) ψ H v x->ye K cl B φ H v x
 |[],x,_,h=>by erw[ye]at h ⊢;exact h
 |v::vs,x,q,h=>by
  erw[ye]at h ⊢;erw[nLs,AI]at q;let⟨y,ys,e,r,l⟩:=h;exact⟨y,ys,e,yc.out v y q.1 r,ye.out vs ys q.2 l⟩
end
theorem ye.length:∀{v:List PV} {x:List V},ye K cl B φ H v x->v.length=x.length
 |[],x,h=>by erw[ye]at h;subst h;rfl
 |v::vs,x,h=>by
  erw[ye]at h;let⟨y,ys,rfl,_,l⟩:=h;simp[ye.length l]
theorem DK.step(s:Step φ H φ' H'):∀{kvs:List (PV×PV)} {ks:List (Key×V)},DK K cl B φ H kvs ks->DK K cl B φ' H' kvs ks
 |[],ks,h=>h
 |(k,v)::r,ks,h=>by
  let⟨q,x,t,e,m,rv,l⟩:=h;exact⟨q,x,t,e,m,rv.step s,DK.step s l⟩
theorem DT.step(s:Step φ H φ' H'):∀{kvs:List (PV×PV)} {ks:List (List NK×V)},DT K cl B φ H kvs ks->DT K cl B φ' H' kvs ks
 |[],ks,h=>h
 |(k,v)::r,ks,h=>by
  let⟨q,x,t,e,m,rv,l⟩:=h;exact⟨q,x,t,e,m,rv.step s,DT.step s l⟩
theorem FS.step(s:Step φ H φ' H'):∀{kvs:List (AM×PV)} {ks:List (AM×V)},FS K cl B φ H kvs ks->FS K cl B φ' H' kvs ks
 |[],ks,h=>h
 |(k,v)::r,ks,h=>by
  let⟨x,t,e,rv,l⟩:=h;exact⟨x,t,e,rv.step s,FS.step s l⟩
theorem ybE.step(s:Step φ H φ' H'){o:Ob}{a:AG}(e:H' a=H a)(r:ybE K cl B φ H o a):ybE K cl B φ' H' o a:=by
 cases o with
 |lst vs=>
  let⟨xs,q,l⟩:=r;exact⟨xs,e.trans q,l.step s⟩
 |dct t kvs=>
  cases t with
  |false=>let⟨ks,q,l⟩:=r;exact⟨ks,e.trans q,l.step s⟩
  |true=>let⟨ks,q,l⟩:=r;exact⟨ks,e.trans q,l.step s⟩
 |dead=>exact r
 |ins c fs=>let⟨ks,⟨dx,q⟩,l⟩:=r;exact⟨ks,⟨dx,e.trans q⟩,l.step s⟩
theorem ybE.there{o:Ob}{a:AG}(r:ybE K cl B φ H o a):∃u,H a=AA u:=by
 cases o with
 |lst vs=>let⟨xs,q,l⟩:=r;exact⟨_,q⟩
 |dct t kvs=>cases t<;>(let⟨ks,q,l⟩:=r;exact⟨_,q⟩)
 |dead=>exact r.elim
 |ins c fs=>let⟨ks,⟨dx,q⟩,l⟩:=r;exact⟨_,q⟩
theorem yh.there(S:yh K cl B φ H st){a:AG}(h:AA a∈φ):∃u,H a=AA u:=by
 let⟨n,e⟩:=Cj.mp h;let⟨o,_,r⟩:=S.obj n a e;exact r.there
theorem Step.upd{p:AG}{o:HO}(hp:H p=AB):Step φ H φ (upd H p o):=
 ⟨λb u n e=>by rw[za (zd e hp)];exact e,AN _,λ_ _ _ e=>e,λ_ h=>.inl h⟩
theorem yh.same(S:yh K cl B φ H st)(k:∀b o,H b=AA o->H' b=AA o):yh K cl B φ H' st:=by
 have s:Step φ H φ H':=⟨λb o _ e=>k b o e,AN _,λ_ _ _ e=>e,λ_ h=>.inl h⟩;refine⟨S.len,S.inj,λn a e=>?_,S.liv,S.nb,λa h=>?_,λa h xs e=>?_⟩
 .let⟨o,q,r⟩:=S.obj n a e;let⟨u,z⟩:=r.there;exact⟨o,q,r.step s ((k a u z).trans z.symm)⟩
 .let⟨o,q⟩:=S.dom a h;exact⟨o,k a o q⟩
 .let⟨o,q⟩:=S.dom a h;have z:=k a o q;rw[e]at z
  cases z
  exact S.nt a h xs q
theorem yh.upd{p:AG}{o:HO}(S:yh K cl B φ H st)(hp:H p=AB):yh K cl B φ (upd H p o) st:=S.same λb u e=>by rw[za (zd e hp)];exact e
mutual
theorem yc.moreB{B':AG->Prop}(hn:∀y,B' y->B y \/ H y=AB):∀(v:PV) (x:V),yc K cl B φ H v x->yc K cl B' φ H v x
 |.non,x,h=>by erw[yc]at h ⊢;exact h
 |.bl b,x,h=>by erw[yc]at h ⊢;exact h
 |.int i,x,h=>by erw[yc]at h ⊢;exact h
 |.str y,x,h=>by erw[yc]at h ⊢;exact h
 |.tp k vs,x,h=>by
  erw[yc]at h ⊢;let⟨y,xs,e,r,l⟩:=h;refine⟨y,xs,e,?_,ye.moreB hn vs xs l⟩;rcases r with⟨r,b,n⟩|r
  .exact .inl ⟨r,λz=>(hn y z).elim b λq=>(by rw[q]at r;cases r),n⟩
  .exact .inr r
 |.lst vs,x,h=>by
  erw[yc]at h ⊢;let⟨y,xs,e,⟨r,b,n⟩,l⟩:=h;exact⟨y,xs,e,⟨r,λz=>(hn y z).elim b λq=>(by rw[q]at r;cases r),n⟩,ye.moreB hn vs xs l⟩
 |.loc n,x,h=>by erw[yc]at h ⊢;exact h
 |.fnc j,x,h=>by erw[yc]at h ⊢;exact h
 |.exn c,x,h=>by
  erw[yc]at h ⊢;let⟨y,e,r,b,n⟩:=h;exact⟨y,e,r,λz=>(hn y z).elim b λq=>(by rw[q]at r;cases r),n⟩
 |.scr vs,x,h=>by
  erw[yc]at h ⊢;let⟨y,xs,e,r,l⟩:=h;refine⟨y,xs,e,?_,ye.moreB hn vs xs l⟩;rcases r with⟨r,b,n⟩|r
  .refine .inl ⟨r,λz=>(hn y z).elim b λq=>?_,n⟩;rcases r with r|⟨o,r⟩<;>(rw[q]at r;cases r)
  .exact .inr r
theorem ye.moreB{B':AG->Prop}(hn:∀y,B' y->B y \/ H y=AB):∀(v:List PV) (x:List V),ye K cl B φ H v x->ye K cl B' φ H v x
 |[],x,h=>by erw[ye]at h ⊢;exact h
 |v::vs,x,h=>by
  erw[ye]at h ⊢;let⟨y,ys,e,r,l⟩:=h;exact⟨y,ys,e,yc.moreB hn v y r,ye.moreB hn vs ys l⟩
end
end
end L2
namespace L2
open PySem PySem.Spec PyProof.Rows
def CXH(X:Cx)(H:Hp)(s:AH)(E:XK)(e:AF)(s':AH):Prop:=
 ∃(C a:AG) (cls a0 fl:AF) (H':Hp) (B:Ao),X.s₀.heap.objs.size<=C/\e=.ref a/\s'.os=s.os/\Cu s'.gens /\
  (B.StaysIn s'.heap/\B.get? a=AB/\s'.heap.FunFrames B X.stack/\s'.heap.TracedAtW B a cls a0 fl)/\HOk X.prog X.w H' s'.heap/\Un (frs X.stack) [C] H H' s.heap s'.heap /\
  (∀b o,s.heap.get? b=AA o->H b=AB->b∉frs X.stack->b≠C->B.get? b=AA o)/\(∀b u,H' b=AA u->∃o,B.get? b=AA o)/\(∀b o,s.heap.get? b=AA o->b∉frs X.stack->b≠C->∃o',B.get? b=AA o')/\E cls AB H'
theorem CXH.mono{X:Cx}{H:Hp}{s:AH}{E E':XK}{e:AF}{s':AH}(h:CXH X H s E e s')(n:∀cls H',E cls AB H'->E' cls AB H'):CXH X H s E' e s':=by
 let⟨C,a,cls,a0,fl,H',B,r1,r2,r3,r4,r5,r6,r7,r8,r9,r10,r11⟩:=h;exact⟨C,a,cls,a0,fl,H',B,r1,r2,r3,r4,r5,r6,r7,r8,r9,r10,n _ _ r11⟩
section
variable {M:Fp}{A:A5}{E:AF->AH->Prop}{s:AH}
def zcf{base:Ao}{env:Env}{outer:List Env}{L e:AG}{cls a0 fl:AF}{Q:Unit->AH->Prop}
  (hfr:A.frames=AA (env::outer)) (hf:env.frame=AA L) (f1:base.StaysIn s.heap) (f2:base.get? e=AB) (f3:s.heap.FunFrames base (env::outer)) (f4:s.heap.TracedAtW base e cls a0 fl)
  (hQ:∀h',Fw base outer e cls a0 h'->s.heap.UpToSlots h'->Q () {s with heap:=h'}):A2 M A («leaving» env (.ref e)) Q E s:=by
 by_cases hfl:fl=rawInt L
 .subst hfl;unfold «leaving»;refine AJ (wpAny_noteFrame_againW hf f4 ?_);refine wpAny_landsW ⟨f1,f2,f3,f4⟩ λh' hfl up=>?_;let⟨k1,k2,⟨_,_,k3⟩,k4⟩:=hfl;exact hQ h' ⟨k1,k2,k3,k4⟩ up
 .let⟨oe,vs,T,oT,ts,he,⟨hcls,h0⟩,hd,h1,hnT,hTe,hT,hdT,h3⟩:=f4;subst hcls;unfold «leaving» noteFrame;erw[hf];refine AJ (AJ (CJ he hd h1 ?_));rw[if_pos (show (BA T != Bf)=AC from by simp)];refine AJ (CJ hT hdT h3 ?_);rw[if_neg (show ¬((fl==rawInt L)=AC)from λz=>hfl (eq_of_beq z))];refine AJ (ES hT hdT (DU.mp h3).1 ?_);have other:∀b,b≠T->(s.heap.update T (Obj.mapFields (·.setIfInBounds 3 Bf))).get? b=s.heap.get? b:=λb hb=>Cg _ _ (BI hb);have noRecord:∀b o,s.heap.get? b=AA o->(∀vs,o.data ≠ .fields vs)->b≠T:=λb o hb hnf q=>by
   rw[q,hT]at hb;injection hb with hb;subst hb;exact hnf ts hdT
  refine wpAny_newEntryW hfr (f3.of_keeps λb o hb hnf=>⟨o,(other b (noRecord b o hb hnf)).trans hb,rfl⟩) hf ((other e (BI hTe)).trans he)
   (λb o hbo=>(other b λq=>by rw[q,hnT]at hbo;cases hbo).trans (f1 b o hbo)) f2 hd (DU.mp h1).1 h0
   λh' ⟨x1,⟨_,_,x2⟩,x3,x4⟩=>hQ h' ⟨x1,f2,x2,x3⟩ λb o hb hnf=>x4 b o ((other b (noRecord b o hb hnf)).trans hb) hnf
end
section
variable {P:A1}{w:Ab}{K:AD}{mg:AM->Option AF}{base:Ao}{N:List AM}{qual:AM}{scope:An}{f:AG}{cd:AF}{A:A5}{outer:List Env}{s₀:AH}{H₀:Hp}{E:XK}
def zla{π:List (AG×BW)}{σ:St}{H:Hp}{s:AH}{e:AF}{s':AH}(I:Inv (yav (CX1 P w) P w K mg base N qual scope f cd A outer s₀ H₀ E) π σ H s)(h:CXH (yav (CX1 P w) P w K mg base N qual scope f cd A outer s₀ H₀ E) H s E e s'):
  (yav (CX1 P w) P w K mg base N qual scope f cd A outer s₀ H₀ E).xe e s':=by
 let⟨C,a,cls,a0,fl,H',B,hC,rfl,os,bare,⟨f1,f2,f3,f4⟩,hok,un,hB,tr,hT,hE⟩:=h;have bse:Un (frs outer) [] H₀ H s₀.heap s.heap:=I.base;have lt:∀b o,s₀.heap.get? b=AA o->b≠s₀.heap.objs.size:=λb o q=>Ac (AT q);have neC:∀b o,s₀.heap.get? b=AA o->b≠C:=λb o q=>Ac (AZ (AT q) hC);have niC:∀b o,s₀.heap.get? b=AA o->b∉[C]:=λb o q z=>neC b o q (by simpa using z);have hst:∀b,b∈frs (envOfC qual scope s₀.heap.objs.size f cd::outer)->b=s₀.heap.objs.size \/ b∈frs outer:=λb hb=>by
  have hb':b∈s₀.heap.objs.size::frs outer:=hb;exact A8.mp hb'
 have un':Un (frs (envOfC qual scope s₀.heap.objs.size f cd::outer)) [C] H H' s.heap s'.heap:=un;have kB:∀b o,s₀.heap.get? b=AA o->H₀ b=AB->b∉frs outer->B.get? b=AA o:=λb o q n hb=>hB b o (bse.keep b o q n hb (by simp)) (bse.free b o q n (by simp)) (λz=>by
  rcases hst b z with z|z
  .exact lt b o q z
  .exact hb z) (neC b o q)
 have kT:∀b o,s₀.heap.get? b=AA o->b∉frs outer->∃o',B.get? b=AA o':=λb o q hb=>by
  let⟨o',q1⟩:=bse.there b o q (by simp);refine hT b o' q1 (λz=>?_) (neC b o q);rcases hst b z with z|z
  .exact lt b o q z
  .exact hb z
 refine zcf I.ok.frames rfl f1 f2 f3 f4 λh'' fl' up=>?_;refine⟨a,cls,a0,H',B,rfl,os.trans I.os,bare,fl',HOk.inB hok f1 fl'.1 tr,⟨λb o q n hb _=>fl'.1 b o (kB b o q n hb),λb o q n hb _=>?_,λb o q n _=>?_,λb o q _=>?_,λb xs q=>un'.tups b xs (bse.tups b xs q),λb o u q=>un'.frzs b o u (bse.frzs b o u q),λb ps q=>?_⟩,kB,tr,kT,hE⟩
 .let⟨sl,q1⟩:=bse.slot b o q n hb (by simp);have n1:=bse.free b o q n (by simp);let⟨sl1,q2⟩:=un'.slot b _ q1 n1 (AK _ hb) (niC b o q);let⟨_,o',ho',hd⟩:=Bk f3 (show b∈Ch (λ(z:Env)=>z.frame) _ from AK _ hb);let⟨sl',q3⟩:=up b _ q2 (by rw[ho']at q2;cases q2;exact hd);exact⟨sl',q3⟩
 .let⟨o',q1⟩:=bse.there b o q (by simp);exact un'.free b o' q1 (bse.free b o q n (by simp)) (niC b o q)
 .let⟨o',q1⟩:=bse.there b o q (by simp);let⟨o2,q2⟩:=un'.there b o' q1 (niC b o q)
  by_cases hb:b∈frs outer
  .let⟨_,o3,ho3,hd⟩:=Bk f3 (show b∈Ch (λ(z:Env)=>z.frame) _ from AK _ hb);let⟨sl',q3⟩:=up b _ ho3 hd;exact⟨_,q3⟩
  .let⟨o4,q4⟩:=kT b o q hb;exact⟨o4,fl'.1 b o4 q4⟩
 .let⟨m1,e1⟩:=bse.tbls b ps q;let⟨m2,e2⟩:=un'.tbls b _ e1;exact⟨m1++m2,by rw[e2,DJ]⟩
end
section
variable {pg:A1}{wd:Ab}{A:A5}{R:Do->AH->Prop}{s:AH}
end
section
variable {X:Cx}{sc:An}{NC:List AM}{slots:List (Option Nat)}{elt tg iter:AL}{ifs:List AL}{pos:BX}{g:TG}{ti:TT}{te:CI->TE}{E:XK}
end
end L2
namespace L2
open PySem PySem.Spec PyProof.Rows IC
structure Se where
 cl:Nat->AG
 call:Nat->List PV->SO->R PV
 may:Bool
section
variable (S:Se)(X:Cx)
def ExcAt(σ:St)(B:AG->Prop)(φ:Ph)(H:Hp)(k:Nat)(st':SO)(e:AF)(s':AH):Prop:=
 (∃π H1 s φ1,Inv X π σ H1 s/\Step φ H φ1 H1/\CX1 X.prog X.w X.stack H1 s (λcls _ H'=>cls=.ref (S.cl k)/\∃φ',Step φ1 H1 φ' H'/\yh X.K S.cl B φ' H' st') e s') \/
 (S.may=AC/\∃π H1 s φ1 h' e0 vs,Inv X π σ H1 s/\Step φ H φ1 H1/\yh X.K S.cl B φ1 H1 st'/\F8 s.heap h' e0 (.ref (S.cl k)) vs/\e=.ref e0/\s'={s with heap:=h'}) \/
 (S.may=AC/\∃π H1 s,Inv X π σ H1 s/\CXH X H1 s (λcls _ H'=>cls=.ref (S.cl k)/\∃φ',Step φ H φ' H'/\yh X.K S.cl B φ' H' st') e s')
def Run{α β:Type}(σ:St)(B:AG->Prop)(φ:Ph)(H:Hp)(Rel:Ph->Hp->α->β->Prop)(r:R α)(Q:β->Hp->Prop):Prop:=
 match r with
 |.ok v st'=>∀x H' φ',Step φ H φ' H'->yh X.K S.cl B φ' H' st'->Rel φ' H' v x->Q x H'
 |.exc k st'=>∀e s',ExcAt S X σ B φ H k st' e s'->X.xe e s'
 |.bad=>False
abbrev RV(B:AG->Prop):Ph->Hp->PV->V->Prop:=λφ H=>yc X.K S.cl B φ H
abbrev RL(B:AG->Prop):Ph->Hp->List PV->List V->Prop:=λφ H=>ye X.K S.cl B φ H
abbrev RB:Ph->Hp->Bool->Bool->Prop:=λ_ _ b c=>b=c
def tE(c:Ce):TE:=λσ H Q=>∃B φ st ρ,yh X.K S.cl B φ H st/\yp X.K S.cl B φ H ρ σ/\Run S X σ B φ H (RV S X B) (ev S.call ρ st c) Q
def tAs(c:Ces):TA:=λσ H Q=>∃B φ st ρ,yh X.K S.cl B φ H st/\yp X.K S.cl B φ H ρ σ/\Run S X σ B φ H (RL S X B) (evs S.call ρ st c) Q
def yax(r:R PV):R Bool:=r.bind λx st=>onO (yas st x) λb=>.ok b st
def tTs(c:Ce):TT:=λσ H Q=>∃B φ st ρ,yh X.K S.cl B φ H st/\yp X.K S.cl B φ H ρ σ/\Run S X σ B φ H RB (yax (ev S.call ρ st c)) Q
end
section
variable {S:Se}{X:Cx}{σ:St}{B:AG->Prop}{φ φ1:Ph}{H H1:Hp}
theorem ExcAt.back{k:Nat}{st':SO}{e:AF}{s':AH}(s:Step φ H φ1 H1)(h:ExcAt S X σ B φ1 H1 k st' e s'):ExcAt S X σ B φ H k st' e s':=by
 rcases h with⟨π,H2,t,φ2,I,q,c⟩|⟨m,π,H2,t,φ2,h',e0,vs,I,q,c⟩|⟨m,π,H2,t,I,c⟩
 .exact .inl ⟨π,H2,t,φ2,I,s.trans q,c⟩
 .exact .inr (.inl ⟨m,π,H2,t,φ2,h',e0,vs,I,s.trans q,c⟩)
 .exact .inr (.inr ⟨m,π,H2,t,I,c.mono λcls H' ⟨e1,φ',s2,r⟩=>⟨e1,φ',s.trans s2,r⟩⟩)
variable {α β γ δ:Type}{Rel:Ph->Hp->α->β->Prop}{Fy:Ph->Hp->γ->δ->Prop}
theorem Run.on{r:R α}{Q:β->Hp->Prop}(s:Step φ H φ1 H1)(h:Run S X σ B φ H Rel r Q):Run S X σ B φ1 H1 Rel r Q:=by
 cases r with
 |ok v st'=>exact λx H' φ' t=>h x H' φ' (s.trans t)
 |exc k st'=>exact λe s' x=>h e s' (x.back s)
 |bad=>exact h
theorem Run.mono{r:R α}{Q Q':β->Hp->Prop}(h:Run S X σ B φ H Rel r Q)(k:∀x H',Q x H'->Q' x H'):Run S X σ B φ H Rel r Q':=by
 cases r with
 |ok v st'=>exact λx H' φ' t rs rv=>k x H' (h x H' φ' t rs rv)
 |exc c st'=>exact h
 |bad=>exact h
theorem Run.bind{r:R α}{k:α->SO->R γ}{Q:δ->Hp->Prop}(h:Run S X σ B φ H Fy (r.bind k) Q):
  Run S X σ B φ H Rel r λx H1=>∃v st1 φ1,Step φ H φ1 H1/\yh X.K S.cl B φ1 H1 st1/\Rel φ1 H1 v x/\Run S X σ B φ1 H1 Fy (k v st1) Q:=by
 cases r with
 |ok v st'=>exact λx H' φ' t rs rv=>⟨v,st',φ',t,rs,rv,Run.on t h⟩
 |exc c st'=>exact h
 |bad=>exact h
theorem Run.ok{v:α}{st:SO}{Q:β->Hp->Prop}(h:Run S X σ B φ H Rel (.ok v st) Q)(rs:yh X.K S.cl B φ H st){x:β}(rv:Rel φ H v x):Q x H:=h x H φ .rfl rs rv
theorem PE.imp{e:AL}{t t':TE}(h:PE X e t')(k:∀σ H Q,t σ H Q->t' σ H Q):PE X e t:=λπ s σ H Q I q=>h π s σ H Q I (k σ H Q q)
theorem PT.imp{e:AL}{t t':TT}(h:PT X e t')(k:∀σ H Q,t σ H Q->t' σ H Q):PT X e t:=λπ s σ H Q I q=>h π s σ H Q I (k σ H Q q)
theorem PW.imp{e:AL}{t t':TT}(h:PW X e t')(k:∀σ H Q,t σ H Q->t' σ H Q):PW X e t:=λwh π s σ H Q I q=>h wh π s σ H Q I (k σ H Q q)
theorem PA.imp{e:List AL}{t t':TA}(h:PA X e t')(k:∀σ H Q,t σ H Q->t' σ H Q):PA X e t:=λpos π s σ H Q I q=>h pos π s σ H Q I (k σ H Q q)
theorem tE.bind{c:Ce}{ρ:IC.Env}{st:SO}{k:PV->SO->R γ}{Q:δ->Hp->Prop}{P:V->Hp->Prop}(rs:yh X.K S.cl B φ H st)(re:yp X.K S.cl B φ H ρ σ)(h:Run S X σ B φ H Fy ((ev S.call ρ st c).bind k) Q)
  (n:∀x H1 v st1 φ1,Step φ H φ1 H1->yh X.K S.cl B φ1 H1 st1->yp X.K S.cl B φ1 H1 ρ σ->yc X.K S.cl B φ1 H1 v x->Run S X σ B φ1 H1 Fy (k v st1) Q->P x H1):tE S X c σ H P:=
 ⟨B,φ,st,ρ,rs,re,(Run.bind h).mono λx H1 ⟨v,st1,φ1,s,rs1,rv,h1⟩=>n x H1 v st1 φ1 s rs1 (re.step s) rv h1⟩
theorem tAs.bind{c:Ces}{ρ:IC.Env}{st:SO}{k:List PV->SO->R γ}{Q:δ->Hp->Prop}{P:List V->Hp->Prop}(rs:yh X.K S.cl B φ H st)(re:yp X.K S.cl B φ H ρ σ)(h:Run S X σ B φ H Fy ((evs S.call ρ st c).bind k) Q)
  (n:∀x H1 v st1 φ1,Step φ H φ1 H1->yh X.K S.cl B φ1 H1 st1->yp X.K S.cl B φ1 H1 ρ σ->ye X.K S.cl B φ1 H1 v x->Run S X σ B φ1 H1 Fy (k v st1) Q->P x H1):tAs S X c σ H P:=
 ⟨B,φ,st,ρ,rs,re,(Run.bind h).mono λx H1 ⟨v,st1,φ1,s,rs1,rv,h1⟩=>n x H1 v st1 φ1 s rs1 (re.step s) rv h1⟩
variable {i:Int}{b:Bool}{x:AM}{j:Nat}{pos:BX}{e a a':AL}{c ca cb cc:Ce}
def zjO:PE X (.Constant (.int i) j pos) (tE S X (.cst (.int i))):=zkX.imp λσ H Q ⟨B,φ,st,ρ,rs,re,h⟩=>by
 erw[ev]at h;exact h.ok rs (by erw[yc])
def zj9:PE X (.Constant (.bool b) j pos) (tE S X (.cst (.bl b))):=zkY.imp λσ H Q ⟨B,φ,st,ρ,rs,re,h⟩=>by
 erw[ev]at h;exact h.ok rs (by erw[yc])
def zjy:PE X (.Constant .none j pos) (tE S X (.cst .non)):=zkZ.imp λσ H Q ⟨B,φ,st,ρ,rs,re,h⟩=>by
 erw[ev]at h;exact h.ok rs (by erw[yc])
def zjx:PE X (.Constant (.str x) j pos) (tE S X (.cst (.str x))):=zkK.imp λσ H Q ⟨B,φ,st,ρ,rs,re,h⟩=>by
 erw[ev]at h;exact h.ok rs (by erw[yc])
def zjc{i:Nat}(hN:X.N[i]?=AA x)(hv:Vis X.env.scope x)(hd:(x==("__debug__":AM))=false:=by decide)(hcd:(x==("__classdict__":AM))=false:=by decide):PE X (.Name x pos) (tE S X (.var i)):=
 (zgw hN hv hd hcd).imp λσ H Q ⟨B,φ,st,ρ,rs,re,h⟩=>by
  erw[ev]at h
  cases q:ρ[i]? with
  |none=>rw[q]at h;exact h.elim
  |some o=>
   cases o with
   |none=>rw[q]at h;exact h.elim
   |some v=>
    rw[q]at h;let⟨y,hy,rv⟩:=re.get i v q;exact⟨y,hy,h.ok rs rv⟩
def zdw{v:PV}{y:AG}(hg:Gl X x)(hm:X.mg x=AA (.ref y))(hk:∀B φ H,yc X.K S.cl B φ H v (.ref y))(hd:(x==("__debug__":AM))=false:=by decide):PE X (.Name x pos) (tE S X (.cst v)):=
 (zcc hg hm (show RelV (.ref y) (.ref y)from rfl) hd).imp λσ H Q ⟨B,φ,st,ρ,rs,re,h⟩=>by
  erw[ev]at h;exact h.ok rs (hk B φ H)
def zC{o:Option PV}{st:SO}{Q:VK}(h:Run S X σ B φ H (RV S X B) (toR o st) Q)(rs:yh X.K S.cl B φ H st):∃z,o=AA z/\∀z' H' φ',Step φ H φ' H'->yh X.K S.cl B φ' H' st->yc X.K S.cl B φ' H' z z'->Q z' H':=by
 cases o with
 |none=>exact h.elim
 |some z=>exact⟨z,rfl,h⟩
def rT2(S:Se)(X:Cx)(f:PV->PV->Option PV):R2:=λx y H Q=>∃B φ st v w z,yh X.K S.cl B φ H st/\yc X.K S.cl B φ H v x/\yc X.K S.cl B φ H w y/\f v w=AA z /\
 ∀z' H' φ',Step φ H φ' H'->yh X.K S.cl B φ' H' st->yc X.K S.cl B φ' H' z z'->Q z' H'
def zjf{op:Db}{o:BOp}(ho:OpR X (binaryOp op) (rT2 S X (yw o)))(ha:PE X a (tE S X ca))(hb:PE X a' (tE S X cb)):PE X (.BinOp a op a' pos) (tE S X (.bin o ca cb)):=
 (zkb ho ha hb).imp λσ H Q ⟨B,φ,st,ρ,rs,re,h⟩=>by
  erw[ev]at h;refine tE.bind rs re h λx H1 v st1 φ1 s1 rs1 re1 rv h1=>tE.bind rs1 re1 h1 λy H2 w st2 φ2 s2 rs2 re2 rw h2=>?_;let⟨z,e,q⟩:=zC h2 rs2;exact⟨B,φ2,st2,v,w,z,rs2,rv.step s2,rw,e,q⟩
def ziU{op:GH}{o:COp}(ho:OpR X (compareOp op) (rT2 S X (yG o)))(ha:PE X a (tE S X ca))(hb:PE X a' (tE S X cb))(hm:behindInMarks op a'=AE):PE X (.Compare a [op] [a'] pos) (tE S X (.cmp o ca cb)):=
 (zeL ho ha hb hm).imp λσ H Q ⟨B,φ,st,ρ,rs,re,h⟩=>by
  erw[ev]at h;refine tE.bind rs re h λx H1 v st1 φ1 s1 rs1 re1 rv h1=>tE.bind rs1 re1 h1 λy H2 w st2 φ2 s2 rs2 re2 rw h2=>?_;let⟨z,e,q⟩:=zC h2 rs2;exact⟨B,φ2,st2,v,w,z,rs2,rv.step s2,rw,e,q⟩
end
section
variable {S:Se}{X:Cx}{σ:St}{B:AG->Prop}{φ φ1:Ph}{H H1:Hp}{K:AD}{cl:Nat->AG}{st:SO}
theorem ybw.sq{k:Bool}{a:AG}{xs:List V}(r:ybw K B φ H k a xs):SqT K H a xs:=by
 rcases r with⟨r,_⟩|r
 .exact .inl (.inl r)
 .exact .inr r.2
theorem ybD.sq{a:AG}{xs:List V}(r:ybD B φ H a xs):SqL K H a xs:=.inl (.inl r.1)
theorem yc.tup_new{vs:List PV}{xs:List V}{p:AG}(hp:H p=AB)(rs:yh K cl B φ H st)(r:ye K cl B φ H vs xs):yc K cl B φ (upd H p (.tup xs)) (.tup vs) (.ref p):=by
 erw[yc];refine⟨p,xs,rfl,.inl ⟨zc,λz=>?_,λz=>?_⟩,r.step (.upd hp)⟩
 .let⟨o,e⟩:=rs.dom p z;rw[hp]at e;cases e
 .let⟨o,e⟩:=rs.there z;rw[hp]at e;cases e
theorem yc.lst_new{vs:List PV}{xs:List V}{p:AG}(hp:H p=AB)(rs:yh K cl B φ H st)(r:ye K cl B φ H vs xs):yc K cl B φ (upd H p (.lst xs)) (.lst vs) (.ref p):=by
 erw[yc];refine⟨p,xs,rfl,⟨zc,λz=>?_,λz=>?_⟩,r.step (.upd hp)⟩
 .let⟨o,e⟩:=rs.dom p z;rw[hp]at e;cases e
 .let⟨o,e⟩:=rs.there z;rw[hp]at e;cases e
theorem ye.append:∀{vs ws:List PV} {xs ys:List V},ye K cl B φ H vs xs->ye K cl B φ H ws ys->ye K cl B φ H (vs++ws) (xs++ys)
 |[],ws,xs,ys,h,q=>by erw[ye]at h;subst h;exact q
 |v::vs,ws,xs,ys,h,q=>by
  erw[ye]at h;let⟨y,zs,rfl,r,l⟩:=h;show ye K cl B φ H (v::(vs++ws)) (y::(zs++ys));erw[ye];exact⟨y,zs++ys,rfl,r,ye.append l q⟩
theorem ye.get:∀{vs:List PV} {xs:List V} (j:Nat) {v:PV},ye K cl B φ H vs xs->vs[j]?=AA v->∃x,xs[j]?=AA x/\yc K cl B φ H v x
 |[],xs,j,v,h,e=>by simp at e
 |w::vs,xs,0,v,h,e=>by
  erw[ye]at h;let⟨y,zs,rfl,r,l⟩:=h;simp at e;subst e;exact⟨y,rfl,r⟩
 |w::vs,xs,j+1,v,h,e=>by
  erw[ye]at h;let⟨y,zs,rfl,r,l⟩:=h;let⟨x,q1,q2⟩:=ye.get j l (by simpa using e);exact⟨x,by simpa using q1,q2⟩
theorem ye.drop:∀{vs:List PV} {xs:List V} (n:Nat),ye K cl B φ H vs xs->ye K cl B φ H (vs.drop n) (xs.drop n)
 |vs,xs,0,h=>by simpa using h
 |[],xs,n+1,h=>by erw[ye]at h;subst h;simp[ye]
 |v::vs,xs,n+1,h=>by
  erw[ye]at h;let⟨y,ys,rfl,_,l⟩:=h;simpa using ye.drop n l
theorem ye.take:∀{vs:List PV} {xs:List V} (n:Nat),ye K cl B φ H vs xs->ye K cl B φ H (vs.take n) (xs.take n)
 |vs,xs,0,h=>by simp[ye]
 |[],xs,n+1,h=>by erw[ye]at h;subst h;simp[ye]
 |v::vs,xs,n+1,h=>by
  erw[ye]at h;let⟨y,ys,rfl,r,l⟩:=h;erw[List.take_succ_cons,ye];exact⟨y,ys.take n,rfl,r,ye.take n l⟩
def zag{f:AF->AF->FH AF}{o:BOp}{C:Int->Int->Prop}{g:Int->Int->Int}(h:OpR X f (rI C λi j=>.int (g i j)))
  (hb:∀v w z,yw o v w=AA z->∃i j,v=.int i/\w=.int j/\C i j/\z=.int (g i j)):OpR X f (rT2 S X (yw o)):=by
 rintro π s σ H x y v u Q I rx ry ⟨B,φ,st,a,b,z,rs,ra,rb,e,q⟩
 let⟨i,j,rfl,rfl,hc,rfl⟩:=hb a b z e;erw[yc]at ra rb;subst ra rb;exact h π s σ H _ _ v u Q I rx ry ⟨i,j,rfl,rfl,hc,q _ H φ .rfl rs (by erw[yc])⟩
def zaw{f:AF->AF->FH AF}{o:BOp}{g:Int->Int->Int}(h:OpR X f (rI0 λi j=>.int (g i j)))
  (hb:∀v w z,yw o v w=AA z->∃i j,v=.int i/\w=.int j/\z=.int (g i j)):OpR X f (rT2 S X (yw o)):=by
 rintro π s σ H x y v u Q I rx ry ⟨B,φ,st,a,b,z,rs,ra,rb,e,q⟩
 let⟨i,j,rfl,rfl,rfl⟩:=hb a b z e;erw[yc]at ra rb;subst ra rb;exact h π s σ H _ _ v u Q I rx ry ⟨i,j,rfl,rfl,q _ H φ .rfl rs (by erw[yc])⟩
def zg7(v w z:PV)(h:yw .sub v w=AA z):∃i j,v=.int i/\w=.int j/\z=.int (i-j):=by
 unfold yw at h;split at h<;>first|(cases h;done)|skip
 exact⟨_,_,rfl,rfl,(AU h).symm⟩
def zhy(v w z:PV)(h:yw .mul v w=AA z):∃i j,v=.int i/\w=.int j/\ycB i j/\z=.int (i*j):=by
 unfold yw at h;split at h<;>first|(cases h;done)|skip
 rename_i i j;erw[IC.binI]at h;split at h
 .rename_i c;refine⟨i,j,rfl,rfl,?_,(AU h).symm⟩;erw[yaC,CK,decide_eq_true_eq]at c;unfold ycB;rcases c with c|c
  .left;constructor<;>lia
  .right;constructor<;>lia
 .cases h
def zfj(v w z:PV)(h:yw .fdiv v w=AA z):∃i j,v=.int i/\w=.int j/\yc0 i j/\z=.int (i/j):=by
 unfold yw at h;split at h<;>first|(cases h;done)|skip
 rename_i i j;erw[IC.binI]at h;split at h
 .rename_i c;exact⟨i,j,rfl,rfl,c,(AU h).symm⟩
 .cases h
def zhY(v w z:PV)(h:yw .mod v w=AA z):∃i j,v=.int i/\w=.int j/\0<j/\z=.int (i%j):=by
 unfold yw at h;split at h<;>first|(cases h;done)|skip
 rename_i i j;erw[IC.binI]at h;split at h
 .rename_i c;exact⟨i,j,rfl,rfl,c,(AU h).symm⟩
 .cases h
def zhw(v w z:PV)(h:yw .pow v w=AA z):∃i j,v=.int i/\w=.int j/\yep i j/\z=.int (i^j.toNat):=by
 unfold yw at h;split at h<;>first|(cases h;done)|skip
 rename_i i j;erw[IC.binI]at h;split at h
 .rename_i c;exact⟨i,j,rfl,rfl,⟨c.1,c.2.1,by have:=c.2.2;lia⟩,(AU h).symm⟩
 .cases h
def zg9(v w z:PV)(h:yw .shl v w=AA z):∃i j,v=.int i/\w=.int j/\yen i j/\z=.int (i*2^j.toNat):=by
 unfold yw at h;split at h<;>first|(cases h;done)|skip
 rename_i i j;erw[IC.binI]at h;split at h
 .rename_i c;exact⟨i,j,rfl,rfl,⟨c.1,c.2.1,by have:=c.2.2;lia⟩,(AU h).symm⟩
 .cases h
def zg1(v w z:PV)(h:yw .shr v w=AA z):∃i j,v=.int i/\w=.int j/\0<=j/\z=.int (i/2^j.toNat):=by
 unfold yw at h;split at h<;>first|(cases h;done)|skip
 rename_i i j;erw[IC.binI]at h;split at h
 .rename_i c;exact⟨i,j,rfl,rfl,c,(AU h).symm⟩
 .cases h
def zfT(v w z:PV)(h:yw .band v w=AA z):∃i j,v=.int i/\w=.int j/\z=.int (EN i j):=by
 unfold yw at h;split at h<;>first|(cases h;done)|skip
 exact⟨_,_,rfl,rfl,(AU h).symm⟩
def zht(v w z:PV)(h:yw .bor v w=AA z):∃i j,v=.int i/\w=.int j/\z=.int (E5 i j):=by
 unfold yw at h;split at h<;>first|(cases h;done)|skip
 exact⟨_,_,rfl,rfl,(AU h).symm⟩
def zfu(v w z:PV)(h:yw .bxor v w=AA z):∃i j,v=.int i/\w=.int j/\z=.int (EO i j):=by
 unfold yw at h;split at h<;>first|(cases h;done)|skip
 exact⟨_,_,rfl,rfl,(AU h).symm⟩
def zjC:OpR X (binaryOp .Sub) (rT2 S X (yw .sub)):=zaw zjv zg7
def zjE:OpR X (binaryOp .Mult) (rT2 S X (yw .mul)):=zag ziG zhy
def zhf:OpR X (binaryOp .FloorDiv) (rT2 S X (yw .fdiv)):=zag zfA zfj
def zjt:OpR X (binaryOp .Mod) (rT2 S X (yw .mod)):=zag zi9 zhY
def zjX:OpR X (binaryOp .Pow) (rT2 S X (yw .pow)):=zag zih zhw
def zjL:OpR X (binaryOp .LShift) (rT2 S X (yw .shl)):=zag zh0 zg9
def ziP:OpR X (binaryOp .RShift) (rT2 S X (yw .shr)):=zag zjr zg1
def zhD:OpR X (binaryOp .BitAnd) (rT2 S X (yw .band)):=zaw ziV zfT
def zjb:OpR X (binaryOp .BitOr) (rT2 S X (yw .bor)):=zaw zj7 zht
def zh3:OpR X (binaryOp .BitXor) (rT2 S X (yw .bxor)):=zaw zju zfu
def zg:sizeMax=sizeLine:=by rw[Bc];rfl
def zib:OpR X (binaryOp .Add) (λx y H Q=>∃a b ys,x=.ref a/\y=.ref b/\SqT X.K H a []/\SqT X.K H b ys/\Q (.ref b) H):=by
 intro π s σ H x y v u Q I rx ry h;let⟨a,b,ys,rfl,rfl,ha,hb,q⟩:=h
 cases rx
 cases ry
 let⟨its,r1,p1,_⟩:=I.tuple ha;let⟨its2,r2,p2,_⟩:=I.tuple hb;have:its=[]:=r1.nil_iff.mpr rfl;subst this;let⟨⟨cls,dd,data,sl⟩,ho,hc,n,hd⟩:=id p1;let⟨⟨cls2,dd2,data2,sl2⟩,ho2,hc2,n2,hd2⟩:=id p2;simp only at hc hd hc2 hd2;subst hc hd hc2 hd2;exact Ep ⟨_,ho,rfl⟩ ⟨_,ho2,rfl⟩ Dg E6 Cf C8 (CZ _ _)
   (tuple_addW0 a b [].toArray its2.toArray n n2 dd dd2 sl sl2 (by simp)) ⟨ho,ho2,⟨.ref b,H,I,rfl,q⟩⟩
def zir:OpR X (binaryOp .Add) (rT2 S X (yw .add)):=by
 rintro π s σ H x y v u Q I rx ry ⟨B,φ,st,a,b,z,rs,ra,rb,e,q⟩
 unfold yw at e;split at e
 .rename_i i j;erw[yc]at ra rb;subst ra rb
  cases e
  exact ziA π s σ H _ _ v u Q I rx ry ⟨i,j,rfl,rfl,q _ H φ .rfl rs (by erw[yc])⟩
 .rename_i i k;erw[yc]at ra rb;subst ra rb
  cases e
  exact zdE π s σ H _ _ v u Q I rx ry ⟨i,k,rfl,rfl,q _ H φ .rfl rs (by erw[yc];cases k<;>rfl)⟩
 .rename_i i j;erw[yc]at ra rb;subst ra rb;dsimp only at e;split at e
  .rename_i c
   cases e
   exact zdb π s σ H _ _ v u Q I rx ry ⟨i,j,rfl,rfl,by rw[<-zg];exact c,q _ H φ .rfl rs (by erw[yc])⟩
  .cases e
 .rename_i k1 vs k2 ws;erw[yc]at ra rb;let⟨p,xs,rfl,r1,l1⟩:=ra;let⟨p',ys,rfl,r2,l2⟩:=rb;dsimp only at e;split at e
  .rename_i c
   cases e
   have n1:=l1.length;have n2:=l2.length;unfold ydj at q
   cases vs with
   |nil=>
    have:xs=[]:=by cases xs with|nil=>rfl|cons _ _=>simp at n1
    subst this;refine zib π s σ H _ _ v u Q I rx ry ⟨p,p',ys,rfl,rfl,r1.sq,r2.sq,q _ H φ .rfl rs ?_⟩;erw[FQ,if_true,yc];exact⟨p',ys,rfl,r2,l2⟩
   |cons v1 vr=>
    erw[FE,C4,if_false]at q;refine zgQ π s σ H _ _ v u Q I rx ry ⟨p,p',xs,ys,rfl,rfl,r1.sq,r2.sq,?_,by rw[<-zg];lia,λz=>?_,λz t ht=>?_⟩
    .rintro rfl
     simp at n1
    .subst z;have:ws=[]:=by cases ws with|nil=>rfl|cons _ _=>simp at n2
     subst this;erw[FQ,if_true]at q;refine q _ H φ .rfl rs ?_;erw[yc];exact⟨p,xs,rfl,r1,l1⟩
    .cases ws with
     |nil=>exact absurd (List.length_eq_zero_iff.mp n2.symm) z
     |cons w1 wr=>
      erw[FE,C4,if_false]at q;exact q _ _ φ (.upd ht) (rs.upd ht) (.tup_new ht rs (l1.append l2))
  .cases e
 .rename_i vs ws;erw[yc]at ra rb;let⟨p,xs,rfl,r1,l1⟩:=ra;let⟨p',ys,rfl,r2,l2⟩:=rb;dsimp only at e;split at e
  .rename_i c
   cases e
   have n1:=l1.length;have n2:=l2.length;exact ziM π s σ H _ _ v u Q I rx ry ⟨p,p',xs,ys,rfl,rfl,r1.1,r2.1,by rw[<-zg];lia,λt ht=>q _ _ φ (.upd ht) (rs.upd ht) (.lst_new ht rs (l1.append l2))⟩
  .cases e
 .cases e
end
mutual
noncomputable def toD:PV->F2
 |.non=>.none
 |.bl b=>.bool b
 |.int i=>.int i
 |.str x=>.str x
 |.tp _ xs=>.tuple (ybo xs)
 |.lst xs=>.list (ybo xs)
 |_=>.none
noncomputable def ybo:List PV->List F2
 |[]=>[]
 |x::xs=>toD x::ybo xs
end
mutual
theorem zbd:∀(v:PV) (n:Nat),shd n v=AC->(toD v).canLay0=AC/\(toD v).depth<=n
 |.non,n,h=>by simp[toD,B3,BL]
 |.bl b,n,h=>by simp[toD,B3,BL]
 |.int i,n,h=>by simp[toD,B3,BL]
 |.str x,n,h=>by
  erw[shd]at h;erw[toD,B3,BL,BO,and_true];exact h
 |.tp _ xs,n,h=>by
  erw[shd,AI,decide_eq_true_eq]at h;let⟨q1,q2⟩:=zbi xs (n-1) h.2;erw[toD,B3,BL];exact⟨q1,by lia⟩
 |.lst xs,n,h=>by
  erw[shd,AI,decide_eq_true_eq]at h;let⟨q1,q2⟩:=zbi xs (n-1) h.2;erw[toD,B3,BL];exact⟨q1,by lia⟩
 |.loc k,n,h=>by simp[shd]at h
 |.fnc k,n,h=>by simp[shd]at h
 |.exn k,n,h=>by simp[shd]at h
 |.scr xs,n,h=>by simp[shd]at h
theorem zbi:∀(v:List PV) (n:Nat),yaD n v=AC->Br (ybo v)=AC/\BH (ybo v)<=n
 |[],n,h=>by simp[ybo,Br,BH]
 |v::vs,n,h=>by
  erw[yaD,AI]at h;let⟨q1,q2⟩:=zbd v n h.1;let⟨q3,q4⟩:=zbi vs n h.2;erw[ybo,Br,BH,AI];exact⟨⟨q1,q3⟩,by lia⟩
end
def zt{v:PV}(h:shp v=AC):Fz (toD v)=true:=by
 let⟨q1,q2⟩:=zbd v 60 h;unfold Fz;rw[q1,Fi,decide_eq_true_eq];lia
mutual
theorem zaF:∀(v w:PV) (n m:Nat),shd n v=AC->shd m w=AC->BJ (toD v) (toD w)=peq v w
 |.non,w,n,m,h,q=>by cases w<;>first|rfl|exact absurd q AX
 |.bl b,w,n,m,h,q=>by cases w<;>first|rfl|exact absurd q AX
 |.int i,w,n,m,h,q=>by cases w<;>first|rfl|exact absurd q AX
 |.str x,w,n,m,h,q=>by cases w<;>first|rfl|exact absurd q AX
 |.tp _ xs,.tp _ ys,n,m,h,q=>by
  have h:=B4.1 h;have q:=B4.1 q;exact zbg xs ys (n-1) (m-1) h.2 q.2
 |.lst xs,.lst ys,n,m,h,q=>by
  have h:=B4.1 h;have q:=B4.1 q;exact zbg xs ys (n-1) (m-1) h.2 q.2
 |.tp _ xs,.non,n,m,h,q=>rfl
 |.tp _ xs,.bl _,n,m,h,q=>rfl
 |.tp _ xs,.int _,n,m,h,q=>rfl
 |.tp _ xs,.str _,n,m,h,q=>rfl
 |.tp _ xs,.lst _,n,m,h,q=>rfl
 |.lst xs,.non,n,m,h,q=>rfl
 |.lst xs,.bl _,n,m,h,q=>rfl
 |.lst xs,.int _,n,m,h,q=>rfl
 |.lst xs,.str _,n,m,h,q=>rfl
 |.lst xs,.tp _ _,n,m,h,q=>rfl
 |.loc k,w,n,m,h,q=>absurd h AX
 |.fnc k,w,n,m,h,q=>absurd h AX
 |.exn k,w,n,m,h,q=>absurd h AX
 |.scr k,w,n,m,h,q=>absurd h AX
 |v,.loc k,n,m,h,q=>absurd q AX
 |v,.fnc k,n,m,h,q=>absurd q AX
 |v,.exn k,n,m,h,q=>absurd q AX
 |v,.scr k,n,m,h,q=>absurd q AX
theorem zbg:∀(v w:List PV) (n m:Nat),yaD n v=AC->yaD m w=AC->CM (ybo v) (ybo w)=yaS v w
 |[],[],n,m,h,q=>rfl
 |[],y::ys,n,m,h,q=>rfl
 |x::xs,[],n,m,h,q=>rfl
 |x::xs,y::ys,n,m,h,q=>by
  have h:=B4.1 h;have q:=B4.1 q;show (BJ (toD x) (toD y)&&CM (ybo xs) (ybo ys))=(peq x y&&yaS xs ys);rw[zaF x y n m h.1 q.1,zbg xs ys n m h.2 q.2]
end
section
variable {S:Se}{X:Cx}{σ:St}{B:AG->Prop}{φ φ1:Ph}{H H1:Hp}{st:SO}{π:List (AG×BW)}{s:AH}
mutual
theorem zp(I:Inv X π σ H s):∀(v:PV) (n:Nat) (x:V) (u:AF),shd n v=AC->yc X.K S.cl B φ H v x->RelV x u->∃as,Fm s.heap u (toD v) as
 |.non,n,x,u,h,r,q=>by
  erw[yc]at r;subst r;cases (show u=Bf from q);exact⟨_,.none⟩
 |.bl b,n,x,u,h,r,q=>by
  erw[yc]at r;subst r;cases (show u=CS b from q);exact⟨_,.bool b⟩
 |.int i,n,x,u,h,r,q=>by
  erw[yc]at r;subst r;let⟨t,rfl⟩:=q;exact⟨_,.int i t⟩
 |.str y,n,x,u,h,r,q=>by
  erw[yc]at r;subst r;let⟨t,rfl⟩:=q;exact⟨_,.str y t⟩
 |.tp _ vs,n,x,u,h,r,q=>by
  erw[yc]at r;let⟨a,xs,rfl,rt,l⟩:=r
  cases (show u=BA a from q)
  erw[shd,AI]at h;let⟨its,rv,⟨o,g,c,k,d⟩,_⟩:=I.tuple rt.sq;let⟨as,z⟩:=z7 I vs (n-1) xs its h.2 l rv;exact⟨as,.tuple g c d (by simpa using z)⟩
 |.lst vs,n,x,u,h,r,q=>by
  erw[yc]at r;let⟨a,xs,rfl,rt,l⟩:=r
  cases (show u=BA a from q)
  erw[shd,AI]at h;let⟨its,rv,⟨o,k,g,c,_,d⟩,_⟩:=I.list (rt.sq (K:=X.K));let⟨as,z⟩:=z7 I vs (n-1) xs its h.2 l rv;exact⟨_,.list g c d (by simpa using z)⟩
 |.loc k,n,x,u,h,r,q=>by simp[shd]at h
 |.fnc k,n,x,u,h,r,q=>by simp[shd]at h
 |.exn k,n,x,u,h,r,q=>by simp[shd]at h
 |.scr k,n,x,u,h,r,q=>by simp[shd]at h
theorem z7(I:Inv X π σ H s):∀(v:List PV) (n:Nat) (x:List V) (u:List AF),yaD n v=AC->ye X.K S.cl B φ H v x->Vals x u->∃as,ReadsAll s.heap u (ybo v) as
 |[],n,x,u,h,r,q=>by
  erw[ye]at r;subst r;cases q;exact⟨_,.nil⟩
 |v::vs,n,x,u,h,r,q=>by
  erw[ye]at r;let⟨y,ys,rfl,rv,l⟩:=r;erw[yaD,AI]at h
  cases q with
  |cons q1 q2=>
   let⟨as,z1⟩:=zp I v n y _ h.1 rv q1;let⟨bs,z2⟩:=z7 I vs n ys _ h.2 l q2;exact⟨_,.cons z1 z2⟩
end
def zkr(hu:X.A.units+64<cLine):OpR X (compareOp .Eq) (rT2 S X (yG .eq)):=by
 rintro π s σ H x y v u Q I rx ry ⟨B,φ,st,a,b,z,rs,ra,rb,e,q⟩
 erw[yG]at e;split at e
 .rename_i c;rw[AI]at c
  cases e
  let⟨as,z1⟩:=zp (S:=S) I a 60 x v c.1 ra rx;let⟨bs,z2⟩:=zp (S:=S) I b 60 y u c.2 rb ry;refine eq_dataH z1 z2 (zt c.1) (zt c.2) hu ⟨.bl _,H,I,rfl,?_⟩;rw[zaF a b 60 60 c.1 c.2];exact q _ H φ .rfl rs (by erw[yc])
 .cases e
def zkz(hu:X.A.units+64<cLine):OpR X (compareOp .NotEq) (rT2 S X (yG .ne)):=by
 rintro π s σ H x y v u Q I rx ry ⟨B,φ,st,a,b,z,rs,ra,rb,e,q⟩
 erw[yG]at e;split at e
 .rename_i c;rw[AI]at c
  cases e
  let⟨as,z1⟩:=zp (S:=S) I a 60 x v c.1 ra rx;let⟨bs,z2⟩:=zp (S:=S) I b 60 y u c.2 rb ry;refine ne_dataH z1 z2 (zt c.1) (zt c.2) hu ⟨.bl _,H,I,rfl,?_⟩;rw[zaF a b 60 60 c.1 c.2];exact q _ H φ .rfl rs (by erw[yc])
 .cases e
def zeF{f:AF->AF->FH AF}{o:COp}{g:Int->Int->Bool}(h:OpR X f (rI0 λi j=>.bl (g i j)))
  (hb:∀v w z,yG o v w=AA z->∃i j,v=.int i/\w=.int j/\z=.bl (g i j)):OpR X f (rT2 S X (yG o)):=by
 rintro π s σ H x y v u Q I rx ry ⟨B,φ,st,a,b,z,rs,ra,rb,e,q⟩
 let⟨i,j,rfl,rfl,rfl⟩:=hb a b z e;erw[yc]at ra rb;subst ra rb;exact h π s σ H _ _ v u Q I rx ry ⟨i,j,rfl,rfl,q _ H φ .rfl rs (by erw[yc])⟩
def zkl:OpR X (compareOp .Lt) (rT2 S X (yG .lt)):=by
 rintro π s σ H x y v u Q I rx ry ⟨B,φ,st,a,b,z,rs,ra,rb,e,q⟩
 erw[yG]at e;split at e
 .rename_i i j;erw[yc]at ra rb;subst ra rb
  cases e
  exact zkx π s σ H _ _ v u Q I rx ry ⟨i,j,rfl,rfl,q _ H φ .rfl rs (by erw[yc])⟩
 .rename_i i j;erw[yc]at ra rb;subst ra rb
  cases e
  exact ze0 π s σ H _ _ v u Q I rx ry ⟨i,j,rfl,rfl,q _ H φ .rfl rs (by erw[yc])⟩
 .cases e
def zcH{o:COp}{g:Int->Int->Bool}(ho:∀v w,yG o v w=match v,w with
   |.int i,.int j=>ybz o i j
   |.str a,.str b=>ydr o a b
   |_,_=>AB) (hs:∀a b,ydr o a b=AB) (hg:∀i j,ybz o i j=AA (.bl (g i j))) (v w z:PV) (h:yG o v w=AA z):∃i j,v=.int i/\w=.int j/\z=.bl (g i j):=by
 rw[ho]at h;split at h
 .rename_i i j;rw[hg]at h;exact⟨i,j,rfl,rfl,(AU h).symm⟩
 .rw[hs]at h;cases h
 .cases h
def zkq:OpR X (compareOp .Gt) (rT2 S X (yG .gt)):=zeF zko (zcH (λ_ _=>rfl) (λ_ _=>rfl) λ_ _=>rfl)
def zkg:OpR X (compareOp .GtE) (rT2 S X (yG .ge)):=zeF zkv (zcH (λ_ _=>rfl) (λ_ _=>rfl) λ_ _=>rfl)
theorem yc.isNon{K:AD}{cl:Nat->AG}{v:PV}{x:V}(r:yc K cl B φ H v x):decide (x=.non)=IC.isNon v:=by
 cases v with
 |loc n=>erw[yc]at r;let⟨_,a,rfl,_⟩:=r;rfl
 |non=>erw[yc]at r;subst r;rfl
 |bl b=>erw[yc]at r;subst r;rfl
 |int b=>erw[yc]at r;subst r;rfl
 |str b=>erw[yc]at r;subst r;rfl
 |tp k vs=>erw[yc]at r;let⟨a,xs,rfl,_⟩:=r;rfl
 |lst vs=>erw[yc]at r;let⟨a,xs,rfl,_⟩:=r;rfl
 |fnc j=>erw[yc]at r;subst r;rfl
 |exn vs=>erw[yc]at r;let⟨a,rfl,_⟩:=r;rfl
 |scr vs=>erw[yc]at r;let⟨a,xs,rfl,_⟩:=r;rfl
def zfn{M:Fp}{A:A5}{E:AF->AH->Prop}{s:AH}{a b:Bool}{Q:AF->AH->Prop}(h:Q (.bool (a==b)) s):A2 M A (compareOp .Is (.bool a) (.bool b)) Q E s:=by
 have e:(CS a==CS b)=(a==b):=by cases a<;>cases b<;>rfl
 rw[<-e]at h;exact AQ h
def zkA:OpR X (compareOp .Is) (rT2 S X (yG .is)):=by
 rintro π s σ H x y v u Q I rx ry ⟨B,φ,st,a,b,z,rs,ra,rb,e,q⟩
 erw[yG]at e;split at e
 .cases e
  erw[yc]at rb;exact zi4 π s σ H _ _ v u Q I rx ry ⟨rb,q _ H φ .rfl rs (by erw[yc];rw[ra.isNon])⟩
 .rename_i k;split at e
  .rename_i j
   cases e
   erw[yc]at ra rb;subst ra rb
   cases (show v=CS j from rx)
   cases (show u=CS k from ry)
   exact zfn (zcQ I (q _ H φ .rfl rs (by erw[yc])) rfl)
  .cases e
 .cases e
theorem yc.flat{K:AD}{cl:Nat->AG}{v:PV}{x:V}(r:yc K cl B φ H v x)(h:IC.flat v=AC):yaF x=AC/\∀(w:PV) (y:V),IC.flat w=AC->yc K cl B φ H w y->eqV x y=peq v w:=by
 cases v with
 |non=>
  erw[yc]at r;subst r;refine⟨rfl,λw y hw rw=>?_⟩
  cases w<;>first|(simp[IC.flat]at hw;done)|(erw[yc]at rw;subst rw;rfl)
 |bl b=>
  erw[yc]at r;subst r;refine⟨rfl,λw y hw rw=>?_⟩
  cases w<;>first|(simp[IC.flat]at hw;done)|(erw[yc]at rw;subst rw;rfl)
 |int b=>
  erw[yc]at r;subst r;refine⟨rfl,λw y hw rw=>?_⟩
  cases w<;>first|(simp[IC.flat]at hw;done)|(erw[yc]at rw;subst rw;rfl)
 |str b=>
  erw[yc]at r;subst r;refine⟨rfl,λw y hw rw=>?_⟩
  cases w<;>first|(simp[IC.flat]at hw;done)|(erw[yc]at rw;subst rw;rfl)
 |_=>simp[IC.flat]at h
def zcm{K:AD}{cl:Nat->AG}{v:PV}{x:V}(r:yc K cl B φ H v x)(h:IC.flat v=AC):∀{vs:List PV} {xs:List V},ye K cl B φ H vs xs->vs.all IC.flat=AC->xs.all yaF=AC/\inV x xs=inL v vs
 |[],xs,l,_=>by erw[ye]at l;subst l;exact⟨rfl,rfl⟩
 |w::vs,xs,l,f=>by
  erw[ye]at l;let⟨y,ys,rfl,rw,l⟩:=l;rw[BB,AI]at f;let⟨q1,q2⟩:=zcm r h l f.2;let⟨q3,q4⟩:=rw.flat f.1;refine⟨by rw[BB,q3,q1];rfl,?_⟩;unfold inV at q2 ⊢;rw[BZ,q2,q4 v x h r];rfl
end
def zhk(a b:AM):(!(CC b a 0 b.length 1).isEmpty)=inS a b:=by
 rw[FY,StrLaws.found_iff];unfold inS;rw[Cp];constructor
 .rintro⟨i,h1,h2⟩
  exact⟨i,by rw[DI];lia,by rw[AI,decide_eq_true_eq];exact⟨h1,h2⟩⟩
 .rintro⟨i,_,h⟩
  rw[AI,decide_eq_true_eq]at h;exact⟨i,h.1,h.2⟩
section
variable {S:Se}{X:Cx}{σ:St}{B:AG->Prop}{φ φ1:Ph}{H H1:Hp}{st:SO}
def zj8:OpR X (compareOp .In) (rT2 S X (yG .isin)):=by
 rintro π s σ H x y v u Q I rx ry ⟨B,φ,st,a,b,z,rs,ra,rb,e,q⟩
 erw[yG]at e;split at e
 .rename_i i j;erw[yc]at ra rb;subst ra rb
  cases e
  exact zeq π s σ H _ _ v u Q I rx ry ⟨i,j,rfl,rfl,by rw[zhk];exact q _ H φ .rfl rs (by erw[yc])⟩
 .rename_i l;split at e
  .rename_i c;rw[AI]at c
   cases e
   erw[yc]at rb;let⟨p,xs,rfl,r,l'⟩:=rb;let⟨q1,q2⟩:=zcm ra c.1 l' c.2;exact zbP π s σ H _ _ v u Q I rx ry ⟨p,xs,rfl,.inr r.sq,(ra.flat c.1).1,q1,q _ H φ .rfl rs (by erw[yc];rw[<-q2];rfl)⟩
  .cases e
 .rename_i l;split at e
  .rename_i c;rw[AI]at c
   cases e
   erw[yc]at rb;let⟨p,xs,rfl,r,l'⟩:=rb;let⟨q1,q2⟩:=zcm ra c.1 l' c.2;exact zbP π s σ H _ _ v u Q I rx ry ⟨p,xs,rfl,.inl r.sq,(ra.flat c.1).1,q1,q _ H φ .rfl rs (by erw[yc];rw[<-q2];rfl)⟩
  .cases e
 .cases e
theorem ye.empty{K:AD}{cl:Nat->AG}{vs:List PV}{xs:List V}(l:ye K cl B φ H vs xs):vs.isEmpty=xs.isEmpty:=by
 have:=l.length
 cases vs<;>cases xs<;>simp_all
def zhP{K:AD}{cl:Nat->AG}{v:PV}{x:V}{k:Bool}(rs:yh K cl B φ H st)(r:yc K cl B φ H v x)(h:yas st v=AA k):ydv K x H k:=by
 cases v with
 |non=>erw[yc]at r;subst r;cases h;rfl
 |bl b=>erw[yc]at r;subst r;cases h;rfl
 |int b=>erw[yc]at r;subst r;cases h;rfl
 |str b=>
  erw[yc]at r;subst r;erw[yas]at h;split at h
  .rename_i c
   cases h
   exact⟨by rw[<-zg];exact c,rfl⟩
  .cases h
 |tp k vs=>
  erw[yc]at r;let⟨a,xs,rfl,rt,l⟩:=r
  cases h
  exact .inr (.inl ⟨xs,rt.sq,by rw[l.empty]⟩)
 |lst vs=>
  erw[yc]at r;let⟨a,xs,rfl,rt,l⟩:=r
  cases h
  exact .inl ⟨xs,rt.sq,by rw[l.empty]⟩
 |loc n=>
  erw[yc]at r;let⟨hn,a,rfl,ha⟩:=r;erw[yas]at h;split at h
  .rename_i vs hv
   cases h
   let⟨b,hb⟩:=rs.liv n _ hv (by intro z;cases z);obtain rfl:=ha b hb;let⟨o,ho,ro⟩:=rs.obj n b hb;rw[hv]at ho;cases ho;let⟨xs,hx,l⟩:=ro;exact .inl ⟨xs,.of hx,by rw[l.empty]⟩
  .cases h
 |fnc c=>cases h
 |exn c=>cases h
 |scr c=>cases h
end
theorem R.bind_assoc{α β γ:Type}{r:R α}{k:α->SO->R β}{l:β->SO->R γ}:(r.bind k).bind l=r.bind λa s=>(k a s).bind l:=by
 cases r<;>rfl
section
variable {S:Se}{X:Cx}{σ:St}{B:AG->Prop}{φ φ1:Ph}{H H1:Hp}{st:SO}{ρ:IC.Env}{pos:BX}{a b c d:AL}{ca cb cc:Ce}{es:List AL}{ces:Ces}
def zhU{o:COp}{v w z:PV}(h:yG o v w=AA z):∃k,z=.bl k:=by
 cases o<;>erw[yG]at h
 all_goals (repeat' split at h)<;>first|(cases h;done)|(cases h;exact⟨_,rfl⟩)|skip
 all_goals (erw[ybz]at h;cases h;exact⟨_,rfl⟩)
def ziv{op:GH}{o:COp}(ho:OpR X (compareOp op) (rT2 S X (yG o)))(ha:PE X a (tE S X ca))(hb:PE X b (tE S X cb))(hm:behindInMarks op b=AE):PT X (.Compare a [op] [b] pos) (tTs S X (.cmp o ca cb)):=
 (zch ho ha hb hm).imp λσ H Q ⟨B,φ,st,ρ,rs,re,h⟩=>by
  erw[ev,yax,R.bind_assoc]at h;refine tE.bind rs re h λx H1 v st1 φ1 s1 rs1 re1 rv h1=>tE.bind rs1 re1 h1 λy H2 w st2 φ2 s2 rs2 re2 rw h2=>?_
  cases e:yG o v w with
  |none=>rw[e]at h2;exact h2.elim
  |some z=>
   let⟨k,rfl⟩:=zhU e;rw[e]at h2;refine⟨B,φ2,st2,v,w,.bl k,rs2,rv.step s2,rw,e,λz' H' φ' s' rs' rz=>?_⟩;erw[yc]at rz;exact⟨k,rz,h2 k H' φ' s' rs' rfl⟩
def ziT(ha:PE X a (tE S X ca))(he:∀whole,isTrue a X.env whole=(do let v <-whole;standAt a.pos;holding [v] (truthy v)):=by intro _;rfl):PT X a (tTs S X ca):=
 (zfg ha he).imp λσ H Q ⟨B,φ,st,ρ,rs,re,h⟩=>by
  erw[yax]at h;refine tE.bind rs re h λx H1 v st1 φ1 s1 rs1 re1 rv h1=>?_
  cases e:yas st1 v with
  |none=>rw[e]at h1;exact h1.elim
  |some k=>
   rw[e]at h1;exact⟨k,zhP rs1 rv e,h1.ok rs1 rfl⟩
theorem tTs.bind{γ δ:Type}{Fy:Ph->Hp->γ->δ->Prop}{k:Bool->SO->R γ}{Q:δ->Hp->Prop}{P:Bool->Hp->Prop}(rs:yh X.K S.cl B φ H st)(re:yp X.K S.cl B φ H ρ σ)(h:Run S X σ B φ H Fy ((yax (ev S.call ρ st ca)).bind k) Q)
  (n:∀b H1 st1 φ1,Step φ H φ1 H1->yh X.K S.cl B φ1 H1 st1->yp X.K S.cl B φ1 H1 ρ σ->Run S X σ B φ1 H1 Fy (k b st1) Q->P b H1):tTs S X ca σ H P:=
 ⟨B,φ,st,ρ,rs,re,(Run.bind h).mono λx H1 ⟨v,st1,φ1,s,rs1,rv,h1⟩=>by
  subst rv;exact n v H1 st1 φ1 s rs1 (re.step s) h1⟩
def zcd(r:R PV)(f:Bool->SO->R PV):yax (r.bind λx st1=>onBl x λb=>f b st1)=r.bind λx st1=>onBl x λb=>yax (f b st1):=by
 unfold yax;rw[R.bind_assoc]
 congr 1
 funext x st1
 cases x<;>rfl
theorem Run.bl_tru{r:R PV}{k:Bool->SO->R Bool}{Q:Bool->Hp->Prop}(h:Run S X σ B φ H RB (r.bind λx st1=>onBl x λb=>k b st1) Q):Run S X σ B φ H RB ((yax r).bind k) Q:=by
 cases r with
 |bad=>exact h
 |exc c s=>exact h
 |ok v s=>
  cases v with
  |bl b=>exact h
  |_=>exact h.elim
def ziD(ha:PT X a (tTs S X ca)):PT X (.UnaryOp .Not a pos) (tTs S X (.not ca)):=
 (zja ha).imp λσ H Q ⟨B,φ,st,ρ,rs,re,h⟩=>by
  erw[ev]at h;rw[zcd _ λk st1=>.ok (.bl (!k)) st1]at h;exact tTs.bind rs re (Run.bl_tru (k:=λb st1=>.ok (!b) st1) h) λb H1 st1 φ1 s1 rs1 re1 h1=>h1.ok rs1 rfl
variable {rest:List AL}
def zg8(ha:PT X a (tTs S X ca)):PW X (.BoolOp .And [a] pos) (tTs S X ca):=zh1 ha
def ziO(ha:PT X a (tTs S X ca)):PW X (.BoolOp .Or [a] pos) (tTs S X ca):=ziS ha
def zii(ha:PT X a (tTs S X ca))(hb:PW X (.BoolOp .And (b::rest) pos) (tTs S X cb)):PW X (.BoolOp .And (a::b::rest) pos) (tTs S X (.and ca cb)):=
 (zi8 ha hb).imp λσ H Q ⟨B,φ,st,ρ,rs,re,h⟩=>by
  erw[ev]at h;rw[zcd _ λk st1=>cond k (ev S.call ρ st1 cb) (.ok (.bl AE) st1)]at h;refine tTs.bind rs re (Run.bl_tru h) λk H1 st1 φ1 s1 rs1 re1 h1=>?_
  cases k with
  |false=>exact h1.ok rs1 rfl
  |true=>exact⟨B,φ1,st1,ρ,rs1,re1,h1⟩
def zkm(ha:PT X a (tTs S X ca))(hb:PW X (.BoolOp .Or (b::rest) pos) (tTs S X cb)):PW X (.BoolOp .Or (a::b::rest) pos) (tTs S X (.or ca cb)):=
 (zkn ha hb).imp λσ H Q ⟨B,φ,st,ρ,rs,re,h⟩=>by
  erw[ev]at h;rw[zcd _ λk st1=>cond k (.ok (.bl AC) st1) (ev S.call ρ st1 cb)]at h;refine tTs.bind rs re (Run.bl_tru h) λk H1 st1 φ1 s1 rs1 re1 h1=>?_
  cases k with
  |true=>exact h1.ok rs1 rfl
  |false=>exact⟨B,φ1,st1,ρ,rs1,re1,h1⟩
def zgv{op:GA}(h:PE X a (tE S X ca)):PE X (.BoolOp op [a] pos) (tE S X ca):=zij h
def zgA(ha:PE X a (tE S X ca))(hb:PE X (.BoolOp .And (b::rest) pos) (tE S X cb)):PE X (.BoolOp .And (a::b::rest) pos) (tE S X (.and ca cb)):=
 (zjW ha hb).imp λσ H Q ⟨B,φ,st,ρ,rs,re,h⟩=>by
  erw[ev]at h;refine tE.bind rs re h λx H1 v st1 φ1 s1 rs1 re1 rv h1=>?_
  cases v with
  |bl k=>
   erw[yc]at rv;refine⟨k,rv,?_⟩
   cases k with
   |true=>exact⟨B,φ1,st1,ρ,rs1,re1,h1⟩
   |false=>exact h1.ok rs1 (by erw[yc])
  |_=>exact h1.elim
def zj2(ha:PE X a (tE S X ca))(hb:PE X (.BoolOp .Or (b::rest) pos) (tE S X cb)):PE X (.BoolOp .Or (a::b::rest) pos) (tE S X (.or ca cb)):=
 (zku ha hb).imp λσ H Q ⟨B,φ,st,ρ,rs,re,h⟩=>by
  erw[ev]at h;refine tE.bind rs re h λx H1 v st1 φ1 s1 rs1 re1 rv h1=>?_
  cases v with
  |bl k=>
   erw[yc]at rv;refine⟨k,rv,?_⟩
   cases k with
   |false=>exact⟨B,φ1,st1,ρ,rs1,re1,h1⟩
   |true=>exact h1.ok rs1 (by erw[yc])
  |_=>exact h1.elim
def zjR(ha:PE X a (tE S X ca)):PE X (.UnaryOp .Not a pos) (tE S X (.not ca)):=
 (zjp ha).imp λσ H Q ⟨B,φ,st,ρ,rs,re,h⟩=>by
  erw[ev]at h;refine tE.bind rs re h λx H1 v st1 φ1 s1 rs1 re1 rv h1=>?_
  cases v with
  |bl k=>
   erw[yc]at rv;exact⟨k,rv,h1.ok rs1 (by erw[yc])⟩
  |_=>exact h1.elim
def zi7(hc:PT X c (tTs S X cc))(ha:PE X a (tE S X ca))(hb:PE X b (tE S X cb)):PE X (.IfExp c a b pos) (tE S X (.ite cc ca cb)):=
 (zfI hc ha hb).imp λσ H Q ⟨B,φ,st,ρ,rs,re,h⟩=>by
  erw[ev]at h;have e:((ev S.call ρ st cc).bind λx st1=>onO (yas st1 x) λk=>cond k (ev S.call ρ st1 ca) (ev S.call ρ st1 cb))=(yax (ev S.call ρ st cc)).bind λk st1=>cond k (ev S.call ρ st1 ca) (ev S.call ρ st1 cb):=by
   unfold yax;rw[R.bind_assoc]
   congr 1
   funext x st1
   cases yas st1 x<;>rfl
  rw[e]at h;refine tTs.bind rs re h λk H1 st1 φ1 s1 rs1 re1 h1=>?_
  cases k with
  |true=>exact⟨B,φ1,st1,ρ,rs1,re1,h1⟩
  |false=>exact⟨B,φ1,st1,ρ,rs1,re1,h1⟩
def za1:PA X [] (tAs S X .nil):=zkF.imp λσ H Q ⟨B,φ,st,ρ,rs,re,h⟩=>by
 erw[evs]at h;exact h.ok rs (by erw[ye])
def zS(ha:PE X a (tE S X ca))(hr:PA X es (tAs S X ces))(hs:starEach (a::es) X.env=(AE,eval a X.env)::starEach es X.env:=by rfl):PA X (a::es) (tAs S X (.cons ca ces)):=
 (zV ha hr hs).imp λσ H Q ⟨B,φ,st,ρ,rs,re,h⟩=>by
  erw[evs]at h;refine tE.bind rs re h λx H1 v st1 φ1 s1 rs1 re1 rv h1=>tAs.bind rs1 re1 h1 λxs H2 vs st2 φ2 s2 rs2 re2 rvs h2=>?_;refine h2.ok rs2 ?_;erw[ye];exact⟨x,xs,rfl,rv.step s2,rvs⟩
def zjQ{k:Nat}(h:PA X es (tAs S X ces)):PE X (.Tuple es k pos) (tE S X (.tup ces)):=
 (zin h).imp λσ H Q ⟨B,φ,st,ρ,rs,re,h⟩=>by
  erw[ev]at h;refine tAs.bind rs re h λxs H1 vs st1 φ1 s1 rs1 re1 rv h1=>?_;split at h1
  .rename_i c;refine⟨by rw[<-zg,<-rv.length];exact c,λp hp=>h1 _ _ φ1 (.upd hp) (rs1.upd hp) (.tup_new hp rs1 rv)⟩
  .exact h1.elim
def ziz(h:PA X es (tAs S X ces)):PE X (.List es pos) (tE S X (.lst ces)):=
 (zgM h).imp λσ H Q ⟨B,φ,st,ρ,rs,re,h⟩=>by
  erw[ev]at h;refine tAs.bind rs re h λxs H1 vs st1 φ1 s1 rs1 re1 rv h1=>?_;split at h1
  .rename_i c;refine⟨by rw[<-zg,<-rv.length];exact c,λp hp=>h1 _ _ φ1 (.upd hp) (rs1.upd hp) (.lst_new hp rs1 rv)⟩
  .exact h1.elim
theorem Step.push{p:AG}{o:HO}(hp:H p=AB):Step φ H (φ++[AA p]) (L2.upd H p o):=by
 refine⟨λb u n e=>by rw[za (zd e hp)];exact e,by simp,λn a hn e=>?_,λb h=>?_⟩
 .rw[AO hn]at e;exact e
 .rw[Aw]at h;rcases h with h|h
  .exact .inl h
  .have:b=p:=by simpa using h
   subst this;exact .inr hp
theorem yh.push{K:AD}{cl:Nat->AG}{p:AG}{u:HO}{o:Ob}(rs:yh K cl B φ H st)(hp:H p=AB)(hb:¬B p)(ho:ybE K cl B (φ++[AA p]) (L2.upd H p u) o p):yh K cl B (φ++[AA p]) (L2.upd H p u) (st++[o]):=by
 have s:Step φ H (φ++[AA p]) (L2.upd H p u):=.push hp;have np:AA p∉φ:=λz=>by
  let⟨w,e⟩:=rs.there z;rw[hp]at e;cases e
 have hl:φ.length=st.length:=rs.len;refine⟨by simp[hl],λm n a e1 e2=>?_,λn a e=>?_,λn o' e ho'=>?_,λa h=>?_,λa h=>?_,λa h xs e=>?_⟩
 .by_cases hm:m<φ.length
  .rw[AO hm]at e1
   by_cases hn:n<φ.length
   .rw[AO hn]at e2;exact rs.inj m n a e1 e2
   .rw[A0 ∅]at e2;have:a=p:=by
     cases q:n-φ.length with
     |zero=>rw[q]at e2;simpa using e2.symm
     |succ k=>rw[q]at e2;simp at e2
    subst this;exact absurd (AY e1) np
  .rw[A0 ∅]at e1;have:m-φ.length=0/\a=p:=by
    cases q:m-φ.length with
    |zero=>rw[q]at e1;exact⟨rfl,by simpa using e1.symm⟩
    |succ k=>rw[q]at e1;simp at e1
   let⟨q1,rfl⟩:=this
   by_cases hn:n<φ.length
   .rw[AO hn]at e2;exact absurd (AY e2) np
   .rw[A0 ∅]at e2;have:n-φ.length=0:=by
     cases q:n-φ.length with
     |zero=>rfl
     |succ k=>rw[q]at e2;simp at e2
    lia
 .by_cases hn:n<φ.length
  .rw[AO hn]at e;let⟨o',q,r⟩:=rs.obj n a e;refine⟨o',by rw[AO ∅];exact q,r.step s ?_⟩;rw[za]
   rintro rfl
   exact np (AY e)
  .rw[A0 ∅]at e;have:n-φ.length=0/\a=p:=by
    cases q:n-φ.length with
    |zero=>rw[q]at e;exact⟨rfl,by simpa using e.symm⟩
    |succ k=>rw[q]at e;simp at e
   let⟨q1,rfl⟩:=this;refine⟨o,?_,ho⟩;rw[A0 ∅];have:n-st.length=0:=by lia
   rw[this];rfl
 .by_cases hn:n<φ.length
  .rw[AO ∅]at e;let⟨a,q⟩:=rs.liv n o' e ho';exact⟨a,by rw[AO hn];exact q⟩
  .rw[A0 ∅]at e;have:n-st.length=0:=by
    cases q:n-st.length with
    |zero=>rfl
    |succ k=>rw[q]at e;simp at e
   refine⟨p,?_⟩;rw[A0 ∅];have:n-φ.length=0:=by lia
   rw[this];rfl
 .rw[Aw]at h;rcases h with h|h
  .exact rs.nb a h
  .have:a=p:=by simpa using h
   subst this;exact hb
 .let⟨w,e⟩:=rs.dom a h;exact⟨w,by rw[za (zd e hp)];exact e⟩
 .let⟨w,q⟩:=rs.dom a h;rw[za (zd q hp)]at e;exact rs.nt a h xs e
theorem yh.untup{K:AD}{cl:Nat->AG}{a:AG}{xs:List V}(rs:yh K cl B φ H st)(h:AA a∈φ)(e:H a=AA (.tup xs)):False:=by
 let⟨n,hn⟩:=List.getElem?_of_mem h;let⟨o,q,r⟩:=rs.obj n a hn
 cases o with
 |lst vs=>let⟨ys,hx,l⟩:=r;rw[e]at hx;cases hx
 |dct t kvs=>cases t<;>(let⟨ys,hx,l⟩:=r;rw[e]at hx;cases hx)
 |ins c fs=>let⟨ks,⟨dx,hx⟩,l⟩:=r;rw[e]at hx;cases hx
 |dead=>exact r.elim
theorem yh.nB{K:AD}{cl:Nat->AG}{p:AG}(rs:yh K cl B φ H st)(hp:H p=AB):¬B p:=λz=>by
 let⟨o,e⟩:=rs.dom p z;rw[hp]at e;cases e
theorem yc.loc_new{K:AD}{cl:Nat->AG}{p:AG}(rs:yh K cl B φ H st):yc K cl B (φ++[AA p]) H1 (.loc st.length) (.ref p):=by
 erw[yc];have hl:=rs.len;refine⟨by simp[hl],p,rfl,λb e=>?_⟩;rw[A0 ∅]at e;have:st.length-φ.length=0:=by lia
 rw[this]at e;simpa using e.symm
def zgY(h:PA X es (tAs S X ces)):PE X (.List es pos) (tE S X (.newl ces)):=
 (zgM h).imp λσ H Q ⟨B,φ,st,ρ,rs,re,h⟩=>by
  erw[ev]at h;refine tAs.bind rs re h λxs H1 vs st1 φ1 s1 rs1 re1 rv h1=>?_;split at h1
  .rename_i c;refine⟨by rw[<-zg,<-rv.length];exact c,λp hp=>h1 _ _ (φ1++[AA p]) (.push hp) (rs1.push hp (rs1.nB hp) ⟨xs,zc,rv.step (.push hp)⟩) (.loc_new rs1)⟩
  .exact h1.elim
end
section
variable {S:Se}{X:Cx}{σ:St}{B:AG->Prop}{φ φ1:Ph}{H H1:Hp}{st:SO}{ρ:IC.Env}{pos p2:BX}{a b c d:AL}{ca cb cc:Ce}{es:List AL}{ces:Ces}{K:AD}{cl:Nat->AG}
theorem ye.at{vs:List PV}{xs:List V}{i:Int}{v:PV}(l:ye K cl B φ H vs xs)(h:at? vs i=AA v):∃x,atI xs i=AA x/\yc K cl B φ H v x:=by
 unfold at? at h;rw[l.length]at h;unfold atI
 cases e:ixI xs.length i with
 |none=>rw[e]at h;cases h
 |some j=>
  rw[e]at h;have e':ixN xs.length i=AA j:=e;rw[e'];exact l.get j h
theorem yh.list{n:Nat}{vs:List PV}{x:V}(rs:yh K cl B φ H st)(r:yc K cl B φ H (.loc n) x)(h:st[n]?=AA (.lst vs)):∃a xs,x=.ref a/\φ[n]?=AA (AA a)/\H a=AA (.lst xs)/\ye K cl B φ H vs xs:=by
 erw[yc]at r;let⟨hn,a,rfl,ha⟩:=r;let⟨b,hb⟩:=rs.liv n _ h (by intro z;cases z);obtain rfl:=ha b hb;let⟨o,ho,ro⟩:=rs.obj n b hb;rw[h]at ho;cases ho;let⟨xs,hx,l⟩:=ro;exact⟨b,xs,rfl,hb,hx,l⟩
def rTS(S:Se)(X:Cx)(f:SO->PV->PV->Option PV):R2:=λx y H Q=>∃B φ st v w z,yh X.K S.cl B φ H st/\yc X.K S.cl B φ H v x/\yc X.K S.cl B φ H w y/\f st v w=AA z /\
 ∀z' H' φ',Step φ H φ' H'->yh X.K S.cl B φ' H' st->yc X.K S.cl B φ' H' z z'->Q z' H'
def zau{α:Type}{xs:List α}{i:PV}{z:α}(h:yaU xs i=AA z):∃k,i=.int k/\at? xs k=AA z:=by
 cases i with
 |int k=>exact⟨k,rfl,h⟩
 |_=>cases h
def zhd:IxR X (rTS S X idxV):=by
 rintro value slice π s σ H x y v u Q I rx ry ⟨B,φ,st,a,i,z,rs,ra,ri,e,q⟩ hs
 cases a with
 |tp k vs=>
  let⟨k,rfl,e⟩:=zau e;erw[yc]at ra ri;subst ri;let⟨p,xs,rfl,rt,l⟩:=ra;let⟨w,e1,rw⟩:=l.at e;exact zcK value slice π s σ H _ _ v u Q I rx ry (.inr (.inl ⟨p,xs,k,w,rfl,rfl,rt.sq,e1,q w H φ .rfl rs rw⟩)) hs
 |lst vs=>
  let⟨k,rfl,e⟩:=zau e;erw[yc]at ra ri;subst ri;let⟨p,xs,rfl,rt,l⟩:=ra;let⟨w,e1,rw⟩:=l.at e;exact zcK value slice π s σ H _ _ v u Q I rx ry (.inl ⟨p,xs,k,w,rfl,rfl,rt.sq,e1,q w H φ .rfl rs rw⟩) hs
 |loc n=>
  erw[idxV]at e;split at e
  .rename_i vs h1;let⟨k,rfl,e⟩:=zau e;erw[yc]at ri;subst ri;let⟨p,xs,rfl,_,hx,l⟩:=rs.list ra h1;let⟨w,e1,rw⟩:=l.at e;exact zcK value slice π s σ H _ _ v u Q I rx ry (.inl ⟨p,xs,k,w,rfl,rfl,.of hx,e1,q w H φ .rfl rs rw⟩) hs
  .cases e
 |str t=>
  erw[idxV]at e;split at e
  .rename_i hl
   cases e1:yaU t.cps.toList i with
   |none=>rw[e1]at e;cases e
   |some c=>
    rw[e1]at e
    cases e
    let⟨k,rfl,e1⟩:=zau e1;erw[yc]at ra ri;subst ra ri;exact zcK value slice π s σ H _ _ v u Q I rx ry (.inr (.inr ⟨t,k,c,rfl,rfl,by rw[<-zg];exact hl,e1,q _ H φ .rfl rs (by erw[yc])⟩)) hs
  .cases e
 |_=>cases e
def ziF(ha:PE X a (tE S X ca))(hb:PE X b (tE S X cb))(hs:yaX b:=by exact λ_ _=>rfl):PE X (.Subscript a b pos) (tE S X (.idx ca cb)):=
 (zka zhd ha hb hs).imp λσ H Q ⟨B,φ,st,ρ,rs,re,h⟩=>by
  erw[ev]at h;refine tE.bind rs re h λx H1 v st1 φ1 s1 rs1 re1 rv h1=>tE.bind rs1 re1 h1 λy H2 w st2 φ2 s2 rs2 re2 rw h2=>?_;let⟨z,e,q⟩:=zC h2 rs2;exact⟨B,φ2,st2,v,w,z,rs2,rv.step s2,rw,e,q⟩
theorem ye.cut{vs:List PV}{xs:List V}(lo hi:Option Int)(l:ye K cl B φ H vs xs):ye K cl B φ H (IC.cut vs lo hi) (yb4 xs lo hi):=by
 have e1:∀n o,yb3 n o=HT.sIx n 0 o:=λn o=>by cases o<;>rfl
 have e2:∀n o,ycj n o=HT.sIx n n o:=λn o=>by cases o<;>rfl
 unfold IC.cut yb4;rw[l.length,e1,e2];exact(l.drop _).take _
def tO(S:Se)(X:Cx)(c:Ce):TO:=λσ H Q=>tE S X c σ H λx H1=>(x=.non/\Q AB H1) \/ ∃i,x=.int i/\Q (AA i) H1
def zhs:PO X AB (tO S X (.cst .non)):=λπ s σ H Q I h=>by
 refine zhZ π s σ H Q I ?_;let⟨B,φ,st,ρ,rs,re,h⟩:=h;erw[ev]at h;rcases h.ok rs (x:=V.non) (by erw[yc])with q|⟨i,z,_⟩
 .exact q.2
 .cases z
def zh8(ha:PE X a (tE S X ca)):PO X (AA a) (tO S X ca):=by
 intro π s σ H Q I hw;rw[evalPart_some];refine thn (ha π s σ H _ I hw) λu s1 kq=>?_;let⟨x,H1,I1,r1,q1⟩:=kq;rcases q1 with⟨rfl,q⟩|⟨i,rfl,q⟩
 .cases r1
  exact⟨AB,H1,I1,.none,q⟩
 .let⟨t,rfl⟩:=r1;exact⟨AA i,H1,I1,.int i t,q⟩
def rSl(S:Se)(X:Cx):V->Option Int->Option Int->Hp->VK->Prop:=λx lo hi H Q=>∃B φ st v z,yh X.K S.cl B φ H st/\yc X.K S.cl B φ H v x/\ybL v lo hi=AA z /\
 ∀z' H' φ',Step φ H φ' H'->yh X.K S.cl B φ' H' st->yc X.K S.cl B φ' H' z z'->Q z' H'
def zU{prog:A1}{w:Ab}{A:A5}{E:AF->AH->Prop}{s:AH}{t sl:AG}{items:Array AF}{vl vu:AF}{lo hi:Option Int}{Q:AF->AH->Prop}(ht:IsTup s.heap t items)(hs:s.heap.IsSliceOf sl vl vu .none)(pl:Dq vl lo)(pu:Dq vu hi)
  (hw:HT.sIx items.size 0 lo=0/\HT.sIx items.size items.size hi=items.size)
  (h:Q (.ref t) s):A2 (model prog w) A (getItem (.ref t) (.ref sl)) Q E s:=by
 let⟨os,hos,hcs,hds⟩:=id hs;have hTs:s.TypeIs (.ref sl) "slice":=⟨os,hos,hcs⟩;unfold getItem
 try with_reducible refine Bu ?_
 first|refine AJ (AQ ?_)|skip
 refine AJ (Es ht.typeIs ⋯ ?_);refine AJ (CD (name:=A4 "__getitem__") ht.typeIs Ar
  (Co Ar ht.typeIs EZ ?_ (Ed _ _)))
 show A2 _ _ (CQ (.ref t) >>= _) _ _ s;refine AJ (EW ht ?_);refine AJ (Et hTs ?_);rw[if_pos ⋯];refine AJ (HT.sliceApplied_gen hs pl pu ?_);have hyes:(((HT.sIx items.size 0 lo:Nat):Int)==0&&(1:Int)==1&&(HT.sIx items.size items.size hi-HT.sIx items.size 0 lo)==items.size)=true:=by
  rw[hw.1,hw.2];simp
 show A2 _ _ (if (((HT.sIx items.size 0 lo:Nat):Int)==0&&(1:Int)==1&&(HT.sIx items.size items.size hi-HT.sIx items.size 0 lo)==items.size)=AC then _ else _) _ _ s;rw[if_pos hyes];refine AJ (AJ (Et ht.typeIs (AQ ?_)));rw[if_pos ⋯]
 first
  |exact AJ (AQ (AQ ⟨_,rfl,AQ h⟩))
  |exact AJ (Dm (AQ ⟨_,rfl,AQ h⟩))
  |(wp_step;wp_step;exact⟨_,rfl,AQ h⟩)
def yfL(K:AD):V->Option Int->Option Int->Hp->VK->Prop:=λx lo hi H Q=>∃a xs,x=.ref a/\SqT K H a xs /\
 (HT.sIx xs.length 0 lo=0/\HT.sIx xs.length xs.length hi=xs.length)/\Q (.ref a) H
def zf7:SlR X (yfL X.K):=by
 intro π s σ H x v vl vu lo hi sl Q I rx hs pl pu h;let⟨a,xs,rfl,hx,hw,q⟩:=h
 cases rx
 let⟨its,r,ht,hz⟩:=I.tuple hx;have hlen:its.toArray.size=xs.length:=by rw[AV];exact r.length.symm
 refine⟨"tuple",_,Ar.lookup,ht.typeIs,?_⟩;exact zU ht hs pl pu (by rw[hlen];exact hw) ⟨.ref a,H,I,rfl,q⟩
def ygy:V->Option Int->Option Int->Hp->VK->Prop:=λx lo hi H Q=>∃y:AM,x=.str y/\y.length<=sizeLine/\Q (.str ⟨((y.cps.toList.drop (HT.sIx y.cps.toList.length 0 lo)).take (HT.sIx y.cps.toList.length y.cps.toList.length hi-HT.sIx y.cps.toList.length 0 lo)).toArray⟩) H
def zlb(lo hi:Option Int)(n:Nat):DE lo hi 1 n=sliceRange ((HT.sIx n 0 lo:Nat):Int) ((HT.sIx n n hi:Nat):Int) 1:=by
 unfold DE;erw[show (1:Int) > 0 by decide,if_true]
 congr 1
 .cases lo with
  |none=>simp[HT.sIx]
  |some i=>
   erw[HT.sIx]
   by_cases h:i<0
   .simp only[h,if_true]<;>lia
   .simp only[h,if_false]<;>lia
 .cases hi with
  |none=>simp[HT.sIx]
  |some i=>
   erw[HT.sIx]
   by_cases h:i<0
   .simp only[h,if_true]<;>lia
   .simp only[h,if_false]<;>lia
def zdu(y:AM)(lo hi:Option Int):Txt.slice y lo hi=⟨((y.cps.toList.drop (HT.sIx y.cps.toList.length 0 lo)).take (HT.sIx y.cps.toList.length y.cps.toList.length hi-HT.sIx y.cps.toList.length 0 lo)).toArray⟩:=by
 have hn:y.length=y.cps.toList.length:=by simp[Str.length]
 unfold Txt.slice;rw[zlb,hn,sliceRange_one];have ha:=HT.sIx_le y.cps.toList.length 0 (BO _) lo;have hb:=HT.sIx_le y.cps.toList.length y.cps.toList.length (AN _) hi;generalize HT.sIx y.cps.toList.length 0 lo=a,HT.sIx y.cps.toList.length y.cps.toList.length hi=b at *;split
 .rename_i c;erw[Ak,List.length_range,AI,beq_iff_eq]at c;obtain⟨rfl,rfl⟩:a=0/\b=y.cps.toList.length:=by lia
  rw[List.drop_zero,Nat.sub_zero,FR]
 .rw[pick_run]
def zhX:SlR X ygy:=by
 intro π s σ H x v vl vu lo hi sl Q I rx hs pl pu h;let⟨y,rfl,hz,q⟩:=h;let⟨t,rfl⟩:=rx;rw[<-zdu]at q;refine⟨"str",_,PySem.F.slot_str_getitem.lookup,DR _ _ _,?_⟩;have go:∀l u:Option (Int×GP),vl=partValue l->vu=partValue u->lo=l.map (·.1)->hi=u.map (·.1)->A2 (model X.prog X.w) X.A (getItem (.str y t) (.ref sl)) (EP X π σ Q) X.xe s:=by
  rintro l u rfl rfl rfl rfl
  refine wpAny_getItem_str_slice (l:=l) (u:=u) (st:=AB) hs rfl ?_;exact post_val_or_str ⟨Az (Txt.slice_le y _ _) hz,λt' k=>⟨.str _,H,I.tok k,⟨_,rfl⟩,q⟩⟩
 cases pl with
 |none=>
  cases pu with
  |none=>exact go AB AB rfl rfl rfl rfl
  |int j u=>exact go AB (AA (j,u)) rfl rfl rfl rfl
 |int i t1=>
  cases pu with
  |none=>exact go (AA (i,t1)) AB rfl rfl rfl rfl
  |int j u=>exact go (AA (i,t1)) (AA (j,u)) rfl rfl rfl rfl
def zhS:SlR X (rSl S X):=by
 rintro π s σ H x v vl vu lo hi sl Q I rx hs pl pu ⟨B,φ,st,w,z,rs,rw,e,q⟩
 have e1:∀n o,yb3 n o=HT.sIx n 0 o:=λn o=>by cases o<;>rfl
 have e2:∀n o,ycj n o=HT.sIx n n o:=λn o=>by cases o<;>rfl
 cases w with
 |tp k vs=>
  erw[ybL]at e;split at e
  .rename_i c
   cases e
   have rw':=rw;erw[yc]at rw;let⟨p,xs,rfl,rt,l⟩:=rw;refine zf7 π s σ H _ v vl vu lo hi sl Q I rx hs pl pu ⟨p,xs,rfl,rt.sq,?_,q _ H φ .rfl rs rw'⟩;rw[l.length,e1,e2]at c;exact c
  .rename_i c
   cases e
   erw[yc]at rw;let⟨p,xs,rfl,rt,l⟩:=rw;refine zjT π s σ H _ v vl vu lo hi sl Q I rx hs pl pu ⟨p,xs,rfl,rt.sq,?_,λt ht=>q _ _ φ (.upd ht) (rs.upd ht) (.tup_new ht rs (l.cut lo hi))⟩;rw[l.length,e1,e2]at c;exact c
 |str y=>
  erw[ybL]at e;split at e
  .rename_i c
   cases e
   erw[yc]at rw;subst rw;refine zhX π s σ H _ v vl vu lo hi sl Q I rx hs pl pu ⟨y,rfl,by rw[<-zg];exact c,?_⟩;have:=q (.str ⟨(cut y.cps.toList lo hi).toArray⟩) H φ .rfl rs (by erw[yc]);rw[cut,e1,e2]at this;exact this
  .cases e
 |lst vs=>
  erw[ybL]at e
  cases e
  erw[yc]at rw;let⟨p,xs,rfl,rt,l⟩:=rw;exact zec π s σ H _ v vl vu lo hi sl Q I rx hs pl pu ⟨p,xs,rfl,rt.sq,λt ht=>q _ _ φ (.upd ht) (rs.upd ht) (.lst_new ht rs (l.cut lo hi))⟩
 |scr vs=>
  erw[ybL]at e
  cases e
  erw[yc]at rw;let⟨p,xs,rfl,rt,l⟩:=rw;exact zec π s σ H _ v vl vu lo hi sl Q I rx hs pl pu ⟨p,xs,rfl,(by rcases rt with rt|rt;exact .inl rt.1;exact .inr rt),λt ht=>q _ _ φ (.upd ht) (rs.upd ht) (.lst_new ht rs (l.cut lo hi))⟩
 |_=>cases e
def zjo{lo hi:Option AL}(ha:PE X a (tE S X ca))(hl:PO X lo (tO S X cb))(hh:PO X hi (tO S X cc)):PE X (.Subscript a (.Slice lo hi AB p2) pos) (tE S X (.slc ca cb cc)):=
 (zfZ zhS ha hl hh).imp λσ H Q ⟨B,φ,st,ρ,rs,re,h⟩=>by
  erw[ev]at h;have oi:∀{v:PV} {x:V} {o:Option Int} {B φ H},yc X.K S.cl B φ H v x->ybm v=AA o->(x=.non/\o=AB) \/ ∃i,x=.int i/\o=AA i:=λ{v x o B φ H} r e=>by
   cases v with
   |non=>erw[yc]at r;cases e;exact .inl ⟨r,rfl⟩
   |int i=>erw[yc]at r;cases e;exact .inr ⟨i,r,rfl⟩
   |_=>cases e
  refine tE.bind rs re h λx H1 v st1 φ1 s1 rs1 re1 rv h1=>tE.bind rs1 re1 h1 λy H2 w st2 φ2 s2 rs2 re2 rw h2=>?_
  cases eo:ybm w with
  |none=>rw[eo]at h2;exact h2.elim
  |some o1=>
   rw[eo]at h2;have key:tO S X cc σ H2 λu H3=>rSl S X x o1 u H3 Q:=by
    refine tE.bind rs2 re2 h2 λy' H3 w' st3 φ3 s3 rs3 re3 rw' h3=>?_;let⟨z,e,q⟩:=zC h3 rs3;unfold ybT at e
    cases eo':ybm w' with
    |none=>rw[eo']at e;cases e
    |some o2=>
     rw[eo']at e;have fin:rSl S X x o1 o2 H3 Q:=⟨B,φ3,st3,v,z,rs3,(rv.step s2).step s3,e,q⟩;rcases oi rw' eo' with⟨rfl,rfl⟩|⟨i,rfl,rfl⟩
     .exact .inl ⟨rfl,fin⟩
     .exact .inr ⟨i,rfl,fin⟩
   rcases oi rw eo with⟨rfl,rfl⟩|⟨i,rfl,rfl⟩
   .exact .inl ⟨rfl,key⟩
   .exact .inr ⟨i,rfl,key⟩
end
section
variable {S:Se}{X:Cx}{σ:St}{B:AG->Prop}{φ φ1:Ph}{H H1:Hp}{st:SO}{ρ:IC.Env}{p pos p2:BX}{a b c d:AL}{ca cb cc:Ce}{es:List AL}{ces:Ces}{K:AD}{cl:Nat->AG}
def rB(S:Se)(X:Cx)(k:Blt):List V->Hp->VK->Prop:=λxs H Q=>∃B φ st vs z,yh X.K S.cl B φ H st/\ye X.K S.cl B φ H vs xs/\yag k st vs=AA z /\
 ∀z' H' φ',Step φ H φ' H'->yh X.K S.cl B φ' H' st->yc X.K S.cl B φ' H' z z'->Q z' H'
theorem ye.one{v:PV}{xs:List V}(l:ye K cl B φ H [v] xs):∃x,xs=[x]/\yc K cl B φ H v x:=by
 erw[ye]at l;let⟨y,ys,rfl,r,rfl⟩:=l;exact⟨y,rfl,r⟩
theorem ye.two{v w:PV}{xs:List V}(l:ye K cl B φ H [v,w] xs):∃x y,xs=[x,y]/\yc K cl B φ H v x/\yc K cl B φ H w y:=by
 erw[ye]at l;let⟨y,ys,rfl,r,z,zs,rfl,r2,rfl⟩:=l;exact⟨y,z,rfl,r,r2⟩
def zae{k:Blt}{st:SO}{vs:List PV}{z:PV}(h:yag k st vs=AA z)(h2:∀x y,yag k st [x,y]=AB):∃x,vs=[x]:=by
 match vs,h with
 |[x],_=>exact⟨x,rfl⟩
 |[x,y],h=>rw[h2]at h;cases h
def zai{v:PV}{x:V}{vs:List PV}(rs:yh K cl B φ H st)(r:yc K cl B φ H v x)(h:yD st v=AA vs):∃a xs,x=.ref a/\SqL K H a xs/\ye K cl B φ H vs xs:=by
 cases v with
 |lst ws=>
  cases h
  erw[yc]at r;let⟨a,xs,rfl,rt,l⟩:=r;exact⟨a,xs,rfl,rt.sq,l⟩
 |loc n=>
  erw[yD]at h;split at h
  .rename_i ws hw
   cases h
   let⟨a,xs,rfl,_,hx,l⟩:=rs.list r hw;exact⟨a,xs,rfl,.of hx,l⟩
  .cases h
 |_=>cases h
def zcV{v:PV}{x:V}{vs:List PV}(rs:yh K cl B φ H st)(r:yc K cl B φ H v x)(h:yac st v=AA vs):∃a xs,x=.ref a/\(SqL K H a xs \/ SqT K H a xs)/\ye K cl B φ H vs xs:=by
 cases v with
 |tp k ws=>
  cases h
  erw[yc]at r;let⟨a,xs,rfl,rt,l⟩:=r;exact⟨a,xs,rfl,.inr rt.sq,l⟩
 |lst ws=>
  let⟨a,xs,e,q,l⟩:=zai rs r (vs:=vs) h;exact⟨a,xs,e,.inl q,l⟩
 |loc n=>
  let⟨a,xs,e,q,l⟩:=zai rs r (vs:=vs) h;exact⟨a,xs,e,.inl q,l⟩
 |_=>cases h
def ziq:yab X (.builtin "len") (rB S X .len):=by
 rintro π s σ H xs us Q I r ⟨B,φ,st,vs,z,rs,l,e,q⟩
 let⟨v,rfl⟩:=zae e λ_ _=>rfl;let⟨x,rfl,rv⟩:=l.one;erw[yag,lenV]at e;split at e
 .rename_i t;split at e
  .rename_i c
   cases e
   erw[yc]at rv;subst rv;exact zbx π s σ H _ us Q I r ⟨t,rfl,by rw[<-zg];exact c,q _ H φ .rfl rs (by erw[yc])⟩
  .cases e
 .cases e1:yac st v with
  |none=>rw[e1]at e;cases e
  |some ws=>
   rw[e1]at e
   cases e
   let⟨a,ys,rfl,h,l⟩:=zcV rs rv e1;refine zbs π s σ H _ us Q I r ⟨a,ys,rfl,?_,q _ H φ .rfl rs (by erw[yc];rw[l.length])⟩;exact h
def zie:yab X (.type "int") (rB S X .int):=by
 rintro π s σ H xs us Q I r ⟨B,φ,st,vs,z,rs,l,e,q⟩
 let⟨v,rfl⟩:=zae e λ_ _=>rfl;let⟨x,rfl,rv⟩:=l.one;erw[yag]at e
 cases v with
 |int i=>
  cases e
  erw[yc]at rv;subst rv;exact zbA π s σ H _ us Q I r (.inl ⟨i,rfl,q _ H φ .rfl rs (by erw[yc])⟩)
 |bl k=>
  cases e
  erw[yc]at rv;subst rv;exact zbA π s σ H _ us Q I r (.inr ⟨k,rfl,q _ H φ .rfl rs (by erw[yc,bi])⟩)
 |_=>cases e
theorem ye.ints:∀{ns:List Int} {xs:List V},ye K cl B φ H (ns.map .int) xs->xs=ns.map V.int
 |[],xs,h=>by simpa only[B0,ye] using h
 |n::ns,xs,h=>by
  erw[AR,ye]at h;let⟨y,ys,rfl,r,l⟩:=h;erw[yc]at r;rw[r,ye.ints l];rfl
theorem ye.bls:∀{ns:List Bool} {xs:List V},ye K cl B φ H (ns.map .bl) xs->xs=ns.map V.bl
 |[],xs,h=>by simpa only[B0,ye] using h
 |n::ns,xs,h=>by
  erw[AR,ye]at h;let⟨y,ys,rfl,r,l⟩:=h;erw[yc]at r;rw[r,ye.bls l];rfl
def zfW:yab X (.type "tuple") (rB S X .tuple):=by
 rintro π s σ H xs us Q I r ⟨B,φ,st,vs,z,rs,l,e,q⟩
 let⟨v,rfl⟩:=zae e λ_ _=>rfl;let⟨x,rfl,rv⟩:=l.one;erw[yag,yeP]at e;split at e
 .cases e
  erw[yc]at rv;let⟨a,ys,rfl,rt,l⟩:=rv;exact zaa π s σ H _ us Q I r ⟨a,ys,rfl,.inr ⟨rt.sq,q _ H φ .rfl rs (by erw[yc];exact⟨a,ys,rfl,rt,l⟩)⟩⟩
 .cases e1:yD st v with
  |none=>rw[e1]at e;cases e
  |some ws=>
   rw[e1]at e
   cases e
   let⟨a,ys,rfl,h,l⟩:=zai rs rv e1;exact zaa π s σ H _ us Q I r ⟨a,ys,rfl,.inl ⟨h,λt ht=>q _ _ φ (.upd ht) (rs.upd ht) (.tup_new ht rs l)⟩⟩
def zhj:yab X (.type "list") (rB S X .list):=by
 rintro π s σ H xs us Q I r ⟨B,φ,st,vs,z,rs,l,e,q⟩
 let⟨v,rfl⟩:=zae e λ_ _=>rfl;let⟨x,rfl,rv⟩:=l.one;erw[yag]at e
 cases e1:yac st v with
 |none=>rw[e1]at e;cases e
 |some ws=>
  rw[e1]at e
  cases e
  let⟨a,ys,rfl,h,l⟩:=zcV rs rv e1;refine zaj π s σ H _ us Q I r ⟨a,ys,rfl,?_,λt ht=>q _ _ φ (.upd ht) (rs.upd ht) (.lst_new ht rs l)⟩;exact h
def zgC:∀{vs:List PV} {m:Bool},IC.allB vs=AA m->∃ns:List Bool,vs=ns.map .bl/\m=ns.all id
 |[],m,h=>by cases h;exact⟨[],rfl,rfl⟩
 |.bl i::r,m,h=>by
  erw[IC.allB]at h;split at h
  .rename_i c e
   cases h
   let⟨ns,e1,e2⟩:=zgC e;exact⟨i::ns,by rw[e1];rfl,by rw[e2];rfl⟩
  .cases h
 |.non::r,m,h=>by cases h
 |.int _::r,m,h=>by cases h
 |.str _::r,m,h=>by cases h
 |.tp _ _::r,m,h=>by cases h
 |.lst _::r,m,h=>by cases h
 |.loc _::r,m,h=>by cases h
 |.fnc _::r,m,h=>by cases h
 |.exn _::r,m,h=>by cases h
 |.scr _::r,m,h=>by cases h
def ziB(hc:X.calm=AC):yab X (.builtin "all") (rB S X .all):=by
 rintro π s σ H xs us Q I r ⟨B,φ,st,vs,z,rs,l,e,q⟩
 let⟨v,rfl⟩:=zae e λ_ _=>rfl;let⟨x,rfl,rv⟩:=l.one;erw[yag]at e
 cases e1:yD st v with
 |none=>rw[e1]at e;cases e
 |some ws=>
  rw[e1]at e;erw[Be]at e
  cases e2:IC.allB ws with
  |none=>rw[e2]at e;cases e
  |some m=>
   rw[e2]at e
   cases e
   let⟨ns,rfl,rfl⟩:=zgC e2;let⟨a,ys,rfl,h,l⟩:=zai rs rv e1;rw[l.bls]at h;exact zfH hc π s σ H _ us Q I r ⟨a,ns,rfl,h,q _ H φ .rfl rs (by erw[yc])⟩
variable {x:AM}{id T:String}{k:Blt}
def zjJ(hc:yab X (.builtin id) (rB S X k))(hg:Gl X x)(hm:X.mg x=AB)(hv:bootBuiltins x=AA (.builtin id))(ha:PA X (a::es) (tAs S X ces))(hn:x ≠ "__name__":=by decide)(hdb:(x==("__debug__":AM))=false:=by decide)
  (he:starEach (a::es) X.env=(AE,eval a X.env)::starEach es X.env:=by rfl) (hpl:(backTo pos (starEach es X.env)).any (·.1)=false:=by rfl):PE X (.Call (.Name x p) (a::es) [] pos) (tE S X (.blt k ces)):=
 (zcT hc hg hm hv ha hn hdb he hpl).imp λσ H Q ⟨B,φ,st,ρ,rs,re,h⟩=>by
  erw[ev]at h;refine tAs.bind rs re h λxs H1 vs st1 φ1 s1 rs1 re1 rv h1=>?_;let⟨z,e,q⟩:=zC h1 rs1;exact⟨B,φ1,st1,vs,z,rs1,rv,e,q⟩
def zh9(hc:yab X (.type T) (rB S X k))(hg:Gl X x)(hm:X.mg x=AB)(hv:bootBuiltins x=AA (.type T))(ha:PA X (a::es) (tAs S X ces))(hn:x ≠ "__name__":=by decide)(hdb:(x==("__debug__":AM))=false:=by decide)
  (he:starEach (a::es) X.env=(AE,eval a X.env)::starEach es X.env:=by rfl) (hpl:(backTo pos (starEach es X.env)).any (·.1)=false:=by rfl):PE X (.Call (.Name x p) (a::es) [] pos) (tE S X (.blt k ces)):=
 (zbH hc hg hm hv ha hn hdb he hpl).imp λσ H Q ⟨B,φ,st,ρ,rs,re,h⟩=>by
  erw[ev]at h;refine tAs.bind rs re h λxs H1 vs st1 φ1 s1 rs1 re1 rv h1=>?_;let⟨z,e,q⟩:=zC h1 rs1;exact⟨B,φ1,st1,vs,z,rs1,rv,e,q⟩
end
section
variable {S:Se}{X:Cx}{σ:St}{B:AG->Prop}{φ φ1:Ph}{H H1:Hp}{st:SO}{ρ:IC.Env}{p pos p2 apos:BX}{a b c d:AL}{ca cb cc:Ce}{es:List AL}{ces:Ces}{K:AD}{cl:Nat->AG}
theorem Step.put{l:AG}{u:HO}(hl:AA l∈φ):Step φ H φ (L2.upd H l u):=
 ⟨λb o n e=>by rw[za (show b≠l from λz=>n (by rw[z];exact hl))];exact e,AN _,λ_ _ _ e=>e,λ_ h=>.inl h⟩
theorem yh.put{n:Nat}{l:AG}{u:HO}{o:Ob}(rs:yh K cl B φ H st)(hn:φ[n]?=AA (AA l))(ho:ybE K cl B φ (L2.upd H l u) o l):yh K cl B φ (L2.upd H l u) (st.set n o):=by
 have hm:AA l∈φ:=AY hn;have s:Step φ H φ (L2.upd H l u):=.put hm;have hlt:n<st.length:=by rw[<-rs.len];exact(Ae.mp hn).1
 refine⟨by rw[BF];exact rs.len,rs.inj,λm a e=>?_,λm o' e ho'=>?_,rs.nb,λa h=>?_,λa h xs e=>?_⟩
 .by_cases hmn:m=n
  .subst hmn;rw[hn]at e;cases e;exact⟨o,by rw[Aa hlt],ho⟩
  .let⟨o',q,r⟩:=rs.obj m a e;refine⟨o',by rw[A3 (BI hmn)];exact q,r.step s ?_⟩;rw[za]
   rintro rfl
   exact hmn (rs.inj m n a e hn)
 .by_cases hmn:m=n
  .subst hmn;exact⟨l,hn⟩
  .rw[A3 (BI hmn)]at e;exact rs.liv m o' e ho'
 .let⟨w,e⟩:=rs.dom a h
  by_cases z:a=l
  .subst z;exact⟨u,zc⟩
  .exact⟨w,by rw[za z];exact e⟩
 .have z:a≠l:=λz=>rs.nb l hm (z ▸ h);rw[za z]at e;exact rs.nt a h xs e
def zkQ:1000000<=sizeLine:=by rw[Bc];decide
def zbj{m:Mth}{v:PV}{st:SO}{α β:Type}{Rel:Ph->Hp->α->β->Prop}{k:Bool->R α}{Q:β->Hp->Prop}(h:Run S X σ B φ H Rel (onO (yaA m st v) k) Q):∃b,yaA m st v=AA b/\Run S X σ B φ H Rel (k b) Q:=by
 cases e:yaA m st v with
 |none=>rw[e]at h;exact h.elim
 |some z=>rw[e]at h;exact⟨z,rfl,h⟩
def zeX(ha:PE X a (tE S X ca))(hb:PE X b (tE S X cb))(hs:starEach [b] X.env=[(AE,eval b X.env)]:=by rfl)(hbase:attributeBase a "append" X.env (eval a X.env)=eval a X.env:=by rfl)(hline:(apos.endLine==pos.line)=true:=by rfl)
  (hfew:((backTo pos (starEach [b] X.env)).all (λx=>!x.1)&&(backToKw pos (keywordEach [] X.env)).all (λx=>x.1.isSome)&&decide (([b]:List AL).length+([]:List Bt).length+(if ([]:List Bt).isEmpty then 0 else 1)<30))=true:=by rfl):
  PE X (.Call (.Attribute a "append" apos) [b] [] pos) (tE S X (.mth .append ca (.cons cb .nil))):=
 (zgT Ca EH PySem.F.type_list_append zaL ha (zS (S:=S) hb za1 hs) hbase hfew hline hs rfl).imp λσ H Q ⟨B,φ,st,ρ,rs,re,h⟩=>by
  erw[ev]at h;refine tE.bind rs re h λx H1 v st1 φ1 s1 rs1 re1 rv h1=>?_;let⟨_,e1,h1⟩:=zbj h1;have t1:∃ws,yD st1 v=AA ws:=by
   erw[yaA]at e1
   cases q:yD st1 v with
   |none=>rw[q]at e1;cases e1
   |some ws=>exact⟨ws,rfl⟩
  let⟨ws,t1⟩:=t1;let⟨l,xs,rfl,hl,_⟩:=zai rs1 rv t1;refine⟨.inl ⟨rfl,xs,hl⟩,tAs.bind rs1 re1 h1 λys H2 vs st2 φ2 s2 rs2 re2 rvs h2=>?_⟩;have rv2:=rv.step s2;rcases vs with _|⟨w,_|⟨w',t⟩⟩
  .exact h2.elim
  .let⟨y,rfl,rw⟩:=rvs.one;unfold ybC at h2;erw[yeA]at h2;split at h2
   .rename_i n;split at h2
    .rename_i zs hz;split at h2
     .rename_i c;let⟨l',xs',e,hn,hx,lr⟩:=rs2.list rv2 hz
      cases e
      refine⟨l,xs',y,rfl,rfl,hx,by have:=zkQ;have:=lr.length;lia,?_⟩;exact h2 _ _ φ2 (.put (AY hn)) (rs2.put hn ⟨_,zc,(lr.append (by erw[ye];exact⟨y,[],rfl,rw,rfl⟩)).step (.put (AY hn))⟩) (by erw[yc])
     .exact h2.elim
    .exact h2.elim
   .exact h2.elim
  .exact h2.elim
def ze1(ha:PE X a (tE S X ca))(hb:PE X b (tE S X cb))(hs:starEach [b] X.env=[(AE,eval b X.env)]:=by rfl)(hbase:attributeBase a "extend" X.env (eval a X.env)=eval a X.env:=by rfl)(hline:(apos.endLine==pos.line)=true:=by rfl)
  (hfew:((backTo pos (starEach [b] X.env)).all (λx=>!x.1)&&(backToKw pos (keywordEach [] X.env)).all (λx=>x.1.isSome)&&decide (([b]:List AL).length+([]:List Bt).length+(if ([]:List Bt).isEmpty then 0 else 1)<30))=true:=by rfl):
  PE X (.Call (.Attribute a "extend" apos) [b] [] pos) (tE S X (.mth .extend ca (.cons cb .nil))):=
 (zgT Ca EI PySem.F.type_list_extend zeJ ha (zS (S:=S) hb za1 hs) hbase hfew hline hs rfl).imp λσ H Q ⟨B,φ,st,ρ,rs,re,h⟩=>by
  erw[ev]at h;refine tE.bind rs re h λx H1 v st1 φ1 s1 rs1 re1 rv h1=>?_;let⟨_,e1,h1⟩:=zbj h1;have t1:∃ws,yD st1 v=AA ws:=by
   erw[yaA]at e1
   cases q:yD st1 v with
   |none=>rw[q]at e1;cases e1
   |some ws=>exact⟨ws,rfl⟩
  let⟨ws,t1⟩:=t1;let⟨l,xs,rfl,hl,_⟩:=zai rs1 rv t1;refine⟨.inl ⟨rfl,xs,hl⟩,tAs.bind rs1 re1 h1 λys H2 vs st2 φ2 s2 rs2 re2 rvs h2=>?_⟩;have rv2:=rv.step s2;rcases vs with _|⟨w,_|⟨w',t⟩⟩
  .exact h2.elim
  .let⟨y,rfl,rw⟩:=rvs.one;unfold ybC at h2;erw[ydC]at h2;split at h2
   .rename_i n;split at h2
    .rename_i zs hz;split at h2
     .rename_i ks;split at h2
      .rename_i c;let⟨l',xs',e,hn,hx,lr⟩:=rs2.list rv2 hz
       cases e
       erw[yc]at rw;let⟨b',ys',rfl,rl,lr2⟩:=rw;refine⟨l,b',xs',ys',rfl,rfl,hx,rl.1,by have:=zkQ;have:=lr.length;have:=lr2.length;lia,?_⟩;exact h2 _ _ φ2 (.put (AY hn)) (rs2.put hn ⟨_,zc,(lr.append lr2).step (.put (AY hn))⟩) (by erw[yc])
      .exact h2.elim
     .exact h2.elim
    .exact h2.elim
   .exact h2.elim
  .exact h2.elim
def zjI(ha:PE X a (tE S X ca)):PE X a (tE S X (.frz ca)):=
 ha.imp λσ H Q ⟨B,φ,st,ρ,rs,re,h⟩=>by
  erw[ev]at h;refine tE.bind rs re h λx H1 v st1 φ1 s1 rs1 re1 rv h1=>?_;unfold ycL at h1;split at h1
  .rename_i n;split at h1
   .rename_i vs hv;let⟨l,xs,rfl,hn,hx,lr⟩:=rs1.list rv hv;have hm:AA l∈φ1:=AY hn;have hlt:n<φ1.length:=(Ae.mp hn).1;have nl:AA l∉φ1.set n none:=λz=>by
     let⟨m,e⟩:=Cj.mp z
     by_cases hmn:m=n
     .subst hmn;rw[Aa hlt]at e;cases e
     .rw[A3 (BI hmn)]at e;exact hmn (rs1.inj m n l e hn)
    have sb:∀b,AA b∈φ1.set n AB->AA b∈φ1:=λb z=>by
     let⟨m,e⟩:=Cj.mp z
     by_cases hmn:m=n
     .subst hmn;rw[Aa hlt]at e;cases e
     .rw[A3 (BI hmn)]at e;exact AY e
    have s:Step φ1 H1 (φ1.set n AB) H1:=⟨λ_ _ _ e=>e,by simp,λm a hm' e=>by
     by_cases hmn:m=n
     .subst hmn;rw[Aa hlt]at e;cases e
     .rw[A3 (BI hmn)]at e;exact e,λb z=>.inl (sb b z)⟩
    refine h1 _ H1 (φ1.set n AB) s ⟨by simp[rs1.len],λm k a e1 e2=>?_,λm a e=>?_,λm o e ho=>?_,λa z=>rs1.nb a (sb a z),rs1.dom,rs1.nt⟩ ?_
    .by_cases h1':m=n
     .subst h1';rw[Aa hlt]at e1;cases e1
     .by_cases h2':k=n
      .subst h2';rw[Aa hlt]at e2;cases e2
      .rw[A3 (BI h1')]at e1;rw[A3 (BI h2')]at e2;exact rs1.inj m k a e1 e2
    .by_cases hmn:m=n
     .subst hmn;rw[Aa hlt]at e;cases e
     .rw[A3 (BI hmn)]at e;let⟨o,q,r⟩:=rs1.obj m a e;exact⟨o,by rw[A3 (BI hmn)];exact q,r.step s rfl⟩
    .by_cases hmn:m=n
     .subst hmn;rw[Aa (by rw[<-rs1.len];exact hlt)]at e;cases e;exact absurd rfl ho
     .rw[A3 (BI hmn)]at e ⊢;exact rs1.liv m o e ho
    .simp only[yc];exact⟨l,xs,rfl,⟨hx,rs1.nb l hm,nl⟩,lr.step s⟩
   .exact h1.elim
  .exact h1.ok rs1 rv
end
section
variable (S:Se)(X:Cx)
def yX(B:AG->Prop)(φ:Ph)(H:Hp)(f:Fl)(D:Ends):Prop:=
 match f with
 |.nx ρ' st'=>∀σ' H' φ',Step φ H φ' H'->yh X.K S.cl B φ' H' st'->yp X.K S.cl B φ' H' ρ' σ'->D.nx σ' H'
 |.rt v st'=>∀x H' φ',Step φ H φ' H'->yh X.K S.cl B φ' H' st'->yc X.K S.cl B φ' H' v x->D.rt x H'
 |.bk ρ' st'=>∀σ' H' φ',Step φ H φ' H'->yh X.K S.cl B φ' H' st'->yp X.K S.cl B φ' H' ρ' σ'->D.bk σ' H'
 |.ct ρ' st'=>∀σ' H' φ',Step φ H φ' H'->yh X.K S.cl B φ' H' st'->yp X.K S.cl B φ' H' ρ' σ'->D.ct σ' H'
 |.exc k ρ' st'=>∀σ' φ1 H1 e s',Step φ H φ1 H1->yp X.K S.cl B φ1 H1 ρ' σ'->ExcAt S X σ' B φ1 H1 k st' e s'->X.xe e s'
 |.bad=>False
def tS(c:Cs):TS:=λD σ H=>∃B φ st ρ,yh X.K S.cl B φ H st/\yp X.K S.cl B φ H ρ σ/\yX S X B φ H (ex S.call ρ st c) D
def tSs(c:Css):TS:=λD σ H=>∃B φ st ρ,yh X.K S.cl B φ H st/\yp X.K S.cl B φ H ρ σ/\yX S X B φ H (exs S.call ρ st c) D
end
section
variable {S:Se}{X:Cx}{σ:St}{B:AG->Prop}{φ φ1:Ph}{H H1:Hp}{st:SO}{ρ:IC.Env}{D:Ends}{pos p2 px:BX}{a b c o:AL}{ca cb cc:Ce}{s1:B8}{ss ss':List B8}{c1:Cs}{cs cs':Css}
theorem yX.on{f:Fl}(s:Step φ H φ1 H1)(h:yX S X B φ H f D):yX S X B φ1 H1 f D:=by
 cases f with
 |nx ρ st=>exact λσ' H' φ' t=>h σ' H' φ' (s.trans t)
 |rt ρ st=>exact λσ' H' φ' t=>h σ' H' φ' (s.trans t)
 |bk ρ st=>exact λσ' H' φ' t=>h σ' H' φ' (s.trans t)
 |ct ρ st=>exact λσ' H' φ' t=>h σ' H' φ' (s.trans t)
 |exc k ρ st=>exact λσ' φ2 H2 e s' t=>h σ' φ2 H2 e s' (s.trans t)
 |bad=>exact h
theorem tE.fl{k:PV->SO->Fl}{P:V->Hp->Prop}(rs:yh X.K S.cl B φ H st)(re:yp X.K S.cl B φ H ρ σ)(h:yX S X B φ H ((ev S.call ρ st ca).fl ρ k) D)
  (n:∀x H1 v st1 φ1,Step φ H φ1 H1->yh X.K S.cl B φ1 H1 st1->yp X.K S.cl B φ1 H1 ρ σ->yc X.K S.cl B φ1 H1 v x->yX S X B φ1 H1 (k v st1) D->P x H1):tE S X ca σ H P:=by
 refine⟨B,φ,st,ρ,rs,re,?_⟩
 cases e:ev S.call ρ st ca with
 |ok v st'=>
  rw[e]at h;exact λx H' φ' s rs' rv=>n x H' v st' φ' s rs' (re.step s) rv (h.on s)
 |exc k st'=>
  rw[e]at h;exact λe s' x=>h σ φ H e s' .rfl re x
 |bad=>rw[e]at h;exact h
theorem PS.imp{t t':TS}(h:PS X s1 t')(k:∀D σ H,t D σ H->t' D σ H):PS X s1 t:=λπ s σ H D I q=>h π s σ H D I (k D σ H q)
theorem PSs.imp{t t':TS}(h:PSs X ss t')(k:∀D σ H,t D σ H->t' D σ H):PSs X ss t:=λπ s σ H D I q=>h π s σ H D I (k D σ H q)
theorem yp.set{K:AD}{cl:Nat->AG}(r:yp K cl B φ H ρ σ)(i:Nat){v:PV}{x:V}(rv:yc K cl B φ H v x):yp K cl B φ H (ρ.set i (AA v)) (σ.set i (AA x)):=by
 refine⟨by rw[BF,BF];exact r.len,λj w e=>?_⟩
 by_cases h:j=i
 .subst h
  by_cases hl:j<ρ.length
  .rw[Aa hl]at e
   cases e
   exact⟨x,by rw[Aa (by rw[<-r.len];exact hl)],rv⟩
  .rw[Ap (by rw[BF];lia)]at e
   cases e
 .rw[A3 (BI h)]at e ⊢;exact r.get j w e
def zjd:PSs X [] (tSs S X .nil):=zk0.imp λD σ H ⟨B,φ,st,ρ,rs,re,h⟩=>by
 erw[exs]at h;exact h σ H φ .rfl rs re
def zhe(h1:PS X s1 (tS S X c1))(h2:PSs X ss (tSs S X cs)):PSs X (s1::ss) (tSs S X (.cons c1 cs)):=
 (zcA h1 h2).imp λD σ H ⟨B,φ,st,ρ,rs,re,h⟩=>by
  erw[exs]at h;refine⟨B,φ,st,ρ,rs,re,?_⟩
  cases e:ex S.call ρ st c1 with
  |nx ρ1 st1=>
   rw[e]at h;exact λσ' H' φ' s rs' re'=>⟨B,φ',st1,ρ1,rs',re',h.on s⟩
  |rt v st1=>rw[e]at h;exact h
  |bk ρ1 st1=>rw[e]at h;exact h
  |ct ρ1 st1=>rw[e]at h;exact h
  |exc k ρ1 st1=>rw[e]at h;exact h
  |bad=>rw[e]at h;exact h
def zgS(he:PE X a (tE S X ca))(hs:swapsWith a AB pos.line X.env=pure false:=by rfl):PS X (.Expr a pos) (tS S X (.expr ca)):=
 (zhW he hs).imp λD σ H ⟨B,φ,st,ρ,rs,re,h⟩=>by
  erw[ex]at h;exact tE.fl rs re h λx H1 v st1 φ1 s rs1 re1 rv h1=>h1 σ H1 φ1 .rfl rs1 re1
def zic(he:PE X a (tE S X ca)):PS X (.Return (AA a) pos) (tS S X (.ret ca)):=
 (zgg he).imp λD σ H ⟨B,φ,st,ρ,rs,re,h⟩=>by
  erw[ex]at h;exact tE.fl rs re h λx H1 v st1 φ1 s rs1 re1 rv h1=>h1 x H1 φ1 .rfl rs1 rv
def zgV:PS X (.Return AB pos) (tS S X (.ret (.cst .non))):=
 zk1.imp λD σ H ⟨B,φ,st,ρ,rs,re,h⟩=>by
  erw[ex,ev,R.fl]at h;exact h .non H φ .rfl rs (by erw[yc])
def zjn{i:Nat}{x:AM}(hN:X.N.Nodup)(hi:X.N[i]?=AA x)(hx:Loc X.env.scope x)(he:PE X a (tE S X ca))(hs:swapsWith a (AA (.Name x px)) pos.line X.env=pure false:=by rfl)
  (hf:X.fn x=AC \/ X.env.scope.names.lookup x=AA .local:=by first|exact .inl rfl|exact .inr rfl|assumption):PS X (.Assign [.Name x px] a pos) (tS S X (.asg (.n i) ca)):=
 (zgP hN hi hx he hs hf).imp λD σ H ⟨B,φ,st,ρ,rs,re,h⟩=>by
  erw[ex]at h;exact tE.fl rs re h λx H1 v st1 φ1 s rs1 re1 rv h1=>h1 _ H1 φ1 .rfl rs1 (re1.set i rv)
theorem flT(r:R PV)(f:Bool->SO->Fl):(r.fl ρ λx st1=>onF (yas st1 x) λk=>f k st1)=(yax r).fl ρ f:=by
 cases r with
 |ok v s=>
  erw[R.fl,yax,R.bind]
  cases yas s v<;>rfl
 |exc c s=>rfl
 |bad=>rfl
theorem tTs.fl{k:Bool->SO->Fl}{P:Bool->Hp->Prop}(rs:yh X.K S.cl B φ H st)(re:yp X.K S.cl B φ H ρ σ)(h:yX S X B φ H ((yax (ev S.call ρ st ca)).fl ρ k) D)
  (n:∀b H1 st1 φ1,Step φ H φ1 H1->yh X.K S.cl B φ1 H1 st1->yp X.K S.cl B φ1 H1 ρ σ->yX S X B φ1 H1 (k b st1) D->P b H1):tTs S X ca σ H P:=by
 refine⟨B,φ,st,ρ,rs,re,?_⟩
 cases e:yax (ev S.call ρ st ca)with
 |ok v st'=>
  rw[e]at h;exact λx H' φ' s rs' rv=>by
   subst rv;exact n v H' st' φ' s rs' (re.step s) (h.on s)
 |exc k st'=>
  rw[e]at h;exact λe s' x=>h σ φ H e s' .rfl re x
 |bad=>rw[e]at h;exact h
def zkf(hc:PT X c (tTs S X cc))(ha:PSs X ss (tSs S X cs))(hb:PSs X ss' (tSs S X cs')):PS X (.If c ss ss' pos) (tS S X (.ite cc cs cs')):=
 (zkp hc ha hb).imp λD σ H ⟨B,φ,st,ρ,rs,re,h⟩=>by
  erw[ex]at h;rw[flT _ λk st1=>cond k (exs S.call ρ st1 cs) (exs S.call ρ st1 cs')]at h;refine tTs.fl rs re h λk H1 st1 φ1 s rs1 re1 h1=>?_
  cases k with
  |true=>exact⟨B,φ1,st1,ρ,rs1,re1,h1⟩
  |false=>exact⟨B,φ1,st1,ρ,rs1,re1,h1⟩
def zjg{i:Nat}{x:AM}{op:Db}{bo:BOp}(hN:X.N.Nodup)(hi:X.N[i]?=AA x)(hx:Loc X.env.scope x)(he:PE X a (tE S X ca))(ho:PIp X op (rT2 S X (yba bo)))
  (hf:X.fn x=AC \/ X.env.scope.names.lookup x=AA .local:=by first|exact .inl rfl|exact .inr rfl|assumption) (hd:(x==("__debug__":AM))=false:=by decide) (hcd:(x==("__classdict__":AM))=false:=by decide):PS X (.AugAssign (.Name x px) op a pos) (tS S X (.aug i bo ca)):=
 (zj3 hN hi hx he ho hf).imp λD σ H ⟨B,φ,st,ρ,rs,re,h⟩=>by
  erw[ex]at h
  cases q:ρ[i]? with
  |none=>rw[q]at h;exact h.elim
  |some w=>
   cases w with
   |none=>rw[q]at h;exact h.elim
   |some w=>
    rw[q]at h;let⟨y,hy,rw⟩:=re.get i w q;refine⟨y,hy,tE.fl rs re h λz H1 v st1 φ1 s rs1 re1 rv h1=>?_⟩
    cases e:yba bo w v with
    |none=>rw[e]at h1;exact h1.elim
    |some u=>
     rw[e]at h1;exact⟨B,φ1,st1,w,v,u,rs1,rw.step s,rv,e,λz' H' φ' s' rs' rz=>h1 _ H' φ' s' rs' ((re1.step s').set i rz)⟩
end
section
variable (S:Se)(X:Cx)
structure Drw(B:AG->Prop)(φ0:Ph)(H0:Hp)(xs:List PV)(J:It):Prop where
 stop:∀φ H,Step φ0 H0 φ H->J.stop xs.length H
 go:∀(i:Nat) φ H,Step φ0 H0 φ H->i<xs.length->J.go i H
 yld:∀(i:Nat) φ H st x H' (B':AG->Prop),(∀y,B' y->B y \/ H0 y=AB)->Step φ0 H0 φ H->yh X.K S.cl B' φ H st->i<xs.length->J.yld i H x H'->∃v,xs[i]?=AA v/\yc X.K S.cl B' φ H' v x/\∀b o,H b=AA o->H' b=AA o
abbrev RD(B:AG->Prop):Ph->Hp->List PV->It->Prop:=λφ H=>Drw S X B φ H
def tI(c:Cit):TI:=λσ H R=>∃B φ st ρ,yh X.K S.cl B φ H st/\yp X.K S.cl B φ H ρ σ/\Run S X σ B φ H (RD S X B) (evi S.call ρ st c) R
end
section
variable {S:Se}{X:Cx}{σ:St}{B:AG->Prop}{φ φ1:Ph}{H H1:Hp}{st:SO}{ρ:IC.Env}{D:Ends}{pos p p2 px:BX}{a b c o tg l:AL}{ca cb cc:Ce}{es:List AL}{ces:Ces}{ss:List B8}{cs:Css}{ci:Cit}{ct:Tg}
theorem PI.imp{t t':TI}(h:PI X tg l t')(k:∀σ H R,t σ H R->t' σ H R):PI X tg l t:=λπ s σ H R I q=>h π s σ H R I (k σ H R q)
def ze7{tl:TE}(hl:PE X l tl):PI X tg l (λσ H R=>tl σ H λx H1=>∃a,x=.ref a/\(((∃xs,SqL X.K H1 a xs)/\R (Itl X.K a) H1) \/ ((∃xs,SqT X.K H1 a xs)/\R (Itt X.K a) H1))):=by
 intro π s σ H R I h;refine thn (hl π s σ H _ I h) λv s1 kq=>?_;let⟨x,H1,I1,r1,q1⟩:=kq;let⟨a,e,q1⟩:=q1;subst e
 cases r1
 rcases q1 with⟨⟨xs,hq⟩,q⟩|⟨⟨xs,hq⟩,q⟩
 .let⟨its,rv,p,hz⟩:=I1.list hq;refine FA p.isList ?_;refine⟨s1.heap.objs.size,[s1.heap.objs.size],_,_,H1,rfl,I1.kept (t':=s1.toks) λb o e=>AS _ e,zeh a _,⟨_,A6 _ rfl,rfl,rfl⟩,λb hb=>?_,q⟩;have e:b=s1.heap.objs.size:=by simpa using hb
  subst e;exact I1.fpOk (AN _) (I1.hok.fresh (AN _))
 .let⟨its,rv,p,hz⟩:=I1.tuple hq;refine C5 (show s1.heap.IsTuple a its.toArray from p) ?_;refine⟨s1.heap.objs.size,[s1.heap.objs.size],_,_,H1,rfl,I1.kept (t':=s1.toks) λb o e=>AS _ e,zds a _,⟨_,A6 _ rfl,rfl,rfl⟩,λb hb=>?_,q⟩;have e:b=s1.heap.objs.size:=by simpa using hb
  subst e;exact I1.fpOk (AN _) (I1.hok.fresh (AN _))
def zb8{k:Bool}{vs:List PV}{xs:List V}{y:AG}(rt:ybw X.K B φ H k y xs)(l:ye X.K S.cl B φ H vs xs):Drw S X B φ H vs (Itt X.K y):=by
 have hl:=l.length;refine⟨λφ' H' s=>⟨xs,(rt.step s).sq,by lia⟩,λi φ' H' s hi=>⟨xs,xs[i]'∅,(rt.step s).sq,by simp[show i<xs.length by lia]⟩,λi φ' H' st x H2 B' hB s rs hi q=>?_⟩;let⟨rfl,q⟩:=q;obtain⟨v,hv⟩:∃v,vs[i]?=AA v:=⟨vs[i],by simp[hi]⟩;let⟨x',hx',rv⟩:=l.get i hv;have:=q xs (rt.step s).sq;rw[this]at hx'
 cases hx'
 exact⟨v,hv,(rv.moreB hB).step s,λ_ _ e=>e⟩
def zbY{vs:List PV}{xs:List V}{y:AG}(rt:ybD B φ H y xs)(l:ye X.K S.cl B φ H vs xs):Drw S X B φ H vs (Itl X.K y):=by
 have hl:=l.length;refine⟨λφ' H' s=>⟨xs,(rt.step s).sq,by lia⟩,λi φ' H' s hi=>⟨xs,xs[i]'∅,(rt.step s).sq,by simp[show i<xs.length by lia]⟩,λi φ' H' st x H2 B' hB s rs hi q=>?_⟩;let⟨rfl,q⟩:=q;obtain⟨v,hv⟩:∃v,vs[i]?=AA v:=⟨vs[i],by simp[hi]⟩;let⟨x',hx',rv⟩:=l.get i hv;have:=q xs (rt.step s).sq;rw[this]at hx'
 cases hx'
 exact⟨v,hv,(rv.moreB hB).step s,λ_ _ e=>e⟩
def zjY(hl:PE X l (tE S X ca)):PI X tg l (tI S X (.seq ca)):=
 (ze7 hl).imp λσ H R ⟨B,φ,st,ρ,rs,re,h⟩=>by
  erw[evi]at h;refine tE.bind rs re h λx H1 v st1 φ1 s1 rs1 re1 rv h1=>?_
  cases v with
  |tp k vs=>
   erw[yc]at rv;let⟨y,xs,rfl,rt,l⟩:=rv;exact⟨y,rfl,.inr ⟨⟨xs,rt.sq⟩,h1.ok rs1 (zb8 rt l)⟩⟩
  |lst vs=>
   erw[yc]at rv;let⟨y,xs,rfl,rt,l⟩:=rv;exact⟨y,rfl,.inl ⟨⟨xs,rt.sq⟩,h1.ok rs1 (zbY rt l)⟩⟩
  |_=>exact h1.elim
def zaZ:∀(n:Nat) (lo d:Int) (i:Nat),(yq n lo d)[i]?=if i<n then AA (.int (lo+i*d))else AB
 |0,lo,d,i=>by simp[yq]
 |n+1,lo,d,0=>by simp[yq]
 |n+1,lo,d,i+1=>by
  erw[yq,Ag];rw[zaZ n (lo+d) d i]
  by_cases h:i<n
  .rw[if_pos h,if_pos ∅,Int.natCast_succ,Int.add_mul,Int.one_mul,Int.add_assoc,Int.add_comm d]
  .rw[if_neg h,if_neg ∅]
def zO:∀(n:Nat) (lo d:Int),(yq n lo d).length=n
 |0,lo,d=>rfl
 |n+1,lo,d=>by simp[yq,zO n]
def zbR{lo:Int}{n:Nat}:Drw S X B φ H (yq n lo 1) (Itr lo n):=by
 refine⟨λφ' H' s=>by rw[zO];exact AN _,λi φ' H' s hi=>by rw[zO]at hi;exact hi,λi φ' H' st x H2 B' hB s rs hi q=>?_⟩;rw[zO]at hi;let⟨rfl,rfl⟩:=q;refine⟨.int (lo+i),?_,by erw[yc],λ_ _ e=>e⟩;rw[zaZ,if_pos hi,GG]
def zg6{o:Option (List PV)}{st:SO}{Q:It->Hp->Prop}(h:Run S X σ B φ H (RD S X B) (toL o st) Q):∃xs,o=AA xs/\Run S X σ B φ H (RD S X B) (.ok xs st) Q:=by
 cases o with
 |none=>exact h.elim
 |some z=>exact⟨z,rfl,h⟩
def zei(hg:Gl X "range")(hm:X.mg "range"=AB)(ha:PE X a (tE S X ca))(hs:starEach [a] X.env=[(AE,eval a X.env)]:=by rfl):PI X tg (.Call (.Name "range" p) [a] [] pos) (tI S X (.range1 ca)):=
 (zbT hg hm (zV ha zkF hs) hs).imp λσ H R ⟨B,φ,st,ρ,rs,re,h⟩=>by
  erw[evi]at h;refine tE.bind rs re h λx H1 v st1 φ1 s1 rs1 re1 rv h1=>?_;let⟨xs,e,h1⟩:=zg6 h1
  cases v with
  |int j=>
   erw[ybS]at e;split at e
   .cases e
    erw[yc]at rv;subst rv;exact⟨j,rfl,by lia,by lia,h1.ok rs1 zbR⟩
   .cases e
  |_=>cases e
def zaD:∀(xs:List PV) (k i:Nat),(yS k xs)[i]?=(xs[i]?).map λx=>.tup [.int ((k+i:Nat):Int),x]
 |[],k,i=>by simp[yS]
 |x::xs,k,0=>by simp[yS]
 |x::xs,k,i+1=>by
  erw[yS,Ag];rw[zaD xs (k+1) i];have:k+1+i=k+(i+1):=by lia
  rw[this]
def zaE:∀(xs:List PV) (k:Nat),(yS k xs).length=xs.length
 |[],k=>rfl
 |x::xs,k=>by simp[yS,zaE xs]
def zgc{k:Bool}{vs:List PV}{xs:List V}{y:AG}(rt:ybw X.K B φ H k y xs)(l:ye X.K S.cl B φ H vs xs):Drw S X B φ H (yS 0 vs) (Ite X.K y):=by
 have hl:=l.length;have hp:=zaE vs 0;refine⟨λφ' H' s=>⟨xs,(rt.step s).sq,by lia⟩,λi φ' H' s hi=>⟨xs,xs[i]'∅,(rt.step s).sq,by simp[show i<xs.length by lia]⟩,λi φ' H' st x H2 B' hB s rs hi q=>?_⟩;let⟨T,hT,rfl,q⟩:=q;obtain⟨v,hv⟩:∃v,vs[i]?=AA v:=⟨vs[i]'∅,by simp[show i<vs.length by lia]⟩;let⟨x',hx',rv⟩:=l.get i hv;have e:=q xs x' (rt.step s).sq hx';subst e;refine⟨.tup [.int i,v],?_,.tup_new hT rs ?_,λb o e=>by rw[za (zd e hT)];exact e⟩
 .rw[zaD,hv];simp
 .simp only[ye,yc];exact⟨_,_,rfl,rfl,x',[],rfl,(rv.moreB hB).step s,rfl⟩
def zhh{es:List AL}{kk:Nat}{tp:BX}(hg:Gl X "enumerate")(hm:X.mg "enumerate"=AB)(ha:PE X a (tE S X ca))(hs:starEach [a] X.env=[(AE,eval a X.env)]:=by rfl):
  PI X (.Tuple es kk tp) (.Call (.Name "enumerate" p) [a] [] pos) (tI S X (.enum ca)):=
 (zfv hg hm (zV ha zkF hs) hs).imp λσ H R ⟨B,φ,st,ρ,rs,re,h⟩=>by
  erw[evi]at h;refine tE.bind rs re h λx H1 v st1 φ1 s1 rs1 re1 rv h1=>?_
  cases v with
  |tp k vs=>
   erw[yc]at rv;let⟨y,xs,rfl,rt,l⟩:=rv;exact⟨y,rfl,⟨xs,rt.sq⟩,h1.ok rs1 (zgc rt l)⟩
  |_=>exact h1.elim
def tG(S:Se)(X:Cx)(t:Tg):TG:=λv σ H Q=>∃B φ st ρ w ρ',yh X.K S.cl B φ H st/\yp X.K S.cl B φ H ρ σ/\yc X.K S.cl B φ H w v/\yo t w ρ=AA ρ'/\∀σ',yp X.K S.cl B φ H ρ' σ'->Q σ' H
theorem PG.imp{t t':TG}(h:PG X tg t')(k:∀v σ H Q,t v σ H Q->t' v σ H Q):PG X tg t:=λπ s σ H v u Q I rv q=>h π s σ H v u Q I rv (k v σ H Q q)
def zex{i:Nat}{x:AM}(hN:X.N.Nodup)(hi:X.N[i]?=AA x)(hx:Loc X.env.scope x)(hf:X.fn x=AC \/ X.env.scope.names.lookup x=AA .local:=by first|exact .inl rfl|exact .inr rfl|assumption):PG X (.Name x pos) (tG S X (.n i)):=
 (zey hN hi hx hf).imp λv σ H Q ⟨B,φ,st,ρ,w,ρ',rs,re,rv,e,q⟩=>by
  cases e
  exact q _ (re.set i rv)
def gNs(l:List Nat):TGs:=λvs σ H Q=>vs.length=l.length/\Q ((l.zip vs).foldl (λσ p=>σ.set p.1 (AA p.2)) σ) H
theorem PGs.imp{es:List AL}{t t':TGs}(h:PGs X es t')(k:∀v σ H Q,t v σ H Q->t' v σ H Q):PGs X es t:=λπ s σ H vs us Q I rv q=>h π s σ H vs us Q I rv (k vs σ H Q q)
def zeY:PGs X [] (gNs []):=zk2.imp λvs σ H Q ⟨h,q⟩=>by
 cases vs with
 |nil=>exact⟨rfl,q⟩
 |cons _ _=>cases h
def zcI{es:List AL}{l:List Nat}{i:Nat}{x:AM}(hN:X.N.Nodup)(hi:X.N[i]?=AA x)(hx:Loc X.env.scope x)(h2:PGs X es (gNs l))(hf:X.fn x=AC \/ X.env.scope.names.lookup x=AA .local:=by first|exact .inl rfl|exact .inr rfl|assumption):PGs X (.Name x pos::es) (gNs (i::l)):=
 (zfR (zey hN hi hx hf) h2).imp λvs σ H Q ⟨h,q⟩=>by
  cases vs with
  |nil=>cases h
  |cons v vs=>exact⟨v,vs,rfl,by simpa using h,q⟩
theorem yp.sets{K:AD}{cl:Nat->AG}:∀(l:List Nat) {vs:List PV} {xs:List V} {ρ:IC.Env} {σ:St},yp K cl B φ H ρ σ->ye K cl B φ H vs xs ->
  yp K cl B φ H ((l.zip vs).foldl (λρ p=>ρ.set p.1 (AA p.2)) ρ) ((l.zip xs).foldl (λσ p=>σ.set p.1 (AA p.2)) σ)
 |[],vs,xs,ρ,σ,re,l=>by simpa using re
 |i::is,[],xs,ρ,σ,re,l=>by
  erw[ye]at l;subst l;simpa using re
 |i::is,v::vs,xs,ρ,σ,re,l=>by
  erw[ye]at l;let⟨y,ys,rfl,r,l⟩:=l;erw[C6,C2];exact yp.sets is (re.set i r) l
def zgy{es:List AL}{l:List Nat}{k:Nat}(hc:X.calm=AC)(h:PGs X es (gNs l))(hn:(assignEach es X.env).length=l.length:=by rfl)(hst:(assignEach es X.env).findIdx? (·.1)=none:=by rfl):PG X (.Tuple es k pos) (tG S X (.t l)):=
 (zjq hc h hn hst).imp λv σ H Q ⟨B,φ,st,ρ,w,ρ',rs,re,rv,e,q⟩=>by
  cases w with
  |tp kk vs=>
   erw[yo]at e;split at e
   .rename_i c
    cases e
    erw[yc]at rv;let⟨y,xs,rfl,rt,lr⟩:=rv;have hl:=lr.length;exact⟨y,xs,rfl,rt.sq,by lia,by lia,q _ (yp.sets l re lr)⟩
   .cases e
  |_=>cases e
def zg3{es:List AL}{l:List Nat}{k:Nat}(he:PE X a (tE S X ca))(hg:PG X (.Tuple es k p2) (tG S X (.t l)))(hs:swapsWithSole [.Tuple es k p2] a pos.line X.env=pure false:=by rfl)(hw:swappedStores [.Tuple es k p2] a X.env=pure none:=by rfl):
  PS X (.Assign [.Tuple es k p2] a pos) (tS S X (.asg (.t l) ca)):=
 (zgD he hg hs hw).imp λD σ H ⟨B,φ,st,ρ,rs,re,h⟩=>by
  erw[ex]at h;refine tE.fl rs re h λx H1 v st1 φ1 s rs1 re1 rv h1=>?_
  cases e:yo (.t l) v ρ with
  |none=>rw[e]at h1;exact h1.elim
  |some ρ'=>
   rw[e]at h1;exact⟨B,φ1,st1,ρ,v,ρ',rs1,re1,rv,e,λσ' re'=>h1 σ' H1 φ1 .rfl rs1 re'⟩
theorem tI.fl{k:List PV->SO->Fl}{P:It->Hp->Prop}(rs:yh X.K S.cl B φ H st)(re:yp X.K S.cl B φ H ρ σ)(h:yX S X B φ H ((evi S.call ρ st ci).fl ρ k) D)
  (n:∀x H1 v st1 φ1,Step φ H φ1 H1->yh X.K S.cl B φ1 H1 st1->yp X.K S.cl B φ1 H1 ρ σ->Drw S X B φ1 H1 v x->yX S X B φ1 H1 (k v st1) D->P x H1):tI S X ci σ H P:=by
 refine⟨B,φ,st,ρ,rs,re,?_⟩
 cases e:evi S.call ρ st ci with
 |ok v st'=>
  rw[e]at h;exact λx H' φ' s rs' rv=>n x H' v st' φ' s rs' (re.step s) rv (h.on s)
 |exc k st'=>
  rw[e]at h;exact λe s' x=>h σ φ H e s' .rfl re x
 |bad=>rw[e]at h;exact h
def zjA(hp:DG (model X.prog X.w) X.A X.env X.xe)(hc:X.calm=AC)(hi:PI X tg l (tI S X ci))(hg:PG X tg (tG S X ct))(hb:PSs X ss (tSs S X cs))(hs:∀x,foldedSetIterable l X.env x=pure x:=by intro _;rfl):
  PS X (.For tg l ss [] pos) (tS S X (.for ct ci cs)):=
 (zgj hp hc hi hg hb hs).imp λD σ H ⟨B,φ,st,ρ,rs,re,h⟩=>by
  erw[ex]at h;refine tI.fl rs re h λJ H1 xs st1 φ1 s1 rs1 re1 dr h1=>?_;refine⟨λi m σ H=>∃φ st ρ,i+m=xs.length/\Step φ1 H1 φ H/\yh X.K S.cl B φ H st/\yp X.K S.cl B φ H ρ σ/\yX S X B φ H (forL ct (λρ2 st2=>exs S.call ρ2 st2 cs) (xs.drop i) ρ st) D,
   ⟨xs.length,φ1,st1,ρ,by lia,.rfl,rs1,re1,by simpa using h1⟩,?_⟩
  rintro i m σ2 H2 ⟨φ2,st2,ρ2,hm,s2,rs2,re2,h2⟩
  by_cases hi:i<xs.length
  .refine .inr ⟨dr.go i φ2 H2 s2 hi,λσ' H'=>∃φ st ρ,Step φ1 H1 φ H'/\yh X.K S.cl B φ H' st/\yp X.K S.cl B φ H' ρ σ'/\yX S X B φ H' (forL ct (λρ2 st2=>exs S.call ρ2 st2 cs) (xs.drop (i+1)) ρ st) D,
    λσ' H' ⟨φ,st,ρ,s,q⟩=>⟨m-1,by lia,φ,st,ρ,by lia,s,q⟩,λx H3 hy=>?_⟩
   let⟨v,hv,rv,kk⟩:=dr.yld i φ2 H2 st2 x H3 B (λ_ z=>.inl z) s2 rs2 hi hy;have e:xs.drop i=v::xs.drop (i+1):=by
    rw[Ay hi];rw[B1 hi]at hv;rw[AU hv]
   have s3:Step φ2 H2 φ2 H3:=⟨λb o _ e=>kk b o e,AN _,λ_ _ _ e=>e,λ_ h=>.inl h⟩;have rs3:yh X.K S.cl B φ2 H3 st2:=rs2.same kk;rw[e,forL]at h2
   cases eb:yo ct v ρ2 with
   |none=>rw[eb]at h2;exact h2.elim
   |some ρ3=>
    rw[eb]at h2;refine⟨B,φ2,st2,ρ2,v,ρ3,rs3,re2.step s3,rv,eb,λσ' re'=>⟨B,φ2,st2,ρ3,rs3,re',?_⟩⟩;have h3:=yX.on s3 h2;dsimp only at h3
    cases ee:exs S.call ρ3 st2 cs with
    |nx ρ4 st4=>
     rw[ee]at h3;exact λσ4 H4 φ4 s4 rs4 re4=>⟨φ4,st4,ρ4,s2.trans (s3.trans s4),rs4,re4,yX.on s4 h3⟩
    |ct ρ4 st4=>
     rw[ee]at h3;exact λσ4 H4 φ4 s4 rs4 re4=>⟨φ4,st4,ρ4,s2.trans (s3.trans s4),rs4,re4,yX.on s4 h3⟩
    |bk ρ4 st4=>rw[ee]at h3;exact h3
    |rt v4 st4=>rw[ee]at h3;exact h3
    |exc k ρ4 st4=>rw[ee]at h3;exact h3
    |bad=>rw[ee]at h3;exact h3
  .have e:i=xs.length:=by lia
   subst e;rw[CF,forL]at h2;exact .inl ⟨dr.stop φ2 H2 s2,h2 σ2 H2 φ2 .rfl rs2 re2⟩
def zfS(hp:DG (model X.prog X.w) X.A X.env X.xe)(hc:PT X c (tTs S X cc))(hb:PSs X ss (tSs S X cs)):PS X (.While c ss [] pos) (tS S X (.while cc cs)):=
 (zfM hp hc hb).imp λD σ H ⟨B,φ,st,ρ,rs,re,h⟩=>by
  erw[ex]at h;refine⟨λm σ H=>∃φ st ρ,yh X.K S.cl B φ H st/\yp X.K S.cl B φ H ρ σ/\yX S X B φ H (yW (λρ2 st2=>ev S.call ρ2 st2 cc) (λρ2 st2=>exs S.call ρ2 st2 cs) m ρ st) D,⟨100000,φ,st,ρ,rs,re,h⟩,?_⟩
  rintro m σ2 H2 ⟨φ2,st2,ρ2,rs2,re2,h2⟩
  cases m with
  |zero=>exact h2.elim
  |succ m=>
   rw[yW]at h2;rw[flT _ λk st1=>cond k (yap (exs S.call ρ2 st1 cs) λρ2 st2=>yW (λρ2 st2=>ev S.call ρ2 st2 cc) (λρ2 st2=>exs S.call ρ2 st2 cs) m ρ2 st2) (.nx ρ2 st1)]at h2;refine tTs.fl rs2 re2 h2 λk H3 st3 φ3 s3 rs3 re3 h3=>?_
   cases k with
   |false=>exact h3 σ2 H3 φ3 .rfl rs3 re3
   |true=>
    refine⟨λσ' H'=>∃φ st ρ,yh X.K S.cl B φ H' st/\yp X.K S.cl B φ H' ρ σ'/\yX S X B φ H' (yW (λρ2 st2=>ev S.call ρ2 st2 cc) (λρ2 st2=>exs S.call ρ2 st2 cs) m ρ st) D,
     λσ' H' q=>⟨m,by lia,q⟩,B,φ3,st3,ρ2,rs3,re3,?_⟩
    erw[cond_true]at h3
    cases ee:exs S.call ρ2 st3 cs with
    |nx ρ4 st4=>
     rw[ee]at h3;exact λσ4 H4 φ4 s4 rs4 re4=>⟨φ4,st4,ρ4,rs4,re4,yX.on s4 h3⟩
    |ct ρ4 st4=>
     rw[ee]at h3;exact λσ4 H4 φ4 s4 rs4 re4=>⟨φ4,st4,ρ4,rs4,re4,yX.on s4 h3⟩
    |bk ρ4 st4=>rw[ee]at h3;exact h3
    |rt v4 st4=>rw[ee]at h3;exact h3
    |exc k ρ4 st4=>rw[ee]at h3;exact h3
    |bad=>rw[ee]at h3;exact h3
end
end L2
namespace IC
open PySem
def RLe{α:Type}(r q:R α):Prop:=r=.bad \/ r=q
def FLe(f g:Fl):Prop:=f=.bad \/ f=g
abbrev Cl:=Nat->List PV->SO->R PV
def CLe(c d:Cl):Prop:=∀f a s,RLe (c f a s) (d f a s)
theorem RLe.rfl{α:Type}{r:R α}:RLe r r:=.inr (CP _)
theorem FLe.rfl{f:Fl}:FLe f f:=.inr (CP _)
theorem RLe.bind{α β:Type}{r q:R α}{k l:α->SO->R β}(h:RLe r q)(hk:∀a s,RLe (k a s) (l a s)):RLe (r.bind k) (q.bind l):=by
 rcases h with h|h
 .subst h;exact .inl (CP _)
 .subst h
  cases r with
  |ok a s=>exact hk a s
  |exc c s=>exact .rfl
  |bad=>exact .rfl
theorem RLe.fl{α:Type}{r q:R α}{ρ:Env}{k l:α->SO->Fl}(h:RLe r q)(hk:∀a s,FLe (k a s) (l a s)):FLe (r.fl ρ k) (q.fl ρ l):=by
 rcases h with h|h
 .subst h;exact .inl (CP _)
 .subst h
  cases r with
  |ok a s=>exact hk a s
  |exc c s=>exact .rfl
  |bad=>exact .rfl
theorem RLe.comp{r q:R (List PV)}(h:RLe r q):RLe (yaZ r) (yaZ q):=by
 rcases h with h|h
 .subst h;exact .inl (CP _)
 .subst h;exact .rfl
def zdG{α:Type}{x:PV}{k l:Bool->R α}(h:∀b,RLe (k b) (l b)):RLe (onBl x k) (onBl x l):=by
 cases x with
 |bl b=>exact h b
 |_=>exact .rfl
def zbp{α:Type}{x:Option Bool}{k l:Bool->R α}(h:∀b,RLe (k b) (l b)):RLe (onO x k) (onO x l):=by
 cases x with
 |some b=>exact h b
 |none=>exact .rfl
def zgo{x:Option Bool}{k l:Bool->Fl}(h:∀b,FLe (k b) (l b)):FLe (onF x k) (onF x l):=by
 cases x with
 |some b=>exact h b
 |none=>exact .rfl
def ziX{α:Type}{x:Option (Option Int)}{k l:Option Int->R α}(h:∀b,RLe (k b) (l b)):RLe (onP x k) (onP x l):=by
 cases x with
 |some b=>exact h b
 |none=>exact .rfl
def zaK{α:Type}{b:Bool}{r q r' q':R α}(h:RLe r q)(h':RLe r' q'):RLe (cond b r r') (cond b q q'):=by
 cases b
 .exact h'
 .exact h
def zcE{b:Bool}{r q r' q':Fl}(h:FLe r q)(h':FLe r' q'):FLe (cond b r r') (cond b q q'):=by
 cases b
 .exact h'
 .exact h
def zar{f g:PV->SO->R (Option PV)}(h:∀x s,RLe (f x s) (g x s)):∀xs s,RLe (compL f xs s) (compL g xs s)
 |[],s=>.rfl
 |x::xs,s=>(h x s).bind λo s1=>(zar h xs s1).bind λys s2=>.rfl
def za8{f g:PV->SO->R (List PV)}(h:∀x s,RLe (f x s) (g x s)):∀xs s,RLe (yah f xs s) (yah g xs s)
 |[],s=>.rfl
 |x::xs,s=>(h x s).bind λo s1=>(za8 h xs s1).bind λys s2=>.rfl
def zcr{f g:PV->SO->R (PV×PV)}(h:∀x s,RLe (f x s) (g x s)):∀xs acc s,RLe (yaz f xs acc s) (yaz g xs acc s)
 |[],acc,s=>.rfl
 |x::xs,acc,s=>(h x s).bind λp s1=>by
  split
  .exact zcr h xs _ s1
  .exact .rfl
theorem RLe.emR{a b:R PV}(h:RLe a b):RLe (emR a) (emR b):=by
 rcases h with h|h
 .subst h;exact .inl (CP R.bad)
 .subst h;exact .rfl
theorem RLe.tupR{a b:R (List PV)}(h:RLe a b):RLe (tupR a) (tupR b):=by
 rcases h with h|h
 .subst h;exact .inl (CP R.bad)
 .subst h;exact .rfl
theorem RLe.dctR{a b:R (List (PV×PV))}(h:RLe a b):RLe (dctR a) (dctR b):=by
 rcases h with h|h
 .subst h;exact .inl (CP R.bad)
 .subst h;exact .rfl
def zaz{f g:Fl}{k l:Env->SO->Fl}(h:FLe f g)(hk:∀ρ s,FLe (k ρ s) (l ρ s)):FLe (yap f k) (yap g l):=by
 rcases h with h|h
 .subst h;exact .inl (CP _)
 .subst h
  cases f with
  |nx ρ s=>exact hk ρ s
  |ct ρ s=>exact hk ρ s
  |_=>exact .rfl
def zbm{t:Tg}{f g:Env->SO->Fl}(h:∀ρ s,FLe (f ρ s) (g ρ s)):∀xs ρ s,FLe (forL t f xs ρ s) (forL t g xs ρ s)
 |[],ρ,s=>.rfl
 |x::xs,ρ,s=>by
  unfold forL
  cases yo t x ρ with
  |none=>exact .rfl
  |some ρ1=>exact zaz (h ρ1 s) λρ2 s2=>zbm h xs ρ2 s2
def zdI{t:Tg}{f g:Env->SO->Fl}{n:Nat}(h:∀ρ s,FLe (f ρ s) (g ρ s)):∀k i ρ s,FLe (ya4 t f n k i ρ s) (ya4 t g n k i ρ s)
 |0,i,ρ,s=>.rfl
 |k+1,i,ρ,s=>by
  unfold ya4
  cases s[n]? with
  |none=>exact .rfl
  |some o=>
   cases o with
   |lst xs=>
    dsimp only
    cases xs[i]? with
    |none=>exact .rfl
    |some x=>
     dsimp only
     cases yo t x ρ with
     |none=>exact .rfl
     |some ρ1=>exact zaz (h ρ1 s) λρ2 s2=>zdI h k (i+1) ρ2 s2
   |_=>exact .rfl
def zbu{t u:Env->SO->R PV}{f g:Env->SO->Fl}(ht:∀ρ s,RLe (t ρ s) (u ρ s))(h:∀ρ s,FLe (f ρ s) (g ρ s)):∀n ρ s,FLe (yW t f n ρ s) (yW u g n ρ s)
 |0,ρ,s=>.rfl
 |n+1,ρ,s=>by
  unfold yW;exact(ht ρ s).fl λx s1=>zgo λb=>zcE (zaz (h ρ s1) λρ2 s2=>zbu ht h n ρ2 s2) .rfl
mutual
theorem zb{c d:Cl}(h:CLe c d):∀(e:Ce) (ρ:Env) (s:SO),RLe (ev c ρ s e) (ev d ρ s e)
 |.cst v,ρ,s=>by exact .rfl
 |.var i,ρ,s=>by exact .rfl
 |.bin o a b,ρ,s=>by
  exact(zb h a ρ s).bind λx s1=>(zb h b ρ s1).bind λy s2=>.rfl
 |.not a,ρ,s=>by
  exact(zb h a ρ s).bind λx s1=>.rfl
 |.and a b,ρ,s=>by
  refine(zb h a ρ s).bind λx s1=>?_;exact zdG λk=>zaK (zb h b ρ s1) .rfl
 |.or a b,ρ,s=>by
  refine(zb h a ρ s).bind λx s1=>?_;exact zdG λk=>zaK .rfl (zb h b ρ s1)
 |.cmp o a b,ρ,s=>by
  exact(zb h a ρ s).bind λx s1=>(zb h b ρ s1).bind λy s2=>.rfl
 |.ite k a b,ρ,s=>by
  exact(zb h k ρ s).bind λx s1=>zbp λq=>zaK (zb h a ρ s1) (zb h b ρ s1)
 |.tup es,ρ,s=>by
  exact(zA h es ρ s).bind λx s1=>.rfl
 |.lst es,ρ,s=>by
  exact(zA h es ρ s).bind λx s1=>.rfl
 |.newl es,ρ,s=>by
  exact(zA h es ρ s).bind λx s1=>.rfl
 |.idx a i,ρ,s=>by
  exact(zb h a ρ s).bind λx s1=>(zb h i ρ s1).bind λy s2=>.rfl
 |.slc a l u,ρ,s=>by
  exact(zb h a ρ s).bind λx s1=>(zb h l ρ s1).bind λy s2=>ziX λo=>(zb h u ρ s2).bind λz s3=>.rfl
 |.call f es,ρ,s=>by
  exact(zA h es ρ s).bind λx s1=>h f x s1
 |.blt b es,ρ,s=>by
  exact(zA h es ρ s).bind λx s1=>.rfl
 |.mth m o es,ρ,s=>by
  exact(zb h o ρ s).bind λx s1=>zbp λ_=>(zA h es ρ s1).bind λy s2=>.rfl
 |.isi a ts,ρ,s=>by
  exact(zb h a ρ s).bind λx s1=>.rfl
 |.comp sl tg it k e,ρ,s=>by
  refine(zaU h it ρ s).bind λxs s1=>?_;have q:=λ(f g:PV->SO->R (Option PV)) (hfg:∀x s,RLe (f x s) (g x s))=>zar hfg xs s1;refine RLe.comp (zar (λx s2=>?_) xs s1)
  cases yo tg x _ with
  |none=>exact .rfl
  |some ρ1=>
   dsimp only;exact(zb h k ρ1 s2).bind λb s3=>zbp λq=>zaK ((zb h e ρ1 s3).bind λy s4=>.rfl) .rfl
 |.nope,ρ,s=>by exact .rfl
 |.frz a,ρ,s=>by
  exact(zb h a ρ s).bind λx s1=>.rfl
 |.fst es,ρ,s=>by
  first|unfold ev|unfold ex|unfold evs|unfold evi|unfold exs
  rcases zA h es ρ s with e|e
  .rw[e];exact .inl (CP _)
  .rw[e];exact .rfl
 |.thw a,ρ,s=>by
  exact(zb h a ρ s).bind λx s1=>.rfl
 |.nin a b,ρ,s=>by
  exact(zb h a ρ s).bind λx s1=>(zb h b ρ s1).bind λy s2=>.rfl
 |.dgt a i,ρ,s=>by
  exact(zb h a ρ s).bind λx s1=>(zb h i ρ s1).bind λy s2=>.rfl
 |.dsub ks es i,ρ,s=>by
  first|unfold ev|unfold ex|unfold evs|unfold evi|unfold exs
  rcases zA h es ρ s with hq|hq
  .rw[hq];exact .inl rfl
  .rw[hq]
   cases evs d ρ s es with
   |ok vs s1=>
    dsimp only;split
    .exact(zb h i ρ s1).bind λx s2=>.rfl
    .exact .inl rfl
   |exc k s1=>exact .inl rfl
   |bad=>exact .inl rfl
 |.cmq sl tg it m,ρ,s=>by
  refine(zaU h it ρ s).bind λxs s1=>?_;refine RLe.comp (za8 (λx s2=>?_) xs s1);split
  .exact .rfl
  .exact(zb h m _ s2).emR
 |.emq tg it m,ρ,s=>by
  refine(zaU h it ρ s).bind λxs s1=>?_;split
  .refine RLe.tupR (za8 (λx s2=>?_) xs s1);split
   .exact .rfl
   .exact(zb h m _ s2).emR
  .exact .rfl
 |.dcm sl tg it k v,ρ,s=>by
  refine(zaU h it ρ s).bind λxs s1=>?_;dsimp only;split
  .refine RLe.dctR (zcr (λx s2=>?_) xs [] s1);split
   .exact .rfl
   .exact(zb h k _ s2).bind λa s3=>(zb h v _ s3).bind λb s4=>.rfl
  .exact .rfl
 |.nel a b,ρ,s=>by
  exact(zb h a ρ s).bind λx s1=>(zb h b ρ s1).bind λy s2=>.rfl
theorem zA{c d:Cl}(h:CLe c d):∀(e:Ces) (ρ:Env) (s:SO),RLe (evs c ρ s e) (evs d ρ s e)
 |.nil,ρ,s=>by exact .rfl
 |.cons e es,ρ,s=>by
  exact(zb h e ρ s).bind λx s1=>(zA h es ρ s1).bind λy s2=>.rfl
theorem zaU{c d:Cl}(h:CLe c d):∀(e:Cit) (ρ:Env) (s:SO),RLe (evi c ρ s e) (evi d ρ s e)
 |.seq e,ρ,s=>by
  exact(zb h e ρ s).bind λx s1=>.rfl
 |.range1 a,ρ,s=>by
  exact(zb h a ρ s).bind λx s1=>.rfl
 |.range2 a b,ρ,s=>by
  exact(zb h a ρ s).bind λx s1=>(zb h b ρ s1).bind λy s2=>.rfl
 |.rangeD a b,ρ,s=>by
  exact(zb h a ρ s).bind λx s1=>(zb h b ρ s1).bind λy s2=>.rfl
 |.enum e,ρ,s=>by
  exact(zb h e ρ s).bind λx s1=>.rfl
 |.zip a b,ρ,s=>by
  exact(zb h a ρ s).bind λx s1=>(zb h b ρ s1).bind λy s2=>.rfl
 |.revl e,ρ,s=>by
  exact(zb h e ρ s).bind λx s1=>.rfl
 |.revr e,ρ,s=>by
  exact(zb h e ρ s).bind λx s1=>.rfl
 |.chars e,ρ,s=>by
  exact(zb h e ρ s).bind λx s1=>.rfl
end
mutual
theorem zkw{c d:Cl}(h:CLe c d):∀(x:Cs) (ρ:Env) (s:SO),FLe (ex c ρ s x) (ex d ρ s x)
 |.expr e,ρ,s=>by
  exact(zb h e ρ s).fl λx s1=>.rfl
 |.asg t e,ρ,s=>by
  exact(zb h e ρ s).fl λx s1=>.rfl
 |.six o i e,ρ,s=>by
  exact(zb h e ρ s).fl λx s1=>(zb h o ρ s1).fl λy s2=>(zb h i ρ s2).fl λz s3=>.rfl
 |.aug i o e,ρ,s=>by
  first|unfold ev|unfold ex|unfold evs|unfold evi|unfold exs
  split
  .exact(zb h e ρ s).fl λx s1=>.rfl
  .exact .rfl
 |.ret e,ρ,s=>by
  exact(zb h e ρ s).fl λx s1=>.rfl
 |.ite k a b,ρ,s=>by
  exact(zb h k ρ s).fl λx s1=>zgo λq=>zcE (zH h a ρ s1) (zH h b ρ s1)
 |.for t it b,ρ,s=>by
  exact(zaU h it ρ s).fl λxs s1=>zbm (λρ2 s2=>zH h b ρ2 s2) xs ρ s1
 |.forl t e b,ρ,s=>by
  refine(zb h e ρ s).fl λx s1=>?_
  cases x with
  |tp k xs=>exact zbm (λρ2 s2=>zH h b ρ2 s2) xs ρ s1
  |lst xs=>exact zbm (λρ2 s2=>zH h b ρ2 s2) xs ρ s1
  |loc n=>exact zdI (λρ2 s2=>zH h b ρ2 s2) 100000 0 ρ s1
  |_=>exact .rfl
 |.while k b,ρ,s=>by
  exact zbu (λρ2 s2=>zb h k ρ2 s2) (λρ2 s2=>zH h b ρ2 s2) _ ρ s
 |.nope,ρ,s=>by exact .rfl
 |.raise k e,ρ,s=>by
  exact(zb h e ρ s).fl λx s1=>.rfl
 |.mkr i D n es,ρ,s=>by
  refine(zb h n ρ s).fl λx s1=>?_;split
  .exact((zA h es _ s1).bind λvs s2=>h _ vs s2).fl λv s3=>.rfl
  .exact .rfl
theorem zH{c d:Cl}(h:CLe c d):∀(x:Css) (ρ:Env) (s:SO),FLe (exs c ρ s x) (exs d ρ s x)
 |.nil,ρ,s=>by exact .rfl
 |.cons x xs,ρ,s=>by
  first|unfold ev|unfold ex|unfold evs|unfold evi|unfold exs
  rcases zkw h x ρ s with e|e
  .rw[e];exact .inl (CP _)
  .rw[e]
   cases ex d ρ s x with
   |nx ρ1 s1=>exact zH h xs ρ1 s1
   |_=>exact .rfl
end
def zbJ(T:Nat->Option Fn):∀k,CLe (yd T k) (yd T (k+1))
 |0,f,a,s=>.inl (CP _)
 |k+1,f,a,s=>by
  have h:=zbJ T k;rw[yd,yd]
  cases T f with
  |none=>exact .rfl
  |some fn=>
   dsimp only;split
   .split
    .split
     .rcases zH h fn.body (a.map AA++Am (fn.ns-fn.np) AB) []with e|e
      .rw[e];exact .inl (CP _)
      .rw[e];exact .rfl
     .exact .rfl
    .rcases zH h fn.body (a.map AA++Am (fn.ns-fn.np) AB) s with e|e
     .rw[e];exact .inl (CP _)
     .rw[e];exact .rfl
   .exact .rfl
def zN{T:Nat->Option Fn}{k:Nat}{f:Nat}{a:List PV}{s s':SO}{v:PV}(h:yd T k f a s=.ok v s'):∀j,yd T (k+j) f a s=.ok v s'
 |0=>h
 |j+1=>by
  have q:=zN h j;rcases zbJ T (k+j) f a s with e|e
  .rw[q]at e;cases e
  .rw[Fc]at e;rw[<-e];exact q
def yal(call:Cl)(t:Tg)(b:Css)(xs:List PV)(ρ:Env)(st:SO):Fl:=forL t (λρ2 st2=>exs call ρ2 st2 b) xs ρ st
def yak(call:Cl)(c:Ce)(b:Css)(n:Nat)(ρ:Env)(st:SO):Fl:=yW (λρ2 st2=>ev call ρ2 st2 c) (λρ2 st2=>exs call ρ2 st2 b) n ρ st
def yaV(call:Cl)(ρ0:Env)(t:Tg)(c e:Ce)(x:PV)(st2:SO):R (Option PV):=match yo t x ρ0 with
 |none=>.bad
 |some ρ1=>(ev call ρ1 st2 c).bind λb st3=>onO (yas st3 b) λk=>cond k ((ev call ρ1 st3 e).bind λy st4=>.ok (AA y) st4) (.ok AB st3)
def yQ(call:Cl)(ρ0:Env)(t:Tg)(c e:Ce)(xs:List PV)(st:SO):R (List PV):=compL (yaV call ρ0 t c e) xs st
def yaE(f:Fl)(k:Env->SO->Fl):Fl:=
 match f with
 |.nx ρ st=>k ρ st
 |f=>f
def nxO(o:Option Env)(st:SO):Fl:=
 match o with
 |some ρ=>.nx ρ st
 |none=>.bad
def stO(ρ:Env)(o:Option SO):Fl:=
 match o with
 |some st=>.nx ρ st
 |none=>.bad
section
variable {call:Cl}{ρ:Env}{st:SO}
theorem x_for{t:Tg}{it:Cit}{b:Css}:ex call ρ st (.for t it b)=(evi call ρ st it).fl ρ λxs st1=>yal call t b xs ρ st1:=rfl
theorem x_while{c:Ce}{b:Css}:ex call ρ st (.while c b)=yak call c b 100000 ρ st:=rfl
theorem v_comp{sl:List (Option Nat)}{t:Tg}{it:Cit}{c e:Ce}:ev call ρ st (.comp sl t it c e)=(evi call ρ st it).bind λxs st1=>yaZ (yQ call (sl.map λo=>o.bind λj=>(ρ[j]?).join) t c e xs st1):=rfl
def zn{t:Tg}{b:Css}:yal call t b [] ρ st=.nx ρ st:=rfl
def zi{t:Tg}{b:Css}{x:PV}{xs:List PV}{ρ1:Env}(h:yo t x ρ=AA ρ1):yal call t b (x::xs) ρ st=yap (exs call ρ1 st b) λρ2 st2=>yal call t b xs ρ2 st2:=by
 rw[yal,forL,h];rfl
def zcz{t:Tg}{b:Css}(P:Nat->Env->SO->Prop):∀(xs:List PV) (i:Nat) (ρ:Env) (st:SO),P i ρ st ->
  (∀(j:Nat) (x:PV) (ρ:Env) (st:SO),xs[j]?=AA x->P (i+j) ρ st->∃ρ1 ρ2 st2,yo t x ρ=AA ρ1/\exs call ρ1 st b=.nx ρ2 st2/\P (i+j+1) ρ2 st2) ->
  ∃ρ' st',yal call t b xs ρ st=.nx ρ' st'/\P (i+xs.length) ρ' st'
 |[],i,ρ,st,h,_=>⟨ρ,st,zn,h⟩
 |x::xs,i,ρ,st,h,k=>by
  let⟨ρ1,ρ2,st2,e1,e2,h2⟩:=k 0 x ρ st rfl h;let⟨ρ',st',e3,h3⟩:=zcz P xs (i+1) ρ2 st2 h2 λj y ρ st hy hp=>by
   have:=k (j+1) y ρ st (by simpa using hy) (by rw[show i+(j+1)=i+1+j by lia];exact hp);rw[show i+(j+1)+1=i+1+j+1 by lia]at this;exact this
  refine⟨ρ',st',?_,by rw[Af,show i+(xs.length+1)=i+1+xs.length by lia];exact h3⟩;rw[zi e1,e2];exact e3
def zbN{c:Ce}{b:Css}{n:Nat}{x:PV}{st1 st2:SO}{ρ2:Env}(h:ev call ρ st c=.ok x st1)(ht:yas st1 x=AA AC)(hb:exs call ρ st1 b=.nx ρ2 st2):yak call c b (n+1) ρ st=yak call c b n ρ2 st2:=by
 rw[yak,yW,h];erw[R.fl,ht,onF,cond_true,hb,yap];rfl
def zT{c:Ce}{b:Css}{n:Nat}{x:PV}{st1:SO}(h:ev call ρ st c=.ok x st1)(ht:yas st1 x=AA AE):yak call c b (n+1) ρ st=.nx ρ st1:=by
 rw[yak,yW,h];erw[R.fl,ht,onF,cond_false]
def zy{ρ0:Env}{t:Tg}{c e:Ce}:yQ call ρ0 t c e [] st=.ok [] st:=rfl
def zk{ρ0:Env}{t:Tg}{c e:Ce}{x:PV}{xs:List PV}:yQ call ρ0 t c e (x::xs) st=(yaV call ρ0 t c e x st).bind λo st1=>(yQ call ρ0 t c e xs st1).bind λys st2=>.ok (ybc o ys) st2:=rfl
theorem xs_nil:exs call ρ st .nil=.nx ρ st:=rfl
theorem xs_cons{s:Cs}{ss:Css}:exs call ρ st (.cons s ss)=yaE (ex call ρ st s) λρ1 st1=>exs call ρ1 st1 ss:=rfl
theorem x_asg{t:Tg}{e:Ce}:ex call ρ st (.asg t e)=(ev call ρ st e).fl ρ λv st1=>nxO (yo t v ρ) st1:=rfl
theorem x_expr{e:Ce}:ex call ρ st (.expr e)=(ev call ρ st e).fl ρ λ_ st1=>.nx ρ st1:=rfl
theorem x_ret{e:Ce}:ex call ρ st (.ret e)=(ev call ρ st e).fl ρ λv st1=>.rt v st1:=rfl
theorem x_ite{c:Ce}{a b:Css}:ex call ρ st (.ite c a b)=(ev call ρ st c).fl ρ λx st1=>onF (yas st1 x) λk=>cond k (exs call ρ st1 a) (exs call ρ st1 b):=rfl
theorem x_raise{c:Nat}{e:Ce}:ex call ρ st (.raise c e)=(ev call ρ st e).fl ρ λ_ st1=>.exc c ρ st1:=rfl
theorem x_six{o i e:Ce}:ex call ρ st (.six o i e)=(ev call ρ st e).fl ρ λv st1=>(ev call ρ st1 o).fl ρ λx st2=>(ev call ρ st2 i).fl ρ λy st3=>stO ρ (ya1 st3 x y v):=rfl
theorem x_aug{i:Nat}{o:BOp}{e:Ce}{x:PV}(h:ρ[i]?=AA (AA x)):ex call ρ st (.aug i o e)=(ev call ρ st e).fl ρ λy st1=>nxO ((yba o x y).map λz=>ρ.set i (AA z)) st1:=by
 rw[ex,h];show (ev call ρ st e).fl ρ _=_;refine congrArg _ (funext λy=>funext λst1=>?_)
 cases yba o x y<;>rfl
end
theorem ve1(call:Nat->List PV->SO->R PV)(ρ:Env)(st:SO)(v:PV):
  ev call ρ st (Ce.cst v)=R.ok v st:=rfl
theorem ve2(call:Nat->List PV->SO->R PV)(ρ:Env)(st:SO)(i:Nat):
  ev call ρ st (Ce.var i) =
  match ρ[i]? with
  |some (AA v)=>R.ok v st
  |x=>R.bad:=rfl
theorem ve3(call:Nat->List PV->SO->R PV)(ρ:Env)(st:SO)(o:BOp)(a b:Ce):
  ev call ρ st (Ce.bin o a b)=R.bind (ev call ρ st a) λx st1=>R.bind (ev call ρ st1 b) λy st2=>toR (yw o x y) st2:=rfl
theorem ve5(call:Nat->List PV->SO->R PV)(ρ:Env)(st:SO)(a:Ce):
  ev call ρ st (Ce.not a)=R.bind (ev call ρ st a) λx st1=>onBl x λk=>R.ok (PV.bl !k) st1:=rfl
theorem ve6(call:Nat->List PV->SO->R PV)(ρ:Env)(st:SO)(a b:Ce):
  ev call ρ st (Ce.and a b)=R.bind (ev call ρ st a) λx st1=>onBl x λk=>bif k then ev call ρ st1 b else R.ok (PV.bl AE) st1:=rfl
theorem ve7(call:Nat->List PV->SO->R PV)(ρ:Env)(st:SO)(a b:Ce):
  ev call ρ st (Ce.or a b)=R.bind (ev call ρ st a) λx st1=>onBl x λk=>bif k then R.ok (PV.bl AC) st1 else ev call ρ st1 b:=rfl
theorem ve8(call:Nat->List PV->SO->R PV)(ρ:Env)(st:SO)(o:COp)(a b:Ce):
  ev call ρ st (Ce.cmp o a b)=R.bind (ev call ρ st a) λx st1=>R.bind (ev call ρ st1 b) λy st2=>toR (yG o x y) st2:=rfl
theorem ve10(call:Nat->List PV->SO->R PV)(ρ:Env)(st:SO)(c a b:Ce):
  ev call ρ st (Ce.ite c a b)=R.bind (ev call ρ st c) λx st1=>onO (yas st1 x) λk=>bif k then ev call ρ st1 a else ev call ρ st1 b:=rfl
theorem ve11(call:Nat->List PV->SO->R PV)(ρ:Env)(st:SO)(es:Ces):
  ev call ρ st (Ce.tup es)=R.bind (evs call ρ st es) λvs st1=>if Bd vs<=sizeMax then R.ok (PV.tup vs) st1 else R.bad:=rfl
theorem ve12(call:Nat->List PV->SO->R PV)(ρ:Env)(st:SO)(es:Ces):
  ev call ρ st (Ce.lst es)=R.bind (evs call ρ st es) λvs st1=>if Bd vs<=sizeMax then R.ok (PV.lst vs) st1 else R.bad:=rfl
theorem ve13(call:Nat->List PV->SO->R PV)(ρ:Env)(st:SO)(es:Ces):
  ev call ρ st (Ce.newl es)=R.bind (evs call ρ st es) λvs st1=>if Bd vs<=sizeMax then R.ok (PV.loc (Bd st1)) (st1++[Ob.lst vs])else R.bad:=rfl
theorem ve16(call:Nat->List PV->SO->R PV)(ρ:Env)(st:SO)(a i:Ce):
  ev call ρ st (Ce.idx a i)=R.bind (ev call ρ st a) λx st1=>R.bind (ev call ρ st1 i) λy st2=>toR (idxV st2 x y) st2:=rfl
theorem ve17(call:Nat->List PV->SO->R PV)(ρ:Env)(st:SO)(a l h:Ce):
  ev call ρ st (Ce.slc a l h)=R.bind (ev call ρ st a) λx st1=>R.bind (ev call ρ st1 l) λy st2=>onP (ybm y) λo=>R.bind (ev call ρ st2 h) λz st3=>toR (ybT x o z) st3:=rfl
theorem ve18(call:Nat->List PV->SO->R PV)(ρ:Env)(st:SO)(f:Nat)(es:Ces):
  ev call ρ st (Ce.call f es)=R.bind (evs call ρ st es) λvs st1=>call f vs st1:=rfl
theorem ve19(call:Nat->List PV->SO->R PV)(ρ:Env)(st:SO)(b:Blt)(es:Ces):
  ev call ρ st (Ce.blt b es)=R.bind (evs call ρ st es) λvs st1=>toR (yag b st1 vs) st1:=rfl
theorem ve20(call:Nat->List PV->SO->R PV)(ρ:Env)(st:SO)(m:Mth)(o:Ce)(es:Ces):
  ev call ρ st (Ce.mth m o es)=R.bind (ev call ρ st o) λx st1=>onO (yaA m st1 x) λx_1=>R.bind (evs call ρ st1 es) λvs st2=>ybC m st2 x vs:=rfl
theorem ve21(call:Nat->List PV->SO->R PV)(ρ:Env)(st:SO)(a:Ce)(ts:List Ty):
  ev call ρ st (Ce.isi a ts)=R.bind (ev call ρ st a) λx st1=>toR (ybi x ts) st1:=rfl
theorem ve24(call:Nat->List PV->SO->R PV)(ρ:Env)(st:SO):
  ev call ρ st Ce.nope=R.bad:=rfl
theorem ve25(call:Nat->List PV->SO->R PV)(ρ:Env)(st:SO)(a:Ce):
  ev call ρ st (Ce.frz a)=R.bind (ev call ρ st a) λx st1=>ycL x st1:=rfl
theorem ve26(call:Nat->List PV->SO->R PV)(ρ:Env)(st:SO)(es:Ces):
  ev call ρ st (Ce.fst es)=ydG (evs call ρ st es):=rfl
theorem ve30(call:Nat->List PV->SO->R PV)(ρ:Env)(st:SO)(a:Ce):
  ev call ρ st (Ce.thw a)=R.bind (ev call ρ st a) λx st1=>yc6 x st1:=rfl
theorem ve31(call:Nat->List PV->SO->R PV)(ρ:Env)(st:SO)(a b:Ce):
  ev call ρ st (Ce.nin a b)=R.bind (ev call ρ st a) λx st1=>R.bind (ev call ρ st1 b) λy st2=>toR (ybV st2 x y) st2:=rfl
theorem ve34(call:Nat->List PV->SO->R PV)(ρ:Env)(st:SO)(a i:Ce):
  ev call ρ st (Ce.dgt a i)=R.bind (ev call ρ st a) λx st1=>R.bind (ev call ρ st1 i) λy st2=>toR (ycM st2 x y) st2:=rfl
def ybh(call:Cl)(ρ0:Env)(t:Tg)(m:Ce)(x:PV)(st:SO):R (List PV):=match yo t x ρ0 with
 |none=>.bad
 |some ρ1=>emR (ev call ρ1 st m)
def yb1(call:Cl)(ρ0:Env)(t:Tg)(k v:Ce)(x:PV)(st:SO):R (PV×PV):=match yo t x ρ0 with
 |none=>.bad
 |some ρ1=>(ev call ρ1 st k).bind λa st3=>(ev call ρ1 st3 v).bind λb st4=>.ok (a,b) st4
theorem ve52(call:Nat->List PV->SO->R PV)(ρ:Env)(st:SO)(sl:List (Option Nat))(tg:Tg)(it:Cit)(m:Ce):
  ev call ρ st (Ce.cmq sl tg it m)=R.bind (evi call ρ st it) λxs st1=>yaZ (yah (ybh call (sl.map λo=>o.bind λj=>(ρ[j]?).join) tg m) xs st1):=rfl
theorem ve53(call:Nat->List PV->SO->R PV)(ρ:Env)(st:SO)(tg:Tg)(it:Cit)(m:Ce):
  ev call ρ st (Ce.emq tg it m)=R.bind (evi call ρ st it) λxs st1=>if yaj tg ρ=AC then tupR (yah (ybh call ρ tg m) xs st1)else .bad:=rfl
theorem ve54(call:Nat->List PV->SO->R PV)(ρ:Env)(st:SO)(sl:List (Option Nat))(tg:Tg)(it:Cit)(k v:Ce):
  ev call ρ st (Ce.dcm sl tg it k v)=R.bind (evi call ρ st it) λxs st1=>if xs.length<=1000000 then dctR (yaz (yb1 call (sl.map λo=>o.bind λj=>(ρ[j]?).join) tg k v) xs [] st1)else .bad:=rfl
theorem ve42(call:Nat->List PV->SO->R PV)(ρ:Env)(st:SO)(a b:Ce):
  ev call ρ st (Ce.nel a b)=R.bind (ev call ρ st a) λx st1=>R.bind (ev call ρ st1 b) λy st2=>toR (ybK st2 x y) st2:=rfl
end IC
namespace L2
open PySem PySem.Spec PyProof.Rows IC
section
variable (S:Se)(K:AD)
def yeH{α β:Type}(B:AG->Prop)(φ:Ph)(H:Hp)(Rel:Ph->Hp->α->β->Prop)(r:R α)(Q:β->Hp->Prop):Prop:=
 match r with
 |.ok v st'=>∀x H' φ',Step φ H φ' H'->yh K S.cl B φ' H' st'->Rel φ' H' v x->Q x H'
 |_=>False
def tE0(c:Ce):TE:=λσ H Q=>∃B φ st ρ,yh K S.cl B φ H st/\yp K S.cl B φ H ρ σ/\yeH S K B φ H (λφ H=>yc K S.cl B φ H) (ev S.call ρ st c) Q
def tT0(c:Ce):TT:=λσ H Q=>∃B φ st ρ,yh K S.cl B φ H st/\yp K S.cl B φ H ρ σ/\yeH S K B φ H RB (yax (ev S.call ρ st c)) Q
def tG0(t:Tg):TG:=λv σ H Q=>∃B φ st ρ w ρ',yh K S.cl B φ H st/\yp K S.cl B φ H ρ σ/\yc K S.cl B φ H w v/\yo t w ρ=AA ρ'/\∀σ',yp K S.cl B φ H ρ' σ'->Q σ' H
end
section
variable {S:Se}{X:Cx}{K:AD}{cl:Nat->AG}{σ:St}{B:AG->Prop}{φ φ1:Ph}{H H1:Hp}{st:SO}{ρ:IC.Env}{pos p p2 px:BX}{a b c o tg l elt iter:AL}{ca cb cc ce:Ce}{ci:Cit}{ct:Tg}
def zad(hK:X.K=K)(h:PE X a (tE S X ca)):PE X a (tE0 S K ca):=by
 subst hK;refine h.imp λσ H Q kq=>?_;let⟨B,φ,st,ρ,rs,re,q⟩:=kq;refine ⟨B,φ,st,ρ,rs,re,?_⟩
 cases e:ev S.call ρ st ca with
 |ok v st'=>rw[e]at q;exact q
 |exc k st'=>rw[e]at q;exact q.elim
 |bad=>rw[e]at q;exact q
def zh5(hK:X.K=K)(h:PT X a (tTs S X ca)):PTs X [a] (tT0 S K ca):=by
 subst hK;refine zhK (h.imp λσ H Q kq=>?_);let⟨B,φ,st,ρ,rs,re,q⟩:=kq;refine ⟨B,φ,st,ρ,rs,re,?_⟩
 cases e:yax (ev S.call ρ st ca)with
 |ok v st'=>rw[e]at q;exact q
 |exc k st'=>rw[e]at q;exact q.elim
 |bad=>rw[e]at q;exact q
def zf3:PTs X [] (tT0 S K (.cst (.bl AC))):=λπ s σ H Q I ⟨B,φ,st,ρ,rs,re,q⟩=>by
 refine zaC π s σ H Q I ?_;erw[ev,yax,R.bind,yas,onO]at q;exact q AC H φ .rfl rs rfl
def zW(hK:X.K=K)(h:PG X tg (tG S X ct)):PG X tg (tG0 S K ct):=by
 subst hK;exact h
theorem ybw.skip{k:Bool}{D y:AG}{u:HO}{xs:List V}(hD:B D)(r:ybw K B φ H k y xs):ybw K B φ (L2.upd H D u) k y xs:=by
 rcases r with⟨r,b,n⟩|r
 .exact .inl ⟨by rw[za (show y≠D from λz=>b (z ▸ hD))];exact r,b,n⟩
 .exact .inr r
mutual
theorem yc.skip{D:AG}{u:HO}(hD:B D):∀(v:PV) (x:V),yc K cl B φ H v x->yc K cl B φ (L2.upd H D u) v x
 |.non,x,h=>by erw[yc]at h ⊢;exact h
 |.bl b,x,h=>by erw[yc]at h ⊢;exact h
 |.int i,x,h=>by erw[yc]at h ⊢;exact h
 |.str y,x,h=>by erw[yc]at h ⊢;exact h
 |.tp k vs,x,h=>by
  erw[yc]at h ⊢;let⟨y,xs,e,r,l⟩:=h;exact⟨y,xs,e,r.skip hD,ye.skip hD vs xs l⟩
 |.lst vs,x,h=>by
  erw[yc]at h ⊢;let⟨y,xs,e,⟨r,b,n⟩,l⟩:=h;exact⟨y,xs,e,⟨by rw[za (show y≠D from λz=>b (z ▸ hD))];exact r,b,n⟩,ye.skip hD vs xs l⟩
 |.loc n,x,h=>by erw[yc]at h ⊢;exact h
 |.fnc j,x,h=>by erw[yc]at h ⊢;exact h
 |.exn c,x,h=>by
  erw[yc]at h ⊢;let⟨y,e,r,b,n⟩:=h;exact⟨y,e,by rw[za (show y≠D from λz=>b (z ▸ hD))];exact r,b,n⟩
 |.scr vs,x,h=>by
  erw[yc]at h ⊢;let⟨y,xs,e,r,l⟩:=h;refine⟨y,xs,e,?_,ye.skip hD vs xs l⟩;rcases r with⟨r,b,n⟩|r
  .refine .inl ⟨?_,b,n⟩;have ne:y≠D:=λz=>b (z ▸ hD);rcases r with r|⟨o,r⟩
   .exact .inl (by rw[za ne];exact r)
   .exact .inr ⟨o,by rw[za ne];exact r⟩
  .exact .inr r
theorem ye.skip{D:AG}{u:HO}(hD:B D):∀(v:List PV) (x:List V),ye K cl B φ H v x->ye K cl B φ (L2.upd H D u) v x
 |[],x,h=>by erw[ye]at h ⊢;exact h
 |v::vs,x,h=>by
  erw[ye]at h ⊢;let⟨y,ys,e,r,l⟩:=h;exact⟨y,ys,e,yc.skip hD v y r,ye.skip hD vs ys l⟩
end
theorem DK.skip{D:AG}{u:HO}(hD:B D):∀{kvs:List (PV×PV)} {ks:List (Key×V)},DK K cl B φ H kvs ks->DK K cl B φ (L2.upd H D u) kvs ks
 |[],ks,h=>h
 |(k,v)::r,ks,h=>by
  let⟨q,x,t,e,m,rv,l⟩:=h;exact⟨q,x,t,e,m,rv.skip hD,DK.skip hD l⟩
theorem DT.skip{D:AG}{u:HO}(hD:B D):∀{kvs:List (PV×PV)} {ks:List (List NK×V)},DT K cl B φ H kvs ks->DT K cl B φ (L2.upd H D u) kvs ks
 |[],ks,h=>h
 |(k,v)::r,ks,h=>by
  let⟨q,x,t,e,m,rv,l⟩:=h;exact⟨q,x,t,e,m,rv.skip hD,DT.skip hD l⟩
theorem FS.skip{D:AG}{u:HO}(hD:B D):∀{kvs:List (AM×PV)} {ks:List (AM×V)},FS K cl B φ H kvs ks->FS K cl B φ (L2.upd H D u) kvs ks
 |[],ks,h=>h
 |(k,v)::r,ks,h=>by
  let⟨x,t,e,rv,l⟩:=h;exact⟨x,t,e,rv.skip hD,FS.skip hD l⟩
theorem yh.skip{D:AG}{u:HO}(hD:B D)(rs:yh K cl B φ H st)(hu:∀xs,u ≠ .tup xs:=by intro _ z;cases z):yh K cl B φ (L2.upd H D u) st:=by
 refine⟨rs.len,rs.inj,λn y e=>?_,rs.liv,rs.nb,λy h=>?_,λy h xs e=>?_⟩
 .let⟨o,q,r⟩:=rs.obj n y e;have ne:y≠D:=λz=>rs.nb y (AY e) (z ▸ hD);refine⟨o,q,?_⟩
  cases o with
  |lst vs=>
   let⟨xs,hx,l⟩:=r;exact⟨xs,by rw[za ne];exact hx,l.skip hD⟩
  |dct t kvs=>
   cases t with
   |false=>
    let⟨xs,hx,l⟩:=r;exact⟨xs,by rw[za ne];exact hx,l.skip hD⟩
   |true=>
    let⟨xs,hx,l⟩:=r;exact⟨xs,by rw[za ne];exact hx,l.skip hD⟩
  |ins c fs=>
   let⟨ks,⟨dx,hx⟩,l⟩:=r;exact⟨ks,⟨dx,by rw[za ne];exact hx⟩,l.skip hD⟩
  |dead=>exact r.elim
 .by_cases z:y=D
  .subst z;exact⟨u,zc⟩
  .let⟨w,e⟩:=rs.dom y h;exact⟨w,by rw[za z];exact e⟩
 .by_cases z:y=D
  .subst z;rw[zc]at e;exact hu xs (AU e)
  .rw[za z]at e;exact rs.nt y h xs e
theorem yp.skip{D:AG}{u:HO}(hD:B D)(re:yp K cl B φ H ρ σ):yp K cl B φ (L2.upd H D u) ρ σ:=⟨re.len,λi v e=>by
 let⟨x,h,q⟩:=re.get i v e;exact⟨x,h,q.skip hD⟩⟩
def Bx(B:AG->Prop)(D:AG):AG->Prop:=λy=>B y \/ y=D
def zeE{D:AG}(hn:H D=AB):∀y,Bx B D y->B y \/ H y=none:=λy z=>z.elim .inl λq=>.inr (q ▸ hn)
theorem yc.more{D:AG}(hn:H D=AB){v:PV}{x:V}(h:yc K cl B φ H v x):yc K cl (Bx B D) φ H v x:=h.moreB (zeE hn)
theorem ye.more{D:AG}(hn:H D=AB){v:List PV}{x:List V}(h:ye K cl B φ H v x):ye K cl (Bx B D) φ H v x:=h.moreB (zeE hn)
mutual
theorem yc.less{D:AG}:∀(v:PV) (x:V),yc K cl (Bx B D) φ H v x->yc K cl B φ H v x
 |.non,x,h=>by erw[yc]at h ⊢;exact h
 |.bl b,x,h=>by erw[yc]at h ⊢;exact h
 |.int i,x,h=>by erw[yc]at h ⊢;exact h
 |.str y,x,h=>by erw[yc]at h ⊢;exact h
 |.tp k vs,x,h=>by
  erw[yc]at h ⊢;let⟨y,xs,e,r,l⟩:=h;refine⟨y,xs,e,?_,ye.less vs xs l⟩;rcases r with⟨r,b,n⟩|r
  .exact .inl ⟨r,λz=>b (.inl z),n⟩
  .exact .inr r
 |.lst vs,x,h=>by
  erw[yc]at h ⊢;let⟨y,xs,e,⟨r,b,n⟩,l⟩:=h;exact⟨y,xs,e,⟨r,λz=>b (.inl z),n⟩,ye.less vs xs l⟩
 |.loc n,x,h=>by erw[yc]at h ⊢;exact h
 |.fnc j,x,h=>by erw[yc]at h ⊢;exact h
 |.exn c,x,h=>by
  erw[yc]at h ⊢;let⟨y,e,r,b,n⟩:=h;exact⟨y,e,r,λz=>b (.inl z),n⟩
 |.scr vs,x,h=>by
  erw[yc]at h ⊢;let⟨y,xs,e,r,l⟩:=h;refine⟨y,xs,e,?_,ye.less vs xs l⟩;rcases r with⟨r,b,n⟩|r
  .exact .inl ⟨r,λz=>b (.inl z),n⟩
  .exact .inr r
theorem ye.less{D:AG}:∀(v:List PV) (x:List V),ye K cl (Bx B D) φ H v x->ye K cl B φ H v x
 |[],x,h=>by erw[ye]at h ⊢;exact h
 |v::vs,x,h=>by
  erw[ye]at h ⊢;let⟨y,ys,e,r,l⟩:=h;exact⟨y,ys,e,yc.less v y r,ye.less vs ys l⟩
end
theorem DK.more{D:AG}(hn:H D=AB):∀{kvs:List (PV×PV)} {ks:List (Key×V)},DK K cl B φ H kvs ks->DK K cl (Bx B D) φ H kvs ks
 |[],ks,h=>h
 |(k,v)::r,ks,h=>by
  let⟨q,x,t,e,m,rv,l⟩:=h;exact⟨q,x,t,e,m,rv.more hn,DK.more hn l⟩
theorem DT.more{D:AG}(hn:H D=AB):∀{kvs:List (PV×PV)} {ks:List (List NK×V)},DT K cl B φ H kvs ks->DT K cl (Bx B D) φ H kvs ks
 |[],ks,h=>h
 |(k,v)::r,ks,h=>by
  let⟨q,x,t,e,m,rv,l⟩:=h;exact⟨q,x,t,e,m,rv.more hn,DT.more hn l⟩
theorem FS.more{D:AG}(hn:H D=AB):∀{kvs:List (AM×PV)} {ks:List (AM×V)},FS K cl B φ H kvs ks->FS K cl (Bx B D) φ H kvs ks
 |[],ks,h=>h
 |(k,v)::r,ks,h=>by
  let⟨x,t,e,rv,l⟩:=h;exact⟨x,t,e,rv.more hn,FS.more hn l⟩
theorem DK.less{D:AG}:∀{kvs:List (PV×PV)} {ks:List (Key×V)},DK K cl (Bx B D) φ H kvs ks->DK K cl B φ H kvs ks
 |[],ks,h=>h
 |(k,v)::r,ks,h=>by
  let⟨q,x,t,e,m,rv,l⟩:=h;exact⟨q,x,t,e,m,rv.less,DK.less l⟩
theorem DT.less{D:AG}:∀{kvs:List (PV×PV)} {ks:List (List NK×V)},DT K cl (Bx B D) φ H kvs ks->DT K cl B φ H kvs ks
 |[],ks,h=>h
 |(k,v)::r,ks,h=>by
  let⟨q,x,t,e,m,rv,l⟩:=h;exact⟨q,x,t,e,m,rv.less,DT.less l⟩
theorem FS.less{D:AG}:∀{kvs:List (AM×PV)} {ks:List (AM×V)},FS K cl (Bx B D) φ H kvs ks->FS K cl B φ H kvs ks
 |[],ks,h=>h
 |(k,v)::r,ks,h=>by
  let⟨x,t,e,rv,l⟩:=h;exact⟨x,t,e,rv.less,FS.less l⟩
theorem yh.less{D:AG}(rs:yh K cl (Bx B D) φ H st):yh K cl B φ H st:=by
 refine⟨rs.len,rs.inj,λn y e=>?_,rs.liv,λy h z=>rs.nb y h (.inl z),λy h=>rs.dom y (.inl h),λy h=>rs.nt y (.inl h)⟩;let⟨o,q,r⟩:=rs.obj n y e;refine⟨o,q,?_⟩
 cases o with
 |lst vs=>let⟨xs,hx,l⟩:=r;exact⟨xs,hx,l.less⟩
 |dct t kvs=>cases t<;>(let⟨xs,hx,l⟩:=r;exact⟨xs,hx,l.less⟩)
 |ins c fs=>let⟨ks,hx,l⟩:=r;exact⟨ks,hx,l.less⟩
 |dead=>exact r.elim
theorem yh.more{D:AG}{u:HO}(hn:H D=AB)(rs:yh K cl B φ H st)(hu:∀xs,u ≠ .tup xs:=by intro _ z;cases z):yh K cl (Bx B D) φ (L2.upd H D u) st:=by
 have nD:AA D∉φ:=λz=>by
  let⟨w,e⟩:=rs.there z;rw[hn]at e;cases e
 have s:Step φ H φ (L2.upd H D u):=.upd hn;have rs':=rs.upd (o:=u) hn;refine⟨rs.len,rs.inj,λn y e=>?_,rs.liv,λy h z=>z.elim (rs.nb y h) λq=>nD (q ▸ h),λy h=>?_,λy h xs e=>?_⟩
 .let⟨o,q,r⟩:=rs.obj n y e;have ne:y≠D:=λz=>nD (z ▸ AY e);have hD:Bx B D D:=.inr rfl;refine⟨o,q,?_⟩
  cases o with
  |lst vs=>let⟨xs,hx,l⟩:=r;exact⟨xs,by rw[za ne];exact hx,(l.more hn).skip hD⟩
  |dct t kvs=>
   cases t with
   |false=>let⟨xs,hx,l⟩:=r;exact⟨xs,by rw[za ne];exact hx,(l.more hn).skip hD⟩
   |true=>let⟨xs,hx,l⟩:=r;exact⟨xs,by rw[za ne];exact hx,(l.more hn).skip hD⟩
  |ins c fs=>let⟨ks,⟨dx,hx⟩,l⟩:=r;exact⟨ks,⟨dx,by rw[za ne];exact hx⟩,(l.more hn).skip hD⟩
  |dead=>exact r.elim
 .rcases h with h|h
  .exact rs'.dom y h
  .subst h;exact⟨u,zc⟩
 .rcases h with h|h
  .exact rs'.nt y h xs e
  .subst h;rw[zc]at e;exact hu xs (AU e)
theorem yp.more{D:AG}{u:HO}(hn:H D=AB)(re:yp K cl B φ H ρ σ):yp K cl (Bx B D) φ (L2.upd H D u) ρ σ:=⟨re.len,λi v e=>by
 let⟨x,h,q⟩:=re.get i v e;exact⟨x,h,(q.more hn).skip (.inr rfl)⟩⟩
def yr:Tg->List (Option Nat)->Bool
 |.n i,sl=>decide (sl[i]?=AA AB)
 |.t l,sl=>l.all λi=>decide (sl[i]?=AA AB)
def zcq:∀(l:List Nat) (vs:List PV) (ρ:IC.Env) (j:Nat),j∉l->((l.zip vs).foldl (λρ p=>ρ.set p.1 (AA p.2)) ρ)[j]?=ρ[j]?
 |[],vs,ρ,j,h=>by simp
 |i::is,[],ρ,j,h=>by simp
 |i::is,v::vs,ρ,j,h=>by
  erw[C6,C2];rw[zcq is vs _ j λz=>h (AK _ z),A3]
  rintro rfl
  exact h AW
def zcS:∀(l:List Nat) (vs:List PV) (ρ:IC.Env),((l.zip vs).foldl (λρ p=>ρ.set p.1 (AA p.2)) ρ).length=ρ.length
 |[],vs,ρ=>by simp
 |i::is,[],ρ=>by simp
 |i::is,v::vs,ρ=>by
  erw[C6,C2];rw[zcS is vs,BF]
theorem yp.untgt{sl:List (Option Nat)}{ρ0 ρ1:IC.Env}{v:PV}(hf:yr ct sl=AC)(h0:∀(i:Nat),sl[i]?=AA AB->ρ0[i]?=AA AB)(hb:yo ct v ρ0=AA ρ1)(re:yp K cl B φ H ρ1 σ):yp K cl B φ H ρ0 σ:=by
 cases ct with
 |n i=>
  cases hb
  erw[yr,decide_eq_true_eq]at hf;refine⟨by rw[<-re.len,BF],λj w e=>re.get j w ?_⟩;rw[A3]
  .exact e
  .rintro rfl
   rw[h0 _ hf]at e;cases e
 |t l=>
  cases v with
  |tp k vs=>
   erw[yo]at hb;split at hb
   .cases hb
    erw[yr,Ah,decide_eq_true_eq]at hf;refine⟨by rw[<-re.len,zcS],λj w e=>re.get j w ?_⟩;rw[zcq]
    .exact e
    .intro z;rw[h0 _ (hf j z)]at e;cases e
   .cases hb
  |_=>cases hb
theorem yp.inn{sl:List (Option Nat)}(re:yp K cl B φ H ρ σ):yp K cl B φ H (sl.map λo=>o.bind λj=>(ρ[j]?).join) (L2.inn sl σ):=by
 unfold L2.inn;refine⟨by simp,λi v e=>?_⟩;rw[Au]at e ⊢
 cases q:sl[i]? with
 |none=>rw[q]at e;cases e
 |some o=>
  rw[q]at e
  cases o with
  |none=>cases e
  |some j=>
   erw[Bq,Be,B6]at e ⊢
   cases q2:ρ[j]? with
   |none=>rw[q2]at e;cases e
   |some w=>
    rw[q2]at e;erw[Option.join_some]at e;subst e;let⟨x,hx,rv⟩:=re.get j v q2;exact⟨x,by rw[hx];rfl,rv⟩
def zkH:1000000<sizeLine:=by rw[Bc];decide
def zgH{α:Type}{o:Option Bool}{k:Bool->R α}{z:α}{s:SO}(h:onO o k=.ok z s):∃b,o=AA b/\k b=.ok z s:=by
 cases o with
 |none=>cases h
 |some b=>exact⟨b,rfl,h⟩
def zf{α β:Type}{r:R α}{k:α->SO->R β}{z:β}{s:SO}(h:r.bind k=.ok z s):∃a s1,r=.ok a s1/\k a s1=.ok z s:=by
 cases r with
 |ok a s1=>exact⟨a,s1,rfl,h⟩
 |exc c s=>cases h
 |bad=>cases h
def zc4{Rel:Ph->Hp->PV->V->Prop}{r:R (List PV)}{Q:VK}(h:Run S X σ B φ H Rel (yaZ r) Q):∃zs st5,r=.ok zs st5/\zs.length<=1000000/\∀x H' φ',Step φ H φ' H'->yh X.K S.cl B φ' H' st5->Rel φ' H' (.lst zs) x->Q x H':=by
 cases r with
 |ok zs st5=>
  by_cases hz:zs.length<=1000000
  .simp only[yaZ,if_pos hz]at h;exact⟨zs,st5,rfl,hz,h⟩
  .simp only[yaZ,if_neg hz]at h;exact h.elim
 |exc k s=>exact h.elim
 |bad=>exact h.elim
def zdm{call:Nat->List PV->SO->R PV}{ρ0:IC.Env}{xs rest:List PV}{i:Nat}{v:PV}{st2 st5:SO}(hv:xs[i]?=AA v)(ec:yQ call ρ0 ct cc ce (xs.drop i) st2=.ok rest st5):
  ∃ρ1 k st6,yo ct v ρ0=AA ρ1/\yax (ev call ρ1 st2 cc)=.ok k st6/\((k=AE/\yQ call ρ0 ct cc ce (xs.drop (i+1)) st6=.ok rest st5) \/
   (k=AC/\∃y st7 rest',ev call ρ1 st6 ce=.ok y st7/\yQ call ρ0 ct cc ce (xs.drop (i+1)) st7=.ok rest' st5/\rest=y::rest')):=by
 let⟨hi,e⟩:=Ae.1 hv;rw[Ay hi,e,zk]at ec;let⟨o,st3,e1,ec⟩:=zf ec;let⟨rest',st4,e2,ec⟩:=zf ec;injection ec with q1 q2;subst q1 q2;unfold yaV at e1
 cases eb:yo ct v ρ0 with
 |none=>rw[eb]at e1;cases e1
 |some ρ1=>
  rw[eb]at e1;let⟨bv,st6,e3,e1⟩:=zf e1;let⟨k,e4,e1⟩:=zgH e1;refine⟨ρ1,k,st6,rfl,by rw[e3];erw[yax,R.bind,e4,onO],?_⟩
  cases k with
  |false=>cases e1;exact .inl ⟨rfl,e2⟩
  |true=>
   let⟨y,st7,e5,e1⟩:=zf e1
   cases e1
   exact .inr ⟨rfl,y,_,rest',e5,e2,rfl⟩
def yb2(S:Se)(K:AD)(B:AG->Prop)(D:AG)(φ1:Ph)(H1:Hp)(ρ0:IC.Env)(cB:List PV->SO->R (List PV))(zs:List PV)(st5:SO)(xs:List PV)(σc:St)(ys:List V)(H2:Hp):Prop:=
 ∃φ2 st2 vs rest,Step φ1 H1 φ2 H2/\H2 D=AA (.lst ys)/\AA D∉φ2/\yh K S.cl (Bx B D) φ2 H2 st2/\yp K S.cl (Bx B D) φ2 H2 ρ0 σc/\ye K S.cl (Bx B D) φ2 H2 vs ys/\cB xs st2=.ok rest st5/\vs++rest=zs
theorem stays{D:AG}{φ5:Ph}{H5:Hp}{u:HO}(s:Step φ H φ5 H5)(n:AA D∉φ)(e:H D=AA u):AA D∉φ5/\H5 D=AA u:=by
 refine⟨λz=>?_,s.keep D _ n e⟩;rcases s.new D z with q|q
 .exact n q
 .rw[e]at q;cases q
theorem yb2.skip{D:AG}{cB:List PV->SO->R (List PV)}{zs:List PV}{st5:SO}{xs:List PV}{φ2 φ5:Ph}{H2 H5:Hp}{ρ0 ρ1:IC.Env}{σ4:St}{st6:SO}{vs rest:List PV}{ys:List V}{v:PV}(s2:Step φ1 H1 φ2 H2)(s5:Step φ2 H2 φ5 H5)(nD:AA D∉φ2)(hD:H2 D=AA (.lst ys))
  (rs:yh K S.cl (Bx B D) φ5 H5 st6) (hf:yr ct (sl:List (Option Nat))=AC) (h0:∀(i:Nat),sl[i]?=AA AB->ρ0[i]?=AA AB) (hb:yo ct v ρ0=AA ρ1) (re:yp K S.cl (Bx B D) φ2 H2 ρ1 σ4) (l:ye K S.cl (Bx B D) φ2 H2 vs ys) (ec:cB xs st6=.ok rest st5) (ez:vs++rest=zs):
  yb2 S K B D φ1 H1 ρ0 cB zs st5 xs σ4 ys H5:=⟨φ5,st6,vs,rest,s2.trans s5,(stays s5 nD hD).2,(stays s5 nD hD).1,rs,yp.untgt hf h0 hb (re.step s5),l.step s5,ec,ez⟩
theorem yb2.put{D:AG}{cB:List PV->SO->R (List PV)}{zs:List PV}{st5:SO}{xs:List PV}{φ2 φ5:Ph}{H2 H5:Hp}{ρ0 ρ1:IC.Env}{σ4:St}{st7:SO}{vs rest:List PV}{ys:List V}{v y:PV}{y':V}(hn:H1 D=AB)(s2:Step φ1 H1 φ2 H2)(s5:Step φ2 H2 φ5 H5)(nD:AA D∉φ2)(hD:H2 D=AA (.lst ys))
  (rs:yh K S.cl (Bx B D) φ5 H5 st7) (ry:yc K S.cl (Bx B D) φ5 H5 y y') (hf:yr ct (sl:List (Option Nat))=AC) (h0:∀(i:Nat),sl[i]?=AA AB->ρ0[i]?=AA AB) (hb:yo ct v ρ0=AA ρ1) (re:yp K S.cl (Bx B D) φ2 H2 ρ1 σ4) (l:ye K S.cl (Bx B D) φ2 H2 vs ys) (ec:cB xs st7=.ok rest st5) (ez:vs++y::rest=zs):
  H5 D=AA (.lst ys)/\yb2 S K B D φ1 H1 ρ0 cB zs st5 xs σ4 (ys++[y']) (L2.upd H5 D (.lst (ys++[y']))):=by
 let⟨n5,h5⟩:=stays s5 nD hD;have hBD:Bx B D D:=.inr rfl;have s16:=s2.trans s5;exact⟨h5,φ5,st7,vs++[y],rest,⟨λb o n q=>by rw[za (zd q hn)];exact s16.keep b o n q,s16.len,s16.pre,s16.new⟩,zc,n5,rs.skip hBD,(yp.untgt hf h0 hb (re.step s5)).skip hBD,
  ((l.step s5).append (by erw[ye];exact⟨y',[],rfl,ry,rfl⟩)).skip hBD,ec,by rw[D5];exact ez⟩
def zax{sl:List (Option Nat)}(i:Nat)(q:sl[i]?=AA AB):(sl.map λo=>o.bind λj=>(ρ[j]?).join)[i]?=AA none:=by
 rw[Au,q];rfl
def zdn{sl:List (Option Nat)}(hf:yr ct sl=AC){J:It}{xs zs:List PV}{st1 st5:SO}{Q:VK}(rs1:yh X.K S.cl B φ H st1)(re1:yp X.K S.cl B φ H ρ σ)(dr:RD S X B φ H xs J){D:AG}(hD:H D=AB)
  (e:yQ S.call (sl.map λo=>o.bind λj=>(ρ[j]?).join) ct cc ce xs st1=.ok zs st5) (hz:zs.length<=1000000) (h1:∀x H' φ',Step φ H φ' H'->yh X.K S.cl B φ' H' st5->RV S X B φ' H' (.lst zs) x->Q x H'):
  ∃W:Nat->Nat->St->List V->Hp->Prop,(∃m,W 0 m (inn sl σ) [] (L2.upd H D (.lst [])))/\ybH J D (tG0 S X.K ct) (tT0 S X.K cc) (tE0 S X.K ce) W (Q (.ref D)):=by
 have nB:¬B D:=rs1.nB hD;have nD:AA D∉φ:=λz=>by
  let⟨w,e⟩:=rs1.there z;rw[hD]at e;cases e
 have r0:yp X.K S.cl (Bx B D) φ (L2.upd H D (.lst [])) (sl.map λo=>o.bind λj=>(ρ[j]?).join) (inn sl σ):=(yp.inn re1).more hD;have h0:=zax (ρ:=ρ) (sl:=sl);generalize (sl.map λo=>o.bind λj=>(ρ[j]?).join)=ρ0 at *;refine⟨λi m σc ys H2=>i+m=xs.length/\yb2 S X.K B D φ H ρ0 (yQ S.call ρ0 ct cc ce) zs st5 (xs.drop i) σc ys H2,
  ⟨xs.length,by lia,φ,st1,[],zs,.upd hD,zc,nD,rs1.more hD,r0,by erw[ye],by simpa using e,rfl⟩,?_⟩
 rintro i m σc ys H2 ⟨hm,φ2,st2,vs,rest,s2,hD2,nD2,rs2,re2,l2,ec,ez⟩
 refine⟨hD2,?_⟩
 by_cases hi:i<xs.length
 .have hzl:=congrArg Bd ez;rw[Aq,l2.length]at hzl;refine .inr ⟨dr.go i φ2 H2 s2 hi,DV ∅ zkH,λσ' ys' H'=>yb2 S X.K B D φ H ρ0 (yQ S.call ρ0 ct cc ce) zs st5 (xs.drop (i+1)) σ' ys' H',λσ' ys' H' q=>⟨m-1,by lia,by lia,q⟩,λx H3 hy=>?_⟩;let⟨v,hv,rv,kk⟩:=dr.yld i φ2 H2 st2 x H3 (Bx B D) (λy z=>z.elim .inl λq=>.inr (q ▸ hD)) s2 rs2 hi hy;have s3:Step φ2 H2 φ2 H3:=⟨λb o _ e=>kk b o e,AN _,λ_ _ _ e=>e,λ_ h=>.inl h⟩;let⟨ρ1,k,st6,eb,et,q⟩:=zdm hv ec;refine⟨Bx B D,φ2,st2,_,v,ρ1,rs2.same kk,re2.step s3,rv,eb,λσ4 re4=>⟨Bx B D,φ2,st2,ρ1,rs2.same kk,re4,?_⟩⟩;rw[et]
  rintro k' H5 φ5 s5 rs5 rfl
  rcases q with⟨rfl,e2⟩|⟨rfl,y,st7,rest',e5,e2,rfl⟩
  .exact yb2.skip (s2.trans s3) s5 nD2 (kk D _ hD2) rs5 hf h0 eb re4 (l2.step s3) e2 ez
  .refine⟨Bx B D,φ5,st6,ρ1,rs5,re4.step s5,?_⟩;rw[e5];intro y' H6 φ6 s6 rs6 ry;exact yb2.put hD (s2.trans s3) (s5.trans s6) nD2 (kk D _ hD2) rs6 ry hf h0 eb re4 (l2.step s3) e2 ez
 .have ei:i=xs.length:=by lia
  subst ei;rw[CF]at ec
  cases ec
  refine .inl ⟨dr.stop φ2 H2 s2,h1 (.ref D) H2 φ2 s2 rs2.less ?_⟩;erw[yc];exact⟨D,ys,rfl,⟨hD2,nB,nD2⟩,by rw[<-ez,BN];exact l2.less⟩
def zbC{sl:List (Option Nat)}(hf:yr ct sl=AC){H:Hp}{Q:VK}(h:tE S X (.comp sl ct ci cc ce) σ H Q):ybP sl (tI S X ci) (tG0 S X.K ct) (tT0 S X.K cc) (tE0 S X.K ce) σ H Q:=by
 let⟨B,φ,st,ρ,rs,re,h⟩:=h;rw[v_comp]at h;refine⟨B,φ,st,ρ,rs,re,(Run.bind h).mono λJ H1 kq=>?_⟩;let⟨xs,st1,φ1,s1,rs1,dr,h1⟩:=kq;refine λD hD=>?_;let⟨zs,st5,e,hz,h1⟩:=zc4 h1;exact zdn hf rs1 (re.step s1) dr hD e hz h1
def zh2{sc:An}{NC:List AM}{sl:List (Option Nat)}{ifs:List AL}(hc:X.calm=AC)(O:yJ X sc NC sl)(hf:yr ct sl=AC)(hi:PI X tg iter (tI S X ci))(hg:∀j,PG (cxC X sc NC j) tg (tG0 S X.K ct))
  (ht:∀j,PTs (cxC X sc NC j) ifs (tT0 S X.K cc)) (he:∀j,PE (cxC X sc NC j) elt (tE0 S X.K ce)) (hs:∀x,foldedSetIterable iter X.env x=pure x:=by intro _;rfl):
  PE X (.ListComp elt [⟨tg,iter,ifs,0⟩] sc pos) (tE S X (.comp sl ct ci cc ce)):=
 (zgU hc O hi hg ht he hs).imp λσ H Q h=>zbC hf h
def zhQ{sc:An}{NC:List AM}{sl:List (Option Nat)}{ifs:List AL}{i:Nat}{x:AM}{spos:BX}(hN:X.N.Nodup)(hix:X.N[i]?=AA x)(hx:Loc X.env.scope x)(hc:X.calm=AC)(O:yJ X sc NC sl)(hf:yr ct sl=AC)(hi:PI X tg iter (tI S X ci))(hg:∀j,PG (cxC X sc NC j) tg (tG0 S X.K ct))
  (ht:∀j,PTs (cxC X sc NC j) ifs (tT0 S X.K cc)) (he:∀j,PE (cxC X sc NC j) elt (tE0 S X.K ce))
  (hsw:swapsWith (.ListComp elt [⟨tg,iter,ifs,0⟩] sc pos) (AA (.Name x px)) spos.line X.env=pure true:=by rfl) (hs:∀x,foldedSetIterable iter X.env x=pure x:=by intro _;rfl)
  (hfn:X.fn x=AC \/ X.env.scope.names.lookup x=AA .local:=by first|exact .inl rfl|exact .inr rfl|assumption):PS X (.Assign [.Name x px] (.ListComp elt [⟨tg,iter,ifs,0⟩] sc pos) spos) (tS S X (.asg (.n i) (.comp sl ct ci cc ce))):=
 (zeQ hN hix hx hc O hi hg ht he hsw hs hfn).imp λD σ H ⟨B,φ,st,ρ,rs,re,h⟩=>by
  refine zbC hf ?_;erw[ex]at h;exact tE.fl rs re h λx H1 v st1 φ1 s rs1 re1 rv h1=>h1 _ H1 φ1 .rfl rs1 (re1.set i rv)
end
def spI(K:AD)(cl:Nat->AG)(call:Nat->List PV->SO->R PV)(f:Nat):Sp:=λvs H Q E=>∃B φ st args,yh K cl B φ H st/\ye K cl B φ H args vs/\match call f args st with
 |.ok v st'=>∀x H' φ',Step φ H φ' H'->yh K cl B φ' H' st'->yc K cl B φ' H' v x->Q x H'
 |.exc c st'=>∀H' φ',Step φ H φ' H'->yh K cl B φ' H' st'->E (.ref (cl c)) AB H'
 |.bad=>False
section
variable {S:Se}{X:Cx}{k:Nat}{f:AG}{fd:Al}{ps ks:List AM}{sp:Sp}{dvs:List V}{ds:List AF}{x:AM}{p pos:BX}{e:AL}{es:List AL}{t tk:TA}{CX:CXT}{σ:St}{H:Hp}
def zck{π:List (AG×BW)}{s:AH}{Q:VK}{us:List AF}{vs:List V}{E:XK}(F:yaM X.prog X.w X.K X.mg X.base CX k f fd ps sp)(hr:yat k X.A)(hb:Binds X.K fd ps ds)(hd:Vals dvs ds)
  (I:Inv X π σ H s) (r:Vals vs us) (h:sp (vs++dvs) H Q E) (hx:∀e s',CX X.stack H s E e s'->X.xe e s'):A2 (model X.prog X.w) X.A (call (.ref f) us) (EP X π σ Q) X.xe s:=by
 have r2:Vals (vs++dvs) (us++ds):=r.append hd;have hl:(us++ds).length=ps.length:=by rw[<-r2.length];exact F.len _ _ _ _ h
 refine wpAny_call (Du (F.run X.A X.stack s H ⟨us,[]⟩ (us++ds) (vs++dvs) Q E hr I.env0 (hb s us I.kIn hl) r2 h) λr s' hq=>?_)
 cases r with
 |error e=>exact hx e s' hq
 |ok fl=>
  cases fl with
  |ret u=>exact I.after hq
  |next=>exact BP hq
  |brk=>exact BP hq
  |cont=>exact BP hq
def ybY(CX:CXT)(X:Cx)(sp:Sp)(dvs:List V)(t:TA):TE:=λσ H Q=>t σ H λvs H1=>∃E:XK,sp (vs++dvs) H1 Q E/\∀π s e s',Inv X π σ H1 s->CX X.stack H1 s E e s'->X.xe e s'
def zfN(F:yaM X.prog X.w X.K X.mg X.base CX k f fd ps sp)(hr:yat k X.A)(hg:Gl X x)(hm:X.mg x=AA (.ref f))(hk:Ad X.K (.ref f)=AC)(hb:Binds X.K fd ps ds)(hd:Vals dvs ds)
  (ha:PA X (e::es) t) (hdb:(x==("__debug__":AM))=false:=by decide) (he:starEach (e::es) X.env=(AE,eval e X.env)::starEach es X.env:=by rfl) (hpl:(backTo pos (starEach es X.env)).any (·.1)=false:=by rfl):
  PE X (.Call (.Name x p) (e::es) [] pos) (ybY CX X sp dvs t):=by
 intro π s σ H Q I h;refine BQ (zaP I hg hm ?_ hdb);refine Eg (h₀:=X.base) I.ok.mod.kin hk (thn (ha pos π s σ H _ I h) λus s1 kq=>?_) he hpl;let⟨vs,H1,I1,r,E,q,hx⟩:=kq;refine ⟨I1.kIn,?_⟩;exact zck F hr hb hd I1 r q λe s' c=>hx π s1 e s' I1 c
def zdR(F:yaM X.prog X.w X.K X.mg X.base CX k f fd ps sp)(hr:yat k X.A)(hg:Gl X x)(hm:X.mg x=AA (.ref f))(hk:Ad X.K (.ref f)=AC)(hb:Binds X.K fd ps ds)(hd:Vals dvs ds)
  (hdb:(x==("__debug__":AM))=false:=by decide):PE X (.Call (.Name x p) [] [] pos) (ybY CX X sp dvs yd7):=by
 intro π s σ H Q I h;let⟨E,q,hx⟩:=h;refine BQ (zaP I hg hm ?_ hdb);exact PySem.W.callWith_K0 I.kIn hk (zck F hr hb hd I .nil q λe s' c=>hx π s e s' I c)
variable {B:AG->Prop}{φ:Ph}{st:SO}{ces:Ces}{fi:Nat}
def z8{vs:List PV}{xs:List V}{Q:VK}(rs:yh X.K S.cl B φ H st)(l:ye X.K S.cl B φ H vs xs)(h:Run S X σ B φ H (RV S X B) (S.call fi vs st) Q):
  ∃E:XK,spI X.K S.cl S.call fi xs H Q E/\∀π s e s',Inv X π σ H s->CX1 X.prog X.w X.stack H s E e s'->X.xe e s':=by
 cases c:S.call fi vs st with
 |ok v st'=>
  rw[c]at h;refine⟨λ_ _ _=>False,⟨B,φ,st,vs,rs,l,by rw[c];exact h⟩,λπ s e s' _ z=>?_⟩;let⟨_,_,_,_,_,_,_,_,_,_,_,_,_,_,z⟩:=z;exact z.elim
 |exc k st'=>
  rw[c]at h;refine⟨λcls _ H'=>cls=.ref (S.cl k)/\∃φ',Step φ H φ' H'/\yh X.K S.cl B φ' H' st',⟨B,φ,st,vs,rs,l,by rw[c];exact λH' φ' s r=>⟨rfl,φ',s,r⟩⟩,λπ s e s' I z=>h e s' (.inl ⟨π,H,s,φ,I,.rfl,z⟩)⟩
 |bad=>rw[c]at h;exact h.elim
def zhV(F:yaM X.prog X.w X.K X.mg X.base (CX1 X.prog X.w) k f fd ps (spI X.K S.cl S.call fi))(hr:yat k X.A)(hg:Gl X x)(hm:X.mg x=AA (.ref f))(hk:Ad X.K (.ref f)=AC)(hb:Binds X.K fd ps [])
  (ha:PA X (e::es) (tAs S X ces)) (hdb:(x==("__debug__":AM))=false:=by decide) (he:starEach (e::es) X.env=(AE,eval e X.env)::starEach es X.env:=by rfl) (hpl:(backTo pos (starEach es X.env)).any (·.1)=false:=by rfl):
  PE X (.Call (.Name x p) (e::es) [] pos) (tE S X (.call fi ces)):=
 (zfN F hr hg hm hk hb .nil ha hdb he hpl).imp λσ H Q ⟨B,φ,st,ρ,rs,re,h⟩=>by
  erw[ev]at h;refine tAs.bind rs re h λxs H1 vs st1 φ1 s1 rs1 re1 rv h1=>?_;rw[BN];exact z8 rs1 rv h1
def zfw(F:yaM X.prog X.w X.K X.mg X.base (CX1 X.prog X.w) k f fd ps (spI X.K S.cl S.call fi))(hr:yat k X.A)(hg:Gl X x)(hm:X.mg x=AA (.ref f))(hk:Ad X.K (.ref f)=AC)(hb:Binds X.K fd ps [])
  (hdb:(x==("__debug__":AM))=false:=by decide):PE X (.Call (.Name x p) [] [] pos) (tE S X (.call fi .nil)):=
 (zdR F hr hg hm hk hb .nil hdb).imp λσ H Q ⟨B,φ,st,ρ,rs,re,h⟩=>by
  erw[ev,evs,R.bind]at h;exact z8 rs (by erw[ye];rfl) h
end
section
variable {P:A1}{w:Ab}{K:AD}{mg:AM->Option AF}{base:Ao}{cl:Nat->AG}{T:Nat->Option IC.Fn}{fi:Nat}{fn:IC.Fn}{x qual:AM}{stm:B8}{f:AG}{fd:Al}{N ps:List AM}{k:Nat}
theorem CX1.mono{outer:List BC}{H:Hp}{s:AH}{E E':XK}{e:AF}{s':AH}(h:CX1 P w outer H s E e s')(n:∀cls H',E cls AB H'->E' cls AB H'):CX1 P w outer H s E' e s':=by
 let⟨a,cls,a0,H',Bh,r1,r2,r3,r4,r5,r6,r7,r8,r9,r10⟩:=h;exact⟨a,cls,a0,H',Bh,r1,r2,r3,r4,r5,r6,r7,r8,r9,n _ _ r10⟩
theorem yp.start{B:AG->Prop}{φ:Ph}{H:Hp}{args:List PV}{vs:List V}(l:ye K cl B φ H args vs)(n:Nat)(hn:N.length-vs.length=n):yp K cl B φ H (args.map AA++Am n AB) (L2.start N vs):=by
 have hl:=l.length;unfold L2.start;refine⟨by simp[hl,hn],λi v e=>?_⟩
 by_cases hi:i<args.length
 .rw[AO (by simpa using hi),Au]at e
  cases q:args[i]? with
  |none=>rw[q]at e;cases e
  |some v'=>
   rw[q]at e
   cases e
   let⟨y,hy,rv⟩:=l.get i q;exact⟨y,by rw[AO (by simp;lia),Au,hy];rfl,rv⟩
 .rw[A0 (by simp;lia),De]at e;split at e<;>cases e
theorem leave{N:List AM}{scope:An}{cd:AF}{A:A5}{outer:List BC}{s₀:AH}{H₀:Hp}{E:XK}{call:Nat->List PV->SO->R PV}{σ:St}{B:AG->Prop}{φ:Ph}{H:Hp}{c:Nat}{st':SO}{e:AF}{s':AH}
  (h:ExcAt ⟨cl,call,AC⟩ (yav (CX1 P w) P w K mg base N qual scope f cd A outer s₀ H₀ E) σ B φ H c st' e s') (n:∀φ' H',Step φ H φ' H'->yh K cl B φ' H' st'->E (.ref (cl c)) AB H'):
  (yav (CX1 P w) P w K mg base N qual scope f cd A outer s₀ H₀ E).xe e s':=by
 rcases h with⟨π,H1,s,φ1,I,s1,q⟩|⟨_,π,H1,s,φ1,h',e0,vs,I,s1,rs,mk,rfl,rfl⟩|⟨_,π,H1,s,I,q⟩
 .exact zk8 π σ H1 s e s' I (q.mono λcls H' ⟨e1,φ',s2,r⟩=>by subst e1;exact n φ' H' (s1.trans s2) r)
 .exact zeM I mk (n φ1 H1 s1 rs)
 .exact zla I (q.mono λcls H' ⟨e1,φ',s2,r⟩=>by subst e1;exact n φ' H' s2 r)
def zed(hT:T fi=AA fn):∀(args:List PV) (st:SO),yd T (k+1) fi args st ≠ .bad->args.length=fn.np:=λargs st hne=>by
 apply Classical.byContradiction;intro c;apply hne;rw[yd,hT];exact if_neg c
def zgN(hT:T fi=AA fn)(hnp:ps.length=fn.np){vs:List V}{H:Hp}{Q:VK}{E:XK}(h:spI K cl (yd T (k+1)) fi vs H Q E):vs.length=ps.length:=by
 let⟨B,φ,st,args,rs,l,h⟩:=h;rw[hnp,<-l.length];refine zed (k:=k) hT args st λz=>?_;rw[z]at h;exact h
def zhl(hT:T fi=AA fn)(hns:N.length=fn.ns){scope:An}{cdv:AF}{A:A5}{outer:List BC}{s:AH}{vs:List V}{H:Hp}{Q:VK}{E:XK}(h:spI K cl (yd T (k+1)) fi vs H Q E):
  tSs ⟨cl,yd T k,AC⟩ (yav (CX1 P w) P w K mg base N qual scope f cdv A outer s H E) fn.body {nx:=λ_ H'=>Q .non H',rt:=Q} (L2.start N vs) H:=by
 let⟨B,φ,st,args,rs,l,h⟩:=h;have hl:args.length=fn.np:=zed (k:=k) hT args st λz=>by rw[z]at h;exact h
 have hlen:=l.length;rw[yd,hT]at h;dsimp only at h;rw[if_pos hl]at h
 by_cases hp:fn.pure=AC
 .rw[if_pos hp]at h
  by_cases hz:nLs args=AC
  .rw[if_pos hz]at h;have rs0:yh K cl (λa=>B a \/ AA a∈φ) [] H []:=⟨rfl,λm n a e=>by simp at e,λn a e=>by simp at e,λn o e=>by simp at e,λa z=>by simp at z,λa z=>z.elim (rs.dom a) rs.there,λa z xs e=>z.elim (λb=>rs.nt a b xs e) λq=>rs.untup q e⟩;have back:∀{φ':Ph} {H':Hp},Step [] H φ' H'->Step φ H φ H'/\yh K cl B φ H' st:=λ{φ' H'} s'=>
    have kk:∀b o,H b=AA o->H' b=AA o:=λb o e=>s'.keep b o (by simp) e
    ⟨⟨λb o _ e=>kk b o e,AN _,λ_ _ _ e=>e,λ_ h=>.inl h⟩,rs.same kk⟩
   refine⟨_,[],[],_,rs0,yp.start (ye.inn rs.nb args vs hz l) (fn.ns-fn.np) ∅,?_⟩;show yX _ _ _ _ _ (exs (yd T k) (args.map AA++Am (fn.ns-fn.np) AB) [] fn.body) _
   cases e:exs (yd T k) (args.map AA++Am (fn.ns-fn.np) AB) [] fn.body with
   |nx ρ' st'=>
    rw[e]at h;intro σ' H' φ' s' rs' re';let⟨s2,r2⟩:=back s';exact h .non H' φ s2 r2 (by erw[yc])
   |rt v st'=>
    rw[e]at h;dsimp only at h
    by_cases hv:nL v=AC
    .rw[if_pos hv]at h;intro y H' φ' s' rs' rv;let⟨s2,r2⟩:=back s';exact h y H' φ s2 r2 (yc.out v y hv rv)
    .rw[if_neg hv]at h;exact h.elim
   |exc c ρ' st'=>
    rw[e]at h;intro σ' φ1 H1 ev s' s1 _ ex;refine leave ex λφ2 H2 s2 _=>?_;let⟨s3,r3⟩:=back (s1.trans s2);exact h H2 φ s3 r3
   |bk ρ' st'=>rw[e]at h;exact h.elim
   |ct ρ' st'=>rw[e]at h;exact h.elim
   |bad=>rw[e]at h;exact h.elim
  .rw[if_neg hz]at h;exact h.elim
 .rw[if_neg hp]at h;refine⟨B,φ,st,_,rs,yp.start l (fn.ns-fn.np) ∅,?_⟩;show yX _ _ _ _ _ (exs (yd T k) (args.map AA++Am (fn.ns-fn.np) AB) st fn.body) _
  cases e:exs (yd T k) (args.map AA++Am (fn.ns-fn.np) AB) st fn.body with
  |nx ρ' st'=>
   rw[e]at h;intro σ' H' φ' s' rs' re';exact h .non H' φ' s' rs' (by erw[yc])
  |rt v st'=>
   rw[e]at h;intro y H' φ' s' rs' rv;exact h y H' φ' s' rs' rv
  |exc c ρ' st'=>
   rw[e]at h;intro σ' φ1 H1 ev s' s1 _ ex;exact leave ex λφ2 H2 s2 r2=>h H2 φ2 (s1.trans s2) r2
  |bk ρ' st'=>rw[e]at h;exact h.elim
  |ct ρ' st'=>rw[e]at h;exact h.elim
  |bad=>rw[e]at h;exact h.elim
end
def tyN:Ty->String
 |.int=>"int" | .bool=>"bool" | .str=>"str" | .tuple=>"tuple" | .list=>"list" | _=>""
structure ydP(K:AD)(t:Ty):Prop where
 n:Ax K (.type "NoneType") (.type (tyN t))=AA (yaO .non t)
 b:Ax K (.type "bool") (.type (tyN t))=AA (yaO (.bl AC) t)
 i:Ax K (.type "int") (.type (tyN t))=AA (yaO (.int 0) t)
 s:Ax K (.type "str") (.type (tyN t))=AA (yaO (.str Cn) t)
 p:Ax K (.type "tuple") (.type (tyN t))=AA (yaO (.tp AC []) t)
 l:Ax K (.type "list") (.type (tyN t))=AA (yaO (.lst []) t)
section
variable {S:Se}{X:Cx}{σ:St}{B:AG->Prop}{φ:Ph}{H:Hp}{st:SO}{p pos p2 px:BX}{a b c d o:AL}{ca cb cc:Ce}{t:Ty}
def ygd(S:Se)(X:Cx)(t:Ty):List V->Hp->VK->Prop:=λxs H Q=>∃B φ st v x z,xs=[x,.ty (tyN t)]/\yh X.K S.cl B φ H st/\yc X.K S.cl B φ H v x/\ybi v [t]=AA z/\ycI t=AC /\
 ∀z' H' φ',Step φ H φ' H'->yh X.K S.cl B φ' H' st->yc X.K S.cl B φ' H' z z'->Q z' H'
def ziR(Z:ydP X.K t):yab X (.builtin "isinstance") (ygd S X t):=by
 rintro π s σ H xs us Q I r ⟨B,φ,st,v,x,z,rfl,rs,rv,e,hb,q⟩
 let⟨u,c',rfl,ru,rc⟩:=vals2 r
 cases (show c'=F3 (tyN t)from rc)
 have fin:∀(k:Bool) (tk:Nat),z=.bl k->EP X π σ Q (.bool k) {s with toks:=tk}:=λk tk ez=>⟨.bl k,H,I.tok tk,rfl,q _ H φ .rfl rs (by subst ez;erw[yc])⟩
 cases v with
 |non=>
  erw[yc]at rv;subst rv
  cases (show u=Bf from ru)
  erw[ybi,hb,if_true]at e;exact CL PySem.W.kitx_none I.kIn CU Z.n (λz=>nomatch z) λtk=>fin _ tk (by cases e;cases t<;>rfl)
 |bl k=>
  erw[yc]at rv;subst rv
  cases (show u=CS k from ru)
  erw[ybi,hb,if_true]at e;exact CL PySem.W.kitx_bool I.kIn CU Z.b (λz=>nomatch z) λtk=>fin _ tk (by cases e;cases t<;>rfl)
 |int k=>
  erw[yc]at rv;subst rv;let⟨tk,rfl⟩:=ru;erw[ybi,hb,if_true]at e;exact CL PySem.W.kitx_int I.kIn CU Z.i (λz=>nomatch z) λtk=>fin _ tk (by cases e;cases t<;>rfl)
 |str k=>
  erw[yc]at rv;subst rv;let⟨tk,rfl⟩:=ru;erw[ybi,hb,if_true]at e;exact CL PySem.W.kitx_str I.kIn CU Z.s (λz=>nomatch z) λtk=>fin _ tk (by cases e;cases t<;>rfl)
 |tp k vs=>
  erw[yc]at rv;let⟨y,ys,rfl,rt,l⟩:=rv
  cases (show u=BA y from ru)
  erw[ybi,hb,if_true]at e;let⟨its,_,⟨o,g,c,_,_⟩,_⟩:=I.tuple rt.sq;exact CL PySem.W.kitx_tuple I.kIn ⟨o,g,c⟩ Z.p (λz=>nomatch z) λtk=>fin _ tk (by cases e;cases t<;>rfl)
 |lst vs=>
  erw[yc]at rv;let⟨y,ys,rfl,rt,l⟩:=rv
  cases (show u=BA y from ru)
  erw[ybi,hb,if_true]at e;let⟨_,_,n,_,h1⟩:=(show yH X.prog X.w H s.heap y (.lst ys)from I.hok y _ rt.1);exact CL PySem.W.kitx_list I.kIn ⟨_,h1,rfl⟩ Z.l (λz=>nomatch z) λtk=>fin _ tk (by cases e;cases t<;>rfl)
 |loc n=>cases e
 |scr n=>cases e
 |fnc n=>cases e
 |exn n=>erw[ybi,BB,List.all_nil,hb,CN,if_true]at e;cases e
def zi1{T:AM}(Z:ydP X.K t)(ht:ycI t=AC)(hg:Gl X "isinstance")(hm:X.mg "isinstance"=AB)(hgT:Gl X T)(hmT:X.mg T=AB)(hT:bootBuiltins T=AA (.type (tyN t)))(ha:PE X a (tE S X ca))(hnT:T ≠ "__name__":=by decide)(hdT:(T==("__debug__":AM))=false:=by decide)
  (he:starEach [a,.Name T p2] X.env=(AE,eval a X.env)::starEach [.Name T p2] X.env:=by rfl) (hpl:(backTo pos (starEach [.Name T p2] X.env)).any (·.1)=false:=by rfl):
  PE X (.Call (.Name "isinstance" p) [a,.Name T p2] [] pos) (tE S X (.isi ca [t])):=
 (zcT (ziR Z) hg hm FZ (zV ha (zV (zhJ (v:=.ty (tyN t)) hgT hmT hT rfl hnT hdT) zkF) he) ⋯ ⋯ he hpl).imp λσ H Q ⟨B,φ,st,ρ,rs,re,h⟩=>by
  erw[ev]at h;refine tE.bind rs re h λx H1 v st1 φ1 s1 rs1 re1 rv h1=>?_;let⟨z,e,q⟩:=zC h1 rs1;exact⟨B,φ1,st1,v,x,z,rfl,rs1,rv,e,ht,q⟩
def zfP{st4:SO}{x y v:PV}(h:ya1 st x y v=AA st4):∃n xs k j,x=.loc n/\st[n]?=AA (.lst xs)/\y=.int k/\ixI xs.length k=AA j/\st4=st.set n (.lst (xs.set j v)):=by
 cases x with
 |loc n=>
  erw[ya1]at h
  cases q:st[n]? with
  |none=>rw[q]at h;cases h
  |some o=>
   rw[q]at h
   cases o with
   |lst xs=>
    cases y with
    |int k=>
     dsimp only at h
     cases q2:ixI xs.length k with
     |none=>rw[q2]at h;cases h
     |some j=>rw[q2]at h;exact⟨n,xs,k,j,rfl,q,rfl,q2,(AU h).symm⟩
    |_=>cases h
   |_=>cases h
 |_=>cases h
theorem ye.put{K:AD}{cl:Nat->AG}:∀{vs:List PV} {xs:List V} (j:Nat) {v:PV} {x:V},ye K cl B φ H vs xs->yc K cl B φ H v x->ye K cl B φ H (vs.set j v) (xs.set j x)
 |[],xs,j,v,x,l,r=>by erw[ye]at l;subst l;simp[ye]
 |w::vs,xs,0,v,x,l,r=>by
  erw[ye]at l;let⟨y,ys,rfl,_,l⟩:=l;erw[BR,ye];exact⟨x,ys,rfl,r,l⟩
 |w::vs,xs,j+1,v,x,l,r=>by
  erw[ye]at l;let⟨y,ys,rfl,ry,l⟩:=l;erw[BS,ye];exact⟨y,ys.set j x,rfl,ry,ye.put j l r⟩
def zis(he:PE X a (tE S X ca))(ho:PE X b (tE S X cb))(hi:PE X c (tE S X cc))(hs:swapsWithSole [.Subscript b c px] a pos.line X.env=pure false:=by rfl)(hw:swappedStores [.Subscript b c px] a X.env=pure none:=by rfl)
  (hg:PG X (.Subscript b c px) (yew (tE S X cb) (tE S X cc) ycQ):=by exact zgO ‹_› ‹_› zcw):PS X (.Assign [.Subscript b c px] a pos) (tS S X (.six cb cc ca)):=
 (zgD he hg hs hw).imp λD σ H ⟨B,φ,st,ρ,rs,re,h⟩=>by
  erw[ex]at h;refine tE.fl rs re h λv' H1 v st1 φ1 s1 rs1 re1 rv h1=>tE.fl rs1 re1 h1 λx' H2 x st2 φ2 s2 rs2 re2 rx h2=>tE.fl rs2 re2 h2 λy' H3 y st3 φ3 s3 rs3 re3 ry h3=>?_
  cases e:ya1 st3 x y v with
  |none=>rw[e]at h3;exact h3.elim
  |some st4=>
   rw[e]at h3;let⟨n,xs,k,j,rfl,hn,rfl,hj,rfl⟩:=zfP e;erw[yc]at ry;subst ry;let⟨l,ys,rfl,hp,hx,lr⟩:=rs3.list (rx.step s3) hn;refine⟨l,ys,k,j,rfl,rfl,hx,by rw[<-lr.length];exact hj,?_⟩;have s4:Step φ3 H3 φ3 (L2.upd H3 l (.lst (ys.set j v'))):=.put (AY hp);exact h3 σ _ φ3 s4 (rs3.put hp ⟨_,zc,(lr.put j ((rv.step s2).step s3)).step s4⟩) (re3.step s4)
end
section
variable {S:Se}{X:Cx}{σ:St}{B:AG->Prop}{φ:Ph}{H:Hp}{st:SO}{p pos p2 px py pt pt2 apos:BX}{a b c d o:AL}{ca cb cc:Ce}{kt k2:Nat}
def ziZ{i j:Nat}{x y:AM}(hc:X.calm=AC)(hN:X.N.Nodup)(hi:X.N[i]?=AA x)(hj:X.N[j]?=AA y)(hij:i≠j)(h:PS X (.Assign [.Tuple [.Name x px,.Name y py] kt pt] (.Tuple [a,b] k2 pt2) pos) (yeQ i j (tAs S X (.cons ca (.cons cb .nil))))):
  PS X (.Assign [.Tuple [.Name x px,.Name y py] kt pt] (.Tuple [a,b] k2 pt2) pos) (tS S X (.asg (.t [i,j]) (.tup (.cons ca (.cons cb .nil))))):=
 h.imp λD σ H ⟨B,φ,st,ρ,rs,re,h⟩=>by
  erw[ex,ev]at h;refine⟨B,φ,st,ρ,rs,re,?_⟩
  cases e:evs S.call ρ st (.cons ca (.cons cb .nil))with
  |bad=>rw[e]at h;exact h
  |exc k st'=>rw[e]at h;exact λe s' x=>h σ φ H e s' .rfl re x
  |ok vs st'=>
   rw[e]at h;intro xs H' φ' s rs' l;erw[R.bind]at h;split at h
   .rcases vs with _|⟨v,_|⟨w,_|⟨u,t⟩⟩⟩
    .exact h.elim
    .exact h.elim
    .let⟨v',w',rfl,rv,rw⟩:=l.two;refine⟨v',w',rfl,?_⟩;exact h _ H' φ' s rs' (((re.step s).set i rv).set j rw)
    .exact h.elim
   .exact h.elim
def zhI{bo:BOp}{v w z:PV}(h:yba bo v w=AA z):∃i j,v=.int i/\w=.int j/\IC.binI bo i j=AA z:=by
 unfold yba at h;split at h
 .exact⟨_,_,rfl,rfl,h⟩
 .cases h
def zhA:PIp X .Add (rT2 S X (yba .add)):=by
 rintro π s σ H x y v u Q I rx ry ⟨B,φ,st,a,b,z,rs,ra,rb,e,q⟩
 let⟨i,j,rfl,rfl,e⟩:=zhI e
 cases e
 erw[yc]at ra rb;subst ra rb;exact zi3 π s σ H _ _ v u Q I rx ry ⟨i,j,rfl,rfl,q _ H φ .rfl rs (by erw[yc])⟩
end
end L2
namespace WK
open PySem L2 IC
def GC(K:AD)(mg:AM->Option AF)(cl:Nat->AG)(x:AM)(v:PV):Prop:=∃y:AG,mg x=AA (.ref y)/\∀B φ H,yc K cl B φ H v (.ref y)
def zkt{S:Se}{X:Cx}{x:AM}{v:PV}{pos:BX}(hg:Gl X x)(h:GC X.K X.mg S.cl x v)(hd:(x==("__debug__":AM))=false:=by decide):PE X (.Name x pos) (tE S X (.cst v)):=by
 let⟨y,hm,hk⟩:=h;exact zdw hg hm hk hd
def zgt:bootBuiltins "int"=AA (.type "int"):=by decide +kernel
def zhx:bootBuiltins "bool"=AA (.type "bool"):=by decide +kernel
def zim:bootBuiltins "str"=AA (.type "str"):=by decide +kernel
def zcF:bootBuiltins "tuple"=AA (.type "tuple"):=by decide +kernel
def zd8:bootBuiltins "list"=AA (.type "list"):=by decide +kernel
def zjG:bootBuiltins "len"=AA (.builtin "len"):=by decide +kernel
def zjs:bootBuiltins "all"=AA (.builtin "all"):=by decide +kernel
end WK
namespace L2
open PySem PySem.Spec PyProof.Rows IC
def shC:Sum Ce Int->Option Int
 |.inl _=>AB
 |.inr i=>AA i
def yaJ:List (Option Int)->List V->List V
 |[],_=>[]
 |some i::r,zs=>.int i::yaJ r zs
 |none::r,z::zs=>z::yaJ r zs
 |none::_,[]=>[]
def pick:List (Option Int)->List V->List V
 |none::r,v::vs=>v::pick r vs
 |some _::r,_::vs=>pick r vs
 |_,_=>[]
def nKw:List (Option Int)->Nat
 |[]=>0
 |none::r=>nKw r+1
 |some _::r=>nKw r
def ycv:Ces->Nat
 |.nil=>0
 |.cons _ r=>ycv r+1
def gK(np:Nat)(sh:List (Option Int))(vs zs:List V):List V:=if vs.length=np/\zs.length=nKw sh then vs++yaJ sh zs else []
def zee{call:Nat->List PV->SO->R PV}{ρ:IC.Env}:∀(a:Ces) {st st':SO} {vs:List PV},evs call ρ st a=.ok vs st'->vs.length=ycv a
 |.nil,st,st',vs,h=>by erw[evs]at h;cases h;rfl
 |.cons e r,st,st',vs,h=>by
  erw[evs]at h
  cases q:ev call ρ st e with
  |ok v s1=>
   rw[q]at h;erw[R.bind]at h
   cases q2:evs call ρ s1 r with
   |ok ws s2=>
    rw[q2]at h
    cases h
    simp[ycv,zee r q2]
   |exc c s=>rw[q2]at h;cases h
   |bad=>rw[q2]at h;cases h
  |exc c s=>rw[q]at h;cases h
  |bad=>rw[q]at h;cases h
def zdH{call:Nat->List PV->SO->R PV}{ρ:IC.Env}:∀(a b:Ces) (st:SO),evs call ρ st (ycc a b)=(evs call ρ st a).bind λvs st1=>(evs call ρ st1 b).bind λws st2=>.ok (vs++ws) st2
 |.nil,b,st=>by
  erw[ycc,evs,R.bind,C3]
  cases evs call ρ st b<;>rfl
 |.cons e r,b,st=>by
  erw[ycc,evs]
  cases ev call ρ st e with
  |ok v st1=>
   erw[R.bind];rw[zdH r b st1]
   cases evs call ρ st1 r with
   |ok vs st2=>
    erw[R.bind]
    cases evs call ρ st2 b<;>rfl
   |exc c s=>rfl
   |bad=>rfl
  |exc c s=>rfl
  |bad=>rfl
section
variable {S:Se}{X:Cx}{k:Nat}{f:AG}{fd:Al}{ps ks:List AM}{sp:Sp}{x:AM}{p pos kpos:BX}{e:AL}{es:List AL}{kws:List Bt}{nm:Option AM}{t tk:TA}{CX:CXT}{ca:Ce}{ces:Ces}{items:List (Sum Ce Int)}{g:List AF->List AF->List AF}{gV:List V->List V->List V}
def zaf{K:AD}{cl:Nat->AG}{B:AG->Prop}{φ:Ph}{H:Hp}{call:Nat->List PV->SO->R PV}{ρ:IC.Env}:∀(items:List (Sum Ce Int)) {st st':SO} {vs:List PV} {xs:List V},evs call ρ st (yae items)=.ok vs st'->ye K cl B φ H vs xs->yaJ (items.map shC) (pick (items.map shC) xs)=xs/\(pick (items.map shC) xs).length=nKw (items.map shC)
 |[],st,st',vs,xs,h,l=>by
  erw[yae,evs]at h
  cases h
  erw[ye]at l;subst l;exact⟨rfl,rfl⟩
 |.inl c::r,st,st',vs,xs,h,l=>by
  erw[yae,evs]at h;let⟨v,s1,e1,h⟩:=zf h;let⟨ws,s2,e2,h⟩:=zf h
  cases h
  erw[ye]at l;let⟨y,ys,rfl,_,l⟩:=l;let⟨q1,q2⟩:=zaf r e2 l;erw[AR,shC,pick,yaJ,nKw,Af,q1,q2];exact⟨trivial,trivial⟩
 |.inr i::r,st,st',vs,xs,h,l=>by
  erw[yae,evs,ev]at h;let⟨v,s1,e1,h⟩:=zf h;let⟨ws,s2,e2,h⟩:=zf h
  cases h
  cases e1
  erw[ye,yc]at l;let⟨y,ys,rfl,rfl,l⟩:=l;let⟨q1,q2⟩:=zaf r e2 l;erw[AR,shC,pick,yaJ,nKw,q1,q2];exact⟨trivial,trivial⟩
def tK(S:Se)(X:Cx)(items:List (Sum Ce Int)):TA:=λσ H Q=>∃B φ st ρ,yh X.K S.cl B φ H st/\yp X.K S.cl B φ H ρ σ/\Run S X σ B φ H (RL S X B) (evs S.call ρ st (yae items)) λxs H'=>Q (pick (items.map shC) xs) H'
theorem PK.imp{t t':TA}(h:PK X kws t')(k:∀σ H Q,t σ H Q->t' σ H Q):PK X kws t:=λpos π s σ H Q I q=>h pos π s σ H Q I (k σ H Q q)
def zjm:PK X [] (tK S X []):=zk3.imp λσ H Q ⟨B,φ,st,ρ,rs,re,h⟩=>by
 erw[yae,evs]at h;exact h.ok rs (x:=[]) (by erw[ye])
def zj5{i:Int}(h:PK X kws (tK S X items)):PK X kws (tK S X (.inr i::items)):=h.imp λσ H Q ⟨B,φ,st,ρ,rs,re,h⟩=>by
 erw[yae,evs,ev,R.bind]at h;refine⟨B,φ,st,ρ,rs,re,?_⟩
 cases e:evs S.call ρ st (yae items)with
 |ok vs st'=>
  rw[e]at h;intro xs H' φ' s rs' l;exact h (.int i::xs) H' φ' s rs' (by erw[ye,yc];exact⟨_,_,rfl,rfl,l⟩)
 |exc c s=>rw[e]at h;exact h
 |bad=>rw[e]at h;exact h
def zks(ha:PE X e (tE S X ca))(h:PK X kws (tK S X items)):PK X (⟨nm,e,kpos⟩ :: kws) (tK S X (.inl ca::items)):=(zia ha h).imp λσ H Q ⟨B,φ,st,ρ,rs,re,h⟩=>by
 erw[yae,evs]at h;refine tE.bind rs re h λx H1 v st1 φ1 s1 rs1 re1 rv h1=>⟨B,φ1,st1,ρ,rs1,re1,?_⟩;refine(Run.bind (Rel:=RL S X B) h1).mono λxs H2 kq=>?_;let⟨ws,st2,φ2,s2,rs2,l,h2⟩:=kq;exact h2.ok rs2 (x:=x::xs) (by erw[ye];exact⟨x,xs,rfl,rv.step s2,l⟩)
def zfK{fi:Nat}(F:yaM X.prog X.w X.K X.mg X.base (CX1 X.prog X.w) k f fd ps (spI X.K S.cl S.call fi))(hr:yat k X.A)(hg:Gl X x)(hm:X.mg x=AA (.ref f))(hk:Ad X.K (.ref f)=AC){np:Nat}(hb:∃g,ybv X.K fd ps ks g (gK np (items.map shC)))(hnp:ycv ces=np)
  (ha:PA X (e::es) (tAs S X ces)) (hkw:PK X kws (tK S X items)) (hall:(backToKw pos (keywordEach kws X.env)).all (·.1.isSome)=true:=by rfl) (hks:(backToKw pos (keywordEach kws X.env)).filterMap (·.1)=ks:=by rfl)
  (hdb:(x==("__debug__":AM))=false:=by decide) (he:starEach (e::es) X.env=(AE,eval e X.env)::starEach es X.env:=by rfl)
  (hpl:((backTo pos (starEach (e::es) X.env)).any (·.1) || (backToKw pos (keywordEach kws X.env)).any (·.1.isNone))=false:=by rfl):
  PE X (.Call (.Name x p) (e::es) kws pos) (tE S X (.call fi (ycc ces (yae items)))):=by
 intro π s σ H Q I ⟨B,φ,st,ρ,rs,re,h⟩;erw[ev]at h;rw[zdH,R.bind_assoc]at h;refine BQ (zaP I hg hm ?_ hdb);have h0:tAs S X ces σ H λvs H1=>tK S X items σ H1 λzs H2=>∃E:XK,spI X.K S.cl S.call fi (gK np (items.map shC) vs zs) H2 Q E/\∀π s e s',Inv X π σ H2 s->CX1 X.prog X.w X.stack H2 s E e s'->X.xe e s':=by
  have hlen:∀vs st',evs S.call ρ st ces=.ok vs st'->vs.length=np:=λvs st' q=>(zee ces q).trans hnp;refine⟨B,φ,st,ρ,rs,re,?_⟩
  cases q:evs S.call ρ st ces with
  |exc c s=>rw[q]at h;exact h
  |bad=>rw[q]at h;exact h
  |ok vs st1=>
  rw[q]at h;intro xs H1 φ1 s1 rs1 rv;have h1:=Run.on s1 h;have re1:=re.step s1;have hv:=hlen vs st1 q;refine⟨B,φ1,st1,ρ,rs1,re1,?_⟩;have h1:Run S X σ B φ1 H1 (RV S X B) (((evs S.call ρ st1 (yae items)).bind λa st=>(R.ok (vs++a) st:R (List PV))).bind λvs st1=>S.call fi vs st1) Q:=h1;rw[R.bind_assoc]at h1
  cases e:evs S.call ρ st1 (yae items)with
  |ok ws st2=>
   rw[e]at h1;intro ys H2 φ2 s2 rs2 l2;let⟨m1,m2⟩:=zaf items e l2;have eg:gK np (items.map shC) xs (pick (items.map shC) ys)=xs++ys:=by
    unfold gK;rw[if_pos ⟨by rw[<-rv.length];exact hv,m2⟩,m1]
   show ∃E:XK,spI X.K S.cl S.call fi (gK np (items.map shC) xs (pick (items.map shC) ys)) H2 Q E/\_;rw[eg];exact z8 rs2 ((rv.step s2).append l2) (Run.on s2 h1)
  |exc c s=>rw[e]at h1;exact h1
  |bad=>rw[e]at h1;exact h1
 refine PySem.W.callWith_KW (h₀:=X.base) I.ok.mod.kin hk hall (thn (ha pos π s σ H _ I h0) λus s1 kq=>?_) hpl he;let⟨vs,H1,I1,r,q⟩:=kq;refine thn (hkw pos π s1 σ H1 _ I1 q) λws s2 kq=>?_;let⟨zs,H2,I2,rz,E,q2,hx⟩:=kq;refine ⟨I2.kIn,?_⟩;rw[hks];let⟨g,hb⟩:=hb;have r2:=hb.rel r rz;have hl:(g us ws).length=ps.length:=by rw[<-r2.length];exact F.len _ _ _ _ q2
 refine wpAny_call (Du (F.run X.A X.stack s2 H2 ⟨us,ks.zip ws⟩ (g us ws) (gK np (items.map shC) vs zs) Q E hr I2.env0 (hb.to s2 us ws I2.kIn hl) r2 q2) λr s' hq=>?_)
 cases r with
 |error e=>exact hx π s2 e s' I2 hq
 |ok fl=>
  cases fl with
  |ret u=>exact I2.after hq
  |next=>exact BP hq
  |brk=>exact BP hq
  |cont=>exact BP hq
end
structure FnD(K:AD)(mg:AM->Option AF)(x:AM)(st:B8)(ps:List AM)(ds:List Int)(f:AG)(fd:Al):Prop where
 ex:∃(oc:AF) (od:Option AG) (dT:AG) (kV doc pm:AF) (an:Option AG) (cdv ct:AF) (osl:Array (Option AF)) (o:BW) (its:Array AF) (n:Nat),
  fd=BM x x (yU st) (yI st) (yg st) (.ref dT) kV doc pm an cdv ct/\K.lookup f=AA ⟨oc,od,.func fd,osl⟩/\Bi K cdv x=AC/\K.lookup dT=AA o/\o.data=.seq its n/\Vals (ds.map V.int) its.toList
 kp:Ad K (.ref f)=AC
 m:mg x=AA (.ref f)
section
variable {P:A1}{w:Ab}{K:AD}{mg:AM->Option AF}{base:Ao}{cl:Nat->AG}{T:Nat->Option IC.Fn}{fi:Nat}{fn:IC.Fn}{x:AM}{stm:B8}{f:AG}{fd:Al}{N ps:List AM}{ds:List Int}{k:Nat}
end
def zbk(a b:Key):peq (yaT a) (yaT b)=decide (a=b):=by
 rw[FY]
 cases a with
 |inl i=>cases b with
  |inl j=>show (i==j)=AC ↔ _;simp
  |inr y=>show AE=AC ↔ _;simp
 |inr x=>cases b with
  |inl j=>show AE=AC ↔ _;simp
  |inr y=>show (x==y)=AC ↔ _;simp
mutual
theorem zje:∀a b:NK,peq (nkP a) (nkP b)=decide (a=b)
 |.a k,.a j=>by
  rw[nkP,nkP,zbk]
  by_cases e:k=j<;>simp[e]
 |.a k,.t l=>by rw[nkP,nkP];cases k<;>simp[yaT,peq]
 |.t l,.a k=>by rw[nkP,nkP];cases k<;>simp[yaT,peq]
 |.t l,.t m=>by
  rw[nkP,nkP];erw[peq,zco l m]
  by_cases e:l=m<;>simp[e]
theorem zco:∀a b:List NK,yaS (yar a) (yar b)=decide (a=b)
 |[],[]=>by simp[yar,yaS]
 |[],y::ys=>by simp[yar,yaS]
 |x::xs,[]=>by simp[yar,yaS]
 |x::xs,y::ys=>by
  erw[yar,yaS,zje x y,zco xs ys]
  by_cases e:x=y<;>by_cases f:xs=ys<;>simp[e,f]
end
def zat(a b:List NK):peq (.tup (yar a)) (.tup (yar b))=decide (a=b):=by
 erw[peq,zco]
def zhF{k:PV}(h:ybX k=AC):∃q,k=yaT q:=by
 cases k with
 |int i=>exact⟨.inl i,rfl⟩
 |str i=>exact⟨.inr i,rfl⟩
 |_=>cases h
mutual
theorem zke:∀(k:PV) (n:Nat),ydM n k=AC->∃q:NK,k=nkP q/\B3 (nkD q)=AC/\(nkD q).depth<=n
 |.int i,n,_=>⟨.a (.inl i),rfl,rfl,BO _⟩
 |.str x,n,h=>⟨.a (.inr x),rfl,h,BO _⟩
 |.tp k xs,n,h=>by
  erw[ydM,AI,decide_eq_true_eq,BG]at h;let⟨q,e,c,d⟩:=zeB xs (n-1) h.2;refine⟨.t q,by rw[h.1.1,e];rfl,c,?_⟩;erw[nkD,BL];lia
 |.non,n,h=>by cases h
 |.bl _,n,h=>by cases h
 |.lst _,n,h=>by cases h
 |.loc _,n,h=>by cases h
 |.exn _,n,h=>by cases h
 |.scr _,n,h=>by cases h
 |.fnc _,n,h=>by cases h
theorem zeB:∀(ks:List PV) (n:Nat),ybt n ks=AC->∃qs:List NK,ks=yar qs/\Br (yaL qs)=AC/\BH (yaL qs)<=n
 |[],n,_=>⟨[],rfl,rfl,BO _⟩
 |k::ks,n,h=>by
  erw[ybt,AI]at h;let⟨q,e1,c1,d1⟩:=zke k n h.1;let⟨qs,e2,c2,d2⟩:=zeB ks n h.2;refine⟨q::qs,by rw[e1,e2];rfl,by erw[yaL,Br,c1,c2];rfl,?_⟩;erw[yaL,BH];lia
end
section
variable {S:Se}{X:Cx}{K:AD}{cl:Nat->AG}{σ:St}{B:AG->Prop}{φ:Ph}{H:Hp}{st:SO}{p pos p2 px apos:BX}{a b c d o:AL}{ca cb cc:Ce}
def zkR{q:Key}{x:V}:yc K cl B φ H (yaT q) x ↔ x=kV q:=by
 cases q<;>simp[yaT,yc,kV]
mutual
theorem zd1:∀(q:NK) (x:V),yc K cl B φ H (nkP q) x->NKr H q x
 |.a k,x,r=>zkR.mp r
 |.t l,x,r=>by
  erw[nkP,yc]at r;let⟨y,xs,rfl,rt,rl⟩:=r;rcases rt with⟨rt,_⟩|⟨z,_⟩
  .exact⟨y,xs,rfl,rt,zeK l xs rl⟩
  .cases z
theorem zeK:∀(q:List NK) (xs:List V),ye K cl B φ H (yar q) xs->NKs H q xs
 |[],xs,l=>show xs=[]by simpa only[yar,ye] using l
 |q::qs,xs,l=>by
  erw[yar,ye]at l;let⟨y,ys,rfl,r,l⟩:=l;exact⟨y,ys,rfl,zd1 q y r,zeK qs ys l⟩
end
theorem DK.look{q:Key}:∀{kvs:List (PV×PV)} {ks:List (Key×V)},DK K cl B φ H kvs ks->∀{v:PV} {x:V},yc K cl B φ H v x->yc K cl B φ H ((IC.look (yaT q) kvs).getD v) ((yay ks q).getD x)
 |[],ks,h,v,x,r=>by cases h;exact r
 |(k,w)::t,ks,h,v,x,r=>by
  let⟨q',y,s,rfl,rfl,rv,l⟩:=h;erw[IC.look,zbk]
  by_cases e:q'=q
  .rw[zP (p:=(q',y)) e];simp[e,rv]
  .rw[zL (p:=(q',y)) e];erw[decide_eq_true_eq,e,if_false];exact DK.look l r
theorem DT.look{q:List NK}:∀{kvs:List (PV×PV)} {ks:List (List NK×V)},DT K cl B φ H kvs ks->∀{v:PV} {x:V},yc K cl B φ H v x->yc K cl B φ H ((IC.look (.tup (yar q)) kvs).getD v) ((yay ks q).getD x)
 |[],ks,h,v,x,r=>by cases h;exact r
 |(k,w)::t,ks,h,v,x,r=>by
  let⟨q',y,s,rfl,rfl,rv,l⟩:=h;erw[IC.look,zat]
  by_cases e:q'=q
  .rw[zP (p:=(q',y)) e];simp[e,rv]
  .rw[zL (p:=(q',y)) e];erw[decide_eq_true_eq,e,if_false];exact DT.look l r
theorem DK.any{q:Key}:∀{kvs:List (PV×PV)} {ks:List (Key×V)},DK K cl B φ H kvs ks->(kvs.any λp=>peq p.1 (yaT q))=ks.any λkv=>decide (kv.1=q)
 |[],ks,h=>by cases h;rfl
 |(k,w)::t,ks,h=>by
  let⟨q',y,s,rfl,rfl,rv,l⟩:=h;erw[BZ,zbk,DK.any l]
theorem DT.any{q:List NK}:∀{kvs:List (PV×PV)} {ks:List (List NK×V)},DT K cl B φ H kvs ks->(kvs.any λp=>peq p.1 (.tup (yar q)))=ks.any λkv=>decide (kv.1=q)
 |[],ks,h=>by cases h;rfl
 |(k,w)::t,ks,h=>by
  let⟨q',y,s,rfl,rfl,rv,l⟩:=h;erw[BZ,zat,DT.any l]
theorem DK.map{q:Key}{v:PV}{x:V}(r:yc K cl B φ H v x):∀{kvs:List (PV×PV)} {ks:List (Key×V)},DK K cl B φ H kvs ks->DK K cl B φ H (kvs.map λp=>if peq p.1 (yaT q)=AC then(p.1,v)else p) (ks.map λkv=>if kv.1=q then(kv.1,x)else kv)
 |[],ks,h=>by cases h;exact rfl
 |(k,w)::t,ks,h=>by
  let⟨q',y,s,rfl,rfl,rv,l⟩:=h;erw[AR,zbk,decide_eq_true_eq]
  by_cases e:q'=q
  .simp only[e,if_true];exact⟨q,x,_,rfl,rfl,r,DK.map r l⟩
  .simp only[e,if_false];exact⟨q',y,_,rfl,rfl,rv,DK.map r l⟩
theorem DT.map{q:List NK}{v:PV}{x:V}(r:yc K cl B φ H v x):∀{kvs:List (PV×PV)} {ks:List (List NK×V)},DT K cl B φ H kvs ks->DT K cl B φ H (kvs.map λp=>if peq p.1 (.tup (yar q))=AC then(p.1,v)else p) (ks.map λkv=>if kv.1=q then(kv.1,x)else kv)
 |[],ks,h=>by cases h;exact rfl
 |(k,w)::t,ks,h=>by
  let⟨q',y,s,rfl,rfl,rv,l⟩:=h;erw[AR,zat,decide_eq_true_eq]
  by_cases e:q'=q
  .simp only[e,if_true];exact⟨q,x,_,rfl,rfl,r,DT.map r l⟩
  .simp only[e,if_false];exact⟨q',y,_,rfl,rfl,rv,DT.map r l⟩
theorem DK.snoc{q:Key}{v:PV}{x:V}(r:yc K cl B φ H v x):∀{kvs:List (PV×PV)} {ks:List (Key×V)},DK K cl B φ H kvs ks->DK K cl B φ H (kvs++[(yaT q,v)]) (ks++[(q,x)])
 |[],ks,h=>by cases h;exact⟨q,x,[],rfl,rfl,r,rfl⟩
 |(k,w)::t,ks,h=>by
  let⟨q',y,s,rfl,rfl,rv,l⟩:=h;exact⟨q',y,_,rfl,rfl,rv,DK.snoc r l⟩
theorem DT.snoc{q:List NK}{v:PV}{x:V}(r:yc K cl B φ H v x):∀{kvs:List (PV×PV)} {ks:List (List NK×V)},DT K cl B φ H kvs ks->DT K cl B φ H (kvs++[(.tup (yar q),v)]) (ks++[(q,x)])
 |[],ks,h=>by cases h;exact⟨q,x,[],rfl,rfl,r,rfl⟩
 |(k,w)::t,ks,h=>by
  let⟨q',y,s,rfl,rfl,rv,l⟩:=h;exact⟨q',y,_,rfl,rfl,rv,DT.snoc r l⟩
theorem DK.put{q:Key}{v:PV}{x:V}{kvs:List (PV×PV)}{ks:List (Key×V)}(l:DK K cl B φ H kvs ks)(r:yc K cl B φ H v x):DK K cl B φ H (IC.put (yaT q) v kvs) (putK ks q x):=by
 unfold IC.put putK;rw[DK.any l];split
 .exact DK.map r l
 .exact DK.snoc r l
theorem DT.put{q:List NK}{v:PV}{x:V}{kvs:List (PV×PV)}{ks:List (List NK×V)}(l:DT K cl B φ H kvs ks)(r:yc K cl B φ H v x):DT K cl B φ H (IC.put (.tup (yar q)) v kvs) (putK ks q x):=by
 unfold IC.put putK;rw[DT.any l];split
 .exact DT.map r l
 .exact DT.snoc r l
theorem DK.len:∀{kvs:List (PV×PV)} {ks:List (Key×V)},DK K cl B φ H kvs ks->kvs.length=ks.length
 |[],ks,h=>by cases h;rfl
 |(k,w)::t,ks,h=>by
  let⟨q',y,s,rfl,rfl,rv,l⟩:=h;simp[DK.len l]
theorem DT.len:∀{kvs:List (PV×PV)} {ks:List (List NK×V)},DT K cl B φ H kvs ks->kvs.length=ks.length
 |[],ks,h=>by cases h;rfl
 |(k,w)::t,ks,h=>by
  let⟨q',y,s,rfl,rfl,rv,l⟩:=h;simp[DT.len l]
theorem yh.dct{n:Nat}{t:Bool}{kvs:List (PV×PV)}{x:V}(rs:yh K cl B φ H st)(r:yc K cl B φ H (.loc n) x)(h:st[n]?=AA (.dct t kvs)):∃y,x=.ref y/\φ[n]?=AA (AA y)/\ybE K cl B φ H (.dct t kvs) y:=by
 erw[yc]at r;let⟨hn,y,rfl,ha⟩:=r;let⟨z,hz⟩:=rs.liv n _ h (by intro z;cases z);obtain rfl:=ha z hz;let⟨o,ho,ro⟩:=rs.obj n z hz;rw[h]at ho;cases ho;exact⟨z,rfl,hz,ro⟩
def zej{v:PV}{t:Bool}{kvs:List (PV×PV)}(h:yan st v=AA (t,kvs)):∃n,v=.loc n/\st[n]?=AA (.dct t kvs):=by
 cases v with
 |loc n=>
  erw[yan]at h;split at h
  .rename_i t' xs q
   cases h
   exact⟨n,rfl,q⟩
  .cases h
 |_=>cases h
def zhn{k:PV}(h:isKey AE k=AC):∃q,k=yaT q:=zhF h
def zfc{k:PV}(h:isKey AC k=AC):∃q:List NK,k=.tup (yar q)/\yda q:=by
 cases k with
 |tp b xs=>
  cases b with
  |false=>
   let⟨qs,rfl,c,d⟩:=zeB xs 5 h;exact⟨qs,rfl,c,Nat.le_succ_of_le d⟩
  |true=>cases h
 |_=>cases h
def ze6{q:List NK}{x:V}(hq:yda q)(r:yc K cl B φ H (.tup (yar q)) x):∃y,x=.ref y/\KyR H q y:=by
 have r':yc K cl B φ H (nkP (.t q)) x:=r;let⟨b,xs,rfl,g,hs⟩:=zd1 (.t q) x r';exact⟨b,rfl,⟨b,xs,rfl,g,hs⟩,hq⟩
end
section
variable {S:Se}{X:Cx}{σ:St}{B:AG->Prop}{φ:Ph}{H:Hp}{p pos p3 p4:BX}{a b tg:AL}{ca cb:Ce}
end
end L2
namespace WK
open PySem L2 IC
section
variable {K:AD}{cl:Nat->AG}{B:AG->Prop}{φ:Ph}{H:Hp}
def zgh:ye K cl B φ H [] []:=by erw[ye]
def ze9{v:PV}{x:V}{vs:List PV}{xs:List V}(h:yc K cl B φ H v x)(l:ye K cl B φ H vs xs):ye K cl B φ H (v::vs) (x::xs):=by
 erw[ye];exact⟨x,xs,rfl,h,l⟩
end
def ziL{P:A1}{w:Ab}{outer:List BC}{H:Hp}{s:AH}{e:AF}{s':AH}(h:CX1 P w outer H s (λ_ _ _=>False) e s'):False:=by
 let⟨_,_,_,_,_,_,_,_,_,_,_,_,_,_,z⟩:=h;exact z
def zel{K:AD}{cl:Nat->AG}{B:AG->Prop}{φ:Ph}{H:Hp}:∀ns:List Int,ye K cl B φ H (ns.map .int) (ns.map V.int)
 |[]=>zgh
 |n::ns=>ze9 (by erw[yc]) (zel ns)
def spX(K:AD)(call:Nat->List PV->SO->R PV)(fi:Nat):Sp:=λvs H Q E=>∀cl,spI K cl call fi vs H Q E
def zdD{K:AD}{call:Nat->List PV->SO->R PV}{fi:Nat}{H:Hp}{a:AG}{ns:List Int}(ht:∀ns:List Int,ns.length<=63->call fi [.scr (ns.map .int)] []=.ok (.bl AC) [])(hl:ns.length<=63)(hS:SqL K H a (ns.map V.int)):
  spX K call fi [.ref a] H (λv _=>v=.bl AC) λ_ _ _=>False:=by
 intro cl;refine⟨λ_=>False,[],[],[.scr (ns.map .int)],⟨rfl,λm n a e=>by simp at e,λn a e=>by simp at e,λn o e=>by simp at e,λa z=>by simp at z,λa z=>z.elim,λa z=>z.elim⟩,ze9 ?_ zgh,?_⟩
 .simp only[yc];refine⟨a,_,rfl,?_,zel ns⟩;rcases hS with hS|hS
  .exact .inl ⟨hS,λz=>z,by simp⟩
  .exact .inr hS
 .rw[ht ns hl];intro x H' φ' _ _ r;simpa only[yc] using r
end WK
namespace L2
open PySem PySem.Spec PyProof.Rows IC
def zd2{l:List AM}(h:l.Nodup){i j:Nat}(hi:i<l.length)(hj:j<l.length)(e:l[i]=l[j]):i=j:=by
 rcases Nat.lt_trichotomy i j with q|q|q
 .exact absurd e (D3.mp h i j hi hj q)
 .exact q
 .exact absurd e.symm (D3.mp h j i hj hi q)
section
variable {X:Cx}{π:List (AG×BW)}{σ:St}{H:Hp}{s:AH}
theorem Inv.drop{h':Ao}{m:AM->Option AF}{v:Option AF}{i:Nat}{n:AM}(I:Inv X π σ H s)(hN:X.N.Nodup)(hi:X.N[i]?=AA n)(hm:s.heap.Ns X.env.locals m)(look:∀(i:Nat) (x:AM) (v:V),X.N[i]?=AA x->σ[i]?=AA (AA v)->Vis X.env.scope x->∃u,RelV v u/\Look X.env s.heap m x u)(hs:B9 X.env.locals s.heap h')(hn:h'.Ns X.env.locals (λx=>if x=n then v else m x)):Inv X π (σ.set i AB) H {s with heap:=h'}:=by
 have k:∀b u,b≠X.env.locals->s.heap.get? b=AA u->h'.get? b=AA u:=λb u hb q=>(hs.2 b hb).trans q;have nl:∀b o,X.s₀.heap.get? b=AA o->b≠X.env.locals:=λb o e=>Ac (AZ (AT e) I.ok.above);refine⟨I.ok,I.os,I.bare,⟨λb o q n hb hx=>k b o (nl b o q) (I.base.keep b o q n hb hx),λb o q n hb hx=>?_,I.base.free,λb o q hx=>?_,I.base.tups,I.base.frzs,I.base.tbls⟩,⟨_,hn,λj x v e1 e2 hv=>?_⟩,λx c e=>?_,I.free,I.freeC,λp hp=>?_,λb u e=>?_,?_⟩
 .let⟨sl,q1⟩:=I.base.slot b o q n hb hx;exact⟨sl,k b _ (nl b o q) q1⟩
 .let⟨o',q1⟩:=I.base.there b o q hx;exact⟨o',k b o' (nl b o q) q1⟩
 .have hj:j≠i:=λz=>by
   subst z;rw[Ci]at e2;erw[if_true]at e2;split at e2<;>cases e2
  rw[A3 (BI hj)]at e2;have hx:x≠n:=λz=>by
   subst z;let⟨l1,g1⟩:=Ae.mp e1;let⟨l2,g2⟩:=Ae.mp hi;exact hj (zd2 hN l1 l2 (g1.trans g2.symm))
  let⟨u,r,lk⟩:=look j x v e1 e2 hv;refine⟨u,r,?_⟩;rcases lk with⟨q1,q2⟩|⟨q1,c,q2,o,q3,q4⟩
  .exact .inl ⟨q1,by dsimp only;rw[if_neg hx];exact q2⟩
  .exact .inr ⟨q1,c,q2,o,k c o (I.cne x c q2) q3,q4⟩
 .let⟨v,o,ho,hd⟩:=I.cell x c e;exact⟨v,o,k c o (I.cne x c e) ho,hd⟩
 .let⟨q1,q2,q3,q4⟩:=I.pin p hp;exact⟨k _ _ q3 q1,q2,q3,q4⟩
 .refine(I.hok b u e).stay (λc v hc q=>k c v (λz=>?_) q) (λ_ q=>q) λ_ _ q=>q;have fr:=I.free;subst z;rcases hc with z|z
  .rw[z,e]at fr
   cases fr
  .rw[z]at fr
   cases fr
 .rw[BF];exact I.len
end
section
variable {X:Cx}{body suite:List B8}{b₀:B8}{x n:AM}{np hpos pos:BX}{W:AG}{i:Nat}
end
section
variable {S:Se}{X:Cx}{σ:St}{B:AG->Prop}{φ φ1:Ph}{H H1:Hp}{st:SO}{ρ:IC.Env}{D:Ends}{body suite:List B8}{b₀:B8}{x n:AM}{p p2 np hpos pos cpos:BX}{W:AG}{i:Nat}{cb ch:Css}{a e:AL}{es:List AL}{ca ce:Ce}{ces:Ces}
theorem yp.drop{K:AD}{cl:Nat->AG}(r:yp K cl B φ H ρ σ)(i:Nat):yp K cl B φ H (ρ.set i AB) (σ.set i AB):=by
 refine⟨by rw[BF,BF];exact r.len,λj w e=>?_⟩
 by_cases h:j=i
 .subst h;rw[Ci]at e;erw[if_true]at e;split at e<;>cases e
 .rw[A3 (BI h)]at e ⊢;exact r.get j w e
abbrev Se.quiet(S:Se):Se:={S with may:=AE}
theorem all_nil{P:Nat->Prop}:∀c∈([]:List Nat),P c:=λ_ h=>by cases h
theorem all_cons{P:Nat->Prop}{c:Nat}{cs:List Nat}(h:P c)(t:∀d∈cs,P d):∀d∈c::cs,P d:=λd hd=>by
 rcases A8.mp hd with e|e
 .exact e ▸ h
 .exact t d e
structure yb0(K:AD)(mg:AM->Option AF)(C:AG)(x:AM):Prop where
 m:mg x=AA (.ref C)
 q:Cv K C [.type "ValueError",.type "Exception",.type "BaseException",.type "object"] "ValueError.__new__"=AC
def zf8{k:Nat}(Z:yb0 X.K X.mg (S.cl k) x)(hmay:S.may=AC)(hc:X.calm=AC)(hg:Gl X x)(ha:PE X a (tE S X ca))
  (hs:starEach [a] X.env=(AE,eval a X.env)::starEach [] X.env:=by rfl) (hpl:(backTo cpos (starEach [] X.env)).any (·.1)=false:=by rfl) (hdb:(x==("__debug__":AM))=false:=by decide):
  PS X (.Raise (AA (.Call (.Name x np) [a] [] cpos)) AB pos) (tS S X (.raise k ca)):=by
 intro π s σ H D I ⟨B,φ,st,ρ,rs,re,h⟩;erw[ex]at h;have OC:=zk9 I.ok.mod.kin Z.m Z.q;have FB:=PySem.F.excBase_ValueError;let⟨tl,Nn,nm,q,bs,hdct,sn,sub,ab,col,dd,k0,k1,k2,k3,k5,mN,hC,hN,hni,TL⟩:=OC.obj;refine wpAny_Raise_call_subT (C:=S.cl k) (nm:=nm) (q:=q) (N:=Nn) (bs:=bs) (bm:=tl) (hdct:=hdct) (sn:=sn) (sub:=sub) (ab:=ab) (col:=col) (dd:=dd) (k0:=k0) (k1:=k1) (k2:=k2) (k3:=k3) (k5:=k5)
  FB (mN:=mN) (TL.hasType FB.hasBase) (I.ok.hd hc) (by rw[hs];show (AE || (backTo cpos (starEach [] X.env)).any (·.1))=AE;rw[hpl];rfl) hni (zaP I hg OC.bound ⟨rfl,?_⟩ hdb)
 have hA:=(zV ha zkF hs) cpos π s σ H (λvs H1=>∃v,vs=[v]/\∃φ1 st1,Step φ H φ1 H1/\yh X.K S.cl B φ1 H1 st1/\yp X.K S.cl B φ1 H1 ρ σ/\yX S X B φ1 H1 (.exc k ρ st1) D) I
  (tE.fl rs re h λx H1 v st1 φ1 s1 rs1 re1 rv h1=>⟨x,rfl,φ1,st1,s1,rs1,re1,h1⟩)
 rw[hs]at hA ⊢;refine EQ (thn hA λus s1 kq=>?_);let⟨vs,H1,I1,r1,v,ev,φ1,st1,t1,rs1,re1,h1⟩:=kq;subst ev;refine⟨rfl,by rw[<-r1.length];show 1<=sizeLine;decide,I1.bk _ _ hC,hN.keeps I1.bk,TL.keeps I1.bk,λh' e' hx=>?_⟩;exact h1 σ φ1 H1 _ _ .rfl re1 (.inr (.inl ⟨hmay,π,H1,s1,φ1,h',e',us,I1,.rfl,rs1,hx,rfl,rfl⟩))
def tyZ(cl:Nat->AG):Ty->AF
 |.cls d=>.ref (cl d)
 |_=>.type "ValueError"
def yfz(K:AD)(cl:Nat->AG)(c:Nat)(t:Ty):Prop:=Ax K (.ref (cl c)) (tyZ cl t)=AA (yaO (.exn c) t)
def tJ(S:Se)(X:Cx)(c:Ces):TJ:=λout σ H Q=>∃B φ st ρ,yh X.K S.cl B φ H st/\yp X.K S.cl B φ H ρ σ/\∃vs st' z,evs S.call ρ st c=.ok vs st'/\ycy out vs=AA z/\∀H' φ',Step φ H φ' H'->yh X.K S.cl B φ' H' st'->Q (.str z) H'
def tF(S:Se)(X:Cx)(c:Ce):TE:=λσ H Q=>∃B φ st ρ,yh X.K S.cl B φ H st/\yp X.K S.cl B φ H ρ σ/\∃v st' y,ev S.call ρ st c=.ok v st'/\ycr v=AA y/\∀H' φ',Step φ H φ' H'->yh X.K S.cl B φ' H' st'->Q (.str y) H'
def zjS(h:PE X e (tE S X ce)):PE X (.FormattedValue e (-1) AB pos) (tF S X ce):=by
 intro π s σ H Q I ⟨B,φ,st,ρ,rs,re,v,st',y,e1,e2,q⟩;refine FormattedValue_plain (thn (h π s σ H (λx H1=>∃φ1,Step φ H φ1 H1/\yh X.K S.cl B φ1 H1 st'/\yc X.K S.cl B φ1 H1 v x) I ⟨B,φ,st,ρ,rs,re,by rw[e1];exact λx H' φ' t r rv=>⟨φ',t,r,rv⟩⟩) λu s1 kq=>?_);let⟨x,H1,I1,r1,φ1,t1,rs1,rv⟩:=kq
 cases v with
 |int i=>
  erw[yc]at rv;subst rv;let⟨tk,rfl⟩:=r1;erw[ycr]at e2;split at e2
  .rename_i hd
   cases e2
   exact formatField_int_small hd ⟨.str _,H1,I1.tok _,⟨_,rfl⟩,q H1 φ1 t1 rs1⟩
  .cases e2
 |str z=>
  erw[yc]at rv;subst rv;let⟨tk,rfl⟩:=r1;erw[ycr]at e2;split at e2
  .rename_i hd
   cases e2
   exact formatField_str (λt' tk=>⟨.str _,H1,I1.tok _,⟨_,rfl⟩,q H1 φ1 t1 rs1⟩) (by rw[Bc];exact hd)
  .cases e2
 |_=>cases e2
def ziK{y:AM}{j:Nat}:PE X (.Constant (.str y) j pos) (tF S X (.cst (.str y))):=zkK.imp λσ H Q ⟨B,φ,st,ρ,rs,re,v,st',z,e1,e2,q⟩=>by
 erw[ev]at e1
 cases e1
 erw[ycr]at e2;split at e2
 .cases e2;exact q H φ .rfl rs
 .cases e2
def zjN:PJ X [] (tJ S X .nil):=λout π s σ H Q I ⟨B,φ,st,ρ,rs,re,vs,st',z,e1,e2,q⟩=>by
 erw[evs]at e1
 cases e1
 erw[ycy]at e2;split at e2
 .rename_i hz
  cases e2
  exact zjU out π s σ H Q I ⟨by rw[Bc];exact hz,q H φ .rfl rs⟩
 .cases e2
def zd6(he:PE X e (tF S X ce))(hr:PJ X es (tJ S X ces))(hs:evalEach (e::es) X.env=eval e X.env::evalEach es X.env:=by rfl):PJ X (e::es) (tJ S X (.cons ce ces)):=λout π s σ H Q I ⟨B,φ,st,ρ,rs,re,vs,st',z,e1,e2,q⟩=>by
 erw[evs]at e1
 cases e3:ev S.call ρ st ce with
 |ok v st1=>
  rw[e3]at e1;erw[R.bind]at e1
  cases e4:evs S.call ρ st1 ces with
  |ok ws st2=>
   rw[e4]at e1;simp only at e1
   cases e1
   erw[ycy]at e2
   cases e5:ycr v with
   |none=>rw[e5]at e2;cases e2
   |some y=>
    rw[e5]at e2;simp only at e2;split at e2
    .rename_i hz;refine zh4 he hr hs out π s σ H Q I ⟨B,φ,st,ρ,rs,re,v,st1,y,e3,e5,λH' φ' t1 rs1=>⟨y,rfl,by rw[Bc];exact hz,B,φ',st1,ρ,rs1,re.step t1,ws,st',z,e4,e2,λH2 φ2 t2 rs2=>q H2 φ2 (t1.trans t2) rs2⟩⟩
    .cases e2
  |exc c st2=>rw[e4]at e1;cases e1
  |bad=>rw[e4]at e1;cases e1
 |exc c st1=>rw[e3]at e1;cases e1
 |bad=>rw[e3]at e1;cases e1
def ziH{v1 v2:AL}{rest:List AL}(h:PJ X (v1::v2::rest) (tJ S X ces)):PE X (.JoinedStr (v1::v2::rest) pos) (tE S X (.fst ces)):=(zev h).imp λσ H Q ⟨B,φ,st,ρ,rs,re,h⟩=>by
 erw[ev]at h
 cases e1:evs S.call ρ st ces with
 |ok vs st1=>
  rw[e1]at h;erw[ydG]at h
  cases e2:ycy Cn vs with
  |none=>rw[e2]at h;exact h.elim
  |some z=>
   rw[e2]at h;exact⟨B,φ,st,ρ,rs,re,vs,st1,z,e1,e2,λH' φ' t r=>h _ H' φ' t r (by erw[yc])⟩
 |exc c st1=>rw[e1]at h;exact h.elim
 |bad=>rw[e1]at h;exact h.elim
end
section
variable {S:Se}{X:Cx}{p pos p2 px apos:BX}{a b:AL}{ca cb:Ce}
def GCI(mg:AM->Option AF)(x:AM)(i:Int):Prop:=∃t,mg x=AA (.int i t)
def ziW{x:AM}{i:Int}(hg:Gl X x)(h:GCI X.mg x i)(hd:(x==("__debug__":AM))=false:=by decide):PE X (.Name x pos) (tE S X (.cst (.int i))):=by
 let⟨t,hm⟩:=h;exact(zcc hg hm (show RelV (.int i) (.int i t)from ⟨t,rfl⟩) hd).imp λσ H Q ⟨B,φ,st,ρ,rs,re,h⟩=>by
  erw[ev]at h;exact h.ok rs (by erw[yc])
end
end L2
namespace WE
open PySem PySem.Spec PyProof.Rows
section
variable {prog:A1}{w:Ab}{A:A5}{E:AF->AH->Prop}{s:AH}
def yc3(h:Ao)(a t:AG)(i:Int):Prop:=∃o,h.get? a=AA o/\o.cls=.type "reversed"/\o.data=.fields #[.ref t,rawInt i]
theorem yc3.typeIs{a t:AG}{i:Int}(x:yc3 s.heap a t i):s.TypeIs (.ref a) "reversed":=let ⟨o,ho,hc,_⟩:=x;⟨o,ho,hc⟩
end
end WE
namespace L2
open PySem PySem.Spec PyProof.Rows
end L2
namespace L2
open PySem PySem.Spec PyProof.Rows IC
open Classical in
def eqR(h:Ao)(dw:F2)(u:AF):Bool:=decide (∃d as,Fm h u d as/\BJ d dw=AC)
def zgF{h:Ao}{u:AF}{d dw:F2}{as:List AG}(r:Fm h u d as):eqR h dw u=BJ d dw:=by
 unfold eqR
 classical
 cases c:BJ d dw with
 |true=>exact decide_eq_true (p:=∃d as,Fm h u d as/\BJ d dw=AC) ⟨d,as,r,c⟩
 |false=>
  refine decide_eq_false ?_
  rintro⟨d',as',r',q⟩
  have:=(reads_det (λb o e _=>e) r r').1;subst this;rw[c]at q
  cases q
section
variable {S:Se}{X:Cx}{σ:St}{B:AG->Prop}{φ φ1:Ph}{H H1:Hp}{st:SO}{ρ:IC.Env}{p pos p2 px py pt pt2:BX}{a b c d o a' b' c' d':AL}{ca cb cc cd ce cf:Ce}{π:List (AG×BW)}{s:AH}{kt k2:Nat}{es:List AL}{ces:Ces}{x:AM}
def zb1(I:Inv X π σ H s)(w:PV)(hw:shd 60 w=AC):∀(vs:List PV) (xs:List V) (us:List AF),yaD 60 vs=AC->ye X.K S.cl B φ H vs xs->Vals xs us->us.any (eqR s.heap (toD w))=inL w vs
 |[],xs,us,h,r,q=>by
  erw[ye]at r;subst r;cases q;rfl
 |v::vs,xs,us,h,r,q=>by
  erw[ye]at r;let⟨y,ys,rfl,rv,l⟩:=r;erw[yaD,AI]at h
  cases q with
  |cons q1 q2=>
   let⟨as,z1⟩:=zp (S:=S) I v 60 y _ h.1 rv q1;rw[BZ,zb1 I w hw vs ys _ h.2 l q2,zgF z1,zaF v w 60 60 h.1 hw];rfl
def zci(I:Inv X π σ H s)(w:PV)(hw:shd 60 w=AC){wv:AF}{bs:List AG}(zw:Fm s.heap wv (toD w) bs)(hu:X.A.units+64<cLine):∀(vs:List PV) (xs:List V) (us:List AF),yaD 60 vs=AC->ye X.K S.cl B φ H vs xs->Vals xs us->∀u∈us,F6 X.A.in1 s u wv (eqR s.heap (toD w) u)
 |[],xs,us,h,r,q=>by
  erw[ye]at r;subst r;cases q;intro u hu;cases hu
 |v::vs,xs,us,h,r,q=>by
  erw[ye]at r;let⟨y,ys,rfl,rv,l⟩:=r;erw[yaD,AI]at h
  cases q with
  |cons q1 q2=>
   let⟨as,z1⟩:=zp (S:=S) I v 60 y _ h.1 rv q1;intro u hm;rcases A8.mp hm with rfl|hm
   .rw[zgF z1];let⟨l1,d1⟩:=zbd v 60 h.1;let⟨l2,d2⟩:=zbd w 60 hw;refine SeqAt.eqAt_reads _ _ X.A.in1 s _ _ as bs z1 zw l1 l2 ?_;show X.A.units+1+_<_;lia
   .exact zci I w hw zw hu vs ys _ h.2 l q2 u hm
def rTs(S:Se)(X:Cx)(f:SO->PV->PV->Option PV):R2:=λx y H Q=>∃B φ st v w z,yh X.K S.cl B φ H st/\yc X.K S.cl B φ H v x/\yc X.K S.cl B φ H w y/\f st v w=AA z /\
 ∀z' H' φ',Step φ H φ' H'->yh X.K S.cl B φ' H' st->yc X.K S.cl B φ' H' z z'->Q z' H'
def zgE(hu:X.A.units+64<cLine):OpR X (compareOp .NotIn) (rTs S X ybV):=by
 rintro π s σ H x y v u Q I rx ry ⟨B,φ,st,a,b,z,rs,ra,rb,e,q⟩
 erw[ybV]at e
 cases e1:yac st b with
 |none=>rw[e1]at e;cases e
 |some ws=>
  rw[e1]at e;dsimp only at e;split at e
  .rename_i c;rw[AI]at c
   cases e
   let⟨l,ys,rfl,hq,lr⟩:=zcV rs rb e1
   cases (show u=BA l from ry)
   let⟨bs,z1⟩:=zp (S:=S) I a 60 x v c.1 ra rx;rcases hq with hq|hq
   .let⟨its,r,pl,hz⟩:=I.list hq;refine SeqAt.notIn_listAt (eqR s.heap (toD a)) pl.isList (λw hw=>zci (S:=S) I a c.1 z1 hu ws ys its c.2 lr r w (by simpa using hw)) ⟨.bl _,H,I,rfl,?_⟩;rw[show its.toArray.any (eqR s.heap (toD a))=its.any (eqR s.heap (toD a))by simp,zb1 (S:=S) I a c.1 ws ys its c.2 lr r];exact q _ H φ .rfl rs (by erw[yc])
   .let⟨its,r,pl,hz⟩:=I.tuple hq;refine SeqAt.notIn_tupleAt (eqR s.heap (toD a)) pl (λw hw=>zci (S:=S) I a c.1 z1 hu ws ys its c.2 lr r w (by simpa using hw)) ⟨.bl _,H,I,rfl,?_⟩;rw[show its.toArray.any (eqR s.heap (toD a))=its.any (eqR s.heap (toD a))by simp,zb1 (S:=S) I a c.1 ws ys its c.2 lr r];exact q _ H φ .rfl rs (by erw[yc])
  .cases e
def zi0(hu:X.A.units+64<cLine)(ha:PE X a (tE S X ca))(hb:PE X b (tE S X cb))(hm:behindInMarks .NotIn b=AE):PE X (.Compare a [.NotIn] [b] pos) (tE S X (.nin ca cb)):=
 (zeL (zgE hu) ha hb hm).imp λσ H Q ⟨B,φ,st,ρ,rs,re,h⟩=>by
  erw[ev]at h;refine tE.bind rs re h λx H1 v st1 φ1 s1 rs1 re1 rv h1=>tE.bind rs1 re1 h1 λy H2 w st2 φ2 s2 rs2 re2 rw h2=>?_;let⟨z,e,q⟩:=zC h2 rs2;exact⟨B,φ2,st2,v,w,z,rs2,rv.step s2,rw,e,q⟩
def zh7{st:SO}{x y z:PV}(h:ybV st x y=AA z):∃k,z=.bl k:=by
 unfold ybV at h;split at h
 .split at h
  .cases h;exact⟨_,rfl⟩
  .cases h
 .cases h
def zio(hu:X.A.units+64<cLine)(ha:PE X a (tE S X ca))(hb:PE X b (tE S X cb))(hm:behindInMarks .NotIn b=AE):PT X (.Compare a [.NotIn] [b] pos) (tTs S X (.nin ca cb)):=
 (zch (zgE hu) ha hb hm).imp λσ H Q ⟨B,φ,st,ρ,rs,re,h⟩=>by
  erw[ev,yax,R.bind_assoc]at h;refine tE.bind rs re h λx H1 v st1 φ1 s1 rs1 re1 rv h1=>tE.bind rs1 re1 h1 λy H2 w st2 φ2 s2 rs2 re2 rw h2=>?_
  cases e:ybV st2 v w with
  |none=>rw[e]at h2;exact h2.elim
  |some z=>
   let⟨k,rfl⟩:=zh7 e;rw[e]at h2;refine⟨B,φ2,st2,v,w,.bl k,rs2,rv.step s2,rw,e,λz' H' φ' s' rs' rz=>?_⟩;erw[yc]at rz;exact⟨k,rz,h2 k H' φ' s' rs' rfl⟩
def zgf(hg:Gl X "list")(hm:X.mg "list"=AB)(hv:bootBuiltins "list"=AA (.type "list"))(ha:PA X [a] (tAs S X (.cons ca .nil)))
  (he:starEach [a] X.env=(AE,eval a X.env)::starEach [] X.env:=by rfl) (hpl:(backTo pos (starEach [] X.env)).any (·.1)=false:=by rfl):PE X (.Call (.Name "list" p) [a] [] pos) (tE S X (.thw (.blt .list (.cons ca .nil)))):=
 (zbH zaj hg hm hv ha ⋯ ⋯ he hpl).imp λσ H Q ⟨B,φ,st,ρ,rs,re,h⟩=>by
  erw[ev,R.bind_assoc]at h;refine tAs.bind rs re h λxs H1 vs st1 φ1 s1 rs1 re1 rv h1=>?_
  cases e:yag .list st1 vs with
  |none=>rw[e]at h1;exact h1.elim
  |some z=>
   rw[e]at h1;let⟨v,rfl⟩:=zae e λ_ _=>rfl;let⟨x,rfl,rv1⟩:=rv.one;erw[yag]at e
   cases e1:yac st1 v with
   |none=>rw[e1]at e;cases e
   |some ws=>
    rw[e1]at e
    cases e
    let⟨y,ys,rfl,hq,l⟩:=zcV rs1 rv1 e1;refine⟨y,ys,rfl,hq,λD hD=>?_⟩;erw[toR,R.bind,yc6]at h1;exact h1 _ _ (φ1++[AA D]) (.push hD) (rs1.push hD (rs1.nB hD) ⟨ys,zc,l.step (.push hD)⟩) (.loc_new rs1)
end
end L2
namespace IC
open PySem
def glue(c:Nat):List (List Nat)->List Nat
 |[]=>[]
 |[p]=>p
 |p::q::r=>p++c::glue c (q::r)
def zaO{c:Nat}:∀{p:List Nat},c∉p->yN c p=[p]
 |[],_=>rfl
 |x::p,h=>by
  have h1:¬x=c:=λe=>h (by simp[e]);erw[yN,if_neg h1,zaO (λe=>h (AK _ e):c∉p)]
def za5{c:Nat}:∀{p:List Nat} (r:List Nat),c∉p->yN c (p++c::r)=p::yN c r
 |[],r,_=>by simp[yN]
 |x::p,r,h=>by
  have h1:¬x=c:=λe=>h (by simp[e]);erw[Cq,yN,if_neg h1,za5 r (λe=>h (AK _ e):c∉p)]
def zaR{c:Nat}:∀{ps:List (List Nat)},ps≠[]->(∀p∈ps,c∉p)->yN c (glue c ps)=ps
 |[],h,_=>absurd rfl h
 |[p],_,h=>by erw[glue];exact zaO (h p (by simp))
 |p::q::r,_,h=>by
  erw[glue];rw[za5 _ (h p (by simp)),zaR (by simp) λx hx=>h x (AK _ hx)]
def zcW(a b:AM):(a++b).cps.toList=a.cps.toList++b.cps.toList:=by
 show (a.cps++b.cps).toList=_;simp
def zbW(c:Nat):∀ys:List AM,(GL ⟨#[c]⟩ ys).cps.toList=glue c (ys.map (·.cps.toList))
 |[]=>rfl
 |[y]=>rfl
 |y::z::r=>by
  erw[GL,AR,glue];rw[zcW,zcW,zbW c (z::r)];simp
def zdO{a b:AM}(h:a.cps.toList=b.cps.toList):a=b:=by
 cases a;cases b
 erw[Str.mk.injEq];exact Array.toList_inj.mp h
def zfV(x:AM)(c:Nat):Dh x ⟨#[c]⟩=(yN c x.cps.toList).map λl=>⟨l.toArray⟩:=by
 have h1:=StrLaws.join_split x ⟨#[c]⟩;have h2:=StrLaws.split_free x c;have h3:=GB x ⟨#[c]⟩;have h4:x.cps.toList=glue c ((Dh x ⟨#[c]⟩).map (·.cps.toList)):=by rw[<-zbW,h1]
 rw[h4,zaR]
 .rw[Dv]
  conv=>lhs;rw[<-GM (Dh x ⟨#[c]⟩)]
  refine List.map_congr_left λa _=>zdO ?_;simp
 .intro e;have:=congrArg Bd e;simp at this;rw[this]at h3;simp at h3
 .intro p hp;let⟨a,ha,rfl⟩:=Ba.1 hp;exact h2 a ha
end IC
namespace L2
open PySem PySem.Spec PyProof.Rows IC
section
variable {S:Se}{X:Cx}{σ:St}{B:AG->Prop}{φ:Ph}{H:Hp}{p p2 pos pos2 apos:BX}{a b tg:AL}{ca cb:Ce}
def yc4:V->List V->Hp->VK->Prop:=λx vs H Q=>∃s c,x=.str s/\vs=[.str ⟨#[c]⟩]/\s.length<=100000/\∀l,H l=AB->Q (.ref l) (upd H l (.lst ((yN c s.cps.toList).map λl=>.str ⟨l.toArray⟩)))
def zbU:∀l:List (AM×GP),Vals (l.map λp=>V.str p.1) (strValues l)
 |[]=>.nil
 |p::l=>.cons ⟨p.2,rfl⟩ (zbU l)
def zfO:MtR X "str.split" yc4:=by
 intro π s σ H x vs v us Q I rx rv h;let⟨x,c,rfl,rfl,hz,q⟩:=h;let⟨t,rfl⟩:=rx;let⟨w,rfl,rw⟩:=vals1 rv;let⟨u,rfl⟩:=rw;have hle:(Dh x ⟨#[c]⟩).length<=sizeLine:=by
  have:=GE x ⟨#[c]⟩;rw[Bc];lia
 have fin:∀(l:List (AM×GP)) (tk:Nat),l.map (·.1)=Dh x ⟨#[c]⟩->EP X π σ Q (.ref s.heap.objs.size) {s with heap:=s.heap.push {cls:=.type "list",data:=.seq (strValues l).toArray},toks:=tk}:=λl tk e=>by
  have e2:l.map (λp=>V.str p.1)=(yN c x.cps.toList).map λl=>.str ⟨l.toArray⟩:=by
   rw[zfV]at e;have:=congrArg (List.map V.str) e;simpa [Dv,Function.comp_def] using this
  have hl:(l.map λp=>V.str p.1).length<=sizeLine:=by
   rw[Ak,<-Ak (f:=(·.1)),e];exact hle
  refine⟨.ref s.heap.objs.size,_,I.laid (t':=tk) (λb o e=>AS _ e) (AN _) (show yH X.prog X.w _ _ _ (.lst ((yN c x.cps.toList).map λl=>.str ⟨l.toArray⟩))from ?_),rfl,q _ (I.hok.fresh (AN _))⟩;rw[<-e2];exact⟨hl,strValues l,_,zbU l,A6 _ rfl⟩
 have hsz:x.length<=sizeLine:=by rw[Bc];lia
 cases h1:(decide (x.length<(⟨#[c]⟩:AM).length) || decide (E2 x<E2 ⟨#[c]⟩))
 .cases hf:(CC x ⟨#[c]⟩ 0 x.length (x.length+1)).isEmpty
  .refine DS Cb (DR _ _ _) D6 (DW _ _) (PySem.meets_str_split_sep x ⟨#[c]⟩ t u h1 rfl hf hsz ?_) ?_
   .have:=hle;unfold Dh at this;rw[if_neg (ne_true_of_eq_false h1),if_neg (ne_true_of_eq_false hf)]at this;exact this
   show wants _ _ _ {s with toks:=_,heap:=s.heap.push {cls:=.type "list",data:=.seq (strsFrom s.toks (Builtin.Str.partsBetween x (CC x ⟨#[c]⟩ 0 x.length (x.length+1)) (⟨#[c]⟩:AM).length)).toArray} };rw[strsFrom_eq];exact fin (numbered s.toks _) _ ((numbered_texts _ _).trans ((if_neg (ne_true_of_eq_false h1)).trans (if_neg (ne_true_of_eq_false hf))).symm)
  .exact DS Cb (DR _ _ _) D6 (DW _ _) (PySem.meets_str_split_not_found x ⟨#[c]⟩ t u h1 rfl hf)
    (fin [(x,t)] _ ((if_neg (ne_true_of_eq_false h1)).trans (if_pos hf)).symm)
 .exact DS Cb (DR _ _ _) D6 (DW _ _) (PySem.meets_str_split_cannot_occur x ⟨#[c]⟩ t u h1)
   (fin [(x,t)] _ (if_pos h1).symm)
def zcG{c:Nat}{K:AD}{cl:Nat->AG}:∀ls:List (List Nat),ye K cl B φ H (ls.map λl=>PV.str ⟨l.toArray⟩) (ls.map λl=>V.str ⟨l.toArray⟩)
 |[]=>by simp[ye]
 |l::ls=>by
  erw[AR,ye];exact⟨_,_,rfl,by erw[yc],zcG (c:=c) ls⟩
def zeW(st:SO)(y q:AM):(∃c,q=⟨#[c]⟩/\y.length<=100000/\ya6 st (.str y) (.str q)=.ok (.lst ((yN c y.cps.toList).map λl=>.str ⟨l.toArray⟩)) st) \/ ya6 st (.str y) (.str q)=.bad:=by
 erw[ya6];split
 .rename_i c hc;split
  .rename_i hz;exact .inl ⟨c,zdO (by rw[hc]),hz,rfl⟩
  .exact .inr rfl
 .exact .inr rfl
def zfy(ha:PE X a (tE S X ca))(hb:PE X b (tE S X cb))(hs:starEach [b] X.env=(AE,eval b X.env)::starEach [] X.env:=by rfl)(hbase:attributeBase a "split" X.env (eval a X.env)=eval a X.env:=by rfl)(hline:(apos.endLine==pos.line)=true:=by rfl)
  (hfew:((backTo pos (starEach [b] X.env)).all (λx=>!x.1)&&(backToKw pos (keywordEach [] X.env)).all (λx=>x.1.isSome)&&decide (([b]:List AL).length+([]:List Bt).length+(if ([]:List Bt).isEmpty then 0 else 1)<30))=true:=by rfl) (hany:(backTo pos (starEach [] X.env)).any (·.1)=false:=by rfl):
  PE X (.Call (.Attribute a "split" apos) [b] [] pos) (tE S X (.mth .split ca (.cons cb .nil))):=
 (zgT PySem.F.plainAttrs_str Cb PySem.F.type_str_split zfO ha (zS (S:=S) hb za1 hs) hbase hfew hline hs hany).imp λσ H Q ⟨B,φ,st,ρ,rs,re,h⟩=>by
  erw[ev]at h;refine tE.bind rs re h λx H1 v st1 φ1 s1 rs1 re1 rv h1=>?_;let⟨_,e1,h1⟩:=zbj h1
  cases v with
  |str y=>
   erw[yc]at rv;subst rv;refine⟨rfl,tAs.bind rs1 re1 h1 λys H2 vs st2 φ2 s2 rs2 re2 rvs h2=>?_⟩;rcases vs with _|⟨w,_|⟨w',t⟩⟩
   .exact h2.elim
   .let⟨z,rfl,rw⟩:=rvs.one;erw[ybC]at h2
    cases w with
    |str q=>
     erw[yc]at rw;subst rw;rcases zeW st2 y q with⟨c,rfl,hz,e⟩|e
     .rw[e]at h2;exact⟨y,c,rfl,rfl,hz,λl hl=>h2 _ _ φ2 (.upd hl) (rs2.upd hl) (.lst_new hl rs2 (zcG (c:=c) _))⟩
     .rw[e]at h2;exact h2.elim
    |_=>exact h2.elim
   .exact h2.elim
  |_=>cases e1
end
end L2
namespace WE
open PySem PySem.Spec PyProof.Rows
section
variable {pg:A1}{wd:Ab}{A:A5}{Er:AF->AH->Prop}{s:AH}
end
end WE
namespace L2
open PySem PySem.Spec PyProof.Rows
end L2
namespace L2
open PySem PySem.Spec PyProof.Rows IC
inductive ybO(K:AD)(cl:Nat->AG)(w:Ab):List (AM×PV)->List Bo->Prop
 |nil:ybO K cl w [] []
 |cons {k:AM} {v:PV} {t:GP} {u:AF} {x:V} {D:List (AM×PV)} {es:List Bo} (hr:RelV x u) (hv:∀B φ H,yc K cl B φ H v x) (h:ybO K cl w D es):ybO K cl w ((k,v)::D) (⟨DX w.params k,.str k t,u⟩ :: es)
def GD(K:AD)(w:Ab)(mg:AM->Option AF)(cl:Nat->AG)(x:AM)(D:List (AM×PV)):Prop:=
 ∃(y:AG) (es:Array Bo) (ep:Nat),mg x=AA (.ref y)/\K.lookup y=AA ⟨.type "dict",AB,.dict es ep,#[]⟩/\(y==sysModules)=AE/\ybO K cl w D es.toList/\(D.map (·.1)).Nodup
theorem ybO.pairs{K:AD}{cl:Nat->AG}{P:A1}{w:Ab}{D:List (AM×PV)}{es:List Bo}(h:ybO K cl w D es):
  ∃vs:List (AM×AF),Pairs (strKind P w) es vs/\(∀e∈es,∃k,(strKind P w).is k e.key=AC/\e.hash=(strKind P w).hash k)/\vs.map (·.1)=D.map (·.1) /\
   (∀s,(valueAt vs s).isSome=(yaY s D).isSome)/\∀s v,yaY s D=AA v->∃u x,valueAt vs s=AA u/\RelV x u/\∀B φ H,yc K cl B φ H v x:=by
 induction h with
 |nil=>exact⟨[],.nil,λe he=>(by cases he),rfl,λs=>rfl,λs v e=>by cases e⟩
 |@cons k v t u x D es hr hv h ih=>
  let⟨vs,h1,h2,h3,h4,h5⟩:=ih;have hat:∀s,valueAt ((k,u)::vs) s=if k=s then AA u else valueAt vs s:=λs=>by
   unfold valueAt;rw[B7]
   by_cases e:k=s
   .simp[e]
   .simp[e]
  refine⟨(k,u)::vs,.cons (Dw P w k t) rfl h1,λe he=>?_,by rw[AR,AR,h3],λs=>?_,λs v' e=>?_⟩
  .rcases A8.1 he with rfl|he
   .exact⟨k,Dw P w k t,rfl⟩
   .exact h2 e he
  .rw[hat,yaY]
   by_cases e:k=s
   .rw[if_pos e,if_pos (by simpa using e)];rfl
   .rw[if_neg e,if_neg (by simpa using e),h4]
  .rw[yaY]at e;rw[hat]
   by_cases q:k=s
   .rw[if_pos (by simpa using q)]at e
    cases e
    exact⟨u,x,by rw[if_pos q],hr,hv⟩
   .rw[if_neg (by simpa using q)]at e;let⟨u',x',e1,e2,e3⟩:=h5 s v' e;exact⟨u',x',by rw[if_neg q];exact e1,e2,e3⟩
section
variable {S:Se}{X:Cx}{σ:St}{B:AG->Prop}{φ:Ph}{H:Hp}{st:SO}{pos p:BX}{a b i:AL}{ca cb:Ce}{x:AM}{D:List (AM×PV)}{ty:TE}
end
section
variable {K:AD}{cl:Nat->AG}{B:AG->Prop}{φ:Ph}{H:Hp}{st:SO}
theorem nth{D y:AG}(b:¬Bx B D y)(n:AA y∉φ):¬B y/\AA y∉φ++[AA D]:=⟨λz=>b (.inl z),λz=>by
 rcases Aw.1 z with z|z
 .exact n z
 .simp only[A8,BU,or_false,B6]at z;exact b (.inr z)⟩
mutual
theorem yc.thaw{D:AG}:∀(v:PV) (x:V),yc K cl (Bx B D) φ H v x->yc K cl B (φ++[AA D]) H v x
 |.non,x,h=>by erw[yc]at h ⊢;exact h
 |.bl b,x,h=>by erw[yc]at h ⊢;exact h
 |.int i,x,h=>by erw[yc]at h ⊢;exact h
 |.str y,x,h=>by erw[yc]at h ⊢;exact h
 |.tp k vs,x,h=>by
  erw[yc]at h ⊢;let⟨y,xs,e,r,l⟩:=h;refine⟨y,xs,e,?_,ye.thaw vs xs l⟩;rcases r with⟨r,b,n⟩|r
  .exact .inl ⟨r,nth b n⟩
  .exact .inr r
 |.lst vs,x,h=>by
  erw[yc]at h ⊢;let⟨y,xs,e,⟨r,b,n⟩,l⟩:=h;exact⟨y,xs,e,⟨r,nth b n⟩,ye.thaw vs xs l⟩
 |.loc n,x,h=>by
  erw[yc]at h ⊢;let⟨hn,y,e,q⟩:=h;exact⟨by simp;lia,y,e,λb z=>q b (by rw[AO hn]at z;exact z)⟩
 |.fnc j,x,h=>by erw[yc]at h ⊢;exact h
 |.exn c,x,h=>by
  erw[yc]at h ⊢;let⟨y,e,r,b,n⟩:=h;exact⟨y,e,r,nth b n⟩
 |.scr vs,x,h=>by
  erw[yc]at h ⊢;let⟨y,xs,e,r,l⟩:=h;refine⟨y,xs,e,?_,ye.thaw vs xs l⟩;rcases r with⟨r,b,n⟩|r
  .exact .inl ⟨r,nth b n⟩
  .exact .inr r
theorem ye.thaw{D:AG}:∀(v:List PV) (x:List V),ye K cl (Bx B D) φ H v x->ye K cl B (φ++[AA D]) H v x
 |[],x,h=>by erw[ye]at h ⊢;exact h
 |v::vs,x,h=>by
  erw[ye]at h ⊢;let⟨y,ys,e,r,l⟩:=h;exact⟨y,ys,e,yc.thaw v y r,ye.thaw vs ys l⟩
end
theorem DK.thaw{D:AG}:∀{kvs:List (PV×PV)} {ks:List (Key×V)},DK K cl (Bx B D) φ H kvs ks->DK K cl B (φ++[AA D]) H kvs ks
 |[],ks,h=>h
 |(k,v)::r,ks,h=>by
  let⟨q,x,t,e,m,rv,l⟩:=h;exact⟨q,x,t,e,m,rv.thaw,DK.thaw l⟩
theorem DT.thaw{D:AG}:∀{kvs:List (PV×PV)} {ks:List (List NK×V)},DT K cl (Bx B D) φ H kvs ks->DT K cl B (φ++[AA D]) H kvs ks
 |[],ks,h=>h
 |(k,v)::r,ks,h=>by
  let⟨q,x,t,e,m,rv,l⟩:=h;exact⟨q,x,t,e,m,rv.thaw,DT.thaw l⟩
theorem FS.thaw{D:AG}:∀{kvs:List (AM×PV)} {ks:List (AM×V)},FS K cl (Bx B D) φ H kvs ks->FS K cl B (φ++[AA D]) H kvs ks
 |[],ks,h=>h
 |(k,v)::r,ks,h=>by
  let⟨x,t,e,rv,l⟩:=h;exact⟨x,t,e,rv.thaw,FS.thaw l⟩
theorem yh.thaw{D:AG}{zs:List PV}{ys:List V}(rs:yh K cl (Bx B D) φ H st)(nB:¬B D)(hD:H D=AA (.lst ys))(nD:AA D∉φ)(l:ye K cl (Bx B D) φ H zs ys):yh K cl B (φ++[AA D]) H (st++[.lst zs]):=by
 have hl:φ.length=st.length:=rs.len;have spl:∀{n:Nat} {a:AG},(φ++[AA D])[n]?=AA (AA a)->(n<φ.length/\φ[n]?=AA (AA a)) \/ (n=φ.length/\a=D):=λ{n a} e=>by
  by_cases hn:n<φ.length
  .rw[AO hn]at e;exact .inl ⟨hn,e⟩
  .rw[A0 ∅]at e;rcases (by lia:n-φ.length=0 \/ 0<n-φ.length)with q|q
   .rw[q]at e;simp at e;exact .inr ⟨by lia,e.symm⟩
   .rw[Ap (by simp;lia)]at e;cases e
 have ne:∀{n:Nat} {a:AG},φ[n]?=AA (AA a)->a≠D:=λe z=>nD (z ▸ AY e);refine⟨by simp[hl],λm n a e1 e2=>?_,λn a e=>?_,λn o e ho=>?_,λa h=>?_,λa h=>rs.dom a (.inl h),λa h=>rs.nt a (.inl h)⟩
 .rcases spl e1 with⟨h1,e1⟩|⟨h1,q1⟩<;>rcases spl e2 with⟨h2,e2⟩|⟨h2,q2⟩
  .exact rs.inj m n a e1 e2
  .exact absurd q2 (ne e1)
  .exact absurd q1 (ne e2)
  .lia
 .rcases spl e with⟨h1,e1⟩|⟨h1,q1⟩
  .let⟨o,q,r⟩:=rs.obj n a e1;refine⟨o,by rw[AO ∅];exact q,?_⟩
   cases o with
   |lst vs=>let⟨xs,hx,l⟩:=r;exact⟨xs,hx,l.thaw⟩
   |dct t kvs=>cases t<;>(let⟨xs,hx,l⟩:=r;exact⟨xs,hx,l.thaw⟩)
   |ins c fs=>let⟨ks,hx,l⟩:=r;exact⟨ks,hx,l.thaw⟩
   |dead=>exact r.elim
  .subst q1;exact⟨.lst zs,by rw[h1,hl,A0 (AN _)];simp,ys,hD,l.thaw⟩
 .by_cases hn:n<st.length
  .rw[AO hn]at e;let⟨a,q⟩:=rs.liv n o e ho;exact⟨a,by rw[AO ∅];exact q⟩
  .have hn2:n=st.length:=by
    rcases (by lia:n=st.length \/ st.length<n)with q|q
    .exact q
    .rw[Ap (by simp;lia)]at e;cases e
   exact⟨D,by rw[hn2,<-hl,A0 (AN _)];simp⟩
 .rcases Aw.1 h with h|h
  .exact λz=>rs.nb a h (.inl z)
  .simp only[A8,BU,or_false,B6]at h;subst h;exact nB
end
section
variable {S:Se}{X:Cx}{K:AD}{cl:Nat->AG}{σ:St}{B:AG->Prop}{φ φ1:Ph}{H H1:Hp}{st:SO}{ρ:IC.Env}{pos p p2 px:BX}{a b c o tg l elt iter:AL}{ca cb cc ce:Ce}{ci:Cit}{ct:Tg}
def zdj{sl:List (Option Nat)}(hf:yr ct sl=AC){H:Hp}{Q:VK}(h:tE S X (.thw (.comp sl ct ci cc ce)) σ H Q):ybP sl (tI S X ci) (tG0 S X.K ct) (tT0 S X.K cc) (tE0 S X.K ce) σ H Q:=by
  let⟨B,φ,st,ρ,rs,re,h⟩:=h;erw[ev,R.bind_assoc]at h;refine⟨B,φ,st,ρ,rs,re,(Run.bind h).mono λJ H1 kq=>?_⟩;let⟨xs,st1,φ1,s1,rs1,dr,h1⟩:=kq;refine λD hD=>?_
  generalize hone:(λ(x:PV) (st2:SO)=>match yo ct x (sl.map λo=>o.bind λj=>(ρ[j]?).join)with
   |none=>(R.bad:R (Option PV))
   |some ρ1=>(ev S.call ρ1 st2 cc).bind λb st3=>onO (yas st3 b) λk=>cond k ((ev S.call ρ1 st3 ce).bind λy st4=>.ok (AA y) st4) (.ok AB st3))=one at h1
  cases e:compL one xs st1 with
  |exc k s=>rw[e]at h1;erw[yaZ,R.bind]at h1;exact h1.elim
  |bad=>rw[e]at h1;erw[yaZ,R.bind]at h1;exact h1.elim
  |ok zs st5=>
   rw[e]at h1;erw[yaZ]at h1
   by_cases hz:zs.length<=1000000
   case neg=>rw[if_neg hz]at h1;erw[R.bind]at h1;exact h1.elim
   rw[if_pos hz]at h1;erw[R.bind,yc6]at h1;have nB:¬B D:=rs1.nB hD;have nD:AA D∉φ1:=λz=>by
    let⟨w,e⟩:=rs1.there z;rw[hD]at e;cases e
   refine⟨λi m σc ys H2=>∃φ2 st2 vs rest,i+m=xs.length/\Step φ1 H1 φ2 H2/\H2 D=AA (.lst ys)/\AA D∉φ2/\yh X.K S.cl (Bx B D) φ2 H2 st2/\yp X.K S.cl (Bx B D) φ2 H2 (sl.map λo=>o.bind λj=>(ρ[j]?).join) σc /\
     ye X.K S.cl (Bx B D) φ2 H2 vs ys/\compL one (xs.drop i) st2=.ok rest st5/\vs++rest=zs,
    ⟨xs.length,φ1,st1,[],zs,by lia,.upd hD,zc,nD,rs1.more hD,(yp.inn (re.step s1)).more hD,by erw[ye],by simpa using e,rfl⟩,?_⟩
   rintro i m σc ys H2 ⟨φ2,st2,vs,rest,hm,s2,hD2,nD2,rs2,re2,l2,ec,ez⟩
   refine⟨hD2,?_⟩
   by_cases hi:i<xs.length
   .have hl2:=l2.length;have hml:=zkH;have hzl:=congrArg Bd ez;rw[Aq]at hzl;refine .inr ⟨dr.go i φ2 H2 s2 hi,by lia,λσ' ys' H'=>∃φ2 st2 vs rest,Step φ1 H1 φ2 H'/\H' D=AA (.lst ys')/\AA D∉φ2/\yh X.K S.cl (Bx B D) φ2 H' st2/\yp X.K S.cl (Bx B D) φ2 H' (sl.map λo=>o.bind λj=>(ρ[j]?).join) σ' /\
     ye X.K S.cl (Bx B D) φ2 H' vs ys'/\compL one (xs.drop (i+1)) st2=.ok rest st5/\vs++rest=zs,λσ' ys' H' ⟨φ2,st2,vs,rest,q⟩=>⟨m-1,by lia,φ2,st2,vs,rest,by lia,q⟩,λx H3 hy=>?_⟩
    let⟨v,hv,rv,kk⟩:=dr.yld i φ2 H2 st2 x H3 (Bx B D) (λy z=>z.elim .inl λq=>.inr (q ▸ hD)) s2 rs2 hi hy;have s3:Step φ2 H2 φ2 H3:=⟨λb o _ e=>kk b o e,AN _,λ_ _ _ e=>e,λ_ h=>.inl h⟩;have rs3:yh X.K S.cl (Bx B D) φ2 H3 st2:=rs2.same kk;have ed:xs.drop i=v::xs.drop (i+1):=by
     rw[Ay hi];rw[B1 hi]at hv;rw[AU hv]
    rw[ed,compL]at ec;let⟨o,st3,e1,ec⟩:=zf ec;let⟨rest',st4,e2,ec⟩:=zf ec;rw[<-hone]at e1;dsimp only at e1
    cases eb:yo ct v (sl.map λo=>o.bind λj=>(ρ[j]?).join)with
    |none=>rw[eb]at e1;cases e1
    |some ρ1=>
     rw[eb]at e1;dsimp only at e1;let⟨bv,st6,e3,e1⟩:=zf e1;let⟨k,e4,e1⟩:=zgH e1;have er:st4=st5/\ybc o rest'=rest:=by
      injection ec with q1 q2;exact⟨q2,q1⟩
     let⟨rfl,rfl⟩:=er;refine⟨Bx B D,φ2,st2,_,v,ρ1,rs3,re2.step s3,rv,eb,λσ4 re4=>⟨Bx B D,φ2,st2,ρ1,rs3,re4,?_⟩⟩;have et:yax (ev S.call ρ1 st2 cc)=.ok k st6:=by
      rw[e3];erw[yax,R.bind,e4,onO]
     rw[et]
     rintro k' H5 φ5 s5 rs5 rfl
     have nD5:AA D∉φ5:=λz=>by
      rcases s5.new D z with q|q
      .exact nD2 q
      .rw[kk D _ hD2]at q;cases q
     have hD5:H5 D=AA (.lst ys):=s5.keep D _ nD2 (kk D _ hD2);have s25:Step φ1 H1 φ5 H5:=s2.trans (s3.trans s5);have l5:=(l2.step s3).step s5;have re5:yp X.K S.cl (Bx B D) φ5 H5 ρ1 σ4:=re4.step s5;have h0:∀(i:Nat),sl[i]?=AA AB->(sl.map λo=>o.bind λj=>(ρ[j]?).join)[i]?=AA none:=λi q=>by
      rw[Au,q];rfl
     cases k with
     |false=>
      erw[cond_false]at e1
      cases e1
      exact⟨φ5,_,vs,rest',s25,hD5,nD5,rs5,yp.untgt hf h0 eb re5,l5,e2,ez⟩
     |true=>
      erw[cond_true]at e1;let⟨y,st7,e5,e1⟩:=zf e1
      cases e1
      refine⟨Bx B D,φ5,st6,ρ1,rs5,re5,?_⟩;rw[e5];intro y' H6 φ6 s6 rs6 ry;have nD6:AA D∉φ6:=λz=>by
       rcases s6.new D z with q|q
       .exact nD5 q
       .rw[hD5]at q;cases q
      have hD6:H6 D=AA (.lst ys):=s6.keep D _ nD5 hD5;have hBD:Bx B D D:=.inr rfl;refine⟨hD6,φ6,_,vs++[y],rest',?_,zc,nD6,rs6.skip hBD,(yp.untgt hf h0 eb (re5.step s6)).skip hBD,((l5.step s6).append (by erw[ye];exact⟨y',[],rfl,ry,rfl⟩)).skip hBD,e2,?_⟩
      .have s16:=s25.trans s6;exact⟨λb o n q=>by rw[za (zd q hD)];exact s16.keep b o n q,s16.len,s16.pre,s16.new⟩
      .simpa [ybc] using ez
   .have ei:i=xs.length:=by lia
    subst ei;rw[CF,compL]at ec
    cases ec
    have s3:Step φ1 H1 (φ2++[AA D]) H2:=⟨λb o n q=>s2.keep b o n q,Az s2.len (by simp),λn b h e=>by rw[AO (AZ h s2.len)]at e;exact s2.pre n b h e,λb h=>by
     rcases Aw.1 h with h|h
     .exact s2.new b h
     .simp only[A8,BU,or_false,B6]at h;subst h;exact .inr hD⟩
    refine .inl ⟨dr.stop φ2 H2 s2,h1 (.ref D) H2 (φ2++[AA D]) s3 (yh.thaw rs2 nB hD2 nD2 (by rw[<-ez,BN];exact l2)) ?_⟩;erw[yc];refine⟨by simp[rs2.len],D,rfl,λb e=>?_⟩;rw[<-rs2.len,A0 (AN _)]at e;simpa using e.symm
def zfC{sc:An}{NC:List AM}{sl:List (Option Nat)}{ifs:List AL}{i:Nat}{x:AM}{spos:BX}(hN:X.N.Nodup)(hix:X.N[i]?=AA x)(hx:Loc X.env.scope x)(hc:X.calm=AC)(O:yJ X sc NC sl)(hf:yr ct sl=AC)(hi:PI X tg iter (tI S X ci))(hg:∀j,PG (cxC X sc NC j) tg (tG0 S X.K ct))
  (ht:∀j,PTs (cxC X sc NC j) ifs (tT0 S X.K cc)) (he:∀j,PE (cxC X sc NC j) elt (tE0 S X.K ce))
  (hsw:swapsWith (.ListComp elt [⟨tg,iter,ifs,0⟩] sc pos) (AA (.Name x px)) spos.line X.env=pure true:=by rfl) (hs:∀x,foldedSetIterable iter X.env x=pure x:=by intro _;rfl)
  (hfn:X.fn x=AC \/ X.env.scope.names.lookup x=AA .local:=by first|exact .inl rfl|exact .inr rfl|assumption):PS X (.Assign [.Name x px] (.ListComp elt [⟨tg,iter,ifs,0⟩] sc pos) spos) (tS S X (.asg (.n i) (.thw (.comp sl ct ci cc ce)))):=
 (zeQ hN hix hx hc O hi hg ht he hsw hs hfn).imp λD σ H ⟨B,φ,st,ρ,rs,re,h⟩=>by
  refine zdj hf ?_;erw[ex]at h;exact tE.fl rs re h λx H1 v st1 φ1 s rs1 re1 rv h1=>h1 _ H1 φ1 .rfl rs1 (re1.set i rv)
end
section
variable {K:AD}{cl:Nat->AG}{B:AG->Prop}{φ:Ph}{H:Hp}{st:SO}
theorem FS.lookup{f:AM}:∀{fs:List (AM×PV)} {ks:List (AM×V)},FS K cl B φ H fs ks->(∀v,fs.lookup f=AA v->∃x,ks.lookup f=AA x/\yc K cl B φ H v x)/\(fs.lookup f=AB->ks.lookup f=AB)
 |[],ks,h=>by
  cases (show ks=[]from h)
  exact⟨nofun,λ_=>rfl⟩
 |(k,v)::r,ks,h=>by
  let⟨x,s,rfl,rv,l⟩:=h;let⟨q1,q2⟩:=FS.lookup (f:=f) l;erw[FV]
  cases e:f==k with
  |true=>exact⟨λw z=>by cases z;exact⟨x,rfl,rv⟩,λz=>by cases z⟩
  |false=>exact⟨q1,q2⟩
theorem FS.put{f:AM}{v:PV}{x:V}(r:yc K cl B φ H v x):∀{fs:List (AM×PV)} {ks:List (AM×V)},FS K cl B φ H fs ks->FS K cl B φ H (ydc f v fs) (yd3 f x ks)
 |[],ks,h=>by
  cases (show ks=[]from h)
  exact⟨x,[],rfl,r,rfl⟩
 |(k,w)::q,ks,h=>by
  let⟨y,s,rfl,ry,l⟩:=h;erw[ydc,yd3]
  by_cases c:k=f
  .rw[if_pos c,if_pos c];exact⟨x,s,rfl,r,l⟩
  .rw[if_neg c,if_neg c];exact⟨y,_,rfl,ry,FS.put r l⟩
theorem FS.len:∀{fs:List (AM×PV)} {ks:List (AM×V)},FS K cl B φ H fs ks->fs.length=ks.length
 |[],ks,h=>by cases (show ks=[]from h);rfl
 |(k,w)::q,ks,h=>by
  let⟨y,s,rfl,ry,l⟩:=h;simp[FS.len l]
theorem yh.ins{n c:Nat}{fs:List (AM×PV)}{x:V}(rs:yh K cl B φ H st)(r:yc K cl B φ H (.loc n) x)(h:st[n]?=AA (.ins c fs)):∃y ks dx,x=.ref y/\φ[n]?=AA (AA y)/\H y=AA (.ins (cl c) dx ks)/\FS K cl B φ H fs ks:=by
 erw[yc]at r;let⟨hn,y,rfl,hy⟩:=r;let⟨a,ha⟩:=rs.liv n _ h (by intro z;cases z);let⟨o,ho,ro⟩:=rs.obj n a ha;have e:=hy a ha;subst e;rw[h]at ho
 cases ho
 let⟨ks,⟨dx,q⟩,l⟩:=ro;exact⟨a,ks,dx,rfl,ha,q,l⟩
end
theorem yc.inj_non{K:AD}{cl:Nat->AG}{B:AG->Prop}{φ:Ph}{H:Hp}{v:PV}(h:yc K cl B φ H v .non):v=.non:=by
 cases v with
 |non=>rfl
 |bl b=>simp[yc]at h
 |int b=>simp[yc]at h
 |str b=>simp[yc]at h
 |tp k b=>erw[yc]at h;let⟨_,_,e,_⟩:=h;cases e
 |lst b=>erw[yc]at h;let⟨_,_,e,_⟩:=h;cases e
 |loc b=>erw[yc]at h;let⟨_,_,e,_⟩:=h;cases e
 |fnc b=>erw[yc]at h;cases h
 |exn b=>erw[yc]at h;let⟨_,e,_⟩:=h;cases e
 |scr b=>erw[yc]at h;let⟨_,_,e,_⟩:=h;cases e
section
variable {S:Se}{X:Cx}{σ:St}{B:AG->Prop}{φ φ1:Ph}{H H1:Hp}{st:SO}{ρ:IC.Env}{p pos pos' p2 apos:BX}{a b d o e:AL}{ca cb cc:Ce}{es:List AL}{ces:Ces}{c i k:Nat}{f m x:AM}{fa:AG}{fd:Al}{ps:List AM}
def zaA{kk:PV}{kvs:List (PV×PV)}{v:PV}(h:look kk kvs=AA v)(w:PV):(look kk kvs).getD w=v:=by rw[h];rfl
def ziC(hu:X.A.units+16<cLine)(ha:PE X a (tE S X ca))(hb:PE X b (tE S X cb))(hs:yb9 b:=by exact λ_ _=>rfl):PE X (.Subscript a b pos) (tE S X (.dgt ca cb)):=
 (zdx hu ha hb hs).imp λσ H Q ⟨B,φ,st,ρ,rs,re,h⟩=>by
  erw[ev]at h;refine tE.bind rs re h λx H1 v st1 φ1 s1 rs1 re1 rv h1=>tE.bind rs1 re1 h1 λy H2 w st2 φ2 s2 rs2 re2 rw h2=>?_;let⟨z,e,q⟩:=zC h2 rs2;erw[ycM]at e
  cases q3:yan st2 v with
  |none=>rw[q3]at e;cases e
  |some tk=>
   let⟨t,kvs⟩:=tk;rw[q3]at e;dsimp only at e;split at e
   .rename_i hk;let⟨n,rfl,hn⟩:=zej q3;let⟨y3,rfl,hy3,ro3⟩:=rs2.dct (rv.step s2) hn
    cases t with
    |false=>
     let⟨kq,rfl⟩:=zhn hk;let⟨ks,hks,l⟩:=ro3;obtain⟨vv,hv,rvv⟩:∃vv,yay ks kq=AA vv/\yc X.K S.cl B φ2 H2 z vv:=by
      have hn:=DK.look (q:=kq) l (v:=.non) (x:=.non) (by erw[yc]);have hb:=DK.look (q:=kq) l (v:=.bl AC) (x:=.bl AC) (by erw[yc]);rw[zaA e]at hn hb
      cases hv:yay ks kq with
      |some vv=>rw[hv]at hn;exact⟨vv,rfl,hn⟩
      |none=>
       rw[hv]at hn hb;exact absurd (yc.inj_non hn) (λez=>by subst ez;simp[yc]at hb)
     exact⟨y3,vv,rfl,.inl ⟨ks,kq,.inl hks,zkR.mp rw,hv.symm⟩,q vv H2 φ2 .rfl rs2 rvv⟩
    |true=>
     let⟨kq,rfl,hkq⟩:=zfc hk;let⟨ks,hks,l⟩:=ro3;let⟨b',rfl,hb'⟩:=ze6 hkq rw;obtain⟨vv,hv,rvv⟩:∃vv,yay ks kq=AA vv/\yc X.K S.cl B φ2 H2 z vv:=by
      have hn:=DT.look (q:=kq) l (v:=.non) (x:=.non) (by erw[yc]);have hb:=DT.look (q:=kq) l (v:=.bl AC) (x:=.bl AC) (by erw[yc]);rw[zaA e]at hn hb
      cases hv:yay ks kq with
      |some vv=>rw[hv]at hn;exact⟨vv,rfl,hn⟩
      |none=>
       rw[hv]at hn hb;exact absurd (yc.inj_non hn) (λez=>by subst ez;simp[yc]at hb)
     exact⟨y3,vv,rfl,.inr ⟨ks,kq,b',.inl hks,rfl,hb',hv.symm⟩,q vv H2 φ2 .rfl rs2 rvv⟩
   .cases e
end
inductive ybG(w:Ab)(fa:Nat->AG):List (AM×Nat)->List Bo->Prop
 |nil:ybG w fa [] []
 |cons {k:AM} {i:Nat} {t:GP} {D:List (AM×Nat)} {es:List Bo} (h:ybG w fa D es):ybG w fa ((k,i)::D) (⟨DX w.params k,.str k t,.ref (fa i)⟩ :: es)
def GDF(K:AD)(w:Ab)(mg:AM->Option AF)(fa:Nat->AG)(x:AM)(D:List (AM×Nat)):Prop:=
 ∃(y:AG) (es:Array Bo) (ep:Nat),mg x=AA (.ref y)/\K.lookup y=AA ⟨.type "dict",AB,.dict es ep,#[]⟩/\ybG w fa D es.toList/\(D.map (·.1)).Nodup
theorem ybG.pairs{P:A1}{w:Ab}{fa:Nat->AG}{D:List (AM×Nat)}{es:List Bo}(h:ybG w fa D es):
  ∃vs:List (AM×AF),Pairs (strKind P w) es vs/\(∀e∈es,∃k,(strKind P w).is k e.key=AC/\e.hash=(strKind P w).hash k)/\vs.map (·.1)=D.map (·.1) /\
   ∀s i,D.lookup s=AA i->valueAt vs s=AA (.ref (fa i)):=by
 induction h with
 |nil=>exact⟨[],.nil,λe he=>(by cases he),rfl,λs v e=>by cases e⟩
 |@cons k i t D es h ih=>
  let⟨vs,h1,h2,h3,h5⟩:=ih;have hat:∀s,valueAt ((k,BA (fa i))::vs) s=if k=s then AA (.ref (fa i))else valueAt vs s:=λs=>by
   unfold valueAt;rw[B7]
   by_cases e:k=s
   .simp[e]
   .simp[e]
  refine⟨(k,.ref (fa i))::vs,.cons (Dw P w k t) rfl h1,λe he=>?_,by rw[AR,AR,h3],λs j e=>?_⟩
  .rcases A8.1 he with rfl|he
   .exact⟨k,Dw P w k t,rfl⟩
   .exact h2 e he
  .rw[hat];erw[FV]at e
   by_cases q:k=s
   .subst q;rw[beq_self_eq_true]at e
    cases e
    rw[if_pos rfl]
   .rw[beq_eq_false_iff_ne.2 (BI q)]at e;rw[if_neg q];exact h5 s j e
section
variable {S:Se}{X:Cx}{σ:St}{B:AG->Prop}{φ:Ph}{H:Hp}{st:SO}{ρ:IC.Env}{pos p p1 p2 p3 p4 p5 p6 p7:BX}{a b i e n:AL}{es:List AL}{ca cn:Ce}{ces:Ces}{x y:AM}{D:List (AM×Nat)}{ty:TE}{t:TA}{fa:Nat->AG}{fdd:Nat->Al}{ps:Nat->List AM}{k ix:Nat}
def ycA(D:List (AM×Nat))(fa:Nat->AG)(ty:TE):TE:=λσ H Q=>ty σ H λz H2=>∃s j,z=.str s/\D.lookup s=AA j/\Q (.ref (fa j)) H2
def zfq(hg:Gl X x)(h:GDF X.K X.w X.mg fa x D)(hi:PE X i ty)(hs:yb9 i)(hd:(x==("__debug__":AM))=false:=by decide):PE X (.Subscript (.Name x p) i pos) (ycA D fa ty):=by
 let⟨y,es,ep,hm,hk,hr,hn⟩:=h;let⟨vs,h1,h2,h3,h5⟩:=hr.pairs (P:=X.prog);intro π s σ H Q I q0;refine zew D2.lookup hs (thn (zcc (v:=.ref y) hg hm rfl hd π s σ H (λz H1=>z=.ref y/\ty σ H1 λz H2=>∃s j,z=.str s/\D.lookup s=AA j/\Q (.ref (fa j)) H2) I ⟨rfl,q0⟩) λu s1 kq=>?_);let⟨z,H1,I1,rz,ez,q1⟩:=kq;refine thn (hi π s1 σ H1 _ I1 q1) λiv s2 kq=>?_;let⟨z2,H2,I2,rz2,sx,j,ez2,e,q2⟩:=kq;subst ez;subst ez2;obtain rfl:u=BA y:=rz;let⟨t,rfl⟩:=rz2;have dd:s2.heap.DictOf (strKind X.prog X.w) y vs:=⟨_,es,ep,I2.kIn y _ hk,⟨rfl,rfl,rfl⟩,rfl,λe he=>h2 e (by simpa using he),h1,by rw[h3];exact hn⟩;exact⟨dd.typeIs,FP (Dw X.prog X.w sx t) dd.mapOf (h5 sx j e) ⟨.ref (fa j),H2,I2.tok _,rfl,q2⟩⟩
structure Makers(S:Se)(X:Cx)(k:Nat)(D:List (AM×Nat))(fa:Nat->AG)(fdd:Nat->Al)(ps:Nat->List AM):Prop where
 F:∀s j,D.lookup s=AA j->yaM X.prog X.w X.K X.mg X.base (CX1 X.prog X.w) k (fa j) (fdd j) (ps j) (spI X.K S.cl S.call j)
 kp:∀s j,D.lookup s=AA j->Ad X.K (.ref (fa j))=AC
 b:∀s j,D.lookup s=AA j->Binds X.K (fdd j) (ps j) []
def ycJ(S:Se)(X:Cx)(D:List (AM×Nat))(fa:Nat->AG)(ix:Nat)(t:TA):TE:=λσ H Q=>∃s j,D.lookup s=AA j/\σ[ix]?=AA (AA (.ref (fa j)))/\t σ H λvs H1=>∃E:XK,spI X.K S.cl S.call j vs H1 Q E/\∀π s e s',Inv X π σ H1 s->CX1 X.prog X.w X.stack H1 s E e s'->X.xe e s'
def zfF(M:Makers S X k D fa fdd ps)(hr:yat k X.A)(hN:X.N[ix]?=AA x)(hv:Vis X.env.scope x)(ha:PA X (e::es) t)
  (hd:(x==("__debug__":AM))=false:=by decide) (hcd:(x==("__classdict__":AM))=false:=by decide) (he:starEach (e::es) X.env=(AE,eval e X.env)::starEach es X.env:=by rfl) (hpl:(backTo pos (starEach es X.env)).any (·.1)=false:=by rfl):
  PE X (.Call (.Name x p) (e::es) [] pos) (ycJ S X D fa ix t):=by
 intro π s σ H Q I ⟨sx,j,hl,hs,h⟩;refine BQ (thn (zgw hN hv hd hcd π s σ H (λz H1=>z=.ref (fa j)/\t σ H1 λvs H1=>∃E:XK,spI X.K S.cl S.call j vs H1 Q E/\∀π s e s',Inv X π σ H1 s->CX1 X.prog X.w X.stack H1 s E e s'->X.xe e s') I ⟨_,hs,rfl,h⟩) λu s1 kq=>?_);let⟨z,H1,I1,rz,ez,q1⟩:=kq;subst ez;obtain rfl:u=BA (fa j):=rz;refine Eg (h₀:=X.base) I.ok.mod.kin (M.kp sx j hl) (thn (ha pos π s1 σ H1 _ I1 q1) λus s2 kq=>?_) he hpl;let⟨vs,H2,I2,r,E,q,hx⟩:=kq;refine ⟨I2.kIn,?_⟩;exact zck (M.F sx j hl) hr (M.b sx j hl) .nil I2 r (by rw[BN];exact q) λe s' c=>hx π s2 e s' I2 c
theorem yp.hole{K:AD}{cl:Nat->AG}{v:V}(re:yp K cl B φ H ρ σ):yp K cl B φ H (ρ.set ix AB) (σ.set ix (AA v)):=by
 refine⟨by simp[re.len],λj w e=>?_⟩
 by_cases q:ix=j
 .subst q
  by_cases hj:ix<ρ.length
  .rw[Aa hj]at e;cases e
  .rw[Ap (by simp;lia)]at e;cases e
 .rw[A3 q]at e ⊢;exact re.get j w e
def zga{v:PV}{j:Nat}{b:Bool}(h:mkV D b v=AA j):∃s,v=.str s/\D.lookup s=AA j/\b=true:=by
 cases v with
 |str s=>
  cases b with
  |true=>exact⟨s,rfl,h,rfl⟩
  |false=>cases h
 |_=>cases h
def zjj(M:Makers S X k D fa fdd ps)(hr:yat k X.A)(hN:X.N.Nodup)(hi:X.N[ix]?=AA x)(hx:Loc X.env.scope x)(hv:Vis X.env.scope x)(hg:Gl X y)(hd:GDF X.K X.w X.mg fa y D)(hn:PE X n (tE S X cn))(ha:PA X (e::es) (tAs S X ces))
  (hs:yb9 n:=by exact λ_ _=>rfl) (hsw:swapsWith (.Subscript (.Name y p2) n p3) (AA (.Name x p1)) p4.line X.env=pure false:=by rfl) (hf:X.fn x=AC \/ X.env.scope.names.lookup x=AA .local:=by first|exact .inl rfl|exact .inr rfl|assumption)
  (hyd:(y==("__debug__":AM))=false:=by decide) (hxd:(x==("__debug__":AM))=false:=by decide) (hcd:(x==("__classdict__":AM))=false:=by decide) (he:starEach (e::es) X.env=(AE,eval e X.env)::starEach es X.env:=by rfl) (hpl:(backTo p6 (starEach es X.env)).any (·.1)=false:=by rfl):
  PSs X [.Assign [.Name x p1] (.Subscript (.Name y p2) n p3) p4,.Return (AA (.Call (.Name x p5) (e::es) [] p6)) p7] (tSs S X (.cons (.mkr ix D cn ces) .nil)):=
 (zcA (zgP hN hi hx (zfq hg hd hn hs hyd) hsw hf) (zhr (zgg (zfF M hr hi hv ha hxd hcd he hpl)))).imp λD' σ H ⟨B,φ,st,ρ,rs,re,h⟩=>by
  have h:yX S X B φ H (ex S.call ρ st (.mkr ix D cn ces)) D':=by
   erw[exs]at h
   cases q:ex S.call ρ st (.mkr ix D cn ces)with
   |nx ρ' s'=>
    exfalso;erw[ex]at q
    cases q1:ev S.call ρ st cn with
    |ok v1 s1=>
     rw[q1]at q;erw[R.fl]at q;split at q
     .rename_i j _
      cases q2:(evs S.call (ρ.set ix AB) s1 ces).bind λvs st2=>S.call j vs st2 with
      |ok v2 s2=>rw[q2]at q;cases q
      |exc c s2=>rw[q2]at q;cases q
      |bad=>rw[q2]at q;cases q
     .cases q
    |exc c s1=>rw[q1]at q;cases q
    |bad=>rw[q1]at q;cases q
   |rt v s'=>rw[q]at h;exact h
   |bk ρ' s'=>rw[q]at h;exact h
   |ct ρ' s'=>rw[q]at h;exact h
   |exc c ρ' s'=>rw[q]at h;exact h
   |bad=>rw[q]at h;exact h
  erw[ex]at h;refine tE.fl rs re h λx' H1 v st1 φ1 s1 rs1 re1 rv h1=>?_
  cases q:mkV D (decide (ix<ρ.length)) v with
  |none=>rw[q]at h1;exact h1.elim
  |some j=>
   rw[q]at h1;let⟨sx,rfl,hl,hb⟩:=zga q;erw[yc]at rv;subst rv;have hlen:ix<σ.length:=by
    rw[<-re1.len];exact of_decide_eq_true hb
   refine⟨sx,j,rfl,hl,sx,j,hl,by rw[Aa hlen],B,φ1,st1,ρ.set ix AB,rs1,re1.hole,?_⟩;dsimp only at h1
   cases q2:evs S.call (ρ.set ix AB) st1 ces with
   |bad=>rw[q2]at h1;exact h1
   |exc c s2=>rw[q2]at h1;exact λe s' z=>h1 _ φ1 H1 e s' .rfl re1.hole z
   |ok vs st2=>
    rw[q2]at h1;intro xs H2 φ2 s2 rs2 rl;have h2:yX S X B φ1 H1 ((S.call j vs st2).fl (ρ.set ix AB) λv st3=>.rt v st3) D':=h1;refine z8 rs2 rl ?_
    cases q3:S.call j vs st2 with
    |bad=>rw[q3]at h2;exact h2
    |ok v st3=>rw[q3]at h2;exact λx H' φ' s' rs' rv=>h2 x H' φ' (s2.trans s') rs' rv
    |exc c st3=>rw[q3]at h2;exact λe s' z=>h2 _ φ2 H2 e s' s2 (re1.hole.step s2) z
end
section
variable {P:A1}{w:Ab}{K:AD}{mg:AM->Option AF}{base:Ao}{cl:Nat->AG}{T:Nat->Option IC.Fn}{fi:Nat}{fn:IC.Fn}{x qual:AM}{stm:B8}{f:AG}{fd:Al}{N ps:List AM}{k m:Nat}
def zfo:yaM P w K mg base (CX1 P w) m f fd ps (spI K cl (yd T 0) fi):=
 ⟨λvs H Q E ⟨_,_,_,_,_,_,h⟩=>by rw[yd]at h;exact h.elim,λA outer s H args us vs Q E _ _ _ _ ⟨_,_,_,_,_,_,h⟩=>by rw[yd]at h;exact h.elim⟩
end
theorem yao.units{k:Nat}{A:A5}(r:yao k A):A.units+64<cLine:=by have:=r.un;lia
section
variable {P:A1}{w:Ab}{K:AD}{mg:AM->Option AF}{base:Ao}{cl:Nat->AG}{T:Nat->Option IC.Fn}{fi:Nat}{fn:IC.Fn}{x qual:AM}{stm:B8}{f:AG}{fd:Al}{N ps:List AM}{k m:Nat}
def zff(hT:T fi=AA fn)(hns:N.length=fn.ns)(hpu:fn.pure=AE){scope:An}{cdv:AF}{A:A5}{outer:List BC}{s:AH}{vs:List V}{H:Hp}{Q:VK}(h:spI K cl (yd T (k+1)) fi vs H Q E0):
  tSs ⟨cl,yd T k,AE⟩ (ybb P w K mg base N qual scope f cdv A outer s H) fn.body {nx:=λ_ H'=>Q .non H',rt:=Q} (L2.start N vs) H:=by
 let⟨B,φ,st,args,rs,l,h⟩:=h;have hl:args.length=fn.np:=zed (k:=k) hT args st λz=>by rw[z]at h;exact h
 have hlen:=l.length;rw[yd,hT]at h;dsimp only at h;rw[if_pos hl,hpu,if_neg (by simp)]at h;refine⟨B,φ,st,_,rs,yp.start l (fn.ns-fn.np) ∅,?_⟩;show yX _ _ _ _ _ (exs (yd T k) (args.map AA++Am (fn.ns-fn.np) AB) st fn.body) _
 cases e:exs (yd T k) (args.map AA++Am (fn.ns-fn.np) AB) st fn.body with
 |nx ρ' st'=>
  rw[e]at h;intro σ' H' φ' s' rs' re';exact h .non H' φ' s' rs' (by erw[yc])
 |rt v st'=>
  rw[e]at h;intro y H' φ' s' rs' rv;exact h y H' φ' s' rs' rv
 |exc c ρ' st'=>
  rw[e]at h;intro σ' φ1 H1 ev s' s1 _ ex;rcases ex with⟨π,H2,s2,φ2,I,s3,q⟩|⟨hm,_⟩|⟨hm,_⟩
  .let⟨_,cls,_,H',_,_,_,_,_,_,_,_,_,_,e1,φ',s4,r⟩:=q;exact(h H' φ' (s1.trans (s3.trans s4)) r).elim
  .cases hm
  .cases hm
 |bk ρ' st'=>rw[e]at h;exact h.elim
 |ct ρ' st'=>rw[e]at h;exact h.elim
 |bad=>rw[e]at h;exact h.elim
def zif(hT:T fi=AA fn)(F:Fun K x qual stm f fd)(Sc:yam N ps (yg stm))(hnp:ps.length=fn.np)(hns:N.length=fn.ns)(hpu:fn.pure=AE)
  (body:∀(cdv:AF) (A:A5) (outer:List BC) (s:AH) (H:Hp),yao m (A.deeper (envOfC qual (yg stm) s.heap.objs.size f cdv)) ->
   PSs (ybb P w K mg base N qual (yg stm) f cdv A outer s H) (yI stm) (tSs ⟨cl,yd T k,AE⟩ (ybb P w K mg base N qual (yg stm) f cdv A outer s H) fn.body)):
  yby P w K mg base (m+1) f fd ps (spI K cl (yd T (k+1)) fi):=
 F.okH Sc (λvs H Q E h=>zgN hT hnp h) λcdv A outer s H vs Q hr h=>⟨_,body cdv A outer s H hr,zff hT hns hpu h⟩
def zfr:yby P w K mg base m f fd ps (spI K cl (yd T 0) fi):=
 ⟨λvs H Q E ⟨_,_,_,_,_,_,h⟩=>by rw[yd]at h;exact h.elim,λA outer s H args us vs Q _ _ _ _ ⟨_,_,_,_,_,_,h⟩=>by rw[yd]at h;exact h.elim⟩
end
section
variable {S:Se}{X:Cx}{σ:St}{B:AG->Prop}{φ:Ph}{H:Hp}{st:SO}{ρ:IC.Env}{p pos:BX}{e:AL}{es:List AL}{ces:Ces}{fi k:Nat}{x:AM}{f:AG}{fd:Al}{ps:List AM}
end
end L2
namespace L2
open PySem IC
section
variable {S:Se}{X:Cx}{σ:St}{B:AG->Prop}{φ φ1:Ph}{H H1:Hp}{st:SO}{ρ:IC.Env}{p pos p2 px py pt pt2:BX}{a b c d o a' b' c' d':AL}{ca cb cc cd ce cf:Ce}{π:List (AG×BW)}{s:AH}{kt k2:Nat}{es:List AL}{ces:Ces}{x:AM}
end
end L2
namespace L2
open PySem PySem.Spec PyProof.Rows
section
variable {X:Cx}
end
end L2
namespace L2
open PySem PySem.Spec PyProof.Rows IC
section
variable {S:Se}{X:Cx}{σ:St}{B:AG->Prop}{φ φ1:Ph}{H H1:Hp}{st:SO}{ρ:IC.Env}{p pos p2 apos:BX}{a b c d:AL}{ca cb cc:Ce}{es:List AL}{ces:Ces}{K:AD}{cl:Nat->AG}
end
section
variable {S:Se}{X:Cx}{a b:AL}{c i:Nat}{j:Int}{f:AM}{pos tpos:BX}
end
end L2
namespace HT
open PySem PySem.Spec PyProof.Rows
section
variable {prog:A1}{w:Ab}{A:A5}{E:AF->AH->Prop}{s:AH}
end
end HT
namespace L2
open PySem PySem.Spec PyProof.Rows IC
section
variable {S:Se}{X:Cx}{pos p2:BX}{e e3:AL}{te t3:TE}{a:AL}{ca c3:Ce}
theorem ye.reverse{K:AD}{cl:Nat->AG}{B:AG->Prop}{φ:Ph}{H:Hp}:∀{vs:List PV} {xs:List V},ye K cl B φ H vs xs->ye K cl B φ H vs.reverse xs.reverse
 |[],xs,h=>by
  erw[ye]at h;subst h;erw[List.reverse_nil,ye]
 |v::vs,xs,h=>by
  erw[ye]at h;let⟨y,ys,rfl,r,l⟩:=h;rw[FF,FF];exact(ye.reverse l).append (by erw[ye];exact⟨y,[],rfl,r,rfl⟩)
end
section
variable {X:Cx}{prog:A1}{w:Ab}{A:A5}{E:AF->AH->Prop}{s:AH}
end
section
variable {S:Se}{X:Cx}{pos px:BX}{a:AL}{ca:Ce}
end
end L2
namespace PySem
open Sem (wp)
section
variable {prog:A1}{w:Ab}{K:Type}[DecidableEq K]{A:A5}{R:Do->AH->Prop}
end
end PySem
namespace L2
open PySem PySem.Spec PyProof.Rows
section
variable {X:Cx}
end
end L2
namespace L2
open PySem PySem.Spec PyProof.Rows IC
section
variable {K:AD}{cl:Nat->AG}{B:AG->Prop}{φ:Ph}{H:Hp}
end
section
variable {S:Se}{X:Cx}{a:AL}{ca:Ce}{p pos:BX}
end
end L2
namespace PySem
open Sem (wp)
section
variable {prog:A1}{w:Ab}{K:Type}[DecidableEq K]{A:A5}{R:Do->AH->Prop}
end
end PySem
namespace L2
open PySem PySem.Spec PyProof.Rows
section
variable {X:Cx}
end
end L2
namespace PySem
open Sem (wp)
section
variable {prog:A1}{w:Ab}{A:A5}{E:AF->AH->Prop}{s:AH}
end
end PySem
namespace L2
open PySem PySem.Spec PyProof.Rows
section
variable {X:Cx}{π:List (AG×BW)}{σ:St}{H:Hp}{s:AH}{a:AG}{o:BW}{u:HO}
end
section
variable {X:Cx}{tg:AL}
end
end L2
namespace PySem.W
open PySem PySem.Calls PyProof.Rows
section
variable {prog:A1}{w:Ab}{A:A5}{E:AF->AH->Prop}{s:AH}{a:AG}{x y:AF}
end
end PySem.W
namespace PySem
open Sem (wp)
section
variable {prog:A1}{w:Ab}{K:Type}[DecidableEq K]{knd:HeapKind prog w K}{A:A5}{E:AF->AH->Prop}{s:AH}
end
end PySem
namespace L2
open PySem PySem.Spec PyProof.Rows
def ydq(kvs:List (List NK×V)):Prop:=∀p∈kvs,∃i,p.2=.int i
def vI:V->Int
 |.int i=>i
 |_=>0
def ycX(ka kb:List (List NK×V)):Bool:=ka.length==kb.length&&ka.all λp=>match yay kb p.1 with
 |some v=>vI p.2==vI v
 |none=>AE
section
variable {X:Cx}
end
section
variable {X:Cx}
end
end L2
namespace L2
open PySem PySem.Spec PyProof.Rows IC
section
variable {K:AD}{cl:Nat->AG}{B:AG->Prop}{φ:Ph}{H:Hp}
theorem DT.ints:∀{kvs:List (PV×PV)} {ks:List (List NK×V)},DT K cl B φ H kvs ks->kvs.all ybk=AC->ydq ks
 |[],ks,h,_=>by cases (show ks=[]from h);intro p hp;cases hp
 |(k,v)::r,ks,h,a=>by
  let⟨q,x,s,rfl,rfl,rv,l⟩:=h;erw[BB,AI]at a;intro p hp;rcases A8.1 hp with rfl|hp
  .cases v with
   |int i=>erw[yc]at rv;exact⟨i,rv⟩
   |_=>exact absurd a.1 AX
  .exact DT.ints l a.2 p hp
def zeZ{v:PV}{x:V}(a:ybk ((.non:PV),v)=AC)(r:yc K cl B φ H v x):vI x=ivP v/\x=.int (ivP v):=by
 cases v with
 |int i=>erw[yc]at r;subst r;exact⟨rfl,rfl⟩
 |_=>exact absurd a AX
def zcX{p:PV×PV}(h:ybk p=AC):ybk ((.non:PV),p.2)=true:=by
 let⟨a,b⟩:=p
 cases b<;>first|rfl|exact h
theorem DT.find{q:List NK}:∀{kvs:List (PV×PV)} {ks:List (List NK×V)},DT K cl B φ H kvs ks->kvs.all ybk=AC ->
  (match IC.look (.tup (yar q)) kvs with|some v=>AA (ivP v)|none=>AB)=(yay ks q).map vI
 |[],ks,h,_=>by cases (show ks=[]from h);rfl
 |(k,v)::r,ks,h,a=>by
  let⟨q',x,s,rfl,rfl,rv,l⟩:=h;erw[BB,AI]at a;have e:=(zeZ (zcX a.1) rv).1;erw[IC.look,zat]
  by_cases eq:q'=q
  .rw[zP (p:=(q',x)) eq];erw[eq,decide_true,if_true,Bq];exact congrArg AA e.symm
  .rw[zL (p:=(q',x)) eq];erw[decide_eq_true_eq,eq,if_false];exact DT.find l a.2
theorem DT.all{kb:List (PV×PV)}{sb:List (List NK×V)}(b:DT K cl B φ H kb sb)(hb:kb.all ybk=AC):∀{kvs:List (PV×PV)} {ks:List (List NK×V)},DT K cl B φ H kvs ks->kvs.all ybk=AC ->
  (ks.all λp=>match yay sb p.1 with|some v=>vI p.2==vI v|none=>AE)=kvs.all λp=>match IC.look p.1 kb with|some v=>ivP p.2==ivP v|none=>AE
 |[],ks,h,_=>by cases (show ks=[]from h);rfl
 |(k,v)::r,ks,h,a=>by
  let⟨q,x,s,rfl,rfl,rv,l⟩:=h;erw[BB,AI]at a;have e:=(zeZ (zcX a.1) rv).1;rw[BB,BB,DT.all b hb l a.2]
  congr 1
  have f:=b.find hb (q:=q);dsimp only
  cases e1:IC.look (.tup (yar q)) kb with
  |none=>
   rw[e1]at f
   cases e2:yay sb q with
   |none=>rfl
   |some y=>rw[e2]at f;cases f
  |some w=>
   rw[e1]at f
   cases e2:yay sb q with
   |none=>rw[e2]at f;cases f
   |some y=>
    rw[e2]at f;have f:ivP w=vI y:=AU f;have e:vI x=ivP v:=e;erw[f,e]
theorem DT.same{ka kb:List (PV×PV)}{sa sb:List (List NK×V)}(a:DT K cl B φ H ka sa)(b:DT K cl B φ H kb sb)(ha:ka.all ybk=AC)(hb:kb.all ybk=AC):ycX sa sb=ycl ka kb:=by
 unfold ycX ycl;rw[<-a.len,<-b.len];exact congrArg (λz=>ka.length==kb.length&&z) (DT.all b hb a ha)
end
section
variable {S:Se}{X:Cx}{σ:St}{a b:AL}{ca cb:Ce}{p pos:BX}
end
end L2
namespace PySem
open Sem (wp)
section
variable {prog:A1}{w:Ab}{A:A5}{E:AF->AH->Prop}{s:AH}
end
end PySem
namespace L2
open PySem PySem.Spec PyProof.Rows
section
variable {X:Cx}{el:List AL}{kk:Nat}{tp apos cpos:BX}
end
end L2
namespace L2
open PySem PySem.Spec PyProof.Rows IC
section
variable {K:AD}{cl:Nat->AG}{B:AG->Prop}{φ:Ph}{H:Hp}{st:SO}
end
section
variable {S:Se}{X:Cx}
end
end L2
namespace L2
open PySem PySem.Spec PyProof.Rows
section
variable {X:Cx}
end
end L2
namespace L2
open PySem PySem.Spec PyProof.Rows IC
section
variable {S:Se}{X:Cx}{a:AL}{ca:Ce}{p pos:BX}
end
end L2
namespace PySem
open Sem (wp)
section
variable {prog:A1}{w:Ab}{A:A5}{E:AF->AH->Prop}{s:AH}
end
end PySem
namespace L2
open PySem PySem.Spec PyProof.Rows
section
variable {X:Cx}
end
end L2
namespace L2
open PySem PySem.Spec PyProof.Rows IC
theorem DT.size{K:AD}{cl:Nat->AG}{B:AG->Prop}{φ:Ph}{H:Hp}:∀{kvs:List (PV×PV)} {ks:List (List NK×V)},DT K cl B φ H kvs ks->kvs.length=ks.length
 |[],ks,t=>by cases (show ks=[]from t);rfl
 |(k,v)::r,ks,t=>by
  let⟨q,x,s,rfl,rfl,rv,t'⟩:=t;rw[Af,Af,t'.size]
section
variable {S:Se}{X:Cx}{a:AL}{ca:Ce}{p pos:BX}
end
end L2
namespace L2
open PySem PySem.Spec PyProof.Rows
def cxK(X:Cx)(sc:An)(NC:List AM)(x0:AM)(j:CI):Cx where
 prog:=X.prog
 w:=X.w
 K:=X.K
 mg:=X.mg
 base:=X.base
 A:=X.A
 N:=NC
 s₀:=j.s
 H₀:=j.H
 env:=compEnvC sc ((x0,j.C+1)::yaW sc X.env) j.C X.env
 outer:=X.stack
 stack:=X.stack
 ex:=j.fp
 fn:=λx=>x==x0
 calm:=X.calm
 pn:=[]
 xe:=No
structure yM(X:Cx)(sc:An)(NC:List AM)(slots:List (Option Nat))(x0:AM):Prop where
 kind:sc.kind=.function
 names:∀y∈sc.names,y.2=.local->sc.names.lookup y.1=AA .local
 own:∀y∈sc.names,y.2=.cell->y.1=x0
 own2:∀y∈sc.names,y.2=.free->(y.1==x0)=AE
 cf:∀n acc,cellsFrom n sc.names acc=(x0,n)::acc
 pc:∀h,pushCells h sc.names=h.push {cls:=.type "cell",data:=.cell AB}
 free:∀y∈sc.names,y.2=.free->X.env.scope.names.lookup y.1=AA .cell
 slot:∀(i:Nat) (x:AM) (j:Nat),NC[i]?=AA x->slots[i]?=AA (AA j)->X.N[j]?=AA x/\sc.names.lookup x=AA .free
 len:slots.length=NC.length
def zlc{X:Cx}{sc:An}{NC:List AM}{slots:List (Option Nat)}{x0:AM}(N:List AM)(so:An)(hN:X.N=N)(hs:X.env.scope=so)(kind:sc.kind=.function)
  (names:∀y∈sc.names,y.2=.local->sc.names.lookup y.1=AA .local) (own:∀y∈sc.names,y.2=.cell->y.1=x0) (own2:∀y∈sc.names,y.2=.free->(y.1==x0)=AE) (cf:∀n acc,cellsFrom n sc.names acc=(x0,n)::acc) (pc:∀h,pushCells h sc.names=h.push {cls:=.type "cell",data:=.cell AB}) (free:∀y∈sc.names,y.2=.free->so.names.lookup y.1=AA .cell)
  (slot:∀p∈NC.zip slots,(p.2.all λj=>decide (N[j]?=AA p.1/\sc.names.lookup p.1=AA .free))=AC) (len:slots.length=NC.length):yM X sc NC slots x0:=by
 subst hN hs;refine⟨kind,names,own,own2,cf,pc,free,λi x j e1 e2=>?_,len⟩;have hm:(x,AA j)∈NC.zip slots:=AY (i:=i) (by rw[D1];exact⟨e1,e2⟩);have:=slot _ hm;simpa using this
def zfz{M:Fp}{A:A5}{E:AF->AH->Prop}{s:AH}{scope:An}{globals:AG}{closure:List (AM×AG)}{qual:AM}{func:Option AG}{code:AF}{outer:Env}{builtins:AG}{x0:AM}{Q:Env->AH->Prop}
  (cf:∀n acc,cellsFrom n scope.names acc=(x0,n)::acc) (pc:∀h,pushCells h scope.names=h.push {cls:=.type "cell",data:=.cell AB})
  (hQ:∀h',h'.Ns s.heap.objs.size (λ_=>AB)->(∀b o,s.heap.get? b=AA o->h'.get? b=AA o)->h'.IsCell (s.heap.objs.size+1) AB->Q (newEnv scope s.heap.objs.size globals ((x0,s.heap.objs.size+1)::closure) qual func code (AA outer) builtins) {s with heap:=h'}):
  A2 M A (newFunctionEnv scope globals closure [] qual func code (AA outer) builtins) Q E s:=by
 erw[newFunctionEnv,Ef,if_true];refine AJ (wpAny_alloc ?_);refine AJ (wpAny_layCells _ (λname kind cells=>by cases hkc:kind==D9<;>simp[hkc]) _ _ _ _ ?_);rw[cf,pc];have e:({s with heap:=s.heap.push {cls:=.type "dict",data:=.dict #[]} }:AH).heap.objs.size=s.heap.objs.size+1:=ET ..;rw[e];refine AJ ?_;rw[List.forIn_nil];refine AQ (AQ (hQ _ ?_ (λb o q=>AS _ (AS _ q)) ?_))
 .exact(Heap.Ns.new s.heap (.type "dict")).keeps λb o q=>AS _ q
 .exact⟨_,by rw[<-e];exact A6 _ rfl,rfl⟩
section
variable {X:Cx}{sc:An}{NC:List AM}{slots:List (Option Nat)}{x0:AM}{π:List (AG×BW)}{σ:St}{H:Hp}{s:AH}
theorem yM.cells(O:yM X sc NC slots x0)(ok:X.Ok):∀y∈sc.names,y.2=.free->∃c,X.env.cells.lookup y.1=AA c:=λy hy hk=>ok.has y.1 (.inl (O.free y hy hk))
theorem yM.sub(O:yM X sc NC slots x0)(ok:X.Ok):∀x c,(yaW sc X.env).lookup x=AA c->X.env.cells.lookup x=AA c:=zah sc.names [] (O.cells ok) λ_ _ e=>nomatch e
theorem yM.rel(O:yM X sc NC slots x0)(ok:X.Ok){x:AM}(h:sc.names.lookup x=AA .free):(relabel sc X.env).names.lookup x=AA .cell:=by
 rw[zQ,h];have e:X.env.kindOf x=AA .cell:=O.free _ (mem_of_lookup h) rfl;simp[ybF,ok.kind,e]
def zcj(I:Inv X π σ H s)(O:yM X sc NC slots x0){fp:List AG}(hf:∀b∈fp,yaq X π H b)(hob:∀b∈fp,∃o,s.heap.get? b=AA o){h1:Ao}{t':Nat}{m:AM->Option AF}(hns:h1.Ns s.heap.objs.size m)
  (hk:∀b o,s.heap.get? b=AA o->h1.get? b=AA o) (hcell:h1.IsCell (s.heap.objs.size+1) AB):Inv (cxK X sc NC x0 ⟨s.heap.objs.size,s,H,fp⟩) [] (inn slots σ) H {s with heap:=h1,toks:=t'}:=by
 have sub:=O.sub I.ok;have fss:∀b,b≠X.env.locals->b∉X.fs->b∉frs X.stack:=λb h1 h2 hb=>(A8.mp (I.stkSub b hb)).elim h1 h2;have ltC:∀x c,(yaW sc X.env).lookup x=AA c->c<s.heap.objs.size:=λx c e=>by
  let⟨v,q⟩:=I.cell x c (sub x c e);exact q.lt
 have two:∀x c,((x0,s.heap.objs.size+1)::yaW sc X.env).lookup x=AA c->(x=x0/\c=s.heap.objs.size+1) \/ ((x==x0)=AE/\(yaW sc X.env).lookup x=AA c):=λx c e=>by
  rw[As]at e
  cases q:x==x0 with
  |true=>
   rw[q]at e
   cases e
   exact .inl ⟨eq_of_beq q,rfl⟩
  |false=>
   rw[q]at e;exact .inr ⟨rfl,e⟩
 refine⟨⟨I.ok.mod,O.kind,I.ok.glob,I.ok.blt,AN _,λx y c e1 e2=>?_,λx hx=>?_,λx c z e=>?_,I.ok.hd,I.ok.frames,.inl rfl,λb hb=>⟨?_,λx c e=>?_⟩,I.bs,Az I.ok.bsz I.sz,λb o e hb=>?_,λb hb=>fss b (hf b hb).2.1 (hf b hb).2.2.1,I.stack,I.stkFree⟩,
  rfl,I.bare,Un.kept hk,⟨m,hns,λi x v e1 e2 e3=>?_⟩,λx c e=>?_,I.hok.fresh (AN _),λx c e=>?_,λp hp=>(nomatch hp),I.hok.kept hk,?_⟩
 .rcases two x c e1 with⟨rfl,rfl⟩|⟨_,q1⟩
  .rcases two y _ e2 with⟨rfl,_⟩|⟨_,q2⟩
   .rfl
   .exact absurd (FD (Di _) (ltC _ _ q2)) (Bb _)
  .rcases two y c e2 with⟨rfl,rfl⟩|⟨_,q2⟩
   .exact absurd (FD (Di _) (ltC _ _ q1)) (Bb _)
   .exact I.ok.inj x y c (sub x c q1) (sub y c q2)
 .have hx':(relabel sc X.env).names.lookup x=AA .cell \/ (relabel sc X.env).names.lookup x=AA .free:=hx;show ∃c,((x0,s.heap.objs.size+1)::yaW sc X.env).lookup x=AA c;rw[As]
  cases qx:x==x0 with
  |true=>exact⟨_,rfl⟩
  |false=>
  rw[zQ]at hx'
  cases q:sc.names.lookup x with
  |none=>
   rw[q]at hx';rcases hx' with z|z<;>cases z
  |some k=>
   have hm:=mem_of_lookup q;have hkf:k=.free:=by
    rw[q]at hx'
    by_cases hk:k=.free
    .exact hk
    .exfalso;have hb:(k==Bw)=false:=by simpa using hk
     rcases hx' with z|z
     .simp[ybF,hb]at z;have:=O.own _ hm z;have e:x=x0:=this;rw[e]at qx;simp at qx
     .simp[ybF,hb]at z;exact hk z
   subst hkf;exact zE sc.names [] _ hm rfl
 .have e0:x=x0:=eq_of_beq z;rcases two x c e with⟨_,rfl⟩|⟨q,_⟩
  .exact C9 _
  .rw[e0]at q;simp at q
 .let⟨o,e⟩:=hob b hb;exact Ac (AT e)
 .rcases two x c e with⟨_,rfl⟩|⟨_,q⟩
  .let⟨o,e⟩:=hob b hb;exact Dn (Nat.lt_succ_of_lt (AT e))
  .exact(hf b hb).2.2.2.2.1 x c (sub x c q)
 .rcases (hf b hb).2.2.2.1 with z|z
  .exact I.ok.noex b o e z
  .exact absurd (AZ (AT e) (Az I.ok.bsz z)) (Bb _)
 .obtain⟨j,e4,e5⟩:∃j,slots[i]?=AA (AA j)/\σ[j]?=AA (AA v):=by
   have e2':(slots.map λo=>o.bind λj=>(σ[j]?).join)[i]?=AA (AA v):=e2;rw[Au]at e2'
   cases q:slots[i]? with
   |none=>
    rw[q]at e2'
    cases e2'
   |some o=>
    rw[q]at e2'
    cases o with
    |none=>cases e2'
    |some j=>
     refine⟨j,rfl,?_⟩;have e6:(σ[j]?).join=AA v:=AU e2'
     cases q2:σ[j]? with
     |none=>
      rw[q2]at e6
      cases e6
     |some w=>
      rw[q2]at e6;have e7:w=AA v:=e6;rw[e7]
  let⟨e6,e7⟩:=O.slot i x j e1 e4;have kc:X.env.scope.names.lookup x=AA .cell:=O.free _ (mem_of_lookup e7) rfl;let⟨m0,hn0,hl⟩:=I.loc;let⟨u,r,lk⟩:=hl j x v e6 e5 (.inr (.inl kc));refine⟨u,r,.inr ⟨.inl (O.rel I.ok e7),?_⟩⟩;rcases lk with⟨z,_⟩|⟨_,c,hc,o,ho,hd⟩
  .rw[show X.env.kindOf x=AA .cell from kc]at z
   cases z
  .let⟨c',hc'⟩:=zE (env:=X.env) sc.names [] _ (mem_of_lookup e7) rfl;have e8:c'=c:=AU ((sub x c' hc').symm.trans hc);subst e8;refine⟨c',?_,o,hk _ _ ho,hd⟩;show ((x0,s.heap.objs.size+1)::yaW sc X.env).lookup x=AA c';rw[As,O.own2 _ (mem_of_lookup e7) rfl];exact hc'
 .rcases two x c e with⟨_,rfl⟩|⟨_,q⟩
  .exact⟨AB,hcell⟩
  .let⟨v,o,ho,hd⟩:=I.cell x c (sub x c q);exact⟨v,o,hk _ _ ho,hd⟩
 .rcases two x c e with⟨_,rfl⟩|⟨_,q⟩
  .exact I.hok.fresh (C9 _)
  .exact I.freeC x c (sub x c q)
 .show (slots.map λo=>o.bind λj=>(σ[j]?).join).length=NC.length;rw[Ak,O.len]
def zb6(I:Inv X π σ H s){fp:List AG}(hf:∀b∈fp,yaq X π H b){C:AG}(hC:s.heap.objs.size<=C){pl:List (AG×BW)}{σ':St}{H':Hp}{s':AH}(J:Inv (cxK X sc NC x0 ⟨C,s,H,fp⟩) pl σ' H' s')
  {h2:Ao} (hb:B9 C s'.heap h2):Inv X π σ H' {s' with heap:=h2}:=by
 have nC:∀b o,s.heap.get? b=AA o->b≠C:=λb o e=>Ac (AZ (AT e) hC);have B:Un (frs X.stack) fp H H' s.heap s'.heap:=J.base;have fC:H' C=none:=J.free;refine I.call' (ch:=fp) J.os ⟨λb o e n h3 h4=>(hb.2 b (nC b o e)).trans (B.keep b o e n h3 h4),λb o e n h3 h4=>?_,B.free,λb o e h4=>?_,B.tups,B.frzs,B.tbls⟩ (λb u e=>?_) J.bare λb h3=>⟨(hf b h3).2.2.2.1,(hf b h3).2.1,(hf b h3).2.2.2.2.1,(hf b h3).2.2.2.2.2⟩
 .let⟨sl,q⟩:=B.slot b o e n h3 h4;exact⟨sl,(hb.2 b (nC b o e)).trans q⟩
 .let⟨o',q⟩:=B.there b o e h4;exact⟨o',(hb.2 b (nC b o e)).trans q⟩
 .refine(J.hok b u e).stay (λc v hc q=>(hb.2 c λz=>?_).trans q) (λ_ q=>q) λ_ _ q=>q;subst z;rcases hc with z|z
  .rw[z,e]at fC
   cases fC
  .rw[z]at fC
   cases fC
end
section
variable {X:Cx}{sc:An}{NC:List AM}{slots:List (Option Nat)}{x0:AM}{elt tg iter:AL}{ifs:List AL}{pos:BX}{g:TG}{ti:TT}{te:TE}
variable {wi:TI}
end
abbrev TM:=St->Hp->(St->Hp->Prop)->Prop
def PEm(X:Cx)(em:FH Unit)(t:TM):Prop:=∀(π:List (AG×BW)) (s:AH) (σ:St) (H:Hp) (Q:St->Hp->Prop),Inv X π σ H s->t σ H Q ->
 A2 (model X.prog X.w) X.A em (λ_ s'=>∃σ' H',Inv X π σ' H' s'/\Q σ' H') X.xe s
def turnOf(tg iter:AL)(ifs:List AL)(e:AL)(d:Nat)(it acc:AF)(env:Env)(em:FH Unit):FH Fin:=do
 standAt iter.pos
 match <-pyNext it with
 |none=>pure (.done .next)
 |some v=>
  letOwnedTupleGo tg it v
  assign tg env v
  let mut ok:=AC
  for c in ifs do
   if ok then ok <-isTrue c env (eval c env)
  if ok then em
  again (.compLoop e d it acc env)
def ybJ(tg iter:AL)(ifs:List AL)(e:AL)(d:Nat)(it acc:AF)(env:Env)(em:FH Fin->FH Fin):FH Fin:=do
 standAt iter.pos
 match <-pyNext it with
 |none=>pure (.done .next)
 |some v=>
  letOwnedTupleGo tg it v
  assign tg env v
  let mut ok:=AC
  for c in ifs do
   if ok then ok <-isTrue c env (eval c env)
  if ok then em (again (.compLoop e d it acc env))else again (.compLoop e d it acc env)
def nextM(iter:AL)(e:AL)(d:Nat)(acc:AF)(env:Env):FH Unit:=do
 let x <-eval iter env
 standAt iter.pos
 let x <-foldedSetIterable iter env x
 let _ <-runOwn (.compStart e d (<-holding [x] (pyIter x)) acc env) env
def nextK(iter:AL)(e:AL)(d:Nat)(acc:AF)(env:Env)(k:FH Fin):FH Fin:=do
 let x <-eval iter env
 standAt iter.pos
 let x <-foldedSetIterable iter env x
 let _ <-runOwn (.compStart e d (<-holding [x] (pyIter x)) acc env) env
 k
def zfE(iter:AL)(e:AL)(d:Nat)(acc:AF)(env:Env)(k:FH Fin):nextK iter e d acc env k=(nextM iter e d acc env >>= λ_=>k):=by
 erw[nextK,nextM,bind_assoc,pure_bind]
def zaS(tg iter iter2:AL)(ifs:List AL)(e:AL)(d d2:Nat)(it acc:AF)(env:Env):ybJ tg iter ifs e d it acc env (nextK iter2 e d2 acc env)=turnOf tg iter ifs e d it acc env (nextM iter2 e d2 acc env):=
 congrArg (ybJ tg iter ifs e d it acc env) (funext λk=>zfE iter2 e d2 acc env k)
structure ybg(A:A5)(e:AL)(d:Nat)(tg iter:AL)(ifs:List AL)(acc:AF)(env:Env)(em:FH Unit):Prop where
 turn:∀it,compTurn e d it acc env=turnOf tg iter ifs e d it acc env em
 cl:(clausesOf e)[d]?=AA ⟨tg,iter,ifs,0⟩
 dn:∀pg wd it,(model pg wd).den (.compLoop e d it acc env)=(compTurn e d it acc env).onRaise (λx=>do noteFrame x env;theTreesLotGoes x)
 dn2:∀pg wd it,(model pg wd).den (.compStart e d it acc env)=(compStart e d it acc env).onRaise (λx=>do noteFrame x env;standAt theWindowsPlace)
 un:∀it,A.under (.compLoop e d it acc env)=A
 un2:∀it,A.under (.compStart e d it acc env)=A
 q:∀it,(Code.compLoop e d it acc env).quiet=AC
section
variable {pg:A1}{wd:Ab}{A:A5}{R:Do->AH->Prop}{s:AH}{e:AL}{d:Nat}{tg iter:AL}{ifs:List AL}{acc it:AF}{env:Env}{em:FH Unit}
def zhv(C:ybg A e d tg iter ifs acc env em)(I:Nat->AH->Prop)
  (turn:∀n s,I n s->A2 (model pg wd) A (pyNext it) (λr s1=>match r with
   |none=>R (.ok .next) s1
   |some v=>A2 (model pg wd) A (letOwnedTupleGo tg it v) (λ_ s2=>A2 (model pg wd) A (assign tg env v) (λ_ s3=>A2 (model pg wd) A (yci ifs env) (λok s4=>
     if ok=AC then A2 (model pg wd) A em (λ_ s6=>∃m,m<n/\I m s6) No s4
     else ∃m,m<n/\I m s4) No s3) No s2) No s1) No s)
  (n:Nat) (h:I n s):codeAny (model pg wd) A (.compLoop e d it acc env) R s:=by
 refine codeAny_loop (C.q it) I (λn s hI=>?_) n h;rw[C.un,C.dn];refine wpAny_noted ?_;rw[C.turn];refine AJ (BY (AJ (BD (turn n s hI) (λr s1 h1=>?_) λ_ _ f=>f.elim)))
 cases r with
 |none=>exact AQ h1
 |some v=>
  refine AJ (BD h1 (λ_ s2 h2=>AJ (BD h2 (λ_ s3 h3=>AJ (BD h3 (λok s4 h4=>?_) λ_ _ f=>f.elim)) λ_ _ f=>f.elim)) λ_ _ f=>f.elim)
  cases ok with
  |false=>exact AQ ⟨rfl,h4⟩
  |true=>exact AJ (BD h4 (λ_ s6 h6=>AQ ⟨rfl,h6⟩) λ_ _ f=>f.elim)
def zcR(C:ybg A e d tg iter ifs acc env em)(h0:codeAny (model pg wd) A (.compLoop e d it acc env) R s)
  (h:A2 (model pg wd) A (pyIter it) (λit' s'=>codeAny (model pg wd) A (.compLoop e d it' acc env) R s') (notedBy (model pg wd) A env λx s'=>R (.error x) s') s):
  codeAny (model pg wd) A (.compStart e d it acc env) R s:=by
 refine codeAny_of_tree ?_;rw[C.un2,C.dn2];refine wpAny_notedAt ?_;unfold compStart;rw[C.cl];show A2 _ _ (ask >>= _) _ _ s;refine AJ (wpAny_askSetting (wpAny_ite ?_));split
 .first
   |exact AJ (AQ (AQ (DH (C.q it) h0)))
   |exact AQ (DH (C.q it) h0)
 .first
   |exact AJ (Dm (AJ (BY (AJ (BD h (λit' s' h'=>AQ (DH (C.q it') h')) λ_ _ x=>x)))))
   |(refine AJ (Dm ?_);show A2 _ _ (standAt iter.pos >>= _) _ _ s;exact AJ (BY (AJ (BD h (λit' s' h'=>AQ (DH (C.q it') h')) λ_ _ x=>x))))
end
def ybr(J:It)(g:TG)(ti:TT)(tm:TM)(W:Nat->Nat->St->Hp->Prop)(Q:St->Hp->Prop):Prop:=
 ∀i m σ H,W i m σ H->(J.stop i H/\Q σ H) \/ (J.go i H/\∃N:St->Hp->Prop,(∀σ' H',N σ' H'->∃m',m' < m/\W (i+1) m' σ' H') /\
  ∀x H',J.yld i H x H'->g x σ H' λσ2 H2=>ti σ2 H2 λb H3=>if b=AC then tm σ2 H3 N else N σ2 H3)
section
variable {Y:Cx}{e:AL}{d:Nat}{tg iter:AL}{ifs:List AL}{acc:AF}{em:FH Unit}{g:TG}{ti:TT}{tm:TM}{π:List (AG×BW)}{σ:St}{H:Hp}{s:AH}{R:Do->AH->Prop}
def zkS(hx:Y.xe=No)(hc:Y.calm=AC)(C:ybg Y.A e d tg iter ifs acc Y.env em)(hg:PG Y tg g)(ht:PTs Y ifs ti)(hm:PEm Y em tm){it:AG}{fp:List AG}{tn:Nat->Ao->Prop}{J:It}
  {W:Nat->Nat->St->Hp->Prop} {Q:St->Hp->Prop} (T:Turn Y.prog Y.w Y.K tg J fp it tn) (I:Inv Y π σ H s) (hf:∀b∈fp,yaq Y π H b) (st:tn 0 s.heap) {m:Nat} (w0:W 0 m σ H) (step:ybr J g ti tm W Q)
  (fin:∀σ' H' s',Inv Y π σ' H' s'->(∀b∈fp,H' b=AB)->Q σ' H'->R (.ok .next) s'):
  codeAny (model Y.prog Y.w) Y.A (.compLoop e d (.ref it) acc Y.env) R s:=by
 have stat:∀{H':Hp},(∀b∈fp,H' b=AB)->∀b∈fp,yaq Y π H' b:=λhn b hb=>⟨hn b hb,(hf b hb).2⟩;refine zhv C (λn s'=>∃i σ' H',Inv Y π σ' H' s'/\tn i s'.heap/\(∀b∈fp,H' b=AB)/\W i n σ' H') ?_ m ⟨0,σ,H,I,st,λb hb=>(hf b hb).1,w0⟩
 rintro n s3 ⟨i,σ3,H3,I3,st3,fr3,w3⟩
 rcases step i n σ3 H3 w3 with⟨stop,qn⟩|⟨go,N,hN,turn⟩
 .refine thn (T.done Y rfl rfl rfl hc i π s3 σ3 H3 No I3 (stat fr3) st3 stop) λr s4 kq=>?_;let⟨hr,I4⟩:=kq;subst hr;exact fin σ3 H3 s4 I4 fr3 qn
 .refine thn (T.item Y rfl rfl rfl hc i π s3 σ3 H3 No I3 (stat fr3) st3 go) λr s4 kq=>?_;let⟨u,hr,h4⟩:=kq;subst hr;refine thn h4 λ_ s5 kq=>?_;let⟨x,H5,I5,r5,y5,st5,fr5⟩:=kq;have I5':=I5.pinned (stat fr5) (T.obj _ _ st5);have again:∀{σ8:St} {H8:Hp} {s8:AH},Inv Y (π++yaI fp s5.heap) σ8 H8 s8->N σ8 H8->∃m,m<n/\∃i σ' H',Inv Y π σ' H' s8/\tn i s8.heap/\(∀b∈fp,H' b=AB)/\W i m σ' H':=λ{σ8 H8 s8} I8 n8=>by
   let⟨m',hm,w8⟩:=hN σ8 H8 n8;refine⟨m',hm,i+1,σ8,H8,I8.unpinned,T.keep _ _ _ st5 λb hb o e=>(I8.pin (b,o) (A7 _ (A7 _ (zr hb e)))).1,λb hb=>?_,w8⟩;let⟨o,e,d⟩:=T.obj _ _ st5 b hb;exact(I8.pin (b,o) (A7 _ (A7 _ (zr hb e)))).2.1
  have hg':=hg _ s5 σ3 H5 x u _ I5' r5 (turn x H5 y5);rw[hx]at hg';refine thn hg' λ_ s6 kq=>?_;let⟨σ6,H6,I6,q6⟩:=kq;have ht':=ht _ s6 σ6 H6 _ I6 q6;rw[hx]at ht';refine thn ht' λok s7 kq=>?_;let⟨H7,I7,q7⟩:=kq
  cases ok with
  |false=>
   rw[if_neg AX]at q7 ⊢;exact again I7 q7
  |true=>
   rw[if_pos rfl]at q7 ⊢;have hm':=hm _ s7 σ6 H7 _ I7 q7;rw[hx]at hm';exact thn hm' λ_ s8 ⟨σ8,H8,I8,q8⟩=>again I8 q8
def ybA(wi:TI)(g:TG)(ti:TT)(tm:TM):TM:=λσ H Q=>wi σ H λJ H1=>∃W,(∃m,W 0 m σ H1)/\ybr J g ti tm W Q
def zfi{wi:TI}(hx:Y.xe=No)(hc:Y.calm=AC)(C:ybg Y.A e d tg iter ifs acc Y.env em)(hi:PI Y tg iter wi)(hg:PG Y tg g)(ht:PTs Y ifs ti)(hm:PEm Y em tm)
  (hs:∀x,foldedSetIterable iter Y.env x=pure x:=by intro _;rfl):PEm Y (nextM iter e d acc Y.env) (ybA wi g ti tm):=by
 intro π s σ H Q I h;unfold nextM;refine AJ (thn (hi π s σ H _ I h) λv s1 h1=>AJ (BY (AJ (wpAny_of_eq (hs v) (AJ (Bu (thn h1 λitv s2 h2=>?_)))))));let⟨it,fp,tn,J,H2,rfl,I2,T,st2,f2,W,⟨m0,w0⟩,step⟩:=h2;refine AJ (wpAny_runOwn ?_);rw[show Y.A.mark AB=Y.A by cases Y.A;rfl];have lp:=zkS (R:=λr s'=>match r with | .ok f=>A2 (model Y.prog Y.w) Y.A (pure Ck) (λ_ s'=>∃σ' H',Inv Y π σ' H' s'/\Q σ' H') Y.xe s' | .error e=>cameBackBy (model Y.prog Y.w) Y.A Y.env Y.xe e s')
  hx hc C hg ht hm T I2 f2 st2 w0 step λσ' H' s' I' _ q=>AQ ⟨σ',H',I',q⟩
 exact zcR C lp (T.self Y.A 0 s2 _ _ st2 lp)
def zha{elt:AL}{te:TE}{D:AG}(he:PE Y elt te):PEm Y (do let _ <-call (.builtin "list.append") [.ref D,<-eval elt Y.env]) (λσ H Q=>te σ H λy H'=>∃ys,H' D=AA (.lst ys)/\ys.length<sizeLine/\Q σ (upd H' D (.lst (ys++[y])))):=by
 intro π s σ H Q I h;refine AJ (thn (he π s σ H _ I h) λy s8 kq=>?_);let⟨v,H8,I8,r8,ys,hD8,hz,q8⟩:=kq;refine AJ (thn (zaL (X:=Y) _ s8 σ H8 (.ref D) [v] (.ref D) [y] (λz H'=>z=.non/\H'=upd H8 D (.lst (ys++[v]))) I8 rfl (.cons r8 .nil) ⟨D,ys,v,rfl,rfl,hD8,hz,rfl,rfl⟩) λz s9 kq=>?_);let⟨zv,H9,I9,r9,e1,e2⟩:=kq;subst e2;exact AQ ⟨σ,_,I9,q8⟩
end
section
variable {Y:Cx}{π:List (AG×BW)}{σ:St}{H:Hp}{s:AH}
def zeg{A:A5}{E:AF->AH->Prop}{D b:AG}{kvs:List (List NK×V)}{k:List NK}{v:V}{r:AF}{Q:Unit->AH->Prop}(hu:A.units+16<cLine)(I:Inv Y π σ H s)(e:H D=AA (.dT kvs))(eb:KyR H k b)(l:kvs.length<sizeLine)(rv:RelV v r)
  (h:∀s',Inv Y π σ (upd H D (.dT (putK kvs k v))) s'->Q () s'):A2 (model Y.prog Y.w) A (dictSet D (.ref b) r) Q E s:=by
 let⟨z,hd,xs,rel,dd⟩:=zkj I.hok e;have hz:xs.length<=sizeLine:=by rw[<-E4 rel];exact z
 have hl:(putK kvs k v).length<=sizeLine:=by have:=zaH kvs k v;lia
 refine wpAny_dictSet_heap (hsz:=hz) ((show A.units+8<cLine by lia)) (zd0 I.hok eb) dd λh' dd' hs=>h _ ?_;let⟨q,es,ep,hq,h2,h3,h4,_,h5⟩:=dd';refine zeO I (by rw[e];exact CU) hs ⟨q,hq⟩ ⟨hl,hd,_,(rel.put k eb rv).keeps λc ys ec=>?_,q,es,ep,hq,h2,h3,h4,h5⟩;rw[za (zky ec e (λz=>nomatch z))];exact ec
def zhg{kx vx:AL}{tk tv:TE}{D:AG}(hu:Y.A.units+16<cLine)(hk:PE Y kx tk)(hv:PE Y vx tv):PEm Y (do
    let kv <-eval kx Y.env
    let vv <-holding [kv] (eval vx Y.env)
    standAt {kx.pos with endLine:=vx.pos.endLine,endCol:=vx.pos.endCol}
    holding [kv,vv] (dictSet D kv vv)) (λσ H Q=>tk σ H λx H1=>tv σ H1 λv H2=>∃b k kvs,x=.ref b/\H2 D=AA (.dT kvs)/\KyR H2 k b/\kvs.length<sizeLine/\Q σ (upd H2 D (.dT (putK kvs k v)))):=by
 intro π s σ H Q I h;refine AJ (thn (hk π s σ H _ I h) λkv s1 kq=>?_);let⟨x,H1,I1,r1,q1⟩:=kq;refine AJ (Bu (thn (hv π s1 σ H1 _ I1 q1) λvv s2 kq=>?_));let⟨v,H2,I2,r2,b,k,kvs,ex,e,eb,l,q2⟩:=kq;subst ex
 cases (show kv=BA b from r1)
 exact AJ (BY (Bu (zeg hu I2 e eb l r2 λs3 I3=>⟨σ,_,I3,q2⟩)))
end
def cxL(X:Cx)(sc:An)(NC:List AM)(own:AG->List (AM×AG))(fn:AM->Bool)(j:CI):Cx where
 prog:=X.prog
 w:=X.w
 K:=X.K
 mg:=X.mg
 base:=X.base
 A:=X.A
 N:=NC
 s₀:=j.s
 H₀:=j.H
 env:=compEnvC sc (own j.C++yaW sc X.env) j.C X.env
 outer:=X.stack
 stack:=X.stack
 ex:=j.fp
 fn:=fn
 calm:=X.calm
 pn:=[]
 xe:=No
structure ybe(X:Cx)(sc:An)(NC:List AM)(slots:List (Option Nat))(own:AG->List (AM×AG))(fn:AM->Bool):Prop where
 kind:sc.kind=.function
 names:∀y∈sc.names,y.2=.local->sc.names.lookup y.1=AA .local
 cells:X.Ok->∀y∈sc.names,y.2=.free->∃c,X.env.cells.lookup y.1=AA c
 enter:∀{π:List (AG×BW)} {σ:St} {H:Hp} {s:AH} {fp:List AG} {Q:Env->AH->Prop},Inv X π σ H s->(∀b∈fp,yaq X π H b)->(∀b∈fp,∃o,s.heap.get? b=AA o) ->
  (∀h1 t1 cenv,Inv (cxL X sc NC own fn ⟨s.heap.objs.size,s,H,fp⟩) [] (inn slots σ) H {s with heap:=h1,toks:=t1}->(∀b o,s.heap.get? b=AA o->h1.get? b=AA o) ->
   {cenv with scope:=relabel sc X.env}=(cxL X sc NC own fn ⟨s.heap.objs.size,s,H,fp⟩).env->cenv.locals=s.heap.objs.size->Q cenv {s with heap:=h1,toks:=t1}) ->
  A2 (model X.prog X.w) X.A (newFunctionEnv sc X.env.globals (yaW sc X.env) [] X.env.qual AB .none (AA X.env)) Q X.xe s
 leave:∀{π:List (AG×BW)} {σ:St} {H:Hp} {s:AH} {fp:List AG} {C:AG} {pl:List (AG×BW)} {σ':St} {H':Hp} {s':AH} {h2:Ao},Inv X π σ H s->(∀b∈fp,yaq X π H b)->s.heap.objs.size<=C ->
  Inv (cxL X sc NC own fn ⟨C,s,H,fp⟩) pl σ' H' s'->B9 C s'.heap h2->Inv X π σ H' {s' with heap:=h2}
theorem yJ.blk{X:Cx}{sc:An}{NC:List AM}{slots:List (Option Nat)}(O:yJ X sc NC slots):ybe X sc NC slots (λ_=>[]) (λ_=>AE) where
 kind:=O.kind
 names:=O.names
 cells:=O.cells
 enter:=λ{π σ H s fp Q} I hf hob h=>EU O.nocell (by intro y hy;simp at hy) (λh1 hns1 hsb1=>
  have hk1:∀b o,s.heap.get? b=AA o->h1.get? b=AA o:=λb o e=>hsb1.extBut b o (Ac (AT e)) (AS _ e)
  h h1 _ _ (zaX I O hf hob hns1 hk1) hk1 rfl rfl) O.kind
 leave:=λI hf hC J hb=>zaT I hf hC J hb
theorem yM.blk{X:Cx}{sc:An}{NC:List AM}{slots:List (Option Nat)}{x0:AM}(O:yM X sc NC slots x0):ybe X sc NC slots (λC=>[(x0,C+1)]) (λx=>x==x0) where
 kind:=O.kind
 names:=O.names
 cells:=O.cells
 enter:=λ{π σ H s fp Q} I hf hob h=>zfz O.cf O.pc λh1 hns1 hk1 hcell=>h h1 _ _ (zcj I O hf hob hns1 hk1 hcell) hk1 rfl rfl
 leave:=λI hf hC J hb=>zb6 I hf hC J hb
section
variable {X:Cx}{sc:An}{NC:List AM}{slots:List (Option Nat)}{own:AG->List (AM×AG)}{fn:AM->Bool}{e tg iter:AL}{ifs:List AL}{g:TG}{ti:TT}{tm:AG->TM}{em:AG->Env->FH Unit}{u0:HO}{ob:BW}{acc:FH AF}
def zaJ(hc:X.calm=AC)(O:ybe X sc NC slots own fn)(C:∀j D,ybg X.A e 0 tg iter ifs (.ref D) (cxL X sc NC own fn j).env (em D (cxL X sc NC own fn j).env))(hg:∀j,PG (cxL X sc NC own fn j) tg g)(ht:∀j,PTs (cxL X sc NC own fn j) ifs ti)(hm:∀j D,PEm (cxL X sc NC own fn j) (em D (cxL X sc NC own fn j).env) (tm D))
  {π:List (AG×BW)} {s:AH} {σ:St} {H:Hp} (I:Inv X π σ H s)
  (hacc:∀{Q:AF->AH->Prop} {E:AF->AH->Prop},Q (.ref s.heap.objs.size) {s with heap:=s.heap.push ob}->A2 (model X.prog X.w) X.A acc Q E s) (hobj:yH X.prog X.w (upd H s.heap.objs.size u0) (s.heap.push ob) s.heap.objs.size u0) (hob:ob.isFreed=AE)
  {it:AG} {fp:List AG} {tn:Nat->Ao->Prop} {J:It} (T:Turn X.prog X.w X.K tg J fp it tn) (st:tn 0 s.heap) (hf:∀b∈fp,yaq X π H b) {Q:VK}
  (h:∀D,H D=AB->∃W,(∃m,W 0 m (inn slots σ) (upd H D u0))/\ybr J g ti (tm D) W (λ_ H'=>Q (.ref D) H')) {RR:AF->AG->Do->AH->Prop}
  (fin:∀D C s' H',Q (.ref D) H'->(∃o m,s'.heap.get? C=AA o/\s'.heap.Ns C m/\∀v,o.data ≠ .cell v)->yaq X π H' C->(∀h2,B9 C s'.heap h2->Inv X π σ H' {s' with heap:=h2})->RR (.ref D) C (.ok .next) s'):
  A2 (model X.prog X.w) X.A acc (λacc s3=>A2 (model X.prog X.w) X.A (newFunctionEnv sc X.env.globals (yaW sc X.env) [] X.env.qual AB .none (AA X.env)) (λcenv s4=>
   codeAny (model X.prog X.w) X.A (.compStart e 0 (.ref it) acc {cenv with scope:=relabel sc X.env}) (RR acc cenv.locals) s4) X.xe s3) X.xe s:=by
 refine hacc ?_;have hDn:H s.heap.objs.size=none:=I.hok.fresh (AN _);let⟨W,⟨m,w0⟩,step⟩:=h s.heap.objs.size hDn;obtain⟨s3,hs3⟩:∃x:AH,x=({s with heap:=s.heap.push ob}:AH):=⟨_,rfl⟩;have e3:s3.heap=s.heap.push ob:=by rw[hs3]
 have hp3:∀b o,s.heap.get? b=AA o->s3.heap.get? b=AA o:=λb o e=>by
  rw[e3];exact AS _ e
 have I3:Inv X π σ (upd H s.heap.objs.size u0) s3:=by
  have q:=I.laid (a:=s.heap.objs.size) (o:=u0) (h':=s3.heap) (t':=s.toks) hp3 (AN _) (by rw[e3];exact hobj);rw[hs3]at q ⊢;exact q
 have hf3:∀b∈fp,yaq X π (upd H s.heap.objs.size u0) b:=λb hb=>by
  let⟨o,e,_⟩:=T.obj _ _ st b hb;refine⟨?_,(hf b hb).2⟩;rw[za (Ac (AT e))];exact(hf b hb).1
 have st3:tn 0 s3.heap:=T.keep _ _ _ st λb _ o e=>hp3 b o e;have hob:∀b∈fp,∃o,s3.heap.get? b=AA o:=λb hb=>by
  let⟨o,e,_⟩:=T.obj _ _ st3 b hb;exact⟨o,e⟩
 rw[<-hs3];refine O.enter I3 hf3 hob λh1 t1 cenv J1 hk1 ee el=>?_;rw[ee,el];have hfc:∀b∈fp,yaq (cxL X sc NC own fn ⟨s3.heap.objs.size,s3,upd H s.heap.objs.size u0,fp⟩) [] (upd H s.heap.objs.size u0) b:=λb hb=>
  ⟨(hf3 b hb).1,(J1.ok.exf b hb).1,J1.ok.exfs b hb,.inl hb,(J1.ok.exf b hb).2,λp hp=>nomatch hp⟩
 have stl:tn 0 ({s3 with heap:=h1,toks:=t1}:AH).heap:=T.keep _ _ _ st3 λb _ o e=>hk1 b o e;have loop:codeAny (model X.prog X.w) X.A (.compLoop e 0 (.ref it) (.ref s.heap.objs.size) (cxL X sc NC own fn ⟨s3.heap.objs.size,s3,upd H s.heap.objs.size u0,fp⟩).env) (RR (.ref s.heap.objs.size) s3.heap.objs.size) {s3 with heap:=h1,toks:=t1}:=by
  refine zkS (Y:=cxL X sc NC own fn ⟨s3.heap.objs.size,s3,upd H s.heap.objs.size u0,fp⟩) rfl hc (C _ _) (hg _) (ht _) (hm _ _) T J1 hfc stl w0 step λσ' H' s' J' fr' q'=>?_;have fC:H' s3.heap.objs.size=none:=J'.free;refine fin _ _ s' H' q' ?_ (I3.fpOk (AN _) fC) λh2 hb=>O.leave I3 hf3 (AN _) J' hb;let⟨m',hn',_⟩:=J'.loc;let⟨o,es,ep,ho,hd,r⟩:=id hn';exact⟨o,m',ho,hn',λv z=>by rw[hd]at z;cases z⟩
 exact zcR (C _ _) loop (T.self X.A 0 _ _ _ stl loop)
variable {wi:TI}
def ya5(slots:List (Option Nat))(wi:TI)(g:TG)(ti:TT)(u0:HO)(tm:AG->TM):TE:=λσ H Q=>wi σ H λJ H1=>∀D,H1 D=AB->∃W,(∃m,W 0 m (inn slots σ) (upd H1 D u0))/\ybr J g ti (tm D) W (λ_ H'=>Q (.ref D) H')
def zc0{elt:AL}{rest:List Bz}{pos:BX}(hc:X.calm=AC)(O:ybe X sc NC slots own fn)(C:∀j D,ybg X.A (.ListComp elt (⟨tg,iter,ifs,0⟩ :: rest) sc pos) 0 tg iter ifs (.ref D) (cxL X sc NC own fn j).env (em D (cxL X sc NC own fn j).env))(hi:PI X tg iter wi)(hg:∀j,PG (cxL X sc NC own fn j) tg g)(ht:∀j,PTs (cxL X sc NC own fn j) ifs ti)(hm:∀j D,PEm (cxL X sc NC own fn j) (em D (cxL X sc NC own fn j).env) (tm D))
  (hs:∀x,foldedSetIterable iter X.env x=pure x:=by intro _;rfl):PE X (.ListComp elt (⟨tg,iter,ifs,0⟩ :: rest) sc pos) (ya5 slots wi g ti (.lst []) tm):=by
 intro π s σ H Q I h;rw[eval_ListComp];refine By (use:=AB) rfl hs (zl (O.cells I.ok)) O.kind O.names (thn (hi π s σ H _ I h) λv s1 h1=>thn h1 λitv s2 h2=>?_);let⟨it,fp,tn,J,H2,rfl,I2,T,st2,f2,q2⟩:=h2;refine zaJ (u0:=.lst []) (ob:={cls:=.type "list",dict:=AB,data:=.seq ([]:List AF).toArray}) hc O C hg ht hm I2 (λq=>BE q) ⟨BO _,[],_,.nil,A6 _ rfl⟩ rfl T st2 f2 q2 λD C s' H' q' ⟨o,m,ho,hn,_⟩ _ out=>⟨m,hn,λh2 hb=>⟨.ref D,H',out h2 hb,rfl,q'⟩⟩
def zge{kx vx:AL}{rest:List Bz}{pos:BX}(hc:X.calm=AC)(O:ybe X sc NC slots own fn)(C:∀j D,ybg X.A (.DictComp kx vx (⟨tg,iter,ifs,0⟩ :: rest) sc pos) 0 tg iter ifs (.ref D) (cxL X sc NC own fn j).env (em D (cxL X sc NC own fn j).env))(hi:PI X tg iter wi)(hg:∀j,PG (cxL X sc NC own fn j) tg g)(ht:∀j,PTs (cxL X sc NC own fn j) ifs ti)(hm:∀j D,PEm (cxL X sc NC own fn j) (em D (cxL X sc NC own fn j).env) (tm D))
  (hs:∀x,foldedSetIterable iter X.env x=pure x:=by intro _;rfl):PE X (.DictComp kx vx (⟨tg,iter,ifs,0⟩ :: rest) sc pos) (ya5 slots wi g ti (.dT []) tm):=by
 intro π s σ H Q I h;rw[arm_eval_DictComp];refine By (use:=AB) rfl hs (zl (O.cells I.ok)) O.kind O.names (thn (hi π s σ H _ I h) λv s1 h1=>thn h1 λitv s2 h2=>?_);let⟨it,fp,tn,J,H2,rfl,I2,T,st2,f2,q2⟩:=h2;refine zaJ (u0:=.dT []) (ob:={cls:=.type "dict",data:=.dict #[]}) hc O C hg ht hm I2 (λq=>BE q) (zfY s2.heap I2.big) rfl T st2 f2 q2 λD C s' H' q' ⟨o,m,ho,hn,_⟩ _ out=>⟨m,hn,λh2 hb=>⟨.ref D,H',out h2 hb,rfl,q'⟩⟩
end
def zbv{A:A5}{elt tg iter tg2 iter2:AL}{ifs ifs2:List AL}{rest:List Bz}{sc:An}{pos:BX}{acc:AF}{env:Env}:ybg A (.ListComp elt (⟨tg,iter,ifs,0⟩ :: ⟨tg2,iter2,ifs2,0⟩ :: rest) sc pos) 0 tg iter ifs acc env (nextM iter2 (.ListComp elt (⟨tg,iter,ifs,0⟩ :: ⟨tg2,iter2,ifs2,0⟩ :: rest) sc pos) 1 acc env):=
 ⟨λit=>(show _=ybJ _ _ _ _ _ _ _ _ (nextK _ _ _ _ _)from rfl).trans (zaS ..),rfl,λ_ _ it=>rfl,λ_ _ it=>rfl,λit=>rfl,λit=>rfl,λit=>rfl⟩
def zfe{A:A5}{elt tg iter tg2 iter2:AL}{ifs ifs2:List AL}{c0:Bz}{rest:List Bz}{sc:An}{pos:BX}{acc:AF}{env:Env}:ybg A (.ListComp elt (c0 :: ⟨tg,iter,ifs,0⟩ :: ⟨tg2,iter2,ifs2,0⟩ :: rest) sc pos) 1 tg iter ifs acc env (nextM iter2 (.ListComp elt (c0 :: ⟨tg,iter,ifs,0⟩ :: ⟨tg2,iter2,ifs2,0⟩ :: rest) sc pos) 2 acc env):=
 ⟨λit=>(show _=ybJ _ _ _ _ _ _ _ _ (nextK _ _ _ _ _)from rfl).trans (zaS ..),rfl,λ_ _ it=>rfl,λ_ _ it=>rfl,λit=>rfl,λit=>rfl,λit=>rfl⟩
def zdX{A:A5}{elt tg iter:AL}{ifs:List AL}{c0:Bz}{sc:An}{pos:BX}{D:AG}{env:Env}:ybg A (.ListComp elt [c0,⟨tg,iter,ifs,0⟩] sc pos) 1 tg iter ifs (.ref D) env (do let _ <-call (.builtin "list.append") [.ref D,<-eval elt env]):=
 ⟨λit=>rfl,rfl,λ_ _ it=>rfl,λ_ _ it=>rfl,λit=>rfl,λit=>rfl,λit=>rfl⟩
def zes{A:A5}{elt tg iter:AL}{ifs:List AL}{c0 c1:Bz}{sc:An}{pos:BX}{D:AG}{env:Env}:ybg A (.ListComp elt [c0,c1,⟨tg,iter,ifs,0⟩] sc pos) 2 tg iter ifs (.ref D) env (do let _ <-call (.builtin "list.append") [.ref D,<-eval elt env]):=
 ⟨λit=>rfl,rfl,λ_ _ it=>rfl,λ_ _ it=>rfl,λit=>rfl,λit=>rfl,λit=>rfl⟩
def zfX{A:A5}{k v tg iter:AL}{ifs:List AL}{sc:An}{pos:BX}{D:AG}{env:Env}:ybg A (.DictComp k v [⟨tg,iter,ifs,0⟩] sc pos) 0 tg iter ifs (.ref D) env (do
    let kv <-eval k env
    let vv <-holding [kv] (eval v env)
    standAt {k.pos with endLine:=v.pos.endLine,endCol:=v.pos.endCol}
    holding [kv,vv] (dictSet D kv vv)):=
 ⟨λit=>rfl,rfl,λ_ _ it=>rfl,λ_ _ it=>rfl,λit=>rfl,λit=>rfl,λit=>rfl⟩
end L2
namespace L2
open PySem PySem.Spec PyProof.Rows IC
section
variable {S:Se}{X Y:Cx}{K:AD}{cl:Nat->AG}{σ:St}{B:AG->Prop}{φ φ' φ1:Ph}{H H' H1:Hp}{st:SO}{ρ:IC.Env}{D:AG}{elt tg iter l:AL}{ca ce m:Ce}{ci:Cit}{ct:Tg}{Q':St->Hp->Prop}
theorem Step.putD{u w:HO}(s:Step φ (L2.upd H D u) φ' H')(n:AA D∉φ'):Step φ (L2.upd H D w) φ' (L2.upd H' D w):=by
 refine⟨λb o nb e=>?_,s.len,s.pre,λb hb=>?_⟩
 .by_cases z:b=D
  .subst z;rw[zc]at e ⊢;exact e
  .rw[za z]at e ⊢;exact s.keep b o nb (by rw[za z];exact e)
 .have z:b≠D:=λz=>n (z ▸ hb);rcases s.new b hb with q|q
  .exact .inl q
  .rw[za z]at q;exact .inr (by rw[za z];exact q)
theorem Step.withD{u w:HO}(hD:H D=AA u)(hD':H' D=AA u)(s:Step φ H φ' H')(n:AA D∉φ'):Step φ (L2.upd H D w) φ' (L2.upd H' D w):=by
 have s0:Step φ (L2.upd H D u) φ' H':=⟨λb o nb e=>by
  by_cases z:b=D
  .subst z;rw[zc]at e;rw[hD'];exact e
  .rw[za z]at e;exact s.keep b o nb e,s.len,s.pre,λb hb=>by
  rcases s.new b hb with z|z
  .exact .inl z
  .exact .inr (by rw[za (λw=>by subst w;rw[hD]at z;cases z)];exact z)⟩
 exact s0.putD n
theorem Step.ext(k:∀b o,H b=AA o->H' b=AA o):Step φ H φ H':=⟨λb o _ e=>k b o e,AN _,λ_ _ _ e=>e,λ_ h=>.inl h⟩
def zhC{u:HO}(k:∀b o,H b=AA o->H' b=AA o):∀b o,L2.upd H D u b=AA o->L2.upd H' D u b=AA o:=λb o e=>by
 by_cases z:b=D
 .subst z;rw[zc]at e ⊢;exact e
 .rw[za z]at e ⊢;exact k b o e
theorem ybD.skip{a:AG}{xs:List V}{u:HO}(hB:B D)(r:ybD B φ H a xs):ybD B φ (L2.upd H D u) a xs:=⟨by rw[za (show a≠D from λz=>r.2.1 (z ▸ hB))];exact r.1,r.2⟩
theorem yp.untgtN{ρ0 ρ1:IC.Env}{v:PV}(hf:yaj ct ρ0=AC)(hb:yo ct v ρ0=AA ρ1)(re:yp K cl B φ H ρ1 σ):yp K cl B φ H ρ0 σ:=by
 have no:∀i:Nat,ycY ρ0[i]?=AC->ρ0[i]?=AA none:=λi h=>by
  unfold ycY at h;split at h
  .rename_i e;exact e
  .cases h
 refine yp.untgt (sl:=ρ0.map λo=>o.map λ_=>0) ?_ (λi e=>?_) hb re
 .cases ct with
  |n i=>
   have hf:=no i hf;erw[yr,Au,hf,decide_eq_true_eq];rfl
  |t l=>
   erw[yaj,Ah]at hf;erw[yr,Ah,decide_eq_true_eq,Au];exact λi hi=>by rw[no i (hf i hi)];rfl
 .rw[Au]at e
  cases q:ρ0[i]? with
  |none=>rw[q]at e;cases e
  |some o=>
   rw[q]at e
   cases o with
   |none=>rfl
   |some v=>cases e
def zbL{sl:List (Option Nat)}(hf:yr ct sl=AC):yaj ct (sl.map λo=>o.bind λj=>(ρ[j]?).join)=true:=by
 cases ct with
 |n i=>
  erw[yr,decide_eq_true_eq]at hf;erw[yaj,zax i hf,ycY]
 |t l=>
  erw[yr,Ah,decide_eq_true_eq]at hf;erw[yaj,Ah];exact λi hi=>by rw[zax i (hf i hi)];rfl
def tID(S:Se)(X:Cx)(c:Cit)(D:AG):TI:=λσ H R=>∃B φ st ρ,B D/\yh X.K S.cl B φ H st/\yp X.K S.cl B φ H ρ σ/\Run S X σ B φ H (λφ H xs J=>∀u,Drw S X B φ (L2.upd H D u) xs J) (evi S.call ρ st c) R
def zhE(hl:PE X l (tE S X ca)):PI X tg l (tID S X (.seq ca) D):=
 (ze7 hl).imp λσ H R ⟨B,φ,st,ρ,hB,rs,re,h⟩=>by
  erw[evi]at h;refine tE.bind rs re h λx H1 v st1 φ1 s1 rs1 re1 rv h1=>?_
  cases v with
  |tp k vs=>
   erw[yc]at rv;let⟨y,xs,rfl,rt,l⟩:=rv;exact⟨y,rfl,.inr ⟨⟨xs,rt.sq⟩,h1.ok rs1 λu=>zb8 (rt.skip hB) (l.skip hB)⟩⟩
  |lst vs=>
   erw[yc]at rv;let⟨y,xs,rfl,rt,l⟩:=rv;exact⟨y,rfl,.inl ⟨⟨xs,rt.sq⟩,h1.ok rs1 λu=>zbY (rt.skip hB) (l.skip hB)⟩⟩
  |_=>exact h1.elim
def zde{a:AL}{p pos:BX}(hg:Gl X "range")(hm:X.mg "range"=AB)(ha:PE X a (tE S X ca))(hs:starEach [a] X.env=[(AE,eval a X.env)]:=by rfl):PI X tg (.Call (.Name "range" p) [a] [] pos) (tID S X (.range1 ca) D):=
 (zbT hg hm (zV ha zkF hs) hs).imp λσ H R ⟨B,φ,st,ρ,hB,rs,re,h⟩=>by
  erw[evi]at h;refine tE.bind rs re h λx H1 v st1 φ1 s1 rs1 re1 rv h1=>?_
  cases v with
  |int j=>
   erw[ybS]at h1;split at h1
   .simp only[yc]at rv;subst rv;exact⟨j,rfl,by lia,by lia,h1.ok rs1 λu=>zbR⟩
   .exact h1.elim
  |_=>exact h1.elim
def tM0(S:Se)(K:AD)(m:Ce)(D:AG):TM:=λσ H Q=>∃B φ st ρ ys0 vs st5,B D/\yh K S.cl B φ H st/\yp K S.cl B φ H ρ σ/\H D=AA (.lst ys0)/\emR (ev S.call ρ st m)=.ok vs st5/\ys0.length+vs.length<=1000000 /\
 ∀σ' H' φ' ys,H' D=AA (.lst (ys0++ys))->Step φ (L2.upd H D (.lst (ys0++ys))) φ' H'->yh K S.cl B φ' H' st5->ye K S.cl B φ' H' vs ys->yp K S.cl B φ' H' ρ σ'->Q σ' H'
def zgu{r:R PV}{vs:List PV}{st5:SO}(h:emR r=.ok vs st5):r=.ok (.tp AE vs) st5:=by
 unfold emR at h;split at h
 .cases h;rfl
 .cases h
def zfa(he:PE Y elt (tE0 S K ce)):PEm Y (do let _ <-call (.builtin "list.append") [.ref D,<-eval elt Y.env]) (tM0 S K (.tup (.cons ce .nil)) D):=by
 intro π s σ H Q I ⟨B,φ,st,ρ,ys0,vs,st5,hB,rs,re,hD,e,hz,q⟩;refine zha he π s σ H Q I ⟨B,φ,st,ρ,rs,re,?_⟩;have e:=zgu e;erw[ev,evs]at e;let⟨ws,st6,e1,e2⟩:=zf e;let⟨v,st7,e3,e4⟩:=zf e1
 cases e4
 cases e2
 rw[e3];intro y H6 φ6 s6 rs6 ry;have nD:AA D∉φ:=λz=>rs.nb D z hB;have h6:H6 D=AA (.lst ys0):=s6.keep D _ nD hD;refine⟨ys0,h6,DV (by simp at hz;lia) zkH,q σ _ φ6 [y] zc ?_ (rs6.skip hB) ?_ ((re.step s6).skip hB)⟩
 .exact s6.withD hD h6 λz=>rs6.nb D z hB
 .have:ye K S.cl B φ6 H6 [v] [y]:=by erw[ye];exact⟨y,[],rfl,ry,rfl⟩
  exact this.skip hB
def yeD(S:Se)(K:AD)(B:AG->Prop)(D:AG)(ys0:List V)(φ1:Ph)(H1:Hp)(ρ0:IC.Env)(one:PV->SO->R (List PV))(zs:List PV)(st5:SO)(xs:List PV)(σc:St)(H2:Hp):Prop:=
 ∃φ2 st2 vs rest ys,H2 D=AA (.lst (ys0++ys))/\Step φ1 (L2.upd H1 D (.lst (ys0++ys))) φ2 H2/\yh K S.cl B φ2 H2 st2/\yp K S.cl B φ2 H2 ρ0 σc/\ye K S.cl B φ2 H2 vs ys/\yah one xs st2=.ok rest st5/\vs++rest=zs
def zal{J:It}{xs zs:List PV}{st1 st5:SO}{ys0:List V}{Q:St->Hp->Prop}(hB:B D)(rs1:yh X.K S.cl B φ H st1)(re1:yp X.K S.cl B φ H ρ σ)(hD:H D=AA (.lst ys0))(dr:∀u,Drw S X B φ (L2.upd H D u) xs J)(hn:yaj ct ρ=AC)
  (e:yah (ybh S.call ρ ct m) xs st1=.ok zs st5) (hz:ys0.length+zs.length<=1000000)
  (fin:∀σ' H' φ' ys,H' D=AA (.lst (ys0++ys))->Step φ (L2.upd H D (.lst (ys0++ys))) φ' H'->yh X.K S.cl B φ' H' st5->ye X.K S.cl B φ' H' zs ys->yp X.K S.cl B φ' H' ρ σ'->Q σ' H'):
  ∃W,(∃m,W 0 m σ H)/\ybr J (tG0 S X.K ct) yb7 (tM0 S X.K m D) W Q:=by
 have eq0:L2.upd H D (.lst (ys0++[]))=H:=by
  funext b
  by_cases z:b=D
  .subst z;rw[zc,hD,BN]
  .rw[za z]
 refine⟨λi m' σc H2=>i+m'=xs.length/\yeD S X.K B D ys0 φ H ρ (ybh S.call ρ ct m) zs st5 (xs.drop i) σc H2,
  ⟨xs.length,by lia,φ,st1,[],zs,[],by rw[BN];exact hD,by rw[eq0];exact .rfl,rs1,re1,by erw[ye],by simpa using e,rfl⟩,?_⟩
 rintro i m' σc H2 ⟨hm,φ2,st2,vs,rest,ys,hD2,s2,rs2,re2,l2,ec,ez⟩
 by_cases hi:i<xs.length
 .refine .inr ⟨(dr _).go i φ2 H2 s2 hi,λσ' H'=>yeD S X.K B D ys0 φ H ρ (ybh S.call ρ ct m) zs st5 (xs.drop (i+1)) σ' H',λσ' H' q=>⟨m'-1,by lia,by lia,q⟩,λx H3 hy=>?_⟩;let⟨v,hv,rv,kk⟩:=(dr _).yld i φ2 H2 st2 x H3 B (λy z=>.inl z) s2 rs2 hi hy;let⟨_,ev'⟩:=Ae.1 hv;rw[Ay hi,ev',yah]at ec;let⟨ws,st3,e1,ec⟩:=zf ec;let⟨rest',st4,e2,ec⟩:=zf ec
  cases ec
  unfold ybh at e1
  cases eb:yo ct v ρ with
  |none=>rw[eb]at e1;cases e1
  |some ρ1=>
   rw[eb]at e1;have s3:Step φ2 H2 φ2 H3:=.ext kk;refine⟨B,φ2,st2,ρ,v,ρ1,rs2.same kk,re2.step s3,rv,eb,λσ4 re4=>?_⟩;dsimp only[yb7];rw[if_pos rfl];have hl2:=l2.length;have hzl:=congrArg Bd ez;erw[Aq]at hzl;refine⟨B,φ2,st2,ρ1,ys0++ys,ws,st3,hB,rs2.same kk,re4,kk D _ hD2,e1,by rw[Aq];lia,λσ5 H5 φ5 ys5 h5 s5 rs5 l5 re5=>?_⟩;have nD5:AA D∉φ5:=λz=>rs5.nb D z hB;have nD2:AA D∉φ2:=λz=>rs2.nb D z hB;rw[D5]at h5 s5;have s25:Step φ2 (L2.upd H2 D (.lst (ys0++(ys++ys5)))) φ5 H5:=(Step.ext (zhC kk)).trans s5;refine⟨φ5,st3,vs++ws,rest',ys++ys5,h5,(s2.putD nD2).trans s25,rs5,yp.untgtN hn eb re5,ye.append ((l2.skip hB).step s25) l5,e2,by rw[D5];exact ez⟩
 .have ei:i=xs.length:=by lia
  subst ei;rw[CF]at ec
  cases ec
  rw[BN]at ez;subst ez;exact .inl ⟨(dr _).stop φ2 H2 s2,fin σc H2 φ2 ys hD2 s2 rs2 l2 re2⟩
def zhm(h:tM0 S Y.K (.emq ct ci m) D σ H Q'):ybA (tID S Y ci D) (tG0 S Y.K ct) yb7 (tM0 S Y.K m D) σ H Q':=by
 let⟨B,φ,st,ρ,ys0,vs,st5,hB,rs,re,hD,e,hz,q⟩:=h;have e:=zgu e;rw[ve53]at e;let⟨xs,st1,e1,e2⟩:=zf e;split at e2
 case isFalse=>cases e2
 rename_i hn;refine⟨B,φ,st,ρ,hB,rs,re,?_⟩;rw[e1];intro J H1 φ1 s1 rs1 dr;have e3:yah (ybh S.call ρ ct m) xs st1=.ok vs st5:=by
  unfold tupR at e2;split at e2
  .rename_i e4;cases e2;exact e4
  .cases e2
 have nD:AA D∉φ:=λz=>rs.nb D z hB;have nD1:AA D∉φ1:=λz=>rs1.nb D z hB;have hD1:H1 D=AA (.lst ys0):=s1.keep D _ nD hD;exact zal hB rs1 (re.step s1) hD1 dr hn e3 hz λσ' H' φ' ys h5 s5 rs5 l5 re5=>q σ' H' φ' ys h5 ((s1.withD hD hD1 nD1).trans s5) rs5 l5 re5
def zcl{e:AL}{d:Nat}{em:FH Unit}(hx:Y.xe=No)(hc:Y.calm=AC)(C:ybg Y.A e d tg iter [] (.ref D) Y.env em)(hi:PI Y tg iter (tID S Y ci D))(hg:PG Y tg (tG0 S Y.K ct))(hm:PEm Y em (tM0 S Y.K m D))
  (hs:∀x,foldedSetIterable iter Y.env x=pure x:=by intro _;rfl):PEm Y (nextM iter e d (.ref D) Y.env) (tM0 S Y.K (.emq ct ci m) D):=λπ s σ H Q I h=>zfi hx hc C hi hg zaC hm hs π s σ H Q I (zhm h)
def zaQ{sl:List (Option Nat)}(hf:yr ct sl=AC){H:Hp}{Q:VK}(h:tE S X (.cmq sl ct ci m) σ H Q):ya5 sl (tI S X ci) (tG0 S X.K ct) yb7 (.lst []) (λD=>tM0 S X.K m D) σ H Q:=by
 let⟨B,φ,st,ρ,rs,re,h⟩:=h;rw[ve52]at h;refine⟨B,φ,st,ρ,rs,re,(Run.bind h).mono λJ H1 kq=>?_⟩;let⟨xs,st1,φ1,s1,rs1,dr,h1⟩:=kq;refine λD hD=>?_;let⟨zs,st5,e,hz,h1⟩:=zc4 h1;have nB:¬B D:=rs1.nB hD;refine zal (B:=Bx B D) (ys0:=[]) (.inr rfl) (rs1.more hD) ((yp.inn (re.step s1)).more hD) zc (λu=>?_) (zbL hf) e (by simpa using hz) λσ' H' φ' ys h5 s5 rs5 l5 re5=>?_
 .rw[L2.upd_upd];exact⟨λφ H s=>dr.stop φ H ((Step.upd hD).trans s),λi φ H s hi=>dr.go i φ H ((Step.upd hD).trans s) hi,λi φ H st x H' B' hB s rs hi q=>dr.yld i φ H st x H' B' (λy z=>(hB y z).elim (λw=>w.elim .inl λw=>.inr (w ▸ hD)) λw=>.inr (by
   by_cases z:y=D
   .subst z;exact hD
   .rw[za z]at w;exact w)) ((Step.upd hD).trans s) rs hi q⟩
 .rw[L2.upd_upd]at s5;refine h1 (.ref D) H' φ' ((Step.upd hD).trans s5) rs5.less ?_;erw[yc];exact⟨D,ys,rfl,⟨h5,nB,λz=>rs5.nb D z (.inr rfl)⟩,l5.less⟩
theorem yh.thawO{o:Ob}(rs:yh K cl (Bx B D) φ H st)(nB:¬B D)(nD:AA D∉φ)(l:ybE K cl B (φ++[AA D]) H o D):yh K cl B (φ++[AA D]) H (st++[o]):=by
 have hl:φ.length=st.length:=rs.len;have spl:∀{n:Nat} {a:AG},(φ++[AA D])[n]?=AA (AA a)->(n<φ.length/\φ[n]?=AA (AA a)) \/ (n=φ.length/\a=D):=λ{n a} e=>by
  by_cases hn:n<φ.length
  .rw[AO hn]at e;exact .inl ⟨hn,e⟩
  .rw[A0 ∅]at e;rcases (by lia:n-φ.length=0 \/ 0<n-φ.length)with q|q
   .rw[q]at e;simp at e;exact .inr ⟨by lia,e.symm⟩
   .rw[Ap (by simp;lia)]at e;cases e
 have ne:∀{n:Nat} {a:AG},φ[n]?=AA (AA a)->a≠D:=λe z=>nD (z ▸ AY e);refine⟨by simp[hl],λm n a e1 e2=>?_,λn a e=>?_,λn o' e ho=>?_,λa h=>?_,λa h=>rs.dom a (.inl h),λa h=>rs.nt a (.inl h)⟩
 .rcases spl e1 with⟨h1,e1⟩|⟨h1,q1⟩<;>rcases spl e2 with⟨h2,e2⟩|⟨h2,q2⟩
  .exact rs.inj m n a e1 e2
  .exact absurd q2 (ne e1)
  .exact absurd q1 (ne e2)
  .lia
 .rcases spl e with⟨h1,e1⟩|⟨h1,q1⟩
  .let⟨o,q,r⟩:=rs.obj n a e1;refine⟨o,by rw[AO ∅];exact q,?_⟩
   cases o with
   |lst vs=>let⟨xs,hx,l⟩:=r;exact⟨xs,hx,l.thaw⟩
   |dct t kvs=>cases t<;>(let⟨xs,hx,l⟩:=r;exact⟨xs,hx,l.thaw⟩)
   |ins c fs=>let⟨ks,hx,l⟩:=r;exact⟨ks,hx,l.thaw⟩
   |dead=>exact r.elim
  .subst q1;exact⟨o,by rw[h1,hl,A0 (AN _)];simp,l⟩
 .by_cases hn:n<st.length
  .rw[AO hn]at e;let⟨a,q⟩:=rs.liv n o' e ho;exact⟨a,by rw[AO ∅];exact q⟩
  .have hn2:n=st.length:=by
    rcases (by lia:n=st.length \/ st.length<n)with q|q
    .exact q
    .rw[Ap (by simp;lia)]at e;cases e
   exact⟨D,by rw[hn2,<-hl,A0 (AN _)];simp⟩
 .rcases Aw.1 h with h|h
  .exact λz=>rs.nb a h (.inl z)
  .simp only[A8,BU,or_false,B6]at h;subst h;exact nB
def zgR(k v:PV)(kvs:List (PV×PV)):(IC.put k v kvs).length<=kvs.length+1:=by
 unfold IC.put;split<;>simp
def tD0(S:Se)(K:AD)(ck cv:Ce)(D:AG):TM:=λσ H Q=>tE0 S K ck σ H λx H1=>tE0 S K cv σ H1 λv H2=>∃b k kvs,x=.ref b/\H2 D=AA (.dT kvs)/\KyR H2 k b/\kvs.length<sizeLine/\Q σ (L2.upd H2 D (.dT (putK kvs k v)))
def zi5{kx vx:AL}{ck cv:Ce}(hu:Y.A.units+16<cLine)(hk:PE Y kx (tE0 S K ck))(hv:PE Y vx (tE0 S K cv)):PEm Y (do
    let kv <-eval kx Y.env
    let vv <-holding [kv] (eval vx Y.env)
    standAt {kx.pos with endLine:=vx.pos.endLine,endCol:=vx.pos.endCol}
    holding [kv,vv] (dictSet D kv vv)) (tD0 S K ck cv D):=zhg hu hk hv
def zfp{Rel:Ph->Hp->PV->V->Prop}{r:R (List (PV×PV))}{Q:VK}(h:Run S X σ B φ H Rel (dctR r) Q):∃kvs st5,r=.ok kvs st5/\∀x H' φ',Step φ H φ' H'->yh X.K S.cl B φ' H' (st5++[.dct AC kvs])->Rel φ' H' (.loc st5.length) x->Q x H':=by
 cases r with
 |ok kvs st5=>exact⟨kvs,st5,rfl,h⟩
 |exc k s=>exact h.elim
 |bad=>exact h.elim
def zdr{ck cv:Ce}{sl:List (Option Nat)}(hf:yr ct sl=AC){H:Hp}{Q:VK}(h:tE S X (.dcm sl ct ci ck cv) σ H Q):ya5 sl (tI S X ci) (tG0 S X.K ct) yb7 (.dT []) (λD=>tD0 S X.K ck cv D) σ H Q:=by
 let⟨B,φ,st,ρ,rs,re,h⟩:=h;rw[ve54]at h;refine⟨B,φ,st,ρ,rs,re,(Run.bind h).mono λJ H1 kq=>?_⟩;let⟨xs,st1,φ1,s1,rs1,dr,h1⟩:=kq;refine λD hD=>?_;split at h1
 case isFalse=>exact h1.elim
 rename_i hxs;let⟨kvs,st5,e,h2⟩:=zfp h1
 clear h1 h
 have nB:¬B D:=rs1.nB hD;have nD:AA D∉φ1:=λz=>by
  let⟨w,e⟩:=rs1.there z;rw[hD]at e;cases e
 have r0:=(yp.inn (sl:=sl) (re.step s1)).more (u:=.dT []) hD;have h0:=zbL (ρ:=ρ) hf;generalize (sl.map λo=>o.bind λj=>(ρ[j]?).join)=ρ0 at *;refine⟨λi m' σc H2=>i+m'=xs.length/\∃φ2 st2 acc ks,Step φ1 H1 φ2 H2/\H2 D=AA (.dT ks)/\AA D∉φ2/\yh X.K S.cl (Bx B D) φ2 H2 st2/\yp X.K S.cl (Bx B D) φ2 H2 ρ0 σc/\DT X.K S.cl (Bx B D) φ2 H2 acc ks/\acc.length<=i/\yaz (yb1 S.call ρ0 ct ck cv) (xs.drop i) acc st2=.ok kvs st5,
  ⟨xs.length,by lia,φ1,st1,[],[],.upd hD,zc,nD,rs1.more hD,r0,rfl,AN _,by simpa using e⟩,?_⟩
 rintro i m' σc H2 ⟨hm,φ2,st2,acc,ks,s2,hD2,nD2,rs2,re2,l2,la,ec⟩
 by_cases hi:i<xs.length
 .refine .inr ⟨dr.go i φ2 H2 s2 hi,λσ' H'=>∃φ2 st2 acc ks,Step φ1 H1 φ2 H'/\H' D=AA (.dT ks)/\AA D∉φ2/\yh X.K S.cl (Bx B D) φ2 H' st2/\yp X.K S.cl (Bx B D) φ2 H' ρ0 σ'/\DT X.K S.cl (Bx B D) φ2 H' acc ks/\acc.length<=i+1/\yaz (yb1 S.call ρ0 ct ck cv) (xs.drop (i+1)) acc st2=.ok kvs st5,
   λσ' H' q=>⟨m'-1,by lia,by lia,q⟩,λx H3 hy=>?_⟩
  let⟨v,hv,rv,kk⟩:=dr.yld i φ2 H2 st2 x H3 (Bx B D) (λy z=>z.elim .inl λq=>.inr (q ▸ hD)) s2 rs2 hi hy;have s3:Step φ2 H2 φ2 H3:=.ext kk;let⟨_,ev'⟩:=Ae.1 hv;rw[Ay hi,ev',yaz]at ec;let⟨p,st3,e1,ec⟩:=zf ec;split at ec
  case isFalse=>cases ec
  rename_i hk;unfold yb1 at e1
  cases eb:yo ct v ρ0 with
  |none=>rw[eb]at e1;cases e1
  |some ρ1=>
   rw[eb]at e1;let⟨a,st6,e2,e1⟩:=zf e1;let⟨b,st7,e3,e1⟩:=zf e1
   cases e1
   refine⟨Bx B D,φ2,st2,ρ0,v,ρ1,rs2.same kk,re2.step s3,rv,eb,λσ4 re4=>?_⟩;dsimp only[yb7];rw[if_pos rfl];refine⟨Bx B D,φ2,st2,ρ1,rs2.same kk,re4,?_⟩;rw[e2];intro x5 H5 φ5 s5 rs5 r5;refine⟨Bx B D,φ5,st6,ρ1,rs5,re4.step s5,?_⟩;rw[e3];intro x6 H6 φ6 s6 rs6 r6;let⟨q,ea,hq⟩:=zfc hk;have ea:a=.tup (yar q):=ea;subst ea;let⟨y,rfl,ky⟩:=ze6 hq (r5.step s6);have s36:Step φ2 H2 φ6 H6:=s3.trans (s5.trans s6);let⟨n6,h6⟩:=stays s36 nD2 hD2;have hBD:Bx B D D:=.inr rfl;have s16:=s2.trans s36;have lk:=l2.len;refine⟨y,q,ks,rfl,h6,ky,DV ∅ zkH,φ6,st3,_,_,⟨λb o n z=>by rw[za (zd z hD)];exact s16.keep b o n z,s16.len,s16.pre,s16.new⟩,zc,n6,rs6.skip hBD,(yp.untgtN h0 eb (re4.step (s5.trans s6))).skip hBD,((l2.step s36).put r6).skip hBD,Az (zgR _ _ _) ∅,ec⟩
 .have ei:i=xs.length:=by lia
  subst ei;rw[CF]at ec
  cases ec
  refine .inl ⟨dr.stop φ2 H2 s2,h2 (.ref D) H2 (φ2++[AA D]) ⟨s2.keep,by simp;have:=s2.len;lia,λn a hn z=>?_,λb hb=>?_⟩ (rs2.thawO nB nD2 ⟨ks,hD2,l2.thaw⟩) (.loc_new rs2.less)⟩
  .rw[AO (AZ hn s2.len)]at z;exact s2.pre n a hn z
  .rcases Aw.1 hb with z|z
   .exact s2.new b z
   .simp only[A8,BU,or_false,B6]at z;exact .inr (z ▸ hD)
end
section
variable {X:Cx}
end
section
variable {S:Se}{X:Cx}{σ:St}{B:AG->Prop}{φ φ1:Ph}{H H1:Hp}{st:SO}{ρ:IC.Env}{p pos p2 apos:BX}{a b:AL}{ca cb:Ce}{K:AD}{cl:Nat->AG}
end
section
variable {S:Se}{X:Cx}{σ:St}{B:AG->Prop}{φ:Ph}{H:Hp}{st:SO}{p pos p2 px apos:BX}{a b c d o tg l:AL}{ca cb cc:Ce}{ct:Tg}{ss:List B8}{cs:Css}
def zfB(ha:PE X a (tE S X ca))(hbase:attributeBase a "clear" X.env (eval a X.env)=eval a X.env:=by rfl)(hline:(apos.endLine==pos.line)=true:=by rfl):PE X (.Call (.Attribute a "clear" apos) [] [] pos) (tE S X (.mth .clear ca .nil)):=
 (ziy Ca ER PySem.F.type_list_clear zfQ ha hbase hline).imp λσ H Q ⟨B,φ,st,ρ,rs,re,h⟩=>by
  erw[ev]at h;refine tE.bind rs re h λx H1 v st1 φ1 s1 rs1 re1 rv h1=>?_;let⟨_,e1,h1⟩:=zbj h1;erw[evs,R.bind,ybC]at h1
  cases v with
  |loc n=>
   erw[yef]at h1;split at h1
   .rename_i zs hz;let⟨l',xs',e,hn,hx,lr⟩:=rs1.list rv hz;subst e;refine⟨.inl ⟨rfl,xs',.inl (.inl hx)⟩,l',xs',rfl,rfl,hx,?_⟩;exact h1 _ _ φ1 (.put (AY hn)) (rs1.put hn ⟨[],zc,by erw[ye]⟩) (by erw[yc])
   .exact h1.elim
  |_=>cases e1
def zep{D:Ends}{J:It}{H1:Hp}{xs:List PV}{st1:SO}{φ1:Ph}{ρ:IC.Env}(rs1:yh X.K S.cl B φ1 H1 st1)(re1:yp X.K S.cl B φ1 H1 ρ σ)(dr:Drw S X B φ1 H1 xs J)(h1:yX S X B φ1 H1 (forL ct (λρ2 st2=>exs S.call ρ2 st2 cs) xs ρ st1) D):
  ∃W:Nat->Nat->St->Hp->Prop,(∃m,W 0 m σ H1)/\∀i m σ H,W i m σ H ->
   (J.stop i H/\D.nx σ H) \/ (J.go i H/\∃N:St->Hp->Prop,(∀σ' H',N σ' H'->∃m',m' < m/\W (i+1) m' σ' H')/\∀x H',J.yld i H x H'->tG S X ct x σ H' λσ2 H2=>tSs S X cs {D with nx:=N,ct:=N,bk:=D.nx} σ2 H2):=by
 refine⟨λi m σ H=>∃φ st ρ,i+m=xs.length/\Step φ1 H1 φ H/\yh X.K S.cl B φ H st/\yp X.K S.cl B φ H ρ σ/\yX S X B φ H (forL ct (λρ2 st2=>exs S.call ρ2 st2 cs) (xs.drop i) ρ st) D,
  ⟨xs.length,φ1,st1,ρ,by lia,.rfl,rs1,re1,by simpa using h1⟩,?_⟩
 rintro i m σ2 H2 ⟨φ2,st2,ρ2,hm,s2,rs2,re2,h2⟩
 by_cases hi:i<xs.length
 .refine .inr ⟨dr.go i φ2 H2 s2 hi,λσ' H'=>∃φ st ρ,Step φ1 H1 φ H'/\yh X.K S.cl B φ H' st/\yp X.K S.cl B φ H' ρ σ'/\yX S X B φ H' (forL ct (λρ2 st2=>exs S.call ρ2 st2 cs) (xs.drop (i+1)) ρ st) D,
   λσ' H' ⟨φ,st,ρ,s,q⟩=>⟨m-1,by lia,φ,st,ρ,by lia,s,q⟩,λx H3 hy=>?_⟩
  let⟨v,hv,rv,kk⟩:=dr.yld i φ2 H2 st2 x H3 B (λ_ z=>.inl z) s2 rs2 hi hy;have e:xs.drop i=v::xs.drop (i+1):=by
   rw[Ay hi];rw[B1 hi]at hv;rw[AU hv]
  have s3:Step φ2 H2 φ2 H3:=⟨λb o _ e=>kk b o e,AN _,λ_ _ _ e=>e,λ_ h=>.inl h⟩;have rs3:yh X.K S.cl B φ2 H3 st2:=rs2.same kk;rw[e,forL]at h2
  cases eb:yo ct v ρ2 with
  |none=>rw[eb]at h2;exact h2.elim
  |some ρ3=>
   rw[eb]at h2;refine⟨B,φ2,st2,ρ2,v,ρ3,rs3,re2.step s3,rv,eb,λσ' re'=>⟨B,φ2,st2,ρ3,rs3,re',?_⟩⟩;have h3:=yX.on s3 h2;dsimp only at h3
   cases ee:exs S.call ρ3 st2 cs with
   |nx ρ4 st4=>
    rw[ee]at h3;exact λσ4 H4 φ4 s4 rs4 re4=>⟨φ4,st4,ρ4,s2.trans (s3.trans s4),rs4,re4,yX.on s4 h3⟩
   |ct ρ4 st4=>
    rw[ee]at h3;exact λσ4 H4 φ4 s4 rs4 re4=>⟨φ4,st4,ρ4,s2.trans (s3.trans s4),rs4,re4,yX.on s4 h3⟩
   |bk ρ4 st4=>rw[ee]at h3;exact h3
   |rt v4 st4=>rw[ee]at h3;exact h3
   |exc k ρ4 st4=>rw[ee]at h3;exact h3
   |bad=>rw[ee]at h3;exact h3
 .have e:i=xs.length:=by lia
  subst e;rw[CF,forL]at h2;exact .inl ⟨dr.stop φ2 H2 s2,h2 σ2 H2 φ2 .rfl rs2 re2⟩
def zft{D:Ends}{n:Nat}{y:AG}{H1:Hp}{st1:SO}{φ1:Ph}{ρ:IC.Env}{f:Nat}(rs1:yh X.K S.cl B φ1 H1 st1)(re1:yp X.K S.cl B φ1 H1 ρ σ)(rv:yc X.K S.cl B φ1 H1 (.loc n) (.ref y))(h1:yX S X B φ1 H1 (ya4 ct (λρ2 st2=>exs S.call ρ2 st2 cs) n f 0 ρ st1) D):
  ∃W:Nat->Nat->St->Hp->Prop,(∃m,W 0 m σ H1)/\∀i m σ H,W i m σ H ->
   ((Itl X.K y).stop i H/\D.nx σ H) \/ ((Itl X.K y).go i H/\∃N:St->Hp->Prop,(∀σ' H',N σ' H'->∃m',m' < m/\W (i+1) m' σ' H')/\∀x H',(Itl X.K y).yld i H x H'->tG S X ct x σ H' λσ2 H2=>tSs S X cs {D with nx:=N,ct:=N,bk:=D.nx} σ2 H2):=by
 refine⟨λi m σ H=>∃φ st ρ,Step φ1 H1 φ H/\yh X.K S.cl B φ H st/\yp X.K S.cl B φ H ρ σ/\yX S X B φ H (ya4 ct (λρ2 st2=>exs S.call ρ2 st2 cs) n m i ρ st) D,
  ⟨f,φ1,st1,ρ,.rfl,rs1,re1,h1⟩,?_⟩
 rintro i m σ2 H2 ⟨φ2,st2,ρ2,s2,rs2,re2,h2⟩
 cases m with
 |zero=>rw[ya4]at h2;exact h2.elim
 |succ m=>
  unfold ya4 at h2
  cases e:st2[n]? with
  |none=>rw[e]at h2;exact h2.elim
  |some ob=>
   rw[e]at h2
   cases ob with
   |lst xs=>
    dsimp only at h2;have rv2:=rv.step s2;have hlo:yD st2 (.loc n)=AA xs:=by erw[yD,e]
    let⟨y',us,ey,hq,l⟩:=zai rs2 rv2 hlo
    cases ey
    have hl:=l.length
    cases ex:xs[i]? with
    |none=>
     rw[ex]at h2;have:xs.length<=i:=by
      rcases Dx i xs.length with z|z
      .rw[B1 z]at ex;cases ex
      .exact z
     exact .inl ⟨⟨us,hq,by lia⟩,h2 σ2 H2 φ2 .rfl rs2 re2⟩
    |some v=>
     rw[ex]at h2;dsimp only at h2;let⟨x,hx,rx⟩:=l.get i ex;refine .inr ⟨⟨us,x,hq,hx⟩,λσ' H'=>∃φ st ρ,Step φ1 H1 φ H'/\yh X.K S.cl B φ H' st/\yp X.K S.cl B φ H' ρ σ'/\yX S X B φ H' (ya4 ct (λρ2 st2=>exs S.call ρ2 st2 cs) n m (i+1) ρ st) D,
      λσ' H' ⟨φ,st,ρ,s,q⟩=>⟨m,Di m,φ,st,ρ,s,q⟩,λx' H3 hy=>?_⟩
     let⟨e3,hy⟩:=hy;subst e3;have:=hy us hq;rw[hx]at this
     cases this
     cases eb:yo ct v ρ2 with
     |none=>rw[eb]at h2;exact h2.elim
     |some ρ3=>
      rw[eb]at h2;refine⟨B,φ2,st2,ρ2,v,ρ3,rs2,re2,rx,eb,λσ' re'=>⟨B,φ2,st2,ρ3,rs2,re',?_⟩⟩;dsimp only at h2
      cases ee:exs S.call ρ3 st2 cs with
      |nx ρ4 st4=>
       rw[ee]at h2;exact λσ4 H4 φ4 s4 rs4 re4=>⟨φ4,st4,ρ4,s2.trans s4,rs4,re4,yX.on s4 h2⟩
      |ct ρ4 st4=>
       rw[ee]at h2;exact λσ4 H4 φ4 s4 rs4 re4=>⟨φ4,st4,ρ4,s2.trans s4,rs4,re4,yX.on s4 h2⟩
      |bk ρ4 st4=>rw[ee]at h2;exact h2
      |rt v4 st4=>rw[ee]at h2;exact h2
      |exc k ρ4 st4=>rw[ee]at h2;exact h2
      |bad=>rw[ee]at h2;exact h2
   |_=>exact h2.elim
def zh6(hp:DG (model X.prog X.w) X.A X.env X.xe)(hc:X.calm=AC)(hi:PE X l (tE S X ca))(hg:PG X tg (tG S X ct))(hb:PSs X ss (tSs S X cs))(hs:∀x,foldedSetIterable l X.env x=pure x:=by intro _;rfl):
  PS X (.For tg l ss [] pos) (tS S X (.forl ct ca cs)):=
 (zgj hp hc (ze7 hi) hg hb hs).imp λD σ H ⟨B,φ,st,ρ,rs,re,h⟩=>by
  erw[ex]at h;refine tE.fl rs re h λx H1 v st1 φ1 s1 rs1 re1 rv h1=>?_
  cases v with
  |tp k vs=>
   erw[yc]at rv;let⟨y,xs,rfl,rt,l⟩:=rv;exact⟨y,rfl,.inr ⟨⟨xs,rt.sq⟩,zep rs1 re1 (zb8 rt l) h1⟩⟩
  |lst vs=>
   erw[yc]at rv;let⟨y,xs,rfl,rt,l⟩:=rv;exact⟨y,rfl,.inl ⟨⟨xs,rt.sq⟩,zep rs1 re1 (zbY rt l) h1⟩⟩
  |loc n=>
   dsimp only at h1;unfold ya4 at h1
   cases e:st1[n]? with
   |none=>rw[e]at h1;exact h1.elim
   |some ob=>
    cases ob with
    |lst zs=>
     have hlo:yD st1 (.loc n)=AA zs:=by erw[yD,e]
     let⟨y,us,rfl,hq,_⟩:=zai rs1 rv hlo;refine⟨y,rfl,.inl ⟨⟨us,hq⟩,zft (f:=100000) rs1 re1 rv ?_⟩⟩;unfold ya4;exact h1
    |_=>rw[e]at h1;exact h1.elim
  |_=>exact h1.elim
def trE(S:Se)(K:AD):List AM->Ces->List (TE×TE)
 |k::ks,.cons e es=>(tC (.str k),tE0 S K e)::trE S K ks es
 |_,_=>[]
def zjl:PPs X pos [] [] (trE S X.K [] .nil):=zhp
def zg4{ks:List (Option AL)}{vs:List AL}{ns:List AM}{es:Ces}{x:AM}{j1:Nat}{p1:BX}{e:AL}{ce:Ce}(he:PE X e (tE S X ce))(h:PPs X pos ks vs (trE S X.K ns es)):PPs X pos (AA (.Constant (.str x) j1 p1)::ks) (e::vs) (trE S X.K (x::ns) (.cons ce es)):=zf5 zkK (zad rfl he) h
def zbK{K:AD}:∀(ks:List AM) (es:Ces) {B:AG->Prop} {φ:Ph} {H:Hp} {st st':SO} {ρ:IC.Env} {vs:List PV} {Q:List (V×V)->Hp->Prop},yh K S.cl B φ H st->yp K S.cl B φ H ρ σ->evs S.call ρ st es=.ok vs st'->ks.length=vs.length ->
  (∀ys H' φ',Step φ H φ' H'->yh K S.cl B φ' H' st'->ye K S.cl B φ' H' vs ys->Q ((ks.zip ys).map λkv=>(.str kv.1,kv.2)) H')->yaP (trE S K ks es) σ H Q
 |ks,.nil,B,φ,H,st,st',ρ,vs,Q,rs,re,he,hl,n=>by
  erw[evs]at he
  cases he
  cases ks with
  |nil=>exact n [] H φ .rfl rs (by erw[ye])
  |cons k ks=>simp at hl
 |[],.cons e es,B,φ,H,st,st',ρ,vs,Q,rs,re,he,hl,n=>by
  erw[evs]at he;let⟨v,s1,e1,he⟩:=zf he;let⟨ws,s2,e2,he⟩:=zf he
  cases he
  simp at hl
 |k::ks,.cons e es,B,φ,H,st,st',ρ,vs,Q,rs,re,he,hl,n=>by
  erw[evs]at he;let⟨v,s1,e1,he⟩:=zf he;let⟨ws,s2,e2,he⟩:=zf he
  cases he
  show tE0 S K e σ H λy H2=>yaP (trE S K ks es) σ H2 λps H3=>Q ((.str k,y)::ps) H3;refine⟨B,φ,st,ρ,rs,re,?_⟩;rw[e1];intro y H2 φ2 t2 rs2 ry;refine zbK ks es rs2 (re.step t2) e2 (by simpa using hl) λys H3 φ3 t3 rs3 l=>?_;have:=n (y::ys) H3 φ3 (t2.trans t3) rs3 (by erw[ye];exact⟨y,ys,rfl,ry.step t3,l⟩);simpa using this
theorem DK.foldE{K:AD}{cl:Nat->AG}:∀(ns:List AM) {vs:List PV} {ys:List V} {acc:List (PV×PV)} {ks:List (Key×V)},ye K cl B φ H vs ys->DK K cl B φ H acc ks ->
  DK K cl B φ H ((ns.zip vs).foldl (λacc kv=>IC.put (.str kv.1) kv.2 acc) acc) (yP ks ((ns.zip ys).map λkv=>(B5 kv.1,kv.2)))
 |[],vs,ys,acc,ks,l,d=>by simpa [yP] using d
 |n::ns,[],ys,acc,ks,l,d=>by
  erw[ye]at l;subst l;simpa [yP] using d
 |n::ns,v::vs,ys,acc,ks,l,d=>by
  erw[ye]at l;let⟨y,zs,rfl,r,l⟩:=l;unfold yP;erw[C6,C2,AR];exact DK.foldE ns l (d.put (q:=B5 n) r)
def zhH(hu:X.A.units+16<cLine){ks:List (Option AL)}{vs:List AL}{ns:List AM}{es:Ces}(h:PPs X p2 ks vs (trE S X.K ns es))(hb:PE X b (tE S X cb))(hall:ks.all (·.isSome)=true:=by rfl)(hl:ks.length=vs.length:=by rfl)(h0:ks≠[]:=by simp)(h15:ks.length<=15:=by decide)(hs:yb9 b:=by exact λ_ _=>rfl):
  PE X (.Subscript (.Dict ks vs p2) b pos) (tE S X (.dsub ns es cb)):=
 (zdx hu (zhz h hall hl h0 h15) hb hs).imp λσ H Q ⟨B,φ,st,ρ,rs,re,h⟩=>by
  erw[ev]at h
  cases e:evs S.call ρ st es with
  |exc k s1=>rw[e]at h;exact h.elim
  |bad=>rw[e]at h;exact h.elim
  |ok ws st1=>
   rw[e]at h;dsimp only at h;intro p hp;split at h
   case isFalse=>exact h.elim
   case isTrue hlen=>
    have np:AA p∉φ:=λz=>by
     let⟨w,e⟩:=rs.there z;rw[hp]at e;cases e
    have su:Step φ H φ (L2.upd H p (.dK [])):=.upd hp;refine zbK ns es (B:=Bx B p) (rs.more hp) (re.more hp) e hlen.1 λys H2 φ2 s2 rs2 l2=>?_;have hl2:=l2.length;have np2:AA p∉φ2:=λz=>by
     rcases s2.new p z with q|q
     .exact np q
     .rw[zc]at q;cases q
    have hBp:Bx B p p:=.inr rfl;refine⟨s2.keep p _ np zc,(ns.zip ys).map λkv=>(B5 kv.1,kv.2),by simp[kV],by simp;lia,?_⟩;obtain⟨H3,hH3⟩:∃H3,H3=L2.upd H2 p (.dK (yP [] ((ns.zip ys).map λkv=>(B5 kv.1,kv.2)))):=⟨_,rfl⟩;rw[<-hH3];have hs3:Step φ H φ2 H3:=by
     have s02:=su.trans s2;exact⟨λb o n q=>by rw[hH3,za (zd q hp)];exact s02.keep b o n q,s02.len,s02.pre,s02.new⟩
    have rs3:yh X.K S.cl (Bx B p) φ2 H3 st1:=by rw[hH3];exact rs2.skip hBp
    have l3:ye X.K S.cl (Bx B p) φ2 H3 ws ys:=by rw[hH3];exact ye.skip hBp _ _ l2
    have d3:DK X.K S.cl (Bx B p) φ2 H3 ((ns.zip ws).foldl (λacc kv=>IC.put (.str kv.1) kv.2 acc) []) (yP [] ((ns.zip ys).map λkv=>(B5 kv.1,kv.2))):=DK.foldE ns l3 rfl;refine tE.bind rs3.less (re.step hs3) (Run.on hs3 h) λy H4 w st4 φ4 s4 rs4 re4 rw h4=>?_;let⟨z,ez,q⟩:=zC h4 rs4
    cases w with
    |str kq=>
     erw[yc2]at ez;erw[yc]at rw;subst rw;have hp4:H4 p=AA (.dK (yP [] ((ns.zip ys).map λkv=>(B5 kv.1,kv.2)))):=s4.keep p _ np2 (by rw[hH3];exact zc);have d4:DK X.K S.cl B φ4 H4 ((ns.zip ws).foldl (λacc kv=>IC.put (.str kv.1) kv.2 acc) []) (yP [] ((ns.zip ys).map λkv=>(B5 kv.1,kv.2))):=DK.step s4 d3.less;obtain⟨vv,hv,rvv⟩:∃vv,yay (yP [] ((ns.zip ys).map λkv=>(B5 kv.1,kv.2))) (B5 kq)=AA vv/\yc X.K S.cl B φ4 H4 z vv:=by
      have hn:=DK.look (q:=B5 kq) d4 (v:=.non) (x:=.non) (by erw[yc]);have hb:=DK.look (q:=B5 kq) d4 (v:=.bl AC) (x:=.bl AC) (by erw[yc]);rw[yaT,zaA ez]at hn hb
      cases hv:yay (yP [] ((ns.zip ys).map λkv=>(B5 kv.1,kv.2))) (B5 kq)with
      |some vv=>rw[hv]at hn;exact⟨vv,rfl,hn⟩
      |none=>
       rw[hv]at hn hb;exact absurd (yc.inj_non hn) (λez=>by subst ez;simp[yc]at hb)
     exact⟨p,vv,rfl,.inl ⟨_,B5 kq,.inl hp4,by simp[kV],hv.symm⟩,q vv H4 φ4 .rfl rs4 rvv⟩
    |_=>cases ez
end
section
variable {S:Se}{X:Cx}{σ:St}{B:AG->Prop}{φ φ1:Ph}{H H1:Hp}{st:SO}{ρ:IC.Env}{pos:BX}{a b tg elt iter:AL}{ca cb ce:Ce}{ct:Tg}
def ziN(hu:X.A.units+64<cLine):OpR X (compareOp .NotEq) (rTs S X ybK):=by
 rintro π s σ H x y v u Q I rx ry ⟨B,φ,st,a,b,z,rs,ra,rb,e,q⟩
 cases a with
 |loc n=>
  erw[ybK]at e;split at e
  .rename_i ws hz;split at e
   .rename_i c;rw[AI]at c
    cases e
    let⟨l,ys,rfl,hn,hx,lr⟩:=rs.list ra hz
    cases (show v=BA l from rx)
    have c1:=c.1;erw[shd,AI]at c1;let⟨its,rv,⟨o,k,g,cc,_,d⟩,_⟩:=I.list (show SqL X.K H l ys from .inl (.inl hx));let⟨as,z1⟩:=z7 (S:=S) I ws 59 ys its c1.2 lr rv;have z1:Fm s.heap (.ref l) (toD (.lst ws)) _:=.list g cc d (by simpa using z1);let⟨bs,z2⟩:=zp (S:=S) I b 60 y u c.2 rb ry;refine ne_dataH z1 z2 (zt c.1) (zt c.2) hu ⟨.bl _,H,I,rfl,?_⟩;rw[zaF (.lst ws) b 60 60 c.1 c.2];exact q _ H φ .rfl rs (by erw[yc])
   .cases e
  .cases e
 |_=>cases e
def zgZ{st:SO}{x y z:PV}(h:ybK st x y=AA z):∃k,z=.bl k:=by
 unfold ybK at h;split at h
 .split at h
  .split at h
   .cases h;exact⟨_,rfl⟩
   .cases h
  .cases h
 .cases h
def zjF(hu:X.A.units+64<cLine)(ha:PE X a (tE S X ca))(hb:PE X b (tE S X cb))(hm:behindInMarks .NotEq b=AE):PT X (.Compare a [.NotEq] [b] pos) (tTs S X (.nel ca cb)):=
 (zch (ziN hu) ha hb hm).imp λσ H Q ⟨B,φ,st,ρ,rs,re,h⟩=>by
  erw[ev,yax,R.bind_assoc]at h;refine tE.bind rs re h λx H1 v st1 φ1 s1 rs1 re1 rv h1=>tE.bind rs1 re1 h1 λy H2 w st2 φ2 s2 rs2 re2 rw h2=>?_
  cases e:ybK st2 v w with
  |none=>rw[e]at h2;exact h2.elim
  |some z=>
   let⟨k,rfl⟩:=zgZ e;rw[e]at h2;refine⟨B,φ2,st2,v,w,.bl k,rs2,rv.step s2,rw,e,λz' H' φ' s' rs' rz=>?_⟩;erw[yc]at rz;exact⟨k,rz,h2 k H' φ' s' rs' rfl⟩
end
end L2
namespace L2
open PySem PySem.Spec PyProof.Rows IC WK
inductive GK where
 |fn (i:Nat)|fnD (i:Nat)|cst (v:PV)|dct (D:List (AM×PV))|exc (c:Nat)|cls (c i:Nat)
structure Gs where
 g:AM->Option GK
 b:AM->Bool
 t:Ty->Bool
 fl:Nat->AM->Bool
 me:Nat->AM->Option Nat
 kb:Nat->Nat->List AM->Option (List (Option Int))
 mr:AM->Option (List (AM×Nat))
 fv:AM->Nat->Bool
 xk:Nat->Ty->Bool
 xc:Nat->AM->Bool
 xm:Nat->AM->Bool
 qf:Nat->Bool
structure Kx where
 N:List AM
 sc:An
 own:Bool
 h:Bool
def Fo(m:Nat)(S:Se)(X:Cx)(i:Nat)(f:AG)(fd:Al)(ps:List AM):Prop:=yaM X.prog X.w X.K X.mg X.base (CX1 X.prog X.w) m f fd ps (spI X.K S.cl S.call i)
def zkT{β:Type}{x:AM}{k:β}:∀{l:List (AM×β)},l.lookup x=AA k->(x,k)∈l
 |[],h=>nomatch h
 |y::l,h=>by
  rw[As]at h
  cases hx:x==y.1 with
  |true=>rw[hx]at h;cases h;rw[eq_of_beq hx];exact AW
  |false=>rw[hx]at h;exact AK _ (zkT h)
structure Glo(γ:Gs)(m:Nat)(S:Se)(X:Cx):Prop where
 F:∀x i,γ.g x=AA (.fn i)->∃f fd ps,Fo m S X i f fd ps/\X.mg x=AA (.ref f)/\Ad X.K (.ref f)=AC/\Binds X.K fd ps []
 Q:∀x i np ks sh,γ.g x=AA (.fnD i)->γ.kb i np ks=AA sh->∃f fd ps,Fo m S X i f fd ps/\X.mg x=AA (.ref f)/\Ad X.K (.ref f)=AC/\∃g,ybv X.K fd ps ks g (gK np sh)
 C:∀x v,γ.g x=AA (.cst v)->GC X.K X.mg S.cl x v \/ ∃i,v=.int i/\GCI X.mg x i
 D:∀x d,γ.g x=AA (.dct d)->GD X.K X.w X.mg S.cl x d
 E:∀x c,γ.g x=AA (.exc c)->yb0 X.K X.mg (S.cl c) x
 N:∀x c i,γ.g x=AA (.cls c i)->X.mg x=AA (.ref (S.cl c))/\∃f fd ps,Mk X.K (S.cl c) f/\Fo m S X i f fd ps/\Binds X.K fd ps []
 B:∀x,γ.b x=AC->X.mg x=AB
 T:∀t,γ.t t=AC->ydP X.K t
 A:∀c f,γ.fl c f=AC->Cls X.K (S.cl c)/\yb6 X.K (S.cl c) f
 M:∀c n i,γ.me c n=AA i->Cls X.K (S.cl c)/\∃f fd ps,Meth X.K (S.cl c) n f/\Fo m S X i f fd ps/\Binds X.K fd ps []
 K:∀y D,γ.mr y=AA D->∃fa fdd ps,Makers S X m D fa fdd ps/\GDF X.K X.w X.mg fa y D
 V:∀x i,γ.g x=AA (.fn i)->γ.fv x i=AC->X.mg x=AA (.ref (S.cl (1000+i)))
 I:∀c t,γ.xk c t=AC->yeW X.K (S.cl c)/\yfz X.K S.cl c t
 L:∀d x,γ.xc d x=AC->X.mg x=AA (.ref (S.cl d))
 H:∀c x,γ.xm c x=AC->∃W,X.mg x=AA (.ref W)/\F9 X.K (.ref (S.cl c)) (.ref W)=AA AC
 Z:∀x i,γ.g x=AA (.fn i)->γ.qf i=AC->∃f fd ps,yby X.prog X.w X.K X.mg X.base m f fd ps (spI X.K S.cl S.call i)/\X.mg x=AA (.ref f)/\Ad X.K (.ref f)=AC/\Binds X.K fd ps []
theorem Glo.mkr{γ:Gs}{m:Nat}{S:Se}{X:Cx}(G:Glo γ m S X){p:AM×Nat}{L:List (AM×Nat)}(h:∀q∈p::L,γ.g q.1=AA (.fn q.2)/\γ.fv q.1 q.2=AC):∃fdd ps,Makers S X m (p::L) (λj=>S.cl (1000+j)) fdd ps:=by
 have one:∀q∈p::L,∃z:Al×List AM,Fo m S X q.2 (S.cl (1000+q.2)) z.1 z.2/\Ad X.K (.ref (S.cl (1000+q.2)))=AC/\Binds X.K z.1 z.2 []:=λq hq=>by
  let⟨f,fd,ps,h1,h2,h3,h4⟩:=G.F q.1 q.2 (h q hq).1;have e:=G.V q.1 q.2 (h q hq).1 (h q hq).2;rw[h2]at e
  cases e
  exact⟨(fd,ps),h1,h3,h4⟩
 have all:∀j,∃z:Al×List AM,(∃s,(p::L).lookup s=AA j)->Fo m S X j (S.cl (1000+j)) z.1 z.2/\Ad X.K (.ref (S.cl (1000+j)))=AC/\Binds X.K z.1 z.2 []:=λj=>by
  by_cases hj:∃s,(p::L).lookup s=AA j
  .let⟨s,hs⟩:=hj;let⟨z,hz⟩:=one (s,j) (zkT hs);exact⟨z,λ_=>hz⟩
  .let⟨z,_⟩:=one p AW;exact⟨z,λq=>absurd q hj⟩
 let⟨f,hf⟩:=Classical.skolem.1 all;exact⟨λj=>(f j).1,λj=>(f j).2,⟨λs j e=>(hf j ⟨s,e⟩).1,λs j e=>(hf j ⟨s,e⟩).2.1,λs j e=>(hf j ⟨s,e⟩).2.2⟩⟩
structure Good(γ:Gs)(κ:Kx)(m:Nat)(S:Se)(X:Cx):Prop where
 n:X.N=κ.N
 sc:X.env.scope=κ.sc
 calm:κ.h=AE->X.calm=AC
 room:yao (m+1) X.A
 hd:κ.h=AE->X.A.handled=AB
 own:κ.own=AC->DG (model X.prog X.w) X.A X.env X.xe/\(∀x,X.fn x=AC)/\S.may=AC
 top:κ.own=AC->(∃outer,X.stack=X.env::outer)/\X.ex=[]/\X.env.frame=AA X.env.locals
 glo:Glo γ m S X
theorem Good.rm{γ:Gs}{κ:Kx}{m:Nat}{S:Se}{X:Cx}(G:Good γ κ m S X)(h:κ.h=AE):yat (m+1) X.A:=⟨G.hd h,G.room.dp,G.room.un⟩
def zgi{k:Nat}{A:A5}(r:yao k A):A.units+16<cLine:=by have:=r.units;lia
def zhN{k:Nat}{A:A5}(r:yao k A):A.units+16<cLine:=by have:=r.units;lia
abbrev Pr(P:Prop):Type:=Option (PLift P)
abbrev YE(γ:Gs)(κ:Kx)(e:AL)(c:Ce):Prop:=∀m S X,Good γ κ m S X->PE X e (tE S X c)
abbrev YT(γ:Gs)(κ:Kx)(e:AL)(c:Ce):Prop:=∀m S X,Good γ κ m S X->PT X e (tTs S X c)
abbrev YW(γ:Gs)(κ:Kx)(e:AL)(c:Ce):Prop:=∀m S X,Good γ κ m S X->PW X e (tTs S X c)
abbrev YA(γ:Gs)(κ:Kx)(e:List AL)(c:Ces):Prop:=∀m S X,Good γ κ m S X->PA X e (tAs S X c)
abbrev YO(γ:Gs)(κ:Kx)(e:Option AL)(c:Ce):Prop:=∀m S X,Good γ κ m S X->PO X e (tO S X c)
abbrev YS(γ:Gs)(κ:Kx)(s:B8)(c:Cs):Prop:=∀m S X,Good γ κ m S X->PS X s (tS S X c)
abbrev YSs(γ:Gs)(κ:Kx)(s:List B8)(c:Css):Prop:=∀m S X,Good γ κ m S X->PSs X s (tSs S X c)
def an{P Q:Prop}(a:Pr P)(k:P->Pr Q):Pr Q:=match a with
 |some h=>k h.down
 |none=>AB
def ok{P:Prop}(h:P):Pr P:=AA ⟨h⟩
def ask(p:Prop)[Decidable p]:Pr p:=if h:p then AA ⟨h⟩else AB
def nst:AL->Bool
 |.Starred _ _=>AE
 |_=>AC
def zcv{a:AL}{es:List AL}{env:BC}(h:nst a=AC):starEach (a::es) env=(AE,eval a env)::starEach es env:=by
 cases a<;>first|rfl|cases h
def ycs(es:List AL):Bool:=es.all nst
theorem stars{pos:BX}{env:BC}:∀{es:List AL},ycs es=AC->(backTo pos (starEach es env)).any (·.1)=AE
 |[],_=>rfl
 |a::es,h=>by
  erw[ycs,BB,AI]at h;rw[zcv h.1];have:=stars (pos:=pos) (env:=env) (es:=es) h.2;simpa [backTo] using this
def nco:AL->Bool
 |.ListComp ..=>AE
 |.SetComp ..=>AE
 |.DictComp ..=>AE
 |_=>AC
theorem swp{a:AL}{t:Option AL}{l:Nat}{env:BC}(h:nco a=AC):swapsWith a t l env=pure false:=by
 cases a<;>first|rfl|cases h
def nse:AL->Bool
 |.Set ..=>AE
 |_=>AC
theorem fse{a:AL}{env:BC}(h:nse a=AC):∀x,foldedSetIterable a env x=pure x:=by
 cases a<;>first|exact λ_=>rfl|cases h
theorem nmk{op:GH}{a:AL}(h:nse a=AC):behindInMarks op a=false:=by
 cases a<;>first|rfl|cases h
def nsl:AL->Bool
 |.Slice ..=>AE
 |_=>AC
theorem pix{a:AL}(h:nsl a=AC):yaX a:=by
 cases a<;>first|exact λ_ _=>rfl|cases h
theorem nos{a:AL}(h:nsl a=AC):yb9 a:=pix h
def ntu:AL->Bool
 |.Tuple ..=>AE
 |_=>AC
def nte:AL->Bool
 |.UnaryOp ..=>AE
 |.BoolOp ..=>AE
 |.IfExp ..=>AE
 |.Compare ..=>AE
 |_=>AC
theorem itr{a:AL}{env:BC}(h:nte a=AC):∀whole,isTrue a env whole=(do let v <-whole;standAt a.pos;holding [v] (truthy v)):=by
 cases a<;>first|exact λ_=>rfl|cases h
def nca:AL->Bool
 |.Call ..=>AE
 |_=>AC
def zkI{a:AL}{f:AM}{env:BC}{w:FH AF}(h:nca a=AC):attributeBase a f env w=w:=by
 cases a<;>first|rfl|cases h
def mOp(op:Db)(o:BOp):Pr (∀S X,OpR X (binaryOp op) (rT2 S X (yw o))):=
 match op,o with
 |.Add,.add=>ok (λ_ _=>zir)
 |.Sub,.sub=>ok (λ_ _=>zjC)
 |.Mult,.mul=>ok (λ_ _=>zjE)
 |.FloorDiv,.fdiv=>ok (λ_ _=>zhf)
 |.Mod,.mod=>ok (λ_ _=>zjt)
 |.Pow,.pow=>ok (λ_ _=>zjX)
 |.LShift,.shl=>ok (λ_ _=>zjL)
 |.RShift,.shr=>ok (λ_ _=>ziP)
 |.BitAnd,.band=>ok (λ_ _=>zhD)
 |.BitOr,.bor=>ok (λ_ _=>zjb)
 |.BitXor,.bxor=>ok (λ_ _=>zh3)
 |_,_=>AB
def mCm(op:GH)(o:COp):Pr (∀m S X,yao m X.A->OpR X (compareOp op) (rT2 S X (yG o))):=
 match op,o with
 |.Eq,.eq=>ok (λ_ _ _ r=>zkr r.units)
 |.NotEq,.ne=>ok (λ_ _ _ r=>zkz r.units)
 |.Lt,.lt=>ok (λ_ _ _ _=>zkl)
 |.Gt,.gt=>ok (λ_ _ _ _=>zkq)
 |.GtE,.ge=>ok (λ_ _ _ _=>zkg)
 |.Is,.is=>ok (λ_ _ _ _=>zkA)
 |.In,.isin=>ok (λ_ _ _ _=>zj8)
 |_,_=>AB
def ydd(sc:An)(x:AM):Bool:=match sc.names.lookup x with
 |some .local=>AC
 |some .cell=>AC
 |some .free=>AC
 |_=>AE
def zek{sc:An}{x:AM}(h:ydd sc x=AC):Vis sc x:=by
 unfold ydd at h;split at h
 .exact .inl ‹_›
 .exact .inr (.inl ‹_›)
 .exact .inr (.inr ‹_›)
 .cases h
def yc5(sc:An)(x:AM):Bool:=match sc.names.lookup x with
 |some .local=>AC
 |some .cell=>AC
 |_=>AE
def zcb{sc:An}{x:AM}(h:yc5 sc x=AC):Loc sc x:=by
 unfold yc5 at h;split at h
 .exact .inl ‹_›
 .exact .inr ‹_›
 .cases h
def pln(x:AM):Bool:=!(x==("__debug__":AM))&&!(x==("__classdict__":AM))&&!(x==("__name__":AM))
def zkC{x:AM}(h:pln x=AC):(x==("__debug__":AM))=false:=by
 erw[pln,AI,BG]at h;exact h.1.1
def zkN{x:AM}(h:pln x=AC):(x==("__classdict__":AM))=false:=by
 erw[pln,AI,BG]at h;exact h.1.2
def zkO{x:AM}(h:pln x=AC):x ≠ "__name__":=by
 erw[pln,AI,BG]at h;intro e;rw[e]at h;exact absurd h.2 ⋯
def hf(κ:Kx){P:Prop}(f:κ.h=AE->Pr P):Pr P:=if h:κ.h=AE then f h else AB
def glB(κ:Kx)(x:AM):Bool:=decide (κ.sc.names.lookup x=AA .globalImplicit)&&pln x
def zo{γ:Gs}{κ:Kx}{m:Nat}{S:Se}{X:Cx}(G:Good γ κ m S X){x:AM}(h:glB κ x=AC):Gl X x:=by
 erw[glB,AI,decide_eq_true_eq]at h;show X.env.scope.names.lookup x=_;rw[G.sc];exact h.1
def z6{κ:Kx}{x:AM}(h:glB κ x=AC):pln x=true:=by
 erw[glB,AI]at h;exact h.2
def setB(κ:Kx)(i:Nat)(x:AM):Bool:=decide (κ.N[i]?=AA x)&&decide κ.N.Nodup&&yc5 κ.sc x&&(κ.own || decide (κ.sc.names.lookup x=AA .local))&&pln x
structure ycC(X:Cx)(i:Nat)(x:AM):Prop where
 d:X.N.Nodup
 i:X.N[i]?=AA x
 l:Loc X.env.scope x
 f:X.fn x=AC \/ X.env.scope.names.lookup x=AA .local
 p:pln x=AC
def zF{γ:Gs}{κ:Kx}{m:Nat}{S:Se}{X:Cx}(G:Good γ κ m S X){i:Nat}{x:AM}(h:setB κ i x=AC):ycC X i x:=by
 erw[setB,AI,CK,decide_eq_true_eq]at h;let⟨⟨⟨⟨h1,h2⟩,h3⟩,h4⟩,h5⟩:=h;refine⟨by rw[G.n];exact h2,by rw[G.n];exact h1,by rw[G.sc];exact zcb h3,?_,h5⟩;rcases h4 with h4|h4
 .exact .inl ((G.own h4).2.1 x)
 .exact .inr (by rw[G.sc];exact h4)
def gFn(γ:Gs)(x:AM)(i:Nat):Pr (γ.g x=AA (.fn i)):=match h:γ.g x with
 |some (.fn j)=>if e:j=i then AA ⟨by subst e;rfl⟩else AB
 |_=>AB
section
variable {γ:Gs}{κ:Kx}{ca cb cc:Ce}{ces:Ces}
def yfk(v:PV)(e:AL):Pr (YE γ κ e (.cst v)):=
 match e with
 |.Constant (.int i) _ _=>match v with
  |.int j=>an (ask (i=j)) λh=>ok (λ_ _ _ _=>by cases h;exact zjO)
  |_=>AB
 |.Constant (.bool i) _ _=>match v with
  |.bl j=>an (ask (i=j)) λh=>ok (λ_ _ _ _=>by cases h;exact zj9)
  |_=>AB
 |.Constant .none _ _=>match v with
  |.non=>ok (λ_ _ _ _=>zjy)
  |_=>AB
 |.Constant (.str i) _ _=>match v with
  |.str j=>an (ask (i=j)) λh=>ok (λ_ _ _ _=>by cases h;exact zjx)
  |_=>AB
 |_=>AB
def ygp(i:Nat)(e:AL):Pr (YE γ κ e (.var i)):=
 match e with
 |.Name x _=>an (ask (κ.N[i]?=AA x/\ydd κ.sc x=AC/\pln x=AC)) λh=>ok (λ_ _ _ G=>zjc (by rw[G.n];exact h.1) (by rw[G.sc];exact zek h.2.1) (zkC h.2.2) (zkN h.2.2))
 |_=>AB
def yfZ(o:BOp)(e:AL)(fa:∀x,Pr (YE γ κ x ca))(fb:∀x,Pr (YE γ κ x cb)):Pr (YE γ κ e (.bin o ca cb)):=
 match e with
 |.BinOp a op b _=>
  an (mOp op o) λho=>an (fa a) λha=>an (fb b) λhb=>ok (λm S X G=>zjf (ho S X) (ha m S X G) (hb m S X G))
 |_=>AB
def yfl(e:AL)(fa:∀x,Pr (YE γ κ x ca)):Pr (YE γ κ e (.not ca)):=
 match e with
 |.UnaryOp .Not a _=>
  an (fa a) λha=>ok (λm S X G=>zjR (ha m S X G))
 |_=>AB
def yfJ(o:COp)(e:AL)(fa:∀x,Pr (YE γ κ x ca))(fb:∀x,Pr (YE γ κ x cb)):Pr (YE γ κ e (.cmp o ca cb)):=
 match e with
 |.Compare a [op] [b] _=>
  an (mCm op o) λho=>an (ask (nse b=AC)) λhs=>an (fa a) λha=>an (fb b) λhb=>ok (λm S X G=>ziU (ho _ S X G.room) (ha m S X G) (hb m S X G) (nmk hs))
 |_=>AB
def ydS(o:COp)(e:AL)(fa:∀x,Pr (YE γ κ x ca))(fb:∀x,Pr (YE γ κ x cb)):Pr (YT γ κ e (.cmp o ca cb)):=
 match e with
 |.Compare a [op] [b] _=>
  an (mCm op o) λho=>an (ask (nse b=AC)) λhs=>an (fa a) λha=>an (fb b) λhb=>ok (λm S X G=>ziv (ho _ S X G.room) (ha m S X G) (hb m S X G) (nmk hs))
 |_=>AB
def yf0(e:AL)(fc:∀x,Pr (YT γ κ x cc))(fa:∀x,Pr (YE γ κ x ca))(fb:∀x,Pr (YE γ κ x cb)):Pr (YE γ κ e (.ite cc ca cb)):=
 match e with
 |.IfExp c a b _=>
  an (fc c) λhc=>an (fa a) λha=>an (fb b) λhb=>ok (λm S X G=>zi7 (hc m S X G) (ha m S X G) (hb m S X G))
 |_=>AB
def ygf(e:AL)(fa:∀x,Pr (YA γ κ x ces)):Pr (YE γ κ e (.tup ces)):=
 match e with
 |.Tuple es _ _=>
  an (fa es) λha=>ok (λm S X G=>zjQ (ha m S X G))
 |_=>AB
def yf9(e:AL)(fa:∀x,Pr (YA γ κ x ces)):Pr (YE γ κ e (.lst ces)):=
 match e with
 |.List es _=>
  an (fa es) λha=>ok (λm S X G=>ziz (ha m S X G))
 |_=>AB
def ydu(e:AL)(fa:∀x,Pr (YA γ κ x ces)):Pr (YE γ κ e (.newl ces)):=
 match e with
 |.List es _=>
  an (fa es) λha=>ok (λm S X G=>zgY (ha m S X G))
 |_=>AB
def mIdx(e:AL)(fa:∀x,Pr (YE γ κ x ca))(fb:∀x,Pr (YE γ κ x cb)):Pr (YE γ κ e (.idx ca cb)):=
 match e with
 |.Subscript a b _=>
  an (ask (nsl b=AC)) λhs=>an (fa a) λha=>an (fb b) λhb=>ok (λm S X G=>ziF (ha m S X G) (hb m S X G) (pix hs))
 |_=>AB
def ygr(e:AL)(fa:∀x,Pr (YE γ κ x ca))(fb:∀x,Pr (YE γ κ x cb)):Pr (YE γ κ e (.dgt ca cb)):=
 match e with
 |.Subscript a b _=>
  an (ask (nsl b=AC)) λhs=>an (fa a) λha=>an (fb b) λhb=>ok (λm S X G=>ziC (zgi G.room) (ha m S X G) (hb m S X G) (nos hs))
 |_=>AB
def yfT(e:AL)(fa:∀x,Pr (YE γ κ x ca))(fb:∀x,Pr (YO γ κ x cb))(fc:∀x,Pr (YO γ κ x cc)):Pr (YE γ κ e (.slc ca cb cc)):=
 match e with
 |.Subscript a (.Slice l h AB _) _=>
  an (fa a) λha=>an (fb l) λhb=>an (fc h) λhc=>ok (λm S X G=>zjo (ha m S X G) (hb m S X G) (hc m S X G))
 |_=>AB
def yeo(c:Ce)(e:Option AL)(fa:∀x,Pr (YE γ κ x c)):Pr (YO γ κ e c):=
 match e with
 |none=>match c with
  |.cst .non=>ok (λ_ _ _ _=>zhs)
  |_=>AB
 |some a=>
  an (fa a) λha=>ok (λm S X G=>zh8 (ha m S X G))
inductive Fs(γ:Gs)(κ:Kx):Ces->Type where
 |nil:Fs γ κ .nil
 |cons {c:Ce} {cs:Ces} (f:∀x,Pr (YE γ κ x c)) (r:Fs γ κ cs):Fs γ κ (.cons c cs)
def yaQ:{ces:Ces}->Fs γ κ ces->(es:List AL)->Pr (YA γ κ es ces)
 |_,.nil,[]=>ok λ_ _ _ _=>za1
 |_,.cons f r,a::es=>an (ask (nst a=AC)) λhs=>an (f a) λha=>an (yaQ r es) λhr=>ok λm S X G=>zS (ha m S X G) (hr m S X G) (zcv hs)
 |_,_,_=>AB
def yeJ(p2:BX):{ces:Ces}->Fs γ κ ces->(ks:List AM)->(eks:List (Option AL))->(es:List AL)->Pr (∀m S X,Good γ κ m S X->PPs X p2 eks es (trE S X.K ks ces))
 |_,.nil,[],[],[]=>ok λ_ _ _ _=>zjl
 |_,.cons f r,x::ks,AA (.Constant (.str y) _ _)::eks,e::es=>an (ask (y=x)) λh=>an (f e) λhe=>an (yeJ p2 r ks eks es) λhr=>ok λm S X G=>by
  subst h;exact zg4 (he m S X G) (hr m S X G)
 |_,_,_,_,_=>AB
def ydN(ks:List AM)(F:Fs γ κ ces)(e:AL)(fb:∀x,Pr (YE γ κ x cb)):Pr (YE γ κ e (.dsub ks ces cb)):=
 match e with
 |.Subscript (.Dict eks es p2) b _=>an (ask (nsl b=AC/\eks.all (·.isSome)=AC/\eks.length=es.length/\eks≠[]/\eks.length<=15)) λhs=>an (yeJ p2 F ks eks es) λhp=>an (fb b) λhb=>ok λm S X G=>
  zhH (zgi G.room) (hp m S X G) (hb m S X G) hs.2.1 hs.2.2.1 hs.2.2.2.1 hs.2.2.2.2 (nos hs.1)
 |_=>AB
def yee(e:AL)(fa:∀x,Pr (YE γ κ x ca))(fb:∀x,Pr (YE γ κ x cb)):Pr (YT γ κ e (.nel ca cb)):=
 match e with
 |.Compare a [.NotEq] [b] _=>an (ask (behindInMarks .NotEq b=AE)) λh=>an (fa a) λha=>an (fb b) λhb=>ok λm S X G=>zjF G.room.units (ha m S X G) (hb m S X G) h
 |_=>AB
structure Sp2(γ:Gs)(κ:Kx)(ces:Ces)(np:Nat) where
 c1:Ces
 c2:Ces
 f1:Fs γ κ c1
 f2:Fs γ κ c2
 h:ycc c1 c2=ces
 l:ycv c1=np
def ybZ:(np:Nat)->{ces:Ces}->Fs γ κ ces->Option (Sp2 γ κ ces np)
 |0,ces,F=>AA ⟨.nil,ces,.nil,F,rfl,rfl⟩
 |n+1,_,.cons f r=>match ybZ n r with
  |some s=>AA ⟨.cons _ s.c1,s.c2,.cons f s.f1,s.f2,by rw[ycc,s.h],by rw[ycv,s.l]⟩
  |none=>AB
 |_,_,_=>AB
structure It2(γ:Gs)(κ:Kx)(ces:Ces)(sh:List (Option Int))(kws:List Bt) where
 it:List (Sum Ce Int)
 h:yae it=ces
 s:it.map shC=sh
 k:∀m S X,Good γ κ m S X->PK X kws (tK S X it)
def ybB:(sh:List (Option Int))->{ces:Ces}->Fs γ κ ces->(kws:List Bt)->Option (It2 γ κ ces sh kws)
 |[],_,.nil,[]=>AA ⟨[],rfl,rfl,λ_ _ _ _=>zjm⟩
 |none::sh,.cons c _,.cons f r,⟨_,e,_⟩ :: kws=>match f e,ybB sh r kws with
  |some h,AA q=>AA ⟨.inl c::q.it,by rw[yae,q.h],by rw[AR,q.s];rfl,λm S X G=>zks (h.down m S X G) (q.k m S X G)⟩
  |_,_=>AB
 |some i::sh,.cons (.cst (.int j)) _,.cons _ r,kws=>if e:i=j then match ybB sh r kws with
  |some q=>AA ⟨.inr i::q.it,by rw[yae,q.h,e],by rw[AR,q.s];rfl,λm S X G=>zj5 (q.k m S X G)⟩
  |none=>AB
  else AB
 |_,_,_,_=>AB
def kwN:List Bt->List AM
 |[]=>[]
 |⟨AA x,_,_⟩ :: r=>x::kwN r
 |_::r=>kwN r
def kwB:List Bt->Bool
 |[]=>AC
 |⟨AA _,_,_⟩ :: r=>kwB r
 |_=>AE
def zj1{pos:BX}{env:BC}:∀{kws:List Bt},kwB kws=AC->(backToKw pos (keywordEach kws env)).all (·.1.isSome)=AC/\(backToKw pos (keywordEach kws env)).filterMap (·.1)=kwN kws/\(backToKw pos (keywordEach kws env)).any (·.1.isNone)=AE
 |[],_=>⟨rfl,rfl,rfl⟩
 |⟨AA x,e,_⟩ :: r,h=>by
  let⟨h1,h2,h3⟩:=zj1 (pos:=pos) (env:=env) (kws:=r) h;erw[backToKw]at h1 h2 h3 ⊢;erw[keywordEach,AR,BB,CA,BZ,h1,h2,h3,kwN];simp
def ygc(hκ:κ.h=AE)(i:Nat)(F:Fs γ κ ces)(e:AL):Pr (YE γ κ e (.call i ces)):=
 match e with
 |.Call (.Name x _) [] [] _=>match F with
  |.nil=>an (ask (glB κ x=AC)) λhg=>an (gFn γ x i) λhf=>ok λm S X G=>by
   let⟨f,fd,ps,h1,h2,h3,h4⟩:=G.glo.F x i hf;exact zfw h1 ((G.rm hκ).mono (C9 m)) (zo G hg) h2 h3 h4 (zkC (z6 hg))
  |_=>AB
 |.Call (.Name x _) (a::es) kws _=>an (ask (glB κ x=AC/\nst a=AC/\ycs es=AC)) λhg=>
  match hx:γ.g x with
  |some (.fn j)=>match kws with
   |[]=>an (ask (j=i)) λhj=>an (yaQ F (a::es)) λha=>ok λm S X G=>by
    subst hj;let⟨f,fd,ps,h1,h2,h3,h4⟩:=G.glo.F x j hx;exact zhV h1 ((G.rm hκ).mono (C9 m)) (zo G hg.1) h2 h3 h4 (ha m S X G) (zkC (z6 hg.1)) (zcv hg.2.1) (stars hg.2.2)
   |_=>AB
  |some (.fnD j)=>match hk:γ.kb j (es.length+1) (kwN kws)with
   |none=>AB
   |some sh=>match ybZ (es.length+1) F with
    |none=>AB
    |some s=>match ybB sh s.f2 kws with
     |none=>AB
     |some q=>an (ask (kwB kws=AC/\j=i)) λhw=>an (yaQ s.f1 (a::es)) λha=>ok λm S X G=>by
      let⟨hw,rfl⟩:=hw;let⟨f,fd,ps,h1,h2,h3,h4⟩:=G.glo.Q x j _ _ sh hx hk;rw[<-s.h,<-q.h];rw[<-q.s]at h4;have w:=λ{pos}=>zj1 (pos:=pos) (env:=X.env) hw;exact zfK h1 ((G.rm hκ).mono (C9 m)) (zo G hg.1) h2 h3 h4 s.l (ha m S X G) (q.k m S X G) w.1 w.2.1 (zkC (z6 hg.1)) (zcv hg.2.1) (by
       rw[w.2.2,Fd];exact stars (es:=a::es) (by erw[ycs,BB,hg.2.1,Fi];exact hg.2.2))
  |_=>AB
 |_=>AB
abbrev yd5(b:Blt)(x:AM):Prop:=∀S X,X.calm=AC->(∃id,yab X (.builtin id) (rB S X b)/\bootBuiltins x=AA (.builtin id)) \/ ∃T,yab X (.type T) (rB S X b)/\bootBuiltins x=AA (.type T)
def yfB(b:Blt)(x:AM):Pr (yd5 b x):=
 match b with
 |.len=>an (ask (x="len")) λh=>ok λ_ _ _=>.inl ⟨_,ziq,h ▸ zjG⟩
 |.int=>an (ask (x="int")) λh=>ok λ_ _ _=>.inr ⟨_,zie,h ▸ zgt⟩
 |.tuple=>an (ask (x="tuple")) λh=>ok λ_ _ _=>.inr ⟨_,zfW,h ▸ zcF⟩
 |.list=>an (ask (x="list")) λh=>ok λ_ _ _=>.inr ⟨_,zhj,h ▸ zd8⟩
 |.all=>an (ask (x="all")) λh=>ok λ_ _ c=>.inl ⟨_,ziB c,h ▸ zjs⟩
 |_=>AB
def yge(b:Blt)(F:Fs γ κ ces)(e:AL):Pr (YE γ κ e (.blt b ces)):=
 match e with
 |.Call (.Name x _) (a::es) [] _=>hf κ λhκ=>an (ask (glB κ x=AC/\nst a=AC/\ycs es=AC/\γ.b x=AC)) λhg=>an (yfB b x) λhb=>an (yaQ F (a::es)) λha=>ok λm S X G=>by
  rcases hb S X (G.calm hκ)with⟨id,h1,h2⟩|⟨T,h1,h2⟩
  .exact zjJ h1 (zo G hg.1) (G.glo.B x hg.2.2.2) h2 (ha m S X G) (zkO (z6 hg.1)) (zkC (z6 hg.1)) (zcv hg.2.1) (stars hg.2.2.1)
  .exact zh9 h1 (zo G hg.1) (G.glo.B x hg.2.2.2) h2 (ha m S X G) (zkO (z6 hg.1)) (zkC (z6 hg.1)) (zcv hg.2.1) (stars hg.2.2.1)
 |_=>AB
def yfu(b:Blt)(F:Fs γ κ ces)(e:AL):Pr (YE γ κ e (.blt b ces)):=
 match b with
 |b=>yge b F e
def tyB(t:Ty)(x:AM):Pr (ycI t=AC/\bootBuiltins x=AA (.type (tyN t))):=
 match t with
 |.int=>an (ask (x="int")) λh=>ok ⟨rfl,h ▸ zgt⟩
 |.bool=>an (ask (x="bool")) λh=>ok ⟨rfl,h ▸ zhx⟩
 |.str=>an (ask (x="str")) λh=>ok ⟨rfl,h ▸ zim⟩
 |.tuple=>an (ask (x="tuple")) λh=>ok ⟨rfl,h ▸ zcF⟩
 |_=>AB
def yfg(ts:List Ty)(e:AL)(fa:∀x,Pr (YE γ κ x ca)):Pr (YE γ κ e (.isi ca ts)):=
 match ts,e with
 |[t],.Call (.Name n _) [a,.Name x _] [] _=>an (ask (n="isinstance"/\glB κ n=AC/\γ.b n=AC/\glB κ x=AC/\γ.b x=AC/\γ.t t=AC/\nst a=AC)) λh=>an (tyB t x) λht=>an (fa a) λha=>ok λm S X G=>by
  let⟨rfl,h1,h2,h3,h4,h5,h6⟩:=h;exact zi1 (G.glo.T t h5) ht.1 (zo G h1) (G.glo.B _ h2) (zo G h3) (G.glo.B _ h4) ht.2 (ha m S X G) (zkO (z6 h3)) (zkC (z6 h3)) (zcv h6) rfl
 |_,_=>AB
mutual
noncomputable def yeh:(a b:PV)->Pr (a=b)
 |.non,.non=>ok rfl
 |.bl a,.bl b=>an (ask (a=b)) λh=>ok (by rw[h])
 |.int a,.int b=>an (ask (a=b)) λh=>ok (by rw[h])
 |.str a,.str b=>an (ask (a=b)) λh=>ok (by rw[h])
 |.tp k a,.tp j b=>an (ask (k=j)) λh=>an (yb8 a b) λg=>ok (by rw[h,g])
 |.lst a,.lst b=>an (yb8 a b) λg=>ok (by rw[g])
 |_,_=>AB
noncomputable def yb8:(a b:List PV)->Pr (a=b)
 |[],[]=>ok rfl
 |a::x,b::y=>an (yeh a b) λh=>an (yb8 x y) λg=>ok (by rw[h,g])
 |_,_=>AB
end
def eqD:(a b:List (AM×PV))->Pr (a=b)
 |[],[]=>ok rfl
 |(k,a)::x,(j,b)::y=>an (ask (k=j)) λe=>an (yeh a b) λh=>an (eqD x y) λg=>ok (by rw[e,h,g])
 |_,_=>AB
def yf2(v:PV)(e:AL):Pr (YE γ κ e (.cst v)):=
 match e with
 |.Name x _=>match h:γ.g x with
  |some (.cst u)=>an (ask (glB κ x=AC)) λhg=>an (yeh u v) λhv=>ok λm S X G=>by
   subst hv;rcases G.glo.C x u h with q|⟨i,rfl,q⟩
   .exact zkt (zo G hg) q (zkC (z6 hg))
   .exact ziW (zo G hg) q (zkC (z6 hg))
  |some (.fn i)=>match v with
   |.fnc j=>an (ask (glB κ x=AC/\γ.fv x i=AC/\i=j)) λhg=>ok λm S X G=>by
    let⟨h1,h2,rfl⟩:=hg;exact zdw (zo G h1) (G.glo.V x i h h2) (λB φ H=>by erw[yc]) (zkC (z6 h1))
   |_=>AB
  |_=>AB
 |e=>yfk v e
def zkP{pos:BX}{env:BC}{b:AL}(h:nst b=AC):((backTo pos (starEach [b] env)).all (λx=>!x.1)&&(backToKw pos (keywordEach [] env)).all (λx=>x.1.isSome)&&decide (([b]:List AL).length+([]:List Bt).length+(if ([]:List Bt).isEmpty then 0 else 1)<30))=true:=by
 rw[zcv h];rfl
def yf3(k:Mth)(F:Fs γ κ ces)(e:AL)(fa:∀x,Pr (YE γ κ x ca)):Pr (YE γ κ e (.mth k ca ces)):=
 match k,e,F with
 |.append,.Call (.Attribute a n ap) [b] [] pos,.cons fb .nil=>an (ask (n="append"/\nca a=AC/\nst b=AC/\(ap.endLine==pos.line)=AC)) λh=>an (fa a) λha=>an (fb b) λhb=>ok λm S X G=>by
  let⟨rfl,h1,h2,h3⟩:=h;exact zeX (ha m S X G) (hb m S X G) (zcv h2) (zkI h1) h3 (zkP h2)
 |.extend,.Call (.Attribute a n ap) [b] [] pos,.cons fb .nil=>an (ask (n="extend"/\nca a=AC/\nst b=AC/\(ap.endLine==pos.line)=AC)) λh=>an (fa a) λha=>an (fb b) λhb=>ok λm S X G=>by
  let⟨rfl,h1,h2,h3⟩:=h;exact ze1 (ha m S X G) (hb m S X G) (zcv h2) (zkI h1) h3 (zkP h2)
 |.split,.Call (.Attribute a n ap) [b] [] pos,.cons fb .nil=>an (ask (n="split"/\nca a=AC/\nst b=AC/\(ap.endLine==pos.line)=AC)) λh=>an (fa a) λha=>an (fb b) λhb=>ok λm S X G=>by
  let⟨rfl,h1,h2,h3⟩:=h;exact zfy (ha m S X G) (hb m S X G) (zcv h2) (zkI h1) h3 (zkP h2) rfl
 |.clear,.Call (.Attribute a n ap) [] [] pos,.nil=>an (ask (n="clear"/\nca a=AC/\(ap.endLine==pos.line)=AC)) λh=>an (fa a) λha=>ok λm S X G=>by
  let⟨rfl,h1,h3⟩:=h;exact zfB (ha m S X G) (zkI h1) h3
 |_,_,_=>AB
def yfG(e:AL)(fa:∀x,Pr (YE γ κ x ca))(fb:∀x,Pr (YE γ κ x cb)):Pr (YE γ κ e (.nin ca cb)):=
 match e with
 |.Compare a [.NotIn] [b] _=>an (ask (behindInMarks .NotIn b=AE)) λh=>an (fa a) λha=>an (fb b) λhb=>ok λm S X G=>zi0 G.room.units (ha m S X G) (hb m S X G) h
 |_=>AB
def ydH(e:AL)(fa:∀x,Pr (YE γ κ x ca))(fb:∀x,Pr (YE γ κ x cb)):Pr (YT γ κ e (.nin ca cb)):=
 match e with
 |.Compare a [.NotIn] [b] _=>an (ask (behindInMarks .NotIn b=AE)) λh=>an (fa a) λha=>an (fb b) λhb=>ok λm S X G=>zio G.room.units (ha m S X G) (hb m S X G) h
 |_=>AB
def ye3(e:AL)(fa:∀x,Pr (YE γ κ x ca)):Pr (YE γ κ e (.thw (.blt .list (.cons ca .nil)))):=
 match e with
 |.Call (.Name x _) [a] [] _=>an (ask (x="list"/\glB κ x=AC/\nst a=AC/\γ.b x=AC)) λh=>an (fa a) λha=>ok λm S X G=>by
  let⟨rfl,h1,h2,h3⟩:=h;exact zgf (zo G h1) (G.glo.B _ h3) zd8 (zS (ha m S X G) za1 (zcv h2)) (zcv h2) rfl
 |_=>AB
def mJ:(ces:Ces)->Fs γ κ ces->(es:List AL)->Pr (∀m S X,Good γ κ m S X->PJ X es (tJ S X ces))
 |.nil,_,[]=>ok λ_ _ _ _=>zjN
 |.cons (.cst (.str y)) cs,.cons _ r,.Constant (.str z) _ _::es=>an (ask (z=y)) λhz=>an (mJ cs r es) λhr=>ok λm S X G=>by
  subst hz;exact zd6 ziK (hr m S X G)
 |.cons _ cs,.cons f r,.FormattedValue e k AB _::es=>an (ask (k=-1)) λhk=>an (f e) λh=>an (mJ cs r es) λhr=>ok λm S X G=>by
  subst hk;exact zd6 (zjS (h m S X G)) (hr m S X G)
 |_,_,_=>AB
def yf6(F:Fs γ κ ces)(e:AL):Pr (YE γ κ e (.fst ces)):=
 match e with
 |.JoinedStr (v1::v2::rest) _=>an (mJ ces F (v1::v2::rest)) λh=>ok λm S X G=>ziH (h m S X G)
 |_=>AB
end
structure Ev(γ:Gs)(c:Ce) where
 e:∀κ x,Pr (YE γ κ x c)
 t:∀κ x,Pr (YT γ κ x c)
 w:∀κ op l pos,Pr (YW γ κ (.BoolOp op l pos) c)
section
variable {γ:Gs}{ca cb cc:Ce}
def w1{c:Ce}(t:∀κ x,Pr (YT γ κ x c))(κ:Kx)(op:GA)(l:List AL)(pos:BX):Pr (YW γ κ (.BoolOp op l pos) c):=
 match op,l with
 |.And,[a]=>an (t κ a) λh=>ok λm S X G=>zg8 (h m S X G)
 |.Or,[a]=>an (t κ a) λh=>ok λm S X G=>ziO (h m S X G)
 |_,_=>AB
def plT{c:Ce}(e:∀κ x,Pr (YE γ κ x c))(κ:Kx)(x:AL):Pr (YT γ κ x c):=an (ask (nte x=AC)) λh=>an (e κ x) λhe=>ok λm S X G=>ziT (he m S X G) (itr h)
def plain{c:Ce}(e:∀κ x,Pr (YE γ κ x c)):Ev γ c:=⟨e,plT e,w1 (plT e)⟩
def ybI{c:Ce}(e:∀κ x,Pr (YE γ κ x c))(t:∀κ x,Pr (YT γ κ x c)):Ev γ c:=⟨e,t,w1 t⟩
def ygv(A:Ev γ ca)(κ:Kx)(e:AL):Pr (YT γ κ e (.not ca)):=
 match e with
 |.UnaryOp .Not a _=>an (A.t κ a) λh=>ok λm S X G=>ziD (h m S X G)
 |_=>AB
def ye8(A:Ev γ ca)(B:Ev γ cb)(κ:Kx)(e:AL):Pr (YE γ κ e (.and ca cb)):=
 match e with
 |.BoolOp .And (a::b::[]) _=>an (A.e κ a) λha=>an (B.e κ b) λhb=>ok λm S X G=>zgA (ha m S X G) (zgv (hb m S X G))
 |.BoolOp .And (a::b::c::r) p=>an (A.e κ a) λha=>an (B.e κ (.BoolOp .And (b::c::r) p)) λhb=>ok λm S X G=>zgA (ha m S X G) (hb m S X G)
 |_=>AB
def orE(A:Ev γ ca)(B:Ev γ cb)(κ:Kx)(e:AL):Pr (YE γ κ e (.or ca cb)):=
 match e with
 |.BoolOp .Or (a::b::[]) _=>an (A.e κ a) λha=>an (B.e κ b) λhb=>ok λm S X G=>zj2 (ha m S X G) (zgv (hb m S X G))
 |.BoolOp .Or (a::b::c::r) p=>an (A.e κ a) λha=>an (B.e κ (.BoolOp .Or (b::c::r) p)) λhb=>ok λm S X G=>zj2 (ha m S X G) (hb m S X G)
 |_=>AB
def yd6(A:Ev γ ca)(B:Ev γ cb)(κ:Kx)(op:GA)(l:List AL)(pos:BX):Pr (YW γ κ (.BoolOp op l pos) (.and ca cb)):=
 match op,l with
 |.And,a::b::r=>an (A.t κ a) λha=>an (B.w κ .And (b::r) pos) λhb=>ok λm S X G=>zii (ha m S X G) (hb m S X G)
 |_,_=>AB
def orW(A:Ev γ ca)(B:Ev γ cb)(κ:Kx)(op:GA)(l:List AL)(pos:BX):Pr (YW γ κ (.BoolOp op l pos) (.or ca cb)):=
 match op,l with
 |.Or,a::b::r=>an (A.t κ a) λha=>an (B.w κ .Or (b::r) pos) λhb=>ok λm S X G=>zkm (ha m S X G) (hb m S X G)
 |_,_=>AB
def ptW{c:Ce}(w:∀κ op l pos,Pr (YW γ κ (.BoolOp op l pos) c))(κ:Kx)(e:AL):Pr (YT γ κ e c):=
 match e with
 |.BoolOp op l p=>an (w κ op l p) λh=>ok λm S X G=>PW.pt (h m S X G)
 |_=>AB
def yeO{c:Ce}(t:∀κ x,Pr (YT γ κ x c))(w:∀κ op l pos,Pr (YW γ κ (.BoolOp op l pos) c))(κ:Kx)(op:GA)(l:List AL)(pos:BX):Pr (YW γ κ (.BoolOp op l pos) c):=
 match l with
 |[a]=>w1 t κ op [a] pos
 |l=>w κ op l pos
def ydy(A:Ev γ ca)(B:Ev γ cb):Ev γ (.and ca cb):=⟨ye8 A B,ptW (yd6 A B),yeO (ptW (yd6 A B)) (yd6 A B)⟩
def yfM(A:Ev γ ca)(B:Ev γ cb):Ev γ (.or ca cb):=⟨orE A B,ptW (orW A B),yeO (ptW (orW A B)) (orW A B)⟩
end
abbrev YI(γ:Gs)(κ:Kx)(tg l:AL)(c:Cit):Prop:=∀m S X,Good γ κ m S X->PI X tg l (tI S X c)
abbrev YG(γ:Gs)(κ:Kx)(tg:AL)(c:Tg):Prop:=∀m S X,Good γ κ m S X->PG X tg (tG S X c)
section
variable {γ:Gs}{κ:Kx}{ca cb cc ce:Ce}{ci:Cit}
def yfv(e:∀x,Pr (YE γ κ x ca))(tg l:AL):Pr (YI γ κ tg l (.seq ca)):=an (e l) λh=>ok λm S X G=>zjY (h m S X G)
def iR1(fa:∀x,Pr (YE γ κ x ca))(tg l:AL):Pr (YI γ κ tg l (.range1 ca)):=
 match l with
 |.Call (.Name x _) [a] [] _=>an (ask (x="range"/\glB κ x=AC/\γ.b x=AC/\nst a=AC)) λh=>an (fa a) λha=>ok λm S X G=>by
  let⟨rfl,h1,h2,h3⟩:=h;exact zei (zo G h1) (G.glo.B _ h2) (ha m S X G) (zcv h3)
 |_=>AB
def yej(fa:∀x,Pr (YE γ κ x ca))(tg l:AL):Pr (YI γ κ tg l (.enum ca)):=
 match tg,l with
 |.Tuple _ _ _,.Call (.Name x _) [a] [] _=>an (ask (x="enumerate"/\glB κ x=AC/\γ.b x=AC/\nst a=AC)) λh=>an (fa a) λha=>ok λm S X G=>by
  let⟨rfl,h1,h2,h3⟩:=h;exact zhh (zo G h1) (G.glo.B _ h2) (ha m S X G) (zcv h3)
 |_,_=>AB
def gNm(κ:Kx):(l:List Nat)->(es:List AL)->Pr (∀m S X,Good γ κ m S X->PGs X es (gNs l)/\(assignEach es X.env).length=l.length/\(assignEach es X.env).findIdx? (·.1)=AB)
 |[],[]=>ok λ_ _ _ _=>⟨zeY,rfl,rfl⟩
 |i::l,.Name x _::es=>an (ask (setB κ i x=AC)) λh=>an (gNm κ l es) λhr=>ok λm S X G=>by
  have s:=zF G h;let⟨h1,h2,h3⟩:=hr m S X G;refine⟨zcI s.d s.i s.l h1 s.f,?_,?_⟩
  .simp only[assignEach,Af,h2]
  .simp only[assignEach,Eh,h3];rfl
 |_,_=>AB
def mTg(ct:Tg)(tg:AL):Pr (YG γ κ tg ct):=
 match ct,tg with
 |.n i,.Name x _=>an (ask (setB κ i x=AC)) λh=>ok λm S X G=>let s:=zF G h;zex s.d s.i s.l s.f
 |.t l,.Tuple es _ _=>hf κ λhκ=>an (gNm κ l es) λh=>ok λm S X G=>zgy (G.calm hκ) (h m S X G).1 (h m S X G).2.1 (h m S X G).2.2
 |_,_=>AB
def tgN:AL->List AM
 |.Name x _=>[x]
 |.Tuple es _ _=>es.filterMap fun
  |.Name x _=>AA x
  |_=>AB
 |_=>[]
def ycW(N:List AM)(sl:List (Option Nat))(tg:AL):List Str:=tgN tg++(sl.drop (tgN tg).length).filterMap λo=>o.bind λj=>N[j]?
def yZ(sc so:An):Scope:={sc with names:=sc.names.map λ(n,k)=>if (k==Bw&&so.kind==.function&&so.names.lookup n==AA .cell)then(n,D9)else(n,k)}
def yQ(N:List AM)(so sc:An)(NC:List AM)(sl:List (Option Nat)):Bool:=
 decide (sc.kind=.function)&&(sc.names.all λy=>y.2 != .local || decide (sc.names.lookup y.1=AA .local))&&(sc.names.all λy=>y.2 != .cell)&&(sc.names.all λy=>y.2 != .free || decide (so.names.lookup y.1=AA .cell)) &&
  ((NC.zip sl).all λp=>p.2.all λj=>decide (N[j]?=AA p.1/\sc.names.lookup p.1=AA .free))&&decide (sl.length=NC.length)
def zct{X:Cx}{sc:An}{NC:List AM}{sl:List (Option Nat)}(h:yQ X.N X.env.scope sc NC sl=AC):yJ X sc NC sl:=by
 erw[yQ,AI,decide_eq_true_eq,Ah,CK,bne_iff_ne,ne_eq]at h;let⟨⟨⟨⟨⟨h1,h2⟩,h3⟩,h4⟩,h5⟩,h6⟩:=h;exact zk7 _ _ rfl rfl h1 (λy hy e=>(h2 y hy).resolve_left λz=>z e) h3 (λy hy e=>(h4 y hy).resolve_left λz=>z e) (λp hp=>by simpa using h5 p hp) h6
theorem Good.comp{m:Nat}{S:Se}{X:Cx}(G:Good γ κ m S X)(sc:An)(NC:List AM)(j:CI):Good γ ⟨NC,yZ sc κ.sc,AE,κ.h⟩ m S (cxC X sc NC j):=by
 refine⟨rfl,?_,G.calm,G.room,G.hd,(λh=>nomatch h),(λh=>nomatch h),⟨G.glo.F,G.glo.Q,G.glo.C,G.glo.D,G.glo.E,G.glo.N,G.glo.B,G.glo.T,G.glo.A,G.glo.M,λy D h=>let ⟨fa,fdd,ps,M,d⟩:=G.glo.K y D h;⟨fa,fdd,ps,⟨M.F,M.kp,M.b⟩,d⟩,G.glo.V,G.glo.I,G.glo.L,G.glo.H,G.glo.Z⟩⟩;show relabel sc X.env=_;rw[<-G.sc];rfl
def ye4(c:Ce)(f:∀x,Pr (YT γ κ x c))(ifs:List AL):Pr (∀m S X,Good γ κ m S X->PTs X ifs (tT0 S X.K c)):=
 match ifs with
 |[]=>match c with
  |.cst (.bl AC)=>ok λ_ _ _ _=>zf3
  |_=>AB
 |[a]=>an (f a) λh=>ok λm S X G=>zh5 rfl (h m S X G)
 |_=>AB
structure ycq(γ:Gs)(κ:Kx)(sl:List (Option Nat))(ct:Tg)(ci:Cit)(cc ce:Ce)(elt tg it:AL)(ifs:List AL)(sc:An):Prop where
 q:∀m S X,Good γ κ m S X->∃NC,yJ X sc NC sl/\PI X tg it (tI S X ci)/\(∀j,PG (cxC X sc NC j) tg (tG0 S X.K ct))/\(∀j,PTs (cxC X sc NC j) ifs (tT0 S X.K cc))/\∀j,PE (cxC X sc NC j) elt (tE0 S X.K ce)
 f:yr ct sl=AC
 s:nse it=AC
def mCo(sl:List (Option Nat))(ct:Tg)(fi:∀tg l,Pr (YI γ κ tg l ci))(C:Ev γ cc)(E:Ev γ ce)(elt tg it:AL)(ifs:List AL)(sc:An):Pr (ycq γ κ sl ct ci cc ce elt tg it ifs sc):=
 an (ask (yQ κ.N κ.sc sc (ycW κ.N sl tg) sl=AC/\yr ct sl=AC/\nse it=AC)) λh=>an (fi tg it) λhi=>an (mTg (γ:=γ) (κ:=⟨ycW κ.N sl tg,yZ sc κ.sc,AE,κ.h⟩) ct tg) λhg=>
  an (ye4 (γ:=γ) (κ:=⟨ycW κ.N sl tg,yZ sc κ.sc,AE,κ.h⟩) cc (C.t _) ifs) λht=>an (E.e ⟨ycW κ.N sl tg,yZ sc κ.sc,AE,κ.h⟩ elt) λhe=>ok ⟨λm S X G=>⟨ycW κ.N sl tg,by
   rw[<-G.n,<-G.sc]at h;rw[<-G.n];exact zct h.1,hi m S X G,λj=>zW rfl (hg m S _ (G.comp sc _ j)),λj=>ht m S _ (G.comp sc _ j),λj=>zad rfl (he m S _ (G.comp sc _ j))⟩,h.2.1,h.2.2⟩
def ydz(sl:List (Option Nat))(ct:Tg)(fi:∀tg l,Pr (YI γ κ tg l ci))(C:Ev γ cc)(E:Ev γ ce)(e:AL):Pr (YE γ κ e (.comp sl ct ci cc ce)):=
 match e with
 |.ListComp elt [⟨tg,it,ifs,0⟩] sc _=>hf κ λhκ=>an (mCo sl ct fi C E elt tg it ifs sc) λh=>ok λm S X G=>by
  let⟨NC,h1,h2,h3,h4,h5⟩:=h.q m S X G;exact zh2 (G.calm hκ) h1 h.f h2 h3 h4 h5 (fse h.s)
 |_=>AB
end
section
variable {γ:Gs}{κ:Kx}{ca ce ck cv m:Ce}{ci:Cit}{ct:Tg}
theorem Good.compL{n:Nat}{S:Se}{X:Cx}(G:Good γ κ n S X)(sc:An)(NC:List AM)(own:AG->List (AM×AG))(fn:AM->Bool)(j:CI):Good γ ⟨NC,yZ sc κ.sc,AE,κ.h⟩ n S (cxL X sc NC own fn j):=by
 refine⟨rfl,?_,G.calm,G.room,G.hd,(λh=>nomatch h),(λh=>nomatch h),⟨G.glo.F,G.glo.Q,G.glo.C,G.glo.D,G.glo.E,G.glo.N,G.glo.B,G.glo.T,G.glo.A,G.glo.M,λy D h=>let ⟨fa,fdd,ps,M,d⟩:=G.glo.K y D h;⟨fa,fdd,ps,⟨M.F,M.kp,M.b⟩,d⟩,G.glo.V,G.glo.I,G.glo.L,G.glo.H,G.glo.Z⟩⟩;show relabel sc X.env=_;rw[<-G.sc];rfl
def yde(fb:AM->Bool)(κ:Kx)(i:Nat)(x:AM):Bool:=decide (κ.N[i]?=AA x)&&decide κ.N.Nodup&&yc5 κ.sc x&&(fb x || decide (κ.sc.names.lookup x=AA .local))&&pln x
def zdC{n:Nat}{S:Se}{X:Cx}{fb:AM->Bool}(G:Good γ κ n S X)(hf:∀x,fb x=AC->X.fn x=AC){i:Nat}{x:AM}(h:yde fb κ i x=AC):ycC X i x:=by
 erw[yde,AI,CK,decide_eq_true_eq]at h;let⟨⟨⟨⟨h1,h2⟩,h3⟩,h4⟩,h5⟩:=h;exact⟨by rw[G.n];exact h2,by rw[G.n];exact h1,by rw[G.sc];exact zcb h3,h4.imp (hf x) λh4=>by rw[G.sc];exact h4,h5⟩
def yeq(fb:AM->Bool)(κ:Kx):(l:List Nat)->(es:List AL)->Pr (∀n S X,Good γ κ n S X->(∀x,fb x=AC->X.fn x=AC)->PGs X es (gNs l)/\(assignEach es X.env).length=l.length/\(assignEach es X.env).findIdx? (·.1)=AB)
 |[],[]=>ok λ_ _ _ _ _=>⟨zeY,rfl,rfl⟩
 |i::l,.Name x _::es=>an (ask (yde fb κ i x=AC)) λh=>an (yeq fb κ l es) λhr=>ok λn S X G F=>by
  have s:=zdC G F h;let⟨h1,h2,h3⟩:=hr n S X G F;refine⟨zcI s.d s.i s.l h1 s.f,?_,?_⟩
  .simp only[assignEach,Af,h2]
  .simp only[assignEach,Eh,h3];rfl
 |_,_=>AB
def ycx(fb:AM->Bool)(ct:Tg)(tg:AL):Pr (∀n S X,Good γ κ n S X->(∀x,fb x=AC->X.fn x=AC)->PG X tg (tG S X ct)):=
 match ct,tg with
 |.n i,.Name x _=>an (ask (yde fb κ i x=AC)) λh=>ok λn S X G F=>let s:=zdC G F h;zex s.d s.i s.l s.f
 |.t l,.Tuple es _ _=>hf κ λhκ=>an (yeq fb κ l es) λh=>ok λn S X G F=>zgy (G.calm hκ) (h n S X G F).1 (h n S X G F).2.1 (h n S X G F).2.2
 |_,_=>AB
abbrev YID(γ:Gs)(κ:Kx)(tg l:AL)(c:Cit):Prop:=∀n S X,Good γ κ n S X->∀D,PI X tg l (tID S X c D)
def ydL(e:∀x,Pr (YE γ κ x ca))(tg l:AL):Pr (YID γ κ tg l (.seq ca)):=an (e l) λh=>ok λn S X G D=>zhE (h n S X G)
def yfO(fa:∀x,Pr (YE γ κ x ca))(tg l:AL):Pr (YID γ κ tg l (.range1 ca)):=
 match l with
 |.Call (.Name x _) [a] [] _=>an (ask (x="range"/\glB κ x=AC/\γ.b x=AC/\nst a=AC)) λh=>an (fa a) λha=>ok λn S X G D=>by
  let⟨rfl,h1,h2,h3⟩:=h;exact zde (zo G h1) (G.glo.B _ h2) (ha n S X G) (zcv h3)
 |_=>AB
def zix:∀(l:List (AM×Bg)) (n:Nat) (acc:List (AM×AG)),(l.filter λy=>y.2==.cell)=[]->cellsFrom n l acc=acc
 |[],_,_,_=>rfl
 |(x,k)::l,n,acc,h=>by
  cases e:k==.cell with
  |true=>erw[BV,e,if_true]at h;cases h
  |false=>erw[BV,e]at h;erw[cellsFrom,e];exact zix l n acc h
def zgl{x0:AM}{k0:Bg}:∀(l:List (AM×Bg)) (n:Nat) (acc:List (AM×AG)),(l.filter λy=>y.2==.cell)=[(x0,k0)]->cellsFrom n l acc=(x0,n)::acc
 |[],_,_,h=>nomatch h
 |(x,k)::l,n,acc,h=>by
  cases e:k==.cell with
  |true=>
   erw[BV,e,if_true]at h;injection h with h1 h2
   cases h1
   erw[cellsFrom,e,if_true];exact zix l _ _ h2
  |false=>erw[BV,e]at h;erw[cellsFrom,e];exact zgl l n acc h
def ziJ:∀(l:List (AM×Bg)) (h:Ao),(l.filter λy=>y.2==.cell)=[]->pushCells h l=h
 |[],_,_=>rfl
 |(x,k)::l,n,h=>by
  cases e:k==.cell with
  |true=>erw[BV,e,if_true]at h;cases h
  |false=>erw[BV,e]at h;erw[pushCells,e];exact ziJ l n h
def zgx{x0:AM}{k0:Bg}:∀(l:List (AM×Bg)) (h:Ao),(l.filter λy=>y.2==.cell)=[(x0,k0)]->pushCells h l=h.push {cls:=.type "cell",data:=.cell AB}
 |[],_,h=>nomatch h
 |(x,k)::l,n,h=>by
  cases e:k==.cell with
  |true=>
   erw[BV,e,if_true]at h;injection h with h1 h2;erw[pushCells,e,if_true];exact ziJ l _ h2
  |false=>erw[BV,e]at h;erw[pushCells,e];exact zgx l n h
def ybp(N:List AM)(so sc:An)(NC:List AM)(sl:List (Option Nat))(x0:AM):Bool:=
 decide (sc.kind=.function)&&(sc.names.all λy=>y.2 != .local || decide (sc.names.lookup y.1=AA .local))&&decide ((sc.names.filter λy=>y.2==.cell)=[(x0,.cell)])&&(sc.names.all λy=>y.2 != .free || (decide (so.names.lookup y.1=AA .cell)&&!(y.1==x0))) &&
  ((NC.zip sl).all λp=>p.2.all λj=>decide (N[j]?=AA p.1/\sc.names.lookup p.1=AA .free))&&decide (sl.length=NC.length)
def zfd{X:Cx}{sc:An}{NC:List AM}{sl:List (Option Nat)}{x0:AM}(h:ybp X.N X.env.scope sc NC sl x0=AC):yM X sc NC sl x0:=by
 erw[ybp,AI,decide_eq_true_eq,Ah,CK,bne_iff_ne,ne_eq,BG]at h;let⟨⟨⟨⟨⟨h1,h2⟩,h3⟩,h4⟩,h5⟩,h6⟩:=h;refine zlc _ _ rfl rfl h1 (λy hy e=>(h2 y hy).resolve_left λz=>z e) (λy hy e=>?_) (λy hy e=>((h4 y hy).resolve_left λz=>z e).2) (λn acc=>zgl _ n acc h3) (λg=>zgx _ g h3) (λy hy e=>((h4 y hy).resolve_left λz=>z e).1) (λp hp=>by simpa using h5 p hp) h6;have q:y∈sc.names.filter λy=>y.2==.cell:=EA.2 ⟨hy,by rw[e];rfl⟩;rw[h3]at q;rw[C7.1 q]
structure ye9(γ:Gs)(κ:Kx)(sc:An)(NC:List AM)(sl:List (Option Nat))(fb:AM->Bool):Prop where
 q:∀n S X,Good γ κ n S X->∃own fn,ybe X sc NC sl own fn/\∀x,fb x=AC->fn x=AC
def yaK(sc:An):Option Str:=(sc.names.find? λy=>y.2==.cell).map (·.1)
def ydn(sc:An)(NC:List AM)(sl:List (Option Nat)):(o:Option AM)->Pr (ye9 γ κ sc NC sl λx=>o==AA x)
 |none=>an (ask (yQ κ.N κ.sc sc NC sl=AC)) λh=>ok ⟨λn S X G=>⟨_,_,(zct (by rw[<-G.n,<-G.sc]at h;exact h)).blk,λx z=>by cases z⟩⟩
 |some x0=>an (ask (ybp κ.N κ.sc sc NC sl x0=AC)) λh=>ok ⟨λn S X G=>⟨_,_,(zfd (by rw[<-G.n,<-G.sc]at h;exact h)).blk,λx z=>by
  have e:AA x0=AA x:=eq_of_beq z
  cases e
  exact beq_self_eq_true x0⟩⟩
def ncL(N:List AM)(sl:List (Option Nat))(own:List AM):List Str:=own++(sl.drop own.length).filterMap λo=>o.bind λj=>N[j]?
def ydI(sl:List (Option Nat))(ct ct2:Tg){ci2:Cit}(fi:∀tg l,Pr (YI γ κ tg l ci))(fi2:∀κ tg l,Pr (YID γ κ tg l ci2))(E:Ev γ ce)(e:AL):Pr (YE γ κ e (.cmq sl ct ci (.emq ct2 ci2 (.tup (.cons ce .nil))))):=
 match e with
 |.ListComp elt [⟨tg,it,[],0⟩,⟨tg2,it2,[],0⟩] sc _=>hf κ λhκ=>an (ask (yr ct sl=AC/\nse it=AC/\nse it2=AC)) λh=>
  an (ydn (κ:=κ) sc (ncL κ.N sl (tgN tg++tgN tg2)) sl (yaK sc)) λhB=>an (fi tg it) λhi=>an (ycx (κ:=⟨ncL κ.N sl (tgN tg++tgN tg2),yZ sc κ.sc,AE,κ.h⟩) (λx=>yaK sc==AA x) ct tg) λhg=>an (ycx (κ:=⟨ncL κ.N sl (tgN tg++tgN tg2),yZ sc κ.sc,AE,κ.h⟩) (λx=>yaK sc==AA x) ct2 tg2) λhg2=>
  an (fi2 ⟨ncL κ.N sl (tgN tg++tgN tg2),yZ sc κ.sc,AE,κ.h⟩ tg2 it2) λhi2=>an (E.e ⟨ncL κ.N sl (tgN tg++tgN tg2),yZ sc κ.sc,AE,κ.h⟩ elt) λhe=>ok λn S X G=>by
   let⟨own,fn,O,hfn⟩:=hB.q n S X G;have GC:=λj=>G.compL sc (ncL κ.N sl (tgN tg++tgN tg2)) own fn j;exact(zc0 (em:=λD env=>nextM it2 (.ListComp elt [⟨tg,it,[],0⟩,⟨tg2,it2,[],0⟩] sc _) 1 (.ref D) env) (G.calm hκ) O (λj D=>zbv) (hi n S X G) (λj=>zW rfl (hg n S _ (GC j) hfn)) (λj=>zaC)
    (λj D=>zcl (Y:=cxL X sc (ncL κ.N sl (tgN tg++tgN tg2)) own fn j) rfl (G.calm hκ) zdX (hi2 n S _ (GC j) D) (zW rfl (hg2 n S _ (GC j) hfn)) (zfa (zad rfl (he n S _ (GC j)))) (fse h.2.2)) (fse h.2.1)).imp λσ H Q q=>zaQ h.1 q
 |_=>AB
def yd1(sl:List (Option Nat))(ct ct2 ct3:Tg){ci2 ci3:Cit}(fi:∀tg l,Pr (YI γ κ tg l ci))(fi2:∀κ tg l,Pr (YID γ κ tg l ci2))(fi3:∀κ tg l,Pr (YID γ κ tg l ci3))(E:Ev γ ce)(e:AL):Pr (YE γ κ e (.cmq sl ct ci (.emq ct2 ci2 (.emq ct3 ci3 (.tup (.cons ce .nil)))))):=
 match e with
 |.ListComp elt [⟨tg,it,[],0⟩,⟨tg2,it2,[],0⟩,⟨tg3,it3,[],0⟩] sc _=>hf κ λhκ=>an (ask (yr ct sl=AC/\nse it=AC/\nse it2=AC/\nse it3=AC)) λh=>
  an (ydn (κ:=κ) sc (ncL κ.N sl (tgN tg++(tgN tg2++tgN tg3))) sl (yaK sc)) λhB=>an (fi tg it) λhi=>an (ycx (κ:=⟨ncL κ.N sl (tgN tg++(tgN tg2++tgN tg3)),yZ sc κ.sc,AE,κ.h⟩) (λx=>yaK sc==AA x) ct tg) λhg=>an (ycx (κ:=⟨ncL κ.N sl (tgN tg++(tgN tg2++tgN tg3)),yZ sc κ.sc,AE,κ.h⟩) (λx=>yaK sc==AA x) ct2 tg2) λhg2=>an (ycx (κ:=⟨ncL κ.N sl (tgN tg++(tgN tg2++tgN tg3)),yZ sc κ.sc,AE,κ.h⟩) (λx=>yaK sc==AA x) ct3 tg3) λhg3=>
  an (fi2 ⟨ncL κ.N sl (tgN tg++(tgN tg2++tgN tg3)),yZ sc κ.sc,AE,κ.h⟩ tg2 it2) λhi2=>an (fi3 ⟨ncL κ.N sl (tgN tg++(tgN tg2++tgN tg3)),yZ sc κ.sc,AE,κ.h⟩ tg3 it3) λhi3=>an (E.e ⟨ncL κ.N sl (tgN tg++(tgN tg2++tgN tg3)),yZ sc κ.sc,AE,κ.h⟩ elt) λhe=>ok λn S X G=>by
   let⟨own,fn,O,hfn⟩:=hB.q n S X G;have GC:=λj=>G.compL sc (ncL κ.N sl (tgN tg++(tgN tg2++tgN tg3))) own fn j;exact(zc0 (em:=λD env=>nextM it2 (.ListComp elt [⟨tg,it,[],0⟩,⟨tg2,it2,[],0⟩,⟨tg3,it3,[],0⟩] sc _) 1 (.ref D) env) (G.calm hκ) O (λj D=>zbv) (hi n S X G) (λj=>zW rfl (hg n S _ (GC j) hfn)) (λj=>zaC)
    (λj D=>zcl (Y:=cxL X sc (ncL κ.N sl (tgN tg++(tgN tg2++tgN tg3))) own fn j) rfl (G.calm hκ) zfe (hi2 n S _ (GC j) D) (zW rfl (hg2 n S _ (GC j) hfn))
     (zcl (Y:=cxL X sc (ncL κ.N sl (tgN tg++(tgN tg2++tgN tg3))) own fn j) rfl (G.calm hκ) zes (hi3 n S _ (GC j) D) (zW rfl (hg3 n S _ (GC j) hfn)) (zfa (zad rfl (he n S _ (GC j)))) (fse h.2.2.2)) (fse h.2.2.1)) (fse h.2.1)).imp λσ H Q q=>zaQ h.1 q
 |_=>AB
def yfH(sl:List (Option Nat))(ct:Tg)(fi:∀tg l,Pr (YI γ κ tg l ci))(Ek:Ev γ ck)(Ew:Ev γ cv)(e:AL):Pr (YE γ κ e (.dcm sl ct ci ck cv)):=
 match e with
 |.DictComp kx vx [⟨tg,it,[],0⟩] sc _=>hf κ λhκ=>an (ask (yr ct sl=AC/\nse it=AC)) λh=>
  an (ydn (κ:=κ) sc (ncL κ.N sl (tgN tg)) sl (yaK sc)) λhB=>an (fi tg it) λhi=>an (ycx (κ:=⟨ncL κ.N sl (tgN tg),yZ sc κ.sc,AE,κ.h⟩) (λx=>yaK sc==AA x) ct tg) λhg=>
  an (Ek.e ⟨ncL κ.N sl (tgN tg),yZ sc κ.sc,AE,κ.h⟩ kx) λhk=>an (Ew.e ⟨ncL κ.N sl (tgN tg),yZ sc κ.sc,AE,κ.h⟩ vx) λhv=>ok λn S X G=>by
   let⟨own,fn,O,hfn⟩:=hB.q n S X G;have GC:=λj=>G.compL sc (ncL κ.N sl (tgN tg)) own fn j;exact(zge (em:=λD env=>do
    let kv <-eval kx env
    let vv <-holding [kv] (eval vx env)
    standAt {kx.pos with endLine:=vx.pos.endLine,endCol:=vx.pos.endCol}
    holding [kv,vv] (dictSet D kv vv)) (G.calm hκ) O (λj D=>zfX) (hi n S X G) (λj=>zW rfl (hg n S _ (GC j) hfn)) (λj=>zaC)
    (λj D=>zi5 (Y:=cxL X sc (ncL κ.N sl (tgN tg)) own fn j) (zhN G.room) (zad rfl (hk n S _ (GC j))) (zad rfl (hv n S _ (GC j)))) (fse h.2)).imp λσ H Q q=>zdr h.1 q
 |_=>AB
end
section
variable {γ:Gs}{κ:Kx}
end
section
variable {γ:Gs}{κ:Kx}
end
mutual
noncomputable def ch(γ:Gs):(c:Ce)->Ev γ c
 |.cst v=>plain λκ x=>yf2 v x
 |.var i=>plain λκ x=>ygp i x
 |.bin o a b=>plain λκ x=>yfZ o x ((ch γ a).e κ) ((ch γ b).e κ)
 |.not a=>ybI (λκ x=>yfl x ((ch γ a).e κ)) (ygv (ch γ a))
 |.and a b=>ydy (ch γ a) (ch γ b)
 |.or a b=>yfM (ch γ a) (ch γ b)
 |.cmp o a b=>ybI (λκ x=>yfJ o x ((ch γ a).e κ) ((ch γ b).e κ)) (λκ x=>ydS o x ((ch γ a).e κ) ((ch γ b).e κ))
 |.ite c a b=>plain λκ x=>yf0 x ((ch γ c).t κ) ((ch γ a).e κ) ((ch γ b).e κ)
 |.tup es=>plain λκ x=>ygf x (yaQ (chs γ es κ))
 |.lst es=>plain λκ x=>yf9 x (yaQ (chs γ es κ))
 |.newl es=>plain λκ x=>ydu x (yaQ (chs γ es κ))
 |.cmq sl t it (.emq t2 it2 (.tup (.cons e .nil)))=>plain λκ x=>ydI sl t t2 (chi γ it κ) (chd γ it2) (ch γ e) x
 |.cmq sl t it (.emq t2 it2 (.emq t3 it3 (.tup (.cons e .nil))))=>plain λκ x=>yd1 sl t t2 t3 (chi γ it κ) (chd γ it2) (chd γ it3) (ch γ e) x
 |.dcm sl t it k v=>plain λκ x=>yfH sl t (chi γ it κ) (ch γ k) (ch γ v) x
 |.dsub ks es i=>plain λκ x=>ydN ks (chs γ es κ) x ((ch γ i).e κ)
 |.nel a b=>ybI (λ_ _=>AB) (λκ x=>yee x ((ch γ a).e κ) ((ch γ b).e κ))
 |.idx a i=>plain λκ x=>mIdx x ((ch γ a).e κ) ((ch γ i).e κ)
 |.dgt a i=>plain λκ x=>ygr x ((ch γ a).e κ) ((ch γ i).e κ)
 |.slc a l h=>plain λκ x=>yfT x ((ch γ a).e κ) (λo=>yeo l o ((ch γ l).e κ)) (λo=>yeo h o ((ch γ h).e κ))
 |.call f es=>plain λκ x=>hf κ λh=>ygc h f (chs γ es κ) x
 |.fst es=>plain λκ x=>yf6 (chs γ es κ) x
 |.nin a b=>ybI (λκ x=>yfG x ((ch γ a).e κ) ((ch γ b).e κ)) (λκ x=>ydH x ((ch γ a).e κ) ((ch γ b).e κ))
 |.thw (.blt .list (.cons a .nil))=>plain λκ x=>ye3 x ((ch γ a).e κ)
 |.blt b es=>plain λκ x=>yfu b (chs γ es κ) x
 |.mth k o es=>plain λκ x=>yf3 k (chs γ es κ) x ((ch γ o).e κ)
 |.isi a ts=>plain λκ x=>yfg ts x ((ch γ a).e κ)
 |.comp sl tg it c e=>plain λκ x=>ydz sl tg (chi γ it κ) (ch γ c) (ch γ e) x
 |.frz a=>plain λκ x=>an ((ch γ a).e κ x) λh=>ok λm S X G=>zjI (h m S X G)
 |_=>plain λ_ _=>AB
noncomputable def chs(γ:Gs):(cs:Ces)->(κ:Kx)->Fs γ κ cs
 |.nil,_=>.nil
 |.cons c cs,κ=>.cons (λx=>(ch γ c).e κ x) (chs γ cs κ)
noncomputable def chd(γ:Gs):(c:Cit)->(κ:Kx)->∀tg l,Pr (YID γ κ tg l c)
 |.seq a,κ=>ydL ((ch γ a).e κ)
 |.range1 a,κ=>yfO ((ch γ a).e κ)
 |_,_=>λ_ _=>AB
noncomputable def chi(γ:Gs):(c:Cit)->(κ:Kx)->∀tg l,Pr (YI γ κ tg l c)
 |.seq a,κ=>yfv ((ch γ a).e κ)
 |.range1 a,κ=>iR1 ((ch γ a).e κ)
 |.enum a,κ=>yej ((ch γ a).e κ)
 |_,_=>λ_ _=>AB
end
section
variable {γ:Gs}{κ:Kx}{ca cb cc ce:Ce}{ci:Cit}{ct:Tg}{cs cs':Css}{ces:Ces}
def swB(so:An)(x:AM)(px pos:BX)(sc:An):Bool:=(if so.kind.isAnnotationScope then DY else so.kind)==.function&&so.names.lookup x==AA .local&&px.line==pos.line&&!(sc.names.any λ(n,k)=>n==x&&(k==.local || k==.cell))
def zkU{elt:AL}{gs:List Bz}{sc:An}{pos px:BX}{x:AM}{l:Nat}{env:BC}:swapsWith (.ListComp elt gs sc pos) (AA (.Name x px)) l env=pure (swB env.scope x px pos sc):=rfl
def ydA(f:∀x,Pr (YE γ κ x ca))(s:B8):Pr (YS γ κ s (.expr ca)):=
 match s with
 |.Expr a _=>an (ask (nco a=AC)) λhs=>an (f a) λh=>ok λm S X G=>zgS (h m S X G) (swp hs)
 |_=>AB
def yf5(i:Nat)(f:∀x,Pr (YE γ κ x ca))(s:B8):Pr (YS γ κ s (.asg (.n i) ca)):=
 match s with
 |.Assign [.Name x _] a _=>an (ask (nco a=AC/\setB κ i x=AC)) λhs=>an (f a) λh=>ok λm S X G=>let q:=zF G hs.2;zjn q.d q.i q.l (h m S X G) (swp hs.1) q.f
 |_=>AB
def ydF(i:Nat)(sl:List (Option Nat))(ct:Tg)(fi:∀tg l,Pr (YI γ κ tg l ci))(C:Ev γ cc)(E:Ev γ ce)(s:B8):Pr (YS γ κ s (.asg (.n i) (.comp sl ct ci cc ce))):=
 match s with
 |.Assign [.Name x px] (.ListComp elt [⟨tg,it,ifs,0⟩] sc p) _=>hf κ λhκ=>an (ask (setB κ i x=AC/\swB κ.sc x px p sc=AC)) λhs=>an (mCo sl ct fi C E elt tg it ifs sc) λh=>ok λm S X G=>by
  let⟨NC,h1,h2,h3,h4,h5⟩:=h.q m S X G;have q:=zF G hs.1;exact zhQ q.d q.i q.l (G.calm hκ) h1 h.f h2 h3 h4 h5 (by rw[zkU,G.sc,hs.2]) (fse h.s) q.f
 |_=>AB
def ycF(i:Nat)(sl:List (Option Nat))(ct:Tg)(fi:∀tg l,Pr (YI γ κ tg l ci))(C:Ev γ cc)(E:Ev γ ce)(s:B8):Pr (YS γ κ s (.asg (.n i) (.thw (.comp sl ct ci cc ce)))):=
 match s with
 |.Assign [.Name x px] (.ListComp elt [⟨tg,it,ifs,0⟩] sc p) _=>hf κ λhκ=>an (ask (setB κ i x=AC/\swB κ.sc x px p sc=AC)) λhs=>an (mCo sl ct fi C E elt tg it ifs sc) λh=>ok λm S X G=>by
  let⟨NC,h1,h2,h3,h4,h5⟩:=h.q m S X G;have q:=zF G hs.1;exact zfC q.d q.i q.l (G.calm hκ) h1 h.f h2 h3 h4 h5 (by rw[zkU,G.sc,hs.2]) (fse h.s) q.f
 |_=>AB
def zkV{a:AL}(h:nst a=AC):(match (generalizing:=false) a with | .Starred _ _=>AC|_=>AE)=false:=by
 revert h;cases a<;>intro h<;>first|rfl|cases h
def swD(so:An)(x y:AM)(px py:BX)(a b:AL):Bool:=(if so.kind.isAnnotationScope then DY else so.kind)==.function&&so.names.lookup x==AA .local&&so.names.lookup y==AA .local&&py.line==px.line&&nst a&&nst b&&!(x==y)&&!(foldedForSure 8 a&&foldedForSure 8 b)&&!(constantsAlone 8 a&&constantsAlone 8 b)
def zld{x y:AM}{px py pt pt2:BX}{kt k2:Nat}{a b:AL}{env:BC}(h:swD env.scope x y px py a b=AC):
  swappedStores [.Tuple [.Name x px,.Name y py] kt pt] (.Tuple [a,b] k2 pt2) env=pure (AA [x,y]):=by
 erw[swD,AI,BG]at h;let⟨⟨⟨⟨⟨⟨⟨⟨h1,h2⟩,h3⟩,h4⟩,h5⟩,h6⟩,h7⟩,h8⟩,h9⟩:=h;have k1:(env.blockKind != .function)=false:=by
  show (!((if env.scope.kind.isAnnotationScope then DY else env.scope.kind)==.function))=AE;rw[h1];rfl
 have k2:env.kindOf x=AA .local:=eq_of_beq h2;have k3:env.kindOf y=AA .local:=eq_of_beq h3;have k4:py.line=px.line:=eq_of_beq h4;have k7:¬y=x:=λz=>by subst z;simp at h7
 have m1:=zkV h5;have m2:=zkV h6;have c8:¬(foldedForSure 8 a=AC/\foldedForSure 8 b=AC):=λz=>by rw[z.1,z.2]at h8;cases h8
 have c9:¬(constantsAlone 8 a=AC/\constantsAlone 8 b=AC):=λz=>by rw[z.1,z.2]at h9;cases h9
 have x1:(Expr.Name x px).pos=px:=rfl;have x2:(Expr.Name y py).pos=py:=rfl;unfold swappedStores;simp[k1,m1,m2,k2,k3,k4,List.eraseDups_cons,k7,x1,x2,c8,c9,CA];intro z;exfalso;rcases z with z|z
 .exact AX (m1.symm.trans z)
 .exact AX (m2.symm.trans z)
def yfY(i j:Nat)(fa:∀x,Pr (YE γ κ x ca))(fb:∀x,Pr (YE γ κ x cb))(s:B8):Pr (YS γ κ s (.asg (.t [i,j]) (.tup (.cons ca (.cons cb .nil))))):=
 match s with
 |.Assign [.Tuple [.Name x px,.Name y py] _ _] (.Tuple [a,b] _ _) _=>hf κ λhκ=>an (ask (setB κ i x=AC/\setB κ j y=AC/\i≠j/\swD κ.sc x y px py a b=AC)) λh=>an (fa a) λha=>an (fb b) λhb=>ok λm S X G=>by
  let⟨h1,h2,h3,h4⟩:=h;have q:=zF G h1;have r:=zF G h2;have h5:=h4;erw[swD,AI]at h5;have e1:X.env.scope.names.lookup x=AA .local:=by rw[G.sc];exact eq_of_beq h5.1.1.1.1.1.1.1.2
  have e2:X.env.scope.names.lookup y=AA .local:=by rw[G.sc];exact eq_of_beq h5.1.1.1.1.1.1.2
  exact ziZ (G.calm hκ) q.d q.i r.i h3 (zjz (G.calm hκ) q.d q.i r.i h3 e1 e2 (zS (ha m S X G) (zS (hb m S X G) za1 (zcv h5.1.1.1.2)) (zcv h5.1.1.1.1.2)) (zld (by rw[G.sc];exact h4)))
 |_=>AB
theorem sw0{es:List AL}{k:Nat}{p:BX}{a:AL}{env:BC}(h:ntu a=AC):swappedStores [.Tuple es k p] a env=pure none:=by
 cases a<;>first|rfl|cases h
theorem sw1{b c:AL}{p:BX}{a:AL}{env:BC}:swappedStores [.Subscript b c p] a env=pure none:=by
 cases a<;>rfl
def zkW{t a:AL}{l:Nat}{env:BC}(h:nco a=AC):swapsWithSole [t] a l env=pure false:=by
 show swapsWith a (AA t) l env=_;exact swp h
theorem asS{b c:AL}{pos:BX}{env:BC}(h:nsl c=AC):∀v,assign (.Subscript b c pos) env v=(do
   let ov <-holding [v] (eval b env)
   let iv <-holding [v,ov] (eval c env)
   standAt pos
   holding [v,ov,iv] (setItem ov iv v)
   release [v,ov,iv] []):=by
 cases c<;>first|exact λ_=>rfl|cases h
def ygs(l:List Nat)(f:∀x,Pr (YE γ κ x ca))(s:B8):Pr (YS γ κ s (.asg (.t l) ca)):=
 match s with
 |.Assign [.Tuple es k p] a _=>an (ask (nco a=AC/\ntu a=AC)) λhs=>an (mTg (γ:=γ) (κ:=κ) (.t l) (.Tuple es k p)) λhg=>an (f a) λh=>ok λm S X G=>zg3 (h m S X G) (hg m S X G) (zkW hs.1) (sw0 hs.2)
 |_=>AB
def yft(f:∀x,Pr (YE γ κ x cc))(fo:∀x,Pr (YE γ κ x ca))(fi:∀x,Pr (YE γ κ x cb))(s:B8):Pr (YS γ κ s (.six ca cb cc)):=
 match s with
 |.Assign [.Subscript b c _] a _=>an (ask (nco a=AC/\nsl c=AC)) λhs=>an (f a) λh=>an (fo b) λho=>an (fi c) λhi=>ok λm S X G=>zis (h m S X G) (ho m S X G) (hi m S X G) (zkW hs.1) sw1 (zgO (ho m S X G) (hi m S X G) zcw (asS hs.2))
 |_=>AB
def ygo(op:Db)(o:BOp):Pr (∀S X,PIp X op (rT2 S X (yba o))):=
 match op,o with
 |.Add,.add=>ok λ_ _=>zhA
 |_,_=>AB
def yfd(i:Nat)(o:BOp)(f:∀x,Pr (YE γ κ x ca))(s:B8):Pr (YS γ κ s (.aug i o ca)):=
 match s with
 |.AugAssign (.Name x _) op a _=>an (ask (setB κ i x=AC)) λh=>an (ygo op o) λhp=>an (f a) λha=>ok λm S X G=>let q:=zF G h;zjg q.d q.i q.l (ha m S X G) (hp S X) q.f (zkC q.p) (zkN q.p)
 |_=>AB
def ygu(c:Ce)(f:∀x,Pr (YE γ κ x c))(s:B8):Pr (YS γ κ s (.ret c)):=
 match s with
 |.Return (AA a) _=>an (f a) λh=>ok λm S X G=>zic (h m S X G)
 |.Return AB _=>match c with
  |.cst .non=>ok λ_ _ _ _=>zgV
  |_=>AB
 |_=>AB
def sIf(fc:∀x,Pr (YT γ κ x cc))(fa:∀x,Pr (YSs γ κ x cs))(fb:∀x,Pr (YSs γ κ x cs'))(s:B8):Pr (YS γ κ s (.ite cc cs cs')):=
 match s with
 |.If c a b _=>an (fc c) λhc=>an (fa a) λha=>an (fb b) λhb=>ok λm S X G=>zkf (hc m S X G) (ha m S X G) (hb m S X G)
 |_=>AB
def yga(ct:Tg)(fi:∀tg l,Pr (YI γ κ tg l ci))(fb:∀x,Pr (YSs γ κ x cs))(s:B8):Pr (YS γ κ s (.for ct ci cs)):=
 match s with
 |.For tg l b [] _=>hf κ λhκ=>an (ask (κ.own=AC/\nse l=AC)) λho=>an (fi tg l) λhi=>an (mTg (γ:=γ) (κ:=κ) ct tg) λhg=>an (fb b) λhb=>ok λm S X G=>zjA (G.own ho.1).1 (G.calm hκ) (hi m S X G) (hg m S X G) (hb m S X G) (fse ho.2)
 |_=>AB
def yds(ct:Tg)(fa:∀x,Pr (YE γ κ x ca))(fb:∀x,Pr (YSs γ κ x cs))(s:B8):Pr (YS γ κ s (.forl ct ca cs)):=
 match s with
 |.For tg l b [] _=>hf κ λhκ=>an (ask (κ.own=AC/\nse l=AC)) λho=>an (fa l) λha=>an (mTg (γ:=γ) (κ:=κ) ct tg) λhg=>an (fb b) λhb=>ok λm S X G=>zh6 (G.own ho.1).1 (G.calm hκ) (ha m S X G) (hg m S X G) (hb m S X G) (fse ho.2)
 |_=>AB
def sWh(fc:∀x,Pr (YT γ κ x cc))(fb:∀x,Pr (YSs γ κ x cs))(s:B8):Pr (YS γ κ s (.while cc cs)):=
 match s with
 |.While c b [] _=>an (ask (κ.own=AC)) λho=>an (fc c) λhc=>an (fb b) λhb=>ok λm S X G=>zfS (G.own ho).1 (hc m S X G) (hb m S X G)
 |_=>AB
def ygb(k:Nat)(f:∀x,Pr (YE γ κ x ca))(s:B8):Pr (YS γ κ s (.raise k ca)):=
 match s with
 |.Raise (AA (.Call (.Name x _) [a] [] _)) AB _=>hf κ λhκ=>match hx:γ.g x with
  |some (.exc c)=>an (ask (c=k/\κ.own=AC/\glB κ x=AC/\nst a=AC)) λh=>an (f a) λha=>ok λm S X G=>by
   let⟨rfl,h1,h2,h3⟩:=h;exact zf8 (G.glo.E x c hx) (G.own h1).2.2 (G.calm hκ) (zo G h2) (ha m S X G) (zcv h3) rfl (zkC (z6 h2))
  |_=>AB
 |_=>AB
def yfU(hκ:κ.h=AE)(ix:Nat)(D:List (AM×Nat)){cn:Ce}{ces:Ces}(fn:∀x,Pr (YE γ κ x cn))(F:Fs γ κ ces)(ss:List B8):Pr (YSs γ κ ss (.cons (.mkr ix D cn ces) .nil)):=
 match ss with
 |[.Assign [.Name x _] (.Subscript (.Name y _) n _) _,.Return (AA (.Call (.Name x' _) (e::es) [] _)) _]=>match hy:γ.mr y with
  |some E=>an (ask (E=D/\x'=x/\setB κ ix x=AC/\ydd κ.sc x=AC/\glB κ y=AC/\nsl n=AC/\nst e=AC/\ycs es=AC)) λh=>an (fn n) λhn=>an (yaQ F (e::es)) λha=>ok λm S X G=>by
   let⟨rfl,rfl,h1,h2,h3,h4,h5,h6⟩:=h;have q:=zF G h1;let⟨fa,fdd,ps,M,d⟩:=G.glo.K y E hy;exact zjj M ((G.rm hκ).mono (C9 m)) q.d q.i q.l (by rw[G.sc];exact zek h2) (zo G h3) d (hn m S X G) (ha m S X G) (nos h4) (swp rfl) q.f (zkC (z6 h3)) (zkC q.p) (zkN q.p) (zcv h5) (stars h6)
  |none=>AB
 |_=>AB
end
mutual
noncomputable def chS(γ:Gs):(c:Cs)->(κ:Kx)->∀s,Pr (YS γ κ s c)
 |.expr e,κ=>ydA ((ch γ e).e κ)
 |.asg (.n i) (.comp sl ct ci cc ce),κ=>ydF i sl ct (chi γ ci κ) (ch γ cc) (ch γ ce)
 |.asg (.n i) (.thw (.comp sl ct ci cc ce)),κ=>ycF i sl ct (chi γ ci κ) (ch γ cc) (ch γ ce)
 |.asg (.n i) c,κ=>yf5 i ((ch γ c).e κ)
 |.asg (.t [i,j]) (.tup (.cons a (.cons b .nil))),κ=>yfY i j ((ch γ a).e κ) ((ch γ b).e κ)
 |.asg (.t l) c,κ=>ygs l ((ch γ c).e κ)
 |.six o i e,κ=>yft ((ch γ e).e κ) ((ch γ o).e κ) ((ch γ i).e κ)
 |.aug i o e,κ=>yfd i o ((ch γ e).e κ)
 |.ret e,κ=>ygu e ((ch γ e).e κ)
 |.ite c a b,κ=>sIf ((ch γ c).t κ) (yb5 γ a κ) (yb5 γ b κ)
 |.for t it b,κ=>yga t (chi γ it κ) (yb5 γ b κ)
 |.forl t a b,κ=>yds t ((ch γ a).e κ) (yb5 γ b κ)
 |.while c b,κ=>sWh ((ch γ c).t κ) (yb5 γ b κ)
 |.raise k e,κ=>ygb k ((ch γ e).e κ)
 |_,_=>λ_=>AB
noncomputable def yb5(γ:Gs):(c:Css)->(κ:Kx)->∀s,Pr (YSs γ κ s c)
 |.nil,_,[]=>ok λ_ _ _ _=>zjd
 |.cons (.mkr ix D cn ces) .nil,κ,ss=>hf κ λh=>yfU h ix D ((ch γ cn).e κ) (chs γ ces κ) ss
 |.cons c cs,κ,s::ss=>an (chS γ c κ s) λh=>an (yb5 γ cs κ ss) λhr=>ok λm S X G=>zhe (h m S X G) (hr m S X G)
 |_,_,_=>AB
end
inductive Dk where
 |fn|fd (ds:List Int)|me (c:Nat)|ini (c:Nat)
structure Df where
 gn:AM
 nm:AM
 q:AM
 st:B8
 N:List AM
 ps:List AM
 fn:IC.Fn
 k:Dk
def scB(N P:List AM)(sc:An):Bool:=decide (sc.kind=.function)&&!sc.isCoroutine&&!sc.isGenerator&&decide N.Nodup&&decide (N.take P.length=P)&&P.all (yc5 sc)&&sc.names.all λy=>y.2 != .free
def zgp{N P:List AM}{sc:An}(h:scB N P sc=AC):yam N P sc:=by
 erw[scB,AI,decide_eq_true_eq,BG,Ah,bne_iff_ne,ne_eq]at h;let⟨⟨⟨⟨⟨⟨h1,h2⟩,h3⟩,h4⟩,h5⟩,h6⟩,h7⟩:=h;exact⟨h1,h2,h3,h4,h5,λx hx=>zcb (h6 x hx),h7⟩
def okD(γ:Gs)(d:Df):Bool:=scB d.N d.ps (yg d.st)&&decide (d.ps.length=d.fn.np)&&decide (d.N.length=d.fn.ns)&&(yb5 γ d.fn.body ⟨d.N,yg d.st,AC,AE⟩ (yI d.st)).isSome
def ybn{α:Type}(P:α->Prop):List α->Prop
 |[]=>True
 |d::r=>P d/\ybn P r
theorem ybn.get{α:Type}{P:α->Prop}:∀{l:List α},ybn P l->∀d∈l,P d
 |_::_,h,d,hd=>by
  rcases A8.1 hd with rfl|hd
  .exact h.1
  .exact h.2.get d hd
def ya9:List AM->(List AF->Prop)->Prop
 |[],P=>P []
 |_::r,P=>∀a,ya9 r λus=>P (a::us)
theorem ya9.get:∀{ps:List AM} {P:List AF->Prop},ya9 ps P->∀us,us.length=ps.length->P us
 |[],P,h,[],_=>h
 |_::r,P,h,a::us,e=>(h a).get us (by simpa using e)
def yaN(d:Df):Prop:=∀(kV doc pm:AF) (an:Option AG) (cdv ct:AF),ya9 d.ps λus=>bindArgs (BM d.nm d.q (yU d.st) (yI d.st) (yg d.st) .none kV doc pm an cdv ct) ⟨us,[]⟩=pure (d.ps.zip us)
structure ybM(K:AD)(d:Df)(dv:AF)(f:AG)(fd:Al):Prop where
 ex:∃(oc:AF) (od:Option AG) (kV doc pm:AF) (an:Option AG) (cdv ct:AF) (osl:Array (Option AF)),
  fd=BM d.nm d.q (yU d.st) (yI d.st) (yg d.st) dv kV doc pm an cdv ct/\K.lookup f=AA ⟨oc,od,.func fd,osl⟩/\Bi K cdv d.q=AC
 kp:Ad K (.ref f)=AC
def At(K:AD)(cn:Nat->AM)(d:Df)(f:AG):Prop:=
 match d.k with
 |.fn=>Av K mainGlobals d.gn=AA (AA (.ref f))/\yaN d
 |.fd _=>Av K mainGlobals d.gn=AA (AA (.ref f))
 |.me c=>yaN d/\∃q,Av K mainGlobals (cn c)=AA (AA (.ref q))/\Aj K (.ref q) d.nm=AA (AA (.ref f))/\Cc K (.ref f)=AC
 |.ini c=>yaN d/\∃q,Av K mainGlobals (cn c)=AA (AA (.ref q))/\Aj K (.ref q) d.nm=AA (AA (.ref f))/\Cc K (.ref f)=AC/\EB K q=AC/\Ad K (.ref q)=AC
def DvP(K:AD)(d:Df)(dv:AF):Prop:=
 match d.k with
 |.fd ds=>∃dT o its n,dv=.ref dT/\K.lookup dT=AA o/\o.data=.seq its n/\Vals (ds.map V.int) its.toList
 |_=>dv=.none
def ycu(K:AD)(cn:Nat->AM)(d:Df):Prop:=∃dv f fd,ybM K d dv f fd/\At K cn d f/\DvP K d dv
section
variable {K:AD}{cn:Nat->AM}{gn nm:AM}{st:B8}{N ps:List AM}{fn:IC.Fn}{f:AG}{oc:AF}{od:Option AG}{kV doc pm:AF}{an:Option AG}{cdv ct:AF}{osl:Array (Option AF)}
theorem rowFn(a:Av K mainGlobals gn=AA (AA (.ref f)))(l:K.lookup f=AA ⟨oc,od,.func (BM nm nm (yU st) (yI st) (yg st) .none kV doc pm an cdv ct),osl⟩)
  (c:Bi K cdv nm=AC) (p:Ad K (.ref f)=AC) (b:yaN ⟨gn,nm,nm,st,N,ps,fn,.fn⟩):ycu K cn ⟨gn,nm,nm,st,N,ps,fn,.fn⟩:=
 ⟨.none,f,_,⟨⟨oc,od,kV,doc,pm,an,cdv,ct,osl,rfl,l,c⟩,p⟩,⟨a,b⟩,rfl⟩
theorem rowFd{ds:List Int}{dT:AG}{o:BW}{its:Array AF}{n:Nat}(a:Av K mainGlobals gn=AA (AA (.ref f)))(l:K.lookup f=AA ⟨oc,od,.func (BM nm nm (yU st) (yI st) (yg st) (.ref dT) kV doc pm an cdv ct),osl⟩)
  (c:Bi K cdv nm=AC) (p:Ad K (.ref f)=AC) (d:K.lookup dT=AA o) (e:o.data=.seq its n) (v:Vals (ds.map V.int) its.toList):ycu K cn ⟨gn,nm,nm,st,N,ps,fn,.fd ds⟩:=
 ⟨.ref dT,f,_,⟨⟨oc,od,kV,doc,pm,an,cdv,ct,osl,rfl,l,c⟩,p⟩,a,dT,o,its,n,rfl,d,e,v⟩
theorem rowMe{qn:AM}{cc:Nat}{q:AG}(z:Av K mainGlobals (cn cc)=AA (AA (.ref q)))(a:Aj K (.ref q) nm=AA (AA (.ref f)))(i:Cc K (.ref f)=AC)(l:K.lookup f=AA ⟨oc,od,.func (BM nm qn (yU st) (yI st) (yg st) .none kV doc pm an cdv ct),osl⟩)
  (c:Bi K cdv qn=AC) (p:Ad K (.ref f)=AC) (b:yaN ⟨gn,nm,qn,st,N,ps,fn,.me cc⟩):ycu K cn ⟨gn,nm,qn,st,N,ps,fn,.me cc⟩:=
 ⟨.none,f,_,⟨⟨oc,od,kV,doc,pm,an,cdv,ct,osl,rfl,l,c⟩,p⟩,⟨b,q,z,a,i⟩,rfl⟩
theorem rowIni{qn:AM}{cc:Nat}{q:AG}(z:Av K mainGlobals (cn cc)=AA (AA (.ref q)))(a:Aj K (.ref q) nm=AA (AA (.ref f)))(i:Cc K (.ref f)=AC)(l:K.lookup f=AA ⟨oc,od,.func (BM nm qn (yU st) (yI st) (yg st) .none kV doc pm an cdv ct),osl⟩)
  (c:Bi K cdv qn=AC) (p:Ad K (.ref f)=AC) (b:yaN ⟨gn,nm,qn,st,N,ps,fn,.ini cc⟩) (mk:EB K q=AC) (kq:Ad K (.ref q)=AC):ycu K cn ⟨gn,nm,qn,st,N,ps,fn,.ini cc⟩:=
 ⟨.none,f,_,⟨⟨oc,od,kV,doc,pm,an,cdv,ct,osl,rfl,l,c⟩,p⟩,⟨b,q,z,a,i,mk,kq⟩,rfl⟩
theorem gdf_mk{w:Ab}{h:Ao}{mg:AM->Option AF}{x:AM}{D:List (AM×Nat)}{fa:Nat->AG}{y:AG}{es:Array Bo}{ep:Nat}(X:K.In h)(G:h.Ns mainGlobals mg)(a:Av K mainGlobals x=AA (AA (.ref y)))(l:K.lookup y=AA ⟨.type "dict",AB,.dict es ep,#[]⟩)
  (r:ybG w fa D es.toList) (n:(D.map (·.1)).Nodup):GDF K w mg fa x D:=⟨y,es,ep,Da X G a,l,r,n⟩
theorem gd_mk{w:Ab}{h:Ao}{mg:AM->Option AF}{x:AM}{D:List (AM×PV)}{cl:Nat->AG}{y:AG}{es:Array Bo}{ep:Nat}(X:K.In h)(G:h.Ns mainGlobals mg)(a:Av K mainGlobals x=AA (AA (.ref y)))(l:K.lookup y=AA ⟨.type "dict",AB,.dict es ep,#[]⟩)
  (s:(y==sysModules)=AE) (r:ybO K cl w D es.toList) (n:(D.map (·.1)).Nodup):GD K w mg cl x D:=⟨y,es,ep,Da X G a,l,s,r,n⟩
end
abbrev KoV(K:AD)(v:PV)(u:AF):Prop:=∃x:V,RelV x u/\∀cl B φ H,yc K cl B φ H v x
abbrev KoL(K:AD)(vs:List PV)(us:List AF):Prop:=∃xs:List V,Vals xs us/\∀cl B φ H,ye K cl B φ H vs xs
mutual
noncomputable def ydO(K:AD):(v:PV)->(u:AF)->Pr (KoV K v u)
 |.int i,.int j t=>an (ask (i=j)) λh=>ok ⟨.int i,⟨t,by rw[h]⟩,λ_ _ _ _=>by erw[yc]⟩
 |.str i,.str j t=>an (ask (i=j)) λh=>ok ⟨.str i,⟨t,by rw[h]⟩,λ_ _ _ _=>by erw[yc]⟩
 |.tp AC vs,.ref a=>match h:K.lookup a with
  |some ⟨c,_,.seq its n,_⟩=>an (ask (c=.type "tuple"/\its.size<=sizeLine)) λq=>an (ycK K vs its.toList) λr=>ok (by
    let⟨xs,r1,r2⟩:=r;refine⟨.ref a,rfl,λcl B φ H=>?_⟩;erw[yc];exact⟨a,xs,rfl,.inr ⟨rfl,_,its,n,h,q.1,rfl,q.2,r1⟩,r2 cl B φ H⟩)
  |_=>AB
 |_,_=>AB
noncomputable def ycK(K:AD):(vs:List PV)->(us:List AF)->Pr (KoL K vs us)
 |[],[]=>ok ⟨[],.nil,λ_ _ _ _=>by erw[ye]⟩
 |v::vs,u::us=>an (ydO K v u) λh=>an (ycK K vs us) λr=>ok (by
   let⟨x,h1,h2⟩:=h;let⟨xs,r1,r2⟩:=r;refine⟨x::xs,.cons h1 r1,λcl B φ H=>?_⟩;erw[ye];exact⟨x,xs,rfl,h2 cl B φ H,r2 cl B φ H⟩)
 |_,_=>AB
end
theorem con_row{K:AD}{cl:Nat->AG}{w:Ab}{k:AM}{v:PV}{tk:GP}{u:AF}{D:List (AM×PV)}{es:List Bo}(c:(ydO K v u).isSome=AC)(h:ybO K cl w D es):ybO K cl w ((k,v)::D) (⟨DX w.params k,.str k tk,u⟩ :: es):=by
 let⟨⟨x,r,q⟩,_⟩:=A9.1 c;exact .cons r (q cl) h
theorem frow_cons{w:Ab}{fa:Nat->AG}{k:AM}{i:Nat}{tk:GP}{a:AG}{D:List (AM×Nat)}{es:List Bo}(e:fa i=a)(h:ybG w fa D es):ybG w fa ((k,i)::D) (⟨DX w.params k,.str k tk,.ref a⟩ :: es):=by
 subst e;exact .cons h
structure Tb where
 tbl:List Df
 al:List (AM×GK)
 bs:List AM
 ts:List Ty
 fl:List (Nat×AM)
 me:List ((Nat×AM)×Nat)
 kb:List ((Nat×Nat×List AM)×List (Option Int))
 cn:List (Nat×AM)
 dd:List (AM×List (AM×PV))
 ml:List (AM×List (AM×Nat))
 xs:List (Nat×Ty)
 xc:List (Nat×AM)
 xm:List (Nat×AM)
 qh:List AM
abbrev eF(x:AM)(i:Nat):AM×GK:=(x,.fn i)
abbrev eC(x:AM)(v:PV):AM×GK:=(x,.cst v)
abbrev eG(x:AM)(g:GK):AM×GK:=(x,g)
abbrev eN(c:Nat)(x:AM):Nat×Str:=(c,x)
abbrev eL(x:AM)(d:List (AM×Nat)):AM×List (AM×Nat):=(x,d)
def tyE:Ty->Ty->Bool
 |.int,.int=>AC
 |.bool,.bool=>AC
 |.str,.str=>AC
 |.tuple,.tuple=>AC
 |.list,.list=>AC
 |_,_=>AE
def zi6{a b:Ty}(h:tyE a b=AC):a=b:=by
 cases a<;>cases b<;>first|rfl|cases h
def tyX:Ty->Ty->Bool
 |.cls a,.cls b=>a==b
 |.val,.val=>AC
 |_,_=>AE
def zi2{a b:Ty}(h:tyX a b=AC):a=b:=by
 cases a<;>cases b<;>first|rfl|(cases h;done)|(rw[eq_of_beq (show _=AC from h)])
def Tb.gs(t:Tb):Gs:=⟨λx=>t.al.lookup x,λx=>t.bs.contains x,λy=>t.ts.any (tyE y),λc f=>t.fl.contains (c,f),λc n=>t.me.lookup (c,n),λi n ks=>t.kb.lookup (i,n,ks),λx=>t.ml.lookup x,λx i=>decide (t.cn.lookup (1000+i)=AA x),λc y=>t.xs.any λp=>p.1==c&&tyX p.2 y,λd x=>t.xc.contains (d,x),λc x=>t.xm.contains (c,x),λi=>match t.tbl[i]? with
 |some d=>t.qh.contains d.gn
 |none=>AE⟩
def nmA(K:AD)(x:AM):Option Addr:=match Av K mainGlobals x with
 |some (AA (.ref q))=>AA q
 |_=>AB
def clA(K:AD)(t:Tb)(c:Nat):Addr:=((t.cn.lookup c).bind (nmA K)).getD 0
def cnm(t:Tb)(c:Nat):Str:=(t.cn.lookup c).getD ""
def faA(K:AD)(t:Tb)(i:Nat):Addr:=match t.tbl[i]? with
 |some d=>match d.k with
  |.fn=>(nmA K d.gn).getD 0
  |.fd _=>(nmA K d.gn).getD 0
  |.me c=>match Aj K (.ref (clA K t c)) d.nm with
   |some (AA (.ref f))=>f
   |_=>0
  |.ini c=>match Aj K (.ref (clA K t c)) d.nm with
   |some (AA (.ref f))=>f
   |_=>0
 |none=>0
def ycd:Dk->Bool
 |.fn=>AC
 |_=>AE
def ydD:Dk->Bool
 |.fd _=>AC
 |_=>AE
def ygi:PV->Bool
 |.int _=>AC
 |.tp _ _=>AC
 |_=>AE
def alB(K:AD)(t:Tb):AM×GK->Bool
 |(x,.fn i)=>match t.tbl[i]? with
  |some d=>ycd d.k&&(decide (x=d.gn) || decide (nmA K x=nmA K d.gn))
  |none=>AE
 |(x,.fnD i)=>match t.tbl[i]? with
  |some d=>ydD d.k&&(decide (x=d.gn) || decide (nmA K x=nmA K d.gn))
  |none=>AE
 |(x,.cst v)=>ygi v&&match Av K mainGlobals x with
  |some (AA u)=>(ydO K v u).isSome
  |_=>AE
 |(x,.dct d)=>t.dd.any λp=>decide (p.1=x)&&(eqD p.2 d).isSome
 |(x,.exc c)=>decide (t.cn.lookup c=AA x)&&(nmA K x).any λq=>Cv K q [.type "ValueError",.type "Exception",.type "BaseException",.type "object"] "ValueError.__new__"
 |(x,.cls c i)=>decide (t.cn.lookup c=AA x)&&(nmA K x).isSome&&match t.tbl[i]? with
  |some d=>match d.k with
   |.ini c'=>decide (c'=c)&&decide (d.nm="__init__")
   |_=>AE
  |none=>AE
def yex(K:AD)(t:Ty):Bool:=
 decide (Ax K (.type "NoneType") (.type (tyN t))=AA (yaO .non t))&&decide (Ax K (.type "bool") (.type (tyN t))=AA (yaO (.bl AC) t))&&decide (Ax K (.type "int") (.type (tyN t))=AA (yaO (.int 0) t))&&decide (Ax K (.type "str") (.type (tyN t))=AA (yaO (.str Cn) t))&&decide (Ax K (.type "tuple") (.type (tyN t))=AA (yaO (.tp AC []) t))&&decide (Ax K (.type "list") (.type (tyN t))=AA (yaO (.lst []) t))
def ydh(K:AD)(q:AG):Bool:=FL K q Cn&&En K q&&Eo K q&&decide (Aj K (.ref q) "__setattr__"=AA (AA (.builtin "object.__setattr__")))
def zdM{K:AD}{q:AG}(h:ydh K q=AC):Cls K q:=by
 erw[ydh,AI,decide_eq_true_eq]at h;exact⟨h.1.1.1,h.1.1.2,h.1.2,h.2⟩
def yd8(K:AD)(q:AG):Bool:=decide (Aj K (.ref q) "__getattribute__"=AA (AA (.builtin "BaseException.__getattribute__")))&&decide (Aj K (.ref q) "__getattr__"=AA AB)&&decide (Aj K (.ref q) "__class__"=AA (AA (.builtin "object.__class__")))&&decide (Fe K (.ref q) (.type "BaseException")=AA AC)&&decide (Ff K q (.type "object")=AA AC)&&(Fg K q).isSome
def zhM{K:AD}{q:AG}(h:yd8 K q=AC):yeW K q:=by
 erw[yd8,AI,decide_eq_true_eq]at h;let⟨⟨⟨⟨⟨h1,h2⟩,h3⟩,h4⟩,h5⟩,h6⟩:=h;exact⟨h1,h2,h3,h4,h5,A9.1 h6⟩
def yeE(K:AD)(t:Tb):Bool:=
 t.xs.all (λp=>yd8 K (clA K t p.1)&&decide (Ax K (.ref (clA K t p.1)) (tyZ (clA K t) p.2)=AA (yaO (.exn p.1) p.2))) &&
  t.xc.all (λp=>decide (t.cn.lookup p.1=AA p.2)&&(nmA K p.2).isSome) &&
  t.xm.all λp=>(nmA K p.2).any λW=>decide (F9 K (.ref (clA K t p.1)) (.ref W)=AA AC)
def ycV(K:AD)(t:Tb):Bool:=
 t.al.all (alB K t)&&t.bs.all (λx=>decide (Av K mainGlobals x=AA AB))&&t.ts.all (yex K) &&
  t.fl.all (λp=>(t.cn.lookup p.1).isSome&&(nmA K (cnm t p.1)).any λq=>ydh K q&&decide (Aj K (.ref q) p.2=AA AB)) &&
  t.me.all (λp=>(t.cn.lookup p.1.1).isSome&&(nmA K (cnm t p.1.1)).any λq=>ydh K q&&match t.tbl[p.2]? with
   |some d=>(match d.k with
    |.me c=>decide (c=p.1.1)
    |_=>AE)&&decide (d.nm=p.1.2)
   |none=>AE) &&
  t.ml.all λp=>p.2.all λq=>match t.tbl[q.2]? with
   |some d=>ycd d.k
   |none=>AE
def ydE(K:AD)(t:Tb):Bool:=ycV K t&&yeE K t
def fd0:FuncData:=BM "" "" (yU (.Pass ⟨0,0,0,0⟩)) [] (yg (.Pass ⟨0,0,0,0⟩)) .none .none .none .none AB .none .none
def fdA(K:AD)(t:Tb)(i:Nat):FuncData:=match K.lookup (faA K t i)with
 |some ⟨_,_,.func fd,_⟩=>fd
 |_=>fd0
def psA(t:Tb)(i:Nat):List Str:=match t.tbl[i]? with
 |some d=>d.ps
 |none=>[]
theorem lkm{α β:Type}[BEq α][LawfulBEq α]{x:α}{k:β}:∀{l:List (α×β)},l.lookup x=AA k->(x,k)∈l
 |[],h=>nomatch h
 |y::l,h=>by
  rw[As]at h
  cases hx:x==y.1 with
  |true=>rw[hx]at h;cases h;rw[eq_of_beq hx];exact AW
  |false=>rw[hx]at h;exact AK _ (lkm h)
def KbP(t:Tb)(p:(Nat×Nat×List AM)×List (Option Int)):Prop:=∀d ds,t.tbl[p.1.1]?=AA d->d.k=.fd ds->∀(K:AD) (mg:AM->Option AF) (f:AG) (fd:Al),FnD K mg d.nm d.st d.ps ds f fd->∃g,ybv K fd d.ps p.1.2.2 g (gK p.1.2.1 p.2)
structure Fact(t:Tb)(w:Ab)(K:AD)(mg:AM->Option AF):Prop where
 X:∀x u,Av K mainGlobals x=AA u->mg x=u
 R:ybn (ycu K (cnm t)) t.tbl
 B:ydE K t=AC
 D:ybn (λp=>∀cl,GD K w mg cl p.1 p.2) t.dd
 Kb:ybn (KbP t) t.kb
 Ml:ybn (λp=>GDF K w mg (faA K t) p.1 p.2) t.ml
def zjH{K:AD}{x:AM}{q:AG}(h:nmA K x=AA q):Av K mainGlobals x=AA (AA (.ref q)):=by
 unfold nmA at h;split at h
 .cases h;assumption
 .cases h
def zR{K:AD}{x:AM}{q:AG}(h:Av K mainGlobals x=AA (AA (.ref q))):nmA K x=AA q:=by
 erw[nmA,h]
def zcL{K:AD}{t:Tb}{c:Nat}{q:AG}(h:nmA K (cnm t c)=AA q)(hc:(t.cn.lookup c).isSome=AC):clA K t c=q:=by
 let⟨x,e⟩:=A9.1 hc;erw[clA,e,Be];erw[cnm,e,BK]at h;rw[h];rfl
def okH(t:Tb)(d:Df):Bool:=(yb5 t.gs d.fn.body ⟨d.N,yg d.st,AE,AC⟩ (yI d.st)).isSome&&!d.fn.pure&&ycd d.k
def okT(t:Tb)(d:Df):Bool:=okD t.gs d&&(!t.qh.contains d.gn || okH t d)&&match d.k with
 |.fn=>AC
 |.fd _=>decide (d.q=d.nm)
 |.me c=>(t.cn.lookup c).isSome
 |.ini c=>(t.cn.lookup c).isSome&&decide (d.nm="__init__")
section
variable {t:Tb}{w:Ab}{K:AD}{mg:AM->Option AF}{T:Nat->Option IC.Fn}{P:A1}{base:Ao}{k:Nat}
def zan(F:Fact t w K mg)(O:∀d∈t.tbl,okT t d=AC){i:Nat}{d:Df}(h:t.tbl[i]?=AA d):∃dv fd,ybM K d dv (faA K t i) fd/\At K (cnm t) d (faA K t i)/\DvP K d dv:=by
 have hm:=AY h;let⟨dv,f,fd,h1,h2,h3⟩:=F.R.get d hm;have e:f=faA K t i:=by
  have o:=O d hm;erw[okT,AI]at o;have o:=o.2;erw[faA,h];unfold At at h2
  cases q:d.k with
  |fn=>
   rw[q]at h2;erw[zR h2.1,BK]
  |fd ds=>
   rw[q]at h2;have h2:Av K mainGlobals d.gn=AA (AA (.ref f)):=h2;erw[zR h2,BK]
  |me c=>
   rw[q]at h2 o;let⟨_,q',e1,e2,_⟩:=h2;erw[zcL (zR e1) o,e2]
  |ini c=>
   rw[q]at h2 o;let⟨_,q',e1,e2,_⟩:=h2;erw[AI]at o;erw[zcL (zR e1) o.1,e2]
 subst e;exact⟨dv,fd,h1,h2,h3⟩
theorem ybM.binds{d:Df}{f:AG}{fd:Al}(R:ybM K d .none f fd)(b:yaN d):Binds K fd d.ps []:=
 Fun.binds ⟨R.ex,R.kp⟩ λkV doc pm an cdv ct us hl=>(b kV doc pm an cdv ct).get us hl
theorem ybM.ok{d:Df}{dv:AF}{f:AG}{fd:Al}{fi m:Nat}{cl:Nat->AG}(R:ybM K d dv f fd)(hT:T fi=AA d.fn)(Sc:yam d.N d.ps (yg d.st))(hnp:d.ps.length=d.fn.np)(hns:d.N.length=d.fn.ns)
  (body:∀(cdv:AF) (A:A5) (outer:List BC) (s:AH) (H:Hp) (E:XK),yat m (A.deeper (envOfC d.q (yg d.st) s.heap.objs.size f cdv)) ->
   PSs (yav (CX1 P w) P w K mg base d.N d.q (yg d.st) f cdv A outer s H E) (yI d.st) (tSs ⟨cl,yd T k,AC⟩ (yav (CX1 P w) P w K mg base d.N d.q (yg d.st) f cdv A outer s H E) d.fn.body)):
  yaM P w K mg base (CX1 P w) (m+1) f fd d.ps (spI K cl (yd T (k+1)) fi):=by
 let⟨oc,od,kV,doc,pm,an,cdv,ct,osl,rfl,lk,hcd⟩:=R.ex;exact zki lk hcd Sc (λvs H Q E h=>zgN hT hnp h) λA outer s H vs Q E hr h=>⟨_,body cdv A outer s H E hr,zhl hT hns h⟩
def Fn2(t:Tb)(P:A1)(w:Ab)(K:AD)(mg:AM->Option AF)(base:Ao)(T:Nat->Option IC.Fn)(k:Nat):Prop:=
 ∀i d dv fd,t.tbl[i]?=AA d->ybM K d dv (faA K t i) fd->yaM P w K mg base (CX1 P w) (2*k) (faA K t i) fd d.ps (spI K (clA K t) (yd T k) i)
def FnH(t:Tb)(P:A1)(w:Ab)(K:AD)(mg:AM->Option AF)(base:Ao)(T:Nat->Option IC.Fn)(k:Nat):Prop:=
 ∀i d fd,t.tbl[i]?=AA d->t.qh.contains d.gn=AC->ybM K d .none (faA K t i) fd->yby P w K mg base (2*k) (faA K t i) fd d.ps (spI K (clA K t) (yd T k) i)
def zc5(F:Fact t w K mg)(O:∀d∈t.tbl,okT t d=AC)(C:Fn2 t P w K mg base T k)(CH:FnH t P w K mg base T k){N:List AM}{q:AM}{sc:An}{f:AG}{cdv:AF}{A:A5}{outer:List BC}{s:AH}{H:Hp}{E:XK}:
  Glo t.gs (2*k) ⟨clA K t,yd T k,AC⟩ (yav (CX1 P w) P w K mg base N q sc f cdv A outer s H E):=by
 have B:=F.B;erw[ydE,AI]at B;let⟨B,B2⟩:=B;erw[ycV,AI,Ah]at B;erw[yeE,AI,Ah]at B2;let⟨⟨⟨⟨⟨b1,b2⟩,b3⟩,b4⟩,b5⟩,b6⟩:=B;let⟨⟨b7,b8⟩,b9⟩:=B2;have mgr:∀{x:AM} {a:AG},nmA K x=AA a->mg x=AA (.ref a):=λh=>F.X _ _ (zjH h);have same:∀{x y:AM} {a:AG},(decide (x=y) || decide (nmA K x=nmA K y))=AC->nmA K y=AA a->nmA K x=AA a:=λ{x y a} h e=>by
  erw[CK,decide_eq_true_eq]at h;rcases h with rfl|h
  .exact e
  .rw[h];exact e
 refine⟨λx i h=>?_,λx i np ks sh h hk=>?_,λx v h=>?_,λx d h=>?_,λx c h=>?_,λx c i h=>?_,λx h=>?_,λy h=>?_,λc n h=>?_,λc n i h=>?_,λy D h=>?_,λx i h hv=>?_,λc y h=>?_,λd x h=>?_,λc x h=>?_,λx i h hq=>?_⟩
 .have q:=b1 _ (lkm h);erw[alB]at q;split at q
  .rename_i d hd;erw[AI]at q;let⟨dv,fd,r1,r2,r3⟩:=zan F O hd;have hk:d.k=.fn:=by cases e:d.k<;>rw[e]at q<;>first|rfl|cases q.1
   erw[At,hk]at r2;erw[DvP,hk]at r3;subst r3;exact⟨_,fd,d.ps,C i d _ fd hd r1,mgr (same q.2 (zR r2.1)),r1.kp,r1.binds r2.2⟩
  .cases q
 .have q:=b1 _ (lkm h);erw[alB]at q;split at q
  .rename_i d hd;erw[AI]at q;let⟨dv,fd,r1,r2,r3⟩:=zan F O hd;obtain⟨ds,hk'⟩:∃ds,d.k=.fd ds:=by cases e:d.k<;>rw[e]at q<;>first|exact⟨_,rfl⟩|cases q.1
   erw[At,hk']at r2;erw[DvP,hk']at r3;let⟨dT,o,its,n,rfl,e1,e2,e3⟩:=r3;have oo:=O d (AY hd);erw[okT,hk',AI,decide_eq_true_eq]at oo;have D:FnD K (λ_=>AA (.ref (faA K t i))) d.nm d.st d.ps ds (faA K t i) fd:=by
    let⟨oc,od,kV,doc,pm,an,cdv,ct,osl,z1,z2,z3⟩:=r1.ex;rw[oo.2]at z1 z3;exact⟨⟨oc,od,dT,kV,doc,pm,an,cdv,ct,osl,o,its,n,z1,z2,z3,e1,e2,e3⟩,r1.kp,rfl⟩
   exact⟨_,fd,d.ps,C i d _ fd hd r1,mgr (same q.2 (zR r2)),r1.kp,F.Kb.get _ (lkm hk) d ds hd hk' K _ _ _ D⟩
  .cases q
 .have q:=b1 _ (lkm h);erw[alB,AI]at q;let⟨q0,q⟩:=q;split at q
  .rename_i u hu;let⟨⟨y,r,z⟩,_⟩:=A9.1 q;have hm:=F.X _ _ hu
   cases v with
   |int i=>
    have z:=z (λ_=>0) (λ_=>False) [] (λ_=>AB);erw[yc]at z;subst z;let⟨tk,rfl⟩:=r;exact .inr ⟨i,rfl,tk,hm⟩
   |tp b vs=>
    have z0:=z (λ_=>0) (λ_=>False) [] (λ_=>AB);erw[yc]at z0;let⟨a,xs,rfl,_⟩:=z0;have r:u=.ref a:=r;subst r;exact .inl ⟨a,hm,λB φ H=>z _ B φ H⟩
   |_=>cases q0
  .cases q
 .have q:=b1 _ (lkm h);erw[alB,Cp,AI,decide_eq_true_eq]at q;let⟨p,hp,rfl,q⟩:=q;let⟨⟨e⟩,_⟩:=A9.1 q;rw[<-e];exact F.D.get p hp _
 .have q:=b1 _ (lkm h);erw[alB,AI,decide_eq_true_eq,CV]at q;let⟨q1,q2,q3⟩:=q;let⟨a,ha⟩:=A9.1 q2;have e:clA K t c=a:=by erw[clA,q1,Be,ha,BK]
  erw[ha,EC]at q3;exact⟨by show mg x=AA (.ref (clA K t c));rw[e];exact mgr ha,by show Cv K (clA K t c) _ _=AC;rw[e];exact q3⟩
 .have q:=b1 _ (lkm h);erw[alB,AI,decide_eq_true_eq]at q;let⟨⟨q1,q2⟩,q3⟩:=q;let⟨a,ha⟩:=A9.1 q2;have e:clA K t c=a:=by erw[clA,q1,Be,ha,BK]
  split at q3
  .rename_i d hd
   cases hk:d.k with
   |ini c'=>
    rw[hk]at q3;erw[AI,decide_eq_true_eq]at q3;let⟨rfl,hn⟩:=q3;let⟨dv,fd,r1,r2,r3⟩:=zan F O hd;erw[At,hk]at r2;erw[DvP,hk]at r3;subst r3;let⟨r0,q',r4,r5,r6,r7,r8⟩:=r2;have e2:q'=a:=by
     have:nmA K (cnm t c')=AA q':=zR r4;erw[cnm,q1,BK,ha]at this;exact(AU this).symm
    subst e2;rw[hn]at r5;refine⟨by show mg x=AA (.ref (clA K t c'));rw[e];exact mgr ha,_,fd,d.ps,?_,C i d _ fd hd r1,r1.binds r0⟩;show Mk K (clA K t c') _;rw[e];exact⟨r7,r5,r6,r8⟩
   |_=>rw[hk]at q3;cases q3
  .cases q3
 .have q:x∈t.bs:=by simpa [Tb.gs] using h
  have:=b2 x q;erw[decide_eq_true_eq]at this;exact F.X _ _ this
 .simp only[Tb.gs,Cp]at h;let⟨y',hy,e⟩:=h;have:=zi6 e;subst this;have q:=b3 y hy;erw[yex,AI,decide_eq_true_eq]at q;exact⟨q.1.1.1.1.1,q.1.1.1.1.2,q.1.1.1.2,q.1.1.2,q.1.2,q.2⟩
 .have q:(c,n)∈t.fl:=by simpa [Tb.gs] using h
  have q:=b4 _ q;erw[AI,CV,decide_eq_true_eq]at q;let⟨q1,q2,q3⟩:=q;let⟨a,ha⟩:=A9.1 q2;erw[ha,EC]at q3;have e:clA K t c=a:=zcL ha q1;show Cls K (clA K t c)/\yb6 K (clA K t c) n;rw[e];exact⟨zdM q3.1,q3.2⟩
 .have q:=b5 _ (lkm h);erw[AI,CV,decide_eq_true_eq]at q;let⟨q1,q2,q3,q4⟩:=q;let⟨a,ha⟩:=A9.1 q2;erw[ha,EC]at q3;have e:clA K t c=a:=zcL ha q1;split at q4
  .rename_i d hd;erw[AI,decide_eq_true_eq]at q4;let⟨q4,hn⟩:=q4
   cases hk:d.k with
   |me c'=>
    rw[hk]at q4;have q4:c'=c:=by simpa using q4
    subst q4;let⟨dv,fd,r1,r2,r3⟩:=zan F O hd;erw[At,hk]at r2;erw[DvP,hk]at r3;subst r3;let⟨r0,q',r4,r5,r6⟩:=r2;have e2:q'=a:=AU ((zR r4).symm.trans ha);subst e2;refine⟨by show Cls K (clA K t c');rw[e];exact zdM q3,_,fd,d.ps,?_,C i d _ fd hd r1,r1.binds r0⟩;show Meth K (clA K t c') n _;rw[e,<-hn];exact⟨r5,r6,r1.kp⟩
   |_=>rw[hk]at q4;cases q4
  .cases q4
 .have q:=b6 _ (lkm h);have g:∀s j,D.lookup s=AA j->∃d dv fd,t.tbl[j]?=AA d/\ybM K d dv (faA K t j) fd/\dv=.none/\yaN d/\fd=fdA K t j/\d.ps=psA t j:=λs j hj=>by
   have q:=q _ (lkm hj);split at q
   .rename_i d hd;let⟨dv,fd,r1,r2,r3⟩:=zan F O hd;have hk:d.k=.fn:=by cases e:d.k<;>rw[e]at q<;>first|rfl|cases q
    erw[At,hk]at r2;erw[DvP,hk]at r3;let⟨oc,od,kV,doc,pm,an,cdv,ct,osl,_,lk,_⟩:=r1.ex;exact⟨d,dv,fd,hd,r1,r3,r2.2,by erw[fdA,lk],by erw[psA,hd]⟩
   .cases q
  refine⟨faA K t,fdA K t,psA t,⟨λs j hj=>?_,λs j hj=>?_,λs j hj=>?_⟩,F.Ml.get _ (lkm h)⟩
  .let⟨d,dv,fd,h1,h2,h3,h4,h5,h6⟩:=g s j hj;rw[<-h5,<-h6];exact C j d dv fd h1 h2
  .let⟨d,dv,fd,h1,h2,h3,h4,h5,h6⟩:=g s j hj;exact h2.kp
  .let⟨d,dv,fd,h1,h2,h3,h4,h5,h6⟩:=g s j hj;subst h3;rw[<-h5,<-h6];exact h2.binds h4
 .have q:=b1 _ (lkm h);erw[alB]at q;split at q
  .rename_i d hd;erw[AI]at q;let⟨dv,fd,r1,r2,r3⟩:=zan F O hd;have hk:d.k=.fn:=by cases e:d.k<;>rw[e]at q<;>first|rfl|cases q.1
   erw[At,hk]at r2;have hn:=same q.2 (zR r2.1);have e:t.cn.lookup (1000+i)=AA x:=of_decide_eq_true hv;have z:clA K t (1000+i)=faA K t i:=by erw[clA,e,Be,hn,BK]
   show mg x=AA (.ref (clA K t (1000+i)));rw[z];exact mgr hn
  .cases q
 .let⟨p,hp,q⟩:=Cp.1 h;erw[AI,beq_iff_eq]at q;let⟨rfl,q⟩:=q;have:=zi2 q;subst this;have b:=b7 p hp;erw[decide_eq_true_eq]at b;exact⟨zhM b.1,b.2⟩
 .have b:=b8 _ (EJ.1 h);erw[decide_eq_true_eq]at b;let⟨a,ha⟩:=A9.1 b.2;have e:clA K t d=a:=by erw[clA,b.1,Be,ha,BK]
  show mg x=AA (.ref (clA K t d));rw[e];exact mgr ha
 .have b:=b9 _ (EJ.1 h)
  cases ha:nmA K x with
  |none=>rw[ha]at b;cases b
  |some W=>
   rw[ha]at b;exact⟨W,mgr ha,of_decide_eq_true b⟩
 .have q:=b1 _ (lkm h);erw[alB]at q;split at q
  .rename_i d hd;erw[AI]at q;let⟨dv,fd,r1,r2,r3⟩:=zan F O hd;have hk:d.k=.fn:=by cases e:d.k<;>rw[e]at q<;>first|rfl|cases q.1
   erw[At,hk]at r2;erw[DvP,hk]at r3;subst r3;have hq:t.qh.contains d.gn=true:=by simpa only[Tb.gs,hd] using hq
   exact⟨_,fd,d.ps,CH i d fd hd hq r1,mgr (same q.2 (zR r2.1)),r1.kp,r1.binds r2.2⟩
  .cases q
def zdZ(F:Fact t w K mg)(O:∀d∈t.tbl,okT t d=AC)(hT:∀i d,t.tbl[i]?=AA d->T i=AA d.fn):∀k,Fn2 t P w K mg base T k/\FnH t P w K mg base T k
 |0=>⟨λi d dv fd _ _=>zfo,λi d fd _ _ _=>zfr⟩
 |k+1=>by
  have ih:=zdZ F O hT k;refine⟨λi d dv fd h R=>?_,λi d fd h hq R=>?_⟩
  .have o:=O d (AY h);erw[okT,okD,AI,decide_eq_true_eq]at o;let⟨⟨⟨⟨⟨o1,o2⟩,o3⟩,o4⟩,_⟩,_⟩:=o;let⟨⟨y⟩,_⟩:=A9.1 o4;exact R.ok (m:=2*k+1) (hT i d h) (zgp o1) o2 o3 λ_ _ _ _ _ _ hr=>y (2*k) _ _ ⟨rfl,rfl,λ_=>rfl,hr.h,λ_=>hr.hd,λ_=>⟨own1,λ_=>rfl,rfl⟩,λ_=>⟨⟨_,rfl⟩,rfl,rfl⟩,zc5 F O ih.1 ih.2⟩
  .have o:=O d (AY h);erw[okT,okD,AI,decide_eq_true_eq]at o;let⟨⟨⟨⟨⟨o1,o2⟩,o3⟩,_⟩,oq⟩,_⟩:=o;have oh:okH t d=true:=by rw[hq]at oq;simpa using oq
   erw[okH,AI,BG]at oh;let⟨⟨y⟩,_⟩:=A9.1 oh.1.1;refine zif (m:=2*k+1) (hT i d h) ⟨R.ex,R.kp⟩ (zgp o1) o2 o3 oh.1.2 λcdv A outer s H hr=>y (2*k) _ _ ⟨rfl,rfl,(λh=>nomatch h),hr,(λh=>nomatch h),(λh=>nomatch h),(λh=>nomatch h),?_⟩;have G:=zc5 (N:=d.N) (q:=d.q) (sc:=yg d.st) (f:=faA K t i) (cdv:=cdv) (A:=A) (outer:=outer) (s:=s) (H:=H) (E:=E0) F O ih.1 ih.2;exact⟨G.F,G.Q,G.C,G.D,G.E,G.N,G.B,G.T,G.A,G.M,λy D h=>let ⟨fa,fdd,ps,M,d⟩:=G.K y D h;⟨fa,fdd,ps,⟨M.F,M.kp,M.b⟩,d⟩,G.V,G.I,G.L,G.H,G.Z⟩
def zg0(F:Fact t w K mg)(O:∀d∈t.tbl,okT t d=AC)(hT:∀i d,t.tbl[i]?=AA d->T i=AA d.fn)(k:Nat):Fn2 t P w K mg base T k:=(zdZ F O hT k).1
def ydx:Nat->(List AF->Prop)->Prop
 |0,P=>P []
 |n+1,P=>∀a,ydx n λus=>P (a::us)
theorem ydx.get:∀{n:Nat} {P:List AF->Prop},ydx n P->∀us,us.length=n->P us
 |0,P,h,[],_=>h
 |n+1,P,h,a::us,e=>(h a).get us (by simpa using e)
theorem all_mk2{h:Ao}{fx:AG}(X:K.In h)(G:h.Ns mainGlobals mg)(hfa:mg "law"=AA (.ref fx))(R:ybn (ycu K (cnm t)) t.tbl)(B:ydE K t=AC)(D:ybn (λp=>∀cl,GD K w mg cl p.1 p.2) t.dd)(Kb:ybn (KbP t) t.kb)(Ml:ybn (λp=>GDF K w mg (faA K t) p.1 p.2) t.ml)
  (O:t.tbl.all (okT t)=AC) (hT:∀i d,t.tbl[i]?=AA d->T i=AA d.fn) {L:Nat} {st:B8} {N:List AM} {fn:IC.Fn} (hL:t.tbl[L]?=AA ⟨"law","law","law",st,N,["_law_script"],fn,.fn⟩) (lvl:Nat):
  ∃fd:Al,(∀(s:AH) (v:AF),Dp s fd ⟨[v],[]⟩ [("_law_script",v)])/\∀base:Ao,K.In base->base.Ns mainGlobals mg->yaM P w K mg base (CX1 P w) (2*lvl) fx fd ["_law_script"] (spX K (yd T lvl) L):=by
 have F:Fact t w K mg:=⟨λx u e=>by
  cases u with
  |none=>exact PySem.W.mg_none_of X G e
  |some v=>exact Da X G e,R,B,D,Kb,Ml⟩
 have O':=Ah.1 O;let⟨dv,fd,r1,r2,r3⟩:=zan F O' hL;have r3:dv=.none:=r3;subst r3;have r2:Av K mainGlobals "law"=AA (AA (.ref (faA K t L)))/\yaN _:=r2;have e:=Value.ref.inj (AU (hfa.symm.trans (Da X G r2.1)));subst e;refine⟨fd,λs v=>?_,λbase _ _=>(zg0 F O' hT lvl L _ _ fd hL r1).imp λ_ _ _ _ h=>h _⟩;let⟨oc,od,kV,doc,pm,an,cdv,ct,osl,rfl,_⟩:=r1.ex;exact .of_eq (r2.2 kV doc pm an cdv ct v)
end
end L2
namespace IC
open PySem
def yey:List (AM×Nat):=[(A4 "move",2),(A4 "bare",3),(A4 "sum",4),(A4 "less",5),(A4 "both",6),(A4 "any",7),(A4 "odd",8),(A4 "twice",9),(A4 "half",10)]
def yi:PV:=(.int 8)
def yeF:PV:=(.int 3)
def ya:PV:=(.tp AC [(.str "add"),(.str "less"),(.str "swap"),(.str "copy"),(.str "twice"),(.str "half"),(.str "bare"),(.str "both"),(.str "any"),(.str "odd"),(.str "nought"),(.str "clear"),(.str "one")])
section yb
local macro_rules|`(#[$x,*])=>do
 let mut a←`(.e)
 for y in x.getElems.reverse do a←`(.k $y $a)
 pure a
def yeI:Fn:=⟨5,6,AC,#[.mkr 5 yey (.v 0) #[.v 1,.v 2,.v 3,.v 4]]⟩
def yeK:Fn:=⟨1,1,AC,#[.ret (.bin .sub (.bin .shl (.i 1) (.v 0)) (.i 1))]⟩
def yeN:Fn:=⟨4,4,AC,#[.ret (.tup #[.v 1,.v 3])]⟩
def yeS:Fn:=⟨4,4,AC,#[.ret (.tup #[.bin .sub (.call 1 #[.v 0]) (.v 1),.v 3])]⟩
def yeU:Fn:=⟨4,5,AC,#[.asg (.n 4) (.bin .add (.bin .add (.v 1) (.v 2)) (.v 3)),.ret (.tup #[.bin .band (.v 4) (.call 1 #[.v 0]),.bin .shr (.v 4) (.v 0)])]⟩
def yeX:Fn:=⟨4,5,AC,#[.asg (.n 4) (.bin .sub (.bin .sub (.v 1) (.v 2)) (.v 3)),.ret (.tup #[.bin .band (.v 4) (.call 1 #[.v 0]),.ite (.cmp .lt (.v 4) (.i 0)) (.i 1) (.i 0)])]⟩
def yeZ:Fn:=⟨4,4,AC,#[.ret (.tup #[.bin .band (.v 1) (.v 2),.v 3])]⟩
def ye5:Fn:=⟨4,4,AC,#[.ret (.tup #[.bin .bor (.v 1) (.v 2),.v 3])]⟩
def yfm:Fn:=⟨4,4,AC,#[.ret (.tup #[.bin .bxor (.v 1) (.v 2),.v 3])]⟩
def yfn:Fn:=⟨4,4,AC,#[.ret (.call 4 #[.v 0,.v 1,.v 1,.v 3])]⟩
def yfq:Fn:=⟨4,4,AC,#[.ret (.tup #[.bin .bor (.bin .shr (.v 1) (.i 1)) (.bin .shl (.v 3) (.bin .sub (.v 0) (.i 1))),.bin .band (.v 1) (.i 1)])]⟩
def f_short:Fn:=⟨2,10,AE,#[.expr (.call 12 #[.v 0]),.asg (.n 2) (.call 15 #[.v 1]),.asg (.n 3) (.comp [AB,AB,AB,AA 0,AA 1] (.t [0,1,2]) (.seq (.v 2)) (.cst (.bl AC)) (.call 13 #[.v 3,.v 4,.v 0,.v 1,.v 2])),.asg (.n 4) (.comp [AB,AA 1,AA 2] (.n 0) (.seq (.cst ya)) (.cst (.bl AC)) (.tup #[.v 0,.call 16 #[.v 0,.v 1,.v 2]])),.asg (.n 5) (.i 0),.asg (.n 6) (.lst #[.tup #[.tup .e,.v 2]]),.for (.n 7) (.range1 (.bin .add (.cst yeF) (.i 1))) #[.ite (.cmp .gt (.v 7) (.i 0)) #[.asg (.n 6) (.call 17 #[.v 6,.v 4])] .e,.for (.t [8,9]) (.seq (.v 6)) #[.ite (.cmp .eq (.v 9) (.v 3)) #[.ret (.tup #[.v 8,.v 5])] .e,.aug 5 .add (.i 1)]],.ret (.tup #[.cst .non,.v 5])]⟩
def yj:Fn:=⟨1,2,AE,#[.forl (.n 1) (.v 0) #[.ite (.nin (.v 1) (.cst ya)) #[.raise 4 (.s "this is no row of the small machine")] .e],.ite (.cmp .gt (.blt .len #[.v 0]) (.cst yi)) #[.raise 8 (.fst #[.s "there are more than ",.cst yi,.s " rows"])] .e]⟩
def yC:Fn:=⟨5,6,AE,#[.forl (.n 5) (.v 0) #[.asg (.t [2,3,4]) (.call 14 #[.v 5,.v 1,.v 2,.v 3,.v 4])],.ret (.tup #[.v 2,.v 3,.v 4])]⟩
def yn:Fn:=⟨5,7,AC,#[.ite (.cmp .eq (.v 0) (.s "swap")) #[.ret (.tup #[.v 3,.v 2,.v 4])] .e,.ite (.cmp .eq (.v 0) (.s "copy")) #[.ret (.tup #[.v 2,.v 2,.v 4])] .e,.ite (.cmp .eq (.v 0) (.s "nought")) #[.ret (.tup #[.i 0,.v 3,.v 4])] .e,.ite (.cmp .eq (.v 0) (.s "clear")) #[.ret (.tup #[.v 2,.v 3,.i 0])] .e,.ite (.cmp .eq (.v 0) (.s "one")) #[.ret (.tup #[.v 2,.v 3,.i 1])] .e,.asg (.t [5,6]) (.call 0 #[.ite (.cmp .eq (.v 0) (.s "add")) (.s "sum") (.v 0),.v 1,.v 2,.v 3,.v 4]),.ret (.tup #[.v 5,.v 3,.v 6])]⟩
def yv:Fn:=⟨1,2,AC,#[.asg (.n 1) (.bin .shl (.i 1) (.v 0)),.ret (.cmq [AB,AB,AB,AA 1] (.n 0) (.range1 (.v 1)) (.emq (.n 1) (.range1 (.v 3)) (.emq (.n 2) (.range1 (.i 2)) (.tup #[.tup #[.v 0,.v 1,.v 2]]))))]⟩
def yF:Fn:=⟨3,6,AE,#[.ret (.dcm [AB,AB,AB,AA 0,AA 1] (.t [0,1,2]) (.seq (.v 2)) (.tup #[.v 0,.v 1,.v 2]) (.call 14 #[.v 3,.v 4,.v 0,.v 1,.v 2]))]⟩
def yx:Fn:=⟨2,2,AE,#[.ret (.cmq [AB,AB,AB,AB,AA 1] (.t [0,1]) (.seq (.v 0)) (.emq (.t [2,3]) (.seq (.v 4)) (.tup #[.tup #[.bin .add (.v 0) (.tup #[.v 2]),.comp [AB,AA 3] (.n 0) (.seq (.v 1)) (.cst (.bl AC)) (.dgt (.v 1) (.v 0))]])))]⟩
def ybf:Fn:=⟨1,1,AE,#[.ret (.newl #[.slc (.v 0) (.cst .non) (.i 63),.i 0,.i 0,.cst (.bl AE)])]⟩
def yaf:Fn:=⟨1,8,AC,#[.asg (.n 1) (.tup #[.i 2147483647,.i 2147483629,.i 2147483587,.i 2147483579,.i 2147483563]),.asg (.n 2) (.i 0),.for (.t [3,4]) (.enum (.v 1)) #[.asg (.n 5) (.bin .add (.v 0) (.idx (.tup #[.i 11,.i 101,.i 1009,.i 10007,.i 100003]) (.v 3))),.asg (.n 5) (.bin .mod (.bin .mul (.v 5) (.bin .add (.i 48271) (.bin .mul (.i 2) (.v 3)))) (.v 4)),.asg (.n 6) (.bin .mod (.bin .mul (.v 5) (.v 5)) (.v 4)),.asg (.n 7) (.bin .mod (.bin .mul (.bin .mod (.bin .mul (.v 6) (.v 6)) (.v 4)) (.v 5)) (.v 4)),.asg (.n 2) (.bin .add (.bin .mul (.v 2) (.v 4)) (.v 7))],.ret (.v 2)]⟩
def yO:Fn:=⟨1,4,AE,#[.asg (.t [1,2]) (.tup #[.idx (.v 0) (.i 0),.idx (.v 0) (.i 1)]),.asg (.n 3) (.bin .add (.bin .mul (.i 31) (.v 2)) (.i 7)),.ite (.cmp .gt (.blt .len #[.v 1]) (.i 0)) #[.asg (.n 3) (.bin .mul (.i 104729) (.bin .fdiv (.v 2) (.blt .len #[.v 1]))),.asg (.n 3) (.bin .add (.v 3) (.idx (.v 1) (.bin .mod (.v 2) (.blt .len #[.v 1]))))] .e,.six (.v 0) (.i 1) (.bin .add (.v 2) (.i 1)),.six (.v 0) (.i 3) (.or (.cmp .ge (.v 2) (.blt .len #[.v 1])) (.cmp .lt (.v 3) (.bin .pow (.i 10) (.i 18)))),.ite (.idx (.v 0) (.i 3)) #[.six (.v 0) (.i 2) (.call 19 #[.v 3])] #[.six (.v 0) (.i 2) (.bin .sub (.v 3) (.bin .pow (.i 10) (.i 18)))]]⟩
def yK:Fn:=⟨2,4,AE,#[.asg (.n 2) (.i 0),.while (.and (.cmp .lt (.v 2) (.i 64)) (.or (.cmp .eq (.idx (.v 0) (.i 2)) (.i 0)) (.and (.idx (.v 0) (.i 3)) (.cmp .lt (.idx (.v 0) (.i 2)) (.bin .mul (.v 1) (.i 4096)))))) #[.expr (.call 20 #[.v 0]),.aug 2 .add (.i 1),.ite (.and (.idx (.v 0) (.i 3)) (.cmp .lt (.idx (.v 0) (.i 2)) (.bin .mul (.v 1) (.i 4096)))) #[.six (.v 0) (.i 2) (.bin .add (.idx (.v 0) (.i 2)) (.bin .mul (.bin .mul (.v 1) (.i 4096)) (.bin .add (.i 1) (.bin .mod (.idx (.v 0) (.i 2)) (.i 4093)))))] .e],.asg (.n 3) (.bin .mod (.idx (.v 0) (.i 2)) (.v 1)),.six (.v 0) (.i 2) (.bin .fdiv (.idx (.v 0) (.i 2)) (.v 1)),.ret (.v 3)]⟩
def ycz:Fn:=⟨1,1,AC,#[.ret (.and (.isi (.v 0) [.int]) (.not (.isi (.v 0) [.bool])))]⟩
def yd0:Fn:=⟨0,1,AC,#[.asg (.n 0) (.s "add less swap copy twice half bare both any odd nought clear one"),.ret (.blt .tuple #[.mth .split (.v 0) #[.s " "]])]⟩
def yy:Fn:=⟨5,5,AC,#[.ite (.cmp .eq (.v 0) (.s "swap")) #[.ret (.tup #[.v 3,.v 2,.v 4])] .e,.ite (.cmp .eq (.v 0) (.s "copy")) #[.ret (.tup #[.v 2,.v 2,.v 4])] .e,.ite (.cmp .isin (.v 0) (.tup #[.s "clear",.s "one"])) #[.ret (.tup #[.v 2,.v 3,.blt .int #[.cmp .eq (.v 0) (.s "one")]])] .e,.ite (.cmp .eq (.v 0) (.s "add")) #[.ret (.tup #[.bin .mod (.bin .add (.bin .add (.v 2) (.v 3)) (.v 4)) (.v 1),.v 3,.bin .fdiv (.bin .add (.bin .add (.v 2) (.v 3)) (.v 4)) (.v 1)])] .e,.ite (.cmp .eq (.v 0) (.s "less")) #[.ret (.tup #[.bin .mod (.bin .sub (.bin .sub (.v 2) (.v 3)) (.v 4)) (.v 1),.v 3,.blt .int #[.cmp .lt (.v 2) (.bin .add (.v 3) (.v 4))]])] .e,.ite (.cmp .eq (.v 0) (.s "twice")) #[.ret (.tup #[.bin .mod (.bin .add (.bin .mul (.i 2) (.v 2)) (.v 4)) (.v 1),.v 3,.blt .int #[.cmp .ge (.bin .mul (.i 2) (.v 2)) (.v 1)]])] .e,.ite (.cmp .eq (.v 0) (.s "half")) #[.ret (.tup #[.bin .fdiv (.bin .add (.v 2) (.bin .mul (.v 4) (.v 1))) (.i 2),.v 3,.bin .mod (.v 2) (.i 2)])] .e,.ite (.cmp .eq (.v 0) (.s "bare")) #[.ret (.tup #[.bin .sub (.bin .sub (.v 1) (.i 1)) (.v 2),.v 3,.v 4])] .e,.ite (.cmp .eq (.v 0) (.s "nought")) #[.ret (.tup #[.i 0,.v 3,.v 4])] .e,.ret (.tup #[.dsub [(A4 "both"),(A4 "any"),(A4 "odd")] #[.bin .band (.v 2) (.v 3),.bin .bor (.v 2) (.v 3),.bin .bxor (.v 2) (.v 3)] (.v 0),.v 3,.v 4])]⟩
def yt:Fn:=⟨3,7,AC,#[.asg (.t [3,4,5]) (.v 2),.for (.n 6) (.seq (.v 0)) #[.asg (.t [3,4,5]) (.call 24 #[.v 6,.v 1,.v 3,.v 4,.v 5])],.ret (.tup #[.v 3,.v 4,.v 5])]⟩
def yu:Fn:=⟨2,3,AE,#[.asg (.n 2) (.call 21 #[.v 0,.bin .add (.v 1) (.i 1)]),.ret (.comp [AB,AA 0] (.n 0) (.range1 (.v 2)) (.cst (.bl AC)) (.idx (.call 23 .e) (.call 21 #[.v 1,.i 13])))]⟩
def yes:Fn:=⟨1,5,AC,#[.asg (.n 1) (.bin .mul (.bin .mul (.i 2) (.v 0)) (.v 0)),.asg (.n 2) (.newl .e),.for (.n 3) (.range1 (.v 1)) #[.asg (.n 4) (.bin .mod (.bin .add (.bin .mul (.v 3) (.i 37)) (.i 27)) (.v 1)),.expr (.mth .append (.v 2) #[.tup #[.bin .fdiv (.bin .fdiv (.v 4) (.i 2)) (.v 0),.bin .mod (.bin .fdiv (.v 4) (.i 2)) (.v 0),.bin .mod (.v 4) (.i 2)]])],.ret (.frz (.v 2))]⟩
def yE:Fn:=⟨2,10,AC,#[.asg (.n 2) (.call 27 #[.v 1]),.asg (.n 3) (.comp [AB,AA 0,AA 1] (.n 0) (.seq (.v 2)) (.cst (.bl AC)) (.call 25 #[.v 1,.v 2,.v 0])),.asg (.n 4) (.i 0),.asg (.n 5) (.lst #[.tup .e]),.for (.n 6) (.range1 (.i 4)) #[.for (.n 7) (.seq (.v 5)) #[.asg (.n 8) (.i 0),.while (.and (.cmp .lt (.v 8) (.blt .len #[.v 2])) (.cmp .eq (.call 25 #[.v 7,.v 1,.idx (.v 2) (.v 8)]) (.idx (.v 3) (.v 8)))) #[.aug 8 .add (.i 1)],.ite (.cmp .eq (.v 8) (.blt .len #[.v 2])) #[.ret (.tup #[.v 7,.v 4])] .e,.aug 4 .add (.i 1)],.asg (.n 9) (.newl .e),.ite (.cmp .lt (.v 6) (.i 3)) #[.for (.n 7) (.seq (.v 5)) #[.expr (.mth .extend (.v 9) #[.comp [AB,AA 7] (.n 0) (.seq (.call 23 .e)) (.cst (.bl AC)) (.bin .add (.v 1) (.tup #[.v 0]))])]] .e,.asg (.n 5) (.frz (.v 9))],.ret (.tup #[.cst .non,.v 4])]⟩
def yk:Fn:=⟨2,2,AC,#[.ite (.or (.not (.isi (.v 0) [.tuple])) (.or (.cmp .ne (.blt .len #[.v 0]) (.i 2)) (.or (.not (.call 22 #[.idx (.v 0) (.i 1)])) (.cmp .ne (.v 0) (.v 1))))) #[.ret (.cst (.bl AE))] .e,.ret (.or (.cmp .is (.idx (.v 0) (.i 0)) (.cst .non)) (.and (.isi (.idx (.v 0) (.i 0)) [.tuple]) (.blt .all #[.comp [AB] (.n 0) (.seq (.idx (.v 0) (.i 0))) (.cst (.bl AC)) (.isi (.v 0) [.str])])))]⟩
def yai:Fn:=⟨1,11,AC,#[.asg (.n 1) (.call 18 #[.v 0]),.asg (.n 2) (.call 21 #[.v 1,.i 2]),.asg (.n 3) (.idx (.tup #[.i 1,.i 2,.i 1,.i 2,.i 2,.i 3]) (.call 21 #[.v 1,.i 6])),.ite (.cmp .eq (.v 2) (.i 0)) #[.asg (.n 4) (.call 26 #[.v 1,.i 8])] #[.asg (.n 4) (.call 26 #[.v 1,.i 3]),.for (.n 5) (.range1 (.call 21 #[.v 1,.i 3])) #[.asg (.n 6) (.idx (.tup #[.s "swap",.s "bare",.s "odd"]) (.call 21 #[.v 1,.i 3])),.asg (.n 7) (.call 21 #[.v 1,.bin .add (.blt .len #[.v 4]) (.i 1)]),.asg (.n 4) (.bin .add (.bin .add (.slc (.v 4) (.cst .non) (.v 7)) (.lst #[.v 6,.v 6])) (.slc (.v 4) (.v 7) (.cst .non)))]],.asg (.n 8) (.call 28 #[.v 4,.bin .mul (.i 2) (.idx (.lst #[.i 1,.i 2,.i 4]) (.bin .sub (.v 3) (.i 1)))]),.asg (.n 9) (.thw (.blt .list #[.v 4])),.asg (.n 10) (.call 11 #[.v 9,.v 3]),.ite (.or (.nel (.v 9) (.v 4)) (.not (.call 29 #[.v 10,.v 8]))) #[.ret (.cst (.bl AE))] .e,.expr (.mth .clear (.v 9) .e),.ret (.cmp .eq (.call 11 #[.blt .tuple #[.v 4],.v 3]) (.v 8))]⟩
end yb
def Tl:List Fn:=[yeI,yeK,yeN,yeS,yeU,yeX,yeZ,ye5,yfm,yfn,yfq,f_short,yj,yC,yn,yv,yF,yx,ybf,yaf,yO,yK,ycz,yd0,yy,yt,yu,yes,yE,yk,yai]
def T(i:Nat):Option Fn:=Tl[i]?
abbrev yfI:Nat:=11
abbrev yb:Nat:=12
abbrev yfP:Nat:=13
abbrev yl:Nat:=14
abbrev yf:Nat:=15
abbrev yfV:Nat:=16
abbrev yf1:Nat:=17
abbrev yf7:Nat:=18
abbrev yet:Nat:=19
abbrev ygh:Nat:=20
abbrev yeu:Nat:=21
abbrev ygB:Nat:=22
abbrev yev:Nat:=23
abbrev ygk:Nat:=24
abbrev ygw:Nat:=25
abbrev yz:Nat:=26
abbrev ym:Nat:=27
abbrev ygz:Nat:=28
abbrev ygA:Nat:=29
abbrev ydT:Nat:=30
end IC
namespace WK
open PySem L2 IC
def top(i:Nat):Stmt:=Dj.main.body.getD i (.Pass ⟨0,0,0,0⟩)
def tbQ:Tb where
 tbl:=[⟨"made","made","made",top 5,["name","w","x","y","k","make"],["name","w","x","y","k"],yeI,.fn⟩,⟨"highest","highest","highest",top 6,["w"],["w"],yeK,.fn⟩,⟨"moved","moved","moved",top 7,["w","x","y","k"],["w","x","y","k"],yeN,.fn⟩,⟨"bared","bared","bared",top 8,["w","x","y","k"],["w","x","y","k"],yeS,.fn⟩,⟨"summed","summed","summed",top 9,["w","x","y","k","total"],["w","x","y","k"],yeU,.fn⟩,⟨"taken_away","taken_away","taken_away",top 10,["w","x","y","k","total"],["w","x","y","k"],yeX,.fn⟩,⟨"in_both","in_both","in_both",top 11,["w","x","y","k"],["w","x","y","k"],yeZ,.fn⟩,⟨"in_any","in_any","in_any",top 12,["w","x","y","k"],["w","x","y","k"],ye5,.fn⟩,⟨"in_one","in_one","in_one",top 13,["w","x","y","k"],["w","x","y","k"],yfm,.fn⟩,⟨"doubled","doubled","doubled",top 14,["w","x","y","k"],["w","x","y","k"],yfn,.fn⟩,⟨"halved","halved","halved",top 15,["w","x","y","k"],["w","x","y","k"],yfq,.fn⟩,⟨"short","short","short",top 21,["rows","w","begun","wanted","tables","looked","tried","length","found","ended"],["rows","w"],f_short,.fn⟩,⟨"refuse_rows","refuse_rows","refuse_rows",top 22,["rows","row"],["rows"],yj,.fn⟩,⟨"all_done","all_done","all_done",top 23,["rows","w","lo","hi","k","row"],["rows","w","lo","hi","k"],yC,.fn⟩,⟨"small_done","small_done","small_done",top 24,["row","w","lo","hi","k","word","mark"],["row","w","lo","hi","k"],yn,.fn⟩,⟨"every_state","every_state","every_state",top 25,["w","size"],["w"],yv,.fn⟩,⟨"table_of","table_of","table_of",top 26,["row","w","begun","lo","hi","k"],["row","w","begun"],yF,.fn⟩,⟨"one_longer","one_longer","one_longer",top 27,["tried","tables"],["tried","tables"],yx,.fn⟩,⟨"_law_fresh","_law_fresh","_law_fresh",top 29,["_law_script"],["_law_script"],ybf,.fn⟩,⟨"_law_mixed","_law_mixed","_law_mixed",top 30,["_law_seed","_law_primes","_law_number","_law_k","_law_prime","_law_far","_law_square","_law_power"],["_law_seed"],yaf,.fn⟩,⟨"_law_fill","_law_fill","_law_fill",top 31,["_law_state","_law_cells","_law_at","_law_seed"],["_law_state"],yO,.fn⟩,⟨"_law_take","_law_take","_law_take",top 32,["_law_state","_law_many","_law_turns","_law_digit"],["_law_state","_law_many"],yK,.fn⟩,⟨"_law_whole","_law_whole","_law_whole",top 33,["_law_thing"],["_law_thing"],ycz,.fn⟩,⟨"_law_texts","_law_texts","_law_texts",top 34,["_law_words"],[],yd0,.fn⟩,⟨"_law_small_one","_law_small_one","_law_small_one",top 35,["_law_row","_law_wide","_law_lo","_law_hi","_law_k"],["_law_row","_law_wide","_law_lo","_law_hi","_law_k"],yy,.fn⟩,⟨"_law_small_all","_law_small_all","_law_small_all",top 36,["_law_rows","_law_wide","_law_begin","_law_lo","_law_hi","_law_k","_law_row"],["_law_rows","_law_wide","_law_begin"],yt,.fn⟩,⟨"_law_small_rows","_law_small_rows","_law_small_rows",top 37,["_law_state","_law_most","_law_many"],["_law_state","_law_most"],yu,.fn⟩,⟨"_law_begins","_law_begins","_law_begins",top 38,["_law_wide","_law_total","_law_found","_law_k","_law_far"],["_law_wide"],yes,.fn⟩,⟨"_law_look","_law_look","_law_look",top 39,["_law_rows","_law_wide","_law_begins_here","_law_goals","_law_looked","_law_lengths","_law_length","_law_other","_law_at","_law_longer"],["_law_rows","_law_wide"],yE,.fn⟩,⟨"_law_told_short","_law_told_short","_law_told_short",top 40,["_law_found","_law_due"],["_law_found","_law_due"],yk,.fn⟩,⟨"law","law","law",top 41,["_law_script","_law_state","_law_way","_law_w","_law_rows","_law_k","_law_text","_law_at","_law_due","_law_handed","_law_found"],["_law_script"],yai,.fn⟩]
 al:=[eF "made" 0,eF "highest" 1,eF "moved" 2,eF "bared" 3,eF "summed" 4,eF "taken_away" 5,eF "in_both" 6,eF "in_any" 7,eF "in_one" 8,eF "doubled" 9,eF "halved" 10,eF "short" 11,eF "refuse_rows" 12,eF "all_done" 13,eF "small_done" 14,eF "every_state" 15,eF "table_of" 16,eF "one_longer" 17,eF "_law_fresh" 18,eF "_law_mixed" 19,eF "_law_fill" 20,eF "_law_take" 21,eF "_law_whole" 22,eF "_law_texts" 23,eF "_law_small_one" 24,eF "_law_small_all" 25,eF "_law_small_rows" 26,eF "_law_begins" 27,eF "_law_look" 28,eF "_law_told_short" 29,eF "law" 30,eC "MOST_ROWS" (.int (8)),eC "MOST_SHORT" (.int (3)),eC "SMALL_ROWS" ya,eG "NoRow" (.exc 4),eG "TooMany" (.exc 8)]
 bs:=["all","bool","enumerate","int","isinstance","len","list","range","str","tuple"]
 ts:=[.bool,.int,.str,.tuple]
 fl:=[]
 me:=[]
 kb:=[]
 cn:=[eN 4 "NoRow",eN 8 "TooMany"]
 dd:=[]
 ml:=[eL "MAKERS" yey]
 xs:=[]
 xc:=[]
 xm:=[]
 qh:=[]
theorem ok_all:tbQ.tbl.all (okT tbQ)=true:=by decide +kernel
theorem T_ok:∀i d,tbQ.tbl[i]?=AA d->T i=AA d.fn:=λi d h=>by
 have e:Tl=tbQ.tbl.map (·.fn):=rfl;rw[T,e,Au,h];rfl
theorem kb_all:ybn (KbP tbQ) tbQ.kb:=trivial
mutual
noncomputable def pvq:PV->PV->Bool
 |.non,.non=>AC
 |.bl a,.bl b=>a==b
 |.int i,.int j=>decide (i=j)
 |.str x,.str y=>decide (x=y)
 |.tp k xs,.tp l ys=>(k==l)&&ybW xs ys
 |.lst xs,.lst ys=>ybW xs ys
 |_,_=>AE
noncomputable def ybW:List PV->List PV->Bool
 |[],[]=>AC
 |x::xs,y::ys=>pvq x y&&ybW xs ys
 |_,_=>AE
end
mutual
theorem zjD:∀(a b:PV),pvq a b=AC->a=b
 |.non,b,h=>by cases b<;>simp[pvq]at h ⊢
 |.bl a,b,h=>by cases b<;>simp[pvq]at h ⊢;exact h
 |.int a,b,h=>by cases b<;>simp[pvq]at h ⊢;exact h
 |.str a,b,h=>by cases b<;>simp[pvq]at h ⊢;exact h
 |.tp k xs,b,h=>by
  cases b<;>simp[pvq]at h ⊢
  exact⟨h.1,zbb _ _ h.2⟩
 |.lst xs,b,h=>by
  cases b<;>simp[pvq]at h ⊢
  exact zbb _ _ h
 |.loc _,b,h=>by cases b<;>simp[pvq]at h
 |.fnc _,b,h=>by cases b<;>simp[pvq]at h
 |.exn _,b,h=>by cases b<;>simp[pvq]at h
 |.scr _,b,h=>by cases b<;>simp[pvq]at h
theorem zbb:∀(a b:List PV),ybW a b=AC->a=b
 |[],b,h=>by cases b<;>simp[ybW]at h ⊢
 |x::xs,b,h=>by
  cases b with
  |nil=>simp[ybW]at h
  |cons y ys=>
   simp[ybW]at h;rw[zjD x y h.1,zbb xs ys h.2]
end
def chS(c:Nat):Str:=⟨#[c]⟩
def yea(c:Nat)(i:Int):PV:=.tup [.str (chS c),.int i]
abbrev Mem:=Nat->Int->Int
def upd(M:Mem)(c:Nat)(i v:Int):Mem:=λd j=>if d=c/\j=i then v else M d j
def Rel(kvs:List (PV×PV))(M:Mem):Prop:=∀c i,(look (yea c i) kvs).getD (.int 0)=.int (M c i)
abbrev Cel:=Nat×Int
inductive Rw where
 |mark (d:Int)|ask (x:Cel)|set (t:Cel) (d:Int)|move (t x:Cel)|bare (t x:Cel)|twice (t x:Cel)|half (t x:Cel)
 |sum (t x y:Cel)|less (t x y:Cel)|both (t x y:Cel)|any (t x y:Cel)|odd (t x y:Cel)
def zf6{st:SO}{n:Nat}{o:Ob}(h:st[n]?=AA o):st=st.set n o:=by
 refine FG λi=>?_;rw[Ci];split
 .rename_i e;subst e;split
  .exact h
  .rename_i z;rw[Ap ∅]at h
   cases h
 .rfl
def zcn(i:Int):shp (.int i)=true:=rfl
section
variable {st:SO}{k:Bool}{a b c d e:PV}{r:List PV}{i j:Int}
theorem b_add:yw .add (.int i) (.int j)=AA (.int (i+j)):=rfl
theorem b_sub:yw .sub (.int i) (.int j)=AA (.int (i-j)):=rfl
def zgX(h:i.natAbs<18446744073709551616 \/ j.natAbs<18446744073709551616):yw .mul (.int i) (.int j)=AA (.int (i*j)):=by
 have:yaC i j=true:=by simpa [yaC] using h
 simp[yw,binI,this]
def zgn(h:i.natAbs<18446744073709551616):yw .mul (.int i) (.int j)=AA (.int (i*j)):=zgX (.inl h)
def zeS(h:j.natAbs<18446744073709551616):yw .mul (.int i) (.int j)=AA (.int (i*j)):=zgX (.inr h)
theorem b_mul2:yw .mul (.int 2) (.int j)=AA (.int (2*j)):=zgX (.inl ⋯)
def zkc(h:0<j)(h2:j<18446744073709551616*18446744073709551616):yw .fdiv (.int i) (.int j)=AA (.int (i/j)):=by
 have h3:j<10000000000000000000000000000000000000000000000000000000000000000000000:=by lia
 simp[yw,binI,h,h3]
theorem b_div2:yw .fdiv (.int i) (.int 2)=AA (.int (i/2)):=rfl
def ziY(h:0<j):yw .mod (.int i) (.int j)=AA (.int (i%j)):=if_pos h
theorem toR_some{v:PV}:toR (AA v) st=.ok v st:=rfl
def zhu:peq (.int i) (.int j)=(i==j):=rfl
theorem c_ne:yG .ne (.int i) (.int j)=AA (.bl (!(i==j))):=rfl
theorem c_eq:yG .eq (.int i) (.int j)=AA (.bl (i==j)):=rfl
theorem c_lt:yG .lt (.int i) (.int j)=AA (.bl (decide (i<j))):=rfl
theorem c_le:yG .le (.int i) (.int j)=AA (.bl (decide (i<=j))):=rfl
theorem c_gt:yG .gt (.int i) (.int j)=AA (.bl (decide (j<i))):=rfl
theorem c_ge:yG .ge (.int i) (.int j)=AA (.bl (decide (j<=i))):=rfl
theorem t_bl{b:Bool}:yas st (.bl b)=AA b:=rfl
theorem on_t{f:Bool->Fl}{b:Bool}:onF (AA b) f=f b:=rfl
theorem ono{α:Type}{f:Bool->R α}{b:Bool}:onO (AA b) f=f b:=rfl
theorem nxO_some{ρ:IC.Env}:nxO (AA ρ) st=.nx ρ st:=rfl
theorem fl_ok{α:Type}{a:α}{ρ:IC.Env}{k:α->SO->Fl}:(R.ok a st).fl ρ k=k a st:=rfl
theorem bd_ok{α β:Type}{a:α}{k:α->SO->R β}:(R.ok a st).bind k=k a st:=rfl
theorem th_nx{ρ:IC.Env}{k:IC.Env->SO->Fl}:yaE (.nx ρ st) k=k ρ st:=rfl
theorem th_rt{v:PV}{k:IC.Env->SO->Fl}:yaE (.rt v st) k=.rt v st:=rfl
theorem fl_exc{α:Type}{c:Nat}{ρ:IC.Env}{k:α->SO->Fl}:(R.exc c st:R α).fl ρ k=.exc c ρ st:=rfl
theorem bd_exc{α β:Type}{c:Nat}{k:α->SO->R β}:(R.exc c st:R α).bind k=.exc c st:=rfl
theorem th_exc{c:Nat}{ρ:IC.Env}{k:IC.Env->SO->Fl}:yaE (.exc c ρ st) k=.exc c ρ st:=rfl
theorem noLocs_ints:∀(l:List Int),nLs (l.map PV.int)=AC
 |[]=>rfl
 |_::l=>by simp[nLs,nL,noLocs_ints l]
theorem bT_n{i:Nat}{v:PV}{ρ:IC.Env}:yo (.n i) v ρ=AA (ρ.set i (AA v)):=rfl
end
def yad:PV:=.tup [.int 2147483647,.int 2147483629,.int 2147483587,.int 2147483579,.int 2147483563]
def ycH:Css:=match yaf.body with
 |.cons _ (.cons _ (.cons (.for _ _ b) _))=>b
 |_=>.nil
def zaI{c:Cl}{s num g p:Int}{i:Nat}{u5 u6 u7:Option PV}(hg:∀st,idxV st (.tup [.int 11,.int 101,.int 1009,.int 10007,.int 100003]) (.int i)=AA (.int g))(hi:i<5)(hp:0<p)(hp2:p<18446744073709551616):
  ∃num' v5 v6 v7,exs c [AA (.int s),AA yad,AA (.int num),AA (.int i),AA (.int p),u5,u6,u7] [] ycH=.nx [AA (.int s),AA yad,AA (.int num'),AA (.int i),AA (.int p),v5,v6,v7] []:=by
 have h1:∀z:Int,yw .mul (.int z) (.int (48271+2*(i:Int)))=AA (.int (z*(48271+2*(i:Int)))):=λz=>zeS ∅;have h2:∀z y:Int,yw .mul (.int z) (.int (y%p))=AA (.int (z*(y%p))):=λz y=>zeS (by
  have a:=ED y (show p≠0 by lia);have b:=DZ y hp;lia)
 have h3:∀z:Int,yw .mul (.int z) (.int p)=AA (.int (z*p)):=λz=>zeS ∅;erw[ycH,yaf,Af,Bp,Nat.zero_add,Nat.reduceAdd,if_true,xs_cons,xs_nil,x_asg,IC.ve1,IC.ve2,IC.ve3,IC.ve11,IC.ve16,evs,Ai,Ag,bd_ok,fl_ok,toR_some,bT_n,nxO_some,th_nx,BR,BS,sizeMax,Nat.reduceLeDiff,b_add,b_mul2,hg,h1,h2,h3,ziY hp];exact⟨_,_,_,_,rfl⟩
def zfx{c:Cl}{s num:Int}{u5 u6 u7:Option PV}(i:Nat)(p:Int)(h:(i,p)∈[(0,(2147483647:Int)),(1,2147483629),(2,2147483587),(3,2147483579),(4,2147483563)]):
  ∃num' v5 v6 v7,exs c [AA (.int s),AA yad,AA (.int num),AA (.int i),AA (.int p),u5,u6,u7] [] ycH=.nx [AA (.int s),AA yad,AA (.int num'),AA (.int i),AA (.int p),v5,v6,v7] []:=by
 erw[A8,Prod.mk.injEq,BU,or_false]at h;rcases h with⟨rfl,rfl⟩|⟨rfl,rfl⟩|⟨rfl,rfl⟩|⟨rfl,rfl⟩|⟨rfl,rfl⟩
 .exact zaI (λ_=>rfl) ⋯ ⋯ ⋯
 .exact zaI (λ_=>rfl) ⋯ ⋯ ⋯
 .exact zaI (λ_=>rfl) ⋯ ⋯ ⋯
 .exact zaI (λ_=>rfl) ⋯ ⋯ ⋯
 .exact zaI (λ_=>rfl) ⋯ ⋯ ⋯
def ydl:List PV:=[.tup [.int 0,.int 2147483647],.tup [.int 1,.int 2147483629],.tup [.int 2,.int 2147483587],.tup [.int 3,.int 2147483579],.tup [.int 4,.int 2147483563]]
theorem mixed(k:Nat)(s:Int)(st:SO):∃num,yd T (k+1) yet [.int s] st=.ok (.int num) st:=by
 let⟨ρ',st',h,num,a,b,c,d,e,e1,e2⟩:=zcz (call:=yd T k) (t:=.t [3,4]) (b:=ycH) (λ_ ρ st=>∃num a b c d e,ρ=[AA (.int s),AA yad,AA (.int num),a,b,c,d,e]/\st=[]) ydl 0 [AA (.int s),AA yad,AA (.int 0),AB,AB,AB,AB,AB] [] ⟨_,_,_,_,_,_,rfl,rfl⟩ (by
  rintro j x ρ st hx ⟨num,a,b,c,d,e,rfl,rfl⟩
  have hx:=AY hx;have hx:∃i p,x=.tup [.int ((i:Nat):Int),.int p]/\(i,p)∈[(0,(2147483647:Int)),(1,2147483629),(2,2147483587),(3,2147483579),(4,2147483563)]:=by
   erw[ydl,A8,BU,or_false]at hx;rcases hx with rfl|rfl|rfl|rfl|rfl
   .exact⟨0,_,rfl,by simp⟩
   .exact⟨1,_,rfl,by simp⟩
   .exact⟨2,_,rfl,by simp⟩
   .exact⟨3,_,rfl,by simp⟩
   .exact⟨4,_,rfl,by simp⟩
  let⟨i,p,rfl,hm⟩:=hx;let⟨num',v5,v6,v7,hh⟩:=zfx (c:=yd T k) (s:=s) (num:=num) (u5:=c) (u6:=d) (u7:=e) i p hm;exact⟨_,_,_,rfl,hh,_,_,_,_,_,_,rfl,rfl⟩)
 subst e1 e2;refine⟨num,?_⟩;rw[yd];have hb:yaf.body=.cons (.asg (.n 1) (.tup (.cons (.cst (.int 2147483647)) (.cons (.cst (.int 2147483629)) (.cons (.cst (.int 2147483587)) (.cons (.cst (.int 2147483579)) (.cons (.cst (.int 2147483563)) .nil))))))) (.cons (.asg (.n 2) (.cst (.int 0))) (.cons (.for (.t [3,4]) (.enum (.var 1)) ycH) (.cons (.ret (.var 2)) .nil))):=rfl;have hT:T yet=AA ⟨1,8,AC,yaf.body⟩:=rfl;have hp:PV.tup [.int 2147483647,.int 2147483629,.int 2147483587,.int 2147483579,.int 2147483563]=yad:=rfl;rw[hT,hb];have h5:ev (yd T k) [AA (.int s),AB,AB,AB,AB,AB,AB,AB] [] (.tup (.cons (.cst (.int 2147483647)) (.cons (.cst (.int 2147483629)) (.cons (.cst (.int 2147483587)) (.cons (.cst (.int 2147483579)) (.cons (.cst (.int 2147483563)) .nil))))))=.ok yad []:=by
  simp[IC.ve1,IC.ve11,evs,R.bind,sizeMax,yad]
 have he:evi (yd T k) [AA (.int s),AA yad,AA (.int 0),AB,AB,AB,AB,AB] [] (.enum (.var 1))=.ok ydl []:=by
  simp[evi,IC.ve2,R.bind,yad,yS,ydl]
 erw[Af,Bp,if_true,nLs,nL,CN,AR,B0,E7,Am,Cq,C3,xs_cons,xs_nil,x_asg,x_for,x_ret,h5,R.fl,yo,nxO,yaE,BR,BS,IC.ve1,he,h,IC.ve2,Ai,Ag]
def zc3(f:PV->Bool):∀xs:List PV,allB (xs.map λx=>.bl (f x))=AA (xs.all f)
 |[]=>rfl
 |x::xs=>by simp[allB,zc3 f xs]
def zx(ys:List PV)(h:ys.length<=1000000)(st:SO):yaZ (.ok ys st)=.ok (.lst ys) st:=by simp[yaZ,h]
def zhL(f:PV->Bool)(xs:List PV)(st:SO):yag .all st [.lst (xs.map λx=>.bl (f x))]=AA (.bl (xs.all f)):=by
 simp[yag,yD,zc3]
def zcU(n:Nat)(h:n<1000):ybS (.int (n:Int))=AA (yq n 0 1):=by
 simp[ybS];lia
def zX{z:Int}(h:0<=z):∃n:Nat,z=n:=⟨z.toNat,by lia⟩
def yce(st:SO)(f:Fl):R PV:=
 match f with
 |.rt v _=>if nL v then .ok v st else .bad
 |.nx _ _=>.ok .non st
 |.exc c _ _=>.exc c st
 |_=>.bad
def zD{T:Nat->Option IC.Fn}{k f:Nat}{fn:IC.Fn}{args:List PV}{st:SO}(hT:T f=AA fn)(hp:fn.pure=AC)(hl:args.length=fn.np)(hn:nLs args=AC):
  yd T (k+1) f args st=yce st (exs (yd T k) (args.map AA++Am (fn.ns-fn.np) AB) [] fn.body):=by
 rw[yd,hT];dsimp only;rw[if_pos hl,if_pos hp,if_pos hn];rfl
def outI(f:Fl):R PV:=
 match f with
 |.rt v st1=>.ok v st1
 |.nx _ st1=>.ok .non st1
 |.exc c _ st1=>.exc c st1
 |_=>.bad
def zz{T:Nat->Option IC.Fn}{k f:Nat}{fn:IC.Fn}{args:List PV}{st:SO}(hT:T f=AA fn)(hp:fn.pure=AE)(hl:args.length=fn.np):
  yd T (k+1) f args st=outI (exs (yd T k) (args.map AA++Am (fn.ns-fn.np) AB) st fn.body):=by
 rw[yd,hT];dsimp only;rw[if_pos hl,hp,if_neg (by simp)];rfl
def zcD{st:SO}{v:PV}:outI (.rt v st)=.ok v st:=rfl
set_option backward.eqns.nonrecursive true
local macro_rules | `(tactic| simp! [$xs,*])=>do
 let l<-("IC.xs_cons IC.xs_nil IC.x_asg IC.x_ite IC.x_ret IC.x_expr IC.x_for IC.x_six IC.x_raise IC.evs IC.evi IC.ve1 IC.ve2 IC.ve3 IC.ve5 IC.ve6 IC.ve7 IC.ve8 IC.ve10 IC.ve11 IC.ve12 IC.ve13 IC.ve16 IC.ve17 IC.ve18 IC.ve19 IC.ve20 IC.ve21 IC.ve24 IC.ve25 IC.ve26 IC.v_comp List.getElem?_cons_zero List.getElem?_cons_succ WK.bd_ok WK.fl_ok WK.bd_exc WK.fl_exc WK.toR_some IC.toL WK.bT_n WK.nxO_some WK.th_nx WK.th_rt WK.th_exc List.set_cons_zero List.set_cons_succ WK.on_t WK.t_bl WK.ono IC.onBl cond_true cond_false List.length_cons List.length_nil Nat.zero_add Nat.reduceAdd Nat.reduceSub Nat.reduceLeDiff if_true IC.nL IC.nLs WK.noLocs_ints Bool.and_self Bool.not_true Bool.not_false List.map_cons List.map_nil List.replicate List.cons_append List.nil_append List.append_nil Option.bind_none Option.bind_some Option.join_some WK.b_add WK.b_sub WK.b_mul2 WK.b_div2 WK.c_lt WK.c_le WK.c_gt WK.c_ge WK.c_eq WK.c_ne IC.PV.tup IC.sizeMax".splitOn " ").toArray.mapM λs=>`(Lean.Parser.Tactic.simpLemma| $(Lean.mkIdent s.toName):term)
 `(tactic| simp only[$l,*,$xs,*])
theorem rdS{st:SO}{n:Nat}{o x:Ob}(h:st[n]?=AA o):(st.set n x)[n]?=AA x:=by
 have:n<st.length:=by
  rcases Dx n st.length with h1|h1
  .exact h1
  .rw[Ap h1]at h;cases h
 rw[Aa this]
def zjM(ns:List Int)(a:Int)(h:ns≠[]):∃v,yaU (ns.map PV.int) (.int (a%(ns.length:Int)))=AA (.int v):=by
 have h0:0<ns.length:=E3.2 h;have h1:=ED a (show (ns.length:Int)≠0 by lia);have h2:=DZ a (show (0:Int)<ns.length by lia);have h3:(a%(ns.length:Int)).toNat<ns.length:=by lia
 refine⟨ns[(a%(ns.length:Int)).toNat],?_⟩;simp[yaU,at?,ixI,h1,h2,h3]
def flT:Css:=match yO.body with
 |.cons _ (.cons _ (.cons _ t))=>t
 |x=>x
abbrev flS(l:PV)(a p:Int)(f:Bool):Ob:=.lst [l,.int a,.int p,.bl f]
def zkB{st:SO}{n:Nat}{l:PV}{a p v:Int}{f:Bool}(h:st[n]?=AA (flS l a p f)):ya1 st (.loc n) (.int 1) (.int v)=AA (st.set n (flS l v p f)):=by erw[ya1,h];rfl
def zkh{st:SO}{n:Nat}{l:PV}{a p v:Int}{f:Bool}(h:st[n]?=AA (flS l a p f)):ya1 st (.loc n) (.int 2) (.int v)=AA (st.set n (flS l a v f)):=by erw[ya1,h];rfl
def zkk{st:SO}{n:Nat}{l:PV}{a p:Int}{f g:Bool}(h:st[n]?=AA (flS l a p f)):ya1 st (.loc n) (.int 3) (.bl g)=AA (st.set n (flS l a p g)):=by erw[ya1,h];rfl
def zle{st:SO}{n:Nat}{l:PV}{a p:Int}{f:Bool}(h:st[n]?=AA (flS l a p f)):idxV st (.loc n) (.int 0)=AA l:=by erw[idxV,h];rfl
def zlf{st:SO}{n:Nat}{l:PV}{a p:Int}{f:Bool}(h:st[n]?=AA (flS l a p f)):idxV st (.loc n) (.int 1)=AA (.int a):=by erw[idxV,h];rfl
def zlg{st:SO}{n:Nat}{l:PV}{a p:Int}{f:Bool}(h:st[n]?=AA (flS l a p f)):idxV st (.loc n) (.int 3)=AA (.bl f):=by erw[idxV,h];rfl
theorem p18:yw .pow (.int 10) (.int 18)=AA (.int 1000000000000000000):=by with_unfolding_all rfl
def zcC(k n:Nat){l:PV}{m a v p q:Int}{f g:Bool}{st:SO}(h:st[n]?=AA (flS l a p f))(hl:∀st,yag .len st [l]=AA (.int m))(hg:(decide (a ≥ m) || decide (v<1000000000000000000))=g)
  (h1:g=AC->yd T (k+1) yet [.int v] (st.set n (flS l (a+1) p AC))=.ok (.int q) (st.set n (flS l (a+1) p AC))) (h2:g=AE->q=v-1000000000000000000):
  exs (yd T (k+1)) [AA (.loc n),AA l,AA (.int a),AA (.int v)] st flT=.nx [AA (.loc n),AA l,AA (.int a),AA (.int v)] (st.set n (flS l (a+1) q g)):=by
 have s1:=zkB h (v:=a+1);have r1:=rdS h (x:=flS l (a+1) p f);have s2:=zkk r1 (g:=g);have r2:=rdS r1 (x:=flS l (a+1) p g);have s3:=zkh r2 (v:=q);have i3:=zlg r2;rw[Dy]at s2 s3 i3 r2;rw[Dy]at s3
 have hb:flT=(match flT with
  |.cons a (.cons (.six x y _) r)=>.cons a (.cons (.six x y (.or (.cmp .ge (.var 2) (.blt .len (.cons (.var 1) .nil))) (.cmp .lt (.var 3) (.bin .pow (.cst (.int 10)) (.cst (.int 18)))))) r)
  |x=>x):=rfl
 have hor:∀st,ev (yd T (k+1)) [AA (.loc n),AA l,AA (.int a),AA (.int v)] st (.or (.cmp .ge (.var 2) (.blt .len (.cons (.var 1) .nil))) (.cmp .lt (.var 3) (.bin .pow (.cst (.int 10)) (.cst (.int 18)))))=.ok (.bl g) st:=λst=>by
  cases c:decide (a ≥ m)
  .rw[c,Fh]at hg;simp! [hl,c,p18,hg]
  .rw[c,Fx]at hg;subst hg;simp! [hl,c]
 generalize hE:(Ce.or (.cmp .ge (.var 2) (.blt .len (.cons (.var 1) .nil))) (.cmp .lt (.var 3) (.bin .pow (.cst (.int 10)) (.cst (.int 18)))))=E at *
 cases g with
 |true=>
  have h1:=h1 rfl;rw[hb];simp! [flT,yO,stO,s1,hor,s2,i3,h1,s3]
 |false=>
  have h2:=h2 rfl;subst h2;rw[hb];simp! [flT,yO,stO,s1,hor,s2,i3,p18,s3]
theorem fill(k n:Nat)(ns:List Int)(hns:ns.length<=1000)(a p:Int)(ha:0<=a)(f:Bool)(st:SO)(h:st[n]?=AA (.lst [.lst (ns.map .int),.int a,.int p,.bl f])):
  ∃p' f',yd T (k+2) ygh [.loc n] st=.ok .non (st.set n (.lst [.lst (ns.map .int),.int (a+1),.int p',.bl f'])):=by
 have hT:T ygh=AA ⟨1,4,AE,yO.body⟩:=rfl;have hl:∀st,yag .len st [.lst (ns.map .int)]=AA (.int (ns.length:Int)):=λst=>by
  show AA (PV.int (((ns.map PV.int).length:Nat):Int))=_;simp
 have i0:=zle h;have i1:=zlf h;have bt:∀(a b:PV) (ρ:IC.Env),yo (.t [1,2]) (.tp AE [a,b]) ρ=AA ((ρ.set 1 (AA a)).set 2 (AA b)):=λ_ _ _=>rfl
 have hb:yO.body=(match yO.body with
  |.cons a (.cons b (.cons c _))=>.cons a (.cons b (.cons c flT))
  |x=>x):=rfl
 have m31:yw .mul (.int 31) (.int a)=AA (.int (31*a)):=zgn ⋯;obtain⟨v,hv⟩:∃v,exs (yd T (k+1)) [AA (.loc n),AB,AB,AB] st yO.body=exs (yd T (k+1)) [AA (.loc n),AA (.lst (ns.map .int)),AA (.int a),AA (.int v)] st flT:=by
  by_cases hn:ns=[]
  .have c0:decide ((ns.length:Int) > 0)=false:=by subst hn;rfl
   refine⟨31*a+7,?_⟩;rw[hb];generalize flT=F,ns.map PV.int=L at *;simp! [yO,i0,i1,bt,m31,hl,c0]
  .have h0:0<ns.length:=E3.2 hn;let⟨v,hv⟩:=zjM ns a hn;have c0:decide ((ns.length:Int) > 0)=true:=decide_eq_true ∅;have d1:=zkc (i:=a) (j:=(ns.length:Int)) ∅ ∅;have d2:=ziY (i:=a) (j:=(ns.length:Int)) ∅;have m1:yw .mul (.int 104729) (.int (a/(ns.length:Int)))=AA (.int (104729*(a/(ns.length:Int)))):=zgn ⋯;have ix:∀st,idxV st (.lst (ns.map .int)) (.int (a%(ns.length:Int)))=AA (.int v):=λ_=>hv;refine⟨104729*(a/(ns.length:Int))+v,?_⟩;rw[hb];generalize flT=F,ns.map PV.int=L at *;simp! [yO,i0,i1,bt,m31,hl,c0,d1,d2,m1,ix]
 cases c:(decide (a ≥ (ns.length:Int)) || decide (v<1000000000000000000))with
 |true=>
  let⟨q,hq⟩:=mixed k v (st.set n (flS (.lst (ns.map .int)) (a+1) p AC));refine⟨q,AC,?_⟩;rw[zz hT rfl rfl];have e:=zcC k n h hl c (λ_=>hq) (λh=>nomatch h);rw[<-hv]at e;exact(congrArg _ e).trans rfl
 |false=>
  refine⟨v-1000000000000000000,AE,?_⟩;rw[zz hT rfl rfl];have e:=zcC k n h hl c (λh=>nomatch h) (λ_=>rfl);rw[<-hv]at e;exact(congrArg _ e).trans rfl
def ya2:Ce:=match yK.body with
 |.cons _ (.cons (.while c _) _)=>c
 |_=>.nope
def ybd:Css:=match yK.body with
 |.cons _ (.cons (.while _ b) _)=>b
 |_=>.nil
def ze2{c:Cl}{n:Nat}{ns:List Int}{a p m t:Int}{f:Bool}{u:Option PV}{st:SO}(h:st[n]?=AA (.lst [.lst (ns.map .int),.int a,.int p,.bl f])):
  ∃B,ev c [AA (.loc n),AA (.int m),AA (.int t),u] st ya2=.ok (.bl B) st/\(B=AC->t<64):=by
 by_cases h1:t<64
 .by_cases h2:p=0
  .refine⟨AC,?_,λ_=>h1⟩;erw[ya2,yK,IC.ve1,IC.ve2,IC.ve3,IC.ve6,IC.ve7,IC.ve8,IC.ve16,R.bind,Ai,Ag,h,idxV,yaU,at?,ixI,yw,binI,yaC,toR,yG,ybz,onBl];simp[h1,h2,zcn,zhu]
  .have h2:(p==0)=false:=by simp[h2]
   cases f
   .refine⟨AE,?_,λ_=>h1⟩;erw[ya2,yK,IC.ve1,IC.ve2,IC.ve3,IC.ve6,IC.ve7,IC.ve8,IC.ve16,R.bind,Ai,Ag,h,idxV,yaU,at?,ixI,yw,binI,yaC,toR,yG,ybz,onBl];simp[h,h1,h2,zcn,zhu]
   .refine⟨decide (p<m*4096),?_,λ_=>h1⟩;erw[ya2,yK,IC.ve1,IC.ve2,IC.ve3,IC.ve6,IC.ve7,IC.ve8,IC.ve16,R.bind,Ai,Ag,h,idxV,yaU,at?,ixI,yw,binI,yaC,toR,yG,ybz,onBl];simp[h,h1,h2,zcn,zhu]
 .refine⟨AE,?_,λz=>by cases z⟩;erw[ya2,yK,IC.ve1,IC.ve2,IC.ve3,IC.ve6,IC.ve7,IC.ve8,IC.ve16,R.bind,Ai,Ag,h,idxV,yaU,at?,ixI,yw,binI,yaC,toR,yG,ybz,onBl];simp[h1]
def zdQ(k:Nat){n:Nat}{ns:List Int}(hns:ns.length<=1000){a p m t:Int}(ha:0<=a){f:Bool}{u:Option PV}{st:SO}(h:st[n]?=AA (.lst [.lst (ns.map .int),.int a,.int p,.bl f])):
  ∃p' f',exs (yd T (k+2)) [AA (.loc n),AA (.int m),AA (.int t),u] st ybd=.nx [AA (.loc n),AA (.int m),AA (.int (t+1)),u] (st.set n (.lst [.lst (ns.map .int),.int (a+1),.int p',.bl f'])):=by
 let⟨q,g,hq⟩:=fill k n ns hns a p ha f st h;have hm:(1+q%4093).natAbs<18446744073709551616:=by lia
 have hau:∀st,ex (yd T (k+2)) [AA (.loc n),AA (.int m),AA (.int t),u] st (.aug 2 .add (.cst (.int 1)))=.nx [AA (.loc n),AA (.int m),AA (.int (t+1)),u] st:=λst=>by
  rw[x_aug (x:=.int t) rfl];simp[IC.ve1,R.fl,yba,yw,binI,nxO]
 cases g
 .refine⟨q,AE,?_⟩;erw[ybd,yK,xs_cons,xs_nil,x_expr,x_ite,x_six,hau,yaE,nxO,IC.ve1,IC.ve2,IC.ve3,IC.ve6,IC.ve8,IC.ve16,IC.ve18,evs,R.fl,R.bind,hq,yba,yw,binI,Bq,BR,BS,Ai,Ag,rdS h,idxV,yaU,at?,ixI,yaC,toR,yG,ybz,onBl,onF,yas];simp[rdS h]
 .by_cases hl:q<m*4096
  .refine⟨q+m*4096*(1+q%4093),AC,?_⟩;erw[ybd,yK,xs_cons,xs_nil,x_expr,x_ite,x_six,hau,yaE,nxO,IC.ve1,IC.ve2,IC.ve3,IC.ve6,IC.ve8,IC.ve16,IC.ve18,evs,R.fl,R.bind,hq,yba,yw,binI,Bq,BR,BS,Ai,Ag,rdS h,idxV,yaU,at?,ixI,yaC,toR,yG,ybz,onBl,onF,yas,stO,ya1];simp[rdS h,hl,hm]
  .refine⟨q,AC,?_⟩;erw[ybd,yK,xs_cons,xs_nil,x_expr,x_ite,x_six,hau,yaE,nxO,IC.ve1,IC.ve2,IC.ve3,IC.ve6,IC.ve8,IC.ve16,IC.ve18,evs,R.fl,R.bind,hq,yba,yw,binI,Bq,BR,BS,Ai,Ag,rdS h,idxV,yaU,at?,ixI,yaC,toR,yG,ybz,onBl,onF,yas];simp[rdS h,hl]
def zbz(k:Nat){n:Nat}{ns:List Int}(hns:ns.length<=1000){m:Int}{u:Option PV}:∀(r N:Nat) (t a p:Int) (f:Bool) (st:SO),r<=N->64-t<=r->0<=a->st[n]?=AA (.lst [.lst (ns.map .int),.int a,.int p,.bl f]) ->
  ∃t' a' p' f',0<=a'/\yak (yd T (k+2)) ya2 ybd (N+1) [AA (.loc n),AA (.int m),AA (.int t),u] st=.nx [AA (.loc n),AA (.int m),AA (.int t'),u] (st.set n (.lst [.lst (ns.map .int),.int a',.int p',.bl f']))
 |r,N,t,a,p,f,st,hN,ht,ha,h=>by
  let⟨B,hB,hb⟩:=ze2 (c:=yd T (k+2)) (m:=m) (t:=t) (u:=u) h;have hs:st.set n (.lst [.lst (ns.map .int),.int a,.int p,.bl f])=st:=by
   refine FG λi=>?_;rw[Ci];split
   .rename_i e;subst e;split
    .exact h.symm
    .rename_i z;rw[Ap ∅]at h
     cases h
   .rfl
  cases B with
  |false=>exact⟨t,a,p,f,ha,by rw[zT hB rfl,hs]⟩
  |true=>
   have h64:=hb rfl
   match r,N with
   |0,_=>exact absurd ht ∅
   |r+1,N+1=>
    let⟨p1,f1,hx⟩:=zdQ k hns (m:=m) (t:=t) ha (u:=u) h;let⟨t',a',p',f',h0,h2⟩:=zbz k hns (m:=m) (u:=u) r N (t+1) (a+1) p1 f1 _ ∅ ∅ ∅ (rdS h);refine⟨t',a',p',f',h0,?_⟩;rw[zbN hB rfl hx,h2,Dy]
theorem take(k n:Nat)(ns:List Int)(hns:ns.length<=1000)(a p m:Int)(ha:0<=a)(hm:0<m)(hm2:m<10000000000000000000000000000000000000000000000000000000000000000000000)(f:Bool)(st:SO)(h:st[n]?=AA (.lst [.lst (ns.map .int),.int a,.int p,.bl f])):
  ∃d a' p' f',0<=d/\d<m/\0<=a'/\yd T (k+3) yeu [.loc n,.int m] st=.ok (.int d) (st.set n (.lst [.lst (ns.map .int),.int a',.int p',.bl f'])):=by
 let⟨t',a',p',f',h0,h2⟩:=zbz k hns (m:=m) (u:=AB) 64 99999 0 a p f st ∅ ∅ ha h;refine⟨p'%m,a',p'/m,f',ED _ ∅,DZ _ hm,h0,?_⟩;have hb:yK.body=.cons (.asg (.n 2) (.cst (.int 0))) (.cons (.while ya2 ybd) (.cons (.asg (.n 3) (.bin .mod (.idx (.var 0) (.cst (.int 2))) (.var 1))) (.cons (.six (.var 0) (.cst (.int 2)) (.bin .fdiv (.idx (.var 0) (.cst (.int 2))) (.var 1))) (.cons (.ret (.var 3)) .nil)))):=rfl;have hT:T yeu=AA ⟨2,4,AE,yK.body⟩:=rfl;rw[yd,hT,hb];erw[Af,Bp,if_true,AR,B0,E7,Am,Cq,C3,xs_cons,xs_nil,x_asg,x_while,x_six,x_ret,yaE,nxO,stO,IC.ve1,IC.ve2,IC.ve3,IC.ve16,R.fl,R.bind,yo,BR,BS,Ai,Ag,h2,rdS h,idxV,yaU,at?,ixI,yw,binI,hm,hm2,and_self,toR,ya1];simp[rdS h,hm,hm2]
def Drw(ns:List Int)(n:Nat)(st:SO):Prop:=∃a p f,0<=a/\st[n]?=AA (.lst [.lst (ns.map .int),.int a,.int p,.bl f])
def Onl(ns:List Int)(n:Nat)(st st':SO):Prop:=∃a p f,0<=a/\st'=st.set n (.lst [.lst (ns.map .int),.int a,.int p,.bl f])
theorem Onl.drw{ns:List Int}{n:Nat}{st st':SO}(h:Drw ns n st)(o:Onl ns n st st'):Drw ns n st':=by
 let⟨a,p,f,ha,h⟩:=h;let⟨b,q,g,hb,rfl⟩:=o;exact⟨b,q,g,hb,rdS h⟩
theorem Onl.trans{ns:List Int}{n:Nat}{st st1 st2:SO}(o:Onl ns n st st1)(o2:Onl ns n st1 st2):Onl ns n st st2:=by
 let⟨b,q,g,hb,rfl⟩:=o;let⟨c,r,j,hc,rfl⟩:=o2;exact⟨c,r,j,hc,by rw[Dy]⟩
def zkE(k:Nat){n:Nat}{ns:List Int}(hns:ns.length<=1000){m:Int}(hm:0<m)(hm2:m<10000000000000000000000000000000000000000000000000000000000000000000000){st:SO}(h:Drw ns n st):
  ∃d st',0<=d/\d<m/\Onl ns n st st'/\yd T (k+3) yeu [.loc n,.int m] st=.ok (.int d) st':=by
 let⟨a,p,f,ha,h⟩:=h;let⟨d,a',p',f',h1,h2,h3,h4⟩:=take k n ns hns a p m ha hm hm2 f st h;exact⟨d,_,h1,h2,⟨_,_,_,h3,rfl⟩,h4⟩
theorem fresh(k:Nat)(ns:List Int)(h:ns.length<=63)(st:SO):∃v,yd T (k+1) yf7 [.scr (ns.map .int)] st=.ok (.loc st.length) (st++[v])/\v=.lst [.lst (ns.map .int),.int 0,.int 0,.bl AE]:=by
 have hT:T yf7=AA ybf:=rfl;refine⟨_,?_,rfl⟩;rw[yd,hT];erw[ybf,Af,Bp,if_true,AR,B0,E7,Am,Cq,C3,xs_cons,xs_nil,x_ret,yaE,ev,evs,R.fl,R.bind,Ai,toR];have hc:ybT (.scr (ns.map PV.int)) AB (.int 63)=AA (.lst (ns.map .int)):=by
  have hk:yaw ns.length 63=ns.length:=by
   show min 63 ns.length=ns.length;lia
  simp[ybT,ybm,ybL,cut,yb3,ycj,hk]
  try rw[<-Ak (f:=PV.int),FR]
 simp[ybm,onP,hc,sizeMax]
theorem Drw.refl{ns:List Int}{n:Nat}{st:SO}(h:Drw ns n st):Onl ns n st st:=by
 let⟨a,p,f,ha,h⟩:=h;exact⟨a,p,f,ha,zf6 h⟩
theorem Drw.pos{ns:List Int}{st:SO}(h:Drw ns 0 st):0<st.length:=by
 let⟨a,p,f,ha,h⟩:=h;rcases Dx 0 st.length with z|z
 .exact z
 .rw[Ap z]at h;cases h
theorem Drw.put{ns:List Int}{st:SO}(h:Drw ns 0 st){L:Nat}(hL:L≠0)(o:Ob):Drw ns 0 (st.set L o):=by
 let⟨a,p,f,ha,h⟩:=h;exact⟨a,p,f,ha,by rw[A3 hL];exact h⟩
theorem Onl.get{ns:List Int}{st st':SO}(o:Onl ns 0 st st'){L:Nat}(hL:L≠0):st'[L]?=st[L]?:=by
 let⟨a,p,f,ha,rfl⟩:=o;rw[A3 (BI hL)]
def zc9(l:List Int):nLs [PV.scr (l.map .int)]=true:=by simp[nLs,nL,noLocs_ints]
theorem Onl.len{ns:List Int}{n:Nat}{st st':SO}(o:Onl ns n st st'):st'.length=st.length:=by
 let⟨a,p,f,ha,rfl⟩:=o;rw[BF]
local macro_rules | `(tactic| simp! [$xs,*])=>do
 let l<-("IC.xs_cons IC.xs_nil IC.x_asg IC.x_ite IC.x_ret IC.x_expr IC.x_for IC.x_six IC.x_raise IC.evs IC.evi IC.ve1 IC.ve2 IC.ve3 IC.ve5 IC.ve6 IC.ve7 IC.ve8 IC.ve10 IC.ve11 IC.ve12 IC.ve13 IC.ve16 IC.ve17 IC.ve18 IC.ve19 IC.ve20 IC.ve21 IC.ve24 IC.ve25 IC.ve26 IC.ve31 IC.v_comp List.getElem?_cons_zero List.getElem?_cons_succ WK.bd_ok WK.fl_ok WK.bd_exc WK.fl_exc WK.toR_some IC.toL WK.bT_n WK.nxO_some WK.th_nx WK.th_rt WK.th_exc List.set_cons_zero List.set_cons_succ WK.on_t WK.t_bl WK.ono IC.onBl cond_true cond_false List.length_cons List.length_nil Nat.zero_add Nat.reduceAdd Nat.reduceSub Nat.reduceLeDiff if_true IC.nL IC.nLs WK.noLocs_ints Bool.and_self Bool.not_true Bool.not_false List.map_cons List.map_nil List.replicate List.cons_append List.nil_append List.append_nil Option.bind_none Option.bind_some Option.join_some WK.b_add WK.b_sub WK.b_mul2 WK.b_div2 WK.c_lt WK.c_le WK.c_gt WK.c_ge WK.c_eq WK.c_ne IC.PV.tup IC.sizeMax".splitOn " ").toArray.mapM λs=>`(Lean.Parser.Tactic.simpLemma| $(Lean.mkIdent s.toName):term)
 `(tactic| simp only[$l,*,$xs,*])
def rws:List Str:=[A4 "add",A4 "less",A4 "swap",A4 "copy",A4 "twice",A4 "half",A4 "bare",A4 "both",A4 "any",A4 "odd",A4 "nought",A4 "clear",A4 "one"]
abbrev T3:=Int×Int×Int
def t3(t:T3):PV:=.tp AE [.int t.1,.int t.2.1,.int t.2.2]
def r3:R PV->Option T3
 |.ok (.tp AE [.int x,.int y,.int z]) _=>AA (x,y,z)
 |_=>AB
def zbX{r:R PV}{p:T3}(h:r3 r=AA p):∃st,r=.ok (t3 p) st:=by
 unfold r3 at h;split at h
 .cases h;exact⟨_,rfl⟩
 .cases h
def W3(w:Nat)(t:T3):Prop:=0<=t.1/\t.1<((2^w:Nat):Int)/\0<=t.2.1/\t.2.1<((2^w:Nat):Int)/\0<=t.2.2/\t.2.2<2
instance (w:Nat) (t:T3):Decidable (W3 w t):=by unfold W3;infer_instance
def sd(w:Nat)(r:AM)(t:T3):T3:=(r3 (yd T 5 yl [.str r,.int w,.int t.1,.int t.2.1,.int t.2.2] [])).getD t
def sts(w:Nat):List T3:=(Cm (2^w)).flatMap λ(a:Nat)=>(Cm (2^w)).flatMap λ(b:Nat)=>(Cm 2).map λ(c:Nat)=>(((a:Int),(b:Int),(c:Int)):T3)
def yeT(w:Nat)(r:AM)(t:T3):Bool:=
 match r3 (yd T 5 yl [.str r,.int w,.int t.1,.int t.2.1,.int t.2.2] []),r3 (yd T 5 ygk [.str r,.int ((2^w:Nat):Int),.int t.1,.int t.2.1,.int t.2.2] [])with
 |some p,AA q=>decide (p=q)&&decide (W3 w p)
 |_,_=>AE
def ydf(w:Nat)(r:AM):Bool:=(sts w).all (yeT w r)
theorem ck1:(rws.all (ydf 1))=true:=by decide +kernel
theorem ck2:(rws.all (ydf 2))=true:=by decide +kernel
theorem ck3:(rws.all (ydf 3))=true:=by decide +kernel
def zb9{w:Nat}{t:T3}(h:W3 w t):t∈sts w:=by
 let⟨x,y,z⟩:=t;let⟨a0,a1,b0,b1,c0,c1⟩:=h;let⟨a,rfl⟩:=zX a0;let⟨b,rfl⟩:=zX b0;let⟨c,rfl⟩:=zX c0;erw[sts,Cr,Ba,DI];dsimp only at a1 b1 c1;generalize 2^w=W at *;exact⟨a,by lia,b,by lia,c,by lia,rfl⟩
def zgW{w:Nat}{t:T3}(h:t∈sts w):W3 w t:=by
 erw[sts,Cr,Ba,DI]at h;let⟨a,ha,b,hb,c,hc,rfl⟩:=h;unfold W3;dsimp only;generalize 2^w=W at *;lia
def zaG{k f:Nat}{fn:IC.Fn}{args:List PV}{v:PV}{s:SO}(hT:T f=AA fn)(hp:fn.pure=AC)(hl:args.length=fn.np)(hn:nLs args=AC)(h:yd T (k+1) f args []=.ok v s)(st:SO):yd T (k+1) f args st=.ok v st:=by
 rw[zD hT hp hl hn]at h ⊢;unfold yce at h ⊢;split at h
 .rename_i v1 s1 e;split at h
  .rename_i q;rw[if_pos q];injection h with h1 h2;rw[h1]
  .cases h
 .rename_i e;injection h with h1 h2;rw[<-h1]
 .cases h
 .cases h
abbrev Wid(w:Nat):Prop:=w=1 \/ w=2 \/ w=3
def zdL{w:Nat}(hw:Wid w){r:AM}(hr:r∈rws){t:T3}(h:W3 w t)(k:Nat)(st:SO):W3 w (sd w r t)/\yd T (k+5) yl [.str r,.int w,.int t.1,.int t.2.1,.int t.2.2] st=.ok (t3 (sd w r t)) st /\
  yd T (k+5) ygk [.str r,.int ((2^w:Nat):Int),.int t.1,.int t.2.1,.int t.2.2] st=.ok (t3 (sd w r t)) st:=by
 have h2:ydf w r=true:=by
  rcases hw with rfl|rfl|rfl
  .exact Ah.1 ck1 r hr
  .exact Ah.1 ck2 r hr
  .exact Ah.1 ck3 r hr
 have h5:=Ah.1 h2 t (zb9 h);unfold yeT at h5;split at h5
 .rename_i p q e1 e2;rw[AI,decide_eq_true_eq,decide_eq_true_eq]at h5;let⟨rfl,h5⟩:=h5;let⟨s1,f1⟩:=zbX e1;let⟨s2,f2⟩:=zbX e2;have e:sd w r t=p:=by unfold sd;rw[e1];rfl
  rw[e];refine⟨h5,?_,?_⟩
  .rw[DF];exact zN (zaG (fn:=yn) rfl rfl rfl rfl f1 st) k
  .rw[DF];exact zN (zaG (fn:=yy) rfl rfl rfl rfl f2 st) k
 .cases h5
def zdq{w:Nat}(hw:Wid w){r:AM}(hr:r∈rws){t:T3}(h:W3 w t)(k:Nat)(st:SO):W3 w (sd w r t)/\yd T (k+5) yl [.str r,.int w,.int t.1,.int t.2.1,.int t.2.2] st=.ok (t3 (sd w r t)) st:=⟨(zdL hw hr h k st).1,(zdL hw hr h k st).2.1⟩
def ad(w:Nat)(ss:List AM)(t:T3):T3:=ss.foldl (λt r=>sd w r t) t
def zM:∀ss:List AM,nLs (ss.map .str)=AC
 |[]=>rfl
 |s::ss=>by simp[nLs,nL,zM ss]
def zbB{t:Tg}{F:IC.Env->SO->Fl}{n:Nat}{xs:List PV}{st:SO}(hs:st[n]?=AA (.lst xs))(P:IC.Env->Prop)(hP:∀v∈xs,∀ρ,P ρ->∃ρ1,yo t v ρ=AA ρ1/\((∃ρ2,F ρ1 st=.nx ρ2 st/\P ρ2) \/ ∃c ρ2,F ρ1 st=.exc c ρ2 st)):
  ∀(m i:Nat) (ρ:IC.Env),P ρ->i<=xs.length->xs.length<i+m->ya4 t F n m i ρ st=forL t F (xs.drop i) ρ st
 |0,i,ρ,hρ,h1,h2=>by lia
 |m+1,i,ρ,hρ,h1,h2=>by
  rw[ya4,hs];dsimp only
  by_cases hi:i<xs.length
  .rw[B1 hi,Ay hi,forL];dsimp only;obtain⟨ρ1,e1,⟨ρ2,e2,h3⟩|⟨c,ρ2,e2⟩⟩:=hP xs[i] (Ct hi) ρ hρ
   .rw[e1];dsimp only;rw[e2];exact zbB hs P hP m (i+1) ρ2 h3 ∅ ∅
   .rw[e1];dsimp only;rw[e2];rfl
  .rw[Ap ∅,List.drop_eq_nil_of_le ∅,forL]
def Src(st:SO)(v:PV)(vs:List PV):Prop:=(∃b,v=.tp b vs) \/ v=.lst vs \/ ∃n,v=.loc n/\st[n]?=AA (.lst vs)
def zeT{call:Cl}{t:Tg}{b:Css}{ρ:IC.Env}{st:SO}{i:Nat}{v:PV}{vs:List PV}(hv:ρ[i]?=AA (AA v))(h:Src st v vs)(hl:vs.length<=1000)(P:IC.Env->Prop)(h0:P ρ)(hP:∀r∈vs,∀ρ,P ρ->∃ρ1,yo t r ρ=AA ρ1/\((∃ρ2,exs call ρ1 st b=.nx ρ2 st/\P ρ2) \/ ∃c ρ2,exs call ρ1 st b=.exc c ρ2 st)):
  ex call ρ st (.forl t (.var i) b)=yal call t b vs ρ st:=by
 have h1:ev call ρ st (.var i)=.ok v st:=by rw[IC.ve2,hv]
 rw[ex,h1,fl_ok];rcases h with⟨b,rfl⟩|rfl|⟨n,rfl,hn⟩
 .rfl
 .rfl
 .dsimp only;exact(zbB hn P hP 100000 0 ρ h0 ∅ ∅).trans rfl
def zdJ{st:SO}{v:PV}{vs:List PV}(h:Src st v vs):yag .len st [v]=AA (.int vs.length):=by
 rcases h with⟨b,rfl⟩|rfl|⟨n,rfl,hn⟩
 .simp[yag,lenV,yac]
 .simp[yag,lenV,yac]
 .simp[yag,lenV,yac,hn]
def adB:Css:=match yC.body with
 |.cons (.forl _ _ b) _=>b
 |x=>x
def adT:Css:=match yC.body with
 |.cons _ r=>r
 |x=>x
def zkJ{i j k:Nat}{a b c:PV}{ρ:IC.Env}:yo (.t [i,j,k]) (.tp AE [a,b,c]) ρ=AA (((ρ.set i (AA a)).set j (AA b)).set k (AA c)):=rfl
def zd3{w:Nat}(hw:Wid w){r:AM}(hr:r∈rws){t:T3}(h:W3 w t)(k:Nat)(st:SO)(p0:Option PV):
  exs (yd T (k+5)) [p0,AA (.int w),AA (.int t.1),AA (.int t.2.1),AA (.int t.2.2),AA (.str r)] st adB=.nx [p0,AA (.int w),AA (.int (sd w r t).1),AA (.int (sd w r t).2.1),AA (.int (sd w r t).2.2),AA (.str r)] st:=by
 have e:=(zdq hw hr h k st).2;simp! [adB,yC,e,zkJ,t3]
def zet{w:Nat}(hw:Wid w)(k:Nat)(st:SO)(p0:Option PV):∀(ss:List AM),(∀r∈ss,r∈rws)->∀{t:T3},W3 w t->∀p5,∃q5,
  yal (yd T (k+5)) (.n 5) adB (ss.map .str) [p0,AA (.int w),AA (.int t.1),AA (.int t.2.1),AA (.int t.2.2),p5] st=.nx [p0,AA (.int w),AA (.int (ad w ss t).1),AA (.int (ad w ss t).2.1),AA (.int (ad w ss t).2.2),q5] st
 |[],hs,t,h,p5=>⟨p5,zn⟩
 |r::ss,hs,t,h,p5=>by
  have hr:=hs r AW;let⟨q5,f⟩:=zet hw k st p0 ss (λr hr=>hs r (AK _ hr)) (zdq hw hr h 0 []).1 (AA (.str r));refine⟨q5,?_⟩;rw[AR,zi (ρ1:=[p0,AA (.int w),AA (.int t.1),AA (.int t.2.1),AA (.int t.2.2),AA (.str r)]) rfl,zd3 hw hr h k st p0];exact f
def zbZ{w:Nat}(hw:Wid w)(k:Nat){ss:List AM}(hs:∀r∈ss,r∈rws)(hl:ss.length<=8){t:T3}(h:W3 w t)(st:SO){v:PV}(hv:Src st v (ss.map .str)):
  yd T (k+6) yfP [v,.int w,.int t.1,.int t.2.1,.int t.2.2] st=.ok (t3 (ad w ss t)) st:=by
 let⟨q5,e⟩:=zet hw k st (AA v) ss hs h AB;have hT:T yfP=AA yC:=rfl;have hb:yC.body=.cons (.forl (.n 5) (.var 0) adB) adT:=rfl;rw[zz hT rfl rfl];show outI (exs (yd T (k+5)) [AA v,AA (.int w),AA (.int t.1),AA (.int t.2.1),AA (.int t.2.2),AB] st yC.body)=_;rw[hb,xs_cons,zeT (v:=v) rfl hv (by simp;lia) (λρ=>∃t p,W3 w t/\ρ=[AA v,AA (.int w),AA (.int t.1),AA (.int t.2.1),AA (.int t.2.2),p]) ⟨t,AB,h,rfl⟩ (λr hr ρ hρ=>by
  let⟨t,p,h,rfl⟩:=hρ;let⟨r,hr',rfl⟩:=Ba.1 hr;have hr:=hr';exact⟨_,rfl,.inl ⟨_,zd3 hw (hs r hr) h k st _,_,_,(zdq hw (hs r hr) h 0 []).1,rfl⟩⟩),e,th_nx]
 simp! [adT,yC,zcD,t3]
def l3:R PV->Option (List T3)
 |.ok (.lst vs) _=>vs.mapM λv=>r3 (.ok v [])
 |_=>AB
def ziE{v:PV}{p:T3}(h:r3 (.ok v [])=AA p):v=t3 p:=by
 let⟨st,e⟩:=zbX h
 cases e;rfl
def zeR:∀(vs:List PV) (l:List T3),(vs.mapM λv=>r3 (.ok v []))=AA l->vs=l.map t3
 |[],l,h=>by cases h;rfl
 |v::vs,l,h=>by
  erw[List.mapM_cons,Option.bind_eq_bind,Option.bind_eq_some_iff,Option.pure_def,B6]at h;let⟨p,h1,q,h2,rfl⟩:=h;rw[AR,ziE h1,zeR vs q h2]
def zdW{r:R PV}{l:List T3}(h:l3 r=AA l):∃st,r=.ok (.lst (l.map t3)) st:=by
 unfold l3 at h;split at h
 .rename_i vs st;exact⟨st,by rw[zeR vs l h]⟩
 .cases h
theorem es1:l3 (yd T 1 yf [.int 1] [])=AA (sts 1):=by decide +kernel
theorem es2:l3 (yd T 1 yf [.int 2] [])=AA (sts 2):=by decide +kernel
theorem es3:l3 (yd T 1 yf [.int 3] [])=AA (sts 3):=by decide +kernel
def zfU{w:Nat}(hw:Wid w)(k:Nat)(st:SO):yd T (k+1) yf [.int w] st=.ok (.lst ((sts w).map t3)) st:=by
 have h:l3 (yd T 1 yf [.int w] [])=AA (sts w):=by
  rcases hw with rfl|rfl|rfl
  .exact es1
  .exact es2
  .exact es3
 let⟨s,e⟩:=zdW h;rw[DF];exact zN (zaG (fn:=yv) rfl rfl rfl rfl e st) k
def zcM(a b:T3):peq (t3 a) (t3 b)=decide (a=b):=by
 let⟨x,y,z⟩:=a;let⟨x',y',z'⟩:=b;erw[t3,peq,yaS,Bool.and_true]
 by_cases h1:x=x'<;>by_cases h2:y=y'<;>by_cases h3:z=z'<;>simp[h1,h2,h3]
def zhb{k v:PV}{kvs:List (PV×PV)}(h:∀p∈kvs,peq p.1 k=AE):IC.put k v kvs=kvs++[(k,v)]:=by
 have:(kvs.any λp=>peq p.1 k)=false:=by
  rw[List.any_eq_false];exact λp hp=>by rw[h p hp];simp
 unfold IC.put;rw[if_neg (by rw[this];simp)]
def kvt(w:Nat)(r:AM)(ts:List T3):List (PV×PV):=ts.map λt=>(t3 t,t3 (sd w r t))
def zgK(w:Nat)(r:AM):∀(ts:List T3) {t:T3},t∈ts->look (t3 t) (kvt w r ts)=AA (t3 (sd w r t))
 |[],t,h=>nomatch h
 |u::ts,t,h=>by
  erw[kvt,AR,look,zcM]
  by_cases e:u=t
  .subst e;simp
  .rw[decide_eq_false e];exact zgK w r ts ((A8.1 h).resolve_left λz=>e z.symm)
def toE:Ce:=match yF.body with
 |.cons (.ret (.dcm _ _ _ k _)) _=>k
 |_=>.nope
def toV:Ce:=match yF.body with
 |.cons (.ret (.dcm _ _ _ _ v)) _=>v
 |_=>.nope
def zj0{w:Nat}(hw:Wid w){r:AM}(hr:r∈rws){t:T3}(h:W3 w t)(k:Nat)(st:SO):yb1 (yd T (k+5)) [AB,AB,AB,AA (.str r),AA (.int w)] (.t [0,1,2]) toE toV (t3 t) st=.ok (t3 t,t3 (sd w r t)) st:=by
 have e:=(zdq hw hr h k st).2;have hb:yo (.t [0,1,2]) (t3 t) [AB,AB,AB,AA (.str r),AA (.int w)]=AA [AA (.int t.1),AA (.int t.2.1),AA (.int t.2.2),AA (.str r),AA (.int w)]:=rfl;erw[yb1,hb];simp! [toE,toV,yF,e];rfl
def zeu{w:Nat}(hw:Wid w){r:AM}(hr:r∈rws)(k:Nat)(st:SO):∀(ts done:List T3),(∀t∈ts,W3 w t)->(done++ts).Nodup ->
  yaz (yb1 (yd T (k+5)) [AB,AB,AB,AA (.str r),AA (.int w)] (.t [0,1,2]) toE toV) (ts.map t3) (kvt w r done) st=.ok (kvt w r (done++ts)) st
 |[],done,h,hn=>by rw[BN];rfl
 |t::ts,done,h,hn=>by
  rw[AR,yaz,zj0 hw hr (h t AW) k st,bd_ok];have hk:isKey AC (t3 t)=true:=rfl;dsimp only;rw[if_pos hk,zhb]
  .have e:kvt w r done++[(t3 t,t3 (sd w r t))]=kvt w r (done++[t]):=by simp[kvt]
   rw[e,zeu hw hr k st ts (done++[t]) (λt h'=>h t (AK _ h')) (by simpa using hn)];simp
  .intro p hp;erw[kvt,Ba]at hp;let⟨u,hu,rfl⟩:=hp;rw[zcM];refine decide_eq_false λe=>?_;subst e;rw[List.nodup_append]at hn;exact hn.2.2 u hu u AW rfl
def zit{w:Nat}(hw:Wid w):(sts w).Nodup:=by rcases hw with rfl|rfl|rfl<;>decide +kernel
def zb7{w:Nat}(hw:Wid w):(sts w).length<=128:=by rcases hw with rfl|rfl|rfl<;>decide +kernel
def zf9{w:Nat}(hw:Wid w){r:AM}(hr:r∈rws)(k:Nat)(st:SO):yd T (k+6) yfV [.str r,.int w,.lst ((sts w).map t3)] st=.ok (.loc st.length) (st++[.dct AC (kvt w r (sts w))]):=by
 have e:=zeu hw hr k st (sts w) [] (λt h=>zgW h) (by simpa using zit hw);have hl:=zb7 hw;have hT:T yfV=AA yF:=rfl;have hb:yF.body=.cons (.ret (.dcm [AB,AB,AB,AA 0,AA 1] (.t [0,1,2]) (.seq (.var 2)) toE toV)) .nil:=rfl;rw[zz hT rfl rfl,hb];have e:yaz (yb1 (yd T (k+5)) [AB,AB,AB,AA (.str r),AA (.int w)] (.t [0,1,2]) toE toV) ((sts w).map t3) [] st=.ok (kvt w r (sts w)) st:=e;simp! [yF,IC.ve54,e,dctR,Ak];rw[if_pos ∅];rfl
abbrev Pt:=List AM×List T3
def tv(p:Pt):PV:=.tp AE [.tp AE (p.1.map .str),.lst (p.2.map t3)]
def tbv(q:AM×Nat):PV:=.tp AE [.str q.1,.loc q.2]
def nxt(w:Nat)(p:Pt)(r:AM):Pt:=(p.1++[r],p.2.map (sd w r))
def ycw(w:Nat)(st:SO)(tabs:List (AM×Nat)):Prop:=∀q∈tabs,q.1∈rws/\st[q.2]?=AA (.dct AC (kvt w q.1 (sts w)))
def ziQ{w:Nat}{st:SO}{n:Nat}{r:AM}(h:st[n]?=AA (.dct AC (kvt w r (sts w)))){t:T3}(ht:W3 w t):ycM st (.loc n) (t3 t)=AA (t3 (sd w r t)):=by
 have hk:isKey AC (t3 t)=true:=rfl;erw[ycM,yan,h,hk,if_true];exact zgK w r (sts w) (zb9 ht)
def zdv{call:Cl}{w:Nat}{st:SO}{n:Nat}{r:AM}(h:st[n]?=AA (.dct AC (kvt w r (sts w)))):∀(en:List T3),(∀t∈en,W3 w t) ->
  yQ call [AB,AA (.loc n)] (.n 0) (.cst (.bl AC)) (.dgt (.var 1) (.var 0)) (en.map t3) st=.ok ((en.map (sd w r)).map t3) st
 |[],_=>zy
 |t::en,he=>by
  have hb:yo (.n 0) (t3 t) [AB,AA (.loc n)]=AA [AA (t3 t),AA (.loc n)]:=rfl;rw[AR,zk];erw[yaV,hb,IC.ve1,bd_ok,t_bl,ono,cond_true];simp! [IC.ve34,ziQ h (he t AW),zdv h en λt h'=>he t (AK _ h')];rfl
def olM:Ce:=match yx.body with
 |.cons (.ret (.cmq _ _ _ m)) _=>m
 |_=>.nope
def olE:Ce:=match olM with
 |.emq _ _ m=>m
 |_=>.nope
def zjk{k:Nat}{w:Nat}{st:SO}{p:Pt}(hp:∀t∈p.2,W3 w t)(hl:p.1.length<=100)(hl2:p.2.length<=1000){q:AM×Nat}(hq:st[q.2]?=AA (.dct AC (kvt w q.1 (sts w))))(tb:PV):
  ybh (yd T k) [AA (.tp AE (p.1.map .str)),AA (.lst (p.2.map t3)),AB,AB,AA tb] (.t [2,3]) olE (tbv q) st=.ok [tv (nxt w p q.1)] st:=by
 have hb:yo (.t [2,3]) (tbv q) [AA (.tp AE (p.1.map .str)),AA (.lst (p.2.map t3)),AB,AB,AA tb]=AA [AA (.tp AE (p.1.map .str)),AA (.lst (p.2.map t3)),AA (.str q.1),AA (.loc q.2),AA tb]:=rfl;have ha:yw .add (.tp AE (p.1.map .str)) (.tp AE [.str q.1])=AA (.tp AE ((p.1++[q.1]).map .str)):=by
  cases hp1:p.1 with
  |nil=>rfl
  |cons a l=>
   rw[hp1]at hl;have hz:((a::l).map PV.str).length+[PV.str q.1].length<=sizeMax:=by simp[sizeMax]at hl ⊢;lia
   erw[yw];rw[if_pos hz];simp[ydj]
 have hc:=zdv (call:=yd T k) hq p.2 hp;have hz:((p.2.map (sd w q.1)).map t3).length<=1000000:=by simp;lia
 erw[ybh,hb];simp! [olE,olM,yx,ha,hc,zx _ hz];rfl
def zjZ{k:Nat}{w:Nat}{st:SO}{p:Pt}(hp:∀t∈p.2,W3 w t)(hl:p.1.length<=100)(hl2:p.2.length<=1000)(tb:PV):∀(tabs:List (AM×Nat)),ycw w st tabs ->
  yah (ybh (yd T k) [AA (.tp AE (p.1.map .str)),AA (.lst (p.2.map t3)),AB,AB,AA tb] (.t [2,3]) olE) (tabs.map tbv) st=.ok ((tabs.map λq=>nxt w p q.1).map tv) st
 |[],_=>rfl
 |q::tabs,h=>by
  rw[AR,yah,zjk hp hl hl2 (h q AW).2 tb,bd_ok,zjZ hp hl hl2 tb tabs λq hq=>h q (AK _ hq),bd_ok];rfl
def zgG{k:Nat}{w:Nat}{st:SO}{tabs:List (AM×Nat)}(ht:ycw w st tabs):∀(ps:List Pt),(∀p∈ps,(∀t∈p.2,W3 w t)/\p.1.length<=100/\p.2.length<=1000) ->
  yah (ybh (yd T k) [AB,AB,AB,AB,AA (.lst (tabs.map tbv))] (.t [0,1]) olM) (ps.map tv) st=.ok ((ps.flatMap λp=>tabs.map λq=>nxt w p q.1).map tv) st
 |[],_=>rfl
 |p::ps,h=>by
  let⟨h1,h2,h3⟩:=h p AW;have hb:yo (.t [0,1]) (tv p) [AB,AB,AB,AB,AA (.lst (tabs.map tbv))]=AA [AA (.tp AE (p.1.map .str)),AA (.lst (p.2.map t3)),AB,AB,AA (.lst (tabs.map tbv))]:=rfl;have hm:olM=.emq (.t [2,3]) (.seq (.var 4)) olE:=rfl;have hi:=zjZ (k:=k) h1 h2 h3 (.lst (tabs.map tbv)) tabs ht;have e1:ybh (yd T k) [AB,AB,AB,AB,AA (.lst (tabs.map tbv))] (.t [0,1]) olM (tv p) st=.ok ((tabs.map λq=>nxt w p q.1).map tv) st:=by
   erw[ybh,hb,hm];have hn:yaj (.t [2,3]) [AA (PV.tp AE (p.1.map .str)),AA (PV.lst (p.2.map t3)),AB,AB,AA (.lst (tabs.map tbv))]=true:=rfl;simp! [IC.ve53,hi,hn];rfl
  rw[AR,yah,e1,bd_ok,zgG ht ps λp hp=>h p (AK _ hp),bd_ok];simp
def zdK(k:Nat){w:Nat}{st:SO}{tabs:List (AM×Nat)}(ht:ycw w st tabs){ps:List Pt}(h:∀p∈ps,(∀t∈p.2,W3 w t)/\p.1.length<=100/\p.2.length<=1000)(hz:(ps.flatMap λp=>tabs.map λq=>nxt w p q.1).length<=1000000):
  yd T (k+1) yf1 [.lst (ps.map tv),.lst (tabs.map tbv)] st=.ok (.lst ((ps.flatMap λp=>tabs.map λq=>nxt w p q.1).map tv)) st:=by
 have e:=zgG (k:=k) ht ps h;have hT:T yf1=AA yx:=rfl;have hb:yx.body=.cons (.ret (.cmq [AB,AB,AB,AB,AA 1] (.t [0,1]) (.seq (.var 0)) olM)) .nil:=rfl;rw[zz hT rfl rfl,hb];have hz:((ps.flatMap λp=>tabs.map λq=>nxt w p q.1).map tv).length<=1000000:=by rw[Ak];exact hz
 simp! [yx,IC.ve52,e,zx _ hz];rfl
def ybs:List PV:=rws.map .str
def zab:ya=.tp AC ybs:=by with_unfolding_all rfl
def zgd:yaD 60 ybs=true:=by decide +kernel
def inR(x:PV):Bool:=inL x ybs
def zjw{x:PV}(h:shp x=AC)(st:SO):ybV st x ya=AA (.bl (!inR x)):=by
 rw[zab];erw[ybV,yac,h,zgd,CN,if_true];rfl
def zeI{r:AM}(hr:r∈rws):shp (.str r)=AC/\inR (.str r)=true:=by
 have:(rws.all λr=>shp (.str r)&&inR (.str r))=true:=by decide +kernel
 simpa using Ah.1 this r hr
def rrB:Css:=match yj.body with
 |.cons (.forl _ _ b) _=>b
 |x=>x
def rrT:Css:=match yj.body with
 |.cons _ r=>r
 |x=>x
def zgm{call:Cl}{x v:PV}(h:shp x=AC)(st:SO):exs call [AA v,AA x] st rrB=if inR x then .nx [AA v,AA x] st else .exc 4 [AA v,AA x] st:=by
 have e:=zjw h st
 cases hi:inR x with
 |true=>
  rw[hi]at e;simp! [rrB,yj,e]
 |false=>
  rw[hi]at e;simp! [rrB,yj,e];rfl
def zem{call:Cl}{v:PV}(st:SO):∀(vs:List PV),(∀x∈vs,shp x=AC)->∀p,(vs.all inR=AC->∃q,yal call (.n 1) rrB vs [AA v,p] st=.nx [AA v,q] st)/\(vs.all inR=AE->∃ρ,yal call (.n 1) rrB vs [AA v,p] st=.exc 4 ρ st)
 |[],_,p=>⟨λ_=>⟨p,zn⟩,λh=>(by cases h)⟩
 |x::vs,hs,p=>by
  have h1:=zgm (call:=call) (v:=v) (hs x AW) st;let⟨i1,i2⟩:=zem (call:=call) (v:=v) st vs (λx hx=>hs x (AK _ hx)) (AA x);rw[zi (ρ1:=[AA v,AA x]) rfl,h1,BB]
  cases hi:inR x with
  |true=>exact⟨λh=>i1 (by simpa using h),λh=>i2 (by simpa using h)⟩
  |false=>exact⟨λh=>(by cases h),λ_=>⟨_,rfl⟩⟩
def zdf(k:Nat){st:SO}{v:PV}{vs:List PV}(h:Src st v vs)(hs:∀x∈vs,shp x=AC)(hl:vs.length<=1000):yd T (k+1) yb [v] st=if vs.all inR then(if vs.length<=8 then .ok .non st else .exc 8 st)else .exc 4 st:=by
 have hT:T yb=AA yj:=rfl;have hb:yj.body=.cons (.forl (.n 1) (.var 0) rrB) rrT:=rfl;let⟨i1,i2⟩:=zem (call:=yd T k) (v:=v) st vs hs AB;rw[zz hT rfl rfl];show outI (exs (yd T k) [AA v,AB] st yj.body)=_;rw[hb,xs_cons,zeT (v:=v) (vs:=vs) rfl h ∅ (λρ=>∃p,ρ=[AA v,p]) ⟨AB,rfl⟩ (λx hx ρ hρ=>by
  let⟨p,rfl⟩:=hρ;refine⟨_,rfl,?_⟩;have h1:=zgm (call:=yd T k) (v:=v) (hs x hx) st;show (∃ρ2,exs (yd T k) [AA v,AA x] st rrB=.nx ρ2 st/\_) \/ ∃c ρ2,exs (yd T k) [AA v,AA x] st rrB=.exc c ρ2 st;rw[h1]
  cases inR x with
  |true=>exact .inl ⟨_,rfl,_,rfl⟩
  |false=>exact .inr ⟨_,_,rfl⟩)]
 cases ha:vs.all inR with
 |false=>
  let⟨ρ,e⟩:=i2 ha;rw[e,th_exc];rfl
 |true=>
  let⟨q,e⟩:=i1 ha;rw[e,th_nx];have hm:yi=.int 8:=rfl
  by_cases hc:vs.length<=8
  .have hd:yG .gt (.int (vs.length:Int)) yi=AA (.bl AE):=by rw[hm,c_gt,decide_eq_false ∅]
   rw[if_pos rfl,if_pos hc];simp! [rrT,yj,zdJ h,hd,outI]
  .have hd:yG .gt (.int (vs.length:Int)) yi=AA (.bl AC):=by rw[hm,c_gt,decide_eq_true ∅]
   rw[if_pos rfl,if_neg hc];simp! [rrT,yj,zdJ h,hd,outI];rfl
def zdy(k:Nat){st:SO}{v:PV}{ss:List AM}(h:Src st v (ss.map .str))(hs:∀r∈ss,r∈rws)(hl:ss.length<=8):yd T (k+1) yb [v] st=.ok .non st:=by
 rw[zdf k h (λx hx=>by
  let⟨r,hr,rfl⟩:=Ba.1 hx;exact(zeI (hs r hr)).1) (by simp;lia),if_pos,if_pos (by simp;lia)]
 rw[Ah];intro x hx;let⟨r,hr,rfl⟩:=Ba.1 hx;exact(zeI (hs r hr)).2
def lv(w:Nat):Nat->List Pt
 |0=>[([],sts w)]
 |n+1=>(lv w n).flatMap λp=>rws.map λr=>nxt w p r
def zdh{w:Nat}(hw:Wid w):∀(n:Nat),∀p∈lv w n,(∀t∈p.2,W3 w t)/\p.1.length=n/\p.2.length=(sts w).length/\∀r∈p.1,r∈rws
 |0,p,h=>by
  rw[C7.1 h];exact⟨λt ht=>zgW ht,rfl,rfl,λr hr=>nomatch hr⟩
 |n+1,p,h=>by
  erw[lv,Cr,Ba]at h;let⟨q,hq,r,hr,rfl⟩:=h;let⟨h1,h2,h3,h4⟩:=zdh hw n q hq;refine⟨λt ht=>?_,by simp[nxt,h2],by simp[nxt,h3],λs hs=>?_⟩
  .simp only[nxt,Ba]at ht;let⟨u,hu,rfl⟩:=ht;exact(zdq hw hr (h1 u hu) 0 []).1
  .simp only[nxt,Aw,C7]at hs;rcases hs with hs|rfl
   .exact h4 s hs
   .exact hr
def zdT(w:Nat):∀n,(lv w n).length=13^n
 |0=>rfl
 |n+1=>by
  have:∀(l:List Pt),(l.flatMap λp=>rws.map λr=>nxt w p r).length=l.length*13:=by
   intro l
   induction l with
   |nil=>rfl
   |cons a l ih=>rw[List.flatMap_cons,Aq,ih,Ak,Af];show 13+_=_;lia
  rw[lv,this,zdT w n,Nat.pow_succ]
def zd5(n:Nat)(t:T3):shd (n+1) (t3 t)=true:=by simp[t3,shd,yaD]
def ze3(n:Nat):∀l:List T3,yaD (n+1) (l.map t3)=AC
 |[]=>rfl
 |t::l=>by rw[AR,yaD,zd5,ze3 n l];rfl
def zik(l:List T3):shp (.lst (l.map t3))=true:=by
 show shd 60 (.lst (l.map t3))=AC;rw[shd,ze3 58 l];rfl
def zeV:∀a b:List T3,yaS (a.map t3) (b.map t3)=decide (a=b)
 |[],[]=>rfl
 |[],b::bs=>rfl
 |a::as,[]=>rfl
 |a::as,b::bs=>by
  rw[AR,AR,yaS,zcM,zeV as bs]
  by_cases h1:a=b<;>by_cases h2:as=bs<;>simp[h1,h2]
def zkd(a b:List T3):yG .eq (.lst (a.map t3)) (.lst (b.map t3))=AA (.bl (decide (a=b))):=by
 erw[yG,zik,CN,if_true,peq,zeV]
def yaa(tg:List T3):List Pt->Int->Option PV
 |[],_=>AB
 |p::ps,n=>if p.2=tg then AA (.tp AE [.tp AE (p.1.map .str),.int n])else yaa tg ps (n+1)
def yaH(w:Nat)(tg:List T3):List Nat->Int->PV
 |[],n=>.tp AE [.non,.int n]
 |i::is,n=>match yaa tg (lv w i) n with
  |some v=>v
  |none=>yaH w tg is (n+((lv w i).length:Int))
def ybq:Css:=match f_short.body with
 |.cons _ (.cons _ (.cons _ (.cons _ (.cons _ (.cons _ (.cons (.for _ _ b) _))))))=>b
 |_=>.nil
def ych:Css:=match ybq with
 |.cons _ (.cons (.for _ _ b) _)=>b
 |_=>.nil
abbrev rho(v:PV)(w:Nat)(b wn tb:PV)(n:Int)(tr:PV)(l p8 p9:Option PV):IC.Env:=[AA v,AA (.int w),AA b,AA wn,AA tb,AA (.int n),AA tr,l,p8,p9]
def zcY{call:Cl}{v b tb tr:PV}{w:Nat}{tg:List T3}{l:Option PV}(st:SO):∀(ps:List Pt) (n:Int) (p8 p9:Option PV),
  (∀u,yaa tg ps n=AA u->yal call (.t [8,9]) ych (ps.map tv) (rho v w b (.lst (tg.map t3)) tb n tr l p8 p9) st=.rt u st) /\
  (yaa tg ps n=AB->∃q8 q9,yal call (.t [8,9]) ych (ps.map tv) (rho v w b (.lst (tg.map t3)) tb n tr l p8 p9) st=.nx (rho v w b (.lst (tg.map t3)) tb (n+(ps.length:Int)) tr l q8 q9) st)
 |[],n,p8,p9=>⟨λu h=>(by cases h),λ_=>⟨p8,p9,by rw[B0,zn];simp⟩⟩
 |p::ps,n,p8,p9=>by
  have he:=zkd p.2 tg;let⟨i1,i2⟩:=zcY (call:=call) (v:=v) (b:=b) (tb:=tb) (tr:=tr) (w:=w) (tg:=tg) (l:=l) st ps (n+1) (AA (.tp AE (p.1.map .str))) (AA (.lst (p.2.map t3)));have hb:yo (.t [8,9]) (tv p) (rho v w b (.lst (tg.map t3)) tb n tr l p8 p9)=AA (rho v w b (.lst (tg.map t3)) tb n tr l (AA (.tp AE (p.1.map .str))) (AA (.lst (p.2.map t3)))):=rfl;rw[AR,zi hb,yaa]
  by_cases h:p.2=tg
  .rw[decide_eq_true h]at he;have e:exs call (rho v w b (.lst (tg.map t3)) tb n tr l (AA (.tp AE (p.1.map .str))) (AA (.lst (p.2.map t3)))) st ych=.rt (.tp AE [.tp AE (p.1.map .str),.int n]) st:=by
    simp! [ych,ybq,f_short,rho,he]
   rw[if_pos h,e];exact⟨λu hu=>(by cases hu;rfl),λhu=>(by cases hu)⟩
  .rw[decide_eq_false h]at he;have e:exs call (rho v w b (.lst (tg.map t3)) tb n tr l (AA (.tp AE (p.1.map .str))) (AA (.lst (p.2.map t3)))) st ych=.nx (rho v w b (.lst (tg.map t3)) tb (n+1) tr l (AA (.tp AE (p.1.map .str))) (AA (.lst (p.2.map t3)))) st:=by
    simp! [ych,ybq,f_short,rho,he];rw[IC.x_aug (x:=.int n) rfl];rfl
   rw[if_neg h,e];refine⟨λu hu=>i1 u hu,λhu=>?_⟩;let⟨q8,q9,f⟩:=i2 hu;refine⟨q8,q9,?_⟩;show yal call _ _ _ _ st=_;rw[f,show n+1+(ps.length:Int)=n+(((p::ps).length:Nat):Int)by rw[Af];lia]
def dcs(w:Nat)(ss:List AM):SO:=ss.map λr=>.dct AC (kvt w r (sts w))
def tabs:List AM->Nat->List (AM×Nat)
 |[],_=>[]
 |s::ss,m=>(s,m)::tabs ss (m+1)
def zba:∀(ss:List AM) (m:Nat),(tabs ss m).map (·.1)=ss
 |[],_=>rfl
 |s::ss,m=>by rw[tabs,AR,zba ss]
def zfb(w:Nat):∀(ss:List AM),(∀r∈ss,r∈rws)->∀(st:SO),ycw w (st++dcs w ss) (tabs ss st.length)
 |[],_,st=>λq hq=>nomatch hq
 |s::ss,hs,st=>λq hq=>by
  have e:st++dcs w (s::ss)=(st++[.dct AC (kvt w s (sts w))])++dcs w ss:=by simp[dcs]
  rw[tabs]at hq;rcases A8.1 hq with rfl|hq
  .exact⟨hs s AW,by rw[e];simp⟩
  .rw[e];refine zfb w ss (λr hr=>hs r (AK _ hr)) _ q ?_;simpa using hq
def ydg:Ce:=match f_short.body with
 |.cons _ (.cons _ (.cons _ (.cons (.asg _ (.comp _ _ _ _ e)) _)))=>e
 |_=>.nope
def zcB{w:Nat}(hw:Wid w)(k:Nat):∀(ss:List AM),(∀r∈ss,r∈rws)->∀(st:SO),
  yQ (yd T (k+6)) [AB,AA (.int w),AA (.lst ((sts w).map t3))] (.n 0) (.cst (.bl AC)) ydg (ss.map .str) st=.ok ((tabs ss st.length).map tbv) (st++dcs w ss)
 |[],_,st=>by rw[B0,zy];simp[tabs,dcs]
 |s::ss,hs,st=>by
  have hb:yo (.n 0) (.str s) [AB,AA (.int w),AA (.lst ((sts w).map t3))]=AA [AA (.str s),AA (.int w),AA (.lst ((sts w).map t3))]:=rfl;have e:=zf9 hw (hs s AW) k st;have i:=zcB hw k ss (λr hr=>hs r (AK _ hr)) (st++[.dct AC (kvt w s (sts w))]);have e1:yaV (yd T (k+6)) [AB,AA (.int w),AA (.lst ((sts w).map t3))] (.n 0) (.cst (.bl AC)) ydg (.str s) st=.ok (AA (tbv (s,st.length))) (st++[.dct AC (kvt w s (sts w))]):=by
   erw[yaV,hb,IC.ve1,bd_ok,t_bl,ono,cond_true];simp! [ydg,f_short,e];rfl
  rw[AR,zk,e1,bd_ok,i,bd_ok];simp[tabs,dcs,ybc]
def wnE:Ce:=match f_short.body with
 |.cons _ (.cons _ (.cons (.asg _ (.comp _ _ _ _ e)) _))=>e
 |_=>.nope
def zdP{w:Nat}(hw:Wid w)(k:Nat){ss:List AM}(hs:∀r∈ss,r∈rws)(hl:ss.length<=8){st:SO}{v:PV}(hv:Src st v (ss.map .str)):∀(ts:List T3),(∀t∈ts,W3 w t) ->
  yQ (yd T (k+6)) [AB,AB,AB,AA v,AA (.int w)] (.t [0,1,2]) (.cst (.bl AC)) wnE (ts.map t3) st=.ok ((ts.map (ad w ss)).map t3) st
 |[],_=>zy
 |t::ts,h=>by
  have hb:yo (.t [0,1,2]) (t3 t) [AB,AB,AB,AA v,AA (.int w)]=AA [AA (.int t.1),AA (.int t.2.1),AA (.int t.2.2),AA v,AA (.int w)]:=rfl;have e:=zbZ hw k hs hl (h t AW) st hv;have i:=zdP hw k hs hl hv ts λt h'=>h t (AK _ h');have e1:yaV (yd T (k+6)) [AB,AB,AB,AA v,AA (.int w)] (.t [0,1,2]) (.cst (.bl AC)) wnE (t3 t) st=.ok (AA (t3 (ad w ss t))) st:=by
   erw[yaV,hb,IC.ve1,bd_ok,t_bl,ono,cond_true];simp! [wnE,f_short,e]
  rw[AR,zk,e1,bd_ok,i,bd_ok];rfl
def zho(k:Nat){w:Nat}(hw:Wid w){v b:PV}{tg:List T3}{tb:List (AM×Nat)}{st:SO}(ht:ycw w st tb)(hf:tb.map (·.1)=rws)(i:Nat)(hi:i<4)(n:Int)(p8 p9:Option PV):
  (∀u,yaa tg (lv w i) n=AA u->exs (yd T (k+1)) (rho v w b (.lst (tg.map t3)) (.lst (tb.map tbv)) n (.lst ((lv w (i-1)).map tv)) (AA (.int i)) p8 p9) st ybq=.rt u st) /\
  (yaa tg (lv w i) n=AB->∃q8 q9,exs (yd T (k+1)) (rho v w b (.lst (tg.map t3)) (.lst (tb.map tbv)) n (.lst ((lv w (i-1)).map tv)) (AA (.int i)) p8 p9) st ybq =
   .nx (rho v w b (.lst (tg.map t3)) (.lst (tb.map tbv)) (n+((lv w i).length:Int)) (.lst ((lv w i).map tv)) (AA (.int i)) q8 q9) st):=by
 have hb:ybq=.cons (.ite (.cmp .gt (.var 7) (.cst (.int 0))) (.cons (.asg (.n 6) (.call 17 (.cons (.var 6) (.cons (.var 4) .nil)))) .nil) .nil) (.cons (.for (.t [8,9]) (.seq (.var 6)) ych) .nil):=rfl;have first:ex (yd T (k+1)) (rho v w b (.lst (tg.map t3)) (.lst (tb.map tbv)) n (.lst ((lv w (i-1)).map tv)) (AA (.int i)) p8 p9) st (.ite (.cmp .gt (.var 7) (.cst (.int 0))) (.cons (.asg (.n 6) (.call 17 (.cons (.var 6) (.cons (.var 4) .nil)))) .nil) .nil) =
   .nx (rho v w b (.lst (tg.map t3)) (.lst (tb.map tbv)) n (.lst ((lv w i).map tv)) (AA (.int i)) p8 p9) st:=by
  cases i with
  |zero=>
   have hc:yG .gt (.int ((0:Nat):Int)) (.int 0)=AA (.bl AE):=rfl;simp! [rho,hc]
  |succ i=>
   have hc:yG .gt (.int ((i+1:Nat):Int)) (.int 0)=AA (.bl AC):=by rw[c_gt,decide_eq_true ∅]
   have el:((lv w i).flatMap λp=>tb.map λq=>nxt w p q.1)=lv w (i+1):=by
    rw[lv]
    congr 1
    funext p
    rw[<-hf,Dv];rfl
   have hz:(lv w (i+1)).length<=1000000:=by
    rw[zdT];rcases (by lia:i=0 \/ i=1 \/ i=2)with rfl|rfl|rfl<;>decide
   have hn:=zb7 hw;have e:=zdK k ht (ps:=lv w i) (λp hp=>by
    let⟨h1,h2,h3,h4⟩:=zdh hw i p hp;exact⟨h1,by lia,by lia⟩) (by rw[el];exact hz)
   rw[el]at e;have e:yd T (k+1) 17 [.lst ((lv w (i+1-1)).map tv),.lst (tb.map tbv)] st=.ok (.lst ((lv w (i+1)).map tv)) st:=e;simp! [rho,hc,e]
 let⟨i1,i2⟩:=zcY (call:=yd T (k+1)) (v:=v) (b:=b) (tb:=.lst (tb.map tbv)) (tr:=.lst ((lv w i).map tv)) (w:=w) (tg:=tg) (l:=AA (.int i)) st (lv w i) n p8 p9;rw[hb];constructor
 .intro u hu;rw[xs_cons,first,th_nx,xs_cons,x_for];have hv:evi (yd T (k+1)) (rho v w b (.lst (tg.map t3)) (.lst (tb.map tbv)) n (.lst ((lv w i).map tv)) (AA (.int i)) p8 p9) st (.seq (.var 6))=.ok ((lv w i).map tv) st:=rfl;rw[hv,fl_ok,i1 u hu,th_rt]
 .intro hu;let⟨q8,q9,f⟩:=i2 hu;refine⟨q8,q9,?_⟩;rw[xs_cons,first,th_nx,xs_cons,x_for];have hv:evi (yd T (k+1)) (rho v w b (.lst (tg.map t3)) (.lst (tb.map tbv)) n (.lst ((lv w i).map tv)) (AA (.int i)) p8 p9) st (.seq (.var 6))=.ok ((lv w i).map tv) st:=rfl;rw[hv,fl_ok,f,th_nx,xs_nil]
theorem lens(k:Nat){w:Nat}(hw:Wid w){v b:PV}{tg:List T3}{tb:List (AM×Nat)}{st:SO}(ht:ycw w st tb)(hf:tb.map (·.1)=rws):∀(m i:Nat),i+m=4->∀(n:Int) (l p8 p9:Option PV),
  (∃u,yal (yd T (k+1)) (.n 7) ybq (yq m i 1) (rho v w b (.lst (tg.map t3)) (.lst (tb.map tbv)) n (.lst ((lv w (i-1)).map tv)) l p8 p9) st=.rt u st/\yaH w tg (D7 i m) n=u) \/
  ∃n' tr' l' q8 q9,yal (yd T (k+1)) (.n 7) ybq (yq m i 1) (rho v w b (.lst (tg.map t3)) (.lst (tb.map tbv)) n (.lst ((lv w (i-1)).map tv)) l p8 p9) st=.nx (rho v w b (.lst (tg.map t3)) (.lst (tb.map tbv)) n' tr' l' q8 q9) st/\yaH w tg (D7 i m) n=.tp AE [.non,.int n']
 |0,i,_,n,l,p8,p9=>.inr ⟨n,_,l,p8,p9,by rw[yq,zn],rfl⟩
 |m+1,i,hm,n,l,p8,p9=>by
  let⟨i1,i2⟩:=zho k hw (v:=v) (b:=b) (tg:=tg) ht hf i ∅ n p8 p9;have hb:yo (.n 7) (.int (i:Int)) (rho v w b (.lst (tg.map t3)) (.lst (tb.map tbv)) n (.lst ((lv w (i-1)).map tv)) l p8 p9)=AA (rho v w b (.lst (tg.map t3)) (.lst (tb.map tbv)) n (.lst ((lv w (i-1)).map tv)) (AA (.int i)) p8 p9):=rfl;rw[yq,zi hb,FT,yaH]
  cases hh:yaa tg (lv w i) n with
  |some u=>
   rw[i1 u hh];exact .inl ⟨u,rfl,rfl⟩
  |none=>
   let⟨q8,q9,f⟩:=i2 hh;rw[f];have:=lens k hw (v:=v) (b:=b) (tg:=tg) ht hf m (i+1) ∅ (n+((lv w i).length:Int)) (AA (.int i)) q8 q9;exact this
def zc6(k:Nat){w:Nat}(hw:Wid w){ss:List AM}(hs:∀r∈ss,r∈rws)(hl:ss.length<=8){st:SO}{v:PV}(hv:Src st v (ss.map .str)):
  yd T (k+7) yfI [v,.int w] st=.ok (yaH w ((sts w).map (ad w ss)) [0,1,2,3] 0) (st++dcs w rws):=by
 have hT:T yfI=AA f_short:=rfl;have e1:yd T (k+6) yb [v] st=.ok .non st:=zdy (k+5) hv hs hl;have e2:yd T (k+6) yf [.int w] st=.ok (.lst ((sts w).map t3)) st:=zfU hw (k+5) st;have e3:=zdP hw k hs hl hv (sts w) λt h=>zgW h;have e4:=zcB hw k rws (λr hr=>hr) st;have hn:=zb7 hw;have z3:(((sts w).map (ad w ss)).map t3).length<=1000000:=by simp;lia
 have z4:((tabs rws st.length).map tbv).length<=1000000:=by
  have:=congrArg Bd (zba rws st.length);erw[Ak]at this ⊢;rw[this];decide
 have hr:ybS (.int 4)=AA (yq 4 0 1):=rfl
 have hb:f_short.body=(match f_short.body with
  |.cons a (.cons b (.cons (.asg t1 (.comp s1 g1 j1 c1 _)) (.cons (.asg t2 (.comp s2 g2 j2 c2 _)) (.cons d (.cons e (.cons (.for t i _) r))))))=>.cons a (.cons b (.cons (.asg t1 (.comp s1 g1 j1 c1 wnE)) (.cons (.asg t2 (.comp s2 g2 j2 c2 ydg)) (.cons d (.cons e (.cons (.for t i ybq) r))))))
  |x=>x):=rfl
 have hsr:ya=.tp AC (rws.map .str):=zab;have h3:yw .add yeF (.int 1)=AA (.int 4):=rfl;rw[zz hT rfl rfl,hb];have hfin:=lens (k+5) hw (v:=v) (b:=.lst ((sts w).map t3)) (tg:=(sts w).map (ad w ss)) (zfb w rws (λr hr=>hr) st) (zba rws st.length) 4 0 rfl 0 AB AB AB;have h0:(PV.lst ((lv w (0-1)).map tv))=.lst [.tp AE [.tp AE [],.lst ((sts w).map t3)]]:=rfl;rw[h0]at hfin;rcases hfin with⟨u,f,g⟩|⟨n',tr',l',q8,q9,f,g⟩
 .have f:yal (yd T (k+6)) (.n 7) ybq (yq 4 0 1) [AA v,AA (.int w),AA (.lst ((sts w).map t3)),AA (.lst (((sts w).map (ad w ss)).map t3)),AA (.lst ((tabs rws st.length).map tbv)),AA (.int 0),AA (.lst [.tp AE [.tp AE [],.lst ((sts w).map t3)]]),AB,AB,AB] (st++dcs w rws)=.rt u (st++dcs w rws):=f;have g:yaH w ((sts w).map (ad w ss)) [0,1,2,3] 0=u:=g;simp! [f_short,e1,e2,e3,zx _ z3,hsr,e4,zx _ z4,h3,hr,f,zcD,g]
 .have f:yal (yd T (k+6)) (.n 7) ybq (yq 4 0 1) [AA v,AA (.int w),AA (.lst ((sts w).map t3)),AA (.lst (((sts w).map (ad w ss)).map t3)),AA (.lst ((tabs rws st.length).map tbv)),AA (.int 0),AA (.lst [.tp AE [.tp AE [],.lst ((sts w).map t3)]]),AB,AB,AB] (st++dcs w rws)=.nx _ (st++dcs w rws):=f;have g:yaH w ((sts w).map (ad w ss)) [0,1,2,3] 0=.tp AE [.non,.int n']:=g;simp! [f_short,e1,e2,e3,zx _ z3,hsr,e4,zx _ z4,h3,hr,f,zcD,g]
def zcx(k:Nat)(st:SO):yd T (k+1) yev [] st=.ok (.tp AE ybs) st:=by
 have h:(match yd T 1 yev [] []with | .ok (.tp AE xs) _=>ybW xs ybs|_=>AE)=true:=by decide +kernel
 split at h
 .rename_i xs s e;rw[zbb _ _ h]at e;rw[DF];exact zN (zaG (k:=0) (fn:=yd0) rfl rfl rfl rfl e st) k
 .cases h
def zd7{α:Type}{xs:List α}{d:Nat}(h:d<xs.length):at? xs (d:Int)=AA xs[d]:=by
 unfold at? ixI;rw[if_pos ∅,if_pos ∅];simp[h]
def smB:Css:=match yt.body with
 |.cons _ (.cons (.for _ _ b) _)=>b
 |x=>x
def zeN{w:Nat}(hw:Wid w)(k:Nat)(p0 p2:Option PV):∀(ss:List AM),(∀r∈ss,r∈rws)->∀{t:T3},W3 w t->∀p6,∃q6,
  yal (yd T (k+5)) (.n 6) smB (ss.map .str) [p0,AA (.int ((2^w:Nat):Int)),p2,AA (.int t.1),AA (.int t.2.1),AA (.int t.2.2),p6] []=.nx [p0,AA (.int ((2^w:Nat):Int)),p2,AA (.int (ad w ss t).1),AA (.int (ad w ss t).2.1),AA (.int (ad w ss t).2.2),q6] []
 |[],hs,t,h,p6=>⟨p6,zn⟩
 |r::ss,hs,t,h,p6=>by
  have hr:=hs r AW;have e:=(zdL hw hr h k []).2.2;let⟨q6,f⟩:=zeN hw k p0 p2 ss (λr hr=>hs r (AK _ hr)) (zdq hw hr h 0 []).1 (AA (.str r));refine⟨q6,?_⟩;have e1:exs (yd T (k+5)) [p0,AA (.int ((2^w:Nat):Int)),p2,AA (.int t.1),AA (.int t.2.1),AA (.int t.2.2),AA (.str r)] [] smB=.nx [p0,AA (.int ((2^w:Nat):Int)),p2,AA (.int (sd w r t).1),AA (.int (sd w r t).2.1),AA (.int (sd w r t).2.2),AA (.str r)] []:=by
   simp! [smB,yt,e,zkJ,t3]
  rw[AR,zi (ρ1:=[p0,AA (.int ((2^w:Nat):Int)),p2,AA (.int t.1),AA (.int t.2.1),AA (.int t.2.2),AA (.str r)]) rfl,e1];exact f
def zbr{w:Nat}(hw:Wid w)(k:Nat){ss:List AM}(hs:∀r∈ss,r∈rws){t:T3}(h:W3 w t)(st:SO){v:PV}(hv:v=.lst (ss.map .str) \/ v=.tp AE (ss.map .str)):
  yd T (k+6) ygw [v,.int ((2^w:Nat):Int),t3 t] st=.ok (t3 (ad w ss t)) st:=by
 let⟨q6,e⟩:=zeN hw k (AA v) (AA (t3 t)) ss hs h AB;have hT:T ygw=AA yt:=rfl
 have hb:yt.body=(match yt.body with
  |.cons a (.cons (.for t i _) r)=>.cons a (.cons (.for t i smB) r)
  |x=>x):=rfl
 have hn:nLs (ss.map .str)=true:=zM ss;have hn2:nLs [v,.int ((2^w:Nat):Int),t3 t]=true:=by rcases hv with rfl|rfl<;>simp[nLs,nL,hn,t3]
 have ho:∀s,yce st (.rt (.tp AE [.int (ad w ss t).1,.int (ad w ss t).2.1,.int (ad w ss t).2.2]) s)=.ok (t3 (ad w ss t)) st:=λ_=>rfl;rw[zD hT rfl rfl hn2,hb];erw[t3]at e ⊢;rcases hv with rfl|rfl
 .simp! [yt,zkJ,e];exact ho _
 .simp! [yt,zkJ,e];exact ho _
def bg(w:Nat):List T3:=(l3 (yd T 1 ym [.int ((2^w:Nat):Int)] [])).getD []
def bgC(w:Nat):Bool:=(l3 (yd T 1 ym [.int ((2^w:Nat):Int)] [])).isSome&&decide ((bg w).length<=128)&&(bg w).all (λt=>decide (W3 w t))&&(sts w).all (λt=>decide (t∈bg w))
theorem bg1:bgC 1=true:=by decide +kernel
theorem bg2:bgC 2=true:=by decide +kernel
theorem bg3:bgC 3=true:=by decide +kernel
def zf1{w:Nat}(hw:Wid w):(∀(k:Nat) (st:SO),yd T (k+1) ym [.int ((2^w:Nat):Int)] st=.ok (.lst ((bg w).map t3)) st)/\(bg w).length<=128/\(∀t∈bg w,W3 w t)/\∀t∈sts w,t∈bg w:=by
 have h:bgC w=true:=by
  rcases hw with rfl|rfl|rfl
  .exact bg1
  .exact bg2
  .exact bg3
 erw[bgC,AI,decide_eq_true_eq,Ah]at h;let⟨⟨⟨h1,h2⟩,h3⟩,h4⟩:=h;refine⟨λk st=>?_,h2,h3,h4⟩;let⟨l,hl⟩:=A9.1 h1;have e:bg w=l:=by unfold bg;rw[hl];rfl
 rw[e];let⟨s,f⟩:=zdW hl;rw[DF];exact zN (zaG (fn:=yes) rfl rfl rfl rfl f st) k
def zfh{w:Nat}(hw:Wid w)(a b:List AM):(∀t∈bg w,ad w a t=ad w b t) ↔ (sts w).map (ad w a)=(sts w).map (ad w b):=by
 let⟨_,_,h3,h4⟩:=zf1 hw;rw[List.map_inj_left];exact⟨λh t ht=>h t (h4 t ht),λh t ht=>h t (zb9 (h3 t ht))⟩
def zgq(w:Nat):∀(n:Nat),∀p∈lv w n,p.2=(sts w).map (ad w p.1)
 |0,p,h=>by
  rw[C7.1 h];show sts w=(sts w).map (ad w []);have:ad w []=id:=rfl;rw[this,GM]
 |n+1,p,h=>by
  erw[lv,Cr,Ba]at h;let⟨q,hq,r,hr,rfl⟩:=h;erw[nxt,zgq w n q hq,Dv]
  congr 1
  funext t
  simp[ad,List.foldl_append]
def told(p:Pt):PV:=.tp AE (p.1.map .str)
def lkF:Css:=match yE.body with
 |.cons _ (.cons _ (.cons _ (.cons _ (.cons (.for _ _ b) _))))=>b
 |_=>.nil
def lkH:Css:=match lkF with
 |.cons (.for _ _ b) _=>b
 |_=>.nil
def lkC:Ce:=match lkH with
 |.cons _ (.cons (.while c _) _)=>c
 |_=>.nope
def lkW:Css:=match lkH with
 |.cons _ (.cons (.while _ b) _)=>b
 |_=>.nil
def lkT:Css:=match lkH with
 |.cons _ (.cons _ r)=>r
 |_=>.nil
def lkX:Css:=match lkF with
 |.cons _ (.cons _ (.cons (.ite _ (.cons (.for _ _ b) _) _) _))=>b
 |_=>.nil
abbrev rl(p0:Option PV)(w:Nat)(gl:List T3)(n:Int)(ls l o a g:Option PV):IC.Env:=[p0,AA (.int ((2^w:Nat):Int)),AA (.lst ((bg w).map t3)),AA (.lst (gl.map t3)),AA (.int n),ls,l,o,a,g]
def zeP{w:Nat}(hw:Wid w)(k:Nat){ss:List AM}{q:List AM}(hq:∀r∈q,r∈rws)(st:SO)(p0:Option PV)(n:Int)(ls l g:Option PV):∀(m i f:Nat),i+m=(bg w).length->m<f ->
  ∃j:Nat,j<=(bg w).length/\yak (yd T (k+6)) lkC lkW f (rl p0 w ((bg w).map (ad w ss)) n ls l (AA (.tp AE (q.map .str))) (AA (.int i)) g) st=.nx (rl p0 w ((bg w).map (ad w ss)) n ls l (AA (.tp AE (q.map .str))) (AA (.int j)) g) st /\
   ((∀x (h:x<(bg w).length),i<=x->ad w q (bg w)[x]=ad w ss (bg w)[x]) ↔ j=(bg w).length)
 |0,i,f,hi,hf=>by
  obtain⟨f,rfl⟩:∃f',f=f'+1:=⟨f-1,by lia⟩;refine⟨i,by lia,?_,⟨λ_=>by lia,λ_ x h1 h2=>by lia⟩⟩;have hl:yag .len st [.lst ((bg w).map t3)]=AA (.int (bg w).length):=by simp[yag,lenV,yac]
  have hc:yG .lt (.int (i:Int)) (.int ((bg w).length:Int))=AA (.bl AE):=by rw[c_lt,decide_eq_false ∅]
  refine zT (x:=.bl AE) ?_ rfl;simp! [lkC,lkH,lkF,yE,rl,hl,hc]
 |m+1,i,f,hi,hf=>by
  obtain⟨f,rfl⟩:∃f',f=f'+1:=⟨f-1,by lia⟩;let⟨_,_,h3,_⟩:=zf1 hw;have hil:i<(bg w).length:=by lia
  have hl:yag .len st [.lst ((bg w).map t3)]=AA (.int (bg w).length):=by simp[yag,lenV,yac]
  have hc:yG .lt (.int (i:Int)) (.int ((bg w).length:Int))=AA (.bl AC):=by rw[c_lt,decide_eq_true ∅]
  have x1:idxV st (.lst ((bg w).map t3)) (.int i)=AA (t3 (bg w)[i]):=by
   show at? _ _=_;rw[zd7 (by simpa using hil)];simp
  have x2:idxV st (.lst (((bg w).map (ad w ss)).map t3)) (.int i)=AA (t3 (ad w ss (bg w)[i])):=by
   show at? _ _=_;rw[zd7 (by simpa using hil)];simp
  have e:=zbr hw k hq (h3 _ (Ct hil)) st (v:=.tp AE (q.map .str)) (.inr rfl);have hq2:yG .eq (t3 (ad w q (bg w)[i])) (t3 (ad w ss (bg w)[i]))=AA (.bl (decide (ad w q (bg w)[i]=ad w ss (bg w)[i]))):=by
   have h1:shp (t3 (ad w q (bg w)[i]))=true:=zd5 59 _;have h2:shp (t3 (ad w ss (bg w)[i]))=true:=zd5 59 _;erw[yG,h1,h2,CN,if_true,zcM]
  have ec:ev (yd T (k+6)) (rl p0 w ((bg w).map (ad w ss)) n ls l (AA (.tp AE (q.map .str))) (AA (.int i)) g) st lkC=.ok (.bl (decide (ad w q (bg w)[i]=ad w ss (bg w)[i]))) st:=by
   simp! [lkC,lkH,lkF,yE,rl,hl,hc,x1,x2,e,hq2]
  by_cases hd:ad w q (bg w)[i]=ad w ss (bg w)[i]
  .rw[decide_eq_true hd]at ec;let⟨j,hj,e2,h4⟩:=zeP hw k (ss:=ss) hq st p0 n ls l g m (i+1) f ∅ ∅;have eb:exs (yd T (k+6)) (rl p0 w ((bg w).map (ad w ss)) n ls l (AA (.tp AE (q.map .str))) (AA (.int i)) g) st lkW=.nx (rl p0 w ((bg w).map (ad w ss)) n ls l (AA (.tp AE (q.map .str))) (AA (.int (i+1:Nat))) g) st:=by
    simp! [lkW,lkH,lkF,yE,rl];rw[IC.x_aug (x:=.int i) rfl];rfl
   refine⟨j,hj,?_,⟨λh=>h4.1 λx hx hx2=>h x hx ∅,λh x hx hx2=>?_⟩⟩
   .rw[zbN ec rfl eb];exact e2
   .rcases Dx i x with z|z
    .exact h4.2 h x hx z
    .have:x=i:=by lia
     subst this;exact hd
  .rw[decide_eq_false hd]at ec;refine⟨i,by lia,zT ec rfl,⟨λh=>absurd (h i hil (AN _)) hd,λh=>by lia⟩⟩
def zeo{w:Nat}(q ss:List AM):(∀x (h:x<(bg w).length),0<=x->ad w q (bg w)[x]=ad w ss (bg w)[x]) ↔ ∀t∈bg w,ad w q t=ad w ss t:=
 ⟨λh t ht=>by
  let⟨i,hi,rfl⟩:=List.mem_iff_getElem.1 ht;exact h i hi (BO _),λh x hx _=>h _ (Ct hx)⟩
def zeD{w:Nat}(hw:Wid w)(k:Nat){ss:List AM}(st:SO)(p0:Option PV)(ls l g:Option PV):∀(ps:List Pt),(∀p∈ps,(∀r∈p.1,r∈rws)/\p.2=(sts w).map (ad w p.1))->∀(n:Int) (o a:Option PV),
  (∀u,yaa ((sts w).map (ad w ss)) ps n=AA u->yal (yd T (k+6)) (.n 7) lkH (ps.map told) (rl p0 w ((bg w).map (ad w ss)) n ls l o a g) st=.rt u st) /\
  (yaa ((sts w).map (ad w ss)) ps n=AB->∃o' a',yal (yd T (k+6)) (.n 7) lkH (ps.map told) (rl p0 w ((bg w).map (ad w ss)) n ls l o a g) st=.nx (rl p0 w ((bg w).map (ad w ss)) (n+(ps.length:Int)) ls l o' a' g) st)
 |[],_,n,o,a=>⟨λu h=>(by cases h),λ_=>⟨o,a,by rw[B0,zn];simp⟩⟩
 |p::ps,hp,n,o,a=>by
  let⟨h1,h2⟩:=hp p AW;let⟨i1,i2⟩:=zeD hw k (ss:=ss) st p0 ls l g ps (λp h=>hp p (AK _ h)) (n+1) (AA (told p)) (AA (.int (bg w).length));let⟨_,hbl,_,_⟩:=zf1 hw;let⟨j,hj,e1,h3⟩:=zeP hw k (ss:=ss) h1 st p0 n ls l g (bg w).length 0 100000 ∅ ∅;rw[zeo,zfh hw,<-h2]at h3;have hl:yag .len st [.lst ((bg w).map t3)]=AA (.int (bg w).length):=by simp[yag,lenV,yac]
  have hb:lkH=.cons (.asg (.n 8) (.cst (.int 0))) (.cons (.while lkC lkW) lkT):=rfl;have e1:yak (yd T (k+6)) lkC lkW 100000 (rl p0 w ((bg w).map (ad w ss)) n ls l (AA (told p)) (AA (.int 0)) g) st=.nx (rl p0 w ((bg w).map (ad w ss)) n ls l (AA (told p)) (AA (.int j)) g) st:=e1;have e2:exs (yd T (k+6)) (rl p0 w ((bg w).map (ad w ss)) n ls l (AA (told p)) a g) st lkH=exs (yd T (k+6)) (rl p0 w ((bg w).map (ad w ss)) n ls l (AA (told p)) (AA (.int j)) g) st lkT:=by
   rw[hb,xs_cons];have:ex (yd T (k+6)) (rl p0 w ((bg w).map (ad w ss)) n ls l (AA (told p)) a g) st (.asg (.n 8) (.cst (.int 0)))=.nx (rl p0 w ((bg w).map (ad w ss)) n ls l (AA (told p)) (AA (.int 0)) g) st:=rfl;rw[this,th_nx,xs_cons,IC.x_while,e1,th_nx]
  rw[AR,zi (ρ1:=rl p0 w ((bg w).map (ad w ss)) n ls l (AA (told p)) a g) rfl,yaa,e2]
  by_cases h:p.2=(sts w).map (ad w ss)
  .have hjl:=h3.1 h;have hq:yG .eq (.int (j:Int)) (.int ((bg w).length:Int))=AA (.bl AC):=by rw[hjl,c_eq];simp
   have e3:exs (yd T (k+6)) (rl p0 w ((bg w).map (ad w ss)) n ls l (AA (told p)) (AA (.int j)) g) st lkT=.rt (.tp AE [told p,.int n]) st:=by
    simp! [lkT,lkH,lkF,yE,rl,hl,hq]
   rw[if_pos h,e3];exact⟨λu hu=>(by cases hu;rfl),λhu=>(by cases hu)⟩
  .have hjl:j≠(bg w).length:=λz=>h (h3.2 z);have hq:yG .eq (.int (j:Int)) (.int ((bg w).length:Int))=AA (.bl AE):=by
    rw[c_eq];have:((j:Int)==((bg w).length:Int))=false:=by simp;lia
    rw[this]
   have e3:exs (yd T (k+6)) (rl p0 w ((bg w).map (ad w ss)) n ls l (AA (told p)) (AA (.int j)) g) st lkT=.nx (rl p0 w ((bg w).map (ad w ss)) (n+1) ls l (AA (told p)) (AA (.int j)) g) st:=by
    simp! [lkT,lkH,lkF,yE,rl,hl,hq];rw[IC.x_aug (x:=.int n) rfl];rfl
   rw[if_neg h,e3];let⟨i1,i2⟩:=zeD hw k (ss:=ss) st p0 ls l g ps (λp h=>hp p (AK _ h)) (n+1) (AA (told p)) (AA (.int j));refine⟨λu hu=>i1 u hu,λhu=>?_⟩;let⟨o',a',f⟩:=i2 hu;refine⟨o',a',?_⟩;show yal _ _ _ _ _ st=_;rw[f,show n+1+(ps.length:Int)=n+(((p::ps).length:Nat):Int)by rw[Af];lia]
def zj4{p:Pt}(hl:p.1.length<=100)(r:AM)(w:Nat):yw .add (told p) (.tp AE [.str r])=AA (told (nxt w p r)):=by
 unfold told nxt
 cases hp1:p.1 with
 |nil=>rfl
 |cons a l=>
  rw[hp1]at hl;have hz:((a::l).map PV.str).length+[PV.str r].length<=sizeMax:=by simp[sizeMax]at hl ⊢;lia
  erw[yw];rw[if_pos hz];simp[ydj]
def lkE:Ce:=match lkX with
 |.cons (.expr (.mth _ _ (.cons (.comp _ _ _ _ e) _))) _=>e
 |_=>.nope
def ze5{call:Cl}{p:Pt}(hl:p.1.length<=100)(w:Nat)(st:SO):∀ss:List AM,yQ call [AB,AA (told p)] (.n 0) (.cst (.bl AC)) lkE (ss.map .str) st=.ok (ss.map λr=>told (nxt w p r)) st
 |[]=>zy
 |s::ss=>by
  have hb:yo (.n 0) (.str s) [AB,AA (told p)]=AA [AA (.str s),AA (told p)]:=rfl;have ha:=zj4 hl s w;have e1:yaV call [AB,AA (told p)] (.n 0) (.cst (.bl AC)) lkE (.str s) st=.ok (AA (told (nxt w p s))) st:=by
   erw[yaV,hb,IC.ve1,bd_ok,t_bl,ono,cond_true];simp! [lkE,lkX,lkF,yE,ha]
  rw[AR,zk,e1,bd_ok,ze5 hl w st ss,bd_ok];rfl
def zgk{w:Nat}(k:Nat)(st:SO)(p0:Option PV)(gl:List T3)(n:Int)(ls l a:Option PV):∀(ps:List Pt),(∀p∈ps,p.1.length<=100)->∀(acc:List PV) (o:Option PV),acc.length+13*ps.length<=1000000 ->
  ∃o',yal (yd T (k+6)) (.n 7) lkX (ps.map told) (rl p0 w gl n ls l o a (AA (.loc st.length))) (st++[.lst acc])=.nx (rl p0 w gl n ls l o' a (AA (.loc st.length))) (st++[.lst (acc++(ps.flatMap λp=>rws.map λr=>nxt w p r).map told)])
 |[],_,acc,o,_=>⟨o,by rw[B0,zn];simp⟩
 |p::ps,hp,acc,o,hz=>by
  have h1:=hp p AW;erw[Af]at hz;have h13:(rws.map λr=>told (nxt w p r)).length=13:=by rw[Ak];rfl
  have hc:=ze5 (call:=yd T (k+6)) h1 w (st++[.lst acc]) rws;have e4:yd T (k+6) 23 [] (st++[.lst acc])=.ok (.tp AE (rws.map .str)) (st++[.lst acc]):=zcx (k+5) _;have hg:(st++[Ob.lst acc])[st.length]?=AA (.lst acc):=by simp
  have hok:yaA .extend (st++[.lst acc]) (.loc st.length)=AA true:=by erw[yaA,yD,hg,Bq]
  have hx:ybC .extend (st++[.lst acc]) (.loc st.length) [.lst (rws.map λr=>told (nxt w p r))]=.ok .non (st++[.lst (acc++rws.map λr=>told (nxt w p r))]):=by
   erw[ybC,ydC,hg];rw[if_pos ∅];simp
  have z3:(rws.map λr=>told (nxt w p r)).length<=1000000:=by lia
  have hb:lkX=(match lkX with
   |.cons (.expr (.mth m o (.cons (.comp s g i c _) n))) r=>.cons (.expr (.mth m o (.cons (.comp s g i c lkE) n))) r
   |x=>x):=rfl
  have e1:exs (yd T (k+6)) (rl p0 w gl n ls l (AA (told p)) a (AA (.loc st.length))) (st++[.lst acc]) lkX=.nx (rl p0 w gl n ls l (AA (told p)) a (AA (.loc st.length))) (st++[.lst (acc++rws.map λr=>told (nxt w p r))]):=by
   rw[hb];simp! [lkX,lkF,yE,rl,hok,e4,hc,zx _ z3,hx]
  let⟨o',f⟩:=zgk k st p0 gl n ls l a ps (λp h=>hp p (AK _ h)) (acc++rws.map λr=>told (nxt w p r)) (AA (told p)) (by rw[Aq];lia);refine⟨o',?_⟩;rw[AR,zi (ρ1:=rl p0 w gl n ls l (AA (told p)) a (AA (.loc st.length))) rfl,e1];show yal _ _ _ _ _ _=_;rw[f];simp
def ybj(w i:Nat):List Pt:=if i<4 then lv w i else []
def zhB{w:Nat}(hw:Wid w)(k:Nat){ss:List AM}(st:SO)(p0:Option PV)(i:Nat)(hi:i<4)(n:Int)(o a g:Option PV):
  (∀u,yaa ((sts w).map (ad w ss)) (lv w i) n=AA u->exs (yd T (k+6)) (rl p0 w ((bg w).map (ad w ss)) n (AA (.lst ((ybj w i).map told))) (AA (.int i)) o a g) st lkF=.rt u st) /\
  (yaa ((sts w).map (ad w ss)) (lv w i) n=AB->∃o' a' g',exs (yd T (k+6)) (rl p0 w ((bg w).map (ad w ss)) n (AA (.lst ((ybj w i).map told))) (AA (.int i)) o a g) st lkF =
   .nx (rl p0 w ((bg w).map (ad w ss)) (n+((lv w i).length:Int)) (AA (.lst ((ybj w (i+1)).map told))) (AA (.int i)) o' a' g') (st++[.dead])):=by
 have hls:ybj w i=lv w i:=if_pos hi;rw[hls];let⟨i1,i2⟩:=zeD hw k (ss:=ss) st p0 (AA (.lst ((lv w i).map told))) (AA (.int i)) g (lv w i) (λp hp=>⟨(zdh hw i p hp).2.2.2,zgq w i p hp⟩) n o a;have hb:lkF=.cons (.for (.n 7) (.seq (.var 5)) lkH) (.cons (.asg (.n 9) (.newl .nil)) (.cons (.ite (.cmp .lt (.var 6) (.cst (.int 3))) (.cons (.for (.n 7) (.seq (.var 5)) lkX) .nil) .nil) (.cons (.asg (.n 5) (.frz (.var 9))) .nil))):=rfl;have hv:evi (yd T (k+6)) (rl p0 w ((bg w).map (ad w ss)) n (AA (.lst ((lv w i).map told))) (AA (.int i)) o a g) st (.seq (.var 5))=.ok ((lv w i).map told) st:=rfl;rw[hb];constructor
 .intro u hu;rw[xs_cons,x_for,hv,fl_ok,i1 u hu,th_rt]
 .intro hu;let⟨o',a',f⟩:=i2 hu;have hg:∀xs,(st++[Ob.lst xs])[st.length]?=AA (.lst xs):=λxs=>by simp
  have hfz:∀xs,ycL (.loc st.length) (st++[.lst xs])=.ok (.lst xs) (st++[.dead]):=λxs=>by
   erw[ycL,hg];simp
  by_cases h3:i<3
  .have hc:yG .lt (.int (i:Int)) (.int 3)=AA (.bl AC):=by rw[c_lt,decide_eq_true ∅]
   have hz:(lv w i).length<=169:=by
    rw[zdT];rcases (by lia:i=0 \/ i=1 \/ i=2)with rfl|rfl|rfl<;>decide
   let⟨o2,f2⟩:=zgk (w:=w) k st p0 ((bg w).map (ad w ss)) (n+((lv w i).length:Int)) (AA (.lst ((lv w i).map told))) (AA (.int i)) a' (lv w i) (λp hp=>by have:=(zdh hw i p hp).2.1;lia) [] o' (by erw[Bp];lia);have hn:ybj w (i+1)=(lv w i).flatMap λp=>rws.map λr=>nxt w p r:=by unfold ybj;rw[if_pos ∅];rfl
   refine⟨o2,a',AA (.loc st.length),?_⟩;rw[C3]at f2;rw[hn,xs_cons,x_for,hv,fl_ok,f,th_nx];erw[rl]at f2;simp! [rl,hc,f2,IC.ve25,hfz]
  .have hc:yG .lt (.int (i:Int)) (.int 3)=AA (.bl AE):=by rw[c_lt,decide_eq_false ∅]
   have hn:ybj w (i+1)=[]:=by unfold ybj;rw[if_neg ∅]
   refine⟨o',a',AA (.loc st.length),?_⟩;rw[hn,xs_cons,x_for,hv,fl_ok,f,th_nx];simp! [rl,hc,IC.ve25,hfz]
def zef{w:Nat}(hw:Wid w)(k:Nat){ss:List AM}(p0:Option PV):∀(m i:Nat),i+m=4->∀(st:SO) (n:Int) (l o a g:Option PV),
  ∃st',(∃u,yal (yd T (k+6)) (.n 6) lkF (yq m i 1) (rl p0 w ((bg w).map (ad w ss)) n (AA (.lst ((ybj w i).map told))) l o a g) st=.rt u st'/\yaH w ((sts w).map (ad w ss)) (D7 i m) n=u) \/
  ∃n' ls' l' o' a' g',yal (yd T (k+6)) (.n 6) lkF (yq m i 1) (rl p0 w ((bg w).map (ad w ss)) n (AA (.lst ((ybj w i).map told))) l o a g) st=.nx (rl p0 w ((bg w).map (ad w ss)) n' ls' l' o' a' g') st'/\yaH w ((sts w).map (ad w ss)) (D7 i m) n=.tp AE [.non,.int n']
 |0,i,_,st,n,l,o,a,g=>⟨st,.inr ⟨n,_,l,o,a,g,by rw[yq,zn],rfl⟩⟩
 |m+1,i,hm,st,n,l,o,a,g=>by
  let⟨i1,i2⟩:=zhB hw k (ss:=ss) st p0 i ∅ n o a g;rw[yq,zi (ρ1:=rl p0 w ((bg w).map (ad w ss)) n (AA (.lst ((ybj w i).map told))) (AA (.int i)) o a g) rfl,FT,yaH]
  cases hh:yaa ((sts w).map (ad w ss)) (lv w i) n with
  |some u=>
   rw[i1 u hh];exact⟨st,.inl ⟨u,rfl,rfl⟩⟩
  |none=>
   let⟨o',a',g',f⟩:=i2 hh;rw[f];exact zef hw k (ss:=ss) p0 m (i+1) ∅ (st++[.dead]) (n+((lv w i).length:Int)) (AA (.int i)) o' a' g'
def Fnd(u:PV):Prop:=∃(a:PV) (n:Int),u=.tp AE [a,.int n]/\(a=.non \/ ∃ss:List AM,a=.tp AE (ss.map .str)/\∀r∈ss,r∈rws)
def ze8{tg:List T3}:∀(ps:List Pt),(∀p∈ps,∀r∈p.1,r∈rws)->∀(n:Int) u,yaa tg ps n=AA u->Fnd u
 |[],_,n,u,h=>by cases h
 |p::ps,hp,n,u,h=>by
  rw[yaa]at h;split at h
  .cases h
   exact⟨_,n,rfl,.inr ⟨p.1,rfl,hp p AW⟩⟩
  .exact ze8 ps (λp h=>hp p (AK _ h)) _ u h
def zbc{w:Nat}(hw:Wid w){tg:List T3}:∀(is:List Nat) (n:Int),Fnd (yaH w tg is n)
 |[],n=>⟨.non,n,rfl,.inl rfl⟩
 |i::is,n=>by
  rw[yaH];split
  .rename_i v e;exact ze8 _ (λp hp=>(zdh hw i p hp).2.2.2) _ _ e
  .exact zbc hw is _
def zbE{u:PV}(h:Fnd u):nL u=true:=by
 obtain⟨a,n,rfl,rfl|⟨ss,rfl,_⟩⟩:=h
 .rfl
 .simp[nL,nLs,zM]
def zhi{w:Nat}(hw:Wid w)(k:Nat){ss:List AM}(hs:∀r∈ss,r∈rws)(st:SO):
  yd T (k+7) ygz [.lst (ss.map .str),.int ((2^w:Nat):Int)] st=.ok (yaH w ((sts w).map (ad w ss)) [0,1,2,3] 0) st:=by
 let⟨b1,b2,b3,_⟩:=zf1 hw;have hT:T ygz=AA yE:=rfl;have e1:yd T (k+6) ym [.int ((2^w:Nat):Int)] []=.ok (.lst ((bg w).map t3)) []:=b1 (k+5) [];have e2:∀ts:List T3,(∀t∈ts,W3 w t)->yQ (yd T (k+6)) [AB,AA (.lst (ss.map .str)),AA (.int ((2^w:Nat):Int))] (.n 0) (.cst (.bl AC)) (.call 25 (.cons (.var 1) (.cons (.var 2) (.cons (.var 0) .nil)))) (ts.map t3) []=.ok ((ts.map (ad w ss)).map t3) []:=by
  intro ts
  induction ts with
  |nil=>exact λ_=>zy
  |cons t ts ih=>
   intro h;have hb:yo (.n 0) (t3 t) [AB,AA (.lst (ss.map .str)),AA (.int ((2^w:Nat):Int))]=AA [AA (t3 t),AA (.lst (ss.map .str)),AA (.int ((2^w:Nat):Int))]:=rfl;have e:yd T (k+6) 25 [.lst (ss.map .str),.int ((2^w:Nat):Int),t3 t] []=.ok (t3 (ad w ss t)) []:=zbr hw k hs (h t AW) [] (.inl rfl);have e1:yaV (yd T (k+6)) [AB,AA (.lst (ss.map .str)),AA (.int ((2^w:Nat):Int))] (.n 0) (.cst (.bl AC)) (.call 25 (.cons (.var 1) (.cons (.var 2) (.cons (.var 0) .nil)))) (t3 t) []=.ok (AA (t3 (ad w ss t))) []:=by
    erw[yaV,hb,IC.ve1,bd_ok,t_bl,ono,cond_true];simp! [e]
   rw[AR,zk,e1,bd_ok,ih λt h'=>h t (AK _ h'),bd_ok];rfl
 have e2:=e2 (bg w) b3;have z3:(((bg w).map (ad w ss)).map t3).length<=1000000:=by simp;lia
 have hn2:nLs [.lst (ss.map .str),.int ((2^w:Nat):Int)]=true:=by simp[nLs,nL,zM]
 have hr:ybS (.int 4)=AA (yq 4 0 1):=rfl
 have hb:yE.body=(match yE.body with
  |.cons a (.cons b (.cons c (.cons d (.cons (.for t i _) r))))=>.cons a (.cons b (.cons c (.cons d (.cons (.for t i lkF) r))))
  |x=>x):=rfl
 have hf:=zbc hw (tg:=(sts w).map (ad w ss)) [0,1,2,3] 0;have ho:∀u s,Fnd u->yce st (.rt u s)=.ok u st:=λu s h=>by
  show (if nL u=AC then R.ok u st else .bad)=_;rw[if_pos (zbE h)]
 have h0:(PV.lst ((ybj w 0).map told))=.lst [.tp AE []]:=rfl;let⟨s',h⟩:=zef hw k (ss:=ss) (AA (.lst (ss.map .str))) 4 0 rfl [] 0 AB AB AB AB;rw[h0]at h;have h4:D7 0 4=[0,1,2,3]:=rfl;rw[h4]at h;rw[zD hT rfl rfl hn2,hb];rcases h with⟨u,f,g⟩|⟨n',ls',l',o',a',g',f,g⟩
 .have f:yal (yd T (k+6)) (.n 6) lkF (yq 4 0 1) [AA (.lst (ss.map .str)),AA (.int ((2^w:Nat):Int)),AA (.lst ((bg w).map t3)),AA (.lst (((bg w).map (ad w ss)).map t3)),AA (.int 0),AA (.lst [.tp AE []]),AB,AB,AB,AB] []=.rt u s':=f;rw[g]at hf ⊢;have ho:=ho u s' hf;simp! [yE,e1,e2,zx _ z3,hr,f,ho]
 .have f:yal (yd T (k+6)) (.n 6) lkF (yq 4 0 1) [AA (.lst (ss.map .str)),AA (.int ((2^w:Nat):Int)),AA (.lst ((bg w).map t3)),AA (.lst (((bg w).map (ad w ss)).map t3)),AA (.int 0),AA (.lst [.tp AE []]),AB,AB,AB,AB] []=.nx _ s':=f;rw[g]at hf ⊢;have ho:=ho _ s' hf;simp! [yE,e1,e2,zx _ z3,hr,f,ho]
def zb3:∀(n:Nat) (a:Int),(yq n a 1).length=n
 |0,a=>rfl
 |n+1,a=>by rw[yq,Af,zb3 n]
def srE:Ce:=match yu.body with
 |.cons _ (.cons (.ret (.comp _ _ _ _ e)) _)=>e
 |_=>.nope
def zeb{ns:List Int}(hns:ns.length<=1000)(k:Nat):∀(xs:List PV) {st:SO},Drw ns 0 st->∃(ss:List AM) (st':SO),ss.length=xs.length/\(∀r∈ss,r∈rws)/\Onl ns 0 st st'/\yQ (yd T (k+3)) [AB,AA (.loc 0)] (.n 0) (.cst (.bl AC)) srE xs st=.ok (ss.map .str) st'
 |[],st,h=>⟨[],st,rfl,by simp,h.refl,zy⟩
 |x::xs,st,h=>by
  let⟨d,s1,d0,d1,o1,e1⟩:=zkE k hns (m:=13) ∅ ∅ h;let⟨d,rfl⟩:=zX d0;have hd:d<rws.length:=by simp[rws];lia
  have hi:idxV s1 (.tp AE ybs) (.int d)=AA (.str rws[d]):=by
   have hl:d<ybs.length:=by rw[ybs,Ak];exact hd
   show at? ybs (d:Int)=_;rw[zd7 hl];simp[ybs]
  let⟨ss,s2,l,hs,o2,e2⟩:=zeb hns k xs (o1.drw h);have e4:yd T (k+3) yev [] st=.ok (.tp AE ybs) st:=zcx (k+2) st;have hb:yo (.n 0) x [AB,AA (.loc 0)]=AA [AA x,AA (.loc 0)]:=rfl;have e3:yaV (yd T (k+3)) [AB,AA (.loc 0)] (.n 0) (.cst (.bl AC)) srE x st=.ok (AA (.str rws[d])) s1:=by
   erw[yaV,hb,IC.ve1,bd_ok,t_bl,ono,cond_true];simp! [srE,yu,e4,e1,hi]
  refine⟨rws[d]::ss,s2,by simp[l],λq hq=>?_,o1.trans o2,?_⟩
  .rcases A8.1 hq with rfl|hq
   .exact Ct hd
   .exact hs q hq
  .rw[zk,e3,bd_ok,e2,bd_ok];rfl
def za4{ns:List Int}(hns:ns.length<=1000)(k:Nat){M:Nat}(hM:M<=100){st:SO}(h:Drw ns 0 st):∃(ss:List AM) (st':SO),ss.length<=M/\(∀r∈ss,r∈rws)/\Onl ns 0 st st'/\yd T (k+4) yz [.loc 0,.int M] st=.ok (.lst (ss.map .str)) st':=by
 have hT:T yz=AA yu:=rfl;let⟨d,s1,d0,d1,o1,e1⟩:=zkE k hns (m:=(M:Int)+1) ∅ ∅ h;let⟨d,rfl⟩:=zX d0;let⟨ss,s2,l,hs,o2,e2⟩:=zeb hns k (yq d 0 1) (o1.drw h);have hl:(yq d 0 1).length=d:=zb3 d 0;refine⟨ss,s2,by lia,hs,o1.trans o2,?_⟩
 have hb:yu.body=(match yu.body with
  |.cons a (.cons (.ret (.comp s t i c _)) r)=>.cons a (.cons (.ret (.comp s t i c srE)) r)
  |x=>x):=rfl
 have hr:ybS (.int (d:Int))=AA (yq d 0 1):=zcU d ∅;rw[zz hT rfl rfl,hb];simp! [yu,e1,hr,e2,zx _ (show (ss.map PV.str).length<=1000000 by simp;lia),zcD]
def za9:∀ss:List AM,yaS (ss.map .str) (ss.map .str)=AC
 |[]=>rfl
 |s::ss=>by simp[yaS,peq,za9 ss]
def zbn(n:Nat):∀ss:List AM,(∀r∈ss,r∈rws)->yaD n (ss.map .str)=AC
 |[],_=>rfl
 |s::ss,h=>by
  have h1:shd n (.str s)=true:=(zeI (h s AW)).1;rw[AR,yaD,h1,zbn n ss λr hr=>h r (AK _ hr)];rfl
def zhO{u:PV}(h:Fnd u):shp u=AC/\peq u u=true:=by
 obtain⟨a,n,rfl,rfl|⟨ss,rfl,hs⟩⟩:=h
 .exact⟨rfl,by simp[peq,yaS]⟩
 .refine⟨?_,by simp[peq,yaS,za9]⟩;show shd 60 _=AC;erw[shd,yaD,zbn _ ss hs];rfl
def zgJ{u:PV}(h:Fnd u):yG .eq u u=AA (.bl AC)/\yG .ne u u=AA (.bl AE):=by
 let⟨h1,h2⟩:=zhO h;erw[yG,h1,h2,CN,if_true,D8,and_self]
theorem isS(call:Cl):∀ss:List AM,yQ call [AB] (.n 0) (.cst (.bl AC)) (.isi (.var 0) [.str]) (ss.map .str) []=.ok ((ss.map PV.str).map λx=>.bl ((λ_=>AC) x)) []
 |[]=>zy
 |s::ss=>by
  have hb:yo (.n 0) (.str s) [AB]=AA [AA (.str s)]:=rfl;have e1:yaV call [AB] (.n 0) (.cst (.bl AC)) (.isi (.var 0) [.str]) (.str s) []=.ok (AA (.bl AC)) []:=by
   erw[yaV,hb,IC.ve1,bd_ok,t_bl,ono,cond_true];rfl
  rw[AR,zk,e1,bd_ok,isS call ss,bd_ok];rfl
def zg2(k:Nat){u:PV}(h:Fnd u)(hl:∀ss:List AM,∀n,u=.tp AE [.tp AE (ss.map .str),.int n]->ss.length<=1000)(st:SO):yd T (k+2) ygA [u,u] st=.ok (.bl AC) st:=by
 have hT:T ygA=AA yk:=rfl;have hT2:T ygB=AA ycz:=rfl;let⟨_,hne⟩:=zgJ h;have hn2:nLs [u,u]=true:=by simp[nLs,zbE h]
 have hwh:∀n:Int,yd T (k+1) 22 [.int n] []=.ok (.bl AC) []:=λn=>by
  rw[zD (show T 22=AA ycz from rfl) rfl rfl rfl];rfl
 have c2:yG .ne (.int 2) (.int 2)=AA (.bl AE):=rfl;rw[zD hT rfl rfl hn2];obtain⟨a,n,rfl,rfl|⟨ss,rfl,hs⟩⟩:=h
 .have i0:idxV [] (.tp AE [.non,.int n]) (.int 0)=AA .non:=rfl;have i1:idxV [] (.tp AE [.non,.int n]) (.int 1)=AA (.int n):=rfl;have hl2:yag .len [] [.tp AE [.non,.int n]]=AA (.int 2):=rfl;have ht:ybi (.tp AE [.non,.int n]) [.tuple]=AA (.bl AC):=rfl;have hi:yG .is .non .non=AA (.bl AC):=rfl;have ho:∀s b,yce st (.rt (.bl b) s)=.ok (.bl b) st:=λ_ _=>rfl;simp! [yk,ht,hl2,c2,i0,i1,hwh,hne,hi,ho]
 .have i0:idxV [] (.tp AE [.tp AE (ss.map .str),.int n]) (.int 0)=AA (.tp AE (ss.map .str)):=rfl;have i1:idxV [] (.tp AE [.tp AE (ss.map .str),.int n]) (.int 1)=AA (.int n):=rfl;have hl2:yag .len [] [.tp AE [.tp AE (ss.map .str),.int n]]=AA (.int 2):=rfl;have ht:ybi (.tp AE [.tp AE (ss.map .str),.int n]) [.tuple]=AA (.bl AC):=rfl;have ht2:ybi (.tp AE (ss.map .str)) [.tuple]=AA (.bl AC):=rfl;have hi:yG .is (.tp AE (ss.map .str)) .non=AA (.bl AE):=rfl;have ho:∀s b,yce st (.rt (.bl b) s)=.ok (.bl b) st:=λ_ _=>rfl;have hc:=isS (yd T (k+1)) ss;have hz:((ss.map PV.str).map λx=>PV.bl ((λ_=>AC) x)).length<=1000000:=by have:=hl ss n rfl;simp;lia
  have ha:yag .all [] [.lst ((ss.map PV.str).map λx=>PV.bl ((λ_=>AC) x))]=AA (.bl AC):=by
   rw[zhL];simp
  simp! [yk,ht,ht2,hl2,c2,i0,i1,hwh,hne,hi,hc,zx _ hz,ha,ho]
def zdt{tg:List T3}:∀(ps:List Pt) (n:Int) u,yaa tg ps n=AA u->∃p∈ps,∃m,u=.tp AE [.tp AE (p.1.map .str),.int m]
 |[],n,u,h=>by cases h
 |p::ps,n,u,h=>by
  rw[yaa]at h;split at h
  .cases h;exact⟨p,AW,n,rfl⟩
  .let⟨q,hq,m,e⟩:=zdt ps _ u h;exact⟨q,AK _ hq,m,e⟩
def zcN{w:Nat}(hw:Wid w){tg:List T3}:∀(is:List Nat),(∀i∈is,i<=1000)->∀(n:Int) (ss:List AM) m,yaH w tg is n=.tp AE [.tp AE (ss.map .str),.int m]->ss.length<=1000
 |[],_,n,ss,m,h=>by
  rw[yaH]at h;injection h with _ h;injection h with h _
  cases h
 |i::is,hi,n,ss,m,h=>by
  rw[yaH]at h;split at h
  .rename_i v e;let⟨p,hp,m',rfl⟩:=zdt _ _ _ e;injection h with _ h;injection h with h _;injection h with _ h;have hl:=congrArg Bd h;erw[Ak]at hl;have:=(zdh hw i p hp).2.1;have:=hi i AW;lia
  .exact zcN hw is (λi h=>hi i (AK _ h)) _ ss m h
def zjK(ss:List AM){p:Nat}(hp:p<=ss.length):ybT (.lst (ss.map .str)) AB (.int p)=AA (.lst ((ss.take p).map .str)):=by
 have h:yaw ss.length (p:Int)=p:=by unfold yaw;rw[if_neg ∅];show min p ss.length=p;lia
 simp[ybT,ybm,ybL,cut,yb3,ycj,h,List.map_take]
def zfG(ss:List AM){p:Nat}(hp:p<=ss.length):ybT (.lst (ss.map .str)) (AA (p:Int)) .non=AA (.lst ((ss.drop p).map .str)):=by
 have h:yaw ss.length (p:Int)=p:=by unfold yaw;rw[if_neg ∅];show min p ss.length=p;lia
 simp[ybT,ybm,ybL,cut,yb3,ycj,h,List.map_drop,List.take_of_length_le]
def zjh(a b:List AM)(h:a.length+b.length<=1000):yw .add (.lst (a.map .str)) (.lst (b.map .str))=AA (.lst ((a++b).map .str)):=by
 have hz:(a.map PV.str).length+(b.map PV.str).length<=sizeMax:=by simp[sizeMax];lia
 erw[yw];rw[if_pos hz,List.map_append]
def lwE:Css:=match yai.body with
 |.cons _ (.cons _ (.cons _ (.cons (.ite _ _ b) _)))=>b
 |_=>.nil
def lwI:Css:=match yai.body with
 |.cons _ (.cons _ (.cons _ (.cons (.ite _ a _) _)))=>a
 |_=>.nil
def lwL:Css:=match lwE with
 |.cons _ (.cons (.for _ _ b) _)=>b
 |_=>.nil
def lwT:Css:=match yai.body with
 |.cons _ (.cons _ (.cons _ (.cons _ r)))=>r
 |_=>.nil
abbrev ro(p0 p2:Option PV)(w:Nat)(ss:List AM)(p5 p6 p7:Option PV):IC.Env:=[p0,AA (.loc 0),p2,AA (.int w),AA (.lst (ss.map .str)),p5,p6,p7,AB,AB,AB]
def zfL{ns:List Int}(hns:ns.length<=1000){st:SO}(h:Drw ns 0 st){ss:List AM}(hs:∀r∈ss,r∈rws)(hl:ss.length<=100)(p0 p2:Option PV)(w:Nat)(p5 p6 p7:Option PV):
  ∃ss' st' q6 q7,Drw ns 0 st'/\(∀r∈ss',r∈rws)/\ss'.length=ss.length+2/\exs (yd T 24) (ro p0 p2 w ss p5 p6 p7) st lwL=.nx (ro p0 p2 w ss' p5 q6 q7) st':=by
 let⟨c,s1,c0,c1,o1,e1⟩:=zkE 21 hns (m:=3) ∅ ∅ h;have h1:=o1.drw h;have hx:∃r∈rws,idxV s1 (.tp AE [.str "swap",.str "bare",.str "odd"]) (.int c)=AA (.str r):=by
  rcases (by lia:c=0 \/ c=1 \/ c=2)with rfl|rfl|rfl
  .exact⟨A4 "swap",by decide +kernel,rfl⟩
  .exact⟨A4 "bare",by decide +kernel,rfl⟩
  .exact⟨A4 "odd",by decide +kernel,rfl⟩
 let⟨r,hr,hx⟩:=hx;let⟨p,s2,q0,q1,o2,e2⟩:=zkE 21 hns (m:=(ss.length:Int)+1) ∅ ∅ h1;let⟨p,rfl⟩:=zX q0;have hp:p<=ss.length:=by lia
 have hlen:yag .len s1 [.lst (ss.map .str)]=AA (.int ss.length):=by simp[yag,lenV,yac]
 have a1:=zjK ss hp;have a2:=zfG ss hp;have a3:=zjh (ss.take p) [r,r] (by simp;lia);have a4:=zjh (ss.take p++[r,r]) (ss.drop p) (by simp;lia);have a3:yw .add (.lst ((ss.take p).map .str)) (.lst [.str r,.str r])=AA (.lst ((ss.take p++[r,r]).map .str)):=a3;have e1:yd T 24 21 [.loc 0,.int 3] st=.ok (.int c) s1:=e1;have e2:yd T 24 21 [.loc 0,.int ((ss.length:Int)+1)] s1=.ok (.int p) s2:=e2;refine⟨ss.take p++[r,r]++ss.drop p,s2,AA (.str r),AA (.int p),o2.drw h1,λq hq=>?_,by simp;lia,?_⟩
 .rcases Aw.1 hq with hq|hq
  .rcases Aw.1 hq with hq|hq
   .exact hs q (List.mem_of_mem_take hq)
   .simp only[A8,BU,or_false,or_self]at hq;rw[hq];exact hr
  .exact hs q (List.mem_of_mem_drop hq)
 .have on1:ybm (.int (p:Int))=AA (AA (p:Int)):=rfl;have on2:ybm .non=AA none:=rfl;simp! [lwL,lwE,yai,ro,e1,hx,hlen,e2,onP,on1,on2,a1,a2,a3,a4]
def zcs{ns:List Int}(hns:ns.length<=1000)(p0 p2:Option PV)(w:Nat):∀(xs:List PV) {st:SO},Drw ns 0 st->∀{ss:List AM},(∀r∈ss,r∈rws)->ss.length+2*xs.length<=100->∀(p5 p6 p7:Option PV),
  ∃ss' st' q5 q6 q7,Drw ns 0 st'/\(∀r∈ss',r∈rws)/\ss'.length=ss.length+2*xs.length/\yal (yd T 24) (.n 5) lwL xs (ro p0 p2 w ss p5 p6 p7) st=.nx (ro p0 p2 w ss' q5 q6 q7) st'
 |[],st,h,ss,hs,hl,p5,p6,p7=>⟨ss,st,p5,p6,p7,h,hs,by simp,zn⟩
 |x::xs,st,h,ss,hs,hl,p5,p6,p7=>by
  erw[Af]at hl ⊢;let⟨s1,t1,q6,q7,h1,hs1,l1,e1⟩:=zfL hns h hs ∅ p0 p2 w (AA x) p6 p7;let⟨s2,t2,r5,r6,r7,h2,hs2,l2,e2⟩:=zcs hns p0 p2 w xs h1 hs1 ∅ (AA x) q6 q7;refine⟨s2,t2,r5,r6,r7,h2,hs2,by lia,?_⟩;rw[zi (ρ1:=ro p0 p2 w ss (AA x) p6 p7) rfl,e1];exact e2
def zhR{ns:List Int}{w:Nat}(hw:Wid w){ss:List AM}(hs:∀r∈ss,r∈rws)(hl:ss.length<=8){st:SO}(h:Drw ns 0 st)(p0 p2 p5 p6 p7:Option PV):
  ∃st',exs (yd T 24) (ro p0 p2 w ss p5 p6 p7) st lwT=.rt (.bl AC) st':=by
 have e1:yd T 24 28 [.lst (ss.map .str),.int ((2^w:Nat):Int)] st=.ok (yaH w ((sts w).map (ad w ss)) [0,1,2,3] 0) st:=zhi hw 17 hs st;have hwd:idxV st (.lst [.int 1,.int 2,.int 4]) (.int ((w:Int)-1))=AA (.int ((2^(w-1):Nat):Int)):=by
  rcases hw with rfl|rfl|rfl<;>rfl
 have hml:yw .mul (.int 2) (.int ((2^(w-1):Nat):Int))=AA (.int ((2^w:Nat):Int)):=by
  rcases hw with rfl|rfl|rfl<;>rfl
 have hli:yag .list st [.lst (ss.map .str)]=AA (.lst (ss.map .str)):=rfl;have hg:(st++[Ob.lst (ss.map .str)])[st.length]?=AA (.lst (ss.map .str)):=by simp
 have src:Src (st++[.lst (ss.map .str)]) (.loc st.length) (ss.map .str):=.inr (.inr ⟨_,rfl,hg⟩);have e2:yd T 24 11 [.loc st.length,.int w] (st++[.lst (ss.map .str)])=.ok (yaH w ((sts w).map (ad w ss)) [0,1,2,3] 0) ((st++[.lst (ss.map .str)])++dcs w rws):=zc6 17 hw hs hl src;have e4:∀s,yd T 24 11 [.tp AE (ss.map .str),.int w] s=.ok (yaH w ((sts w).map (ad w ss)) [0,1,2,3] 0) (s++dcs w rws):=λs=>zc6 17 hw hs hl (st:=s) (v:=.tp AE (ss.map .str)) (.inl ⟨_,rfl⟩);have hf:=zbc hw (tg:=(sts w).map (ad w ss)) [0,1,2,3] 0;have hlen:=zcN hw (tg:=(sts w).map (ad w ss)) [0,1,2,3] ⋯ 0;generalize yaH w ((sts w).map (ad w ss)) [0,1,2,3] 0=u at *;have hg2:((st++[Ob.lst (ss.map .str)])++dcs w rws)[st.length]?=AA (.lst (ss.map .str)):=by
  rw[AO (by simp)];exact hg
 have e3:∀s,yd T 24 29 [u,u] s=.ok (.bl AC) s:=λs=>zg2 22 hf (λss n e=>hlen ss n e) s;have hsh:shp (.lst (ss.map .str))=true:=by
  show shd 60 _=AC;erw[shd,zbn _ ss hs];rfl
 generalize hs2:(st++[Ob.lst (ss.map .str)])++dcs w rws=s2 at *;have hne:ybK s2 (.loc st.length) (.lst (ss.map .str))=AA (.bl AE):=by
  erw[ybK,hg2,hsh,CN,if_true,peq,za9,D8]
 have hok:yaA .clear s2 (.loc st.length)=AA true:=by erw[yaA,yD,hg2,Bq]
 have hcl:ybC .clear s2 (.loc st.length) []=.ok .non (s2.set st.length (.lst [])):=by erw[ybC,yef,hg2]
 have htu:∀s,yag .tuple s [.lst (ss.map .str)]=AA (.tp AE (ss.map .str)):=λ_=>rfl;have heq:=(zgJ hf).1;refine⟨s2.set st.length (.lst [])++dcs w rws,?_⟩;simp! [lwT,yai,ro,hwd,hml,e1,hli,IC.ve30,yc6,e2,IC.ve42,hne,e3,hok,hcl,htu,e4,heq]
def zfs(ns:List Int)(hn:ns.length<=63):yd T 25 ydT [.scr (ns.map .int)] []=.ok (.bl AC) []:=by
 let⟨o,e1,ho⟩:=fresh 23 ns hn [];have h0:Drw ns 0 [o]:=⟨0,0,AE,by lia,by rw[ho];rfl⟩;have hns:ns.length<=1000:=by lia
 have hT:T ydT=AA ⟨1,11,AC,yai.body⟩:=rfl;have e1:yd T 24 18 [.scr (ns.map .int)] []=.ok (.loc 0) [o]:=e1;let⟨wy,s1,y0,y1,o1,e2⟩:=zkE 21 hns (m:=2) ∅ ∅ h0;have h1:=o1.drw h0;let⟨d,s2,d0,d1,o2,e3⟩:=zkE 21 hns (m:=6) ∅ ∅ h1;have h2:=o2.drw h1;have hw:∃w:Nat,Wid w/\idxV s2 (.tp AE [.int 1,.int 2,.int 1,.int 2,.int 2,.int 3]) (.int d)=AA (.int w):=by
  rcases (by lia:d=0 \/ d=1 \/ d=2 \/ d=3 \/ d=4 \/ d=5)with rfl|rfl|rfl|rfl|rfl|rfl
  .exact⟨1,.inl rfl,rfl⟩
  .exact⟨2,.inr (.inl rfl),rfl⟩
  .exact⟨1,.inl rfl,rfl⟩
  .exact⟨2,.inr (.inl rfl),rfl⟩
  .exact⟨2,.inr (.inl rfl),rfl⟩
  .exact⟨3,.inr (.inr rfl),rfl⟩
 let⟨w,hw,hx⟩:=hw;have e2:yd T 24 21 [.loc 0,.int 2] [o]=.ok (.int wy) s1:=e2;have e3:yd T 24 21 [.loc 0,.int 6] s1=.ok (.int d) s2:=e3
 have hb:yai.body=(match yai.body with
  |.cons a (.cons b (.cons c (.cons (.ite t _ _) _)))=>.cons a (.cons b (.cons c (.cons (.ite t lwI lwE) lwT)))
  |_=>.nil):=rfl
 have mid:∃ss s3 q5 q6 q7,(∀r∈ss,r∈rws)/\ss.length<=8/\Drw ns 0 s3 /\
   ex (yd T 24) [AA (.scr (ns.map .int)),AA (.loc 0),AA (.int wy),AA (.int w),AB,AB,AB,AB,AB,AB,AB] s2 (.ite (.cmp .eq (.var 2) (.cst (.int 0))) lwI lwE)=.nx (ro (AA (.scr (ns.map .int))) (AA (.int wy)) w ss q5 q6 q7) s3:=by
  by_cases hy:wy=0
  .have hc:yG .eq (.int wy) (.int 0)=AA (.bl AC):=by rw[hy];rfl
   let⟨ss,s3,l,hs,o3,e4⟩:=za4 hns 20 (M:=8) ∅ h2;have e4:yd T 24 26 [.loc 0,.int 8] s2=.ok (.lst (ss.map .str)) s3:=e4;refine⟨ss,s3,AB,AB,AB,hs,l,o3.drw h2,?_⟩;subst hy;simp! [lwI,yai,e4,beq_self_eq_true]
  .have hc:((wy:Int)==0)=false:=by simp[hy]
   let⟨ss,s3,l,hs,o3,e4⟩:=za4 hns 20 (M:=3) ∅ h2;have e4:yd T 24 26 [.loc 0,.int 3] s2=.ok (.lst (ss.map .str)) s3:=e4;have h3:=o3.drw h2;let⟨m,s4,m0,m1,o4,e5⟩:=zkE 21 hns (m:=3) ∅ ∅ h3;let⟨m,rfl⟩:=zX m0;have e5:yd T 24 21 [.loc 0,.int 3] s3=.ok (.int m) s4:=e5;have hr:ybS (.int (m:Int))=AA (yq m 0 1):=zcU m ∅;have hm:(yq m 0 1).length=m:=zb3 m 0;let⟨s',s5,q5,q6,q7,h5,hs5,l5,e6⟩:=zcs hns (AA (.scr (ns.map .int))) (AA (.int wy)) w (yq m 0 1) (o4.drw h3) hs ∅ AB AB AB;refine⟨s',s5,q5,q6,q7,hs5,by lia,h5,?_⟩
   have hb2:lwE=(match lwE with
    |.cons a (.cons (.for t i _) r)=>.cons a (.cons (.for t i lwL) r)
    |_=>.nil):=rfl
   erw[ro]at e6;rw[hb2];simp! [lwE,yai,hc,e4,e5,hr,e6]
 let⟨ss,s3,q5,q6,q7,hs,hl,h3,e4⟩:=mid;let⟨s4,e5⟩:=zhR hw hs hl h3 (AA (.scr (ns.map .int))) (AA (.int wy)) q5 q6 q7;rw[zD hT rfl rfl (zc9 ns)];dsimp only;rw[hb];have ho:∀s,yce [] (.rt (.bl AC) s)=.ok (.bl AC) []:=λ_=>rfl
 have hd:exs (yd T 24) ([PV.scr (ns.map .int)].map AA++Am (11-1) AB) [] (match yai.body with
  |.cons a (.cons b (.cons c (.cons (.ite t _ _) _)))=>.cons a (.cons b (.cons c (.cons (.ite t lwI lwE) lwT)))
  |_=>.nil)=exs (yd T 24) [AA (.scr (ns.map .int)),AA (.loc 0),AA (.int wy),AA (.int w),AB,AB,AB,AB,AB,AB,AB] s2 (.cons (.ite (.cmp .eq (.var 2) (.cst (.int 0))) lwI lwE) lwT):=by
  generalize hI:lwI=bI;generalize hE:lwE=bE;generalize hTt:lwT=bT;erw[yai];generalize hite:Css.cons (.ite (.cmp .eq (.var 2) (.cst (.int 0))) bI bE) bT=rest;simp! [BO,e1,e2,e3,hx]
 rw[hd,xs_cons,e4,th_nx,e5];exact ho _
theorem walk{l:Dl}{q:A1}{loose:List AM}{XP:(AM->Option AF)->Ao->Prop}{YP:Ab->Ao->Prop}{d:DefRec}{K:Params->AD}(hn:l.most=AA 63)(hdf:d.params.defaults=[])
  (hY:∀(w:Ab) (h:Ao),YP w h->(K w.params).In h)
  (F:∀(w:Ab) (mg:AM->Option AF) (fa:AG) (h:Ao),(K w.params).In h->h.Ns mainGlobals mg->mg d.name=AA (.ref fa) ->
   ∃fd:Al,(∀(s:AH) (u:AF),Dp s fd ⟨[u],[]⟩ [("_law_script",u)])/\∀base:Ao,(K w.params).In base->base.Ns mainGlobals mg->yaM l.prog w (K w.params) mg base (CX1 l.prog w) (2*25) fa fd ["_law_script"] (spX (K w.params) (yd T 25) ydT)):
  F1 q loose XP YP l.row.toRowW d [] (λf vs=>F7 f vs):=
 L2.walk_of (n:=63) (k:=2*25) (x:="_law_script") (CX:=λw=>CX1 l.prog w) (sp:=λw=>spX (K w.params) (yd T 25) ydT) hn ⋯ hdf ⟨rfl,by decide,by decide⟩ hY F (λw H a ns hl _ hS=>zdD zfs hl hS) λ_ _ _ _ _ z=>ziL z
end WK
end
open PySem PySem.W PyProof.Rows
theorem PySem.Challenge.cw_widewords_k65_whole_short_holds : PySem.Challenge.rw_widewords_k65_whole_short.Holds := by
 refine hh.hd (by rfl) (by rfl) (by rfl) ?_
 k_fill
 refine WK.walk (l:=PySem.Challenge.rw_widewords_k65_whole_short) rfl rfl (λw h Y=>Y) ?F
 case F =>
  intro w mg fa h KX G hmg
  refine' L2.all_mk2 (t:=WK.tbQ) KX G hmg ?R ?B ?D WK.kb_all ?Ml WK.ok_all WK.T_ok (L:=30) rfl 25
  case R =>
   repeat' (first|exact trivial|apply And.intro|(refine' L2.rowFn ?a9 ?l9 ?c9 ?p9 ?b9;(case a9|l9|c9|p9=>k_is);(case b9=>((repeat intro _);first|rfl|kernel_rfl)))|(refine' L2.rowMe ?z9 ?a9 ?i9 ?l9 ?c9 ?p9 ?b9;(case z9=>(skip;k_is));(case a9|i9|l9|c9|p9=>k_is);(case b9=>((repeat intro _);first|rfl|kernel_rfl)))|(refine' L2.rowIni ?z9 ?a9 ?i9 ?l9 ?c9 ?p9 ?b9 ?m9 ?k9;(case z9=>(skip;k_is));(case a9|i9|l9|c9|p9=>k_is);(case b9=>((repeat intro _);first|rfl|kernel_rfl));(case m9|k9=>k_is))|(refine' L2.rowFd ?a9 ?l9 ?c9 ?p9 ?d9 ?e9 ?v9;(case a9|l9|c9|p9|d9=>k_is);(case e9=>rfl);(case v9=>(repeat first|exact .nil|refine .cons ⟨_,rfl⟩ ?_))))
  case B=>kernel_rfl
  case D =>
   repeat' (first|exact trivial|apply And.intro|intro _|(refine' L2.gd_mk KX G ?a9 ?l9 ?s9 ?r9 ?n9;(case a9|l9=>k_is);(case s9=>rfl);(case r9=>(repeat first|exact .nil|refine L2.con_row (by kernel_rfl) ?_));(case n9=>decide +kernel)))
  case Ml =>
   repeat' (first|exact trivial|apply And.intro|(refine' L2.gdf_mk KX G ?a9 ?l9 ?r9 ?n9;(case a9|l9=>k_is);(case r9=>(repeat first|exact .nil|refine L2.frow_cons (by kernel_rfl) ?_));(case n9=>decide +kernel)))
