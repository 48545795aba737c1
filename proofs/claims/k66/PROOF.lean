import PyProof.Rows.All
import OpenK.KLine
import Open.Tops
import Wide.FinOn
import KE.KRevSl
import KE.KItem
import KE.KxWritten
import KE.KFromBytes
import KE.LcSums
import KE.KBits
import KE.KTryMore
import KE.KDictOf
import PyProof.AttrMissHeap
import KE.KEqDict
import KE.KSortTup
import PyProof.DictItems
import PyProof.DictItemsLoops
import KE.KPairComp
import KE.KDictList
import PyProof.DictTruth
import PyProof.DictCompW
import PySem.Challenge.RW_widewords_k66_whole_short_of_alike_rows
set_option Elab.async false
set_option linter.all false
set_option maxRecDepth 100000
set_option maxHeartbeats 0
local macro_rules
 | `(#print $s:str)=>do
  let n:=fun (x:Lean.Name)=>Lean.mkIdent (.mkSimple s!"tw{x.hash}")
  let mut a:=#[n `PySem.Challenge.pw_widewords_k66_whole_short_of_alike_rows]
  for e in s.getString.splitOn "|" do
   let f:=e.splitOn " "
   let mut p:=0
   for r in f.tail! do
    let g:=(r.splitOn ".").map String.toNat!
    p:=p+g[0]!
    for j in [0:g.getD 1 0+1] do a:=a.push (n (.mkStr2 "sh" (f[0]!++toString (p+j))))
    p:=p+g.getD 1 0
  `(structure $(Lean.mkIdent `PySem.W.Fast):declId:Prop where ($a*:True))
set_option genSizeOf false
set_option genInjectivity false
#print "o_ 3 2 4 3.1 2.2 4 2 3 3.1 2.1 4 2 3 3.1 2.1 5 2.2 5.2 3 2.2 3 2.2 3 2.2 2 4 2.2 3 2.2 3 2.2 3 2.2 3 2.2 3 2.4 4 4 2.2 3.2 5.2 3 2.2 3 2.2 3.2 3.2 3.2 5.2 3 2.2 3 2.2 3 2.2 2 6.2 5.2 3 2.2 3 2.2 3.2 5.2 3 2.2 3.2|sts_ 4 17 16 51 49 79|tree_ 19 16 51 47 81 55"
set_option genSizeOf true
set_option genInjectivity true
open_shared sh for PySem.Challenge.pw_widewords_k66_whole_short_of_alike_rows leaving 0
namespace hh
open PySem PySem.W PySem.Calls PyProof.Rows
noncomputable abbrev p:=PySem.Challenge.pw_widewords_k66_whole_short_of_alike_rows
abbrev z:Pos:=⟨0,0,0,0⟩
abbrev an:Option Value:=some (.ref 6)
noncomputable abbrev bE:=behindTheImports p
noncomputable abbrev cE:Code:=.body bE sh.env_1
noncomputable abbrev H1(P:Params):Heap:=absHeap (sh.tree_269 P) 259 {}
noncomputable abbrev S0(w:World)(os:OsState):Shared:=⟨boot_heap w.params,⟨[]⟩,boot_drawn,boot_toks,os⟩
noncomputable abbrev Sb(w:World)(os:OsState):Shared:=SharedT.abs ⟨sh.tree_4 w.params,15,{},⟨[]⟩,{},187,os⟩
noncomputable abbrev Sk(w:World)(os:OsState):Shared:=SharedT.abs ⟨sh.tree_269 w.params,259,{},⟨[]⟩,{},570,os⟩
theorem pre(w os):topGo treeTable p w 11 an 12 (S0 w os) (topStub p)=some (Sb w os,⟨denote treeTable cE,cE,z,[topFrame z]⟩):=by kernel_rfl
theorem blk(w os):segRun treeTable p w 11 an 1 1 (Sb w os) (blockOf bE sh.env_1 cE z [topFrame z])=some (.next,Sb w os,cE,z):=by kernel_rfl
theorem fin(w os):topRun treeTable p w 11 an 2 (Sk w os) (restOf [] sh.env_1 cE ⟨164,0,188,15⟩ [topFrame z])=some (Sk w os):=by kernel_rfl
theorem bod:bE=sh.sts_4++(sh.sts_21++(sh.sts_37++(sh.sts_88++(sh.sts_137++(sh.sts_216++[]))))):=by kernel_rfl
theorem run(w os):topRun treeTable p w 11 an (12+(1+(196+(214+(383+(398+(375+(241+2)))))))) (S0 w os) (topStub p)=some (Sk w os):=by
 refine go_top (pre w os) (piece_block (blk w os) ?_)
 have h:=sh.chain p bE w os [] 2 (Sk w os) (fin w os)
 rw[<-bod] at h
 exact h
noncomputable def q:Program:=view p [41]
noncomputable abbrev lo:List Str:=p.boundNames
theorem look(w:World):(fun os=>((staticsOk (importedModules p.main.body) (boot_heap w.params) (H1 w.params) && namesBound p (H1 w.params) && gensDone (Sk w os) && laidKept (boot_heap w.params) (H1 w.params)),openSeen q lo (importedModules p.main.body) (fun _=>true) true (Sk w os),(Sk w os).heap))=fun _=>(true,openGood q lo,H1 w.params):=by kernel_rfl
theorem left:LeftO p q lo (fun _=>true) Shared.heap (fun w=>H1 w.params) 3728:=.of_pieces (boot_open (by kernel_rfl) (by kernel_rfl) fun s=>by kernel_rfl) (fun w=>by kernel_rfl) run (by kernel_rfl) look
theorem inA{t:BT}{n:Nat}{f:Life}{K:Frag}(h1:K.all (fun x=>Nat.blt x.1 n)=true)(h2:K.map (fun x=>t.get x.1)=K.map fun x=>some x.2)(h3:K.map (fun x=>alive x.2)=K.map fun x=>some x.2):K.In (absHeap t n f):=by
 intro a o e
 induction K with
 | nil=>cases e
 | cons x r ih=>
  obtain ⟨b,y⟩:=x
  simp only[List.map_cons,List.cons.injEq,List.all_cons,Bool.and_eq_true] at h1 h2 h3
  by_cases hb:(a==b)=true
  · rw[List.lookup_cons,hb] at e
    cases e
    have:=beq_iff_eq.mp hb
    subst this
    rw[abs_get (Nat.le_of_ble_eq_true h1.1) h2.1]
    exact h3.1
  · rw[List.lookup_cons,eq_false_of_ne_true hb] at e
    exact ih h1.2 h2.2 h3.2 e
local macro_rules
 | `(panic! $s:str)=>do
  let mut v:=#[]
  let mut p:=0
  let mut q:=0
  for r in s.getString.splitOn " " do
   if let g::l::m:=(r.splitOn ",").map String.toNat! then
    let i:=m.headD (q+g)
    p:=p+g
    for j in [0:l] do v:=v.push (p+j,if i==0 then .str `PySem.W s!"boot_o_{p+j}" else .str `sh s!"o_{i+j}")
    p:=p+l
    q:=i+l
  let mut a ← `(List.nil)
  for (x,o) in v.reverse do a ← `(List.cons (nat_lit $(Lean.Syntax.mkNumLit (toString x)),$(Lean.mkIdent o) P) $a)
  `(fun P=>$a)
noncomputable def KK:Params->Frag:=panic! "2,1,0 0,1,216 11,1,7 6,2 0,1,39 0,1,17 2,1,24 6,3 2,1,40 6,3 2,1 1,2 1,3 1,2 1,3 1,2 1,3 1,2 1,3 1,2 1,2 0,1,90 1,2 1,3 1,2 1,3 1,2 1,3 1,2 1,3 1,2 1,3 1,2 1,4 0,1,139 1,2 1,3 2,3 1,2 1,3 1,2 1,3 1,2 1,3 2,3 2,3 2,3 1,2 1,3 1,2 1,3 1,2 1,3 1,2 1,2 0,1,218 1,2 1,3 1,2 1,3 1,2 1,3 1,2 1,3 2,3 1,2 1,3 1,2 1,3 2,2"
theorem inK(w:World):InK KK w (H1 w.params):=inA (K:=KK w.params) (by kernel_rfl) (by kernel_rfl) (by kernel_rfl)
theorem hd{d:DefRec}{k:List (Str×Expr)}(a:defOf q "law"=some (d,k))(b:p.theDef "law"=some (d.params,d.body,d.scope))(c:kwWritten? d.params.kwonlyargs d.params.kw_defaults=some k)(h:WalkO q lo (fun _ _=>True) (InK KK) PySem.Challenge.rw_widewords_k66_whole_short_of_alike_rows.row.toRowW d k fun f vs=>PySem.call f vs):PySem.Challenge.rw_widewords_k66_whole_short_of_alike_rows.Holds:=by
 w_on;o_law
 refine holds_open left (YP:=InK KK) (XP:=fun _ _=>True) (fun w s e=>e ▸ inK w) InK.keeps (fun _ _=>trivial) (fun _ _ _ _ _=>trivial) a b c (fun s _=>recFacts_nil rfl) (by rfl) (by assumption) (by decide +kernel) ⟨rfl,rfl,rfl,rfl,rfl,by decide +kernel⟩ ?hw h
 w_witness2
end hh
local macro_rules|`(⋯)=>`((by decide))
local macro_rules|`(∅)=>`((by lia))
set_option compiler.extract_closed false
set_option bootstrap.genMatcherCode false
set_option genSizeOf false
open Option renaming some->AA,none->AB,isSome_iff_exists->A9,getD_some->BS,bind_some->Bz,any_eq_true_iff_get->CT,map_some->C3,get_some->EA,isSome_some->Ed,getD_none->FL
open PySem.W renaming Frag->AC,keepIn->Aa,findIn->Ag,nsIn->As,kitOne->Au,fnOf->BN,codeIn->Bc,kia_one->CJ,hideAll->C1,isFn->Cc,cellsFrom_some->Cd,excIn->Cu,methodObj->D7,mg_of->Dc,OpenLaw->Dn,makesIn->Dz,hideAll_get->ES,of_hideAll->E8,codeRec_of->E9,callWith_K->Ee,hasDictIn->El,plainOver->Em,plainGet->FI,WalkO->FZ,exmOne->F8,subIn->Fd,mroIn->Fe,clsIn->Ff,Rel2->Fy
open Bool renaming true->AD,false->AF,and_eq_true->AI,false_ne_true->AW,not_eq_true'->BI,and_eq_true_iff->B1,or_eq_true->CG,and_self->CL,false_eq_true->C4,not_true->EY,eq_iff_iff->FW,or_false->Fc,false_or->Fg,true_and->Fh,true_or->Fx
open PySem renaming Value->AE,Addr->AG,Shared->AH,wpAny_bind->AJ,Expr->AL,Str->AM,wpAny_pure->AO,Program->AZ,wpAny->A2,Around->A3,World->A8,FuncData->Aj,Heap->Ak,Scope->Al,Env->Az,wpAny_mono->BA,wpAny_newObj_type->BC,wpAny_truthy_bool->BM,wpAny_Call_Name_kw->BO,Obj->BV,wpAny_standAt->BW,Pos->BZ,Stmt->B7,NameKind->Bb,wpAny_passesOwn->Bi,DictEntry->Bj,sizeLine_eq->Bm,wpAny_holding->Bp,wpAny_comprehension_free->Bs,Comprehension->Bt,mem_of_lookup->Bv,wpAny_callSpecial?_slot->By,wpAny_field->CC,Keyword->CU,wpAny_pyIter_tuple->C6,wpAny_call_entry->Cn,wpAny_execs_nil->Cz,codeAny_mono->DG,PassesOwn->DL,wpAny_newFunctionEnv_cells->DU,typeIs_str->DW,Operator->De,noFill_tuple_add->Di,wpAny_rule->Do,Result->Dq,BindsTo->Dr,IsPart->Ds,strKind_is->Dv,codeAny_call_function->EC,wpAny_seqItems->EH,wpAny_loadName_local->EI,wpAny_setField->EM,wpAny_newFunctionEnv->EO,wpAny_loadName_cell->ET,CmpOp->E2,seq_tuple_add->E3,call_meets->Eb,wpAny_assign_Name->Ei,concat_meets->En,wpAny_sequenceKey->Eo,wpAny_typeOf->Ep,slot_list_getitem->Es,wpAny_pyIter_enum->Ex,Sem->FE,Paired->FG,wpAny_execs_cons->FH,wpAny_getItem_of->FM,seqIndex_of->FQ,wpAny_specialOf->FU,PyData->F0,wpAny_Name->F2,wpAny_call->F3,call->F6,Model->Fp,BoolOp->GA,Reads->GG,Tok->GO
open List renaming mem_cons_of_mem->AK,getElem?_append_left->AQ,map_cons->AS,mem_cons_self->AV,size_toArray->A0,getElem?_append_right->A1,mem_append_right->A4,mem_cons->A5,mem_of_getElem?->A7,getElem?_cons_succ->Ac,all_eq_true->Ad,getElem?_cons_zero->Ae,getElem?_eq_some_iff->Af,length_map->Ah,getElem?_set_ne->Ai,length_cons->Am,getElem?_eq_none->An,length_append->Ao,replicate->Ap,lookup_cons->Ar,getElem?_map->Av,getElem?_set_self->Aw,mem_append->Ax,all_cons->Ay,mem_map->BD,length_set->BE,drop_eq_getElem_cons->BG,set_cons_zero->BP,set_cons_succ->BQ,filter_cons->BR,any_cons->BX,getElem?_eq_getElem->BY,append_nil->B4,find?_cons->B5,map_map->Bo,filterMap_cons->Bu,not_mem_nil->CA,length->CB,map_nil->CD,length_nil->CF,range->CP,drop_length->CV,mem_flatMap->CW,foldl_cons->C2,zip_cons_cons->C7,mem_singleton->C8,filterMap->Ch,getElem?_set->Ci,any_eq_true->Co,cons_append->Cp,getElem_mem->Cr,mem_append_left->Cv,range'->Cw,nodup_cons->DA,of_mem_zip->DB,nil_append->DD,map_congr_left->DF,mem_range->DN,mem_filterMap->DR,getElem?_zip_eq_some->D4,pairwise_iff_getElem->D6,append_assoc->D8,foldl_append->Da,length_take->Dg,getElem?_replicate->Dh,length_eq_zero_iff->Dj,set_set->Dw,forIn_cons->Dx,mem_filter->Dy,mem_iff_getElem?->EF,contains_iff_mem->EG,length_pos_iff->EX,findIdx?_cons->Ef,isEmpty_cons->Ez,reverse_cons->FA,ext_getElem?->FD,length_drop->FK,isEmpty_nil->FN,take_length->FO,range'_succ->FP,lookup->FR,map_id->FT
open Nat renaming le_refl->AN,lt_of_lt_of_le->AY,ne_of_lt->Ab,le_trans->BB,lt_irrefl->B8,zero_le->B9,le_succ->Ca,lt_or_ge->Cj,add_comm->DJ,lt_of_le_of_lt->DY,lt_succ_self->Dm,ne_of_gt->Dp,reduceSub->E4,le_of_lt->Eh,lt_trans->Ey,add_assoc->Fb,le_of_eq->Fv,log2_lt->GI
open PySem.Heap renaming get?_push_of_some->AR,lt_size->AT,get?_push_size->A6,SameBut->B6,get?_update_other->Cg,get?_update_self->ED,size_push->EN,MadeExcOf->F7,FlyingW->Fw
open Option.some renaming inj->AU,injEq->Bn
open PySem.Str renaming ofString->AX,empty->Cm,join->GL
open PyProof.Rows renaming slot_tuple_getitem->Aq,callWith_type1->CM,AllBare->Ct,assignInOrder_cons->DQ,subscriptTail_builtinR->Dt,tupleItemsOf_->ER,entry_tuple_getitem->EU,args_tuple_getitem->Ea,assignInOrder_nil->Ej,callWith_builtin1->FJ,boot_isinstance->FX,IntsAre->FY,Subscript_->F4,split_pos->GB,split_le->GE
open PySem.Value renaming ref->BF,none->Ba,bool->C5,type->F1,isStrOf->Fa,int->Fk,str->Fm,isInt->GF
open False renaming elim->BH
open PySem.PyData renaming depthAll->BJ,eqv->BK,depth->BL,canLay0->B0,canLayAll0->Bk,eqvAll->CK,keyHash->D0
open PySem.Challenge renaming rw_widewords_k66_whole_short_of_alike_rows->BU,pw_widewords_k66_whole_short_of_alike_rows->Cq
open Sum renaming inr->B3,inl->EQ
open PySem.F renaming slot_tuple_iterator_next->Bd,args_tuple_add_2->C0,entry_tuple_add->C9,slot_str_split->Cb,slot_tuple_add->Cf,args_tuple_iterator_next_1->DC,entry_tuple_iterator_next->DH,args_str_split_2->DZ,slot_dict_getitem->D5,entry_str_split->D9
open PySem.Heap.FunFrames renaming mem->Be
open PySem.Builtin.Slice renaming slicePlaces->Bf,sliceAdjust->CY,sliceApplied->DV,slicePartIndex->FV,sliceFields->F9
open PySem.Builtin.SmallTypes renaming nextOf->Bg
open Ne renaming symm->Bl
open PySem.Builtin.Tuple renaming tupleExact->Bq,tupleItemsOf->CO,tupleHashOf->D3
open PySem.NameKind renaming free->Br,cell->Db
open PySem.Builtin.Str renaming occurrences->Bw,strSliceIndices->DI,strKind->EW
open Eq renaming refl->CN
open PySem.Value.type renaming inj->CQ
open True renaming intro->CS
open PySem.Builtin.Int renaming intBits->CZ
open PUnit renaming unit->Ck
open ForInStep renaming yield->Cy
open Array renaming length_toList->DE,append_assoc->DO,getElem?_eq_some_iff->DX,forIn_toList->E7,toList->Eg
open And renaming intro->DM
open PySem.Calls renaming Name_function_global->DP,evalArgs_plain->EL
open Int renaming fdiv_eq_ediv_of_nonneg->DS,emod_lt_of_pos->D2,emod_nonneg->EB,toNat_natCast->Et,add_assoc->Fi,mul_one->GH
open PySem.ScopeKind renaming function->D1
open PySem.Txt renaming split->Dl
open PySem.Obj renaming mapSeq->Du,data_mapFields->Ec
open PySem.Builtin renaming bitAnd->EJ,bitXor->EK,bitOr->E1
open PySem.Heap.SameBut renaming update->EV,refl->GQ
open PySem.Paired renaming length->EZ,snoc->GJ
open PySem.SeqAt.EqAt renaming int_str->E5,str_int->E6
open PySem.WalksT renaming enumerateD->Eu
open PySem.Around renaming in1_units->FF
open PySem.SeqAt renaming EqAt->F5,shaped->Fz
open Prod.mk renaming injEq->Fj
open PySem.Flow renaming next->Fq
open PySem.Builtin.Range renaming rangeSize->Ft
open PySem.Heap.UpToSlots renaming of_keeps->Fu
open PySem.Heap.IsSliceOf renaming new->GM
open PySem.W.WShape renaming has->GN
open List.Pairwise renaming nil->GP
open PySem.W.WData renaming int->GR
noncomputable section
open Lean in
def cnvP:Nat->Syntax->MacroM (TSyntax `rcasesPat)
 |0,_=>Macro.throwUnsupported
 |n+1,s=>do
  if s.isOfKind ``Lean.Parser.Term.anonymousCtor then `(rcasesPat| ⟨$[$(← s[1].getSepArgs.mapM (cnvP n)):rcasesPat],*⟩)
  else if s.isIdent then `(rcasesPat| $(⟨s⟩):ident)
  else if s.isOfKind ``Lean.Parser.Term.hole then `(rcasesPat| _)
  else Macro.throwUnsupported
local macro_rules | `(tactic| let $p:term := $e)=>do `(tactic| obtain $(← cnvP 9 p):rcasesPat := $e)
local macro_rules | `(tactic| erw [$rs,*] $(l)?)=>do
 let t<-rs.getElems.mapM λ|`(Lean.Parser.Tactic.rwRule| $t:term)=>`(Lean.Parser.Tactic.simpLemma| $t:term)|_=>Lean.Macro.throwUnsupported
 `(tactic| simp only[$t,*] $(l)?)
local macro_rules | `(fun $bs* => $b)=>do
 if !(bs.any λx=>x.raw.isOfKind ``Lean.Parser.Term.anonymousCtor)||(b.raw.find? λx=>x.isOfKind ``Lean.Parser.Term.syntheticHole).isSome then Lean.Macro.throwUnsupported
 `(by rintro $[$(← bs.mapM λx=>cnvP 9 x.raw):rcasesPat]*;exact $b)
set_option backward.eqns.nonrecursive false
local macro_rules (kind:=Lean.Parser.Command.declaration)
 |s=>do
  let k:=s[1].getKind
  unless (k==``Lean.Parser.Command.definition||k==``Lean.Parser.Command.abbrev)&&s[0].getArgs.all (·.isNone) do Lean.Macro.throwUnsupported
  if k==``Lean.Parser.Command.definition&&(toString s[1][1][0].getId).startsWith "z" then
   let m←`(theorem x:True:=trivial)
   return s.setArg 1 (((m.raw[1].setArg 1 s[1][1]).setArg 2 (Lean.mkNode ``Lean.Parser.Command.declSig #[s[1][2][0],s[1][2][1][0]])).setArg 3 s[1][3])
  let m←`(noncomputable def x:=0)
  return s.setArg 0 m.raw[0]
namespace L2
open PySem PySem.Spec PyProof.Rows
abbrev Key:=Sum Int AM
def yaV:Key->AE->Bool
 |.inl k,v=>GF k v
 |.inr x,v=>Fa x v
def yeL(w:A8):Key->Int
 |.inl k=>hashInt k
 |.inr x=>hashStr w x
def zg:∀{k:Key} {v:AE},yaV k v=AD->(∃i t,k=EQ i/\v=Fk i t) \/ (∃x t,k=B3 x/\v=Fm x t)
 |.inl i,v,h=>by
  let⟨t,e⟩:=Value.isInt_shape (k:=i) (v:=v) h;exact .inl ⟨i,t,rfl,e⟩
 |.inr x,v,h=>by
  let⟨t,e⟩:=Value.isStrOf_shape (x:=x) (v:=v) h;exact .inr ⟨x,t,rfl,e⟩
def zdP(i:Int)(t:GO):yaV (.inl i) (.int i t)=true:=by simp[yaV,GF]
def zer(x:AM)(t:GO):yaV (.inr x) (.str x t)=true:=by simp[yaV,Fa]
def zjq(a b:Int):decide ((EQ a:Key)=EQ b)=(a==b):=by
 by_cases e:a=b
 .subst e;simp
 .have h:¬(EQ a:Key)=EQ b:=λq=>e (Sum.inl.inj q);rw[decide_eq_false h];exact(beq_eq_false_iff_ne.mpr e).symm
def ziz(a b:AM):decide ((B3 a:Key)=B3 b)=decide (a=b):=by
 by_cases e:a=b
 .subst e;simp
 .have h:¬(B3 a:Key)=B3 b:=λq=>e (Sum.inr.inj q);rw[decide_eq_false h,decide_eq_false e]
def ziB(a:Int)(b:AM):decide ((EQ a:Key)=B3 b)=false:=decide_eq_false (λq=>nomatch q)
def zid(a:AM)(b:Int):decide ((B3 a:Key)=EQ b)=false:=decide_eq_false (λq=>nomatch q)
def yK(prog:AZ)(w:A8):PySem.KeyKind prog w Key where
 is:=yaV
 hash:=yeL w
 inj:=λv a b ha hb=>by
  rcases zg ha with⟨i,t,rfl,rfl⟩|⟨x,t,rfl,rfl⟩
  .rcases zg hb with⟨j,u,rfl,e⟩|⟨y,u,rfl,e⟩
   .injection e with e1 _;rw[e1]
   .exact nomatch e
  .rcases zg hb with⟨j,u,rfl,e⟩|⟨y,u,rfl,e⟩
   .exact nomatch e
   .injection e with e1 _;rw[e1]
 byValue:=λk v h=>by
  rcases zg h with⟨i,t,rfl,rfl⟩|⟨x,t,rfl,rfl⟩<;>rfl
 pyHash:=λhv h=>by
  rcases zg hv with⟨i,t,rfl,rfl⟩|⟨x,t,rfl,rfl⟩
  .exact wpAny_pyHash_int h
  .exact wpAny_pyHash_str h
 eqBool:=λhu hv h=>by
  rcases zg hu with⟨i,t,rfl,rfl⟩|⟨x,t,rfl,rfl⟩
  .rcases zg hv with⟨j,u,rfl,rfl⟩|⟨y,u,rfl,rfl⟩
   .rw[zjq]at h;exact wpAny_eqBool_int h
   .rw[ziB]at h;exact E5 i t y u _ _ _ _ h
  .rcases zg hv with⟨j,u,rfl,rfl⟩|⟨y,u,rfl,rfl⟩
   .rw[zid]at h;exact E6 x t j u _ _ _ _ h
   .rw[ziz]at h;exact wpAny_eqBool_str h
 «strs»:=λk x t v h=>by
  rcases zg h with⟨i,u,rfl,e⟩|⟨y,u,rfl,e⟩
  .exact nomatch e
  .injection e with e1 _;subst e1
   cases v<;>rfl
def zcj(prog:AZ)(w:A8)(i:Int)(t:GO):(yK prog w).is (.inl i) (.int i t)=true:=zdP i t
def zcb(prog:AZ)(w:A8)(x:AM)(t:GO):(yK prog w).is (.inr x) (.str x t)=true:=zer x t
end L2
namespace L2
open PySem
inductive NK where
 |a (k:Key)
 |t (l:List NK)
noncomputable instance:DecidableEq NK:=λ_ _=>Classical.propDecidable _
mutual
def NI(h:Ak):NK->AE->Prop
 |.a k,v=>yaV k v=AD
 |.t l,v=>∃(b:AG) (its:List AE),v=.ref b/\h.get? b=AA {cls:=.type "tuple",data:=.seq its.toArray}/\NIs h l its
def NIs(h:Ak):List NK->List AE->Prop
 |[],vs=>vs=[]
 |k::l,vs=>∃v r,vs=v::r/\NI h k v/\NIs h l r
end
mutual
def nkH(w:A8):NK->Int
 |.a k=>yeL w k
 |.t l=>reduceHash (D3 (ycX w l))
def ycX(w:A8):List NK->List Int
 |[]=>[]
 |k::l=>nkH w k::ycX w l
end
mutual
def nkN:NK->Nat
 |.a _=>1
 |.t l=>yc5 l+1
def yc5:List NK->Nat
 |[]=>0
 |k::l=>nkN k+yc5 l
end
mutual
def nkD:NK->F0
 |.a (.inl i)=>.int i
 |.a (.inr x)=>.str x
 |.t l=>.tuple (yaH l)
def yaH:List NK->List F0
 |[]=>[]
 |k::l=>nkD k::yaH l
end
section
variable {prog:AZ}{w:A8}{E:AE->AH->Prop}
mutual
theorem zdF:∀(k:NK) (v:AE) (A:A3) (s:AH) (Q:Int->AH->Prop),NI s.heap k v->A.units+(nkD k).depth<cLine->Q (nkH w k) {s with toks:=s.toks+nkN k}->A2 (model prog w) A (pyHash v) Q E s
 |.a k,v,A,s,Q,hi,_,h=>(yK prog w).pyHash (k:=k) hi h
 |.t l,v,A,s,Q,hi,hu,h=>by
  let⟨b,its,rfl,g,hs⟩:=hi;erw[nkD,BL]at hu;refine PySem.W.pyHash_slot (T:="tuple") ⟨_,g,rfl⟩ F.slot_tuple_hash F.entry_tuple_hash (F.args_tuple_hash_1 _) (beq_builtin_none _) (.inr ∅) ?_;show A2 _ _ (CO (.ref b) >>= _) _ _ s;refine AJ (wpAny_tupleItemsOf g rfl ?_);refine AJ ?_;rw[<-E7];refine zdw l its A.in1 s #[] _ hs (by erw[FF];lia) λb' hb=>?_;show A2 _ _ (retInt (D3 b'.toList)) _ _ _;rw[hb];exact AJ (wpAny_mkInt (AO ⟨_,_,rfl,h⟩))
theorem zdw:∀(l:List NK) (vs:List AE) (A:A3) (s:AH) (b:Array Int) (Q:Array Int->AH->Prop),NIs s.heap l vs->A.units+BJ (yaH l)<cLine ->
  (∀b',b'.toList=b.toList++ycX w l->Q b' {s with toks:=s.toks+yc5 l}) ->
  A2 (model prog w) A (forIn vs b λx r=>do let h <-pyHash x;pure Ck;pure (Cy (r.push h))) Q E s
 |[],vs,A,s,b,Q,hi,_,h=>by
  cases (show vs=[]from hi)
  exact AO (h b (by simp[ycX]))
 |k::l,vs,A,s,b,Q,hi,hu,h=>by
  let⟨v,r,rfl,h1,h2⟩:=hi;erw[yaH,BJ]at hu;rw[Dx];refine AJ (AJ (zdF k v A s _ h1 ∅ ?_));refine AJ (AO (AO ?_));refine zdw l r A _ _ Q h2 ∅ λb' hb=>?_;have:=h b' (by simp[hb,ycX]);simpa [yc5,Fb] using this
end
mutual
theorem zbb{h:Ak}:∀(k:NK) (v:AE),NI h k v->∃as,GG h v (nkD k) as
 |.a (.inl i),v,hi=>by
  rcases zg hi with⟨j,t,e,rfl⟩|⟨x,t,e,rfl⟩
  .cases e;exact⟨_,.int _ _⟩
  .cases e
 |.a (.inr x),v,hi=>by
  rcases zg hi with⟨j,t,e,rfl⟩|⟨y,t,e,rfl⟩
  .cases e
  .cases e;exact⟨_,.str _ _⟩
 |.t l,v,hi=>by
  let⟨b,its,rfl,g,hs⟩:=hi;let⟨as,r⟩:=zbz l its hs;exact⟨as,.tuple g rfl rfl (by simpa using r)⟩
theorem zbz{h:Ak}:∀(l:List NK) (vs:List AE),NIs h l vs->∃as,ReadsAll h vs (yaH l) as
 |[],vs,hi=>by cases (show vs=[]from hi);exact⟨_,.nil⟩
 |k::l,vs,hi=>by
  let⟨v,r,rfl,h1,h2⟩:=hi;let⟨a1,r1⟩:=zbb k v h1;let⟨a2,r2⟩:=zbz l r h2;exact⟨_,.cons r1 r2⟩
end
mutual
theorem zgc:∀a b:NK,BK (nkD a) (nkD b)=decide (a=b)
 |.a (.inl i),.a (.inl j)=>by erw[nkD,BK];by_cases e:i=j<;>simp[e]
 |.a (.inl i),.a (.inr j)=>by simp[nkD,BK]
 |.a (.inr i),.a (.inl j)=>by simp[nkD,BK]
 |.a (.inr i),.a (.inr j)=>by erw[nkD,BK];by_cases e:i=j<;>simp[e]
 |.a (.inl i),.t l=>by simp[nkD,BK]
 |.a (.inr i),.t l=>by simp[nkD,BK]
 |.t l,.a (.inl i)=>by simp[nkD,BK]
 |.t l,.a (.inr i)=>by simp[nkD,BK]
 |.t l,.t m=>by erw[nkD,BK,zeZ l m];by_cases e:l=m<;>simp[e]
theorem zeZ:∀a b:List NK,CK (yaH a) (yaH b)=decide (a=b)
 |[],[]=>by simp[yaH,CK]
 |[],_::_=>by simp[yaH,CK]
 |_::_,[]=>by simp[yaH,CK]
 |a::l,b::m=>by
  erw[yaH,CK,zgc a b,zeZ l m]
  by_cases e:a=b<;>by_cases f:l=m<;>simp[e,f]
end
mutual
theorem zc6:∀(k:NK) (v:AE) (n:Nat) (A:A3) (s:AH) (Q:Bool->AH->Prop),NI s.heap k v->(nkD k).depth<=n->Q AD s->A2 (model prog w) A (eqIsQuiet n v) Q E s
 |.a k,v,n,A,s,Q,hi,_,h=>by
  rw[eqIsQuiet_byValue n ((yK prog w).byValue k v hi)];exact AO h
 |.t l,v,n,A,s,Q,hi,hd,h=>by
  let⟨b,its,rfl,g,hs⟩:=hi;erw[nkD,BL]at hd;obtain⟨m,rfl⟩:∃m,n=m+1:=⟨n-1,by lia⟩;unfold eqIsQuiet;refine AJ (FU (T:="tuple") ⟨_,g,rfl⟩ F.slot_tuple_eq.lookup ?_);show A2 _ _ (isInstance (.ref b) (.type "tuple") >>= _) _ _ s;refine AJ (wpAny_isInstance (T:="tuple") ⟨_,g,rfl⟩ isSubtype_tuple_tuple ?_);erw[EY,C4,if_false];refine AJ (EH g rfl ?_);refine AJ ?_;show A2 _ _ (forIn its.toArray _ _) _ _ s;rw[<-E7];refine zbB l its m A s _ hs ∅ ?_;exact AO h
theorem zbB:∀(l:List NK) (vs:List AE) (n:Nat) (A:A3) (s:AH) (Q:Option Bool×PUnit->AH->Prop),NIs s.heap l vs->BJ (yaH l)<=n->Q (AB,Ck) s ->
  A2 (model prog w) A (forIn vs (AB,Ck) λy r=>do
   let b <-eqIsQuiet n y
   if (!b)=AD then pure (ForInStep.done (AA AF,Ck))else do
    pure Ck
    pure (Cy (AB,Ck))) Q E s
 |[],vs,n,A,s,Q,hi,_,h=>by
  cases (show vs=[]from hi)
  exact AO h
 |k::l,vs,n,A,s,Q,hi,hd,h=>by
  let⟨v,r,rfl,h1,h2⟩:=hi;erw[yaH,BJ]at hd;rw[Dx];refine AJ (AJ (zc6 k v n A s _ h1 ∅ ?_));erw[EY,C4,if_false];refine AJ (AO (AO ?_));exact zbB l r n A s Q h2 ∅ h
end
mutual
theorem zgg{h:Ak}:∀(a b:NK) (v:AE),NI h a v->NI h b v->a=b
 |.a k,.a j,v,x,y=>by
  rcases zg x with⟨_,_,rfl,rfl⟩|⟨_,_,rfl,rfl⟩<;>rcases zg y with⟨_,_,rfl,e⟩|⟨_,_,rfl,e⟩<;>cases e<;>rfl
 |.a k,.t l,v,x,y=>by
  let⟨b,its,rfl,_⟩:=y;rcases zg x with⟨_,_,_,e⟩|⟨_,_,_,e⟩<;>cases e
 |.t l,.a k,v,x,y=>by
  let⟨b,its,rfl,_⟩:=x;rcases zg y with⟨_,_,_,e⟩|⟨_,_,_,e⟩<;>cases e
 |.t l,.t m,v,x,y=>by
  let⟨b,its,rfl,g,hs⟩:=x;let⟨b',its',e,g',hs'⟩:=y
  cases e
  rw[g]at g';injection g' with g';injection g' with _ _ g' _;injection g' with g' _;have e2:its=its':=by simpa using congrArg Eg g'
  subst e2;rw[zdy l m its hs hs']
theorem zdy{h:Ak}:∀(a b:List NK) (vs:List AE),NIs h a vs->NIs h b vs->a=b
 |[],[],_,_,_=>rfl
 |[],_::_,vs,x,y=>by
  cases (show vs=[]from x)
  let⟨_,_,e,_⟩:=y;cases e
 |_::_,[],vs,x,y=>by
  cases (show vs=[]from y)
  let⟨_,_,e,_⟩:=x;cases e
 |a::l,b::m,vs,x,y=>by
  let⟨v,r,rfl,h1,h2⟩:=x;let⟨_,_,e,h3,h4⟩:=y
  cases e
  rw[zgg a b v h1 h3,zdy l m r h2 h4]
end
end
mutual
theorem NI.stay{h h':Ak}(k:∀b its,h.get? b=AA {cls:=.type "tuple",data:=.seq its}->h'.get? b=AA {cls:=.type "tuple",data:=.seq its}):∀(a:NK) (v:AE),NI h a v->NI h' a v
 |.a _,_,x=>x
 |.t l,v,x=>by
  let⟨b,its,e,g,hs⟩:=x;exact⟨b,its,e,k _ _ g,NIs.stay k l its hs⟩
theorem NIs.stay{h h':Ak}(k:∀b its,h.get? b=AA {cls:=.type "tuple",data:=.seq its}->h'.get? b=AA {cls:=.type "tuple",data:=.seq its}):∀(a:List NK) (vs:List AE),NIs h a vs->NIs h' a vs
 |[],_,x=>x
 |a::l,vs,x=>by
  let⟨v,r,e,h1,h2⟩:=x;exact⟨v,r,e,NI.stay k a v h1,NIs.stay k l r h2⟩
end
def yc3(l:List NK):Prop:=Bk (yaH l)=AD/\BJ (yaH l)<=6
def yaL(P:AZ)(w:A8):HeapKind P w (List NK) where
 is:=λh l a=>NI h (.t l) (.ref a)/\yc3 l
 hash:=λl=>nkH w (.t l)
 draws:=λl=>nkN (.t l)
 room:=λA=>A.units+8<cLine
 inj:=λx y=>by have e:=zgg _ _ _ x.1 y.1;injection e
 keeps:=λx ho hd hs=>⟨NI.stay (λb its g=>(hs.2 b (λe=>by subst e;rw[ho]at g;cases g;cases hd)).trans g) _ _ x.1,x.2⟩
 pyHash:=λhu x h=>zdF _ _ _ _ _ x.1 (by have:=x.2.2;erw[nkD,BL];lia) h
 eqBool:=λ{A E s x y a b Q} hu hx hy h=>by
  let⟨as,ra⟩:=zbb _ _ hx.1;let⟨bs,rb⟩:=zbb _ _ hy.1;refine SeqAt.eqBoolOverData P w A E s _ _ _ _ as bs Q ra rb (by erw[nkD,B0];exact hx.2.1) (by erw[nkD,B0];exact hy.2.1) (by have:=hx.2.2;erw[nkD,BL];lia) ?_;rw[zgc];have:decide (NK.t x=NK.t y)=decide (x=y):=by by_cases e:x=y<;>simp[e]
  rw[this];exact h
 quiet:=λx h=>zc6 _ _ _ _ _ _ x.1 (by have:=x.2.2;erw[nkD,BL];lia) h
end L2
namespace L2
open PySem PySem.Spec PyProof.Rows
inductive V where
 |non|bl (b:Bool)|int (i:Int)|str (x:AM)|byt (b:Array UInt8)|flt (b:UInt64)|ref (a:AG)|ty (n:String)
 deriving DecidableEq
def RelV:V->AE->Prop
 |.non,u=>u=Ba
 |.bl b,u=>u=C5 b
 |.int i,u=>∃t,u=Fk i t
 |.str x,u=>∃t,u=Fm x t
 |.byt b,u=>∃t,u=Value.bytes b t
 |.flt b,u=>∃t,u=Value.float b t
 |.ref a,u=>u=BF a
 |.ty n,u=>u=F1 n
abbrev Vals:List V->List AE->Prop:=FG RelV
theorem Vals.length{xs:List V}{us:List AE}(r:Vals xs us):xs.length=us.length:=EZ r
theorem Vals.get:∀{xs:List V} {us:List AE} {i:Nat} {x:V},Vals xs us->xs[i]?=AA x->∃u,us[i]?=AA u/\RelV x u
 |_,_,_,_,.nil,e=>by simp at e
 |_,_,0,_,.cons r _,e=>by simp at e;subst e;exact⟨_,rfl,r⟩
 |_,_,i+1,x,.cons _ t,e=>by
  let⟨u,h1,h2⟩:=Vals.get (i:=i) (x:=x) t (by simpa using e);exact⟨u,by simpa using h1,h2⟩
theorem Vals.set{x:V}{u:AE}(r:RelV x u):∀{xs:List V} {us:List AE} (i:Nat),Vals xs us->Vals (xs.set i x) (us.set i u)
 |_,_,_,.nil=>.nil
 |_,_,0,.cons _ t=>.cons r t
 |_,_,i+1,.cons q t=>.cons q (Vals.set r i t)
theorem Vals.append:∀{xs ys:List V} {us ws:List AE},Vals xs us->Vals ys ws->Vals (xs++ys) (us++ws)
 |_,_,_,_,.nil,s=>s
 |_,_,_,_,.cons r t,s=>.cons r (Vals.append t s)
theorem Vals.take:∀{xs:List V} {us:List AE} (n:Nat),Vals xs us->Vals (xs.take n) (us.take n)
 |_,_,0,_=>.nil
 |_,_,_+1,.nil=>.nil
 |_,_,n+1,.cons r t=>.cons r (Vals.take n t)
theorem Vals.drop:∀{xs:List V} {us:List AE} (n:Nat),Vals xs us->Vals (xs.drop n) (us.drop n)
 |_,_,0,r=>r
 |_,_,_+1,.nil=>.nil
 |_,_,n+1,.cons _ t=>Vals.drop n t
def ybf:Option V->Option AE->Prop
 |some v,AA u=>RelV v u
 |none,AB=>True
 |_,_=>False
def KV{κ:Type}:List (κ×V)->List (κ×AE)->Prop:=FG λ(p:κ×V) (q:κ×AE)=>p.1=q.1/\RelV p.2 q.2
def kV:Key->V
 |.inl i=>.int i
 |.inr x=>.str x
inductive HO where
 |lst (xs:List V)
 |tup (xs:List V)
 |dK (kvs:List (Key×V))|dT (kvs:List (List NK×V))
 |set (S:Int->Bool) (n:Nat)
 |ins (C dx:AG) (fs:List (AM×V))
 |own (x:AG)
 |xd (fs:List (AM×V))
 |met (f x:AG)
 |rng (lo hi:Int)
 |frz (o:BV) (u:HO)
 |tbl (ps:Array AE)
 |ext (φ:Ak->Prop)
abbrev Hp:=AG->Option HO
def upd(H:Hp)(a:AG)(o:HO):Hp:=λb=>if b=a then AA o else H b
def zf{H:Hp}{a:AG}{o:HO}:upd H a o a=AA o:=by unfold upd;rw[if_pos rfl]
def zc{H:Hp}{a b:AG}{o:HO}(h:b≠a):upd H a o b=H b:=by unfold upd;rw[if_neg h]
theorem upd_upd{H:Hp}{a:AG}{o u:HO}:upd (upd H a o) a u=upd H a u:=by
 funext b;unfold upd;split<;>rfl
def zkj{H:Hp}{a b:AG}{o u:HO}(h:H a=AA o)(h':H b=AA u)(d:o≠u):a≠b:=by
 intro e;subst e;rw[h]at h';exact d (AU h')
def ze{H:Hp}{a b:AG}{o:HO}(h:H a=AA o)(h':H b=AB):a≠b:=by
 intro e;subst e;rw[h]at h';cases h'
mutual
def NKr(H:Hp):NK->V->Prop
 |.a k,v=>v=kV k
 |.t l,v=>∃(b:AG) (xs:List V),v=.ref b/\H b=AA (.tup xs)/\NKs H l xs
def NKs(H:Hp):List NK->List V->Prop
 |[],xs=>xs=[]
 |k::l,xs=>∃y ys,xs=y::ys/\NKr H k y/\NKs H l ys
end
def KyR(H:Hp)(l:List NK)(b:AG):Prop:=NKr H (.t l) (.ref b)/\yc3 l
mutual
theorem NKr.stay{H H':Hp}(k:∀b xs,H b=AA (.tup xs)->H' b=AA (.tup xs)):∀(a:NK) (v:V),NKr H a v->NKr H' a v
 |.a _,_,x=>x
 |.t l,v,x=>by
  let⟨b,xs,e,g,hs⟩:=x;exact⟨b,xs,e,k _ _ g,NKs.stay k l xs hs⟩
theorem NKs.stay{H H':Hp}(k:∀b xs,H b=AA (.tup xs)->H' b=AA (.tup xs)):∀(a:List NK) (xs:List V),NKs H a xs->NKs H' a xs
 |[],_,x=>x
 |a::l,xs,x=>by
  let⟨y,ys,e,h1,h2⟩:=x;exact⟨y,ys,e,NKr.stay k a y h1,NKs.stay k l ys h2⟩
end
theorem KyR.stay{H H':Hp}{l:List NK}{b:AG}(x:KyR H l b)(k:∀b xs,H b=AA (.tup xs)->H' b=AA (.tup xs)):KyR H' l b:=⟨NKr.stay k _ _ x.1,x.2⟩
section
variable (P:AZ)(w:A8)
def yF(H:Hp)(h:Ak)(a:AG):HO->Prop
 |.lst xs=>xs.length<=sizeLine/\∃(its:List AE) (n:Nat),Vals xs its/\h.get? a=AA {cls:=.type "list",data:=.seq its.toArray n}
 |.tup xs=>xs.length<=sizeLine/\∃its:List AE,Vals xs its/\h.get? a=AA {cls:=.type "tuple",data:=.seq its.toArray}
 |.dK kvs=>kvs.length<=sizeLine/\(a==sysModules)=AF/\∃vs,KV kvs vs/\h.DictOf (yK P w) a vs
 |.dT kvs=>kvs.length<=sizeLine/\(a==sysModules)=AF/\∃xs:List (List NK×AG×AE),
   FG (λ(p:List NK×V) (q:List NK×AG×AE)=>p.1=q.1/\KyR H p.1 q.2.1/\RelV p.2 q.2.2) kvs xs /\
   ∃o es ep,h.get? a=AA o/\o.ExactDict/\o.data=.dict es ep/\es.toList=xs.map (entryOfKey (yaL P w))/\(xs.map (·.1)).Nodup
 |.set S n=>h.SetOf (intKind P w) a S n
 |.ins C dx fs=>H dx=AA (.own a)/\fs.length<=1000/\dx≠a/\h.get? a=AA (PySem.W.instObj C dx) /\
   ∃mA,h.Ns1 dx mA/\(∀f,ybf (fs.lookup f) (mA f))/\PySem.Within mA (fs.map (·.1))
 |.own _=>∃o,h.get? a=AA o
 |.xd fs=>∃mA,h.Ns1 a mA/\∀f,ybf (fs.lookup f) (mA f)
 |.rng lo hi=>∃t u v,h.get? a=AA {cls:=.type "range",data:=.fields #[.int lo t,.int hi u,.int 1 v]}
 |.frz o u=>h.get? a=AA o/\yF H h a u
 |.tbl ps=>h.get? a=AA {cls:=.none,data:=.fields ps}
 |.met f x=>h.get? a=AA (D7 (.ref f) (.ref x))
 |.ext φ=>φ h/\(∃o,h.get? a=AA o)/\∀h1 h2:Ak,φ h1->(∀o,h1.get? a=AA o->h2.get? a=AA o)->φ h2
def HOk(H:Hp)(h:Ak):Prop:=∀a o,H a=AA o->yF P w H h a o
end
section
variable {P:AZ}{w:A8}{H H':Hp}{h h':Ak}{a:AG}{o:HO}
theorem yF.lt(x:yF P w H h a o):a<h.objs.size:=by
 cases o with
 |lst xs=>let⟨_,_,_,_,e⟩:=x;exact AT e
 |tup xs=>let⟨_,_,_,p⟩:=x;exact AT p
 |dK kvs=>let⟨_,_,_,_,o,_,_,e,_⟩:=x;exact AT e
 |dT kvs=>let⟨_,_,_,_,o,_,_,e,_⟩:=x;exact AT e
 |set S n=>let⟨o,_,_,_,e,_⟩:=x;exact AT e
 |ins C dx fs=>let⟨_,_,_,e,_⟩:=x;exact AT e
 |own y=>let⟨_,e⟩:=x;exact AT e
 |xd fs=>let⟨_,⟨_,_,_,e,_⟩,_⟩:=x;exact AT e
 |rng lo hi=>let⟨_,_,_,e⟩:=x;exact AT e
 |frz ob u=>let⟨e,_⟩:=x;exact AT e
 |tbl ps=>exact AT (show h.get? a=AA _ from x)
 |met f y=>exact AT (show h.get? a=AA _ from x)
 |ext φ=>let⟨_,⟨_,e⟩,_⟩:=x;exact AT e
theorem Paired.mapP{α β:Type}{F G:α->β->Prop}:∀{l₁:List α} {l₂:List β},FG F l₁ l₂->(∀a b,F a b->G a b)->FG G l₁ l₂
 |_,_,.nil,_=>.nil
 |_,_,.cons r t,f=>.cons (f _ _ r) (Paired.mapP t f)
theorem yF.stay(x:yF P w H h a o)(k:∀b u,(b=a \/ H b=AA (.own a))->h.get? b=AA u->h'.get? b=AA u)
  (ho:∀b,H b=AA (.own a)->H' b=AA (.own a)) (ht:∀b xs,H b=AA (.tup xs)->H' b=AA (.tup xs)):yF P w H' h' a o:=by
 induction o with
 |lst xs=>let⟨z,its,n,r,e⟩:=x;exact⟨z,its,n,r,k _ _ (.inl rfl) e⟩
 |tup xs=>let⟨z,its,r,e⟩:=x;exact⟨z,its,r,k _ _ (.inl rfl) e⟩
 |dK kvs=>let⟨z,y,vs,r,ob,es,ep,e,c⟩:=x;exact⟨z,y,vs,r,ob,es,ep,k _ _ (.inl rfl) e,c⟩
 |dT kvs=>
  let⟨z,y,xs,r,ob,es,ep,e,c⟩:=x;exact⟨z,y,xs,Paired.mapP r λp q z=>⟨z.1,z.2.1.stay ht,z.2.2⟩,ob,es,ep,k _ _ (.inl rfl) e,c⟩
 |set S n=>let⟨ob,es,ep,t,e,c⟩:=x;exact⟨ob,es,ep,t,k _ _ (.inl rfl) e,c⟩
 |ins C dx fs=>
  let⟨d,z,ne,e,mA,⟨od,es,ep,e2,c⟩,r⟩:=x;exact⟨ho _ d,z,ne,k _ _ (.inl rfl) e,mA,⟨od,es,ep,k _ _ (.inr d) e2,c⟩,r⟩
 |own y=>let⟨ob,e⟩:=x;exact⟨ob,k _ _ (.inl rfl) e⟩
 |xd fs=>let⟨mA,⟨od,es,ep,e,c⟩,r⟩:=x;exact⟨mA,⟨od,es,ep,k _ _ (.inl rfl) e,c⟩,r⟩
 |rng lo hi=>let⟨t,u,v,e⟩:=x;exact⟨t,u,v,k _ _ (.inl rfl) e⟩
 |frz ob u ih=>let⟨e,q⟩:=x;exact⟨k _ _ (.inl rfl) e,ih q⟩
 |tbl ps=>
  have e:h.get? a=AA {cls:=.none,data:=.fields ps}:=x;show h'.get? a=AA {cls:=.none,data:=.fields ps};exact k a _ (.inl rfl) e
 |met f y=>
  have e:h.get? a=AA (D7 (.ref f) (.ref y)):=x;show h'.get? a=AA (D7 (.ref f) (.ref y));exact k a _ (.inl rfl) e
 |ext φ=>let⟨p,⟨o,e⟩,st⟩:=x;exact⟨st _ _ p λo q=>k _ _ (.inl rfl) q,⟨o,k _ _ (.inl rfl) e⟩,st⟩
theorem HOk.lt(x:HOk P w H h)(e:H a=AA o):a<h.objs.size:=(x a o e).lt
theorem HOk.fresh(x:HOk P w H h)(e:h.objs.size<=a):H a=none:=by
 cases q:H a with
 |none=>rfl
 |some u=>exact absurd (AY (x.lt q) e) (B8 _)
theorem HOk.kept(x:HOk P w H h)(k:∀b u,h.get? b=AA u->h'.get? b=AA u):HOk P w H h':=λa o e=>
 (x a o e).stay (λb u _ q=>k b u q) (λ_ q=>q) λ_ _ q=>q
theorem HOk.laid(x:HOk P w H h)(k:∀b u,h.get? b=AA u->h'.get? b=AA u)(hp:h.objs.size<=a)(new:yF P w (upd H a o) h' a o):HOk P w (upd H a o) h':=λb u e=>by
 have hn:=x.fresh hp
 by_cases hb:b=a
 .subst hb;rw[zf]at e;cases e;exact new
 .rw[zc hb]at e;exact(x b u e).stay (λc v _ q=>k c v q) (λc q=>by rw[zc (ze q hn)];exact q) λc xs q=>by rw[zc (ze q hn)];exact q
end
def Rd(H:Hp)(a:AG)(u:HO):Prop:=H a=AA u \/ ∃o,H a=AA (.frz o u)
theorem Rd.of{H:Hp}{a:AG}{u:HO}(h:H a=AA u):Rd H a u:=.inl h
theorem Rd.ok{P:AZ}{w:A8}{H:Hp}{h:Ak}{a:AG}{u:HO}(r:Rd H a u)(x:HOk P w H h):yF P w H h a u:=by
 rcases r with r|⟨o,r⟩
 .exact x a u r
 .let⟨_,q⟩:=x a _ r;exact q
def Mut:Option HO->Prop
 |some (.lst _)=>True
 |some (.dK _)=>True
 |some (.dT _)=>True
 |some (.set _ _)=>True
 |some (.ins _ _ _)=>True
 |some (.ext _)=>True
 |_=>False
section
variable {P:AZ}{w:A8}{H:Hp}{h h':Ak}{x e:AG}{o':HO}
theorem HOk.write(ok:HOk P w H h)(mu:Mut (H x))(he:e=x \/ H e=AA (.own x))(k:∀b u,b≠e->h.get? b=AA u->h'.get? b=AA u)(heo:∃u,h'.get? e=AA u)
  (new:yF P w (upd H x o') h' x o'):HOk P w (upd H x o') h':=λb u q=>by
 have nown:∀c y,H c=AA (.own y)->c≠x:=λc y r z=>by subst z;rw[r]at mu;exact mu
 have ntup:∀c xs,H c=AA (.tup xs)->c≠x:=λc xs r z=>by subst z;rw[r]at mu;exact mu
 by_cases hb:b=x
 .subst hb;rw[zf]at q;cases q;exact new
 .rw[zc hb]at q
  by_cases hbe:b=e
  .have q':H b=AA (.own x):=by
    rcases he with z|z
    .exact absurd (hbe.trans z) hb
    .rw[hbe];exact z
   rw[q]at q';cases q';let⟨v,hv⟩:=heo;exact⟨v,by rw[hbe];exact hv⟩
  .refine(ok b u q).stay (λc v hc r=>k c v ?_ r) (λc r=>by rw[zc (nown c b r)];exact r) λc xs r=>by rw[zc (ntup c xs r)];exact r
   rcases hc with rfl|hc
   .exact hbe
   .rintro rfl
    rcases he with z|z
    .exact nown c b hc z
    .rw[hc]at z;cases z;exact hb rfl
end
structure Un(fs ex:List AG)(H H':Hp)(h h':Ak):Prop where
 keep:∀b o,h.get? b=AA o->H b=AB->b∉fs->b∉ex->h'.get? b=AA o
 slot:∀b o,h.get? b=AA o->H b=AB->b∈fs->b∉ex->∃sl,h'.get? b=AA {o with slots:=sl}
 free:∀b o,h.get? b=AA o->H b=AB->b∉ex->H' b=AB
 there:∀b o,h.get? b=AA o->b∉ex->∃o',h'.get? b=AA o'
 tups:∀b xs,H b=AA (.tup xs)->H' b=AA (.tup xs)
 frzs:∀b o u,H b=AA (.frz o u)->H' b=AA (.frz o u)
 tbls:∀b ps,H b=AA (.tbl ps)->∃more,H' b=AA (.tbl (ps++more))
section
variable {fs fs' ex ex':List AG}{H H1 H2:Hp}{h h1 h2 h':Ak}{a x e:AG}{o:HO}
theorem Un.any(u:Un fs ex H H1 h h1){b:AG}{ob:BV}(q:h.get? b=AA ob)(n:H b=AB)(hx:b∉ex):∃sl,h1.get? b=AA {ob with slots:=sl}:=by
 by_cases hb:b∈fs
 .exact u.slot b ob q n hb hx
 .exact⟨ob.slots,u.keep b ob q n hb hx⟩
theorem Un.kept(k:∀b u,h.get? b=AA u->h'.get? b=AA u):Un fs ex H H h h':=
 ⟨λb ob q _ _ _=>k b ob q,λb ob q _ _ _=>⟨ob.slots,k b ob q⟩,λ_ _ _ n _=>n,λb ob q _=>⟨ob,k b ob q⟩,λ_ _ q=>q,λ_ _ _ q=>q,λ_ ps q=>⟨#[],by rw[q];simp⟩⟩
theorem Un.refl:Un fs ex H H h h:=Un.kept λ_ _ q=>q
theorem Un.laid(k:∀b u,h.get? b=AA u->h'.get? b=AA u)(hp:h.objs.size<=a)(hn:H a=AB):Un fs ex H (upd H a o) h h' where
 keep:=λb u q _ _ _=>k b u q
 slot:=λb u q _ _ _=>⟨u.slots,k b u q⟩
 free:=λb u q n _=>by rw[zc (Ab (AY (AT q) hp))];exact n
 there:=λb u q _=>⟨u,k b u q⟩
 tups:=λb xs q=>by rw[zc (ze q hn)];exact q
 frzs:=λb u xs q=>by rw[zc (ze q hn)];exact q
 tbls:=λb ps q=>⟨#[],by rw[zc (ze q hn),q];simp⟩
theorem Un.write(mu:Mut (H x))(he:e=x \/ H e=AA (.own x))(k:∀b u,b≠e->h.get? b=AA u->h'.get? b=AA u)(heo:∃u,h'.get? e=AA u):Un fs ex H (upd H x o) h h':=by
 have hx:∀b,H b=AB->b≠x:=λb n z=>by subst z;rw[n]at mu;exact mu
 have hb:∀b,H b=AB->b≠e:=λb n z=>by
  subst z;rcases he with r|r
  .exact hx b n r
  .rw[n]at r;cases r
 have hm:∀b u,H b=AA u->¬Mut (AA u)->b≠x:=λb u q nm z=>by subst z;rw[q]at mu;exact nm mu
 refine⟨λb u q n _ _=>k b u (hb b n) q,λb u q n _ _=>⟨u.slots,k b u (hb b n) q⟩,λb u q n _=>by rw[zc (hx b n)];exact n,λb u q _=>?_,
  λb xs q=>by rw[zc (hm b _ q λz=>z)];exact q,λb u xs q=>by rw[zc (hm b _ q λz=>z)];exact q,λb ps q=>⟨#[],by rw[zc (hm b _ q λz=>z),q];simp⟩⟩
 by_cases hbe:b=e
 .subst hbe;exact heo
 .exact⟨u,k b u hbe q⟩
end
def trk(h:Ak)(H:Hp):List Addr:=(CP h.objs.size).filter λa=>(H a).isSome
def ybG(h:Ak)(H:Hp):Heap:=C1 h (trk h H)
def zea(h:Ak)(H:Hp):(ybG h H).objs.size=h.objs.size:=PySem.W.hideAll_size _ _
def zfv{h:Ak}{H:Hp}{b:AG}{o:BV}(e:h.get? b=AA o)(n:H b=AB):(ybG h H).get? b=AA o:=
 ES _ e λhm=>by
  have q:(H b).isSome=true:=(Dy.mp hm).2;rw[n]at q;simp at q
def zhe{h:Ak}{H:Hp}{b:AG}{o:BV}(e:(ybG h H).get? b=AA o):h.get? b=AA o/\H b=none:=by
 have e':h.get? b=AA o:=E8 (trk h H) e;refine⟨e',?_⟩
 cases q:H b with
 |none=>rfl
 |some x=>
  have hm:b∈trk h H:=Dy.mpr ⟨DN.mpr (AT e'),by simp[q]⟩;have z:(ybG h H).get? b=none:=PySem.W.hideAll_none (trk h H) hm;rw[z]at e;cases e
structure Mod(K:AC)(mg:AM->Option AE)(base:Ak):Prop where
 kin:K.In base
 glob:base.Ns mainGlobals mg
 blt:∃mb,base.Ns builtinsNs mb/\∀x:AM,x ≠ "__name__"->mb x=bootBuiltins x
 nolimit:base.NoLimit
structure Cx where
 prog:AZ
 w:A8
 K:AC
 mg:AM->Option AE
 base:Ak
 A:A3
 N:List AM
 s₀:AH
 H₀:Hp
 env:Env
 outer:List Env
 stack:List Env
 ex:List AG
 fn:AM->Bool
 calm:Bool
 pn:List (AG×BV)
 xe:AE->AH->Prop
def frs(l:List Env):List Addr:=l.filterMap (·.frame)
abbrev Cx.fs(X:Cx):List Addr:=frs X.outer
def Vis(sc:Al)(x:AM):Prop:=sc.names.lookup x=AA .local \/ sc.names.lookup x=AA .cell \/ sc.names.lookup x=AA .free
def Loc(sc:Al)(x:AM):Prop:=sc.names.lookup x=AA .local \/ sc.names.lookup x=AA .cell
def Look(env:Env)(h:Ak)(m:AM->Option AE)(x:AM)(u:AE):Prop:=
 (env.kindOf x=AA .local/\m x=AA u) \/ ((env.kindOf x=AA .cell \/ env.kindOf x=AA .free)/\∃c,env.cells.lookup x=AA c/\h.IsCell c (AA u))
structure Cx.Ok(X:Cx):Prop where
 mod:Mod X.K X.mg X.base
 kind:X.env.scope.kind=.function
 glob:X.env.globals=mainGlobals
 blt:X.env.builtins=builtinsNs
 above:X.s₀.heap.objs.size<=X.env.locals
 inj:∀x y c,X.env.cells.lookup x=AA c->X.env.cells.lookup y=AA c->x=y
 has:∀x,(X.env.kindOf x=AA .cell \/ X.env.kindOf x=AA .free)->∃c,X.env.cells.lookup x=AA c
 cab:∀x c,X.fn x=AD->X.env.cells.lookup x=AA c->X.s₀.heap.objs.size<=c
 hd:X.calm=AD->X.A.handled=AB
 frames:X.A.frames=AA X.stack
 stk:X.stack=X.outer \/ (X.stack=X.env::X.outer/\X.env.frame=AA X.env.locals)
 exf:∀b∈X.ex,b≠X.env.locals/\∀x c,X.env.cells.lookup x=AA c->c≠b
 bs:∀b o,X.base.get? b=AA o->X.s₀.heap.get? b=AA o/\X.H₀ b=AB
 bsz:X.base.objs.size<=X.s₀.heap.objs.size
 noex:∀b o,X.base.get? b=AA o->b∉X.ex
 exfs:∀b∈X.ex,b∉X.fs
 funs:X.s₀.heap.FunFrames X.base X.outer
 frf:∀b∈X.fs,X.H₀ b=AB
structure Inv(X:Cx)(π:List (AG×BV))(σ:List (Option V))(H:Hp)(s:AH):Prop where
 ok:X.Ok
 os:s.os=X.s₀.os
 bare:Ct s.gens
 base:Un X.fs X.ex X.H₀ H X.s₀.heap s.heap
 loc:∃m,s.heap.Ns X.env.locals m/\∀(i:Nat) (x:AM) (v:V),X.N[i]?=AA x->σ[i]?=AA (AA v)->Vis X.env.scope x->∃u,RelV v u/\Look X.env s.heap m x u
 cell:∀x c,X.env.cells.lookup x=AA c->∃v,s.heap.IsCell c v
 free:H X.env.locals=AB
 freeC:∀x c,X.env.cells.lookup x=AA c->H c=AB
 pin:∀p∈X.pn++π,s.heap.get? p.1=AA p.2/\H p.1=AB/\p.1≠X.env.locals/\p.1∉X.fs/\∀v,p.2.data ≠ .cell v
 hok:HOk X.prog X.w H s.heap
 len:σ.length=X.N.length
section
variable {X:Cx}{π:List (AG×BV)}{σ:List (Option V)}{H H':Hp}{s:AH}{h':Ak}
theorem Cx.Ok.nofr(ok:X.Ok){b:AG}{o:BV}(e:X.base.get? b=AA o):b∉X.fs:=λhb=>by
 have:=(ok.funs.mem hb).1;rw[e]at this;cases this
theorem Inv.bs(I:Inv X π σ H s):∀b o,X.base.get? b=AA o->s.heap.get? b=AA o/\H b=none:=λb o e=>
 ⟨I.base.keep b o (I.ok.bs b o e).1 (I.ok.bs b o e).2 (I.ok.nofr e) (I.ok.noex b o e),I.base.free b o (I.ok.bs b o e).1 (I.ok.bs b o e).2 (I.ok.noex b o e)⟩
theorem Inv.bk(I:Inv X π σ H s):∀b o,X.base.get? b=AA o->s.heap.get? b=AA o:=λb o e=>(I.bs b o e).1
theorem Inv.mod(I:Inv X π σ H s):Mod X.K X.mg X.base:=I.ok.mod
theorem Inv.kIn(I:Inv X π σ H s):X.K.In s.heap:=I.ok.mod.kin.keeps I.bk
theorem Inv.lt(I:Inv X π σ H s):X.env.locals<s.heap.objs.size:=let ⟨_,hn,_⟩:=I.loc;hn.lt
theorem Inv.sz(I:Inv X π σ H s):X.s₀.heap.objs.size<=s.heap.objs.size:=BB I.ok.above (Eh I.lt)
theorem Inv.nofs(I:Inv X π σ H s){a:AG}(h:s.heap.objs.size<=a):a∉X.fs:=λhb=>by
 let⟨_,o,ho,_⟩:=I.ok.funs.mem hb;exact absurd (AY (AT ho) (BB I.sz h)) (B8 _)
theorem Inv.cne(I:Inv X π σ H s):∀x c,X.env.cells.lookup x=AA c->c≠X.env.locals:=λx c e z=>by
 let⟨v,o,ho,hd⟩:=I.cell x c e;let⟨m,⟨o',es,ep,ho',hd',_⟩,_⟩:=I.loc;rw[z,ho']at ho;cases ho;rw[hd']at hd;cases hd
theorem Inv.funs(I:Inv X π σ H s):s.heap.FunFrames X.base X.outer:=by
 have all:∀(l:List Env),(∀b∈frs l,b∈X.fs)->X.s₀.heap.FunFrames X.base l->s.heap.FunFrames X.base l:=by
  intro l
  induction l with
  |nil=>intro _ _;trivial
  |cons env r ih=>
   intro hs hl;let⟨hk,⟨L,o,hf,hn,ho,hd⟩,hr⟩:=hl;have hL:L∈X.fs:=hs L (by unfold frs;rw[Bu,hf];exact AV);let⟨sl,e⟩:=I.base.slot L o ho (I.ok.frf L hL) hL λz=>I.ok.exfs L z hL;exact⟨hk,⟨L,_,hf,hn,e,hd⟩,ih (λb hb=>hs b (by unfold frs;rw[Bu,hf];exact AK _ hb)) hr⟩
 exact all X.outer (λ_ hb=>hb) I.ok.funs
theorem Inv.stack(I:Inv X π σ H s):s.heap.FunFrames X.base X.stack:=by
 rcases I.ok.stk with e|⟨e,hf⟩
 .rw[e];exact I.funs
 .rw[e];let⟨m,hn,_⟩:=I.loc;refine .cons (by rw[I.ok.kind];decide) hf hn ?_ I.funs;exact Heap.get?_none_of_le (BB I.ok.bsz I.ok.above)
theorem Inv.stkSub(I:Inv X π σ H s):∀b∈frs X.stack,b∈X.env.locals::X.fs:=λb hb=>by
 rcases I.ok.stk with e|⟨e,hf⟩
 .rw[e]at hb;exact AK _ hb
 .rw[e]at hb;unfold frs at hb;rw[Bu,hf]at hb;exact hb
theorem Inv.stkFree(I:Inv X π σ H s):∀b∈frs X.stack,H b=none:=λb hb=>by
 rcases A5.mp (I.stkSub b hb)with e|hb
 .rw[e];exact I.free
 .let⟨_,o,ho,_⟩:=I.ok.funs.mem hb;exact I.base.free b o ho (I.ok.frf b hb) λz=>I.ok.exfs b z hb
theorem Inv.step{g':Array GenState}{t':Nat}{d':Drawn}{ch:List AG}(I:Inv X π σ H s)
  (hch:∀b∈ch,(b∈X.ex \/ X.s₀.heap.objs.size<=b)/\b≠X.env.locals/\(∀x c,X.env.cells.lookup x=AA c->c≠b)/\∀p∈X.pn++π,p.1≠b)
  (keep:∀b o,b≠X.env.locals->b∉X.fs->b∉ch->s.heap.get? b=AA o->H b=AB->h'.get? b=AA o)
  (slot:∀b o,b≠X.env.locals->b∈X.fs->b∉ch->s.heap.get? b=AA o->H b=AB->∃sl,h'.get? b=AA {o with slots:=sl}) (free:∀b o,b∉ch->s.heap.get? b=AA o->H b=AB->H' b=AB)
  (there:∀b o,b∉ch->s.heap.get? b=AA o->∃o',h'.get? b=AA o')
  (tups:∀b xs,H b=AA (.tup xs)->H' b=AA (.tup xs)) (frzs:∀b o u,H b=AA (.frz o u)->H' b=AA (.frz o u)) (tbls:∀b ps,H b=AA (.tbl ps)->∃more,H' b=AA (.tbl (ps++more)))
  (ns:∀m,s.heap.Ns X.env.locals m->h'.Ns X.env.locals m) (hok:HOk X.prog X.w H' h') (hg:Ct g'):
  Inv X π σ H' {s with heap:=h',gens:=g',drawn:=d',toks:=t'}:=by
 have neL:∀b o,X.s₀.heap.get? b=AA o->b≠X.env.locals:=λb o e=>Ab (AY (AT e) I.ok.above);have neC:∀b o,X.s₀.heap.get? b=AA o->b∉X.ex->b∉ch:=λb o e hx hb=>by
  rcases (hch b hb).1 with z|z
  .exact hx z
  .exact absurd (AY (AT e) z) (B8 _)
 have cellK:∀x c,X.env.cells.lookup x=AA c->∀v,s.heap.IsCell c v->h'.IsCell c v:=λx c e v ⟨o,ho,hd⟩=>by
  have nch:c∉ch:=λz=>(hch c z).2.2.1 x c e rfl
  by_cases hc:c∈X.fs
  .let⟨sl,q⟩:=slot c o (I.cne x c e) hc nch ho (I.freeC x c e);exact⟨_,q,hd⟩
  .exact⟨o,keep c o (I.cne x c e) hc nch ho (I.freeC x c e),hd⟩
 refine⟨I.ok,I.os,hg,⟨λb o e n hb hx=>?_,λb o e n hb hx=>?_,λb o e n hx=>?_,λb o e hx=>?_,λb xs e=>tups b xs (I.base.tups b xs e),λb o xs e=>frzs b o xs (I.base.frzs b o xs e),λb ps e=>?_⟩,?_,λx c e=>?_,?_,λx c e=>?_,λp hp=>?_,hok,I.len⟩
 .exact keep b o (neL b o e) hb (neC b o e hx) (I.base.keep b o e n hb hx) (I.base.free b o e n hx)
 .let⟨sl,e1⟩:=I.base.slot b o e n hb hx;let⟨sl',e2⟩:=slot b _ (neL b o e) hb (neC b o e hx) e1 (I.base.free b o e n hx);exact⟨sl',e2⟩
 .let⟨o',e1⟩:=I.base.there b o e hx;exact free b o' (neC b o e hx) e1 (I.base.free b o e n hx)
 .let⟨o',e1⟩:=I.base.there b o e hx;exact there b o' (neC b o e hx) e1
 .let⟨m1,e1⟩:=I.base.tbls b ps e;let⟨m2,e2⟩:=tbls b _ e1;exact⟨m1++m2,by rw[e2,DO]⟩
 .let⟨m,hn,hl⟩:=I.loc;refine⟨m,ns m hn,λi x v e1 e2 e3=>?_⟩;let⟨u,r,l⟩:=hl i x v e1 e2 e3;refine⟨u,r,?_⟩;rcases l with l|⟨k,c,e,z⟩
  .exact .inl l
  .exact .inr ⟨k,c,e,cellK x c e _ z⟩
 .let⟨v,z⟩:=I.cell x c e;exact⟨v,cellK x c e v z⟩
 .let⟨m,⟨o,_,_,ho,_⟩,_⟩:=I.loc;exact free _ o (λz=>(hch _ z).2.1 rfl) ho I.free
 .let⟨v,o,ho,hd⟩:=I.cell x c e;exact free c o (λz=>(hch c z).2.2.1 x c e rfl) ho (I.freeC x c e)
 .let⟨e,n,ne,nf,d⟩:=I.pin p hp;have nch:p.1∉ch:=λz=>(hch p.1 z).2.2.2 p hp rfl;exact⟨keep p.1 p.2 ne nf nch e n,free p.1 p.2 nch e n,ne,nf,d⟩
theorem Inv.un{t':Nat}(I:Inv X π σ H s)(u:Un X.fs [] H H' s.heap h')(hok:HOk X.prog X.w H' h'):Inv X π σ H' {s with heap:=h',toks:=t'}:=by
 let⟨m,⟨o,es,ep,ho,r⟩,_⟩:=id I.loc;let⟨sl,hL⟩:=u.any ho I.free (by simp);exact I.step (g':=s.gens) (d':=s.drawn) (ch:=[]) (λ_ z=>nomatch z) (λb o _ hb _ e n=>u.keep b o e n hb (by simp)) (λb o _ hb _ e n=>u.slot b o e n hb (by simp)) (λb o _ e n=>u.free b o e n (by simp)) (λb o _ e=>u.there b o e (by simp)) u.tups u.frzs u.tbls (λm' hm=>by
  let⟨o',es',ep',ho',r'⟩:=hm;rw[ho]at ho';cases ho';exact⟨_,es',ep',hL,r'⟩) hok I.bare
theorem Inv.call{g':Array GenState}{t':Nat}{d':Drawn}{ch:List AG}(I:Inv X π σ H s)(u:Un (frs X.stack) ch H H' s.heap h')(hok:HOk X.prog X.w H' h')(hg:Ct g')
  (hch:∀b∈ch,(b∈X.ex \/ X.s₀.heap.objs.size<=b)/\b≠X.env.locals/\(∀x c,X.env.cells.lookup x=AA c->c≠b)/\∀p∈X.pn++π,p.1≠b):
  Inv X π σ H' {s with heap:=h',gens:=g',drawn:=d',toks:=t'}:=by
 let⟨m,⟨o,es,ep,ho,r⟩,_⟩:=id I.loc;let⟨sl,hL⟩:=u.any ho I.free λz=>(hch _ z).2.1 rfl;exact I.step (ch:=ch) hch (λb o hL hb hc e n=>u.keep b o e n (λz=>(A5.mp (I.stkSub b z)).elim hL hb) hc) (λb o _ _ hc e n=>u.any e n hc) (λb o hc e n=>u.free b o e n hc) (λb o hc e=>u.there b o e hc) u.tups u.frzs u.tbls (λm' hm=>by
  let⟨o',es',ep',ho',r'⟩:=hm;rw[ho]at ho';cases ho';exact⟨_,es',ep',hL,r'⟩) hok hg
theorem Inv.turned{t':Nat}{it:AG}(I:Inv X π σ H s)(k:∀b o,b≠it->s.heap.get? b=AA o->h'.get? b=AA o)(hn:H it=AB)(hL:it≠X.env.locals)
  (h1:it∈X.ex \/ X.s₀.heap.objs.size<=it) (h2:∀x c,X.env.cells.lookup x=AA c->c≠it) (h3:∀p∈X.pn++π,p.1≠it):Inv X π σ H {s with heap:=h',toks:=t'}:=by
 have nit:∀b u,H b=AA u->b≠it:=λb u e z=>by rw[z,hn]at e;cases e
 refine I.step (g':=s.gens) (d':=s.drawn) (ch:=[it]) (λb hb=>?_) (λb o _ _ hc e _=>k b o (λz=>hc (by simp[z])) e) (λb o _ _ hc e _=>⟨o.slots,k b o (λz=>hc (by simp[z])) e⟩) (λ_ _ _ _ n=>n)
  (λb o hc e=>⟨o,k b o (λz=>hc (by simp[z])) e⟩) (λ_ _ e=>e) (λ_ _ _ e=>e) (λb ps e=>⟨#[],by rw[e];simp⟩) (λm hm=>?_) (λb u e=>?_) I.bare
 .have e:b=it:=by simpa using hb
  subst e;exact⟨h1,hL,h2,h3⟩
 .let⟨o,es,ep,ho,r⟩:=hm;exact⟨o,es,ep,k _ o (Bl hL) ho,r⟩
 .refine(I.hok b u e).stay (λc v hc q=>k c v ?_ q) (λ_ q=>q) λ_ _ q=>q;rcases hc with z|z
  .rw[z];exact nit b u e
  .exact nit c _ z
theorem Inv.tok(I:Inv X π σ H s)(t:Nat):Inv X π σ H {s with toks:=t}:=I.un (h':=s.heap) (t':=t) Un.refl I.hok
theorem Inv.kept{t':Nat}(I:Inv X π σ H s)(k:∀b u,s.heap.get? b=AA u->h'.get? b=AA u):Inv X π σ H {s with heap:=h',toks:=t'}:=I.un (Un.kept k) (I.hok.kept k)
theorem Inv.laid{a:AG}{o:HO}{t':Nat}(I:Inv X π σ H s)(k:∀b u,s.heap.get? b=AA u->h'.get? b=AA u)(hp:s.heap.objs.size<=a)(new:yF X.prog X.w (upd H a o) h' a o):
  Inv X π σ (upd H a o) {s with heap:=h',toks:=t'}:=I.un (Un.laid k hp (I.hok.fresh hp)) (I.hok.laid k hp new)
theorem Inv.write{x e:AG}{o:HO}{t':Nat}(I:Inv X π σ H s)(mu:Mut (H x))(he:e=x \/ H e=AA (.own x))(k:∀b u,b≠e->s.heap.get? b=AA u->h'.get? b=AA u)(heo:∃u,h'.get? e=AA u)
  (new:yF X.prog X.w (upd H x o) h' x o):Inv X π σ (upd H x o) {s with heap:=h',toks:=t'}:=I.un (Un.write mu he k heo) (I.hok.write mu he k heo new)
theorem Inv.pins_of{pins':List (AG×BV)}(I:Inv X π σ H s)(h:∀p∈pins',s.heap.get? p.1=AA p.2/\H p.1=AB/\p.1≠X.env.locals/\p.1∉X.fs/\∀v,p.2.data ≠ .cell v):Inv X pins' σ H s:=
 ⟨I.ok,I.os,I.bare,I.base,I.loc,I.cell,I.free,I.freeC,λp hp=>(Ax.mp hp).elim (λz=>I.pin p (Cv _ z)) (h p),I.hok,I.len⟩
def zc4{N:List AM}(hN:N.Nodup){i j:Nat}{x:AM}(a:N[i]?=AA x)(b:N[j]?=AA x):i=j:=by
 let⟨h1,e1⟩:=Af.mp a;let⟨h2,e2⟩:=Af.mp b;exact(List.getElem_inj hN).mp (e1.trans e2.symm)
def zeo{M:Fp}{A:A3}{E:AE->AH->Prop}{i:Nat}{x:AM}{v:V}{u:AE}{Q:Unit->AH->Prop}(I:Inv X π σ H s)(hN:X.N.Nodup)(hi:X.N[i]?=AA x)(hx:Loc X.env.scope x)(r:RelV v u)
  (h:∀s',Inv X π (σ.set i (AA v)) H s'->(∃a,B6 a s.heap s'.heap/\(a=X.env.locals \/ X.env.cells.lookup x=AA a))->Q () s') (hf:X.fn x=AD \/ X.env.scope.names.lookup x=AA .local:=by first|exact .inl rfl|exact .inr rfl|assumption):A2 M A (storeName X.env x u) Q E s:=by
 let⟨m,hn,hl⟩:=id I.loc;have hcls:(X.env.scope.kind==.class || (X.env.scope.kind==.module&&X.env.locals != X.env.globals))=false:=by rw[I.ok.kind];rfl
 have hiσ:i<σ.length:=by rw[I.len];exact(Af.mp hi).1
 have cne:=I.cne;have tracked:∀{a:AG} {h':Ak},(∃o,s.heap.get? a=AA o/\H a=AB)->B6 a s.heap h'->HOk X.prog X.w H h':=λ{a h'} ha hs b ob e=>by
  let⟨_,_,hfree⟩:=ha;refine(I.hok b ob e).stay (λc w' hc q=>(hs.2 c ?_).trans q) (λ_ q=>q) λ_ _ q=>q
  rintro rfl
  rcases hc with rfl|hc
  .rw[hfree]at e;cases e
  .rw[hfree]at hc;cases hc
 rcases hx with hk|hk
 .refine wpAny_storeName_local hk hn (λh' hn' hs=>?_) hcls;let⟨oL,_,_,hoL,_⟩:=id hn;refine h _ ⟨I.ok,I.os,I.bare,⟨λb o e n hb hx=>?_,λb o e n hb hx=>?_,I.base.free,λb o e hx=>?_,I.base.tups,I.base.frzs,I.base.tbls⟩,⟨_,hn',λj y v' e1 e2 e3=>?_⟩,λy c e=>?_,I.free,I.freeC,λp hp=>?_,tracked ⟨oL,hoL,I.free⟩ hs,by simpa using I.len⟩ ⟨_,hs,.inl rfl⟩
  .exact(hs.2 b (Ab (AY (AT e) I.ok.above))).trans (I.base.keep b o e n hb hx)
  .let⟨sl,e1⟩:=I.base.slot b o e n hb hx;exact⟨sl,(hs.2 b (Ab (AY (AT e) I.ok.above))).trans e1⟩
  .let⟨o',e1⟩:=I.base.there b o e hx;exact⟨o',(hs.2 b (Ab (AY (AT e) I.ok.above))).trans e1⟩
  .by_cases hj:j=i
   .subst hj;rw[hi]at e1;cases e1;rw[Aw hiσ]at e2
    cases e2
    exact⟨u,r,.inl ⟨hk,by simp⟩⟩
   .rw[Ai (Bl hj)]at e2;let⟨u',r',q⟩:=hl j y v' e1 e2 e3;refine⟨u',r',?_⟩;rcases q with⟨k,e⟩|⟨k,c,e,z⟩
    .refine .inl ⟨k,?_⟩;have:y≠x:=λe=>hj (zc4 hN e1 (e ▸ hi));simp[this,e]
    .exact .inr ⟨k,c,e,z.sameBut hs (cne y c e)⟩
  .let⟨w',z⟩:=I.cell y c e;exact⟨w',z.sameBut hs (cne y c e)⟩
  .let⟨e,n,ne,nf,d⟩:=I.pin p hp;exact⟨(hs.2 p.1 ne).trans e,n,ne,nf,d⟩
 .have hfn:X.fn x=true:=by
   rcases hf with z|z
   .exact z
   .rw[z]at hk;cases hk
  let⟨c,hc⟩:=I.ok.has x (.inl hk);let⟨w',z⟩:=I.cell x c hc;refine wpAny_storeName_cell I.ok.kind hk hc z (λh' hc' hs=>?_);let⟨oc,hoc,hocd⟩:=id z;refine h {s with heap:=h'} ⟨I.ok,I.os,I.bare,⟨λb o e n hb hx=>?_,λb o e n hb hx=>?_,I.base.free,λb o e hx=>?_,I.base.tups,I.base.frzs,I.base.tbls⟩,⟨m,hn.sameBut hs (Bl (cne x c hc)),λj y v' e1 e2 e3=>?_⟩,λy c' e=>?_,I.free,I.freeC,λp hp=>?_,tracked ⟨oc,hoc,I.freeC x c hc⟩ hs,by simpa using I.len⟩ ⟨c,hs,.inr hc⟩
  .exact(hs.2 b (Ab (AY (AT e) (I.ok.cab x c hfn hc)))).trans (I.base.keep b o e n hb hx)
  .let⟨sl,e1⟩:=I.base.slot b o e n hb hx;exact⟨sl,(hs.2 b (Ab (AY (AT e) (I.ok.cab x c hfn hc)))).trans e1⟩
  .let⟨o',e1⟩:=I.base.there b o e hx;exact⟨o',(hs.2 b (Ab (AY (AT e) (I.ok.cab x c hfn hc)))).trans e1⟩
  .by_cases hj:j=i
   .subst hj;rw[hi]at e1;cases e1;rw[Aw hiσ]at e2
    cases e2
    exact⟨u,r,.inr ⟨.inl hk,c,hc,hc'⟩⟩
   .rw[Ai (Bl hj)]at e2;let⟨u',r',q⟩:=hl j y v' e1 e2 e3;refine⟨u',r',?_⟩;rcases q with q|⟨k,c',e,z'⟩
    .exact .inl q
    .refine .inr ⟨k,c',e,z'.sameBut hs ?_⟩
     rintro rfl
     exact hj (zc4 hN e1 (I.ok.inj _ _ _ e hc ▸ hi))
  .by_cases hcc:c'=c
   .subst hcc;exact⟨_,hc'⟩
   .let⟨w2,z2⟩:=I.cell y c' e;exact⟨w2,z2.sameBut hs hcc⟩
  .let⟨e,n,ne,nf,d⟩:=I.pin p hp;refine⟨(hs.2 p.1 ?_).trans e,n,ne,nf,d⟩;intro q;rw[q,hoc]at e;have q':oc=p.2:=AU e;exact d w' (by rw[<-q'];exact hocd)
def zR{M:Fp}{A:A3}{E:AE->AH->Prop}{i:Nat}{x:AM}{v:V}{u:AE}{Q:Unit->AH->Prop}(I:Inv X π σ H s)(hN:X.N.Nodup)(hi:X.N[i]?=AA x)(hx:Loc X.env.scope x)(r:RelV v u)
  (h:∀s',Inv X π (σ.set i (AA v)) H s'->Q () s') (hf:X.fn x=AD \/ X.env.scope.names.lookup x=AA .local:=by first|exact .inl rfl|exact .inr rfl|assumption):A2 M A (storeName X.env x u) Q E s:=
 zeo I hN hi hx r (λs' I' _=>h s' I') hf
theorem Inv.call'{s':AH}{ch:List AG}(I:Inv X π σ H s)(ho:s'.os=s.os)(u:Un (frs X.stack) ch H H' s.heap s'.heap)(hok:HOk X.prog X.w H' s'.heap)(hg:Ct s'.gens)
  (hch:∀b∈ch,(b∈X.ex \/ X.s₀.heap.objs.size<=b)/\b≠X.env.locals/\(∀x c,X.env.cells.lookup x=AA c->c≠b)/\∀p∈X.pn++π,p.1≠b):Inv X π σ H' s':=by
 let⟨h',g',d',t',o'⟩:=s';have e:o'=s.os:=ho;subst e;exact I.call (g':=g') (t':=t') (d':=d') u hok hg hch
end
abbrev XK:=AE->Option AG->Hp->Prop
abbrev St:=List (Option V)
abbrev VK:=V->Hp->Prop
abbrev TE:=St->Hp->VK->Prop
abbrev TT:=St->Hp->(Bool->Hp->Prop)->Prop
abbrev TA:=St->Hp->(List V->Hp->Prop)->Prop
structure Ends where
 nx:St->Hp->Prop
 rt:VK
 bk:St->Hp->Prop:=λ_ _=>False
 ct:St->Hp->Prop:=λ_ _=>False
abbrev TS:=Ends->St->Hp->Prop
def EP(X:Cx)(π:List (AG×BV))(σ:St)(Q:VK)(u:AE)(s':AH):Prop:=∃v H',Inv X π σ H' s'/\RelV v u/\Q v H'
def TP(X:Cx)(π:List (AG×BV))(σ:St)(Q:Bool->Hp->Prop)(b:Bool)(s':AH):Prop:=∃H',Inv X π σ H' s'/\Q b H'
def AP(X:Cx)(π:List (AG×BV))(σ:St)(Q:List V->Hp->Prop)(us:List AE)(s':AH):Prop:=∃vs H',Inv X π σ H' s'/\Vals vs us/\Q vs H'
def SP(X:Cx)(π:List (AG×BV))(D:Ends)(f:Flow)(s':AH):Prop:=
 match f with
 |.next=>∃σ' H',Inv X π σ' H' s'/\D.nx σ' H'
 |.brk=>∃σ' H',Inv X π σ' H' s'/\D.bk σ' H'
 |.cont=>∃σ' H',Inv X π σ' H' s'/\D.ct σ' H'
 |.ret u=>∃v σ' H',Inv X π σ' H' s'/\RelV v u/\D.rt v H'
def PE(X:Cx)(e:AL)(t:TE):Prop:=
 ∀(π:List (AG×BV)) (s:AH) (σ:St) (H:Hp) (Q:VK),Inv X π σ H s->t σ H Q->A2 (model X.prog X.w) X.A (eval e X.env) (EP X π σ Q) X.xe s
def PT(X:Cx)(e:AL)(t:TT):Prop:=
 ∀(π:List (AG×BV)) (s:AH) (σ:St) (H:Hp) (Q:Bool->Hp->Prop),Inv X π σ H s->t σ H Q->A2 (model X.prog X.w) X.A (isTrue e X.env (eval e X.env)) (TP X π σ Q) X.xe s
def PW(X:Cx)(e:AL)(t:TT):Prop:=
 ∀(whole:FE AE) (π:List (AG×BV)) (s:AH) (σ:St) (H:Hp) (Q:Bool->Hp->Prop),Inv X π σ H s->t σ H Q->A2 (model X.prog X.w) X.A (isTrue e X.env whole) (TP X π σ Q) X.xe s
theorem PW.pt{X:Cx}{e:AL}{t:TT}(h:PW X e t):PT X e t:=h _
def PA(X:Cx)(es:List AL)(t:TA):Prop:=
 ∀(pos:BZ) (π:List (AG×BV)) (s:AH) (σ:St) (H:Hp) (Q:List V->Hp->Prop),Inv X π σ H s->t σ H Q->A2 (model X.prog X.w) X.A (spliced (backTo pos (starEach es X.env))) (AP X π σ Q) X.xe s
def PS(X:Cx)(st:B7)(t:TS):Prop:=
 ∀(π:List (AG×BV)) (s:AH) (σ:St) (H:Hp) (D:Ends),Inv X π σ H s->t D σ H->A2 (model X.prog X.w) X.A (exec st X.env) (SP X π D) X.xe s
def PSs(X:Cx)(st:List B7)(t:TS):Prop:=
 ∀(π:List (AG×BV)) (s:AH) (σ:St) (H:Hp) (D:Ends),Inv X π σ H s->t D σ H->A2 (model X.prog X.w) X.A (execs st X.env) (SP X π D) X.xe s
theorem thn{α:Type}{t:FE α}{Q Q':α->AH->Prop}{M:Fp}{A:A3}{E:AE->AH->Prop}{s:AH}(h:A2 M A t Q E s)(hQ:∀a s,Q a s->Q' a s):A2 M A t Q' E s:=BA h hQ λ_ _ x=>x
section
variable {X:Cx}
def ygg(i:Nat):TE:=λσ H Q=>∃v,σ[i]?=AA (AA v)/\Q v H
def tC(v:V):TE:=λ_ H Q=>Q v H
def zgv{i:Nat}{x:AM}{pos:BZ}(hN:X.N[i]?=AA x)(hv:Vis X.env.scope x)(hd:(x==("__debug__":AM))=false:=by decide)(hcd:(x==("__classdict__":AM))=false:=by decide):PE X (.Name x pos) (ygg i):=by
 intro π s σ H Q I h;let⟨v,e,h⟩:=h;let⟨m,hn,hl⟩:=I.loc;let⟨u,r,l⟩:=hl i x v hN e hv;have fin:EP X π σ Q u s:=⟨v,H,I,r,h⟩;rcases l with⟨hk,hm⟩|⟨hk,c,hc,hcell⟩
 .exact F2 (EI I.ok.kind hk hn hm fin) hd
 .rcases hk with hk|hk
  .exact F2 (ET I.ok.kind hk hc hcell fin) hd
  .exact F2 (wpAny_loadName_free I.ok.kind hk hc hcell fin hcd) hd
def zkU{i j pos}:PE X (.Constant (.int i) j pos) (tC (.int i)):=λ_ _ _ H _ I h=>wpAny_Constant_int ⟨.int i,H,I.tok _,⟨_,rfl⟩,h⟩
def zkV{b j pos}:PE X (.Constant (.bool b) j pos) (tC (.bl b)):=λ_ _ _ H _ I h=>Constant_bool ⟨.bl b,H,I,rfl,h⟩
def zkW{j pos}:PE X (.Constant .none j pos) (tC .non):=λ_ _ _ H _ I h=>Constant_none ⟨.non,H,I,rfl,h⟩
def zkI{x j pos}:PE X (.Constant (.str x) j pos) (tC (.str x)):=λ_ _ _ H _ I h=>Calls.Constant_str ⟨.str x,H,I.tok _,⟨_,rfl⟩,h⟩
def Gl(X:Cx)(x:AM):Prop:=X.env.kindOf x=AA .globalImplicit
def zaA{E:AE->AH->Prop}{π:List (AG×BV)}{s:AH}{σ:St}{H:Hp}{x:AM}{u:AE}{pos:BZ}{Q:AE->AH->Prop}(I:Inv X π σ H s)(hg:Gl X x)(hm:X.mg x=AA u)(h:Q u s)
  (hd:(x==("__debug__":AM))=false:=by decide):A2 (model X.prog X.w) X.A (eval (.Name x pos) X.env) Q E s:=
 DP I.ok.kind hg (Calls.loadGlobal_global (by rw[I.ok.glob];exact I.mod.glob.keeps I.bk) hm h) hd
def zbI{E:AE->AH->Prop}{π:List (AG×BV)}{s:AH}{σ:St}{H:Hp}{x:AM}{u:AE}{pos:BZ}{Q:AE->AH->Prop}(I:Inv X π σ H s)(hg:Gl X x)(hm:X.mg x=AB)(hv:bootBuiltins x=AA u)(h:Q u s)
  (hn:x ≠ "__name__":=by decide) (hd:(x==("__debug__":AM))=false:=by decide):A2 (model X.prog X.w) X.A (eval (.Name x pos) X.env) Q E s:=by
 let⟨mb,h1,h2⟩:=I.mod.blt;exact DP I.ok.kind hg (Calls.loadGlobal_builtin (by rw[I.ok.glob];exact I.mod.glob.keeps I.bk) hm (by rw[I.ok.blt];exact h1.keeps I.bk) ((h2 x hn).trans hv) h) hd
def zck{x:AM}{v:V}{u:AE}{pos:BZ}(hg:Gl X x)(hm:X.mg x=AA u)(r:RelV v u)(hd:(x==("__debug__":AM))=false:=by decide):PE X (.Name x pos) (tC v):=
 λ_ _ _ H _ I h=>zaA I hg hm ⟨v,H,I,r,h⟩ hd
def zg6{x:AM}{v:V}{u:AE}{pos:BZ}(hg:Gl X x)(hm:X.mg x=AB)(hv:bootBuiltins x=AA u)(r:RelV v u)(hn:x ≠ "__name__":=by decide)(hd:(x==("__debug__":AM))=false:=by decide):PE X (.Name x pos) (tC v):=
 λ_ _ _ H _ I h=>zbI I hg hm hv ⟨v,H,I,r,h⟩ hn hd
variable {a b:AL}{ta tb:TE}{pos:BZ}
variable {tA tB':TT}{rest:List AL}
def yfE(t u:TT):TT:=λσ H Q=>t σ H λc H1=>if c=AD then u σ H1 Q else Q AF H1
def tOr(t u:TT):TT:=λσ H Q=>t σ H λc H1=>if c=AD then Q AD H1 else u σ H1 Q
def yfv(t:TT):TT:=λσ H Q=>t σ H λc H1=>Q (!c) H1
def zg2(ha:PT X a tA):PW X (.BoolOp .And [a] pos) tA:=by
 intro wh π s σ H Q I h;refine isTrue_and (thn (ha π s σ H Q I h) λc s1 e=>?_)
 cases c with
 |true=>exact isTrue_and_nil e
 |false=>exact e
def zjQ(ha:PT X a tA):PW X (.BoolOp .Or [a] pos) tA:=by
 intro wh π s σ H Q I h;refine isTrue_or (thn (ha π s σ H Q I h) λc s1 e=>?_)
 cases c with
 |false=>exact isTrue_or_nil e
 |true=>exact e
def zjc(ha:PT X a tA)(hb:PW X (.BoolOp .And (b::rest) pos) tB'):PW X (.BoolOp .And (a::b::rest) pos) (yfE tA tB'):=by
 intro wh π s σ H Q I h;refine isTrue_and (thn (ha π s σ H _ I h) λc s1 kq=>?_);let⟨H1,I1,q1⟩:=kq
 cases c with
 |true=>exact hb wh π s1 σ H1 Q I1 q1
 |false=>exact⟨H1,I1,q1⟩
def zky(ha:PT X a tA)(hb:PW X (.BoolOp .Or (b::rest) pos) tB'):PW X (.BoolOp .Or (a::b::rest) pos) (tOr tA tB'):=by
 intro wh π s σ H Q I h;refine isTrue_or (thn (ha π s σ H _ I h) λc s1 kq=>?_);let⟨H1,I1,q1⟩:=kq
 cases c with
 |true=>exact⟨H1,I1,q1⟩
 |false=>exact hb wh π s1 σ H1 Q I1 q1
def zjK(ha:PT X a tA):PT X (.UnaryOp .Not a pos) (yfv tA):=by
 intro π s σ H Q I h;exact isTrue_not (ha π s σ H (λc H1=>Q (!c) H1) I h)
def yd4(ta tb:TE):TE:=λσ H Q=>ta σ H λx H1=>∃c,x=.bl c/\if c=AD then tb σ H1 Q else Q (.bl AF) H1
def ygn(ta tb:TE):TE:=λσ H Q=>ta σ H λx H1=>∃c,x=.bl c/\if c=AD then Q (.bl AD) H1 else tb σ H1 Q
def ydV(ta:TE):TE:=λσ H Q=>ta σ H λx H1=>∃c,x=.bl c/\Q (.bl (!c)) H1
def zjp{op}{t:TE}(h:PE X a t):PE X (.BoolOp op [a] pos) t:=λπ s σ H Q I hw=>BoolOp_one (h π s σ H Q I hw)
def zjC(ha:PE X a ta)(hb:PE X (.BoolOp .And (b::rest) pos) tb):PE X (.BoolOp .And (a::b::rest) pos) (yd4 ta tb):=by
 intro π s σ H Q I h;refine BoolOp_and (thn (ha π s σ H _ I h) λv s1 kq=>?_);let⟨x,H1,I1,r1,q1⟩:=kq;let⟨c,rfl,q1⟩:=q1
 cases r1
 refine BM ?_
 cases c with
 |true=>exact hb π s1 σ H1 Q I1 q1
 |false=>exact⟨.bl AF,H1,I1,rfl,q1⟩
def zj9(ha:PE X a ta)(hb:PE X (.BoolOp .Or (b::rest) pos) tb):PE X (.BoolOp .Or (a::b::rest) pos) (ygn ta tb):=by
 intro π s σ H Q I h;refine BoolOp_or (thn (ha π s σ H _ I h) λv s1 kq=>?_);let⟨x,H1,I1,r1,q1⟩:=kq;let⟨c,rfl,q1⟩:=q1
 cases r1
 refine BM ?_
 cases c with
 |false=>exact hb π s1 σ H1 Q I1 q1
 |true=>exact⟨.bl AD,H1,I1,rfl,q1⟩
def ziv(ha:PE X a ta):PE X (.UnaryOp .Not a pos) (ydV ta):=by
 intro π s σ H Q I h;refine UnaryOp_ (thn (ha π s σ H _ I h) λv s1 kq=>?_);let⟨x,H1,I1,r1,q1⟩:=kq;let⟨c,rfl,q1⟩:=q1
 cases r1
 exact not_of (BM ⟨.bl (!c),H1,I1,rfl,q1⟩)
def tIf(t:TT)(ta tb:TE):TE:=λσ H Q=>t σ H λc H1=>if c=AD then ta σ H1 Q else tb σ H1 Q
def zfa{c:AL}(hc:PT X c tA)(ha:PE X a ta)(hb:PE X b tb):PE X (.IfExp c a b pos) (tIf tA ta tb):=by
 intro π s σ H Q I h;refine wpAny_IfExp (thn (hc π s σ H _ I h) λd s1 kq=>?_);let⟨H1,I1,q1⟩:=kq
 cases d with
 |true=>exact ha π s1 σ H1 Q I1 q1
 |false=>exact hb π s1 σ H1 Q I1 q1
end
def SqL(K:AC)(H:Hp)(a:AG)(xs:List V):Prop:=
 Rd H a (.lst xs) \/
  ∃(o:BV) (its:Array AE) (n:Nat),K.lookup a=AA o/\o.cls=.type "list"/\o.dict=AB/\o.data=.seq its n/\its.size<=sizeLine/\Vals xs its.toList
def SqT(K:AC)(H:Hp)(a:AG)(xs:List V):Prop:=
 Rd H a (.tup xs) \/
  ∃(o:BV) (its:Array AE) (n:Nat),K.lookup a=AA o/\o.cls=.type "tuple"/\o.data=.seq its n/\its.size<=sizeLine/\Vals xs its.toList
def yeO:AE->Option V
 |.none=>AA .non
 |.bool b=>AA (.bl b)
 |.int i _=>AA (.int i)
 |.str x _=>AA (.str x)
 |.bytes b _=>AA (.byt b)
 |.float b _=>AA (.flt b)
 |.ref a=>AA (.ref a)
 |.type n=>AA (.ty n)
 |_=>AB
theorem RelV.abs{x:V}{u:AE}(r:RelV x u):yeO u=AA x:=by
 cases x with
 |non=>cases r;rfl
 |bl _=>cases r;rfl
 |int _=>let⟨t,rfl⟩:=r;rfl
 |str _=>let⟨t,rfl⟩:=r;rfl
 |byt _=>let⟨t,rfl⟩:=r;rfl
 |flt _=>let⟨t,rfl⟩:=r;rfl
 |ref _=>cases r;rfl
 |ty _=>cases r;rfl
theorem RelV.inj{x y:V}{u:AE}(r:RelV x u)(q:RelV y u):x=y:=AU (r.abs.symm.trans q.abs)
theorem Vals.inj:∀{xs ys:List V} {us:List AE},Vals xs us->Vals ys us->xs=ys
 |_,_,_,.nil,.nil=>rfl
 |_,_,_,.cons r t,.cons r' t'=>by rw[r.inj r',Vals.inj t t']
section
variable {X:Cx}{π:List (AG×BV)}{σ:St}{H:Hp}{s:AH}{a:AG}{xs ys:List V}
theorem SqL.of{K:AC}(h:H a=AA (.lst xs)):SqL K H a xs:=.inl (.inl h)
theorem Inv.list(I:Inv X π σ H s)(h:SqL X.K H a xs):∃its:List AE,Vals xs its/\PlainL s.heap a its.toArray/\xs.length<=sizeLine:=by
 rcases h with h|⟨o,its,n,hk,hc,hd,hs,hz,r⟩
 .let⟨z,its,n,r,e⟩:=h.ok I.hok;exact⟨its,r,⟨_,n,e,rfl,rfl,rfl⟩,z⟩
 .refine⟨its.toList,r,⟨o,n,I.kIn a o hk,hc,hd,by simpa using hs⟩,?_⟩;have e:=r.length;erw[DE]at e;lia
theorem Inv.tuple(I:Inv X π σ H s)(h:SqT X.K H a xs):∃its:List AE,Vals xs its/\IsTup s.heap a its.toArray/\xs.length<=sizeLine:=by
 rcases h with h|⟨o,its,n,hk,hc,hs,hz,r⟩
 .let⟨z,its,r,p⟩:=h.ok I.hok;exact⟨its,r,⟨_,p,rfl,_,rfl⟩,z⟩
 .refine⟨its.toList,r,⟨o,I.kIn a o hk,hc,n,by simpa using hs⟩,?_⟩;have e:=r.length;erw[DE]at e;lia
theorem Inv.list_inj(I:Inv X π σ H s)(h:SqL X.K H a xs)(h':SqL X.K H a ys):xs=ys:=by
 let⟨its,r,⟨o,n,e,_,_,d⟩,_⟩:=I.list h;let⟨its',r',⟨o',n',e',_,_,d'⟩,_⟩:=I.list h';rw[e]at e';cases e';rw[d]at d';injection d' with d1 _;have:its=its':=by simpa using congrArg Eg d1
 subst this;exact r.inj r'
theorem Inv.tuple_inj(I:Inv X π σ H s)(h:SqT X.K H a xs)(h':SqT X.K H a ys):xs=ys:=by
 let⟨its,r,⟨o,e,_,n,d⟩,_⟩:=I.tuple h;let⟨its',r',⟨o',e',_,n',d'⟩,_⟩:=I.tuple h';rw[e]at e';cases e';rw[d]at d';injection d' with d1 _;have:its=its':=by simpa using congrArg Eg d1
 subst this;exact r.inj r'
end
section
variable {X:Cx}{π:List (AG×BV)}{σ:St}{H:Hp}{s:AH}{E:AE->AH->Prop}
end
section
variable {X:Cx}{st:B7}{rest:List B7}{t u:TS}{e:AL}{te:TE}{pos:BZ}
def yd2:TS:=λD σ H=>D.nx σ H
def yfA(t u:TS):TS:=λD σ H=>t {D with nx:=u D} σ H
def zkX:PSs X [] yd2:=λ_ _ σ H _ I h=>Cz ⟨σ,H,I,h⟩
def zcN(h1:PS X st t)(h2:PSs X rest u):PSs X (st::rest) (yfA t u):=by
 intro π s σ H D I h;refine FH (thn (h1 π s σ H {D with nx:=u D} I h) λf s1 q=>?_)
 cases f with
 |next=>
  let⟨σ',H',I',q⟩:=q;exact h2 π s1 σ' H' D I' q
 |ret v=>exact q
 |brk=>exact q
 |cont=>exact q
def zg4(h1:PS X st t):PSs X [st] t:=by
 intro π s σ H D I h;refine FH (thn (h1 π s σ H D I h) λf s1 q=>?_)
 cases f with
 |next=>exact Cz q
 |ret v=>exact q
 |brk=>exact q
 |cont=>exact q
theorem Inv.quiet{π:List (AG×BV)}{σ:St}{H:Hp}{s:AH}(I:Inv X π σ H s):interactive X.env=false:=by simp[interactive,I.ok.kind]
def ydB(te:TE):TS:=λD σ H=>te σ H λ_ H1=>D.nx σ H1
def zh1(he:PE X e te)(hs:swapsWith e AB pos.line X.env=pure false:=by rfl):PS X (.Expr e pos) (ydB te):=by
 intro π s σ H D I h;exact wpAny_Expr_any (thn (he π s σ H _ I h) λv s1 ⟨x,H1,I1,r1,q1⟩=>⟨σ,H1,I1,q1⟩) I.quiet hs
def yfh(te:TE):TS:=λD σ H=>te σ H D.rt
def zgI(he:PE X e te):PS X (.Return (AA e) pos) (yfh te):=by
 intro π s σ H D I h;exact wpAny_Return_some (thn (he π s σ H _ I h) λv s1 ⟨x,H1,I1,r1,q1⟩=>⟨x,σ,H1,I1,r1,q1⟩)
def ydC:TS:=λD _ H=>D.rt .non H
def zkY:PS X (.Return AB pos) ydC:=λ_ _ σ H _ I h=>wpAny_Return_none ⟨.non,σ,H,I,rfl,h⟩
def yfg(c:TT)(t u:TS):TS:=λD σ H=>c σ H λb H1=>if b=AD then t D σ H1 else u D σ H1
def zks{c:AL}{a b:List B7}{tc:TT}(hc:PT X c tc)(ha:PSs X a t)(hb:PSs X b u):PS X (.If c a b pos) (yfg tc t u):=by
 intro π s σ H D I h;refine wpAny_If (thn (hc π s σ H _ I h) λd s1 kq=>?_);let⟨H1,I1,q1⟩:=kq
 cases d with
 |true=>exact ha π s1 σ H1 D I1 q1
 |false=>exact hb π s1 σ H1 D I1 q1
end
abbrev TG:=V->St->Hp->(St->Hp->Prop)->Prop
abbrev TGs:=List V->St->Hp->(St->Hp->Prop)->Prop
def PG(X:Cx)(target:AL)(t:TG):Prop:=
 ∀(π:List (AG×BV)) (s:AH) (σ:St) (H:Hp) (v:V) (u:AE) (Q:St->Hp->Prop),Inv X π σ H s->RelV v u->t v σ H Q ->
  A2 (model X.prog X.w) X.A (assign target X.env u) (λ_ s'=>∃σ' H',Inv X π σ' H' s'/\Q σ' H') X.xe s
def PGs(X:Cx)(ts:List AL)(t:TGs):Prop:=
 ∀(π:List (AG×BV)) (s:AH) (σ:St) (H:Hp) (vs:List V) (us:List AE) (Q:St->Hp->Prop),Inv X π σ H s->Vals vs us->t vs σ H Q ->
  A2 (model X.prog X.w) X.A (assignInOrder ((assignEach ts X.env).map (·.2)) us) (λ_ s'=>∃σ' H',Inv X π σ' H' s'/\Q σ' H') X.xe s
abbrev ydn:=V->V->V->Hp->(Hp->Prop)->Prop
def yeh(X:Cx)(t:ydn):Prop:=
 ∀(π:List (AG×BV)) (s:AH) (σ:St) (H:Hp) (o i v:V) (ov iv u:AE) (Q:Hp->Prop),Inv X π σ H s->RelV o ov->RelV i iv->RelV v u->t o i v H Q ->
  A2 (model X.prog X.w) X.A (setItem ov iv u) (λ_ s'=>∃H',Inv X π σ H' s'/\Q H') X.xe s
abbrev TIp:=V->V->Hp->VK->Prop
def PIp(X:Cx)(op:De)(t:TIp):Prop:=
 ∀(π:List (AG×BV)) (s:AH) (σ:St) (H:Hp) (x y:V) (v u:AE) (Q:VK),Inv X π σ H s->RelV x v->RelV y u->t x y H Q ->
  A2 (model X.prog X.w) X.A (inplaceOp op v u) (EP X π σ Q) X.xe s
section
variable {X:Cx}{pos:BZ}
def ybB(i:Nat):TG:=λv σ H Q=>Q (σ.set i (AA v)) H
def zef{i:Nat}{x:AM}(hN:X.N.Nodup)(hi:X.N[i]?=AA x)(hx:Loc X.env.scope x)(hf:X.fn x=AD \/ X.env.scope.names.lookup x=AA .local:=by first|exact .inl rfl|exact .inr rfl|assumption):PG X (.Name x pos) (ybB i):=by
 intro π s σ H v u Q I r h;exact Ei (zR I hN hi hx r (λs' I'=>⟨_,H,I',h⟩) hf)
def yf4:TGs:=λvs σ H Q=>vs=[]/\Q σ H
def ydi(t:TG)(u:TGs):TGs:=λvs σ H Q=>∃v r,vs=v::r/\t v σ H λσ' H'=>u r σ' H' Q
def zkZ:PGs X [] yf4:=by
 intro π s σ H vs us Q I r h;let⟨e,h⟩:=h;subst e
 cases r
 exact Ej ⟨σ,H,I,h⟩
def zfN{e:AL}{es:List AL}{t:TG}{u:TGs}(h1:PG X e t)(h2:PGs X es u)
  (hs:(assignEach (e::es) X.env).map (·.2)=assign e X.env::(assignEach es X.env).map (·.2):=by rfl):PGs X (e::es) (ydi t u):=by
 intro π s σ H vs us Q I r h;let⟨v,vr,e1,h⟩:=h;subst e1
 cases r with
 |cons r rr=>
  rw[hs];refine DQ (thn (h1 π s σ H _ _ _ I r h) λ_ s1 kq=>?_);let⟨σ1,H1,I1,q1⟩:=kq;exact h2 π s1 σ1 H1 _ _ Q I1 rr q1
def yfT(K:AC)(n:Nat)(t:TGs):TG:=λv σ H Q=>∃a xs,v=.ref a/\SqT K H a xs/\xs.length=n/\t xs σ H Q
def zjP{es:List AL}{k:Nat}{t:TGs}{n:Nat}(hc:X.calm=AD)(h:PGs X es t)
  (hn:(assignEach es X.env).length=n:=by rfl) (hst:(assignEach es X.env).findIdx? (·.1)=none:=by rfl):PG X (.Tuple es k pos) (yfT X.K n t):=by
 intro π s σ H v u Q I r hw;let⟨a,xs,e1,hq,hl,hw⟩:=hw;subst e1
 cases r
 let⟨its,rv,ht,hz⟩:=I.tuple hq;refine assign_Tuple_tuple (I.ok.hd hc) ht (by simp[hn,<-hl,rv.length]) hst λh' hx=>?_;have I1:Inv X π σ H {s with heap:=h'}:=I.kept (t':=s.toks) λb o e=>hx b o (Ab (AT e)) e;exact h π _ σ H xs _ Q I1 (by simpa using rv) hw
def yeJ(to ti:TE)(t:ydn):TG:=λv σ H Q=>to σ H λo H1=>ti σ H1 λi H2=>t o i v H2 λH3=>Q σ H3
def zgn{o i:AL}{to ti:TE}{t:ydn}(ho:PE X o to)(hi:PE X i ti)(hs:yeh X t)
  (ha:∀v,assign (.Subscript o i pos) X.env v=(do
   let ov <-holding [v] (eval o X.env)
   let iv <-holding [v,ov] (eval i X.env)
   standAt pos
   holding [v,ov,iv] (setItem ov iv v)
   release [v,ov,iv] []):=by intro _;rfl):PG X (.Subscript o i pos) (yeJ to ti t):=by
 intro π s σ H v u Q I r h;rw[ha];refine AJ (Bp (thn (ho π s σ H _ I h) λov s1 kq=>?_));let⟨x,H1,I1,r1,q1⟩:=kq;refine AJ (Bp (thn (hi π s1 σ H1 _ I1 q1) λiv s2 kq=>?_));let⟨y,H2,I2,r2,q2⟩:=kq;refine AJ (BW (AJ (Bp (thn (hs π s2 σ H2 x y v ov iv u _ I2 r1 r2 r q2) λ_ s3 kq=>?_))));let⟨H3,I3,q3⟩:=kq;exact wpAny_release ⟨σ,H3,I3,q3⟩
def yd1(te:TE)(g:TG):TS:=λD σ H=>te σ H λx H1=>g x σ H1 D.nx
def zgx{tg e:AL}{te:TE}{g:TG}(he:PE X e te)(hg:PG X tg g)(hs:swapsWithSole [tg] e pos.line X.env=pure false:=by rfl)(hw:swappedStores [tg] e X.env=pure none:=by rfl)
  (h1:(assignEach [tg] X.env).map (·.2)=[assign tg X.env]:=by rfl):PS X (.Assign [tg] e pos) (yd1 te g):=by
 intro π s σ H D I h;refine wpAny_Assign_stores (thn (he π s σ H _ I h) λv s1 kq=>?_) hs hw;let⟨x,H1,I1,r1,q1⟩:=kq;rw[h1];exact thn (hg π s1 σ H1 x v _ I1 r1 q1) λ_ s2 q=>q
def zgB{i:Nat}{x:AM}{e:AL}{te:TE}{pos':BZ}(hN:X.N.Nodup)(hi:X.N[i]?=AA x)(hx:Loc X.env.scope x)(he:PE X e te)(hs:swapsWith e (AA (.Name x pos')) pos.line X.env=pure false:=by rfl)(hf:X.fn x=AD \/ X.env.scope.names.lookup x=AA .local:=by first|exact .inl rfl|exact .inr rfl|assumption):
  PS X (.Assign [.Name x pos'] e pos) (yd1 te (ybB i)):=by
 intro π s σ H D I h;refine wpAny_Assign_Name (thn (he π s σ H _ I h) λv s1 kq=>?_) hs;let⟨y,H1,I1,r1,q1⟩:=kq;exact zR I1 hN hi hx r1 (λs2 I2=>⟨_,H1,I2,q1⟩) hf
def yeH(i j:Nat)(ta:TA):TS:=λD σ H=>ta σ H λvs H1=>∃v w,vs=[v,w]/\D.nx ((σ.set i (AA v)).set j (AA w)) H1
def zjw{i j:Nat}{x y:AM}{a b:AL}{ta:TA}{px py pt:BZ}{kt k2 pt2}(hc:X.calm=AD)(hN:X.N.Nodup)(hi:X.N[i]?=AA x)(hj:X.N[j]?=AA y)(hij:i≠j)
  (hx:X.env.scope.names.lookup x=AA .local) (hy:X.env.scope.names.lookup y=AA .local) (ha:PA X [a,b] ta)
  (hw:swappedStores [.Tuple [.Name x px,.Name y py] kt pt] (.Tuple [a,b] k2 pt2) X.env=pure (AA [x,y]))
  (hs:swapsWithSole [.Tuple [.Name x px,.Name y py] kt pt] (.Tuple [a,b] k2 pt2) pos.line X.env=pure false:=by rfl):
  PS X (.Assign [.Tuple [.Name x px,.Name y py] kt pt] (.Tuple [a,b] k2 pt2) pos) (yeH i j ta):=by
 intro π s σ H D I h;rw[exec_Assign_arm];refine AJ (BW ?_);rw[hs];refine AJ (AO ?_);rw[if_neg ⋯];refine AJ (Tuple_ (thn (ha _ π s σ H _ I h) λus s1 kq=>?_));let⟨vs,H1,I1,r1,q1⟩:=kq;let⟨v,w,e1,q1⟩:=q1;subst e1;obtain⟨u1,u2,rfl,rv,rw'⟩:∃u1 u2,us=[u1,u2]/\RelV v u1/\RelV w u2:=by
  cases r1 with
  |cons p q=>
   cases q with
   |cons p' q'=>
    cases q'
    exact⟨_,_,rfl,p,p'⟩
 refine BC ?_ (by show 2<=sizeLine;decide);have I2:Inv X π σ H1 {s1 with heap:=s1.heap.push {cls:=.type "tuple",data:=.seq [u1,u2].toArray} }:=I1.kept (t':=s1.toks) λb o e=>AR _ e;rw[hw];refine AJ (AO ?_);show A2 (model X.prog X.w) X.A (do rule "assign.swapped-stores";let items <-unpackItems (.ref s1.heap.objs.size) 2 AB;assignInOrder [λv=>bindName X.env y v,λv=>bindName X.env x v] items.reverse;pure Fq) _ _ _;refine AJ (Do (AJ (unpackItems_tuple (items:=#[u1,u2]) (I.ok.hd hc) (IsTup.new s1.heap _) λh' hx'=>?_)));have I3:=I2.kept (h':=h') (t':=s1.toks) λb o e=>hx' b o (Ab (AT e)) e;show A2 _ _ (assignInOrder [λv=>bindName X.env y v,λv=>bindName X.env x v] [u2,u1] >>= λ_=>pure Fq) _ _ _;refine AJ (DQ (wpAny_bindName (zR I3 hN hj (.inl hy) rw' (λs2 I4=>?_) (.inr hy))));refine DQ (wpAny_bindName (zR I4 hN hi (.inl hx) rv (λs3 I5=>Ej (AO ?_)) (.inr hx)));rw[List.set_comm _ _ (Bl hij)]at I5;exact⟨_,H1,I5,q1⟩
def yfI(i:Nat)(te:TE)(ti:TIp):TS:=λD σ H=>∃x,σ[i]?=AA (AA x)/\te σ H λy H1=>ti x y H1 λz H2=>D.nx (σ.set i (AA z)) H2
def zju{i:Nat}{x:AM}{e:AL}{te:TE}{op:De}{ti:TIp}{pos':BZ}(hN:X.N.Nodup)(hi:X.N[i]?=AA x)(hx:Loc X.env.scope x)(he:PE X e te)(ho:PIp X op ti)(hf:X.fn x=AD \/ X.env.scope.names.lookup x=AA .local:=by first|exact .inl rfl|exact .inr rfl|assumption):
  PS X (.AugAssign (.Name x pos') op e pos) (yfI i te ti):=by
 intro π s σ H D I h;let⟨v,e1,h⟩:=h;let⟨m,hn,hl⟩:=I.loc;have vis:Vis X.env.scope x:=by rcases hx with k|k;exact .inl k;exact .inr (.inl k)
 let⟨u,r,l⟩:=hl i x v hi e1 vis;refine wpAny_AugAssign_Name ?_;have go:A2 (model X.prog X.w) X.A (eval e X.env) (λw s₂=>A2 (model X.prog X.w) X.A (inplaceOp op u w) (λr s₃=>A2 (model X.prog X.w) X.A (storeName X.env x r) (λ_=>SP X π D .next) X.xe s₃) X.xe s₂) X.xe s:=by
  refine thn (he π s σ H _ I h) λw s1 kq=>?_;let⟨y,H1,I1,r1,q1⟩:=kq;refine thn (ho π s1 σ H1 v y u w _ I1 r r1 q1) λz s2 kq=>?_;let⟨zv,H2,I2,r2,q2⟩:=kq;exact zR I2 hN hi hx r2 (λs3 I3=>⟨_,H2,I3,q2⟩) hf
 rcases l with⟨hk,hm⟩|⟨hk,c,hc,hcell⟩
 .exact EI I.ok.kind hk hn hm go
 .rcases hk with hk|hk
  .exact ET I.ok.kind hk hc hcell go
  .rcases hx with k|k
   .have:X.env.scope.names.lookup x=AA .free:=hk;rw[k]at this;cases this
   .have:X.env.scope.names.lookup x=AA .free:=hk;rw[k]at this;cases this
def ipI(f:Int->Int->Int):TIp:=λx y H Q=>∃i j,x=.int i/\y=.int j/\Q (.int (f i j)) H
def ziw:PIp X .Add (ipI λi j=>i+j):=by
 intro π s σ H x y v u Q I r1 r2 h;let⟨i,j,e1,e2,q⟩:=h;subst e1;subst e2;let⟨t,rfl⟩:=r1;let⟨t',rfl⟩:=r2;exact iadd_int ⟨.int _,H,I.tok _,⟨_,rfl⟩,q⟩
end
section
variable {X:Cx}{pos:BZ}
def ycy(c:TT)(tb:TS):TS:=λD σ H=>∃W:Nat->St->Hp->Prop,(∃m,W m σ H)/\∀m σ H,W m σ H ->
 c σ H λb H1=>if b=AD then ∃N:St->Hp->Prop,(∀σ' H',N σ' H'->∃m',m' < m/\W m' σ' H')/\tb {D with nx:=N,ct:=N,bk:=D.nx} σ H1 else D.nx σ H1
def zfC{c:AL}{body:List B7}{tc:TT}{tb:TS}(hp:DL (model X.prog X.w) X.A X.env X.xe)(hc:PT X c tc)(hb:PSs X body tb):PS X (.While c body [] pos) (ycy tc tb):=by
 intro π s σ H D I h;let⟨W,⟨m0,w0⟩,turn⟩:=h;refine wpAny_While (codeAny_whileLoop (λn s'=>∃σ' H',Inv X π σ' H' s'/\W n σ' H') ?_ m0 ⟨σ,H,I,w0⟩)
 rintro n s1 ⟨σ1,H1,I1,w1⟩
 refine Bi hp (thn (hc π s1 σ1 H1 _ I1 (turn n σ1 H1 w1)) λb s2 kq=>?_);let⟨H2,I2,q2⟩:=kq
 cases b with
 |true=>
  let⟨N,hN,q2⟩:=q2;rw[if_pos rfl];refine Bi hp (thn (hb π s2 σ1 H2 _ I2 q2) λf s3 q3=>?_)
  cases f with
  |next=>
   let⟨σ3,H3,I3,n3⟩:=q3;let⟨m',hm,w3⟩:=hN σ3 H3 n3;exact⟨m',hm,σ3,H3,I3,w3⟩
  |cont=>
   let⟨σ3,H3,I3,n3⟩:=q3;let⟨m',hm,w3⟩:=hN σ3 H3 n3;exact⟨m',hm,σ3,H3,I3,w3⟩
  |brk=>exact q3
  |ret v=>exact q3
 |false=>
  rw[if_neg AW];exact Cz ⟨σ1,H2,I2,q2⟩
end
structure It where
 go:Nat->Hp->Prop
 yld:Nat->Hp->V->Hp->Prop
 stop:Nat->Hp->Prop
def yam(X:Cx)(π:List (AG×BV))(H:Hp)(b:AG):Prop:=
 H b=AB/\b≠X.env.locals/\b∉X.fs/\(b∈X.ex \/ X.s₀.heap.objs.size<=b)/\(∀x c,X.env.cells.lookup x=AA c->c≠b)/\∀p∈X.pn++π,p.1≠b
theorem Inv.fpOk{X:Cx}{π:List (AG×BV)}{σ:St}{H H':Hp}{s:AH}{b:AG}(I:Inv X π σ H s)(hb:s.heap.objs.size<=b)(hn:H' b=AB):yam X π H' b:=by
 refine⟨hn,Dp (AY I.lt hb),I.nofs hb,.inr (BB I.sz hb),λx c e z=>?_,λp hp z=>?_⟩
 .let⟨v,q⟩:=I.cell x c e;exact absurd (AY q.lt (by rw[z];exact hb)) (B8 _)
 .exact absurd (AY (AT (I.pin p hp).1) (by rw[z];exact hb)) (B8 _)
structure Turn(P:AZ)(w:A8)(K:AC)(tg:AL)(J:It)(fp:List AG)(it:AG)(tn:Nat->Ak->Prop):Prop where
 mem:it∈fp
 obj:∀i h,tn i h->∀b∈fp,∃o,h.get? b=AA o/\∀v,o.data ≠ .cell v
 keep:∀i h h',tn i h->(∀b∈fp,∀o,h.get? b=AA o->h'.get? b=AA o)->tn i h'
 item:∀(X:Cx),X.prog=P->X.w=w->X.K=K->X.calm=AD->∀(i:Nat) (π:List (AG×BV)) (s:AH) (σ:St) (H:Hp) (E:AE->AH->Prop),Inv X π σ H s->(∀b∈fp,yam X π H b)->tn i s.heap->J.go i H ->
  A2 (model P w) X.A (pyNext (.ref it)) (λr s1=>∃u,r=AA u /\
   A2 (model P w) X.A (letOwnedTupleGo tg (.ref it) u) (λ_ s2=>∃x H',Inv X π σ H' s2/\RelV x u/\J.yld i H x H'/\tn (i+1) s2.heap/\∀b∈fp,H' b=AB) E s1) E s
 done:∀(X:Cx),X.prog=P->X.w=w->X.K=K->X.calm=AD->∀(i:Nat) (π:List (AG×BV)) (s:AH) (σ:St) (H:Hp) (E:AE->AH->Prop),Inv X π σ H s->(∀b∈fp,yam X π H b)->tn i s.heap->J.stop i H ->
  A2 (model P w) X.A (pyNext (.ref it)) (λr s1=>r=AB/\Inv X π σ H s1) E s
 self:∀(A:A3) (i:Nat) (s:AH) (Q:AE->AH->Prop) (E:AE->AH->Prop),tn i s.heap->Q (.ref it) s->A2 (model P w) A (pyIter (.ref it)) Q E s
abbrev TI:=St->Hp->(It->Hp->Prop)->Prop
def PIE(X:Cx)(π:List (AG×BV))(σ:St)(tg:AL)(R:It->Hp->Prop)(itv:AE)(s2:AH):Prop:=
 ∃(it:AG) (fp:List AG) (tn:Nat->Ak->Prop) (J:It) (H':Hp),itv=.ref it/\Inv X π σ H' s2/\Turn X.prog X.w X.K tg J fp it tn/\tn 0 s2.heap/\(∀b∈fp,yam X π H' b)/\R J H'
def PI(X:Cx)(tg iter:AL)(wi:TI):Prop:=
 ∀(π:List (AG×BV)) (s:AH) (σ:St) (H:Hp) (R:It->Hp->Prop),Inv X π σ H s->wi σ H R ->
  A2 (model X.prog X.w) X.A (eval iter X.env) (λv s1=>A2 (model X.prog X.w) X.A (pyIter v) (PIE X π σ tg R) X.xe s1) X.xe s
def zhm{M:Fp}{A:A3}{E:AE->AH->Prop}{s:AH}{tg:AL}{it:AG}{u:AE}{o:BV}{n:String}{vs:Array AE}{Q:Unit->AH->Prop}(ho:s.heap.get? it=AA o)(hc:o.cls=.type n)(hd:o.data=.fields vs)
  (hn:["enumerate","zip","dict_itemiterator","dict_reverseitemiterator","odict_iterator","itertools.zip_longest","itertools.pairwise"].contains n=AF) (hQ:Q () s):A2 M A (letOwnedTupleGo tg (.ref it) u) Q E s:=by
 unfold letOwnedTupleGo
 cases tg<;>first
  |exact AO hQ
  | (cases u<;>first
    |exact AO hQ
    | (refine AJ (wpAny_load ho ?_)
       rw[hc,hd];show A2 M A (if (["enumerate","zip","dict_itemiterator","dict_reverseitemiterator","odict_iterator","itertools.zip_longest","itertools.pairwise"].contains n&&vs[0]? == AA (rawInt _))=AD then _ else _) Q E s;rw[if_neg (by intro h;rw[hn,Bool.false_and]at h;cases h)];exact AO hQ))
def Itl(K:AC)(a:AG):It:=
 ⟨λi H=>∃xs x,SqL K H a xs/\xs[i]?=AA x,λi H x H'=>H'=H/\∀xs,SqL K H a xs->xs[i]?=AA x,λi H=>∃xs,SqL K H a xs/\xs.length<=i⟩
def Itt(K:AC)(a:AG):It:=
 ⟨λi H=>∃xs x,SqT K H a xs/\xs[i]?=AA x,λi H x H'=>H'=H/\∀xs,SqT K H a xs->xs[i]?=AA x,λi H=>∃xs,SqT K H a xs/\xs.length<=i⟩
def Itr(lo:Int)(n:Nat):It:=⟨λi _=>i<n,λi H x H'=>H'=H/\x=.int (lo+i),λi _=>n<=i⟩
def zdG{P:AZ}{w:A8}{K:AC}{tg:AL}(a it:AG):Turn P w K tg (Itl K a) [it] it (λi h=>h.IsListIter it a i) where
 mem:=by simp
 obj:=λi h st b hb=>by
  have e:b=it:=by simpa using hb
  subst e;let⟨o,e,c,d⟩:=st;exact⟨o,e,λv z=>by rw[d]at z;cases z⟩
 keep:=λi h h' st k=>st.at λo e=>k it (by simp) o e
 item:=by
  intro X hP hw hK hc i π s σ H E I hf st hg;subst hP hw hK;let⟨xs,x,hq,hx⟩:=hg;let⟨its,rv,p,hz⟩:=I.list hq;let⟨u,hu,ru⟩:=rv.get hx;let⟨f0,f1,f2,f3,f4,f5⟩:=hf it (by simp);refine wpAny_pyNext_list_item st p.isList (x:=u) (by simpa using hu) λh' st' sb=>?_;have I1:Inv X π σ H {s with heap:=h'}:=I.turned (t':=s.toks) (λb o hb e=>(sb.2 b hb).trans e) f0 f1 f3 f4 f5;let⟨o,e,c,d⟩:=id st';exact⟨u,rfl,zhm (s:={s with heap:=h'}) e c d ⋯ ⟨x,H,I1,ru,⟨rfl,λys hy=>by rw[I.list_inj hy hq];exact hx⟩,st',λb hb=>(hf b hb).1⟩⟩
 done:=by
  intro X hP hw hK hc i π s σ H E I hf st hg;subst hP hw hK;let⟨xs,hq,hx⟩:=hg;let⟨its,rv,p,hz⟩:=I.list hq;let⟨f0,f1,f2,f3,f4,f5⟩:=hf it (by simp);have hl:=rv.length;exact wpAny_pyNext_list_end (I.ok.hd hc) st p.isList (by simp;lia) λh' eb=>⟨rfl,I.turned (t':=s.toks) (λb o hb e=>eb b o hb e) f0 f1 f3 f4 f5⟩
 self:=λ_ _ _ _ _ st h=>wpAny_pyIter_listiter st h
def zdn{P:AZ}{w:A8}{K:AC}{tg:AL}(a it:AG):Turn P w K tg (Itt K a) [it] it (λi h=>h.IsTupleIter it a i) where
 mem:=by simp
 obj:=λi h st b hb=>by
  have e:b=it:=by simpa using hb
  subst e;let⟨o,e,c,d⟩:=st;exact⟨o,e,λv z=>by rw[d]at z;cases z⟩
 keep:=λi h h' st k=>st.at λo e=>k it (by simp) o e
 item:=by
  intro X hP hw hK hc i π s σ H E I hf st hg;subst hP hw hK;let⟨xs,x,hq,hx⟩:=hg;let⟨its,rv,p,hz⟩:=I.tuple hq;let⟨u,hu,ru⟩:=rv.get hx;let⟨f0,f1,f2,f3,f4,f5⟩:=hf it (by simp);refine wpAny_pyNext_tuple_item st (show s.heap.IsTuple a its.toArray from p) (x:=u) (by simpa using hu) λh' st' sb=>?_;have I1:Inv X π σ H {s with heap:=h'}:=I.turned (t':=s.toks) (λb o hb e=>(sb.2 b hb).trans e) f0 f1 f3 f4 f5;let⟨o,e,c,d⟩:=id st';exact⟨u,rfl,zhm (s:={s with heap:=h'}) e c d ⋯ ⟨x,H,I1,ru,⟨rfl,λys hy=>by rw[I.tuple_inj hy hq];exact hx⟩,st',λb hb=>(hf b hb).1⟩⟩
 done:=by
  intro X hP hw hK hc i π s σ H E I hf st hg;subst hP hw hK;let⟨xs,hq,hx⟩:=hg;let⟨its,rv,p,hz⟩:=I.tuple hq;let⟨f0,f1,f2,f3,f4,f5⟩:=hf it (by simp);have hl:=rv.length;exact wpAny_pyNext_tuple_end (I.ok.hd hc) st (show s.heap.IsTuple a its.toArray from p) (by simp;lia) λh' eb=>⟨rfl,I.turned (t':=s.toks) (λb o hb e=>eb b o hb e) f0 f1 f3 f4 f5⟩
 self:=λ_ _ _ _ _ st h=>wpAny_pyIter_tupleiter st h
def zdm{P:AZ}{w:A8}{K:AC}{tg:AL}(it:AG)(lo:Int)(n:Nat):Turn P w K tg (Itr lo n) [it] it (λi h=>IsRangeIter h it (lo+(i:Nat)*1) ((n:Int)-(i:Nat)) 1) where
 mem:=by simp
 obj:=λi h st b hb=>by
  have e:b=it:=by simpa using hb
  subst e;exact⟨_,st,λv z=>by
   have z':Data.fields _=Data.cell v:=z
   cases z'⟩
 keep:=λi h h' st k=>k it (by simp) _ st
 item:=by
  intro X hP hw hK hc i π s σ H E I hf st hg;subst hP hw hK;let⟨f0,f1,f2,f3,f4,f5⟩:=hf it (by simp);have W:=Walks.range (prog:=X.prog) (w:=X.w) (I.ok.hd hc) it lo 1 n;refine W.item i s _ _ hg st λv h' tk hv st' kk=>?_;let⟨t,rfl⟩:=hv;have I1:Inv X π σ H {s with heap:=h',toks:=tk}:=I.turned (λb o hb e=>kk b o (by simpa using hb) e) f0 f1 f3 f4 f5;refine⟨_,rfl,zhm (s:={s with heap:=h',toks:=tk}) (n:="range_iterator") st' rfl rfl ⋯ ⟨.int (lo+i),H,I1,⟨t,?_⟩,⟨rfl,rfl⟩,st',λb hb=>(hf b hb).1⟩⟩;rw[GH]
 done:=by
  intro X hP hw hK hc i π s σ H E I hf st hg;subst hP hw hK;let⟨f0,f1,f2,f3,f4,f5⟩:=hf it (by simp);exact wpAny_pyNext_range_end (I.ok.hd hc) st (by have:n<=i:=hg;lia) λh' eb=>⟨rfl,I.turned (t':=s.toks) (λb o hb e=>eb b o hb e) f0 f1 f3 f4 f5⟩
 self:=λ_ _ _ _ _ st h=>wpAny_pyIter_rangeiter st h
section
variable {X:Cx}{tg:AL}
def zfw{π:List (AG×BV)}{σ:St}{H:Hp}{s:AH}{R:It->Hp->Prop}{E:AE->AH->Prop}{lo hi:Int}{t u v:GO}{tk:Nat}(I:Inv X π σ H s)(h1:-(2^62)<=lo)(h2:lo<2^62)(h3:-(2^62)<=hi)(h4:hi<2^62)
  (q:R (Itr lo (hi-lo).toNat) H):A2 (model X.prog X.w) X.A (pyIter (.ref s.heap.objs.size)) (PIE X π σ tg R) E {s with heap:=s.heap.push {cls:=.type "range",data:=.fields #[.int lo t,.int hi u,.int 1 v]},toks:=tk}:=by
 refine wpAny_pyIter_range (IsRange.new ..) (small_one h1 h2 h3 h4) ?_;have I1:Inv X π σ H {s with heap:=s.heap.push {cls:=.type "range",data:=.fields #[.int lo t,.int hi u,.int 1 v]},toks:=tk}:=I.kept λb o e=>AR _ e;refine⟨(s.heap.push {cls:=.type "range",data:=.fields #[.int lo t,.int hi u,.int 1 v]}).objs.size,[(s.heap.push {cls:=.type "range",data:=.fields #[.int lo t,.int hi u,.int 1 v]}).objs.size],_,_,H,rfl,
  I1.kept (t':=tk) λb o e=>AR _ e,zdm _ lo (hi-lo).toNat,?_,λb hb=>?_,q⟩
 .have e1:lo+((0:Nat):Int)*1=lo:=by simp
  have e2:(((hi-lo).toNat:Nat):Int)-((0:Nat):Int)=Ft lo hi 1:=by rw[rangeSize_one];split<;>lia
  show IsRangeIter _ _ (lo+((0:Nat):Int)*1) ((((hi-lo).toNat:Nat):Int)-((0:Nat):Int)) 1;rw[e1,e2];exact A6 _ rfl
 .have e:b=(s.heap.push {cls:=.type "range",data:=.fields #[.int lo t,.int hi u,.int 1 v]}).objs.size:=by simpa using hb
  subst e;exact I1.fpOk (AN _) (I1.hok.fresh (AN _))
def ydU(ta:TA):TI:=λσ H R=>ta σ H λvs H1=>∃j:Int,vs=[.int j]/\-(2^62)<=j/\j<2^62/\R (Itr 0 j.toNat) H1
def zbt{a:AL}{ta:TA}{p pos:BZ}(hg:Gl X "range")(hm:X.mg "range"=AB)(ha:PA X [a] ta)(hs:starEach [a] X.env=[(AF,eval a X.env)]:=by rfl):PI X tg (.Call (.Name "range" p) [a] [] pos) (ydU ta):=by
 intro π s σ H R I h;refine Call_ (zbI I hg hm boot_range (CM (thn (ha pos π s σ H _ I h) λus s1 kq=>?_) hs rfl));let⟨vs,H1,I1,r1,q1⟩:=kq;let⟨j,e,q1,q2,q⟩:=q1;subst e
 cases r1 with
 |cons r rr=>
  cases rr
  let⟨t,rfl⟩:=r;exact call_range_1 (zfw I1 ∅ ∅ q1 q2 (by simpa using q))
def yfJ(wi:TI)(g:TG)(tb:TS):TS:=λD σ H=>wi σ H λJ H1=>∃W:Nat->Nat->St->Hp->Prop,(∃m,W 0 m σ H1)/\∀i m σ H,W i m σ H ->
 (J.stop i H/\D.nx σ H) \/ (J.go i H/\∃N:St->Hp->Prop,(∀σ' H',N σ' H'->∃m',m' < m/\W (i+1) m' σ' H')/\∀x H',J.yld i H x H'->g x σ H' λσ2 H2=>tb {D with nx:=N,ct:=N,bk:=D.nx} σ2 H2)
def yaB(fp:List AG)(h:Ak):List (AG×BV):=fp.filterMap λb=>(h.get? b).map λo=>(b,o)
def zq{fp:List AG}{h:Ak}{b:AG}{o:BV}(hb:b∈fp)(e:h.get? b=AA o):(b,o)∈yaB fp h:=DR.mpr ⟨b,hb,by rw[e];rfl⟩
def zeu{fp:List AG}{h:Ak}{p:AG×BV}(hp:p∈yaB fp h):p.1∈fp/\h.get? p.1=AA p.2:=by
 let⟨b,hb,e⟩:=DR.mp hp
 cases q:h.get? b with
 |none=>rw[q]at e;cases e
 |some o=>
  rw[q]at e;have e':(b,o)=p:=AU e;subst e';exact⟨hb,q⟩
theorem Inv.pinned{π:List (AG×BV)}{σ:St}{H:Hp}{s:AH}{fp:List AG}(I:Inv X π σ H s)(hf:∀b∈fp,yam X π H b)(ho:∀b∈fp,∃o,s.heap.get? b=AA o/\∀v,o.data ≠ .cell v):Inv X (π++yaB fp s.heap) σ H s:=
 I.pins_of λp hp=>(Ax.mp hp).elim (λz=>I.pin p (A4 _ z)) λz=>by
  let⟨hb,e⟩:=zeu z;let⟨f0,f1,f2,_⟩:=hf p.1 hb;let⟨o,e',d⟩:=ho p.1 hb;rw[e]at e';cases e';exact⟨e,f0,f1,f2,d⟩
theorem Inv.unpinned{π pl:List (AG×BV)}{σ:St}{H:Hp}{s:AH}(I:Inv X (π++pl) σ H s):Inv X π σ H s:=I.pins_of λp hp=>I.pin p (A4 _ (Cv _ hp))
def zgp{iter:AL}{body:List B7}{wi:TI}{g:TG}{tb:TS}{pos:BZ}(hp:DL (model X.prog X.w) X.A X.env X.xe)(hc:X.calm=AD)(hi:PI X tg iter wi)(hg:PG X tg g)(hb:PSs X body tb)
  (hs:∀x,foldedSetIterable iter X.env x=pure x:=by intro _;rfl):PS X (.For tg iter body [] pos) (yfJ wi g tb):=by
 intro π s σ H D I h;refine wpAny_For (thn (hi π s σ H _ I h) λv s1 h1=>thn h1 λitv s2 h2=>?_) hs;let⟨it,fp,tn,J,H2,e,I2,T,st2,f2,W,⟨m0,w0⟩,turn⟩:=h2;subst e;have stat:∀{H':Hp},(∀b∈fp,H' b=AB)->∀b∈fp,yam X π H' b:=λhn b hb=>⟨hn b hb,(f2 b hb).2⟩;refine codeAny_forLoop_any (λn s'=>∃i σ' H',Inv X π σ' H' s'/\tn i s'.heap/\(∀b∈fp,H' b=AB)/\W i n σ' H') ?_ m0 ⟨0,σ,H2,I2,st2,λb hb=>(f2 b hb).1,w0⟩
 rintro n s3 ⟨i,σ3,H3,I3,st3,fr3,w3⟩
 rcases turn i n σ3 H3 w3 with⟨stop,qn⟩|⟨go,N,hN,step⟩
 .refine Bi hp (thn (T.done X rfl rfl rfl hc i π s3 σ3 H3 X.xe I3 (stat fr3) st3 stop) λr s4 kq=>?_);let⟨hr,I4⟩:=kq;subst hr;exact Cz ⟨σ3,H3,I4,qn⟩
 .refine Bi hp (thn (T.item X rfl rfl rfl hc i π s3 σ3 H3 X.xe I3 (stat fr3) st3 go) λr s4 kq=>?_);let⟨u,hr,h4⟩:=kq;subst hr;refine Bi hp (thn h4 λ_ s5 kq=>?_);let⟨x,H5,I5,r5,y5,st5,fr5⟩:=kq;have I5':=I5.pinned (stat fr5) (T.obj _ _ st5);refine Bi hp (thn (hg _ s5 σ3 H5 x u _ I5' r5 (step x H5 y5)) λ_ s6 kq=>?_);let⟨σ6,H6,I6,q6⟩:=kq;refine Bi hp (thn (hb _ s6 σ6 H6 _ I6 q6) λf s7 q7=>?_);have again:∀{σ7:St} {H7:Hp},Inv X (π++yaB fp s5.heap) σ7 H7 s7->N σ7 H7->∃m,m<n/\∃i σ' H',Inv X π σ' H' s7/\tn i s7.heap/\(∀b∈fp,H' b=AB)/\W i m σ' H':=λ{σ7 H7} I7 n7=>by
   let⟨m',hm,w7⟩:=hN σ7 H7 n7;refine⟨m',hm,i+1,σ7,H7,I7.unpinned,T.keep _ _ _ st5 λb hb o e=>(I7.pin (b,o) (A4 _ (A4 _ (zq hb e)))).1,λb hb=>?_,w7⟩;let⟨o,e,d⟩:=T.obj _ _ st5 b hb;exact(I7.pin (b,o) (A4 _ (A4 _ (zq hb e)))).2.1
  cases f with
  |next=>let⟨σ7,H7,I7,n7⟩:=q7;exact again I7 n7
  |cont=>let⟨σ7,H7,I7,n7⟩:=q7;exact again I7 n7
  |brk=>let⟨σ7,H7,I7,q7⟩:=q7;exact⟨σ7,H7,I7.unpinned,q7⟩
  |ret v=>let⟨x7,σ7,H7,I7,r7,q7⟩:=q7;exact⟨x7,σ7,H7,I7.unpinned,r7,q7⟩
end
abbrev R2:=V->V->Hp->VK->Prop
def OpR(X:Cx)(f:AE->AE->FE AE)(r:R2):Prop:=
 ∀(π:List (AG×BV)) (s:AH) (σ:St) (H:Hp) (x y:V) (v u:AE) (Q:VK),Inv X π σ H s->RelV x v->RelV y u->r x y H Q ->
  A2 (model X.prog X.w) X.A (f v u) (EP X π σ Q) X.xe s
def yV(X:Cx)(f:AE)(r:List V->Hp->VK->Prop):Prop:=
 ∀(π:List (AG×BV)) (s:AH) (σ:St) (H:Hp) (xs:List V) (us:List AE) (Q:VK),Inv X π σ H s->Vals xs us->r xs H Q ->
  A2 (model X.prog X.w) X.A (call f us) (EP X π σ Q) X.xe s
def yfS(X:Cx)(r:V->Hp->(Bool->Hp->Prop)->Prop):Prop:=
 ∀(π:List (AG×BV)) (s:AH) (σ:St) (H:Hp) (x:V) (v:AE) (Q:Bool->Hp->Prop),Inv X π σ H s->RelV x v->r x H Q ->
  A2 (model X.prog X.w) X.A (truthy v) (TP X π σ Q) X.xe s
def tOp(r:R2)(ta tb:TE):TE:=λσ H Q=>ta σ H λx H1=>tb σ H1 λy H2=>r x y H2 Q
def rI(C:Int->Int->Prop)(g:Int->Int->V):R2:=λx y H Q=>∃i j,x=.int i/\y=.int j/\C i j/\Q (g i j) H
def rI0(g:Int->Int->V):R2:=λx y H Q=>∃i j,x=.int i/\y=.int j/\Q (g i j) H
section
variable {X:Cx}{a b c:AL}{ta tb tc:TE}{pos:BZ}
def zkJ(ha:PE X a ta)(hb:PE X b tb){π:List (AG×BV)}{s:AH}{σ:St}{H:Hp}{R:V->V->Hp->Prop}(I:Inv X π σ H s)
  (h:ta σ H λx H1=>tb σ H1 λy H2=>R x y H2) {Q:AE->AH->Prop} {f:AE->AE->FE AE}
  (hf:∀v u s2 x y H2,Inv X π σ H2 s2->RelV x v->RelV y u->R x y H2->A2 (model X.prog X.w) X.A (f v u) Q X.xe s2):
  A2 (model X.prog X.w) X.A (eval a X.env) (λv s₁=>A2 (model X.prog X.w) X.A (eval b X.env) (λu s₂=>A2 (model X.prog X.w) X.A (f v u) Q X.xe s₂) X.xe s₁) X.xe s:=by
 refine thn (ha π s σ H _ I h) λv s1 kq=>?_;let⟨x,H1,I1,r1,q1⟩:=kq;refine thn (hb π s1 σ H1 _ I1 q1) λu s2 kq=>?_;let⟨y,H2,I2,r2,q2⟩:=kq;exact hf v u s2 x y H2 I2 r1 r2 q2
def zj7{op:De}{r:R2}(ho:OpR X (binaryOp op) r)(ha:PE X a ta)(hb:PE X b tb):PE X (.BinOp a op b pos) (tOp r ta tb):=by
 intro π s σ H Q I h;exact wpAny_BinOp (zkJ ha hb I h λv u s2 x y H2 I2 rx ry q=>ho π s2 σ H2 x y v u Q I2 rx ry q)
theorem opI{f:AE->AE->FE AE}{C:Int->Int->Prop}{g:Int->Int->Int}
  (rule:∀(i j:Int) (t u:GO) (s:AH) (Q:AE->AH->Prop) (E:AE->AH->Prop),C i j->Q (.int (g i j) s.toks) {s with toks:=s.toks+1}->A2 (model X.prog X.w) X.A (f (.int i t) (.int j u)) Q E s):
  OpR X f (rI C λi j=>.int (g i j)):=by
 intro π s σ H x y v u Q I rx ry h;let⟨i,j,rfl,rfl,hc,q⟩:=h;let⟨t,rfl⟩:=rx;let⟨t',rfl⟩:=ry;exact rule i j t t' s _ _ hc ⟨.int (g i j),H,I.tok _,⟨_,rfl⟩,q⟩
def zkG{f:AE->AE->FE AE}{g:Int->Int->Int}
  (rule:∀(i j:Int) (t u:GO) (s:AH) (Q:AE->AH->Prop) (E:AE->AH->Prop),Q (.int (g i j) s.toks) {s with toks:=s.toks+1}->A2 (model X.prog X.w) X.A (f (.int i t) (.int j u)) Q E s):
  OpR X f (rI0 λi j=>.int (g i j)):=by
 intro π s σ H x y v u Q I rx ry h;let⟨i,j,rfl,rfl,q⟩:=h;let⟨t,rfl⟩:=rx;let⟨t',rfl⟩:=ry;exact rule i j t t' s _ _ ⟨.int (g i j),H,I.tok _,⟨_,rfl⟩,q⟩
def zkK{f:AE->AE->FE AE}{g:Int->Int->Bool}
  (rule:∀(i j:Int) (t u:GO) (s:AH) (Q:AE->AH->Prop) (E:AE->AH->Prop),Q (.bool (g i j)) s->A2 (model X.prog X.w) X.A (f (.int i t) (.int j u)) Q E s):
  OpR X f (rI0 λi j=>.bl (g i j)):=by
 intro π s σ H x y v u Q I rx ry h;let⟨i,j,rfl,rfl,q⟩:=h;let⟨t,rfl⟩:=rx;let⟨t',rfl⟩:=ry;exact rule i j t t' s _ _ ⟨.bl (g i j),H,I,rfl,q⟩
def yeF(i j:Int):Prop:=0<=j/\j<=1000000/\i.natAbs<2^64
def ycS(i j:Int):Prop:=(-(2^64)<i/\i<2^64) \/ (-(2^64)<j/\j<2^64)
theorem ycS.ok{i j:Int}(h:ycS i j):IntMulOk i j:=by
 rcases h with⟨h1,h2⟩|⟨h1,h2⟩
 .exact .of_left (intBits_le_64 h1 h2)
 .exact .of_right (intBits_le_64 h1 h2)
def zda(k:Nat):(0:Int)<=2^k:=by
 rw[two_pow_cast];exact Int.natCast_nonneg _
def zjO:OpR X (binaryOp .Add) (rI0 λi j=>.int (i+j)):=zkG λ_ _ _ _ _ _ _ q=>add_int q
def zjv:OpR X (binaryOp .Sub) (rI0 λi j=>.int (i-j)):=zkG λ_ _ _ _ _ _ _ q=>sub_int q
def zin:OpR X (binaryOp .Mult) (rI ycS λi j=>.int (i*j)):=opI λ_ _ _ _ _ _ _ hc q=>mul_int q hc.ok
def ziN:OpR X (binaryOp .Mod) (rI (λ_ j=>0<j) λi j=>.int (i%j)):=opI λi j _ _ _ _ _ hc q=>by
 have h1:(0:Int)<j:=hc;exact mod_int' ∅ (by rw[Int.fmod_eq_emod_of_nonneg i ∅];exact q)
def ziV:OpR X (binaryOp .Pow) (rI yeF λi j=>.int (i^j.toNat)):=opI λ_ _ _ _ _ _ _ hc q=>pow_int_small hc.1 hc.2.1 hc.2.2 q
def zjI:OpR X (binaryOp .RShift) (rI (λ_ j=>0<=j) λi j=>.int (i/2^j.toNat)):=opI λi j _ _ _ _ _ hc q=>
 rshift_int hc (by rw[DS i (zda _)];exact q)
def zio:OpR X (binaryOp .BitAnd) (rI0 λi j=>.int (EJ i j)):=zkG λ_ _ _ _ _ _ _ q=>and_int q
def zkb:OpR X (binaryOp .BitOr) (rI0 λi j=>.int (E1 i j)):=zkG λ_ _ _ _ _ _ _ q=>or_int q
def zja:OpR X (binaryOp .BitXor) (rI0 λi j=>.int (EK i j)):=zkG λ_ _ _ _ _ _ _ q=>xor_int q
def zd1:OpR X (binaryOp .Add) (λx y H Q=>∃i k,x=.int i/\y=.bl k/\Q (.int (i+b2i k)) H):=by
 intro π s σ H x y v u Q I rx ry h;let⟨i,k,rfl,rfl,q⟩:=h;let⟨t,rfl⟩:=rx
 cases ry
 exact add_int_bool ⟨.int (i+b2i k),H,I.tok _,⟨_,rfl⟩,q⟩
end
section
variable {X:Cx}{a b c:AL}{ta tb tc:TE}{pos:BZ}
def zcE{π:List (AG×BV)}{σ:St}{H:Hp}{s:AH}{Q:VK}{k k':Bool}(I:Inv X π σ H s)(q:Q (.bl k) H)(e:k=k'):EP X π σ Q (.bool k') s:=by
 subst e;exact⟨.bl k,H,I,rfl,q⟩
def zkB:OpR X (compareOp .Lt) (rI0 λi j=>.bl (decide (i<j))):=zkK λ_ _ _ _ _ _ _ q=>lt_int q
def zj8:OpR X (compareOp .Gt) (rI0 λi j=>.bl (decide (j<i))):=zkK λ_ _ _ _ _ _ _ q=>gt_int q
def zj6:OpR X (compareOp .GtE) (rI0 λi j=>.bl (decide (j<=i))):=zkK λ_ _ _ _ _ _ _ q=>ge_int q
def zev:OpR X (compareOp .Lt) (λx y H Q=>∃i j,x=.str i/\y=.str j/\Q (.bl (decide (i.cps.toList<j.cps.toList))) H):=by
 intro π s σ H x y v u Q I rx ry h;let⟨i,j,rfl,rfl,q⟩:=h;let⟨t,rfl⟩:=rx;let⟨t',rfl⟩:=ry;exact lt_str (zcE I q rfl)
def zeD:OpR X (compareOp .In) (λx y H Q=>∃i j,x=.str i/\y=.str j/\Q (.bl (!(Bw j i 0 j.length 1).isEmpty)) H):=by
 intro π s σ H x y v u Q I rx ry h;let⟨i,j,rfl,rfl,q⟩:=h;let⟨t,rfl⟩:=rx;let⟨t',rfl⟩:=ry;exact in_str (zcE I q rfl)
def ziW:OpR X (compareOp .Is) (λx y H Q=>y=.non/\Q (.bl (decide (x=.non))) H):=by
 intro π s σ H x y v u Q I rx ry h;let⟨rfl,q⟩:=h
 cases ry
 refine is_none_gen (zcE I q ?_)
 cases x<;>first
  |(cases rx;rfl)
  |(let⟨t,rfl⟩:=rx;rfl)
def zd7{op:E2}{r:R2}(ho:OpR X (compareOp op) r)(ha:PE X a ta)(hb:PE X b tb)(hm:behindInMarks op b=AF):PE X (.Compare a [op] [b] pos) (tOp r ta tb):=by
 intro π s σ H Q I h;exact wpAny_Compare1 (zkJ ha hb I h λv u s2 x y H2 I2 rx ry q=>ho π s2 σ H2 x y v u Q I2 rx ry q) hm
def ycz(t:TE):TT:=λσ H Q=>t σ H λx H'=>∃k,x=.bl k/\Q k H'
def zdx{op:E2}{r:R2}(ho:OpR X (compareOp op) r)(ha:PE X a ta)(hb:PE X b tb)(hm:behindInMarks op b=AF):PT X (.Compare a [op] [b] pos) (ycz (tOp r ta tb)):=by
 intro π s σ H Q I h;refine wpAny_isTrue_Compare1 (thn (ha π s σ H _ I h) λv s1 ⟨x,H1,I1,r1,q1⟩=>thn (hb π s1 σ H1 _ I1 q1) λu s2 ⟨y,H2,I2,r2,q2⟩=>
  thn (ho π s2 σ H2 x y v u _ I2 r1 r2 q2) λc s3 ⟨z,H3,I3,r3,k,e,q3⟩=>?_) hm
 subst e
 cases r3
 exact BM ⟨H3,I3,q3⟩
def ybL(r r':R2)(ta tb tc:TE):TE:=λσ H Q=>ta σ H λx H1=>tb σ H1 λy H2=>r x y H2 λz H3=>∃k,z=.bl k /\
 (if k=AD then tc σ H3 λw' H4=>r' y w' H4 Q else Q (.bl AF) H3)
def zf7{op op':E2}{r r':R2}(ho:OpR X (compareOp op) r)(ho':OpR X (compareOp op') r')(ha:PE X a ta)(hb:PE X b tb)(hc:PE X c tc)
  (hm:lastMarks [op,op'] [b,c]=false:=by with_unfolding_all rfl):PE X (.Compare a [op,op'] [b,c] pos) (ybL r r' ta tb tc):=by
 intro π s σ H Q I h;refine Compare_chain (thn (ha π s σ H _ I h) λv s1 ⟨x,H1,I1,r1,q1⟩=>chain_link (thn (hb π s1 σ H1 _ I1 q1) λu s2 ⟨y,H2,I2,r2,q2⟩=>
  thn (ho π s2 σ H2 x y v u _ I2 r1 r2 q2) λd s3 ⟨z,H3,I3,r3,k,e,q3⟩=>?_)) hm
 subst e
 cases r3
 refine BM ?_
 cases k with
 |false=>exact ite_ff ⟨.bl AF,H3,I3,rfl,q3⟩
 |true=>exact ite_tt (chain_last (thn (hc π s3 σ H3 _ I3 q3) λw' s4 ⟨z',H4,I4,r4,q4⟩=>ho' π s4 σ H4 y z' u w' Q I4 r2 r4 q4))
def zf5{op op':E2}{r r':R2}(ho:OpR X (compareOp op) r)(ho':OpR X (compareOp op') r')(ha:PE X a ta)(hb:PE X b tb)(hc:PE X c tc)
  (hm:lastMarks [op,op'] [b,c]=false:=by with_unfolding_all rfl):PT X (.Compare a [op,op'] [b,c] pos) (ycz (ybL r r' ta tb tc)):=by
 intro π s σ H Q I h;refine isTrue_chain (thn (ha π s σ H _ I h) λv s1 ⟨x,H1,I1,r1,q1⟩=>test_link (thn (hb π s1 σ H1 _ I1 q1) λu s2 ⟨y,H2,I2,r2,q2⟩=>
  thn (ho π s2 σ H2 x y v u _ I2 r1 r2 q2) λd s3 ⟨z,H3,I3,r3,k,e,q3⟩=>?_)) hm
 subst e
 cases r3
 refine BM ?_
 cases k with
 |false=>
  let⟨k',e',q'⟩:=q3
  cases e'
  exact ite_ff ⟨H3,I3,q'⟩
 |true=>
  refine ite_tt (test_last (thn (hc π s3 σ H3 _ I3 q3) λw' s4 kq=>?_));let⟨z',H4,I4,r4,q4⟩:=kq;refine thn (ho' π s4 σ H4 y z' u w' _ I4 r2 r4 q4) λd' s5 kq=>?_;let⟨z2,H5,I5,r5,k2,e2,q5⟩:=kq;subst e2
  cases r5
  exact BM ⟨H5,I5,q5⟩
def ydR(K:AC)(x:V)(H:Hp)(k:Bool):Prop:=
 match x with
 |.non=>k=AF
 |.bl b=>k=b
 |.int i=>k=(i != 0)
 |.str y=>y.length<=sizeLine/\k=((y.length:Int) != 0)
 |.byt y=>y.size<=sizeLine/\k=((y.size:Int) != 0)
 |.ref p=>(∃xs,SqL K H p xs/\k=!xs.isEmpty) \/ (∃xs,SqT K H p xs/\k=!xs.isEmpty) \/ ∃kvs,H p=AA (.dK kvs)/\k=!kvs.isEmpty
 |_=>False
def zdq{κ:Type}{kvs:List (κ×V)}{vs:List (κ×AE)}(r:KV kvs vs):(!vs.isEmpty)=!kvs.isEmpty:=by
 cases r<;>rfl
def za2{xs:List V}{its:List AE}(r:Vals xs its):(!its.toArray.isEmpty)=!xs.isEmpty:=by
 cases r<;>simp
def zkD:(sizeLine:Nat)<2^63:=by rw[Bm];decide
def ziC:yfS X (λx H Q=>∃k,ydR X.K x H k/\Q k H):=by
 intro π s σ H x v Q I rx h;let⟨k,e,q⟩:=h;have hl:=zkD;have hs:sizeLine=16777216:=Bm
 cases x with
 |non=>
  cases rx
  have e':k=false:=e;subst e';exact truthy_none ⟨H,I,q⟩
 |bl b=>
  cases rx
  have e':k=b:=e;subst e';exact BM ⟨H,I,q⟩
 |int i=>
  let⟨t,rfl⟩:=rx;have e':k=(i != 0):=e;subst e';exact PySem.P.truthy_int ⟨H,I,q⟩
 |str y=>
  let⟨t,rfl⟩:=rx;obtain⟨hy,e'⟩:y.length<=sizeLine/\k=((y.length:Int) != 0):=e;subst e';exact PySem.P.truthy_str ∅ ⟨H,I.tok _,q⟩
 |byt y=>
  let⟨t,rfl⟩:=rx;obtain⟨hy,e'⟩:y.size<=sizeLine/\k=((y.size:Int) != 0):=e;subst e';exact PySem.W.truthy_bytes ∅ ⟨H,I.tok _,q⟩
 |ref p=>
  cases rx
  have e':(∃xs,SqL X.K H p xs/\k=!xs.isEmpty) \/ (∃xs,SqT X.K H p xs/\k=!xs.isEmpty) \/ ∃kvs,H p=AA (.dK kvs)/\k=!kvs.isEmpty:=e;rcases e' with⟨xs,hx,e'⟩|⟨xs,hx,e'⟩|⟨kvs,hx,e'⟩
  .subst e';let⟨its,r,pl,hz⟩:=I.list hx;have hlen:=r.length;exact wpAny_truthy_list pl.isList (by erw[A0];lia) ⟨H,I.tok _,by rw[za2 r];exact q⟩
  .subst e';let⟨its,r,pl,hz⟩:=I.tuple hx;have hlen:=r.length;exact truthy_tuple pl (by erw[A0];lia) ⟨H,I.tok _,by rw[za2 r];exact q⟩
  .subst e';obtain⟨hz,hS,vs,r,m⟩:kvs.length<=sizeLine/\(p==sysModules)=AF/\∃vs,KV kvs vs/\s.heap.DictOf (yK X.prog X.w) p vs:=I.hok p _ hx;have hlen:kvs.length=vs.length:=EZ r;exact wpAny_truthy_dict hS m ∅ ⟨H,I.tok _,by rw[zdq r];exact q⟩
 |_=>exact(show False from e).elim
def zfi(ha:PE X a ta)(he:∀whole,isTrue a X.env whole=(do let v <-whole;standAt a.pos;holding [v] (truthy v))):
  PT X a (λσ H Q=>ta σ H λx H'=>∃k,ydR X.K x H' k/\Q k H'):=by
 intro π s σ H Q I h;exact isTrue_plain (thn (ha π s σ H _ I h) λv s1 ⟨x,H1,I1,r1,q1⟩=>ziC π s1 σ H1 x v Q I1 r1 q1) (he _)
def zdp:OpR X (binaryOp .Add) (λx y H Q=>∃i j,x=.str i/\y=.str j/\i.length+j.length<=sizeLine/\Q (.str (i++j)) H):=by
 intro π s σ H x y v u Q I rx ry h;let⟨i,j,rfl,rfl,hz,q⟩:=h;let⟨t,rfl⟩:=rx;let⟨t',rfl⟩:=ry;exact add_str (λt' tk=>⟨.str (i++j),H,I.tok _,⟨_,rfl⟩,q⟩) hz
theorem vals1{x:V}{us:List AE}(r:Vals [x] us):∃u,us=[u]/\RelV x u:=by
 cases r with
 |cons r1 r2=>cases r2;exact⟨_,rfl,r1⟩
theorem vals2{x y:V}{us:List AE}(r:Vals [x,y] us):∃u w',us=[u,w']/\RelV x u/\RelV y w':=by
 cases r with
 |cons r1 r2=>
  cases r2 with
  |cons r3 r4=>cases r4;exact⟨_,_,rfl,r1,r3⟩
def zdQ(hc:X.calm=AD):yV X (.builtin "min") (λxs H Q=>∃i j,xs=[.int i,.int j]/\Q (.int (if j<i then j else i)) H):=by
 intro π s σ H xs us Q I r h;let⟨i,j,rfl,q⟩:=h;let⟨u,w',rfl,⟨t,rfl⟩,⟨t',rfl⟩⟩:=vals2 r;refine min_two_ints (I.ok.hd hc) λh' tk k=>⟨_,H,I.kept k,?_,q⟩
 by_cases hj:j<i
 .rw[if_pos hj,if_pos hj];exact⟨_,rfl⟩
 .rw[if_neg hj,if_neg hj];exact⟨_,rfl⟩
def zbR:yV X (.type "int") (λxs H Q=>(∃i,xs=[.int i]/\Q (.int i) H) \/ ∃k,xs=[.bl k]/\Q (.int (if k then 1 else 0)) H):=by
 intro π s σ H xs us Q I r h;rcases h with⟨i,rfl,q⟩|⟨k,rfl,q⟩
 .let⟨u,rfl,t,rfl⟩:=vals1 r;exact call_int_int ⟨.int i,H,I,⟨_,rfl⟩,q⟩
 .let⟨u,rfl,r1⟩:=vals1 r
  cases r1
  exact call_int_bool ⟨.int (if k then 1 else 0),H,I.tok _,⟨_,rfl⟩,q⟩
end
section
variable {prog:AZ}{w:A8}{A:A3}{E:AE->AH->Prop}{s:AH}{K:AC}{x dx C f:AG}{mA:AM->Option AE}{name:AM}{v:AE}
end
def ydf(f:AM)(v:V):List (AM×V)->List (AM×V)
 |[]=>[(f,v)]
 |(g,x)::r=>if g=f then(g,v)::r else(g,x)::ydf f v r
theorem ybf.some_of{v:V}{o:Option AE}(r:ybf (AA v) o):∃u,o=AA u/\RelV v u:=by
 cases o with
 |none=>exact(show False from r).elim
 |some u=>exact⟨u,rfl,r⟩
section
variable {P:AZ}{w:A8}{H H':Hp}{h h':Ak}{a C dx:AG}{fs fs':List (AM×V)}
end
structure Cls(K:AC)(C:AG):Prop where
 pg:FI K C Cm=AD
 hd:El K C=AD
 po:Em K C=AD
 sa:Ag K (.ref C) "__setattr__"=AA (AA (.builtin "object.__setattr__"))
def ybR(K:AC)(C:AG)(f:AM):Prop:=Ag K (.ref C) f=AA AB
structure Con(K:AC)(C:AG)(f:AM)(v:V)(u:AE):Prop where
 at_:Ag K (.ref C) f=AA (AA u)
 rel:RelV v u
 get:PySem.W.specialIn K u "__get__"=AA AB
 cp:PySem.W.copiedNames.contains f=AF
structure Meth(K:AC)(C:AG)(m:AM)(f:AG):Prop where
 at_:Ag K (.ref C) m=AA (AA (.ref f))
 fn:Cc K (.ref f)=AD
 kp:Aa K (.ref f)=AD
section
variable {X:Cx}{π:List (AG×BV)}{σ:St}{H:Hp}{s:AH}{a C dx:AG}{fs:List (AM×V)}{f:AM}{v:V}{A:A3}{E:AE->AH->Prop}
end
section
variable {X:Cx}{o e value:AL}{f:AM}{pos pos' tpos:BZ}{ta tv:TE}
end
section
variable {X:Cx}{π:List (AG×BV)}{σ:St}{H:Hp}{s:AH}{A:A3}{E:AE->AH->Prop}{Q:AE->AH->Prop}{c:AE}{b:Bool}
end
structure yap(k:Nat)(A:A3):Prop where
 hd:A.handled=AB
 dp:A.depth+3*k+5<recursionLimit
 un:A.units+16*k+200<cLine
theorem yap.mono{j k:Nat}{A:A3}(r:yap k A)(h:j<=k):yap j A:=⟨r.hd,by have:=r.dp;lia,by have:=r.un;lia⟩
theorem yap.deeper{k:Nat}{A:A3}(r:yap (k+1) A)(env:Env):yap k (A.deeper env):=
 ⟨r.hd,by have:=r.dp;show A.depth+1+3*k+5<_;lia,by have:=r.un;show A.units+3+16*k+200<_;lia⟩
theorem yap.depth{k:Nat}{A:A3}(r:yap k A):A.depth<recursionLimit:=by have:=r.dp;lia
def ydY:TA:=λ_ H Q=>Q [] H
def ycD(ta:TE)(tr:TA):TA:=λσ H Q=>ta σ H λx H1=>tr σ H1 λxs H2=>Q (x::xs) H2
section
variable {X:Cx}{e:AL}{es:List AL}{te:TE}{t:TA}{pos:BZ}
def zkF:PA X [] ydY:=λ_ _ _ _ H Q I h=>Calls.spliced_nil ⟨[],H,I,.nil,h⟩
def zX(ha:PE X e te)(hr:PA X es t)(hs:starEach (e::es) X.env=(AF,eval e X.env)::starEach es X.env:=by rfl):PA X (e::es) (ycD te t):=by
 intro pos π s σ H Q I h;rw[hs];show A2 _ _ (spliced ((AF,eval e X.env)::backTo pos (starEach es X.env))) _ _ s;refine Calls.spliced_cons (thn (ha π s σ H _ I h) λu s1 kq=>?_);let⟨x,H1,I1,r1,q1⟩:=kq;exact thn (hr pos π s1 σ H1 _ I1 q1) λus s2 ⟨xs,H2,I2,r2,q2⟩=>⟨x::xs,H2,I2,.cons r1 r2,q2⟩
def yfz(t:TA):TE:=λσ H Q=>t σ H λxs H1=>xs.length<=sizeLine/\∀p,H1 p=AB->Q (.ref p) (upd H1 p (.tup xs))
def yfK(t:TA):TE:=λσ H Q=>t σ H λxs H1=>xs.length<=sizeLine/\∀p,H1 p=AB->Q (.ref p) (upd H1 p (.lst xs))
def zjd{x1}(h:PA X es t):PE X (.Tuple es x1 pos) (yfz t):=by
 intro π s σ H Q I hq;refine wpAny_Tuple_spliced (thn (h pos π s σ H _ I hq) λus s1 kq=>?_);let⟨xs,H1,I1,r,z,q⟩:=kq;refine ⟨by rw[<-r.length];exact z,?_⟩;have hf:H1 s1.heap.objs.size=none:=I1.hok.fresh (AN _);refine⟨.ref s1.heap.objs.size,upd H1 s1.heap.objs.size (.tup xs),I1.laid (t':=s1.toks) (λb u e=>AR _ e) (AN _) ?_,rfl,q _ hf⟩;exact⟨z,us,r,A6 _ rfl⟩
def zgy(h:PA X es t):PE X (.List es pos) (yfK t):=by
 intro π s σ H Q I hq;refine wpAny_List_spliced (thn (h pos π s σ H _ I hq) λus s1 kq=>?_);let⟨xs,H1,I1,r,z,q⟩:=kq;refine ⟨by rw[<-r.length];exact z,?_⟩;have hf:H1 s1.heap.objs.size=none:=I1.hok.fresh (AN _);refine⟨.ref s1.heap.objs.size,upd H1 s1.heap.objs.size (.lst xs),I1.laid (t':=s1.toks) (λb u e=>AR _ e) (AN _) ?_,rfl,q _ hf⟩;exact⟨z,us,0,r,A6 _ rfl⟩
end
abbrev Sp:=List V->Hp->VK->XK->Prop
abbrev CXT:=List Env->Hp->AH->XK->AE->AH->Prop
structure ycq(P:AZ)(w:A8)(K:AC)(mg:AM->Option AE)(base:Ak)(A:A3)(outer:List Env)(s:AH)(H:Hp):Prop where
 frames:A.frames=AA outer
 mod:Mod K mg base
 bs:∀b o,base.get? b=AA o->s.heap.get? b=AA o/\H b=AB
 bsz:base.objs.size<=s.heap.objs.size
 funs:s.heap.FunFrames base outer
 frf:∀b∈frs outer,H b=AB
 hok:HOk P w H s.heap
 bare:Ct s.gens
def CE(outer:List Env)(P:AZ)(w:A8)(H:Hp)(s:AH)(Q:VK)(u:AE)(s':AH):Prop:=
 ∃v H',s'.os=s.os/\Ct s'.gens/\Un (frs outer) [] H H' s.heap s'.heap/\HOk P w H' s'.heap/\RelV v u/\Q v H'
def CR(CX:CXT)(outer:List Env)(P:AZ)(w:A8)(H:Hp)(s:AH)(Q:VK)(E:XK)(r:Dq)(s':AH):Prop:=
 match r with
 |.ok (.ret u)=>CE outer P w H s Q u s'
 |.ok _=>False
 |.error e=>CX outer H s E e s'
structure yaD(P:AZ)(w:A8)(K:AC)(mg:AM->Option AE)(base:Ak)(CX:CXT)(k:Nat)(f:AG)(fd:Aj)(ps:List AM)(sp:Sp):Prop where
 len:∀vs H Q E,sp vs H Q E->vs.length=ps.length
 run:∀(A:A3) (outer:List Env) (s:AH) (H:Hp) (args:Args) (us:List AE) (vs:List V) (Q:VK) (E:XK),yap k A->ycq P w K mg base A outer s H->Dr s fd args (ps.zip us)->Vals vs us->sp vs H Q E ->
  codeAny (model P w) A (.call (.ref f) args) (CR CX outer P w H s Q E) s
theorem yaD.imp{P:AZ}{w:A8}{K:AC}{mg:AM->Option AE}{base:Ak}{CX:CXT}{k:Nat}{f:AG}{fd:Aj}{ps:List AM}{sp sp':Sp}(F:yaD P w K mg base CX k f fd ps sp)
  (h:∀vs H Q E,sp' vs H Q E->sp vs H Q E):yaD P w K mg base CX k f fd ps sp':=
 ⟨λvs H Q E q=>F.len vs H Q E (h _ _ _ _ q),λA outer s H args us vs Q E hr he hb hv hs=>F.run A outer s H args us vs Q E hr he hb hv (h _ _ _ _ hs)⟩
section
variable {X:Cx}{π:List (AG×BV)}{σ:St}{H:Hp}{s s':AH}
theorem Inv.env0(I:Inv X π σ H s):ycq X.prog X.w X.K X.mg X.base X.A X.stack s H:=
 ⟨I.ok.frames,I.ok.mod,I.bs,BB I.ok.bsz I.sz,I.stack,I.stkFree,I.hok,I.bare⟩
theorem Inv.after{Q:VK}{u:AE}(I:Inv X π σ H s)(h:CE X.stack X.prog X.w H s Q u s'):EP X π σ Q u s':=by
 let⟨v,H',os,bare,un,hok,r,q⟩:=h;let⟨hh,g,d,t,os'⟩:=s';obtain rfl:os'=s.os:=os;exact⟨v,H',I.call (h':=hh) (g':=g) (d':=d) (t':=t) (ch:=[]) un hok bare (λb z=>absurd z (by simp)),r,q⟩
end
def Binds(K:AC)(fd:Aj)(ps:List AM)(ds:List AE):Prop:=
 ∀(s:AH) (us:List AE),K.In s.heap->(us++ds).length=ps.length->Dr s fd ⟨us,[]⟩ (ps.zip (us++ds))
theorem Binds.all{K:AC}{fd:Aj}{ps:List AM}(h:∀us:List AE,us.length=ps.length->bindArgs fd ⟨us,[]⟩=pure (ps.zip us)):Binds K fd ps []:=λs us _ hl=>by
 rw[B4]at hl ⊢;exact .of_eq (h us hl)
def ybP(CX:CXT)(X:Cx)(E:XK):Prop:=∀(π:List (AG×BV)) (σ:St) (H:Hp) (s:AH) (e:AE) (s':AH),Inv X π σ H s->CX X.stack H s E e s'->X.xe e s'
section
variable {X:Cx}{CX:CXT}{k:Nat}{f C:AG}{fd:Aj}{ps:List AM}{sp:Sp}{dvs:List V}{ds:List AE}{E:XK}{x m:AM}{p pos apos:BZ}{e o:AL}{es:List AL}{ta:TE}{t:TA}
def zcH{π:List (AG×BV)}{σ:St}{H:Hp}{s:AH}{Q:VK}{us:List AE}{vs:List V}(F:yaD X.prog X.w X.K X.mg X.base CX k f fd ps sp)(hr:yap k X.A)(hb:Binds X.K fd ps ds)(hd:Vals dvs ds)(hx:ybP CX X E)
  (I:Inv X π σ H s) (r:Vals vs us) (h:sp (vs++dvs) H Q E):A2 (model X.prog X.w) X.A (call (.ref f) us) (EP X π σ Q) X.xe s:=by
 have r2:Vals (vs++dvs) (us++ds):=r.append hd;have hl:(us++ds).length=ps.length:=by rw[<-r2.length];exact F.len _ _ _ _ h
 refine F3 (DG (F.run X.A X.stack s H ⟨us,[]⟩ (us++ds) (vs++dvs) Q E hr I.env0 (hb s us I.kIn hl) r2 h) λr s' hq=>?_)
 cases r with
 |error e=>exact hx π σ H s e s' I hq
 |ok fl=>
  cases fl with
  |ret u=>exact I.after hq
  |next=>exact BH hq
  |brk=>exact BH hq
  |cont=>exact BH hq
structure Mk(K:AC)(C f:AG):Prop where
 makes:Dz K C=AD
 init:Ag K (.ref C) "__init__"=AA (AA (.ref f))
 fn:Cc K (.ref f)=AD
 kp:Aa K (.ref C)=AD
end
def PK(X:Cx)(kws:List CU)(t:TA):Prop:=
 ∀(pos:BZ) (π:List (AG×BV)) (s:AH) (σ:St) (H:Hp) (Q:List V->Hp->Prop),Inv X π σ H s->t σ H Q->A2 (model X.prog X.w) X.A (evalAll ((backToKw pos (keywordEach kws X.env)).map (·.2))) (AP X π σ Q) X.xe s
section
variable {X:Cx}{CX:CXT}{k:Nat}{f C:AG}{fd:Aj}{ps ks:List AM}{sp:Sp}{E:XK}{x m:AM}{p pos apos kpos:BZ}{e o:AL}{es:List AL}{kws:List CU}{te ta:TE}{t tk:TA}{nm:Option AM}
def zk0:PK X [] ydY:=λ_ _ _ _ H Q I h=>wpAny_evalAll_nil ⟨[],H,I,.nil,h⟩
def zhW(ha:PE X e te)(hr:PK X kws t):PK X (⟨nm,e,kpos⟩ :: kws) (ycD te t):=by
 intro pos π s σ H Q I h;show A2 _ _ (evalAll ((do let v <-eval e X.env;standAt pos;pure v)::(backToKw pos (keywordEach kws X.env)).map (·.2))) _ _ s;refine wpAny_evalAll_cons (AJ (thn (ha π s σ H _ I h) λu s1 kq=>?_));let⟨x,H1,I1,r1,q1⟩:=kq;refine AJ (BW (AO ?_));exact thn (hr pos π s1 σ H1 _ I1 q1) λus s2 ⟨xs,H2,I2,r2,q2⟩=>⟨x::xs,H2,I2,.cons r1 r2,q2⟩
structure ybl(K:AC)(fd:Aj)(ps ks:List AM)(g:List AE->List AE->List AE)(gV:List V->List V->List V):Prop where
 to:∀(s:AH) (us ws:List AE),K.In s.heap->(g us ws).length=ps.length->Dr s fd ⟨us,ks.zip ws⟩ (ps.zip (g us ws))
 rel:∀{vs:List V} {us:List AE} {zs:List V} {ws:List AE},Vals vs us->Vals zs ws->Vals (gV vs zs) (g us ws)
variable {g:List AE->List AE->List AE}{gV:List V->List V->List V}
end
structure yak(N P:List AM)(sc:Al):Prop where
 kind:sc.kind=.function
 co:sc.isCoroutine=AF
 gen:sc.isGenerator=AF
 nd:N.Nodup
 pre:N.take P.length=P
 par:∀x∈P,sc.names.lookup x=AA .local \/ sc.names.lookup x=AA .cell
 nofree:∀y∈sc.names,y.2 ≠ .free
def zbU{kindOf:AM->Option Bb}{x:AM}:∀{binds:List (AM×AE)} {m:AM->Option AE},(∀v,(x,v)∉binds)->bindL kindOf binds m x=m x
 |[],_,_=>rfl
 |(n,v)::r,m,h=>by
  unfold bindL;rw[zbU λw hw=>h w (AK _ hw)];split
  .have:x≠n:=by rintro rfl;exact h v AV
   simp[this]
  .rfl
def zbX{kindOf:AM->Option Bb}{x:AM}:∀{binds:List (AM×AE)} {m:AM->Option AE},(∀v,(x,v)∉binds)->bindC kindOf binds m x=m x
 |[],_,_=>rfl
 |(n,v)::r,m,h=>by
  unfold bindC;rw[zbX λw hw=>h w (AK _ hw)];split
  .rfl
  .have:x≠n:=by rintro rfl;exact h v AV
   simp[this]
def zbV{kindOf:AM->Option Bb}{x:AM}{v:AE}:∀{P:List AM} {vs:List AE} {i:Nat} {m:AM->Option AE},P.Nodup->P[i]?=AA x->vs[i]?=AA v->kindOf x=AA .local ->
  bindL kindOf (P.zip vs) m x=AA v
 |[],_,_,_,_,h,_,_=>by simp at h
 |_::_,[],_,_,_,_,h,_=>by simp at h
 |p::P,w::vs,0,m,nd,h1,h2,hk=>by
  simp at h1 h2;subst h1;subst h2;show bindL kindOf ((p,w)::P.zip vs) m p=_;unfold bindL;rw[zbU λv hv=>(DA.mp nd).1 (DB hv).1,if_pos hk];simp
 |p::P,w::vs,i+1,m,nd,h1,h2,hk=>by
  show bindL kindOf ((p,w)::P.zip vs) m x=_;unfold bindL;exact zbV (i:=i) (DA.mp nd).2 (by simpa using h1) (by simpa using h2) hk
def zbx{kindOf:AM->Option Bb}{x:AM}{v:AE}:∀{P:List AM} {vs:List AE} {i:Nat} {m:AM->Option AE},P.Nodup->P[i]?=AA x->vs[i]?=AA v->kindOf x≠AA .local ->
  bindC kindOf (P.zip vs) m x=AA v
 |[],_,_,_,_,h,_,_=>by simp at h
 |_::_,[],_,_,_,_,h,_=>by simp at h
 |p::P,w::vs,0,m,nd,h1,h2,hk=>by
  simp at h1 h2;subst h1;subst h2;show bindC kindOf ((p,w)::P.zip vs) m p=_;unfold bindC;rw[zbX λv hv=>(DA.mp nd).1 (DB hv).1,if_neg hk];simp
 |p::P,w::vs,i+1,m,nd,h1,h2,hk=>by
  show bindC kindOf ((p,w)::P.zip vs) m x=_;unfold bindC;exact zbx (i:=i) (DA.mp nd).2 (by simpa using h1) (by simpa using h2) hk
def start(N:List AM)(vs:List V):St:=vs.map AA++Ap (N.length-vs.length) AB
def yaq(CX:CXT)(P:AZ)(w:A8)(K:AC)(mg:AM->Option AE)(base:Ak)(N:List AM)(qual:AM)(scope:Al)(f:AG)(cd:AE)(A:A3)(outer:List Env)(s:AH)(H:Hp)(E:XK):Cx where
 prog:=P
 w:=w
 K:=K
 mg:=mg
 base:=base
 A:=A.deeper (envOfC qual scope s.heap.objs.size f cd)
 N:=N
 s₀:=s
 H₀:=H
 env:=envOfC qual scope s.heap.objs.size f cd
 outer:=outer
 stack:=envOfC qual scope s.heap.objs.size f cd::outer
 ex:=[]
 calm:=AD
 fn:=λ_=>AD
 pn:=[]
 xe:=λe s'=>A2 (model P w) (A.deeper (envOfC qual scope s.heap.objs.size f cd)) («leaving» (envOfC qual scope s.heap.objs.size f cd) e) (λ_ s''=>CX outer H s E e s'') (λe' s''=>CX outer H s E e' s'') s'
def zcr{sc:Al}{n:Nat}{x:AM}(h:sc.names.lookup x=AA .cell):∃c,(cellsFrom n sc.names []).lookup x=AA c:=by
 have q:=Cd sc.names n [] (.inl h);exact A9.mp q
def zbQ{CX:CXT}{P:AZ}{w:A8}{K:AC}{mg:AM->Option AE}{base:Ak}{N ps:List AM}{qual:AM}{scope:Al}{f:AG}{cd:AE}{A:A3}{outer:List Env}{s s1:AH}{H:Hp}{E:XK}{us:List AE}{vs:List V}
  (S:yak N ps scope) (hd:A.handled=AB) (e0:ycq P w K mg base A outer s H) (hl:vs.length=ps.length) (r:Vals vs us)
  (x:InCallC s s.heap.objs.size (bindL (envOfC qual scope s.heap.objs.size f cd).kindOf (ps.zip us) λ_=>AB) (cellsFrom (s.heap.objs.size+1) scope.names []) (bindC (envOfC qual scope s.heap.objs.size f cd).kindOf (ps.zip us) λ_=>AB) s1):
  Inv (yaq CX P w K mg base N qual scope f cd A outer s H E) [] (start N vs) H s1:=by
 have hpl:ps.length<=N.length:=by have:=congrArg CB S.pre;rw[Dg]at this;lia
 let⟨h1,tk,rfl,hk⟩:=x.done;have noA:∀b:AG,b∉(yaq CX P w K mg base N qual scope f cd A outer s H E).ex:=λb z=>absurd (show b∈([]:List AG)from z) (by simp);refine⟨⟨e0.mod,S.kind,rfl,rfl,AN _,λy z c h1 h2=>?_,λy hy=>?_,λy c _ h=>?_,λ_=>hd,Around.frames_deeper e0.frames,.inr ⟨rfl,rfl⟩,λb z=>absurd z (noA b),e0.bs,e0.bsz,λb _ _=>noA b,λb z=>absurd z (noA b),e0.funs,e0.frf⟩,
  rfl,e0.bare,Un.kept hk,⟨_,x.toInCall.ns,λi y v h1 h2 h3=>?_⟩,λy c h=>⟨_,x.cell y c h⟩,e0.hok.fresh (AN _),λy c h=>?_,λp hp=>absurd (show p∈([]:List (AG×BV))from hp) (by simp),e0.hok.kept hk,?_⟩
 .exact name_of_addr x.apart (Bv h1) (Bv h2)
 .have hy:scope.names.lookup y=AA .cell \/ scope.names.lookup y=AA .free:=hy;rcases hy with hy|hy
  .exact zcr hy
  .exact absurd rfl (S.nofree _ (Bv hy))
 .exact Eh (x.above y c (Bv h))
 .have hi:i<vs.length:=by
   unfold start at h2
   by_cases hi:i<vs.length
   .exact hi
   .rw[A1 (by simpa using hi)]at h2;rw[Dh]at h2;split at h2<;>cases h2
  have ha:vs[i]?=AA v:=by
   unfold start at h2;rw[AQ (by simpa using hi),Av]at h2
   cases e:vs[i]? with
   |none=>rw[e]at h2;cases h2
   |some a=>rw[e]at h2;cases h2;rfl
  let⟨u,hu,rv⟩:=r.get ha;have hp:ps[i]?=AA y:=by
   rw[<-S.pre,List.getElem?_take_of_lt ∅];exact h1
  have ndP:ps.Nodup:=by rw[<-S.pre];exact S.nd.sublist (List.take_sublist _ _)
  refine⟨u,rv,?_⟩;rcases S.par y (A7 hp)with k|k
  .exact .inl ⟨k,zbV ndP hp hu k⟩
  .let⟨c,e⟩:=zcr (n:=s.heap.objs.size+1) k;refine .inr ⟨.inl k,c,e,?_⟩;have q:=x.cell y c e;rw[zbx ndP hp hu (by show scope.names.lookup y≠_;rw[k];decide)]at q;exact q
 .exact e0.hok.fresh (Eh (x.above y c (Bv h)))
 .unfold start;show _=N.length;rw[Ao,Ah,List.length_replicate];lia
def zko{CX:CXT}{P:AZ}{w:A8}{K:AC}{mg:AM->Option AE}{base:Ak}{k:Nat}{f:AG}{name qual:AM}{params:Arguments}{body:List B7}{scope:Al}{dV kV doc pm cdv ct oc:AE}{an od:Option AG}
  {osl:Array (Option AE)} {N ps:List AM} {sp:Sp} (lk:K.lookup f=AA ⟨oc,od,.func (BN name qual params body scope dV kV doc pm an cdv ct),osl⟩) (hcd:Bc K cdv qual=AD) (S:yak N ps scope)
  (len:∀vs H Q E,sp vs H Q E->vs.length=ps.length)
  (hbody:∀(A:A3) (outer:List Env) (s:AH) (H:Hp) (vs:List V) (Q:VK) (E:XK),yap k (A.deeper (envOfC qual scope s.heap.objs.size f cdv))->sp vs H Q E ->
   ∃t,PSs (yaq CX P w K mg base N qual scope f cdv A outer s H E) body t/\t {nx:=λ_ H'=>Q .non H',rt:=Q} (start N vs) H):
  yaD P w K mg base CX (k+1) f (BN name qual params body scope dV kV doc pm an cdv ct) ps sp:=by
 refine⟨len,λA outer s H args us vs Q E hr e0 hb r hsp=>?_⟩;have hl:=len _ _ _ _ hsp;have KX:K.In s.heap:=e0.mod.kin.keeps λb o e=>(e0.bs b o e).1;have lim:s.heap.NoLimit:=e0.mod.nolimit.keeps λb o e=>(e0.bs b o e).1;have hkind:∀y∈ps.zip us,scope.names.lookup y.1=AA .local \/ (scope.names.lookup y.1=AA .cell/\((cellsFrom (s.heap.objs.size+1) scope.names []).lookup y.1).isSome=AD):=λ⟨n,v⟩ hy=>by
  rcases S.par n (DB hy).1 with q|q
  .exact .inl q
  .exact .inr ⟨q,Cd _ _ _ (.inl q)⟩
 refine EC hr.depth (KX _ _ lk) rfl S.co S.gen rfl (E9 KX hcd) (hb _ _ _ _ ?_);refine DU S.kind hkind λenv he s1 x=>?_;subst he;refine⟨lim.keeps x.toInCall.keep,codeAny_func ?_⟩;let⟨t,ht,hq⟩:=hbody A outer s H vs Q E (hr.deeper _) hsp;have I:Inv (yaq CX P w K mg base N qual scope f cdv A outer s H E) [] (start N vs) H s1:=zbQ S hr.hd e0 hl r x;refine BA (ht [] s1 (start N vs) H _ I hq) (λfl s' hs=>?_) λe s' hs=>hs;have fin:∀{σ':St} {H':Hp} {v:V} {u:AE},Inv (yaq CX P w K mg base N qual scope f cdv A outer s H E) [] σ' H' s'->RelV v u->Q v H'->CE outer P w H s Q u s':=
  λ{σ' H' v u} J rv q=>⟨v,H',J.os,J.bare,J.base,J.hok,rv,q⟩
 cases fl with
 |ret u=>
  let⟨v,σ',H',J,rv,q⟩:=hs;exact fin J rv q
 |next=>
  let⟨σ',H',J,q⟩:=hs;exact fin (v:=V.non) (u:=Ba) J rfl q
 |brk=>
  let⟨_,_,_,q⟩:=hs;exact BH q
 |cont=>
  let⟨_,_,_,q⟩:=hs;exact BH q
section
variable {X:Cx}{x:AM}{p pos:BZ}{e:AL}{es:List AL}{t:TA}{id T:String}{r:List V->Hp->VK->Prop}
def tCB(r:List V->Hp->VK->Prop)(t:TA):TE:=λσ H Q=>t σ H λvs H1=>r vs H1 Q
def zc3(hc:yV X (.builtin id) r)(hg:Gl X x)(hm:X.mg x=AB)(hv:bootBuiltins x=AA (.builtin id))(ha:PA X (e::es) t)(hn:x ≠ "__name__":=by decide)(hdb:(x==("__debug__":AM))=false:=by decide)
  (he:starEach (e::es) X.env=(AF,eval e X.env)::starEach es X.env:=by rfl) (hpl:(backTo pos (starEach es X.env)).any (·.1)=false:=by rfl):PE X (.Call (.Name x p) (e::es) [] pos) (tCB r t):=by
 intro π s σ H Q I h;refine BO (zbI I hg hm hv ?_ hn hdb);exact FJ (thn (ha pos π s σ H _ I h) λus s1 ⟨vs,H1,I1,r1,q1⟩=>hc π s1 σ H1 vs us Q I1 r1 q1) he hpl
def zes(hc:yV X (.type T) r)(hg:Gl X x)(hm:X.mg x=AB)(hv:bootBuiltins x=AA (.type T))(ha:PA X (e::es) t)(hn:x ≠ "__name__":=by decide)(hdb:(x==("__debug__":AM))=false:=by decide)
  (he:starEach (e::es) X.env=(AF,eval e X.env)::starEach es X.env:=by rfl) (hpl:(backTo pos (starEach es X.env)).any (·.1)=false:=by rfl):PE X (.Call (.Name x p) (e::es) [] pos) (tCB r t):=by
 intro π s σ H Q I h;refine BO (zbI I hg hm hv ?_ hn hdb);exact CM (thn (ha pos π s σ H _ I h) λus s1 ⟨vs,H1,I1,r1,q1⟩=>hc π s1 σ H1 vs us Q I1 r1 q1) he hpl
end
end L2
namespace HT
open PySem PyProof.Rows
section
open PySem.SeqAt
open PySem.AutoSeq1 (wpAny_loadPart')
open PySem.MeetsSeq PySem.MeetsSeq2 PySem.MeetsSeq3
end
section
variable {prog:AZ}{w:A8}{A:A3}{E:AE->AH->Prop}{s:AH}
theorem cat_tup{t b:AG}{vs ws:List AE}{Q:AE->AH->Prop}(ht:IsTup s.heap t vs.toArray)(hb:IsTup s.heap b ws.toArray)(hv:vs≠[])
  (h1:ws=[]->Q (.ref t) s) (h2:ws≠[]->Q (.ref s.heap.objs.size) {s with heap:=s.heap.push {cls:=.type "tuple",data:=.seq (vs++ws).toArray} })
  (hsz:vs.length+ws.length<=sizeLine):A2 (model prog w) A (binaryOp .Add (.ref t) (.ref b)) Q E s:=by
 let⟨⟨cls,dd,data,sl⟩,ho,hc,n,hd⟩:=id ht;let⟨⟨cls2,dd2,data2,sl2⟩,ho2,hc2,n2,hd2⟩:=id hb;simp only at hc hd hc2 hd2;subst hc hd hc2 hd2;have e:vs.toArray++ws.toArray=(vs++ws).toArray:=by simp
 by_cases hw:ws=[]
 .exact En ⟨_,ho,rfl⟩ ⟨_,ho2,rfl⟩ Di E3 Cf C9 (C0 _ _)
   (tuple_addW1 t b vs.toArray ws.toArray n n2 dd dd2 sl sl2 (by simpa using hv) (by simp[hw])) ⟨ho,ho2,h1 hw⟩
 .refine En ⟨_,ho,rfl⟩ ⟨_,ho2,rfl⟩ Di E3 Cf C9 (C0 _ _)
   (tuple_addW2 t b vs.toArray ws.toArray n n2 dd dd2 sl sl2 (by simpa using hv) (by simpa using hw) (by rw[A0,A0];exact hsz)) ⟨ho,ho2,?_⟩
  rw[e];exact h2 hw
def sIx(n d:Nat):Option Int->Nat
 |none=>d
 |some v=>if v<0 then(v+(n:Int)).toNat else min v.toNat n
theorem sIx_le(n d:Nat)(hd:d<=n)(o:Option Int):sIx n d o<=n:=by
 cases o with
 |none=>exact hd
 |some v=>
  show (if v<0 then(v+(n:Int)).toNat else min v.toNat n)<=n
  by_cases hv:v<0
  .rw[if_pos hv];lia
  .rw[if_neg hv];exact Nat.min_le_right _ _
def zeK(v:Int)(n d:Nat):(if v<0 then max (v+(n:Int)) 0 else min v (n:Int))=((sIx n d (AA v):Nat):Int):=by
 show (if v<0 then max (v+(n:Int)) 0 else min v (n:Int))=(((if v<0 then(v+(n:Int)).toNat else min v.toNat n):Nat):Int)
 by_cases hv:v<0
 .simp only[if_pos hv];lia
 .simp only[if_neg hv];lia
def zdd(lo hi:Option Int)(n:Nat):CY lo hi 1 (n:Int)=(((sIx n 0 lo:Nat):Int),((sIx n n hi:Nat):Int)):=by
 have h1:¬((1:Int)<0):=by lia
 unfold CY;erw[h1,if_false];refine Prod.ext ?_ ?_
 .cases lo with
  |none=>rfl
  |some v=>exact zeK v n 0
 .cases hi with
  |none=>rfl
  |some v=>exact zeK v n n
def zdf(i j:Nat):Bf (i:Int) (j:Int) 1=j-i:=by
 unfold Bf;have h1:(1:Int) > 0:=by lia
 erw[h1,if_true,Int.ediv_one];split<;>lia
def zaY{v:AE}{o:Option Int}{Q:Option Int->AH->Prop}(p:Ds v o)(h:Q o s):A2 (model prog w) A (FV v) Q E s:=by
 cases p with
 |none=>exact slicePart_none h
 |int i t=>exact slicePart_int h
theorem sliceApplied_gen{sl:AG}{vl vu:AE}{lo hi:Option Int}{n:Nat}{Q:Int×Int×Nat->AH->Prop}(hs:s.heap.IsSliceOf sl vl vu .none)(pl:Ds vl lo)(pu:Ds vu hi)
  (h:Q (((sIx n 0 lo:Nat):Int),1,sIx n n hi-sIx n 0 lo) s):A2 (model prog w) A (DV (.ref sl) (pure (n:Int))) Q E s:=by
 let⟨os,hos,hcs,hds⟩:=id hs;unfold DV F9;refine AJ (AJ (CC hos hds (x:=vl) rfl (AJ (CC hos hds (x:=vu) rfl (AJ (CC hos hds (x:=.none) rfl (AO ?_)))))));refine AJ (slicePart_none ?_);show A2 _ _ (if ((1:Int)==0)=AD then _ else _) _ _ s;rw[if_neg ⋯];refine AJ (zaY pl (AJ (zaY pu (AJ (AO ?_)))));show A2 _ _ (match CY lo hi 1 (n:Int)with|(lo,hi)=>pure (lo,(1:Int),Bf lo hi 1)) _ _ s;rw[zdd lo hi n];show A2 _ _ (pure (((sIx n 0 lo:Nat):Int),(1:Int),Bf ((sIx n 0 lo:Nat):Int) ((sIx n n hi:Nat):Int) 1)) _ _ s;rw[zdf];exact AO h
def zfl(xs:Array AE)(i k:Nat):((CP k).filterMap λ(m:Nat)=>xs[((i:Int)+(m:Int)*1).toNat]?).toArray=((xs.toList.drop i).take k).toArray:=by
 have e:(λ(m:Nat)=>xs[((i:Int)+(m:Int)*1).toNat]?)=λm=>xs[i+m]?:=by
  funext m
  have:((i:Int)+(m:Int)*1).toNat=i+m:=by lia
  rw[this]
 rw[e];have:=pick_run xs i k;rw[List.filterMap_map]at this;have e2:((λx=>xs[x]?) ∘ λx=>i+x)=λm=>xs[i+m]?:=rfl;rw[e2]at this;rw[this]
theorem getItem_tuple_cut{t sl:AG}{items:Array AE}{vl vu:AE}{lo hi:Option Int}{Q:AE->AH->Prop}(ht:IsTup s.heap t items)(hs:s.heap.IsSliceOf sl vl vu .none)(pl:Ds vl lo)(pu:Ds vu hi)
  (hw:¬(sIx items.size 0 lo=0/\sIx items.size items.size hi=items.size))
  (h:Q (.ref s.heap.objs.size) {s with heap:=s.heap.push {cls:=.type "tuple",data:=.seq ((items.toList.drop (sIx items.size 0 lo)).take (sIx items.size items.size hi-sIx items.size 0 lo)).toArray} })
  (hsz:items.size<=sizeLine):A2 (model prog w) A (getItem (.ref t) (.ref sl)) Q E s:=by
 have htake:sizeOk (.seq ((items.toList.drop (sIx items.size 0 lo)).take (sIx items.size items.size hi-sIx items.size 0 lo)).toArray):=by
  show ((items.toList.drop (sIx items.size 0 lo)).take (sIx items.size items.size hi-sIx items.size 0 lo)).toArray.size<=sizeLine;rw[A0,Dg,FK,DE];lia
 have hj:sIx items.size items.size hi<=items.size:=sIx_le _ _ (AN _) hi;let⟨os,hos,hcs,hds⟩:=id hs;have hTs:s.TypeIs (.ref sl) "slice":=⟨os,hos,hcs⟩;unfold getItem
 try with_reducible refine Bp ?_
 first|refine AJ (AO ?_)|skip
 refine AJ (Eo ht.typeIs ⋯ ?_);refine AJ (By (name:=AX "__getitem__") ht.typeIs Aq
  (Cn Aq ht.typeIs EU ?_ (Ea _ _)))
 show A2 _ _ (CO (.ref t) >>= _) _ _ s;refine AJ (ER ht ?_);refine AJ (Ep hTs ?_);rw[if_pos ⋯];refine AJ (sliceApplied_gen hs pl pu ?_);have hno:¬((((sIx items.size 0 lo:Nat):Int)==0&&(1:Int)==1&&(sIx items.size items.size hi-sIx items.size 0 lo)==items.size)=AD):=by
  intro q;rw[AI,AI]at q;have q1:((sIx items.size 0 lo:Nat):Int)=0:=eq_of_beq q.1.1;have q2:sIx items.size items.size hi-sIx items.size 0 lo=items.size:=eq_of_beq q.2;exact hw ⟨by lia,by lia⟩
 show A2 _ _ (if (((sIx items.size 0 lo:Nat):Int)==0&&(1:Int)==1&&(sIx items.size items.size hi-sIx items.size 0 lo)==items.size)=AD then _ else _) _ _ s;rw[if_neg hno,zfl]
 first
  |exact AJ (m:=Bq _) (BC (AO ⟨_,rfl,AO h⟩) htake)
  |exact AJ (m:=Bq _) (BC (AJ (AO (AO ⟨_,rfl,AO h⟩))) htake)
  |exact AJ (AJ (m:=Bq _) (BC (AO (AO ⟨_,rfl,AO h⟩)) htake))
  |exact AJ (AJ (m:=Bq _) (BC (AO ⟨_,rfl,AO h⟩) htake))
end
end HT
namespace L2
open PySem PySem.Spec PyProof.Rows
abbrev TO:=St->Hp->(Option Int->Hp->Prop)->Prop
def PO(X:Cx)(e:Option AL)(t:TO):Prop:=
 ∀(π:List (AG×BV)) (s:AH) (σ:St) (H:Hp) (Q:Option Int->Hp->Prop),Inv X π σ H s->t σ H Q ->
  A2 (model X.prog X.w) X.A (evalPart e X.env) (λu s'=>∃o H',Inv X π σ H' s'/\Ds u o/\Q o H') X.xe s
def yb2:TO:=λ_ H Q=>Q AB H
section
variable {X:Cx}{e:AL}{te:TE}{lo hi:Option AL}{tl th:TO}{pos p2:BZ}
def zhC:PO X AB yb2:=by
 intro π s σ H Q I h;rw[evalPart_none];exact AO ⟨AB,H,I,.none,h⟩
def SlR(X:Cx)(r:V->Option Int->Option Int->Hp->VK->Prop):Prop:=
 ∀(π:List (AG×BV)) (s:AH) (σ:St) (H:Hp) (x:V) (v vl vu:AE) (lo hi:Option Int) (sl:AG) (Q:VK),Inv X π σ H s->RelV x v->s.heap.IsSliceOf sl vl vu .none->Ds vl lo->Ds vu hi->r x lo hi H Q ->
  ∃T id,typeLookup (.type T) "__getitem__"=pure (AA (.builtin id))/\s.TypeIs v T/\A2 (model X.prog X.w) X.A (getItem v (.ref sl)) (EP X π σ Q) X.xe s
def tSl(r:V->Option Int->Option Int->Hp->VK->Prop)(te:TE)(tl th:TO):TE:=λσ H Q=>te σ H λx H1=>tl σ H1 λl H2=>th σ H2 λu H3=>r x l u H3 Q
def zfU{r:V->Option Int->Option Int->Hp->VK->Prop}(hr:SlR X r)(he:PE X e te)(hl:PO X lo tl)(hu:PO X hi th):PE X (.Subscript e (.Slice lo hi AB p2) pos) (tSl r te tl th):=by
 intro π s σ H Q I h;refine F4 (thn (he π s σ H _ I h) λv s1 kq=>?_);let⟨x,H1,I1,r1,q1⟩:=kq;refine wpAny_Slice (thn (hl π s1 σ H1 _ I1 q1) λvl s2 kq=>?_);let⟨l,H2,I2,pl,q2⟩:=kq;refine thn (hu π s2 σ H2 _ I2 q2) λvu s3 kq=>?_;let⟨u,H3,I3,pu,q3⟩:=kq;rw[evalPart_none];refine AO ?_;have I4:Inv X π σ H3 {s3 with heap:=s3.heap.push {cls:=.type "slice",data:=.fields #[vl,vu,.none]} }:=I3.kept (t':=s3.toks) λb ob q=>AR _ q;let⟨T,id,hT,ht,hg⟩:=hr π {s3 with heap:=s3.heap.push {cls:=.type "slice",data:=.fields #[vl,vu,.none]} } σ H3 x v vl vu l u s3.heap.objs.size Q I4 r1 (GM ..) pl pu q3;show A2 (model X.prog X.w) X.A (subscriptTail e (.Slice lo hi AB p2) v (.ref s3.heap.objs.size)) (EP X π σ Q) X.xe {s3 with heap:=s3.heap.push {cls:=.type "slice",data:=.fields #[vl,vu,.none]} };exact tail_any (ops:=[.ref s3.heap.objs.size,v]) ht hT hg (by with_unfolding_all rfl)
def ybN(xs:List V)(lo hi:Option Int):List V:=(xs.drop (HT.sIx xs.length 0 lo)).take (HT.sIx xs.length xs.length hi-HT.sIx xs.length 0 lo)
def zaN(xs:List V)(lo hi:Option Int):(ybN xs lo hi).length<=xs.length:=by
 unfold ybN;rw[Dg,FK];lia
def yfa(K:AC):V->Option Int->Option Int->Hp->VK->Prop:=λx lo hi H Q=>∃a xs,x=.ref a/\SqT K H a xs /\
 ¬(HT.sIx xs.length 0 lo=0/\HT.sIx xs.length xs.length hi=xs.length)/\∀p,H p=AB->Q (.ref p) (upd H p (.tup (ybN xs lo hi)))
def zji:SlR X (yfa X.K):=by
 intro π s σ H x v vl vu lo hi sl Q I rx hs pl pu h;let⟨a,xs,rfl,hx,hw,q⟩:=h
 cases rx
 let⟨its,r,ht,hz⟩:=I.tuple hx;have hlen:its.toArray.size=xs.length:=by rw[A0];exact r.length.symm
 refine⟨"tuple",_,Aq.lookup,ht.typeIs,?_⟩;refine HT.getItem_tuple_cut ht hs pl pu (by rw[hlen];exact hw) ?_ (by rw[hlen];exact hz);rw[hlen];refine⟨.ref s.heap.objs.size,_,I.laid (t':=s.toks) (o:=.tup (ybN xs lo hi)) (λb ob q=>AR _ q) (AN _) ?_,rfl,q _ (I.hok.fresh (AN _))⟩;exact⟨BB (zaN xs lo hi) hz,_,(r.drop (HT.sIx xs.length 0 lo)).take (HT.sIx xs.length xs.length hi-HT.sIx xs.length 0 lo),A6 _ rfl⟩
def ydd(K:AC):R2:=λx y H Q=>∃a b xs ys,x=.ref a/\y=.ref b/\SqT K H a xs/\SqT K H b ys/\xs≠[]/\xs.length+ys.length<=sizeLine /\
 (ys=[]->Q (.ref a) H)/\(ys≠[]->∀p,H p=AB->Q (.ref p) (upd H p (.tup (xs++ys))))
theorem Vals.nil_iff{xs:List V}{us:List AE}(r:Vals xs us):us=[] ↔ xs=[]:=by
 cases r with
 |nil=>simp
 |cons _ _=>simp
def zg0:OpR X (binaryOp .Add) (ydd X.K):=by
 intro π s σ H x y v u Q I rx ry h;let⟨a,b,xs,ys,rfl,rfl,ha,hb,hx,hz,q1,q2⟩:=h
 cases rx
 cases ry
 let⟨its,r1,p1,_⟩:=I.tuple ha;let⟨its2,r2,p2,_⟩:=I.tuple hb;refine HT.cat_tup p1 p2 (λz=>hx (r1.nil_iff.mp z)) (λz=>⟨.ref a,H,I,rfl,q1 (r2.nil_iff.mp z)⟩) (λz=>?_) (by rw[<-r1.length,<-r2.length];exact hz);refine⟨.ref s.heap.objs.size,_,I.laid (t':=s.toks) (o:=.tup (xs++ys)) (λb ob q=>AR _ q) (AN _) ?_,rfl,q2 (λw=>z (r2.nil_iff.mpr w)) _ (I.hok.fresh (AN _))⟩;exact⟨by rw[Ao];exact hz,_,r1.append r2,A6 _ rfl⟩
end
def ixN(n:Nat)(i:Int):Option Nat:=if 0<=i then(if i<n then AA i.toNat else AB)else if -(n:Int)<=i then AA (i+n).toNat else AB
def atI{α:Type}(xs:List α)(i:Int):Option α:=(ixN xs.length i).bind λj=>xs[j]?
def zep{n:Nat}{i:Int}{j:Nat}(h:ixN n i=AA j):seqIndex? i n=AA j/\j<n/\-(n:Int)<=i/\i<n:=by
 unfold ixN at h
 by_cases h0:0<=i
 .rw[if_pos h0]at h
  by_cases h1:i<n
  .rw[if_pos h1]at h;have e:i.toNat=j:=AU h;exact⟨by rw[FQ h0 h1,e],by lia,by lia,h1⟩
  .rw[if_neg h1]at h;cases h
 .rw[if_neg h0]at h
  by_cases h1:-(n:Int)<=i
  .rw[if_pos h1]at h;have e:(i+n).toNat=j:=AU h;exact⟨by rw[seqIndex_neg ∅ h1,e],by lia,h1,by lia⟩
  .rw[if_neg h1]at h;cases h
def zb6{α:Type}{xs:List α}{i:Int}{v:α}(h:atI xs i=AA v):∃j,seqIndex? i xs.length=AA j/\xs[j]?=AA v/\j<xs.length/\-(xs.length:Int)<=i/\i<xs.length:=by
 unfold atI at h
 cases e:ixN xs.length i with
 |none=>rw[e]at h;cases h
 |some j=>
  rw[e]at h;let⟨h1,h2,h3,h4⟩:=zep e;exact⟨j,h1,h,h2,h3,h4⟩
def yaW(b:AL):Prop:=∀o i,subscripted b AF o i=operate [o,i] (getItem o i)
def IxR(X:Cx)(r:R2):Prop:=
 ∀(value slice:AL) (π:List (AG×BV)) (s:AH) (σ:St) (H:Hp) (x y:V) (v u:AE) (Q:VK),Inv X π σ H s->RelV x v->RelV y u->r x y H Q ->
  subscripted slice AF v u=operate [v,u] (getItem v u)->A2 (model X.prog X.w) X.A (subscriptTail value slice v u) (EP X π σ Q) X.xe s
def MtR(X:Cx)(id:String)(r:V->List V->Hp->VK->Prop):Prop:=
 ∀(π:List (AG×BV)) (s:AH) (σ:St) (H:Hp) (x:V) (xs:List V) (v:AE) (us:List AE) (Q:VK),Inv X π σ H s->RelV x v->Vals xs us->r x xs H Q ->
  A2 (model X.prog X.w) X.A (call (.builtin id) (v::us)) (EP X π σ Q) X.xe s
section
variable {X:Cx}{a b:AL}{ta tb:TE}{pos:BZ}
theorem IxR.or{r r':R2}(h:IxR X r)(h':IxR X r'):IxR X (λx y H Q=>r x y H Q \/ r' x y H Q):=by
 intro value slice π s σ H x y v u Q I rx ry q hs;rcases q with q|q
 .exact h value slice π s σ H x y v u Q I rx ry q hs
 .exact h' value slice π s σ H x y v u Q I rx ry q hs
def zkd{r:R2}(hr:IxR X r)(ha:PE X a ta)(hb:PE X b tb)(hs:yaW b):PE X (.Subscript a b pos) (tOp r ta tb):=by
 intro π s σ H Q I h;exact F4 (zkJ ha hb I h λv u s2 x y H2 I2 rx ry q=>hr a b π s2 σ H2 x y v u Q I2 rx ry q (hs _ _))
def yeB(K:AC):R2:=λx y H Q=>∃p xs i v,x=.ref p/\y=.int i/\SqL K H p xs/\atI xs i=AA v/\Q v H
def yez(K:AC):R2:=λx y H Q=>∃p xs i v,x=.ref p/\y=.int i/\SqT K H p xs/\atI xs i=AA v/\Q v H
def yeN:R2:=λx y H Q=>∃z i c,x=.str z/\y=.int i/\z.length<=sizeLine/\atI z.cps.toList i=AA c/\Q (.str ⟨#[c]⟩) H
def zk1:IxR X (yeB X.K):=by
 intro value slice π s σ H x y v u Q I rx ry h hs;let⟨p,xs,i,z,rfl,rfl,hq,he,q⟩:=h
 cases rx
 let⟨t,rfl⟩:=ry;let⟨its,r,pl,hz⟩:=I.list hq;let⟨j,h1,h2,h3,h4,h5⟩:=zb6 he;let⟨w,ew,rw'⟩:=r.get h2;have hl:=r.length;have hn:=zkD;have fin:EP X π σ Q w s:=⟨z,H,I,rw',q⟩
 by_cases h0:0<=i
 .have hj:i.toNat=j:=by
   rw[FQ h0 h5]at h1;exact AU h1
  exact item_listR pl.isList h0 ∅ (by rw[hj];simpa using ew) fin hs
 .have hj:(i+(its.toArray.size:Int)).toNat=j:=by
   rw[seqIndex_neg ∅ h4]at h1;rw[A0,<-hl];exact AU h1
  exact Dt (x:=w) pl.isList.typeIs Es.lookup
   (wpAny_getItem_list_neg (Q:=λr s'=>r=w/\EP X π σ Q r s') pl.isList ∅ (by rw[A0]<;>lia) ∅ (by rw[hj];simpa using ew) ⟨rfl,fin⟩) hs
def zk2:IxR X (yez X.K):=by
 intro value slice π s σ H x y v u Q I rx ry h hs;let⟨p,xs,i,z,rfl,rfl,hq,he,q⟩:=h
 cases rx
 let⟨t,rfl⟩:=ry;let⟨its,r,pl,hz⟩:=I.tuple hq;let⟨j,h1,h2,h3,h4,h5⟩:=zb6 he;let⟨w,ew,rw'⟩:=r.get h2;have hl:=r.length;have hn:=zkD;have fin:EP X π σ Q w s:=⟨z,H,I,rw',q⟩;exact Dt (x:=w) pl.typeIs Aq.lookup
  (getItem_tuple (j:=j) (Q:=λr s'=>r=w/\EP X π σ Q r s') pl ∅ ∅ (by rw[A0,<-hl];exact h1) (by simpa using ew) ⟨rfl,fin⟩) hs
def zjj:IxR X yeN:=by
 intro value slice π s σ H x y v u Q I rx ry h hs;let⟨z,i,c,rfl,rfl,hz,he,q⟩:=h;let⟨t,rfl⟩:=rx;let⟨t',rfl⟩:=ry;let⟨j,h1,h2,h3,h4,h5⟩:=zb6 he;have hl:z.cps.toList.length=z.length:=by simp[Str.length]
 rw[hl]at h1 h4 h5;have hn:=zkD;exact tail_any (DW s z t) slot_str_getitem.lookup (getItem_str (c:=c) (by
  have e1:decide (i < -(2^63:Int))=false:=decide_eq_false ∅;have e2:decide (i ≥ 2^63)=false:=decide_eq_false ∅;rw[e1,e2,Fc]) (by rw[h1];simpa using h2) ⟨.str ⟨#[c]⟩,H,I.tok _,⟨_,rfl⟩,q⟩) hs
def rIx(K:AC):R2:=λx y H Q=>yeB K x y H Q \/ yez K x y H Q \/ yeN x y H Q
def zcx:IxR X (rIx X.K):=zk1.or (zk2.or zjj)
def zdb(its:List AE)(n j:Nat)(u:AE):Du (·.setIfInBounds j u) {cls:=.type "list",data:=.seq its.toArray n}={cls:=.type "list",data:=.seq (its.set j u).toArray n}:=by
 simp[Du]
theorem Inv.lst{π:List (AG×BV)}{σ:St}{H:Hp}{s:AH}{p:AG}{xs:List V}(I:Inv X π σ H s)(h:H p=AA (.lst xs)):
  ∃(its:List AE) (n:Nat),Vals xs its/\s.heap.get? p=AA {cls:=.type "list",data:=.seq its.toArray n}/\xs.length<=sizeLine:=by
 let⟨z,its,n,r,e⟩:=I.hok p _ h;exact⟨its,n,r,e,z⟩
theorem Inv.lstUpd{π:List (AG×BV)}{σ:St}{H:Hp}{s:AH}{p:AG}{xs ys:List V}{its its':List AE}{n n':Nat}{f:BV->BV}(I:Inv X π σ H s)(h:H p=AA (.lst xs))
  (ho:s.heap.get? p=AA {cls:=.type "list",data:=.seq its.toArray n}) (hf:f {cls:=.type "list",data:=.seq its.toArray n}={cls:=.type "list",data:=.seq its'.toArray n'}) (r:Vals ys its') (hz:ys.length<=sizeLine) (t:Nat):
  Inv X π σ (upd H p (.lst ys)) {s with heap:=s.heap.update p f,toks:=t}:=by
 have e:(s.heap.update p f).get? p=AA {cls:=.type "list",data:=.seq its'.toArray n'}:=by
  rw[ED f ho (by rw[hf]<;>rfl),hf]
 refine I.write (x:=p) (e:=p) (by rw[h];trivial) (.inl rfl) (λb u hb q=>(Cg _ _ (Bl hb)).trans q) ⟨_,e⟩ ?_;exact⟨hz,its',n',r,e⟩
def ycL:V->V->V->Hp->(Hp->Prop)->Prop:=λo i v H Q=>∃p xs k j,o=.ref p/\i=.int k/\H p=AA (.lst xs)/\ixN xs.length k=AA j/\Q (upd H p (.lst (xs.set j v)))
def zcC:yeh X ycL:=by
 intro π s σ H o i v ov iv u Q I ro ri rv h;let⟨p,xs,k,j,rfl,rfl,hp,hj,q⟩:=h
 cases ro
 let⟨t,rfl⟩:=ri;let⟨its,n,r,ho,hz⟩:=I.lst hp;let⟨h1,h2,h3,h4⟩:=zep hj;have hl:=r.length;have hn:=zkD;have I':Inv X π σ (upd H p (.lst (xs.set j v))) {s with heap:=s.heap.update p (Du (·.setIfInBounds j u))}:=
  I.lstUpd hp ho (zdb its n j u) (r.set rv j) (by rw[BE];exact hz) s.toks
 by_cases h0:0<=k
 .have hk:k.toNat=j:=by
   rw[FQ h0 h4]at h1;exact AU h1
  exact PySem.W.ki_setAt ho h0 ∅ (by rw[A0,<-hl];exact h4) (by rw[hk];exact⟨_,I',q⟩)
 .have hk:(k+(its.toArray.size:Int)).toNat=j:=by
   rw[seqIndex_neg ∅ h3]at h1;rw[A0,<-hl];exact AU h1
  exact PySem.W.ki_setBack ho ∅ (by rw[A0,<-hl];exact h3) ∅ (by rw[hk];exact⟨_,I',q⟩)
def zbJ(lo hi:Option Int)(n:Nat):(sliceBounds lo hi AB n).1=((HT.sIx n 0 lo:Nat):Int)/\(sliceBounds lo hi AB n).2.1=((HT.sIx n n hi:Nat):Int)/\(sliceBounds lo hi AB n).2.2=1:=by
 refine⟨?_,?_,rfl⟩
 .cases lo with
  |none=>simp[sliceBounds,HT.sIx]
  |some i=>
   erw[sliceBounds,HT.sIx,FL,show (1:Int) > 0 by decide,if_true]
   by_cases h:i<0
   .simp only[h,if_true]<;>lia
   .simp only[h,if_false]<;>lia
 .cases hi with
  |none=>simp[sliceBounds,HT.sIx]
  |some i=>
   erw[sliceBounds,HT.sIx,FL,show (1:Int) > 0 by decide,if_true]
   by_cases h:i<0
   .simp only[h,if_true]<;>lia
   .simp only[h,if_false]<;>lia
def za8(its:List AE)(lo hi:Option Int):slicePick its.toArray lo hi AB=((its.drop (HT.sIx its.length 0 lo)).take (HT.sIx its.length its.length hi-HT.sIx its.length 0 lo)).toArray:=by
 let⟨h1,h2,h3⟩:=zbJ lo hi its.toArray.size;unfold slicePick;rw[h1,h2,h3];erw[sliceRange_one,pick_run,A0]<;>rfl
def yfs(K:AC):V->Option Int->Option Int->Hp->VK->Prop:=λx lo hi H Q=>∃a xs,x=.ref a/\SqL K H a xs/\∀p,H p=AB->Q (.ref p) (upd H p (.lst (ybN xs lo hi)))
def ze9:SlR X (yfs X.K):=by
 intro π s σ H x v vl vu lo hi sl Q I rx hs pl pu h;let⟨a,xs,rfl,hx,q⟩:=h
 cases rx
 let⟨its,r,ht,hz⟩:=I.list hx;have hlen:=r.length;refine⟨"list",_,Es.lookup,ht.isList.typeIs,?_⟩;refine wpAny_getItem_list_slice ht.isList hs pl pu .none (by simp) ?_ (by rw[A0]<;>lia);rw[za8,<-hlen];refine⟨.ref s.heap.objs.size,_,I.laid (t':=s.toks) (o:=.lst (ybN xs lo hi)) (λb ob q=>AR _ q) (AN _) ?_,rfl,q _ (I.hok.fresh (AN _))⟩;exact⟨BB (zaN xs lo hi) hz,_,0,(r.drop (HT.sIx xs.length 0 lo)).take (HT.sIx xs.length xs.length hi-HT.sIx xs.length 0 lo),A6 _ rfl⟩
def yay:V->Bool
 |.non=>AD
 |.bl _=>AD
 |.int _=>AD
 |.str _=>AD
 |_=>AF
def eqV:V->V->Bool
 |.non,.non=>AD
 |.bl a,.bl b=>a==b
 |.bl a,.int b=>(if a then 1 else 0)==b
 |.int a,.bl b=>a==(if b then 1 else 0)
 |.int a,.int b=>a==b
 |.str a,.str b=>a==b
 |_,_=>AF
def zib{A:A3}{s:AH}{y x:V}{u v:AE}(ry:RelV y u)(rx:RelV x v)(fy:yay y=AD)(fx:yay x=AD):F5 A s u v (eqV y x):=by
 cases y with
 |non=>
  cases ry
  cases x with
  |non=>cases rx;exact SeqAt.EqAt.same _
  |bl b=>cases rx;exact SeqAt.EqAt.none_bool b
  |int b=>let⟨t,rfl⟩:=rx;exact SeqAt.EqAt.none_int b t
  |str b=>let⟨t,rfl⟩:=rx;exact SeqAt.EqAt.none_str b t
  |_=>exact absurd (show AF=AD from fx) AW
 |bl a=>
  cases ry
  cases x with
  |non=>cases rx;exact SeqAt.EqAt.bool_none a
  |bl b=>cases rx;exact SeqAt.EqAt.bool_bool a b
  |int b=>let⟨t,rfl⟩:=rx;exact SeqAt.EqAt.bool_int a b t
  |str b=>let⟨t,rfl⟩:=rx;exact SeqAt.EqAt.bool_str a b t
  |_=>exact absurd (show AF=AD from fx) AW
 |int a=>
  let⟨t',rfl⟩:=ry
  cases x with
  |non=>cases rx;exact SeqAt.EqAt.int_none a t'
  |bl b=>cases rx;exact SeqAt.EqAt.int_bool a t' b
  |int b=>let⟨t,rfl⟩:=rx;exact SeqAt.EqAt.int_int a t' b t
  |str b=>let⟨t,rfl⟩:=rx;exact E5 a t' b t
  |_=>exact absurd (show AF=AD from fx) AW
 |str a=>
  let⟨t',rfl⟩:=ry
  cases x with
  |non=>cases rx;exact SeqAt.EqAt.str_none a t'
  |bl b=>cases rx;exact SeqAt.EqAt.str_bool a t' b
  |int b=>let⟨t,rfl⟩:=rx;exact E6 a t' b t
  |str b=>let⟨t,rfl⟩:=rx;exact SeqAt.EqAt.str_str a t' b t
  |_=>exact absurd (show AF=AD from fx) AW
 |_=>exact absurd (show AF=AD from fy) AW
def eqU(x:V)(u:AE):Bool:=match u with
 |.none=>eqV .non x
 |.bool b=>eqV (.bl b) x
 |.int i _=>eqV (.int i) x
 |.str z _=>eqV (.str z) x
 |_=>AF
def zgu{x y:V}{u:AE}(r:RelV y u)(f:yay y=AD):eqU x u=eqV y x:=by
 cases y with
 |non=>cases r;rfl
 |bl b=>cases r;rfl
 |int i=>let⟨t,rfl⟩:=r;rfl
 |str z=>let⟨t,rfl⟩:=r;rfl
 |_=>exact absurd (show AF=AD from f) AW
def zb0{x:V}:∀{xs:List V} {us:List AE},Vals xs us->xs.all yay=AD->us.any (eqU x)=xs.any λy=>eqV y x
 |_,_,.nil,_=>rfl
 |y::xs,u::us,.cons r t,f=>by
  rw[Ay,AI]at f;rw[BX,BX,zgu r f.1,zb0 t f.2]
def zbm{A:A3}{s:AH}{x:V}{v:AE}(rx:RelV x v)(fx:yay x=AD):∀{xs:List V} {us:List AE},Vals xs us->xs.all yay=AD->∀u∈us,F5 A s u v (eqU x u)
 |_,_,.nil,_=>λu hu=>by cases hu
 |y::xs,u::us,.cons r t,f=>λu' hu=>by
  rw[Ay,AI]at f;rcases A5.mp hu with rfl|hu
  .rw[zgu r f.1];exact zib r rx f.1 fx
  .exact zbm rx fx t f.2 u' hu
def inV(x:V)(xs:List V):Bool:=xs.any λy=>eqV y x
def rIn(K:AC)(neg:Bool):R2:=λx y H Q=>∃p xs,y=.ref p/\(SqL K H p xs \/ SqT K H p xs)/\yay x=AD/\xs.all yay=AD/\Q (.bl (if neg then !inV x xs else inV x xs)) H
def zbL:OpR X (compareOp .In) (rIn X.K AF):=by
 intro π s σ H x y v u Q I rx ry h;let⟨p,xs,rfl,hq,fx,fs,q⟩:=h
 cases ry
 rcases hq with hq|hq
 .let⟨its,r,pl,hz⟩:=I.list hq;refine SeqAt.in_listAt (eqU x) pl.isList (λw hw=>zbm rx fx r fs w (by simpa using hw)) ⟨.bl _,H,I,rfl,?_⟩;rw[show its.toArray.any (eqU x)=its.any (eqU x)by simp,zb0 r fs];exact q
 .let⟨its,r,pl,hz⟩:=I.tuple hq;refine SeqAt.in_tupleAt (eqU x) pl (λw hw=>zbm rx fx r fs w (by simpa using hw)) ⟨.bl _,H,I,rfl,?_⟩;rw[show its.toArray.any (eqU x)=its.any (eqU x)by simp,zb0 r fs];exact q
def zbO:yV X (.builtin "len") (λxs H Q=>∃p ys,xs=[.ref p]/\(SqL X.K H p ys \/ SqT X.K H p ys)/\Q (.int ys.length) H):=by
 intro π s σ H xs us Q I r h;let⟨p,ys,rfl,hq,q⟩:=h;let⟨u,rfl,rx⟩:=vals1 r
 cases rx
 have hn:=zkD;rcases hq with hq|hq
 .let⟨its,r',pl,hz⟩:=I.list hq;have hlen:=r'.length;exact Calls.call_len_list pl.isList (by erw[A0]<;>lia) ⟨.int ys.length,H,I.tok _,⟨s.toks+1,by rw[A0,hlen]⟩,q⟩
 .let⟨its,r',pl,hz⟩:=I.tuple hq;have hlen:=r'.length;exact len_tuple pl (by erw[A0]<;>lia) ⟨.int ys.length,H,I.tok _,⟨s.toks+1,by rw[A0,hlen]⟩,q⟩
def zbw:yV X (.builtin "len") (λxs H Q=>∃z,xs=[.str z]/\z.length<=sizeLine/\Q (.int z.length) H):=by
 intro π s σ H xs us Q I r h;let⟨z,rfl,hz,q⟩:=h;let⟨u,rfl,t,rfl⟩:=vals1 r;have hn:=zkD;exact len_str ∅ ⟨.int z.length,H,I.tok _,⟨_,rfl⟩,q⟩
def zbP:yV X (.type "list") (λxs H Q=>∃p ys,xs=[.ref p]/\(SqL X.K H p ys \/ SqT X.K H p ys)/\∀l,H l=AB->Q (.ref l) (upd H l (.lst ys))):=by
 intro π s σ H xs us Q I r h;let⟨p,ys,rfl,hq,q⟩:=h;let⟨u,rfl,rx⟩:=vals1 r
 cases rx
 have fin:∀(its:List AE),Vals ys its->ys.length<=sizeLine->∀(h':Ak) (c':Nat),(∀b o',s.heap.get? b=AA o'->h'.get? b=AA o') ->
   h'.get? s.heap.objs.size=AA {cls:=.type "list",dict:=AB,data:=.seq its.toArray c',slots:=#[]}->EP X π σ Q (.ref s.heap.objs.size) {s with heap:=h'}:=λits r' hz h' c' kp e=>
  ⟨.ref s.heap.objs.size,_,I.laid (t':=s.toks) kp (AN _) (show yF X.prog X.w _ h' _ (.lst ys)from ⟨hz,its,c',r',e⟩),rfl,q _ (I.hok.fresh (AN _))⟩
 rcases hq with hq|hq
 .let⟨its,r',pl,hz⟩:=I.list hq;have hlen:=r'.length;let⟨o,ho,hc,n,hd⟩:=pl.isList;exact call_list_seq p (.inl rfl) ho hc hd (λh' c' kp e=>fin its r' hz h' c' kp e) (by erw[A0]<;>lia)
 .let⟨its,r',pl,hz⟩:=I.tuple hq;have hlen:=r'.length;let⟨o,ho,hc,n,hd⟩:=pl;exact call_list_seq p (.inr rfl) ho hc hd (λh' c' kp e=>fin its r' hz h' c' kp e) (by erw[A0]<;>lia)
def z7:yV X (.type "tuple") (λxs H Q=>∃p ys,xs=[.ref p]/\((SqL X.K H p ys/\∀l,H l=AB->Q (.ref l) (upd H l (.tup ys))) \/ (SqT X.K H p ys/\Q (.ref p) H))):=by
 intro π s σ H xs us Q I r h;let⟨p,ys,rfl,h⟩:=h;let⟨u,rfl,rx⟩:=vals1 r
 cases rx
 rcases h with⟨hq,q⟩|⟨hq,q⟩
 .let⟨its,r',pl,hz⟩:=I.list hq;have hlen:=r'.length;refine call_tuple_list pl.isList (λh' kp=>?_) (by erw[A0]<;>lia);have I1:Inv X π σ H {s with heap:=h'}:=I.kept (t':=s.toks) kp;have I2:Inv X π σ (upd H h'.objs.size (.tup ys)) {s with heap:=h'.push {cls:=.type "tuple",data:=.seq its.toArray} }:=
   I1.laid (t':=s.toks) (λb o e=>AR _ e) (AN _) (show yF X.prog X.w _ _ _ (.tup ys)from ⟨hz,its,r',A6 _ rfl⟩)
  exact⟨.ref h'.objs.size,_,I2,rfl,q _ (I1.hok.fresh (AN _))⟩
 .let⟨its,r',pl,hz⟩:=I.tuple hq;exact call_tuple_same pl ⟨.ref p,H,I,rfl,q⟩
def tyV(K:AC)(T:String)(x:V)(H:Hp):Prop:=match x with
 |.str _=>T="str"
 |.int _=>T="int"
 |.ref p=>(T="list"/\∃xs,SqL K H p xs) \/ (T="tuple"/\∃o,K.lookup p=AA o/\o.cls=.type "tuple"/\o.dict=AB) \/
   (T="dict"/\((∃kvs,H p=AA (.dK kvs)) \/ ∃kvs,H p=AA (.dT kvs))) \/ (T="set"/\∃S n,H p=AA (.set S n))
 |_=>False
def zij{π:List (AG×BV)}{σ:St}{H:Hp}{s:AH}{T:String}{x:V}{v:AE}(I:Inv X π σ H s)(r:RelV x v)(ty:tyV X.K T x H):
  s.TypeIs v T/\∀a,v=.ref a->∃ob,s.heap.get? a=AA ob/\ob.dict=none:=by
 cases x with
 |str z=>
  let⟨t,rfl⟩:=r
  cases (show T="str" from ty)
  exact⟨DW s z t,λ_ e=>nomatch e⟩
 |int i=>
  let⟨t,rfl⟩:=r
  cases (show T="int" from ty)
  exact⟨typeIs_int s i t,λ_ e=>nomatch e⟩
 |ref p=>
  cases r
  rcases ty with⟨rfl,xs,hq⟩|⟨rfl,o,hk,hc,hd⟩|⟨rfl,hk⟩|⟨rfl,S,n,hk⟩
  .let⟨its,_,pl,_⟩:=I.list hq;refine⟨pl.isList.typeIs,λa e=>?_⟩
   cases e
   let⟨o,n,e,c,hd,_⟩:=pl;exact⟨o,e,hd⟩
  .refine⟨⟨o,I.kIn p o hk,hc⟩,λa e=>?_⟩
   cases e
   exact⟨o,I.kIn _ o hk,hd⟩
  .have z:∃o,s.heap.get? p=AA o/\o.ExactDict:=by
    rcases hk with⟨kvs,hk⟩|⟨kvs,hk⟩
    .let⟨_,_,_,_,o,_,_,e,ex,_⟩:=I.hok p _ hk;exact⟨o,e,ex⟩
    .let⟨_,_,_,_,o,_,_,e,ex,_⟩:=I.hok p _ hk;exact⟨o,e,ex⟩
   let⟨o,e,ex⟩:=z;refine⟨⟨o,e,ex.1⟩,λa e2=>?_⟩
   cases e2
   exact⟨o,e,ex.2.1⟩
  .let⟨o,_,_,_,e,ex,_⟩:=I.hok p _ hk;refine⟨⟨o,e,ex.1⟩,λa e2=>?_⟩
   cases e2
   exact⟨o,e,ex.2.1⟩
 |_=>exact BH ty
def tBM(K:AC)(T:String)(r:V->List V->Hp->VK->Prop)(to:TE)(t:TA):TE:=λσ H Q=>to σ H λx H1=>tyV K T x H1/\t σ H1 λxs H2=>r x xs H2 Q
variable {o e:AL}{es:List AL}{to:TE}{t:TA}{name:AM}{apos cpos:BZ}{T id:String}{r:V->List V->Hp->VK->Prop}
def zku(pa:PlainAttrs T)(slot:Slot T name id)(hty:typeOf (.builtin id)=pure (.type "method_descriptor"))(hm:MtR X id r)(ho:PE X o to)(ha:PA X (e::es) t)
  (hbase:attributeBase o name X.env (eval o X.env)=eval o X.env:=by rfl)
  (hfew:((backTo cpos (starEach (e::es) X.env)).all (λx=>!x.1)&&(backToKw cpos (keywordEach [] X.env)).all (λx=>x.1.isSome)
   && decide ((e::es).length+([]:List CU).length+(if ([]:List CU).isEmpty then 0 else 1)<30))=true:=by rfl)
  (hline:(apos.endLine==cpos.line)=true:=by rfl) (hs:starEach (e::es) X.env=(AF,eval e X.env)::starEach es X.env:=by rfl) (hplain:(backTo cpos (starEach es X.env)).any (·.1)=false:=by rfl):
  PE X (.Call (.Attribute o name apos) (e::es) [] cpos) (tBM X.K T r to t):=by
 intro π s σ H Q I h;refine wpAny_Call_method_late hbase hfew hline rfl (thn (ho π s σ H _ I h) λv s1 kq=>?_);let⟨x,H1,I1,r1,ty,q1⟩:=kq;let⟨h1,h2⟩:=zij I1 r1 ty;refine⟨T,id,pa,slot,hty,h1,h2,?_⟩;have hA:=ha cpos π s1 σ H1 _ I1 q1;rw[hs]at hA ⊢;refine Calls.callWith_builtin (by show (AF || (backTo cpos (starEach es X.env)).any (·.1))=AF;rw[hplain]<;>rfl) (EL ?_);exact thn hA λus s2 ⟨vs,H2,I2,r2,q2⟩=>hm π s2 σ H2 x vs v us Q I2 r1 r2 q2
/- xs.append(e),list.index on a module's tuple .. are MtR facts of 06m -/
end
def MtM(X:Cx)(id:String)(r:V->List V->Hp->VK->Prop):Prop:=
 ∀(π:List (AG×BV)) (s:AH) (σ:St) (H:Hp) (x:V) (xs:List V) (v:AE) (us:List AE) (Q:VK),Inv X π σ H s->RelV x v->Vals xs us->r x xs H Q ->
  A2 (model X.prog X.w) X.A (call (.builtin id) (v::us)) (EP X π σ Q) X.xe s
theorem Vals.one:∀{x:V} {us:List AE},Vals [x] us->∃u,us=[u]/\RelV x u
 |_,_,.cons r .nil=>⟨_,rfl,r⟩
section
variable {X:Cx}{π:List (AG×BV)}{σ:St}{H:Hp}{s:AH}{l b:AG}{xs ys zs:List V}
theorem Inv.lset{its its':List AE}{n:Nat}{f:Array AE->Array AE}{t':Nat}(I:Inv X π σ H s)(hH:H l=AA (.lst xs))
  (e:s.heap.get? l=AA {cls:=.type "list",data:=.seq its.toArray n}) (hf:f its.toArray=its'.toArray) (hv:Vals ys its') (hz:ys.length<=sizeLine):
  Inv X π σ (upd H l (.lst ys)) {s with heap:=s.heap.update l (Du f),toks:=t'}:=by
 have q:=PySem.IsL.update e f;rw[hf]at q;refine I.write (x:=l) (e:=l) (by rw[hH];exact trivial) (.inl rfl) (λb' u hb hu=>(Cg s.heap (Du f) (Bl hb)).trans hu) ⟨_,q⟩ ?_;exact⟨hz,its',_,hv,q⟩
theorem Inv.lnew{its:List AE}{t':Nat}(I:Inv X π σ H s)(hv:Vals ys its)(hz:ys.length<=sizeLine):
  Inv X π σ (upd H s.heap.objs.size (.lst ys)) {s with heap:=s.heap.push {cls:=.type "list",data:=.seq its.toArray},toks:=t'}:=
 I.laid (λ_ _ q=>AR _ q) (AN _) ⟨hz,its,0,hv,A6 _ rfl⟩
theorem Inv.fresh(I:Inv X π σ H s):H s.heap.objs.size=none:=I.hok.fresh (AN _)
theorem Inv.lstM(I:Inv X π σ H s)(hH:H l=AA (.lst xs)):xs.length<=sizeLine/\∃(its:List AE) (n:Nat),Vals xs its/\xs.length=its.length/\s.heap.get? l=AA {cls:=.type "list",data:=.seq its.toArray n}:=by
 let⟨z,its,n,r,e⟩:=I.hok l _ hH;exact⟨z,its,n,r,r.length,e⟩
end
section
variable {X:Cx}
def ybZ:V->List V->Hp->VK->Prop:=λx vs H Q=>∃l xs y,x=.ref l/\vs=[y]/\H l=AA (.lst xs)/\xs.length<sizeLine/\Q .non (upd H l (.lst (xs++[y])))
def zbu:MtM X "list.append" ybZ:=by
 intro π s σ H x vs v us Q I rx rv h;let⟨l,xs,y,rfl,rfl,hH,hz,q⟩:=h
 cases rx
 let⟨u,rfl,ru⟩:=rv.one;let⟨z,its,n,r,hl,e⟩:=I.lstM hH;refine Eb F.slot_list_append ⟨_,e,rfl⟩ F.entry_list_append (F.args_list_append_2 _ _) (PySem.list_append l its.toArray n u (by rw[A0];lia)) ⟨e,?_⟩;refine⟨.non,_,I.lset (its':=its++[u]) hH e (by simp) (r.append (.cons ru .nil)) ?_,rfl,q⟩;rw[Ao,List.length_singleton];lia
def yga:R2:=λx y H Q=>∃l b xs zs,x=.ref l/\y=.ref b/\H l=AA (.lst xs)/\H b=AA (.lst zs)/\xs.length+zs.length<=sizeLine/\∀p,H p=AB->Q (.ref p) (upd H p (.lst (xs++zs)))
def ziU:OpR X (binaryOp .Add) yga:=by
 intro π s σ H x y v u Q I rx ry h;let⟨l,b,xs,zs,rfl,rfl,hH,hB,hz,q⟩:=h
 cases rx
 cases ry
 let⟨z,its,n,r,hl,e⟩:=I.lstM hH;let⟨z2,its2,n2,r2,hl2,e2⟩:=I.lstM hB;refine PySem.P.add_list e e2 ?_ (by rw[A0,A0];lia);have ea:its.toArray++its2.toArray=(its++its2).toArray:=by simp
 rw[ea];exact⟨.ref _,_,I.lnew (t':=s.toks) (r.append r2) (by rw[Ao];lia),rfl,q _ I.fresh⟩
end
section
variable {prog:AZ}{w:A8}{A:A3}{E:AE->AH->Prop}{s:AH}
end
section
variable {X:Cx}
end
end L2
namespace Att
open PySem PySem.W PySem.Calls PyProof.Rows
def zaL{P:Params}{h:Ak}:∀(ns:List Int) (vs:List AE),WellAll P h vs (ns.map GR)->FY vs ns:=by
 intro ns
 induction ns with
 |nil=>
  intro vs w;rw[CD]at w
  cases w
  exact .nil
 |cons n ns ih=>
  intro vs w;rw[AS]at w
  cases w with
  |cons a b=>
   cases a
   exact .cons _ _ (ih _ b)
def zdJ{l:Dn}{n:Nat}(hn:l.most=AA n){P:Params}{h:Ak}{args:List WData}{vals:List AE}
  (hpre:l.row.toRowW.claim.pre args=AD) (hwl:WellAll P h vals args):
  ∃a vs ns,vals=[BF a]/\args=[WData.list (ns.map GR)]/\h.get? a=AA {cls:=.type "list",data:=.seq vs.toArray}/\FY vs ns/\ns.length<=n:=by
 have hsh:WShape.hasAll [] args [.list .int]=true:=(pre_splitW hpre).1;have hc:l.pre.holds [] {args:=args}=true:=(pre_splitW hpre).2;let⟨d,r,rfl,h1,h2⟩:=hasAllW_cons hsh;obtain rfl:=hasAllW_nil h2;let⟨xs,rfl,h3⟩:=hasW_list h1;let⟨ns,rfl⟩:=items_int h3;have hlen:ns.length<=n:=by
  unfold OpenLaw.pre at hc;have h4:(WTm.not (.lt (.lit (.int (n:Int))) (.len (.arg 0)))).holds [] {args:=[.list (ns.map .int)]}=true:=by
   have h4:=(holds_andW hc).1;rw[hn]at h4;exact h4
  have h5:=condW_of h4 (w_not (w_lt w_lit (w_len_list (w_arg rfl))));rw[Ah]at h5;refine Nat.le_of_not_lt λq=>?_;have q':(n:Int)<((ns.length:Nat):Int):=by lia
  first
   |(rw[decide_eq_true q']at h5;exact absurd h5 ⋯)
   |(simp at h5;lia)
 cases hwl with
 |cons w1 w2=>
  cases w2
  cases w1 with
  |list ho hall=>exact⟨_,_,ns,rfl,rfl,ho,zaL ns _ hall,hlen⟩
def zdW(l:Dn)(args:List WData):l.row.toRowW.claim.post args (.bool AD) args=true:=
 postW_of (r:=l.row.toRowW) (X:=(AD==AD))
  (show GN [] (.bool AD) .bool=AD by first|rfl|decide|simp[GN,WShape.arms,WShape.armsAll])
  (show (WTm.eq .res (.lit (.bool AD))).value [] {args:=args,res:=AA (.bool AD),after:=args}=AA (.bool (AD==AD))from w_eq_bool (w_res rfl) w_lit) rfl
theorem attach_call{l:Dn}{n:Nat}{q:AZ}{loose:List AM}{XP:(AM->Option AE)->Ak->Prop}{YP:A8->Ak->Prop}{d:DefRec}
  (hn:l.most=AA n) (hdf:d.params.defaults=[])
  (call:∀(w:A8) (s₀ s₁:AH) (mg mb:AM->Option AE) (fa:AG) (o:BV) (pm cd doc:AE) (a:AG) (vs:List AE) (ns:List Int),
   Ground q loose [] XP w s₀ mg mb s₁.heap->YP w s₁.heap ->
   s₁.heap.get? fa=AA o->o.data=.func (docDef d.name d.params d.body d.scope pm cd doc)->s₁.heap.CodeRec cd d.name->mg d.name=AA (.ref fa) ->
   s₁.heap.get? a=AA {cls:=.type "list",data:=.seq vs.toArray}->FY vs ns->ns.length<=n->s₁.gens=#[] ->
   codeAny (model l.prog w) callerA (.call (.ref fa) ⟨[.ref a],[]⟩) (λr s'=>r=.ok (.ret (.bool AD))/\OldK s₁.heap s'.heap/\s'.os=s₁.os/\Ct s'.gens) s₁):
  FZ q loose XP YP l.row.toRowW d [] (λf vs=>F6 f vs):=by
 intro w s₀ s₁ mg mb G Y fa o pm cd doc dV kV ho hd hcd hD hmg hg args vals as hpre hlay hrd hwl hlo;obtain rfl:dV=.none:=Dflts.none hD hdf;obtain rfl:kV=.none:=Dflts.noKw hD;let⟨a,vs,ns,rfl,rfl,hobj,hints,hlen⟩:=zdJ hn hpre hwl;refine enter_call (DG (call w s₀ s₁ mg mb fa o pm cd doc a vs ns G Y ho (fd_plain hd) hcd hmg hobj hints hlen hg) λr s' hq=>?_);let⟨rfl,h2,h3,h4⟩:=hq;exact⟨.inl ⟨.bool AD,.bool AD,[],rfl,λ_=>rfl,.bool AD,zdW l _,λ_=>⟨GP,λ_ hm=>(nomatch hm)⟩⟩,h2,h3,h4⟩
section
variable {prog:AZ}{w:A8}{A:A3}{E:AE->AH->Prop}{s:AH}{K:AC}
end
end Att
namespace L2
open PySem PySem.Spec PyProof.Rows
def zbK:∀{vs:List AE} {ns:List Int},FY vs ns->Vals (ns.map V.int) vs
 |_,_,.nil=>.nil
 |_,_,.cons n t h=>.cons ⟨t,rfl⟩ (zbK h)
def Only(H:Hp):Prop:=∀b,H b=AB \/ ∃o xs,H b=AA (.frz o (.lst xs))
def zga{P:AZ}{w:A8}{K:AC}{mg mb:AM->Option AE}{CX:CXT}{k:Nat}{fa a:AG}{fd:Aj}{x:AM}{sp:Sp}{s₁:AH}{vs:List AE}{ns:List Int}
  (KX:K.In s₁.heap) (hns:s₁.heap.Ns mainGlobals mg) (hb:s₁.heap.Ns builtinsNs mb) (hbb:∀x:AM,x ≠ "__name__"->mb x=bootBuiltins x) (hlim:s₁.heap.NoLimit) (hg:s₁.gens=#[])
  (ha:s₁.heap.get? a=AA {cls:=.type "list",data:=.seq vs.toArray}) (hi:FY vs ns) (hl:ns.length<=sizeLine) (hr:yap k callerA)
  (F:∀base:Ak,K.In base->base.Ns mainGlobals mg->yaD P w K mg base CX k fa fd [x] sp) (hbind:∀(s:AH) (u:AE),Dr s fd ⟨[u],[]⟩ [(x,u)])
  (hsp:∀H:Hp,Only H->SqL K H a (ns.map V.int)->sp [.ref a] H (λv _=>v=.bl AD) λ_ _ _=>False)
  (hCX:∀H e s',CX [] H s₁ (λ_ _ _=>False) e s'->False):
  codeAny (model P w) callerA (.call (.ref fa) ⟨[.ref a],[]⟩) (λr s'=>r=.ok (.ret (.bool AD))/\OldK s₁.heap s'.heap/\s'.os=s₁.os/\Ct s'.gens) s₁:=by
 have rv:=zbK hi;have lenV:=hi.length;have core:∀H:Hp,Only H->SqL K H a (ns.map V.int)->HOk P w H s₁.heap->(∀b,H b≠AB->b=a)->(H a≠AB->K.lookup a=AB) ->
   codeAny (model P w) callerA (.call (.ref fa) ⟨[.ref a],[]⟩) (λr s'=>r=.ok (.ret (.bool AD))/\OldK s₁.heap s'.heap/\s'.os=s₁.os/\Ct s'.gens) s₁:=by
  intro H hO hS hok hA hK;have base_of:∀{b:AG} {o:BV},s₁.heap.get? b=AA o->H b=AB->(ybG s₁.heap H).get? b=AA o:=λe n=>zfv e n;have noA:∀{b:AG} {o:BV} {es:Array Bj} {ep:Nat},s₁.heap.get? b=AA o->o.data=.dict es ep->H b=none:=λ{b o es ep} e d=>by
   cases q:H b with
   |none=>rfl
   |some u=>
    have e':b=a:=hA b (by rw[q];simp);subst e';rw[ha]at e;cases e;have d':Data.seq vs.toArray _=Data.dict es ep:=d
    cases d'
  have nsK:∀{b:AG} {m:AM->Option AE},s₁.heap.Ns b m->(ybG s₁.heap H).Ns b m:=λ{b m} ⟨o,es,ep,e,d,r⟩=>⟨o,es,ep,base_of e (noA e d),d,r⟩;have hKb:K.In (ybG s₁.heap H):=λb o e=>base_of (KX b o e) (by
   cases q:H b with
   |none=>rfl
   |some u=>
    have e':b=a:=hA b (by rw[q];simp);subst e';rw[hK (by rw[q];simp)]at e;cases e)
  have hM:Mod K mg (ybG s₁.heap H):=⟨hKb,nsK hns,⟨mb,nsK hb,hbb⟩,let ⟨mc,h1,h2⟩:=hlim;⟨mc,nsK h1,h2⟩⟩;have e0:ycq P w K mg (ybG s₁.heap H) callerA [] s₁ H:=⟨rfl,hM,λb o e=>zhe e,Fv (zea _ _),trivial,λb hb=>absurd (show b∈([]:List AG)from hb) (by simp),hok,.of_eq hg⟩;refine DG ((F _ hKb (nsK hns)).run callerA [] s₁ H ⟨[.ref a],[]⟩ [.ref a] [.ref a] _ _ hr e0 (hbind s₁ (.ref a)) (.cons rfl .nil) (hsp H hO hS)) λr s' h=>?_
  cases r with
  |error e=>exact(hCX H e s' h).elim
  |ok fl=>
   cases fl with
   |next=>exact BH h
   |brk=>exact BH h
   |cont=>exact BH h
   |ret u=>
    let⟨v,H',os,bare,un,hok',r',q⟩:=h;have q':v=.bl true:=q;subst q';obtain rfl:u=C5 true:=r';refine⟨rfl,OldK.of_keep λb o e=>?_,os,bare⟩
    cases q:H b with
    |none=>exact un.keep b o e q (by intro z;exact absurd (show b∈([]:List AG)from z) (by simp)) (by simp)
    |some u=>
     rcases hO b with z|⟨ob,xs,z⟩
     .rw[q]at z;cases z
     .have z2:=un.frzs b ob _ z;let⟨e1,_⟩:=hok b _ z;let⟨e2,_⟩:=hok' b _ z2;rw[e]at e1;cases e1;exact e2
 cases hk:K.lookup a with
 |some o=>
  have e:=KX a o hk;rw[ha]at e
  cases e
  refine core (λ_=>AB) (λ_=>.inl rfl) (.inr ⟨_,vs.toArray,_,hk,rfl,rfl,rfl,by rw[A0,lenV];exact hl,by simpa using rv⟩) (λb u z=>by have z':(AB:Option HO)=AA u:=z;cases z') (λb z=>absurd rfl z) λz=>absurd rfl z
 |none=>
  refine core (λb=>if b=a then AA (.frz {cls:=.type "list",data:=.seq vs.toArray} (.lst (ns.map V.int)))else AB) (λb=>?_) (.inl (.inr ⟨{cls:=.type "list",data:=.seq vs.toArray},if_pos rfl⟩)) (λb u z=>?_) (λb z=>?_) λ_=>hk
  .by_cases hb:b=a
   .exact .inr ⟨_,_,if_pos hb⟩
   .exact .inl (if_neg hb)
  .by_cases hb:b=a
   .have z':=(if_pos hb).symm.trans z
    cases z'
    subst hb;exact⟨ha,by rw[Ah];exact hl,vs,_,rv,ha⟩
   .have z':=(if_neg hb).symm.trans z
    cases z'
  .by_cases hb:b=a
   .exact hb
   .exact absurd (if_neg hb) z
theorem walk_of{l:Dn}{n k:Nat}{q:AZ}{loose:List AM}{XP:(AM->Option AE)->Ak->Prop}{YP:A8->Ak->Prop}{d:DefRec}{K:Params->AC}{CX:A8->CXT}{sp:A8->Sp}{x:AM}
  (hn:l.most=AA n) (hn2:n<=sizeLine) (hdf:d.params.defaults=[]) (hr:yap k callerA)
  (hY:∀(w:A8) (h:Ak),YP w h->(K w.params).In h)
  (F:∀(w:A8) (mg:AM->Option AE) (fa:AG) (h:Ak),(K w.params).In h->h.Ns mainGlobals mg->mg d.name=AA (.ref fa) ->
   ∃fd:Aj,(∀(s:AH) (u:AE),Dr s fd ⟨[u],[]⟩ [(x,u)]) /\
    ∀base:Ak,(K w.params).In base->base.Ns mainGlobals mg->yaD l.prog w (K w.params) mg base (CX w) k fa fd [x] (sp w))
  (hsp:∀(w:A8) (H:Hp) (a:AG) (ns:List Int),ns.length<=n->Only H->SqL (K w.params) H a (ns.map V.int)->sp w [.ref a] H (λv _=>v=.bl AD) λ_ _ _=>False)
  (hCX:∀(w:A8) (H:Hp) (s:AH) (e:AE) (s':AH),CX w [] H s (λ_ _ _=>False) e s'->False):
  FZ q loose XP YP l.row.toRowW d [] (λf vs=>F6 f vs):=by
 refine Att.attach_call hn hdf λw s₀ s₁ mg mb fa o pm cd doc a vs ns G Y ho hd hcd hmg hobj hints hlen hg=>?_;have KX:=hY w _ Y;let⟨fd,hb,hF⟩:=F w mg fa _ KX G.T.g hmg;exact zga KX G.T.g G.T.b G.T.builtins G.T.nolimit hg hobj hints (BB hlen hn2) hr hF hb (λH hO hS=>hsp w H a ns hlen hO hS) λH e s'=>hCX w H s₁ e s'
def yQ(s:B7):Arguments:=match s with
 |.FunctionDef _ a _ _ _ _ _ _ _ _=>a
 |_=>{posonlyargs:=[],args:=[],vararg:=AB,kwonlyargs:=[],kw_defaults:=[],kwarg:=AB,defaults:=[]}
def yG(s:B7):List Stmt:=match s with
 |.FunctionDef _ _ b _ _ _ _ _ _ _=>b
 |_=>[]
def yg(s:B7):Scope:=match s with
 |.FunctionDef _ _ _ _ _ _ sc _ _ _=>sc
 |_=>{kind:=.function,names:=[],isGenerator:=AF,isCoroutine:=AF}
abbrev CX0:CXT:=λ_ _ _ _ _ _=>False
abbrev E0:XK:=λ_ _ _=>False
structure Fun(K:AC)(x qual:AM)(st:B7)(f:AG)(fd:Aj):Prop where
 ex:∃(oc:AE) (od:Option AG) (kV doc pm:AE) (an:Option AG) (cdv ct:AE) (osl:Array (Option AE)),
  fd=BN x qual (yQ st) (yG st) (yg st) .none kV doc pm an cdv ct/\K.lookup f=AA ⟨oc,od,.func fd,osl⟩/\Bc K cdv qual=AD
 kp:Aa K (.ref f)=AD
section
variable {P:AZ}{w:A8}{K:AC}{mg:AM->Option AE}{base:Ak}
theorem Fun.binds{x qual:AM}{st:B7}{f:AG}{fd:Aj}{ps:List AM}(F:Fun K x qual st f fd)
  (h:∀(kV doc pm:AE) (an:Option AG) (cdv ct:AE) (us:List AE),us.length=ps.length->bindArgs (BN x qual (yQ st) (yG st) (yg st) .none kV doc pm an cdv ct) ⟨us,[]⟩=pure (ps.zip us)):Binds K fd ps []:=by
 let⟨oc,od,kV,doc,pm,an,cdv,ct,osl,rfl,lk,hcd⟩:=F.ex;exact .all (h kV doc pm an cdv ct)
end
section
variable {X:Cx}
end
def yek(i j:Int):Prop:=0<=j/\j<=1000000/\i.natAbs<2^200
def zfR{a n:Int}(ha:a.natAbs<2^200)(hn:n<=1000000):(CZ a:Int)+n<=2^27:=by
 have hb:CZ a<=200:=by
  unfold CZ;split
  .exact B9 _
  .rename_i h;have h0:a.natAbs≠0:=λz=>h (by simpa using Int.natAbs_eq_zero.1 z);exact(GI h0).2 ha
 lia
section
variable {X:Cx}
def zhA:OpR X (binaryOp .LShift) (rI yek λi j=>.int (i*2^j.toNat)):=opI λ_ _ _ _ _ _ _ hc q=>lshift_int hc.1 (zfR hc.2.2 hc.2.1) q
end
end L2
namespace WE
open PySem PySem.Spec PyProof.Rows
open AutoSeq1 (wpAny_loadPart')
section
variable {pg:AZ}{wd:A8}{A:A3}{Er:AE->AH->Prop}{s:AH}
def zde{it t:AG}{i:Nat}{xs:Array AE}{x:AE}{Q:AE->AH->Prop}(hi:s.heap.IsTupleIter it t i)(ht:s.heap.IsTuple t xs)(hx:xs[i]?=AA x)
  (k:∀h',h'.IsTupleIter it t (i+1)->B6 it s.heap h'->Q x {s with heap:=h'}):A2 (model pg wd) A (Bg (.ref it)) Q Er s:=by
 let⟨oi,gi,ci,di⟩:=id hi;let⟨ot,gt,_,nt,dt⟩:=ht;unfold Bg;refine AJ (By (name:=AX "__next__") hi.typeIs Bd (Cn Bd hi.typeIs DH ?_ (DC _)));show A2 _ _ (field (.ref it) 0 >>= _) _ _ _;refine AJ (CC gi di (x:=.ref t) rfl ?_);show A2 _ _ (if (BF t==Ba)=AD then _ else _) _ _ _;rw[if_neg (show ¬((BF t==Ba)=AD)from λz=>AW z)];show A2 _ _ (field (.ref it) 1 >>= _) _ _ _;refine AJ (CC gi di (x:=.int i 0) rfl ?_);show A2 _ _ (seqItems? (.ref t) >>= _) _ _ _;refine AJ (EH gt dt ?_);erw[Et,hx];refine AJ (EM gi di (by simp) (AO ⟨x,rfl,AO (k _ ?_ (EV ..))⟩));refine⟨_,ED _ gi (Obj.isFreed_of_fields (Ec di _)),(Obj.cls_mapFields ..).trans ci,?_⟩;rw[Ec di];simp[rawInt]
def zdC{it t:AG}{i:Nat}{xs:Array AE}{Q:AE->AH->Prop}(hh:A.handled=AB)(hi:s.heap.IsTupleIter it t i)(ht:s.heap.IsTuple t xs)(hx:xs[i]?=AB)
  (k:∀h' e,Heap.ExtBut it s.heap h'->(∃o,h'.get? e=AA o/\o.cls=.type "StopIteration")->Er (.ref e) {s with heap:=h'}):A2 (model pg wd) A (Bg (.ref it)) Q Er s:=by
 let⟨oi,gi,ci,di⟩:=id hi;let⟨ot,gt,_,nt,dt⟩:=ht;unfold Bg;refine AJ (By (name:=AX "__next__") hi.typeIs Bd (Cn Bd hi.typeIs DH ?_ (DC _)));show A2 _ _ (field (.ref it) 0 >>= _) _ _ _;refine AJ (CC gi di (x:=.ref t) rfl ?_);show A2 _ _ (if (BF t==Ba)=AD then _ else _) _ _ _;rw[if_neg (show ¬((BF t==Ba)=AD)from λz=>AW z)];show A2 _ _ (field (.ref it) 1 >>= _) _ _ _;refine AJ (CC gi di (x:=.int i 0) rfl ?_);show A2 _ _ (seqItems? (.ref t) >>= _) _ _ _;refine AJ (EH gt dt ?_);erw[Et,hx];refine AJ (Do (AJ (EM gi di (by simp) ?_)));show A2 _ _ (newExc (.type "StopIteration") [] >>= _) _ _ _;refine AJ ?_;erw[newExc,newTuple];refine AJ (BC ?_ (by size_fits));refine AJ (m:=firstArgMember _ _) (wpAny_of_eq (a:=Ba) (by first|rfl|(erw[firstArgMember];rfl)) ?_);refine BC ?_ (by size_fits);erw[raiseNew];refine AJ (wpAny_handled ?_);first|rw[show A.in1.handled=AB from hh]|rw[hh]
 refine AJ (AO (wpAny_throw ?_));exact k _ _ (((EV ..).extBut.push _).push _) ⟨_,A6 _ rfl,rfl⟩
end
theorem draws_tuple{pg:AZ}{wd:A8}{A:A3}(hh:A.handled=AB)(it t:AG)(hne:t≠it)(xs:Array AE):
  Draws pg wd A it [it,t] xs.size (λi v=>xs[i]?=AA v) (λi h=>h.IsTupleIter it t i/\h.IsTuple t xs) where
 live:=λ_ _ st=>let ⟨o,g,_⟩:=st.1;⟨o,g⟩
 frame:=λ_ _ _ st kp=>⟨let ⟨o,g,r⟩:=st.1;⟨o,kp it (by simp) o g,r⟩,let ⟨o,g,r⟩:=st.2;⟨o,kp t (by simp) o g,r⟩⟩
 item:=λi s Q E hi st hQ=>zde st.1 st.2 (x:=xs[i]) (by simp[hi]) λh' hit' hs'=>hQ _ h' s.toks (by simp[hi]) ⟨hit',st.2.extBut hs'.extBut hne⟩ hs'
 done:=λs Q E st hE=>zdC hh st.1 st.2 (by simp) hE
def zcp(l:AG)(xs:Array AE)(n:Nat)(dc:Option AG)(sl:Array (Option AE)):
  Meets (Builtin.«enumerate.__new__» ⟨[.type "enumerate",.ref l],[]⟩) (λ_ R s=>s.heap.get? l=AA {cls:=.type "tuple",dict:=dc,data:=.seq xs n,slots:=sl} /\
   R (.ok (.ret (.ref (s.heap.push {cls:=.type "tuple_iterator",data:=.fields #[.ref l,.int 0 0]}).objs.size)))
    {s with heap:=(s.heap.push {cls:=.type "tuple_iterator",data:=.fields #[.ref l,.int 0 0]}).push {cls:=.type "enumerate",data:=.fields #[.none,.bool AF,.ref s.heap.objs.size,rawInt 0,.none,.none]} }):=
 .of_wp λprog w A R s h=>by
  let⟨hp,g,d,tk,os⟩:=s;let⟨gl,h⟩:=h;have hsub:=sub_enumerate;have hT:Heap.IsTuple (Shared.heap ⟨hp,g,d,tk,os⟩) l xs:=⟨_,gl,rfl,n,rfl⟩
  wp_walk using wpAny_loadPart' gl
  refine wpAny_stack_any λst=>AO ?_;split
  .rename_i c _ _ _ _ _
   cases (c==F1 "enumerate")
   .wp_walk using wpAny_loadPart' gl,C6 hT
    exact⟨_,rfl,h⟩
   .wp_walk using wpAny_loadPart' gl,C6 hT
    exact⟨_,rfl,h⟩
  .wp_walk using wpAny_loadPart' gl,C6 hT
   exact⟨_,rfl,h⟩
theorem call_enumT{pg:AZ}{wd:A8}{A:A3}{Er:AE->AH->Prop}{s:AH}{l:AG}{xs:Array AE}{Q:AE->AH->Prop}(hT:s.heap.IsTuple l xs)
  (k:∀h',IsEnum h' (s.heap.objs.size+1) s.heap.objs.size 0 .none->h'.IsTupleIter s.heap.objs.size l 0->h'.objs.size=s.heap.objs.size+2 ->
   (∀b o,s.heap.get? b=AA o->h'.get? b=AA o)->Q (.ref (s.heap.objs.size+1)) {s with heap:=h'}):A2 (model pg wd) A (call (.type "enumerate") [.ref l]) Q Er s:=by
 let⟨⟨c,dct,dt,sl⟩,gl,hc,n,hd⟩:=hT
 cases (show c=.type "tuple" from hc)
 cases (show dt=.seq xs n from hd)
 refine callType_new F.called_enumerate ⋯ (F.typeCall_enumerate_1 _) (F.newCall_enumerate_1 _) (λobj=>F.args_object_init_2 obj _) F.entry_enumerate_new (zcp l xs n dct sl) ⟨gl,?_⟩;have hz:(s.heap.push {cls:=.type "tuple_iterator",data:=.fields #[.ref l,.int 0 0]}).objs.size=s.heap.objs.size+1:=EN ..;show _/\_;rw[hz];have he:IsEnum ((s.heap.push {cls:=.type "tuple_iterator",data:=.fields #[.ref l,.int 0 0]}).push {cls:=.type "enumerate",data:=.fields #[.none,.bool AF,.ref s.heap.objs.size,rawInt 0,.none,.none]}) (s.heap.objs.size+1) s.heap.objs.size 0 .none:=by
  have q:=A6 (s.heap.push {cls:=.type "tuple_iterator",data:=.fields #[.ref l,.int 0 0]}) (o:={cls:=.type "enumerate",data:=.fields #[.none,.bool AF,.ref s.heap.objs.size,rawInt 0,.none,.none]}) rfl;rw[hz]at q;exact q
 exact⟨⟨_,he,rfl⟩,k _ he ⟨_,AR _ (A6 _ rfl),rfl,rfl⟩ (by rw[EN,hz]) λb o y=>AR _ (AR _ y)⟩
end WE
namespace L2
open PySem PySem.Spec PyProof.Rows
section
variable {X:Cx}
def yc0(i j:Int):Prop:=0<j/\j<10000000000000000000000000000000000000000000000000000000000000000000000
def zfz:OpR X (binaryOp .FloorDiv) (rI yc0 λi j=>.int (i/j)):=opI λi j _ _ _ _ _ hc q=>by
 let⟨h1,h2⟩:=hc;refine floordiv_int ∅ (by rw[DS i ∅];exact q) (.inl (PyProof.noPylong_of_log2 ?_));have h0:j.natAbs≠0:=by lia
 refine AY ((GI h0).mpr (?_:j.natAbs<2^250)) ⋯;have e:(10000000000000000000000000000000000000000000000000000000000000000000000:Nat)<2^250:=by decide
 lia
end
section
variable {X:Cx}{π:List (AG×BV)}{σ:St}{H:Hp}{s:AH}{h':Ak}
theorem Inv.turnLaid{t':Nat}{ch:List AG}{T:AG}{o:HO}(I:Inv X π σ H s)(hf:∀b∈ch,yam X π H b)(k:∀b u,b∉ch->s.heap.get? b=AA u->h'.get? b=AA u)
  (hp:s.heap.objs.size<=T) (new:yF X.prog X.w (upd H T o) h' T o):Inv X π σ (upd H T o) {s with heap:=h',toks:=t'}:=by
 have hn:H T=none:=I.hok.fresh hp;have nch:∀b u,H b=AA u->b∉ch:=λb u e z=>by
  have q:=(hf b z).1;rw[e]at q
  cases q
 refine I.step (g':=s.gens) (d':=s.drawn) (ch:=ch) (λb hb=>?_) (λb u _ _ hc e _=>k b u hc e) (λb u _ _ hc e _=>⟨u.slots,k b u hc e⟩) (λb u _ e n=>?_) (λb u hc e=>⟨u,k b u hc e⟩) (λb xs e=>?_) (λb u v e=>?_) (λb ps e=>⟨#[],?_⟩) (λm hm=>?_) (λb u e=>?_) I.bare
 .let⟨f0,f1,f2,f3,f4,f5⟩:=hf b hb;exact⟨f3,f1,f4,f5⟩
 .rw[zc (Ab (AY (AT e) hp))];exact n
 .rw[zc (ze e hn)];exact e
 .rw[zc (ze e hn)];exact e
 .rw[zc (ze e hn),e];simp
 .let⟨ob,es,ep,ho,r⟩:=hm;exact⟨ob,es,ep,k _ ob (λz=>(hf _ z).2.1 rfl) ho,r⟩
 .by_cases hb:b=T
  .subst hb;rw[zf]at e
   cases e
   exact new
  .rw[zc hb]at e;refine(I.hok b u e).stay (λc v hc q=>k c v ?_ q) (λc q=>by rw[zc (ze q hn)];exact q) λc xs q=>by rw[zc (ze q hn)];exact q
   rcases hc with z|z
   .rw[z];exact nch b u e
   .exact nch c _ z
theorem Inv.turnedL{t':Nat}{ch:List AG}(I:Inv X π σ H s)(hf:∀b∈ch,yam X π H b)(k:∀b u,b∉ch->s.heap.get? b=AA u->h'.get? b=AA u):Inv X π σ H {s with heap:=h',toks:=t'}:=by
 have nch:∀b u,H b=AA u->b∉ch:=λb u e z=>by
  have q:=(hf b z).1;rw[e]at q
  cases q
 refine I.step (g':=s.gens) (d':=s.drawn) (ch:=ch) (λb hb=>?_) (λb u _ _ hc e _=>k b u hc e) (λb u _ _ hc e _=>⟨u.slots,k b u hc e⟩) (λ_ _ _ _ n=>n) (λb u hc e=>⟨u,k b u hc e⟩) (λ_ _ e=>e) (λ_ _ _ e=>e) (λb ps e=>⟨#[],by rw[e];simp⟩) (λm hm=>?_) (λb u e=>?_) I.bare
 .let⟨f0,f1,f2,f3,f4,f5⟩:=hf b hb;exact⟨f3,f1,f4,f5⟩
 .let⟨ob,es,ep,ho,r⟩:=hm;exact⟨ob,es,ep,k _ ob (λz=>(hf _ z).2.1 rfl) ho,r⟩
 .refine(I.hok b u e).stay (λc v hc q=>k c v ?_ q) (λ_ q=>q) λ_ _ q=>q;rcases hc with z|z
  .rw[z];exact nch b u e
  .exact nch c _ z
end
def Ite(K:AC)(a:AG):It:=
 ⟨λi H=>∃xs x,SqT K H a xs/\xs[i]?=AA x,λi H x H'=>∃T,H T=AB/\x=.ref T/\∀xs y,SqT K H a xs->xs[i]?=AA y->H'=upd H T (.tup [.int i,y]),λi H=>∃xs,SqT K H a xs/\xs.length=i⟩
def zaU{h:Ak}{a b:AG}{o u:BV}(x:h.get? a=AA o)(y:h.get? b=AA u)(z:o.cls≠u.cls):a≠b:=λe=>by
 subst e;rw[x]at y
 cases y
 exact z rfl
def zdj{P:AZ}{w:A8}{K:AC}{es:List AL}{kk:Nat}{pos:BZ}(a e it:AG):
  Turn P w K (.Tuple es kk pos) (Ite K a) [e,it] e (λi h=>(∃old,IsEnum h e it i old)/\h.IsTupleIter it a i) where
 mem:=by simp
 obj:=λi h st b hb=>by
  let⟨⟨old,he⟩,oi,gi,ci,di⟩:=st;rcases A5.mp hb with z|z
  .subst z;exact⟨_,he,λv y=>nomatch y⟩
  .have z:b=it:=by simpa using z
   subst z;exact⟨oi,gi,λv y=>by rw[di]at y;cases y⟩
 keep:=λi h h' st k=>by
  let⟨⟨old,he⟩,oi,gi,r⟩:=st;exact⟨⟨old,k e (by simp) _ he⟩,oi,k it (by simp) _ gi,r⟩
 item:=by
  intro X hP hw hK hc i π s σ H E I hf st hg;subst hP hw hK;let⟨xs,x,hq,hx⟩:=hg;let⟨its,rv,p,hz⟩:=I.tuple hq;let⟨⟨old,he⟩,hi⟩:=st;let⟨oi,gi,ci,di⟩:=id hi;let⟨oa,ga,ca,na,da⟩:=id p;have nai:a≠it:=zaU ga gi (by rw[ca,ci];exact λz=>absurd (CQ z) ⋯);have nei:e≠it:=zaU he gi (by rw[ci];exact λz=>absurd (CQ z) ⋯);have nea:e≠a:=zaU he ga (by rw[ca];exact λz=>absurd (CQ z) ⋯);have hl:=rv.length;have hil:i<its.toArray.size:=by
   have:=(Af.mp hx).1;simpa using (by lia:i<its.length)
  have W:=Eu (prog:=X.prog) (w:=X.w) (A:=X.A) (WE.draws_tuple (pg:=X.prog) (wd:=X.w) (A:=X.A.in1) (I.ok.hd hc) it a nai its.toArray) e nei (by simp[nei,nea]) (by simp);refine wpAny_pyNext_enum_itemD (WE.draws_tuple (pg:=X.prog) (wd:=X.w) (A:=X.A.in1) (I.ok.hd hc) it a nai its.toArray) he ⟨hi,p⟩ hil nei (by simp[nei,nea]) λy h1 tk hy ho hs' hT hsz' kp'=>⟨_,rfl,?_⟩;obtain⟨T,eT⟩:∃T,s.heap.objs.size=T:=⟨_,rfl⟩;have hsz:s.heap.objs.size<=T:=Fv eT;have kp:∀b o,b∉[e,it]->s.heap.get? b=AA o->h1.get? b=AA o:=λb o hb y=>kp' b o (λe'=>hb (by simp[e'])) (λe'=>hb (by simp[e'])) y;have mid:(∃x,IsEnumOut h1 e it ((i:Int)+1) x s.heap.objs.size)/\(h1.IsTupleIter it a (i+1)/\h1.IsTuple a its.toArray)/\s.heap.objs.size≠e/\s.heap.objs.size≠it:=⟨⟨_,ho⟩,hs',Dp (AT he),Dp (AT gi)⟩;rw[eT]at mid hT ⊢;refine W.go es kk pos i T _ _ E mid λh2 st2 kp2=>?_;let⟨u,hu,ru⟩:=rv.get hx;have ey:y=u:=AU (hy.symm.trans (by simpa using hu));subst ey;have hch:∀b o,b∉[e,it]->s.heap.get? b=AA o->h2.get? b=AA o:=λb o hb q=>kp2 b o hb (kp b o hb q);have hTw:=W.apart i T h1 mid;have new:yF X.prog X.w (upd H T (.tup [.int i,x])) h2 T (.tup [.int i,x]):=by
   exact⟨by show 2<=sizeLine;decide,[.int i tk,y],.cons ⟨tk,rfl⟩ (.cons ru .nil),kp2 T _ hTw hT⟩
  have I2:=I.turnLaid (t':=tk+1) hf hch hsz new;refine⟨.ref T,_,I2,rfl,⟨T,I.hok.fresh hsz,rfl,λys z hy' hz'=>?_⟩,⟨st2.1,st2.2.1⟩,λb hb=>?_⟩
  .rw[I.tuple_inj hy' hq]at hz';rw[hx]at hz'
   cases hz'
   rfl
  .rw[zc (λz:b=T=>hTw (z ▸ hb))];exact(hf b hb).1
 done:=by
  intro X hP hw hK hc i π s σ H E I hf st hg;subst hP hw hK;let⟨xs,hq,hx⟩:=hg;let⟨its,rv,p,hz⟩:=I.tuple hq;let⟨⟨old,he⟩,hi⟩:=st;let⟨oi,gi,ci,di⟩:=id hi;let⟨oa,ga,ca,na,da⟩:=id p;have nai:a≠it:=zaU ga gi (by rw[ca,ci];exact λz=>absurd (CQ z) ⋯);have nei:e≠it:=zaU he gi (by rw[ci];exact λz=>absurd (CQ z) ⋯);have nea:e≠a:=zaU he ga (by rw[ca];exact λz=>absurd (CQ z) ⋯);have hl:=rv.length;have W:=Eu (prog:=X.prog) (w:=X.w) (A:=X.A) (WE.draws_tuple (pg:=X.prog) (wd:=X.w) (A:=X.A.in1) (I.ok.hd hc) it a nai its.toArray) e nei (by simp[nei,nea]) (by simp);have en:its.toArray.size=i:=by simp;lia
  refine W.done s _ E (by rw[en];exact⟨⟨old,he⟩,hi,p⟩) λh2 tk kp=>⟨rfl,I.turnedL (t':=tk) hf kp⟩
 self:=λ_ _ _ _ _ st q=>by
  let⟨⟨old,he⟩,_⟩:=st;exact Ex he q
def yeT(K:AC)(ta:TA):TI:=λσ H R=>ta σ H λvs H1=>∃a,vs=[.ref a]/\(∃xs,SqT K H1 a xs)/\R (Ite K a) H1
def zfs{X:Cx}{a:AL}{es:List AL}{kk:Nat}{tp:BZ}{ta:TA}{p pos:BZ}(hg:Gl X "enumerate")(hm:X.mg "enumerate"=AB)(ha:PA X [a] ta)(hs:starEach [a] X.env=[(AF,eval a X.env)]:=by rfl):
  PI X (.Tuple es kk tp) (.Call (.Name "enumerate" p) [a] [] pos) (yeT X.K ta):=by
 intro π s σ H R I h;refine BO (zbI I hg hm boot_enumerate ?_);refine CM (thn (ha pos π s σ H _ I h) λus s1 kq=>?_) hs rfl;let⟨vs,H1,I1,r1,q1⟩:=kq;let⟨l,rfl,⟨xs,hq⟩,q⟩:=q1;let⟨u,rfl,ru⟩:=Vals.one r1
 cases (show u=BF l from ru)
 let⟨its,rv,pt,hz⟩:=I1.tuple hq;refine WE.call_enumT (show s1.heap.IsTuple l its.toArray from pt) λh1 he hi hsz kp=>?_;refine Ex he ?_;refine⟨_,[s1.heap.objs.size+1,s1.heap.objs.size],_,_,H1,rfl,I1.kept (t':=s1.toks) kp,zdj l _ s1.heap.objs.size,⟨⟨_,he⟩,hi⟩,λb hb=>?_,q⟩;have hb2:s1.heap.objs.size<=b:=by
  rcases A5.mp hb with z|z
  .subst z;exact Ca _
  .have z:b=s1.heap.objs.size:=by simpa using z
   subst z;exact AN _
 exact I1.fpOk hb2 (I1.hok.fresh hb2)
abbrev No:AE->AH->Prop:=λ_ _=>False
abbrev yce(ifs:List AL)(env:Env):FE Bool:=forIn ifs AD λc r=>if r=AD then do let ok <-isTrue c env (eval c env);pure (Cy ok)else pure (Cy r)
section
variable {pg:AZ}{wd:A8}{A:A3}{R:Dq->AH->Prop}{s:AH}
def zdB{elt tg iter:AL}{ifs:List AL}{sc:Al}{pos:BZ}{it acc:AE}{env:Env}(I:Nat->AH->Prop)
  (turn:∀n s,I n s->A2 (model pg wd) A (pyNext it) (λr s1=>match r with
   |none=>R (.ok .next) s1
   |some v=>A2 (model pg wd) A (letOwnedTupleGo tg it v) (λ_ s2=>A2 (model pg wd) A (assign tg env v) (λ_ s3=>A2 (model pg wd) A (yce ifs env) (λok s4=>
     if ok=AD then A2 (model pg wd) A (eval elt env) (λx s5=>A2 (model pg wd) A (call (.builtin "list.append") [acc,x]) (λ_ s6=>∃m,m<n/\I m s6) No s5) No s4
     else ∃m,m<n/\I m s4) No s3) No s2) No s1) No s)
  (n:Nat) (h:I n s):codeAny (model pg wd) A (.compLoop (.ListComp elt [⟨tg,iter,ifs,0⟩] sc pos) 0 it acc env) R s:=by
 refine codeAny_loop rfl I (λn s hI=>?_) n h;show A2 _ A ((compTurn (.ListComp elt [⟨tg,iter,ifs,0⟩] sc pos) 0 it acc env).onRaise (λx=>do noteFrame x env;theTreesLotGoes x)) _ _ s;refine wpAny_noted ?_;rw[compTurn_list];refine AJ (BW (AJ (BA (turn n s hI) (λr s1 h1=>?_) λ_ _ f=>f.elim)))
 cases r with
 |none=>exact AO h1
 |some v=>
  refine AJ (BA h1 (λ_ s2 h2=>AJ (BA h2 (λ_ s3 h3=>AJ (BA h3 (λok s4 h4=>?_) λ_ _ f=>f.elim)) λ_ _ f=>f.elim)) λ_ _ f=>f.elim)
  cases ok with
  |false=>exact AO ⟨rfl,h4⟩
  |true=>exact AJ (AJ (BA h4 (λx s5 h5=>AJ (BA h5 (λ_ s6 h6=>AO (AO ⟨rfl,h6⟩)) λ_ _ f=>f.elim)) λ_ _ f=>f.elim))
end
def yP(env:Env)(r:List (AM×AG))(x:AM×Bb):List (AM×AG):=if x.2=.free then(x.1,(env.cells.lookup x.1).getD 0)::r else r
def yaY(sc:Al)(env:Env):List (AM×AG):=sc.names.foldl (yP env) []
def zdo{α β:Type}{l:List α}{f:α->β->FE (ForInStep β)}{g:β->α->β}(h:∀x∈l,∀c,f x c=pure (.yield (g c x))):∀c:β,forIn l c f=pure (l.foldl g c):=by
 induction l with
 |nil=>exact λ_=>rfl
 |cons x l ih=>
  intro c;rw[Dx,h x AV,pure_bind,C2];exact ih (λy hy=>h y (AK _ hy)) (g c x)
def zm{sc:Al}{env:Env}(hf:∀y∈sc.names,y.2=.free->∃c,env.cells.lookup y.1=AA c):closureFor sc env=pure (yaY sc env):=by
 erw[closureFor];rw[zdo (g:=yP env) (λx hx c=>?_)]
 .rfl
 .let⟨n,k⟩:=x
  by_cases hk:k=.free
  .subst hk;let⟨a,ha⟩:=hf _ hx rfl;have ha':env.cells.lookup n=AA a:=ha;simp[yP,cellOf,ha']
  .have hb:(k==Br)=false:=by simpa using hk
   simp[yP,hk,hb]
def zac{env:Env}:∀(l:List (AM×Bb)) (r:List (AM×AG)),(∀y∈l,y.2=.free->∃c,env.cells.lookup y.1=AA c)->(∀x c,r.lookup x=AA c->env.cells.lookup x=AA c) ->
  ∀x c,(l.foldl (yP env) r).lookup x=AA c->env.cells.lookup x=AA c
 |[],r,_,h=>h
 |y::l,r,hf,h=>by
  refine zac l (yP env r y) (λz hz=>hf z (AK _ hz)) λx c e=>?_;unfold yP at e
  by_cases hk:y.2=.free
  .let⟨a,ha⟩:=hf y AV hk;rw[if_pos hk,Ar]at e
   cases hx:x==y.1 with
   |true=>
    rw[hx,ha]at e;rw[eq_of_beq hx,ha];exact e
   |false=>
    rw[hx]at e;exact h x c e
  .rw[if_neg hk]at e;exact h x c e
def zaD{env:Env}{x:AM}:∀(l:List (AM×Bb)) (r:List (AM×AG)),(∃c,r.lookup x=AA c)->∃c,(l.foldl (yP env) r).lookup x=AA c
 |[],r,h=>h
 |y::l,r,h=>by
  refine zaD l (yP env r y) ?_;unfold yP
  by_cases hk:y.2=.free
  .rw[if_pos hk,Ar]
   cases hx:x==y.1 with
   |true=>exact⟨_,rfl⟩
   |false=>exact h
  .rw[if_neg hk];exact h
def zE{env:Env}:∀(l:List (AM×Bb)) (r:List (AM×AG)),∀y∈l,y.2=.free->∃c,(l.foldl (yP env) r).lookup y.1=AA c
 |[],_,y,hy,_=>nomatch hy
 |z::l,r,y,hy,hk=>by
  rcases A5.mp hy with e|e
  .subst e;refine zaD l (yP env r y) ?_;unfold yP;rw[if_pos hk,Ar,beq_self_eq_true];exact⟨_,rfl⟩
  .exact zE l (yP env r z) y e hk
theorem mem_of_lookup{β:Type}{x:AM}{k:β}:∀{l:List (AM×β)},l.lookup x=AA k->(x,k)∈l
 |[],h=>nomatch h
 |y::l,h=>by
  rw[Ar]at h
  cases hx:x==y.1 with
  |true=>
   rw[hx]at h
   cases h
   rw[eq_of_beq hx];exact AV
  |false=>
   rw[hx]at h;exact AK _ (mem_of_lookup h)
def ybF(env:Env)(x:AM)(k:Bb):NameKind:=if (k==.free&&env.scope.kind==.function&&env.kindOf x==AA .cell)=AD then .cell else k
def zT{sc:Al}{env:Env}(x:AM):(relabel sc env).names.lookup x=(sc.names.lookup x).map (ybF env x):=by
 unfold relabel;show (sc.names.map λ(n,k)=>if (k==Br&&env.scope.kind==.function&&env.kindOf n==AA .cell)then(n,Db)else(n,k)).lookup x=_
 induction sc.names with
 |nil=>rfl
 |cons y l ih=>
  let⟨n,k⟩:=y;rw[AS];show FR x ((if (k==Br&&env.scope.kind==.function&&env.kindOf n==AA .cell)=AD then(n,Db)else(n,k))::_)=_
  cases hx:x==n with
  |true=>
   have e:=eq_of_beq hx;subst e
   by_cases hc:(k==Br&&env.scope.kind==.function&&env.kindOf x==AA .cell)=AD
   .rw[if_pos hc,Ar,beq_self_eq_true];simp[ybF,hc]
   .rw[if_neg hc,Ar,beq_self_eq_true];simp[ybF,hc]
  |false=>
   by_cases hc:(k==Br&&env.scope.kind==.function&&env.kindOf n==AA .cell)=AD
   .rw[if_pos hc];erw[Ar,hx];exact ih
   .rw[if_neg hc];erw[Ar,hx];exact ih
structure CI where
 C:AG
 s:AH
 H:Hp
 fp:List AG
def cxC(X:Cx)(sc:Al)(NC:List AM)(j:CI):Cx where
 prog:=X.prog
 w:=X.w
 K:=X.K
 mg:=X.mg
 base:=X.base
 A:=X.A
 N:=NC
 s₀:=j.s
 H₀:=j.H
 env:=compEnvC sc (yaY sc X.env) j.C X.env
 outer:=X.stack
 stack:=X.stack
 ex:=j.fp
 fn:=λ_=>AF
 calm:=X.calm
 pn:=[]
 xe:=No
def inn(slots:List (Option Nat))(σ:St):St:=slots.map λo=>o.bind λj=>(σ[j]?).join
structure yJ(X:Cx)(sc:Al)(NC:List AM)(slots:List (Option Nat)):Prop where
 kind:sc.kind=.function
 names:∀y∈sc.names,y.2=.local->sc.names.lookup y.1=AA .local
 nocell:∀y∈sc.names,y.2 ≠ .cell
 free:∀y∈sc.names,y.2=.free->X.env.scope.names.lookup y.1=AA .cell
 slot:∀(i:Nat) (x:AM) (j:Nat),NC[i]?=AA x->slots[i]?=AA (AA j)->X.N[j]?=AA x/\sc.names.lookup x=AA .free
 len:slots.length=NC.length
def zk3{X:Cx}{sc:Al}{NC:List AM}{slots:List (Option Nat)}(N:List AM)(so:Al)(hN:X.N=N)(hs:X.env.scope=so)(kind:sc.kind=.function)
  (names:∀y∈sc.names,y.2=.local->sc.names.lookup y.1=AA .local) (nocell:∀y∈sc.names,y.2 ≠ .cell) (free:∀y∈sc.names,y.2=.free->so.names.lookup y.1=AA .cell)
  (slot:∀p∈NC.zip slots,(p.2.all λj=>decide (N[j]?=AA p.1/\sc.names.lookup p.1=AA .free))=AD) (len:slots.length=NC.length):yJ X sc NC slots:=by
 subst hN hs;refine⟨kind,names,nocell,free,λi x j e1 e2=>?_,len⟩;have hm:(x,AA j)∈NC.zip slots:=A7 (i:=i) (by rw[D4];exact⟨e1,e2⟩);have:=slot _ hm;simpa using this
section
variable {X:Cx}{sc:Al}{NC:List AM}{slots:List (Option Nat)}{π:List (AG×BV)}{σ:St}{H:Hp}{s:AH}
theorem yJ.cells(O:yJ X sc NC slots)(ok:X.Ok):∀y∈sc.names,y.2=.free->∃c,X.env.cells.lookup y.1=AA c:=λy hy hk=>ok.has y.1 (.inl (O.free y hy hk))
theorem yJ.sub(O:yJ X sc NC slots)(ok:X.Ok):∀x c,(yaY sc X.env).lookup x=AA c->X.env.cells.lookup x=AA c:=zac sc.names [] (O.cells ok) λ_ _ e=>nomatch e
theorem yJ.rel(O:yJ X sc NC slots)(ok:X.Ok){x:AM}(h:sc.names.lookup x=AA .free):(relabel sc X.env).names.lookup x=AA .cell:=by
 rw[zT,h];have e:X.env.kindOf x=AA .cell:=O.free _ (mem_of_lookup h) rfl;simp[ybF,ok.kind,e]
def zaT(I:Inv X π σ H s)(O:yJ X sc NC slots){fp:List AG}(hf:∀b∈fp,yam X π H b)(hob:∀b∈fp,∃o,s.heap.get? b=AA o){h1:Ak}{t':Nat}{m:AM->Option AE}(hns:h1.Ns s.heap.objs.size m)
  (hk:∀b o,s.heap.get? b=AA o->h1.get? b=AA o):Inv (cxC X sc NC ⟨s.heap.objs.size,s,H,fp⟩) [] (inn slots σ) H {s with heap:=h1,toks:=t'}:=by
 have sub:=O.sub I.ok;have fss:∀b,b≠X.env.locals->b∉X.fs->b∉frs X.stack:=λb h1 h2 hb=>(A5.mp (I.stkSub b hb)).elim h1 h2;have ltC:∀x c,(yaY sc X.env).lookup x=AA c->c<s.heap.objs.size:=λx c e=>by
  let⟨v,q⟩:=I.cell x c (sub x c e);exact q.lt
 refine⟨⟨I.ok.mod,O.kind,I.ok.glob,I.ok.blt,AN _,λx y c e1 e2=>I.ok.inj x y c (sub x c e1) (sub y c e2),λx hx=>?_,λ_ _ z=>(nomatch z),I.ok.hd,I.ok.frames,.inl rfl,λb hb=>⟨?_,λx c e=>(hf b hb).2.2.2.2.1 x c (sub x c e)⟩,I.bs,BB I.ok.bsz I.sz,λb o e hb=>?_,λb hb=>fss b (hf b hb).2.1 (hf b hb).2.2.1,I.stack,I.stkFree⟩,
  rfl,I.bare,Un.kept hk,⟨m,hns,λi x v e1 e2 e3=>?_⟩,λx c e=>?_,I.hok.fresh (AN _),λx c e=>I.freeC x c (sub x c e),λp hp=>(nomatch hp),I.hok.kept hk,?_⟩
 .have hx':(relabel sc X.env).names.lookup x=AA .cell \/ (relabel sc X.env).names.lookup x=AA .free:=hx;rw[zT]at hx'
  cases q:sc.names.lookup x with
  |none=>
   rw[q]at hx';rcases hx' with z|z<;>cases z
  |some k=>
   have hm:=mem_of_lookup q;have hkf:k=.free:=by
    rw[q]at hx';have nc:=O.nocell _ hm
    by_cases hk:k=.free
    .exact hk
    .exfalso;have hb:(k==Br)=false:=by simpa using hk
     rcases hx' with z|z
     .simp[ybF,hb]at z;exact nc z
     .simp[ybF,hb]at z;exact hk z
   subst hkf;exact zE sc.names [] _ hm rfl
 .let⟨o,e⟩:=hob b hb;exact Ab (AT e)
 .rcases (hf b hb).2.2.2.1 with z|z
  .exact I.ok.noex b o e z
  .exact absurd (AY (AT e) (BB I.ok.bsz z)) (B8 _)
 .obtain⟨j,e4,e5⟩:∃j,slots[i]?=AA (AA j)/\σ[j]?=AA (AA v):=by
   have e2':(slots.map λo=>o.bind λj=>(σ[j]?).join)[i]?=AA (AA v):=e2;rw[Av]at e2'
   cases q:slots[i]? with
   |none=>
    rw[q]at e2'
    cases e2'
   |some o=>
    rw[q]at e2'
    cases o with
    |none=>cases e2'
    |some j=>
     refine⟨j,rfl,?_⟩;have e6:(σ[j]?).join=AA v:=AU e2'
     cases q2:σ[j]? with
     |none=>
      rw[q2]at e6
      cases e6
     |some w=>
      rw[q2]at e6;have e7:w=AA v:=e6;rw[e7]
  let⟨e6,e7⟩:=O.slot i x j e1 e4;have kc:X.env.scope.names.lookup x=AA .cell:=O.free _ (mem_of_lookup e7) rfl;let⟨m0,hn0,hl⟩:=I.loc;let⟨u,r,lk⟩:=hl j x v e6 e5 (.inr (.inl kc));refine⟨u,r,.inr ⟨.inl (O.rel I.ok e7),?_⟩⟩;rcases lk with⟨z,_⟩|⟨_,c,hc,o,ho,hd⟩
  .rw[show X.env.kindOf x=AA .cell from kc]at z
   cases z
  .let⟨c',hc'⟩:=zE (env:=X.env) sc.names [] _ (mem_of_lookup e7) rfl;have e8:c'=c:=AU ((sub x c' hc').symm.trans hc);subst e8;exact⟨c',hc',o,hk _ _ ho,hd⟩
 .let⟨v,o,ho,hd⟩:=I.cell x c (sub x c e);exact⟨v,o,hk _ _ ho,hd⟩
 .show (slots.map λo=>o.bind λj=>(σ[j]?).join).length=NC.length;rw[Ah,O.len]
def za1(I:Inv X π σ H s){fp:List AG}(hf:∀b∈fp,yam X π H b){C:AG}(hC:s.heap.objs.size<=C){pl:List (AG×BV)}{σ':St}{H':Hp}{s':AH}(J:Inv (cxC X sc NC ⟨C,s,H,fp⟩) pl σ' H' s')
  {h2:Ak} (hb:B6 C s'.heap h2):Inv X π σ H' {s' with heap:=h2}:=by
 have nC:∀b o,s.heap.get? b=AA o->b≠C:=λb o e=>Ab (AY (AT e) hC);have B:Un (frs X.stack) fp H H' s.heap s'.heap:=J.base;have fC:H' C=none:=J.free;refine I.call' (ch:=fp) J.os ⟨λb o e n h3 h4=>(hb.2 b (nC b o e)).trans (B.keep b o e n h3 h4),λb o e n h3 h4=>?_,B.free,λb o e h4=>?_,B.tups,B.frzs,B.tbls⟩ (λb u e=>?_) J.bare λb h3=>⟨(hf b h3).2.2.2.1,(hf b h3).2.1,(hf b h3).2.2.2.2.1,(hf b h3).2.2.2.2.2⟩
 .let⟨sl,q⟩:=B.slot b o e n h3 h4;exact⟨sl,(hb.2 b (nC b o e)).trans q⟩
 .let⟨o',q⟩:=B.there b o e h4;exact⟨o',(hb.2 b (nC b o e)).trans q⟩
 .refine(J.hok b u e).stay (λc v hc q=>(hb.2 c λz=>?_).trans q) (λ_ q=>q) λ_ _ q=>q;subst z;rcases hc with z|z
  .rw[z,e]at fC
   cases fC
  .rw[z]at fC
   cases fC
end
def PTs(X:Cx)(ifs:List AL)(t:TT):Prop:=
 ∀(π:List (AG×BV)) (s:AH) (σ:St) (H:Hp) (Q:Bool->Hp->Prop),Inv X π σ H s->t σ H Q->A2 (model X.prog X.w) X.A (yce ifs X.env) (TP X π σ Q) X.xe s
def ycf:TT:=λ_ H Q=>Q AD H
def zaC{X:Cx}:PTs X [] ycf:=λ_ _ _ H _ I h=>wpAny_tests_nil ⟨H,I,h⟩
def zgW{X:Cx}{c:AL}{t:TT}(h:PT X c t):PTs X [c] t:=λπ s σ H Q I q=>wpAny_tests_one (h π s σ H Q I q)
def ybK(J:It)(D:AG)(g:TG)(ti:TT)(te:TE)(W:Nat->Nat->St->List V->Hp->Prop)(Q:Hp->Prop):Prop:=
 ∀i m σc ys H2,W i m σc ys H2->H2 D=AA (.lst ys)/\((J.stop i H2/\Q H2) \/ (J.go i H2/\ys.length<sizeLine/\∃N:St->List V->Hp->Prop,(∀σ' ys' H',N σ' ys' H'->∃m',m' < m/\W (i+1) m' σ' ys' H') /\
  ∀x H3,J.yld i H2 x H3->g x σc H3 λσ4 H4=>ti σ4 H4 λb H5=>if b=AD then te σ4 H5 λy H6=>H6 D=AA (.lst ys)/\N σ4 (ys++[y]) (upd H6 D (.lst (ys++[y])))else N σ4 ys H5))
def yb6(slots:List (Option Nat))(wi:TI)(g:TG)(ti:TT)(te:TE):TE:=λσ H Q=>wi σ H λJ H1=>∀D,H1 D=AB->∃W:Nat->Nat->St->List V->Hp->Prop,(∃m,W 0 m (inn slots σ) [] (upd H1 D (.lst [])))/\ybK J D g ti te W (Q (.ref D))
section
variable {X:Cx}{sc:Al}{NC:List AM}{slots:List (Option Nat)}{elt tg iter:AL}{ifs:List AL}{pos:BZ}{g:TG}{ti:TT}{te:TE}
def zfY(hc:X.calm=AD)(hg:∀j,PG (cxC X sc NC j) tg g)(ht:∀j,PTs (cxC X sc NC j) ifs ti)(he:∀j,PE (cxC X sc NC j) elt te){cj:CI}{it D:AG}{tn:Nat->Ak->Prop}{J:It}
  {W:Nat->Nat->St->List V->Hp->Prop} {Q:Hp->Prop} {R:Dq->AH->Prop} {s:AH} {σc:St} {ys:List V} {H:Hp} (T:Turn X.prog X.w X.K tg J cj.fp it tn)
  (I:Inv (cxC X sc NC cj) [] σc H s) (hf:∀b∈cj.fp,yam (cxC X sc NC cj) [] H b) (st:tn 0 s.heap) {m:Nat} (w0:W 0 m σc ys H) (step:ybK J D g ti te W Q)
  (fin:∀σ' H' s',Inv (cxC X sc NC cj) [] σ' H' s'->Q H'->R (.ok .next) s'):
  codeAny (model X.prog X.w) X.A (.compLoop (.ListComp elt [⟨tg,iter,ifs,0⟩] sc pos) 0 (.ref it) (.ref D) (cxC X sc NC cj).env) R s:=by
 have stat:∀{H':Hp},(∀b∈cj.fp,H' b=AB)->∀b∈cj.fp,yam (cxC X sc NC cj) [] H' b:=λhn b hb=>⟨hn b hb,(hf b hb).2⟩;refine zdB (λn s'=>∃i σ' ys' H',Inv (cxC X sc NC cj) [] σ' H' s'/\tn i s'.heap/\(∀b∈cj.fp,H' b=AB)/\W i n σ' ys' H') ?_ m ⟨0,σc,ys,H,I,st,λb hb=>(hf b hb).1,w0⟩
 rintro n s3 ⟨i,σ3,ys3,H3,I3,st3,fr3,w3⟩
 let⟨hD,q⟩:=step i n σ3 ys3 H3 w3;rcases q with⟨stop,qn⟩|⟨go,hz,N,hN,turn⟩
 .refine thn (T.done (cxC X sc NC cj) rfl rfl rfl hc i [] s3 σ3 H3 No I3 (stat fr3) st3 stop) λr s4 kq=>?_;let⟨hr,I4⟩:=kq;subst hr;exact fin σ3 H3 s4 I4 qn
 .refine thn (T.item (cxC X sc NC cj) rfl rfl rfl hc i [] s3 σ3 H3 No I3 (stat fr3) st3 go) λr s4 kq=>?_;let⟨u,hr,h4⟩:=kq;subst hr;refine thn h4 λ_ s5 kq=>?_;let⟨x,H5,I5,r5,y5,st5,fr5⟩:=kq;have I5':=I5.pinned (stat fr5) (T.obj _ _ st5);refine thn (hg cj _ s5 σ3 H5 x u _ I5' r5 (turn x H5 y5)) λ_ s6 kq=>?_;let⟨σ6,H6,I6,q6⟩:=kq;refine thn (ht cj _ s6 σ6 H6 _ I6 q6) λok s7 kq=>?_;let⟨H7,I7,q7⟩:=kq;have again:∀{σ8:St} {ys8:List V} {H8:Hp} {s8:AH},Inv (cxC X sc NC cj) ([]++yaB cj.fp s5.heap) σ8 H8 s8->N σ8 ys8 H8->∃m,m<n/\∃i σ' ys' H',Inv (cxC X sc NC cj) [] σ' H' s8/\tn i s8.heap/\(∀b∈cj.fp,H' b=AB)/\W i m σ' ys' H':=λ{σ8 ys8 H8 s8} I8 n8=>by
   let⟨m',hm,w8⟩:=hN σ8 ys8 H8 n8;refine⟨m',hm,i+1,σ8,ys8,H8,I8.unpinned,T.keep _ _ _ st5 λb hb o e=>(I8.pin (b,o) (A4 _ (A4 _ (zq hb e)))).1,λb hb=>?_,w8⟩;let⟨o,e,d⟩:=T.obj _ _ st5 b hb;exact(I8.pin (b,o) (A4 _ (A4 _ (zq hb e)))).2.1
  cases ok with
  |false=>
   rw[if_neg AW]at q7 ⊢;exact again I7 q7
  |true=>
   rw[if_pos rfl]at q7 ⊢;refine thn (he cj _ s7 σ6 H7 _ I7 q7) λy s8 kq=>?_;let⟨v,H8,I8,r8,hD8,q8⟩:=kq;refine thn (zbu (X:=cxC X sc NC cj) _ s8 σ6 H8 (.ref D) [v] (.ref D) [y] (λz H'=>z=.non/\H'=upd H8 D (.lst (ys3++[v]))) I8 rfl (.cons r8 .nil) ⟨D,ys3,v,rfl,rfl,hD8,hz,rfl,rfl⟩) λz s9 kq=>?_;let⟨zv,H9,I9,r9,e1,e2⟩:=kq;subst e2;exact again I9 q8
def zaX(hc:X.calm=AD)(O:yJ X sc NC slots)(hg:∀j,PG (cxC X sc NC j) tg g)(ht:∀j,PTs (cxC X sc NC j) ifs ti)(he:∀j,PE (cxC X sc NC j) elt te){π:List (AG×BV)}{s:AH}{σ:St}{H:Hp}(I:Inv X π σ H s)
  {it:AG} {fp:List AG} {tn:Nat->Ak->Prop} {J:It} (T:Turn X.prog X.w X.K tg J fp it tn) (st:tn 0 s.heap) (hf:∀b∈fp,yam X π H b) {Q:VK}
  (h:∀D,H D=AB->∃W:Nat->Nat->St->List V->Hp->Prop,(∃m,W 0 m (inn slots σ) [] (upd H D (.lst [])))/\ybK J D g ti te W (Q (.ref D))) {RR:AE->AG->Dq->AH->Prop}
  (fin:∀D C s' H',Q (.ref D) H'->(∃o m,s'.heap.get? C=AA o/\s'.heap.Ns C m/\∀v,o.data ≠ .cell v)->yam X π H' C->(∀h2,B6 C s'.heap h2->Inv X π σ H' {s' with heap:=h2})->RR (.ref D) C (.ok .next) s'):
  A2 (model X.prog X.w) X.A (newList []) (λacc s3=>A2 (model X.prog X.w) X.A (newFunctionEnv sc X.env.globals (yaY sc X.env) [] X.env.qual AB .none (AA X.env)) (λcenv s4=>
   codeAny (model X.prog X.w) X.A (.compStart (.ListComp elt [⟨tg,iter,ifs,0⟩] sc pos) 0 (.ref it) acc {cenv with scope:=relabel sc X.env}) (RR acc cenv.locals) s4) X.xe s3) X.xe s:=by
 refine BC (EO O.nocell (by intro y hy;simp at hy) (λh1 hns1 hsb1=>?_) O.kind);dsimp only at hns1 hsb1 ⊢;have hDn:H s.heap.objs.size=none:=I.hok.fresh (AN _);let⟨W,⟨m,w0⟩,step⟩:=h s.heap.objs.size hDn;obtain⟨s3,hs3⟩:∃x:AH,x=({s with heap:=s.heap.push {cls:=.type "list",dict:=AB,data:=.seq ([]:List AE).toArray} }:AH):=⟨_,rfl⟩;have e3:s3.heap=s.heap.push {cls:=.type "list",dict:=AB,data:=.seq ([]:List AE).toArray}:=by rw[hs3]
 rw[<-e3]at hns1 hsb1;have hp3:∀b o,s.heap.get? b=AA o->s3.heap.get? b=AA o:=λb o e=>by
  rw[e3];exact AR _ e
 have I3:Inv X π σ (upd H s.heap.objs.size (.lst [])) s3:=by
  have q:=I.laid (a:=s.heap.objs.size) (o:=.lst []) (h':=s3.heap) (t':=s.toks) hp3 (AN _) ⟨B9 _,[],_,.nil,by rw[e3];exact A6 _ rfl⟩;rw[hs3]at q ⊢;exact q
 have hf3:∀b∈fp,yam X π (upd H s.heap.objs.size (.lst [])) b:=λb hb=>by
  let⟨o,e,_⟩:=T.obj _ _ st b hb;refine⟨?_,(hf b hb).2⟩;rw[zc (Ab (AT e))];exact(hf b hb).1
 have st3:tn 0 s3.heap:=T.keep _ _ _ st λb _ o e=>hp3 b o e;have hob:∀b∈fp,∃o,s3.heap.get? b=AA o:=λb hb=>by
  let⟨o,e,_⟩:=T.obj _ _ st3 b hb;exact⟨o,e⟩
 have hk1:∀b o,s3.heap.get? b=AA o->h1.get? b=AA o:=λb o e=>hsb1.extBut b o (Ab (AT e)) (AR _ e);have J1:=zaT (t':=s3.toks+([]:List (AM×AE)).length) I3 O hf3 hob hns1 hk1;have hfc:∀b∈fp,yam (cxC X sc NC ⟨s3.heap.objs.size,s3,upd H s.heap.objs.size (.lst []),fp⟩) [] (upd H s.heap.objs.size (.lst [])) b:=λb hb=>
  ⟨(hf3 b hb).1,(J1.ok.exf b hb).1,J1.ok.exfs b hb,.inl hb,(J1.ok.exf b hb).2,λp hp=>nomatch hp⟩
 have loop:codeAny (model X.prog X.w) X.A (.compLoop (.ListComp elt [⟨tg,iter,ifs,0⟩] sc pos) 0 (.ref it) (.ref s.heap.objs.size) (cxC X sc NC ⟨s3.heap.objs.size,s3,upd H s.heap.objs.size (.lst []),fp⟩).env) (RR (.ref s.heap.objs.size) s3.heap.objs.size)
   {s3 with heap:=h1,toks:=s3.toks+([]:List (AM×AE)).length}:=by
  refine zfY (D:=s.heap.objs.size) (Q:=Q (.ref s.heap.objs.size)) hc hg ht he T J1 hfc (T.keep _ _ _ st3 λb _ o e=>hk1 b o e) w0 step λσ' H' s' J' q'=>?_;have fC:H' s3.heap.objs.size=none:=J'.free;refine fin _ _ s' H' q' ?_ (I3.fpOk (AN _) fC) λh2 hb=>za1 I3 hf3 (AN _) J' hb;let⟨m',hn',_⟩:=J'.loc;let⟨o,es,ep,ho,hd,r⟩:=id hn';exact⟨o,m',ho,hn',λv z=>by rw[hd]at z;cases z⟩
 have self:=λ(RQ:AE->AH->Prop) (EE:AE->AH->Prop)=>T.self X.A 0 {s3 with heap:=h1,toks:=s3.toks+([]:List (AM×AE)).length} RQ EE (T.keep _ _ _ st3 λb _ o e=>hk1 b o e);subst hs3;exact codeAny_compStart_list loop (self _ _ loop)
variable {wi:TI}
def zhb(hc:X.calm=AD)(O:yJ X sc NC slots)(hi:PI X tg iter wi)(hg:∀j,PG (cxC X sc NC j) tg g)(ht:∀j,PTs (cxC X sc NC j) ifs ti)(he:∀j,PE (cxC X sc NC j) elt te)
  (hs:∀x,foldedSetIterable iter X.env x=pure x:=by intro _;rfl):PE X (.ListComp elt [⟨tg,iter,ifs,0⟩] sc pos) (yb6 slots wi g ti te):=by
 intro π s σ H Q I h;rw[eval_ListComp];refine Bs (use:=AB) rfl hs (zm (O.cells I.ok)) O.kind O.names (thn (hi π s σ H _ I h) λv s1 h1=>thn h1 λitv s2 h2=>?_);let⟨it,fp,tn,J,H2,rfl,I2,T,st2,f2,q2⟩:=h2;refine zaX hc O hg ht he I2 T st2 f2 q2 λD C s' H' q' ⟨o,m,ho,hn,_⟩ _ out=>⟨m,hn,λh2 hb=>⟨.ref D,H',out h2 hb,rfl,q'⟩⟩
def zhd{i:Nat}{x:AM}{px spos:BZ}(hN:X.N.Nodup)(hix:X.N[i]?=AA x)(hx:Loc X.env.scope x)(hc:X.calm=AD)(O:yJ X sc NC slots)(hi:PI X tg iter wi)(hg:∀j,PG (cxC X sc NC j) tg g)(ht:∀j,PTs (cxC X sc NC j) ifs ti)(he:∀j,PE (cxC X sc NC j) elt te)
  (hsw:swapsWith (.ListComp elt [⟨tg,iter,ifs,0⟩] sc pos) (AA (.Name x px)) spos.line X.env=pure true:=by rfl) (hs:∀x,foldedSetIterable iter X.env x=pure x:=by intro _;rfl)
  (hf:X.fn x=AD \/ X.env.scope.names.lookup x=AA .local:=by first|exact .inl rfl|exact .inr rfl|assumption):PS X (.Assign [.Name x px] (.ListComp elt [⟨tg,iter,ifs,0⟩] sc pos) spos) (yd1 (yb6 slots wi g ti te) (ybB i)):=by
 intro π s σ H Dd I h;rw[exec_Assign_Name_used _ _ _ _ hsw,arm_evalThenUse_ListComp];refine AJ (BW (AJ (AJ ?_)));refine Bs (Q:=λ_ s'=>A2 (model X.prog X.w) X.A (pure ()) (λ_ s''=>A2 (model X.prog X.w) X.A (pure Fq) (SP X π Dd) X.xe s'') X.xe s') rfl hs (zm (O.cells I.ok)) O.kind O.names (thn (hi π s σ H _ I h) λv s1 h1=>thn h1 λitv s2 h2=>?_);let⟨it,fp,tn,J,H2,rfl,I2,T,st2,f2,q2⟩:=h2;refine zaX (Q:=λx H1=>ybB i x σ H1 Dd.nx) hc O hg ht he I2 T st2 f2 q2 λD C s' H' q' ⟨o,m,ho,hn,hd⟩ FC out=>?_;have I':Inv X π σ H' s':=out s'.heap (GQ ..);have Ip:Inv X (π++[(C,o)]) σ H' s':=I'.pins_of λp hp=>(Ax.mp hp).elim (λz=>I'.pin p (A4 _ z)) λz=>by
  have e:p=(C,o):=by simpa using z
  subst e;exact⟨ho,FC.1,FC.2.1,FC.2.2.1,hd⟩
 show A2 (model X.prog X.w) X.A (assign (.Name x px) X.env (.ref D)) _ _ s';refine Ei (zR Ip hN hix hx (show RelV (.ref D) (.ref D)from rfl) (λs6 I6=>?_) hf);have g6:=(I6.pin (C,o) (A4 _ (A4 _ AV))).1;let⟨o',es,ep,ho',r⟩:=hn;rw[ho]at ho'
 cases ho'
 refine⟨m,⟨o,es,ep,g6,r⟩,λh2 hb=>AO (AO ?_)⟩;exact⟨_,H',I6.unpinned.turned (t':=s6.toks) (λb u hb' e=>(hb.2 b hb').trans e) FC.1 FC.2.1 FC.2.2.2.1 FC.2.2.2.2.1 FC.2.2.2.2.2,q'⟩
end
section
variable {X:Cx}
end
section
variable {X:Cx}{π:List (AG×BV)}{σ:St}{H:Hp}{s:AH}
end
section
variable {X:Cx}{a:AL}{ta:TE}{K:AC}
end
end L2
namespace L2
end L2
namespace L2
open PySem PySem.Spec PyProof.Rows
def CX1(P:AZ)(w:A8):CXT:=λouter H s E e s'=>∃(a:AG) (cls a0:AE) (H':Hp) (B:Ak),e=.ref a/\s'.os=s.os/\Ct s'.gens/\Fw B outer a cls a0 s'.heap/\HOk P w H' s'.heap/\Un (frs outer) [] H H' s.heap s'.heap /\
 (∀b o,s.heap.get? b=AA o->H b=AB->b∉frs outer->B.get? b=AA o)/\(∀b u,H' b=AA u->∃o,B.get? b=AA o)/\(∀b o,s.heap.get? b=AA o->b∉frs outer->∃o',B.get? b=AA o')/\E cls AB H'
theorem yF.there{P:AZ}{w:A8}{H:Hp}{h:Ak}{a:AG}{o:HO}(x:yF P w H h a o):∃ob,h.get? a=AA ob:=by
 induction o with
 |lst xs=>let⟨_,_,_,_,e⟩:=x;exact⟨_,e⟩
 |tup xs=>let⟨_,_,_,e⟩:=x;exact⟨_,e⟩
 |dK kvs=>let⟨_,_,_,_,ob,_,_,e,_⟩:=x;exact⟨ob,e⟩
 |dT kvs=>let⟨_,_,_,_,ob,_,_,e,_⟩:=x;exact⟨ob,e⟩
 |set S n=>let⟨ob,_,_,_,e,_⟩:=x;exact⟨ob,e⟩
 |ins C dx fs=>let⟨_,_,_,e,_⟩:=x;exact⟨_,e⟩
 |own y=>exact x
 |xd fs=>let⟨_,⟨ob,_,_,e,_⟩,_⟩:=x;exact⟨ob,e⟩
 |rng lo hi=>let⟨_,_,_,e⟩:=x;exact⟨_,e⟩
 |frz ob u ih=>exact⟨ob,x.1⟩
 |tbl ps=>exact⟨_,x⟩
 |met f y=>exact⟨_,x⟩
 |ext φ=>exact x.2.1
theorem HOk.inB{P:AZ}{w:A8}{H:Hp}{h h' B:Ak}(ok:HOk P w H h)(hB:B.StaysIn h)(hB':B.StaysIn h')(tr:∀b u,H b=AA u->∃o,B.get? b=AA o):HOk P w H h':=λa o e=>
 (ok a o e).stay (λb u hb q=>by
  have hb':∃o,B.get? b=AA o:=by
   rcases hb with z|z
   .rw[z];exact tr a o e
   .exact tr b _ z
  let⟨o',q'⟩:=hb';have:=hB b o' q';rw[q]at this
  cases this
  exact hB' b u q') (λ_ q=>q) λ_ _ q=>q
section
variable {P:AZ}{w:A8}{K:AC}{mg:AM->Option AE}{base:Ak}{N:List AM}{qual:AM}{scope:Al}{f:AG}{cd:AE}{A:A3}{outer:List Env}{s₀:AH}{H₀:Hp}{E:XK}
 {π:List (AG×BV)} {σ:St} {H:Hp} {s:AH}
def ze4{h':Ak}{e:AG}{cls:AE}{vs:List AE}(I:Inv (yaq (CX1 P w) P w K mg base N qual scope f cd A outer s₀ H₀ E) π σ H s)(hx:F7 s.heap h' e cls vs)(hE:E cls AB H):
  (yaq (CX1 P w) P w K mg base N qual scope f cd A outer s₀ H₀ E).xe (.ref e) {s with heap:=h'}:=by
 have stk:s.heap.FunFrames base (envOfC qual scope s₀.heap.objs.size f cd::outer):=I.stack;have hst:∀b,b∈frs (envOfC qual scope s₀.heap.objs.size f cd::outer)->b=s₀.heap.objs.size \/ b∈frs outer:=λb hb=>by
  have hb':b∈s₀.heap.objs.size::frs outer:=hb;exact A5.mp hb'
 have inB:∀b o,s.heap.get? b=AA o->b∉frs (envOfC qual scope s₀.heap.objs.size f cd::outer)->(C1 s.heap (frs (envOfC qual scope s₀.heap.objs.size f cd::outer))).get? b=AA o:=λb o q n=>ES _ q n;have hB:(C1 s.heap (frs (envOfC qual scope s₀.heap.objs.size f cd::outer))).StaysIn s.heap:=λb o q=>E8 _ q;have bse:Un (frs outer) [] H₀ H s₀.heap s.heap:=I.base;have lt:∀b o,s₀.heap.get? b=AA o->b≠s₀.heap.objs.size:=λb o q=>Ab (AT q);have tr:∀b u,H b=AA u->∃o,(C1 s.heap (frs (envOfC qual scope s₀.heap.objs.size f cd::outer))).get? b=AA o:=λb u q=>by
  let⟨o,ho⟩:=yF.there (I.hok b u q);exact⟨o,inB b o ho λhb=>by
   have:=I.stkFree b hb;rw[q]at this
   cases this⟩
 refine wpAny_leaves_madeW (base:=C1 s.heap (frs (envOfC qual scope s₀.heap.objs.size f cd::outer))) (h:=s.heap) I.ok.frames rfl hB (PySem.W.funFrames_hide stk λenv he a ha=>DR.mpr ⟨env,he,ha⟩) hx λh'' t fl tu tn up=>?_;have up':s.heap.UpToSlots h'':=(Fu hx.keeps).trans up;refine⟨e,cls,_,H,_,rfl,I.os,I.bare,fl,HOk.inB I.hok hB fl.1 tr,⟨λb o q n hb _=>?_,λb o q n hb _=>?_,bse.free,λb o q _=>?_,bse.tups,bse.frzs,bse.tbls⟩,λb o q n hb=>?_,tr,λb o q hb=>?_,hE⟩
 .refine fl.1 b o (inB b o (bse.keep b o q n hb (by simp)) λz=>?_);rcases hst b z with z|z
  .exact lt b o q z
  .exact hb z
 .let⟨sl,q1⟩:=bse.slot b o q n hb (by simp);let⟨_,o',ho',hd⟩:=Be stk (show b∈Ch (λ(z:Env)=>z.frame) _ from AK _ hb);let⟨sl',q2⟩:=up' b _ q1 (by rw[ho']at q1;cases q1;exact hd);exact⟨sl',q2⟩
 .let⟨o',q1⟩:=bse.there b o q (by simp)
  by_cases hb:b∈frs (envOfC qual scope s₀.heap.objs.size f cd::outer)
  .let⟨_,o2,ho',hd⟩:=Be stk hb;let⟨sl',q2⟩:=up' b _ ho' hd;exact⟨_,q2⟩
  .exact⟨o',fl.1 b o' (inB b o' q1 hb)⟩
 .refine inB b o (bse.keep b o q n hb (by simp)) λz=>?_;rcases hst b z with z|z
  .exact lt b o q z
  .exact hb z
 .let⟨o',q1⟩:=bse.there b o q (by simp);refine⟨o',inB b o' q1 λz=>?_⟩;rcases hst b z with z|z
  .exact lt b o q z
  .exact hb z
def zk4:ybP (CX1 P w) (yaq (CX1 P w) P w K mg base N qual scope f cd A outer s₀ H₀ E) E:=by
 intro π σ H s e s' I h;let⟨a,cls,a0,H',B,rfl,os,bare,fl,hok,un,hB,tr,hT,hE⟩:=h;have bse:Un (frs outer) [] H₀ H s₀.heap s.heap:=I.base;have lt:∀b o,s₀.heap.get? b=AA o->b≠s₀.heap.objs.size:=λb o q=>Ab (AT q);have hst:∀b,b∈frs (envOfC qual scope s₀.heap.objs.size f cd::outer)->b=s₀.heap.objs.size \/ b∈frs outer:=λb hb=>by
  have hb':b∈s₀.heap.objs.size::frs outer:=hb;exact A5.mp hb'
 have un':Un (frs (envOfC qual scope s₀.heap.objs.size f cd::outer)) [] H H' s.heap s'.heap:=un;have kB:∀b o,s₀.heap.get? b=AA o->H₀ b=AB->b∉frs outer->B.get? b=AA o:=λb o q n hb=>hB b o (bse.keep b o q n hb (by simp)) (bse.free b o q n (by simp)) λz=>by
  rcases hst b z with z|z
  .exact lt b o q z
  .exact hb z
 have kT:∀b o,s₀.heap.get? b=AA o->b∉frs outer->∃o',B.get? b=AA o':=λb o q hb=>by
  let⟨o',q1⟩:=bse.there b o q (by simp);refine hT b o' q1 λz=>?_;rcases hst b z with z|z
  .exact lt b o q z
  .exact hb z
 refine wpAny_leaves_onW I.ok.frames rfl fl λh'' fl' up=>?_;refine⟨a,cls,a0,H',B,rfl,os.trans I.os,bare,fl',HOk.inB hok fl.1 fl'.1 tr,⟨λb o q n hb _=>fl'.1 b o (kB b o q n hb),λb o q n hb _=>?_,λb o q n _=>?_,λb o q _=>?_,λb xs q=>un'.tups b xs (bse.tups b xs q),λb o u q=>un'.frzs b o u (bse.frzs b o u q),λb ps q=>?_⟩,kB,tr,kT,hE⟩
 .let⟨sl,q1⟩:=bse.slot b o q n hb (by simp);have n1:=bse.free b o q n (by simp);let⟨sl1,q2⟩:=un'.slot b _ q1 n1 (AK _ hb) (by simp);let⟨_,o',ho',hd⟩:=Be fl.2.2.1 (show b∈Ch (λ(z:Env)=>z.frame) _ from AK _ hb);let⟨sl',q3⟩:=up b _ q2 (by rw[ho']at q2;cases q2;exact hd);exact⟨sl',q3⟩
 .let⟨o',q1⟩:=bse.there b o q (by simp);exact un'.free b o' q1 (bse.free b o q n (by simp)) (by simp)
 .let⟨o',q1⟩:=bse.there b o q (by simp);let⟨o2,q2⟩:=un'.there b o' q1 (by simp)
  by_cases hb:b∈frs outer
  .let⟨_,o3,ho3,hd⟩:=Be fl.2.2.1 (show b∈Ch (λ(z:Env)=>z.frame) _ from AK _ hb);let⟨sl',q3⟩:=up b _ ho3 hd;exact⟨_,q3⟩
  .let⟨o4,q4⟩:=kT b o q hb;exact⟨o4,fl'.1 b o4 q4⟩
 .let⟨m1,e1⟩:=bse.tbls b ps q;let⟨m2,e2⟩:=un'.tbls b _ e1;exact⟨m1++m2,by rw[e2,DO]⟩
end
section
variable {X:Cx}{e:AL}{es:List AL}{te:TE}
abbrev TJ:=AM->St->Hp->VK->Prop
def PJ(X:Cx)(es:List AL)(t:TJ):Prop:=
 ∀(out:AM) (π:List (AG×BV)) (s:AH) (σ:St) (H:Hp) (Q:VK),Inv X π σ H s->t out σ H Q->A2 (model X.prog X.w) X.A (joinParts out (evalEach es X.env)) (EP X π σ Q) X.xe s
def yfW:TJ:=λout _ H Q=>out.length<=sizeLine/\Q (.str out) H
def ydZ(te:TE)(t:TJ):TJ:=λout σ H Q=>te σ H λv H1=>∃y,v=.str y/\(out++y).length<=sizeLine/\t (out++y) σ H1 Q
def zjm:PJ X [] yfW:=λout _ _ _ H _ I h=>joinParts_nil ⟨.str out,H,I.tok _,⟨_,rfl⟩,h.2⟩ h.1
def zhq{t:TJ}(he:PE X e te)(hr:PJ X es t)(hs:evalEach (e::es) X.env=eval e X.env::evalEach es X.env:=by rfl):PJ X (e::es) (ydZ te t):=by
 intro out π s σ H Q I h;rw[hs];refine joinParts_cons (thn (he π s σ H _ I h) λv s1 kq=>?_);let⟨x,H1,I1,r1,y,e1,hz,q⟩:=kq;subst e1;let⟨tk,rfl⟩:=r1;exact⟨hz,hr (out++y) π s1 σ H1 Q I1 q⟩
def yb9(t:TJ):TE:=λσ H Q=>t Cm σ H Q
def zeJ{v1 v2:AL}{rest:List AL}{pos:BZ}{t:TJ}(h:PJ X (v1::v2::rest) t):PE X (.JoinedStr (v1::v2::rest) pos) (yb9 t):=λπ s σ H Q I q=>JoinedStr_many (h Cm π s σ H Q I q)
end
section
variable {X:Cx}{e:AL}{es:List AL}{t:TA}{E:XK}
end
structure yeD(K:AC)(C:AG):Prop where
 ga:Ag K (.ref C) "__getattribute__"=AA (AA (.builtin "BaseException.__getattribute__"))
 gh:Ag K (.ref C) "__getattr__"=AA AB
 cl:Ag K (.ref C) "__class__"=AA (AA (.builtin "object.__class__"))
 sb:Fd K (.ref C) (.type "BaseException")=AA AD
 mo:Fe K C (.type "object")=AA AD
 ct:∃cd,Ff K C=AA cd
section
variable {pg:AZ}{wd:A8}{A:A3}{E:AE->AH->Prop}{h:Ak}{g:Array GenState}{d:Drawn}{t:Nat}{os:OsState}{a C:AG}{o:BV}{K:AC}
end
def yeS(a C:AG):Ak->Prop:=λh=>∃o,h.get? a=AA o/\o.cls=.ref C
section
variable {X:Cx}
end
section
variable {X:Cx}{π:List (AG×BV)}{σ:St}{H:Hp}{s:AH}
end
section
variable {X:Cx}{π:List (AG×BV)}{σ:St}{H:Hp}{s:AH}
end
section
variable {X:Cx}{body suite:List B7}{b₀:B7}{x n:AM}{np hpos pos:BZ}{tb:XK->TS}{ts:TS}{W:AG}{i:Nat}
end
structure yai(k:Nat)(A:A3):Prop where
 dp:A.depth+3*k+5<recursionLimit
 un:A.units+16*k+200<cLine
theorem yap.h{k:Nat}{A:A3}(r:yap k A):yai k A:=⟨r.dp,r.un⟩
theorem yai.deeper{k:Nat}{A:A3}(r:yai (k+1) A)(env:Env):yai k (A.deeper env):=⟨by have:=r.dp;show A.depth+1+3*k+5<_;lia,by have:=r.un;show A.units+3+16*k+200<_;lia⟩
structure ybv(P:AZ)(w:A8)(K:AC)(mg:AM->Option AE)(base:Ak)(k:Nat)(f:AG)(fd:Aj)(ps:List AM)(sp:Sp):Prop where
 len:∀vs H Q E,sp vs H Q E->vs.length=ps.length
 run:∀(A:A3) (outer:List Env) (s:AH) (H:Hp) (args:Args) (us:List AE) (vs:List V) (Q:VK),yai k A->ycq P w K mg base A outer s H->Dr s fd args (ps.zip us)->Vals vs us->sp vs H Q E0 ->
  codeAny (model P w) A (.call (.ref f) args) (CR CX0 outer P w H s Q E0) s
abbrev ybc(P:AZ)(w:A8)(K:AC)(mg:AM->Option AE)(base:Ak)(N:List AM)(qual:AM)(scope:Al)(f:AG)(cd:AE)(A:A3)(outer:List Env)(s:AH)(H:Hp):Cx:=
 {yaq CX0 P w K mg base N qual scope f cd A outer s H E0 with calm:=AF,xe:=No}
theorem Inv.calmless{X:Cx}{π:List (AG×BV)}{σ:St}{H:Hp}{s:AH}(I:Inv X π σ H s)(A:A3)(E:AE->AH->Prop)(hf:A.frames=X.A.frames):Inv {X with A:=A,calm:=AF,xe:=E} π σ H s:=
 ⟨⟨I.ok.mod,I.ok.kind,I.ok.glob,I.ok.blt,I.ok.above,I.ok.inj,I.ok.has,I.ok.cab,(λz=>nomatch z),hf.trans I.ok.frames,I.ok.stk,I.ok.exf,I.ok.bs,I.ok.bsz,I.ok.noex,I.ok.exfs,I.ok.funs,I.ok.frf⟩,I.os,I.bare,I.base,I.loc,I.cell,I.free,I.freeC,I.pin,I.hok,I.len⟩
section
variable {P:AZ}{w:A8}{K:AC}{mg:AM->Option AE}{base:Ak}
theorem Fun.okH{x qual:AM}{st:B7}{f:AG}{fd:Aj}{N ps:List AM}{k:Nat}{sp:Sp}(F:Fun K x qual st f fd)(S:yak N ps (yg st))(len:∀vs H Q E,sp vs H Q E->vs.length=ps.length)
  (hbody:∀(cdv:AE) (A:A3) (outer:List Env) (s:AH) (H:Hp) (vs:List V) (Q:VK),yai k (A.deeper (envOfC qual (yg st) s.heap.objs.size f cdv))->sp vs H Q E0 ->
   ∃t,PSs (ybc P w K mg base N qual (yg st) f cdv A outer s H) (yG st) t/\t {nx:=λ_ H'=>Q .non H',rt:=Q} (start N vs) H):ybv P w K mg base (k+1) f fd ps sp:=by
 let⟨oc,od,kV,doc,pm,an,cdv,ct,osl,rfl,lk,hcd⟩:=F.ex;refine⟨len,λA outer s H args us vs Q hr e0 hb r hsp=>?_⟩;have hl:=len _ _ _ _ hsp;have KX:K.In s.heap:=e0.mod.kin.keeps λb o e=>(e0.bs b o e).1;have lim:s.heap.NoLimit:=e0.mod.nolimit.keeps λb o e=>(e0.bs b o e).1;have hkind:∀y∈ps.zip us,(yg st).names.lookup y.1=AA .local \/ ((yg st).names.lookup y.1=AA .cell/\((cellsFrom (s.heap.objs.size+1) (yg st).names []).lookup y.1).isSome=AD):=λ⟨n,v⟩ hy=>by
  rcases S.par n (DB hy).1 with q|q
  .exact .inl q
  .exact .inr ⟨q,Cd _ _ _ (.inl q)⟩
 refine EC (by have:=hr.dp;lia) (KX _ _ lk) rfl S.co S.gen rfl (E9 KX hcd) (hb _ _ _ _ ?_);refine DU S.kind hkind λenv he s1 x=>?_;subst he;refine⟨lim.keeps x.toInCall.keep,codeAny_func ?_⟩;let⟨t,ht,hq⟩:=hbody cdv A outer s H vs Q (hr.deeper _) hsp;have e0':ycq P w K mg base {A with handled:=AB} outer s H:=⟨e0.frames,e0.mod,e0.bs,e0.bsz,e0.funs,e0.frf,e0.hok,e0.bare⟩;have I0:Inv (yaq CX0 P w K mg base N qual (yg st) f cdv {A with handled:=AB} outer s H E0) [] (start N vs) H s1:=zbQ S rfl e0' hl r x;have I:Inv (ybc P w K mg base N qual (yg st) f cdv A outer s H) [] (start N vs) H s1:=I0.calmless (A.deeper (envOfC qual (yg st) s.heap.objs.size f cdv)) No rfl;refine BA (ht [] s1 (start N vs) H _ I hq) (λfl s' hs=>?_) λe s' z=>z.elim;have fin:∀{σ':St} {H':Hp} {v:V} {u:AE},Inv (ybc P w K mg base N qual (yg st) f cdv A outer s H) [] σ' H' s'->RelV v u->Q v H'->CE outer P w H s Q u s':=
  λ{σ' H' v u} J rv q=>⟨v,H',J.os,J.bare,J.base,J.hok,rv,q⟩
 cases fl with
 |ret u=>
  let⟨v,σ',H',J,rv,q⟩:=hs;exact fin J rv q
 |next=>
  let⟨σ',H',J,q⟩:=hs;exact fin (v:=V.non) (u:=Ba) J rfl q
 |brk=>
  let⟨_,_,_,q⟩:=hs;exact BH q
 |cont=>
  let⟨_,_,_,q⟩:=hs;exact BH q
end
section
variable {X:Cx}{k:Nat}{f:AG}{fd:Aj}{ps:List AM}{sp:Sp}{x:AM}{p pos:BZ}{e:AL}{es:List AL}{t:TA}
end
section
variable {P:AZ}{w:A8}{K:AC}{mg:AM->Option AE}{base:Ak}
theorem own1{N:List AM}{qual:AM}{scope:Al}{f:AG}{cd:AE}{A:A3}{outer:List Env}{s:AH}{H:Hp}{E:XK}{CX:CXT}:
  DL (model (yaq CX P w K mg base N qual scope f cd A outer s H E).prog (yaq CX P w K mg base N qual scope f cd A outer s H E).w) (yaq CX P w K mg base N qual scope f cd A outer s H E).A (yaq CX P w K mg base N qual scope f cd A outer s H E).env (yaq CX P w K mg base N qual scope f cd A outer s H E).xe:=
 PassesOwn.leaving
def zk5{x:AM}{C:AG}{ts:List AE}{nid:String}{h:Ak}(X:K.In h)(b:mg x=AA (.ref C))(q:Cu K C ts nid=AD):OwnCls x C ts nid mg h:=by
 constructor
 .exact b
 .revert q
  unfold Cu
  cases hl:K.lookup C with
  |none=>intro q;cases q
  |some o=>
   intro q;split at q
   .rename_i dd cd sl ho;split at q
    .rename_i C' bm k0 k1 k2 k3 n k5 hm hs;erw[AI,beq_iff_eq,BI]at q;rcases q with⟨⟨⟨⟨⟨r1,r2⟩,r3⟩,r4⟩,r5⟩,r6⟩;subst r1 r2;rcases cd with⟨nm,bs,mro,ns,qn,hd,sn,sub,ab,col,del⟩;dsimp only at hm r3 r5 r6;subst hm r3;rcases sl with⟨l⟩;simp only at hs;subst hs
     cases ho
     exact⟨bm,ns,nm,qn,bs,hd,sn,sub,ab,col,_,k0,k1,k2,k3,k5,_,X _ _ hl,.of_isNs (PySem.W.isNs_of_in X r5),PySem.W.nsMap_none_of_in X r5 r6,PySem.W.tail_of_in X r4⟩
    .cases q
   .cases q
end
section
variable {X:Cx}
end
section
variable {X:Cx}
end
section
variable {κ:Type}[DecidableEq κ]
def yat(kvs:List (κ×V))(k:κ):Option V:=(kvs.find? λkv=>decide (kv.1=k)).map (·.2)
def putK(kvs:List (κ×V))(k:κ)(v:V):List (κ×V):=
 if (kvs.any λkv=>decide (kv.1=k))=AD then kvs.map (λkv=>if kv.1=k then(kv.1,v)else kv)else kvs++[(k,v)]
def zQ{p:κ×V}{r:List (κ×V)}{k:κ}(e:p.1=k):yat (p::r) k=AA p.2:=by simp[yat,B5,e]
def zP{p:κ×V}{r:List (κ×V)}{k:κ}(e:¬p.1=k):yat (p::r) k=yat r k:=by simp[yat,B5,e]
def zc2(k:κ):∀kvs:List (κ×V),(kvs.any λkv=>decide (kv.1=k))=(yat kvs k).isSome
 |[]=>rfl
 |p::r=>by
  rw[BX]
  by_cases e:p.1=k
  .simp only[zQ e,decide_eq_true e,Fx,Ed]
  .rw[zP e,decide_eq_false e,Fg];exact zc2 k r
def zaB(kvs:List (κ×V))(k:κ)(v:V):(putK kvs k v).length<=kvs.length+1:=by
 unfold putK;split
 .rw[Ah];lia
 .rw[Ao,Am,CF];lia
theorem ybf.isSome_eq{o:Option V}{u:Option AE}(r:ybf o u):o.isSome=u.isSome:=by
 cases o with
 |none=>cases u with
  |none=>rfl
  |some _=>exact(show False from r).elim
 |some _=>cases u with
  |none=>exact(show False from r).elim
  |some _=>rfl
theorem ybf.getD{o:Option V}{u:Option AE}{d:V}{d':AE}(r:ybf o u)(rd:RelV d d'):RelV (o.getD d) (u.getD d'):=by
 cases o with
 |none=>cases u with
  |none=>exact rd
  |some _=>exact(show False from r).elim
 |some _=>cases u with
  |none=>exact(show False from r).elim
  |some _=>exact r
theorem KV.val{kvs:List (κ×V)}{vs:List (κ×AE)}(r:KV kvs vs)(k:κ):ybf (yat kvs k) (valueAt vs k):=by
 unfold KV at r
 induction r with
 |nil=>exact CS
 |@cons p q ps qs h t ih=>
  let⟨h1,h2⟩:=h
  by_cases e:p.1=k
  .have e':q.1=k:=h1.symm.trans e;have b:valueAt (q::qs) k=AA q.2:=by simp[valueAt,B5,e']
   rw[zQ e,b];exact h2
  .have e':¬q.1=k:=λz=>e (h1.trans z);have b:valueAt (q::qs) k=valueAt qs k:=by simp[valueAt,B5,e']
   rw[zP e,b];exact ih
theorem KV.any{kvs:List (κ×V)}{vs:List (κ×AE)}(r:KV kvs vs)(k:κ):(kvs.any λkv=>decide (kv.1=k))=vs.any λkv=>decide (kv.1=k):=by
 unfold KV at r
 induction r with
 |nil=>rfl
 |cons h t ih=>rw[BX,BX,ih,h.1]
theorem KV.repl{kvs:List (κ×V)}{vs:List (κ×AE)}(r:KV kvs vs)(k:κ){y:V}{u:AE}(ry:RelV y u):
  KV (kvs.map λkv=>if kv.1=k then(kv.1,y)else kv) (vs.map λkv=>if kv.1=k then(kv.1,u)else kv):=by
 unfold KV at r ⊢
 induction r with
 |nil=>exact .nil
 |@cons p q ps qs h t ih=>
  rw[AS,AS];refine .cons ?_ ih;let⟨h1,h2⟩:=h
  by_cases e:p.1=k
  .rw[if_pos e,if_pos (h1.symm.trans e)];exact⟨h1,ry⟩
  .rw[if_neg e,if_neg (λz=>e (h1.trans z))];exact⟨h1,h2⟩
theorem KV.put{kvs:List (κ×V)}{vs:List (κ×AE)}(r:KV kvs vs)(k:κ){y:V}{u:AE}(ry:RelV y u):KV (putK kvs k y) (stored vs k u):=by
 unfold putK stored;rw[r.any k]
 by_cases e:(vs.any λkv=>decide (kv.1=k))=AD
 .rw[if_pos e,if_pos e];exact r.repl k ry
 .rw[if_neg e,if_neg e];exact GJ r ⟨rfl,ry⟩
end
def zgV{P:AZ}{w:A8}{k:Key}{u:AE}(r:RelV (kV k) u):(yK P w).is k u=true:=by
 cases k with
 |inl i=>let⟨t,e⟩:=(show ∃t,u=Fk i t from r);subst e;exact zcj P w i t
 |inr x=>let⟨t,e⟩:=(show ∃t,u=Fm x t from r);subst e;exact zcb P w x t
abbrev KT(H:Hp):List (List NK×V)->List (List NK×AG×AE)->Prop:=FG λp q=>p.1=q.1/\KyR H p.1 q.2.1/\RelV p.2 q.2.2
theorem KT.val{H:Hp}{kvs:List (List NK×V)}{xs:List (List NK×AG×AE)}(r:KT H kvs xs)(k:List NK):ybf (yat kvs k) ((atKey xs k).map (·.2)):=by
 induction r with
 |nil=>exact CS
 |@cons p q ps qs h t ih=>
  let⟨h1,_,h2⟩:=h
  by_cases e:p.1=k
  .have e':q.1=k:=h1.symm.trans e;have b:atKey (q::qs) k=AA q.2:=by simp[atKey,B5,e']
   rw[zQ e,b];exact h2
  .have e':¬q.1=k:=λz=>e (h1.trans z);have b:atKey (q::qs) k=atKey qs k:=by simp[atKey,B5,e']
   rw[zP e,b];exact ih
theorem KT.repl{H:Hp}{kvs:List (List NK×V)}{xs:List (List NK×AG×AE)}(r:KT H kvs xs)(k:List NK){y:V}{u:AE}(ry:RelV y u):
  KT H (kvs.map λkv=>if kv.1=k then(kv.1,y)else kv) (xs.map (putAt k u)):=by
 induction r with
 |nil=>exact .nil
 |@cons p q ps qs h t ih=>
  rw[AS,AS];refine .cons ?_ ih;let⟨h1,h2,h3⟩:=h;unfold putAt
  by_cases e:p.1=k
  .rw[if_pos e,if_pos (h1.symm.trans e)];exact⟨h1,h2,ry⟩
  .rw[if_neg e,if_neg (λz=>e (h1.trans z))];exact⟨h1,h2,h3⟩
theorem KT.put{H:Hp}{kvs:List (List NK×V)}{xs:List (List NK×AG×AE)}(r:KT H kvs xs)(k:List NK){b:AG}{y:V}{u:AE}(hb:KyR H k b)(ry:RelV y u):
  KT H (putK kvs k y) (storedH xs k b u):=by
 have e:(kvs.any λkv=>decide (kv.1=k))=(atKey xs k).isSome:=by
  rw[zc2,(r.val k).isSome_eq,Option.isSome_map]
 unfold putK storedH;rw[e]
 by_cases q:(atKey xs k).isSome=AD
 .rw[if_pos q,if_pos q];exact r.repl k ry
 .rw[if_neg q,if_neg q];exact GJ r ⟨rfl,hb,ry⟩
theorem KT.keeps{H H':Hp}{kvs:List (List NK×V)}{xs:List (List NK×AG×AE)}(r:KT H kvs xs)(ht:∀b ys,H b=AA (.tup ys)->H' b=AA (.tup ys)):KT H' kvs xs:=
 Paired.mapP r λ_ _ z=>⟨z.1,z.2.1.stay ht,z.2.2⟩
section
variable {P:AZ}{w:A8}{H:Hp}{h:Ak}{a:AG}
def zjY{u:HO}(ok:HOk P w H h)(e:Rd H a u):yF P w H h a u:=e.ok ok
def zhx{kvs:List (Key×V)}(ok:HOk P w H h)(e:Rd H a (.dK kvs)):kvs.length<=sizeLine/\(a==sysModules)=AF/\∃vs,KV kvs vs/\h.DictOf (yK P w) a vs:=
 show yF P w H h a (.dK kvs)from zjY ok e
def zke{kvs:List (Key×V)}(ok:HOk P w H h)(e:H a=AA (.dK kvs)):kvs.length<=sizeLine/\(a==sysModules)=AF/\∃vs,KV kvs vs/\h.DictOf (yK P w) a vs:=zhx ok (.inl e)
mutual
theorem ziu(ok:HOk P w H h):∀(k:NK) (v:V) (u:AE),NKr H k v->RelV v u->NI h k u
 |.a k,v,u,x,r=>by cases (show v=kV k from x);exact zgV (P:=P) (w:=w) r
 |.t l,v,u,x,r=>by
  let⟨b,xs,rfl,g,hs⟩:=x
  cases (show u=BF b from r)
  let⟨_,its,rv,h1⟩:=(show yF P w H h b (.tup xs)from ok b _ g);exact⟨b,its,rfl,h1,zgl ok l xs its hs rv⟩
theorem zgl(ok:HOk P w H h):∀(l:List NK) (xs:List V) (us:List AE),NKs H l xs->Vals xs us->NIs h l us
 |[],xs,us,x,r=>by cases (show xs=[]from x);cases r;rfl
 |k::l,xs,us,x,r=>by
  let⟨y,ys,rfl,h1,h2⟩:=x
  cases r with
  |cons r t=>exact⟨_,_,rfl,ziu ok k y _ h1 r,zgl ok l ys _ h2 t⟩
end
def zec{ks:List NK}(ok:HOk P w H h)(e:KyR H ks a):(yaL P w).is h ks a:=⟨ziu ok _ _ _ e.1 rfl,e.2⟩
def zh8{kvs:List (List NK×V)}(ok:HOk P w H h)(e:Rd H a (.dT kvs)):kvs.length<=sizeLine/\(a==sysModules)=AF /\
  ∃xs,KT H kvs xs/\h.DictOfH (yaL P w) a xs:=by
 let⟨z,y,xs,r,o,es,ep,h1,h2,h3,h4,h5⟩:=(show yF P w H h a (.dT kvs)from zjY ok e);refine⟨z,y,xs,r,o,es,ep,h1,h2,h3,h4,λx hx=>?_,h5⟩;have all:∀{l:List (List NK×V)} {m:List (List NK×AG×AE)},KT H l m->∀x∈m,(yaL P w).is h x.1 x.2.1:=by
  intro l m q
  induction q with
  |nil=>intro x hx;exact nomatch hx
  |@cons p q ps qs hq t ih=>
   intro x hx;rcases A5.mp hx with e|hx
   .subst e;exact zec ok (by rw[<-hq.1];exact hq.2.1)
   .exact ih x hx
 exact all r x hx
def zkc{kvs:List (List NK×V)}(ok:HOk P w H h)(e:H a=AA (.dT kvs)):kvs.length<=sizeLine/\(a==sysModules)=AF /\
  ∃xs,KT H kvs xs/\h.DictOfH (yaL P w) a xs:=zh8 ok (.inl e)
end
def ydI(H:Hp)(a:AG)(y:V)(r:Option V):Prop:=
 (∃kvs k,Rd H a (.dK kvs)/\y=kV k/\r=yat kvs k) \/ ∃kvs k b,Rd H a (.dT kvs)/\y=.ref b/\KyR H k b/\r=yat kvs k
section
variable {X:Cx}{π:List (AG×BV)}{σ:St}{H:Hp}{s:AH}{a:AG}{y v:V}{u r:AE}{o:Option V}{A:A3}{E:AE->AH->Prop}
theorem Inv.big(I:Inv X π σ H s):sysModules<s.heap.objs.size:=by
 have h:mainGlobals<s.heap.objs.size:=(I.mod.glob.keeps I.bk).lt;exact Ey ⋯ h
def zeG{Q:AE->AH->Prop}(hu:A.units+16<cLine)(I:Inv X π σ H s)(g:ydI H a y (AA v))(ry:RelV y u)(h:∀w' s',Inv X π σ H s'->RelV v w'->Q w' s'):
  A2 (model X.prog X.w) A (getItem (.ref a) u) Q E s:=by
 rcases g with⟨kvs,k,e,ey,l⟩|⟨kvs,k,b,e,ey,eb,l⟩
 .subst ey;let⟨z,hd,vs,rel,dd⟩:=zhx I.hok e;let⟨w',hw,rw'⟩:=ybf.some_of (v:=v) (o:=valueAt vs k) (by rw[l];exact rel.val k);exact FM (zgV ry) dd.mapOf hw (h w' _ (I.tok _) rw')
 .subst ey
  cases (show u=BF b from ry)
  let⟨z,hd,xs,rel,dd⟩:=zh8 I.hok e;let⟨w',hw,rw'⟩:=ybf.some_of (v:=v) (o:=(atKey xs k).map (·.2)) (by rw[l];exact rel.val k);let⟨p,hp,hp2⟩:=Option.map_eq_some_iff.mp hw;refine wpAny_getItem_heap ((show A.in1.units+8<cLine by erw[FF];lia)) (zec I.hok eb) dd hp ?_;rw[hp2];exact h w' _ (I.tok _) rw'
def zeT{h':Ak}{t':Nat}{ob:HO}(I:Inv X π σ H s)(mu:Mut (H a))(hs:B6 a s.heap h')(he:∃q,h'.get? a=AA q)(new:yF X.prog X.w (upd H a ob) h' a ob):
  Inv X π σ (upd H a ob) {s with heap:=h',toks:=t'}:=
 I.write (x:=a) (e:=a) mu (.inl rfl) (λb q hb z=>(hs.2 b hb).trans z) he new
def zjJ{P:AZ}{w:A8}{H':Hp}{h':Ak}{kvs:List (Key×V)}{vs:List (Key×AE)}(z:kvs.length<=sizeLine)(hd:(a==sysModules)=AF)(rel:KV kvs vs)(dd:h'.DictOf (yK P w) a vs):
  yF P w H' h' a (.dK kvs):=⟨z,hd,vs,rel,dd⟩
end
section
variable {X:Cx}{π:List (AG×BV)}{σ:St}{H:Hp}{s:AH}{a:AG}{kvs:List (Key×V)}{k:Key}{u:AE}{A:A3}{E:AE->AH->Prop}
end
def yb1(i:AL):Prop:=∀ov iv,subscripted i AF ov iv=operate [ov,iv] (getItem ov iv)
def zei{prog:AZ}{w:A8}{A:A3}{E:AE->AH->Prop}{s:AH}{env:Env}{value slice:AL}{pos:BZ}{T id:String}{Q:AE->AH->Prop}
  (hl:typeLookup (.type T) "__getitem__"=pure (AA (.builtin id))) (hs:yb1 slice)
  (h:A2 (model prog w) A (eval value env) (λo s₁=>A2 (model prog w) A (eval slice env) (λi s₂=>s₂.TypeIs o T/\A2 (model prog w) A (getItem o i) Q E s₂) E s₁) E s):
  A2 (model prog w) A (eval (.Subscript value slice pos) env) Q E s:=by
 refine F4 (BA h (λo s₁ h₁=>BA h₁ (λi s₂ h₂=>?_) λ_ _ x=>x) λ_ _ x=>x);let⟨hT,h₂⟩:=h₂;unfold subscriptTail;refine AJ ?_;rw[getitemInPython_of_ne hT.not_modules];refine AJ (FU hT hl ?_);have fin:A2 (model prog w) A (subscripted slice AF o i) (λr s₃=>A2 (model prog w) A (letTemporaryGo value o r >>= λ_=>pure r) Q E s₃) E s₂:=by
  rw[hs o i];exact wpAny_operating (BA h₂ (λr s₃ h₃=>AJ (wpAny_letTemporaryGo (AO h₃))) λ_ _ x=>x)
 first
  |exact AO (AJ fin)
  |exact AJ (AO (AJ fin))
  |exact AJ fin
def zci{X:Cx}{π:List (AG×BV)}{σ:St}{H:Hp}{s:AH}{a:AG}{y:V}{o:Option V}(I:Inv X π σ H s)(g:ydI H a y o):s.TypeIs (.ref a) "dict":=by
 rcases g with⟨kvs,k,e,_,_⟩|⟨kvs,k,b,e,_,_,_⟩
 .let⟨_,_,vs,_,dd⟩:=zhx I.hok e;exact dd.typeIs
 .let⟨_,_,xs,_,dd⟩:=zh8 I.hok e;exact dd.typeIs
def ydy(td ty:TE):TE:=λσ H Q=>td σ H λx H1=>ty σ H1 λy H2=>∃a v,x=.ref a/\ydI H2 a y (AA v)/\Q v H2
section
variable {X:Cx}{o i e value:AL}{pos pos' tpos:BZ}{td ty tv:TE}
def zeb(hu:X.A.units+16<cLine)(ho:PE X o td)(hi:PE X i ty)(hs:yb1 i):PE X (.Subscript o i pos) (ydy td ty):=by
 intro π s σ H Q I h;refine zei D5.lookup hs (thn (ho π s σ H _ I h) λu s1 kq=>?_);let⟨x,H1,I1,rx,q1⟩:=kq;refine thn (hi π s1 σ H1 _ I1 q1) λiv s2 kq=>?_;let⟨y,H2,I2,ry,a,v,ex,g,q2⟩:=kq;subst ex;obtain rfl:u=BF a:=rx;exact⟨zci I2 g,zeG hu I2 g ry λw' s3 I3 rw'=>⟨v,H2,I3,rw',q2⟩⟩
end
def zfW{P:AZ}{w:A8}{H:Hp}(h:Ak)(hb:sysModules<h.objs.size):yF P w H (h.push {cls:=.type "dict",data:=.dict #[]}) h.objs.size (.dK []):=
 ⟨B9 _,beq_eq_false_iff_ne.mpr (Bl (Ab hb)),[],.nil,Heap.DictOf.new h⟩
def zfo{P:AZ}{w:A8}{H:Hp}(h:Ak)(hb:sysModules<h.objs.size):yF P w H (h.push {cls:=.type "dict",data:=.dict #[]}) h.objs.size (.dT []):=
 ⟨B9 _,beq_eq_false_iff_ne.mpr (Bl (Ab hb)),[],.nil,_,#[],0,A6 _ rfl,⟨rfl,rfl,rfl⟩,rfl,rfl,List.nodup_nil⟩
section
variable {X:Cx}{pos:BZ}
end
def yaP:List (TE×TE)->St->Hp->(List (V×V)->Hp->Prop)->Prop
 |[],_,H,Q=>Q [] H
 |(tk,tv)::r,σ,H,Q=>tk σ H λx H1=>tv σ H1 λy H2=>yaP r σ H2 λps H3=>Q ((x,y)::ps) H3
abbrev VV:List (V×V)->List (AE×AE)->Prop:=FG λp q=>RelV p.1 q.1/\RelV p.2 q.2
def PPs(X:Cx)(pos:BZ)(keys:List (Option AL))(values:List AL)(trs:List (TE×TE)):Prop:=
 ∀(π:List (AG×BV)) (s:AH) (σ:St) (H:Hp) (Q:List (V×V)->Hp->Prop),Inv X π σ H s->yaP trs σ H Q ->
  A2 (model X.prog X.w) X.A (evalPairs (pairTrees keys values X.env pos)) (λvs s'=>∃ps H',Inv X π σ H' s'/\VV ps vs/\Q ps H') X.xe s
def zg8{X:Cx}{pos:BZ}:PPs X pos [] [] []:=λπ s σ H Q I h=>pairTrees_nil_walk ⟨[],H,I,.nil,h⟩
def zfZ{X:Cx}{pos:BZ}{k v:AL}{ks:List (Option AL)}{vs:List AL}{tk tv:TE}{trs:List (TE×TE)}(hk:PE X k tk)(hv:PE X v tv)(hr:PPs X pos ks vs trs):
  PPs X pos (AA k::ks) (v::vs) ((tk,tv)::trs):=λπ s σ H Q I h=>
 pairTrees_cons_walk (thn (hk π s σ H _ I h) λu s1 ⟨x,H1,I1,rx,q1⟩=>thn (hv π s1 σ H1 _ I1 q1) λw2 s2 ⟨y,H2,I2,ry,q2⟩=>
  thn (hr π s2 σ H2 _ I2 q2) λws s3 ⟨ps,H3,I3,rel,q3⟩=>⟨(x,y)::ps,H3,I3,.cons ⟨rx,ry⟩ rel,q3⟩)
def yL(kvs more:List (Key×V)):List (Key×V):=more.foldl (λacc kv=>putK acc kv.1 kv.2) kvs
theorem KV.merge:∀{more:List (Key×V)} {rs:List (Key×AE)} {kvs:List (Key×V)} {vs:List (Key×AE)},KV more rs->KV kvs vs->KV (yL kvs more) (merged vs rs):=by
 intro more rs kvs vs r;unfold KV at r
 induction r generalizing kvs vs with
 |nil=>intro q;exact q
 |@cons p q ps qs h t ih=>
  intro r0;have e:KV (putK kvs p.1 p.2) (stored vs q.1 q.2):=by
   have:=r0.put p.1 h.2;rw[<-h.1];exact this
  exact ih e
def z6:∀(more kvs:List (Key×V)),(yL kvs more).length<=kvs.length+more.length
 |[],kvs=>by show kvs.length<=kvs.length+0;lia
 |p::r,kvs=>by
  have h1:=z6 r (putK kvs p.1 p.2);have h2:=zaB kvs p.1 p.2;show (yL (putK kvs p.1 p.2) r).length<=_;rw[Am];lia
def zaZ{P:AZ}{w:A8}:∀{kvs:List (Key×V)} {ws:List (AE×AE)},VV (kvs.map λkv=>(kV kv.1,kv.2)) ws->∃rs,Carries (yK P w) ws rs/\KV kvs rs
 |[],_,r=>by rw[CD]at r;cases r;exact⟨[],CS,.nil⟩
 |p::kvs,_,r=>by
  rw[AS]at r
  cases r with
  |@cons a b as bs h t=>
   let⟨rs,c,q⟩:=zaZ (P:=P) (w:=w) t;let⟨b1,b2⟩:=b;exact⟨(p.1,b2)::rs,⟨zgV h.1,rfl,c⟩,.cons ⟨rfl,h.2⟩ q⟩
def ydw(trs:List (TE×TE)):TE:=λσ H Q=>∀p,H p=AB->yaP trs σ (upd H p (.dK [])) λps H2=>H2 p=AA (.dK [])/\∃kvs:List (Key×V),ps=kvs.map (λkv=>(kV kv.1,kv.2))/\kvs.length<=15/\Q (.ref p) (upd H2 p (.dK (yL [] kvs)))
def zhO{X:Cx}{pos:BZ}{keys:List (Option AL)}{values:List AL}{trs:List (TE×TE)}(h:PPs X pos keys values trs)(hall:keys.all (·.isSome)=AD)(hl:keys.length=values.length)(h0:keys≠[])
  (h15:keys.length<=15):PE X (.Dict keys values pos) (ydw trs):=by
 intro π s σ H Q I q;have hn:=I.hok.fresh (AN s.heap.objs.size);have I1:=I.laid (a:=s.heap.objs.size) (o:=.dK []) (h':=s.heap.push {cls:=.type "dict",data:=.dict #[]}) (t':=s.toks) (λ_ _ q=>AR _ q) (AN _) (zfW s.heap I.big);refine wpAny_Dict_walk (knd:=yK X.prog X.w) hall hl h0 h15 (thn (h π _ σ _ _ I1 (q _ hn)) λws s2 kq=>?_);let⟨ps,H2,I2,rel,e,kvs,ep,lk,q2⟩:=kq;subst ep;let⟨rs,c,rk⟩:=zaZ (P:=X.prog) (w:=X.w) rel;let⟨z,hd,vs0,r0,dd⟩:=zke I2.hok e
 cases r0
 refine⟨rs,c,dd,λh' dd' hs=>⟨.ref s.heap.objs.size,_,?_,rfl,q2⟩⟩;have hz:(yL [] kvs).length<=sizeLine:=by
  have h1:=z6 kvs [];rw[CF]at h1;rw[Bm];lia
 have he:∃q,h'.get? s.heap.objs.size=AA q:=let ⟨q,_,_,hq,_⟩:=dd';⟨q,hq⟩
 exact zeT I2 (by rw[e];exact CS) hs he (zjJ hz hd (rk.merge .nil) dd')
section
variable {X:Cx}{π:List (AG×BV)}{σ:St}{H:Hp}{s:AH}{a:AG}{y d:V}{u r:AE}{o:Option V}{A:A3}{E:AE->AH->Prop}
end
section
variable {X:Cx}{o e f:AL}{apos cpos:BZ}{td ty tx:TE}
end
section
variable {X:Cx}{π:List (AG×BV)}{σ:St}{H:Hp}{s:AH}{a:AG}{kvs:List (Key×V)}{A:A3}{E:AE->AH->Prop}
end
section
variable {X:Cx}{π:List (AG×BV)}{σ:St}{H:Hp}{s:AH}{a:AG}{y:V}{u:AE}{A:A3}{E:AE->AH->Prop}
end
end L2
namespace IC
open PySem
inductive PV where
 |non|bl (b:Bool)|int (i:Int)|str (x:AM)|tp (k:Bool) (xs:List PV)|lst (xs:List PV)|loc (n:Nat)|exn (c:Nat)|scr (xs:List PV)|fnc (j:Nat)
deriving Inhabited
abbrev PV.tup(xs:List PV):PV:=.tp AF xs
mutual
noncomputable def nL:PV->Bool
 |.loc _=>AF
 |.exn _=>AF
 |.fnc _=>AD
 |.tp _ xs=>nLs xs
 |.lst xs=>nLs xs
 |.scr xs=>nLs xs
 |_=>AD
noncomputable def nLs:List PV->Bool
 |[]=>AD
 |x::xs=>nL x&&nLs xs
end
mutual
noncomputable def shd(n:Nat):PV->Bool
 |.non=>AD
 |.bl _=>AD
 |.int _=>AD
 |.str x=>x.cps.all (· < 0x110000)
 |.tp _ xs=>decide (0<n)&&yax (n-1) xs
 |.lst xs=>decide (0<n)&&yax (n-1) xs
 |_=>AF
noncomputable def yax(n:Nat):List PV->Bool
 |[]=>AD
 |x::xs=>shd n x&&yax n xs
end
abbrev shp(v:PV):Bool:=shd 60 v
def flat:PV->Bool
 |.non=>AD
 |.bl _=>AD
 |.int _=>AD
 |.str _=>AD
 |_=>AF
def bi(b:Bool):Int:=if b then 1 else 0
mutual
noncomputable def peq:PV->PV->Bool
 |.non,.non=>AD
 |.bl a,.bl b=>a==b
 |.bl a,.int j=>bi a==j
 |.int i,.bl b=>i==bi b
 |.int i,.int j=>i==j
 |.str x,.str y=>x==y
 |.tp _ xs,.tp _ ys=>yaO xs ys
 |.lst xs,.lst ys=>yaO xs ys
 |_,_=>AF
noncomputable def yaO:List PV->List PV->Bool
 |[],[]=>AD
 |x::xs,y::ys=>peq x y&&yaO xs ys
 |_,_=>AF
end
inductive Ob where
 |lst (xs:List PV)|dct (t:Bool) (kvs:List (PV×PV))|dead|ins (c:Nat) (fs:List (AM×PV))
abbrev Env:=List (Option PV)
abbrev SO:=List Ob
inductive R(α:Type) where
 |ok (a:α) (st:SO)|exc (c:Nat) (st:SO)|bad
def R.bind{α β:Type}(r:R α)(k:α->SO->R β):R β:=
 match r with
 |.ok a st=>k a st
 |.exc c st=>.exc c st
 |.bad=>.bad
inductive BOp where
 |add|sub|mul|fdiv|mod|pow|shl|shr|band|bor|bxor
inductive COp where
 |eq|ne|lt|le|gt|ge|is|isnot|isin|notin
inductive Ty where
 |int|bool|str|tuple|list|cls (c:Nat)|val
inductive Blt where
 |len|int|abs|min|max|tuple|list|all|sum|dict|rev|str|any
inductive Mth where
 |append|extend|get|bits|upper|insert|count|index|join|split|sidx|clear
inductive Tg where
 |n (i:Nat)|t (l:List Nat)
set_option genInjectivity false
mutual
inductive Ce where
 |cst (v:PV)
 |var (i:Nat)
 |bin (o:BOp) (a b:Ce)
 |not (a:Ce)
 |and (a b:Ce)
 |or (a b:Ce)
 |cmp (o:COp) (a b:Ce)
 |chain (o p:COp) (a b c:Ce)
 |ite (c a b:Ce)
 |tup (es:Ces)
 |lst (es:Ces)
 |newl (es:Ces)
 |idx (a i:Ce)
 |slc (a:Ce) (lo hi:Ce)
 |call (f:Nat) (args:Ces)
 |blt (b:Blt) (args:Ces)
 |mth (m:Mth) (o:Ce) (args:Ces)
 |isi (a:Ce) (t:List Ty)
 |comp (sl:List (Option Nat)) (tg:Tg) (it:Cit) (c:Ce) (e:Ce)
 |nope
 |fst (e:Ces)
 |nin (a b:Ce)
 |dgt (a i:Ce)
 |dsub (ks:List AM) (es:Ces) (i:Ce)
 |cmq (sl:List (Option Nat)) (tg:Tg) (it:Cit) (m:Ce)
 |emq (tg:Tg) (it:Cit) (m:Ce)
 |dcm (sl:List (Option Nat)) (tg:Tg) (it:Cit) (k v:Ce)
inductive Ces where
 |nil
 |cons (e:Ce) (es:Ces)
inductive Cit where
 |seq (e:Ce)
 |range1 (a:Ce)
 |range2 (a b:Ce)
 |rangeD (a b:Ce)
 |enum (e:Ce)
 |zip (a b:Ce)
 |revl (e:Ce)
 |revr (a:Ce)
 |chars (e:Ce)
end
set_option genInjectivity true
abbrev Ce.i(n:Int):Ce:=.cst (.int n)
abbrev Ce.s(x:AM):Ce:=.cst (.str x)
abbrev Ce.v:=Ce.var
abbrev Ces.k:=Ces.cons
abbrev Ces.e:=Ces.nil
mutual
inductive Cs where
 |expr (e:Ce)
 |asg (t:Tg) (e:Ce)
 |six (o i e:Ce)
 |aug (i:Nat) (o:BOp) (e:Ce)
 |ret (e:Ce)
 |ite (c:Ce) (a b:Css)
 |for (t:Tg) (it:Cit) (b:Css)
 |while (c:Ce) (b:Css)
 |nope
 |raise (c:Nat) (e:Ce)
 |mkr (i:Nat) (D:List (AM×Nat)) (n:Ce) (es:Ces)
 |forl (t:Tg) (e:Ce) (b:Css)
inductive Css where
 |nil
 |cons (s:Cs) (ss:Css)
end
abbrev Css.k:=Css.cons
abbrev Css.e:=Css.nil
def yau(i j:Int):Bool:=(decide (i.natAbs<18446744073709551616)) || (decide (j.natAbs<18446744073709551616))
def binI(o:BOp)(i j:Int):Option PV:=
 match o with
 |.add=>AA (.int (i+j))
 |.sub=>AA (.int (i-j))
 |.mul=>if yau i j then AA (.int (i*j))else AB
 |.fdiv=>if 0<j/\j<10000000000000000000000000000000000000000000000000000000000000000000000 then AA (.int (i/j))else AB
 |.mod=>if 0<j then AA (.int (i%j))else AB
 |.pow=>if 0<=j/\j<=1000000/\i.natAbs<18446744073709551616 then AA (.int (i^j.toNat))else AB
 |.shl=>if 0<=j/\j<=1000000/\i.natAbs<1606938044258990275541962092341162602522202993782792835301376 then AA (.int (i*2^j.toNat))else AB
 |.shr=>if 0<=j then AA (.int (i/2^j.toNat))else AB
 |.band=>AA (.int (EJ i j))
 |.bor=>AA (.int (E1 i j))
 |.bxor=>AA (.int (EK i j))
def sizeMax:Nat:=16777216
def ydt(k:Bool)(a:List PV)(j:Bool)(b:List PV):PV:=if a.isEmpty then .tp j b else if b.isEmpty then .tp k a else .tup (a++b)
def yw(o:BOp)(x y:PV):Option PV:=
 match x,y with
 |.int i,.int j=>binI o i j
 |.int i,.bl b=>match o with
  |.add=>AA (.int (i+bi b))
  |_=>AB
 |.str a,.str b=>match o with
  |.add=>if a.length+b.length<=sizeMax then AA (.str (a++b))else AB
  |_=>AB
 |.tp k a,.tp j b=>match o with
  |.add=>if a.length+b.length<=sizeMax then AA (ydt k a j b)else AB
  |_=>AB
 |.lst a,.lst b=>match o with
  |.add=>if a.length+b.length<=sizeMax then AA (.lst (a++b))else AB
  |_=>AB
 |_,_=>AB
def ybd(o:BOp)(x y:PV):Option PV:=
 match x,y with
 |.int i,.int j=>binI o i j
 |_,_=>AB
def isNon:PV->Bool
 |.non=>AD
 |_=>AF
def inL(x:PV):List PV->Bool
 |[]=>AF
 |y::ys=>peq y x || inL x ys
def inS(a b:AM):Bool:=(CP (b.length+1)).any λi=>decide (i+a.length<=b.length)&&(b.cps.extract i (i+a.length)==a.cps)
def ybj(o:COp)(i j:Int):Option PV:=
 match o with
 |.lt=>AA (.bl (decide (i<j)))
 |.le=>AA (.bl (decide (i<=j)))
 |.gt=>AA (.bl (decide (j<i)))
 |.ge=>AA (.bl (decide (j<=i)))
 |_=>AB
def ydh(o:COp)(a b:AM):Option PV:=
 match o with
 |.lt=>AA (.bl (decide (a.cps.toList<b.cps.toList)))
 |.le=>AA (.bl (!decide (b.cps.toList<a.cps.toList)))
 |_=>AB
def yC(o:COp)(x y:PV):Option PV:=
 match o with
 |.eq=>if shp x&&shp y then AA (.bl (peq x y))else AB
 |.ne=>if shp x&&shp y then AA (.bl (!peq x y))else AB
 |.is=>match y with
  |.non=>AA (.bl (isNon x))
  |.bl b=>match x with
   |.bl a=>AA (.bl (a==b))
   |_=>AB
  |_=>AB
 |.isnot=>match y with
  |.non=>AA (.bl (!isNon x))
  |.bl b=>match x with
   |.bl a=>AA (.bl (!(a==b)))
   |_=>AB
  |_=>AB
 |.isin=>match x,y with
  |.str a,.str b=>AA (.bl (inS a b))
  |x,.tp _ l=>if flat x&&l.all flat then AA (.bl (inL x l))else AB
  |x,.lst l=>if flat x&&l.all flat then AA (.bl (inL x l))else AB
  |_,_=>AB
 |.notin=>match x,y with
  |.str a,.str b=>AA (.bl (!inS a b))
  |x,.tp _ l=>if flat x&&l.all flat then AA (.bl (!inL x l))else AB
  |x,.lst l=>if flat x&&l.all flat then AA (.bl (!inL x l))else AB
  |_,_=>AB
 |o=>match x,y with
  |.int i,.int j=>ybj o i j
  |.str a,.str b=>ydh o a b
  |_,_=>AB
def yar(st:SO)(x:PV):Option Bool:=
 match x with
 |.non=>AA AF
 |.bl b=>AA b
 |.int i=>AA (i != 0)
 |.str y=>if y.length<=sizeMax then AA ((y.length:Int) != 0)else AB
 |.tp _ xs=>AA (!xs.isEmpty)
 |.lst xs=>AA (!xs.isEmpty)
 |.loc n=>match st[n]? with
  |some (.lst xs)=>AA (!xs.isEmpty)
  |_=>AB
 |_=>AB
def ixI(n:Nat)(i:Int):Option Nat:=if 0<=i then(if i<n then AA i.toNat else AB)else if -(n:Int)<=i then AA (i+n).toNat else AB
def at?{α:Type}(xs:List α)(i:Int):Option α:=(ixI xs.length i).bind λj=>xs[j]?
def look(k:PV):List (PV×PV)->Option PV
 |[]=>AB
 |(a,b)::r=>if peq a k then AA b else look k r
def put(k v:PV)(kvs:List (PV×PV)):List (PV×PV):=
 if (kvs.any λp=>peq p.1 k)=AD then kvs.map (λp=>if peq p.1 k=AD then(p.1,v)else p)else kvs++[(k,v)]
def ybT:PV->Bool
 |.int _=>AD
 |.str _=>AD
 |_=>AF
mutual
noncomputable def ydm(n:Nat):PV->Bool
 |.int _=>AD
 |.str x=>x.cps.all (· < 0x110000)
 |.tp k xs=>!k&&decide (0<n)&&ybr (n-1) xs
 |_=>AF
noncomputable def ybr(n:Nat):List PV->Bool
 |[]=>AD
 |x::xs=>ydm n x&&ybr n xs
end
def isKey(t:Bool)(k:PV):Bool:=
 match t with
 |false=>ybT k
 |true=>match k with
  |.tp AF xs=>ybr 5 xs
  |_=>AF
def yaS{α:Type}(xs:List α)(i:PV):Option α:=
 match i with
 |.int k=>at? xs k
 |_=>AB
def idxV(st:SO)(x i:PV):Option PV:=
 match x with
 |.tp _ xs=>yaS xs i
 |.lst xs=>yaS xs i
 |.str s=>if s.length<=sizeMax then(yaS s.cps.toList i).map λc=>.str ⟨#[c]⟩else AB
 |.loc n=>match st[n]? with
  |some (.lst xs)=>yaS xs i
  |_=>AB
 |_=>AB
def ybt(n:Nat)(v:Int):Nat:=if v<0 then(v+(n:Int)).toNat else min v.toNat n
def yci(n:Nat)(lo:Option Int):Nat:=
 match lo with
 |none=>0
 |some i=>ybt n i
def ycZ(n:Nat)(hi:Option Int):Nat:=
 match hi with
 |none=>n
 |some i=>ybt n i
def cut{α:Type}(xs:List α)(lo hi:Option Int):List α:=(xs.drop (yci xs.length lo)).take (ycZ xs.length hi-yci xs.length lo)
def ybX:PV->Option (Option Int)
 |.non=>AA AB
 |.int i=>AA (AA i)
 |_=>AB
def yb5(x:PV)(a b:Option Int):Option PV:=
 match x with
 |.tp k xs=>if yci xs.length a=0/\ycZ xs.length b=xs.length then AA (.tp k xs)else AA (.tup (cut xs a b))
 |.str s=>if s.length<=sizeMax then AA (.str ⟨(cut s.cps.toList a b).toArray⟩)else AB
 |.lst xs=>AA (.lst (cut xs a b))
 |.scr xs=>AA (.lst (cut xs a b))
 |_=>AB
def ycC(x:PV)(a:Option Int)(hi:PV):Option PV:=
 match ybX hi with
 |some b=>yb5 x a b
 |none=>AB
def yaN(x:PV)(t:Ty):Bool:=
 match x,t with
 |.int _,.int=>AD
 |.bl _,.int=>AD
 |.bl _,.bool=>AD
 |.str _,.str=>AD
 |.tp _ _,.tuple=>AD
 |.lst _,.list=>AD
 |.exn c,.cls d=>c==d
 |.exn _,.val=>AD
 |_,_=>AF
def ycu:Ty->Bool
 |.cls _=>AF
 |.val=>AF
 |_=>AD
def ybu(x:PV)(ts:List Ty):Option PV:=
 match x with
 |.loc _=>AB
 |.scr _=>AB
 |.fnc _=>AB
 |.exn c=>if ts.all ycu then AB else AA (.bl (ts.any (yaN (.exn c))))
 |x=>match ts with
  |[t]=>if ycu t then AA (.bl (yaN x t))else AB
  |_=>AB
def ycn:PV->Option AM
 |.int i=>if i.natAbs.log2<1920 then AA (AX (toString i))else AB
 |.str s=>if s.length<=16777216 then AA s else AB
 |_=>AB
def yco:AM->List PV->Option AM
 |out,[]=>if out.length<=16777216 then AA out else AB
 |out,v::vs=>match ycn v with
  |some y=>if (out++y).length<=16777216 then yco (out++y) vs else AB
  |none=>AB
def ydk(r:R (List PV)):R PV:=
 match r with
 |.ok vs st=>match yco Cm vs with
  |some z=>.ok (.str z) st
  |none=>.bad
 |_=>.bad
def allB:List PV->Option Bool
 |[]=>AA AD
 |.bl b::r=>match allB r with
  |some c=>AA (b&&c)
  |none=>AB
 |_::_=>AB
def yer:List PV->Option Int
 |[]=>AA 0
 |.int i::r=>match yer r with
  |some c=>AA (i+c)
  |none=>AB
 |_::_=>AB
def yeG:List PV->Option Int
 |[]=>AB
 |[.int i]=>AA i
 |.int i::r=>match yeG r with
  |some c=>AA (if i<c then c else i)
  |none=>AB
 |_::_=>AB
def yad(st:SO):PV->Option (List PV)
 |.tp _ xs=>AA xs
 |.lst xs=>AA xs
 |.loc n=>match st[n]? with
  |some (.lst xs)=>AA xs
  |_=>AB
 |_=>AB
def yN(st:SO):PV->Option (List PV)
 |.lst xs=>AA xs
 |.loc n=>match st[n]? with
  |some (.lst xs)=>AA xs
  |_=>AB
 |_=>AB
def lenV(st:SO)(x:PV):Option PV:=
 match x with
 |.str s=>if s.length<=sizeMax then AA (.int s.length)else AB
 |x=>(yad st x).map λxs=>.int xs.length
def yfk(x:PV):Option PV:=
 match x with
 |.int i=>AA (.int i)
 |.bl k=>AA (.int (bi k))
 |_=>AB
def yd9(x:PV):Option PV:=
 match x with
 |.int i=>AA (.int (if i<0 then -i else i))
 |_=>AB
def yew(x y:PV):Option PV:=
 match x,y with
 |.int i,.int j=>AA (.int (if j<i then j else i))
 |_,_=>AB
def maxV(x y:PV):Option PV:=
 match x,y with
 |.int i,.int j=>AA (.int (if i<j then j else i))
 |_,_=>AB
def yee(st:SO)(x:PV):Option PV:=
 match x with
 |.tp k xs=>AA (.tp k xs)
 |x=>(yN st x).map .tup
def yfY:PV->Option PV
 |.tp _ xs=>AA (.tup xs.reverse)
 |.lst xs=>AA (.lst xs.reverse)
 |_=>AB
def anyB:List PV->Option Bool
 |[]=>AA AF
 |.bl b::r=>match anyB r with
  |some c=>AA (b || c)
  |none=>AB
 |_=>AB
def anyI:List PV->Option Bool
 |[]=>AA AF
 |.int i::r=>match anyI r with
  |some c=>AA ((i != 0) || c)
  |none=>AB
 |_=>AB
def ygk:PV->Option PV
 |.int i=>if i=0 then AA (.str "0")else if i=1 then AA (.str "1")else AB
 |_=>AB
def yah(b:Blt)(st:SO)(vs:List PV):Option PV:=
 match vs with
 |[x]=>match b with
  |.len=>lenV st x
  |.int=>yfk x
  |.abs=>yd9 x
  |.max=>(yN st x).bind λxs=>(yeG xs).map .int
  |.tuple=>yee st x
  |.list=>(yad st x).map .lst
  |.all=>(yN st x).bind λxs=>(allB xs).map .bl
  |.sum=>(yN st x).bind λxs=>(yer xs).map .int
  |.rev=>yfY x
  |.str=>ygk x
  |.any=>match x with
   |.tp _ xs=>(anyI xs).map .bl
   |x=>(yN st x).bind λxs=>(anyB xs).map .bl
  |_=>AB
 |[x,y]=>match b with
  |.min=>yew x y
  |.max=>maxV x y
  |_=>AB
 |_=>AB
def yal(st:SO):PV->Option (Bool×List (PV×PV))
 |.loc n=>match st[n]? with
  |some (.dct t xs)=>AA (t,xs)
  |_=>AB
 |_=>AB
def yba(m:Mth)(st:SO)(x:PV):Option Bool:=
 match m with
 |.append=>(yN st x).map λ_=>AD
 |.extend=>(yN st x).map λ_=>AD
 |.insert=>(yN st x).map λ_=>AD
 |.count=>(yN st x).map λ_=>AD
 |.index=>(yN st x).map λ_=>AD
 |.get=>(yal st x).map λ_=>AD
 |.bits=>match x with
  |.int _=>AA AD
  |_=>AB
 |.upper=>match x with
  |.str _=>AA AD
  |_=>AB
 |.join=>match x with
  |.str _=>AA AD
  |_=>AB
 |.split=>match x with
  |.str _=>AA AD
  |_=>AB
 |.sidx=>match x with
  |.str _=>AA AD
  |_=>AB
 |.clear=>match x with
  |.loc n=>(yN st (.loc n)).map λ_=>AD
  |_=>AB
def ygj(st:SO)(o v:PV):R PV:=
 match o with
 |.loc n=>match st[n]? with
  |some (.lst xs)=>if xs.length<1000000 then .ok .non (st.set n (.lst (xs++[v])))else .bad
  |_=>.bad
 |_=>.bad
def ye1(st:SO)(o v:PV):R PV:=
 match o with
 |.loc n=>match st[n]? with
  |some (.lst xs)=>match v with
   |.lst ys=>if xs.length+ys.length<=1000000 then .ok .non (st.set n (.lst (xs++ys)))else .bad
   |_=>.bad
  |_=>.bad
 |_=>.bad
def ygf(st:SO)(o i v:PV):R PV:=
 match o with
 |.loc n=>match st[n]? with
  |some (.lst xs)=>match i with
   |.int k=>if 0<=k/\k<=xs.length/\xs.length<1000000 then .ok .non (st.set n (.lst (xs.take k.toNat++v::xs.drop k.toNat)))else .bad
   |_=>.bad
  |_=>.bad
 |_=>.bad
def yeP(st:SO)(o k d:PV):R PV:=
 match yal st o with
 |some (t,kvs)=>if isKey t k then .ok ((look k kvs).getD d) st else .bad
 |none=>.bad
def ygs(st:SO)(o v:PV):R PV:=
 match yN st o with
 |some xs=>if flat v&&xs.all flat then .ok (.int (xs.countP λy=>peq y v)) st else .bad
 |none=>.bad
def ycv(v:PV):List PV->Option Nat
 |[]=>AB
 |y::ys=>if peq y v then AA 0 else(ycv v ys).map (·+1)
def ygi(st:SO)(o v:PV):R PV:=
 match yN st o with
 |some xs=>if flat v&&xs.all flat then(match ycv v xs with
  |some j=>.ok (.int j) st
  |none=>.bad)else .bad
 |none=>.bad
def upC(c:Nat):Nat:=if 97<=c/\c<=122 then c-32 else c
def upS(s:AM):Str:=⟨(s.cps.toList.map upC).toArray⟩
def yI(c:Nat):List Nat->List (List Nat)
 |[]=>[[]]
 |x::xs=>if x=c then []::yI c xs else match yI c xs with
  |[]=>[[x]]
  |p::ps=>(x::p)::ps
def strsOf:List PV->Option (List AM)
 |[]=>AA []
 |.str s::r=>(strsOf r).map (s :: ·)
 |_=>AB
def ydL(st:SO)(o v:PV):R PV:=
 match o,yN st v with
 |.str s,AA xs=>match strsOf xs with
  |some ys=>if s.length<=10/\xs.length<=1000/\(ys.all λy=>decide (y.length<=1000))=AD then .ok (.str (GL s ys)) st else .bad
  |none=>.bad
 |_,_=>.bad
def yfd(st:SO)(o:PV):R PV:=
 match o with
 |.loc n=>match st[n]? with
  |some (.lst _)=>.ok .non (st.set n (.lst []))
  |_=>.bad
 |_=>.bad
def ycQ(ks:List AM)(vs:List PV)(y:PV):Option PV:=
 match y with
 |.str q=>look (.str q) ((ks.zip vs).foldl (λacc kv=>put (.str kv.1) kv.2 acc) [])
 |_=>AB
def ydO(st:SO)(o v:PV):R PV:=
 match o,v with
 |.str s,.str y=>if s=AX "01" then(if y=AX "0" then .ok (.int 0) st else if y=AX "1" then .ok (.int 1) st else .bad)else .bad
 |_,_=>.bad
def yaQ(st:SO)(o v:PV):R PV:=
 match o,v with
 |.str s,.str y=>match y.cps.toList with
  |[c]=>if s.length<=100000 then .ok (.lst ((yI c s.cps.toList).map λl=>.str ⟨l.toArray⟩)) st else .bad
  |_=>.bad
 |_,_=>.bad
def ycM(m:Mth)(st:SO)(o:PV)(vs:List PV):R PV:=
 match m,vs with
 |.append,[v]=>ygj st o v
 |.extend,[v]=>ye1 st o v
 |.insert,[i,v]=>ygf st o i v
 |.get,[k,d]=>yeP st o k d
 |.count,[v]=>ygs st o v
 |.index,[v]=>ygi st o v
 |.join,[v]=>ydL st o v
 |.split,[v]=>yaQ st o v
 |.sidx,[v]=>ydO st o v
 |.clear,[]=>yfd st o
 |.bits,[]=>match o with
  |.int i=>.ok (.int (CZ i)) st
  |_=>.bad
 |.upper,[]=>match o with
  |.str s=>if s.cps.toList.all (· < 128)/\s.length<=1000000 then .ok (.str (upS s)) st else .bad
  |_=>.bad
 |_,_=>.bad
def toR(o:Option PV)(st:SO):R PV:=
 match o with
 |some v=>.ok v st
 |none=>.bad
def yo(t:Tg)(v:PV)(ρ:Env):Option Env:=
 match t,v with
 |.n i,v=>AA (ρ.set i (AA v))
 |.t l,.tp _ xs=>if l.length=xs.length then AA ((l.zip xs).foldl (λρ p=>ρ.set p.1 (AA p.2)) ρ)else AB
 |_,_=>AB
def yR:Nat->List PV->List PV
 |_,[]=>[]
 |k,x::xs=>.tup [.int k,x]::yR (k+1) xs
def ycs:List PV->List PV->List PV
 |x::xs,y::ys=>.tup [x,y]::ycs xs ys
 |_,_=>[]
def yfB:PV->Option (List PV)
 |.tp _ xs=>AA xs.reverse
 |.lst xs=>AA xs.reverse
 |_=>AB
def ycT:PV->Option (List PV)
 |.str s=>if s.length<=1000000 then AA (s.cps.toList.map λc=>.str ⟨#[c]⟩)else AB
 |_=>AB
def ye4(x y:PV):Option (List PV):=
 match x,y with
 |.tp _ xs,.tp _ ys=>if xs.length<=ys.length then AA (ycs xs ys)else AB
 |_,_=>AB
def yaX(s:AM):List (AM×PV)->Option PV
 |[]=>AB
 |(a,b)::r=>if decide (a=s)then AA b else yaX s r
def yu:Nat->Int->Int->List PV
 |0,_,_=>[]
 |n+1,a,d=>.int a::yu n (a+d) d
def ybS(x:PV):Option (List PV):=
 match x with
 |.int j=>if j.natAbs<1000000000 then AA (yu j.toNat 0 1)else AB
 |_=>AB
def yfi(x:PV):Option (List PV):=
 match x with
 |.int j=>if 0<=j/\j<1000000000 then AA (yu j.toNat (j-1) (-1))else AB
 |_=>AB
def yfo(x y:PV):Option (List PV):=
 match x,y with
 |.int i,.int j=>if i.natAbs<1000000000/\j.natAbs<1000000000 then AA (yu (j-i).toNat i 1)else AB
 |_,_=>AB
def yff(x y:PV):Option (List PV):=
 match x,y with
 |.int i,.int j=>if i.natAbs<1000000000/\j.natAbs<1000000000 then AA (yu (i-j).toNat i (-1))else AB
 |_,_=>AB
def toL(o:Option (List PV))(st:SO):R (List PV):=
 match o with
 |some v=>.ok v st
 |none=>.bad
def ybA(st:SO)(x y:PV):Option PV:=
 match yad st y with
 |some xs=>if shp x&&yax 60 xs then AA (.bl (!inL x xs))else AB
 |none=>AB
def ycN(st:SO)(x k:PV):Option PV:=
 match yal st x with
 |some (t,kvs)=>if isKey t k then look k kvs else AB
 |none=>AB
def mkV(D:List (AM×Nat))(b:Bool)(x:PV):Option Nat:=
 match x with
 |.str s=>if b then D.lookup s else AB
 |_=>AB
def ydb(f:AM)(v:PV):List (AM×PV)->List (AM×PV)
 |[]=>[(f,v)]
 |(g,x)::r=>if g=f then(g,v)::r else(g,x)::ydb f v r
inductive Fl where
 |nx (ρ:Env) (st:SO)|rt (v:PV) (st:SO)|bk (ρ:Env) (st:SO)|ct (ρ:Env) (st:SO)|exc (c:Nat) (ρ:Env) (st:SO)|bad
def onBl{α:Type}(x:PV)(k:Bool->R α):R α:=
 match x with
 |.bl b=>k b
 |_=>.bad
def onO{α:Type}(o:Option Bool)(k:Bool->R α):R α:=
 match o with
 |some b=>k b
 |none=>.bad
def onF(o:Option Bool)(k:Bool->Fl):Fl:=
 match o with
 |some b=>k b
 |none=>.bad
def onP{α:Type}(o:Option (Option Int))(k:Option Int->R α):R α:=
 match o with
 |some b=>k b
 |none=>.bad
def blO(o:Option PV):Option Bool:=
 match o with
 |some (.bl b)=>AA b
 |_=>AB
def ybz(o:Option PV)(ys:List PV):List PV:=
 match o with
 |some y=>y::ys
 |none=>ys
def compL(one:PV->SO->R (Option PV)):List PV->SO->R (List PV)
 |[],st=>.ok [] st
 |x::xs,st=>(one x st).bind λo st1=>(compL one xs st1).bind λys st2=>.ok (ybz o ys) st2
def ybh(r:R (List PV)):R PV:=
 match r with
 |.ok ys st=>if ys.length<=1000000 then .ok (.lst ys) st else .bad
 |_=>.bad
def ybi:PV×PV->Bool
 |(_,.int _)=>AD
 |_=>AF
def ivP:PV->Int
 |.int i=>i
 |_=>0
def yae(one:PV->SO->R (List PV)):List PV->SO->R (List PV)
 |[],st=>.ok [] st
 |x::xs,st=>(one x st).bind λo st1=>(yae one xs st1).bind λys st2=>.ok (o++ys) st2
def emR(r:R PV):R (List PV):=
 match r with
 |.ok (.tp AF vs) st=>.ok vs st
 |_=>.bad
def ycr(o:Option (Option PV)):Bool:=
 match o with
 |some AB=>AD
 |_=>AF
def yag(t:Tg)(ρ:Env):Bool:=
 match t with
 |.n i=>ycr ρ[i]?
 |.t l=>l.all λi=>ycr ρ[i]?
def tupR(r:R (List PV)):R PV:=
 match r with
 |.ok vs st=>.ok (.tp AF vs) st
 |_=>.bad
def yav(one:PV->SO->R (PV×PV)):List PV->List (PV×PV)->SO->R (List (PV×PV))
 |[],acc,st=>.ok acc st
 |x::xs,acc,st=>(one x st).bind λp st1=>if isKey AD p.1 then yav one xs (put p.1 p.2 acc) st1 else .bad
def dctR(r:R (List (PV×PV))):R PV:=
 match r with
 |.ok kvs st=>.ok (.loc st.length) (st++[.dct AD kvs])
 |_=>.bad
def yb3(ka kb:List (PV×PV)):Bool:=ka.length==kb.length&&ka.all λp=>match look p.1 kb with
 |some v=>ivP p.2==ivP v
 |none=>AF
mutual
noncomputable def ev(call:Nat->List PV->SO->R PV)(ρ:Env)(st:SO):Ce->R PV
 |.cst v=>.ok v st
 |.var i=>match ρ[i]? with
  |some (AA v)=>.ok v st
  |_=>.bad
 |.bin o a b=>(ev call ρ st a).bind λx st1=>(ev call ρ st1 b).bind λy st2=>toR (yw o x y) st2
 |.not a=>(ev call ρ st a).bind λx st1=>onBl x λk=>.ok (.bl (!k)) st1
 |.and a b=>(ev call ρ st a).bind λx st1=>onBl x λk=>cond k (ev call ρ st1 b) (.ok (.bl AF) st1)
 |.or a b=>(ev call ρ st a).bind λx st1=>onBl x λk=>cond k (.ok (.bl AD) st1) (ev call ρ st1 b)
 |.cmp o a b=>(ev call ρ st a).bind λx st1=>(ev call ρ st1 b).bind λy st2=>toR (yC o x y) st2
 |.chain o p a b c=>(ev call ρ st a).bind λx st1=>(ev call ρ st1 b).bind λy st2=>onO (blO (yC o x y)) λk=>cond k ((ev call ρ st2 c).bind λz st3=>toR (yC p y z) st3) (.ok (.bl AF) st2)
 |.ite c a b=>(ev call ρ st c).bind λx st1=>onO (yar st1 x) λk=>cond k (ev call ρ st1 a) (ev call ρ st1 b)
 |.tup es=>(evs call ρ st es).bind λvs st1=>if vs.length<=sizeMax then .ok (.tup vs) st1 else .bad
 |.lst es=>(evs call ρ st es).bind λvs st1=>if vs.length<=sizeMax then .ok (.lst vs) st1 else .bad
 |.newl es=>(evs call ρ st es).bind λvs st1=>if vs.length<=sizeMax then .ok (.loc st1.length) (st1++[.lst vs])else .bad
 |.idx a i=>(ev call ρ st a).bind λx st1=>(ev call ρ st1 i).bind λy st2=>toR (idxV st2 x y) st2
 |.slc a l h=>(ev call ρ st a).bind λx st1=>(ev call ρ st1 l).bind λy st2=>onP (ybX y) λo=>(ev call ρ st2 h).bind λz st3=>toR (ycC x o z) st3
 |.call f es=>(evs call ρ st es).bind λvs st1=>call f vs st1
 |.blt b es=>(evs call ρ st es).bind λvs st1=>toR (yah b st1 vs) st1
 |.mth m o es=>(ev call ρ st o).bind λx st1=>onO (yba m st1 x) λ_=>(evs call ρ st1 es).bind λvs st2=>ycM m st2 x vs
 |.isi a ts=>(ev call ρ st a).bind λx st1=>toR (ybu x ts) st1
 |.comp sl tg it c e=>(evi call ρ st it).bind λxs st1=>
  let ρ0:Env:=sl.map λo=>o.bind λj=>(ρ[j]?).join
  ybh (compL (λx st2=>match yo tg x ρ0 with
   |none=>.bad
   |some ρ1=>(ev call ρ1 st2 c).bind λb st3=>onO (yar st3 b) λk=>cond k ((ev call ρ1 st3 e).bind λy st4=>.ok (AA y) st4) (.ok AB st3)) xs st1)
 |.nope=>.bad
 |.fst es=>ydk (evs call ρ st es)
 |.nin a b=>(ev call ρ st a).bind λx st1=>(ev call ρ st1 b).bind λy st2=>toR (ybA st2 x y) st2
 |.dgt a i=>(ev call ρ st a).bind λx st1=>(ev call ρ st1 i).bind λy st2=>toR (ycN st2 x y) st2
 |.dsub ks es i=>match evs call ρ st es with
  |.ok vs st1=>if ks.length=vs.length/\ks.length<=15 then(ev call ρ st1 i).bind λy st2=>toR (ycQ ks vs y) st2 else .bad
  |_=>.bad
 |.cmq sl tg it m=>(evi call ρ st it).bind λxs st1=>
  let ρ0:Env:=sl.map λo=>o.bind λj=>(ρ[j]?).join
  ybh (yae (λx st2=>match yo tg x ρ0 with
   |none=>.bad
   |some ρ1=>emR (ev call ρ1 st2 m)) xs st1)
 | .emq tg it m=>(evi call ρ st it).bind λxs st1=>if yag tg ρ=AD then tupR (yae (λx st2=>match yo tg x ρ with
   |none=>.bad
   |some ρ1=>emR (ev call ρ1 st2 m)) xs st1)else .bad
 |.dcm sl tg it k v=>(evi call ρ st it).bind λxs st1=>
  let ρ0:Env:=sl.map λo=>o.bind λj=>(ρ[j]?).join
  if xs.length<=1000000 then dctR (yav (λx st2=>match yo tg x ρ0 with
   |none=>.bad
   |some ρ1=>(ev call ρ1 st2 k).bind λa st3=>(ev call ρ1 st3 v).bind λb st4=>.ok (a,b) st4) xs [] st1)else .bad
noncomputable def evs(call:Nat->List PV->SO->R PV)(ρ:Env)(st:SO):Ces->R (List PV)
 |.nil=>.ok [] st
 |.cons e es=>(ev call ρ st e).bind λv st1=>(evs call ρ st1 es).bind λvs st2=>.ok (v::vs) st2
noncomputable def evi(call:Nat->List PV->SO->R PV)(ρ:Env)(st:SO):Cit->R (List PV)
 |.seq e=>(ev call ρ st e).bind λv st1=>match v with
  |.tp _ xs=>.ok xs st1
  |.lst xs=>.ok xs st1
  |_=>.bad
 |.range1 a=>(ev call ρ st a).bind λx st1=>toL (ybS x) st1
 |.range2 a b=>(ev call ρ st a).bind λx st1=>(ev call ρ st1 b).bind λy st2=>toL (yfo x y) st2
 |.rangeD a b=>(ev call ρ st a).bind λx st1=>(ev call ρ st1 b).bind λy st2=>toL (yff x y) st2
 |.enum e=>(ev call ρ st e).bind λv st1=>match v with
  |.tp _ xs=>.ok (yR 0 xs) st1
  |_=>.bad
 |.zip a b=>(ev call ρ st a).bind λx st1=>(ev call ρ st1 b).bind λy st2=>toL (ye4 x y) st2
 |.revl e=>(ev call ρ st e).bind λv st1=>toL (yfB v) st1
 |.revr a=>(ev call ρ st a).bind λx st1=>toL (yfi x) st1
 |.chars e=>(ev call ρ st e).bind λv st1=>toL (ycT v) st1
end
def R.fl{α:Type}(r:R α)(ρ:Env)(k:α->SO->Fl):Fl:=
 match r with
 |.ok a st=>k a st
 |.exc c st=>.exc c ρ st
 |.bad=>.bad
def yan(f:Fl)(k:Env->SO->Fl):Fl:=
 match f with
 |.nx ρ st=>k ρ st
 |.ct ρ st=>k ρ st
 |.bk ρ st=>.nx ρ st
 |f=>f
def forL(t:Tg)(body:Env->SO->Fl):List PV->Env->SO->Fl
 |[],ρ,st=>.nx ρ st
 |x::xs,ρ,st=>match yo t x ρ with
  |none=>.bad
  |some ρ1=>yan (body ρ1 st) λρ2 st2=>forL t body xs ρ2 st2
def ya3(t:Tg)(body:Env->SO->Fl)(n:Nat):Nat->Nat->Env->SO->Fl
 |0,_,_,_=>.bad
 |f+1,i,ρ,st=>match st[n]? with
  |some (.lst xs)=>match xs[i]? with
   |some x=>(match yo t x ρ with
    |none=>.bad
    |some ρ1=>yan (body ρ1 st) λρ2 st2=>ya3 t body n f (i+1) ρ2 st2)
   |none=>.nx ρ st
  |_=>.bad
def yU(test:Env->SO->R PV)(body:Env->SO->Fl):Nat->Env->SO->Fl
 |0,_,_=>.bad
 |n+1,ρ,st=>(test ρ st).fl ρ λx st1=>onF (yar st1 x) λk=>cond k (yan (body ρ st1) λρ2 st2=>yU test body n ρ2 st2) (.nx ρ st1)
def yaZ(st:SO)(o i v:PV):Option SO:=
 match o with
 |.loc n=>match st[n]? with
  |some (.lst xs)=>match i with
   |.int k=>match ixI xs.length k with
    |some j=>AA (st.set n (.lst (xs.set j v)))
    |none=>AB
   |_=>AB
  |_=>AB
 |_=>AB
mutual
noncomputable def ex(call:Nat->List PV->SO->R PV)(ρ:Env)(st:SO):Cs->Fl
 |.expr e=>(ev call ρ st e).fl ρ λ_ st1=>.nx ρ st1
 |.asg t e=>(ev call ρ st e).fl ρ λv st1=>match yo t v ρ with
  |some ρ1=>.nx ρ1 st1
  |none=>.bad
 |.six o i e=>(ev call ρ st e).fl ρ λv st1=>(ev call ρ st1 o).fl ρ λx st2=>(ev call ρ st2 i).fl ρ λy st3=>match yaZ st3 x y v with
  |some st4=>.nx ρ st4
  |none=>.bad
 |.aug i o e=>match ρ[i]? with
  |some (AA x)=>(ev call ρ st e).fl ρ λy st1=>match ybd o x y with
   |some z=>.nx (ρ.set i (AA z)) st1
   |none=>.bad
  |_=>.bad
 |.ret e=>(ev call ρ st e).fl ρ λv st1=>.rt v st1
 |.ite c a b=>(ev call ρ st c).fl ρ λx st1=>onF (yar st1 x) λk=>cond k (exs call ρ st1 a) (exs call ρ st1 b)
 |.for t it b=>(evi call ρ st it).fl ρ λxs st1=>forL t (λρ2 st2=>exs call ρ2 st2 b) xs ρ st1
 |.while c b=>yU (λρ2 st2=>ev call ρ2 st2 c) (λρ2 st2=>exs call ρ2 st2 b) 100000 ρ st
 |.nope=>.bad
 |.raise c e=>(ev call ρ st e).fl ρ λ_ st1=>.exc c ρ st1
 |.mkr i D n es=>(ev call ρ st n).fl ρ λx st1=>match mkV D (decide (i<ρ.length)) x with
  |some j=>((evs call (ρ.set i AB) st1 es).bind λvs st2=>call j vs st2).fl (ρ.set i AB) λv st3=>.rt v st3
  |none=>.bad
 |.forl t e b=>(ev call ρ st e).fl ρ λv st1=>match v with
  |.tp _ xs=>forL t (λρ2 st2=>exs call ρ2 st2 b) xs ρ st1
  |.lst xs=>forL t (λρ2 st2=>exs call ρ2 st2 b) xs ρ st1
  |.loc n=>ya3 t (λρ2 st2=>exs call ρ2 st2 b) n 100000 0 ρ st1
  |_=>.bad
noncomputable def exs(call:Nat->List PV->SO->R PV)(ρ:Env)(st:SO):Css->Fl
 |.nil=>.nx ρ st
 |.cons s ss=>match ex call ρ st s with
  |.nx ρ1 st1=>exs call ρ1 st1 ss
  |f=>f
end
structure Fn where
 np:Nat
 ns:Nat
 pure:Bool
 body:Css
def yd(T:Nat->Option Fn):Nat->Nat->List PV->SO->R PV
 |0,_,_,_=>.bad
 |k+1,f,args,st=>match T f with
  |none=>.bad
  |some fn=>if args.length=fn.np then
    if fn.pure then
     if nLs args then match exs (yd T k) (args.map AA++Ap (fn.ns-fn.np) AB) [] fn.body with
      |.rt v _=>if nL v then .ok v st else .bad
      |.nx _ _=>.ok .non st
      |.exc c _ _=>.exc c st
      |_=>.bad
     else .bad
    else match exs (yd T k) (args.map AA++Ap (fn.ns-fn.np) AB) st fn.body with
     |.rt v st1=>.ok v st1
     |.nx _ st1=>.ok .non st1
     |.exc c _ st1=>.exc c st1
     |_=>.bad
   else .bad
def yaa:List (Sum Ce Int)->Ces
 |[]=>.nil
 |.inl c::r=>.cons c (yaa r)
 |.inr i::r=>.cons (.cst (.int i)) (yaa r)
def yca:Ces->Ces->Ces
 |.nil,b=>b
 |.cons e r,b=>.cons e (yca r b)
end IC
namespace L2
open PySem PySem.Spec PyProof.Rows IC
abbrev Ph:=List (Option AG)
section
variable (K:AC)(cl:Nat->AG)(B:AG->Prop)(φ:Ph)(H:Hp)
def ybq(k:Bool)(a:AG)(xs:List V):Prop:=(H a=AA (.tup xs)/\¬B a/\AA a∉φ) \/
 k=AD/\∃(o:BV) (its:Array AE) (n:Nat),K.lookup a=AA o/\o.cls=.type "tuple"/\o.data=.seq its n/\its.size<=sizeLine/\Vals xs its.toList
def yby(a:AG)(xs:List V):Prop:=H a=AA (.lst xs)/\¬B a/\AA a∉φ
def yc7(a:AG)(xs:List V):Prop:=(Rd H a (.lst xs)/\¬B a/\AA a∉φ) \/
 ∃(o:BV) (its:Array AE) (n:Nat),K.lookup a=AA o/\o.cls=.type "list"/\o.dict=AB/\o.data=.seq its n/\its.size<=sizeLine/\Vals xs its.toList
mutual
noncomputable def yc:PV->V->Prop
 |.non,x=>x=.non
 |.bl b,x=>x=.bl b
 |.int i,x=>x=.int i
 |.str s,x=>x=.str s
 |.tp k vs,x=>∃a xs,x=.ref a/\ybq K B φ H k a xs/\ye vs xs
 |.lst vs,x=>∃a xs,x=.ref a/\yby B φ H a xs/\ye vs xs
 |.loc n,x=>n<φ.length/\∃a,x=.ref a/\∀b,φ[n]?=AA (AA b)->b=a
 |.exn c,x=>∃a,x=.ref a/\H a=AA (.ext (yeS a (cl c)))/\¬B a/\AA a∉φ
 |.scr vs,x=>∃a xs,x=.ref a/\yc7 K B φ H a xs/\ye vs xs
 |.fnc j,x=>x=.ref (cl (1000+j))
noncomputable def ye:List PV->List V->Prop
 |[],xs=>xs=[]
 |v::vs,xs=>∃y ys,xs=y::ys/\yc v y/\ye vs ys
end
def yaR:Key->PV
 |.inl i=>.int i
 |.inr y=>.str y
mutual
noncomputable def nkP:NK->PV
 |.a k=>yaR k
 |.t l=>.tup (yao l)
noncomputable def yao:List NK->List PV
 |[]=>[]
 |k::l=>nkP k::yao l
end
def DK:List (PV×PV)->List (Key×V)->Prop
 |[],ks=>ks=[]
 |(k,v)::r,ks=>∃q x s,ks=(q,x)::s/\k=yaR q/\yc K cl B φ H v x/\DK r s
def DT:List (PV×PV)->List (List NK×V)->Prop
 |[],ks=>ks=[]
 |(k,v)::r,ks=>∃q x s,ks=(q,x)::s/\k=.tup (yao q)/\yc K cl B φ H v x/\DT r s
def FS:List (AM×PV)->List (AM×V)->Prop
 |[],ks=>ks=[]
 |(k,v)::r,ks=>∃x s,ks=(k,x)::s/\yc K cl B φ H v x/\FS r s
def ybx:Ob->AG->Prop
 |.lst vs,a=>∃xs,H a=AA (.lst xs)/\ye K cl B φ H vs xs
 |.dct AF kvs,a=>∃ks,H a=AA (.dK ks)/\DK K cl B φ H kvs ks
 |.dct AD kvs,a=>∃ks,H a=AA (.dT ks)/\DT K cl B φ H kvs ks
 |.dead,_=>False
 |.ins c fs,a=>∃ks,(∃dx,H a=AA (.ins (cl c) dx ks))/\FS K cl B φ H fs ks
structure yh(st:SO):Prop where
 len:φ.length=st.length
 inj:∀(m n:Nat) (a:AG),φ[m]?=AA (AA a)->φ[n]?=AA (AA a)->m=n
 obj:∀(n:Nat) (a:AG),φ[n]?=AA (AA a)->∃o,st[n]?=AA o/\ybx K cl B φ H o a
 liv:∀(n:Nat) (o:Ob),st[n]?=AA o->o ≠ .dead->∃a,φ[n]?=AA (AA a)
 nb:∀a,AA a∈φ->¬B a
 dom:∀a,B a->∃o,H a=AA o
 nt:∀a,B a->∀xs,H a≠AA (.tup xs)
structure yp(ρ:IC.Env)(σ:St):Prop where
 len:ρ.length=σ.length
 get:∀(i:Nat) (v:PV),ρ[i]?=AA (AA v)->∃x,σ[i]?=AA (AA x)/\yc K cl B φ H v x
end
structure Step(φ:Ph)(H:Hp)(φ':Ph)(H':Hp):Prop where
 keep:∀b o,AA b∉φ->H b=AA o->H' b=AA o
 len:φ.length<=φ'.length
 pre:∀(n:Nat) (a:AG),n<φ.length->φ'[n]?=AA (AA a)->φ[n]?=AA (AA a)
 new:∀b,AA b∈φ'->AA b∈φ \/ H b=AB
theorem Step.rfl{φ:Ph}{H:Hp}:Step φ H φ H:=⟨λ_ _ _ e=>e,AN _,λ_ _ _ e=>e,λ_ h=>.inl h⟩
theorem Step.trans{φ φ1 φ2:Ph}{H H1 H2:Hp}(s:Step φ H φ1 H1)(t:Step φ1 H1 φ2 H2):Step φ H φ2 H2:=by
 refine⟨λb o n e=>?_,BB s.len t.len,λn a hn e=>s.pre n a hn (t.pre n a (AY hn s.len) e),λb hb=>?_⟩
 .refine t.keep b o (λh=>?_) (s.keep b o n e);rcases s.new b h with q|q
  .exact n q
  .rw[e]at q;cases q
 .rcases t.new b hb with q|q
  .exact s.new b q
  .by_cases h:AA b∈φ
   .exact .inl h
   .refine .inr ?_
    cases e:H b with
    |none=>exact CN _
    |some o=>rw[s.keep b o h e]at q;cases q
section
variable {K:AC}{cl:Nat->AG}{B:AG->Prop}{φ φ':Ph}{H H':Hp}{st:SO}{ρ:IC.Env}{σ:St}
theorem Rd.step(s:Step φ H φ' H'){a:AG}{u:HO}(n:AA a∉φ)(r:Rd H a u):Rd H' a u/\AA a∉φ':=by
 have h:∃o,H a=AA o:=by
  rcases r with r|⟨o,r⟩<;>exact⟨_,r⟩
 refine⟨?_,λz=>?_⟩
 .rcases r with r|⟨o,r⟩
  .exact .inl (s.keep _ _ n r)
  .exact .inr ⟨o,s.keep _ _ n r⟩
 .let⟨o,e⟩:=h;rcases s.new a z with q|q
  .exact n q
  .rw[e]at q;cases q
theorem ybq.step(s:Step φ H φ' H'){k:Bool}{a:AG}{xs:List V}(r:ybq K B φ H k a xs):ybq K B φ' H' k a xs:=by
 rcases r with⟨r,b,n⟩|r
 .let⟨_,n'⟩:=(Rd.of r).step s n;exact .inl ⟨s.keep _ _ n r,b,n'⟩
 .exact .inr r
theorem yby.step(s:Step φ H φ' H'){a:AG}{xs:List V}(r:yby B φ H a xs):yby B φ' H' a xs:=by
 let⟨r,b,n⟩:=r;let⟨_,n'⟩:=(Rd.of r).step s n;exact⟨s.keep _ _ n r,b,n'⟩
theorem yc7.step(s:Step φ H φ' H'){a:AG}{xs:List V}(r:yc7 K B φ H a xs):yc7 K B φ' H' a xs:=by
 rcases r with⟨r,b,n⟩|r
 .let⟨r',n'⟩:=r.step s n;exact .inl ⟨r',b,n'⟩
 .exact .inr r
mutual
theorem yc.step(s:Step φ H φ' H'):∀(v:PV) (x:V),yc K cl B φ H v x->yc K cl B φ' H' v x
 |.non,x,h=>by erw[yc]at h ⊢;exact h
 |.bl b,x,h=>by erw[yc]at h ⊢;exact h
 |.int i,x,h=>by erw[yc]at h ⊢;exact h
 |.str y,x,h=>by erw[yc]at h ⊢;exact h
 |.tp k vs,x,h=>by
  erw[yc]at h ⊢;let⟨a,xs,e,r,l⟩:=h;exact⟨a,xs,e,r.step s,ye.step s vs xs l⟩
 |.lst vs,x,h=>by
  erw[yc]at h ⊢;let⟨a,xs,e,r,l⟩:=h;exact⟨a,xs,e,r.step s,ye.step s vs xs l⟩
 |.loc n,x,h=>by
  erw[yc]at h ⊢;let⟨h1,a,e,h2⟩:=h;exact⟨AY h1 s.len,a,e,λb q=>h2 b (s.pre n b h1 q)⟩
 |.fnc j,x,h=>by erw[yc]at h ⊢;exact h
 |.exn c,x,h=>by
  erw[yc]at h ⊢;let⟨a,e,r,b,n⟩:=h;let⟨_,n'⟩:=(Rd.of r).step s n;exact⟨a,e,s.keep _ _ n r,b,n'⟩
 |.scr vs,x,h=>by
  erw[yc]at h ⊢;let⟨a,xs,e,r,l⟩:=h;exact⟨a,xs,e,r.step s,ye.step s vs xs l⟩
theorem ye.step(s:Step φ H φ' H'):∀(v:List PV) (x:List V),ye K cl B φ H v x->ye K cl B φ' H' v x
 |[],x,h=>by erw[ye]at h ⊢;exact h
 |v::vs,x,h=>by
  erw[ye]at h ⊢;let⟨y,ys,e,r,l⟩:=h;exact⟨y,ys,e,yc.step s v y r,ye.step s vs ys l⟩
end
theorem yp.step(s:Step φ H φ' H')(r:yp K cl B φ H ρ σ):yp K cl B φ' H' ρ σ:=⟨r.len,λi v e=>by
 let⟨x,h,q⟩:=r.get i v e;exact⟨x,h,q.step s⟩⟩
mutual
theorem yc.inn(hn:∀a,AA a∈φ->¬B a):∀(v:PV) (x:V),nL v=AD->yc K cl B φ H v x->yc K cl (λa=>B a \/ AA a∈φ) [] H v x
 |.non,x,_,h=>by erw[yc]at h ⊢;exact h
 |.bl b,x,_,h=>by erw[yc]at h ⊢;exact h
 |.int i,x,_,h=>by erw[yc]at h ⊢;exact h
 |.str y,x,_,h=>by erw[yc]at h ⊢;exact h
 |.tp k vs,x,q,h=>by
  erw[yc]at h ⊢;let⟨a,xs,e,r,l⟩:=h;refine⟨a,xs,e,?_,ye.inn hn vs xs (by simpa only[nL] using q) l⟩;rcases r with⟨r,b,n⟩|r
  .exact .inl ⟨r,λz=>z.elim b n,by simp⟩
  .exact .inr r
 |.lst vs,x,q,h=>by
  erw[yc]at h ⊢;let⟨a,xs,e,⟨r,b,n⟩,l⟩:=h;exact⟨a,xs,e,⟨r,λz=>z.elim b n,by simp⟩,ye.inn hn vs xs (by simpa only[nL] using q) l⟩
 |.loc n,x,q,h=>by simp[nL]at q
 |.fnc j,x,q,h=>by erw[yc]at h ⊢;exact h
 |.exn c,x,q,h=>by simp[nL]at q
 |.scr vs,x,q,h=>by
  erw[yc]at h ⊢;let⟨a,xs,e,r,l⟩:=h;refine⟨a,xs,e,?_,ye.inn hn vs xs (by simpa only[nL] using q) l⟩;rcases r with⟨r,b,n⟩|r
  .exact .inl ⟨r,λz=>z.elim b n,by simp⟩
  .exact .inr r
theorem ye.inn(hn:∀a,AA a∈φ->¬B a):∀(v:List PV) (x:List V),nLs v=AD->ye K cl B φ H v x->ye K cl (λa=>B a \/ AA a∈φ) [] H v x
 |[],x,_,h=>by erw[ye]at h ⊢;exact h
 |v::vs,x,q,h=>by
  erw[ye]at h ⊢;erw[nLs,AI]at q;let⟨y,ys,e,r,l⟩:=h;exact⟨y,ys,e,yc.inn hn v y q.1 r,ye.inn hn vs ys q.2 l⟩
end
mutual
theorem yc.out{ψ:Ph}:∀(v:PV) (x:V),nL v=AD->yc K cl (λa=>B a \/ AA a∈φ) ψ H v x->yc K cl B φ H v x
 |.non,x,_,h=>by erw[yc]at h ⊢;exact h
 |.bl b,x,_,h=>by erw[yc]at h ⊢;exact h
 |.int i,x,_,h=>by erw[yc]at h ⊢;exact h
 |.str y,x,_,h=>by erw[yc]at h ⊢;exact h
 |.tp k vs,x,q,h=>by
  erw[yc]at h ⊢;let⟨a,xs,e,r,l⟩:=h;refine⟨a,xs,e,?_,ye.out vs xs (by simpa only[nL] using q) l⟩;rcases r with⟨r,b,n⟩|r
  .exact .inl ⟨r,λz=>b (.inl z),λz=>b (.inr z)⟩
  .exact .inr r
 |.lst vs,x,q,h=>by
  erw[yc]at h ⊢;let⟨a,xs,e,⟨r,b,n⟩,l⟩:=h;exact⟨a,xs,e,⟨r,λz=>b (.inl z),λz=>b (.inr z)⟩,ye.out vs xs (by simpa only[nL] using q) l⟩
 |.loc n,x,q,h=>by simp[nL]at q
 |.fnc j,x,q,h=>by erw[yc]at h ⊢;exact h
 |.exn c,x,q,h=>by simp[nL]at q
 |.scr vs,x,q,h=>by
  erw[yc]at h ⊢;let⟨a,xs,e,r,l⟩:=h;refine⟨a,xs,e,?_,ye.out vs xs (by simpa only[nL] using q) l⟩;rcases r with⟨r,b,n⟩|r
  .exact .inl ⟨r,λz=>b (.inl z),λz=>b (.inr z)⟩
  .exact .inr r
theorem ye.out{ψ:Ph}:∀(v:List PV) (x:List V),nLs v=AD->ye K cl (λa=>B a \/ AA a∈φ) ψ H v x->ye K cl B φ H v x
 |[],x,_,h=>by erw[ye]at h ⊢;exact h
 |v::vs,x,q,h=>by
  erw[ye]at h ⊢;erw[nLs,AI]at q;let⟨y,ys,e,r,l⟩:=h;exact⟨y,ys,e,yc.out v y q.1 r,ye.out vs ys q.2 l⟩
end
theorem ye.length:∀{v:List PV} {x:List V},ye K cl B φ H v x->v.length=x.length
 |[],x,h=>by erw[ye]at h;subst h;rfl
 |v::vs,x,h=>by
  erw[ye]at h;let⟨y,ys,rfl,_,l⟩:=h;simp[ye.length l]
theorem DK.step(s:Step φ H φ' H'):∀{kvs:List (PV×PV)} {ks:List (Key×V)},DK K cl B φ H kvs ks->DK K cl B φ' H' kvs ks
 |[],ks,h=>h
 |(k,v)::r,ks,h=>by
  let⟨q,x,t,e,m,rv,l⟩:=h;exact⟨q,x,t,e,m,rv.step s,DK.step s l⟩
theorem DT.step(s:Step φ H φ' H'):∀{kvs:List (PV×PV)} {ks:List (List NK×V)},DT K cl B φ H kvs ks->DT K cl B φ' H' kvs ks
 |[],ks,h=>h
 |(k,v)::r,ks,h=>by
  let⟨q,x,t,e,m,rv,l⟩:=h;exact⟨q,x,t,e,m,rv.step s,DT.step s l⟩
theorem FS.step(s:Step φ H φ' H'):∀{kvs:List (AM×PV)} {ks:List (AM×V)},FS K cl B φ H kvs ks->FS K cl B φ' H' kvs ks
 |[],ks,h=>h
 |(k,v)::r,ks,h=>by
  let⟨x,t,e,rv,l⟩:=h;exact⟨x,t,e,rv.step s,FS.step s l⟩
theorem ybx.step(s:Step φ H φ' H'){o:Ob}{a:AG}(e:H' a=H a)(r:ybx K cl B φ H o a):ybx K cl B φ' H' o a:=by
 cases o with
 |lst vs=>
  let⟨xs,q,l⟩:=r;exact⟨xs,e.trans q,l.step s⟩
 |dct t kvs=>
  cases t with
  |false=>let⟨ks,q,l⟩:=r;exact⟨ks,e.trans q,l.step s⟩
  |true=>let⟨ks,q,l⟩:=r;exact⟨ks,e.trans q,l.step s⟩
 |dead=>exact r
 |ins c fs=>let⟨ks,⟨dx,q⟩,l⟩:=r;exact⟨ks,⟨dx,e.trans q⟩,l.step s⟩
theorem ybx.there{o:Ob}{a:AG}(r:ybx K cl B φ H o a):∃u,H a=AA u:=by
 cases o with
 |lst vs=>let⟨xs,q,l⟩:=r;exact⟨_,q⟩
 |dct t kvs=>cases t<;>(let⟨ks,q,l⟩:=r;exact⟨_,q⟩)
 |dead=>exact r.elim
 |ins c fs=>let⟨ks,⟨dx,q⟩,l⟩:=r;exact⟨_,q⟩
theorem yh.there(S:yh K cl B φ H st){a:AG}(h:AA a∈φ):∃u,H a=AA u:=by
 let⟨n,e⟩:=EF.mp h;let⟨o,_,r⟩:=S.obj n a e;exact r.there
theorem Step.upd{p:AG}{o:HO}(hp:H p=AB):Step φ H φ (upd H p o):=
 ⟨λb u n e=>by rw[zc (ze e hp)];exact e,AN _,λ_ _ _ e=>e,λ_ h=>.inl h⟩
theorem yh.same(S:yh K cl B φ H st)(k:∀b o,H b=AA o->H' b=AA o):yh K cl B φ H' st:=by
 have s:Step φ H φ H':=⟨λb o _ e=>k b o e,AN _,λ_ _ _ e=>e,λ_ h=>.inl h⟩;refine⟨S.len,S.inj,λn a e=>?_,S.liv,S.nb,λa h=>?_,λa h xs e=>?_⟩
 .let⟨o,q,r⟩:=S.obj n a e;let⟨u,z⟩:=r.there;exact⟨o,q,r.step s ((k a u z).trans z.symm)⟩
 .let⟨o,q⟩:=S.dom a h;exact⟨o,k a o q⟩
 .let⟨o,q⟩:=S.dom a h;have z:=k a o q;rw[e]at z
  cases z
  exact S.nt a h xs q
theorem yh.upd{p:AG}{o:HO}(S:yh K cl B φ H st)(hp:H p=AB):yh K cl B φ (upd H p o) st:=S.same λb u e=>by rw[zc (ze e hp)];exact e
mutual
theorem yc.moreB{B':AG->Prop}(hn:∀y,B' y->B y \/ H y=AB):∀(v:PV) (x:V),yc K cl B φ H v x->yc K cl B' φ H v x
 |.non,x,h=>by erw[yc]at h ⊢;exact h
 |.bl b,x,h=>by erw[yc]at h ⊢;exact h
 |.int i,x,h=>by erw[yc]at h ⊢;exact h
 |.str y,x,h=>by erw[yc]at h ⊢;exact h
 |.tp k vs,x,h=>by
  erw[yc]at h ⊢;let⟨y,xs,e,r,l⟩:=h;refine⟨y,xs,e,?_,ye.moreB hn vs xs l⟩;rcases r with⟨r,b,n⟩|r
  .exact .inl ⟨r,λz=>(hn y z).elim b λq=>(by rw[q]at r;cases r),n⟩
  .exact .inr r
 |.lst vs,x,h=>by
  erw[yc]at h ⊢;let⟨y,xs,e,⟨r,b,n⟩,l⟩:=h;exact⟨y,xs,e,⟨r,λz=>(hn y z).elim b λq=>(by rw[q]at r;cases r),n⟩,ye.moreB hn vs xs l⟩
 |.loc n,x,h=>by erw[yc]at h ⊢;exact h
 |.fnc j,x,h=>by erw[yc]at h ⊢;exact h
 |.exn c,x,h=>by
  erw[yc]at h ⊢;let⟨y,e,r,b,n⟩:=h;exact⟨y,e,r,λz=>(hn y z).elim b λq=>(by rw[q]at r;cases r),n⟩
 |.scr vs,x,h=>by
  erw[yc]at h ⊢;let⟨y,xs,e,r,l⟩:=h;refine⟨y,xs,e,?_,ye.moreB hn vs xs l⟩;rcases r with⟨r,b,n⟩|r
  .refine .inl ⟨r,λz=>(hn y z).elim b λq=>?_,n⟩;rcases r with r|⟨o,r⟩<;>(rw[q]at r;cases r)
  .exact .inr r
theorem ye.moreB{B':AG->Prop}(hn:∀y,B' y->B y \/ H y=AB):∀(v:List PV) (x:List V),ye K cl B φ H v x->ye K cl B' φ H v x
 |[],x,h=>by erw[ye]at h ⊢;exact h
 |v::vs,x,h=>by
  erw[ye]at h ⊢;let⟨y,ys,e,r,l⟩:=h;exact⟨y,ys,e,yc.moreB hn v y r,ye.moreB hn vs ys l⟩
end
end
end L2
namespace L2
open PySem PySem.Spec PyProof.Rows
def CXH(X:Cx)(H:Hp)(s:AH)(E:XK)(e:AE)(s':AH):Prop:=
 ∃(C a:AG) (cls a0 fl:AE) (H':Hp) (B:Ak),X.s₀.heap.objs.size<=C/\e=.ref a/\s'.os=s.os/\Ct s'.gens /\
  (B.StaysIn s'.heap/\B.get? a=AB/\s'.heap.FunFrames B X.stack/\s'.heap.TracedAtW B a cls a0 fl)/\HOk X.prog X.w H' s'.heap/\Un (frs X.stack) [C] H H' s.heap s'.heap /\
  (∀b o,s.heap.get? b=AA o->H b=AB->b∉frs X.stack->b≠C->B.get? b=AA o)/\(∀b u,H' b=AA u->∃o,B.get? b=AA o)/\(∀b o,s.heap.get? b=AA o->b∉frs X.stack->b≠C->∃o',B.get? b=AA o')/\E cls AB H'
theorem CXH.mono{X:Cx}{H:Hp}{s:AH}{E E':XK}{e:AE}{s':AH}(h:CXH X H s E e s')(n:∀cls H',E cls AB H'->E' cls AB H'):CXH X H s E' e s':=by
 let⟨C,a,cls,a0,fl,H',B,r1,r2,r3,r4,r5,r6,r7,r8,r9,r10,r11⟩:=h;exact⟨C,a,cls,a0,fl,H',B,r1,r2,r3,r4,r5,r6,r7,r8,r9,r10,n _ _ r11⟩
section
variable {M:Fp}{A:A3}{E:AE->AH->Prop}{s:AH}
def zca{base:Ak}{env:Env}{outer:List Env}{L e:AG}{cls a0 fl:AE}{Q:Unit->AH->Prop}
  (hfr:A.frames=AA (env::outer)) (hf:env.frame=AA L) (f1:base.StaysIn s.heap) (f2:base.get? e=AB) (f3:s.heap.FunFrames base (env::outer)) (f4:s.heap.TracedAtW base e cls a0 fl)
  (hQ:∀h',Fw base outer e cls a0 h'->s.heap.UpToSlots h'->Q () {s with heap:=h'}):A2 M A («leaving» env (.ref e)) Q E s:=by
 by_cases hfl:fl=rawInt L
 .subst hfl;unfold «leaving»;refine AJ (wpAny_noteFrame_againW hf f4 ?_);refine wpAny_landsW ⟨f1,f2,f3,f4⟩ λh' hfl up=>?_;let⟨k1,k2,⟨_,_,k3⟩,k4⟩:=hfl;exact hQ h' ⟨k1,k2,k3,k4⟩ up
 .let⟨oe,vs,T,oT,ts,he,⟨hcls,h0⟩,hd,h1,hnT,hTe,hT,hdT,h3⟩:=f4;subst hcls;unfold «leaving» noteFrame;erw[hf];refine AJ (AJ (CC he hd h1 ?_));rw[if_pos (show (BF T != Ba)=AD from by simp)];refine AJ (CC hT hdT h3 ?_);rw[if_neg (show ¬((fl==rawInt L)=AD)from λz=>hfl (eq_of_beq z))];refine AJ (EM hT hdT (DX.mp h3).1 ?_);have other:∀b,b≠T->(s.heap.update T (Obj.mapFields (·.setIfInBounds 3 Ba))).get? b=s.heap.get? b:=λb hb=>Cg _ _ (Bl hb);have noRecord:∀b o,s.heap.get? b=AA o->(∀vs,o.data ≠ .fields vs)->b≠T:=λb o hb hnf q=>by
   rw[q,hT]at hb;injection hb with hb;subst hb;exact hnf ts hdT
  refine wpAny_newEntryW hfr (f3.of_keeps λb o hb hnf=>⟨o,(other b (noRecord b o hb hnf)).trans hb,rfl⟩) hf ((other e (Bl hTe)).trans he)
   (λb o hbo=>(other b λq=>by rw[q,hnT]at hbo;cases hbo).trans (f1 b o hbo)) f2 hd (DX.mp h1).1 h0
   λh' ⟨x1,⟨_,_,x2⟩,x3,x4⟩=>hQ h' ⟨x1,f2,x2,x3⟩ λb o hb hnf=>x4 b o ((other b (noRecord b o hb hnf)).trans hb) hnf
end
section
variable {P:AZ}{w:A8}{K:AC}{mg:AM->Option AE}{base:Ak}{N:List AM}{qual:AM}{scope:Al}{f:AG}{cd:AE}{A:A3}{outer:List Env}{s₀:AH}{H₀:Hp}{E:XK}
def zk6{π:List (AG×BV)}{σ:St}{H:Hp}{s:AH}{e:AE}{s':AH}(I:Inv (yaq (CX1 P w) P w K mg base N qual scope f cd A outer s₀ H₀ E) π σ H s)(h:CXH (yaq (CX1 P w) P w K mg base N qual scope f cd A outer s₀ H₀ E) H s E e s'):
  (yaq (CX1 P w) P w K mg base N qual scope f cd A outer s₀ H₀ E).xe e s':=by
 let⟨C,a,cls,a0,fl,H',B,hC,rfl,os,bare,⟨f1,f2,f3,f4⟩,hok,un,hB,tr,hT,hE⟩:=h;have bse:Un (frs outer) [] H₀ H s₀.heap s.heap:=I.base;have lt:∀b o,s₀.heap.get? b=AA o->b≠s₀.heap.objs.size:=λb o q=>Ab (AT q);have neC:∀b o,s₀.heap.get? b=AA o->b≠C:=λb o q=>Ab (AY (AT q) hC);have niC:∀b o,s₀.heap.get? b=AA o->b∉[C]:=λb o q z=>neC b o q (by simpa using z);have hst:∀b,b∈frs (envOfC qual scope s₀.heap.objs.size f cd::outer)->b=s₀.heap.objs.size \/ b∈frs outer:=λb hb=>by
  have hb':b∈s₀.heap.objs.size::frs outer:=hb;exact A5.mp hb'
 have un':Un (frs (envOfC qual scope s₀.heap.objs.size f cd::outer)) [C] H H' s.heap s'.heap:=un;have kB:∀b o,s₀.heap.get? b=AA o->H₀ b=AB->b∉frs outer->B.get? b=AA o:=λb o q n hb=>hB b o (bse.keep b o q n hb (by simp)) (bse.free b o q n (by simp)) (λz=>by
  rcases hst b z with z|z
  .exact lt b o q z
  .exact hb z) (neC b o q)
 have kT:∀b o,s₀.heap.get? b=AA o->b∉frs outer->∃o',B.get? b=AA o':=λb o q hb=>by
  let⟨o',q1⟩:=bse.there b o q (by simp);refine hT b o' q1 (λz=>?_) (neC b o q);rcases hst b z with z|z
  .exact lt b o q z
  .exact hb z
 refine zca I.ok.frames rfl f1 f2 f3 f4 λh'' fl' up=>?_;refine⟨a,cls,a0,H',B,rfl,os.trans I.os,bare,fl',HOk.inB hok f1 fl'.1 tr,⟨λb o q n hb _=>fl'.1 b o (kB b o q n hb),λb o q n hb _=>?_,λb o q n _=>?_,λb o q _=>?_,λb xs q=>un'.tups b xs (bse.tups b xs q),λb o u q=>un'.frzs b o u (bse.frzs b o u q),λb ps q=>?_⟩,kB,tr,kT,hE⟩
 .let⟨sl,q1⟩:=bse.slot b o q n hb (by simp);have n1:=bse.free b o q n (by simp);let⟨sl1,q2⟩:=un'.slot b _ q1 n1 (AK _ hb) (niC b o q);let⟨_,o',ho',hd⟩:=Be f3 (show b∈Ch (λ(z:Env)=>z.frame) _ from AK _ hb);let⟨sl',q3⟩:=up b _ q2 (by rw[ho']at q2;cases q2;exact hd);exact⟨sl',q3⟩
 .let⟨o',q1⟩:=bse.there b o q (by simp);exact un'.free b o' q1 (bse.free b o q n (by simp)) (niC b o q)
 .let⟨o',q1⟩:=bse.there b o q (by simp);let⟨o2,q2⟩:=un'.there b o' q1 (niC b o q)
  by_cases hb:b∈frs outer
  .let⟨_,o3,ho3,hd⟩:=Be f3 (show b∈Ch (λ(z:Env)=>z.frame) _ from AK _ hb);let⟨sl',q3⟩:=up b _ ho3 hd;exact⟨_,q3⟩
  .let⟨o4,q4⟩:=kT b o q hb;exact⟨o4,fl'.1 b o4 q4⟩
 .let⟨m1,e1⟩:=bse.tbls b ps q;let⟨m2,e2⟩:=un'.tbls b _ e1;exact⟨m1++m2,by rw[e2,DO]⟩
end
section
variable {pg:AZ}{wd:A8}{A:A3}{R:Dq->AH->Prop}{s:AH}
end
section
variable {X:Cx}{sc:Al}{NC:List AM}{slots:List (Option Nat)}{elt tg iter:AL}{ifs:List AL}{pos:BZ}{g:TG}{ti:TT}{te:CI->TE}{E:XK}
end
end L2
namespace L2
open PySem PySem.Spec PyProof.Rows IC
structure Se where
 cl:Nat->AG
 call:Nat->List PV->SO->R PV
 may:Bool
section
variable (S:Se)(X:Cx)
def ExcAt(σ:St)(B:AG->Prop)(φ:Ph)(H:Hp)(k:Nat)(st':SO)(e:AE)(s':AH):Prop:=
 (∃π H1 s φ1,Inv X π σ H1 s/\Step φ H φ1 H1/\CX1 X.prog X.w X.stack H1 s (λcls _ H'=>cls=.ref (S.cl k)/\∃φ',Step φ1 H1 φ' H'/\yh X.K S.cl B φ' H' st') e s') \/
 (S.may=AD/\∃π H1 s φ1 h' e0 vs,Inv X π σ H1 s/\Step φ H φ1 H1/\yh X.K S.cl B φ1 H1 st'/\F7 s.heap h' e0 (.ref (S.cl k)) vs/\e=.ref e0/\s'={s with heap:=h'}) \/
 (S.may=AD/\∃π H1 s,Inv X π σ H1 s/\CXH X H1 s (λcls _ H'=>cls=.ref (S.cl k)/\∃φ',Step φ H φ' H'/\yh X.K S.cl B φ' H' st') e s')
def Run{α β:Type}(σ:St)(B:AG->Prop)(φ:Ph)(H:Hp)(Rel:Ph->Hp->α->β->Prop)(r:R α)(Q:β->Hp->Prop):Prop:=
 match r with
 |.ok v st'=>∀x H' φ',Step φ H φ' H'->yh X.K S.cl B φ' H' st'->Rel φ' H' v x->Q x H'
 |.exc k st'=>∀e s',ExcAt S X σ B φ H k st' e s'->X.xe e s'
 |.bad=>False
abbrev RV(B:AG->Prop):Ph->Hp->PV->V->Prop:=λφ H=>yc X.K S.cl B φ H
abbrev RL(B:AG->Prop):Ph->Hp->List PV->List V->Prop:=λφ H=>ye X.K S.cl B φ H
abbrev RB:Ph->Hp->Bool->Bool->Prop:=λ_ _ b c=>b=c
def tE(c:Ce):TE:=λσ H Q=>∃B φ st ρ,yh X.K S.cl B φ H st/\yp X.K S.cl B φ H ρ σ/\Run S X σ B φ H (RV S X B) (ev S.call ρ st c) Q
def tAs(c:Ces):TA:=λσ H Q=>∃B φ st ρ,yh X.K S.cl B φ H st/\yp X.K S.cl B φ H ρ σ/\Run S X σ B φ H (RL S X B) (evs S.call ρ st c) Q
def yaA(r:R PV):R Bool:=r.bind λx st=>onO (yar st x) λb=>.ok b st
def tTs(c:Ce):TT:=λσ H Q=>∃B φ st ρ,yh X.K S.cl B φ H st/\yp X.K S.cl B φ H ρ σ/\Run S X σ B φ H RB (yaA (ev S.call ρ st c)) Q
end
section
variable {S:Se}{X:Cx}{σ:St}{B:AG->Prop}{φ φ1:Ph}{H H1:Hp}
theorem ExcAt.back{k:Nat}{st':SO}{e:AE}{s':AH}(s:Step φ H φ1 H1)(h:ExcAt S X σ B φ1 H1 k st' e s'):ExcAt S X σ B φ H k st' e s':=by
 rcases h with⟨π,H2,t,φ2,I,q,c⟩|⟨m,π,H2,t,φ2,h',e0,vs,I,q,c⟩|⟨m,π,H2,t,I,c⟩
 .exact .inl ⟨π,H2,t,φ2,I,s.trans q,c⟩
 .exact .inr (.inl ⟨m,π,H2,t,φ2,h',e0,vs,I,s.trans q,c⟩)
 .exact .inr (.inr ⟨m,π,H2,t,I,c.mono λcls H' ⟨e1,φ',s2,r⟩=>⟨e1,φ',s.trans s2,r⟩⟩)
variable {α β γ δ:Type}{Rel:Ph->Hp->α->β->Prop}{Fy:Ph->Hp->γ->δ->Prop}
theorem Run.on{r:R α}{Q:β->Hp->Prop}(s:Step φ H φ1 H1)(h:Run S X σ B φ H Rel r Q):Run S X σ B φ1 H1 Rel r Q:=by
 cases r with
 |ok v st'=>exact λx H' φ' t=>h x H' φ' (s.trans t)
 |exc k st'=>exact λe s' x=>h e s' (x.back s)
 |bad=>exact h
theorem Run.mono{r:R α}{Q Q':β->Hp->Prop}(h:Run S X σ B φ H Rel r Q)(k:∀x H',Q x H'->Q' x H'):Run S X σ B φ H Rel r Q':=by
 cases r with
 |ok v st'=>exact λx H' φ' t rs rv=>k x H' (h x H' φ' t rs rv)
 |exc c st'=>exact h
 |bad=>exact h
theorem Run.bind{r:R α}{k:α->SO->R γ}{Q:δ->Hp->Prop}(h:Run S X σ B φ H Fy (r.bind k) Q):
  Run S X σ B φ H Rel r λx H1=>∃v st1 φ1,Step φ H φ1 H1/\yh X.K S.cl B φ1 H1 st1/\Rel φ1 H1 v x/\Run S X σ B φ1 H1 Fy (k v st1) Q:=by
 cases r with
 |ok v st'=>exact λx H' φ' t rs rv=>⟨v,st',φ',t,rs,rv,Run.on t h⟩
 |exc c st'=>exact h
 |bad=>exact h
theorem Run.ok{v:α}{st:SO}{Q:β->Hp->Prop}(h:Run S X σ B φ H Rel (.ok v st) Q)(rs:yh X.K S.cl B φ H st){x:β}(rv:Rel φ H v x):Q x H:=h x H φ .rfl rs rv
theorem PE.imp{e:AL}{t t':TE}(h:PE X e t')(k:∀σ H Q,t σ H Q->t' σ H Q):PE X e t:=λπ s σ H Q I q=>h π s σ H Q I (k σ H Q q)
theorem PT.imp{e:AL}{t t':TT}(h:PT X e t')(k:∀σ H Q,t σ H Q->t' σ H Q):PT X e t:=λπ s σ H Q I q=>h π s σ H Q I (k σ H Q q)
theorem PW.imp{e:AL}{t t':TT}(h:PW X e t')(k:∀σ H Q,t σ H Q->t' σ H Q):PW X e t:=λwh π s σ H Q I q=>h wh π s σ H Q I (k σ H Q q)
theorem PA.imp{e:List AL}{t t':TA}(h:PA X e t')(k:∀σ H Q,t σ H Q->t' σ H Q):PA X e t:=λpos π s σ H Q I q=>h pos π s σ H Q I (k σ H Q q)
theorem tE.bind{c:Ce}{ρ:IC.Env}{st:SO}{k:PV->SO->R γ}{Q:δ->Hp->Prop}{P:V->Hp->Prop}(rs:yh X.K S.cl B φ H st)(re:yp X.K S.cl B φ H ρ σ)(h:Run S X σ B φ H Fy ((ev S.call ρ st c).bind k) Q)
  (n:∀x H1 v st1 φ1,Step φ H φ1 H1->yh X.K S.cl B φ1 H1 st1->yp X.K S.cl B φ1 H1 ρ σ->yc X.K S.cl B φ1 H1 v x->Run S X σ B φ1 H1 Fy (k v st1) Q->P x H1):tE S X c σ H P:=
 ⟨B,φ,st,ρ,rs,re,(Run.bind h).mono λx H1 ⟨v,st1,φ1,s,rs1,rv,h1⟩=>n x H1 v st1 φ1 s rs1 (re.step s) rv h1⟩
theorem tAs.bind{c:Ces}{ρ:IC.Env}{st:SO}{k:List PV->SO->R γ}{Q:δ->Hp->Prop}{P:List V->Hp->Prop}(rs:yh X.K S.cl B φ H st)(re:yp X.K S.cl B φ H ρ σ)(h:Run S X σ B φ H Fy ((evs S.call ρ st c).bind k) Q)
  (n:∀x H1 v st1 φ1,Step φ H φ1 H1->yh X.K S.cl B φ1 H1 st1->yp X.K S.cl B φ1 H1 ρ σ->ye X.K S.cl B φ1 H1 v x->Run S X σ B φ1 H1 Fy (k v st1) Q->P x H1):tAs S X c σ H P:=
 ⟨B,φ,st,ρ,rs,re,(Run.bind h).mono λx H1 ⟨v,st1,φ1,s,rs1,rv,h1⟩=>n x H1 v st1 φ1 s rs1 (re.step s) rv h1⟩
variable {i:Int}{b:Bool}{x:AM}{j:Nat}{pos:BZ}{e a a':AL}{c ca cb cc:Ce}
def ziP:PE X (.Constant (.int i) j pos) (tE S X (.cst (.int i))):=zkU.imp λσ H Q ⟨B,φ,st,ρ,rs,re,h⟩=>by
 erw[ev]at h;exact h.ok rs (by erw[yc])
def zkz:PE X (.Constant (.bool b) j pos) (tE S X (.cst (.bl b))):=zkV.imp λσ H Q ⟨B,φ,st,ρ,rs,re,h⟩=>by
 erw[ev]at h;exact h.ok rs (by erw[yc])
def zjl:PE X (.Constant .none j pos) (tE S X (.cst .non)):=zkW.imp λσ H Q ⟨B,φ,st,ρ,rs,re,h⟩=>by
 erw[ev]at h;exact h.ok rs (by erw[yc])
def zjZ:PE X (.Constant (.str x) j pos) (tE S X (.cst (.str x))):=zkI.imp λσ H Q ⟨B,φ,st,ρ,rs,re,h⟩=>by
 erw[ev]at h;exact h.ok rs (by erw[yc])
def zi0{i:Nat}(hN:X.N[i]?=AA x)(hv:Vis X.env.scope x)(hd:(x==("__debug__":AM))=false:=by decide)(hcd:(x==("__classdict__":AM))=false:=by decide):PE X (.Name x pos) (tE S X (.var i)):=
 (zgv hN hv hd hcd).imp λσ H Q ⟨B,φ,st,ρ,rs,re,h⟩=>by
  erw[ev]at h
  cases q:ρ[i]? with
  |none=>rw[q]at h;exact h.elim
  |some o=>
   cases o with
   |none=>rw[q]at h;exact h.elim
   |some v=>
    rw[q]at h;let⟨y,hy,rv⟩:=re.get i v q;exact⟨y,hy,h.ok rs rv⟩
def zeQ{v:PV}{y:AG}(hg:Gl X x)(hm:X.mg x=AA (.ref y))(hk:∀B φ H,yc X.K S.cl B φ H v (.ref y))(hd:(x==("__debug__":AM))=false:=by decide):PE X (.Name x pos) (tE S X (.cst v)):=
 (zck hg hm (show RelV (.ref y) (.ref y)from rfl) hd).imp λσ H Q ⟨B,φ,st,ρ,rs,re,h⟩=>by
  erw[ev]at h;exact h.ok rs (hk B φ H)
def zu{o:Option PV}{st:SO}{Q:VK}(h:Run S X σ B φ H (RV S X B) (toR o st) Q)(rs:yh X.K S.cl B φ H st):∃z,o=AA z/\∀z' H' φ',Step φ H φ' H'->yh X.K S.cl B φ' H' st->yc X.K S.cl B φ' H' z z'->Q z' H':=by
 cases o with
 |none=>exact h.elim
 |some z=>exact⟨z,rfl,h⟩
def rT2(S:Se)(X:Cx)(f:PV->PV->Option PV):R2:=λx y H Q=>∃B φ st v w z,yh X.K S.cl B φ H st/\yc X.K S.cl B φ H v x/\yc X.K S.cl B φ H w y/\f v w=AA z /\
 ∀z' H' φ',Step φ H φ' H'->yh X.K S.cl B φ' H' st->yc X.K S.cl B φ' H' z z'->Q z' H'
def zjt{op:De}{o:BOp}(ho:OpR X (binaryOp op) (rT2 S X (yw o)))(ha:PE X a (tE S X ca))(hb:PE X a' (tE S X cb)):PE X (.BinOp a op a' pos) (tE S X (.bin o ca cb)):=
 (zj7 ho ha hb).imp λσ H Q ⟨B,φ,st,ρ,rs,re,h⟩=>by
  erw[ev]at h;refine tE.bind rs re h λx H1 v st1 φ1 s1 rs1 re1 rv h1=>tE.bind rs1 re1 h1 λy H2 w st2 φ2 s2 rs2 re2 rw h2=>?_;let⟨z,e,q⟩:=zu h2 rs2;exact⟨B,φ2,st2,v,w,z,rs2,rv.step s2,rw,e,q⟩
def ziT{op:E2}{o:COp}(ho:OpR X (compareOp op) (rT2 S X (yC o)))(ha:PE X a (tE S X ca))(hb:PE X a' (tE S X cb))(hm:behindInMarks op a'=AF):PE X (.Compare a [op] [a'] pos) (tE S X (.cmp o ca cb)):=
 (zd7 ho ha hb hm).imp λσ H Q ⟨B,φ,st,ρ,rs,re,h⟩=>by
  erw[ev]at h;refine tE.bind rs re h λx H1 v st1 φ1 s1 rs1 re1 rv h1=>tE.bind rs1 re1 h1 λy H2 w st2 φ2 s2 rs2 re2 rw h2=>?_;let⟨z,e,q⟩:=zu h2 rs2;exact⟨B,φ2,st2,v,w,z,rs2,rv.step s2,rw,e,q⟩
end
section
variable {S:Se}{X:Cx}{σ:St}{B:AG->Prop}{φ φ1:Ph}{H H1:Hp}{K:AC}{cl:Nat->AG}{st:SO}
theorem ybq.sq{k:Bool}{a:AG}{xs:List V}(r:ybq K B φ H k a xs):SqT K H a xs:=by
 rcases r with⟨r,_⟩|r
 .exact .inl (.inl r)
 .exact .inr r.2
theorem yby.sq{a:AG}{xs:List V}(r:yby B φ H a xs):SqL K H a xs:=.inl (.inl r.1)
theorem yc.tup_new{vs:List PV}{xs:List V}{p:AG}(hp:H p=AB)(rs:yh K cl B φ H st)(r:ye K cl B φ H vs xs):yc K cl B φ (upd H p (.tup xs)) (.tup vs) (.ref p):=by
 erw[yc];refine⟨p,xs,rfl,.inl ⟨zf,λz=>?_,λz=>?_⟩,r.step (.upd hp)⟩
 .let⟨o,e⟩:=rs.dom p z;rw[hp]at e;cases e
 .let⟨o,e⟩:=rs.there z;rw[hp]at e;cases e
theorem yc.lst_new{vs:List PV}{xs:List V}{p:AG}(hp:H p=AB)(rs:yh K cl B φ H st)(r:ye K cl B φ H vs xs):yc K cl B φ (upd H p (.lst xs)) (.lst vs) (.ref p):=by
 erw[yc];refine⟨p,xs,rfl,⟨zf,λz=>?_,λz=>?_⟩,r.step (.upd hp)⟩
 .let⟨o,e⟩:=rs.dom p z;rw[hp]at e;cases e
 .let⟨o,e⟩:=rs.there z;rw[hp]at e;cases e
theorem ye.append:∀{vs ws:List PV} {xs ys:List V},ye K cl B φ H vs xs->ye K cl B φ H ws ys->ye K cl B φ H (vs++ws) (xs++ys)
 |[],ws,xs,ys,h,q=>by erw[ye]at h;subst h;exact q
 |v::vs,ws,xs,ys,h,q=>by
  erw[ye]at h;let⟨y,zs,rfl,r,l⟩:=h;show ye K cl B φ H (v::(vs++ws)) (y::(zs++ys));erw[ye];exact⟨y,zs++ys,rfl,r,ye.append l q⟩
theorem ye.get:∀{vs:List PV} {xs:List V} (j:Nat) {v:PV},ye K cl B φ H vs xs->vs[j]?=AA v->∃x,xs[j]?=AA x/\yc K cl B φ H v x
 |[],xs,j,v,h,e=>by simp at e
 |w::vs,xs,0,v,h,e=>by
  erw[ye]at h;let⟨y,zs,rfl,r,l⟩:=h;simp at e;subst e;exact⟨y,rfl,r⟩
 |w::vs,xs,j+1,v,h,e=>by
  erw[ye]at h;let⟨y,zs,rfl,r,l⟩:=h;let⟨x,q1,q2⟩:=ye.get j l (by simpa using e);exact⟨x,by simpa using q1,q2⟩
theorem ye.drop:∀{vs:List PV} {xs:List V} (n:Nat),ye K cl B φ H vs xs->ye K cl B φ H (vs.drop n) (xs.drop n)
 |vs,xs,0,h=>by simpa using h
 |[],xs,n+1,h=>by erw[ye]at h;subst h;simp[ye]
 |v::vs,xs,n+1,h=>by
  erw[ye]at h;let⟨y,ys,rfl,_,l⟩:=h;simpa using ye.drop n l
theorem ye.take:∀{vs:List PV} {xs:List V} (n:Nat),ye K cl B φ H vs xs->ye K cl B φ H (vs.take n) (xs.take n)
 |vs,xs,0,h=>by simp[ye]
 |[],xs,n+1,h=>by erw[ye]at h;subst h;simp[ye]
 |v::vs,xs,n+1,h=>by
  erw[ye]at h;let⟨y,ys,rfl,r,l⟩:=h;erw[List.take_succ_cons,ye];exact⟨y,ys.take n,rfl,r,ye.take n l⟩
def zae{f:AE->AE->FE AE}{o:BOp}{C:Int->Int->Prop}{g:Int->Int->Int}(h:OpR X f (rI C λi j=>.int (g i j)))
  (hb:∀v w z,yw o v w=AA z->∃i j,v=.int i/\w=.int j/\C i j/\z=.int (g i j)):OpR X f (rT2 S X (yw o)):=by
 rintro π s σ H x y v u Q I rx ry ⟨B,φ,st,a,b,z,rs,ra,rb,e,q⟩
 let⟨i,j,rfl,rfl,hc,rfl⟩:=hb a b z e;erw[yc]at ra rb;subst ra rb;exact h π s σ H _ _ v u Q I rx ry ⟨i,j,rfl,rfl,hc,q _ H φ .rfl rs (by erw[yc])⟩
def zas{f:AE->AE->FE AE}{o:BOp}{g:Int->Int->Int}(h:OpR X f (rI0 λi j=>.int (g i j)))
  (hb:∀v w z,yw o v w=AA z->∃i j,v=.int i/\w=.int j/\z=.int (g i j)):OpR X f (rT2 S X (yw o)):=by
 rintro π s σ H x y v u Q I rx ry ⟨B,φ,st,a,b,z,rs,ra,rb,e,q⟩
 let⟨i,j,rfl,rfl,rfl⟩:=hb a b z e;erw[yc]at ra rb;subst ra rb;exact h π s σ H _ _ v u Q I rx ry ⟨i,j,rfl,rfl,q _ H φ .rfl rs (by erw[yc])⟩
def zhY(v w z:PV)(h:yw .sub v w=AA z):∃i j,v=.int i/\w=.int j/\z=.int (i-j):=by
 unfold yw at h;split at h<;>first|(cases h;done)|skip
 exact⟨_,_,rfl,rfl,(AU h).symm⟩
def zhf(v w z:PV)(h:yw .mul v w=AA z):∃i j,v=.int i/\w=.int j/\ycS i j/\z=.int (i*j):=by
 unfold yw at h;split at h<;>first|(cases h;done)|skip
 rename_i i j;erw[IC.binI]at h;split at h
 .rename_i c;refine⟨i,j,rfl,rfl,?_,(AU h).symm⟩;erw[yau,CG,decide_eq_true_eq]at c;unfold ycS;rcases c with c|c
  .left;constructor<;>lia
  .right;constructor<;>lia
 .cases h
def zfu(v w z:PV)(h:yw .fdiv v w=AA z):∃i j,v=.int i/\w=.int j/\yc0 i j/\z=.int (i/j):=by
 unfold yw at h;split at h<;>first|(cases h;done)|skip
 rename_i i j;erw[IC.binI]at h;split at h
 .rename_i c;exact⟨i,j,rfl,rfl,c,(AU h).symm⟩
 .cases h
def zhy(v w z:PV)(h:yw .mod v w=AA z):∃i j,v=.int i/\w=.int j/\0<j/\z=.int (i%j):=by
 unfold yw at h;split at h<;>first|(cases h;done)|skip
 rename_i i j;erw[IC.binI]at h;split at h
 .rename_i c;exact⟨i,j,rfl,rfl,c,(AU h).symm⟩
 .cases h
def zhc(v w z:PV)(h:yw .pow v w=AA z):∃i j,v=.int i/\w=.int j/\yeF i j/\z=.int (i^j.toNat):=by
 unfold yw at h;split at h<;>first|(cases h;done)|skip
 rename_i i j;erw[IC.binI]at h;split at h
 .rename_i c;exact⟨i,j,rfl,rfl,⟨c.1,c.2.1,by have:=c.2.2;lia⟩,(AU h).symm⟩
 .cases h
def zgX(v w z:PV)(h:yw .shl v w=AA z):∃i j,v=.int i/\w=.int j/\yek i j/\z=.int (i*2^j.toNat):=by
 unfold yw at h;split at h<;>first|(cases h;done)|skip
 rename_i i j;erw[IC.binI]at h;split at h
 .rename_i c;exact⟨i,j,rfl,rfl,⟨c.1,c.2.1,by have:=c.2.2;lia⟩,(AU h).symm⟩
 .cases h
def zhH(v w z:PV)(h:yw .shr v w=AA z):∃i j,v=.int i/\w=.int j/\0<=j/\z=.int (i/2^j.toNat):=by
 unfold yw at h;split at h<;>first|(cases h;done)|skip
 rename_i i j;erw[IC.binI]at h;split at h
 .rename_i c;exact⟨i,j,rfl,rfl,c,(AU h).symm⟩
 .cases h
def zf4(v w z:PV)(h:yw .band v w=AA z):∃i j,v=.int i/\w=.int j/\z=.int (EJ i j):=by
 unfold yw at h;split at h<;>first|(cases h;done)|skip
 exact⟨_,_,rfl,rfl,(AU h).symm⟩
def zhG(v w z:PV)(h:yw .bor v w=AA z):∃i j,v=.int i/\w=.int j/\z=.int (E1 i j):=by
 unfold yw at h;split at h<;>first|(cases h;done)|skip
 exact⟨_,_,rfl,rfl,(AU h).symm⟩
def zf6(v w z:PV)(h:yw .bxor v w=AA z):∃i j,v=.int i/\w=.int j/\z=.int (EK i j):=by
 unfold yw at h;split at h<;>first|(cases h;done)|skip
 exact⟨_,_,rfl,rfl,(AU h).symm⟩
def zjy:OpR X (binaryOp .Sub) (rT2 S X (yw .sub)):=zas zjv zhY
def zjk:OpR X (binaryOp .Mult) (rT2 S X (yw .mul)):=zae zin zhf
def zg1:OpR X (binaryOp .FloorDiv) (rT2 S X (yw .fdiv)):=zae zfz zfu
def ziL:OpR X (binaryOp .Mod) (rT2 S X (yw .mod)):=zae ziN zhy
def ziF:OpR X (binaryOp .Pow) (rT2 S X (yw .pow)):=zae ziV zhc
def zjT:OpR X (binaryOp .LShift) (rT2 S X (yw .shl)):=zae zhA zgX
def zi8:OpR X (binaryOp .RShift) (rT2 S X (yw .shr)):=zae zjI zhH
def zhg:OpR X (binaryOp .BitAnd) (rT2 S X (yw .band)):=zas zio zf4
def zjX:OpR X (binaryOp .BitOr) (rT2 S X (yw .bor)):=zas zkb zhG
def zhu:OpR X (binaryOp .BitXor) (rT2 S X (yw .bxor)):=zas zja zf6
def zi:sizeMax=sizeLine:=by rw[Bm];rfl
def zhR:OpR X (binaryOp .Add) (λx y H Q=>∃a b ys,x=.ref a/\y=.ref b/\SqT X.K H a []/\SqT X.K H b ys/\Q (.ref b) H):=by
 intro π s σ H x y v u Q I rx ry h;let⟨a,b,ys,rfl,rfl,ha,hb,q⟩:=h
 cases rx
 cases ry
 let⟨its,r1,p1,_⟩:=I.tuple ha;let⟨its2,r2,p2,_⟩:=I.tuple hb;have:its=[]:=r1.nil_iff.mpr rfl;subst this;let⟨⟨cls,dd,data,sl⟩,ho,hc,n,hd⟩:=id p1;let⟨⟨cls2,dd2,data2,sl2⟩,ho2,hc2,n2,hd2⟩:=id p2;simp only at hc hd hc2 hd2;subst hc hd hc2 hd2;exact En ⟨_,ho,rfl⟩ ⟨_,ho2,rfl⟩ Di E3 Cf C9 (C0 _ _)
   (tuple_addW0 a b [].toArray its2.toArray n n2 dd dd2 sl sl2 (by simp)) ⟨ho,ho2,⟨.ref b,H,I,rfl,q⟩⟩
def ziK:OpR X (binaryOp .Add) (rT2 S X (yw .add)):=by
 rintro π s σ H x y v u Q I rx ry ⟨B,φ,st,a,b,z,rs,ra,rb,e,q⟩
 unfold yw at e;split at e
 .rename_i i j;erw[yc]at ra rb;subst ra rb
  cases e
  exact zjO π s σ H _ _ v u Q I rx ry ⟨i,j,rfl,rfl,q _ H φ .rfl rs (by erw[yc])⟩
 .rename_i i k;erw[yc]at ra rb;subst ra rb
  cases e
  exact zd1 π s σ H _ _ v u Q I rx ry ⟨i,k,rfl,rfl,q _ H φ .rfl rs (by erw[yc];cases k<;>rfl)⟩
 .rename_i i j;erw[yc]at ra rb;subst ra rb;dsimp only at e;split at e
  .rename_i c
   cases e
   exact zdp π s σ H _ _ v u Q I rx ry ⟨i,j,rfl,rfl,by rw[<-zi];exact c,q _ H φ .rfl rs (by erw[yc])⟩
  .cases e
 .rename_i k1 vs k2 ws;erw[yc]at ra rb;let⟨p,xs,rfl,r1,l1⟩:=ra;let⟨p',ys,rfl,r2,l2⟩:=rb;dsimp only at e;split at e
  .rename_i c
   cases e
   have n1:=l1.length;have n2:=l2.length;unfold ydt at q
   cases vs with
   |nil=>
    have:xs=[]:=by cases xs with|nil=>rfl|cons _ _=>simp at n1
    subst this;refine zhR π s σ H _ _ v u Q I rx ry ⟨p,p',ys,rfl,rfl,r1.sq,r2.sq,q _ H φ .rfl rs ?_⟩;erw[FN,if_true,yc];exact⟨p',ys,rfl,r2,l2⟩
   |cons v1 vr=>
    erw[Ez,C4,if_false]at q;refine zg0 π s σ H _ _ v u Q I rx ry ⟨p,p',xs,ys,rfl,rfl,r1.sq,r2.sq,?_,by rw[<-zi];lia,λz=>?_,λz t ht=>?_⟩
    .rintro rfl
     simp at n1
    .subst z;have:ws=[]:=by cases ws with|nil=>rfl|cons _ _=>simp at n2
     subst this;erw[FN,if_true]at q;refine q _ H φ .rfl rs ?_;erw[yc];exact⟨p,xs,rfl,r1,l1⟩
    .cases ws with
     |nil=>exact absurd (Dj.mp n2.symm) z
     |cons w1 wr=>
      erw[Ez,C4,if_false]at q;exact q _ _ φ (.upd ht) (rs.upd ht) (.tup_new ht rs (l1.append l2))
  .cases e
 .rename_i vs ws;erw[yc]at ra rb;let⟨p,xs,rfl,r1,l1⟩:=ra;let⟨p',ys,rfl,r2,l2⟩:=rb;dsimp only at e;split at e
  .rename_i c
   cases e
   have n1:=l1.length;have n2:=l2.length;exact ziU π s σ H _ _ v u Q I rx ry ⟨p,p',xs,ys,rfl,rfl,r1.1,r2.1,by rw[<-zi];lia,λt ht=>q _ _ φ (.upd ht) (rs.upd ht) (.lst_new ht rs (l1.append l2))⟩
  .cases e
 .cases e
end
mutual
noncomputable def toD:PV->F0
 |.non=>.none
 |.bl b=>.bool b
 |.int i=>.int i
 |.str x=>.str x
 |.tp _ xs=>.tuple (ybe xs)
 |.lst xs=>.list (ybe xs)
 |_=>.none
noncomputable def ybe:List PV->List F0
 |[]=>[]
 |x::xs=>toD x::ybe xs
end
mutual
theorem za7:∀(v:PV) (n:Nat),shd n v=AD->(toD v).canLay0=AD/\(toD v).depth<=n
 |.non,n,h=>by simp[toD,B0,BL]
 |.bl b,n,h=>by simp[toD,B0,BL]
 |.int i,n,h=>by simp[toD,B0,BL]
 |.str x,n,h=>by
  erw[shd]at h;erw[toD,B0,BL,B9,and_true];exact h
 |.tp _ xs,n,h=>by
  erw[shd,AI,decide_eq_true_eq]at h;let⟨q1,q2⟩:=zbh xs (n-1) h.2;erw[toD,B0,BL];exact⟨q1,by lia⟩
 |.lst xs,n,h=>by
  erw[shd,AI,decide_eq_true_eq]at h;let⟨q1,q2⟩:=zbh xs (n-1) h.2;erw[toD,B0,BL];exact⟨q1,by lia⟩
 |.loc k,n,h=>by simp[shd]at h
 |.fnc k,n,h=>by simp[shd]at h
 |.exn k,n,h=>by simp[shd]at h
 |.scr xs,n,h=>by simp[shd]at h
theorem zbh:∀(v:List PV) (n:Nat),yax n v=AD->Bk (ybe v)=AD/\BJ (ybe v)<=n
 |[],n,h=>by simp[ybe,Bk,BJ]
 |v::vs,n,h=>by
  erw[yax,AI]at h;let⟨q1,q2⟩:=za7 v n h.1;let⟨q3,q4⟩:=zbh vs n h.2;erw[ybe,Bk,BJ,AI];exact⟨⟨q1,q3⟩,by lia⟩
end
def zV{v:PV}(h:shp v=AD):Fz (toD v)=true:=by
 let⟨q1,q2⟩:=za7 v 60 h;unfold Fz;rw[q1,Fh,decide_eq_true_eq];lia
mutual
theorem zbi:∀(v w:PV) (n m:Nat),shd n v=AD->shd m w=AD->BK (toD v) (toD w)=peq v w
 |.non,w,n,m,h,q=>by cases w<;>first|rfl|exact absurd q AW
 |.bl b,w,n,m,h,q=>by cases w<;>first|rfl|exact absurd q AW
 |.int i,w,n,m,h,q=>by cases w<;>first|rfl|exact absurd q AW
 |.str x,w,n,m,h,q=>by cases w<;>first|rfl|exact absurd q AW
 |.tp _ xs,.tp _ ys,n,m,h,q=>by
  have h:=B1.1 h;have q:=B1.1 q;exact zbf xs ys (n-1) (m-1) h.2 q.2
 |.lst xs,.lst ys,n,m,h,q=>by
  have h:=B1.1 h;have q:=B1.1 q;exact zbf xs ys (n-1) (m-1) h.2 q.2
 |.tp _ xs,.non,n,m,h,q=>rfl
 |.tp _ xs,.bl _,n,m,h,q=>rfl
 |.tp _ xs,.int _,n,m,h,q=>rfl
 |.tp _ xs,.str _,n,m,h,q=>rfl
 |.tp _ xs,.lst _,n,m,h,q=>rfl
 |.lst xs,.non,n,m,h,q=>rfl
 |.lst xs,.bl _,n,m,h,q=>rfl
 |.lst xs,.int _,n,m,h,q=>rfl
 |.lst xs,.str _,n,m,h,q=>rfl
 |.lst xs,.tp _ _,n,m,h,q=>rfl
 |.loc k,w,n,m,h,q=>absurd h AW
 |.fnc k,w,n,m,h,q=>absurd h AW
 |.exn k,w,n,m,h,q=>absurd h AW
 |.scr k,w,n,m,h,q=>absurd h AW
 |v,.loc k,n,m,h,q=>absurd q AW
 |v,.fnc k,n,m,h,q=>absurd q AW
 |v,.exn k,n,m,h,q=>absurd q AW
 |v,.scr k,n,m,h,q=>absurd q AW
theorem zbf:∀(v w:List PV) (n m:Nat),yax n v=AD->yax m w=AD->CK (ybe v) (ybe w)=yaO v w
 |[],[],n,m,h,q=>rfl
 |[],y::ys,n,m,h,q=>rfl
 |x::xs,[],n,m,h,q=>rfl
 |x::xs,y::ys,n,m,h,q=>by
  have h:=B1.1 h;have q:=B1.1 q;show (BK (toD x) (toD y)&&CK (ybe xs) (ybe ys))=(peq x y&&yaO xs ys);rw[zbi x y n m h.1 q.1,zbf xs ys n m h.2 q.2]
end
section
variable {S:Se}{X:Cx}{σ:St}{B:AG->Prop}{φ φ1:Ph}{H H1:Hp}{st:SO}{π:List (AG×BV)}{s:AH}
mutual
theorem zB(I:Inv X π σ H s):∀(v:PV) (n:Nat) (x:V) (u:AE),shd n v=AD->yc X.K S.cl B φ H v x->RelV x u->∃as,GG s.heap u (toD v) as
 |.non,n,x,u,h,r,q=>by
  erw[yc]at r;subst r;cases (show u=Ba from q);exact⟨_,.none⟩
 |.bl b,n,x,u,h,r,q=>by
  erw[yc]at r;subst r;cases (show u=C5 b from q);exact⟨_,.bool b⟩
 |.int i,n,x,u,h,r,q=>by
  erw[yc]at r;subst r;let⟨t,rfl⟩:=q;exact⟨_,.int i t⟩
 |.str y,n,x,u,h,r,q=>by
  erw[yc]at r;subst r;let⟨t,rfl⟩:=q;exact⟨_,.str y t⟩
 |.tp _ vs,n,x,u,h,r,q=>by
  erw[yc]at r;let⟨a,xs,rfl,rt,l⟩:=r
  cases (show u=BF a from q)
  erw[shd,AI]at h;let⟨its,rv,⟨o,g,c,k,d⟩,_⟩:=I.tuple rt.sq;let⟨as,z⟩:=zaz I vs (n-1) xs its h.2 l rv;exact⟨as,.tuple g c d (by simpa using z)⟩
 |.lst vs,n,x,u,h,r,q=>by
  erw[yc]at r;let⟨a,xs,rfl,rt,l⟩:=r
  cases (show u=BF a from q)
  erw[shd,AI]at h;let⟨its,rv,⟨o,k,g,c,_,d⟩,_⟩:=I.list (rt.sq (K:=X.K));let⟨as,z⟩:=zaz I vs (n-1) xs its h.2 l rv;exact⟨_,.list g c d (by simpa using z)⟩
 |.loc k,n,x,u,h,r,q=>by simp[shd]at h
 |.fnc k,n,x,u,h,r,q=>by simp[shd]at h
 |.exn k,n,x,u,h,r,q=>by simp[shd]at h
 |.scr k,n,x,u,h,r,q=>by simp[shd]at h
theorem zaz(I:Inv X π σ H s):∀(v:List PV) (n:Nat) (x:List V) (u:List AE),yax n v=AD->ye X.K S.cl B φ H v x->Vals x u->∃as,ReadsAll s.heap u (ybe v) as
 |[],n,x,u,h,r,q=>by
  erw[ye]at r;subst r;cases q;exact⟨_,.nil⟩
 |v::vs,n,x,u,h,r,q=>by
  erw[ye]at r;let⟨y,ys,rfl,rv,l⟩:=r;erw[yax,AI]at h
  cases q with
  |cons q1 q2=>
   let⟨as,z1⟩:=zB I v n y _ h.1 rv q1;let⟨bs,z2⟩:=zaz I vs n ys _ h.2 l q2;exact⟨_,.cons z1 z2⟩
end
def zkm(hu:X.A.units+64<cLine):OpR X (compareOp .Eq) (rT2 S X (yC .eq)):=by
 rintro π s σ H x y v u Q I rx ry ⟨B,φ,st,a,b,z,rs,ra,rb,e,q⟩
 erw[yC]at e;split at e
 .rename_i c;rw[AI]at c
  cases e
  let⟨as,z1⟩:=zB (S:=S) I a 60 x v c.1 ra rx;let⟨bs,z2⟩:=zB (S:=S) I b 60 y u c.2 rb ry;refine eq_dataH z1 z2 (zV c.1) (zV c.2) hu ⟨.bl _,H,I,rfl,?_⟩;rw[zbi a b 60 60 c.1 c.2];exact q _ H φ .rfl rs (by erw[yc])
 .cases e
def zj3(hu:X.A.units+64<cLine):OpR X (compareOp .NotEq) (rT2 S X (yC .ne)):=by
 rintro π s σ H x y v u Q I rx ry ⟨B,φ,st,a,b,z,rs,ra,rb,e,q⟩
 erw[yC]at e;split at e
 .rename_i c;rw[AI]at c
  cases e
  let⟨as,z1⟩:=zB (S:=S) I a 60 x v c.1 ra rx;let⟨bs,z2⟩:=zB (S:=S) I b 60 y u c.2 rb ry;refine ne_dataH z1 z2 (zV c.1) (zV c.2) hu ⟨.bl _,H,I,rfl,?_⟩;rw[zbi a b 60 60 c.1 c.2];exact q _ H φ .rfl rs (by erw[yc])
 .cases e
def zdt{f:AE->AE->FE AE}{o:COp}{g:Int->Int->Bool}(h:OpR X f (rI0 λi j=>.bl (g i j)))
  (hb:∀v w z,yC o v w=AA z->∃i j,v=.int i/\w=.int j/\z=.bl (g i j)):OpR X f (rT2 S X (yC o)):=by
 rintro π s σ H x y v u Q I rx ry ⟨B,φ,st,a,b,z,rs,ra,rb,e,q⟩
 let⟨i,j,rfl,rfl,rfl⟩:=hb a b z e;erw[yc]at ra rb;subst ra rb;exact h π s σ H _ _ v u Q I rx ry ⟨i,j,rfl,rfl,q _ H φ .rfl rs (by erw[yc])⟩
def zkw:OpR X (compareOp .Lt) (rT2 S X (yC .lt)):=by
 rintro π s σ H x y v u Q I rx ry ⟨B,φ,st,a,b,z,rs,ra,rb,e,q⟩
 erw[yC]at e;split at e
 .rename_i i j;erw[yc]at ra rb;subst ra rb
  cases e
  exact zkB π s σ H _ _ v u Q I rx ry ⟨i,j,rfl,rfl,q _ H φ .rfl rs (by erw[yc])⟩
 .rename_i i j;erw[yc]at ra rb;subst ra rb
  cases e
  exact zev π s σ H _ _ v u Q I rx ry ⟨i,j,rfl,rfl,q _ H φ .rfl rs (by erw[yc])⟩
 .cases e
def zcG{o:COp}{g:Int->Int->Bool}(ho:∀v w,yC o v w=match v,w with
   |.int i,.int j=>ybj o i j
   |.str a,.str b=>ydh o a b
   |_,_=>AB) (hs:∀a b,ydh o a b=AB) (hg:∀i j,ybj o i j=AA (.bl (g i j))) (v w z:PV) (h:yC o v w=AA z):∃i j,v=.int i/\w=.int j/\z=.bl (g i j):=by
 rw[ho]at h;split at h
 .rename_i i j;rw[hg]at h;exact⟨i,j,rfl,rfl,(AU h).symm⟩
 .rw[hs]at h;cases h
 .cases h
def zkh:OpR X (compareOp .Gt) (rT2 S X (yC .gt)):=zdt zj8 (zcG (λ_ _=>rfl) (λ_ _=>rfl) λ_ _=>rfl)
def zkA:OpR X (compareOp .GtE) (rT2 S X (yC .ge)):=zdt zj6 (zcG (λ_ _=>rfl) (λ_ _=>rfl) λ_ _=>rfl)
theorem yc.isNon{K:AC}{cl:Nat->AG}{v:PV}{x:V}(r:yc K cl B φ H v x):decide (x=.non)=IC.isNon v:=by
 cases v with
 |loc n=>erw[yc]at r;let⟨_,a,rfl,_⟩:=r;rfl
 |non=>erw[yc]at r;subst r;rfl
 |bl b=>erw[yc]at r;subst r;rfl
 |int b=>erw[yc]at r;subst r;rfl
 |str b=>erw[yc]at r;subst r;rfl
 |tp k vs=>erw[yc]at r;let⟨a,xs,rfl,_⟩:=r;rfl
 |lst vs=>erw[yc]at r;let⟨a,xs,rfl,_⟩:=r;rfl
 |fnc j=>erw[yc]at r;subst r;rfl
 |exn vs=>erw[yc]at r;let⟨a,rfl,_⟩:=r;rfl
 |scr vs=>erw[yc]at r;let⟨a,xs,rfl,_⟩:=r;rfl
def zf8{M:Fp}{A:A3}{E:AE->AH->Prop}{s:AH}{a b:Bool}{Q:AE->AH->Prop}(h:Q (.bool (a==b)) s):A2 M A (compareOp .Is (.bool a) (.bool b)) Q E s:=by
 have e:(C5 a==C5 b)=(a==b):=by cases a<;>cases b<;>rfl
 rw[<-e]at h;exact AO h
def zkn:OpR X (compareOp .Is) (rT2 S X (yC .is)):=by
 rintro π s σ H x y v u Q I rx ry ⟨B,φ,st,a,b,z,rs,ra,rb,e,q⟩
 erw[yC]at e;split at e
 .cases e
  erw[yc]at rb;exact ziW π s σ H _ _ v u Q I rx ry ⟨rb,q _ H φ .rfl rs (by erw[yc];rw[ra.isNon])⟩
 .rename_i k;split at e
  .rename_i j
   cases e
   erw[yc]at ra rb;subst ra rb
   cases (show v=C5 j from rx)
   cases (show u=C5 k from ry)
   exact zf8 (zcE I (q _ H φ .rfl rs (by erw[yc])) rfl)
  .cases e
 .cases e
theorem yc.flat{K:AC}{cl:Nat->AG}{v:PV}{x:V}(r:yc K cl B φ H v x)(h:IC.flat v=AD):yay x=AD/\∀(w:PV) (y:V),IC.flat w=AD->yc K cl B φ H w y->eqV x y=peq v w:=by
 cases v with
 |non=>
  erw[yc]at r;subst r;refine⟨rfl,λw y hw rw=>?_⟩
  cases w<;>first|(simp[IC.flat]at hw;done)|(erw[yc]at rw;subst rw;rfl)
 |bl b=>
  erw[yc]at r;subst r;refine⟨rfl,λw y hw rw=>?_⟩
  cases w<;>first|(simp[IC.flat]at hw;done)|(erw[yc]at rw;subst rw;rfl)
 |int b=>
  erw[yc]at r;subst r;refine⟨rfl,λw y hw rw=>?_⟩
  cases w<;>first|(simp[IC.flat]at hw;done)|(erw[yc]at rw;subst rw;rfl)
 |str b=>
  erw[yc]at r;subst r;refine⟨rfl,λw y hw rw=>?_⟩
  cases w<;>first|(simp[IC.flat]at hw;done)|(erw[yc]at rw;subst rw;rfl)
 |_=>simp[IC.flat]at h
def zcn{K:AC}{cl:Nat->AG}{v:PV}{x:V}(r:yc K cl B φ H v x)(h:IC.flat v=AD):∀{vs:List PV} {xs:List V},ye K cl B φ H vs xs->vs.all IC.flat=AD->xs.all yay=AD/\inV x xs=inL v vs
 |[],xs,l,_=>by erw[ye]at l;subst l;exact⟨rfl,rfl⟩
 |w::vs,xs,l,f=>by
  erw[ye]at l;let⟨y,ys,rfl,rw,l⟩:=l;rw[Ay,AI]at f;let⟨q1,q2⟩:=zcn r h l f.2;let⟨q3,q4⟩:=rw.flat f.1;refine⟨by rw[Ay,q3,q1];rfl,?_⟩;unfold inV at q2 ⊢;rw[BX,q2,q4 v x h r];rfl
end
def zhr(a b:AM):(!(Bw b a 0 b.length 1).isEmpty)=inS a b:=by
 rw[FW,StrLaws.found_iff];unfold inS;rw[Co];constructor
 .rintro⟨i,h1,h2⟩
  exact⟨i,by rw[DN];lia,by rw[AI,decide_eq_true_eq];exact⟨h1,h2⟩⟩
 .rintro⟨i,_,h⟩
  rw[AI,decide_eq_true_eq]at h;exact⟨i,h.1,h.2⟩
section
variable {S:Se}{X:Cx}{σ:St}{B:AG->Prop}{φ φ1:Ph}{H H1:Hp}{st:SO}
def zka:OpR X (compareOp .In) (rT2 S X (yC .isin)):=by
 rintro π s σ H x y v u Q I rx ry ⟨B,φ,st,a,b,z,rs,ra,rb,e,q⟩
 erw[yC]at e;split at e
 .rename_i i j;erw[yc]at ra rb;subst ra rb
  cases e
  exact zeD π s σ H _ _ v u Q I rx ry ⟨i,j,rfl,rfl,by rw[zhr];exact q _ H φ .rfl rs (by erw[yc])⟩
 .rename_i l;split at e
  .rename_i c;rw[AI]at c
   cases e
   erw[yc]at rb;let⟨p,xs,rfl,r,l'⟩:=rb;let⟨q1,q2⟩:=zcn ra c.1 l' c.2;exact zbL π s σ H _ _ v u Q I rx ry ⟨p,xs,rfl,.inr r.sq,(ra.flat c.1).1,q1,q _ H φ .rfl rs (by erw[yc];rw[<-q2];rfl)⟩
  .cases e
 .rename_i l;split at e
  .rename_i c;rw[AI]at c
   cases e
   erw[yc]at rb;let⟨p,xs,rfl,r,l'⟩:=rb;let⟨q1,q2⟩:=zcn ra c.1 l' c.2;exact zbL π s σ H _ _ v u Q I rx ry ⟨p,xs,rfl,.inl r.sq,(ra.flat c.1).1,q1,q _ H φ .rfl rs (by erw[yc];rw[<-q2];rfl)⟩
  .cases e
 .cases e
theorem ye.empty{K:AC}{cl:Nat->AG}{vs:List PV}{xs:List V}(l:ye K cl B φ H vs xs):vs.isEmpty=xs.isEmpty:=by
 have:=l.length
 cases vs<;>cases xs<;>simp_all
def zha{K:AC}{cl:Nat->AG}{v:PV}{x:V}{k:Bool}(rs:yh K cl B φ H st)(r:yc K cl B φ H v x)(h:yar st v=AA k):ydR K x H k:=by
 cases v with
 |non=>erw[yc]at r;subst r;cases h;rfl
 |bl b=>erw[yc]at r;subst r;cases h;rfl
 |int b=>erw[yc]at r;subst r;cases h;rfl
 |str b=>
  erw[yc]at r;subst r;erw[yar]at h;split at h
  .rename_i c
   cases h
   exact⟨by rw[<-zi];exact c,rfl⟩
  .cases h
 |tp k vs=>
  erw[yc]at r;let⟨a,xs,rfl,rt,l⟩:=r
  cases h
  exact .inr (.inl ⟨xs,rt.sq,by rw[l.empty]⟩)
 |lst vs=>
  erw[yc]at r;let⟨a,xs,rfl,rt,l⟩:=r
  cases h
  exact .inl ⟨xs,rt.sq,by rw[l.empty]⟩
 |loc n=>
  erw[yc]at r;let⟨hn,a,rfl,ha⟩:=r;erw[yar]at h;split at h
  .rename_i vs hv
   cases h
   let⟨b,hb⟩:=rs.liv n _ hv (by intro z;cases z);obtain rfl:=ha b hb;let⟨o,ho,ro⟩:=rs.obj n b hb;rw[hv]at ho;cases ho;let⟨xs,hx,l⟩:=ro;exact .inl ⟨xs,.of hx,by rw[l.empty]⟩
  .cases h
 |fnc c=>cases h
 |exn c=>cases h
 |scr c=>cases h
end
theorem R.bind_assoc{α β γ:Type}{r:R α}{k:α->SO->R β}{l:β->SO->R γ}:(r.bind k).bind l=r.bind λa s=>(k a s).bind l:=by
 cases r<;>rfl
section
variable {S:Se}{X:Cx}{σ:St}{B:AG->Prop}{φ φ1:Ph}{H H1:Hp}{st:SO}{ρ:IC.Env}{pos:BZ}{a b c d:AL}{ca cb cc:Ce}{es:List AL}{ces:Ces}
def zbd{o:COp}{v w z:PV}(h:yC o v w=AA z):∃k,z=.bl k:=by
 cases o<;>erw[yC]at h
 all_goals (repeat' split at h)<;>first|(cases h;done)|(cases h;exact⟨_,rfl⟩)|skip
 all_goals (erw[ybj]at h;cases h;exact⟨_,rfl⟩)
def ziM{op:E2}{o:COp}(ho:OpR X (compareOp op) (rT2 S X (yC o)))(ha:PE X a (tE S X ca))(hb:PE X b (tE S X cb))(hm:behindInMarks op b=AF):PT X (.Compare a [op] [b] pos) (tTs S X (.cmp o ca cb)):=
 (zdx ho ha hb hm).imp λσ H Q ⟨B,φ,st,ρ,rs,re,h⟩=>by
  erw[ev,yaA,R.bind_assoc]at h;refine tE.bind rs re h λx H1 v st1 φ1 s1 rs1 re1 rv h1=>tE.bind rs1 re1 h1 λy H2 w st2 φ2 s2 rs2 re2 rw h2=>?_
  cases e:yC o v w with
  |none=>rw[e]at h2;exact h2.elim
  |some z=>
   let⟨k,rfl⟩:=zbd e;rw[e]at h2;refine⟨B,φ2,st2,v,w,.bl k,rs2,rv.step s2,rw,e,λz' H' φ' s' rs' rz=>?_⟩;erw[yc]at rz;exact⟨k,rz,h2 k H' φ' s' rs' rfl⟩
def zjs(ha:PE X a (tE S X ca))(he:∀whole,isTrue a X.env whole=(do let v <-whole;standAt a.pos;holding [v] (truthy v)):=by intro _;rfl):PT X a (tTs S X ca):=
 (zfi ha he).imp λσ H Q ⟨B,φ,st,ρ,rs,re,h⟩=>by
  erw[yaA]at h;refine tE.bind rs re h λx H1 v st1 φ1 s1 rs1 re1 rv h1=>?_
  cases e:yar st1 v with
  |none=>rw[e]at h1;exact h1.elim
  |some k=>
   rw[e]at h1;exact⟨k,zha rs1 rv e,h1.ok rs1 rfl⟩
theorem tTs.bind{γ δ:Type}{Fy:Ph->Hp->γ->δ->Prop}{k:Bool->SO->R γ}{Q:δ->Hp->Prop}{P:Bool->Hp->Prop}(rs:yh X.K S.cl B φ H st)(re:yp X.K S.cl B φ H ρ σ)(h:Run S X σ B φ H Fy ((yaA (ev S.call ρ st ca)).bind k) Q)
  (n:∀b H1 st1 φ1,Step φ H φ1 H1->yh X.K S.cl B φ1 H1 st1->yp X.K S.cl B φ1 H1 ρ σ->Run S X σ B φ1 H1 Fy (k b st1) Q->P b H1):tTs S X ca σ H P:=
 ⟨B,φ,st,ρ,rs,re,(Run.bind h).mono λx H1 ⟨v,st1,φ1,s,rs1,rv,h1⟩=>by
  subst rv;exact n v H1 st1 φ1 s rs1 (re.step s) h1⟩
def zcc(r:R PV)(f:Bool->SO->R PV):yaA (r.bind λx st1=>onBl x λb=>f b st1)=r.bind λx st1=>onBl x λb=>yaA (f b st1):=by
 unfold yaA;rw[R.bind_assoc]
 congr 1
 funext x st1
 cases x<;>rfl
theorem Run.bl_tru{r:R PV}{k:Bool->SO->R Bool}{Q:Bool->Hp->Prop}(h:Run S X σ B φ H RB (r.bind λx st1=>onBl x λb=>k b st1) Q):Run S X σ B φ H RB ((yaA r).bind k) Q:=by
 cases r with
 |bad=>exact h
 |exc c s=>exact h
 |ok v s=>
  cases v with
  |bl b=>exact h
  |_=>exact h.elim
def zi3(ha:PT X a (tTs S X ca)):PT X (.UnaryOp .Not a pos) (tTs S X (.not ca)):=
 (zjK ha).imp λσ H Q ⟨B,φ,st,ρ,rs,re,h⟩=>by
  erw[ev]at h;rw[zcc _ λk st1=>.ok (.bl (!k)) st1]at h;exact tTs.bind rs re (Run.bl_tru (k:=λb st1=>.ok (!b) st1) h) λb H1 st1 φ1 s1 rs1 re1 h1=>h1.ok rs1 rfl
variable {rest:List AL}
def zgZ(ha:PT X a (tTs S X ca)):PW X (.BoolOp .And [a] pos) (tTs S X ca):=zg2 ha
def ziD(ha:PT X a (tTs S X ca)):PW X (.BoolOp .Or [a] pos) (tTs S X ca):=zjQ ha
def zjo(ha:PT X a (tTs S X ca))(hb:PW X (.BoolOp .And (b::rest) pos) (tTs S X cb)):PW X (.BoolOp .And (a::b::rest) pos) (tTs S X (.and ca cb)):=
 (zjc ha hb).imp λσ H Q ⟨B,φ,st,ρ,rs,re,h⟩=>by
  erw[ev]at h;rw[zcc _ λk st1=>cond k (ev S.call ρ st1 cb) (.ok (.bl AF) st1)]at h;refine tTs.bind rs re (Run.bl_tru h) λk H1 st1 φ1 s1 rs1 re1 h1=>?_
  cases k with
  |false=>exact h1.ok rs1 rfl
  |true=>exact⟨B,φ1,st1,ρ,rs1,re1,h1⟩
def zkk(ha:PT X a (tTs S X ca))(hb:PW X (.BoolOp .Or (b::rest) pos) (tTs S X cb)):PW X (.BoolOp .Or (a::b::rest) pos) (tTs S X (.or ca cb)):=
 (zky ha hb).imp λσ H Q ⟨B,φ,st,ρ,rs,re,h⟩=>by
  erw[ev]at h;rw[zcc _ λk st1=>cond k (.ok (.bl AD) st1) (ev S.call ρ st1 cb)]at h;refine tTs.bind rs re (Run.bl_tru h) λk H1 st1 φ1 s1 rs1 re1 h1=>?_
  cases k with
  |true=>exact h1.ok rs1 rfl
  |false=>exact⟨B,φ1,st1,ρ,rs1,re1,h1⟩
def zgD{op:GA}(h:PE X a (tE S X ca)):PE X (.BoolOp op [a] pos) (tE S X ca):=zjp h
def zgt(ha:PE X a (tE S X ca))(hb:PE X (.BoolOp .And (b::rest) pos) (tE S X cb)):PE X (.BoolOp .And (a::b::rest) pos) (tE S X (.and ca cb)):=
 (zjC ha hb).imp λσ H Q ⟨B,φ,st,ρ,rs,re,h⟩=>by
  erw[ev]at h;refine tE.bind rs re h λx H1 v st1 φ1 s1 rs1 re1 rv h1=>?_
  cases v with
  |bl k=>
   erw[yc]at rv;refine⟨k,rv,?_⟩
   cases k with
   |true=>exact⟨B,φ1,st1,ρ,rs1,re1,h1⟩
   |false=>exact h1.ok rs1 (by erw[yc])
  |_=>exact h1.elim
def zjx(ha:PE X a (tE S X ca))(hb:PE X (.BoolOp .Or (b::rest) pos) (tE S X cb)):PE X (.BoolOp .Or (a::b::rest) pos) (tE S X (.or ca cb)):=
 (zj9 ha hb).imp λσ H Q ⟨B,φ,st,ρ,rs,re,h⟩=>by
  erw[ev]at h;refine tE.bind rs re h λx H1 v st1 φ1 s1 rs1 re1 rv h1=>?_
  cases v with
  |bl k=>
   erw[yc]at rv;refine⟨k,rv,?_⟩
   cases k with
   |false=>exact⟨B,φ1,st1,ρ,rs1,re1,h1⟩
   |true=>exact h1.ok rs1 (by erw[yc])
  |_=>exact h1.elim
def ziS(ha:PE X a (tE S X ca)):PE X (.UnaryOp .Not a pos) (tE S X (.not ca)):=
 (ziv ha).imp λσ H Q ⟨B,φ,st,ρ,rs,re,h⟩=>by
  erw[ev]at h;refine tE.bind rs re h λx H1 v st1 φ1 s1 rs1 re1 rv h1=>?_
  cases v with
  |bl k=>
   erw[yc]at rv;exact⟨k,rv,h1.ok rs1 (by erw[yc])⟩
  |_=>exact h1.elim
def zj0(hc:PT X c (tTs S X cc))(ha:PE X a (tE S X ca))(hb:PE X b (tE S X cb)):PE X (.IfExp c a b pos) (tE S X (.ite cc ca cb)):=
 (zfa hc ha hb).imp λσ H Q ⟨B,φ,st,ρ,rs,re,h⟩=>by
  erw[ev]at h;have e:((ev S.call ρ st cc).bind λx st1=>onO (yar st1 x) λk=>cond k (ev S.call ρ st1 ca) (ev S.call ρ st1 cb))=(yaA (ev S.call ρ st cc)).bind λk st1=>cond k (ev S.call ρ st1 ca) (ev S.call ρ st1 cb):=by
   unfold yaA;rw[R.bind_assoc]
   congr 1
   funext x st1
   cases yar st1 x<;>rfl
  rw[e]at h;refine tTs.bind rs re h λk H1 st1 φ1 s1 rs1 re1 h1=>?_
  cases k with
  |true=>exact⟨B,φ1,st1,ρ,rs1,re1,h1⟩
  |false=>exact⟨B,φ1,st1,ρ,rs1,re1,h1⟩
def zek:PA X [] (tAs S X .nil):=zkF.imp λσ H Q ⟨B,φ,st,ρ,rs,re,h⟩=>by
 erw[evs]at h;exact h.ok rs (by erw[ye])
def za9(ha:PE X a (tE S X ca))(hr:PA X es (tAs S X ces))(hs:starEach (a::es) X.env=(AF,eval a X.env)::starEach es X.env:=by rfl):PA X (a::es) (tAs S X (.cons ca ces)):=
 (zX ha hr hs).imp λσ H Q ⟨B,φ,st,ρ,rs,re,h⟩=>by
  erw[evs]at h;refine tE.bind rs re h λx H1 v st1 φ1 s1 rs1 re1 rv h1=>tAs.bind rs1 re1 h1 λxs H2 vs st2 φ2 s2 rs2 re2 rvs h2=>?_;refine h2.ok rs2 ?_;erw[ye];exact⟨x,xs,rfl,rv.step s2,rvs⟩
def zi7{k:Nat}(h:PA X es (tAs S X ces)):PE X (.Tuple es k pos) (tE S X (.tup ces)):=
 (zjd h).imp λσ H Q ⟨B,φ,st,ρ,rs,re,h⟩=>by
  erw[ev]at h;refine tAs.bind rs re h λxs H1 vs st1 φ1 s1 rs1 re1 rv h1=>?_;split at h1
  .rename_i c;refine⟨by rw[<-zi,<-rv.length];exact c,λp hp=>h1 _ _ φ1 (.upd hp) (rs1.upd hp) (.tup_new hp rs1 rv)⟩
  .exact h1.elim
def zj1(h:PA X es (tAs S X ces)):PE X (.List es pos) (tE S X (.lst ces)):=
 (zgy h).imp λσ H Q ⟨B,φ,st,ρ,rs,re,h⟩=>by
  erw[ev]at h;refine tAs.bind rs re h λxs H1 vs st1 φ1 s1 rs1 re1 rv h1=>?_;split at h1
  .rename_i c;refine⟨by rw[<-zi,<-rv.length];exact c,λp hp=>h1 _ _ φ1 (.upd hp) (rs1.upd hp) (.lst_new hp rs1 rv)⟩
  .exact h1.elim
theorem Step.push{p:AG}{o:HO}(hp:H p=AB):Step φ H (φ++[AA p]) (L2.upd H p o):=by
 refine⟨λb u n e=>by rw[zc (ze e hp)];exact e,by simp,λn a hn e=>?_,λb h=>?_⟩
 .rw[AQ hn]at e;exact e
 .rw[Ax]at h;rcases h with h|h
  .exact .inl h
  .have:b=p:=by simpa using h
   subst this;exact .inr hp
theorem yh.push{K:AC}{cl:Nat->AG}{p:AG}{u:HO}{o:Ob}(rs:yh K cl B φ H st)(hp:H p=AB)(hb:¬B p)(ho:ybx K cl B (φ++[AA p]) (L2.upd H p u) o p):yh K cl B (φ++[AA p]) (L2.upd H p u) (st++[o]):=by
 have s:Step φ H (φ++[AA p]) (L2.upd H p u):=.push hp;have np:AA p∉φ:=λz=>by
  let⟨w,e⟩:=rs.there z;rw[hp]at e;cases e
 have hl:φ.length=st.length:=rs.len;refine⟨by simp[hl],λm n a e1 e2=>?_,λn a e=>?_,λn o' e ho'=>?_,λa h=>?_,λa h=>?_,λa h xs e=>?_⟩
 .by_cases hm:m<φ.length
  .rw[AQ hm]at e1
   by_cases hn:n<φ.length
   .rw[AQ hn]at e2;exact rs.inj m n a e1 e2
   .rw[A1 ∅]at e2;have:a=p:=by
     cases q:n-φ.length with
     |zero=>rw[q]at e2;simpa using e2.symm
     |succ k=>rw[q]at e2;simp at e2
    subst this;exact absurd (A7 e1) np
  .rw[A1 ∅]at e1;have:m-φ.length=0/\a=p:=by
    cases q:m-φ.length with
    |zero=>rw[q]at e1;exact⟨rfl,by simpa using e1.symm⟩
    |succ k=>rw[q]at e1;simp at e1
   let⟨q1,rfl⟩:=this
   by_cases hn:n<φ.length
   .rw[AQ hn]at e2;exact absurd (A7 e2) np
   .rw[A1 ∅]at e2;have:n-φ.length=0:=by
     cases q:n-φ.length with
     |zero=>rfl
     |succ k=>rw[q]at e2;simp at e2
    lia
 .by_cases hn:n<φ.length
  .rw[AQ hn]at e;let⟨o',q,r⟩:=rs.obj n a e;refine⟨o',by rw[AQ ∅];exact q,r.step s ?_⟩;rw[zc]
   rintro rfl
   exact np (A7 e)
  .rw[A1 ∅]at e;have:n-φ.length=0/\a=p:=by
    cases q:n-φ.length with
    |zero=>rw[q]at e;exact⟨rfl,by simpa using e.symm⟩
    |succ k=>rw[q]at e;simp at e
   let⟨q1,rfl⟩:=this;refine⟨o,?_,ho⟩;rw[A1 ∅];have:n-st.length=0:=by lia
   rw[this];rfl
 .by_cases hn:n<φ.length
  .rw[AQ ∅]at e;let⟨a,q⟩:=rs.liv n o' e ho';exact⟨a,by rw[AQ hn];exact q⟩
  .rw[A1 ∅]at e;have:n-st.length=0:=by
    cases q:n-st.length with
    |zero=>rfl
    |succ k=>rw[q]at e;simp at e
   refine⟨p,?_⟩;rw[A1 ∅];have:n-φ.length=0:=by lia
   rw[this];rfl
 .rw[Ax]at h;rcases h with h|h
  .exact rs.nb a h
  .have:a=p:=by simpa using h
   subst this;exact hb
 .let⟨w,e⟩:=rs.dom a h;exact⟨w,by rw[zc (ze e hp)];exact e⟩
 .let⟨w,q⟩:=rs.dom a h;rw[zc (ze q hp)]at e;exact rs.nt a h xs e
theorem yh.untup{K:AC}{cl:Nat->AG}{a:AG}{xs:List V}(rs:yh K cl B φ H st)(h:AA a∈φ)(e:H a=AA (.tup xs)):False:=by
 let⟨n,hn⟩:=List.getElem?_of_mem h;let⟨o,q,r⟩:=rs.obj n a hn
 cases o with
 |lst vs=>let⟨ys,hx,l⟩:=r;rw[e]at hx;cases hx
 |dct t kvs=>cases t<;>(let⟨ys,hx,l⟩:=r;rw[e]at hx;cases hx)
 |ins c fs=>let⟨ks,⟨dx,hx⟩,l⟩:=r;rw[e]at hx;cases hx
 |dead=>exact r.elim
theorem yh.nB{K:AC}{cl:Nat->AG}{p:AG}(rs:yh K cl B φ H st)(hp:H p=AB):¬B p:=λz=>by
 let⟨o,e⟩:=rs.dom p z;rw[hp]at e;cases e
theorem yc.loc_new{K:AC}{cl:Nat->AG}{p:AG}(rs:yh K cl B φ H st):yc K cl B (φ++[AA p]) H1 (.loc st.length) (.ref p):=by
 erw[yc];have hl:=rs.len;refine⟨by simp[hl],p,rfl,λb e=>?_⟩;rw[A1 ∅]at e;have:st.length-φ.length=0:=by lia
 rw[this]at e;simpa using e.symm
def zhN(h:PA X es (tAs S X ces)):PE X (.List es pos) (tE S X (.newl ces)):=
 (zgy h).imp λσ H Q ⟨B,φ,st,ρ,rs,re,h⟩=>by
  erw[ev]at h;refine tAs.bind rs re h λxs H1 vs st1 φ1 s1 rs1 re1 rv h1=>?_;split at h1
  .rename_i c;refine⟨by rw[<-zi,<-rv.length];exact c,λp hp=>h1 _ _ (φ1++[AA p]) (.push hp) (rs1.push hp (rs1.nB hp) ⟨xs,zf,rv.step (.push hp)⟩) (.loc_new rs1)⟩
  .exact h1.elim
end
section
variable {S:Se}{X:Cx}{σ:St}{B:AG->Prop}{φ φ1:Ph}{H H1:Hp}{st:SO}{ρ:IC.Env}{pos p2:BZ}{a b c d:AL}{ca cb cc:Ce}{es:List AL}{ces:Ces}{K:AC}{cl:Nat->AG}
def zd8{o:COp}{v w:PV}{α β:Type}{Rel:Ph->Hp->α->β->Prop}{k:Bool->R α}{Q:β->Hp->Prop}(h:Run S X σ B φ H Rel (onO (blO (yC o v w)) k) Q):∃b,yC o v w=AA (.bl b)/\Run S X σ B φ H Rel (k b) Q:=by
 cases e:yC o v w with
 |none=>rw[e]at h;exact h.elim
 |some z=>
  let⟨b,rfl⟩:=zbd e;rw[e]at h;exact⟨b,rfl,h⟩
def zfT{op op':E2}{o p:COp}(ho:OpR X (compareOp op) (rT2 S X (yC o)))(ho':OpR X (compareOp op') (rT2 S X (yC p)))(ha:PE X a (tE S X ca))(hb:PE X b (tE S X cb))(hc:PE X c (tE S X cc))
  (hm:lastMarks [op,op'] [b,c]=false:=by with_unfolding_all rfl):PE X (.Compare a [op,op'] [b,c] pos) (tE S X (.chain o p ca cb cc)):=
 (zf7 ho ho' ha hb hc hm).imp λσ H Q ⟨B,φ,st,ρ,rs,re,h⟩=>by
  erw[ev]at h;refine tE.bind rs re h λx H1 v st1 φ1 s1 rs1 re1 rv h1=>tE.bind rs1 re1 h1 λy H2 w st2 φ2 s2 rs2 re2 rw h2=>?_;let⟨k,e,h2⟩:=zd8 h2;refine⟨B,φ2,st2,v,w,.bl k,rs2,rv.step s2,rw,e,λz' H' φ' s' rs' rz=>?_⟩;erw[yc]at rz;refine⟨k,rz,?_⟩
  cases k with
  |false=>exact h2 _ H' φ' s' rs' (by erw[yc])
  |true=>
   refine tE.bind rs' (re2.step s') (Run.on s' h2) λz H3 v3 st3 φ3 s3 rs3 re3 rv3 h3=>?_;let⟨q,eq,hq⟩:=zu h3 rs3;exact⟨B,φ3,st3,w,v3,q,rs3,(rw.step s').step s3,rv3,eq,hq⟩
def zfS{op op':E2}{o p:COp}(ho:OpR X (compareOp op) (rT2 S X (yC o)))(ho':OpR X (compareOp op') (rT2 S X (yC p)))(ha:PE X a (tE S X ca))(hb:PE X b (tE S X cb))(hc:PE X c (tE S X cc))
  (hm:lastMarks [op,op'] [b,c]=false:=by with_unfolding_all rfl):PT X (.Compare a [op,op'] [b,c] pos) (tTs S X (.chain o p ca cb cc)):=
 (zf5 ho ho' ha hb hc hm).imp λσ H Q ⟨B,φ,st,ρ,rs,re,h⟩=>by
  erw[ev,yaA,R.bind_assoc]at h;refine tE.bind rs re h λx H1 v st1 φ1 s1 rs1 re1 rv h1=>tE.bind rs1 re1 h1 λy H2 w st2 φ2 s2 rs2 re2 rw h2=>?_;have h2':Run S X σ B φ2 H2 RB (onO (blO (yC o v w)) λk=>cond k ((ev S.call ρ st2 cc).bind λz st3=>(toR (yC p w z) st3).bind λx st=>onO (yar st x) λb=>.ok b st) (.ok AF st2)) Q:=by
   cases e:yC o v w with
   |none=>rw[e]at h2;exact h2
   |some z=>
    let⟨b,rfl⟩:=zbd e;rw[e]at h2
    cases b with
    |false=>exact h2
    |true=>
     erw[blO,onO,cond_true,R.bind_assoc]at h2 ⊢;exact h2
  let⟨k,e,h2⟩:=zd8 h2';refine⟨B,φ2,st2,v,w,.bl k,rs2,rv.step s2,rw,e,λz' H' φ' s' rs' rz=>?_⟩;erw[yc]at rz;refine⟨k,rz,?_⟩
  cases k with
  |false=>exact⟨AF,rfl,h2 _ H' φ' s' rs' rfl⟩
  |true=>
   refine tE.bind rs' (re2.step s') (Run.on s' h2) λz H3 v3 st3 φ3 s3 rs3 re3 rv3 h3=>?_
   cases eq:yC p w v3 with
   |none=>rw[eq]at h3;exact h3.elim
   |some q=>
    let⟨b,rfl⟩:=zbd eq;rw[eq]at h3;refine⟨B,φ3,st3,w,v3,.bl b,rs3,(rw.step s').step s3,rv3,eq,λz2 H4 φ4 s4 rs4 rz4=>?_⟩;erw[yc]at rz4;exact⟨b,rz4,h3 b H4 φ4 s4 rs4 rfl⟩
theorem ye.at{vs:List PV}{xs:List V}{i:Int}{v:PV}(l:ye K cl B φ H vs xs)(h:at? vs i=AA v):∃x,atI xs i=AA x/\yc K cl B φ H v x:=by
 unfold at? at h;rw[l.length]at h;unfold atI
 cases e:ixI xs.length i with
 |none=>rw[e]at h;cases h
 |some j=>
  rw[e]at h;have e':ixN xs.length i=AA j:=e;rw[e'];exact l.get j h
theorem yh.list{n:Nat}{vs:List PV}{x:V}(rs:yh K cl B φ H st)(r:yc K cl B φ H (.loc n) x)(h:st[n]?=AA (.lst vs)):∃a xs,x=.ref a/\φ[n]?=AA (AA a)/\H a=AA (.lst xs)/\ye K cl B φ H vs xs:=by
 erw[yc]at r;let⟨hn,a,rfl,ha⟩:=r;let⟨b,hb⟩:=rs.liv n _ h (by intro z;cases z);obtain rfl:=ha b hb;let⟨o,ho,ro⟩:=rs.obj n b hb;rw[h]at ho;cases ho;let⟨xs,hx,l⟩:=ro;exact⟨b,xs,rfl,hb,hx,l⟩
def rTS(S:Se)(X:Cx)(f:SO->PV->PV->Option PV):R2:=λx y H Q=>∃B φ st v w z,yh X.K S.cl B φ H st/\yc X.K S.cl B φ H v x/\yc X.K S.cl B φ H w y/\f st v w=AA z /\
 ∀z' H' φ',Step φ H φ' H'->yh X.K S.cl B φ' H' st->yc X.K S.cl B φ' H' z z'->Q z' H'
def zat{α:Type}{xs:List α}{i:PV}{z:α}(h:yaS xs i=AA z):∃k,i=.int k/\at? xs k=AA z:=by
 cases i with
 |int k=>exact⟨k,rfl,h⟩
 |_=>cases h
def zhI:IxR X (rTS S X idxV):=by
 rintro value slice π s σ H x y v u Q I rx ry ⟨B,φ,st,a,i,z,rs,ra,ri,e,q⟩ hs
 cases a with
 |tp k vs=>
  let⟨k,rfl,e⟩:=zat e;erw[yc]at ra ri;subst ri;let⟨p,xs,rfl,rt,l⟩:=ra;let⟨w,e1,rw⟩:=l.at e;exact zcx value slice π s σ H _ _ v u Q I rx ry (.inr (.inl ⟨p,xs,k,w,rfl,rfl,rt.sq,e1,q w H φ .rfl rs rw⟩)) hs
 |lst vs=>
  let⟨k,rfl,e⟩:=zat e;erw[yc]at ra ri;subst ri;let⟨p,xs,rfl,rt,l⟩:=ra;let⟨w,e1,rw⟩:=l.at e;exact zcx value slice π s σ H _ _ v u Q I rx ry (.inl ⟨p,xs,k,w,rfl,rfl,rt.sq,e1,q w H φ .rfl rs rw⟩) hs
 |loc n=>
  erw[idxV]at e;split at e
  .rename_i vs h1;let⟨k,rfl,e⟩:=zat e;erw[yc]at ri;subst ri;let⟨p,xs,rfl,_,hx,l⟩:=rs.list ra h1;let⟨w,e1,rw⟩:=l.at e;exact zcx value slice π s σ H _ _ v u Q I rx ry (.inl ⟨p,xs,k,w,rfl,rfl,.of hx,e1,q w H φ .rfl rs rw⟩) hs
  .cases e
 |str t=>
  erw[idxV]at e;split at e
  .rename_i hl
   cases e1:yaS t.cps.toList i with
   |none=>rw[e1]at e;cases e
   |some c=>
    rw[e1]at e
    cases e
    let⟨k,rfl,e1⟩:=zat e1;erw[yc]at ra ri;subst ra ri;exact zcx value slice π s σ H _ _ v u Q I rx ry (.inr (.inr ⟨t,k,c,rfl,rfl,by rw[<-zi];exact hl,e1,q _ H φ .rfl rs (by erw[yc])⟩)) hs
  .cases e
 |_=>cases e
def zjR(ha:PE X a (tE S X ca))(hb:PE X b (tE S X cb))(hs:yaW b:=by exact λ_ _=>rfl):PE X (.Subscript a b pos) (tE S X (.idx ca cb)):=
 (zkd zhI ha hb hs).imp λσ H Q ⟨B,φ,st,ρ,rs,re,h⟩=>by
  erw[ev]at h;refine tE.bind rs re h λx H1 v st1 φ1 s1 rs1 re1 rv h1=>tE.bind rs1 re1 h1 λy H2 w st2 φ2 s2 rs2 re2 rw h2=>?_;let⟨z,e,q⟩:=zu h2 rs2;exact⟨B,φ2,st2,v,w,z,rs2,rv.step s2,rw,e,q⟩
theorem ye.cut{vs:List PV}{xs:List V}(lo hi:Option Int)(l:ye K cl B φ H vs xs):ye K cl B φ H (IC.cut vs lo hi) (ybN xs lo hi):=by
 have e1:∀n o,yci n o=HT.sIx n 0 o:=λn o=>by cases o<;>rfl
 have e2:∀n o,ycZ n o=HT.sIx n n o:=λn o=>by cases o<;>rfl
 unfold IC.cut ybN;rw[l.length,e1,e2];exact(l.drop _).take _
def tO(S:Se)(X:Cx)(c:Ce):TO:=λσ H Q=>tE S X c σ H λx H1=>(x=.non/\Q AB H1) \/ ∃i,x=.int i/\Q (AA i) H1
def zhk:PO X AB (tO S X (.cst .non)):=λπ s σ H Q I h=>by
 refine zhC π s σ H Q I ?_;let⟨B,φ,st,ρ,rs,re,h⟩:=h;erw[ev]at h;rcases h.ok rs (x:=V.non) (by erw[yc])with q|⟨i,z,_⟩
 .exact q.2
 .cases z
def zh0(ha:PE X a (tE S X ca)):PO X (AA a) (tO S X ca):=by
 intro π s σ H Q I hw;rw[evalPart_some];refine thn (ha π s σ H _ I hw) λu s1 kq=>?_;let⟨x,H1,I1,r1,q1⟩:=kq;rcases q1 with⟨rfl,q⟩|⟨i,rfl,q⟩
 .cases r1
  exact⟨AB,H1,I1,.none,q⟩
 .let⟨t,rfl⟩:=r1;exact⟨AA i,H1,I1,.int i t,q⟩
def rSl(S:Se)(X:Cx):V->Option Int->Option Int->Hp->VK->Prop:=λx lo hi H Q=>∃B φ st v z,yh X.K S.cl B φ H st/\yc X.K S.cl B φ H v x/\yb5 v lo hi=AA z /\
 ∀z' H' φ',Step φ H φ' H'->yh X.K S.cl B φ' H' st->yc X.K S.cl B φ' H' z z'->Q z' H'
def zZ{prog:AZ}{w:A8}{A:A3}{E:AE->AH->Prop}{s:AH}{t sl:AG}{items:Array AE}{vl vu:AE}{lo hi:Option Int}{Q:AE->AH->Prop}(ht:IsTup s.heap t items)(hs:s.heap.IsSliceOf sl vl vu .none)(pl:Ds vl lo)(pu:Ds vu hi)
  (hw:HT.sIx items.size 0 lo=0/\HT.sIx items.size items.size hi=items.size)
  (h:Q (.ref t) s):A2 (model prog w) A (getItem (.ref t) (.ref sl)) Q E s:=by
 let⟨os,hos,hcs,hds⟩:=id hs;have hTs:s.TypeIs (.ref sl) "slice":=⟨os,hos,hcs⟩;unfold getItem
 try with_reducible refine Bp ?_
 first|refine AJ (AO ?_)|skip
 refine AJ (Eo ht.typeIs ⋯ ?_);refine AJ (By (name:=AX "__getitem__") ht.typeIs Aq
  (Cn Aq ht.typeIs EU ?_ (Ea _ _)))
 show A2 _ _ (CO (.ref t) >>= _) _ _ s;refine AJ (ER ht ?_);refine AJ (Ep hTs ?_);rw[if_pos ⋯];refine AJ (HT.sliceApplied_gen hs pl pu ?_);have hyes:(((HT.sIx items.size 0 lo:Nat):Int)==0&&(1:Int)==1&&(HT.sIx items.size items.size hi-HT.sIx items.size 0 lo)==items.size)=true:=by
  rw[hw.1,hw.2];simp
 show A2 _ _ (if (((HT.sIx items.size 0 lo:Nat):Int)==0&&(1:Int)==1&&(HT.sIx items.size items.size hi-HT.sIx items.size 0 lo)==items.size)=AD then _ else _) _ _ s;rw[if_pos hyes];refine AJ (AJ (Ep ht.typeIs (AO ?_)));rw[if_pos ⋯]
 first
  |exact AJ (AO (AO ⟨_,rfl,AO h⟩))
  |exact AJ (Do (AO ⟨_,rfl,AO h⟩))
  |(wp_step;wp_step;exact⟨_,rfl,AO h⟩)
def yfl(K:AC):V->Option Int->Option Int->Hp->VK->Prop:=λx lo hi H Q=>∃a xs,x=.ref a/\SqT K H a xs /\
 (HT.sIx xs.length 0 lo=0/\HT.sIx xs.length xs.length hi=xs.length)/\Q (.ref a) H
def zfJ:SlR X (yfl X.K):=by
 intro π s σ H x v vl vu lo hi sl Q I rx hs pl pu h;let⟨a,xs,rfl,hx,hw,q⟩:=h
 cases rx
 let⟨its,r,ht,hz⟩:=I.tuple hx;have hlen:its.toArray.size=xs.length:=by rw[A0];exact r.length.symm
 refine⟨"tuple",_,Aq.lookup,ht.typeIs,?_⟩;exact zZ ht hs pl pu (by rw[hlen];exact hw) ⟨.ref a,H,I,rfl,q⟩
def ye6:V->Option Int->Option Int->Hp->VK->Prop:=λx lo hi H Q=>∃y:AM,x=.str y/\y.length<=sizeLine/\Q (.str ⟨((y.cps.toList.drop (HT.sIx y.cps.toList.length 0 lo)).take (HT.sIx y.cps.toList.length y.cps.toList.length hi-HT.sIx y.cps.toList.length 0 lo)).toArray⟩) H
def zk7(lo hi:Option Int)(n:Nat):DI lo hi 1 n=sliceRange ((HT.sIx n 0 lo:Nat):Int) ((HT.sIx n n hi:Nat):Int) 1:=by
 unfold DI;erw[show (1:Int) > 0 by decide,if_true]
 congr 1
 .cases lo with
  |none=>simp[HT.sIx]
  |some i=>
   erw[HT.sIx]
   by_cases h:i<0
   .simp only[h,if_true]<;>lia
   .simp only[h,if_false]<;>lia
 .cases hi with
  |none=>simp[HT.sIx]
  |some i=>
   erw[HT.sIx]
   by_cases h:i<0
   .simp only[h,if_true]<;>lia
   .simp only[h,if_false]<;>lia
def zd5(y:AM)(lo hi:Option Int):Txt.slice y lo hi=⟨((y.cps.toList.drop (HT.sIx y.cps.toList.length 0 lo)).take (HT.sIx y.cps.toList.length y.cps.toList.length hi-HT.sIx y.cps.toList.length 0 lo)).toArray⟩:=by
 have hn:y.length=y.cps.toList.length:=by simp[Str.length]
 unfold Txt.slice;rw[zk7,hn,sliceRange_one];have ha:=HT.sIx_le y.cps.toList.length 0 (B9 _) lo;have hb:=HT.sIx_le y.cps.toList.length y.cps.toList.length (AN _) hi;generalize HT.sIx y.cps.toList.length 0 lo=a,HT.sIx y.cps.toList.length y.cps.toList.length hi=b at *;split
 .rename_i c;erw[Ah,List.length_range,AI,beq_iff_eq]at c;obtain⟨rfl,rfl⟩:a=0/\b=y.cps.toList.length:=by lia
  rw[List.drop_zero,Nat.sub_zero,FO]
 .rw[pick_run]
def zhL:SlR X ye6:=by
 intro π s σ H x v vl vu lo hi sl Q I rx hs pl pu h;let⟨y,rfl,hz,q⟩:=h;let⟨t,rfl⟩:=rx;rw[<-zd5]at q;refine⟨"str",_,PySem.F.slot_str_getitem.lookup,DW _ _ _,?_⟩;have go:∀l u:Option (Int×GO),vl=partValue l->vu=partValue u->lo=l.map (·.1)->hi=u.map (·.1)->A2 (model X.prog X.w) X.A (getItem (.str y t) (.ref sl)) (EP X π σ Q) X.xe s:=by
  rintro l u rfl rfl rfl rfl
  refine wpAny_getItem_str_slice (l:=l) (u:=u) (st:=AB) hs rfl ?_;exact post_val_or_str ⟨BB (Txt.slice_le y _ _) hz,λt' k=>⟨.str _,H,I.tok k,⟨_,rfl⟩,q⟩⟩
 cases pl with
 |none=>
  cases pu with
  |none=>exact go AB AB rfl rfl rfl rfl
  |int j u=>exact go AB (AA (j,u)) rfl rfl rfl rfl
 |int i t1=>
  cases pu with
  |none=>exact go (AA (i,t1)) AB rfl rfl rfl rfl
  |int j u=>exact go (AA (i,t1)) (AA (j,u)) rfl rfl rfl rfl
def zh6:SlR X (rSl S X):=by
 rintro π s σ H x v vl vu lo hi sl Q I rx hs pl pu ⟨B,φ,st,w,z,rs,rw,e,q⟩
 have e1:∀n o,yci n o=HT.sIx n 0 o:=λn o=>by cases o<;>rfl
 have e2:∀n o,ycZ n o=HT.sIx n n o:=λn o=>by cases o<;>rfl
 cases w with
 |tp k vs=>
  erw[yb5]at e;split at e
  .rename_i c
   cases e
   have rw':=rw;erw[yc]at rw;let⟨p,xs,rfl,rt,l⟩:=rw;refine zfJ π s σ H _ v vl vu lo hi sl Q I rx hs pl pu ⟨p,xs,rfl,rt.sq,?_,q _ H φ .rfl rs rw'⟩;rw[l.length,e1,e2]at c;exact c
  .rename_i c
   cases e
   erw[yc]at rw;let⟨p,xs,rfl,rt,l⟩:=rw;refine zji π s σ H _ v vl vu lo hi sl Q I rx hs pl pu ⟨p,xs,rfl,rt.sq,?_,λt ht=>q _ _ φ (.upd ht) (rs.upd ht) (.tup_new ht rs (l.cut lo hi))⟩;rw[l.length,e1,e2]at c;exact c
 |str y=>
  erw[yb5]at e;split at e
  .rename_i c
   cases e
   erw[yc]at rw;subst rw;refine zhL π s σ H _ v vl vu lo hi sl Q I rx hs pl pu ⟨y,rfl,by rw[<-zi];exact c,?_⟩;have:=q (.str ⟨(cut y.cps.toList lo hi).toArray⟩) H φ .rfl rs (by erw[yc]);rw[cut,e1,e2]at this;exact this
  .cases e
 |lst vs=>
  erw[yb5]at e
  cases e
  erw[yc]at rw;let⟨p,xs,rfl,rt,l⟩:=rw;exact ze9 π s σ H _ v vl vu lo hi sl Q I rx hs pl pu ⟨p,xs,rfl,rt.sq,λt ht=>q _ _ φ (.upd ht) (rs.upd ht) (.lst_new ht rs (l.cut lo hi))⟩
 |scr vs=>
  erw[yb5]at e
  cases e
  erw[yc]at rw;let⟨p,xs,rfl,rt,l⟩:=rw;exact ze9 π s σ H _ v vl vu lo hi sl Q I rx hs pl pu ⟨p,xs,rfl,(by rcases rt with rt|rt;exact .inl rt.1;exact .inr rt),λt ht=>q _ _ φ (.upd ht) (rs.upd ht) (.lst_new ht rs (l.cut lo hi))⟩
 |_=>cases e
def zjE{lo hi:Option AL}(ha:PE X a (tE S X ca))(hl:PO X lo (tO S X cb))(hh:PO X hi (tO S X cc)):PE X (.Subscript a (.Slice lo hi AB p2) pos) (tE S X (.slc ca cb cc)):=
 (zfU zh6 ha hl hh).imp λσ H Q ⟨B,φ,st,ρ,rs,re,h⟩=>by
  erw[ev]at h;have oi:∀{v:PV} {x:V} {o:Option Int} {B φ H},yc X.K S.cl B φ H v x->ybX v=AA o->(x=.non/\o=AB) \/ ∃i,x=.int i/\o=AA i:=λ{v x o B φ H} r e=>by
   cases v with
   |non=>erw[yc]at r;cases e;exact .inl ⟨r,rfl⟩
   |int i=>erw[yc]at r;cases e;exact .inr ⟨i,r,rfl⟩
   |_=>cases e
  refine tE.bind rs re h λx H1 v st1 φ1 s1 rs1 re1 rv h1=>tE.bind rs1 re1 h1 λy H2 w st2 φ2 s2 rs2 re2 rw h2=>?_
  cases eo:ybX w with
  |none=>rw[eo]at h2;exact h2.elim
  |some o1=>
   rw[eo]at h2;have key:tO S X cc σ H2 λu H3=>rSl S X x o1 u H3 Q:=by
    refine tE.bind rs2 re2 h2 λy' H3 w' st3 φ3 s3 rs3 re3 rw' h3=>?_;let⟨z,e,q⟩:=zu h3 rs3;unfold ycC at e
    cases eo':ybX w' with
    |none=>rw[eo']at e;cases e
    |some o2=>
     rw[eo']at e;have fin:rSl S X x o1 o2 H3 Q:=⟨B,φ3,st3,v,z,rs3,(rv.step s2).step s3,e,q⟩;rcases oi rw' eo' with⟨rfl,rfl⟩|⟨i,rfl,rfl⟩
     .exact .inl ⟨rfl,fin⟩
     .exact .inr ⟨i,rfl,fin⟩
   rcases oi rw eo with⟨rfl,rfl⟩|⟨i,rfl,rfl⟩
   .exact .inl ⟨rfl,key⟩
   .exact .inr ⟨i,rfl,key⟩
end
section
variable {S:Se}{X:Cx}{σ:St}{B:AG->Prop}{φ φ1:Ph}{H H1:Hp}{st:SO}{ρ:IC.Env}{p pos p2:BZ}{a b c d:AL}{ca cb cc:Ce}{es:List AL}{ces:Ces}{K:AC}{cl:Nat->AG}
def rB(S:Se)(X:Cx)(k:Blt):List V->Hp->VK->Prop:=λxs H Q=>∃B φ st vs z,yh X.K S.cl B φ H st/\ye X.K S.cl B φ H vs xs/\yah k st vs=AA z /\
 ∀z' H' φ',Step φ H φ' H'->yh X.K S.cl B φ' H' st->yc X.K S.cl B φ' H' z z'->Q z' H'
theorem ye.one{v:PV}{xs:List V}(l:ye K cl B φ H [v] xs):∃x,xs=[x]/\yc K cl B φ H v x:=by
 erw[ye]at l;let⟨y,ys,rfl,r,rfl⟩:=l;exact⟨y,rfl,r⟩
theorem ye.two{v w:PV}{xs:List V}(l:ye K cl B φ H [v,w] xs):∃x y,xs=[x,y]/\yc K cl B φ H v x/\yc K cl B φ H w y:=by
 erw[ye]at l;let⟨y,ys,rfl,r,z,zs,rfl,r2,rfl⟩:=l;exact⟨y,z,rfl,r,r2⟩
def zbc{k:Blt}{st:SO}{vs:List PV}{z:PV}(h:yah k st vs=AA z)(h2:∀x y,yah k st [x,y]=AB):∃x,vs=[x]:=by
 match vs,h with
 |[x],_=>exact⟨x,rfl⟩
 |[x,y],h=>rw[h2]at h;cases h
def zbD{v:PV}{x:V}{vs:List PV}(rs:yh K cl B φ H st)(r:yc K cl B φ H v x)(h:yN st v=AA vs):∃a xs,x=.ref a/\SqL K H a xs/\ye K cl B φ H vs xs:=by
 cases v with
 |lst ws=>
  cases h
  erw[yc]at r;let⟨a,xs,rfl,rt,l⟩:=r;exact⟨a,xs,rfl,rt.sq,l⟩
 |loc n=>
  erw[yN]at h;split at h
  .rename_i ws hw
   cases h
   let⟨a,xs,rfl,_,hx,l⟩:=rs.list r hw;exact⟨a,xs,rfl,.of hx,l⟩
  .cases h
 |_=>cases h
def zeS{v:PV}{x:V}{vs:List PV}(rs:yh K cl B φ H st)(r:yc K cl B φ H v x)(h:yad st v=AA vs):∃a xs,x=.ref a/\(SqL K H a xs \/ SqT K H a xs)/\ye K cl B φ H vs xs:=by
 cases v with
 |tp k ws=>
  cases h
  erw[yc]at r;let⟨a,xs,rfl,rt,l⟩:=r;exact⟨a,xs,rfl,.inr rt.sq,l⟩
 |lst ws=>
  let⟨a,xs,e,q,l⟩:=zbD rs r (vs:=vs) h;exact⟨a,xs,e,.inl q,l⟩
 |loc n=>
  let⟨a,xs,e,q,l⟩:=zbD rs r (vs:=vs) h;exact⟨a,xs,e,.inl q,l⟩
 |_=>cases h
def ziE:yV X (.builtin "len") (rB S X .len):=by
 rintro π s σ H xs us Q I r ⟨B,φ,st,vs,z,rs,l,e,q⟩
 let⟨v,rfl⟩:=zbc e λ_ _=>rfl;let⟨x,rfl,rv⟩:=l.one;erw[yah,lenV]at e;split at e
 .rename_i t;split at e
  .rename_i c
   cases e
   erw[yc]at rv;subst rv;exact zbw π s σ H _ us Q I r ⟨t,rfl,by rw[<-zi];exact c,q _ H φ .rfl rs (by erw[yc])⟩
  .cases e
 .cases e1:yad st v with
  |none=>rw[e1]at e;cases e
  |some ws=>
   rw[e1]at e
   cases e
   let⟨a,ys,rfl,h,l⟩:=zeS rs rv e1;refine zbO π s σ H _ us Q I r ⟨a,ys,rfl,?_,q _ H φ .rfl rs (by erw[yc];rw[l.length])⟩;exact h
def zjz:yV X (.type "int") (rB S X .int):=by
 rintro π s σ H xs us Q I r ⟨B,φ,st,vs,z,rs,l,e,q⟩
 let⟨v,rfl⟩:=zbc e λ_ _=>rfl;let⟨x,rfl,rv⟩:=l.one;erw[yah]at e
 cases v with
 |int i=>
  cases e
  erw[yc]at rv;subst rv;exact zbR π s σ H _ us Q I r (.inl ⟨i,rfl,q _ H φ .rfl rs (by erw[yc])⟩)
 |bl k=>
  cases e
  erw[yc]at rv;subst rv;exact zbR π s σ H _ us Q I r (.inr ⟨k,rfl,q _ H φ .rfl rs (by erw[yc,bi])⟩)
 |_=>cases e
def zhw{k:Blt}{st:SO}{vs:List PV}{z:PV}(h:yah k st vs=AA z)(h2:∀x,yah k st [x]=AB):∃x y,vs=[x,y]:=by
 match vs,h with
 |[x,y],_=>exact⟨x,y,rfl⟩
 |[x],h=>rw[h2]at h;cases h
def zjf(hc:X.calm=AD):yV X (.builtin "min") (rB S X .min):=by
 rintro π s σ H xs us Q I r ⟨B,φ,st,vs,z,rs,l,e,q⟩
 let⟨v,w,rfl⟩:=zhw e λ_=>rfl;let⟨x,y,rfl,rv,rw⟩:=l.two;erw[yah,yew]at e;split at e
 .cases e
  erw[yc]at rv rw;subst rv rw;exact zdQ hc π s σ H _ us Q I r ⟨_,_,rfl,q _ H φ .rfl rs (by erw[yc])⟩
 .cases e
theorem ye.ints:∀{ns:List Int} {xs:List V},ye K cl B φ H (ns.map .int) xs->xs=ns.map V.int
 |[],xs,h=>by simpa only[CD,ye] using h
 |n::ns,xs,h=>by
  erw[AS,ye]at h;let⟨y,ys,rfl,r,l⟩:=h;erw[yc]at r;rw[r,ye.ints l];rfl
def zfO:yV X (.type "tuple") (rB S X .tuple):=by
 rintro π s σ H xs us Q I r ⟨B,φ,st,vs,z,rs,l,e,q⟩
 let⟨v,rfl⟩:=zbc e λ_ _=>rfl;let⟨x,rfl,rv⟩:=l.one;erw[yah,yee]at e;split at e
 .cases e
  erw[yc]at rv;let⟨a,ys,rfl,rt,l⟩:=rv;exact z7 π s σ H _ us Q I r ⟨a,ys,rfl,.inr ⟨rt.sq,q _ H φ .rfl rs (by erw[yc];exact⟨a,ys,rfl,rt,l⟩)⟩⟩
 .cases e1:yN st v with
  |none=>rw[e1]at e;cases e
  |some ws=>
   rw[e1]at e
   cases e
   let⟨a,ys,rfl,h,l⟩:=zbD rs rv e1;exact z7 π s σ H _ us Q I r ⟨a,ys,rfl,.inl ⟨h,λt ht=>q _ _ φ (.upd ht) (rs.upd ht) (.tup_new ht rs l)⟩⟩
def zh7:yV X (.type "list") (rB S X .list):=by
 rintro π s σ H xs us Q I r ⟨B,φ,st,vs,z,rs,l,e,q⟩
 let⟨v,rfl⟩:=zbc e λ_ _=>rfl;let⟨x,rfl,rv⟩:=l.one;erw[yah]at e
 cases e1:yad st v with
 |none=>rw[e1]at e;cases e
 |some ws=>
  rw[e1]at e
  cases e
  let⟨a,ys,rfl,h,l⟩:=zeS rs rv e1;refine zbP π s σ H _ us Q I r ⟨a,ys,rfl,?_,λt ht=>q _ _ φ (.upd ht) (rs.upd ht) (.lst_new ht rs l)⟩;exact h
variable {x:AM}{id T:String}{k:Blt}
def ziy(hc:yV X (.builtin id) (rB S X k))(hg:Gl X x)(hm:X.mg x=AB)(hv:bootBuiltins x=AA (.builtin id))(ha:PA X (a::es) (tAs S X ces))(hn:x ≠ "__name__":=by decide)(hdb:(x==("__debug__":AM))=false:=by decide)
  (he:starEach (a::es) X.env=(AF,eval a X.env)::starEach es X.env:=by rfl) (hpl:(backTo pos (starEach es X.env)).any (·.1)=false:=by rfl):PE X (.Call (.Name x p) (a::es) [] pos) (tE S X (.blt k ces)):=
 (zc3 hc hg hm hv ha hn hdb he hpl).imp λσ H Q ⟨B,φ,st,ρ,rs,re,h⟩=>by
  erw[ev]at h;refine tAs.bind rs re h λxs H1 vs st1 φ1 s1 rs1 re1 rv h1=>?_;let⟨z,e,q⟩:=zu h1 rs1;exact⟨B,φ1,st1,vs,z,rs1,rv,e,q⟩
def zh5(hc:yV X (.type T) (rB S X k))(hg:Gl X x)(hm:X.mg x=AB)(hv:bootBuiltins x=AA (.type T))(ha:PA X (a::es) (tAs S X ces))(hn:x ≠ "__name__":=by decide)(hdb:(x==("__debug__":AM))=false:=by decide)
  (he:starEach (a::es) X.env=(AF,eval a X.env)::starEach es X.env:=by rfl) (hpl:(backTo pos (starEach es X.env)).any (·.1)=false:=by rfl):PE X (.Call (.Name x p) (a::es) [] pos) (tE S X (.blt k ces)):=
 (zes hc hg hm hv ha hn hdb he hpl).imp λσ H Q ⟨B,φ,st,ρ,rs,re,h⟩=>by
  erw[ev]at h;refine tAs.bind rs re h λxs H1 vs st1 φ1 s1 rs1 re1 rv h1=>?_;let⟨z,e,q⟩:=zu h1 rs1;exact⟨B,φ1,st1,vs,z,rs1,rv,e,q⟩
end
section
variable {S:Se}{X:Cx}{σ:St}{B:AG->Prop}{φ φ1:Ph}{H H1:Hp}{st:SO}{ρ:IC.Env}{p pos p2 apos:BZ}{a b c d:AL}{ca cb cc:Ce}{es:List AL}{ces:Ces}{K:AC}{cl:Nat->AG}
theorem Step.put{l:AG}{u:HO}(hl:AA l∈φ):Step φ H φ (L2.upd H l u):=
 ⟨λb o n e=>by rw[zc (show b≠l from λz=>n (by rw[z];exact hl))];exact e,AN _,λ_ _ _ e=>e,λ_ h=>.inl h⟩
theorem yh.put{n:Nat}{l:AG}{u:HO}{o:Ob}(rs:yh K cl B φ H st)(hn:φ[n]?=AA (AA l))(ho:ybx K cl B φ (L2.upd H l u) o l):yh K cl B φ (L2.upd H l u) (st.set n o):=by
 have hm:AA l∈φ:=A7 hn;have s:Step φ H φ (L2.upd H l u):=.put hm;have hlt:n<st.length:=by rw[<-rs.len];exact(Af.mp hn).1
 refine⟨by rw[BE];exact rs.len,rs.inj,λm a e=>?_,λm o' e ho'=>?_,rs.nb,λa h=>?_,λa h xs e=>?_⟩
 .by_cases hmn:m=n
  .subst hmn;rw[hn]at e;cases e;exact⟨o,by rw[Aw hlt],ho⟩
  .let⟨o',q,r⟩:=rs.obj m a e;refine⟨o',by rw[Ai (Bl hmn)];exact q,r.step s ?_⟩;rw[zc]
   rintro rfl
   exact hmn (rs.inj m n a e hn)
 .by_cases hmn:m=n
  .subst hmn;exact⟨l,hn⟩
  .rw[Ai (Bl hmn)]at e;exact rs.liv m o' e ho'
 .let⟨w,e⟩:=rs.dom a h
  by_cases z:a=l
  .subst z;exact⟨u,zf⟩
  .exact⟨w,by rw[zc z];exact e⟩
 .have z:a≠l:=λz=>rs.nb l hm (z ▸ h);rw[zc z]at e;exact rs.nt a h xs e
def zhU{m:Mth}{v:PV}{st:SO}{α β:Type}{Rel:Ph->Hp->α->β->Prop}{k:Bool->R α}{Q:β->Hp->Prop}(h:Run S X σ B φ H Rel (onO (yba m st v) k) Q):∃b,yba m st v=AA b/\Run S X σ B φ H Rel (k b) Q:=by
 cases e:yba m st v with
 |none=>rw[e]at h;exact h.elim
 |some z=>rw[e]at h;exact⟨z,rfl,h⟩
end
section
variable (S:Se)(X:Cx)
def yW(B:AG->Prop)(φ:Ph)(H:Hp)(f:Fl)(D:Ends):Prop:=
 match f with
 |.nx ρ' st'=>∀σ' H' φ',Step φ H φ' H'->yh X.K S.cl B φ' H' st'->yp X.K S.cl B φ' H' ρ' σ'->D.nx σ' H'
 |.rt v st'=>∀x H' φ',Step φ H φ' H'->yh X.K S.cl B φ' H' st'->yc X.K S.cl B φ' H' v x->D.rt x H'
 |.bk ρ' st'=>∀σ' H' φ',Step φ H φ' H'->yh X.K S.cl B φ' H' st'->yp X.K S.cl B φ' H' ρ' σ'->D.bk σ' H'
 |.ct ρ' st'=>∀σ' H' φ',Step φ H φ' H'->yh X.K S.cl B φ' H' st'->yp X.K S.cl B φ' H' ρ' σ'->D.ct σ' H'
 |.exc k ρ' st'=>∀σ' φ1 H1 e s',Step φ H φ1 H1->yp X.K S.cl B φ1 H1 ρ' σ'->ExcAt S X σ' B φ1 H1 k st' e s'->X.xe e s'
 |.bad=>False
def tS(c:Cs):TS:=λD σ H=>∃B φ st ρ,yh X.K S.cl B φ H st/\yp X.K S.cl B φ H ρ σ/\yW S X B φ H (ex S.call ρ st c) D
def tSs(c:Css):TS:=λD σ H=>∃B φ st ρ,yh X.K S.cl B φ H st/\yp X.K S.cl B φ H ρ σ/\yW S X B φ H (exs S.call ρ st c) D
end
section
variable {S:Se}{X:Cx}{σ:St}{B:AG->Prop}{φ φ1:Ph}{H H1:Hp}{st:SO}{ρ:IC.Env}{D:Ends}{pos p2 px:BZ}{a b c o:AL}{ca cb cc:Ce}{s1:B7}{ss ss':List B7}{c1:Cs}{cs cs':Css}
theorem yW.on{f:Fl}(s:Step φ H φ1 H1)(h:yW S X B φ H f D):yW S X B φ1 H1 f D:=by
 cases f with
 |nx ρ st=>exact λσ' H' φ' t=>h σ' H' φ' (s.trans t)
 |rt ρ st=>exact λσ' H' φ' t=>h σ' H' φ' (s.trans t)
 |bk ρ st=>exact λσ' H' φ' t=>h σ' H' φ' (s.trans t)
 |ct ρ st=>exact λσ' H' φ' t=>h σ' H' φ' (s.trans t)
 |exc k ρ st=>exact λσ' φ2 H2 e s' t=>h σ' φ2 H2 e s' (s.trans t)
 |bad=>exact h
theorem tE.fl{k:PV->SO->Fl}{P:V->Hp->Prop}(rs:yh X.K S.cl B φ H st)(re:yp X.K S.cl B φ H ρ σ)(h:yW S X B φ H ((ev S.call ρ st ca).fl ρ k) D)
  (n:∀x H1 v st1 φ1,Step φ H φ1 H1->yh X.K S.cl B φ1 H1 st1->yp X.K S.cl B φ1 H1 ρ σ->yc X.K S.cl B φ1 H1 v x->yW S X B φ1 H1 (k v st1) D->P x H1):tE S X ca σ H P:=by
 refine⟨B,φ,st,ρ,rs,re,?_⟩
 cases e:ev S.call ρ st ca with
 |ok v st'=>
  rw[e]at h;exact λx H' φ' s rs' rv=>n x H' v st' φ' s rs' (re.step s) rv (h.on s)
 |exc k st'=>
  rw[e]at h;exact λe s' x=>h σ φ H e s' .rfl re x
 |bad=>rw[e]at h;exact h
theorem PS.imp{t t':TS}(h:PS X s1 t')(k:∀D σ H,t D σ H->t' D σ H):PS X s1 t:=λπ s σ H D I q=>h π s σ H D I (k D σ H q)
theorem PSs.imp{t t':TS}(h:PSs X ss t')(k:∀D σ H,t D σ H->t' D σ H):PSs X ss t:=λπ s σ H D I q=>h π s σ H D I (k D σ H q)
theorem yp.set{K:AC}{cl:Nat->AG}(r:yp K cl B φ H ρ σ)(i:Nat){v:PV}{x:V}(rv:yc K cl B φ H v x):yp K cl B φ H (ρ.set i (AA v)) (σ.set i (AA x)):=by
 refine⟨by rw[BE,BE];exact r.len,λj w e=>?_⟩
 by_cases h:j=i
 .subst h
  by_cases hl:j<ρ.length
  .rw[Aw hl]at e
   cases e
   exact⟨x,by rw[Aw (by rw[<-r.len];exact hl)],rv⟩
  .rw[An (by rw[BE];lia)]at e
   cases e
 .rw[Ai (Bl h)]at e ⊢;exact r.get j w e
def zjN:PSs X [] (tSs S X .nil):=zkX.imp λD σ H ⟨B,φ,st,ρ,rs,re,h⟩=>by
 erw[exs]at h;exact h σ H φ .rfl rs re
def zht(h1:PS X s1 (tS S X c1))(h2:PSs X ss (tSs S X cs)):PSs X (s1::ss) (tSs S X (.cons c1 cs)):=
 (zcN h1 h2).imp λD σ H ⟨B,φ,st,ρ,rs,re,h⟩=>by
  erw[exs]at h;refine⟨B,φ,st,ρ,rs,re,?_⟩
  cases e:ex S.call ρ st c1 with
  |nx ρ1 st1=>
   rw[e]at h;exact λσ' H' φ' s rs' re'=>⟨B,φ',st1,ρ1,rs',re',h.on s⟩
  |rt v st1=>rw[e]at h;exact h
  |bk ρ1 st1=>rw[e]at h;exact h
  |ct ρ1 st1=>rw[e]at h;exact h
  |exc k ρ1 st1=>rw[e]at h;exact h
  |bad=>rw[e]at h;exact h
def zhX(he:PE X a (tE S X ca))(hs:swapsWith a AB pos.line X.env=pure false:=by rfl):PS X (.Expr a pos) (tS S X (.expr ca)):=
 (zh1 he hs).imp λD σ H ⟨B,φ,st,ρ,rs,re,h⟩=>by
  erw[ex]at h;exact tE.fl rs re h λx H1 v st1 φ1 s rs1 re1 rv h1=>h1 σ H1 φ1 .rfl rs1 re1
def zjU(he:PE X a (tE S X ca)):PS X (.Return (AA a) pos) (tS S X (.ret ca)):=
 (zgI he).imp λD σ H ⟨B,φ,st,ρ,rs,re,h⟩=>by
  erw[ex]at h;exact tE.fl rs re h λx H1 v st1 φ1 s rs1 re1 rv h1=>h1 x H1 φ1 .rfl rs1 rv
def zhZ:PS X (.Return AB pos) (tS S X (.ret (.cst .non))):=
 zkY.imp λD σ H ⟨B,φ,st,ρ,rs,re,h⟩=>by
  erw[ex,ev,R.fl]at h;exact h .non H φ .rfl rs (by erw[yc])
def zii{i:Nat}{x:AM}(hN:X.N.Nodup)(hi:X.N[i]?=AA x)(hx:Loc X.env.scope x)(he:PE X a (tE S X ca))(hs:swapsWith a (AA (.Name x px)) pos.line X.env=pure false:=by rfl)
  (hf:X.fn x=AD \/ X.env.scope.names.lookup x=AA .local:=by first|exact .inl rfl|exact .inr rfl|assumption):PS X (.Assign [.Name x px] a pos) (tS S X (.asg (.n i) ca)):=
 (zgB hN hi hx he hs hf).imp λD σ H ⟨B,φ,st,ρ,rs,re,h⟩=>by
  erw[ex]at h;exact tE.fl rs re h λx H1 v st1 φ1 s rs1 re1 rv h1=>h1 _ H1 φ1 .rfl rs1 (re1.set i rv)
theorem flT(r:R PV)(f:Bool->SO->Fl):(r.fl ρ λx st1=>onF (yar st1 x) λk=>f k st1)=(yaA r).fl ρ f:=by
 cases r with
 |ok v s=>
  erw[R.fl,yaA,R.bind]
  cases yar s v<;>rfl
 |exc c s=>rfl
 |bad=>rfl
theorem tTs.fl{k:Bool->SO->Fl}{P:Bool->Hp->Prop}(rs:yh X.K S.cl B φ H st)(re:yp X.K S.cl B φ H ρ σ)(h:yW S X B φ H ((yaA (ev S.call ρ st ca)).fl ρ k) D)
  (n:∀b H1 st1 φ1,Step φ H φ1 H1->yh X.K S.cl B φ1 H1 st1->yp X.K S.cl B φ1 H1 ρ σ->yW S X B φ1 H1 (k b st1) D->P b H1):tTs S X ca σ H P:=by
 refine⟨B,φ,st,ρ,rs,re,?_⟩
 cases e:yaA (ev S.call ρ st ca)with
 |ok v st'=>
  rw[e]at h;exact λx H' φ' s rs' rv=>by
   subst rv;exact n v H' st' φ' s rs' (re.step s) (h.on s)
 |exc k st'=>
  rw[e]at h;exact λe s' x=>h σ φ H e s' .rfl re x
 |bad=>rw[e]at h;exact h
def zkl(hc:PT X c (tTs S X cc))(ha:PSs X ss (tSs S X cs))(hb:PSs X ss' (tSs S X cs')):PS X (.If c ss ss' pos) (tS S X (.ite cc cs cs')):=
 (zks hc ha hb).imp λD σ H ⟨B,φ,st,ρ,rs,re,h⟩=>by
  erw[ex]at h;rw[flT _ λk st1=>cond k (exs S.call ρ st1 cs) (exs S.call ρ st1 cs')]at h;refine tTs.fl rs re h λk H1 st1 φ1 s rs1 re1 h1=>?_
  cases k with
  |true=>exact⟨B,φ1,st1,ρ,rs1,re1,h1⟩
  |false=>exact⟨B,φ1,st1,ρ,rs1,re1,h1⟩
def zik{i:Nat}{x:AM}{op:De}{bo:BOp}(hN:X.N.Nodup)(hi:X.N[i]?=AA x)(hx:Loc X.env.scope x)(he:PE X a (tE S X ca))(ho:PIp X op (rT2 S X (ybd bo)))
  (hf:X.fn x=AD \/ X.env.scope.names.lookup x=AA .local:=by first|exact .inl rfl|exact .inr rfl|assumption) (hd:(x==("__debug__":AM))=false:=by decide) (hcd:(x==("__classdict__":AM))=false:=by decide):PS X (.AugAssign (.Name x px) op a pos) (tS S X (.aug i bo ca)):=
 (zju hN hi hx he ho hf).imp λD σ H ⟨B,φ,st,ρ,rs,re,h⟩=>by
  erw[ex]at h
  cases q:ρ[i]? with
  |none=>rw[q]at h;exact h.elim
  |some w=>
   cases w with
   |none=>rw[q]at h;exact h.elim
   |some w=>
    rw[q]at h;let⟨y,hy,rw⟩:=re.get i w q;refine⟨y,hy,tE.fl rs re h λz H1 v st1 φ1 s rs1 re1 rv h1=>?_⟩
    cases e:ybd bo w v with
    |none=>rw[e]at h1;exact h1.elim
    |some u=>
     rw[e]at h1;exact⟨B,φ1,st1,w,v,u,rs1,rw.step s,rv,e,λz' H' φ' s' rs' rz=>h1 _ H' φ' s' rs' ((re1.step s').set i rz)⟩
end
section
variable (S:Se)(X:Cx)
structure Drw(B:AG->Prop)(φ0:Ph)(H0:Hp)(xs:List PV)(J:It):Prop where
 stop:∀φ H,Step φ0 H0 φ H->J.stop xs.length H
 go:∀(i:Nat) φ H,Step φ0 H0 φ H->i<xs.length->J.go i H
 yld:∀(i:Nat) φ H st x H' (B':AG->Prop),(∀y,B' y->B y \/ H0 y=AB)->Step φ0 H0 φ H->yh X.K S.cl B' φ H st->i<xs.length->J.yld i H x H'->∃v,xs[i]?=AA v/\yc X.K S.cl B' φ H' v x/\∀b o,H b=AA o->H' b=AA o
abbrev RD(B:AG->Prop):Ph->Hp->List PV->It->Prop:=λφ H=>Drw S X B φ H
def tI(c:Cit):TI:=λσ H R=>∃B φ st ρ,yh X.K S.cl B φ H st/\yp X.K S.cl B φ H ρ σ/\Run S X σ B φ H (RD S X B) (evi S.call ρ st c) R
end
section
variable {S:Se}{X:Cx}{σ:St}{B:AG->Prop}{φ φ1:Ph}{H H1:Hp}{st:SO}{ρ:IC.Env}{D:Ends}{pos p p2 px:BZ}{a b c o tg l:AL}{ca cb cc:Ce}{es:List AL}{ces:Ces}{ss:List B7}{cs:Css}{ci:Cit}{ct:Tg}
theorem PI.imp{t t':TI}(h:PI X tg l t')(k:∀σ H R,t σ H R->t' σ H R):PI X tg l t:=λπ s σ H R I q=>h π s σ H R I (k σ H R q)
def ze1{tl:TE}(hl:PE X l tl):PI X tg l (λσ H R=>tl σ H λx H1=>∃a,x=.ref a/\(((∃xs,SqL X.K H1 a xs)/\R (Itl X.K a) H1) \/ ((∃xs,SqT X.K H1 a xs)/\R (Itt X.K a) H1))):=by
 intro π s σ H R I h;refine thn (hl π s σ H _ I h) λv s1 kq=>?_;let⟨x,H1,I1,r1,q1⟩:=kq;let⟨a,e,q1⟩:=q1;subst e
 cases r1
 rcases q1 with⟨⟨xs,hq⟩,q⟩|⟨⟨xs,hq⟩,q⟩
 .let⟨its,rv,p,hz⟩:=I1.list hq;refine wpAny_pyIter_list p.isList ?_;refine⟨s1.heap.objs.size,[s1.heap.objs.size],_,_,H1,rfl,I1.kept (t':=s1.toks) λb o e=>AR _ e,zdG a _,⟨_,A6 _ rfl,rfl,rfl⟩,λb hb=>?_,q⟩;have e:b=s1.heap.objs.size:=by simpa using hb
  subst e;exact I1.fpOk (AN _) (I1.hok.fresh (AN _))
 .let⟨its,rv,p,hz⟩:=I1.tuple hq;refine C6 (show s1.heap.IsTuple a its.toArray from p) ?_;refine⟨s1.heap.objs.size,[s1.heap.objs.size],_,_,H1,rfl,I1.kept (t':=s1.toks) λb o e=>AR _ e,zdn a _,⟨_,A6 _ rfl,rfl,rfl⟩,λb hb=>?_,q⟩;have e:b=s1.heap.objs.size:=by simpa using hb
  subst e;exact I1.fpOk (AN _) (I1.hok.fresh (AN _))
def zb7{k:Bool}{vs:List PV}{xs:List V}{y:AG}(rt:ybq X.K B φ H k y xs)(l:ye X.K S.cl B φ H vs xs):Drw S X B φ H vs (Itt X.K y):=by
 have hl:=l.length;refine⟨λφ' H' s=>⟨xs,(rt.step s).sq,by lia⟩,λi φ' H' s hi=>⟨xs,xs[i]'∅,(rt.step s).sq,by simp[show i<xs.length by lia]⟩,λi φ' H' st x H2 B' hB s rs hi q=>?_⟩;let⟨rfl,q⟩:=q;obtain⟨v,hv⟩:∃v,vs[i]?=AA v:=⟨vs[i],by simp[hi]⟩;let⟨x',hx',rv⟩:=l.get i hv;have:=q xs (rt.step s).sq;rw[this]at hx'
 cases hx'
 exact⟨v,hv,(rv.moreB hB).step s,λ_ _ e=>e⟩
def zcd{vs:List PV}{xs:List V}{y:AG}(rt:yby B φ H y xs)(l:ye X.K S.cl B φ H vs xs):Drw S X B φ H vs (Itl X.K y):=by
 have hl:=l.length;refine⟨λφ' H' s=>⟨xs,(rt.step s).sq,by lia⟩,λi φ' H' s hi=>⟨xs,xs[i]'∅,(rt.step s).sq,by simp[show i<xs.length by lia]⟩,λi φ' H' st x H2 B' hB s rs hi q=>?_⟩;let⟨rfl,q⟩:=q;obtain⟨v,hv⟩:∃v,vs[i]?=AA v:=⟨vs[i],by simp[hi]⟩;let⟨x',hx',rv⟩:=l.get i hv;have:=q xs (rt.step s).sq;rw[this]at hx'
 cases hx'
 exact⟨v,hv,(rv.moreB hB).step s,λ_ _ e=>e⟩
def zjA(hl:PE X l (tE S X ca)):PI X tg l (tI S X (.seq ca)):=
 (ze1 hl).imp λσ H R ⟨B,φ,st,ρ,rs,re,h⟩=>by
  erw[evi]at h;refine tE.bind rs re h λx H1 v st1 φ1 s1 rs1 re1 rv h1=>?_
  cases v with
  |tp k vs=>
   erw[yc]at rv;let⟨y,xs,rfl,rt,l⟩:=rv;exact⟨y,rfl,.inr ⟨⟨xs,rt.sq⟩,h1.ok rs1 (zb7 rt l)⟩⟩
  |lst vs=>
   erw[yc]at rv;let⟨y,xs,rfl,rt,l⟩:=rv;exact⟨y,rfl,.inl ⟨⟨xs,rt.sq⟩,h1.ok rs1 (zcd rt l)⟩⟩
  |_=>exact h1.elim
def za0:∀(n:Nat) (lo d:Int) (i:Nat),(yu n lo d)[i]?=if i<n then AA (.int (lo+i*d))else AB
 |0,lo,d,i=>by simp[yu]
 |n+1,lo,d,0=>by simp[yu]
 |n+1,lo,d,i+1=>by
  erw[yu,Ac];rw[za0 n (lo+d) d i]
  by_cases h:i<n
  .rw[if_pos h,if_pos ∅,Int.natCast_succ,Int.add_mul,Int.one_mul,Fi,Int.add_comm d]
  .rw[if_neg h,if_neg ∅]
def zU:∀(n:Nat) (lo d:Int),(yu n lo d).length=n
 |0,lo,d=>rfl
 |n+1,lo,d=>by simp[yu,zU n]
def zbs{lo:Int}{n:Nat}:Drw S X B φ H (yu n lo 1) (Itr lo n):=by
 refine⟨λφ' H' s=>by rw[zU];exact AN _,λi φ' H' s hi=>by rw[zU]at hi;exact hi,λi φ' H' st x H2 B' hB s rs hi q=>?_⟩;rw[zU]at hi;let⟨rfl,rfl⟩:=q;refine⟨.int (lo+i),?_,by erw[yc],λ_ _ e=>e⟩;rw[za0,if_pos hi,GH]
def zhV{o:Option (List PV)}{st:SO}{Q:It->Hp->Prop}(h:Run S X σ B φ H (RD S X B) (toL o st) Q):∃xs,o=AA xs/\Run S X σ B φ H (RD S X B) (.ok xs st) Q:=by
 cases o with
 |none=>exact h.elim
 |some z=>exact⟨z,rfl,h⟩
def zem(hg:Gl X "range")(hm:X.mg "range"=AB)(ha:PE X a (tE S X ca))(hs:starEach [a] X.env=[(AF,eval a X.env)]:=by rfl):PI X tg (.Call (.Name "range" p) [a] [] pos) (tI S X (.range1 ca)):=
 (zbt hg hm (zX ha zkF hs) hs).imp λσ H R ⟨B,φ,st,ρ,rs,re,h⟩=>by
  erw[evi]at h;refine tE.bind rs re h λx H1 v st1 φ1 s1 rs1 re1 rv h1=>?_;let⟨xs,e,h1⟩:=zhV h1
  cases v with
  |int j=>
   erw[ybS]at e;split at e
   .cases e
    erw[yc]at rv;subst rv;exact⟨j,rfl,by lia,by lia,h1.ok rs1 zbs⟩
   .cases e
  |_=>cases e
def zaF:∀(xs:List PV) (k i:Nat),(yR k xs)[i]?=(xs[i]?).map λx=>.tup [.int ((k+i:Nat):Int),x]
 |[],k,i=>by simp[yR]
 |x::xs,k,0=>by simp[yR]
 |x::xs,k,i+1=>by
  erw[yR,Ac];rw[zaF xs (k+1) i];have:k+1+i=k+(i+1):=by lia
  rw[this]
def zaK:∀(xs:List PV) (k:Nat),(yR k xs).length=xs.length
 |[],k=>rfl
 |x::xs,k=>by simp[yR,zaK xs]
def zfp{k:Bool}{vs:List PV}{xs:List V}{y:AG}(rt:ybq X.K B φ H k y xs)(l:ye X.K S.cl B φ H vs xs):Drw S X B φ H (yR 0 vs) (Ite X.K y):=by
 have hl:=l.length;have hp:=zaK vs 0;refine⟨λφ' H' s=>⟨xs,(rt.step s).sq,by lia⟩,λi φ' H' s hi=>⟨xs,xs[i]'∅,(rt.step s).sq,by simp[show i<xs.length by lia]⟩,λi φ' H' st x H2 B' hB s rs hi q=>?_⟩;let⟨T,hT,rfl,q⟩:=q;obtain⟨v,hv⟩:∃v,vs[i]?=AA v:=⟨vs[i]'∅,by simp[show i<vs.length by lia]⟩;let⟨x',hx',rv⟩:=l.get i hv;have e:=q xs x' (rt.step s).sq hx';subst e;refine⟨.tup [.int i,v],?_,.tup_new hT rs ?_,λb o e=>by rw[zc (ze e hT)];exact e⟩
 .rw[zaF,hv];simp
 .simp only[ye,yc];exact⟨_,_,rfl,rfl,x',[],rfl,(rv.moreB hB).step s,rfl⟩
def zho{es:List AL}{kk:Nat}{tp:BZ}(hg:Gl X "enumerate")(hm:X.mg "enumerate"=AB)(ha:PE X a (tE S X ca))(hs:starEach [a] X.env=[(AF,eval a X.env)]:=by rfl):
  PI X (.Tuple es kk tp) (.Call (.Name "enumerate" p) [a] [] pos) (tI S X (.enum ca)):=
 (zfs hg hm (zX ha zkF hs) hs).imp λσ H R ⟨B,φ,st,ρ,rs,re,h⟩=>by
  erw[evi]at h;refine tE.bind rs re h λx H1 v st1 φ1 s1 rs1 re1 rv h1=>?_
  cases v with
  |tp k vs=>
   erw[yc]at rv;let⟨y,xs,rfl,rt,l⟩:=rv;exact⟨y,rfl,⟨xs,rt.sq⟩,h1.ok rs1 (zfp rt l)⟩
  |_=>exact h1.elim
def tG(S:Se)(X:Cx)(t:Tg):TG:=λv σ H Q=>∃B φ st ρ w ρ',yh X.K S.cl B φ H st/\yp X.K S.cl B φ H ρ σ/\yc X.K S.cl B φ H w v/\yo t w ρ=AA ρ'/\∀σ',yp X.K S.cl B φ H ρ' σ'->Q σ' H
theorem PG.imp{t t':TG}(h:PG X tg t')(k:∀v σ H Q,t v σ H Q->t' v σ H Q):PG X tg t:=λπ s σ H v u Q I rv q=>h π s σ H v u Q I rv (k v σ H Q q)
def zd3{i:Nat}{x:AM}(hN:X.N.Nodup)(hi:X.N[i]?=AA x)(hx:Loc X.env.scope x)(hf:X.fn x=AD \/ X.env.scope.names.lookup x=AA .local:=by first|exact .inl rfl|exact .inr rfl|assumption):PG X (.Name x pos) (tG S X (.n i)):=
 (zef hN hi hx hf).imp λv σ H Q ⟨B,φ,st,ρ,w,ρ',rs,re,rv,e,q⟩=>by
  cases e
  exact q _ (re.set i rv)
def gNs(l:List Nat):TGs:=λvs σ H Q=>vs.length=l.length/\Q ((l.zip vs).foldl (λσ p=>σ.set p.1 (AA p.2)) σ) H
theorem PGs.imp{es:List AL}{t t':TGs}(h:PGs X es t')(k:∀v σ H Q,t v σ H Q->t' v σ H Q):PGs X es t:=λπ s σ H vs us Q I rv q=>h π s σ H vs us Q I rv (k vs σ H Q q)
def zdO:PGs X [] (gNs []):=zkZ.imp λvs σ H Q ⟨h,q⟩=>by
 cases vs with
 |nil=>exact⟨rfl,q⟩
 |cons _ _=>cases h
def zcD{es:List AL}{l:List Nat}{i:Nat}{x:AM}(hN:X.N.Nodup)(hi:X.N[i]?=AA x)(hx:Loc X.env.scope x)(h2:PGs X es (gNs l))(hf:X.fn x=AD \/ X.env.scope.names.lookup x=AA .local:=by first|exact .inl rfl|exact .inr rfl|assumption):PGs X (.Name x pos::es) (gNs (i::l)):=
 (zfN (zef hN hi hx hf) h2).imp λvs σ H Q ⟨h,q⟩=>by
  cases vs with
  |nil=>cases h
  |cons v vs=>exact⟨v,vs,rfl,by simpa using h,q⟩
theorem yp.sets{K:AC}{cl:Nat->AG}:∀(l:List Nat) {vs:List PV} {xs:List V} {ρ:IC.Env} {σ:St},yp K cl B φ H ρ σ->ye K cl B φ H vs xs ->
  yp K cl B φ H ((l.zip vs).foldl (λρ p=>ρ.set p.1 (AA p.2)) ρ) ((l.zip xs).foldl (λσ p=>σ.set p.1 (AA p.2)) σ)
 |[],vs,xs,ρ,σ,re,l=>by simpa using re
 |i::is,[],xs,ρ,σ,re,l=>by
  erw[ye]at l;subst l;simpa using re
 |i::is,v::vs,xs,ρ,σ,re,l=>by
  erw[ye]at l;let⟨y,ys,rfl,r,l⟩:=l;erw[C7,C2];exact yp.sets is (re.set i r) l
def zgj{es:List AL}{l:List Nat}{k:Nat}(hc:X.calm=AD)(h:PGs X es (gNs l))(hn:(assignEach es X.env).length=l.length:=by rfl)(hst:(assignEach es X.env).findIdx? (·.1)=none:=by rfl):PG X (.Tuple es k pos) (tG S X (.t l)):=
 (zjP hc h hn hst).imp λv σ H Q ⟨B,φ,st,ρ,w,ρ',rs,re,rv,e,q⟩=>by
  cases w with
  |tp kk vs=>
   erw[yo]at e;split at e
   .rename_i c
    cases e
    erw[yc]at rv;let⟨y,xs,rfl,rt,lr⟩:=rv;have hl:=lr.length;exact⟨y,xs,rfl,rt.sq,by lia,by lia,q _ (yp.sets l re lr)⟩
   .cases e
  |_=>cases e
def zhp{es:List AL}{l:List Nat}{k:Nat}(he:PE X a (tE S X ca))(hg:PG X (.Tuple es k p2) (tG S X (.t l)))(hs:swapsWithSole [.Tuple es k p2] a pos.line X.env=pure false:=by rfl)(hw:swappedStores [.Tuple es k p2] a X.env=pure none:=by rfl):
  PS X (.Assign [.Tuple es k p2] a pos) (tS S X (.asg (.t l) ca)):=
 (zgx he hg hs hw).imp λD σ H ⟨B,φ,st,ρ,rs,re,h⟩=>by
  erw[ex]at h;refine tE.fl rs re h λx H1 v st1 φ1 s rs1 re1 rv h1=>?_
  cases e:yo (.t l) v ρ with
  |none=>rw[e]at h1;exact h1.elim
  |some ρ'=>
   rw[e]at h1;exact⟨B,φ1,st1,ρ,v,ρ',rs1,re1,rv,e,λσ' re'=>h1 σ' H1 φ1 .rfl rs1 re'⟩
theorem tI.fl{k:List PV->SO->Fl}{P:It->Hp->Prop}(rs:yh X.K S.cl B φ H st)(re:yp X.K S.cl B φ H ρ σ)(h:yW S X B φ H ((evi S.call ρ st ci).fl ρ k) D)
  (n:∀x H1 v st1 φ1,Step φ H φ1 H1->yh X.K S.cl B φ1 H1 st1->yp X.K S.cl B φ1 H1 ρ σ->Drw S X B φ1 H1 v x->yW S X B φ1 H1 (k v st1) D->P x H1):tI S X ci σ H P:=by
 refine⟨B,φ,st,ρ,rs,re,?_⟩
 cases e:evi S.call ρ st ci with
 |ok v st'=>
  rw[e]at h;exact λx H' φ' s rs' rv=>n x H' v st' φ' s rs' (re.step s) rv (h.on s)
 |exc k st'=>
  rw[e]at h;exact λe s' x=>h σ φ H e s' .rfl re x
 |bad=>rw[e]at h;exact h
def ziJ(hp:DL (model X.prog X.w) X.A X.env X.xe)(hc:X.calm=AD)(hi:PI X tg l (tI S X ci))(hg:PG X tg (tG S X ct))(hb:PSs X ss (tSs S X cs))(hs:∀x,foldedSetIterable l X.env x=pure x:=by intro _;rfl):
  PS X (.For tg l ss [] pos) (tS S X (.for ct ci cs)):=
 (zgp hp hc hi hg hb hs).imp λD σ H ⟨B,φ,st,ρ,rs,re,h⟩=>by
  erw[ex]at h;refine tI.fl rs re h λJ H1 xs st1 φ1 s1 rs1 re1 dr h1=>?_;refine⟨λi m σ H=>∃φ st ρ,i+m=xs.length/\Step φ1 H1 φ H/\yh X.K S.cl B φ H st/\yp X.K S.cl B φ H ρ σ/\yW S X B φ H (forL ct (λρ2 st2=>exs S.call ρ2 st2 cs) (xs.drop i) ρ st) D,
   ⟨xs.length,φ1,st1,ρ,by lia,.rfl,rs1,re1,by simpa using h1⟩,?_⟩
  rintro i m σ2 H2 ⟨φ2,st2,ρ2,hm,s2,rs2,re2,h2⟩
  by_cases hi:i<xs.length
  .refine .inr ⟨dr.go i φ2 H2 s2 hi,λσ' H'=>∃φ st ρ,Step φ1 H1 φ H'/\yh X.K S.cl B φ H' st/\yp X.K S.cl B φ H' ρ σ'/\yW S X B φ H' (forL ct (λρ2 st2=>exs S.call ρ2 st2 cs) (xs.drop (i+1)) ρ st) D,
    λσ' H' ⟨φ,st,ρ,s,q⟩=>⟨m-1,by lia,φ,st,ρ,by lia,s,q⟩,λx H3 hy=>?_⟩
   let⟨v,hv,rv,kk⟩:=dr.yld i φ2 H2 st2 x H3 B (λ_ z=>.inl z) s2 rs2 hi hy;have e:xs.drop i=v::xs.drop (i+1):=by
    rw[BG hi];rw[BY hi]at hv;rw[AU hv]
   have s3:Step φ2 H2 φ2 H3:=⟨λb o _ e=>kk b o e,AN _,λ_ _ _ e=>e,λ_ h=>.inl h⟩;have rs3:yh X.K S.cl B φ2 H3 st2:=rs2.same kk;rw[e,forL]at h2
   cases eb:yo ct v ρ2 with
   |none=>rw[eb]at h2;exact h2.elim
   |some ρ3=>
    rw[eb]at h2;refine⟨B,φ2,st2,ρ2,v,ρ3,rs3,re2.step s3,rv,eb,λσ' re'=>⟨B,φ2,st2,ρ3,rs3,re',?_⟩⟩;have h3:=yW.on s3 h2;dsimp only at h3
    cases ee:exs S.call ρ3 st2 cs with
    |nx ρ4 st4=>
     rw[ee]at h3;exact λσ4 H4 φ4 s4 rs4 re4=>⟨φ4,st4,ρ4,s2.trans (s3.trans s4),rs4,re4,yW.on s4 h3⟩
    |ct ρ4 st4=>
     rw[ee]at h3;exact λσ4 H4 φ4 s4 rs4 re4=>⟨φ4,st4,ρ4,s2.trans (s3.trans s4),rs4,re4,yW.on s4 h3⟩
    |bk ρ4 st4=>rw[ee]at h3;exact h3
    |rt v4 st4=>rw[ee]at h3;exact h3
    |exc k ρ4 st4=>rw[ee]at h3;exact h3
    |bad=>rw[ee]at h3;exact h3
  .have e:i=xs.length:=by lia
   subst e;rw[CV,forL]at h2;exact .inl ⟨dr.stop φ2 H2 s2,h2 σ2 H2 φ2 .rfl rs2 re2⟩
def zfy(hp:DL (model X.prog X.w) X.A X.env X.xe)(hc:PT X c (tTs S X cc))(hb:PSs X ss (tSs S X cs)):PS X (.While c ss [] pos) (tS S X (.while cc cs)):=
 (zfC hp hc hb).imp λD σ H ⟨B,φ,st,ρ,rs,re,h⟩=>by
  erw[ex]at h;refine⟨λm σ H=>∃φ st ρ,yh X.K S.cl B φ H st/\yp X.K S.cl B φ H ρ σ/\yW S X B φ H (yU (λρ2 st2=>ev S.call ρ2 st2 cc) (λρ2 st2=>exs S.call ρ2 st2 cs) m ρ st) D,⟨100000,φ,st,ρ,rs,re,h⟩,?_⟩
  rintro m σ2 H2 ⟨φ2,st2,ρ2,rs2,re2,h2⟩
  cases m with
  |zero=>exact h2.elim
  |succ m=>
   rw[yU]at h2;rw[flT _ λk st1=>cond k (yan (exs S.call ρ2 st1 cs) λρ2 st2=>yU (λρ2 st2=>ev S.call ρ2 st2 cc) (λρ2 st2=>exs S.call ρ2 st2 cs) m ρ2 st2) (.nx ρ2 st1)]at h2;refine tTs.fl rs2 re2 h2 λk H3 st3 φ3 s3 rs3 re3 h3=>?_
   cases k with
   |false=>exact h3 σ2 H3 φ3 .rfl rs3 re3
   |true=>
    refine⟨λσ' H'=>∃φ st ρ,yh X.K S.cl B φ H' st/\yp X.K S.cl B φ H' ρ σ'/\yW S X B φ H' (yU (λρ2 st2=>ev S.call ρ2 st2 cc) (λρ2 st2=>exs S.call ρ2 st2 cs) m ρ st) D,
     λσ' H' q=>⟨m,by lia,q⟩,B,φ3,st3,ρ2,rs3,re3,?_⟩
    erw[cond_true]at h3
    cases ee:exs S.call ρ2 st3 cs with
    |nx ρ4 st4=>
     rw[ee]at h3;exact λσ4 H4 φ4 s4 rs4 re4=>⟨φ4,st4,ρ4,rs4,re4,yW.on s4 h3⟩
    |ct ρ4 st4=>
     rw[ee]at h3;exact λσ4 H4 φ4 s4 rs4 re4=>⟨φ4,st4,ρ4,rs4,re4,yW.on s4 h3⟩
    |bk ρ4 st4=>rw[ee]at h3;exact h3
    |rt v4 st4=>rw[ee]at h3;exact h3
    |exc k ρ4 st4=>rw[ee]at h3;exact h3
    |bad=>rw[ee]at h3;exact h3
end
end L2
namespace IC
open PySem
def RLe{α:Type}(r q:R α):Prop:=r=.bad \/ r=q
def FLe(f g:Fl):Prop:=f=.bad \/ f=g
abbrev Cl:=Nat->List PV->SO->R PV
def CLe(c d:Cl):Prop:=∀f a s,RLe (c f a s) (d f a s)
theorem RLe.rfl{α:Type}{r:R α}:RLe r r:=.inr (CN _)
theorem FLe.rfl{f:Fl}:FLe f f:=.inr (CN _)
theorem RLe.bind{α β:Type}{r q:R α}{k l:α->SO->R β}(h:RLe r q)(hk:∀a s,RLe (k a s) (l a s)):RLe (r.bind k) (q.bind l):=by
 rcases h with h|h
 .subst h;exact .inl (CN _)
 .subst h
  cases r with
  |ok a s=>exact hk a s
  |exc c s=>exact .rfl
  |bad=>exact .rfl
theorem RLe.fl{α:Type}{r q:R α}{ρ:Env}{k l:α->SO->Fl}(h:RLe r q)(hk:∀a s,FLe (k a s) (l a s)):FLe (r.fl ρ k) (q.fl ρ l):=by
 rcases h with h|h
 .subst h;exact .inl (CN _)
 .subst h
  cases r with
  |ok a s=>exact hk a s
  |exc c s=>exact .rfl
  |bad=>exact .rfl
theorem RLe.comp{r q:R (List PV)}(h:RLe r q):RLe (ybh r) (ybh q):=by
 rcases h with h|h
 .subst h;exact .inl (CN _)
 .subst h;exact .rfl
def zex{α:Type}{x:PV}{k l:Bool->R α}(h:∀b,RLe (k b) (l b)):RLe (onBl x k) (onBl x l):=by
 cases x with
 |bl b=>exact h b
 |_=>exact .rfl
def zbC{α:Type}{x:Option Bool}{k l:Bool->R α}(h:∀b,RLe (k b) (l b)):RLe (onO x k) (onO x l):=by
 cases x with
 |some b=>exact h b
 |none=>exact .rfl
def zgE{x:Option Bool}{k l:Bool->Fl}(h:∀b,FLe (k b) (l b)):FLe (onF x k) (onF x l):=by
 cases x with
 |some b=>exact h b
 |none=>exact .rfl
def zje{α:Type}{x:Option (Option Int)}{k l:Option Int->R α}(h:∀b,RLe (k b) (l b)):RLe (onP x k) (onP x l):=by
 cases x with
 |some b=>exact h b
 |none=>exact .rfl
def zaJ{α:Type}{b:Bool}{r q r' q':R α}(h:RLe r q)(h':RLe r' q'):RLe (cond b r r') (cond b q q'):=by
 cases b
 .exact h'
 .exact h
def zc5{b:Bool}{r q r' q':Fl}(h:FLe r q)(h':FLe r' q'):FLe (cond b r r') (cond b q q'):=by
 cases b
 .exact h'
 .exact h
def zav{f g:PV->SO->R (Option PV)}(h:∀x s,RLe (f x s) (g x s)):∀xs s,RLe (compL f xs s) (compL g xs s)
 |[],s=>.rfl
 |x::xs,s=>(h x s).bind λo s1=>(zav h xs s1).bind λys s2=>.rfl
def zba{f g:PV->SO->R (List PV)}(h:∀x s,RLe (f x s) (g x s)):∀xs s,RLe (yae f xs s) (yae g xs s)
 |[],s=>.rfl
 |x::xs,s=>(h x s).bind λo s1=>(zba h xs s1).bind λys s2=>.rfl
def zcL{f g:PV->SO->R (PV×PV)}(h:∀x s,RLe (f x s) (g x s)):∀xs acc s,RLe (yav f xs acc s) (yav g xs acc s)
 |[],acc,s=>.rfl
 |x::xs,acc,s=>(h x s).bind λp s1=>by
  split
  .exact zcL h xs _ s1
  .exact .rfl
theorem RLe.emR{a b:R PV}(h:RLe a b):RLe (emR a) (emR b):=by
 rcases h with h|h
 .subst h;exact .inl (CN R.bad)
 .subst h;exact .rfl
theorem RLe.tupR{a b:R (List PV)}(h:RLe a b):RLe (tupR a) (tupR b):=by
 rcases h with h|h
 .subst h;exact .inl (CN R.bad)
 .subst h;exact .rfl
theorem RLe.dctR{a b:R (List (PV×PV))}(h:RLe a b):RLe (dctR a) (dctR b):=by
 rcases h with h|h
 .subst h;exact .inl (CN R.bad)
 .subst h;exact .rfl
def zaG{f g:Fl}{k l:Env->SO->Fl}(h:FLe f g)(hk:∀ρ s,FLe (k ρ s) (l ρ s)):FLe (yan f k) (yan g l):=by
 rcases h with h|h
 .subst h;exact .inl (CN _)
 .subst h
  cases f with
  |nx ρ s=>exact hk ρ s
  |ct ρ s=>exact hk ρ s
  |_=>exact .rfl
def zbp{t:Tg}{f g:Env->SO->Fl}(h:∀ρ s,FLe (f ρ s) (g ρ s)):∀xs ρ s,FLe (forL t f xs ρ s) (forL t g xs ρ s)
 |[],ρ,s=>.rfl
 |x::xs,ρ,s=>by
  unfold forL
  cases yo t x ρ with
  |none=>exact .rfl
  |some ρ1=>exact zaG (h ρ1 s) λρ2 s2=>zbp h xs ρ2 s2
def zeB{t:Tg}{f g:Env->SO->Fl}{n:Nat}(h:∀ρ s,FLe (f ρ s) (g ρ s)):∀k i ρ s,FLe (ya3 t f n k i ρ s) (ya3 t g n k i ρ s)
 |0,i,ρ,s=>.rfl
 |k+1,i,ρ,s=>by
  unfold ya3
  cases s[n]? with
  |none=>exact .rfl
  |some o=>
   cases o with
   |lst xs=>
    dsimp only
    cases xs[i]? with
    |none=>exact .rfl
    |some x=>
     dsimp only
     cases yo t x ρ with
     |none=>exact .rfl
     |some ρ1=>exact zaG (h ρ1 s) λρ2 s2=>zeB h k (i+1) ρ2 s2
   |_=>exact .rfl
def zbG{t u:Env->SO->R PV}{f g:Env->SO->Fl}(ht:∀ρ s,RLe (t ρ s) (u ρ s))(h:∀ρ s,FLe (f ρ s) (g ρ s)):∀n ρ s,FLe (yU t f n ρ s) (yU u g n ρ s)
 |0,ρ,s=>.rfl
 |n+1,ρ,s=>by
  unfold yU;exact(ht ρ s).fl λx s1=>zgE λb=>zc5 (zaG (h ρ s1) λρ2 s2=>zbG ht h n ρ2 s2) .rfl
mutual
theorem zd{c d:Cl}(h:CLe c d):∀(e:Ce) (ρ:Env) (s:SO),RLe (ev c ρ s e) (ev d ρ s e)
 |.cst v,ρ,s=>by exact .rfl
 |.var i,ρ,s=>by exact .rfl
 |.bin o a b,ρ,s=>by
  exact(zd h a ρ s).bind λx s1=>(zd h b ρ s1).bind λy s2=>.rfl
 |.not a,ρ,s=>by
  exact(zd h a ρ s).bind λx s1=>.rfl
 |.and a b,ρ,s=>by
  refine(zd h a ρ s).bind λx s1=>?_;exact zex λk=>zaJ (zd h b ρ s1) .rfl
 |.or a b,ρ,s=>by
  refine(zd h a ρ s).bind λx s1=>?_;exact zex λk=>zaJ .rfl (zd h b ρ s1)
 |.cmp o a b,ρ,s=>by
  exact(zd h a ρ s).bind λx s1=>(zd h b ρ s1).bind λy s2=>.rfl
 |.chain o p a b k,ρ,s=>by
  refine(zd h a ρ s).bind λx s1=>(zd h b ρ s1).bind λy s2=>?_;exact zbC λq=>zaJ ((zd h k ρ s2).bind λz s3=>.rfl) .rfl
 |.ite k a b,ρ,s=>by
  exact(zd h k ρ s).bind λx s1=>zbC λq=>zaJ (zd h a ρ s1) (zd h b ρ s1)
 |.tup es,ρ,s=>by
  exact(zC h es ρ s).bind λx s1=>.rfl
 |.lst es,ρ,s=>by
  exact(zC h es ρ s).bind λx s1=>.rfl
 |.newl es,ρ,s=>by
  exact(zC h es ρ s).bind λx s1=>.rfl
 |.idx a i,ρ,s=>by
  exact(zd h a ρ s).bind λx s1=>(zd h i ρ s1).bind λy s2=>.rfl
 |.slc a l u,ρ,s=>by
  exact(zd h a ρ s).bind λx s1=>(zd h l ρ s1).bind λy s2=>zje λo=>(zd h u ρ s2).bind λz s3=>.rfl
 |.call f es,ρ,s=>by
  exact(zC h es ρ s).bind λx s1=>h f x s1
 |.blt b es,ρ,s=>by
  exact(zC h es ρ s).bind λx s1=>.rfl
 |.mth m o es,ρ,s=>by
  exact(zd h o ρ s).bind λx s1=>zbC λ_=>(zC h es ρ s1).bind λy s2=>.rfl
 |.isi a ts,ρ,s=>by
  exact(zd h a ρ s).bind λx s1=>.rfl
 |.comp sl tg it k e,ρ,s=>by
  refine(zaV h it ρ s).bind λxs s1=>?_;have q:=λ(f g:PV->SO->R (Option PV)) (hfg:∀x s,RLe (f x s) (g x s))=>zav hfg xs s1;refine RLe.comp (zav (λx s2=>?_) xs s1)
  cases yo tg x _ with
  |none=>exact .rfl
  |some ρ1=>
   dsimp only;exact(zd h k ρ1 s2).bind λb s3=>zbC λq=>zaJ ((zd h e ρ1 s3).bind λy s4=>.rfl) .rfl
 |.nope,ρ,s=>by exact .rfl
 |.fst es,ρ,s=>by
  first|unfold ev|unfold ex|unfold evs|unfold evi|unfold exs
  rcases zC h es ρ s with e|e
  .rw[e];exact .inl (CN _)
  .rw[e];exact .rfl
 |.nin a b,ρ,s=>by
  exact(zd h a ρ s).bind λx s1=>(zd h b ρ s1).bind λy s2=>.rfl
 |.dgt a i,ρ,s=>by
  exact(zd h a ρ s).bind λx s1=>(zd h i ρ s1).bind λy s2=>.rfl
 |.dsub ks es i,ρ,s=>by
  first|unfold ev|unfold ex|unfold evs|unfold evi|unfold exs
  rcases zC h es ρ s with hq|hq
  .rw[hq];exact .inl rfl
  .rw[hq]
   cases evs d ρ s es with
   |ok vs s1=>
    dsimp only;split
    .exact(zd h i ρ s1).bind λx s2=>.rfl
    .exact .inl rfl
   |exc k s1=>exact .inl rfl
   |bad=>exact .inl rfl
 |.cmq sl tg it m,ρ,s=>by
  refine(zaV h it ρ s).bind λxs s1=>?_;refine RLe.comp (zba (λx s2=>?_) xs s1);split
  .exact .rfl
  .exact(zd h m _ s2).emR
 |.emq tg it m,ρ,s=>by
  refine(zaV h it ρ s).bind λxs s1=>?_;split
  .refine RLe.tupR (zba (λx s2=>?_) xs s1);split
   .exact .rfl
   .exact(zd h m _ s2).emR
  .exact .rfl
 |.dcm sl tg it k v,ρ,s=>by
  refine(zaV h it ρ s).bind λxs s1=>?_;dsimp only;split
  .refine RLe.dctR (zcL (λx s2=>?_) xs [] s1);split
   .exact .rfl
   .exact(zd h k _ s2).bind λa s3=>(zd h v _ s3).bind λb s4=>.rfl
  .exact .rfl
theorem zC{c d:Cl}(h:CLe c d):∀(e:Ces) (ρ:Env) (s:SO),RLe (evs c ρ s e) (evs d ρ s e)
 |.nil,ρ,s=>by exact .rfl
 |.cons e es,ρ,s=>by
  exact(zd h e ρ s).bind λx s1=>(zC h es ρ s1).bind λy s2=>.rfl
theorem zaV{c d:Cl}(h:CLe c d):∀(e:Cit) (ρ:Env) (s:SO),RLe (evi c ρ s e) (evi d ρ s e)
 |.seq e,ρ,s=>by
  exact(zd h e ρ s).bind λx s1=>.rfl
 |.range1 a,ρ,s=>by
  exact(zd h a ρ s).bind λx s1=>.rfl
 |.range2 a b,ρ,s=>by
  exact(zd h a ρ s).bind λx s1=>(zd h b ρ s1).bind λy s2=>.rfl
 |.rangeD a b,ρ,s=>by
  exact(zd h a ρ s).bind λx s1=>(zd h b ρ s1).bind λy s2=>.rfl
 |.enum e,ρ,s=>by
  exact(zd h e ρ s).bind λx s1=>.rfl
 |.zip a b,ρ,s=>by
  exact(zd h a ρ s).bind λx s1=>(zd h b ρ s1).bind λy s2=>.rfl
 |.revl e,ρ,s=>by
  exact(zd h e ρ s).bind λx s1=>.rfl
 |.revr e,ρ,s=>by
  exact(zd h e ρ s).bind λx s1=>.rfl
 |.chars e,ρ,s=>by
  exact(zd h e ρ s).bind λx s1=>.rfl
end
mutual
theorem zkv{c d:Cl}(h:CLe c d):∀(x:Cs) (ρ:Env) (s:SO),FLe (ex c ρ s x) (ex d ρ s x)
 |.expr e,ρ,s=>by
  exact(zd h e ρ s).fl λx s1=>.rfl
 |.asg t e,ρ,s=>by
  exact(zd h e ρ s).fl λx s1=>.rfl
 |.six o i e,ρ,s=>by
  exact(zd h e ρ s).fl λx s1=>(zd h o ρ s1).fl λy s2=>(zd h i ρ s2).fl λz s3=>.rfl
 |.aug i o e,ρ,s=>by
  first|unfold ev|unfold ex|unfold evs|unfold evi|unfold exs
  split
  .exact(zd h e ρ s).fl λx s1=>.rfl
  .exact .rfl
 |.ret e,ρ,s=>by
  exact(zd h e ρ s).fl λx s1=>.rfl
 |.ite k a b,ρ,s=>by
  exact(zd h k ρ s).fl λx s1=>zgE λq=>zc5 (zJ h a ρ s1) (zJ h b ρ s1)
 |.for t it b,ρ,s=>by
  exact(zaV h it ρ s).fl λxs s1=>zbp (λρ2 s2=>zJ h b ρ2 s2) xs ρ s1
 |.forl t e b,ρ,s=>by
  refine(zd h e ρ s).fl λx s1=>?_
  cases x with
  |tp k xs=>exact zbp (λρ2 s2=>zJ h b ρ2 s2) xs ρ s1
  |lst xs=>exact zbp (λρ2 s2=>zJ h b ρ2 s2) xs ρ s1
  |loc n=>exact zeB (λρ2 s2=>zJ h b ρ2 s2) 100000 0 ρ s1
  |_=>exact .rfl
 |.while k b,ρ,s=>by
  exact zbG (λρ2 s2=>zd h k ρ2 s2) (λρ2 s2=>zJ h b ρ2 s2) _ ρ s
 |.nope,ρ,s=>by exact .rfl
 |.raise k e,ρ,s=>by
  exact(zd h e ρ s).fl λx s1=>.rfl
 |.mkr i D n es,ρ,s=>by
  refine(zd h n ρ s).fl λx s1=>?_;split
  .exact((zC h es _ s1).bind λvs s2=>h _ vs s2).fl λv s3=>.rfl
  .exact .rfl
theorem zJ{c d:Cl}(h:CLe c d):∀(x:Css) (ρ:Env) (s:SO),FLe (exs c ρ s x) (exs d ρ s x)
 |.nil,ρ,s=>by exact .rfl
 |.cons x xs,ρ,s=>by
  first|unfold ev|unfold ex|unfold evs|unfold evi|unfold exs
  rcases zkv h x ρ s with e|e
  .rw[e];exact .inl (CN _)
  .rw[e]
   cases ex d ρ s x with
   |nx ρ1 s1=>exact zJ h xs ρ1 s1
   |_=>exact .rfl
end
def zbY(T:Nat->Option Fn):∀k,CLe (yd T k) (yd T (k+1))
 |0,f,a,s=>.inl (CN _)
 |k+1,f,a,s=>by
  have h:=zbY T k;rw[yd,yd]
  cases T f with
  |none=>exact .rfl
  |some fn=>
   dsimp only;split
   .split
    .split
     .rcases zJ h fn.body (a.map AA++Ap (fn.ns-fn.np) AB) []with e|e
      .rw[e];exact .inl (CN _)
      .rw[e];exact .rfl
     .exact .rfl
    .rcases zJ h fn.body (a.map AA++Ap (fn.ns-fn.np) AB) s with e|e
     .rw[e];exact .inl (CN _)
     .rw[e];exact .rfl
   .exact .rfl
def zS{T:Nat->Option Fn}{k:Nat}{f:Nat}{a:List PV}{s s':SO}{v:PV}(h:yd T k f a s=.ok v s'):∀j,yd T (k+j) f a s=.ok v s'
 |0=>h
 |j+1=>by
  have q:=zS h j;rcases zbY T (k+j) f a s with e|e
  .rw[q]at e;cases e
  .rw[Fb]at e;rw[<-e];exact q
def yaK(call:Cl)(t:Tg)(b:Css)(xs:List PV)(ρ:Env)(st:SO):Fl:=forL t (λρ2 st2=>exs call ρ2 st2 b) xs ρ st
def yas(call:Cl)(c:Ce)(b:Css)(n:Nat)(ρ:Env)(st:SO):Fl:=yU (λρ2 st2=>ev call ρ2 st2 c) (λρ2 st2=>exs call ρ2 st2 b) n ρ st
def ya2(call:Cl)(ρ0:Env)(t:Tg)(c e:Ce)(x:PV)(st2:SO):R (Option PV):=match yo t x ρ0 with
 |none=>.bad
 |some ρ1=>(ev call ρ1 st2 c).bind λb st3=>onO (yar st3 b) λk=>cond k ((ev call ρ1 st3 e).bind λy st4=>.ok (AA y) st4) (.ok AB st3)
def yS(call:Cl)(ρ0:Env)(t:Tg)(c e:Ce)(xs:List PV)(st:SO):R (List PV):=compL (ya2 call ρ0 t c e) xs st
def yaz(f:Fl)(k:Env->SO->Fl):Fl:=
 match f with
 |.nx ρ st=>k ρ st
 |f=>f
def nxO(o:Option Env)(st:SO):Fl:=
 match o with
 |some ρ=>.nx ρ st
 |none=>.bad
def stO(ρ:Env)(o:Option SO):Fl:=
 match o with
 |some st=>.nx ρ st
 |none=>.bad
section
variable {call:Cl}{ρ:Env}{st:SO}
theorem x_for{t:Tg}{it:Cit}{b:Css}:ex call ρ st (.for t it b)=(evi call ρ st it).fl ρ λxs st1=>yaK call t b xs ρ st1:=rfl
def zhD{c:Ce}{b:Css}:ex call ρ st (.while c b)=yas call c b 100000 ρ st:=rfl
theorem v_comp{sl:List (Option Nat)}{t:Tg}{it:Cit}{c e:Ce}:ev call ρ st (.comp sl t it c e)=(evi call ρ st it).bind λxs st1=>ybh (yS call (sl.map λo=>o.bind λj=>(ρ[j]?).join) t c e xs st1):=rfl
def zI{t:Tg}{b:Css}:yaK call t b [] ρ st=.nx ρ st:=rfl
def zx{t:Tg}{b:Css}{x:PV}{xs:List PV}{ρ1:Env}(h:yo t x ρ=AA ρ1):yaK call t b (x::xs) ρ st=yan (exs call ρ1 st b) λρ2 st2=>yaK call t b xs ρ2 st2:=by
 rw[yaK,forL,h];rfl
def zcI{t:Tg}{b:Css}(P:Nat->Env->SO->Prop):∀(xs:List PV) (i:Nat) (ρ:Env) (st:SO),P i ρ st ->
  (∀(j:Nat) (x:PV) (ρ:Env) (st:SO),xs[j]?=AA x->P (i+j) ρ st->∃ρ1 ρ2 st2,yo t x ρ=AA ρ1/\exs call ρ1 st b=.nx ρ2 st2/\P (i+j+1) ρ2 st2) ->
  ∃ρ' st',yaK call t b xs ρ st=.nx ρ' st'/\P (i+xs.length) ρ' st'
 |[],i,ρ,st,h,_=>⟨ρ,st,zI,h⟩
 |x::xs,i,ρ,st,h,k=>by
  let⟨ρ1,ρ2,st2,e1,e2,h2⟩:=k 0 x ρ st rfl h;let⟨ρ',st',e3,h3⟩:=zcI P xs (i+1) ρ2 st2 h2 λj y ρ st hy hp=>by
   have:=k (j+1) y ρ st (by simpa using hy) (by rw[show i+(j+1)=i+1+j by lia];exact hp);rw[show i+(j+1)+1=i+1+j+1 by lia]at this;exact this
  refine⟨ρ',st',?_,by rw[Am,show i+(xs.length+1)=i+1+xs.length by lia];exact h3⟩;rw[zx e1,e2];exact e3
def zeI{c:Ce}{b:Css}{n:Nat}{x:PV}{st1 st2:SO}{ρ2:Env}(h:ev call ρ st c=.ok x st1)(ht:yar st1 x=AA AD)(hb:exs call ρ st1 b=.nx ρ2 st2):yas call c b (n+1) ρ st=yas call c b n ρ2 st2:=by
 rw[yas,yU,h];erw[R.fl,ht,onF,cond_true,hb,yan];rfl
def zcl{c:Ce}{b:Css}{n:Nat}{x:PV}{st1:SO}(h:ev call ρ st c=.ok x st1)(ht:yar st1 x=AA AF):yas call c b (n+1) ρ st=.nx ρ st1:=by
 rw[yas,yU,h];erw[R.fl,ht,onF,cond_false]
def zL{ρ0:Env}{t:Tg}{c e:Ce}:yS call ρ0 t c e [] st=.ok [] st:=rfl
def zp{ρ0:Env}{t:Tg}{c e:Ce}{x:PV}{xs:List PV}:yS call ρ0 t c e (x::xs) st=(ya2 call ρ0 t c e x st).bind λo st1=>(yS call ρ0 t c e xs st1).bind λys st2=>.ok (ybz o ys) st2:=rfl
theorem xs_nil:exs call ρ st .nil=.nx ρ st:=rfl
theorem xs_cons{s:Cs}{ss:Css}:exs call ρ st (.cons s ss)=yaz (ex call ρ st s) λρ1 st1=>exs call ρ1 st1 ss:=rfl
theorem x_asg{t:Tg}{e:Ce}:ex call ρ st (.asg t e)=(ev call ρ st e).fl ρ λv st1=>nxO (yo t v ρ) st1:=rfl
theorem x_expr{e:Ce}:ex call ρ st (.expr e)=(ev call ρ st e).fl ρ λ_ st1=>.nx ρ st1:=rfl
theorem x_ret{e:Ce}:ex call ρ st (.ret e)=(ev call ρ st e).fl ρ λv st1=>.rt v st1:=rfl
theorem x_ite{c:Ce}{a b:Css}:ex call ρ st (.ite c a b)=(ev call ρ st c).fl ρ λx st1=>onF (yar st1 x) λk=>cond k (exs call ρ st1 a) (exs call ρ st1 b):=rfl
theorem x_raise{c:Nat}{e:Ce}:ex call ρ st (.raise c e)=(ev call ρ st e).fl ρ λ_ st1=>.exc c ρ st1:=rfl
theorem x_six{o i e:Ce}:ex call ρ st (.six o i e)=(ev call ρ st e).fl ρ λv st1=>(ev call ρ st1 o).fl ρ λx st2=>(ev call ρ st2 i).fl ρ λy st3=>stO ρ (yaZ st3 x y v):=rfl
theorem x_aug{i:Nat}{o:BOp}{e:Ce}{x:PV}(h:ρ[i]?=AA (AA x)):ex call ρ st (.aug i o e)=(ev call ρ st e).fl ρ λy st1=>nxO ((ybd o x y).map λz=>ρ.set i (AA z)) st1:=by
 rw[ex,h];show (ev call ρ st e).fl ρ _=_;refine congrArg _ (funext λy=>funext λst1=>?_)
 cases ybd o x y<;>rfl
end
theorem ve1(call:Nat->List PV->SO->R PV)(ρ:Env)(st:SO)(v:PV):
  ev call ρ st (Ce.cst v)=R.ok v st:=rfl
theorem ve2(call:Nat->List PV->SO->R PV)(ρ:Env)(st:SO)(i:Nat):
  ev call ρ st (Ce.var i) =
  match ρ[i]? with
  |some (AA v)=>R.ok v st
  |x=>R.bad:=rfl
theorem ve3(call:Nat->List PV->SO->R PV)(ρ:Env)(st:SO)(o:BOp)(a b:Ce):
  ev call ρ st (Ce.bin o a b)=R.bind (ev call ρ st a) λx st1=>R.bind (ev call ρ st1 b) λy st2=>toR (yw o x y) st2:=rfl
theorem ve5(call:Nat->List PV->SO->R PV)(ρ:Env)(st:SO)(a:Ce):
  ev call ρ st (Ce.not a)=R.bind (ev call ρ st a) λx st1=>onBl x λk=>R.ok (PV.bl !k) st1:=rfl
theorem ve6(call:Nat->List PV->SO->R PV)(ρ:Env)(st:SO)(a b:Ce):
  ev call ρ st (Ce.and a b)=R.bind (ev call ρ st a) λx st1=>onBl x λk=>bif k then ev call ρ st1 b else R.ok (PV.bl AF) st1:=rfl
theorem ve7(call:Nat->List PV->SO->R PV)(ρ:Env)(st:SO)(a b:Ce):
  ev call ρ st (Ce.or a b)=R.bind (ev call ρ st a) λx st1=>onBl x λk=>bif k then R.ok (PV.bl AD) st1 else ev call ρ st1 b:=rfl
theorem ve8(call:Nat->List PV->SO->R PV)(ρ:Env)(st:SO)(o:COp)(a b:Ce):
  ev call ρ st (Ce.cmp o a b)=R.bind (ev call ρ st a) λx st1=>R.bind (ev call ρ st1 b) λy st2=>toR (yC o x y) st2:=rfl
theorem ve9(call:Nat->List PV->SO->R PV)(ρ:Env)(st:SO)(o p:COp)(a b c:Ce):
  ev call ρ st (Ce.chain o p a b c)=R.bind (ev call ρ st a) λx st1=>R.bind (ev call ρ st1 b) λy st2=>onO (blO (yC o x y)) λk=>bif k then R.bind (ev call ρ st2 c) λz st3=>toR (yC p y z) st3 else R.ok (PV.bl AF) st2:=rfl
theorem ve10(call:Nat->List PV->SO->R PV)(ρ:Env)(st:SO)(c a b:Ce):
  ev call ρ st (Ce.ite c a b)=R.bind (ev call ρ st c) λx st1=>onO (yar st1 x) λk=>bif k then ev call ρ st1 a else ev call ρ st1 b:=rfl
theorem ve11(call:Nat->List PV->SO->R PV)(ρ:Env)(st:SO)(es:Ces):
  ev call ρ st (Ce.tup es)=R.bind (evs call ρ st es) λvs st1=>if CB vs<=sizeMax then R.ok (PV.tup vs) st1 else R.bad:=rfl
theorem ve12(call:Nat->List PV->SO->R PV)(ρ:Env)(st:SO)(es:Ces):
  ev call ρ st (Ce.lst es)=R.bind (evs call ρ st es) λvs st1=>if CB vs<=sizeMax then R.ok (PV.lst vs) st1 else R.bad:=rfl
theorem ve13(call:Nat->List PV->SO->R PV)(ρ:Env)(st:SO)(es:Ces):
  ev call ρ st (Ce.newl es)=R.bind (evs call ρ st es) λvs st1=>if CB vs<=sizeMax then R.ok (PV.loc (CB st1)) (st1++[Ob.lst vs])else R.bad:=rfl
theorem ve16(call:Nat->List PV->SO->R PV)(ρ:Env)(st:SO)(a i:Ce):
  ev call ρ st (Ce.idx a i)=R.bind (ev call ρ st a) λx st1=>R.bind (ev call ρ st1 i) λy st2=>toR (idxV st2 x y) st2:=rfl
theorem ve17(call:Nat->List PV->SO->R PV)(ρ:Env)(st:SO)(a l h:Ce):
  ev call ρ st (Ce.slc a l h)=R.bind (ev call ρ st a) λx st1=>R.bind (ev call ρ st1 l) λy st2=>onP (ybX y) λo=>R.bind (ev call ρ st2 h) λz st3=>toR (ycC x o z) st3:=rfl
theorem ve18(call:Nat->List PV->SO->R PV)(ρ:Env)(st:SO)(f:Nat)(es:Ces):
  ev call ρ st (Ce.call f es)=R.bind (evs call ρ st es) λvs st1=>call f vs st1:=rfl
theorem ve19(call:Nat->List PV->SO->R PV)(ρ:Env)(st:SO)(b:Blt)(es:Ces):
  ev call ρ st (Ce.blt b es)=R.bind (evs call ρ st es) λvs st1=>toR (yah b st1 vs) st1:=rfl
theorem ve20(call:Nat->List PV->SO->R PV)(ρ:Env)(st:SO)(m:Mth)(o:Ce)(es:Ces):
  ev call ρ st (Ce.mth m o es)=R.bind (ev call ρ st o) λx st1=>onO (yba m st1 x) λx_1=>R.bind (evs call ρ st1 es) λvs st2=>ycM m st2 x vs:=rfl
theorem ve21(call:Nat->List PV->SO->R PV)(ρ:Env)(st:SO)(a:Ce)(ts:List Ty):
  ev call ρ st (Ce.isi a ts)=R.bind (ev call ρ st a) λx st1=>toR (ybu x ts) st1:=rfl
theorem ve24(call:Nat->List PV->SO->R PV)(ρ:Env)(st:SO):
  ev call ρ st Ce.nope=R.bad:=rfl
theorem ve26(call:Nat->List PV->SO->R PV)(ρ:Env)(st:SO)(es:Ces):
  ev call ρ st (Ce.fst es)=ydk (evs call ρ st es):=rfl
theorem ve31(call:Nat->List PV->SO->R PV)(ρ:Env)(st:SO)(a b:Ce):
  ev call ρ st (Ce.nin a b)=R.bind (ev call ρ st a) λx st1=>R.bind (ev call ρ st1 b) λy st2=>toR (ybA st2 x y) st2:=rfl
theorem ve34(call:Nat->List PV->SO->R PV)(ρ:Env)(st:SO)(a i:Ce):
  ev call ρ st (Ce.dgt a i)=R.bind (ev call ρ st a) λx st1=>R.bind (ev call ρ st1 i) λy st2=>toR (ycN st2 x y) st2:=rfl
def ya7(call:Cl)(ρ0:Env)(t:Tg)(m:Ce)(x:PV)(st:SO):R (List PV):=match yo t x ρ0 with
 |none=>.bad
 |some ρ1=>emR (ev call ρ1 st m)
def ybY(call:Cl)(ρ0:Env)(t:Tg)(k v:Ce)(x:PV)(st:SO):R (PV×PV):=match yo t x ρ0 with
 |none=>.bad
 |some ρ1=>(ev call ρ1 st k).bind λa st3=>(ev call ρ1 st3 v).bind λb st4=>.ok (a,b) st4
theorem ve52(call:Nat->List PV->SO->R PV)(ρ:Env)(st:SO)(sl:List (Option Nat))(tg:Tg)(it:Cit)(m:Ce):
  ev call ρ st (Ce.cmq sl tg it m)=R.bind (evi call ρ st it) λxs st1=>ybh (yae (ya7 call (sl.map λo=>o.bind λj=>(ρ[j]?).join) tg m) xs st1):=rfl
theorem ve53(call:Nat->List PV->SO->R PV)(ρ:Env)(st:SO)(tg:Tg)(it:Cit)(m:Ce):
  ev call ρ st (Ce.emq tg it m)=R.bind (evi call ρ st it) λxs st1=>if yag tg ρ=AD then tupR (yae (ya7 call ρ tg m) xs st1)else .bad:=rfl
theorem ve54(call:Nat->List PV->SO->R PV)(ρ:Env)(st:SO)(sl:List (Option Nat))(tg:Tg)(it:Cit)(k v:Ce):
  ev call ρ st (Ce.dcm sl tg it k v)=R.bind (evi call ρ st it) λxs st1=>if xs.length<=1000000 then dctR (yav (ybY call (sl.map λo=>o.bind λj=>(ρ[j]?).join) tg k v) xs [] st1)else .bad:=rfl
end IC
namespace L2
open PySem PySem.Spec PyProof.Rows IC
section
variable (S:Se)(K:AC)
def yec{α β:Type}(B:AG->Prop)(φ:Ph)(H:Hp)(Rel:Ph->Hp->α->β->Prop)(r:R α)(Q:β->Hp->Prop):Prop:=
 match r with
 |.ok v st'=>∀x H' φ',Step φ H φ' H'->yh K S.cl B φ' H' st'->Rel φ' H' v x->Q x H'
 |_=>False
def tE0(c:Ce):TE:=λσ H Q=>∃B φ st ρ,yh K S.cl B φ H st/\yp K S.cl B φ H ρ σ/\yec S K B φ H (λφ H=>yc K S.cl B φ H) (ev S.call ρ st c) Q
def tT0(c:Ce):TT:=λσ H Q=>∃B φ st ρ,yh K S.cl B φ H st/\yp K S.cl B φ H ρ σ/\yec S K B φ H RB (yaA (ev S.call ρ st c)) Q
def tG0(t:Tg):TG:=λv σ H Q=>∃B φ st ρ w ρ',yh K S.cl B φ H st/\yp K S.cl B φ H ρ σ/\yc K S.cl B φ H w v/\yo t w ρ=AA ρ'/\∀σ',yp K S.cl B φ H ρ' σ'->Q σ' H
end
section
variable {S:Se}{X:Cx}{K:AC}{cl:Nat->AG}{σ:St}{B:AG->Prop}{φ φ1:Ph}{H H1:Hp}{st:SO}{ρ:IC.Env}{pos p p2 px:BZ}{a b c o tg l elt iter:AL}{ca cb cc ce:Ce}{ci:Cit}{ct:Tg}
def zag(hK:X.K=K)(h:PE X a (tE S X ca)):PE X a (tE0 S K ca):=by
 subst hK;refine h.imp λσ H Q kq=>?_;let⟨B,φ,st,ρ,rs,re,q⟩:=kq;refine ⟨B,φ,st,ρ,rs,re,?_⟩
 cases e:ev S.call ρ st ca with
 |ok v st'=>rw[e]at q;exact q
 |exc k st'=>rw[e]at q;exact q.elim
 |bad=>rw[e]at q;exact q
def zhh(hK:X.K=K)(h:PT X a (tTs S X ca)):PTs X [a] (tT0 S K ca):=by
 subst hK;refine zgW (h.imp λσ H Q kq=>?_);let⟨B,φ,st,ρ,rs,re,q⟩:=kq;refine ⟨B,φ,st,ρ,rs,re,?_⟩
 cases e:yaA (ev S.call ρ st ca)with
 |ok v st'=>rw[e]at q;exact q
 |exc k st'=>rw[e]at q;exact q.elim
 |bad=>rw[e]at q;exact q
def zff:PTs X [] (tT0 S K (.cst (.bl AD))):=λπ s σ H Q I ⟨B,φ,st,ρ,rs,re,q⟩=>by
 refine zaC π s σ H Q I ?_;erw[ev,yaA,R.bind,yar,onO]at q;exact q AD H φ .rfl rs rfl
def zY(hK:X.K=K)(h:PG X tg (tG S X ct)):PG X tg (tG0 S K ct):=by
 subst hK;exact h
theorem ybq.skip{k:Bool}{D y:AG}{u:HO}{xs:List V}(hD:B D)(r:ybq K B φ H k y xs):ybq K B φ (L2.upd H D u) k y xs:=by
 rcases r with⟨r,b,n⟩|r
 .exact .inl ⟨by rw[zc (show y≠D from λz=>b (z ▸ hD))];exact r,b,n⟩
 .exact .inr r
mutual
theorem yc.skip{D:AG}{u:HO}(hD:B D):∀(v:PV) (x:V),yc K cl B φ H v x->yc K cl B φ (L2.upd H D u) v x
 |.non,x,h=>by erw[yc]at h ⊢;exact h
 |.bl b,x,h=>by erw[yc]at h ⊢;exact h
 |.int i,x,h=>by erw[yc]at h ⊢;exact h
 |.str y,x,h=>by erw[yc]at h ⊢;exact h
 |.tp k vs,x,h=>by
  erw[yc]at h ⊢;let⟨y,xs,e,r,l⟩:=h;exact⟨y,xs,e,r.skip hD,ye.skip hD vs xs l⟩
 |.lst vs,x,h=>by
  erw[yc]at h ⊢;let⟨y,xs,e,⟨r,b,n⟩,l⟩:=h;exact⟨y,xs,e,⟨by rw[zc (show y≠D from λz=>b (z ▸ hD))];exact r,b,n⟩,ye.skip hD vs xs l⟩
 |.loc n,x,h=>by erw[yc]at h ⊢;exact h
 |.fnc j,x,h=>by erw[yc]at h ⊢;exact h
 |.exn c,x,h=>by
  erw[yc]at h ⊢;let⟨y,e,r,b,n⟩:=h;exact⟨y,e,by rw[zc (show y≠D from λz=>b (z ▸ hD))];exact r,b,n⟩
 |.scr vs,x,h=>by
  erw[yc]at h ⊢;let⟨y,xs,e,r,l⟩:=h;refine⟨y,xs,e,?_,ye.skip hD vs xs l⟩;rcases r with⟨r,b,n⟩|r
  .refine .inl ⟨?_,b,n⟩;have ne:y≠D:=λz=>b (z ▸ hD);rcases r with r|⟨o,r⟩
   .exact .inl (by rw[zc ne];exact r)
   .exact .inr ⟨o,by rw[zc ne];exact r⟩
  .exact .inr r
theorem ye.skip{D:AG}{u:HO}(hD:B D):∀(v:List PV) (x:List V),ye K cl B φ H v x->ye K cl B φ (L2.upd H D u) v x
 |[],x,h=>by erw[ye]at h ⊢;exact h
 |v::vs,x,h=>by
  erw[ye]at h ⊢;let⟨y,ys,e,r,l⟩:=h;exact⟨y,ys,e,yc.skip hD v y r,ye.skip hD vs ys l⟩
end
theorem DK.skip{D:AG}{u:HO}(hD:B D):∀{kvs:List (PV×PV)} {ks:List (Key×V)},DK K cl B φ H kvs ks->DK K cl B φ (L2.upd H D u) kvs ks
 |[],ks,h=>h
 |(k,v)::r,ks,h=>by
  let⟨q,x,t,e,m,rv,l⟩:=h;exact⟨q,x,t,e,m,rv.skip hD,DK.skip hD l⟩
theorem DT.skip{D:AG}{u:HO}(hD:B D):∀{kvs:List (PV×PV)} {ks:List (List NK×V)},DT K cl B φ H kvs ks->DT K cl B φ (L2.upd H D u) kvs ks
 |[],ks,h=>h
 |(k,v)::r,ks,h=>by
  let⟨q,x,t,e,m,rv,l⟩:=h;exact⟨q,x,t,e,m,rv.skip hD,DT.skip hD l⟩
theorem FS.skip{D:AG}{u:HO}(hD:B D):∀{kvs:List (AM×PV)} {ks:List (AM×V)},FS K cl B φ H kvs ks->FS K cl B φ (L2.upd H D u) kvs ks
 |[],ks,h=>h
 |(k,v)::r,ks,h=>by
  let⟨x,t,e,rv,l⟩:=h;exact⟨x,t,e,rv.skip hD,FS.skip hD l⟩
theorem yh.skip{D:AG}{u:HO}(hD:B D)(rs:yh K cl B φ H st)(hu:∀xs,u ≠ .tup xs:=by intro _ z;cases z):yh K cl B φ (L2.upd H D u) st:=by
 refine⟨rs.len,rs.inj,λn y e=>?_,rs.liv,rs.nb,λy h=>?_,λy h xs e=>?_⟩
 .let⟨o,q,r⟩:=rs.obj n y e;have ne:y≠D:=λz=>rs.nb y (A7 e) (z ▸ hD);refine⟨o,q,?_⟩
  cases o with
  |lst vs=>
   let⟨xs,hx,l⟩:=r;exact⟨xs,by rw[zc ne];exact hx,l.skip hD⟩
  |dct t kvs=>
   cases t with
   |false=>
    let⟨xs,hx,l⟩:=r;exact⟨xs,by rw[zc ne];exact hx,l.skip hD⟩
   |true=>
    let⟨xs,hx,l⟩:=r;exact⟨xs,by rw[zc ne];exact hx,l.skip hD⟩
  |ins c fs=>
   let⟨ks,⟨dx,hx⟩,l⟩:=r;exact⟨ks,⟨dx,by rw[zc ne];exact hx⟩,l.skip hD⟩
  |dead=>exact r.elim
 .by_cases z:y=D
  .subst z;exact⟨u,zf⟩
  .let⟨w,e⟩:=rs.dom y h;exact⟨w,by rw[zc z];exact e⟩
 .by_cases z:y=D
  .subst z;rw[zf]at e;exact hu xs (AU e)
  .rw[zc z]at e;exact rs.nt y h xs e
theorem yp.skip{D:AG}{u:HO}(hD:B D)(re:yp K cl B φ H ρ σ):yp K cl B φ (L2.upd H D u) ρ σ:=⟨re.len,λi v e=>by
 let⟨x,h,q⟩:=re.get i v e;exact⟨x,h,q.skip hD⟩⟩
def Bx(B:AG->Prop)(D:AG):AG->Prop:=λy=>B y \/ y=D
def ze2{D:AG}(hn:H D=AB):∀y,Bx B D y->B y \/ H y=none:=λy z=>z.elim .inl λq=>.inr (q ▸ hn)
theorem yc.more{D:AG}(hn:H D=AB){v:PV}{x:V}(h:yc K cl B φ H v x):yc K cl (Bx B D) φ H v x:=h.moreB (ze2 hn)
theorem ye.more{D:AG}(hn:H D=AB){v:List PV}{x:List V}(h:ye K cl B φ H v x):ye K cl (Bx B D) φ H v x:=h.moreB (ze2 hn)
mutual
theorem yc.less{D:AG}:∀(v:PV) (x:V),yc K cl (Bx B D) φ H v x->yc K cl B φ H v x
 |.non,x,h=>by erw[yc]at h ⊢;exact h
 |.bl b,x,h=>by erw[yc]at h ⊢;exact h
 |.int i,x,h=>by erw[yc]at h ⊢;exact h
 |.str y,x,h=>by erw[yc]at h ⊢;exact h
 |.tp k vs,x,h=>by
  erw[yc]at h ⊢;let⟨y,xs,e,r,l⟩:=h;refine⟨y,xs,e,?_,ye.less vs xs l⟩;rcases r with⟨r,b,n⟩|r
  .exact .inl ⟨r,λz=>b (.inl z),n⟩
  .exact .inr r
 |.lst vs,x,h=>by
  erw[yc]at h ⊢;let⟨y,xs,e,⟨r,b,n⟩,l⟩:=h;exact⟨y,xs,e,⟨r,λz=>b (.inl z),n⟩,ye.less vs xs l⟩
 |.loc n,x,h=>by erw[yc]at h ⊢;exact h
 |.fnc j,x,h=>by erw[yc]at h ⊢;exact h
 |.exn c,x,h=>by
  erw[yc]at h ⊢;let⟨y,e,r,b,n⟩:=h;exact⟨y,e,r,λz=>b (.inl z),n⟩
 |.scr vs,x,h=>by
  erw[yc]at h ⊢;let⟨y,xs,e,r,l⟩:=h;refine⟨y,xs,e,?_,ye.less vs xs l⟩;rcases r with⟨r,b,n⟩|r
  .exact .inl ⟨r,λz=>b (.inl z),n⟩
  .exact .inr r
theorem ye.less{D:AG}:∀(v:List PV) (x:List V),ye K cl (Bx B D) φ H v x->ye K cl B φ H v x
 |[],x,h=>by erw[ye]at h ⊢;exact h
 |v::vs,x,h=>by
  erw[ye]at h ⊢;let⟨y,ys,e,r,l⟩:=h;exact⟨y,ys,e,yc.less v y r,ye.less vs ys l⟩
end
theorem DK.more{D:AG}(hn:H D=AB):∀{kvs:List (PV×PV)} {ks:List (Key×V)},DK K cl B φ H kvs ks->DK K cl (Bx B D) φ H kvs ks
 |[],ks,h=>h
 |(k,v)::r,ks,h=>by
  let⟨q,x,t,e,m,rv,l⟩:=h;exact⟨q,x,t,e,m,rv.more hn,DK.more hn l⟩
theorem DT.more{D:AG}(hn:H D=AB):∀{kvs:List (PV×PV)} {ks:List (List NK×V)},DT K cl B φ H kvs ks->DT K cl (Bx B D) φ H kvs ks
 |[],ks,h=>h
 |(k,v)::r,ks,h=>by
  let⟨q,x,t,e,m,rv,l⟩:=h;exact⟨q,x,t,e,m,rv.more hn,DT.more hn l⟩
theorem FS.more{D:AG}(hn:H D=AB):∀{kvs:List (AM×PV)} {ks:List (AM×V)},FS K cl B φ H kvs ks->FS K cl (Bx B D) φ H kvs ks
 |[],ks,h=>h
 |(k,v)::r,ks,h=>by
  let⟨x,t,e,rv,l⟩:=h;exact⟨x,t,e,rv.more hn,FS.more hn l⟩
theorem DK.less{D:AG}:∀{kvs:List (PV×PV)} {ks:List (Key×V)},DK K cl (Bx B D) φ H kvs ks->DK K cl B φ H kvs ks
 |[],ks,h=>h
 |(k,v)::r,ks,h=>by
  let⟨q,x,t,e,m,rv,l⟩:=h;exact⟨q,x,t,e,m,rv.less,DK.less l⟩
theorem DT.less{D:AG}:∀{kvs:List (PV×PV)} {ks:List (List NK×V)},DT K cl (Bx B D) φ H kvs ks->DT K cl B φ H kvs ks
 |[],ks,h=>h
 |(k,v)::r,ks,h=>by
  let⟨q,x,t,e,m,rv,l⟩:=h;exact⟨q,x,t,e,m,rv.less,DT.less l⟩
theorem FS.less{D:AG}:∀{kvs:List (AM×PV)} {ks:List (AM×V)},FS K cl (Bx B D) φ H kvs ks->FS K cl B φ H kvs ks
 |[],ks,h=>h
 |(k,v)::r,ks,h=>by
  let⟨x,t,e,rv,l⟩:=h;exact⟨x,t,e,rv.less,FS.less l⟩
theorem yh.less{D:AG}(rs:yh K cl (Bx B D) φ H st):yh K cl B φ H st:=by
 refine⟨rs.len,rs.inj,λn y e=>?_,rs.liv,λy h z=>rs.nb y h (.inl z),λy h=>rs.dom y (.inl h),λy h=>rs.nt y (.inl h)⟩;let⟨o,q,r⟩:=rs.obj n y e;refine⟨o,q,?_⟩
 cases o with
 |lst vs=>let⟨xs,hx,l⟩:=r;exact⟨xs,hx,l.less⟩
 |dct t kvs=>cases t<;>(let⟨xs,hx,l⟩:=r;exact⟨xs,hx,l.less⟩)
 |ins c fs=>let⟨ks,hx,l⟩:=r;exact⟨ks,hx,l.less⟩
 |dead=>exact r.elim
theorem yh.more{D:AG}{u:HO}(hn:H D=AB)(rs:yh K cl B φ H st)(hu:∀xs,u ≠ .tup xs:=by intro _ z;cases z):yh K cl (Bx B D) φ (L2.upd H D u) st:=by
 have nD:AA D∉φ:=λz=>by
  let⟨w,e⟩:=rs.there z;rw[hn]at e;cases e
 have s:Step φ H φ (L2.upd H D u):=.upd hn;have rs':=rs.upd (o:=u) hn;refine⟨rs.len,rs.inj,λn y e=>?_,rs.liv,λy h z=>z.elim (rs.nb y h) λq=>nD (q ▸ h),λy h=>?_,λy h xs e=>?_⟩
 .let⟨o,q,r⟩:=rs.obj n y e;have ne:y≠D:=λz=>nD (z ▸ A7 e);have hD:Bx B D D:=.inr rfl;refine⟨o,q,?_⟩
  cases o with
  |lst vs=>let⟨xs,hx,l⟩:=r;exact⟨xs,by rw[zc ne];exact hx,(l.more hn).skip hD⟩
  |dct t kvs=>
   cases t with
   |false=>let⟨xs,hx,l⟩:=r;exact⟨xs,by rw[zc ne];exact hx,(l.more hn).skip hD⟩
   |true=>let⟨xs,hx,l⟩:=r;exact⟨xs,by rw[zc ne];exact hx,(l.more hn).skip hD⟩
  |ins c fs=>let⟨ks,⟨dx,hx⟩,l⟩:=r;exact⟨ks,⟨dx,by rw[zc ne];exact hx⟩,(l.more hn).skip hD⟩
  |dead=>exact r.elim
 .rcases h with h|h
  .exact rs'.dom y h
  .subst h;exact⟨u,zf⟩
 .rcases h with h|h
  .exact rs'.nt y h xs e
  .subst h;rw[zf]at e;exact hu xs (AU e)
theorem yp.more{D:AG}{u:HO}(hn:H D=AB)(re:yp K cl B φ H ρ σ):yp K cl (Bx B D) φ (L2.upd H D u) ρ σ:=⟨re.len,λi v e=>by
 let⟨x,h,q⟩:=re.get i v e;exact⟨x,h,(q.more hn).skip (.inr rfl)⟩⟩
def yt:Tg->List (Option Nat)->Bool
 |.n i,sl=>decide (sl[i]?=AA AB)
 |.t l,sl=>l.all λi=>decide (sl[i]?=AA AB)
def zcs:∀(l:List Nat) (vs:List PV) (ρ:IC.Env) (j:Nat),j∉l->((l.zip vs).foldl (λρ p=>ρ.set p.1 (AA p.2)) ρ)[j]?=ρ[j]?
 |[],vs,ρ,j,h=>by simp
 |i::is,[],ρ,j,h=>by simp
 |i::is,v::vs,ρ,j,h=>by
  erw[C7,C2];rw[zcs is vs _ j λz=>h (AK _ z),Ai]
  rintro rfl
  exact h AV
def zcw:∀(l:List Nat) (vs:List PV) (ρ:IC.Env),((l.zip vs).foldl (λρ p=>ρ.set p.1 (AA p.2)) ρ).length=ρ.length
 |[],vs,ρ=>by simp
 |i::is,[],ρ=>by simp
 |i::is,v::vs,ρ=>by
  erw[C7,C2];rw[zcw is vs,BE]
theorem yp.untgt{sl:List (Option Nat)}{ρ0 ρ1:IC.Env}{v:PV}(hf:yt ct sl=AD)(h0:∀(i:Nat),sl[i]?=AA AB->ρ0[i]?=AA AB)(hb:yo ct v ρ0=AA ρ1)(re:yp K cl B φ H ρ1 σ):yp K cl B φ H ρ0 σ:=by
 cases ct with
 |n i=>
  cases hb
  erw[yt,decide_eq_true_eq]at hf;refine⟨by rw[<-re.len,BE],λj w e=>re.get j w ?_⟩;rw[Ai]
  .exact e
  .rintro rfl
   rw[h0 _ hf]at e;cases e
 |t l=>
  cases v with
  |tp k vs=>
   erw[yo]at hb;split at hb
   .cases hb
    erw[yt,Ad,decide_eq_true_eq]at hf;refine⟨by rw[<-re.len,zcw],λj w e=>re.get j w ?_⟩;rw[zcs]
    .exact e
    .intro z;rw[h0 _ (hf j z)]at e;cases e
   .cases hb
  |_=>cases hb
theorem yp.inn{sl:List (Option Nat)}(re:yp K cl B φ H ρ σ):yp K cl B φ H (sl.map λo=>o.bind λj=>(ρ[j]?).join) (L2.inn sl σ):=by
 unfold L2.inn;refine⟨by simp,λi v e=>?_⟩;rw[Av]at e ⊢
 cases q:sl[i]? with
 |none=>rw[q]at e;cases e
 |some o=>
  rw[q]at e
  cases o with
  |none=>cases e
  |some j=>
   erw[C3,Bz,Bn]at e ⊢
   cases q2:ρ[j]? with
   |none=>rw[q2]at e;cases e
   |some w=>
    rw[q2]at e;erw[Option.join_some]at e;subst e;let⟨x,hx,rv⟩:=re.get j v q2;exact⟨x,by rw[hx];rfl,rv⟩
def zkL:1000000<sizeLine:=by rw[Bm];decide
def zjn{α:Type}{o:Option Bool}{k:Bool->R α}{z:α}{s:SO}(h:onO o k=.ok z s):∃b,o=AA b/\k b=.ok z s:=by
 cases o with
 |none=>cases h
 |some b=>exact⟨b,rfl,h⟩
def zh{α β:Type}{r:R α}{k:α->SO->R β}{z:β}{s:SO}(h:r.bind k=.ok z s):∃a s1,r=.ok a s1/\k a s1=.ok z s:=by
 cases r with
 |ok a s1=>exact⟨a,s1,rfl,h⟩
 |exc c s=>cases h
 |bad=>cases h
def zcF{Rel:Ph->Hp->PV->V->Prop}{r:R (List PV)}{Q:VK}(h:Run S X σ B φ H Rel (ybh r) Q):∃zs st5,r=.ok zs st5/\zs.length<=1000000/\∀x H' φ',Step φ H φ' H'->yh X.K S.cl B φ' H' st5->Rel φ' H' (.lst zs) x->Q x H':=by
 cases r with
 |ok zs st5=>
  by_cases hz:zs.length<=1000000
  .simp only[ybh,if_pos hz]at h;exact⟨zs,st5,rfl,hz,h⟩
  .simp only[ybh,if_neg hz]at h;exact h.elim
 |exc k s=>exact h.elim
 |bad=>exact h.elim
def zdg{call:Nat->List PV->SO->R PV}{ρ0:IC.Env}{xs rest:List PV}{i:Nat}{v:PV}{st2 st5:SO}(hv:xs[i]?=AA v)(ec:yS call ρ0 ct cc ce (xs.drop i) st2=.ok rest st5):
  ∃ρ1 k st6,yo ct v ρ0=AA ρ1/\yaA (ev call ρ1 st2 cc)=.ok k st6/\((k=AF/\yS call ρ0 ct cc ce (xs.drop (i+1)) st6=.ok rest st5) \/
   (k=AD/\∃y st7 rest',ev call ρ1 st6 ce=.ok y st7/\yS call ρ0 ct cc ce (xs.drop (i+1)) st7=.ok rest' st5/\rest=y::rest')):=by
 let⟨hi,e⟩:=Af.1 hv;rw[BG hi,e,zp]at ec;let⟨o,st3,e1,ec⟩:=zh ec;let⟨rest',st4,e2,ec⟩:=zh ec;injection ec with q1 q2;subst q1 q2;unfold ya2 at e1
 cases eb:yo ct v ρ0 with
 |none=>rw[eb]at e1;cases e1
 |some ρ1=>
  rw[eb]at e1;let⟨bv,st6,e3,e1⟩:=zh e1;let⟨k,e4,e1⟩:=zjn e1;refine⟨ρ1,k,st6,rfl,by rw[e3];erw[yaA,R.bind,e4,onO],?_⟩
  cases k with
  |false=>cases e1;exact .inl ⟨rfl,e2⟩
  |true=>
   let⟨y,st7,e5,e1⟩:=zh e1
   cases e1
   exact .inr ⟨rfl,y,_,rest',e5,e2,rfl⟩
def ybO(S:Se)(K:AC)(B:AG->Prop)(D:AG)(φ1:Ph)(H1:Hp)(ρ0:IC.Env)(cB:List PV->SO->R (List PV))(zs:List PV)(st5:SO)(xs:List PV)(σc:St)(ys:List V)(H2:Hp):Prop:=
 ∃φ2 st2 vs rest,Step φ1 H1 φ2 H2/\H2 D=AA (.lst ys)/\AA D∉φ2/\yh K S.cl (Bx B D) φ2 H2 st2/\yp K S.cl (Bx B D) φ2 H2 ρ0 σc/\ye K S.cl (Bx B D) φ2 H2 vs ys/\cB xs st2=.ok rest st5/\vs++rest=zs
theorem stays{D:AG}{φ5:Ph}{H5:Hp}{u:HO}(s:Step φ H φ5 H5)(n:AA D∉φ)(e:H D=AA u):AA D∉φ5/\H5 D=AA u:=by
 refine⟨λz=>?_,s.keep D _ n e⟩;rcases s.new D z with q|q
 .exact n q
 .rw[e]at q;cases q
theorem ybO.skip{D:AG}{cB:List PV->SO->R (List PV)}{zs:List PV}{st5:SO}{xs:List PV}{φ2 φ5:Ph}{H2 H5:Hp}{ρ0 ρ1:IC.Env}{σ4:St}{st6:SO}{vs rest:List PV}{ys:List V}{v:PV}(s2:Step φ1 H1 φ2 H2)(s5:Step φ2 H2 φ5 H5)(nD:AA D∉φ2)(hD:H2 D=AA (.lst ys))
  (rs:yh K S.cl (Bx B D) φ5 H5 st6) (hf:yt ct (sl:List (Option Nat))=AD) (h0:∀(i:Nat),sl[i]?=AA AB->ρ0[i]?=AA AB) (hb:yo ct v ρ0=AA ρ1) (re:yp K S.cl (Bx B D) φ2 H2 ρ1 σ4) (l:ye K S.cl (Bx B D) φ2 H2 vs ys) (ec:cB xs st6=.ok rest st5) (ez:vs++rest=zs):
  ybO S K B D φ1 H1 ρ0 cB zs st5 xs σ4 ys H5:=⟨φ5,st6,vs,rest,s2.trans s5,(stays s5 nD hD).2,(stays s5 nD hD).1,rs,yp.untgt hf h0 hb (re.step s5),l.step s5,ec,ez⟩
theorem ybO.put{D:AG}{cB:List PV->SO->R (List PV)}{zs:List PV}{st5:SO}{xs:List PV}{φ2 φ5:Ph}{H2 H5:Hp}{ρ0 ρ1:IC.Env}{σ4:St}{st7:SO}{vs rest:List PV}{ys:List V}{v y:PV}{y':V}(hn:H1 D=AB)(s2:Step φ1 H1 φ2 H2)(s5:Step φ2 H2 φ5 H5)(nD:AA D∉φ2)(hD:H2 D=AA (.lst ys))
  (rs:yh K S.cl (Bx B D) φ5 H5 st7) (ry:yc K S.cl (Bx B D) φ5 H5 y y') (hf:yt ct (sl:List (Option Nat))=AD) (h0:∀(i:Nat),sl[i]?=AA AB->ρ0[i]?=AA AB) (hb:yo ct v ρ0=AA ρ1) (re:yp K S.cl (Bx B D) φ2 H2 ρ1 σ4) (l:ye K S.cl (Bx B D) φ2 H2 vs ys) (ec:cB xs st7=.ok rest st5) (ez:vs++y::rest=zs):
  H5 D=AA (.lst ys)/\ybO S K B D φ1 H1 ρ0 cB zs st5 xs σ4 (ys++[y']) (L2.upd H5 D (.lst (ys++[y']))):=by
 let⟨n5,h5⟩:=stays s5 nD hD;have hBD:Bx B D D:=.inr rfl;have s16:=s2.trans s5;exact⟨h5,φ5,st7,vs++[y],rest,⟨λb o n q=>by rw[zc (ze q hn)];exact s16.keep b o n q,s16.len,s16.pre,s16.new⟩,zf,n5,rs.skip hBD,(yp.untgt hf h0 hb (re.step s5)).skip hBD,
  ((l.step s5).append (by erw[ye];exact⟨y',[],rfl,ry,rfl⟩)).skip hBD,ec,by rw[D8];exact ez⟩
def zay{sl:List (Option Nat)}(i:Nat)(q:sl[i]?=AA AB):(sl.map λo=>o.bind λj=>(ρ[j]?).join)[i]?=AA none:=by
 rw[Av,q];rfl
def zdl{sl:List (Option Nat)}(hf:yt ct sl=AD){J:It}{xs zs:List PV}{st1 st5:SO}{Q:VK}(rs1:yh X.K S.cl B φ H st1)(re1:yp X.K S.cl B φ H ρ σ)(dr:RD S X B φ H xs J){D:AG}(hD:H D=AB)
  (e:yS S.call (sl.map λo=>o.bind λj=>(ρ[j]?).join) ct cc ce xs st1=.ok zs st5) (hz:zs.length<=1000000) (h1:∀x H' φ',Step φ H φ' H'->yh X.K S.cl B φ' H' st5->RV S X B φ' H' (.lst zs) x->Q x H'):
  ∃W:Nat->Nat->St->List V->Hp->Prop,(∃m,W 0 m (inn sl σ) [] (L2.upd H D (.lst [])))/\ybK J D (tG0 S X.K ct) (tT0 S X.K cc) (tE0 S X.K ce) W (Q (.ref D)):=by
 have nB:¬B D:=rs1.nB hD;have nD:AA D∉φ:=λz=>by
  let⟨w,e⟩:=rs1.there z;rw[hD]at e;cases e
 have r0:yp X.K S.cl (Bx B D) φ (L2.upd H D (.lst [])) (sl.map λo=>o.bind λj=>(ρ[j]?).join) (inn sl σ):=(yp.inn re1).more hD;have h0:=zay (ρ:=ρ) (sl:=sl);generalize (sl.map λo=>o.bind λj=>(ρ[j]?).join)=ρ0 at *;refine⟨λi m σc ys H2=>i+m=xs.length/\ybO S X.K B D φ H ρ0 (yS S.call ρ0 ct cc ce) zs st5 (xs.drop i) σc ys H2,
  ⟨xs.length,by lia,φ,st1,[],zs,.upd hD,zf,nD,rs1.more hD,r0,by erw[ye],by simpa using e,rfl⟩,?_⟩
 rintro i m σc ys H2 ⟨hm,φ2,st2,vs,rest,s2,hD2,nD2,rs2,re2,l2,ec,ez⟩
 refine⟨hD2,?_⟩
 by_cases hi:i<xs.length
 .have hzl:=congrArg CB ez;rw[Ao,l2.length]at hzl;refine .inr ⟨dr.go i φ2 H2 s2 hi,DY ∅ zkL,λσ' ys' H'=>ybO S X.K B D φ H ρ0 (yS S.call ρ0 ct cc ce) zs st5 (xs.drop (i+1)) σ' ys' H',λσ' ys' H' q=>⟨m-1,by lia,by lia,q⟩,λx H3 hy=>?_⟩;let⟨v,hv,rv,kk⟩:=dr.yld i φ2 H2 st2 x H3 (Bx B D) (λy z=>z.elim .inl λq=>.inr (q ▸ hD)) s2 rs2 hi hy;have s3:Step φ2 H2 φ2 H3:=⟨λb o _ e=>kk b o e,AN _,λ_ _ _ e=>e,λ_ h=>.inl h⟩;let⟨ρ1,k,st6,eb,et,q⟩:=zdg hv ec;refine⟨Bx B D,φ2,st2,_,v,ρ1,rs2.same kk,re2.step s3,rv,eb,λσ4 re4=>⟨Bx B D,φ2,st2,ρ1,rs2.same kk,re4,?_⟩⟩;rw[et]
  rintro k' H5 φ5 s5 rs5 rfl
  rcases q with⟨rfl,e2⟩|⟨rfl,y,st7,rest',e5,e2,rfl⟩
  .exact ybO.skip (s2.trans s3) s5 nD2 (kk D _ hD2) rs5 hf h0 eb re4 (l2.step s3) e2 ez
  .refine⟨Bx B D,φ5,st6,ρ1,rs5,re4.step s5,?_⟩;rw[e5];intro y' H6 φ6 s6 rs6 ry;exact ybO.put hD (s2.trans s3) (s5.trans s6) nD2 (kk D _ hD2) rs6 ry hf h0 eb re4 (l2.step s3) e2 ez
 .have ei:i=xs.length:=by lia
  subst ei;rw[CV]at ec
  cases ec
  refine .inl ⟨dr.stop φ2 H2 s2,h1 (.ref D) H2 φ2 s2 rs2.less ?_⟩;erw[yc];exact⟨D,ys,rfl,⟨hD2,nB,nD2⟩,by rw[<-ez,B4];exact l2.less⟩
def zby{sl:List (Option Nat)}(hf:yt ct sl=AD){H:Hp}{Q:VK}(h:tE S X (.comp sl ct ci cc ce) σ H Q):yb6 sl (tI S X ci) (tG0 S X.K ct) (tT0 S X.K cc) (tE0 S X.K ce) σ H Q:=by
 let⟨B,φ,st,ρ,rs,re,h⟩:=h;rw[v_comp]at h;refine⟨B,φ,st,ρ,rs,re,(Run.bind h).mono λJ H1 kq=>?_⟩;let⟨xs,st1,φ1,s1,rs1,dr,h1⟩:=kq;refine λD hD=>?_;let⟨zs,st5,e,hz,h1⟩:=zcF h1;exact zdl hf rs1 (re.step s1) dr hD e hz h1
def zg3{sc:Al}{NC:List AM}{sl:List (Option Nat)}{ifs:List AL}(hc:X.calm=AD)(O:yJ X sc NC sl)(hf:yt ct sl=AD)(hi:PI X tg iter (tI S X ci))(hg:∀j,PG (cxC X sc NC j) tg (tG0 S X.K ct))
  (ht:∀j,PTs (cxC X sc NC j) ifs (tT0 S X.K cc)) (he:∀j,PE (cxC X sc NC j) elt (tE0 S X.K ce)) (hs:∀x,foldedSetIterable iter X.env x=pure x:=by intro _;rfl):
  PE X (.ListComp elt [⟨tg,iter,ifs,0⟩] sc pos) (tE S X (.comp sl ct ci cc ce)):=
 (zhb hc O hi hg ht he hs).imp λσ H Q h=>zby hf h
def zhs{sc:Al}{NC:List AM}{sl:List (Option Nat)}{ifs:List AL}{i:Nat}{x:AM}{spos:BZ}(hN:X.N.Nodup)(hix:X.N[i]?=AA x)(hx:Loc X.env.scope x)(hc:X.calm=AD)(O:yJ X sc NC sl)(hf:yt ct sl=AD)(hi:PI X tg iter (tI S X ci))(hg:∀j,PG (cxC X sc NC j) tg (tG0 S X.K ct))
  (ht:∀j,PTs (cxC X sc NC j) ifs (tT0 S X.K cc)) (he:∀j,PE (cxC X sc NC j) elt (tE0 S X.K ce))
  (hsw:swapsWith (.ListComp elt [⟨tg,iter,ifs,0⟩] sc pos) (AA (.Name x px)) spos.line X.env=pure true:=by rfl) (hs:∀x,foldedSetIterable iter X.env x=pure x:=by intro _;rfl)
  (hfn:X.fn x=AD \/ X.env.scope.names.lookup x=AA .local:=by first|exact .inl rfl|exact .inr rfl|assumption):PS X (.Assign [.Name x px] (.ListComp elt [⟨tg,iter,ifs,0⟩] sc pos) spos) (tS S X (.asg (.n i) (.comp sl ct ci cc ce))):=
 (zhd hN hix hx hc O hi hg ht he hsw hs hfn).imp λD σ H ⟨B,φ,st,ρ,rs,re,h⟩=>by
  refine zby hf ?_;erw[ex]at h;exact tE.fl rs re h λx H1 v st1 φ1 s rs1 re1 rv h1=>h1 _ H1 φ1 .rfl rs1 (re1.set i rv)
end
def spI(K:AC)(cl:Nat->AG)(call:Nat->List PV->SO->R PV)(f:Nat):Sp:=λvs H Q E=>∃B φ st args,yh K cl B φ H st/\ye K cl B φ H args vs/\match call f args st with
 |.ok v st'=>∀x H' φ',Step φ H φ' H'->yh K cl B φ' H' st'->yc K cl B φ' H' v x->Q x H'
 |.exc c st'=>∀H' φ',Step φ H φ' H'->yh K cl B φ' H' st'->E (.ref (cl c)) AB H'
 |.bad=>False
section
variable {S:Se}{X:Cx}{k:Nat}{f:AG}{fd:Aj}{ps ks:List AM}{sp:Sp}{dvs:List V}{ds:List AE}{x:AM}{p pos:BZ}{e:AL}{es:List AL}{t tk:TA}{CX:CXT}{σ:St}{H:Hp}
def zb2{π:List (AG×BV)}{s:AH}{Q:VK}{us:List AE}{vs:List V}{E:XK}(F:yaD X.prog X.w X.K X.mg X.base CX k f fd ps sp)(hr:yap k X.A)(hb:Binds X.K fd ps ds)(hd:Vals dvs ds)
  (I:Inv X π σ H s) (r:Vals vs us) (h:sp (vs++dvs) H Q E) (hx:∀e s',CX X.stack H s E e s'->X.xe e s'):A2 (model X.prog X.w) X.A (call (.ref f) us) (EP X π σ Q) X.xe s:=by
 have r2:Vals (vs++dvs) (us++ds):=r.append hd;have hl:(us++ds).length=ps.length:=by rw[<-r2.length];exact F.len _ _ _ _ h
 refine F3 (DG (F.run X.A X.stack s H ⟨us,[]⟩ (us++ds) (vs++dvs) Q E hr I.env0 (hb s us I.kIn hl) r2 h) λr s' hq=>?_)
 cases r with
 |error e=>exact hx e s' hq
 |ok fl=>
  cases fl with
  |ret u=>exact I.after hq
  |next=>exact BH hq
  |brk=>exact BH hq
  |cont=>exact BH hq
def ybM(CX:CXT)(X:Cx)(sp:Sp)(dvs:List V)(t:TA):TE:=λσ H Q=>t σ H λvs H1=>∃E:XK,sp (vs++dvs) H1 Q E/\∀π s e s',Inv X π σ H1 s->CX X.stack H1 s E e s'->X.xe e s'
def zfk(F:yaD X.prog X.w X.K X.mg X.base CX k f fd ps sp)(hr:yap k X.A)(hg:Gl X x)(hm:X.mg x=AA (.ref f))(hk:Aa X.K (.ref f)=AD)(hb:Binds X.K fd ps ds)(hd:Vals dvs ds)
  (ha:PA X (e::es) t) (hdb:(x==("__debug__":AM))=false:=by decide) (he:starEach (e::es) X.env=(AF,eval e X.env)::starEach es X.env:=by rfl) (hpl:(backTo pos (starEach es X.env)).any (·.1)=false:=by rfl):
  PE X (.Call (.Name x p) (e::es) [] pos) (ybM CX X sp dvs t):=by
 intro π s σ H Q I h;refine BO (zaA I hg hm ?_ hdb);refine Ee (h₀:=X.base) I.ok.mod.kin hk (thn (ha pos π s σ H _ I h) λus s1 kq=>?_) he hpl;let⟨vs,H1,I1,r,E,q,hx⟩:=kq;refine ⟨I1.kIn,?_⟩;exact zb2 F hr hb hd I1 r q λe s' c=>hx π s1 e s' I1 c
def zew(F:yaD X.prog X.w X.K X.mg X.base CX k f fd ps sp)(hr:yap k X.A)(hg:Gl X x)(hm:X.mg x=AA (.ref f))(hk:Aa X.K (.ref f)=AD)(hb:Binds X.K fd ps ds)(hd:Vals dvs ds)
  (hdb:(x==("__debug__":AM))=false:=by decide):PE X (.Call (.Name x p) [] [] pos) (ybM CX X sp dvs ydY):=by
 intro π s σ H Q I h;let⟨E,q,hx⟩:=h;refine BO (zaA I hg hm ?_ hdb);exact PySem.W.callWith_K0 I.kIn hk (zb2 F hr hb hd I .nil q λe s' c=>hx π s e s' I c)
variable {B:AG->Prop}{φ:Ph}{st:SO}{ces:Ces}{fi:Nat}
def z5{vs:List PV}{xs:List V}{Q:VK}(rs:yh X.K S.cl B φ H st)(l:ye X.K S.cl B φ H vs xs)(h:Run S X σ B φ H (RV S X B) (S.call fi vs st) Q):
  ∃E:XK,spI X.K S.cl S.call fi xs H Q E/\∀π s e s',Inv X π σ H s->CX1 X.prog X.w X.stack H s E e s'->X.xe e s':=by
 cases c:S.call fi vs st with
 |ok v st'=>
  rw[c]at h;refine⟨λ_ _ _=>False,⟨B,φ,st,vs,rs,l,by rw[c];exact h⟩,λπ s e s' _ z=>?_⟩;let⟨_,_,_,_,_,_,_,_,_,_,_,_,_,_,z⟩:=z;exact z.elim
 |exc k st'=>
  rw[c]at h;refine⟨λcls _ H'=>cls=.ref (S.cl k)/\∃φ',Step φ H φ' H'/\yh X.K S.cl B φ' H' st',⟨B,φ,st,vs,rs,l,by rw[c];exact λH' φ' s r=>⟨rfl,φ',s,r⟩⟩,λπ s e s' I z=>h e s' (.inl ⟨π,H,s,φ,I,.rfl,z⟩)⟩
 |bad=>rw[c]at h;exact h.elim
def zgR(F:yaD X.prog X.w X.K X.mg X.base (CX1 X.prog X.w) k f fd ps (spI X.K S.cl S.call fi))(hr:yap k X.A)(hg:Gl X x)(hm:X.mg x=AA (.ref f))(hk:Aa X.K (.ref f)=AD)(hb:Binds X.K fd ps [])
  (ha:PA X (e::es) (tAs S X ces)) (hdb:(x==("__debug__":AM))=false:=by decide) (he:starEach (e::es) X.env=(AF,eval e X.env)::starEach es X.env:=by rfl) (hpl:(backTo pos (starEach es X.env)).any (·.1)=false:=by rfl):
  PE X (.Call (.Name x p) (e::es) [] pos) (tE S X (.call fi ces)):=
 (zfk F hr hg hm hk hb .nil ha hdb he hpl).imp λσ H Q ⟨B,φ,st,ρ,rs,re,h⟩=>by
  erw[ev]at h;refine tAs.bind rs re h λxs H1 vs st1 φ1 s1 rs1 re1 rv h1=>?_;rw[B4];exact z5 rs1 rv h1
def zf0(F:yaD X.prog X.w X.K X.mg X.base (CX1 X.prog X.w) k f fd ps (spI X.K S.cl S.call fi))(hr:yap k X.A)(hg:Gl X x)(hm:X.mg x=AA (.ref f))(hk:Aa X.K (.ref f)=AD)(hb:Binds X.K fd ps [])
  (hdb:(x==("__debug__":AM))=false:=by decide):PE X (.Call (.Name x p) [] [] pos) (tE S X (.call fi .nil)):=
 (zew F hr hg hm hk hb .nil hdb).imp λσ H Q ⟨B,φ,st,ρ,rs,re,h⟩=>by
  erw[ev,evs,R.bind]at h;exact z5 rs (by erw[ye];rfl) h
end
section
variable {P:AZ}{w:A8}{K:AC}{mg:AM->Option AE}{base:Ak}{cl:Nat->AG}{T:Nat->Option IC.Fn}{fi:Nat}{fn:IC.Fn}{x qual:AM}{stm:B7}{f:AG}{fd:Aj}{N ps:List AM}{k:Nat}
theorem CX1.mono{outer:List Az}{H:Hp}{s:AH}{E E':XK}{e:AE}{s':AH}(h:CX1 P w outer H s E e s')(n:∀cls H',E cls AB H'->E' cls AB H'):CX1 P w outer H s E' e s':=by
 let⟨a,cls,a0,H',Bh,r1,r2,r3,r4,r5,r6,r7,r8,r9,r10⟩:=h;exact⟨a,cls,a0,H',Bh,r1,r2,r3,r4,r5,r6,r7,r8,r9,n _ _ r10⟩
theorem yp.start{B:AG->Prop}{φ:Ph}{H:Hp}{args:List PV}{vs:List V}(l:ye K cl B φ H args vs)(n:Nat)(hn:N.length-vs.length=n):yp K cl B φ H (args.map AA++Ap n AB) (L2.start N vs):=by
 have hl:=l.length;unfold L2.start;refine⟨by simp[hl,hn],λi v e=>?_⟩
 by_cases hi:i<args.length
 .rw[AQ (by simpa using hi),Av]at e
  cases q:args[i]? with
  |none=>rw[q]at e;cases e
  |some v'=>
   rw[q]at e
   cases e
   let⟨y,hy,rv⟩:=l.get i q;exact⟨y,by rw[AQ (by simp;lia),Av,hy];rfl,rv⟩
 .rw[A1 (by simp;lia),Dh]at e;split at e<;>cases e
theorem leave{N:List AM}{scope:Al}{cd:AE}{A:A3}{outer:List Az}{s₀:AH}{H₀:Hp}{E:XK}{call:Nat->List PV->SO->R PV}{σ:St}{B:AG->Prop}{φ:Ph}{H:Hp}{c:Nat}{st':SO}{e:AE}{s':AH}
  (h:ExcAt ⟨cl,call,AD⟩ (yaq (CX1 P w) P w K mg base N qual scope f cd A outer s₀ H₀ E) σ B φ H c st' e s') (n:∀φ' H',Step φ H φ' H'->yh K cl B φ' H' st'->E (.ref (cl c)) AB H'):
  (yaq (CX1 P w) P w K mg base N qual scope f cd A outer s₀ H₀ E).xe e s':=by
 rcases h with⟨π,H1,s,φ1,I,s1,q⟩|⟨_,π,H1,s,φ1,h',e0,vs,I,s1,rs,mk,rfl,rfl⟩|⟨_,π,H1,s,I,q⟩
 .exact zk4 π σ H1 s e s' I (q.mono λcls H' ⟨e1,φ',s2,r⟩=>by subst e1;exact n φ' H' (s1.trans s2) r)
 .exact ze4 I mk (n φ1 H1 s1 rs)
 .exact zk6 I (q.mono λcls H' ⟨e1,φ',s2,r⟩=>by subst e1;exact n φ' H' s2 r)
def zel(hT:T fi=AA fn):∀(args:List PV) (st:SO),yd T (k+1) fi args st ≠ .bad->args.length=fn.np:=λargs st hne=>by
 apply Classical.byContradiction;intro c;apply hne;rw[yd,hT];exact if_neg c
def zgw(hT:T fi=AA fn)(hnp:ps.length=fn.np){vs:List V}{H:Hp}{Q:VK}{E:XK}(h:spI K cl (yd T (k+1)) fi vs H Q E):vs.length=ps.length:=by
 let⟨B,φ,st,args,rs,l,h⟩:=h;rw[hnp,<-l.length];refine zel (k:=k) hT args st λz=>?_;rw[z]at h;exact h
def zg9(hT:T fi=AA fn)(hns:N.length=fn.ns){scope:Al}{cdv:AE}{A:A3}{outer:List Az}{s:AH}{vs:List V}{H:Hp}{Q:VK}{E:XK}(h:spI K cl (yd T (k+1)) fi vs H Q E):
  tSs ⟨cl,yd T k,AD⟩ (yaq (CX1 P w) P w K mg base N qual scope f cdv A outer s H E) fn.body {nx:=λ_ H'=>Q .non H',rt:=Q} (L2.start N vs) H:=by
 let⟨B,φ,st,args,rs,l,h⟩:=h;have hl:args.length=fn.np:=zel (k:=k) hT args st λz=>by rw[z]at h;exact h
 have hlen:=l.length;rw[yd,hT]at h;dsimp only at h;rw[if_pos hl]at h
 by_cases hp:fn.pure=AD
 .rw[if_pos hp]at h
  by_cases hz:nLs args=AD
  .rw[if_pos hz]at h;have rs0:yh K cl (λa=>B a \/ AA a∈φ) [] H []:=⟨rfl,λm n a e=>by simp at e,λn a e=>by simp at e,λn o e=>by simp at e,λa z=>by simp at z,λa z=>z.elim (rs.dom a) rs.there,λa z xs e=>z.elim (λb=>rs.nt a b xs e) λq=>rs.untup q e⟩;have back:∀{φ':Ph} {H':Hp},Step [] H φ' H'->Step φ H φ H'/\yh K cl B φ H' st:=λ{φ' H'} s'=>
    have kk:∀b o,H b=AA o->H' b=AA o:=λb o e=>s'.keep b o (by simp) e
    ⟨⟨λb o _ e=>kk b o e,AN _,λ_ _ _ e=>e,λ_ h=>.inl h⟩,rs.same kk⟩
   refine⟨_,[],[],_,rs0,yp.start (ye.inn rs.nb args vs hz l) (fn.ns-fn.np) ∅,?_⟩;show yW _ _ _ _ _ (exs (yd T k) (args.map AA++Ap (fn.ns-fn.np) AB) [] fn.body) _
   cases e:exs (yd T k) (args.map AA++Ap (fn.ns-fn.np) AB) [] fn.body with
   |nx ρ' st'=>
    rw[e]at h;intro σ' H' φ' s' rs' re';let⟨s2,r2⟩:=back s';exact h .non H' φ s2 r2 (by erw[yc])
   |rt v st'=>
    rw[e]at h;dsimp only at h
    by_cases hv:nL v=AD
    .rw[if_pos hv]at h;intro y H' φ' s' rs' rv;let⟨s2,r2⟩:=back s';exact h y H' φ s2 r2 (yc.out v y hv rv)
    .rw[if_neg hv]at h;exact h.elim
   |exc c ρ' st'=>
    rw[e]at h;intro σ' φ1 H1 ev s' s1 _ ex;refine leave ex λφ2 H2 s2 _=>?_;let⟨s3,r3⟩:=back (s1.trans s2);exact h H2 φ s3 r3
   |bk ρ' st'=>rw[e]at h;exact h.elim
   |ct ρ' st'=>rw[e]at h;exact h.elim
   |bad=>rw[e]at h;exact h.elim
  .rw[if_neg hz]at h;exact h.elim
 .rw[if_neg hp]at h;refine⟨B,φ,st,_,rs,yp.start l (fn.ns-fn.np) ∅,?_⟩;show yW _ _ _ _ _ (exs (yd T k) (args.map AA++Ap (fn.ns-fn.np) AB) st fn.body) _
  cases e:exs (yd T k) (args.map AA++Ap (fn.ns-fn.np) AB) st fn.body with
  |nx ρ' st'=>
   rw[e]at h;intro σ' H' φ' s' rs' re';exact h .non H' φ' s' rs' (by erw[yc])
  |rt v st'=>
   rw[e]at h;intro y H' φ' s' rs' rv;exact h y H' φ' s' rs' rv
  |exc c ρ' st'=>
   rw[e]at h;intro σ' φ1 H1 ev s' s1 _ ex;exact leave ex λφ2 H2 s2 r2=>h H2 φ2 (s1.trans s2) r2
  |bk ρ' st'=>rw[e]at h;exact h.elim
  |ct ρ' st'=>rw[e]at h;exact h.elim
  |bad=>rw[e]at h;exact h.elim
end
def tyN:Ty->String
 |.int=>"int" | .bool=>"bool" | .str=>"str" | .tuple=>"tuple" | .list=>"list" | _=>""
structure ydN(K:AC)(t:Ty):Prop where
 n:Au K (.type "NoneType") (.type (tyN t))=AA (yaN .non t)
 b:Au K (.type "bool") (.type (tyN t))=AA (yaN (.bl AD) t)
 i:Au K (.type "int") (.type (tyN t))=AA (yaN (.int 0) t)
 s:Au K (.type "str") (.type (tyN t))=AA (yaN (.str Cm) t)
 p:Au K (.type "tuple") (.type (tyN t))=AA (yaN (.tp AD []) t)
 l:Au K (.type "list") (.type (tyN t))=AA (yaN (.lst []) t)
section
variable {S:Se}{X:Cx}{σ:St}{B:AG->Prop}{φ:Ph}{H:Hp}{st:SO}{p pos p2 px:BZ}{a b c d o:AL}{ca cb cc:Ce}{t:Ty}
def yeU(S:Se)(X:Cx)(t:Ty):List V->Hp->VK->Prop:=λxs H Q=>∃B φ st v x z,xs=[x,.ty (tyN t)]/\yh X.K S.cl B φ H st/\yc X.K S.cl B φ H v x/\ybu v [t]=AA z/\ycu t=AD /\
 ∀z' H' φ',Step φ H φ' H'->yh X.K S.cl B φ' H' st->yc X.K S.cl B φ' H' z z'->Q z' H'
def zil(Z:ydN X.K t):yV X (.builtin "isinstance") (yeU S X t):=by
 rintro π s σ H xs us Q I r ⟨B,φ,st,v,x,z,rfl,rs,rv,e,hb,q⟩
 let⟨u,c',rfl,ru,rc⟩:=vals2 r
 cases (show c'=F1 (tyN t)from rc)
 have fin:∀(k:Bool) (tk:Nat),z=.bl k->EP X π σ Q (.bool k) {s with toks:=tk}:=λk tk ez=>⟨.bl k,H,I.tok tk,rfl,q _ H φ .rfl rs (by subst ez;erw[yc])⟩
 cases v with
 |non=>
  erw[yc]at rv;subst rv
  cases (show u=Ba from ru)
  erw[ybu,hb,if_true]at e;exact CJ PySem.W.kitx_none I.kIn CS Z.n (λz=>nomatch z) λtk=>fin _ tk (by cases e;cases t<;>rfl)
 |bl k=>
  erw[yc]at rv;subst rv
  cases (show u=C5 k from ru)
  erw[ybu,hb,if_true]at e;exact CJ PySem.W.kitx_bool I.kIn CS Z.b (λz=>nomatch z) λtk=>fin _ tk (by cases e;cases t<;>rfl)
 |int k=>
  erw[yc]at rv;subst rv;let⟨tk,rfl⟩:=ru;erw[ybu,hb,if_true]at e;exact CJ PySem.W.kitx_int I.kIn CS Z.i (λz=>nomatch z) λtk=>fin _ tk (by cases e;cases t<;>rfl)
 |str k=>
  erw[yc]at rv;subst rv;let⟨tk,rfl⟩:=ru;erw[ybu,hb,if_true]at e;exact CJ PySem.W.kitx_str I.kIn CS Z.s (λz=>nomatch z) λtk=>fin _ tk (by cases e;cases t<;>rfl)
 |tp k vs=>
  erw[yc]at rv;let⟨y,ys,rfl,rt,l⟩:=rv
  cases (show u=BF y from ru)
  erw[ybu,hb,if_true]at e;let⟨its,_,⟨o,g,c,_,_⟩,_⟩:=I.tuple rt.sq;exact CJ PySem.W.kitx_tuple I.kIn ⟨o,g,c⟩ Z.p (λz=>nomatch z) λtk=>fin _ tk (by cases e;cases t<;>rfl)
 |lst vs=>
  erw[yc]at rv;let⟨y,ys,rfl,rt,l⟩:=rv
  cases (show u=BF y from ru)
  erw[ybu,hb,if_true]at e;let⟨_,_,n,_,h1⟩:=(show yF X.prog X.w H s.heap y (.lst ys)from I.hok y _ rt.1);exact CJ PySem.W.kitx_list I.kIn ⟨_,h1,rfl⟩ Z.l (λz=>nomatch z) λtk=>fin _ tk (by cases e;cases t<;>rfl)
 |loc n=>cases e
 |scr n=>cases e
 |fnc n=>cases e
 |exn n=>erw[ybu,Ay,List.all_nil,hb,CL,if_true]at e;cases e
def zi4{T:AM}(Z:ydN X.K t)(ht:ycu t=AD)(hg:Gl X "isinstance")(hm:X.mg "isinstance"=AB)(hgT:Gl X T)(hmT:X.mg T=AB)(hT:bootBuiltins T=AA (.type (tyN t)))(ha:PE X a (tE S X ca))(hnT:T ≠ "__name__":=by decide)(hdT:(T==("__debug__":AM))=false:=by decide)
  (he:starEach [a,.Name T p2] X.env=(AF,eval a X.env)::starEach [.Name T p2] X.env:=by rfl) (hpl:(backTo pos (starEach [.Name T p2] X.env)).any (·.1)=false:=by rfl):
  PE X (.Call (.Name "isinstance" p) [a,.Name T p2] [] pos) (tE S X (.isi ca [t])):=
 (zc3 (zil Z) hg hm FX (zX ha (zX (zg6 (v:=.ty (tyN t)) hgT hmT hT rfl hnT hdT) zkF) he) ⋯ ⋯ he hpl).imp λσ H Q ⟨B,φ,st,ρ,rs,re,h⟩=>by
  erw[ev]at h;refine tE.bind rs re h λx H1 v st1 φ1 s1 rs1 re1 rv h1=>?_;let⟨z,e,q⟩:=zu h1 rs1;exact⟨B,φ1,st1,v,x,z,rfl,rs1,rv,e,ht,q⟩
def zfc{st4:SO}{x y v:PV}(h:yaZ st x y v=AA st4):∃n xs k j,x=.loc n/\st[n]?=AA (.lst xs)/\y=.int k/\ixI xs.length k=AA j/\st4=st.set n (.lst (xs.set j v)):=by
 cases x with
 |loc n=>
  erw[yaZ]at h
  cases q:st[n]? with
  |none=>rw[q]at h;cases h
  |some o=>
   rw[q]at h
   cases o with
   |lst xs=>
    cases y with
    |int k=>
     dsimp only at h
     cases q2:ixI xs.length k with
     |none=>rw[q2]at h;cases h
     |some j=>rw[q2]at h;exact⟨n,xs,k,j,rfl,q,rfl,q2,(AU h).symm⟩
    |_=>cases h
   |_=>cases h
 |_=>cases h
theorem ye.put{K:AC}{cl:Nat->AG}:∀{vs:List PV} {xs:List V} (j:Nat) {v:PV} {x:V},ye K cl B φ H vs xs->yc K cl B φ H v x->ye K cl B φ H (vs.set j v) (xs.set j x)
 |[],xs,j,v,x,l,r=>by erw[ye]at l;subst l;simp[ye]
 |w::vs,xs,0,v,x,l,r=>by
  erw[ye]at l;let⟨y,ys,rfl,_,l⟩:=l;erw[BP,ye];exact⟨x,ys,rfl,r,l⟩
 |w::vs,xs,j+1,v,x,l,r=>by
  erw[ye]at l;let⟨y,ys,rfl,ry,l⟩:=l;erw[BQ,ye];exact⟨y,ys.set j x,rfl,ry,ye.put j l r⟩
def ziq(he:PE X a (tE S X ca))(ho:PE X b (tE S X cb))(hi:PE X c (tE S X cc))(hs:swapsWithSole [.Subscript b c px] a pos.line X.env=pure false:=by rfl)(hw:swappedStores [.Subscript b c px] a X.env=pure none:=by rfl)
  (hg:PG X (.Subscript b c px) (yeJ (tE S X cb) (tE S X cc) ycL):=by exact zgn ‹_› ‹_› zcC):PS X (.Assign [.Subscript b c px] a pos) (tS S X (.six cb cc ca)):=
 (zgx he hg hs hw).imp λD σ H ⟨B,φ,st,ρ,rs,re,h⟩=>by
  erw[ex]at h;refine tE.fl rs re h λv' H1 v st1 φ1 s1 rs1 re1 rv h1=>tE.fl rs1 re1 h1 λx' H2 x st2 φ2 s2 rs2 re2 rx h2=>tE.fl rs2 re2 h2 λy' H3 y st3 φ3 s3 rs3 re3 ry h3=>?_
  cases e:yaZ st3 x y v with
  |none=>rw[e]at h3;exact h3.elim
  |some st4=>
   rw[e]at h3;let⟨n,xs,k,j,rfl,hn,rfl,hj,rfl⟩:=zfc e;erw[yc]at ry;subst ry;let⟨l,ys,rfl,hp,hx,lr⟩:=rs3.list (rx.step s3) hn;refine⟨l,ys,k,j,rfl,rfl,hx,by rw[<-lr.length];exact hj,?_⟩;have s4:Step φ3 H3 φ3 (L2.upd H3 l (.lst (ys.set j v'))):=.put (A7 hp);exact h3 σ _ φ3 s4 (rs3.put hp ⟨_,zf,(lr.put j ((rv.step s2).step s3)).step s4⟩) (re3.step s4)
end
section
variable {S:Se}{X:Cx}{σ:St}{B:AG->Prop}{φ:Ph}{H:Hp}{st:SO}{p pos p2 px py pt pt2 apos:BZ}{a b c d o:AL}{ca cb cc:Ce}{kt k2:Nat}
def ziO{i j:Nat}{x y:AM}(hc:X.calm=AD)(hN:X.N.Nodup)(hi:X.N[i]?=AA x)(hj:X.N[j]?=AA y)(hij:i≠j)(h:PS X (.Assign [.Tuple [.Name x px,.Name y py] kt pt] (.Tuple [a,b] k2 pt2) pos) (yeH i j (tAs S X (.cons ca (.cons cb .nil))))):
  PS X (.Assign [.Tuple [.Name x px,.Name y py] kt pt] (.Tuple [a,b] k2 pt2) pos) (tS S X (.asg (.t [i,j]) (.tup (.cons ca (.cons cb .nil))))):=
 h.imp λD σ H ⟨B,φ,st,ρ,rs,re,h⟩=>by
  erw[ex,ev]at h;refine⟨B,φ,st,ρ,rs,re,?_⟩
  cases e:evs S.call ρ st (.cons ca (.cons cb .nil))with
  |bad=>rw[e]at h;exact h
  |exc k st'=>rw[e]at h;exact λe s' x=>h σ φ H e s' .rfl re x
  |ok vs st'=>
   rw[e]at h;intro xs H' φ' s rs' l;erw[R.bind]at h;split at h
   .rcases vs with _|⟨v,_|⟨w,_|⟨u,t⟩⟩⟩
    .exact h.elim
    .exact h.elim
    .let⟨v',w',rfl,rv,rw⟩:=l.two;refine⟨v',w',rfl,?_⟩;exact h _ H' φ' s rs' (((re.step s).set i rv).set j rw)
    .exact h.elim
   .exact h.elim
def zhQ{bo:BOp}{v w z:PV}(h:ybd bo v w=AA z):∃i j,v=.int i/\w=.int j/\IC.binI bo i j=AA z:=by
 unfold ybd at h;split at h
 .exact⟨_,_,rfl,rfl,h⟩
 .cases h
def zhJ:PIp X .Add (rT2 S X (ybd .add)):=by
 rintro π s σ H x y v u Q I rx ry ⟨B,φ,st,a,b,z,rs,ra,rb,e,q⟩
 let⟨i,j,rfl,rfl,e⟩:=zhQ e
 cases e
 erw[yc]at ra rb;subst ra rb;exact ziw π s σ H _ _ v u Q I rx ry ⟨i,j,rfl,rfl,q _ H φ .rfl rs (by erw[yc])⟩
end
end L2
namespace WK
open PySem L2 IC
def GC(K:AC)(mg:AM->Option AE)(cl:Nat->AG)(x:AM)(v:PV):Prop:=∃y:AG,mg x=AA (.ref y)/\∀B φ H,yc K cl B φ H v (.ref y)
def zkx{S:Se}{X:Cx}{x:AM}{v:PV}{pos:BZ}(hg:Gl X x)(h:GC X.K X.mg S.cl x v)(hd:(x==("__debug__":AM))=false:=by decide):PE X (.Name x pos) (tE S X (.cst v)):=by
 let⟨y,hm,hk⟩:=h;exact zeQ hg hm hk hd
def zge:bootBuiltins "int"=AA (.type "int"):=by decide +kernel
def zg7:bootBuiltins "bool"=AA (.type "bool"):=by decide +kernel
def zcY:bootBuiltins "tuple"=AA (.type "tuple"):=by decide +kernel
def zh4:bootBuiltins "list"=AA (.type "list"):=by decide +kernel
def zia:bootBuiltins "len"=AA (.builtin "len"):=by decide +kernel
def ziG:bootBuiltins "min"=AA (.builtin "min"):=by decide +kernel
end WK
namespace L2
open PySem PySem.Spec PyProof.Rows IC
def shC:Sum Ce Int->Option Int
 |.inl _=>AB
 |.inr i=>AA i
def yaC:List (Option Int)->List V->List V
 |[],_=>[]
 |some i::r,zs=>.int i::yaC r zs
 |none::r,z::zs=>z::yaC r zs
 |none::_,[]=>[]
def pick:List (Option Int)->List V->List V
 |none::r,v::vs=>v::pick r vs
 |some _::r,_::vs=>pick r vs
 |_,_=>[]
def nKw:List (Option Int)->Nat
 |[]=>0
 |none::r=>nKw r+1
 |some _::r=>nKw r
def yck:Ces->Nat
 |.nil=>0
 |.cons _ r=>yck r+1
def gK(np:Nat)(sh:List (Option Int))(vs zs:List V):List V:=if vs.length=np/\zs.length=nKw sh then vs++yaC sh zs else []
def zd4{call:Nat->List PV->SO->R PV}{ρ:IC.Env}:∀(a:Ces) {st st':SO} {vs:List PV},evs call ρ st a=.ok vs st'->vs.length=yck a
 |.nil,st,st',vs,h=>by erw[evs]at h;cases h;rfl
 |.cons e r,st,st',vs,h=>by
  erw[evs]at h
  cases q:ev call ρ st e with
  |ok v s1=>
   rw[q]at h;erw[R.bind]at h
   cases q2:evs call ρ s1 r with
   |ok ws s2=>
    rw[q2]at h
    cases h
    simp[yck,zd4 r q2]
   |exc c s=>rw[q2]at h;cases h
   |bad=>rw[q2]at h;cases h
  |exc c s=>rw[q]at h;cases h
  |bad=>rw[q]at h;cases h
def zed{call:Nat->List PV->SO->R PV}{ρ:IC.Env}:∀(a b:Ces) (st:SO),evs call ρ st (yca a b)=(evs call ρ st a).bind λvs st1=>(evs call ρ st1 b).bind λws st2=>.ok (vs++ws) st2
 |.nil,b,st=>by
  erw[yca,evs,R.bind,DD]
  cases evs call ρ st b<;>rfl
 |.cons e r,b,st=>by
  erw[yca,evs]
  cases ev call ρ st e with
  |ok v st1=>
   erw[R.bind];rw[zed r b st1]
   cases evs call ρ st1 r with
   |ok vs st2=>
    erw[R.bind]
    cases evs call ρ st2 b<;>rfl
   |exc c s=>rfl
   |bad=>rfl
  |exc c s=>rfl
  |bad=>rfl
section
variable {S:Se}{X:Cx}{k:Nat}{f:AG}{fd:Aj}{ps ks:List AM}{sp:Sp}{x:AM}{p pos kpos:BZ}{e:AL}{es:List AL}{kws:List CU}{nm:Option AM}{t tk:TA}{CX:CXT}{ca:Ce}{ces:Ces}{items:List (Sum Ce Int)}{g:List AE->List AE->List AE}{gV:List V->List V->List V}
def zaf{K:AC}{cl:Nat->AG}{B:AG->Prop}{φ:Ph}{H:Hp}{call:Nat->List PV->SO->R PV}{ρ:IC.Env}:∀(items:List (Sum Ce Int)) {st st':SO} {vs:List PV} {xs:List V},evs call ρ st (yaa items)=.ok vs st'->ye K cl B φ H vs xs->yaC (items.map shC) (pick (items.map shC) xs)=xs/\(pick (items.map shC) xs).length=nKw (items.map shC)
 |[],st,st',vs,xs,h,l=>by
  erw[yaa,evs]at h
  cases h
  erw[ye]at l;subst l;exact⟨rfl,rfl⟩
 |.inl c::r,st,st',vs,xs,h,l=>by
  erw[yaa,evs]at h;let⟨v,s1,e1,h⟩:=zh h;let⟨ws,s2,e2,h⟩:=zh h
  cases h
  erw[ye]at l;let⟨y,ys,rfl,_,l⟩:=l;let⟨q1,q2⟩:=zaf r e2 l;erw[AS,shC,pick,yaC,nKw,Am,q1,q2];exact⟨trivial,trivial⟩
 |.inr i::r,st,st',vs,xs,h,l=>by
  erw[yaa,evs,ev]at h;let⟨v,s1,e1,h⟩:=zh h;let⟨ws,s2,e2,h⟩:=zh h
  cases h
  cases e1
  erw[ye,yc]at l;let⟨y,ys,rfl,rfl,l⟩:=l;let⟨q1,q2⟩:=zaf r e2 l;erw[AS,shC,pick,yaC,nKw,q1,q2];exact⟨trivial,trivial⟩
def tK(S:Se)(X:Cx)(items:List (Sum Ce Int)):TA:=λσ H Q=>∃B φ st ρ,yh X.K S.cl B φ H st/\yp X.K S.cl B φ H ρ σ/\Run S X σ B φ H (RL S X B) (evs S.call ρ st (yaa items)) λxs H'=>Q (pick (items.map shC) xs) H'
theorem PK.imp{t t':TA}(h:PK X kws t')(k:∀σ H Q,t σ H Q->t' σ H Q):PK X kws t:=λpos π s σ H Q I q=>h pos π s σ H Q I (k σ H Q q)
def zi5:PK X [] (tK S X []):=zk0.imp λσ H Q ⟨B,φ,st,ρ,rs,re,h⟩=>by
 erw[yaa,evs]at h;exact h.ok rs (x:=[]) (by erw[ye])
def zkr{i:Int}(h:PK X kws (tK S X items)):PK X kws (tK S X (.inr i::items)):=h.imp λσ H Q ⟨B,φ,st,ρ,rs,re,h⟩=>by
 erw[yaa,evs,ev,R.bind]at h;refine⟨B,φ,st,ρ,rs,re,?_⟩
 cases e:evs S.call ρ st (yaa items)with
 |ok vs st'=>
  rw[e]at h;intro xs H' φ' s rs' l;exact h (.int i::xs) H' φ' s rs' (by erw[ye,yc];exact⟨_,_,rfl,rfl,l⟩)
 |exc c s=>rw[e]at h;exact h
 |bad=>rw[e]at h;exact h
def zj2(ha:PE X e (tE S X ca))(h:PK X kws (tK S X items)):PK X (⟨nm,e,kpos⟩ :: kws) (tK S X (.inl ca::items)):=(zhW ha h).imp λσ H Q ⟨B,φ,st,ρ,rs,re,h⟩=>by
 erw[yaa,evs]at h;refine tE.bind rs re h λx H1 v st1 φ1 s1 rs1 re1 rv h1=>⟨B,φ1,st1,ρ,rs1,re1,?_⟩;refine(Run.bind (Rel:=RL S X B) h1).mono λxs H2 kq=>?_;let⟨ws,st2,φ2,s2,rs2,l,h2⟩:=kq;exact h2.ok rs2 (x:=x::xs) (by erw[ye];exact⟨x,xs,rfl,rv.step s2,l⟩)
def zfj{fi:Nat}(F:yaD X.prog X.w X.K X.mg X.base (CX1 X.prog X.w) k f fd ps (spI X.K S.cl S.call fi))(hr:yap k X.A)(hg:Gl X x)(hm:X.mg x=AA (.ref f))(hk:Aa X.K (.ref f)=AD){np:Nat}(hb:∃g,ybl X.K fd ps ks g (gK np (items.map shC)))(hnp:yck ces=np)
  (ha:PA X (e::es) (tAs S X ces)) (hkw:PK X kws (tK S X items)) (hall:(backToKw pos (keywordEach kws X.env)).all (·.1.isSome)=true:=by rfl) (hks:(backToKw pos (keywordEach kws X.env)).filterMap (·.1)=ks:=by rfl)
  (hdb:(x==("__debug__":AM))=false:=by decide) (he:starEach (e::es) X.env=(AF,eval e X.env)::starEach es X.env:=by rfl)
  (hpl:((backTo pos (starEach (e::es) X.env)).any (·.1) || (backToKw pos (keywordEach kws X.env)).any (·.1.isNone))=false:=by rfl):
  PE X (.Call (.Name x p) (e::es) kws pos) (tE S X (.call fi (yca ces (yaa items)))):=by
 intro π s σ H Q I ⟨B,φ,st,ρ,rs,re,h⟩;erw[ev]at h;rw[zed,R.bind_assoc]at h;refine BO (zaA I hg hm ?_ hdb);have h0:tAs S X ces σ H λvs H1=>tK S X items σ H1 λzs H2=>∃E:XK,spI X.K S.cl S.call fi (gK np (items.map shC) vs zs) H2 Q E/\∀π s e s',Inv X π σ H2 s->CX1 X.prog X.w X.stack H2 s E e s'->X.xe e s':=by
  have hlen:∀vs st',evs S.call ρ st ces=.ok vs st'->vs.length=np:=λvs st' q=>(zd4 ces q).trans hnp;refine⟨B,φ,st,ρ,rs,re,?_⟩
  cases q:evs S.call ρ st ces with
  |exc c s=>rw[q]at h;exact h
  |bad=>rw[q]at h;exact h
  |ok vs st1=>
  rw[q]at h;intro xs H1 φ1 s1 rs1 rv;have h1:=Run.on s1 h;have re1:=re.step s1;have hv:=hlen vs st1 q;refine⟨B,φ1,st1,ρ,rs1,re1,?_⟩;have h1:Run S X σ B φ1 H1 (RV S X B) (((evs S.call ρ st1 (yaa items)).bind λa st=>(R.ok (vs++a) st:R (List PV))).bind λvs st1=>S.call fi vs st1) Q:=h1;rw[R.bind_assoc]at h1
  cases e:evs S.call ρ st1 (yaa items)with
  |ok ws st2=>
   rw[e]at h1;intro ys H2 φ2 s2 rs2 l2;let⟨m1,m2⟩:=zaf items e l2;have eg:gK np (items.map shC) xs (pick (items.map shC) ys)=xs++ys:=by
    unfold gK;rw[if_pos ⟨by rw[<-rv.length];exact hv,m2⟩,m1]
   show ∃E:XK,spI X.K S.cl S.call fi (gK np (items.map shC) xs (pick (items.map shC) ys)) H2 Q E/\_;rw[eg];exact z5 rs2 ((rv.step s2).append l2) (Run.on s2 h1)
  |exc c s=>rw[e]at h1;exact h1
  |bad=>rw[e]at h1;exact h1
 refine PySem.W.callWith_KW (h₀:=X.base) I.ok.mod.kin hk hall (thn (ha pos π s σ H _ I h0) λus s1 kq=>?_) hpl he;let⟨vs,H1,I1,r,q⟩:=kq;refine thn (hkw pos π s1 σ H1 _ I1 q) λws s2 kq=>?_;let⟨zs,H2,I2,rz,E,q2,hx⟩:=kq;refine ⟨I2.kIn,?_⟩;rw[hks];let⟨g,hb⟩:=hb;have r2:=hb.rel r rz;have hl:(g us ws).length=ps.length:=by rw[<-r2.length];exact F.len _ _ _ _ q2
 refine F3 (DG (F.run X.A X.stack s2 H2 ⟨us,ks.zip ws⟩ (g us ws) (gK np (items.map shC) vs zs) Q E hr I2.env0 (hb.to s2 us ws I2.kIn hl) r2 q2) λr s' hq=>?_)
 cases r with
 |error e=>exact hx π s2 e s' I2 hq
 |ok fl=>
  cases fl with
  |ret u=>exact I2.after hq
  |next=>exact BH hq
  |brk=>exact BH hq
  |cont=>exact BH hq
end
structure FnD(K:AC)(mg:AM->Option AE)(x:AM)(st:B7)(ps:List AM)(ds:List Int)(f:AG)(fd:Aj):Prop where
 ex:∃(oc:AE) (od:Option AG) (dT:AG) (kV doc pm:AE) (an:Option AG) (cdv ct:AE) (osl:Array (Option AE)) (o:BV) (its:Array AE) (n:Nat),
  fd=BN x x (yQ st) (yG st) (yg st) (.ref dT) kV doc pm an cdv ct/\K.lookup f=AA ⟨oc,od,.func fd,osl⟩/\Bc K cdv x=AD/\K.lookup dT=AA o/\o.data=.seq its n/\Vals (ds.map V.int) its.toList
 kp:Aa K (.ref f)=AD
 m:mg x=AA (.ref f)
section
variable {P:AZ}{w:A8}{K:AC}{mg:AM->Option AE}{base:Ak}{cl:Nat->AG}{T:Nat->Option IC.Fn}{fi:Nat}{fn:IC.Fn}{x:AM}{stm:B7}{f:AG}{fd:Aj}{N ps:List AM}{ds:List Int}{k:Nat}
end
def zbl(a b:Key):peq (yaR a) (yaR b)=decide (a=b):=by
 rw[FW]
 cases a with
 |inl i=>cases b with
  |inl j=>show (i==j)=AD ↔ _;simp
  |inr y=>show AF=AD ↔ _;simp
 |inr x=>cases b with
  |inl j=>show AF=AD ↔ _;simp
  |inr y=>show (x==y)=AD ↔ _;simp
mutual
theorem ziR:∀a b:NK,peq (nkP a) (nkP b)=decide (a=b)
 |.a k,.a j=>by
  rw[nkP,nkP,zbl]
  by_cases e:k=j<;>simp[e]
 |.a k,.t l=>by rw[nkP,nkP];cases k<;>simp[yaR,peq]
 |.t l,.a k=>by rw[nkP,nkP];cases k<;>simp[yaR,peq]
 |.t l,.t m=>by
  rw[nkP,nkP];erw[peq,zb3 l m]
  by_cases e:l=m<;>simp[e]
theorem zb3:∀a b:List NK,yaO (yao a) (yao b)=decide (a=b)
 |[],[]=>by simp[yao,yaO]
 |[],y::ys=>by simp[yao,yaO]
 |x::xs,[]=>by simp[yao,yaO]
 |x::xs,y::ys=>by
  erw[yao,yaO,ziR x y,zb3 xs ys]
  by_cases e:x=y<;>by_cases f:xs=ys<;>simp[e,f]
end
def zaq(a b:List NK):peq (.tup (yao a)) (.tup (yao b))=decide (a=b):=by
 erw[peq,zb3]
def zhi{k:PV}(h:ybT k=AD):∃q,k=yaR q:=by
 cases k with
 |int i=>exact⟨.inl i,rfl⟩
 |str i=>exact⟨.inr i,rfl⟩
 |_=>cases h
mutual
theorem zki:∀(k:PV) (n:Nat),ydm n k=AD->∃q:NK,k=nkP q/\B0 (nkD q)=AD/\(nkD q).depth<=n
 |.int i,n,_=>⟨.a (.inl i),rfl,rfl,B9 _⟩
 |.str x,n,h=>⟨.a (.inr x),rfl,h,B9 _⟩
 |.tp k xs,n,h=>by
  erw[ydm,AI,decide_eq_true_eq,BI]at h;let⟨q,e,c,d⟩:=ze5 xs (n-1) h.2;refine⟨.t q,by rw[h.1.1,e];rfl,c,?_⟩;erw[nkD,BL];lia
 |.non,n,h=>by cases h
 |.bl _,n,h=>by cases h
 |.lst _,n,h=>by cases h
 |.loc _,n,h=>by cases h
 |.exn _,n,h=>by cases h
 |.scr _,n,h=>by cases h
 |.fnc _,n,h=>by cases h
theorem ze5:∀(ks:List PV) (n:Nat),ybr n ks=AD->∃qs:List NK,ks=yao qs/\Bk (yaH qs)=AD/\BJ (yaH qs)<=n
 |[],n,_=>⟨[],rfl,rfl,B9 _⟩
 |k::ks,n,h=>by
  erw[ybr,AI]at h;let⟨q,e1,c1,d1⟩:=zki k n h.1;let⟨qs,e2,c2,d2⟩:=ze5 ks n h.2;refine⟨q::qs,by rw[e1,e2];rfl,by erw[yaH,Bk,c1,c2];rfl,?_⟩;erw[yaH,BJ];lia
end
section
variable {S:Se}{X:Cx}{K:AC}{cl:Nat->AG}{σ:St}{B:AG->Prop}{φ:Ph}{H:Hp}{st:SO}{p pos p2 px apos:BZ}{a b c d o:AL}{ca cb cc:Ce}
def zkO{q:Key}{x:V}:yc K cl B φ H (yaR q) x ↔ x=kV q:=by
 cases q<;>simp[yaR,yc,kV]
mutual
theorem zdD:∀(q:NK) (x:V),yc K cl B φ H (nkP q) x->NKr H q x
 |.a k,x,r=>zkO.mp r
 |.t l,x,r=>by
  erw[nkP,yc]at r;let⟨y,xs,rfl,rt,rl⟩:=r;rcases rt with⟨rt,_⟩|⟨z,_⟩
  .exact⟨y,xs,rfl,rt,zeY l xs rl⟩
  .cases z
theorem zeY:∀(q:List NK) (xs:List V),ye K cl B φ H (yao q) xs->NKs H q xs
 |[],xs,l=>show xs=[]by simpa only[yao,ye] using l
 |q::qs,xs,l=>by
  erw[yao,ye]at l;let⟨y,ys,rfl,r,l⟩:=l;exact⟨y,ys,rfl,zdD q y r,zeY qs ys l⟩
end
theorem DK.look{q:Key}:∀{kvs:List (PV×PV)} {ks:List (Key×V)},DK K cl B φ H kvs ks->∀{v:PV} {x:V},yc K cl B φ H v x->yc K cl B φ H ((IC.look (yaR q) kvs).getD v) ((yat ks q).getD x)
 |[],ks,h,v,x,r=>by cases h;exact r
 |(k,w)::t,ks,h,v,x,r=>by
  let⟨q',y,s,rfl,rfl,rv,l⟩:=h;erw[IC.look,zbl]
  by_cases e:q'=q
  .rw[zQ (p:=(q',y)) e];simp[e,rv]
  .rw[zP (p:=(q',y)) e];erw[decide_eq_true_eq,e,if_false];exact DK.look l r
theorem DT.look{q:List NK}:∀{kvs:List (PV×PV)} {ks:List (List NK×V)},DT K cl B φ H kvs ks->∀{v:PV} {x:V},yc K cl B φ H v x->yc K cl B φ H ((IC.look (.tup (yao q)) kvs).getD v) ((yat ks q).getD x)
 |[],ks,h,v,x,r=>by cases h;exact r
 |(k,w)::t,ks,h,v,x,r=>by
  let⟨q',y,s,rfl,rfl,rv,l⟩:=h;erw[IC.look,zaq]
  by_cases e:q'=q
  .rw[zQ (p:=(q',y)) e];simp[e,rv]
  .rw[zP (p:=(q',y)) e];erw[decide_eq_true_eq,e,if_false];exact DT.look l r
theorem DK.any{q:Key}:∀{kvs:List (PV×PV)} {ks:List (Key×V)},DK K cl B φ H kvs ks->(kvs.any λp=>peq p.1 (yaR q))=ks.any λkv=>decide (kv.1=q)
 |[],ks,h=>by cases h;rfl
 |(k,w)::t,ks,h=>by
  let⟨q',y,s,rfl,rfl,rv,l⟩:=h;erw[BX,zbl,DK.any l]
theorem DT.any{q:List NK}:∀{kvs:List (PV×PV)} {ks:List (List NK×V)},DT K cl B φ H kvs ks->(kvs.any λp=>peq p.1 (.tup (yao q)))=ks.any λkv=>decide (kv.1=q)
 |[],ks,h=>by cases h;rfl
 |(k,w)::t,ks,h=>by
  let⟨q',y,s,rfl,rfl,rv,l⟩:=h;erw[BX,zaq,DT.any l]
theorem DK.map{q:Key}{v:PV}{x:V}(r:yc K cl B φ H v x):∀{kvs:List (PV×PV)} {ks:List (Key×V)},DK K cl B φ H kvs ks->DK K cl B φ H (kvs.map λp=>if peq p.1 (yaR q)=AD then(p.1,v)else p) (ks.map λkv=>if kv.1=q then(kv.1,x)else kv)
 |[],ks,h=>by cases h;exact rfl
 |(k,w)::t,ks,h=>by
  let⟨q',y,s,rfl,rfl,rv,l⟩:=h;erw[AS,zbl,decide_eq_true_eq]
  by_cases e:q'=q
  .simp only[e,if_true];exact⟨q,x,_,rfl,rfl,r,DK.map r l⟩
  .simp only[e,if_false];exact⟨q',y,_,rfl,rfl,rv,DK.map r l⟩
theorem DT.map{q:List NK}{v:PV}{x:V}(r:yc K cl B φ H v x):∀{kvs:List (PV×PV)} {ks:List (List NK×V)},DT K cl B φ H kvs ks->DT K cl B φ H (kvs.map λp=>if peq p.1 (.tup (yao q))=AD then(p.1,v)else p) (ks.map λkv=>if kv.1=q then(kv.1,x)else kv)
 |[],ks,h=>by cases h;exact rfl
 |(k,w)::t,ks,h=>by
  let⟨q',y,s,rfl,rfl,rv,l⟩:=h;erw[AS,zaq,decide_eq_true_eq]
  by_cases e:q'=q
  .simp only[e,if_true];exact⟨q,x,_,rfl,rfl,r,DT.map r l⟩
  .simp only[e,if_false];exact⟨q',y,_,rfl,rfl,rv,DT.map r l⟩
theorem DK.snoc{q:Key}{v:PV}{x:V}(r:yc K cl B φ H v x):∀{kvs:List (PV×PV)} {ks:List (Key×V)},DK K cl B φ H kvs ks->DK K cl B φ H (kvs++[(yaR q,v)]) (ks++[(q,x)])
 |[],ks,h=>by cases h;exact⟨q,x,[],rfl,rfl,r,rfl⟩
 |(k,w)::t,ks,h=>by
  let⟨q',y,s,rfl,rfl,rv,l⟩:=h;exact⟨q',y,_,rfl,rfl,rv,DK.snoc r l⟩
theorem DT.snoc{q:List NK}{v:PV}{x:V}(r:yc K cl B φ H v x):∀{kvs:List (PV×PV)} {ks:List (List NK×V)},DT K cl B φ H kvs ks->DT K cl B φ H (kvs++[(.tup (yao q),v)]) (ks++[(q,x)])
 |[],ks,h=>by cases h;exact⟨q,x,[],rfl,rfl,r,rfl⟩
 |(k,w)::t,ks,h=>by
  let⟨q',y,s,rfl,rfl,rv,l⟩:=h;exact⟨q',y,_,rfl,rfl,rv,DT.snoc r l⟩
theorem DK.put{q:Key}{v:PV}{x:V}{kvs:List (PV×PV)}{ks:List (Key×V)}(l:DK K cl B φ H kvs ks)(r:yc K cl B φ H v x):DK K cl B φ H (IC.put (yaR q) v kvs) (putK ks q x):=by
 unfold IC.put putK;rw[DK.any l];split
 .exact DK.map r l
 .exact DK.snoc r l
theorem DT.put{q:List NK}{v:PV}{x:V}{kvs:List (PV×PV)}{ks:List (List NK×V)}(l:DT K cl B φ H kvs ks)(r:yc K cl B φ H v x):DT K cl B φ H (IC.put (.tup (yao q)) v kvs) (putK ks q x):=by
 unfold IC.put putK;rw[DT.any l];split
 .exact DT.map r l
 .exact DT.snoc r l
theorem DK.len:∀{kvs:List (PV×PV)} {ks:List (Key×V)},DK K cl B φ H kvs ks->kvs.length=ks.length
 |[],ks,h=>by cases h;rfl
 |(k,w)::t,ks,h=>by
  let⟨q',y,s,rfl,rfl,rv,l⟩:=h;simp[DK.len l]
theorem DT.len:∀{kvs:List (PV×PV)} {ks:List (List NK×V)},DT K cl B φ H kvs ks->kvs.length=ks.length
 |[],ks,h=>by cases h;rfl
 |(k,w)::t,ks,h=>by
  let⟨q',y,s,rfl,rfl,rv,l⟩:=h;simp[DT.len l]
theorem yh.dct{n:Nat}{t:Bool}{kvs:List (PV×PV)}{x:V}(rs:yh K cl B φ H st)(r:yc K cl B φ H (.loc n) x)(h:st[n]?=AA (.dct t kvs)):∃y,x=.ref y/\φ[n]?=AA (AA y)/\ybx K cl B φ H (.dct t kvs) y:=by
 erw[yc]at r;let⟨hn,y,rfl,ha⟩:=r;let⟨z,hz⟩:=rs.liv n _ h (by intro z;cases z);obtain rfl:=ha z hz;let⟨o,ho,ro⟩:=rs.obj n z hz;rw[h]at ho;cases ho;exact⟨z,rfl,hz,ro⟩
def zdA{v:PV}{t:Bool}{kvs:List (PV×PV)}(h:yal st v=AA (t,kvs)):∃n,v=.loc n/\st[n]?=AA (.dct t kvs):=by
 cases v with
 |loc n=>
  erw[yal]at h;split at h
  .rename_i t' xs q
   cases h
   exact⟨n,rfl,q⟩
  .cases h
 |_=>cases h
def zhE{k:PV}(h:isKey AF k=AD):∃q,k=yaR q:=zhi h
def zet{k:PV}(h:isKey AD k=AD):∃q:List NK,k=.tup (yao q)/\yc3 q:=by
 cases k with
 |tp b xs=>
  cases b with
  |false=>
   let⟨qs,rfl,c,d⟩:=ze5 xs 5 h;exact⟨qs,rfl,c,Nat.le_succ_of_le d⟩
  |true=>cases h
 |_=>cases h
def zdK{q:List NK}{x:V}(hq:yc3 q)(r:yc K cl B φ H (.tup (yao q)) x):∃y,x=.ref y/\KyR H q y:=by
 have r':yc K cl B φ H (nkP (.t q)) x:=r;let⟨b,xs,rfl,g,hs⟩:=zdD (.t q) x r';exact⟨b,rfl,⟨b,xs,rfl,g,hs⟩,hq⟩
end
section
variable {S:Se}{X:Cx}{σ:St}{B:AG->Prop}{φ:Ph}{H:Hp}{p pos p3 p4:BZ}{a b tg:AL}{ca cb:Ce}
end
end L2
namespace WK
open PySem L2 IC
section
variable {K:AC}{cl:Nat->AG}{B:AG->Prop}{φ:Ph}{H:Hp}
def zgh:ye K cl B φ H [] []:=by erw[ye]
def zej{v:PV}{x:V}{vs:List PV}{xs:List V}(h:yc K cl B φ H v x)(l:ye K cl B φ H vs xs):ye K cl B φ H (v::vs) (x::xs):=by
 erw[ye];exact⟨x,xs,rfl,h,l⟩
end
def zh9{P:AZ}{w:A8}{outer:List Az}{H:Hp}{s:AH}{e:AE}{s':AH}(h:CX1 P w outer H s (λ_ _ _=>False) e s'):False:=by
 let⟨_,_,_,_,_,_,_,_,_,_,_,_,_,_,z⟩:=h;exact z
def ze0{K:AC}{cl:Nat->AG}{B:AG->Prop}{φ:Ph}{H:Hp}:∀ns:List Int,ye K cl B φ H (ns.map .int) (ns.map V.int)
 |[]=>zgh
 |n::ns=>zej (by erw[yc]) (ze0 ns)
def spX(K:AC)(call:Nat->List PV->SO->R PV)(fi:Nat):Sp:=λvs H Q E=>∀cl,spI K cl call fi vs H Q E
def zdH{K:AC}{call:Nat->List PV->SO->R PV}{fi:Nat}{H:Hp}{a:AG}{ns:List Int}(ht:∀ns:List Int,ns.length<=63->call fi [.scr (ns.map .int)] []=.ok (.bl AD) [])(hl:ns.length<=63)(hS:SqL K H a (ns.map V.int)):
  spX K call fi [.ref a] H (λv _=>v=.bl AD) λ_ _ _=>False:=by
 intro cl;refine⟨λ_=>False,[],[],[.scr (ns.map .int)],⟨rfl,λm n a e=>by simp at e,λn a e=>by simp at e,λn o e=>by simp at e,λa z=>by simp at z,λa z=>z.elim,λa z=>z.elim⟩,zej ?_ zgh,?_⟩
 .simp only[yc];refine⟨a,_,rfl,?_,ze0 ns⟩;rcases hS with hS|hS
  .exact .inl ⟨hS,λz=>z,by simp⟩
  .exact .inr hS
 .rw[ht ns hl];intro x H' φ' _ _ r;simpa only[yc] using r
end WK
namespace L2
open PySem PySem.Spec PyProof.Rows IC
def zdr{l:List AM}(h:l.Nodup){i j:Nat}(hi:i<l.length)(hj:j<l.length)(e:l[i]=l[j]):i=j:=by
 rcases Nat.lt_trichotomy i j with q|q|q
 .exact absurd e (D6.mp h i j hi hj q)
 .exact q
 .exact absurd e.symm (D6.mp h j i hj hi q)
section
variable {X:Cx}{π:List (AG×BV)}{σ:St}{H:Hp}{s:AH}
theorem Inv.drop{h':Ak}{m:AM->Option AE}{v:Option AE}{i:Nat}{n:AM}(I:Inv X π σ H s)(hN:X.N.Nodup)(hi:X.N[i]?=AA n)(hm:s.heap.Ns X.env.locals m)(look:∀(i:Nat) (x:AM) (v:V),X.N[i]?=AA x->σ[i]?=AA (AA v)->Vis X.env.scope x->∃u,RelV v u/\Look X.env s.heap m x u)(hs:B6 X.env.locals s.heap h')(hn:h'.Ns X.env.locals (λx=>if x=n then v else m x)):Inv X π (σ.set i AB) H {s with heap:=h'}:=by
 have k:∀b u,b≠X.env.locals->s.heap.get? b=AA u->h'.get? b=AA u:=λb u hb q=>(hs.2 b hb).trans q;have nl:∀b o,X.s₀.heap.get? b=AA o->b≠X.env.locals:=λb o e=>Ab (AY (AT e) I.ok.above);refine⟨I.ok,I.os,I.bare,⟨λb o q n hb hx=>k b o (nl b o q) (I.base.keep b o q n hb hx),λb o q n hb hx=>?_,I.base.free,λb o q hx=>?_,I.base.tups,I.base.frzs,I.base.tbls⟩,⟨_,hn,λj x v e1 e2 hv=>?_⟩,λx c e=>?_,I.free,I.freeC,λp hp=>?_,λb u e=>?_,?_⟩
 .let⟨sl,q1⟩:=I.base.slot b o q n hb hx;exact⟨sl,k b _ (nl b o q) q1⟩
 .let⟨o',q1⟩:=I.base.there b o q hx;exact⟨o',k b o' (nl b o q) q1⟩
 .have hj:j≠i:=λz=>by
   subst z;rw[Ci]at e2;erw[if_true]at e2;split at e2<;>cases e2
  rw[Ai (Bl hj)]at e2;have hx:x≠n:=λz=>by
   subst z;let⟨l1,g1⟩:=Af.mp e1;let⟨l2,g2⟩:=Af.mp hi;exact hj (zdr hN l1 l2 (g1.trans g2.symm))
  let⟨u,r,lk⟩:=look j x v e1 e2 hv;refine⟨u,r,?_⟩;rcases lk with⟨q1,q2⟩|⟨q1,c,q2,o,q3,q4⟩
  .exact .inl ⟨q1,by dsimp only;rw[if_neg hx];exact q2⟩
  .exact .inr ⟨q1,c,q2,o,k c o (I.cne x c q2) q3,q4⟩
 .let⟨v,o,ho,hd⟩:=I.cell x c e;exact⟨v,o,k c o (I.cne x c e) ho,hd⟩
 .let⟨q1,q2,q3,q4⟩:=I.pin p hp;exact⟨k _ _ q3 q1,q2,q3,q4⟩
 .refine(I.hok b u e).stay (λc v hc q=>k c v (λz=>?_) q) (λ_ q=>q) λ_ _ q=>q;have fr:=I.free;subst z;rcases hc with z|z
  .rw[z,e]at fr
   cases fr
  .rw[z]at fr
   cases fr
 .rw[BE];exact I.len
end
section
variable {X:Cx}{body suite:List B7}{b₀:B7}{x n:AM}{np hpos pos:BZ}{W:AG}{i:Nat}
end
section
variable {S:Se}{X:Cx}{σ:St}{B:AG->Prop}{φ φ1:Ph}{H H1:Hp}{st:SO}{ρ:IC.Env}{D:Ends}{body suite:List B7}{b₀:B7}{x n:AM}{p p2 np hpos pos cpos:BZ}{W:AG}{i:Nat}{cb ch:Css}{a e:AL}{es:List AL}{ca ce:Ce}{ces:Ces}
theorem yp.drop{K:AC}{cl:Nat->AG}(r:yp K cl B φ H ρ σ)(i:Nat):yp K cl B φ H (ρ.set i AB) (σ.set i AB):=by
 refine⟨by rw[BE,BE];exact r.len,λj w e=>?_⟩
 by_cases h:j=i
 .subst h;rw[Ci]at e;erw[if_true]at e;split at e<;>cases e
 .rw[Ai (Bl h)]at e ⊢;exact r.get j w e
abbrev Se.quiet(S:Se):Se:={S with may:=AF}
theorem all_nil{P:Nat->Prop}:∀c∈([]:List Nat),P c:=λ_ h=>by cases h
theorem all_cons{P:Nat->Prop}{c:Nat}{cs:List Nat}(h:P c)(t:∀d∈cs,P d):∀d∈c::cs,P d:=λd hd=>by
 rcases A5.mp hd with e|e
 .exact e ▸ h
 .exact t d e
structure ybV(K:AC)(mg:AM->Option AE)(C:AG)(x:AM):Prop where
 m:mg x=AA (.ref C)
 q:Cu K C [.type "ValueError",.type "Exception",.type "BaseException",.type "object"] "ValueError.__new__"=AD
def zf1{k:Nat}(Z:ybV X.K X.mg (S.cl k) x)(hmay:S.may=AD)(hc:X.calm=AD)(hg:Gl X x)(ha:PE X a (tE S X ca))
  (hs:starEach [a] X.env=(AF,eval a X.env)::starEach [] X.env:=by rfl) (hpl:(backTo cpos (starEach [] X.env)).any (·.1)=false:=by rfl) (hdb:(x==("__debug__":AM))=false:=by decide):
  PS X (.Raise (AA (.Call (.Name x np) [a] [] cpos)) AB pos) (tS S X (.raise k ca)):=by
 intro π s σ H D I ⟨B,φ,st,ρ,rs,re,h⟩;erw[ex]at h;have OC:=zk5 I.ok.mod.kin Z.m Z.q;have FB:=PySem.F.excBase_ValueError;let⟨tl,Nn,nm,q,bs,hdct,sn,sub,ab,col,dd,k0,k1,k2,k3,k5,mN,hC,hN,hni,TL⟩:=OC.obj;refine wpAny_Raise_call_subT (C:=S.cl k) (nm:=nm) (q:=q) (N:=Nn) (bs:=bs) (bm:=tl) (hdct:=hdct) (sn:=sn) (sub:=sub) (ab:=ab) (col:=col) (dd:=dd) (k0:=k0) (k1:=k1) (k2:=k2) (k3:=k3) (k5:=k5)
  FB (mN:=mN) (TL.hasType FB.hasBase) (I.ok.hd hc) (by rw[hs];show (AF || (backTo cpos (starEach [] X.env)).any (·.1))=AF;rw[hpl];rfl) hni (zaA I hg OC.bound ⟨rfl,?_⟩ hdb)
 have hA:=(zX ha zkF hs) cpos π s σ H (λvs H1=>∃v,vs=[v]/\∃φ1 st1,Step φ H φ1 H1/\yh X.K S.cl B φ1 H1 st1/\yp X.K S.cl B φ1 H1 ρ σ/\yW S X B φ1 H1 (.exc k ρ st1) D) I
  (tE.fl rs re h λx H1 v st1 φ1 s1 rs1 re1 rv h1=>⟨x,rfl,φ1,st1,s1,rs1,re1,h1⟩)
 rw[hs]at hA ⊢;refine EL (thn hA λus s1 kq=>?_);let⟨vs,H1,I1,r1,v,ev,φ1,st1,t1,rs1,re1,h1⟩:=kq;subst ev;refine⟨rfl,by rw[<-r1.length];show 1<=sizeLine;decide,I1.bk _ _ hC,hN.keeps I1.bk,TL.keeps I1.bk,λh' e' hx=>?_⟩;exact h1 σ φ1 H1 _ _ .rfl re1 (.inr (.inl ⟨hmay,π,H1,s1,φ1,h',e',us,I1,.rfl,rs1,hx,rfl,rfl⟩))
def tyZ(cl:Nat->AG):Ty->AE
 |.cls d=>.ref (cl d)
 |_=>.type "ValueError"
def yfM(K:AC)(cl:Nat->AG)(c:Nat)(t:Ty):Prop:=Au K (.ref (cl c)) (tyZ cl t)=AA (yaN (.exn c) t)
def tJ(S:Se)(X:Cx)(c:Ces):TJ:=λout σ H Q=>∃B φ st ρ,yh X.K S.cl B φ H st/\yp X.K S.cl B φ H ρ σ/\∃vs st' z,evs S.call ρ st c=.ok vs st'/\yco out vs=AA z/\∀H' φ',Step φ H φ' H'->yh X.K S.cl B φ' H' st'->Q (.str z) H'
def tF(S:Se)(X:Cx)(c:Ce):TE:=λσ H Q=>∃B φ st ρ,yh X.K S.cl B φ H st/\yp X.K S.cl B φ H ρ σ/\∃v st' y,ev S.call ρ st c=.ok v st'/\ycn v=AA y/\∀H' φ',Step φ H φ' H'->yh X.K S.cl B φ' H' st'->Q (.str y) H'
def zi1(h:PE X e (tE S X ce)):PE X (.FormattedValue e (-1) AB pos) (tF S X ce):=by
 intro π s σ H Q I ⟨B,φ,st,ρ,rs,re,v,st',y,e1,e2,q⟩;refine FormattedValue_plain (thn (h π s σ H (λx H1=>∃φ1,Step φ H φ1 H1/\yh X.K S.cl B φ1 H1 st'/\yc X.K S.cl B φ1 H1 v x) I ⟨B,φ,st,ρ,rs,re,by rw[e1];exact λx H' φ' t r rv=>⟨φ',t,r,rv⟩⟩) λu s1 kq=>?_);let⟨x,H1,I1,r1,φ1,t1,rs1,rv⟩:=kq
 cases v with
 |int i=>
  erw[yc]at rv;subst rv;let⟨tk,rfl⟩:=r1;erw[ycn]at e2;split at e2
  .rename_i hd
   cases e2
   exact formatField_int_small hd ⟨.str _,H1,I1.tok _,⟨_,rfl⟩,q H1 φ1 t1 rs1⟩
  .cases e2
 |str z=>
  erw[yc]at rv;subst rv;let⟨tk,rfl⟩:=r1;erw[ycn]at e2;split at e2
  .rename_i hd
   cases e2
   exact formatField_str (λt' tk=>⟨.str _,H1,I1.tok _,⟨_,rfl⟩,q H1 φ1 t1 rs1⟩) (by rw[Bm];exact hd)
  .cases e2
 |_=>cases e2
def zic{y:AM}{j:Nat}:PE X (.Constant (.str y) j pos) (tF S X (.cst (.str y))):=zkI.imp λσ H Q ⟨B,φ,st,ρ,rs,re,v,st',z,e1,e2,q⟩=>by
 erw[ev]at e1
 cases e1
 erw[ycn]at e2;split at e2
 .cases e2;exact q H φ .rfl rs
 .cases e2
def ziZ:PJ X [] (tJ S X .nil):=λout π s σ H Q I ⟨B,φ,st,ρ,rs,re,vs,st',z,e1,e2,q⟩=>by
 erw[evs]at e1
 cases e1
 erw[yco]at e2;split at e2
 .rename_i hz
  cases e2
  exact zjm out π s σ H Q I ⟨by rw[Bm];exact hz,q H φ .rfl rs⟩
 .cases e2
def zdN(he:PE X e (tF S X ce))(hr:PJ X es (tJ S X ces))(hs:evalEach (e::es) X.env=eval e X.env::evalEach es X.env:=by rfl):PJ X (e::es) (tJ S X (.cons ce ces)):=λout π s σ H Q I ⟨B,φ,st,ρ,rs,re,vs,st',z,e1,e2,q⟩=>by
 erw[evs]at e1
 cases e3:ev S.call ρ st ce with
 |ok v st1=>
  rw[e3]at e1;erw[R.bind]at e1
  cases e4:evs S.call ρ st1 ces with
  |ok ws st2=>
   rw[e4]at e1;simp only at e1
   cases e1
   erw[yco]at e2
   cases e5:ycn v with
   |none=>rw[e5]at e2;cases e2
   |some y=>
    rw[e5]at e2;simp only at e2;split at e2
    .rename_i hz;refine zhq he hr hs out π s σ H Q I ⟨B,φ,st,ρ,rs,re,v,st1,y,e3,e5,λH' φ' t1 rs1=>⟨y,rfl,by rw[Bm];exact hz,B,φ',st1,ρ,rs1,re.step t1,ws,st',z,e4,e2,λH2 φ2 t2 rs2=>q H2 φ2 (t1.trans t2) rs2⟩⟩
    .cases e2
  |exc c st2=>rw[e4]at e1;cases e1
  |bad=>rw[e4]at e1;cases e1
 |exc c st1=>rw[e3]at e1;cases e1
 |bad=>rw[e3]at e1;cases e1
def zif{v1 v2:AL}{rest:List AL}(h:PJ X (v1::v2::rest) (tJ S X ces)):PE X (.JoinedStr (v1::v2::rest) pos) (tE S X (.fst ces)):=(zeJ h).imp λσ H Q ⟨B,φ,st,ρ,rs,re,h⟩=>by
 erw[ev]at h
 cases e1:evs S.call ρ st ces with
 |ok vs st1=>
  rw[e1]at h;erw[ydk]at h
  cases e2:yco Cm vs with
  |none=>rw[e2]at h;exact h.elim
  |some z=>
   rw[e2]at h;exact⟨B,φ,st,ρ,rs,re,vs,st1,z,e1,e2,λH' φ' t r=>h _ H' φ' t r (by erw[yc])⟩
 |exc c st1=>rw[e1]at h;exact h.elim
 |bad=>rw[e1]at h;exact h.elim
end
section
variable {S:Se}{X:Cx}{p pos p2 px apos:BZ}{a b:AL}{ca cb:Ce}
def GCI(mg:AM->Option AE)(x:AM)(i:Int):Prop:=∃t,mg x=AA (.int i t)
def zjV{x:AM}{i:Int}(hg:Gl X x)(h:GCI X.mg x i)(hd:(x==("__debug__":AM))=false:=by decide):PE X (.Name x pos) (tE S X (.cst (.int i))):=by
 let⟨t,hm⟩:=h;exact(zck hg hm (show RelV (.int i) (.int i t)from ⟨t,rfl⟩) hd).imp λσ H Q ⟨B,φ,st,ρ,rs,re,h⟩=>by
  erw[ev]at h;exact h.ok rs (by erw[yc])
end
end L2
namespace WE
open PySem PySem.Spec PyProof.Rows
section
variable {prog:AZ}{w:A8}{A:A3}{E:AE->AH->Prop}{s:AH}
def ycH(h:Ak)(a t:AG)(i:Int):Prop:=∃o,h.get? a=AA o/\o.cls=.type "reversed"/\o.data=.fields #[.ref t,rawInt i]
theorem ycH.typeIs{a t:AG}{i:Int}(x:ycH s.heap a t i):s.TypeIs (.ref a) "reversed":=let ⟨o,ho,hc,_⟩:=x;⟨o,ho,hc⟩
end
end WE
namespace L2
open PySem PySem.Spec PyProof.Rows
end L2
namespace L2
open PySem PySem.Spec PyProof.Rows IC
open Classical in
def eqR(h:Ak)(dw:F0)(u:AE):Bool:=decide (∃d as,GG h u d as/\BK d dw=AD)
def zgm{h:Ak}{u:AE}{d dw:F0}{as:List AG}(r:GG h u d as):eqR h dw u=BK d dw:=by
 unfold eqR
 classical
 cases c:BK d dw with
 |true=>exact decide_eq_true (p:=∃d as,GG h u d as/\BK d dw=AD) ⟨d,as,r,c⟩
 |false=>
  refine decide_eq_false ?_
  rintro⟨d',as',r',q⟩
  have:=(reads_det (λb o e _=>e) r r').1;subst this;rw[c]at q
  cases q
section
variable {S:Se}{X:Cx}{σ:St}{B:AG->Prop}{φ φ1:Ph}{H H1:Hp}{st:SO}{ρ:IC.Env}{p pos p2 px py pt pt2:BZ}{a b c d o a' b' c' d':AL}{ca cb cc cd ce cf:Ce}{π:List (AG×BV)}{s:AH}{kt k2:Nat}{es:List AL}{ces:Ces}{x:AM}
def zce(I:Inv X π σ H s)(w:PV)(hw:shd 60 w=AD):∀(vs:List PV) (xs:List V) (us:List AE),yax 60 vs=AD->ye X.K S.cl B φ H vs xs->Vals xs us->us.any (eqR s.heap (toD w))=inL w vs
 |[],xs,us,h,r,q=>by
  erw[ye]at r;subst r;cases q;rfl
 |v::vs,xs,us,h,r,q=>by
  erw[ye]at r;let⟨y,ys,rfl,rv,l⟩:=r;erw[yax,AI]at h
  cases q with
  |cons q1 q2=>
   let⟨as,z1⟩:=zB (S:=S) I v 60 y _ h.1 rv q1;rw[BX,zce I w hw vs ys _ h.2 l q2,zgm z1,zbi v w 60 60 h.1 hw];rfl
def zb5(I:Inv X π σ H s)(w:PV)(hw:shd 60 w=AD){wv:AE}{bs:List AG}(zw:GG s.heap wv (toD w) bs)(hu:X.A.units+64<cLine):∀(vs:List PV) (xs:List V) (us:List AE),yax 60 vs=AD->ye X.K S.cl B φ H vs xs->Vals xs us->∀u∈us,F5 X.A.in1 s u wv (eqR s.heap (toD w) u)
 |[],xs,us,h,r,q=>by
  erw[ye]at r;subst r;cases q;intro u hu;cases hu
 |v::vs,xs,us,h,r,q=>by
  erw[ye]at r;let⟨y,ys,rfl,rv,l⟩:=r;erw[yax,AI]at h
  cases q with
  |cons q1 q2=>
   let⟨as,z1⟩:=zB (S:=S) I v 60 y _ h.1 rv q1;intro u hm;rcases A5.mp hm with rfl|hm
   .rw[zgm z1];let⟨l1,d1⟩:=za7 v 60 h.1;let⟨l2,d2⟩:=za7 w 60 hw;refine SeqAt.eqAt_reads _ _ X.A.in1 s _ _ as bs z1 zw l1 l2 ?_;show X.A.units+1+_<_;lia
   .exact zb5 I w hw zw hu vs ys _ h.2 l q2 u hm
def rTs(S:Se)(X:Cx)(f:SO->PV->PV->Option PV):R2:=λx y H Q=>∃B φ st v w z,yh X.K S.cl B φ H st/\yc X.K S.cl B φ H v x/\yc X.K S.cl B φ H w y/\f st v w=AA z /\
 ∀z' H' φ',Step φ H φ' H'->yh X.K S.cl B φ' H' st->yc X.K S.cl B φ' H' z z'->Q z' H'
def zgf(hu:X.A.units+64<cLine):OpR X (compareOp .NotIn) (rTs S X ybA):=by
 rintro π s σ H x y v u Q I rx ry ⟨B,φ,st,a,b,z,rs,ra,rb,e,q⟩
 erw[ybA]at e
 cases e1:yad st b with
 |none=>rw[e1]at e;cases e
 |some ws=>
  rw[e1]at e;dsimp only at e;split at e
  .rename_i c;rw[AI]at c
   cases e
   let⟨l,ys,rfl,hq,lr⟩:=zeS rs rb e1
   cases (show u=BF l from ry)
   let⟨bs,z1⟩:=zB (S:=S) I a 60 x v c.1 ra rx;rcases hq with hq|hq
   .let⟨its,r,pl,hz⟩:=I.list hq;refine SeqAt.notIn_listAt (eqR s.heap (toD a)) pl.isList (λw hw=>zb5 (S:=S) I a c.1 z1 hu ws ys its c.2 lr r w (by simpa using hw)) ⟨.bl _,H,I,rfl,?_⟩;rw[show its.toArray.any (eqR s.heap (toD a))=its.any (eqR s.heap (toD a))by simp,zce (S:=S) I a c.1 ws ys its c.2 lr r];exact q _ H φ .rfl rs (by erw[yc])
   .let⟨its,r,pl,hz⟩:=I.tuple hq;refine SeqAt.notIn_tupleAt (eqR s.heap (toD a)) pl (λw hw=>zb5 (S:=S) I a c.1 z1 hu ws ys its c.2 lr r w (by simpa using hw)) ⟨.bl _,H,I,rfl,?_⟩;rw[show its.toArray.any (eqR s.heap (toD a))=its.any (eqR s.heap (toD a))by simp,zce (S:=S) I a c.1 ws ys its c.2 lr r];exact q _ H φ .rfl rs (by erw[yc])
  .cases e
def ziH(hu:X.A.units+64<cLine)(ha:PE X a (tE S X ca))(hb:PE X b (tE S X cb))(hm:behindInMarks .NotIn b=AF):PE X (.Compare a [.NotIn] [b] pos) (tE S X (.nin ca cb)):=
 (zd7 (zgf hu) ha hb hm).imp λσ H Q ⟨B,φ,st,ρ,rs,re,h⟩=>by
  erw[ev]at h;refine tE.bind rs re h λx H1 v st1 φ1 s1 rs1 re1 rv h1=>tE.bind rs1 re1 h1 λy H2 w st2 φ2 s2 rs2 re2 rw h2=>?_;let⟨z,e,q⟩:=zu h2 rs2;exact⟨B,φ2,st2,v,w,z,rs2,rv.step s2,rw,e,q⟩
def zh3{st:SO}{x y z:PV}(h:ybA st x y=AA z):∃k,z=.bl k:=by
 unfold ybA at h;split at h
 .split at h
  .cases h;exact⟨_,rfl⟩
  .cases h
 .cases h
def ziX(hu:X.A.units+64<cLine)(ha:PE X a (tE S X ca))(hb:PE X b (tE S X cb))(hm:behindInMarks .NotIn b=AF):PT X (.Compare a [.NotIn] [b] pos) (tTs S X (.nin ca cb)):=
 (zdx (zgf hu) ha hb hm).imp λσ H Q ⟨B,φ,st,ρ,rs,re,h⟩=>by
  erw[ev,yaA,R.bind_assoc]at h;refine tE.bind rs re h λx H1 v st1 φ1 s1 rs1 re1 rv h1=>tE.bind rs1 re1 h1 λy H2 w st2 φ2 s2 rs2 re2 rw h2=>?_
  cases e:ybA st2 v w with
  |none=>rw[e]at h2;exact h2.elim
  |some z=>
   let⟨k,rfl⟩:=zh3 e;rw[e]at h2;refine⟨B,φ2,st2,v,w,.bl k,rs2,rv.step s2,rw,e,λz' H' φ' s' rs' rz=>?_⟩;erw[yc]at rz;exact⟨k,rz,h2 k H' φ' s' rs' rfl⟩
end
end L2
namespace IC
open PySem
def glue(c:Nat):List (List Nat)->List Nat
 |[]=>[]
 |[p]=>p
 |p::q::r=>p++c::glue c (q::r)
def zaM{c:Nat}:∀{p:List Nat},c∉p->yI c p=[p]
 |[],_=>rfl
 |x::p,h=>by
  have h1:¬x=c:=λe=>h (by simp[e]);erw[yI,if_neg h1,zaM (λe=>h (AK _ e):c∉p)]
def zaW{c:Nat}:∀{p:List Nat} (r:List Nat),c∉p->yI c (p++c::r)=p::yI c r
 |[],r,_=>by simp[yI]
 |x::p,r,h=>by
  have h1:¬x=c:=λe=>h (by simp[e]);erw[Cp,yI,if_neg h1,zaW r (λe=>h (AK _ e):c∉p)]
def za3{c:Nat}:∀{ps:List (List Nat)},ps≠[]->(∀p∈ps,c∉p)->yI c (glue c ps)=ps
 |[],h,_=>absurd rfl h
 |[p],_,h=>by erw[glue];exact zaM (h p (by simp))
 |p::q::r,_,h=>by
  erw[glue];rw[zaW _ (h p (by simp)),za3 (by simp) λx hx=>h x (AK _ hx)]
def zc9(a b:AM):(a++b).cps.toList=a.cps.toList++b.cps.toList:=by
 show (a.cps++b.cps).toList=_;simp
def zbM(c:Nat):∀ys:List AM,(GL ⟨#[c]⟩ ys).cps.toList=glue c (ys.map (·.cps.toList))
 |[]=>rfl
 |[y]=>rfl
 |y::z::r=>by
  erw[GL,AS,glue];rw[zc9,zc9,zbM c (z::r)];simp
def zd6{a b:AM}(h:a.cps.toList=b.cps.toList):a=b:=by
 cases a;cases b
 erw[Str.mk.injEq];exact Array.toList_inj.mp h
def zfG(x:AM)(c:Nat):Dl x ⟨#[c]⟩=(yI c x.cps.toList).map λl=>⟨l.toArray⟩:=by
 have h1:=StrLaws.join_split x ⟨#[c]⟩;have h2:=StrLaws.split_free x c;have h3:=GB x ⟨#[c]⟩;have h4:x.cps.toList=glue c ((Dl x ⟨#[c]⟩).map (·.cps.toList)):=by rw[<-zbM,h1]
 rw[h4,za3]
 .rw[Bo]
  conv=>lhs;rw[<-FT (Dl x ⟨#[c]⟩)]
  refine DF λa _=>zd6 ?_;simp
 .intro e;have:=congrArg CB e;simp at this;rw[this]at h3;simp at h3
 .intro p hp;let⟨a,ha,rfl⟩:=BD.1 hp;exact h2 a ha
end IC
namespace L2
open PySem PySem.Spec PyProof.Rows IC
section
variable {S:Se}{X:Cx}{σ:St}{B:AG->Prop}{φ:Ph}{H:Hp}{p p2 pos pos2 apos:BZ}{a b tg:AL}{ca cb:Ce}
def ycV:V->List V->Hp->VK->Prop:=λx vs H Q=>∃s c,x=.str s/\vs=[.str ⟨#[c]⟩]/\s.length<=100000/\∀l,H l=AB->Q (.ref l) (upd H l (.lst ((yI c s.cps.toList).map λl=>.str ⟨l.toArray⟩)))
def zbZ:∀l:List (AM×GO),Vals (l.map λp=>V.str p.1) (strValues l)
 |[]=>.nil
 |p::l=>.cons ⟨p.2,rfl⟩ (zbZ l)
def zfB:MtR X "str.split" ycV:=by
 intro π s σ H x vs v us Q I rx rv h;let⟨x,c,rfl,rfl,hz,q⟩:=h;let⟨t,rfl⟩:=rx;let⟨w,rfl,rw⟩:=vals1 rv;let⟨u,rfl⟩:=rw;have hle:(Dl x ⟨#[c]⟩).length<=sizeLine:=by
  have:=GE x ⟨#[c]⟩;rw[Bm];lia
 have fin:∀(l:List (AM×GO)) (tk:Nat),l.map (·.1)=Dl x ⟨#[c]⟩->EP X π σ Q (.ref s.heap.objs.size) {s with heap:=s.heap.push {cls:=.type "list",data:=.seq (strValues l).toArray},toks:=tk}:=λl tk e=>by
  have e2:l.map (λp=>V.str p.1)=(yI c x.cps.toList).map λl=>.str ⟨l.toArray⟩:=by
   rw[zfG]at e;have:=congrArg (List.map V.str) e;simpa [Bo,Function.comp_def] using this
  have hl:(l.map λp=>V.str p.1).length<=sizeLine:=by
   rw[Ah,<-Ah (f:=(·.1)),e];exact hle
  refine⟨.ref s.heap.objs.size,_,I.laid (t':=tk) (λb o e=>AR _ e) (AN _) (show yF X.prog X.w _ _ _ (.lst ((yI c x.cps.toList).map λl=>.str ⟨l.toArray⟩))from ?_),rfl,q _ (I.hok.fresh (AN _))⟩;rw[<-e2];exact⟨hl,strValues l,_,zbZ l,A6 _ rfl⟩
 have hsz:x.length<=sizeLine:=by rw[Bm];lia
 cases h1:(decide (x.length<(⟨#[c]⟩:AM).length) || decide (EW x<EW ⟨#[c]⟩))
 .cases hf:(Bw x ⟨#[c]⟩ 0 x.length (x.length+1)).isEmpty
  .refine Eb Cb (DW _ _ _) D9 (DZ _ _) (PySem.meets_str_split_sep x ⟨#[c]⟩ t u h1 rfl hf hsz ?_) ?_
   .have:=hle;unfold Dl at this;rw[if_neg (ne_true_of_eq_false h1),if_neg (ne_true_of_eq_false hf)]at this;exact this
   show wants _ _ _ {s with toks:=_,heap:=s.heap.push {cls:=.type "list",data:=.seq (strsFrom s.toks (Builtin.Str.partsBetween x (Bw x ⟨#[c]⟩ 0 x.length (x.length+1)) (⟨#[c]⟩:AM).length)).toArray} };rw[strsFrom_eq];exact fin (numbered s.toks _) _ ((numbered_texts _ _).trans ((if_neg (ne_true_of_eq_false h1)).trans (if_neg (ne_true_of_eq_false hf))).symm)
  .exact Eb Cb (DW _ _ _) D9 (DZ _ _) (PySem.meets_str_split_not_found x ⟨#[c]⟩ t u h1 rfl hf)
    (fin [(x,t)] _ ((if_neg (ne_true_of_eq_false h1)).trans (if_pos hf)).symm)
 .exact Eb Cb (DW _ _ _) D9 (DZ _ _) (PySem.meets_str_split_cannot_occur x ⟨#[c]⟩ t u h1)
   (fin [(x,t)] _ (if_pos h1).symm)
def zc8{c:Nat}{K:AC}{cl:Nat->AG}:∀ls:List (List Nat),ye K cl B φ H (ls.map λl=>PV.str ⟨l.toArray⟩) (ls.map λl=>V.str ⟨l.toArray⟩)
 |[]=>by simp[ye]
 |l::ls=>by
  erw[AS,ye];exact⟨_,_,rfl,by erw[yc],zc8 (c:=c) ls⟩
def zdT(st:SO)(y q:AM):(∃c,q=⟨#[c]⟩/\y.length<=100000/\yaQ st (.str y) (.str q)=.ok (.lst ((yI c y.cps.toList).map λl=>.str ⟨l.toArray⟩)) st) \/ yaQ st (.str y) (.str q)=.bad:=by
 erw[yaQ];split
 .rename_i c hc;split
  .rename_i hz;exact .inl ⟨c,zd6 (by rw[hc]),hz,rfl⟩
  .exact .inr rfl
 .exact .inr rfl
def zfP(ha:PE X a (tE S X ca))(hb:PE X b (tE S X cb))(hs:starEach [b] X.env=(AF,eval b X.env)::starEach [] X.env:=by rfl)(hbase:attributeBase a "split" X.env (eval a X.env)=eval a X.env:=by rfl)(hline:(apos.endLine==pos.line)=true:=by rfl)
  (hfew:((backTo pos (starEach [b] X.env)).all (λx=>!x.1)&&(backToKw pos (keywordEach [] X.env)).all (λx=>x.1.isSome)&&decide (([b]:List AL).length+([]:List CU).length+(if ([]:List CU).isEmpty then 0 else 1)<30))=true:=by rfl) (hany:(backTo pos (starEach [] X.env)).any (·.1)=false:=by rfl):
  PE X (.Call (.Attribute a "split" apos) [b] [] pos) (tE S X (.mth .split ca (.cons cb .nil))):=
 (zku PySem.F.plainAttrs_str Cb PySem.F.type_str_split zfB ha (za9 (S:=S) hb zek hs) hbase hfew hline hs hany).imp λσ H Q ⟨B,φ,st,ρ,rs,re,h⟩=>by
  erw[ev]at h;refine tE.bind rs re h λx H1 v st1 φ1 s1 rs1 re1 rv h1=>?_;let⟨_,e1,h1⟩:=zhU h1
  cases v with
  |str y=>
   erw[yc]at rv;subst rv;refine⟨rfl,tAs.bind rs1 re1 h1 λys H2 vs st2 φ2 s2 rs2 re2 rvs h2=>?_⟩;rcases vs with _|⟨w,_|⟨w',t⟩⟩
   .exact h2.elim
   .let⟨z,rfl,rw⟩:=rvs.one;erw[ycM]at h2
    cases w with
    |str q=>
     erw[yc]at rw;subst rw;rcases zdT st2 y q with⟨c,rfl,hz,e⟩|e
     .rw[e]at h2;exact⟨y,c,rfl,rfl,hz,λl hl=>h2 _ _ φ2 (.upd hl) (rs2.upd hl) (.lst_new hl rs2 (zc8 (c:=c) _))⟩
     .rw[e]at h2;exact h2.elim
    |_=>exact h2.elim
   .exact h2.elim
  |_=>cases e1
end
end L2
namespace WE
open PySem PySem.Spec PyProof.Rows
section
variable {pg:AZ}{wd:A8}{A:A3}{Er:AE->AH->Prop}{s:AH}
end
end WE
namespace L2
open PySem PySem.Spec PyProof.Rows
end L2
namespace L2
open PySem PySem.Spec PyProof.Rows IC
inductive ybI(K:AC)(cl:Nat->AG)(w:A8):List (AM×PV)->List Bj->Prop
 |nil:ybI K cl w [] []
 |cons {k:AM} {v:PV} {t:GO} {u:AE} {x:V} {D:List (AM×PV)} {es:List Bj} (hr:RelV x u) (hv:∀B φ H,yc K cl B φ H v x) (h:ybI K cl w D es):ybI K cl w ((k,v)::D) (⟨D0 w.params k,.str k t,u⟩ :: es)
def GD(K:AC)(w:A8)(mg:AM->Option AE)(cl:Nat->AG)(x:AM)(D:List (AM×PV)):Prop:=
 ∃(y:AG) (es:Array Bj) (ep:Nat),mg x=AA (.ref y)/\K.lookup y=AA ⟨.type "dict",AB,.dict es ep,#[]⟩/\(y==sysModules)=AF/\ybI K cl w D es.toList/\(D.map (·.1)).Nodup
theorem ybI.pairs{K:AC}{cl:Nat->AG}{P:AZ}{w:A8}{D:List (AM×PV)}{es:List Bj}(h:ybI K cl w D es):
  ∃vs:List (AM×AE),Pairs (strKind P w) es vs/\(∀e∈es,∃k,(strKind P w).is k e.key=AD/\e.hash=(strKind P w).hash k)/\vs.map (·.1)=D.map (·.1) /\
   (∀s,(valueAt vs s).isSome=(yaX s D).isSome)/\∀s v,yaX s D=AA v->∃u x,valueAt vs s=AA u/\RelV x u/\∀B φ H,yc K cl B φ H v x:=by
 induction h with
 |nil=>exact⟨[],.nil,λe he=>(by cases he),rfl,λs=>rfl,λs v e=>by cases e⟩
 |@cons k v t u x D es hr hv h ih=>
  let⟨vs,h1,h2,h3,h4,h5⟩:=ih;have hat:∀s,valueAt ((k,u)::vs) s=if k=s then AA u else valueAt vs s:=λs=>by
   unfold valueAt;rw[B5]
   by_cases e:k=s
   .simp[e]
   .simp[e]
  refine⟨(k,u)::vs,.cons (Dv P w k t) rfl h1,λe he=>?_,by rw[AS,AS,h3],λs=>?_,λs v' e=>?_⟩
  .rcases A5.1 he with rfl|he
   .exact⟨k,Dv P w k t,rfl⟩
   .exact h2 e he
  .rw[hat,yaX]
   by_cases e:k=s
   .rw[if_pos e,if_pos (by simpa using e)];rfl
   .rw[if_neg e,if_neg (by simpa using e),h4]
  .rw[yaX]at e;rw[hat]
   by_cases q:k=s
   .rw[if_pos (by simpa using q)]at e
    cases e
    exact⟨u,x,by rw[if_pos q],hr,hv⟩
   .rw[if_neg (by simpa using q)]at e;let⟨u',x',e1,e2,e3⟩:=h5 s v' e;exact⟨u',x',by rw[if_neg q];exact e1,e2,e3⟩
section
variable {S:Se}{X:Cx}{σ:St}{B:AG->Prop}{φ:Ph}{H:Hp}{st:SO}{pos p:BZ}{a b i:AL}{ca cb:Ce}{x:AM}{D:List (AM×PV)}{ty:TE}
end
section
variable {K:AC}{cl:Nat->AG}{B:AG->Prop}{φ:Ph}{H:Hp}{st:SO}
theorem nth{D y:AG}(b:¬Bx B D y)(n:AA y∉φ):¬B y/\AA y∉φ++[AA D]:=⟨λz=>b (.inl z),λz=>by
 rcases Ax.1 z with z|z
 .exact n z
 .simp only[A5,CA,or_false,Bn]at z;exact b (.inr z)⟩
mutual
theorem yc.thaw{D:AG}:∀(v:PV) (x:V),yc K cl (Bx B D) φ H v x->yc K cl B (φ++[AA D]) H v x
 |.non,x,h=>by erw[yc]at h ⊢;exact h
 |.bl b,x,h=>by erw[yc]at h ⊢;exact h
 |.int i,x,h=>by erw[yc]at h ⊢;exact h
 |.str y,x,h=>by erw[yc]at h ⊢;exact h
 |.tp k vs,x,h=>by
  erw[yc]at h ⊢;let⟨y,xs,e,r,l⟩:=h;refine⟨y,xs,e,?_,ye.thaw vs xs l⟩;rcases r with⟨r,b,n⟩|r
  .exact .inl ⟨r,nth b n⟩
  .exact .inr r
 |.lst vs,x,h=>by
  erw[yc]at h ⊢;let⟨y,xs,e,⟨r,b,n⟩,l⟩:=h;exact⟨y,xs,e,⟨r,nth b n⟩,ye.thaw vs xs l⟩
 |.loc n,x,h=>by
  erw[yc]at h ⊢;let⟨hn,y,e,q⟩:=h;exact⟨by simp;lia,y,e,λb z=>q b (by rw[AQ hn]at z;exact z)⟩
 |.fnc j,x,h=>by erw[yc]at h ⊢;exact h
 |.exn c,x,h=>by
  erw[yc]at h ⊢;let⟨y,e,r,b,n⟩:=h;exact⟨y,e,r,nth b n⟩
 |.scr vs,x,h=>by
  erw[yc]at h ⊢;let⟨y,xs,e,r,l⟩:=h;refine⟨y,xs,e,?_,ye.thaw vs xs l⟩;rcases r with⟨r,b,n⟩|r
  .exact .inl ⟨r,nth b n⟩
  .exact .inr r
theorem ye.thaw{D:AG}:∀(v:List PV) (x:List V),ye K cl (Bx B D) φ H v x->ye K cl B (φ++[AA D]) H v x
 |[],x,h=>by erw[ye]at h ⊢;exact h
 |v::vs,x,h=>by
  erw[ye]at h ⊢;let⟨y,ys,e,r,l⟩:=h;exact⟨y,ys,e,yc.thaw v y r,ye.thaw vs ys l⟩
end
theorem DK.thaw{D:AG}:∀{kvs:List (PV×PV)} {ks:List (Key×V)},DK K cl (Bx B D) φ H kvs ks->DK K cl B (φ++[AA D]) H kvs ks
 |[],ks,h=>h
 |(k,v)::r,ks,h=>by
  let⟨q,x,t,e,m,rv,l⟩:=h;exact⟨q,x,t,e,m,rv.thaw,DK.thaw l⟩
theorem DT.thaw{D:AG}:∀{kvs:List (PV×PV)} {ks:List (List NK×V)},DT K cl (Bx B D) φ H kvs ks->DT K cl B (φ++[AA D]) H kvs ks
 |[],ks,h=>h
 |(k,v)::r,ks,h=>by
  let⟨q,x,t,e,m,rv,l⟩:=h;exact⟨q,x,t,e,m,rv.thaw,DT.thaw l⟩
theorem FS.thaw{D:AG}:∀{kvs:List (AM×PV)} {ks:List (AM×V)},FS K cl (Bx B D) φ H kvs ks->FS K cl B (φ++[AA D]) H kvs ks
 |[],ks,h=>h
 |(k,v)::r,ks,h=>by
  let⟨x,t,e,rv,l⟩:=h;exact⟨x,t,e,rv.thaw,FS.thaw l⟩
theorem yh.thaw{D:AG}{zs:List PV}{ys:List V}(rs:yh K cl (Bx B D) φ H st)(nB:¬B D)(hD:H D=AA (.lst ys))(nD:AA D∉φ)(l:ye K cl (Bx B D) φ H zs ys):yh K cl B (φ++[AA D]) H (st++[.lst zs]):=by
 have hl:φ.length=st.length:=rs.len;have spl:∀{n:Nat} {a:AG},(φ++[AA D])[n]?=AA (AA a)->(n<φ.length/\φ[n]?=AA (AA a)) \/ (n=φ.length/\a=D):=λ{n a} e=>by
  by_cases hn:n<φ.length
  .rw[AQ hn]at e;exact .inl ⟨hn,e⟩
  .rw[A1 ∅]at e;rcases (by lia:n-φ.length=0 \/ 0<n-φ.length)with q|q
   .rw[q]at e;simp at e;exact .inr ⟨by lia,e.symm⟩
   .rw[An (by simp;lia)]at e;cases e
 have ne:∀{n:Nat} {a:AG},φ[n]?=AA (AA a)->a≠D:=λe z=>nD (z ▸ A7 e);refine⟨by simp[hl],λm n a e1 e2=>?_,λn a e=>?_,λn o e ho=>?_,λa h=>?_,λa h=>rs.dom a (.inl h),λa h=>rs.nt a (.inl h)⟩
 .rcases spl e1 with⟨h1,e1⟩|⟨h1,q1⟩<;>rcases spl e2 with⟨h2,e2⟩|⟨h2,q2⟩
  .exact rs.inj m n a e1 e2
  .exact absurd q2 (ne e1)
  .exact absurd q1 (ne e2)
  .lia
 .rcases spl e with⟨h1,e1⟩|⟨h1,q1⟩
  .let⟨o,q,r⟩:=rs.obj n a e1;refine⟨o,by rw[AQ ∅];exact q,?_⟩
   cases o with
   |lst vs=>let⟨xs,hx,l⟩:=r;exact⟨xs,hx,l.thaw⟩
   |dct t kvs=>cases t<;>(let⟨xs,hx,l⟩:=r;exact⟨xs,hx,l.thaw⟩)
   |ins c fs=>let⟨ks,hx,l⟩:=r;exact⟨ks,hx,l.thaw⟩
   |dead=>exact r.elim
  .subst q1;exact⟨.lst zs,by rw[h1,hl,A1 (AN _)];simp,ys,hD,l.thaw⟩
 .by_cases hn:n<st.length
  .rw[AQ hn]at e;let⟨a,q⟩:=rs.liv n o e ho;exact⟨a,by rw[AQ ∅];exact q⟩
  .have hn2:n=st.length:=by
    rcases (by lia:n=st.length \/ st.length<n)with q|q
    .exact q
    .rw[An (by simp;lia)]at e;cases e
   exact⟨D,by rw[hn2,<-hl,A1 (AN _)];simp⟩
 .rcases Ax.1 h with h|h
  .exact λz=>rs.nb a h (.inl z)
  .simp only[A5,CA,or_false,Bn]at h;subst h;exact nB
end
section
variable {S:Se}{X:Cx}{K:AC}{cl:Nat->AG}{σ:St}{B:AG->Prop}{φ φ1:Ph}{H H1:Hp}{st:SO}{ρ:IC.Env}{pos p p2 px:BZ}{a b c o tg l elt iter:AL}{ca cb cc ce:Ce}{ci:Cit}{ct:Tg}
end
section
variable {K:AC}{cl:Nat->AG}{B:AG->Prop}{φ:Ph}{H:Hp}{st:SO}
theorem FS.lookup{f:AM}:∀{fs:List (AM×PV)} {ks:List (AM×V)},FS K cl B φ H fs ks->(∀v,fs.lookup f=AA v->∃x,ks.lookup f=AA x/\yc K cl B φ H v x)/\(fs.lookup f=AB->ks.lookup f=AB)
 |[],ks,h=>by
  cases (show ks=[]from h)
  exact⟨nofun,λ_=>rfl⟩
 |(k,v)::r,ks,h=>by
  let⟨x,s,rfl,rv,l⟩:=h;let⟨q1,q2⟩:=FS.lookup (f:=f) l;erw[FR]
  cases e:f==k with
  |true=>exact⟨λw z=>by cases z;exact⟨x,rfl,rv⟩,λz=>by cases z⟩
  |false=>exact⟨q1,q2⟩
theorem FS.put{f:AM}{v:PV}{x:V}(r:yc K cl B φ H v x):∀{fs:List (AM×PV)} {ks:List (AM×V)},FS K cl B φ H fs ks->FS K cl B φ H (ydb f v fs) (ydf f x ks)
 |[],ks,h=>by
  cases (show ks=[]from h)
  exact⟨x,[],rfl,r,rfl⟩
 |(k,w)::q,ks,h=>by
  let⟨y,s,rfl,ry,l⟩:=h;erw[ydb,ydf]
  by_cases c:k=f
  .rw[if_pos c,if_pos c];exact⟨x,s,rfl,r,l⟩
  .rw[if_neg c,if_neg c];exact⟨y,_,rfl,ry,FS.put r l⟩
theorem FS.len:∀{fs:List (AM×PV)} {ks:List (AM×V)},FS K cl B φ H fs ks->fs.length=ks.length
 |[],ks,h=>by cases (show ks=[]from h);rfl
 |(k,w)::q,ks,h=>by
  let⟨y,s,rfl,ry,l⟩:=h;simp[FS.len l]
theorem yh.ins{n c:Nat}{fs:List (AM×PV)}{x:V}(rs:yh K cl B φ H st)(r:yc K cl B φ H (.loc n) x)(h:st[n]?=AA (.ins c fs)):∃y ks dx,x=.ref y/\φ[n]?=AA (AA y)/\H y=AA (.ins (cl c) dx ks)/\FS K cl B φ H fs ks:=by
 erw[yc]at r;let⟨hn,y,rfl,hy⟩:=r;let⟨a,ha⟩:=rs.liv n _ h (by intro z;cases z);let⟨o,ho,ro⟩:=rs.obj n a ha;have e:=hy a ha;subst e;rw[h]at ho
 cases ho
 let⟨ks,⟨dx,q⟩,l⟩:=ro;exact⟨a,ks,dx,rfl,ha,q,l⟩
end
theorem yc.inj_non{K:AC}{cl:Nat->AG}{B:AG->Prop}{φ:Ph}{H:Hp}{v:PV}(h:yc K cl B φ H v .non):v=.non:=by
 cases v with
 |non=>rfl
 |bl b=>simp[yc]at h
 |int b=>simp[yc]at h
 |str b=>simp[yc]at h
 |tp k b=>erw[yc]at h;let⟨_,_,e,_⟩:=h;cases e
 |lst b=>erw[yc]at h;let⟨_,_,e,_⟩:=h;cases e
 |loc b=>erw[yc]at h;let⟨_,_,e,_⟩:=h;cases e
 |fnc b=>erw[yc]at h;cases h
 |exn b=>erw[yc]at h;let⟨_,e,_⟩:=h;cases e
 |scr b=>erw[yc]at h;let⟨_,_,e,_⟩:=h;cases e
section
variable {S:Se}{X:Cx}{σ:St}{B:AG->Prop}{φ φ1:Ph}{H H1:Hp}{st:SO}{ρ:IC.Env}{p pos pos' p2 apos:BZ}{a b d o e:AL}{ca cb cc:Ce}{es:List AL}{ces:Ces}{c i k:Nat}{f m x:AM}{fa:AG}{fd:Aj}{ps:List AM}
def zaE{kk:PV}{kvs:List (PV×PV)}{v:PV}(h:look kk kvs=AA v)(w:PV):(look kk kvs).getD w=v:=by rw[h];rfl
def zih(hu:X.A.units+16<cLine)(ha:PE X a (tE S X ca))(hb:PE X b (tE S X cb))(hs:yb1 b:=by exact λ_ _=>rfl):PE X (.Subscript a b pos) (tE S X (.dgt ca cb)):=
 (zeb hu ha hb hs).imp λσ H Q ⟨B,φ,st,ρ,rs,re,h⟩=>by
  erw[ev]at h;refine tE.bind rs re h λx H1 v st1 φ1 s1 rs1 re1 rv h1=>tE.bind rs1 re1 h1 λy H2 w st2 φ2 s2 rs2 re2 rw h2=>?_;let⟨z,e,q⟩:=zu h2 rs2;erw[ycN]at e
  cases q3:yal st2 v with
  |none=>rw[q3]at e;cases e
  |some tk=>
   let⟨t,kvs⟩:=tk;rw[q3]at e;dsimp only at e;split at e
   .rename_i hk;let⟨n,rfl,hn⟩:=zdA q3;let⟨y3,rfl,hy3,ro3⟩:=rs2.dct (rv.step s2) hn
    cases t with
    |false=>
     let⟨kq,rfl⟩:=zhE hk;let⟨ks,hks,l⟩:=ro3;obtain⟨vv,hv,rvv⟩:∃vv,yat ks kq=AA vv/\yc X.K S.cl B φ2 H2 z vv:=by
      have hn:=DK.look (q:=kq) l (v:=.non) (x:=.non) (by erw[yc]);have hb:=DK.look (q:=kq) l (v:=.bl AD) (x:=.bl AD) (by erw[yc]);rw[zaE e]at hn hb
      cases hv:yat ks kq with
      |some vv=>rw[hv]at hn;exact⟨vv,rfl,hn⟩
      |none=>
       rw[hv]at hn hb;exact absurd (yc.inj_non hn) (λez=>by subst ez;simp[yc]at hb)
     exact⟨y3,vv,rfl,.inl ⟨ks,kq,.inl hks,zkO.mp rw,hv.symm⟩,q vv H2 φ2 .rfl rs2 rvv⟩
    |true=>
     let⟨kq,rfl,hkq⟩:=zet hk;let⟨ks,hks,l⟩:=ro3;let⟨b',rfl,hb'⟩:=zdK hkq rw;obtain⟨vv,hv,rvv⟩:∃vv,yat ks kq=AA vv/\yc X.K S.cl B φ2 H2 z vv:=by
      have hn:=DT.look (q:=kq) l (v:=.non) (x:=.non) (by erw[yc]);have hb:=DT.look (q:=kq) l (v:=.bl AD) (x:=.bl AD) (by erw[yc]);rw[zaE e]at hn hb
      cases hv:yat ks kq with
      |some vv=>rw[hv]at hn;exact⟨vv,rfl,hn⟩
      |none=>
       rw[hv]at hn hb;exact absurd (yc.inj_non hn) (λez=>by subst ez;simp[yc]at hb)
     exact⟨y3,vv,rfl,.inr ⟨ks,kq,b',.inl hks,rfl,hb',hv.symm⟩,q vv H2 φ2 .rfl rs2 rvv⟩
   .cases e
end
inductive ybC(w:A8)(fa:Nat->AG):List (AM×Nat)->List Bj->Prop
 |nil:ybC w fa [] []
 |cons {k:AM} {i:Nat} {t:GO} {D:List (AM×Nat)} {es:List Bj} (h:ybC w fa D es):ybC w fa ((k,i)::D) (⟨D0 w.params k,.str k t,.ref (fa i)⟩ :: es)
def GDF(K:AC)(w:A8)(mg:AM->Option AE)(fa:Nat->AG)(x:AM)(D:List (AM×Nat)):Prop:=
 ∃(y:AG) (es:Array Bj) (ep:Nat),mg x=AA (.ref y)/\K.lookup y=AA ⟨.type "dict",AB,.dict es ep,#[]⟩/\ybC w fa D es.toList/\(D.map (·.1)).Nodup
theorem ybC.pairs{P:AZ}{w:A8}{fa:Nat->AG}{D:List (AM×Nat)}{es:List Bj}(h:ybC w fa D es):
  ∃vs:List (AM×AE),Pairs (strKind P w) es vs/\(∀e∈es,∃k,(strKind P w).is k e.key=AD/\e.hash=(strKind P w).hash k)/\vs.map (·.1)=D.map (·.1) /\
   ∀s i,D.lookup s=AA i->valueAt vs s=AA (.ref (fa i)):=by
 induction h with
 |nil=>exact⟨[],.nil,λe he=>(by cases he),rfl,λs v e=>by cases e⟩
 |@cons k i t D es h ih=>
  let⟨vs,h1,h2,h3,h5⟩:=ih;have hat:∀s,valueAt ((k,BF (fa i))::vs) s=if k=s then AA (.ref (fa i))else valueAt vs s:=λs=>by
   unfold valueAt;rw[B5]
   by_cases e:k=s
   .simp[e]
   .simp[e]
  refine⟨(k,.ref (fa i))::vs,.cons (Dv P w k t) rfl h1,λe he=>?_,by rw[AS,AS,h3],λs j e=>?_⟩
  .rcases A5.1 he with rfl|he
   .exact⟨k,Dv P w k t,rfl⟩
   .exact h2 e he
  .rw[hat];erw[FR]at e
   by_cases q:k=s
   .subst q;rw[beq_self_eq_true]at e
    cases e
    rw[if_pos rfl]
   .rw[beq_eq_false_iff_ne.2 (Bl q)]at e;rw[if_neg q];exact h5 s j e
section
variable {S:Se}{X:Cx}{σ:St}{B:AG->Prop}{φ:Ph}{H:Hp}{st:SO}{ρ:IC.Env}{pos p p1 p2 p3 p4 p5 p6 p7:BZ}{a b i e n:AL}{es:List AL}{ca cn:Ce}{ces:Ces}{x y:AM}{D:List (AM×Nat)}{ty:TE}{t:TA}{fa:Nat->AG}{fdd:Nat->Aj}{ps:Nat->List AM}{k ix:Nat}
def ycJ(D:List (AM×Nat))(fa:Nat->AG)(ty:TE):TE:=λσ H Q=>ty σ H λz H2=>∃s j,z=.str s/\D.lookup s=AA j/\Q (.ref (fa j)) H2
def zfV(hg:Gl X x)(h:GDF X.K X.w X.mg fa x D)(hi:PE X i ty)(hs:yb1 i)(hd:(x==("__debug__":AM))=false:=by decide):PE X (.Subscript (.Name x p) i pos) (ycJ D fa ty):=by
 let⟨y,es,ep,hm,hk,hr,hn⟩:=h;let⟨vs,h1,h2,h3,h5⟩:=hr.pairs (P:=X.prog);intro π s σ H Q I q0;refine zei D5.lookup hs (thn (zck (v:=.ref y) hg hm rfl hd π s σ H (λz H1=>z=.ref y/\ty σ H1 λz H2=>∃s j,z=.str s/\D.lookup s=AA j/\Q (.ref (fa j)) H2) I ⟨rfl,q0⟩) λu s1 kq=>?_);let⟨z,H1,I1,rz,ez,q1⟩:=kq;refine thn (hi π s1 σ H1 _ I1 q1) λiv s2 kq=>?_;let⟨z2,H2,I2,rz2,sx,j,ez2,e,q2⟩:=kq;subst ez;subst ez2;obtain rfl:u=BF y:=rz;let⟨t,rfl⟩:=rz2;have dd:s2.heap.DictOf (strKind X.prog X.w) y vs:=⟨_,es,ep,I2.kIn y _ hk,⟨rfl,rfl,rfl⟩,rfl,λe he=>h2 e (by simpa using he),h1,by rw[h3];exact hn⟩;exact⟨dd.typeIs,FM (Dv X.prog X.w sx t) dd.mapOf (h5 sx j e) ⟨.ref (fa j),H2,I2.tok _,rfl,q2⟩⟩
structure Makers(S:Se)(X:Cx)(k:Nat)(D:List (AM×Nat))(fa:Nat->AG)(fdd:Nat->Aj)(ps:Nat->List AM):Prop where
 F:∀s j,D.lookup s=AA j->yaD X.prog X.w X.K X.mg X.base (CX1 X.prog X.w) k (fa j) (fdd j) (ps j) (spI X.K S.cl S.call j)
 kp:∀s j,D.lookup s=AA j->Aa X.K (.ref (fa j))=AD
 b:∀s j,D.lookup s=AA j->Binds X.K (fdd j) (ps j) []
def ycY(S:Se)(X:Cx)(D:List (AM×Nat))(fa:Nat->AG)(ix:Nat)(t:TA):TE:=λσ H Q=>∃s j,D.lookup s=AA j/\σ[ix]?=AA (AA (.ref (fa j)))/\t σ H λvs H1=>∃E:XK,spI X.K S.cl S.call j vs H1 Q E/\∀π s e s',Inv X π σ H1 s->CX1 X.prog X.w X.stack H1 s E e s'->X.xe e s'
def zfg(M:Makers S X k D fa fdd ps)(hr:yap k X.A)(hN:X.N[ix]?=AA x)(hv:Vis X.env.scope x)(ha:PA X (e::es) t)
  (hd:(x==("__debug__":AM))=false:=by decide) (hcd:(x==("__classdict__":AM))=false:=by decide) (he:starEach (e::es) X.env=(AF,eval e X.env)::starEach es X.env:=by rfl) (hpl:(backTo pos (starEach es X.env)).any (·.1)=false:=by rfl):
  PE X (.Call (.Name x p) (e::es) [] pos) (ycY S X D fa ix t):=by
 intro π s σ H Q I ⟨sx,j,hl,hs,h⟩;refine BO (thn (zgv hN hv hd hcd π s σ H (λz H1=>z=.ref (fa j)/\t σ H1 λvs H1=>∃E:XK,spI X.K S.cl S.call j vs H1 Q E/\∀π s e s',Inv X π σ H1 s->CX1 X.prog X.w X.stack H1 s E e s'->X.xe e s') I ⟨_,hs,rfl,h⟩) λu s1 kq=>?_);let⟨z,H1,I1,rz,ez,q1⟩:=kq;subst ez;obtain rfl:u=BF (fa j):=rz;refine Ee (h₀:=X.base) I.ok.mod.kin (M.kp sx j hl) (thn (ha pos π s1 σ H1 _ I1 q1) λus s2 kq=>?_) he hpl;let⟨vs,H2,I2,r,E,q,hx⟩:=kq;refine ⟨I2.kIn,?_⟩;exact zb2 (M.F sx j hl) hr (M.b sx j hl) .nil I2 r (by rw[B4];exact q) λe s' c=>hx π s2 e s' I2 c
theorem yp.hole{K:AC}{cl:Nat->AG}{v:V}(re:yp K cl B φ H ρ σ):yp K cl B φ H (ρ.set ix AB) (σ.set ix (AA v)):=by
 refine⟨by simp[re.len],λj w e=>?_⟩
 by_cases q:ix=j
 .subst q
  by_cases hj:ix<ρ.length
  .rw[Aw hj]at e;cases e
  .rw[An (by simp;lia)]at e;cases e
 .rw[Ai q]at e ⊢;exact re.get j w e
def zfh{v:PV}{j:Nat}{b:Bool}(h:mkV D b v=AA j):∃s,v=.str s/\D.lookup s=AA j/\b=true:=by
 cases v with
 |str s=>
  cases b with
  |true=>exact⟨s,rfl,h,rfl⟩
  |false=>cases h
 |_=>cases h
def zi2(M:Makers S X k D fa fdd ps)(hr:yap k X.A)(hN:X.N.Nodup)(hi:X.N[ix]?=AA x)(hx:Loc X.env.scope x)(hv:Vis X.env.scope x)(hg:Gl X y)(hd:GDF X.K X.w X.mg fa y D)(hn:PE X n (tE S X cn))(ha:PA X (e::es) (tAs S X ces))
  (hs:yb1 n:=by exact λ_ _=>rfl) (hsw:swapsWith (.Subscript (.Name y p2) n p3) (AA (.Name x p1)) p4.line X.env=pure false:=by rfl) (hf:X.fn x=AD \/ X.env.scope.names.lookup x=AA .local:=by first|exact .inl rfl|exact .inr rfl|assumption)
  (hyd:(y==("__debug__":AM))=false:=by decide) (hxd:(x==("__debug__":AM))=false:=by decide) (hcd:(x==("__classdict__":AM))=false:=by decide) (he:starEach (e::es) X.env=(AF,eval e X.env)::starEach es X.env:=by rfl) (hpl:(backTo p6 (starEach es X.env)).any (·.1)=false:=by rfl):
  PSs X [.Assign [.Name x p1] (.Subscript (.Name y p2) n p3) p4,.Return (AA (.Call (.Name x p5) (e::es) [] p6)) p7] (tSs S X (.cons (.mkr ix D cn ces) .nil)):=
 (zcN (zgB hN hi hx (zfV hg hd hn hs hyd) hsw hf) (zg4 (zgI (zfg M hr hi hv ha hxd hcd he hpl)))).imp λD' σ H ⟨B,φ,st,ρ,rs,re,h⟩=>by
  have h:yW S X B φ H (ex S.call ρ st (.mkr ix D cn ces)) D':=by
   erw[exs]at h
   cases q:ex S.call ρ st (.mkr ix D cn ces)with
   |nx ρ' s'=>
    exfalso;erw[ex]at q
    cases q1:ev S.call ρ st cn with
    |ok v1 s1=>
     rw[q1]at q;erw[R.fl]at q;split at q
     .rename_i j _
      cases q2:(evs S.call (ρ.set ix AB) s1 ces).bind λvs st2=>S.call j vs st2 with
      |ok v2 s2=>rw[q2]at q;cases q
      |exc c s2=>rw[q2]at q;cases q
      |bad=>rw[q2]at q;cases q
     .cases q
    |exc c s1=>rw[q1]at q;cases q
    |bad=>rw[q1]at q;cases q
   |rt v s'=>rw[q]at h;exact h
   |bk ρ' s'=>rw[q]at h;exact h
   |ct ρ' s'=>rw[q]at h;exact h
   |exc c ρ' s'=>rw[q]at h;exact h
   |bad=>rw[q]at h;exact h
  erw[ex]at h;refine tE.fl rs re h λx' H1 v st1 φ1 s1 rs1 re1 rv h1=>?_
  cases q:mkV D (decide (ix<ρ.length)) v with
  |none=>rw[q]at h1;exact h1.elim
  |some j=>
   rw[q]at h1;let⟨sx,rfl,hl,hb⟩:=zfh q;erw[yc]at rv;subst rv;have hlen:ix<σ.length:=by
    rw[<-re1.len];exact of_decide_eq_true hb
   refine⟨sx,j,rfl,hl,sx,j,hl,by rw[Aw hlen],B,φ1,st1,ρ.set ix AB,rs1,re1.hole,?_⟩;dsimp only at h1
   cases q2:evs S.call (ρ.set ix AB) st1 ces with
   |bad=>rw[q2]at h1;exact h1
   |exc c s2=>rw[q2]at h1;exact λe s' z=>h1 _ φ1 H1 e s' .rfl re1.hole z
   |ok vs st2=>
    rw[q2]at h1;intro xs H2 φ2 s2 rs2 rl;have h2:yW S X B φ1 H1 ((S.call j vs st2).fl (ρ.set ix AB) λv st3=>.rt v st3) D':=h1;refine z5 rs2 rl ?_
    cases q3:S.call j vs st2 with
    |bad=>rw[q3]at h2;exact h2
    |ok v st3=>rw[q3]at h2;exact λx H' φ' s' rs' rv=>h2 x H' φ' (s2.trans s') rs' rv
    |exc c st3=>rw[q3]at h2;exact λe s' z=>h2 _ φ2 H2 e s' s2 (re1.hole.step s2) z
end
section
variable {P:AZ}{w:A8}{K:AC}{mg:AM->Option AE}{base:Ak}{cl:Nat->AG}{T:Nat->Option IC.Fn}{fi:Nat}{fn:IC.Fn}{x qual:AM}{stm:B7}{f:AG}{fd:Aj}{N ps:List AM}{k m:Nat}
def zf9:yaD P w K mg base (CX1 P w) m f fd ps (spI K cl (yd T 0) fi):=
 ⟨λvs H Q E ⟨_,_,_,_,_,_,h⟩=>by rw[yd]at h;exact h.elim,λA outer s H args us vs Q E _ _ _ _ ⟨_,_,_,_,_,_,h⟩=>by rw[yd]at h;exact h.elim⟩
end
theorem yai.units{k:Nat}{A:A3}(r:yai k A):A.units+64<cLine:=by have:=r.un;lia
section
variable {P:AZ}{w:A8}{K:AC}{mg:AM->Option AE}{base:Ak}{cl:Nat->AG}{T:Nat->Option IC.Fn}{fi:Nat}{fn:IC.Fn}{x qual:AM}{stm:B7}{f:AG}{fd:Aj}{N ps:List AM}{k m:Nat}
def zfH(hT:T fi=AA fn)(hns:N.length=fn.ns)(hpu:fn.pure=AF){scope:Al}{cdv:AE}{A:A3}{outer:List Az}{s:AH}{vs:List V}{H:Hp}{Q:VK}(h:spI K cl (yd T (k+1)) fi vs H Q E0):
  tSs ⟨cl,yd T k,AF⟩ (ybc P w K mg base N qual scope f cdv A outer s H) fn.body {nx:=λ_ H'=>Q .non H',rt:=Q} (L2.start N vs) H:=by
 let⟨B,φ,st,args,rs,l,h⟩:=h;have hl:args.length=fn.np:=zel (k:=k) hT args st λz=>by rw[z]at h;exact h
 have hlen:=l.length;rw[yd,hT]at h;dsimp only at h;rw[if_pos hl,hpu,if_neg (by simp)]at h;refine⟨B,φ,st,_,rs,yp.start l (fn.ns-fn.np) ∅,?_⟩;show yW _ _ _ _ _ (exs (yd T k) (args.map AA++Ap (fn.ns-fn.np) AB) st fn.body) _
 cases e:exs (yd T k) (args.map AA++Ap (fn.ns-fn.np) AB) st fn.body with
 |nx ρ' st'=>
  rw[e]at h;intro σ' H' φ' s' rs' re';exact h .non H' φ' s' rs' (by erw[yc])
 |rt v st'=>
  rw[e]at h;intro y H' φ' s' rs' rv;exact h y H' φ' s' rs' rv
 |exc c ρ' st'=>
  rw[e]at h;intro σ' φ1 H1 ev s' s1 _ ex;rcases ex with⟨π,H2,s2,φ2,I,s3,q⟩|⟨hm,_⟩|⟨hm,_⟩
  .let⟨_,cls,_,H',_,_,_,_,_,_,_,_,_,_,e1,φ',s4,r⟩:=q;exact(h H' φ' (s1.trans (s3.trans s4)) r).elim
  .cases hm
  .cases hm
 |bk ρ' st'=>rw[e]at h;exact h.elim
 |ct ρ' st'=>rw[e]at h;exact h.elim
 |bad=>rw[e]at h;exact h.elim
def zjH(hT:T fi=AA fn)(F:Fun K x qual stm f fd)(Sc:yak N ps (yg stm))(hnp:ps.length=fn.np)(hns:N.length=fn.ns)(hpu:fn.pure=AF)
  (body:∀(cdv:AE) (A:A3) (outer:List Az) (s:AH) (H:Hp),yai m (A.deeper (envOfC qual (yg stm) s.heap.objs.size f cdv)) ->
   PSs (ybc P w K mg base N qual (yg stm) f cdv A outer s H) (yG stm) (tSs ⟨cl,yd T k,AF⟩ (ybc P w K mg base N qual (yg stm) f cdv A outer s H) fn.body)):
  ybv P w K mg base (m+1) f fd ps (spI K cl (yd T (k+1)) fi):=
 F.okH Sc (λvs H Q E h=>zgw hT hnp h) λcdv A outer s H vs Q hr h=>⟨_,body cdv A outer s H hr,zfH hT hns hpu h⟩
def zfq:ybv P w K mg base m f fd ps (spI K cl (yd T 0) fi):=
 ⟨λvs H Q E ⟨_,_,_,_,_,_,h⟩=>by rw[yd]at h;exact h.elim,λA outer s H args us vs Q _ _ _ _ ⟨_,_,_,_,_,_,h⟩=>by rw[yd]at h;exact h.elim⟩
end
section
variable {S:Se}{X:Cx}{σ:St}{B:AG->Prop}{φ:Ph}{H:Hp}{st:SO}{ρ:IC.Env}{p pos:BZ}{e:AL}{es:List AL}{ces:Ces}{fi k:Nat}{x:AM}{f:AG}{fd:Aj}{ps:List AM}
end
end L2
namespace L2
open PySem IC
section
variable {S:Se}{X:Cx}{σ:St}{B:AG->Prop}{φ φ1:Ph}{H H1:Hp}{st:SO}{ρ:IC.Env}{p pos p2 px py pt pt2:BZ}{a b c d o a' b' c' d':AL}{ca cb cc cd ce cf:Ce}{π:List (AG×BV)}{s:AH}{kt k2:Nat}{es:List AL}{ces:Ces}{x:AM}
end
end L2
namespace L2
open PySem PySem.Spec PyProof.Rows
section
variable {X:Cx}
end
end L2
namespace L2
open PySem PySem.Spec PyProof.Rows IC
section
variable {S:Se}{X:Cx}{σ:St}{B:AG->Prop}{φ φ1:Ph}{H H1:Hp}{st:SO}{ρ:IC.Env}{p pos p2 apos:BZ}{a b c d:AL}{ca cb cc:Ce}{es:List AL}{ces:Ces}{K:AC}{cl:Nat->AG}
end
section
variable {S:Se}{X:Cx}{a b:AL}{c i:Nat}{j:Int}{f:AM}{pos tpos:BZ}
end
end L2
namespace HT
open PySem PySem.Spec PyProof.Rows
section
variable {prog:AZ}{w:A8}{A:A3}{E:AE->AH->Prop}{s:AH}
end
end HT
namespace L2
open PySem PySem.Spec PyProof.Rows IC
section
variable {S:Se}{X:Cx}{pos p2:BZ}{e e3:AL}{te t3:TE}{a:AL}{ca c3:Ce}
theorem ye.reverse{K:AC}{cl:Nat->AG}{B:AG->Prop}{φ:Ph}{H:Hp}:∀{vs:List PV} {xs:List V},ye K cl B φ H vs xs->ye K cl B φ H vs.reverse xs.reverse
 |[],xs,h=>by
  erw[ye]at h;subst h;erw[List.reverse_nil,ye]
 |v::vs,xs,h=>by
  erw[ye]at h;let⟨y,ys,rfl,r,l⟩:=h;rw[FA,FA];exact(ye.reverse l).append (by erw[ye];exact⟨y,[],rfl,r,rfl⟩)
end
section
variable {X:Cx}{prog:AZ}{w:A8}{A:A3}{E:AE->AH->Prop}{s:AH}
end
section
variable {S:Se}{X:Cx}{pos px:BZ}{a:AL}{ca:Ce}
end
end L2
namespace PySem
open Sem (wp)
section
variable {prog:AZ}{w:A8}{K:Type}[DecidableEq K]{A:A3}{R:Dq->AH->Prop}
end
end PySem
namespace L2
open PySem PySem.Spec PyProof.Rows
section
variable {X:Cx}
end
end L2
namespace L2
open PySem PySem.Spec PyProof.Rows IC
section
variable {K:AC}{cl:Nat->AG}{B:AG->Prop}{φ:Ph}{H:Hp}
end
section
variable {S:Se}{X:Cx}{a:AL}{ca:Ce}{p pos:BZ}
end
end L2
namespace PySem
open Sem (wp)
section
variable {prog:AZ}{w:A8}{K:Type}[DecidableEq K]{A:A3}{R:Dq->AH->Prop}
end
end PySem
namespace L2
open PySem PySem.Spec PyProof.Rows
section
variable {X:Cx}
end
end L2
namespace PySem
open Sem (wp)
section
variable {prog:AZ}{w:A8}{A:A3}{E:AE->AH->Prop}{s:AH}
end
end PySem
namespace L2
open PySem PySem.Spec PyProof.Rows
section
variable {X:Cx}{π:List (AG×BV)}{σ:St}{H:Hp}{s:AH}{a:AG}{o:BV}{u:HO}
end
section
variable {X:Cx}{tg:AL}
end
end L2
namespace PySem.W
open PySem PySem.Calls PyProof.Rows
section
variable {prog:AZ}{w:A8}{A:A3}{E:AE->AH->Prop}{s:AH}{a:AG}{x y:AE}
end
end PySem.W
namespace PySem
open Sem (wp)
section
variable {prog:AZ}{w:A8}{K:Type}[DecidableEq K]{knd:HeapKind prog w K}{A:A3}{E:AE->AH->Prop}{s:AH}
end
end PySem
namespace L2
open PySem PySem.Spec PyProof.Rows
def yd8(kvs:List (List NK×V)):Prop:=∀p∈kvs,∃i,p.2=.int i
def vI:V->Int
 |.int i=>i
 |_=>0
def ycW(ka kb:List (List NK×V)):Bool:=ka.length==kb.length&&ka.all λp=>match yat kb p.1 with
 |some v=>vI p.2==vI v
 |none=>AF
section
variable {X:Cx}
end
section
variable {X:Cx}
end
end L2
namespace L2
open PySem PySem.Spec PyProof.Rows IC
section
variable {K:AC}{cl:Nat->AG}{B:AG->Prop}{φ:Ph}{H:Hp}
theorem DT.ints:∀{kvs:List (PV×PV)} {ks:List (List NK×V)},DT K cl B φ H kvs ks->kvs.all ybi=AD->yd8 ks
 |[],ks,h,_=>by cases (show ks=[]from h);intro p hp;cases hp
 |(k,v)::r,ks,h,a=>by
  let⟨q,x,s,rfl,rfl,rv,l⟩:=h;erw[Ay,AI]at a;intro p hp;rcases A5.1 hp with rfl|hp
  .cases v with
   |int i=>erw[yc]at rv;exact⟨i,rv⟩
   |_=>exact absurd a.1 AW
  .exact DT.ints l a.2 p hp
def zdY{v:PV}{x:V}(a:ybi ((.non:PV),v)=AD)(r:yc K cl B φ H v x):vI x=ivP v/\x=.int (ivP v):=by
 cases v with
 |int i=>erw[yc]at r;subst r;exact⟨rfl,rfl⟩
 |_=>exact absurd a AW
def zcv{p:PV×PV}(h:ybi p=AD):ybi ((.non:PV),p.2)=true:=by
 let⟨a,b⟩:=p
 cases b<;>first|rfl|exact h
theorem DT.find{q:List NK}:∀{kvs:List (PV×PV)} {ks:List (List NK×V)},DT K cl B φ H kvs ks->kvs.all ybi=AD ->
  (match IC.look (.tup (yao q)) kvs with|some v=>AA (ivP v)|none=>AB)=(yat ks q).map vI
 |[],ks,h,_=>by cases (show ks=[]from h);rfl
 |(k,v)::r,ks,h,a=>by
  let⟨q',x,s,rfl,rfl,rv,l⟩:=h;erw[Ay,AI]at a;have e:=(zdY (zcv a.1) rv).1;erw[IC.look,zaq]
  by_cases eq:q'=q
  .rw[zQ (p:=(q',x)) eq];erw[eq,decide_true,if_true,C3];exact congrArg AA e.symm
  .rw[zP (p:=(q',x)) eq];erw[decide_eq_true_eq,eq,if_false];exact DT.find l a.2
theorem DT.all{kb:List (PV×PV)}{sb:List (List NK×V)}(b:DT K cl B φ H kb sb)(hb:kb.all ybi=AD):∀{kvs:List (PV×PV)} {ks:List (List NK×V)},DT K cl B φ H kvs ks->kvs.all ybi=AD ->
  (ks.all λp=>match yat sb p.1 with|some v=>vI p.2==vI v|none=>AF)=kvs.all λp=>match IC.look p.1 kb with|some v=>ivP p.2==ivP v|none=>AF
 |[],ks,h,_=>by cases (show ks=[]from h);rfl
 |(k,v)::r,ks,h,a=>by
  let⟨q,x,s,rfl,rfl,rv,l⟩:=h;erw[Ay,AI]at a;have e:=(zdY (zcv a.1) rv).1;rw[Ay,Ay,DT.all b hb l a.2]
  congr 1
  have f:=b.find hb (q:=q);dsimp only
  cases e1:IC.look (.tup (yao q)) kb with
  |none=>
   rw[e1]at f
   cases e2:yat sb q with
   |none=>rfl
   |some y=>rw[e2]at f;cases f
  |some w=>
   rw[e1]at f
   cases e2:yat sb q with
   |none=>rw[e2]at f;cases f
   |some y=>
    rw[e2]at f;have f:ivP w=vI y:=AU f;have e:vI x=ivP v:=e;erw[f,e]
theorem DT.same{ka kb:List (PV×PV)}{sa sb:List (List NK×V)}(a:DT K cl B φ H ka sa)(b:DT K cl B φ H kb sb)(ha:ka.all ybi=AD)(hb:kb.all ybi=AD):ycW sa sb=yb3 ka kb:=by
 unfold ycW yb3;rw[<-a.len,<-b.len];exact congrArg (λz=>ka.length==kb.length&&z) (DT.all b hb a ha)
end
section
variable {S:Se}{X:Cx}{σ:St}{a b:AL}{ca cb:Ce}{p pos:BZ}
end
end L2
namespace PySem
open Sem (wp)
section
variable {prog:AZ}{w:A8}{A:A3}{E:AE->AH->Prop}{s:AH}
end
end PySem
namespace L2
open PySem PySem.Spec PyProof.Rows
section
variable {X:Cx}{el:List AL}{kk:Nat}{tp apos cpos:BZ}
end
end L2
namespace L2
open PySem PySem.Spec PyProof.Rows IC
section
variable {K:AC}{cl:Nat->AG}{B:AG->Prop}{φ:Ph}{H:Hp}{st:SO}
end
section
variable {S:Se}{X:Cx}
end
end L2
namespace L2
open PySem PySem.Spec PyProof.Rows
section
variable {X:Cx}
end
end L2
namespace L2
open PySem PySem.Spec PyProof.Rows IC
section
variable {S:Se}{X:Cx}{a:AL}{ca:Ce}{p pos:BZ}
end
end L2
namespace PySem
open Sem (wp)
section
variable {prog:AZ}{w:A8}{A:A3}{E:AE->AH->Prop}{s:AH}
end
end PySem
namespace L2
open PySem PySem.Spec PyProof.Rows
section
variable {X:Cx}
end
end L2
namespace L2
open PySem PySem.Spec PyProof.Rows IC
theorem DT.size{K:AC}{cl:Nat->AG}{B:AG->Prop}{φ:Ph}{H:Hp}:∀{kvs:List (PV×PV)} {ks:List (List NK×V)},DT K cl B φ H kvs ks->kvs.length=ks.length
 |[],ks,t=>by cases (show ks=[]from t);rfl
 |(k,v)::r,ks,t=>by
  let⟨q,x,s,rfl,rfl,rv,t'⟩:=t;rw[Am,Am,t'.size]
section
variable {S:Se}{X:Cx}{a:AL}{ca:Ce}{p pos:BZ}
end
end L2
namespace L2
open PySem PySem.Spec PyProof.Rows
def cxK(X:Cx)(sc:Al)(NC:List AM)(x0:AM)(j:CI):Cx where
 prog:=X.prog
 w:=X.w
 K:=X.K
 mg:=X.mg
 base:=X.base
 A:=X.A
 N:=NC
 s₀:=j.s
 H₀:=j.H
 env:=compEnvC sc ((x0,j.C+1)::yaY sc X.env) j.C X.env
 outer:=X.stack
 stack:=X.stack
 ex:=j.fp
 fn:=λx=>x==x0
 calm:=X.calm
 pn:=[]
 xe:=No
structure yO(X:Cx)(sc:Al)(NC:List AM)(slots:List (Option Nat))(x0:AM):Prop where
 kind:sc.kind=.function
 names:∀y∈sc.names,y.2=.local->sc.names.lookup y.1=AA .local
 own:∀y∈sc.names,y.2=.cell->y.1=x0
 own2:∀y∈sc.names,y.2=.free->(y.1==x0)=AF
 cf:∀n acc,cellsFrom n sc.names acc=(x0,n)::acc
 pc:∀h,pushCells h sc.names=h.push {cls:=.type "cell",data:=.cell AB}
 free:∀y∈sc.names,y.2=.free->X.env.scope.names.lookup y.1=AA .cell
 slot:∀(i:Nat) (x:AM) (j:Nat),NC[i]?=AA x->slots[i]?=AA (AA j)->X.N[j]?=AA x/\sc.names.lookup x=AA .free
 len:slots.length=NC.length
def zk8{X:Cx}{sc:Al}{NC:List AM}{slots:List (Option Nat)}{x0:AM}(N:List AM)(so:Al)(hN:X.N=N)(hs:X.env.scope=so)(kind:sc.kind=.function)
  (names:∀y∈sc.names,y.2=.local->sc.names.lookup y.1=AA .local) (own:∀y∈sc.names,y.2=.cell->y.1=x0) (own2:∀y∈sc.names,y.2=.free->(y.1==x0)=AF) (cf:∀n acc,cellsFrom n sc.names acc=(x0,n)::acc) (pc:∀h,pushCells h sc.names=h.push {cls:=.type "cell",data:=.cell AB}) (free:∀y∈sc.names,y.2=.free->so.names.lookup y.1=AA .cell)
  (slot:∀p∈NC.zip slots,(p.2.all λj=>decide (N[j]?=AA p.1/\sc.names.lookup p.1=AA .free))=AD) (len:slots.length=NC.length):yO X sc NC slots x0:=by
 subst hN hs;refine⟨kind,names,own,own2,cf,pc,free,λi x j e1 e2=>?_,len⟩;have hm:(x,AA j)∈NC.zip slots:=A7 (i:=i) (by rw[D4];exact⟨e1,e2⟩);have:=slot _ hm;simpa using this
def zfK{M:Fp}{A:A3}{E:AE->AH->Prop}{s:AH}{scope:Al}{globals:AG}{closure:List (AM×AG)}{qual:AM}{func:Option AG}{code:AE}{outer:Env}{builtins:AG}{x0:AM}{Q:Env->AH->Prop}
  (cf:∀n acc,cellsFrom n scope.names acc=(x0,n)::acc) (pc:∀h,pushCells h scope.names=h.push {cls:=.type "cell",data:=.cell AB})
  (hQ:∀h',h'.Ns s.heap.objs.size (λ_=>AB)->(∀b o,s.heap.get? b=AA o->h'.get? b=AA o)->h'.IsCell (s.heap.objs.size+1) AB->Q (newEnv scope s.heap.objs.size globals ((x0,s.heap.objs.size+1)::closure) qual func code (AA outer) builtins) {s with heap:=h'}):
  A2 M A (newFunctionEnv scope globals closure [] qual func code (AA outer) builtins) Q E s:=by
 erw[newFunctionEnv,Ed,if_true];refine AJ (wpAny_alloc ?_);refine AJ (wpAny_layCells _ (λname kind cells=>by cases hkc:kind==Db<;>simp[hkc]) _ _ _ _ ?_);rw[cf,pc];have e:({s with heap:=s.heap.push {cls:=.type "dict",data:=.dict #[]} }:AH).heap.objs.size=s.heap.objs.size+1:=EN ..;rw[e];refine AJ ?_;rw[List.forIn_nil];refine AO (AO (hQ _ ?_ (λb o q=>AR _ (AR _ q)) ?_))
 .exact(Heap.Ns.new s.heap (.type "dict")).keeps λb o q=>AR _ q
 .exact⟨_,by rw[<-e];exact A6 _ rfl,rfl⟩
section
variable {X:Cx}{sc:Al}{NC:List AM}{slots:List (Option Nat)}{x0:AM}{π:List (AG×BV)}{σ:St}{H:Hp}{s:AH}
theorem yO.cells(O:yO X sc NC slots x0)(ok:X.Ok):∀y∈sc.names,y.2=.free->∃c,X.env.cells.lookup y.1=AA c:=λy hy hk=>ok.has y.1 (.inl (O.free y hy hk))
theorem yO.sub(O:yO X sc NC slots x0)(ok:X.Ok):∀x c,(yaY sc X.env).lookup x=AA c->X.env.cells.lookup x=AA c:=zac sc.names [] (O.cells ok) λ_ _ e=>nomatch e
theorem yO.rel(O:yO X sc NC slots x0)(ok:X.Ok){x:AM}(h:sc.names.lookup x=AA .free):(relabel sc X.env).names.lookup x=AA .cell:=by
 rw[zT,h];have e:X.env.kindOf x=AA .cell:=O.free _ (mem_of_lookup h) rfl;simp[ybF,ok.kind,e]
def zb1(I:Inv X π σ H s)(O:yO X sc NC slots x0){fp:List AG}(hf:∀b∈fp,yam X π H b)(hob:∀b∈fp,∃o,s.heap.get? b=AA o){h1:Ak}{t':Nat}{m:AM->Option AE}(hns:h1.Ns s.heap.objs.size m)
  (hk:∀b o,s.heap.get? b=AA o->h1.get? b=AA o) (hcell:h1.IsCell (s.heap.objs.size+1) AB):Inv (cxK X sc NC x0 ⟨s.heap.objs.size,s,H,fp⟩) [] (inn slots σ) H {s with heap:=h1,toks:=t'}:=by
 have sub:=O.sub I.ok;have fss:∀b,b≠X.env.locals->b∉X.fs->b∉frs X.stack:=λb h1 h2 hb=>(A5.mp (I.stkSub b hb)).elim h1 h2;have ltC:∀x c,(yaY sc X.env).lookup x=AA c->c<s.heap.objs.size:=λx c e=>by
  let⟨v,q⟩:=I.cell x c (sub x c e);exact q.lt
 have two:∀x c,((x0,s.heap.objs.size+1)::yaY sc X.env).lookup x=AA c->(x=x0/\c=s.heap.objs.size+1) \/ ((x==x0)=AF/\(yaY sc X.env).lookup x=AA c):=λx c e=>by
  rw[Ar]at e
  cases q:x==x0 with
  |true=>
   rw[q]at e
   cases e
   exact .inl ⟨eq_of_beq q,rfl⟩
  |false=>
   rw[q]at e;exact .inr ⟨rfl,e⟩
 refine⟨⟨I.ok.mod,O.kind,I.ok.glob,I.ok.blt,AN _,λx y c e1 e2=>?_,λx hx=>?_,λx c z e=>?_,I.ok.hd,I.ok.frames,.inl rfl,λb hb=>⟨?_,λx c e=>?_⟩,I.bs,BB I.ok.bsz I.sz,λb o e hb=>?_,λb hb=>fss b (hf b hb).2.1 (hf b hb).2.2.1,I.stack,I.stkFree⟩,
  rfl,I.bare,Un.kept hk,⟨m,hns,λi x v e1 e2 e3=>?_⟩,λx c e=>?_,I.hok.fresh (AN _),λx c e=>?_,λp hp=>(nomatch hp),I.hok.kept hk,?_⟩
 .rcases two x c e1 with⟨rfl,rfl⟩|⟨_,q1⟩
  .rcases two y _ e2 with⟨rfl,_⟩|⟨_,q2⟩
   .rfl
   .exact absurd (Ey (Dm _) (ltC _ _ q2)) (B8 _)
  .rcases two y c e2 with⟨rfl,rfl⟩|⟨_,q2⟩
   .exact absurd (Ey (Dm _) (ltC _ _ q1)) (B8 _)
   .exact I.ok.inj x y c (sub x c q1) (sub y c q2)
 .have hx':(relabel sc X.env).names.lookup x=AA .cell \/ (relabel sc X.env).names.lookup x=AA .free:=hx;show ∃c,((x0,s.heap.objs.size+1)::yaY sc X.env).lookup x=AA c;rw[Ar]
  cases qx:x==x0 with
  |true=>exact⟨_,rfl⟩
  |false=>
  rw[zT]at hx'
  cases q:sc.names.lookup x with
  |none=>
   rw[q]at hx';rcases hx' with z|z<;>cases z
  |some k=>
   have hm:=mem_of_lookup q;have hkf:k=.free:=by
    rw[q]at hx'
    by_cases hk:k=.free
    .exact hk
    .exfalso;have hb:(k==Br)=false:=by simpa using hk
     rcases hx' with z|z
     .simp[ybF,hb]at z;have:=O.own _ hm z;have e:x=x0:=this;rw[e]at qx;simp at qx
     .simp[ybF,hb]at z;exact hk z
   subst hkf;exact zE sc.names [] _ hm rfl
 .have e0:x=x0:=eq_of_beq z;rcases two x c e with⟨_,rfl⟩|⟨q,_⟩
  .exact Ca _
  .rw[e0]at q;simp at q
 .let⟨o,e⟩:=hob b hb;exact Ab (AT e)
 .rcases two x c e with⟨_,rfl⟩|⟨_,q⟩
  .let⟨o,e⟩:=hob b hb;exact Dp (Nat.lt_succ_of_lt (AT e))
  .exact(hf b hb).2.2.2.2.1 x c (sub x c q)
 .rcases (hf b hb).2.2.2.1 with z|z
  .exact I.ok.noex b o e z
  .exact absurd (AY (AT e) (BB I.ok.bsz z)) (B8 _)
 .obtain⟨j,e4,e5⟩:∃j,slots[i]?=AA (AA j)/\σ[j]?=AA (AA v):=by
   have e2':(slots.map λo=>o.bind λj=>(σ[j]?).join)[i]?=AA (AA v):=e2;rw[Av]at e2'
   cases q:slots[i]? with
   |none=>
    rw[q]at e2'
    cases e2'
   |some o=>
    rw[q]at e2'
    cases o with
    |none=>cases e2'
    |some j=>
     refine⟨j,rfl,?_⟩;have e6:(σ[j]?).join=AA v:=AU e2'
     cases q2:σ[j]? with
     |none=>
      rw[q2]at e6
      cases e6
     |some w=>
      rw[q2]at e6;have e7:w=AA v:=e6;rw[e7]
  let⟨e6,e7⟩:=O.slot i x j e1 e4;have kc:X.env.scope.names.lookup x=AA .cell:=O.free _ (mem_of_lookup e7) rfl;let⟨m0,hn0,hl⟩:=I.loc;let⟨u,r,lk⟩:=hl j x v e6 e5 (.inr (.inl kc));refine⟨u,r,.inr ⟨.inl (O.rel I.ok e7),?_⟩⟩;rcases lk with⟨z,_⟩|⟨_,c,hc,o,ho,hd⟩
  .rw[show X.env.kindOf x=AA .cell from kc]at z
   cases z
  .let⟨c',hc'⟩:=zE (env:=X.env) sc.names [] _ (mem_of_lookup e7) rfl;have e8:c'=c:=AU ((sub x c' hc').symm.trans hc);subst e8;refine⟨c',?_,o,hk _ _ ho,hd⟩;show ((x0,s.heap.objs.size+1)::yaY sc X.env).lookup x=AA c';rw[Ar,O.own2 _ (mem_of_lookup e7) rfl];exact hc'
 .rcases two x c e with⟨_,rfl⟩|⟨_,q⟩
  .exact⟨AB,hcell⟩
  .let⟨v,o,ho,hd⟩:=I.cell x c (sub x c q);exact⟨v,o,hk _ _ ho,hd⟩
 .rcases two x c e with⟨_,rfl⟩|⟨_,q⟩
  .exact I.hok.fresh (Ca _)
  .exact I.freeC x c (sub x c q)
 .show (slots.map λo=>o.bind λj=>(σ[j]?).join).length=NC.length;rw[Ah,O.len]
def zch(I:Inv X π σ H s){fp:List AG}(hf:∀b∈fp,yam X π H b){C:AG}(hC:s.heap.objs.size<=C){pl:List (AG×BV)}{σ':St}{H':Hp}{s':AH}(J:Inv (cxK X sc NC x0 ⟨C,s,H,fp⟩) pl σ' H' s')
  {h2:Ak} (hb:B6 C s'.heap h2):Inv X π σ H' {s' with heap:=h2}:=by
 have nC:∀b o,s.heap.get? b=AA o->b≠C:=λb o e=>Ab (AY (AT e) hC);have B:Un (frs X.stack) fp H H' s.heap s'.heap:=J.base;have fC:H' C=none:=J.free;refine I.call' (ch:=fp) J.os ⟨λb o e n h3 h4=>(hb.2 b (nC b o e)).trans (B.keep b o e n h3 h4),λb o e n h3 h4=>?_,B.free,λb o e h4=>?_,B.tups,B.frzs,B.tbls⟩ (λb u e=>?_) J.bare λb h3=>⟨(hf b h3).2.2.2.1,(hf b h3).2.1,(hf b h3).2.2.2.2.1,(hf b h3).2.2.2.2.2⟩
 .let⟨sl,q⟩:=B.slot b o e n h3 h4;exact⟨sl,(hb.2 b (nC b o e)).trans q⟩
 .let⟨o',q⟩:=B.there b o e h4;exact⟨o',(hb.2 b (nC b o e)).trans q⟩
 .refine(J.hok b u e).stay (λc v hc q=>(hb.2 c λz=>?_).trans q) (λ_ q=>q) λ_ _ q=>q;subst z;rcases hc with z|z
  .rw[z,e]at fC
   cases fC
  .rw[z]at fC
   cases fC
end
section
variable {X:Cx}{sc:Al}{NC:List AM}{slots:List (Option Nat)}{x0:AM}{elt tg iter:AL}{ifs:List AL}{pos:BZ}{g:TG}{ti:TT}{te:TE}
variable {wi:TI}
end
abbrev TM:=St->Hp->(St->Hp->Prop)->Prop
def PEm(X:Cx)(em:FE Unit)(t:TM):Prop:=∀(π:List (AG×BV)) (s:AH) (σ:St) (H:Hp) (Q:St->Hp->Prop),Inv X π σ H s->t σ H Q ->
 A2 (model X.prog X.w) X.A em (λ_ s'=>∃σ' H',Inv X π σ' H' s'/\Q σ' H') X.xe s
def turnOf(tg iter:AL)(ifs:List AL)(e:AL)(d:Nat)(it acc:AE)(env:Env)(em:FE Unit):FE Fin:=do
 standAt iter.pos
 match <-pyNext it with
 |none=>pure (.done .next)
 |some v=>
  letOwnedTupleGo tg it v
  assign tg env v
  let mut ok:=AD
  for c in ifs do
   if ok then ok <-isTrue c env (eval c env)
  if ok then em
  again (.compLoop e d it acc env)
def ybE(tg iter:AL)(ifs:List AL)(e:AL)(d:Nat)(it acc:AE)(env:Env)(em:FE Fin->FE Fin):FE Fin:=do
 standAt iter.pos
 match <-pyNext it with
 |none=>pure (.done .next)
 |some v=>
  letOwnedTupleGo tg it v
  assign tg env v
  let mut ok:=AD
  for c in ifs do
   if ok then ok <-isTrue c env (eval c env)
  if ok then em (again (.compLoop e d it acc env))else again (.compLoop e d it acc env)
def nextM(iter:AL)(e:AL)(d:Nat)(acc:AE)(env:Env):FE Unit:=do
 let x <-eval iter env
 standAt iter.pos
 let x <-foldedSetIterable iter env x
 let _ <-runOwn (.compStart e d (<-holding [x] (pyIter x)) acc env) env
def nextK(iter:AL)(e:AL)(d:Nat)(acc:AE)(env:Env)(k:FE Fin):FE Fin:=do
 let x <-eval iter env
 standAt iter.pos
 let x <-foldedSetIterable iter env x
 let _ <-runOwn (.compStart e d (<-holding [x] (pyIter x)) acc env) env
 k
def zfA(iter:AL)(e:AL)(d:Nat)(acc:AE)(env:Env)(k:FE Fin):nextK iter e d acc env k=(nextM iter e d acc env >>= λ_=>k):=by
 erw[nextK,nextM,bind_assoc,pure_bind]
def zaP(tg iter iter2:AL)(ifs:List AL)(e:AL)(d d2:Nat)(it acc:AE)(env:Env):ybE tg iter ifs e d it acc env (nextK iter2 e d2 acc env)=turnOf tg iter ifs e d it acc env (nextM iter2 e d2 acc env):=
 congrArg (ybE tg iter ifs e d it acc env) (funext λk=>zfA iter2 e d2 acc env k)
structure ya9(A:A3)(e:AL)(d:Nat)(tg iter:AL)(ifs:List AL)(acc:AE)(env:Env)(em:FE Unit):Prop where
 turn:∀it,compTurn e d it acc env=turnOf tg iter ifs e d it acc env em
 cl:(clausesOf e)[d]?=AA ⟨tg,iter,ifs,0⟩
 dn:∀pg wd it,(model pg wd).den (.compLoop e d it acc env)=(compTurn e d it acc env).onRaise (λx=>do noteFrame x env;theTreesLotGoes x)
 dn2:∀pg wd it,(model pg wd).den (.compStart e d it acc env)=(compStart e d it acc env).onRaise (λx=>do noteFrame x env;standAt theWindowsPlace)
 un:∀it,A.under (.compLoop e d it acc env)=A
 un2:∀it,A.under (.compStart e d it acc env)=A
 q:∀it,(Code.compLoop e d it acc env).quiet=AD
section
variable {pg:AZ}{wd:A8}{A:A3}{R:Dq->AH->Prop}{s:AH}{e:AL}{d:Nat}{tg iter:AL}{ifs:List AL}{acc it:AE}{env:Env}{em:FE Unit}
def zgS(C:ya9 A e d tg iter ifs acc env em)(I:Nat->AH->Prop)
  (turn:∀n s,I n s->A2 (model pg wd) A (pyNext it) (λr s1=>match r with
   |none=>R (.ok .next) s1
   |some v=>A2 (model pg wd) A (letOwnedTupleGo tg it v) (λ_ s2=>A2 (model pg wd) A (assign tg env v) (λ_ s3=>A2 (model pg wd) A (yce ifs env) (λok s4=>
     if ok=AD then A2 (model pg wd) A em (λ_ s6=>∃m,m<n/\I m s6) No s4
     else ∃m,m<n/\I m s4) No s3) No s2) No s1) No s)
  (n:Nat) (h:I n s):codeAny (model pg wd) A (.compLoop e d it acc env) R s:=by
 refine codeAny_loop (C.q it) I (λn s hI=>?_) n h;rw[C.un,C.dn];refine wpAny_noted ?_;rw[C.turn];refine AJ (BW (AJ (BA (turn n s hI) (λr s1 h1=>?_) λ_ _ f=>f.elim)))
 cases r with
 |none=>exact AO h1
 |some v=>
  refine AJ (BA h1 (λ_ s2 h2=>AJ (BA h2 (λ_ s3 h3=>AJ (BA h3 (λok s4 h4=>?_) λ_ _ f=>f.elim)) λ_ _ f=>f.elim)) λ_ _ f=>f.elim)
  cases ok with
  |false=>exact AO ⟨rfl,h4⟩
  |true=>exact AJ (BA h4 (λ_ s6 h6=>AO ⟨rfl,h6⟩) λ_ _ f=>f.elim)
def zcK(C:ya9 A e d tg iter ifs acc env em)(h0:codeAny (model pg wd) A (.compLoop e d it acc env) R s)
  (h:A2 (model pg wd) A (pyIter it) (λit' s'=>codeAny (model pg wd) A (.compLoop e d it' acc env) R s') (notedBy (model pg wd) A env λx s'=>R (.error x) s') s):
  codeAny (model pg wd) A (.compStart e d it acc env) R s:=by
 refine codeAny_of_tree ?_;rw[C.un2,C.dn2];refine wpAny_notedAt ?_;unfold compStart;rw[C.cl];show A2 _ _ (ask >>= _) _ _ s;refine AJ (wpAny_askSetting (wpAny_ite ?_));split
 .first
   |exact AJ (AO (AO (DM (C.q it) h0)))
   |exact AO (DM (C.q it) h0)
 .first
   |exact AJ (Do (AJ (BW (AJ (BA h (λit' s' h'=>AO (DM (C.q it') h')) λ_ _ x=>x)))))
   |(refine AJ (Do ?_);show A2 _ _ (standAt iter.pos >>= _) _ _ s;exact AJ (BW (AJ (BA h (λit' s' h'=>AO (DM (C.q it') h')) λ_ _ x=>x))))
end
def ybn(J:It)(g:TG)(ti:TT)(tm:TM)(W:Nat->Nat->St->Hp->Prop)(Q:St->Hp->Prop):Prop:=
 ∀i m σ H,W i m σ H->(J.stop i H/\Q σ H) \/ (J.go i H/\∃N:St->Hp->Prop,(∀σ' H',N σ' H'->∃m',m' < m/\W (i+1) m' σ' H') /\
  ∀x H',J.yld i H x H'->g x σ H' λσ2 H2=>ti σ2 H2 λb H3=>if b=AD then tm σ2 H3 N else N σ2 H3)
section
variable {Y:Cx}{e:AL}{d:Nat}{tg iter:AL}{ifs:List AL}{acc:AE}{em:FE Unit}{g:TG}{ti:TT}{tm:TM}{π:List (AG×BV)}{σ:St}{H:Hp}{s:AH}{R:Dq->AH->Prop}
def zkP(hx:Y.xe=No)(hc:Y.calm=AD)(C:ya9 Y.A e d tg iter ifs acc Y.env em)(hg:PG Y tg g)(ht:PTs Y ifs ti)(hm:PEm Y em tm){it:AG}{fp:List AG}{tn:Nat->Ak->Prop}{J:It}
  {W:Nat->Nat->St->Hp->Prop} {Q:St->Hp->Prop} (T:Turn Y.prog Y.w Y.K tg J fp it tn) (I:Inv Y π σ H s) (hf:∀b∈fp,yam Y π H b) (st:tn 0 s.heap) {m:Nat} (w0:W 0 m σ H) (step:ybn J g ti tm W Q)
  (fin:∀σ' H' s',Inv Y π σ' H' s'->(∀b∈fp,H' b=AB)->Q σ' H'->R (.ok .next) s'):
  codeAny (model Y.prog Y.w) Y.A (.compLoop e d (.ref it) acc Y.env) R s:=by
 have stat:∀{H':Hp},(∀b∈fp,H' b=AB)->∀b∈fp,yam Y π H' b:=λhn b hb=>⟨hn b hb,(hf b hb).2⟩;refine zgS C (λn s'=>∃i σ' H',Inv Y π σ' H' s'/\tn i s'.heap/\(∀b∈fp,H' b=AB)/\W i n σ' H') ?_ m ⟨0,σ,H,I,st,λb hb=>(hf b hb).1,w0⟩
 rintro n s3 ⟨i,σ3,H3,I3,st3,fr3,w3⟩
 rcases step i n σ3 H3 w3 with⟨stop,qn⟩|⟨go,N,hN,turn⟩
 .refine thn (T.done Y rfl rfl rfl hc i π s3 σ3 H3 No I3 (stat fr3) st3 stop) λr s4 kq=>?_;let⟨hr,I4⟩:=kq;subst hr;exact fin σ3 H3 s4 I4 fr3 qn
 .refine thn (T.item Y rfl rfl rfl hc i π s3 σ3 H3 No I3 (stat fr3) st3 go) λr s4 kq=>?_;let⟨u,hr,h4⟩:=kq;subst hr;refine thn h4 λ_ s5 kq=>?_;let⟨x,H5,I5,r5,y5,st5,fr5⟩:=kq;have I5':=I5.pinned (stat fr5) (T.obj _ _ st5);have again:∀{σ8:St} {H8:Hp} {s8:AH},Inv Y (π++yaB fp s5.heap) σ8 H8 s8->N σ8 H8->∃m,m<n/\∃i σ' H',Inv Y π σ' H' s8/\tn i s8.heap/\(∀b∈fp,H' b=AB)/\W i m σ' H':=λ{σ8 H8 s8} I8 n8=>by
   let⟨m',hm,w8⟩:=hN σ8 H8 n8;refine⟨m',hm,i+1,σ8,H8,I8.unpinned,T.keep _ _ _ st5 λb hb o e=>(I8.pin (b,o) (A4 _ (A4 _ (zq hb e)))).1,λb hb=>?_,w8⟩;let⟨o,e,d⟩:=T.obj _ _ st5 b hb;exact(I8.pin (b,o) (A4 _ (A4 _ (zq hb e)))).2.1
  have hg':=hg _ s5 σ3 H5 x u _ I5' r5 (turn x H5 y5);rw[hx]at hg';refine thn hg' λ_ s6 kq=>?_;let⟨σ6,H6,I6,q6⟩:=kq;have ht':=ht _ s6 σ6 H6 _ I6 q6;rw[hx]at ht';refine thn ht' λok s7 kq=>?_;let⟨H7,I7,q7⟩:=kq
  cases ok with
  |false=>
   rw[if_neg AW]at q7 ⊢;exact again I7 q7
  |true=>
   rw[if_pos rfl]at q7 ⊢;have hm':=hm _ s7 σ6 H7 _ I7 q7;rw[hx]at hm';exact thn hm' λ_ s8 ⟨σ8,H8,I8,q8⟩=>again I8 q8
def ybo(wi:TI)(g:TG)(ti:TT)(tm:TM):TM:=λσ H Q=>wi σ H λJ H1=>∃W,(∃m,W 0 m σ H1)/\ybn J g ti tm W Q
def zfb{wi:TI}(hx:Y.xe=No)(hc:Y.calm=AD)(C:ya9 Y.A e d tg iter ifs acc Y.env em)(hi:PI Y tg iter wi)(hg:PG Y tg g)(ht:PTs Y ifs ti)(hm:PEm Y em tm)
  (hs:∀x,foldedSetIterable iter Y.env x=pure x:=by intro _;rfl):PEm Y (nextM iter e d acc Y.env) (ybo wi g ti tm):=by
 intro π s σ H Q I h;unfold nextM;refine AJ (thn (hi π s σ H _ I h) λv s1 h1=>AJ (BW (AJ (wpAny_of_eq (hs v) (AJ (Bp (thn h1 λitv s2 h2=>?_)))))));let⟨it,fp,tn,J,H2,rfl,I2,T,st2,f2,W,⟨m0,w0⟩,step⟩:=h2;refine AJ (wpAny_runOwn ?_);rw[show Y.A.mark AB=Y.A by cases Y.A;rfl];have lp:=zkP (R:=λr s'=>match r with | .ok f=>A2 (model Y.prog Y.w) Y.A (pure Ck) (λ_ s'=>∃σ' H',Inv Y π σ' H' s'/\Q σ' H') Y.xe s' | .error e=>cameBackBy (model Y.prog Y.w) Y.A Y.env Y.xe e s')
  hx hc C hg ht hm T I2 f2 st2 w0 step λσ' H' s' I' _ q=>AO ⟨σ',H',I',q⟩
 exact zcK C lp (T.self Y.A 0 s2 _ _ st2 lp)
def zgQ{elt:AL}{te:TE}{D:AG}(he:PE Y elt te):PEm Y (do let _ <-call (.builtin "list.append") [.ref D,<-eval elt Y.env]) (λσ H Q=>te σ H λy H'=>∃ys,H' D=AA (.lst ys)/\ys.length<sizeLine/\Q σ (upd H' D (.lst (ys++[y])))):=by
 intro π s σ H Q I h;refine AJ (thn (he π s σ H _ I h) λy s8 kq=>?_);let⟨v,H8,I8,r8,ys,hD8,hz,q8⟩:=kq;refine AJ (thn (zbu (X:=Y) _ s8 σ H8 (.ref D) [v] (.ref D) [y] (λz H'=>z=.non/\H'=upd H8 D (.lst (ys++[v]))) I8 rfl (.cons r8 .nil) ⟨D,ys,v,rfl,rfl,hD8,hz,rfl,rfl⟩) λz s9 kq=>?_);let⟨zv,H9,I9,r9,e1,e2⟩:=kq;subst e2;exact AO ⟨σ,_,I9,q8⟩
end
section
variable {Y:Cx}{π:List (AG×BV)}{σ:St}{H:Hp}{s:AH}
def zeV{A:A3}{E:AE->AH->Prop}{D b:AG}{kvs:List (List NK×V)}{k:List NK}{v:V}{r:AE}{Q:Unit->AH->Prop}(hu:A.units+16<cLine)(I:Inv Y π σ H s)(e:H D=AA (.dT kvs))(eb:KyR H k b)(l:kvs.length<sizeLine)(rv:RelV v r)
  (h:∀s',Inv Y π σ (upd H D (.dT (putK kvs k v))) s'->Q () s'):A2 (model Y.prog Y.w) A (dictSet D (.ref b) r) Q E s:=by
 let⟨z,hd,xs,rel,dd⟩:=zkc I.hok e;have hz:xs.length<=sizeLine:=by rw[<-EZ rel];exact z
 have hl:(putK kvs k v).length<=sizeLine:=by have:=zaB kvs k v;lia
 refine wpAny_dictSet_heap (hsz:=hz) ((show A.units+8<cLine by lia)) (zec I.hok eb) dd λh' dd' hs=>h _ ?_;let⟨q,es,ep,hq,h2,h3,h4,_,h5⟩:=dd';refine zeT I (by rw[e];exact CS) hs ⟨q,hq⟩ ⟨hl,hd,_,(rel.put k eb rv).keeps λc ys ec=>?_,q,es,ep,hq,h2,h3,h4,h5⟩;rw[zc (zkj ec e (λz=>nomatch z))];exact ec
def zgT{kx vx:AL}{tk tv:TE}{D:AG}(hu:Y.A.units+16<cLine)(hk:PE Y kx tk)(hv:PE Y vx tv):PEm Y (do
    let kv <-eval kx Y.env
    let vv <-holding [kv] (eval vx Y.env)
    standAt {kx.pos with endLine:=vx.pos.endLine,endCol:=vx.pos.endCol}
    holding [kv,vv] (dictSet D kv vv)) (λσ H Q=>tk σ H λx H1=>tv σ H1 λv H2=>∃b k kvs,x=.ref b/\H2 D=AA (.dT kvs)/\KyR H2 k b/\kvs.length<sizeLine/\Q σ (upd H2 D (.dT (putK kvs k v)))):=by
 intro π s σ H Q I h;refine AJ (thn (hk π s σ H _ I h) λkv s1 kq=>?_);let⟨x,H1,I1,r1,q1⟩:=kq;refine AJ (Bp (thn (hv π s1 σ H1 _ I1 q1) λvv s2 kq=>?_));let⟨v,H2,I2,r2,b,k,kvs,ex,e,eb,l,q2⟩:=kq;subst ex
 cases (show kv=BF b from r1)
 exact AJ (BW (Bp (zeV hu I2 e eb l r2 λs3 I3=>⟨σ,_,I3,q2⟩)))
end
def cxL(X:Cx)(sc:Al)(NC:List AM)(own:AG->List (AM×AG))(fn:AM->Bool)(j:CI):Cx where
 prog:=X.prog
 w:=X.w
 K:=X.K
 mg:=X.mg
 base:=X.base
 A:=X.A
 N:=NC
 s₀:=j.s
 H₀:=j.H
 env:=compEnvC sc (own j.C++yaY sc X.env) j.C X.env
 outer:=X.stack
 stack:=X.stack
 ex:=j.fp
 fn:=fn
 calm:=X.calm
 pn:=[]
 xe:=No
structure ya8(X:Cx)(sc:Al)(NC:List AM)(slots:List (Option Nat))(own:AG->List (AM×AG))(fn:AM->Bool):Prop where
 kind:sc.kind=.function
 names:∀y∈sc.names,y.2=.local->sc.names.lookup y.1=AA .local
 cells:X.Ok->∀y∈sc.names,y.2=.free->∃c,X.env.cells.lookup y.1=AA c
 enter:∀{π:List (AG×BV)} {σ:St} {H:Hp} {s:AH} {fp:List AG} {Q:Env->AH->Prop},Inv X π σ H s->(∀b∈fp,yam X π H b)->(∀b∈fp,∃o,s.heap.get? b=AA o) ->
  (∀h1 t1 cenv,Inv (cxL X sc NC own fn ⟨s.heap.objs.size,s,H,fp⟩) [] (inn slots σ) H {s with heap:=h1,toks:=t1}->(∀b o,s.heap.get? b=AA o->h1.get? b=AA o) ->
   {cenv with scope:=relabel sc X.env}=(cxL X sc NC own fn ⟨s.heap.objs.size,s,H,fp⟩).env->cenv.locals=s.heap.objs.size->Q cenv {s with heap:=h1,toks:=t1}) ->
  A2 (model X.prog X.w) X.A (newFunctionEnv sc X.env.globals (yaY sc X.env) [] X.env.qual AB .none (AA X.env)) Q X.xe s
 leave:∀{π:List (AG×BV)} {σ:St} {H:Hp} {s:AH} {fp:List AG} {C:AG} {pl:List (AG×BV)} {σ':St} {H':Hp} {s':AH} {h2:Ak},Inv X π σ H s->(∀b∈fp,yam X π H b)->s.heap.objs.size<=C ->
  Inv (cxL X sc NC own fn ⟨C,s,H,fp⟩) pl σ' H' s'->B6 C s'.heap h2->Inv X π σ H' {s' with heap:=h2}
theorem yJ.blk{X:Cx}{sc:Al}{NC:List AM}{slots:List (Option Nat)}(O:yJ X sc NC slots):ya8 X sc NC slots (λ_=>[]) (λ_=>AF) where
 kind:=O.kind
 names:=O.names
 cells:=O.cells
 enter:=λ{π σ H s fp Q} I hf hob h=>EO O.nocell (by intro y hy;simp at hy) (λh1 hns1 hsb1=>
  have hk1:∀b o,s.heap.get? b=AA o->h1.get? b=AA o:=λb o e=>hsb1.extBut b o (Ab (AT e)) (AR _ e)
  h h1 _ _ (zaT I O hf hob hns1 hk1) hk1 rfl rfl) O.kind
 leave:=λI hf hC J hb=>za1 I hf hC J hb
theorem yO.blk{X:Cx}{sc:Al}{NC:List AM}{slots:List (Option Nat)}{x0:AM}(O:yO X sc NC slots x0):ya8 X sc NC slots (λC=>[(x0,C+1)]) (λx=>x==x0) where
 kind:=O.kind
 names:=O.names
 cells:=O.cells
 enter:=λ{π σ H s fp Q} I hf hob h=>zfK O.cf O.pc λh1 hns1 hk1 hcell=>h h1 _ _ (zb1 I O hf hob hns1 hk1 hcell) hk1 rfl rfl
 leave:=λI hf hC J hb=>zch I hf hC J hb
section
variable {X:Cx}{sc:Al}{NC:List AM}{slots:List (Option Nat)}{own:AG->List (AM×AG)}{fn:AM->Bool}{e tg iter:AL}{ifs:List AL}{g:TG}{ti:TT}{tm:AG->TM}{em:AG->Env->FE Unit}{u0:HO}{ob:BV}{acc:FE AE}
def zax(hc:X.calm=AD)(O:ya8 X sc NC slots own fn)(C:∀j D,ya9 X.A e 0 tg iter ifs (.ref D) (cxL X sc NC own fn j).env (em D (cxL X sc NC own fn j).env))(hg:∀j,PG (cxL X sc NC own fn j) tg g)(ht:∀j,PTs (cxL X sc NC own fn j) ifs ti)(hm:∀j D,PEm (cxL X sc NC own fn j) (em D (cxL X sc NC own fn j).env) (tm D))
  {π:List (AG×BV)} {s:AH} {σ:St} {H:Hp} (I:Inv X π σ H s)
  (hacc:∀{Q:AE->AH->Prop} {E:AE->AH->Prop},Q (.ref s.heap.objs.size) {s with heap:=s.heap.push ob}->A2 (model X.prog X.w) X.A acc Q E s) (hobj:yF X.prog X.w (upd H s.heap.objs.size u0) (s.heap.push ob) s.heap.objs.size u0) (hob:ob.isFreed=AF)
  {it:AG} {fp:List AG} {tn:Nat->Ak->Prop} {J:It} (T:Turn X.prog X.w X.K tg J fp it tn) (st:tn 0 s.heap) (hf:∀b∈fp,yam X π H b) {Q:VK}
  (h:∀D,H D=AB->∃W,(∃m,W 0 m (inn slots σ) (upd H D u0))/\ybn J g ti (tm D) W (λ_ H'=>Q (.ref D) H')) {RR:AE->AG->Dq->AH->Prop}
  (fin:∀D C s' H',Q (.ref D) H'->(∃o m,s'.heap.get? C=AA o/\s'.heap.Ns C m/\∀v,o.data ≠ .cell v)->yam X π H' C->(∀h2,B6 C s'.heap h2->Inv X π σ H' {s' with heap:=h2})->RR (.ref D) C (.ok .next) s'):
  A2 (model X.prog X.w) X.A acc (λacc s3=>A2 (model X.prog X.w) X.A (newFunctionEnv sc X.env.globals (yaY sc X.env) [] X.env.qual AB .none (AA X.env)) (λcenv s4=>
   codeAny (model X.prog X.w) X.A (.compStart e 0 (.ref it) acc {cenv with scope:=relabel sc X.env}) (RR acc cenv.locals) s4) X.xe s3) X.xe s:=by
 refine hacc ?_;have hDn:H s.heap.objs.size=none:=I.hok.fresh (AN _);let⟨W,⟨m,w0⟩,step⟩:=h s.heap.objs.size hDn;obtain⟨s3,hs3⟩:∃x:AH,x=({s with heap:=s.heap.push ob}:AH):=⟨_,rfl⟩;have e3:s3.heap=s.heap.push ob:=by rw[hs3]
 have hp3:∀b o,s.heap.get? b=AA o->s3.heap.get? b=AA o:=λb o e=>by
  rw[e3];exact AR _ e
 have I3:Inv X π σ (upd H s.heap.objs.size u0) s3:=by
  have q:=I.laid (a:=s.heap.objs.size) (o:=u0) (h':=s3.heap) (t':=s.toks) hp3 (AN _) (by rw[e3];exact hobj);rw[hs3]at q ⊢;exact q
 have hf3:∀b∈fp,yam X π (upd H s.heap.objs.size u0) b:=λb hb=>by
  let⟨o,e,_⟩:=T.obj _ _ st b hb;refine⟨?_,(hf b hb).2⟩;rw[zc (Ab (AT e))];exact(hf b hb).1
 have st3:tn 0 s3.heap:=T.keep _ _ _ st λb _ o e=>hp3 b o e;have hob:∀b∈fp,∃o,s3.heap.get? b=AA o:=λb hb=>by
  let⟨o,e,_⟩:=T.obj _ _ st3 b hb;exact⟨o,e⟩
 rw[<-hs3];refine O.enter I3 hf3 hob λh1 t1 cenv J1 hk1 ee el=>?_;rw[ee,el];have hfc:∀b∈fp,yam (cxL X sc NC own fn ⟨s3.heap.objs.size,s3,upd H s.heap.objs.size u0,fp⟩) [] (upd H s.heap.objs.size u0) b:=λb hb=>
  ⟨(hf3 b hb).1,(J1.ok.exf b hb).1,J1.ok.exfs b hb,.inl hb,(J1.ok.exf b hb).2,λp hp=>nomatch hp⟩
 have stl:tn 0 ({s3 with heap:=h1,toks:=t1}:AH).heap:=T.keep _ _ _ st3 λb _ o e=>hk1 b o e;have loop:codeAny (model X.prog X.w) X.A (.compLoop e 0 (.ref it) (.ref s.heap.objs.size) (cxL X sc NC own fn ⟨s3.heap.objs.size,s3,upd H s.heap.objs.size u0,fp⟩).env) (RR (.ref s.heap.objs.size) s3.heap.objs.size) {s3 with heap:=h1,toks:=t1}:=by
  refine zkP (Y:=cxL X sc NC own fn ⟨s3.heap.objs.size,s3,upd H s.heap.objs.size u0,fp⟩) rfl hc (C _ _) (hg _) (ht _) (hm _ _) T J1 hfc stl w0 step λσ' H' s' J' fr' q'=>?_;have fC:H' s3.heap.objs.size=none:=J'.free;refine fin _ _ s' H' q' ?_ (I3.fpOk (AN _) fC) λh2 hb=>O.leave I3 hf3 (AN _) J' hb;let⟨m',hn',_⟩:=J'.loc;let⟨o,es,ep,ho,hd,r⟩:=id hn';exact⟨o,m',ho,hn',λv z=>by rw[hd]at z;cases z⟩
 exact zcK (C _ _) loop (T.self X.A 0 _ _ _ stl loop)
variable {wi:TI}
def ya4(slots:List (Option Nat))(wi:TI)(g:TG)(ti:TT)(u0:HO)(tm:AG->TM):TE:=λσ H Q=>wi σ H λJ H1=>∀D,H1 D=AB->∃W,(∃m,W 0 m (inn slots σ) (upd H1 D u0))/\ybn J g ti (tm D) W (λ_ H'=>Q (.ref D) H')
def zcu{elt:AL}{rest:List Bt}{pos:BZ}(hc:X.calm=AD)(O:ya8 X sc NC slots own fn)(C:∀j D,ya9 X.A (.ListComp elt (⟨tg,iter,ifs,0⟩ :: rest) sc pos) 0 tg iter ifs (.ref D) (cxL X sc NC own fn j).env (em D (cxL X sc NC own fn j).env))(hi:PI X tg iter wi)(hg:∀j,PG (cxL X sc NC own fn j) tg g)(ht:∀j,PTs (cxL X sc NC own fn j) ifs ti)(hm:∀j D,PEm (cxL X sc NC own fn j) (em D (cxL X sc NC own fn j).env) (tm D))
  (hs:∀x,foldedSetIterable iter X.env x=pure x:=by intro _;rfl):PE X (.ListComp elt (⟨tg,iter,ifs,0⟩ :: rest) sc pos) (ya4 slots wi g ti (.lst []) tm):=by
 intro π s σ H Q I h;rw[eval_ListComp];refine Bs (use:=AB) rfl hs (zm (O.cells I.ok)) O.kind O.names (thn (hi π s σ H _ I h) λv s1 h1=>thn h1 λitv s2 h2=>?_);let⟨it,fp,tn,J,H2,rfl,I2,T,st2,f2,q2⟩:=h2;refine zax (u0:=.lst []) (ob:={cls:=.type "list",dict:=AB,data:=.seq ([]:List AE).toArray}) hc O C hg ht hm I2 (λq=>BC q) ⟨B9 _,[],_,.nil,A6 _ rfl⟩ rfl T st2 f2 q2 λD C s' H' q' ⟨o,m,ho,hn,_⟩ _ out=>⟨m,hn,λh2 hb=>⟨.ref D,H',out h2 hb,rfl,q'⟩⟩
def zfQ{kx vx:AL}{rest:List Bt}{pos:BZ}(hc:X.calm=AD)(O:ya8 X sc NC slots own fn)(C:∀j D,ya9 X.A (.DictComp kx vx (⟨tg,iter,ifs,0⟩ :: rest) sc pos) 0 tg iter ifs (.ref D) (cxL X sc NC own fn j).env (em D (cxL X sc NC own fn j).env))(hi:PI X tg iter wi)(hg:∀j,PG (cxL X sc NC own fn j) tg g)(ht:∀j,PTs (cxL X sc NC own fn j) ifs ti)(hm:∀j D,PEm (cxL X sc NC own fn j) (em D (cxL X sc NC own fn j).env) (tm D))
  (hs:∀x,foldedSetIterable iter X.env x=pure x:=by intro _;rfl):PE X (.DictComp kx vx (⟨tg,iter,ifs,0⟩ :: rest) sc pos) (ya4 slots wi g ti (.dT []) tm):=by
 intro π s σ H Q I h;rw[arm_eval_DictComp];refine Bs (use:=AB) rfl hs (zm (O.cells I.ok)) O.kind O.names (thn (hi π s σ H _ I h) λv s1 h1=>thn h1 λitv s2 h2=>?_);let⟨it,fp,tn,J,H2,rfl,I2,T,st2,f2,q2⟩:=h2;refine zax (u0:=.dT []) (ob:={cls:=.type "dict",data:=.dict #[]}) hc O C hg ht hm I2 (λq=>BC q) (zfo s2.heap I2.big) rfl T st2 f2 q2 λD C s' H' q' ⟨o,m,ho,hn,_⟩ _ out=>⟨m,hn,λh2 hb=>⟨.ref D,H',out h2 hb,rfl,q'⟩⟩
end
def zbv{A:A3}{elt tg iter tg2 iter2:AL}{ifs ifs2:List AL}{rest:List Bt}{sc:Al}{pos:BZ}{acc:AE}{env:Env}:ya9 A (.ListComp elt (⟨tg,iter,ifs,0⟩ :: ⟨tg2,iter2,ifs2,0⟩ :: rest) sc pos) 0 tg iter ifs acc env (nextM iter2 (.ListComp elt (⟨tg,iter,ifs,0⟩ :: ⟨tg2,iter2,ifs2,0⟩ :: rest) sc pos) 1 acc env):=
 ⟨λit=>(show _=ybE _ _ _ _ _ _ _ _ (nextK _ _ _ _ _)from rfl).trans (zaP ..),rfl,λ_ _ it=>rfl,λ_ _ it=>rfl,λit=>rfl,λit=>rfl,λit=>rfl⟩
def zdu{A:A3}{elt tg iter tg2 iter2:AL}{ifs ifs2:List AL}{c0:Bt}{rest:List Bt}{sc:Al}{pos:BZ}{acc:AE}{env:Env}:ya9 A (.ListComp elt (c0 :: ⟨tg,iter,ifs,0⟩ :: ⟨tg2,iter2,ifs2,0⟩ :: rest) sc pos) 1 tg iter ifs acc env (nextM iter2 (.ListComp elt (c0 :: ⟨tg,iter,ifs,0⟩ :: ⟨tg2,iter2,ifs2,0⟩ :: rest) sc pos) 2 acc env):=
 ⟨λit=>(show _=ybE _ _ _ _ _ _ _ _ (nextK _ _ _ _ _)from rfl).trans (zaP ..),rfl,λ_ _ it=>rfl,λ_ _ it=>rfl,λit=>rfl,λit=>rfl,λit=>rfl⟩
def zey{A:A3}{elt tg iter:AL}{ifs:List AL}{c0:Bt}{sc:Al}{pos:BZ}{D:AG}{env:Env}:ya9 A (.ListComp elt [c0,⟨tg,iter,ifs,0⟩] sc pos) 1 tg iter ifs (.ref D) env (do let _ <-call (.builtin "list.append") [.ref D,<-eval elt env]):=
 ⟨λit=>rfl,rfl,λ_ _ it=>rfl,λ_ _ it=>rfl,λit=>rfl,λit=>rfl,λit=>rfl⟩
def zeX{A:A3}{elt tg iter:AL}{ifs:List AL}{c0 c1:Bt}{sc:Al}{pos:BZ}{D:AG}{env:Env}:ya9 A (.ListComp elt [c0,c1,⟨tg,iter,ifs,0⟩] sc pos) 2 tg iter ifs (.ref D) env (do let _ <-call (.builtin "list.append") [.ref D,<-eval elt env]):=
 ⟨λit=>rfl,rfl,λ_ _ it=>rfl,λ_ _ it=>rfl,λit=>rfl,λit=>rfl,λit=>rfl⟩
def zfM{A:A3}{k v tg iter:AL}{ifs:List AL}{sc:Al}{pos:BZ}{D:AG}{env:Env}:ya9 A (.DictComp k v [⟨tg,iter,ifs,0⟩] sc pos) 0 tg iter ifs (.ref D) env (do
    let kv <-eval k env
    let vv <-holding [kv] (eval v env)
    standAt {k.pos with endLine:=v.pos.endLine,endCol:=v.pos.endCol}
    holding [kv,vv] (dictSet D kv vv)):=
 ⟨λit=>rfl,rfl,λ_ _ it=>rfl,λ_ _ it=>rfl,λit=>rfl,λit=>rfl,λit=>rfl⟩
end L2
namespace L2
open PySem PySem.Spec PyProof.Rows IC
section
variable {S:Se}{X Y:Cx}{K:AC}{cl:Nat->AG}{σ:St}{B:AG->Prop}{φ φ' φ1:Ph}{H H' H1:Hp}{st:SO}{ρ:IC.Env}{D:AG}{elt tg iter l:AL}{ca ce m:Ce}{ci:Cit}{ct:Tg}{Q':St->Hp->Prop}
theorem Step.putD{u w:HO}(s:Step φ (L2.upd H D u) φ' H')(n:AA D∉φ'):Step φ (L2.upd H D w) φ' (L2.upd H' D w):=by
 refine⟨λb o nb e=>?_,s.len,s.pre,λb hb=>?_⟩
 .by_cases z:b=D
  .subst z;rw[zf]at e ⊢;exact e
  .rw[zc z]at e ⊢;exact s.keep b o nb (by rw[zc z];exact e)
 .have z:b≠D:=λz=>n (z ▸ hb);rcases s.new b hb with q|q
  .exact .inl q
  .rw[zc z]at q;exact .inr (by rw[zc z];exact q)
theorem Step.withD{u w:HO}(hD:H D=AA u)(hD':H' D=AA u)(s:Step φ H φ' H')(n:AA D∉φ'):Step φ (L2.upd H D w) φ' (L2.upd H' D w):=by
 have s0:Step φ (L2.upd H D u) φ' H':=⟨λb o nb e=>by
  by_cases z:b=D
  .subst z;rw[zf]at e;rw[hD'];exact e
  .rw[zc z]at e;exact s.keep b o nb e,s.len,s.pre,λb hb=>by
  rcases s.new b hb with z|z
  .exact .inl z
  .exact .inr (by rw[zc (λw=>by subst w;rw[hD]at z;cases z)];exact z)⟩
 exact s0.putD n
theorem Step.ext(k:∀b o,H b=AA o->H' b=AA o):Step φ H φ H':=⟨λb o _ e=>k b o e,AN _,λ_ _ _ e=>e,λ_ h=>.inl h⟩
def zhT{u:HO}(k:∀b o,H b=AA o->H' b=AA o):∀b o,L2.upd H D u b=AA o->L2.upd H' D u b=AA o:=λb o e=>by
 by_cases z:b=D
 .subst z;rw[zf]at e ⊢;exact e
 .rw[zc z]at e ⊢;exact k b o e
theorem yby.skip{a:AG}{xs:List V}{u:HO}(hB:B D)(r:yby B φ H a xs):yby B φ (L2.upd H D u) a xs:=⟨by rw[zc (show a≠D from λz=>r.2.1 (z ▸ hB))];exact r.1,r.2⟩
theorem yp.untgtN{ρ0 ρ1:IC.Env}{v:PV}(hf:yag ct ρ0=AD)(hb:yo ct v ρ0=AA ρ1)(re:yp K cl B φ H ρ1 σ):yp K cl B φ H ρ0 σ:=by
 have no:∀i:Nat,ycr ρ0[i]?=AD->ρ0[i]?=AA none:=λi h=>by
  unfold ycr at h;split at h
  .rename_i e;exact e
  .cases h
 refine yp.untgt (sl:=ρ0.map λo=>o.map λ_=>0) ?_ (λi e=>?_) hb re
 .cases ct with
  |n i=>
   have hf:=no i hf;erw[yt,Av,hf,decide_eq_true_eq];rfl
  |t l=>
   erw[yag,Ad]at hf;erw[yt,Ad,decide_eq_true_eq,Av];exact λi hi=>by rw[no i (hf i hi)];rfl
 .rw[Av]at e
  cases q:ρ0[i]? with
  |none=>rw[q]at e;cases e
  |some o=>
   rw[q]at e
   cases o with
   |none=>rfl
   |some v=>cases e
def zbT{sl:List (Option Nat)}(hf:yt ct sl=AD):yag ct (sl.map λo=>o.bind λj=>(ρ[j]?).join)=true:=by
 cases ct with
 |n i=>
  erw[yt,decide_eq_true_eq]at hf;erw[yag,zay i hf,ycr]
 |t l=>
  erw[yt,Ad,decide_eq_true_eq]at hf;erw[yag,Ad];exact λi hi=>by rw[zay i (hf i hi)];rfl
def tID(S:Se)(X:Cx)(c:Cit)(D:AG):TI:=λσ H R=>∃B φ st ρ,B D/\yh X.K S.cl B φ H st/\yp X.K S.cl B φ H ρ σ/\Run S X σ B φ H (λφ H xs J=>∀u,Drw S X B φ (L2.upd H D u) xs J) (evi S.call ρ st c) R
def zgN(hl:PE X l (tE S X ca)):PI X tg l (tID S X (.seq ca) D):=
 (ze1 hl).imp λσ H R ⟨B,φ,st,ρ,hB,rs,re,h⟩=>by
  erw[evi]at h;refine tE.bind rs re h λx H1 v st1 φ1 s1 rs1 re1 rv h1=>?_
  cases v with
  |tp k vs=>
   erw[yc]at rv;let⟨y,xs,rfl,rt,l⟩:=rv;exact⟨y,rfl,.inr ⟨⟨xs,rt.sq⟩,h1.ok rs1 λu=>zb7 (rt.skip hB) (l.skip hB)⟩⟩
  |lst vs=>
   erw[yc]at rv;let⟨y,xs,rfl,rt,l⟩:=rv;exact⟨y,rfl,.inl ⟨⟨xs,rt.sq⟩,h1.ok rs1 λu=>zcd (rt.skip hB) (l.skip hB)⟩⟩
  |_=>exact h1.elim
def zdi{a:AL}{p pos:BZ}(hg:Gl X "range")(hm:X.mg "range"=AB)(ha:PE X a (tE S X ca))(hs:starEach [a] X.env=[(AF,eval a X.env)]:=by rfl):PI X tg (.Call (.Name "range" p) [a] [] pos) (tID S X (.range1 ca) D):=
 (zbt hg hm (zX ha zkF hs) hs).imp λσ H R ⟨B,φ,st,ρ,hB,rs,re,h⟩=>by
  erw[evi]at h;refine tE.bind rs re h λx H1 v st1 φ1 s1 rs1 re1 rv h1=>?_
  cases v with
  |int j=>
   erw[ybS]at h1;split at h1
   .simp only[yc]at rv;subst rv;exact⟨j,rfl,by lia,by lia,h1.ok rs1 λu=>zbs⟩
   .exact h1.elim
  |_=>exact h1.elim
def tM0(S:Se)(K:AC)(m:Ce)(D:AG):TM:=λσ H Q=>∃B φ st ρ ys0 vs st5,B D/\yh K S.cl B φ H st/\yp K S.cl B φ H ρ σ/\H D=AA (.lst ys0)/\emR (ev S.call ρ st m)=.ok vs st5/\ys0.length+vs.length<=1000000 /\
 ∀σ' H' φ' ys,H' D=AA (.lst (ys0++ys))->Step φ (L2.upd H D (.lst (ys0++ys))) φ' H'->yh K S.cl B φ' H' st5->ye K S.cl B φ' H' vs ys->yp K S.cl B φ' H' ρ σ'->Q σ' H'
def zgr{r:R PV}{vs:List PV}{st5:SO}(h:emR r=.ok vs st5):r=.ok (.tp AF vs) st5:=by
 unfold emR at h;split at h
 .cases h;rfl
 .cases h
def ze8(he:PE Y elt (tE0 S K ce)):PEm Y (do let _ <-call (.builtin "list.append") [.ref D,<-eval elt Y.env]) (tM0 S K (.tup (.cons ce .nil)) D):=by
 intro π s σ H Q I ⟨B,φ,st,ρ,ys0,vs,st5,hB,rs,re,hD,e,hz,q⟩;refine zgQ he π s σ H Q I ⟨B,φ,st,ρ,rs,re,?_⟩;have e:=zgr e;erw[ev,evs]at e;let⟨ws,st6,e1,e2⟩:=zh e;let⟨v,st7,e3,e4⟩:=zh e1
 cases e4
 cases e2
 rw[e3];intro y H6 φ6 s6 rs6 ry;have nD:AA D∉φ:=λz=>rs.nb D z hB;have h6:H6 D=AA (.lst ys0):=s6.keep D _ nD hD;refine⟨ys0,h6,DY (by simp at hz;lia) zkL,q σ _ φ6 [y] zf ?_ (rs6.skip hB) ?_ ((re.step s6).skip hB)⟩
 .exact s6.withD hD h6 λz=>rs6.nb D z hB
 .have:ye K S.cl B φ6 H6 [v] [y]:=by erw[ye];exact⟨y,[],rfl,ry,rfl⟩
  exact this.skip hB
def yeC(S:Se)(K:AC)(B:AG->Prop)(D:AG)(ys0:List V)(φ1:Ph)(H1:Hp)(ρ0:IC.Env)(one:PV->SO->R (List PV))(zs:List PV)(st5:SO)(xs:List PV)(σc:St)(H2:Hp):Prop:=
 ∃φ2 st2 vs rest ys,H2 D=AA (.lst (ys0++ys))/\Step φ1 (L2.upd H1 D (.lst (ys0++ys))) φ2 H2/\yh K S.cl B φ2 H2 st2/\yp K S.cl B φ2 H2 ρ0 σc/\ye K S.cl B φ2 H2 vs ys/\yae one xs st2=.ok rest st5/\vs++rest=zs
def zai{J:It}{xs zs:List PV}{st1 st5:SO}{ys0:List V}{Q:St->Hp->Prop}(hB:B D)(rs1:yh X.K S.cl B φ H st1)(re1:yp X.K S.cl B φ H ρ σ)(hD:H D=AA (.lst ys0))(dr:∀u,Drw S X B φ (L2.upd H D u) xs J)(hn:yag ct ρ=AD)
  (e:yae (ya7 S.call ρ ct m) xs st1=.ok zs st5) (hz:ys0.length+zs.length<=1000000)
  (fin:∀σ' H' φ' ys,H' D=AA (.lst (ys0++ys))->Step φ (L2.upd H D (.lst (ys0++ys))) φ' H'->yh X.K S.cl B φ' H' st5->ye X.K S.cl B φ' H' zs ys->yp X.K S.cl B φ' H' ρ σ'->Q σ' H'):
  ∃W,(∃m,W 0 m σ H)/\ybn J (tG0 S X.K ct) ycf (tM0 S X.K m D) W Q:=by
 have eq0:L2.upd H D (.lst (ys0++[]))=H:=by
  funext b
  by_cases z:b=D
  .subst z;rw[zf,hD,B4]
  .rw[zc z]
 refine⟨λi m' σc H2=>i+m'=xs.length/\yeC S X.K B D ys0 φ H ρ (ya7 S.call ρ ct m) zs st5 (xs.drop i) σc H2,
  ⟨xs.length,by lia,φ,st1,[],zs,[],by rw[B4];exact hD,by rw[eq0];exact .rfl,rs1,re1,by erw[ye],by simpa using e,rfl⟩,?_⟩
 rintro i m' σc H2 ⟨hm,φ2,st2,vs,rest,ys,hD2,s2,rs2,re2,l2,ec,ez⟩
 by_cases hi:i<xs.length
 .refine .inr ⟨(dr _).go i φ2 H2 s2 hi,λσ' H'=>yeC S X.K B D ys0 φ H ρ (ya7 S.call ρ ct m) zs st5 (xs.drop (i+1)) σ' H',λσ' H' q=>⟨m'-1,by lia,by lia,q⟩,λx H3 hy=>?_⟩;let⟨v,hv,rv,kk⟩:=(dr _).yld i φ2 H2 st2 x H3 B (λy z=>.inl z) s2 rs2 hi hy;let⟨_,ev'⟩:=Af.1 hv;rw[BG hi,ev',yae]at ec;let⟨ws,st3,e1,ec⟩:=zh ec;let⟨rest',st4,e2,ec⟩:=zh ec
  cases ec
  unfold ya7 at e1
  cases eb:yo ct v ρ with
  |none=>rw[eb]at e1;cases e1
  |some ρ1=>
   rw[eb]at e1;have s3:Step φ2 H2 φ2 H3:=.ext kk;refine⟨B,φ2,st2,ρ,v,ρ1,rs2.same kk,re2.step s3,rv,eb,λσ4 re4=>?_⟩;dsimp only[ycf];rw[if_pos rfl];have hl2:=l2.length;have hzl:=congrArg CB ez;erw[Ao]at hzl;refine⟨B,φ2,st2,ρ1,ys0++ys,ws,st3,hB,rs2.same kk,re4,kk D _ hD2,e1,by rw[Ao];lia,λσ5 H5 φ5 ys5 h5 s5 rs5 l5 re5=>?_⟩;have nD5:AA D∉φ5:=λz=>rs5.nb D z hB;have nD2:AA D∉φ2:=λz=>rs2.nb D z hB;rw[D8]at h5 s5;have s25:Step φ2 (L2.upd H2 D (.lst (ys0++(ys++ys5)))) φ5 H5:=(Step.ext (zhT kk)).trans s5;refine⟨φ5,st3,vs++ws,rest',ys++ys5,h5,(s2.putD nD2).trans s25,rs5,yp.untgtN hn eb re5,ye.append ((l2.skip hB).step s25) l5,e2,by rw[D8];exact ez⟩
 .have ei:i=xs.length:=by lia
  subst ei;rw[CV]at ec
  cases ec
  rw[B4]at ez;subst ez;exact .inl ⟨(dr _).stop φ2 H2 s2,fin σc H2 φ2 ys hD2 s2 rs2 l2 re2⟩
def zg5(h:tM0 S Y.K (.emq ct ci m) D σ H Q'):ybo (tID S Y ci D) (tG0 S Y.K ct) ycf (tM0 S Y.K m D) σ H Q':=by
 let⟨B,φ,st,ρ,ys0,vs,st5,hB,rs,re,hD,e,hz,q⟩:=h;have e:=zgr e;rw[ve53]at e;let⟨xs,st1,e1,e2⟩:=zh e;split at e2
 case isFalse=>cases e2
 rename_i hn;refine⟨B,φ,st,ρ,hB,rs,re,?_⟩;rw[e1];intro J H1 φ1 s1 rs1 dr;have e3:yae (ya7 S.call ρ ct m) xs st1=.ok vs st5:=by
  unfold tupR at e2;split at e2
  .rename_i e4;cases e2;exact e4
  .cases e2
 have nD:AA D∉φ:=λz=>rs.nb D z hB;have nD1:AA D∉φ1:=λz=>rs1.nb D z hB;have hD1:H1 D=AA (.lst ys0):=s1.keep D _ nD hD;exact zai hB rs1 (re.step s1) hD1 dr hn e3 hz λσ' H' φ' ys h5 s5 rs5 l5 re5=>q σ' H' φ' ys h5 ((s1.withD hD hD1 nD1).trans s5) rs5 l5 re5
def zcg{e:AL}{d:Nat}{em:FE Unit}(hx:Y.xe=No)(hc:Y.calm=AD)(C:ya9 Y.A e d tg iter [] (.ref D) Y.env em)(hi:PI Y tg iter (tID S Y ci D))(hg:PG Y tg (tG0 S Y.K ct))(hm:PEm Y em (tM0 S Y.K m D))
  (hs:∀x,foldedSetIterable iter Y.env x=pure x:=by intro _;rfl):PEm Y (nextM iter e d (.ref D) Y.env) (tM0 S Y.K (.emq ct ci m) D):=λπ s σ H Q I h=>zfb hx hc C hi hg zaC hm hs π s σ H Q I (zg5 h)
def zaQ{sl:List (Option Nat)}(hf:yt ct sl=AD){H:Hp}{Q:VK}(h:tE S X (.cmq sl ct ci m) σ H Q):ya4 sl (tI S X ci) (tG0 S X.K ct) ycf (.lst []) (λD=>tM0 S X.K m D) σ H Q:=by
 let⟨B,φ,st,ρ,rs,re,h⟩:=h;rw[ve52]at h;refine⟨B,φ,st,ρ,rs,re,(Run.bind h).mono λJ H1 kq=>?_⟩;let⟨xs,st1,φ1,s1,rs1,dr,h1⟩:=kq;refine λD hD=>?_;let⟨zs,st5,e,hz,h1⟩:=zcF h1;have nB:¬B D:=rs1.nB hD;refine zai (B:=Bx B D) (ys0:=[]) (.inr rfl) (rs1.more hD) ((yp.inn (re.step s1)).more hD) zf (λu=>?_) (zbT hf) e (by simpa using hz) λσ' H' φ' ys h5 s5 rs5 l5 re5=>?_
 .rw[L2.upd_upd];exact⟨λφ H s=>dr.stop φ H ((Step.upd hD).trans s),λi φ H s hi=>dr.go i φ H ((Step.upd hD).trans s) hi,λi φ H st x H' B' hB s rs hi q=>dr.yld i φ H st x H' B' (λy z=>(hB y z).elim (λw=>w.elim .inl λw=>.inr (w ▸ hD)) λw=>.inr (by
   by_cases z:y=D
   .subst z;exact hD
   .rw[zc z]at w;exact w)) ((Step.upd hD).trans s) rs hi q⟩
 .rw[L2.upd_upd]at s5;refine h1 (.ref D) H' φ' ((Step.upd hD).trans s5) rs5.less ?_;erw[yc];exact⟨D,ys,rfl,⟨h5,nB,λz=>rs5.nb D z (.inr rfl)⟩,l5.less⟩
theorem yh.thawO{o:Ob}(rs:yh K cl (Bx B D) φ H st)(nB:¬B D)(nD:AA D∉φ)(l:ybx K cl B (φ++[AA D]) H o D):yh K cl B (φ++[AA D]) H (st++[o]):=by
 have hl:φ.length=st.length:=rs.len;have spl:∀{n:Nat} {a:AG},(φ++[AA D])[n]?=AA (AA a)->(n<φ.length/\φ[n]?=AA (AA a)) \/ (n=φ.length/\a=D):=λ{n a} e=>by
  by_cases hn:n<φ.length
  .rw[AQ hn]at e;exact .inl ⟨hn,e⟩
  .rw[A1 ∅]at e;rcases (by lia:n-φ.length=0 \/ 0<n-φ.length)with q|q
   .rw[q]at e;simp at e;exact .inr ⟨by lia,e.symm⟩
   .rw[An (by simp;lia)]at e;cases e
 have ne:∀{n:Nat} {a:AG},φ[n]?=AA (AA a)->a≠D:=λe z=>nD (z ▸ A7 e);refine⟨by simp[hl],λm n a e1 e2=>?_,λn a e=>?_,λn o' e ho=>?_,λa h=>?_,λa h=>rs.dom a (.inl h),λa h=>rs.nt a (.inl h)⟩
 .rcases spl e1 with⟨h1,e1⟩|⟨h1,q1⟩<;>rcases spl e2 with⟨h2,e2⟩|⟨h2,q2⟩
  .exact rs.inj m n a e1 e2
  .exact absurd q2 (ne e1)
  .exact absurd q1 (ne e2)
  .lia
 .rcases spl e with⟨h1,e1⟩|⟨h1,q1⟩
  .let⟨o,q,r⟩:=rs.obj n a e1;refine⟨o,by rw[AQ ∅];exact q,?_⟩
   cases o with
   |lst vs=>let⟨xs,hx,l⟩:=r;exact⟨xs,hx,l.thaw⟩
   |dct t kvs=>cases t<;>(let⟨xs,hx,l⟩:=r;exact⟨xs,hx,l.thaw⟩)
   |ins c fs=>let⟨ks,hx,l⟩:=r;exact⟨ks,hx,l.thaw⟩
   |dead=>exact r.elim
  .subst q1;exact⟨o,by rw[h1,hl,A1 (AN _)];simp,l⟩
 .by_cases hn:n<st.length
  .rw[AQ hn]at e;let⟨a,q⟩:=rs.liv n o' e ho;exact⟨a,by rw[AQ ∅];exact q⟩
  .have hn2:n=st.length:=by
    rcases (by lia:n=st.length \/ st.length<n)with q|q
    .exact q
    .rw[An (by simp;lia)]at e;cases e
   exact⟨D,by rw[hn2,<-hl,A1 (AN _)];simp⟩
 .rcases Ax.1 h with h|h
  .exact λz=>rs.nb a h (.inl z)
  .simp only[A5,CA,or_false,Bn]at h;subst h;exact nB
def zgY(k v:PV)(kvs:List (PV×PV)):(IC.put k v kvs).length<=kvs.length+1:=by
 unfold IC.put;split<;>simp
def tD0(S:Se)(K:AC)(ck cv:Ce)(D:AG):TM:=λσ H Q=>tE0 S K ck σ H λx H1=>tE0 S K cv σ H1 λv H2=>∃b k kvs,x=.ref b/\H2 D=AA (.dT kvs)/\KyR H2 k b/\kvs.length<sizeLine/\Q σ (L2.upd H2 D (.dT (putK kvs k v)))
def ziA{kx vx:AL}{ck cv:Ce}(hu:Y.A.units+16<cLine)(hk:PE Y kx (tE0 S K ck))(hv:PE Y vx (tE0 S K cv)):PEm Y (do
    let kv <-eval kx Y.env
    let vv <-holding [kv] (eval vx Y.env)
    standAt {kx.pos with endLine:=vx.pos.endLine,endCol:=vx.pos.endCol}
    holding [kv,vv] (dictSet D kv vv)) (tD0 S K ck cv D):=zgT hu hk hv
def zfI{Rel:Ph->Hp->PV->V->Prop}{r:R (List (PV×PV))}{Q:VK}(h:Run S X σ B φ H Rel (dctR r) Q):∃kvs st5,r=.ok kvs st5/\∀x H' φ',Step φ H φ' H'->yh X.K S.cl B φ' H' (st5++[.dct AD kvs])->Rel φ' H' (.loc st5.length) x->Q x H':=by
 cases r with
 |ok kvs st5=>exact⟨kvs,st5,rfl,h⟩
 |exc k s=>exact h.elim
 |bad=>exact h.elim
def zdc{ck cv:Ce}{sl:List (Option Nat)}(hf:yt ct sl=AD){H:Hp}{Q:VK}(h:tE S X (.dcm sl ct ci ck cv) σ H Q):ya4 sl (tI S X ci) (tG0 S X.K ct) ycf (.dT []) (λD=>tD0 S X.K ck cv D) σ H Q:=by
 let⟨B,φ,st,ρ,rs,re,h⟩:=h;rw[ve54]at h;refine⟨B,φ,st,ρ,rs,re,(Run.bind h).mono λJ H1 kq=>?_⟩;let⟨xs,st1,φ1,s1,rs1,dr,h1⟩:=kq;refine λD hD=>?_;split at h1
 case isFalse=>exact h1.elim
 rename_i hxs;let⟨kvs,st5,e,h2⟩:=zfI h1
 clear h1 h
 have nB:¬B D:=rs1.nB hD;have nD:AA D∉φ1:=λz=>by
  let⟨w,e⟩:=rs1.there z;rw[hD]at e;cases e
 have r0:=(yp.inn (sl:=sl) (re.step s1)).more (u:=.dT []) hD;have h0:=zbT (ρ:=ρ) hf;generalize (sl.map λo=>o.bind λj=>(ρ[j]?).join)=ρ0 at *;refine⟨λi m' σc H2=>i+m'=xs.length/\∃φ2 st2 acc ks,Step φ1 H1 φ2 H2/\H2 D=AA (.dT ks)/\AA D∉φ2/\yh X.K S.cl (Bx B D) φ2 H2 st2/\yp X.K S.cl (Bx B D) φ2 H2 ρ0 σc/\DT X.K S.cl (Bx B D) φ2 H2 acc ks/\acc.length<=i/\yav (ybY S.call ρ0 ct ck cv) (xs.drop i) acc st2=.ok kvs st5,
  ⟨xs.length,by lia,φ1,st1,[],[],.upd hD,zf,nD,rs1.more hD,r0,rfl,AN _,by simpa using e⟩,?_⟩
 rintro i m' σc H2 ⟨hm,φ2,st2,acc,ks,s2,hD2,nD2,rs2,re2,l2,la,ec⟩
 by_cases hi:i<xs.length
 .refine .inr ⟨dr.go i φ2 H2 s2 hi,λσ' H'=>∃φ2 st2 acc ks,Step φ1 H1 φ2 H'/\H' D=AA (.dT ks)/\AA D∉φ2/\yh X.K S.cl (Bx B D) φ2 H' st2/\yp X.K S.cl (Bx B D) φ2 H' ρ0 σ'/\DT X.K S.cl (Bx B D) φ2 H' acc ks/\acc.length<=i+1/\yav (ybY S.call ρ0 ct ck cv) (xs.drop (i+1)) acc st2=.ok kvs st5,
   λσ' H' q=>⟨m'-1,by lia,by lia,q⟩,λx H3 hy=>?_⟩
  let⟨v,hv,rv,kk⟩:=dr.yld i φ2 H2 st2 x H3 (Bx B D) (λy z=>z.elim .inl λq=>.inr (q ▸ hD)) s2 rs2 hi hy;have s3:Step φ2 H2 φ2 H3:=.ext kk;let⟨_,ev'⟩:=Af.1 hv;rw[BG hi,ev',yav]at ec;let⟨p,st3,e1,ec⟩:=zh ec;split at ec
  case isFalse=>cases ec
  rename_i hk;unfold ybY at e1
  cases eb:yo ct v ρ0 with
  |none=>rw[eb]at e1;cases e1
  |some ρ1=>
   rw[eb]at e1;let⟨a,st6,e2,e1⟩:=zh e1;let⟨b,st7,e3,e1⟩:=zh e1
   cases e1
   refine⟨Bx B D,φ2,st2,ρ0,v,ρ1,rs2.same kk,re2.step s3,rv,eb,λσ4 re4=>?_⟩;dsimp only[ycf];rw[if_pos rfl];refine⟨Bx B D,φ2,st2,ρ1,rs2.same kk,re4,?_⟩;rw[e2];intro x5 H5 φ5 s5 rs5 r5;refine⟨Bx B D,φ5,st6,ρ1,rs5,re4.step s5,?_⟩;rw[e3];intro x6 H6 φ6 s6 rs6 r6;let⟨q,ea,hq⟩:=zet hk;have ea:a=.tup (yao q):=ea;subst ea;let⟨y,rfl,ky⟩:=zdK hq (r5.step s6);have s36:Step φ2 H2 φ6 H6:=s3.trans (s5.trans s6);let⟨n6,h6⟩:=stays s36 nD2 hD2;have hBD:Bx B D D:=.inr rfl;have s16:=s2.trans s36;have lk:=l2.len;refine⟨y,q,ks,rfl,h6,ky,DY ∅ zkL,φ6,st3,_,_,⟨λb o n z=>by rw[zc (ze z hD)];exact s16.keep b o n z,s16.len,s16.pre,s16.new⟩,zf,n6,rs6.skip hBD,(yp.untgtN h0 eb (re4.step (s5.trans s6))).skip hBD,((l2.step s36).put r6).skip hBD,BB (zgY _ _ _) ∅,ec⟩
 .have ei:i=xs.length:=by lia
  subst ei;rw[CV]at ec
  cases ec
  refine .inl ⟨dr.stop φ2 H2 s2,h2 (.ref D) H2 (φ2++[AA D]) ⟨s2.keep,by simp;have:=s2.len;lia,λn a hn z=>?_,λb hb=>?_⟩ (rs2.thawO nB nD2 ⟨ks,hD2,l2.thaw⟩) (.loc_new rs2.less)⟩
  .rw[AQ (AY hn s2.len)]at z;exact s2.pre n a hn z
  .rcases Ax.1 hb with z|z
   .exact s2.new b z
   .simp only[A5,CA,or_false,Bn]at z;exact .inr (z ▸ hD)
end
section
variable {X:Cx}
end
section
variable {S:Se}{X:Cx}{σ:St}{B:AG->Prop}{φ φ1:Ph}{H H1:Hp}{st:SO}{ρ:IC.Env}{p pos p2 apos:BZ}{a b:AL}{ca cb:Ce}{K:AC}{cl:Nat->AG}
end
section
variable {S:Se}{X:Cx}{σ:St}{B:AG->Prop}{φ:Ph}{H:Hp}{st:SO}{p pos p2 px apos:BZ}{a b c d o tg l:AL}{ca cb cc:Ce}{ct:Tg}{ss:List B7}{cs:Css}
def zeg{D:Ends}{J:It}{H1:Hp}{xs:List PV}{st1:SO}{φ1:Ph}{ρ:IC.Env}(rs1:yh X.K S.cl B φ1 H1 st1)(re1:yp X.K S.cl B φ1 H1 ρ σ)(dr:Drw S X B φ1 H1 xs J)(h1:yW S X B φ1 H1 (forL ct (λρ2 st2=>exs S.call ρ2 st2 cs) xs ρ st1) D):
  ∃W:Nat->Nat->St->Hp->Prop,(∃m,W 0 m σ H1)/\∀i m σ H,W i m σ H ->
   (J.stop i H/\D.nx σ H) \/ (J.go i H/\∃N:St->Hp->Prop,(∀σ' H',N σ' H'->∃m',m' < m/\W (i+1) m' σ' H')/\∀x H',J.yld i H x H'->tG S X ct x σ H' λσ2 H2=>tSs S X cs {D with nx:=N,ct:=N,bk:=D.nx} σ2 H2):=by
 refine⟨λi m σ H=>∃φ st ρ,i+m=xs.length/\Step φ1 H1 φ H/\yh X.K S.cl B φ H st/\yp X.K S.cl B φ H ρ σ/\yW S X B φ H (forL ct (λρ2 st2=>exs S.call ρ2 st2 cs) (xs.drop i) ρ st) D,
  ⟨xs.length,φ1,st1,ρ,by lia,.rfl,rs1,re1,by simpa using h1⟩,?_⟩
 rintro i m σ2 H2 ⟨φ2,st2,ρ2,hm,s2,rs2,re2,h2⟩
 by_cases hi:i<xs.length
 .refine .inr ⟨dr.go i φ2 H2 s2 hi,λσ' H'=>∃φ st ρ,Step φ1 H1 φ H'/\yh X.K S.cl B φ H' st/\yp X.K S.cl B φ H' ρ σ'/\yW S X B φ H' (forL ct (λρ2 st2=>exs S.call ρ2 st2 cs) (xs.drop (i+1)) ρ st) D,
   λσ' H' ⟨φ,st,ρ,s,q⟩=>⟨m-1,by lia,φ,st,ρ,by lia,s,q⟩,λx H3 hy=>?_⟩
  let⟨v,hv,rv,kk⟩:=dr.yld i φ2 H2 st2 x H3 B (λ_ z=>.inl z) s2 rs2 hi hy;have e:xs.drop i=v::xs.drop (i+1):=by
   rw[BG hi];rw[BY hi]at hv;rw[AU hv]
  have s3:Step φ2 H2 φ2 H3:=⟨λb o _ e=>kk b o e,AN _,λ_ _ _ e=>e,λ_ h=>.inl h⟩;have rs3:yh X.K S.cl B φ2 H3 st2:=rs2.same kk;rw[e,forL]at h2
  cases eb:yo ct v ρ2 with
  |none=>rw[eb]at h2;exact h2.elim
  |some ρ3=>
   rw[eb]at h2;refine⟨B,φ2,st2,ρ2,v,ρ3,rs3,re2.step s3,rv,eb,λσ' re'=>⟨B,φ2,st2,ρ3,rs3,re',?_⟩⟩;have h3:=yW.on s3 h2;dsimp only at h3
   cases ee:exs S.call ρ3 st2 cs with
   |nx ρ4 st4=>
    rw[ee]at h3;exact λσ4 H4 φ4 s4 rs4 re4=>⟨φ4,st4,ρ4,s2.trans (s3.trans s4),rs4,re4,yW.on s4 h3⟩
   |ct ρ4 st4=>
    rw[ee]at h3;exact λσ4 H4 φ4 s4 rs4 re4=>⟨φ4,st4,ρ4,s2.trans (s3.trans s4),rs4,re4,yW.on s4 h3⟩
   |bk ρ4 st4=>rw[ee]at h3;exact h3
   |rt v4 st4=>rw[ee]at h3;exact h3
   |exc k ρ4 st4=>rw[ee]at h3;exact h3
   |bad=>rw[ee]at h3;exact h3
 .have e:i=xs.length:=by lia
  subst e;rw[CV,forL]at h2;exact .inl ⟨dr.stop φ2 H2 s2,h2 σ2 H2 φ2 .rfl rs2 re2⟩
def zfE{D:Ends}{n:Nat}{y:AG}{H1:Hp}{st1:SO}{φ1:Ph}{ρ:IC.Env}{f:Nat}(rs1:yh X.K S.cl B φ1 H1 st1)(re1:yp X.K S.cl B φ1 H1 ρ σ)(rv:yc X.K S.cl B φ1 H1 (.loc n) (.ref y))(h1:yW S X B φ1 H1 (ya3 ct (λρ2 st2=>exs S.call ρ2 st2 cs) n f 0 ρ st1) D):
  ∃W:Nat->Nat->St->Hp->Prop,(∃m,W 0 m σ H1)/\∀i m σ H,W i m σ H ->
   ((Itl X.K y).stop i H/\D.nx σ H) \/ ((Itl X.K y).go i H/\∃N:St->Hp->Prop,(∀σ' H',N σ' H'->∃m',m' < m/\W (i+1) m' σ' H')/\∀x H',(Itl X.K y).yld i H x H'->tG S X ct x σ H' λσ2 H2=>tSs S X cs {D with nx:=N,ct:=N,bk:=D.nx} σ2 H2):=by
 refine⟨λi m σ H=>∃φ st ρ,Step φ1 H1 φ H/\yh X.K S.cl B φ H st/\yp X.K S.cl B φ H ρ σ/\yW S X B φ H (ya3 ct (λρ2 st2=>exs S.call ρ2 st2 cs) n m i ρ st) D,
  ⟨f,φ1,st1,ρ,.rfl,rs1,re1,h1⟩,?_⟩
 rintro i m σ2 H2 ⟨φ2,st2,ρ2,s2,rs2,re2,h2⟩
 cases m with
 |zero=>rw[ya3]at h2;exact h2.elim
 |succ m=>
  unfold ya3 at h2
  cases e:st2[n]? with
  |none=>rw[e]at h2;exact h2.elim
  |some ob=>
   rw[e]at h2
   cases ob with
   |lst xs=>
    dsimp only at h2;have rv2:=rv.step s2;have hlo:yN st2 (.loc n)=AA xs:=by erw[yN,e]
    let⟨y',us,ey,hq,l⟩:=zbD rs2 rv2 hlo
    cases ey
    have hl:=l.length
    cases ex:xs[i]? with
    |none=>
     rw[ex]at h2;have:xs.length<=i:=by
      rcases Cj i xs.length with z|z
      .rw[BY z]at ex;cases ex
      .exact z
     exact .inl ⟨⟨us,hq,by lia⟩,h2 σ2 H2 φ2 .rfl rs2 re2⟩
    |some v=>
     rw[ex]at h2;dsimp only at h2;let⟨x,hx,rx⟩:=l.get i ex;refine .inr ⟨⟨us,x,hq,hx⟩,λσ' H'=>∃φ st ρ,Step φ1 H1 φ H'/\yh X.K S.cl B φ H' st/\yp X.K S.cl B φ H' ρ σ'/\yW S X B φ H' (ya3 ct (λρ2 st2=>exs S.call ρ2 st2 cs) n m (i+1) ρ st) D,
      λσ' H' ⟨φ,st,ρ,s,q⟩=>⟨m,Dm m,φ,st,ρ,s,q⟩,λx' H3 hy=>?_⟩
     let⟨e3,hy⟩:=hy;subst e3;have:=hy us hq;rw[hx]at this
     cases this
     cases eb:yo ct v ρ2 with
     |none=>rw[eb]at h2;exact h2.elim
     |some ρ3=>
      rw[eb]at h2;refine⟨B,φ2,st2,ρ2,v,ρ3,rs2,re2,rx,eb,λσ' re'=>⟨B,φ2,st2,ρ3,rs2,re',?_⟩⟩;dsimp only at h2
      cases ee:exs S.call ρ3 st2 cs with
      |nx ρ4 st4=>
       rw[ee]at h2;exact λσ4 H4 φ4 s4 rs4 re4=>⟨φ4,st4,ρ4,s2.trans s4,rs4,re4,yW.on s4 h2⟩
      |ct ρ4 st4=>
       rw[ee]at h2;exact λσ4 H4 φ4 s4 rs4 re4=>⟨φ4,st4,ρ4,s2.trans s4,rs4,re4,yW.on s4 h2⟩
      |bk ρ4 st4=>rw[ee]at h2;exact h2
      |rt v4 st4=>rw[ee]at h2;exact h2
      |exc k ρ4 st4=>rw[ee]at h2;exact h2
      |bad=>rw[ee]at h2;exact h2
   |_=>exact h2.elim
def zhS(hp:DL (model X.prog X.w) X.A X.env X.xe)(hc:X.calm=AD)(hi:PE X l (tE S X ca))(hg:PG X tg (tG S X ct))(hb:PSs X ss (tSs S X cs))(hs:∀x,foldedSetIterable l X.env x=pure x:=by intro _;rfl):
  PS X (.For tg l ss [] pos) (tS S X (.forl ct ca cs)):=
 (zgp hp hc (ze1 hi) hg hb hs).imp λD σ H ⟨B,φ,st,ρ,rs,re,h⟩=>by
  erw[ex]at h;refine tE.fl rs re h λx H1 v st1 φ1 s1 rs1 re1 rv h1=>?_
  cases v with
  |tp k vs=>
   erw[yc]at rv;let⟨y,xs,rfl,rt,l⟩:=rv;exact⟨y,rfl,.inr ⟨⟨xs,rt.sq⟩,zeg rs1 re1 (zb7 rt l) h1⟩⟩
  |lst vs=>
   erw[yc]at rv;let⟨y,xs,rfl,rt,l⟩:=rv;exact⟨y,rfl,.inl ⟨⟨xs,rt.sq⟩,zeg rs1 re1 (zcd rt l) h1⟩⟩
  |loc n=>
   dsimp only at h1;unfold ya3 at h1
   cases e:st1[n]? with
   |none=>rw[e]at h1;exact h1.elim
   |some ob=>
    cases ob with
    |lst zs=>
     have hlo:yN st1 (.loc n)=AA zs:=by erw[yN,e]
     let⟨y,us,rfl,hq,_⟩:=zbD rs1 rv hlo;refine⟨y,rfl,.inl ⟨⟨us,hq⟩,zfE (f:=100000) rs1 re1 rv ?_⟩⟩;unfold ya3;exact h1
    |_=>rw[e]at h1;exact h1.elim
  |_=>exact h1.elim
def trE(S:Se)(K:AC):List AM->Ces->List (TE×TE)
 |k::ks,.cons e es=>(tC (.str k),tE0 S K e)::trE S K ks es
 |_,_=>[]
def zjM:PPs X pos [] [] (trE S X.K [] .nil):=zg8
def zhn{ks:List (Option AL)}{vs:List AL}{ns:List AM}{es:Ces}{x:AM}{j1:Nat}{p1:BZ}{e:AL}{ce:Ce}(he:PE X e (tE S X ce))(h:PPs X pos ks vs (trE S X.K ns es)):PPs X pos (AA (.Constant (.str x) j1 p1)::ks) (e::vs) (trE S X.K (x::ns) (.cons ce es)):=zfZ zkI (zag rfl he) h
def zbA{K:AC}:∀(ks:List AM) (es:Ces) {B:AG->Prop} {φ:Ph} {H:Hp} {st st':SO} {ρ:IC.Env} {vs:List PV} {Q:List (V×V)->Hp->Prop},yh K S.cl B φ H st->yp K S.cl B φ H ρ σ->evs S.call ρ st es=.ok vs st'->ks.length=vs.length ->
  (∀ys H' φ',Step φ H φ' H'->yh K S.cl B φ' H' st'->ye K S.cl B φ' H' vs ys->Q ((ks.zip ys).map λkv=>(.str kv.1,kv.2)) H')->yaP (trE S K ks es) σ H Q
 |ks,.nil,B,φ,H,st,st',ρ,vs,Q,rs,re,he,hl,n=>by
  erw[evs]at he
  cases he
  cases ks with
  |nil=>exact n [] H φ .rfl rs (by erw[ye])
  |cons k ks=>simp at hl
 |[],.cons e es,B,φ,H,st,st',ρ,vs,Q,rs,re,he,hl,n=>by
  erw[evs]at he;let⟨v,s1,e1,he⟩:=zh he;let⟨ws,s2,e2,he⟩:=zh he
  cases he
  simp at hl
 |k::ks,.cons e es,B,φ,H,st,st',ρ,vs,Q,rs,re,he,hl,n=>by
  erw[evs]at he;let⟨v,s1,e1,he⟩:=zh he;let⟨ws,s2,e2,he⟩:=zh he
  cases he
  show tE0 S K e σ H λy H2=>yaP (trE S K ks es) σ H2 λps H3=>Q ((.str k,y)::ps) H3;refine⟨B,φ,st,ρ,rs,re,?_⟩;rw[e1];intro y H2 φ2 t2 rs2 ry;refine zbA ks es rs2 (re.step t2) e2 (by simpa using hl) λys H3 φ3 t3 rs3 l=>?_;have:=n (y::ys) H3 φ3 (t2.trans t3) rs3 (by erw[ye];exact⟨y,ys,rfl,ry.step t3,l⟩);simpa using this
theorem DK.foldE{K:AC}{cl:Nat->AG}:∀(ns:List AM) {vs:List PV} {ys:List V} {acc:List (PV×PV)} {ks:List (Key×V)},ye K cl B φ H vs ys->DK K cl B φ H acc ks ->
  DK K cl B φ H ((ns.zip vs).foldl (λacc kv=>IC.put (.str kv.1) kv.2 acc) acc) (yL ks ((ns.zip ys).map λkv=>(B3 kv.1,kv.2)))
 |[],vs,ys,acc,ks,l,d=>by simpa [yL] using d
 |n::ns,[],ys,acc,ks,l,d=>by
  erw[ye]at l;subst l;simpa [yL] using d
 |n::ns,v::vs,ys,acc,ks,l,d=>by
  erw[ye]at l;let⟨y,zs,rfl,r,l⟩:=l;unfold yL;erw[C7,C2,AS];exact DK.foldE ns l (d.put (q:=B3 n) r)
def zhz(hu:X.A.units+16<cLine){ks:List (Option AL)}{vs:List AL}{ns:List AM}{es:Ces}(h:PPs X p2 ks vs (trE S X.K ns es))(hb:PE X b (tE S X cb))(hall:ks.all (·.isSome)=true:=by rfl)(hl:ks.length=vs.length:=by rfl)(h0:ks≠[]:=by simp)(h15:ks.length<=15:=by decide)(hs:yb1 b:=by exact λ_ _=>rfl):
  PE X (.Subscript (.Dict ks vs p2) b pos) (tE S X (.dsub ns es cb)):=
 (zeb hu (zhO h hall hl h0 h15) hb hs).imp λσ H Q ⟨B,φ,st,ρ,rs,re,h⟩=>by
  erw[ev]at h
  cases e:evs S.call ρ st es with
  |exc k s1=>rw[e]at h;exact h.elim
  |bad=>rw[e]at h;exact h.elim
  |ok ws st1=>
   rw[e]at h;dsimp only at h;intro p hp;split at h
   case isFalse=>exact h.elim
   case isTrue hlen=>
    have np:AA p∉φ:=λz=>by
     let⟨w,e⟩:=rs.there z;rw[hp]at e;cases e
    have su:Step φ H φ (L2.upd H p (.dK [])):=.upd hp;refine zbA ns es (B:=Bx B p) (rs.more hp) (re.more hp) e hlen.1 λys H2 φ2 s2 rs2 l2=>?_;have hl2:=l2.length;have np2:AA p∉φ2:=λz=>by
     rcases s2.new p z with q|q
     .exact np q
     .rw[zf]at q;cases q
    have hBp:Bx B p p:=.inr rfl;refine⟨s2.keep p _ np zf,(ns.zip ys).map λkv=>(B3 kv.1,kv.2),by simp[kV],by simp;lia,?_⟩;obtain⟨H3,hH3⟩:∃H3,H3=L2.upd H2 p (.dK (yL [] ((ns.zip ys).map λkv=>(B3 kv.1,kv.2)))):=⟨_,rfl⟩;rw[<-hH3];have hs3:Step φ H φ2 H3:=by
     have s02:=su.trans s2;exact⟨λb o n q=>by rw[hH3,zc (ze q hp)];exact s02.keep b o n q,s02.len,s02.pre,s02.new⟩
    have rs3:yh X.K S.cl (Bx B p) φ2 H3 st1:=by rw[hH3];exact rs2.skip hBp
    have l3:ye X.K S.cl (Bx B p) φ2 H3 ws ys:=by rw[hH3];exact ye.skip hBp _ _ l2
    have d3:DK X.K S.cl (Bx B p) φ2 H3 ((ns.zip ws).foldl (λacc kv=>IC.put (.str kv.1) kv.2 acc) []) (yL [] ((ns.zip ys).map λkv=>(B3 kv.1,kv.2))):=DK.foldE ns l3 rfl;refine tE.bind rs3.less (re.step hs3) (Run.on hs3 h) λy H4 w st4 φ4 s4 rs4 re4 rw h4=>?_;let⟨z,ez,q⟩:=zu h4 rs4
    cases w with
    |str kq=>
     erw[ycQ]at ez;erw[yc]at rw;subst rw;have hp4:H4 p=AA (.dK (yL [] ((ns.zip ys).map λkv=>(B3 kv.1,kv.2)))):=s4.keep p _ np2 (by rw[hH3];exact zf);have d4:DK X.K S.cl B φ4 H4 ((ns.zip ws).foldl (λacc kv=>IC.put (.str kv.1) kv.2 acc) []) (yL [] ((ns.zip ys).map λkv=>(B3 kv.1,kv.2))):=DK.step s4 d3.less;obtain⟨vv,hv,rvv⟩:∃vv,yat (yL [] ((ns.zip ys).map λkv=>(B3 kv.1,kv.2))) (B3 kq)=AA vv/\yc X.K S.cl B φ4 H4 z vv:=by
      have hn:=DK.look (q:=B3 kq) d4 (v:=.non) (x:=.non) (by erw[yc]);have hb:=DK.look (q:=B3 kq) d4 (v:=.bl AD) (x:=.bl AD) (by erw[yc]);rw[yaR,zaE ez]at hn hb
      cases hv:yat (yL [] ((ns.zip ys).map λkv=>(B3 kv.1,kv.2))) (B3 kq)with
      |some vv=>rw[hv]at hn;exact⟨vv,rfl,hn⟩
      |none=>
       rw[hv]at hn hb;exact absurd (yc.inj_non hn) (λez=>by subst ez;simp[yc]at hb)
     exact⟨p,vv,rfl,.inl ⟨_,B3 kq,.inl hp4,by simp[kV],hv.symm⟩,q vv H4 φ4 .rfl rs4 rvv⟩
    |_=>cases ez
end
section
variable {S:Se}{X:Cx}{σ:St}{B:AG->Prop}{φ φ1:Ph}{H H1:Hp}{st:SO}{ρ:IC.Env}{pos:BZ}{a b tg elt iter:AL}{ca cb ce:Ce}{ct:Tg}
end
end L2
namespace L2
open PySem PySem.Spec PyProof.Rows IC WK
inductive GK where
 |fn (i:Nat)|fnD (i:Nat)|cst (v:PV)|dct (D:List (AM×PV))|exc (c:Nat)|cls (c i:Nat)
structure Gs where
 g:AM->Option GK
 b:AM->Bool
 t:Ty->Bool
 fl:Nat->AM->Bool
 me:Nat->AM->Option Nat
 kb:Nat->Nat->List AM->Option (List (Option Int))
 mr:AM->Option (List (AM×Nat))
 fv:AM->Nat->Bool
 xk:Nat->Ty->Bool
 xc:Nat->AM->Bool
 xm:Nat->AM->Bool
 qf:Nat->Bool
structure Kx where
 N:List AM
 sc:Al
 own:Bool
 h:Bool
def Fo(m:Nat)(S:Se)(X:Cx)(i:Nat)(f:AG)(fd:Aj)(ps:List AM):Prop:=yaD X.prog X.w X.K X.mg X.base (CX1 X.prog X.w) m f fd ps (spI X.K S.cl S.call i)
def zkQ{β:Type}{x:AM}{k:β}:∀{l:List (AM×β)},l.lookup x=AA k->(x,k)∈l
 |[],h=>nomatch h
 |y::l,h=>by
  rw[Ar]at h
  cases hx:x==y.1 with
  |true=>rw[hx]at h;cases h;rw[eq_of_beq hx];exact AV
  |false=>rw[hx]at h;exact AK _ (zkQ h)
structure Glo(γ:Gs)(m:Nat)(S:Se)(X:Cx):Prop where
 F:∀x i,γ.g x=AA (.fn i)->∃f fd ps,Fo m S X i f fd ps/\X.mg x=AA (.ref f)/\Aa X.K (.ref f)=AD/\Binds X.K fd ps []
 Q:∀x i np ks sh,γ.g x=AA (.fnD i)->γ.kb i np ks=AA sh->∃f fd ps,Fo m S X i f fd ps/\X.mg x=AA (.ref f)/\Aa X.K (.ref f)=AD/\∃g,ybl X.K fd ps ks g (gK np sh)
 C:∀x v,γ.g x=AA (.cst v)->GC X.K X.mg S.cl x v \/ ∃i,v=.int i/\GCI X.mg x i
 D:∀x d,γ.g x=AA (.dct d)->GD X.K X.w X.mg S.cl x d
 E:∀x c,γ.g x=AA (.exc c)->ybV X.K X.mg (S.cl c) x
 N:∀x c i,γ.g x=AA (.cls c i)->X.mg x=AA (.ref (S.cl c))/\∃f fd ps,Mk X.K (S.cl c) f/\Fo m S X i f fd ps/\Binds X.K fd ps []
 B:∀x,γ.b x=AD->X.mg x=AB
 T:∀t,γ.t t=AD->ydN X.K t
 A:∀c f,γ.fl c f=AD->Cls X.K (S.cl c)/\ybR X.K (S.cl c) f
 M:∀c n i,γ.me c n=AA i->Cls X.K (S.cl c)/\∃f fd ps,Meth X.K (S.cl c) n f/\Fo m S X i f fd ps/\Binds X.K fd ps []
 K:∀y D,γ.mr y=AA D->∃fa fdd ps,Makers S X m D fa fdd ps/\GDF X.K X.w X.mg fa y D
 V:∀x i,γ.g x=AA (.fn i)->γ.fv x i=AD->X.mg x=AA (.ref (S.cl (1000+i)))
 I:∀c t,γ.xk c t=AD->yeD X.K (S.cl c)/\yfM X.K S.cl c t
 L:∀d x,γ.xc d x=AD->X.mg x=AA (.ref (S.cl d))
 H:∀c x,γ.xm c x=AD->∃W,X.mg x=AA (.ref W)/\F8 X.K (.ref (S.cl c)) (.ref W)=AA AD
 Z:∀x i,γ.g x=AA (.fn i)->γ.qf i=AD->∃f fd ps,ybv X.prog X.w X.K X.mg X.base m f fd ps (spI X.K S.cl S.call i)/\X.mg x=AA (.ref f)/\Aa X.K (.ref f)=AD/\Binds X.K fd ps []
theorem Glo.mkr{γ:Gs}{m:Nat}{S:Se}{X:Cx}(G:Glo γ m S X){p:AM×Nat}{L:List (AM×Nat)}(h:∀q∈p::L,γ.g q.1=AA (.fn q.2)/\γ.fv q.1 q.2=AD):∃fdd ps,Makers S X m (p::L) (λj=>S.cl (1000+j)) fdd ps:=by
 have one:∀q∈p::L,∃z:Aj×List AM,Fo m S X q.2 (S.cl (1000+q.2)) z.1 z.2/\Aa X.K (.ref (S.cl (1000+q.2)))=AD/\Binds X.K z.1 z.2 []:=λq hq=>by
  let⟨f,fd,ps,h1,h2,h3,h4⟩:=G.F q.1 q.2 (h q hq).1;have e:=G.V q.1 q.2 (h q hq).1 (h q hq).2;rw[h2]at e
  cases e
  exact⟨(fd,ps),h1,h3,h4⟩
 have all:∀j,∃z:Aj×List AM,(∃s,(p::L).lookup s=AA j)->Fo m S X j (S.cl (1000+j)) z.1 z.2/\Aa X.K (.ref (S.cl (1000+j)))=AD/\Binds X.K z.1 z.2 []:=λj=>by
  by_cases hj:∃s,(p::L).lookup s=AA j
  .let⟨s,hs⟩:=hj;let⟨z,hz⟩:=one (s,j) (zkQ hs);exact⟨z,λ_=>hz⟩
  .let⟨z,_⟩:=one p AV;exact⟨z,λq=>absurd q hj⟩
 let⟨f,hf⟩:=Classical.skolem.1 all;exact⟨λj=>(f j).1,λj=>(f j).2,⟨λs j e=>(hf j ⟨s,e⟩).1,λs j e=>(hf j ⟨s,e⟩).2.1,λs j e=>(hf j ⟨s,e⟩).2.2⟩⟩
structure Good(γ:Gs)(κ:Kx)(m:Nat)(S:Se)(X:Cx):Prop where
 n:X.N=κ.N
 sc:X.env.scope=κ.sc
 calm:κ.h=AF->X.calm=AD
 room:yai (m+1) X.A
 hd:κ.h=AF->X.A.handled=AB
 own:κ.own=AD->DL (model X.prog X.w) X.A X.env X.xe/\(∀x,X.fn x=AD)/\S.may=AD
 top:κ.own=AD->(∃outer,X.stack=X.env::outer)/\X.ex=[]/\X.env.frame=AA X.env.locals
 glo:Glo γ m S X
theorem Good.rm{γ:Gs}{κ:Kx}{m:Nat}{S:Se}{X:Cx}(G:Good γ κ m S X)(h:κ.h=AF):yap (m+1) X.A:=⟨G.hd h,G.room.dp,G.room.un⟩
def zgq{k:Nat}{A:A3}(r:yai k A):A.units+16<cLine:=by have:=r.units;lia
def zhF{k:Nat}{A:A3}(r:yai k A):A.units+16<cLine:=by have:=r.units;lia
abbrev Pr(P:Prop):Type:=Option (PLift P)
abbrev YE(γ:Gs)(κ:Kx)(e:AL)(c:Ce):Prop:=∀m S X,Good γ κ m S X->PE X e (tE S X c)
abbrev YT(γ:Gs)(κ:Kx)(e:AL)(c:Ce):Prop:=∀m S X,Good γ κ m S X->PT X e (tTs S X c)
abbrev YW(γ:Gs)(κ:Kx)(e:AL)(c:Ce):Prop:=∀m S X,Good γ κ m S X->PW X e (tTs S X c)
abbrev YA(γ:Gs)(κ:Kx)(e:List AL)(c:Ces):Prop:=∀m S X,Good γ κ m S X->PA X e (tAs S X c)
abbrev YO(γ:Gs)(κ:Kx)(e:Option AL)(c:Ce):Prop:=∀m S X,Good γ κ m S X->PO X e (tO S X c)
abbrev YS(γ:Gs)(κ:Kx)(s:B7)(c:Cs):Prop:=∀m S X,Good γ κ m S X->PS X s (tS S X c)
abbrev YSs(γ:Gs)(κ:Kx)(s:List B7)(c:Css):Prop:=∀m S X,Good γ κ m S X->PSs X s (tSs S X c)
def an{P Q:Prop}(a:Pr P)(k:P->Pr Q):Pr Q:=match a with
 |some h=>k h.down
 |none=>AB
def ok{P:Prop}(h:P):Pr P:=AA ⟨h⟩
def ask(p:Prop)[Decidable p]:Pr p:=if h:p then AA ⟨h⟩else AB
def nst:AL->Bool
 |.Starred _ _=>AF
 |_=>AD
def zcU{a:AL}{es:List AL}{env:Az}(h:nst a=AD):starEach (a::es) env=(AF,eval a env)::starEach es env:=by
 cases a<;>first|rfl|cases h
def ycm(es:List AL):Bool:=es.all nst
theorem stars{pos:BZ}{env:Az}:∀{es:List AL},ycm es=AD->(backTo pos (starEach es env)).any (·.1)=AF
 |[],_=>rfl
 |a::es,h=>by
  erw[ycm,Ay,AI]at h;rw[zcU h.1];have:=stars (pos:=pos) (env:=env) (es:=es) h.2;simpa [backTo] using this
def nco:AL->Bool
 |.ListComp ..=>AF
 |.SetComp ..=>AF
 |.DictComp ..=>AF
 |_=>AD
theorem swp{a:AL}{t:Option AL}{l:Nat}{env:Az}(h:nco a=AD):swapsWith a t l env=pure false:=by
 cases a<;>first|rfl|cases h
def nse:AL->Bool
 |.Set ..=>AF
 |_=>AD
theorem fse{a:AL}{env:Az}(h:nse a=AD):∀x,foldedSetIterable a env x=pure x:=by
 cases a<;>first|exact λ_=>rfl|cases h
theorem nmk{op:E2}{a:AL}(h:nse a=AD):behindInMarks op a=false:=by
 cases a<;>first|rfl|cases h
def nsl:AL->Bool
 |.Slice ..=>AF
 |_=>AD
theorem pix{a:AL}(h:nsl a=AD):yaW a:=by
 cases a<;>first|exact λ_ _=>rfl|cases h
theorem nos{a:AL}(h:nsl a=AD):yb1 a:=pix h
def ntu:AL->Bool
 |.Tuple ..=>AF
 |_=>AD
def nte:AL->Bool
 |.UnaryOp ..=>AF
 |.BoolOp ..=>AF
 |.IfExp ..=>AF
 |.Compare ..=>AF
 |_=>AD
theorem itr{a:AL}{env:Az}(h:nte a=AD):∀whole,isTrue a env whole=(do let v <-whole;standAt a.pos;holding [v] (truthy v)):=by
 cases a<;>first|exact λ_=>rfl|cases h
def nca:AL->Bool
 |.Call ..=>AF
 |_=>AD
def zk9{a:AL}{f:AM}{env:Az}{w:FE AE}(h:nca a=AD):attributeBase a f env w=w:=by
 cases a<;>first|rfl|cases h
def mOp(op:De)(o:BOp):Pr (∀S X,OpR X (binaryOp op) (rT2 S X (yw o))):=
 match op,o with
 |.Add,.add=>ok (λ_ _=>ziK)
 |.Sub,.sub=>ok (λ_ _=>zjy)
 |.Mult,.mul=>ok (λ_ _=>zjk)
 |.FloorDiv,.fdiv=>ok (λ_ _=>zg1)
 |.Mod,.mod=>ok (λ_ _=>ziL)
 |.Pow,.pow=>ok (λ_ _=>ziF)
 |.LShift,.shl=>ok (λ_ _=>zjT)
 |.RShift,.shr=>ok (λ_ _=>zi8)
 |.BitAnd,.band=>ok (λ_ _=>zhg)
 |.BitOr,.bor=>ok (λ_ _=>zjX)
 |.BitXor,.bxor=>ok (λ_ _=>zhu)
 |_,_=>AB
def mCm(op:E2)(o:COp):Pr (∀m S X,yai m X.A->OpR X (compareOp op) (rT2 S X (yC o))):=
 match op,o with
 |.Eq,.eq=>ok (λ_ _ _ r=>zkm r.units)
 |.NotEq,.ne=>ok (λ_ _ _ r=>zj3 r.units)
 |.Lt,.lt=>ok (λ_ _ _ _=>zkw)
 |.Gt,.gt=>ok (λ_ _ _ _=>zkh)
 |.GtE,.ge=>ok (λ_ _ _ _=>zkA)
 |.Is,.is=>ok (λ_ _ _ _=>zkn)
 |.In,.isin=>ok (λ_ _ _ _=>zka)
 |_,_=>AB
def yc6(sc:Al)(x:AM):Bool:=match sc.names.lookup x with
 |some .local=>AD
 |some .cell=>AD
 |some .free=>AD
 |_=>AF
def zeh{sc:Al}{x:AM}(h:yc6 sc x=AD):Vis sc x:=by
 unfold yc6 at h;split at h
 .exact .inl ‹_›
 .exact .inr (.inl ‹_›)
 .exact .inr (.inr ‹_›)
 .cases h
def ycF(sc:Al)(x:AM):Bool:=match sc.names.lookup x with
 |some .local=>AD
 |some .cell=>AD
 |_=>AF
def zb8{sc:Al}{x:AM}(h:ycF sc x=AD):Loc sc x:=by
 unfold ycF at h;split at h
 .exact .inl ‹_›
 .exact .inr ‹_›
 .cases h
def pln(x:AM):Bool:=!(x==("__debug__":AM))&&!(x==("__classdict__":AM))&&!(x==("__name__":AM))
def zkC{x:AM}(h:pln x=AD):(x==("__debug__":AM))=false:=by
 erw[pln,AI,BI]at h;exact h.1.1
def zkM{x:AM}(h:pln x=AD):(x==("__classdict__":AM))=false:=by
 erw[pln,AI,BI]at h;exact h.1.2
def zkN{x:AM}(h:pln x=AD):x ≠ "__name__":=by
 erw[pln,AI,BI]at h;intro e;rw[e]at h;exact absurd h.2 ⋯
def hf(κ:Kx){P:Prop}(f:κ.h=AF->Pr P):Pr P:=if h:κ.h=AF then f h else AB
def glB(κ:Kx)(x:AM):Bool:=decide (κ.sc.names.lookup x=AA .globalImplicit)&&pln x
def zz{γ:Gs}{κ:Kx}{m:Nat}{S:Se}{X:Cx}(G:Good γ κ m S X){x:AM}(h:glB κ x=AD):Gl X x:=by
 erw[glB,AI,decide_eq_true_eq]at h;show X.env.scope.names.lookup x=_;rw[G.sc];exact h.1
def zab{κ:Kx}{x:AM}(h:glB κ x=AD):pln x=true:=by
 erw[glB,AI]at h;exact h.2
def setB(κ:Kx)(i:Nat)(x:AM):Bool:=decide (κ.N[i]?=AA x)&&decide κ.N.Nodup&&ycF κ.sc x&&(κ.own || decide (κ.sc.names.lookup x=AA .local))&&pln x
structure ycU(X:Cx)(i:Nat)(x:AM):Prop where
 d:X.N.Nodup
 i:X.N[i]?=AA x
 l:Loc X.env.scope x
 f:X.fn x=AD \/ X.env.scope.names.lookup x=AA .local
 p:pln x=AD
def zO{γ:Gs}{κ:Kx}{m:Nat}{S:Se}{X:Cx}(G:Good γ κ m S X){i:Nat}{x:AM}(h:setB κ i x=AD):ycU X i x:=by
 erw[setB,AI,CG,decide_eq_true_eq]at h;let⟨⟨⟨⟨h1,h2⟩,h3⟩,h4⟩,h5⟩:=h;refine⟨by rw[G.n];exact h2,by rw[G.n];exact h1,by rw[G.sc];exact zb8 h3,?_,h5⟩;rcases h4 with h4|h4
 .exact .inl ((G.own h4).2.1 x)
 .exact .inr (by rw[G.sc];exact h4)
def gFn(γ:Gs)(x:AM)(i:Nat):Pr (γ.g x=AA (.fn i)):=match h:γ.g x with
 |some (.fn j)=>if e:j=i then AA ⟨by subst e;rfl⟩else AB
 |_=>AB
section
variable {γ:Gs}{κ:Kx}{ca cb cc:Ce}{ces:Ces}
def yeV(v:PV)(e:AL):Pr (YE γ κ e (.cst v)):=
 match e with
 |.Constant (.int i) _ _=>match v with
  |.int j=>an (ask (i=j)) λh=>ok (λ_ _ _ _=>by cases h;exact ziP)
  |_=>AB
 |.Constant (.bool i) _ _=>match v with
  |.bl j=>an (ask (i=j)) λh=>ok (λ_ _ _ _=>by cases h;exact zkz)
  |_=>AB
 |.Constant .none _ _=>match v with
  |.non=>ok (λ_ _ _ _=>zjl)
  |_=>AB
 |.Constant (.str i) _ _=>match v with
  |.str j=>an (ask (i=j)) λh=>ok (λ_ _ _ _=>by cases h;exact zjZ)
  |_=>AB
 |_=>AB
def ygm(i:Nat)(e:AL):Pr (YE γ κ e (.var i)):=
 match e with
 |.Name x _=>an (ask (κ.N[i]?=AA x/\yc6 κ.sc x=AD/\pln x=AD)) λh=>ok (λ_ _ _ G=>zi0 (by rw[G.n];exact h.1) (by rw[G.sc];exact zeh h.2.1) (zkC h.2.2) (zkM h.2.2))
 |_=>AB
def yfL(o:BOp)(e:AL)(fa:∀x,Pr (YE γ κ x ca))(fb:∀x,Pr (YE γ κ x cb)):Pr (YE γ κ e (.bin o ca cb)):=
 match e with
 |.BinOp a op b _=>
  an (mOp op o) λho=>an (fa a) λha=>an (fb b) λhb=>ok (λm S X G=>zjt (ho S X) (ha m S X G) (hb m S X G))
 |_=>AB
def yf0(e:AL)(fa:∀x,Pr (YE γ κ x ca)):Pr (YE γ κ e (.not ca)):=
 match e with
 |.UnaryOp .Not a _=>
  an (fa a) λha=>ok (λm S X G=>ziS (ha m S X G))
 |_=>AB
def yeX(o:COp)(e:AL)(fa:∀x,Pr (YE γ κ x ca))(fb:∀x,Pr (YE γ κ x cb)):Pr (YE γ κ e (.cmp o ca cb)):=
 match e with
 |.Compare a [op] [b] _=>
  an (mCm op o) λho=>an (ask (nse b=AD)) λhs=>an (fa a) λha=>an (fb b) λhb=>ok (λm S X G=>ziT (ho _ S X G.room) (ha m S X G) (hb m S X G) (nmk hs))
 |_=>AB
def ydu(o:COp)(e:AL)(fa:∀x,Pr (YE γ κ x ca))(fb:∀x,Pr (YE γ κ x cb)):Pr (YT γ κ e (.cmp o ca cb)):=
 match e with
 |.Compare a [op] [b] _=>
  an (mCm op o) λho=>an (ask (nse b=AD)) λhs=>an (fa a) λha=>an (fb b) λhb=>ok (λm S X G=>ziM (ho _ S X G.room) (ha m S X G) (hb m S X G) (nmk hs))
 |_=>AB
theorem lmk{op op':E2}{b c:AL}(h:nse c=AD):lastMarks [op,op'] [b,c]=false:=nmk h
def yf3(o p:COp)(e:AL)(fa:∀x,Pr (YE γ κ x ca))(fb:∀x,Pr (YE γ κ x cb))(fc:∀x,Pr (YE γ κ x cc)):Pr (YE γ κ e (.chain o p ca cb cc)):=
 match e with
 |.Compare a [op,op'] [b,c] _=>
  an (mCm op o) λho=>an (mCm op' p) λhp=>an (ask (nse c=AD)) λhs=>an (fa a) λha=>an (fb b) λhb=>an (fc c) λhc=>ok (λm S X G=>zfT (ho _ S X G.room) (hp _ S X G.room) (ha m S X G) (hb m S X G) (hc m S X G) (lmk hs))
 |_=>AB
def ydT(o p:COp)(e:AL)(fa:∀x,Pr (YE γ κ x ca))(fb:∀x,Pr (YE γ κ x cb))(fc:∀x,Pr (YE γ κ x cc)):Pr (YT γ κ e (.chain o p ca cb cc)):=
 match e with
 |.Compare a [op,op'] [b,c] _=>
  an (mCm op o) λho=>an (mCm op' p) λhp=>an (ask (nse c=AD)) λhs=>an (fa a) λha=>an (fb b) λhb=>an (fc c) λhc=>ok (λm S X G=>zfS (ho _ S X G.room) (hp _ S X G.room) (ha m S X G) (hb m S X G) (hc m S X G) (lmk hs))
 |_=>AB
def yfx(e:AL)(fc:∀x,Pr (YT γ κ x cc))(fa:∀x,Pr (YE γ κ x ca))(fb:∀x,Pr (YE γ κ x cb)):Pr (YE γ κ e (.ite cc ca cb)):=
 match e with
 |.IfExp c a b _=>
  an (fc c) λhc=>an (fa a) λha=>an (fb b) λhb=>ok (λm S X G=>zj0 (hc m S X G) (ha m S X G) (hb m S X G))
 |_=>AB
def ye3(e:AL)(fa:∀x,Pr (YA γ κ x ces)):Pr (YE γ κ e (.tup ces)):=
 match e with
 |.Tuple es _ _=>
  an (fa es) λha=>ok (λm S X G=>zi7 (ha m S X G))
 |_=>AB
def ygo(e:AL)(fa:∀x,Pr (YA γ κ x ces)):Pr (YE γ κ e (.lst ces)):=
 match e with
 |.List es _=>
  an (fa es) λha=>ok (λm S X G=>zj1 (ha m S X G))
 |_=>AB
def ydH(e:AL)(fa:∀x,Pr (YA γ κ x ces)):Pr (YE γ κ e (.newl ces)):=
 match e with
 |.List es _=>
  an (fa es) λha=>ok (λm S X G=>zhN (ha m S X G))
 |_=>AB
def mIdx(e:AL)(fa:∀x,Pr (YE γ κ x ca))(fb:∀x,Pr (YE γ κ x cb)):Pr (YE γ κ e (.idx ca cb)):=
 match e with
 |.Subscript a b _=>
  an (ask (nsl b=AD)) λhs=>an (fa a) λha=>an (fb b) λhb=>ok (λm S X G=>zjR (ha m S X G) (hb m S X G) (pix hs))
 |_=>AB
def yfy(e:AL)(fa:∀x,Pr (YE γ κ x ca))(fb:∀x,Pr (YE γ κ x cb)):Pr (YE γ κ e (.dgt ca cb)):=
 match e with
 |.Subscript a b _=>
  an (ask (nsl b=AD)) λhs=>an (fa a) λha=>an (fb b) λhb=>ok (λm S X G=>zih (zgq G.room) (ha m S X G) (hb m S X G) (nos hs))
 |_=>AB
def yeW(e:AL)(fa:∀x,Pr (YE γ κ x ca))(fb:∀x,Pr (YO γ κ x cb))(fc:∀x,Pr (YO γ κ x cc)):Pr (YE γ κ e (.slc ca cb cc)):=
 match e with
 |.Subscript a (.Slice l h AB _) _=>
  an (fa a) λha=>an (fb l) λhb=>an (fc h) λhc=>ok (λm S X G=>zjE (ha m S X G) (hb m S X G) (hc m S X G))
 |_=>AB
def yeE(c:Ce)(e:Option AL)(fa:∀x,Pr (YE γ κ x c)):Pr (YO γ κ e c):=
 match e with
 |none=>match c with
  |.cst .non=>ok (λ_ _ _ _=>zhk)
  |_=>AB
 |some a=>
  an (fa a) λha=>ok (λm S X G=>zh0 (ha m S X G))
inductive Fs(γ:Gs)(κ:Kx):Ces->Type where
 |nil:Fs γ κ .nil
 |cons {c:Ce} {cs:Ces} (f:∀x,Pr (YE γ κ x c)) (r:Fs γ κ cs):Fs γ κ (.cons c cs)
def yaM:{ces:Ces}->Fs γ κ ces->(es:List AL)->Pr (YA γ κ es ces)
 |_,.nil,[]=>ok λ_ _ _ _=>zek
 |_,.cons f r,a::es=>an (ask (nst a=AD)) λhs=>an (f a) λha=>an (yaM r es) λhr=>ok λm S X G=>za9 (ha m S X G) (hr m S X G) (zcU hs)
 |_,_,_=>AB
def yef(p2:BZ):{ces:Ces}->Fs γ κ ces->(ks:List AM)->(eks:List (Option AL))->(es:List AL)->Pr (∀m S X,Good γ κ m S X->PPs X p2 eks es (trE S X.K ks ces))
 |_,.nil,[],[],[]=>ok λ_ _ _ _=>zjM
 |_,.cons f r,x::ks,AA (.Constant (.str y) _ _)::eks,e::es=>an (ask (y=x)) λh=>an (f e) λhe=>an (yef p2 r ks eks es) λhr=>ok λm S X G=>by
  subst h;exact zhn (he m S X G) (hr m S X G)
 |_,_,_,_,_=>AB
def ydr(ks:List AM)(F:Fs γ κ ces)(e:AL)(fb:∀x,Pr (YE γ κ x cb)):Pr (YE γ κ e (.dsub ks ces cb)):=
 match e with
 |.Subscript (.Dict eks es p2) b _=>an (ask (nsl b=AD/\eks.all (·.isSome)=AD/\eks.length=es.length/\eks≠[]/\eks.length<=15)) λhs=>an (yef p2 F ks eks es) λhp=>an (fb b) λhb=>ok λm S X G=>
  zhz (zgq G.room) (hp m S X G) (hb m S X G) hs.2.1 hs.2.2.1 hs.2.2.2.1 hs.2.2.2.2 (nos hs.1)
 |_=>AB
structure Sp2(γ:Gs)(κ:Kx)(ces:Ces)(np:Nat) where
 c1:Ces
 c2:Ces
 f1:Fs γ κ c1
 f2:Fs γ κ c2
 h:yca c1 c2=ces
 l:yck c1=np
def ybQ:(np:Nat)->{ces:Ces}->Fs γ κ ces->Option (Sp2 γ κ ces np)
 |0,ces,F=>AA ⟨.nil,ces,.nil,F,rfl,rfl⟩
 |n+1,_,.cons f r=>match ybQ n r with
  |some s=>AA ⟨.cons _ s.c1,s.c2,.cons f s.f1,s.f2,by rw[yca,s.h],by rw[yck,s.l]⟩
  |none=>AB
 |_,_,_=>AB
structure It2(γ:Gs)(κ:Kx)(ces:Ces)(sh:List (Option Int))(kws:List CU) where
 it:List (Sum Ce Int)
 h:yaa it=ces
 s:it.map shC=sh
 k:∀m S X,Good γ κ m S X->PK X kws (tK S X it)
def ybk:(sh:List (Option Int))->{ces:Ces}->Fs γ κ ces->(kws:List CU)->Option (It2 γ κ ces sh kws)
 |[],_,.nil,[]=>AA ⟨[],rfl,rfl,λ_ _ _ _=>zi5⟩
 |none::sh,.cons c _,.cons f r,⟨_,e,_⟩ :: kws=>match f e,ybk sh r kws with
  |some h,AA q=>AA ⟨.inl c::q.it,by rw[yaa,q.h],by rw[AS,q.s];rfl,λm S X G=>zj2 (h.down m S X G) (q.k m S X G)⟩
  |_,_=>AB
 |some i::sh,.cons (.cst (.int j)) _,.cons _ r,kws=>if e:i=j then match ybk sh r kws with
  |some q=>AA ⟨.inr i::q.it,by rw[yaa,q.h,e],by rw[AS,q.s];rfl,λm S X G=>zkr (q.k m S X G)⟩
  |none=>AB
  else AB
 |_,_,_,_=>AB
def kwN:List CU->List AM
 |[]=>[]
 |⟨AA x,_,_⟩ :: r=>x::kwN r
 |_::r=>kwN r
def kwB:List CU->Bool
 |[]=>AD
 |⟨AA _,_,_⟩ :: r=>kwB r
 |_=>AF
def ziI{pos:BZ}{env:Az}:∀{kws:List CU},kwB kws=AD->(backToKw pos (keywordEach kws env)).all (·.1.isSome)=AD/\(backToKw pos (keywordEach kws env)).filterMap (·.1)=kwN kws/\(backToKw pos (keywordEach kws env)).any (·.1.isNone)=AF
 |[],_=>⟨rfl,rfl,rfl⟩
 |⟨AA x,e,_⟩ :: r,h=>by
  let⟨h1,h2,h3⟩:=ziI (pos:=pos) (env:=env) (kws:=r) h;erw[backToKw]at h1 h2 h3 ⊢;erw[keywordEach,AS,Ay,Bu,BX,h1,h2,h3,kwN];simp
def yfZ(hκ:κ.h=AF)(i:Nat)(F:Fs γ κ ces)(e:AL):Pr (YE γ κ e (.call i ces)):=
 match e with
 |.Call (.Name x _) [] [] _=>match F with
  |.nil=>an (ask (glB κ x=AD)) λhg=>an (gFn γ x i) λhf=>ok λm S X G=>by
   let⟨f,fd,ps,h1,h2,h3,h4⟩:=G.glo.F x i hf;exact zf0 h1 ((G.rm hκ).mono (Ca m)) (zz G hg) h2 h3 h4 (zkC (zab hg))
  |_=>AB
 |.Call (.Name x _) (a::es) kws _=>an (ask (glB κ x=AD/\nst a=AD/\ycm es=AD)) λhg=>
  match hx:γ.g x with
  |some (.fn j)=>match kws with
   |[]=>an (ask (j=i)) λhj=>an (yaM F (a::es)) λha=>ok λm S X G=>by
    subst hj;let⟨f,fd,ps,h1,h2,h3,h4⟩:=G.glo.F x j hx;exact zgR h1 ((G.rm hκ).mono (Ca m)) (zz G hg.1) h2 h3 h4 (ha m S X G) (zkC (zab hg.1)) (zcU hg.2.1) (stars hg.2.2)
   |_=>AB
  |some (.fnD j)=>match hk:γ.kb j (es.length+1) (kwN kws)with
   |none=>AB
   |some sh=>match ybQ (es.length+1) F with
    |none=>AB
    |some s=>match ybk sh s.f2 kws with
     |none=>AB
     |some q=>an (ask (kwB kws=AD/\j=i)) λhw=>an (yaM s.f1 (a::es)) λha=>ok λm S X G=>by
      let⟨hw,rfl⟩:=hw;let⟨f,fd,ps,h1,h2,h3,h4⟩:=G.glo.Q x j _ _ sh hx hk;rw[<-s.h,<-q.h];rw[<-q.s]at h4;have w:=λ{pos}=>ziI (pos:=pos) (env:=X.env) hw;exact zfj h1 ((G.rm hκ).mono (Ca m)) (zz G hg.1) h2 h3 h4 s.l (ha m S X G) (q.k m S X G) w.1 w.2.1 (zkC (zab hg.1)) (zcU hg.2.1) (by
       rw[w.2.2,Fc];exact stars (es:=a::es) (by erw[ycm,Ay,hg.2.1,Fh];exact hg.2.2))
  |_=>AB
 |_=>AB
abbrev yd5(b:Blt)(x:AM):Prop:=∀S X,X.calm=AD->(∃id,yV X (.builtin id) (rB S X b)/\bootBuiltins x=AA (.builtin id)) \/ ∃T,yV X (.type T) (rB S X b)/\bootBuiltins x=AA (.type T)
def yfc(b:Blt)(x:AM):Pr (yd5 b x):=
 match b with
 |.len=>an (ask (x="len")) λh=>ok λ_ _ _=>.inl ⟨_,ziE,h ▸ zia⟩
 |.int=>an (ask (x="int")) λh=>ok λ_ _ _=>.inr ⟨_,zjz,h ▸ zge⟩
 |.min=>an (ask (x="min")) λh=>ok λ_ _ c=>.inl ⟨_,zjf c,h ▸ ziG⟩
 |.tuple=>an (ask (x="tuple")) λh=>ok λ_ _ _=>.inr ⟨_,zfO,h ▸ zcY⟩
 |.list=>an (ask (x="list")) λh=>ok λ_ _ _=>.inr ⟨_,zh7,h ▸ zh4⟩
 |_=>AB
def yf7(b:Blt)(F:Fs γ κ ces)(e:AL):Pr (YE γ κ e (.blt b ces)):=
 match e with
 |.Call (.Name x _) (a::es) [] _=>hf κ λhκ=>an (ask (glB κ x=AD/\nst a=AD/\ycm es=AD/\γ.b x=AD)) λhg=>an (yfc b x) λhb=>an (yaM F (a::es)) λha=>ok λm S X G=>by
  rcases hb S X (G.calm hκ)with⟨id,h1,h2⟩|⟨T,h1,h2⟩
  .exact ziy h1 (zz G hg.1) (G.glo.B x hg.2.2.2) h2 (ha m S X G) (zkN (zab hg.1)) (zkC (zab hg.1)) (zcU hg.2.1) (stars hg.2.2.1)
  .exact zh5 h1 (zz G hg.1) (G.glo.B x hg.2.2.2) h2 (ha m S X G) (zkN (zab hg.1)) (zkC (zab hg.1)) (zcU hg.2.1) (stars hg.2.2.1)
 |_=>AB
def yfj(b:Blt)(F:Fs γ κ ces)(e:AL):Pr (YE γ κ e (.blt b ces)):=
 match b with
 |b=>yf7 b F e
def tyB(t:Ty)(x:AM):Pr (ycu t=AD/\bootBuiltins x=AA (.type (tyN t))):=
 match t with
 |.int=>an (ask (x="int")) λh=>ok ⟨rfl,h ▸ zge⟩
 |.bool=>an (ask (x="bool")) λh=>ok ⟨rfl,h ▸ zg7⟩
 |.tuple=>an (ask (x="tuple")) λh=>ok ⟨rfl,h ▸ zcY⟩
 |_=>AB
def yfR(ts:List Ty)(e:AL)(fa:∀x,Pr (YE γ κ x ca)):Pr (YE γ κ e (.isi ca ts)):=
 match ts,e with
 |[t],.Call (.Name n _) [a,.Name x _] [] _=>an (ask (n="isinstance"/\glB κ n=AD/\γ.b n=AD/\glB κ x=AD/\γ.b x=AD/\γ.t t=AD/\nst a=AD)) λh=>an (tyB t x) λht=>an (fa a) λha=>ok λm S X G=>by
  let⟨rfl,h1,h2,h3,h4,h5,h6⟩:=h;exact zi4 (G.glo.T t h5) ht.1 (zz G h1) (G.glo.B _ h2) (zz G h3) (G.glo.B _ h4) ht.2 (ha m S X G) (zkN (zab h3)) (zkC (zab h3)) (zcU h6) rfl
 |_,_=>AB
mutual
noncomputable def ydv:(a b:PV)->Pr (a=b)
 |.non,.non=>ok rfl
 |.bl a,.bl b=>an (ask (a=b)) λh=>ok (by rw[h])
 |.int a,.int b=>an (ask (a=b)) λh=>ok (by rw[h])
 |.str a,.str b=>an (ask (a=b)) λh=>ok (by rw[h])
 |.tp k a,.tp j b=>an (ask (k=j)) λh=>an (ycc a b) λg=>ok (by rw[h,g])
 |.lst a,.lst b=>an (ycc a b) λg=>ok (by rw[g])
 |_,_=>AB
noncomputable def ycc:(a b:List PV)->Pr (a=b)
 |[],[]=>ok rfl
 |a::x,b::y=>an (ydv a b) λh=>an (ycc x y) λg=>ok (by rw[h,g])
 |_,_=>AB
end
def eqD:(a b:List (AM×PV))->Pr (a=b)
 |[],[]=>ok rfl
 |(k,a)::x,(j,b)::y=>an (ask (k=j)) λe=>an (ydv a b) λh=>an (eqD x y) λg=>ok (by rw[e,h,g])
 |_,_=>AB
def yfm(v:PV)(e:AL):Pr (YE γ κ e (.cst v)):=
 match e with
 |.Name x _=>match h:γ.g x with
  |some (.cst u)=>an (ask (glB κ x=AD)) λhg=>an (ydv u v) λhv=>ok λm S X G=>by
   subst hv;rcases G.glo.C x u h with q|⟨i,rfl,q⟩
   .exact zkx (zz G hg) q (zkC (zab hg))
   .exact zjV (zz G hg) q (zkC (zab hg))
  |some (.fn i)=>match v with
   |.fnc j=>an (ask (glB κ x=AD/\γ.fv x i=AD/\i=j)) λhg=>ok λm S X G=>by
    let⟨h1,h2,rfl⟩:=hg;exact zeQ (zz G h1) (G.glo.V x i h h2) (λB φ H=>by erw[yc]) (zkC (zab h1))
   |_=>AB
  |_=>AB
 |e=>yeV v e
def zla{pos:BZ}{env:Az}{b:AL}(h:nst b=AD):((backTo pos (starEach [b] env)).all (λx=>!x.1)&&(backToKw pos (keywordEach [] env)).all (λx=>x.1.isSome)&&decide (([b]:List AL).length+([]:List CU).length+(if ([]:List CU).isEmpty then 0 else 1)<30))=true:=by
 rw[zcU h];rfl
def yeZ(k:Mth)(F:Fs γ κ ces)(e:AL)(fa:∀x,Pr (YE γ κ x ca)):Pr (YE γ κ e (.mth k ca ces)):=
 match k,e,F with
 |.split,.Call (.Attribute a n ap) [b] [] pos,.cons fb .nil=>an (ask (n="split"/\nca a=AD/\nst b=AD/\(ap.endLine==pos.line)=AD)) λh=>an (fa a) λha=>an (fb b) λhb=>ok λm S X G=>by
  let⟨rfl,h1,h2,h3⟩:=h;exact zfP (ha m S X G) (hb m S X G) (zcU h2) (zk9 h1) h3 (zla h2) rfl
 |_,_,_=>AB
def ye7(e:AL)(fa:∀x,Pr (YE γ κ x ca))(fb:∀x,Pr (YE γ κ x cb)):Pr (YE γ κ e (.nin ca cb)):=
 match e with
 |.Compare a [.NotIn] [b] _=>an (ask (behindInMarks .NotIn b=AF)) λh=>an (fa a) λha=>an (fb b) λhb=>ok λm S X G=>ziH G.room.units (ha m S X G) (hb m S X G) h
 |_=>AB
def ydK(e:AL)(fa:∀x,Pr (YE γ κ x ca))(fb:∀x,Pr (YE γ κ x cb)):Pr (YT γ κ e (.nin ca cb)):=
 match e with
 |.Compare a [.NotIn] [b] _=>an (ask (behindInMarks .NotIn b=AF)) λh=>an (fa a) λha=>an (fb b) λhb=>ok λm S X G=>ziX G.room.units (ha m S X G) (hb m S X G) h
 |_=>AB
def mJ:(ces:Ces)->Fs γ κ ces->(es:List AL)->Pr (∀m S X,Good γ κ m S X->PJ X es (tJ S X ces))
 |.nil,_,[]=>ok λ_ _ _ _=>ziZ
 |.cons (.cst (.str y)) cs,.cons _ r,.Constant (.str z) _ _::es=>an (ask (z=y)) λhz=>an (mJ cs r es) λhr=>ok λm S X G=>by
  subst hz;exact zdN zic (hr m S X G)
 |.cons _ cs,.cons f r,.FormattedValue e k AB _::es=>an (ask (k=-1)) λhk=>an (f e) λh=>an (mJ cs r es) λhr=>ok λm S X G=>by
  subst hk;exact zdN (zi1 (h m S X G)) (hr m S X G)
 |_,_,_=>AB
def ye8(F:Fs γ κ ces)(e:AL):Pr (YE γ κ e (.fst ces)):=
 match e with
 |.JoinedStr (v1::v2::rest) _=>an (mJ ces F (v1::v2::rest)) λh=>ok λm S X G=>zif (h m S X G)
 |_=>AB
end
structure Ev(γ:Gs)(c:Ce) where
 e:∀κ x,Pr (YE γ κ x c)
 t:∀κ x,Pr (YT γ κ x c)
 w:∀κ op l pos,Pr (YW γ κ (.BoolOp op l pos) c)
section
variable {γ:Gs}{ca cb cc:Ce}
def w1{c:Ce}(t:∀κ x,Pr (YT γ κ x c))(κ:Kx)(op:GA)(l:List AL)(pos:BZ):Pr (YW γ κ (.BoolOp op l pos) c):=
 match op,l with
 |.And,[a]=>an (t κ a) λh=>ok λm S X G=>zgZ (h m S X G)
 |.Or,[a]=>an (t κ a) λh=>ok λm S X G=>ziD (h m S X G)
 |_,_=>AB
def plT{c:Ce}(e:∀κ x,Pr (YE γ κ x c))(κ:Kx)(x:AL):Pr (YT γ κ x c):=an (ask (nte x=AD)) λh=>an (e κ x) λhe=>ok λm S X G=>zjs (he m S X G) (itr h)
def plain{c:Ce}(e:∀κ x,Pr (YE γ κ x c)):Ev γ c:=⟨e,plT e,w1 (plT e)⟩
def ybD{c:Ce}(e:∀κ x,Pr (YE γ κ x c))(t:∀κ x,Pr (YT γ κ x c)):Ev γ c:=⟨e,t,w1 t⟩
def yfq(A:Ev γ ca)(κ:Kx)(e:AL):Pr (YT γ κ e (.not ca)):=
 match e with
 |.UnaryOp .Not a _=>an (A.t κ a) λh=>ok λm S X G=>zi3 (h m S X G)
 |_=>AB
def yf5(A:Ev γ ca)(B:Ev γ cb)(κ:Kx)(e:AL):Pr (YE γ κ e (.and ca cb)):=
 match e with
 |.BoolOp .And (a::b::[]) _=>an (A.e κ a) λha=>an (B.e κ b) λhb=>ok λm S X G=>zgt (ha m S X G) (zgD (hb m S X G))
 |.BoolOp .And (a::b::c::r) p=>an (A.e κ a) λha=>an (B.e κ (.BoolOp .And (b::c::r) p)) λhb=>ok λm S X G=>zgt (ha m S X G) (hb m S X G)
 |_=>AB
def orE(A:Ev γ ca)(B:Ev γ cb)(κ:Kx)(e:AL):Pr (YE γ κ e (.or ca cb)):=
 match e with
 |.BoolOp .Or (a::b::[]) _=>an (A.e κ a) λha=>an (B.e κ b) λhb=>ok λm S X G=>zjx (ha m S X G) (zgD (hb m S X G))
 |.BoolOp .Or (a::b::c::r) p=>an (A.e κ a) λha=>an (B.e κ (.BoolOp .Or (b::c::r) p)) λhb=>ok λm S X G=>zjx (ha m S X G) (hb m S X G)
 |_=>AB
def ydA(A:Ev γ ca)(B:Ev γ cb)(κ:Kx)(op:GA)(l:List AL)(pos:BZ):Pr (YW γ κ (.BoolOp op l pos) (.and ca cb)):=
 match op,l with
 |.And,a::b::r=>an (A.t κ a) λha=>an (B.w κ .And (b::r) pos) λhb=>ok λm S X G=>zjo (ha m S X G) (hb m S X G)
 |_,_=>AB
def orW(A:Ev γ ca)(B:Ev γ cb)(κ:Kx)(op:GA)(l:List AL)(pos:BZ):Pr (YW γ κ (.BoolOp op l pos) (.or ca cb)):=
 match op,l with
 |.Or,a::b::r=>an (A.t κ a) λha=>an (B.w κ .Or (b::r) pos) λhb=>ok λm S X G=>zkk (ha m S X G) (hb m S X G)
 |_,_=>AB
def ptW{c:Ce}(w:∀κ op l pos,Pr (YW γ κ (.BoolOp op l pos) c))(κ:Kx)(e:AL):Pr (YT γ κ e c):=
 match e with
 |.BoolOp op l p=>an (w κ op l p) λh=>ok λm S X G=>PW.pt (h m S X G)
 |_=>AB
def yel{c:Ce}(t:∀κ x,Pr (YT γ κ x c))(w:∀κ op l pos,Pr (YW γ κ (.BoolOp op l pos) c))(κ:Kx)(op:GA)(l:List AL)(pos:BZ):Pr (YW γ κ (.BoolOp op l pos) c):=
 match l with
 |[a]=>w1 t κ op [a] pos
 |l=>w κ op l pos
def yd7(A:Ev γ ca)(B:Ev γ cb):Ev γ (.and ca cb):=⟨yf5 A B,ptW (ydA A B),yel (ptW (ydA A B)) (ydA A B)⟩
def yfr(A:Ev γ ca)(B:Ev γ cb):Ev γ (.or ca cb):=⟨orE A B,ptW (orW A B),yel (ptW (orW A B)) (orW A B)⟩
end
abbrev YI(γ:Gs)(κ:Kx)(tg l:AL)(c:Cit):Prop:=∀m S X,Good γ κ m S X->PI X tg l (tI S X c)
abbrev YG(γ:Gs)(κ:Kx)(tg:AL)(c:Tg):Prop:=∀m S X,Good γ κ m S X->PG X tg (tG S X c)
section
variable {γ:Gs}{κ:Kx}{ca cb cc ce:Ce}{ci:Cit}
def ye9(e:∀x,Pr (YE γ κ x ca))(tg l:AL):Pr (YI γ κ tg l (.seq ca)):=an (e l) λh=>ok λm S X G=>zjA (h m S X G)
def iR1(fa:∀x,Pr (YE γ κ x ca))(tg l:AL):Pr (YI γ κ tg l (.range1 ca)):=
 match l with
 |.Call (.Name x _) [a] [] _=>an (ask (x="range"/\glB κ x=AD/\γ.b x=AD/\nst a=AD)) λh=>an (fa a) λha=>ok λm S X G=>by
  let⟨rfl,h1,h2,h3⟩:=h;exact zem (zz G h1) (G.glo.B _ h2) (ha m S X G) (zcU h3)
 |_=>AB
def yd0(fa:∀x,Pr (YE γ κ x ca))(tg l:AL):Pr (YI γ κ tg l (.enum ca)):=
 match tg,l with
 |.Tuple _ _ _,.Call (.Name x _) [a] [] _=>an (ask (x="enumerate"/\glB κ x=AD/\γ.b x=AD/\nst a=AD)) λh=>an (fa a) λha=>ok λm S X G=>by
  let⟨rfl,h1,h2,h3⟩:=h;exact zho (zz G h1) (G.glo.B _ h2) (ha m S X G) (zcU h3)
 |_,_=>AB
def gNm(κ:Kx):(l:List Nat)->(es:List AL)->Pr (∀m S X,Good γ κ m S X->PGs X es (gNs l)/\(assignEach es X.env).length=l.length/\(assignEach es X.env).findIdx? (·.1)=AB)
 |[],[]=>ok λ_ _ _ _=>⟨zdO,rfl,rfl⟩
 |i::l,.Name x _::es=>an (ask (setB κ i x=AD)) λh=>an (gNm κ l es) λhr=>ok λm S X G=>by
  have s:=zO G h;let⟨h1,h2,h3⟩:=hr m S X G;refine⟨zcD s.d s.i s.l h1 s.f,?_,?_⟩
  .simp only[assignEach,Am,h2]
  .simp only[assignEach,Ef,h3];rfl
 |_,_=>AB
def mTg(ct:Tg)(tg:AL):Pr (YG γ κ tg ct):=
 match ct,tg with
 |.n i,.Name x _=>an (ask (setB κ i x=AD)) λh=>ok λm S X G=>let s:=zO G h;zd3 s.d s.i s.l s.f
 |.t l,.Tuple es _ _=>hf κ λhκ=>an (gNm κ l es) λh=>ok λm S X G=>zgj (G.calm hκ) (h m S X G).1 (h m S X G).2.1 (h m S X G).2.2
 |_,_=>AB
def tgN:AL->List AM
 |.Name x _=>[x]
 |.Tuple es _ _=>es.filterMap fun
  |.Name x _=>AA x
  |_=>AB
 |_=>[]
def ycA(N:List AM)(sl:List (Option Nat))(tg:AL):List Str:=tgN tg++(sl.drop (tgN tg).length).filterMap λo=>o.bind λj=>N[j]?
def yX(sc so:Al):Scope:={sc with names:=sc.names.map λ(n,k)=>if (k==Br&&so.kind==.function&&so.names.lookup n==AA .cell)then(n,Db)else(n,k)}
def yS(N:List AM)(so sc:Al)(NC:List AM)(sl:List (Option Nat)):Bool:=
 decide (sc.kind=.function)&&(sc.names.all λy=>y.2 != .local || decide (sc.names.lookup y.1=AA .local))&&(sc.names.all λy=>y.2 != .cell)&&(sc.names.all λy=>y.2 != .free || decide (so.names.lookup y.1=AA .cell)) &&
  ((NC.zip sl).all λp=>p.2.all λj=>decide (N[j]?=AA p.1/\sc.names.lookup p.1=AA .free))&&decide (sl.length=NC.length)
def zc1{X:Cx}{sc:Al}{NC:List AM}{sl:List (Option Nat)}(h:yS X.N X.env.scope sc NC sl=AD):yJ X sc NC sl:=by
 erw[yS,AI,decide_eq_true_eq,Ad,CG,bne_iff_ne,ne_eq]at h;let⟨⟨⟨⟨⟨h1,h2⟩,h3⟩,h4⟩,h5⟩,h6⟩:=h;exact zk3 _ _ rfl rfl h1 (λy hy e=>(h2 y hy).resolve_left λz=>z e) h3 (λy hy e=>(h4 y hy).resolve_left λz=>z e) (λp hp=>by simpa using h5 p hp) h6
theorem Good.comp{m:Nat}{S:Se}{X:Cx}(G:Good γ κ m S X)(sc:Al)(NC:List AM)(j:CI):Good γ ⟨NC,yX sc κ.sc,AF,κ.h⟩ m S (cxC X sc NC j):=by
 refine⟨rfl,?_,G.calm,G.room,G.hd,(λh=>nomatch h),(λh=>nomatch h),⟨G.glo.F,G.glo.Q,G.glo.C,G.glo.D,G.glo.E,G.glo.N,G.glo.B,G.glo.T,G.glo.A,G.glo.M,λy D h=>let ⟨fa,fdd,ps,M,d⟩:=G.glo.K y D h;⟨fa,fdd,ps,⟨M.F,M.kp,M.b⟩,d⟩,G.glo.V,G.glo.I,G.glo.L,G.glo.H,G.glo.Z⟩⟩;show relabel sc X.env=_;rw[<-G.sc];rfl
def yfp(c:Ce)(f:∀x,Pr (YT γ κ x c))(ifs:List AL):Pr (∀m S X,Good γ κ m S X->PTs X ifs (tT0 S X.K c)):=
 match ifs with
 |[]=>match c with
  |.cst (.bl AD)=>ok λ_ _ _ _=>zff
  |_=>AB
 |[a]=>an (f a) λh=>ok λm S X G=>zhh rfl (h m S X G)
 |_=>AB
structure yb0(γ:Gs)(κ:Kx)(sl:List (Option Nat))(ct:Tg)(ci:Cit)(cc ce:Ce)(elt tg it:AL)(ifs:List AL)(sc:Al):Prop where
 q:∀m S X,Good γ κ m S X->∃NC,yJ X sc NC sl/\PI X tg it (tI S X ci)/\(∀j,PG (cxC X sc NC j) tg (tG0 S X.K ct))/\(∀j,PTs (cxC X sc NC j) ifs (tT0 S X.K cc))/\∀j,PE (cxC X sc NC j) elt (tE0 S X.K ce)
 f:yt ct sl=AD
 s:nse it=AD
def mCo(sl:List (Option Nat))(ct:Tg)(fi:∀tg l,Pr (YI γ κ tg l ci))(C:Ev γ cc)(E:Ev γ ce)(elt tg it:AL)(ifs:List AL)(sc:Al):Pr (yb0 γ κ sl ct ci cc ce elt tg it ifs sc):=
 an (ask (yS κ.N κ.sc sc (ycA κ.N sl tg) sl=AD/\yt ct sl=AD/\nse it=AD)) λh=>an (fi tg it) λhi=>an (mTg (γ:=γ) (κ:=⟨ycA κ.N sl tg,yX sc κ.sc,AF,κ.h⟩) ct tg) λhg=>
  an (yfp (γ:=γ) (κ:=⟨ycA κ.N sl tg,yX sc κ.sc,AF,κ.h⟩) cc (C.t _) ifs) λht=>an (E.e ⟨ycA κ.N sl tg,yX sc κ.sc,AF,κ.h⟩ elt) λhe=>ok ⟨λm S X G=>⟨ycA κ.N sl tg,by
   rw[<-G.n,<-G.sc]at h;rw[<-G.n];exact zc1 h.1,hi m S X G,λj=>zY rfl (hg m S _ (G.comp sc _ j)),λj=>ht m S _ (G.comp sc _ j),λj=>zag rfl (he m S _ (G.comp sc _ j))⟩,h.2.1,h.2.2⟩
def ydQ(sl:List (Option Nat))(ct:Tg)(fi:∀tg l,Pr (YI γ κ tg l ci))(C:Ev γ cc)(E:Ev γ ce)(e:AL):Pr (YE γ κ e (.comp sl ct ci cc ce)):=
 match e with
 |.ListComp elt [⟨tg,it,ifs,0⟩] sc _=>hf κ λhκ=>an (mCo sl ct fi C E elt tg it ifs sc) λh=>ok λm S X G=>by
  let⟨NC,h1,h2,h3,h4,h5⟩:=h.q m S X G;exact zg3 (G.calm hκ) h1 h.f h2 h3 h4 h5 (fse h.s)
 |_=>AB
end
section
variable {γ:Gs}{κ:Kx}{ca ce ck cv m:Ce}{ci:Cit}{ct:Tg}
theorem Good.compL{n:Nat}{S:Se}{X:Cx}(G:Good γ κ n S X)(sc:Al)(NC:List AM)(own:AG->List (AM×AG))(fn:AM->Bool)(j:CI):Good γ ⟨NC,yX sc κ.sc,AF,κ.h⟩ n S (cxL X sc NC own fn j):=by
 refine⟨rfl,?_,G.calm,G.room,G.hd,(λh=>nomatch h),(λh=>nomatch h),⟨G.glo.F,G.glo.Q,G.glo.C,G.glo.D,G.glo.E,G.glo.N,G.glo.B,G.glo.T,G.glo.A,G.glo.M,λy D h=>let ⟨fa,fdd,ps,M,d⟩:=G.glo.K y D h;⟨fa,fdd,ps,⟨M.F,M.kp,M.b⟩,d⟩,G.glo.V,G.glo.I,G.glo.L,G.glo.H,G.glo.Z⟩⟩;show relabel sc X.env=_;rw[<-G.sc];rfl
def yc9(fb:AM->Bool)(κ:Kx)(i:Nat)(x:AM):Bool:=decide (κ.N[i]?=AA x)&&decide κ.N.Nodup&&ycF κ.sc x&&(fb x || decide (κ.sc.names.lookup x=AA .local))&&pln x
def ze6{n:Nat}{S:Se}{X:Cx}{fb:AM->Bool}(G:Good γ κ n S X)(hf:∀x,fb x=AD->X.fn x=AD){i:Nat}{x:AM}(h:yc9 fb κ i x=AD):ycU X i x:=by
 erw[yc9,AI,CG,decide_eq_true_eq]at h;let⟨⟨⟨⟨h1,h2⟩,h3⟩,h4⟩,h5⟩:=h;exact⟨by rw[G.n];exact h2,by rw[G.n];exact h1,by rw[G.sc];exact zb8 h3,h4.imp (hf x) λh4=>by rw[G.sc];exact h4,h5⟩
def yey(fb:AM->Bool)(κ:Kx):(l:List Nat)->(es:List AL)->Pr (∀n S X,Good γ κ n S X->(∀x,fb x=AD->X.fn x=AD)->PGs X es (gNs l)/\(assignEach es X.env).length=l.length/\(assignEach es X.env).findIdx? (·.1)=AB)
 |[],[]=>ok λ_ _ _ _ _=>⟨zdO,rfl,rfl⟩
 |i::l,.Name x _::es=>an (ask (yc9 fb κ i x=AD)) λh=>an (yey fb κ l es) λhr=>ok λn S X G F=>by
  have s:=ze6 G F h;let⟨h1,h2,h3⟩:=hr n S X G F;refine⟨zcD s.d s.i s.l h1 s.f,?_,?_⟩
  .simp only[assignEach,Am,h2]
  .simp only[assignEach,Ef,h3];rfl
 |_,_=>AB
def ycp(fb:AM->Bool)(ct:Tg)(tg:AL):Pr (∀n S X,Good γ κ n S X->(∀x,fb x=AD->X.fn x=AD)->PG X tg (tG S X ct)):=
 match ct,tg with
 |.n i,.Name x _=>an (ask (yc9 fb κ i x=AD)) λh=>ok λn S X G F=>let s:=ze6 G F h;zd3 s.d s.i s.l s.f
 |.t l,.Tuple es _ _=>hf κ λhκ=>an (yey fb κ l es) λh=>ok λn S X G F=>zgj (G.calm hκ) (h n S X G F).1 (h n S X G F).2.1 (h n S X G F).2.2
 |_,_=>AB
abbrev YID(γ:Gs)(κ:Kx)(tg l:AL)(c:Cit):Prop:=∀n S X,Good γ κ n S X->∀D,PI X tg l (tID S X c D)
def ydp(e:∀x,Pr (YE γ κ x ca))(tg l:AL):Pr (YID γ κ tg l (.seq ca)):=an (e l) λh=>ok λn S X G D=>zgN (h n S X G)
def yfH(fa:∀x,Pr (YE γ κ x ca))(tg l:AL):Pr (YID γ κ tg l (.range1 ca)):=
 match l with
 |.Call (.Name x _) [a] [] _=>an (ask (x="range"/\glB κ x=AD/\γ.b x=AD/\nst a=AD)) λh=>an (fa a) λha=>ok λn S X G D=>by
  let⟨rfl,h1,h2,h3⟩:=h;exact zdi (zz G h1) (G.glo.B _ h2) (ha n S X G) (zcU h3)
 |_=>AB
def zjG:∀(l:List (AM×Bb)) (n:Nat) (acc:List (AM×AG)),(l.filter λy=>y.2==.cell)=[]->cellsFrom n l acc=acc
 |[],_,_,_=>rfl
 |(x,k)::l,n,acc,h=>by
  cases e:k==.cell with
  |true=>erw[BR,e,if_true]at h;cases h
  |false=>erw[BR,e]at h;erw[cellsFrom,e];exact zjG l n acc h
def zgo{x0:AM}{k0:Bb}:∀(l:List (AM×Bb)) (n:Nat) (acc:List (AM×AG)),(l.filter λy=>y.2==.cell)=[(x0,k0)]->cellsFrom n l acc=(x0,n)::acc
 |[],_,_,h=>nomatch h
 |(x,k)::l,n,acc,h=>by
  cases e:k==.cell with
  |true=>
   erw[BR,e,if_true]at h;injection h with h1 h2
   cases h1
   erw[cellsFrom,e,if_true];exact zjG l _ _ h2
  |false=>erw[BR,e]at h;erw[cellsFrom,e];exact zgo l n acc h
def zim:∀(l:List (AM×Bb)) (h:Ak),(l.filter λy=>y.2==.cell)=[]->pushCells h l=h
 |[],_,_=>rfl
 |(x,k)::l,n,h=>by
  cases e:k==.cell with
  |true=>erw[BR,e,if_true]at h;cases h
  |false=>erw[BR,e]at h;erw[pushCells,e];exact zim l n h
def zgA{x0:AM}{k0:Bb}:∀(l:List (AM×Bb)) (h:Ak),(l.filter λy=>y.2==.cell)=[(x0,k0)]->pushCells h l=h.push {cls:=.type "cell",data:=.cell AB}
 |[],_,h=>nomatch h
 |(x,k)::l,n,h=>by
  cases e:k==.cell with
  |true=>
   erw[BR,e,if_true]at h;injection h with h1 h2;erw[pushCells,e,if_true];exact zim l _ h2
  |false=>erw[BR,e]at h;erw[pushCells,e];exact zgA l n h
def ybm(N:List AM)(so sc:Al)(NC:List AM)(sl:List (Option Nat))(x0:AM):Bool:=
 decide (sc.kind=.function)&&(sc.names.all λy=>y.2 != .local || decide (sc.names.lookup y.1=AA .local))&&decide ((sc.names.filter λy=>y.2==.cell)=[(x0,.cell)])&&(sc.names.all λy=>y.2 != .free || (decide (so.names.lookup y.1=AA .cell)&&!(y.1==x0))) &&
  ((NC.zip sl).all λp=>p.2.all λj=>decide (N[j]?=AA p.1/\sc.names.lookup p.1=AA .free))&&decide (sl.length=NC.length)
def ze7{X:Cx}{sc:Al}{NC:List AM}{sl:List (Option Nat)}{x0:AM}(h:ybm X.N X.env.scope sc NC sl x0=AD):yO X sc NC sl x0:=by
 erw[ybm,AI,decide_eq_true_eq,Ad,CG,bne_iff_ne,ne_eq,BI]at h;let⟨⟨⟨⟨⟨h1,h2⟩,h3⟩,h4⟩,h5⟩,h6⟩:=h;refine zk8 _ _ rfl rfl h1 (λy hy e=>(h2 y hy).resolve_left λz=>z e) (λy hy e=>?_) (λy hy e=>((h4 y hy).resolve_left λz=>z e).2) (λn acc=>zgo _ n acc h3) (λg=>zgA _ g h3) (λy hy e=>((h4 y hy).resolve_left λz=>z e).1) (λp hp=>by simpa using h5 p hp) h6;have q:y∈sc.names.filter λy=>y.2==.cell:=Dy.2 ⟨hy,by rw[e];rfl⟩;rw[h3]at q;rw[C8.1 q]
structure yeR(γ:Gs)(κ:Kx)(sc:Al)(NC:List AM)(sl:List (Option Nat))(fb:AM->Bool):Prop where
 q:∀n S X,Good γ κ n S X->∃own fn,ya8 X sc NC sl own fn/\∀x,fb x=AD->fn x=AD
def yaG(sc:Al):Option Str:=(sc.names.find? λy=>y.2==.cell).map (·.1)
def ydl(sc:Al)(NC:List AM)(sl:List (Option Nat)):(o:Option AM)->Pr (yeR γ κ sc NC sl λx=>o==AA x)
 |none=>an (ask (yS κ.N κ.sc sc NC sl=AD)) λh=>ok ⟨λn S X G=>⟨_,_,(zc1 (by rw[<-G.n,<-G.sc]at h;exact h)).blk,λx z=>by cases z⟩⟩
 |some x0=>an (ask (ybm κ.N κ.sc sc NC sl x0=AD)) λh=>ok ⟨λn S X G=>⟨_,_,(ze7 (by rw[<-G.n,<-G.sc]at h;exact h)).blk,λx z=>by
  have e:AA x0=AA x:=eq_of_beq z
  cases e
  exact beq_self_eq_true x0⟩⟩
def ncL(N:List AM)(sl:List (Option Nat))(own:List AM):List Str:=own++(sl.drop own.length).filterMap λo=>o.bind λj=>N[j]?
def ydo(sl:List (Option Nat))(ct ct2:Tg){ci2:Cit}(fi:∀tg l,Pr (YI γ κ tg l ci))(fi2:∀κ tg l,Pr (YID γ κ tg l ci2))(E:Ev γ ce)(e:AL):Pr (YE γ κ e (.cmq sl ct ci (.emq ct2 ci2 (.tup (.cons ce .nil))))):=
 match e with
 |.ListComp elt [⟨tg,it,[],0⟩,⟨tg2,it2,[],0⟩] sc _=>hf κ λhκ=>an (ask (yt ct sl=AD/\nse it=AD/\nse it2=AD)) λh=>
  an (ydl (κ:=κ) sc (ncL κ.N sl (tgN tg++tgN tg2)) sl (yaG sc)) λhB=>an (fi tg it) λhi=>an (ycp (κ:=⟨ncL κ.N sl (tgN tg++tgN tg2),yX sc κ.sc,AF,κ.h⟩) (λx=>yaG sc==AA x) ct tg) λhg=>an (ycp (κ:=⟨ncL κ.N sl (tgN tg++tgN tg2),yX sc κ.sc,AF,κ.h⟩) (λx=>yaG sc==AA x) ct2 tg2) λhg2=>
  an (fi2 ⟨ncL κ.N sl (tgN tg++tgN tg2),yX sc κ.sc,AF,κ.h⟩ tg2 it2) λhi2=>an (E.e ⟨ncL κ.N sl (tgN tg++tgN tg2),yX sc κ.sc,AF,κ.h⟩ elt) λhe=>ok λn S X G=>by
   let⟨own,fn,O,hfn⟩:=hB.q n S X G;have GC:=λj=>G.compL sc (ncL κ.N sl (tgN tg++tgN tg2)) own fn j;exact(zcu (em:=λD env=>nextM it2 (.ListComp elt [⟨tg,it,[],0⟩,⟨tg2,it2,[],0⟩] sc _) 1 (.ref D) env) (G.calm hκ) O (λj D=>zbv) (hi n S X G) (λj=>zY rfl (hg n S _ (GC j) hfn)) (λj=>zaC)
    (λj D=>zcg (Y:=cxL X sc (ncL κ.N sl (tgN tg++tgN tg2)) own fn j) rfl (G.calm hκ) zey (hi2 n S _ (GC j) D) (zY rfl (hg2 n S _ (GC j) hfn)) (ze8 (zag rfl (he n S _ (GC j)))) (fse h.2.2)) (fse h.2.1)).imp λσ H Q q=>zaQ h.1 q
 |_=>AB
def ydE(sl:List (Option Nat))(ct ct2 ct3:Tg){ci2 ci3:Cit}(fi:∀tg l,Pr (YI γ κ tg l ci))(fi2:∀κ tg l,Pr (YID γ κ tg l ci2))(fi3:∀κ tg l,Pr (YID γ κ tg l ci3))(E:Ev γ ce)(e:AL):Pr (YE γ κ e (.cmq sl ct ci (.emq ct2 ci2 (.emq ct3 ci3 (.tup (.cons ce .nil)))))):=
 match e with
 |.ListComp elt [⟨tg,it,[],0⟩,⟨tg2,it2,[],0⟩,⟨tg3,it3,[],0⟩] sc _=>hf κ λhκ=>an (ask (yt ct sl=AD/\nse it=AD/\nse it2=AD/\nse it3=AD)) λh=>
  an (ydl (κ:=κ) sc (ncL κ.N sl (tgN tg++(tgN tg2++tgN tg3))) sl (yaG sc)) λhB=>an (fi tg it) λhi=>an (ycp (κ:=⟨ncL κ.N sl (tgN tg++(tgN tg2++tgN tg3)),yX sc κ.sc,AF,κ.h⟩) (λx=>yaG sc==AA x) ct tg) λhg=>an (ycp (κ:=⟨ncL κ.N sl (tgN tg++(tgN tg2++tgN tg3)),yX sc κ.sc,AF,κ.h⟩) (λx=>yaG sc==AA x) ct2 tg2) λhg2=>an (ycp (κ:=⟨ncL κ.N sl (tgN tg++(tgN tg2++tgN tg3)),yX sc κ.sc,AF,κ.h⟩) (λx=>yaG sc==AA x) ct3 tg3) λhg3=>
  an (fi2 ⟨ncL κ.N sl (tgN tg++(tgN tg2++tgN tg3)),yX sc κ.sc,AF,κ.h⟩ tg2 it2) λhi2=>an (fi3 ⟨ncL κ.N sl (tgN tg++(tgN tg2++tgN tg3)),yX sc κ.sc,AF,κ.h⟩ tg3 it3) λhi3=>an (E.e ⟨ncL κ.N sl (tgN tg++(tgN tg2++tgN tg3)),yX sc κ.sc,AF,κ.h⟩ elt) λhe=>ok λn S X G=>by
   let⟨own,fn,O,hfn⟩:=hB.q n S X G;have GC:=λj=>G.compL sc (ncL κ.N sl (tgN tg++(tgN tg2++tgN tg3))) own fn j;exact(zcu (em:=λD env=>nextM it2 (.ListComp elt [⟨tg,it,[],0⟩,⟨tg2,it2,[],0⟩,⟨tg3,it3,[],0⟩] sc _) 1 (.ref D) env) (G.calm hκ) O (λj D=>zbv) (hi n S X G) (λj=>zY rfl (hg n S _ (GC j) hfn)) (λj=>zaC)
    (λj D=>zcg (Y:=cxL X sc (ncL κ.N sl (tgN tg++(tgN tg2++tgN tg3))) own fn j) rfl (G.calm hκ) zdu (hi2 n S _ (GC j) D) (zY rfl (hg2 n S _ (GC j) hfn))
     (zcg (Y:=cxL X sc (ncL κ.N sl (tgN tg++(tgN tg2++tgN tg3))) own fn j) rfl (G.calm hκ) zeX (hi3 n S _ (GC j) D) (zY rfl (hg3 n S _ (GC j) hfn)) (ze8 (zag rfl (he n S _ (GC j)))) (fse h.2.2.2)) (fse h.2.2.1)) (fse h.2.1)).imp λσ H Q q=>zaQ h.1 q
 |_=>AB
def yge(sl:List (Option Nat))(ct:Tg)(fi:∀tg l,Pr (YI γ κ tg l ci))(Ek:Ev γ ck)(Ew:Ev γ cv)(e:AL):Pr (YE γ κ e (.dcm sl ct ci ck cv)):=
 match e with
 |.DictComp kx vx [⟨tg,it,[],0⟩] sc _=>hf κ λhκ=>an (ask (yt ct sl=AD/\nse it=AD)) λh=>
  an (ydl (κ:=κ) sc (ncL κ.N sl (tgN tg)) sl (yaG sc)) λhB=>an (fi tg it) λhi=>an (ycp (κ:=⟨ncL κ.N sl (tgN tg),yX sc κ.sc,AF,κ.h⟩) (λx=>yaG sc==AA x) ct tg) λhg=>
  an (Ek.e ⟨ncL κ.N sl (tgN tg),yX sc κ.sc,AF,κ.h⟩ kx) λhk=>an (Ew.e ⟨ncL κ.N sl (tgN tg),yX sc κ.sc,AF,κ.h⟩ vx) λhv=>ok λn S X G=>by
   let⟨own,fn,O,hfn⟩:=hB.q n S X G;have GC:=λj=>G.compL sc (ncL κ.N sl (tgN tg)) own fn j;exact(zfQ (em:=λD env=>do
    let kv <-eval kx env
    let vv <-holding [kv] (eval vx env)
    standAt {kx.pos with endLine:=vx.pos.endLine,endCol:=vx.pos.endCol}
    holding [kv,vv] (dictSet D kv vv)) (G.calm hκ) O (λj D=>zfM) (hi n S X G) (λj=>zY rfl (hg n S _ (GC j) hfn)) (λj=>zaC)
    (λj D=>ziA (Y:=cxL X sc (ncL κ.N sl (tgN tg)) own fn j) (zhF G.room) (zag rfl (hk n S _ (GC j))) (zag rfl (hv n S _ (GC j)))) (fse h.2)).imp λσ H Q q=>zdc h.1 q
 |_=>AB
end
section
variable {γ:Gs}{κ:Kx}
end
section
variable {γ:Gs}{κ:Kx}
end
mutual
noncomputable def ch(γ:Gs):(c:Ce)->Ev γ c
 |.cst v=>plain λκ x=>yfm v x
 |.var i=>plain λκ x=>ygm i x
 |.bin o a b=>plain λκ x=>yfL o x ((ch γ a).e κ) ((ch γ b).e κ)
 |.not a=>ybD (λκ x=>yf0 x ((ch γ a).e κ)) (yfq (ch γ a))
 |.and a b=>yd7 (ch γ a) (ch γ b)
 |.or a b=>yfr (ch γ a) (ch γ b)
 |.cmp o a b=>ybD (λκ x=>yeX o x ((ch γ a).e κ) ((ch γ b).e κ)) (λκ x=>ydu o x ((ch γ a).e κ) ((ch γ b).e κ))
 |.chain o p a b c=>ybD (λκ x=>yf3 o p x ((ch γ a).e κ) ((ch γ b).e κ) ((ch γ c).e κ)) (λκ x=>ydT o p x ((ch γ a).e κ) ((ch γ b).e κ) ((ch γ c).e κ))
 |.ite c a b=>plain λκ x=>yfx x ((ch γ c).t κ) ((ch γ a).e κ) ((ch γ b).e κ)
 |.tup es=>plain λκ x=>ye3 x (yaM (chs γ es κ))
 |.lst es=>plain λκ x=>ygo x (yaM (chs γ es κ))
 |.newl es=>plain λκ x=>ydH x (yaM (chs γ es κ))
 |.cmq sl t it (.emq t2 it2 (.tup (.cons e .nil)))=>plain λκ x=>ydo sl t t2 (chi γ it κ) (chd γ it2) (ch γ e) x
 |.cmq sl t it (.emq t2 it2 (.emq t3 it3 (.tup (.cons e .nil))))=>plain λκ x=>ydE sl t t2 t3 (chi γ it κ) (chd γ it2) (chd γ it3) (ch γ e) x
 |.dcm sl t it k v=>plain λκ x=>yge sl t (chi γ it κ) (ch γ k) (ch γ v) x
 |.dsub ks es i=>plain λκ x=>ydr ks (chs γ es κ) x ((ch γ i).e κ)
 |.idx a i=>plain λκ x=>mIdx x ((ch γ a).e κ) ((ch γ i).e κ)
 |.dgt a i=>plain λκ x=>yfy x ((ch γ a).e κ) ((ch γ i).e κ)
 |.slc a l h=>plain λκ x=>yeW x ((ch γ a).e κ) (λo=>yeE l o ((ch γ l).e κ)) (λo=>yeE h o ((ch γ h).e κ))
 |.call f es=>plain λκ x=>hf κ λh=>yfZ h f (chs γ es κ) x
 |.fst es=>plain λκ x=>ye8 (chs γ es κ) x
 |.nin a b=>ybD (λκ x=>ye7 x ((ch γ a).e κ) ((ch γ b).e κ)) (λκ x=>ydK x ((ch γ a).e κ) ((ch γ b).e κ))
 |.blt b es=>plain λκ x=>yfj b (chs γ es κ) x
 |.mth k o es=>plain λκ x=>yeZ k (chs γ es κ) x ((ch γ o).e κ)
 |.isi a ts=>plain λκ x=>yfR ts x ((ch γ a).e κ)
 |.comp sl tg it c e=>plain λκ x=>ydQ sl tg (chi γ it κ) (ch γ c) (ch γ e) x
 |_=>plain λ_ _=>AB
noncomputable def chs(γ:Gs):(cs:Ces)->(κ:Kx)->Fs γ κ cs
 |.nil,_=>.nil
 |.cons c cs,κ=>.cons (λx=>(ch γ c).e κ x) (chs γ cs κ)
noncomputable def chd(γ:Gs):(c:Cit)->(κ:Kx)->∀tg l,Pr (YID γ κ tg l c)
 |.seq a,κ=>ydp ((ch γ a).e κ)
 |.range1 a,κ=>yfH ((ch γ a).e κ)
 |_,_=>λ_ _=>AB
noncomputable def chi(γ:Gs):(c:Cit)->(κ:Kx)->∀tg l,Pr (YI γ κ tg l c)
 |.seq a,κ=>ye9 ((ch γ a).e κ)
 |.range1 a,κ=>iR1 ((ch γ a).e κ)
 |.enum a,κ=>yd0 ((ch γ a).e κ)
 |_,_=>λ_ _=>AB
end
section
variable {γ:Gs}{κ:Kx}{ca cb cc ce:Ce}{ci:Cit}{ct:Tg}{cs cs':Css}{ces:Ces}
def swB(so:Al)(x:AM)(px pos:BZ)(sc:Al):Bool:=(if so.kind.isAnnotationScope then D1 else so.kind)==.function&&so.names.lookup x==AA .local&&px.line==pos.line&&!(sc.names.any λ(n,k)=>n==x&&(k==.local || k==.cell))
def zlb{elt:AL}{gs:List Bt}{sc:Al}{pos px:BZ}{x:AM}{l:Nat}{env:Az}:swapsWith (.ListComp elt gs sc pos) (AA (.Name x px)) l env=pure (swB env.scope x px pos sc):=rfl
def ydW(f:∀x,Pr (YE γ κ x ca))(s:B7):Pr (YS γ κ s (.expr ca)):=
 match s with
 |.Expr a _=>an (ask (nco a=AD)) λhs=>an (f a) λh=>ok λm S X G=>zhX (h m S X G) (swp hs)
 |_=>AB
def yfQ(i:Nat)(f:∀x,Pr (YE γ κ x ca))(s:B7):Pr (YS γ κ s (.asg (.n i) ca)):=
 match s with
 |.Assign [.Name x _] a _=>an (ask (nco a=AD/\setB κ i x=AD)) λhs=>an (f a) λh=>ok λm S X G=>let q:=zO G hs.2;zii q.d q.i q.l (h m S X G) (swp hs.1) q.f
 |_=>AB
def ydM(i:Nat)(sl:List (Option Nat))(ct:Tg)(fi:∀tg l,Pr (YI γ κ tg l ci))(C:Ev γ cc)(E:Ev γ ce)(s:B7):Pr (YS γ κ s (.asg (.n i) (.comp sl ct ci cc ce))):=
 match s with
 |.Assign [.Name x px] (.ListComp elt [⟨tg,it,ifs,0⟩] sc p) _=>hf κ λhκ=>an (ask (setB κ i x=AD/\swB κ.sc x px p sc=AD)) λhs=>an (mCo sl ct fi C E elt tg it ifs sc) λh=>ok λm S X G=>by
  let⟨NC,h1,h2,h3,h4,h5⟩:=h.q m S X G;have q:=zO G hs.1;exact zhs q.d q.i q.l (G.calm hκ) h1 h.f h2 h3 h4 h5 (by rw[zlb,G.sc,hs.2]) (fse h.s) q.f
 |_=>AB
def zkR{a:AL}(h:nst a=AD):(match (generalizing:=false) a with | .Starred _ _=>AD|_=>AF)=false:=by
 revert h;cases a<;>intro h<;>first|rfl|cases h
def swD(so:Al)(x y:AM)(px py:BZ)(a b:AL):Bool:=(if so.kind.isAnnotationScope then D1 else so.kind)==.function&&so.names.lookup x==AA .local&&so.names.lookup y==AA .local&&py.line==px.line&&nst a&&nst b&&!(x==y)&&!(foldedForSure 8 a&&foldedForSure 8 b)&&!(constantsAlone 8 a&&constantsAlone 8 b)
def zlc{x y:AM}{px py pt pt2:BZ}{kt k2:Nat}{a b:AL}{env:Az}(h:swD env.scope x y px py a b=AD):
  swappedStores [.Tuple [.Name x px,.Name y py] kt pt] (.Tuple [a,b] k2 pt2) env=pure (AA [x,y]):=by
 erw[swD,AI,BI]at h;let⟨⟨⟨⟨⟨⟨⟨⟨h1,h2⟩,h3⟩,h4⟩,h5⟩,h6⟩,h7⟩,h8⟩,h9⟩:=h;have k1:(env.blockKind != .function)=false:=by
  show (!((if env.scope.kind.isAnnotationScope then D1 else env.scope.kind)==.function))=AF;rw[h1];rfl
 have k2:env.kindOf x=AA .local:=eq_of_beq h2;have k3:env.kindOf y=AA .local:=eq_of_beq h3;have k4:py.line=px.line:=eq_of_beq h4;have k7:¬y=x:=λz=>by subst z;simp at h7
 have m1:=zkR h5;have m2:=zkR h6;have c8:¬(foldedForSure 8 a=AD/\foldedForSure 8 b=AD):=λz=>by rw[z.1,z.2]at h8;cases h8
 have c9:¬(constantsAlone 8 a=AD/\constantsAlone 8 b=AD):=λz=>by rw[z.1,z.2]at h9;cases h9
 have x1:(Expr.Name x px).pos=px:=rfl;have x2:(Expr.Name y py).pos=py:=rfl;unfold swappedStores;simp[k1,m1,m2,k2,k3,k4,List.eraseDups_cons,k7,x1,x2,c8,c9,Bu];intro z;exfalso;rcases z with z|z
 .exact AW (m1.symm.trans z)
 .exact AW (m2.symm.trans z)
def ygc(i j:Nat)(fa:∀x,Pr (YE γ κ x ca))(fb:∀x,Pr (YE γ κ x cb))(s:B7):Pr (YS γ κ s (.asg (.t [i,j]) (.tup (.cons ca (.cons cb .nil))))):=
 match s with
 |.Assign [.Tuple [.Name x px,.Name y py] _ _] (.Tuple [a,b] _ _) _=>hf κ λhκ=>an (ask (setB κ i x=AD/\setB κ j y=AD/\i≠j/\swD κ.sc x y px py a b=AD)) λh=>an (fa a) λha=>an (fb b) λhb=>ok λm S X G=>by
  let⟨h1,h2,h3,h4⟩:=h;have q:=zO G h1;have r:=zO G h2;have h5:=h4;erw[swD,AI]at h5;have e1:X.env.scope.names.lookup x=AA .local:=by rw[G.sc];exact eq_of_beq h5.1.1.1.1.1.1.1.2
  have e2:X.env.scope.names.lookup y=AA .local:=by rw[G.sc];exact eq_of_beq h5.1.1.1.1.1.1.2
  exact ziO (G.calm hκ) q.d q.i r.i h3 (zjw (G.calm hκ) q.d q.i r.i h3 e1 e2 (za9 (ha m S X G) (za9 (hb m S X G) zek (zcU h5.1.1.1.2)) (zcU h5.1.1.1.1.2)) (zlc (by rw[G.sc];exact h4)))
 |_=>AB
theorem sw0{es:List AL}{k:Nat}{p:BZ}{a:AL}{env:Az}(h:ntu a=AD):swappedStores [.Tuple es k p] a env=pure none:=by
 cases a<;>first|rfl|cases h
theorem sw1{b c:AL}{p:BZ}{a:AL}{env:Az}:swappedStores [.Subscript b c p] a env=pure none:=by
 cases a<;>rfl
def zkS{t a:AL}{l:Nat}{env:Az}(h:nco a=AD):swapsWithSole [t] a l env=pure false:=by
 show swapsWith a (AA t) l env=_;exact swp h
theorem asS{b c:AL}{pos:BZ}{env:Az}(h:nsl c=AD):∀v,assign (.Subscript b c pos) env v=(do
   let ov <-holding [v] (eval b env)
   let iv <-holding [v,ov] (eval c env)
   standAt pos
   holding [v,ov,iv] (setItem ov iv v)
   release [v,ov,iv] []):=by
 cases c<;>first|exact λ_=>rfl|cases h
def yf9(l:List Nat)(f:∀x,Pr (YE γ κ x ca))(s:B7):Pr (YS γ κ s (.asg (.t l) ca)):=
 match s with
 |.Assign [.Tuple es k p] a _=>an (ask (nco a=AD/\ntu a=AD)) λhs=>an (mTg (γ:=γ) (κ:=κ) (.t l) (.Tuple es k p)) λhg=>an (f a) λh=>ok λm S X G=>zhp (h m S X G) (hg m S X G) (zkS hs.1) (sw0 hs.2)
 |_=>AB
def ygp(f:∀x,Pr (YE γ κ x cc))(fo:∀x,Pr (YE γ κ x ca))(fi:∀x,Pr (YE γ κ x cb))(s:B7):Pr (YS γ κ s (.six ca cb cc)):=
 match s with
 |.Assign [.Subscript b c _] a _=>an (ask (nco a=AD/\nsl c=AD)) λhs=>an (f a) λh=>an (fo b) λho=>an (fi c) λhi=>ok λm S X G=>ziq (h m S X G) (ho m S X G) (hi m S X G) (zkS hs.1) sw1 (zgn (ho m S X G) (hi m S X G) zcC (asS hs.2))
 |_=>AB
def yfX(op:De)(o:BOp):Pr (∀S X,PIp X op (rT2 S X (ybd o))):=
 match op,o with
 |.Add,.add=>ok λ_ _=>zhJ
 |_,_=>AB
def yfU(i:Nat)(o:BOp)(f:∀x,Pr (YE γ κ x ca))(s:B7):Pr (YS γ κ s (.aug i o ca)):=
 match s with
 |.AugAssign (.Name x _) op a _=>an (ask (setB κ i x=AD)) λh=>an (yfX op o) λhp=>an (f a) λha=>ok λm S X G=>let q:=zO G h;zik q.d q.i q.l (ha m S X G) (hp S X) q.f (zkC q.p) (zkM q.p)
 |_=>AB
def ygl(c:Ce)(f:∀x,Pr (YE γ κ x c))(s:B7):Pr (YS γ κ s (.ret c)):=
 match s with
 |.Return (AA a) _=>an (f a) λh=>ok λm S X G=>zjU (h m S X G)
 |.Return AB _=>match c with
  |.cst .non=>ok λ_ _ _ _=>zhZ
  |_=>AB
 |_=>AB
def sIf(fc:∀x,Pr (YT γ κ x cc))(fa:∀x,Pr (YSs γ κ x cs))(fb:∀x,Pr (YSs γ κ x cs'))(s:B7):Pr (YS γ κ s (.ite cc cs cs')):=
 match s with
 |.If c a b _=>an (fc c) λhc=>an (fa a) λha=>an (fb b) λhb=>ok λm S X G=>zkl (hc m S X G) (ha m S X G) (hb m S X G)
 |_=>AB
def ygr(ct:Tg)(fi:∀tg l,Pr (YI γ κ tg l ci))(fb:∀x,Pr (YSs γ κ x cs))(s:B7):Pr (YS γ κ s (.for ct ci cs)):=
 match s with
 |.For tg l b [] _=>hf κ λhκ=>an (ask (κ.own=AD/\nse l=AD)) λho=>an (fi tg l) λhi=>an (mTg (γ:=γ) (κ:=κ) ct tg) λhg=>an (fb b) λhb=>ok λm S X G=>ziJ (G.own ho.1).1 (G.calm hκ) (hi m S X G) (hg m S X G) (hb m S X G) (fse ho.2)
 |_=>AB
def yde(ct:Tg)(fa:∀x,Pr (YE γ κ x ca))(fb:∀x,Pr (YSs γ κ x cs))(s:B7):Pr (YS γ κ s (.forl ct ca cs)):=
 match s with
 |.For tg l b [] _=>hf κ λhκ=>an (ask (κ.own=AD/\nse l=AD)) λho=>an (fa l) λha=>an (mTg (γ:=γ) (κ:=κ) ct tg) λhg=>an (fb b) λhb=>ok λm S X G=>zhS (G.own ho.1).1 (G.calm hκ) (ha m S X G) (hg m S X G) (hb m S X G) (fse ho.2)
 |_=>AB
def sWh(fc:∀x,Pr (YT γ κ x cc))(fb:∀x,Pr (YSs γ κ x cs))(s:B7):Pr (YS γ κ s (.while cc cs)):=
 match s with
 |.While c b [] _=>an (ask (κ.own=AD)) λho=>an (fc c) λhc=>an (fb b) λhb=>ok λm S X G=>zfy (G.own ho).1 (hc m S X G) (hb m S X G)
 |_=>AB
def yf8(k:Nat)(f:∀x,Pr (YE γ κ x ca))(s:B7):Pr (YS γ κ s (.raise k ca)):=
 match s with
 |.Raise (AA (.Call (.Name x _) [a] [] _)) AB _=>hf κ λhκ=>match hx:γ.g x with
  |some (.exc c)=>an (ask (c=k/\κ.own=AD/\glB κ x=AD/\nst a=AD)) λh=>an (f a) λha=>ok λm S X G=>by
   let⟨rfl,h1,h2,h3⟩:=h;exact zf1 (G.glo.E x c hx) (G.own h1).2.2 (G.calm hκ) (zz G h2) (ha m S X G) (zcU h3) rfl (zkC (zab h2))
  |_=>AB
 |_=>AB
def yf2(hκ:κ.h=AF)(ix:Nat)(D:List (AM×Nat)){cn:Ce}{ces:Ces}(fn:∀x,Pr (YE γ κ x cn))(F:Fs γ κ ces)(ss:List B7):Pr (YSs γ κ ss (.cons (.mkr ix D cn ces) .nil)):=
 match ss with
 |[.Assign [.Name x _] (.Subscript (.Name y _) n _) _,.Return (AA (.Call (.Name x' _) (e::es) [] _)) _]=>match hy:γ.mr y with
  |some E=>an (ask (E=D/\x'=x/\setB κ ix x=AD/\yc6 κ.sc x=AD/\glB κ y=AD/\nsl n=AD/\nst e=AD/\ycm es=AD)) λh=>an (fn n) λhn=>an (yaM F (e::es)) λha=>ok λm S X G=>by
   let⟨rfl,rfl,h1,h2,h3,h4,h5,h6⟩:=h;have q:=zO G h1;let⟨fa,fdd,ps,M,d⟩:=G.glo.K y E hy;exact zi2 M ((G.rm hκ).mono (Ca m)) q.d q.i q.l (by rw[G.sc];exact zeh h2) (zz G h3) d (hn m S X G) (ha m S X G) (nos h4) (swp rfl) q.f (zkC (zab h3)) (zkC q.p) (zkM q.p) (zcU h5) (stars h6)
  |none=>AB
 |_=>AB
end
mutual
noncomputable def chS(γ:Gs):(c:Cs)->(κ:Kx)->∀s,Pr (YS γ κ s c)
 |.expr e,κ=>ydW ((ch γ e).e κ)
 |.asg (.n i) (.comp sl ct ci cc ce),κ=>ydM i sl ct (chi γ ci κ) (ch γ cc) (ch γ ce)
 |.asg (.n i) c,κ=>yfQ i ((ch γ c).e κ)
 |.asg (.t [i,j]) (.tup (.cons a (.cons b .nil))),κ=>ygc i j ((ch γ a).e κ) ((ch γ b).e κ)
 |.asg (.t l) c,κ=>yf9 l ((ch γ c).e κ)
 |.six o i e,κ=>ygp ((ch γ e).e κ) ((ch γ o).e κ) ((ch γ i).e κ)
 |.aug i o e,κ=>yfU i o ((ch γ e).e κ)
 |.ret e,κ=>ygl e ((ch γ e).e κ)
 |.ite c a b,κ=>sIf ((ch γ c).t κ) (ybU γ a κ) (ybU γ b κ)
 |.for t it b,κ=>ygr t (chi γ it κ) (ybU γ b κ)
 |.forl t a b,κ=>yde t ((ch γ a).e κ) (ybU γ b κ)
 |.while c b,κ=>sWh ((ch γ c).t κ) (ybU γ b κ)
 |.raise k e,κ=>yf8 k ((ch γ e).e κ)
 |_,_=>λ_=>AB
noncomputable def ybU(γ:Gs):(c:Css)->(κ:Kx)->∀s,Pr (YSs γ κ s c)
 |.nil,_,[]=>ok λ_ _ _ _=>zjN
 |.cons (.mkr ix D cn ces) .nil,κ,ss=>hf κ λh=>yf2 h ix D ((ch γ cn).e κ) (chs γ ces κ) ss
 |.cons c cs,κ,s::ss=>an (chS γ c κ s) λh=>an (ybU γ cs κ ss) λhr=>ok λm S X G=>zht (h m S X G) (hr m S X G)
 |_,_,_=>AB
end
inductive Dk where
 |fn|fd (ds:List Int)|me (c:Nat)|ini (c:Nat)
structure Df where
 gn:AM
 nm:AM
 q:AM
 st:B7
 N:List AM
 ps:List AM
 fn:IC.Fn
 k:Dk
def scB(N P:List AM)(sc:Al):Bool:=decide (sc.kind=.function)&&!sc.isCoroutine&&!sc.isGenerator&&decide N.Nodup&&decide (N.take P.length=P)&&P.all (ycF sc)&&sc.names.all λy=>y.2 != .free
def zgJ{N P:List AM}{sc:Al}(h:scB N P sc=AD):yak N P sc:=by
 erw[scB,AI,decide_eq_true_eq,BI,Ad,bne_iff_ne,ne_eq]at h;let⟨⟨⟨⟨⟨⟨h1,h2⟩,h3⟩,h4⟩,h5⟩,h6⟩,h7⟩:=h;exact⟨h1,h2,h3,h4,h5,λx hx=>zb8 (h6 x hx),h7⟩
def okD(γ:Gs)(d:Df):Bool:=scB d.N d.ps (yg d.st)&&decide (d.ps.length=d.fn.np)&&decide (d.N.length=d.fn.ns)&&(ybU γ d.fn.body ⟨d.N,yg d.st,AD,AF⟩ (yG d.st)).isSome
def ybg{α:Type}(P:α->Prop):List α->Prop
 |[]=>True
 |d::r=>P d/\ybg P r
theorem ybg.get{α:Type}{P:α->Prop}:∀{l:List α},ybg P l->∀d∈l,P d
 |_::_,h,d,hd=>by
  rcases A5.1 hd with rfl|hd
  .exact h.1
  .exact h.2.get d hd
def ya1:List AM->(List AE->Prop)->Prop
 |[],P=>P []
 |_::r,P=>∀a,ya1 r λus=>P (a::us)
theorem ya1.get:∀{ps:List AM} {P:List AE->Prop},ya1 ps P->∀us,us.length=ps.length->P us
 |[],P,h,[],_=>h
 |_::r,P,h,a::us,e=>(h a).get us (by simpa using e)
def yaF(d:Df):Prop:=∀(kV doc pm:AE) (an:Option AG) (cdv ct:AE),ya1 d.ps λus=>bindArgs (BN d.nm d.q (yQ d.st) (yG d.st) (yg d.st) .none kV doc pm an cdv ct) ⟨us,[]⟩=pure (d.ps.zip us)
structure ybJ(K:AC)(d:Df)(dv:AE)(f:AG)(fd:Aj):Prop where
 ex:∃(oc:AE) (od:Option AG) (kV doc pm:AE) (an:Option AG) (cdv ct:AE) (osl:Array (Option AE)),
  fd=BN d.nm d.q (yQ d.st) (yG d.st) (yg d.st) dv kV doc pm an cdv ct/\K.lookup f=AA ⟨oc,od,.func fd,osl⟩/\Bc K cdv d.q=AD
 kp:Aa K (.ref f)=AD
def At(K:AC)(cn:Nat->AM)(d:Df)(f:AG):Prop:=
 match d.k with
 |.fn=>As K mainGlobals d.gn=AA (AA (.ref f))/\yaF d
 |.fd _=>As K mainGlobals d.gn=AA (AA (.ref f))
 |.me c=>yaF d/\∃q,As K mainGlobals (cn c)=AA (AA (.ref q))/\Ag K (.ref q) d.nm=AA (AA (.ref f))/\Cc K (.ref f)=AD
 |.ini c=>yaF d/\∃q,As K mainGlobals (cn c)=AA (AA (.ref q))/\Ag K (.ref q) d.nm=AA (AA (.ref f))/\Cc K (.ref f)=AD/\Dz K q=AD/\Aa K (.ref q)=AD
def DvP(K:AC)(d:Df)(dv:AE):Prop:=
 match d.k with
 |.fd ds=>∃dT o its n,dv=.ref dT/\K.lookup dT=AA o/\o.data=.seq its n/\Vals (ds.map V.int) its.toList
 |_=>dv=.none
def ycl(K:AC)(cn:Nat->AM)(d:Df):Prop:=∃dv f fd,ybJ K d dv f fd/\At K cn d f/\DvP K d dv
section
variable {K:AC}{cn:Nat->AM}{gn nm:AM}{st:B7}{N ps:List AM}{fn:IC.Fn}{f:AG}{oc:AE}{od:Option AG}{kV doc pm:AE}{an:Option AG}{cdv ct:AE}{osl:Array (Option AE)}
theorem rowFn(a:As K mainGlobals gn=AA (AA (.ref f)))(l:K.lookup f=AA ⟨oc,od,.func (BN nm nm (yQ st) (yG st) (yg st) .none kV doc pm an cdv ct),osl⟩)
  (c:Bc K cdv nm=AD) (p:Aa K (.ref f)=AD) (b:yaF ⟨gn,nm,nm,st,N,ps,fn,.fn⟩):ycl K cn ⟨gn,nm,nm,st,N,ps,fn,.fn⟩:=
 ⟨.none,f,_,⟨⟨oc,od,kV,doc,pm,an,cdv,ct,osl,rfl,l,c⟩,p⟩,⟨a,b⟩,rfl⟩
theorem rowFd{ds:List Int}{dT:AG}{o:BV}{its:Array AE}{n:Nat}(a:As K mainGlobals gn=AA (AA (.ref f)))(l:K.lookup f=AA ⟨oc,od,.func (BN nm nm (yQ st) (yG st) (yg st) (.ref dT) kV doc pm an cdv ct),osl⟩)
  (c:Bc K cdv nm=AD) (p:Aa K (.ref f)=AD) (d:K.lookup dT=AA o) (e:o.data=.seq its n) (v:Vals (ds.map V.int) its.toList):ycl K cn ⟨gn,nm,nm,st,N,ps,fn,.fd ds⟩:=
 ⟨.ref dT,f,_,⟨⟨oc,od,kV,doc,pm,an,cdv,ct,osl,rfl,l,c⟩,p⟩,a,dT,o,its,n,rfl,d,e,v⟩
theorem rowMe{qn:AM}{cc:Nat}{q:AG}(z:As K mainGlobals (cn cc)=AA (AA (.ref q)))(a:Ag K (.ref q) nm=AA (AA (.ref f)))(i:Cc K (.ref f)=AD)(l:K.lookup f=AA ⟨oc,od,.func (BN nm qn (yQ st) (yG st) (yg st) .none kV doc pm an cdv ct),osl⟩)
  (c:Bc K cdv qn=AD) (p:Aa K (.ref f)=AD) (b:yaF ⟨gn,nm,qn,st,N,ps,fn,.me cc⟩):ycl K cn ⟨gn,nm,qn,st,N,ps,fn,.me cc⟩:=
 ⟨.none,f,_,⟨⟨oc,od,kV,doc,pm,an,cdv,ct,osl,rfl,l,c⟩,p⟩,⟨b,q,z,a,i⟩,rfl⟩
theorem rowIni{qn:AM}{cc:Nat}{q:AG}(z:As K mainGlobals (cn cc)=AA (AA (.ref q)))(a:Ag K (.ref q) nm=AA (AA (.ref f)))(i:Cc K (.ref f)=AD)(l:K.lookup f=AA ⟨oc,od,.func (BN nm qn (yQ st) (yG st) (yg st) .none kV doc pm an cdv ct),osl⟩)
  (c:Bc K cdv qn=AD) (p:Aa K (.ref f)=AD) (b:yaF ⟨gn,nm,qn,st,N,ps,fn,.ini cc⟩) (mk:Dz K q=AD) (kq:Aa K (.ref q)=AD):ycl K cn ⟨gn,nm,qn,st,N,ps,fn,.ini cc⟩:=
 ⟨.none,f,_,⟨⟨oc,od,kV,doc,pm,an,cdv,ct,osl,rfl,l,c⟩,p⟩,⟨b,q,z,a,i,mk,kq⟩,rfl⟩
theorem gdf_mk{w:A8}{h:Ak}{mg:AM->Option AE}{x:AM}{D:List (AM×Nat)}{fa:Nat->AG}{y:AG}{es:Array Bj}{ep:Nat}(X:K.In h)(G:h.Ns mainGlobals mg)(a:As K mainGlobals x=AA (AA (.ref y)))(l:K.lookup y=AA ⟨.type "dict",AB,.dict es ep,#[]⟩)
  (r:ybC w fa D es.toList) (n:(D.map (·.1)).Nodup):GDF K w mg fa x D:=⟨y,es,ep,Dc X G a,l,r,n⟩
theorem gd_mk{w:A8}{h:Ak}{mg:AM->Option AE}{x:AM}{D:List (AM×PV)}{cl:Nat->AG}{y:AG}{es:Array Bj}{ep:Nat}(X:K.In h)(G:h.Ns mainGlobals mg)(a:As K mainGlobals x=AA (AA (.ref y)))(l:K.lookup y=AA ⟨.type "dict",AB,.dict es ep,#[]⟩)
  (s:(y==sysModules)=AF) (r:ybI K cl w D es.toList) (n:(D.map (·.1)).Nodup):GD K w mg cl x D:=⟨y,es,ep,Dc X G a,l,s,r,n⟩
end
abbrev KoV(K:AC)(v:PV)(u:AE):Prop:=∃x:V,RelV x u/\∀cl B φ H,yc K cl B φ H v x
abbrev KoL(K:AC)(vs:List PV)(us:List AE):Prop:=∃xs:List V,Vals xs us/\∀cl B φ H,ye K cl B φ H vs xs
mutual
noncomputable def ydg(K:AC):(v:PV)->(u:AE)->Pr (KoV K v u)
 |.int i,.int j t=>an (ask (i=j)) λh=>ok ⟨.int i,⟨t,by rw[h]⟩,λ_ _ _ _=>by erw[yc]⟩
 |.str i,.str j t=>an (ask (i=j)) λh=>ok ⟨.str i,⟨t,by rw[h]⟩,λ_ _ _ _=>by erw[yc]⟩
 |.tp AD vs,.ref a=>match h:K.lookup a with
  |some ⟨c,_,.seq its n,_⟩=>an (ask (c=.type "tuple"/\its.size<=sizeLine)) λq=>an (ycG K vs its.toList) λr=>ok (by
    let⟨xs,r1,r2⟩:=r;refine⟨.ref a,rfl,λcl B φ H=>?_⟩;erw[yc];exact⟨a,xs,rfl,.inr ⟨rfl,_,its,n,h,q.1,rfl,q.2,r1⟩,r2 cl B φ H⟩)
  |_=>AB
 |_,_=>AB
noncomputable def ycG(K:AC):(vs:List PV)->(us:List AE)->Pr (KoL K vs us)
 |[],[]=>ok ⟨[],.nil,λ_ _ _ _=>by erw[ye]⟩
 |v::vs,u::us=>an (ydg K v u) λh=>an (ycG K vs us) λr=>ok (by
   let⟨x,h1,h2⟩:=h;let⟨xs,r1,r2⟩:=r;refine⟨x::xs,.cons h1 r1,λcl B φ H=>?_⟩;erw[ye];exact⟨x,xs,rfl,h2 cl B φ H,r2 cl B φ H⟩)
 |_,_=>AB
end
theorem con_row{K:AC}{cl:Nat->AG}{w:A8}{k:AM}{v:PV}{tk:GO}{u:AE}{D:List (AM×PV)}{es:List Bj}(c:(ydg K v u).isSome=AD)(h:ybI K cl w D es):ybI K cl w ((k,v)::D) (⟨D0 w.params k,.str k tk,u⟩ :: es):=by
 let⟨⟨x,r,q⟩,_⟩:=A9.1 c;exact .cons r (q cl) h
theorem frow_cons{w:A8}{fa:Nat->AG}{k:AM}{i:Nat}{tk:GO}{a:AG}{D:List (AM×Nat)}{es:List Bj}(e:fa i=a)(h:ybC w fa D es):ybC w fa ((k,i)::D) (⟨D0 w.params k,.str k tk,.ref a⟩ :: es):=by
 subst e;exact .cons h
structure Tb where
 tbl:List Df
 al:List (AM×GK)
 bs:List AM
 ts:List Ty
 fl:List (Nat×AM)
 me:List ((Nat×AM)×Nat)
 kb:List ((Nat×Nat×List AM)×List (Option Int))
 cn:List (Nat×AM)
 dd:List (AM×List (AM×PV))
 ml:List (AM×List (AM×Nat))
 xs:List (Nat×Ty)
 xc:List (Nat×AM)
 xm:List (Nat×AM)
 qh:List AM
abbrev eF(x:AM)(i:Nat):AM×GK:=(x,.fn i)
abbrev eC(x:AM)(v:PV):AM×GK:=(x,.cst v)
abbrev eG(x:AM)(g:GK):AM×GK:=(x,g)
abbrev eN(c:Nat)(x:AM):Nat×Str:=(c,x)
abbrev eL(x:AM)(d:List (AM×Nat)):AM×List (AM×Nat):=(x,d)
def tyE:Ty->Ty->Bool
 |.int,.int=>AD
 |.bool,.bool=>AD
 |.str,.str=>AD
 |.tuple,.tuple=>AD
 |.list,.list=>AD
 |_,_=>AF
def zis{a b:Ty}(h:tyE a b=AD):a=b:=by
 cases a<;>cases b<;>first|rfl|cases h
def tyX:Ty->Ty->Bool
 |.cls a,.cls b=>a==b
 |.val,.val=>AD
 |_,_=>AF
def zjg{a b:Ty}(h:tyX a b=AD):a=b:=by
 cases a<;>cases b<;>first|rfl|(cases h;done)|(rw[eq_of_beq (show _=AD from h)])
def Tb.gs(t:Tb):Gs:=⟨λx=>t.al.lookup x,λx=>t.bs.contains x,λy=>t.ts.any (tyE y),λc f=>t.fl.contains (c,f),λc n=>t.me.lookup (c,n),λi n ks=>t.kb.lookup (i,n,ks),λx=>t.ml.lookup x,λx i=>decide (t.cn.lookup (1000+i)=AA x),λc y=>t.xs.any λp=>p.1==c&&tyX p.2 y,λd x=>t.xc.contains (d,x),λc x=>t.xm.contains (c,x),λi=>match t.tbl[i]? with
 |some d=>t.qh.contains d.gn
 |none=>AF⟩
def nmA(K:AC)(x:AM):Option Addr:=match As K mainGlobals x with
 |some (AA (.ref q))=>AA q
 |_=>AB
def clA(K:AC)(t:Tb)(c:Nat):Addr:=((t.cn.lookup c).bind (nmA K)).getD 0
def cnm(t:Tb)(c:Nat):Str:=(t.cn.lookup c).getD ""
def faA(K:AC)(t:Tb)(i:Nat):Addr:=match t.tbl[i]? with
 |some d=>match d.k with
  |.fn=>(nmA K d.gn).getD 0
  |.fd _=>(nmA K d.gn).getD 0
  |.me c=>match Ag K (.ref (clA K t c)) d.nm with
   |some (AA (.ref f))=>f
   |_=>0
  |.ini c=>match Ag K (.ref (clA K t c)) d.nm with
   |some (AA (.ref f))=>f
   |_=>0
 |none=>0
def ycg:Dk->Bool
 |.fn=>AD
 |_=>AF
def yd3:Dk->Bool
 |.fd _=>AD
 |_=>AF
def yfN:PV->Bool
 |.int _=>AD
 |.tp _ _=>AD
 |_=>AF
def alB(K:AC)(t:Tb):AM×GK->Bool
 |(x,.fn i)=>match t.tbl[i]? with
  |some d=>ycg d.k&&(decide (x=d.gn) || decide (nmA K x=nmA K d.gn))
  |none=>AF
 |(x,.fnD i)=>match t.tbl[i]? with
  |some d=>yd3 d.k&&(decide (x=d.gn) || decide (nmA K x=nmA K d.gn))
  |none=>AF
 |(x,.cst v)=>yfN v&&match As K mainGlobals x with
  |some (AA u)=>(ydg K v u).isSome
  |_=>AF
 |(x,.dct d)=>t.dd.any λp=>decide (p.1=x)&&(eqD p.2 d).isSome
 |(x,.exc c)=>decide (t.cn.lookup c=AA x)&&(nmA K x).any λq=>Cu K q [.type "ValueError",.type "Exception",.type "BaseException",.type "object"] "ValueError.__new__"
 |(x,.cls c i)=>decide (t.cn.lookup c=AA x)&&(nmA K x).isSome&&match t.tbl[i]? with
  |some d=>match d.k with
   |.ini c'=>decide (c'=c)&&decide (d.nm="__init__")
   |_=>AF
  |none=>AF
def yem(K:AC)(t:Ty):Bool:=
 decide (Au K (.type "NoneType") (.type (tyN t))=AA (yaN .non t))&&decide (Au K (.type "bool") (.type (tyN t))=AA (yaN (.bl AD) t))&&decide (Au K (.type "int") (.type (tyN t))=AA (yaN (.int 0) t))&&decide (Au K (.type "str") (.type (tyN t))=AA (yaN (.str Cm) t))&&decide (Au K (.type "tuple") (.type (tyN t))=AA (yaN (.tp AD []) t))&&decide (Au K (.type "list") (.type (tyN t))=AA (yaN (.lst []) t))
def ydc(K:AC)(q:AG):Bool:=FI K q Cm&&El K q&&Em K q&&decide (Ag K (.ref q) "__setattr__"=AA (AA (.builtin "object.__setattr__")))
def zdv{K:AC}{q:AG}(h:ydc K q=AD):Cls K q:=by
 erw[ydc,AI,decide_eq_true_eq]at h;exact⟨h.1.1.1,h.1.1.2,h.1.2,h.2⟩
def ydX(K:AC)(q:AG):Bool:=decide (Ag K (.ref q) "__getattribute__"=AA (AA (.builtin "BaseException.__getattribute__")))&&decide (Ag K (.ref q) "__getattr__"=AA AB)&&decide (Ag K (.ref q) "__class__"=AA (AA (.builtin "object.__class__")))&&decide (Fd K (.ref q) (.type "BaseException")=AA AD)&&decide (Fe K q (.type "object")=AA AD)&&(Ff K q).isSome
def zhj{K:AC}{q:AG}(h:ydX K q=AD):yeD K q:=by
 erw[ydX,AI,decide_eq_true_eq]at h;let⟨⟨⟨⟨⟨h1,h2⟩,h3⟩,h4⟩,h5⟩,h6⟩:=h;exact⟨h1,h2,h3,h4,h5,A9.1 h6⟩
def yed(K:AC)(t:Tb):Bool:=
 t.xs.all (λp=>ydX K (clA K t p.1)&&decide (Au K (.ref (clA K t p.1)) (tyZ (clA K t) p.2)=AA (yaN (.exn p.1) p.2))) &&
  t.xc.all (λp=>decide (t.cn.lookup p.1=AA p.2)&&(nmA K p.2).isSome) &&
  t.xm.all λp=>(nmA K p.2).any λW=>decide (F8 K (.ref (clA K t p.1)) (.ref W)=AA AD)
def ycE(K:AC)(t:Tb):Bool:=
 t.al.all (alB K t)&&t.bs.all (λx=>decide (As K mainGlobals x=AA AB))&&t.ts.all (yem K) &&
  t.fl.all (λp=>(t.cn.lookup p.1).isSome&&(nmA K (cnm t p.1)).any λq=>ydc K q&&decide (Ag K (.ref q) p.2=AA AB)) &&
  t.me.all (λp=>(t.cn.lookup p.1.1).isSome&&(nmA K (cnm t p.1.1)).any λq=>ydc K q&&match t.tbl[p.2]? with
   |some d=>(match d.k with
    |.me c=>decide (c=p.1.1)
    |_=>AF)&&decide (d.nm=p.1.2)
   |none=>AF) &&
  t.ml.all λp=>p.2.all λq=>match t.tbl[q.2]? with
   |some d=>ycg d.k
   |none=>AF
def ydF(K:AC)(t:Tb):Bool:=ycE K t&&yed K t
def fd0:FuncData:=BN "" "" (yQ (.Pass ⟨0,0,0,0⟩)) [] (yg (.Pass ⟨0,0,0,0⟩)) .none .none .none .none AB .none .none
def fdA(K:AC)(t:Tb)(i:Nat):FuncData:=match K.lookup (faA K t i)with
 |some ⟨_,_,.func fd,_⟩=>fd
 |_=>fd0
def psA(t:Tb)(i:Nat):List Str:=match t.tbl[i]? with
 |some d=>d.ps
 |none=>[]
theorem lkm{α β:Type}[BEq α][LawfulBEq α]{x:α}{k:β}:∀{l:List (α×β)},l.lookup x=AA k->(x,k)∈l
 |[],h=>nomatch h
 |y::l,h=>by
  rw[Ar]at h
  cases hx:x==y.1 with
  |true=>rw[hx]at h;cases h;rw[eq_of_beq hx];exact AV
  |false=>rw[hx]at h;exact AK _ (lkm h)
def KbP(t:Tb)(p:(Nat×Nat×List AM)×List (Option Int)):Prop:=∀d ds,t.tbl[p.1.1]?=AA d->d.k=.fd ds->∀(K:AC) (mg:AM->Option AE) (f:AG) (fd:Aj),FnD K mg d.nm d.st d.ps ds f fd->∃g,ybl K fd d.ps p.1.2.2 g (gK p.1.2.1 p.2)
structure Fact(t:Tb)(w:A8)(K:AC)(mg:AM->Option AE):Prop where
 X:∀x u,As K mainGlobals x=AA u->mg x=u
 R:ybg (ycl K (cnm t)) t.tbl
 B:ydF K t=AD
 D:ybg (λp=>∀cl,GD K w mg cl p.1 p.2) t.dd
 Kb:ybg (KbP t) t.kb
 Ml:ybg (λp=>GDF K w mg (faA K t) p.1 p.2) t.ml
def zie{K:AC}{x:AM}{q:AG}(h:nmA K x=AA q):As K mainGlobals x=AA (AA (.ref q)):=by
 unfold nmA at h;split at h
 .cases h;assumption
 .cases h
def zW{K:AC}{x:AM}{q:AG}(h:As K mainGlobals x=AA (AA (.ref q))):nmA K x=AA q:=by
 erw[nmA,h]
def zcB{K:AC}{t:Tb}{c:Nat}{q:AG}(h:nmA K (cnm t c)=AA q)(hc:(t.cn.lookup c).isSome=AD):clA K t c=q:=by
 let⟨x,e⟩:=A9.1 hc;erw[clA,e,Bz];erw[cnm,e,BS]at h;rw[h];rfl
def okH(t:Tb)(d:Df):Bool:=(ybU t.gs d.fn.body ⟨d.N,yg d.st,AF,AD⟩ (yG d.st)).isSome&&!d.fn.pure&&ycg d.k
def okT(t:Tb)(d:Df):Bool:=okD t.gs d&&(!t.qh.contains d.gn || okH t d)&&match d.k with
 |.fn=>AD
 |.fd _=>decide (d.q=d.nm)
 |.me c=>(t.cn.lookup c).isSome
 |.ini c=>(t.cn.lookup c).isSome&&decide (d.nm="__init__")
section
variable {t:Tb}{w:A8}{K:AC}{mg:AM->Option AE}{T:Nat->Option IC.Fn}{P:AZ}{base:Ak}{k:Nat}
def zam(F:Fact t w K mg)(O:∀d∈t.tbl,okT t d=AD){i:Nat}{d:Df}(h:t.tbl[i]?=AA d):∃dv fd,ybJ K d dv (faA K t i) fd/\At K (cnm t) d (faA K t i)/\DvP K d dv:=by
 have hm:=A7 h;let⟨dv,f,fd,h1,h2,h3⟩:=F.R.get d hm;have e:f=faA K t i:=by
  have o:=O d hm;erw[okT,AI]at o;have o:=o.2;erw[faA,h];unfold At at h2
  cases q:d.k with
  |fn=>
   rw[q]at h2;erw[zW h2.1,BS]
  |fd ds=>
   rw[q]at h2;have h2:As K mainGlobals d.gn=AA (AA (.ref f)):=h2;erw[zW h2,BS]
  |me c=>
   rw[q]at h2 o;let⟨_,q',e1,e2,_⟩:=h2;erw[zcB (zW e1) o,e2]
  |ini c=>
   rw[q]at h2 o;let⟨_,q',e1,e2,_⟩:=h2;erw[AI]at o;erw[zcB (zW e1) o.1,e2]
 subst e;exact⟨dv,fd,h1,h2,h3⟩
theorem ybJ.binds{d:Df}{f:AG}{fd:Aj}(R:ybJ K d .none f fd)(b:yaF d):Binds K fd d.ps []:=
 Fun.binds ⟨R.ex,R.kp⟩ λkV doc pm an cdv ct us hl=>(b kV doc pm an cdv ct).get us hl
theorem ybJ.ok{d:Df}{dv:AE}{f:AG}{fd:Aj}{fi m:Nat}{cl:Nat->AG}(R:ybJ K d dv f fd)(hT:T fi=AA d.fn)(Sc:yak d.N d.ps (yg d.st))(hnp:d.ps.length=d.fn.np)(hns:d.N.length=d.fn.ns)
  (body:∀(cdv:AE) (A:A3) (outer:List Az) (s:AH) (H:Hp) (E:XK),yap m (A.deeper (envOfC d.q (yg d.st) s.heap.objs.size f cdv)) ->
   PSs (yaq (CX1 P w) P w K mg base d.N d.q (yg d.st) f cdv A outer s H E) (yG d.st) (tSs ⟨cl,yd T k,AD⟩ (yaq (CX1 P w) P w K mg base d.N d.q (yg d.st) f cdv A outer s H E) d.fn.body)):
  yaD P w K mg base (CX1 P w) (m+1) f fd d.ps (spI K cl (yd T (k+1)) fi):=by
 let⟨oc,od,kV,doc,pm,an,cdv,ct,osl,rfl,lk,hcd⟩:=R.ex;exact zko lk hcd Sc (λvs H Q E h=>zgw hT hnp h) λA outer s H vs Q E hr h=>⟨_,body cdv A outer s H E hr,zg9 hT hns h⟩
def Fn2(t:Tb)(P:AZ)(w:A8)(K:AC)(mg:AM->Option AE)(base:Ak)(T:Nat->Option IC.Fn)(k:Nat):Prop:=
 ∀i d dv fd,t.tbl[i]?=AA d->ybJ K d dv (faA K t i) fd->yaD P w K mg base (CX1 P w) (2*k) (faA K t i) fd d.ps (spI K (clA K t) (yd T k) i)
def FnH(t:Tb)(P:AZ)(w:A8)(K:AC)(mg:AM->Option AE)(base:Ak)(T:Nat->Option IC.Fn)(k:Nat):Prop:=
 ∀i d fd,t.tbl[i]?=AA d->t.qh.contains d.gn=AD->ybJ K d .none (faA K t i) fd->ybv P w K mg base (2*k) (faA K t i) fd d.ps (spI K (clA K t) (yd T k) i)
def zcA(F:Fact t w K mg)(O:∀d∈t.tbl,okT t d=AD)(C:Fn2 t P w K mg base T k)(CH:FnH t P w K mg base T k){N:List AM}{q:AM}{sc:Al}{f:AG}{cdv:AE}{A:A3}{outer:List Az}{s:AH}{H:Hp}{E:XK}:
  Glo t.gs (2*k) ⟨clA K t,yd T k,AD⟩ (yaq (CX1 P w) P w K mg base N q sc f cdv A outer s H E):=by
 have B:=F.B;erw[ydF,AI]at B;let⟨B,B2⟩:=B;erw[ycE,AI,Ad]at B;erw[yed,AI,Ad]at B2;let⟨⟨⟨⟨⟨b1,b2⟩,b3⟩,b4⟩,b5⟩,b6⟩:=B;let⟨⟨b7,b8⟩,b9⟩:=B2;have mgr:∀{x:AM} {a:AG},nmA K x=AA a->mg x=AA (.ref a):=λh=>F.X _ _ (zie h);have same:∀{x y:AM} {a:AG},(decide (x=y) || decide (nmA K x=nmA K y))=AD->nmA K y=AA a->nmA K x=AA a:=λ{x y a} h e=>by
  erw[CG,decide_eq_true_eq]at h;rcases h with rfl|h
  .exact e
  .rw[h];exact e
 refine⟨λx i h=>?_,λx i np ks sh h hk=>?_,λx v h=>?_,λx d h=>?_,λx c h=>?_,λx c i h=>?_,λx h=>?_,λy h=>?_,λc n h=>?_,λc n i h=>?_,λy D h=>?_,λx i h hv=>?_,λc y h=>?_,λd x h=>?_,λc x h=>?_,λx i h hq=>?_⟩
 .have q:=b1 _ (lkm h);erw[alB]at q;split at q
  .rename_i d hd;erw[AI]at q;let⟨dv,fd,r1,r2,r3⟩:=zam F O hd;have hk:d.k=.fn:=by cases e:d.k<;>rw[e]at q<;>first|rfl|cases q.1
   erw[At,hk]at r2;erw[DvP,hk]at r3;subst r3;exact⟨_,fd,d.ps,C i d _ fd hd r1,mgr (same q.2 (zW r2.1)),r1.kp,r1.binds r2.2⟩
  .cases q
 .have q:=b1 _ (lkm h);erw[alB]at q;split at q
  .rename_i d hd;erw[AI]at q;let⟨dv,fd,r1,r2,r3⟩:=zam F O hd;obtain⟨ds,hk'⟩:∃ds,d.k=.fd ds:=by cases e:d.k<;>rw[e]at q<;>first|exact⟨_,rfl⟩|cases q.1
   erw[At,hk']at r2;erw[DvP,hk']at r3;let⟨dT,o,its,n,rfl,e1,e2,e3⟩:=r3;have oo:=O d (A7 hd);erw[okT,hk',AI,decide_eq_true_eq]at oo;have D:FnD K (λ_=>AA (.ref (faA K t i))) d.nm d.st d.ps ds (faA K t i) fd:=by
    let⟨oc,od,kV,doc,pm,an,cdv,ct,osl,z1,z2,z3⟩:=r1.ex;rw[oo.2]at z1 z3;exact⟨⟨oc,od,dT,kV,doc,pm,an,cdv,ct,osl,o,its,n,z1,z2,z3,e1,e2,e3⟩,r1.kp,rfl⟩
   exact⟨_,fd,d.ps,C i d _ fd hd r1,mgr (same q.2 (zW r2)),r1.kp,F.Kb.get _ (lkm hk) d ds hd hk' K _ _ _ D⟩
  .cases q
 .have q:=b1 _ (lkm h);erw[alB,AI]at q;let⟨q0,q⟩:=q;split at q
  .rename_i u hu;let⟨⟨y,r,z⟩,_⟩:=A9.1 q;have hm:=F.X _ _ hu
   cases v with
   |int i=>
    have z:=z (λ_=>0) (λ_=>False) [] (λ_=>AB);erw[yc]at z;subst z;let⟨tk,rfl⟩:=r;exact .inr ⟨i,rfl,tk,hm⟩
   |tp b vs=>
    have z0:=z (λ_=>0) (λ_=>False) [] (λ_=>AB);erw[yc]at z0;let⟨a,xs,rfl,_⟩:=z0;have r:u=.ref a:=r;subst r;exact .inl ⟨a,hm,λB φ H=>z _ B φ H⟩
   |_=>cases q0
  .cases q
 .have q:=b1 _ (lkm h);erw[alB,Co,AI,decide_eq_true_eq]at q;let⟨p,hp,rfl,q⟩:=q;let⟨⟨e⟩,_⟩:=A9.1 q;rw[<-e];exact F.D.get p hp _
 .have q:=b1 _ (lkm h);erw[alB,AI,decide_eq_true_eq,CT]at q;let⟨q1,q2,q3⟩:=q;let⟨a,ha⟩:=A9.1 q2;have e:clA K t c=a:=by erw[clA,q1,Bz,ha,BS]
  erw[ha,EA]at q3;exact⟨by show mg x=AA (.ref (clA K t c));rw[e];exact mgr ha,by show Cu K (clA K t c) _ _=AD;rw[e];exact q3⟩
 .have q:=b1 _ (lkm h);erw[alB,AI,decide_eq_true_eq]at q;let⟨⟨q1,q2⟩,q3⟩:=q;let⟨a,ha⟩:=A9.1 q2;have e:clA K t c=a:=by erw[clA,q1,Bz,ha,BS]
  split at q3
  .rename_i d hd
   cases hk:d.k with
   |ini c'=>
    rw[hk]at q3;erw[AI,decide_eq_true_eq]at q3;let⟨rfl,hn⟩:=q3;let⟨dv,fd,r1,r2,r3⟩:=zam F O hd;erw[At,hk]at r2;erw[DvP,hk]at r3;subst r3;let⟨r0,q',r4,r5,r6,r7,r8⟩:=r2;have e2:q'=a:=by
     have:nmA K (cnm t c')=AA q':=zW r4;erw[cnm,q1,BS,ha]at this;exact(AU this).symm
    subst e2;rw[hn]at r5;refine⟨by show mg x=AA (.ref (clA K t c'));rw[e];exact mgr ha,_,fd,d.ps,?_,C i d _ fd hd r1,r1.binds r0⟩;show Mk K (clA K t c') _;rw[e];exact⟨r7,r5,r6,r8⟩
   |_=>rw[hk]at q3;cases q3
  .cases q3
 .have q:x∈t.bs:=by simpa [Tb.gs] using h
  have:=b2 x q;erw[decide_eq_true_eq]at this;exact F.X _ _ this
 .simp only[Tb.gs,Co]at h;let⟨y',hy,e⟩:=h;have:=zis e;subst this;have q:=b3 y hy;erw[yem,AI,decide_eq_true_eq]at q;exact⟨q.1.1.1.1.1,q.1.1.1.1.2,q.1.1.1.2,q.1.1.2,q.1.2,q.2⟩
 .have q:(c,n)∈t.fl:=by simpa [Tb.gs] using h
  have q:=b4 _ q;erw[AI,CT,decide_eq_true_eq]at q;let⟨q1,q2,q3⟩:=q;let⟨a,ha⟩:=A9.1 q2;erw[ha,EA]at q3;have e:clA K t c=a:=zcB ha q1;show Cls K (clA K t c)/\ybR K (clA K t c) n;rw[e];exact⟨zdv q3.1,q3.2⟩
 .have q:=b5 _ (lkm h);erw[AI,CT,decide_eq_true_eq]at q;let⟨q1,q2,q3,q4⟩:=q;let⟨a,ha⟩:=A9.1 q2;erw[ha,EA]at q3;have e:clA K t c=a:=zcB ha q1;split at q4
  .rename_i d hd;erw[AI,decide_eq_true_eq]at q4;let⟨q4,hn⟩:=q4
   cases hk:d.k with
   |me c'=>
    rw[hk]at q4;have q4:c'=c:=by simpa using q4
    subst q4;let⟨dv,fd,r1,r2,r3⟩:=zam F O hd;erw[At,hk]at r2;erw[DvP,hk]at r3;subst r3;let⟨r0,q',r4,r5,r6⟩:=r2;have e2:q'=a:=AU ((zW r4).symm.trans ha);subst e2;refine⟨by show Cls K (clA K t c');rw[e];exact zdv q3,_,fd,d.ps,?_,C i d _ fd hd r1,r1.binds r0⟩;show Meth K (clA K t c') n _;rw[e,<-hn];exact⟨r5,r6,r1.kp⟩
   |_=>rw[hk]at q4;cases q4
  .cases q4
 .have q:=b6 _ (lkm h);have g:∀s j,D.lookup s=AA j->∃d dv fd,t.tbl[j]?=AA d/\ybJ K d dv (faA K t j) fd/\dv=.none/\yaF d/\fd=fdA K t j/\d.ps=psA t j:=λs j hj=>by
   have q:=q _ (lkm hj);split at q
   .rename_i d hd;let⟨dv,fd,r1,r2,r3⟩:=zam F O hd;have hk:d.k=.fn:=by cases e:d.k<;>rw[e]at q<;>first|rfl|cases q
    erw[At,hk]at r2;erw[DvP,hk]at r3;let⟨oc,od,kV,doc,pm,an,cdv,ct,osl,_,lk,_⟩:=r1.ex;exact⟨d,dv,fd,hd,r1,r3,r2.2,by erw[fdA,lk],by erw[psA,hd]⟩
   .cases q
  refine⟨faA K t,fdA K t,psA t,⟨λs j hj=>?_,λs j hj=>?_,λs j hj=>?_⟩,F.Ml.get _ (lkm h)⟩
  .let⟨d,dv,fd,h1,h2,h3,h4,h5,h6⟩:=g s j hj;rw[<-h5,<-h6];exact C j d dv fd h1 h2
  .let⟨d,dv,fd,h1,h2,h3,h4,h5,h6⟩:=g s j hj;exact h2.kp
  .let⟨d,dv,fd,h1,h2,h3,h4,h5,h6⟩:=g s j hj;subst h3;rw[<-h5,<-h6];exact h2.binds h4
 .have q:=b1 _ (lkm h);erw[alB]at q;split at q
  .rename_i d hd;erw[AI]at q;let⟨dv,fd,r1,r2,r3⟩:=zam F O hd;have hk:d.k=.fn:=by cases e:d.k<;>rw[e]at q<;>first|rfl|cases q.1
   erw[At,hk]at r2;have hn:=same q.2 (zW r2.1);have e:t.cn.lookup (1000+i)=AA x:=of_decide_eq_true hv;have z:clA K t (1000+i)=faA K t i:=by erw[clA,e,Bz,hn,BS]
   show mg x=AA (.ref (clA K t (1000+i)));rw[z];exact mgr hn
  .cases q
 .let⟨p,hp,q⟩:=Co.1 h;erw[AI,beq_iff_eq]at q;let⟨rfl,q⟩:=q;have:=zjg q;subst this;have b:=b7 p hp;erw[decide_eq_true_eq]at b;exact⟨zhj b.1,b.2⟩
 .have b:=b8 _ (EG.1 h);erw[decide_eq_true_eq]at b;let⟨a,ha⟩:=A9.1 b.2;have e:clA K t d=a:=by erw[clA,b.1,Bz,ha,BS]
  show mg x=AA (.ref (clA K t d));rw[e];exact mgr ha
 .have b:=b9 _ (EG.1 h)
  cases ha:nmA K x with
  |none=>rw[ha]at b;cases b
  |some W=>
   rw[ha]at b;exact⟨W,mgr ha,of_decide_eq_true b⟩
 .have q:=b1 _ (lkm h);erw[alB]at q;split at q
  .rename_i d hd;erw[AI]at q;let⟨dv,fd,r1,r2,r3⟩:=zam F O hd;have hk:d.k=.fn:=by cases e:d.k<;>rw[e]at q<;>first|rfl|cases q.1
   erw[At,hk]at r2;erw[DvP,hk]at r3;subst r3;have hq:t.qh.contains d.gn=true:=by simpa only[Tb.gs,hd] using hq
   exact⟨_,fd,d.ps,CH i d fd hd hq r1,mgr (same q.2 (zW r2.1)),r1.kp,r1.binds r2.2⟩
  .cases q
def zd0(F:Fact t w K mg)(O:∀d∈t.tbl,okT t d=AD)(hT:∀i d,t.tbl[i]?=AA d->T i=AA d.fn):∀k,Fn2 t P w K mg base T k/\FnH t P w K mg base T k
 |0=>⟨λi d dv fd _ _=>zf9,λi d fd _ _ _=>zfq⟩
 |k+1=>by
  have ih:=zd0 F O hT k;refine⟨λi d dv fd h R=>?_,λi d fd h hq R=>?_⟩
  .have o:=O d (A7 h);erw[okT,okD,AI,decide_eq_true_eq]at o;let⟨⟨⟨⟨⟨o1,o2⟩,o3⟩,o4⟩,_⟩,_⟩:=o;let⟨⟨y⟩,_⟩:=A9.1 o4;exact R.ok (m:=2*k+1) (hT i d h) (zgJ o1) o2 o3 λ_ _ _ _ _ _ hr=>y (2*k) _ _ ⟨rfl,rfl,λ_=>rfl,hr.h,λ_=>hr.hd,λ_=>⟨own1,λ_=>rfl,rfl⟩,λ_=>⟨⟨_,rfl⟩,rfl,rfl⟩,zcA F O ih.1 ih.2⟩
  .have o:=O d (A7 h);erw[okT,okD,AI,decide_eq_true_eq]at o;let⟨⟨⟨⟨⟨o1,o2⟩,o3⟩,_⟩,oq⟩,_⟩:=o;have oh:okH t d=true:=by rw[hq]at oq;simpa using oq
   erw[okH,AI,BI]at oh;let⟨⟨y⟩,_⟩:=A9.1 oh.1.1;refine zjH (m:=2*k+1) (hT i d h) ⟨R.ex,R.kp⟩ (zgJ o1) o2 o3 oh.1.2 λcdv A outer s H hr=>y (2*k) _ _ ⟨rfl,rfl,(λh=>nomatch h),hr,(λh=>nomatch h),(λh=>nomatch h),(λh=>nomatch h),?_⟩;have G:=zcA (N:=d.N) (q:=d.q) (sc:=yg d.st) (f:=faA K t i) (cdv:=cdv) (A:=A) (outer:=outer) (s:=s) (H:=H) (E:=E0) F O ih.1 ih.2;exact⟨G.F,G.Q,G.C,G.D,G.E,G.N,G.B,G.T,G.A,G.M,λy D h=>let ⟨fa,fdd,ps,M,d⟩:=G.K y D h;⟨fa,fdd,ps,⟨M.F,M.kp,M.b⟩,d⟩,G.V,G.I,G.L,G.H,G.Z⟩
def zgO(F:Fact t w K mg)(O:∀d∈t.tbl,okT t d=AD)(hT:∀i d,t.tbl[i]?=AA d->T i=AA d.fn)(k:Nat):Fn2 t P w K mg base T k:=(zd0 F O hT k).1
def ydq:Nat->(List AE->Prop)->Prop
 |0,P=>P []
 |n+1,P=>∀a,ydq n λus=>P (a::us)
theorem ydq.get:∀{n:Nat} {P:List AE->Prop},ydq n P->∀us,us.length=n->P us
 |0,P,h,[],_=>h
 |n+1,P,h,a::us,e=>(h a).get us (by simpa using e)
theorem all_mk2{h:Ak}{fx:AG}(X:K.In h)(G:h.Ns mainGlobals mg)(hfa:mg "law"=AA (.ref fx))(R:ybg (ycl K (cnm t)) t.tbl)(B:ydF K t=AD)(D:ybg (λp=>∀cl,GD K w mg cl p.1 p.2) t.dd)(Kb:ybg (KbP t) t.kb)(Ml:ybg (λp=>GDF K w mg (faA K t) p.1 p.2) t.ml)
  (O:t.tbl.all (okT t)=AD) (hT:∀i d,t.tbl[i]?=AA d->T i=AA d.fn) {L:Nat} {st:B7} {N:List AM} {fn:IC.Fn} (hL:t.tbl[L]?=AA ⟨"law","law","law",st,N,["_law_script"],fn,.fn⟩) (lvl:Nat):
  ∃fd:Aj,(∀(s:AH) (v:AE),Dr s fd ⟨[v],[]⟩ [("_law_script",v)])/\∀base:Ak,K.In base->base.Ns mainGlobals mg->yaD P w K mg base (CX1 P w) (2*lvl) fx fd ["_law_script"] (spX K (yd T lvl) L):=by
 have F:Fact t w K mg:=⟨λx u e=>by
  cases u with
  |none=>exact PySem.W.mg_none_of X G e
  |some v=>exact Dc X G e,R,B,D,Kb,Ml⟩
 have O':=Ad.1 O;let⟨dv,fd,r1,r2,r3⟩:=zam F O' hL;have r3:dv=.none:=r3;subst r3;have r2:As K mainGlobals "law"=AA (AA (.ref (faA K t L)))/\yaF _:=r2;have e:=Value.ref.inj (AU (hfa.symm.trans (Dc X G r2.1)));subst e;refine⟨fd,λs v=>?_,λbase _ _=>(zgO F O' hT lvl L _ _ fd hL r1).imp λ_ _ _ _ h=>h _⟩;let⟨oc,od,kV,doc,pm,an,cdv,ct,osl,rfl,_⟩:=r1.ex;exact .of_eq (r2.2 kV doc pm an cdv ct v)
end
end L2
namespace IC
open PySem
def yen:List (AM×Nat):=[(AX "move",2),(AX "bare",3),(AX "sum",4),(AX "less",5),(AX "both",6),(AX "any",7),(AX "odd",8),(AX "twice",9),(AX "half",10)]
def yi:PV:=(.int 8)
def yeo:PV:=(.int 3)
def yb:PV:=(.tp AD [(.str "add"),(.str "less"),(.str "swap"),(.str "copy"),(.str "twice"),(.str "half"),(.str "bare"),(.str "both"),(.str "any"),(.str "odd"),(.str "nought"),(.str "clear"),(.str "one")])
section zq
local macro_rules|`(#[$x,*])=>do
 let mut a←`(.e)
 for y in x.getElems.reverse do a←`(.k $y $a)
 pure a
def yep:Fn:=⟨5,6,AD,#[.mkr 5 yen (.v 0) #[.v 1,.v 2,.v 3,.v 4]]⟩
def yeq:Fn:=⟨1,1,AD,#[.ret (.bin .sub (.bin .shl (.i 1) (.v 0)) (.i 1))]⟩
def yes:Fn:=⟨4,4,AD,#[.ret (.tup #[.v 1,.v 3])]⟩
def yet:Fn:=⟨4,4,AD,#[.ret (.tup #[.bin .sub (.call 1 #[.v 0]) (.v 1),.v 3])]⟩
def yeu:Fn:=⟨4,5,AD,#[.asg (.n 4) (.bin .add (.bin .add (.v 1) (.v 2)) (.v 3)),.ret (.tup #[.bin .band (.v 4) (.call 1 #[.v 0]),.bin .shr (.v 4) (.v 0)])]⟩
def yex:Fn:=⟨4,5,AD,#[.asg (.n 4) (.bin .sub (.bin .sub (.v 1) (.v 2)) (.v 3)),.ret (.tup #[.bin .band (.v 4) (.call 1 #[.v 0]),.ite (.cmp .lt (.v 4) (.i 0)) (.i 1) (.i 0)])]⟩
def yeA:Fn:=⟨4,4,AD,#[.ret (.tup #[.bin .band (.v 1) (.v 2),.v 3])]⟩
def yeK:Fn:=⟨4,4,AD,#[.ret (.tup #[.bin .bor (.v 1) (.v 2),.v 3])]⟩
def ye0:Fn:=⟨4,4,AD,#[.ret (.tup #[.bin .bxor (.v 1) (.v 2),.v 3])]⟩
def ye2:Fn:=⟨4,4,AD,#[.ret (.call 4 #[.v 0,.v 1,.v 1,.v 3])]⟩
def ye5:Fn:=⟨4,4,AD,#[.ret (.tup #[.bin .bor (.bin .shr (.v 1) (.i 1)) (.bin .shl (.v 3) (.bin .sub (.v 0) (.i 1))),.bin .band (.v 1) (.i 1)])]⟩
def yl:Fn:=⟨5,5,AF,#[.expr (.call 13 #[.v 0]),.ret (.call 14 #[.v 0,.v 1,.v 2,.v 3,.v 4])]⟩
def f_short:Fn:=⟨2,10,AF,#[.expr (.call 13 #[.v 0]),.asg (.n 2) (.call 16 #[.v 1]),.asg (.n 3) (.comp [AB,AB,AB,AA 0,AA 1] (.t [0,1,2]) (.seq (.v 2)) (.cst (.bl AD)) (.call 14 #[.v 3,.v 4,.v 0,.v 1,.v 2])),.asg (.n 4) (.comp [AB,AA 1,AA 2] (.n 0) (.seq (.cst yb)) (.cst (.bl AD)) (.tup #[.v 0,.call 17 #[.v 0,.v 1,.v 2]])),.asg (.n 5) (.i 0),.asg (.n 6) (.lst #[.tup #[.tup .e,.v 2]]),.for (.n 7) (.range1 (.bin .add (.cst yeo) (.i 1))) #[.ite (.cmp .gt (.v 7) (.i 0)) #[.asg (.n 6) (.call 18 #[.v 6,.v 4])] .e,.for (.t [8,9]) (.seq (.v 6)) #[.ite (.cmp .eq (.v 9) (.v 3)) #[.ret (.tup #[.v 8,.v 5])] .e,.aug 5 .add (.i 1)]],.ret (.tup #[.cst .non,.v 5])]⟩
def yj:Fn:=⟨1,2,AF,#[.forl (.n 1) (.v 0) #[.ite (.nin (.v 1) (.cst yb)) #[.raise 4 (.s "this is no row of the small machine")] .e],.ite (.cmp .gt (.blt .len #[.v 0]) (.cst yi)) #[.raise 8 (.fst #[.s "there are more than ",.cst yi,.s " rows"])] .e]⟩
def yD:Fn:=⟨5,6,AF,#[.forl (.n 5) (.v 0) #[.asg (.t [2,3,4]) (.call 15 #[.v 5,.v 1,.v 2,.v 3,.v 4])],.ret (.tup #[.v 2,.v 3,.v 4])]⟩
def yy:Fn:=⟨5,7,AD,#[.ite (.cmp .eq (.v 0) (.s "swap")) #[.ret (.tup #[.v 3,.v 2,.v 4])] .e,.ite (.cmp .eq (.v 0) (.s "copy")) #[.ret (.tup #[.v 2,.v 2,.v 4])] .e,.ite (.cmp .eq (.v 0) (.s "nought")) #[.ret (.tup #[.i 0,.v 3,.v 4])] .e,.ite (.cmp .eq (.v 0) (.s "clear")) #[.ret (.tup #[.v 2,.v 3,.i 0])] .e,.ite (.cmp .eq (.v 0) (.s "one")) #[.ret (.tup #[.v 2,.v 3,.i 1])] .e,.asg (.t [5,6]) (.call 0 #[.ite (.cmp .eq (.v 0) (.s "add")) (.s "sum") (.v 0),.v 1,.v 2,.v 3,.v 4]),.ret (.tup #[.v 5,.v 3,.v 6])]⟩
def yz:Fn:=⟨1,2,AD,#[.asg (.n 1) (.bin .shl (.i 1) (.v 0)),.ret (.cmq [AB,AB,AB,AA 1] (.n 0) (.range1 (.v 1)) (.emq (.n 1) (.range1 (.v 3)) (.emq (.n 2) (.range1 (.i 2)) (.tup #[.tup #[.v 0,.v 1,.v 2]]))))]⟩
def yE:Fn:=⟨3,6,AF,#[.ret (.dcm [AB,AB,AB,AA 0,AA 1] (.t [0,1,2]) (.seq (.v 2)) (.tup #[.v 0,.v 1,.v 2]) (.call 15 #[.v 3,.v 4,.v 0,.v 1,.v 2]))]⟩
def yx:Fn:=⟨2,2,AF,#[.ret (.cmq [AB,AB,AB,AB,AA 1] (.t [0,1]) (.seq (.v 0)) (.emq (.t [2,3]) (.seq (.v 4)) (.tup #[.tup #[.bin .add (.v 0) (.tup #[.v 2]),.comp [AB,AA 3] (.n 0) (.seq (.v 1)) (.cst (.bl AD)) (.dgt (.v 1) (.v 0))]])))]⟩
def ya6:Fn:=⟨1,1,AF,#[.ret (.newl #[.slc (.v 0) (.cst .non) (.i 63),.i 0,.i 0,.cst (.bl AF)])]⟩
def yab:Fn:=⟨1,8,AD,#[.asg (.n 1) (.tup #[.i 2147483647,.i 2147483629,.i 2147483587,.i 2147483579,.i 2147483563]),.asg (.n 2) (.i 0),.for (.t [3,4]) (.enum (.v 1)) #[.asg (.n 5) (.bin .add (.v 0) (.idx (.tup #[.i 11,.i 101,.i 1009,.i 10007,.i 100003]) (.v 3))),.asg (.n 5) (.bin .mod (.bin .mul (.v 5) (.bin .add (.i 48271) (.bin .mul (.i 2) (.v 3)))) (.v 4)),.asg (.n 6) (.bin .mod (.bin .mul (.v 5) (.v 5)) (.v 4)),.asg (.n 7) (.bin .mod (.bin .mul (.bin .mod (.bin .mul (.v 6) (.v 6)) (.v 4)) (.v 5)) (.v 4)),.asg (.n 2) (.bin .add (.bin .mul (.v 2) (.v 4)) (.v 7))],.ret (.v 2)]⟩
def yM:Fn:=⟨1,4,AF,#[.asg (.t [1,2]) (.tup #[.idx (.v 0) (.i 0),.idx (.v 0) (.i 1)]),.asg (.n 3) (.bin .add (.bin .mul (.i 31) (.v 2)) (.i 7)),.ite (.cmp .gt (.blt .len #[.v 1]) (.i 0)) #[.asg (.n 3) (.bin .mul (.i 104729) (.bin .fdiv (.v 2) (.blt .len #[.v 1]))),.asg (.n 3) (.bin .add (.v 3) (.idx (.v 1) (.bin .mod (.v 2) (.blt .len #[.v 1]))))] .e,.six (.v 0) (.i 1) (.bin .add (.v 2) (.i 1)),.six (.v 0) (.i 3) (.or (.cmp .ge (.v 2) (.blt .len #[.v 1])) (.cmp .lt (.v 3) (.bin .pow (.i 10) (.i 18)))),.ite (.idx (.v 0) (.i 3)) #[.six (.v 0) (.i 2) (.call 20 #[.v 3])] #[.six (.v 0) (.i 2) (.bin .sub (.v 3) (.bin .pow (.i 10) (.i 18)))]]⟩
def yH:Fn:=⟨2,4,AF,#[.asg (.n 2) (.i 0),.while (.and (.cmp .lt (.v 2) (.i 64)) (.or (.cmp .eq (.idx (.v 0) (.i 2)) (.i 0)) (.and (.idx (.v 0) (.i 3)) (.cmp .lt (.idx (.v 0) (.i 2)) (.bin .mul (.v 1) (.i 4096)))))) #[.expr (.call 21 #[.v 0]),.aug 2 .add (.i 1),.ite (.and (.idx (.v 0) (.i 3)) (.cmp .lt (.idx (.v 0) (.i 2)) (.bin .mul (.v 1) (.i 4096)))) #[.six (.v 0) (.i 2) (.bin .add (.idx (.v 0) (.i 2)) (.bin .mul (.bin .mul (.v 1) (.i 4096)) (.bin .add (.i 1) (.bin .mod (.idx (.v 0) (.i 2)) (.i 4093)))))] .e],.asg (.n 3) (.bin .mod (.idx (.v 0) (.i 2)) (.v 1)),.six (.v 0) (.i 2) (.bin .fdiv (.idx (.v 0) (.i 2)) (.v 1)),.ret (.v 3)]⟩
def ydx:Fn:=⟨1,1,AD,#[.ret (.and (.isi (.v 0) [.int]) (.not (.isi (.v 0) [.bool])))]⟩
def ydG:Fn:=⟨0,1,AD,#[.asg (.n 0) (.s "add less swap copy twice half bare both any odd nought clear one"),.ret (.blt .tuple #[.mth .split (.v 0) #[.s " "]])]⟩
def yA:Fn:=⟨5,5,AD,#[.ite (.cmp .eq (.v 0) (.s "swap")) #[.ret (.tup #[.v 3,.v 2,.v 4])] .e,.ite (.cmp .eq (.v 0) (.s "copy")) #[.ret (.tup #[.v 2,.v 2,.v 4])] .e,.ite (.cmp .isin (.v 0) (.tup #[.s "clear",.s "one"])) #[.ret (.tup #[.v 2,.v 3,.blt .int #[.cmp .eq (.v 0) (.s "one")]])] .e,.ite (.cmp .eq (.v 0) (.s "add")) #[.ret (.tup #[.bin .mod (.bin .add (.bin .add (.v 2) (.v 3)) (.v 4)) (.v 1),.v 3,.bin .fdiv (.bin .add (.bin .add (.v 2) (.v 3)) (.v 4)) (.v 1)])] .e,.ite (.cmp .eq (.v 0) (.s "less")) #[.ret (.tup #[.bin .mod (.bin .sub (.bin .sub (.v 2) (.v 3)) (.v 4)) (.v 1),.v 3,.blt .int #[.cmp .lt (.v 2) (.bin .add (.v 3) (.v 4))]])] .e,.ite (.cmp .eq (.v 0) (.s "twice")) #[.ret (.tup #[.bin .mod (.bin .add (.bin .mul (.i 2) (.v 2)) (.v 4)) (.v 1),.v 3,.blt .int #[.cmp .ge (.bin .mul (.i 2) (.v 2)) (.v 1)]])] .e,.ite (.cmp .eq (.v 0) (.s "half")) #[.ret (.tup #[.bin .fdiv (.bin .add (.v 2) (.bin .mul (.v 4) (.v 1))) (.i 2),.v 3,.bin .mod (.v 2) (.i 2)])] .e,.ite (.cmp .eq (.v 0) (.s "bare")) #[.ret (.tup #[.bin .sub (.bin .sub (.v 1) (.i 1)) (.v 2),.v 3,.v 4])] .e,.ite (.cmp .eq (.v 0) (.s "nought")) #[.ret (.tup #[.i 0,.v 3,.v 4])] .e,.ret (.tup #[.dsub [(AX "both"),(AX "any"),(AX "odd")] #[.bin .band (.v 2) (.v 3),.bin .bor (.v 2) (.v 3),.bin .bxor (.v 2) (.v 3)] (.v 0),.v 3,.v 4])]⟩
def yr:Fn:=⟨3,7,AD,#[.asg (.t [3,4,5]) (.v 2),.for (.n 6) (.seq (.v 0)) #[.asg (.t [3,4,5]) (.call 25 #[.v 6,.v 1,.v 3,.v 4,.v 5])],.ret (.tup #[.v 3,.v 4,.v 5])]⟩
def yq:Fn:=⟨2,3,AF,#[.asg (.n 2) (.call 22 #[.v 0,.bin .add (.v 1) (.i 1)]),.ret (.comp [AB,AA 0] (.n 0) (.range1 (.v 2)) (.cst (.bl AD)) (.idx (.call 24 .e) (.call 22 #[.v 1,.i 13])))]⟩
def yB:Fn:=⟨0,1,AD,#[.asg (.n 0) (.lst #[.tup #[.s "swap swap",.s ""],.tup #[.s "bare bare",.s ""],.tup #[.s "odd odd",.s ""],.tup #[.s "twice half",.s ""],.tup #[.s "half twice",.s ""]]),.asg (.n 0) (.bin .add (.v 0) (.lst #[.tup #[.s "both both",.s "both"],.tup #[.s "any any",.s "any"],.tup #[.s "clear one",.s "one"],.tup #[.s "one clear",.s "clear"]])),.asg (.n 0) (.bin .add (.v 0) (.lst #[.tup #[.s "copy odd",.s "copy nought"],.tup #[.s "copy both",.s "copy"],.tup #[.s "copy any",.s "copy"],.tup #[.s "copy swap",.s "copy"]])),.asg (.n 0) (.bin .add (.v 0) (.lst #[.tup #[.s "nought bare any",.s "nought bare"],.tup #[.s "nought both",.s "nought"],.tup #[.s "swap copy swap",.s "swap copy"]])),.ret (.bin .add (.v 0) (.lst #[.tup #[.s "bare clear add bare",.s "clear less"],.tup #[.s "copy clear add",.s "copy clear twice"]]))]⟩
def ym:Fn:=⟨4,5,AD,#[.asg (.n 4) (.call 26 #[.v 0,.bin .mul (.i 2) (.idx (.lst #[.i 1,.i 2,.i 4]) (.bin .sub (.v 2) (.i 1))),.v 3]),.ret (.chain .eq .eq (.call 11 #[.v 0,.v 2,.idx (.v 3) (.i 0),.idx (.v 3) (.i 1),.idx (.v 3) (.i 2)]) (.v 4) (.call 11 #[.v 1,.v 2,.idx (.v 3) (.i 0),.idx (.v 3) (.i 1),.idx (.v 3) (.i 2)]))]⟩
def yaj:Fn:=⟨1,14,AD,#[.asg (.n 1) (.call 19 #[.v 0]),.asg (.t [2,3]) (.idx (.call 28 .e) (.call 22 #[.v 1,.i 18])),.asg (.n 4) (.idx (.tup #[.i 1,.i 2,.i 1,.i 2,.i 2,.i 3]) (.call 22 #[.v 1,.i 6])),.asg (.n 5) (.bin .mul (.i 2) (.idx (.lst #[.i 1,.i 2,.i 4]) (.bin .sub (.v 4) (.i 1)))),.asg (.n 6) (.call 27 #[.v 1,.i 2]),.asg (.n 7) (.call 27 #[.v 1,.i 2]),.asg (.n 8) (.bin .add (.bin .add (.v 6) (.comp [AB] (.n 0) (.seq (.mth .split (.v 2) #[.s " "])) (.cmp .ne (.v 0) (.s "")) (.v 0))) (.v 7)),.asg (.n 9) (.bin .add (.bin .add (.v 6) (.comp [AB] (.n 0) (.seq (.mth .split (.v 3) #[.s " "])) (.cmp .ne (.v 0) (.s "")) (.v 0))) (.v 7)),.asg (.n 10) (.call 12 #[.v 8,.v 4]),.ite (.or (.not (.isi (.v 10) [.tuple])) (.or (.cmp .ne (.blt .len #[.v 10]) (.i 2)) (.or (.not (.call 23 #[.idx (.v 10) (.i 1)])) (.cmp .ne (.call 12 #[.v 9,.v 4]) (.v 10))))) #[.ret (.cst (.bl AF))] .e,.asg (.n 11) (.v 9),.ite (.cmp .is (.idx (.v 10) (.i 0)) (.cst .non)) #[.ite (.or (.cmp .ne (.idx (.v 10) (.i 1)) (.i 2380)) (.cmp .lt (.blt .min #[.blt .len #[.v 8],.blt .len #[.v 9]]) (.i 4))) #[.ret (.cst (.bl AF))] .e] #[.asg (.n 11) (.blt .list #[.idx (.v 10) (.i 0)]),.ite (.or (.cmp .gt (.blt .len #[.v 11]) (.blt .min #[.blt .len #[.v 8],.blt .len #[.v 9]])) (.cmp .ne (.call 12 #[.v 11,.v 4]) (.v 10))) #[.ret (.cst (.bl AF))] .e],.for (.n 12) (.range1 (.i 6)) #[.asg (.n 13) (.tup #[.call 22 #[.v 1,.v 5],.call 22 #[.v 1,.v 5],.call 22 #[.v 1,.i 2]]),.ite (.not (.call 29 #[.v 8,.v 11,.v 4,.v 13])) #[.ret (.cst (.bl AF))] .e],.ret (.cst (.bl AD))]⟩
end zq
def Tl:List Fn:=[yep,yeq,yes,yet,yeu,yex,yeA,yeK,ye0,ye2,ye5,yl,f_short,yj,yD,yy,yz,yE,yx,ya6,yab,yM,yH,ydx,ydG,yA,yr,yq,yB,ym,yaj]
def T(i:Nat):Option Fn:=Tl[i]?
abbrev yfb:Nat:=11
abbrev yfe:Nat:=12
abbrev yk:Nat:=13
abbrev yfn:Nat:=14
abbrev yn:Nat:=15
abbrev yf:Nat:=16
abbrev yft:Nat:=17
abbrev yfC:Nat:=18
abbrev yfF:Nat:=19
abbrev yea:Nat:=20
abbrev yfP:Nat:=21
abbrev yeg:Nat:=22
abbrev yei:Nat:=24
abbrev yfV:Nat:=25
abbrev yf1:Nat:=26
abbrev yf6:Nat:=27
abbrev yv:Nat:=28
abbrev ygb:Nat:=29
abbrev ycw:Nat:=30
end IC
namespace WK
open PySem L2 IC
def top(i:Nat):Stmt:=Cq.main.body.getD i (.Pass ⟨0,0,0,0⟩)
def tbQ:Tb where
 tbl:=[⟨"made","made","made",top 5,["name","w","x","y","k","make"],["name","w","x","y","k"],yep,.fn⟩,⟨"highest","highest","highest",top 6,["w"],["w"],yeq,.fn⟩,⟨"moved","moved","moved",top 7,["w","x","y","k"],["w","x","y","k"],yes,.fn⟩,⟨"bared","bared","bared",top 8,["w","x","y","k"],["w","x","y","k"],yet,.fn⟩,⟨"summed","summed","summed",top 9,["w","x","y","k","total"],["w","x","y","k"],yeu,.fn⟩,⟨"taken_away","taken_away","taken_away",top 10,["w","x","y","k","total"],["w","x","y","k"],yex,.fn⟩,⟨"in_both","in_both","in_both",top 11,["w","x","y","k"],["w","x","y","k"],yeA,.fn⟩,⟨"in_any","in_any","in_any",top 12,["w","x","y","k"],["w","x","y","k"],yeK,.fn⟩,⟨"in_one","in_one","in_one",top 13,["w","x","y","k"],["w","x","y","k"],ye0,.fn⟩,⟨"doubled","doubled","doubled",top 14,["w","x","y","k"],["w","x","y","k"],ye2,.fn⟩,⟨"halved","halved","halved",top 15,["w","x","y","k"],["w","x","y","k"],ye5,.fn⟩,⟨"small_run","small_run","small_run",top 21,["rows","w","lo","hi","k"],["rows","w","lo","hi","k"],yl,.fn⟩,⟨"short","short","short",top 22,["rows","w","begun","wanted","tables","looked","tried","length","found","ended"],["rows","w"],f_short,.fn⟩,⟨"refuse_rows","refuse_rows","refuse_rows",top 23,["rows","row"],["rows"],yj,.fn⟩,⟨"all_done","all_done","all_done",top 24,["rows","w","lo","hi","k","row"],["rows","w","lo","hi","k"],yD,.fn⟩,⟨"small_done","small_done","small_done",top 25,["row","w","lo","hi","k","word","mark"],["row","w","lo","hi","k"],yy,.fn⟩,⟨"every_state","every_state","every_state",top 26,["w","size"],["w"],yz,.fn⟩,⟨"table_of","table_of","table_of",top 27,["row","w","begun","lo","hi","k"],["row","w","begun"],yE,.fn⟩,⟨"one_longer","one_longer","one_longer",top 28,["tried","tables"],["tried","tables"],yx,.fn⟩,⟨"_law_fresh","_law_fresh","_law_fresh",top 30,["_law_script"],["_law_script"],ya6,.fn⟩,⟨"_law_mixed","_law_mixed","_law_mixed",top 31,["_law_seed","_law_primes","_law_number","_law_k","_law_prime","_law_far","_law_square","_law_power"],["_law_seed"],yab,.fn⟩,⟨"_law_fill","_law_fill","_law_fill",top 32,["_law_state","_law_cells","_law_at","_law_seed"],["_law_state"],yM,.fn⟩,⟨"_law_take","_law_take","_law_take",top 33,["_law_state","_law_many","_law_turns","_law_digit"],["_law_state","_law_many"],yH,.fn⟩,⟨"_law_whole","_law_whole","_law_whole",top 34,["_law_thing"],["_law_thing"],ydx,.fn⟩,⟨"_law_texts","_law_texts","_law_texts",top 35,["_law_words"],[],ydG,.fn⟩,⟨"_law_small_one","_law_small_one","_law_small_one",top 36,["_law_row","_law_wide","_law_lo","_law_hi","_law_k"],["_law_row","_law_wide","_law_lo","_law_hi","_law_k"],yA,.fn⟩,⟨"_law_small_all","_law_small_all","_law_small_all",top 37,["_law_rows","_law_wide","_law_begin","_law_lo","_law_hi","_law_k","_law_row"],["_law_rows","_law_wide","_law_begin"],yr,.fn⟩,⟨"_law_small_rows","_law_small_rows","_law_small_rows",top 38,["_law_state","_law_most","_law_many"],["_law_state","_law_most"],yq,.fn⟩,⟨"_law_alike_pieces","_law_alike_pieces","_law_alike_pieces",top 39,["_law_told"],[],yB,.fn⟩,⟨"_law_same_ends","_law_same_ends","_law_same_ends",top 40,["_law_one","_law_other","_law_w","_law_begin","_law_due"],["_law_one","_law_other","_law_w","_law_begin"],ym,.fn⟩,⟨"law","law","law",top 41,["_law_script","_law_state","_law_one","_law_other","_law_w","_law_wide","_law_ahead","_law_behind_it","_law_first","_law_second","_law_found","_law_rows","_law_turn","_law_begin"],["_law_script"],yaj,.fn⟩]
 al:=[eF "made" 0,eF "highest" 1,eF "moved" 2,eF "bared" 3,eF "summed" 4,eF "taken_away" 5,eF "in_both" 6,eF "in_any" 7,eF "in_one" 8,eF "doubled" 9,eF "halved" 10,eF "small_run" 11,eF "short" 12,eF "refuse_rows" 13,eF "all_done" 14,eF "small_done" 15,eF "every_state" 16,eF "table_of" 17,eF "one_longer" 18,eF "_law_fresh" 19,eF "_law_mixed" 20,eF "_law_fill" 21,eF "_law_take" 22,eF "_law_whole" 23,eF "_law_texts" 24,eF "_law_small_one" 25,eF "_law_small_all" 26,eF "_law_small_rows" 27,eF "_law_alike_pieces" 28,eF "_law_same_ends" 29,eF "law" 30,eC "MOST_ROWS" (.int (8)),eC "MOST_SHORT" (.int (3)),eC "SMALL_ROWS" yb,eG "NoRow" (.exc 4),eG "TooMany" (.exc 8)]
 bs:=["bool","enumerate","int","isinstance","len","list","min","range","tuple"]
 ts:=[.bool,.int,.tuple]
 fl:=[]
 me:=[]
 kb:=[]
 cn:=[eN 4 "NoRow",eN 8 "TooMany"]
 dd:=[]
 ml:=[eL "MAKERS" yen]
 xs:=[]
 xc:=[]
 xm:=[]
 qh:=[]
theorem ok_all:tbQ.tbl.all (okT tbQ)=true:=by decide +kernel
theorem T_ok:∀i d,tbQ.tbl[i]?=AA d->T i=AA d.fn:=λi d h=>by
 have e:Tl=tbQ.tbl.map (·.fn):=rfl;rw[T,e,Av,h];rfl
theorem kb_all:ybg (KbP tbQ) tbQ.kb:=trivial
mutual
noncomputable def pvq:PV->PV->Bool
 |.non,.non=>AD
 |.bl a,.bl b=>a==b
 |.int i,.int j=>decide (i=j)
 |.str x,.str y=>decide (x=y)
 |.tp k xs,.tp l ys=>(k==l)&&ybW xs ys
 |.lst xs,.lst ys=>ybW xs ys
 |_,_=>AF
noncomputable def ybW:List PV->List PV->Bool
 |[],[]=>AD
 |x::xs,y::ys=>pvq x y&&ybW xs ys
 |_,_=>AF
end
mutual
theorem zig:∀(a b:PV),pvq a b=AD->a=b
 |.non,b,h=>by cases b<;>simp[pvq]at h ⊢
 |.bl a,b,h=>by cases b<;>simp[pvq]at h ⊢;exact h
 |.int a,b,h=>by cases b<;>simp[pvq]at h ⊢;exact h
 |.str a,b,h=>by cases b<;>simp[pvq]at h ⊢;exact h
 |.tp k xs,b,h=>by
  cases b<;>simp[pvq]at h ⊢
  exact⟨h.1,zbk _ _ h.2⟩
 |.lst xs,b,h=>by
  cases b<;>simp[pvq]at h ⊢
  exact zbk _ _ h
 |.loc _,b,h=>by cases b<;>simp[pvq]at h
 |.fnc _,b,h=>by cases b<;>simp[pvq]at h
 |.exn _,b,h=>by cases b<;>simp[pvq]at h
 |.scr _,b,h=>by cases b<;>simp[pvq]at h
theorem zbk:∀(a b:List PV),ybW a b=AD->a=b
 |[],b,h=>by cases b<;>simp[ybW]at h ⊢
 |x::xs,b,h=>by
  cases b with
  |nil=>simp[ybW]at h
  |cons y ys=>
   simp[ybW]at h;rw[zig x y h.1,zbk xs ys h.2]
end
def chS(c:Nat):Str:=⟨#[c]⟩
def ydP(c:Nat)(i:Int):PV:=.tup [.str (chS c),.int i]
abbrev Mem:=Nat->Int->Int
def upd(M:Mem)(c:Nat)(i v:Int):Mem:=λd j=>if d=c/\j=i then v else M d j
def Rel(kvs:List (PV×PV))(M:Mem):Prop:=∀c i,(look (ydP c i) kvs).getD (.int 0)=.int (M c i)
abbrev Cel:=Nat×Int
inductive Rw where
 |mark (d:Int)|ask (x:Cel)|set (t:Cel) (d:Int)|move (t x:Cel)|bare (t x:Cel)|twice (t x:Cel)|half (t x:Cel)
 |sum (t x y:Cel)|less (t x y:Cel)|both (t x y:Cel)|any (t x y:Cel)|odd (t x y:Cel)
def zf2{st:SO}{n:Nat}{o:Ob}(h:st[n]?=AA o):st=st.set n o:=by
 refine FD λi=>?_;rw[Ci];split
 .rename_i e;subst e;split
  .exact h
  .rename_i z;rw[An ∅]at h
   cases h
 .rfl
def zb9(i:Int):shp (.int i)=true:=rfl
section
variable {st:SO}{k:Bool}{a b c d e:PV}{r:List PV}{i j:Int}
theorem b_add:yw .add (.int i) (.int j)=AA (.int (i+j)):=rfl
theorem b_sub:yw .sub (.int i) (.int j)=AA (.int (i-j)):=rfl
def zhP(h:i.natAbs<18446744073709551616 \/ j.natAbs<18446744073709551616):yw .mul (.int i) (.int j)=AA (.int (i*j)):=by
 have:yau i j=true:=by simpa [yau] using h
 simp[yw,binI,this]
def zgz(h:i.natAbs<18446744073709551616):yw .mul (.int i) (.int j)=AA (.int (i*j)):=zhP (.inl h)
def zeW(h:j.natAbs<18446744073709551616):yw .mul (.int i) (.int j)=AA (.int (i*j)):=zhP (.inr h)
theorem b_mul2:yw .mul (.int 2) (.int j)=AA (.int (2*j)):=zhP (.inl ⋯)
def zkq(h:0<j)(h2:j<18446744073709551616*18446744073709551616):yw .fdiv (.int i) (.int j)=AA (.int (i/j)):=by
 have h3:j<10000000000000000000000000000000000000000000000000000000000000000000000:=by lia
 simp[yw,binI,h,h3]
theorem b_div2:yw .fdiv (.int i) (.int 2)=AA (.int (i/2)):=rfl
def zix(h:0<j):yw .mod (.int i) (.int j)=AA (.int (i%j)):=if_pos h
theorem toR_some{v:PV}:toR (AA v) st=.ok v st:=rfl
def zhM:peq (.int i) (.int j)=(i==j):=rfl
theorem c_ne:yC .ne (.int i) (.int j)=AA (.bl (!(i==j))):=rfl
theorem c_eq:yC .eq (.int i) (.int j)=AA (.bl (i==j)):=rfl
theorem c_lt:yC .lt (.int i) (.int j)=AA (.bl (decide (i<j))):=rfl
theorem c_le:yC .le (.int i) (.int j)=AA (.bl (decide (i<=j))):=rfl
theorem c_gt:yC .gt (.int i) (.int j)=AA (.bl (decide (j<i))):=rfl
theorem c_ge:yC .ge (.int i) (.int j)=AA (.bl (decide (j<=i))):=rfl
theorem t_bl{b:Bool}:yar st (.bl b)=AA b:=rfl
theorem on_t{f:Bool->Fl}{b:Bool}:onF (AA b) f=f b:=rfl
theorem ono{α:Type}{f:Bool->R α}{b:Bool}:onO (AA b) f=f b:=rfl
theorem nxO_some{ρ:IC.Env}:nxO (AA ρ) st=.nx ρ st:=rfl
theorem fl_ok{α:Type}{a:α}{ρ:IC.Env}{k:α->SO->Fl}:(R.ok a st).fl ρ k=k a st:=rfl
theorem bd_ok{α β:Type}{a:α}{k:α->SO->R β}:(R.ok a st).bind k=k a st:=rfl
theorem th_nx{ρ:IC.Env}{k:IC.Env->SO->Fl}:yaz (.nx ρ st) k=k ρ st:=rfl
theorem th_rt{v:PV}{k:IC.Env->SO->Fl}:yaz (.rt v st) k=.rt v st:=rfl
theorem fl_exc{α:Type}{c:Nat}{ρ:IC.Env}{k:α->SO->Fl}:(R.exc c st:R α).fl ρ k=.exc c ρ st:=rfl
theorem bd_exc{α β:Type}{c:Nat}{k:α->SO->R β}:(R.exc c st:R α).bind k=.exc c st:=rfl
theorem th_exc{c:Nat}{ρ:IC.Env}{k:IC.Env->SO->Fl}:yaz (.exc c ρ st) k=.exc c ρ st:=rfl
theorem noLocs_ints:∀(l:List Int),nLs (l.map PV.int)=AD
 |[]=>rfl
 |_::l=>by simp[nLs,nL,noLocs_ints l]
theorem bT_n{i:Nat}{v:PV}{ρ:IC.Env}:yo (.n i) v ρ=AA (ρ.set i (AA v)):=rfl
end
def yZ:PV:=.tup [.int 2147483647,.int 2147483629,.int 2147483587,.int 2147483579,.int 2147483563]
def yct:Css:=match yab.body with
 |.cons _ (.cons _ (.cons (.for _ _ b) _))=>b
 |_=>.nil
def zaw{c:Cl}{s num g p:Int}{i:Nat}{u5 u6 u7:Option PV}(hg:∀st,idxV st (.tup [.int 11,.int 101,.int 1009,.int 10007,.int 100003]) (.int i)=AA (.int g))(hi:i<5)(hp:0<p)(hp2:p<18446744073709551616):
  ∃num' v5 v6 v7,exs c [AA (.int s),AA yZ,AA (.int num),AA (.int i),AA (.int p),u5,u6,u7] [] yct=.nx [AA (.int s),AA yZ,AA (.int num'),AA (.int i),AA (.int p),v5,v6,v7] []:=by
 have h1:∀z:Int,yw .mul (.int z) (.int (48271+2*(i:Int)))=AA (.int (z*(48271+2*(i:Int)))):=λz=>zeW ∅;have h2:∀z y:Int,yw .mul (.int z) (.int (y%p))=AA (.int (z*(y%p))):=λz y=>zeW (by
  have a:=EB y (show p≠0 by lia);have b:=D2 y hp;lia)
 have h3:∀z:Int,yw .mul (.int z) (.int p)=AA (.int (z*p)):=λz=>zeW ∅;erw[yct,yab,Am,CF,Nat.zero_add,Nat.reduceAdd,if_true,xs_cons,xs_nil,x_asg,IC.ve1,IC.ve2,IC.ve3,IC.ve11,IC.ve16,evs,Ae,Ac,bd_ok,fl_ok,toR_some,bT_n,nxO_some,th_nx,BP,BQ,sizeMax,Nat.reduceLeDiff,b_add,b_mul2,hg,h1,h2,h3,zix hp];exact⟨_,_,_,_,rfl⟩
def zfd{c:Cl}{s num:Int}{u5 u6 u7:Option PV}(i:Nat)(p:Int)(h:(i,p)∈[(0,(2147483647:Int)),(1,2147483629),(2,2147483587),(3,2147483579),(4,2147483563)]):
  ∃num' v5 v6 v7,exs c [AA (.int s),AA yZ,AA (.int num),AA (.int i),AA (.int p),u5,u6,u7] [] yct=.nx [AA (.int s),AA yZ,AA (.int num'),AA (.int i),AA (.int p),v5,v6,v7] []:=by
 erw[A5,Fj,CA,or_false]at h;rcases h with⟨rfl,rfl⟩|⟨rfl,rfl⟩|⟨rfl,rfl⟩|⟨rfl,rfl⟩|⟨rfl,rfl⟩
 .exact zaw (λ_=>rfl) ⋯ ⋯ ⋯
 .exact zaw (λ_=>rfl) ⋯ ⋯ ⋯
 .exact zaw (λ_=>rfl) ⋯ ⋯ ⋯
 .exact zaw (λ_=>rfl) ⋯ ⋯ ⋯
 .exact zaw (λ_=>rfl) ⋯ ⋯ ⋯
def yc8:List PV:=[.tup [.int 0,.int 2147483647],.tup [.int 1,.int 2147483629],.tup [.int 2,.int 2147483587],.tup [.int 3,.int 2147483579],.tup [.int 4,.int 2147483563]]
theorem mixed(k:Nat)(s:Int)(st:SO):∃num,yd T (k+1) yea [.int s] st=.ok (.int num) st:=by
 let⟨ρ',st',h,num,a,b,c,d,e,e1,e2⟩:=zcI (call:=yd T k) (t:=.t [3,4]) (b:=yct) (λ_ ρ st=>∃num a b c d e,ρ=[AA (.int s),AA yZ,AA (.int num),a,b,c,d,e]/\st=[]) yc8 0 [AA (.int s),AA yZ,AA (.int 0),AB,AB,AB,AB,AB] [] ⟨_,_,_,_,_,_,rfl,rfl⟩ (by
  rintro j x ρ st hx ⟨num,a,b,c,d,e,rfl,rfl⟩
  have hx:=A7 hx;have hx:∃i p,x=.tup [.int ((i:Nat):Int),.int p]/\(i,p)∈[(0,(2147483647:Int)),(1,2147483629),(2,2147483587),(3,2147483579),(4,2147483563)]:=by
   erw[yc8,A5,CA,or_false]at hx;rcases hx with rfl|rfl|rfl|rfl|rfl
   .exact⟨0,_,rfl,by simp⟩
   .exact⟨1,_,rfl,by simp⟩
   .exact⟨2,_,rfl,by simp⟩
   .exact⟨3,_,rfl,by simp⟩
   .exact⟨4,_,rfl,by simp⟩
  let⟨i,p,rfl,hm⟩:=hx;let⟨num',v5,v6,v7,hh⟩:=zfd (c:=yd T k) (s:=s) (num:=num) (u5:=c) (u6:=d) (u7:=e) i p hm;exact⟨_,_,_,rfl,hh,_,_,_,_,_,_,rfl,rfl⟩)
 subst e1 e2;refine⟨num,?_⟩;rw[yd];have hb:yab.body=.cons (.asg (.n 1) (.tup (.cons (.cst (.int 2147483647)) (.cons (.cst (.int 2147483629)) (.cons (.cst (.int 2147483587)) (.cons (.cst (.int 2147483579)) (.cons (.cst (.int 2147483563)) .nil))))))) (.cons (.asg (.n 2) (.cst (.int 0))) (.cons (.for (.t [3,4]) (.enum (.var 1)) yct) (.cons (.ret (.var 2)) .nil))):=rfl;have hT:T yea=AA ⟨1,8,AD,yab.body⟩:=rfl;have hp:PV.tup [.int 2147483647,.int 2147483629,.int 2147483587,.int 2147483579,.int 2147483563]=yZ:=rfl;rw[hT,hb];have h5:ev (yd T k) [AA (.int s),AB,AB,AB,AB,AB,AB,AB] [] (.tup (.cons (.cst (.int 2147483647)) (.cons (.cst (.int 2147483629)) (.cons (.cst (.int 2147483587)) (.cons (.cst (.int 2147483579)) (.cons (.cst (.int 2147483563)) .nil))))))=.ok yZ []:=by
  simp[IC.ve1,IC.ve11,evs,R.bind,sizeMax,yZ]
 have he:evi (yd T k) [AA (.int s),AA yZ,AA (.int 0),AB,AB,AB,AB,AB] [] (.enum (.var 1))=.ok yc8 []:=by
  simp[evi,IC.ve2,R.bind,yZ,yR,yc8]
 erw[Am,CF,if_true,nLs,nL,CL,AS,CD,E4,Ap,Cp,DD,xs_cons,xs_nil,x_asg,x_for,x_ret,h5,R.fl,yo,nxO,yaz,BP,BQ,IC.ve1,he,h,IC.ve2,Ae,Ac]
def zG(ys:List PV)(h:ys.length<=1000000)(st:SO):ybh (.ok ys st)=.ok (.lst ys) st:=by simp[ybh,h]
def zfX(n:Nat)(h:n<1000):ybS (.int (n:Int))=AA (yu n 0 1):=by
 simp[ybS];lia
def zah{z:Int}(h:0<=z):∃n:Nat,z=n:=⟨z.toNat,by lia⟩
def ycI(st:SO)(f:Fl):R PV:=
 match f with
 |.rt v _=>if nL v then .ok v st else .bad
 |.nx _ _=>.ok .non st
 |.exc c _ _=>.exc c st
 |_=>.bad
def zN{T:Nat->Option IC.Fn}{k f:Nat}{fn:IC.Fn}{args:List PV}{st:SO}(hT:T f=AA fn)(hp:fn.pure=AD)(hl:args.length=fn.np)(hn:nLs args=AD):
  yd T (k+1) f args st=ycI st (exs (yd T k) (args.map AA++Ap (fn.ns-fn.np) AB) [] fn.body):=by
 rw[yd,hT];dsimp only;rw[if_pos hl,if_pos hp,if_pos hn];rfl
def outI(f:Fl):R PV:=
 match f with
 |.rt v st1=>.ok v st1
 |.nx _ st1=>.ok .non st1
 |.exc c _ st1=>.exc c st1
 |_=>.bad
def zo{T:Nat->Option IC.Fn}{k f:Nat}{fn:IC.Fn}{args:List PV}{st:SO}(hT:T f=AA fn)(hp:fn.pure=AF)(hl:args.length=fn.np):
  yd T (k+1) f args st=outI (exs (yd T k) (args.map AA++Ap (fn.ns-fn.np) AB) st fn.body):=by
 rw[yd,hT];dsimp only;rw[if_pos hl,hp,if_neg (by simp)];rfl
def zbr{st:SO}{v:PV}:outI (.rt v st)=.ok v st:=rfl
def ziY{st s:SO}{b:Bool}:ycI st (.rt (.bl b) s)=.ok (.bl b) st:=rfl
set_option backward.eqns.nonrecursive true
local macro_rules | `(tactic| simp! [$xs,*])=>do
 let l<-("IC.xs_cons IC.xs_nil IC.x_asg IC.x_ite IC.x_ret IC.x_expr IC.x_for IC.x_six IC.x_raise IC.evs IC.evi IC.ve1 IC.ve2 IC.ve3 IC.ve5 IC.ve6 IC.ve7 IC.ve8 IC.ve9 IC.ve10 IC.ve11 IC.ve12 IC.ve13 IC.ve16 IC.ve17 IC.ve18 IC.ve19 IC.ve20 IC.ve21 IC.ve24 IC.ve26 IC.v_comp List.getElem?_cons_zero List.getElem?_cons_succ WK.bd_ok WK.fl_ok WK.bd_exc WK.fl_exc WK.toR_some IC.toL WK.bT_n WK.nxO_some WK.th_nx WK.th_rt WK.th_exc List.set_cons_zero List.set_cons_succ WK.on_t WK.t_bl WK.ono IC.onBl cond_true cond_false List.length_cons List.length_nil Nat.zero_add Nat.reduceAdd Nat.reduceSub Nat.reduceLeDiff if_true IC.nL IC.nLs WK.noLocs_ints Bool.and_self Bool.not_true Bool.not_false List.map_cons List.map_nil List.replicate List.cons_append List.nil_append List.append_nil Option.bind_none Option.bind_some Option.join_some WK.b_add WK.b_sub WK.b_mul2 WK.b_div2 WK.c_lt WK.c_le WK.c_gt WK.c_ge WK.c_eq WK.c_ne IC.PV.tup IC.sizeMax".splitOn " ").toArray.mapM λs=>`(Lean.Parser.Tactic.simpLemma| $(Lean.mkIdent s.toName):term)
 `(tactic| simp only[$l,*,$xs,*])
theorem rdS{st:SO}{n:Nat}{o x:Ob}(h:st[n]?=AA o):(st.set n x)[n]?=AA x:=by
 have:n<st.length:=by
  rcases Cj n st.length with h1|h1
  .exact h1
  .rw[An h1]at h;cases h
 rw[Aw this]
def zir(ns:List Int)(a:Int)(h:ns≠[]):∃v,yaS (ns.map PV.int) (.int (a%(ns.length:Int)))=AA (.int v):=by
 have h0:0<ns.length:=EX.2 h;have h1:=EB a (show (ns.length:Int)≠0 by lia);have h2:=D2 a (show (0:Int)<ns.length by lia);have h3:(a%(ns.length:Int)).toNat<ns.length:=by lia
 refine⟨ns[(a%(ns.length:Int)).toNat],?_⟩;simp[yaS,at?,ixI,h1,h2,h3]
def flT:Css:=match yM.body with
 |.cons _ (.cons _ (.cons _ t))=>t
 |x=>x
abbrev flS(l:PV)(a p:Int)(f:Bool):Ob:=.lst [l,.int a,.int p,.bl f]
def zkp{st:SO}{n:Nat}{l:PV}{a p v:Int}{f:Bool}(h:st[n]?=AA (flS l a p f)):yaZ st (.loc n) (.int 1) (.int v)=AA (st.set n (flS l v p f)):=by erw[yaZ,h];rfl
def zkg{st:SO}{n:Nat}{l:PV}{a p v:Int}{f:Bool}(h:st[n]?=AA (flS l a p f)):yaZ st (.loc n) (.int 2) (.int v)=AA (st.set n (flS l a v f)):=by erw[yaZ,h];rfl
def zj4{st:SO}{n:Nat}{l:PV}{a p:Int}{f g:Bool}(h:st[n]?=AA (flS l a p f)):yaZ st (.loc n) (.int 3) (.bl g)=AA (st.set n (flS l a p g)):=by erw[yaZ,h];rfl
def zld{st:SO}{n:Nat}{l:PV}{a p:Int}{f:Bool}(h:st[n]?=AA (flS l a p f)):idxV st (.loc n) (.int 0)=AA l:=by erw[idxV,h];rfl
def zle{st:SO}{n:Nat}{l:PV}{a p:Int}{f:Bool}(h:st[n]?=AA (flS l a p f)):idxV st (.loc n) (.int 1)=AA (.int a):=by erw[idxV,h];rfl
def zlf{st:SO}{n:Nat}{l:PV}{a p:Int}{f:Bool}(h:st[n]?=AA (flS l a p f)):idxV st (.loc n) (.int 3)=AA (.bl f):=by erw[idxV,h];rfl
theorem p18:yw .pow (.int 10) (.int 18)=AA (.int 1000000000000000000):=by with_unfolding_all rfl
def zcR(k n:Nat){l:PV}{m a v p q:Int}{f g:Bool}{st:SO}(h:st[n]?=AA (flS l a p f))(hl:∀st,yah .len st [l]=AA (.int m))(hg:(decide (a ≥ m) || decide (v<1000000000000000000))=g)
  (h1:g=AD->yd T (k+1) yea [.int v] (st.set n (flS l (a+1) p AD))=.ok (.int q) (st.set n (flS l (a+1) p AD))) (h2:g=AF->q=v-1000000000000000000):
  exs (yd T (k+1)) [AA (.loc n),AA l,AA (.int a),AA (.int v)] st flT=.nx [AA (.loc n),AA l,AA (.int a),AA (.int v)] (st.set n (flS l (a+1) q g)):=by
 have s1:=zkp h (v:=a+1);have r1:=rdS h (x:=flS l (a+1) p f);have s2:=zj4 r1 (g:=g);have r2:=rdS r1 (x:=flS l (a+1) p g);have s3:=zkg r2 (v:=q);have i3:=zlf r2;rw[Dw]at s2 s3 i3 r2;rw[Dw]at s3
 have hb:flT=(match flT with
  |.cons a (.cons (.six x y _) r)=>.cons a (.cons (.six x y (.or (.cmp .ge (.var 2) (.blt .len (.cons (.var 1) .nil))) (.cmp .lt (.var 3) (.bin .pow (.cst (.int 10)) (.cst (.int 18)))))) r)
  |x=>x):=rfl
 have hor:∀st,ev (yd T (k+1)) [AA (.loc n),AA l,AA (.int a),AA (.int v)] st (.or (.cmp .ge (.var 2) (.blt .len (.cons (.var 1) .nil))) (.cmp .lt (.var 3) (.bin .pow (.cst (.int 10)) (.cst (.int 18)))))=.ok (.bl g) st:=λst=>by
  cases c:decide (a ≥ m)
  .rw[c,Fg]at hg;simp! [hl,c,p18,hg]
  .rw[c,Fx]at hg;subst hg;simp! [hl,c]
 generalize hE:(Ce.or (.cmp .ge (.var 2) (.blt .len (.cons (.var 1) .nil))) (.cmp .lt (.var 3) (.bin .pow (.cst (.int 10)) (.cst (.int 18)))))=E at *
 cases g with
 |true=>
  have h1:=h1 rfl;rw[hb];simp! [flT,yM,stO,s1,hor,s2,i3,h1,s3]
 |false=>
  have h2:=h2 rfl;subst h2;rw[hb];simp! [flT,yM,stO,s1,hor,s2,i3,p18,s3]
theorem fill(k n:Nat)(ns:List Int)(hns:ns.length<=1000)(a p:Int)(ha:0<=a)(f:Bool)(st:SO)(h:st[n]?=AA (.lst [.lst (ns.map .int),.int a,.int p,.bl f])):
  ∃p' f',yd T (k+2) yfP [.loc n] st=.ok .non (st.set n (.lst [.lst (ns.map .int),.int (a+1),.int p',.bl f'])):=by
 have hT:T yfP=AA ⟨1,4,AF,yM.body⟩:=rfl;have hl:∀st,yah .len st [.lst (ns.map .int)]=AA (.int (ns.length:Int)):=λst=>by
  show AA (PV.int (((ns.map PV.int).length:Nat):Int))=_;simp
 have i0:=zld h;have i1:=zle h;have bt:∀(a b:PV) (ρ:IC.Env),yo (.t [1,2]) (.tp AF [a,b]) ρ=AA ((ρ.set 1 (AA a)).set 2 (AA b)):=λ_ _ _=>rfl
 have hb:yM.body=(match yM.body with
  |.cons a (.cons b (.cons c _))=>.cons a (.cons b (.cons c flT))
  |x=>x):=rfl
 have m31:yw .mul (.int 31) (.int a)=AA (.int (31*a)):=zgz ⋯;obtain⟨v,hv⟩:∃v,exs (yd T (k+1)) [AA (.loc n),AB,AB,AB] st yM.body=exs (yd T (k+1)) [AA (.loc n),AA (.lst (ns.map .int)),AA (.int a),AA (.int v)] st flT:=by
  by_cases hn:ns=[]
  .have c0:decide ((ns.length:Int) > 0)=false:=by subst hn;rfl
   refine⟨31*a+7,?_⟩;rw[hb];generalize flT=F,ns.map PV.int=L at *;simp! [yM,i0,i1,bt,m31,hl,c0]
  .have h0:0<ns.length:=EX.2 hn;let⟨v,hv⟩:=zir ns a hn;have c0:decide ((ns.length:Int) > 0)=true:=decide_eq_true ∅;have d1:=zkq (i:=a) (j:=(ns.length:Int)) ∅ ∅;have d2:=zix (i:=a) (j:=(ns.length:Int)) ∅;have m1:yw .mul (.int 104729) (.int (a/(ns.length:Int)))=AA (.int (104729*(a/(ns.length:Int)))):=zgz ⋯;have ix:∀st,idxV st (.lst (ns.map .int)) (.int (a%(ns.length:Int)))=AA (.int v):=λ_=>hv;refine⟨104729*(a/(ns.length:Int))+v,?_⟩;rw[hb];generalize flT=F,ns.map PV.int=L at *;simp! [yM,i0,i1,bt,m31,hl,c0,d1,d2,m1,ix]
 cases c:(decide (a ≥ (ns.length:Int)) || decide (v<1000000000000000000))with
 |true=>
  let⟨q,hq⟩:=mixed k v (st.set n (flS (.lst (ns.map .int)) (a+1) p AD));refine⟨q,AD,?_⟩;rw[zo hT rfl rfl];have e:=zcR k n h hl c (λ_=>hq) (λh=>nomatch h);rw[<-hv]at e;exact(congrArg _ e).trans rfl
 |false=>
  refine⟨v-1000000000000000000,AF,?_⟩;rw[zo hT rfl rfl];have e:=zcR k n h hl c (λh=>nomatch h) (λ_=>rfl);rw[<-hv]at e;exact(congrArg _ e).trans rfl
def yaT:Ce:=match yH.body with
 |.cons _ (.cons (.while c _) _)=>c
 |_=>.nope
def ybb:Css:=match yH.body with
 |.cons _ (.cons (.while _ b) _)=>b
 |_=>.nil
def zdU{c:Cl}{n:Nat}{ns:List Int}{a p m t:Int}{f:Bool}{u:Option PV}{st:SO}(h:st[n]?=AA (.lst [.lst (ns.map .int),.int a,.int p,.bl f])):
  ∃B,ev c [AA (.loc n),AA (.int m),AA (.int t),u] st yaT=.ok (.bl B) st/\(B=AD->t<64):=by
 by_cases h1:t<64
 .by_cases h2:p=0
  .refine⟨AD,?_,λ_=>h1⟩;erw[yaT,yH,IC.ve1,IC.ve2,IC.ve3,IC.ve6,IC.ve7,IC.ve8,IC.ve16,R.bind,Ae,Ac,h,idxV,yaS,at?,ixI,yw,binI,yau,toR,yC,ybj,onBl];simp[h1,h2,zb9,zhM]
  .have h2:(p==0)=false:=by simp[h2]
   cases f
   .refine⟨AF,?_,λ_=>h1⟩;erw[yaT,yH,IC.ve1,IC.ve2,IC.ve3,IC.ve6,IC.ve7,IC.ve8,IC.ve16,R.bind,Ae,Ac,h,idxV,yaS,at?,ixI,yw,binI,yau,toR,yC,ybj,onBl];simp[h,h1,h2,zb9,zhM]
   .refine⟨decide (p<m*4096),?_,λ_=>h1⟩;erw[yaT,yH,IC.ve1,IC.ve2,IC.ve3,IC.ve6,IC.ve7,IC.ve8,IC.ve16,R.bind,Ae,Ac,h,idxV,yaS,at?,ixI,yw,binI,yau,toR,yC,ybj,onBl];simp[h,h1,h2,zb9,zhM]
 .refine⟨AF,?_,λz=>by cases z⟩;erw[yaT,yH,IC.ve1,IC.ve2,IC.ve3,IC.ve6,IC.ve7,IC.ve8,IC.ve16,R.bind,Ae,Ac,h,idxV,yaS,at?,ixI,yw,binI,yau,toR,yC,ybj,onBl];simp[h1]
def zeE(k:Nat){n:Nat}{ns:List Int}(hns:ns.length<=1000){a p m t:Int}(ha:0<=a){f:Bool}{u:Option PV}{st:SO}(h:st[n]?=AA (.lst [.lst (ns.map .int),.int a,.int p,.bl f])):
  ∃p' f',exs (yd T (k+2)) [AA (.loc n),AA (.int m),AA (.int t),u] st ybb=.nx [AA (.loc n),AA (.int m),AA (.int (t+1)),u] (st.set n (.lst [.lst (ns.map .int),.int (a+1),.int p',.bl f'])):=by
 let⟨q,g,hq⟩:=fill k n ns hns a p ha f st h;have hm:(1+q%4093).natAbs<18446744073709551616:=by lia
 have hau:∀st,ex (yd T (k+2)) [AA (.loc n),AA (.int m),AA (.int t),u] st (.aug 2 .add (.cst (.int 1)))=.nx [AA (.loc n),AA (.int m),AA (.int (t+1)),u] st:=λst=>by
  rw[x_aug (x:=.int t) rfl];simp[IC.ve1,R.fl,ybd,yw,binI,nxO]
 cases g
 .refine⟨q,AF,?_⟩;erw[ybb,yH,xs_cons,xs_nil,x_expr,x_ite,x_six,hau,yaz,nxO,IC.ve1,IC.ve2,IC.ve3,IC.ve6,IC.ve8,IC.ve16,IC.ve18,evs,R.fl,R.bind,hq,ybd,yw,binI,C3,BP,BQ,Ae,Ac,rdS h,idxV,yaS,at?,ixI,yau,toR,yC,ybj,onBl,onF,yar];simp[rdS h]
 .by_cases hl:q<m*4096
  .refine⟨q+m*4096*(1+q%4093),AD,?_⟩;erw[ybb,yH,xs_cons,xs_nil,x_expr,x_ite,x_six,hau,yaz,nxO,IC.ve1,IC.ve2,IC.ve3,IC.ve6,IC.ve8,IC.ve16,IC.ve18,evs,R.fl,R.bind,hq,ybd,yw,binI,C3,BP,BQ,Ae,Ac,rdS h,idxV,yaS,at?,ixI,yau,toR,yC,ybj,onBl,onF,yar,stO,yaZ];simp[rdS h,hl,hm]
  .refine⟨q,AD,?_⟩;erw[ybb,yH,xs_cons,xs_nil,x_expr,x_ite,x_six,hau,yaz,nxO,IC.ve1,IC.ve2,IC.ve3,IC.ve6,IC.ve8,IC.ve16,IC.ve18,evs,R.fl,R.bind,hq,ybd,yw,binI,C3,BP,BQ,Ae,Ac,rdS h,idxV,yaS,at?,ixI,yau,toR,yC,ybj,onBl,onF,yar];simp[rdS h,hl]
def zbH(k:Nat){n:Nat}{ns:List Int}(hns:ns.length<=1000){m:Int}{u:Option PV}:∀(r N:Nat) (t a p:Int) (f:Bool) (st:SO),r<=N->64-t<=r->0<=a->st[n]?=AA (.lst [.lst (ns.map .int),.int a,.int p,.bl f]) ->
  ∃t' a' p' f',0<=a'/\yas (yd T (k+2)) yaT ybb (N+1) [AA (.loc n),AA (.int m),AA (.int t),u] st=.nx [AA (.loc n),AA (.int m),AA (.int t'),u] (st.set n (.lst [.lst (ns.map .int),.int a',.int p',.bl f']))
 |r,N,t,a,p,f,st,hN,ht,ha,h=>by
  let⟨B,hB,hb⟩:=zdU (c:=yd T (k+2)) (m:=m) (t:=t) (u:=u) h;have hs:st.set n (.lst [.lst (ns.map .int),.int a,.int p,.bl f])=st:=by
   refine FD λi=>?_;rw[Ci];split
   .rename_i e;subst e;split
    .exact h.symm
    .rename_i z;rw[An ∅]at h
     cases h
   .rfl
  cases B with
  |false=>exact⟨t,a,p,f,ha,by rw[zcl hB rfl,hs]⟩
  |true=>
   have h64:=hb rfl
   match r,N with
   |0,_=>exact absurd ht ∅
   |r+1,N+1=>
    let⟨p1,f1,hx⟩:=zeE k hns (m:=m) (t:=t) ha (u:=u) h;let⟨t',a',p',f',h0,h2⟩:=zbH k hns (m:=m) (u:=u) r N (t+1) (a+1) p1 f1 _ ∅ ∅ ∅ (rdS h);refine⟨t',a',p',f',h0,?_⟩;rw[zeI hB rfl hx,h2,Dw]
theorem take(k n:Nat)(ns:List Int)(hns:ns.length<=1000)(a p m:Int)(ha:0<=a)(hm:0<m)(hm2:m<10000000000000000000000000000000000000000000000000000000000000000000000)(f:Bool)(st:SO)(h:st[n]?=AA (.lst [.lst (ns.map .int),.int a,.int p,.bl f])):
  ∃d a' p' f',0<=d/\d<m/\0<=a'/\yd T (k+3) yeg [.loc n,.int m] st=.ok (.int d) (st.set n (.lst [.lst (ns.map .int),.int a',.int p',.bl f'])):=by
 let⟨t',a',p',f',h0,h2⟩:=zbH k hns (m:=m) (u:=AB) 64 99999 0 a p f st ∅ ∅ ha h;refine⟨p'%m,a',p'/m,f',EB _ ∅,D2 _ hm,h0,?_⟩;have hb:yH.body=.cons (.asg (.n 2) (.cst (.int 0))) (.cons (.while yaT ybb) (.cons (.asg (.n 3) (.bin .mod (.idx (.var 0) (.cst (.int 2))) (.var 1))) (.cons (.six (.var 0) (.cst (.int 2)) (.bin .fdiv (.idx (.var 0) (.cst (.int 2))) (.var 1))) (.cons (.ret (.var 3)) .nil)))):=rfl;have hT:T yeg=AA ⟨2,4,AF,yH.body⟩:=rfl;rw[yd,hT,hb];erw[Am,CF,if_true,AS,CD,E4,Ap,Cp,DD,xs_cons,xs_nil,x_asg,zhD,x_six,x_ret,yaz,nxO,stO,IC.ve1,IC.ve2,IC.ve3,IC.ve16,R.fl,R.bind,yo,BP,BQ,Ae,Ac,h2,rdS h,idxV,yaS,at?,ixI,yw,binI,hm,hm2,and_self,toR,yaZ];simp[rdS h,hm,hm2]
def Drw(ns:List Int)(n:Nat)(st:SO):Prop:=∃a p f,0<=a/\st[n]?=AA (.lst [.lst (ns.map .int),.int a,.int p,.bl f])
def Onl(ns:List Int)(n:Nat)(st st':SO):Prop:=∃a p f,0<=a/\st'=st.set n (.lst [.lst (ns.map .int),.int a,.int p,.bl f])
theorem Onl.drw{ns:List Int}{n:Nat}{st st':SO}(h:Drw ns n st)(o:Onl ns n st st'):Drw ns n st':=by
 let⟨a,p,f,ha,h⟩:=h;let⟨b,q,g,hb,rfl⟩:=o;exact⟨b,q,g,hb,rdS h⟩
theorem Onl.trans{ns:List Int}{n:Nat}{st st1 st2:SO}(o:Onl ns n st st1)(o2:Onl ns n st1 st2):Onl ns n st st2:=by
 let⟨b,q,g,hb,rfl⟩:=o;let⟨c,r,j,hc,rfl⟩:=o2;exact⟨c,r,j,hc,by rw[Dw]⟩
def zkE(k:Nat){n:Nat}{ns:List Int}(hns:ns.length<=1000){m:Int}(hm:0<m)(hm2:m<10000000000000000000000000000000000000000000000000000000000000000000000){st:SO}(h:Drw ns n st):
  ∃d st',0<=d/\d<m/\Onl ns n st st'/\yd T (k+3) yeg [.loc n,.int m] st=.ok (.int d) st':=by
 let⟨a,p,f,ha,h⟩:=h;let⟨d,a',p',f',h1,h2,h3,h4⟩:=take k n ns hns a p m ha hm hm2 f st h;exact⟨d,_,h1,h2,⟨_,_,_,h3,rfl⟩,h4⟩
theorem fresh(k:Nat)(ns:List Int)(h:ns.length<=63)(st:SO):∃v,yd T (k+1) yfF [.scr (ns.map .int)] st=.ok (.loc st.length) (st++[v])/\v=.lst [.lst (ns.map .int),.int 0,.int 0,.bl AF]:=by
 have hT:T yfF=AA ya6:=rfl;refine⟨_,?_,rfl⟩;rw[yd,hT];erw[ya6,Am,CF,if_true,AS,CD,E4,Ap,Cp,DD,xs_cons,xs_nil,x_ret,yaz,ev,evs,R.fl,R.bind,Ae,toR];have hc:ycC (.scr (ns.map PV.int)) AB (.int 63)=AA (.lst (ns.map .int)):=by
  have hk:ybt ns.length 63=ns.length:=by
   show min 63 ns.length=ns.length;lia
  simp[ycC,ybX,yb5,cut,yci,ycZ,hk]
  try rw[<-Ah (f:=PV.int),FO]
 simp[ybX,onP,hc,sizeMax]
theorem Drw.refl{ns:List Int}{n:Nat}{st:SO}(h:Drw ns n st):Onl ns n st st:=by
 let⟨a,p,f,ha,h⟩:=h;exact⟨a,p,f,ha,zf2 h⟩
theorem Drw.pos{ns:List Int}{st:SO}(h:Drw ns 0 st):0<st.length:=by
 let⟨a,p,f,ha,h⟩:=h;rcases Cj 0 st.length with z|z
 .exact z
 .rw[An z]at h;cases h
theorem Drw.put{ns:List Int}{st:SO}(h:Drw ns 0 st){L:Nat}(hL:L≠0)(o:Ob):Drw ns 0 (st.set L o):=by
 let⟨a,p,f,ha,h⟩:=h;exact⟨a,p,f,ha,by rw[Ai hL];exact h⟩
theorem Onl.get{ns:List Int}{st st':SO}(o:Onl ns 0 st st'){L:Nat}(hL:L≠0):st'[L]?=st[L]?:=by
 let⟨a,p,f,ha,rfl⟩:=o;rw[Ai (Bl hL)]
def zdh(l:List Int):nLs [PV.scr (l.map .int)]=true:=by simp[nLs,nL,noLocs_ints]
theorem Onl.len{ns:List Int}{n:Nat}{st st':SO}(o:Onl ns n st st'):st'.length=st.length:=by
 let⟨a,p,f,ha,rfl⟩:=o;rw[BE]
local macro_rules | `(tactic| simp! [$xs,*])=>do
 let l<-("IC.xs_cons IC.xs_nil IC.x_asg IC.x_ite IC.x_ret IC.x_expr IC.x_for IC.x_six IC.x_raise IC.evs IC.evi IC.ve1 IC.ve2 IC.ve3 IC.ve5 IC.ve6 IC.ve7 IC.ve8 IC.ve9 IC.ve10 IC.ve11 IC.ve12 IC.ve13 IC.ve16 IC.ve17 IC.ve18 IC.ve19 IC.ve20 IC.ve21 IC.ve24 IC.ve26 IC.ve31 IC.v_comp List.getElem?_cons_zero List.getElem?_cons_succ WK.bd_ok WK.fl_ok WK.bd_exc WK.fl_exc WK.toR_some IC.toL WK.bT_n WK.nxO_some WK.th_nx WK.th_rt WK.th_exc List.set_cons_zero List.set_cons_succ WK.on_t WK.t_bl WK.ono IC.onBl cond_true cond_false List.length_cons List.length_nil Nat.zero_add Nat.reduceAdd Nat.reduceSub Nat.reduceLeDiff if_true IC.nL IC.nLs WK.noLocs_ints Bool.and_self Bool.not_true Bool.not_false List.map_cons List.map_nil List.replicate List.cons_append List.nil_append List.append_nil Option.bind_none Option.bind_some Option.join_some WK.b_add WK.b_sub WK.b_mul2 WK.b_div2 WK.c_lt WK.c_le WK.c_gt WK.c_ge WK.c_eq WK.c_ne IC.PV.tup IC.sizeMax".splitOn " ").toArray.mapM λs=>`(Lean.Parser.Tactic.simpLemma| $(Lean.mkIdent s.toName):term)
 `(tactic| simp only[$l,*,$xs,*])
def rws:List Str:=[AX "add",AX "less",AX "swap",AX "copy",AX "twice",AX "half",AX "bare",AX "both",AX "any",AX "odd",AX "nought",AX "clear",AX "one"]
abbrev T3:=Int×Int×Int
def t3(t:T3):PV:=.tp AF [.int t.1,.int t.2.1,.int t.2.2]
def r3:R PV->Option T3
 |.ok (.tp AF [.int x,.int y,.int z]) _=>AA (x,y,z)
 |_=>AB
def zcm{r:R PV}{p:T3}(h:r3 r=AA p):∃st,r=.ok (t3 p) st:=by
 unfold r3 at h;split at h
 .cases h;exact⟨_,rfl⟩
 .cases h
def W3(w:Nat)(t:T3):Prop:=0<=t.1/\t.1<((2^w:Nat):Int)/\0<=t.2.1/\t.2.1<((2^w:Nat):Int)/\0<=t.2.2/\t.2.2<2
instance (w:Nat) (t:T3):Decidable (W3 w t):=by unfold W3;infer_instance
def sd(w:Nat)(r:AM)(t:T3):T3:=(r3 (yd T 5 yn [.str r,.int w,.int t.1,.int t.2.1,.int t.2.2] [])).getD t
def sts(w:Nat):List T3:=(CP (2^w)).flatMap λ(a:Nat)=>(CP (2^w)).flatMap λ(b:Nat)=>(CP 2).map λ(c:Nat)=>(((a:Int),(b:Int),(c:Int)):T3)
abbrev N3:=Nat×Nat×Nat
def ya(t:N3):T3:=((t.1:Int),(t.2.1:Int),(t.2.2:Int))
def fnN(w:Nat):Nat->N3->N3
 |0,t=>((t.1+t.2.1+t.2.2)%2^w,t.2.1,(t.1+t.2.1+t.2.2)/2^w)
 |1,t=>((t.1+2*2^w-t.2.1-t.2.2)%2^w,t.2.1,if t.1<t.2.1+t.2.2 then 1 else 0)
 |2,t=>(t.2.1,t.1,t.2.2)
 |3,t=>(t.1,t.1,t.2.2)
 |4,t=>((t.1+t.1+t.2.2)%2^w,t.2.1,(t.1+t.1+t.2.2)/2^w)
 |5,t=>((t.1+t.2.2*2^w)/2,t.2.1,t.1%2)
 |6,t=>(2^w-1-t.1,t.2.1,t.2.2)
 |7,t=>(t.1 &&& t.2.1,t.2.1,t.2.2)
 |8,t=>(t.1 ||| t.2.1,t.2.1,t.2.2)
 |9,t=>(t.1 ^^^ t.2.1,t.2.1,t.2.2)
 |10,t=>(0,t.2.1,t.2.2)
 |11,t=>(t.1,t.2.1,0)
 |_,t=>(t.1,t.2.1,1)
def stN(w:Nat):List N3:=(CP (2^w)).flatMap λa=>(CP (2^w)).flatMap λb=>(CP 2).map λc=>(a,b,c)
def yc4(w i:Nat)(r:AM)(t:N3):Bool:=
 match r3 (yd T 5 yn [.str r,.int w,.int (ya t).1,.int (ya t).2.1,.int (ya t).2.2] []),r3 (yd T 5 yfV [.str r,.int ((2^w:Nat):Int),.int (ya t).1,.int (ya t).2.1,.int (ya t).2.2] [])with
 |some p,AA q=>decide (p=q)&&decide (W3 w p)&&decide (p=ya (fnN w i t))
 |_,_=>AF
def yc2(w:Nat):Bool:=rws.zipIdx.all λr=>(stN w).all (yc4 w r.2 r.1)
theorem ck1:yc2 1=true:=by decide +kernel
theorem ck2:yc2 2=true:=by decide +kernel
theorem ck3:yc2 3=true:=by decide +kernel
def zbj{w:Nat}{t:T3}(h:W3 w t):t∈sts w:=by
 let⟨x,y,z⟩:=t;let⟨a0,a1,b0,b1,c0,c1⟩:=h;let⟨a,rfl⟩:=zah a0;let⟨b,rfl⟩:=zah b0;let⟨c,rfl⟩:=zah c0;erw[sts,CW,BD,DN];dsimp only at a1 b1 c1;generalize 2^w=W at *;exact⟨a,by lia,b,by lia,c,by lia,rfl⟩
def zdE{w:Nat}{t:T3}(h:t∈sts w):W3 w t:=by
 erw[sts,CW,BD,DN]at h;let⟨a,ha,b,hb,c,hc,rfl⟩:=h;unfold W3;dsimp only;generalize 2^w=W at *;lia
def zaH{k f:Nat}{fn:IC.Fn}{args:List PV}{v:PV}{s:SO}(hT:T f=AA fn)(hp:fn.pure=AD)(hl:args.length=fn.np)(hn:nLs args=AD)(h:yd T (k+1) f args []=.ok v s)(st:SO):yd T (k+1) f args st=.ok v st:=by
 rw[zN hT hp hl hn]at h ⊢;unfold ycI at h ⊢;split at h
 .rename_i v1 s1 e;split at h
  .rename_i q;rw[if_pos q];injection h with h1 h2;rw[h1]
  .cases h
 .rename_i e;injection h with h1 h2;rw[<-h1]
 .cases h
 .cases h
abbrev Wid(w:Nat):Prop:=w=1 \/ w=2 \/ w=3
def zcJ(w:Nat):sts w=(stN w).map ya:=by
 erw[sts,stN,List.map_flatMap,Bo];rfl
def zgi{w:Nat}(hw:Wid w){i:Nat}{r:AM}(hr:rws[i]?=AA r){t:N3}(h:t∈stN w):yc4 w i r t=true:=by
 have h2:yc2 w=true:=by
  rcases hw with rfl|rfl|rfl
  .exact ck1
  .exact ck2
  .exact ck3
 have h3:=Ad.1 h2 (r,i) (by rw[List.mem_zipIdx_iff_getElem?];exact hr);exact Ad.1 h3 t h
def zeN{w:Nat}(hw:Wid w){r:AM}(hr:r∈rws){t:T3}(h:W3 w t)(k:Nat)(st:SO):W3 w (sd w r t)/\yd T (k+5) yn [.str r,.int w,.int t.1,.int t.2.1,.int t.2.2] st=.ok (t3 (sd w r t)) st /\
  yd T (k+5) yfV [.str r,.int ((2^w:Nat):Int),.int t.1,.int t.2.1,.int t.2.2] st=.ok (t3 (sd w r t)) st:=by
 let⟨i,hi⟩:=EF.1 hr;have hm:=zbj h;rw[zcJ]at hm;let⟨u,hu,rfl⟩:=BD.1 hm;have h5:=zgi hw hi hu;unfold yc4 at h5;split at h5
 .rename_i p q e1 e2;rw[AI,AI,decide_eq_true_eq,decide_eq_true_eq]at h5;let⟨⟨rfl,h5⟩,_⟩:=h5;let⟨s1,f1⟩:=zcm e1;let⟨s2,f2⟩:=zcm e2;have e:sd w r (ya u)=p:=by unfold sd;rw[e1];rfl
  rw[e];refine⟨h5,?_,?_⟩
  .rw[DJ];exact zS (zaH (fn:=yy) rfl rfl rfl rfl f1 st) k
  .rw[DJ];exact zS (zaH (fn:=yA) rfl rfl rfl rfl f2 st) k
 .cases h5
def zkf{w:Nat}(hw:Wid w){i:Nat}{r:AM}(hr:rws[i]?=AA r){t:N3}(h:t∈stN w):sd w r (ya t)=ya (fnN w i t):=by
 have h5:=zgi hw hr h;unfold yc4 at h5;split at h5
 .rename_i p q e1 e2;rw[AI,decide_eq_true_eq]at h5;have e:sd w r (ya t)=p:=by unfold sd;rw[e1];rfl
  rw[e];exact h5.2
 .cases h5
def zbN{w:Nat}(hw:Wid w){r:AM}(hr:r∈rws){t:T3}(h:W3 w t)(k:Nat)(st:SO):W3 w (sd w r t)/\yd T (k+5) yn [.str r,.int w,.int t.1,.int t.2.1,.int t.2.2] st=.ok (t3 (sd w r t)) st:=⟨(zeN hw hr h k st).1,(zeN hw hr h k st).2.1⟩
def ad(w:Nat)(ss:List AM)(t:T3):T3:=ss.foldl (λt r=>sd w r t) t
def zkT{w:Nat}(hw:Wid w):∀{ss:List AM},(∀r∈ss,r∈rws)->∀{t:T3},W3 w t->W3 w (ad w ss t)
 |[],_,t,h=>h
 |r::ss,hs,t,h=>zkT hw (λr hr=>hs r (AK _ hr)) (zbN hw (hs r AV) h 0 []).1
def zad:∀ss:List AM,nLs (ss.map .str)=AD
 |[]=>rfl
 |s::ss=>by simp[nLs,nL,zad ss]
def zbq{t:Tg}{F:IC.Env->SO->Fl}{n:Nat}{xs:List PV}{st:SO}(hs:st[n]?=AA (.lst xs))(P:IC.Env->Prop)(hP:∀v∈xs,∀ρ,P ρ->∃ρ1,yo t v ρ=AA ρ1/\((∃ρ2,F ρ1 st=.nx ρ2 st/\P ρ2) \/ ∃c ρ2,F ρ1 st=.exc c ρ2 st)):
  ∀(m i:Nat) (ρ:IC.Env),P ρ->i<=xs.length->xs.length<i+m->ya3 t F n m i ρ st=forL t F (xs.drop i) ρ st
 |0,i,ρ,hρ,h1,h2=>by lia
 |m+1,i,ρ,hρ,h1,h2=>by
  rw[ya3,hs];dsimp only
  by_cases hi:i<xs.length
  .rw[BY hi,BG hi,forL];dsimp only;obtain⟨ρ1,e1,⟨ρ2,e2,h3⟩|⟨c,ρ2,e2⟩⟩:=hP xs[i] (Cr hi) ρ hρ
   .rw[e1];dsimp only;rw[e2];exact zbq hs P hP m (i+1) ρ2 h3 ∅ ∅
   .rw[e1];dsimp only;rw[e2];rfl
  .rw[An ∅,List.drop_eq_nil_of_le ∅,forL]
def Src(st:SO)(v:PV)(vs:List PV):Prop:=(∃b,v=.tp b vs) \/ v=.lst vs \/ ∃n,v=.loc n/\st[n]?=AA (.lst vs)
def zeO{call:Cl}{t:Tg}{b:Css}{ρ:IC.Env}{st:SO}{i:Nat}{v:PV}{vs:List PV}(hv:ρ[i]?=AA (AA v))(h:Src st v vs)(hl:vs.length<=1000)(P:IC.Env->Prop)(h0:P ρ)(hP:∀r∈vs,∀ρ,P ρ->∃ρ1,yo t r ρ=AA ρ1/\((∃ρ2,exs call ρ1 st b=.nx ρ2 st/\P ρ2) \/ ∃c ρ2,exs call ρ1 st b=.exc c ρ2 st)):
  ex call ρ st (.forl t (.var i) b)=yaK call t b vs ρ st:=by
 have h1:ev call ρ st (.var i)=.ok v st:=by rw[IC.ve2,hv]
 rw[ex,h1,fl_ok];rcases h with⟨b,rfl⟩|rfl|⟨n,rfl,hn⟩
 .rfl
 .rfl
 .dsimp only;exact(zbq hn P hP 100000 0 ρ h0 ∅ ∅).trans rfl
def zd2{st:SO}{v:PV}{vs:List PV}(h:Src st v vs):yah .len st [v]=AA (.int vs.length):=by
 rcases h with⟨b,rfl⟩|rfl|⟨n,rfl,hn⟩
 .simp[yah,lenV,yad]
 .simp[yah,lenV,yad]
 .simp[yah,lenV,yad,hn]
def adB:Css:=match yD.body with
 |.cons (.forl _ _ b) _=>b
 |x=>x
def adT:Css:=match yD.body with
 |.cons _ r=>r
 |x=>x
def zkH{i j k:Nat}{a b c:PV}{ρ:IC.Env}:yo (.t [i,j,k]) (.tp AF [a,b,c]) ρ=AA (((ρ.set i (AA a)).set j (AA b)).set k (AA c)):=rfl
def zdz{w:Nat}(hw:Wid w){r:AM}(hr:r∈rws){t:T3}(h:W3 w t)(k:Nat)(st:SO)(p0:Option PV):
  exs (yd T (k+5)) [p0,AA (.int w),AA (.int t.1),AA (.int t.2.1),AA (.int t.2.2),AA (.str r)] st adB=.nx [p0,AA (.int w),AA (.int (sd w r t).1),AA (.int (sd w r t).2.1),AA (.int (sd w r t).2.2),AA (.str r)] st:=by
 have e:=(zbN hw hr h k st).2;simp! [adB,yD,e,zkH,t3]
def zd9{w:Nat}(hw:Wid w)(k:Nat)(st:SO)(p0:Option PV):∀(ss:List AM),(∀r∈ss,r∈rws)->∀{t:T3},W3 w t->∀p5,∃q5,
  yaK (yd T (k+5)) (.n 5) adB (ss.map .str) [p0,AA (.int w),AA (.int t.1),AA (.int t.2.1),AA (.int t.2.2),p5] st=.nx [p0,AA (.int w),AA (.int (ad w ss t).1),AA (.int (ad w ss t).2.1),AA (.int (ad w ss t).2.2),q5] st
 |[],hs,t,h,p5=>⟨p5,zI⟩
 |r::ss,hs,t,h,p5=>by
  have hr:=hs r AV;let⟨q5,f⟩:=zd9 hw k st p0 ss (λr hr=>hs r (AK _ hr)) (zbN hw hr h 0 []).1 (AA (.str r));refine⟨q5,?_⟩;rw[AS,zx (ρ1:=[p0,AA (.int w),AA (.int t.1),AA (.int t.2.1),AA (.int t.2.2),AA (.str r)]) rfl,zdz hw hr h k st p0];exact f
def zaO{w:Nat}(hw:Wid w)(k:Nat){ss:List AM}(hs:∀r∈ss,r∈rws)(hl:ss.length<=8){t:T3}(h:W3 w t)(st:SO){v:PV}(hv:Src st v (ss.map .str)):
  yd T (k+6) yfn [v,.int w,.int t.1,.int t.2.1,.int t.2.2] st=.ok (t3 (ad w ss t)) st:=by
 let⟨q5,e⟩:=zd9 hw k st (AA v) ss hs h AB;have hT:T yfn=AA yD:=rfl;have hb:yD.body=.cons (.forl (.n 5) (.var 0) adB) adT:=rfl;rw[zo hT rfl rfl];show outI (exs (yd T (k+5)) [AA v,AA (.int w),AA (.int t.1),AA (.int t.2.1),AA (.int t.2.2),AB] st yD.body)=_;rw[hb,xs_cons,zeO (v:=v) rfl hv (by simp;lia) (λρ=>∃t p,W3 w t/\ρ=[AA v,AA (.int w),AA (.int t.1),AA (.int t.2.1),AA (.int t.2.2),p]) ⟨t,AB,h,rfl⟩ (λr hr ρ hρ=>by
  let⟨t,p,h,rfl⟩:=hρ;let⟨r,hr',rfl⟩:=BD.1 hr;have hr:=hr';exact⟨_,rfl,.inl ⟨_,zdz hw (hs r hr) h k st _,_,_,(zbN hw (hs r hr) h 0 []).1,rfl⟩⟩),e,th_nx]
 simp! [adT,yD,zbr,t3]
def l3:R PV->Option (List T3)
 |.ok (.lst vs) _=>vs.mapM λv=>r3 (.ok v [])
 |_=>AB
def zit{v:PV}{p:T3}(h:r3 (.ok v [])=AA p):v=t3 p:=by
 let⟨st,e⟩:=zcm h
 cases e;rfl
def zdZ:∀(vs:List PV) (l:List T3),(vs.mapM λv=>r3 (.ok v []))=AA l->vs=l.map t3
 |[],l,h=>by cases h;rfl
 |v::vs,l,h=>by
  erw[List.mapM_cons,Option.bind_eq_bind,Option.bind_eq_some_iff,Option.pure_def,Bn]at h;let⟨p,h1,q,h2,rfl⟩:=h;rw[AS,zit h1,zdZ vs q h2]
def zgM{r:R PV}{l:List T3}(h:l3 r=AA l):∃st,r=.ok (.lst (l.map t3)) st:=by
 unfold l3 at h;split at h
 .rename_i vs st;exact⟨st,by rw[zdZ vs l h]⟩
 .cases h
theorem es1:l3 (yd T 1 yf [.int 1] [])=AA (sts 1):=by decide +kernel
theorem es2:l3 (yd T 1 yf [.int 2] [])=AA (sts 2):=by decide +kernel
theorem es3:l3 (yd T 1 yf [.int 3] [])=AA (sts 3):=by decide +kernel
def zfL{w:Nat}(hw:Wid w)(k:Nat)(st:SO):yd T (k+1) yf [.int w] st=.ok (.lst ((sts w).map t3)) st:=by
 have h:l3 (yd T 1 yf [.int w] [])=AA (sts w):=by
  rcases hw with rfl|rfl|rfl
  .exact es1
  .exact es2
  .exact es3
 let⟨s,e⟩:=zgM h;rw[DJ];exact zS (zaH (fn:=yz) rfl rfl rfl rfl e st) k
def zcy(a b:T3):peq (t3 a) (t3 b)=decide (a=b):=by
 let⟨x,y,z⟩:=a;let⟨x',y',z'⟩:=b;erw[t3,peq,yaO,Bool.and_true]
 by_cases h1:x=x'<;>by_cases h2:y=y'<;>by_cases h3:z=z'<;>simp[h1,h2,h3]
def zh2{k v:PV}{kvs:List (PV×PV)}(h:∀p∈kvs,peq p.1 k=AF):IC.put k v kvs=kvs++[(k,v)]:=by
 have:(kvs.any λp=>peq p.1 k)=false:=by
  rw[List.any_eq_false];exact λp hp=>by rw[h p hp];simp
 unfold IC.put;rw[if_neg (by rw[this];simp)]
def kvt(w:Nat)(r:AM)(ts:List T3):List (PV×PV):=ts.map λt=>(t3 t,t3 (sd w r t))
def zgs(w:Nat)(r:AM):∀(ts:List T3) {t:T3},t∈ts->look (t3 t) (kvt w r ts)=AA (t3 (sd w r t))
 |[],t,h=>nomatch h
 |u::ts,t,h=>by
  erw[kvt,AS,look,zcy]
  by_cases e:u=t
  .subst e;simp
  .rw[decide_eq_false e];exact zgs w r ts ((A5.1 h).resolve_left λz=>e z.symm)
def toE:Ce:=match yE.body with
 |.cons (.ret (.dcm _ _ _ k _)) _=>k
 |_=>.nope
def toV:Ce:=match yE.body with
 |.cons (.ret (.dcm _ _ _ _ v)) _=>v
 |_=>.nope
def zjb{w:Nat}(hw:Wid w){r:AM}(hr:r∈rws){t:T3}(h:W3 w t)(k:Nat)(st:SO):ybY (yd T (k+5)) [AB,AB,AB,AA (.str r),AA (.int w)] (.t [0,1,2]) toE toV (t3 t) st=.ok (t3 t,t3 (sd w r t)) st:=by
 have e:=(zbN hw hr h k st).2;have hb:yo (.t [0,1,2]) (t3 t) [AB,AB,AB,AA (.str r),AA (.int w)]=AA [AA (.int t.1),AA (.int t.2.1),AA (.int t.2.2),AA (.str r),AA (.int w)]:=rfl;erw[ybY,hb];simp! [toE,toV,yE,e];rfl
def zdR{w:Nat}(hw:Wid w){r:AM}(hr:r∈rws)(k:Nat)(st:SO):∀(ts done:List T3),(∀t∈ts,W3 w t)->(done++ts).Nodup ->
  yav (ybY (yd T (k+5)) [AB,AB,AB,AA (.str r),AA (.int w)] (.t [0,1,2]) toE toV) (ts.map t3) (kvt w r done) st=.ok (kvt w r (done++ts)) st
 |[],done,h,hn=>by rw[B4];rfl
 |t::ts,done,h,hn=>by
  rw[AS,yav,zjb hw hr (h t AV) k st,bd_ok];have hk:isKey AD (t3 t)=true:=rfl;dsimp only;rw[if_pos hk,zh2]
  .have e:kvt w r done++[(t3 t,t3 (sd w r t))]=kvt w r (done++[t]):=by simp[kvt]
   rw[e,zdR hw hr k st ts (done++[t]) (λt h'=>h t (AK _ h')) (by simpa using hn)];simp
  .intro p hp;erw[kvt,BD]at hp;let⟨u,hu,rfl⟩:=hp;rw[zcy];refine decide_eq_false λe=>?_;subst e;rw[List.nodup_append]at hn;exact hn.2.2 u hu u AV rfl
def zjW{w:Nat}(hw:Wid w):(sts w).Nodup:=by rcases hw with rfl|rfl|rfl<;>decide +kernel
def zco{w:Nat}(hw:Wid w):(sts w).length<=128:=by rcases hw with rfl|rfl|rfl<;>decide +kernel
def zft{w:Nat}(hw:Wid w){r:AM}(hr:r∈rws)(k:Nat)(st:SO):yd T (k+6) yft [.str r,.int w,.lst ((sts w).map t3)] st=.ok (.loc st.length) (st++[.dct AD (kvt w r (sts w))]):=by
 have e:=zdR hw hr k st (sts w) [] (λt h=>zdE h) (by simpa using zjW hw);have hl:=zco hw;have hT:T yft=AA yE:=rfl;have hb:yE.body=.cons (.ret (.dcm [AB,AB,AB,AA 0,AA 1] (.t [0,1,2]) (.seq (.var 2)) toE toV)) .nil:=rfl;rw[zo hT rfl rfl,hb];have e:yav (ybY (yd T (k+5)) [AB,AB,AB,AA (.str r),AA (.int w)] (.t [0,1,2]) toE toV) ((sts w).map t3) [] st=.ok (kvt w r (sts w)) st:=e;simp! [yE,IC.ve54,e,dctR,Ah];rw[if_pos ∅];rfl
abbrev Pt:=List AM×List T3
def tv(p:Pt):PV:=.tp AF [.tp AF (p.1.map .str),.lst (p.2.map t3)]
def tbv(q:AM×Nat):PV:=.tp AF [.str q.1,.loc q.2]
def nxt(w:Nat)(p:Pt)(r:AM):Pt:=(p.1++[r],p.2.map (sd w r))
def ycj(w:Nat)(st:SO)(tabs:List (AM×Nat)):Prop:=∀q∈tabs,q.1∈rws/\st[q.2]?=AA (.dct AD (kvt w q.1 (sts w)))
def zjL{w:Nat}{st:SO}{n:Nat}{r:AM}(h:st[n]?=AA (.dct AD (kvt w r (sts w)))){t:T3}(ht:W3 w t):ycN st (.loc n) (t3 t)=AA (t3 (sd w r t)):=by
 have hk:isKey AD (t3 t)=true:=rfl;erw[ycN,yal,h,hk,if_true];exact zgs w r (sts w) (zbj ht)
def zeR{call:Cl}{w:Nat}{st:SO}{n:Nat}{r:AM}(h:st[n]?=AA (.dct AD (kvt w r (sts w)))):∀(en:List T3),(∀t∈en,W3 w t) ->
  yS call [AB,AA (.loc n)] (.n 0) (.cst (.bl AD)) (.dgt (.var 1) (.var 0)) (en.map t3) st=.ok ((en.map (sd w r)).map t3) st
 |[],_=>zL
 |t::en,he=>by
  have hb:yo (.n 0) (t3 t) [AB,AA (.loc n)]=AA [AA (t3 t),AA (.loc n)]:=rfl;rw[AS,zp];erw[ya2,hb,IC.ve1,bd_ok,t_bl,ono,cond_true];simp! [IC.ve34,zjL h (he t AV),zeR h en λt h'=>he t (AK _ h')];rfl
def olM:Ce:=match yx.body with
 |.cons (.ret (.cmq _ _ _ m)) _=>m
 |_=>.nope
def olE:Ce:=match olM with
 |.emq _ _ m=>m
 |_=>.nope
def zjS{k:Nat}{w:Nat}{st:SO}{p:Pt}(hp:∀t∈p.2,W3 w t)(hl:p.1.length<=100)(hl2:p.2.length<=1000){q:AM×Nat}(hq:st[q.2]?=AA (.dct AD (kvt w q.1 (sts w))))(tb:PV):
  ya7 (yd T k) [AA (.tp AF (p.1.map .str)),AA (.lst (p.2.map t3)),AB,AB,AA tb] (.t [2,3]) olE (tbv q) st=.ok [tv (nxt w p q.1)] st:=by
 have hb:yo (.t [2,3]) (tbv q) [AA (.tp AF (p.1.map .str)),AA (.lst (p.2.map t3)),AB,AB,AA tb]=AA [AA (.tp AF (p.1.map .str)),AA (.lst (p.2.map t3)),AA (.str q.1),AA (.loc q.2),AA tb]:=rfl;have ha:yw .add (.tp AF (p.1.map .str)) (.tp AF [.str q.1])=AA (.tp AF ((p.1++[q.1]).map .str)):=by
  cases hp1:p.1 with
  |nil=>rfl
  |cons a l=>
   rw[hp1]at hl;have hz:((a::l).map PV.str).length+[PV.str q.1].length<=sizeMax:=by simp[sizeMax]at hl ⊢;lia
   erw[yw];rw[if_pos hz];simp[ydt]
 have hc:=zeR (call:=yd T k) hq p.2 hp;have hz:((p.2.map (sd w q.1)).map t3).length<=1000000:=by simp;lia
 erw[ya7,hb];simp! [olE,olM,yx,ha,hc,zG _ hz];rfl
def zjB{k:Nat}{w:Nat}{st:SO}{p:Pt}(hp:∀t∈p.2,W3 w t)(hl:p.1.length<=100)(hl2:p.2.length<=1000)(tb:PV):∀(tabs:List (AM×Nat)),ycj w st tabs ->
  yae (ya7 (yd T k) [AA (.tp AF (p.1.map .str)),AA (.lst (p.2.map t3)),AB,AB,AA tb] (.t [2,3]) olE) (tabs.map tbv) st=.ok ((tabs.map λq=>nxt w p q.1).map tv) st
 |[],_=>rfl
 |q::tabs,h=>by
  rw[AS,yae,zjS hp hl hl2 (h q AV).2 tb,bd_ok,zjB hp hl hl2 tb tabs λq hq=>h q (AK _ hq),bd_ok];rfl
def zgb{k:Nat}{w:Nat}{st:SO}{tabs:List (AM×Nat)}(ht:ycj w st tabs):∀(ps:List Pt),(∀p∈ps,(∀t∈p.2,W3 w t)/\p.1.length<=100/\p.2.length<=1000) ->
  yae (ya7 (yd T k) [AB,AB,AB,AB,AA (.lst (tabs.map tbv))] (.t [0,1]) olM) (ps.map tv) st=.ok ((ps.flatMap λp=>tabs.map λq=>nxt w p q.1).map tv) st
 |[],_=>rfl
 |p::ps,h=>by
  let⟨h1,h2,h3⟩:=h p AV;have hb:yo (.t [0,1]) (tv p) [AB,AB,AB,AB,AA (.lst (tabs.map tbv))]=AA [AA (.tp AF (p.1.map .str)),AA (.lst (p.2.map t3)),AB,AB,AA (.lst (tabs.map tbv))]:=rfl;have hm:olM=.emq (.t [2,3]) (.seq (.var 4)) olE:=rfl;have hi:=zjB (k:=k) h1 h2 h3 (.lst (tabs.map tbv)) tabs ht;have e1:ya7 (yd T k) [AB,AB,AB,AB,AA (.lst (tabs.map tbv))] (.t [0,1]) olM (tv p) st=.ok ((tabs.map λq=>nxt w p q.1).map tv) st:=by
   erw[ya7,hb,hm];have hn:yag (.t [2,3]) [AA (PV.tp AF (p.1.map .str)),AA (PV.lst (p.2.map t3)),AB,AB,AA (.lst (tabs.map tbv))]=true:=rfl;simp! [IC.ve53,hi,hn];rfl
  rw[AS,yae,e1,bd_ok,zgb ht ps λp hp=>h p (AK _ hp),bd_ok];simp
def zeq(k:Nat){w:Nat}{st:SO}{tabs:List (AM×Nat)}(ht:ycj w st tabs){ps:List Pt}(h:∀p∈ps,(∀t∈p.2,W3 w t)/\p.1.length<=100/\p.2.length<=1000)(hz:(ps.flatMap λp=>tabs.map λq=>nxt w p q.1).length<=1000000):
  yd T (k+1) yfC [.lst (ps.map tv),.lst (tabs.map tbv)] st=.ok (.lst ((ps.flatMap λp=>tabs.map λq=>nxt w p q.1).map tv)) st:=by
 have e:=zgb (k:=k) ht ps h;have hT:T yfC=AA yx:=rfl;have hb:yx.body=.cons (.ret (.cmq [AB,AB,AB,AB,AA 1] (.t [0,1]) (.seq (.var 0)) olM)) .nil:=rfl;rw[zo hT rfl rfl,hb];have hz:((ps.flatMap λp=>tabs.map λq=>nxt w p q.1).map tv).length<=1000000:=by rw[Ah];exact hz
 simp! [yx,IC.ve52,e,zG _ hz];rfl
def ybp:List PV:=rws.map .str
def z8:yb=.tp AD ybp:=by with_unfolding_all rfl
def zfr:yax 60 ybp=true:=by decide +kernel
def inR(x:PV):Bool:=inL x ybp
def zi9{x:PV}(h:shp x=AD)(st:SO):ybA st x yb=AA (.bl (!inR x)):=by
 rw[z8];erw[ybA,yad,h,zfr,CL,if_true];rfl
def zez{r:AM}(hr:r∈rws):shp (.str r)=AD/\inR (.str r)=true:=by
 have:(rws.all λr=>shp (.str r)&&inR (.str r))=true:=by decide +kernel
 simpa using Ad.1 this r hr
def rrB:Css:=match yj.body with
 |.cons (.forl _ _ b) _=>b
 |x=>x
def rrT:Css:=match yj.body with
 |.cons _ r=>r
 |x=>x
def zgG{call:Cl}{x v:PV}(h:shp x=AD)(st:SO):exs call [AA v,AA x] st rrB=if inR x then .nx [AA v,AA x] st else .exc 4 [AA v,AA x] st:=by
 have e:=zi9 h st
 cases hi:inR x with
 |true=>
  rw[hi]at e;simp! [rrB,yj,e]
 |false=>
  rw[hi]at e;simp! [rrB,yj,e];rfl
def zeA{call:Cl}{v:PV}(st:SO):∀(vs:List PV),(∀x∈vs,shp x=AD)->∀p,(vs.all inR=AD->∃q,yaK call (.n 1) rrB vs [AA v,p] st=.nx [AA v,q] st)/\(vs.all inR=AF->∃ρ,yaK call (.n 1) rrB vs [AA v,p] st=.exc 4 ρ st)
 |[],_,p=>⟨λ_=>⟨p,zI⟩,λh=>(by cases h)⟩
 |x::vs,hs,p=>by
  have h1:=zgG (call:=call) (v:=v) (hs x AV) st;let⟨i1,i2⟩:=zeA (call:=call) (v:=v) st vs (λx hx=>hs x (AK _ hx)) (AA x);rw[zx (ρ1:=[AA v,AA x]) rfl,h1,Ay]
  cases hi:inR x with
  |true=>exact⟨λh=>i1 (by simpa using h),λh=>i2 (by simpa using h)⟩
  |false=>exact⟨λh=>(by cases h),λ_=>⟨_,rfl⟩⟩
def zdk(k:Nat){st:SO}{v:PV}{vs:List PV}(h:Src st v vs)(hs:∀x∈vs,shp x=AD)(hl:vs.length<=1000):yd T (k+1) yk [v] st=if vs.all inR then(if vs.length<=8 then .ok .non st else .exc 8 st)else .exc 4 st:=by
 have hT:T yk=AA yj:=rfl;have hb:yj.body=.cons (.forl (.n 1) (.var 0) rrB) rrT:=rfl;let⟨i1,i2⟩:=zeA (call:=yd T k) (v:=v) st vs hs AB;rw[zo hT rfl rfl];show outI (exs (yd T k) [AA v,AB] st yj.body)=_;rw[hb,xs_cons,zeO (v:=v) (vs:=vs) rfl h ∅ (λρ=>∃p,ρ=[AA v,p]) ⟨AB,rfl⟩ (λx hx ρ hρ=>by
  let⟨p,rfl⟩:=hρ;refine⟨_,rfl,?_⟩;have h1:=zgG (call:=yd T k) (v:=v) (hs x hx) st;show (∃ρ2,exs (yd T k) [AA v,AA x] st rrB=.nx ρ2 st/\_) \/ ∃c ρ2,exs (yd T k) [AA v,AA x] st rrB=.exc c ρ2 st;rw[h1]
  cases inR x with
  |true=>exact .inl ⟨_,rfl,_,rfl⟩
  |false=>exact .inr ⟨_,_,rfl⟩)]
 cases ha:vs.all inR with
 |false=>
  let⟨ρ,e⟩:=i2 ha;rw[e,th_exc];rfl
 |true=>
  let⟨q,e⟩:=i1 ha;rw[e,th_nx];have hm:yi=.int 8:=rfl
  by_cases hc:vs.length<=8
  .have hd:yC .gt (.int (vs.length:Int)) yi=AA (.bl AF):=by rw[hm,c_gt,decide_eq_false ∅]
   rw[if_pos rfl,if_pos hc];simp! [rrT,yj,zd2 h,hd,outI]
  .have hd:yC .gt (.int (vs.length:Int)) yi=AA (.bl AD):=by rw[hm,c_gt,decide_eq_true ∅]
   rw[if_pos rfl,if_neg hc];simp! [rrT,yj,zd2 h,hd,outI];rfl
def zbE(k:Nat){st:SO}{v:PV}{ss:List AM}(h:Src st v (ss.map .str))(hs:∀r∈ss,r∈rws)(hl:ss.length<=8):yd T (k+1) yk [v] st=.ok .non st:=by
 rw[zdk k h (λx hx=>by
  let⟨r,hr,rfl⟩:=BD.1 hx;exact(zez (hs r hr)).1) (by simp;lia),if_pos,if_pos (by simp;lia)]
 rw[Ad];intro x hx;let⟨r,hr,rfl⟩:=BD.1 hx;exact(zez (hs r hr)).2
def lv(w:Nat):Nat->List Pt
 |0=>[([],sts w)]
 |n+1=>(lv w n).flatMap λp=>rws.map λr=>nxt w p r
def zfD{w:Nat}(hw:Wid w):∀(n:Nat),∀p∈lv w n,(∀t∈p.2,W3 w t)/\p.1.length=n/\p.2.length=(sts w).length/\∀r∈p.1,r∈rws
 |0,p,h=>by
  rw[C8.1 h];exact⟨λt ht=>zdE ht,rfl,rfl,λr hr=>nomatch hr⟩
 |n+1,p,h=>by
  erw[lv,CW,BD]at h;let⟨q,hq,r,hr,rfl⟩:=h;let⟨h1,h2,h3,h4⟩:=zfD hw n q hq;refine⟨λt ht=>?_,by simp[nxt,h2],by simp[nxt,h3],λs hs=>?_⟩
  .simp only[nxt,BD]at ht;let⟨u,hu,rfl⟩:=ht;exact(zbN hw hr (h1 u hu) 0 []).1
  .simp only[nxt,Ax,C8]at hs;rcases hs with hs|rfl
   .exact h4 s hs
   .exact hr
def zds(w:Nat):∀n,(lv w n).length=13^n
 |0=>rfl
 |n+1=>by
  have:∀(l:List Pt),(l.flatMap λp=>rws.map λr=>nxt w p r).length=l.length*13:=by
   intro l
   induction l with
   |nil=>rfl
   |cons a l ih=>rw[List.flatMap_cons,Ao,ih,Ah,Am];show 13+_=_;lia
  rw[lv,this,zds w n,Nat.pow_succ]
def zgL(n:Nat)(t:T3):shd (n+1) (t3 t)=true:=by simp[t3,shd,yax]
def zdL(n:Nat):∀l:List T3,yax (n+1) (l.map t3)=AD
 |[]=>rfl
 |t::l=>by rw[AS,yax,zgL,zdL n l];rfl
def zi6(l:List T3):shp (.lst (l.map t3))=true:=by
 show shd 60 (.lst (l.map t3))=AD;rw[shd,zdL 58 l];rfl
def zeM:∀a b:List T3,yaO (a.map t3) (b.map t3)=decide (a=b)
 |[],[]=>rfl
 |[],b::bs=>rfl
 |a::as,[]=>rfl
 |a::as,b::bs=>by
  rw[AS,AS,yaO,zcy,zeM as bs]
  by_cases h1:a=b<;>by_cases h2:as=bs<;>simp[h1,h2]
def zkt(a b:List T3):yC .eq (.lst (a.map t3)) (.lst (b.map t3))=AA (.bl (decide (a=b))):=by
 erw[yC,zi6,CL,if_true,peq,zeM]
def yaf(tg:List T3):List Pt->Int->Option PV
 |[],_=>AB
 |p::ps,n=>if p.2=tg then AA (.tp AF [.tp AF (p.1.map .str),.int n])else yaf tg ps (n+1)
def yaJ(w:Nat)(tg:List T3):List Nat->Int->PV
 |[],n=>.tp AF [.non,.int n]
 |i::is,n=>match yaf tg (lv w i) n with
  |some v=>v
  |none=>yaJ w tg is (n+((lv w i).length:Int))
def ybs:Css:=match f_short.body with
 |.cons _ (.cons _ (.cons _ (.cons _ (.cons _ (.cons _ (.cons (.for _ _ b) _))))))=>b
 |_=>.nil
def ycd:Css:=match ybs with
 |.cons _ (.cons (.for _ _ b) _)=>b
 |_=>.nil
abbrev rho(v:PV)(w:Nat)(b wn tb:PV)(n:Int)(tr:PV)(l p8 p9:Option PV):IC.Env:=[AA v,AA (.int w),AA b,AA wn,AA tb,AA (.int n),AA tr,l,p8,p9]
def zct{call:Cl}{v b tb tr:PV}{w:Nat}{tg:List T3}{l:Option PV}(st:SO):∀(ps:List Pt) (n:Int) (p8 p9:Option PV),
  (∀u,yaf tg ps n=AA u->yaK call (.t [8,9]) ycd (ps.map tv) (rho v w b (.lst (tg.map t3)) tb n tr l p8 p9) st=.rt u st) /\
  (yaf tg ps n=AB->∃q8 q9,yaK call (.t [8,9]) ycd (ps.map tv) (rho v w b (.lst (tg.map t3)) tb n tr l p8 p9) st=.nx (rho v w b (.lst (tg.map t3)) tb (n+(ps.length:Int)) tr l q8 q9) st)
 |[],n,p8,p9=>⟨λu h=>(by cases h),λ_=>⟨p8,p9,by rw[CD,zI];simp⟩⟩
 |p::ps,n,p8,p9=>by
  have he:=zkt p.2 tg;let⟨i1,i2⟩:=zct (call:=call) (v:=v) (b:=b) (tb:=tb) (tr:=tr) (w:=w) (tg:=tg) (l:=l) st ps (n+1) (AA (.tp AF (p.1.map .str))) (AA (.lst (p.2.map t3)));have hb:yo (.t [8,9]) (tv p) (rho v w b (.lst (tg.map t3)) tb n tr l p8 p9)=AA (rho v w b (.lst (tg.map t3)) tb n tr l (AA (.tp AF (p.1.map .str))) (AA (.lst (p.2.map t3)))):=rfl;rw[AS,zx hb,yaf]
  by_cases h:p.2=tg
  .rw[decide_eq_true h]at he;have e:exs call (rho v w b (.lst (tg.map t3)) tb n tr l (AA (.tp AF (p.1.map .str))) (AA (.lst (p.2.map t3)))) st ycd=.rt (.tp AF [.tp AF (p.1.map .str),.int n]) st:=by
    simp! [ycd,ybs,f_short,rho,he]
   rw[if_pos h,e];exact⟨λu hu=>(by cases hu;rfl),λhu=>(by cases hu)⟩
  .rw[decide_eq_false h]at he;have e:exs call (rho v w b (.lst (tg.map t3)) tb n tr l (AA (.tp AF (p.1.map .str))) (AA (.lst (p.2.map t3)))) st ycd=.nx (rho v w b (.lst (tg.map t3)) tb (n+1) tr l (AA (.tp AF (p.1.map .str))) (AA (.lst (p.2.map t3)))) st:=by
    simp! [ycd,ybs,f_short,rho,he];rw[IC.x_aug (x:=.int n) rfl];rfl
   rw[if_neg h,e];refine⟨λu hu=>i1 u hu,λhu=>?_⟩;let⟨q8,q9,f⟩:=i2 hu;refine⟨q8,q9,?_⟩;show yaK call _ _ _ _ st=_;rw[f,show n+1+(ps.length:Int)=n+(((p::ps).length:Nat):Int)by rw[Am];lia]
def dcs(w:Nat)(ss:List AM):SO:=ss.map λr=>.dct AD (kvt w r (sts w))
def tabs:List AM->Nat->List (AM×Nat)
 |[],_=>[]
 |s::ss,m=>(s,m)::tabs ss (m+1)
def za6:∀(ss:List AM) (m:Nat),(tabs ss m).map (·.1)=ss
 |[],_=>rfl
 |s::ss,m=>by rw[tabs,AS,za6 ss]
def zeF(w:Nat):∀(ss:List AM),(∀r∈ss,r∈rws)->∀(st:SO),ycj w (st++dcs w ss) (tabs ss st.length)
 |[],_,st=>λq hq=>nomatch hq
 |s::ss,hs,st=>λq hq=>by
  have e:st++dcs w (s::ss)=(st++[.dct AD (kvt w s (sts w))])++dcs w ss:=by simp[dcs]
  rw[tabs]at hq;rcases A5.1 hq with rfl|hq
  .exact⟨hs s AV,by rw[e];simp⟩
  .rw[e];refine zeF w ss (λr hr=>hs r (AK _ hr)) _ q ?_;simpa using hq
def yda:Ce:=match f_short.body with
 |.cons _ (.cons _ (.cons _ (.cons (.asg _ (.comp _ _ _ _ e)) _)))=>e
 |_=>.nope
def zcV{w:Nat}(hw:Wid w)(k:Nat):∀(ss:List AM),(∀r∈ss,r∈rws)->∀(st:SO),
  yS (yd T (k+6)) [AB,AA (.int w),AA (.lst ((sts w).map t3))] (.n 0) (.cst (.bl AD)) yda (ss.map .str) st=.ok ((tabs ss st.length).map tbv) (st++dcs w ss)
 |[],_,st=>by rw[CD,zL];simp[tabs,dcs]
 |s::ss,hs,st=>by
  have hb:yo (.n 0) (.str s) [AB,AA (.int w),AA (.lst ((sts w).map t3))]=AA [AA (.str s),AA (.int w),AA (.lst ((sts w).map t3))]:=rfl;have e:=zft hw (hs s AV) k st;have i:=zcV hw k ss (λr hr=>hs r (AK _ hr)) (st++[.dct AD (kvt w s (sts w))]);have e1:ya2 (yd T (k+6)) [AB,AA (.int w),AA (.lst ((sts w).map t3))] (.n 0) (.cst (.bl AD)) yda (.str s) st=.ok (AA (tbv (s,st.length))) (st++[.dct AD (kvt w s (sts w))]):=by
   erw[ya2,hb,IC.ve1,bd_ok,t_bl,ono,cond_true];simp! [yda,f_short,e];rfl
  rw[AS,zp,e1,bd_ok,i,bd_ok];simp[tabs,dcs,ybz]
def wnE:Ce:=match f_short.body with
 |.cons _ (.cons _ (.cons (.asg _ (.comp _ _ _ _ e)) _))=>e
 |_=>.nope
def zeH{w:Nat}(hw:Wid w)(k:Nat){ss:List AM}(hs:∀r∈ss,r∈rws)(hl:ss.length<=8){st:SO}{v:PV}(hv:Src st v (ss.map .str)):∀(ts:List T3),(∀t∈ts,W3 w t) ->
  yS (yd T (k+6)) [AB,AB,AB,AA v,AA (.int w)] (.t [0,1,2]) (.cst (.bl AD)) wnE (ts.map t3) st=.ok ((ts.map (ad w ss)).map t3) st
 |[],_=>zL
 |t::ts,h=>by
  have hb:yo (.t [0,1,2]) (t3 t) [AB,AB,AB,AA v,AA (.int w)]=AA [AA (.int t.1),AA (.int t.2.1),AA (.int t.2.2),AA v,AA (.int w)]:=rfl;have e:=zaO hw k hs hl (h t AV) st hv;have i:=zeH hw k hs hl hv ts λt h'=>h t (AK _ h');have e1:ya2 (yd T (k+6)) [AB,AB,AB,AA v,AA (.int w)] (.t [0,1,2]) (.cst (.bl AD)) wnE (t3 t) st=.ok (AA (t3 (ad w ss t))) st:=by
   erw[ya2,hb,IC.ve1,bd_ok,t_bl,ono,cond_true];simp! [wnE,f_short,e]
  rw[AS,zp,e1,bd_ok,i,bd_ok];rfl
def zhK(k:Nat){w:Nat}(hw:Wid w){v b:PV}{tg:List T3}{tb:List (AM×Nat)}{st:SO}(ht:ycj w st tb)(hf:tb.map (·.1)=rws)(i:Nat)(hi:i<4)(n:Int)(p8 p9:Option PV):
  (∀u,yaf tg (lv w i) n=AA u->exs (yd T (k+1)) (rho v w b (.lst (tg.map t3)) (.lst (tb.map tbv)) n (.lst ((lv w (i-1)).map tv)) (AA (.int i)) p8 p9) st ybs=.rt u st) /\
  (yaf tg (lv w i) n=AB->∃q8 q9,exs (yd T (k+1)) (rho v w b (.lst (tg.map t3)) (.lst (tb.map tbv)) n (.lst ((lv w (i-1)).map tv)) (AA (.int i)) p8 p9) st ybs =
   .nx (rho v w b (.lst (tg.map t3)) (.lst (tb.map tbv)) (n+((lv w i).length:Int)) (.lst ((lv w i).map tv)) (AA (.int i)) q8 q9) st):=by
 have hb:ybs=.cons (.ite (.cmp .gt (.var 7) (.cst (.int 0))) (.cons (.asg (.n 6) (.call 18 (.cons (.var 6) (.cons (.var 4) .nil)))) .nil) .nil) (.cons (.for (.t [8,9]) (.seq (.var 6)) ycd) .nil):=rfl;have first:ex (yd T (k+1)) (rho v w b (.lst (tg.map t3)) (.lst (tb.map tbv)) n (.lst ((lv w (i-1)).map tv)) (AA (.int i)) p8 p9) st (.ite (.cmp .gt (.var 7) (.cst (.int 0))) (.cons (.asg (.n 6) (.call 18 (.cons (.var 6) (.cons (.var 4) .nil)))) .nil) .nil) =
   .nx (rho v w b (.lst (tg.map t3)) (.lst (tb.map tbv)) n (.lst ((lv w i).map tv)) (AA (.int i)) p8 p9) st:=by
  cases i with
  |zero=>
   have hc:yC .gt (.int ((0:Nat):Int)) (.int 0)=AA (.bl AF):=rfl;simp! [rho,hc]
  |succ i=>
   have hc:yC .gt (.int ((i+1:Nat):Int)) (.int 0)=AA (.bl AD):=by rw[c_gt,decide_eq_true ∅]
   have el:((lv w i).flatMap λp=>tb.map λq=>nxt w p q.1)=lv w (i+1):=by
    rw[lv]
    congr 1
    funext p
    rw[<-hf,Bo];rfl
   have hz:(lv w (i+1)).length<=1000000:=by
    rw[zds];rcases (by lia:i=0 \/ i=1 \/ i=2)with rfl|rfl|rfl<;>decide
   have hn:=zco hw;have e:=zeq k ht (ps:=lv w i) (λp hp=>by
    let⟨h1,h2,h3,h4⟩:=zfD hw i p hp;exact⟨h1,by lia,by lia⟩) (by rw[el];exact hz)
   rw[el]at e;have e:yd T (k+1) 18 [.lst ((lv w (i+1-1)).map tv),.lst (tb.map tbv)] st=.ok (.lst ((lv w (i+1)).map tv)) st:=e;simp! [rho,hc,e]
 let⟨i1,i2⟩:=zct (call:=yd T (k+1)) (v:=v) (b:=b) (tb:=.lst (tb.map tbv)) (tr:=.lst ((lv w i).map tv)) (w:=w) (tg:=tg) (l:=AA (.int i)) st (lv w i) n p8 p9;rw[hb];constructor
 .intro u hu;rw[xs_cons,first,th_nx,xs_cons,x_for];have hv:evi (yd T (k+1)) (rho v w b (.lst (tg.map t3)) (.lst (tb.map tbv)) n (.lst ((lv w i).map tv)) (AA (.int i)) p8 p9) st (.seq (.var 6))=.ok ((lv w i).map tv) st:=rfl;rw[hv,fl_ok,i1 u hu,th_rt]
 .intro hu;let⟨q8,q9,f⟩:=i2 hu;refine⟨q8,q9,?_⟩;rw[xs_cons,first,th_nx,xs_cons,x_for];have hv:evi (yd T (k+1)) (rho v w b (.lst (tg.map t3)) (.lst (tb.map tbv)) n (.lst ((lv w i).map tv)) (AA (.int i)) p8 p9) st (.seq (.var 6))=.ok ((lv w i).map tv) st:=rfl;rw[hv,fl_ok,f,th_nx,xs_nil]
theorem lens(k:Nat){w:Nat}(hw:Wid w){v b:PV}{tg:List T3}{tb:List (AM×Nat)}{st:SO}(ht:ycj w st tb)(hf:tb.map (·.1)=rws):∀(m i:Nat),i+m=4->∀(n:Int) (l p8 p9:Option PV),
  (∃u,yaK (yd T (k+1)) (.n 7) ybs (yu m i 1) (rho v w b (.lst (tg.map t3)) (.lst (tb.map tbv)) n (.lst ((lv w (i-1)).map tv)) l p8 p9) st=.rt u st/\yaJ w tg (Cw i m) n=u) \/
  ∃n' tr' l' q8 q9,yaK (yd T (k+1)) (.n 7) ybs (yu m i 1) (rho v w b (.lst (tg.map t3)) (.lst (tb.map tbv)) n (.lst ((lv w (i-1)).map tv)) l p8 p9) st=.nx (rho v w b (.lst (tg.map t3)) (.lst (tb.map tbv)) n' tr' l' q8 q9) st/\yaJ w tg (Cw i m) n=.tp AF [.non,.int n']
 |0,i,_,n,l,p8,p9=>.inr ⟨n,_,l,p8,p9,by rw[yu,zI],rfl⟩
 |m+1,i,hm,n,l,p8,p9=>by
  let⟨i1,i2⟩:=zhK k hw (v:=v) (b:=b) (tg:=tg) ht hf i ∅ n p8 p9;have hb:yo (.n 7) (.int (i:Int)) (rho v w b (.lst (tg.map t3)) (.lst (tb.map tbv)) n (.lst ((lv w (i-1)).map tv)) l p8 p9)=AA (rho v w b (.lst (tg.map t3)) (.lst (tb.map tbv)) n (.lst ((lv w (i-1)).map tv)) (AA (.int i)) p8 p9):=rfl;rw[yu,zx hb,FP,yaJ]
  cases hh:yaf tg (lv w i) n with
  |some u=>
   rw[i1 u hh];exact .inl ⟨u,rfl,rfl⟩
  |none=>
   let⟨q8,q9,f⟩:=i2 hh;rw[f];have:=lens k hw (v:=v) (b:=b) (tg:=tg) ht hf m (i+1) ∅ (n+((lv w i).length:Int)) (AA (.int i)) q8 q9;exact this
def zau(k:Nat){w:Nat}(hw:Wid w){ss:List AM}(hs:∀r∈ss,r∈rws)(hl:ss.length<=8){st:SO}{v:PV}(hv:Src st v (ss.map .str)):
  yd T (k+7) yfe [v,.int w] st=.ok (yaJ w ((sts w).map (ad w ss)) [0,1,2,3] 0) (st++dcs w rws):=by
 have hT:T yfe=AA f_short:=rfl;have e1:yd T (k+6) yk [v] st=.ok .non st:=zbE (k+5) hv hs hl;have e2:yd T (k+6) yf [.int w] st=.ok (.lst ((sts w).map t3)) st:=zfL hw (k+5) st;have e3:=zeH hw k hs hl hv (sts w) λt h=>zdE h;have e4:=zcV hw k rws (λr hr=>hr) st;have hn:=zco hw;have z3:(((sts w).map (ad w ss)).map t3).length<=1000000:=by simp;lia
 have z4:((tabs rws st.length).map tbv).length<=1000000:=by
  have:=congrArg CB (za6 rws st.length);erw[Ah]at this ⊢;rw[this];decide
 have hr:ybS (.int 4)=AA (yu 4 0 1):=rfl
 have hb:f_short.body=(match f_short.body with
  |.cons a (.cons b (.cons (.asg t1 (.comp s1 g1 j1 c1 _)) (.cons (.asg t2 (.comp s2 g2 j2 c2 _)) (.cons d (.cons e (.cons (.for t i _) r))))))=>.cons a (.cons b (.cons (.asg t1 (.comp s1 g1 j1 c1 wnE)) (.cons (.asg t2 (.comp s2 g2 j2 c2 yda)) (.cons d (.cons e (.cons (.for t i ybs) r))))))
  |x=>x):=rfl
 have hsr:yb=.tp AD (rws.map .str):=z8;have h3:yw .add yeo (.int 1)=AA (.int 4):=rfl;rw[zo hT rfl rfl,hb];have hfin:=lens (k+5) hw (v:=v) (b:=.lst ((sts w).map t3)) (tg:=(sts w).map (ad w ss)) (zeF w rws (λr hr=>hr) st) (za6 rws st.length) 4 0 rfl 0 AB AB AB;have h0:(PV.lst ((lv w (0-1)).map tv))=.lst [.tp AF [.tp AF [],.lst ((sts w).map t3)]]:=rfl;rw[h0]at hfin;rcases hfin with⟨u,f,g⟩|⟨n',tr',l',q8,q9,f,g⟩
 .have f:yaK (yd T (k+6)) (.n 7) ybs (yu 4 0 1) [AA v,AA (.int w),AA (.lst ((sts w).map t3)),AA (.lst (((sts w).map (ad w ss)).map t3)),AA (.lst ((tabs rws st.length).map tbv)),AA (.int 0),AA (.lst [.tp AF [.tp AF [],.lst ((sts w).map t3)]]),AB,AB,AB] (st++dcs w rws)=.rt u (st++dcs w rws):=f;have g:yaJ w ((sts w).map (ad w ss)) [0,1,2,3] 0=u:=g;simp! [f_short,e1,e2,e3,zG _ z3,hsr,e4,zG _ z4,h3,hr,f,zbr,g]
 .have f:yaK (yd T (k+6)) (.n 7) ybs (yu 4 0 1) [AA v,AA (.int w),AA (.lst ((sts w).map t3)),AA (.lst (((sts w).map (ad w ss)).map t3)),AA (.lst ((tabs rws st.length).map tbv)),AA (.int 0),AA (.lst [.tp AF [.tp AF [],.lst ((sts w).map t3)]]),AB,AB,AB] (st++dcs w rws)=.nx _ (st++dcs w rws):=f;have g:yaJ w ((sts w).map (ad w ss)) [0,1,2,3] 0=.tp AF [.non,.int n']:=g;simp! [f_short,e1,e2,e3,zG _ z3,hsr,e4,zG _ z4,h3,hr,f,zbr,g]
def zfe(k:Nat)(st:SO):yd T (k+1) yei [] st=.ok (.tp AF ybp) st:=by
 have h:(match yd T 1 yei [] []with | .ok (.tp AF xs) _=>ybW xs ybp|_=>AF)=true:=by decide +kernel
 split at h
 .rename_i xs s e;rw[zbk _ _ h]at e;rw[DJ];exact zS (zaH (k:=0) (fn:=ydG) rfl rfl rfl rfl e st) k
 .cases h
def zgk{α:Type}{xs:List α}{d:Nat}(h:d<xs.length):at? xs (d:Int)=AA xs[d]:=by
 unfold at? ixI;rw[if_pos ∅,if_pos ∅];simp[h]
def smB:Css:=match yr.body with
 |.cons _ (.cons (.for _ _ b) _)=>b
 |x=>x
def zdS{w:Nat}(hw:Wid w)(k:Nat)(p0 p2:Option PV):∀(ss:List AM),(∀r∈ss,r∈rws)->∀{t:T3},W3 w t->∀p6,∃q6,
  yaK (yd T (k+5)) (.n 6) smB (ss.map .str) [p0,AA (.int ((2^w:Nat):Int)),p2,AA (.int t.1),AA (.int t.2.1),AA (.int t.2.2),p6] []=.nx [p0,AA (.int ((2^w:Nat):Int)),p2,AA (.int (ad w ss t).1),AA (.int (ad w ss t).2.1),AA (.int (ad w ss t).2.2),q6] []
 |[],hs,t,h,p6=>⟨p6,zI⟩
 |r::ss,hs,t,h,p6=>by
  have hr:=hs r AV;have e:=(zeN hw hr h k []).2.2;let⟨q6,f⟩:=zdS hw k p0 p2 ss (λr hr=>hs r (AK _ hr)) (zbN hw hr h 0 []).1 (AA (.str r));refine⟨q6,?_⟩;have e1:exs (yd T (k+5)) [p0,AA (.int ((2^w:Nat):Int)),p2,AA (.int t.1),AA (.int t.2.1),AA (.int t.2.2),AA (.str r)] [] smB=.nx [p0,AA (.int ((2^w:Nat):Int)),p2,AA (.int (sd w r t).1),AA (.int (sd w r t).2.1),AA (.int (sd w r t).2.2),AA (.str r)] []:=by
   simp! [smB,yr,e,zkH,t3]
  rw[AS,zx (ρ1:=[p0,AA (.int ((2^w:Nat):Int)),p2,AA (.int t.1),AA (.int t.2.1),AA (.int t.2.2),AA (.str r)]) rfl,e1];exact f
def zen{w:Nat}(hw:Wid w)(k:Nat){ss:List AM}(hs:∀r∈ss,r∈rws){t:T3}(h:W3 w t)(st:SO){v:PV}(hv:v=.lst (ss.map .str) \/ v=.tp AF (ss.map .str)):
  yd T (k+6) yf1 [v,.int ((2^w:Nat):Int),t3 t] st=.ok (t3 (ad w ss t)) st:=by
 let⟨q6,e⟩:=zdS hw k (AA v) (AA (t3 t)) ss hs h AB;have hT:T yf1=AA yr:=rfl
 have hb:yr.body=(match yr.body with
  |.cons a (.cons (.for t i _) r)=>.cons a (.cons (.for t i smB) r)
  |x=>x):=rfl
 have hn:nLs (ss.map .str)=true:=zad ss;have hn2:nLs [v,.int ((2^w:Nat):Int),t3 t]=true:=by rcases hv with rfl|rfl<;>simp[nLs,nL,hn,t3]
 have ho:∀s,ycI st (.rt (.tp AF [.int (ad w ss t).1,.int (ad w ss t).2.1,.int (ad w ss t).2.2]) s)=.ok (t3 (ad w ss t)) st:=λ_=>rfl;rw[zN hT rfl rfl hn2,hb];erw[t3]at e ⊢;rcases hv with rfl|rfl
 .simp! [yr,zkH,e];exact ho _
 .simp! [yr,zkH,e];exact ho _
def zgF(w:Nat):∀(n:Nat),∀p∈lv w n,p.2=(sts w).map (ad w p.1)
 |0,p,h=>by
  rw[C8.1 h];show sts w=(sts w).map (ad w []);have:ad w []=id:=rfl;rw[this,FT]
 |n+1,p,h=>by
  erw[lv,CW,BD]at h;let⟨q,hq,r,hr,rfl⟩:=h;erw[nxt,zgF w n q hq,Bo]
  congr 1
  funext t
  simp[ad,Da]
def Fnd(u:PV):Prop:=∃(a:PV) (n:Int),u=.tp AF [a,.int n]/\(a=.non \/ ∃ss:List AM,a=.tp AF (ss.map .str)/\∀r∈ss,r∈rws)
def zeP{tg:List T3}:∀(ps:List Pt),(∀p∈ps,∀r∈p.1,r∈rws)->∀(n:Int) u,yaf tg ps n=AA u->Fnd u
 |[],_,n,u,h=>by cases h
 |p::ps,hp,n,u,h=>by
  rw[yaf]at h;split at h
  .cases h
   exact⟨_,n,rfl,.inr ⟨p.1,rfl,hp p AV⟩⟩
  .exact zeP ps (λp h=>hp p (AK _ h)) _ u h
def zc0{w:Nat}(hw:Wid w){tg:List T3}:∀(is:List Nat) (n:Int),Fnd (yaJ w tg is n)
 |[],n=>⟨.non,n,rfl,.inl rfl⟩
 |i::is,n=>by
  rw[yaJ];split
  .rename_i v e;exact zeP _ (λp hp=>(zfD hw i p hp).2.2.2) _ _ e
  .exact zc0 hw is _
def zeC:∀(n:Nat) (a:Int),(yu n a 1).length=n
 |0,a=>rfl
 |n+1,a=>by rw[yu,Am,zeC n]
def srE:Ce:=match yq.body with
 |.cons _ (.cons (.ret (.comp _ _ _ _ e)) _)=>e
 |_=>.nope
def zee{ns:List Int}(hns:ns.length<=1000)(k:Nat):∀(xs:List PV) {st:SO},Drw ns 0 st->∃(ss:List AM) (st':SO),ss.length=xs.length/\(∀r∈ss,r∈rws)/\Onl ns 0 st st'/\yS (yd T (k+3)) [AB,AA (.loc 0)] (.n 0) (.cst (.bl AD)) srE xs st=.ok (ss.map .str) st'
 |[],st,h=>⟨[],st,rfl,by simp,h.refl,zL⟩
 |x::xs,st,h=>by
  let⟨d,s1,d0,d1,o1,e1⟩:=zkE k hns (m:=13) ∅ ∅ h;let⟨d,rfl⟩:=zah d0;have hd:d<rws.length:=by simp[rws];lia
  have hi:idxV s1 (.tp AF ybp) (.int d)=AA (.str rws[d]):=by
   have hl:d<ybp.length:=by rw[ybp,Ah];exact hd
   show at? ybp (d:Int)=_;rw[zgk hl];simp[ybp]
  let⟨ss,s2,l,hs,o2,e2⟩:=zee hns k xs (o1.drw h);have e4:yd T (k+3) yei [] st=.ok (.tp AF ybp) st:=zfe (k+2) st;have hb:yo (.n 0) x [AB,AA (.loc 0)]=AA [AA x,AA (.loc 0)]:=rfl;have e3:ya2 (yd T (k+3)) [AB,AA (.loc 0)] (.n 0) (.cst (.bl AD)) srE x st=.ok (AA (.str rws[d])) s1:=by
   erw[ya2,hb,IC.ve1,bd_ok,t_bl,ono,cond_true];simp! [srE,yq,e4,e1,hi]
  refine⟨rws[d]::ss,s2,by simp[l],λq hq=>?_,o1.trans o2,?_⟩
  .rcases A5.1 hq with rfl|hq
   .exact Cr hd
   .exact hs q hq
  .rw[zp,e3,bd_ok,e2,bd_ok];rfl
def zaR{ns:List Int}(hns:ns.length<=1000)(k:Nat){M:Nat}(hM:M<=100){st:SO}(h:Drw ns 0 st):∃(ss:List AM) (st':SO),ss.length<=M/\(∀r∈ss,r∈rws)/\Onl ns 0 st st'/\yd T (k+4) yf6 [.loc 0,.int M] st=.ok (.lst (ss.map .str)) st':=by
 have hT:T yf6=AA yq:=rfl;let⟨d,s1,d0,d1,o1,e1⟩:=zkE k hns (m:=(M:Int)+1) ∅ ∅ h;let⟨d,rfl⟩:=zah d0;let⟨ss,s2,l,hs,o2,e2⟩:=zee hns k (yu d 0 1) (o1.drw h);have hl:(yu d 0 1).length=d:=zeC d 0;refine⟨ss,s2,by lia,hs,o1.trans o2,?_⟩
 have hb:yq.body=(match yq.body with
  |.cons a (.cons (.ret (.comp s t i c _)) r)=>.cons a (.cons (.ret (.comp s t i c srE)) r)
  |x=>x):=rfl
 have hr:ybS (.int (d:Int))=AA (yu d 0 1):=zfX d ∅;rw[zo hT rfl rfl,hb];simp! [yq,e1,hr,e2,zG _ (show (ss.map PV.str).length<=1000000 by simp;lia),zbr]
def zc7:∀ss:List AM,yaO (ss.map .str) (ss.map .str)=AD
 |[]=>rfl
 |s::ss=>by simp[yaO,peq,zc7 ss]
def zcX(n:Nat):∀ss:List AM,(∀r∈ss,r∈rws)->yax n (ss.map .str)=AD
 |[],_=>rfl
 |s::ss,h=>by
  have h1:shd n (.str s)=true:=(zez (h s AV)).1;rw[AS,yax,h1,zcX n ss λr hr=>h r (AK _ hr)];rfl
def zgP{u:PV}(h:Fnd u):shp u=AD/\peq u u=true:=by
 obtain⟨a,n,rfl,rfl|⟨ss,rfl,hs⟩⟩:=h
 .exact⟨rfl,by simp[peq,yaO]⟩
 .refine⟨?_,by simp[peq,yaO,zc7]⟩;show shd 60 _=AD;erw[shd,yax,zcX _ ss hs];rfl
def zjr{u:PV}(h:Fnd u):yC .eq u u=AA (.bl AD)/\yC .ne u u=AA (.bl AF):=by
 let⟨h1,h2⟩:=zgP h;erw[yC,h1,h2,CL,if_true,EY,and_self]
def zfF(a b:List AM)(h:a.length+b.length<=1000):yw .add (.lst (a.map .str)) (.lst (b.map .str))=AA (.lst ((a++b).map .str)):=by
 have hz:(a.map PV.str).length+(b.map PV.str).length<=sizeMax:=by simp[sizeMax];lia
 erw[yw];rw[if_pos hz,List.map_append]
def zgC{w:Nat}:∀{n:Nat} {ss:List AM},ss.length=n->(∀r∈ss,r∈rws)->(ss,(sts w).map (ad w ss))∈lv w n:=by
 intro n
 induction n with
 |zero=>
  intro ss h _;rw[Dj.1 h];have:ad w []=id:=rfl;simp[lv,this]
 |succ n ih=>
  intro ss h hs;obtain⟨l,r,rfl⟩:∃l r,ss=l++[r]:=by
   rcases List.eq_nil_or_concat ss with e|⟨l,r,e⟩
   .rw[e]at h;cases h
   .exact⟨l,r,by rw[e];simp⟩
  have hl:l.length=n:=by simp at h;exact h
  have i:=ih hl λq hq=>hs q (Cv _ hq);rw[lv,CW];refine⟨_,i,BD.2 ⟨r,hs r (by simp),?_⟩⟩;erw[nxt,Bo]
  congr 2
  funext t
  simp[ad,Da]
def zcO{tg:List T3}:∀(ps:List Pt) (n:Int),yaf tg ps n=AB->∀p∈ps,p.2≠tg
 |[],n,h,p,hp=>nomatch hp
 |q::ps,n,h,p,hp=>by
  rw[yaf]at h;split at h
  .cases h
  .rename_i hq;rcases A5.1 hp with rfl|hp
   .exact hq
   .exact zcO ps _ h p hp
def zcz{tg:List T3}:∀(ps:List Pt) (n:Int) u,yaf tg ps n=AA u->∃p∈ps,p.2=tg/\∃m,u=.tp AF [.tp AF (p.1.map .str),.int m]
 |[],n,u,h=>by cases h
 |p::ps,n,u,h=>by
  rw[yaf]at h;split at h
  .rename_i e
   cases h;exact⟨p,AV,e,n,rfl⟩
  .let⟨q,hq,m,e⟩:=zcz ps _ u h;exact⟨q,AK _ hq,m,e⟩
def zcq(w:Nat)(tg:List T3):∀(m i:Nat) (n:Int),(∀j,j<i->∀p∈lv w j,p.2≠tg) ->
  (yaJ w tg (Cw i m) n=.tp AF [.non,.int (n+((Cw i m).map λj=>((lv w j).length:Int)).sum)]/\∀j,j<i+m->∀p∈lv w j,p.2≠tg) \/
  ∃j,i<=j/\j<i+m/\∃p∈lv w j,p.2=tg/\(∃c,yaJ w tg (Cw i m) n=.tp AF [.tp AF (p.1.map .str),.int c])/\∀j',j' < j->∀q∈lv w j',q.2≠tg
 |0,i,n,h=>.inl ⟨by simp[yaJ],λj hj=>h j ∅⟩
 |m+1,i,n,h=>by
  rw[FP,yaJ]
  cases hh:yaf tg (lv w i) n with
  |some u=>
   let⟨p,hp,e,c,rfl⟩:=zcz _ _ _ hh;exact .inr ⟨i,AN _,by lia,p,hp,e,⟨c,rfl⟩,h⟩
  |none=>
   have hi:=zcO _ _ hh;dsimp only;rcases zcq w tg m (i+1) (n+((lv w i).length:Int)) (λj hj=>by
    rcases Cj j i with z|z
    .exact h j z
    .have:j=i:=by lia
     subst this;exact hi)with⟨e,f⟩|⟨j,h1,h2,p,hp,e,f,g⟩
   .refine .inl ⟨?_,λj hj=>f j ∅⟩;rw[e,AS,List.sum_cons,Fi]
   .exact .inr ⟨j,by lia,by lia,p,hp,e,f,g⟩
def zgU{w:Nat}(hw:Wid w){ss:List AM}(hs:∀r∈ss,r∈rws):
  (yaJ w ((sts w).map (ad w ss)) [0,1,2,3] 0=.tp AF [.non,.int 2380]/\∀qs:List AM,(∀r∈qs,r∈rws)->(sts w).map (ad w qs)=(sts w).map (ad w ss)->4<=qs.length) \/
  ∃(fs:List AM) (c:Int),yaJ w ((sts w).map (ad w ss)) [0,1,2,3] 0=.tp AF [.tp AF (fs.map .str),.int c]/\fs.length<=3/\(∀r∈fs,r∈rws)/\(sts w).map (ad w fs)=(sts w).map (ad w ss) /\
   ∀qs:List AM,(∀r∈qs,r∈rws)->(sts w).map (ad w qs)=(sts w).map (ad w ss)->fs.length<=qs.length:=by
 have h4:Cw 0 4=[0,1,2,3]:=rfl;rcases zcq w ((sts w).map (ad w ss)) 4 0 0 (λj hj=>by lia)with⟨e,f⟩|⟨j,h1,h2,p,hp,e,⟨c,f⟩,g⟩
 .rw[h4]at e;refine .inl ⟨?_,λqs hq he=>?_⟩
  .rw[e];erw[zds];rfl
  .rcases Cj qs.length 4 with z|z
   .exact absurd he (f qs.length ∅ _ (zgC rfl hq))
   .exact z
 .rw[h4]at f;let⟨_,hl,_,hr⟩:=zfD hw j p hp;have hf:=zgF w j p hp;refine .inr ⟨p.1,c,f,by lia,hr,by rw[<-hf,e],λqs hq he=>?_⟩;rcases Cj qs.length j with z|z
  .exact absurd he (g qs.length z _ (zgC rfl hq))
  .lia
def pcV:List PV:=match yd T 1 yv [] []with
 |.ok (.lst xs) _=>xs
 |_=>[]
def wordsOf(s:AM):List Str:=(((yI 32 s.cps.toList).map λl=>(⟨l.toArray⟩:AM)).filter λx=>decide (x≠AX ""))
def idxs(ss:List AM):List Nat:=ss.map λr=>rws.idxOf r
def runN(w:Nat)(is:List Nat)(ts:List N3):List N3:=is.foldl (λts i=>ts.map (fnN w i)) ts
def pcC:Bool:=decide (pcV.length=18)&&pcV.all λv=>match v with
 |.tp AF [.str a,.str b]=>decide (a.length<=1000)&&decide (b.length<=1000)&&(wordsOf a).all (λr=>decide (r∈rws))&&(wordsOf b).all (λr=>decide (r∈rws))&&decide ((wordsOf a).length<=4)&&decide ((wordsOf b).length<=4) &&
   [1,2,3].all λw=>decide (runN w (idxs (wordsOf a)) (stN w)=runN w (idxs (wordsOf b)) (stN w))
 |_=>AF
def zgd:pcC=true:=by decide +kernel
def ze3(k:Nat)(st:SO):yd T (k+1) yv [] st=.ok (.lst pcV) st:=by
 have h:(match yd T 1 yv [] []with | .ok (.lst xs) _=>AD|_=>AF)=true:=by decide +kernel
 have e:∃xs s,yd T 1 yv [] []=.ok (.lst xs) s:=by
  split at h
  .rename_i xs s e;exact⟨xs,s,e⟩
  .cases h
 let⟨xs,s,e⟩:=e;have hx:pcV=xs:=by unfold pcV;rw[e]
 rw[hx,DJ];exact zS (zaH (k:=0) (fn:=yB) rfl rfl rfl rfl e st) k
def zjF{a b:N3}(h:ya a=ya b):a=b:=by
 let⟨x,y,z⟩:=a;let⟨x',y',z'⟩:=b;erw[ya,Fj]at h ⊢;lia
def ziQ{w:Nat}(hw:Wid w){r:AM}(hr:r∈rws){t:N3}(h:t∈stN w):sd w r (ya t)=ya (fnN w (rws.idxOf r) t)/\fnN w (rws.idxOf r) t∈stN w:=by
 have hi:rws[rws.idxOf r]?=AA r:=by
  have hl:rws.idxOf r<rws.length:=List.idxOf_lt_length_iff.2 hr;rw[BY hl,List.getElem_idxOf]
 have e:=zkf hw hi h;refine⟨e,?_⟩;have hm:ya t∈sts w:=by rw[zcJ];exact BD.2 ⟨t,h,rfl⟩
 have:=zbj (zbN hw hr (zdE hm) 0 []).1;rw[e,zcJ]at this;let⟨u,hu,q⟩:=BD.1 this;rw[<-zjF q];exact hu
def zcH{w:Nat}(hw:Wid w):∀(ss:List AM),(∀r∈ss,r∈rws)->∀(ts:List N3),(∀t∈ts,t∈stN w)->(ts.map ya).map (ad w ss)=(runN w (idxs ss) ts).map ya
 |[],_,ts,_=>by
  have:ad w []=id:=rfl;rw[this,FT];rfl
 |r::ss,hs,ts,ht=>by
  have hr:=hs r AV;have i:=zcH hw ss (λr h=>hs r (AK _ h)) (ts.map (fnN w (rws.idxOf r))) (λt h=>by
   let⟨u,hu,rfl⟩:=BD.1 h;exact(ziQ hw hr (ht u hu)).2)
  have e:runN w (idxs (r::ss)) ts=runN w (idxs ss) (ts.map (fnN w (rws.idxOf r))):=rfl;rw[e,<-i,Bo,Bo,Bo];refine DF λt h=>?_;show ad w ss (sd w r (ya t))=ad w ss (ya (fnN w (rws.idxOf r) t));rw[(ziQ hw hr (ht t h)).1]
def zeU{w:Nat}(hw:Wid w){a b:List AM}(ha:∀r∈a,r∈rws)(hb:∀r∈b,r∈rws)(h:runN w (idxs a) (stN w)=runN w (idxs b) (stN w)):(sts w).map (ad w a)=(sts w).map (ad w b):=by
 rw[zcJ,zcH hw a ha _ λ_ h=>h,zcH hw b hb _ λ_ h=>h,h]
def zcP(w:Nat)(a b:List AM)(t:T3):ad w (a++b) t=ad w b (ad w a t):=by simp[ad,Da]
def zdI{w:Nat}{a b:List AM}(h:(sts w).map (ad w a)=(sts w).map (ad w b)){t:T3}(ht:W3 w t):ad w a t=ad w b t:=by
 rw[List.map_inj_left]at h;exact h t (zbj ht)
def zfm{w:Nat}(hw:Wid w){x a b z:List AM}(hx:∀r∈x,r∈rws)(h:(sts w).map (ad w a)=(sts w).map (ad w b)):(sts w).map (ad w (x++a++z))=(sts w).map (ad w (x++b++z)):=by
 refine DF λt ht=>?_;rw[zcP,zcP,zcP,zcP,zdI h (zkT hw hx (zdE ht))]
def spl(s:AM):List Str:=(yI 32 s.cps.toList).map λl=>(⟨l.toArray⟩:AM)
def yev:Bool:=pcV.all λv=>match v with
 |.tp AF [.str a,.str b]=>(spl a).all (λx=>shp (.str x))&&(spl b).all (λx=>shp (.str x))
 |_=>AF
def zhB:yev=true:=by decide +kernel
def Pcs(a b:AM):Prop:=(∀x∈spl a,shp (.str x)=AD)/\(∀x∈spl b,shp (.str x)=AD)/\a.length<=1000/\b.length<=1000/\(∀r∈wordsOf a,r∈rws)/\(∀r∈wordsOf b,r∈rws)/\(wordsOf a).length<=4/\(wordsOf b).length<=4/\∀w,Wid w->(sts w).map (ad w (wordsOf a))=(sts w).map (ad w (wordsOf b))
def zjD:pcV.length=18:=by
 have h:=zgd;unfold pcC at h;rw[AI,decide_eq_true_eq]at h;exact h.1
def zj5{d:Nat}(hd:d<18)(st:SO):∃a b:AM,idxV st (.lst pcV) (.int d)=AA (.tp AF [.str a,.str b])/\Pcs a b:=by
 have hl:d<pcV.length:=by rw[zjD];exact hd
 have h:=zgd;have h2:=zhB;unfold pcC at h;unfold yev at h2;rw[AI]at h;have h:=Ad.1 h.2 pcV[d] (Cr hl);have h2:=Ad.1 h2 pcV[d] (Cr hl);have hx:idxV st (.lst pcV) (.int d)=AA pcV[d]:=zgk hl;rw[hx];generalize pcV[d]=v at *;split at h
 .rename_i a b;erw[AI,decide_eq_true_eq,Ad]at h h2;let⟨⟨⟨⟨⟨⟨g1,g2⟩,g3⟩,g4⟩,g5⟩,g6⟩,g7⟩:=h;refine⟨a,b,rfl,h2.1,h2.2,g1,g2,g3,g4,g5,g6,λw hw=>zeU hw g3 g4 (g7 w ?_)⟩;rcases hw with rfl|rfl|rfl<;>simp
 .cases h
def zb4(call:Cl)(st:SO):∀(xs:List AM),(∀x∈xs,shp (.str x)=AD)->yS call [AB] (.n 0) (.cmp .ne (.var 0) (.cst (.str ""))) (.var 0) (xs.map .str) st=.ok ((xs.filter λx=>decide (x≠AX "")).map .str) st
 |[],_=>zL
 |x::xs,h=>by
  have hb:yo (.n 0) (.str x) [AB]=AA [AA (.str x)]:=rfl;have h1:=h x AV;have h2:shp (.str "")=true:=by decide +kernel
  have i:=zb4 call st xs λx hx=>h x (AK _ hx);have hc:yC .ne (.str x) (.str "")=AA (.bl (decide (x≠AX ""))):=by
   erw[yC,h1,h2,CL,if_true,peq]
   by_cases e:x=AX ""
   .rw[e];simp
   .simp[e]
  rw[AS,zp]
  by_cases e:x=AX ""
  .rw[decide_eq_false (by simp[e])]at hc;have e1:ya2 call [AB] (.n 0) (.cmp .ne (.var 0) (.cst (.str ""))) (.var 0) (.str x) st=.ok AB st:=by
    erw[ya2,hb];simp! [hc]
   rw[e1,bd_ok,i,bd_ok,List.filter_cons_of_neg (by simp[e])];rfl
  .rw[decide_eq_true (by simpa using e)]at hc;have e1:ya2 call [AB] (.n 0) (.cmp .ne (.var 0) (.cst (.str ""))) (.var 0) (.str x) st=.ok (AA (.str x)) st:=by
    erw[ya2,hb];simp! [hc]
   rw[e1,bd_ok,i,bd_ok,List.filter_cons_of_pos (by simpa using e)];rfl
def zjh{s:AM}(hl:s.length<=1000)(st:SO):ycM .split st (.str s) [.str " "]=.ok (.lst ((spl s).map .str)) st:=by
 have h1:(AX " ").cps.toList=[32]:=by decide +kernel
 erw[ycM,yaQ,h1];rw[if_pos ∅];simp[spl]
def zgH(k:Nat){w:Nat}(hw:Wid w){ss:List AM}(hs:∀r∈ss,r∈rws)(hl:ss.length<=8){t:T3}(ht:W3 w t)(st:SO):
  yd T (k+7) yfb [.lst (ss.map .str),.int w,.int t.1,.int t.2.1,.int t.2.2] st=.ok (t3 (ad w ss t)) st:=by
 have hT:T yfb=AA yl:=rfl;have hv:Src st (.lst (ss.map .str)) (ss.map .str):=.inr (.inl rfl);have e1:yd T (k+6) yk [.lst (ss.map .str)] st=.ok .non st:=zbE (k+5) hv hs hl;have e2:=zaO hw k hs hl ht st hv;rw[zo hT rfl rfl];simp! [yl,e1,e2,zbr]
def zhv(k:Nat){w:Nat}(hw:Wid w){a b:List AM}(ha:∀r∈a,r∈rws)(hb:∀r∈b,r∈rws)(la:a.length<=8)(lb:b.length<=8)(h:(sts w).map (ad w a)=(sts w).map (ad w b)){t:T3}(ht:W3 w t)(st:SO):
  yd T (k+8) ygb [.lst (a.map .str),.lst (b.map .str),.int w,t3 t] st=.ok (.bl AD) st:=by
 have hT:T ygb=AA ym:=rfl;have e1:yd T (k+7) 26 [.lst (a.map .str),.int ((2^w:Nat):Int),t3 t] []=.ok (t3 (ad w a t)) []:=zen hw (k+1) ha ht [] (.inl rfl);have e2:yd T (k+7) 11 [.lst (a.map .str),.int w,.int t.1,.int t.2.1,.int t.2.2] []=.ok (t3 (ad w a t)) []:=zgH k hw ha la ht [];have e3:yd T (k+7) 11 [.lst (b.map .str),.int w,.int t.1,.int t.2.1,.int t.2.2] []=.ok (t3 (ad w a t)) []:=by rw[zdI h ht];exact zgH k hw hb lb ht []
 have hwd:idxV [] (.lst [.int 1,.int 2,.int 4]) (.int ((w:Int)-1))=AA (.int ((2^(w-1):Nat):Int)):=by
  rcases hw with rfl|rfl|rfl<;>rfl
 have hml:yw .mul (.int 2) (.int ((2^(w-1):Nat):Int))=AA (.int ((2^w:Nat):Int)):=by
  rcases hw with rfl|rfl|rfl<;>rfl
 have x0:idxV [] (t3 t) (.int 0)=AA (.int t.1):=rfl;have x1:idxV [] (t3 t) (.int 1)=AA (.int t.2.1):=rfl;have x2:idxV [] (t3 t) (.int 2)=AA (.int t.2.2):=rfl;have hq:yC .eq (t3 (ad w a t)) (t3 (ad w a t))=AA (.bl AD):=by
  have h1:shp (t3 (ad w a t))=true:=zgL 59 _;erw[yC,h1,CL,if_true,zcy,decide_true]
 have hn2:nLs [.lst (a.map .str),.lst (b.map .str),.int w,t3 t]=true:=by simp[nLs,nL,zad,t3]
 have ho:∀s,ycI st (.rt (.bl AD) s)=.ok (.bl AD) st:=λ_=>rfl;rw[zN hT rfl rfl hn2];generalize t3 t=tv at *;simp! [ym,hwd,hml,e1,x0,x1,x2,e2,e3,hq];exact ho _
def lwL:Css:=match yaj.body with
 |.cons _ (.cons _ (.cons _ (.cons _ (.cons _ (.cons _ (.cons _ (.cons _ (.cons _ (.cons _ (.cons _ (.cons _ (.cons (.for _ _ b) _))))))))))))=>b
 |_=>.nil
def lwS:Css:=match yaj.body with
 |.cons _ (.cons _ (.cons _ (.cons _ (.cons _ (.cons _ (.cons _ (.cons _ r)))))))=>r
 |_=>.nil
def lwR:Css:=match yaj.body with
 |.cons _ (.cons _ (.cons _ (.cons _ (.cons _ (.cons _ (.cons _ (.cons _ (.cons _ (.cons _ (.cons _ r))))))))))=>r
 |_=>.nil
abbrev ro(p0 p2 p3:Option PV)(w:Nat)(p6 p7:Option PV)(a b:List AM)(u:PV)(rs:List AM)(p12 p13:Option PV):IC.Env:=
 [p0,AA (.loc 0),p2,p3,AA (.int w),AA (.int ((2^w:Nat):Int)),p6,p7,AA (.lst (a.map .str)),AA (.lst (b.map .str)),AA u,AA (.lst (rs.map .str)),p12,p13]
def zfn{ns:List Int}(hns:ns.length<=1000){w:Nat}(hw:Wid w){a rs:List AM}(ha:∀r∈a,r∈rws)(hr:∀r∈rs,r∈rws)(la:a.length<=8)(lr:rs.length<=8)(h:(sts w).map (ad w a)=(sts w).map (ad w rs)){st:SO}(hd:Drw ns 0 st)(p0 p2 p3 p6 p7:Option PV)(b:List AM)(u:PV)(p12 p13:Option PV):
  ∃st' q13,Drw ns 0 st'/\exs (yd T 24) (ro p0 p2 p3 w p6 p7 a b u rs p12 p13) st lwL=.nx (ro p0 p2 p3 w p6 p7 a b u rs p12 q13) st':=by
 have hW:(0:Int)<((2^w:Nat):Int):=Int.natCast_pos.2 (Nat.two_pow_pos _);have hW2:((2^w:Nat):Int)<10000000000000000000000000000000000000000000000000000000000000000000000:=by rcases hw with e|e|e<;>rw[e]<;>decide
 let⟨x,s3,a0,a1,o3,e4⟩:=zkE 21 hns (m:=((2^w:Nat):Int)) hW hW2 hd;have h3:=o3.drw hd;let⟨y,s4,b0,b1,o4,e5⟩:=zkE 21 hns (m:=((2^w:Nat):Int)) hW hW2 h3;have h4:=o4.drw h3;let⟨z,s5,c0,c1,o5,e6⟩:=zkE 21 hns (m:=2) ∅ ∅ h4;have ht:W3 w (x,y,z):=⟨a0,a1,b0,b1,c0,c1⟩;have e4:yd T 24 22 [.loc 0,.int ((2^w:Nat):Int)] st=.ok (.int x) s3:=e4;have e5:yd T 24 22 [.loc 0,.int ((2^w:Nat):Int)] s3=.ok (.int y) s4:=e5;have e6:yd T 24 22 [.loc 0,.int 2] s4=.ok (.int z) s5:=e6;have e7:yd T 24 29 [.lst (a.map .str),.lst (rs.map .str),.int w,.tp AF [.int x,.int y,.int z]] s5=.ok (.bl AD) s5:=zhv 16 hw ha hr la lr h ht s5;refine⟨s5,AA (.tp AF [.int x,.int y,.int z]),o5.drw h4,?_⟩;simp! [lwL,yaj,ro,e4,e5,e6,e7]
def zbg{ns:List Int}(hns:ns.length<=1000){w:Nat}(hw:Wid w){a rs:List AM}(ha:∀r∈a,r∈rws)(hr:∀r∈rs,r∈rws)(la:a.length<=8)(lr:rs.length<=8)(h:(sts w).map (ad w a)=(sts w).map (ad w rs))(p0 p2 p3 p6 p7:Option PV)(b:List AM)(u:PV):∀(xs:List PV) {st:SO},Drw ns 0 st->∀(p12 p13:Option PV),
  ∃st' q12 q13,yaK (yd T 24) (.n 12) lwL xs (ro p0 p2 p3 w p6 p7 a b u rs p12 p13) st=.nx (ro p0 p2 p3 w p6 p7 a b u rs q12 q13) st'
 |[],st,hd,p12,p13=>⟨st,p12,p13,zI⟩
 |x::xs,st,hd,p12,p13=>by
  let⟨s1,q13,h1,e1⟩:=zfn hns hw ha hr la lr h hd p0 p2 p3 p6 p7 b u (AA x) p13;let⟨s2,r12,r13,e2⟩:=zbg hns hw ha hr la lr h p0 p2 p3 p6 p7 b u xs h1 (AA x) q13;refine⟨s2,r12,r13,?_⟩;rw[zx (ρ1:=ro p0 p2 p3 w p6 p7 a b u rs (AA x) p13) rfl,e1];exact e2
theorem Drw.dcs{ns:List Int}{st:SO}(h:Drw ns 0 st)(w:Nat)(ss:List AM):Drw ns 0 (st++dcs w ss):=by
 have hl:=h.pos;let⟨a,p,f,ha,h⟩:=h;exact⟨a,p,f,ha,by rw[AQ hl];exact h⟩
theorem isT{u:PV}(h:Fnd u):ybu u [.tuple]=AA (.bl AD)/\yah .len [] [u]=AA (.int 2)/\∃a n,u=.tp AF [a,.int n]:=by
 let⟨a,n,rfl,_⟩:=h;exact⟨rfl,rfl,a,n,rfl⟩
def zhl{ns:List Int}(hns:ns.length<=1000){w:Nat}(hw:Wid w){a b:List AM}(ha:∀r∈a,r∈rws)(hb:∀r∈b,r∈rws)(la:a.length<=8)(lb:b.length<=8)(h:(sts w).map (ad w a)=(sts w).map (ad w b)){st:SO}(hd:Drw ns 0 st)(p0 p2 p3 p6 p7:Option PV):
  ∃st',exs (yd T 24) [p0,AA (.loc 0),p2,p3,AA (.int w),AA (.int ((2^w:Nat):Int)),p6,p7,AA (.lst (a.map .str)),AA (.lst (b.map .str)),AB,AB,AB,AB] st lwS=.rt (.bl AD) st':=by
 have src:∀(s:SO) (q:List AM),Src s (.lst (q.map .str)) (q.map .str):=λ_ _=>.inr (.inl rfl);have sh:=λ(q:List AM) (hq:∀r∈q,r∈rws) (lq:q.length<=8) (he:(sts w).map (ad w a)=(sts w).map (ad w q)) (s:SO)=>he ▸ zau 17 hw hq lq (src s q);have f1:∀s,yd T 24 12 [.lst (a.map .str),.int w] s=.ok (yaJ w ((sts w).map (ad w a)) [0,1,2,3] 0) (s++dcs w rws):=λs=>zau 17 hw ha la (src s a);have f2:∀s,yd T 24 12 [.lst (b.map .str),.int w] s=.ok (yaJ w ((sts w).map (ad w a)) [0,1,2,3] 0) (s++dcs w rws):=λs=>by
  rw[h];exact zau 17 hw hb lb (src s b)
 have f3:∀q:List AM,(∀r∈q,r∈rws)->q.length<=3->(sts w).map (ad w q)=(sts w).map (ad w a)->∀s,yd T 24 12 [.lst (q.map .str),.int w] s=.ok (yaJ w ((sts w).map (ad w a)) [0,1,2,3] 0) (s++dcs w rws):=λq hq lq he s=>by
  rw[<-he];exact zau 17 hw hq ∅ (src s q)
 have hf:=zc0 hw (tg:=(sts w).map (ad w a)) [0,1,2,3] 0;have two:=zgU hw ha;generalize yaJ w ((sts w).map (ad w a)) [0,1,2,3] 0=u at *;let⟨heq,hne⟩:=zjr hf;let⟨hit,hln,_⟩:=isT hf;have hln:∀s,yah .len s [u]=AA (.int 2):=λs=>by
  let⟨x,n,rfl,_⟩:=hf;rfl
 have c2:yC .ne (.int 2) (.int 2)=AA (.bl AF):=rfl;have hwh:∀(n:Int) s,yd T 24 23 [.int n] s=.ok (.bl AD) s:=λn s=>by
  rw[zN (show T 23=AA ydx from rfl) rfl rfl rfl];rfl
 have hla:∀s,yah .len s [.lst (a.map .str)]=AA (.int a.length):=λs=>by simp[yah,lenV,yad]
 have hlb:∀s,yah .len s [.lst (b.map .str)]=AA (.int b.length):=λs=>by simp[yah,lenV,yad]
 have hmn:∀s,yah .min s [.int a.length,.int b.length]=AA (.int (if (b.length:Int)<a.length then(b.length:Int)else a.length)):=λs=>rfl;have hr:ybS (.int 6)=AA (yu 6 0 1):=rfl
 have hR:lwR=(match lwR with
  |.cons i (.cons (.for t j _) r)=>.cons i (.cons (.for t j lwL) r)
  |_=>.nil):=rfl
 have start:∀(x:PV) (n:Int),u=.tp AF [x,.int n]->exs (yd T 24) [p0,AA (.loc 0),p2,p3,AA (.int w),AA (.int ((2^w:Nat):Int)),p6,p7,AA (.lst (a.map .str)),AA (.lst (b.map .str)),AB,AB,AB,AB] st lwS =
   exs (yd T 24) (ro p0 p2 p3 w p6 p7 a b u b AB AB) (st++dcs w rws++dcs w rws) lwR:=λx n hu=>by
  have i1:∀s,idxV s u (.int 1)=AA (.int n):=λs=>by rw[hu];rfl
  have hs:lwS=(match lwS with
   |.cons a (.cons b (.cons c _))=>.cons a (.cons b (.cons c lwR))
   |_=>.nil):=rfl
  rw[hs];generalize lwR=bR;simp! [lwS,yaj,ro,f1,f2,hit,hln,c2,i1,hwh,hne]
 rcases two with⟨hu,hmin⟩|⟨fs,c,hu,lf,hfs,he,hmin⟩
 .have i0:∀s,idxV s u (.int 0)=AA .non:=λs=>by rw[hu];rfl
  have i1:∀s,idxV s u (.int 1)=AA (.int 2380):=λs=>by rw[hu];rfl
  have m1:=hmin a ha rfl;have m2:=hmin b hb h.symm;have hc:yC .lt (.int (if (b.length:Int)<a.length then(b.length:Int)else a.length)) (.int 4)=AA (.bl AF):=by
   rw[c_lt,decide_eq_false (by split<;>lia)]
  have hn:yC .ne (.int 2380) (.int 2380)=AA (.bl AF):=rfl;have his:yC .is .non .non=AA (.bl AD):=rfl;let⟨s',q12,q13,e⟩:=zbg hns hw ha hb la lb h p0 p2 p3 p6 p7 b u (yu 6 0 1) ((hd.dcs w rws).dcs w rws) AB AB;refine⟨s',?_⟩;rw[start _ _ hu,hR];erw[ro]at e ⊢;simp! [lwR,yaj,i0,his,i1,hn,hla,hlb,hmn,hc,hr,e]
 .have i0:∀s,idxV s u (.int 0)=AA (.tp AF (fs.map .str)):=λs=>by rw[hu];rfl
  have m1:=hmin a ha rfl;have m2:=hmin b hb h.symm;have his:yC .is (.tp AF (fs.map .str)) .non=AA (.bl AF):=rfl;have hli:∀s,yah .list s [.tp AF (fs.map .str)]=AA (.lst (fs.map .str)):=λ_=>rfl;have hlf:∀s,yah .len s [.lst (fs.map .str)]=AA (.int fs.length):=λs=>by simp[yah,lenV,yad]
  have hc:yC .gt (.int fs.length) (.int (if (b.length:Int)<a.length then(b.length:Int)else a.length))=AA (.bl AF):=by
   rw[c_gt,decide_eq_false (by split<;>lia)]
  have g3:=f3 fs hfs lf he;let⟨s',q12,q13,e⟩:=zbg hns hw ha hfs la ∅ he.symm p0 p2 p3 p6 p7 b u (yu 6 0 1) (((hd.dcs w rws).dcs w rws).dcs w rws) AB AB;refine⟨s',?_⟩;rw[start _ _ hu,hR];erw[ro]at e ⊢;simp! [lwR,yaj,i0,his,hli,hlf,hla,hlb,hmn,hc,g3,hne,hr,e]
def zfx(ns:List Int)(hn:ns.length<=63):yd T 25 ycw [.scr (ns.map .int)] []=.ok (.bl AD) []:=by
 let⟨o,e1,ho⟩:=fresh 23 ns hn [];have h0:Drw ns 0 [o]:=⟨0,0,AF,by lia,by rw[ho];rfl⟩;have hns:ns.length<=1000:=by lia
 have hT:T ycw=AA ⟨1,14,AD,yaj.body⟩:=rfl;have e1:yd T 24 19 [.scr (ns.map .int)] []=.ok (.loc 0) [o]:=e1;let⟨c,s1,c0,c1,o1,e2⟩:=zkE 21 hns (m:=18) ∅ ∅ h0;let⟨c,rfl⟩:=zah c0;have h1:=o1.drw h0;let⟨pa,pb,ix,hp⟩:=zj5 (d:=c) ∅ s1;let⟨g1,g2,la,lb,ra,rb,ka,kb,same⟩:=hp;let⟨d,s2,d0,d1,o2,e3⟩:=zkE 21 hns (m:=6) ∅ ∅ h1;have h2:=o2.drw h1;have hw:∃w:Nat,Wid w/\idxV s2 (.tp AF [.int 1,.int 2,.int 1,.int 2,.int 2,.int 3]) (.int d)=AA (.int w):=by
  rcases (by lia:d=0 \/ d=1 \/ d=2 \/ d=3 \/ d=4 \/ d=5)with rfl|rfl|rfl|rfl|rfl|rfl
  .exact⟨1,.inl rfl,rfl⟩
  .exact⟨2,.inr (.inl rfl),rfl⟩
  .exact⟨1,.inl rfl,rfl⟩
  .exact⟨2,.inr (.inl rfl),rfl⟩
  .exact⟨2,.inr (.inl rfl),rfl⟩
  .exact⟨3,.inr (.inr rfl),rfl⟩
 let⟨w,hw,hx⟩:=hw;have hwd:idxV s2 (.lst [.int 1,.int 2,.int 4]) (.int ((w:Int)-1))=AA (.int ((2^(w-1):Nat):Int)):=by
  rcases hw with rfl|rfl|rfl<;>rfl
 have hml:yw .mul (.int 2) (.int ((2^(w-1):Nat):Int))=AA (.int ((2^w:Nat):Int)):=by
  rcases hw with rfl|rfl|rfl<;>rfl
 let⟨x,s3,lx,hxr,o3,e4⟩:=zaR hns 20 (M:=2) ∅ h2;have h3:=o3.drw h2;let⟨z,s4,lz,hzr,o4,e5⟩:=zaR hns 20 (M:=2) ∅ h3;have h4:=o4.drw h3;have e0:yd T 24 28 [] [o]=.ok (.lst pcV) [o]:=ze3 23 [o];have e2:yd T 24 22 [.loc 0,.int 18] [o]=.ok (.int c) s1:=e2;have e3:yd T 24 22 [.loc 0,.int 6] s1=.ok (.int d) s2:=e3;have e4:yd T 24 27 [.loc 0,.int 2] s2=.ok (.lst (x.map .str)) s3:=e4;have e5:yd T 24 27 [.loc 0,.int 2] s3=.ok (.lst (z.map .str)) s4:=e5;have sa:=zjh la s4;have sb:=zjh lb s4;have ca:=zb4 (yd T 24) s4 (spl pa) g1;have cb:=zb4 (yd T 24) s4 (spl pb) g2;have wa:((spl pa).filter λx=>decide (x≠AX ""))=wordsOf pa:=rfl;have wb:((spl pb).filter λx=>decide (x≠AX ""))=wordsOf pb:=rfl;rw[wa]at ca;rw[wb]at cb;have za:((wordsOf pa).map PV.str).length<=1000000:=by rw[Ah];lia
 have zb:((wordsOf pb).map PV.str).length<=1000000:=by rw[Ah];lia
 have k1:=zfF x (wordsOf pa) ∅;have k2:=zfF (x++wordsOf pa) z (by rw[Ao];lia);have k3:=zfF x (wordsOf pb) ∅;have k4:=zfF (x++wordsOf pb) z (by rw[Ao];lia);have mem:∀q:List AM,(∀r∈q,r∈rws)->∀r∈x++q++z,r∈rws:=λq hq r hr=>by
  rcases Ax.1 hr with hr|hr
  .exact(Ax.1 hr).elim (hxr r) (hq r)
  .exact hzr r hr
 have ok1:∀s:AM,yba .split s4 (.str s)=AA true:=λ_=>rfl;let⟨s5,e6⟩:=zhl hns hw (mem _ ra) (mem _ rb) (by erw[Ao];lia) (by erw[Ao];lia) (zfm (z:=z) hw hxr (same w hw)) h4 (AA (.scr (ns.map .int))) (AA (.str pa)) (AA (.str pb)) (AA (.lst (x.map .str))) (AA (.lst (z.map .str)))
 have hb:yaj.body=(match yaj.body with
  |.cons a (.cons b (.cons c (.cons d (.cons e (.cons f (.cons g (.cons h _)))))))=>.cons a (.cons b (.cons c (.cons d (.cons e (.cons f (.cons g (.cons h lwS)))))))
  |_=>.nil):=rfl
 have b2:∀(u v:PV) (ρ:IC.Env),yo (.t [2,3]) (.tp AF [u,v]) ρ=AA ((ρ.set 2 (AA u)).set 3 (AA v)):=λ_ _ _=>rfl;rw[zN hT rfl rfl (zdh ns)];dsimp only;rw[hb];generalize lwS=bS at *;simp! [yaj,B9,e1,e0,e2,ix,b2,e3,hx,hwd,hml,e4,e5,ok1,sa,sb,ca,cb,zG _ za,zG _ zb,k1,k2,k3,k4,e6,ziY]
theorem walk{l:Dn}{q:AZ}{loose:List AM}{XP:(AM->Option AE)->Ak->Prop}{YP:A8->Ak->Prop}{d:DefRec}{K:Params->AC}(hn:l.most=AA 63)(hdf:d.params.defaults=[])
  (hY:∀(w:A8) (h:Ak),YP w h->(K w.params).In h)
  (F:∀(w:A8) (mg:AM->Option AE) (fa:AG) (h:Ak),(K w.params).In h->h.Ns mainGlobals mg->mg d.name=AA (.ref fa) ->
   ∃fd:Aj,(∀(s:AH) (u:AE),Dr s fd ⟨[u],[]⟩ [("_law_script",u)])/\∀base:Ak,(K w.params).In base->base.Ns mainGlobals mg->yaD l.prog w (K w.params) mg base (CX1 l.prog w) (2*25) fa fd ["_law_script"] (spX (K w.params) (yd T 25) ycw)):
  FZ q loose XP YP l.row.toRowW d [] (λf vs=>F6 f vs):=
 L2.walk_of (n:=63) (k:=2*25) (x:="_law_script") (CX:=λw=>CX1 l.prog w) (sp:=λw=>spX (K w.params) (yd T 25) ycw) hn ⋯ hdf ⟨rfl,by decide,by decide⟩ hY F (λw H a ns hl _ hS=>zdH zfx hl hS) λ_ _ _ _ _ z=>zh9 z
end WK
end
open PySem PySem.W PyProof.Rows
theorem PySem.Challenge.cw_widewords_k66_whole_short_of_alike_rows_holds : PySem.Challenge.rw_widewords_k66_whole_short_of_alike_rows.Holds := by
 refine hh.hd (by rfl) (by rfl) (by rfl) ?_
 k_fill
 refine WK.walk (l:=PySem.Challenge.rw_widewords_k66_whole_short_of_alike_rows) rfl rfl (λw h Y=>Y) ?F
 case F =>
  intro w mg fa h KX G hmg
  refine' L2.all_mk2 (t:=WK.tbQ) KX G hmg ?R ?B ?D WK.kb_all ?Ml WK.ok_all WK.T_ok (L:=30) rfl 25
  case R =>
   repeat' (first|exact trivial|apply And.intro|(refine' L2.rowFn ?a9 ?l9 ?c9 ?p9 ?b9;(case a9|l9|c9|p9=>k_is);(case b9=>((repeat intro _);first|rfl|kernel_rfl)))|(refine' L2.rowMe ?z9 ?a9 ?i9 ?l9 ?c9 ?p9 ?b9;(case z9=>(skip;k_is));(case a9|i9|l9|c9|p9=>k_is);(case b9=>((repeat intro _);first|rfl|kernel_rfl)))|(refine' L2.rowIni ?z9 ?a9 ?i9 ?l9 ?c9 ?p9 ?b9 ?m9 ?k9;(case z9=>(skip;k_is));(case a9|i9|l9|c9|p9=>k_is);(case b9=>((repeat intro _);first|rfl|kernel_rfl));(case m9|k9=>k_is))|(refine' L2.rowFd ?a9 ?l9 ?c9 ?p9 ?d9 ?e9 ?v9;(case a9|l9|c9|p9|d9=>k_is);(case e9=>rfl);(case v9=>(repeat first|exact .nil|refine .cons ⟨_,rfl⟩ ?_))))
  case B=>kernel_rfl
  case D =>
   repeat' (first|exact trivial|apply And.intro|intro _|(refine' L2.gd_mk KX G ?a9 ?l9 ?s9 ?r9 ?n9;(case a9|l9=>k_is);(case s9=>rfl);(case r9=>(repeat first|exact .nil|refine L2.con_row (by kernel_rfl) ?_));(case n9=>decide +kernel)))
  case Ml =>
   repeat' (first|exact trivial|apply And.intro|(refine' L2.gdf_mk KX G ?a9 ?l9 ?r9 ?n9;(case a9|l9=>k_is);(case r9=>(repeat first|exact .nil|refine L2.frow_cons (by kernel_rfl) ?_));(case n9=>decide +kernel)))
