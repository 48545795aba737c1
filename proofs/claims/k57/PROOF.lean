import PyProof.Rows.All
import OpenK.KLine
import Open.Tops
import Wide.FinOn
import KE.KRevSl
import KE.KItem
import KE.KxWritten
import KE.KFromBytes
import KE.LcSums
import KE.KBits
import KE.KTryMore
import KE.KDictOf
import PyProof.AttrMissHeap
import PySem.Challenge.RW_widewords_k57_sentences_at_their_bounds
set_option Elab.async false
set_option linter.all false
set_option maxRecDepth 100000
set_option maxHeartbeats 0
local macro_rules
 | `(#print $s:str)=>do
  let n:=fun (x:Lean.Name)=>Lean.mkIdent (.mkSimple s!"tw{x.hash}")
  let mut a:=#[n `PySem.Challenge.pw_widewords_k57_sentences_at_their_bounds]
  for e in s.getString.splitOn "|" do
   let f:=e.splitOn " "
   let mut p:=0
   for r in f.tail! do
    let g:=(r.splitOn ".").map String.toNat!
    p:=p+g[0]!
    for j in [0:g.getD 1 0+1] do a:=a.push (n (.mkStr2 "sh" (f[0]!++toString (p+j))))
    p:=p+g.getD 1 0
  `(structure $(Lean.mkIdent `PySem.W.Fast):declId:Prop where ($a*:True))
set_option genSizeOf false
set_option genInjectivity false
#print "o_ 3 2 4 3.1 3 2.5 7 2.2 3.2 3 2.2 3.2 2 4 2.2 3.2 5.2 3 2.2 3 2.2 3 2.2 3 2.2 3 2.2 3 2.2 3.2 3 2.2 3 2.2 2 4 2.2 3 2.2 3.2|sts_ 4 49 83|tree_ 51 83 22"
set_option genSizeOf true
set_option genInjectivity true
open_shared sh for PySem.Challenge.pw_widewords_k57_sentences_at_their_bounds leaving 0
namespace hh
open PySem PySem.W PySem.Calls PyProof.Rows
noncomputable abbrev p:=PySem.Challenge.pw_widewords_k57_sentences_at_their_bounds
abbrev z:Pos:=⟨0,0,0,0⟩
abbrev an:Option Value:=some (.ref 6)
noncomputable abbrev bE:=behindTheImports p
noncomputable abbrev cE:Code:=.body bE sh.env_1
noncomputable abbrev H1(P:Params):Heap:=absHeap (sh.tree_156 P) 159 {}
noncomputable abbrev S0(w:World)(os:OsState):Shared:=⟨boot_heap w.params,⟨[]⟩,boot_drawn,boot_toks,os⟩
noncomputable abbrev Sb(w:World)(os:OsState):Shared:=SharedT.abs ⟨sh.tree_4 w.params,15,{},⟨[]⟩,{},187,os⟩
noncomputable abbrev Sk(w:World)(os:OsState):Shared:=SharedT.abs ⟨sh.tree_156 w.params,159,{},⟨[]⟩,{},422,os⟩
theorem pre(w os):topGo treeTable p w 11 an 12 (S0 w os) (topStub p)=some (Sb w os,⟨denote treeTable cE,cE,z,[topFrame z]⟩):=by kernel_rfl
theorem blk(w os):segRun treeTable p w 11 an 1 1 (Sb w os) (blockOf bE sh.env_1 cE z [topFrame z])=some (.next,Sb w os,cE,z):=by kernel_rfl
theorem fin(w os):topRun treeTable p w 11 an 2 (Sk w os) (restOf [] sh.env_1 cE ⟨123,0,146,112⟩ [topFrame z])=some (Sk w os):=by kernel_rfl
theorem bod:bE=sh.sts_4++(sh.sts_53++(sh.sts_136++[])):=by kernel_rfl
theorem run(w os):topRun treeTable p w 11 an (12+(1+(379+(388+(100+2))))) (S0 w os) (topStub p)=some (Sk w os):=by
 refine go_top (pre w os) (piece_block (blk w os) ?_)
 have h:=sh.chain p bE w os [] 2 (Sk w os) (fin w os)
 rw[<-bod] at h
 exact h
noncomputable def q:Program:=view p [23]
noncomputable abbrev lo:List Str:=p.boundNames
theorem look(w:World):(fun os=>((staticsOk (importedModules p.main.body) (boot_heap w.params) (H1 w.params) && namesBound p (H1 w.params) && gensDone (Sk w os) && laidKept (boot_heap w.params) (H1 w.params)),openSeen q lo (importedModules p.main.body) (fun _=>true) true (Sk w os),(Sk w os).heap))=fun _=>(true,openGood q lo,H1 w.params):=by kernel_rfl
theorem left:LeftO p q lo (fun _=>true) Shared.heap (fun w=>H1 w.params) 1854:=.of_pieces (boot_open (by kernel_rfl) (by kernel_rfl) fun s=>by kernel_rfl) (fun w=>by kernel_rfl) run (by kernel_rfl) look
theorem inA{t:BT}{n:Nat}{f:Life}{K:Frag}(h1:K.all (fun x=>Nat.blt x.1 n)=true)(h2:K.map (fun x=>t.get x.1)=K.map fun x=>some x.2)(h3:K.map (fun x=>alive x.2)=K.map fun x=>some x.2):K.In (absHeap t n f):=by
 intro a o e
 induction K with
 | nil=>cases e
 | cons x r ih=>
  obtain ⟨b,y⟩:=x
  simp only[List.map_cons,List.cons.injEq,List.all_cons,Bool.and_eq_true] at h1 h2 h3
  by_cases hb:(a==b)=true
  · rw[List.lookup_cons,hb] at e
    cases e
    have:=beq_iff_eq.mp hb
    subst this
    rw[abs_get (Nat.le_of_ble_eq_true h1.1) h2.1]
    exact h3.1
  · rw[List.lookup_cons,eq_false_of_ne_true hb] at e
    exact ih h1.2 h2.2 h3.2 e
local macro_rules
 | `(panic! $s:str)=>do
  let mut v:=#[]
  let mut p:=0
  let mut q:=0
  for r in s.getString.splitOn " " do
   if let g::l::m:=(r.splitOn ",").map String.toNat! then
    let i:=m.headD (q+g)
    p:=p+g
    for j in [0:l] do v:=v.push (p+j,if i==0 then .str `PySem.W s!"boot_o_{p+j}" else .str `sh s!"o_{i+j}")
    p:=p+l
    q:=i+l
  let mut a ← `(List.nil)
  for (x,o) in v.reverse do a ← `(List.cons (nat_lit $(Lean.Syntax.mkNumLit (toString x)),$(Lean.mkIdent o) P) $a)
  `(fun P=>$a)
noncomputable def KK:Params->Frag:=panic! "2,1,0 0,1,136 18,1,14 1,2 1,7 2,1 1,2 1,3 2,3 1,2 1,3 2,2 0,1,55 1,2 1,3 2,3 1,2 1,3 1,2 1,3 1,2 1,3 1,2 1,3 1,2 1,3 1,2 1,3 1,2 1,3 2,3 1,2 1,3 1,2 1,2 0,1,138 1,2 1,3 1,2 1,3 2,2"
theorem inK(w:World):InK KK w (H1 w.params):=inA (K:=KK w.params) (by kernel_rfl) (by kernel_rfl) (by kernel_rfl)
theorem hd{d:DefRec}{k:List (Str×Expr)}(a:defOf q "law"=some (d,k))(b:p.theDef "law"=some (d.params,d.body,d.scope))(c:kwWritten? d.params.kwonlyargs d.params.kw_defaults=some k)(h:WalkO q lo (fun _ _=>True) (InK KK) PySem.Challenge.rw_widewords_k57_sentences_at_their_bounds.row.toRowW d k fun f vs=>PySem.call f vs):PySem.Challenge.rw_widewords_k57_sentences_at_their_bounds.Holds:=by
 w_on;o_law
 refine holds_open left (YP:=InK KK) (XP:=fun _ _=>True) (fun w s e=>e ▸ inK w) InK.keeps (fun _ _=>trivial) (fun _ _ _ _ _=>trivial) a b c (fun s _=>recFacts_nil rfl) (by rfl) (by assumption) (by decide +kernel) ⟨rfl,rfl,rfl,rfl,rfl,by decide +kernel⟩ ?hw h
 w_witness2
end hh
local macro_rules|`(⋯)=>`((by decide))
local macro_rules|`(∅)=>`((by lia))
set_option compiler.extract_closed false
set_option bootstrap.genMatcherCode false
set_option genSizeOf false
open Option renaming some->AA,none->AC,isSome_iff_exists->A6,bind_some->Am,map_some->Ar,getD_some->Ax,any_eq_true_iff_get->CF,getD_none->D6,get_some->Dt
open PySem.W renaming Frag->AB,findIn->A7,keepIn->Ae,nsIn->As,kitOne->Ay,fnOf->BD,emptyDict->BH,instObj->BX,codeIn->B5,kia_one->Bw,hideAll->CM,hasDictIn->CS,isFn->CT,cellsFrom_some->CV,plainGet->C6,makesIn->Cj,methodObj->DP,plainOver->DQ,mg_of->D0,OpenLaw->Da,takerIn->Dq,lookIn->EF,hideAll_get->ER,excIn->E3,of_hideAll->E8,callWith_K->Ea,codeRec_of->Eb,handedIn->FB,WalkO->FR,exmOne->F5,subIn->F8,mroIn->F9,clsIn->Fa,Rel2->Fq
open Bool renaming true->AD,false->AF,and_eq_true->AG,false_ne_true->Ah,true_and->BJ,not_eq_true'->Bl,false_and->Bq,or_eq_true->Bv,and_self->Ch,eq_iff_iff->Ds,or_false->EZ,and_true->E4,false_eq_true->Ee,false_or->Fb,not_true->Ff,true_or->Fp
open PySem renaming Value->AE,Addr->AH,Shared->AI,wpAny_bind->AJ,Str->AM,Expr->AO,wpAny_pure->AT,wpAny->AZ,Program->A1,World->A8,Around->A9,FuncData->Al,Heap->Aq,Env->Az,wpAny_truthy_bool->BA,Scope->BB,wpAny_newObj_type->BO,wpAny_Call_Name_kw->BP,Keyword->BR,Stmt->BS,Obj->B1,wpAny_pyIter_tuple->B7,Pos->Ba,wpAny_passesOwn->Bd,DictEntry->Be,mem_of_lookup->Bp,wpAny_callSpecial?_slot->Br,sizeLine_eq->Bs,wpAny_field->Bt,wpAny_holding->By,wpAny_mono->CB,Operator->CQ,NameKind->CU,wpAny_call_entry->C9,wpAny_standAt->Cf,codeAny_mono->Cp,wpAny_typeOf->Cq,wpAny_newFunctionEnv_cells->DC,call_meets->DF,wpAny_pyIter_list->DV,wpAny_comprehension_free->DY,PassesOwn->D2,wpAny_pyNext_tuple_item->D3,noFill_tuple_add->D5,wpAny_pyNext_tuple_end->Dc,BindsTo->De,IsPart->Dg,wpAny_execs_nil->Dp,codeAny_call_function->Dw,wpAny_loadName_local->ED,wpAny_seqItems->EI,wpAny_setField->EJ,wpAny_loadName_cell->ES,CmpOp->EX,seq_tuple_add->EY,wpAny_rule->E9,strKind_is->Ef,Within->Eh,wpAny_assign_Name->Ej,concat_meets->Ep,wpAny_sequenceKey->Es,slot_list_getitem->Et,wpAny_pyIter_enum->Ew,HeapKind->Ey,Result->FD,seqIndex_of->FK,codeAny_builtin->FP,Paired->FU,wpAny_Name->FW,wpAny_call->FX,typeIs_str->FY,call->FZ,BoolOp->Fu,Sem->GJ,Tok->GT
open PySem.Str renaming ofString->AK,empty->FE
open List renaming map_cons->AL,size_toArray->AR,mem_cons_of_mem->AS,mem_of_getElem?->AV,getElem?_cons_succ->AX,getElem?_cons_zero->AY,length_cons->A2,length_map->A4,getElem?_append_left->A5,getElem?_append_right->Aa,mem_cons->Ab,mem_append_right->Ad,mem_cons_self->Ag,all_cons->Ai,getElem?_set_ne->Aj,replicate->Ak,length_append->An,getElem?_eq_some_iff->Ap,set_cons_zero->Au,set_cons_succ->Av,length_set->Aw,map_nil->BE,lookup_cons->BK,all_eq_true->BL,any_cons->BM,getElem?_set_self->BN,getElem?_map->BU,mem_append->BY,find?_cons->BZ,cons_append->B4,foldl_cons->Bf,length_nil->Bg,nil_append->Bi,map_append->Bj,lookup->Bk,filterMap_cons->Bo,getElem?_eq_none->CA,length->CC,range->CN,reverse_cons->C0,filterMap->C1,length_singleton->C4,length_take->C7,length_drop->C8,any_eq_true->Ca,countP_cons->Cb,append_nil->Ck,nodup_cons->Cm,of_mem_zip->Cn,mem_filterMap->Cz,zip_cons_cons->DH,drop_eq_getElem_cons->DM,pairwise_iff_getElem->DN,getElem?_set->DX,getElem?_eq_getElem->DZ,getElem?_replicate->D4,not_mem_nil->D9,take_of_length_le->Dl,range_succ_eq_map->Dn,set_set->Do,all_append->Dv,contains_iff_mem->EB,mem_append_left->EC,getElem_toArray->EN,length_pos_iff->EV,mem_singleton->Eg,isEmpty_cons->Ex,isEmpty_nil->FH,take_length->FI,drop_length->FJ,mem_filter->FL,mem_range->FV,all_nil->Fv,any_map->Fw,map_map->GB
open PySem.Heap renaming get?_push_of_some->AN,lt_size->AQ,get?_push_size->A3,SameBut->CG,get?_update_other->CY,size_push->DA,get?_update_self->Dx,MadeExcOf->F3,FlyingW->Fm
open Nat renaming le_refl->AU,lt_of_lt_of_le->A0,ne_of_lt->Ac,le_trans->BC,lt_irrefl->Bm,reduceSub->Ci,zero_le->DR,le_succ->DS,ne_of_gt->Db,le_of_lt->Ei,le_of_eq->El,lt_succ_self->FF,zero_add->Fy,lt_or_ge->Fz
open Option.some renaming inj->AW,injEq->C3
open PySem.Value renaming ref->Af,none->BW,bool->Cu,int->D1,type->E7,str->FA,isStrOf->F7,isInt->GE,bytes->GF,float->GG
open PyProof.Rows renaming slot_tuple_getitem->Ao,callWith_type1->B3,AllBare->Cd,assignInOrder_cons->Cy,IntsAre->Dh,subscriptTail_builtinR->Di,tupleItemsOf_->EQ,entry_tuple_getitem->ET,args_tuple_getitem->Ec,assignInOrder_nil->Ek,callWith_builtin1->FG,boot_isinstance->FO,iadd_int->FQ
open False renaming elim->BF
open PySem.PyData renaming eqv->BG,canLay0->CD,depth->C2,eqvAll->Cg,keyHash->DI,canLayAll0->DW,depthAll->Dr
open PySem.Value.type renaming inj->BI
open PySem.Challenge renaming rw_widewords_k57_sentences_at_their_bounds->BQ,pw_widewords_k57_sentences_at_their_bounds->Cc
open PySem.F renaming plainAttrs_list->BV,slot_tuple_iterator_next->B6,slot_tuple_getattribute->CK,args_tuple_add_2->CL,entry_tuple_add->CP,slot_tuple_add->CW,slot_dict_get->C5,args_tuple_iterator_next_1->Co,entry_tuple_iterator_next->Cr,args_dict_get_3->D7,entry_dict_get->Dm,slot_list_append->Dy,slot_list_insert->Dz,slot_list_clear->EH,slot_list_count->EL,slot_list_index->EM
open Array renaming length_toList->B0,append_assoc->Cv,getElem?_eq_some_iff->DG,getElem?_toList->EA,toList->Fk
open PySem.Heap.FunFrames renaming mem->B8
open Ne renaming symm->B9
open PySem.Builtin.Slice renaming slicePlaces->Bb,sliceAdjust->CJ,sliceApplied->DD,slicePartIndex->FM,sliceFields->F6
open PySem.Builtin.SmallTypes renaming nextOf->Bc
open PySem.Builtin.Tuple renaming tupleExact->Bn,tupleItemsOf->DE
open True renaming intro->Bu
open PySem.NameKind renaming free->Bz,cell->E1
open PySem.Builtin.Str renaming occurrences->CO,strSliceIndices->Ct
open PySem.Calls renaming callWith_builtin->CZ,Name_function_global->Cw,spliced_cons->DB,evalArgs_plain->EG,spliced_nil->Eo
open PySem.ScopeKind renaming function->DJ
open Int renaming emod_lt_of_pos->DL,toNat_natCast->DU,emod_nonneg->Du,zero_mul->Ez,add_assoc->Fc,mul_zero->GA,mul_one->GH
open Sum renaming inr->DO,inl->EO
open PySem.Builtin.Dict renaming updateFrom->D8,addKeywords->Fd,selfAndRest->Fe,pairItems->Fx
open PySem.Obj renaming mapSeq->Dj,data_mapFields->Ed
open PySem.Around renaming under_plainId->EK,under->Em
open PySem.Heap.SameBut renaming update->EU,refl->GS
open PySem.Paired renaming length->EW
open PyProof.Rows.LSm renaming kept_iter->E2
open PySem.SeqAt.EqAt renaming int_str->E5,str_int->E6
open PySem.Code renaming isFrame->En,frames->GI
open PySem.WalksT renaming enumerateD->Eu
open ForInStep renaming yield->FN
open Eq renaming refl->FT
open PySem.Builtin.List renaming listFitsIndex->F4
open PySem.Flow renaming next->Fg
open PySem.Builtin.Range renaming rangeSize->Fh
open PySem.Heap.UpToSlots renaming of_keeps->Fi
open And renaming intro->Fj
open PySem.SeqAt renaming shaped->Ft,EqAt->GN
open PySem.W.Looks renaming here->GL
open PySem.Heap.IsSliceOf renaming new->GM
open PySem.W.WShape renaming has->GO
open PySem.Walks renaming list->GP
open PySem.Within renaming cons->GQ
open List.Pairwise renaming nil->GR
open PySem.W.WData renaming int->GU
open PySem.Heap.DictOfH renaming new->GV
noncomputable section
open Lean in
def cnvP:Nat->Syntax->MacroM (TSyntax `rcasesPat)
 |0,_=>Macro.throwUnsupported
 |n+1,s=>do
  if s.isOfKind ``Lean.Parser.Term.anonymousCtor then `(rcasesPat| ⟨$[$(← s[1].getSepArgs.mapM (cnvP n)):rcasesPat],*⟩)
  else if s.isIdent then `(rcasesPat| $(⟨s⟩):ident)
  else if s.isOfKind ``Lean.Parser.Term.hole then `(rcasesPat| _)
  else Macro.throwUnsupported
local macro_rules | `(tactic| let $p:term := $e)=>do `(tactic| obtain $(← cnvP 9 p):rcasesPat := $e)
local macro_rules | `(tactic| erw [$rs,*] $(l)?)=>do
 let t<-rs.getElems.mapM λ|`(Lean.Parser.Tactic.rwRule| $t:term)=>`(Lean.Parser.Tactic.simpLemma| $t:term)|_=>Lean.Macro.throwUnsupported
 `(tactic| simp only[$t,*] $(l)?)
local macro_rules | `(fun $bs* => $b)=>do
 if !(bs.any λx=>x.raw.isOfKind ``Lean.Parser.Term.anonymousCtor)||(b.raw.find? λx=>x.isOfKind ``Lean.Parser.Term.syntheticHole).isSome then Lean.Macro.throwUnsupported
 `(by rintro $[$(← bs.mapM λx=>cnvP 9 x.raw):rcasesPat]*;exact $b)
set_option backward.eqns.nonrecursive false
local macro_rules (kind:=Lean.Parser.Command.declaration)
 |s=>do
  let k:=s[1].getKind
  unless (k==``Lean.Parser.Command.definition||k==``Lean.Parser.Command.abbrev)&&s[0].getArgs.all (·.isNone) do Lean.Macro.throwUnsupported
  if k==``Lean.Parser.Command.definition&&(toString s[1][1][0].getId).startsWith "z" then
   let m←`(theorem x:True:=trivial)
   return s.setArg 1 (((m.raw[1].setArg 1 s[1][1]).setArg 2 (Lean.mkNode ``Lean.Parser.Command.declSig #[s[1][2][0],s[1][2][1][0]])).setArg 3 s[1][3])
  let m←`(noncomputable def x:=0)
  return s.setArg 0 m.raw[0]
namespace L2
open PySem PySem.Spec PyProof.Rows
abbrev Key:=Sum Int AM
def ya3:Key->AE->Bool
 |.inl k,v=>GE k v
 |.inr x,v=>F7 x v
def yeK(w:A8):Key->Int
 |.inl k=>hashInt k
 |.inr x=>hashStr w x
def zf:∀{k:Key} {v:AE},ya3 k v=AD->(∃i t,k=EO i/\v=D1 i t) \/ (∃x t,k=DO x/\v=FA x t)
 |.inl i,v,h=>by
  let⟨t,e⟩:=Value.isInt_shape (k:=i) (v:=v) h;exact .inl ⟨i,t,rfl,e⟩
 |.inr x,v,h=>by
  let⟨t,e⟩:=Value.isStrOf_shape (x:=x) (v:=v) h;exact .inr ⟨x,t,rfl,e⟩
def zcP(i:Int)(t:GT):ya3 (.inl i) (.int i t)=true:=by simp[ya3,GE]
def zc3(x:AM)(t:GT):ya3 (.inr x) (.str x t)=true:=by simp[ya3,F7]
def zhj(a b:Int):decide ((EO a:Key)=EO b)=(a==b):=by
 by_cases e:a=b
 .subst e;simp
 .have h:¬(EO a:Key)=EO b:=λq=>e (Sum.inl.inj q);rw[decide_eq_false h];exact(beq_eq_false_iff_ne.mpr e).symm
def zhI(a b:AM):decide ((DO a:Key)=DO b)=decide (a=b):=by
 by_cases e:a=b
 .subst e;simp
 .have h:¬(DO a:Key)=DO b:=λq=>e (Sum.inr.inj q);rw[decide_eq_false h,decide_eq_false e]
def ziG(a:Int)(b:AM):decide ((EO a:Key)=DO b)=false:=decide_eq_false (λq=>nomatch q)
def zgY(a:AM)(b:Int):decide ((DO a:Key)=EO b)=false:=decide_eq_false (λq=>nomatch q)
def yC(prog:A1)(w:A8):PySem.KeyKind prog w Key where
 is:=ya3
 hash:=yeK w
 inj:=λv a b ha hb=>by
  rcases zf ha with⟨i,t,rfl,rfl⟩|⟨x,t,rfl,rfl⟩
  .rcases zf hb with⟨j,u,rfl,e⟩|⟨y,u,rfl,e⟩
   .injection e with e1 _;rw[e1]
   .exact nomatch e
  .rcases zf hb with⟨j,u,rfl,e⟩|⟨y,u,rfl,e⟩
   .exact nomatch e
   .injection e with e1 _;rw[e1]
 byValue:=λk v h=>by
  rcases zf h with⟨i,t,rfl,rfl⟩|⟨x,t,rfl,rfl⟩<;>rfl
 pyHash:=λhv h=>by
  rcases zf hv with⟨i,t,rfl,rfl⟩|⟨x,t,rfl,rfl⟩
  .exact wpAny_pyHash_int h
  .exact wpAny_pyHash_str h
 eqBool:=λhu hv h=>by
  rcases zf hu with⟨i,t,rfl,rfl⟩|⟨x,t,rfl,rfl⟩
  .rcases zf hv with⟨j,u,rfl,rfl⟩|⟨y,u,rfl,rfl⟩
   .rw[zhj]at h;exact wpAny_eqBool_int h
   .rw[ziG]at h;exact E5 i t y u _ _ _ _ h
  .rcases zf hv with⟨j,u,rfl,rfl⟩|⟨y,u,rfl,rfl⟩
   .rw[zgY]at h;exact E6 x t j u _ _ _ _ h
   .rw[zhI]at h;exact wpAny_eqBool_str h
 «strs»:=λk x t v h=>by
  rcases zf h with⟨i,u,rfl,e⟩|⟨y,u,rfl,e⟩
  .exact nomatch e
  .injection e with e1 _;subst e1
   cases v<;>rfl
def zbQ(prog:A1)(w:A8)(i:Int)(t:GT):(yC prog w).is (.inl i) (.int i t)=true:=zcP i t
def zbF(prog:A1)(w:A8)(x:AM)(t:GT):(yC prog w).is (.inr x) (.str x t)=true:=zc3 x t
inductive V where
 |non|bl (b:Bool)|int (i:Int)|str (x:AM)|byt (b:Array UInt8)|flt (b:UInt64)|ref (a:AH)|ty (n:String)
 deriving DecidableEq
def RelV:V->AE->Prop
 |.non,u=>u=BW
 |.bl b,u=>u=Cu b
 |.int i,u=>∃t,u=D1 i t
 |.str x,u=>∃t,u=FA x t
 |.byt b,u=>∃t,u=GF b t
 |.flt b,u=>∃t,u=GG b t
 |.ref a,u=>u=Af a
 |.ty n,u=>u=E7 n
abbrev Vals:List V->List AE->Prop:=FU RelV
theorem Vals.length{xs:List V}{us:List AE}(r:Vals xs us):xs.length=us.length:=EW r
theorem Vals.get:∀{xs:List V} {us:List AE} {i:Nat} {x:V},Vals xs us->xs[i]?=AA x->∃u,us[i]?=AA u/\RelV x u
 |_,_,_,_,.nil,e=>by simp at e
 |_,_,0,_,.cons r _,e=>by simp at e;subst e;exact⟨_,rfl,r⟩
 |_,_,i+1,x,.cons _ t,e=>by
  let⟨u,h1,h2⟩:=Vals.get (i:=i) (x:=x) t (by simpa using e);exact⟨u,by simpa using h1,h2⟩
theorem Vals.set{x:V}{u:AE}(r:RelV x u):∀{xs:List V} {us:List AE} (i:Nat),Vals xs us->Vals (xs.set i x) (us.set i u)
 |_,_,_,.nil=>.nil
 |_,_,0,.cons _ t=>.cons r t
 |_,_,i+1,.cons q t=>.cons q (Vals.set r i t)
theorem Vals.append:∀{xs ys:List V} {us ws:List AE},Vals xs us->Vals ys ws->Vals (xs++ys) (us++ws)
 |_,_,_,_,.nil,s=>s
 |_,_,_,_,.cons r t,s=>.cons r (Vals.append t s)
theorem Vals.take:∀{xs:List V} {us:List AE} (n:Nat),Vals xs us->Vals (xs.take n) (us.take n)
 |_,_,0,_=>.nil
 |_,_,_+1,.nil=>.nil
 |_,_,n+1,.cons r t=>.cons r (Vals.take n t)
theorem Vals.drop:∀{xs:List V} {us:List AE} (n:Nat),Vals xs us->Vals (xs.drop n) (us.drop n)
 |_,_,0,r=>r
 |_,_,_+1,.nil=>.nil
 |_,_,n+1,.cons _ t=>Vals.drop n t
def ya5:Option V->Option AE->Prop
 |some v,AA u=>RelV v u
 |none,AC=>True
 |_,_=>False
def KV{κ:Type}:List (κ×V)->List (κ×AE)->Prop:=FU λ(p:κ×V) (q:κ×AE)=>p.1=q.1/\RelV p.2 q.2
def kV:Key->V
 |.inl i=>.int i
 |.inr x=>.str x
inductive HO where
 |lst (xs:List V)
 |tup (xs:List V)
 |dK (kvs:List (Key×V))|dT (kvs:List (List Key×V))
 |set (S:Int->Bool) (n:Nat)
 |ins (C dx:AH) (fs:List (AM×V))
 |own (x:AH)
 |xd (fs:List (AM×V))
 |met (f x:AH)
 |rng (lo hi:Int)
 |frz (o:B1) (u:HO)
 |tbl (ps:Array AE)
 |ext (φ:Aq->Prop)
abbrev Hp:=AH->Option HO
def upd(H:Hp)(a:AH)(o:HO):Hp:=λb=>if b=a then AA o else H b
def zc{H:Hp}{a:AH}{o:HO}:upd H a o a=AA o:=by unfold upd;rw[if_pos rfl]
def za{H:Hp}{a b:AH}{o:HO}(h:b≠a):upd H a o b=H b:=by unfold upd;rw[if_neg h]
def zb{H:Hp}{a b:AH}{o:HO}(h:H a=AA o)(h':H b=AC):a≠b:=by
 intro e;subst e;rw[h]at h';cases h'
section
variable (P:A1)(w:A8)
def yI(H:Hp)(h:Aq)(a:AH):HO->Prop
 |.lst xs=>xs.length<=sizeLine/\∃(its:List AE) (n:Nat),Vals xs its/\h.get? a=AA {cls:=.type "list",data:=.seq its.toArray n}
 |.tup xs=>xs.length<=sizeLine/\∃its:List AE,Vals xs its/\h.get? a=AA {cls:=.type "tuple",data:=.seq its.toArray}
 |.dK kvs=>kvs.length<=sizeLine/\(a==sysModules)=AF/\∃vs,KV kvs vs/\h.DictOf (yC P w) a vs
 |.dT kvs=>kvs.length<=sizeLine/\(a==sysModules)=AF/\∃xs:List (List Key×AH×AE),
   FU (λ(p:List Key×V) (q:List Key×AH×AE)=>p.1=q.1/\H q.2.1=AA (.tup (p.1.map kV))/\RelV p.2 q.2.2) kvs xs /\
   ∃o es ep,h.get? a=AA o/\o.ExactDict/\o.data=.dict es ep/\es.toList=xs.map (entryOfKey (tupleKind (yC P w)))/\(xs.map (·.1)).Nodup
 |.set S n=>h.SetOf (intKind P w) a S n
 |.ins C dx fs=>H dx=AA (.own a)/\fs.length<=1000/\dx≠a/\h.get? a=AA (BX C dx) /\
   ∃mA,h.Ns1 dx mA/\(∀f,ya5 (fs.lookup f) (mA f))/\Eh mA (fs.map (·.1))
 |.own _=>∃o,h.get? a=AA o
 |.xd fs=>∃mA,h.Ns1 a mA/\∀f,ya5 (fs.lookup f) (mA f)
 |.rng lo hi=>∃t u v,h.get? a=AA {cls:=.type "range",data:=.fields #[.int lo t,.int hi u,.int 1 v]}
 |.frz o u=>h.get? a=AA o/\yI H h a u
 |.tbl ps=>h.get? a=AA {cls:=.none,data:=.fields ps}
 |.met f x=>h.get? a=AA (DP (.ref f) (.ref x))
 |.ext φ=>φ h/\(∃o,h.get? a=AA o)/\∀h1 h2:Aq,φ h1->(∀o,h1.get? a=AA o->h2.get? a=AA o)->φ h2
def HOk(H:Hp)(h:Aq):Prop:=∀a o,H a=AA o->yI P w H h a o
end
section
variable {P:A1}{w:A8}{H H':Hp}{h h':Aq}{a:AH}{o:HO}
theorem yI.lt(x:yI P w H h a o):a<h.objs.size:=by
 cases o with
 |lst xs=>let⟨_,_,_,_,e⟩:=x;exact AQ e
 |tup xs=>let⟨_,_,_,p⟩:=x;exact AQ p
 |dK kvs=>let⟨_,_,_,_,o,_,_,e,_⟩:=x;exact AQ e
 |dT kvs=>let⟨_,_,_,_,o,_,_,e,_⟩:=x;exact AQ e
 |set S n=>let⟨o,_,_,_,e,_⟩:=x;exact AQ e
 |ins C dx fs=>let⟨_,_,_,e,_⟩:=x;exact AQ e
 |own y=>let⟨_,e⟩:=x;exact AQ e
 |xd fs=>let⟨_,⟨_,_,_,e,_⟩,_⟩:=x;exact AQ e
 |rng lo hi=>let⟨_,_,_,e⟩:=x;exact AQ e
 |frz ob u=>let⟨e,_⟩:=x;exact AQ e
 |tbl ps=>exact AQ (show h.get? a=AA _ from x)
 |met f y=>exact AQ (show h.get? a=AA _ from x)
 |ext φ=>let⟨_,⟨_,e⟩,_⟩:=x;exact AQ e
theorem Paired.mapP{α β:Type}{F G:α->β->Prop}:∀{l₁:List α} {l₂:List β},FU F l₁ l₂->(∀a b,F a b->G a b)->FU G l₁ l₂
 |_,_,.nil,_=>.nil
 |_,_,.cons r t,f=>.cons (f _ _ r) (Paired.mapP t f)
theorem yI.stay(x:yI P w H h a o)(k:∀b u,(b=a \/ H b=AA (.own a))->h.get? b=AA u->h'.get? b=AA u)
  (ho:∀b,H b=AA (.own a)->H' b=AA (.own a)) (ht:∀b xs,H b=AA (.tup xs)->H' b=AA (.tup xs)):yI P w H' h' a o:=by
 induction o with
 |lst xs=>let⟨z,its,n,r,e⟩:=x;exact⟨z,its,n,r,k _ _ (.inl rfl) e⟩
 |tup xs=>let⟨z,its,r,e⟩:=x;exact⟨z,its,r,k _ _ (.inl rfl) e⟩
 |dK kvs=>let⟨z,y,vs,r,ob,es,ep,e,c⟩:=x;exact⟨z,y,vs,r,ob,es,ep,k _ _ (.inl rfl) e,c⟩
 |dT kvs=>
  let⟨z,y,xs,r,ob,es,ep,e,c⟩:=x;exact⟨z,y,xs,Paired.mapP r λp q z=>⟨z.1,ht _ _ z.2.1,z.2.2⟩,ob,es,ep,k _ _ (.inl rfl) e,c⟩
 |set S n=>let⟨ob,es,ep,t,e,c⟩:=x;exact⟨ob,es,ep,t,k _ _ (.inl rfl) e,c⟩
 |ins C dx fs=>
  let⟨d,z,ne,e,mA,⟨od,es,ep,e2,c⟩,r⟩:=x;exact⟨ho _ d,z,ne,k _ _ (.inl rfl) e,mA,⟨od,es,ep,k _ _ (.inr d) e2,c⟩,r⟩
 |own y=>let⟨ob,e⟩:=x;exact⟨ob,k _ _ (.inl rfl) e⟩
 |xd fs=>let⟨mA,⟨od,es,ep,e,c⟩,r⟩:=x;exact⟨mA,⟨od,es,ep,k _ _ (.inl rfl) e,c⟩,r⟩
 |rng lo hi=>let⟨t,u,v,e⟩:=x;exact⟨t,u,v,k _ _ (.inl rfl) e⟩
 |frz ob u ih=>let⟨e,q⟩:=x;exact⟨k _ _ (.inl rfl) e,ih q⟩
 |tbl ps=>
  have e:h.get? a=AA {cls:=.none,data:=.fields ps}:=x;show h'.get? a=AA {cls:=.none,data:=.fields ps};exact k a _ (.inl rfl) e
 |met f y=>
  have e:h.get? a=AA (DP (.ref f) (.ref y)):=x;show h'.get? a=AA (DP (.ref f) (.ref y));exact k a _ (.inl rfl) e
 |ext φ=>let⟨p,⟨o,e⟩,st⟩:=x;exact⟨st _ _ p λo q=>k _ _ (.inl rfl) q,⟨o,k _ _ (.inl rfl) e⟩,st⟩
theorem HOk.lt(x:HOk P w H h)(e:H a=AA o):a<h.objs.size:=(x a o e).lt
theorem HOk.fresh(x:HOk P w H h)(e:h.objs.size<=a):H a=none:=by
 cases q:H a with
 |none=>rfl
 |some u=>exact absurd (A0 (x.lt q) e) (Bm _)
theorem HOk.kept(x:HOk P w H h)(k:∀b u,h.get? b=AA u->h'.get? b=AA u):HOk P w H h':=λa o e=>
 (x a o e).stay (λb u _ q=>k b u q) (λ_ q=>q) λ_ _ q=>q
theorem HOk.laid(x:HOk P w H h)(k:∀b u,h.get? b=AA u->h'.get? b=AA u)(hp:h.objs.size<=a)(new:yI P w (upd H a o) h' a o):HOk P w (upd H a o) h':=λb u e=>by
 have hn:=x.fresh hp
 by_cases hb:b=a
 .subst hb;rw[zc]at e;cases e;exact new
 .rw[za hb]at e;exact(x b u e).stay (λc v _ q=>k c v q) (λc q=>by rw[za (zb q hn)];exact q) λc xs q=>by rw[za (zb q hn)];exact q
end
def Rd(H:Hp)(a:AH)(u:HO):Prop:=H a=AA u \/ ∃o,H a=AA (.frz o u)
theorem Rd.of{H:Hp}{a:AH}{u:HO}(h:H a=AA u):Rd H a u:=.inl h
theorem Rd.ok{P:A1}{w:A8}{H:Hp}{h:Aq}{a:AH}{u:HO}(r:Rd H a u)(x:HOk P w H h):yI P w H h a u:=by
 rcases r with r|⟨o,r⟩
 .exact x a u r
 .let⟨_,q⟩:=x a _ r;exact q
def Mut:Option HO->Prop
 |some (.lst _)=>True
 |some (.dK _)=>True
 |some (.dT _)=>True
 |some (.set _ _)=>True
 |some (.ins _ _ _)=>True
 |some (.ext _)=>True
 |_=>False
section
variable {P:A1}{w:A8}{H:Hp}{h h':Aq}{x e:AH}{o':HO}
theorem HOk.write(ok:HOk P w H h)(mu:Mut (H x))(he:e=x \/ H e=AA (.own x))(k:∀b u,b≠e->h.get? b=AA u->h'.get? b=AA u)(heo:∃u,h'.get? e=AA u)
  (new:yI P w (upd H x o') h' x o'):HOk P w (upd H x o') h':=λb u q=>by
 have nown:∀c y,H c=AA (.own y)->c≠x:=λc y r z=>by subst z;rw[r]at mu;exact mu
 have ntup:∀c xs,H c=AA (.tup xs)->c≠x:=λc xs r z=>by subst z;rw[r]at mu;exact mu
 by_cases hb:b=x
 .subst hb;rw[zc]at q;cases q;exact new
 .rw[za hb]at q
  by_cases hbe:b=e
  .have q':H b=AA (.own x):=by
    rcases he with z|z
    .exact absurd (hbe.trans z) hb
    .rw[hbe];exact z
   rw[q]at q';cases q';let⟨v,hv⟩:=heo;exact⟨v,by rw[hbe];exact hv⟩
  .refine(ok b u q).stay (λc v hc r=>k c v ?_ r) (λc r=>by rw[za (nown c b r)];exact r) λc xs r=>by rw[za (ntup c xs r)];exact r
   rcases hc with rfl|hc
   .exact hbe
   .rintro rfl
    rcases he with z|z
    .exact nown c b hc z
    .rw[hc]at z;cases z;exact hb rfl
end
structure Un(fs ex:List AH)(H H':Hp)(h h':Aq):Prop where
 keep:∀b o,h.get? b=AA o->H b=AC->b∉fs->b∉ex->h'.get? b=AA o
 slot:∀b o,h.get? b=AA o->H b=AC->b∈fs->b∉ex->∃sl,h'.get? b=AA {o with slots:=sl}
 free:∀b o,h.get? b=AA o->H b=AC->b∉ex->H' b=AC
 there:∀b o,h.get? b=AA o->b∉ex->∃o',h'.get? b=AA o'
 tups:∀b xs,H b=AA (.tup xs)->H' b=AA (.tup xs)
 frzs:∀b o u,H b=AA (.frz o u)->H' b=AA (.frz o u)
 tbls:∀b ps,H b=AA (.tbl ps)->∃more,H' b=AA (.tbl (ps++more))
section
variable {fs fs' ex ex':List AH}{H H1 H2:Hp}{h h1 h2 h':Aq}{a x e:AH}{o:HO}
theorem Un.any(u:Un fs ex H H1 h h1){b:AH}{ob:B1}(q:h.get? b=AA ob)(n:H b=AC)(hx:b∉ex):∃sl,h1.get? b=AA {ob with slots:=sl}:=by
 by_cases hb:b∈fs
 .exact u.slot b ob q n hb hx
 .exact⟨ob.slots,u.keep b ob q n hb hx⟩
theorem Un.kept(k:∀b u,h.get? b=AA u->h'.get? b=AA u):Un fs ex H H h h':=
 ⟨λb ob q _ _ _=>k b ob q,λb ob q _ _ _=>⟨ob.slots,k b ob q⟩,λ_ _ _ n _=>n,λb ob q _=>⟨ob,k b ob q⟩,λ_ _ q=>q,λ_ _ _ q=>q,λ_ ps q=>⟨#[],by rw[q];simp⟩⟩
theorem Un.refl:Un fs ex H H h h:=Un.kept λ_ _ q=>q
theorem Un.laid(k:∀b u,h.get? b=AA u->h'.get? b=AA u)(hp:h.objs.size<=a)(hn:H a=AC):Un fs ex H (upd H a o) h h' where
 keep:=λb u q _ _ _=>k b u q
 slot:=λb u q _ _ _=>⟨u.slots,k b u q⟩
 free:=λb u q n _=>by rw[za (Ac (A0 (AQ q) hp))];exact n
 there:=λb u q _=>⟨u,k b u q⟩
 tups:=λb xs q=>by rw[za (zb q hn)];exact q
 frzs:=λb u xs q=>by rw[za (zb q hn)];exact q
 tbls:=λb ps q=>⟨#[],by rw[za (zb q hn),q];simp⟩
theorem Un.write(mu:Mut (H x))(he:e=x \/ H e=AA (.own x))(k:∀b u,b≠e->h.get? b=AA u->h'.get? b=AA u)(heo:∃u,h'.get? e=AA u):Un fs ex H (upd H x o) h h':=by
 have hx:∀b,H b=AC->b≠x:=λb n z=>by subst z;rw[n]at mu;exact mu
 have hb:∀b,H b=AC->b≠e:=λb n z=>by
  subst z;rcases he with r|r
  .exact hx b n r
  .rw[n]at r;cases r
 have hm:∀b u,H b=AA u->¬Mut (AA u)->b≠x:=λb u q nm z=>by subst z;rw[q]at mu;exact nm mu
 refine⟨λb u q n _ _=>k b u (hb b n) q,λb u q n _ _=>⟨u.slots,k b u (hb b n) q⟩,λb u q n _=>by rw[za (hx b n)];exact n,λb u q _=>?_,
  λb xs q=>by rw[za (hm b _ q λz=>z)];exact q,λb u xs q=>by rw[za (hm b _ q λz=>z)];exact q,λb ps q=>⟨#[],by rw[za (hm b _ q λz=>z),q];simp⟩⟩
 by_cases hbe:b=e
 .subst hbe;exact heo
 .exact⟨u,k b u hbe q⟩
end
def trk(h:Aq)(H:Hp):List Addr:=(CN h.objs.size).filter λa=>(H a).isSome
def ybw(h:Aq)(H:Hp):Heap:=CM h (trk h H)
def zcJ(h:Aq)(H:Hp):(ybw h H).objs.size=h.objs.size:=PySem.W.hideAll_size _ _
def zem{h:Aq}{H:Hp}{b:AH}{o:B1}(e:h.get? b=AA o)(n:H b=AC):(ybw h H).get? b=AA o:=
 ER _ e λhm=>by
  have q:(H b).isSome=true:=(FL.mp hm).2;rw[n]at q;simp at q
def zfZ{h:Aq}{H:Hp}{b:AH}{o:B1}(e:(ybw h H).get? b=AA o):h.get? b=AA o/\H b=none:=by
 have e':h.get? b=AA o:=E8 (trk h H) e;refine⟨e',?_⟩
 cases q:H b with
 |none=>rfl
 |some x=>
  have hm:b∈trk h H:=FL.mpr ⟨FV.mpr (AQ e'),by simp[q]⟩;have z:(ybw h H).get? b=none:=PySem.W.hideAll_none (trk h H) hm;rw[z]at e;cases e
structure Mod(K:AB)(mg:AM->Option AE)(base:Aq):Prop where
 kin:K.In base
 glob:base.Ns mainGlobals mg
 blt:∃mb,base.Ns builtinsNs mb/\∀x:AM,x ≠ "__name__"->mb x=bootBuiltins x
 nolimit:base.NoLimit
structure Cx where
 prog:A1
 w:A8
 K:AB
 mg:AM->Option AE
 base:Aq
 A:A9
 N:List AM
 s₀:AI
 H₀:Hp
 env:Env
 outer:List Env
 stack:List Env
 ex:List AH
 fn:AM->Bool
 calm:Bool
 pn:List (AH×B1)
 xe:AE->AI->Prop
def frs(l:List Env):List Addr:=l.filterMap (·.frame)
abbrev Cx.fs(X:Cx):List Addr:=frs X.outer
def Vis(sc:BB)(x:AM):Prop:=sc.names.lookup x=AA .local \/ sc.names.lookup x=AA .cell \/ sc.names.lookup x=AA .free
def Loc(sc:BB)(x:AM):Prop:=sc.names.lookup x=AA .local \/ sc.names.lookup x=AA .cell
def Look(env:Env)(h:Aq)(m:AM->Option AE)(x:AM)(u:AE):Prop:=
 (env.kindOf x=AA .local/\m x=AA u) \/ ((env.kindOf x=AA .cell \/ env.kindOf x=AA .free)/\∃c,env.cells.lookup x=AA c/\h.IsCell c (AA u))
structure Cx.Ok(X:Cx):Prop where
 mod:Mod X.K X.mg X.base
 kind:X.env.scope.kind=.function
 glob:X.env.globals=mainGlobals
 blt:X.env.builtins=builtinsNs
 above:X.s₀.heap.objs.size<=X.env.locals
 inj:∀x y c,X.env.cells.lookup x=AA c->X.env.cells.lookup y=AA c->x=y
 has:∀x,(X.env.kindOf x=AA .cell \/ X.env.kindOf x=AA .free)->∃c,X.env.cells.lookup x=AA c
 cab:∀x c,X.fn x=AD->X.env.cells.lookup x=AA c->X.s₀.heap.objs.size<=c
 hd:X.calm=AD->X.A.handled=AC
 frames:X.A.frames=AA X.stack
 stk:X.stack=X.outer \/ (X.stack=X.env::X.outer/\X.env.frame=AA X.env.locals)
 exf:∀b∈X.ex,b≠X.env.locals/\∀x c,X.env.cells.lookup x=AA c->c≠b
 bs:∀b o,X.base.get? b=AA o->X.s₀.heap.get? b=AA o/\X.H₀ b=AC
 bsz:X.base.objs.size<=X.s₀.heap.objs.size
 noex:∀b o,X.base.get? b=AA o->b∉X.ex
 exfs:∀b∈X.ex,b∉X.fs
 funs:X.s₀.heap.FunFrames X.base X.outer
 frf:∀b∈X.fs,X.H₀ b=AC
structure Inv(X:Cx)(π:List (AH×B1))(σ:List (Option V))(H:Hp)(s:AI):Prop where
 ok:X.Ok
 os:s.os=X.s₀.os
 bare:Cd s.gens
 base:Un X.fs X.ex X.H₀ H X.s₀.heap s.heap
 loc:∃m,s.heap.Ns X.env.locals m/\∀(i:Nat) (x:AM) (v:V),X.N[i]?=AA x->σ[i]?=AA (AA v)->Vis X.env.scope x->∃u,RelV v u/\Look X.env s.heap m x u
 cell:∀x c,X.env.cells.lookup x=AA c->∃v,s.heap.IsCell c v
 free:H X.env.locals=AC
 freeC:∀x c,X.env.cells.lookup x=AA c->H c=AC
 pin:∀p∈X.pn++π,s.heap.get? p.1=AA p.2/\H p.1=AC/\p.1≠X.env.locals/\p.1∉X.fs/\∀v,p.2.data ≠ .cell v
 hok:HOk X.prog X.w H s.heap
 len:σ.length=X.N.length
section
variable {X:Cx}{π:List (AH×B1)}{σ:List (Option V)}{H H':Hp}{s:AI}{h':Aq}
theorem Cx.Ok.nofr(ok:X.Ok){b:AH}{o:B1}(e:X.base.get? b=AA o):b∉X.fs:=λhb=>by
 have:=(ok.funs.mem hb).1;rw[e]at this;cases this
theorem Inv.bs(I:Inv X π σ H s):∀b o,X.base.get? b=AA o->s.heap.get? b=AA o/\H b=none:=λb o e=>
 ⟨I.base.keep b o (I.ok.bs b o e).1 (I.ok.bs b o e).2 (I.ok.nofr e) (I.ok.noex b o e),I.base.free b o (I.ok.bs b o e).1 (I.ok.bs b o e).2 (I.ok.noex b o e)⟩
theorem Inv.bk(I:Inv X π σ H s):∀b o,X.base.get? b=AA o->s.heap.get? b=AA o:=λb o e=>(I.bs b o e).1
theorem Inv.mod(I:Inv X π σ H s):Mod X.K X.mg X.base:=I.ok.mod
theorem Inv.kIn(I:Inv X π σ H s):X.K.In s.heap:=I.ok.mod.kin.keeps I.bk
theorem Inv.lt(I:Inv X π σ H s):X.env.locals<s.heap.objs.size:=let ⟨_,hn,_⟩:=I.loc;hn.lt
theorem Inv.sz(I:Inv X π σ H s):X.s₀.heap.objs.size<=s.heap.objs.size:=BC I.ok.above (Ei I.lt)
theorem Inv.nofs(I:Inv X π σ H s){a:AH}(h:s.heap.objs.size<=a):a∉X.fs:=λhb=>by
 let⟨_,o,ho,_⟩:=I.ok.funs.mem hb;exact absurd (A0 (AQ ho) (BC I.sz h)) (Bm _)
theorem Inv.cne(I:Inv X π σ H s):∀x c,X.env.cells.lookup x=AA c->c≠X.env.locals:=λx c e z=>by
 let⟨v,o,ho,hd⟩:=I.cell x c e;let⟨m,⟨o',es,ep,ho',hd',_⟩,_⟩:=I.loc;rw[z,ho']at ho;cases ho;rw[hd']at hd;cases hd
theorem Inv.funs(I:Inv X π σ H s):s.heap.FunFrames X.base X.outer:=by
 have all:∀(l:List Env),(∀b∈frs l,b∈X.fs)->X.s₀.heap.FunFrames X.base l->s.heap.FunFrames X.base l:=by
  intro l
  induction l with
  |nil=>intro _ _;trivial
  |cons env r ih=>
   intro hs hl;let⟨hk,⟨L,o,hf,hn,ho,hd⟩,hr⟩:=hl;have hL:L∈X.fs:=hs L (by unfold frs;rw[Bo,hf];exact Ag);let⟨sl,e⟩:=I.base.slot L o ho (I.ok.frf L hL) hL λz=>I.ok.exfs L z hL;exact⟨hk,⟨L,_,hf,hn,e,hd⟩,ih (λb hb=>hs b (by unfold frs;rw[Bo,hf];exact AS _ hb)) hr⟩
 exact all X.outer (λ_ hb=>hb) I.ok.funs
theorem Inv.stack(I:Inv X π σ H s):s.heap.FunFrames X.base X.stack:=by
 rcases I.ok.stk with e|⟨e,hf⟩
 .rw[e];exact I.funs
 .rw[e];let⟨m,hn,_⟩:=I.loc;refine .cons (by rw[I.ok.kind];decide) hf hn ?_ I.funs;exact Heap.get?_none_of_le (BC I.ok.bsz I.ok.above)
theorem Inv.stkSub(I:Inv X π σ H s):∀b∈frs X.stack,b∈X.env.locals::X.fs:=λb hb=>by
 rcases I.ok.stk with e|⟨e,hf⟩
 .rw[e]at hb;exact AS _ hb
 .rw[e]at hb;unfold frs at hb;rw[Bo,hf]at hb;exact hb
theorem Inv.stkFree(I:Inv X π σ H s):∀b∈frs X.stack,H b=none:=λb hb=>by
 rcases Ab.mp (I.stkSub b hb)with e|hb
 .rw[e];exact I.free
 .let⟨_,o,ho,_⟩:=I.ok.funs.mem hb;exact I.base.free b o ho (I.ok.frf b hb) λz=>I.ok.exfs b z hb
theorem Inv.step{g':Array GenState}{t':Nat}{d':Drawn}{ch:List AH}(I:Inv X π σ H s)
  (hch:∀b∈ch,(b∈X.ex \/ X.s₀.heap.objs.size<=b)/\b≠X.env.locals/\(∀x c,X.env.cells.lookup x=AA c->c≠b)/\∀p∈X.pn++π,p.1≠b)
  (keep:∀b o,b≠X.env.locals->b∉X.fs->b∉ch->s.heap.get? b=AA o->H b=AC->h'.get? b=AA o)
  (slot:∀b o,b≠X.env.locals->b∈X.fs->b∉ch->s.heap.get? b=AA o->H b=AC->∃sl,h'.get? b=AA {o with slots:=sl}) (free:∀b o,b∉ch->s.heap.get? b=AA o->H b=AC->H' b=AC)
  (there:∀b o,b∉ch->s.heap.get? b=AA o->∃o',h'.get? b=AA o')
  (tups:∀b xs,H b=AA (.tup xs)->H' b=AA (.tup xs)) (frzs:∀b o u,H b=AA (.frz o u)->H' b=AA (.frz o u)) (tbls:∀b ps,H b=AA (.tbl ps)->∃more,H' b=AA (.tbl (ps++more)))
  (ns:∀m,s.heap.Ns X.env.locals m->h'.Ns X.env.locals m) (hok:HOk X.prog X.w H' h') (hg:Cd g'):
  Inv X π σ H' {s with heap:=h',gens:=g',drawn:=d',toks:=t'}:=by
 have neL:∀b o,X.s₀.heap.get? b=AA o->b≠X.env.locals:=λb o e=>Ac (A0 (AQ e) I.ok.above);have neC:∀b o,X.s₀.heap.get? b=AA o->b∉X.ex->b∉ch:=λb o e hx hb=>by
  rcases (hch b hb).1 with z|z
  .exact hx z
  .exact absurd (A0 (AQ e) z) (Bm _)
 have cellK:∀x c,X.env.cells.lookup x=AA c->∀v,s.heap.IsCell c v->h'.IsCell c v:=λx c e v ⟨o,ho,hd⟩=>by
  have nch:c∉ch:=λz=>(hch c z).2.2.1 x c e rfl
  by_cases hc:c∈X.fs
  .let⟨sl,q⟩:=slot c o (I.cne x c e) hc nch ho (I.freeC x c e);exact⟨_,q,hd⟩
  .exact⟨o,keep c o (I.cne x c e) hc nch ho (I.freeC x c e),hd⟩
 refine⟨I.ok,I.os,hg,⟨λb o e n hb hx=>?_,λb o e n hb hx=>?_,λb o e n hx=>?_,λb o e hx=>?_,λb xs e=>tups b xs (I.base.tups b xs e),λb o xs e=>frzs b o xs (I.base.frzs b o xs e),λb ps e=>?_⟩,?_,λx c e=>?_,?_,λx c e=>?_,λp hp=>?_,hok,I.len⟩
 .exact keep b o (neL b o e) hb (neC b o e hx) (I.base.keep b o e n hb hx) (I.base.free b o e n hx)
 .let⟨sl,e1⟩:=I.base.slot b o e n hb hx;let⟨sl',e2⟩:=slot b _ (neL b o e) hb (neC b o e hx) e1 (I.base.free b o e n hx);exact⟨sl',e2⟩
 .let⟨o',e1⟩:=I.base.there b o e hx;exact free b o' (neC b o e hx) e1 (I.base.free b o e n hx)
 .let⟨o',e1⟩:=I.base.there b o e hx;exact there b o' (neC b o e hx) e1
 .let⟨m1,e1⟩:=I.base.tbls b ps e;let⟨m2,e2⟩:=tbls b _ e1;exact⟨m1++m2,by rw[e2,Cv]⟩
 .let⟨m,hn,hl⟩:=I.loc;refine⟨m,ns m hn,λi x v e1 e2 e3=>?_⟩;let⟨u,r,l⟩:=hl i x v e1 e2 e3;refine⟨u,r,?_⟩;rcases l with l|⟨k,c,e,z⟩
  .exact .inl l
  .exact .inr ⟨k,c,e,cellK x c e _ z⟩
 .let⟨v,z⟩:=I.cell x c e;exact⟨v,cellK x c e v z⟩
 .let⟨m,⟨o,_,_,ho,_⟩,_⟩:=I.loc;exact free _ o (λz=>(hch _ z).2.1 rfl) ho I.free
 .let⟨v,o,ho,hd⟩:=I.cell x c e;exact free c o (λz=>(hch c z).2.2.1 x c e rfl) ho (I.freeC x c e)
 .let⟨e,n,ne,nf,d⟩:=I.pin p hp;have nch:p.1∉ch:=λz=>(hch p.1 z).2.2.2 p hp rfl;exact⟨keep p.1 p.2 ne nf nch e n,free p.1 p.2 nch e n,ne,nf,d⟩
theorem Inv.un{t':Nat}(I:Inv X π σ H s)(u:Un X.fs [] H H' s.heap h')(hok:HOk X.prog X.w H' h'):Inv X π σ H' {s with heap:=h',toks:=t'}:=by
 let⟨m,⟨o,es,ep,ho,r⟩,_⟩:=id I.loc;let⟨sl,hL⟩:=u.any ho I.free (by simp);exact I.step (g':=s.gens) (d':=s.drawn) (ch:=[]) (λ_ z=>nomatch z) (λb o _ hb _ e n=>u.keep b o e n hb (by simp)) (λb o _ hb _ e n=>u.slot b o e n hb (by simp)) (λb o _ e n=>u.free b o e n (by simp)) (λb o _ e=>u.there b o e (by simp)) u.tups u.frzs u.tbls (λm' hm=>by
  let⟨o',es',ep',ho',r'⟩:=hm;rw[ho]at ho';cases ho';exact⟨_,es',ep',hL,r'⟩) hok I.bare
theorem Inv.call{g':Array GenState}{t':Nat}{d':Drawn}{ch:List AH}(I:Inv X π σ H s)(u:Un (frs X.stack) ch H H' s.heap h')(hok:HOk X.prog X.w H' h')(hg:Cd g')
  (hch:∀b∈ch,(b∈X.ex \/ X.s₀.heap.objs.size<=b)/\b≠X.env.locals/\(∀x c,X.env.cells.lookup x=AA c->c≠b)/\∀p∈X.pn++π,p.1≠b):
  Inv X π σ H' {s with heap:=h',gens:=g',drawn:=d',toks:=t'}:=by
 let⟨m,⟨o,es,ep,ho,r⟩,_⟩:=id I.loc;let⟨sl,hL⟩:=u.any ho I.free λz=>(hch _ z).2.1 rfl;exact I.step (ch:=ch) hch (λb o hL hb hc e n=>u.keep b o e n (λz=>(Ab.mp (I.stkSub b z)).elim hL hb) hc) (λb o _ _ hc e n=>u.any e n hc) (λb o hc e n=>u.free b o e n hc) (λb o hc e=>u.there b o e hc) u.tups u.frzs u.tbls (λm' hm=>by
  let⟨o',es',ep',ho',r'⟩:=hm;rw[ho]at ho';cases ho';exact⟨_,es',ep',hL,r'⟩) hok hg
theorem Inv.turned{t':Nat}{it:AH}(I:Inv X π σ H s)(k:∀b o,b≠it->s.heap.get? b=AA o->h'.get? b=AA o)(hn:H it=AC)(hL:it≠X.env.locals)
  (h1:it∈X.ex \/ X.s₀.heap.objs.size<=it) (h2:∀x c,X.env.cells.lookup x=AA c->c≠it) (h3:∀p∈X.pn++π,p.1≠it):Inv X π σ H {s with heap:=h',toks:=t'}:=by
 have nit:∀b u,H b=AA u->b≠it:=λb u e z=>by rw[z,hn]at e;cases e
 refine I.step (g':=s.gens) (d':=s.drawn) (ch:=[it]) (λb hb=>?_) (λb o _ _ hc e _=>k b o (λz=>hc (by simp[z])) e) (λb o _ _ hc e _=>⟨o.slots,k b o (λz=>hc (by simp[z])) e⟩) (λ_ _ _ _ n=>n)
  (λb o hc e=>⟨o,k b o (λz=>hc (by simp[z])) e⟩) (λ_ _ e=>e) (λ_ _ _ e=>e) (λb ps e=>⟨#[],by rw[e];simp⟩) (λm hm=>?_) (λb u e=>?_) I.bare
 .have e:b=it:=by simpa using hb
  subst e;exact⟨h1,hL,h2,h3⟩
 .let⟨o,es,ep,ho,r⟩:=hm;exact⟨o,es,ep,k _ o (B9 hL) ho,r⟩
 .refine(I.hok b u e).stay (λc v hc q=>k c v ?_ q) (λ_ q=>q) λ_ _ q=>q;rcases hc with z|z
  .rw[z];exact nit b u e
  .exact nit c _ z
theorem Inv.tok(I:Inv X π σ H s)(t:Nat):Inv X π σ H {s with toks:=t}:=I.un (h':=s.heap) (t':=t) Un.refl I.hok
theorem Inv.kept{t':Nat}(I:Inv X π σ H s)(k:∀b u,s.heap.get? b=AA u->h'.get? b=AA u):Inv X π σ H {s with heap:=h',toks:=t'}:=I.un (Un.kept k) (I.hok.kept k)
theorem Inv.laid{a:AH}{o:HO}{t':Nat}(I:Inv X π σ H s)(k:∀b u,s.heap.get? b=AA u->h'.get? b=AA u)(hp:s.heap.objs.size<=a)(new:yI X.prog X.w (upd H a o) h' a o):
  Inv X π σ (upd H a o) {s with heap:=h',toks:=t'}:=I.un (Un.laid k hp (I.hok.fresh hp)) (I.hok.laid k hp new)
theorem Inv.write{x e:AH}{o:HO}{t':Nat}(I:Inv X π σ H s)(mu:Mut (H x))(he:e=x \/ H e=AA (.own x))(k:∀b u,b≠e->s.heap.get? b=AA u->h'.get? b=AA u)(heo:∃u,h'.get? e=AA u)
  (new:yI X.prog X.w (upd H x o) h' x o):Inv X π σ (upd H x o) {s with heap:=h',toks:=t'}:=I.un (Un.write mu he k heo) (I.hok.write mu he k heo new)
theorem Inv.pins_of{pins':List (AH×B1)}(I:Inv X π σ H s)(h:∀p∈pins',s.heap.get? p.1=AA p.2/\H p.1=AC/\p.1≠X.env.locals/\p.1∉X.fs/\∀v,p.2.data ≠ .cell v):Inv X pins' σ H s:=
 ⟨I.ok,I.os,I.bare,I.base,I.loc,I.cell,I.free,I.freeC,λp hp=>(BY.mp hp).elim (λz=>I.pin p (EC _ z)) (h p),I.hok,I.len⟩
def zbW{N:List AM}(hN:N.Nodup){i j:Nat}{x:AM}(a:N[i]?=AA x)(b:N[j]?=AA x):i=j:=by
 let⟨h1,e1⟩:=Ap.mp a;let⟨h2,e2⟩:=Ap.mp b;exact(List.getElem_inj hN).mp (e1.trans e2.symm)
def zdq{M:Model}{A:A9}{E:AE->AI->Prop}{i:Nat}{x:AM}{v:V}{u:AE}{Q:Unit->AI->Prop}(I:Inv X π σ H s)(hN:X.N.Nodup)(hi:X.N[i]?=AA x)(hx:Loc X.env.scope x)(r:RelV v u)
  (h:∀s',Inv X π (σ.set i (AA v)) H s'->(∃a,CG a s.heap s'.heap/\(a=X.env.locals \/ X.env.cells.lookup x=AA a))->Q () s') (hf:X.fn x=AD \/ X.env.scope.names.lookup x=AA .local:=by first|exact .inl rfl|exact .inr rfl|assumption):AZ M A (storeName X.env x u) Q E s:=by
 let⟨m,hn,hl⟩:=id I.loc;have hcls:(X.env.scope.kind==.class || (X.env.scope.kind==.module&&X.env.locals != X.env.globals))=false:=by rw[I.ok.kind];rfl
 have hiσ:i<σ.length:=by rw[I.len];exact(Ap.mp hi).1
 have cne:=I.cne;have tracked:∀{a:AH} {h':Aq},(∃o,s.heap.get? a=AA o/\H a=AC)->CG a s.heap h'->HOk X.prog X.w H h':=λ{a h'} ha hs b ob e=>by
  let⟨_,_,hfree⟩:=ha;refine(I.hok b ob e).stay (λc w' hc q=>(hs.2 c ?_).trans q) (λ_ q=>q) λ_ _ q=>q
  rintro rfl
  rcases hc with rfl|hc
  .rw[hfree]at e;cases e
  .rw[hfree]at hc;cases hc
 rcases hx with hk|hk
 .refine wpAny_storeName_local hk hn (λh' hn' hs=>?_) hcls;let⟨oL,_,_,hoL,_⟩:=id hn;refine h _ ⟨I.ok,I.os,I.bare,⟨λb o e n hb hx=>?_,λb o e n hb hx=>?_,I.base.free,λb o e hx=>?_,I.base.tups,I.base.frzs,I.base.tbls⟩,⟨_,hn',λj y v' e1 e2 e3=>?_⟩,λy c e=>?_,I.free,I.freeC,λp hp=>?_,tracked ⟨oL,hoL,I.free⟩ hs,by simpa using I.len⟩ ⟨_,hs,.inl rfl⟩
  .exact(hs.2 b (Ac (A0 (AQ e) I.ok.above))).trans (I.base.keep b o e n hb hx)
  .let⟨sl,e1⟩:=I.base.slot b o e n hb hx;exact⟨sl,(hs.2 b (Ac (A0 (AQ e) I.ok.above))).trans e1⟩
  .let⟨o',e1⟩:=I.base.there b o e hx;exact⟨o',(hs.2 b (Ac (A0 (AQ e) I.ok.above))).trans e1⟩
  .by_cases hj:j=i
   .subst hj;rw[hi]at e1;cases e1;rw[BN hiσ]at e2
    cases e2
    exact⟨u,r,.inl ⟨hk,by simp⟩⟩
   .rw[Aj (B9 hj)]at e2;let⟨u',r',q⟩:=hl j y v' e1 e2 e3;refine⟨u',r',?_⟩;rcases q with⟨k,e⟩|⟨k,c,e,z⟩
    .refine .inl ⟨k,?_⟩;have:y≠x:=λe=>hj (zbW hN e1 (e ▸ hi));simp[this,e]
    .exact .inr ⟨k,c,e,z.sameBut hs (cne y c e)⟩
  .let⟨w',z⟩:=I.cell y c e;exact⟨w',z.sameBut hs (cne y c e)⟩
  .let⟨e,n,ne,nf,d⟩:=I.pin p hp;exact⟨(hs.2 p.1 ne).trans e,n,ne,nf,d⟩
 .have hfn:X.fn x=true:=by
   rcases hf with z|z
   .exact z
   .rw[z]at hk;cases hk
  let⟨c,hc⟩:=I.ok.has x (.inl hk);let⟨w',z⟩:=I.cell x c hc;refine wpAny_storeName_cell I.ok.kind hk hc z (λh' hc' hs=>?_);let⟨oc,hoc,hocd⟩:=id z;refine h {s with heap:=h'} ⟨I.ok,I.os,I.bare,⟨λb o e n hb hx=>?_,λb o e n hb hx=>?_,I.base.free,λb o e hx=>?_,I.base.tups,I.base.frzs,I.base.tbls⟩,⟨m,hn.sameBut hs (B9 (cne x c hc)),λj y v' e1 e2 e3=>?_⟩,λy c' e=>?_,I.free,I.freeC,λp hp=>?_,tracked ⟨oc,hoc,I.freeC x c hc⟩ hs,by simpa using I.len⟩ ⟨c,hs,.inr hc⟩
  .exact(hs.2 b (Ac (A0 (AQ e) (I.ok.cab x c hfn hc)))).trans (I.base.keep b o e n hb hx)
  .let⟨sl,e1⟩:=I.base.slot b o e n hb hx;exact⟨sl,(hs.2 b (Ac (A0 (AQ e) (I.ok.cab x c hfn hc)))).trans e1⟩
  .let⟨o',e1⟩:=I.base.there b o e hx;exact⟨o',(hs.2 b (Ac (A0 (AQ e) (I.ok.cab x c hfn hc)))).trans e1⟩
  .by_cases hj:j=i
   .subst hj;rw[hi]at e1;cases e1;rw[BN hiσ]at e2
    cases e2
    exact⟨u,r,.inr ⟨.inl hk,c,hc,hc'⟩⟩
   .rw[Aj (B9 hj)]at e2;let⟨u',r',q⟩:=hl j y v' e1 e2 e3;refine⟨u',r',?_⟩;rcases q with q|⟨k,c',e,z'⟩
    .exact .inl q
    .refine .inr ⟨k,c',e,z'.sameBut hs ?_⟩
     rintro rfl
     exact hj (zbW hN e1 (I.ok.inj _ _ _ e hc ▸ hi))
  .by_cases hcc:c'=c
   .subst hcc;exact⟨_,hc'⟩
   .let⟨w2,z2⟩:=I.cell y c' e;exact⟨w2,z2.sameBut hs hcc⟩
  .let⟨e,n,ne,nf,d⟩:=I.pin p hp;refine⟨(hs.2 p.1 ?_).trans e,n,ne,nf,d⟩;intro q;rw[q,hoc]at e;have q':oc=p.2:=AW e;exact d w' (by rw[<-q'];exact hocd)
def zN{M:Model}{A:A9}{E:AE->AI->Prop}{i:Nat}{x:AM}{v:V}{u:AE}{Q:Unit->AI->Prop}(I:Inv X π σ H s)(hN:X.N.Nodup)(hi:X.N[i]?=AA x)(hx:Loc X.env.scope x)(r:RelV v u)
  (h:∀s',Inv X π (σ.set i (AA v)) H s'->Q () s') (hf:X.fn x=AD \/ X.env.scope.names.lookup x=AA .local:=by first|exact .inl rfl|exact .inr rfl|assumption):AZ M A (storeName X.env x u) Q E s:=
 zdq I hN hi hx r (λs' I' _=>h s' I') hf
theorem Inv.call'{s':AI}{ch:List AH}(I:Inv X π σ H s)(ho:s'.os=s.os)(u:Un (frs X.stack) ch H H' s.heap s'.heap)(hok:HOk X.prog X.w H' s'.heap)(hg:Cd s'.gens)
  (hch:∀b∈ch,(b∈X.ex \/ X.s₀.heap.objs.size<=b)/\b≠X.env.locals/\(∀x c,X.env.cells.lookup x=AA c->c≠b)/\∀p∈X.pn++π,p.1≠b):Inv X π σ H' s':=by
 let⟨h',g',d',t',o'⟩:=s';have e:o'=s.os:=ho;subst e;exact I.call (g':=g') (t':=t') (d':=d') u hok hg hch
end
abbrev XK:=AE->Option AH->Hp->Prop
abbrev St:=List (Option V)
abbrev VK:=V->Hp->Prop
abbrev TE:=St->Hp->VK->Prop
abbrev TT:=St->Hp->(Bool->Hp->Prop)->Prop
abbrev TA:=St->Hp->(List V->Hp->Prop)->Prop
structure Ends where
 nx:St->Hp->Prop
 rt:VK
 bk:St->Hp->Prop:=λ_ _=>False
 ct:St->Hp->Prop:=λ_ _=>False
abbrev TS:=Ends->St->Hp->Prop
def EP(X:Cx)(π:List (AH×B1))(σ:St)(Q:VK)(u:AE)(s':AI):Prop:=∃v H',Inv X π σ H' s'/\RelV v u/\Q v H'
def TP(X:Cx)(π:List (AH×B1))(σ:St)(Q:Bool->Hp->Prop)(b:Bool)(s':AI):Prop:=∃H',Inv X π σ H' s'/\Q b H'
def AP(X:Cx)(π:List (AH×B1))(σ:St)(Q:List V->Hp->Prop)(us:List AE)(s':AI):Prop:=∃vs H',Inv X π σ H' s'/\Vals vs us/\Q vs H'
def SP(X:Cx)(π:List (AH×B1))(D:Ends)(f:Flow)(s':AI):Prop:=
 match f with
 |.next=>∃σ' H',Inv X π σ' H' s'/\D.nx σ' H'
 |.brk=>∃σ' H',Inv X π σ' H' s'/\D.bk σ' H'
 |.cont=>∃σ' H',Inv X π σ' H' s'/\D.ct σ' H'
 |.ret u=>∃v σ' H',Inv X π σ' H' s'/\RelV v u/\D.rt v H'
def PE(X:Cx)(e:AO)(t:TE):Prop:=
 ∀(π:List (AH×B1)) (s:AI) (σ:St) (H:Hp) (Q:VK),Inv X π σ H s->t σ H Q->AZ (model X.prog X.w) X.A (eval e X.env) (EP X π σ Q) X.xe s
def PT(X:Cx)(e:AO)(t:TT):Prop:=
 ∀(π:List (AH×B1)) (s:AI) (σ:St) (H:Hp) (Q:Bool->Hp->Prop),Inv X π σ H s->t σ H Q->AZ (model X.prog X.w) X.A (isTrue e X.env (eval e X.env)) (TP X π σ Q) X.xe s
def PW(X:Cx)(e:AO)(t:TT):Prop:=
 ∀(whole:GJ AE) (π:List (AH×B1)) (s:AI) (σ:St) (H:Hp) (Q:Bool->Hp->Prop),Inv X π σ H s->t σ H Q->AZ (model X.prog X.w) X.A (isTrue e X.env whole) (TP X π σ Q) X.xe s
theorem PW.pt{X:Cx}{e:AO}{t:TT}(h:PW X e t):PT X e t:=h _
def PA(X:Cx)(es:List AO)(t:TA):Prop:=
 ∀(pos:Ba) (π:List (AH×B1)) (s:AI) (σ:St) (H:Hp) (Q:List V->Hp->Prop),Inv X π σ H s->t σ H Q->AZ (model X.prog X.w) X.A (spliced (backTo pos (starEach es X.env))) (AP X π σ Q) X.xe s
def PS(X:Cx)(st:BS)(t:TS):Prop:=
 ∀(π:List (AH×B1)) (s:AI) (σ:St) (H:Hp) (D:Ends),Inv X π σ H s->t D σ H->AZ (model X.prog X.w) X.A (exec st X.env) (SP X π D) X.xe s
def PSs(X:Cx)(st:List BS)(t:TS):Prop:=
 ∀(π:List (AH×B1)) (s:AI) (σ:St) (H:Hp) (D:Ends),Inv X π σ H s->t D σ H->AZ (model X.prog X.w) X.A (execs st X.env) (SP X π D) X.xe s
theorem thn{α:Type}{t:GJ α}{Q Q':α->AI->Prop}{M:Model}{A:A9}{E:AE->AI->Prop}{s:AI}(h:AZ M A t Q E s)(hQ:∀a s,Q a s->Q' a s):AZ M A t Q' E s:=CB h hQ λ_ _ x=>x
section
variable {X:Cx}
theorem bin{a b:AO}{ta tb:TE}(ha:PE X a ta)(hb:PE X b tb){π:List (AH×B1)}{s:AI}{σ:St}{H:Hp}{R:V->V->Hp->Prop}(I:Inv X π σ H s)(h:ta σ H λx H1=>tb σ H1 λy H2=>R x y H2)
  {α:Type} {Q:α->AI->Prop} {f:AE->AE->GJ α}
  (hf:∀v u s2 x y H2,Inv X π σ H2 s2->RelV x v->RelV y u->R x y H2->AZ (model X.prog X.w) X.A (f v u) Q X.xe s2):
  AZ (model X.prog X.w) X.A (eval a X.env) (λv s₁=>AZ (model X.prog X.w) X.A (eval b X.env) (λu s₂=>AZ (model X.prog X.w) X.A (f v u) Q X.xe s₂) X.xe s₁) X.xe s:=by
 refine thn (ha π s σ H _ I h) λv s1 kq=>?_;let⟨x,H1,I1,r1,q1⟩:=kq;refine thn (hb π s1 σ H1 _ I1 q1) λu s2 kq=>?_;let⟨y,H2,I2,r2,q2⟩:=kq;exact hf v u s2 x y H2 I2 r1 r2 q2
def yeF(i:Nat):TE:=λσ H Q=>∃v,σ[i]?=AA (AA v)/\Q v H
def tC(v:V):TE:=λ_ H Q=>Q v H
def zio{i:Nat}{x:AM}{pos:Ba}(hN:X.N[i]?=AA x)(hv:Vis X.env.scope x)(hd:(x==("__debug__":AM))=false:=by decide)(hcd:(x==("__classdict__":AM))=false:=by decide):PE X (.Name x pos) (yeF i):=by
 intro π s σ H Q I h;let⟨v,e,h⟩:=h;let⟨m,hn,hl⟩:=I.loc;let⟨u,r,l⟩:=hl i x v hN e hv;have fin:EP X π σ Q u s:=⟨v,H,I,r,h⟩;rcases l with⟨hk,hm⟩|⟨hk,c,hc,hcell⟩
 .exact FW (ED I.ok.kind hk hn hm fin) hd
 .rcases hk with hk|hk
  .exact FW (ES I.ok.kind hk hc hcell fin) hd
  .exact FW (wpAny_loadName_free I.ok.kind hk hc hcell fin hcd) hd
def zig{i j pos}:PE X (.Constant (.int i) j pos) (tC (.int i)):=λ_ _ _ H _ I h=>wpAny_Constant_int ⟨.int i,H,I.tok _,⟨_,rfl⟩,h⟩
def zi1{b j pos}:PE X (.Constant (.bool b) j pos) (tC (.bl b)):=λ_ _ _ H _ I h=>Constant_bool ⟨.bl b,H,I,rfl,h⟩
def zje{j pos}:PE X (.Constant .none j pos) (tC .non):=λ_ _ _ H _ I h=>Constant_none ⟨.non,H,I,rfl,h⟩
def zjf{x j pos}:PE X (.Constant (.str x) j pos) (tC (.str x)):=λ_ _ _ H _ I h=>Calls.Constant_str ⟨.str x,H,I.tok _,⟨_,rfl⟩,h⟩
def Gl(X:Cx)(x:AM):Prop:=X.env.kindOf x=AA .globalImplicit
def zap{E:AE->AI->Prop}{π:List (AH×B1)}{s:AI}{σ:St}{H:Hp}{x:AM}{u:AE}{pos:Ba}{Q:AE->AI->Prop}(I:Inv X π σ H s)(hg:Gl X x)(hm:X.mg x=AA u)(h:Q u s)
  (hd:(x==("__debug__":AM))=false:=by decide):AZ (model X.prog X.w) X.A (eval (.Name x pos) X.env) Q E s:=
 Cw I.ok.kind hg (Calls.loadGlobal_global (by rw[I.ok.glob];exact I.mod.glob.keeps I.bk) hm h) hd
def zaU{E:AE->AI->Prop}{π:List (AH×B1)}{s:AI}{σ:St}{H:Hp}{x:AM}{u:AE}{pos:Ba}{Q:AE->AI->Prop}(I:Inv X π σ H s)(hg:Gl X x)(hm:X.mg x=AC)(hv:bootBuiltins x=AA u)(h:Q u s)
  (hn:x ≠ "__name__":=by decide) (hd:(x==("__debug__":AM))=false:=by decide):AZ (model X.prog X.w) X.A (eval (.Name x pos) X.env) Q E s:=by
 let⟨mb,h1,h2⟩:=I.mod.blt;exact Cw I.ok.kind hg (Calls.loadGlobal_builtin (by rw[I.ok.glob];exact I.mod.glob.keeps I.bk) hm (by rw[I.ok.blt];exact h1.keeps I.bk) ((h2 x hn).trans hv) h) hd
def zde{x:AM}{v:V}{u:AE}{pos:Ba}(hg:Gl X x)(hm:X.mg x=AA u)(r:RelV v u)(hd:(x==("__debug__":AM))=false:=by decide):PE X (.Name x pos) (tC v):=
 λ_ _ _ H _ I h=>zap I hg hm ⟨v,H,I,r,h⟩ hd
def zgu{x:AM}{v:V}{u:AE}{pos:Ba}(hg:Gl X x)(hm:X.mg x=AC)(hv:bootBuiltins x=AA u)(r:RelV v u)(hn:x ≠ "__name__":=by decide)(hd:(x==("__debug__":AM))=false:=by decide):PE X (.Name x pos) (tC v):=
 λ_ _ _ H _ I h=>zaU I hg hm hv ⟨v,H,I,r,h⟩ hn hd
variable {a b:AO}{ta tb:TE}{pos:Ba}
variable {tA tB':TT}{rest:List AO}
def yei(t u:TT):TT:=λσ H Q=>t σ H λc H1=>if c=AD then u σ H1 Q else Q AF H1
def tOr(t u:TT):TT:=λσ H Q=>t σ H λc H1=>if c=AD then Q AD H1 else u σ H1 Q
def yfQ(t:TT):TT:=λσ H Q=>t σ H λc H1=>Q (!c) H1
def zfQ(ha:PT X a tA):PW X (.BoolOp .And [a] pos) tA:=by
 intro wh π s σ H Q I h;refine isTrue_and (thn (ha π s σ H Q I h) λc s1 e=>?_)
 cases c with
 |true=>exact isTrue_and_nil e
 |false=>exact e
def zhp(ha:PT X a tA):PW X (.BoolOp .Or [a] pos) tA:=by
 intro wh π s σ H Q I h;refine isTrue_or (thn (ha π s σ H Q I h) λc s1 e=>?_)
 cases c with
 |false=>exact isTrue_or_nil e
 |true=>exact e
def zgS(ha:PT X a tA)(hb:PW X (.BoolOp .And (b::rest) pos) tB'):PW X (.BoolOp .And (a::b::rest) pos) (yei tA tB'):=by
 intro wh π s σ H Q I h;refine isTrue_and (thn (ha π s σ H _ I h) λc s1 kq=>?_);let⟨H1,I1,q1⟩:=kq
 cases c with
 |true=>exact hb wh π s1 σ H1 Q I1 q1
 |false=>exact⟨H1,I1,q1⟩
def ziU(ha:PT X a tA)(hb:PW X (.BoolOp .Or (b::rest) pos) tB'):PW X (.BoolOp .Or (a::b::rest) pos) (tOr tA tB'):=by
 intro wh π s σ H Q I h;refine isTrue_or (thn (ha π s σ H _ I h) λc s1 kq=>?_);let⟨H1,I1,q1⟩:=kq
 cases c with
 |true=>exact⟨H1,I1,q1⟩
 |false=>exact hb wh π s1 σ H1 Q I1 q1
def zhl(ha:PT X a tA):PT X (.UnaryOp .Not a pos) (yfQ tA):=by
 intro π s σ H Q I h;exact isTrue_not (ha π s σ H (λc H1=>Q (!c) H1) I h)
def ydy(ta tb:TE):TE:=λσ H Q=>ta σ H λx H1=>∃c,x=.bl c/\if c=AD then tb σ H1 Q else Q (.bl AF) H1
def yfg(ta tb:TE):TE:=λσ H Q=>ta σ H λx H1=>∃c,x=.bl c/\if c=AD then Q (.bl AD) H1 else tb σ H1 Q
def ydv(ta:TE):TE:=λσ H Q=>ta σ H λx H1=>∃c,x=.bl c/\Q (.bl (!c)) H1
def zg5{op}{t:TE}(h:PE X a t):PE X (.BoolOp op [a] pos) t:=λπ s σ H Q I hw=>BoolOp_one (h π s σ H Q I hw)
def zg3(ha:PE X a ta)(hb:PE X (.BoolOp .And (b::rest) pos) tb):PE X (.BoolOp .And (a::b::rest) pos) (ydy ta tb):=by
 intro π s σ H Q I h;refine BoolOp_and (thn (ha π s σ H _ I h) λv s1 kq=>?_);let⟨x,H1,I1,r1,q1⟩:=kq;let⟨c,rfl,q1⟩:=q1
 cases r1
 refine BA ?_
 cases c with
 |true=>exact hb π s1 σ H1 Q I1 q1
 |false=>exact⟨.bl AF,H1,I1,rfl,q1⟩
def ziV(ha:PE X a ta)(hb:PE X (.BoolOp .Or (b::rest) pos) tb):PE X (.BoolOp .Or (a::b::rest) pos) (yfg ta tb):=by
 intro π s σ H Q I h;refine BoolOp_or (thn (ha π s σ H _ I h) λv s1 kq=>?_);let⟨x,H1,I1,r1,q1⟩:=kq;let⟨c,rfl,q1⟩:=q1
 cases r1
 refine BA ?_
 cases c with
 |false=>exact hb π s1 σ H1 Q I1 q1
 |true=>exact⟨.bl AD,H1,I1,rfl,q1⟩
def zit(ha:PE X a ta):PE X (.UnaryOp .Not a pos) (ydv ta):=by
 intro π s σ H Q I h;refine UnaryOp_ (thn (ha π s σ H _ I h) λv s1 kq=>?_);let⟨x,H1,I1,r1,q1⟩:=kq;let⟨c,rfl,q1⟩:=q1
 cases r1
 exact not_of (BA ⟨.bl (!c),H1,I1,rfl,q1⟩)
def tIf(t:TT)(ta tb:TE):TE:=λσ H Q=>t σ H λc H1=>if c=AD then ta σ H1 Q else tb σ H1 Q
def zd2{c:AO}(hc:PT X c tA)(ha:PE X a ta)(hb:PE X b tb):PE X (.IfExp c a b pos) (tIf tA ta tb):=by
 intro π s σ H Q I h;refine wpAny_IfExp (thn (hc π s σ H _ I h) λd s1 kq=>?_);let⟨H1,I1,q1⟩:=kq
 cases d with
 |true=>exact ha π s1 σ H1 Q I1 q1
 |false=>exact hb π s1 σ H1 Q I1 q1
end
def SqL(K:AB)(H:Hp)(a:AH)(xs:List V):Prop:=
 Rd H a (.lst xs) \/
  ∃(o:B1) (its:Array AE) (n:Nat),K.lookup a=AA o/\o.cls=.type "list"/\o.dict=AC/\o.data=.seq its n/\its.size<=sizeLine/\Vals xs its.toList
def SqT(K:AB)(H:Hp)(a:AH)(xs:List V):Prop:=
 Rd H a (.tup xs) \/
  ∃(o:B1) (its:Array AE) (n:Nat),K.lookup a=AA o/\o.cls=.type "tuple"/\o.data=.seq its n/\its.size<=sizeLine/\Vals xs its.toList
def yfc:AE->Option V
 |.none=>AA .non
 |.bool b=>AA (.bl b)
 |.int i _=>AA (.int i)
 |.str x _=>AA (.str x)
 |.bytes b _=>AA (.byt b)
 |.float b _=>AA (.flt b)
 |.ref a=>AA (.ref a)
 |.type n=>AA (.ty n)
 |_=>AC
theorem RelV.abs{x:V}{u:AE}(r:RelV x u):yfc u=AA x:=by
 cases x with
 |non=>cases r;rfl
 |bl _=>cases r;rfl
 |int _=>let⟨t,rfl⟩:=r;rfl
 |str _=>let⟨t,rfl⟩:=r;rfl
 |byt _=>let⟨t,rfl⟩:=r;rfl
 |flt _=>let⟨t,rfl⟩:=r;rfl
 |ref _=>cases r;rfl
 |ty _=>cases r;rfl
theorem RelV.inj{x y:V}{u:AE}(r:RelV x u)(q:RelV y u):x=y:=AW (r.abs.symm.trans q.abs)
theorem Vals.inj:∀{xs ys:List V} {us:List AE},Vals xs us->Vals ys us->xs=ys
 |_,_,_,.nil,.nil=>rfl
 |_,_,_,.cons r t,.cons r' t'=>by rw[r.inj r',Vals.inj t t']
section
variable {X:Cx}{π:List (AH×B1)}{σ:St}{H:Hp}{s:AI}{a:AH}{xs ys:List V}
theorem SqL.of{K:AB}(h:H a=AA (.lst xs)):SqL K H a xs:=.inl (.inl h)
theorem Inv.list(I:Inv X π σ H s)(h:SqL X.K H a xs):∃its:List AE,Vals xs its/\PlainL s.heap a its.toArray/\xs.length<=sizeLine:=by
 rcases h with h|⟨o,its,n,hk,hc,hd,hs,hz,r⟩
 .let⟨z,its,n,r,e⟩:=h.ok I.hok;exact⟨its,r,⟨_,n,e,rfl,rfl,rfl⟩,z⟩
 .refine⟨its.toList,r,⟨o,n,I.kIn a o hk,hc,hd,by simpa using hs⟩,?_⟩;have e:=r.length;erw[B0]at e;lia
theorem Inv.tuple(I:Inv X π σ H s)(h:SqT X.K H a xs):∃its:List AE,Vals xs its/\IsTup s.heap a its.toArray/\xs.length<=sizeLine:=by
 rcases h with h|⟨o,its,n,hk,hc,hs,hz,r⟩
 .let⟨z,its,r,p⟩:=h.ok I.hok;exact⟨its,r,⟨_,p,rfl,_,rfl⟩,z⟩
 .refine⟨its.toList,r,⟨o,I.kIn a o hk,hc,n,by simpa using hs⟩,?_⟩;have e:=r.length;erw[B0]at e;lia
theorem Inv.list_inj(I:Inv X π σ H s)(h:SqL X.K H a xs)(h':SqL X.K H a ys):xs=ys:=by
 let⟨its,r,⟨o,n,e,_,_,d⟩,_⟩:=I.list h;let⟨its',r',⟨o',n',e',_,_,d'⟩,_⟩:=I.list h';rw[e]at e';cases e';rw[d]at d';injection d' with d1 _;have:its=its':=by simpa using congrArg Fk d1
 subst this;exact r.inj r'
theorem Inv.tuple_inj(I:Inv X π σ H s)(h:SqT X.K H a xs)(h':SqT X.K H a ys):xs=ys:=by
 let⟨its,r,⟨o,e,_,n,d⟩,_⟩:=I.tuple h;let⟨its',r',⟨o',e',_,n',d'⟩,_⟩:=I.tuple h';rw[e]at e';cases e';rw[d]at d';injection d' with d1 _;have:its=its':=by simpa using congrArg Fk d1
 subst this;exact r.inj r'
end
section
variable {X:Cx}{π:List (AH×B1)}{σ:St}{H:Hp}{s:AI}{E:AE->AI->Prop}
end
section
variable {X:Cx}{st:BS}{rest:List BS}{t u:TS}{e:AO}{te:TE}{pos:Ba}
def ydn:TS:=λD σ H=>D.nx σ H
def yeW(t u:TS):TS:=λD σ H=>t {D with nx:=u D} σ H
def zjg:PSs X [] ydn:=λ_ _ σ H _ I h=>Dp ⟨σ,H,I,h⟩
def zel(h1:PS X st t)(h2:PSs X rest u):PSs X (st::rest) (yeW t u):=by
 intro π s σ H D I h;refine wpAny_execs_cons (thn (h1 π s σ H {D with nx:=u D} I h) λf s1 q=>?_)
 cases f with
 |next=>
  let⟨σ',H',I',q⟩:=q;exact h2 π s1 σ' H' D I' q
 |ret v=>exact q
 |brk=>exact q
 |cont=>exact q
theorem Inv.quiet{π:List (AH×B1)}{σ:St}{H:Hp}{s:AI}(I:Inv X π σ H s):interactive X.env=false:=by simp[interactive,I.ok.kind]
def ydt(te:TE):TS:=λD σ H=>te σ H λ_ H1=>D.nx σ H1
def zfR(he:PE X e te)(hs:swapsWith e AC pos.line X.env=pure false:=by rfl):PS X (.Expr e pos) (ydt te):=by
 intro π s σ H D I h;exact wpAny_Expr_any (thn (he π s σ H _ I h) λv s1 ⟨x,H1,I1,r1,q1⟩=>⟨σ,H1,I1,q1⟩) I.quiet hs
def yeI(te:TE):TS:=λD σ H=>te σ H D.rt
def zic(he:PE X e te):PS X (.Return (AA e) pos) (yeI te):=by
 intro π s σ H D I h;exact wpAny_Return_some (thn (he π s σ H _ I h) λv s1 ⟨x,H1,I1,r1,q1⟩=>⟨x,σ,H1,I1,r1,q1⟩)
def yc1:TS:=λD _ H=>D.rt .non H
def zjh:PS X (.Return AC pos) yc1:=λ_ _ σ H _ I h=>wpAny_Return_none ⟨.non,σ,H,I,rfl,h⟩
def yeG(c:TT)(t u:TS):TS:=λD σ H=>c σ H λb H1=>if b=AD then t D σ H1 else u D σ H1
def ziX{c:AO}{a b:List BS}{tc:TT}(hc:PT X c tc)(ha:PSs X a t)(hb:PSs X b u):PS X (.If c a b pos) (yeG tc t u):=by
 intro π s σ H D I h;refine wpAny_If (thn (hc π s σ H _ I h) λd s1 kq=>?_);let⟨H1,I1,q1⟩:=kq
 cases d with
 |true=>exact ha π s1 σ H1 D I1 q1
 |false=>exact hb π s1 σ H1 D I1 q1
end
abbrev TG:=V->St->Hp->(St->Hp->Prop)->Prop
abbrev TGs:=List V->St->Hp->(St->Hp->Prop)->Prop
def PG(X:Cx)(target:AO)(t:TG):Prop:=
 ∀(π:List (AH×B1)) (s:AI) (σ:St) (H:Hp) (v:V) (u:AE) (Q:St->Hp->Prop),Inv X π σ H s->RelV v u->t v σ H Q ->
  AZ (model X.prog X.w) X.A (assign target X.env u) (λ_ s'=>∃σ' H',Inv X π σ' H' s'/\Q σ' H') X.xe s
def PGs(X:Cx)(ts:List AO)(t:TGs):Prop:=
 ∀(π:List (AH×B1)) (s:AI) (σ:St) (H:Hp) (vs:List V) (us:List AE) (Q:St->Hp->Prop),Inv X π σ H s->Vals vs us->t vs σ H Q ->
  AZ (model X.prog X.w) X.A (assignInOrder ((assignEach ts X.env).map (·.2)) us) (λ_ s'=>∃σ' H',Inv X π σ' H' s'/\Q σ' H') X.xe s
abbrev ycW:=V->V->V->Hp->(Hp->Prop)->Prop
def ydQ(X:Cx)(t:ycW):Prop:=
 ∀(π:List (AH×B1)) (s:AI) (σ:St) (H:Hp) (o i v:V) (ov iv u:AE) (Q:Hp->Prop),Inv X π σ H s->RelV o ov->RelV i iv->RelV v u->t o i v H Q ->
  AZ (model X.prog X.w) X.A (setItem ov iv u) (λ_ s'=>∃H',Inv X π σ H' s'/\Q H') X.xe s
abbrev TIp:=V->V->Hp->VK->Prop
def PIp(X:Cx)(op:CQ)(t:TIp):Prop:=
 ∀(π:List (AH×B1)) (s:AI) (σ:St) (H:Hp) (x y:V) (v u:AE) (Q:VK),Inv X π σ H s->RelV x v->RelV y u->t x y H Q ->
  AZ (model X.prog X.w) X.A (inplaceOp op v u) (EP X π σ Q) X.xe s
section
variable {X:Cx}{pos:Ba}
def ybp(i:Nat):TG:=λv σ H Q=>Q (σ.set i (AA v)) H
def zdc{i:Nat}{x:AM}(hN:X.N.Nodup)(hi:X.N[i]?=AA x)(hx:Loc X.env.scope x)(hf:X.fn x=AD \/ X.env.scope.names.lookup x=AA .local:=by first|exact .inl rfl|exact .inr rfl|assumption):PG X (.Name x pos) (ybp i):=by
 intro π s σ H v u Q I r h;exact Ej (zN I hN hi hx r (λs' I'=>⟨_,H,I',h⟩) hf)
def yeN:TGs:=λvs σ H Q=>vs=[]/\Q σ H
def yds(t:TG)(u:TGs):TGs:=λvs σ H Q=>∃v r,vs=v::r/\t v σ H λσ' H'=>u r σ' H' Q
def zji:PGs X [] yeN:=by
 intro π s σ H vs us Q I r h;let⟨e,h⟩:=h;subst e
 cases r
 exact Ek ⟨σ,H,I,h⟩
def zd4{e:AO}{es:List AO}{t:TG}{u:TGs}(h1:PG X e t)(h2:PGs X es u)
  (hs:(assignEach (e::es) X.env).map (·.2)=assign e X.env::(assignEach es X.env).map (·.2):=by rfl):PGs X (e::es) (yds t u):=by
 intro π s σ H vs us Q I r h;let⟨v,vr,e1,h⟩:=h;subst e1
 cases r with
 |cons r rr=>
  rw[hs];refine Cy (thn (h1 π s σ H _ _ _ I r h) λ_ s1 kq=>?_);let⟨σ1,H1,I1,q1⟩:=kq;exact h2 π s1 σ1 H1 _ _ Q I1 rr q1
def yeE(K:AB)(n:Nat)(t:TGs):TG:=λv σ H Q=>∃a xs,v=.ref a/\SqT K H a xs/\xs.length=n/\t xs σ H Q
def zhO{es:List AO}{k:Nat}{t:TGs}{n:Nat}(hc:X.calm=AD)(h:PGs X es t)
  (hn:(assignEach es X.env).length=n:=by rfl) (hst:(assignEach es X.env).findIdx? (·.1)=none:=by rfl):PG X (.Tuple es k pos) (yeE X.K n t):=by
 intro π s σ H v u Q I r hw;let⟨a,xs,e1,hq,hl,hw⟩:=hw;subst e1
 cases r
 let⟨its,rv,ht,hz⟩:=I.tuple hq;refine assign_Tuple_tuple (I.ok.hd hc) ht (by simp[hn,<-hl,rv.length]) hst λh' hx=>?_;have I1:Inv X π σ H {s with heap:=h'}:=I.kept (t':=s.toks) λb o e=>hx b o (Ac (AQ e)) e;exact h π _ σ H xs _ Q I1 (by simpa using rv) hw
def ydX(to ti:TE)(t:ycW):TG:=λv σ H Q=>to σ H λo H1=>ti σ H1 λi H2=>t o i v H2 λH3=>Q σ H3
def ze8{o i:AO}{to ti:TE}{t:ycW}(ho:PE X o to)(hi:PE X i ti)(hs:ydQ X t)
  (ha:∀v,assign (.Subscript o i pos) X.env v=(do
   let ov <-holding [v] (eval o X.env)
   let iv <-holding [v,ov] (eval i X.env)
   standAt pos
   holding [v,ov,iv] (setItem ov iv v)
   release [v,ov,iv] []):=by intro _;rfl):PG X (.Subscript o i pos) (ydX to ti t):=by
 intro π s σ H v u Q I r h;rw[ha];refine AJ (By (thn (ho π s σ H _ I h) λov s1 kq=>?_));let⟨x,H1,I1,r1,q1⟩:=kq;refine AJ (By (thn (hi π s1 σ H1 _ I1 q1) λiv s2 kq=>?_));let⟨y,H2,I2,r2,q2⟩:=kq;refine AJ (Cf (AJ (By (thn (hs π s2 σ H2 x y v ov iv u _ I2 r1 r2 r q2) λ_ s3 kq=>?_))));let⟨H3,I3,q3⟩:=kq;exact wpAny_release ⟨σ,H3,I3,q3⟩
def ycT(te:TE)(g:TG):TS:=λD σ H=>te σ H λx H1=>g x σ H1 D.nx
def zfj{tg e:AO}{te:TE}{g:TG}(he:PE X e te)(hg:PG X tg g)(hs:swapsWithSole [tg] e pos.line X.env=pure false:=by rfl)(hw:swappedStores [tg] e X.env=pure none:=by rfl)
  (h1:(assignEach [tg] X.env).map (·.2)=[assign tg X.env]:=by rfl):PS X (.Assign [tg] e pos) (ycT te g):=by
 intro π s σ H D I h;refine wpAny_Assign_stores (thn (he π s σ H _ I h) λv s1 kq=>?_) hs hw;let⟨x,H1,I1,r1,q1⟩:=kq;rw[h1];exact thn (hg π s1 σ H1 x v _ I1 r1 q1) λ_ s2 q=>q
def zh6{i:Nat}{x:AM}{e:AO}{te:TE}{pos':Ba}(hN:X.N.Nodup)(hi:X.N[i]?=AA x)(hx:Loc X.env.scope x)(he:PE X e te)(hs:swapsWith e (AA (.Name x pos')) pos.line X.env=pure false:=by rfl)(hf:X.fn x=AD \/ X.env.scope.names.lookup x=AA .local:=by first|exact .inl rfl|exact .inr rfl|assumption):
  PS X (.Assign [.Name x pos'] e pos) (ycT te (ybp i)):=by
 intro π s σ H D I h;refine wpAny_Assign_Name (thn (he π s σ H _ I h) λv s1 kq=>?_) hs;let⟨y,H1,I1,r1,q1⟩:=kq;exact zN I1 hN hi hx r1 (λs2 I2=>⟨_,H1,I2,q1⟩) hf
def yeb(i j:Nat)(ta:TA):TS:=λD σ H=>ta σ H λvs H1=>∃v w,vs=[v,w]/\D.nx ((σ.set i (AA v)).set j (AA w)) H1
def zhv{i j:Nat}{x y:AM}{a b:AO}{ta:TA}{px py pt:Ba}{kt k2 pt2}(hc:X.calm=AD)(hN:X.N.Nodup)(hi:X.N[i]?=AA x)(hj:X.N[j]?=AA y)(hij:i≠j)
  (hx:X.env.scope.names.lookup x=AA .local) (hy:X.env.scope.names.lookup y=AA .local) (ha:PA X [a,b] ta)
  (hw:swappedStores [.Tuple [.Name x px,.Name y py] kt pt] (.Tuple [a,b] k2 pt2) X.env=pure (AA [x,y]))
  (hs:swapsWithSole [.Tuple [.Name x px,.Name y py] kt pt] (.Tuple [a,b] k2 pt2) pos.line X.env=pure false:=by rfl):
  PS X (.Assign [.Tuple [.Name x px,.Name y py] kt pt] (.Tuple [a,b] k2 pt2) pos) (yeb i j ta):=by
 intro π s σ H D I h;rw[exec_Assign_arm];refine AJ (Cf ?_);rw[hs];refine AJ (AT ?_);rw[if_neg ⋯];refine AJ (Tuple_ (thn (ha _ π s σ H _ I h) λus s1 kq=>?_));let⟨vs,H1,I1,r1,q1⟩:=kq;let⟨v,w,e1,q1⟩:=q1;subst e1;obtain⟨u1,u2,rfl,rv,rw'⟩:∃u1 u2,us=[u1,u2]/\RelV v u1/\RelV w u2:=by
  cases r1 with
  |cons p q=>
   cases q with
   |cons p' q'=>
    cases q'
    exact⟨_,_,rfl,p,p'⟩
 refine BO ?_ (by show 2<=sizeLine;decide);have I2:Inv X π σ H1 {s1 with heap:=s1.heap.push {cls:=.type "tuple",data:=.seq [u1,u2].toArray} }:=I1.kept (t':=s1.toks) λb o e=>AN _ e;rw[hw];refine AJ (AT ?_);show AZ (model X.prog X.w) X.A (do rule "assign.swapped-stores";let items <-unpackItems (.ref s1.heap.objs.size) 2 AC;assignInOrder [λv=>bindName X.env y v,λv=>bindName X.env x v] items.reverse;pure Fg) _ _ _;refine AJ (E9 (AJ (unpackItems_tuple (items:=#[u1,u2]) (I.ok.hd hc) (IsTup.new s1.heap _) λh' hx'=>?_)));have I3:=I2.kept (h':=h') (t':=s1.toks) λb o e=>hx' b o (Ac (AQ e)) e;show AZ _ _ (assignInOrder [λv=>bindName X.env y v,λv=>bindName X.env x v] [u2,u1] >>= λ_=>pure Fg) _ _ _;refine AJ (Cy (wpAny_bindName (zN I3 hN hj (.inl hy) rw' (λs2 I4=>?_) (.inr hy))));refine Cy (wpAny_bindName (zN I4 hN hi (.inl hx) rv (λs3 I5=>Ek (AT ?_)) (.inr hx)));rw[List.set_comm _ _ (B9 hij)]at I5;exact⟨_,H1,I5,q1⟩
def yfB(i:Nat)(te:TE)(ti:TIp):TS:=λD σ H=>∃x,σ[i]?=AA (AA x)/\te σ H λy H1=>ti x y H1 λz H2=>D.nx (σ.set i (AA z)) H2
def zfe{i:Nat}{x:AM}{e:AO}{te:TE}{op:CQ}{ti:TIp}{pos':Ba}(hN:X.N.Nodup)(hi:X.N[i]?=AA x)(hx:Loc X.env.scope x)(he:PE X e te)(ho:PIp X op ti)(hf:X.fn x=AD \/ X.env.scope.names.lookup x=AA .local:=by first|exact .inl rfl|exact .inr rfl|assumption):
  PS X (.AugAssign (.Name x pos') op e pos) (yfB i te ti):=by
 intro π s σ H D I h;let⟨v,e1,h⟩:=h;let⟨m,hn,hl⟩:=I.loc;have vis:Vis X.env.scope x:=by rcases hx with k|k;exact .inl k;exact .inr (.inl k)
 let⟨u,r,l⟩:=hl i x v hi e1 vis;refine wpAny_AugAssign_Name ?_;have go:AZ (model X.prog X.w) X.A (eval e X.env) (λw s₂=>AZ (model X.prog X.w) X.A (inplaceOp op u w) (λr s₃=>AZ (model X.prog X.w) X.A (storeName X.env x r) (λ_=>SP X π D .next) X.xe s₃) X.xe s₂) X.xe s:=by
  refine thn (he π s σ H _ I h) λw s1 kq=>?_;let⟨y,H1,I1,r1,q1⟩:=kq;refine thn (ho π s1 σ H1 v y u w _ I1 r r1 q1) λz s2 kq=>?_;let⟨zv,H2,I2,r2,q2⟩:=kq;exact zN I2 hN hi hx r2 (λs3 I3=>⟨_,H2,I3,q2⟩) hf
 rcases l with⟨hk,hm⟩|⟨hk,c,hc,hcell⟩
 .exact ED I.ok.kind hk hn hm go
 .rcases hk with hk|hk
  .exact ES I.ok.kind hk hc hcell go
  .rcases hx with k|k
   .have:X.env.scope.names.lookup x=AA .free:=hk;rw[k]at this;cases this
   .have:X.env.scope.names.lookup x=AA .free:=hk;rw[k]at this;cases this
def ipI(f:Int->Int->Int):TIp:=λx y H Q=>∃i j,x=.int i/\y=.int j/\Q (.int (f i j)) H
def ziH:PIp X .Add (ipI λi j=>i+j):=by
 intro π s σ H x y v u Q I r1 r2 h;let⟨i,j,e1,e2,q⟩:=h;subst e1;subst e2;let⟨t,rfl⟩:=r1;let⟨t',rfl⟩:=r2;exact FQ ⟨.int _,H,I.tok _,⟨_,rfl⟩,q⟩
end
section
variable {X:Cx}{pos:Ba}
def ycD(c:TT)(tb:TS):TS:=λD σ H=>∃W:Nat->St->Hp->Prop,(∃m,W m σ H)/\∀m σ H,W m σ H ->
 c σ H λb H1=>if b=AD then ∃N:St->Hp->Prop,(∀σ' H',N σ' H'->∃m',m' < m/\W m' σ' H')/\tb {D with nx:=N,ct:=N,bk:=D.nx} σ H1 else D.nx σ H1
def zey{c:AO}{body:List BS}{tc:TT}{tb:TS}(hp:D2 (model X.prog X.w) X.A X.env X.xe)(hc:PT X c tc)(hb:PSs X body tb):PS X (.While c body [] pos) (ycD tc tb):=by
 intro π s σ H D I h;let⟨W,⟨m0,w0⟩,turn⟩:=h;refine wpAny_While (codeAny_whileLoop (λn s'=>∃σ' H',Inv X π σ' H' s'/\W n σ' H') ?_ m0 ⟨σ,H,I,w0⟩)
 rintro n s1 ⟨σ1,H1,I1,w1⟩
 refine Bd hp (thn (hc π s1 σ1 H1 _ I1 (turn n σ1 H1 w1)) λb s2 kq=>?_);let⟨H2,I2,q2⟩:=kq
 cases b with
 |true=>
  let⟨N,hN,q2⟩:=q2;rw[if_pos rfl];refine Bd hp (thn (hb π s2 σ1 H2 _ I2 q2) λf s3 q3=>?_)
  cases f with
  |next=>
   let⟨σ3,H3,I3,n3⟩:=q3;let⟨m',hm,w3⟩:=hN σ3 H3 n3;exact⟨m',hm,σ3,H3,I3,w3⟩
  |cont=>
   let⟨σ3,H3,I3,n3⟩:=q3;let⟨m',hm,w3⟩:=hN σ3 H3 n3;exact⟨m',hm,σ3,H3,I3,w3⟩
  |brk=>exact q3
  |ret v=>exact q3
 |false=>
  rw[if_neg Ah];exact Dp ⟨σ1,H2,I2,q2⟩
end
structure It where
 go:Nat->Hp->Prop
 yld:Nat->Hp->V->Hp->Prop
 stop:Nat->Hp->Prop
def yaL(X:Cx)(π:List (AH×B1))(H:Hp)(b:AH):Prop:=
 H b=AC/\b≠X.env.locals/\b∉X.fs/\(b∈X.ex \/ X.s₀.heap.objs.size<=b)/\(∀x c,X.env.cells.lookup x=AA c->c≠b)/\∀p∈X.pn++π,p.1≠b
theorem Inv.fpOk{X:Cx}{π:List (AH×B1)}{σ:St}{H H':Hp}{s:AI}{b:AH}(I:Inv X π σ H s)(hb:s.heap.objs.size<=b)(hn:H' b=AC):yaL X π H' b:=by
 refine⟨hn,Db (A0 I.lt hb),I.nofs hb,.inr (BC I.sz hb),λx c e z=>?_,λp hp z=>?_⟩
 .let⟨v,q⟩:=I.cell x c e;exact absurd (A0 q.lt (by rw[z];exact hb)) (Bm _)
 .exact absurd (A0 (AQ (I.pin p hp).1) (by rw[z];exact hb)) (Bm _)
structure Turn(P:A1)(w:A8)(K:AB)(tg:AO)(J:It)(fp:List AH)(it:AH)(tn:Nat->Aq->Prop):Prop where
 mem:it∈fp
 obj:∀i h,tn i h->∀b∈fp,∃o,h.get? b=AA o/\∀v,o.data ≠ .cell v
 keep:∀i h h',tn i h->(∀b∈fp,∀o,h.get? b=AA o->h'.get? b=AA o)->tn i h'
 item:∀(X:Cx),X.prog=P->X.w=w->X.K=K->X.calm=AD->∀(i:Nat) (π:List (AH×B1)) (s:AI) (σ:St) (H:Hp) (E:AE->AI->Prop),Inv X π σ H s->(∀b∈fp,yaL X π H b)->tn i s.heap->J.go i H ->
  AZ (model P w) X.A (pyNext (.ref it)) (λr s1=>∃u,r=AA u /\
   AZ (model P w) X.A (letOwnedTupleGo tg (.ref it) u) (λ_ s2=>∃x H',Inv X π σ H' s2/\RelV x u/\J.yld i H x H'/\tn (i+1) s2.heap/\∀b∈fp,H' b=AC) E s1) E s
 done:∀(X:Cx),X.prog=P->X.w=w->X.K=K->X.calm=AD->∀(i:Nat) (π:List (AH×B1)) (s:AI) (σ:St) (H:Hp) (E:AE->AI->Prop),Inv X π σ H s->(∀b∈fp,yaL X π H b)->tn i s.heap->J.stop i H ->
  AZ (model P w) X.A (pyNext (.ref it)) (λr s1=>r=AC/\Inv X π σ H s1) E s
 self:∀(A:A9) (i:Nat) (s:AI) (Q:AE->AI->Prop) (E:AE->AI->Prop),tn i s.heap->Q (.ref it) s->AZ (model P w) A (pyIter (.ref it)) Q E s
abbrev TI:=St->Hp->(It->Hp->Prop)->Prop
def PIE(X:Cx)(π:List (AH×B1))(σ:St)(tg:AO)(R:It->Hp->Prop)(itv:AE)(s2:AI):Prop:=
 ∃(it:AH) (fp:List AH) (tn:Nat->Aq->Prop) (J:It) (H':Hp),itv=.ref it/\Inv X π σ H' s2/\Turn X.prog X.w X.K tg J fp it tn/\tn 0 s2.heap/\(∀b∈fp,yaL X π H' b)/\R J H'
def PI(X:Cx)(tg iter:AO)(wi:TI):Prop:=
 ∀(π:List (AH×B1)) (s:AI) (σ:St) (H:Hp) (R:It->Hp->Prop),Inv X π σ H s->wi σ H R ->
  AZ (model X.prog X.w) X.A (eval iter X.env) (λv s1=>AZ (model X.prog X.w) X.A (pyIter v) (PIE X π σ tg R) X.xe s1) X.xe s
def zgA{M:Model}{A:A9}{E:AE->AI->Prop}{s:AI}{tg:AO}{it:AH}{u:AE}{o:B1}{n:String}{vs:Array AE}{Q:Unit->AI->Prop}(ho:s.heap.get? it=AA o)(hc:o.cls=.type n)(hd:o.data=.fields vs)
  (hn:["enumerate","zip","dict_itemiterator","dict_reverseitemiterator","odict_iterator","itertools.zip_longest","itertools.pairwise"].contains n=AF) (hQ:Q () s):AZ M A (letOwnedTupleGo tg (.ref it) u) Q E s:=by
 unfold letOwnedTupleGo
 cases tg<;>first
  |exact AT hQ
  | (cases u<;>first
    |exact AT hQ
    | (refine AJ (wpAny_load ho ?_)
       rw[hc,hd];show AZ M A (if (["enumerate","zip","dict_itemiterator","dict_reverseitemiterator","odict_iterator","itertools.zip_longest","itertools.pairwise"].contains n&&vs[0]? == AA (rawInt _))=AD then _ else _) Q E s;rw[if_neg (by intro h;rw[hn,Bq]at h;cases h)];exact AT hQ))
def Itl(K:AB)(a:AH):It:=
 ⟨λi H=>∃xs x,SqL K H a xs/\xs[i]?=AA x,λi H x H'=>H'=H/\∀xs,SqL K H a xs->xs[i]?=AA x,λi H=>∃xs,SqL K H a xs/\xs.length<=i⟩
def Itt(K:AB)(a:AH):It:=
 ⟨λi H=>∃xs x,SqT K H a xs/\xs[i]?=AA x,λi H x H'=>H'=H/\∀xs,SqT K H a xs->xs[i]?=AA x,λi H=>∃xs,SqT K H a xs/\xs.length<=i⟩
def Itr(lo:Int)(n:Nat):It:=⟨λi _=>i<n,λi H x H'=>H'=H/\x=.int (lo+i),λi _=>n<=i⟩
def zdg{P:A1}{w:A8}{K:AB}{tg:AO}(a it:AH):Turn P w K tg (Itl K a) [it] it (λi h=>h.IsListIter it a i) where
 mem:=by simp
 obj:=λi h st b hb=>by
  have e:b=it:=by simpa using hb
  subst e;let⟨o,e,c,d⟩:=st;exact⟨o,e,λv z=>by rw[d]at z;cases z⟩
 keep:=λi h h' st k=>st.at λo e=>k it (by simp) o e
 item:=by
  intro X hP hw hK hc i π s σ H E I hf st hg;subst hP hw hK;let⟨xs,x,hq,hx⟩:=hg;let⟨its,rv,p,hz⟩:=I.list hq;let⟨u,hu,ru⟩:=rv.get hx;let⟨f0,f1,f2,f3,f4,f5⟩:=hf it (by simp);refine wpAny_pyNext_list_item st p.isList (x:=u) (by simpa using hu) λh' st' sb=>?_;have I1:Inv X π σ H {s with heap:=h'}:=I.turned (t':=s.toks) (λb o hb e=>(sb.2 b hb).trans e) f0 f1 f3 f4 f5;let⟨o,e,c,d⟩:=id st';exact⟨u,rfl,zgA (s:={s with heap:=h'}) e c d ⋯ ⟨x,H,I1,ru,⟨rfl,λys hy=>by rw[I.list_inj hy hq];exact hx⟩,st',λb hb=>(hf b hb).1⟩⟩
 done:=by
  intro X hP hw hK hc i π s σ H E I hf st hg;subst hP hw hK;let⟨xs,hq,hx⟩:=hg;let⟨its,rv,p,hz⟩:=I.list hq;let⟨f0,f1,f2,f3,f4,f5⟩:=hf it (by simp);have hl:=rv.length;exact wpAny_pyNext_list_end (I.ok.hd hc) st p.isList (by simp;lia) λh' eb=>⟨rfl,I.turned (t':=s.toks) (λb o hb e=>eb b o hb e) f0 f1 f3 f4 f5⟩
 self:=λ_ _ _ _ _ st h=>wpAny_pyIter_listiter st h
def zcz{P:A1}{w:A8}{K:AB}{tg:AO}(a it:AH):Turn P w K tg (Itt K a) [it] it (λi h=>h.IsTupleIter it a i) where
 mem:=by simp
 obj:=λi h st b hb=>by
  have e:b=it:=by simpa using hb
  subst e;let⟨o,e,c,d⟩:=st;exact⟨o,e,λv z=>by rw[d]at z;cases z⟩
 keep:=λi h h' st k=>st.at λo e=>k it (by simp) o e
 item:=by
  intro X hP hw hK hc i π s σ H E I hf st hg;subst hP hw hK;let⟨xs,x,hq,hx⟩:=hg;let⟨its,rv,p,hz⟩:=I.tuple hq;let⟨u,hu,ru⟩:=rv.get hx;let⟨f0,f1,f2,f3,f4,f5⟩:=hf it (by simp);refine D3 st (show s.heap.IsTuple a its.toArray from p) (x:=u) (by simpa using hu) λh' st' sb=>?_;have I1:Inv X π σ H {s with heap:=h'}:=I.turned (t':=s.toks) (λb o hb e=>(sb.2 b hb).trans e) f0 f1 f3 f4 f5;let⟨o,e,c,d⟩:=id st';exact⟨u,rfl,zgA (s:={s with heap:=h'}) e c d ⋯ ⟨x,H,I1,ru,⟨rfl,λys hy=>by rw[I.tuple_inj hy hq];exact hx⟩,st',λb hb=>(hf b hb).1⟩⟩
 done:=by
  intro X hP hw hK hc i π s σ H E I hf st hg;subst hP hw hK;let⟨xs,hq,hx⟩:=hg;let⟨its,rv,p,hz⟩:=I.tuple hq;let⟨f0,f1,f2,f3,f4,f5⟩:=hf it (by simp);have hl:=rv.length;exact Dc (I.ok.hd hc) st (show s.heap.IsTuple a its.toArray from p) (by simp;lia) λh' eb=>⟨rfl,I.turned (t':=s.toks) (λb o hb e=>eb b o hb e) f0 f1 f3 f4 f5⟩
 self:=λ_ _ _ _ _ st h=>wpAny_pyIter_tupleiter st h
def zcy{P:A1}{w:A8}{K:AB}{tg:AO}(it:AH)(lo:Int)(n:Nat):Turn P w K tg (Itr lo n) [it] it (λi h=>IsRangeIter h it (lo+(i:Nat)*1) ((n:Int)-(i:Nat)) 1) where
 mem:=by simp
 obj:=λi h st b hb=>by
  have e:b=it:=by simpa using hb
  subst e;exact⟨_,st,λv z=>by
   have z':Data.fields _=Data.cell v:=z
   cases z'⟩
 keep:=λi h h' st k=>k it (by simp) _ st
 item:=by
  intro X hP hw hK hc i π s σ H E I hf st hg;subst hP hw hK;let⟨f0,f1,f2,f3,f4,f5⟩:=hf it (by simp);have W:=Walks.range (prog:=X.prog) (w:=X.w) (I.ok.hd hc) it lo 1 n;refine W.item i s _ _ hg st λv h' tk hv st' kk=>?_;let⟨t,rfl⟩:=hv;have I1:Inv X π σ H {s with heap:=h',toks:=tk}:=I.turned (λb o hb e=>kk b o (by simpa using hb) e) f0 f1 f3 f4 f5;refine⟨_,rfl,zgA (s:={s with heap:=h',toks:=tk}) (n:="range_iterator") st' rfl rfl ⋯ ⟨.int (lo+i),H,I1,⟨t,?_⟩,⟨rfl,rfl⟩,st',λb hb=>(hf b hb).1⟩⟩;rw[GH]
 done:=by
  intro X hP hw hK hc i π s σ H E I hf st hg;subst hP hw hK;let⟨f0,f1,f2,f3,f4,f5⟩:=hf it (by simp);exact wpAny_pyNext_range_end (I.ok.hd hc) st (by have:n<=i:=hg;lia) λh' eb=>⟨rfl,I.turned (t':=s.toks) (λb o hb e=>eb b o hb e) f0 f1 f3 f4 f5⟩
 self:=λ_ _ _ _ _ st h=>wpAny_pyIter_rangeiter st h
section
variable {X:Cx}{tg:AO}
def zce{π:List (AH×B1)}{σ:St}{H:Hp}{s:AI}{R:It->Hp->Prop}{E:AE->AI->Prop}{lo hi:Int}{t u v:GT}{tk:Nat}(I:Inv X π σ H s)(h1:-(2^62)<=lo)(h2:lo<2^62)(h3:-(2^62)<=hi)(h4:hi<2^62)
  (q:R (Itr lo (hi-lo).toNat) H):AZ (model X.prog X.w) X.A (pyIter (.ref s.heap.objs.size)) (PIE X π σ tg R) E {s with heap:=s.heap.push {cls:=.type "range",data:=.fields #[.int lo t,.int hi u,.int 1 v]},toks:=tk}:=by
 refine wpAny_pyIter_range (IsRange.new ..) (small_one h1 h2 h3 h4) ?_;have I1:Inv X π σ H {s with heap:=s.heap.push {cls:=.type "range",data:=.fields #[.int lo t,.int hi u,.int 1 v]},toks:=tk}:=I.kept λb o e=>AN _ e;refine⟨(s.heap.push {cls:=.type "range",data:=.fields #[.int lo t,.int hi u,.int 1 v]}).objs.size,[(s.heap.push {cls:=.type "range",data:=.fields #[.int lo t,.int hi u,.int 1 v]}).objs.size],_,_,H,rfl,
  I1.kept (t':=tk) λb o e=>AN _ e,zcy _ lo (hi-lo).toNat,?_,λb hb=>?_,q⟩
 .have e1:lo+((0:Nat):Int)*1=lo:=by simp
  have e2:(((hi-lo).toNat:Nat):Int)-((0:Nat):Int)=Fh lo hi 1:=by rw[rangeSize_one];split<;>lia
  show IsRangeIter _ _ (lo+((0:Nat):Int)*1) ((((hi-lo).toNat:Nat):Int)-((0:Nat):Int)) 1;rw[e1,e2];exact A3 _ rfl
 .have e:b=(s.heap.push {cls:=.type "range",data:=.fields #[.int lo t,.int hi u,.int 1 v]}).objs.size:=by simpa using hb
  subst e;exact I1.fpOk (AU _) (I1.hok.fresh (AU _))
def ydg(ta:TA):TI:=λσ H R=>ta σ H λvs H1=>∃j:Int,vs=[.int j]/\-(2^62)<=j/\j<2^62/\R (Itr 0 j.toNat) H1
def yc6(ta:TA):TI:=λσ H R=>ta σ H λvs H1=>∃i j:Int,vs=[.int i,.int j]/\(-(2^62)<=i/\i<2^62/\-(2^62)<=j/\j<2^62)/\R (Itr i (j-i).toNat) H1
def zdy{a:AO}{ta:TA}{p pos:Ba}(hg:Gl X "range")(hm:X.mg "range"=AC)(ha:PA X [a] ta)(hs:starEach [a] X.env=[(AF,eval a X.env)]:=by rfl):PI X tg (.Call (.Name "range" p) [a] [] pos) (ydg ta):=by
 intro π s σ H R I h;refine Call_ (zaU I hg hm boot_range (B3 (thn (ha pos π s σ H _ I h) λus s1 kq=>?_) hs rfl));let⟨vs,H1,I1,r1,q1⟩:=kq;let⟨j,e,q1,q2,q⟩:=q1;subst e
 cases r1 with
 |cons r rr=>
  cases rr
  let⟨t,rfl⟩:=r;exact call_range_1 (zce I1 ∅ ∅ q1 q2 (by simpa using q))
def zdk{a b:AO}{ta:TA}{p pos:Ba}(hg:Gl X "range")(hm:X.mg "range"=AC)(ha:PA X [a,b] ta)(hs:starEach [a,b] X.env=[(AF,eval a X.env),(AF,eval b X.env)]:=by rfl)(hs2:starEach [b] X.env=[(AF,eval b X.env)]:=by rfl):
  PI X tg (.Call (.Name "range" p) [a,b] [] pos) (yc6 ta):=by
 intro π s σ H R I h;refine Call_ (zaU I hg hm boot_range (B3 (thn (ha pos π s σ H _ I h) λus s1 kq=>?_) (by rw[hs,hs2]) (by rw[hs2];rfl)));let⟨vs,H1,I1,r1,q1⟩:=kq;let⟨i,j,e,⟨q1,q2,q3,q4⟩,q⟩:=q1;subst e
 cases r1 with
 |cons r rr=>
  cases rr with
  |cons r' rr=>
   cases rr
   let⟨t,rfl⟩:=r;let⟨t',rfl⟩:=r';exact call_range_2 (zce I1 q1 q2 q3 q4 q)
def yfy(wi:TI)(g:TG)(tb:TS):TS:=λD σ H=>wi σ H λJ H1=>∃W:Nat->Nat->St->Hp->Prop,(∃m,W 0 m σ H1)/\∀i m σ H,W i m σ H ->
 (J.stop i H/\D.nx σ H) \/ (J.go i H/\∃N:St->Hp->Prop,(∀σ' H',N σ' H'->∃m',m' < m/\W (i+1) m' σ' H')/\∀x H',J.yld i H x H'->g x σ H' λσ2 H2=>tb {D with nx:=N,ct:=N,bk:=D.nx} σ2 H2)
def yaI(fp:List AH)(h:Aq):List (AH×B1):=fp.filterMap λb=>(h.get? b).map λo=>(b,o)
def zO{fp:List AH}{h:Aq}{b:AH}{o:B1}(hb:b∈fp)(e:h.get? b=AA o):(b,o)∈yaI fp h:=Cz.mpr ⟨b,hb,by rw[e];rfl⟩
def zdF{fp:List AH}{h:Aq}{p:AH×B1}(hp:p∈yaI fp h):p.1∈fp/\h.get? p.1=AA p.2:=by
 let⟨b,hb,e⟩:=Cz.mp hp
 cases q:h.get? b with
 |none=>rw[q]at e;cases e
 |some o=>
  rw[q]at e;have e':(b,o)=p:=AW e;subst e';exact⟨hb,q⟩
theorem Inv.pinned{π:List (AH×B1)}{σ:St}{H:Hp}{s:AI}{fp:List AH}(I:Inv X π σ H s)(hf:∀b∈fp,yaL X π H b)(ho:∀b∈fp,∃o,s.heap.get? b=AA o/\∀v,o.data ≠ .cell v):Inv X (π++yaI fp s.heap) σ H s:=
 I.pins_of λp hp=>(BY.mp hp).elim (λz=>I.pin p (Ad _ z)) λz=>by
  let⟨hb,e⟩:=zdF z;let⟨f0,f1,f2,_⟩:=hf p.1 hb;let⟨o,e',d⟩:=ho p.1 hb;rw[e]at e';cases e';exact⟨e,f0,f1,f2,d⟩
theorem Inv.unpinned{π pl:List (AH×B1)}{σ:St}{H:Hp}{s:AI}(I:Inv X (π++pl) σ H s):Inv X π σ H s:=I.pins_of λp hp=>I.pin p (Ad _ (EC _ hp))
def zhb{iter:AO}{body:List BS}{wi:TI}{g:TG}{tb:TS}{pos:Ba}(hp:D2 (model X.prog X.w) X.A X.env X.xe)(hc:X.calm=AD)(hi:PI X tg iter wi)(hg:PG X tg g)(hb:PSs X body tb)
  (hs:∀x,foldedSetIterable iter X.env x=pure x:=by intro _;rfl):PS X (.For tg iter body [] pos) (yfy wi g tb):=by
 intro π s σ H D I h;refine wpAny_For (thn (hi π s σ H _ I h) λv s1 h1=>thn h1 λitv s2 h2=>?_) hs;let⟨it,fp,tn,J,H2,e,I2,T,st2,f2,W,⟨m0,w0⟩,turn⟩:=h2;subst e;have stat:∀{H':Hp},(∀b∈fp,H' b=AC)->∀b∈fp,yaL X π H' b:=λhn b hb=>⟨hn b hb,(f2 b hb).2⟩;refine codeAny_forLoop_any (λn s'=>∃i σ' H',Inv X π σ' H' s'/\tn i s'.heap/\(∀b∈fp,H' b=AC)/\W i n σ' H') ?_ m0 ⟨0,σ,H2,I2,st2,λb hb=>(f2 b hb).1,w0⟩
 rintro n s3 ⟨i,σ3,H3,I3,st3,fr3,w3⟩
 rcases turn i n σ3 H3 w3 with⟨stop,qn⟩|⟨go,N,hN,step⟩
 .refine Bd hp (thn (T.done X rfl rfl rfl hc i π s3 σ3 H3 X.xe I3 (stat fr3) st3 stop) λr s4 kq=>?_);let⟨hr,I4⟩:=kq;subst hr;exact Dp ⟨σ3,H3,I4,qn⟩
 .refine Bd hp (thn (T.item X rfl rfl rfl hc i π s3 σ3 H3 X.xe I3 (stat fr3) st3 go) λr s4 kq=>?_);let⟨u,hr,h4⟩:=kq;subst hr;refine Bd hp (thn h4 λ_ s5 kq=>?_);let⟨x,H5,I5,r5,y5,st5,fr5⟩:=kq;have I5':=I5.pinned (stat fr5) (T.obj _ _ st5);refine Bd hp (thn (hg _ s5 σ3 H5 x u _ I5' r5 (step x H5 y5)) λ_ s6 kq=>?_);let⟨σ6,H6,I6,q6⟩:=kq;refine Bd hp (thn (hb _ s6 σ6 H6 _ I6 q6) λf s7 q7=>?_);have again:∀{σ7:St} {H7:Hp},Inv X (π++yaI fp s5.heap) σ7 H7 s7->N σ7 H7->∃m,m<n/\∃i σ' H',Inv X π σ' H' s7/\tn i s7.heap/\(∀b∈fp,H' b=AC)/\W i m σ' H':=λ{σ7 H7} I7 n7=>by
   let⟨m',hm,w7⟩:=hN σ7 H7 n7;refine⟨m',hm,i+1,σ7,H7,I7.unpinned,T.keep _ _ _ st5 λb hb o e=>(I7.pin (b,o) (Ad _ (Ad _ (zO hb e)))).1,λb hb=>?_,w7⟩;let⟨o,e,d⟩:=T.obj _ _ st5 b hb;exact(I7.pin (b,o) (Ad _ (Ad _ (zO hb e)))).2.1
  cases f with
  |next=>let⟨σ7,H7,I7,n7⟩:=q7;exact again I7 n7
  |cont=>let⟨σ7,H7,I7,n7⟩:=q7;exact again I7 n7
  |brk=>let⟨σ7,H7,I7,q7⟩:=q7;exact⟨σ7,H7,I7.unpinned,q7⟩
  |ret v=>let⟨x7,σ7,H7,I7,r7,q7⟩:=q7;exact⟨x7,σ7,H7,I7.unpinned,r7,q7⟩
end
abbrev R2:=V->V->Hp->VK->Prop
def OpR(X:Cx)(f:AE->AE->GJ AE)(r:R2):Prop:=
 ∀(π:List (AH×B1)) (s:AI) (σ:St) (H:Hp) (x y:V) (v u:AE) (Q:VK),Inv X π σ H s->RelV x v->RelV y u->r x y H Q ->
  AZ (model X.prog X.w) X.A (f v u) (EP X π σ Q) X.xe s
def UnR(X:Cx)(f:AE->GJ AE)(r:V->Hp->VK->Prop):Prop:=
 ∀(π:List (AH×B1)) (s:AI) (σ:St) (H:Hp) (x:V) (v:AE) (Q:VK),Inv X π σ H s->RelV x v->r x H Q ->
  AZ (model X.prog X.w) X.A (f v) (EP X π σ Q) X.xe s
def yJ(X:Cx)(f:AE)(r:List V->Hp->VK->Prop):Prop:=
 ∀(π:List (AH×B1)) (s:AI) (σ:St) (H:Hp) (xs:List V) (us:List AE) (Q:VK),Inv X π σ H s->Vals xs us->r xs H Q ->
  AZ (model X.prog X.w) X.A (call f us) (EP X π σ Q) X.xe s
def yeP(X:Cx)(r:V->Hp->(Bool->Hp->Prop)->Prop):Prop:=
 ∀(π:List (AH×B1)) (s:AI) (σ:St) (H:Hp) (x:V) (v:AE) (Q:Bool->Hp->Prop),Inv X π σ H s->RelV x v->r x H Q ->
  AZ (model X.prog X.w) X.A (truthy v) (TP X π σ Q) X.xe s
def tOp(r:R2)(ta tb:TE):TE:=λσ H Q=>ta σ H λx H1=>tb σ H1 λy H2=>r x y H2 Q
def tUn(r:V->Hp->VK->Prop)(ta:TE):TE:=λσ H Q=>ta σ H λx H1=>r x H1 Q
def rI(C:Int->Int->Prop)(g:Int->Int->V):R2:=λx y H Q=>∃i j,x=.int i/\y=.int j/\C i j/\Q (g i j) H
def rI0(g:Int->Int->V):R2:=λx y H Q=>∃i j,x=.int i/\y=.int j/\Q (g i j) H
def rU(g:Int->V):V->Hp->VK->Prop:=λx H Q=>∃i,x=.int i/\Q (g i) H
section
variable {X:Cx}{a b c:AO}{ta tb tc:TE}{pos:Ba}
def zeb(ha:PE X a ta)(hb:PE X b tb){π:List (AH×B1)}{s:AI}{σ:St}{H:Hp}{R:V->V->Hp->Prop}(I:Inv X π σ H s)
  (h:ta σ H λx H1=>tb σ H1 λy H2=>R x y H2) {Q:AE->AI->Prop} {f:AE->AE->GJ AE}
  (hf:∀v u s2 x y H2,Inv X π σ H2 s2->RelV x v->RelV y u->R x y H2->AZ (model X.prog X.w) X.A (f v u) Q X.xe s2):
  AZ (model X.prog X.w) X.A (eval a X.env) (λv s₁=>AZ (model X.prog X.w) X.A (eval b X.env) (λu s₂=>AZ (model X.prog X.w) X.A (f v u) Q X.xe s₂) X.xe s₁) X.xe s:=by
 refine thn (ha π s σ H _ I h) λv s1 kq=>?_;let⟨x,H1,I1,r1,q1⟩:=kq;refine thn (hb π s1 σ H1 _ I1 q1) λu s2 kq=>?_;let⟨y,H2,I2,r2,q2⟩:=kq;exact hf v u s2 x y H2 I2 r1 r2 q2
def zg2{op:CQ}{r:R2}(ho:OpR X (binaryOp op) r)(ha:PE X a ta)(hb:PE X b tb):PE X (.BinOp a op b pos) (tOp r ta tb):=by
 intro π s σ H Q I h;exact wpAny_BinOp (zeb ha hb I h λv u s2 x y H2 I2 rx ry q=>ho π s2 σ H2 x y v u Q I2 rx ry q)
def zi6{op:UnaryOp}{r:V->Hp->VK->Prop}(ho:UnR X (unaryOp op) r)(ha:PE X a ta):PE X (.UnaryOp op a pos) (tUn r ta):=by
 intro π s σ H Q I h;exact UnaryOp_ (thn (ha π s σ H _ I h) λv s1 ⟨x,H1,I1,r1,q1⟩=>ho π s1 σ H1 x v Q I1 r1 q1)
theorem opI{f:AE->AE->GJ AE}{C:Int->Int->Prop}{g:Int->Int->Int}
  (rule:∀(i j:Int) (t u:GT) (s:AI) (Q:AE->AI->Prop) (E:AE->AI->Prop),C i j->Q (.int (g i j) s.toks) {s with toks:=s.toks+1}->AZ (model X.prog X.w) X.A (f (.int i t) (.int j u)) Q E s):
  OpR X f (rI C λi j=>.int (g i j)):=by
 intro π s σ H x y v u Q I rx ry h;let⟨i,j,rfl,rfl,hc,q⟩:=h;let⟨t,rfl⟩:=rx;let⟨t',rfl⟩:=ry;exact rule i j t t' s _ _ hc ⟨.int (g i j),H,I.tok _,⟨_,rfl⟩,q⟩
def zfr{f:AE->AE->GJ AE}{g:Int->Int->Int}
  (rule:∀(i j:Int) (t u:GT) (s:AI) (Q:AE->AI->Prop) (E:AE->AI->Prop),Q (.int (g i j) s.toks) {s with toks:=s.toks+1}->AZ (model X.prog X.w) X.A (f (.int i t) (.int j u)) Q E s):
  OpR X f (rI0 λi j=>.int (g i j)):=by
 intro π s σ H x y v u Q I rx ry h;let⟨i,j,rfl,rfl,q⟩:=h;let⟨t,rfl⟩:=rx;let⟨t',rfl⟩:=ry;exact rule i j t t' s _ _ ⟨.int (g i j),H,I.tok _,⟨_,rfl⟩,q⟩
def zdu{f:AE->AE->GJ AE}{g:Int->Int->Bool}
  (rule:∀(i j:Int) (t u:GT) (s:AI) (Q:AE->AI->Prop) (E:AE->AI->Prop),Q (.bool (g i j)) s->AZ (model X.prog X.w) X.A (f (.int i t) (.int j u)) Q E s):
  OpR X f (rI0 λi j=>.bl (g i j)):=by
 intro π s σ H x y v u Q I rx ry h;let⟨i,j,rfl,rfl,q⟩:=h;let⟨t,rfl⟩:=rx;let⟨t',rfl⟩:=ry;exact rule i j t t' s _ _ ⟨.bl (g i j),H,I,rfl,q⟩
def ycO(i j:Int):Prop:=0<=j/\j<=1000000/\i.natAbs<2^64
def ybT(i j:Int):Prop:=(-(2^64)<i/\i<2^64) \/ (-(2^64)<j/\j<2^64)
theorem ybT.ok{i j:Int}(h:ybT i j):IntMulOk i j:=by
 rcases h with⟨h1,h2⟩|⟨h1,h2⟩
 .exact .of_left (intBits_le_64 h1 h2)
 .exact .of_right (intBits_le_64 h1 h2)
def zhd:OpR X (binaryOp .Add) (rI0 λi j=>.int (i+j)):=zfr λ_ _ _ _ _ _ _ q=>add_int q
def zix:OpR X (binaryOp .Sub) (rI0 λi j=>.int (i-j)):=zfr λ_ _ _ _ _ _ _ q=>sub_int q
def zhz:OpR X (binaryOp .Mult) (rI ybT λi j=>.int (i*j)):=opI λ_ _ _ _ _ _ _ hc q=>mul_int q hc.ok
def ziw:OpR X (binaryOp .Mod) (rI (λ_ j=>0<j) λi j=>.int (i%j)):=opI λi j _ _ _ _ _ hc q=>by
 have h1:(0:Int)<j:=hc;exact mod_int' ∅ (by rw[Int.fmod_eq_emod_of_nonneg i ∅];exact q)
def zhg:OpR X (binaryOp .Pow) (rI ycO λi j=>.int (i^j.toNat)):=opI λ_ _ _ _ _ _ _ hc q=>pow_int_small hc.1 hc.2.1 hc.2.2 q
def zhU:OpR X (binaryOp .LShift) (rI ycO λi j=>.int (i*2^j.toNat)):=opI λ_ _ _ _ _ _ _ hc q=>lshift_int_small hc.1 hc.2.1 hc.2.2 q
def zfy:OpR X (inplaceOp .Mult) (rI ybT λi j=>.int (i*j)):=opI λ_ _ _ _ _ _ _ hc q=>imul_int q hc.ok
theorem unI{f:AE->GJ AE}{g:Int->Int}
  (rule:∀(i:Int) (t:GT) (s:AI) (Q:AE->AI->Prop) (E:AE->AI->Prop),Q (.int (g i) s.toks) {s with toks:=s.toks+1}->AZ (model X.prog X.w) X.A (f (.int i t)) Q E s):
  UnR X f (rU λi=>.int (g i)):=by
 intro π s σ H x v Q I rx h;let⟨i,rfl,q⟩:=h;let⟨t,rfl⟩:=rx;exact rule i t s _ _ ⟨.int (g i),H,I.tok _,⟨_,rfl⟩,q⟩
def zhC:UnR X (unaryOp .USub) (rU λi=>.int (-i)):=unI λ_ _ _ _ _ q=>neg_int q
def zcM:OpR X (binaryOp .Add) (λx y H Q=>∃i k,x=.int i/\y=.bl k/\Q (.int (i+b2i k)) H):=by
 intro π s σ H x y v u Q I rx ry h;let⟨i,k,rfl,rfl,q⟩:=h;let⟨t,rfl⟩:=rx
 cases ry
 exact add_int_bool ⟨.int (i+b2i k),H,I.tok _,⟨_,rfl⟩,q⟩
end
section
variable {X:Cx}{a b c:AO}{ta tb tc:TE}{pos:Ba}
def zb7{π:List (AH×B1)}{σ:St}{H:Hp}{s:AI}{Q:VK}{k k':Bool}(I:Inv X π σ H s)(q:Q (.bl k) H)(e:k=k'):EP X π σ Q (.bool k') s:=by
 subst e;exact⟨.bl k,H,I,rfl,q⟩
def ziO:OpR X (compareOp .Lt) (rI0 λi j=>.bl (decide (i<j))):=zdu λ_ _ _ _ _ _ _ q=>lt_int q
def ziY:OpR X (compareOp .LtE) (rI0 λi j=>.bl (decide (i<=j))):=zdu λ_ _ _ _ _ _ _ q=>le_int q
def ziW:OpR X (compareOp .Gt) (rI0 λi j=>.bl (decide (j<i))):=zdu λ_ _ _ _ _ _ _ q=>gt_int q
def zi7:OpR X (compareOp .GtE) (rI0 λi j=>.bl (decide (j<=i))):=zdu λ_ _ _ _ _ _ _ q=>ge_int q
def zdO:OpR X (compareOp .Lt) (λx y H Q=>∃i j,x=.str i/\y=.str j/\Q (.bl (decide (i.cps.toList<j.cps.toList))) H):=by
 intro π s σ H x y v u Q I rx ry h;let⟨i,j,rfl,rfl,q⟩:=h;let⟨t,rfl⟩:=rx;let⟨t',rfl⟩:=ry;exact lt_str (zb7 I q rfl)
def zcO:OpR X (compareOp .In) (λx y H Q=>∃i j,x=.str i/\y=.str j/\Q (.bl (!(CO j i 0 j.length 1).isEmpty)) H):=by
 intro π s σ H x y v u Q I rx ry h;let⟨i,j,rfl,rfl,q⟩:=h;let⟨t,rfl⟩:=rx;let⟨t',rfl⟩:=ry;exact in_str (zb7 I q rfl)
def zbm:OpR X (compareOp .NotIn) (λx y H Q=>∃i j,x=.str i/\y=.str j/\Q (.bl (!(!(CO j i 0 j.length 1).isEmpty))) H):=by
 intro π s σ H x y v u Q I rx ry h;let⟨i,j,rfl,rfl,q⟩:=h;let⟨t,rfl⟩:=rx;let⟨t',rfl⟩:=ry;exact notIn_str (zb7 I q rfl)
def zgF{op:EX}{r:R2}(ho:OpR X (compareOp op) r)(ha:PE X a ta)(hb:PE X b tb)(hm:behindInMarks op b=AF):PE X (.Compare a [op] [b] pos) (tOp r ta tb):=by
 intro π s σ H Q I h;exact wpAny_Compare1 (zeb ha hb I h λv u s2 x y H2 I2 rx ry q=>ho π s2 σ H2 x y v u Q I2 rx ry q) hm
def ycz(t:TE):TT:=λσ H Q=>t σ H λx H'=>∃k,x=.bl k/\Q k H'
def zfP{op:EX}{r:R2}(ho:OpR X (compareOp op) r)(ha:PE X a ta)(hb:PE X b tb)(hm:behindInMarks op b=AF):PT X (.Compare a [op] [b] pos) (ycz (tOp r ta tb)):=by
 intro π s σ H Q I h;refine wpAny_isTrue_Compare1 (thn (ha π s σ H _ I h) λv s1 ⟨x,H1,I1,r1,q1⟩=>thn (hb π s1 σ H1 _ I1 q1) λu s2 ⟨y,H2,I2,r2,q2⟩=>
  thn (ho π s2 σ H2 x y v u _ I2 r1 r2 q2) λc s3 ⟨z,H3,I3,r3,k,e,q3⟩=>?_) hm
 subst e
 cases r3
 exact BA ⟨H3,I3,q3⟩
def ybE(r r':R2)(ta tb tc:TE):TE:=λσ H Q=>ta σ H λx H1=>tb σ H1 λy H2=>r x y H2 λz H3=>∃k,z=.bl k /\
 (if k=AD then tc σ H3 λw' H4=>r' y w' H4 Q else Q (.bl AF) H3)
def zeD{op op':EX}{r r':R2}(ho:OpR X (compareOp op) r)(ho':OpR X (compareOp op') r')(ha:PE X a ta)(hb:PE X b tb)(hc:PE X c tc)
  (hm:lastMarks [op,op'] [b,c]=false:=by with_unfolding_all rfl):PE X (.Compare a [op,op'] [b,c] pos) (ybE r r' ta tb tc):=by
 intro π s σ H Q I h;refine Compare_chain (thn (ha π s σ H _ I h) λv s1 ⟨x,H1,I1,r1,q1⟩=>chain_link (thn (hb π s1 σ H1 _ I1 q1) λu s2 ⟨y,H2,I2,r2,q2⟩=>
  thn (ho π s2 σ H2 x y v u _ I2 r1 r2 q2) λd s3 ⟨z,H3,I3,r3,k,e,q3⟩=>?_)) hm
 subst e
 cases r3
 refine BA ?_
 cases k with
 |false=>exact ite_ff ⟨.bl AF,H3,I3,rfl,q3⟩
 |true=>exact ite_tt (chain_last (thn (hc π s3 σ H3 _ I3 q3) λw' s4 ⟨z',H4,I4,r4,q4⟩=>ho' π s4 σ H4 y z' u w' Q I4 r2 r4 q4))
def zeg{op op':EX}{r r':R2}(ho:OpR X (compareOp op) r)(ho':OpR X (compareOp op') r')(ha:PE X a ta)(hb:PE X b tb)(hc:PE X c tc)
  (hm:lastMarks [op,op'] [b,c]=false:=by with_unfolding_all rfl):PT X (.Compare a [op,op'] [b,c] pos) (ycz (ybE r r' ta tb tc)):=by
 intro π s σ H Q I h;refine isTrue_chain (thn (ha π s σ H _ I h) λv s1 ⟨x,H1,I1,r1,q1⟩=>test_link (thn (hb π s1 σ H1 _ I1 q1) λu s2 ⟨y,H2,I2,r2,q2⟩=>
  thn (ho π s2 σ H2 x y v u _ I2 r1 r2 q2) λd s3 ⟨z,H3,I3,r3,k,e,q3⟩=>?_)) hm
 subst e
 cases r3
 refine BA ?_
 cases k with
 |false=>
  let⟨k',e',q'⟩:=q3
  cases e'
  exact ite_ff ⟨H3,I3,q'⟩
 |true=>
  refine ite_tt (test_last (thn (hc π s3 σ H3 _ I3 q3) λw' s4 kq=>?_));let⟨z',H4,I4,r4,q4⟩:=kq;refine thn (ho' π s4 σ H4 y z' u w' _ I4 r2 r4 q4) λd' s5 kq=>?_;let⟨z2,H5,I5,r5,k2,e2,q5⟩:=kq;subst e2
  cases r5
  exact BA ⟨H5,I5,q5⟩
def ydk(K:AB)(x:V)(H:Hp)(k:Bool):Prop:=
 match x with
 |.non=>k=AF
 |.bl b=>k=b
 |.int i=>k=(i != 0)
 |.str y=>y.length<=sizeLine/\k=((y.length:Int) != 0)
 |.byt y=>y.size<=sizeLine/\k=((y.size:Int) != 0)
 |.ref p=>(∃xs,SqL K H p xs/\k=!xs.isEmpty) \/ (∃xs,SqT K H p xs/\k=!xs.isEmpty) \/ ∃kvs,H p=AA (.dK kvs)/\k=!kvs.isEmpty
 |_=>False
def zcF{κ:Type}{kvs:List (κ×V)}{vs:List (κ×AE)}(r:KV kvs vs):(!vs.isEmpty)=!kvs.isEmpty:=by
 cases r<;>rfl
def zaR{xs:List V}{its:List AE}(r:Vals xs its):(!its.toArray.isEmpty)=!xs.isEmpty:=by
 cases r<;>simp
def zco:(sizeLine:Nat)<2^63:=by rw[Bs];decide
def ziK:yeP X (λx H Q=>∃k,ydk X.K x H k/\Q k H):=by
 intro π s σ H x v Q I rx h;let⟨k,e,q⟩:=h;have hl:=zco;have hs:sizeLine=16777216:=Bs
 cases x with
 |non=>
  cases rx
  have e':k=false:=e;subst e';exact truthy_none ⟨H,I,q⟩
 |bl b=>
  cases rx
  have e':k=b:=e;subst e';exact BA ⟨H,I,q⟩
 |int i=>
  let⟨t,rfl⟩:=rx;have e':k=(i != 0):=e;subst e';exact PySem.P.truthy_int ⟨H,I,q⟩
 |str y=>
  let⟨t,rfl⟩:=rx;obtain⟨hy,e'⟩:y.length<=sizeLine/\k=((y.length:Int) != 0):=e;subst e';exact PySem.P.truthy_str ∅ ⟨H,I.tok _,q⟩
 |byt y=>
  let⟨t,rfl⟩:=rx;obtain⟨hy,e'⟩:y.size<=sizeLine/\k=((y.size:Int) != 0):=e;subst e';exact PySem.W.truthy_bytes ∅ ⟨H,I.tok _,q⟩
 |ref p=>
  cases rx
  have e':(∃xs,SqL X.K H p xs/\k=!xs.isEmpty) \/ (∃xs,SqT X.K H p xs/\k=!xs.isEmpty) \/ ∃kvs,H p=AA (.dK kvs)/\k=!kvs.isEmpty:=e;rcases e' with⟨xs,hx,e'⟩|⟨xs,hx,e'⟩|⟨kvs,hx,e'⟩
  .subst e';let⟨its,r,pl,hz⟩:=I.list hx;have hlen:=r.length;exact wpAny_truthy_list pl.isList (by erw[AR];lia) ⟨H,I.tok _,by rw[zaR r];exact q⟩
  .subst e';let⟨its,r,pl,hz⟩:=I.tuple hx;have hlen:=r.length;exact truthy_tuple pl (by erw[AR];lia) ⟨H,I.tok _,by rw[zaR r];exact q⟩
  .subst e';obtain⟨hz,hS,vs,r,m⟩:kvs.length<=sizeLine/\(p==sysModules)=AF/\∃vs,KV kvs vs/\s.heap.DictOf (yC X.prog X.w) p vs:=I.hok p _ hx;have hlen:kvs.length=vs.length:=EW r;exact wpAny_truthy_dict hS m ∅ ⟨H,I.tok _,by rw[zcF r];exact q⟩
 |_=>exact(show False from e).elim
def zek(ha:PE X a ta)(he:∀whole,isTrue a X.env whole=(do let v <-whole;standAt a.pos;holding [v] (truthy v))):
  PT X a (λσ H Q=>ta σ H λx H'=>∃k,ydk X.K x H' k/\Q k H'):=by
 intro π s σ H Q I h;exact isTrue_plain (thn (ha π s σ H _ I h) λv s1 ⟨x,H1,I1,r1,q1⟩=>ziK π s1 σ H1 x v Q I1 r1 q1) (he _)
def zcv:OpR X (binaryOp .Add) (λx y H Q=>∃i j,x=.str i/\y=.str j/\i.length+j.length<=sizeLine/\Q (.str (i++j)) H):=by
 intro π s σ H x y v u Q I rx ry h;let⟨i,j,rfl,rfl,hz,q⟩:=h;let⟨t,rfl⟩:=rx;let⟨t',rfl⟩:=ry;exact add_str (λt' tk=>⟨.str (i++j),H,I.tok _,⟨_,rfl⟩,q⟩) hz
theorem vals1{x:V}{us:List AE}(r:Vals [x] us):∃u,us=[u]/\RelV x u:=by
 cases r with
 |cons r1 r2=>cases r2;exact⟨_,rfl,r1⟩
theorem vals2{x y:V}{us:List AE}(r:Vals [x,y] us):∃u w',us=[u,w']/\RelV x u/\RelV y w':=by
 cases r with
 |cons r1 r2=>
  cases r2 with
  |cons r3 r4=>cases r4;exact⟨_,_,rfl,r1,r3⟩
def zdQ(hc:X.calm=AD):yJ X (.builtin "max") (λxs H Q=>∃i j,xs=[.int i,.int j]/\Q (.int (if j > i then j else i)) H):=by
 intro π s σ H xs us Q I r h;let⟨i,j,rfl,q⟩:=h;let⟨u,w',rfl,⟨t,rfl⟩,⟨t',rfl⟩⟩:=vals2 r;refine max_two_ints (I.ok.hd hc) λh' tk k=>⟨_,H,I.kept k,?_,q⟩
 by_cases hj:j > i
 .rw[if_pos hj,if_pos hj];exact⟨_,rfl⟩
 .rw[if_neg hj,if_neg hj];exact⟨_,rfl⟩
def zbk:yJ X (.type "int") (λxs H Q=>(∃i,xs=[.int i]/\Q (.int i) H) \/ ∃k,xs=[.bl k]/\Q (.int (if k then 1 else 0)) H):=by
 intro π s σ H xs us Q I r h;rcases h with⟨i,rfl,q⟩|⟨k,rfl,q⟩
 .let⟨u,rfl,t,rfl⟩:=vals1 r;exact call_int_int ⟨.int i,H,I,⟨_,rfl⟩,q⟩
 .let⟨u,rfl,r1⟩:=vals1 r
  cases r1
  exact call_int_bool ⟨.int (if k then 1 else 0),H,I.tok _,⟨_,rfl⟩,q⟩
end
structure yb4(h:Aq)(x dx C:AH)(mA:AM->Option AE):Prop where
 obj:h.get? x=AA (BX C dx)
 ns:h.Ns1 dx mA
 ne:dx≠x
def zdK{h:Aq}{dx:AH}{mA:AM->Option AE}(n:h.Ns1 dx mA):∃od,h.get? dx=AA od/\∀name,EF name od=AA (mA name):=by
 let⟨o,es,ep,ho,hd,hk,_,hm⟩:=n;refine⟨o,ho,λname=>?_⟩;have e:=hm name;unfold nsFind findBy at e;rw[<-Array.find?_toList]at e;unfold EF;rw[hd];dsimp only;split
 .rename_i y q;rw[q]at e;exact congrArg AA e
 .rename_i q;rw[q]at e;have a:es.toList.any (·.refKey)=false:=by
   rw[List.any_eq_false];intro y hy;let⟨z,t,hkey⟩:=hk y (Array.mem_toList_iff.mp hy);simp[DictEntry.refKey,hkey]
  have a':¬es.toList.any (·.refKey)=true:=by rw[a];exact Ah
  rw[if_neg a'];exact congrArg AA e
theorem yb4.look{h:Aq}{x dx C:AH}{mA:AM->Option AE}(I:yb4 h x dx C mA):∃od,PySem.W.InstAt h x (BX C dx) C (AA od)/\∀name,EF name od=AA (mA name):=
 let ⟨od,ho,hl⟩:=zdK I.ns
 ⟨od,⟨I.obj,rfl,rfl,ho⟩,hl⟩
section
variable {prog:A1}{w:A8}{A:A9}{E:AE->AI->Prop}{s:AI}{K:AB}{x dx C f:AH}{mA:AM->Option AE}{name:AM}{v:AE}
def zgz{expr:Bool}{Q:AE->AI->Prop}(X:K.In s.heap)(I:yb4 s.heap x dx C mA)(hg:C6 K C name=AD)(hh:CS K C=AD)
  (ha:A7 K (.ref C) name=AA AC) (hv:mA name=AA v) (hv':FB v=AD) (h:Q v {s with toks:=s.toks+1}):
  AZ (model prog w) A (getAttr (.ref x) name expr) Q E s:=by
 let⟨od,J,hl⟩:=I.look;exact PySem.W.get_value X J (PySem.W.plainGet_of hg).1 (PySem.W.findObj_own hh ha rfl (by rw[hl,hv])) hv' h
def zgE{ns:List AM}{Q:Unit->AI->Prop}(X:K.In s.heap)(I:yb4 s.heap x dx C mA)
  (hs:A7 K (.ref C) "__setattr__"=AA (AA (.builtin "object.__setattr__"))) (hp:DQ K C=AD) (ht:Dq K C name=AA AC) (hh:CS K C=AD)
  (hw:Eh mA ns) (hsz:ns.length<=sizeLine)
  (h:∀h',yb4 h' x dx C (λy=>if y=name then AA v else mA y)->CG dx s.heap h'->Q () {s with heap:=h',toks:=s.toks+2}):
  AZ (model prog w) A (setAttr (.ref x) name v) Q E s:=by
 let⟨od,J,hl⟩:=I.look;refine PySem.W.set_plain X J hs (PySem.W.osa_open (s:={s with toks:=s.toks+1}) (r:=AC) X J hp ht λb=>?_);let⟨cd,hc,hd'⟩:=PySem.W.any_some hh;have hx:s.heap.get? x=AA ⟨.ref C,AA dx,.plain,#[]⟩:=I.obj;refine AJ (AT (AJ (AJ (wpAny_loadPart hx (AJ (GL (s:={s with toks:=s.toks+1}) (PySem.W.looks_clsIn X hc) ?_))))));rw[hd'];refine AT (a:=AA dx) (AJ (AT (AJ ?_)));refine wpAny_nsSet1 (s:={s with toks:=s.toks+1}) I.ns λh' hn2 hs2=>?_;let⟨oD,esD,epD,hoD,hdD,hcD⟩:=hn2.count (GQ name v hw);refine AJ (wpAny_lookBehind hoD (by rw[hdD];exact pastItsLine_dict (BC hcD (by rw[A2];lia))) ?_);exact AT (h _ ⟨(hs2.2 _ (B9 I.ne)).trans I.obj,hn2,I.ne⟩ hs2)
def zeR{R:FD->AI->Prop}{vs:List AE}{kw:List (AM×AE)}(X:K.In s.heap)(hm:Cj K C=AD)
  (hi:A7 K (.ref C) "__init__"=AA (AA (.ref f))) (hf:PySem.W.typeIn K (.ref f)=AA (.type "function"))
  (h:codeAny (model prog w) (A.under (.builtin "type.__call__" ⟨.ref C::vs,kw⟩)) (.call (.ref f) ⟨.ref (s.heap.objs.size+1)::vs,kw⟩) (PySem.W.InitBack (s.heap.objs.size+1) R)
   {s with heap:=(s.heap.push BH).push (BX C s.heap.objs.size)}):
  codeAny (model prog w) A (.call (.ref C) ⟨vs,kw⟩) R s:=by
 let⟨hh,g,d,t,os⟩:=s;exact PySem.W.make_core (PySem.W.makes_of X hm) (PySem.W.looks_findIn X hi) (λself=>PySem.W.bind_fn X self hf) (.inl rfl) h
end
def yax(f:AM)(v:V):List (AM×V)->List (AM×V)
 |[]=>[(f,v)]
 |(g,x)::r=>if g=f then(g,v)::r else(g,x)::yax f v r
def zam(f g:AM)(v:V):∀fs:List (AM×V),(yax f v fs).lookup g=if g=f then AA v else fs.lookup g
 |[]=>by
  show Bk g [(f,v)]=_
  by_cases h:g=f
  .have hb:(g==f)=true:=beq_iff_eq.mpr h;erw[Bk,hb,if_pos h]
  .have hb:(g==f)=false:=beq_eq_false_iff_ne.mpr h;erw[Bk,hb,if_neg h]
 |(k,x)::r=>by
  have ih:=zam f g v r;rw[show yax f v ((k,x)::r)=(if k=f then(k,v)::r else(k,x)::yax f v r)from rfl]
  by_cases hk:k=f
  .rw[if_pos hk]
   by_cases h:g=k
   .have hb:(g==k)=true:=beq_iff_eq.mpr h;erw[Bk,hb,if_pos (h.trans hk)]
   .have hb:(g==k)=false:=beq_eq_false_iff_ne.mpr h;erw[Bk,hb,if_neg (λe:g=f=>h (e.trans hk.symm))]
  .rw[if_neg hk]
   by_cases h:g=k
   .have hb:(g==k)=true:=beq_iff_eq.mpr h;erw[Bk,hb,if_neg (λe:g=f=>hk (h.symm.trans e))]
   .have hb:(g==k)=false:=beq_eq_false_iff_ne.mpr h;erw[Bk,hb];exact ih
def zaj(f:AM)(v:V):∀fs:List (AM×V),f∈(yax f v fs).map (·.1)/\∀g,g∈fs.map (·.1)->g∈(yax f v fs).map (·.1)
 |[]=>⟨by simp[yax],λg h=>by simp at h⟩
 |(k,x)::r=>by
  let⟨i1,i2⟩:=zaj f v r;rw[show yax f v ((k,x)::r)=(if k=f then(k,v)::r else(k,x)::yax f v r)from rfl]
  by_cases hk:k=f
  .rw[if_pos hk];subst hk;exact⟨by simp,λg h=>by simpa using h⟩
  .rw[if_neg hk];refine⟨?_,λg h=>?_⟩
   .rw[AL];exact AS _ i1
   .rw[AL]at h ⊢;rcases Ab.mp h with e|e
    .exact Ab.mpr (.inl e)
    .exact AS _ (i2 g e)
def zaA(f:AM)(v:V):∀fs:List (AM×V),(yax f v fs).length<=fs.length+1
 |[]=>by simp[yax]
 |(k,x)::r=>by
  have ih:=zaA f v r;rw[show yax f v ((k,x)::r)=(if k=f then(k,v)::r else(k,x)::yax f v r)from rfl]
  by_cases hk:k=f
  .rw[if_pos hk,A2,A2];lia
  .rw[if_neg hk,A2,A2];lia
theorem ya5.some_of{v:V}{o:Option AE}(r:ya5 (AA v) o):∃u,o=AA u/\RelV v u:=by
 cases o with
 |none=>exact(show False from r).elim
 |some u=>exact⟨u,rfl,r⟩
def zdM{v:V}{u:AE}(r:RelV v u):FB u=true:=by
 cases v with
 |non=>cases (show u=BW from r);rfl
 |bl b=>cases (show u=Cu b from r);rfl
 |int i=>let⟨t,e⟩:=(show ∃t,u=D1 i t from r);cases e;rfl
 |str x=>let⟨t,e⟩:=(show ∃t,u=FA x t from r);cases e;rfl
 |byt b=>let⟨t,e⟩:=(show ∃t,u=GF b t from r);cases e;rfl
 |flt b=>let⟨t,e⟩:=(show ∃t,u=GG b t from r);cases e;rfl
 |ref a=>cases (show u=Af a from r);rfl
 |ty n=>cases (show u=E7 n from r);rfl
section
variable {P:A1}{w:A8}{H H':Hp}{h h':Aq}{a C dx:AH}{fs fs':List (AM×V)}
def zds(hok:HOk P w H h)(e:H a=AA (.ins C dx fs)):∃mA,yb4 h a dx C mA/\(∀f,ya5 (fs.lookup f) (mA f))/\Eh mA (fs.map (·.1))/\fs.length<=1000/\H dx=AA (.own a):=by
 let⟨d,z,ne,ob,mA,n,r,q⟩:=(show yI P w H h a (.ins C dx fs)from hok a _ e);exact⟨mA,⟨ob,n,ne⟩,r,q,z,d⟩
end
structure Cls(K:AB)(C:AH):Prop where
 pg:C6 K C FE=AD
 hd:CS K C=AD
 po:DQ K C=AD
 sa:A7 K (.ref C) "__setattr__"=AA (AA (.builtin "object.__setattr__"))
theorem Cls.get{K:AB}{C:AH}(c:Cls K C)(f:AM):C6 K C f=true:=c.pg
def yU(K:AB)(C:AH)(f:AM):Prop:=A7 K (.ref C) f=AA AC
theorem yU.taker{K:AB}{C:AH}{f:AM}(n:yU K C f):Dq K C f=AA none:=by
 unfold Dq;rw[show A7 K (.ref C) f=AA AC from n];rfl
structure Con(K:AB)(C:AH)(f:AM)(v:V)(u:AE):Prop where
 at_:A7 K (.ref C) f=AA (AA u)
 rel:RelV v u
 get:PySem.W.specialIn K u "__get__"=AA AC
 cp:PySem.W.copiedNames.contains f=AF
structure Meth(K:AB)(C:AH)(m:AM)(f:AH):Prop where
 at_:A7 K (.ref C) m=AA (AA (.ref f))
 fn:CT K (.ref f)=AD
 kp:Ae K (.ref f)=AD
section
variable {X:Cx}{π:List (AH×B1)}{σ:St}{H:Hp}{s:AI}{a C dx:AH}{fs:List (AM×V)}{f:AM}{v:V}{A:A9}{E:AE->AI->Prop}
def zaD{b:Bool}{Q:AE->AI->Prop}(I:Inv X π σ H s)(e:H a=AA (.ins C dx fs))(c:Cls X.K C)(n:yU X.K C f)(l:fs.lookup f=AA v)
  (h:∀u s',Inv X π σ H s'->RelV v u->Q u s'):AZ (model X.prog X.w) A (getAttr (.ref a) f b) Q E s:=by
 let⟨mA,O,r,_,_,_⟩:=zds I.hok e;let⟨u,hu,ru⟩:=ya5.some_of (v:=v) (o:=mA f) (by rw[<-l];exact r f);exact zgz I.kIn O (c.get f) c.hd n hu (zdM ru) (h u _ (I.tok _) ru)
def zaI{y:V}{u:AE}{Q:Unit->AI->Prop}(I:Inv X π σ H s)(e:H a=AA (.ins C dx fs))(c:Cls X.K C)(n:yU X.K C f)(hl:fs.length<1000)(ry:RelV y u)
  (h:∀s',Inv X π σ (upd H a (.ins C dx (yax f y fs))) s'->Q () s'):AZ (model X.prog X.w) A (setAttr (.ref a) f u) Q E s:=by
 let⟨mA,O,r,wi,_,ho⟩:=zds I.hok e;have hz:(fs.map (·.1)).length<=sizeLine:=by rw[A4,Bs];lia
 refine zgE I.kIn O c.sa c.po n.taker c.hd wi hz λh' O' sb=>h _ ?_;have hd:∃o,h'.get? dx=AA o:=let ⟨o,_,_,e',_⟩:=O'.ns;⟨o,e'⟩
 refine I.write (x:=a) (e:=dx) (by rw[e];exact Bu) (.inr ho) (λb q hb z=>(sb.2 b hb).trans z) hd ?_;refine⟨by rw[za O.ne];exact ho,?_,O.ne,O'.obj,_,O'.ns,λg=>?_,λg hg=>?_⟩
 .have:=zaA f y fs;lia
 .show ya5 ((yax f y fs).lookup g) (if g=f then AA u else mA g);rw[zam]
  by_cases q:g=f
  .rw[if_pos q,if_pos q];exact ry
  .rw[if_neg q,if_neg q];exact r g
 .by_cases q:g=f
  .rw[q];exact(zaj f y fs).1
  .refine(zaj f y fs).2 g (wi g λz=>hg ?_);show (if g=f then AA u else mA g)=AC;rw[if_neg q];exact z
theorem Inv.made(I:Inv X π σ H s):Inv X π σ (upd (upd H s.heap.objs.size (.own (s.heap.objs.size+1))) (s.heap.objs.size+1) (.ins C s.heap.objs.size []))
  {s with heap:=(s.heap.push BH).push (BX C s.heap.objs.size)}:=by
 have e1:(s.heap.push BH).get? s.heap.objs.size=AA BH:=A3 s.heap rfl;have e2:((s.heap.push BH).push (BX C s.heap.objs.size)).get? (s.heap.objs.size+1)=AA (BX C s.heap.objs.size):=by
  have:=A3 (s.heap.push BH) (o:=BX C s.heap.objs.size) rfl
  rwa [DA]at this
 have e3:(s.heap.push BH).Ns s.heap.objs.size (λ_=>AC):=⟨BH,#[],_,e1,rfl,(λe he=>absurd he (by simp)),λ_=>rfl⟩;have I1:=I.laid (a:=s.heap.objs.size) (o:=.own (s.heap.objs.size+1)) (h':=s.heap.push BH) (t':=s.toks) (λb u q=>AN _ q) (AU _) ⟨_,e1⟩;refine I1.laid (a:=s.heap.objs.size+1) (o:=.ins C s.heap.objs.size []) (t':=s.toks) (λb u q=>AN _ q) (El (DA _ _)) ?_;have ne:s.heap.objs.size≠s.heap.objs.size+1:=Ac (FF _);refine⟨by rw[za ne,zc],DR _,ne,e2,λ_=>AC,(Heap.Ns1.of_empty e3).at λo q=>AN _ q,λ_=>Bu,λy hy=>absurd rfl hy⟩
def zgD{prog:A1}{w:A8}{env:Env}{e:AO}{f:AM}{pos:Ba}{s:AI}{Q:AE->AI->Prop}(hb:attributeBase e f env (eval e env)=eval e env)
  (h:AZ (model prog w) A (eval e env) (λo s₁=>AZ (model prog w) A (getAttr o f AD) Q E s₁) E s):AZ (model prog w) A (eval (.Attribute e f pos) env) Q E s:=
 Attribute_any_ h (by rw[arm_eval_Attribute,hb])
end
def yfO(K:AB)(ta:TE)(f:AM):TE:=λσ H Q=>ta σ H λx H1=>∃a C dx fs v,x=.ref a/\H1 a=AA (.ins C dx fs)/\Cls K C/\yU K C f/\fs.lookup f=AA v/\Q v H1
def yfo(K:AB)(ta tv:TE)(f:AM):TS:=λD σ H=>tv σ H λy H1=>ta σ H1 λx H2=>∃a C dx fs,x=.ref a/\H2 a=AA (.ins C dx fs)/\Cls K C/\yU K C f/\fs.length<1000 /\
 D.nx σ (upd H2 a (.ins C dx (yax f y fs)))
def ydJ(X:Cx)(op:CQ)(rd:V->V->Hp->VK->Prop):Prop:=
 ∀(π:List (AH×B1)) (s:AI) (σ:St) (H:Hp) (x y:V) (u v:AE) (Q:VK),Inv X π σ H s->RelV x u->RelV y v->rd x y H Q->AZ (model X.prog X.w) X.A (inplaceOp op u v) (EP X π σ Q) X.xe s
def ybJ(K:AB)(ta tv:TE)(rd:V->V->Hp->VK->Prop)(f:AM):TS:=λD σ H=>ta σ H λx H1=>∃a C dx fs v,x=.ref a/\H1 a=AA (.ins C dx fs)/\Cls K C/\yU K C f/\fs.lookup f=AA v /\
 tv σ H1 λy H2=>rd v y H2 λz H3=>∃dx' fs',H3 a=AA (.ins C dx' fs')/\fs'.length<1000/\D.nx σ (upd H3 a (.ins C dx' (yax f z fs')))
section
variable {X:Cx}{o e value:AO}{f:AM}{pos pos' tpos:Ba}{ta tv:TE}
def zhS(he:PE X e ta)(hb:attributeBase e f X.env (eval e X.env)=eval e X.env):PE X (.Attribute e f pos) (yfO X.K ta f):=by
 intro π s σ H Q I h;refine zgD hb (thn (he π s σ H _ I h) λu s1 kq=>?_);let⟨x,H1,I1,rx,a,C,dx,fs,v,ex,ea,c,n,l,q⟩:=kq;subst ex;obtain rfl:u=Af a:=rx;exact zaD I1 ea c n l λu' s2 I2 ru=>⟨v,H1,I2,ru,q⟩
def zh4(ha:PE X o ta)(hv:PE X value tv)(hs:swapsWith value (AA (.Attribute o f pos')) pos.line X.env=pure AF):PS X (.Assign [.Attribute o f pos'] value pos) (yfo X.K ta tv f):=by
 intro π s σ H D I h;refine plainObj_wpAny_Assign_Attribute (thn (hv π s σ H _ I h) λu s1 kq=>?_) hs;let⟨y,H1,I1,ry,q⟩:=kq;refine thn (ha π s1 σ H1 _ I1 q) λov s2 kq=>?_;let⟨x,H2,I2,rx,a,C,dx,fs,ex,ea,c,n,l,q2⟩:=kq;subst ex;obtain rfl:ov=Af a:=rx;exact zaI I2 ea c n l ry λs3 I3=>⟨σ,_,I3,q2⟩
def zdT{op:CQ}{rd:V->V->Hp->VK->Prop}(ha:PE X o ta)(hv:PE X value tv)(hop:ydJ X op rd):PS X (.AugAssign (.Attribute o f tpos) op value pos) (ybJ X.K ta tv rd f):=by
 intro π s σ H D I h;refine wpAny_AugAssign_AttributeAny (thn (ha π s σ H _ I h) λov s1 kq=>?_);let⟨x,H1,I1,rx,a,C,dx,fs,v,ex,ea,c,n,l,q⟩:=kq;subst ex;obtain rfl:ov=Af a:=rx;refine zaD I1 ea c n l λu s2 I2 ru=>thn (hv π s2 σ H1 _ I2 q) λw3 s3 kq=>?_;let⟨y,H2,I3,ry,q3⟩:=kq;refine thn (hop π s3 σ H2 v y u w3 _ I3 ru ry q3) λw4 s4 kq=>?_;let⟨z,H3,I4,rz,dx',fs',ea',l',q4⟩:=kq;exact zaI I4 ea' c n l' rz λs5 I5=>⟨σ,_,I5,q4⟩
def yek:V->V->Hp->VK->Prop:=λx y H Q=>∃i j,x=.int i/\y=.int j/\Q (.int (i+j)) H
def zhf:ydJ X .Add yek:=by
 rintro π s σ H x y u v Q I rx ry ⟨i,j,rfl,rfl,q⟩
 let⟨t,rfl⟩:=(show ∃t,u=D1 i t from rx);let⟨t',rfl⟩:=(show ∃t',v=D1 j t' from ry);exact FQ ⟨.int (i+j),H,I.tok _,⟨_,rfl⟩,q⟩
end
section
variable {X:Cx}{π:List (AH×B1)}{σ:St}{H:Hp}{s:AI}{A:A9}{E:AE->AI->Prop}{Q:AE->AI->Prop}{c:AE}{b:Bool}
end
structure yaj(k:Nat)(A:A9):Prop where
 hd:A.handled=AC
 dp:A.depth+3*k+5<recursionLimit
 un:A.units+16*k+200<cLine
theorem yaj.mono{j k:Nat}{A:A9}(r:yaj k A)(h:j<=k):yaj j A:=⟨r.hd,by have:=r.dp;lia,by have:=r.un;lia⟩
theorem yaj.deeper{k:Nat}{A:A9}(r:yaj (k+1) A)(env:Env):yaj k (A.deeper env):=
 ⟨r.hd,by have:=r.dp;show A.depth+1+3*k+5<_;lia,by have:=r.un;show A.units+3+16*k+200<_;lia⟩
def zcn{A:A9}{C:AH}{us:List AE}{kw:List (AM×AE)}:(A.under (.builtin "type.__call__" ⟨.ref C::us,kw⟩)).depth=A.depth+1:=by
 first|rfl|simp[Em,Code.weight,Code.isCreation,Code.isGuard,Code.isCaller,GI,En,guardIds]
def zcC{A:A9}{C:AH}{us:List AE}{kw:List (AM×AE)}:(A.under (.builtin "type.__call__" ⟨.ref C::us,kw⟩)).units=A.units+1:=by
 first|rfl|simp[Em,Code.cUnits,GI,En]
theorem yaj.make{k:Nat}{A:A9}(r:yaj (k+1) A)(C:AH)(us:List AE)(kw:List (AM×AE)):yaj k (A.under (.builtin "type.__call__" ⟨.ref C::us,kw⟩)):=
 ⟨r.hd,by have:=r.dp;rw[zcn];lia,by have:=r.un;rw[zcC];lia⟩
theorem yaj.depth{k:Nat}{A:A9}(r:yaj k A):A.depth<recursionLimit:=by have:=r.dp;lia
def ydD:TA:=λ_ H Q=>Q [] H
def ycc(ta:TE)(tr:TA):TA:=λσ H Q=>ta σ H λx H1=>tr σ H1 λxs H2=>Q (x::xs) H2
section
variable {X:Cx}{e:AO}{es:List AO}{te:TE}{t:TA}{pos:Ba}
def zcZ:PA X [] ydD:=λ_ _ _ _ H Q I h=>Eo ⟨[],H,I,.nil,h⟩
def zJ(ha:PE X e te)(hr:PA X es t)(hs:starEach (e::es) X.env=(AF,eval e X.env)::starEach es X.env:=by rfl):PA X (e::es) (ycc te t):=by
 intro pos π s σ H Q I h;rw[hs];show AZ _ _ (spliced ((AF,eval e X.env)::backTo pos (starEach es X.env))) _ _ s;refine DB (thn (ha π s σ H _ I h) λu s1 kq=>?_);let⟨x,H1,I1,r1,q1⟩:=kq;exact thn (hr pos π s1 σ H1 _ I1 q1) λus s2 ⟨xs,H2,I2,r2,q2⟩=>⟨x::xs,H2,I2,.cons r1 r2,q2⟩
def yfw(t:TA):TE:=λσ H Q=>t σ H λxs H1=>xs.length<=sizeLine/\∀p,H1 p=AC->Q (.ref p) (upd H1 p (.tup xs))
def yeo(t:TA):TE:=λσ H Q=>t σ H λxs H1=>xs.length<=sizeLine/\∀p,H1 p=AC->Q (.ref p) (upd H1 p (.lst xs))
def zhP{x1}(h:PA X es t):PE X (.Tuple es x1 pos) (yfw t):=by
 intro π s σ H Q I hq;refine wpAny_Tuple_spliced (thn (h pos π s σ H _ I hq) λus s1 kq=>?_);let⟨xs,H1,I1,r,z,q⟩:=kq;refine ⟨by rw[<-r.length];exact z,?_⟩;have hf:H1 s1.heap.objs.size=none:=I1.hok.fresh (AU _);refine⟨.ref s1.heap.objs.size,upd H1 s1.heap.objs.size (.tup xs),I1.laid (t':=s1.toks) (λb u e=>AN _ e) (AU _) ?_,rfl,q _ hf⟩;exact⟨z,us,r,A3 _ rfl⟩
def zfd(h:PA X es t):PE X (.List es pos) (yeo t):=by
 intro π s σ H Q I hq;refine wpAny_List_spliced (thn (h pos π s σ H _ I hq) λus s1 kq=>?_);let⟨xs,H1,I1,r,z,q⟩:=kq;refine ⟨by rw[<-r.length];exact z,?_⟩;have hf:H1 s1.heap.objs.size=none:=I1.hok.fresh (AU _);refine⟨.ref s1.heap.objs.size,upd H1 s1.heap.objs.size (.lst xs),I1.laid (t':=s1.toks) (λb u e=>AN _ e) (AU _) ?_,rfl,q _ hf⟩;exact⟨z,us,0,r,A3 _ rfl⟩
end
abbrev Sp:=List V->Hp->VK->XK->Prop
abbrev CXT:=List Env->Hp->AI->XK->AE->AI->Prop
structure ybr(P:A1)(w:A8)(K:AB)(mg:AM->Option AE)(base:Aq)(A:A9)(outer:List Env)(s:AI)(H:Hp):Prop where
 frames:A.frames=AA outer
 mod:Mod K mg base
 bs:∀b o,base.get? b=AA o->s.heap.get? b=AA o/\H b=AC
 bsz:base.objs.size<=s.heap.objs.size
 funs:s.heap.FunFrames base outer
 frf:∀b∈frs outer,H b=AC
 hok:HOk P w H s.heap
 bare:Cd s.gens
def CE(outer:List Env)(P:A1)(w:A8)(H:Hp)(s:AI)(Q:VK)(u:AE)(s':AI):Prop:=
 ∃v H',s'.os=s.os/\Cd s'.gens/\Un (frs outer) [] H H' s.heap s'.heap/\HOk P w H' s'.heap/\RelV v u/\Q v H'
def CR(CX:CXT)(outer:List Env)(P:A1)(w:A8)(H:Hp)(s:AI)(Q:VK)(E:XK)(r:FD)(s':AI):Prop:=
 match r with
 |.ok (.ret u)=>CE outer P w H s Q u s'
 |.ok _=>False
 |.error e=>CX outer H s E e s'
structure yav(P:A1)(w:A8)(K:AB)(mg:AM->Option AE)(base:Aq)(CX:CXT)(k:Nat)(f:AH)(fd:Al)(ps:List AM)(sp:Sp):Prop where
 len:∀vs H Q E,sp vs H Q E->vs.length=ps.length
 run:∀(A:A9) (outer:List Env) (s:AI) (H:Hp) (args:Args) (us:List AE) (vs:List V) (Q:VK) (E:XK),yaj k A->ybr P w K mg base A outer s H->De s fd args (ps.zip us)->Vals vs us->sp vs H Q E ->
  codeAny (model P w) A (.call (.ref f) args) (CR CX outer P w H s Q E) s
theorem yav.imp{P:A1}{w:A8}{K:AB}{mg:AM->Option AE}{base:Aq}{CX:CXT}{k:Nat}{f:AH}{fd:Al}{ps:List AM}{sp sp':Sp}(F:yav P w K mg base CX k f fd ps sp)
  (h:∀vs H Q E,sp' vs H Q E->sp vs H Q E):yav P w K mg base CX k f fd ps sp':=
 ⟨λvs H Q E q=>F.len vs H Q E (h _ _ _ _ q),λA outer s H args us vs Q E hr he hb hv hs=>F.run A outer s H args us vs Q E hr he hb hv (h _ _ _ _ hs)⟩
theorem ybr.make{P:A1}{w:A8}{K:AB}{mg:AM->Option AE}{base:Aq}{A:A9}{outer:List Env}{s:AI}{H:Hp}(e:ybr P w K mg base A outer s H)(C:AH)(us:List AE)(kw:List (AM×AE)):
  ybr P w K mg base (A.under (.builtin "type.__call__" ⟨.ref C::us,kw⟩)) outer s H:=⟨by first|exact e.frames|(simpa [Em,Code.envs,En,pushEnvs] using e.frames),e.mod,e.bs,e.bsz,e.funs,e.frf,e.hok,e.bare⟩
section
variable {X:Cx}{π:List (AH×B1)}{σ:St}{H:Hp}{s s':AI}
theorem Inv.env0(I:Inv X π σ H s):ybr X.prog X.w X.K X.mg X.base X.A X.stack s H:=
 ⟨I.ok.frames,I.ok.mod,I.bs,BC I.ok.bsz I.sz,I.stack,I.stkFree,I.hok,I.bare⟩
theorem Inv.after{Q:VK}{u:AE}(I:Inv X π σ H s)(h:CE X.stack X.prog X.w H s Q u s'):EP X π σ Q u s':=by
 let⟨v,H',os,bare,un,hok,r,q⟩:=h;let⟨hh,g,d,t,os'⟩:=s';obtain rfl:os'=s.os:=os;exact⟨v,H',I.call (h':=hh) (g':=g) (d':=d) (t':=t) (ch:=[]) un hok bare (λb z=>absurd z (by simp)),r,q⟩
end
def ydx(C:AH)(sp:Sp)(dvs:List V)(E:XK)(t:TA):TE:=λσ H Q=>t σ H λvs H1=>∀x dx,H1 x=AC->H1 dx=AC->dx≠x ->
 sp (.ref x::(vs++dvs)) (upd (upd H1 dx (.own x)) x (.ins C dx [])) (λv H2=>v=.non/\Q (.ref x) H2) E
def Binds(K:AB)(fd:Al)(ps:List AM)(ds:List AE):Prop:=
 ∀(s:AI) (us:List AE),K.In s.heap->(us++ds).length=ps.length->De s fd ⟨us,[]⟩ (ps.zip (us++ds))
theorem Binds.all{K:AB}{fd:Al}{ps:List AM}(h:∀us:List AE,us.length=ps.length->bindArgs fd ⟨us,[]⟩=pure (ps.zip us)):Binds K fd ps []:=λs us _ hl=>by
 rw[Ck]at hl ⊢;exact .of_eq (h us hl)
def yaU(CX:CXT)(X:Cx)(E:XK):Prop:=∀(π:List (AH×B1)) (σ:St) (H:Hp) (s:AI) (e:AE) (s':AI),Inv X π σ H s->CX X.stack H s E e s'->X.xe e s'
section
variable {X:Cx}{CX:CXT}{k:Nat}{f C:AH}{fd:Al}{ps:List AM}{sp:Sp}{dvs:List V}{ds:List AE}{E:XK}{x m:AM}{p pos apos:Ba}{e o:AO}{es:List AO}{ta:TE}{t:TA}
structure Mk(K:AB)(C f:AH):Prop where
 makes:Cj K C=AD
 init:A7 K (.ref C) "__init__"=AA (AA (.ref f))
 fn:CT K (.ref f)=AD
 kp:Ae K (.ref C)=AD
def zd7{π:List (AH×B1)}{σ:St}{H:Hp}{s:AI}{Q:VK}{us:List AE}{vs:List V}(M:Mk X.K C f)(F:yav X.prog X.w X.K X.mg X.base CX k f fd ps sp)(hr:yaj (k+1) X.A)(hb:Binds X.K fd ps ds)(hd:Vals dvs ds)
  (hx:yaU CX X E) (I:Inv X π σ H s) (r:Vals vs us)
  (h:∀x dx,H x=AC->H dx=AC->dx≠x->sp (.ref x::(vs++dvs)) (upd (upd H dx (.own x)) x (.ins C dx [])) (λv H2=>v=.non/\Q (.ref x) H2) E):
  AZ (model X.prog X.w) X.A (call (.ref C) us) (EP X π σ Q) X.xe s:=by
 have hq:=h (s.heap.objs.size+1) s.heap.objs.size (I.hok.fresh (DS _)) (I.hok.fresh (AU _)) (Ac (FF _));have I2:=Inv.made (C:=C) I;have r2:Vals (V.ref (s.heap.objs.size+1)::(vs++dvs)) (Af (s.heap.objs.size+1)::(us++ds)):=.cons rfl (r.append hd);have hl:(Af (s.heap.objs.size+1)::us++ds).length=ps.length:=by
  have e:=r2.length;rw[F.len _ _ _ _ hq]at e;exact e.symm
 refine FX (zeR (f:=f) I.kIn M.makes M.init (beq_iff_eq.mp M.fn) (Cp (F.run _ X.stack _ _ ⟨Af (s.heap.objs.size+1)::us,[]⟩ (Af (s.heap.objs.size+1)::(us++ds)) _ _ E (hr.make C us [])
  (I2.env0.make C us []) (hb _ (Af (s.heap.objs.size+1)::us) I2.kIn hl) r2 hq) λr s' hq'=>?_))
 cases r with
 |error e=>exact hx π σ _ _ e s' I2 hq'
 |ok fl=>
  cases fl with
  |ret u=>
   let⟨v,H',I3,rv,ev,q3⟩:=I2.after hq';subst ev;exact⟨rv,⟨V.ref (s.heap.objs.size+1),H',I3,rfl,q3⟩⟩
  |next=>exact BF hq'
  |brk=>exact BF hq'
  |cont=>exact BF hq'
def zfG(M:Mk X.K C f)(F:yav X.prog X.w X.K X.mg X.base CX k f fd ps sp)(hr:yaj (k+1) X.A)(hg:Gl X x)(hm:X.mg x=AA (.ref C))(hb:Binds X.K fd ps ds)(hd:Vals dvs ds)(hx:yaU CX X E)
  (ha:PA X (e::es) t) (hdb:(x==("__debug__":AM))=false:=by decide) (he:starEach (e::es) X.env=(AF,eval e X.env)::starEach es X.env:=by rfl) (hpl:(backTo pos (starEach es X.env)).any (·.1)=false:=by rfl):
  PE X (.Call (.Name x p) (e::es) [] pos) (ydx C sp dvs E t):=by
 intro π s σ H Q I h;refine BP (zap I hg hm ?_ hdb);refine Ea (h₀:=X.base) I.ok.mod.kin M.kp (thn (ha pos π s σ H _ I h) λus s1 kq=>?_) he hpl;let⟨vs,H1,I1,r,q⟩:=kq;refine ⟨I1.kIn,?_⟩;exact zd7 M F hr hb hd hx I1 r q
end
def PK(X:Cx)(kws:List BR)(t:TA):Prop:=
 ∀(pos:Ba) (π:List (AH×B1)) (s:AI) (σ:St) (H:Hp) (Q:List V->Hp->Prop),Inv X π σ H s->t σ H Q->AZ (model X.prog X.w) X.A (evalAll ((backToKw pos (keywordEach kws X.env)).map (·.2))) (AP X π σ Q) X.xe s
section
variable {X:Cx}{CX:CXT}{k:Nat}{f C:AH}{fd:Al}{ps ks:List AM}{sp:Sp}{E:XK}{x m:AM}{p pos apos kpos:Ba}{e o:AO}{es:List AO}{kws:List BR}{te ta:TE}{t tk:TA}{nm:Option AM}
def zjj:PK X [] ydD:=λ_ _ _ _ H Q I h=>wpAny_evalAll_nil ⟨[],H,I,.nil,h⟩
def zgB(ha:PE X e te)(hr:PK X kws t):PK X (⟨nm,e,kpos⟩ :: kws) (ycc te t):=by
 intro pos π s σ H Q I h;show AZ _ _ (evalAll ((do let v <-eval e X.env;standAt pos;pure v)::(backToKw pos (keywordEach kws X.env)).map (·.2))) _ _ s;refine wpAny_evalAll_cons (AJ (thn (ha π s σ H _ I h) λu s1 kq=>?_));let⟨x,H1,I1,r1,q1⟩:=kq;refine AJ (Cf (AT ?_));exact thn (hr pos π s1 σ H1 _ I1 q1) λus s2 ⟨xs,H2,I2,r2,q2⟩=>⟨x::xs,H2,I2,.cons r1 r2,q2⟩
structure yaX(K:AB)(fd:Al)(ps ks:List AM)(g:List AE->List AE->List AE)(gV:List V->List V->List V):Prop where
 to:∀(s:AI) (us ws:List AE),K.In s.heap->(g us ws).length=ps.length->De s fd ⟨us,ks.zip ws⟩ (ps.zip (g us ws))
 rel:∀{vs:List V} {us:List AE} {zs:List V} {ws:List AE},Vals vs us->Vals zs ws->Vals (gV vs zs) (g us ws)
variable {g:List AE->List AE->List AE}{gV:List V->List V->List V}
end
structure yak(N P:List AM)(sc:BB):Prop where
 kind:sc.kind=.function
 co:sc.isCoroutine=AF
 gen:sc.isGenerator=AF
 nd:N.Nodup
 pre:N.take P.length=P
 par:∀x∈P,sc.names.lookup x=AA .local \/ sc.names.lookup x=AA .cell
 nofree:∀y∈sc.names,y.2 ≠ .free
def zbv{kindOf:AM->Option CU}{x:AM}:∀{binds:List (AM×AE)} {m:AM->Option AE},(∀v,(x,v)∉binds)->bindL kindOf binds m x=m x
 |[],_,_=>rfl
 |(n,v)::r,m,h=>by
  unfold bindL;rw[zbv λw hw=>h w (AS _ hw)];split
  .have:x≠n:=by rintro rfl;exact h v Ag
   simp[this]
  .rfl
def zbx{kindOf:AM->Option CU}{x:AM}:∀{binds:List (AM×AE)} {m:AM->Option AE},(∀v,(x,v)∉binds)->bindC kindOf binds m x=m x
 |[],_,_=>rfl
 |(n,v)::r,m,h=>by
  unfold bindC;rw[zbx λw hw=>h w (AS _ hw)];split
  .rfl
  .have:x≠n:=by rintro rfl;exact h v Ag
   simp[this]
def zbq{kindOf:AM->Option CU}{x:AM}{v:AE}:∀{P:List AM} {vs:List AE} {i:Nat} {m:AM->Option AE},P.Nodup->P[i]?=AA x->vs[i]?=AA v->kindOf x=AA .local ->
  bindL kindOf (P.zip vs) m x=AA v
 |[],_,_,_,_,h,_,_=>by simp at h
 |_::_,[],_,_,_,_,h,_=>by simp at h
 |p::P,w::vs,0,m,nd,h1,h2,hk=>by
  simp at h1 h2;subst h1;subst h2;show bindL kindOf ((p,w)::P.zip vs) m p=_;unfold bindL;rw[zbv λv hv=>(Cm.mp nd).1 (Cn hv).1,if_pos hk];simp
 |p::P,w::vs,i+1,m,nd,h1,h2,hk=>by
  show bindL kindOf ((p,w)::P.zip vs) m x=_;unfold bindL;exact zbq (i:=i) (Cm.mp nd).2 (by simpa using h1) (by simpa using h2) hk
def zbc{kindOf:AM->Option CU}{x:AM}{v:AE}:∀{P:List AM} {vs:List AE} {i:Nat} {m:AM->Option AE},P.Nodup->P[i]?=AA x->vs[i]?=AA v->kindOf x≠AA .local ->
  bindC kindOf (P.zip vs) m x=AA v
 |[],_,_,_,_,h,_,_=>by simp at h
 |_::_,[],_,_,_,_,h,_=>by simp at h
 |p::P,w::vs,0,m,nd,h1,h2,hk=>by
  simp at h1 h2;subst h1;subst h2;show bindC kindOf ((p,w)::P.zip vs) m p=_;unfold bindC;rw[zbx λv hv=>(Cm.mp nd).1 (Cn hv).1,if_neg hk];simp
 |p::P,w::vs,i+1,m,nd,h1,h2,hk=>by
  show bindC kindOf ((p,w)::P.zip vs) m x=_;unfold bindC;exact zbc (i:=i) (Cm.mp nd).2 (by simpa using h1) (by simpa using h2) hk
def start(N:List AM)(vs:List V):St:=vs.map AA++Ak (N.length-vs.length) AC
def yap(CX:CXT)(P:A1)(w:A8)(K:AB)(mg:AM->Option AE)(base:Aq)(N:List AM)(qual:AM)(scope:BB)(f:AH)(cd:AE)(A:A9)(outer:List Env)(s:AI)(H:Hp)(E:XK):Cx where
 prog:=P
 w:=w
 K:=K
 mg:=mg
 base:=base
 A:=A.deeper (envOfC qual scope s.heap.objs.size f cd)
 N:=N
 s₀:=s
 H₀:=H
 env:=envOfC qual scope s.heap.objs.size f cd
 outer:=outer
 stack:=envOfC qual scope s.heap.objs.size f cd::outer
 ex:=[]
 calm:=AD
 fn:=λ_=>AD
 pn:=[]
 xe:=λe s'=>AZ (model P w) (A.deeper (envOfC qual scope s.heap.objs.size f cd)) («leaving» (envOfC qual scope s.heap.objs.size f cd) e) (λ_ s''=>CX outer H s E e s'') (λe' s''=>CX outer H s E e' s'') s'
def zb6{sc:BB}{n:Nat}{x:AM}(h:sc.names.lookup x=AA .cell):∃c,(cellsFrom n sc.names []).lookup x=AA c:=by
 have q:=CV sc.names n [] (.inl h);exact A6.mp q
def zbe{CX:CXT}{P:A1}{w:A8}{K:AB}{mg:AM->Option AE}{base:Aq}{N ps:List AM}{qual:AM}{scope:BB}{f:AH}{cd:AE}{A:A9}{outer:List Env}{s s1:AI}{H:Hp}{E:XK}{us:List AE}{vs:List V}
  (S:yak N ps scope) (hd:A.handled=AC) (e0:ybr P w K mg base A outer s H) (hl:vs.length=ps.length) (r:Vals vs us)
  (x:InCallC s s.heap.objs.size (bindL (envOfC qual scope s.heap.objs.size f cd).kindOf (ps.zip us) λ_=>AC) (cellsFrom (s.heap.objs.size+1) scope.names []) (bindC (envOfC qual scope s.heap.objs.size f cd).kindOf (ps.zip us) λ_=>AC) s1):
  Inv (yap CX P w K mg base N qual scope f cd A outer s H E) [] (start N vs) H s1:=by
 have hpl:ps.length<=N.length:=by have:=congrArg CC S.pre;rw[C7]at this;lia
 let⟨h1,tk,rfl,hk⟩:=x.done;have noA:∀b:AH,b∉(yap CX P w K mg base N qual scope f cd A outer s H E).ex:=λb z=>absurd (show b∈([]:List AH)from z) (by simp);refine⟨⟨e0.mod,S.kind,rfl,rfl,AU _,λy z c h1 h2=>?_,λy hy=>?_,λy c _ h=>?_,λ_=>hd,Around.frames_deeper e0.frames,.inr ⟨rfl,rfl⟩,λb z=>absurd z (noA b),e0.bs,e0.bsz,λb _ _=>noA b,λb z=>absurd z (noA b),e0.funs,e0.frf⟩,
  rfl,e0.bare,Un.kept hk,⟨_,x.toInCall.ns,λi y v h1 h2 h3=>?_⟩,λy c h=>⟨_,x.cell y c h⟩,e0.hok.fresh (AU _),λy c h=>?_,λp hp=>absurd (show p∈([]:List (AH×B1))from hp) (by simp),e0.hok.kept hk,?_⟩
 .exact name_of_addr x.apart (Bp h1) (Bp h2)
 .have hy:scope.names.lookup y=AA .cell \/ scope.names.lookup y=AA .free:=hy;rcases hy with hy|hy
  .exact zb6 hy
  .exact absurd rfl (S.nofree _ (Bp hy))
 .exact Ei (x.above y c (Bp h))
 .have hi:i<vs.length:=by
   unfold start at h2
   by_cases hi:i<vs.length
   .exact hi
   .rw[Aa (by simpa using hi)]at h2;rw[D4]at h2;split at h2<;>cases h2
  have ha:vs[i]?=AA v:=by
   unfold start at h2;rw[A5 (by simpa using hi),BU]at h2
   cases e:vs[i]? with
   |none=>rw[e]at h2;cases h2
   |some a=>rw[e]at h2;cases h2;rfl
  let⟨u,hu,rv⟩:=r.get ha;have hp:ps[i]?=AA y:=by
   rw[<-S.pre,List.getElem?_take_of_lt ∅];exact h1
  have ndP:ps.Nodup:=by rw[<-S.pre];exact S.nd.sublist (List.take_sublist _ _)
  refine⟨u,rv,?_⟩;rcases S.par y (AV hp)with k|k
  .exact .inl ⟨k,zbq ndP hp hu k⟩
  .let⟨c,e⟩:=zb6 (n:=s.heap.objs.size+1) k;refine .inr ⟨.inl k,c,e,?_⟩;have q:=x.cell y c e;rw[zbc ndP hp hu (by show scope.names.lookup y≠_;rw[k];decide)]at q;exact q
 .exact e0.hok.fresh (Ei (x.above y c (Bp h)))
 .unfold start;show _=N.length;rw[An,A4,List.length_replicate];lia
def ziS{CX:CXT}{P:A1}{w:A8}{K:AB}{mg:AM->Option AE}{base:Aq}{k:Nat}{f:AH}{name qual:AM}{params:Arguments}{body:List BS}{scope:BB}{dV kV doc pm cdv ct oc:AE}{an od:Option AH}
  {osl:Array (Option AE)} {N ps:List AM} {sp:Sp} (lk:K.lookup f=AA ⟨oc,od,.func (BD name qual params body scope dV kV doc pm an cdv ct),osl⟩) (hcd:B5 K cdv qual=AD) (S:yak N ps scope)
  (len:∀vs H Q E,sp vs H Q E->vs.length=ps.length)
  (hbody:∀(A:A9) (outer:List Env) (s:AI) (H:Hp) (vs:List V) (Q:VK) (E:XK),yaj k (A.deeper (envOfC qual scope s.heap.objs.size f cdv))->sp vs H Q E ->
   ∃t,PSs (yap CX P w K mg base N qual scope f cdv A outer s H E) body t/\t {nx:=λ_ H'=>Q .non H',rt:=Q} (start N vs) H):
  yav P w K mg base CX (k+1) f (BD name qual params body scope dV kV doc pm an cdv ct) ps sp:=by
 refine⟨len,λA outer s H args us vs Q E hr e0 hb r hsp=>?_⟩;have hl:=len _ _ _ _ hsp;have KX:K.In s.heap:=e0.mod.kin.keeps λb o e=>(e0.bs b o e).1;have lim:s.heap.NoLimit:=e0.mod.nolimit.keeps λb o e=>(e0.bs b o e).1;have hkind:∀y∈ps.zip us,scope.names.lookup y.1=AA .local \/ (scope.names.lookup y.1=AA .cell/\((cellsFrom (s.heap.objs.size+1) scope.names []).lookup y.1).isSome=AD):=λ⟨n,v⟩ hy=>by
  rcases S.par n (Cn hy).1 with q|q
  .exact .inl q
  .exact .inr ⟨q,CV _ _ _ (.inl q)⟩
 refine Dw hr.depth (KX _ _ lk) rfl S.co S.gen rfl (Eb KX hcd) (hb _ _ _ _ ?_);refine DC S.kind hkind λenv he s1 x=>?_;subst he;refine⟨lim.keeps x.toInCall.keep,codeAny_func ?_⟩;let⟨t,ht,hq⟩:=hbody A outer s H vs Q E (hr.deeper _) hsp;have I:Inv (yap CX P w K mg base N qual scope f cdv A outer s H E) [] (start N vs) H s1:=zbe S hr.hd e0 hl r x;refine CB (ht [] s1 (start N vs) H _ I hq) (λfl s' hs=>?_) λe s' hs=>hs;have fin:∀{σ':St} {H':Hp} {v:V} {u:AE},Inv (yap CX P w K mg base N qual scope f cdv A outer s H E) [] σ' H' s'->RelV v u->Q v H'->CE outer P w H s Q u s':=
  λ{σ' H' v u} J rv q=>⟨v,H',J.os,J.bare,J.base,J.hok,rv,q⟩
 cases fl with
 |ret u=>
  let⟨v,σ',H',J,rv,q⟩:=hs;exact fin J rv q
 |next=>
  let⟨σ',H',J,q⟩:=hs;exact fin (v:=V.non) (u:=BW) J rfl q
 |brk=>
  let⟨_,_,_,q⟩:=hs;exact BF q
 |cont=>
  let⟨_,_,_,q⟩:=hs;exact BF q
section
variable {X:Cx}{x:AM}{p pos:Ba}{e:AO}{es:List AO}{t:TA}{id T:String}{r:List V->Hp->VK->Prop}
def tCB(r:List V->Hp->VK->Prop)(t:TA):TE:=λσ H Q=>t σ H λvs H1=>r vs H1 Q
def zb9(hc:yJ X (.builtin id) r)(hg:Gl X x)(hm:X.mg x=AC)(hv:bootBuiltins x=AA (.builtin id))(ha:PA X (e::es) t)(hn:x ≠ "__name__":=by decide)(hdb:(x==("__debug__":AM))=false:=by decide)
  (he:starEach (e::es) X.env=(AF,eval e X.env)::starEach es X.env:=by rfl) (hpl:(backTo pos (starEach es X.env)).any (·.1)=false:=by rfl):PE X (.Call (.Name x p) (e::es) [] pos) (tCB r t):=by
 intro π s σ H Q I h;refine BP (zaU I hg hm hv ?_ hn hdb);exact FG (thn (ha pos π s σ H _ I h) λus s1 ⟨vs,H1,I1,r1,q1⟩=>hc π s1 σ H1 vs us Q I1 r1 q1) he hpl
def zbd(hc:yJ X (.type T) r)(hg:Gl X x)(hm:X.mg x=AC)(hv:bootBuiltins x=AA (.type T))(ha:PA X (e::es) t)(hn:x ≠ "__name__":=by decide)(hdb:(x==("__debug__":AM))=false:=by decide)
  (he:starEach (e::es) X.env=(AF,eval e X.env)::starEach es X.env:=by rfl) (hpl:(backTo pos (starEach es X.env)).any (·.1)=false:=by rfl):PE X (.Call (.Name x p) (e::es) [] pos) (tCB r t):=by
 intro π s σ H Q I h;refine BP (zaU I hg hm hv ?_ hn hdb);exact B3 (thn (ha pos π s σ H _ I h) λus s1 ⟨vs,H1,I1,r1,q1⟩=>hc π s1 σ H1 vs us Q I1 r1 q1) he hpl
end
end L2
namespace HT
open PySem PyProof.Rows
section
open PySem.SeqAt
open PySem.AutoSeq1 (wpAny_loadPart')
open PySem.MeetsSeq PySem.MeetsSeq2 PySem.MeetsSeq3
end
section
variable {prog:A1}{w:A8}{A:A9}{E:AE->AI->Prop}{s:AI}
theorem cat_tup{t b:AH}{vs ws:List AE}{Q:AE->AI->Prop}(ht:IsTup s.heap t vs.toArray)(hb:IsTup s.heap b ws.toArray)(hv:vs≠[])
  (h1:ws=[]->Q (.ref t) s) (h2:ws≠[]->Q (.ref s.heap.objs.size) {s with heap:=s.heap.push {cls:=.type "tuple",data:=.seq (vs++ws).toArray} })
  (hsz:vs.length+ws.length<=sizeLine):AZ (model prog w) A (binaryOp .Add (.ref t) (.ref b)) Q E s:=by
 let⟨⟨cls,dd,data,sl⟩,ho,hc,n,hd⟩:=id ht;let⟨⟨cls2,dd2,data2,sl2⟩,ho2,hc2,n2,hd2⟩:=id hb;simp only at hc hd hc2 hd2;subst hc hd hc2 hd2;have e:vs.toArray++ws.toArray=(vs++ws).toArray:=by simp
 by_cases hw:ws=[]
 .exact Ep ⟨_,ho,rfl⟩ ⟨_,ho2,rfl⟩ D5 EY CW CP (CL _ _)
   (tuple_addW1 t b vs.toArray ws.toArray n n2 dd dd2 sl sl2 (by simpa using hv) (by simp[hw])) ⟨ho,ho2,h1 hw⟩
 .refine Ep ⟨_,ho,rfl⟩ ⟨_,ho2,rfl⟩ D5 EY CW CP (CL _ _)
   (tuple_addW2 t b vs.toArray ws.toArray n n2 dd dd2 sl sl2 (by simpa using hv) (by simpa using hw) (by rw[AR,AR];exact hsz)) ⟨ho,ho2,?_⟩
  rw[e];exact h2 hw
def sIx(n d:Nat):Option Int->Nat
 |none=>d
 |some v=>if v<0 then(v+(n:Int)).toNat else min v.toNat n
theorem sIx_le(n d:Nat)(hd:d<=n)(o:Option Int):sIx n d o<=n:=by
 cases o with
 |none=>exact hd
 |some v=>
  show (if v<0 then(v+(n:Int)).toNat else min v.toNat n)<=n
  by_cases hv:v<0
  .rw[if_pos hv];lia
  .rw[if_neg hv];exact Nat.min_le_right _ _
def zdI(v:Int)(n d:Nat):(if v<0 then max (v+(n:Int)) 0 else min v (n:Int))=((sIx n d (AA v):Nat):Int):=by
 show (if v<0 then max (v+(n:Int)) 0 else min v (n:Int))=(((if v<0 then(v+(n:Int)).toNat else min v.toNat n):Nat):Int)
 by_cases hv:v<0
 .simp only[if_pos hv];lia
 .simp only[if_neg hv];lia
def zcA(lo hi:Option Int)(n:Nat):CJ lo hi 1 (n:Int)=(((sIx n 0 lo:Nat):Int),((sIx n n hi:Nat):Int)):=by
 have h1:¬((1:Int)<0):=by lia
 unfold CJ;erw[h1,if_false];refine Prod.ext ?_ ?_
 .cases lo with
  |none=>rfl
  |some v=>exact zdI v n 0
 .cases hi with
  |none=>rfl
  |some v=>exact zdI v n n
def zcB(i j:Nat):Bb (i:Int) (j:Int) 1=j-i:=by
 unfold Bb;have h1:(1:Int) > 0:=by lia
 erw[h1,if_true,Int.ediv_one];split<;>lia
def zaT{v:AE}{o:Option Int}{Q:Option Int->AI->Prop}(p:Dg v o)(h:Q o s):AZ (model prog w) A (FM v) Q E s:=by
 cases p with
 |none=>exact slicePart_none h
 |int i t=>exact slicePart_int h
theorem sliceApplied_gen{sl:AH}{vl vu:AE}{lo hi:Option Int}{n:Nat}{Q:Int×Int×Nat->AI->Prop}(hs:s.heap.IsSliceOf sl vl vu .none)(pl:Dg vl lo)(pu:Dg vu hi)
  (h:Q (((sIx n 0 lo:Nat):Int),1,sIx n n hi-sIx n 0 lo) s):AZ (model prog w) A (DD (.ref sl) (pure (n:Int))) Q E s:=by
 let⟨os,hos,hcs,hds⟩:=id hs;unfold DD F6;refine AJ (AJ (Bt hos hds (x:=vl) rfl (AJ (Bt hos hds (x:=vu) rfl (AJ (Bt hos hds (x:=.none) rfl (AT ?_)))))));refine AJ (slicePart_none ?_);show AZ _ _ (if ((1:Int)==0)=AD then _ else _) _ _ s;rw[if_neg ⋯];refine AJ (zaT pl (AJ (zaT pu (AJ (AT ?_)))));show AZ _ _ (match CJ lo hi 1 (n:Int)with|(lo,hi)=>pure (lo,(1:Int),Bb lo hi 1)) _ _ s;rw[zcA lo hi n];show AZ _ _ (pure (((sIx n 0 lo:Nat):Int),(1:Int),Bb ((sIx n 0 lo:Nat):Int) ((sIx n n hi:Nat):Int) 1)) _ _ s;rw[zcB];exact AT h
def zd9(xs:Array AE)(i k:Nat):((CN k).filterMap λ(m:Nat)=>xs[((i:Int)+(m:Int)*1).toNat]?).toArray=((xs.toList.drop i).take k).toArray:=by
 have e:(λ(m:Nat)=>xs[((i:Int)+(m:Int)*1).toNat]?)=λm=>xs[i+m]?:=by
  funext m
  have:((i:Int)+(m:Int)*1).toNat=i+m:=by lia
  rw[this]
 rw[e];have:=pick_run xs i k;rw[List.filterMap_map]at this;have e2:((λx=>xs[x]?) ∘ λx=>i+x)=λm=>xs[i+m]?:=rfl;rw[e2]at this;rw[this]
theorem getItem_tuple_cut{t sl:AH}{items:Array AE}{vl vu:AE}{lo hi:Option Int}{Q:AE->AI->Prop}(ht:IsTup s.heap t items)(hs:s.heap.IsSliceOf sl vl vu .none)(pl:Dg vl lo)(pu:Dg vu hi)
  (hw:¬(sIx items.size 0 lo=0/\sIx items.size items.size hi=items.size))
  (h:Q (.ref s.heap.objs.size) {s with heap:=s.heap.push {cls:=.type "tuple",data:=.seq ((items.toList.drop (sIx items.size 0 lo)).take (sIx items.size items.size hi-sIx items.size 0 lo)).toArray} })
  (hsz:items.size<=sizeLine):AZ (model prog w) A (getItem (.ref t) (.ref sl)) Q E s:=by
 have htake:sizeOk (.seq ((items.toList.drop (sIx items.size 0 lo)).take (sIx items.size items.size hi-sIx items.size 0 lo)).toArray):=by
  show ((items.toList.drop (sIx items.size 0 lo)).take (sIx items.size items.size hi-sIx items.size 0 lo)).toArray.size<=sizeLine;rw[AR,C7,C8,B0];lia
 have hj:sIx items.size items.size hi<=items.size:=sIx_le _ _ (AU _) hi;let⟨os,hos,hcs,hds⟩:=id hs;have hTs:s.TypeIs (.ref sl) "slice":=⟨os,hos,hcs⟩;unfold getItem
 try with_reducible refine By ?_
 first|refine AJ (AT ?_)|skip
 refine AJ (Es ht.typeIs ⋯ ?_);refine AJ (Br (name:=AK "__getitem__") ht.typeIs Ao
  (C9 Ao ht.typeIs ET ?_ (Ec _ _)))
 show AZ _ _ (DE (.ref t) >>= _) _ _ s;refine AJ (EQ ht ?_);refine AJ (Cq hTs ?_);rw[if_pos ⋯];refine AJ (sliceApplied_gen hs pl pu ?_);have hno:¬((((sIx items.size 0 lo:Nat):Int)==0&&(1:Int)==1&&(sIx items.size items.size hi-sIx items.size 0 lo)==items.size)=AD):=by
  intro q;rw[AG,AG]at q;have q1:((sIx items.size 0 lo:Nat):Int)=0:=eq_of_beq q.1.1;have q2:sIx items.size items.size hi-sIx items.size 0 lo=items.size:=eq_of_beq q.2;exact hw ⟨by lia,by lia⟩
 show AZ _ _ (if (((sIx items.size 0 lo:Nat):Int)==0&&(1:Int)==1&&(sIx items.size items.size hi-sIx items.size 0 lo)==items.size)=AD then _ else _) _ _ s;rw[if_neg hno,zd9]
 first
  |exact AJ (m:=Bn _) (BO (AT ⟨_,rfl,AT h⟩) htake)
  |exact AJ (m:=Bn _) (BO (AJ (AT (AT ⟨_,rfl,AT h⟩))) htake)
  |exact AJ (AJ (m:=Bn _) (BO (AT (AT ⟨_,rfl,AT h⟩)) htake))
  |exact AJ (AJ (m:=Bn _) (BO (AT ⟨_,rfl,AT h⟩) htake))
end
end HT
namespace L2
open PySem PySem.Spec PyProof.Rows
abbrev TO:=St->Hp->(Option Int->Hp->Prop)->Prop
def PO(X:Cx)(e:Option AO)(t:TO):Prop:=
 ∀(π:List (AH×B1)) (s:AI) (σ:St) (H:Hp) (Q:Option Int->Hp->Prop),Inv X π σ H s->t σ H Q ->
  AZ (model X.prog X.w) X.A (evalPart e X.env) (λu s'=>∃o H',Inv X π σ H' s'/\Dg u o/\Q o H') X.xe s
def ybV:TO:=λ_ H Q=>Q AC H
def zaG{ns:List Int}:∀{us:List AE},Vals (ns.map V.int) us->Dh us ns:=by
 induction ns with
 |nil=>intro us r;rw[BE]at r;cases r;exact .nil
 |cons n ns ih=>
  intro us r;rw[AL]at r
  cases r with
  |cons r1 r2=>
   let⟨t,e⟩:=r1;subst e;exact .cons n t (ih r2)
section
variable {X:Cx}{e:AO}{te:TE}{lo hi:Option AO}{tl th:TO}{pos p2:Ba}
def zgm:PO X AC ybV:=by
 intro π s σ H Q I h;rw[evalPart_none];exact AT ⟨AC,H,I,.none,h⟩
def SlR(X:Cx)(r:V->Option Int->Option Int->Hp->VK->Prop):Prop:=
 ∀(π:List (AH×B1)) (s:AI) (σ:St) (H:Hp) (x:V) (v vl vu:AE) (lo hi:Option Int) (sl:AH) (Q:VK),Inv X π σ H s->RelV x v->s.heap.IsSliceOf sl vl vu .none->Dg vl lo->Dg vu hi->r x lo hi H Q ->
  ∃T id,typeLookup (.type T) "__getitem__"=pure (AA (.builtin id))/\s.TypeIs v T/\AZ (model X.prog X.w) X.A (getItem v (.ref sl)) (EP X π σ Q) X.xe s
def tSl(r:V->Option Int->Option Int->Hp->VK->Prop)(te:TE)(tl th:TO):TE:=λσ H Q=>te σ H λx H1=>tl σ H1 λl H2=>th σ H2 λu H3=>r x l u H3 Q
def zeJ{r:V->Option Int->Option Int->Hp->VK->Prop}(hr:SlR X r)(he:PE X e te)(hl:PO X lo tl)(hu:PO X hi th):PE X (.Subscript e (.Slice lo hi AC p2) pos) (tSl r te tl th):=by
 intro π s σ H Q I h;refine Subscript_ (thn (he π s σ H _ I h) λv s1 kq=>?_);let⟨x,H1,I1,r1,q1⟩:=kq;refine wpAny_Slice (thn (hl π s1 σ H1 _ I1 q1) λvl s2 kq=>?_);let⟨l,H2,I2,pl,q2⟩:=kq;refine thn (hu π s2 σ H2 _ I2 q2) λvu s3 kq=>?_;let⟨u,H3,I3,pu,q3⟩:=kq;rw[evalPart_none];refine AT ?_;have I4:Inv X π σ H3 {s3 with heap:=s3.heap.push {cls:=.type "slice",data:=.fields #[vl,vu,.none]} }:=I3.kept (t':=s3.toks) λb ob q=>AN _ q;let⟨T,id,hT,ht,hg⟩:=hr π {s3 with heap:=s3.heap.push {cls:=.type "slice",data:=.fields #[vl,vu,.none]} } σ H3 x v vl vu l u s3.heap.objs.size Q I4 r1 (GM ..) pl pu q3;show AZ (model X.prog X.w) X.A (subscriptTail e (.Slice lo hi AC p2) v (.ref s3.heap.objs.size)) (EP X π σ Q) X.xe {s3 with heap:=s3.heap.push {cls:=.type "slice",data:=.fields #[vl,vu,.none]} };exact tail_any (ops:=[.ref s3.heap.objs.size,v]) ht hT hg (by with_unfolding_all rfl)
def ybC(xs:List V)(lo hi:Option Int):List V:=(xs.drop (HT.sIx xs.length 0 lo)).take (HT.sIx xs.length xs.length hi-HT.sIx xs.length 0 lo)
def zax(xs:List V)(lo hi:Option Int):(ybC xs lo hi).length<=xs.length:=by
 unfold ybC;rw[C7,C8];lia
def yeX(K:AB):V->Option Int->Option Int->Hp->VK->Prop:=λx lo hi H Q=>∃a xs,x=.ref a/\SqT K H a xs /\
 ¬(HT.sIx xs.length 0 lo=0/\HT.sIx xs.length xs.length hi=xs.length)/\∀p,H p=AC->Q (.ref p) (upd H p (.tup (ybC xs lo hi)))
def zh1:SlR X (yeX X.K):=by
 intro π s σ H x v vl vu lo hi sl Q I rx hs pl pu h;let⟨a,xs,rfl,hx,hw,q⟩:=h
 cases rx
 let⟨its,r,ht,hz⟩:=I.tuple hx;have hlen:its.toArray.size=xs.length:=by rw[AR];exact r.length.symm
 refine⟨"tuple",_,Ao.lookup,ht.typeIs,?_⟩;refine HT.getItem_tuple_cut ht hs pl pu (by rw[hlen];exact hw) ?_ (by rw[hlen];exact hz);rw[hlen];refine⟨.ref s.heap.objs.size,_,I.laid (t':=s.toks) (o:=.tup (ybC xs lo hi)) (λb ob q=>AN _ q) (AU _) ?_,rfl,q _ (I.hok.fresh (AU _))⟩;exact⟨BC (zax xs lo hi) hz,_,(r.drop (HT.sIx xs.length 0 lo)).take (HT.sIx xs.length xs.length hi-HT.sIx xs.length 0 lo),A3 _ rfl⟩
def ycV(K:AB):R2:=λx y H Q=>∃a b xs ys,x=.ref a/\y=.ref b/\SqT K H a xs/\SqT K H b ys/\xs≠[]/\xs.length+ys.length<=sizeLine /\
 (ys=[]->Q (.ref a) H)/\(ys≠[]->∀p,H p=AC->Q (.ref p) (upd H p (.tup (xs++ys))))
theorem Vals.nil_iff{xs:List V}{us:List AE}(r:Vals xs us):us=[] ↔ xs=[]:=by
 cases r with
 |nil=>simp
 |cons _ _=>simp
def zfK:OpR X (binaryOp .Add) (ycV X.K):=by
 intro π s σ H x y v u Q I rx ry h;let⟨a,b,xs,ys,rfl,rfl,ha,hb,hx,hz,q1,q2⟩:=h
 cases rx
 cases ry
 let⟨its,r1,p1,_⟩:=I.tuple ha;let⟨its2,r2,p2,_⟩:=I.tuple hb;refine HT.cat_tup p1 p2 (λz=>hx (r1.nil_iff.mp z)) (λz=>⟨.ref a,H,I,rfl,q1 (r2.nil_iff.mp z)⟩) (λz=>?_) (by rw[<-r1.length,<-r2.length];exact hz);refine⟨.ref s.heap.objs.size,_,I.laid (t':=s.toks) (o:=.tup (xs++ys)) (λb ob q=>AN _ q) (AU _) ?_,rfl,q2 (λw=>z (r2.nil_iff.mpr w)) _ (I.hok.fresh (AU _))⟩;exact⟨by rw[An];exact hz,_,r1.append r2,A3 _ rfl⟩
end
def ixN(n:Nat)(i:Int):Option Nat:=if 0<=i then(if i<n then AA i.toNat else AC)else if -(n:Int)<=i then AA (i+n).toNat else AC
def atI{α:Type}(xs:List α)(i:Int):Option α:=(ixN xs.length i).bind λj=>xs[j]?
def zdn{n:Nat}{i:Int}{j:Nat}(h:ixN n i=AA j):seqIndex? i n=AA j/\j<n/\-(n:Int)<=i/\i<n:=by
 unfold ixN at h
 by_cases h0:0<=i
 .rw[if_pos h0]at h
  by_cases h1:i<n
  .rw[if_pos h1]at h;have e:i.toNat=j:=AW h;exact⟨by rw[FK h0 h1,e],by lia,by lia,h1⟩
  .rw[if_neg h1]at h;cases h
 .rw[if_neg h0]at h
  by_cases h1:-(n:Int)<=i
  .rw[if_pos h1]at h;have e:(i+n).toNat=j:=AW h;exact⟨by rw[seqIndex_neg ∅ h1,e],by lia,h1,by lia⟩
  .rw[if_neg h1]at h;cases h
def zbJ{α:Type}{xs:List α}{i:Int}{v:α}(h:atI xs i=AA v):∃j,seqIndex? i xs.length=AA j/\xs[j]?=AA v/\j<xs.length/\-(xs.length:Int)<=i/\i<xs.length:=by
 unfold atI at h
 cases e:ixN xs.length i with
 |none=>rw[e]at h;cases h
 |some j=>
  rw[e]at h;let⟨h1,h2,h3,h4⟩:=zdn e;exact⟨j,h1,h,h2,h3,h4⟩
def yaR(b:AO):Prop:=∀o i,subscripted b AF o i=operate [o,i] (getItem o i)
def IxR(X:Cx)(r:R2):Prop:=
 ∀(value slice:AO) (π:List (AH×B1)) (s:AI) (σ:St) (H:Hp) (x y:V) (v u:AE) (Q:VK),Inv X π σ H s->RelV x v->RelV y u->r x y H Q ->
  subscripted slice AF v u=operate [v,u] (getItem v u)->AZ (model X.prog X.w) X.A (subscriptTail value slice v u) (EP X π σ Q) X.xe s
def MtR(X:Cx)(id:String)(r:V->List V->Hp->VK->Prop):Prop:=
 ∀(π:List (AH×B1)) (s:AI) (σ:St) (H:Hp) (x:V) (xs:List V) (v:AE) (us:List AE) (Q:VK),Inv X π σ H s->RelV x v->Vals xs us->r x xs H Q ->
  AZ (model X.prog X.w) X.A (call (.builtin id) (v::us)) (EP X π σ Q) X.xe s
section
variable {X:Cx}{a b:AO}{ta tb:TE}{pos:Ba}
theorem IxR.or{r r':R2}(h:IxR X r)(h':IxR X r'):IxR X (λx y H Q=>r x y H Q \/ r' x y H Q):=by
 intro value slice π s σ H x y v u Q I rx ry q hs;rcases q with q|q
 .exact h value slice π s σ H x y v u Q I rx ry q hs
 .exact h' value slice π s σ H x y v u Q I rx ry q hs
def zi3{r:R2}(hr:IxR X r)(ha:PE X a ta)(hb:PE X b tb)(hs:yaR b):PE X (.Subscript a b pos) (tOp r ta tb):=by
 intro π s σ H Q I h;exact Subscript_ (zeb ha hb I h λv u s2 x y H2 I2 rx ry q=>hr a b π s2 σ H2 x y v u Q I2 rx ry q (hs _ _))
def ydW(K:AB):R2:=λx y H Q=>∃p xs i v,x=.ref p/\y=.int i/\SqL K H p xs/\atI xs i=AA v/\Q v H
def ydN(K:AB):R2:=λx y H Q=>∃p xs i v,x=.ref p/\y=.int i/\SqT K H p xs/\atI xs i=AA v/\Q v H
def yef:R2:=λx y H Q=>∃z i c,x=.str z/\y=.int i/\z.length<=sizeLine/\atI z.cps.toList i=AA c/\Q (.str ⟨#[c]⟩) H
def zjk:IxR X (ydW X.K):=by
 intro value slice π s σ H x y v u Q I rx ry h hs;let⟨p,xs,i,z,rfl,rfl,hq,he,q⟩:=h
 cases rx
 let⟨t,rfl⟩:=ry;let⟨its,r,pl,hz⟩:=I.list hq;let⟨j,h1,h2,h3,h4,h5⟩:=zbJ he;let⟨w,ew,rw'⟩:=r.get h2;have hl:=r.length;have hn:=zco;have fin:EP X π σ Q w s:=⟨z,H,I,rw',q⟩
 by_cases h0:0<=i
 .have hj:i.toNat=j:=by
   rw[FK h0 h5]at h1;exact AW h1
  exact item_listR pl.isList h0 ∅ (by rw[hj];simpa using ew) fin hs
 .have hj:(i+(its.toArray.size:Int)).toNat=j:=by
   rw[seqIndex_neg ∅ h4]at h1;rw[AR,<-hl];exact AW h1
  exact Di (x:=w) pl.isList.typeIs Et.lookup
   (wpAny_getItem_list_neg (Q:=λr s'=>r=w/\EP X π σ Q r s') pl.isList ∅ (by rw[AR]<;>lia) ∅ (by rw[hj];simpa using ew) ⟨rfl,fin⟩) hs
def zjl:IxR X (ydN X.K):=by
 intro value slice π s σ H x y v u Q I rx ry h hs;let⟨p,xs,i,z,rfl,rfl,hq,he,q⟩:=h
 cases rx
 let⟨t,rfl⟩:=ry;let⟨its,r,pl,hz⟩:=I.tuple hq;let⟨j,h1,h2,h3,h4,h5⟩:=zbJ he;let⟨w,ew,rw'⟩:=r.get h2;have hl:=r.length;have hn:=zco;have fin:EP X π σ Q w s:=⟨z,H,I,rw',q⟩;exact Di (x:=w) pl.typeIs Ao.lookup
  (getItem_tuple (j:=j) (Q:=λr s'=>r=w/\EP X π σ Q r s') pl ∅ ∅ (by rw[AR,<-hl];exact h1) (by simpa using ew) ⟨rfl,fin⟩) hs
def zhB:IxR X yef:=by
 intro value slice π s σ H x y v u Q I rx ry h hs;let⟨z,i,c,rfl,rfl,hz,he,q⟩:=h;let⟨t,rfl⟩:=rx;let⟨t',rfl⟩:=ry;let⟨j,h1,h2,h3,h4,h5⟩:=zbJ he;have hl:z.cps.toList.length=z.length:=by simp[Str.length]
 rw[hl]at h1 h4 h5;have hn:=zco;exact tail_any (FY s z t) slot_str_getitem.lookup (getItem_str (c:=c) (by
  have e1:decide (i < -(2^63:Int))=false:=decide_eq_false ∅;have e2:decide (i ≥ 2^63)=false:=decide_eq_false ∅;rw[e1,e2,EZ]) (by rw[h1];simpa using h2) ⟨.str ⟨#[c]⟩,H,I.tok _,⟨_,rfl⟩,q⟩) hs
def rIx(K:AB):R2:=λx y H Q=>ydW K x y H Q \/ ydN K x y H Q \/ yef x y H Q
def zb8:IxR X (rIx X.K):=zjk.or (zjl.or zhB)
def zcx(its:List AE)(n j:Nat)(u:AE):Dj (·.setIfInBounds j u) {cls:=.type "list",data:=.seq its.toArray n}={cls:=.type "list",data:=.seq (its.set j u).toArray n}:=by
 simp[Dj]
theorem Inv.lst{π:List (AH×B1)}{σ:St}{H:Hp}{s:AI}{p:AH}{xs:List V}(I:Inv X π σ H s)(h:H p=AA (.lst xs)):
  ∃(its:List AE) (n:Nat),Vals xs its/\s.heap.get? p=AA {cls:=.type "list",data:=.seq its.toArray n}/\xs.length<=sizeLine:=by
 let⟨z,its,n,r,e⟩:=I.hok p _ h;exact⟨its,n,r,e,z⟩
theorem Inv.lstUpd{π:List (AH×B1)}{σ:St}{H:Hp}{s:AI}{p:AH}{xs ys:List V}{its its':List AE}{n n':Nat}{f:B1->B1}(I:Inv X π σ H s)(h:H p=AA (.lst xs))
  (ho:s.heap.get? p=AA {cls:=.type "list",data:=.seq its.toArray n}) (hf:f {cls:=.type "list",data:=.seq its.toArray n}={cls:=.type "list",data:=.seq its'.toArray n'}) (r:Vals ys its') (hz:ys.length<=sizeLine) (t:Nat):
  Inv X π σ (upd H p (.lst ys)) {s with heap:=s.heap.update p f,toks:=t}:=by
 have e:(s.heap.update p f).get? p=AA {cls:=.type "list",data:=.seq its'.toArray n'}:=by
  rw[Dx f ho (by rw[hf]<;>rfl),hf]
 refine I.write (x:=p) (e:=p) (by rw[h];trivial) (.inl rfl) (λb u hb q=>(CY _ _ (B9 hb)).trans q) ⟨_,e⟩ ?_;exact⟨hz,its',n',r,e⟩
def yck:V->V->V->Hp->(Hp->Prop)->Prop:=λo i v H Q=>∃p xs k j,o=.ref p/\i=.int k/\H p=AA (.lst xs)/\ixN xs.length k=AA j/\Q (upd H p (.lst (xs.set j v)))
def zck:ydQ X yck:=by
 intro π s σ H o i v ov iv u Q I ro ri rv h;let⟨p,xs,k,j,rfl,rfl,hp,hj,q⟩:=h
 cases ro
 let⟨t,rfl⟩:=ri;let⟨its,n,r,ho,hz⟩:=I.lst hp;let⟨h1,h2,h3,h4⟩:=zdn hj;have hl:=r.length;have hn:=zco;have I':Inv X π σ (upd H p (.lst (xs.set j v))) {s with heap:=s.heap.update p (Dj (·.setIfInBounds j u))}:=
  I.lstUpd hp ho (zcx its n j u) (r.set rv j) (by rw[Aw];exact hz) s.toks
 by_cases h0:0<=k
 .have hk:k.toNat=j:=by
   rw[FK h0 h4]at h1;exact AW h1
  exact PySem.W.ki_setAt ho h0 ∅ (by rw[AR,<-hl];exact h4) (by rw[hk];exact⟨_,I',q⟩)
 .have hk:(k+(its.toArray.size:Int)).toNat=j:=by
   rw[seqIndex_neg ∅ h3]at h1;rw[AR,<-hl];exact AW h1
  exact PySem.W.ki_setBack ho ∅ (by rw[AR,<-hl];exact h3) ∅ (by rw[hk];exact⟨_,I',q⟩)
def zbh(lo hi:Option Int)(n:Nat):(sliceBounds lo hi AC n).1=((HT.sIx n 0 lo:Nat):Int)/\(sliceBounds lo hi AC n).2.1=((HT.sIx n n hi:Nat):Int)/\(sliceBounds lo hi AC n).2.2=1:=by
 refine⟨?_,?_,rfl⟩
 .cases lo with
  |none=>simp[sliceBounds,HT.sIx]
  |some i=>
   erw[sliceBounds,HT.sIx,D6,show (1:Int) > 0 by decide,if_true]
   by_cases h:i<0
   .simp only[h,if_true]<;>lia
   .simp only[h,if_false]<;>lia
 .cases hi with
  |none=>simp[sliceBounds,HT.sIx]
  |some i=>
   erw[sliceBounds,HT.sIx,D6,show (1:Int) > 0 by decide,if_true]
   by_cases h:i<0
   .simp only[h,if_true]<;>lia
   .simp only[h,if_false]<;>lia
def za4(its:List AE)(lo hi:Option Int):slicePick its.toArray lo hi AC=((its.drop (HT.sIx its.length 0 lo)).take (HT.sIx its.length its.length hi-HT.sIx its.length 0 lo)).toArray:=by
 let⟨h1,h2,h3⟩:=zbh lo hi its.toArray.size;unfold slicePick;rw[h1,h2,h3];erw[sliceRange_one,pick_run,AR]<;>rfl
def yfe(K:AB):V->Option Int->Option Int->Hp->VK->Prop:=λx lo hi H Q=>∃a xs,x=.ref a/\SqL K H a xs/\∀p,H p=AC->Q (.ref p) (upd H p (.lst (ybC xs lo hi)))
def zdC:SlR X (yfe X.K):=by
 intro π s σ H x v vl vu lo hi sl Q I rx hs pl pu h;let⟨a,xs,rfl,hx,q⟩:=h
 cases rx
 let⟨its,r,ht,hz⟩:=I.list hx;have hlen:=r.length;refine⟨"list",_,Et.lookup,ht.isList.typeIs,?_⟩;refine wpAny_getItem_list_slice ht.isList hs pl pu .none (by simp) ?_ (by rw[AR]<;>lia);rw[za4,<-hlen];refine⟨.ref s.heap.objs.size,_,I.laid (t':=s.toks) (o:=.lst (ybC xs lo hi)) (λb ob q=>AN _ q) (AU _) ?_,rfl,q _ (I.hok.fresh (AU _))⟩;exact⟨BC (zax xs lo hi) hz,_,0,(r.drop (HT.sIx xs.length 0 lo)).take (HT.sIx xs.length xs.length hi-HT.sIx xs.length 0 lo),A3 _ rfl⟩
def yab:V->Bool
 |.non=>AD
 |.bl _=>AD
 |.int _=>AD
 |.str _=>AD
 |_=>AF
def eqV:V->V->Bool
 |.non,.non=>AD
 |.bl a,.bl b=>a==b
 |.bl a,.int b=>(if a then 1 else 0)==b
 |.int a,.bl b=>a==(if b then 1 else 0)
 |.int a,.int b=>a==b
 |.str a,.str b=>a==b
 |_,_=>AF
def zgW{A:A9}{s:AI}{y x:V}{u v:AE}(ry:RelV y u)(rx:RelV x v)(fy:yab y=AD)(fx:yab x=AD):GN A s u v (eqV y x):=by
 cases y with
 |non=>
  cases ry
  cases x with
  |non=>cases rx;exact SeqAt.EqAt.same _
  |bl b=>cases rx;exact SeqAt.EqAt.none_bool b
  |int b=>let⟨t,rfl⟩:=rx;exact SeqAt.EqAt.none_int b t
  |str b=>let⟨t,rfl⟩:=rx;exact SeqAt.EqAt.none_str b t
  |_=>exact absurd (show AF=AD from fx) Ah
 |bl a=>
  cases ry
  cases x with
  |non=>cases rx;exact SeqAt.EqAt.bool_none a
  |bl b=>cases rx;exact SeqAt.EqAt.bool_bool a b
  |int b=>let⟨t,rfl⟩:=rx;exact SeqAt.EqAt.bool_int a b t
  |str b=>let⟨t,rfl⟩:=rx;exact SeqAt.EqAt.bool_str a b t
  |_=>exact absurd (show AF=AD from fx) Ah
 |int a=>
  let⟨t',rfl⟩:=ry
  cases x with
  |non=>cases rx;exact SeqAt.EqAt.int_none a t'
  |bl b=>cases rx;exact SeqAt.EqAt.int_bool a t' b
  |int b=>let⟨t,rfl⟩:=rx;exact SeqAt.EqAt.int_int a t' b t
  |str b=>let⟨t,rfl⟩:=rx;exact E5 a t' b t
  |_=>exact absurd (show AF=AD from fx) Ah
 |str a=>
  let⟨t',rfl⟩:=ry
  cases x with
  |non=>cases rx;exact SeqAt.EqAt.str_none a t'
  |bl b=>cases rx;exact SeqAt.EqAt.str_bool a t' b
  |int b=>let⟨t,rfl⟩:=rx;exact E6 a t' b t
  |str b=>let⟨t,rfl⟩:=rx;exact SeqAt.EqAt.str_str a t' b t
  |_=>exact absurd (show AF=AD from fx) Ah
 |_=>exact absurd (show AF=AD from fy) Ah
def eqU(x:V)(u:AE):Bool:=match u with
 |.none=>eqV .non x
 |.bool b=>eqV (.bl b) x
 |.int i _=>eqV (.int i) x
 |.str z _=>eqV (.str z) x
 |_=>AF
def zbB{x y:V}{u:AE}(r:RelV y u)(f:yab y=AD):eqU x u=eqV y x:=by
 cases y with
 |non=>cases r;rfl
 |bl b=>cases r;rfl
 |int i=>let⟨t,rfl⟩:=r;rfl
 |str z=>let⟨t,rfl⟩:=r;rfl
 |_=>exact absurd (show AF=AD from f) Ah
def zar{x:V}:∀{xs:List V} {us:List AE},Vals xs us->xs.all yab=AD->us.any (eqU x)=xs.any λy=>eqV y x
 |_,_,.nil,_=>rfl
 |y::xs,u::us,.cons r t,f=>by
  rw[Ai,AG]at f;rw[BM,BM,zbB r f.1,zar t f.2]
def zB{A:A9}{s:AI}{x:V}{v:AE}(rx:RelV x v)(fx:yab x=AD):∀{xs:List V} {us:List AE},Vals xs us->xs.all yab=AD->∀u∈us,GN A s u v (eqU x u)
 |_,_,.nil,_=>λu hu=>by cases hu
 |y::xs,u::us,.cons r t,f=>λu' hu=>by
  rw[Ai,AG]at f;rcases Ab.mp hu with rfl|hu
  .rw[zbB r f.1];exact zgW r rx f.1 fx
  .exact zB rx fx t f.2 u' hu
def inV(x:V)(xs:List V):Bool:=xs.any λy=>eqV y x
def rIn(K:AB)(neg:Bool):R2:=λx y H Q=>∃p xs,y=.ref p/\(SqL K H p xs \/ SqT K H p xs)/\yab x=AD/\xs.all yab=AD/\Q (.bl (if neg then !inV x xs else inV x xs)) H
def zbi:OpR X (compareOp .In) (rIn X.K AF):=by
 intro π s σ H x y v u Q I rx ry h;let⟨p,xs,rfl,hq,fx,fs,q⟩:=h
 cases ry
 rcases hq with hq|hq
 .let⟨its,r,pl,hz⟩:=I.list hq;refine SeqAt.in_listAt (eqU x) pl.isList (λw hw=>zB rx fx r fs w (by simpa using hw)) ⟨.bl _,H,I,rfl,?_⟩;rw[show its.toArray.any (eqU x)=its.any (eqU x)by simp,zar r fs];exact q
 .let⟨its,r,pl,hz⟩:=I.tuple hq;refine SeqAt.in_tupleAt (eqU x) pl (λw hw=>zB rx fx r fs w (by simpa using hw)) ⟨.bl _,H,I,rfl,?_⟩;rw[show its.toArray.any (eqU x)=its.any (eqU x)by simp,zar r fs];exact q
def zab:OpR X (compareOp .NotIn) (rIn X.K AD):=by
 intro π s σ H x y v u Q I rx ry h;let⟨p,xs,rfl,hq,fx,fs,q⟩:=h
 cases ry
 rcases hq with hq|hq
 .let⟨its,r,pl,hz⟩:=I.list hq;refine SeqAt.notIn_listAt (eqU x) pl.isList (λw hw=>zB rx fx r fs w (by simpa using hw)) ⟨.bl _,H,I,rfl,?_⟩;rw[show its.toArray.any (eqU x)=its.any (eqU x)by simp,zar r fs];exact q
 .let⟨its,r,pl,hz⟩:=I.tuple hq;refine SeqAt.notIn_tupleAt (eqU x) pl (λw hw=>zB rx fx r fs w (by simpa using hw)) ⟨.bl _,H,I,rfl,?_⟩;rw[show its.toArray.any (eqU x)=its.any (eqU x)by simp,zar r fs];exact q
def zbj:yJ X (.builtin "len") (λxs H Q=>∃p ys,xs=[.ref p]/\(SqL X.K H p ys \/ SqT X.K H p ys)/\Q (.int ys.length) H):=by
 intro π s σ H xs us Q I r h;let⟨p,ys,rfl,hq,q⟩:=h;let⟨u,rfl,rx⟩:=vals1 r
 cases rx
 have hn:=zco;rcases hq with hq|hq
 .let⟨its,r',pl,hz⟩:=I.list hq;have hlen:=r'.length;exact Calls.call_len_list pl.isList (by erw[AR]<;>lia) ⟨.int ys.length,H,I.tok _,⟨s.toks+1,by rw[AR,hlen]⟩,q⟩
 .let⟨its,r',pl,hz⟩:=I.tuple hq;have hlen:=r'.length;exact len_tuple pl (by erw[AR]<;>lia) ⟨.int ys.length,H,I.tok _,⟨s.toks+1,by rw[AR,hlen]⟩,q⟩
def zbn:yJ X (.builtin "len") (λxs H Q=>∃z,xs=[.str z]/\z.length<=sizeLine/\Q (.int z.length) H):=by
 intro π s σ H xs us Q I r h;let⟨z,rfl,hz,q⟩:=h;let⟨u,rfl,t,rfl⟩:=vals1 r;have hn:=zco;exact len_str ∅ ⟨.int z.length,H,I.tok _,⟨_,rfl⟩,q⟩
def zX:yJ X (.type "tuple") (λxs H Q=>∃p ys,xs=[.ref p]/\((SqL X.K H p ys/\∀l,H l=AC->Q (.ref l) (upd H l (.tup ys))) \/ (SqT X.K H p ys/\Q (.ref p) H))):=by
 intro π s σ H xs us Q I r h;let⟨p,ys,rfl,h⟩:=h;let⟨u,rfl,rx⟩:=vals1 r
 cases rx
 rcases h with⟨hq,q⟩|⟨hq,q⟩
 .let⟨its,r',pl,hz⟩:=I.list hq;have hlen:=r'.length;refine call_tuple_list pl.isList (λh' kp=>?_) (by erw[AR]<;>lia);have I1:Inv X π σ H {s with heap:=h'}:=I.kept (t':=s.toks) kp;have I2:Inv X π σ (upd H h'.objs.size (.tup ys)) {s with heap:=h'.push {cls:=.type "tuple",data:=.seq its.toArray} }:=
   I1.laid (t':=s.toks) (λb o e=>AN _ e) (AU _) (show yI X.prog X.w _ _ _ (.tup ys)from ⟨hz,its,r',A3 _ rfl⟩)
  exact⟨.ref h'.objs.size,_,I2,rfl,q _ (I1.hok.fresh (AU _))⟩
 .let⟨its,r',pl,hz⟩:=I.tuple hq;exact call_tuple_same pl ⟨.ref p,H,I,rfl,q⟩
def tyV(K:AB)(T:String)(x:V)(H:Hp):Prop:=match x with
 |.str _=>T="str"
 |.int _=>T="int"
 |.ref p=>(T="list"/\∃xs,SqL K H p xs) \/ (T="tuple"/\∃o,K.lookup p=AA o/\o.cls=.type "tuple"/\o.dict=AC) \/
   (T="dict"/\((∃kvs,H p=AA (.dK kvs)) \/ ∃kvs,H p=AA (.dT kvs))) \/ (T="set"/\∃S n,H p=AA (.set S n))
 |_=>False
def zfa{π:List (AH×B1)}{σ:St}{H:Hp}{s:AI}{T:String}{x:V}{v:AE}(I:Inv X π σ H s)(r:RelV x v)(ty:tyV X.K T x H):
  s.TypeIs v T/\∀a,v=.ref a->∃ob,s.heap.get? a=AA ob/\ob.dict=none:=by
 cases x with
 |str z=>
  let⟨t,rfl⟩:=r
  cases (show T="str" from ty)
  exact⟨FY s z t,λ_ e=>nomatch e⟩
 |int i=>
  let⟨t,rfl⟩:=r
  cases (show T="int" from ty)
  exact⟨typeIs_int s i t,λ_ e=>nomatch e⟩
 |ref p=>
  cases r
  rcases ty with⟨rfl,xs,hq⟩|⟨rfl,o,hk,hc,hd⟩|⟨rfl,hk⟩|⟨rfl,S,n,hk⟩
  .let⟨its,_,pl,_⟩:=I.list hq;refine⟨pl.isList.typeIs,λa e=>?_⟩
   cases e
   let⟨o,n,e,c,hd,_⟩:=pl;exact⟨o,e,hd⟩
  .refine⟨⟨o,I.kIn p o hk,hc⟩,λa e=>?_⟩
   cases e
   exact⟨o,I.kIn _ o hk,hd⟩
  .have z:∃o,s.heap.get? p=AA o/\o.ExactDict:=by
    rcases hk with⟨kvs,hk⟩|⟨kvs,hk⟩
    .let⟨_,_,_,_,o,_,_,e,ex,_⟩:=I.hok p _ hk;exact⟨o,e,ex⟩
    .let⟨_,_,_,_,o,_,_,e,ex,_⟩:=I.hok p _ hk;exact⟨o,e,ex⟩
   let⟨o,e,ex⟩:=z;refine⟨⟨o,e,ex.1⟩,λa e2=>?_⟩
   cases e2
   exact⟨o,e,ex.2.1⟩
  .let⟨o,_,_,_,e,ex,_⟩:=I.hok p _ hk;refine⟨⟨o,e,ex.1⟩,λa e2=>?_⟩
   cases e2
   exact⟨o,e,ex.2.1⟩
 |_=>exact BF ty
def ye1(K:AB)(T:String)(r:V->List V->Hp->VK->Prop)(to:TE):TE:=λσ H Q=>to σ H λx H1=>tyV K T x H1/\r x [] H1 Q
def tBM(K:AB)(T:String)(r:V->List V->Hp->VK->Prop)(to:TE)(t:TA):TE:=λσ H Q=>to σ H λx H1=>tyV K T x H1/\t σ H1 λxs H2=>r x xs H2 Q
variable {o e:AO}{es:List AO}{to:TE}{t:TA}{name:AM}{apos cpos:Ba}{T id:String}{r:V->List V->Hp->VK->Prop}
def zh9(pa:PlainAttrs T)(slot:Slot T name id)(hty:typeOf (.builtin id)=pure (.type "method_descriptor"))(hm:MtR X id r)(ho:PE X o to)
  (hbase:attributeBase o name X.env (eval o X.env)=eval o X.env:=by rfl) (hline:(apos.endLine==cpos.line)=true:=by rfl):PE X (.Call (.Attribute o name apos) [] [] cpos) (ye1 X.K T r to):=by
 intro π s σ H Q I h;refine wpAny_Call_method0_late hbase hline (thn (ho π s σ H _ I h) λv s1 kq=>?_);let⟨x,H1,I1,r1,ty,q1⟩:=kq;let⟨h1,h2⟩:=zfa I1 r1 ty;exact⟨T,id,pa,slot,hty,h1,h2,CZ rfl (PySem.evalArgs_none (hm π s1 σ H1 x [] v [] Q I1 r1 .nil q1))⟩
def zeI(pa:PlainAttrs T)(slot:Slot T name id)(hty:typeOf (.builtin id)=pure (.type "method_descriptor"))(hm:MtR X id r)(ho:PE X o to)(ha:PA X (e::es) t)
  (hbase:attributeBase o name X.env (eval o X.env)=eval o X.env:=by rfl)
  (hfew:((backTo cpos (starEach (e::es) X.env)).all (λx=>!x.1)&&(backToKw cpos (keywordEach [] X.env)).all (λx=>x.1.isSome)
   && decide ((e::es).length+([]:List BR).length+(if ([]:List BR).isEmpty then 0 else 1)<30))=true:=by rfl)
  (hline:(apos.endLine==cpos.line)=true:=by rfl) (hs:starEach (e::es) X.env=(AF,eval e X.env)::starEach es X.env:=by rfl) (hplain:(backTo cpos (starEach es X.env)).any (·.1)=false:=by rfl):
  PE X (.Call (.Attribute o name apos) (e::es) [] cpos) (tBM X.K T r to t):=by
 intro π s σ H Q I h;refine wpAny_Call_method_late hbase hfew hline rfl (thn (ho π s σ H _ I h) λv s1 kq=>?_);let⟨x,H1,I1,r1,ty,q1⟩:=kq;let⟨h1,h2⟩:=zfa I1 r1 ty;refine⟨T,id,pa,slot,hty,h1,h2,?_⟩;have hA:=ha cpos π s1 σ H1 _ I1 q1;rw[hs]at hA ⊢;refine CZ (by show (AF || (backTo cpos (starEach es X.env)).any (·.1))=AF;rw[hplain]<;>rfl) (EG ?_);exact thn hA λus s2 ⟨vs,H2,I2,r2,q2⟩=>hm π s2 σ H2 x vs v us Q I2 r1 r2 q2
/- xs.append(e),list.index on a module's tuple .. are MtR facts of 06m -/
end
def MtM(X:Cx)(id:String)(r:V->List V->Hp->VK->Prop):Prop:=
 ∀(π:List (AH×B1)) (s:AI) (σ:St) (H:Hp) (x:V) (xs:List V) (v:AE) (us:List AE) (Q:VK),Inv X π σ H s->RelV x v->Vals xs us->r x xs H Q ->
  AZ (model X.prog X.w) X.A (call (.builtin id) (v::us)) (EP X π σ Q) X.xe s
theorem Vals.one:∀{x:V} {us:List AE},Vals [x] us->∃u,us=[u]/\RelV x u
 |_,_,.cons r .nil=>⟨_,rfl,r⟩
theorem Vals.two:∀{x y:V} {us:List AE},Vals [x,y] us->∃u v,us=[u,v]/\RelV x u/\RelV y v
 |_,_,_,.cons r (.cons q .nil)=>⟨_,_,rfl,r,q⟩
theorem Vals.zero:∀{us:List AE},Vals [] us->us=[]
 |_,.nil=>rfl
theorem Vals.reverse{xs:List V}{us:List AE}(h:Vals xs us):Vals xs.reverse us.reverse:=by
 induction h with
 |nil=>exact .nil
 |cons r t ih=>rw[C0,C0];exact Vals.append ih (.cons r .nil)
section
variable {X:Cx}{π:List (AH×B1)}{σ:St}{H:Hp}{s:AI}{l b:AH}{xs ys zs:List V}
theorem Inv.lset{its its':List AE}{n:Nat}{f:Array AE->Array AE}{t':Nat}(I:Inv X π σ H s)(hH:H l=AA (.lst xs))
  (e:s.heap.get? l=AA {cls:=.type "list",data:=.seq its.toArray n}) (hf:f its.toArray=its'.toArray) (hv:Vals ys its') (hz:ys.length<=sizeLine):
  Inv X π σ (upd H l (.lst ys)) {s with heap:=s.heap.update l (Dj f),toks:=t'}:=by
 have q:=PySem.IsL.update e f;rw[hf]at q;refine I.write (x:=l) (e:=l) (by rw[hH];exact trivial) (.inl rfl) (λb' u hb hu=>(CY s.heap (Dj f) (B9 hb)).trans hu) ⟨_,q⟩ ?_;exact⟨hz,its',_,hv,q⟩
theorem Inv.lnew{its:List AE}{t':Nat}(I:Inv X π σ H s)(hv:Vals ys its)(hz:ys.length<=sizeLine):
  Inv X π σ (upd H s.heap.objs.size (.lst ys)) {s with heap:=s.heap.push {cls:=.type "list",data:=.seq its.toArray},toks:=t'}:=
 I.laid (λ_ _ q=>AN _ q) (AU _) ⟨hz,its,0,hv,A3 _ rfl⟩
theorem Inv.fresh(I:Inv X π σ H s):H s.heap.objs.size=none:=I.hok.fresh (AU _)
theorem Inv.lstM(I:Inv X π σ H s)(hH:H l=AA (.lst xs)):xs.length<=sizeLine/\∃(its:List AE) (n:Nat),Vals xs its/\xs.length=its.length/\s.heap.get? l=AA {cls:=.type "list",data:=.seq its.toArray n}:=by
 let⟨z,its,n,r,e⟩:=I.hok l _ hH;exact⟨z,its,n,r,r.length,e⟩
end
section
variable {X:Cx}
def ybM:V->List V->Hp->VK->Prop:=λx vs H Q=>∃l xs y,x=.ref l/\vs=[y]/\H l=AA (.lst xs)/\xs.length<sizeLine/\Q .non (upd H l (.lst (xs++[y])))
def zbo:MtM X "list.append" ybM:=by
 intro π s σ H x vs v us Q I rx rv h;let⟨l,xs,y,rfl,rfl,hH,hz,q⟩:=h
 cases rx
 let⟨u,rfl,ru⟩:=rv.one;let⟨z,its,n,r,hl,e⟩:=I.lstM hH;refine DF Dy ⟨_,e,rfl⟩ F.entry_list_append (F.args_list_append_2 _ _) (PySem.list_append l its.toArray n u (by rw[AR];lia)) ⟨e,?_⟩;refine⟨.non,_,I.lset (its':=its++[u]) hH e (by simp) (r.append (.cons ru .nil)) ?_,rfl,q⟩;rw[An,C4];lia
def ycy:V->List V->Hp->VK->Prop:=λx vs H Q=>∃l xs,x=.ref l/\vs=[]/\H l=AA (.lst xs)/\Q .non (upd H l (.lst []))
def zeO:MtM X "list.clear" ycy:=by
 intro π s σ H x vs v us Q I rx rv h;let⟨l,xs,rfl,rfl,hH,q⟩:=h
 cases rx
 have hus:=rv.zero;subst hus;let⟨z,its,n,r,hl,e⟩:=I.lstM hH;refine DF EH ⟨_,e,rfl⟩ F.entry_list_clear (F.args_list_clear_1 _) (AutoSeq1.list_clear_list_0 l its.toArray n (by rw[AR];lia)) ⟨e,?_⟩;exact⟨.non,_,I.lset (its':=[]) (ys:=[]) hH e rfl .nil (DR _),rfl,q⟩
def yfL:R2:=λx y H Q=>∃l b xs zs,x=.ref l/\y=.ref b/\H l=AA (.lst xs)/\H b=AA (.lst zs)/\xs.length+zs.length<=sizeLine/\∀p,H p=AC->Q (.ref p) (upd H p (.lst (xs++zs)))
def ze3:OpR X (binaryOp .Add) yfL:=by
 intro π s σ H x y v u Q I rx ry h;let⟨l,b,xs,zs,rfl,rfl,hH,hB,hz,q⟩:=h
 cases rx
 cases ry
 let⟨z,its,n,r,hl,e⟩:=I.lstM hH;let⟨z2,its2,n2,r2,hl2,e2⟩:=I.lstM hB;refine PySem.P.add_list e e2 ?_ (by rw[AR,AR];lia);have ea:its.toArray++its2.toArray=(its++its2).toArray:=by simp
 rw[ea];exact⟨.ref _,_,I.lnew (t':=s.toks) (r.append r2) (by rw[An];lia),rfl,q _ I.fresh⟩
end
section
variable {prog:A1}{w:A8}{A:A9}{E:AE->AI->Prop}{s:AI}
end
section
variable {X:Cx}
end
end L2
namespace Att
open PySem PySem.W PySem.Calls PyProof.Rows
def zaq{P:Params}{h:Aq}:∀(ns:List Int) (vs:List AE),WellAll P h vs (ns.map GU)->Dh vs ns:=by
 intro ns
 induction ns with
 |nil=>
  intro vs w;rw[BE]at w
  cases w
  exact .nil
 |cons n ns ih=>
  intro vs w;rw[AL]at w
  cases w with
  |cons a b=>
   cases a
   exact .cons _ _ (ih _ b)
def zdB{l:Da}{n:Nat}(hn:l.most=AA n){P:Params}{h:Aq}{args:List WData}{vals:List AE}
  (hpre:l.row.toRowW.claim.pre args=AD) (hwl:WellAll P h vals args):
  ∃a vs ns,vals=[Af a]/\args=[WData.list (ns.map GU)]/\h.get? a=AA {cls:=.type "list",data:=.seq vs.toArray}/\Dh vs ns/\ns.length<=n:=by
 have hsh:WShape.hasAll [] args [.list .int]=true:=(pre_splitW hpre).1;have hc:l.pre.holds [] {args:=args}=true:=(pre_splitW hpre).2;let⟨d,r,rfl,h1,h2⟩:=hasAllW_cons hsh;obtain rfl:=hasAllW_nil h2;let⟨xs,rfl,h3⟩:=hasW_list h1;let⟨ns,rfl⟩:=items_int h3;have hlen:ns.length<=n:=by
  unfold OpenLaw.pre at hc;have h4:(WTm.not (.lt (.lit (.int (n:Int))) (.len (.arg 0)))).holds [] {args:=[.list (ns.map .int)]}=true:=by
   have h4:=(holds_andW hc).1;rw[hn]at h4;exact h4
  have h5:=condW_of h4 (w_not (w_lt w_lit (w_len_list (w_arg rfl))));rw[A4]at h5;refine Nat.le_of_not_lt λq=>?_;have q':(n:Int)<((ns.length:Nat):Int):=by lia
  first
   |(rw[decide_eq_true q']at h5;exact absurd h5 ⋯)
   |(simp at h5;lia)
 cases hwl with
 |cons w1 w2=>
  cases w2
  cases w1 with
  |list ho hall=>exact⟨_,_,ns,rfl,rfl,ho,zaq ns _ hall,hlen⟩
def zda(l:Da)(args:List WData):l.row.toRowW.claim.post args (.bool AD) args=true:=
 postW_of (r:=l.row.toRowW) (X:=(AD==AD))
  (show GO [] (.bool AD) .bool=AD by first|rfl|decide|simp[GO,WShape.arms,WShape.armsAll])
  (show (WTm.eq .res (.lit (.bool AD))).value [] {args:=args,res:=AA (.bool AD),after:=args}=AA (.bool (AD==AD))from w_eq_bool (w_res rfl) w_lit) rfl
theorem attach_call{l:Da}{n:Nat}{q:A1}{loose:List AM}{XP:(AM->Option AE)->Aq->Prop}{YP:A8->Aq->Prop}{d:DefRec}
  (hn:l.most=AA n) (hdf:d.params.defaults=[])
  (call:∀(w:A8) (s₀ s₁:AI) (mg mb:AM->Option AE) (fa:AH) (o:B1) (pm cd doc:AE) (a:AH) (vs:List AE) (ns:List Int),
   Ground q loose [] XP w s₀ mg mb s₁.heap->YP w s₁.heap ->
   s₁.heap.get? fa=AA o->o.data=.func (docDef d.name d.params d.body d.scope pm cd doc)->s₁.heap.CodeRec cd d.name->mg d.name=AA (.ref fa) ->
   s₁.heap.get? a=AA {cls:=.type "list",data:=.seq vs.toArray}->Dh vs ns->ns.length<=n->s₁.gens=#[] ->
   codeAny (model l.prog w) callerA (.call (.ref fa) ⟨[.ref a],[]⟩) (λr s'=>r=.ok (.ret (.bool AD))/\OldK s₁.heap s'.heap/\s'.os=s₁.os/\Cd s'.gens) s₁):
  FR q loose XP YP l.row.toRowW d [] (λf vs=>FZ f vs):=by
 intro w s₀ s₁ mg mb G Y fa o pm cd doc dV kV ho hd hcd hD hmg hg args vals as hpre hlay hrd hwl hlo;obtain rfl:dV=.none:=Dflts.none hD hdf;obtain rfl:kV=.none:=Dflts.noKw hD;let⟨a,vs,ns,rfl,rfl,hobj,hints,hlen⟩:=zdB hn hpre hwl;refine enter_call (Cp (call w s₀ s₁ mg mb fa o pm cd doc a vs ns G Y ho (fd_plain hd) hcd hmg hobj hints hlen hg) λr s' hq=>?_);let⟨rfl,h2,h3,h4⟩:=hq;exact⟨.inl ⟨.bool AD,.bool AD,[],rfl,λ_=>rfl,.bool AD,zda l _,λ_=>⟨GR,λ_ hm=>(nomatch hm)⟩⟩,h2,h3,h4⟩
section
variable {prog:A1}{w:A8}{A:A9}{E:AE->AI->Prop}{s:AI}{K:AB}
end
end Att
namespace L2
open PySem PySem.Spec PyProof.Rows
def zbb:∀{vs:List AE} {ns:List Int},Dh vs ns->Vals (ns.map V.int) vs
 |_,_,.nil=>.nil
 |_,_,.cons n t h=>.cons ⟨t,rfl⟩ (zbb h)
def Only(H:Hp):Prop:=∀b,H b=AC \/ ∃o xs,H b=AA (.frz o (.lst xs))
def zec{P:A1}{w:A8}{K:AB}{mg mb:AM->Option AE}{CX:CXT}{k:Nat}{fa a:AH}{fd:Al}{x:AM}{sp:Sp}{s₁:AI}{vs:List AE}{ns:List Int}
  (KX:K.In s₁.heap) (hns:s₁.heap.Ns mainGlobals mg) (hb:s₁.heap.Ns builtinsNs mb) (hbb:∀x:AM,x ≠ "__name__"->mb x=bootBuiltins x) (hlim:s₁.heap.NoLimit) (hg:s₁.gens=#[])
  (ha:s₁.heap.get? a=AA {cls:=.type "list",data:=.seq vs.toArray}) (hi:Dh vs ns) (hl:ns.length<=sizeLine) (hr:yaj k callerA)
  (F:∀base:Aq,K.In base->base.Ns mainGlobals mg->yav P w K mg base CX k fa fd [x] sp) (hbind:∀(s:AI) (u:AE),De s fd ⟨[u],[]⟩ [(x,u)])
  (hsp:∀H:Hp,Only H->SqL K H a (ns.map V.int)->sp [.ref a] H (λv _=>v=.bl AD) λ_ _ _=>False)
  (hCX:∀H e s',CX [] H s₁ (λ_ _ _=>False) e s'->False):
  codeAny (model P w) callerA (.call (.ref fa) ⟨[.ref a],[]⟩) (λr s'=>r=.ok (.ret (.bool AD))/\OldK s₁.heap s'.heap/\s'.os=s₁.os/\Cd s'.gens) s₁:=by
 have rv:=zbb hi;have lenV:=hi.length;have core:∀H:Hp,Only H->SqL K H a (ns.map V.int)->HOk P w H s₁.heap->(∀b,H b≠AC->b=a)->(H a≠AC->K.lookup a=AC) ->
   codeAny (model P w) callerA (.call (.ref fa) ⟨[.ref a],[]⟩) (λr s'=>r=.ok (.ret (.bool AD))/\OldK s₁.heap s'.heap/\s'.os=s₁.os/\Cd s'.gens) s₁:=by
  intro H hO hS hok hA hK;have base_of:∀{b:AH} {o:B1},s₁.heap.get? b=AA o->H b=AC->(ybw s₁.heap H).get? b=AA o:=λe n=>zem e n;have noA:∀{b:AH} {o:B1} {es:Array Be} {ep:Nat},s₁.heap.get? b=AA o->o.data=.dict es ep->H b=none:=λ{b o es ep} e d=>by
   cases q:H b with
   |none=>rfl
   |some u=>
    have e':b=a:=hA b (by rw[q];simp);subst e';rw[ha]at e;cases e;have d':Data.seq vs.toArray _=Data.dict es ep:=d
    cases d'
  have nsK:∀{b:AH} {m:AM->Option AE},s₁.heap.Ns b m->(ybw s₁.heap H).Ns b m:=λ{b m} ⟨o,es,ep,e,d,r⟩=>⟨o,es,ep,base_of e (noA e d),d,r⟩;have hKb:K.In (ybw s₁.heap H):=λb o e=>base_of (KX b o e) (by
   cases q:H b with
   |none=>rfl
   |some u=>
    have e':b=a:=hA b (by rw[q];simp);subst e';rw[hK (by rw[q];simp)]at e;cases e)
  have hM:Mod K mg (ybw s₁.heap H):=⟨hKb,nsK hns,⟨mb,nsK hb,hbb⟩,let ⟨mc,h1,h2⟩:=hlim;⟨mc,nsK h1,h2⟩⟩;have e0:ybr P w K mg (ybw s₁.heap H) callerA [] s₁ H:=⟨rfl,hM,λb o e=>zfZ e,El (zcJ _ _),trivial,λb hb=>absurd (show b∈([]:List AH)from hb) (by simp),hok,.of_eq hg⟩;refine Cp ((F _ hKb (nsK hns)).run callerA [] s₁ H ⟨[.ref a],[]⟩ [.ref a] [.ref a] _ _ hr e0 (hbind s₁ (.ref a)) (.cons rfl .nil) (hsp H hO hS)) λr s' h=>?_
  cases r with
  |error e=>exact(hCX H e s' h).elim
  |ok fl=>
   cases fl with
   |next=>exact BF h
   |brk=>exact BF h
   |cont=>exact BF h
   |ret u=>
    let⟨v,H',os,bare,un,hok',r',q⟩:=h;have q':v=.bl true:=q;subst q';obtain rfl:u=Cu true:=r';refine⟨rfl,OldK.of_keep λb o e=>?_,os,bare⟩
    cases q:H b with
    |none=>exact un.keep b o e q (by intro z;exact absurd (show b∈([]:List AH)from z) (by simp)) (by simp)
    |some u=>
     rcases hO b with z|⟨ob,xs,z⟩
     .rw[q]at z;cases z
     .have z2:=un.frzs b ob _ z;let⟨e1,_⟩:=hok b _ z;let⟨e2,_⟩:=hok' b _ z2;rw[e]at e1;cases e1;exact e2
 cases hk:K.lookup a with
 |some o=>
  have e:=KX a o hk;rw[ha]at e
  cases e
  refine core (λ_=>AC) (λ_=>.inl rfl) (.inr ⟨_,vs.toArray,_,hk,rfl,rfl,rfl,by rw[AR,lenV];exact hl,by simpa using rv⟩) (λb u z=>by have z':(AC:Option HO)=AA u:=z;cases z') (λb z=>absurd rfl z) λz=>absurd rfl z
 |none=>
  refine core (λb=>if b=a then AA (.frz {cls:=.type "list",data:=.seq vs.toArray} (.lst (ns.map V.int)))else AC) (λb=>?_) (.inl (.inr ⟨{cls:=.type "list",data:=.seq vs.toArray},if_pos rfl⟩)) (λb u z=>?_) (λb z=>?_) λ_=>hk
  .by_cases hb:b=a
   .exact .inr ⟨_,_,if_pos hb⟩
   .exact .inl (if_neg hb)
  .by_cases hb:b=a
   .have z':=(if_pos hb).symm.trans z
    cases z'
    subst hb;exact⟨ha,by rw[A4];exact hl,vs,_,rv,ha⟩
   .have z':=(if_neg hb).symm.trans z
    cases z'
  .by_cases hb:b=a
   .exact hb
   .exact absurd (if_neg hb) z
theorem walk_of{l:Da}{n k:Nat}{q:A1}{loose:List AM}{XP:(AM->Option AE)->Aq->Prop}{YP:A8->Aq->Prop}{d:DefRec}{K:Params->AB}{CX:A8->CXT}{sp:A8->Sp}{x:AM}
  (hn:l.most=AA n) (hn2:n<=sizeLine) (hdf:d.params.defaults=[]) (hr:yaj k callerA)
  (hY:∀(w:A8) (h:Aq),YP w h->(K w.params).In h)
  (F:∀(w:A8) (mg:AM->Option AE) (fa:AH) (h:Aq),(K w.params).In h->h.Ns mainGlobals mg->mg d.name=AA (.ref fa) ->
   ∃fd:Al,(∀(s:AI) (u:AE),De s fd ⟨[u],[]⟩ [(x,u)]) /\
    ∀base:Aq,(K w.params).In base->base.Ns mainGlobals mg->yav l.prog w (K w.params) mg base (CX w) k fa fd [x] (sp w))
  (hsp:∀(w:A8) (H:Hp) (a:AH) (ns:List Int),ns.length<=n->Only H->SqL (K w.params) H a (ns.map V.int)->sp w [.ref a] H (λv _=>v=.bl AD) λ_ _ _=>False)
  (hCX:∀(w:A8) (H:Hp) (s:AI) (e:AE) (s':AI),CX w [] H s (λ_ _ _=>False) e s'->False):
  FR q loose XP YP l.row.toRowW d [] (λf vs=>FZ f vs):=by
 refine Att.attach_call hn hdf λw s₀ s₁ mg mb fa o pm cd doc a vs ns G Y ho hd hcd hmg hobj hints hlen hg=>?_;have KX:=hY w _ Y;let⟨fd,hb,hF⟩:=F w mg fa _ KX G.T.g hmg;exact zec KX G.T.g G.T.b G.T.builtins G.T.nolimit hg hobj hints (BC hlen hn2) hr hF hb (λH hO hS=>hsp w H a ns hlen hO hS) λH e s'=>hCX w H s₁ e s'
def inClass(s:BS)(j:Nat):Stmt:=match s with
 |.ClassDef _ _ _ body _ _ _ _ _ _ _=>body.getD j (.Pass ⟨0,0,0,0⟩)
 |_=>.Pass ⟨0,0,0,0⟩
def yK(s:BS):Arguments:=match s with
 |.FunctionDef _ a _ _ _ _ _ _ _ _=>a
 |_=>{posonlyargs:=[],args:=[],vararg:=AC,kwonlyargs:=[],kw_defaults:=[],kwarg:=AC,defaults:=[]}
def yD(s:BS):List Stmt:=match s with
 |.FunctionDef _ _ b _ _ _ _ _ _ _=>b
 |_=>[]
def yg(s:BS):Scope:=match s with
 |.FunctionDef _ _ _ _ _ _ sc _ _ _=>sc
 |_=>{kind:=.function,names:=[],isGenerator:=AF,isCoroutine:=AF}
abbrev CX0:CXT:=λ_ _ _ _ _ _=>False
abbrev E0:XK:=λ_ _ _=>False
structure Fun(K:AB)(x qual:AM)(st:BS)(f:AH)(fd:Al):Prop where
 ex:∃(oc:AE) (od:Option AH) (kV doc pm:AE) (an:Option AH) (cdv ct:AE) (osl:Array (Option AE)),
  fd=BD x qual (yK st) (yD st) (yg st) .none kV doc pm an cdv ct/\K.lookup f=AA ⟨oc,od,.func fd,osl⟩/\B5 K cdv qual=AD
 kp:Ae K (.ref f)=AD
section
variable {P:A1}{w:A8}{K:AB}{mg:AM->Option AE}{base:Aq}
theorem Fun.binds{x qual:AM}{st:BS}{f:AH}{fd:Al}{ps:List AM}(F:Fun K x qual st f fd)
  (h:∀(kV doc pm:AE) (an:Option AH) (cdv ct:AE) (us:List AE),us.length=ps.length->bindArgs (BD x qual (yK st) (yD st) (yg st) .none kV doc pm an cdv ct) ⟨us,[]⟩=pure (ps.zip us)):Binds K fd ps []:=by
 let⟨oc,od,kV,doc,pm,an,cdv,ct,osl,rfl,lk,hcd⟩:=F.ex;exact .all (h kV doc pm an cdv ct)
end
section
variable {X:Cx}
end
end L2
namespace WE
open PySem PySem.Spec PyProof.Rows
open AutoSeq1 (wpAny_loadPart')
section
variable {pg:A1}{wd:A8}{A:A9}{Er:AE->AI->Prop}{s:AI}
def zcu{it t:AH}{i:Nat}{xs:Array AE}{x:AE}{Q:AE->AI->Prop}(hi:s.heap.IsTupleIter it t i)(ht:s.heap.IsTuple t xs)(hx:xs[i]?=AA x)
  (k:∀h',h'.IsTupleIter it t (i+1)->CG it s.heap h'->Q x {s with heap:=h'}):AZ (model pg wd) A (Bc (.ref it)) Q Er s:=by
 let⟨oi,gi,ci,di⟩:=id hi;let⟨ot,gt,_,nt,dt⟩:=ht;unfold Bc;refine AJ (Br (name:=AK "__next__") hi.typeIs B6 (C9 B6 hi.typeIs Cr ?_ (Co _)));show AZ _ _ (field (.ref it) 0 >>= _) _ _ _;refine AJ (Bt gi di (x:=.ref t) rfl ?_);show AZ _ _ (if (Af t==BW)=AD then _ else _) _ _ _;rw[if_neg (show ¬((Af t==BW)=AD)from λz=>Ah z)];show AZ _ _ (field (.ref it) 1 >>= _) _ _ _;refine AJ (Bt gi di (x:=.int i 0) rfl ?_);show AZ _ _ (seqItems? (.ref t) >>= _) _ _ _;refine AJ (EI gt dt ?_);erw[DU,hx];refine AJ (EJ gi di (by simp) (AT ⟨x,rfl,AT (k _ ?_ (EU ..))⟩));refine⟨_,Dx _ gi (Obj.isFreed_of_fields (Ed di _)),(Obj.cls_mapFields ..).trans ci,?_⟩;rw[Ed di];simp[rawInt]
def zc1{it t:AH}{i:Nat}{xs:Array AE}{Q:AE->AI->Prop}(hh:A.handled=AC)(hi:s.heap.IsTupleIter it t i)(ht:s.heap.IsTuple t xs)(hx:xs[i]?=AC)
  (k:∀h' e,Heap.ExtBut it s.heap h'->(∃o,h'.get? e=AA o/\o.cls=.type "StopIteration")->Er (.ref e) {s with heap:=h'}):AZ (model pg wd) A (Bc (.ref it)) Q Er s:=by
 let⟨oi,gi,ci,di⟩:=id hi;let⟨ot,gt,_,nt,dt⟩:=ht;unfold Bc;refine AJ (Br (name:=AK "__next__") hi.typeIs B6 (C9 B6 hi.typeIs Cr ?_ (Co _)));show AZ _ _ (field (.ref it) 0 >>= _) _ _ _;refine AJ (Bt gi di (x:=.ref t) rfl ?_);show AZ _ _ (if (Af t==BW)=AD then _ else _) _ _ _;rw[if_neg (show ¬((Af t==BW)=AD)from λz=>Ah z)];show AZ _ _ (field (.ref it) 1 >>= _) _ _ _;refine AJ (Bt gi di (x:=.int i 0) rfl ?_);show AZ _ _ (seqItems? (.ref t) >>= _) _ _ _;refine AJ (EI gt dt ?_);erw[DU,hx];refine AJ (E9 (AJ (EJ gi di (by simp) ?_)));show AZ _ _ (newExc (.type "StopIteration") [] >>= _) _ _ _;refine AJ ?_;erw[newExc,newTuple];refine AJ (BO ?_ (by size_fits));refine AJ (m:=firstArgMember _ _) (wpAny_of_eq (a:=BW) (by first|rfl|(erw[firstArgMember];rfl)) ?_);refine BO ?_ (by size_fits);erw[raiseNew];refine AJ (wpAny_handled ?_);first|rw[show A.in1.handled=AC from hh]|rw[hh]
 refine AJ (AT (wpAny_throw ?_));exact k _ _ (((EU ..).extBut.push _).push _) ⟨_,A3 _ rfl,rfl⟩
end
theorem draws_tuple{pg:A1}{wd:A8}{A:A9}(hh:A.handled=AC)(it t:AH)(hne:t≠it)(xs:Array AE):
  Draws pg wd A it [it,t] xs.size (λi v=>xs[i]?=AA v) (λi h=>h.IsTupleIter it t i/\h.IsTuple t xs) where
 live:=λ_ _ st=>let ⟨o,g,_⟩:=st.1;⟨o,g⟩
 frame:=λ_ _ _ st kp=>⟨let ⟨o,g,r⟩:=st.1;⟨o,kp it (by simp) o g,r⟩,let ⟨o,g,r⟩:=st.2;⟨o,kp t (by simp) o g,r⟩⟩
 item:=λi s Q E hi st hQ=>zcu st.1 st.2 (x:=xs[i]) (by simp[hi]) λh' hit' hs'=>hQ _ h' s.toks (by simp[hi]) ⟨hit',st.2.extBut hs'.extBut hne⟩ hs'
 done:=λs Q E st hE=>zc1 hh st.1 st.2 (by simp) hE
def zbP(l:AH)(xs:Array AE)(n:Nat)(dc:Option AH)(sl:Array (Option AE)):
  Meets (Builtin.«enumerate.__new__» ⟨[.type "enumerate",.ref l],[]⟩) (λ_ R s=>s.heap.get? l=AA {cls:=.type "tuple",dict:=dc,data:=.seq xs n,slots:=sl} /\
   R (.ok (.ret (.ref (s.heap.push {cls:=.type "tuple_iterator",data:=.fields #[.ref l,.int 0 0]}).objs.size)))
    {s with heap:=(s.heap.push {cls:=.type "tuple_iterator",data:=.fields #[.ref l,.int 0 0]}).push {cls:=.type "enumerate",data:=.fields #[.none,.bool AF,.ref s.heap.objs.size,rawInt 0,.none,.none]} }):=
 .of_wp λprog w A R s h=>by
  let⟨hp,g,d,tk,os⟩:=s;let⟨gl,h⟩:=h;have hsub:=sub_enumerate;have hT:Heap.IsTuple (Shared.heap ⟨hp,g,d,tk,os⟩) l xs:=⟨_,gl,rfl,n,rfl⟩
  wp_walk using wpAny_loadPart' gl
  refine wpAny_stack_any λst=>AT ?_;split
  .rename_i c _ _ _ _ _
   cases (c==E7 "enumerate")
   .wp_walk using wpAny_loadPart' gl,B7 hT
    exact⟨_,rfl,h⟩
   .wp_walk using wpAny_loadPart' gl,B7 hT
    exact⟨_,rfl,h⟩
  .wp_walk using wpAny_loadPart' gl,B7 hT
   exact⟨_,rfl,h⟩
theorem call_enumT{pg:A1}{wd:A8}{A:A9}{Er:AE->AI->Prop}{s:AI}{l:AH}{xs:Array AE}{Q:AE->AI->Prop}(hT:s.heap.IsTuple l xs)
  (k:∀h',IsEnum h' (s.heap.objs.size+1) s.heap.objs.size 0 .none->h'.IsTupleIter s.heap.objs.size l 0->h'.objs.size=s.heap.objs.size+2 ->
   (∀b o,s.heap.get? b=AA o->h'.get? b=AA o)->Q (.ref (s.heap.objs.size+1)) {s with heap:=h'}):AZ (model pg wd) A (call (.type "enumerate") [.ref l]) Q Er s:=by
 let⟨⟨c,dct,dt,sl⟩,gl,hc,n,hd⟩:=hT
 cases (show c=.type "tuple" from hc)
 cases (show dt=.seq xs n from hd)
 refine callType_new F.called_enumerate ⋯ (F.typeCall_enumerate_1 _) (F.newCall_enumerate_1 _) (λobj=>F.args_object_init_2 obj _) F.entry_enumerate_new (zbP l xs n dct sl) ⟨gl,?_⟩;have hz:(s.heap.push {cls:=.type "tuple_iterator",data:=.fields #[.ref l,.int 0 0]}).objs.size=s.heap.objs.size+1:=DA ..;show _/\_;rw[hz];have he:IsEnum ((s.heap.push {cls:=.type "tuple_iterator",data:=.fields #[.ref l,.int 0 0]}).push {cls:=.type "enumerate",data:=.fields #[.none,.bool AF,.ref s.heap.objs.size,rawInt 0,.none,.none]}) (s.heap.objs.size+1) s.heap.objs.size 0 .none:=by
  have q:=A3 (s.heap.push {cls:=.type "tuple_iterator",data:=.fields #[.ref l,.int 0 0]}) (o:={cls:=.type "enumerate",data:=.fields #[.none,.bool AF,.ref s.heap.objs.size,rawInt 0,.none,.none]}) rfl;rw[hz]at q;exact q
 exact⟨⟨_,he,rfl⟩,k _ he ⟨_,AN _ (A3 _ rfl),rfl,rfl⟩ (by rw[DA,hz]) λb o y=>AN _ (AN _ y)⟩
end WE
namespace L2
open PySem PySem.Spec PyProof.Rows
section
variable {X:Cx}
def ych(i j:Int):Prop:=0<j/\j<10000000000000000000000000000000000000000000000000000000000000000000000
def zeT:OpR X (binaryOp .FloorDiv) (rI ych λi j=>.int (i/j)):=opI λi j _ _ _ _ _ hc q=>by
 let⟨h1,h2⟩:=hc;refine floordiv_int ∅ (by rw[Int.fdiv_eq_ediv_of_nonneg i ∅];exact q) (.inl (PyProof.noPylong_of_log2 ?_));have h0:j.natAbs≠0:=by lia
 refine A0 ((Nat.log2_lt h0).mpr (?_:j.natAbs<2^250)) ⋯;have e:(10000000000000000000000000000000000000000000000000000000000000000000000:Nat)<2^250:=by decide
 lia
end
section
variable {X:Cx}{π:List (AH×B1)}{σ:St}{H:Hp}{s:AI}{h':Aq}
theorem Inv.turnLaid{t':Nat}{ch:List AH}{T:AH}{o:HO}(I:Inv X π σ H s)(hf:∀b∈ch,yaL X π H b)(k:∀b u,b∉ch->s.heap.get? b=AA u->h'.get? b=AA u)
  (hp:s.heap.objs.size<=T) (new:yI X.prog X.w (upd H T o) h' T o):Inv X π σ (upd H T o) {s with heap:=h',toks:=t'}:=by
 have hn:H T=none:=I.hok.fresh hp;have nch:∀b u,H b=AA u->b∉ch:=λb u e z=>by
  have q:=(hf b z).1;rw[e]at q
  cases q
 refine I.step (g':=s.gens) (d':=s.drawn) (ch:=ch) (λb hb=>?_) (λb u _ _ hc e _=>k b u hc e) (λb u _ _ hc e _=>⟨u.slots,k b u hc e⟩) (λb u _ e n=>?_) (λb u hc e=>⟨u,k b u hc e⟩) (λb xs e=>?_) (λb u v e=>?_) (λb ps e=>⟨#[],?_⟩) (λm hm=>?_) (λb u e=>?_) I.bare
 .let⟨f0,f1,f2,f3,f4,f5⟩:=hf b hb;exact⟨f3,f1,f4,f5⟩
 .rw[za (Ac (A0 (AQ e) hp))];exact n
 .rw[za (zb e hn)];exact e
 .rw[za (zb e hn)];exact e
 .rw[za (zb e hn),e];simp
 .let⟨ob,es,ep,ho,r⟩:=hm;exact⟨ob,es,ep,k _ ob (λz=>(hf _ z).2.1 rfl) ho,r⟩
 .by_cases hb:b=T
  .subst hb;rw[zc]at e
   cases e
   exact new
  .rw[za hb]at e;refine(I.hok b u e).stay (λc v hc q=>k c v ?_ q) (λc q=>by rw[za (zb q hn)];exact q) λc xs q=>by rw[za (zb q hn)];exact q
   rcases hc with z|z
   .rw[z];exact nch b u e
   .exact nch c _ z
theorem Inv.turnedL{t':Nat}{ch:List AH}(I:Inv X π σ H s)(hf:∀b∈ch,yaL X π H b)(k:∀b u,b∉ch->s.heap.get? b=AA u->h'.get? b=AA u):Inv X π σ H {s with heap:=h',toks:=t'}:=by
 have nch:∀b u,H b=AA u->b∉ch:=λb u e z=>by
  have q:=(hf b z).1;rw[e]at q
  cases q
 refine I.step (g':=s.gens) (d':=s.drawn) (ch:=ch) (λb hb=>?_) (λb u _ _ hc e _=>k b u hc e) (λb u _ _ hc e _=>⟨u.slots,k b u hc e⟩) (λ_ _ _ _ n=>n) (λb u hc e=>⟨u,k b u hc e⟩) (λ_ _ e=>e) (λ_ _ _ e=>e) (λb ps e=>⟨#[],by rw[e];simp⟩) (λm hm=>?_) (λb u e=>?_) I.bare
 .let⟨f0,f1,f2,f3,f4,f5⟩:=hf b hb;exact⟨f3,f1,f4,f5⟩
 .let⟨ob,es,ep,ho,r⟩:=hm;exact⟨ob,es,ep,k _ ob (λz=>(hf _ z).2.1 rfl) ho,r⟩
 .refine(I.hok b u e).stay (λc v hc q=>k c v ?_ q) (λ_ q=>q) λ_ _ q=>q;rcases hc with z|z
  .rw[z];exact nch b u e
  .exact nch c _ z
end
def Ite(K:AB)(a:AH):It:=
 ⟨λi H=>∃xs x,SqT K H a xs/\xs[i]?=AA x,λi H x H'=>∃T,H T=AC/\x=.ref T/\∀xs y,SqT K H a xs->xs[i]?=AA y->H'=upd H T (.tup [.int i,y]),λi H=>∃xs,SqT K H a xs/\xs.length=i⟩
def zaS{h:Aq}{a b:AH}{o u:B1}(x:h.get? a=AA o)(y:h.get? b=AA u)(z:o.cls≠u.cls):a≠b:=λe=>by
 subst e;rw[x]at y
 cases y
 exact z rfl
def zcs{P:A1}{w:A8}{K:AB}{es:List AO}{kk:Nat}{pos:Ba}(a e it:AH):
  Turn P w K (.Tuple es kk pos) (Ite K a) [e,it] e (λi h=>(∃old,IsEnum h e it i old)/\h.IsTupleIter it a i) where
 mem:=by simp
 obj:=λi h st b hb=>by
  let⟨⟨old,he⟩,oi,gi,ci,di⟩:=st;rcases Ab.mp hb with z|z
  .subst z;exact⟨_,he,λv y=>nomatch y⟩
  .have z:b=it:=by simpa using z
   subst z;exact⟨oi,gi,λv y=>by rw[di]at y;cases y⟩
 keep:=λi h h' st k=>by
  let⟨⟨old,he⟩,oi,gi,r⟩:=st;exact⟨⟨old,k e (by simp) _ he⟩,oi,k it (by simp) _ gi,r⟩
 item:=by
  intro X hP hw hK hc i π s σ H E I hf st hg;subst hP hw hK;let⟨xs,x,hq,hx⟩:=hg;let⟨its,rv,p,hz⟩:=I.tuple hq;let⟨⟨old,he⟩,hi⟩:=st;let⟨oi,gi,ci,di⟩:=id hi;let⟨oa,ga,ca,na,da⟩:=id p;have nai:a≠it:=zaS ga gi (by rw[ca,ci];exact λz=>absurd (BI z) ⋯);have nei:e≠it:=zaS he gi (by rw[ci];exact λz=>absurd (BI z) ⋯);have nea:e≠a:=zaS he ga (by rw[ca];exact λz=>absurd (BI z) ⋯);have hl:=rv.length;have hil:i<its.toArray.size:=by
   have:=(Ap.mp hx).1;simpa using (by lia:i<its.length)
  have W:=Eu (prog:=X.prog) (w:=X.w) (A:=X.A) (WE.draws_tuple (pg:=X.prog) (wd:=X.w) (A:=X.A.in1) (I.ok.hd hc) it a nai its.toArray) e nei (by simp[nei,nea]) (by simp);refine wpAny_pyNext_enum_itemD (WE.draws_tuple (pg:=X.prog) (wd:=X.w) (A:=X.A.in1) (I.ok.hd hc) it a nai its.toArray) he ⟨hi,p⟩ hil nei (by simp[nei,nea]) λy h1 tk hy ho hs' hT hsz' kp'=>⟨_,rfl,?_⟩;obtain⟨T,eT⟩:∃T,s.heap.objs.size=T:=⟨_,rfl⟩;have hsz:s.heap.objs.size<=T:=El eT;have kp:∀b o,b∉[e,it]->s.heap.get? b=AA o->h1.get? b=AA o:=λb o hb y=>kp' b o (λe'=>hb (by simp[e'])) (λe'=>hb (by simp[e'])) y;have mid:(∃x,IsEnumOut h1 e it ((i:Int)+1) x s.heap.objs.size)/\(h1.IsTupleIter it a (i+1)/\h1.IsTuple a its.toArray)/\s.heap.objs.size≠e/\s.heap.objs.size≠it:=⟨⟨_,ho⟩,hs',Db (AQ he),Db (AQ gi)⟩;rw[eT]at mid hT ⊢;refine W.go es kk pos i T _ _ E mid λh2 st2 kp2=>?_;let⟨u,hu,ru⟩:=rv.get hx;have ey:y=u:=AW (hy.symm.trans (by simpa using hu));subst ey;have hch:∀b o,b∉[e,it]->s.heap.get? b=AA o->h2.get? b=AA o:=λb o hb q=>kp2 b o hb (kp b o hb q);have hTw:=W.apart i T h1 mid;have new:yI X.prog X.w (upd H T (.tup [.int i,x])) h2 T (.tup [.int i,x]):=by
   exact⟨by show 2<=sizeLine;decide,[.int i tk,y],.cons ⟨tk,rfl⟩ (.cons ru .nil),kp2 T _ hTw hT⟩
  have I2:=I.turnLaid (t':=tk+1) hf hch hsz new;refine⟨.ref T,_,I2,rfl,⟨T,I.hok.fresh hsz,rfl,λys z hy' hz'=>?_⟩,⟨st2.1,st2.2.1⟩,λb hb=>?_⟩
  .rw[I.tuple_inj hy' hq]at hz';rw[hx]at hz'
   cases hz'
   rfl
  .rw[za (λz:b=T=>hTw (z ▸ hb))];exact(hf b hb).1
 done:=by
  intro X hP hw hK hc i π s σ H E I hf st hg;subst hP hw hK;let⟨xs,hq,hx⟩:=hg;let⟨its,rv,p,hz⟩:=I.tuple hq;let⟨⟨old,he⟩,hi⟩:=st;let⟨oi,gi,ci,di⟩:=id hi;let⟨oa,ga,ca,na,da⟩:=id p;have nai:a≠it:=zaS ga gi (by rw[ca,ci];exact λz=>absurd (BI z) ⋯);have nei:e≠it:=zaS he gi (by rw[ci];exact λz=>absurd (BI z) ⋯);have nea:e≠a:=zaS he ga (by rw[ca];exact λz=>absurd (BI z) ⋯);have hl:=rv.length;have W:=Eu (prog:=X.prog) (w:=X.w) (A:=X.A) (WE.draws_tuple (pg:=X.prog) (wd:=X.w) (A:=X.A.in1) (I.ok.hd hc) it a nai its.toArray) e nei (by simp[nei,nea]) (by simp);have en:its.toArray.size=i:=by simp;lia
  refine W.done s _ E (by rw[en];exact⟨⟨old,he⟩,hi,p⟩) λh2 tk kp=>⟨rfl,I.turnedL (t':=tk) hf kp⟩
 self:=λ_ _ _ _ _ st q=>by
  let⟨⟨old,he⟩,_⟩:=st;exact Ew he q
def yfx(K:AB)(ta:TA):TI:=λσ H R=>ta σ H λvs H1=>∃a,vs=[.ref a]/\(∃xs,SqT K H1 a xs)/\R (Ite K a) H1
def zeZ{X:Cx}{a:AO}{es:List AO}{kk:Nat}{tp:Ba}{ta:TA}{p pos:Ba}(hg:Gl X "enumerate")(hm:X.mg "enumerate"=AC)(ha:PA X [a] ta)(hs:starEach [a] X.env=[(AF,eval a X.env)]:=by rfl):
  PI X (.Tuple es kk tp) (.Call (.Name "enumerate" p) [a] [] pos) (yfx X.K ta):=by
 intro π s σ H R I h;refine BP (zaU I hg hm boot_enumerate ?_);refine B3 (thn (ha pos π s σ H _ I h) λus s1 kq=>?_) hs rfl;let⟨vs,H1,I1,r1,q1⟩:=kq;let⟨l,rfl,⟨xs,hq⟩,q⟩:=q1;let⟨u,rfl,ru⟩:=Vals.one r1
 cases (show u=Af l from ru)
 let⟨its,rv,pt,hz⟩:=I1.tuple hq;refine WE.call_enumT (show s1.heap.IsTuple l its.toArray from pt) λh1 he hi hsz kp=>?_;refine Ew he ?_;refine⟨_,[s1.heap.objs.size+1,s1.heap.objs.size],_,_,H1,rfl,I1.kept (t':=s1.toks) kp,zcs l _ s1.heap.objs.size,⟨⟨_,he⟩,hi⟩,λb hb=>?_,q⟩;have hb2:s1.heap.objs.size<=b:=by
  rcases Ab.mp hb with z|z
  .subst z;exact DS _
  .have z:b=s1.heap.objs.size:=by simpa using z
   subst z;exact AU _
 exact I1.fpOk hb2 (I1.hok.fresh hb2)
abbrev No:AE->AI->Prop:=λ_ _=>False
abbrev ycu(ifs:List AO)(env:Env):GJ Bool:=forIn ifs AD λc r=>if r=AD then do let ok <-isTrue c env (eval c env);pure (FN ok)else pure (FN r)
section
variable {pg:A1}{wd:A8}{A:A9}{R:FD->AI->Prop}{s:AI}
def zcR{elt tg iter:AO}{ifs:List AO}{sc:BB}{pos:Ba}{it acc:AE}{env:Env}(I:Nat->AI->Prop)
  (turn:∀n s,I n s->AZ (model pg wd) A (pyNext it) (λr s1=>match r with
   |none=>R (.ok .next) s1
   |some v=>AZ (model pg wd) A (letOwnedTupleGo tg it v) (λ_ s2=>AZ (model pg wd) A (assign tg env v) (λ_ s3=>AZ (model pg wd) A (ycu ifs env) (λok s4=>
     if ok=AD then AZ (model pg wd) A (eval elt env) (λx s5=>AZ (model pg wd) A (call (.builtin "list.append") [acc,x]) (λ_ s6=>∃m,m<n/\I m s6) No s5) No s4
     else ∃m,m<n/\I m s4) No s3) No s2) No s1) No s)
  (n:Nat) (h:I n s):codeAny (model pg wd) A (.compLoop (.ListComp elt [⟨tg,iter,ifs,0⟩] sc pos) 0 it acc env) R s:=by
 refine codeAny_loop rfl I (λn s hI=>?_) n h;show AZ _ A ((compTurn (.ListComp elt [⟨tg,iter,ifs,0⟩] sc pos) 0 it acc env).onRaise (λx=>do noteFrame x env;theTreesLotGoes x)) _ _ s;refine wpAny_noted ?_;rw[compTurn_list];refine AJ (Cf (AJ (CB (turn n s hI) (λr s1 h1=>?_) λ_ _ f=>f.elim)))
 cases r with
 |none=>exact AT h1
 |some v=>
  refine AJ (CB h1 (λ_ s2 h2=>AJ (CB h2 (λ_ s3 h3=>AJ (CB h3 (λok s4 h4=>?_) λ_ _ f=>f.elim)) λ_ _ f=>f.elim)) λ_ _ f=>f.elim)
  cases ok with
  |false=>exact AT ⟨rfl,h4⟩
  |true=>exact AJ (AJ (CB h4 (λx s5 h5=>AJ (CB h5 (λ_ s6 h6=>AT (AT ⟨rfl,h6⟩)) λ_ _ f=>f.elim)) λ_ _ f=>f.elim))
end
def yO(env:Env)(r:List (AM×AH))(x:AM×CU):List (AM×AH):=if x.2=.free then(x.1,(env.cells.lookup x.1).getD 0)::r else r
def ycC(sc:BB)(env:Env):List (AM×AH):=sc.names.foldl (yO env) []
def zcq{α β:Type}{l:List α}{f:α->β->GJ (ForInStep β)}{g:β->α->β}(h:∀x∈l,∀c,f x c=pure (.yield (g c x))):∀c:β,forIn l c f=pure (l.foldl g c):=by
 induction l with
 |nil=>exact λ_=>rfl
 |cons x l ih=>
  intro c;rw[List.forIn_cons,h x Ag,pure_bind,Bf];exact ih (λy hy=>h y (AS _ hy)) (g c x)
def zF{sc:BB}{env:Env}(hf:∀y∈sc.names,y.2=.free->∃c,env.cells.lookup y.1=AA c):closureFor sc env=pure (ycC sc env):=by
 erw[closureFor];rw[zcq (g:=yO env) (λx hx c=>?_)]
 .rfl
 .let⟨n,k⟩:=x
  by_cases hk:k=.free
  .subst hk;let⟨a,ha⟩:=hf _ hx rfl;have ha':env.cells.lookup n=AA a:=ha;simp[yO,cellOf,ha']
  .have hb:(k==Bz)=false:=by simpa using hk
   simp[yO,hk,hb]
def zaV{env:Env}:∀(l:List (AM×CU)) (r:List (AM×AH)),(∀y∈l,y.2=.free->∃c,env.cells.lookup y.1=AA c)->(∀x c,r.lookup x=AA c->env.cells.lookup x=AA c) ->
  ∀x c,(l.foldl (yO env) r).lookup x=AA c->env.cells.lookup x=AA c
 |[],r,_,h=>h
 |y::l,r,hf,h=>by
  refine zaV l (yO env r y) (λz hz=>hf z (AS _ hz)) λx c e=>?_;unfold yO at e
  by_cases hk:y.2=.free
  .let⟨a,ha⟩:=hf y Ag hk;rw[if_pos hk,BK]at e
   cases hx:x==y.1 with
   |true=>
    rw[hx,ha]at e;rw[eq_of_beq hx,ha];exact e
   |false=>
    rw[hx]at e;exact h x c e
  .rw[if_neg hk]at e;exact h x c e
def zaz{env:Env}{x:AM}:∀(l:List (AM×CU)) (r:List (AM×AH)),(∃c,r.lookup x=AA c)->∃c,(l.foldl (yO env) r).lookup x=AA c
 |[],r,h=>h
 |y::l,r,h=>by
  refine zaz l (yO env r y) ?_;unfold yO
  by_cases hk:y.2=.free
  .rw[if_pos hk,BK]
   cases hx:x==y.1 with
   |true=>exact⟨_,rfl⟩
   |false=>exact h
  .rw[if_neg hk];exact h
def z5{env:Env}:∀(l:List (AM×CU)) (r:List (AM×AH)),∀y∈l,y.2=.free->∃c,(l.foldl (yO env) r).lookup y.1=AA c
 |[],_,y,hy,_=>nomatch hy
 |z::l,r,y,hy,hk=>by
  rcases Ab.mp hy with e|e
  .subst e;refine zaz l (yO env r y) ?_;unfold yO;rw[if_pos hk,BK,beq_self_eq_true];exact⟨_,rfl⟩
  .exact z5 l (yO env r z) y e hk
theorem mem_of_lookup{β:Type}{x:AM}{k:β}:∀{l:List (AM×β)},l.lookup x=AA k->(x,k)∈l
 |[],h=>nomatch h
 |y::l,h=>by
  rw[BK]at h
  cases hx:x==y.1 with
  |true=>
   rw[hx]at h
   cases h
   rw[eq_of_beq hx];exact Ag
  |false=>
   rw[hx]at h;exact AS _ (mem_of_lookup h)
def yb3(env:Env)(x:AM)(k:CU):NameKind:=if (k==.free&&env.scope.kind==.function&&env.kindOf x==AA .cell)=AD then .cell else k
def zaO{sc:BB}{env:Env}(x:AM):(relabel sc env).names.lookup x=(sc.names.lookup x).map (yb3 env x):=by
 unfold relabel;show (sc.names.map λ(n,k)=>if (k==Bz&&env.scope.kind==.function&&env.kindOf n==AA .cell)then(n,E1)else(n,k)).lookup x=_
 induction sc.names with
 |nil=>rfl
 |cons y l ih=>
  let⟨n,k⟩:=y;rw[AL];show Bk x ((if (k==Bz&&env.scope.kind==.function&&env.kindOf n==AA .cell)=AD then(n,E1)else(n,k))::_)=_
  cases hx:x==n with
  |true=>
   have e:=eq_of_beq hx;subst e
   by_cases hc:(k==Bz&&env.scope.kind==.function&&env.kindOf x==AA .cell)=AD
   .rw[if_pos hc,BK,beq_self_eq_true];simp[yb3,hc]
   .rw[if_neg hc,BK,beq_self_eq_true];simp[yb3,hc]
  |false=>
   by_cases hc:(k==Bz&&env.scope.kind==.function&&env.kindOf n==AA .cell)=AD
   .rw[if_pos hc];erw[BK,hx];exact ih
   .rw[if_neg hc];erw[BK,hx];exact ih
structure CI where
 C:AH
 s:AI
 H:Hp
 fp:List AH
def cxC(X:Cx)(sc:BB)(NC:List AM)(j:CI):Cx where
 prog:=X.prog
 w:=X.w
 K:=X.K
 mg:=X.mg
 base:=X.base
 A:=X.A
 N:=NC
 s₀:=j.s
 H₀:=j.H
 env:=compEnvC sc (ycC sc X.env) j.C X.env
 outer:=X.stack
 stack:=X.stack
 ex:=j.fp
 fn:=λ_=>AF
 calm:=X.calm
 pn:=[]
 xe:=No
def inn(slots:List (Option Nat))(σ:St):St:=slots.map λo=>o.bind λj=>(σ[j]?).join
structure yL(X:Cx)(sc:BB)(NC:List AM)(slots:List (Option Nat)):Prop where
 kind:sc.kind=.function
 names:∀y∈sc.names,y.2=.local->sc.names.lookup y.1=AA .local
 nocell:∀y∈sc.names,y.2 ≠ .cell
 free:∀y∈sc.names,y.2=.free->X.env.scope.names.lookup y.1=AA .cell
 slot:∀(i:Nat) (x:AM) (j:Nat),NC[i]?=AA x->slots[i]?=AA (AA j)->X.N[j]?=AA x/\sc.names.lookup x=AA .free
 len:slots.length=NC.length
def zjm{X:Cx}{sc:BB}{NC:List AM}{slots:List (Option Nat)}(N:List AM)(so:BB)(hN:X.N=N)(hs:X.env.scope=so)(kind:sc.kind=.function)
  (names:∀y∈sc.names,y.2=.local->sc.names.lookup y.1=AA .local) (nocell:∀y∈sc.names,y.2 ≠ .cell) (free:∀y∈sc.names,y.2=.free->so.names.lookup y.1=AA .cell)
  (slot:∀p∈NC.zip slots,(p.2.all λj=>decide (N[j]?=AA p.1/\sc.names.lookup p.1=AA .free))=AD) (len:slots.length=NC.length):yL X sc NC slots:=by
 subst hN hs;refine⟨kind,names,nocell,free,λi x j e1 e2=>?_,len⟩;have hm:(x,AA j)∈NC.zip slots:=AV (i:=i) (by rw[List.getElem?_zip_eq_some];exact⟨e1,e2⟩);have:=slot _ hm;simpa using this
section
variable {X:Cx}{sc:BB}{NC:List AM}{slots:List (Option Nat)}{π:List (AH×B1)}{σ:St}{H:Hp}{s:AI}
theorem yL.cells(O:yL X sc NC slots)(ok:X.Ok):∀y∈sc.names,y.2=.free->∃c,X.env.cells.lookup y.1=AA c:=λy hy hk=>ok.has y.1 (.inl (O.free y hy hk))
theorem yL.sub(O:yL X sc NC slots)(ok:X.Ok):∀x c,(ycC sc X.env).lookup x=AA c->X.env.cells.lookup x=AA c:=zaV sc.names [] (O.cells ok) λ_ _ e=>nomatch e
theorem yL.rel(O:yL X sc NC slots)(ok:X.Ok){x:AM}(h:sc.names.lookup x=AA .free):(relabel sc X.env).names.lookup x=AA .cell:=by
 rw[zaO,h];have e:X.env.kindOf x=AA .cell:=O.free _ (mem_of_lookup h) rfl;simp[yb3,ok.kind,e]
def zct(I:Inv X π σ H s)(O:yL X sc NC slots){fp:List AH}(hf:∀b∈fp,yaL X π H b)(hob:∀b∈fp,∃o,s.heap.get? b=AA o){h1:Aq}{t':Nat}{m:AM->Option AE}(hns:h1.Ns s.heap.objs.size m)
  (hk:∀b o,s.heap.get? b=AA o->h1.get? b=AA o):Inv (cxC X sc NC ⟨s.heap.objs.size,s,H,fp⟩) [] (inn slots σ) H {s with heap:=h1,toks:=t'}:=by
 have sub:=O.sub I.ok;have fss:∀b,b≠X.env.locals->b∉X.fs->b∉frs X.stack:=λb h1 h2 hb=>(Ab.mp (I.stkSub b hb)).elim h1 h2;have ltC:∀x c,(ycC sc X.env).lookup x=AA c->c<s.heap.objs.size:=λx c e=>by
  let⟨v,q⟩:=I.cell x c (sub x c e);exact q.lt
 refine⟨⟨I.ok.mod,O.kind,I.ok.glob,I.ok.blt,AU _,λx y c e1 e2=>I.ok.inj x y c (sub x c e1) (sub y c e2),λx hx=>?_,λ_ _ z=>(nomatch z),I.ok.hd,I.ok.frames,.inl rfl,λb hb=>⟨?_,λx c e=>(hf b hb).2.2.2.2.1 x c (sub x c e)⟩,I.bs,BC I.ok.bsz I.sz,λb o e hb=>?_,λb hb=>fss b (hf b hb).2.1 (hf b hb).2.2.1,I.stack,I.stkFree⟩,
  rfl,I.bare,Un.kept hk,⟨m,hns,λi x v e1 e2 e3=>?_⟩,λx c e=>?_,I.hok.fresh (AU _),λx c e=>I.freeC x c (sub x c e),λp hp=>(nomatch hp),I.hok.kept hk,?_⟩
 .have hx':(relabel sc X.env).names.lookup x=AA .cell \/ (relabel sc X.env).names.lookup x=AA .free:=hx;rw[zaO]at hx'
  cases q:sc.names.lookup x with
  |none=>
   rw[q]at hx';rcases hx' with z|z<;>cases z
  |some k=>
   have hm:=mem_of_lookup q;have hkf:k=.free:=by
    rw[q]at hx';have nc:=O.nocell _ hm
    by_cases hk:k=.free
    .exact hk
    .exfalso;have hb:(k==Bz)=false:=by simpa using hk
     rcases hx' with z|z
     .simp[yb3,hb]at z;exact nc z
     .simp[yb3,hb]at z;exact hk z
   subst hkf;exact z5 sc.names [] _ hm rfl
 .let⟨o,e⟩:=hob b hb;exact Ac (AQ e)
 .rcases (hf b hb).2.2.2.1 with z|z
  .exact I.ok.noex b o e z
  .exact absurd (A0 (AQ e) (BC I.ok.bsz z)) (Bm _)
 .obtain⟨j,e4,e5⟩:∃j,slots[i]?=AA (AA j)/\σ[j]?=AA (AA v):=by
   have e2':(slots.map λo=>o.bind λj=>(σ[j]?).join)[i]?=AA (AA v):=e2;rw[BU]at e2'
   cases q:slots[i]? with
   |none=>
    rw[q]at e2'
    cases e2'
   |some o=>
    rw[q]at e2'
    cases o with
    |none=>cases e2'
    |some j=>
     refine⟨j,rfl,?_⟩;have e6:(σ[j]?).join=AA v:=AW e2'
     cases q2:σ[j]? with
     |none=>
      rw[q2]at e6
      cases e6
     |some w=>
      rw[q2]at e6;have e7:w=AA v:=e6;rw[e7]
  let⟨e6,e7⟩:=O.slot i x j e1 e4;have kc:X.env.scope.names.lookup x=AA .cell:=O.free _ (mem_of_lookup e7) rfl;let⟨m0,hn0,hl⟩:=I.loc;let⟨u,r,lk⟩:=hl j x v e6 e5 (.inr (.inl kc));refine⟨u,r,.inr ⟨.inl (O.rel I.ok e7),?_⟩⟩;rcases lk with⟨z,_⟩|⟨_,c,hc,o,ho,hd⟩
  .rw[show X.env.kindOf x=AA .cell from kc]at z
   cases z
  .let⟨c',hc'⟩:=z5 (env:=X.env) sc.names [] _ (mem_of_lookup e7) rfl;have e8:c'=c:=AW ((sub x c' hc').symm.trans hc);subst e8;exact⟨c',hc',o,hk _ _ ho,hd⟩
 .let⟨v,o,ho,hd⟩:=I.cell x c (sub x c e);exact⟨v,o,hk _ _ ho,hd⟩
 .show (slots.map λo=>o.bind λj=>(σ[j]?).join).length=NC.length;rw[A4,O.len]
def zcr(I:Inv X π σ H s){fp:List AH}(hf:∀b∈fp,yaL X π H b){C:AH}(hC:s.heap.objs.size<=C){pl:List (AH×B1)}{σ':St}{H':Hp}{s':AI}(J:Inv (cxC X sc NC ⟨C,s,H,fp⟩) pl σ' H' s')
  {h2:Aq} (hb:CG C s'.heap h2):Inv X π σ H' {s' with heap:=h2}:=by
 have nC:∀b o,s.heap.get? b=AA o->b≠C:=λb o e=>Ac (A0 (AQ e) hC);have B:Un (frs X.stack) fp H H' s.heap s'.heap:=J.base;have fC:H' C=none:=J.free;refine I.call' (ch:=fp) J.os ⟨λb o e n h3 h4=>(hb.2 b (nC b o e)).trans (B.keep b o e n h3 h4),λb o e n h3 h4=>?_,B.free,λb o e h4=>?_,B.tups,B.frzs,B.tbls⟩ (λb u e=>?_) J.bare λb h3=>⟨(hf b h3).2.2.2.1,(hf b h3).2.1,(hf b h3).2.2.2.2.1,(hf b h3).2.2.2.2.2⟩
 .let⟨sl,q⟩:=B.slot b o e n h3 h4;exact⟨sl,(hb.2 b (nC b o e)).trans q⟩
 .let⟨o',q⟩:=B.there b o e h4;exact⟨o',(hb.2 b (nC b o e)).trans q⟩
 .refine(J.hok b u e).stay (λc v hc q=>(hb.2 c λz=>?_).trans q) (λ_ q=>q) λ_ _ q=>q;subst z;rcases hc with z|z
  .rw[z,e]at fC
   cases fC
  .rw[z]at fC
   cases fC
end
def PTs(X:Cx)(ifs:List AO)(t:TT):Prop:=
 ∀(π:List (AH×B1)) (s:AI) (σ:St) (H:Hp) (Q:Bool->Hp->Prop),Inv X π σ H s->t σ H Q->AZ (model X.prog X.w) X.A (ycu ifs X.env) (TP X π σ Q) X.xe s
def yfI:TT:=λ_ H Q=>Q AD H
def zfz{X:Cx}:PTs X [] yfI:=λ_ _ _ H _ I h=>wpAny_tests_nil ⟨H,I,h⟩
def zfA{X:Cx}{c:AO}{t:TT}(h:PT X c t):PTs X [c] t:=λπ s σ H Q I q=>wpAny_tests_one (h π s σ H Q I q)
def ybZ(J:It)(D:AH)(g:TG)(ti:TT)(te:TE)(W:Nat->Nat->St->List V->Hp->Prop)(Q:Hp->Prop):Prop:=
 ∀i m σc ys H2,W i m σc ys H2->H2 D=AA (.lst ys)/\((J.stop i H2/\Q H2) \/ (J.go i H2/\ys.length<sizeLine/\∃N:St->List V->Hp->Prop,(∀σ' ys' H',N σ' ys' H'->∃m',m' < m/\W (i+1) m' σ' ys' H') /\
  ∀x H3,J.yld i H2 x H3->g x σc H3 λσ4 H4=>ti σ4 H4 λb H5=>if b=AD then te σ4 H5 λy H6=>H6 D=AA (.lst ys)/\N σ4 (ys++[y]) (upd H6 D (.lst (ys++[y])))else N σ4 ys H5))
def ybR(slots:List (Option Nat))(wi:TI)(g:TG)(ti:TT)(te:TE):TE:=λσ H Q=>wi σ H λJ H1=>∀D,H1 D=AC->∃W:Nat->Nat->St->List V->Hp->Prop,(∃m,W 0 m (inn slots σ) [] (upd H1 D (.lst [])))/\ybZ J D g ti te W (Q (.ref D))
section
variable {X:Cx}{sc:BB}{NC:List AM}{slots:List (Option Nat)}{elt tg iter:AO}{ifs:List AO}{pos:Ba}{g:TG}{ti:TT}{te:TE}
def zeY(hc:X.calm=AD)(hg:∀j,PG (cxC X sc NC j) tg g)(ht:∀j,PTs (cxC X sc NC j) ifs ti)(he:∀j,PE (cxC X sc NC j) elt te){cj:CI}{it D:AH}{tn:Nat->Aq->Prop}{J:It}
  {W:Nat->Nat->St->List V->Hp->Prop} {Q:Hp->Prop} {R:FD->AI->Prop} {s:AI} {σc:St} {ys:List V} {H:Hp} (T:Turn X.prog X.w X.K tg J cj.fp it tn)
  (I:Inv (cxC X sc NC cj) [] σc H s) (hf:∀b∈cj.fp,yaL (cxC X sc NC cj) [] H b) (st:tn 0 s.heap) {m:Nat} (w0:W 0 m σc ys H) (step:ybZ J D g ti te W Q)
  (fin:∀σ' H' s',Inv (cxC X sc NC cj) [] σ' H' s'->Q H'->R (.ok .next) s'):
  codeAny (model X.prog X.w) X.A (.compLoop (.ListComp elt [⟨tg,iter,ifs,0⟩] sc pos) 0 (.ref it) (.ref D) (cxC X sc NC cj).env) R s:=by
 have stat:∀{H':Hp},(∀b∈cj.fp,H' b=AC)->∀b∈cj.fp,yaL (cxC X sc NC cj) [] H' b:=λhn b hb=>⟨hn b hb,(hf b hb).2⟩;refine zcR (λn s'=>∃i σ' ys' H',Inv (cxC X sc NC cj) [] σ' H' s'/\tn i s'.heap/\(∀b∈cj.fp,H' b=AC)/\W i n σ' ys' H') ?_ m ⟨0,σc,ys,H,I,st,λb hb=>(hf b hb).1,w0⟩
 rintro n s3 ⟨i,σ3,ys3,H3,I3,st3,fr3,w3⟩
 let⟨hD,q⟩:=step i n σ3 ys3 H3 w3;rcases q with⟨stop,qn⟩|⟨go,hz,N,hN,turn⟩
 .refine thn (T.done (cxC X sc NC cj) rfl rfl rfl hc i [] s3 σ3 H3 No I3 (stat fr3) st3 stop) λr s4 kq=>?_;let⟨hr,I4⟩:=kq;subst hr;exact fin σ3 H3 s4 I4 qn
 .refine thn (T.item (cxC X sc NC cj) rfl rfl rfl hc i [] s3 σ3 H3 No I3 (stat fr3) st3 go) λr s4 kq=>?_;let⟨u,hr,h4⟩:=kq;subst hr;refine thn h4 λ_ s5 kq=>?_;let⟨x,H5,I5,r5,y5,st5,fr5⟩:=kq;have I5':=I5.pinned (stat fr5) (T.obj _ _ st5);refine thn (hg cj _ s5 σ3 H5 x u _ I5' r5 (turn x H5 y5)) λ_ s6 kq=>?_;let⟨σ6,H6,I6,q6⟩:=kq;refine thn (ht cj _ s6 σ6 H6 _ I6 q6) λok s7 kq=>?_;let⟨H7,I7,q7⟩:=kq;have again:∀{σ8:St} {ys8:List V} {H8:Hp} {s8:AI},Inv (cxC X sc NC cj) ([]++yaI cj.fp s5.heap) σ8 H8 s8->N σ8 ys8 H8->∃m,m<n/\∃i σ' ys' H',Inv (cxC X sc NC cj) [] σ' H' s8/\tn i s8.heap/\(∀b∈cj.fp,H' b=AC)/\W i m σ' ys' H':=λ{σ8 ys8 H8 s8} I8 n8=>by
   let⟨m',hm,w8⟩:=hN σ8 ys8 H8 n8;refine⟨m',hm,i+1,σ8,ys8,H8,I8.unpinned,T.keep _ _ _ st5 λb hb o e=>(I8.pin (b,o) (Ad _ (Ad _ (zO hb e)))).1,λb hb=>?_,w8⟩;let⟨o,e,d⟩:=T.obj _ _ st5 b hb;exact(I8.pin (b,o) (Ad _ (Ad _ (zO hb e)))).2.1
  cases ok with
  |false=>
   rw[if_neg Ah]at q7 ⊢;exact again I7 q7
  |true=>
   rw[if_pos rfl]at q7 ⊢;refine thn (he cj _ s7 σ6 H7 _ I7 q7) λy s8 kq=>?_;let⟨v,H8,I8,r8,hD8,q8⟩:=kq;refine thn (zbo (X:=cxC X sc NC cj) _ s8 σ6 H8 (.ref D) [v] (.ref D) [y] (λz H'=>z=.non/\H'=upd H8 D (.lst (ys3++[v]))) I8 rfl (.cons r8 .nil) ⟨D,ys3,v,rfl,rfl,hD8,hz,rfl,rfl⟩) λz s9 kq=>?_;let⟨zv,H9,I9,r9,e1,e2⟩:=kq;subst e2;exact again I9 q8
def zaM(hc:X.calm=AD)(O:yL X sc NC slots)(hg:∀j,PG (cxC X sc NC j) tg g)(ht:∀j,PTs (cxC X sc NC j) ifs ti)(he:∀j,PE (cxC X sc NC j) elt te){π:List (AH×B1)}{s:AI}{σ:St}{H:Hp}(I:Inv X π σ H s)
  {it:AH} {fp:List AH} {tn:Nat->Aq->Prop} {J:It} (T:Turn X.prog X.w X.K tg J fp it tn) (st:tn 0 s.heap) (hf:∀b∈fp,yaL X π H b) {Q:VK}
  (h:∀D,H D=AC->∃W:Nat->Nat->St->List V->Hp->Prop,(∃m,W 0 m (inn slots σ) [] (upd H D (.lst [])))/\ybZ J D g ti te W (Q (.ref D))) {RR:AE->AH->FD->AI->Prop}
  (fin:∀D C s' H',Q (.ref D) H'->(∃o m,s'.heap.get? C=AA o/\s'.heap.Ns C m/\∀v,o.data ≠ .cell v)->yaL X π H' C->(∀h2,CG C s'.heap h2->Inv X π σ H' {s' with heap:=h2})->RR (.ref D) C (.ok .next) s'):
  AZ (model X.prog X.w) X.A (newList []) (λacc s3=>AZ (model X.prog X.w) X.A (newFunctionEnv sc X.env.globals (ycC sc X.env) [] X.env.qual AC .none (AA X.env)) (λcenv s4=>
   codeAny (model X.prog X.w) X.A (.compStart (.ListComp elt [⟨tg,iter,ifs,0⟩] sc pos) 0 (.ref it) acc {cenv with scope:=relabel sc X.env}) (RR acc cenv.locals) s4) X.xe s3) X.xe s:=by
 refine BO (wpAny_newFunctionEnv O.nocell (by intro y hy;simp at hy) (λh1 hns1 hsb1=>?_) O.kind);dsimp only at hns1 hsb1 ⊢;have hDn:H s.heap.objs.size=none:=I.hok.fresh (AU _);let⟨W,⟨m,w0⟩,step⟩:=h s.heap.objs.size hDn;obtain⟨s3,hs3⟩:∃x:AI,x=({s with heap:=s.heap.push {cls:=.type "list",dict:=AC,data:=.seq ([]:List AE).toArray} }:AI):=⟨_,rfl⟩;have e3:s3.heap=s.heap.push {cls:=.type "list",dict:=AC,data:=.seq ([]:List AE).toArray}:=by rw[hs3]
 rw[<-e3]at hns1 hsb1;have hp3:∀b o,s.heap.get? b=AA o->s3.heap.get? b=AA o:=λb o e=>by
  rw[e3];exact AN _ e
 have I3:Inv X π σ (upd H s.heap.objs.size (.lst [])) s3:=by
  have q:=I.laid (a:=s.heap.objs.size) (o:=.lst []) (h':=s3.heap) (t':=s.toks) hp3 (AU _) ⟨DR _,[],_,.nil,by rw[e3];exact A3 _ rfl⟩;rw[hs3]at q ⊢;exact q
 have hf3:∀b∈fp,yaL X π (upd H s.heap.objs.size (.lst [])) b:=λb hb=>by
  let⟨o,e,_⟩:=T.obj _ _ st b hb;refine⟨?_,(hf b hb).2⟩;rw[za (Ac (AQ e))];exact(hf b hb).1
 have st3:tn 0 s3.heap:=T.keep _ _ _ st λb _ o e=>hp3 b o e;have hob:∀b∈fp,∃o,s3.heap.get? b=AA o:=λb hb=>by
  let⟨o,e,_⟩:=T.obj _ _ st3 b hb;exact⟨o,e⟩
 have hk1:∀b o,s3.heap.get? b=AA o->h1.get? b=AA o:=λb o e=>hsb1.extBut b o (Ac (AQ e)) (AN _ e);have J1:=zct (t':=s3.toks+([]:List (AM×AE)).length) I3 O hf3 hob hns1 hk1;have hfc:∀b∈fp,yaL (cxC X sc NC ⟨s3.heap.objs.size,s3,upd H s.heap.objs.size (.lst []),fp⟩) [] (upd H s.heap.objs.size (.lst [])) b:=λb hb=>
  ⟨(hf3 b hb).1,(J1.ok.exf b hb).1,J1.ok.exfs b hb,.inl hb,(J1.ok.exf b hb).2,λp hp=>nomatch hp⟩
 have loop:codeAny (model X.prog X.w) X.A (.compLoop (.ListComp elt [⟨tg,iter,ifs,0⟩] sc pos) 0 (.ref it) (.ref s.heap.objs.size) (cxC X sc NC ⟨s3.heap.objs.size,s3,upd H s.heap.objs.size (.lst []),fp⟩).env) (RR (.ref s.heap.objs.size) s3.heap.objs.size)
   {s3 with heap:=h1,toks:=s3.toks+([]:List (AM×AE)).length}:=by
  refine zeY (D:=s.heap.objs.size) (Q:=Q (.ref s.heap.objs.size)) hc hg ht he T J1 hfc (T.keep _ _ _ st3 λb _ o e=>hk1 b o e) w0 step λσ' H' s' J' q'=>?_;have fC:H' s3.heap.objs.size=none:=J'.free;refine fin _ _ s' H' q' ?_ (I3.fpOk (AU _) fC) λh2 hb=>zcr I3 hf3 (AU _) J' hb;let⟨m',hn',_⟩:=J'.loc;let⟨o,es,ep,ho,hd,r⟩:=id hn';exact⟨o,m',ho,hn',λv z=>by rw[hd]at z;cases z⟩
 have self:=λ(RQ:AE->AI->Prop) (EE:AE->AI->Prop)=>T.self X.A 0 {s3 with heap:=h1,toks:=s3.toks+([]:List (AM×AE)).length} RQ EE (T.keep _ _ _ st3 λb _ o e=>hk1 b o e);subst hs3;exact codeAny_compStart_list loop (self _ _ loop)
variable {wi:TI}
def zgJ(hc:X.calm=AD)(O:yL X sc NC slots)(hi:PI X tg iter wi)(hg:∀j,PG (cxC X sc NC j) tg g)(ht:∀j,PTs (cxC X sc NC j) ifs ti)(he:∀j,PE (cxC X sc NC j) elt te)
  (hs:∀x,foldedSetIterable iter X.env x=pure x:=by intro _;rfl):PE X (.ListComp elt [⟨tg,iter,ifs,0⟩] sc pos) (ybR slots wi g ti te):=by
 intro π s σ H Q I h;rw[eval_ListComp];refine DY (use:=AC) rfl hs (zF (O.cells I.ok)) O.kind O.names (thn (hi π s σ H _ I h) λv s1 h1=>thn h1 λitv s2 h2=>?_);let⟨it,fp,tn,J,H2,rfl,I2,T,st2,f2,q2⟩:=h2;refine zaM hc O hg ht he I2 T st2 f2 q2 λD C s' H' q' ⟨o,m,ho,hn,_⟩ _ out=>⟨m,hn,λh2 hb=>⟨.ref D,H',out h2 hb,rfl,q'⟩⟩
def zgn{i:Nat}{x:AM}{px spos:Ba}(hN:X.N.Nodup)(hix:X.N[i]?=AA x)(hx:Loc X.env.scope x)(hc:X.calm=AD)(O:yL X sc NC slots)(hi:PI X tg iter wi)(hg:∀j,PG (cxC X sc NC j) tg g)(ht:∀j,PTs (cxC X sc NC j) ifs ti)(he:∀j,PE (cxC X sc NC j) elt te)
  (hsw:swapsWith (.ListComp elt [⟨tg,iter,ifs,0⟩] sc pos) (AA (.Name x px)) spos.line X.env=pure true:=by rfl) (hs:∀x,foldedSetIterable iter X.env x=pure x:=by intro _;rfl)
  (hf:X.fn x=AD \/ X.env.scope.names.lookup x=AA .local:=by first|exact .inl rfl|exact .inr rfl|assumption):PS X (.Assign [.Name x px] (.ListComp elt [⟨tg,iter,ifs,0⟩] sc pos) spos) (ycT (ybR slots wi g ti te) (ybp i)):=by
 intro π s σ H Dd I h;rw[exec_Assign_Name_used _ _ _ _ hsw,arm_evalThenUse_ListComp];refine AJ (Cf (AJ (AJ ?_)));refine DY (Q:=λ_ s'=>AZ (model X.prog X.w) X.A (pure ()) (λ_ s''=>AZ (model X.prog X.w) X.A (pure Fg) (SP X π Dd) X.xe s'') X.xe s') rfl hs (zF (O.cells I.ok)) O.kind O.names (thn (hi π s σ H _ I h) λv s1 h1=>thn h1 λitv s2 h2=>?_);let⟨it,fp,tn,J,H2,rfl,I2,T,st2,f2,q2⟩:=h2;refine zaM (Q:=λx H1=>ybp i x σ H1 Dd.nx) hc O hg ht he I2 T st2 f2 q2 λD C s' H' q' ⟨o,m,ho,hn,hd⟩ FC out=>?_;have I':Inv X π σ H' s':=out s'.heap (GS ..);have Ip:Inv X (π++[(C,o)]) σ H' s':=I'.pins_of λp hp=>(BY.mp hp).elim (λz=>I'.pin p (Ad _ z)) λz=>by
  have e:p=(C,o):=by simpa using z
  subst e;exact⟨ho,FC.1,FC.2.1,FC.2.2.1,hd⟩
 show AZ (model X.prog X.w) X.A (assign (.Name x px) X.env (.ref D)) _ _ s';refine Ej (zN Ip hN hix hx (show RelV (.ref D) (.ref D)from rfl) (λs6 I6=>?_) hf);have g6:=(I6.pin (C,o) (Ad _ (Ad _ Ag))).1;let⟨o',es,ep,ho',r⟩:=hn;rw[ho]at ho'
 cases ho'
 refine⟨m,⟨o,es,ep,g6,r⟩,λh2 hb=>AT (AT ?_)⟩;exact⟨_,H',I6.unpinned.turned (t':=s6.toks) (λb u hb' e=>(hb.2 b hb').trans e) FC.1 FC.2.1 FC.2.2.2.1 FC.2.2.2.2.1 FC.2.2.2.2.2,q'⟩
end
def za3:∀{bs:List Bool} {us:List AE},Vals (bs.map V.bl) us->LSm.BoolsAre us bs
 |[],_,.nil=>.nil
 |b::bs,_,.cons r q=>by
  cases (show _=Cu b from r)
  exact .cons b (za3 q)
section
variable {X:Cx}
def yfJ(K:AB):List V->Hp->VK->Prop:=λxs H Q=>∃(l:AH) (bs:List Bool),xs=[.ref l]/\SqL K H l (bs.map V.bl)/\Q (.bl (bs.all id)) H
def zef(hc:X.calm=AD):yJ X (.builtin "all") (yfJ X.K):=by
 intro π s σ H xs us Q I r h;let⟨l,bs,rfl,hq,q⟩:=h;let⟨u,rfl,ru⟩:=Vals.one r
 cases (show u=Af l from ru)
 let⟨its,rv,pl,hz⟩:=I.list hq;have hb:=za3 rv;have hl:=pl.isList;have hlt:l<s.heap.objs.size:=by
  let⟨_,e,_⟩:=hl;exact AQ e
 refine call_all_walk (DV hl ?_);refine⟨s.heap.objs.size,[s.heap.objs.size,l],[s.heap.objs.size],its.toArray.size,_,_,λi=>(bs[i]?).getD AD,rfl,GP (A:=X.A.in1) (I.ok.hd hc) _ l (Ac hlt) its.toArray,⟨⟨_,A3 _ rfl,rfl,rfl⟩,hl.push _⟩,λi v s' Q' E' hP hQ=>?_,λh' tk hk=>?_⟩
 .let⟨b,e,rfl⟩:=hb.get i v (by simpa using hP);erw[e,Ax]at hQ;exact BA hQ
 .have e:((CN its.toArray.size).all λi=>(bs[i]?).getD AD)=bs.all id:=by
   rw[AR,hb.length];exact LSm.range_all bs
  rw[e];exact⟨.bl _,H,I.kept (t':=tk) (E2 hk),rfl,q⟩
end
section
variable {X:Cx}{π:List (AH×B1)}{σ:St}{H:Hp}{s:AI}
end
section
variable {X:Cx}{a:AO}{ta:TE}{K:AB}
end
end L2
namespace L2
end L2
namespace L2
open PySem PySem.Spec PyProof.Rows
def CX1(P:A1)(w:A8):CXT:=λouter H s E e s'=>∃(a:AH) (cls a0:AE) (H':Hp) (B:Aq),e=.ref a/\s'.os=s.os/\Cd s'.gens/\Fm B outer a cls a0 s'.heap/\HOk P w H' s'.heap/\Un (frs outer) [] H H' s.heap s'.heap /\
 (∀b o,s.heap.get? b=AA o->H b=AC->b∉frs outer->B.get? b=AA o)/\(∀b u,H' b=AA u->∃o,B.get? b=AA o)/\(∀b o,s.heap.get? b=AA o->b∉frs outer->∃o',B.get? b=AA o')/\E cls AC H'
theorem yI.there{P:A1}{w:A8}{H:Hp}{h:Aq}{a:AH}{o:HO}(x:yI P w H h a o):∃ob,h.get? a=AA ob:=by
 induction o with
 |lst xs=>let⟨_,_,_,_,e⟩:=x;exact⟨_,e⟩
 |tup xs=>let⟨_,_,_,e⟩:=x;exact⟨_,e⟩
 |dK kvs=>let⟨_,_,_,_,ob,_,_,e,_⟩:=x;exact⟨ob,e⟩
 |dT kvs=>let⟨_,_,_,_,ob,_,_,e,_⟩:=x;exact⟨ob,e⟩
 |set S n=>let⟨ob,_,_,_,e,_⟩:=x;exact⟨ob,e⟩
 |ins C dx fs=>let⟨_,_,_,e,_⟩:=x;exact⟨_,e⟩
 |own y=>exact x
 |xd fs=>let⟨_,⟨ob,_,_,e,_⟩,_⟩:=x;exact⟨ob,e⟩
 |rng lo hi=>let⟨_,_,_,e⟩:=x;exact⟨_,e⟩
 |frz ob u ih=>exact⟨ob,x.1⟩
 |tbl ps=>exact⟨_,x⟩
 |met f y=>exact⟨_,x⟩
 |ext φ=>exact x.2.1
theorem HOk.inB{P:A1}{w:A8}{H:Hp}{h h' B:Aq}(ok:HOk P w H h)(hB:B.StaysIn h)(hB':B.StaysIn h')(tr:∀b u,H b=AA u->∃o,B.get? b=AA o):HOk P w H h':=λa o e=>
 (ok a o e).stay (λb u hb q=>by
  have hb':∃o,B.get? b=AA o:=by
   rcases hb with z|z
   .rw[z];exact tr a o e
   .exact tr b _ z
  let⟨o',q'⟩:=hb';have:=hB b o' q';rw[q]at this
  cases this
  exact hB' b u q') (λ_ q=>q) λ_ _ q=>q
section
variable {P:A1}{w:A8}{K:AB}{mg:AM->Option AE}{base:Aq}{N:List AM}{qual:AM}{scope:BB}{f:AH}{cd:AE}{A:A9}{outer:List Env}{s₀:AI}{H₀:Hp}{E:XK}
 {π:List (AH×B1)} {σ:St} {H:Hp} {s:AI}
def zc5{h':Aq}{e:AH}{cls:AE}{vs:List AE}(I:Inv (yap (CX1 P w) P w K mg base N qual scope f cd A outer s₀ H₀ E) π σ H s)(hx:F3 s.heap h' e cls vs)(hE:E cls AC H):
  (yap (CX1 P w) P w K mg base N qual scope f cd A outer s₀ H₀ E).xe (.ref e) {s with heap:=h'}:=by
 have stk:s.heap.FunFrames base (envOfC qual scope s₀.heap.objs.size f cd::outer):=I.stack;have hst:∀b,b∈frs (envOfC qual scope s₀.heap.objs.size f cd::outer)->b=s₀.heap.objs.size \/ b∈frs outer:=λb hb=>by
  have hb':b∈s₀.heap.objs.size::frs outer:=hb;exact Ab.mp hb'
 have inB:∀b o,s.heap.get? b=AA o->b∉frs (envOfC qual scope s₀.heap.objs.size f cd::outer)->(CM s.heap (frs (envOfC qual scope s₀.heap.objs.size f cd::outer))).get? b=AA o:=λb o q n=>ER _ q n;have hB:(CM s.heap (frs (envOfC qual scope s₀.heap.objs.size f cd::outer))).StaysIn s.heap:=λb o q=>E8 _ q;have bse:Un (frs outer) [] H₀ H s₀.heap s.heap:=I.base;have lt:∀b o,s₀.heap.get? b=AA o->b≠s₀.heap.objs.size:=λb o q=>Ac (AQ q);have tr:∀b u,H b=AA u->∃o,(CM s.heap (frs (envOfC qual scope s₀.heap.objs.size f cd::outer))).get? b=AA o:=λb u q=>by
  let⟨o,ho⟩:=yI.there (I.hok b u q);exact⟨o,inB b o ho λhb=>by
   have:=I.stkFree b hb;rw[q]at this
   cases this⟩
 refine wpAny_leaves_madeW (base:=CM s.heap (frs (envOfC qual scope s₀.heap.objs.size f cd::outer))) (h:=s.heap) I.ok.frames rfl hB (PySem.W.funFrames_hide stk λenv he a ha=>Cz.mpr ⟨env,he,ha⟩) hx λh'' t fl tu tn up=>?_;have up':s.heap.UpToSlots h'':=(Fi hx.keeps).trans up;refine⟨e,cls,_,H,_,rfl,I.os,I.bare,fl,HOk.inB I.hok hB fl.1 tr,⟨λb o q n hb _=>?_,λb o q n hb _=>?_,bse.free,λb o q _=>?_,bse.tups,bse.frzs,bse.tbls⟩,λb o q n hb=>?_,tr,λb o q hb=>?_,hE⟩
 .refine fl.1 b o (inB b o (bse.keep b o q n hb (by simp)) λz=>?_);rcases hst b z with z|z
  .exact lt b o q z
  .exact hb z
 .let⟨sl,q1⟩:=bse.slot b o q n hb (by simp);let⟨_,o',ho',hd⟩:=B8 stk (show b∈C1 (λ(z:Env)=>z.frame) _ from AS _ hb);let⟨sl',q2⟩:=up' b _ q1 (by rw[ho']at q1;cases q1;exact hd);exact⟨sl',q2⟩
 .let⟨o',q1⟩:=bse.there b o q (by simp)
  by_cases hb:b∈frs (envOfC qual scope s₀.heap.objs.size f cd::outer)
  .let⟨_,o2,ho',hd⟩:=B8 stk hb;let⟨sl',q2⟩:=up' b _ ho' hd;exact⟨_,q2⟩
  .exact⟨o',fl.1 b o' (inB b o' q1 hb)⟩
 .refine inB b o (bse.keep b o q n hb (by simp)) λz=>?_;rcases hst b z with z|z
  .exact lt b o q z
  .exact hb z
 .let⟨o',q1⟩:=bse.there b o q (by simp);refine⟨o',inB b o' q1 λz=>?_⟩;rcases hst b z with z|z
  .exact lt b o q z
  .exact hb z
def zjn:yaU (CX1 P w) (yap (CX1 P w) P w K mg base N qual scope f cd A outer s₀ H₀ E) E:=by
 intro π σ H s e s' I h;let⟨a,cls,a0,H',B,rfl,os,bare,fl,hok,un,hB,tr,hT,hE⟩:=h;have bse:Un (frs outer) [] H₀ H s₀.heap s.heap:=I.base;have lt:∀b o,s₀.heap.get? b=AA o->b≠s₀.heap.objs.size:=λb o q=>Ac (AQ q);have hst:∀b,b∈frs (envOfC qual scope s₀.heap.objs.size f cd::outer)->b=s₀.heap.objs.size \/ b∈frs outer:=λb hb=>by
  have hb':b∈s₀.heap.objs.size::frs outer:=hb;exact Ab.mp hb'
 have un':Un (frs (envOfC qual scope s₀.heap.objs.size f cd::outer)) [] H H' s.heap s'.heap:=un;have kB:∀b o,s₀.heap.get? b=AA o->H₀ b=AC->b∉frs outer->B.get? b=AA o:=λb o q n hb=>hB b o (bse.keep b o q n hb (by simp)) (bse.free b o q n (by simp)) λz=>by
  rcases hst b z with z|z
  .exact lt b o q z
  .exact hb z
 have kT:∀b o,s₀.heap.get? b=AA o->b∉frs outer->∃o',B.get? b=AA o':=λb o q hb=>by
  let⟨o',q1⟩:=bse.there b o q (by simp);refine hT b o' q1 λz=>?_;rcases hst b z with z|z
  .exact lt b o q z
  .exact hb z
 refine wpAny_leaves_onW I.ok.frames rfl fl λh'' fl' up=>?_;refine⟨a,cls,a0,H',B,rfl,os.trans I.os,bare,fl',HOk.inB hok fl.1 fl'.1 tr,⟨λb o q n hb _=>fl'.1 b o (kB b o q n hb),λb o q n hb _=>?_,λb o q n _=>?_,λb o q _=>?_,λb xs q=>un'.tups b xs (bse.tups b xs q),λb o u q=>un'.frzs b o u (bse.frzs b o u q),λb ps q=>?_⟩,kB,tr,kT,hE⟩
 .let⟨sl,q1⟩:=bse.slot b o q n hb (by simp);have n1:=bse.free b o q n (by simp);let⟨sl1,q2⟩:=un'.slot b _ q1 n1 (AS _ hb) (by simp);let⟨_,o',ho',hd⟩:=B8 fl.2.2.1 (show b∈C1 (λ(z:Env)=>z.frame) _ from AS _ hb);let⟨sl',q3⟩:=up b _ q2 (by rw[ho']at q2;cases q2;exact hd);exact⟨sl',q3⟩
 .let⟨o',q1⟩:=bse.there b o q (by simp);exact un'.free b o' q1 (bse.free b o q n (by simp)) (by simp)
 .let⟨o',q1⟩:=bse.there b o q (by simp);let⟨o2,q2⟩:=un'.there b o' q1 (by simp)
  by_cases hb:b∈frs outer
  .let⟨_,o3,ho3,hd⟩:=B8 fl.2.2.1 (show b∈C1 (λ(z:Env)=>z.frame) _ from AS _ hb);let⟨sl',q3⟩:=up b _ ho3 hd;exact⟨_,q3⟩
  .let⟨o4,q4⟩:=kT b o q hb;exact⟨o4,fl'.1 b o4 q4⟩
 .let⟨m1,e1⟩:=bse.tbls b ps q;let⟨m2,e2⟩:=un'.tbls b _ e1;exact⟨m1++m2,by rw[e2,Cv]⟩
end
section
variable {X:Cx}{e:AO}{es:List AO}{te:TE}
end
section
variable {X:Cx}{e:AO}{es:List AO}{t:TA}{E:XK}
end
structure ydo(K:AB)(C:AH):Prop where
 ga:A7 K (.ref C) "__getattribute__"=AA (AA (.builtin "BaseException.__getattribute__"))
 gh:A7 K (.ref C) "__getattr__"=AA AC
 cl:A7 K (.ref C) "__class__"=AA (AA (.builtin "object.__class__"))
 sb:F8 K (.ref C) (.type "BaseException")=AA AD
 mo:F9 K C (.type "object")=AA AD
 ct:∃cd,Fa K C=AA cd
section
variable {pg:A1}{wd:A8}{A:A9}{E:AE->AI->Prop}{h:Aq}{g:Array GenState}{d:Drawn}{t:Nat}{os:OsState}{a C:AH}{o:B1}{K:AB}
end
def yfv(a C:AH):Aq->Prop:=λh=>∃o,h.get? a=AA o/\o.cls=.ref C
section
variable {X:Cx}
end
section
variable {X:Cx}{π:List (AH×B1)}{σ:St}{H:Hp}{s:AI}
end
section
variable {X:Cx}{π:List (AH×B1)}{σ:St}{H:Hp}{s:AI}
end
section
variable {X:Cx}{body suite:List BS}{b₀:BS}{x n:AM}{np hpos pos:Ba}{tb:XK->TS}{ts:TS}{W:AH}{i:Nat}
end
structure yam(k:Nat)(A:A9):Prop where
 dp:A.depth+3*k+5<recursionLimit
 un:A.units+16*k+200<cLine
theorem yaj.h{k:Nat}{A:A9}(r:yaj k A):yam k A:=⟨r.dp,r.un⟩
theorem yam.deeper{k:Nat}{A:A9}(r:yam (k+1) A)(env:Env):yam k (A.deeper env):=⟨by have:=r.dp;show A.depth+1+3*k+5<_;lia,by have:=r.un;show A.units+3+16*k+200<_;lia⟩
structure ybi(P:A1)(w:A8)(K:AB)(mg:AM->Option AE)(base:Aq)(k:Nat)(f:AH)(fd:Al)(ps:List AM)(sp:Sp):Prop where
 len:∀vs H Q E,sp vs H Q E->vs.length=ps.length
 run:∀(A:A9) (outer:List Env) (s:AI) (H:Hp) (args:Args) (us:List AE) (vs:List V) (Q:VK),yam k A->ybr P w K mg base A outer s H->De s fd args (ps.zip us)->Vals vs us->sp vs H Q E0 ->
  codeAny (model P w) A (.call (.ref f) args) (CR CX0 outer P w H s Q E0) s
abbrev ya1(P:A1)(w:A8)(K:AB)(mg:AM->Option AE)(base:Aq)(N:List AM)(qual:AM)(scope:BB)(f:AH)(cd:AE)(A:A9)(outer:List Env)(s:AI)(H:Hp):Cx:=
 {yap CX0 P w K mg base N qual scope f cd A outer s H E0 with calm:=AF,xe:=No}
theorem Inv.calmless{X:Cx}{π:List (AH×B1)}{σ:St}{H:Hp}{s:AI}(I:Inv X π σ H s)(A:A9)(E:AE->AI->Prop)(hf:A.frames=X.A.frames):Inv {X with A:=A,calm:=AF,xe:=E} π σ H s:=
 ⟨⟨I.ok.mod,I.ok.kind,I.ok.glob,I.ok.blt,I.ok.above,I.ok.inj,I.ok.has,I.ok.cab,(λz=>nomatch z),hf.trans I.ok.frames,I.ok.stk,I.ok.exf,I.ok.bs,I.ok.bsz,I.ok.noex,I.ok.exfs,I.ok.funs,I.ok.frf⟩,I.os,I.bare,I.base,I.loc,I.cell,I.free,I.freeC,I.pin,I.hok,I.len⟩
section
variable {P:A1}{w:A8}{K:AB}{mg:AM->Option AE}{base:Aq}
theorem Fun.okH{x qual:AM}{st:BS}{f:AH}{fd:Al}{N ps:List AM}{k:Nat}{sp:Sp}(F:Fun K x qual st f fd)(S:yak N ps (yg st))(len:∀vs H Q E,sp vs H Q E->vs.length=ps.length)
  (hbody:∀(cdv:AE) (A:A9) (outer:List Env) (s:AI) (H:Hp) (vs:List V) (Q:VK),yam k (A.deeper (envOfC qual (yg st) s.heap.objs.size f cdv))->sp vs H Q E0 ->
   ∃t,PSs (ya1 P w K mg base N qual (yg st) f cdv A outer s H) (yD st) t/\t {nx:=λ_ H'=>Q .non H',rt:=Q} (start N vs) H):ybi P w K mg base (k+1) f fd ps sp:=by
 let⟨oc,od,kV,doc,pm,an,cdv,ct,osl,rfl,lk,hcd⟩:=F.ex;refine⟨len,λA outer s H args us vs Q hr e0 hb r hsp=>?_⟩;have hl:=len _ _ _ _ hsp;have KX:K.In s.heap:=e0.mod.kin.keeps λb o e=>(e0.bs b o e).1;have lim:s.heap.NoLimit:=e0.mod.nolimit.keeps λb o e=>(e0.bs b o e).1;have hkind:∀y∈ps.zip us,(yg st).names.lookup y.1=AA .local \/ ((yg st).names.lookup y.1=AA .cell/\((cellsFrom (s.heap.objs.size+1) (yg st).names []).lookup y.1).isSome=AD):=λ⟨n,v⟩ hy=>by
  rcases S.par n (Cn hy).1 with q|q
  .exact .inl q
  .exact .inr ⟨q,CV _ _ _ (.inl q)⟩
 refine Dw (by have:=hr.dp;lia) (KX _ _ lk) rfl S.co S.gen rfl (Eb KX hcd) (hb _ _ _ _ ?_);refine DC S.kind hkind λenv he s1 x=>?_;subst he;refine⟨lim.keeps x.toInCall.keep,codeAny_func ?_⟩;let⟨t,ht,hq⟩:=hbody cdv A outer s H vs Q (hr.deeper _) hsp;have e0':ybr P w K mg base {A with handled:=AC} outer s H:=⟨e0.frames,e0.mod,e0.bs,e0.bsz,e0.funs,e0.frf,e0.hok,e0.bare⟩;have I0:Inv (yap CX0 P w K mg base N qual (yg st) f cdv {A with handled:=AC} outer s H E0) [] (start N vs) H s1:=zbe S rfl e0' hl r x;have I:Inv (ya1 P w K mg base N qual (yg st) f cdv A outer s H) [] (start N vs) H s1:=I0.calmless (A.deeper (envOfC qual (yg st) s.heap.objs.size f cdv)) No rfl;refine CB (ht [] s1 (start N vs) H _ I hq) (λfl s' hs=>?_) λe s' z=>z.elim;have fin:∀{σ':St} {H':Hp} {v:V} {u:AE},Inv (ya1 P w K mg base N qual (yg st) f cdv A outer s H) [] σ' H' s'->RelV v u->Q v H'->CE outer P w H s Q u s':=
  λ{σ' H' v u} J rv q=>⟨v,H',J.os,J.bare,J.base,J.hok,rv,q⟩
 cases fl with
 |ret u=>
  let⟨v,σ',H',J,rv,q⟩:=hs;exact fin J rv q
 |next=>
  let⟨σ',H',J,q⟩:=hs;exact fin (v:=V.non) (u:=BW) J rfl q
 |brk=>
  let⟨_,_,_,q⟩:=hs;exact BF q
 |cont=>
  let⟨_,_,_,q⟩:=hs;exact BF q
end
section
variable {X:Cx}{k:Nat}{f:AH}{fd:Al}{ps:List AM}{sp:Sp}{x:AM}{p pos:Ba}{e:AO}{es:List AO}{t:TA}
end
section
variable {P:A1}{w:A8}{K:AB}{mg:AM->Option AE}{base:Aq}
theorem own1{N:List AM}{qual:AM}{scope:BB}{f:AH}{cd:AE}{A:A9}{outer:List Env}{s:AI}{H:Hp}{E:XK}{CX:CXT}:
  D2 (model (yap CX P w K mg base N qual scope f cd A outer s H E).prog (yap CX P w K mg base N qual scope f cd A outer s H E).w) (yap CX P w K mg base N qual scope f cd A outer s H E).A (yap CX P w K mg base N qual scope f cd A outer s H E).env (yap CX P w K mg base N qual scope f cd A outer s H E).xe:=
 PassesOwn.leaving
end
section
variable {X:Cx}
end
section
variable {X:Cx}
def ye3(K:AB):List V->Hp->VK->Prop:=λxs H Q=>∃(l:AH) (ns:List Int),xs=[.ref l]/\SqL K H l (ns.map V.int)/\Q (.int ns.sum) H
def zeN(hc:X.calm=AD):yJ X (.builtin "sum") (ye3 X.K):=by
 intro π s σ H xs us Q I r h;let⟨l,ns,rfl,hq,q⟩:=h;let⟨u,rfl,ru⟩:=Vals.one r
 cases (show u=Af l from ru)
 let⟨its,rv,pl,hz⟩:=I.list hq;have hi:Dh its ns:=zaG rv;let⟨ys,e⟩:=hi.allInts.items;have hns:ns=ys.toList.map (·.1):=by rw[<-hi.numsOf,<-nums_intItems,<-e]
 have hl:=pl.isList;rw[e]at hl;refine sum_intListG (I.ok.hd hc) hl λh' tk t' hk=>⟨.int ns.sum,H,I.kept (t':=tk) hk,⟨t',?_⟩,q⟩;rw[preSum_eq,Dl (by simp),<-hns]
def ye5(K:AB):List V->Hp->VK->Prop:=λxs H Q=>∃(l:AH) (ns:List Int),xs=[.ref l]/\SqL K H l (ns.map V.int)/\0<ns.length/\∀M,M∈ns->(∀a,a∈ns->a<=M)->Q (.int M) H
def zdz(hc:X.calm=AD):yJ X (.builtin "max") (ye5 X.K):=by
 intro π s σ H xs us Q I r h;let⟨l,ns,rfl,hq,hne,q⟩:=h;let⟨u,rfl,ru⟩:=Vals.one r
 cases (show u=Af l from ru)
 let⟨its,rv,pl,hz⟩:=I.list hq;have hi:Dh its ns:=zaG rv;let⟨ys,e⟩:=hi.allInts.items;have hns:ns=ys.toList.map (·.1):=by rw[<-hi.numsOf,<-nums_intItems,<-e]
 have hsz:0<ys.size:=by
  rw[hns,A4,B0]at hne;exact hne
 have hl:=pl.isList;rw[e]at hl;refine max_intList (I.ok.hd hc) hl hsz λv h' tk hv hk=>?_;let⟨t,rfl⟩:=intItems_at hv;let⟨h1,h2⟩:=argBest_gt (numAt ys) (ys.size-1);refine⟨.int _,H,I.kept (t':=tk) hk,⟨t,rfl⟩,q _ ?_ λa ha=>?_⟩
 .rw[hns,numAt_eq];exact getD_mem (by rw[A4,B0];lia)
 .rw[hns]at ha;let⟨j,hj,rfl⟩:=mem_getD ha;rw[A4,B0]at hj;rw[<-numAt_eq];exact h2 j ∅
end
section
variable {κ:Type}[DecidableEq κ]
def ya0(kvs:List (κ×V))(k:κ):Option V:=(kvs.find? λkv=>decide (kv.1=k)).map (·.2)
def putK(kvs:List (κ×V))(k:κ)(v:V):List (κ×V):=
 if (kvs.any λkv=>decide (kv.1=k))=AD then kvs.map (λkv=>if kv.1=k then(kv.1,v)else kv)else kvs++[(k,v)]
def zY{p:κ×V}{r:List (κ×V)}{k:κ}(e:p.1=k):ya0 (p::r) k=AA p.2:=by simp[ya0,BZ,e]
def zW{p:κ×V}{r:List (κ×V)}{k:κ}(e:¬p.1=k):ya0 (p::r) k=ya0 r k:=by simp[ya0,BZ,e]
def zcm(k:κ):∀kvs:List (κ×V),(kvs.any λkv=>decide (kv.1=k))=(ya0 kvs k).isSome
 |[]=>rfl
 |p::r=>by
  rw[BM]
  by_cases e:p.1=k
  .simp only[zY e,decide_eq_true e,Fp,Option.isSome_some]
  .rw[zW e,decide_eq_false e,Fb];exact zcm k r
def zbM(kvs:List (κ×V))(k:κ)(v:V):(putK kvs k v).length<=kvs.length+1:=by
 unfold putK;split
 .rw[A4];lia
 .rw[An,A2,Bg];lia
theorem ya5.isSome_eq{o:Option V}{u:Option AE}(r:ya5 o u):o.isSome=u.isSome:=by
 cases o with
 |none=>cases u with
  |none=>rfl
  |some _=>exact(show False from r).elim
 |some _=>cases u with
  |none=>exact(show False from r).elim
  |some _=>rfl
theorem ya5.getD{o:Option V}{u:Option AE}{d:V}{d':AE}(r:ya5 o u)(rd:RelV d d'):RelV (o.getD d) (u.getD d'):=by
 cases o with
 |none=>cases u with
  |none=>exact rd
  |some _=>exact(show False from r).elim
 |some _=>cases u with
  |none=>exact(show False from r).elim
  |some _=>exact r
theorem KV.val{kvs:List (κ×V)}{vs:List (κ×AE)}(r:KV kvs vs)(k:κ):ya5 (ya0 kvs k) (valueAt vs k):=by
 unfold KV at r
 induction r with
 |nil=>exact Bu
 |@cons p q ps qs h t ih=>
  let⟨h1,h2⟩:=h
  by_cases e:p.1=k
  .have e':q.1=k:=h1.symm.trans e;have b:valueAt (q::qs) k=AA q.2:=by simp[valueAt,BZ,e']
   rw[zY e,b];exact h2
  .have e':¬q.1=k:=λz=>e (h1.trans z);have b:valueAt (q::qs) k=valueAt qs k:=by simp[valueAt,BZ,e']
   rw[zW e,b];exact ih
end
def zhN{P:A1}{w:A8}{k:Key}{u:AE}(r:RelV (kV k) u):(yC P w).is k u=true:=by
 cases k with
 |inl i=>let⟨t,e⟩:=(show ∃t,u=D1 i t from r);subst e;exact zbQ P w i t
 |inr x=>let⟨t,e⟩:=(show ∃t,u=FA x t from r);subst e;exact zbF P w x t
def za9{P:A1}{w:A8}:∀{ks:List Key} {us:List AE},Vals (ks.map kV) us->ItemsAre (yC P w) ks us
 |[],_,r=>by rw[BE]at r;cases r;exact .nil
 |k::ks,_,r=>by
  rw[AL]at r
  cases r with
  |cons h t=>exact .cons (zhN h) (za9 t)
abbrev KT(H:Hp):List (List Key×V)->List (List Key×AH×AE)->Prop:=FU λp q=>p.1=q.1/\H q.2.1=AA (.tup (p.1.map kV))/\RelV p.2 q.2.2
theorem KT.val{H:Hp}{kvs:List (List Key×V)}{xs:List (List Key×AH×AE)}(r:KT H kvs xs)(k:List Key):ya5 (ya0 kvs k) ((atKey xs k).map (·.2)):=by
 induction r with
 |nil=>exact Bu
 |@cons p q ps qs h t ih=>
  let⟨h1,_,h2⟩:=h
  by_cases e:p.1=k
  .have e':q.1=k:=h1.symm.trans e;have b:atKey (q::qs) k=AA q.2:=by simp[atKey,BZ,e']
   rw[zY e,b];exact h2
  .have e':¬q.1=k:=λz=>e (h1.trans z);have b:atKey (q::qs) k=atKey qs k:=by simp[atKey,BZ,e']
   rw[zW e,b];exact ih
theorem KT.repl{H:Hp}{kvs:List (List Key×V)}{xs:List (List Key×AH×AE)}(r:KT H kvs xs)(k:List Key){y:V}{u:AE}(ry:RelV y u):
  KT H (kvs.map λkv=>if kv.1=k then(kv.1,y)else kv) (xs.map (putAt k u)):=by
 induction r with
 |nil=>exact .nil
 |@cons p q ps qs h t ih=>
  rw[AL,AL];refine .cons ?_ ih;let⟨h1,h2,h3⟩:=h;unfold putAt
  by_cases e:p.1=k
  .rw[if_pos e,if_pos (h1.symm.trans e)];exact⟨h1,h2,ry⟩
  .rw[if_neg e,if_neg (λz=>e (h1.trans z))];exact⟨h1,h2,h3⟩
theorem KT.put{H:Hp}{kvs:List (List Key×V)}{xs:List (List Key×AH×AE)}(r:KT H kvs xs)(k:List Key){b:AH}{y:V}{u:AE}(hb:H b=AA (.tup (k.map kV)))(ry:RelV y u):
  KT H (putK kvs k y) (storedH xs k b u):=by
 have e:(kvs.any λkv=>decide (kv.1=k))=(atKey xs k).isSome:=by
  rw[zcm,(r.val k).isSome_eq,Option.isSome_map]
 unfold putK storedH;rw[e]
 by_cases q:(atKey xs k).isSome=AD
 .rw[if_pos q,if_pos q];exact r.repl k ry
 .rw[if_neg q,if_neg q];exact Paired.snoc r ⟨rfl,hb,ry⟩
theorem KT.keeps{H H':Hp}{kvs:List (List Key×V)}{xs:List (List Key×AH×AE)}(r:KT H kvs xs)(ht:∀b ys,H b=AA (.tup ys)->H' b=AA (.tup ys)):KT H' kvs xs:=
 Paired.mapP r λ_ _ z=>⟨z.1,ht _ _ z.2.1,z.2.2⟩
section
variable {P:A1}{w:A8}{H:Hp}{h:Aq}{a:AH}
def zhm{u:HO}(ok:HOk P w H h)(e:Rd H a u):yI P w H h a u:=e.ok ok
def zgO{kvs:List (Key×V)}(ok:HOk P w H h)(e:Rd H a (.dK kvs)):kvs.length<=sizeLine/\(a==sysModules)=AF/\∃vs,KV kvs vs/\h.DictOf (yC P w) a vs:=
 show yI P w H h a (.dK kvs)from zhm ok e
def zcN{ks:List Key}(ok:HOk P w H h)(e:H a=AA (.tup (ks.map kV))):(tupleKind (yC P w)).is h ks a:=by
 let⟨_,its,r,h1⟩:=(show yI P w H h a (.tup (ks.map kV))from ok a _ e);exact⟨_,its.toArray,_,h1,rfl,rfl,by simpa using za9 r⟩
def zh2{kvs:List (List Key×V)}(ok:HOk P w H h)(e:Rd H a (.dT kvs)):kvs.length<=sizeLine/\(a==sysModules)=AF /\
  ∃xs,KT H kvs xs/\h.DictOfH (tupleKind (yC P w)) a xs:=by
 let⟨z,y,xs,r,o,es,ep,h1,h2,h3,h4,h5⟩:=(show yI P w H h a (.dT kvs)from zhm ok e);refine⟨z,y,xs,r,o,es,ep,h1,h2,h3,h4,λx hx=>?_,h5⟩;have all:∀{l:List (List Key×V)} {m:List (List Key×AH×AE)},KT H l m->∀x∈m,(tupleKind (yC P w)).is h x.1 x.2.1:=by
  intro l m q
  induction q with
  |nil=>intro x hx;exact nomatch hx
  |@cons p q ps qs hq t ih=>
   intro x hx;rcases Ab.mp hx with e|hx
   .subst e;exact zcN ok (by rw[<-hq.1];exact hq.2.1)
   .exact ih x hx
 exact all r x hx
end
def ydP(H:Hp)(a:AH)(y:V)(r:Option V):Prop:=
 (∃kvs k,Rd H a (.dK kvs)/\y=kV k/\r=ya0 kvs k) \/ ∃kvs k b,Rd H a (.dT kvs)/\y=.ref b/\H b=AA (.tup (k.map kV))/\r=ya0 kvs k
section
variable {X:Cx}{π:List (AH×B1)}{σ:St}{H:Hp}{s:AI}{a:AH}{y v:V}{u r:AE}{o:Option V}{A:A9}{E:AE->AI->Prop}
theorem Inv.big(I:Inv X π σ H s):sysModules<s.heap.objs.size:=by
 have h:mainGlobals<s.heap.objs.size:=(I.mod.glob.keeps I.bk).lt;exact Nat.lt_trans ⋯ h
end
section
variable {X:Cx}{π:List (AH×B1)}{σ:St}{H:Hp}{s:AI}{a:AH}{kvs:List (Key×V)}{k:Key}{u:AE}{A:A9}{E:AE->AI->Prop}
end
section
variable {X:Cx}{o i e value:AO}{pos pos' tpos:Ba}{td ty tv:TE}
end
section
variable {X:Cx}{pos:Ba}
end
def ybB(kvs more:List (Key×V)):List (Key×V):=more.foldl (λacc kv=>putK acc kv.1 kv.2) kvs
structure M2(X:Cx)(o:AO)(m:AM)(apos:Ba)(e f:AO)(cpos:Ba):Prop where
 base:attributeBase o m X.env (eval o X.env)=eval o X.env
 few:((backTo cpos (starEach [e,f] X.env)).all (λx=>!x.1)&&(backToKw cpos (keywordEach [] X.env)).all (λx=>x.1.isSome)
  && decide (([e,f]:List AO).length+([]:List BR).length+(if ([]:List BR).isEmpty then 0 else 1)<30))=AD
 line:(apos.endLine==cpos.line)=AD
 trees:backTo cpos (starEach [e,f] X.env)=[(AF,eval e X.env),(AF,eval f X.env)]
def IsD(H:Hp)(a:AH):Prop:=(∃kvs,Rd H a (.dK kvs)) \/ ∃kvs,Rd H a (.dT kvs)
def zhX{X:Cx}{π:List (AH×B1)}{σ:St}{H:Hp}{s:AI}{a:AH}(I:Inv X π σ H s)(d:IsD H a):
  s.TypeIs (.ref a) "dict"/\(∀b,Af a=.ref b->∃ob,s.heap.get? b=AA ob/\ob.dict=AC)/\(a==sysModules)=false:=by
 rcases d with⟨kvs,e⟩|⟨kvs,e⟩
 .let⟨_,hd,vs,_,dd⟩:=zgO I.hok e;refine⟨dd.typeIs,λb q=>?_,hd⟩
  cases q
  let⟨ob,_,_,h1,h2,_⟩:=dd;exact⟨ob,h1,h2.2.1⟩
 .let⟨_,hd,xs,_,dd⟩:=zh2 I.hok e;refine⟨dd.typeIs,λb q=>?_,hd⟩
  cases q
  let⟨ob,_,_,h1,h2,_⟩:=dd;exact⟨ob,h1,h2.2.1⟩
section
variable {X:Cx}{π:List (AH×B1)}{σ:St}{H:Hp}{s:AI}{a:AH}{y d:V}{u r:AE}{o:Option V}{A:A9}{E:AE->AI->Prop}
def zhF{Q:AE->AI->Prop}(hu:A.units+1<cLine)(I:Inv X π σ H s)(g:ydP H a y o)(ry:RelV y u)(rd:RelV d r)(h:∀w' s',Inv X π σ H s'->RelV (o.getD d) w'->Q w' s'):
  AZ (model X.prog X.w) A (call (.builtin "dict.get") [.ref a,u,r]) Q E s:=by
 rcases g with⟨kvs,k,e,ey,l⟩|⟨kvs,k,b,e,ey,eb,l⟩
 .subst ey;let⟨z,hd,vs,rel,dd⟩:=zgO I.hok e;refine call_meetsIn C5 dd.typeIs Dm (D7 _ _ _) (meets_dict_get_default (yC X.prog X.w) a (zhN ry) hd r) ⟨_,dd.mapOf,h _ _ (I.tok _) ?_⟩;rw[l];exact(rel.val k).getD rd
 .subst ey
  cases (show u=Af b from ry)
  let⟨z,hd,xs,rel,dd⟩:=zh2 I.hok e;refine call_meetsIn C5 dd.typeIs Dm (D7 _ _ _) (meetsH_dict_get_default (tupleKind (yC X.prog X.w)) a b hd r) ⟨tupleKind_room_in1 hu,k,xs,zcN I.hok eb,dd,h _ _ (I.tok _) ?_⟩;rw[l];exact(rel.val k).getD rd
end
def ycx(td ty tx:TE):TE:=λσ H Q=>td σ H λx H1=>∃a,x=.ref a/\IsD H1 a/\ty σ H1 λy H2=>tx σ H2 λz H3=>∃o,ydP H3 a y o/\Q (o.getD z) H3
section
variable {X:Cx}{o e f:AO}{apos cpos:Ba}{td ty tx:TE}
def zei(hu:X.A.units+1<cLine)(ho:PE X o td)(he:PE X e ty)(hf:PE X f tx)(m:M2 X o "get" apos e f cpos):PE X (.Call (.Attribute o "get" apos) [e,f] [] cpos) (ycx td ty tx):=by
 intro π s σ H Q I h;refine wpAny_Call_method m.base m.few m.line PySem.F.plainAttrs_dict C5 PySem.F.type_dict_get (thn (ho π s σ H _ I h) λu s1 kq=>?_);let⟨x,H1,I1,rx,a,ex,d,q1⟩:=kq;subst ex;obtain rfl:u=Af a:=rx;let⟨t1,t2,_⟩:=zhX I1 d;refine⟨t1,t2,?_⟩;rw[m.trees];refine CZ rfl (EG (DB (thn (he π s1 σ H1 _ I1 q1) λiv s2 ⟨y,H2,I2,ry,q2⟩=>
  DB (thn (hf π s2 σ H2 _ I2 q2) λfv s3 ⟨z,H3,I3,rz,ov,g,q3⟩=>Eo ?_))))
 exact zhF hu I3 g ry rz λw' s4 I4 rw'=>⟨_,H3,I4,rw',q3⟩
end
section
variable {X:Cx}{π:List (AH×B1)}{σ:St}{H:Hp}{s:AI}{a:AH}{kvs:List (Key×V)}{A:A9}{E:AE->AI->Prop}
end
section
variable {X:Cx}{π:List (AH×B1)}{σ:St}{H:Hp}{s:AI}{a:AH}{y:V}{u:AE}{A:A9}{E:AE->AI->Prop}
end
end L2
namespace IC
open PySem
inductive PV where
 |non|bl (b:Bool)|int (i:Int)|str (x:AM)|tp (k:Bool) (xs:List PV)|lst (xs:List PV)|loc (n:Nat)|exn (c:Nat)|scr (xs:List PV)|fnc (j:Nat)
deriving Inhabited
abbrev PV.tup(xs:List PV):PV:=.tp AF xs
mutual
noncomputable def nL:PV->Bool
 |.loc _=>AF
 |.exn _=>AF
 |.fnc _=>AD
 |.tp _ xs=>nLs xs
 |.lst xs=>nLs xs
 |.scr xs=>nLs xs
 |_=>AD
noncomputable def nLs:List PV->Bool
 |[]=>AD
 |x::xs=>nL x&&nLs xs
end
mutual
noncomputable def shd(n:Nat):PV->Bool
 |.non=>AD
 |.bl _=>AD
 |.int _=>AD
 |.str x=>x.cps.all (· < 0x110000)
 |.tp _ xs=>decide (0<n)&&ybb (n-1) xs
 |.lst xs=>decide (0<n)&&ybb (n-1) xs
 |_=>AF
noncomputable def ybb(n:Nat):List PV->Bool
 |[]=>AD
 |x::xs=>shd n x&&ybb n xs
end
abbrev shp(v:PV):Bool:=shd 60 v
def flat:PV->Bool
 |.non=>AD
 |.bl _=>AD
 |.int _=>AD
 |.str _=>AD
 |_=>AF
def bi(b:Bool):Int:=if b then 1 else 0
mutual
noncomputable def peq:PV->PV->Bool
 |.non,.non=>AD
 |.bl a,.bl b=>a==b
 |.bl a,.int j=>bi a==j
 |.int i,.bl b=>i==bi b
 |.int i,.int j=>i==j
 |.str x,.str y=>x==y
 |.tp _ xs,.tp _ ys=>yaO xs ys
 |.lst xs,.lst ys=>yaO xs ys
 |_,_=>AF
noncomputable def yaO:List PV->List PV->Bool
 |[],[]=>AD
 |x::xs,y::ys=>peq x y&&yaO xs ys
 |_,_=>AF
end
inductive Ob where
 |lst (xs:List PV)|dct (t:Bool) (kvs:List (PV×PV))|dead|ins (c:Nat) (fs:List (AM×PV))
abbrev Env:=List (Option PV)
abbrev SO:=List Ob
inductive R(α:Type) where
 |ok (a:α) (st:SO)|exc (c:Nat) (st:SO)|bad
def R.bind{α β:Type}(r:R α)(k:α->SO->R β):R β:=
 match r with
 |.ok a st=>k a st
 |.exc c st=>.exc c st
 |.bad=>.bad
inductive BOp where
 |add|sub|mul|fdiv|mod|pow|shl|shr|band|bor|bxor
inductive COp where
 |eq|ne|lt|le|gt|ge|is|isnot|isin|notin
inductive Ty where
 |int|bool|str|tuple|list|cls (c:Nat)|val
inductive Blt where
 |len|int|abs|min|max|tuple|list|all|sum|dict|rev|str|any
inductive Mth where
 |append|extend|get|bits|upper|insert|count|index|join|split|sidx|clear
inductive Tg where
 |n (i:Nat)|t (l:List Nat)
set_option genInjectivity false
mutual
inductive Ce where
 |cst (v:PV)
 |var (i:Nat)
 |bin (o:BOp) (a b:Ce)
 |neg (a:Ce)
 |not (a:Ce)
 |and (a b:Ce)
 |or (a b:Ce)
 |cmp (o:COp) (a b:Ce)
 |chain (o p:COp) (a b c:Ce)
 |ite (c a b:Ce)
 |tup (es:Ces)
 |newl (es:Ces)
 |idx (a i:Ce)
 |slc (a:Ce) (lo hi:Ce)
 |call (f:Nat) (args:Ces)
 |blt (b:Blt) (args:Ces)
 |mth (m:Mth) (o:Ce) (args:Ces)
 |isi (a:Ce) (t:List Ty)
 |comp (sl:List (Option Nat)) (tg:Tg) (it:Cit) (c:Ce) (e:Ce)
 |nope
 |fld (c:Nat) (a:Ce) (f:AM)
 |new (c i:Nat) (es:Ces)
 |dof (a:Ce)
inductive Ces where
 |nil
 |cons (e:Ce) (es:Ces)
inductive Cit where
 |seq (e:Ce)
 |range1 (a:Ce)
 |range2 (a b:Ce)
 |rangeD (a b:Ce)
 |enum (e:Ce)
 |zip (a b:Ce)
 |revl (e:Ce)
 |revr (a:Ce)
 |chars (e:Ce)
end
set_option genInjectivity true
abbrev Ce.i(n:Int):Ce:=.cst (.int n)
abbrev Ce.s(x:AM):Ce:=.cst (.str x)
abbrev Ce.v:=Ce.var
abbrev Ces.k:=Ces.cons
abbrev Ces.e:=Ces.nil
mutual
inductive Cs where
 |expr (e:Ce)
 |asg (t:Tg) (e:Ce)
 |six (o i e:Ce)
 |aug (i:Nat) (o:BOp) (e:Ce)
 |ret (e:Ce)
 |ite (c:Ce) (a b:Css)
 |for (t:Tg) (it:Cit) (b:Css)
 |while (c:Ce) (b:Css)
 |nope
 |sfl (c:Nat) (o:Ce) (f:AM) (e:Ce)
inductive Css where
 |nil
 |cons (s:Cs) (ss:Css)
end
abbrev Css.k:=Css.cons
abbrev Css.e:=Css.nil
def yac(i j:Int):Bool:=(decide (i.natAbs<18446744073709551616)) || (decide (j.natAbs<18446744073709551616))
def binI(o:BOp)(i j:Int):Option PV:=
 match o with
 |.add=>AA (.int (i+j))
 |.sub=>AA (.int (i-j))
 |.mul=>if yac i j then AA (.int (i*j))else AC
 |.fdiv=>if 0<j/\j<10000000000000000000000000000000000000000000000000000000000000000000000 then AA (.int (i/j))else AC
 |.mod=>if 0<j then AA (.int (i%j))else AC
 |.pow=>if 0<=j/\j<=1000000/\i.natAbs<18446744073709551616 then AA (.int (i^j.toNat))else AC
 |.shl=>if 0<=j/\j<=1000000/\i.natAbs<18446744073709551616 then AA (.int (i*2^j.toNat))else AC
 |.shr=>if 0<=j then AA (.int (i/2^j.toNat))else AC
 |.band=>AA (.int (Builtin.bitAnd i j))
 |.bor=>AA (.int (Builtin.bitOr i j))
 |.bxor=>AA (.int (Builtin.bitXor i j))
def sizeMax:Nat:=16777216
def ycR(k:Bool)(a:List PV)(j:Bool)(b:List PV):PV:=if a.isEmpty then .tp j b else if b.isEmpty then .tp k a else .tup (a++b)
def yt(o:BOp)(x y:PV):Option PV:=
 match x,y with
 |.int i,.int j=>binI o i j
 |.int i,.bl b=>match o with
  |.add=>AA (.int (i+bi b))
  |_=>AC
 |.str a,.str b=>match o with
  |.add=>if a.length+b.length<=sizeMax then AA (.str (a++b))else AC
  |_=>AC
 |.tp k a,.tp j b=>match o with
  |.add=>if a.length+b.length<=sizeMax then AA (ycR k a j b)else AC
  |_=>AC
 |.lst a,.lst b=>match o with
  |.add=>if a.length+b.length<=sizeMax then AA (.lst (a++b))else AC
  |_=>AC
 |_,_=>AC
def yaH(o:BOp)(x y:PV):Option PV:=
 match x,y with
 |.int i,.int j=>binI o i j
 |_,_=>AC
def isNon:PV->Bool
 |.non=>AD
 |_=>AF
def inL(x:PV):List PV->Bool
 |[]=>AF
 |y::ys=>peq y x || inL x ys
def inS(a b:AM):Bool:=(CN (b.length+1)).any λi=>decide (i+a.length<=b.length)&&(b.cps.extract i (i+a.length)==a.cps)
def ya2(o:COp)(i j:Int):Option PV:=
 match o with
 |.lt=>AA (.bl (decide (i<j)))
 |.le=>AA (.bl (decide (i<=j)))
 |.gt=>AA (.bl (decide (j<i)))
 |.ge=>AA (.bl (decide (j<=i)))
 |_=>AC
def yc0(o:COp)(a b:AM):Option PV:=
 match o with
 |.lt=>AA (.bl (decide (a.cps.toList<b.cps.toList)))
 |.le=>AA (.bl (!decide (b.cps.toList<a.cps.toList)))
 |_=>AC
def yw(o:COp)(x y:PV):Option PV:=
 match o with
 |.eq=>if shp x&&shp y then AA (.bl (peq x y))else AC
 |.ne=>if shp x&&shp y then AA (.bl (!peq x y))else AC
 |.is=>match y with
  |.non=>AA (.bl (isNon x))
  |.bl b=>match x with
   |.bl a=>AA (.bl (a==b))
   |_=>AC
  |_=>AC
 |.isnot=>match y with
  |.non=>AA (.bl (!isNon x))
  |.bl b=>match x with
   |.bl a=>AA (.bl (!(a==b)))
   |_=>AC
  |_=>AC
 |.isin=>match x,y with
  |.str a,.str b=>AA (.bl (inS a b))
  |x,.tp _ l=>if flat x&&l.all flat then AA (.bl (inL x l))else AC
  |x,.lst l=>if flat x&&l.all flat then AA (.bl (inL x l))else AC
  |_,_=>AC
 |.notin=>match x,y with
  |.str a,.str b=>AA (.bl (!inS a b))
  |x,.tp _ l=>if flat x&&l.all flat then AA (.bl (!inL x l))else AC
  |x,.lst l=>if flat x&&l.all flat then AA (.bl (!inL x l))else AC
  |_,_=>AC
 |o=>match x,y with
  |.int i,.int j=>ya2 o i j
  |.str a,.str b=>yc0 o a b
  |_,_=>AC
def yao(st:SO)(x:PV):Option Bool:=
 match x with
 |.non=>AA AF
 |.bl b=>AA b
 |.int i=>AA (i != 0)
 |.str y=>if y.length<=sizeMax then AA ((y.length:Int) != 0)else AC
 |.tp _ xs=>AA (!xs.isEmpty)
 |.lst xs=>AA (!xs.isEmpty)
 |.loc n=>match st[n]? with
  |some (.lst xs)=>AA (!xs.isEmpty)
  |_=>AC
 |_=>AC
def ixI(n:Nat)(i:Int):Option Nat:=if 0<=i then(if i<n then AA i.toNat else AC)else if -(n:Int)<=i then AA (i+n).toNat else AC
def at?{α:Type}(xs:List α)(i:Int):Option α:=(ixI xs.length i).bind λj=>xs[j]?
def look(k:PV):List (PV×PV)->Option PV
 |[]=>AC
 |(a,b)::r=>if peq a k then AA b else look k r
def put(k v:PV)(kvs:List (PV×PV)):List (PV×PV):=
 if (kvs.any λp=>peq p.1 k)=AD then kvs.map (λp=>if peq p.1 k=AD then(p.1,v)else p)else kvs++[(k,v)]
def yaZ:PV->Bool
 |.int _=>AD
 |.str _=>AD
 |_=>AF
def isKey(t:Bool)(k:PV):Bool:=
 match t with
 |false=>yaZ k
 |true=>match k with
  |.tp AF xs=>xs.all yaZ
  |_=>AF
def yaw{α:Type}(xs:List α)(i:PV):Option α:=
 match i with
 |.int k=>at? xs k
 |_=>AC
def idxV(st:SO)(x i:PV):Option PV:=
 match x with
 |.tp _ xs=>yaw xs i
 |.lst xs=>yaw xs i
 |.str s=>if s.length<=sizeMax then(yaw s.cps.toList i).map λc=>.str ⟨#[c]⟩else AC
 |.loc n=>match st[n]? with
  |some (.lst xs)=>yaw xs i
  |_=>AC
 |_=>AC
def ybf(n:Nat)(v:Int):Nat:=if v<0 then(v+(n:Int)).toNat else min v.toNat n
def yca(n:Nat)(lo:Option Int):Nat:=
 match lo with
 |none=>0
 |some i=>ybf n i
def ycv(n:Nat)(hi:Option Int):Nat:=
 match hi with
 |none=>n
 |some i=>ybf n i
def cut{α:Type}(xs:List α)(lo hi:Option Int):List α:=(xs.drop (yca xs.length lo)).take (ycv xs.length hi-yca xs.length lo)
def ybl:PV->Option (Option Int)
 |.non=>AA AC
 |.int i=>AA (AA i)
 |_=>AC
def ybz(x:PV)(a b:Option Int):Option PV:=
 match x with
 |.tp k xs=>if yca xs.length a=0/\ycv xs.length b=xs.length then AA (.tp k xs)else AA (.tup (cut xs a b))
 |.str s=>if s.length<=sizeMax then AA (.str ⟨(cut s.cps.toList a b).toArray⟩)else AC
 |.lst xs=>AA (.lst (cut xs a b))
 |.scr xs=>AA (.lst (cut xs a b))
 |_=>AC
def ybL(x:PV)(a:Option Int)(hi:PV):Option PV:=
 match ybl hi with
 |some b=>ybz x a b
 |none=>AC
def yaJ(x:PV)(t:Ty):Bool:=
 match x,t with
 |.int _,.int=>AD
 |.bl _,.int=>AD
 |.bl _,.bool=>AD
 |.str _,.str=>AD
 |.tp _ _,.tuple=>AD
 |.lst _,.list=>AD
 |.exn c,.cls d=>c==d
 |.exn _,.val=>AD
 |_,_=>AF
def ycE:Ty->Bool
 |.cls _=>AF
 |.val=>AF
 |_=>AD
def ybg(x:PV)(ts:List Ty):Option PV:=
 match x with
 |.loc _=>AC
 |.scr _=>AC
 |.fnc _=>AC
 |.exn c=>if ts.all ycE then AC else AA (.bl (ts.any (yaJ (.exn c))))
 |x=>match ts with
  |[t]=>if ycE t then AA (.bl (yaJ x t))else AC
  |_=>AC
def allB:List PV->Option Bool
 |[]=>AA AD
 |.bl b::r=>match allB r with
  |some c=>AA (b&&c)
  |none=>AC
 |_::_=>AC
def yaF:List PV->Option Int
 |[]=>AA 0
 |.int i::r=>match yaF r with
  |some c=>AA (i+c)
  |none=>AC
 |_::_=>AC
def ycr:List PV->Option Int
 |[]=>AC
 |[.int i]=>AA i
 |.int i::r=>match ycr r with
  |some c=>AA (if i<c then c else i)
  |none=>AC
 |_::_=>AC
def seqOf(st:SO):PV->Option (List PV)
 |.tp _ xs=>AA xs
 |.lst xs=>AA xs
 |.loc n=>match st[n]? with
  |some (.lst xs)=>AA xs
  |_=>AC
 |_=>AC
def yr(st:SO):PV->Option (List PV)
 |.lst xs=>AA xs
 |.loc n=>match st[n]? with
  |some (.lst xs)=>AA xs
  |_=>AC
 |_=>AC
def lenV(st:SO)(x:PV):Option PV:=
 match x with
 |.str s=>if s.length<=sizeMax then AA (.int s.length)else AC
 |x=>(seqOf st x).map λxs=>.int xs.length
def ye0(x:PV):Option PV:=
 match x with
 |.int i=>AA (.int i)
 |.bl k=>AA (.int (bi k))
 |_=>AC
def ydz(x:PV):Option PV:=
 match x with
 |.int i=>AA (.int (if i<0 then -i else i))
 |_=>AC
def yen(x y:PV):Option PV:=
 match x,y with
 |.int i,.int j=>AA (.int (if j<i then j else i))
 |_,_=>AC
def maxV(x y:PV):Option PV:=
 match x,y with
 |.int i,.int j=>AA (.int (if i<j then j else i))
 |_,_=>AC
def ycK(st:SO)(x:PV):Option PV:=
 match x with
 |.tp k xs=>AA (.tp k xs)
 |x=>(yr st x).map .tup
def yc5:PV->Option PV
 |.tp _ xs=>if xs.isEmpty then AC else AA (.tup xs.reverse)
 |.lst xs=>AA (.lst xs.reverse)
 |_=>AC
def anyB:List PV->Option Bool
 |[]=>AA AF
 |.bl b::r=>match anyB r with
  |some c=>AA (b || c)
  |none=>AC
 |_=>AC
def anyI:List PV->Option Bool
 |[]=>AA AF
 |.int i::r=>match anyI r with
  |some c=>AA ((i != 0) || c)
  |none=>AC
 |_=>AC
def yfm:PV->Option PV
 |.int i=>if i=0 then AA (.str "0")else if i=1 then AA (.str "1")else AC
 |_=>AC
def yQ(b:Blt)(st:SO)(vs:List PV):Option PV:=
 match vs with
 |[x]=>match b with
  |.len=>lenV st x
  |.int=>ye0 x
  |.abs=>ydz x
  |.max=>(yr st x).bind λxs=>(ycr xs).map .int
  |.tuple=>ycK st x
  |.list=>(seqOf st x).map .lst
  |.all=>(yr st x).bind λxs=>(allB xs).map .bl
  |.sum=>(yr st x).bind λxs=>(yaF xs).map .int
  |.rev=>yc5 x
  |.str=>yfm x
  |.any=>match x with
   |.tp _ xs=>(anyI xs).map .bl
   |x=>(yr st x).bind λxs=>(anyB xs).map .bl
  |_=>AC
 |[x,y]=>match b with
  |.min=>yen x y
  |.max=>maxV x y
  |_=>AC
 |_=>AC
def yaz(st:SO):PV->Option (Bool×List (PV×PV))
 |.loc n=>match st[n]? with
  |some (.dct t xs)=>AA (t,xs)
  |_=>AC
 |_=>AC
def yad(m:Mth)(st:SO)(x:PV):Option Bool:=
 match m with
 |.append=>(yr st x).map λ_=>AD
 |.extend=>(yr st x).map λ_=>AD
 |.insert=>(yr st x).map λ_=>AD
 |.count=>(yr st x).map λ_=>AD
 |.index=>(yr st x).map λ_=>AD
 |.get=>(yaz st x).map λ_=>AD
 |.bits=>match x with
  |.int _=>AA AD
  |_=>AC
 |.upper=>match x with
  |.str _=>AA AD
  |_=>AC
 |.join=>match x with
  |.str _=>AA AD
  |_=>AC
 |.split=>match x with
  |.str _=>AA AD
  |_=>AC
 |.sidx=>match x with
  |.str _=>AA AD
  |_=>AC
 |.clear=>match x with
  |.loc n=>(yr st (.loc n)).map λ_=>AD
  |_=>AC
def ycZ(st:SO)(o v:PV):R PV:=
 match o with
 |.loc n=>match st[n]? with
  |some (.lst xs)=>if xs.length<1000000 then .ok .non (st.set n (.lst (xs++[v])))else .bad
  |_=>.bad
 |_=>.bad
def yfA(st:SO)(o v:PV):R PV:=
 match o with
 |.loc n=>match st[n]? with
  |some (.lst xs)=>match v with
   |.lst ys=>if xs.length+ys.length<=1000000 then .ok .non (st.set n (.lst (xs++ys)))else .bad
   |_=>.bad
  |_=>.bad
 |_=>.bad
def ydU(st:SO)(o i v:PV):R PV:=
 match o with
 |.loc n=>match st[n]? with
  |some (.lst xs)=>match i with
   |.int k=>if 0<=k/\k<=xs.length/\xs.length<1000000 then .ok .non (st.set n (.lst (xs.take k.toNat++v::xs.drop k.toNat)))else .bad
   |_=>.bad
  |_=>.bad
 |_=>.bad
def ycP(st:SO)(o k d:PV):R PV:=
 match yaz st o with
 |some (t,kvs)=>if isKey t k then .ok ((look k kvs).getD d) st else .bad
 |none=>.bad
def yd9(st:SO)(o v:PV):R PV:=
 match yr st o with
 |some xs=>if flat v&&xs.all flat then .ok (.int (xs.countP λy=>peq y v)) st else .bad
 |none=>.bad
def ybh(v:PV):List PV->Option Nat
 |[]=>AC
 |y::ys=>if peq y v then AA 0 else(ybh v ys).map (·+1)
def yea(st:SO)(o v:PV):R PV:=
 match yr st o with
 |some xs=>if flat v&&xs.all flat then(match ybh v xs with
  |some j=>.ok (.int j) st
  |none=>.bad)else .bad
 |none=>.bad
def upC(c:Nat):Nat:=if 97<=c/\c<=122 then c-32 else c
def upS(s:AM):Str:=⟨(s.cps.toList.map upC).toArray⟩
def ybj(c:Nat):List Nat->List (List Nat)
 |[]=>[[]]
 |x::xs=>if x=c then []::ybj c xs else match ybj c xs with
  |[]=>[[x]]
  |p::ps=>(x::p)::ps
def strsOf:List PV->Option (List AM)
 |[]=>AA []
 |.str s::r=>(strsOf r).map (s :: ·)
 |_=>AC
def ydA(st:SO)(o v:PV):R PV:=
 match o,yr st v with
 |.str s,AA xs=>match strsOf xs with
  |some ys=>if s.length<=10/\xs.length<=1000/\(ys.all λy=>decide (y.length<=1000))=AD then .ok (.str (Str.join s ys)) st else .bad
  |none=>.bad
 |_,_=>.bad
def ydZ(st:SO)(o:PV):R PV:=
 match o with
 |.loc n=>match st[n]? with
  |some (.lst _)=>.ok .non (st.set n (.lst []))
  |_=>.bad
 |_=>.bad
def yc8(st:SO)(o v:PV):R PV:=
 match o,v with
 |.str s,.str y=>if s=AK "01" then(if y=AK "0" then .ok (.int 0) st else if y=AK "1" then .ok (.int 1) st else .bad)else .bad
 |_,_=>.bad
def ycH(st:SO)(o v:PV):R PV:=
 match o,v with
 |.str s,.str y=>match y.cps.toList with
  |[c]=>if s.length<=100000 then .ok (.lst ((ybj c s.cps.toList).map λl=>.str ⟨l.toArray⟩)) st else .bad
  |_=>.bad
 |_,_=>.bad
def ya8(m:Mth)(st:SO)(o:PV)(vs:List PV):R PV:=
 match m,vs with
 |.append,[v]=>ycZ st o v
 |.extend,[v]=>yfA st o v
 |.insert,[i,v]=>ydU st o i v
 |.get,[k,d]=>ycP st o k d
 |.count,[v]=>yd9 st o v
 |.index,[v]=>yea st o v
 |.join,[v]=>ydA st o v
 |.split,[v]=>ycH st o v
 |.sidx,[v]=>yc8 st o v
 |.clear,[]=>ydZ st o
 |.bits,[]=>match o with
  |.int i=>.ok (.int (Builtin.Int.intBits i)) st
  |_=>.bad
 |.upper,[]=>match o with
  |.str s=>if s.cps.toList.all (· < 128)/\s.length<=1000000 then .ok (.str (upS s)) st else .bad
  |_=>.bad
 |_,_=>.bad
def toR(o:Option PV)(st:SO):R PV:=
 match o with
 |some v=>.ok v st
 |none=>.bad
def yG(t:Tg)(v:PV)(ρ:Env):Option Env:=
 match t,v with
 |.n i,v=>AA (ρ.set i (AA v))
 |.t l,.tp _ xs=>if l.length=xs.length then AA ((l.zip xs).foldl (λρ p=>ρ.set p.1 (AA p.2)) ρ)else AC
 |_,_=>AC
def yP:Nat->List PV->List PV
 |_,[]=>[]
 |k,x::xs=>.tup [.int k,x]::yP (k+1) xs
def ycG:List PV->List PV->List PV
 |x::xs,y::ys=>.tup [x,y]::ycG xs ys
 |_,_=>[]
def yeY:PV->Option (List PV)
 |.tp _ xs=>AA xs.reverse
 |.lst xs=>AA xs.reverse
 |_=>AC
def ycF:PV->Option (List PV)
 |.str s=>if s.length<=1000000 then AA (s.cps.toList.map λc=>.str ⟨#[c]⟩)else AC
 |_=>AC
def yeZ(x y:PV):Option (List PV):=
 match x,y with
 |.tp _ xs,.tp _ ys=>if xs.length<=ys.length then AA (ycG xs ys)else AC
 |_,_=>AC
def yaM(s:AM):List (AM×PV)->Option PV
 |[]=>AC
 |(a,b)::r=>if decide (a=s)then AA b else yaM s r
def yo:Nat->Int->Int->List PV
 |0,_,_=>[]
 |n+1,a,d=>.int a::yo n (a+d) d
def yb7(x:PV):Option (List PV):=
 match x with
 |.int j=>if j.natAbs<1000000000 then AA (yo j.toNat 0 1)else AC
 |_=>AC
def yeM(x:PV):Option (List PV):=
 match x with
 |.int j=>if 0<=j/\j<1000000000 then AA (yo j.toNat (j-1) (-1))else AC
 |_=>AC
def yb8(x y:PV):Option (List PV):=
 match x,y with
 |.int i,.int j=>if i.natAbs<1000000000/\j.natAbs<1000000000 then AA (yo (j-i).toNat i 1)else AC
 |_,_=>AC
def yey(x y:PV):Option (List PV):=
 match x,y with
 |.int i,.int j=>if i.natAbs<1000000000/\j.natAbs<1000000000 then AA (yo (i-j).toNat i (-1))else AC
 |_,_=>AC
def toL(o:Option (List PV))(st:SO):R (List PV):=
 match o with
 |some v=>.ok v st
 |none=>.bad
def yaK(c:Nat)(st:SO)(x:PV)(f:AM):Option PV:=
 match x with
 |.loc n=>match st[n]? with
  |some (.ins d fs)=>if d=c then fs.lookup f else AC
  |_=>AC
 |_=>AC
def ybq(f:AM)(v:PV):List (AM×PV)->List (AM×PV)
 |[]=>[(f,v)]
 |(g,x)::r=>if g=f then(g,v)::r else(g,x)::ybq f v r
def ybs(c:Nat)(st:SO)(x:PV)(f:AM)(v:PV):Option SO:=
 match x with
 |.loc n=>match st[n]? with
  |some (.ins d fs)=>if d=c/\fs.length<1000 then AA (st.set n (.ins c (ybq f v fs)))else AC
  |_=>AC
 |_=>AC
def newV(n:Nat)(v:PV)(st:SO):R PV:=
 match v with
 |.non=>.ok (.loc n) st
 |_=>.bad
def ya6(r:R PV):R PV:=
 match r with
 |.ok v st=>.ok v st
 |_=>.bad
inductive Fl where
 |nx (ρ:Env) (st:SO)|rt (v:PV) (st:SO)|bk (ρ:Env) (st:SO)|ct (ρ:Env) (st:SO)|exc (c:Nat) (ρ:Env) (st:SO)|bad
def onBl{α:Type}(x:PV)(k:Bool->R α):R α:=
 match x with
 |.bl b=>k b
 |_=>.bad
def onO{α:Type}(o:Option Bool)(k:Bool->R α):R α:=
 match o with
 |some b=>k b
 |none=>.bad
def onF(o:Option Bool)(k:Bool->Fl):Fl:=
 match o with
 |some b=>k b
 |none=>.bad
def onP{α:Type}(o:Option (Option Int))(k:Option Int->R α):R α:=
 match o with
 |some b=>k b
 |none=>.bad
def blO(o:Option PV):Option Bool:=
 match o with
 |some (.bl b)=>AA b
 |_=>AC
def ybk(o:Option PV)(ys:List PV):List PV:=
 match o with
 |some y=>y::ys
 |none=>ys
def yaD(one:PV->SO->R (Option PV)):List PV->SO->R (List PV)
 |[],st=>.ok [] st
 |x::xs,st=>(one x st).bind λo st1=>(yaD one xs st1).bind λys st2=>.ok (ybk o ys) st2
def ybA(r:R (List PV)):R PV:=
 match r with
 |.ok ys st=>if ys.length<=1000000 then .ok (.lst ys) st else .bad
 |_=>.bad
def ydC:PV->Option (PV×PV)
 |.tp AF [k,v]=>if isKey AD k then AA (k,v)else AC
 |_=>AC
def ycM:List PV->Option (List (PV×PV))
 |[]=>AA []
 |x::r=>(ydC x).bind λp=>(ycM r).map (p :: ·)
def ycN(st:SO)(x:PV):R PV:=
 match x with
 |.tp AF xs=>match ycM xs with
  |some kvs=>if kvs.length<=1000 then .ok (.loc st.length) (st++[.dct AD (kvs.foldl (λacc kv=>put kv.1 kv.2 acc) [])])else .bad
  |none=>.bad
 |_=>.bad
mutual
noncomputable def ev(call:Nat->List PV->SO->R PV)(ρ:Env)(st:SO):Ce->R PV
 |.cst v=>.ok v st
 |.var i=>match ρ[i]? with
  |some (AA v)=>.ok v st
  |_=>.bad
 |.bin o a b=>(ev call ρ st a).bind λx st1=>(ev call ρ st1 b).bind λy st2=>toR (yt o x y) st2
 |.neg a=>(ev call ρ st a).bind λx st1=>match x with
  |.int i=>.ok (.int (-i)) st1
  |_=>.bad
 |.not a=>(ev call ρ st a).bind λx st1=>onBl x λk=>.ok (.bl (!k)) st1
 |.and a b=>(ev call ρ st a).bind λx st1=>onBl x λk=>cond k (ev call ρ st1 b) (.ok (.bl AF) st1)
 |.or a b=>(ev call ρ st a).bind λx st1=>onBl x λk=>cond k (.ok (.bl AD) st1) (ev call ρ st1 b)
 |.cmp o a b=>(ev call ρ st a).bind λx st1=>(ev call ρ st1 b).bind λy st2=>toR (yw o x y) st2
 |.chain o p a b c=>(ev call ρ st a).bind λx st1=>(ev call ρ st1 b).bind λy st2=>onO (blO (yw o x y)) λk=>cond k ((ev call ρ st2 c).bind λz st3=>toR (yw p y z) st3) (.ok (.bl AF) st2)
 |.ite c a b=>(ev call ρ st c).bind λx st1=>onO (yao st1 x) λk=>cond k (ev call ρ st1 a) (ev call ρ st1 b)
 |.tup es=>(evs call ρ st es).bind λvs st1=>if vs.length<=sizeMax then .ok (.tup vs) st1 else .bad
 |.newl es=>(evs call ρ st es).bind λvs st1=>if vs.length<=sizeMax then .ok (.loc st1.length) (st1++[.lst vs])else .bad
 |.idx a i=>(ev call ρ st a).bind λx st1=>(ev call ρ st1 i).bind λy st2=>toR (idxV st2 x y) st2
 |.slc a l h=>(ev call ρ st a).bind λx st1=>(ev call ρ st1 l).bind λy st2=>onP (ybl y) λo=>(ev call ρ st2 h).bind λz st3=>toR (ybL x o z) st3
 |.call f es=>(evs call ρ st es).bind λvs st1=>call f vs st1
 |.blt b es=>(evs call ρ st es).bind λvs st1=>toR (yQ b st1 vs) st1
 |.mth m o es=>(ev call ρ st o).bind λx st1=>onO (yad m st1 x) λ_=>(evs call ρ st1 es).bind λvs st2=>ya8 m st2 x vs
 |.isi a ts=>(ev call ρ st a).bind λx st1=>toR (ybg x ts) st1
 |.comp sl tg it c e=>(evi call ρ st it).bind λxs st1=>
  let ρ0:Env:=sl.map λo=>o.bind λj=>(ρ[j]?).join
  ybA (yaD (λx st2=>match yG tg x ρ0 with
   |none=>.bad
   |some ρ1=>(ev call ρ1 st2 c).bind λb st3=>onO (yao st3 b) λk=>cond k ((ev call ρ1 st3 e).bind λy st4=>.ok (AA y) st4) (.ok AC st3)) xs st1)
 |.nope=>.bad
 |.fld c a f=>(ev call ρ st a).bind λx st1=>toR (yaK c st1 x f) st1
 |.new c i es=>(evs call ρ st es).bind λvs st1=>(ya6 (call i (.loc st1.length::vs) (st1++[.ins c []]))).bind λv st2=>newV st1.length v st2
 |.dof a=>(ev call ρ st a).bind λx st1=>ycN st1 x
noncomputable def evs(call:Nat->List PV->SO->R PV)(ρ:Env)(st:SO):Ces->R (List PV)
 |.nil=>.ok [] st
 |.cons e es=>(ev call ρ st e).bind λv st1=>(evs call ρ st1 es).bind λvs st2=>.ok (v::vs) st2
noncomputable def evi(call:Nat->List PV->SO->R PV)(ρ:Env)(st:SO):Cit->R (List PV)
 |.seq e=>(ev call ρ st e).bind λv st1=>match v with
  |.tp _ xs=>.ok xs st1
  |.lst xs=>.ok xs st1
  |_=>.bad
 |.range1 a=>(ev call ρ st a).bind λx st1=>toL (yb7 x) st1
 |.range2 a b=>(ev call ρ st a).bind λx st1=>(ev call ρ st1 b).bind λy st2=>toL (yb8 x y) st2
 |.rangeD a b=>(ev call ρ st a).bind λx st1=>(ev call ρ st1 b).bind λy st2=>toL (yey x y) st2
 |.enum e=>(ev call ρ st e).bind λv st1=>match v with
  |.tp _ xs=>.ok (yP 0 xs) st1
  |_=>.bad
 |.zip a b=>(ev call ρ st a).bind λx st1=>(ev call ρ st1 b).bind λy st2=>toL (yeZ x y) st2
 |.revl e=>(ev call ρ st e).bind λv st1=>toL (yeY v) st1
 |.revr a=>(ev call ρ st a).bind λx st1=>toL (yeM x) st1
 |.chars e=>(ev call ρ st e).bind λv st1=>toL (ycF v) st1
end
def R.fl{α:Type}(r:R α)(ρ:Env)(k:α->SO->Fl):Fl:=
 match r with
 |.ok a st=>k a st
 |.exc c st=>.exc c ρ st
 |.bad=>.bad
def yae(f:Fl)(k:Env->SO->Fl):Fl:=
 match f with
 |.nx ρ st=>k ρ st
 |.ct ρ st=>k ρ st
 |.bk ρ st=>.nx ρ st
 |f=>f
def forL(t:Tg)(body:Env->SO->Fl):List PV->Env->SO->Fl
 |[],ρ,st=>.nx ρ st
 |x::xs,ρ,st=>match yG t x ρ with
  |none=>.bad
  |some ρ1=>yae (body ρ1 st) λρ2 st2=>forL t body xs ρ2 st2
def yai(test:Env->SO->R PV)(body:Env->SO->Fl):Nat->Env->SO->Fl
 |0,_,_=>.bad
 |n+1,ρ,st=>(test ρ st).fl ρ λx st1=>onF (yao st1 x) λk=>cond k (yae (body ρ st1) λρ2 st2=>yai test body n ρ2 st2) (.nx ρ st1)
def yaP(st:SO)(o i v:PV):Option SO:=
 match o with
 |.loc n=>match st[n]? with
  |some (.lst xs)=>match i with
   |.int k=>match ixI xs.length k with
    |some j=>AA (st.set n (.lst (xs.set j v)))
    |none=>AC
   |_=>AC
  |_=>AC
 |_=>AC
mutual
noncomputable def ex(call:Nat->List PV->SO->R PV)(ρ:Env)(st:SO):Cs->Fl
 |.expr e=>(ev call ρ st e).fl ρ λ_ st1=>.nx ρ st1
 |.asg t e=>(ev call ρ st e).fl ρ λv st1=>match yG t v ρ with
  |some ρ1=>.nx ρ1 st1
  |none=>.bad
 |.six o i e=>(ev call ρ st e).fl ρ λv st1=>(ev call ρ st1 o).fl ρ λx st2=>(ev call ρ st2 i).fl ρ λy st3=>match yaP st3 x y v with
  |some st4=>.nx ρ st4
  |none=>.bad
 |.aug i o e=>match ρ[i]? with
  |some (AA x)=>(ev call ρ st e).fl ρ λy st1=>match yaH o x y with
   |some z=>.nx (ρ.set i (AA z)) st1
   |none=>.bad
  |_=>.bad
 |.ret e=>(ev call ρ st e).fl ρ λv st1=>.rt v st1
 |.ite c a b=>(ev call ρ st c).fl ρ λx st1=>onF (yao st1 x) λk=>cond k (exs call ρ st1 a) (exs call ρ st1 b)
 |.for t it b=>(evi call ρ st it).fl ρ λxs st1=>forL t (λρ2 st2=>exs call ρ2 st2 b) xs ρ st1
 |.while c b=>yai (λρ2 st2=>ev call ρ2 st2 c) (λρ2 st2=>exs call ρ2 st2 b) 100000 ρ st
 |.nope=>.bad
 |.sfl c o f e=>(ev call ρ st e).fl ρ λv st1=>(ev call ρ st1 o).fl ρ λx st2=>match ybs c st2 x f v with
  |some st3=>.nx ρ st3
  |none=>.bad
noncomputable def exs(call:Nat->List PV->SO->R PV)(ρ:Env)(st:SO):Css->Fl
 |.nil=>.nx ρ st
 |.cons s ss=>match ex call ρ st s with
  |.nx ρ1 st1=>exs call ρ1 st1 ss
  |f=>f
end
structure Fn where
 np:Nat
 ns:Nat
 pure:Bool
 body:Css
def yd(T:Nat->Option Fn):Nat->Nat->List PV->SO->R PV
 |0,_,_,_=>.bad
 |k+1,f,args,st=>match T f with
  |none=>.bad
  |some fn=>if args.length=fn.np then
    if fn.pure then
     if nLs args then match exs (yd T k) (args.map AA++Ak (fn.ns-fn.np) AC) [] fn.body with
      |.rt v _=>if nL v then .ok v st else .bad
      |.nx _ _=>.ok .non st
      |.exc c _ _=>.exc c st
      |_=>.bad
     else .bad
    else match exs (yd T k) (args.map AA++Ak (fn.ns-fn.np) AC) st fn.body with
     |.rt v st1=>.ok v st1
     |.nx _ st1=>.ok .non st1
     |.exc c _ st1=>.exc c st1
     |_=>.bad
   else .bad
def yW:List (Sum Ce Int)->Ces
 |[]=>.nil
 |.inl c::r=>.cons c (yW r)
 |.inr i::r=>.cons (.cst (.int i)) (yW r)
def yb1:Ces->Ces->Ces
 |.nil,b=>b
 |.cons e r,b=>.cons e (yb1 r b)
end IC
namespace L2
open PySem PySem.Spec PyProof.Rows IC
abbrev Ph:=List (Option AH)
section
variable (K:AB)(cl:Nat->AH)(B:AH->Prop)(φ:Ph)(H:Hp)
def ybc(k:Bool)(a:AH)(xs:List V):Prop:=(H a=AA (.tup xs)/\¬B a/\AA a∉φ) \/
 k=AD/\∃(o:B1) (its:Array AE) (n:Nat),K.lookup a=AA o/\o.cls=.type "tuple"/\o.data=.seq its n/\its.size<=sizeLine/\Vals xs its.toList
def ybO(a:AH)(xs:List V):Prop:=H a=AA (.lst xs)/\¬B a/\AA a∉φ
def ycS(a:AH)(xs:List V):Prop:=(Rd H a (.lst xs)/\¬B a/\AA a∉φ) \/
 ∃(o:B1) (its:Array AE) (n:Nat),K.lookup a=AA o/\o.cls=.type "list"/\o.dict=AC/\o.data=.seq its n/\its.size<=sizeLine/\Vals xs its.toList
mutual
noncomputable def yc:PV->V->Prop
 |.non,x=>x=.non
 |.bl b,x=>x=.bl b
 |.int i,x=>x=.int i
 |.str s,x=>x=.str s
 |.tp k vs,x=>∃a xs,x=.ref a/\ybc K B φ H k a xs/\ye vs xs
 |.lst vs,x=>∃a xs,x=.ref a/\ybO B φ H a xs/\ye vs xs
 |.loc n,x=>n<φ.length/\∃a,x=.ref a/\∀b,φ[n]?=AA (AA b)->b=a
 |.exn c,x=>∃a,x=.ref a/\H a=AA (.ext (yfv a (cl c)))/\¬B a/\AA a∉φ
 |.scr vs,x=>∃a xs,x=.ref a/\ycS K B φ H a xs/\ye vs xs
 |.fnc j,x=>x=.ref (cl (1000+j))
noncomputable def ye:List PV->List V->Prop
 |[],xs=>xs=[]
 |v::vs,xs=>∃y ys,xs=y::ys/\yc v y/\ye vs ys
end
def yaf:Key->PV
 |.inl i=>.int i
 |.inr y=>.str y
def DK:List (PV×PV)->List (Key×V)->Prop
 |[],ks=>ks=[]
 |(k,v)::r,ks=>∃q x s,ks=(q,x)::s/\k=yaf q/\yc K cl B φ H v x/\DK r s
def DT:List (PV×PV)->List (List Key×V)->Prop
 |[],ks=>ks=[]
 |(k,v)::r,ks=>∃q x s,ks=(q,x)::s/\k=.tup (q.map yaf)/\yc K cl B φ H v x/\DT r s
def FS:List (AM×PV)->List (AM×V)->Prop
 |[],ks=>ks=[]
 |(k,v)::r,ks=>∃x s,ks=(k,x)::s/\yc K cl B φ H v x/\FS r s
def ybu:Ob->AH->Prop
 |.lst vs,a=>∃xs,H a=AA (.lst xs)/\ye K cl B φ H vs xs
 |.dct AF kvs,a=>∃ks,H a=AA (.dK ks)/\DK K cl B φ H kvs ks
 |.dct AD kvs,a=>∃ks,H a=AA (.dT ks)/\DT K cl B φ H kvs ks
 |.dead,_=>False
 |.ins c fs,a=>∃ks,(∃dx,H a=AA (.ins (cl c) dx ks))/\FS K cl B φ H fs ks
structure yp(st:SO):Prop where
 len:φ.length=st.length
 inj:∀(m n:Nat) (a:AH),φ[m]?=AA (AA a)->φ[n]?=AA (AA a)->m=n
 obj:∀(n:Nat) (a:AH),φ[n]?=AA (AA a)->∃o,st[n]?=AA o/\ybu K cl B φ H o a
 liv:∀(n:Nat) (o:Ob),st[n]?=AA o->o ≠ .dead->∃a,φ[n]?=AA (AA a)
 nb:∀a,AA a∈φ->¬B a
 dom:∀a,B a->∃o,H a=AA o
structure yu(ρ:IC.Env)(σ:St):Prop where
 len:ρ.length=σ.length
 get:∀(i:Nat) (v:PV),ρ[i]?=AA (AA v)->∃x,σ[i]?=AA (AA x)/\yc K cl B φ H v x
end
structure Step(φ:Ph)(H:Hp)(φ':Ph)(H':Hp):Prop where
 keep:∀b o,AA b∉φ->H b=AA o->H' b=AA o
 len:φ.length<=φ'.length
 pre:∀(n:Nat) (a:AH),n<φ.length->φ'[n]?=AA (AA a)->φ[n]?=AA (AA a)
 new:∀b,AA b∈φ'->AA b∈φ \/ H b=AC
theorem Step.rfl{φ:Ph}{H:Hp}:Step φ H φ H:=⟨λ_ _ _ e=>e,AU _,λ_ _ _ e=>e,λ_ h=>.inl h⟩
theorem Step.trans{φ φ1 φ2:Ph}{H H1 H2:Hp}(s:Step φ H φ1 H1)(t:Step φ1 H1 φ2 H2):Step φ H φ2 H2:=by
 refine⟨λb o n e=>?_,BC s.len t.len,λn a hn e=>s.pre n a hn (t.pre n a (A0 hn s.len) e),λb hb=>?_⟩
 .refine t.keep b o (λh=>?_) (s.keep b o n e);rcases s.new b h with q|q
  .exact n q
  .rw[e]at q;cases q
 .rcases t.new b hb with q|q
  .exact s.new b q
  .by_cases h:AA b∈φ
   .exact .inl h
   .refine .inr ?_
    cases e:H b with
    |none=>exact FT _
    |some o=>rw[s.keep b o h e]at q;cases q
section
variable {K:AB}{cl:Nat->AH}{B:AH->Prop}{φ φ':Ph}{H H':Hp}{st:SO}{ρ:IC.Env}{σ:St}
theorem Rd.step(s:Step φ H φ' H'){a:AH}{u:HO}(n:AA a∉φ)(r:Rd H a u):Rd H' a u/\AA a∉φ':=by
 have h:∃o,H a=AA o:=by
  rcases r with r|⟨o,r⟩<;>exact⟨_,r⟩
 refine⟨?_,λz=>?_⟩
 .rcases r with r|⟨o,r⟩
  .exact .inl (s.keep _ _ n r)
  .exact .inr ⟨o,s.keep _ _ n r⟩
 .let⟨o,e⟩:=h;rcases s.new a z with q|q
  .exact n q
  .rw[e]at q;cases q
theorem ybc.step(s:Step φ H φ' H'){k:Bool}{a:AH}{xs:List V}(r:ybc K B φ H k a xs):ybc K B φ' H' k a xs:=by
 rcases r with⟨r,b,n⟩|r
 .let⟨_,n'⟩:=(Rd.of r).step s n;exact .inl ⟨s.keep _ _ n r,b,n'⟩
 .exact .inr r
theorem ybO.step(s:Step φ H φ' H'){a:AH}{xs:List V}(r:ybO B φ H a xs):ybO B φ' H' a xs:=by
 let⟨r,b,n⟩:=r;let⟨_,n'⟩:=(Rd.of r).step s n;exact⟨s.keep _ _ n r,b,n'⟩
theorem ycS.step(s:Step φ H φ' H'){a:AH}{xs:List V}(r:ycS K B φ H a xs):ycS K B φ' H' a xs:=by
 rcases r with⟨r,b,n⟩|r
 .let⟨r',n'⟩:=r.step s n;exact .inl ⟨r',b,n'⟩
 .exact .inr r
mutual
theorem yc.step(s:Step φ H φ' H'):∀(v:PV) (x:V),yc K cl B φ H v x->yc K cl B φ' H' v x
 |.non,x,h=>by erw[yc]at h ⊢;exact h
 |.bl b,x,h=>by erw[yc]at h ⊢;exact h
 |.int i,x,h=>by erw[yc]at h ⊢;exact h
 |.str y,x,h=>by erw[yc]at h ⊢;exact h
 |.tp k vs,x,h=>by
  erw[yc]at h ⊢;let⟨a,xs,e,r,l⟩:=h;exact⟨a,xs,e,r.step s,ye.step s vs xs l⟩
 |.lst vs,x,h=>by
  erw[yc]at h ⊢;let⟨a,xs,e,r,l⟩:=h;exact⟨a,xs,e,r.step s,ye.step s vs xs l⟩
 |.loc n,x,h=>by
  erw[yc]at h ⊢;let⟨h1,a,e,h2⟩:=h;exact⟨A0 h1 s.len,a,e,λb q=>h2 b (s.pre n b h1 q)⟩
 |.fnc j,x,h=>by erw[yc]at h ⊢;exact h
 |.exn c,x,h=>by
  erw[yc]at h ⊢;let⟨a,e,r,b,n⟩:=h;let⟨_,n'⟩:=(Rd.of r).step s n;exact⟨a,e,s.keep _ _ n r,b,n'⟩
 |.scr vs,x,h=>by
  erw[yc]at h ⊢;let⟨a,xs,e,r,l⟩:=h;exact⟨a,xs,e,r.step s,ye.step s vs xs l⟩
theorem ye.step(s:Step φ H φ' H'):∀(v:List PV) (x:List V),ye K cl B φ H v x->ye K cl B φ' H' v x
 |[],x,h=>by erw[ye]at h ⊢;exact h
 |v::vs,x,h=>by
  erw[ye]at h ⊢;let⟨y,ys,e,r,l⟩:=h;exact⟨y,ys,e,yc.step s v y r,ye.step s vs ys l⟩
end
theorem yu.step(s:Step φ H φ' H')(r:yu K cl B φ H ρ σ):yu K cl B φ' H' ρ σ:=⟨r.len,λi v e=>by
 let⟨x,h,q⟩:=r.get i v e;exact⟨x,h,q.step s⟩⟩
mutual
theorem yc.inn(hn:∀a,AA a∈φ->¬B a):∀(v:PV) (x:V),nL v=AD->yc K cl B φ H v x->yc K cl (λa=>B a \/ AA a∈φ) [] H v x
 |.non,x,_,h=>by erw[yc]at h ⊢;exact h
 |.bl b,x,_,h=>by erw[yc]at h ⊢;exact h
 |.int i,x,_,h=>by erw[yc]at h ⊢;exact h
 |.str y,x,_,h=>by erw[yc]at h ⊢;exact h
 |.tp k vs,x,q,h=>by
  erw[yc]at h ⊢;let⟨a,xs,e,r,l⟩:=h;refine⟨a,xs,e,?_,ye.inn hn vs xs (by simpa only[nL] using q) l⟩;rcases r with⟨r,b,n⟩|r
  .exact .inl ⟨r,λz=>z.elim b n,by simp⟩
  .exact .inr r
 |.lst vs,x,q,h=>by
  erw[yc]at h ⊢;let⟨a,xs,e,⟨r,b,n⟩,l⟩:=h;exact⟨a,xs,e,⟨r,λz=>z.elim b n,by simp⟩,ye.inn hn vs xs (by simpa only[nL] using q) l⟩
 |.loc n,x,q,h=>by simp[nL]at q
 |.fnc j,x,q,h=>by erw[yc]at h ⊢;exact h
 |.exn c,x,q,h=>by simp[nL]at q
 |.scr vs,x,q,h=>by
  erw[yc]at h ⊢;let⟨a,xs,e,r,l⟩:=h;refine⟨a,xs,e,?_,ye.inn hn vs xs (by simpa only[nL] using q) l⟩;rcases r with⟨r,b,n⟩|r
  .exact .inl ⟨r,λz=>z.elim b n,by simp⟩
  .exact .inr r
theorem ye.inn(hn:∀a,AA a∈φ->¬B a):∀(v:List PV) (x:List V),nLs v=AD->ye K cl B φ H v x->ye K cl (λa=>B a \/ AA a∈φ) [] H v x
 |[],x,_,h=>by erw[ye]at h ⊢;exact h
 |v::vs,x,q,h=>by
  erw[ye]at h ⊢;erw[nLs,AG]at q;let⟨y,ys,e,r,l⟩:=h;exact⟨y,ys,e,yc.inn hn v y q.1 r,ye.inn hn vs ys q.2 l⟩
end
mutual
theorem yc.out{ψ:Ph}:∀(v:PV) (x:V),nL v=AD->yc K cl (λa=>B a \/ AA a∈φ) ψ H v x->yc K cl B φ H v x
 |.non,x,_,h=>by erw[yc]at h ⊢;exact h
 |.bl b,x,_,h=>by erw[yc]at h ⊢;exact h
 |.int i,x,_,h=>by erw[yc]at h ⊢;exact h
 |.str y,x,_,h=>by erw[yc]at h ⊢;exact h
 |.tp k vs,x,q,h=>by
  erw[yc]at h ⊢;let⟨a,xs,e,r,l⟩:=h;refine⟨a,xs,e,?_,ye.out vs xs (by simpa only[nL] using q) l⟩;rcases r with⟨r,b,n⟩|r
  .exact .inl ⟨r,λz=>b (.inl z),λz=>b (.inr z)⟩
  .exact .inr r
 |.lst vs,x,q,h=>by
  erw[yc]at h ⊢;let⟨a,xs,e,⟨r,b,n⟩,l⟩:=h;exact⟨a,xs,e,⟨r,λz=>b (.inl z),λz=>b (.inr z)⟩,ye.out vs xs (by simpa only[nL] using q) l⟩
 |.loc n,x,q,h=>by simp[nL]at q
 |.fnc j,x,q,h=>by erw[yc]at h ⊢;exact h
 |.exn c,x,q,h=>by simp[nL]at q
 |.scr vs,x,q,h=>by
  erw[yc]at h ⊢;let⟨a,xs,e,r,l⟩:=h;refine⟨a,xs,e,?_,ye.out vs xs (by simpa only[nL] using q) l⟩;rcases r with⟨r,b,n⟩|r
  .exact .inl ⟨r,λz=>b (.inl z),λz=>b (.inr z)⟩
  .exact .inr r
theorem ye.out{ψ:Ph}:∀(v:List PV) (x:List V),nLs v=AD->ye K cl (λa=>B a \/ AA a∈φ) ψ H v x->ye K cl B φ H v x
 |[],x,_,h=>by erw[ye]at h ⊢;exact h
 |v::vs,x,q,h=>by
  erw[ye]at h ⊢;erw[nLs,AG]at q;let⟨y,ys,e,r,l⟩:=h;exact⟨y,ys,e,yc.out v y q.1 r,ye.out vs ys q.2 l⟩
end
theorem ye.length:∀{v:List PV} {x:List V},ye K cl B φ H v x->v.length=x.length
 |[],x,h=>by erw[ye]at h;subst h;rfl
 |v::vs,x,h=>by
  erw[ye]at h;let⟨y,ys,rfl,_,l⟩:=h;simp[ye.length l]
theorem DK.step(s:Step φ H φ' H'):∀{kvs:List (PV×PV)} {ks:List (Key×V)},DK K cl B φ H kvs ks->DK K cl B φ' H' kvs ks
 |[],ks,h=>h
 |(k,v)::r,ks,h=>by
  let⟨q,x,t,e,m,rv,l⟩:=h;exact⟨q,x,t,e,m,rv.step s,DK.step s l⟩
theorem DT.step(s:Step φ H φ' H'):∀{kvs:List (PV×PV)} {ks:List (List Key×V)},DT K cl B φ H kvs ks->DT K cl B φ' H' kvs ks
 |[],ks,h=>h
 |(k,v)::r,ks,h=>by
  let⟨q,x,t,e,m,rv,l⟩:=h;exact⟨q,x,t,e,m,rv.step s,DT.step s l⟩
theorem FS.step(s:Step φ H φ' H'):∀{kvs:List (AM×PV)} {ks:List (AM×V)},FS K cl B φ H kvs ks->FS K cl B φ' H' kvs ks
 |[],ks,h=>h
 |(k,v)::r,ks,h=>by
  let⟨x,t,e,rv,l⟩:=h;exact⟨x,t,e,rv.step s,FS.step s l⟩
theorem ybu.step(s:Step φ H φ' H'){o:Ob}{a:AH}(e:H' a=H a)(r:ybu K cl B φ H o a):ybu K cl B φ' H' o a:=by
 cases o with
 |lst vs=>
  let⟨xs,q,l⟩:=r;exact⟨xs,e.trans q,l.step s⟩
 |dct t kvs=>
  cases t with
  |false=>let⟨ks,q,l⟩:=r;exact⟨ks,e.trans q,l.step s⟩
  |true=>let⟨ks,q,l⟩:=r;exact⟨ks,e.trans q,l.step s⟩
 |dead=>exact r
 |ins c fs=>let⟨ks,⟨dx,q⟩,l⟩:=r;exact⟨ks,⟨dx,e.trans q⟩,l.step s⟩
theorem ybu.there{o:Ob}{a:AH}(r:ybu K cl B φ H o a):∃u,H a=AA u:=by
 cases o with
 |lst vs=>let⟨xs,q,l⟩:=r;exact⟨_,q⟩
 |dct t kvs=>cases t<;>(let⟨ks,q,l⟩:=r;exact⟨_,q⟩)
 |dead=>exact r.elim
 |ins c fs=>let⟨ks,⟨dx,q⟩,l⟩:=r;exact⟨_,q⟩
theorem yp.there(S:yp K cl B φ H st){a:AH}(h:AA a∈φ):∃u,H a=AA u:=by
 let⟨n,e⟩:=List.mem_iff_getElem?.mp h;let⟨o,_,r⟩:=S.obj n a e;exact r.there
theorem Step.upd{p:AH}{o:HO}(hp:H p=AC):Step φ H φ (upd H p o):=
 ⟨λb u n e=>by rw[za (zb e hp)];exact e,AU _,λ_ _ _ e=>e,λ_ h=>.inl h⟩
theorem yp.same(S:yp K cl B φ H st)(k:∀b o,H b=AA o->H' b=AA o):yp K cl B φ H' st:=by
 have s:Step φ H φ H':=⟨λb o _ e=>k b o e,AU _,λ_ _ _ e=>e,λ_ h=>.inl h⟩;refine⟨S.len,S.inj,λn a e=>?_,S.liv,S.nb,λa h=>?_⟩
 .let⟨o,q,r⟩:=S.obj n a e;let⟨u,z⟩:=r.there;exact⟨o,q,r.step s ((k a u z).trans z.symm)⟩
 .let⟨o,q⟩:=S.dom a h;exact⟨o,k a o q⟩
theorem yp.upd{p:AH}{o:HO}(S:yp K cl B φ H st)(hp:H p=AC):yp K cl B φ (upd H p o) st:=S.same λb u e=>by rw[za (zb e hp)];exact e
mutual
theorem yc.moreB{B':AH->Prop}(hn:∀y,B' y->B y \/ H y=AC):∀(v:PV) (x:V),yc K cl B φ H v x->yc K cl B' φ H v x
 |.non,x,h=>by erw[yc]at h ⊢;exact h
 |.bl b,x,h=>by erw[yc]at h ⊢;exact h
 |.int i,x,h=>by erw[yc]at h ⊢;exact h
 |.str y,x,h=>by erw[yc]at h ⊢;exact h
 |.tp k vs,x,h=>by
  erw[yc]at h ⊢;let⟨y,xs,e,r,l⟩:=h;refine⟨y,xs,e,?_,ye.moreB hn vs xs l⟩;rcases r with⟨r,b,n⟩|r
  .exact .inl ⟨r,λz=>(hn y z).elim b λq=>(by rw[q]at r;cases r),n⟩
  .exact .inr r
 |.lst vs,x,h=>by
  erw[yc]at h ⊢;let⟨y,xs,e,⟨r,b,n⟩,l⟩:=h;exact⟨y,xs,e,⟨r,λz=>(hn y z).elim b λq=>(by rw[q]at r;cases r),n⟩,ye.moreB hn vs xs l⟩
 |.loc n,x,h=>by erw[yc]at h ⊢;exact h
 |.fnc j,x,h=>by erw[yc]at h ⊢;exact h
 |.exn c,x,h=>by
  erw[yc]at h ⊢;let⟨y,e,r,b,n⟩:=h;exact⟨y,e,r,λz=>(hn y z).elim b λq=>(by rw[q]at r;cases r),n⟩
 |.scr vs,x,h=>by
  erw[yc]at h ⊢;let⟨y,xs,e,r,l⟩:=h;refine⟨y,xs,e,?_,ye.moreB hn vs xs l⟩;rcases r with⟨r,b,n⟩|r
  .refine .inl ⟨r,λz=>(hn y z).elim b λq=>?_,n⟩;rcases r with r|⟨o,r⟩<;>(rw[q]at r;cases r)
  .exact .inr r
theorem ye.moreB{B':AH->Prop}(hn:∀y,B' y->B y \/ H y=AC):∀(v:List PV) (x:List V),ye K cl B φ H v x->ye K cl B' φ H v x
 |[],x,h=>by erw[ye]at h ⊢;exact h
 |v::vs,x,h=>by
  erw[ye]at h ⊢;let⟨y,ys,e,r,l⟩:=h;exact⟨y,ys,e,yc.moreB hn v y r,ye.moreB hn vs ys l⟩
end
end
end L2
namespace L2
open PySem PySem.Spec PyProof.Rows
def CXH(X:Cx)(H:Hp)(s:AI)(E:XK)(e:AE)(s':AI):Prop:=
 ∃(C a:AH) (cls a0 fl:AE) (H':Hp) (B:Aq),X.s₀.heap.objs.size<=C/\e=.ref a/\s'.os=s.os/\Cd s'.gens /\
  (B.StaysIn s'.heap/\B.get? a=AC/\s'.heap.FunFrames B X.stack/\s'.heap.TracedAtW B a cls a0 fl)/\HOk X.prog X.w H' s'.heap/\Un (frs X.stack) [C] H H' s.heap s'.heap /\
  (∀b o,s.heap.get? b=AA o->H b=AC->b∉frs X.stack->b≠C->B.get? b=AA o)/\(∀b u,H' b=AA u->∃o,B.get? b=AA o)/\(∀b o,s.heap.get? b=AA o->b∉frs X.stack->b≠C->∃o',B.get? b=AA o')/\E cls AC H'
theorem CXH.mono{X:Cx}{H:Hp}{s:AI}{E E':XK}{e:AE}{s':AI}(h:CXH X H s E e s')(n:∀cls H',E cls AC H'->E' cls AC H'):CXH X H s E' e s':=by
 let⟨C,a,cls,a0,fl,H',B,r1,r2,r3,r4,r5,r6,r7,r8,r9,r10,r11⟩:=h;exact⟨C,a,cls,a0,fl,H',B,r1,r2,r3,r4,r5,r6,r7,r8,r9,r10,n _ _ r11⟩
section
variable {M:Model}{A:A9}{E:AE->AI->Prop}{s:AI}
def zbR{base:Aq}{env:Env}{outer:List Env}{L e:AH}{cls a0 fl:AE}{Q:Unit->AI->Prop}
  (hfr:A.frames=AA (env::outer)) (hf:env.frame=AA L) (f1:base.StaysIn s.heap) (f2:base.get? e=AC) (f3:s.heap.FunFrames base (env::outer)) (f4:s.heap.TracedAtW base e cls a0 fl)
  (hQ:∀h',Fm base outer e cls a0 h'->s.heap.UpToSlots h'->Q () {s with heap:=h'}):AZ M A («leaving» env (.ref e)) Q E s:=by
 by_cases hfl:fl=rawInt L
 .subst hfl;unfold «leaving»;refine AJ (wpAny_noteFrame_againW hf f4 ?_);refine wpAny_landsW ⟨f1,f2,f3,f4⟩ λh' hfl up=>?_;let⟨k1,k2,⟨_,_,k3⟩,k4⟩:=hfl;exact hQ h' ⟨k1,k2,k3,k4⟩ up
 .let⟨oe,vs,T,oT,ts,he,⟨hcls,h0⟩,hd,h1,hnT,hTe,hT,hdT,h3⟩:=f4;subst hcls;unfold «leaving» noteFrame;erw[hf];refine AJ (AJ (Bt he hd h1 ?_));rw[if_pos (show (Af T != BW)=AD from by simp)];refine AJ (Bt hT hdT h3 ?_);rw[if_neg (show ¬((fl==rawInt L)=AD)from λz=>hfl (eq_of_beq z))];refine AJ (EJ hT hdT (DG.mp h3).1 ?_);have other:∀b,b≠T->(s.heap.update T (Obj.mapFields (·.setIfInBounds 3 BW))).get? b=s.heap.get? b:=λb hb=>CY _ _ (B9 hb);have noRecord:∀b o,s.heap.get? b=AA o->(∀vs,o.data ≠ .fields vs)->b≠T:=λb o hb hnf q=>by
   rw[q,hT]at hb;injection hb with hb;subst hb;exact hnf ts hdT
  refine wpAny_newEntryW hfr (f3.of_keeps λb o hb hnf=>⟨o,(other b (noRecord b o hb hnf)).trans hb,rfl⟩) hf ((other e (B9 hTe)).trans he)
   (λb o hbo=>(other b λq=>by rw[q,hnT]at hbo;cases hbo).trans (f1 b o hbo)) f2 hd (DG.mp h1).1 h0
   λh' ⟨x1,⟨_,_,x2⟩,x3,x4⟩=>hQ h' ⟨x1,f2,x2,x3⟩ λb o hb hnf=>x4 b o ((other b (noRecord b o hb hnf)).trans hb) hnf
end
section
variable {P:A1}{w:A8}{K:AB}{mg:AM->Option AE}{base:Aq}{N:List AM}{qual:AM}{scope:BB}{f:AH}{cd:AE}{A:A9}{outer:List Env}{s₀:AI}{H₀:Hp}{E:XK}
def zjo{π:List (AH×B1)}{σ:St}{H:Hp}{s:AI}{e:AE}{s':AI}(I:Inv (yap (CX1 P w) P w K mg base N qual scope f cd A outer s₀ H₀ E) π σ H s)(h:CXH (yap (CX1 P w) P w K mg base N qual scope f cd A outer s₀ H₀ E) H s E e s'):
  (yap (CX1 P w) P w K mg base N qual scope f cd A outer s₀ H₀ E).xe e s':=by
 let⟨C,a,cls,a0,fl,H',B,hC,rfl,os,bare,⟨f1,f2,f3,f4⟩,hok,un,hB,tr,hT,hE⟩:=h;have bse:Un (frs outer) [] H₀ H s₀.heap s.heap:=I.base;have lt:∀b o,s₀.heap.get? b=AA o->b≠s₀.heap.objs.size:=λb o q=>Ac (AQ q);have neC:∀b o,s₀.heap.get? b=AA o->b≠C:=λb o q=>Ac (A0 (AQ q) hC);have niC:∀b o,s₀.heap.get? b=AA o->b∉[C]:=λb o q z=>neC b o q (by simpa using z);have hst:∀b,b∈frs (envOfC qual scope s₀.heap.objs.size f cd::outer)->b=s₀.heap.objs.size \/ b∈frs outer:=λb hb=>by
  have hb':b∈s₀.heap.objs.size::frs outer:=hb;exact Ab.mp hb'
 have un':Un (frs (envOfC qual scope s₀.heap.objs.size f cd::outer)) [C] H H' s.heap s'.heap:=un;have kB:∀b o,s₀.heap.get? b=AA o->H₀ b=AC->b∉frs outer->B.get? b=AA o:=λb o q n hb=>hB b o (bse.keep b o q n hb (by simp)) (bse.free b o q n (by simp)) (λz=>by
  rcases hst b z with z|z
  .exact lt b o q z
  .exact hb z) (neC b o q)
 have kT:∀b o,s₀.heap.get? b=AA o->b∉frs outer->∃o',B.get? b=AA o':=λb o q hb=>by
  let⟨o',q1⟩:=bse.there b o q (by simp);refine hT b o' q1 (λz=>?_) (neC b o q);rcases hst b z with z|z
  .exact lt b o q z
  .exact hb z
 refine zbR I.ok.frames rfl f1 f2 f3 f4 λh'' fl' up=>?_;refine⟨a,cls,a0,H',B,rfl,os.trans I.os,bare,fl',HOk.inB hok f1 fl'.1 tr,⟨λb o q n hb _=>fl'.1 b o (kB b o q n hb),λb o q n hb _=>?_,λb o q n _=>?_,λb o q _=>?_,λb xs q=>un'.tups b xs (bse.tups b xs q),λb o u q=>un'.frzs b o u (bse.frzs b o u q),λb ps q=>?_⟩,kB,tr,kT,hE⟩
 .let⟨sl,q1⟩:=bse.slot b o q n hb (by simp);have n1:=bse.free b o q n (by simp);let⟨sl1,q2⟩:=un'.slot b _ q1 n1 (AS _ hb) (niC b o q);let⟨_,o',ho',hd⟩:=B8 f3 (show b∈C1 (λ(z:Env)=>z.frame) _ from AS _ hb);let⟨sl',q3⟩:=up b _ q2 (by rw[ho']at q2;cases q2;exact hd);exact⟨sl',q3⟩
 .let⟨o',q1⟩:=bse.there b o q (by simp);exact un'.free b o' q1 (bse.free b o q n (by simp)) (niC b o q)
 .let⟨o',q1⟩:=bse.there b o q (by simp);let⟨o2,q2⟩:=un'.there b o' q1 (niC b o q)
  by_cases hb:b∈frs outer
  .let⟨_,o3,ho3,hd⟩:=B8 f3 (show b∈C1 (λ(z:Env)=>z.frame) _ from AS _ hb);let⟨sl',q3⟩:=up b _ ho3 hd;exact⟨_,q3⟩
  .let⟨o4,q4⟩:=kT b o q hb;exact⟨o4,fl'.1 b o4 q4⟩
 .let⟨m1,e1⟩:=bse.tbls b ps q;let⟨m2,e2⟩:=un'.tbls b _ e1;exact⟨m1++m2,by rw[e2,Cv]⟩
end
section
variable {pg:A1}{wd:A8}{A:A9}{R:FD->AI->Prop}{s:AI}
end
section
variable {X:Cx}{sc:BB}{NC:List AM}{slots:List (Option Nat)}{elt tg iter:AO}{ifs:List AO}{pos:Ba}{g:TG}{ti:TT}{te:CI->TE}{E:XK}
end
end L2
namespace L2
open PySem PySem.Spec PyProof.Rows IC
structure Se where
 cl:Nat->AH
 call:Nat->List PV->SO->R PV
 may:Bool
section
variable (S:Se)(X:Cx)
def ExcAt(σ:St)(B:AH->Prop)(φ:Ph)(H:Hp)(k:Nat)(st':SO)(e:AE)(s':AI):Prop:=
 (∃π H1 s φ1,Inv X π σ H1 s/\Step φ H φ1 H1/\CX1 X.prog X.w X.stack H1 s (λcls _ H'=>cls=.ref (S.cl k)/\∃φ',Step φ1 H1 φ' H'/\yp X.K S.cl B φ' H' st') e s') \/
 (S.may=AD/\∃π H1 s φ1 h' e0 vs,Inv X π σ H1 s/\Step φ H φ1 H1/\yp X.K S.cl B φ1 H1 st'/\F3 s.heap h' e0 (.ref (S.cl k)) vs/\e=.ref e0/\s'={s with heap:=h'}) \/
 (S.may=AD/\∃π H1 s,Inv X π σ H1 s/\CXH X H1 s (λcls _ H'=>cls=.ref (S.cl k)/\∃φ',Step φ H φ' H'/\yp X.K S.cl B φ' H' st') e s')
def Run{α β:Type}(σ:St)(B:AH->Prop)(φ:Ph)(H:Hp)(Rel:Ph->Hp->α->β->Prop)(r:R α)(Q:β->Hp->Prop):Prop:=
 match r with
 |.ok v st'=>∀x H' φ',Step φ H φ' H'->yp X.K S.cl B φ' H' st'->Rel φ' H' v x->Q x H'
 |.exc k st'=>∀e s',ExcAt S X σ B φ H k st' e s'->X.xe e s'
 |.bad=>False
abbrev RV(B:AH->Prop):Ph->Hp->PV->V->Prop:=λφ H=>yc X.K S.cl B φ H
abbrev RL(B:AH->Prop):Ph->Hp->List PV->List V->Prop:=λφ H=>ye X.K S.cl B φ H
abbrev RB:Ph->Hp->Bool->Bool->Prop:=λ_ _ b c=>b=c
def tE(c:Ce):TE:=λσ H Q=>∃B φ st ρ,yp X.K S.cl B φ H st/\yu X.K S.cl B φ H ρ σ/\Run S X σ B φ H (RV S X B) (ev S.call ρ st c) Q
def tAs(c:Ces):TA:=λσ H Q=>∃B φ st ρ,yp X.K S.cl B φ H st/\yu X.K S.cl B φ H ρ σ/\Run S X σ B φ H (RL S X B) (evs S.call ρ st c) Q
def yaC(r:R PV):R Bool:=r.bind λx st=>onO (yao st x) λb=>.ok b st
def tTs(c:Ce):TT:=λσ H Q=>∃B φ st ρ,yp X.K S.cl B φ H st/\yu X.K S.cl B φ H ρ σ/\Run S X σ B φ H RB (yaC (ev S.call ρ st c)) Q
end
section
variable {S:Se}{X:Cx}{σ:St}{B:AH->Prop}{φ φ1:Ph}{H H1:Hp}
theorem ExcAt.back{k:Nat}{st':SO}{e:AE}{s':AI}(s:Step φ H φ1 H1)(h:ExcAt S X σ B φ1 H1 k st' e s'):ExcAt S X σ B φ H k st' e s':=by
 rcases h with⟨π,H2,t,φ2,I,q,c⟩|⟨m,π,H2,t,φ2,h',e0,vs,I,q,c⟩|⟨m,π,H2,t,I,c⟩
 .exact .inl ⟨π,H2,t,φ2,I,s.trans q,c⟩
 .exact .inr (.inl ⟨m,π,H2,t,φ2,h',e0,vs,I,s.trans q,c⟩)
 .exact .inr (.inr ⟨m,π,H2,t,I,c.mono λcls H' ⟨e1,φ',s2,r⟩=>⟨e1,φ',s.trans s2,r⟩⟩)
variable {α β γ δ:Type}{Rel:Ph->Hp->α->β->Prop}{Fq:Ph->Hp->γ->δ->Prop}
theorem Run.on{r:R α}{Q:β->Hp->Prop}(s:Step φ H φ1 H1)(h:Run S X σ B φ H Rel r Q):Run S X σ B φ1 H1 Rel r Q:=by
 cases r with
 |ok v st'=>exact λx H' φ' t=>h x H' φ' (s.trans t)
 |exc k st'=>exact λe s' x=>h e s' (x.back s)
 |bad=>exact h
theorem Run.mono{r:R α}{Q Q':β->Hp->Prop}(h:Run S X σ B φ H Rel r Q)(k:∀x H',Q x H'->Q' x H'):Run S X σ B φ H Rel r Q':=by
 cases r with
 |ok v st'=>exact λx H' φ' t rs rv=>k x H' (h x H' φ' t rs rv)
 |exc c st'=>exact h
 |bad=>exact h
theorem Run.bind{r:R α}{k:α->SO->R γ}{Q:δ->Hp->Prop}(h:Run S X σ B φ H Fq (r.bind k) Q):
  Run S X σ B φ H Rel r λx H1=>∃v st1 φ1,Step φ H φ1 H1/\yp X.K S.cl B φ1 H1 st1/\Rel φ1 H1 v x/\Run S X σ B φ1 H1 Fq (k v st1) Q:=by
 cases r with
 |ok v st'=>exact λx H' φ' t rs rv=>⟨v,st',φ',t,rs,rv,Run.on t h⟩
 |exc c st'=>exact h
 |bad=>exact h
theorem Run.ok{v:α}{st:SO}{Q:β->Hp->Prop}(h:Run S X σ B φ H Rel (.ok v st) Q)(rs:yp X.K S.cl B φ H st){x:β}(rv:Rel φ H v x):Q x H:=h x H φ .rfl rs rv
theorem PE.imp{e:AO}{t t':TE}(h:PE X e t')(k:∀σ H Q,t σ H Q->t' σ H Q):PE X e t:=λπ s σ H Q I q=>h π s σ H Q I (k σ H Q q)
theorem PT.imp{e:AO}{t t':TT}(h:PT X e t')(k:∀σ H Q,t σ H Q->t' σ H Q):PT X e t:=λπ s σ H Q I q=>h π s σ H Q I (k σ H Q q)
theorem PW.imp{e:AO}{t t':TT}(h:PW X e t')(k:∀σ H Q,t σ H Q->t' σ H Q):PW X e t:=λwh π s σ H Q I q=>h wh π s σ H Q I (k σ H Q q)
theorem PA.imp{e:List AO}{t t':TA}(h:PA X e t')(k:∀σ H Q,t σ H Q->t' σ H Q):PA X e t:=λpos π s σ H Q I q=>h pos π s σ H Q I (k σ H Q q)
theorem tE.bind{c:Ce}{ρ:IC.Env}{st:SO}{k:PV->SO->R γ}{Q:δ->Hp->Prop}{P:V->Hp->Prop}(rs:yp X.K S.cl B φ H st)(re:yu X.K S.cl B φ H ρ σ)(h:Run S X σ B φ H Fq ((ev S.call ρ st c).bind k) Q)
  (n:∀x H1 v st1 φ1,Step φ H φ1 H1->yp X.K S.cl B φ1 H1 st1->yu X.K S.cl B φ1 H1 ρ σ->yc X.K S.cl B φ1 H1 v x->Run S X σ B φ1 H1 Fq (k v st1) Q->P x H1):tE S X c σ H P:=
 ⟨B,φ,st,ρ,rs,re,(Run.bind h).mono λx H1 ⟨v,st1,φ1,s,rs1,rv,h1⟩=>n x H1 v st1 φ1 s rs1 (re.step s) rv h1⟩
theorem tAs.bind{c:Ces}{ρ:IC.Env}{st:SO}{k:List PV->SO->R γ}{Q:δ->Hp->Prop}{P:List V->Hp->Prop}(rs:yp X.K S.cl B φ H st)(re:yu X.K S.cl B φ H ρ σ)(h:Run S X σ B φ H Fq ((evs S.call ρ st c).bind k) Q)
  (n:∀x H1 v st1 φ1,Step φ H φ1 H1->yp X.K S.cl B φ1 H1 st1->yu X.K S.cl B φ1 H1 ρ σ->ye X.K S.cl B φ1 H1 v x->Run S X σ B φ1 H1 Fq (k v st1) Q->P x H1):tAs S X c σ H P:=
 ⟨B,φ,st,ρ,rs,re,(Run.bind h).mono λx H1 ⟨v,st1,φ1,s,rs1,rv,h1⟩=>n x H1 v st1 φ1 s rs1 (re.step s) rv h1⟩
variable {i:Int}{b:Bool}{x:AM}{j:Nat}{pos:Ba}{e a a':AO}{c ca cb cc:Ce}
def zfo:PE X (.Constant (.int i) j pos) (tE S X (.cst (.int i))):=zig.imp λσ H Q ⟨B,φ,st,ρ,rs,re,h⟩=>by
 erw[ev]at h;exact h.ok rs (by erw[yc])
def zjd:PE X (.Constant (.bool b) j pos) (tE S X (.cst (.bl b))):=zi1.imp λσ H Q ⟨B,φ,st,ρ,rs,re,h⟩=>by
 erw[ev]at h;exact h.ok rs (by erw[yc])
def ziL:PE X (.Constant .none j pos) (tE S X (.cst .non)):=zje.imp λσ H Q ⟨B,φ,st,ρ,rs,re,h⟩=>by
 erw[ev]at h;exact h.ok rs (by erw[yc])
def zhy:PE X (.Constant (.str x) j pos) (tE S X (.cst (.str x))):=zjf.imp λσ H Q ⟨B,φ,st,ρ,rs,re,h⟩=>by
 erw[ev]at h;exact h.ok rs (by erw[yc])
def zhZ{i:Nat}(hN:X.N[i]?=AA x)(hv:Vis X.env.scope x)(hd:(x==("__debug__":AM))=false:=by decide)(hcd:(x==("__classdict__":AM))=false:=by decide):PE X (.Name x pos) (tE S X (.var i)):=
 (zio hN hv hd hcd).imp λσ H Q ⟨B,φ,st,ρ,rs,re,h⟩=>by
  erw[ev]at h
  cases q:ρ[i]? with
  |none=>rw[q]at h;exact h.elim
  |some o=>
   cases o with
   |none=>rw[q]at h;exact h.elim
   |some v=>
    rw[q]at h;let⟨y,hy,rv⟩:=re.get i v q;exact⟨y,hy,h.ok rs rv⟩
def zcV{v:PV}{y:AH}(hg:Gl X x)(hm:X.mg x=AA (.ref y))(hk:∀B φ H,yc X.K S.cl B φ H v (.ref y))(hd:(x==("__debug__":AM))=false:=by decide):PE X (.Name x pos) (tE S X (.cst v)):=
 (zde hg hm (show RelV (.ref y) (.ref y)from rfl) hd).imp λσ H Q ⟨B,φ,st,ρ,rs,re,h⟩=>by
  erw[ev]at h;exact h.ok rs (hk B φ H)
def zr{o:Option PV}{st:SO}{Q:VK}(h:Run S X σ B φ H (RV S X B) (toR o st) Q)(rs:yp X.K S.cl B φ H st):∃z,o=AA z/\∀z' H' φ',Step φ H φ' H'->yp X.K S.cl B φ' H' st->yc X.K S.cl B φ' H' z z'->Q z' H':=by
 cases o with
 |none=>exact h.elim
 |some z=>exact⟨z,rfl,h⟩
def rT2(S:Se)(X:Cx)(f:PV->PV->Option PV):R2:=λx y H Q=>∃B φ st v w z,yp X.K S.cl B φ H st/\yc X.K S.cl B φ H v x/\yc X.K S.cl B φ H w y/\f v w=AA z /\
 ∀z' H' φ',Step φ H φ' H'->yp X.K S.cl B φ' H' st->yc X.K S.cl B φ' H' z z'->Q z' H'
def zie{op:CQ}{o:BOp}(ho:OpR X (binaryOp op) (rT2 S X (yt o)))(ha:PE X a (tE S X ca))(hb:PE X a' (tE S X cb)):PE X (.BinOp a op a' pos) (tE S X (.bin o ca cb)):=
 (zg2 ho ha hb).imp λσ H Q ⟨B,φ,st,ρ,rs,re,h⟩=>by
  erw[ev]at h;refine tE.bind rs re h λx H1 v st1 φ1 s1 rs1 re1 rv h1=>tE.bind rs1 re1 h1 λy H2 w st2 φ2 s2 rs2 re2 rw h2=>?_;let⟨z,e,q⟩:=zr h2 rs2;exact⟨B,φ2,st2,v,w,z,rs2,rv.step s2,rw,e,q⟩
def zim{op:EX}{o:COp}(ho:OpR X (compareOp op) (rT2 S X (yw o)))(ha:PE X a (tE S X ca))(hb:PE X a' (tE S X cb))(hm:behindInMarks op a'=AF):PE X (.Compare a [op] [a'] pos) (tE S X (.cmp o ca cb)):=
 (zgF ho ha hb hm).imp λσ H Q ⟨B,φ,st,ρ,rs,re,h⟩=>by
  erw[ev]at h;refine tE.bind rs re h λx H1 v st1 φ1 s1 rs1 re1 rv h1=>tE.bind rs1 re1 h1 λy H2 w st2 φ2 s2 rs2 re2 rw h2=>?_;let⟨z,e,q⟩:=zr h2 rs2;exact⟨B,φ2,st2,v,w,z,rs2,rv.step s2,rw,e,q⟩
end
section
variable {S:Se}{X:Cx}{σ:St}{B:AH->Prop}{φ φ1:Ph}{H H1:Hp}{K:AB}{cl:Nat->AH}{st:SO}
theorem ybc.sq{k:Bool}{a:AH}{xs:List V}(r:ybc K B φ H k a xs):SqT K H a xs:=by
 rcases r with⟨r,_⟩|r
 .exact .inl (.inl r)
 .exact .inr r.2
theorem ybO.sq{a:AH}{xs:List V}(r:ybO B φ H a xs):SqL K H a xs:=.inl (.inl r.1)
theorem yc.tup_new{vs:List PV}{xs:List V}{p:AH}(hp:H p=AC)(rs:yp K cl B φ H st)(r:ye K cl B φ H vs xs):yc K cl B φ (upd H p (.tup xs)) (.tup vs) (.ref p):=by
 erw[yc];refine⟨p,xs,rfl,.inl ⟨zc,λz=>?_,λz=>?_⟩,r.step (.upd hp)⟩
 .let⟨o,e⟩:=rs.dom p z;rw[hp]at e;cases e
 .let⟨o,e⟩:=rs.there z;rw[hp]at e;cases e
theorem yc.lst_new{vs:List PV}{xs:List V}{p:AH}(hp:H p=AC)(rs:yp K cl B φ H st)(r:ye K cl B φ H vs xs):yc K cl B φ (upd H p (.lst xs)) (.lst vs) (.ref p):=by
 erw[yc];refine⟨p,xs,rfl,⟨zc,λz=>?_,λz=>?_⟩,r.step (.upd hp)⟩
 .let⟨o,e⟩:=rs.dom p z;rw[hp]at e;cases e
 .let⟨o,e⟩:=rs.there z;rw[hp]at e;cases e
theorem ye.append:∀{vs ws:List PV} {xs ys:List V},ye K cl B φ H vs xs->ye K cl B φ H ws ys->ye K cl B φ H (vs++ws) (xs++ys)
 |[],ws,xs,ys,h,q=>by erw[ye]at h;subst h;exact q
 |v::vs,ws,xs,ys,h,q=>by
  erw[ye]at h;let⟨y,zs,rfl,r,l⟩:=h;show ye K cl B φ H (v::(vs++ws)) (y::(zs++ys));erw[ye];exact⟨y,zs++ys,rfl,r,ye.append l q⟩
theorem ye.get:∀{vs:List PV} {xs:List V} (j:Nat) {v:PV},ye K cl B φ H vs xs->vs[j]?=AA v->∃x,xs[j]?=AA x/\yc K cl B φ H v x
 |[],xs,j,v,h,e=>by simp at e
 |w::vs,xs,0,v,h,e=>by
  erw[ye]at h;let⟨y,zs,rfl,r,l⟩:=h;simp at e;subst e;exact⟨y,rfl,r⟩
 |w::vs,xs,j+1,v,h,e=>by
  erw[ye]at h;let⟨y,zs,rfl,r,l⟩:=h;let⟨x,q1,q2⟩:=ye.get j l (by simpa using e);exact⟨x,by simpa using q1,q2⟩
theorem ye.drop:∀{vs:List PV} {xs:List V} (n:Nat),ye K cl B φ H vs xs->ye K cl B φ H (vs.drop n) (xs.drop n)
 |vs,xs,0,h=>by simpa using h
 |[],xs,n+1,h=>by erw[ye]at h;subst h;simp[ye]
 |v::vs,xs,n+1,h=>by
  erw[ye]at h;let⟨y,ys,rfl,_,l⟩:=h;simpa using ye.drop n l
theorem ye.take:∀{vs:List PV} {xs:List V} (n:Nat),ye K cl B φ H vs xs->ye K cl B φ H (vs.take n) (xs.take n)
 |vs,xs,0,h=>by simp[ye]
 |[],xs,n+1,h=>by erw[ye]at h;subst h;simp[ye]
 |v::vs,xs,n+1,h=>by
  erw[ye]at h;let⟨y,ys,rfl,r,l⟩:=h;erw[List.take_succ_cons,ye];exact⟨y,ys.take n,rfl,r,ye.take n l⟩
def zaB{f:AE->AE->GJ AE}{o:BOp}{C:Int->Int->Prop}{g:Int->Int->Int}(h:OpR X f (rI C λi j=>.int (g i j)))
  (hb:∀v w z,yt o v w=AA z->∃i j,v=.int i/\w=.int j/\C i j/\z=.int (g i j)):OpR X f (rT2 S X (yt o)):=by
 rintro π s σ H x y v u Q I rx ry ⟨B,φ,st,a,b,z,rs,ra,rb,e,q⟩
 let⟨i,j,rfl,rfl,hc,rfl⟩:=hb a b z e;erw[yc]at ra rb;subst ra rb;exact h π s σ H _ _ v u Q I rx ry ⟨i,j,rfl,rfl,hc,q _ H φ .rfl rs (by erw[yc])⟩
def ze0{f:AE->AE->GJ AE}{o:BOp}{g:Int->Int->Int}(h:OpR X f (rI0 λi j=>.int (g i j)))
  (hb:∀v w z,yt o v w=AA z->∃i j,v=.int i/\w=.int j/\z=.int (g i j)):OpR X f (rT2 S X (yt o)):=by
 rintro π s σ H x y v u Q I rx ry ⟨B,φ,st,a,b,z,rs,ra,rb,e,q⟩
 let⟨i,j,rfl,rfl,rfl⟩:=hb a b z e;erw[yc]at ra rb;subst ra rb;exact h π s σ H _ _ v u Q I rx ry ⟨i,j,rfl,rfl,q _ H φ .rfl rs (by erw[yc])⟩
def zfH(v w z:PV)(h:yt .sub v w=AA z):∃i j,v=.int i/\w=.int j/\z=.int (i-j):=by
 unfold yt at h;split at h<;>first|(cases h;done)|skip
 exact⟨_,_,rfl,rfl,(AW h).symm⟩
def zfX(v w z:PV)(h:yt .mul v w=AA z):∃i j,v=.int i/\w=.int j/\ybT i j/\z=.int (i*j):=by
 unfold yt at h;split at h<;>first|(cases h;done)|skip
 rename_i i j;erw[IC.binI]at h;split at h
 .rename_i c;refine⟨i,j,rfl,rfl,?_,(AW h).symm⟩;erw[yac,Bv,decide_eq_true_eq]at c;unfold ybT;rcases c with c|c
  .left;constructor<;>lia
  .right;constructor<;>lia
 .cases h
def zez(v w z:PV)(h:yt .fdiv v w=AA z):∃i j,v=.int i/\w=.int j/\ych i j/\z=.int (i/j):=by
 unfold yt at h;split at h<;>first|(cases h;done)|skip
 rename_i i j;erw[IC.binI]at h;split at h
 .rename_i c;exact⟨i,j,rfl,rfl,c,(AW h).symm⟩
 .cases h
def zft(v w z:PV)(h:yt .mod v w=AA z):∃i j,v=.int i/\w=.int j/\0<j/\z=.int (i%j):=by
 unfold yt at h;split at h<;>first|(cases h;done)|skip
 rename_i i j;erw[IC.binI]at h;split at h
 .rename_i c;exact⟨i,j,rfl,rfl,c,(AW h).symm⟩
 .cases h
def zgv(v w z:PV)(h:yt .pow v w=AA z):∃i j,v=.int i/\w=.int j/\ycO i j/\z=.int (i^j.toNat):=by
 unfold yt at h;split at h<;>first|(cases h;done)|skip
 rename_i i j;erw[IC.binI]at h;split at h
 .rename_i c;exact⟨i,j,rfl,rfl,⟨c.1,c.2.1,by have:=c.2.2;lia⟩,(AW h).symm⟩
 .cases h
def zf0(v w z:PV)(h:yt .shl v w=AA z):∃i j,v=.int i/\w=.int j/\ycO i j/\z=.int (i*2^j.toNat):=by
 unfold yt at h;split at h<;>first|(cases h;done)|skip
 rename_i i j;erw[IC.binI]at h;split at h
 .rename_i c;exact⟨i,j,rfl,rfl,⟨c.1,c.2.1,by have:=c.2.2;lia⟩,(AW h).symm⟩
 .cases h
def zir:OpR X (binaryOp .Sub) (rT2 S X (yt .sub)):=ze0 zix zfH
def zhk:OpR X (binaryOp .Mult) (rT2 S X (yt .mul)):=zaB zhz zfX
def zfM:OpR X (binaryOp .FloorDiv) (rT2 S X (yt .fdiv)):=zaB zeT zez
def zgV:OpR X (binaryOp .Mod) (rT2 S X (yt .mod)):=zaB ziw zft
def zhh:OpR X (binaryOp .Pow) (rT2 S X (yt .pow)):=zaB zhg zgv
def zid:OpR X (binaryOp .LShift) (rT2 S X (yt .shl)):=zaB zhU zf0
def ze:sizeMax=sizeLine:=by rw[Bs];rfl
def zfI:OpR X (binaryOp .Add) (λx y H Q=>∃a b ys,x=.ref a/\y=.ref b/\SqT X.K H a []/\SqT X.K H b ys/\Q (.ref b) H):=by
 intro π s σ H x y v u Q I rx ry h;let⟨a,b,ys,rfl,rfl,ha,hb,q⟩:=h
 cases rx
 cases ry
 let⟨its,r1,p1,_⟩:=I.tuple ha;let⟨its2,r2,p2,_⟩:=I.tuple hb;have:its=[]:=r1.nil_iff.mpr rfl;subst this;let⟨⟨cls,dd,data,sl⟩,ho,hc,n,hd⟩:=id p1;let⟨⟨cls2,dd2,data2,sl2⟩,ho2,hc2,n2,hd2⟩:=id p2;simp only at hc hd hc2 hd2;subst hc hd hc2 hd2;exact Ep ⟨_,ho,rfl⟩ ⟨_,ho2,rfl⟩ D5 EY CW CP (CL _ _)
   (tuple_addW0 a b [].toArray its2.toArray n n2 dd dd2 sl sl2 (by simp)) ⟨ho,ho2,⟨.ref b,H,I,rfl,q⟩⟩
def zhR:OpR X (binaryOp .Add) (rT2 S X (yt .add)):=by
 rintro π s σ H x y v u Q I rx ry ⟨B,φ,st,a,b,z,rs,ra,rb,e,q⟩
 unfold yt at e;split at e
 .rename_i i j;erw[yc]at ra rb;subst ra rb
  cases e
  exact zhd π s σ H _ _ v u Q I rx ry ⟨i,j,rfl,rfl,q _ H φ .rfl rs (by erw[yc])⟩
 .rename_i i k;erw[yc]at ra rb;subst ra rb
  cases e
  exact zcM π s σ H _ _ v u Q I rx ry ⟨i,k,rfl,rfl,q _ H φ .rfl rs (by erw[yc];cases k<;>rfl)⟩
 .rename_i i j;erw[yc]at ra rb;subst ra rb;dsimp only at e;split at e
  .rename_i c
   cases e
   exact zcv π s σ H _ _ v u Q I rx ry ⟨i,j,rfl,rfl,by rw[<-ze];exact c,q _ H φ .rfl rs (by erw[yc])⟩
  .cases e
 .rename_i k1 vs k2 ws;erw[yc]at ra rb;let⟨p,xs,rfl,r1,l1⟩:=ra;let⟨p',ys,rfl,r2,l2⟩:=rb;dsimp only at e;split at e
  .rename_i c
   cases e
   have n1:=l1.length;have n2:=l2.length;unfold ycR at q
   cases vs with
   |nil=>
    have:xs=[]:=by cases xs with|nil=>rfl|cons _ _=>simp at n1
    subst this;refine zfI π s σ H _ _ v u Q I rx ry ⟨p,p',ys,rfl,rfl,r1.sq,r2.sq,q _ H φ .rfl rs ?_⟩;erw[FH,if_true,yc];exact⟨p',ys,rfl,r2,l2⟩
   |cons v1 vr=>
    erw[Ex,Ee,if_false]at q;refine zfK π s σ H _ _ v u Q I rx ry ⟨p,p',xs,ys,rfl,rfl,r1.sq,r2.sq,?_,by rw[<-ze];lia,λz=>?_,λz t ht=>?_⟩
    .rintro rfl
     simp at n1
    .subst z;have:ws=[]:=by cases ws with|nil=>rfl|cons _ _=>simp at n2
     subst this;erw[FH,if_true]at q;refine q _ H φ .rfl rs ?_;erw[yc];exact⟨p,xs,rfl,r1,l1⟩
    .cases ws with
     |nil=>exact absurd (List.length_eq_zero_iff.mp n2.symm) z
     |cons w1 wr=>
      erw[Ex,Ee,if_false]at q;exact q _ _ φ (.upd ht) (rs.upd ht) (.tup_new ht rs (l1.append l2))
  .cases e
 .rename_i vs ws;erw[yc]at ra rb;let⟨p,xs,rfl,r1,l1⟩:=ra;let⟨p',ys,rfl,r2,l2⟩:=rb;dsimp only at e;split at e
  .rename_i c
   cases e
   have n1:=l1.length;have n2:=l2.length;exact ze3 π s σ H _ _ v u Q I rx ry ⟨p,p',xs,ys,rfl,rfl,r1.1,r2.1,by rw[<-ze];lia,λt ht=>q _ _ φ (.upd ht) (rs.upd ht) (.lst_new ht rs (l1.append l2))⟩
  .cases e
 .cases e
end
mutual
noncomputable def toD:PV->PyData
 |.non=>.none
 |.bl b=>.bool b
 |.int i=>.int i
 |.str x=>.str x
 |.tp _ xs=>.tuple (yaW xs)
 |.lst xs=>.list (yaW xs)
 |_=>.none
noncomputable def yaW:List PV->List PyData
 |[]=>[]
 |x::xs=>toD x::yaW xs
end
mutual
theorem zdD:∀(v:PV) (n:Nat),shd n v=AD->(toD v).canLay0=AD/\(toD v).depth<=n
 |.non,n,h=>by simp[toD,CD,C2]
 |.bl b,n,h=>by simp[toD,CD,C2]
 |.int i,n,h=>by simp[toD,CD,C2]
 |.str x,n,h=>by
  erw[shd]at h;erw[toD,CD,C2,DR,and_true];exact h
 |.tp _ xs,n,h=>by
  erw[shd,AG,decide_eq_true_eq]at h;let⟨q1,q2⟩:=zaX xs (n-1) h.2;erw[toD,CD,C2];exact⟨q1,by lia⟩
 |.lst xs,n,h=>by
  erw[shd,AG,decide_eq_true_eq]at h;let⟨q1,q2⟩:=zaX xs (n-1) h.2;erw[toD,CD,C2];exact⟨q1,by lia⟩
 |.loc k,n,h=>by simp[shd]at h
 |.fnc k,n,h=>by simp[shd]at h
 |.exn k,n,h=>by simp[shd]at h
 |.scr xs,n,h=>by simp[shd]at h
theorem zaX:∀(v:List PV) (n:Nat),ybb n v=AD->DW (yaW v)=AD/\Dr (yaW v)<=n
 |[],n,h=>by simp[yaW,DW,Dr]
 |v::vs,n,h=>by
  erw[ybb,AG]at h;let⟨q1,q2⟩:=zdD v n h.1;let⟨q3,q4⟩:=zaX vs n h.2;erw[yaW,DW,Dr,AG];exact⟨⟨q1,q3⟩,by lia⟩
end
def zaH{v:PV}(h:shp v=AD):Ft (toD v)=true:=by
 let⟨q1,q2⟩:=zdD v 60 h;unfold Ft;rw[q1,BJ,decide_eq_true_eq];lia
mutual
theorem zc4:∀(v w:PV) (n m:Nat),shd n v=AD->shd m w=AD->BG (toD v) (toD w)=peq v w
 |.non,w,n,m,h,q=>by cases w<;>simp_all[toD,BG,peq,shd]
 |.bl b,w,n,m,h,q=>by cases w<;>simp_all[toD,BG,peq,shd,bi]
 |.int i,w,n,m,h,q=>by cases w<;>simp_all[toD,BG,peq,shd,bi]
 |.str x,w,n,m,h,q=>by cases w<;>simp_all[toD,BG,peq,shd]
 |.tp _ xs,.tp _ ys,n,m,h,q=>by
  erw[shd,AG]at h q;erw[toD,BG,peq];exact za6 xs ys (n-1) (m-1) h.2 q.2
 |.lst xs,.lst ys,n,m,h,q=>by
  erw[shd,AG]at h q;erw[toD,BG,peq];exact za6 xs ys (n-1) (m-1) h.2 q.2
 |.tp _ xs,.non,n,m,h,q=>by simp[toD,BG,peq]
 |.tp _ xs,.bl _,n,m,h,q=>by simp[toD,BG,peq]
 |.tp _ xs,.int _,n,m,h,q=>by simp[toD,BG,peq]
 |.tp _ xs,.str _,n,m,h,q=>by simp[toD,BG,peq]
 |.tp _ xs,.lst _,n,m,h,q=>by simp[toD,BG,peq]
 |.lst xs,.non,n,m,h,q=>by simp[toD,BG,peq]
 |.lst xs,.bl _,n,m,h,q=>by simp[toD,BG,peq]
 |.lst xs,.int _,n,m,h,q=>by simp[toD,BG,peq]
 |.lst xs,.str _,n,m,h,q=>by simp[toD,BG,peq]
 |.lst xs,.tp _ _,n,m,h,q=>by simp[toD,BG,peq]
 |.loc k,w,n,m,h,q=>by simp[shd]at h
 |.fnc k,w,n,m,h,q=>by simp[shd]at h
 |.exn k,w,n,m,h,q=>by simp[shd]at h
 |.scr k,w,n,m,h,q=>by simp[shd]at h
 |v,.loc k,n,m,h,q=>by simp[shd]at q
 |v,.fnc k,n,m,h,q=>by simp[shd]at q
 |v,.exn k,n,m,h,q=>by simp[shd]at q
 |v,.scr k,n,m,h,q=>by simp[shd]at q
theorem za6:∀(v w:List PV) (n m:Nat),ybb n v=AD->ybb m w=AD->Cg (yaW v) (yaW w)=yaO v w
 |[],[],n,m,h,q=>by simp[yaW,Cg,yaO]
 |[],y::ys,n,m,h,q=>by simp[yaW,Cg,yaO]
 |x::xs,[],n,m,h,q=>by simp[yaW,Cg,yaO]
 |x::xs,y::ys,n,m,h,q=>by
  erw[ybb,AG]at h q;erw[yaW,Cg,yaO];rw[zc4 x y n m h.1 q.1,za6 xs ys n m h.2 q.2]
end
section
variable {S:Se}{X:Cx}{σ:St}{B:AH->Prop}{φ φ1:Ph}{H H1:Hp}{st:SO}{π:List (AH×B1)}{s:AI}
mutual
theorem za1(I:Inv X π σ H s):∀(v:PV) (n:Nat) (x:V) (u:AE),shd n v=AD->yc X.K S.cl B φ H v x->RelV x u->∃as,Reads s.heap u (toD v) as
 |.non,n,x,u,h,r,q=>by
  erw[yc]at r;subst r;cases (show u=BW from q);exact⟨_,.none⟩
 |.bl b,n,x,u,h,r,q=>by
  erw[yc]at r;subst r;cases (show u=Cu b from q);exact⟨_,.bool b⟩
 |.int i,n,x,u,h,r,q=>by
  erw[yc]at r;subst r;let⟨t,rfl⟩:=q;exact⟨_,.int i t⟩
 |.str y,n,x,u,h,r,q=>by
  erw[yc]at r;subst r;let⟨t,rfl⟩:=q;exact⟨_,.str y t⟩
 |.tp _ vs,n,x,u,h,r,q=>by
  erw[yc]at r;let⟨a,xs,rfl,rt,l⟩:=r
  cases (show u=Af a from q)
  erw[shd,AG]at h;let⟨its,rv,⟨o,g,c,k,d⟩,_⟩:=I.tuple rt.sq;let⟨as,z⟩:=zaC I vs (n-1) xs its h.2 l rv;exact⟨as,.tuple g c d (by simpa using z)⟩
 |.lst vs,n,x,u,h,r,q=>by
  erw[yc]at r;let⟨a,xs,rfl,rt,l⟩:=r
  cases (show u=Af a from q)
  erw[shd,AG]at h;let⟨its,rv,⟨o,k,g,c,_,d⟩,_⟩:=I.list (rt.sq (K:=X.K));let⟨as,z⟩:=zaC I vs (n-1) xs its h.2 l rv;exact⟨_,.list g c d (by simpa using z)⟩
 |.loc k,n,x,u,h,r,q=>by simp[shd]at h
 |.fnc k,n,x,u,h,r,q=>by simp[shd]at h
 |.exn k,n,x,u,h,r,q=>by simp[shd]at h
 |.scr k,n,x,u,h,r,q=>by simp[shd]at h
theorem zaC(I:Inv X π σ H s):∀(v:List PV) (n:Nat) (x:List V) (u:List AE),ybb n v=AD->ye X.K S.cl B φ H v x->Vals x u->∃as,ReadsAll s.heap u (yaW v) as
 |[],n,x,u,h,r,q=>by
  erw[ye]at r;subst r;cases q;exact⟨_,.nil⟩
 |v::vs,n,x,u,h,r,q=>by
  erw[ye]at r;let⟨y,ys,rfl,rv,l⟩:=r;erw[ybb,AG]at h
  cases q with
  |cons q1 q2=>
   let⟨as,z1⟩:=za1 I v n y _ h.1 rv q1;let⟨bs,z2⟩:=zaC I vs n ys _ h.2 l q2;exact⟨_,.cons z1 z2⟩
end
def zi9(hu:X.A.units+64<cLine):OpR X (compareOp .Eq) (rT2 S X (yw .eq)):=by
 rintro π s σ H x y v u Q I rx ry ⟨B,φ,st,a,b,z,rs,ra,rb,e,q⟩
 erw[yw]at e;split at e
 .rename_i c;rw[AG]at c
  cases e
  let⟨as,z1⟩:=za1 (S:=S) I a 60 x v c.1 ra rx;let⟨bs,z2⟩:=za1 (S:=S) I b 60 y u c.2 rb ry;refine eq_dataH z1 z2 (zaH c.1) (zaH c.2) hu ⟨.bl _,H,I,rfl,?_⟩;rw[zc4 a b 60 60 c.1 c.2];exact q _ H φ .rfl rs (by erw[yc])
 .cases e
def zcK{f:AE->AE->GJ AE}{o:COp}{g:Int->Int->Bool}(h:OpR X f (rI0 λi j=>.bl (g i j)))
  (hb:∀v w z,yw o v w=AA z->∃i j,v=.int i/\w=.int j/\z=.bl (g i j)):OpR X f (rT2 S X (yw o)):=by
 rintro π s σ H x y v u Q I rx ry ⟨B,φ,st,a,b,z,rs,ra,rb,e,q⟩
 let⟨i,j,rfl,rfl,rfl⟩:=hb a b z e;erw[yc]at ra rb;subst ra rb;exact h π s σ H _ _ v u Q I rx ry ⟨i,j,rfl,rfl,q _ H φ .rfl rs (by erw[yc])⟩
def zdj:OpR X (compareOp .LtE) (λx y H Q=>∃i j,x=.str i/\y=.str j/\Q (.bl (!decide (j.cps.toList<i.cps.toList))) H):=by
 intro π s σ H x y v u Q I rx ry h;let⟨i,j,rfl,rfl,q⟩:=h;let⟨t,rfl⟩:=rx;let⟨t',rfl⟩:=ry;exact PySem.P.le_str (zb7 I q rfl)
def ziZ:OpR X (compareOp .Lt) (rT2 S X (yw .lt)):=by
 rintro π s σ H x y v u Q I rx ry ⟨B,φ,st,a,b,z,rs,ra,rb,e,q⟩
 erw[yw]at e;split at e
 .rename_i i j;erw[yc]at ra rb;subst ra rb
  cases e
  exact ziO π s σ H _ _ v u Q I rx ry ⟨i,j,rfl,rfl,q _ H φ .rfl rs (by erw[yc])⟩
 .rename_i i j;erw[yc]at ra rb;subst ra rb
  cases e
  exact zdO π s σ H _ _ v u Q I rx ry ⟨i,j,rfl,rfl,q _ H φ .rfl rs (by erw[yc])⟩
 .cases e
def ziR:OpR X (compareOp .LtE) (rT2 S X (yw .le)):=by
 rintro π s σ H x y v u Q I rx ry ⟨B,φ,st,a,b,z,rs,ra,rb,e,q⟩
 erw[yw]at e;split at e
 .rename_i i j;erw[yc]at ra rb;subst ra rb
  cases e
  exact ziY π s σ H _ _ v u Q I rx ry ⟨i,j,rfl,rfl,q _ H φ .rfl rs (by erw[yc])⟩
 .rename_i i j;erw[yc]at ra rb;subst ra rb
  cases e
  exact zdj π s σ H _ _ v u Q I rx ry ⟨i,j,rfl,rfl,q _ H φ .rfl rs (by erw[yc])⟩
 .cases e
def zbX{o:COp}{g:Int->Int->Bool}(ho:∀v w,yw o v w=match v,w with
   |.int i,.int j=>ya2 o i j
   |.str a,.str b=>yc0 o a b
   |_,_=>AC) (hs:∀a b,yc0 o a b=AC) (hg:∀i j,ya2 o i j=AA (.bl (g i j))) (v w z:PV) (h:yw o v w=AA z):∃i j,v=.int i/\w=.int j/\z=.bl (g i j):=by
 rw[ho]at h;split at h
 .rename_i i j;rw[hg]at h;exact⟨i,j,rfl,rfl,(AW h).symm⟩
 .rw[hs]at h;cases h
 .cases h
def zi5:OpR X (compareOp .Gt) (rT2 S X (yw .gt)):=zcK ziW (zbX (λ_ _=>rfl) (λ_ _=>rfl) λ_ _=>rfl)
def ziN:OpR X (compareOp .GtE) (rT2 S X (yw .ge)):=zcK zi7 (zbX (λ_ _=>rfl) (λ_ _=>rfl) λ_ _=>rfl)
theorem yc.isNon{K:AB}{cl:Nat->AH}{v:PV}{x:V}(r:yc K cl B φ H v x):decide (x=.non)=IC.isNon v:=by
 cases v with
 |loc n=>erw[yc]at r;let⟨_,a,rfl,_⟩:=r;rfl
 |non=>erw[yc]at r;subst r;rfl
 |bl b=>erw[yc]at r;subst r;rfl
 |int b=>erw[yc]at r;subst r;rfl
 |str b=>erw[yc]at r;subst r;rfl
 |tp k vs=>erw[yc]at r;let⟨a,xs,rfl,_⟩:=r;rfl
 |lst vs=>erw[yc]at r;let⟨a,xs,rfl,_⟩:=r;rfl
 |fnc j=>erw[yc]at r;subst r;rfl
 |exn vs=>erw[yc]at r;let⟨a,rfl,_⟩:=r;rfl
 |scr vs=>erw[yc]at r;let⟨a,xs,rfl,_⟩:=r;rfl
theorem yc.flat{K:AB}{cl:Nat->AH}{v:PV}{x:V}(r:yc K cl B φ H v x)(h:IC.flat v=AD):yab x=AD/\∀(w:PV) (y:V),IC.flat w=AD->yc K cl B φ H w y->eqV x y=peq v w:=by
 cases v with
 |non=>
  erw[yc]at r;subst r;refine⟨rfl,λw y hw rw=>?_⟩
  cases w<;>first|(simp[IC.flat]at hw;done)|(erw[yc]at rw;subst rw;simp[eqV,peq,bi])
 |bl b=>
  erw[yc]at r;subst r;refine⟨rfl,λw y hw rw=>?_⟩
  cases w<;>first|(simp[IC.flat]at hw;done)|(erw[yc]at rw;subst rw;simp[eqV,peq,bi])
 |int b=>
  erw[yc]at r;subst r;refine⟨rfl,λw y hw rw=>?_⟩
  cases w<;>first|(simp[IC.flat]at hw;done)|(erw[yc]at rw;subst rw;simp[eqV,peq,bi])
 |str b=>
  erw[yc]at r;subst r;refine⟨rfl,λw y hw rw=>?_⟩
  cases w<;>first|(simp[IC.flat]at hw;done)|(erw[yc]at rw;subst rw;simp[eqV,peq,bi])
 |_=>simp[IC.flat]at h
def zq{K:AB}{cl:Nat->AH}{v:PV}{x:V}(r:yc K cl B φ H v x)(h:IC.flat v=AD):∀{vs:List PV} {xs:List V},ye K cl B φ H vs xs->vs.all IC.flat=AD->xs.all yab=AD/\inV x xs=inL v vs
 |[],xs,l,_=>by erw[ye]at l;subst l;exact⟨rfl,rfl⟩
 |w::vs,xs,l,f=>by
  erw[ye]at l;let⟨y,ys,rfl,rw,l⟩:=l;rw[Ai,AG]at f;let⟨q1,q2⟩:=zq r h l f.2;let⟨q3,q4⟩:=rw.flat f.1;refine⟨by rw[Ai,q3,q1];rfl,?_⟩;unfold inV at q2 ⊢;rw[BM,q2,q4 v x h r];rfl
end
def zcY(a b:AM):(!(CO b a 0 b.length 1).isEmpty)=inS a b:=by
 rw[Ds,StrLaws.found_iff];unfold inS;rw[Ca];constructor
 .rintro⟨i,h1,h2⟩
  exact⟨i,by rw[FV];lia,by rw[AG,decide_eq_true_eq];exact⟨h1,h2⟩⟩
 .rintro⟨i,_,h⟩
  rw[AG,decide_eq_true_eq]at h;exact⟨i,h.1,h.2⟩
section
variable {S:Se}{X:Cx}{σ:St}{B:AH->Prop}{φ φ1:Ph}{H H1:Hp}{st:SO}
def zi8:OpR X (compareOp .In) (rT2 S X (yw .isin)):=by
 rintro π s σ H x y v u Q I rx ry ⟨B,φ,st,a,b,z,rs,ra,rb,e,q⟩
 erw[yw]at e;split at e
 .rename_i i j;erw[yc]at ra rb;subst ra rb
  cases e
  exact zcO π s σ H _ _ v u Q I rx ry ⟨i,j,rfl,rfl,by rw[zcY];exact q _ H φ .rfl rs (by erw[yc])⟩
 .rename_i l;split at e
  .rename_i c;rw[AG]at c
   cases e
   erw[yc]at rb;let⟨p,xs,rfl,r,l'⟩:=rb;let⟨q1,q2⟩:=zq ra c.1 l' c.2;exact zbi π s σ H _ _ v u Q I rx ry ⟨p,xs,rfl,.inr r.sq,(ra.flat c.1).1,q1,q _ H φ .rfl rs (by erw[yc];rw[<-q2];rfl)⟩
  .cases e
 .rename_i l;split at e
  .rename_i c;rw[AG]at c
   cases e
   erw[yc]at rb;let⟨p,xs,rfl,r,l'⟩:=rb;let⟨q1,q2⟩:=zq ra c.1 l' c.2;exact zbi π s σ H _ _ v u Q I rx ry ⟨p,xs,rfl,.inl r.sq,(ra.flat c.1).1,q1,q _ H φ .rfl rs (by erw[yc];rw[<-q2];rfl)⟩
  .cases e
 .cases e
def zeL:OpR X (compareOp .NotIn) (rT2 S X (yw .notin)):=by
 rintro π s σ H x y v u Q I rx ry ⟨B,φ,st,a,b,z,rs,ra,rb,e,q⟩
 erw[yw]at e;split at e
 .rename_i i j;erw[yc]at ra rb;subst ra rb
  cases e
  exact zbm π s σ H _ _ v u Q I rx ry ⟨i,j,rfl,rfl,by rw[zcY];exact q _ H φ .rfl rs (by erw[yc])⟩
 .rename_i l;split at e
  .rename_i c;rw[AG]at c
   cases e
   erw[yc]at rb;let⟨p,xs,rfl,r,l'⟩:=rb;let⟨q1,q2⟩:=zq ra c.1 l' c.2;exact zab π s σ H _ _ v u Q I rx ry ⟨p,xs,rfl,.inr r.sq,(ra.flat c.1).1,q1,q _ H φ .rfl rs (by erw[yc];rw[<-q2];rfl)⟩
  .cases e
 .rename_i l;split at e
  .rename_i c;rw[AG]at c
   cases e
   erw[yc]at rb;let⟨p,xs,rfl,r,l'⟩:=rb;let⟨q1,q2⟩:=zq ra c.1 l' c.2;exact zab π s σ H _ _ v u Q I rx ry ⟨p,xs,rfl,.inl r.sq,(ra.flat c.1).1,q1,q _ H φ .rfl rs (by erw[yc];rw[<-q2];rfl)⟩
  .cases e
 .cases e
theorem ye.empty{K:AB}{cl:Nat->AH}{vs:List PV}{xs:List V}(l:ye K cl B φ H vs xs):vs.isEmpty=xs.isEmpty:=by
 have:=l.length
 cases vs<;>cases xs<;>simp_all
def zgC{K:AB}{cl:Nat->AH}{v:PV}{x:V}{k:Bool}(rs:yp K cl B φ H st)(r:yc K cl B φ H v x)(h:yao st v=AA k):ydk K x H k:=by
 cases v with
 |non=>erw[yc]at r;subst r;cases h;rfl
 |bl b=>erw[yc]at r;subst r;cases h;rfl
 |int b=>erw[yc]at r;subst r;cases h;rfl
 |str b=>
  erw[yc]at r;subst r;erw[yao]at h;split at h
  .rename_i c
   cases h
   exact⟨by rw[<-ze];exact c,rfl⟩
  .cases h
 |tp k vs=>
  erw[yc]at r;let⟨a,xs,rfl,rt,l⟩:=r
  cases h
  exact .inr (.inl ⟨xs,rt.sq,by rw[l.empty]⟩)
 |lst vs=>
  erw[yc]at r;let⟨a,xs,rfl,rt,l⟩:=r
  cases h
  exact .inl ⟨xs,rt.sq,by rw[l.empty]⟩
 |loc n=>
  erw[yc]at r;let⟨hn,a,rfl,ha⟩:=r;erw[yao]at h;split at h
  .rename_i vs hv
   cases h
   let⟨b,hb⟩:=rs.liv n _ hv (by intro z;cases z);obtain rfl:=ha b hb;let⟨o,ho,ro⟩:=rs.obj n b hb;rw[hv]at ho;cases ho;let⟨xs,hx,l⟩:=ro;exact .inl ⟨xs,.of hx,by rw[l.empty]⟩
  .cases h
 |fnc c=>cases h
 |exn c=>cases h
 |scr c=>cases h
end
theorem R.bind_assoc{α β γ:Type}{r:R α}{k:α->SO->R β}{l:β->SO->R γ}:(r.bind k).bind l=r.bind λa s=>(k a s).bind l:=by
 cases r<;>rfl
section
variable {S:Se}{X:Cx}{σ:St}{B:AH->Prop}{φ φ1:Ph}{H H1:Hp}{st:SO}{ρ:IC.Env}{pos:Ba}{a b c d:AO}{ca cb cc:Ce}{es:List AO}{ces:Ces}
def zaZ{o:COp}{v w z:PV}(h:yw o v w=AA z):∃k,z=.bl k:=by
 cases o<;>erw[yw]at h
 all_goals (repeat' split at h)<;>first|(cases h;done)|(cases h;exact⟨_,rfl⟩)|skip
 all_goals (erw[ya2]at h;cases h;exact⟨_,rfl⟩)
def zhq{op:EX}{o:COp}(ho:OpR X (compareOp op) (rT2 S X (yw o)))(ha:PE X a (tE S X ca))(hb:PE X b (tE S X cb))(hm:behindInMarks op b=AF):PT X (.Compare a [op] [b] pos) (tTs S X (.cmp o ca cb)):=
 (zfP ho ha hb hm).imp λσ H Q ⟨B,φ,st,ρ,rs,re,h⟩=>by
  erw[ev,yaC,R.bind_assoc]at h;refine tE.bind rs re h λx H1 v st1 φ1 s1 rs1 re1 rv h1=>tE.bind rs1 re1 h1 λy H2 w st2 φ2 s2 rs2 re2 rw h2=>?_
  cases e:yw o v w with
  |none=>rw[e]at h2;exact h2.elim
  |some z=>
   let⟨k,rfl⟩:=zaZ e;rw[e]at h2;refine⟨B,φ2,st2,v,w,.bl k,rs2,rv.step s2,rw,e,λz' H' φ' s' rs' rz=>?_⟩;erw[yc]at rz;exact⟨k,rz,h2 k H' φ' s' rs' rfl⟩
def zhi(ha:PE X a (tE S X ca))(he:∀whole,isTrue a X.env whole=(do let v <-whole;standAt a.pos;holding [v] (truthy v)):=by intro _;rfl):PT X a (tTs S X ca):=
 (zek ha he).imp λσ H Q ⟨B,φ,st,ρ,rs,re,h⟩=>by
  erw[yaC]at h;refine tE.bind rs re h λx H1 v st1 φ1 s1 rs1 re1 rv h1=>?_
  cases e:yao st1 v with
  |none=>rw[e]at h1;exact h1.elim
  |some k=>
   rw[e]at h1;exact⟨k,zgC rs1 rv e,h1.ok rs1 rfl⟩
theorem tTs.bind{γ δ:Type}{Fq:Ph->Hp->γ->δ->Prop}{k:Bool->SO->R γ}{Q:δ->Hp->Prop}{P:Bool->Hp->Prop}(rs:yp X.K S.cl B φ H st)(re:yu X.K S.cl B φ H ρ σ)(h:Run S X σ B φ H Fq ((yaC (ev S.call ρ st ca)).bind k) Q)
  (n:∀b H1 st1 φ1,Step φ H φ1 H1->yp X.K S.cl B φ1 H1 st1->yu X.K S.cl B φ1 H1 ρ σ->Run S X σ B φ1 H1 Fq (k b st1) Q->P b H1):tTs S X ca σ H P:=
 ⟨B,φ,st,ρ,rs,re,(Run.bind h).mono λx H1 ⟨v,st1,φ1,s,rs1,rv,h1⟩=>by
  subst rv;exact n v H1 st1 φ1 s rs1 (re.step s) h1⟩
def zbI(r:R PV)(f:Bool->SO->R PV):yaC (r.bind λx st1=>onBl x λb=>f b st1)=r.bind λx st1=>onBl x λb=>yaC (f b st1):=by
 unfold yaC;rw[R.bind_assoc]
 congr 1
 funext x st1
 cases x<;>rfl
theorem Run.bl_tru{r:R PV}{k:Bool->SO->R Bool}{Q:Bool->Hp->Prop}(h:Run S X σ B φ H RB (r.bind λx st1=>onBl x λb=>k b st1) Q):Run S X σ B φ H RB ((yaC r).bind k) Q:=by
 cases r with
 |bad=>exact h
 |exc c s=>exact h
 |ok v s=>
  cases v with
  |bl b=>exact h
  |_=>exact h.elim
def zg7(ha:PT X a (tTs S X ca)):PT X (.UnaryOp .Not a pos) (tTs S X (.not ca)):=
 (zhl ha).imp λσ H Q ⟨B,φ,st,ρ,rs,re,h⟩=>by
  erw[ev]at h;rw[zbI _ λk st1=>.ok (.bl (!k)) st1]at h;exact tTs.bind rs re (Run.bl_tru (k:=λb st1=>.ok (!b) st1) h) λb H1 st1 φ1 s1 rs1 re1 h1=>h1.ok rs1 rfl
variable {rest:List AO}
def zfW(ha:PT X a (tTs S X ca)):PW X (.BoolOp .And [a] pos) (tTs S X ca):=zfQ ha
def zgZ(ha:PT X a (tTs S X ca)):PW X (.BoolOp .Or [a] pos) (tTs S X ca):=zhp ha
def zg0(ha:PT X a (tTs S X ca))(hb:PW X (.BoolOp .And (b::rest) pos) (tTs S X cb)):PW X (.BoolOp .And (a::b::rest) pos) (tTs S X (.and ca cb)):=
 (zgS ha hb).imp λσ H Q ⟨B,φ,st,ρ,rs,re,h⟩=>by
  erw[ev]at h;rw[zbI _ λk st1=>cond k (ev S.call ρ st1 cb) (.ok (.bl AF) st1)]at h;refine tTs.bind rs re (Run.bl_tru h) λk H1 st1 φ1 s1 rs1 re1 h1=>?_
  cases k with
  |false=>exact h1.ok rs1 rfl
  |true=>exact⟨B,φ1,st1,ρ,rs1,re1,h1⟩
def zi0(ha:PT X a (tTs S X ca))(hb:PW X (.BoolOp .Or (b::rest) pos) (tTs S X cb)):PW X (.BoolOp .Or (a::b::rest) pos) (tTs S X (.or ca cb)):=
 (ziU ha hb).imp λσ H Q ⟨B,φ,st,ρ,rs,re,h⟩=>by
  erw[ev]at h;rw[zbI _ λk st1=>cond k (.ok (.bl AD) st1) (ev S.call ρ st1 cb)]at h;refine tTs.bind rs re (Run.bl_tru h) λk H1 st1 φ1 s1 rs1 re1 h1=>?_
  cases k with
  |true=>exact h1.ok rs1 rfl
  |false=>exact⟨B,φ1,st1,ρ,rs1,re1,h1⟩
def ze4{op:Fu}(h:PE X a (tE S X ca)):PE X (.BoolOp op [a] pos) (tE S X ca):=zg5 h
def zfl(ha:PE X a (tE S X ca))(hb:PE X (.BoolOp .And (b::rest) pos) (tE S X cb)):PE X (.BoolOp .And (a::b::rest) pos) (tE S X (.and ca cb)):=
 (zg3 ha hb).imp λσ H Q ⟨B,φ,st,ρ,rs,re,h⟩=>by
  erw[ev]at h;refine tE.bind rs re h λx H1 v st1 φ1 s1 rs1 re1 rv h1=>?_
  cases v with
  |bl k=>
   erw[yc]at rv;refine⟨k,rv,?_⟩
   cases k with
   |true=>exact⟨B,φ1,st1,ρ,rs1,re1,h1⟩
   |false=>exact h1.ok rs1 (by erw[yc])
  |_=>exact h1.elim
def zgQ(ha:PE X a (tE S X ca))(hb:PE X (.BoolOp .Or (b::rest) pos) (tE S X cb)):PE X (.BoolOp .Or (a::b::rest) pos) (tE S X (.or ca cb)):=
 (ziV ha hb).imp λσ H Q ⟨B,φ,st,ρ,rs,re,h⟩=>by
  erw[ev]at h;refine tE.bind rs re h λx H1 v st1 φ1 s1 rs1 re1 rv h1=>?_
  cases v with
  |bl k=>
   erw[yc]at rv;refine⟨k,rv,?_⟩
   cases k with
   |false=>exact⟨B,φ1,st1,ρ,rs1,re1,h1⟩
   |true=>exact h1.ok rs1 (by erw[yc])
  |_=>exact h1.elim
def zht(ha:PE X a (tE S X ca)):PE X (.UnaryOp .Not a pos) (tE S X (.not ca)):=
 (zit ha).imp λσ H Q ⟨B,φ,st,ρ,rs,re,h⟩=>by
  erw[ev]at h;refine tE.bind rs re h λx H1 v st1 φ1 s1 rs1 re1 rv h1=>?_
  cases v with
  |bl k=>
   erw[yc]at rv;exact⟨k,rv,h1.ok rs1 (by erw[yc])⟩
  |_=>exact h1.elim
def zfi(ha:PE X a (tE S X ca)):PE X (.UnaryOp .USub a pos) (tE S X (.neg ca)):=
 (zi6 zhC ha).imp λσ H Q ⟨B,φ,st,ρ,rs,re,h⟩=>by
  erw[ev]at h;refine tE.bind rs re h λx H1 v st1 φ1 s1 rs1 re1 rv h1=>?_;split at h1
  .simp only[yc]at rv;exact⟨_,rv,h1.ok rs1 (by erw[yc])⟩
  .exact h1.elim
def ziq(hc:PT X c (tTs S X cc))(ha:PE X a (tE S X ca))(hb:PE X b (tE S X cb)):PE X (.IfExp c a b pos) (tE S X (.ite cc ca cb)):=
 (zd2 hc ha hb).imp λσ H Q ⟨B,φ,st,ρ,rs,re,h⟩=>by
  erw[ev]at h;have e:((ev S.call ρ st cc).bind λx st1=>onO (yao st1 x) λk=>cond k (ev S.call ρ st1 ca) (ev S.call ρ st1 cb))=(yaC (ev S.call ρ st cc)).bind λk st1=>cond k (ev S.call ρ st1 ca) (ev S.call ρ st1 cb):=by
   unfold yaC;rw[R.bind_assoc]
   congr 1
   funext x st1
   cases yao st1 x<;>rfl
  rw[e]at h;refine tTs.bind rs re h λk H1 st1 φ1 s1 rs1 re1 h1=>?_
  cases k with
  |true=>exact⟨B,φ1,st1,ρ,rs1,re1,h1⟩
  |false=>exact⟨B,φ1,st1,ρ,rs1,re1,h1⟩
def zaK:PA X [] (tAs S X .nil):=zcZ.imp λσ H Q ⟨B,φ,st,ρ,rs,re,h⟩=>by
 erw[evs]at h;exact h.ok rs (by erw[ye])
def zE(ha:PE X a (tE S X ca))(hr:PA X es (tAs S X ces))(hs:starEach (a::es) X.env=(AF,eval a X.env)::starEach es X.env:=by rfl):PA X (a::es) (tAs S X (.cons ca ces)):=
 (zJ ha hr hs).imp λσ H Q ⟨B,φ,st,ρ,rs,re,h⟩=>by
  erw[evs]at h;refine tE.bind rs re h λx H1 v st1 φ1 s1 rs1 re1 rv h1=>tAs.bind rs1 re1 h1 λxs H2 vs st2 φ2 s2 rs2 re2 rvs h2=>?_;refine h2.ok rs2 ?_;erw[ye];exact⟨x,xs,rfl,rv.step s2,rvs⟩
def zhu{k:Nat}(h:PA X es (tAs S X ces)):PE X (.Tuple es k pos) (tE S X (.tup ces)):=
 (zhP h).imp λσ H Q ⟨B,φ,st,ρ,rs,re,h⟩=>by
  erw[ev]at h;refine tAs.bind rs re h λxs H1 vs st1 φ1 s1 rs1 re1 rv h1=>?_;split at h1
  .rename_i c;refine⟨by rw[<-ze,<-rv.length];exact c,λp hp=>h1 _ _ φ1 (.upd hp) (rs1.upd hp) (.tup_new hp rs1 rv)⟩
  .exact h1.elim
theorem Step.push{p:AH}{o:HO}(hp:H p=AC):Step φ H (φ++[AA p]) (L2.upd H p o):=by
 refine⟨λb u n e=>by rw[za (zb e hp)];exact e,by simp,λn a hn e=>?_,λb h=>?_⟩
 .rw[A5 hn]at e;exact e
 .rw[BY]at h;rcases h with h|h
  .exact .inl h
  .have:b=p:=by simpa using h
   subst this;exact .inr hp
theorem yp.push{K:AB}{cl:Nat->AH}{p:AH}{u:HO}{o:Ob}(rs:yp K cl B φ H st)(hp:H p=AC)(hb:¬B p)(ho:ybu K cl B (φ++[AA p]) (L2.upd H p u) o p):yp K cl B (φ++[AA p]) (L2.upd H p u) (st++[o]):=by
 have s:Step φ H (φ++[AA p]) (L2.upd H p u):=.push hp;have np:AA p∉φ:=λz=>by
  let⟨w,e⟩:=rs.there z;rw[hp]at e;cases e
 have hl:φ.length=st.length:=rs.len;refine⟨by simp[hl],λm n a e1 e2=>?_,λn a e=>?_,λn o' e ho'=>?_,λa h=>?_,λa h=>?_⟩
 .by_cases hm:m<φ.length
  .rw[A5 hm]at e1
   by_cases hn:n<φ.length
   .rw[A5 hn]at e2;exact rs.inj m n a e1 e2
   .rw[Aa ∅]at e2;have:a=p:=by
     cases q:n-φ.length with
     |zero=>rw[q]at e2;simpa using e2.symm
     |succ k=>rw[q]at e2;simp at e2
    subst this;exact absurd (AV e1) np
  .rw[Aa ∅]at e1;have:m-φ.length=0/\a=p:=by
    cases q:m-φ.length with
    |zero=>rw[q]at e1;exact⟨rfl,by simpa using e1.symm⟩
    |succ k=>rw[q]at e1;simp at e1
   let⟨q1,rfl⟩:=this
   by_cases hn:n<φ.length
   .rw[A5 hn]at e2;exact absurd (AV e2) np
   .rw[Aa ∅]at e2;have:n-φ.length=0:=by
     cases q:n-φ.length with
     |zero=>rfl
     |succ k=>rw[q]at e2;simp at e2
    lia
 .by_cases hn:n<φ.length
  .rw[A5 hn]at e;let⟨o',q,r⟩:=rs.obj n a e;refine⟨o',by rw[A5 ∅];exact q,r.step s ?_⟩;rw[za]
   rintro rfl
   exact np (AV e)
  .rw[Aa ∅]at e;have:n-φ.length=0/\a=p:=by
    cases q:n-φ.length with
    |zero=>rw[q]at e;exact⟨rfl,by simpa using e.symm⟩
    |succ k=>rw[q]at e;simp at e
   let⟨q1,rfl⟩:=this;refine⟨o,?_,ho⟩;rw[Aa ∅];have:n-st.length=0:=by lia
   rw[this];rfl
 .by_cases hn:n<φ.length
  .rw[A5 ∅]at e;let⟨a,q⟩:=rs.liv n o' e ho';exact⟨a,by rw[A5 hn];exact q⟩
  .rw[Aa ∅]at e;have:n-st.length=0:=by
    cases q:n-st.length with
    |zero=>rfl
    |succ k=>rw[q]at e;simp at e
   refine⟨p,?_⟩;rw[Aa ∅];have:n-φ.length=0:=by lia
   rw[this];rfl
 .rw[BY]at h;rcases h with h|h
  .exact rs.nb a h
  .have:a=p:=by simpa using h
   subst this;exact hb
 .let⟨w,e⟩:=rs.dom a h;exact⟨w,by rw[za (zb e hp)];exact e⟩
theorem yp.nB{K:AB}{cl:Nat->AH}{p:AH}(rs:yp K cl B φ H st)(hp:H p=AC):¬B p:=λz=>by
 let⟨o,e⟩:=rs.dom p z;rw[hp]at e;cases e
theorem yc.loc_new{K:AB}{cl:Nat->AH}{p:AH}(rs:yp K cl B φ H st):yc K cl B (φ++[AA p]) H1 (.loc st.length) (.ref p):=by
 erw[yc];have hl:=rs.len;refine⟨by simp[hl],p,rfl,λb e=>?_⟩;rw[Aa ∅]at e;have:st.length-φ.length=0:=by lia
 rw[this]at e;simpa using e.symm
def zgI(h:PA X es (tAs S X ces)):PE X (.List es pos) (tE S X (.newl ces)):=
 (zfd h).imp λσ H Q ⟨B,φ,st,ρ,rs,re,h⟩=>by
  erw[ev]at h;refine tAs.bind rs re h λxs H1 vs st1 φ1 s1 rs1 re1 rv h1=>?_;split at h1
  .rename_i c;refine⟨by rw[<-ze,<-rv.length];exact c,λp hp=>h1 _ _ (φ1++[AA p]) (.push hp) (rs1.push hp (rs1.nB hp) ⟨xs,zc,rv.step (.push hp)⟩) (.loc_new rs1)⟩
  .exact h1.elim
end
section
variable {S:Se}{X:Cx}{σ:St}{B:AH->Prop}{φ φ1:Ph}{H H1:Hp}{st:SO}{ρ:IC.Env}{pos p2:Ba}{a b c d:AO}{ca cb cc:Ce}{es:List AO}{ces:Ces}{K:AB}{cl:Nat->AH}
def zdE{o:COp}{v w:PV}{α β:Type}{Rel:Ph->Hp->α->β->Prop}{k:Bool->R α}{Q:β->Hp->Prop}(h:Run S X σ B φ H Rel (onO (blO (yw o v w)) k) Q):∃b,yw o v w=AA (.bl b)/\Run S X σ B φ H Rel (k b) Q:=by
 cases e:yw o v w with
 |none=>rw[e]at h;exact h.elim
 |some z=>
  let⟨b,rfl⟩:=zaZ e;rw[e]at h;exact⟨b,rfl,h⟩
def zex{op op':EX}{o p:COp}(ho:OpR X (compareOp op) (rT2 S X (yw o)))(ho':OpR X (compareOp op') (rT2 S X (yw p)))(ha:PE X a (tE S X ca))(hb:PE X b (tE S X cb))(hc:PE X c (tE S X cc))
  (hm:lastMarks [op,op'] [b,c]=false:=by with_unfolding_all rfl):PE X (.Compare a [op,op'] [b,c] pos) (tE S X (.chain o p ca cb cc)):=
 (zeD ho ho' ha hb hc hm).imp λσ H Q ⟨B,φ,st,ρ,rs,re,h⟩=>by
  erw[ev]at h;refine tE.bind rs re h λx H1 v st1 φ1 s1 rs1 re1 rv h1=>tE.bind rs1 re1 h1 λy H2 w st2 φ2 s2 rs2 re2 rw h2=>?_;let⟨k,e,h2⟩:=zdE h2;refine⟨B,φ2,st2,v,w,.bl k,rs2,rv.step s2,rw,e,λz' H' φ' s' rs' rz=>?_⟩;erw[yc]at rz;refine⟨k,rz,?_⟩
  cases k with
  |false=>exact h2 _ H' φ' s' rs' (by erw[yc])
  |true=>
   refine tE.bind rs' (re2.step s') (Run.on s' h2) λz H3 v3 st3 φ3 s3 rs3 re3 rv3 h3=>?_;let⟨q,eq,hq⟩:=zr h3 rs3;exact⟨B,φ3,st3,w,v3,q,rs3,(rw.step s').step s3,rv3,eq,hq⟩
def zeo{op op':EX}{o p:COp}(ho:OpR X (compareOp op) (rT2 S X (yw o)))(ho':OpR X (compareOp op') (rT2 S X (yw p)))(ha:PE X a (tE S X ca))(hb:PE X b (tE S X cb))(hc:PE X c (tE S X cc))
  (hm:lastMarks [op,op'] [b,c]=false:=by with_unfolding_all rfl):PT X (.Compare a [op,op'] [b,c] pos) (tTs S X (.chain o p ca cb cc)):=
 (zeg ho ho' ha hb hc hm).imp λσ H Q ⟨B,φ,st,ρ,rs,re,h⟩=>by
  erw[ev,yaC,R.bind_assoc]at h;refine tE.bind rs re h λx H1 v st1 φ1 s1 rs1 re1 rv h1=>tE.bind rs1 re1 h1 λy H2 w st2 φ2 s2 rs2 re2 rw h2=>?_;have h2':Run S X σ B φ2 H2 RB (onO (blO (yw o v w)) λk=>cond k ((ev S.call ρ st2 cc).bind λz st3=>(toR (yw p w z) st3).bind λx st=>onO (yao st x) λb=>.ok b st) (.ok AF st2)) Q:=by
   cases e:yw o v w with
   |none=>rw[e]at h2;exact h2
   |some z=>
    let⟨b,rfl⟩:=zaZ e;rw[e]at h2
    cases b with
    |false=>exact h2
    |true=>
     erw[blO,onO,cond_true,R.bind_assoc]at h2 ⊢;exact h2
  let⟨k,e,h2⟩:=zdE h2';refine⟨B,φ2,st2,v,w,.bl k,rs2,rv.step s2,rw,e,λz' H' φ' s' rs' rz=>?_⟩;erw[yc]at rz;refine⟨k,rz,?_⟩
  cases k with
  |false=>exact⟨AF,rfl,h2 _ H' φ' s' rs' rfl⟩
  |true=>
   refine tE.bind rs' (re2.step s') (Run.on s' h2) λz H3 v3 st3 φ3 s3 rs3 re3 rv3 h3=>?_
   cases eq:yw p w v3 with
   |none=>rw[eq]at h3;exact h3.elim
   |some q=>
    let⟨b,rfl⟩:=zaZ eq;rw[eq]at h3;refine⟨B,φ3,st3,w,v3,.bl b,rs3,(rw.step s').step s3,rv3,eq,λz2 H4 φ4 s4 rs4 rz4=>?_⟩;erw[yc]at rz4;exact⟨b,rz4,h3 b H4 φ4 s4 rs4 rfl⟩
theorem ye.at{vs:List PV}{xs:List V}{i:Int}{v:PV}(l:ye K cl B φ H vs xs)(h:at? vs i=AA v):∃x,atI xs i=AA x/\yc K cl B φ H v x:=by
 unfold at? at h;rw[l.length]at h;unfold atI
 cases e:ixI xs.length i with
 |none=>rw[e]at h;cases h
 |some j=>
  rw[e]at h;have e':ixN xs.length i=AA j:=e;rw[e'];exact l.get j h
theorem yp.list{n:Nat}{vs:List PV}{x:V}(rs:yp K cl B φ H st)(r:yc K cl B φ H (.loc n) x)(h:st[n]?=AA (.lst vs)):∃a xs,x=.ref a/\φ[n]?=AA (AA a)/\H a=AA (.lst xs)/\ye K cl B φ H vs xs:=by
 erw[yc]at r;let⟨hn,a,rfl,ha⟩:=r;let⟨b,hb⟩:=rs.liv n _ h (by intro z;cases z);obtain rfl:=ha b hb;let⟨o,ho,ro⟩:=rs.obj n b hb;rw[h]at ho;cases ho;let⟨xs,hx,l⟩:=ro;exact⟨b,xs,rfl,hb,hx,l⟩
def rTS(S:Se)(X:Cx)(f:SO->PV->PV->Option PV):R2:=λx y H Q=>∃B φ st v w z,yp X.K S.cl B φ H st/\yc X.K S.cl B φ H v x/\yc X.K S.cl B φ H w y/\f st v w=AA z /\
 ∀z' H' φ',Step φ H φ' H'->yp X.K S.cl B φ' H' st->yc X.K S.cl B φ' H' z z'->Q z' H'
def zag{α:Type}{xs:List α}{i:PV}{z:α}(h:yaw xs i=AA z):∃k,i=.int k/\at? xs k=AA z:=by
 cases i with
 |int k=>exact⟨k,rfl,h⟩
 |_=>cases h
def zfw:IxR X (rTS S X idxV):=by
 rintro value slice π s σ H x y v u Q I rx ry ⟨B,φ,st,a,i,z,rs,ra,ri,e,q⟩ hs
 cases a with
 |tp k vs=>
  let⟨k,rfl,e⟩:=zag e;erw[yc]at ra ri;subst ri;let⟨p,xs,rfl,rt,l⟩:=ra;let⟨w,e1,rw⟩:=l.at e;exact zb8 value slice π s σ H _ _ v u Q I rx ry (.inr (.inl ⟨p,xs,k,w,rfl,rfl,rt.sq,e1,q w H φ .rfl rs rw⟩)) hs
 |lst vs=>
  let⟨k,rfl,e⟩:=zag e;erw[yc]at ra ri;subst ri;let⟨p,xs,rfl,rt,l⟩:=ra;let⟨w,e1,rw⟩:=l.at e;exact zb8 value slice π s σ H _ _ v u Q I rx ry (.inl ⟨p,xs,k,w,rfl,rfl,rt.sq,e1,q w H φ .rfl rs rw⟩) hs
 |loc n=>
  erw[idxV]at e;split at e
  .rename_i vs h1;let⟨k,rfl,e⟩:=zag e;erw[yc]at ri;subst ri;let⟨p,xs,rfl,_,hx,l⟩:=rs.list ra h1;let⟨w,e1,rw⟩:=l.at e;exact zb8 value slice π s σ H _ _ v u Q I rx ry (.inl ⟨p,xs,k,w,rfl,rfl,.of hx,e1,q w H φ .rfl rs rw⟩) hs
  .cases e
 |str t=>
  erw[idxV]at e;split at e
  .rename_i hl
   cases e1:yaw t.cps.toList i with
   |none=>rw[e1]at e;cases e
   |some c=>
    rw[e1]at e
    cases e
    let⟨k,rfl,e1⟩:=zag e1;erw[yc]at ra ri;subst ra ri;exact zb8 value slice π s σ H _ _ v u Q I rx ry (.inr (.inr ⟨t,k,c,rfl,rfl,by rw[<-ze];exact hl,e1,q _ H φ .rfl rs (by erw[yc])⟩)) hs
  .cases e
 |_=>cases e
def zh3(ha:PE X a (tE S X ca))(hb:PE X b (tE S X cb))(hs:yaR b:=by exact λ_ _=>rfl):PE X (.Subscript a b pos) (tE S X (.idx ca cb)):=
 (zi3 zfw ha hb hs).imp λσ H Q ⟨B,φ,st,ρ,rs,re,h⟩=>by
  erw[ev]at h;refine tE.bind rs re h λx H1 v st1 φ1 s1 rs1 re1 rv h1=>tE.bind rs1 re1 h1 λy H2 w st2 φ2 s2 rs2 re2 rw h2=>?_;let⟨z,e,q⟩:=zr h2 rs2;exact⟨B,φ2,st2,v,w,z,rs2,rv.step s2,rw,e,q⟩
theorem ye.cut{vs:List PV}{xs:List V}(lo hi:Option Int)(l:ye K cl B φ H vs xs):ye K cl B φ H (IC.cut vs lo hi) (ybC xs lo hi):=by
 have e1:∀n o,yca n o=HT.sIx n 0 o:=λn o=>by cases o<;>rfl
 have e2:∀n o,ycv n o=HT.sIx n n o:=λn o=>by cases o<;>rfl
 unfold IC.cut ybC;rw[l.length,e1,e2];exact(l.drop _).take _
def tO(S:Se)(X:Cx)(c:Ce):TO:=λσ H Q=>tE S X c σ H λx H1=>(x=.non/\Q AC H1) \/ ∃i,x=.int i/\Q (AA i) H1
def zfT:PO X AC (tO S X (.cst .non)):=λπ s σ H Q I h=>by
 refine zgm π s σ H Q I ?_;let⟨B,φ,st,ρ,rs,re,h⟩:=h;erw[ev]at h;rcases h.ok rs (x:=V.non) (by erw[yc])with q|⟨i,z,_⟩
 .exact q.2
 .cases z
def zgq(ha:PE X a (tE S X ca)):PO X (AA a) (tO S X ca):=by
 intro π s σ H Q I hw;rw[evalPart_some];refine thn (ha π s σ H _ I hw) λu s1 kq=>?_;let⟨x,H1,I1,r1,q1⟩:=kq;rcases q1 with⟨rfl,q⟩|⟨i,rfl,q⟩
 .cases r1
  exact⟨AC,H1,I1,.none,q⟩
 .let⟨t,rfl⟩:=r1;exact⟨AA i,H1,I1,.int i t,q⟩
def rSl(S:Se)(X:Cx):V->Option Int->Option Int->Hp->VK->Prop:=λx lo hi H Q=>∃B φ st v z,yp X.K S.cl B φ H st/\yc X.K S.cl B φ H v x/\ybz v lo hi=AA z /\
 ∀z' H' φ',Step φ H φ' H'->yp X.K S.cl B φ' H' st->yc X.K S.cl B φ' H' z z'->Q z' H'
def zT{prog:A1}{w:A8}{A:A9}{E:AE->AI->Prop}{s:AI}{t sl:AH}{items:Array AE}{vl vu:AE}{lo hi:Option Int}{Q:AE->AI->Prop}(ht:IsTup s.heap t items)(hs:s.heap.IsSliceOf sl vl vu .none)(pl:Dg vl lo)(pu:Dg vu hi)
  (hw:HT.sIx items.size 0 lo=0/\HT.sIx items.size items.size hi=items.size)
  (h:Q (.ref t) s):AZ (model prog w) A (getItem (.ref t) (.ref sl)) Q E s:=by
 let⟨os,hos,hcs,hds⟩:=id hs;have hTs:s.TypeIs (.ref sl) "slice":=⟨os,hos,hcs⟩;unfold getItem
 try with_reducible refine By ?_
 first|refine AJ (AT ?_)|skip
 refine AJ (Es ht.typeIs ⋯ ?_);refine AJ (Br (name:=AK "__getitem__") ht.typeIs Ao
  (C9 Ao ht.typeIs ET ?_ (Ec _ _)))
 show AZ _ _ (DE (.ref t) >>= _) _ _ s;refine AJ (EQ ht ?_);refine AJ (Cq hTs ?_);rw[if_pos ⋯];refine AJ (HT.sliceApplied_gen hs pl pu ?_);have hyes:(((HT.sIx items.size 0 lo:Nat):Int)==0&&(1:Int)==1&&(HT.sIx items.size items.size hi-HT.sIx items.size 0 lo)==items.size)=true:=by
  rw[hw.1,hw.2];simp
 show AZ _ _ (if (((HT.sIx items.size 0 lo:Nat):Int)==0&&(1:Int)==1&&(HT.sIx items.size items.size hi-HT.sIx items.size 0 lo)==items.size)=AD then _ else _) _ _ s;rw[if_pos hyes];refine AJ (AJ (Cq ht.typeIs (AT ?_)));rw[if_pos ⋯]
 first
  |exact AJ (AT (AT ⟨_,rfl,AT h⟩))
  |exact AJ (E9 (AT ⟨_,rfl,AT h⟩))
  |(wp_step;wp_step;exact⟨_,rfl,AT h⟩)
def yfC(K:AB):V->Option Int->Option Int->Hp->VK->Prop:=λx lo hi H Q=>∃a xs,x=.ref a/\SqT K H a xs /\
 (HT.sIx xs.length 0 lo=0/\HT.sIx xs.length xs.length hi=xs.length)/\Q (.ref a) H
def zd1:SlR X (yfC X.K):=by
 intro π s σ H x v vl vu lo hi sl Q I rx hs pl pu h;let⟨a,xs,rfl,hx,hw,q⟩:=h
 cases rx
 let⟨its,r,ht,hz⟩:=I.tuple hx;have hlen:its.toArray.size=xs.length:=by rw[AR];exact r.length.symm
 refine⟨"tuple",_,Ao.lookup,ht.typeIs,?_⟩;exact zT ht hs pl pu (by rw[hlen];exact hw) ⟨.ref a,H,I,rfl,q⟩
def yfd:V->Option Int->Option Int->Hp->VK->Prop:=λx lo hi H Q=>∃y:AM,x=.str y/\y.length<=sizeLine/\Q (.str ⟨((y.cps.toList.drop (HT.sIx y.cps.toList.length 0 lo)).take (HT.sIx y.cps.toList.length y.cps.toList.length hi-HT.sIx y.cps.toList.length 0 lo)).toArray⟩) H
def zjp(lo hi:Option Int)(n:Nat):Ct lo hi 1 n=sliceRange ((HT.sIx n 0 lo:Nat):Int) ((HT.sIx n n hi:Nat):Int) 1:=by
 unfold Ct;erw[show (1:Int) > 0 by decide,if_true]
 congr 1
 .cases lo with
  |none=>simp[HT.sIx]
  |some i=>
   erw[HT.sIx]
   by_cases h:i<0
   .simp only[h,if_true]<;>lia
   .simp only[h,if_false]<;>lia
 .cases hi with
  |none=>simp[HT.sIx]
  |some i=>
   erw[HT.sIx]
   by_cases h:i<0
   .simp only[h,if_true]<;>lia
   .simp only[h,if_false]<;>lia
def zdr(y:AM)(lo hi:Option Int):Txt.slice y lo hi=⟨((y.cps.toList.drop (HT.sIx y.cps.toList.length 0 lo)).take (HT.sIx y.cps.toList.length y.cps.toList.length hi-HT.sIx y.cps.toList.length 0 lo)).toArray⟩:=by
 have hn:y.length=y.cps.toList.length:=by simp[Str.length]
 unfold Txt.slice;rw[zjp,hn,sliceRange_one];have ha:=HT.sIx_le y.cps.toList.length 0 (DR _) lo;have hb:=HT.sIx_le y.cps.toList.length y.cps.toList.length (AU _) hi;generalize HT.sIx y.cps.toList.length 0 lo=a,HT.sIx y.cps.toList.length y.cps.toList.length hi=b at *;split
 .rename_i c;erw[A4,List.length_range,AG,beq_iff_eq]at c;obtain⟨rfl,rfl⟩:a=0/\b=y.cps.toList.length:=by lia
  rw[List.drop_zero,Nat.sub_zero,FI]
 .rw[pick_run]
def zfV:SlR X yfd:=by
 intro π s σ H x v vl vu lo hi sl Q I rx hs pl pu h;let⟨y,rfl,hz,q⟩:=h;let⟨t,rfl⟩:=rx;rw[<-zdr]at q;refine⟨"str",_,PySem.F.slot_str_getitem.lookup,FY _ _ _,?_⟩;have go:∀l u:Option (Int×GT),vl=partValue l->vu=partValue u->lo=l.map (·.1)->hi=u.map (·.1)->AZ (model X.prog X.w) X.A (getItem (.str y t) (.ref sl)) (EP X π σ Q) X.xe s:=by
  rintro l u rfl rfl rfl rfl
  refine wpAny_getItem_str_slice (l:=l) (u:=u) (st:=AC) hs rfl ?_;exact post_val_or_str ⟨BC (Txt.slice_le y _ _) hz,λt' k=>⟨.str _,H,I.tok k,⟨_,rfl⟩,q⟩⟩
 cases pl with
 |none=>
  cases pu with
  |none=>exact go AC AC rfl rfl rfl rfl
  |int j u=>exact go AC (AA (j,u)) rfl rfl rfl rfl
 |int i t1=>
  cases pu with
  |none=>exact go (AA (i,t1)) AC rfl rfl rfl rfl
  |int j u=>exact go (AA (i,t1)) (AA (j,u)) rfl rfl rfl rfl
def zfJ:SlR X (rSl S X):=by
 rintro π s σ H x v vl vu lo hi sl Q I rx hs pl pu ⟨B,φ,st,w,z,rs,rw,e,q⟩
 have e1:∀n o,yca n o=HT.sIx n 0 o:=λn o=>by cases o<;>rfl
 have e2:∀n o,ycv n o=HT.sIx n n o:=λn o=>by cases o<;>rfl
 cases w with
 |tp k vs=>
  erw[ybz]at e;split at e
  .rename_i c
   cases e
   have rw':=rw;erw[yc]at rw;let⟨p,xs,rfl,rt,l⟩:=rw;refine zd1 π s σ H _ v vl vu lo hi sl Q I rx hs pl pu ⟨p,xs,rfl,rt.sq,?_,q _ H φ .rfl rs rw'⟩;rw[l.length,e1,e2]at c;exact c
  .rename_i c
   cases e
   erw[yc]at rw;let⟨p,xs,rfl,rt,l⟩:=rw;refine zh1 π s σ H _ v vl vu lo hi sl Q I rx hs pl pu ⟨p,xs,rfl,rt.sq,?_,λt ht=>q _ _ φ (.upd ht) (rs.upd ht) (.tup_new ht rs (l.cut lo hi))⟩;rw[l.length,e1,e2]at c;exact c
 |str y=>
  erw[ybz]at e;split at e
  .rename_i c
   cases e
   erw[yc]at rw;subst rw;refine zfV π s σ H _ v vl vu lo hi sl Q I rx hs pl pu ⟨y,rfl,by rw[<-ze];exact c,?_⟩;have:=q (.str ⟨(cut y.cps.toList lo hi).toArray⟩) H φ .rfl rs (by erw[yc]);rw[cut,e1,e2]at this;exact this
  .cases e
 |lst vs=>
  erw[ybz]at e
  cases e
  erw[yc]at rw;let⟨p,xs,rfl,rt,l⟩:=rw;exact zdC π s σ H _ v vl vu lo hi sl Q I rx hs pl pu ⟨p,xs,rfl,rt.sq,λt ht=>q _ _ φ (.upd ht) (rs.upd ht) (.lst_new ht rs (l.cut lo hi))⟩
 |scr vs=>
  erw[ybz]at e
  cases e
  erw[yc]at rw;let⟨p,xs,rfl,rt,l⟩:=rw;exact zdC π s σ H _ v vl vu lo hi sl Q I rx hs pl pu ⟨p,xs,rfl,(by rcases rt with rt|rt;exact .inl rt.1;exact .inr rt),λt ht=>q _ _ φ (.upd ht) (rs.upd ht) (.lst_new ht rs (l.cut lo hi))⟩
 |_=>cases e
def ziA{lo hi:Option AO}(ha:PE X a (tE S X ca))(hl:PO X lo (tO S X cb))(hh:PO X hi (tO S X cc)):PE X (.Subscript a (.Slice lo hi AC p2) pos) (tE S X (.slc ca cb cc)):=
 (zeJ zfJ ha hl hh).imp λσ H Q ⟨B,φ,st,ρ,rs,re,h⟩=>by
  erw[ev]at h;have oi:∀{v:PV} {x:V} {o:Option Int} {B φ H},yc X.K S.cl B φ H v x->ybl v=AA o->(x=.non/\o=AC) \/ ∃i,x=.int i/\o=AA i:=λ{v x o B φ H} r e=>by
   cases v with
   |non=>erw[yc]at r;cases e;exact .inl ⟨r,rfl⟩
   |int i=>erw[yc]at r;cases e;exact .inr ⟨i,r,rfl⟩
   |_=>cases e
  refine tE.bind rs re h λx H1 v st1 φ1 s1 rs1 re1 rv h1=>tE.bind rs1 re1 h1 λy H2 w st2 φ2 s2 rs2 re2 rw h2=>?_
  cases eo:ybl w with
  |none=>rw[eo]at h2;exact h2.elim
  |some o1=>
   rw[eo]at h2;have key:tO S X cc σ H2 λu H3=>rSl S X x o1 u H3 Q:=by
    refine tE.bind rs2 re2 h2 λy' H3 w' st3 φ3 s3 rs3 re3 rw' h3=>?_;let⟨z,e,q⟩:=zr h3 rs3;unfold ybL at e
    cases eo':ybl w' with
    |none=>rw[eo']at e;cases e
    |some o2=>
     rw[eo']at e;have fin:rSl S X x o1 o2 H3 Q:=⟨B,φ3,st3,v,z,rs3,(rv.step s2).step s3,e,q⟩;rcases oi rw' eo' with⟨rfl,rfl⟩|⟨i,rfl,rfl⟩
     .exact .inl ⟨rfl,fin⟩
     .exact .inr ⟨i,rfl,fin⟩
   rcases oi rw eo with⟨rfl,rfl⟩|⟨i,rfl,rfl⟩
   .exact .inl ⟨rfl,key⟩
   .exact .inr ⟨i,rfl,key⟩
end
section
variable {S:Se}{X:Cx}{σ:St}{B:AH->Prop}{φ φ1:Ph}{H H1:Hp}{st:SO}{ρ:IC.Env}{p pos p2:Ba}{a b c d:AO}{ca cb cc:Ce}{es:List AO}{ces:Ces}{K:AB}{cl:Nat->AH}
def rB(S:Se)(X:Cx)(k:Blt):List V->Hp->VK->Prop:=λxs H Q=>∃B φ st vs z,yp X.K S.cl B φ H st/\ye X.K S.cl B φ H vs xs/\yQ k st vs=AA z /\
 ∀z' H' φ',Step φ H φ' H'->yp X.K S.cl B φ' H' st->yc X.K S.cl B φ' H' z z'->Q z' H'
theorem ye.one{v:PV}{xs:List V}(l:ye K cl B φ H [v] xs):∃x,xs=[x]/\yc K cl B φ H v x:=by
 erw[ye]at l;let⟨y,ys,rfl,r,rfl⟩:=l;exact⟨y,rfl,r⟩
theorem ye.two{v w:PV}{xs:List V}(l:ye K cl B φ H [v,w] xs):∃x y,xs=[x,y]/\yc K cl B φ H v x/\yc K cl B φ H w y:=by
 erw[ye]at l;let⟨y,ys,rfl,r,z,zs,rfl,r2,rfl⟩:=l;exact⟨y,z,rfl,r,r2⟩
def z4{k:Blt}{st:SO}{vs:List PV}{z:PV}(h:yQ k st vs=AA z)(h2:∀x y,yQ k st [x,y]=AC):∃x,vs=[x]:=by
 match vs,h with
 |[x],_=>exact⟨x,rfl⟩
 |[x,y],h=>rw[h2]at h;cases h
def zC{v:PV}{x:V}{vs:List PV}(rs:yp K cl B φ H st)(r:yc K cl B φ H v x)(h:yr st v=AA vs):∃a xs,x=.ref a/\SqL K H a xs/\ye K cl B φ H vs xs:=by
 cases v with
 |lst ws=>
  cases h
  erw[yc]at r;let⟨a,xs,rfl,rt,l⟩:=r;exact⟨a,xs,rfl,rt.sq,l⟩
 |loc n=>
  erw[yr]at h;split at h
  .rename_i ws hw
   cases h
   let⟨a,xs,rfl,_,hx,l⟩:=rs.list r hw;exact⟨a,xs,rfl,.of hx,l⟩
  .cases h
 |_=>cases h
def zgT{v:PV}{x:V}{vs:List PV}(rs:yp K cl B φ H st)(r:yc K cl B φ H v x)(h:seqOf st v=AA vs):∃a xs,x=.ref a/\(SqL K H a xs \/ SqT K H a xs)/\ye K cl B φ H vs xs:=by
 cases v with
 |tp k ws=>
  cases h
  erw[yc]at r;let⟨a,xs,rfl,rt,l⟩:=r;exact⟨a,xs,rfl,.inr rt.sq,l⟩
 |lst ws=>
  let⟨a,xs,e,q,l⟩:=zC rs r (vs:=vs) h;exact⟨a,xs,e,.inl q,l⟩
 |loc n=>
  let⟨a,xs,e,q,l⟩:=zC rs r (vs:=vs) h;exact⟨a,xs,e,.inl q,l⟩
 |_=>cases h
def zhW:yJ X (.builtin "len") (rB S X .len):=by
 rintro π s σ H xs us Q I r ⟨B,φ,st,vs,z,rs,l,e,q⟩
 let⟨v,rfl⟩:=z4 e λ_ _=>rfl;let⟨x,rfl,rv⟩:=l.one;erw[yQ,lenV]at e;split at e
 .rename_i t;split at e
  .rename_i c
   cases e
   erw[yc]at rv;subst rv;exact zbn π s σ H _ us Q I r ⟨t,rfl,by rw[<-ze];exact c,q _ H φ .rfl rs (by erw[yc])⟩
  .cases e
 .cases e1:seqOf st v with
  |none=>rw[e1]at e;cases e
  |some ws=>
   rw[e1]at e
   cases e
   let⟨a,ys,rfl,h,l⟩:=zgT rs rv e1;refine zbj π s σ H _ us Q I r ⟨a,ys,rfl,?_,q _ H φ .rfl rs (by erw[yc];rw[l.length])⟩;exact h
def zhH:yJ X (.type "int") (rB S X .int):=by
 rintro π s σ H xs us Q I r ⟨B,φ,st,vs,z,rs,l,e,q⟩
 let⟨v,rfl⟩:=z4 e λ_ _=>rfl;let⟨x,rfl,rv⟩:=l.one;erw[yQ]at e
 cases v with
 |int i=>
  cases e
  erw[yc]at rv;subst rv;exact zbk π s σ H _ us Q I r (.inl ⟨i,rfl,q _ H φ .rfl rs (by erw[yc])⟩)
 |bl k=>
  cases e
  erw[yc]at rv;subst rv;exact zbk π s σ H _ us Q I r (.inr ⟨k,rfl,q _ H φ .rfl rs (by erw[yc,bi])⟩)
 |_=>cases e
def zfg:∀{vs:List PV} {m:Int},ycr vs=AA m->∃ns:List Int,vs=ns.map .int/\m∈ns/\∀a∈ns,a<=m
 |[],m,h=>by cases h
 |[.int i],m,h=>by cases h;exact⟨[i],rfl,by simp,by simp⟩
 |.int i::w::r,m,h=>by
  erw[ycr]at h;split at h
  .rename_i c e
   cases h
   let⟨ns,e1,e2,e3⟩:=zfg e;refine⟨i::ns,by rw[e1];rfl,?_,λa ha=>?_⟩
   .split
    .exact AS _ e2
    .exact Ag
   .rcases Ab.mp ha with rfl|ha
    .split<;>lia
    .have:=e3 a ha;split<;>lia
  .cases h
 |.non::r,m,h=>by cases r<;>cases h
 |.bl _::r,m,h=>by cases r<;>cases h
 |.str _::r,m,h=>by cases r<;>cases h
 |.tp _ _::r,m,h=>by cases r<;>cases h
 |.lst _::r,m,h=>by cases r<;>cases h
 |.loc _::r,m,h=>by cases r<;>cases h
 |.fnc _::r,m,h=>by cases r<;>cases h
 |.exn _::r,m,h=>by cases r<;>cases h
 |.scr _::r,m,h=>by cases r<;>cases h
theorem ye.ints:∀{ns:List Int} {xs:List V},ye K cl B φ H (ns.map .int) xs->xs=ns.map V.int
 |[],xs,h=>by simpa only[BE,ye] using h
 |n::ns,xs,h=>by
  erw[AL,ye]at h;let⟨y,ys,rfl,r,l⟩:=h;erw[yc]at r;rw[r,ye.ints l];rfl
theorem ye.bls:∀{ns:List Bool} {xs:List V},ye K cl B φ H (ns.map .bl) xs->xs=ns.map V.bl
 |[],xs,h=>by simpa only[BE,ye] using h
 |n::ns,xs,h=>by
  erw[AL,ye]at h;let⟨y,ys,rfl,r,l⟩:=h;erw[yc]at r;rw[r,ye.bls l];rfl
def zfY{v w z:PV}(e:maxV v w=AA z):∃i j,v=.int i/\w=.int j/\z=.int (if i<j then j else i):=by
 unfold maxV at e;split at e
 .exact⟨_,_,rfl,rfl,(AW e).symm⟩
 .cases e
def zgN(hc:X.calm=AD):yJ X (.builtin "max") (rB S X .max):=by
 rintro π s σ H xs us Q I r ⟨B,φ,st,vs,z,rs,l,e,q⟩
 rcases vs with _|⟨v,_|⟨w,_|⟨u',t⟩⟩⟩
 .simp[yQ]at e
 .let⟨x,rfl,rv⟩:=l.one;erw[yQ]at e
  cases e1:yr st v with
  |none=>rw[e1]at e;cases e
  |some ws=>
   rw[e1]at e;erw[Am]at e
   cases e2:ycr ws with
   |none=>rw[e2]at e;cases e
   |some m=>
    rw[e2]at e;obtain rfl:=AW e;let⟨ns,rfl,hm,hb⟩:=zfg e2;let⟨a,ys,rfl,h,l⟩:=zC rs rv e1;rw[l.ints]at h;refine zdz hc π s σ H _ us Q I r ⟨a,ns,rfl,h,List.length_pos_of_mem hm,λM h1 h2=>?_⟩;have:M=m:=by
     have:=hb M h1;have:=h2 m hm;lia
    subst this;exact q _ H φ .rfl rs (by erw[yc])
 .let⟨x,y,rfl,rv,rw⟩:=l.two;have e:maxV v w=AA z:=e;let⟨i,j,rfl,rfl,rfl⟩:=zfY e;erw[yc]at rv rw;subst rv rw;exact zdQ hc π s σ H _ us Q I r ⟨i,j,rfl,q (.int (if i<j then j else i)) H φ .rfl rs (by erw[yc])⟩
 .simp[yQ]at e
def zeF:yJ X (.type "tuple") (rB S X .tuple):=by
 rintro π s σ H xs us Q I r ⟨B,φ,st,vs,z,rs,l,e,q⟩
 let⟨v,rfl⟩:=z4 e λ_ _=>rfl;let⟨x,rfl,rv⟩:=l.one;erw[yQ,ycK]at e;split at e
 .cases e
  erw[yc]at rv;let⟨a,ys,rfl,rt,l⟩:=rv;exact zX π s σ H _ us Q I r ⟨a,ys,rfl,.inr ⟨rt.sq,q _ H φ .rfl rs (by erw[yc];exact⟨a,ys,rfl,rt,l⟩)⟩⟩
 .cases e1:yr st v with
  |none=>rw[e1]at e;cases e
  |some ws=>
   rw[e1]at e
   cases e
   let⟨a,ys,rfl,h,l⟩:=zC rs rv e1;exact zX π s σ H _ us Q I r ⟨a,ys,rfl,.inl ⟨h,λt ht=>q _ _ φ (.upd ht) (rs.upd ht) (.tup_new ht rs l)⟩⟩
def ze7:∀{vs:List PV} {m:Bool},IC.allB vs=AA m->∃ns:List Bool,vs=ns.map .bl/\m=ns.all id
 |[],m,h=>by cases h;exact⟨[],rfl,rfl⟩
 |.bl i::r,m,h=>by
  erw[IC.allB]at h;split at h
  .rename_i c e
   cases h
   let⟨ns,e1,e2⟩:=ze7 e;exact⟨i::ns,by rw[e1];rfl,by rw[e2];rfl⟩
  .cases h
 |.non::r,m,h=>by cases h
 |.int _::r,m,h=>by cases h
 |.str _::r,m,h=>by cases h
 |.tp _ _::r,m,h=>by cases h
 |.lst _::r,m,h=>by cases h
 |.loc _::r,m,h=>by cases h
 |.fnc _::r,m,h=>by cases h
 |.exn _::r,m,h=>by cases h
 |.scr _::r,m,h=>by cases h
def zfc:∀{vs:List PV} {m:Int},yaF vs=AA m->∃ns:List Int,vs=ns.map .int/\m=ns.sum
 |[],m,h=>by cases h;exact⟨[],rfl,rfl⟩
 |.int i::r,m,h=>by
  erw[yaF]at h;split at h
  .rename_i c e
   cases h
   let⟨ns,e1,e2⟩:=zfc e;exact⟨i::ns,by rw[e1];rfl,by rw[e2,List.sum_cons]⟩
  .cases h
 |.non::r,m,h=>by cases h
 |.bl _::r,m,h=>by cases h
 |.str _::r,m,h=>by cases h
 |.tp _ _::r,m,h=>by cases h
 |.lst _::r,m,h=>by cases h
 |.loc _::r,m,h=>by cases h
 |.fnc _::r,m,h=>by cases h
 |.exn _::r,m,h=>by cases h
 |.scr _::r,m,h=>by cases h
def zg9(hc:X.calm=AD):yJ X (.builtin "all") (rB S X .all):=by
 rintro π s σ H xs us Q I r ⟨B,φ,st,vs,z,rs,l,e,q⟩
 let⟨v,rfl⟩:=z4 e λ_ _=>rfl;let⟨x,rfl,rv⟩:=l.one;erw[yQ]at e
 cases e1:yr st v with
 |none=>rw[e1]at e;cases e
 |some ws=>
  rw[e1]at e;erw[Am]at e
  cases e2:IC.allB ws with
  |none=>rw[e2]at e;cases e
  |some m=>
   rw[e2]at e
   cases e
   let⟨ns,rfl,rfl⟩:=ze7 e2;let⟨a,ys,rfl,h,l⟩:=zC rs rv e1;rw[l.bls]at h;exact zef hc π s σ H _ us Q I r ⟨a,ns,rfl,h,q _ H φ .rfl rs (by erw[yc])⟩
def zil(hc:X.calm=AD):yJ X (.builtin "sum") (rB S X .sum):=by
 rintro π s σ H xs us Q I r ⟨B,φ,st,vs,z,rs,l,e,q⟩
 let⟨v,rfl⟩:=z4 e λ_ _=>rfl;let⟨x,rfl,rv⟩:=l.one;erw[yQ]at e
 cases e1:yr st v with
 |none=>rw[e1]at e;cases e
 |some ws=>
  rw[e1]at e;erw[Am]at e
  cases e2:yaF ws with
  |none=>rw[e2]at e;cases e
  |some m=>
   rw[e2]at e
   cases e
   let⟨ns,rfl,rfl⟩:=zfc e2;let⟨a,ys,rfl,h,l⟩:=zC rs rv e1;rw[l.ints]at h;exact zeN hc π s σ H _ us Q I r ⟨a,ns,rfl,h,q _ H φ .rfl rs (by erw[yc])⟩
variable {x:AM}{id T:String}{k:Blt}
def zih(hc:yJ X (.builtin id) (rB S X k))(hg:Gl X x)(hm:X.mg x=AC)(hv:bootBuiltins x=AA (.builtin id))(ha:PA X (a::es) (tAs S X ces))(hn:x ≠ "__name__":=by decide)(hdb:(x==("__debug__":AM))=false:=by decide)
  (he:starEach (a::es) X.env=(AF,eval a X.env)::starEach es X.env:=by rfl) (hpl:(backTo pos (starEach es X.env)).any (·.1)=false:=by rfl):PE X (.Call (.Name x p) (a::es) [] pos) (tE S X (.blt k ces)):=
 (zb9 hc hg hm hv ha hn hdb he hpl).imp λσ H Q ⟨B,φ,st,ρ,rs,re,h⟩=>by
  erw[ev]at h;refine tAs.bind rs re h λxs H1 vs st1 φ1 s1 rs1 re1 rv h1=>?_;let⟨z,e,q⟩:=zr h1 rs1;exact⟨B,φ1,st1,vs,z,rs1,rv,e,q⟩
def zfB(hc:yJ X (.type T) (rB S X k))(hg:Gl X x)(hm:X.mg x=AC)(hv:bootBuiltins x=AA (.type T))(ha:PA X (a::es) (tAs S X ces))(hn:x ≠ "__name__":=by decide)(hdb:(x==("__debug__":AM))=false:=by decide)
  (he:starEach (a::es) X.env=(AF,eval a X.env)::starEach es X.env:=by rfl) (hpl:(backTo pos (starEach es X.env)).any (·.1)=false:=by rfl):PE X (.Call (.Name x p) (a::es) [] pos) (tE S X (.blt k ces)):=
 (zbd hc hg hm hv ha hn hdb he hpl).imp λσ H Q ⟨B,φ,st,ρ,rs,re,h⟩=>by
  erw[ev]at h;refine tAs.bind rs re h λxs H1 vs st1 φ1 s1 rs1 re1 rv h1=>?_;let⟨z,e,q⟩:=zr h1 rs1;exact⟨B,φ1,st1,vs,z,rs1,rv,e,q⟩
end
section
variable {S:Se}{X:Cx}{σ:St}{B:AH->Prop}{φ φ1:Ph}{H H1:Hp}{st:SO}{ρ:IC.Env}{p pos p2 apos:Ba}{a b c d:AO}{ca cb cc:Ce}{es:List AO}{ces:Ces}{K:AB}{cl:Nat->AH}
theorem Step.put{l:AH}{u:HO}(hl:AA l∈φ):Step φ H φ (L2.upd H l u):=
 ⟨λb o n e=>by rw[za (show b≠l from λz=>n (by rw[z];exact hl))];exact e,AU _,λ_ _ _ e=>e,λ_ h=>.inl h⟩
theorem yp.put{n:Nat}{l:AH}{u:HO}{o:Ob}(rs:yp K cl B φ H st)(hn:φ[n]?=AA (AA l))(ho:ybu K cl B φ (L2.upd H l u) o l):yp K cl B φ (L2.upd H l u) (st.set n o):=by
 have hm:AA l∈φ:=AV hn;have s:Step φ H φ (L2.upd H l u):=.put hm;have hlt:n<st.length:=by rw[<-rs.len];exact(Ap.mp hn).1
 refine⟨by rw[Aw];exact rs.len,rs.inj,λm a e=>?_,λm o' e ho'=>?_,rs.nb,λa h=>?_⟩
 .by_cases hmn:m=n
  .subst hmn;rw[hn]at e;cases e;exact⟨o,by rw[BN hlt],ho⟩
  .let⟨o',q,r⟩:=rs.obj m a e;refine⟨o',by rw[Aj (B9 hmn)];exact q,r.step s ?_⟩;rw[za]
   rintro rfl
   exact hmn (rs.inj m n a e hn)
 .by_cases hmn:m=n
  .subst hmn;exact⟨l,hn⟩
  .rw[Aj (B9 hmn)]at e;exact rs.liv m o' e ho'
 .let⟨w,e⟩:=rs.dom a h
  by_cases z:a=l
  .subst z;exact⟨u,zc⟩
  .exact⟨w,by rw[za z];exact e⟩
def zfs:1000000<=sizeLine:=by rw[Bs];decide
def z8{m:Mth}{v:PV}{st:SO}{α β:Type}{Rel:Ph->Hp->α->β->Prop}{k:Bool->R α}{Q:β->Hp->Prop}(h:Run S X σ B φ H Rel (onO (yad m st v) k) Q):∃b,yad m st v=AA b/\Run S X σ B φ H Rel (k b) Q:=by
 cases e:yad m st v with
 |none=>rw[e]at h;exact h.elim
 |some z=>rw[e]at h;exact⟨z,rfl,h⟩
def zdL(ha:PE X a (tE S X ca))(hb:PE X b (tE S X cb))(hs:starEach [b] X.env=[(AF,eval b X.env)]:=by rfl)(hbase:attributeBase a "append" X.env (eval a X.env)=eval a X.env:=by rfl)(hline:(apos.endLine==pos.line)=true:=by rfl)
  (hfew:((backTo pos (starEach [b] X.env)).all (λx=>!x.1)&&(backToKw pos (keywordEach [] X.env)).all (λx=>x.1.isSome)&&decide (([b]:List AO).length+([]:List BR).length+(if ([]:List BR).isEmpty then 0 else 1)<30))=true:=by rfl):
  PE X (.Call (.Attribute a "append" apos) [b] [] pos) (tE S X (.mth .append ca (.cons cb .nil))):=
 (zeI BV Dy PySem.F.type_list_append zbo ha (zE (S:=S) hb zaK hs) hbase hfew hline hs rfl).imp λσ H Q ⟨B,φ,st,ρ,rs,re,h⟩=>by
  erw[ev]at h;refine tE.bind rs re h λx H1 v st1 φ1 s1 rs1 re1 rv h1=>?_;let⟨_,e1,h1⟩:=z8 h1;have t1:∃ws,yr st1 v=AA ws:=by
   erw[yad]at e1
   cases q:yr st1 v with
   |none=>rw[q]at e1;cases e1
   |some ws=>exact⟨ws,rfl⟩
  let⟨ws,t1⟩:=t1;let⟨l,xs,rfl,hl,_⟩:=zC rs1 rv t1;refine⟨.inl ⟨rfl,xs,hl⟩,tAs.bind rs1 re1 h1 λys H2 vs st2 φ2 s2 rs2 re2 rvs h2=>?_⟩;have rv2:=rv.step s2;rcases vs with _|⟨w,_|⟨w',t⟩⟩
  .exact h2.elim
  .let⟨y,rfl,rw⟩:=rvs.one;unfold ya8 at h2;erw[ycZ]at h2;split at h2
   .rename_i n;split at h2
    .rename_i zs hz;split at h2
     .rename_i c;let⟨l',xs',e,hn,hx,lr⟩:=rs2.list rv2 hz
      cases e
      refine⟨l,xs',y,rfl,rfl,hx,by have:=zfs;have:=lr.length;lia,?_⟩;exact h2 _ _ φ2 (.put (AV hn)) (rs2.put hn ⟨_,zc,(lr.append (by erw[ye];exact⟨y,[],rfl,rw,rfl⟩)).step (.put (AV hn))⟩) (by erw[yc])
     .exact h2.elim
    .exact h2.elim
   .exact h2.elim
  .exact h2.elim
end
section
variable (S:Se)(X:Cx)
def yal(B:AH->Prop)(φ:Ph)(H:Hp)(f:Fl)(D:Ends):Prop:=
 match f with
 |.nx ρ' st'=>∀σ' H' φ',Step φ H φ' H'->yp X.K S.cl B φ' H' st'->yu X.K S.cl B φ' H' ρ' σ'->D.nx σ' H'
 |.rt v st'=>∀x H' φ',Step φ H φ' H'->yp X.K S.cl B φ' H' st'->yc X.K S.cl B φ' H' v x->D.rt x H'
 |.bk ρ' st'=>∀σ' H' φ',Step φ H φ' H'->yp X.K S.cl B φ' H' st'->yu X.K S.cl B φ' H' ρ' σ'->D.bk σ' H'
 |.ct ρ' st'=>∀σ' H' φ',Step φ H φ' H'->yp X.K S.cl B φ' H' st'->yu X.K S.cl B φ' H' ρ' σ'->D.ct σ' H'
 |.exc k ρ' st'=>∀σ' φ1 H1 e s',Step φ H φ1 H1->yu X.K S.cl B φ1 H1 ρ' σ'->ExcAt S X σ' B φ1 H1 k st' e s'->X.xe e s'
 |.bad=>False
def tS(c:Cs):TS:=λD σ H=>∃B φ st ρ,yp X.K S.cl B φ H st/\yu X.K S.cl B φ H ρ σ/\yal S X B φ H (ex S.call ρ st c) D
def tSs(c:Css):TS:=λD σ H=>∃B φ st ρ,yp X.K S.cl B φ H st/\yu X.K S.cl B φ H ρ σ/\yal S X B φ H (exs S.call ρ st c) D
end
section
variable {S:Se}{X:Cx}{σ:St}{B:AH->Prop}{φ φ1:Ph}{H H1:Hp}{st:SO}{ρ:IC.Env}{D:Ends}{pos p2 px:Ba}{a b c o:AO}{ca cb cc:Ce}{s1:BS}{ss ss':List BS}{c1:Cs}{cs cs':Css}
theorem yal.on{f:Fl}(s:Step φ H φ1 H1)(h:yal S X B φ H f D):yal S X B φ1 H1 f D:=by
 cases f with
 |nx ρ st=>exact λσ' H' φ' t=>h σ' H' φ' (s.trans t)
 |rt ρ st=>exact λσ' H' φ' t=>h σ' H' φ' (s.trans t)
 |bk ρ st=>exact λσ' H' φ' t=>h σ' H' φ' (s.trans t)
 |ct ρ st=>exact λσ' H' φ' t=>h σ' H' φ' (s.trans t)
 |exc k ρ st=>exact λσ' φ2 H2 e s' t=>h σ' φ2 H2 e s' (s.trans t)
 |bad=>exact h
theorem tE.fl{k:PV->SO->Fl}{P:V->Hp->Prop}(rs:yp X.K S.cl B φ H st)(re:yu X.K S.cl B φ H ρ σ)(h:yal S X B φ H ((ev S.call ρ st ca).fl ρ k) D)
  (n:∀x H1 v st1 φ1,Step φ H φ1 H1->yp X.K S.cl B φ1 H1 st1->yu X.K S.cl B φ1 H1 ρ σ->yc X.K S.cl B φ1 H1 v x->yal S X B φ1 H1 (k v st1) D->P x H1):tE S X ca σ H P:=by
 refine⟨B,φ,st,ρ,rs,re,?_⟩
 cases e:ev S.call ρ st ca with
 |ok v st'=>
  rw[e]at h;exact λx H' φ' s rs' rv=>n x H' v st' φ' s rs' (re.step s) rv (h.on s)
 |exc k st'=>
  rw[e]at h;exact λe s' x=>h σ φ H e s' .rfl re x
 |bad=>rw[e]at h;exact h
theorem PS.imp{t t':TS}(h:PS X s1 t')(k:∀D σ H,t D σ H->t' D σ H):PS X s1 t:=λπ s σ H D I q=>h π s σ H D I (k D σ H q)
theorem PSs.imp{t t':TS}(h:PSs X ss t')(k:∀D σ H,t D σ H->t' D σ H):PSs X ss t:=λπ s σ H D I q=>h π s σ H D I (k D σ H q)
theorem yu.set{K:AB}{cl:Nat->AH}(r:yu K cl B φ H ρ σ)(i:Nat){v:PV}{x:V}(rv:yc K cl B φ H v x):yu K cl B φ H (ρ.set i (AA v)) (σ.set i (AA x)):=by
 refine⟨by rw[Aw,Aw];exact r.len,λj w e=>?_⟩
 by_cases h:j=i
 .subst h
  by_cases hl:j<ρ.length
  .rw[BN hl]at e
   cases e
   exact⟨x,by rw[BN (by rw[<-r.len];exact hl)],rv⟩
  .rw[CA (by rw[Aw];lia)]at e
   cases e
 .rw[Aj (B9 h)]at e ⊢;exact r.get j w e
def zg8:PSs X [] (tSs S X .nil):=zjg.imp λD σ H ⟨B,φ,st,ρ,rs,re,h⟩=>by
 erw[exs]at h;exact h σ H φ .rfl rs re
def zfx(h1:PS X s1 (tS S X c1))(h2:PSs X ss (tSs S X cs)):PSs X (s1::ss) (tSs S X (.cons c1 cs)):=
 (zel h1 h2).imp λD σ H ⟨B,φ,st,ρ,rs,re,h⟩=>by
  erw[exs]at h;refine⟨B,φ,st,ρ,rs,re,?_⟩
  cases e:ex S.call ρ st c1 with
  |nx ρ1 st1=>
   rw[e]at h;exact λσ' H' φ' s rs' re'=>⟨B,φ',st1,ρ1,rs',re',h.on s⟩
  |rt v st1=>rw[e]at h;exact h
  |bk ρ1 st1=>rw[e]at h;exact h
  |ct ρ1 st1=>rw[e]at h;exact h
  |exc k ρ1 st1=>rw[e]at h;exact h
  |bad=>rw[e]at h;exact h
def zgp(he:PE X a (tE S X ca))(hs:swapsWith a AC pos.line X.env=pure false:=by rfl):PS X (.Expr a pos) (tS S X (.expr ca)):=
 (zfR he hs).imp λD σ H ⟨B,φ,st,ρ,rs,re,h⟩=>by
  erw[ex]at h;exact tE.fl rs re h λx H1 v st1 φ1 s rs1 re1 rv h1=>h1 σ H1 φ1 .rfl rs1 re1
def zin(he:PE X a (tE S X ca)):PS X (.Return (AA a) pos) (tS S X (.ret ca)):=
 (zic he).imp λD σ H ⟨B,φ,st,ρ,rs,re,h⟩=>by
  erw[ex]at h;exact tE.fl rs re h λx H1 v st1 φ1 s rs1 re1 rv h1=>h1 x H1 φ1 .rfl rs1 rv
def zgh:PS X (.Return AC pos) (tS S X (.ret (.cst .non))):=
 zjh.imp λD σ H ⟨B,φ,st,ρ,rs,re,h⟩=>by
  erw[ex,ev,R.fl]at h;exact h .non H φ .rfl rs (by erw[yc])
def ziI{i:Nat}{x:AM}(hN:X.N.Nodup)(hi:X.N[i]?=AA x)(hx:Loc X.env.scope x)(he:PE X a (tE S X ca))(hs:swapsWith a (AA (.Name x px)) pos.line X.env=pure false:=by rfl)
  (hf:X.fn x=AD \/ X.env.scope.names.lookup x=AA .local:=by first|exact .inl rfl|exact .inr rfl|assumption):PS X (.Assign [.Name x px] a pos) (tS S X (.asg (.n i) ca)):=
 (zh6 hN hi hx he hs hf).imp λD σ H ⟨B,φ,st,ρ,rs,re,h⟩=>by
  erw[ex]at h;exact tE.fl rs re h λx H1 v st1 φ1 s rs1 re1 rv h1=>h1 _ H1 φ1 .rfl rs1 (re1.set i rv)
theorem flT(r:R PV)(f:Bool->SO->Fl):(r.fl ρ λx st1=>onF (yao st1 x) λk=>f k st1)=(yaC r).fl ρ f:=by
 cases r with
 |ok v s=>
  erw[R.fl,yaC,R.bind]
  cases yao s v<;>rfl
 |exc c s=>rfl
 |bad=>rfl
theorem tTs.fl{k:Bool->SO->Fl}{P:Bool->Hp->Prop}(rs:yp X.K S.cl B φ H st)(re:yu X.K S.cl B φ H ρ σ)(h:yal S X B φ H ((yaC (ev S.call ρ st ca)).fl ρ k) D)
  (n:∀b H1 st1 φ1,Step φ H φ1 H1->yp X.K S.cl B φ1 H1 st1->yu X.K S.cl B φ1 H1 ρ σ->yal S X B φ1 H1 (k b st1) D->P b H1):tTs S X ca σ H P:=by
 refine⟨B,φ,st,ρ,rs,re,?_⟩
 cases e:yaC (ev S.call ρ st ca)with
 |ok v st'=>
  rw[e]at h;exact λx H' φ' s rs' rv=>by
   subst rv;exact n v H' st' φ' s rs' (re.step s) (h.on s)
 |exc k st'=>
  rw[e]at h;exact λe s' x=>h σ φ H e s' .rfl re x
 |bad=>rw[e]at h;exact h
def ziQ(hc:PT X c (tTs S X cc))(ha:PSs X ss (tSs S X cs))(hb:PSs X ss' (tSs S X cs')):PS X (.If c ss ss' pos) (tS S X (.ite cc cs cs')):=
 (ziX hc ha hb).imp λD σ H ⟨B,φ,st,ρ,rs,re,h⟩=>by
  erw[ex]at h;rw[flT _ λk st1=>cond k (exs S.call ρ st1 cs) (exs S.call ρ st1 cs')]at h;refine tTs.fl rs re h λk H1 st1 φ1 s rs1 re1 h1=>?_
  cases k with
  |true=>exact⟨B,φ1,st1,ρ,rs1,re1,h1⟩
  |false=>exact⟨B,φ1,st1,ρ,rs1,re1,h1⟩
def zgM{i:Nat}{x:AM}{op:CQ}{bo:BOp}(hN:X.N.Nodup)(hi:X.N[i]?=AA x)(hx:Loc X.env.scope x)(he:PE X a (tE S X ca))(ho:PIp X op (rT2 S X (yaH bo)))
  (hf:X.fn x=AD \/ X.env.scope.names.lookup x=AA .local:=by first|exact .inl rfl|exact .inr rfl|assumption) (hd:(x==("__debug__":AM))=false:=by decide) (hcd:(x==("__classdict__":AM))=false:=by decide):PS X (.AugAssign (.Name x px) op a pos) (tS S X (.aug i bo ca)):=
 (zfe hN hi hx he ho hf).imp λD σ H ⟨B,φ,st,ρ,rs,re,h⟩=>by
  erw[ex]at h
  cases q:ρ[i]? with
  |none=>rw[q]at h;exact h.elim
  |some w=>
   cases w with
   |none=>rw[q]at h;exact h.elim
   |some w=>
    rw[q]at h;let⟨y,hy,rw⟩:=re.get i w q;refine⟨y,hy,tE.fl rs re h λz H1 v st1 φ1 s rs1 re1 rv h1=>?_⟩
    cases e:yaH bo w v with
    |none=>rw[e]at h1;exact h1.elim
    |some u=>
     rw[e]at h1;exact⟨B,φ1,st1,w,v,u,rs1,rw.step s,rv,e,λz' H' φ' s' rs' rz=>h1 _ H' φ' s' rs' ((re1.step s').set i rz)⟩
end
section
variable (S:Se)(X:Cx)
structure Drw(B:AH->Prop)(φ0:Ph)(H0:Hp)(xs:List PV)(J:It):Prop where
 stop:∀φ H,Step φ0 H0 φ H->J.stop xs.length H
 go:∀(i:Nat) φ H,Step φ0 H0 φ H->i<xs.length->J.go i H
 yld:∀(i:Nat) φ H st x H' (B':AH->Prop),(∀y,B' y->B y \/ H0 y=AC)->Step φ0 H0 φ H->yp X.K S.cl B' φ H st->i<xs.length->J.yld i H x H'->∃v,xs[i]?=AA v/\yc X.K S.cl B' φ H' v x/\∀b o,H b=AA o->H' b=AA o
abbrev RD(B:AH->Prop):Ph->Hp->List PV->It->Prop:=λφ H=>Drw S X B φ H
def tI(c:Cit):TI:=λσ H R=>∃B φ st ρ,yp X.K S.cl B φ H st/\yu X.K S.cl B φ H ρ σ/\Run S X σ B φ H (RD S X B) (evi S.call ρ st c) R
end
section
variable {S:Se}{X:Cx}{σ:St}{B:AH->Prop}{φ φ1:Ph}{H H1:Hp}{st:SO}{ρ:IC.Env}{D:Ends}{pos p p2 px:Ba}{a b c o tg l:AO}{ca cb cc:Ce}{es:List AO}{ces:Ces}{ss:List BS}{cs:Css}{ci:Cit}{ct:Tg}
theorem PI.imp{t t':TI}(h:PI X tg l t')(k:∀σ H R,t σ H R->t' σ H R):PI X tg l t:=λπ s σ H R I q=>h π s σ H R I (k σ H R q)
def zhV{tl:TE}(hl:PE X l tl):PI X tg l (λσ H R=>tl σ H λx H1=>∃a,x=.ref a/\(((∃xs,SqL X.K H1 a xs)/\R (Itl X.K a) H1) \/ ((∃xs,SqT X.K H1 a xs)/\R (Itt X.K a) H1))):=by
 intro π s σ H R I h;refine thn (hl π s σ H _ I h) λv s1 kq=>?_;let⟨x,H1,I1,r1,q1⟩:=kq;let⟨a,e,q1⟩:=q1;subst e
 cases r1
 rcases q1 with⟨⟨xs,hq⟩,q⟩|⟨⟨xs,hq⟩,q⟩
 .let⟨its,rv,p,hz⟩:=I1.list hq;refine DV p.isList ?_;refine⟨s1.heap.objs.size,[s1.heap.objs.size],_,_,H1,rfl,I1.kept (t':=s1.toks) λb o e=>AN _ e,zdg a _,⟨_,A3 _ rfl,rfl,rfl⟩,λb hb=>?_,q⟩;have e:b=s1.heap.objs.size:=by simpa using hb
  subst e;exact I1.fpOk (AU _) (I1.hok.fresh (AU _))
 .let⟨its,rv,p,hz⟩:=I1.tuple hq;refine B7 (show s1.heap.IsTuple a its.toArray from p) ?_;refine⟨s1.heap.objs.size,[s1.heap.objs.size],_,_,H1,rfl,I1.kept (t':=s1.toks) λb o e=>AN _ e,zcz a _,⟨_,A3 _ rfl,rfl,rfl⟩,λb hb=>?_,q⟩;have e:b=s1.heap.objs.size:=by simpa using hb
  subst e;exact I1.fpOk (AU _) (I1.hok.fresh (AU _))
def zf5{k:Bool}{vs:List PV}{xs:List V}{y:AH}(rt:ybc X.K B φ H k y xs)(l:ye X.K S.cl B φ H vs xs):Drw S X B φ H vs (Itt X.K y):=by
 have hl:=l.length;refine⟨λφ' H' s=>⟨xs,(rt.step s).sq,by lia⟩,λi φ' H' s hi=>⟨xs,xs[i]'∅,(rt.step s).sq,by simp[show i<xs.length by lia]⟩,λi φ' H' st x H2 B' hB s rs hi q=>?_⟩;let⟨rfl,q⟩:=q;obtain⟨v,hv⟩:∃v,vs[i]?=AA v:=⟨vs[i],by simp[hi]⟩;let⟨x',hx',rv⟩:=l.get i hv;have:=q xs (rt.step s).sq;rw[this]at hx'
 cases hx'
 exact⟨v,hv,(rv.moreB hB).step s,λ_ _ e=>e⟩
def zgl{vs:List PV}{xs:List V}{y:AH}(rt:ybO B φ H y xs)(l:ye X.K S.cl B φ H vs xs):Drw S X B φ H vs (Itl X.K y):=by
 have hl:=l.length;refine⟨λφ' H' s=>⟨xs,(rt.step s).sq,by lia⟩,λi φ' H' s hi=>⟨xs,xs[i]'∅,(rt.step s).sq,by simp[show i<xs.length by lia]⟩,λi φ' H' st x H2 B' hB s rs hi q=>?_⟩;let⟨rfl,q⟩:=q;obtain⟨v,hv⟩:∃v,vs[i]?=AA v:=⟨vs[i],by simp[hi]⟩;let⟨x',hx',rv⟩:=l.get i hv;have:=q xs (rt.step s).sq;rw[this]at hx'
 cases hx'
 exact⟨v,hv,(rv.moreB hB).step s,λ_ _ e=>e⟩
def zhe(hl:PE X l (tE S X ca)):PI X tg l (tI S X (.seq ca)):=
 (zhV hl).imp λσ H R ⟨B,φ,st,ρ,rs,re,h⟩=>by
  erw[evi]at h;refine tE.bind rs re h λx H1 v st1 φ1 s1 rs1 re1 rv h1=>?_
  cases v with
  |tp k vs=>
   erw[yc]at rv;let⟨y,xs,rfl,rt,l⟩:=rv;exact⟨y,rfl,.inr ⟨⟨xs,rt.sq⟩,h1.ok rs1 (zf5 rt l)⟩⟩
  |lst vs=>
   erw[yc]at rv;let⟨y,xs,rfl,rt,l⟩:=rv;exact⟨y,rfl,.inl ⟨⟨xs,rt.sq⟩,h1.ok rs1 (zgl rt l)⟩⟩
  |_=>exact h1.elim
def zaJ:∀(n:Nat) (lo d:Int) (i:Nat),(yo n lo d)[i]?=if i<n then AA (.int (lo+i*d))else AC
 |0,lo,d,i=>by simp[yo]
 |n+1,lo,d,0=>by simp[yo]
 |n+1,lo,d,i+1=>by
  erw[yo,AX];rw[zaJ n (lo+d) d i]
  by_cases h:i<n
  .rw[if_pos h,if_pos ∅,Int.natCast_succ,Int.add_mul,Int.one_mul,Fc,Int.add_comm d]
  .rw[if_neg h,if_neg ∅]
def zM:∀(n:Nat) (lo d:Int),(yo n lo d).length=n
 |0,lo,d=>rfl
 |n+1,lo,d=>by simp[yo,zM n]
def zbA{lo:Int}{n:Nat}:Drw S X B φ H (yo n lo 1) (Itr lo n):=by
 refine⟨λφ' H' s=>by rw[zM];exact AU _,λi φ' H' s hi=>by rw[zM]at hi;exact hi,λi φ' H' st x H2 B' hB s rs hi q=>?_⟩;rw[zM]at hi;let⟨rfl,rfl⟩:=q;refine⟨.int (lo+i),?_,by erw[yc],λ_ _ e=>e⟩;rw[zaJ,if_pos hi,GH]
def zdp{o:Option (List PV)}{st:SO}{Q:It->Hp->Prop}(h:Run S X σ B φ H (RD S X B) (toL o st) Q):∃xs,o=AA xs/\Run S X σ B φ H (RD S X B) (.ok xs st) Q:=by
 cases o with
 |none=>exact h.elim
 |some z=>exact⟨z,rfl,h⟩
def zdd(hg:Gl X "range")(hm:X.mg "range"=AC)(ha:PE X a (tE S X ca))(hs:starEach [a] X.env=[(AF,eval a X.env)]:=by rfl):PI X tg (.Call (.Name "range" p) [a] [] pos) (tI S X (.range1 ca)):=
 (zdy hg hm (zJ ha zcZ hs) hs).imp λσ H R ⟨B,φ,st,ρ,rs,re,h⟩=>by
  erw[evi]at h;refine tE.bind rs re h λx H1 v st1 φ1 s1 rs1 re1 rv h1=>?_;let⟨xs,e,h1⟩:=zdp h1
  cases v with
  |int j=>
   erw[yb7]at e;split at e
   .cases e
    erw[yc]at rv;subst rv;exact⟨j,rfl,by lia,by lia,h1.ok rs1 zbA⟩
   .cases e
  |_=>cases e
def zeK{x y:PV}{xs:List PV}(h:yb8 x y=AA xs):∃i j,x=.int i/\y=.int j/\i.natAbs<1000000000/\j.natAbs<1000000000/\xs=yo (j-i).toNat i 1:=by
 unfold yb8 at h;split at h
 .split at h
  .rename_i c;exact⟨_,_,rfl,rfl,c.1,c.2,(AW h).symm⟩
  .cases h
 .cases h
def zc6(hg:Gl X "range")(hm:X.mg "range"=AC)(ha:PE X a (tE S X ca))(hb:PE X b (tE S X cb))(hs:starEach [a,b] X.env=[(AF,eval a X.env),(AF,eval b X.env)]:=by rfl)(hs2:starEach [b] X.env=[(AF,eval b X.env)]:=by rfl):
  PI X tg (.Call (.Name "range" p) [a,b] [] pos) (tI S X (.range2 ca cb)):=
 (zdk hg hm (zJ ha (zJ hb zcZ hs2) (by rw[hs,hs2])) hs hs2).imp λσ H R ⟨B,φ,st,ρ,rs,re,h⟩=>by
  erw[evi]at h;refine tE.bind rs re h λx H1 v st1 φ1 s1 rs1 re1 rv h1=>tE.bind rs1 re1 h1 λy H2 w st2 φ2 s2 rs2 re2 rw h2=>?_;let⟨xs,e,h2⟩:=zdp h2;let⟨i,j,rfl,rfl,hi,hj,rfl⟩:=zeK e;erw[yc]at rv rw;subst rv rw;exact⟨i,j,rfl,⟨by lia,by lia,by lia,by lia⟩,h2.ok rs2 zbA⟩
def zay:∀(xs:List PV) (k i:Nat),(yP k xs)[i]?=(xs[i]?).map λx=>.tup [.int ((k+i:Nat):Int),x]
 |[],k,i=>by simp[yP]
 |x::xs,k,0=>by simp[yP]
 |x::xs,k,i+1=>by
  erw[yP,AX];rw[zay xs (k+1) i];have:k+1+i=k+(i+1):=by lia
  rw[this]
def zak:∀(xs:List PV) (k:Nat),(yP k xs).length=xs.length
 |[],k=>rfl
 |x::xs,k=>by simp[yP,zak xs]
def zd0{k:Bool}{vs:List PV}{xs:List V}{y:AH}(rt:ybc X.K B φ H k y xs)(l:ye X.K S.cl B φ H vs xs):Drw S X B φ H (yP 0 vs) (Ite X.K y):=by
 have hl:=l.length;have hp:=zak vs 0;refine⟨λφ' H' s=>⟨xs,(rt.step s).sq,by lia⟩,λi φ' H' s hi=>⟨xs,xs[i]'∅,(rt.step s).sq,by simp[show i<xs.length by lia]⟩,λi φ' H' st x H2 B' hB s rs hi q=>?_⟩;let⟨T,hT,rfl,q⟩:=q;obtain⟨v,hv⟩:∃v,vs[i]?=AA v:=⟨vs[i]'∅,by simp[show i<vs.length by lia]⟩;let⟨x',hx',rv⟩:=l.get i hv;have e:=q xs x' (rt.step s).sq hx';subst e;refine⟨.tup [.int i,v],?_,.tup_new hT rs ?_,λb o e=>by rw[za (zb e hT)];exact e⟩
 .rw[zay,hv];simp
 .simp only[ye,yc];exact⟨_,_,rfl,rfl,x',[],rfl,(rv.moreB hB).step s,rfl⟩
def zgj{es:List AO}{kk:Nat}{tp:Ba}(hg:Gl X "enumerate")(hm:X.mg "enumerate"=AC)(ha:PE X a (tE S X ca))(hs:starEach [a] X.env=[(AF,eval a X.env)]:=by rfl):
  PI X (.Tuple es kk tp) (.Call (.Name "enumerate" p) [a] [] pos) (tI S X (.enum ca)):=
 (zeZ hg hm (zJ ha zcZ hs) hs).imp λσ H R ⟨B,φ,st,ρ,rs,re,h⟩=>by
  erw[evi]at h;refine tE.bind rs re h λx H1 v st1 φ1 s1 rs1 re1 rv h1=>?_
  cases v with
  |tp k vs=>
   erw[yc]at rv;let⟨y,xs,rfl,rt,l⟩:=rv;exact⟨y,rfl,⟨xs,rt.sq⟩,h1.ok rs1 (zd0 rt l)⟩
  |_=>exact h1.elim
def tG(S:Se)(X:Cx)(t:Tg):TG:=λv σ H Q=>∃B φ st ρ w ρ',yp X.K S.cl B φ H st/\yu X.K S.cl B φ H ρ σ/\yc X.K S.cl B φ H w v/\yG t w ρ=AA ρ'/\∀σ',yu X.K S.cl B φ H ρ' σ'->Q σ' H
theorem PG.imp{t t':TG}(h:PG X tg t')(k:∀v σ H Q,t v σ H Q->t' v σ H Q):PG X tg t:=λπ s σ H v u Q I rv q=>h π s σ H v u Q I rv (k v σ H Q q)
def zgo{i:Nat}{x:AM}(hN:X.N.Nodup)(hi:X.N[i]?=AA x)(hx:Loc X.env.scope x)(hf:X.fn x=AD \/ X.env.scope.names.lookup x=AA .local:=by first|exact .inl rfl|exact .inr rfl|assumption):PG X (.Name x pos) (tG S X (.n i)):=
 (zdc hN hi hx hf).imp λv σ H Q ⟨B,φ,st,ρ,w,ρ',rs,re,rv,e,q⟩=>by
  cases e
  exact q _ (re.set i rv)
def gNs(l:List Nat):TGs:=λvs σ H Q=>vs.length=l.length/\Q ((l.zip vs).foldl (λσ p=>σ.set p.1 (AA p.2)) σ) H
theorem PGs.imp{es:List AO}{t t':TGs}(h:PGs X es t')(k:∀v σ H Q,t v σ H Q->t' v σ H Q):PGs X es t:=λπ s σ H vs us Q I rv q=>h π s σ H vs us Q I rv (k vs σ H Q q)
def zgx:PGs X [] (gNs []):=zji.imp λvs σ H Q ⟨h,q⟩=>by
 cases vs with
 |nil=>exact⟨rfl,q⟩
 |cons _ _=>cases h
def zeQ{es:List AO}{l:List Nat}{i:Nat}{x:AM}(hN:X.N.Nodup)(hi:X.N[i]?=AA x)(hx:Loc X.env.scope x)(h2:PGs X es (gNs l))(hf:X.fn x=AD \/ X.env.scope.names.lookup x=AA .local:=by first|exact .inl rfl|exact .inr rfl|assumption):PGs X (.Name x pos::es) (gNs (i::l)):=
 (zd4 (zdc hN hi hx hf) h2).imp λvs σ H Q ⟨h,q⟩=>by
  cases vs with
  |nil=>cases h
  |cons v vs=>exact⟨v,vs,rfl,by simpa using h,q⟩
theorem yu.sets{K:AB}{cl:Nat->AH}:∀(l:List Nat) {vs:List PV} {xs:List V} {ρ:IC.Env} {σ:St},yu K cl B φ H ρ σ->ye K cl B φ H vs xs ->
  yu K cl B φ H ((l.zip vs).foldl (λρ p=>ρ.set p.1 (AA p.2)) ρ) ((l.zip xs).foldl (λσ p=>σ.set p.1 (AA p.2)) σ)
 |[],vs,xs,ρ,σ,re,l=>by simpa using re
 |i::is,[],xs,ρ,σ,re,l=>by
  erw[ye]at l;subst l;simpa using re
 |i::is,v::vs,xs,ρ,σ,re,l=>by
  erw[ye]at l;let⟨y,ys,rfl,r,l⟩:=l;erw[DH,Bf];exact yu.sets is (re.set i r) l
def ziC{es:List AO}{l:List Nat}{k:Nat}(hc:X.calm=AD)(h:PGs X es (gNs l))(hn:(assignEach es X.env).length=l.length:=by rfl)(hst:(assignEach es X.env).findIdx? (·.1)=none:=by rfl):PG X (.Tuple es k pos) (tG S X (.t l)):=
 (zhO hc h hn hst).imp λv σ H Q ⟨B,φ,st,ρ,w,ρ',rs,re,rv,e,q⟩=>by
  cases w with
  |tp kk vs=>
   erw[yG]at e;split at e
   .rename_i c
    cases e
    erw[yc]at rv;let⟨y,xs,rfl,rt,lr⟩:=rv;have hl:=lr.length;exact⟨y,xs,rfl,rt.sq,by lia,by lia,q _ (yu.sets l re lr)⟩
   .cases e
  |_=>cases e
def zgk{es:List AO}{l:List Nat}{k:Nat}(he:PE X a (tE S X ca))(hg:PG X (.Tuple es k p2) (tG S X (.t l)))(hs:swapsWithSole [.Tuple es k p2] a pos.line X.env=pure false:=by rfl)(hw:swappedStores [.Tuple es k p2] a X.env=pure none:=by rfl):
  PS X (.Assign [.Tuple es k p2] a pos) (tS S X (.asg (.t l) ca)):=
 (zfj he hg hs hw).imp λD σ H ⟨B,φ,st,ρ,rs,re,h⟩=>by
  erw[ex]at h;refine tE.fl rs re h λx H1 v st1 φ1 s rs1 re1 rv h1=>?_
  cases e:yG (.t l) v ρ with
  |none=>rw[e]at h1;exact h1.elim
  |some ρ'=>
   rw[e]at h1;exact⟨B,φ1,st1,ρ,v,ρ',rs1,re1,rv,e,λσ' re'=>h1 σ' H1 φ1 .rfl rs1 re'⟩
theorem tI.fl{k:List PV->SO->Fl}{P:It->Hp->Prop}(rs:yp X.K S.cl B φ H st)(re:yu X.K S.cl B φ H ρ σ)(h:yal S X B φ H ((evi S.call ρ st ci).fl ρ k) D)
  (n:∀x H1 v st1 φ1,Step φ H φ1 H1->yp X.K S.cl B φ1 H1 st1->yu X.K S.cl B φ1 H1 ρ σ->Drw S X B φ1 H1 v x->yal S X B φ1 H1 (k v st1) D->P x H1):tI S X ci σ H P:=by
 refine⟨B,φ,st,ρ,rs,re,?_⟩
 cases e:evi S.call ρ st ci with
 |ok v st'=>
  rw[e]at h;exact λx H' φ' s rs' rv=>n x H' v st' φ' s rs' (re.step s) rv (h.on s)
 |exc k st'=>
  rw[e]at h;exact λe s' x=>h σ φ H e s' .rfl re x
 |bad=>rw[e]at h;exact h
def ziy(hp:D2 (model X.prog X.w) X.A X.env X.xe)(hc:X.calm=AD)(hi:PI X tg l (tI S X ci))(hg:PG X tg (tG S X ct))(hb:PSs X ss (tSs S X cs))(hs:∀x,foldedSetIterable l X.env x=pure x:=by intro _;rfl):
  PS X (.For tg l ss [] pos) (tS S X (.for ct ci cs)):=
 (zhb hp hc hi hg hb hs).imp λD σ H ⟨B,φ,st,ρ,rs,re,h⟩=>by
  erw[ex]at h;refine tI.fl rs re h λJ H1 xs st1 φ1 s1 rs1 re1 dr h1=>?_;refine⟨λi m σ H=>∃φ st ρ,i+m=xs.length/\Step φ1 H1 φ H/\yp X.K S.cl B φ H st/\yu X.K S.cl B φ H ρ σ/\yal S X B φ H (forL ct (λρ2 st2=>exs S.call ρ2 st2 cs) (xs.drop i) ρ st) D,
   ⟨xs.length,φ1,st1,ρ,by lia,.rfl,rs1,re1,by simpa using h1⟩,?_⟩
  rintro i m σ2 H2 ⟨φ2,st2,ρ2,hm,s2,rs2,re2,h2⟩
  by_cases hi:i<xs.length
  .refine .inr ⟨dr.go i φ2 H2 s2 hi,λσ' H'=>∃φ st ρ,Step φ1 H1 φ H'/\yp X.K S.cl B φ H' st/\yu X.K S.cl B φ H' ρ σ'/\yal S X B φ H' (forL ct (λρ2 st2=>exs S.call ρ2 st2 cs) (xs.drop (i+1)) ρ st) D,
    λσ' H' ⟨φ,st,ρ,s,q⟩=>⟨m-1,by lia,φ,st,ρ,by lia,s,q⟩,λx H3 hy=>?_⟩
   let⟨v,hv,rv,kk⟩:=dr.yld i φ2 H2 st2 x H3 B (λ_ z=>.inl z) s2 rs2 hi hy;have e:xs.drop i=v::xs.drop (i+1):=by
    rw[DM hi];rw[DZ hi]at hv;rw[AW hv]
   have s3:Step φ2 H2 φ2 H3:=⟨λb o _ e=>kk b o e,AU _,λ_ _ _ e=>e,λ_ h=>.inl h⟩;have rs3:yp X.K S.cl B φ2 H3 st2:=rs2.same kk;rw[e,forL]at h2
   cases eb:yG ct v ρ2 with
   |none=>rw[eb]at h2;exact h2.elim
   |some ρ3=>
    rw[eb]at h2;refine⟨B,φ2,st2,ρ2,v,ρ3,rs3,re2.step s3,rv,eb,λσ' re'=>⟨B,φ2,st2,ρ3,rs3,re',?_⟩⟩;have h3:=yal.on s3 h2;dsimp only at h3
    cases ee:exs S.call ρ3 st2 cs with
    |nx ρ4 st4=>
     rw[ee]at h3;exact λσ4 H4 φ4 s4 rs4 re4=>⟨φ4,st4,ρ4,s2.trans (s3.trans s4),rs4,re4,yal.on s4 h3⟩
    |ct ρ4 st4=>
     rw[ee]at h3;exact λσ4 H4 φ4 s4 rs4 re4=>⟨φ4,st4,ρ4,s2.trans (s3.trans s4),rs4,re4,yal.on s4 h3⟩
    |bk ρ4 st4=>rw[ee]at h3;exact h3
    |rt v4 st4=>rw[ee]at h3;exact h3
    |exc k ρ4 st4=>rw[ee]at h3;exact h3
    |bad=>rw[ee]at h3;exact h3
  .have e:i=xs.length:=by lia
   subst e;rw[FJ,forL]at h2;exact .inl ⟨dr.stop φ2 H2 s2,h2 σ2 H2 φ2 .rfl rs2 re2⟩
def zer(hp:D2 (model X.prog X.w) X.A X.env X.xe)(hc:PT X c (tTs S X cc))(hb:PSs X ss (tSs S X cs)):PS X (.While c ss [] pos) (tS S X (.while cc cs)):=
 (zey hp hc hb).imp λD σ H ⟨B,φ,st,ρ,rs,re,h⟩=>by
  erw[ex]at h;refine⟨λm σ H=>∃φ st ρ,yp X.K S.cl B φ H st/\yu X.K S.cl B φ H ρ σ/\yal S X B φ H (yai (λρ2 st2=>ev S.call ρ2 st2 cc) (λρ2 st2=>exs S.call ρ2 st2 cs) m ρ st) D,⟨100000,φ,st,ρ,rs,re,h⟩,?_⟩
  rintro m σ2 H2 ⟨φ2,st2,ρ2,rs2,re2,h2⟩
  cases m with
  |zero=>exact h2.elim
  |succ m=>
   rw[yai]at h2;rw[flT _ λk st1=>cond k (yae (exs S.call ρ2 st1 cs) λρ2 st2=>yai (λρ2 st2=>ev S.call ρ2 st2 cc) (λρ2 st2=>exs S.call ρ2 st2 cs) m ρ2 st2) (.nx ρ2 st1)]at h2;refine tTs.fl rs2 re2 h2 λk H3 st3 φ3 s3 rs3 re3 h3=>?_
   cases k with
   |false=>exact h3 σ2 H3 φ3 .rfl rs3 re3
   |true=>
    refine⟨λσ' H'=>∃φ st ρ,yp X.K S.cl B φ H' st/\yu X.K S.cl B φ H' ρ σ'/\yal S X B φ H' (yai (λρ2 st2=>ev S.call ρ2 st2 cc) (λρ2 st2=>exs S.call ρ2 st2 cs) m ρ st) D,
     λσ' H' q=>⟨m,by lia,q⟩,B,φ3,st3,ρ2,rs3,re3,?_⟩
    erw[cond_true]at h3
    cases ee:exs S.call ρ2 st3 cs with
    |nx ρ4 st4=>
     rw[ee]at h3;exact λσ4 H4 φ4 s4 rs4 re4=>⟨φ4,st4,ρ4,rs4,re4,yal.on s4 h3⟩
    |ct ρ4 st4=>
     rw[ee]at h3;exact λσ4 H4 φ4 s4 rs4 re4=>⟨φ4,st4,ρ4,rs4,re4,yal.on s4 h3⟩
    |bk ρ4 st4=>rw[ee]at h3;exact h3
    |rt v4 st4=>rw[ee]at h3;exact h3
    |exc k ρ4 st4=>rw[ee]at h3;exact h3
    |bad=>rw[ee]at h3;exact h3
end
section
variable (S:Se)(K:AB)
def ydY{α β:Type}(B:AH->Prop)(φ:Ph)(H:Hp)(Rel:Ph->Hp->α->β->Prop)(r:R α)(Q:β->Hp->Prop):Prop:=
 match r with
 |.ok v st'=>∀x H' φ',Step φ H φ' H'->yp K S.cl B φ' H' st'->Rel φ' H' v x->Q x H'
 |_=>False
def tE0(c:Ce):TE:=λσ H Q=>∃B φ st ρ,yp K S.cl B φ H st/\yu K S.cl B φ H ρ σ/\ydY S K B φ H (λφ H=>yc K S.cl B φ H) (ev S.call ρ st c) Q
def tT0(c:Ce):TT:=λσ H Q=>∃B φ st ρ,yp K S.cl B φ H st/\yu K S.cl B φ H ρ σ/\ydY S K B φ H RB (yaC (ev S.call ρ st c)) Q
def tG0(t:Tg):TG:=λv σ H Q=>∃B φ st ρ w ρ',yp K S.cl B φ H st/\yu K S.cl B φ H ρ σ/\yc K S.cl B φ H w v/\yG t w ρ=AA ρ'/\∀σ',yu K S.cl B φ H ρ' σ'->Q σ' H
end
section
variable {S:Se}{X:Cx}{K:AB}{cl:Nat->AH}{σ:St}{B:AH->Prop}{φ φ1:Ph}{H H1:Hp}{st:SO}{ρ:IC.Env}{pos p p2 px:Ba}{a b c o tg l elt iter:AO}{ca cb cc ce:Ce}{ci:Cit}{ct:Tg}
def zgs(hK:X.K=K)(h:PE X a (tE S X ca)):PE X a (tE0 S K ca):=by
 subst hK;refine h.imp λσ H Q kq=>?_;let⟨B,φ,st,ρ,rs,re,q⟩:=kq;refine ⟨B,φ,st,ρ,rs,re,?_⟩
 cases e:ev S.call ρ st ca with
 |ok v st'=>rw[e]at q;exact q
 |exc k st'=>rw[e]at q;exact q.elim
 |bad=>rw[e]at q;exact q
def zfO(hK:X.K=K)(h:PT X a (tTs S X ca)):PTs X [a] (tT0 S K ca):=by
 subst hK;refine zfA (h.imp λσ H Q kq=>?_);let⟨B,φ,st,ρ,rs,re,q⟩:=kq;refine ⟨B,φ,st,ρ,rs,re,?_⟩
 cases e:yaC (ev S.call ρ st ca)with
 |ok v st'=>rw[e]at q;exact q
 |exc k st'=>rw[e]at q;exact q.elim
 |bad=>rw[e]at q;exact q
def zeV:PTs X [] (tT0 S K (.cst (.bl AD))):=λπ s σ H Q I ⟨B,φ,st,ρ,rs,re,q⟩=>by
 refine zfz π s σ H Q I ?_;erw[ev,yaC,R.bind,yao,onO]at q;exact q AD H φ .rfl rs rfl
def zgy(hK:X.K=K)(h:PG X tg (tG S X ct)):PG X tg (tG0 S K ct):=by
 subst hK;exact h
theorem ybc.skip{k:Bool}{D y:AH}{u:HO}{xs:List V}(hD:B D)(r:ybc K B φ H k y xs):ybc K B φ (L2.upd H D u) k y xs:=by
 rcases r with⟨r,b,n⟩|r
 .exact .inl ⟨by rw[za (show y≠D from λz=>b (z ▸ hD))];exact r,b,n⟩
 .exact .inr r
mutual
theorem yc.skip{D:AH}{u:HO}(hD:B D):∀(v:PV) (x:V),yc K cl B φ H v x->yc K cl B φ (L2.upd H D u) v x
 |.non,x,h=>by erw[yc]at h ⊢;exact h
 |.bl b,x,h=>by erw[yc]at h ⊢;exact h
 |.int i,x,h=>by erw[yc]at h ⊢;exact h
 |.str y,x,h=>by erw[yc]at h ⊢;exact h
 |.tp k vs,x,h=>by
  erw[yc]at h ⊢;let⟨y,xs,e,r,l⟩:=h;exact⟨y,xs,e,r.skip hD,ye.skip hD vs xs l⟩
 |.lst vs,x,h=>by
  erw[yc]at h ⊢;let⟨y,xs,e,⟨r,b,n⟩,l⟩:=h;exact⟨y,xs,e,⟨by rw[za (show y≠D from λz=>b (z ▸ hD))];exact r,b,n⟩,ye.skip hD vs xs l⟩
 |.loc n,x,h=>by erw[yc]at h ⊢;exact h
 |.fnc j,x,h=>by erw[yc]at h ⊢;exact h
 |.exn c,x,h=>by
  erw[yc]at h ⊢;let⟨y,e,r,b,n⟩:=h;exact⟨y,e,by rw[za (show y≠D from λz=>b (z ▸ hD))];exact r,b,n⟩
 |.scr vs,x,h=>by
  erw[yc]at h ⊢;let⟨y,xs,e,r,l⟩:=h;refine⟨y,xs,e,?_,ye.skip hD vs xs l⟩;rcases r with⟨r,b,n⟩|r
  .refine .inl ⟨?_,b,n⟩;have ne:y≠D:=λz=>b (z ▸ hD);rcases r with r|⟨o,r⟩
   .exact .inl (by rw[za ne];exact r)
   .exact .inr ⟨o,by rw[za ne];exact r⟩
  .exact .inr r
theorem ye.skip{D:AH}{u:HO}(hD:B D):∀(v:List PV) (x:List V),ye K cl B φ H v x->ye K cl B φ (L2.upd H D u) v x
 |[],x,h=>by erw[ye]at h ⊢;exact h
 |v::vs,x,h=>by
  erw[ye]at h ⊢;let⟨y,ys,e,r,l⟩:=h;exact⟨y,ys,e,yc.skip hD v y r,ye.skip hD vs ys l⟩
end
theorem DK.skip{D:AH}{u:HO}(hD:B D):∀{kvs:List (PV×PV)} {ks:List (Key×V)},DK K cl B φ H kvs ks->DK K cl B φ (L2.upd H D u) kvs ks
 |[],ks,h=>h
 |(k,v)::r,ks,h=>by
  let⟨q,x,t,e,m,rv,l⟩:=h;exact⟨q,x,t,e,m,rv.skip hD,DK.skip hD l⟩
theorem DT.skip{D:AH}{u:HO}(hD:B D):∀{kvs:List (PV×PV)} {ks:List (List Key×V)},DT K cl B φ H kvs ks->DT K cl B φ (L2.upd H D u) kvs ks
 |[],ks,h=>h
 |(k,v)::r,ks,h=>by
  let⟨q,x,t,e,m,rv,l⟩:=h;exact⟨q,x,t,e,m,rv.skip hD,DT.skip hD l⟩
theorem FS.skip{D:AH}{u:HO}(hD:B D):∀{kvs:List (AM×PV)} {ks:List (AM×V)},FS K cl B φ H kvs ks->FS K cl B φ (L2.upd H D u) kvs ks
 |[],ks,h=>h
 |(k,v)::r,ks,h=>by
  let⟨x,t,e,rv,l⟩:=h;exact⟨x,t,e,rv.skip hD,FS.skip hD l⟩
theorem yp.skip{D:AH}{u:HO}(hD:B D)(rs:yp K cl B φ H st):yp K cl B φ (L2.upd H D u) st:=by
 refine⟨rs.len,rs.inj,λn y e=>?_,rs.liv,rs.nb,λy h=>?_⟩
 .let⟨o,q,r⟩:=rs.obj n y e;have ne:y≠D:=λz=>rs.nb y (AV e) (z ▸ hD);refine⟨o,q,?_⟩
  cases o with
  |lst vs=>
   let⟨xs,hx,l⟩:=r;exact⟨xs,by rw[za ne];exact hx,l.skip hD⟩
  |dct t kvs=>
   cases t with
   |false=>
    let⟨xs,hx,l⟩:=r;exact⟨xs,by rw[za ne];exact hx,l.skip hD⟩
   |true=>
    let⟨xs,hx,l⟩:=r;exact⟨xs,by rw[za ne];exact hx,l.skip hD⟩
  |ins c fs=>
   let⟨ks,⟨dx,hx⟩,l⟩:=r;exact⟨ks,⟨dx,by rw[za ne];exact hx⟩,l.skip hD⟩
  |dead=>exact r.elim
 .by_cases z:y=D
  .subst z;exact⟨u,zc⟩
  .let⟨w,e⟩:=rs.dom y h;exact⟨w,by rw[za z];exact e⟩
theorem yu.skip{D:AH}{u:HO}(hD:B D)(re:yu K cl B φ H ρ σ):yu K cl B φ (L2.upd H D u) ρ σ:=⟨re.len,λi v e=>by
 let⟨x,h,q⟩:=re.get i v e;exact⟨x,h,q.skip hD⟩⟩
def Bx(B:AH->Prop)(D:AH):AH->Prop:=λy=>B y \/ y=D
def zdR{D:AH}(hn:H D=AC):∀y,Bx B D y->B y \/ H y=none:=λy z=>z.elim .inl λq=>.inr (q ▸ hn)
theorem yc.more{D:AH}(hn:H D=AC){v:PV}{x:V}(h:yc K cl B φ H v x):yc K cl (Bx B D) φ H v x:=h.moreB (zdR hn)
theorem ye.more{D:AH}(hn:H D=AC){v:List PV}{x:List V}(h:ye K cl B φ H v x):ye K cl (Bx B D) φ H v x:=h.moreB (zdR hn)
mutual
theorem yc.less{D:AH}:∀(v:PV) (x:V),yc K cl (Bx B D) φ H v x->yc K cl B φ H v x
 |.non,x,h=>by erw[yc]at h ⊢;exact h
 |.bl b,x,h=>by erw[yc]at h ⊢;exact h
 |.int i,x,h=>by erw[yc]at h ⊢;exact h
 |.str y,x,h=>by erw[yc]at h ⊢;exact h
 |.tp k vs,x,h=>by
  erw[yc]at h ⊢;let⟨y,xs,e,r,l⟩:=h;refine⟨y,xs,e,?_,ye.less vs xs l⟩;rcases r with⟨r,b,n⟩|r
  .exact .inl ⟨r,λz=>b (.inl z),n⟩
  .exact .inr r
 |.lst vs,x,h=>by
  erw[yc]at h ⊢;let⟨y,xs,e,⟨r,b,n⟩,l⟩:=h;exact⟨y,xs,e,⟨r,λz=>b (.inl z),n⟩,ye.less vs xs l⟩
 |.loc n,x,h=>by erw[yc]at h ⊢;exact h
 |.fnc j,x,h=>by erw[yc]at h ⊢;exact h
 |.exn c,x,h=>by
  erw[yc]at h ⊢;let⟨y,e,r,b,n⟩:=h;exact⟨y,e,r,λz=>b (.inl z),n⟩
 |.scr vs,x,h=>by
  erw[yc]at h ⊢;let⟨y,xs,e,r,l⟩:=h;refine⟨y,xs,e,?_,ye.less vs xs l⟩;rcases r with⟨r,b,n⟩|r
  .exact .inl ⟨r,λz=>b (.inl z),n⟩
  .exact .inr r
theorem ye.less{D:AH}:∀(v:List PV) (x:List V),ye K cl (Bx B D) φ H v x->ye K cl B φ H v x
 |[],x,h=>by erw[ye]at h ⊢;exact h
 |v::vs,x,h=>by
  erw[ye]at h ⊢;let⟨y,ys,e,r,l⟩:=h;exact⟨y,ys,e,yc.less v y r,ye.less vs ys l⟩
end
theorem DK.more{D:AH}(hn:H D=AC):∀{kvs:List (PV×PV)} {ks:List (Key×V)},DK K cl B φ H kvs ks->DK K cl (Bx B D) φ H kvs ks
 |[],ks,h=>h
 |(k,v)::r,ks,h=>by
  let⟨q,x,t,e,m,rv,l⟩:=h;exact⟨q,x,t,e,m,rv.more hn,DK.more hn l⟩
theorem DT.more{D:AH}(hn:H D=AC):∀{kvs:List (PV×PV)} {ks:List (List Key×V)},DT K cl B φ H kvs ks->DT K cl (Bx B D) φ H kvs ks
 |[],ks,h=>h
 |(k,v)::r,ks,h=>by
  let⟨q,x,t,e,m,rv,l⟩:=h;exact⟨q,x,t,e,m,rv.more hn,DT.more hn l⟩
theorem FS.more{D:AH}(hn:H D=AC):∀{kvs:List (AM×PV)} {ks:List (AM×V)},FS K cl B φ H kvs ks->FS K cl (Bx B D) φ H kvs ks
 |[],ks,h=>h
 |(k,v)::r,ks,h=>by
  let⟨x,t,e,rv,l⟩:=h;exact⟨x,t,e,rv.more hn,FS.more hn l⟩
theorem DK.less{D:AH}:∀{kvs:List (PV×PV)} {ks:List (Key×V)},DK K cl (Bx B D) φ H kvs ks->DK K cl B φ H kvs ks
 |[],ks,h=>h
 |(k,v)::r,ks,h=>by
  let⟨q,x,t,e,m,rv,l⟩:=h;exact⟨q,x,t,e,m,rv.less,DK.less l⟩
theorem DT.less{D:AH}:∀{kvs:List (PV×PV)} {ks:List (List Key×V)},DT K cl (Bx B D) φ H kvs ks->DT K cl B φ H kvs ks
 |[],ks,h=>h
 |(k,v)::r,ks,h=>by
  let⟨q,x,t,e,m,rv,l⟩:=h;exact⟨q,x,t,e,m,rv.less,DT.less l⟩
theorem FS.less{D:AH}:∀{kvs:List (AM×PV)} {ks:List (AM×V)},FS K cl (Bx B D) φ H kvs ks->FS K cl B φ H kvs ks
 |[],ks,h=>h
 |(k,v)::r,ks,h=>by
  let⟨x,t,e,rv,l⟩:=h;exact⟨x,t,e,rv.less,FS.less l⟩
theorem yp.less{D:AH}(rs:yp K cl (Bx B D) φ H st):yp K cl B φ H st:=by
 refine⟨rs.len,rs.inj,λn y e=>?_,rs.liv,λy h z=>rs.nb y h (.inl z),λy h=>rs.dom y (.inl h)⟩;let⟨o,q,r⟩:=rs.obj n y e;refine⟨o,q,?_⟩
 cases o with
 |lst vs=>let⟨xs,hx,l⟩:=r;exact⟨xs,hx,l.less⟩
 |dct t kvs=>cases t<;>(let⟨xs,hx,l⟩:=r;exact⟨xs,hx,l.less⟩)
 |ins c fs=>let⟨ks,hx,l⟩:=r;exact⟨ks,hx,l.less⟩
 |dead=>exact r.elim
theorem yp.more{D:AH}{u:HO}(hn:H D=AC)(rs:yp K cl B φ H st):yp K cl (Bx B D) φ (L2.upd H D u) st:=by
 have nD:AA D∉φ:=λz=>by
  let⟨w,e⟩:=rs.there z;rw[hn]at e;cases e
 have s:Step φ H φ (L2.upd H D u):=.upd hn;have rs':=rs.upd (o:=u) hn;refine⟨rs.len,rs.inj,λn y e=>?_,rs.liv,λy h z=>z.elim (rs.nb y h) λq=>nD (q ▸ h),λy h=>?_⟩
 .let⟨o,q,r⟩:=rs.obj n y e;have ne:y≠D:=λz=>nD (z ▸ AV e);have hD:Bx B D D:=.inr rfl;refine⟨o,q,?_⟩
  cases o with
  |lst vs=>let⟨xs,hx,l⟩:=r;exact⟨xs,by rw[za ne];exact hx,(l.more hn).skip hD⟩
  |dct t kvs=>
   cases t with
   |false=>let⟨xs,hx,l⟩:=r;exact⟨xs,by rw[za ne];exact hx,(l.more hn).skip hD⟩
   |true=>let⟨xs,hx,l⟩:=r;exact⟨xs,by rw[za ne];exact hx,(l.more hn).skip hD⟩
  |ins c fs=>let⟨ks,⟨dx,hx⟩,l⟩:=r;exact⟨ks,⟨dx,by rw[za ne];exact hx⟩,(l.more hn).skip hD⟩
  |dead=>exact r.elim
 .rcases h with h|h
  .exact rs'.dom y h
  .subst h;exact⟨u,zc⟩
theorem yu.more{D:AH}{u:HO}(hn:H D=AC)(re:yu K cl B φ H ρ σ):yu K cl (Bx B D) φ (L2.upd H D u) ρ σ:=⟨re.len,λi v e=>by
 let⟨x,h,q⟩:=re.get i v e;exact⟨x,h,(q.more hn).skip (.inr rfl)⟩⟩
def yV:Tg->List (Option Nat)->Bool
 |.n i,sl=>decide (sl[i]?=AA AC)
 |.t l,sl=>l.all λi=>decide (sl[i]?=AA AC)
def zb3:∀(l:List Nat) (vs:List PV) (ρ:IC.Env) (j:Nat),j∉l->((l.zip vs).foldl (λρ p=>ρ.set p.1 (AA p.2)) ρ)[j]?=ρ[j]?
 |[],vs,ρ,j,h=>by simp
 |i::is,[],ρ,j,h=>by simp
 |i::is,v::vs,ρ,j,h=>by
  erw[DH,Bf];rw[zb3 is vs _ j λz=>h (AS _ z),Aj]
  rintro rfl
  exact h Ag
def zbT:∀(l:List Nat) (vs:List PV) (ρ:IC.Env),((l.zip vs).foldl (λρ p=>ρ.set p.1 (AA p.2)) ρ).length=ρ.length
 |[],vs,ρ=>by simp
 |i::is,[],ρ=>by simp
 |i::is,v::vs,ρ=>by
  erw[DH,Bf];rw[zbT is vs,Aw]
theorem yu.untgt{sl:List (Option Nat)}{ρ0 ρ1:IC.Env}{v:PV}(hf:yV ct sl=AD)(h0:∀(i:Nat),sl[i]?=AA AC->ρ0[i]?=AA AC)(hb:yG ct v ρ0=AA ρ1)(re:yu K cl B φ H ρ1 σ):yu K cl B φ H ρ0 σ:=by
 cases ct with
 |n i=>
  cases hb
  erw[yV,decide_eq_true_eq]at hf;refine⟨by rw[<-re.len,Aw],λj w e=>re.get j w ?_⟩;rw[Aj]
  .exact e
  .rintro rfl
   rw[h0 _ hf]at e;cases e
 |t l=>
  cases v with
  |tp k vs=>
   erw[yG]at hb;split at hb
   .cases hb
    erw[yV,BL,decide_eq_true_eq]at hf;refine⟨by rw[<-re.len,zbT],λj w e=>re.get j w ?_⟩;rw[zb3]
    .exact e
    .intro z;rw[h0 _ (hf j z)]at e;cases e
   .cases hb
  |_=>cases hb
theorem yu.inn{sl:List (Option Nat)}(re:yu K cl B φ H ρ σ):yu K cl B φ H (sl.map λo=>o.bind λj=>(ρ[j]?).join) (L2.inn sl σ):=by
 unfold L2.inn;refine⟨by simp,λi v e=>?_⟩;rw[BU]at e ⊢
 cases q:sl[i]? with
 |none=>rw[q]at e;cases e
 |some o=>
  rw[q]at e
  cases o with
  |none=>cases e
  |some j=>
   erw[Ar,Am,C3]at e ⊢
   cases q2:ρ[j]? with
   |none=>rw[q2]at e;cases e
   |some w=>
    rw[q2]at e;erw[Option.join_some]at e;subst e;let⟨x,hx,rv⟩:=re.get j v q2;exact⟨x,by rw[hx];rfl,rv⟩
def zjq:1000000<sizeLine:=by rw[Bs];decide
def ziB{α:Type}{o:Option Bool}{k:Bool->R α}{z:α}{s:SO}(h:onO o k=.ok z s):∃b,o=AA b/\k b=.ok z s:=by
 cases o with
 |none=>cases h
 |some b=>exact⟨b,rfl,h⟩
def zI{α β:Type}{r:R α}{k:α->SO->R β}{z:β}{s:SO}(h:r.bind k=.ok z s):∃a s1,r=.ok a s1/\k a s1=.ok z s:=by
 cases r with
 |ok a s1=>exact⟨a,s1,rfl,h⟩
 |exc c s=>cases h
 |bad=>cases h
def zbf{sl:List (Option Nat)}(hf:yV ct sl=AD){H:Hp}{Q:VK}(h:tE S X (.comp sl ct ci cc ce) σ H Q):ybR sl (tI S X ci) (tG0 S X.K ct) (tT0 S X.K cc) (tE0 S X.K ce) σ H Q:=by
  let⟨B,φ,st,ρ,rs,re,h⟩:=h;erw[ev]at h;refine⟨B,φ,st,ρ,rs,re,(Run.bind h).mono λJ H1 kq=>?_⟩;let⟨xs,st1,φ1,s1,rs1,dr,h1⟩:=kq;refine λD hD=>?_
  generalize hone:(λ(x:PV) (st2:SO)=>match yG ct x (sl.map λo=>o.bind λj=>(ρ[j]?).join)with
   |none=>(R.bad:R (Option PV))
   |some ρ1=>(ev S.call ρ1 st2 cc).bind λb st3=>onO (yao st3 b) λk=>cond k ((ev S.call ρ1 st3 ce).bind λy st4=>.ok (AA y) st4) (.ok AC st3))=one at h1
  cases e:yaD one xs st1 with
  |exc k s=>rw[e]at h1;exact h1.elim
  |bad=>rw[e]at h1;exact h1.elim
  |ok zs st5=>
   rw[e]at h1;erw[ybA]at h1;split at h1
   case isFalse=>exact h1.elim
   rename_i hz;have nB:¬B D:=rs1.nB hD;have nD:AA D∉φ1:=λz=>by
    let⟨w,e⟩:=rs1.there z;rw[hD]at e;cases e
   refine⟨λi m σc ys H2=>∃φ2 st2 vs rest,i+m=xs.length/\Step φ1 H1 φ2 H2/\H2 D=AA (.lst ys)/\AA D∉φ2/\yp X.K S.cl (Bx B D) φ2 H2 st2/\yu X.K S.cl (Bx B D) φ2 H2 (sl.map λo=>o.bind λj=>(ρ[j]?).join) σc /\
     ye X.K S.cl (Bx B D) φ2 H2 vs ys/\yaD one (xs.drop i) st2=.ok rest st5/\vs++rest=zs,
    ⟨xs.length,φ1,st1,[],zs,by lia,.upd hD,zc,nD,rs1.more hD,(yu.inn (re.step s1)).more hD,by erw[ye],by simpa using e,rfl⟩,?_⟩
   rintro i m σc ys H2 ⟨φ2,st2,vs,rest,hm,s2,hD2,nD2,rs2,re2,l2,ec,ez⟩
   refine⟨hD2,?_⟩
   by_cases hi:i<xs.length
   .have hl2:=l2.length;have hml:=zjq;have hzl:=congrArg CC ez;rw[An]at hzl;refine .inr ⟨dr.go i φ2 H2 s2 hi,by lia,λσ' ys' H'=>∃φ2 st2 vs rest,Step φ1 H1 φ2 H'/\H' D=AA (.lst ys')/\AA D∉φ2/\yp X.K S.cl (Bx B D) φ2 H' st2/\yu X.K S.cl (Bx B D) φ2 H' (sl.map λo=>o.bind λj=>(ρ[j]?).join) σ' /\
     ye X.K S.cl (Bx B D) φ2 H' vs ys'/\yaD one (xs.drop (i+1)) st2=.ok rest st5/\vs++rest=zs,λσ' ys' H' ⟨φ2,st2,vs,rest,q⟩=>⟨m-1,by lia,φ2,st2,vs,rest,by lia,q⟩,λx H3 hy=>?_⟩
    let⟨v,hv,rv,kk⟩:=dr.yld i φ2 H2 st2 x H3 (Bx B D) (λy z=>z.elim .inl λq=>.inr (q ▸ hD)) s2 rs2 hi hy;have s3:Step φ2 H2 φ2 H3:=⟨λb o _ e=>kk b o e,AU _,λ_ _ _ e=>e,λ_ h=>.inl h⟩;have rs3:yp X.K S.cl (Bx B D) φ2 H3 st2:=rs2.same kk;have ed:xs.drop i=v::xs.drop (i+1):=by
     rw[DM hi];rw[DZ hi]at hv;rw[AW hv]
    rw[ed,yaD]at ec;let⟨o,st3,e1,ec⟩:=zI ec;let⟨rest',st4,e2,ec⟩:=zI ec;rw[<-hone]at e1;dsimp only at e1
    cases eb:yG ct v (sl.map λo=>o.bind λj=>(ρ[j]?).join)with
    |none=>rw[eb]at e1;cases e1
    |some ρ1=>
     rw[eb]at e1;dsimp only at e1;let⟨bv,st6,e3,e1⟩:=zI e1;let⟨k,e4,e1⟩:=ziB e1;have er:st4=st5/\ybk o rest'=rest:=by
      injection ec with q1 q2;exact⟨q2,q1⟩
     let⟨rfl,rfl⟩:=er;refine⟨Bx B D,φ2,st2,_,v,ρ1,rs3,re2.step s3,rv,eb,λσ4 re4=>⟨Bx B D,φ2,st2,ρ1,rs3,re4,?_⟩⟩;have et:yaC (ev S.call ρ1 st2 cc)=.ok k st6:=by
      rw[e3];erw[yaC,R.bind,e4,onO]
     rw[et]
     rintro k' H5 φ5 s5 rs5 rfl
     have nD5:AA D∉φ5:=λz=>by
      rcases s5.new D z with q|q
      .exact nD2 q
      .rw[kk D _ hD2]at q;cases q
     have hD5:H5 D=AA (.lst ys):=s5.keep D _ nD2 (kk D _ hD2);have s25:Step φ1 H1 φ5 H5:=s2.trans (s3.trans s5);have l5:=(l2.step s3).step s5;have re5:yu X.K S.cl (Bx B D) φ5 H5 ρ1 σ4:=re4.step s5;have h0:∀(i:Nat),sl[i]?=AA AC->(sl.map λo=>o.bind λj=>(ρ[j]?).join)[i]?=AA none:=λi q=>by
      rw[BU,q];rfl
     cases k with
     |false=>
      erw[cond_false]at e1
      cases e1
      exact⟨φ5,_,vs,rest',s25,hD5,nD5,rs5,yu.untgt hf h0 eb re5,l5,e2,ez⟩
     |true=>
      erw[cond_true]at e1;let⟨y,st7,e5,e1⟩:=zI e1
      cases e1
      refine⟨Bx B D,φ5,st6,ρ1,rs5,re5,?_⟩;rw[e5];intro y' H6 φ6 s6 rs6 ry;have nD6:AA D∉φ6:=λz=>by
       rcases s6.new D z with q|q
       .exact nD5 q
       .rw[hD5]at q;cases q
      have hD6:H6 D=AA (.lst ys):=s6.keep D _ nD5 hD5;have hBD:Bx B D D:=.inr rfl;refine⟨hD6,φ6,_,vs++[y],rest',?_,zc,nD6,rs6.skip hBD,(yu.untgt hf h0 eb (re5.step s6)).skip hBD,((l5.step s6).append (by erw[ye];exact⟨y',[],rfl,ry,rfl⟩)).skip hBD,e2,?_⟩
      .have s16:=s25.trans s6;exact⟨λb o n q=>by rw[za (zb q hD)];exact s16.keep b o n q,s16.len,s16.pre,s16.new⟩
      .simpa [ybk] using ez
   .have ei:i=xs.length:=by lia
    subst ei;rw[FJ,yaD]at ec
    cases ec
    refine .inl ⟨dr.stop φ2 H2 s2,h1 (.ref D) H2 φ2 s2 rs2.less ?_⟩;erw[yc];exact⟨D,ys,rfl,⟨hD2,nB,nD2⟩,by rw[<-ez,Ck];exact l2.less⟩
def zfq{sc:BB}{NC:List AM}{sl:List (Option Nat)}{ifs:List AO}(hc:X.calm=AD)(O:yL X sc NC sl)(hf:yV ct sl=AD)(hi:PI X tg iter (tI S X ci))(hg:∀j,PG (cxC X sc NC j) tg (tG0 S X.K ct))
  (ht:∀j,PTs (cxC X sc NC j) ifs (tT0 S X.K cc)) (he:∀j,PE (cxC X sc NC j) elt (tE0 S X.K ce)) (hs:∀x,foldedSetIterable iter X.env x=pure x:=by intro _;rfl):
  PE X (.ListComp elt [⟨tg,iter,ifs,0⟩] sc pos) (tE S X (.comp sl ct ci cc ce)):=
 (zgJ hc O hi hg ht he hs).imp λσ H Q h=>zbf hf h
def zfU{sc:BB}{NC:List AM}{sl:List (Option Nat)}{ifs:List AO}{i:Nat}{x:AM}{spos:Ba}(hN:X.N.Nodup)(hix:X.N[i]?=AA x)(hx:Loc X.env.scope x)(hc:X.calm=AD)(O:yL X sc NC sl)(hf:yV ct sl=AD)(hi:PI X tg iter (tI S X ci))(hg:∀j,PG (cxC X sc NC j) tg (tG0 S X.K ct))
  (ht:∀j,PTs (cxC X sc NC j) ifs (tT0 S X.K cc)) (he:∀j,PE (cxC X sc NC j) elt (tE0 S X.K ce))
  (hsw:swapsWith (.ListComp elt [⟨tg,iter,ifs,0⟩] sc pos) (AA (.Name x px)) spos.line X.env=pure true:=by rfl) (hs:∀x,foldedSetIterable iter X.env x=pure x:=by intro _;rfl)
  (hfn:X.fn x=AD \/ X.env.scope.names.lookup x=AA .local:=by first|exact .inl rfl|exact .inr rfl|assumption):PS X (.Assign [.Name x px] (.ListComp elt [⟨tg,iter,ifs,0⟩] sc pos) spos) (tS S X (.asg (.n i) (.comp sl ct ci cc ce))):=
 (zgn hN hix hx hc O hi hg ht he hsw hs hfn).imp λD σ H ⟨B,φ,st,ρ,rs,re,h⟩=>by
  refine zbf hf ?_;erw[ex]at h;exact tE.fl rs re h λx H1 v st1 φ1 s rs1 re1 rv h1=>h1 _ H1 φ1 .rfl rs1 (re1.set i rv)
end
end L2
namespace IC
open PySem
def RLe{α:Type}(r q:R α):Prop:=r=.bad \/ r=q
def FLe(f g:Fl):Prop:=f=.bad \/ f=g
abbrev Cl:=Nat->List PV->SO->R PV
theorem RLe.rfl{α:Type}{r:R α}:RLe r r:=.inr (FT _)
theorem FLe.rfl{f:Fl}:FLe f f:=.inr (FT _)
theorem RLe.bind{α β:Type}{r q:R α}{k l:α->SO->R β}(h:RLe r q)(hk:∀a s,RLe (k a s) (l a s)):RLe (r.bind k) (q.bind l):=by
 rcases h with h|h
 .subst h;exact .inl (FT _)
 .subst h
  cases r with
  |ok a s=>exact hk a s
  |exc c s=>exact .rfl
  |bad=>exact .rfl
theorem RLe.comp{r q:R (List PV)}(h:RLe r q):RLe (ybA r) (ybA q):=by
 rcases h with h|h
 .subst h;exact .inl (FT _)
 .subst h;exact .rfl
end IC
namespace L2
open PySem PySem.Spec PyProof.Rows IC
def spI(K:AB)(cl:Nat->AH)(call:Nat->List PV->SO->R PV)(f:Nat):Sp:=λvs H Q E=>∃B φ st args,yp K cl B φ H st/\ye K cl B φ H args vs/\match call f args st with
 |.ok v st'=>∀x H' φ',Step φ H φ' H'->yp K cl B φ' H' st'->yc K cl B φ' H' v x->Q x H'
 |.exc c st'=>∀H' φ',Step φ H φ' H'->yp K cl B φ' H' st'->E (.ref (cl c)) AC H'
 |.bad=>False
section
variable {S:Se}{X:Cx}{k:Nat}{f:AH}{fd:Al}{ps ks:List AM}{sp:Sp}{dvs:List V}{ds:List AE}{x:AM}{p pos:Ba}{e:AO}{es:List AO}{t tk:TA}{CX:CXT}{σ:St}{H:Hp}
def zcI{π:List (AH×B1)}{s:AI}{Q:VK}{us:List AE}{vs:List V}{E:XK}(F:yav X.prog X.w X.K X.mg X.base CX k f fd ps sp)(hr:yaj k X.A)(hb:Binds X.K fd ps ds)(hd:Vals dvs ds)
  (I:Inv X π σ H s) (r:Vals vs us) (h:sp (vs++dvs) H Q E) (hx:∀e s',CX X.stack H s E e s'->X.xe e s'):AZ (model X.prog X.w) X.A (call (.ref f) us) (EP X π σ Q) X.xe s:=by
 have r2:Vals (vs++dvs) (us++ds):=r.append hd;have hl:(us++ds).length=ps.length:=by rw[<-r2.length];exact F.len _ _ _ _ h
 refine FX (Cp (F.run X.A X.stack s H ⟨us,[]⟩ (us++ds) (vs++dvs) Q E hr I.env0 (hb s us I.kIn hl) r2 h) λr s' hq=>?_)
 cases r with
 |error e=>exact hx e s' hq
 |ok fl=>
  cases fl with
  |ret u=>exact I.after hq
  |next=>exact BF hq
  |brk=>exact BF hq
  |cont=>exact BF hq
def ybF(CX:CXT)(X:Cx)(sp:Sp)(dvs:List V)(t:TA):TE:=λσ H Q=>t σ H λvs H1=>∃E:XK,sp (vs++dvs) H1 Q E/\∀π s e s',Inv X π σ H1 s->CX X.stack H1 s E e s'->X.xe e s'
def ze2(F:yav X.prog X.w X.K X.mg X.base CX k f fd ps sp)(hr:yaj k X.A)(hg:Gl X x)(hm:X.mg x=AA (.ref f))(hk:Ae X.K (.ref f)=AD)(hb:Binds X.K fd ps ds)(hd:Vals dvs ds)
  (ha:PA X (e::es) t) (hdb:(x==("__debug__":AM))=false:=by decide) (he:starEach (e::es) X.env=(AF,eval e X.env)::starEach es X.env:=by rfl) (hpl:(backTo pos (starEach es X.env)).any (·.1)=false:=by rfl):
  PE X (.Call (.Name x p) (e::es) [] pos) (ybF CX X sp dvs t):=by
 intro π s σ H Q I h;refine BP (zap I hg hm ?_ hdb);refine Ea (h₀:=X.base) I.ok.mod.kin hk (thn (ha pos π s σ H _ I h) λus s1 kq=>?_) he hpl;let⟨vs,H1,I1,r,E,q,hx⟩:=kq;refine ⟨I1.kIn,?_⟩;exact zcI F hr hb hd I1 r q λe s' c=>hx π s1 e s' I1 c
def zdx(F:yav X.prog X.w X.K X.mg X.base CX k f fd ps sp)(hr:yaj k X.A)(hg:Gl X x)(hm:X.mg x=AA (.ref f))(hk:Ae X.K (.ref f)=AD)(hb:Binds X.K fd ps ds)(hd:Vals dvs ds)
  (hdb:(x==("__debug__":AM))=false:=by decide):PE X (.Call (.Name x p) [] [] pos) (ybF CX X sp dvs ydD):=by
 intro π s σ H Q I h;let⟨E,q,hx⟩:=h;refine BP (zap I hg hm ?_ hdb);exact PySem.W.callWith_K0 I.kIn hk (zcI F hr hb hd I .nil q λe s' c=>hx π s e s' I c)
variable {B:AH->Prop}{φ:Ph}{st:SO}{ces:Ces}{fi:Nat}
def zaw{vs:List PV}{xs:List V}{Q:VK}(rs:yp X.K S.cl B φ H st)(l:ye X.K S.cl B φ H vs xs)(h:Run S X σ B φ H (RV S X B) (S.call fi vs st) Q):
  ∃E:XK,spI X.K S.cl S.call fi xs H Q E/\∀π s e s',Inv X π σ H s->CX1 X.prog X.w X.stack H s E e s'->X.xe e s':=by
 cases c:S.call fi vs st with
 |ok v st'=>
  rw[c]at h;refine⟨λ_ _ _=>False,⟨B,φ,st,vs,rs,l,by rw[c];exact h⟩,λπ s e s' _ z=>?_⟩;let⟨_,_,_,_,_,_,_,_,_,_,_,_,_,_,z⟩:=z;exact z.elim
 |exc k st'=>
  rw[c]at h;refine⟨λcls _ H'=>cls=.ref (S.cl k)/\∃φ',Step φ H φ' H'/\yp X.K S.cl B φ' H' st',⟨B,φ,st,vs,rs,l,by rw[c];exact λH' φ' s r=>⟨rfl,φ',s,r⟩⟩,λπ s e s' I z=>h e s' (.inl ⟨π,H,s,φ,I,.rfl,z⟩)⟩
 |bad=>rw[c]at h;exact h.elim
def zf8(F:yav X.prog X.w X.K X.mg X.base (CX1 X.prog X.w) k f fd ps (spI X.K S.cl S.call fi))(hr:yaj k X.A)(hg:Gl X x)(hm:X.mg x=AA (.ref f))(hk:Ae X.K (.ref f)=AD)(hb:Binds X.K fd ps [])
  (ha:PA X (e::es) (tAs S X ces)) (hdb:(x==("__debug__":AM))=false:=by decide) (he:starEach (e::es) X.env=(AF,eval e X.env)::starEach es X.env:=by rfl) (hpl:(backTo pos (starEach es X.env)).any (·.1)=false:=by rfl):
  PE X (.Call (.Name x p) (e::es) [] pos) (tE S X (.call fi ces)):=
 (ze2 F hr hg hm hk hb .nil ha hdb he hpl).imp λσ H Q ⟨B,φ,st,ρ,rs,re,h⟩=>by
  erw[ev]at h;refine tAs.bind rs re h λxs H1 vs st1 φ1 s1 rs1 re1 rv h1=>?_;rw[Ck];exact zaw rs1 rv h1
def zeH(F:yav X.prog X.w X.K X.mg X.base (CX1 X.prog X.w) k f fd ps (spI X.K S.cl S.call fi))(hr:yaj k X.A)(hg:Gl X x)(hm:X.mg x=AA (.ref f))(hk:Ae X.K (.ref f)=AD)(hb:Binds X.K fd ps [])
  (hdb:(x==("__debug__":AM))=false:=by decide):PE X (.Call (.Name x p) [] [] pos) (tE S X (.call fi .nil)):=
 (zdx F hr hg hm hk hb .nil hdb).imp λσ H Q ⟨B,φ,st,ρ,rs,re,h⟩=>by
  erw[ev,evs,R.bind]at h;exact zaw rs (by erw[ye];rfl) h
end
section
variable {P:A1}{w:A8}{K:AB}{mg:AM->Option AE}{base:Aq}{cl:Nat->AH}{T:Nat->Option IC.Fn}{fi:Nat}{fn:IC.Fn}{x qual:AM}{stm:BS}{f:AH}{fd:Al}{N ps:List AM}{k:Nat}
theorem CX1.mono{outer:List Az}{H:Hp}{s:AI}{E E':XK}{e:AE}{s':AI}(h:CX1 P w outer H s E e s')(n:∀cls H',E cls AC H'->E' cls AC H'):CX1 P w outer H s E' e s':=by
 let⟨a,cls,a0,H',Bh,r1,r2,r3,r4,r5,r6,r7,r8,r9,r10⟩:=h;exact⟨a,cls,a0,H',Bh,r1,r2,r3,r4,r5,r6,r7,r8,r9,n _ _ r10⟩
theorem yu.start{B:AH->Prop}{φ:Ph}{H:Hp}{args:List PV}{vs:List V}(l:ye K cl B φ H args vs)(n:Nat)(hn:N.length-vs.length=n):yu K cl B φ H (args.map AA++Ak n AC) (L2.start N vs):=by
 have hl:=l.length;unfold L2.start;refine⟨by simp[hl,hn],λi v e=>?_⟩
 by_cases hi:i<args.length
 .rw[A5 (by simpa using hi),BU]at e
  cases q:args[i]? with
  |none=>rw[q]at e;cases e
  |some v'=>
   rw[q]at e
   cases e
   let⟨y,hy,rv⟩:=l.get i q;exact⟨y,by rw[A5 (by simp;lia),BU,hy];rfl,rv⟩
 .rw[Aa (by simp;lia),D4]at e;split at e<;>cases e
theorem leave{N:List AM}{scope:BB}{cd:AE}{A:A9}{outer:List Az}{s₀:AI}{H₀:Hp}{E:XK}{call:Nat->List PV->SO->R PV}{σ:St}{B:AH->Prop}{φ:Ph}{H:Hp}{c:Nat}{st':SO}{e:AE}{s':AI}
  (h:ExcAt ⟨cl,call,AD⟩ (yap (CX1 P w) P w K mg base N qual scope f cd A outer s₀ H₀ E) σ B φ H c st' e s') (n:∀φ' H',Step φ H φ' H'->yp K cl B φ' H' st'->E (.ref (cl c)) AC H'):
  (yap (CX1 P w) P w K mg base N qual scope f cd A outer s₀ H₀ E).xe e s':=by
 rcases h with⟨π,H1,s,φ1,I,s1,q⟩|⟨_,π,H1,s,φ1,h',e0,vs,I,s1,rs,mk,rfl,rfl⟩|⟨_,π,H1,s,I,q⟩
 .exact zjn π σ H1 s e s' I (q.mono λcls H' ⟨e1,φ',s2,r⟩=>by subst e1;exact n φ' H' (s1.trans s2) r)
 .exact zc5 I mk (n φ1 H1 s1 rs)
 .exact zjo I (q.mono λcls H' ⟨e1,φ',s2,r⟩=>by subst e1;exact n φ' H' s2 r)
def zdw(hT:T fi=AA fn):∀(args:List PV) (st:SO),yd T (k+1) fi args st ≠ .bad->args.length=fn.np:=λargs st hne=>by
 apply Classical.byContradiction;intro c;apply hne;rw[yd,hT];exact if_neg c
def ze5(hT:T fi=AA fn)(hnp:ps.length=fn.np){vs:List V}{H:Hp}{Q:VK}{E:XK}(h:spI K cl (yd T (k+1)) fi vs H Q E):vs.length=ps.length:=by
 let⟨B,φ,st,args,rs,l,h⟩:=h;rw[hnp,<-l.length];refine zdw (k:=k) hT args st λz=>?_;rw[z]at h;exact h
def zfL(hT:T fi=AA fn)(hns:N.length=fn.ns){scope:BB}{cdv:AE}{A:A9}{outer:List Az}{s:AI}{vs:List V}{H:Hp}{Q:VK}{E:XK}(h:spI K cl (yd T (k+1)) fi vs H Q E):
  tSs ⟨cl,yd T k,AD⟩ (yap (CX1 P w) P w K mg base N qual scope f cdv A outer s H E) fn.body {nx:=λ_ H'=>Q .non H',rt:=Q} (L2.start N vs) H:=by
 let⟨B,φ,st,args,rs,l,h⟩:=h;have hl:args.length=fn.np:=zdw (k:=k) hT args st λz=>by rw[z]at h;exact h
 have hlen:=l.length;rw[yd,hT]at h;dsimp only at h;rw[if_pos hl]at h
 by_cases hp:fn.pure=AD
 .rw[if_pos hp]at h
  by_cases hz:nLs args=AD
  .rw[if_pos hz]at h;have rs0:yp K cl (λa=>B a \/ AA a∈φ) [] H []:=⟨rfl,λm n a e=>by simp at e,λn a e=>by simp at e,λn o e=>by simp at e,λa z=>by simp at z,λa z=>z.elim (rs.dom a) rs.there⟩;have back:∀{φ':Ph} {H':Hp},Step [] H φ' H'->Step φ H φ H'/\yp K cl B φ H' st:=λ{φ' H'} s'=>
    have kk:∀b o,H b=AA o->H' b=AA o:=λb o e=>s'.keep b o (by simp) e
    ⟨⟨λb o _ e=>kk b o e,AU _,λ_ _ _ e=>e,λ_ h=>.inl h⟩,rs.same kk⟩
   refine⟨_,[],[],_,rs0,yu.start (ye.inn rs.nb args vs hz l) (fn.ns-fn.np) ∅,?_⟩;show yal _ _ _ _ _ (exs (yd T k) (args.map AA++Ak (fn.ns-fn.np) AC) [] fn.body) _
   cases e:exs (yd T k) (args.map AA++Ak (fn.ns-fn.np) AC) [] fn.body with
   |nx ρ' st'=>
    rw[e]at h;intro σ' H' φ' s' rs' re';let⟨s2,r2⟩:=back s';exact h .non H' φ s2 r2 (by erw[yc])
   |rt v st'=>
    rw[e]at h;dsimp only at h
    by_cases hv:nL v=AD
    .rw[if_pos hv]at h;intro y H' φ' s' rs' rv;let⟨s2,r2⟩:=back s';exact h y H' φ s2 r2 (yc.out v y hv rv)
    .rw[if_neg hv]at h;exact h.elim
   |exc c ρ' st'=>
    rw[e]at h;intro σ' φ1 H1 ev s' s1 _ ex;refine leave ex λφ2 H2 s2 _=>?_;let⟨s3,r3⟩:=back (s1.trans s2);exact h H2 φ s3 r3
   |bk ρ' st'=>rw[e]at h;exact h.elim
   |ct ρ' st'=>rw[e]at h;exact h.elim
   |bad=>rw[e]at h;exact h.elim
  .rw[if_neg hz]at h;exact h.elim
 .rw[if_neg hp]at h;refine⟨B,φ,st,_,rs,yu.start l (fn.ns-fn.np) ∅,?_⟩;show yal _ _ _ _ _ (exs (yd T k) (args.map AA++Ak (fn.ns-fn.np) AC) st fn.body) _
  cases e:exs (yd T k) (args.map AA++Ak (fn.ns-fn.np) AC) st fn.body with
  |nx ρ' st'=>
   rw[e]at h;intro σ' H' φ' s' rs' re';exact h .non H' φ' s' rs' (by erw[yc])
  |rt v st'=>
   rw[e]at h;intro y H' φ' s' rs' rv;exact h y H' φ' s' rs' rv
  |exc c ρ' st'=>
   rw[e]at h;intro σ' φ1 H1 ev s' s1 _ ex;exact leave ex λφ2 H2 s2 r2=>h H2 φ2 (s1.trans s2) r2
  |bk ρ' st'=>rw[e]at h;exact h.elim
  |ct ρ' st'=>rw[e]at h;exact h.elim
  |bad=>rw[e]at h;exact h.elim
end
def tyN:Ty->String
 |.int=>"int" | .bool=>"bool" | .str=>"str" | .tuple=>"tuple" | .list=>"list" | _=>""
structure ydH(K:AB)(t:Ty):Prop where
 n:Ay K (.type "NoneType") (.type (tyN t))=AA (yaJ .non t)
 b:Ay K (.type "bool") (.type (tyN t))=AA (yaJ (.bl AD) t)
 i:Ay K (.type "int") (.type (tyN t))=AA (yaJ (.int 0) t)
 s:Ay K (.type "str") (.type (tyN t))=AA (yaJ (.str FE) t)
 p:Ay K (.type "tuple") (.type (tyN t))=AA (yaJ (.tp AD []) t)
 l:Ay K (.type "list") (.type (tyN t))=AA (yaJ (.lst []) t)
section
variable {S:Se}{X:Cx}{σ:St}{B:AH->Prop}{φ:Ph}{H:Hp}{st:SO}{p pos p2 px:Ba}{a b c d o:AO}{ca cb cc:Ce}{t:Ty}
def yep(S:Se)(X:Cx)(t:Ty):List V->Hp->VK->Prop:=λxs H Q=>∃B φ st v x z,xs=[x,.ty (tyN t)]/\yp X.K S.cl B φ H st/\yc X.K S.cl B φ H v x/\ybg v [t]=AA z/\ycE t=AD /\
 ∀z' H' φ',Step φ H φ' H'->yp X.K S.cl B φ' H' st->yc X.K S.cl B φ' H' z z'->Q z' H'
def zhM(Z:ydH X.K t):yJ X (.builtin "isinstance") (yep S X t):=by
 rintro π s σ H xs us Q I r ⟨B,φ,st,v,x,z,rfl,rs,rv,e,hb,q⟩
 let⟨u,c',rfl,ru,rc⟩:=vals2 r
 cases (show c'=E7 (tyN t)from rc)
 have fin:∀(k:Bool) (tk:Nat),z=.bl k->EP X π σ Q (.bool k) {s with toks:=tk}:=λk tk ez=>⟨.bl k,H,I.tok tk,rfl,q _ H φ .rfl rs (by subst ez;erw[yc])⟩
 cases v with
 |non=>
  erw[yc]at rv;subst rv
  cases (show u=BW from ru)
  erw[ybg,hb,if_true]at e;exact Bw PySem.W.kitx_none I.kIn Bu Z.n (λz=>nomatch z) λtk=>fin _ tk (by cases e;cases t<;>rfl)
 |bl k=>
  erw[yc]at rv;subst rv
  cases (show u=Cu k from ru)
  erw[ybg,hb,if_true]at e;exact Bw PySem.W.kitx_bool I.kIn Bu Z.b (λz=>nomatch z) λtk=>fin _ tk (by cases e;cases t<;>rfl)
 |int k=>
  erw[yc]at rv;subst rv;let⟨tk,rfl⟩:=ru;erw[ybg,hb,if_true]at e;exact Bw PySem.W.kitx_int I.kIn Bu Z.i (λz=>nomatch z) λtk=>fin _ tk (by cases e;cases t<;>rfl)
 |str k=>
  erw[yc]at rv;subst rv;let⟨tk,rfl⟩:=ru;erw[ybg,hb,if_true]at e;exact Bw PySem.W.kitx_str I.kIn Bu Z.s (λz=>nomatch z) λtk=>fin _ tk (by cases e;cases t<;>rfl)
 |tp k vs=>
  erw[yc]at rv;let⟨y,ys,rfl,rt,l⟩:=rv
  cases (show u=Af y from ru)
  erw[ybg,hb,if_true]at e;let⟨its,_,⟨o,g,c,_,_⟩,_⟩:=I.tuple rt.sq;exact Bw PySem.W.kitx_tuple I.kIn ⟨o,g,c⟩ Z.p (λz=>nomatch z) λtk=>fin _ tk (by cases e;cases t<;>rfl)
 |lst vs=>
  erw[yc]at rv;let⟨y,ys,rfl,rt,l⟩:=rv
  cases (show u=Af y from ru)
  erw[ybg,hb,if_true]at e;let⟨_,_,n,_,h1⟩:=(show yI X.prog X.w H s.heap y (.lst ys)from I.hok y _ rt.1);exact Bw PySem.W.kitx_list I.kIn ⟨_,h1,rfl⟩ Z.l (λz=>nomatch z) λtk=>fin _ tk (by cases e;cases t<;>rfl)
 |loc n=>cases e
 |scr n=>cases e
 |fnc n=>cases e
 |exn n=>erw[ybg,Ai,Fv,hb,Ch,if_true]at e;cases e
def zhs{T:AM}(Z:ydH X.K t)(ht:ycE t=AD)(hg:Gl X "isinstance")(hm:X.mg "isinstance"=AC)(hgT:Gl X T)(hmT:X.mg T=AC)(hT:bootBuiltins T=AA (.type (tyN t)))(ha:PE X a (tE S X ca))(hnT:T ≠ "__name__":=by decide)(hdT:(T==("__debug__":AM))=false:=by decide)
  (he:starEach [a,.Name T p2] X.env=(AF,eval a X.env)::starEach [.Name T p2] X.env:=by rfl) (hpl:(backTo pos (starEach [.Name T p2] X.env)).any (·.1)=false:=by rfl):
  PE X (.Call (.Name "isinstance" p) [a,.Name T p2] [] pos) (tE S X (.isi ca [t])):=
 (zb9 (zhM Z) hg hm FO (zJ ha (zJ (zgu (v:=.ty (tyN t)) hgT hmT hT rfl hnT hdT) zcZ) he) ⋯ ⋯ he hpl).imp λσ H Q ⟨B,φ,st,ρ,rs,re,h⟩=>by
  erw[ev]at h;refine tE.bind rs re h λx H1 v st1 φ1 s1 rs1 re1 rv h1=>?_;let⟨z,e,q⟩:=zr h1 rs1;exact⟨B,φ1,st1,v,x,z,rfl,rs1,rv,e,ht,q⟩
def zev{st4:SO}{x y v:PV}(h:yaP st x y v=AA st4):∃n xs k j,x=.loc n/\st[n]?=AA (.lst xs)/\y=.int k/\ixI xs.length k=AA j/\st4=st.set n (.lst (xs.set j v)):=by
 cases x with
 |loc n=>
  erw[yaP]at h
  cases q:st[n]? with
  |none=>rw[q]at h;cases h
  |some o=>
   rw[q]at h
   cases o with
   |lst xs=>
    cases y with
    |int k=>
     dsimp only at h
     cases q2:ixI xs.length k with
     |none=>rw[q2]at h;cases h
     |some j=>rw[q2]at h;exact⟨n,xs,k,j,rfl,q,rfl,q2,(AW h).symm⟩
    |_=>cases h
   |_=>cases h
 |_=>cases h
theorem ye.put{K:AB}{cl:Nat->AH}:∀{vs:List PV} {xs:List V} (j:Nat) {v:PV} {x:V},ye K cl B φ H vs xs->yc K cl B φ H v x->ye K cl B φ H (vs.set j v) (xs.set j x)
 |[],xs,j,v,x,l,r=>by erw[ye]at l;subst l;simp[ye]
 |w::vs,xs,0,v,x,l,r=>by
  erw[ye]at l;let⟨y,ys,rfl,_,l⟩:=l;erw[Au,ye];exact⟨x,ys,rfl,r,l⟩
 |w::vs,xs,j+1,v,x,l,r=>by
  erw[ye]at l;let⟨y,ys,rfl,ry,l⟩:=l;erw[Av,ye];exact⟨y,ys.set j x,rfl,ry,ye.put j l r⟩
def zhr(he:PE X a (tE S X ca))(ho:PE X b (tE S X cb))(hi:PE X c (tE S X cc))(hs:swapsWithSole [.Subscript b c px] a pos.line X.env=pure false:=by rfl)(hw:swappedStores [.Subscript b c px] a X.env=pure none:=by rfl)
  (hg:PG X (.Subscript b c px) (ydX (tE S X cb) (tE S X cc) yck):=by exact ze8 ‹_› ‹_› zck):PS X (.Assign [.Subscript b c px] a pos) (tS S X (.six cb cc ca)):=
 (zfj he hg hs hw).imp λD σ H ⟨B,φ,st,ρ,rs,re,h⟩=>by
  erw[ex]at h;refine tE.fl rs re h λv' H1 v st1 φ1 s1 rs1 re1 rv h1=>tE.fl rs1 re1 h1 λx' H2 x st2 φ2 s2 rs2 re2 rx h2=>tE.fl rs2 re2 h2 λy' H3 y st3 φ3 s3 rs3 re3 ry h3=>?_
  cases e:yaP st3 x y v with
  |none=>rw[e]at h3;exact h3.elim
  |some st4=>
   rw[e]at h3;let⟨n,xs,k,j,rfl,hn,rfl,hj,rfl⟩:=zev e;erw[yc]at ry;subst ry;let⟨l,ys,rfl,hp,hx,lr⟩:=rs3.list (rx.step s3) hn;refine⟨l,ys,k,j,rfl,rfl,hx,by rw[<-lr.length];exact hj,?_⟩;have s4:Step φ3 H3 φ3 (L2.upd H3 l (.lst (ys.set j v'))):=.put (AV hp);exact h3 σ _ φ3 s4 (rs3.put hp ⟨_,zc,(lr.put j ((rv.step s2).step s3)).step s4⟩) (re3.step s4)
end
section
variable {S:Se}{X:Cx}{σ:St}{B:AH->Prop}{φ:Ph}{H:Hp}{st:SO}{p pos p2 px py pt pt2 apos:Ba}{a b c d o:AO}{ca cb cc:Ce}{kt k2:Nat}
def zhA{i j:Nat}{x y:AM}(hc:X.calm=AD)(hN:X.N.Nodup)(hi:X.N[i]?=AA x)(hj:X.N[j]?=AA y)(hij:i≠j)(h:PS X (.Assign [.Tuple [.Name x px,.Name y py] kt pt] (.Tuple [a,b] k2 pt2) pos) (yeb i j (tAs S X (.cons ca (.cons cb .nil))))):
  PS X (.Assign [.Tuple [.Name x px,.Name y py] kt pt] (.Tuple [a,b] k2 pt2) pos) (tS S X (.asg (.t [i,j]) (.tup (.cons ca (.cons cb .nil))))):=
 h.imp λD σ H ⟨B,φ,st,ρ,rs,re,h⟩=>by
  erw[ex,ev]at h;refine⟨B,φ,st,ρ,rs,re,?_⟩
  cases e:evs S.call ρ st (.cons ca (.cons cb .nil))with
  |bad=>rw[e]at h;exact h
  |exc k st'=>rw[e]at h;exact λe s' x=>h σ φ H e s' .rfl re x
  |ok vs st'=>
   rw[e]at h;intro xs H' φ' s rs' l;erw[R.bind]at h;split at h
   .rcases vs with _|⟨v,_|⟨w,_|⟨u,t⟩⟩⟩
    .exact h.elim
    .exact h.elim
    .let⟨v',w',rfl,rv,rw⟩:=l.two;refine⟨v',w',rfl,?_⟩;exact h _ H' φ' s rs' (((re.step s).set i rv).set j rw)
    .exact h.elim
   .exact h.elim
def zg6{op:CQ}{bo:BOp}{C:Int->Int->Prop}{g:Int->Int->Int}(h:OpR X (inplaceOp op) (rI C λi j=>.int (g i j)))(hb:∀v w z,yaH bo v w=AA z->∃i j,v=.int i/\w=.int j/\C i j/\z=.int (g i j)):PIp X op (rT2 S X (yaH bo)):=by
 rintro π s σ H x y v u Q I rx ry ⟨B,φ,st,a,b,z,rs,ra,rb,e,q⟩
 let⟨i,j,rfl,rfl,hc,rfl⟩:=hb a b z e;erw[yc]at ra rb;subst ra rb;exact h π s σ H _ _ v u Q I rx ry ⟨i,j,rfl,rfl,hc,q _ H φ .rfl rs (by erw[yc])⟩
def zc9{bo:BOp}{v w z:PV}(h:yaH bo v w=AA z):∃i j,v=.int i/\w=.int j/\IC.binI bo i j=AA z:=by
 unfold yaH at h;split at h
 .exact⟨_,_,rfl,rfl,h⟩
 .cases h
def zf4:PIp X .Add (rT2 S X (yaH .add)):=by
 rintro π s σ H x y v u Q I rx ry ⟨B,φ,st,a,b,z,rs,ra,rb,e,q⟩
 let⟨i,j,rfl,rfl,e⟩:=zc9 e
 cases e
 erw[yc]at ra rb;subst ra rb;exact ziH π s σ H _ _ v u Q I rx ry ⟨i,j,rfl,rfl,q _ H φ .rfl rs (by erw[yc])⟩
def zfE:PIp X .Mult (rT2 S X (yaH .mul)):=zg6 zfy λv w z h=>by
 let⟨i,j,rfl,rfl,e⟩:=zc9 h;erw[IC.binI]at e;split at e
 .rename_i c;erw[yac,Bv,decide_eq_true_eq]at c;refine⟨i,j,rfl,rfl,?_,(AW e).symm⟩;unfold ybT;rcases c with c|c
  .left;constructor<;>lia
  .right;constructor<;>lia
 .cases e
end
end L2
namespace WK
open PySem L2 IC
def GC(K:AB)(mg:AM->Option AE)(cl:Nat->AH)(x:AM)(v:PV):Prop:=∃y:AH,mg x=AA (.ref y)/\∀B φ H,yc K cl B φ H v (.ref y)
def ziM{S:Se}{X:Cx}{x:AM}{v:PV}{pos:Ba}(hg:Gl X x)(h:GC X.K X.mg S.cl x v)(hd:(x==("__debug__":AM))=false:=by decide):PE X (.Name x pos) (tE S X (.cst v)):=by
 let⟨y,hm,hk⟩:=h;exact zcV hg hm hk hd
def zho:bootBuiltins "int"=AA (.type "int"):=by decide +kernel
def zgr:bootBuiltins "bool"=AA (.type "bool"):=by decide +kernel
def zes:bootBuiltins "tuple"=AA (.type "tuple"):=by decide +kernel
def zgP:bootBuiltins "len"=AA (.builtin "len"):=by decide +kernel
def zhx:bootBuiltins "max"=AA (.builtin "max"):=by decide +kernel
def ziv:bootBuiltins "all"=AA (.builtin "all"):=by decide +kernel
def zhG:bootBuiltins "sum"=AA (.builtin "sum"):=by decide +kernel
end WK
namespace L2
open PySem PySem.Spec PyProof.Rows IC
def shC:Sum Ce Int->Option Int
 |.inl _=>AC
 |.inr i=>AA i
def yar:List (Option Int)->List V->List V
 |[],_=>[]
 |some i::r,zs=>.int i::yar r zs
 |none::r,z::zs=>z::yar r zs
 |none::_,[]=>[]
def pick:List (Option Int)->List V->List V
 |none::r,v::vs=>v::pick r vs
 |some _::r,_::vs=>pick r vs
 |_,_=>[]
def nKw:List (Option Int)->Nat
 |[]=>0
 |none::r=>nKw r+1
 |some _::r=>nKw r
def yb2:Ces->Nat
 |.nil=>0
 |.cons _ r=>yb2 r+1
def gK(np:Nat)(sh:List (Option Int))(vs zs:List V):List V:=if vs.length=np/\zs.length=nKw sh then vs++yar sh zs else []
def zc8{call:Nat->List PV->SO->R PV}{ρ:IC.Env}:∀(a:Ces) {st st':SO} {vs:List PV},evs call ρ st a=.ok vs st'->vs.length=yb2 a
 |.nil,st,st',vs,h=>by erw[evs]at h;cases h;rfl
 |.cons e r,st,st',vs,h=>by
  erw[evs]at h
  cases q:ev call ρ st e with
  |ok v s1=>
   rw[q]at h;erw[R.bind]at h
   cases q2:evs call ρ s1 r with
   |ok ws s2=>
    rw[q2]at h
    cases h
    simp[yb2,zc8 r q2]
   |exc c s=>rw[q2]at h;cases h
   |bad=>rw[q2]at h;cases h
  |exc c s=>rw[q]at h;cases h
  |bad=>rw[q]at h;cases h
def zc7{call:Nat->List PV->SO->R PV}{ρ:IC.Env}:∀(a b:Ces) (st:SO),evs call ρ st (yb1 a b)=(evs call ρ st a).bind λvs st1=>(evs call ρ st1 b).bind λws st2=>.ok (vs++ws) st2
 |.nil,b,st=>by
  erw[yb1,evs,R.bind,Bi]
  cases evs call ρ st b<;>rfl
 |.cons e r,b,st=>by
  erw[yb1,evs]
  cases ev call ρ st e with
  |ok v st1=>
   erw[R.bind];rw[zc7 r b st1]
   cases evs call ρ st1 r with
   |ok vs st2=>
    erw[R.bind]
    cases evs call ρ st2 b<;>rfl
   |exc c s=>rfl
   |bad=>rfl
  |exc c s=>rfl
  |bad=>rfl
section
variable {S:Se}{X:Cx}{k:Nat}{f:AH}{fd:Al}{ps ks:List AM}{sp:Sp}{x:AM}{p pos kpos:Ba}{e:AO}{es:List AO}{kws:List BR}{nm:Option AM}{t tk:TA}{CX:CXT}{ca:Ce}{ces:Ces}{items:List (Sum Ce Int)}{g:List AE->List AE->List AE}{gV:List V->List V->List V}
def z7{K:AB}{cl:Nat->AH}{B:AH->Prop}{φ:Ph}{H:Hp}{call:Nat->List PV->SO->R PV}{ρ:IC.Env}:∀(items:List (Sum Ce Int)) {st st':SO} {vs:List PV} {xs:List V},evs call ρ st (yW items)=.ok vs st'->ye K cl B φ H vs xs->yar (items.map shC) (pick (items.map shC) xs)=xs/\(pick (items.map shC) xs).length=nKw (items.map shC)
 |[],st,st',vs,xs,h,l=>by
  erw[yW,evs]at h
  cases h
  erw[ye]at l;subst l;exact⟨rfl,rfl⟩
 |.inl c::r,st,st',vs,xs,h,l=>by
  erw[yW,evs]at h;let⟨v,s1,e1,h⟩:=zI h;let⟨ws,s2,e2,h⟩:=zI h
  cases h
  erw[ye]at l;let⟨y,ys,rfl,_,l⟩:=l;let⟨q1,q2⟩:=z7 r e2 l;erw[AL,shC,pick,yar,nKw,A2,q1,q2];exact⟨trivial,trivial⟩
 |.inr i::r,st,st',vs,xs,h,l=>by
  erw[yW,evs,ev]at h;let⟨v,s1,e1,h⟩:=zI h;let⟨ws,s2,e2,h⟩:=zI h
  cases h
  cases e1
  erw[ye,yc]at l;let⟨y,ys,rfl,rfl,l⟩:=l;let⟨q1,q2⟩:=z7 r e2 l;erw[AL,shC,pick,yar,nKw,q1,q2];exact⟨trivial,trivial⟩
def tK(S:Se)(X:Cx)(items:List (Sum Ce Int)):TA:=λσ H Q=>∃B φ st ρ,yp X.K S.cl B φ H st/\yu X.K S.cl B φ H ρ σ/\Run S X σ B φ H (RL S X B) (evs S.call ρ st (yW items)) λxs H'=>Q (pick (items.map shC) xs) H'
theorem PK.imp{t t':TA}(h:PK X kws t')(k:∀σ H Q,t σ H Q->t' σ H Q):PK X kws t:=λpos π s σ H Q I q=>h pos π s σ H Q I (k σ H Q q)
def zhK:PK X [] (tK S X []):=zjj.imp λσ H Q ⟨B,φ,st,ρ,rs,re,h⟩=>by
 erw[yW,evs]at h;exact h.ok rs (x:=[]) (by erw[ye])
def zi2{i:Int}(h:PK X kws (tK S X items)):PK X kws (tK S X (.inr i::items)):=h.imp λσ H Q ⟨B,φ,st,ρ,rs,re,h⟩=>by
 erw[yW,evs,ev,R.bind]at h;refine⟨B,φ,st,ρ,rs,re,?_⟩
 cases e:evs S.call ρ st (yW items)with
 |ok vs st'=>
  rw[e]at h;intro xs H' φ' s rs' l;exact h (.int i::xs) H' φ' s rs' (by erw[ye,yc];exact⟨_,_,rfl,rfl,l⟩)
 |exc c s=>rw[e]at h;exact h
 |bad=>rw[e]at h;exact h
def zjb(ha:PE X e (tE S X ca))(h:PK X kws (tK S X items)):PK X (⟨nm,e,kpos⟩ :: kws) (tK S X (.inl ca::items)):=(zgB ha h).imp λσ H Q ⟨B,φ,st,ρ,rs,re,h⟩=>by
 erw[yW,evs]at h;refine tE.bind rs re h λx H1 v st1 φ1 s1 rs1 re1 rv h1=>⟨B,φ1,st1,ρ,rs1,re1,?_⟩;refine(Run.bind (Rel:=RL S X B) h1).mono λxs H2 kq=>?_;let⟨ws,st2,φ2,s2,rs2,l,h2⟩:=kq;exact h2.ok rs2 (x:=x::xs) (by erw[ye];exact⟨x,xs,rfl,rv.step s2,l⟩)
def zdZ{fi:Nat}(F:yav X.prog X.w X.K X.mg X.base (CX1 X.prog X.w) k f fd ps (spI X.K S.cl S.call fi))(hr:yaj k X.A)(hg:Gl X x)(hm:X.mg x=AA (.ref f))(hk:Ae X.K (.ref f)=AD){np:Nat}(hb:∃g,yaX X.K fd ps ks g (gK np (items.map shC)))(hnp:yb2 ces=np)
  (ha:PA X (e::es) (tAs S X ces)) (hkw:PK X kws (tK S X items)) (hall:(backToKw pos (keywordEach kws X.env)).all (·.1.isSome)=true:=by rfl) (hks:(backToKw pos (keywordEach kws X.env)).filterMap (·.1)=ks:=by rfl)
  (hdb:(x==("__debug__":AM))=false:=by decide) (he:starEach (e::es) X.env=(AF,eval e X.env)::starEach es X.env:=by rfl)
  (hpl:((backTo pos (starEach (e::es) X.env)).any (·.1) || (backToKw pos (keywordEach kws X.env)).any (·.1.isNone))=false:=by rfl):
  PE X (.Call (.Name x p) (e::es) kws pos) (tE S X (.call fi (yb1 ces (yW items)))):=by
 intro π s σ H Q I ⟨B,φ,st,ρ,rs,re,h⟩;erw[ev]at h;rw[zc7,R.bind_assoc]at h;refine BP (zap I hg hm ?_ hdb);have h0:tAs S X ces σ H λvs H1=>tK S X items σ H1 λzs H2=>∃E:XK,spI X.K S.cl S.call fi (gK np (items.map shC) vs zs) H2 Q E/\∀π s e s',Inv X π σ H2 s->CX1 X.prog X.w X.stack H2 s E e s'->X.xe e s':=by
  have hlen:∀vs st',evs S.call ρ st ces=.ok vs st'->vs.length=np:=λvs st' q=>(zc8 ces q).trans hnp;refine⟨B,φ,st,ρ,rs,re,?_⟩
  cases q:evs S.call ρ st ces with
  |exc c s=>rw[q]at h;exact h
  |bad=>rw[q]at h;exact h
  |ok vs st1=>
  rw[q]at h;intro xs H1 φ1 s1 rs1 rv;have h1:=Run.on s1 h;have re1:=re.step s1;have hv:=hlen vs st1 q;refine⟨B,φ1,st1,ρ,rs1,re1,?_⟩;have h1:Run S X σ B φ1 H1 (RV S X B) (((evs S.call ρ st1 (yW items)).bind λa st=>(R.ok (vs++a) st:R (List PV))).bind λvs st1=>S.call fi vs st1) Q:=h1;rw[R.bind_assoc]at h1
  cases e:evs S.call ρ st1 (yW items)with
  |ok ws st2=>
   rw[e]at h1;intro ys H2 φ2 s2 rs2 l2;let⟨m1,m2⟩:=z7 items e l2;have eg:gK np (items.map shC) xs (pick (items.map shC) ys)=xs++ys:=by
    unfold gK;rw[if_pos ⟨by rw[<-rv.length];exact hv,m2⟩,m1]
   show ∃E:XK,spI X.K S.cl S.call fi (gK np (items.map shC) xs (pick (items.map shC) ys)) H2 Q E/\_;rw[eg];exact zaw rs2 ((rv.step s2).append l2) (Run.on s2 h1)
  |exc c s=>rw[e]at h1;exact h1
  |bad=>rw[e]at h1;exact h1
 refine PySem.W.callWith_KW (h₀:=X.base) I.ok.mod.kin hk hall (thn (ha pos π s σ H _ I h0) λus s1 kq=>?_) hpl he;let⟨vs,H1,I1,r,q⟩:=kq;refine thn (hkw pos π s1 σ H1 _ I1 q) λws s2 kq=>?_;let⟨zs,H2,I2,rz,E,q2,hx⟩:=kq;refine ⟨I2.kIn,?_⟩;rw[hks];let⟨g,hb⟩:=hb;have r2:=hb.rel r rz;have hl:(g us ws).length=ps.length:=by rw[<-r2.length];exact F.len _ _ _ _ q2
 refine FX (Cp (F.run X.A X.stack s2 H2 ⟨us,ks.zip ws⟩ (g us ws) (gK np (items.map shC) vs zs) Q E hr I2.env0 (hb.to s2 us ws I2.kIn hl) r2 q2) λr s' hq=>?_)
 cases r with
 |error e=>exact hx π s2 e s' I2 hq
 |ok fl=>
  cases fl with
  |ret u=>exact I2.after hq
  |next=>exact BF hq
  |brk=>exact BF hq
  |cont=>exact BF hq
end
def yaB:List (Option Int)->List AE->List AE->List AE
 |[],_,_=>[]
 |some _::r,ws,d::ds=>d::yaB r ws ds
 |none::r,w::ws,_::ds=>w::yaB r ws ds
 |_,_,_=>[]
def zas:∀(sh:List (Option Int)) (ds:List Int) {zs:List V} {ws us:List AE},Vals (ds.map V.int) us->Vals zs ws->sh.length=ds.length->(∀p∈sh.zip ds,∀i,p.1=AA i->i=p.2)->Vals (yar sh zs) (yaB sh ws us)
 |[],ds,zs,ws,us,r,q,hl,h=>.nil
 |some i::r,[],zs,ws,us,rr,q,hl,h=>by simp at hl
 |some i::r,d::ds,zs,ws,_,.cons a b,q,hl,h=>by
  have:i=d:=h (AA i,d) (by simp) i rfl;subst this;exact .cons a (zas r ds b q (by simpa using hl) λp hp=>h p (by simp[hp]))
 |none::r,[],zs,ws,us,rr,q,hl,h=>by simp at hl
 |none::r,d::ds,_,_,_,.cons a b,.nil,hl,h=>.nil
 |none::r,d::ds,_,_,_,.cons a b,.cons c q,hl,h=>.cons c (zas r ds b q (by simpa using hl) λp hp=>h p (by simp[hp]))
structure FnD(K:AB)(mg:AM->Option AE)(x:AM)(st:BS)(ps:List AM)(ds:List Int)(f:AH)(fd:Al):Prop where
 ex:∃(oc:AE) (od:Option AH) (dT:AH) (kV doc pm:AE) (an:Option AH) (cdv ct:AE) (osl:Array (Option AE)) (o:B1) (its:Array AE) (n:Nat),
  fd=BD x x (yK st) (yD st) (yg st) (.ref dT) kV doc pm an cdv ct/\K.lookup f=AA ⟨oc,od,.func fd,osl⟩/\B5 K cdv x=AD/\K.lookup dT=AA o/\o.data=.seq its n/\Vals (ds.map V.int) its.toList
 kp:Ae K (.ref f)=AD
 m:mg x=AA (.ref f)
theorem kbD{K:AB}{mg:AM->Option AE}{x:AM}{st:BS}{ps ks:List AM}{ds:List Int}{f:AH}{fd:Al}{np off:Nat}{sh:List (Option Int)}(D:FnD K mg x st ps ds f fd)(hnk:ks.length=nKw sh)(hsh:sh.length=(ds.drop off).length)(hd':((sh.zip (ds.drop off)).all λp=>p.1.all λi=>decide (i=p.2))=AD)
  (h:∀(dT:AH) (kV doc pm:AE) (an:Option AH) (cdv ct:AE) (us ws its:List AE),us.length=np->ws.length=ks.length->its.length=ds.length ->
   ∃k,bindArgs (BD x x (yK st) (yD st) (yg st) (.ref dT) kV doc pm an cdv ct) ⟨us,ks.zip ws⟩=seqItems? (.ref dT) >>= k/\k (AA its.toArray)=pure (ps.zip (us++yaB sh ws (its.drop off)))) (hps:0<ps.length):
  ∃g,yaX K fd ps ks g (gK np sh):=by
 have hd:∀p∈sh.zip (ds.drop off),∀i,p.1=AA i->i=p.2:=λp hp i hi=>by
  have:=BL.mp hd' p hp;rw[hi]at this;simpa using this
 let⟨oc,od,dT,kV,doc,pm,an,cdv,ct,osl,o,its,n,rfl,lk,hcd,lo,hs,r⟩:=D.ex;refine⟨λus ws=>if us.length=np/\ws.length=nKw sh then us++yaB sh ws (its.toList.drop off)else [],⟨λs us ws KX hl=>?_,λ{vs us zs ws} rv rz=>?_⟩⟩
 .by_cases c:us.length=np/\ws.length=nKw sh
  .rw[if_pos c]at hl ⊢;let⟨k,h1,h2⟩:=h dT kV doc pm an cdv ct us ws its.toList c.1 (by rw[hnk];exact c.2) (by rw[<-r.length,A4]);exact BindsTo.of_defaults rfl (KX _ _ lo) hs h1 (by simpa using h2)
  .rw[if_neg c]at hl;simp at hl;lia
 .unfold gK;have e1:=rv.length;have e2:=rz.length
  by_cases c:us.length=np/\ws.length=nKw sh
  .rw[if_pos c,if_pos ∅];refine rv.append (zas sh (ds.drop off) ?_ rz hsh hd);rw[List.map_drop];exact r.drop off
  .rw[if_neg c,if_neg ∅];exact .nil
section
variable {P:A1}{w:A8}{K:AB}{mg:AM->Option AE}{base:Aq}{cl:Nat->AH}{T:Nat->Option IC.Fn}{fi:Nat}{fn:IC.Fn}{x:AM}{stm:BS}{f:AH}{fd:Al}{N ps:List AM}{ds:List Int}{k:Nat}
end
def za2(a b:Key):peq (yaf a) (yaf b)=decide (a=b):=by
 rw[Ds]
 cases a<;>cases b<;>simp[yaf,peq]
def zcc:∀(a b:List Key),yaO (a.map yaf) (b.map yaf)=decide (a=b)
 |[],[]=>by simp[yaO]
 |[],y::ys=>by simp[yaO]
 |x::xs,[]=>by simp[yaO]
 |x::xs,y::ys=>by
  erw[AL,yaO,za2,zcc xs ys];rw[Ds];simp
def za7(a b:List Key):peq (.tup (a.map yaf)) (.tup (b.map yaf))=decide (a=b):=by
 erw[peq,zcc]
def zcX{k:PV}(h:yaZ k=AD):∃q,k=yaf q:=by
 cases k with
 |int i=>exact⟨.inl i,rfl⟩
 |str i=>exact⟨.inr i,rfl⟩
 |_=>cases h
def zdV:∀{ks:List PV},ks.all yaZ=AD->∃qs:List Key,ks=qs.map yaf
 |[],_=>⟨[],rfl⟩
 |k::ks,h=>by
  rw[Ai,AG]at h;let⟨q,rfl⟩:=zcX h.1;let⟨qs,rfl⟩:=zdV h.2;exact⟨q::qs,rfl⟩
section
variable {S:Se}{X:Cx}{K:AB}{cl:Nat->AH}{σ:St}{B:AH->Prop}{φ:Ph}{H:Hp}{st:SO}{p pos p2 px apos:Ba}{a b c d o:AO}{ca cb cc:Ce}
def zfC{q:Key}{x:V}:yc K cl B φ H (yaf q) x ↔ x=kV q:=by
 cases q<;>simp[yaf,yc,kV]
def zbp:∀{qs:List Key} {xs:List V},ye K cl B φ H (qs.map yaf) xs->xs=qs.map kV
 |[],xs,l=>by simpa only[BE,ye] using l
 |q::qs,xs,l=>by
  erw[AL,ye]at l;let⟨y,ys,rfl,r,l⟩:=l;rw[zfC.mp r,zbp l];rfl
theorem DK.look{q:Key}:∀{kvs:List (PV×PV)} {ks:List (Key×V)},DK K cl B φ H kvs ks->∀{v:PV} {x:V},yc K cl B φ H v x->yc K cl B φ H ((IC.look (yaf q) kvs).getD v) ((ya0 ks q).getD x)
 |[],ks,h,v,x,r=>by cases h;exact r
 |(k,w)::t,ks,h,v,x,r=>by
  let⟨q',y,s,rfl,rfl,rv,l⟩:=h;erw[IC.look,za2]
  by_cases e:q'=q
  .rw[zY (p:=(q',y)) e];simp[e,rv]
  .rw[zW (p:=(q',y)) e];erw[decide_eq_true_eq,e,if_false];exact DK.look l r
theorem DT.look{q:List Key}:∀{kvs:List (PV×PV)} {ks:List (List Key×V)},DT K cl B φ H kvs ks->∀{v:PV} {x:V},yc K cl B φ H v x->yc K cl B φ H ((IC.look (.tup (q.map yaf)) kvs).getD v) ((ya0 ks q).getD x)
 |[],ks,h,v,x,r=>by cases h;exact r
 |(k,w)::t,ks,h,v,x,r=>by
  let⟨q',y,s,rfl,rfl,rv,l⟩:=h;erw[IC.look,za7]
  by_cases e:q'=q
  .rw[zY (p:=(q',y)) e];simp[e,rv]
  .rw[zW (p:=(q',y)) e];erw[decide_eq_true_eq,e,if_false];exact DT.look l r
theorem DK.any{q:Key}:∀{kvs:List (PV×PV)} {ks:List (Key×V)},DK K cl B φ H kvs ks->(kvs.any λp=>peq p.1 (yaf q))=ks.any λkv=>decide (kv.1=q)
 |[],ks,h=>by cases h;rfl
 |(k,w)::t,ks,h=>by
  let⟨q',y,s,rfl,rfl,rv,l⟩:=h;erw[BM,za2,DK.any l]
theorem DT.any{q:List Key}:∀{kvs:List (PV×PV)} {ks:List (List Key×V)},DT K cl B φ H kvs ks->(kvs.any λp=>peq p.1 (.tup (q.map yaf)))=ks.any λkv=>decide (kv.1=q)
 |[],ks,h=>by cases h;rfl
 |(k,w)::t,ks,h=>by
  let⟨q',y,s,rfl,rfl,rv,l⟩:=h;erw[BM,za7,DT.any l]
theorem DK.map{q:Key}{v:PV}{x:V}(r:yc K cl B φ H v x):∀{kvs:List (PV×PV)} {ks:List (Key×V)},DK K cl B φ H kvs ks->DK K cl B φ H (kvs.map λp=>if peq p.1 (yaf q)=AD then(p.1,v)else p) (ks.map λkv=>if kv.1=q then(kv.1,x)else kv)
 |[],ks,h=>by cases h;exact rfl
 |(k,w)::t,ks,h=>by
  let⟨q',y,s,rfl,rfl,rv,l⟩:=h;erw[AL,za2,decide_eq_true_eq]
  by_cases e:q'=q
  .simp only[e,if_true];exact⟨q,x,_,rfl,rfl,r,DK.map r l⟩
  .simp only[e,if_false];exact⟨q',y,_,rfl,rfl,rv,DK.map r l⟩
theorem DT.map{q:List Key}{v:PV}{x:V}(r:yc K cl B φ H v x):∀{kvs:List (PV×PV)} {ks:List (List Key×V)},DT K cl B φ H kvs ks->DT K cl B φ H (kvs.map λp=>if peq p.1 (.tup (q.map yaf))=AD then(p.1,v)else p) (ks.map λkv=>if kv.1=q then(kv.1,x)else kv)
 |[],ks,h=>by cases h;exact rfl
 |(k,w)::t,ks,h=>by
  let⟨q',y,s,rfl,rfl,rv,l⟩:=h;erw[AL,za7,decide_eq_true_eq]
  by_cases e:q'=q
  .simp only[e,if_true];exact⟨q,x,_,rfl,rfl,r,DT.map r l⟩
  .simp only[e,if_false];exact⟨q',y,_,rfl,rfl,rv,DT.map r l⟩
theorem DK.snoc{q:Key}{v:PV}{x:V}(r:yc K cl B φ H v x):∀{kvs:List (PV×PV)} {ks:List (Key×V)},DK K cl B φ H kvs ks->DK K cl B φ H (kvs++[(yaf q,v)]) (ks++[(q,x)])
 |[],ks,h=>by cases h;exact⟨q,x,[],rfl,rfl,r,rfl⟩
 |(k,w)::t,ks,h=>by
  let⟨q',y,s,rfl,rfl,rv,l⟩:=h;exact⟨q',y,_,rfl,rfl,rv,DK.snoc r l⟩
theorem DT.snoc{q:List Key}{v:PV}{x:V}(r:yc K cl B φ H v x):∀{kvs:List (PV×PV)} {ks:List (List Key×V)},DT K cl B φ H kvs ks->DT K cl B φ H (kvs++[(.tup (q.map yaf),v)]) (ks++[(q,x)])
 |[],ks,h=>by cases h;exact⟨q,x,[],rfl,rfl,r,rfl⟩
 |(k,w)::t,ks,h=>by
  let⟨q',y,s,rfl,rfl,rv,l⟩:=h;exact⟨q',y,_,rfl,rfl,rv,DT.snoc r l⟩
theorem DK.put{q:Key}{v:PV}{x:V}{kvs:List (PV×PV)}{ks:List (Key×V)}(l:DK K cl B φ H kvs ks)(r:yc K cl B φ H v x):DK K cl B φ H (IC.put (yaf q) v kvs) (putK ks q x):=by
 unfold IC.put putK;rw[DK.any l];split
 .exact DK.map r l
 .exact DK.snoc r l
theorem DT.put{q:List Key}{v:PV}{x:V}{kvs:List (PV×PV)}{ks:List (List Key×V)}(l:DT K cl B φ H kvs ks)(r:yc K cl B φ H v x):DT K cl B φ H (IC.put (.tup (q.map yaf)) v kvs) (putK ks q x):=by
 unfold IC.put putK;rw[DT.any l];split
 .exact DT.map r l
 .exact DT.snoc r l
theorem DK.len:∀{kvs:List (PV×PV)} {ks:List (Key×V)},DK K cl B φ H kvs ks->kvs.length=ks.length
 |[],ks,h=>by cases h;rfl
 |(k,w)::t,ks,h=>by
  let⟨q',y,s,rfl,rfl,rv,l⟩:=h;simp[DK.len l]
theorem DT.len:∀{kvs:List (PV×PV)} {ks:List (List Key×V)},DT K cl B φ H kvs ks->kvs.length=ks.length
 |[],ks,h=>by cases h;rfl
 |(k,w)::t,ks,h=>by
  let⟨q',y,s,rfl,rfl,rv,l⟩:=h;simp[DT.len l]
theorem yp.dct{n:Nat}{t:Bool}{kvs:List (PV×PV)}{x:V}(rs:yp K cl B φ H st)(r:yc K cl B φ H (.loc n) x)(h:st[n]?=AA (.dct t kvs)):∃y,x=.ref y/\φ[n]?=AA (AA y)/\ybu K cl B φ H (.dct t kvs) y:=by
 erw[yc]at r;let⟨hn,y,rfl,ha⟩:=r;let⟨z,hz⟩:=rs.liv n _ h (by intro z;cases z);obtain rfl:=ha z hz;let⟨o,ho,ro⟩:=rs.obj n z hz;rw[h]at ho;cases ho;exact⟨z,rfl,hz,ro⟩
def zbt{v:PV}{t:Bool}{kvs:List (PV×PV)}(h:yaz st v=AA (t,kvs)):∃n,v=.loc n/\st[n]?=AA (.dct t kvs):=by
 cases v with
 |loc n=>
  erw[yaz]at h;split at h
  .rename_i t' xs q
   cases h
   exact⟨n,rfl,q⟩
  .cases h
 |_=>cases h
def zgc{k:PV}(h:isKey AF k=AD):∃q,k=yaf q:=zcX h
def zdU{k:PV}(h:isKey AD k=AD):∃q:List Key,k=.tup (q.map yaf):=by
 cases k with
 |tp b xs=>
  cases b with
  |false=>
   let⟨qs,rfl⟩:=zdV h;exact⟨qs,rfl⟩
  |true=>cases h
 |_=>cases h
def zdi{q:List Key}{x:V}(r:yc K cl B φ H (.tup (q.map yaf)) x):∃y,x=.ref y/\H y=AA (.tup (q.map kV)):=by
 erw[yc]at r;let⟨y,xs,rfl,rt,l⟩:=r;rcases rt with⟨rt,_⟩|⟨z,_⟩
 .exact⟨y,rfl,by rw[rt,zbp l]⟩
 .cases z
def zgX(hu:X.A.units+1<cLine)(ha:PE X a (tE S X ca))(hb:PE X b (tE S X cb))(hc:PE X c (tE S X cc))(m:M2 X a "get" apos b c pos:=by exact⟨rfl,rfl,rfl,rfl⟩):PE X (.Call (.Attribute a "get" apos) [b,c] [] pos) (tE S X (.mth .get ca (.cons cb (.cons cc .nil)))):=
 (zei hu ha hb hc m).imp λσ H Q ⟨B,φ,st,ρ,rs,re,h⟩=>by
  erw[ev]at h;refine tE.bind rs re h λx H1 v st1 φ1 s1 rs1 re1 rv h1=>?_;let⟨_,e1,h1⟩:=z8 h1;erw[yad]at e1
  cases q:yaz st1 v with
  |none=>rw[q]at e1;cases e1
  |some tk=>
   let⟨t,kvs⟩:=tk;let⟨n,rfl,hn⟩:=zbt q;let⟨y,rfl,hy,ro⟩:=rs1.dct rv hn;refine⟨y,rfl,?_,?_⟩
   .cases t with
    |false=>let⟨ks,hk,_⟩:=ro;exact .inl ⟨ks,.inl hk⟩
    |true=>let⟨ks,hk,_⟩:=ro;exact .inr ⟨ks,.inl hk⟩
   .simp only[evs,R.bind_assoc]at h1;refine tE.bind rs1 re1 h1 λkx H2 kv st2 φ2 s2 rs2 re2 rk h2=>tE.bind rs2 re2 h2 λdx H3 dv st3 φ3 s3 rs3 re3 rd h3=>?_;erw[R.bind]at h3;unfold ya8 at h3;erw[ycP]at h3
    cases q3:yaz st3 (.loc n)with
    |none=>rw[q3]at h3;exact h3.elim
    |some tk3=>
     let⟨t3,kvs3⟩:=tk3;rw[q3]at h3;dsimp only at h3;split at h3
     .rename_i hk;let⟨n',e',hn3⟩:=zbt q3
      cases e'
      let⟨y3,ey,hy3,ro3⟩:=rs3.dct ((rv.step s2).step s3) hn3
      cases ey
      have rk3:=rk.step s3
      cases t3 with
      |false=>
       let⟨q,rfl⟩:=zgc hk;let⟨ks,hks,l⟩:=ro3;refine⟨ya0 ks q,.inl ⟨ks,q,.inl hks,zfC.mp rk3,rfl⟩,h3.ok rs3 (DK.look l rd)⟩
      |true=>
       let⟨q,rfl⟩:=zdU hk;let⟨ks,hks,l⟩:=ro3;let⟨b',rfl,hb'⟩:=zdi rk3;exact⟨ya0 ks q,.inr ⟨ks,q,b',.inl hks,rfl,hb',rfl⟩,h3.ok rs3 (DT.look l rd)⟩
     .exact h3.elim
theorem DK.fold:∀(kvs:List (AM×Int)) {acc:List (PV×PV)} {ks:List (Key×V)},DK K cl B φ H acc ks->DK K cl B φ H (kvs.foldl (λacc kv=>IC.put (.str kv.1) (.int kv.2) acc) acc) (ybB ks (kvs.map λkv=>(DO kv.1,.int kv.2)))
 |[],acc,ks,l=>l
 |kv::r,acc,ks,l=>by
  unfold ybB;erw[Bf,AL];exact DK.fold r (l.put (q:=DO kv.1) (x:=.int kv.2) (by erw[yc]))
end
section
variable {S:Se}{X:Cx}{σ:St}{B:AH->Prop}{φ:Ph}{H:Hp}{p pos p3 p4:Ba}{a b tg:AO}{ca cb:Ce}
end
end L2
namespace WK
open PySem L2 IC
section
variable {K:AB}{cl:Nat->AH}{B:AH->Prop}{φ:Ph}{H:Hp}
def zfh:ye K cl B φ H [] []:=by erw[ye]
def zdb{v:PV}{x:V}{vs:List PV}{xs:List V}(h:yc K cl B φ H v x)(l:ye K cl B φ H vs xs):ye K cl B φ H (v::vs) (x::xs):=by
 erw[ye];exact⟨x,xs,rfl,h,l⟩
end
def ziF{P:A1}{w:A8}{outer:List Az}{H:Hp}{s:AI}{e:AE}{s':AI}(h:CX1 P w outer H s (λ_ _ _=>False) e s'):False:=by
 let⟨_,_,_,_,_,_,_,_,_,_,_,_,_,_,z⟩:=h;exact z
def zdl{K:AB}{cl:Nat->AH}{B:AH->Prop}{φ:Ph}{H:Hp}:∀ns:List Int,ye K cl B φ H (ns.map .int) (ns.map V.int)
 |[]=>zfh
 |n::ns=>zdb (by erw[yc]) (zdl ns)
def spX(K:AB)(call:Nat->List PV->SO->R PV)(fi:Nat):Sp:=λvs H Q E=>∀cl,spI K cl call fi vs H Q E
def zdt{K:AB}{call:Nat->List PV->SO->R PV}{fi:Nat}{H:Hp}{a:AH}{ns:List Int}(ht:∀ns:List Int,ns.length<=63->call fi [.scr (ns.map .int)] []=.ok (.bl AD) [])(hl:ns.length<=63)(hS:SqL K H a (ns.map V.int)):
  spX K call fi [.ref a] H (λv _=>v=.bl AD) λ_ _ _=>False:=by
 intro cl;refine⟨λ_=>False,[],[],[.scr (ns.map .int)],⟨rfl,λm n a e=>by simp at e,λn a e=>by simp at e,λn o e=>by simp at e,λa z=>by simp at z,λa z=>z.elim⟩,zdb ?_ zfh,?_⟩
 .simp only[yc];refine⟨a,_,rfl,?_,zdl ns⟩;rcases hS with hS|hS
  .exact .inl ⟨hS,λz=>z,by simp⟩
  .exact .inr hS
 .rw[ht ns hl];intro x H' φ' _ _ r;simpa only[yc] using r
end WK
namespace L2
open PySem PySem.Spec PyProof.Rows IC
def zdA{l:List AM}(h:l.Nodup){i j:Nat}(hi:i<l.length)(hj:j<l.length)(e:l[i]=l[j]):i=j:=by
 rcases Nat.lt_trichotomy i j with q|q|q
 .exact absurd e (DN.mp h i j hi hj q)
 .exact q
 .exact absurd e.symm (DN.mp h j i hj hi q)
section
variable {X:Cx}{π:List (AH×B1)}{σ:St}{H:Hp}{s:AI}
theorem Inv.drop{h':Aq}{m:AM->Option AE}{v:Option AE}{i:Nat}{n:AM}(I:Inv X π σ H s)(hN:X.N.Nodup)(hi:X.N[i]?=AA n)(hm:s.heap.Ns X.env.locals m)(look:∀(i:Nat) (x:AM) (v:V),X.N[i]?=AA x->σ[i]?=AA (AA v)->Vis X.env.scope x->∃u,RelV v u/\Look X.env s.heap m x u)(hs:CG X.env.locals s.heap h')(hn:h'.Ns X.env.locals (λx=>if x=n then v else m x)):Inv X π (σ.set i AC) H {s with heap:=h'}:=by
 have k:∀b u,b≠X.env.locals->s.heap.get? b=AA u->h'.get? b=AA u:=λb u hb q=>(hs.2 b hb).trans q;have nl:∀b o,X.s₀.heap.get? b=AA o->b≠X.env.locals:=λb o e=>Ac (A0 (AQ e) I.ok.above);refine⟨I.ok,I.os,I.bare,⟨λb o q n hb hx=>k b o (nl b o q) (I.base.keep b o q n hb hx),λb o q n hb hx=>?_,I.base.free,λb o q hx=>?_,I.base.tups,I.base.frzs,I.base.tbls⟩,⟨_,hn,λj x v e1 e2 hv=>?_⟩,λx c e=>?_,I.free,I.freeC,λp hp=>?_,λb u e=>?_,?_⟩
 .let⟨sl,q1⟩:=I.base.slot b o q n hb hx;exact⟨sl,k b _ (nl b o q) q1⟩
 .let⟨o',q1⟩:=I.base.there b o q hx;exact⟨o',k b o' (nl b o q) q1⟩
 .have hj:j≠i:=λz=>by
   subst z;rw[DX]at e2;erw[if_true]at e2;split at e2<;>cases e2
  rw[Aj (B9 hj)]at e2;have hx:x≠n:=λz=>by
   subst z;let⟨l1,g1⟩:=Ap.mp e1;let⟨l2,g2⟩:=Ap.mp hi;exact hj (zdA hN l1 l2 (g1.trans g2.symm))
  let⟨u,r,lk⟩:=look j x v e1 e2 hv;refine⟨u,r,?_⟩;rcases lk with⟨q1,q2⟩|⟨q1,c,q2,o,q3,q4⟩
  .exact .inl ⟨q1,by dsimp only;rw[if_neg hx];exact q2⟩
  .exact .inr ⟨q1,c,q2,o,k c o (I.cne x c q2) q3,q4⟩
 .let⟨v,o,ho,hd⟩:=I.cell x c e;exact⟨v,o,k c o (I.cne x c e) ho,hd⟩
 .let⟨q1,q2,q3,q4⟩:=I.pin p hp;exact⟨k _ _ q3 q1,q2,q3,q4⟩
 .refine(I.hok b u e).stay (λc v hc q=>k c v (λz=>?_) q) (λ_ q=>q) λ_ _ q=>q;have fr:=I.free;subst z;rcases hc with z|z
  .rw[z,e]at fr
   cases fr
  .rw[z]at fr
   cases fr
 .rw[Aw];exact I.len
end
section
variable {X:Cx}{body suite:List BS}{b₀:BS}{x n:AM}{np hpos pos:Ba}{W:AH}{i:Nat}
end
section
variable {S:Se}{X:Cx}{σ:St}{B:AH->Prop}{φ φ1:Ph}{H H1:Hp}{st:SO}{ρ:IC.Env}{D:Ends}{body suite:List BS}{b₀:BS}{x n:AM}{p p2 np hpos pos cpos:Ba}{W:AH}{i:Nat}{cb ch:Css}{a e:AO}{es:List AO}{ca ce:Ce}{ces:Ces}
theorem yu.drop{K:AB}{cl:Nat->AH}(r:yu K cl B φ H ρ σ)(i:Nat):yu K cl B φ H (ρ.set i AC) (σ.set i AC):=by
 refine⟨by rw[Aw,Aw];exact r.len,λj w e=>?_⟩
 by_cases h:j=i
 .subst h;rw[DX]at e;erw[if_true]at e;split at e<;>cases e
 .rw[Aj (B9 h)]at e ⊢;exact r.get j w e
abbrev Se.quiet(S:Se):Se:={S with may:=AF}
theorem all_nil{P:Nat->Prop}:∀c∈([]:List Nat),P c:=λ_ h=>by cases h
theorem all_cons{P:Nat->Prop}{c:Nat}{cs:List Nat}(h:P c)(t:∀d∈cs,P d):∀d∈c::cs,P d:=λd hd=>by
 rcases Ab.mp hd with e|e
 .exact e ▸ h
 .exact t d e
structure ycB(K:AB)(mg:AM->Option AE)(C:AH)(x:AM):Prop where
 m:mg x=AA (.ref C)
 q:E3 K C [.type "ValueError",.type "Exception",.type "BaseException",.type "object"] "ValueError.__new__"=AD
def tyZ(cl:Nat->AH):Ty->AE
 |.cls d=>.ref (cl d)
 |_=>.type "ValueError"
def yd3(K:AB)(cl:Nat->AH)(c:Nat)(t:Ty):Prop:=Ay K (.ref (cl c)) (tyZ cl t)=AA (yaJ (.exn c) t)
end
section
variable {S:Se}{X:Cx}{p pos p2 px apos:Ba}{a b:AO}{ca cb:Ce}
def GCI(mg:AM->Option AE)(x:AM)(i:Int):Prop:=∃t,mg x=AA (.int i t)
def zii{x:AM}{i:Int}(hg:Gl X x)(h:GCI X.mg x i)(hd:(x==("__debug__":AM))=false:=by decide):PE X (.Name x pos) (tE S X (.cst (.int i))):=by
 let⟨t,hm⟩:=h;exact(zde hg hm (show RelV (.int i) (.int i t)from ⟨t,rfl⟩) hd).imp λσ H Q ⟨B,φ,st,ρ,rs,re,h⟩=>by
  erw[ev]at h;exact h.ok rs (by erw[yc])
end
end L2
namespace WE
open PySem PySem.Spec PyProof.Rows
section
variable {prog:A1}{w:A8}{A:A9}{E:AE->AI->Prop}{s:AI}
def ycg(h:Aq)(a t:AH)(i:Int):Prop:=∃o,h.get? a=AA o/\o.cls=.type "reversed"/\o.data=.fields #[.ref t,rawInt i]
theorem ycg.typeIs{a t:AH}{i:Int}(x:ycg s.heap a t i):s.TypeIs (.ref a) "reversed":=let ⟨o,ho,hc,_⟩:=x;⟨o,ho,hc⟩
end
end WE
namespace L2
open PySem PySem.Spec PyProof.Rows
end L2
namespace L2
open PySem PySem.Spec PyProof.Rows IC
open Classical in
section
variable {S:Se}{X:Cx}{σ:St}{B:AH->Prop}{φ φ1:Ph}{H H1:Hp}{st:SO}{ρ:IC.Env}{p pos p2 px py pt pt2:Ba}{a b c d o a' b' c' d':AO}{ca cb cc cd ce cf:Ce}{π:List (AH×B1)}{s:AI}{kt k2:Nat}{es:List AO}{ces:Ces}{x:AM}
end
end L2
namespace IC
open PySem
end IC
namespace L2
open PySem PySem.Spec PyProof.Rows IC
section
variable {S:Se}{X:Cx}{σ:St}{B:AH->Prop}{φ:Ph}{H:Hp}{p p2 pos pos2 apos:Ba}{a b tg:AO}{ca cb:Ce}
def zaE:∀bs:List Bool,((CN bs.length).any λi=>(bs[i]?).getD AD)=bs.any id
 |[]=>rfl
 |b::bs=>by
  rw[A2,Dn,BM,Fw,BM,<-zaE bs];rfl
def zej(hc:X.calm=AD):yJ X (.builtin "any") (λxs H Q=>∃(l:AH) (bs:List Bool),xs=[.ref l]/\SqL X.K H l (bs.map V.bl)/\Q (.bl (bs.any id)) H):=by
 intro π s σ H xs us Q I r h;let⟨l,bs,rfl,hq,q⟩:=h;let⟨u,rfl,ru⟩:=Vals.one r
 cases (show u=Af l from ru)
 let⟨its,rv,pl,hz⟩:=I.list hq;have hb:=za3 rv;have hl:=pl.isList;have hlt:l<s.heap.objs.size:=by
  let⟨_,e,_⟩:=hl;exact AQ e
 refine call_any_walk (DV hl ?_);refine⟨s.heap.objs.size,[s.heap.objs.size,l],[s.heap.objs.size],its.toArray.size,_,_,λi=>(bs[i]?).getD AD,rfl,GP (A:=X.A.in1) (I.ok.hd hc) _ l (Ac hlt) its.toArray,⟨⟨_,A3 _ rfl,rfl,rfl⟩,hl.push _⟩,λi v s' Q' E' hP hQ=>?_,λh' tk hk=>?_⟩
 .let⟨b,e,rfl⟩:=hb.get i v (by simpa using hP);erw[e,Ax]at hQ;exact BA hQ
 .have e:((CN its.toArray.size).any λi=>(bs[i]?).getD AD)=bs.any id:=by
   rw[AR,hb.length];exact zaE bs
  rw[e];exact⟨.bl _,H,I.kept (t':=tk) (E2 hk),rfl,q⟩
def zff:∀{vs:List PV} {m:Bool},IC.anyB vs=AA m->∃ns:List Bool,vs=ns.map .bl/\m=ns.any id
 |[],m,h=>by cases h;exact⟨[],rfl,rfl⟩
 |.bl i::r,m,h=>by
  erw[IC.anyB]at h;split at h
  .rename_i c e
   cases h
   let⟨ns,e1,e2⟩:=zff e;exact⟨i::ns,by rw[e1];rfl,by rw[e2];rfl⟩
  .cases h
 |.non::r,m,h=>by cases h
 |.int _::r,m,h=>by cases h
 |.str _::r,m,h=>by cases h
 |.tp _ _::r,m,h=>by cases h
 |.lst _::r,m,h=>by cases h
 |.loc _::r,m,h=>by cases h
 |.fnc _::r,m,h=>by cases h
 |.exn _::r,m,h=>by cases h
 |.scr _::r,m,h=>by cases h
def zhY:bootBuiltins "any"=AA (.builtin "any"):=by decide +kernel
def zch:∀{ns:List Int} {us:List AE},Vals (ns.map V.int) us->us.length=ns.length/\∀(i:Nat) (v:AE),us[i]?=AA v->∃n t,ns[i]?=AA n/\v=.int n t
 |[],_,.nil=>⟨rfl,λi v h=>by simp at h⟩
 |n::ns,_,.cons r q=>by
  let⟨h1,h2⟩:=zch q;let⟨t,rfl⟩:=r;refine⟨by simp[h1],λi v h=>?_⟩
  cases i with
  |zero=>simp at h;exact⟨n,t,rfl,h.symm⟩
  |succ i=>simp at h;simpa using h2 i v h
def zaF:∀ns:List Int,((CN ns.length).any λi=>((ns[i]?).getD 1) != 0)=ns.any (· != 0)
 |[]=>rfl
 |b::bs=>by
  rw[A2,Dn,BM,Fw,BM,<-zaF bs];rfl
def zcU(hc:X.calm=AD):yJ X (.builtin "any") (λxs H Q=>∃(l:AH) (ns:List Int),xs=[.ref l]/\SqT X.K H l (ns.map V.int)/\Q (.bl (ns.any (· != 0))) H):=by
 intro π s σ H xs us Q I r h;let⟨l,ns,rfl,hq,q⟩:=h;let⟨u,rfl,ru⟩:=Vals.one r
 cases (show u=Af l from ru)
 let⟨its,rv,p,hz⟩:=I.tuple hq;let⟨hn,hb⟩:=zch rv;have hl:s.heap.IsTuple l its.toArray:=p;have hlt:l<s.heap.objs.size:=by
  let⟨_,e,_⟩:=hl;exact AQ e
 refine call_any_walk (B7 hl ?_);refine⟨s.heap.objs.size,[s.heap.objs.size,l],[s.heap.objs.size],its.toArray.size,_,_,λi=>((ns[i]?).getD 1) != 0,rfl,Walks.tuple (A:=X.A.in1) (I.ok.hd hc) _ l (Ac hlt) its.toArray,⟨⟨_,A3 _ rfl,rfl,rfl⟩,hl.push _⟩,λi v s' Q' E' hP hQ=>?_,λh' tk hk=>?_⟩
 .let⟨b,t,e,rfl⟩:=hb i v (by simpa using hP);erw[e,Ax]at hQ;exact truthy_int hQ
 .have e:((CN its.toArray.size).any λi=>((ns[i]?).getD 1) != 0)=ns.any (· != 0):=by
   rw[AR,hn];exact zaF ns
  rw[e];exact⟨.bl _,H,I.kept (t':=tk) (E2 hk),rfl,q⟩
def zdW:∀{vs:List PV} {m:Bool},IC.anyI vs=AA m->∃ns:List Int,vs=ns.map .int/\m=ns.any (· != 0)
 |[],m,h=>by cases h;exact⟨[],rfl,rfl⟩
 |.int i::r,m,h=>by
  erw[IC.anyI]at h;split at h
  .rename_i c e
   cases h
   let⟨ns,e1,e2⟩:=zdW e;exact⟨i::ns,by rw[e1];rfl,by rw[e2];rfl⟩
  .cases h
 |.non::r,m,h=>by cases h
 |.bl _::r,m,h=>by cases h
 |.str _::r,m,h=>by cases h
 |.tp _ _::r,m,h=>by cases h
 |.lst _::r,m,h=>by cases h
 |.loc _::r,m,h=>by cases h
 |.fnc _::r,m,h=>by cases h
 |.exn _::r,m,h=>by cases h
 |.scr _::r,m,h=>by cases h
def zf2(st:SO)(v:PV):(∃k xs,v=.tp k xs) \/ yQ .any st [v]=(yr st v).bind λxs=>(anyB xs).map .bl:=by
 cases v<;>first|exact .inl ⟨_,_,rfl⟩|exact .inr rfl
def ziD(hc:X.calm=AD):yJ X (.builtin "any") (rB S X .any):=by
 rintro π s σ H xs us Q I r ⟨B,φ,st,vs,z,rs,l,e,q⟩
 let⟨v,rfl⟩:=z4 e λ_ _=>rfl;let⟨x,rfl,rv⟩:=l.one;rcases zf2 st v with⟨k,ws,rfl⟩|ev
 .have e:(IC.anyI ws).map PV.bl=AA z:=e
  cases e2:IC.anyI ws with
  |none=>rw[e2]at e;cases e
  |some m=>
   rw[e2]at e
   cases e
   let⟨ns,rfl,rfl⟩:=zdW e2;erw[yc]at rv;let⟨a,ys,rfl,h,l⟩:=rv;have h:=h.sq;rw[l.ints]at h;exact zcU hc π s σ H _ us Q I r ⟨a,ns,rfl,h,q _ H φ .rfl rs (by erw[yc])⟩
 .rw[ev]at e
  cases e1:yr st v with
  |none=>rw[e1]at e;cases e
  |some ws=>
   rw[e1]at e;erw[Am]at e
   cases e2:IC.anyB ws with
   |none=>rw[e2]at e;cases e
   |some m=>
    rw[e2]at e
    cases e
    let⟨ns,rfl,rfl⟩:=zff e2;let⟨a,ys,rfl,h,l⟩:=zC rs rv e1;rw[l.bls]at h;exact zej hc π s σ H _ us Q I r ⟨a,ns,rfl,h,q _ H φ .rfl rs (by erw[yc])⟩
end
end L2
namespace WE
open PySem PySem.Spec PyProof.Rows
section
variable {pg:A1}{wd:A8}{A:A9}{Er:AE->AI->Prop}{s:AI}
end
end WE
namespace L2
open PySem PySem.Spec PyProof.Rows
end L2
namespace L2
open PySem PySem.Spec PyProof.Rows IC
inductive ybx(K:AB)(cl:Nat->AH)(w:A8):List (AM×PV)->List Be->Prop
 |nil:ybx K cl w [] []
 |cons {k:AM} {v:PV} {t:GT} {u:AE} {x:V} {D:List (AM×PV)} {es:List Be} (hr:RelV x u) (hv:∀B φ H,yc K cl B φ H v x) (h:ybx K cl w D es):ybx K cl w ((k,v)::D) (⟨DI w.params k,.str k t,u⟩ :: es)
def GD(K:AB)(w:A8)(mg:AM->Option AE)(cl:Nat->AH)(x:AM)(D:List (AM×PV)):Prop:=
 ∃(y:AH) (es:Array Be) (ep:Nat),mg x=AA (.ref y)/\K.lookup y=AA ⟨.type "dict",AC,.dict es ep,#[]⟩/\(y==sysModules)=AF/\ybx K cl w D es.toList/\(D.map (·.1)).Nodup
theorem ybx.pairs{K:AB}{cl:Nat->AH}{P:A1}{w:A8}{D:List (AM×PV)}{es:List Be}(h:ybx K cl w D es):
  ∃vs:List (AM×AE),Pairs (strKind P w) es vs/\(∀e∈es,∃k,(strKind P w).is k e.key=AD/\e.hash=(strKind P w).hash k)/\vs.map (·.1)=D.map (·.1) /\
   (∀s,(valueAt vs s).isSome=(yaM s D).isSome)/\∀s v,yaM s D=AA v->∃u x,valueAt vs s=AA u/\RelV x u/\∀B φ H,yc K cl B φ H v x:=by
 induction h with
 |nil=>exact⟨[],.nil,λe he=>(by cases he),rfl,λs=>rfl,λs v e=>by cases e⟩
 |@cons k v t u x D es hr hv h ih=>
  let⟨vs,h1,h2,h3,h4,h5⟩:=ih;have hat:∀s,valueAt ((k,u)::vs) s=if k=s then AA u else valueAt vs s:=λs=>by
   unfold valueAt;rw[BZ]
   by_cases e:k=s
   .simp[e]
   .simp[e]
  refine⟨(k,u)::vs,.cons (Ef P w k t) rfl h1,λe he=>?_,by rw[AL,AL,h3],λs=>?_,λs v' e=>?_⟩
  .rcases Ab.1 he with rfl|he
   .exact⟨k,Ef P w k t,rfl⟩
   .exact h2 e he
  .rw[hat,yaM]
   by_cases e:k=s
   .rw[if_pos e,if_pos (by simpa using e)];rfl
   .rw[if_neg e,if_neg (by simpa using e),h4]
  .rw[yaM]at e;rw[hat]
   by_cases q:k=s
   .rw[if_pos (by simpa using q)]at e
    cases e
    exact⟨u,x,by rw[if_pos q],hr,hv⟩
   .rw[if_neg (by simpa using q)]at e;let⟨u',x',e1,e2,e3⟩:=h5 s v' e;exact⟨u',x',by rw[if_neg q];exact e1,e2,e3⟩
section
variable {S:Se}{X:Cx}{σ:St}{B:AH->Prop}{φ:Ph}{H:Hp}{st:SO}{pos p:Ba}{a b i:AO}{ca cb:Ce}{x:AM}{D:List (AM×PV)}{ty:TE}
end
section
variable {K:AB}{cl:Nat->AH}{B:AH->Prop}{φ:Ph}{H:Hp}{st:SO}
end
section
variable {S:Se}{X:Cx}{K:AB}{cl:Nat->AH}{σ:St}{B:AH->Prop}{φ φ1:Ph}{H H1:Hp}{st:SO}{ρ:IC.Env}{pos p p2 px:Ba}{a b c o tg l elt iter:AO}{ca cb cc ce:Ce}{ci:Cit}{ct:Tg}
end
section
variable {K:AB}{cl:Nat->AH}{B:AH->Prop}{φ:Ph}{H:Hp}{st:SO}
theorem FS.lookup{f:AM}:∀{fs:List (AM×PV)} {ks:List (AM×V)},FS K cl B φ H fs ks->(∀v,fs.lookup f=AA v->∃x,ks.lookup f=AA x/\yc K cl B φ H v x)/\(fs.lookup f=AC->ks.lookup f=AC)
 |[],ks,h=>by
  cases (show ks=[]from h)
  exact⟨nofun,λ_=>rfl⟩
 |(k,v)::r,ks,h=>by
  let⟨x,s,rfl,rv,l⟩:=h;let⟨q1,q2⟩:=FS.lookup (f:=f) l;erw[Bk]
  cases e:f==k with
  |true=>exact⟨λw z=>by cases z;exact⟨x,rfl,rv⟩,λz=>by cases z⟩
  |false=>exact⟨q1,q2⟩
theorem FS.put{f:AM}{v:PV}{x:V}(r:yc K cl B φ H v x):∀{fs:List (AM×PV)} {ks:List (AM×V)},FS K cl B φ H fs ks->FS K cl B φ H (ybq f v fs) (yax f x ks)
 |[],ks,h=>by
  cases (show ks=[]from h)
  exact⟨x,[],rfl,r,rfl⟩
 |(k,w)::q,ks,h=>by
  let⟨y,s,rfl,ry,l⟩:=h;erw[ybq,yax]
  by_cases c:k=f
  .rw[if_pos c,if_pos c];exact⟨x,s,rfl,r,l⟩
  .rw[if_neg c,if_neg c];exact⟨y,_,rfl,ry,FS.put r l⟩
theorem FS.len:∀{fs:List (AM×PV)} {ks:List (AM×V)},FS K cl B φ H fs ks->fs.length=ks.length
 |[],ks,h=>by cases (show ks=[]from h);rfl
 |(k,w)::q,ks,h=>by
  let⟨y,s,rfl,ry,l⟩:=h;simp[FS.len l]
theorem yp.ins{n c:Nat}{fs:List (AM×PV)}{x:V}(rs:yp K cl B φ H st)(r:yc K cl B φ H (.loc n) x)(h:st[n]?=AA (.ins c fs)):∃y ks dx,x=.ref y/\φ[n]?=AA (AA y)/\H y=AA (.ins (cl c) dx ks)/\FS K cl B φ H fs ks:=by
 erw[yc]at r;let⟨hn,y,rfl,hy⟩:=r;let⟨a,ha⟩:=rs.liv n _ h (by intro z;cases z);let⟨o,ho,ro⟩:=rs.obj n a ha;have e:=hy a ha;subst e;rw[h]at ho
 cases ho
 let⟨ks,⟨dx,q⟩,l⟩:=ro;exact⟨a,ks,dx,rfl,ha,q,l⟩
end
section
variable {S:Se}{X:Cx}{σ:St}{B:AH->Prop}{φ φ1:Ph}{H H1:Hp}{st:SO}{ρ:IC.Env}{p pos pos' p2 apos:Ba}{a b d o e:AO}{ca cb cc:Ce}{es:List AO}{ces:Ces}{c i k:Nat}{f m x:AM}{fa:AH}{fd:Al}{ps:List AM}
def zb2{st:SO}{x v:PV}(h:yaK c st x f=AA v):∃n fs,x=.loc n/\st[n]?=AA (.ins c fs)/\fs.lookup f=AA v:=by
 cases x with
 |loc n=>
  erw[yaK]at h;split at h
  .rename_i dd fs e;split at h
   .rename_i q;subst q;exact⟨n,fs,rfl,e,h⟩
   .cases h
  .cases h
 |_=>cases h
def zcg{st st4:SO}{x v:PV}(h:ybs c st x f v=AA st4):∃n fs,x=.loc n/\st[n]?=AA (.ins c fs)/\fs.length<1000/\st4=st.set n (.ins c (ybq f v fs)):=by
 cases x with
 |loc n=>
  erw[ybs]at h;split at h
  .rename_i dd fs e;split at h
   .rename_i q;let⟨q,q2⟩:=q;subst q
    cases h
    exact⟨n,fs,rfl,e,q2,rfl⟩
   .cases h
  .cases h
 |_=>cases h
def zis(hc:Cls X.K (S.cl c))(hn:yU X.K (S.cl c) f)(ha:PE X a (tE S X ca))(hb:attributeBase a f X.env (eval a X.env)=eval a X.env:=by rfl):PE X (.Attribute a f pos) (tE S X (.fld c ca f)):=
 (zhS ha hb).imp λσ H Q ⟨B,φ,st,ρ,rs,re,h⟩=>by
  erw[ev]at h;refine tE.bind rs re h λx H1 v st1 φ1 s1 rs1 re1 rv h1=>?_;let⟨z,e,q⟩:=zr h1 rs1;let⟨n,fs,rfl,hn',l⟩:=zb2 e;let⟨y,ks,dx,rfl,_,hy,lr⟩:=rs1.ins rv hn';let⟨x,hx,rx⟩:=lr.lookup.1 z l;exact⟨y,S.cl c,dx,ks,x,rfl,hy,hc,hn,hx,q x H1 φ1 .rfl rs1 rx⟩
def zh8(hc:Cls X.K (S.cl c))(hn:yU X.K (S.cl c) f)(ha:PE X a (tE S X ca))(hv:PE X b (tE S X cb))(hs:swapsWith b (AA (.Attribute a f pos')) pos.line X.env=pure false:=by rfl):PS X (.Assign [.Attribute a f pos'] b pos) (tS S X (.sfl c ca f cb)):=
 (zh4 ha hv hs).imp λD σ H ⟨B,φ,st,ρ,rs,re,h⟩=>by
  erw[ex]at h;refine tE.fl rs re h λv' H1 v st1 φ1 s1 rs1 re1 rv h1=>tE.fl rs1 re1 h1 λx' H2 x st2 φ2 s2 rs2 re2 rx h2=>?_
  cases e:ybs c st2 x f v with
  |none=>rw[e]at h2;exact h2.elim
  |some st4=>
   rw[e]at h2;let⟨n,fs,rfl,hn',hl,rfl⟩:=zcg e;let⟨y,ks,dx,rfl,hp,hy,lr⟩:=rs2.ins rx hn';refine⟨y,S.cl c,dx,ks,rfl,hy,hc,hn,by rw[<-lr.len];exact hl,?_⟩;have s4:Step φ2 H2 φ2 (L2.upd H2 y (.ins (S.cl c) dx (yax f v' ks))):=.put (AV hp);exact h2 σ _ φ2 s4 (rs2.put (o:=.ins c (ybq f v fs)) hp ⟨_,⟨dx,zc⟩,(FS.put (rv.step s2) lr).step s4⟩) (re2.step s4)
theorem noX:yaU (CX1 X.prog X.w) X (λ_ _ _=>False):=λπ σ H s e s' _ z=>by
 let⟨_,_,_,_,_,_,_,_,_,_,_,_,_,_,z⟩:=z;exact z.elim
def zcW{vs:List PV}{xs:List V}{Q:VK}{rs:yp X.K S.cl B φ H st}(l:ye X.K S.cl B φ H vs xs)(h:Run S X σ B φ H (RV S X B) ((ya6 (S.call i (.loc st.length::vs) (st++[.ins c []]))).bind λv st2=>newV st.length v st2) Q):
  ∀x dx,H x=AC->H dx=AC->dx≠x->spI X.K S.cl S.call i (.ref x::xs) (L2.upd (L2.upd H dx (.own x)) x (.ins (S.cl c) dx [])) (λv H2=>v=.non/\Q (.ref x) H2) (λ_ _ _=>False):=by
 intro x dx hx hdx ne;have hx':L2.upd H dx (.own x) x=none:=by rw[za (B9 ne)];exact hx
 have t1:Step φ H φ (L2.upd H dx (.own x)):=.upd hdx;have rs1:=rs.upd (o:=.own x) hdx;have t2:Step φ (L2.upd H dx (.own x)) (φ++[AA x]) (L2.upd (L2.upd H dx (.own x)) x (.ins (S.cl c) dx [])):=.push hx';have rs2:=rs1.push hx' (rs1.nB hx') (o:=.ins c []) ⟨[],⟨dx,zc⟩,rfl⟩;have ll:yc X.K S.cl B (φ++[AA x]) (L2.upd (L2.upd H dx (.own x)) x (.ins (S.cl c) dx [])) (.loc st.length) (.ref x):=.loc_new rs1;refine⟨B,φ++[AA x],st++[.ins c []],.loc st.length::vs,rs2,?_,?_⟩
 .simp only[ye];exact⟨.ref x,xs,rfl,ll,(l.step t1).step t2⟩
 .cases e:S.call i (.loc st.length::vs) (st++[.ins c []])with
  |ok v st'=>
   rw[e]at h;erw[ya6,R.bind]at h
   cases v with
   |non=>
    intro z H' φ' s rs' rz;erw[yc]at rz;exact⟨rz,h (.ref x) H' φ' ((t1.trans t2).trans s) rs' (ll.step s)⟩
   |_=>exact h.elim
  |exc k s=>rw[e]at h;exact h.elim
  |bad=>rw[e]at h;exact h.elim
def zhT(M:Mk X.K (S.cl c) fa)(F:yav X.prog X.w X.K X.mg X.base (CX1 X.prog X.w) k fa fd ps (spI X.K S.cl S.call i))(hr:yaj (k+1) X.A)(hg:Gl X x)(hm:X.mg x=AA (.ref (S.cl c)))(hb:Binds X.K fd ps [])
  (ha:PA X (e::es) (tAs S X ces)) (hdb:(x==("__debug__":AM))=false:=by decide) (he:starEach (e::es) X.env=(AF,eval e X.env)::starEach es X.env:=by rfl) (hpl:(backTo pos (starEach es X.env)).any (·.1)=false:=by rfl):
  PE X (.Call (.Name x p) (e::es) [] pos) (tE S X (.new c i ces)):=
 (zfG M F hr hg hm hb .nil noX ha hdb he hpl).imp λσ H Q ⟨B,φ,st,ρ,rs,re,h⟩=>by
  erw[ev]at h;refine tAs.bind rs re h λxs H1 vs st1 φ1 s1 rs1 re1 rv h1=>?_;rw[Ck];exact zcW (rs:=rs1) rv h1
end
inductive ybv(w:A8)(fa:Nat->AH):List (AM×Nat)->List Be->Prop
 |nil:ybv w fa [] []
 |cons {k:AM} {i:Nat} {t:GT} {D:List (AM×Nat)} {es:List Be} (h:ybv w fa D es):ybv w fa ((k,i)::D) (⟨DI w.params k,.str k t,.ref (fa i)⟩ :: es)
def GDF(K:AB)(w:A8)(mg:AM->Option AE)(fa:Nat->AH)(x:AM)(D:List (AM×Nat)):Prop:=
 ∃(y:AH) (es:Array Be) (ep:Nat),mg x=AA (.ref y)/\K.lookup y=AA ⟨.type "dict",AC,.dict es ep,#[]⟩/\ybv w fa D es.toList/\(D.map (·.1)).Nodup
theorem ybv.pairs{P:A1}{w:A8}{fa:Nat->AH}{D:List (AM×Nat)}{es:List Be}(h:ybv w fa D es):
  ∃vs:List (AM×AE),Pairs (strKind P w) es vs/\(∀e∈es,∃k,(strKind P w).is k e.key=AD/\e.hash=(strKind P w).hash k)/\vs.map (·.1)=D.map (·.1) /\
   ∀s i,D.lookup s=AA i->valueAt vs s=AA (.ref (fa i)):=by
 induction h with
 |nil=>exact⟨[],.nil,λe he=>(by cases he),rfl,λs v e=>by cases e⟩
 |@cons k i t D es h ih=>
  let⟨vs,h1,h2,h3,h5⟩:=ih;have hat:∀s,valueAt ((k,Af (fa i))::vs) s=if k=s then AA (.ref (fa i))else valueAt vs s:=λs=>by
   unfold valueAt;rw[BZ]
   by_cases e:k=s
   .simp[e]
   .simp[e]
  refine⟨(k,.ref (fa i))::vs,.cons (Ef P w k t) rfl h1,λe he=>?_,by rw[AL,AL,h3],λs j e=>?_⟩
  .rcases Ab.1 he with rfl|he
   .exact⟨k,Ef P w k t,rfl⟩
   .exact h2 e he
  .rw[hat];erw[Bk]at e
   by_cases q:k=s
   .subst q;rw[beq_self_eq_true]at e
    cases e
    rw[if_pos rfl]
   .rw[beq_eq_false_iff_ne.2 (B9 q)]at e;rw[if_neg q];exact h5 s j e
section
variable {S:Se}{X:Cx}{σ:St}{B:AH->Prop}{φ:Ph}{H:Hp}{st:SO}{ρ:IC.Env}{pos p p1 p2 p3 p4 p5 p6 p7:Ba}{a b i e n:AO}{es:List AO}{ca cn:Ce}{ces:Ces}{x y:AM}{D:List (AM×Nat)}{ty:TE}{t:TA}{fa:Nat->AH}{fdd:Nat->Al}{ps:Nat->List AM}{k ix:Nat}
structure Makers(S:Se)(X:Cx)(k:Nat)(D:List (AM×Nat))(fa:Nat->AH)(fdd:Nat->Al)(ps:Nat->List AM):Prop where
 F:∀s j,D.lookup s=AA j->yav X.prog X.w X.K X.mg X.base (CX1 X.prog X.w) k (fa j) (fdd j) (ps j) (spI X.K S.cl S.call j)
 kp:∀s j,D.lookup s=AA j->Ae X.K (.ref (fa j))=AD
 b:∀s j,D.lookup s=AA j->Binds X.K (fdd j) (ps j) []
end
section
variable {P:A1}{w:A8}{K:AB}{mg:AM->Option AE}{base:Aq}{cl:Nat->AH}{T:Nat->Option IC.Fn}{fi:Nat}{fn:IC.Fn}{x qual:AM}{stm:BS}{f:AH}{fd:Al}{N ps:List AM}{k m:Nat}
def zeU:yav P w K mg base (CX1 P w) m f fd ps (spI K cl (yd T 0) fi):=
 ⟨λvs H Q E ⟨_,_,_,_,_,_,h⟩=>by rw[yd]at h;exact h.elim,λA outer s H args us vs Q E _ _ _ _ ⟨_,_,_,_,_,_,h⟩=>by rw[yd]at h;exact h.elim⟩
end
theorem yam.units{k:Nat}{A:A9}(r:yam k A):A.units+64<cLine:=by have:=r.un;lia
section
variable {P:A1}{w:A8}{K:AB}{mg:AM->Option AE}{base:Aq}{cl:Nat->AH}{T:Nat->Option IC.Fn}{fi:Nat}{fn:IC.Fn}{x qual:AM}{stm:BS}{f:AH}{fd:Al}{N ps:List AM}{k m:Nat}
def zeS(hT:T fi=AA fn)(hns:N.length=fn.ns)(hpu:fn.pure=AF){scope:BB}{cdv:AE}{A:A9}{outer:List Az}{s:AI}{vs:List V}{H:Hp}{Q:VK}(h:spI K cl (yd T (k+1)) fi vs H Q E0):
  tSs ⟨cl,yd T k,AF⟩ (ya1 P w K mg base N qual scope f cdv A outer s H) fn.body {nx:=λ_ H'=>Q .non H',rt:=Q} (L2.start N vs) H:=by
 let⟨B,φ,st,args,rs,l,h⟩:=h;have hl:args.length=fn.np:=zdw (k:=k) hT args st λz=>by rw[z]at h;exact h
 have hlen:=l.length;rw[yd,hT]at h;dsimp only at h;rw[if_pos hl,hpu,if_neg (by simp)]at h;refine⟨B,φ,st,_,rs,yu.start l (fn.ns-fn.np) ∅,?_⟩;show yal _ _ _ _ _ (exs (yd T k) (args.map AA++Ak (fn.ns-fn.np) AC) st fn.body) _
 cases e:exs (yd T k) (args.map AA++Ak (fn.ns-fn.np) AC) st fn.body with
 |nx ρ' st'=>
  rw[e]at h;intro σ' H' φ' s' rs' re';exact h .non H' φ' s' rs' (by erw[yc])
 |rt v st'=>
  rw[e]at h;intro y H' φ' s' rs' rv;exact h y H' φ' s' rs' rv
 |exc c ρ' st'=>
  rw[e]at h;intro σ' φ1 H1 ev s' s1 _ ex;rcases ex with⟨π,H2,s2,φ2,I,s3,q⟩|⟨hm,_⟩|⟨hm,_⟩
  .let⟨_,cls,_,H',_,_,_,_,_,_,_,_,_,_,e1,φ',s4,r⟩:=q;exact(h H' φ' (s1.trans (s3.trans s4)) r).elim
  .cases hm
  .cases hm
 |bk ρ' st'=>rw[e]at h;exact h.elim
 |ct ρ' st'=>rw[e]at h;exact h.elim
 |bad=>rw[e]at h;exact h.elim
def zhn(hT:T fi=AA fn)(F:Fun K x qual stm f fd)(Sc:yak N ps (yg stm))(hnp:ps.length=fn.np)(hns:N.length=fn.ns)(hpu:fn.pure=AF)
  (body:∀(cdv:AE) (A:A9) (outer:List Az) (s:AI) (H:Hp),yam m (A.deeper (envOfC qual (yg stm) s.heap.objs.size f cdv)) ->
   PSs (ya1 P w K mg base N qual (yg stm) f cdv A outer s H) (yD stm) (tSs ⟨cl,yd T k,AF⟩ (ya1 P w K mg base N qual (yg stm) f cdv A outer s H) fn.body)):
  ybi P w K mg base (m+1) f fd ps (spI K cl (yd T (k+1)) fi):=
 F.okH Sc (λvs H Q E h=>ze5 hT hnp h) λcdv A outer s H vs Q hr h=>⟨_,body cdv A outer s H hr,zeS hT hns hpu h⟩
def zdX:ybi P w K mg base m f fd ps (spI K cl (yd T 0) fi):=
 ⟨λvs H Q E ⟨_,_,_,_,_,_,h⟩=>by rw[yd]at h;exact h.elim,λA outer s H args us vs Q _ _ _ _ ⟨_,_,_,_,_,_,h⟩=>by rw[yd]at h;exact h.elim⟩
end
section
variable {S:Se}{X:Cx}{σ:St}{B:AH->Prop}{φ:Ph}{H:Hp}{st:SO}{ρ:IC.Env}{p pos:Ba}{e:AO}{es:List AO}{ces:Ces}{fi k:Nat}{x:AM}{f:AH}{fd:Al}{ps:List AM}
end
end L2
namespace L2
open PySem IC
section
variable {S:Se}{X:Cx}{σ:St}{B:AH->Prop}{φ φ1:Ph}{H H1:Hp}{st:SO}{ρ:IC.Env}{p pos p2 px py pt pt2:Ba}{a b c d o a' b' c' d':AO}{ca cb cc cd ce cf:Ce}{π:List (AH×B1)}{s:AI}{kt k2:Nat}{es:List AO}{ces:Ces}{x:AM}
end
end L2
namespace L2
open PySem PySem.Spec PyProof.Rows
section
variable {X:Cx}
def zeM{i:Int}(i0:0<=i)(i1:i<=sizeLine):(!Builtin.List.listFitsIndex i)=false:=by
 unfold F4;have:sizeLine<=9000000000000000000:=by decide
 simp;lia
def ybH:V->List V->Hp->VK->Prop:=λx vs H Q=>∃l i xs y,x=.ref l/\vs=[.int i,y]/\H l=AA (.lst xs)/\0<=i/\i<=xs.length/\xs.length<sizeLine/\Q .non (upd H l (.lst (xs.take i.toNat++y::xs.drop i.toNat)))
def zcG:MtM X "list.insert" ybH:=by
 intro π s σ H x vs v us Q I rx rv h;let⟨l,i,xs,y,rfl,rfl,hH,i0,i1,hz,q⟩:=h
 cases rx
 let⟨u,w,rfl,ru,rw⟩:=rv.two;let⟨tk,rfl⟩:=ru;let⟨z,its,n,r,hl,e⟩:=I.lstM hH;refine DF Dz ⟨_,e,rfl⟩ F.entry_list_insert (F.args_list_insert_3 _ _ _) (AutoSeq1.list_insert_list_int_val_1 l its.toArray n i tk w (by rw[zeM i0 ∅];exact Ah) (by rw[AR];lia)) ⟨e,?_⟩;refine⟨.non,_,I.lset (its':=its.take i.toNat++w::its.drop i.toNat) hH e ?_ ((r.take i.toNat).append (.cons rw (r.drop i.toNat))) ?_,rfl,q⟩
 .show (its.toArray.extract 0 (if i<0 then(i+(its.toArray.size:Int)).toNat else min i.toNat its.toArray.size)).push w++its.toArray.extract (if i<0 then(i+(its.toArray.size:Int)).toNat else min i.toNat its.toArray.size)=_;rw[if_neg ∅,AR,Nat.min_eq_left ∅];apply Array.toList_inj.mp;simp;exact Dl (by simp)
 .rw[An,A2,C7,C8];lia
end
end L2
namespace L2
open PySem PySem.Spec PyProof.Rows IC
section
variable {S:Se}{X:Cx}{σ:St}{B:AH->Prop}{φ φ1:Ph}{H H1:Hp}{st:SO}{ρ:IC.Env}{p pos p2 apos:Ba}{a b c d:AO}{ca cb cc:Ce}{es:List AO}{ces:Ces}{K:AB}{cl:Nat->AH}
def zdS(ha:PE X a (tE S X ca))(hb:PE X b (tE S X cb))(hc:PE X c (tE S X cc))(hs:starEach [b,c] X.env=[(AF,eval b X.env),(AF,eval c X.env)]:=by rfl)(hs2:starEach [c] X.env=[(AF,eval c X.env)]:=by rfl)(hbase:attributeBase a "insert" X.env (eval a X.env)=eval a X.env:=by rfl)(hline:(apos.endLine==pos.line)=true:=by rfl)(hany:((backTo pos (starEach [c] X.env)).any λx=>x.1)=false:=by rfl)
  (hfew:((backTo pos (starEach [b,c] X.env)).all (λx=>!x.1)&&(backToKw pos (keywordEach [] X.env)).all (λx=>x.1.isSome)&&decide (([b,c]:List AO).length+([]:List BR).length+(if ([]:List BR).isEmpty then 0 else 1)<30))=true:=by rfl):
  PE X (.Call (.Attribute a "insert" apos) [b,c] [] pos) (tE S X (.mth .insert ca (.cons cb (.cons cc .nil)))):=
 (zeI BV Dz PySem.F.type_list_insert zcG ha (zE (S:=S) hb (zE (S:=S) hc zaK hs2) (by rw[hs,hs2])) hbase hfew hline (by rw[hs,hs2]) hany).imp λσ H Q ⟨B,φ,st,ρ,rs,re,h⟩=>by
  erw[ev]at h;refine tE.bind rs re h λx H1 v st1 φ1 s1 rs1 re1 rv h1=>?_;let⟨_,e1,h1⟩:=z8 h1;have t1:∃ws,yr st1 v=AA ws:=by
   erw[yad]at e1
   cases q:yr st1 v with
   |none=>rw[q]at e1;cases e1
   |some ws=>exact⟨ws,rfl⟩
  let⟨ws,t1⟩:=t1;let⟨l,xs,rfl,hl,_⟩:=zC rs1 rv t1;refine⟨.inl ⟨rfl,xs,hl⟩,tAs.bind rs1 re1 h1 λys H2 vs st2 φ2 s2 rs2 re2 rvs h2=>?_⟩;have rv2:=rv.step s2;rcases vs with _|⟨w,_|⟨w',_|⟨w'',t⟩⟩⟩
  .exact h2.elim
  .exact h2.elim
  .let⟨y,y',rfl,rw,rw'⟩:=rvs.two;unfold ya8 at h2;erw[ydU]at h2;split at h2
   .rename_i n;split at h2
    .rename_i zs hz;split at h2
     .rename_i k;split at h2
      .rename_i c;let⟨l',xs',e,hn,hx,lr⟩:=rs2.list rv2 hz
       cases e
       erw[yc]at rw;subst rw;have hln:=lr.length;refine⟨l,k,xs',y',rfl,rfl,hx,c.1,by lia,by have:=zfs;lia,?_⟩;exact h2 _ _ φ2 (.put (AV hn)) (rs2.put hn ⟨_,zc,((lr.take k.toNat).append (show ye _ _ _ _ _ (w'::zs.drop k.toNat) (y'::xs'.drop k.toNat)by erw[ye];exact⟨y',_,rfl,rw',lr.drop k.toNat⟩)).step (.put (AV hn))⟩) (by erw[yc])
      .exact h2.elim
     .exact h2.elim
    .exact h2.elim
   .exact h2.elim
  .exact h2.elim
end
section
variable {S:Se}{X:Cx}{a b:AO}{c i:Nat}{j:Int}{f:AM}{pos tpos:Ba}
def ziz(hc:Cls X.K (S.cl c))(hn:yU X.K (S.cl c) f)(ha:PE X a (tE S X (.var i)))(hv:PE X b (tE S X (.cst (.int j)))):
  PS X (.AugAssign (.Attribute a f tpos) .Add b pos) (tS S X (.sfl c (.var i) f (.bin .add (.fld c (.var i) f) (.cst (.int j))))):=
 (zdT ha hv zhf).imp λD σ H ⟨B,φ,st,ρ,rs,re,h⟩=>by
  erw[ex,ev]at h
  cases q:ρ[i]? with
  |none=>rw[q]at h;exact h.elim
  |some o=>
   cases o with
   |none=>rw[q]at h;exact h.elim
   |some x=>
    rw[q]at h;dsimp only[R.bind]at h;refine⟨B,φ,st,ρ,rs,re,?_⟩;erw[ev,q];intro x' H1 φ1 s1 rs1 rx;have re1:=re.step s1;have h:=yal.on s1 h
    cases e:yaK c st x f with
    |none=>rw[e]at h;exact h.elim
    |some v=>
     rw[e]at h;let⟨n,fs,rfl,hn',l⟩:=zb2 e;let⟨y,ks,dx,rfl,hp,hy,lr⟩:=rs1.ins rx hn';let⟨x,hx,rxv⟩:=lr.lookup.1 v l;refine⟨y,S.cl c,dx,ks,x,rfl,hy,hc,hn,hx,⟨B,φ1,st,ρ,rs1,re1,?_⟩⟩;erw[ev];intro y' H2 φ2 s2 rs2 ry;erw[yc]at ry;subst ry
     cases v with
     |int k=>
      erw[yc]at rxv;subst rxv;refine⟨k,j,rfl,rfl,?_⟩;have h:yal S X B φ1 H1 (match ybs c st (.loc n) f (.int (k+j))with|some st3=>Fl.nx ρ st3|none=>Fl.bad) D:=h;have h:=yal.on s2 h;have rx2:=rx.step s2;let⟨y2,ks2,dx2,e2,hp2,hy2,lr2⟩:=rs2.ins rx2 hn'
      cases e2
      cases e3:ybs c st (.loc n) f (.int (k+j))with
      |none=>rw[e3]at h;exact h.elim
      |some st4=>
       rw[e3]at h;let⟨n',fs',z,hn2,hl,rfl⟩:=zcg e3
       cases z
       rw[hn']at hn2
       cases hn2
       refine⟨dx2,ks2,hy2,by rw[<-lr2.len];exact hl,?_⟩;have s4:Step φ2 H2 φ2 (L2.upd H2 y (.ins (S.cl c) dx2 (yax f (.int (k+j)) ks2))):=.put (AV hp2);exact h σ _ φ2 s4 (rs2.put (o:=.ins c (ybq f (.int (k+j)) fs)) hp2 ⟨_,⟨dx2,zc⟩,(FS.put (by erw[yc]) lr2).step s4⟩) ((re1.step s2).step s4)
     |_=>exact h.elim
end
end L2
namespace HT
open PySem PySem.Spec PyProof.Rows
section
variable {prog:A1}{w:A8}{A:A9}{E:AE->AI->Prop}{s:AI}
end
end HT
namespace L2
open PySem PySem.Spec PyProof.Rows IC
section
variable {S:Se}{X:Cx}{pos p2:Ba}{e e3:AO}{te t3:TE}{a:AO}{ca c3:Ce}
theorem ye.reverse{K:AB}{cl:Nat->AH}{B:AH->Prop}{φ:Ph}{H:Hp}:∀{vs:List PV} {xs:List V},ye K cl B φ H vs xs->ye K cl B φ H vs.reverse xs.reverse
 |[],xs,h=>by
  erw[ye]at h;subst h;erw[List.reverse_nil,ye]
 |v::vs,xs,h=>by
  erw[ye]at h;let⟨y,ys,rfl,r,l⟩:=h;rw[C0,C0];exact(ye.reverse l).append (by erw[ye];exact⟨y,[],rfl,r,rfl⟩)
end
section
variable {X:Cx}{prog:A1}{w:A8}{A:A9}{E:AE->AI->Prop}{s:AI}
end
section
variable {S:Se}{X:Cx}{pos px:Ba}{a:AO}{ca:Ce}
end
end L2
namespace PySem
open Sem (wp)
def zal{prog:A1}{w:A8}{A:A9}{E:AE->AI->Prop}{s:AI}{a:AH}{xs:Array AE}{Q:Option AE->AI->Prop}
  (hx:s.heap.get? a=AA {cls:=.type "tuple",data:=.seq xs}) (hA:A.handled=AC)
  (h:∀h' tk,(∀b ob,s.heap.get? b=AA ob->h'.get? b=AA ob)->Q AC {s with heap:=h',toks:=tk}):
  AZ (model prog w) A (getAttr? (.ref a) "keys") Q E s:=by
 let⟨hp,g,d,tk,os⟩:=s;have hT:∀tk',(⟨hp,g,d,tk',os⟩:AI).TypeIs (.ref a) "tuple":=λ_=>⟨_,hx,rfl⟩;have hm:typeLookup (.type "tuple") "keys"=pure none:=by rw[typeLookup_type,builtinLookup_eq_fast];kernel_rfl
 have f1:=sub_AttributeError;have f3:=CK.lookup;have f4:=CK.bind (.ref a);have f5:=am_tuple_getattr_none;unfold getAttr? getAttrBy? getAttrBy
 repeat (any_goals (first|assumption|exact hT _|((with_reducible show AZ _ _ (call (Value.builtin "tuple.__getattribute__") _ _) _ _ _);refine DF CK (hT _) am_entry_tuple_getattribute (F.args_tuple_getattribute_2 _ _) (meets_getattribute_miss_tuple a xs _ _ "keys" _ hm (by decide +kernel)) ⟨hx,hA,λh' tk' e hx'=>?_⟩)|wp_step))
 let⟨t',u',he⟩:=hx'.there;show AZ _ _ (getattributeRaised _ _ _ _ _ _ _) _ _ _;unfold getattributeRaised
 repeat (any_goals (first|assumption|wp_step))
 exact h _ _ hx'.keeps
def zS:entryFor table "dict.update.loop"=AA Builtin.«dict.update.loop»:=entryFor_of_tree (by kernel_rfl)
def zn:plainId "dict.update.loop"=true:=by decide +kernel
section
variable {prog:A1}{w:A8}{K:Type}[DecidableEq K]{A:A9}{R:FD->AI->Prop}
def yci(knd:Ey prog w K)(h:Aq)(v:AE)(x:K×AH×AE):Prop:=∃p,v=.ref p/\h.get? p=AA {cls:=.type "tuple",data:=.seq #[.ref x.2.1,x.2.2]}/\knd.is h x.1 x.2.1
def yR(knd:Ey prog w K)(h:Aq):List AE->List (K×AH×AE)->Prop
 |[],[]=>True
 |v::vs,x::xs=>yci knd h v x/\yR knd h vs xs
 |_,_=>False
def yag(xs more:List (K×AH×AE)):List (K×AH×AE):=more.foldl (λacc x=>storedH acc x.1 x.2.1 x.2.2) xs
theorem yR.keep{knd:Ey prog w K}(hst:∀{h h' k a},knd.is h k a->(∀b o,h.get? b=AA o->o.cls=.type "tuple"->h'.get? b=AA o)->knd.is h' k a){h h':Aq}(hk:∀b o,h.get? b=AA o->o.cls=.type "tuple"->h'.get? b=AA o):
  ∀{vs xs},yR knd h vs xs->yR knd h' vs xs
 |[],[],_=>Bu
 |_::_,_::_,⟨⟨p,e,g,i⟩,r⟩=>⟨⟨p,e,hk _ _ g rfl,hst i hk⟩,yR.keep hst hk r⟩
def zbL(xs:List (K×AH×AE))(k:K)(a:AH)(v:AE):(storedH xs k a v).length<=xs.length+1:=by
 unfold storedH;split<;>simp
def zci{knd:Ey prog w K}(hst:∀{h h' k a},knd.is h k a->(∀b o,h.get? b=AA o->o.cls=.type "tuple"->h'.get? b=AA o)->knd.is h' k a){d t it:AH}{its:Array AE}(hh:A.in1.handled=AC)(hu:knd.room A.in1):
  ∀(rest:List (K×AH×AE)) (i:Nat) (xs:List (K×AH×AE)) (s:AI),s.heap.IsTupleIter it t i->s.heap.get? t=AA {cls:=.type "tuple",data:=.seq its}->yR knd s.heap (its.toList.drop i) rest->s.heap.DictOfH knd d xs->xs.length+rest.length<=sizeLine ->
  (∀h' tk,h'.DictOfH knd d (yag xs rest)->(∀b o,b≠d->b≠it->s.heap.get? b=AA o->h'.get? b=AA o)->R (.ok (.ret .none)) {s with heap:=h',toks:=tk}) ->
  codeAny (model prog w) A (.builtin "dict.update.loop" ⟨[.ref d,.ref it,rawInt i,.none],[]⟩) R s
 |[],i,xs,s,hi,ht,hp,hd,hz,hR=>by
  refine FP zS ?_;rw[EK zn _];show AZ _ A.in1 (pyNext (.ref it) >>= _) _ _ s;have e:its[i]?=none:=by
   rw[<-EA]
   cases q:its.toList.drop i with
   |nil=>exact List.getElem?_eq_none_iff.mpr (List.drop_eq_nil_iff.mp q)
   |cons _ _=>rw[q]at hp;exact hp.elim
  let⟨od,es,ep,gd,cd,r⟩:=id hd;let⟨oi,gi,ci,di⟩:=id hi;have ndi:d≠it:=λz=>by subst z;rw[gd]at gi;cases gi;rw[cd.1]at ci;exact absurd (BI ci) ⋯
  refine AJ (Dc hh hi ⟨_,ht,rfl,_,rfl⟩ e λh' hb=>?_);have kp:∀b o,b≠d->b≠it->s.heap.get? b=AA o->h'.get? b=AA o:=λb o _ n e=>hb b o n e;show AZ _ A.in1 (Fd d [] >>= _) _ _ _;refine AJ (AT (AT ?_));refine hR h' s.toks ⟨od,es,ep,hb _ _ ndi gd,cd,r.1,r.2.1,λx hx=>hst (r.2.2.1 x hx) λb o g c=>hb b o (λz=>?_) g,r.2.2.2⟩ kp;subst z;rw[gi]at g;cases g;rw[c]at ci;exact absurd (BI ci) ⋯
 |x::rest,i,xs,s,hi,ht,hp,hd,hz,hR=>by
  refine FP zS ?_;rw[EK zn _];show AZ _ A.in1 (pyNext (.ref it) >>= _) _ _ s
  cases q:its.toList.drop i with
  |nil=>rw[q]at hp;exact hp.elim
  |cons v vs=>
   rw[q]at hp;let⟨⟨p,rfl,gp,hk⟩,hr⟩:=hp;have hil:i<its.toList.length:=by
    have:=congrArg CC q;erw[C8,A2]at this;lia
   have e:its[i]?=AA (.ref p):=by
    rw[<-EA];have:=congrArg (·[0]?) q;simpa [List.getElem?_drop] using this
   have hvs:its.toList.drop (i+1)=vs:=by
    rw[<-List.drop_drop,q];rfl
   let⟨od,es,ep,gd,cd,r⟩:=id hd;let⟨oi,gi,ci,di⟩:=id hi;have ndi:d≠it:=λz=>by subst z;rw[gd]at gi;cases gi;rw[cd.1]at ci;exact absurd (BI ci) ⋯
   refine AJ (D3 hi ⟨_,ht,rfl,_,rfl⟩ e λh1 hi1 sb=>?_);have nit:∀b o,s.heap.get? b=AA o->o.cls=.type "tuple"->b≠it:=λb o g c z=>by
    subst z;rw[gi]at g;cases g;rw[c]at ci;exact absurd (BI ci) ⋯
   have nd:∀b o,s.heap.get? b=AA o->o.cls=.type "tuple"->b≠d:=λb o g c z=>by
    subst z;rw[gd]at g;cases g;rw[cd.1]at c;exact absurd (BI c) ⋯
   have k1:∀b o,s.heap.get? b=AA o->o.cls=.type "tuple"->h1.get? b=AA o:=λb o g c=>(sb.2 b (nit b o g c)).trans g;have hd1:h1.DictOfH knd d xs:=⟨od,es,ep,(sb.2 d ndi).trans gd,cd,r.1,r.2.1,λx hx=>hst (r.2.2.1 x hx) k1,r.2.2.2⟩;have gp1:=k1 p _ gp rfl;have hk1:=hst hk k1;show AZ _ A.in1 (holding [.ref p] _ >>= _) _ _ _;refine AJ (By ?_);refine AJ (wpAny_tryCatch ?_);have hT:({s with heap:=h1}:AI).TypeIs (.ref p) "tuple":=⟨_,gp1,rfl⟩;unfold Fx;refine AJ (Cq hT ?_);rw[if_pos ⋯];refine AJ (EI gp1 rfl (AT ?_));show AZ _ A.in1 (holding [.ref x.2.1,x.2.2] (dictSet d (.ref x.2.1) x.2.2)) _ _ _;refine By (wpAny_dictSet_heap (s:={s with heap:=h1}) hu hk1 hd1 (λh2 hd2 sb2=>?_) (by erw[A2]at hz;lia));have k2:∀b o,s.heap.get? b=AA o->o.cls=.type "tuple"->h2.get? b=AA o:=λb o g c=>(sb2.2 b (nd b o g c)).trans (k1 b o g c);refine AT ⟨plainId_quiet zn _,zci hst hh hu rest (i+1) (storedH xs x.1 x.2.1 x.2.2) _ ?_ (k2 t _ ht rfl) ?_ hd2 ?_ λh' tk a b=>hR h' tk a λc o n1 n2 g=>b c o n1 n2 ((sb2.2 c n1).trans ((sb.2 c n2).trans g))⟩
   .let⟨o1,g1,r1⟩:=hi1;exact⟨o1,(sb2.2 it (B9 ndi)).trans g1,r1⟩
   .rw[hvs];exact hr.keep hst k2
   .have:=zbL xs x.1 x.2.1 x.2.2;erw[A2]at hz;lia
def zah{knd:Ey prog w K}(hst:∀{h h' k a},knd.is h k a->(∀b o,h.get? b=AA o->o.cls=.type "tuple"->h'.get? b=AA o)->knd.is h' k a){t:AH}{its:List AE}{E:AE->AI->Prop}{s:AI}{Q:AE->AI->Prop}(hh:A.handled=AC)(hu:∀A':A9,A'.units<=A.units+8->knd.room A')
  {rest:List (K×AH×AE)} (ht:s.heap.get? t=AA {cls:=.type "tuple",data:=.seq its.toArray}) (hp:yR knd s.heap its rest) (hz:rest.length<=sizeLine)
  (h:∀h' tk,h'.DictOfH knd s.heap.objs.size (yag [] rest)->(∀b o,s.heap.get? b=AA o->h'.get? b=AA o)->Q (.ref s.heap.objs.size) {s with heap:=h',toks:=tk}):
  AZ (model prog w) A (call (.type "dict") [.ref t]) Q E s:=by
 refine callType_codes (Q₁:=λobj s₁=>obj=.ref s.heap.objs.size/\s₁={s with heap:=s.heap.push {cls:=.type "dict",data:=.dict #[]} }) F.kt_called_dict (F.kt_typeCall_dict_1 _) F.entry_dict_init (kt_code_dict_new _ ⟨rfl,rfl⟩) ?_
 rintro obj s₁ ⟨rfl,rfl⟩
 have hnew:(s.heap.push {cls:=.type "dict",data:=.dict #[]}).DictOfH knd s.heap.objs.size []:=GV s.heap;have kp1:∀b o,s.heap.get? b=AA o->(s.heap.push {cls:=.type "dict",data:=.dict #[]}).get? b=AA o:=λb o e=>AN _ e;refine⟨hnew.typeIs,F.args_dict_init_2 _ _,?_⟩;unfold Builtin.«dict.__init__»;refine AJ ?_;unfold Fe;refine AJ (wpAny_notOrdered_dict hnew.typeIs ?_);show AZ _ _ (pure (s.heap.objs.size,[Af t])) _ _ _;refine AT ?_;show AZ _ _ (D8 "dict.__init__" s.heap.objs.size (.ref t) [] .none) _ _ _;unfold D8;have ht1:=kp1 _ _ ht;refine AJ (Cq (T:="tuple") ⟨_,ht1,rfl⟩ ?_);rw[if_pos ⋯];refine AJ (zal (s:={s with heap:=s.heap.push {cls:=.type "dict",data:=.dict #[]} }) ht1 (by simpa using hh) λh2 tk2 kp2=>?_);have kp12:∀b o,s.heap.get? b=AA o->h2.get? b=AA o:=λb o e=>kp2 b o (kp1 b o e);have ht2:=kp12 _ _ ht;have hd2:h2.DictOfH knd s.heap.objs.size []:=by
  let⟨o,es,ep,g,c,r⟩:=hnew;exact⟨o,es,ep,kp2 _ _ g,c,r.1,r.2.1,λx hx=>by simp at hx,r.2.2.2⟩
 show AZ _ _ (rule _ >>= _) _ _ _;refine AJ (E9 ?_);refine AJ (B7 (s:={s with heap:=h2,toks:=tk2}) ⟨_,ht2,rfl,_,rfl⟩ ?_);refine AT ⟨plainId_quiet zn _,?_⟩;have kp3:∀b o,h2.get? b=AA o->(h2.push {cls:=.type "tuple_iterator",data:=.fields #[.ref t,.int 0 0]}).get? b=AA o:=λb o e=>AN _ e;refine zci hst (t:=t) (its:=its.toArray) ?_ ?_ rest 0 [] _ ⟨_,A3 _ rfl,rfl,rfl⟩ (kp3 _ _ ht2) ?_ ?_ (by simpa using hz) λh' tk a b=>⟨rfl,?_⟩
 .simpa using hh
 .exact hu _ (by simp)
 .have:yR knd h2 its rest:=hp.keep hst λb o e _=>kp12 b o e;simpa using this.keep hst λb o e _=>kp3 b o e
 .let⟨o,es,ep,g,c,r⟩:=hd2;exact⟨o,es,ep,kp3 _ _ g,c,r.1,r.2.1,λx hx=>by simp at hx,r.2.2.2⟩
 .refine h h' tk a λc o g=>b c o (λz=>?_) (λz=>?_) (kp3 _ _ (kp12 _ _ g))
  .subst z;exact absurd (AQ g) (Bm _)
  .have l1:=AQ (kp12 _ _ g);rw[z]at l1;exact absurd l1 (Bm _)
end
end PySem
namespace L2
open PySem PySem.Spec PyProof.Rows
def DPs(H:Hp):List V->List (List Key×V)->Prop
 |[],ks=>ks=[]
 |x::xs,ks=>∃k y r q b,ks=(k,y)::r/\x=.ref q/\H q=AA (.tup [.ref b,y])/\H b=AA (.tup (k.map kV))/\DPs H xs r
def yan(kvs more:List (List Key×V)):List (List Key×V):=more.foldl (λacc kv=>putK acc kv.1 kv.2) kvs
theorem KT.merge{H:Hp}{more:List (List Key×V)}{rs:List (List Key×AH×AE)}(r:KT H more rs):∀{kvs:List (List Key×V)} {xs:List (List Key×AH×AE)},KT H kvs xs->KT H (yan kvs more) (yag xs rs):=by
 induction r with
 |nil=>intro kvs xs q;exact q
 |@cons p q ps qs h t ih=>
  intro kvs xs r0;have e:=r0.put p.1 h.2.1 h.2.2;rw[h.1]at e;have:=ih e;rw[<-h.1]at this;show KT H (yan (putK kvs p.1 p.2) ps) (yag (storedH xs q.1 q.2.1 q.2.2) qs);rw[<-h.1];exact this
def zaN:∀(more kvs:List (List Key×V)),(yan kvs more).length<=kvs.length+more.length
 |[],kvs=>by show kvs.length<=kvs.length+0;lia
 |p::r,kvs=>by
  have h1:=zaN r (putK kvs p.1 p.2);have h2:=zbM kvs p.1 p.2;show (yan (putK kvs p.1 p.2) r).length<=_;rw[A2];lia
def zd5{P:A1}{w:A8}{h h':Aq}{k:List Key}{a:AH}(i:(tupleKind (yC P w)).is h k a)(q:∀b o,h.get? b=AA o->o.cls=.type "tuple"->h'.get? b=AA o):(tupleKind (yC P w)).is h' k a:=by
 let⟨o,items,n,g,c,r⟩:=i;exact⟨o,items,n,q _ _ g c,c,r⟩
def zb0{P:A1}{w:A8}{H:Hp}{h:Aq}(ok:HOk P w H h):∀{xs:List V} {us:List AE} {kvs:List (List Key×V)},DPs H xs kvs->Vals xs us->∃rs,yR (tupleKind (yC P w)) h us rs/\KT H kvs rs
 |[],_,_,d,.nil=>by cases (show _=[]from d);exact⟨[],Bu,.nil⟩
 |x::xs,u::us,_,d,.cons rx t=>by
  let⟨k,y,r,q,b,rfl,rfl,hq,hb,d'⟩:=d;let⟨rs,p,kt⟩:=zb0 ok d' t
  cases (show u=Af q from rx)
  let⟨_,its,rv,g⟩:=(show yI P w H h q (.tup [.ref b,y])from ok q _ hq);let⟨u1,u2,rfl,r1,r2⟩:=vals2 rv
  cases (show u1=Af b from r1)
  exact⟨(k,b,u2)::rs,⟨⟨q,rfl,g,zcN ok hb⟩,p⟩,.cons ⟨rfl,hb,r2⟩ kt⟩
section
variable {X:Cx}
def zbs(hu:X.A.units+16<cLine)(hc:X.calm=AD):yJ X (.type "dict") (λxs H Q=>∃p ps kvs,xs=[.ref p]/\H p=AA (.tup ps)/\DPs H ps kvs/\kvs.length<=1000/\∀d,H d=AC->Q (.ref d) (upd H d (.dT (yan [] kvs)))):=by
 intro π s σ H xs us Q I r h;let⟨p,ps,kvs,rfl,hp,hd,hl,q⟩:=h;let⟨u,rfl,rx⟩:=vals1 r
 cases rx
 let⟨_,its,rv,g⟩:=(show yI X.prog X.w H s.heap p (.tup ps)from I.hok p _ hp);let⟨rs,pr,kt⟩:=zb0 I.hok hd rv;have hn:H s.heap.objs.size=none:=I.hok.fresh (AU _);refine zah zd5 (I.ok.hd hc) (λA' z=>show A'.units<cLine by lia) g pr (by rw[<-EW kt,Bs];lia) λh' tk dd kp=>⟨.ref s.heap.objs.size,_,I.laid (t':=tk) kp (AU _) ?_,rfl,q _ hn⟩;let⟨o,es,ep,h1,h2,h3,h4,_,h5⟩:=dd;have ml:(yan [] kvs).length<=0+kvs.length:=zaN kvs [];have ml2:(yan [] kvs).length<=sizeLine:=by rw[Bs];lia
 refine⟨ml2,?_,_,((kt.merge .nil)).keeps λc ys ec=>?_,o,es,ep,h1,h2,h3,h4,h5⟩
 .have:=I.big;exact beq_eq_false_iff_ne.2 (Db this)
 .rw[za (zb ec hn)];exact ec
end
end L2
namespace L2
open PySem PySem.Spec PyProof.Rows IC
section
variable {K:AB}{cl:Nat->AH}{B:AH->Prop}{φ:Ph}{H:Hp}
def zeP{v k w:PV}{x:V}(e:ydC v=AA (k,w))(r:yc K cl B φ H v x):∃(ks:List Key) (y:V) (q b:AH),k=.tup (ks.map yaf)/\x=.ref q/\H q=AA (.tup [.ref b,y])/\H b=AA (.tup (ks.map kV))/\yc K cl B φ H w y:=by
 unfold ydC at e;split at e
 .split at e
  .rename_i c
   cases e
   let⟨ks,rfl⟩:=zdU c;erw[yc]at r;let⟨q,xs,rfl,rt,l⟩:=r;erw[ye]at l;let⟨y1,_,rfl,r1,y2,_,rfl,r2,rfl⟩:=l;have r1':yc K cl B φ H (.tup (ks.map yaf)) y1:=by erw[yc];exact r1
   let⟨b,rfl,hb⟩:=zdi r1';rcases rt with⟨rt,_⟩|⟨z,_⟩
   .exact⟨ks,y2,q,b,rfl,rfl,rt,hb,r2⟩
   .cases z
  .cases e
 .cases e
def zbU:∀{vs:List PV} {xs:List V} {kvs:List (PV×PV)},ycM vs=AA kvs->ye K cl B φ H vs xs->∃ks,DPs H xs ks/\DT K cl B φ H kvs ks
 |[],xs,kvs,e,r=>by
  cases e
  cases (show xs=[]from r)
  exact⟨[],rfl,rfl⟩
 |v::vs,xs,kvs,e,r=>by
  erw[ycM]at e;let⟨⟨k,w⟩,e1,e2⟩:=Option.bind_eq_some_iff.1 e;let⟨r2,e3,rfl⟩:=Option.map_eq_some_iff.1 e2;erw[ye]at r;let⟨y,ys,rfl,ry,rl⟩:=r;let⟨ks,z,q,b,rfl,rfl,hq,hb,rw'⟩:=zeP e1 ry;let⟨more,d,t⟩:=zbU e3 rl;exact⟨(ks,z)::more,⟨ks,z,more,q,b,rfl,rfl,hq,hb,d⟩,⟨ks,z,more,rfl,rfl,rw',t⟩⟩
theorem DT.fold:∀{kvs:List (PV×PV)} {more:List (List Key×V)},DT K cl B φ H kvs more->∀{acc:List (PV×PV)} {ks:List (List Key×V)},DT K cl B φ H acc ks->DT K cl B φ H (kvs.foldl (λacc kv=>IC.put kv.1 kv.2 acc) acc) (yan ks more)
 |[],_,d,_,_,a=>by cases (show _=[]from d);exact a
 |(k,v)::kvs,_,d,acc,ks,a=>by
  let⟨q,x,s,rfl,rfl,rv,d'⟩:=d;exact DT.fold d' (a.put rv)
end
section
variable {S:Se}{X:Cx}{a:AO}{ca:Ce}{p pos:Ba}
def zf3:bootBuiltins "dict"=AA (.type "dict"):=by decide +kernel
def zik(hu:X.A.units+16<cLine)(hc:X.calm=AD)(hg:Gl X "dict")(hm:X.mg "dict"=AC)(ha:PE X a (tE S X ca))
  (he:starEach [a] X.env=(AF,eval a X.env)::starEach [] X.env:=by rfl):PE X (.Call (.Name "dict" p) [a] [] pos) (tE S X (.dof ca)):=
 (zbd (zbs hu hc) hg hm zf3 (zJ ha zcZ he) ⋯ ⋯ he rfl).imp λσ H Q ⟨B,φ,st,ρ,rs,re,h⟩=>by
  erw[ev]at h;refine tE.bind rs re h λx H1 v st1 φ1 s1 rs1 re1 rv h1=>?_;unfold ycN at h1;split at h1
  .rename_i xs;split at h1
   .rename_i kvs e;split at h1
    .rename_i hl;erw[yc]at rv;let⟨y,ys,rfl,rt,l⟩:=rv;let⟨ks,d,t⟩:=zbU e l;rcases rt with⟨rt,_⟩|⟨z,_⟩
     .exact⟨y,ys,ks,rfl,rt,d,by rw[<-t.len];exact hl,λD hD=>h1 _ _ (φ1++[AA D]) (.push hD) (rs1.push hD (rs1.nB hD) ⟨_,zc,(t.fold (acc:=[]) (ks:=[]) rfl).step (.push hD)⟩) (.loc_new rs1)⟩
     .cases z
    .exact h1.elim
   .exact h1.elim
  .exact h1.elim
end
section
variable {X:Cx}
def zc0{x:V}:∀{xs:List V} {us:List AE},Vals xs us->xs.all yab=AD->us.countP (eqU x)=xs.countP λy=>eqV y x
 |_,_,.nil,_=>rfl
 |y::xs,u::us,.cons r t,f=>by
  rw[Ai,AG]at f;rw[Cb,Cb,zbB r f.1,zc0 t f.2]
def ycl:V->List V->Hp->VK->Prop:=λx vs H Q=>∃l xs y,x=.ref l/\vs=[y]/\H l=AA (.lst xs)/\yab y=AD/\xs.all yab=AD/\Q (.int (xs.countP λz=>eqV z y)) H
def zd3:MtM X "list.count" ycl:=by
 intro π s σ H x vs v us Q I rx rv h;let⟨l,xs,y,rfl,rfl,hH,fy,fs,q⟩:=h
 cases rx
 let⟨w,rfl,rw⟩:=vals1 rv;let⟨z,its,n,r,hl,e⟩:=I.lstM hH;refine DF EL ⟨_,e,rfl⟩ F.entry_list_count (F.args_list_count_2 _ _) (SeqAt.list_countAt l its.toArray n AC #[] w (eqU y)) ⟨e,λu hu=>zB rw fy r fs u (by simpa using hu),?_⟩;refine⟨.int _,H,I.tok _,⟨_,rfl⟩,?_⟩;rw[show its.toArray.toList=its from rfl,zc0 r fs];exact q
def yct:V->List V->Hp->VK->Prop:=λx vs H Q=>∃l xs y j,x=.ref l/\vs=[y]/\H l=AA (.lst xs)/\yab y=AD/\xs.all yab=AD/\(∃z,xs[j]?=AA z/\eqV z y=AD)/\(∀m z,m<j->xs[m]?=AA z->eqV z y=AF)/\Q (.int (j:Nat)) H
def zcl{xs:List V}{us:List AE}(h:Vals xs us):∀{m:Nat} {u:AE},us[m]?=AA u->∃z,xs[m]?=AA z/\RelV z u:=by
 induction h with
 |nil=>intro m u e;simp at e
 |cons r t ih=>
  intro m u e
  cases m with
  |zero=>simp at e;subst e;exact⟨_,rfl,r⟩
  |succ m=>simp at e;let⟨z,e1,e2⟩:=ih e;exact⟨z,by simpa using e1,e2⟩
def zeX:MtM X "list.index" yct:=by
 intro π s σ H x vs v us Q I rx rv h;let⟨l,xs,y,j,rfl,rfl,hH,fy,fs,⟨z,hz,ez⟩,hno,q⟩:=h
 cases rx
 let⟨w,rfl,rw⟩:=vals1 rv;let⟨hsz,its,n,r,hl,e⟩:=I.lstM hH;have hj:j<its.length:=by
  have:=(Ap.1 hz).1;lia
 have flatAt:∀{m:Nat} {z:V},xs[m]?=AA z->yab z=true:=λ{m z} hm=>BL.1 fs z (AV hm);have sz:sizeLine<2^63-1:=by rw[Bs];decide
 refine DF EM ⟨_,e,rfl⟩ F.entry_list_index (F.args_list_index_2 _ _) (SeqAt.list_indexAt l its.toArray n AC #[] w (eqU y) j (by simpa using hj) ∅ ?_ ?_) ⟨e,λu hu=>zB rw fy r fs u (by simpa using hu),?_⟩
 .let⟨z',e1,r1⟩:=zcl r (m:=j) (u:=its[j]) (by simp[hj]);rw[hz]at e1
  cases e1
  erw[EN];rw[zbB r1 (flatAt hz)];exact ez
 .intro m hm hlt;have hm':m<its.length:=by simpa using hm
  let⟨z',e1,r1⟩:=zcl r (m:=m) (u:=its[m]) (by simp[hm']);erw[EN];rw[zbB r1 (flatAt e1)];exact hno m z' hlt e1
 .exact⟨.int _,H,I.tok _,⟨_,rfl⟩,q⟩
end
section
variable {S:Se}{X:Cx}{σ:St}{B:AH->Prop}{φ φ1:Ph}{H H1:Hp}{st:SO}{ρ:IC.Env}{p pos p2 apos:Ba}{a b:AO}{ca cb:Ce}{K:AB}{cl:Nat->AH}
def zbG{v:PV}{x:V}(r:yc K cl B φ H v x)(h:IC.flat v=AD):∀{vs:List PV} {xs:List V},ye K cl B φ H vs xs->vs.all IC.flat=AD->(xs.countP λy=>eqV y x)=vs.countP λy=>peq y v
 |[],xs,l,_=>by erw[ye]at l;subst l;rfl
 |w::vs,xs,l,f=>by
  erw[ye]at l;let⟨y,ys,rfl,rw,l⟩:=l;rw[Ai,AG]at f;rw[Cb,Cb,zbG r h l f.2,(rw.flat f.1).2 v x h r]
def zbD{v:PV}{x:V}(r:yc K cl B φ H v x)(h:IC.flat v=AD):∀{vs:List PV} {xs:List V} {j:Nat},ye K cl B φ H vs xs->vs.all IC.flat=AD->ybh v vs=AA j->(∃z,xs[j]?=AA z/\eqV z x=AD)/\∀m z,m<j->xs[m]?=AA z->eqV z x=AF
 |[],xs,j,l,_,e=>by cases e
 |w::vs,xs,j,l,f,e=>by
  erw[ye]at l;let⟨y,ys,rfl,rw,l⟩:=l;rw[Ai,AG]at f;have hq:=(rw.flat f.1).2 v x h r;erw[ybh]at e;split at e
  .rename_i c
   cases e
   exact⟨⟨y,rfl,by rw[hq];exact c⟩,λm z hm=>by lia⟩
  .rename_i c
   cases e1:ybh v vs with
   |none=>rw[e1]at e;cases e
   |some i=>
    rw[e1]at e
    cases e
    let⟨q1,q2⟩:=zbD r h l f.2 e1;refine⟨by simpa using q1,λm z hm hz=>?_⟩
    cases m with
    |zero=>
     simp at hz;subst hz;rw[hq];simpa using c
    |succ m=>exact q2 m z (Nat.lt_of_succ_lt_succ hm) (by simpa using hz)
def ze1(ha:PE X a (tE S X ca))(hb:PE X b (tE S X cb))(hs:starEach [b] X.env=(AF,eval b X.env)::starEach [] X.env:=by rfl)(hbase:attributeBase a "count" X.env (eval a X.env)=eval a X.env:=by rfl)(hline:(apos.endLine==pos.line)=true:=by rfl)(hany:(backTo pos (starEach [] X.env)).any (·.1)=false:=by rfl)
  (hfew:((backTo pos (starEach [b] X.env)).all (λx=>!x.1)&&(backToKw pos (keywordEach [] X.env)).all (λx=>x.1.isSome)&&decide (([b]:List AO).length+([]:List BR).length+(if ([]:List BR).isEmpty then 0 else 1)<30))=true:=by rfl):
  PE X (.Call (.Attribute a "count" apos) [b] [] pos) (tE S X (.mth .count ca (.cons cb .nil))):=
 (zeI BV EL PySem.F.type_list_count zd3 ha (zE (S:=S) hb zaK hs) hbase hfew hline hs hany).imp λσ H Q ⟨B,φ,st,ρ,rs,re,h⟩=>by
  erw[ev]at h;refine tE.bind rs re h λx H1 v st1 φ1 s1 rs1 re1 rv h1=>?_;let⟨_,e1,h1⟩:=z8 h1;obtain⟨ws,t1⟩:∃ws,yr st1 v=AA ws:=by
   erw[yad]at e1
   cases q:yr st1 v with
   |none=>rw[q]at e1;cases e1
   |some ws=>exact⟨ws,rfl⟩
  let⟨l,xs,rfl,hl,_⟩:=zC rs1 rv t1;refine⟨.inl ⟨rfl,xs,hl⟩,tAs.bind rs1 re1 h1 λys H2 vs st2 φ2 s2 rs2 re2 rvs h2=>?_⟩;have rv2:=rv.step s2;rcases vs with _|⟨w,_|⟨w',t⟩⟩
  .exact h2.elim
  .let⟨y,rfl,rw⟩:=rvs.one;unfold ya8 at h2;erw[yd9]at h2
   cases t2:yr st2 v with
   |none=>rw[t2]at h2;exact h2.elim
   |some zs=>
    rw[t2]at h2;dsimp only at h2;split at h2
    .rename_i c;rw[AG]at c;let⟨l',xs',e',hl',lr⟩:=zC rs2 rv2 t2
     cases e'
     let⟨q1,_⟩:=zq rw c.1 lr c.2
     cases v with
     |loc n=>
      erw[yr]at t2;split at t2
      .rename_i zs' hz
       cases t2
       let⟨l2,xs2,e2,hn,hx,lr2⟩:=rs2.list rv2 hz
       cases e2
       let⟨q1,_⟩:=zq rw c.1 lr2 c.2;exact⟨l,xs2,y,rfl,rfl,hx,(rw.flat c.1).1,q1,h2.ok rs2 (by erw[yc];rw[zbG rw c.1 lr2 c.2])⟩
      .cases t2
     |lst zs'=>
      cases t2
      erw[yc]at rv2;let⟨a',xs2,e2,⟨hx,_,_⟩,lr2⟩:=rv2
      cases e2
      let⟨q1,_⟩:=zq rw c.1 lr2 c.2;exact⟨l,xs2,y,rfl,rfl,hx,(rw.flat c.1).1,q1,h2.ok rs2 (by erw[yc];rw[zbG rw c.1 lr2 c.2])⟩
     |_=>cases t2
    .exact h2.elim
  .exact h2.elim
def zdY(ha:PE X a (tE S X ca))(hb:PE X b (tE S X cb))(hs:starEach [b] X.env=(AF,eval b X.env)::starEach [] X.env:=by rfl)(hbase:attributeBase a "index" X.env (eval a X.env)=eval a X.env:=by rfl)(hline:(apos.endLine==pos.line)=true:=by rfl)(hany:(backTo pos (starEach [] X.env)).any (·.1)=false:=by rfl)
  (hfew:((backTo pos (starEach [b] X.env)).all (λx=>!x.1)&&(backToKw pos (keywordEach [] X.env)).all (λx=>x.1.isSome)&&decide (([b]:List AO).length+([]:List BR).length+(if ([]:List BR).isEmpty then 0 else 1)<30))=true:=by rfl):
  PE X (.Call (.Attribute a "index" apos) [b] [] pos) (tE S X (.mth .index ca (.cons cb .nil))):=
 (zeI BV EM PySem.F.type_list_index zeX ha (zE (S:=S) hb zaK hs) hbase hfew hline hs hany).imp λσ H Q ⟨B,φ,st,ρ,rs,re,h⟩=>by
  erw[ev]at h;refine tE.bind rs re h λx H1 v st1 φ1 s1 rs1 re1 rv h1=>?_;let⟨_,e1,h1⟩:=z8 h1;obtain⟨ws,t1⟩:∃ws,yr st1 v=AA ws:=by
   erw[yad]at e1
   cases q:yr st1 v with
   |none=>rw[q]at e1;cases e1
   |some ws=>exact⟨ws,rfl⟩
  let⟨l,xs,rfl,hl,_⟩:=zC rs1 rv t1;refine⟨.inl ⟨rfl,xs,hl⟩,tAs.bind rs1 re1 h1 λys H2 vs st2 φ2 s2 rs2 re2 rvs h2=>?_⟩;have rv2:=rv.step s2;rcases vs with _|⟨w,_|⟨w',t⟩⟩
  .exact h2.elim
  .let⟨y,rfl,rw⟩:=rvs.one;unfold ya8 at h2;erw[yea]at h2
   cases t2:yr st2 v with
   |none=>rw[t2]at h2;exact h2.elim
   |some zs=>
    rw[t2]at h2;dsimp only at h2;split at h2
    .rename_i c;rw[AG]at c;split at h2
     .rename_i j hj
      cases v with
      |loc n=>
       erw[yr]at t2;split at t2
       .rename_i zs' hz
        cases t2
        let⟨l2,xs2,e2,hn,hx,lr2⟩:=rs2.list rv2 hz
        cases e2
        let⟨q1,_⟩:=zq rw c.1 lr2 c.2;let⟨q2,q3⟩:=zbD rw c.1 lr2 c.2 hj;exact⟨l,xs2,y,j,rfl,rfl,hx,(rw.flat c.1).1,q1,q2,q3,h2.ok rs2 (by erw[yc])⟩
       .cases t2
      |lst zs'=>
       cases t2
       erw[yc]at rv2;let⟨a',xs2,e2,⟨hx,_,_⟩,lr2⟩:=rv2
       cases e2
       let⟨q1,_⟩:=zq rw c.1 lr2 c.2;let⟨q2,q3⟩:=zbD rw c.1 lr2 c.2 hj;exact⟨l,xs2,y,j,rfl,rfl,hx,(rw.flat c.1).1,q1,q2,q3,h2.ok rs2 (by erw[yc])⟩
      |_=>cases t2
     .exact h2.elim
    .exact h2.elim
  .exact h2.elim
end
section
variable {S:Se}{X:Cx}{σ:St}{B:AH->Prop}{φ:Ph}{H:Hp}{st:SO}{p pos p2 px apos:Ba}{a b c d o tg l:AO}{ca cb cc:Ce}{ct:Tg}{ss:List BS}{cs:Css}
def zeC(ha:PE X a (tE S X ca))(hbase:attributeBase a "clear" X.env (eval a X.env)=eval a X.env:=by rfl)(hline:(apos.endLine==pos.line)=true:=by rfl):PE X (.Call (.Attribute a "clear" apos) [] [] pos) (tE S X (.mth .clear ca .nil)):=
 (zh9 BV EH PySem.F.type_list_clear zeO ha hbase hline).imp λσ H Q ⟨B,φ,st,ρ,rs,re,h⟩=>by
  erw[ev]at h;refine tE.bind rs re h λx H1 v st1 φ1 s1 rs1 re1 rv h1=>?_;let⟨_,e1,h1⟩:=z8 h1;erw[evs,R.bind,ya8]at h1
  cases v with
  |loc n=>
   erw[ydZ]at h1;split at h1
   .rename_i zs hz;let⟨l',xs',e,hn,hx,lr⟩:=rs1.list rv hz;subst e;refine⟨.inl ⟨rfl,xs',.inl (.inl hx)⟩,l',xs',rfl,rfl,hx,?_⟩;exact h1 _ _ φ1 (.put (AV hn)) (rs1.put hn ⟨[],zc,by erw[ye]⟩) (by erw[yc])
   .exact h1.elim
  |_=>cases e1
end
section
variable {S:Se}{X:Cx}{σ:St}{B:AH->Prop}{φ φ1:Ph}{H H1:Hp}{st:SO}{ρ:IC.Env}{pos:Ba}{a b tg elt iter:AO}{ca cb ce:Ce}{ct:Tg}
end
end L2
namespace L2
open PySem PySem.Spec PyProof.Rows IC WK
inductive GK where
 |fn (i:Nat)|fnD (i:Nat)|cst (v:PV)|dct (D:List (AM×PV))|exc (c:Nat)|cls (c i:Nat)
structure Gs where
 g:AM->Option GK
 b:AM->Bool
 t:Ty->Bool
 fl:Nat->AM->Bool
 me:Nat->AM->Option Nat
 kb:Nat->Nat->List AM->Option (List (Option Int))
 mr:AM->Option (List (AM×Nat))
 fv:AM->Nat->Bool
 xk:Nat->Ty->Bool
 xc:Nat->AM->Bool
 xm:Nat->AM->Bool
 qf:Nat->Bool
structure Kx where
 N:List AM
 sc:BB
 own:Bool
 h:Bool
def Fo(m:Nat)(S:Se)(X:Cx)(i:Nat)(f:AH)(fd:Al)(ps:List AM):Prop:=yav X.prog X.w X.K X.mg X.base (CX1 X.prog X.w) m f fd ps (spI X.K S.cl S.call i)
structure Glo(γ:Gs)(m:Nat)(S:Se)(X:Cx):Prop where
 F:∀x i,γ.g x=AA (.fn i)->∃f fd ps,Fo m S X i f fd ps/\X.mg x=AA (.ref f)/\Ae X.K (.ref f)=AD/\Binds X.K fd ps []
 Q:∀x i np ks sh,γ.g x=AA (.fnD i)->γ.kb i np ks=AA sh->∃f fd ps,Fo m S X i f fd ps/\X.mg x=AA (.ref f)/\Ae X.K (.ref f)=AD/\∃g,yaX X.K fd ps ks g (gK np sh)
 C:∀x v,γ.g x=AA (.cst v)->GC X.K X.mg S.cl x v \/ ∃i,v=.int i/\GCI X.mg x i
 D:∀x d,γ.g x=AA (.dct d)->GD X.K X.w X.mg S.cl x d
 E:∀x c,γ.g x=AA (.exc c)->ycB X.K X.mg (S.cl c) x
 N:∀x c i,γ.g x=AA (.cls c i)->X.mg x=AA (.ref (S.cl c))/\∃f fd ps,Mk X.K (S.cl c) f/\Fo m S X i f fd ps/\Binds X.K fd ps []
 B:∀x,γ.b x=AD->X.mg x=AC
 T:∀t,γ.t t=AD->ydH X.K t
 A:∀c f,γ.fl c f=AD->Cls X.K (S.cl c)/\yU X.K (S.cl c) f
 M:∀c n i,γ.me c n=AA i->Cls X.K (S.cl c)/\∃f fd ps,Meth X.K (S.cl c) n f/\Fo m S X i f fd ps/\Binds X.K fd ps []
 K:∀y D,γ.mr y=AA D->∃fa fdd ps,Makers S X m D fa fdd ps/\GDF X.K X.w X.mg fa y D
 V:∀x i,γ.g x=AA (.fn i)->γ.fv x i=AD->X.mg x=AA (.ref (S.cl (1000+i)))
 I:∀c t,γ.xk c t=AD->ydo X.K (S.cl c)/\yd3 X.K S.cl c t
 L:∀d x,γ.xc d x=AD->X.mg x=AA (.ref (S.cl d))
 H:∀c x,γ.xm c x=AD->∃W,X.mg x=AA (.ref W)/\F5 X.K (.ref (S.cl c)) (.ref W)=AA AD
 Z:∀x i,γ.g x=AA (.fn i)->γ.qf i=AD->∃f fd ps,ybi X.prog X.w X.K X.mg X.base m f fd ps (spI X.K S.cl S.call i)/\X.mg x=AA (.ref f)/\Ae X.K (.ref f)=AD/\Binds X.K fd ps []
structure Good(γ:Gs)(κ:Kx)(m:Nat)(S:Se)(X:Cx):Prop where
 n:X.N=κ.N
 sc:X.env.scope=κ.sc
 calm:κ.h=AF->X.calm=AD
 room:yam (m+1) X.A
 hd:κ.h=AF->X.A.handled=AC
 own:κ.own=AD->D2 (model X.prog X.w) X.A X.env X.xe/\(∀x,X.fn x=AD)/\S.may=AD
 top:κ.own=AD->(∃outer,X.stack=X.env::outer)/\X.ex=[]/\X.env.frame=AA X.env.locals
 glo:Glo γ m S X
theorem Good.rm{γ:Gs}{κ:Kx}{m:Nat}{S:Se}{X:Cx}(G:Good γ κ m S X)(h:κ.h=AF):yaj (m+1) X.A:=⟨G.hd h,G.room.dp,G.room.un⟩
def zij{k:Nat}{A:A9}(r:yam k A):A.units+1<cLine:=by have:=r.units;lia
def zf6{k:Nat}{A:A9}(r:yam k A):A.units+16<cLine:=by have:=r.units;lia
abbrev Pr(P:Prop):Type:=Option (PLift P)
abbrev YE(γ:Gs)(κ:Kx)(e:AO)(c:Ce):Prop:=∀m S X,Good γ κ m S X->PE X e (tE S X c)
abbrev YT(γ:Gs)(κ:Kx)(e:AO)(c:Ce):Prop:=∀m S X,Good γ κ m S X->PT X e (tTs S X c)
abbrev YW(γ:Gs)(κ:Kx)(e:AO)(c:Ce):Prop:=∀m S X,Good γ κ m S X->PW X e (tTs S X c)
abbrev YA(γ:Gs)(κ:Kx)(e:List AO)(c:Ces):Prop:=∀m S X,Good γ κ m S X->PA X e (tAs S X c)
abbrev YO(γ:Gs)(κ:Kx)(e:Option AO)(c:Ce):Prop:=∀m S X,Good γ κ m S X->PO X e (tO S X c)
abbrev YS(γ:Gs)(κ:Kx)(s:BS)(c:Cs):Prop:=∀m S X,Good γ κ m S X->PS X s (tS S X c)
abbrev YSs(γ:Gs)(κ:Kx)(s:List BS)(c:Css):Prop:=∀m S X,Good γ κ m S X->PSs X s (tSs S X c)
def an{P Q:Prop}(a:Pr P)(k:P->Pr Q):Pr Q:=match a with
 |some h=>k h.down
 |none=>AC
def ok{P:Prop}(h:P):Pr P:=AA ⟨h⟩
def ask(p:Prop)[Decidable p]:Pr p:=if h:p then AA ⟨h⟩else AC
def nst:AO->Bool
 |.Starred _ _=>AF
 |_=>AD
def zA{a:AO}{es:List AO}{env:Az}(h:nst a=AD):starEach (a::es) env=(AF,eval a env)::starEach es env:=by
 cases a<;>first|rfl|cases h
def yb9(es:List AO):Bool:=es.all nst
theorem stars{pos:Ba}{env:Az}:∀{es:List AO},yb9 es=AD->(backTo pos (starEach es env)).any (·.1)=AF
 |[],_=>rfl
 |a::es,h=>by
  erw[yb9,Ai,AG]at h;rw[zA h.1];have:=stars (pos:=pos) (env:=env) (es:=es) h.2;simpa [backTo] using this
def nco:AO->Bool
 |.ListComp ..=>AF
 |.SetComp ..=>AF
 |.DictComp ..=>AF
 |_=>AD
theorem swp{a:AO}{t:Option AO}{l:Nat}{env:Az}(h:nco a=AD):swapsWith a t l env=pure false:=by
 cases a<;>first|rfl|cases h
def nse:AO->Bool
 |.Set ..=>AF
 |_=>AD
theorem fse{a:AO}{env:Az}(h:nse a=AD):∀x,foldedSetIterable a env x=pure x:=by
 cases a<;>first|exact λ_=>rfl|cases h
theorem nmk{op:EX}{a:AO}(h:nse a=AD):behindInMarks op a=false:=by
 cases a<;>first|rfl|cases h
def nsl:AO->Bool
 |.Slice ..=>AF
 |_=>AD
theorem pix{a:AO}(h:nsl a=AD):yaR a:=by
 cases a<;>first|exact λ_ _=>rfl|cases h
def ntu:AO->Bool
 |.Tuple ..=>AF
 |_=>AD
def nte:AO->Bool
 |.UnaryOp ..=>AF
 |.BoolOp ..=>AF
 |.IfExp ..=>AF
 |.Compare ..=>AF
 |_=>AD
theorem itr{a:AO}{env:Az}(h:nte a=AD):∀whole,isTrue a env whole=(do let v <-whole;standAt a.pos;holding [v] (truthy v)):=by
 cases a<;>first|exact λ_=>rfl|cases h
def nca:AO->Bool
 |.Call ..=>AF
 |_=>AD
def zcD{a:AO}{f:AM}{env:Az}{w:GJ AE}(h:nca a=AD):attributeBase a f env w=w:=by
 cases a<;>first|rfl|cases h
def mOp(op:CQ)(o:BOp):Pr (∀S X,OpR X (binaryOp op) (rT2 S X (yt o))):=
 match op,o with
 |.Add,.add=>ok (λ_ _=>zhR)
 |.Sub,.sub=>ok (λ_ _=>zir)
 |.Mult,.mul=>ok (λ_ _=>zhk)
 |.FloorDiv,.fdiv=>ok (λ_ _=>zfM)
 |.Mod,.mod=>ok (λ_ _=>zgV)
 |.Pow,.pow=>ok (λ_ _=>zhh)
 |.LShift,.shl=>ok (λ_ _=>zid)
 |_,_=>AC
def mCm(op:EX)(o:COp):Pr (∀m S X,yam m X.A->OpR X (compareOp op) (rT2 S X (yw o))):=
 match op,o with
 |.Eq,.eq=>ok (λ_ _ _ r=>zi9 r.units)
 |.Lt,.lt=>ok (λ_ _ _ _=>ziZ)
 |.LtE,.le=>ok (λ_ _ _ _=>ziR)
 |.Gt,.gt=>ok (λ_ _ _ _=>zi5)
 |.GtE,.ge=>ok (λ_ _ _ _=>ziN)
 |.In,.isin=>ok (λ_ _ _ _=>zi8)
 |.NotIn,.notin=>ok (λ_ _ _ _=>zeL)
 |_,_=>AC
def ydB(sc:BB)(x:AM):Bool:=match sc.names.lookup x with
 |some .local=>AD
 |some .cell=>AD
 |some .free=>AD
 |_=>AF
def zfD{sc:BB}{x:AM}(h:ydB sc x=AD):Vis sc x:=by
 unfold ydB at h;split at h
 .exact .inl ‹_›
 .exact .inr (.inl ‹_›)
 .exact .inr (.inr ‹_›)
 .cases h
def ycI(sc:BB)(x:AM):Bool:=match sc.names.lookup x with
 |some .local=>AD
 |some .cell=>AD
 |_=>AF
def zcH{sc:BB}{x:AM}(h:ycI sc x=AD):Loc sc x:=by
 unfold ycI at h;split at h
 .exact .inl ‹_›
 .exact .inr ‹_›
 .cases h
def pln(x:AM):Bool:=!(x==("__debug__":AM))&&!(x==("__classdict__":AM))&&!(x==("__name__":AM))
def zcf{x:AM}(h:pln x=AD):(x==("__debug__":AM))=false:=by
 erw[pln,AG,Bl]at h;exact h.1.1
def zgf{x:AM}(h:pln x=AD):(x==("__classdict__":AM))=false:=by
 erw[pln,AG,Bl]at h;exact h.1.2
def zed{x:AM}(h:pln x=AD):x ≠ "__name__":=by
 erw[pln,AG,Bl]at h;intro e;rw[e]at h;exact absurd h.2 ⋯
def hf(κ:Kx){P:Prop}(f:κ.h=AF->Pr P):Pr P:=if h:κ.h=AF then f h else AC
def glB(κ:Kx)(x:AM):Bool:=decide (κ.sc.names.lookup x=AA .globalImplicit)&&pln x
def zp{γ:Gs}{κ:Kx}{m:Nat}{S:Se}{X:Cx}(G:Good γ κ m S X){x:AM}(h:glB κ x=AD):Gl X x:=by
 erw[glB,AG,decide_eq_true_eq]at h;show X.env.scope.names.lookup x=_;rw[G.sc];exact h.1
def zZ{κ:Kx}{x:AM}(h:glB κ x=AD):pln x=true:=by
 erw[glB,AG]at h;exact h.2
def setB(κ:Kx)(i:Nat)(x:AM):Bool:=decide (κ.N[i]?=AA x)&&decide κ.N.Nodup&&ycI κ.sc x&&(κ.own || decide (κ.sc.names.lookup x=AA .local))&&pln x
structure yc9(X:Cx)(i:Nat)(x:AM):Prop where
 d:X.N.Nodup
 i:X.N[i]?=AA x
 l:Loc X.env.scope x
 f:X.fn x=AD \/ X.env.scope.names.lookup x=AA .local
 p:pln x=AD
def zH{γ:Gs}{κ:Kx}{m:Nat}{S:Se}{X:Cx}(G:Good γ κ m S X){i:Nat}{x:AM}(h:setB κ i x=AD):yc9 X i x:=by
 erw[setB,AG,Bv,decide_eq_true_eq]at h;let⟨⟨⟨⟨h1,h2⟩,h3⟩,h4⟩,h5⟩:=h;refine⟨by rw[G.n];exact h2,by rw[G.n];exact h1,by rw[G.sc];exact zcH h3,?_,h5⟩;rcases h4 with h4|h4
 .exact .inl ((G.own h4).2.1 x)
 .exact .inr (by rw[G.sc];exact h4)
def gFn(γ:Gs)(x:AM)(i:Nat):Pr (γ.g x=AA (.fn i)):=match h:γ.g x with
 |some (.fn j)=>if e:j=i then AA ⟨by subst e;rfl⟩else AC
 |_=>AC
section
variable {γ:Gs}{κ:Kx}{ca cb cc:Ce}{ces:Ces}
def yec(v:PV)(e:AO):Pr (YE γ κ e (.cst v)):=
 match e with
 |.Constant (.int i) _ _=>match v with
  |.int j=>an (ask (i=j)) λh=>ok (λ_ _ _ _=>by cases h;exact zfo)
  |_=>AC
 |.Constant (.bool i) _ _=>match v with
  |.bl j=>an (ask (i=j)) λh=>ok (λ_ _ _ _=>by cases h;exact zjd)
  |_=>AC
 |.Constant .none _ _=>match v with
  |.non=>ok (λ_ _ _ _=>ziL)
  |_=>AC
 |.Constant (.str i) _ _=>match v with
  |.str j=>an (ask (i=j)) λh=>ok (λ_ _ _ _=>by cases h;exact zhy)
  |_=>AC
 |_=>AC
def ydM(i:Nat)(e:AO):Pr (YE γ κ e (.var i)):=
 match e with
 |.Name x _=>an (ask (κ.N[i]?=AA x/\ydB κ.sc x=AD/\pln x=AD)) λh=>ok (λ_ _ _ G=>zhZ (by rw[G.n];exact h.1) (by rw[G.sc];exact zfD h.2.1) (zcf h.2.2) (zgf h.2.2))
 |_=>AC
def yfP(o:BOp)(e:AO)(fa:∀x,Pr (YE γ κ x ca))(fb:∀x,Pr (YE γ κ x cb)):Pr (YE γ κ e (.bin o ca cb)):=
 match e with
 |.BinOp a op b _=>
  an (mOp op o) λho=>an (fa a) λha=>an (fb b) λhb=>ok (λm S X G=>zie (ho S X) (ha m S X G) (hb m S X G))
 |_=>AC
def yeq(e:AO)(fa:∀x,Pr (YE γ κ x ca)):Pr (YE γ κ e (.neg ca)):=
 match e with
 |.UnaryOp .USub a _=>
  an (fa a) λha=>ok (λm S X G=>zfi (ha m S X G))
 |_=>AC
def yer(e:AO)(fa:∀x,Pr (YE γ κ x ca)):Pr (YE γ κ e (.not ca)):=
 match e with
 |.UnaryOp .Not a _=>
  an (fa a) λha=>ok (λm S X G=>zht (ha m S X G))
 |_=>AC
def yfk(o:COp)(e:AO)(fa:∀x,Pr (YE γ κ x ca))(fb:∀x,Pr (YE γ κ x cb)):Pr (YE γ κ e (.cmp o ca cb)):=
 match e with
 |.Compare a [op] [b] _=>
  an (mCm op o) λho=>an (ask (nse b=AD)) λhs=>an (fa a) λha=>an (fb b) λhb=>ok (λm S X G=>zim (ho _ S X G.room) (ha m S X G) (hb m S X G) (nmk hs))
 |_=>AC
def ydE(o:COp)(e:AO)(fa:∀x,Pr (YE γ κ x ca))(fb:∀x,Pr (YE γ κ x cb)):Pr (YT γ κ e (.cmp o ca cb)):=
 match e with
 |.Compare a [op] [b] _=>
  an (mCm op o) λho=>an (ask (nse b=AD)) λhs=>an (fa a) λha=>an (fb b) λhb=>ok (λm S X G=>zhq (ho _ S X G.room) (ha m S X G) (hb m S X G) (nmk hs))
 |_=>AC
theorem lmk{op op':EX}{b c:AO}(h:nse c=AD):lastMarks [op,op'] [b,c]=false:=nmk h
def yfN(o p:COp)(e:AO)(fa:∀x,Pr (YE γ κ x ca))(fb:∀x,Pr (YE γ κ x cb))(fc:∀x,Pr (YE γ κ x cc)):Pr (YE γ κ e (.chain o p ca cb cc)):=
 match e with
 |.Compare a [op,op'] [b,c] _=>
  an (mCm op o) λho=>an (mCm op' p) λhp=>an (ask (nse c=AD)) λhs=>an (fa a) λha=>an (fb b) λhb=>an (fc c) λhc=>ok (λm S X G=>zex (ho _ S X G.room) (hp _ S X G.room) (ha m S X G) (hb m S X G) (hc m S X G) (lmk hs))
 |_=>AC
def ydq(o p:COp)(e:AO)(fa:∀x,Pr (YE γ κ x ca))(fb:∀x,Pr (YE γ κ x cb))(fc:∀x,Pr (YE γ κ x cc)):Pr (YT γ κ e (.chain o p ca cb cc)):=
 match e with
 |.Compare a [op,op'] [b,c] _=>
  an (mCm op o) λho=>an (mCm op' p) λhp=>an (ask (nse c=AD)) λhs=>an (fa a) λha=>an (fb b) λhb=>an (fc c) λhc=>ok (λm S X G=>zeo (ho _ S X G.room) (hp _ S X G.room) (ha m S X G) (hb m S X G) (hc m S X G) (lmk hs))
 |_=>AC
def yfG(e:AO)(fc:∀x,Pr (YT γ κ x cc))(fa:∀x,Pr (YE γ κ x ca))(fb:∀x,Pr (YE γ κ x cb)):Pr (YE γ κ e (.ite cc ca cb)):=
 match e with
 |.IfExp c a b _=>
  an (fc c) λhc=>an (fa a) λha=>an (fb b) λhb=>ok (λm S X G=>ziq (hc m S X G) (ha m S X G) (hb m S X G))
 |_=>AC
def yfs(e:AO)(fa:∀x,Pr (YA γ κ x ces)):Pr (YE γ κ e (.tup ces)):=
 match e with
 |.Tuple es _ _=>
  an (fa es) λha=>ok (λm S X G=>zhu (ha m S X G))
 |_=>AC
def ydl(e:AO)(fa:∀x,Pr (YA γ κ x ces)):Pr (YE γ κ e (.newl ces)):=
 match e with
 |.List es _=>
  an (fa es) λha=>ok (λm S X G=>zgI (ha m S X G))
 |_=>AC
def mIdx(e:AO)(fa:∀x,Pr (YE γ κ x ca))(fb:∀x,Pr (YE γ κ x cb)):Pr (YE γ κ e (.idx ca cb)):=
 match e with
 |.Subscript a b _=>
  an (ask (nsl b=AD)) λhs=>an (fa a) λha=>an (fb b) λhb=>ok (λm S X G=>zh3 (ha m S X G) (hb m S X G) (pix hs))
 |_=>AC
def yel(e:AO)(fa:∀x,Pr (YE γ κ x ca))(fb:∀x,Pr (YO γ κ x cb))(fc:∀x,Pr (YO γ κ x cc)):Pr (YE γ κ e (.slc ca cb cc)):=
 match e with
 |.Subscript a (.Slice l h AC _) _=>
  an (fa a) λha=>an (fb l) λhb=>an (fc h) λhc=>ok (λm S X G=>ziA (ha m S X G) (hb m S X G) (hc m S X G))
 |_=>AC
def ydK(c:Ce)(e:Option AO)(fa:∀x,Pr (YE γ κ x c)):Pr (YO γ κ e c):=
 match e with
 |none=>match c with
  |.cst .non=>ok (λ_ _ _ _=>zfT)
  |_=>AC
 |some a=>
  an (fa a) λha=>ok (λm S X G=>zgq (ha m S X G))
inductive Fs(γ:Gs)(κ:Kx):Ces->Type where
 |nil:Fs γ κ .nil
 |cons {c:Ce} {cs:Ces} (f:∀x,Pr (YE γ κ x c)) (r:Fs γ κ cs):Fs γ κ (.cons c cs)
def yaT:{ces:Ces}->Fs γ κ ces->(es:List AO)->Pr (YA γ κ es ces)
 |_,.nil,[]=>ok λ_ _ _ _=>zaK
 |_,.cons f r,a::es=>an (ask (nst a=AD)) λhs=>an (f a) λha=>an (yaT r es) λhr=>ok λm S X G=>zE (ha m S X G) (hr m S X G) (zA hs)
 |_,_,_=>AC
structure Sp2(γ:Gs)(κ:Kx)(ces:Ces)(np:Nat) where
 c1:Ces
 c2:Ces
 f1:Fs γ κ c1
 f2:Fs γ κ c2
 h:yb1 c1 c2=ces
 l:yb2 c1=np
def ybD:(np:Nat)->{ces:Ces}->Fs γ κ ces->Option (Sp2 γ κ ces np)
 |0,ces,F=>AA ⟨.nil,ces,.nil,F,rfl,rfl⟩
 |n+1,_,.cons f r=>match ybD n r with
  |some s=>AA ⟨.cons _ s.c1,s.c2,.cons f s.f1,s.f2,by rw[yb1,s.h],by rw[yb2,s.l]⟩
  |none=>AC
 |_,_,_=>AC
structure It2(γ:Gs)(κ:Kx)(ces:Ces)(sh:List (Option Int))(kws:List BR) where
 it:List (Sum Ce Int)
 h:yW it=ces
 s:it.map shC=sh
 k:∀m S X,Good γ κ m S X->PK X kws (tK S X it)
def ybe:(sh:List (Option Int))->{ces:Ces}->Fs γ κ ces->(kws:List BR)->Option (It2 γ κ ces sh kws)
 |[],_,.nil,[]=>AA ⟨[],rfl,rfl,λ_ _ _ _=>zhK⟩
 |none::sh,.cons c _,.cons f r,⟨_,e,_⟩ :: kws=>match f e,ybe sh r kws with
  |some h,AA q=>AA ⟨.inl c::q.it,by rw[yW,q.h],by rw[AL,q.s];rfl,λm S X G=>zjb (h.down m S X G) (q.k m S X G)⟩
  |_,_=>AC
 |some i::sh,.cons (.cst (.int j)) _,.cons _ r,kws=>if e:i=j then match ybe sh r kws with
  |some q=>AA ⟨.inr i::q.it,by rw[yW,q.h,e],by rw[AL,q.s];rfl,λm S X G=>zi2 (q.k m S X G)⟩
  |none=>AC
  else AC
 |_,_,_,_=>AC
def kwN:List BR->List AM
 |[]=>[]
 |⟨AA x,_,_⟩ :: r=>x::kwN r
 |_::r=>kwN r
def kwB:List BR->Bool
 |[]=>AD
 |⟨AA _,_,_⟩ :: r=>kwB r
 |_=>AF
def zhc{pos:Ba}{env:Az}:∀{kws:List BR},kwB kws=AD->(backToKw pos (keywordEach kws env)).all (·.1.isSome)=AD/\(backToKw pos (keywordEach kws env)).filterMap (·.1)=kwN kws/\(backToKw pos (keywordEach kws env)).any (·.1.isNone)=AF
 |[],_=>⟨rfl,rfl,rfl⟩
 |⟨AA x,e,_⟩ :: r,h=>by
  let⟨h1,h2,h3⟩:=zhc (pos:=pos) (env:=env) (kws:=r) h;erw[backToKw]at h1 h2 h3 ⊢;erw[keywordEach,AL,Ai,Bo,BM,h1,h2,h3,kwN];simp
def yeL(hκ:κ.h=AF)(i:Nat)(F:Fs γ κ ces)(e:AO):Pr (YE γ κ e (.call i ces)):=
 match e with
 |.Call (.Name x _) [] [] _=>match F with
  |.nil=>an (ask (glB κ x=AD)) λhg=>an (gFn γ x i) λhf=>ok λm S X G=>by
   let⟨f,fd,ps,h1,h2,h3,h4⟩:=G.glo.F x i hf;exact zeH h1 ((G.rm hκ).mono (DS m)) (zp G hg) h2 h3 h4 (zcf (zZ hg))
  |_=>AC
 |.Call (.Name x _) (a::es) kws _=>an (ask (glB κ x=AD/\nst a=AD/\yb9 es=AD)) λhg=>
  match hx:γ.g x with
  |some (.fn j)=>match kws with
   |[]=>an (ask (j=i)) λhj=>an (yaT F (a::es)) λha=>ok λm S X G=>by
    subst hj;let⟨f,fd,ps,h1,h2,h3,h4⟩:=G.glo.F x j hx;exact zf8 h1 ((G.rm hκ).mono (DS m)) (zp G hg.1) h2 h3 h4 (ha m S X G) (zcf (zZ hg.1)) (zA hg.2.1) (stars hg.2.2)
   |_=>AC
  |some (.fnD j)=>match hk:γ.kb j (es.length+1) (kwN kws)with
   |none=>AC
   |some sh=>match ybD (es.length+1) F with
    |none=>AC
    |some s=>match ybe sh s.f2 kws with
     |none=>AC
     |some q=>an (ask (kwB kws=AD/\j=i)) λhw=>an (yaT s.f1 (a::es)) λha=>ok λm S X G=>by
      let⟨hw,rfl⟩:=hw;let⟨f,fd,ps,h1,h2,h3,h4⟩:=G.glo.Q x j _ _ sh hx hk;rw[<-s.h,<-q.h];rw[<-q.s]at h4;have w:=λ{pos}=>zhc (pos:=pos) (env:=X.env) hw;exact zdZ h1 ((G.rm hκ).mono (DS m)) (zp G hg.1) h2 h3 h4 s.l (ha m S X G) (q.k m S X G) w.1 w.2.1 (zcf (zZ hg.1)) (zA hg.2.1) (by
       rw[w.2.2,EZ];exact stars (es:=a::es) (by erw[yb9,Ai,hg.2.1,BJ];exact hg.2.2))
  |_=>AC
 |_=>AC
abbrev ydF(b:Blt)(x:AM):Prop:=∀S X,X.calm=AD->(∃id,yJ X (.builtin id) (rB S X b)/\bootBuiltins x=AA (.builtin id)) \/ ∃T,yJ X (.type T) (rB S X b)/\bootBuiltins x=AA (.type T)
def ye4(b:Blt)(x:AM):Pr (ydF b x):=
 match b with
 |.len=>an (ask (x="len")) λh=>ok λ_ _ _=>.inl ⟨_,zhW,h ▸ zgP⟩
 |.int=>an (ask (x="int")) λh=>ok λ_ _ _=>.inr ⟨_,zhH,h ▸ zho⟩
 |.max=>an (ask (x="max")) λh=>ok λ_ _ c=>.inl ⟨_,zgN c,h ▸ zhx⟩
 |.tuple=>an (ask (x="tuple")) λh=>ok λ_ _ _=>.inr ⟨_,zeF,h ▸ zes⟩
 |.all=>an (ask (x="all")) λh=>ok λ_ _ c=>.inl ⟨_,zg9 c,h ▸ ziv⟩
 |.sum=>an (ask (x="sum")) λh=>ok λ_ _ c=>.inl ⟨_,zil c,h ▸ zhG⟩
 |.any=>an (ask (x="any")) λh=>ok λ_ _ c=>.inl ⟨_,ziD c,h ▸ zhY⟩
 |_=>AC
def yeU(b:Blt)(F:Fs γ κ ces)(e:AO):Pr (YE γ κ e (.blt b ces)):=
 match e with
 |.Call (.Name x _) (a::es) [] _=>hf κ λhκ=>an (ask (glB κ x=AD/\nst a=AD/\yb9 es=AD/\γ.b x=AD)) λhg=>an (ye4 b x) λhb=>an (yaT F (a::es)) λha=>ok λm S X G=>by
  rcases hb S X (G.calm hκ)with⟨id,h1,h2⟩|⟨T,h1,h2⟩
  .exact zih h1 (zp G hg.1) (G.glo.B x hg.2.2.2) h2 (ha m S X G) (zed (zZ hg.1)) (zcf (zZ hg.1)) (zA hg.2.1) (stars hg.2.2.1)
  .exact zfB h1 (zp G hg.1) (G.glo.B x hg.2.2.2) h2 (ha m S X G) (zed (zZ hg.1)) (zcf (zZ hg.1)) (zA hg.2.1) (stars hg.2.2.1)
 |_=>AC
def yeA(b:Blt)(F:Fs γ κ ces)(e:AO):Pr (YE γ κ e (.blt b ces)):=
 match b with
 |b=>yeU b F e
def ye8(e:AO)(fa:∀x,Pr (YE γ κ x ca)):Pr (YE γ κ e (.dof ca)):=
 match e with
 |.Call (.Name x _) [a] [] _=>hf κ λhκ=>an (ask (x="dict"/\glB κ x=AD/\nst a=AD/\γ.b x=AD)) λh=>an (fa a) λha=>ok λm S X G=>by
  let⟨rfl,h1,h2,h3⟩:=h;exact zik (zf6 G.room) (G.calm hκ) (zp G h1) (G.glo.B _ h3) (ha m S X G) (zA h2)
 |_=>AC
def tyB(t:Ty)(x:AM):Pr (ycE t=AD/\bootBuiltins x=AA (.type (tyN t))):=
 match t with
 |.bool=>an (ask (x="bool")) λh=>ok ⟨rfl,h ▸ zgr⟩
 |_=>AC
def yfH(ts:List Ty)(e:AO)(fa:∀x,Pr (YE γ κ x ca)):Pr (YE γ κ e (.isi ca ts)):=
 match ts,e with
 |[t],.Call (.Name n _) [a,.Name x _] [] _=>an (ask (n="isinstance"/\glB κ n=AD/\γ.b n=AD/\glB κ x=AD/\γ.b x=AD/\γ.t t=AD/\nst a=AD)) λh=>an (tyB t x) λht=>an (fa a) λha=>ok λm S X G=>by
  let⟨rfl,h1,h2,h3,h4,h5,h6⟩:=h;exact zhs (G.glo.T t h5) ht.1 (zp G h1) (G.glo.B _ h2) (zp G h3) (G.glo.B _ h4) ht.2 (ha m S X G) (zed (zZ h3)) (zcf (zZ h3)) (zA h6) rfl
 |_,_=>AC
mutual
noncomputable def ydr:(a b:PV)->Pr (a=b)
 |.non,.non=>ok rfl
 |.bl a,.bl b=>an (ask (a=b)) λh=>ok (by rw[h])
 |.int a,.int b=>an (ask (a=b)) λh=>ok (by rw[h])
 |.str a,.str b=>an (ask (a=b)) λh=>ok (by rw[h])
 |.tp k a,.tp j b=>an (ask (k=j)) λh=>an (ybK a b) λg=>ok (by rw[h,g])
 |.lst a,.lst b=>an (ybK a b) λg=>ok (by rw[g])
 |_,_=>AC
noncomputable def ybK:(a b:List PV)->Pr (a=b)
 |[],[]=>ok rfl
 |a::x,b::y=>an (ydr a b) λh=>an (ybK x y) λg=>ok (by rw[h,g])
 |_,_=>AC
end
def eqD:(a b:List (AM×PV))->Pr (a=b)
 |[],[]=>ok rfl
 |(k,a)::x,(j,b)::y=>an (ask (k=j)) λe=>an (ydr a b) λh=>an (eqD x y) λg=>ok (by rw[e,h,g])
 |_,_=>AC
def yfh(v:PV)(e:AO):Pr (YE γ κ e (.cst v)):=
 match e with
 |.Name x _=>match h:γ.g x with
  |some (.cst u)=>an (ask (glB κ x=AD)) λhg=>an (ydr u v) λhv=>ok λm S X G=>by
   subst hv;rcases G.glo.C x u h with q|⟨i,rfl,q⟩
   .exact ziM (zp G hg) q (zcf (zZ hg))
   .exact zii (zp G hg) q (zcf (zZ hg))
  |some (.fn i)=>match v with
   |.fnc j=>an (ask (glB κ x=AD/\γ.fv x i=AD/\i=j)) λhg=>ok λm S X G=>by
    let⟨h1,h2,rfl⟩:=hg;exact zcV (zp G h1) (G.glo.V x i h h2) (λB φ H=>by erw[yc]) (zcf (zZ h1))
   |_=>AC
  |_=>AC
 |e=>yec v e
def yeQ(c:Nat)(f:AM)(e:AO)(fa:∀x,Pr (YE γ κ x ca)):Pr (YE γ κ e (.fld c ca f)):=
 match e with
 |.Attribute a g _=>an (ask (g=f/\γ.fl c f=AD/\nca a=AD)) λh=>an (fa a) λha=>ok λm S X G=>by
  let⟨rfl,h1,h2⟩:=h;exact zis (G.glo.A c g h1).1 (G.glo.A c g h1).2 (ha m S X G) (zcD h2)
 |_=>AC
def yeu(hκ:κ.h=AF)(c i:Nat)(F:Fs γ κ ces)(e:AO):Pr (YE γ κ e (.new c i ces)):=
 match e with
 |.Call (.Name x _) (a::es) [] _=>match h:γ.g x with
  |some (.cls c' i')=>an (ask (c'=c/\i'=i/\glB κ x=AD/\nst a=AD/\yb9 es=AD)) λhg=>an (yaT F (a::es)) λha=>ok λm S X G=>by
   let⟨rfl,rfl,h1,h2,h3⟩:=hg;let⟨q,f,fd,ps,q1,q2,q3⟩:=G.glo.N x c' i' h;exact zhT q1 q2 (G.rm hκ) (zp G h1) q q3 (ha m S X G) (zcf (zZ h1)) (zA h2) (stars h3)
  |_=>AC
 |_=>AC
def zeu{pos:Ba}{env:Az}{b:AO}(h:nst b=AD):((backTo pos (starEach [b] env)).all (λx=>!x.1)&&(backToKw pos (keywordEach [] env)).all (λx=>x.1.isSome)&&decide (([b]:List AO).length+([]:List BR).length+(if ([]:List BR).isEmpty then 0 else 1)<30))=true:=by
 rw[zA h];rfl
def yfR(k:Mth)(F:Fs γ κ ces)(e:AO)(fa:∀x,Pr (YE γ κ x ca)):Pr (YE γ κ e (.mth k ca ces)):=
 match k,e,F with
 |.append,.Call (.Attribute a n ap) [b] [] pos,.cons fb .nil=>an (ask (n="append"/\nca a=AD/\nst b=AD/\(ap.endLine==pos.line)=AD)) λh=>an (fa a) λha=>an (fb b) λhb=>ok λm S X G=>by
  let⟨rfl,h1,h2,h3⟩:=h;exact zdL (ha m S X G) (hb m S X G) (zA h2) (zcD h1) h3 (zeu h2)
 |.get,.Call (.Attribute a n ap) [b,c] [] pos,.cons fb (.cons fc .nil)=>an (ask (n="get"/\nca a=AD/\nst b=AD/\nst c=AD/\(ap.endLine==pos.line)=AD)) λh=>an (fa a) λha=>an (fb b) λhb=>an (fc c) λhc=>ok λm S X G=>by
  let⟨rfl,h1,h2,h4,h3⟩:=h;exact zgX (zij G.room) (ha m S X G) (hb m S X G) (hc m S X G) ⟨zcD h1,by rw[zA h2,zA h4];rfl,h3,by rw[zA h2,zA h4];rfl⟩
 |.insert,.Call (.Attribute a n ap) [b,c] [] pos,.cons fb (.cons fc .nil)=>an (ask (n="insert"/\nca a=AD/\nst b=AD/\nst c=AD/\(ap.endLine==pos.line)=AD)) λh=>an (fa a) λha=>an (fb b) λhb=>an (fc c) λhc=>ok λm S X G=>by
  let⟨rfl,h1,h2,h4,h3⟩:=h;exact zdS (ha m S X G) (hb m S X G) (hc m S X G) (by rw[zA h2,zA h4];rfl) (by rw[zA h4];rfl) (zcD h1) h3 (by rw[zA h4];rfl) (by rw[zA h2,zA h4];rfl)
 |.clear,.Call (.Attribute a n ap) [] [] pos,.nil=>an (ask (n="clear"/\nca a=AD/\(ap.endLine==pos.line)=AD)) λh=>an (fa a) λha=>ok λm S X G=>by
  let⟨rfl,h1,h3⟩:=h;exact zeC (ha m S X G) (zcD h1) h3
 |.count,.Call (.Attribute a n ap) [b] [] pos,.cons fb .nil=>an (ask (n="count"/\nca a=AD/\nst b=AD/\(ap.endLine==pos.line)=AD)) λh=>an (fa a) λha=>an (fb b) λhb=>ok λm S X G=>by
  let⟨rfl,h1,h2,h3⟩:=h;exact ze1 (ha m S X G) (hb m S X G) (zA h2) (zcD h1) h3 rfl (zeu h2)
 |.index,.Call (.Attribute a n ap) [b] [] pos,.cons fb .nil=>an (ask (n="index"/\nca a=AD/\nst b=AD/\(ap.endLine==pos.line)=AD)) λh=>an (fa a) λha=>an (fb b) λhb=>ok λm S X G=>by
  let⟨rfl,h1,h2,h3⟩:=h;exact zdY (ha m S X G) (hb m S X G) (zA h2) (zcD h1) h3 rfl (zeu h2)
 |_,_,_=>AC
end
structure Ev(γ:Gs)(c:Ce) where
 e:∀κ x,Pr (YE γ κ x c)
 t:∀κ x,Pr (YT γ κ x c)
 w:∀κ op l pos,Pr (YW γ κ (.BoolOp op l pos) c)
section
variable {γ:Gs}{ca cb cc:Ce}
def w1{c:Ce}(t:∀κ x,Pr (YT γ κ x c))(κ:Kx)(op:Fu)(l:List AO)(pos:Ba):Pr (YW γ κ (.BoolOp op l pos) c):=
 match op,l with
 |.And,[a]=>an (t κ a) λh=>ok λm S X G=>zfW (h m S X G)
 |.Or,[a]=>an (t κ a) λh=>ok λm S X G=>zgZ (h m S X G)
 |_,_=>AC
def plT{c:Ce}(e:∀κ x,Pr (YE γ κ x c))(κ:Kx)(x:AO):Pr (YT γ κ x c):=an (ask (nte x=AD)) λh=>an (e κ x) λhe=>ok λm S X G=>zhi (he m S X G) (itr h)
def plain{c:Ce}(e:∀κ x,Pr (YE γ κ x c)):Ev γ c:=⟨e,plT e,w1 (plT e)⟩
def ybI{c:Ce}(e:∀κ x,Pr (YE γ κ x c))(t:∀κ x,Pr (YT γ κ x c)):Ev γ c:=⟨e,t,w1 t⟩
def yem(A:Ev γ ca)(κ:Kx)(e:AO):Pr (YT γ κ e (.not ca)):=
 match e with
 |.UnaryOp .Not a _=>an (A.t κ a) λh=>ok λm S X G=>zg7 (h m S X G)
 |_=>AC
def yeB(A:Ev γ ca)(B:Ev γ cb)(κ:Kx)(e:AO):Pr (YE γ κ e (.and ca cb)):=
 match e with
 |.BoolOp .And (a::b::[]) _=>an (A.e κ a) λha=>an (B.e κ b) λhb=>ok λm S X G=>zfl (ha m S X G) (ze4 (hb m S X G))
 |.BoolOp .And (a::b::c::r) p=>an (A.e κ a) λha=>an (B.e κ (.BoolOp .And (b::c::r) p)) λhb=>ok λm S X G=>zfl (ha m S X G) (hb m S X G)
 |_=>AC
def orE(A:Ev γ ca)(B:Ev γ cb)(κ:Kx)(e:AO):Pr (YE γ κ e (.or ca cb)):=
 match e with
 |.BoolOp .Or (a::b::[]) _=>an (A.e κ a) λha=>an (B.e κ b) λhb=>ok λm S X G=>zgQ (ha m S X G) (ze4 (hb m S X G))
 |.BoolOp .Or (a::b::c::r) p=>an (A.e κ a) λha=>an (B.e κ (.BoolOp .Or (b::c::r) p)) λhb=>ok λm S X G=>zgQ (ha m S X G) (hb m S X G)
 |_=>AC
def yc7(A:Ev γ ca)(B:Ev γ cb)(κ:Kx)(op:Fu)(l:List AO)(pos:Ba):Pr (YW γ κ (.BoolOp op l pos) (.and ca cb)):=
 match op,l with
 |.And,a::b::r=>an (A.t κ a) λha=>an (B.w κ .And (b::r) pos) λhb=>ok λm S X G=>zg0 (ha m S X G) (hb m S X G)
 |_,_=>AC
def orW(A:Ev γ ca)(B:Ev γ cb)(κ:Kx)(op:Fu)(l:List AO)(pos:Ba):Pr (YW γ κ (.BoolOp op l pos) (.or ca cb)):=
 match op,l with
 |.Or,a::b::r=>an (A.t κ a) λha=>an (B.w κ .Or (b::r) pos) λhb=>ok λm S X G=>zi0 (ha m S X G) (hb m S X G)
 |_,_=>AC
def ptW{c:Ce}(w:∀κ op l pos,Pr (YW γ κ (.BoolOp op l pos) c))(κ:Kx)(e:AO):Pr (YT γ κ e c):=
 match e with
 |.BoolOp op l p=>an (w κ op l p) λh=>ok λm S X G=>PW.pt (h m S X G)
 |_=>AC
def ydR{c:Ce}(t:∀κ x,Pr (YT γ κ x c))(w:∀κ op l pos,Pr (YW γ κ (.BoolOp op l pos) c))(κ:Kx)(op:Fu)(l:List AO)(pos:Ba):Pr (YW γ κ (.BoolOp op l pos) c):=
 match l with
 |[a]=>w1 t κ op [a] pos
 |l=>w κ op l pos
def ydb(A:Ev γ ca)(B:Ev γ cb):Ev γ (.and ca cb):=⟨yeB A B,ptW (yc7 A B),ydR (ptW (yc7 A B)) (yc7 A B)⟩
def yfb(A:Ev γ ca)(B:Ev γ cb):Ev γ (.or ca cb):=⟨orE A B,ptW (orW A B),ydR (ptW (orW A B)) (orW A B)⟩
end
abbrev YI(γ:Gs)(κ:Kx)(tg l:AO)(c:Cit):Prop:=∀m S X,Good γ κ m S X->PI X tg l (tI S X c)
abbrev YG(γ:Gs)(κ:Kx)(tg:AO)(c:Tg):Prop:=∀m S X,Good γ κ m S X->PG X tg (tG S X c)
section
variable {γ:Gs}{κ:Kx}{ca cb cc ce:Ce}{ci:Cit}
def yew(e:∀x,Pr (YE γ κ x ca))(tg l:AO):Pr (YI γ κ tg l (.seq ca)):=an (e l) λh=>ok λm S X G=>zhe (h m S X G)
def iR1(fa:∀x,Pr (YE γ κ x ca))(tg l:AO):Pr (YI γ κ tg l (.range1 ca)):=
 match l with
 |.Call (.Name x _) [a] [] _=>an (ask (x="range"/\glB κ x=AD/\γ.b x=AD/\nst a=AD)) λh=>an (fa a) λha=>ok λm S X G=>by
  let⟨rfl,h1,h2,h3⟩:=h;exact zdd (zp G h1) (G.glo.B _ h2) (ha m S X G) (zA h3)
 |_=>AC
def iR2(fa:∀x,Pr (YE γ κ x ca))(fb:∀x,Pr (YE γ κ x cb))(tg l:AO):Pr (YI γ κ tg l (.range2 ca cb)):=
 match l with
 |.Call (.Name x _) [a,b] [] _=>an (ask (x="range"/\glB κ x=AD/\γ.b x=AD/\nst a=AD/\nst b=AD)) λh=>an (fa a) λha=>an (fb b) λhb=>ok λm S X G=>by
  let⟨rfl,h1,h2,h3,h4⟩:=h;exact zc6 (zp G h1) (G.glo.B _ h2) (ha m S X G) (hb m S X G) (by rw[zA h3,zA h4];rfl) (zA h4)
 |_=>AC
def ydi(fa:∀x,Pr (YE γ κ x ca))(tg l:AO):Pr (YI γ κ tg l (.enum ca)):=
 match tg,l with
 |.Tuple _ _ _,.Call (.Name x _) [a] [] _=>an (ask (x="enumerate"/\glB κ x=AD/\γ.b x=AD/\nst a=AD)) λh=>an (fa a) λha=>ok λm S X G=>by
  let⟨rfl,h1,h2,h3⟩:=h;exact zgj (zp G h1) (G.glo.B _ h2) (ha m S X G) (zA h3)
 |_,_=>AC
def gNm(κ:Kx):(l:List Nat)->(es:List AO)->Pr (∀m S X,Good γ κ m S X->PGs X es (gNs l)/\(assignEach es X.env).length=l.length/\(assignEach es X.env).findIdx? (·.1)=AC)
 |[],[]=>ok λ_ _ _ _=>⟨zgx,rfl,rfl⟩
 |i::l,.Name x _::es=>an (ask (setB κ i x=AD)) λh=>an (gNm κ l es) λhr=>ok λm S X G=>by
  have s:=zH G h;let⟨h1,h2,h3⟩:=hr m S X G;refine⟨zeQ s.d s.i s.l h1 s.f,?_,?_⟩
  .simp only[assignEach,A2,h2]
  .simp only[assignEach,List.findIdx?_cons,h3];rfl
 |_,_=>AC
def mTg(ct:Tg)(tg:AO):Pr (YG γ κ tg ct):=
 match ct,tg with
 |.n i,.Name x _=>an (ask (setB κ i x=AD)) λh=>ok λm S X G=>let s:=zH G h;zgo s.d s.i s.l s.f
 |.t l,.Tuple es _ _=>hf κ λhκ=>an (gNm κ l es) λh=>ok λm S X G=>ziC (G.calm hκ) (h m S X G).1 (h m S X G).2.1 (h m S X G).2.2
 |_,_=>AC
def tgN:AO->List AM
 |.Name x _=>[x]
 |.Tuple es _ _=>es.filterMap fun
  |.Name x _=>AA x
  |_=>AC
 |_=>[]
def ycp(N:List AM)(sl:List (Option Nat))(tg:AO):List Str:=tgN tg++(sl.drop (tgN tg).length).filterMap λo=>o.bind λj=>N[j]?
def ybn(sc so:BB):Scope:={sc with names:=sc.names.map λ(n,k)=>if (k==Bz&&so.kind==.function&&so.names.lookup n==AA .cell)then(n,E1)else(n,k)}
def yaa(N:List AM)(so sc:BB)(NC:List AM)(sl:List (Option Nat)):Bool:=
 decide (sc.kind=.function)&&(sc.names.all λy=>y.2 != .local || decide (sc.names.lookup y.1=AA .local))&&(sc.names.all λy=>y.2 != .cell)&&(sc.names.all λy=>y.2 != .free || decide (so.names.lookup y.1=AA .cell)) &&
  ((NC.zip sl).all λp=>p.2.all λj=>decide (N[j]?=AA p.1/\sc.names.lookup p.1=AA .free))&&decide (sl.length=NC.length)
def zeG{X:Cx}{sc:BB}{NC:List AM}{sl:List (Option Nat)}(h:yaa X.N X.env.scope sc NC sl=AD):yL X sc NC sl:=by
 erw[yaa,AG,decide_eq_true_eq,BL,Bv,bne_iff_ne,ne_eq]at h;let⟨⟨⟨⟨⟨h1,h2⟩,h3⟩,h4⟩,h5⟩,h6⟩:=h;exact zjm _ _ rfl rfl h1 (λy hy e=>(h2 y hy).resolve_left λz=>z e) h3 (λy hy e=>(h4 y hy).resolve_left λz=>z e) (λp hp=>by simpa using h5 p hp) h6
theorem Good.comp{m:Nat}{S:Se}{X:Cx}(G:Good γ κ m S X)(sc:BB)(NC:List AM)(j:CI):Good γ ⟨NC,ybn sc κ.sc,AF,κ.h⟩ m S (cxC X sc NC j):=by
 refine⟨rfl,?_,G.calm,G.room,G.hd,(λh=>nomatch h),(λh=>nomatch h),⟨G.glo.F,G.glo.Q,G.glo.C,G.glo.D,G.glo.E,G.glo.N,G.glo.B,G.glo.T,G.glo.A,G.glo.M,λy D h=>let ⟨fa,fdd,ps,M,d⟩:=G.glo.K y D h;⟨fa,fdd,ps,⟨M.F,M.kp,M.b⟩,d⟩,G.glo.V,G.glo.I,G.glo.L,G.glo.H,G.glo.Z⟩⟩;show relabel sc X.env=_;rw[<-G.sc];rfl
def yfT(c:Ce)(f:∀x,Pr (YT γ κ x c))(ifs:List AO):Pr (∀m S X,Good γ κ m S X->PTs X ifs (tT0 S X.K c)):=
 match ifs with
 |[]=>match c with
  |.cst (.bl AD)=>ok λ_ _ _ _=>zeV
  |_=>AC
 |[a]=>an (f a) λh=>ok λm S X G=>zfO rfl (h m S X G)
 |_=>AC
structure ybY(γ:Gs)(κ:Kx)(sl:List (Option Nat))(ct:Tg)(ci:Cit)(cc ce:Ce)(elt tg it:AO)(ifs:List AO)(sc:BB):Prop where
 q:∀m S X,Good γ κ m S X->∃NC,yL X sc NC sl/\PI X tg it (tI S X ci)/\(∀j,PG (cxC X sc NC j) tg (tG0 S X.K ct))/\(∀j,PTs (cxC X sc NC j) ifs (tT0 S X.K cc))/\∀j,PE (cxC X sc NC j) elt (tE0 S X.K ce)
 f:yV ct sl=AD
 s:nse it=AD
def mCo(sl:List (Option Nat))(ct:Tg)(fi:∀tg l,Pr (YI γ κ tg l ci))(C:Ev γ cc)(E:Ev γ ce)(elt tg it:AO)(ifs:List AO)(sc:BB):Pr (ybY γ κ sl ct ci cc ce elt tg it ifs sc):=
 an (ask (yaa κ.N κ.sc sc (ycp κ.N sl tg) sl=AD/\yV ct sl=AD/\nse it=AD)) λh=>an (fi tg it) λhi=>an (mTg (γ:=γ) (κ:=⟨ycp κ.N sl tg,ybn sc κ.sc,AF,κ.h⟩) ct tg) λhg=>
  an (yfT (γ:=γ) (κ:=⟨ycp κ.N sl tg,ybn sc κ.sc,AF,κ.h⟩) cc (C.t _) ifs) λht=>an (E.e ⟨ycp κ.N sl tg,ybn sc κ.sc,AF,κ.h⟩ elt) λhe=>ok ⟨λm S X G=>⟨ycp κ.N sl tg,by
   rw[<-G.n,<-G.sc]at h;rw[<-G.n];exact zeG h.1,hi m S X G,λj=>zgy rfl (hg m S _ (G.comp sc _ j)),λj=>ht m S _ (G.comp sc _ j),λj=>zgs rfl (he m S _ (G.comp sc _ j))⟩,h.2.1,h.2.2⟩
def ydd(sl:List (Option Nat))(ct:Tg)(fi:∀tg l,Pr (YI γ κ tg l ci))(C:Ev γ cc)(E:Ev γ ce)(e:AO):Pr (YE γ κ e (.comp sl ct ci cc ce)):=
 match e with
 |.ListComp elt [⟨tg,it,ifs,0⟩] sc _=>hf κ λhκ=>an (mCo sl ct fi C E elt tg it ifs sc) λh=>ok λm S X G=>by
  let⟨NC,h1,h2,h3,h4,h5⟩:=h.q m S X G;exact zfq (G.calm hκ) h1 h.f h2 h3 h4 h5 (fse h.s)
 |_=>AC
end
section
variable {γ:Gs}{κ:Kx}
end
mutual
noncomputable def ch(γ:Gs):(c:Ce)->Ev γ c
 |.cst v=>plain λκ x=>yfh v x
 |.var i=>plain λκ x=>ydM i x
 |.bin o a b=>plain λκ x=>yfP o x ((ch γ a).e κ) ((ch γ b).e κ)
 |.neg a=>plain λκ x=>yeq x ((ch γ a).e κ)
 |.not a=>ybI (λκ x=>yer x ((ch γ a).e κ)) (yem (ch γ a))
 |.and a b=>ydb (ch γ a) (ch γ b)
 |.or a b=>yfb (ch γ a) (ch γ b)
 |.cmp o a b=>ybI (λκ x=>yfk o x ((ch γ a).e κ) ((ch γ b).e κ)) (λκ x=>ydE o x ((ch γ a).e κ) ((ch γ b).e κ))
 |.chain o p a b c=>ybI (λκ x=>yfN o p x ((ch γ a).e κ) ((ch γ b).e κ) ((ch γ c).e κ)) (λκ x=>ydq o p x ((ch γ a).e κ) ((ch γ b).e κ) ((ch γ c).e κ))
 |.ite c a b=>plain λκ x=>yfG x ((ch γ c).t κ) ((ch γ a).e κ) ((ch γ b).e κ)
 |.tup es=>plain λκ x=>yfs x (yaT (chs γ es κ))
 |.newl es=>plain λκ x=>ydl x (yaT (chs γ es κ))
 |.dof a=>plain λκ x=>ye8 x ((ch γ a).e κ)
 |.idx a i=>plain λκ x=>mIdx x ((ch γ a).e κ) ((ch γ i).e κ)
 |.slc a l h=>plain λκ x=>yel x ((ch γ a).e κ) (λo=>ydK l o ((ch γ l).e κ)) (λo=>ydK h o ((ch γ h).e κ))
 |.call f es=>plain λκ x=>hf κ λh=>yeL h f (chs γ es κ) x
 |.blt b es=>plain λκ x=>yeA b (chs γ es κ) x
 |.mth k o es=>plain λκ x=>yfR k (chs γ es κ) x ((ch γ o).e κ)
 |.isi a ts=>plain λκ x=>yfH ts x ((ch γ a).e κ)
 |.comp sl tg it c e=>plain λκ x=>ydd sl tg (chi γ it κ) (ch γ c) (ch γ e) x
 |.fld c a f=>plain λκ x=>yeQ c f x ((ch γ a).e κ)
 |.new c i es=>plain λκ x=>hf κ λh=>yeu h c i (chs γ es κ) x
 |_=>plain λ_ _=>AC
noncomputable def chs(γ:Gs):(cs:Ces)->(κ:Kx)->Fs γ κ cs
 |.nil,_=>.nil
 |.cons c cs,κ=>.cons (λx=>(ch γ c).e κ x) (chs γ cs κ)
noncomputable def chi(γ:Gs):(c:Cit)->(κ:Kx)->∀tg l,Pr (YI γ κ tg l c)
 |.seq a,κ=>yew ((ch γ a).e κ)
 |.range1 a,κ=>iR1 ((ch γ a).e κ)
 |.range2 a b,κ=>iR2 ((ch γ a).e κ) ((ch γ b).e κ)
 |.enum a,κ=>ydi ((ch γ a).e κ)
 |_,_=>λ_ _=>AC
end
section
variable {γ:Gs}{κ:Kx}{ca cb cc ce:Ce}{ci:Cit}{ct:Tg}{cs cs':Css}{ces:Ces}
def swB(so:BB)(x:AM)(px pos:Ba)(sc:BB):Bool:=(if so.kind.isAnnotationScope then DJ else so.kind)==.function&&so.names.lookup x==AA .local&&px.line==pos.line&&!(sc.names.any λ(n,k)=>n==x&&(k==.local || k==.cell))
def zjr{elt:AO}{gs:List Comprehension}{sc:BB}{pos px:Ba}{x:AM}{l:Nat}{env:Az}:swapsWith (.ListComp elt gs sc pos) (AA (.Name x px)) l env=pure (swB env.scope x px pos sc):=rfl
def yc4(f:∀x,Pr (YE γ κ x ca))(s:BS):Pr (YS γ κ s (.expr ca)):=
 match s with
 |.Expr a _=>an (ask (nco a=AD)) λhs=>an (f a) λh=>ok λm S X G=>zgp (h m S X G) (swp hs)
 |_=>AC
def yd8(i:Nat)(f:∀x,Pr (YE γ κ x ca))(s:BS):Pr (YS γ κ s (.asg (.n i) ca)):=
 match s with
 |.Assign [.Name x _] a _=>an (ask (nco a=AD/\setB κ i x=AD)) λhs=>an (f a) λh=>ok λm S X G=>let q:=zH G hs.2;ziI q.d q.i q.l (h m S X G) (swp hs.1) q.f
 |_=>AC
def ydu(i:Nat)(sl:List (Option Nat))(ct:Tg)(fi:∀tg l,Pr (YI γ κ tg l ci))(C:Ev γ cc)(E:Ev γ ce)(s:BS):Pr (YS γ κ s (.asg (.n i) (.comp sl ct ci cc ce))):=
 match s with
 |.Assign [.Name x px] (.ListComp elt [⟨tg,it,ifs,0⟩] sc p) _=>hf κ λhκ=>an (ask (setB κ i x=AD/\swB κ.sc x px p sc=AD)) λhs=>an (mCo sl ct fi C E elt tg it ifs sc) λh=>ok λm S X G=>by
  let⟨NC,h1,h2,h3,h4,h5⟩:=h.q m S X G;have q:=zH G hs.1;exact zfU q.d q.i q.l (G.calm hκ) h1 h.f h2 h3 h4 h5 (by rw[zjr,G.sc,hs.2]) (fse h.s) q.f
 |_=>AC
def zgg{a:AO}(h:nst a=AD):(match (generalizing:=false) a with | .Starred _ _=>AD|_=>AF)=false:=by
 revert h;cases a<;>intro h<;>first|rfl|cases h
def swD(so:BB)(x y:AM)(px py:Ba)(a b:AO):Bool:=(if so.kind.isAnnotationScope then DJ else so.kind)==.function&&so.names.lookup x==AA .local&&so.names.lookup y==AA .local&&py.line==px.line&&nst a&&nst b&&!(x==y)&&!(foldedForSure 8 a&&foldedForSure 8 b)&&!(constantsAlone 8 a&&constantsAlone 8 b)
def zjs{x y:AM}{px py pt pt2:Ba}{kt k2:Nat}{a b:AO}{env:Az}(h:swD env.scope x y px py a b=AD):
  swappedStores [.Tuple [.Name x px,.Name y py] kt pt] (.Tuple [a,b] k2 pt2) env=pure (AA [x,y]):=by
 erw[swD,AG,Bl]at h;let⟨⟨⟨⟨⟨⟨⟨⟨h1,h2⟩,h3⟩,h4⟩,h5⟩,h6⟩,h7⟩,h8⟩,h9⟩:=h;have k1:(env.blockKind != .function)=false:=by
  show (!((if env.scope.kind.isAnnotationScope then DJ else env.scope.kind)==.function))=AF;rw[h1];rfl
 have k2:env.kindOf x=AA .local:=eq_of_beq h2;have k3:env.kindOf y=AA .local:=eq_of_beq h3;have k4:py.line=px.line:=eq_of_beq h4;have k7:¬y=x:=λz=>by subst z;simp at h7
 have m1:=zgg h5;have m2:=zgg h6;have c8:¬(foldedForSure 8 a=AD/\foldedForSure 8 b=AD):=λz=>by rw[z.1,z.2]at h8;cases h8
 have c9:¬(constantsAlone 8 a=AD/\constantsAlone 8 b=AD):=λz=>by rw[z.1,z.2]at h9;cases h9
 have x1:(Expr.Name x px).pos=px:=rfl;have x2:(Expr.Name y py).pos=py:=rfl;unfold swappedStores;simp[k1,m1,m2,k2,k3,k4,List.eraseDups_cons,k7,x1,x2,c8,c9,Bo];intro z;exfalso;rcases z with z|z
 .exact Ah (m1.symm.trans z)
 .exact Ah (m2.symm.trans z)
def yeV(i j:Nat)(fa:∀x,Pr (YE γ κ x ca))(fb:∀x,Pr (YE γ κ x cb))(s:BS):Pr (YS γ κ s (.asg (.t [i,j]) (.tup (.cons ca (.cons cb .nil))))):=
 match s with
 |.Assign [.Tuple [.Name x px,.Name y py] _ _] (.Tuple [a,b] _ _) _=>hf κ λhκ=>an (ask (setB κ i x=AD/\setB κ j y=AD/\i≠j/\swD κ.sc x y px py a b=AD)) λh=>an (fa a) λha=>an (fb b) λhb=>ok λm S X G=>by
  let⟨h1,h2,h3,h4⟩:=h;have q:=zH G h1;have r:=zH G h2;have h5:=h4;erw[swD,AG]at h5;have e1:X.env.scope.names.lookup x=AA .local:=by rw[G.sc];exact eq_of_beq h5.1.1.1.1.1.1.1.2
  have e2:X.env.scope.names.lookup y=AA .local:=by rw[G.sc];exact eq_of_beq h5.1.1.1.1.1.1.2
  exact zhA (G.calm hκ) q.d q.i r.i h3 (zhv (G.calm hκ) q.d q.i r.i h3 e1 e2 (zE (ha m S X G) (zE (hb m S X G) zaK (zA h5.1.1.1.2)) (zA h5.1.1.1.1.2)) (zjs (by rw[G.sc];exact h4)))
 |_=>AC
theorem sw0{es:List AO}{k:Nat}{p:Ba}{a:AO}{env:Az}(h:ntu a=AD):swappedStores [.Tuple es k p] a env=pure none:=by
 cases a<;>first|rfl|cases h
theorem sw1{b c:AO}{p:Ba}{a:AO}{env:Az}:swappedStores [.Subscript b c p] a env=pure none:=by
 cases a<;>rfl
def zha{t a:AO}{l:Nat}{env:Az}(h:nco a=AD):swapsWithSole [t] a l env=pure false:=by
 show swapsWith a (AA t) l env=_;exact swp h
theorem asS{b c:AO}{pos:Ba}{env:Az}(h:nsl c=AD):∀v,assign (.Subscript b c pos) env v=(do
   let ov <-holding [v] (eval b env)
   let iv <-holding [v,ov] (eval c env)
   standAt pos
   holding [v,ov,iv] (setItem ov iv v)
   release [v,ov,iv] []):=by
 cases c<;>first|exact λ_=>rfl|cases h
def yfz(l:List Nat)(f:∀x,Pr (YE γ κ x ca))(s:BS):Pr (YS γ κ s (.asg (.t l) ca)):=
 match s with
 |.Assign [.Tuple es k p] a _=>an (ask (nco a=AD/\ntu a=AD)) λhs=>an (mTg (γ:=γ) (κ:=κ) (.t l) (.Tuple es k p)) λhg=>an (f a) λh=>ok λm S X G=>zgk (h m S X G) (hg m S X G) (zha hs.1) (sw0 hs.2)
 |_=>AC
def yfn(f:∀x,Pr (YE γ κ x cc))(fo:∀x,Pr (YE γ κ x ca))(fi:∀x,Pr (YE γ κ x cb))(s:BS):Pr (YS γ κ s (.six ca cb cc)):=
 match s with
 |.Assign [.Subscript b c _] a _=>an (ask (nco a=AD/\nsl c=AD)) λhs=>an (f a) λh=>an (fo b) λho=>an (fi c) λhi=>ok λm S X G=>zhr (h m S X G) (ho m S X G) (hi m S X G) (zha hs.1) sw1 (ze8 (ho m S X G) (hi m S X G) zck (asS hs.2))
 |_=>AC
def yeR(op:CQ)(o:BOp):Pr (∀S X,PIp X op (rT2 S X (yaH o))):=
 match op,o with
 |.Add,.add=>ok λ_ _=>zf4
 |.Mult,.mul=>ok λ_ _=>zfE
 |_,_=>AC
def yeO(i:Nat)(o:BOp)(f:∀x,Pr (YE γ κ x ca))(s:BS):Pr (YS γ κ s (.aug i o ca)):=
 match s with
 |.AugAssign (.Name x _) op a _=>an (ask (setB κ i x=AD)) λh=>an (yeR op o) λhp=>an (f a) λha=>ok λm S X G=>let q:=zH G h;zgM q.d q.i q.l (ha m S X G) (hp S X) q.f (zcf q.p) (zgf q.p)
 |_=>AC
def yeS(c:Ce)(f:∀x,Pr (YE γ κ x c))(s:BS):Pr (YS γ κ s (.ret c)):=
 match s with
 |.Return (AA a) _=>an (f a) λh=>ok λm S X G=>zin (h m S X G)
 |.Return AC _=>match c with
  |.cst .non=>ok λ_ _ _ _=>zgh
  |_=>AC
 |_=>AC
def sIf(fc:∀x,Pr (YT γ κ x cc))(fa:∀x,Pr (YSs γ κ x cs))(fb:∀x,Pr (YSs γ κ x cs'))(s:BS):Pr (YS γ κ s (.ite cc cs cs')):=
 match s with
 |.If c a b _=>an (fc c) λhc=>an (fa a) λha=>an (fb b) λhb=>ok λm S X G=>ziQ (hc m S X G) (ha m S X G) (hb m S X G)
 |_=>AC
def yfU(ct:Tg)(fi:∀tg l,Pr (YI γ κ tg l ci))(fb:∀x,Pr (YSs γ κ x cs))(s:BS):Pr (YS γ κ s (.for ct ci cs)):=
 match s with
 |.For tg l b [] _=>hf κ λhκ=>an (ask (κ.own=AD/\nse l=AD)) λho=>an (fi tg l) λhi=>an (mTg (γ:=γ) (κ:=κ) ct tg) λhg=>an (fb b) λhb=>ok λm S X G=>ziy (G.own ho.1).1 (G.calm hκ) (hi m S X G) (hg m S X G) (hb m S X G) (fse ho.2)
 |_=>AC
def sWh(fc:∀x,Pr (YT γ κ x cc))(fb:∀x,Pr (YSs γ κ x cs))(s:BS):Pr (YS γ κ s (.while cc cs)):=
 match s with
 |.While c b [] _=>an (ask (κ.own=AD)) λho=>an (fc c) λhc=>an (fb b) λhb=>ok λm S X G=>zer (G.own ho).1 (hc m S X G) (hb m S X G)
 |_=>AC
def yfK(c:Nat)(f:AM)(fo:∀x,Pr (YE γ κ x ca))(fv:∀x,Pr (YE γ κ x cb))(s:BS):Pr (YS γ κ s (.sfl c ca f cb)):=
 match s with
 |.Assign [.Attribute a g _] b _=>an (ask (g=f/\γ.fl c f=AD/\nco b=AD)) λh=>an (fo a) λha=>an (fv b) λhb=>ok λm S X G=>by
  let⟨rfl,h1,h2⟩:=h;exact zh8 (G.glo.A c g h1).1 (G.glo.A c g h1).2 (ha m S X G) (hb m S X G) (swp h2)
 |_=>AC
def yfr(c i:Nat)(f:AM)(j:Int)(fo:∀x,Pr (YE γ κ x (.var i)))(fv:∀x,Pr (YE γ κ x (.cst (.int j))))(s:BS):Pr (YS γ κ s (.sfl c (.var i) f (.bin .add (.fld c (.var i) f) (.cst (.int j))))):=
 match s with
 |.AugAssign (.Attribute a g _) .Add b _=>an (ask (g=f/\γ.fl c f=AD)) λh=>an (fo a) λha=>an (fv b) λhb=>ok λm S X G=>by
  let⟨rfl,h1⟩:=h;exact ziz (G.glo.A c g h1).1 (G.glo.A c g h1).2 (ha m S X G) (hb m S X G)
 |_=>AC
def yej(c:Nat)(o:Ce)(f:AM)(e:Ce)(O:Ev γ o)(E:Ev γ e)(s:BS):Pr (YS γ κ s (.sfl c o f e)):=
 match s with
 |.AugAssign t op b p=>match o,e with
  | .var i,.bin .add (.fld c' (.var i') f') (.cst (.int j))=>an (ask (c'=c/\i'=i/\f'=f)) λh=>an (yfr (γ:=γ) (κ:=κ) c i f j (λx=>ydM i x) (λx=>yec (.int j) x) (.AugAssign t op b p)) λq=>ok (by
    let⟨rfl,rfl,rfl⟩:=h;exact q)
  |_,_=>AC
 |s=>yfK c f (O.e κ) (E.e κ) s
end
mutual
noncomputable def chS(γ:Gs):(c:Cs)->(κ:Kx)->∀s,Pr (YS γ κ s c)
 |.expr e,κ=>yc4 ((ch γ e).e κ)
 |.asg (.n i) (.comp sl ct ci cc ce),κ=>ydu i sl ct (chi γ ci κ) (ch γ cc) (ch γ ce)
 |.asg (.n i) c,κ=>yd8 i ((ch γ c).e κ)
 |.asg (.t [i,j]) (.tup (.cons a (.cons b .nil))),κ=>yeV i j ((ch γ a).e κ) ((ch γ b).e κ)
 |.asg (.t l) c,κ=>yfz l ((ch γ c).e κ)
 |.six o i e,κ=>yfn ((ch γ e).e κ) ((ch γ o).e κ) ((ch γ i).e κ)
 |.aug i o e,κ=>yeO i o ((ch γ e).e κ)
 |.ret e,κ=>yeS e ((ch γ e).e κ)
 |.ite c a b,κ=>sIf ((ch γ c).t κ) (ybW γ a κ) (ybW γ b κ)
 |.for t it b,κ=>yfU t (chi γ it κ) (ybW γ b κ)
 |.while c b,κ=>sWh ((ch γ c).t κ) (ybW γ b κ)
 |.sfl c o f e,κ=>yej c o f e (ch γ o) (ch γ e)
 |_,_=>λ_=>AC
noncomputable def ybW(γ:Gs):(c:Css)->(κ:Kx)->∀s,Pr (YSs γ κ s c)
 |.nil,_,[]=>ok λ_ _ _ _=>zg8
 |.cons c cs,κ,s::ss=>an (chS γ c κ s) λh=>an (ybW γ cs κ ss) λhr=>ok λm S X G=>zfx (h m S X G) (hr m S X G)
 |_,_,_=>AC
end
inductive Dk where
 |fn|fd (ds:List Int)|me (c:Nat)|ini (c:Nat)
structure Df where
 gn:AM
 nm:AM
 q:AM
 st:BS
 N:List AM
 ps:List AM
 fn:IC.Fn
 k:Dk
def scB(N P:List AM)(sc:BB):Bool:=decide (sc.kind=.function)&&!sc.isCoroutine&&!sc.isGenerator&&decide N.Nodup&&decide (N.take P.length=P)&&P.all (ycI sc)&&sc.names.all λy=>y.2 != .free
def zfb{N P:List AM}{sc:BB}(h:scB N P sc=AD):yak N P sc:=by
 erw[scB,AG,decide_eq_true_eq,Bl,BL,bne_iff_ne,ne_eq]at h;let⟨⟨⟨⟨⟨⟨h1,h2⟩,h3⟩,h4⟩,h5⟩,h6⟩,h7⟩:=h;exact⟨h1,h2,h3,h4,h5,λx hx=>zcH (h6 x hx),h7⟩
def okD(γ:Gs)(d:Df):Bool:=scB d.N d.ps (yg d.st)&&decide (d.ps.length=d.fn.np)&&decide (d.N.length=d.fn.ns)&&(ybW γ d.fn.body ⟨d.N,yg d.st,AD,AF⟩ (yD d.st)).isSome
def ya9{α:Type}(P:α->Prop):List α->Prop
 |[]=>True
 |d::r=>P d/\ya9 P r
theorem ya9.get{α:Type}{P:α->Prop}:∀{l:List α},ya9 P l->∀d∈l,P d
 |_::_,h,d,hd=>by
  rcases Ab.1 hd with rfl|hd
  .exact h.1
  .exact h.2.get d hd
def yaV:List AM->(List AE->Prop)->Prop
 |[],P=>P []
 |_::r,P=>∀a,yaV r λus=>P (a::us)
theorem yaV.get:∀{ps:List AM} {P:List AE->Prop},yaV ps P->∀us,us.length=ps.length->P us
 |[],P,h,[],_=>h
 |_::r,P,h,a::us,e=>(h a).get us (by simpa using e)
def yaE(d:Df):Prop:=∀(kV doc pm:AE) (an:Option AH) (cdv ct:AE),yaV d.ps λus=>bindArgs (BD d.nm d.q (yK d.st) (yD d.st) (yg d.st) .none kV doc pm an cdv ct) ⟨us,[]⟩=pure (d.ps.zip us)
structure ybt(K:AB)(d:Df)(dv:AE)(f:AH)(fd:Al):Prop where
 ex:∃(oc:AE) (od:Option AH) (kV doc pm:AE) (an:Option AH) (cdv ct:AE) (osl:Array (Option AE)),
  fd=BD d.nm d.q (yK d.st) (yD d.st) (yg d.st) dv kV doc pm an cdv ct/\K.lookup f=AA ⟨oc,od,.func fd,osl⟩/\B5 K cdv d.q=AD
 kp:Ae K (.ref f)=AD
def At(K:AB)(cn:Nat->AM)(d:Df)(f:AH):Prop:=
 match d.k with
 |.fn=>As K mainGlobals d.gn=AA (AA (.ref f))/\yaE d
 |.fd _=>As K mainGlobals d.gn=AA (AA (.ref f))
 |.me c=>yaE d/\∃q,As K mainGlobals (cn c)=AA (AA (.ref q))/\A7 K (.ref q) d.nm=AA (AA (.ref f))/\CT K (.ref f)=AD
 |.ini c=>yaE d/\∃q,As K mainGlobals (cn c)=AA (AA (.ref q))/\A7 K (.ref q) d.nm=AA (AA (.ref f))/\CT K (.ref f)=AD/\Cj K q=AD/\Ae K (.ref q)=AD
def DvP(K:AB)(d:Df)(dv:AE):Prop:=
 match d.k with
 |.fd ds=>∃dT o its n,dv=.ref dT/\K.lookup dT=AA o/\o.data=.seq its n/\Vals (ds.map V.int) its.toList
 |_=>dv=.none
def yb6(K:AB)(cn:Nat->AM)(d:Df):Prop:=∃dv f fd,ybt K d dv f fd/\At K cn d f/\DvP K d dv
section
variable {K:AB}{cn:Nat->AM}{gn nm:AM}{st:BS}{N ps:List AM}{fn:IC.Fn}{f:AH}{oc:AE}{od:Option AH}{kV doc pm:AE}{an:Option AH}{cdv ct:AE}{osl:Array (Option AE)}
theorem rowFn(a:As K mainGlobals gn=AA (AA (.ref f)))(l:K.lookup f=AA ⟨oc,od,.func (BD nm nm (yK st) (yD st) (yg st) .none kV doc pm an cdv ct),osl⟩)
  (c:B5 K cdv nm=AD) (p:Ae K (.ref f)=AD) (b:yaE ⟨gn,nm,nm,st,N,ps,fn,.fn⟩):yb6 K cn ⟨gn,nm,nm,st,N,ps,fn,.fn⟩:=
 ⟨.none,f,_,⟨⟨oc,od,kV,doc,pm,an,cdv,ct,osl,rfl,l,c⟩,p⟩,⟨a,b⟩,rfl⟩
theorem rowFd{ds:List Int}{dT:AH}{o:B1}{its:Array AE}{n:Nat}(a:As K mainGlobals gn=AA (AA (.ref f)))(l:K.lookup f=AA ⟨oc,od,.func (BD nm nm (yK st) (yD st) (yg st) (.ref dT) kV doc pm an cdv ct),osl⟩)
  (c:B5 K cdv nm=AD) (p:Ae K (.ref f)=AD) (d:K.lookup dT=AA o) (e:o.data=.seq its n) (v:Vals (ds.map V.int) its.toList):yb6 K cn ⟨gn,nm,nm,st,N,ps,fn,.fd ds⟩:=
 ⟨.ref dT,f,_,⟨⟨oc,od,kV,doc,pm,an,cdv,ct,osl,rfl,l,c⟩,p⟩,a,dT,o,its,n,rfl,d,e,v⟩
theorem rowMe{qn:AM}{cc:Nat}{q:AH}(z:As K mainGlobals (cn cc)=AA (AA (.ref q)))(a:A7 K (.ref q) nm=AA (AA (.ref f)))(i:CT K (.ref f)=AD)(l:K.lookup f=AA ⟨oc,od,.func (BD nm qn (yK st) (yD st) (yg st) .none kV doc pm an cdv ct),osl⟩)
  (c:B5 K cdv qn=AD) (p:Ae K (.ref f)=AD) (b:yaE ⟨gn,nm,qn,st,N,ps,fn,.me cc⟩):yb6 K cn ⟨gn,nm,qn,st,N,ps,fn,.me cc⟩:=
 ⟨.none,f,_,⟨⟨oc,od,kV,doc,pm,an,cdv,ct,osl,rfl,l,c⟩,p⟩,⟨b,q,z,a,i⟩,rfl⟩
theorem rowIni{qn:AM}{cc:Nat}{q:AH}(z:As K mainGlobals (cn cc)=AA (AA (.ref q)))(a:A7 K (.ref q) nm=AA (AA (.ref f)))(i:CT K (.ref f)=AD)(l:K.lookup f=AA ⟨oc,od,.func (BD nm qn (yK st) (yD st) (yg st) .none kV doc pm an cdv ct),osl⟩)
  (c:B5 K cdv qn=AD) (p:Ae K (.ref f)=AD) (b:yaE ⟨gn,nm,qn,st,N,ps,fn,.ini cc⟩) (mk:Cj K q=AD) (kq:Ae K (.ref q)=AD):yb6 K cn ⟨gn,nm,qn,st,N,ps,fn,.ini cc⟩:=
 ⟨.none,f,_,⟨⟨oc,od,kV,doc,pm,an,cdv,ct,osl,rfl,l,c⟩,p⟩,⟨b,q,z,a,i,mk,kq⟩,rfl⟩
theorem gdf_mk{w:A8}{h:Aq}{mg:AM->Option AE}{x:AM}{D:List (AM×Nat)}{fa:Nat->AH}{y:AH}{es:Array Be}{ep:Nat}(X:K.In h)(G:h.Ns mainGlobals mg)(a:As K mainGlobals x=AA (AA (.ref y)))(l:K.lookup y=AA ⟨.type "dict",AC,.dict es ep,#[]⟩)
  (r:ybv w fa D es.toList) (n:(D.map (·.1)).Nodup):GDF K w mg fa x D:=⟨y,es,ep,D0 X G a,l,r,n⟩
theorem gd_mk{w:A8}{h:Aq}{mg:AM->Option AE}{x:AM}{D:List (AM×PV)}{cl:Nat->AH}{y:AH}{es:Array Be}{ep:Nat}(X:K.In h)(G:h.Ns mainGlobals mg)(a:As K mainGlobals x=AA (AA (.ref y)))(l:K.lookup y=AA ⟨.type "dict",AC,.dict es ep,#[]⟩)
  (s:(y==sysModules)=AF) (r:ybx K cl w D es.toList) (n:(D.map (·.1)).Nodup):GD K w mg cl x D:=⟨y,es,ep,D0 X G a,l,s,r,n⟩
end
abbrev KoV(K:AB)(v:PV)(u:AE):Prop:=∃x:V,RelV x u/\∀cl B φ H,yc K cl B φ H v x
abbrev KoL(K:AB)(vs:List PV)(us:List AE):Prop:=∃xs:List V,Vals xs us/\∀cl B φ H,ye K cl B φ H vs xs
mutual
noncomputable def ydG(K:AB):(v:PV)->(u:AE)->Pr (KoV K v u)
 |.int i,.int j t=>an (ask (i=j)) λh=>ok ⟨.int i,⟨t,by rw[h]⟩,λ_ _ _ _=>by erw[yc]⟩
 |.str i,.str j t=>an (ask (i=j)) λh=>ok ⟨.str i,⟨t,by rw[h]⟩,λ_ _ _ _=>by erw[yc]⟩
 |.tp AD vs,.ref a=>match h:K.lookup a with
  |some ⟨c,_,.seq its n,_⟩=>an (ask (c=.type "tuple"/\its.size<=sizeLine)) λq=>an (ycf K vs its.toList) λr=>ok (by
    let⟨xs,r1,r2⟩:=r;refine⟨.ref a,rfl,λcl B φ H=>?_⟩;erw[yc];exact⟨a,xs,rfl,.inr ⟨rfl,_,its,n,h,q.1,rfl,q.2,r1⟩,r2 cl B φ H⟩)
  |_=>AC
 |_,_=>AC
noncomputable def ycf(K:AB):(vs:List PV)->(us:List AE)->Pr (KoL K vs us)
 |[],[]=>ok ⟨[],.nil,λ_ _ _ _=>by erw[ye]⟩
 |v::vs,u::us=>an (ydG K v u) λh=>an (ycf K vs us) λr=>ok (by
   let⟨x,h1,h2⟩:=h;let⟨xs,r1,r2⟩:=r;refine⟨x::xs,.cons h1 r1,λcl B φ H=>?_⟩;erw[ye];exact⟨x,xs,rfl,h2 cl B φ H,r2 cl B φ H⟩)
 |_,_=>AC
end
theorem con_row{K:AB}{cl:Nat->AH}{w:A8}{k:AM}{v:PV}{tk:GT}{u:AE}{D:List (AM×PV)}{es:List Be}(c:(ydG K v u).isSome=AD)(h:ybx K cl w D es):ybx K cl w ((k,v)::D) (⟨DI w.params k,.str k tk,u⟩ :: es):=by
 let⟨⟨x,r,q⟩,_⟩:=A6.1 c;exact .cons r (q cl) h
theorem frow_cons{w:A8}{fa:Nat->AH}{k:AM}{i:Nat}{tk:GT}{a:AH}{D:List (AM×Nat)}{es:List Be}(e:fa i=a)(h:ybv w fa D es):ybv w fa ((k,i)::D) (⟨DI w.params k,.str k tk,.ref a⟩ :: es):=by
 subst e;exact .cons h
structure Tb where
 tbl:List Df
 al:List (AM×GK)
 bs:List AM
 ts:List Ty
 fl:List (Nat×AM)
 me:List ((Nat×AM)×Nat)
 kb:List ((Nat×Nat×List AM)×List (Option Int))
 cn:List (Nat×AM)
 dd:List (AM×List (AM×PV))
 ml:List (AM×List (AM×Nat))
 xs:List (Nat×Ty)
 xc:List (Nat×AM)
 xm:List (Nat×AM)
 qh:List AM
abbrev eF(x:AM)(i:Nat):AM×GK:=(x,.fn i)
abbrev eC(x:AM)(v:PV):AM×GK:=(x,.cst v)
abbrev eG(x:AM)(g:GK):AM×GK:=(x,g)
abbrev eN(c:Nat)(x:AM):Nat×Str:=(c,x)
def tyE:Ty->Ty->Bool
 |.int,.int=>AD
 |.bool,.bool=>AD
 |.str,.str=>AD
 |.tuple,.tuple=>AD
 |.list,.list=>AD
 |_,_=>AF
def zh7{a b:Ty}(h:tyE a b=AD):a=b:=by
 cases a<;>cases b<;>first|rfl|cases h
def tyX:Ty->Ty->Bool
 |.cls a,.cls b=>a==b
 |.val,.val=>AD
 |_,_=>AF
def ziu{a b:Ty}(h:tyX a b=AD):a=b:=by
 cases a<;>cases b<;>first|rfl|(cases h;done)|(rw[eq_of_beq (show _=AD from h)])
def Tb.gs(t:Tb):Gs:=⟨λx=>t.al.lookup x,λx=>t.bs.contains x,λy=>t.ts.any (tyE y),λc f=>t.fl.contains (c,f),λc n=>t.me.lookup (c,n),λi n ks=>t.kb.lookup (i,n,ks),λx=>t.ml.lookup x,λx i=>decide (t.cn.lookup (1000+i)=AA x),λc y=>t.xs.any λp=>p.1==c&&tyX p.2 y,λd x=>t.xc.contains (d,x),λc x=>t.xm.contains (c,x),λi=>match t.tbl[i]? with
 |some d=>t.qh.contains d.gn
 |none=>AF⟩
def nmA(K:AB)(x:AM):Option Addr:=match As K mainGlobals x with
 |some (AA (.ref q))=>AA q
 |_=>AC
def clA(K:AB)(t:Tb)(c:Nat):Addr:=((t.cn.lookup c).bind (nmA K)).getD 0
def cnm(t:Tb)(c:Nat):Str:=(t.cn.lookup c).getD ""
def faA(K:AB)(t:Tb)(i:Nat):Addr:=match t.tbl[i]? with
 |some d=>match d.k with
  |.fn=>(nmA K d.gn).getD 0
  |.fd _=>(nmA K d.gn).getD 0
  |.me c=>match A7 K (.ref (clA K t c)) d.nm with
   |some (AA (.ref f))=>f
   |_=>0
  |.ini c=>match A7 K (.ref (clA K t c)) d.nm with
   |some (AA (.ref f))=>f
   |_=>0
 |none=>0
def ybX:Dk->Bool
 |.fn=>AD
 |_=>AF
def yc2:Dk->Bool
 |.fd _=>AD
 |_=>AF
def yeH:PV->Bool
 |.int _=>AD
 |.tp _ _=>AD
 |_=>AF
def alB(K:AB)(t:Tb):AM×GK->Bool
 |(x,.fn i)=>match t.tbl[i]? with
  |some d=>ybX d.k&&(decide (x=d.gn) || decide (nmA K x=nmA K d.gn))
  |none=>AF
 |(x,.fnD i)=>match t.tbl[i]? with
  |some d=>yc2 d.k&&(decide (x=d.gn) || decide (nmA K x=nmA K d.gn))
  |none=>AF
 |(x,.cst v)=>yeH v&&match As K mainGlobals x with
  |some (AA u)=>(ydG K v u).isSome
  |_=>AF
 |(x,.dct d)=>t.dd.any λp=>decide (p.1=x)&&(eqD p.2 d).isSome
 |(x,.exc c)=>decide (t.cn.lookup c=AA x)&&(nmA K x).any λq=>E3 K q [.type "ValueError",.type "Exception",.type "BaseException",.type "object"] "ValueError.__new__"
 |(x,.cls c i)=>decide (t.cn.lookup c=AA x)&&(nmA K x).isSome&&match t.tbl[i]? with
  |some d=>match d.k with
   |.ini c'=>decide (c'=c)&&decide (d.nm="__init__")
   |_=>AF
  |none=>AF
def ydI(K:AB)(t:Ty):Bool:=
 decide (Ay K (.type "NoneType") (.type (tyN t))=AA (yaJ .non t))&&decide (Ay K (.type "bool") (.type (tyN t))=AA (yaJ (.bl AD) t))&&decide (Ay K (.type "int") (.type (tyN t))=AA (yaJ (.int 0) t))&&decide (Ay K (.type "str") (.type (tyN t))=AA (yaJ (.str FE) t))&&decide (Ay K (.type "tuple") (.type (tyN t))=AA (yaJ (.tp AD []) t))&&decide (Ay K (.type "list") (.type (tyN t))=AA (yaJ (.lst []) t))
def ycQ(K:AB)(q:AH):Bool:=C6 K q FE&&CS K q&&DQ K q&&decide (A7 K (.ref q) "__setattr__"=AA (AA (.builtin "object.__setattr__")))
def zcL{K:AB}{q:AH}(h:ycQ K q=AD):Cls K q:=by
 erw[ycQ,AG,decide_eq_true_eq]at h;exact⟨h.1.1.1,h.1.1.2,h.1.2,h.2⟩
def ydm(K:AB)(q:AH):Bool:=decide (A7 K (.ref q) "__getattribute__"=AA (AA (.builtin "BaseException.__getattribute__")))&&decide (A7 K (.ref q) "__getattr__"=AA AC)&&decide (A7 K (.ref q) "__class__"=AA (AA (.builtin "object.__class__")))&&decide (F8 K (.ref q) (.type "BaseException")=AA AD)&&decide (F9 K q (.type "object")=AA AD)&&(Fa K q).isSome
def zfF{K:AB}{q:AH}(h:ydm K q=AD):ydo K q:=by
 erw[ydm,AG,decide_eq_true_eq]at h;let⟨⟨⟨⟨⟨h1,h2⟩,h3⟩,h4⟩,h5⟩,h6⟩:=h;exact⟨h1,h2,h3,h4,h5,A6.1 h6⟩
def yd1(K:AB)(t:Tb):Bool:=
 t.xs.all (λp=>ydm K (clA K t p.1)&&decide (Ay K (.ref (clA K t p.1)) (tyZ (clA K t) p.2)=AA (yaJ (.exn p.1) p.2))) &&
  t.xc.all (λp=>decide (t.cn.lookup p.1=AA p.2)&&(nmA K p.2).isSome) &&
  t.xm.all λp=>(nmA K p.2).any λW=>decide (F5 K (.ref (clA K t p.1)) (.ref W)=AA AD)
def yco(K:AB)(t:Tb):Bool:=
 t.al.all (alB K t)&&t.bs.all (λx=>decide (As K mainGlobals x=AA AC))&&t.ts.all (ydI K) &&
  t.fl.all (λp=>(t.cn.lookup p.1).isSome&&(nmA K (cnm t p.1)).any λq=>ycQ K q&&decide (A7 K (.ref q) p.2=AA AC)) &&
  t.me.all (λp=>(t.cn.lookup p.1.1).isSome&&(nmA K (cnm t p.1.1)).any λq=>ycQ K q&&match t.tbl[p.2]? with
   |some d=>(match d.k with
    |.me c=>decide (c=p.1.1)
    |_=>AF)&&decide (d.nm=p.1.2)
   |none=>AF) &&
  t.ml.all λp=>p.2.all λq=>match t.tbl[q.2]? with
   |some d=>ybX d.k
   |none=>AF
def ydj(K:AB)(t:Tb):Bool:=yco K t&&yd1 K t
def fd0:FuncData:=BD "" "" (yK (.Pass ⟨0,0,0,0⟩)) [] (yg (.Pass ⟨0,0,0,0⟩)) .none .none .none .none AC .none .none
def fdA(K:AB)(t:Tb)(i:Nat):FuncData:=match K.lookup (faA K t i)with
 |some ⟨_,_,.func fd,_⟩=>fd
 |_=>fd0
def psA(t:Tb)(i:Nat):List Str:=match t.tbl[i]? with
 |some d=>d.ps
 |none=>[]
theorem lkm{α β:Type}[BEq α][LawfulBEq α]{x:α}{k:β}:∀{l:List (α×β)},l.lookup x=AA k->(x,k)∈l
 |[],h=>nomatch h
 |y::l,h=>by
  rw[BK]at h
  cases hx:x==y.1 with
  |true=>rw[hx]at h;cases h;rw[eq_of_beq hx];exact Ag
  |false=>rw[hx]at h;exact AS _ (lkm h)
def KbP(t:Tb)(p:(Nat×Nat×List AM)×List (Option Int)):Prop:=∀d ds,t.tbl[p.1.1]?=AA d->d.k=.fd ds->∀(K:AB) (mg:AM->Option AE) (f:AH) (fd:Al),FnD K mg d.nm d.st d.ps ds f fd->∃g,yaX K fd d.ps p.1.2.2 g (gK p.1.2.1 p.2)
structure Fact(t:Tb)(w:A8)(K:AB)(mg:AM->Option AE):Prop where
 X:∀x u,As K mainGlobals x=AA u->mg x=u
 R:ya9 (yb6 K (cnm t)) t.tbl
 B:ydj K t=AD
 D:ya9 (λp=>∀cl,GD K w mg cl p.1 p.2) t.dd
 Kb:ya9 (KbP t) t.kb
 Ml:ya9 (λp=>GDF K w mg (faA K t) p.1 p.2) t.ml
def zif{K:AB}{x:AM}{q:AH}(h:nmA K x=AA q):As K mainGlobals x=AA (AA (.ref q)):=by
 unfold nmA at h;split at h
 .cases h;assumption
 .cases h
def zQ{K:AB}{x:AM}{q:AH}(h:As K mainGlobals x=AA (AA (.ref q))):nmA K x=AA q:=by
 erw[nmA,h]
def zca{K:AB}{t:Tb}{c:Nat}{q:AH}(h:nmA K (cnm t c)=AA q)(hc:(t.cn.lookup c).isSome=AD):clA K t c=q:=by
 let⟨x,e⟩:=A6.1 hc;erw[clA,e,Am];erw[cnm,e,Ax]at h;rw[h];rfl
def okH(t:Tb)(d:Df):Bool:=(ybW t.gs d.fn.body ⟨d.N,yg d.st,AF,AD⟩ (yD d.st)).isSome&&!d.fn.pure&&ybX d.k
def okT(t:Tb)(d:Df):Bool:=okD t.gs d&&(!t.qh.contains d.gn || okH t d)&&match d.k with
 |.fn=>AD
 |.fd _=>decide (d.q=d.nm)
 |.me c=>(t.cn.lookup c).isSome
 |.ini c=>(t.cn.lookup c).isSome&&decide (d.nm="__init__")
section
variable {t:Tb}{w:A8}{K:AB}{mg:AM->Option AE}{T:Nat->Option IC.Fn}{P:A1}{base:Aq}{k:Nat}
def zaa(F:Fact t w K mg)(O:∀d∈t.tbl,okT t d=AD){i:Nat}{d:Df}(h:t.tbl[i]?=AA d):∃dv fd,ybt K d dv (faA K t i) fd/\At K (cnm t) d (faA K t i)/\DvP K d dv:=by
 have hm:=AV h;let⟨dv,f,fd,h1,h2,h3⟩:=F.R.get d hm;have e:f=faA K t i:=by
  have o:=O d hm;erw[okT,AG]at o;have o:=o.2;erw[faA,h];unfold At at h2
  cases q:d.k with
  |fn=>
   rw[q]at h2;erw[zQ h2.1,Ax]
  |fd ds=>
   rw[q]at h2;have h2:As K mainGlobals d.gn=AA (AA (.ref f)):=h2;erw[zQ h2,Ax]
  |me c=>
   rw[q]at h2 o;let⟨_,q',e1,e2,_⟩:=h2;erw[zca (zQ e1) o,e2]
  |ini c=>
   rw[q]at h2 o;let⟨_,q',e1,e2,_⟩:=h2;erw[AG]at o;erw[zca (zQ e1) o.1,e2]
 subst e;exact⟨dv,fd,h1,h2,h3⟩
theorem ybt.binds{d:Df}{f:AH}{fd:Al}(R:ybt K d .none f fd)(b:yaE d):Binds K fd d.ps []:=
 Fun.binds ⟨R.ex,R.kp⟩ λkV doc pm an cdv ct us hl=>(b kV doc pm an cdv ct).get us hl
theorem ybt.ok{d:Df}{dv:AE}{f:AH}{fd:Al}{fi m:Nat}{cl:Nat->AH}(R:ybt K d dv f fd)(hT:T fi=AA d.fn)(Sc:yak d.N d.ps (yg d.st))(hnp:d.ps.length=d.fn.np)(hns:d.N.length=d.fn.ns)
  (body:∀(cdv:AE) (A:A9) (outer:List Az) (s:AI) (H:Hp) (E:XK),yaj m (A.deeper (envOfC d.q (yg d.st) s.heap.objs.size f cdv)) ->
   PSs (yap (CX1 P w) P w K mg base d.N d.q (yg d.st) f cdv A outer s H E) (yD d.st) (tSs ⟨cl,yd T k,AD⟩ (yap (CX1 P w) P w K mg base d.N d.q (yg d.st) f cdv A outer s H E) d.fn.body)):
  yav P w K mg base (CX1 P w) (m+1) f fd d.ps (spI K cl (yd T (k+1)) fi):=by
 let⟨oc,od,kV,doc,pm,an,cdv,ct,osl,rfl,lk,hcd⟩:=R.ex;exact ziS lk hcd Sc (λvs H Q E h=>ze5 hT hnp h) λA outer s H vs Q E hr h=>⟨_,body cdv A outer s H E hr,zfL hT hns h⟩
def Fn2(t:Tb)(P:A1)(w:A8)(K:AB)(mg:AM->Option AE)(base:Aq)(T:Nat->Option IC.Fn)(k:Nat):Prop:=
 ∀i d dv fd,t.tbl[i]?=AA d->ybt K d dv (faA K t i) fd->yav P w K mg base (CX1 P w) (2*k) (faA K t i) fd d.ps (spI K (clA K t) (yd T k) i)
def FnH(t:Tb)(P:A1)(w:A8)(K:AB)(mg:AM->Option AE)(base:Aq)(T:Nat->Option IC.Fn)(k:Nat):Prop:=
 ∀i d fd,t.tbl[i]?=AA d->t.qh.contains d.gn=AD->ybt K d .none (faA K t i) fd->ybi P w K mg base (2*k) (faA K t i) fd d.ps (spI K (clA K t) (yd T k) i)
def zbV(F:Fact t w K mg)(O:∀d∈t.tbl,okT t d=AD)(C:Fn2 t P w K mg base T k)(CH:FnH t P w K mg base T k){N:List AM}{q:AM}{sc:BB}{f:AH}{cdv:AE}{A:A9}{outer:List Az}{s:AI}{H:Hp}{E:XK}:
  Glo t.gs (2*k) ⟨clA K t,yd T k,AD⟩ (yap (CX1 P w) P w K mg base N q sc f cdv A outer s H E):=by
 have B:=F.B;erw[ydj,AG]at B;let⟨B,B2⟩:=B;erw[yco,AG,BL]at B;erw[yd1,AG,BL]at B2;let⟨⟨⟨⟨⟨b1,b2⟩,b3⟩,b4⟩,b5⟩,b6⟩:=B;let⟨⟨b7,b8⟩,b9⟩:=B2;have mgr:∀{x:AM} {a:AH},nmA K x=AA a->mg x=AA (.ref a):=λh=>F.X _ _ (zif h);have same:∀{x y:AM} {a:AH},(decide (x=y) || decide (nmA K x=nmA K y))=AD->nmA K y=AA a->nmA K x=AA a:=λ{x y a} h e=>by
  erw[Bv,decide_eq_true_eq]at h;rcases h with rfl|h
  .exact e
  .rw[h];exact e
 refine⟨λx i h=>?_,λx i np ks sh h hk=>?_,λx v h=>?_,λx d h=>?_,λx c h=>?_,λx c i h=>?_,λx h=>?_,λy h=>?_,λc n h=>?_,λc n i h=>?_,λy D h=>?_,λx i h hv=>?_,λc y h=>?_,λd x h=>?_,λc x h=>?_,λx i h hq=>?_⟩
 .have q:=b1 _ (lkm h);erw[alB]at q;split at q
  .rename_i d hd;erw[AG]at q;let⟨dv,fd,r1,r2,r3⟩:=zaa F O hd;have hk:d.k=.fn:=by cases e:d.k<;>rw[e]at q<;>first|rfl|cases q.1
   erw[At,hk]at r2;erw[DvP,hk]at r3;subst r3;exact⟨_,fd,d.ps,C i d _ fd hd r1,mgr (same q.2 (zQ r2.1)),r1.kp,r1.binds r2.2⟩
  .cases q
 .have q:=b1 _ (lkm h);erw[alB]at q;split at q
  .rename_i d hd;erw[AG]at q;let⟨dv,fd,r1,r2,r3⟩:=zaa F O hd;obtain⟨ds,hk'⟩:∃ds,d.k=.fd ds:=by cases e:d.k<;>rw[e]at q<;>first|exact⟨_,rfl⟩|cases q.1
   erw[At,hk']at r2;erw[DvP,hk']at r3;let⟨dT,o,its,n,rfl,e1,e2,e3⟩:=r3;have oo:=O d (AV hd);erw[okT,hk',AG,decide_eq_true_eq]at oo;have D:FnD K (λ_=>AA (.ref (faA K t i))) d.nm d.st d.ps ds (faA K t i) fd:=by
    let⟨oc,od,kV,doc,pm,an,cdv,ct,osl,z1,z2,z3⟩:=r1.ex;rw[oo.2]at z1 z3;exact⟨⟨oc,od,dT,kV,doc,pm,an,cdv,ct,osl,o,its,n,z1,z2,z3,e1,e2,e3⟩,r1.kp,rfl⟩
   exact⟨_,fd,d.ps,C i d _ fd hd r1,mgr (same q.2 (zQ r2)),r1.kp,F.Kb.get _ (lkm hk) d ds hd hk' K _ _ _ D⟩
  .cases q
 .have q:=b1 _ (lkm h);erw[alB,AG]at q;let⟨q0,q⟩:=q;split at q
  .rename_i u hu;let⟨⟨y,r,z⟩,_⟩:=A6.1 q;have hm:=F.X _ _ hu
   cases v with
   |int i=>
    have z:=z (λ_=>0) (λ_=>False) [] (λ_=>AC);erw[yc]at z;subst z;let⟨tk,rfl⟩:=r;exact .inr ⟨i,rfl,tk,hm⟩
   |tp b vs=>
    have z0:=z (λ_=>0) (λ_=>False) [] (λ_=>AC);erw[yc]at z0;let⟨a,xs,rfl,_⟩:=z0;have r:u=.ref a:=r;subst r;exact .inl ⟨a,hm,λB φ H=>z _ B φ H⟩
   |_=>cases q0
  .cases q
 .have q:=b1 _ (lkm h);erw[alB,Ca,AG,decide_eq_true_eq]at q;let⟨p,hp,rfl,q⟩:=q;let⟨⟨e⟩,_⟩:=A6.1 q;rw[<-e];exact F.D.get p hp _
 .have q:=b1 _ (lkm h);erw[alB,AG,decide_eq_true_eq,CF]at q;let⟨q1,q2,q3⟩:=q;let⟨a,ha⟩:=A6.1 q2;have e:clA K t c=a:=by erw[clA,q1,Am,ha,Ax]
  erw[ha,Dt]at q3;exact⟨by show mg x=AA (.ref (clA K t c));rw[e];exact mgr ha,by show E3 K (clA K t c) _ _=AD;rw[e];exact q3⟩
 .have q:=b1 _ (lkm h);erw[alB,AG,decide_eq_true_eq]at q;let⟨⟨q1,q2⟩,q3⟩:=q;let⟨a,ha⟩:=A6.1 q2;have e:clA K t c=a:=by erw[clA,q1,Am,ha,Ax]
  split at q3
  .rename_i d hd
   cases hk:d.k with
   |ini c'=>
    rw[hk]at q3;erw[AG,decide_eq_true_eq]at q3;let⟨rfl,hn⟩:=q3;let⟨dv,fd,r1,r2,r3⟩:=zaa F O hd;erw[At,hk]at r2;erw[DvP,hk]at r3;subst r3;let⟨r0,q',r4,r5,r6,r7,r8⟩:=r2;have e2:q'=a:=by
     have:nmA K (cnm t c')=AA q':=zQ r4;erw[cnm,q1,Ax,ha]at this;exact(AW this).symm
    subst e2;rw[hn]at r5;refine⟨by show mg x=AA (.ref (clA K t c'));rw[e];exact mgr ha,_,fd,d.ps,?_,C i d _ fd hd r1,r1.binds r0⟩;show Mk K (clA K t c') _;rw[e];exact⟨r7,r5,r6,r8⟩
   |_=>rw[hk]at q3;cases q3
  .cases q3
 .have q:x∈t.bs:=by simpa [Tb.gs] using h
  have:=b2 x q;erw[decide_eq_true_eq]at this;exact F.X _ _ this
 .simp only[Tb.gs,Ca]at h;let⟨y',hy,e⟩:=h;have:=zh7 e;subst this;have q:=b3 y hy;erw[ydI,AG,decide_eq_true_eq]at q;exact⟨q.1.1.1.1.1,q.1.1.1.1.2,q.1.1.1.2,q.1.1.2,q.1.2,q.2⟩
 .have q:(c,n)∈t.fl:=by simpa [Tb.gs] using h
  have q:=b4 _ q;erw[AG,CF,decide_eq_true_eq]at q;let⟨q1,q2,q3⟩:=q;let⟨a,ha⟩:=A6.1 q2;erw[ha,Dt]at q3;have e:clA K t c=a:=zca ha q1;show Cls K (clA K t c)/\yU K (clA K t c) n;rw[e];exact⟨zcL q3.1,q3.2⟩
 .have q:=b5 _ (lkm h);erw[AG,CF,decide_eq_true_eq]at q;let⟨q1,q2,q3,q4⟩:=q;let⟨a,ha⟩:=A6.1 q2;erw[ha,Dt]at q3;have e:clA K t c=a:=zca ha q1;split at q4
  .rename_i d hd;erw[AG,decide_eq_true_eq]at q4;let⟨q4,hn⟩:=q4
   cases hk:d.k with
   |me c'=>
    rw[hk]at q4;have q4:c'=c:=by simpa using q4
    subst q4;let⟨dv,fd,r1,r2,r3⟩:=zaa F O hd;erw[At,hk]at r2;erw[DvP,hk]at r3;subst r3;let⟨r0,q',r4,r5,r6⟩:=r2;have e2:q'=a:=AW ((zQ r4).symm.trans ha);subst e2;refine⟨by show Cls K (clA K t c');rw[e];exact zcL q3,_,fd,d.ps,?_,C i d _ fd hd r1,r1.binds r0⟩;show Meth K (clA K t c') n _;rw[e,<-hn];exact⟨r5,r6,r1.kp⟩
   |_=>rw[hk]at q4;cases q4
  .cases q4
 .have q:=b6 _ (lkm h);have g:∀s j,D.lookup s=AA j->∃d dv fd,t.tbl[j]?=AA d/\ybt K d dv (faA K t j) fd/\dv=.none/\yaE d/\fd=fdA K t j/\d.ps=psA t j:=λs j hj=>by
   have q:=q _ (lkm hj);split at q
   .rename_i d hd;let⟨dv,fd,r1,r2,r3⟩:=zaa F O hd;have hk:d.k=.fn:=by cases e:d.k<;>rw[e]at q<;>first|rfl|cases q
    erw[At,hk]at r2;erw[DvP,hk]at r3;let⟨oc,od,kV,doc,pm,an,cdv,ct,osl,_,lk,_⟩:=r1.ex;exact⟨d,dv,fd,hd,r1,r3,r2.2,by erw[fdA,lk],by erw[psA,hd]⟩
   .cases q
  refine⟨faA K t,fdA K t,psA t,⟨λs j hj=>?_,λs j hj=>?_,λs j hj=>?_⟩,F.Ml.get _ (lkm h)⟩
  .let⟨d,dv,fd,h1,h2,h3,h4,h5,h6⟩:=g s j hj;rw[<-h5,<-h6];exact C j d dv fd h1 h2
  .let⟨d,dv,fd,h1,h2,h3,h4,h5,h6⟩:=g s j hj;exact h2.kp
  .let⟨d,dv,fd,h1,h2,h3,h4,h5,h6⟩:=g s j hj;subst h3;rw[<-h5,<-h6];exact h2.binds h4
 .have q:=b1 _ (lkm h);erw[alB]at q;split at q
  .rename_i d hd;erw[AG]at q;let⟨dv,fd,r1,r2,r3⟩:=zaa F O hd;have hk:d.k=.fn:=by cases e:d.k<;>rw[e]at q<;>first|rfl|cases q.1
   erw[At,hk]at r2;have hn:=same q.2 (zQ r2.1);have e:t.cn.lookup (1000+i)=AA x:=of_decide_eq_true hv;have z:clA K t (1000+i)=faA K t i:=by erw[clA,e,Am,hn,Ax]
   show mg x=AA (.ref (clA K t (1000+i)));rw[z];exact mgr hn
  .cases q
 .let⟨p,hp,q⟩:=Ca.1 h;erw[AG,beq_iff_eq]at q;let⟨rfl,q⟩:=q;have:=ziu q;subst this;have b:=b7 p hp;erw[decide_eq_true_eq]at b;exact⟨zfF b.1,b.2⟩
 .have b:=b8 _ (EB.1 h);erw[decide_eq_true_eq]at b;let⟨a,ha⟩:=A6.1 b.2;have e:clA K t d=a:=by erw[clA,b.1,Am,ha,Ax]
  show mg x=AA (.ref (clA K t d));rw[e];exact mgr ha
 .have b:=b9 _ (EB.1 h)
  cases ha:nmA K x with
  |none=>rw[ha]at b;cases b
  |some W=>
   rw[ha]at b;exact⟨W,mgr ha,of_decide_eq_true b⟩
 .have q:=b1 _ (lkm h);erw[alB]at q;split at q
  .rename_i d hd;erw[AG]at q;let⟨dv,fd,r1,r2,r3⟩:=zaa F O hd;have hk:d.k=.fn:=by cases e:d.k<;>rw[e]at q<;>first|rfl|cases q.1
   erw[At,hk]at r2;erw[DvP,hk]at r3;subst r3;have hq:t.qh.contains d.gn=true:=by simpa only[Tb.gs,hd] using hq
   exact⟨_,fd,d.ps,CH i d fd hd hq r1,mgr (same q.2 (zQ r2.1)),r1.kp,r1.binds r2.2⟩
  .cases q
def zdP(F:Fact t w K mg)(O:∀d∈t.tbl,okT t d=AD)(hT:∀i d,t.tbl[i]?=AA d->T i=AA d.fn):∀k,Fn2 t P w K mg base T k/\FnH t P w K mg base T k
 |0=>⟨λi d dv fd _ _=>zeU,λi d fd _ _ _=>zdX⟩
 |k+1=>by
  have ih:=zdP F O hT k;refine⟨λi d dv fd h R=>?_,λi d fd h hq R=>?_⟩
  .have o:=O d (AV h);erw[okT,okD,AG,decide_eq_true_eq]at o;let⟨⟨⟨⟨⟨o1,o2⟩,o3⟩,o4⟩,_⟩,_⟩:=o;let⟨⟨y⟩,_⟩:=A6.1 o4;exact R.ok (m:=2*k+1) (hT i d h) (zfb o1) o2 o3 λ_ _ _ _ _ _ hr=>y (2*k) _ _ ⟨rfl,rfl,λ_=>rfl,hr.h,λ_=>hr.hd,λ_=>⟨own1,λ_=>rfl,rfl⟩,λ_=>⟨⟨_,rfl⟩,rfl,rfl⟩,zbV F O ih.1 ih.2⟩
  .have o:=O d (AV h);erw[okT,okD,AG,decide_eq_true_eq]at o;let⟨⟨⟨⟨⟨o1,o2⟩,o3⟩,_⟩,oq⟩,_⟩:=o;have oh:okH t d=true:=by rw[hq]at oq;simpa using oq
   erw[okH,AG,Bl]at oh;let⟨⟨y⟩,_⟩:=A6.1 oh.1.1;refine zhn (m:=2*k+1) (hT i d h) ⟨R.ex,R.kp⟩ (zfb o1) o2 o3 oh.1.2 λcdv A outer s H hr=>y (2*k) _ _ ⟨rfl,rfl,(λh=>nomatch h),hr,(λh=>nomatch h),(λh=>nomatch h),(λh=>nomatch h),?_⟩;have G:=zbV (N:=d.N) (q:=d.q) (sc:=yg d.st) (f:=faA K t i) (cdv:=cdv) (A:=A) (outer:=outer) (s:=s) (H:=H) (E:=E0) F O ih.1 ih.2;exact⟨G.F,G.Q,G.C,G.D,G.E,G.N,G.B,G.T,G.A,G.M,λy D h=>let ⟨fa,fdd,ps,M,d⟩:=G.K y D h;⟨fa,fdd,ps,⟨M.F,M.kp,M.b⟩,d⟩,G.V,G.I,G.L,G.H,G.Z⟩
def zgL(F:Fact t w K mg)(O:∀d∈t.tbl,okT t d=AD)(hT:∀i d,t.tbl[i]?=AA d->T i=AA d.fn)(k:Nat):Fn2 t P w K mg base T k:=(zdP F O hT k).1
def yb5:Nat->(List AE->Prop)->Prop
 |0,P=>P []
 |n+1,P=>∀a,yb5 n λus=>P (a::us)
theorem yb5.get:∀{n:Nat} {P:List AE->Prop},yb5 n P->∀us,us.length=n->P us
 |0,P,h,[],_=>h
 |n+1,P,h,a::us,e=>(h a).get us (by simpa using e)
theorem kbP{i np:Nat}{ks:List AM}{sh:List (Option Int)}{d:Df}{ds:List Int}(hd:t.tbl[i]?=AA d)(hk:d.k=.fd ds)(h1:ks.length=nKw sh)(h2:sh.length=(ds.drop (ds.length-sh.length)).length)
  (h3:((sh.zip (ds.drop (ds.length-sh.length))).all λp=>p.1.all λi=>decide (i=p.2))=AD) (hp:0<d.ps.length)
  (h:∀(dT:AH) (kV doc pm:AE) (an:Option AH) (cdv ct:AE),yb5 np λus=>yb5 ks.length λws=>yb5 ds.length λits=>
   ∃k,bindArgs (BD d.nm d.nm (yK d.st) (yD d.st) (yg d.st) (.ref dT) kV doc pm an cdv ct) ⟨us,ks.zip ws⟩=seqItems? (.ref dT) >>= k/\k (AA its.toArray)=pure (d.ps.zip (us++yaB sh ws (its.drop (ds.length-sh.length))))):KbP t ((i,np,ks),sh):=by
 intro d' ds' e1 e2 K mg f fd D;have e1:t.tbl[i]?=AA d':=e1;rw[hd]at e1
 cases e1
 rw[hk]at e2
 cases e2
 exact kbD D h1 h2 h3 (λdT kV doc pm an cdv ct us ws its z1 z2 z3=>(((h dT kV doc pm an cdv ct).get us z1).get ws z2).get its z3) hp
theorem all_mk2{h:Aq}{fx:AH}(X:K.In h)(G:h.Ns mainGlobals mg)(hfa:mg "law"=AA (.ref fx))(R:ya9 (yb6 K (cnm t)) t.tbl)(B:ydj K t=AD)(D:ya9 (λp=>∀cl,GD K w mg cl p.1 p.2) t.dd)(Kb:ya9 (KbP t) t.kb)(Ml:ya9 (λp=>GDF K w mg (faA K t) p.1 p.2) t.ml)
  (O:t.tbl.all (okT t)=AD) (hT:∀i d,t.tbl[i]?=AA d->T i=AA d.fn) {L:Nat} {st:BS} {N:List AM} {fn:IC.Fn} (hL:t.tbl[L]?=AA ⟨"law","law","law",st,N,["_law_script"],fn,.fn⟩) (lvl:Nat):
  ∃fd:Al,(∀(s:AI) (v:AE),De s fd ⟨[v],[]⟩ [("_law_script",v)])/\∀base:Aq,K.In base->base.Ns mainGlobals mg->yav P w K mg base (CX1 P w) (2*lvl) fx fd ["_law_script"] (spX K (yd T lvl) L):=by
 have F:Fact t w K mg:=⟨λx u e=>by
  cases u with
  |none=>exact PySem.W.mg_none_of X G e
  |some v=>exact D0 X G e,R,B,D,Kb,Ml⟩
 have O':=BL.1 O;let⟨dv,fd,r1,r2,r3⟩:=zaa F O' hL;have r3:dv=.none:=r3;subst r3;have r2:As K mainGlobals "law"=AA (AA (.ref (faA K t L)))/\yaE _:=r2;have e:=Value.ref.inj (AW (hfa.symm.trans (D0 X G r2.1)));subst e;refine⟨fd,λs v=>?_,λbase _ _=>(zgL F O' hT lvl L _ _ fd hL r1).imp λ_ _ _ _ h=>h _⟩;let⟨oc,od,kV,doc,pm,an,cdv,ct,osl,rfl,_⟩:=r1.ex;exact .of_eq (r2.2 kV doc pm an cdv ct v)
end
end L2
namespace IC
open PySem
def yeh:PV:=(.int 2000)
def yz:PV:=(.int 100)
section zq
local macro_rules|`(#[$x,*])=>do
 let mut a←`(.e)
 for y in x.getElems.reverse do a←`(.k $y $a)
 pure a
def yk:Fn:=⟨7,7,AF,#[.sfl 20 (.v 0) (AK "w") (.v 1),.sfl 20 (.v 0) (AK "n") (.v 2),.sfl 20 (.v 0) (AK "i") (.v 3),.sfl 20 (.v 0) (AK "j") (.v 4),.sfl 20 (.v 0) (AK "words") (.v 5),.sfl 20 (.v 0) (AK "marked") (.v 6)]⟩
def ybo:Fn:=⟨7,7,AD,#[.ret (.call 2 #[.v 0,.new 20 0 #[.v 1,.v 2,.v 3,.v 4,.dof (.v 5),.v 6]])]⟩
def yi:Fn:=⟨2,3,AF,#[.asg (.n 2) (.comp [AC,AA 1] (.n 0) (.seq (.v 0)) (.cst (.bl AD)) (.call 4 #[.v 0,.v 1])),.ret (.and (.cmp .notin (.cst .non) (.v 2)) (.cmp .eq (.blt .sum #[.v 2]) (.i 0)))]⟩
def yl:Fn:=⟨4,4,AD,#[.ret (.bin .add (.bin .add (.bin .add (.idx (.v 0) (.i 0)) (.bin .mul (.idx (.v 0) (.i 1)) (.v 2))) (.bin .mul (.idx (.v 0) (.i 2)) (.v 3))) (.bin .mul (.idx (.v 0) (.i 3)) (.v 1)))]⟩
def yE:Fn:=⟨2,9,AF,#[.asg (.t [2,3,4]) (.v 0),.asg (.n 5) (.call 5 #[.v 3,.v 1]),.asg (.n 6) (.comp [AC,AA 1] (.n 0) (.seq (.v 4)) (.cst (.bl AD)) (.call 6 #[.v 0,.v 1])),.ite (.or (.not (.chain .le .le (.i 0) (.v 5) (.cst yeh))) (.cmp .isin (.cst .non) (.v 6))) #[.ret (.cst .non)] .e,.asg (.n 7) (.bin .shl (.v 2) (.v 5)),.for (.n 8) (.seq (.v 6)) #[.aug 7 .mul (.v 8)],.ret (.v 7)]⟩
def ym:Fn:=⟨2,9,AF,#[.asg (.t [2,3,4,5,6,7]) (.v 0),.asg (.n 8) (.bin .add (.bin .add (.bin .mul (.v 5) (.fld 20 (.v 1) (AK "i"))) (.bin .mul (.v 6) (.fld 20 (.v 1) (AK "j")))) (.bin .mul (.v 7) (.fld 20 (.v 1) (AK "n")))),.ret (.bin .add (.bin .add (.bin .add (.v 2) (.bin .mul (.v 3) (.fld 20 (.v 1) (AK "i")))) (.bin .mul (.v 4) (.fld 20 (.v 1) (AK "j")))) (.bin .mul (.fld 20 (.v 1) (AK "w")) (.v 8)))]⟩
def yh:Fn:=⟨2,4,AF,#[.ite (.cmp .eq (.idx (.v 0) (.i 0)) (.s "mark")) #[.ret (.fld 20 (.v 1) (AK "marked"))] .e,.asg (.n 2) (.call 3 #[.idx (.v 0) (.i 2),.fld 20 (.v 1) (AK "n"),.fld 20 (.v 1) (AK "i"),.fld 20 (.v 1) (AK "j")]),.asg (.n 3) (.call 3 #[.idx (.v 0) (.i 3),.fld 20 (.v 1) (AK "n"),.fld 20 (.v 1) (AK "i"),.fld 20 (.v 1) (AK "j")]),.ite (.or (.not (.chain .le .le (.i 0) (.v 2) (.cst yz))) (.not (.chain .le .le (.i 0) (.v 3) (.cst yz)))) #[.ret (.cst .non)] .e,.ret (.blt .sum #[.comp [AC,AA 1,AA 2,AA 0] (.n 0) (.range2 (.v 2) (.v 3)) (.cst (.bl AD)) (.bin .shl (.mth .get (.fld 20 (.v 1) (AK "words")) #[.tup #[.idx (.v 3) (.i 1),.v 0],.i 0]) (.bin .mul (.fld 20 (.v 1) (AK "w")) (.bin .sub (.v 0) (.v 2))))])]⟩
def yby:Fn:=⟨1,1,AF,#[.ret (.newl #[.slc (.v 0) (.cst .non) (.i 63),.i 0,.i 0,.cst (.bl AF)])]⟩
def yZ:Fn:=⟨1,8,AD,#[.asg (.n 1) (.tup #[.i 2147483647,.i 2147483629,.i 2147483587,.i 2147483579,.i 2147483563]),.asg (.n 2) (.i 0),.for (.t [3,4]) (.enum (.v 1)) #[.asg (.n 5) (.bin .add (.v 0) (.idx (.tup #[.i 11,.i 101,.i 1009,.i 10007,.i 100003]) (.v 3))),.asg (.n 5) (.bin .mod (.bin .mul (.v 5) (.bin .add (.i 48271) (.bin .mul (.i 2) (.v 3)))) (.v 4)),.asg (.n 6) (.bin .mod (.bin .mul (.v 5) (.v 5)) (.v 4)),.asg (.n 7) (.bin .mod (.bin .mul (.bin .mod (.bin .mul (.v 6) (.v 6)) (.v 4)) (.v 5)) (.v 4)),.asg (.n 2) (.bin .add (.bin .mul (.v 2) (.v 4)) (.v 7))],.ret (.v 2)]⟩
def yN:Fn:=⟨1,4,AF,#[.asg (.t [1,2]) (.tup #[.idx (.v 0) (.i 0),.idx (.v 0) (.i 1)]),.asg (.n 3) (.bin .add (.bin .mul (.i 31) (.v 2)) (.i 7)),.ite (.cmp .gt (.blt .len #[.v 1]) (.i 0)) #[.asg (.n 3) (.bin .mul (.i 104729) (.bin .fdiv (.v 2) (.blt .len #[.v 1]))),.asg (.n 3) (.bin .add (.v 3) (.idx (.v 1) (.bin .mod (.v 2) (.blt .len #[.v 1]))))] .e,.six (.v 0) (.i 1) (.bin .add (.v 2) (.i 1)),.six (.v 0) (.i 3) (.or (.cmp .ge (.v 2) (.blt .len #[.v 1])) (.cmp .lt (.v 3) (.bin .pow (.i 10) (.i 18)))),.ite (.idx (.v 0) (.i 3)) #[.six (.v 0) (.i 2) (.call 8 #[.v 3])] #[.six (.v 0) (.i 2) (.bin .sub (.v 3) (.bin .pow (.i 10) (.i 18)))]]⟩
def yH:Fn:=⟨2,4,AF,#[.asg (.n 2) (.i 0),.while (.and (.cmp .lt (.v 2) (.i 64)) (.or (.cmp .eq (.idx (.v 0) (.i 2)) (.i 0)) (.and (.idx (.v 0) (.i 3)) (.cmp .lt (.idx (.v 0) (.i 2)) (.bin .mul (.v 1) (.i 4096)))))) #[.expr (.call 9 #[.v 0]),.aug 2 .add (.i 1),.ite (.and (.idx (.v 0) (.i 3)) (.cmp .lt (.idx (.v 0) (.i 2)) (.bin .mul (.v 1) (.i 4096)))) #[.six (.v 0) (.i 2) (.bin .add (.idx (.v 0) (.i 2)) (.bin .mul (.bin .mul (.v 1) (.i 4096)) (.bin .add (.i 1) (.bin .mod (.idx (.v 0) (.i 2)) (.i 4093)))))] .e],.asg (.n 3) (.bin .mod (.idx (.v 0) (.i 2)) (.v 1)),.six (.v 0) (.i 2) (.bin .fdiv (.idx (.v 0) (.i 2)) (.v 1)),.ret (.v 3)]⟩
def ybP:Fn:=⟨2,2,AF,#[.ret (.tup #[.bin .add (.i 4) (.call 10 #[.v 0,.i 13]),.bin .add (.i 1) (.call 10 #[.v 0,.v 1])])]⟩
def yn:Fn:=⟨1,3,AD,#[.asg (.n 1) (.i 1),.for (.n 2) (.range1 (.v 0)) #[.asg (.n 1) (.bin .mul (.i 2) (.v 1))],.ret (.v 1)]⟩
def ycs:Fn:=⟨4,4,AD,#[.ret (.bin .add (.bin .add (.bin .add (.idx (.v 0) (.i 0)) (.bin .mul (.idx (.v 0) (.i 1)) (.v 1))) (.bin .mul (.idx (.v 0) (.i 2)) (.v 2))) (.bin .mul (.idx (.v 0) (.i 3)) (.v 3)))]⟩
def yM:Fn:=⟨5,9,AD,#[.for (.t [5,6,7]) (.seq (.v 0)) #[.ite (.not (.chain .le .le (.i 0) (.call 15 #[.v 6,.tup #[.v 1,.v 2],.v 3,.v 4]) (.i 2000))) #[.ret (.cst (.bl AF))] .e,.for (.n 8) (.seq (.v 7)) #[.ite (.not (.blt .all #[.comp [AC,AA 3,AA 4,AA 2] (.n 0) (.seq (.slc (.v 8) (.i 2) (.cst .non))) (.cst (.bl AD)) (.chain .le .le (.i 0) (.call 13 #[.v 0,.v 1,.v 2,.v 3]) (.i 100))])) #[.ret (.cst (.bl AF))] .e]],.ret (.cst (.bl AD))]⟩
def yv:Fn:=⟨4,5,AD,#[.asg (.n 4) (.bin .add (.bin .add (.bin .mul (.idx (.v 0) (.i 3)) (.v 2)) (.bin .mul (.idx (.v 0) (.i 4)) (.v 3))) (.bin .mul (.idx (.v 0) (.i 5)) (.idx (.v 1) (.i 1)))),.ret (.bin .add (.bin .add (.bin .add (.idx (.v 0) (.i 0)) (.bin .mul (.idx (.v 0) (.i 1)) (.v 2))) (.bin .mul (.idx (.v 0) (.i 2)) (.v 3))) (.bin .mul (.idx (.v 1) (.i 0)) (.v 4)))]⟩
def yj:Fn:=⟨4,6,AF,#[.asg (.n 4) (.idx (.v 3) (.call 10 #[.v 0,.blt .len #[.v 3]])),.asg (.n 5) (.call 10 #[.v 0,.i 3]),.ite (.and (.cmp .eq (.v 5) (.i 1)) (.cmp .ge (.bin .sub (.v 4) (.v 1)) (.neg (.i 200)))) #[.ret (.tup #[.bin .sub (.v 4) (.v 1),.i 1,.i 0,.i 0])] .e,.ite (.and (.cmp .eq (.v 5) (.i 2)) (.cmp .ge (.bin .sub (.v 4) (.v 2)) (.neg (.i 200)))) #[.ret (.tup #[.bin .sub (.v 4) (.v 2),.i 0,.i 1,.i 0])] .e,.ret (.tup #[.v 4,.i 0,.i 0,.i 0])]⟩
def ya:Fn:=⟨5,9,AF,#[.asg (.n 5) (.idx (.tup #[.neg (.i 2),.neg (.i 1),.i 0,.i 0,.i 1,.i 2,.i 1999,.i 2000,.i 2000,.i 2001,.i 77,.i 512]) (.call 10 #[.v 0,.i 12])),.asg (.n 6) (.call 10 #[.v 0,.i 3]),.asg (.n 7) (.bin .sub (.blt .max #[.i 0,.bin .sub (.call 10 #[.v 0,.i 7]) (.i 2)]) (.i 2)),.asg (.n 8) (.bin .sub (.v 5) (.bin .mul (.bin .mul (.v 3) (.v 4)) (.v 7))),.ite (.and (.cmp .eq (.call 10 #[.v 0,.i 2]) (.i 1)) (.cmp .gt (.v 2) (.i 9))) #[.ret (.tup #[.bin .mod (.v 8) (.v 2),.i 0,.bin .sub (.bin .fdiv (.v 8) (.v 2)) (.bin .mul (.v 3) (.v 6)),.i 0,.v 6,.v 7])] .e,.ret (.tup #[.bin .mod (.v 8) (.v 1),.bin .sub (.bin .fdiv (.v 8) (.v 1)) (.bin .mul (.v 3) (.v 6)),.i 0,.v 6,.i 0,.v 7])]⟩
def yq:Fn:=⟨3,8,AF,#[.asg (.n 3) (.newl .e),.for (.n 4) (.range1 (.call 10 #[.v 0,.i 3])) #[.asg (.n 5) (.call 16 #[.v 0,.v 1,.v 2,.tup #[.neg (.i 1),.i 0,.i 0,.i 1,.i 50,.i 99,.i 100,.i 101]]),.asg (.n 6) (.call 16 #[.v 0,.v 1,.v 2,.tup #[.neg (.i 1),.i 0,.i 0,.i 1,.i 99,.i 100,.i 100,.i 101]]),.asg (.n 7) (.tup #[.s "slice",.idx (.s "xyz") (.call 10 #[.v 0,.i 3]),.v 5,.v 6]),.ite (.cmp .eq (.call 10 #[.v 0,.i 5]) (.i 0)) #[.asg (.n 7) (.tup #[.s "mark"])] .e,.expr (.mth .append (.v 3) #[.v 7])],.ret (.blt .tuple #[.v 3])]⟩
def yay:Fn:=⟨1,17,AD,#[.asg (.n 1) (.call 7 #[.v 0]),.asg (.n 2) (.call 10 #[.v 1,.i 4]),.asg (.t [3,4]) (.call 11 #[.v 1,.i 4]),.asg (.n 5) (.bin .add (.i 11) (.call 10 #[.v 1,.i 190])),.asg (.n 6) (.bin .add (.i 11) (.call 10 #[.v 1,.i 190])),.ite (.cmp .eq (.v 2) (.i 3)) #[.asg (.n 6) (.bin .mod (.v 6) (.i 4))] .e,.asg (.n 7) (.newl .e),.for (.n 8) (.range1 (.bin .add (.i 1) (.call 10 #[.v 1,.i 3]))) #[.asg (.n 9) (.call 17 #[.v 1,.v 5,.v 6,.v 3,.v 4]),.asg (.n 10) (.call 18 #[.v 1,.v 5,.v 6]),.asg (.n 11) (.bin .mul (.call 10 #[.v 1,.i 7]) (.blt .int #[.blt .any #[.comp [AC] (.n 0) (.seq (.v 10)) (.cst (.bl AD)) (.cmp .eq (.idx (.v 0) (.i 0)) (.s "slice"))]])),.expr (.mth .append (.v 7) #[.tup #[.v 11,.v 9,.v 10]])],.asg (.n 12) (.tup .e),.asg (.n 13) (.call 10 #[.v 1,.i 2]),.ite (.cmp .eq (.call 10 #[.v 1,.i 2]) (.i 1)) #[.asg (.n 14) (.call 10 #[.v 1,.call 12 #[.v 3]]),.asg (.n 12) (.tup #[.tup #[.tup #[.s "a",.i 99],.v 14]]),.expr (.mth .append (.v 7) #[.tup #[.i 1,.tup #[.i 0,.i 0,.i 0,.i 0,.i 0,.i 0],.tup #[.tup #[.s "slice",.s "a",.tup #[.bin .sub (.i 99) (.v 6),.i 0,.i 1,.i 0],.tup #[.i 100,.i 0,.i 0,.i 0]]]]]),.expr (.mth .append (.v 7) #[.tup #[.bin .sub (.i 0) (.v 14),.tup #[.i 0,.i 0,.i 0,.i 0,.i 0,.i 0],.tup .e]])] .e,.asg (.n 15) (.blt .tuple #[.v 7]),.asg (.n 16) (.call 1 #[.v 15,.v 3,.v 4,.v 5,.v 6,.v 12,.v 13]),.ret (.and (.isi (.v 16) [.bool]) (.cmp .eq (.v 16) (.call 14 #[.v 15,.v 3,.v 4,.v 5,.v 6])))]⟩
end zq
def Tl:List Fn:=[yk,ybo,yi,yl,yE,ym,yh,yby,yZ,yN,yH,ybP,yn,ycs,yM,yv,yj,ya,yq,yay]
def T(i:Nat):Option Fn:=Tl[i]?
abbrev yT:Nat:=0
abbrev ycY:Nat:=1
abbrev yA:Nat:=2
abbrev ydO:Nat:=3
abbrev yb:Nat:=4
abbrev yY:Nat:=5
abbrev yf:Nat:=6
abbrev ydT:Nat:=7
abbrev ydp:Nat:=8
abbrev yd0:Nat:=9
abbrev ydL:Nat:=10
abbrev yd4:Nat:=11
abbrev yd5:Nat:=12
abbrev yd6:Nat:=13
abbrev yd7:Nat:=14
abbrev yed:Nat:=15
abbrev yB:Nat:=16
abbrev yy:Nat:=17
abbrev y0:Nat:=18
abbrev ycw:Nat:=19
end IC
namespace WK
open PySem L2 IC
def top(i:Nat):Stmt:=Cc.main.body.getD i (.Pass ⟨0,0,0,0⟩)
def tbQ:Tb where
 tbl:=[⟨"","__init__","Moment.__init__",inClass (top 3) 0,["self","w","n","i","j","words","marked"],["self","w","n","i","j","words","marked"],yk,.ini 20⟩,⟨"holds","holds","holds",top 4,["sentence","w","n","i","j","cells","mark"],["sentence","w","n","i","j","cells","mark"],ybo,.fn⟩,⟨"holds_at","holds_at","holds_at",top 5,["sentence","moment","worths"],["sentence","moment"],yi,.fn⟩,⟨"place_of","place_of","place_of",top 6,["told","n","i","j"],["told","n","i","j"],yl,.fn⟩,⟨"term_worth","term_worth","term_worth",top 7,["term","moment","f","told","things","exponent","worths","worth","each"],["term","moment"],yE,.fn⟩,⟨"exponent_of","exponent_of","exponent_of",top 8,["told","moment","c","i","j","p","q","r","words"],["told","moment"],ym,.fn⟩,⟨"thing_worth","thing_worth","thing_worth",top 9,["thing","moment","start","end"],["thing","moment"],yh,.fn⟩,⟨"_law_fresh","_law_fresh","_law_fresh",top 11,["_law_script"],["_law_script"],yby,.fn⟩,⟨"_law_mixed","_law_mixed","_law_mixed",top 12,["_law_seed","_law_primes","_law_number","_law_k","_law_prime","_law_far","_law_square","_law_power"],["_law_seed"],yZ,.fn⟩,⟨"_law_fill","_law_fill","_law_fill",top 13,["_law_state","_law_cells","_law_at_here","_law_seed"],["_law_state"],yN,.fn⟩,⟨"_law_take","_law_take","_law_take",top 14,["_law_state","_law_many","_law_turns","_law_digit"],["_law_state","_law_many"],yH,.fn⟩,⟨"_law_sizes","_law_sizes","_law_sizes",top 15,["_law_state","_law_most"],["_law_state","_law_most"],ybP,.fn⟩,⟨"_law_two_to","_law_two_to","_law_two_to",top 16,["_law_many","_law_found","_law_k"],["_law_many"],yn,.fn⟩,⟨"_law_at","_law_at","_law_at",top 17,["_law_index","_law_i","_law_j","_law_n"],["_law_index","_law_i","_law_j","_law_n"],ycs,.fn⟩,⟨"_law_stands","_law_stands","_law_stands",top 18,["_law_sentence","_law_w","_law_n","_law_i","_law_j","_law_f","_law_numbers","_law_things","_law_thing"],["_law_sentence","_law_w","_law_n","_law_i","_law_j"],yM,.fn⟩,⟨"_law_exponent","_law_exponent","_law_exponent",top 19,["_law_numbers","_law_sizes_here","_law_i","_law_j","_law_by_words"],["_law_numbers","_law_sizes_here","_law_i","_law_j"],yv,.fn⟩,⟨"_law_edge_place","_law_edge_place","_law_edge_place",top 20,["_law_state","_law_i","_law_j","_law_edges","_law_target","_law_way"],["_law_state","_law_i","_law_j","_law_edges"],yj,.fn⟩,⟨"_law_edge_numbers","_law_edge_numbers","_law_edge_numbers",top 21,["_law_state","_law_i","_law_j","_law_w","_law_n","_law_target","_law_words","_law_r","_law_rest"],["_law_state","_law_i","_law_j","_law_w","_law_n"],ya,.fn⟩,⟨"_law_edge_things","_law_edge_things","_law_edge_things",top 22,["_law_state","_law_i","_law_j","_law_things","_law_turn","_law_low","_law_high","_law_thing"],["_law_state","_law_i","_law_j"],yq,.fn⟩,⟨"law","law","law",top 23,["_law_script","_law_state","_law_near","_law_w","_law_n","_law_i","_law_j","_law_terms","_law_k","_law_numbers","_law_things","_law_f","_law_cells","_law_mark","_law_word","_law_told","_law_found"],["_law_script"],yay,.fn⟩]
 al:=[eF "holds" 1,eF "holds_at" 2,eF "place_of" 3,eF "term_worth" 4,eF "exponent_of" 5,eF "thing_worth" 6,eF "_law_fresh" 7,eF "_law_mixed" 8,eF "_law_fill" 9,eF "_law_take" 10,eF "_law_sizes" 11,eF "_law_two_to" 12,eF "_law_at" 13,eF "_law_stands" 14,eF "_law_exponent" 15,eF "_law_edge_place" 16,eF "_law_edge_numbers" 17,eF "_law_edge_things" 18,eF "law" 19,eC "MOST_EXPONENT" (.int (2000)),eC "MOST_PLACE" (.int (100)),eG "Moment" (.cls 20 0)]
 bs:=["all","any","bool","dict","enumerate","int","isinstance","len","max","range","sum","tuple"]
 ts:=[.bool]
 fl:=[eN 20 "i",eN 20 "j",eN 20 "marked",eN 20 "n",eN 20 "w",eN 20 "words"]
 me:=[]
 kb:=[]
 cn:=[eN 20 "Moment"]
 dd:=[]
 ml:=[]
 xs:=[]
 xc:=[]
 xm:=[]
 qh:=[]
theorem ok_all:tbQ.tbl.all (okT tbQ)=true:=by decide +kernel
theorem T_ok:∀i d,tbQ.tbl[i]?=AA d->T i=AA d.fn:=λi d h=>by
 have e:Tl=tbQ.tbl.map (·.fn):=rfl;rw[T,e,BU,h];rfl
theorem kb_all:ya9 (KbP tbQ) tbQ.kb:=by
 repeat' (first|exact trivial|(refine⟨kbP rfl rfl rfl rfl rfl ⋯ ?_,?_⟩;((repeat intro _);exact⟨_,rfl,rfl⟩)))
theorem cn_20:cnm tbQ 20="Moment":=rfl
end WK
namespace IC
open PySem
def yba(call:Cl)(t:Tg)(b:Css)(xs:List PV)(ρ:Env)(st:SO):Fl:=forL t (λρ2 st2=>exs call ρ2 st2 b) xs ρ st
def yas(call:Cl)(c:Ce)(b:Css)(n:Nat)(ρ:Env)(st:SO):Fl:=yai (λρ2 st2=>ev call ρ2 st2 c) (λρ2 st2=>exs call ρ2 st2 b) n ρ st
def yaG(call:Cl)(ρ0:Env)(t:Tg)(c e:Ce)(x:PV)(st2:SO):R (Option PV):=match yG t x ρ0 with
 |none=>.bad
 |some ρ1=>(ev call ρ1 st2 c).bind λb st3=>onO (yao st3 b) λk=>cond k ((ev call ρ1 st3 e).bind λy st4=>.ok (AA y) st4) (.ok AC st3)
def yaa(call:Cl)(ρ0:Env)(t:Tg)(c e:Ce)(xs:List PV)(st:SO):R (List PV):=yaD (yaG call ρ0 t c e) xs st
def yah(f:Fl)(k:Env->SO->Fl):Fl:=
 match f with
 |.nx ρ st=>k ρ st
 |f=>f
def nxO(o:Option Env)(st:SO):Fl:=
 match o with
 |some ρ=>.nx ρ st
 |none=>.bad
def stO(ρ:Env)(o:Option SO):Fl:=
 match o with
 |some st=>.nx ρ st
 |none=>.bad
section
variable {call:Cl}{ρ:Env}{st:SO}
theorem x_for{t:Tg}{it:Cit}{b:Css}:ex call ρ st (.for t it b)=(evi call ρ st it).fl ρ λxs st1=>yba call t b xs ρ st1:=rfl
def zgt{c:Ce}{b:Css}:ex call ρ st (.while c b)=yas call c b 100000 ρ st:=rfl
theorem v_comp{sl:List (Option Nat)}{t:Tg}{it:Cit}{c e:Ce}:ev call ρ st (.comp sl t it c e)=(evi call ρ st it).bind λxs st1=>ybA (yaa call (sl.map λo=>o.bind λj=>(ρ[j]?).join) t c e xs st1):=rfl
def zew{t:Tg}{b:Css}:yba call t b [] ρ st=.nx ρ st:=rfl
def zx{t:Tg}{b:Css}{x:PV}{xs:List PV}{ρ1:Env}(h:yG t x ρ=AA ρ1):yba call t b (x::xs) ρ st=yae (exs call ρ1 st b) λρ2 st2=>yba call t b xs ρ2 st2:=by
 rw[yba,forL,h];rfl
def za5{t:Tg}{b:Css}(P:Nat->Env->SO->Prop):∀(xs:List PV) (i:Nat) (ρ:Env) (st:SO),P i ρ st ->
  (∀(j:Nat) (x:PV) (ρ:Env) (st:SO),xs[j]?=AA x->P (i+j) ρ st->∃ρ1 ρ2 st2,yG t x ρ=AA ρ1/\exs call ρ1 st b=.nx ρ2 st2/\P (i+j+1) ρ2 st2) ->
  ∃ρ' st',yba call t b xs ρ st=.nx ρ' st'/\P (i+xs.length) ρ' st'
 |[],i,ρ,st,h,_=>⟨ρ,st,zew,h⟩
 |x::xs,i,ρ,st,h,k=>by
  let⟨ρ1,ρ2,st2,e1,e2,h2⟩:=k 0 x ρ st rfl h;let⟨ρ',st',e3,h3⟩:=za5 P xs (i+1) ρ2 st2 h2 λj y ρ st hy hp=>by
   have:=k (j+1) y ρ st (by simpa using hy) (by rw[show i+(j+1)=i+1+j by lia];exact hp);rw[show i+(j+1)+1=i+1+j+1 by lia]at this;exact this
  refine⟨ρ',st',?_,by rw[A2,show i+(xs.length+1)=i+1+xs.length by lia];exact h3⟩;rw[zx e1,e2];exact e3
def zdN{c:Ce}{b:Css}{n:Nat}{x:PV}{st1 st2:SO}{ρ2:Env}(h:ev call ρ st c=.ok x st1)(ht:yao st1 x=AA AD)(hb:exs call ρ st1 b=.nx ρ2 st2):yas call c b (n+1) ρ st=yas call c b n ρ2 st2:=by
 rw[yas,yai,h];erw[R.fl,ht,onF,cond_true,hb,yae];rfl
def zbS{c:Ce}{b:Css}{n:Nat}{x:PV}{st1:SO}(h:ev call ρ st c=.ok x st1)(ht:yao st1 x=AA AF):yas call c b (n+1) ρ st=.nx ρ st1:=by
 rw[yas,yai,h];erw[R.fl,ht,onF,cond_false]
def zbu{ρ0:Env}{t:Tg}{c e:Ce}:yaa call ρ0 t c e [] st=.ok [] st:=rfl
def zk{ρ0:Env}{t:Tg}{c e:Ce}{x:PV}{xs:List PV}:yaa call ρ0 t c e (x::xs) st=(yaG call ρ0 t c e x st).bind λo st1=>(yaa call ρ0 t c e xs st1).bind λys st2=>.ok (ybk o ys) st2:=rfl
def zbz{ρ0:Env}{t:Tg}{c e:Ce}{f:PV->PV}:∀(xs:List PV),(∀x∈xs,yaG call ρ0 t c e x st=.ok (AA (f x)) st)->yaa call ρ0 t c e xs st=.ok (xs.map f) st
 |[],_=>zbu
 |x::xs,h=>by
  rw[zk,h x Ag];erw[R.bind];rw[zbz xs λy hy=>h y (AS _ hy)];rfl
theorem xs_nil:exs call ρ st .nil=.nx ρ st:=rfl
theorem xs_cons{s:Cs}{ss:Css}:exs call ρ st (.cons s ss)=yah (ex call ρ st s) λρ1 st1=>exs call ρ1 st1 ss:=rfl
theorem x_asg{t:Tg}{e:Ce}:ex call ρ st (.asg t e)=(ev call ρ st e).fl ρ λv st1=>nxO (yG t v ρ) st1:=rfl
theorem x_expr{e:Ce}:ex call ρ st (.expr e)=(ev call ρ st e).fl ρ λ_ st1=>.nx ρ st1:=rfl
theorem x_ret{e:Ce}:ex call ρ st (.ret e)=(ev call ρ st e).fl ρ λv st1=>.rt v st1:=rfl
theorem x_ite{c:Ce}{a b:Css}:ex call ρ st (.ite c a b)=(ev call ρ st c).fl ρ λx st1=>onF (yao st1 x) λk=>cond k (exs call ρ st1 a) (exs call ρ st1 b):=rfl
theorem x_six{o i e:Ce}:ex call ρ st (.six o i e)=(ev call ρ st e).fl ρ λv st1=>(ev call ρ st1 o).fl ρ λx st2=>(ev call ρ st2 i).fl ρ λy st3=>stO ρ (yaP st3 x y v):=rfl
def ziT{c:Nat}{o e:Ce}{f:AM}:ex call ρ st (.sfl c o f e)=(ev call ρ st e).fl ρ λv st1=>(ev call ρ st1 o).fl ρ λx st2=>stO ρ (ybs c st2 x f v):=rfl
def zib{i:Nat}{o:BOp}{e:Ce}{x:PV}(h:ρ[i]?=AA (AA x)):ex call ρ st (.aug i o e)=(ev call ρ st e).fl ρ λy st1=>nxO ((yaH o x y).map λz=>ρ.set i (AA z)) st1:=by
 rw[ex,h];show (ev call ρ st e).fl ρ _=_;refine congrArg _ (funext λy=>funext λst1=>?_)
 cases yaH o x y<;>rfl
end
theorem ve1(call:Nat->List PV->SO->R PV)(ρ:Env)(st:SO)(v:PV):
  ev call ρ st (Ce.cst v)=R.ok v st:=rfl
theorem ve2(call:Nat->List PV->SO->R PV)(ρ:Env)(st:SO)(i:Nat):
  ev call ρ st (Ce.var i) =
  match ρ[i]? with
  |some (AA v)=>R.ok v st
  |x=>R.bad:=rfl
theorem ve3(call:Nat->List PV->SO->R PV)(ρ:Env)(st:SO)(o:BOp)(a b:Ce):
  ev call ρ st (Ce.bin o a b)=R.bind (ev call ρ st a) λx st1=>R.bind (ev call ρ st1 b) λy st2=>toR (yt o x y) st2:=rfl
theorem ve4(call:Nat->List PV->SO->R PV)(ρ:Env)(st:SO)(a:Ce):
  ev call ρ st (Ce.neg a) =
  R.bind (ev call ρ st a) λx st1=>
   match x with
   |PV.int i=>R.ok (PV.int (-i)) st1
   |x=>R.bad:=rfl
theorem ve5(call:Nat->List PV->SO->R PV)(ρ:Env)(st:SO)(a:Ce):
  ev call ρ st (Ce.not a)=R.bind (ev call ρ st a) λx st1=>onBl x λk=>R.ok (PV.bl !k) st1:=rfl
theorem ve6(call:Nat->List PV->SO->R PV)(ρ:Env)(st:SO)(a b:Ce):
  ev call ρ st (Ce.and a b)=R.bind (ev call ρ st a) λx st1=>onBl x λk=>bif k then ev call ρ st1 b else R.ok (PV.bl AF) st1:=rfl
theorem ve7(call:Nat->List PV->SO->R PV)(ρ:Env)(st:SO)(a b:Ce):
  ev call ρ st (Ce.or a b)=R.bind (ev call ρ st a) λx st1=>onBl x λk=>bif k then R.ok (PV.bl AD) st1 else ev call ρ st1 b:=rfl
theorem ve8(call:Nat->List PV->SO->R PV)(ρ:Env)(st:SO)(o:COp)(a b:Ce):
  ev call ρ st (Ce.cmp o a b)=R.bind (ev call ρ st a) λx st1=>R.bind (ev call ρ st1 b) λy st2=>toR (yw o x y) st2:=rfl
theorem ve9(call:Nat->List PV->SO->R PV)(ρ:Env)(st:SO)(o p:COp)(a b c:Ce):
  ev call ρ st (Ce.chain o p a b c)=R.bind (ev call ρ st a) λx st1=>R.bind (ev call ρ st1 b) λy st2=>onO (blO (yw o x y)) λk=>bif k then R.bind (ev call ρ st2 c) λz st3=>toR (yw p y z) st3 else R.ok (PV.bl AF) st2:=rfl
theorem ve10(call:Nat->List PV->SO->R PV)(ρ:Env)(st:SO)(c a b:Ce):
  ev call ρ st (Ce.ite c a b)=R.bind (ev call ρ st c) λx st1=>onO (yao st1 x) λk=>bif k then ev call ρ st1 a else ev call ρ st1 b:=rfl
theorem ve11(call:Nat->List PV->SO->R PV)(ρ:Env)(st:SO)(es:Ces):
  ev call ρ st (Ce.tup es)=R.bind (evs call ρ st es) λvs st1=>if CC vs<=sizeMax then R.ok (PV.tup vs) st1 else R.bad:=rfl
theorem ve13(call:Nat->List PV->SO->R PV)(ρ:Env)(st:SO)(es:Ces):
  ev call ρ st (Ce.newl es)=R.bind (evs call ρ st es) λvs st1=>if CC vs<=sizeMax then R.ok (PV.loc (CC st1)) (st1++[Ob.lst vs])else R.bad:=rfl
theorem ve16(call:Nat->List PV->SO->R PV)(ρ:Env)(st:SO)(a i:Ce):
  ev call ρ st (Ce.idx a i)=R.bind (ev call ρ st a) λx st1=>R.bind (ev call ρ st1 i) λy st2=>toR (idxV st2 x y) st2:=rfl
theorem ve17(call:Nat->List PV->SO->R PV)(ρ:Env)(st:SO)(a l h:Ce):
  ev call ρ st (Ce.slc a l h)=R.bind (ev call ρ st a) λx st1=>R.bind (ev call ρ st1 l) λy st2=>onP (ybl y) λo=>R.bind (ev call ρ st2 h) λz st3=>toR (ybL x o z) st3:=rfl
theorem ve18(call:Nat->List PV->SO->R PV)(ρ:Env)(st:SO)(f:Nat)(es:Ces):
  ev call ρ st (Ce.call f es)=R.bind (evs call ρ st es) λvs st1=>call f vs st1:=rfl
theorem ve19(call:Nat->List PV->SO->R PV)(ρ:Env)(st:SO)(b:Blt)(es:Ces):
  ev call ρ st (Ce.blt b es)=R.bind (evs call ρ st es) λvs st1=>toR (yQ b st1 vs) st1:=rfl
theorem ve20(call:Nat->List PV->SO->R PV)(ρ:Env)(st:SO)(m:Mth)(o:Ce)(es:Ces):
  ev call ρ st (Ce.mth m o es)=R.bind (ev call ρ st o) λx st1=>onO (yad m st1 x) λx_1=>R.bind (evs call ρ st1 es) λvs st2=>ya8 m st2 x vs:=rfl
theorem ve21(call:Nat->List PV->SO->R PV)(ρ:Env)(st:SO)(a:Ce)(ts:List Ty):
  ev call ρ st (Ce.isi a ts)=R.bind (ev call ρ st a) λx st1=>toR (ybg x ts) st1:=rfl
theorem ve24(call:Nat->List PV->SO->R PV)(ρ:Env)(st:SO):
  ev call ρ st Ce.nope=R.bad:=rfl
theorem ve32(call:Nat->List PV->SO->R PV)(ρ:Env)(st:SO)(c:Nat)(a:Ce)(f:AM):
  ev call ρ st (Ce.fld c a f)=R.bind (ev call ρ st a) λx st1=>toR (yaK c st1 x f) st1:=rfl
theorem ve33(call:Nat->List PV->SO->R PV)(ρ:Env)(st:SO)(c i:Nat)(es:Ces):
  ev call ρ st (Ce.new c i es)=R.bind (evs call ρ st es) λvs st1=>R.bind (ya6 (call i (PV.loc (CC st1)::vs) (st1++[Ob.ins c []]))) λv st2=>newV (CC st1) v st2:=rfl
theorem ve45(call:Nat->List PV->SO->R PV)(ρ:Env)(st:SO)(a:Ce):
  ev call ρ st (Ce.dof a)=R.bind (ev call ρ st a) λx st1=>ycN st1 x:=rfl
end IC
namespace WK
open IC PySem
def chS(c:Nat):Str:=⟨#[c]⟩
def ydh(c:Nat)(i:Int):PV:=.tup [.str (chS c),.int i]
abbrev Mem:=Nat->Int->Int
def upd(M:Mem)(c:Nat)(i v:Int):Mem:=λd j=>if d=c/\j=i then v else M d j
def Rel(kvs:List (PV×PV))(M:Mem):Prop:=∀c i,(look (ydh c i) kvs).getD (.int 0)=.int (M c i)
abbrev Cel:=Nat×Int
inductive Rw where
 |mark (d:Int)|ask (x:Cel)|set (t:Cel) (d:Int)|move (t x:Cel)|bare (t x:Cel)|twice (t x:Cel)|half (t x:Cel)
 |sum (t x y:Cel)|less (t x y:Cel)|both (t x y:Cel)|any (t x y:Cel)|odd (t x y:Cel)
def zau(i:Int):shp (.int i)=true:=rfl
section
variable {st:SO}{k:Bool}{a b c d e:PV}{r:List PV}{i j:Int}
theorem ix0:idxV st (.tp k (a::r)) (.int 0)=AA a:=by simp[idxV,yaw,at?,ixI]
theorem ix1:idxV st (.tp k (a::b::r)) (.int 1)=AA b:=by
 have:(1:Int)<(r.length:Int)+1+1:=by lia
 simp[idxV,yaw,at?,ixI,this]
theorem ix2:idxV st (.tp k (a::b::c::r)) (.int 2)=AA c:=by
 have:(2:Int)<(r.length:Int)+1+1+1:=by lia
 simp[idxV,yaw,at?,ixI,this]
theorem ix3:idxV st (.tp k (a::b::c::d::r)) (.int 3)=AA d:=by
 have:(3:Int)<(r.length:Int)+1+1+1+1:=by lia
 simp[idxV,yaw,at?,ixI,this]
theorem ix4:idxV st (.tp k (a::b::c::d::e::r)) (.int 4)=AA e:=by
 have:(4:Int)<(r.length:Int)+1+1+1+1+1:=by lia
 simp[idxV,yaw,at?,ixI,this]
theorem b_add:yt .add (.int i) (.int j)=AA (.int (i+j)):=rfl
theorem b_sub:yt .sub (.int i) (.int j)=AA (.int (i-j)):=rfl
def zcE(h:i.natAbs<18446744073709551616 \/ j.natAbs<18446744073709551616):yt .mul (.int i) (.int j)=AA (.int (i*j)):=by
 have:yac i j=true:=by simpa [yac] using h
 simp[yt,binI,this]
def zP(h:i.natAbs<18446744073709551616):yt .mul (.int i) (.int j)=AA (.int (i*j)):=zcE (.inl h)
def zm(h:j.natAbs<18446744073709551616):yt .mul (.int i) (.int j)=AA (.int (i*j)):=zcE (.inr h)
theorem b_mul2:yt .mul (.int 2) (.int j)=AA (.int (2*j)):=zcE (.inl ⋯)
def zee(h:0<j)(h2:j<18446744073709551616*18446744073709551616):yt .fdiv (.int i) (.int j)=AA (.int (i/j)):=by
 have h3:j<10000000000000000000000000000000000000000000000000000000000000000000000:=by lia
 simp[yt,binI,h,h3]
theorem b_div2:yt .fdiv (.int i) (.int 2)=AA (.int (i/2)):=rfl
def zcp(h:0<j):yt .mod (.int i) (.int j)=AA (.int (i%j)):=by simp[yt,binI,h]
theorem toR_some{v:PV}:toR (AA v) st=.ok v st:=rfl
theorem c_ne:yw .ne (.int i) (.int j)=AA (.bl (!(i==j))):=by simp[yw,zau,peq]
theorem c_eq:yw .eq (.int i) (.int j)=AA (.bl (i==j)):=by simp[yw,zau,peq]
theorem c_lt:yw .lt (.int i) (.int j)=AA (.bl (decide (i<j))):=rfl
theorem c_le:yw .le (.int i) (.int j)=AA (.bl (decide (i<=j))):=rfl
theorem c_gt:yw .gt (.int i) (.int j)=AA (.bl (decide (j<i))):=rfl
theorem c_ge:yw .ge (.int i) (.int j)=AA (.bl (decide (j<=i))):=rfl
theorem t_bl{b:Bool}:yao st (.bl b)=AA b:=rfl
theorem on_t{f:Bool->Fl}{b:Bool}:onF (AA b) f=f b:=rfl
theorem ono{α:Type}{f:Bool->R α}{b:Bool}:onO (AA b) f=f b:=rfl
theorem nxO_some{ρ:IC.Env}:nxO (AA ρ) st=.nx ρ st:=rfl
theorem fl_ok{α:Type}{a:α}{ρ:IC.Env}{k:α->SO->Fl}:(R.ok a st).fl ρ k=k a st:=rfl
theorem bd_ok{α β:Type}{a:α}{k:α->SO->R β}:(R.ok a st).bind k=k a st:=rfl
theorem th_nx{ρ:IC.Env}{k:IC.Env->SO->Fl}:yah (.nx ρ st) k=k ρ st:=rfl
theorem th_rt{v:PV}{k:IC.Env->SO->Fl}:yah (.rt v st) k=.rt v st:=rfl
theorem fl_exc{α:Type}{c:Nat}{ρ:IC.Env}{k:α->SO->Fl}:(R.exc c st:R α).fl ρ k=.exc c ρ st:=rfl
theorem bd_exc{α β:Type}{c:Nat}{k:α->SO->R β}:(R.exc c st:R α).bind k=.exc c st:=rfl
theorem th_exc{c:Nat}{ρ:IC.Env}{k:IC.Env->SO->Fl}:yah (.exc c ρ st) k=.exc c ρ st:=rfl
theorem noLocs_ints:∀(l:List Int),nLs (l.map PV.int)=AD
 |[]=>rfl
 |_::l=>by simp[nLs,nL,noLocs_ints l]
theorem bT_n{i:Nat}{v:PV}{ρ:IC.Env}:yG (.n i) v ρ=AA (ρ.set i (AA v)):=rfl
end
def zG(ys:List PV)(h:ys.length<=1000000)(st:SO):ybA (.ok ys st)=.ok (.lst ys) st:=by simp[ybA,h]
def zb1(n:Nat)(h:n<1000):yb7 (.int (n:Int))=AA (yo n 0 1):=by
 simp[yb7];lia
def zaW{z:Int}(h:0<=z):∃n:Nat,z=n:=⟨z.toNat,by lia⟩
def yc3(st:SO)(f:Fl):R PV:=
 match f with
 |.rt v _=>if nL v then .ok v st else .bad
 |.nx _ _=>.ok .non st
 |.exc c _ _=>.exc c st
 |_=>.bad
def zu{T:Nat->Option IC.Fn}{k f:Nat}{fn:IC.Fn}{args:List PV}{st:SO}(hT:T f=AA fn)(hp:fn.pure=AD)(hl:args.length=fn.np)(hn:nLs args=AD):
  yd T (k+1) f args st=yc3 st (exs (yd T k) (args.map AA++Ak (fn.ns-fn.np) AC) [] fn.body):=by
 rw[yd,hT];dsimp only;rw[if_pos hl,if_pos hp,if_pos hn];rfl
def outI(f:Fl):R PV:=
 match f with
 |.rt v st1=>.ok v st1
 |.nx _ st1=>.ok .non st1
 |.exc c _ st1=>.exc c st1
 |_=>.bad
def zh{T:Nat->Option IC.Fn}{k f:Nat}{fn:IC.Fn}{args:List PV}{st:SO}(hT:T f=AA fn)(hp:fn.pure=AF)(hl:args.length=fn.np):
  yd T (k+1) f args st=outI (exs (yd T k) (args.map AA++Ak (fn.ns-fn.np) AC) st fn.body):=by
 rw[yd,hT];dsimp only;rw[if_pos hl,hp,if_neg (by simp)];rfl
def zD{st:SO}{v:PV}:outI (.rt v st)=.ok v st:=rfl
def zdf{st s:SO}{b:Bool}:yc3 st (.rt (.bl b) s)=.ok (.bl b) st:=rfl
def zbO{st s:SO}{b:Int}:yc3 st (.rt (.int b) s)=.ok (.int b) st:=rfl
def yX:PV:=.tup [.int 2147483647,.int 2147483629,.int 2147483587,.int 2147483579,.int 2147483563]
def ycq:Css:=match yZ.body with
 |.cons _ (.cons _ (.cons (.for _ _ b) _))=>b
 |_=>.nil
def zan{c:Cl}{s num g p:Int}{i:Nat}{u5 u6 u7:Option PV}(hg:∀st,idxV st (.tup [.int 11,.int 101,.int 1009,.int 10007,.int 100003]) (.int i)=AA (.int g))(hi:i<5)(hp:0<p)(hp2:p<18446744073709551616):
  ∃num' v5 v6 v7,exs c [AA (.int s),AA yX,AA (.int num),AA (.int i),AA (.int p),u5,u6,u7] [] ycq=.nx [AA (.int s),AA yX,AA (.int num'),AA (.int i),AA (.int p),v5,v6,v7] []:=by
 have h1:∀z:Int,yt .mul (.int z) (.int (48271+2*(i:Int)))=AA (.int (z*(48271+2*(i:Int)))):=λz=>zm ∅;have h2:∀z y:Int,yt .mul (.int z) (.int (y%p))=AA (.int (z*(y%p))):=λz y=>zm (by
  have a:=Du y (show p≠0 by lia);have b:=DL y hp;lia)
 have h3:∀z:Int,yt .mul (.int z) (.int p)=AA (.int (z*p)):=λz=>zm ∅;erw[ycq,yZ,A2,Bg,Fy,Nat.reduceAdd,if_true,xs_cons,xs_nil,x_asg,IC.ve1,IC.ve2,IC.ve3,IC.ve11,IC.ve16,evs,AY,AX,bd_ok,fl_ok,toR_some,bT_n,nxO_some,th_nx,Au,Av,sizeMax,Nat.reduceLeDiff,b_add,b_mul2,hg,h1,h2,h3,zcp hp];exact⟨_,_,_,_,rfl⟩
def zd6{c:Cl}{s num:Int}{u5 u6 u7:Option PV}(i:Nat)(p:Int)(h:(i,p)∈[(0,(2147483647:Int)),(1,2147483629),(2,2147483587),(3,2147483579),(4,2147483563)]):
  ∃num' v5 v6 v7,exs c [AA (.int s),AA yX,AA (.int num),AA (.int i),AA (.int p),u5,u6,u7] [] ycq=.nx [AA (.int s),AA yX,AA (.int num'),AA (.int i),AA (.int p),v5,v6,v7] []:=by
 erw[Ab,Prod.mk.injEq,D9,or_false]at h;rcases h with⟨rfl,rfl⟩|⟨rfl,rfl⟩|⟨rfl,rfl⟩|⟨rfl,rfl⟩|⟨rfl,rfl⟩
 .exact zan (λ_=>rfl) ⋯ ⋯ ⋯
 .exact zan (λ_=>rfl) ⋯ ⋯ ⋯
 .exact zan (λ_=>rfl) ⋯ ⋯ ⋯
 .exact zan (λ_=>rfl) ⋯ ⋯ ⋯
 .exact zan (λ_=>rfl) ⋯ ⋯ ⋯
def ycJ:List PV:=[.tup [.int 0,.int 2147483647],.tup [.int 1,.int 2147483629],.tup [.int 2,.int 2147483587],.tup [.int 3,.int 2147483579],.tup [.int 4,.int 2147483563]]
theorem mixed(k:Nat)(s:Int)(st:SO):∃num,yd T (k+1) ydp [.int s] st=.ok (.int num) st:=by
 let⟨ρ',st',h,num,a,b,c,d,e,e1,e2⟩:=za5 (call:=yd T k) (t:=.t [3,4]) (b:=ycq) (λ_ ρ st=>∃num a b c d e,ρ=[AA (.int s),AA yX,AA (.int num),a,b,c,d,e]/\st=[]) ycJ 0 [AA (.int s),AA yX,AA (.int 0),AC,AC,AC,AC,AC] [] ⟨_,_,_,_,_,_,rfl,rfl⟩ (by
  rintro j x ρ st hx ⟨num,a,b,c,d,e,rfl,rfl⟩
  have hx:=AV hx;have hx:∃i p,x=.tup [.int ((i:Nat):Int),.int p]/\(i,p)∈[(0,(2147483647:Int)),(1,2147483629),(2,2147483587),(3,2147483579),(4,2147483563)]:=by
   erw[ycJ,Ab,D9,or_false]at hx;rcases hx with rfl|rfl|rfl|rfl|rfl
   .exact⟨0,_,rfl,by simp⟩
   .exact⟨1,_,rfl,by simp⟩
   .exact⟨2,_,rfl,by simp⟩
   .exact⟨3,_,rfl,by simp⟩
   .exact⟨4,_,rfl,by simp⟩
  let⟨i,p,rfl,hm⟩:=hx;let⟨num',v5,v6,v7,hh⟩:=zd6 (c:=yd T k) (s:=s) (num:=num) (u5:=c) (u6:=d) (u7:=e) i p hm;exact⟨_,_,_,rfl,hh,_,_,_,_,_,_,rfl,rfl⟩)
 subst e1 e2;refine⟨num,?_⟩;rw[yd];have hb:yZ.body=.cons (.asg (.n 1) (.tup (.cons (.cst (.int 2147483647)) (.cons (.cst (.int 2147483629)) (.cons (.cst (.int 2147483587)) (.cons (.cst (.int 2147483579)) (.cons (.cst (.int 2147483563)) .nil))))))) (.cons (.asg (.n 2) (.cst (.int 0))) (.cons (.for (.t [3,4]) (.enum (.var 1)) ycq) (.cons (.ret (.var 2)) .nil))):=rfl;have hT:T ydp=AA ⟨1,8,AD,yZ.body⟩:=rfl;have hp:PV.tup [.int 2147483647,.int 2147483629,.int 2147483587,.int 2147483579,.int 2147483563]=yX:=rfl;rw[hT,hb];have h5:ev (yd T k) [AA (.int s),AC,AC,AC,AC,AC,AC,AC] [] (.tup (.cons (.cst (.int 2147483647)) (.cons (.cst (.int 2147483629)) (.cons (.cst (.int 2147483587)) (.cons (.cst (.int 2147483579)) (.cons (.cst (.int 2147483563)) .nil))))))=.ok yX []:=by
  simp[IC.ve1,IC.ve11,evs,R.bind,sizeMax,yX]
 have he:evi (yd T k) [AA (.int s),AA yX,AA (.int 0),AC,AC,AC,AC,AC] [] (.enum (.var 1))=.ok ycJ []:=by
  simp[evi,IC.ve2,R.bind,yX,yP,ycJ]
 erw[A2,Bg,if_true,nLs,nL,Ch,AL,BE,Ci,Ak,B4,Bi,xs_cons,xs_nil,x_asg,x_for,x_ret,h5,R.fl,yG,nxO,yah,Au,Av,IC.ve1,he,h,IC.ve2,AY,AX]
set_option backward.eqns.nonrecursive true
local macro_rules | `(tactic| simp! [$xs,*])=>do
 let l<-("IC.xs_cons IC.xs_nil IC.x_asg IC.x_ite IC.x_ret IC.x_expr IC.x_for IC.x_six IC.evs IC.evi IC.ve1 IC.ve2 IC.ve3 IC.ve4 IC.ve5 IC.ve6 IC.ve7 IC.ve8 IC.ve9 IC.ve10 IC.ve11 IC.ve13 IC.ve16 IC.ve17 IC.ve18 IC.ve19 IC.ve20 IC.ve21 IC.ve24 IC.v_comp List.getElem?_cons_zero List.getElem?_cons_succ WK.bd_ok WK.fl_ok WK.bd_exc WK.fl_exc WK.toR_some IC.toL WK.bT_n WK.nxO_some WK.th_nx WK.th_rt WK.th_exc List.set_cons_zero List.set_cons_succ WK.on_t WK.t_bl WK.ono IC.onBl cond_true cond_false List.length_cons List.length_nil Nat.zero_add Nat.reduceAdd Nat.reduceSub Nat.reduceLeDiff if_true IC.nL IC.nLs WK.noLocs_ints Bool.and_self Bool.not_true Bool.not_false List.map_cons List.map_nil List.replicate List.cons_append List.nil_append List.append_nil Option.bind_none Option.bind_some Option.join_some WK.b_add WK.b_sub WK.b_mul2 WK.b_div2 WK.c_lt WK.c_le WK.c_gt WK.c_ge WK.c_eq WK.c_ne IC.PV.tup IC.sizeMax".splitOn " ").toArray.mapM λs=>`(Lean.Parser.Tactic.simpLemma| $(Lean.mkIdent s.toName):term)
 `(tactic| simp only[$l,*,$xs,*])
theorem rdS{st:SO}{n:Nat}{o x:Ob}(h:st[n]?=AA o):(st.set n x)[n]?=AA x:=by
 have:n<st.length:=by
  rcases Fz n st.length with h1|h1
  .exact h1
  .rw[CA h1]at h;cases h
 rw[BN this]
def zhL(ns:List Int)(a:Int)(h:ns≠[]):∃v,yaw (ns.map PV.int) (.int (a%(ns.length:Int)))=AA (.int v):=by
 have h0:0<ns.length:=EV.2 h;have h1:=Du a (show (ns.length:Int)≠0 by lia);have h2:=DL a (show (0:Int)<ns.length by lia);have h3:(a%(ns.length:Int)).toNat<ns.length:=by lia
 refine⟨ns[(a%(ns.length:Int)).toNat],?_⟩;simp[yaw,at?,ixI,h1,h2,h3]
def flT:Css:=match yN.body with
 |.cons _ (.cons _ (.cons _ t))=>t
 |x=>x
abbrev flS(l:PV)(a p:Int)(f:Bool):Ob:=.lst [l,.int a,.int p,.bl f]
def zjc{st:SO}{n:Nat}{l:PV}{a p v:Int}{f:Bool}(h:st[n]?=AA (flS l a p f)):yaP st (.loc n) (.int 1) (.int v)=AA (st.set n (flS l v p f)):=by erw[yaP,h];rfl
def zja{st:SO}{n:Nat}{l:PV}{a p v:Int}{f:Bool}(h:st[n]?=AA (flS l a p f)):yaP st (.loc n) (.int 2) (.int v)=AA (st.set n (flS l a v f)):=by erw[yaP,h];rfl
def ziP{st:SO}{n:Nat}{l:PV}{a p:Int}{f g:Bool}(h:st[n]?=AA (flS l a p f)):yaP st (.loc n) (.int 3) (.bl g)=AA (st.set n (flS l a p g)):=by erw[yaP,h];rfl
def zjt{st:SO}{n:Nat}{l:PV}{a p:Int}{f:Bool}(h:st[n]?=AA (flS l a p f)):idxV st (.loc n) (.int 0)=AA l:=by erw[idxV,h];rfl
def zju{st:SO}{n:Nat}{l:PV}{a p:Int}{f:Bool}(h:st[n]?=AA (flS l a p f)):idxV st (.loc n) (.int 1)=AA (.int a):=by erw[idxV,h];rfl
def zjv{st:SO}{n:Nat}{l:PV}{a p:Int}{f:Bool}(h:st[n]?=AA (flS l a p f)):idxV st (.loc n) (.int 3)=AA (.bl f):=by erw[idxV,h];rfl
theorem p18:yt .pow (.int 10) (.int 18)=AA (.int 1000000000000000000):=by with_unfolding_all rfl
def zcj(k n:Nat){l:PV}{m a v p q:Int}{f g:Bool}{st:SO}(h:st[n]?=AA (flS l a p f))(hl:∀st,yQ .len st [l]=AA (.int m))(hg:(decide (a ≥ m) || decide (v<1000000000000000000))=g)
  (h1:g=AD->yd T (k+1) ydp [.int v] (st.set n (flS l (a+1) p AD))=.ok (.int q) (st.set n (flS l (a+1) p AD))) (h2:g=AF->q=v-1000000000000000000):
  exs (yd T (k+1)) [AA (.loc n),AA l,AA (.int a),AA (.int v)] st flT=.nx [AA (.loc n),AA l,AA (.int a),AA (.int v)] (st.set n (flS l (a+1) q g)):=by
 have s1:=zjc h (v:=a+1);have r1:=rdS h (x:=flS l (a+1) p f);have s2:=ziP r1 (g:=g);have r2:=rdS r1 (x:=flS l (a+1) p g);have s3:=zja r2 (v:=q);have i3:=zjv r2;rw[Do]at s2 s3 i3 r2;rw[Do]at s3
 have hb:flT=(match flT with
  |.cons a (.cons (.six x y _) r)=>.cons a (.cons (.six x y (.or (.cmp .ge (.var 2) (.blt .len (.cons (.var 1) .nil))) (.cmp .lt (.var 3) (.bin .pow (.cst (.int 10)) (.cst (.int 18)))))) r)
  |x=>x):=rfl
 have hor:∀st,ev (yd T (k+1)) [AA (.loc n),AA l,AA (.int a),AA (.int v)] st (.or (.cmp .ge (.var 2) (.blt .len (.cons (.var 1) .nil))) (.cmp .lt (.var 3) (.bin .pow (.cst (.int 10)) (.cst (.int 18)))))=.ok (.bl g) st:=λst=>by
  cases c:decide (a ≥ m)
  .rw[c,Fb]at hg;simp! [hl,c,p18,hg]
  .rw[c,Fp]at hg;subst hg;simp! [hl,c]
 generalize hE:(Ce.or (.cmp .ge (.var 2) (.blt .len (.cons (.var 1) .nil))) (.cmp .lt (.var 3) (.bin .pow (.cst (.int 10)) (.cst (.int 18)))))=E at *
 cases g with
 |true=>
  have h1:=h1 rfl;rw[hb];simp! [flT,yN,stO,s1,hor,s2,i3,h1,s3]
 |false=>
  have h2:=h2 rfl;subst h2;rw[hb];simp! [flT,yN,stO,s1,hor,s2,i3,p18,s3]
theorem fill(k n:Nat)(ns:List Int)(hns:ns.length<=1000)(a p:Int)(ha:0<=a)(f:Bool)(st:SO)(h:st[n]?=AA (.lst [.lst (ns.map .int),.int a,.int p,.bl f])):
  ∃p' f',yd T (k+2) yd0 [.loc n] st=.ok .non (st.set n (.lst [.lst (ns.map .int),.int (a+1),.int p',.bl f'])):=by
 have hT:T yd0=AA ⟨1,4,AF,yN.body⟩:=rfl;have hl:∀st,yQ .len st [.lst (ns.map .int)]=AA (.int (ns.length:Int)):=λst=>by
  show AA (PV.int (((ns.map PV.int).length:Nat):Int))=_;simp
 have i0:=zjt h;have i1:=zju h;have bt:∀(a b:PV) (ρ:IC.Env),yG (.t [1,2]) (.tp AF [a,b]) ρ=AA ((ρ.set 1 (AA a)).set 2 (AA b)):=λ_ _ _=>rfl
 have hb:yN.body=(match yN.body with
  |.cons a (.cons b (.cons c _))=>.cons a (.cons b (.cons c flT))
  |x=>x):=rfl
 have m31:yt .mul (.int 31) (.int a)=AA (.int (31*a)):=zP ⋯;obtain⟨v,hv⟩:∃v,exs (yd T (k+1)) [AA (.loc n),AC,AC,AC] st yN.body=exs (yd T (k+1)) [AA (.loc n),AA (.lst (ns.map .int)),AA (.int a),AA (.int v)] st flT:=by
  by_cases hn:ns=[]
  .have c0:decide ((ns.length:Int) > 0)=false:=by subst hn;rfl
   refine⟨31*a+7,?_⟩;rw[hb];generalize flT=F,ns.map PV.int=L at *;simp! [yN,i0,i1,bt,m31,hl,c0]
  .have h0:0<ns.length:=EV.2 hn;let⟨v,hv⟩:=zhL ns a hn;have c0:decide ((ns.length:Int) > 0)=true:=decide_eq_true ∅;have d1:=zee (i:=a) (j:=(ns.length:Int)) ∅ ∅;have d2:=zcp (i:=a) (j:=(ns.length:Int)) ∅;have m1:yt .mul (.int 104729) (.int (a/(ns.length:Int)))=AA (.int (104729*(a/(ns.length:Int)))):=zP ⋯;have ix:∀st,idxV st (.lst (ns.map .int)) (.int (a%(ns.length:Int)))=AA (.int v):=λ_=>hv;refine⟨104729*(a/(ns.length:Int))+v,?_⟩;rw[hb];generalize flT=F,ns.map PV.int=L at *;simp! [yN,i0,i1,bt,m31,hl,c0,d1,d2,m1,ix]
 cases c:(decide (a ≥ (ns.length:Int)) || decide (v<1000000000000000000))with
 |true=>
  let⟨q,hq⟩:=mixed k v (st.set n (flS (.lst (ns.map .int)) (a+1) p AD));refine⟨q,AD,?_⟩;rw[zh hT rfl rfl];have e:=zcj k n h hl c (λ_=>hq) (λh=>nomatch h);rw[<-hv]at e;exact(congrArg _ e).trans rfl
 |false=>
  refine⟨v-1000000000000000000,AF,?_⟩;rw[zh hT rfl rfl];have e:=zcj k n h hl c (λh=>nomatch h) (λ_=>rfl);rw[<-hv]at e;exact(congrArg _ e).trans rfl
def yaQ:Ce:=match yH.body with
 |.cons _ (.cons (.while c _) _)=>c
 |_=>.nope
def ya4:Css:=match yH.body with
 |.cons _ (.cons (.while _ b) _)=>b
 |_=>.nil
def zcT{c:Cl}{n:Nat}{ns:List Int}{a p m t:Int}{f:Bool}{u:Option PV}{st:SO}(h:st[n]?=AA (.lst [.lst (ns.map .int),.int a,.int p,.bl f])):
  ∃B,ev c [AA (.loc n),AA (.int m),AA (.int t),u] st yaQ=.ok (.bl B) st/\(B=AD->t<64):=by
 by_cases h1:t<64
 .by_cases h2:p=0
  .refine⟨AD,?_,λ_=>h1⟩;erw[yaQ,yH,IC.ve1,IC.ve2,IC.ve3,IC.ve6,IC.ve7,IC.ve8,IC.ve16,R.bind,AY,AX,h,idxV,yaw,at?,ixI,yt,binI,yac,toR,yw,ya2,onBl];simp[h1,h2,zau,peq]
  .have h2:(p==0)=false:=by simp[h2]
   cases f
   .refine⟨AF,?_,λ_=>h1⟩;erw[yaQ,yH,IC.ve1,IC.ve2,IC.ve3,IC.ve6,IC.ve7,IC.ve8,IC.ve16,R.bind,AY,AX,h,idxV,yaw,at?,ixI,yt,binI,yac,toR,yw,ya2,onBl];simp[h,h1,h2,zau,peq]
   .refine⟨decide (p<m*4096),?_,λ_=>h1⟩;erw[yaQ,yH,IC.ve1,IC.ve2,IC.ve3,IC.ve6,IC.ve7,IC.ve8,IC.ve16,R.bind,AY,AX,h,idxV,yaw,at?,ixI,yt,binI,yac,toR,yw,ya2,onBl];simp[h,h1,h2,zau,peq]
 .refine⟨AF,?_,λz=>by cases z⟩;erw[yaQ,yH,IC.ve1,IC.ve2,IC.ve3,IC.ve6,IC.ve7,IC.ve8,IC.ve16,R.bind,AY,AX,h,idxV,yaw,at?,ixI,yt,binI,yac,toR,yw,ya2,onBl];simp[h1]
def zcS(k:Nat){n:Nat}{ns:List Int}(hns:ns.length<=1000){a p m t:Int}(ha:0<=a){f:Bool}{u:Option PV}{st:SO}(h:st[n]?=AA (.lst [.lst (ns.map .int),.int a,.int p,.bl f])):
  ∃p' f',exs (yd T (k+2)) [AA (.loc n),AA (.int m),AA (.int t),u] st ya4=.nx [AA (.loc n),AA (.int m),AA (.int (t+1)),u] (st.set n (.lst [.lst (ns.map .int),.int (a+1),.int p',.bl f'])):=by
 let⟨q,g,hq⟩:=fill k n ns hns a p ha f st h;have hm:(1+q%4093).natAbs<18446744073709551616:=by lia
 have hau:∀st,ex (yd T (k+2)) [AA (.loc n),AA (.int m),AA (.int t),u] st (.aug 2 .add (.cst (.int 1)))=.nx [AA (.loc n),AA (.int m),AA (.int (t+1)),u] st:=λst=>by
  rw[zib (x:=.int t) rfl];simp[IC.ve1,R.fl,yaH,yt,binI,nxO]
 cases g
 .refine⟨q,AF,?_⟩;erw[ya4,yH,xs_cons,xs_nil,x_expr,x_ite,x_six,hau,yah,nxO,IC.ve1,IC.ve2,IC.ve3,IC.ve6,IC.ve8,IC.ve16,IC.ve18,evs,R.fl,R.bind,hq,yaH,yt,binI,Ar,Au,Av,AY,AX,rdS h,idxV,yaw,at?,ixI,yac,toR,yw,ya2,onBl,onF,yao];simp[rdS h]
 .by_cases hl:q<m*4096
  .refine⟨q+m*4096*(1+q%4093),AD,?_⟩;erw[ya4,yH,xs_cons,xs_nil,x_expr,x_ite,x_six,hau,yah,nxO,IC.ve1,IC.ve2,IC.ve3,IC.ve6,IC.ve8,IC.ve16,IC.ve18,evs,R.fl,R.bind,hq,yaH,yt,binI,Ar,Au,Av,AY,AX,rdS h,idxV,yaw,at?,ixI,yac,toR,yw,ya2,onBl,onF,yao,stO,yaP];simp[rdS h,hl,hm]
  .refine⟨q,AD,?_⟩;erw[ya4,yH,xs_cons,xs_nil,x_expr,x_ite,x_six,hau,yah,nxO,IC.ve1,IC.ve2,IC.ve3,IC.ve6,IC.ve8,IC.ve16,IC.ve18,evs,R.fl,R.bind,hq,yaH,yt,binI,Ar,Au,Av,AY,AX,rdS h,idxV,yaw,at?,ixI,yac,toR,yw,ya2,onBl,onF,yao];simp[rdS h,hl]
def zby(k:Nat){n:Nat}{ns:List Int}(hns:ns.length<=1000){m:Int}{u:Option PV}:∀(r N:Nat) (t a p:Int) (f:Bool) (st:SO),r<=N->64-t<=r->0<=a->st[n]?=AA (.lst [.lst (ns.map .int),.int a,.int p,.bl f]) ->
  ∃t' a' p' f',0<=a'/\yas (yd T (k+2)) yaQ ya4 (N+1) [AA (.loc n),AA (.int m),AA (.int t),u] st=.nx [AA (.loc n),AA (.int m),AA (.int t'),u] (st.set n (.lst [.lst (ns.map .int),.int a',.int p',.bl f']))
 |r,N,t,a,p,f,st,hN,ht,ha,h=>by
  let⟨B,hB,hb⟩:=zcT (c:=yd T (k+2)) (m:=m) (t:=t) (u:=u) h;have hs:st.set n (.lst [.lst (ns.map .int),.int a,.int p,.bl f])=st:=by
   refine List.ext_getElem? λi=>?_;rw[DX];split
   .rename_i e;subst e;split
    .exact h.symm
    .rename_i z;rw[CA ∅]at h
     cases h
   .rfl
  cases B with
  |false=>exact⟨t,a,p,f,ha,by rw[zbS hB rfl,hs]⟩
  |true=>
   have h64:=hb rfl
   match r,N with
   |0,_=>exact absurd ht ∅
   |r+1,N+1=>
    let⟨p1,f1,hx⟩:=zcS k hns (m:=m) (t:=t) ha (u:=u) h;let⟨t',a',p',f',h0,h2⟩:=zby k hns (m:=m) (u:=u) r N (t+1) (a+1) p1 f1 _ ∅ ∅ ∅ (rdS h);refine⟨t',a',p',f',h0,?_⟩;rw[zdN hB rfl hx,h2,Do]
theorem take(k n:Nat)(ns:List Int)(hns:ns.length<=1000)(a p m:Int)(ha:0<=a)(hm:0<m)(hm2:m<10000000000000000000000000000000000000000000000000000000000000000000000)(f:Bool)(st:SO)(h:st[n]?=AA (.lst [.lst (ns.map .int),.int a,.int p,.bl f])):
  ∃d a' p' f',0<=d/\d<m/\0<=a'/\yd T (k+3) ydL [.loc n,.int m] st=.ok (.int d) (st.set n (.lst [.lst (ns.map .int),.int a',.int p',.bl f'])):=by
 let⟨t',a',p',f',h0,h2⟩:=zby k hns (m:=m) (u:=AC) 64 99999 0 a p f st ∅ ∅ ha h;refine⟨p'%m,a',p'/m,f',Du _ ∅,DL _ hm,h0,?_⟩;have hb:yH.body=.cons (.asg (.n 2) (.cst (.int 0))) (.cons (.while yaQ ya4) (.cons (.asg (.n 3) (.bin .mod (.idx (.var 0) (.cst (.int 2))) (.var 1))) (.cons (.six (.var 0) (.cst (.int 2)) (.bin .fdiv (.idx (.var 0) (.cst (.int 2))) (.var 1))) (.cons (.ret (.var 3)) .nil)))):=rfl;have hT:T ydL=AA ⟨2,4,AF,yH.body⟩:=rfl;rw[yd,hT,hb];erw[A2,Bg,if_true,AL,BE,Ci,Ak,B4,Bi,xs_cons,xs_nil,x_asg,zgt,x_six,x_ret,yah,nxO,stO,IC.ve1,IC.ve2,IC.ve3,IC.ve16,R.fl,R.bind,yG,Au,Av,AY,AX,h2,rdS h,idxV,yaw,at?,ixI,yt,binI,hm,hm2,and_self,toR,yaP];simp[rdS h,hm,hm2]
def Drw(ns:List Int)(n:Nat)(st:SO):Prop:=∃a p f,0<=a/\st[n]?=AA (.lst [.lst (ns.map .int),.int a,.int p,.bl f])
def Onl(ns:List Int)(n:Nat)(st st':SO):Prop:=∃a p f,0<=a/\st'=st.set n (.lst [.lst (ns.map .int),.int a,.int p,.bl f])
theorem Onl.drw{ns:List Int}{n:Nat}{st st':SO}(h:Drw ns n st)(o:Onl ns n st st'):Drw ns n st':=by
 let⟨a,p,f,ha,h⟩:=h;let⟨b,q,g,hb,rfl⟩:=o;exact⟨b,q,g,hb,rdS h⟩
theorem Onl.trans{ns:List Int}{n:Nat}{st st1 st2:SO}(o:Onl ns n st st1)(o2:Onl ns n st1 st2):Onl ns n st st2:=by
 let⟨b,q,g,hb,rfl⟩:=o;let⟨c,r,j,hc,rfl⟩:=o2;exact⟨c,r,j,hc,by rw[Do]⟩
def zac(k:Nat){n:Nat}{ns:List Int}(hns:ns.length<=1000){m:Int}(hm:0<m)(hm2:m<10000000000000000000000000000000000000000000000000000000000000000000000){st:SO}(h:Drw ns n st):
  ∃d st',0<=d/\d<m/\Onl ns n st st'/\yd T (k+3) ydL [.loc n,.int m] st=.ok (.int d) st':=by
 let⟨a,p,f,ha,h⟩:=h;let⟨d,a',p',f',h1,h2,h3,h4⟩:=take k n ns hns a p m ha hm hm2 f st h;exact⟨d,_,h1,h2,⟨_,_,_,h3,rfl⟩,h4⟩
theorem sizes(k:Nat){n:Nat}{ns:List Int}(hns:ns.length<=1000){m:Int}(hm:0<m)(hm2:m<=100){st:SO}(h:Drw ns n st):
  ∃w z st',4<=w/\w<=16/\1<=z/\z<=m/\Onl ns n st st'/\yd T (k+4) yd4 [.loc n,.int m] st=.ok (.tup [.int w,.int z]) st':=by
 let⟨d,s1,d1,d2,o1,e1⟩:=zac k hns (m:=13) ∅ ∅ h;let⟨e,s2,d3,d4,o2,e2⟩:=zac k hns (m:=m) hm ∅ (o1.drw h);refine⟨4+d,1+e,s2,by lia,by lia,by lia,by lia,o1.trans o2,?_⟩;have hT:T yd4=AA ybP:=rfl;rw[yd,hT];erw[ybP,A2,Bg,if_true,AL,BE,Ci,Ak,B4,Bi,xs_cons,xs_nil,x_ret,yah,IC.ve1,IC.ve2,IC.ve3,IC.ve11,IC.ve18,evs,R.fl,R.bind,AY,AX,e1,e2,yt,binI,toR];simp[sizeMax]
theorem fresh(k:Nat)(ns:List Int)(h:ns.length<=63)(st:SO):∃v,yd T (k+1) ydT [.scr (ns.map .int)] st=.ok (.loc st.length) (st++[v])/\v=.lst [.lst (ns.map .int),.int 0,.int 0,.bl AF]:=by
 have hT:T ydT=AA yby:=rfl;refine⟨_,?_,rfl⟩;rw[yd,hT];erw[yby,A2,Bg,if_true,AL,BE,Ci,Ak,B4,Bi,xs_cons,xs_nil,x_ret,yah,ev,evs,R.fl,R.bind,AY,toR];have hc:ybL (.scr (ns.map PV.int)) AC (.int 63)=AA (.lst (ns.map .int)):=by
  have hk:ybf ns.length 63=ns.length:=by
   show min 63 ns.length=ns.length;lia
  simp[ybL,ybl,ybz,cut,yca,ycv,hk]
  try rw[<-A4 (f:=PV.int),FI]
 simp[ybl,onP,hc,sizeMax]
def zeh{c:Cl}{N acc lo:Int}{st:SO}:exs c [AA (.int N),AA (.int acc),AA (.int lo)] st (.cons (.asg (.n 1) (.bin .mul (.cst (.int 2)) (.var 1))) .nil)=.nx [AA (.int N),AA (.int (2*acc)),AA (.int lo)] st:=by
 erw[xs_nil,xs_cons,x_asg,yah,nxO,IC.ve1,IC.ve2,IC.ve3,R.bind,R.fl,yG,yt,binI,yac,toR,Au,Av,AY,AX];simp
def zhE(k n:Nat)(hn:n<1000)(st:SO):yd T (k+1) yd5 [.int n] st=.ok (.int (2^n)) st:=by
 let⟨ρ',st',h,u,e1,e2⟩:=za5 (call:=yd T k) (t:=.n 2) (b:=.cons (.asg (.n 1) (.bin .mul (.cst (.int 2)) (.var 1))) .nil) (λi ρ st=>∃u,ρ=[AA (.int n),AA (.int (2^i)),u]/\st=[]) (yo n 0 1) 0 [AA (.int n),AA (.int 1),AC] [] ⟨_,rfl,rfl⟩ (by
  rintro j x ρ st hx ⟨u,rfl,rfl⟩
  have hx:∃i,x=.int i:=by
   have:∀(n:Nat) (a d:Int) (j:Nat) x,(yo n a d)[j]?=AA x->∃i,x=.int i:=by
    intro n
    induction n with
    |zero=>intro a d j x h;simp[yo]at h
    |succ n ih=>
     intro a d j x h
     cases j with
     |zero=>simp[yo]at h;exact⟨a,h.symm⟩
     |succ j=>simp[yo]at h;exact ih _ _ _ _ h
   exact this _ _ _ _ _ hx
  let⟨i,rfl⟩:=hx;exact⟨_,_,_,rfl,zeh,_,by rw[Int.pow_succ,Int.mul_comm],rfl⟩)
 have hl:(yo n 0 1).length=n:=by
  have:∀(n:Nat) (a d:Int),(yo n a d).length=n:=by
   intro n
   induction n with
   |zero=>intro a d;rfl
   |succ n ih=>intro a d;simp[yo,ih]
  exact this _ _ _
 rw[hl,Fy]at e1;subst e1 e2;rw[yd,show T yd5=AA yn from rfl];erw[yn,A2,Bg,if_true,nLs,nL,Ch,AL,BE,Ci,Ak,B4,Bi,xs_cons,xs_nil,x_asg,x_for,x_ret,yah,nxO,IC.ve1,IC.ve2,R.fl,yG,Au,Av,evi,R.bind,AY,yb7,toL];erw[show (n:Int).natAbs<1000000000 by lia,if_true,DU,h];simp[nL]
local macro_rules | `(tactic| simp! [$xs,*])=>do
 let l<-("IC.xs_cons IC.xs_nil IC.x_asg IC.x_ite IC.x_ret IC.x_expr IC.x_for IC.x_six IC.evs IC.evi IC.ve1 IC.ve2 IC.ve3 IC.ve4 IC.ve5 IC.ve6 IC.ve7 IC.ve8 IC.ve9 IC.ve10 IC.ve11 IC.ve13 IC.ve16 IC.ve17 IC.ve18 IC.ve19 IC.ve20 IC.ve21 IC.ve24 IC.ve32 IC.ve45 IC.v_comp List.getElem?_cons_zero List.getElem?_cons_succ WK.bd_ok WK.fl_ok WK.bd_exc WK.fl_exc WK.toR_some IC.toL WK.bT_n WK.nxO_some WK.th_nx WK.th_rt WK.th_exc List.set_cons_zero List.set_cons_succ WK.on_t WK.t_bl WK.ono IC.onBl cond_true cond_false List.length_cons List.length_nil Nat.zero_add Nat.reduceAdd Nat.reduceSub Nat.reduceLeDiff if_true IC.nL IC.nLs WK.noLocs_ints Bool.and_self Bool.not_true Bool.not_false List.map_cons List.map_nil List.replicate List.cons_append List.nil_append List.append_nil Option.bind_none Option.bind_some Option.join_some WK.b_add WK.b_sub WK.b_mul2 WK.b_div2 WK.c_lt WK.c_le WK.c_gt WK.c_ge WK.c_eq WK.c_ne IC.PV.tup IC.sizeMax".splitOn " ").toArray.mapM λs=>`(Lean.Parser.Tactic.simpLemma| $(Lean.mkIdent s.toName):term)
 `(tactic| simp only[$l,*,$xs,*])
abbrev big:Int->Prop:=λx=>x.natAbs<18446744073709551616
def zaf(k:Nat){a b c d n i j:Int}(hn:big n)(hi:big i)(hj:big j)(st:SO):
  yd T (k+1) ydO [.tup [.int a,.int b,.int c,.int d],.int n,.int i,.int j] st=.ok (.int (a+b*i+c*j+d*n)) st:=by
 rw[zu (show T ydO=AA yl from rfl) rfl rfl rfl];simp! [yl,ix0,ix1,ix2,ix3,zm hn,zm hi,zm hj,zbO]
def zhD(k:Nat){a b c d n i j:Int}(hn:big n)(hi:big i)(hj:big j)(st:SO):
  yd T (k+1) yd6 [.tup [.int a,.int b,.int c,.int d],.int i,.int j,.int n] st=.ok (.int (a+b*i+c*j+d*n)) st:=by
 rw[zu (show T yd6=AA ycs from rfl) rfl rfl rfl];simp! [ycs,ix0,ix1,ix2,ix3,zm hn,zm hi,zm hj,zbO]
abbrev cM:Nat:=20
def mob(w n i j:Int)(L:Nat)(mk:Int):Ob:=.ins cM [(AK "w",.int w),(AK "n",.int n),(AK "i",.int i),(AK "j",.int j),(AK "words",.loc L),(AK "marked",.int mk)]
section
variable {st:SO}{m L:Nat}{w n i j mk:Int}
theorem f_w(h:st[m]?=AA (mob w n i j L mk)):yaK cM st (.loc m) (AK "w")=AA (.int w):=by erw[yaK,h,mob,if_true];with_unfolding_all rfl
theorem f_n(h:st[m]?=AA (mob w n i j L mk)):yaK cM st (.loc m) (AK "n")=AA (.int n):=by erw[yaK,h,mob,if_true];with_unfolding_all rfl
theorem f_i(h:st[m]?=AA (mob w n i j L mk)):yaK cM st (.loc m) (AK "i")=AA (.int i):=by erw[yaK,h,mob,if_true];with_unfolding_all rfl
theorem f_j(h:st[m]?=AA (mob w n i j L mk)):yaK cM st (.loc m) (AK "j")=AA (.int j):=by erw[yaK,h,mob,if_true];with_unfolding_all rfl
def zhw(h:st[m]?=AA (mob w n i j L mk)):yaK cM st (.loc m) (AK "words")=AA (.loc L):=by erw[yaK,h,mob,if_true];with_unfolding_all rfl
def zjw(h:st[m]?=AA (mob w n i j L mk)):yaK cM st (.loc m) (AK "marked")=AA (.int mk):=by erw[yaK,h,mob,if_true];with_unfolding_all rfl
theorem ix5{st:SO}{k:Bool}{a b c d e f:PV}:idxV st (.tp k [a,b,c,d,e,f]) (.int 5)=AA f:=rfl
def ybU(w n i j c a b p q r:Int):Int:=c+a*i+b*j+w*(p*i+q*j+r*n)
theorem bT6{ρ:IC.Env}{a b c d e f:Nat}{x1 x2 x3 x4 x5 x6:PV}{kk:Bool}:yG (.t [a,b,c,d,e,f]) (.tp kk [x1,x2,x3,x4,x5,x6]) ρ=AA ((((((ρ.set a (AA x1)).set b (AA x2)).set c (AA x3)).set d (AA x4)).set e (AA x5)).set f (AA x6)):=rfl
def ziE(k:Nat){c a b p q r:Int}(h:st[m]?=AA (mob w n i j L mk))(hw:big w)(hn:big n)(hi:big i)(hj:big j):
  yd T (k+1) yY [.tup [.int c,.int a,.int b,.int p,.int q,.int r],.loc m] st=.ok (.int (ybU w n i j c a b p q r)) st:=by
 rw[zh (show T yY=AA ym from rfl) rfl rfl];simp! [ym,bT6,f_w h,f_n h,f_i h,f_j h,zm hn,zm hi,zm hj,zP hw,zD,ybU]
def zfN(k:Nat){c a b p q r:Int}(hw:big w)(hn:big n)(hi:big i)(hj:big j):
  yd T (k+1) yed [.tup [.int c,.int a,.int b,.int p,.int q,.int r],.tup [.int w,.int n],.int i,.int j] st=.ok (.int (ybU w n i j c a b p q r)) st:=by
 rw[zu (show T yed=AA yv from rfl) rfl rfl rfl];simp! [yv,ix0,ix1,ix2,ix3,ix4,ix5,zm hn,zm hi,zm hj,zP hw,zbO,ybU]
end
abbrev yaq:Str:=AK "mark"
abbrev yx:Str:=AK "slice"
abbrev sA:Str:=AK "a"
abbrev bd(s:Int):Bool:=decide (0<=s)&&decide (s<=100)
abbrev pl(x:Int×Int×Int×Int)(n i j:Int):Int:=x.1+x.2.1*i+x.2.2.1*j+x.2.2.2*n
abbrev q4(x:Int×Int×Int×Int):PV:=.tup [.int x.1,.int x.2.1,.int x.2.2.1,.int x.2.2.2]
def zg4:yw .eq (.str yx) (.str yaq)=AA (.bl AF):=by
 erw[yw];rw[if_pos (by decide +kernel),show peq (.str yx) (.str yaq)=AF by erw[peq];decide +kernel]
def zi4:yw .eq (.str yaq) (.str yaq)=AA (.bl AD):=by
 erw[yw];rw[if_pos (by decide +kernel),show peq (.str yaq) (.str yaq)=AD by erw[peq];decide +kernel]
def kv1(o:Option Int):List (PV×PV):=match o with
 |none=>[]
 |some x=>[(.tup [.str sA,.int 99],.int x)]
def zf9{o:Option Int}{l:AM}(hl:(sA==l)=AF)(a:Int):look (.tup [.str l,.int a]) (kv1 o)=none:=by
 cases o with
 |none=>rfl
 |some x=>erw[kv1,look,peq,yaO,hl,Bq];rfl
def zbY{s:Int}{st:SO}{call:Cl}{ρ:IC.Env}{i:Nat}(h:ρ[i]?=AA (AA (.int s))):ev call ρ st (.chain .le .le (.cst (.int 0)) (.var i) (.cst (.int 100)))=.ok (.bl (bd s)) st:=by
 by_cases h0:0<=s
 .simp! [h,blO,h0,decide_true,bd,BJ]
 .simp! [h,blO,h0,decide_false,bd,Bq]
def zhJ{L:Nat}{st:SO}{kvs:List (PV×PV)}{l:AM}{a:Int}(h:st[L]?=AA (.dct AD kvs)):ycP st (.loc L) (.tp AF [.str l,.int a]) (.int 0)=.ok ((look (.tup [.str l,.int a]) kvs).getD (.int 0)) st:=by
 erw[ycP,yaz,h];exact if_pos rfl
def zbg:∀n:Nat,yaF (Ak n (PV.int 0))=AA 0
 |0=>rfl
 |n+1=>by rw[List.replicate_succ,yaF,zbg n];rfl
def zh5{x:PV}{n:Nat}{a:Int}(h:x∈yo n a 1):∃j:Nat,j<n/\x=.int (a+j):=by
 induction n generalizing a with
 |zero=>cases h
 |succ n ih=>
  rw[yo]at h;rcases Ab.1 h with rfl|h
  .exact⟨0,by lia,by simp⟩
  .let⟨j,hj,rfl⟩:=ih h;exact⟨j+1,by lia,by rw[show a+1+(j:Int)=a+((j+1:Nat):Int)by lia]⟩
def zaY(n:Nat)(a:Int):(yo n a 1).length=n:=by
 induction n generalizing a with
 |zero=>rfl
 |succ n ih=>rw[yo,A2,ih]
section
variable {st:SO}{m L:Nat}{w n i j mk:Int}{o:Option Int}
def zfv(k:Nat)(h:st[m]?=AA (mob w n i j L mk)):yd T (k+2) yf [.tup [.str yaq],.loc m] st=.ok (.int mk) st:=by
 rw[zh (show T yf=AA yh from rfl) rfl rfl];simp! [yh,ix0,zi4,zjw h,zD]
def thC:Ce:=match yh.body with
 |.cons _ (.cons _ (.cons _ (.cons _ (.cons (.ret (.blt _ (.cons (.comp _ _ _ _ e) _))) _))))=>e
 |_=>.nope
def zgw(k:Nat){l:AM}{lo hi:PV}{s a:Int}(hl:(sA==l)=AF)(h:st[m]?=AA (mob w n i j L mk))(hd:st[L]?=AA (.dct AD (kv1 o)))(hw:big w)(h0:0<=w*(a-s))(h1:w*(a-s)<=1000000):
  yaG (yd T k) [AC,AA (.loc m),AA (.int s),AA (.tup [.str yx,.str l,lo,hi])] (.n 0) (.cst (.bl AD)) thC (.int a) st=.ok (AA (.int 0)) st:=by
 have e:yt .shl (.int 0) (.int (w*(a-s)))=AA (.int 0):=by
  erw[yt,binI];rw[if_pos ⟨h0,h1,by decide⟩,Ez]
 have g:=zhJ (l:=l) (a:=a) hd;rw[zf9 hl]at g;simp! [yaG,thC,yh,ix1,zhw h,f_w h,yad,yaz,hd,Ar,ya8,g,D6,zP hw,e]
def thR:Css:=match yh.body with
 |.cons _ (.cons _ (.cons _ r))=>r
 |_=>.nil
def zgH(k:Nat){l:AM}{lo hi:PV}{s e:Int}(hl:(sA==l)=AF)(h:st[m]?=AA (mob w n i j L mk))(hd:st[L]?=AA (.dct AD (kv1 o)))(w0:0<=w)(w1:w<=16):
  exs (yd T k) [AA (.tup [.str yx,.str l,lo,hi]),AA (.loc m),AA (.int s),AA (.int e)] st thR=.rt (if bd s&&bd e then .int 0 else .non) st:=by
 have e100:yz=.int 100:=rfl;have c1:=zbY (s:=s) (st:=st) (call:=yd T k) (ρ:=[AA (.tup [.str yx,.str l,lo,hi]),AA (.loc m),AA (.int s),AA (.int e)]) (i:=2) rfl;have c2:=zbY (s:=e) (st:=st) (call:=yd T k) (ρ:=[AA (.tup [.str yx,.str l,lo,hi]),AA (.loc m),AA (.int s),AA (.int e)]) (i:=3) rfl;have hb:thR=.cons (.ite (.or (.not (.chain .le .le (.cst (.int 0)) (.var 2) (.cst (.int 100)))) (.not (.chain .le .le (.cst (.int 0)) (.var 3) (.cst (.int 100))))) (.cons (.ret (.cst .non)) .nil) .nil) (.cons (.ret (.blt .sum (.cons (.comp [AC,AA 1,AA 2,AA 0] (.n 0) (.range2 (.var 2) (.var 3)) (.cst (.bl AD)) thC) .nil))) .nil):=rfl;rw[hb];have co:ev (yd T k) [AA (.tup [.str yx,.str l,lo,hi]),AA (.loc m),AA (.int s),AA (.int e)] st (.or (.not (.chain .le .le (.cst (.int 0)) (.var 2) (.cst (.int 100)))) (.not (.chain .le .le (.cst (.int 0)) (.var 3) (.cst (.int 100)))))=.ok (.bl !(bd s&&bd e)) st:=by
  rw[IC.ve7,IC.ve5,c1]
  cases hs:bd s with
  |false=>rfl
  |true=>
   erw[R.bind,onBl,Ff,cond_false,IC.ve5,c2,BJ]
 rw[xs_cons,x_ite,co]
 cases hs:(bd s&&bd e)with
 |false=>rfl
 |true=>
  erw[bd,AG,decide_eq_true_eq]at hs;let⟨⟨s0,s1⟩,e0,e1⟩:=hs;have hr:yb8 (.int s) (.int e)=AA (yo (e-s).toNat s 1):=by
   erw[yb8];rw[if_pos ⟨by lia,by lia⟩]
  have cm:=zbz (call:=yd T k) (st:=st) (ρ0:=[AC,AA (.loc m),AA (.int s),AA (.tup [.str yx,.str l,lo,hi])]) (t:=.n 0) (c:=.cst (.bl AD)) (e:=thC) (f:=λ_=>.int 0) (yo (e-s).toNat s 1) λx hx=>by
   let⟨q,hq,rfl⟩:=zh5 hx;have hq2:s+(q:Int)-s=q:=by lia
   have hq3:w*(q:Int)<=16*100:=by
    have h1:=Int.mul_le_mul_of_nonneg_right w1 (show (0:Int)<=q by lia);lia
   exact zgw k hl h hd (by show w.natAbs<_;lia) (by rw[hq2];exact Int.mul_nonneg w0 ∅) (by rw[hq2];lia)
  have hsum:yQ .sum st [.lst ((yo (e-s).toNat s 1).map λ_=>PV.int 0)]=AA (.int 0):=by
   rw[List.map_const',zaY];erw[yQ,yr,Am,zbg,Ar]
  simp! [hr,cm,zG _ (show ((yo (e-s).toNat s 1).map λ_=>PV.int 0).length<=1000000 by rw[A4,zaY];lia),hsum]
def zeq(k:Nat){l:AM}{lo hi:Int×Int×Int×Int}(hl:(sA==l)=AF)(h:st[m]?=AA (mob w n i j L mk))(hd:st[L]?=AA (.dct AD (kv1 o)))(w0:0<=w)(w1:w<=16)(hn:big n)(hi':big i)(hj:big j):
  yd T (k+2) yf [.tup [.str yx,.str l,q4 lo,q4 hi],.loc m] st=.ok (if bd (pl lo n i j)&&bd (pl hi n i j)then .int 0 else .non) st:=by
 rw[zh (show T yf=AA yh from rfl) rfl rfl];have p1:=λst=>zaf k (a:=lo.1) (b:=lo.2.1) (c:=lo.2.2.1) (d:=lo.2.2.2) hn hi' hj st;have p2:=λst=>zaf k (a:=hi.1) (b:=hi.2.1) (c:=hi.2.2.1) (d:=hi.2.2.2) hn hi' hj st;erw[PV.tup]at p1 p2;have hb:yh.body=.cons (.ite (.cmp .eq (.idx (.var 0) (.cst (.int 0))) (.cst (.str "mark"))) (.cons (.ret (.fld 20 (.var 1) (AK "marked"))) .nil) .nil) (.cons (.asg (.n 2) (.call 3 (.cons (.idx (.var 0) (.cst (.int 2))) (.cons (.fld 20 (.var 1) (AK "n")) (.cons (.fld 20 (.var 1) (AK "i")) (.cons (.fld 20 (.var 1) (AK "j")) .nil)))))) (.cons (.asg (.n 3) (.call 3 (.cons (.idx (.var 0) (.cst (.int 3))) (.cons (.fld 20 (.var 1) (AK "n")) (.cons (.fld 20 (.var 1) (AK "i")) (.cons (.fld 20 (.var 1) (AK "j")) .nil)))))) thR)):=rfl;rw[hb];have r:=zgH (k+1) (lo:=q4 lo) (hi:=q4 hi) (s:=pl lo n i j) (e:=pl hi n i j) hl h hd w0 w1;erw[q4,PV.tup,pl]at r;simp! [ix0,ix2,ix3,zg4,f_n h,f_i h,f_j h,p1,p2,q4,r,yh,zD,pl]
end
inductive Th where
 |mark
 |sl (l:AM) (lo hi:Int×Int×Int×Int)
def Th.pv:Th->PV
 |.mark=>.tup [.str yaq]
 |.sl l lo hi=>.tup [.str yx,.str l,q4 lo,q4 hi]
def Th.fine:Th->Prop
 |.mark=>True
 |.sl l _ _=>(sA==l)=AF
def Th.ok(n i j:Int):Th->Bool
 |.mark=>AD
 |.sl _ lo hi=>bd (pl lo n i j)&&bd (pl hi n i j)
def Th.wo(mk:Int):Th->Int
 |.mark=>mk
 |.sl _ _ _=>0
def Th.val(n i j mk:Int)(t:Th):PV:=if t.ok n i j then .int (t.wo mk)else .non
abbrev yau(x:Int×Int×Int×Int×Int×Int):PV:=.tup [.int x.1,.int x.2.1,.int x.2.2.1,.int x.2.2.2.1,.int x.2.2.2.2.1,.int x.2.2.2.2.2]
abbrev ex6(w n i j:Int)(x:Int×Int×Int×Int×Int×Int):Int:=ybU w n i j x.1 x.2.1 x.2.2.1 x.2.2.2.1 x.2.2.2.2.1 x.2.2.2.2.2
abbrev bd2(s:Int):Bool:=decide (0<=s)&&decide (s<=2000)
section
variable {st:SO}{m L:Nat}{w n i j mk:Int}{o:Option Int}
structure Mo(st:SO)(m L:Nat)(w n i j mk:Int)(o:Option Int):Prop where
 h:st[m]?=AA (mob w n i j L mk)
 d:st[L]?=AA (.dct AD (kv1 o))
 w0:0<=w
 w1:w<=16
 hn:big n
 hi:big i
 hj:big j
 hm:big mk
def zg1(k:Nat)(M:Mo st m L w n i j mk o){t:Th}(ht:t.fine):yd T (k+2) yf [t.pv,.loc m] st=.ok (t.val n i j mk) st:=by
 cases t with
 |mark=>exact zfv k M.h
 |sl l lo hi=>exact zeq k ht M.h M.d M.w0 M.w1 M.hn M.hi M.hj
def zet(k:Nat)(M:Mo st m L w n i j mk o){ts:List Th}(ht:∀t∈ts,t.fine):
  yaa (yd T (k+2)) [AC,AA (.loc m)] (.n 0) (.cst (.bl AD)) (.call 6 (.cons (.var 0) (.cons (.var 1) .nil))) (ts.map Th.pv) st=.ok (ts.map (Th.val n i j mk)) st:=by
 induction ts with
 |nil=>rfl
 |cons t ts ih=>
  have e:=zg1 k M (ht t Ag);have one:yaG (yd T (k+2)) [AC,AA (.loc m)] (.n 0) (.cst (.bl AD)) (.call 6 (.cons (.var 0) (.cons (.var 1) .nil))) t.pv st=.ok (AA (t.val n i j mk)) st:=by
   simp! [yaG,e]
  rw[AL,zk,one];erw[R.bind];rw[ih λt h=>ht t (AS _ h)];rfl
def zge(ts:List Th):inL .non (ts.map (Th.val n i j mk))=!(ts.all (Th.ok n i j)):=by
 induction ts with
 |nil=>rfl
 |cons t ts ih=>
  rw[AL,inL,ih,Ai];unfold Th.val
  cases t.ok n i j<;>simp[peq]
def zeA(ts:List Th):(ts.map (Th.val n i j mk)).all flat=true:=by
 induction ts with
 |nil=>rfl
 |cons t ts ih=>
  rw[AL,Ai,ih];unfold Th.val
  cases t.ok n i j<;>rfl
def zga{ts:List Th}(h:ts.all (Th.ok n i j)=AD):ts.map (Th.val n i j mk)=ts.map λt=>.int (t.wo mk):=
 List.map_congr_left λt ht=>by
  unfold Th.val;rw[BL.1 h t ht];rfl
def zgU(hm:big mk)(t:Th):big (t.wo mk):=by
 cases t with
 |mark=>exact hm
 |sl _ _ _=>show (0:Int).natAbs<_;decide
def zb5{c:Cl}{a0 a1 a2 a3 a4 a5 a6:Option PV}(hm:big mk):∀(ts:List Th) (v:Int) (u:Option PV),∃u',yba c (.n 8) (.cons (.aug 7 .mul (.var 8)) .nil) (ts.map λt=>.int (t.wo mk)) [a0,a1,a2,a3,a4,a5,a6,AA (.int v),u] st=.nx [a0,a1,a2,a3,a4,a5,a6,AA (.int (ts.foldl (λv t=>v*t.wo mk) v)),u'] st
 |[],v,u=>⟨u,rfl⟩
 |t::ts,v,u=>by
  let⟨u',e⟩:=zb5 (c:=c) (a0:=a0) (a1:=a1) (a2:=a2) (a3:=a3) (a4:=a4) (a5:=a5) (a6:=a6) hm ts (v*t.wo mk) (AA (.int (t.wo mk)));refine⟨u',?_⟩;rw[AL,zx (ρ1:=[a0,a1,a2,a3,a4,a5,a6,AA (.int v),AA (.int (t.wo mk))]) rfl,xs_cons,zib (x:=.int v) rfl];have:yac v (t.wo mk)=true:=by
   have:=zgU hm t;erw[yac,Bv,decide_eq_true_eq];exact .inr this
  erw[IC.ve2,AY,AX,R.fl,yaH,binI,this,if_true,Ar,nxO,yah,xs_nil,yae,Au,Av];exact e
def zao(mk:Int):∀ts:List Th,ts.foldl (λv t=>v*t.wo mk) 0=0
 |[]=>rfl
 |t::ts=>by rw[Bf,Ez];exact zao mk ts
def zgb{ts:List Th}{l:AM}{lo hi:Int×Int×Int×Int}(h:Th.sl l lo hi∈ts)(v:Int):ts.foldl (λv t=>v*t.wo mk) v=0:=by
 induction ts generalizing v with
 |nil=>cases h
 |cons t ts ih=>
  rw[Bf];rcases Ab.1 h with e|h
  .rw[<-e];show ts.foldl _ (v*0)=0;rw[GA];exact zao mk ts
  .exact ih h _
def twR:Css:=match yE.body with
 |.cons _ (.cons _ (.cons _ r))=>r
 |_=>.nil
def zjx{s:Int}{st:SO}{call:Cl}{ρ:IC.Env}{i:Nat}(h:ρ[i]?=AA (AA (.int s))):ev call ρ st (.chain .le .le (.cst (.int 0)) (.var i) (.cst (.int 2000)))=.ok (.bl (bd2 s)) st:=by
 by_cases h0:0<=s
 .simp! [h,blO,h0,decide_true,bd2,BJ]
 .simp! [h,blO,h0,decide_false,bd2,Bq]
def zbN{c:Cl}{a0 a1 a3 a4:Option PV}{f E Z:Int}{ls:List PV}{b:Bool}{u7 u8:Option PV}(hf:big f)(fl:ls.all flat=AD)(hb:inL .non ls=!b)
  (hm:b=AD->∃ts:List Th,ls=ts.map (λt=>.int (t.wo mk))/\big mk/\ts.foldl (λv t=>v*t.wo mk) (f*2^E.toNat)=Z):
  exs c [a0,a1,AA (.int f),a3,a4,AA (.int E),AA (.lst ls),u7,u8] st twR=.rt (if bd2 E&&b then .int Z else .non) st:=by
 have hB:twR=.cons (.ite (.or (.not (.chain .le .le (.cst (.int 0)) (.var 5) (.cst (.int 2000)))) (.cmp .isin (.cst .non) (.var 6))) (.cons (.ret (.cst .non)) .nil) .nil) (.cons (.asg (.n 7) (.bin .shl (.var 2) (.var 5))) (.cons (.for (.n 8) (.seq (.var 6)) (.cons (.aug 7 .mul (.var 8)) .nil)) (.cons (.ret (.var 7)) .nil))):=rfl;have c1:=zjx (s:=E) (st:=st) (call:=c) (ρ:=[a0,a1,AA (.int f),a3,a4,AA (.int E),AA (.lst ls),u7,u8]) (i:=5) rfl;have ci:yw .isin .non (.lst ls)=AA (.bl !b):=by
  erw[yw,flat,fl,BJ,hb];rfl
 rw[hB];have co:ev c [a0,a1,AA (.int f),a3,a4,AA (.int E),AA (.lst ls),u7,u8] st (.or (.not (.chain .le .le (.cst (.int 0)) (.var 5) (.cst (.int 2000)))) (.cmp .isin (.cst .non) (.var 6)))=.ok (.bl !(bd2 E&&b)) st:=by
  rw[IC.ve7,IC.ve5,c1]
  cases hs:bd2 E with
  |false=>rfl
  |true=>
   erw[R.bind,onBl,Ff,cond_false,IC.ve8,IC.ve1,IC.ve2,AY,AX,ci,toR,BJ]
 rw[xs_cons,x_ite,co]
 cases hs:(bd2 E&&b)with
 |false=>rfl
 |true=>
  erw[bd2,AG,decide_eq_true_eq]at hs;let⟨⟨e0,e1⟩,hb1⟩:=hs;let⟨ts,rfl,hmk,hR⟩:=hm hb1;have es:yt .shl (.int f) (.int E)=AA (.int (f*2^E.toNat)):=by
   erw[yt,binI];rw[if_pos ⟨e0,by lia,hf⟩]
  let⟨u',el⟩:=zb5 (st:=st) (c:=c) (a0:=a0) (a1:=a1) (a2:=AA (.int f)) (a3:=a3) (a4:=a4) (a5:=AA (.int E)) (a6:=AA (.lst (ts.map λt=>.int (t.wo mk)))) hmk ts (f*2^E.toNat) u8;rw[hR]at el;simp! [es,IC.seqOf,el]
end
structure Tm where
 f:Int
 x:Int×Int×Int×Int×Int×Int
 ts:List Th
def Tm.pv(t:Tm):PV:=.tup [.int t.f,yau t.x,.tup (t.ts.map Th.pv)]
structure Tm.fine(t:Tm):Prop where
 f:big t.f
 s:∀x∈t.ts,x.fine
 l:t.ts.length<=10
 z:t.f=0 \/ ∃l lo hi,Th.sl l lo hi∈t.ts
def Tm.ok(w n i j:Int)(t:Tm):Bool:=bd2 (ex6 w n i j t.x)&&t.ts.all (Th.ok n i j)
theorem bT3{ρ:IC.Env}{a b c:Nat}{x1 x2 x3:PV}{kk:Bool}:yG (.t [a,b,c]) (.tp kk [x1,x2,x3]) ρ=AA (((ρ.set a (AA x1)).set b (AA x2)).set c (AA x3)):=rfl
section
variable {st:SO}{m L:Nat}{w n i j mk:Int}{o:Option Int}
def zdh(k:Nat)(M:Mo st m L w n i j mk o){f:Int}{x:Int×Int×Int×Int×Int×Int}{ps vs:List PV}{r:PV}
  (hc:yaa (yd T (k+2)) [AC,AA (.loc m)] (.n 0) (.cst (.bl AD)) (.call 6 (.cons (.var 0) (.cons (.var 1) .nil))) ps st=.ok vs st) (hl:vs.length<=1000)
  (hr:exs (yd T (k+2)) [AA (.tup [.int f,yau x,.tup ps]),AA (.loc m),AA (.int f),AA (yau x),AA (.tup ps),AA (.int (ex6 w n i j x)),AA (.lst vs),AC,AC] st twR=.rt r st):
  yd T (k+3) yb [.tup [.int f,yau x,.tup ps],.loc m] st=.ok r st:=by
 rw[zh (show T yb=AA yE from rfl) rfl rfl];have hb:yE.body=.cons (.asg (.t [2,3,4]) (.var 0)) (.cons (.asg (.n 5) (.call 5 (.cons (.var 3) (.cons (.var 1) .nil)))) (.cons (.asg (.n 6) (.comp [AC,AA 1] (.n 0) (.seq (.var 4)) (.cst (.bl AD)) (.call 6 (.cons (.var 0) (.cons (.var 1) .nil))))) twR)):=rfl;have he:=ziE (k+1) (c:=x.1) (a:=x.2.1) (b:=x.2.2.1) (p:=x.2.2.2.1) (q:=x.2.2.2.2.1) (r:=x.2.2.2.2.2) M.h (by have:=M.w0;have:=M.w1;show w.natAbs<_;lia) M.hn M.hi M.hj;rw[hb];erw[yau,PV.tup,ex6]at hr he;simp! [yE,bT3,he,IC.seqOf,hc,zG _ (show vs.length<=1000000 by lia),hr,zD,yau]
def zfS(k:Nat)(M:Mo st m L w n i j mk o){t:Tm}(ht:t.fine):yd T (k+3) yb [t.pv,.loc m] st=.ok (if t.ok w n i j then .int 0 else .non) st:=by
 refine zdh k M (zet k M ht.s) (by rw[A4];have:=ht.l;lia) ?_;refine zbN (mk:=mk) (Z:=0) ht.f (zeA _) (zge _) λhb=>⟨t.ts,zga hb,M.hm,?_⟩;rcases ht.z with z|⟨l,lo,hi,h⟩
 .rw[z,Ez];exact zao mk _
 .exact zgb h _
def zjy(k:Nat){X:Int}(M:Mo st m L w n i j mk (AA X))(hX:big X):yd T (k+2) yf [.tup [.str yx,.str sA,q4 (99-j,0,1,0),q4 (100,0,0,0)],.loc m] st=.ok (.int X) st:=by
 rw[zh (show T yf=AA yh from rfl) rfl rfl];have p1:=λst=>zaf k (a:=99-j) (b:=0) (c:=1) (d:=0) M.hn M.hi M.hj st;have p2:=λst=>zaf k (a:=100) (b:=0) (c:=0) (d:=0) M.hn M.hi M.hj st;have e1:99-j+0*i+1*j+0*n=99:=by lia
 have e2:100+0*i+0*j+0*n=100:=by lia
 rw[e1]at p1;rw[e2]at p2;erw[PV.tup]at p1 p2;have h:=M.h;have g:=zhJ (l:=sA) (a:=99) M.d;have gl:look (.tup [.str sA,.int 99]) (kv1 (AA X))=AA (.int X):=by
  erw[kv1,look,peq,yaO,beq_self_eq_true,Ch,if_true]
 rw[gl]at g;have es:yt .shl (.int X) (.int (w*(99-99)))=AA (.int X):=by
  erw[yt,binI,Int.sub_self,GA];rw[if_pos ⟨by lia,by lia,hX⟩];simp
 have hw:big w:=by have:=M.w0;have:=M.w1;show w.natAbs<_;lia
 have one:yaG (yd T (k+1)) [AC,AA (.loc m),AA (.int 99),AA (.tup [.str yx,.str sA,q4 (99-j,0,1,0),q4 (100,0,0,0)])] (.n 0) (.cst (.bl AD)) thC (.int 99) st=.ok (AA (.int X)) st:=by
  simp! [yaG,thC,yh,ix1,zhw h,f_w h,yad,yaz,M.d,Ar,ya8,g,Ax,zP hw,es]
 have hb:yh.body=.cons (.ite (.cmp .eq (.idx (.var 0) (.cst (.int 0))) (.cst (.str "mark"))) (.cons (.ret (.fld 20 (.var 1) (AK "marked"))) .nil) .nil) (.cons (.asg (.n 2) (.call 3 (.cons (.idx (.var 0) (.cst (.int 2))) (.cons (.fld 20 (.var 1) (AK "n")) (.cons (.fld 20 (.var 1) (AK "i")) (.cons (.fld 20 (.var 1) (AK "j")) .nil)))))) (.cons (.asg (.n 3) (.call 3 (.cons (.idx (.var 0) (.cst (.int 3))) (.cons (.fld 20 (.var 1) (AK "n")) (.cons (.fld 20 (.var 1) (AK "i")) (.cons (.fld 20 (.var 1) (AK "j")) .nil)))))) (.cons (.ite (.or (.not (.chain .le .le (.cst (.int 0)) (.var 2) (.cst (.int 100)))) (.not (.chain .le .le (.cst (.int 0)) (.var 3) (.cst (.int 100))))) (.cons (.ret (.cst .non)) .nil) .nil) (.cons (.ret (.blt .sum (.cons (.comp [AC,AA 1,AA 2,AA 0] (.n 0) (.range2 (.var 2) (.var 3)) (.cst (.bl AD)) thC) .nil))) .nil)))):=rfl;have hr:yb8 (.int 99) (.int 100)=AA [.int 99]:=rfl;have cm:yaa (yd T (k+1)) [AC,AA (.loc m),AA (.int 99),AA (.tup [.str yx,.str sA,q4 (99-j,0,1,0),q4 (100,0,0,0)])] (.n 0) (.cst (.bl AD)) thC [.int 99] st=.ok [.int X] st:=by
  rw[zk,one];rfl
 have hs:yQ .sum st [.lst [.int X]]=AA (.int X):=by
  erw[yQ,yr,Am,yaF,Ar,Int.add_zero]
 erw[q4,PV.tup]at cm;rw[hb];simp! [ix0,ix2,ix3,zg4,f_n h,f_i h,f_j h,p1,p2,q4,yh,blO,hr,cm,zG [PV.int X] (by simp),hs,zD,show decide ((0:Int)<=99)=AD from rfl,show decide ((99:Int)<=100)=AD from rfl,show decide ((0:Int)<=100)=AD from rfl,show decide ((100:Int)<=100)=AD from rfl]
abbrev x0:Int×Int×Int×Int×Int×Int:=(0,0,0,0,0,0)
theorem ex0:ex6 w n i j x0=0:=by simp[ex6,ybU]
theorem tw_a(k:Nat){X:Int}(M:Mo st m L w n i j mk (AA X))(hX:big X):yd T (k+3) yb [.tup [.int 1,yau x0,.tup [.tup [.str yx,.str sA,q4 (99-j,0,1,0),q4 (100,0,0,0)]]],.loc m] st=.ok (.int X) st:=by
 have e:=zjy k M hX;have one:yaG (yd T (k+2)) [AC,AA (.loc m)] (.n 0) (.cst (.bl AD)) (.call 6 (.cons (.var 0) (.cons (.var 1) .nil))) (.tup [.str yx,.str sA,q4 (99-j,0,1,0),q4 (100,0,0,0)]) st=.ok (AA (.int X)) st:=by
  erw[PV.tup,q4]at e;simp! [yaG,e,q4]
 refine zdh k M (vs:=[.int X]) (by rw[zk,one];rfl) (by simp) ?_;rw[ex0];exact zbN (mk:=X) (Z:=X) (b:=AD) (by show (1:Int).natAbs<_;decide) rfl rfl λ_=>⟨[.mark],rfl,hX,by simp[Th.wo]⟩
theorem tw_b(k:Nat){X:Int}(M:Mo st m L w n i j mk o)(hX:big X):yd T (k+3) yb [.tup [.int X,yau x0,.tup []],.loc m] st=.ok (.int X) st:=by
 refine zdh k M (vs:=[]) rfl (by simp) ?_;rw[ex0];exact zbN (mk:=X) (Z:=X) (b:=AD) hX rfl rfl λ_=>⟨[],rfl,hX,by simp⟩
def zgG(k:Nat){ps vs:List PV}{b:Bool}(hp:ps.length<=1000)(hl:vs.length<=1000)
  (hc:yaa (yd T k) [AC,AA (.loc m)] (.n 0) (.cst (.bl AD)) (.call 4 (.cons (.var 0) (.cons (.var 1) .nil))) ps st=.ok vs st) (fl:vs.all flat=AD) (hb:inL .non vs=!b) (hs:b=AD->yaF vs=AA 0):
  yd T (k+1) yA [.tup ps,.loc m] st=.ok (.bl b) st:=by
 rw[zh (show T yA=AA yi from rfl) rfl rfl];have ci:yw .notin .non (.lst vs)=AA (.bl b):=by
  erw[yw,flat,fl,BJ,hb,Bool.not_not];rfl
 have he:yw .eq (.int 0) (.int 0)=AA (.bl AD):=rfl
 cases b with
 |false=>simp! [yi,IC.seqOf,hc,zG _ (show vs.length<=1000000 by lia),ci,zD]
 |true=>
  have hsum:yQ .sum st [.lst vs]=AA (.int 0):=by
   erw[yQ,yr,Am,hs rfl,Ar]
  simp! [yi,IC.seqOf,hc,zG _ (show vs.length<=1000000 by lia),ci,hsum,he,zD]
end
def yaN(o:Option Int):PV:=match o with
 |none=>.tup []
 |some x=>.tup [.tup [.tup [.str sA,.int 99],.int x]]
def zen(o:Option Int):ycN [] (yaN o)=.ok (.loc 0) [.dct AD (kv1 o)]:=by
 cases o<;>rfl
def zcw(o:Option Int):nL (yaN o)=true:=by cases o<;>rfl
def zjz{d:Ob}{fs:List (AM×PV)}{f:AM}{v:PV}(h:fs.length<1000):ybs 20 [d,.ins 20 fs] (.loc 1) f v=AA [d,.ins 20 (ybq f v fs)]:=by
 erw[ybs,AY,AX,Au,Av];rw[if_pos ⟨trivial,h⟩]
section
variable {w n i j mk:Int}{o:Option Int}
def zfp(k:Nat){d:Ob}:yd T (k+1) yT [.loc 1,.int w,.int n,.int i,.int j,.loc 0,.int mk] [d,.ins 20 []]=.ok .non [d,mob w n i j 0 mk]:=by
 rw[zh (show T yT=AA yk from rfl) rfl rfl];simp! [yk,ziT,zjz,stO,ybq,show (0:Nat)<1000 from by lia,show (1:Nat)<1000 from by lia,show (2:Nat)<1000 from by lia,show (3:Nat)<1000 from by lia,show (4:Nat)<1000 from by lia,show (5:Nat)<1000 from by lia];rfl
def zdo(k:Nat){ps:List PV}{b:Bool}(w0:0<=w)(w1:w<=16)(hn:big n)(hi:big i)(hj:big j)(hm:big mk)(np:nLs ps=AD)
  (H:∀{st:SO} {m L:Nat},Mo st m L w n i j mk o->yd T (k+1) yA [.tup ps,.loc m] st=.ok (.bl b) st) (st:SO):
  yd T (k+2) ycY [.tup ps,.int w,.int n,.int i,.int j,yaN o,.int mk] st=.ok (.bl b) st:=by
 rw[zu (show T ycY=AA ybo from rfl) rfl rfl (by simp[nLs,nL,np,zcw])];have e0:=zen o;have e1:=zfp (w:=w) (n:=n) (i:=i) (j:=j) (mk:=mk) k (d:=.dct AD (kv1 o));have e2:=H (st:=[.dct AD (kv1 o),mob w n i j 0 mk]) (m:=1) (L:=0) ⟨rfl,rfl,w0,w1,hn,hi,hj,hm⟩;erw[PV.tup]at e2;simp! [ybo,IC.ve33,e0,e1,ya6,newV,e2,zdf]
def stI:Css:=match yM.body with
 |.cons (.for _ _ (.cons _ (.cons (.for _ _ b) _))) _=>b
 |_=>.nil
def stB:Css:=match yM.body with
 |.cons (.for _ _ b) _=>b
 |_=>.nil
def zea{st:SO}:ybz (.tp AF [.str yaq]) (AA 2) AC=AA (.tup []):=rfl
def zgR{l:AM}{a b:PV}:ybz (.tp AF [.str yx,.str l,a,b]) (AA 2) AC=AA (.tup [a,b]):=rfl
def atC:Ce:=.chain .le .le (.cst (.int 0)) (.call 13 (.cons (.var 0) (.cons (.var 1) (.cons (.var 2) (.cons (.var 3) .nil))))) (.cst (.int 100))
def ze9(k:Nat){x:Int×Int×Int×Int}{st:SO}(hn:big n)(hi:big i)(hj:big j):yaG (yd T (k+1)) [AC,AA (.int i),AA (.int j),AA (.int n)] (.n 0) (.cst (.bl AD)) atC (q4 x) st=.ok (AA (.bl (bd (pl x n i j)))) st:=by
 have p:=zhD k (a:=x.1) (b:=x.2.1) (c:=x.2.2.1) (d:=x.2.2.2) hn hi hj st;erw[PV.tup]at p;simp! [yaG,atC,p,q4];generalize hs:x.1+x.2.1*i+x.2.2.1*j+x.2.2.2*n=s;erw[bd,pl,hs]
 by_cases h0:0<=s
 .simp! [blO,h0,decide_true,BJ]
 .simp! [blO,h0,decide_false,Bq]
def ziJ(k:Nat)(hn:big n)(hi:big i)(hj:big j){t:Th}{st:SO}{a0 a1 a5 a6 a7:Option PV}:
  exs (yd T (k+1)) [a0,a1,AA (.int n),AA (.int i),AA (.int j),a5,a6,a7,AA t.pv] st stI=if t.ok n i j then .nx [a0,a1,AA (.int n),AA (.int i),AA (.int j),a5,a6,a7,AA t.pv] st else .rt (.bl AF) st:=by
 have hb:stI=.cons (.ite (.not (.blt .all (.cons (.comp [AC,AA 3,AA 4,AA 2] (.n 0) (.seq (.slc (.var 8) (.cst (.int 2)) (.cst .non))) (.cst (.bl AD)) atC) .nil))) (.cons (.ret (.cst (.bl AF))) .nil) .nil) .nil:=rfl;rw[hb]
 cases t with
 |mark=>
  have ha:yQ .all st [.lst []]=AA (.bl AD):=rfl;simp! [Th.pv,Th.ok,ybl,onP,ybL,zea,IC.seqOf,zbu,zG [] (by simp),ha]
 |sl l lo up=>
  have c1:=ze9 k (x:=lo) (st:=st) hn hi hj;have c2:=ze9 k (x:=up) (st:=st) hn hi hj;have cm:yaa (yd T (k+1)) [AC,AA (.int i),AA (.int j),AA (.int n)] (.n 0) (.cst (.bl AD)) atC [q4 lo,q4 up] st=.ok [.bl (bd (pl lo n i j)),.bl (bd (pl up n i j))] st:=by
   rw[zk,c1];erw[R.bind];rw[zk,c2];rfl
  have ha:yQ .all st [.lst [.bl (bd (pl lo n i j)),.bl (bd (pl up n i j))]]=AA (.bl (bd (pl lo n i j)&&bd (pl up n i j))):=by
   erw[yQ,yr,Am,allB,Ar,E4]
  erw[q4,PV.tup]at cm;simp! [Th.pv,ybl,onP,ybL,zgR,IC.seqOf,q4,cm,zG [PV.bl (bd (pl lo n i j)),.bl (bd (pl up n i j))] (by simp),ha];show _=if (bd (pl lo n i j)&&bd (pl up n i j))=AD then _ else _
  cases (bd (pl lo n i j)&&bd (pl up n i j))<;>rfl
def zfn(k:Nat)(hn:big n)(hi:big i)(hj:big j){st:SO}{a0 a1 a5 a6 a7:Option PV}:∀(ts:List Th) (u:Option PV),∃u',yba (yd T (k+1)) (.n 8) stI (ts.map Th.pv) [a0,a1,AA (.int n),AA (.int i),AA (.int j),a5,a6,a7,u] st=if ts.all (Th.ok n i j)then .nx [a0,a1,AA (.int n),AA (.int i),AA (.int j),a5,a6,a7,u'] st else .rt (.bl AF) st
 |[],u=>⟨u,rfl⟩
 |t::ts,u=>by
  let⟨u',e⟩:=zfn k hn hi hj (st:=st) (a0:=a0) (a1:=a1) (a5:=a5) (a6:=a6) (a7:=a7) ts (AA t.pv);refine⟨u',?_⟩;rw[AL,zx (ρ1:=[a0,a1,AA (.int n),AA (.int i),AA (.int j),a5,a6,a7,AA t.pv]) rfl,ziJ k hn hi hj,Ai]
  cases t.ok n i j with
  |false=>rfl
  |true=>erw[if_true,yae,BJ];exact e
end
section
variable {w n i j mk:Int}{o:Option Int}
def zfu(k:Nat)(hw:big w)(hn:big n)(hi:big i)(hj:big j){t:Tm}{st:SO}{a0 u8:Option PV}:∃u',
  exs (yd T (k+2)) [a0,AA (.int w),AA (.int n),AA (.int i),AA (.int j),AA (.int t.f),AA (yau t.x),AA (.tup (t.ts.map Th.pv)),u8] st stB=if t.ok w n i j then .nx [a0,AA (.int w),AA (.int n),AA (.int i),AA (.int j),AA (.int t.f),AA (yau t.x),AA (.tup (t.ts.map Th.pv)),u'] st else .rt (.bl AF) st:=by
 have hb:stB=.cons (.ite (.not (.chain .le .le (.cst (.int 0)) (.call 15 (.cons (.var 6) (.cons (.tup (.cons (.var 1) (.cons (.var 2) .nil))) (.cons (.var 3) (.cons (.var 4) .nil))))) (.cst (.int 2000)))) (.cons (.ret (.cst (.bl AF))) .nil) .nil) (.cons (.for (.n 8) (.seq (.var 7)) stI) .nil):=rfl;have he:=zfN (k+1) (st:=st) (c:=t.x.1) (a:=t.x.2.1) (b:=t.x.2.2.1) (p:=t.x.2.2.2.1) (q:=t.x.2.2.2.2.1) (r:=t.x.2.2.2.2.2) hw hn hi hj;erw[PV.tup]at he;let⟨u',el⟩:=zfn (k+1) hn hi hj (st:=st) (a0:=a0) (a1:=AA (.int w)) (a5:=AA (.int t.f)) (a6:=AA (yau t.x)) (a7:=AA (.tup (t.ts.map Th.pv))) t.ts u8;refine⟨u',?_⟩;rw[hb];erw[PV.tup,yau]at el;simp! [yau,he];unfold Tm.ok;generalize hs:ex6 w n i j t.x=s;have hs':ybU w n i j t.x.1 t.x.2.1 t.x.2.2.1 t.x.2.2.2.1 t.x.2.2.2.2.1 t.x.2.2.2.2.2=s:=hs;rw[hs']
 by_cases h0:0<=s
 .by_cases h1:s<=2000
  .simp! [blO,h0,h1,decide_true,bd2,IC.seqOf,el]
   cases t.ts.all (Th.ok n i j)<;>rfl
  .simp! [blO,h0,h1,decide_true,decide_false,bd2,Bool.and_false,Bq];rfl
 .simp! [blO,h0,decide_false,bd2,Bq];rfl
def zb4(k:Nat)(hw:big w)(hn:big n)(hi:big i)(hj:big j){st:SO}{a0:Option PV}:∀(tt:List Tm) (u5 u6 u7 u8:Option PV),∃v5 v6 v7 v8,yba (yd T (k+2)) (.t [5,6,7]) stB (tt.map Tm.pv) [a0,AA (.int w),AA (.int n),AA (.int i),AA (.int j),u5,u6,u7,u8] st =
  if tt.all (Tm.ok w n i j)then .nx [a0,AA (.int w),AA (.int n),AA (.int i),AA (.int j),v5,v6,v7,v8] st else .rt (.bl AF) st
 |[],u5,u6,u7,u8=>⟨u5,u6,u7,u8,rfl⟩
 |t::tt,u5,u6,u7,u8=>by
  let⟨u',e1⟩:=zfu k hw hn hi hj (t:=t) (st:=st) (a0:=a0) (u8:=u8);let⟨v5,v6,v7,v8,e⟩:=zb4 k hw hn hi hj (st:=st) (a0:=a0) tt (AA (.int t.f)) (AA (yau t.x)) (AA (.tup (t.ts.map Th.pv))) u';refine⟨v5,v6,v7,v8,?_⟩;rw[AL,zx (ρ1:=[a0,AA (.int w),AA (.int n),AA (.int i),AA (.int j),AA (.int t.f),AA (yau t.x),AA (.tup (t.ts.map Th.pv)),u8]) rfl,e1,Ai]
  cases t.ok w n i j with
  |false=>rfl
  |true=>erw[if_true,yae,BJ];exact e
def zd8(t:Th):nL t.pv=true:=by cases t<;>rfl
def zbr:∀ts:List Th,nLs (ts.map Th.pv)=AD
 |[]=>rfl
 |t::ts=>by rw[AL,nLs,zd8,zbr ts];rfl
def zeW(t:Tm):nL t.pv=true:=by
 erw[Tm.pv,nL,nLs,zbr,Ch,BJ]
def zat:∀ts:List Tm,nLs (ts.map Tm.pv)=AD
 |[]=>rfl
 |t::ts=>by rw[AL,nLs,zeW,zat ts];rfl
theorem stands(k:Nat)(hw:big w)(hn:big n)(hi:big i)(hj:big j)(tt:List Tm)(st:SO):
  yd T (k+3) yd7 [.tup (tt.map Tm.pv),.int w,.int n,.int i,.int j] st=.ok (.bl (tt.all (Tm.ok w n i j))) st:=by
 rw[zu (show T yd7=AA yM from rfl) rfl rfl (by simp[nLs,nL,zat])];have hb:yM.body=.cons (.for (.t [5,6,7]) (.seq (.var 0)) stB) (.cons (.ret (.cst (.bl AD))) .nil):=rfl;let⟨v5,v6,v7,v8,e⟩:=zb4 k hw hn hi hj (st:=[]) (a0:=AA (.tp AF (tt.map Tm.pv))) tt AC AC AC AC;rw[hb];simp! [yM,IC.seqOf,e]
 cases tt.all (Tm.ok w n i j)<;>rfl
def zaL(k:Nat){st:SO}{m:Nat}:∀(l:List (PV×PV)),(∀p∈l,yd T k yb [p.1,.loc m] st=.ok p.2 st) ->
  yaa (yd T k) [AC,AA (.loc m)] (.n 0) (.cst (.bl AD)) (.call 4 (.cons (.var 0) (.cons (.var 1) .nil))) (l.map (·.1)) st=.ok (l.map (·.2)) st
 |[],_=>rfl
 |p::l,h=>by
  have e:=h p Ag;have one:yaG (yd T k) [AC,AA (.loc m)] (.n 0) (.cst (.bl AD)) (.call 4 (.cons (.var 0) (.cons (.var 1) .nil))) p.1 st=.ok (AA p.2) st:=by
   simp! [yaG,e]
  rw[AL,zk,one];erw[R.bind];rw[zaL k l λq hq=>h q (AS _ hq)];rfl
def tmA(j:Int):Tm:=⟨1,x0,[.sl sA (99-j,0,1,0) (100,0,0,0)]⟩
def tmB(X:Int):Tm:=⟨0-X,x0,[]⟩
def more(j:Int)(o:Option Int):List Tm:=match o with
 |none=>[]
 |some X=>[tmA j,tmB X]
def yaS(o:Option Int):List PV:=match o with
 |none=>[]
 |some X=>[.int X,.int (0-X)]
def nv(w n i j:Int)(t:Tm):PV:=if t.ok w n i j then .int 0 else .non
def zdm:(more j o).all (Tm.ok w n i j)=true:=by
 cases o with
 |none=>rfl
 |some X=>
  have e:ex6 w n i j x0=0:=ex0;have p1:99-j+0*i+1*j+0*n=99:=by lia
  have p2:(100:Int)+0*i+0*j+0*n=100:=by lia
  erw[more,Ai,Fv,Tm.ok,tmA,tmB,e,Th.ok,pl,p1,p2];rfl
def zf7(xs ys:List PV):inL .non (xs++ys)=(inL .non xs || inL .non ys):=by
 induction xs with
 |nil=>rfl
 |cons x xs ih=>rw[B4,inL,inL,ih,Bool.or_assoc]
def zcQ{a b:Int}:∀{xs ys:List PV},yaF xs=AA a->yaF ys=AA b->yaF (xs++ys)=AA (a+b)
 |[],ys,h,g=>by cases h;rw[Bi,g,Int.zero_add]
 |x::xs,ys,h,g=>by
  cases x with
  |int v=>
   erw[yaF]at h
   cases q:yaF xs with
   |none=>rw[q]at h;cases h
   |some c=>
    rw[q]at h
    cases h
    rw[B4,yaF,zcQ q g];erw[Fc]
  |_=>cases h
def zh0(tt:List Tm):inL .non (tt.map (nv w n i j))=!(tt.all (Tm.ok w n i j)):=by
 induction tt with
 |nil=>rfl
 |cons t ts ih=>
  rw[AL,inL,ih,Ai];unfold nv
  cases t.ok w n i j<;>simp[peq]
def zfk:∀{tt:List Tm},tt.all (Tm.ok w n i j)=AD->yaF (tt.map (nv w n i j))=AA 0
 |[],_=>rfl
 |t::tt,h=>by
  rw[Ai,AG]at h;rw[AL,show nv w n i j t=.int 0 by unfold nv;rw[h.1];rfl,yaF,zfk h.2];rfl
def zf1(tt:List Tm):(tt.map (nv w n i j)).all flat=true:=by
 induction tt with
 |nil=>rfl
 |cons t ts ih=>
  rw[AL,Ai,ih];unfold nv
  cases t.ok w n i j<;>rfl
def zdJ(k:Nat)(w0:0<=w)(w1:w<=16)(hn:big n)(hi:big i)(hj:big j)(hm:big mk){tt:List Tm}(ht:∀t∈tt,t.fine)(hl:tt.length<=100)(ho:∀X,o=AA X->X.natAbs<1000000)(st:SO):
  yd T (k+5) ycY [.tup ((tt++more j o).map Tm.pv),.int w,.int n,.int i,.int j,yaN o,.int mk] st=.ok (.bl ((tt++more j o).all (Tm.ok w n i j))) st:=by
 refine zdo (k+3) w0 w1 hn hi hj hm (zat _) (λ{st m L} M=>?_) st;have hlm:(more j o).length<=2:=by cases o<;>simp[more]
 have hlv:(yaS o).length<=2:=by cases o<;>simp[yaS]
 have e2:∃l2:List (PV×PV),l2.map (·.1)=(more j o).map Tm.pv/\l2.map (·.2)=yaS o/\∀p∈l2,yd T (k+3) yb [p.1,.loc m] st=.ok p.2 st:=by
  cases o with
  |none=>exact⟨[],rfl,rfl,λp hp=>by cases hp⟩
  |some X=>
   have hX:=ho X rfl;refine⟨[((tmA j).pv,.int X),((tmB X).pv,.int (0-X))],rfl,rfl,λp hp=>?_⟩;erw[Ab,D9,or_false]at hp;rcases hp with rfl|rfl
   .exact tw_a k M (by show X.natAbs<_;lia)
   .exact tw_b k M (by show (0-X).natAbs<_;lia)
 let⟨l2,q1,q2,q3⟩:=e2;have cm:=zaL (k+3) (st:=st) (m:=m) (tt.map (λt=>(t.pv,nv w n i j t))++l2) λp hp=>by
  rcases BY.1 hp with hp|hp
  .let⟨t,h1,rfl⟩:=List.mem_map.1 hp;exact zfS k M (ht t h1)
  .exact q3 p hp
 rw[Bj,Bj,GB,GB,q1,q2]at cm;have a1:((λx:PV×PV=>x.1) ∘ λt:Tm=>(t.pv,nv w n i j t))=Tm.pv:=rfl;have a2:((λx:PV×PV=>x.2) ∘ λt:Tm=>(t.pv,nv w n i j t))=nv w n i j:=rfl;rw[a1,a2,<-Bj]at cm;have im:inL .non (yaS o)=false:=by cases o<;>rfl
 have fm:(yaS o).all flat=true:=by cases o<;>rfl
 have sm:yaF (yaS o)=AA 0:=by
  cases o with
  |none=>rfl
  |some X=>erw[yaS,yaF];congr 1;lia
 refine zgG (k+3) (by rw[A4,An];lia) (by rw[An,A4];lia) cm ?_ ?_ λhb=>?_
 .rw[Dv,zf1,fm];rfl
 .rw[zf7,zh0,im,EZ,Dv,zdm,E4]
 .rw[Dv,zdm,E4]at hb;have:=zcQ (zfk hb) sm;rw[this];rfl
end
theorem Drw.pos{ns:List Int}{st:SO}(h:Drw ns 0 st):0<st.length:=by
 let⟨a,p,f,ha,h⟩:=h;rcases Fz 0 st.length with z|z
 .exact z
 .rw[CA z]at h;cases h
theorem Drw.app{ns:List Int}{st:SO}(h:Drw ns 0 st)(o:Ob):Drw ns 0 (st++[o]):=by
 have hl:=h.pos;let⟨a,p,f,ha,h⟩:=h;exact⟨a,p,f,ha,by rw[A5 hl];exact h⟩
theorem Drw.put{ns:List Int}{st:SO}(h:Drw ns 0 st){L:Nat}(hL:L≠0)(o:Ob):Drw ns 0 (st.set L o):=by
 let⟨a,p,f,ha,h⟩:=h;exact⟨a,p,f,ha,by rw[Aj hL];exact h⟩
theorem Onl.get{ns:List Int}{st st':SO}(o:Onl ns 0 st st'){L:Nat}(hL:L≠0):st'[L]?=st[L]?:=by
 let⟨a,p,f,ha,rfl⟩:=o;rw[Aj (B9 hL)]
theorem Onl.len{ns:List Int}{n:Nat}{st st':SO}(o:Onl ns n st st'):st'.length=st.length:=by
 let⟨a,p,f,ha,rfl⟩:=o;rw[Aw]
structure Frm(ns:List Int)(B st:SO):Prop where
 dr:Drw ns 0 st
 len:B.length<=st.length
 get:∀m,m≠0->m<B.length->st[m]?=B[m]?
section
variable {ns:List Int}{B st st':SO}{i j w n:Int}
theorem Frm.refl(h:Drw ns 0 st):Frm ns st st:=⟨h,AU _,λ_ _ _=>rfl⟩
theorem Frm.app(h:Frm ns B st)(o:Ob):Frm ns B (st++[o]):=⟨h.dr.app o,by have:=h.len;simp;lia,λm h0 h1=>by
 have:=h.len;rw[A5 ∅];exact h.get m h0 h1⟩
theorem Frm.put(h:Frm ns B st){L:Nat}(hL:L≠0)(hB:B.length<=L)(o:Ob):Frm ns B (st.set L o):=⟨h.dr.put hL o,by rw[Aw];exact h.len,λm h0 h1=>by
 rw[Aj ∅];exact h.get m h0 h1⟩
theorem Onl.frm(h:Frm ns B st)(o:Onl ns 0 st st'):Frm ns B st':=⟨o.drw h.dr,by rw[o.len];exact h.len,λm h0 h1=>by rw[o.get h0];exact h.get m h0 h1⟩
theorem Frm.trans{C:SO}(h:Frm ns B st)(g:Frm ns st C):Frm ns B C:=⟨g.dr,BC h.len g.len,λm h0 h1=>by
 have:=h.len;rw[g.get m h0 ∅];exact h.get m h0 h1⟩
def zbl{st:SO}{L:Nat}{xs:List PV}{v:PV}(h:st[L]?=AA (.lst xs))(hl:xs.length<1000):yad .append st (.loc L)=AA AD/\ya8 .append st (.loc L) [v]=.ok .non (st.set L (.lst (xs++[v]))):=by
 refine⟨by simp[yad,yr,h],?_⟩;erw[ya8,ycZ,h];rw[if_pos ∅]
def zdv{es:List Int}{d:Int}{st:SO}(h0:0<=d)(h1:d<es.length):∃v,idxV st (.tp AF (es.map .int)) (.int d)=AA (.int v):=by
 let⟨q,rfl⟩:=zaW h0;have hq:q<es.length:=by lia
 refine⟨es[q],?_⟩;erw[idxV,yaw,at?,ixI,A4];rw[if_pos h0,if_pos h1];simp[hq]
def epR:Css:=match yj.body with
 |.cons _ (.cons _ r)=>r
 |_=>.nil
def zaP(k:Nat)(hns:ns.length<=1000){es:List Int}(he:es.length=8)(h:Drw ns 0 st):∃x st',Onl ns 0 st st'/\yd T (k+4) yB [.loc 0,.int i,.int j,.tp AF (es.map .int)] st=.ok (q4 x) st':=by
 let⟨d,s1,d0,d1,o1,e1⟩:=zac k hns (m:=8) ∅ ∅ h;let⟨d',s2,g0,g1,o2,e2⟩:=zac k hns (m:=3) ∅ ∅ (o1.drw h);let⟨v,hv⟩:=zdv (es:=es) (st:=s1) d0 ∅;have hl:yQ .len st [.tp AF (es.map .int)]=AA (.int 8):=by
  simp[yQ,lenV,IC.seqOf,he]
 have hn:(-200:Int)=-200:=rfl;have go:∀r,exs (yd T (k+3)) [AA (.loc 0),AA (.int i),AA (.int j),AA (.tp AF (es.map .int)),AA (.int v),AA (.int d')] s2 epR=.rt r s2->yd T (k+4) yB [.loc 0,.int i,.int j,.tp AF (es.map .int)] st=.ok r s2:=λr hr=>by
  rw[zh (show T yB=AA yj from rfl) rfl rfl];have hb:yj.body=.cons (.asg (.n 4) (.idx (.var 3) (.call 10 (.cons (.var 0) (.cons (.blt .len (.cons (.var 3) .nil)) .nil))))) (.cons (.asg (.n 5) (.call 10 (.cons (.var 0) (.cons (.cst (.int 3)) .nil)))) epR):=rfl;rw[hb];simp! [yj,hl,e1,hv,e2,hr,zD]
 by_cases h1:d'=1
 .by_cases h2:-200<=v-i
  .exact⟨(v-i,1,0,0),s2,o1.trans o2,go _ (by simp! [epR,yj,h1,beq_self_eq_true,h2,decide_true])⟩
  .exact⟨(v,0,0,0),s2,o1.trans o2,go _ (by simp! [epR,yj,h1,beq_self_eq_true,h2,decide_false,show ((1:Int)==2)=AF from rfl])⟩
 .have h1':(d'==1)=false:=by simpa using h1
  by_cases h3:d'=2
  .by_cases h2:-200<=v-j
   .exact⟨(v-j,0,1,0),s2,o1.trans o2,go _ (by simp! [epR,yj,h1',h3,beq_self_eq_true,h2,decide_true,show ((2:Int)==1)=AF from rfl])⟩
   .exact⟨(v,0,0,0),s2,o1.trans o2,go _ (by simp! [epR,yj,h1',h3,beq_self_eq_true,h2,decide_false,show ((2:Int)==1)=AF from rfl])⟩
  .have h3':(d'==2)=false:=by simpa using h3
   exact⟨(v,0,0,0),s2,o1.trans o2,go _ (by simp! [epR,yj,h1',h3'])⟩
def zbw(k:Nat)(hns:ns.length<=1000)(h:Drw ns 0 st)(i0:0<i)(i1:i<1000)(j1:j<1000)(hw:big w)(hn:big n):∃x st',Onl ns 0 st st'/\yd T (k+4) yy [.loc 0,.int i,.int j,.int w,.int n] st=.ok (yau x) st':=by
 let⟨d,s1,d0,d1,o1,e1⟩:=zac k hns (m:=12) ∅ ∅ h;let⟨ds,s2,g0,g1,o2,e2⟩:=zac k hns (m:=3) ∅ ∅ (o1.drw h);let⟨dr,s3,f0,f1,o3,e3⟩:=zac k hns (m:=7) ∅ ∅ (o2.drw (o1.drw h));let⟨dz,s4,z0,z1,o4,e4⟩:=zac k hns (m:=2) ∅ ∅ (o3.drw (o2.drw (o1.drw h)));let⟨v,hv⟩:=zdv (es:=[-2,-1,0,0,1,2,1999,2000,2000,2001,77,512]) (st:=s1) d0 (by simpa using d1);erw[AL,BE]at hv;obtain⟨r,hr⟩:∃r,yQ .max s3 [.int 0,.int (dr-2)]=AA (.int r):=⟨_,rfl⟩;have hm:=o1.trans (o2.trans (o3.trans o4));have jd:9<j->0<j:=λz=>by lia
 by_cases h1:dz=1
 .by_cases h2:9<j
  .refine⟨((v-w*n*(r-2))%j,0,(v-w*n*(r-2))/j-w*ds,0,ds,r-2),s4,hm,?_⟩;rw[zh (show T yy=AA ya from rfl) rfl rfl];simp! [ya,e1,hv,e2,e3,hr,e4,h1,beq_self_eq_true,h2,decide_true,zP hw,zm hn,zcE (i:=w*n) (j:=r-2) (.inr (by erw[yQ,maxV,C3,PV.int.injEq]at hr;split at hr<;>lia)),zcp (jd h2),zee (jd h2) ∅,zD,yau]
  .refine⟨((v-w*n*(r-2))%i,(v-w*n*(r-2))/i-w*ds,0,ds,0,r-2),s4,hm,?_⟩;rw[zh (show T yy=AA ya from rfl) rfl rfl];simp! [ya,e1,hv,e2,e3,hr,e4,h1,beq_self_eq_true,h2,decide_false,zP hw,zm hn,zcE (i:=w*n) (j:=r-2) (.inr (by erw[yQ,maxV,C3,PV.int.injEq]at hr;split at hr<;>lia)),zcp i0,zee i0 ∅,zD,yau]
 .have h1':(dz==1)=false:=by simpa using h1
  refine⟨((v-w*n*(r-2))%i,(v-w*n*(r-2))/i-w*ds,0,ds,0,r-2),s4,hm,?_⟩;rw[zh (show T yy=AA ya from rfl) rfl rfl];simp! [ya,e1,hv,e2,e3,hr,e4,h1',zP hw,zm hn,zcE (i:=w*n) (j:=r-2) (.inr (by erw[yQ,maxV,C3,PV.int.injEq]at hr;split at hr<;>lia)),zcp i0,zee i0 ∅,zD,yau]
end
section
variable {ns:List Int}{B st st':SO}{i j w n:Int}
def zhQ{d:Int}{st:SO}(h0:0<=d)(h1:d<3):∃l,idxV st (.str "xyz") (.int d)=AA (.str l)/\(sA==l)=false:=by
 have:d=0 \/ d=1 \/ d=2:=by lia
 rcases this with rfl|rfl|rfl
 .exact⟨⟨#[120]⟩,by with_unfolding_all rfl,by decide +kernel⟩
 .exact⟨⟨#[121]⟩,by with_unfolding_all rfl,by decide +kernel⟩
 .exact⟨⟨#[122]⟩,by with_unfolding_all rfl,by decide +kernel⟩
def etB:Css:=match yq.body with
 |.cons _ (.cons (.for _ _ b) _)=>b
 |_=>.nil
def zgK(k:Nat)(hns:ns.length<=1000)(h:Frm ns B st){L:Nat}(hL:L≠0)(hB:B.length<=L){ts:List Th}(hs:st[L]?=AA (.lst (ts.map Th.pv)))(hl:ts.length<10){t u5 u6 u7:Option PV}:
  ∃x5 x6 x7 st' t',Frm ns B st'/\Th.fine t'/\st'[L]?=AA (.lst ((ts++[t']).map Th.pv)) /\
   exs (yd T (k+4)) [AA (.loc 0),AA (.int i),AA (.int j),AA (.loc L),t,u5,u6,u7] st etB=.nx [AA (.loc 0),AA (.int i),AA (.int j),AA (.loc L),t,x5,x6,x7] st':=by
 let⟨lo,s1,o1,e1⟩:=zaP k hns (es:=[-1,0,0,1,50,99,100,101]) rfl (i:=i) (j:=j) h.dr;let⟨up,s2,o2,e2⟩:=zaP k hns (es:=[-1,0,0,1,99,100,100,101]) rfl (i:=i) (j:=j) (o1.drw h.dr);have r2:=o2.drw (o1.drw h.dr);let⟨d,s3,d0,d1,o3,e3⟩:=zac (k+1) hns (m:=3) ∅ ∅ r2;let⟨q,s4,q0,q1,o4,e4⟩:=zac (k+1) hns (m:=5) ∅ ∅ (o3.drw r2);let⟨l,hx,hla⟩:=zhQ (st:=s3) d0 d1;have o:=o1.trans (o2.trans (o3.trans o4));have hF:=o.frm h;have hs4:s4[L]?=AA (.lst (ts.map Th.pv)):=(o.get hL).trans hs;erw[AL,BE,q4,PV.tup]at e1 e2
 by_cases hq:q=0
 .let⟨a1,a2⟩:=zbl (v:=Th.mark.pv) hs4 (by rw[A4];lia);erw[Th.pv]at a1 a2;refine⟨AA (q4 lo),AA (q4 up),AA Th.mark.pv,_,.mark,hF.put hL hB (.lst ((ts++[Th.mark]).map Th.pv)),trivial,rdS hs4,?_⟩;simp! [etB,yq,e1,e2,e3,hx,e4,hq,beq_self_eq_true,a1,a2,Th.pv,Bj,q4]
 .have hq':(q==0)=false:=by simpa using hq
  let⟨a1,a2⟩:=zbl (v:=(Th.sl l lo up).pv) hs4 (by rw[A4];lia);erw[Th.pv,q4,PV.tup]at a1 a2;refine⟨AA (q4 lo),AA (q4 up),AA (Th.sl l lo up).pv,_,.sl l lo up,hF.put hL hB (.lst ((ts++[Th.sl l lo up]).map Th.pv)),hla,rdS hs4,?_⟩;simp! [etB,yq,e1,e2,e3,hx,e4,hq',a1,a2,Th.pv,Bj,q4]
def zdG(k:Nat)(hns:ns.length<=1000){L:Nat}(hL:L≠0)(hB:B.length<=L):∀(xs:List PV) (st:SO) (ts:List Th) (u4 u5 u6 u7:Option PV),Frm ns B st->st[L]?=AA (.lst (ts.map Th.pv))->(∀t∈ts,t.fine)->ts.length+xs.length<=9 ->
  ∃(st':SO) (ts':List Th) (x4 x5 x6 x7:Option PV),Frm ns B st'/\st'[L]?=AA (.lst (ts'.map Th.pv))/\(∀t∈ts',t.fine)/\ts'.length<=9 /\
   yba (yd T (k+4)) (.n 4) etB xs [AA (.loc 0),AA (.int i),AA (.int j),AA (.loc L),u4,u5,u6,u7] st=.nx [AA (.loc 0),AA (.int i),AA (.int j),AA (.loc L),x4,x5,x6,x7] st'
 |[],st,ts,u4,u5,u6,u7,hF,hs,hf,hl=>⟨st,ts,u4,u5,u6,u7,hF,hs,hf,by simpa using hl,rfl⟩
 |x::xs,st,ts,u4,u5,u6,u7,hF,hs,hf,hl=>by
  rw[A2]at hl;let⟨x5,x6,x7,s1,t',F1,f1,g1,e1⟩:=zgK k hns (i:=i) (j:=j) hF hL hB hs ∅ (t:=AA x) (u5:=u5) (u6:=u6) (u7:=u7);let⟨s2,ts',y4,y5,y6,y7,F2,g2,f2,l2,e2⟩:=zdG k hns hL hB xs s1 (ts++[t']) (AA x) x5 x6 x7 F1 g1 (λt ht=>by
   rcases BY.1 ht with ht|ht
   .exact hf t ht
   .rw[Eg.1 ht];exact f1) (by rw[An,C4];lia)
  refine⟨s2,ts',y4,y5,y6,y7,F2,g2,f2,l2,?_⟩;rw[zx (ρ1:=[AA (.loc 0),AA (.int i),AA (.int j),AA (.loc L),AA x,u5,u6,u7]) rfl,e1];exact e2
def zbE(k:Nat)(hns:ns.length<=1000)(h:Drw ns 0 st):∃(ts:List Th) (st':SO),Frm ns st st'/\(∀t∈ts,Th.fine t)/\ts.length<=9/\yd T (k+5) y0 [.loc 0,.int i,.int j] st=.ok (.tup (ts.map Th.pv)) st':=by
 have F0:Frm ns st (st++[.lst []]):=(Frm.refl h).app _;let⟨d,s1,d0,d1,o1,e1⟩:=zac (k+1) hns (m:=3) ∅ ∅ F0.dr;let⟨q,rfl⟩:=zaW d0;have hp:=h.pos;have g1:s1[st.length]?=AA (.lst (([]:List Th).map Th.pv)):=by
  rw[o1.get ∅];simp
 let⟨s2,ts,x4,x5,x6,x7,F2,g2,f2,l2,e2⟩:=zdG k hns (i:=i) (j:=j) (L:=st.length) (B:=st) ∅ (AU _) (yo q 0 1) s1 [] AC AC AC AC (o1.frm F0) g1 (λt ht=>by cases ht) (by rw[zaY];simp;lia);refine⟨ts,s2,F2,f2,l2,?_⟩;rw[zh (show T y0=AA yq from rfl) rfl rfl];have hb:yq.body=.cons (.asg (.n 3) (.newl .nil)) (.cons (.for (.n 4) (.range1 (.call 10 (.cons (.var 0) (.cons (.cst (.int 3)) .nil)))) etB) (.cons (.ret (.blt .tuple (.cons (.var 3) .nil))) .nil)):=rfl;have ht:yQ .tuple s2 [.loc st.length]=AA (.tp AF (ts.map Th.pv)):=by
  erw[yQ,ycK,yr,g2,Ar,PV.tup]
 rw[hb];simp! [yq,e1,zb1 q ∅,e2,ht,zD]
def zfm(k:Nat){st:SO}:∀ts:List Th,∃bs:List Bool,yaa (yd T k) [AC] (.n 0) (.cst (.bl AD)) (.cmp .eq (.idx (.var 0) (.cst (.int 0))) (.cst (.str "slice"))) (ts.map Th.pv) st=.ok (bs.map .bl) st/\bs.length=ts.length/\(bs.any id=AD->∃l lo hi,Th.sl l lo hi∈ts)
 |[]=>⟨[],rfl,rfl,λz=>by cases z⟩
 |t::ts=>by
  let⟨bs,e,el,ha⟩:=zfm k (st:=st) ts;have sm_ne:yw .eq (.str yaq) (.str yx)=AA (.bl AF):=by
   erw[yw];rw[if_pos (by decide +kernel),show peq (.str yaq) (.str yx)=AF by erw[peq];decide +kernel]
  have ss_eq:yw .eq (.str yx) (.str yx)=AA (.bl AD):=by
   erw[yw];rw[if_pos (by decide +kernel),show peq (.str yx) (.str yx)=AD by erw[peq];decide +kernel]
  cases t with
  |mark=>
   refine⟨AF::bs,?_,by simp[el],λz=>?_⟩
   .have one:yaG (yd T k) [AC] (.n 0) (.cst (.bl AD)) (.cmp .eq (.idx (.var 0) (.cst (.int 0))) (.cst (.str "slice"))) Th.mark.pv st=.ok (AA (.bl AF)) st:=by
     simp! [yaG,Th.pv,ix0,sm_ne]
    rw[AL,zk,one];erw[R.bind];rw[e];rfl
   .let⟨l,lo,hi,hm⟩:=ha (by simpa using z);exact⟨l,lo,hi,AS _ hm⟩
  |sl l lo hi=>
   refine⟨AD::bs,?_,by simp[el],λz=>⟨l,lo,hi,Ag⟩⟩;have one:yaG (yd T k) [AC] (.n 0) (.cst (.bl AD)) (.cmp .eq (.idx (.var 0) (.cst (.int 0))) (.cst (.str "slice"))) (Th.sl l lo hi).pv st=.ok (AA (.bl AD)) st:=by
    simp! [yaG,Th.pv,ix0,ss_eq]
   rw[AL,zk,one];erw[R.bind];rw[e];rfl
def zcd:∀bs:List Bool,anyB (bs.map .bl)=AA (bs.any id)
 |[]=>rfl
 |b::bs=>by rw[AL,anyB,zcd bs];rfl
end
def lwB:Css:=match yay.body with
 |.cons _ (.cons _ (.cons _ (.cons _ (.cons _ (.cons _ (.cons _ (.cons (.for _ _ b) _)))))))=>b
 |_=>.nil
def lwC:Css:=match yay.body with
 |.cons _ (.cons _ (.cons _ (.cons _ (.cons _ (.cons _ (.cons _ (.cons _ r)))))))=>r
 |_=>.nil
section
variable {ns:List Int}{st:SO}{i j w n:Int}
structure Tms(ns:List Int)(st:SO)(tt:List Tm):Prop where
 dr:Drw ns 0 st
 len:1<st.length
 at1:st[1]?=AA (.lst (tt.map Tm.pv))
 fine:∀t∈tt,t.fine
def zgd(k:Nat)(hns:ns.length<=1000){tt:List Tm}(h:Tms ns st tt)(hl:tt.length<10)(i0:0<i)(i1:i<1000)(j1:j<1000)(hw:big w)(hn:big n){a0 a2 t u9 u10 u11 u12 u13 u14 u15 u16:Option PV}:
  ∃x9 x10 x11 st' t',Tms ns st' (tt++[t']) /\
   exs (yd T (k+5)) [a0,AA (.loc 0),a2,AA (.int w),AA (.int n),AA (.int i),AA (.int j),AA (.loc 1),t,u9,u10,u11,u12,u13,u14,u15,u16] st lwB=.nx [a0,AA (.loc 0),a2,AA (.int w),AA (.int n),AA (.int i),AA (.int j),AA (.loc 1),t,x9,x10,x11,u12,u13,u14,u15,u16] st':=by
 let⟨x,s1,o1,e1⟩:=zbw (k+1) hns (i:=i) (j:=j) (w:=w) (n:=n) h.dr i0 i1 j1 hw hn;let⟨ts,s2,F2,f2,l2,e2⟩:=zbE k hns (i:=i) (j:=j) (o1.drw h.dr);let⟨d,s3,d0,d1,o3,e3⟩:=zac (k+2) hns (m:=7) ∅ ∅ F2.dr;let⟨bs,c3,bl,ha⟩:=zfm (k+5) (st:=s3) ts;have hlen:=h.len;have len2:1<s2.length:=by have:=F2.len;rw[o1.len]at this;lia
 have g3:s3[1]?=AA (.lst (tt.map Tm.pv)):=by
  rw[o3.get ∅,F2.get 1 ∅ (by rw[o1.len];exact hlen),o1.get ∅];exact h.at1
 have any3:yQ .any s3 [.lst (bs.map .bl)]=AA (.bl (bs.any id)):=by
  erw[yQ,yr,Am,zcd,Ar]
 have int3:yQ .int s3 [.bl (bs.any id)]=AA (.int (bi (bs.any id))):=rfl;have hmul:yt .mul (.int d) (.int (bi (bs.any id)))=AA (.int (d*bi (bs.any id))):=zP (by show d.natAbs<_;lia);let⟨a1,a2'⟩:=zbl (v:=(⟨d*bi (bs.any id),x,ts⟩:Tm).pv) g3 (by rw[A4];lia);refine⟨AA (yau x),AA (.tup (ts.map Th.pv)),AA (.int (d*bi (bs.any id))),s3.set 1 (.lst ((tt++[(⟨d*bi (bs.any id),x,ts⟩:Tm)]).map Tm.pv)),⟨d*bi (bs.any id),x,ts⟩,⟨(o3.drw F2.dr).put ∅ _,by rw[Aw,o3.len];exact len2,rdS g3,λt ht=>?_⟩,?_⟩
 .rcases BY.1 ht with ht|ht
  .exact h.fine t ht
  .rw[Eg.1 ht];refine⟨?_,f2,by show ts.length<=10;lia,?_⟩
   .show (d*bi (bs.any id)).natAbs<_
    cases bs.any id<;>simp[bi]<;>lia
   .cases hb:bs.any id with
    |true=>exact .inr (ha hb)
    |false=>exact .inl (by simp[bi])
 .have hb:lwB=.cons (.asg (.n 9) (.call 17 (.cons (.var 1) (.cons (.var 5) (.cons (.var 6) (.cons (.var 3) (.cons (.var 4) .nil))))))) (.cons (.asg (.n 10) (.call 18 (.cons (.var 1) (.cons (.var 5) (.cons (.var 6) .nil))))) (.cons (.asg (.n 11) (.bin .mul (.call 10 (.cons (.var 1) (.cons (.cst (.int 7)) .nil))) (.blt .int (.cons (.blt .any (.cons (.comp [AC] (.n 0) (.seq (.var 10)) (.cst (.bl AD)) (.cmp .eq (.idx (.var 0) (.cst (.int 0))) (.cst (.str "slice")))) .nil)) .nil)))) (.cons (.expr (.mth .append (.var 7) (.cons (.tup (.cons (.var 11) (.cons (.var 9) (.cons (.var 10) .nil)))) .nil))) .nil))):=rfl;erw[Tm.pv,yau,PV.tup]at a1 a2' e1 e2;rw[hb];simp! [e1,e2,e3,IC.seqOf,c3,zG (bs.map PV.bl) (by rw[A4];lia),any3,int3,hmul,a1,a2',yau,Tm.pv,Bj]
def zc2(k:Nat)(hns:ns.length<=1000)(i0:0<i)(i1:i<1000)(j1:j<1000)(hw:big w)(hn:big n){a0 a2 u12 u13 u14 u15 u16:Option PV}:∀(xs:List PV) (st:SO) (tt:List Tm) (u8 u9 u10 u11:Option PV),Tms ns st tt->tt.length+xs.length<=9 ->
  ∃(st':SO) (tt':List Tm) (x8 x9 x10 x11:Option PV),Tms ns st' tt'/\tt'.length<=9 /\
   yba (yd T (k+5)) (.n 8) lwB xs [a0,AA (.loc 0),a2,AA (.int w),AA (.int n),AA (.int i),AA (.int j),AA (.loc 1),u8,u9,u10,u11,u12,u13,u14,u15,u16] st=.nx [a0,AA (.loc 0),a2,AA (.int w),AA (.int n),AA (.int i),AA (.int j),AA (.loc 1),x8,x9,x10,x11,u12,u13,u14,u15,u16] st'
 |[],st,tt,u8,u9,u10,u11,h,hl=>⟨st,tt,u8,u9,u10,u11,h,by simpa using hl,rfl⟩
 |x::xs,st,tt,u8,u9,u10,u11,h,hl=>by
  rw[A2]at hl;let⟨x9,x10,x11,s1,t',h1,e1⟩:=zgd k hns h ∅ i0 i1 j1 hw hn (a0:=a0) (a2:=a2) (t:=AA x) (u9:=u9) (u10:=u10) (u11:=u11) (u12:=u12) (u13:=u13) (u14:=u14) (u15:=u15) (u16:=u16);let⟨s2,tt',y8,y9,y10,y11,h2,l2,e2⟩:=zc2 k hns i0 i1 j1 hw hn (a0:=a0) (a2:=a2) (u12:=u12) (u13:=u13) (u14:=u14) (u15:=u15) (u16:=u16) xs s1 (tt++[t']) (AA x) x9 x10 x11 h1 (by rw[An,C4];lia);refine⟨s2,tt',y8,y9,y10,y11,h2,l2,?_⟩;rw[zx (ρ1:=[a0,AA (.loc 0),a2,AA (.int w),AA (.int n),AA (.int i),AA (.int j),AA (.loc 1),AA x,u9,u10,u11,u12,u13,u14,u15,u16]) rfl,e1];exact e2
def lwE:Css:=match lwC with
 |.cons _ (.cons _ (.cons _ r))=>r
 |_=>.nil
def ze6(k:Nat){tt:List Tm}{o:Option Int}{mk:Int}(w0:0<=w)(w1:w<=16)(hn:big n)(hi:big i)(hj:big j)(hm:big mk)(ht:∀t∈tt,t.fine)(hl:tt.length<=100)(ho:∀X,o=AA X->X.natAbs<1000000)
  (h1:st[1]?=AA (.lst ((tt++more j o).map Tm.pv))) {a0 a1 a2 a8 a9 a10 a11 a14 u15 u16:Option PV}:
  exs (yd T (k+5)) [a0,a1,a2,AA (.int w),AA (.int n),AA (.int i),AA (.int j),AA (.loc 1),a8,a9,a10,a11,AA (yaN o),AA (.int mk),a14,u15,u16] st lwE=.rt (.bl AD) st:=by
 have e1:=zdJ k w0 w1 hn hi hj hm ht hl ho st;have e2:=stands (k+2) (by show w.natAbs<_;lia) hn hi hj (tt++more j o) st;have hb:lwE=.cons (.asg (.n 15) (.blt .tuple (.cons (.var 7) .nil))) (.cons (.asg (.n 16) (.call 1 (.cons (.var 15) (.cons (.var 3) (.cons (.var 4) (.cons (.var 5) (.cons (.var 6) (.cons (.var 12) (.cons (.var 13) .nil))))))))) (.cons (.ret (.and (.isi (.var 16) [.bool]) (.cmp .eq (.var 16) (.call 14 (.cons (.var 15) (.cons (.var 3) (.cons (.var 4) (.cons (.var 5) (.cons (.var 6) .nil))))))))) .nil)):=rfl;have ht':yQ .tuple st [.loc 1]=AA (.tp AF ((tt++more j o).map Tm.pv)):=by
  erw[yQ,ycK,yr,h1,Ar,PV.tup]
 erw[PV.tup]at e1 e2;generalize (tt++more j o).all (Tm.ok w n i j)=b at e1 e2;have hi':ybg (.bl b) [.bool]=AA (.bl AD):=rfl;have hc:yw .eq (.bl b) (.bl b)=AA (.bl AD):=by cases b<;>rfl
 rw[hb];simp! [ht',e1,hi',e2,hc]
def zgi(k:Nat)(hns:ns.length<=1000){tt:List Tm}(h:Tms ns st tt)(hl:tt.length<=9)(w0:1<=w)(w1:w<=16)(hn:big n)(hi:big i)(hj:big j){a0 a2 a8 a9 a10 a11:Option PV}:∃s',
  exs (yd T (k+5)) [a0,AA (.loc 0),a2,AA (.int w),AA (.int n),AA (.int i),AA (.int j),AA (.loc 1),a8,a9,a10,a11,AC,AC,AC,AC,AC] st lwC=.rt (.bl AD) s':=by
 let⟨mk,s1,m0,m1,o1,e1⟩:=zac (k+2) hns (m:=2) ∅ ∅ h.dr;let⟨z,s2,z0,z1,o2,e2⟩:=zac (k+2) hns (m:=2) ∅ ∅ (o1.drw h.dr);have hm:big mk:=by show mk.natAbs<_;lia
 have hb:lwC=.cons (.asg (.n 12) (.tup .nil)) (.cons (.asg (.n 13) (.call 10 (.cons (.var 1) (.cons (.cst (.int 2)) .nil)))) (.cons (match lwC with
  |.cons _ (.cons _ (.cons s _))=>s
  |_=>.nope) lwE)):=rfl
 have g2:s2[1]?=AA (.lst (tt.map Tm.pv)):=by
  rw[o2.get ∅,o1.get ∅];exact h.at1
 by_cases hz:z=1
 .let⟨q,rfl⟩:=zaW (show 0<=w by lia);have hp:(2:Int)^q<=2^16:=by
   have:=Nat.pow_le_pow_right (show 0<2 by lia) (show q<=16 by lia)
   exact_mod_cast this
  have hp0:(0:Int)<2^q:=Int.pow_pos ⋯;have r2:=o2.drw (o1.drw h.dr);let⟨X,s3,X0,X1,o3,e3⟩:=zac (k+2) hns (m:=2^q) hp0 ∅ r2;have et:=zhE (k+4) q ∅ s2;have g3:s3[1]?=AA (.lst (tt.map Tm.pv)):=(o3.get ∅).trans g2;let⟨p1,p2⟩:=zbl (v:=(tmA j).pv) g3 (by rw[A4];lia);have g4:=rdS (x:=.lst (tt.map Tm.pv++[(tmA j).pv])) g3;let⟨p3,p4⟩:=zbl (v:=(tmB X).pv) g4 (by rw[An,A4];simp;lia);have g5:=rdS (x:=.lst (tt.map Tm.pv++[(tmA j).pv]++[(tmB X).pv])) g4;have he:=ze6 k (st:=(s3.set 1 (.lst (tt.map Tm.pv++[(tmA j).pv]))).set 1 (.lst (tt.map Tm.pv++[(tmA j).pv]++[(tmB X).pv]))) (w:=q) (n:=n) (i:=i) (j:=j) (o:=AA X) ∅ w1 hn hi hj hm h.fine ∅ (λY hY=>by cases hY;lia) (by rw[g5,Bj];simp[more]) (a0:=a0) (a1:=AA (.loc 0)) (a2:=a2) (a8:=a8) (a9:=a9) (a10:=a10) (a11:=a11) (a14:=AA (.int X)) (u15:=AC) (u16:=AC);obtain⟨S',hS⟩:∃S',S'=(s3.set 1 (.lst (tt.map Tm.pv++[(tmA j).pv]))).set 1 (.lst (tt.map Tm.pv++[(tmA j).pv]++[(tmB X).pv])):=⟨_,rfl⟩;rw[<-hS]at p4 he;refine⟨S',?_⟩;rw[hb];erw[Tm.pv,tmA,tmB,yau,PV.tup,q4,AL,BE,Th.pv,yaN]at p1 p2 p3 p4 he;simp! [e1,e2,hz,beq_self_eq_true,lwC,yay,et,e3,p1,p2,p3,p4];exact he
 .have hz':(z==1)=false:=by simpa using hz
  have he:=ze6 k (st:=s2) (w:=w) (n:=n) (i:=i) (j:=j) (o:=AC) ∅ w1 hn hi hj hm h.fine ∅ (λY hY=>by cases hY) (by rw[g2];simp[more]) (a0:=a0) (a1:=AA (.loc 0)) (a2:=a2) (a8:=a8) (a9:=a9) (a10:=a10) (a11:=a11) (a14:=AC) (u15:=AC) (u16:=AC);refine⟨s2,?_⟩;rw[hb];erw[yaN,PV.tup]at he;simp! [e1,e2,hz',lwC,yay];exact he
end
def zeB(ns:List Int)(h:ns.length<=63):yd T 25 ycw [.scr (ns.map .int)] []=.ok (.bl AD) []:=by
 have hns:ns.length<=1000:=by lia
 rw[zu (show T ycw=AA yay from rfl) rfl rfl (by simp[nLs,nL,noLocs_ints])];let⟨v,e0,hv⟩:=fresh 23 ns h [];have r0:Drw ns 0 [v]:=⟨0,0,AF,by lia,by rw[hv];rfl⟩;let⟨nr,s1,n0,n1,o1,e1⟩:=zac 21 hns (m:=4) ∅ ∅ r0;let⟨w,n,s2,w0,w1,z0,z1,o2,e2⟩:=sizes 20 hns (m:=4) ∅ ∅ (o1.drw r0);have r2:=o2.drw (o1.drw r0);let⟨di,s3,i0,i1,o3,e3⟩:=zac 21 hns (m:=190) ∅ ∅ r2;let⟨dj,s4,j0,j1,o4,e4⟩:=zac 21 hns (m:=190) ∅ ∅ (o3.drw r2);have r4:=o4.drw (o3.drw r2);have l4:s4.length=1:=by rw[o4.len,o3.len,o2.len,o1.len];rfl
 have r5:Tms ns (s4++[.lst []]) []:=⟨r4.app _,by simp[l4],by rw[Aa ∅];simp[l4],λt ht=>by cases ht⟩;let⟨t,s6,t0,t1,o6,e6⟩:=zac 21 hns (m:=3) ∅ ∅ r5.dr;have r6:Tms ns s6 []:=⟨o6.drw r5.dr,by rw[o6.len];exact r5.len,(o6.get ∅).trans r5.at1,λt ht=>by cases ht⟩;let⟨q,rfl⟩:=zaW t0;have hr:yb7 (.int (1+(q:Int)))=AA (yo (1+q) 0 1):=by
  rw[show (1:Int)+q=((1+q:Nat):Int)by lia];exact zb1 _ ∅
 have hb:yay.body=.cons (.asg (.n 1) (.call 7 (.cons (.var 0) .nil))) (.cons (.asg (.n 2) (.call 10 (.cons (.var 1) (.cons (.cst (.int 4)) .nil)))) (.cons (.asg (.t [3,4]) (.call 11 (.cons (.var 1) (.cons (.cst (.int 4)) .nil)))) (.cons (.asg (.n 5) (.bin .add (.cst (.int 11)) (.call 10 (.cons (.var 1) (.cons (.cst (.int 190)) .nil))))) (.cons (.asg (.n 6) (.bin .add (.cst (.int 11)) (.call 10 (.cons (.var 1) (.cons (.cst (.int 190)) .nil))))) (.cons (.ite (.cmp .eq (.var 2) (.cst (.int 3))) (.cons (.asg (.n 6) (.bin .mod (.var 6) (.cst (.int 4)))) .nil) .nil) (.cons (.asg (.n 7) (.newl .nil)) (.cons (.for (.n 8) (.range1 (.bin .add (.cst (.int 1)) (.call 10 (.cons (.var 1) (.cons (.cst (.int 3)) .nil))))) lwB) lwC))))))):=rfl;have go:∀j:Int,0<=j->j<1000->∃s',(∃s8 x8 x9 x10 x11,yba (yd T 24) (.n 8) lwB (yo (1+q) 0 1) [AA (.scr (ns.map .int)),AA (.loc 0),AA (.int nr),AA (.int w),AA (.int n),AA (.int (11+di)),AA (.int j),AA (.loc 1),AC,AC,AC,AC,AC,AC,AC,AC,AC] s6=.nx [AA (.scr (ns.map .int)),AA (.loc 0),AA (.int nr),AA (.int w),AA (.int n),AA (.int (11+di)),AA (.int j),AA (.loc 1),x8,x9,x10,x11,AC,AC,AC,AC,AC] s8 /\
   exs (yd T 24) [AA (.scr (ns.map .int)),AA (.loc 0),AA (.int nr),AA (.int w),AA (.int n),AA (.int (11+di)),AA (.int j),AA (.loc 1),x8,x9,x10,x11,AC,AC,AC,AC,AC] s8 lwC=.rt (.bl AD) s'):=λj j0 j1=>by
  let⟨s8,tt,x8,x9,x10,x11,h8,l8,e8⟩:=zc2 19 hns (i:=11+di) (j:=j) (w:=w) (n:=n) ∅ ∅ j1 (by show w.natAbs<_;lia) (by show n.natAbs<_;lia) (a0:=AA (.scr (ns.map .int))) (a2:=AA (.int nr)) (u12:=AC) (u13:=AC) (u14:=AC) (u15:=AC) (u16:=AC) (yo (1+q) 0 1) s6 [] AC AC AC AC r6 (by rw[zaY];simp;lia);let⟨s',e9⟩:=zgi 19 hns h8 l8 ∅ w1 (by show n.natAbs<_;lia) (i:=11+di) (j:=j) (by show (11+di).natAbs<_;lia) (by show j.natAbs<_;lia) (a0:=AA (.scr (ns.map .int))) (a2:=AA (.int nr)) (a8:=x8) (a9:=x9) (a10:=x10) (a11:=x11);exact⟨s',s8,x8,x9,x10,x11,e8,e9⟩
 have bT2:∀{ρ:IC.Env} {a b:Nat} {x y:PV},yG (.t [a,b]) (.tp AF [x,y]) ρ=AA ((ρ.set a (AA x)).set b (AA y)):=rfl;have hl4:s4.length=1:=l4;rw[hb]
 by_cases h3:nr=3
 .let⟨s',s8,x8,x9,x10,x11,e8,e9⟩:=go ((11+dj)%4) ∅ ∅;have hmod:yt .mod (.int (11+dj)) (.int 4)=AA (.int ((11+dj)%4)):=zcp ∅;erw[h3]at e8 e9;erw[PV.tup]at e2;simp! [yay,e0,e1,h3,e2,bT2,e3,e4,beq_self_eq_true,hmod,hl4,e6,hr,e8,e9,zdf]
 .let⟨s',s8,x8,x9,x10,x11,e8,e9⟩:=go (11+dj) ∅ ∅;have h3':(nr==3)=false:=by simpa using h3
  erw[PV.tup]at e2;simp! [yay,e0,e1,e2,bT2,e3,e4,h3',hl4,e6,hr,e8,e9,zdf]
end WK
namespace WK
open PySem L2 IC
theorem walk{l:Da}{q:A1}{loose:List AM}{XP:(AM->Option AE)->Aq->Prop}{YP:A8->Aq->Prop}{d:DefRec}{K:Params->AB}(hn:l.most=AA 63)(hdf:d.params.defaults=[])
  (hY:∀(w:A8) (h:Aq),YP w h->(K w.params).In h)
  (F:∀(w:A8) (mg:AM->Option AE) (fa:AH) (h:Aq),(K w.params).In h->h.Ns mainGlobals mg->mg d.name=AA (.ref fa) ->
   ∃fd:Al,(∀(s:AI) (u:AE),De s fd ⟨[u],[]⟩ [("_law_script",u)])/\∀base:Aq,(K w.params).In base->base.Ns mainGlobals mg->yav l.prog w (K w.params) mg base (CX1 l.prog w) (2*25) fa fd ["_law_script"] (spX (K w.params) (yd T 25) ycw)):
  FR q loose XP YP l.row.toRowW d [] (λf vs=>FZ f vs):=
 L2.walk_of (n:=63) (k:=2*25) (x:="_law_script") (CX:=λw=>CX1 l.prog w) (sp:=λw=>spX (K w.params) (yd T 25) ycw) hn ⋯ hdf ⟨rfl,by decide,by decide⟩ hY F (λw H a ns hl _ hS=>zdt zeB hl hS) λ_ _ _ _ _ z=>ziF z
end WK
end
open PySem PySem.W PyProof.Rows
theorem PySem.Challenge.cw_widewords_k57_sentences_at_their_bounds_holds : PySem.Challenge.rw_widewords_k57_sentences_at_their_bounds.Holds := by
 refine hh.hd (by rfl) (by rfl) (by rfl) ?_
 k_fill
 refine WK.walk (l:=PySem.Challenge.rw_widewords_k57_sentences_at_their_bounds) rfl rfl (λw h Y=>Y) ?F
 case F =>
  intro w mg fa h KX G hmg
  refine' L2.all_mk2 (t:=WK.tbQ) KX G hmg ?R ?B ?D WK.kb_all ?Ml WK.ok_all WK.T_ok (L:=19) rfl 25
  case R =>
   repeat' (first|exact trivial|apply And.intro|(refine' L2.rowFn ?a9 ?l9 ?c9 ?p9 ?b9;(case a9|l9|c9|p9=>k_is);(case b9=>((repeat intro _);first|rfl|kernel_rfl)))|(refine' L2.rowMe ?z9 ?a9 ?i9 ?l9 ?c9 ?p9 ?b9;(case z9=>((first|rw[WK.cn_20]);k_is));(case a9|i9|l9|c9|p9=>k_is);(case b9=>((repeat intro _);first|rfl|kernel_rfl)))|(refine' L2.rowIni ?z9 ?a9 ?i9 ?l9 ?c9 ?p9 ?b9 ?m9 ?k9;(case z9=>((first|rw[WK.cn_20]);k_is));(case a9|i9|l9|c9|p9=>k_is);(case b9=>((repeat intro _);first|rfl|kernel_rfl));(case m9|k9=>k_is))|(refine' L2.rowFd ?a9 ?l9 ?c9 ?p9 ?d9 ?e9 ?v9;(case a9|l9|c9|p9|d9=>k_is);(case e9=>rfl);(case v9=>(repeat first|exact .nil|refine .cons ⟨_,rfl⟩ ?_))))
  case B=>kernel_rfl
  case D =>
   repeat' (first|exact trivial|apply And.intro|intro _|(refine' L2.gd_mk KX G ?a9 ?l9 ?s9 ?r9 ?n9;(case a9|l9=>k_is);(case s9=>rfl);(case r9=>(repeat first|exact .nil|refine L2.con_row (by kernel_rfl) ?_));(case n9=>decide +kernel)))
  case Ml =>
   repeat' (first|exact trivial|apply And.intro|(refine' L2.gdf_mk KX G ?a9 ?l9 ?r9 ?n9;(case a9|l9=>k_is);(case r9=>(repeat first|exact .nil|refine L2.frow_cons (by kernel_rfl) ?_));(case n9=>decide +kernel)))
