import PyProof.Rows.All
import OpenK.KLine
import Open.Tops
import Wide.FinOn
import KE.KRevSl
import KE.KItem
import KE.KxWritten
import KE.KFromBytes
import KE.LcSums
import KE.KBits
import KE.KTryMore
import PySem.Challenge.RW_widewords_k35_products_and_quotients_ref
set_option Elab.async false
set_option linter.all false
set_option maxRecDepth 100000
set_option maxHeartbeats 0
local macro_rules
 | `(#print $s:str)=>do
  let n:=fun (x:Lean.Name)=>Lean.mkIdent (.mkSimple s!"tw{x.hash}")
  let mut a:=#[n `PySem.Challenge.pw_widewords_k35_products_and_quotients_ref]
  for e in s.getString.splitOn "|" do
   let f:=e.splitOn " "
   let mut p:=0
   for r in f.tail! do
    let g:=(r.splitOn ".").map String.toNat!
    p:=p+g[0]!
    for j in [0:g.getD 1 0+1] do a:=a.push (n (.mkStr2 "sh" (f[0]!++toString (p+j))))
    p:=p+g.getD 1 0
  `(structure $(Lean.mkIdent `PySem.W.Fast):declId:Prop where ($a*:True))
set_option genSizeOf false
set_option genInjectivity false
#print "o_ 3 2 4 3.1 2.2 4 2 3 3.1 2.1 4 2 3 3.1 2.1 4 2 3 3.1 2.1 4 2 3 3.1 2.1 4 2 3 3.1 2.1 4 2 3 3.1 2.1 4 2 3 3.1 2.1 4 2 3 3.1 2.1 4 2 3 3.1 2.1 4 2 3 3.1 2.1 4 2 3 3.1 2.1 4 2 3 3.1 2.1 4 2 3 3.1 2.1 4 2 3 3.1 2.1 22 2.2 5.2 2 4.2 3 2.2 4 2.2 4 2.2 4 2.2 3 2.2 5.2 5.2 5.2 3 2.2 3 2.2 2 4 2.2 9 2.2 3 2.2 5.2 5.2 11.2 3 2.2 3 2.2 3 8.2 5.2 3 2.2 5.2 3 2.2 3 2.2 5.2 3 2.2 5.2 3.2 5.2 2 6.2 5.2 5.2 3 2.2 5.2 5.2 5.2 17.2 3 2.2 2 6.2 5.2 5.2 5.2 5.2 3 2.2 3 2.2 5.2 3 2.2 5.2 3 2.2 3 2.2 3 2.2 2 6.2 3 2.2 3 2.2 3 2.2 3 2.2 2 2.1 17.2 5.2 3 2.2 5.2 3 2.2 4 6.2 5.2 5.2 3.2 3 2.2 3 2.2 3.2 5.2 2 4 3.1 3 2.2 3 2.2 3 2.2 3 2.2 3.2 5.2 3 2.6 5 6.2 3.2 3 2.2 3.2 3 2.2 5.2 3 2.9 5.2 3 2.2 5.2 2 6.2 5.2 5.2 5.2 5.2 3 2.2 5.2 3.2 3 2.2 3 2.2 3 2.2 5.2 2 4 2.2 5.2 5.2 5.2 5.2 5.2 5.2 5.2 5.2 5.2 2 6.2 5.2 3 2.2 5.2 3 2.2 5.2 3 2.2 3 2.2 2 2 3 2.2 5.2 3 2.2 3 2.2 4 4 2.2 3 2.2 3 2.2 3 2.2 3 2.2 3 2.2 3 2.2 2.1 4 4 3.1 5.2 3 2.2 3 2.2 5.2 5.2 3 2.2 5.2 5.2 3 2.2 3 2.6 5 6.2 5.2 3 2.2 3 2.2 3.2 5.2 3 2.2 3 2.2 3 2.2 3 2.2 3 2.2 2 4 2.2 3 2.2 3 2.2 3 2.2 3 2.2 3 2.2|sts_ 4 17 16 16 16 16 16 16 16 16 16 16 16 16 16 47 81 72 80 78 94 38 54 55 64 76 85 73 59 34 52 5 87 78|tree_ 19 16 16 16 16 16 16 16 16 16 16 16 16 16 47 81 72 80 78 94 38 52 57 64 76 85 73 59 32 54 3 89 78 45"
set_option genSizeOf true
set_option genInjectivity true
open_shared sh for PySem.Challenge.pw_widewords_k35_products_and_quotients_ref leaving 0
namespace hh
open PySem PySem.W PySem.Calls PyProof.Rows
noncomputable abbrev p:=PySem.Challenge.pw_widewords_k35_products_and_quotients_ref
abbrev z:Pos:=⟨0,0,0,0⟩
abbrev an:Option Value:=some (.ref 6)
noncomputable abbrev bE:=behindTheImports p
noncomputable abbrev cE:Code:=.body bE sh.env_1
noncomputable abbrev H1(P:Params):Heap:=absHeap (sh.tree_1484 P) 1375 {}
noncomputable abbrev S0(w:World)(os:OsState):Shared:=⟨boot_heap w.params,⟨[]⟩,boot_drawn,boot_toks,os⟩
noncomputable abbrev Sb(w:World)(os:OsState):Shared:=SharedT.abs ⟨sh.tree_4 w.params,15,{},⟨[]⟩,{},187,os⟩
noncomputable abbrev Sk(w:World)(os:OsState):Shared:=SharedT.abs ⟨sh.tree_1484 w.params,1375,{},⟨[]⟩,{},2221,os⟩
theorem pre(w os):topGo treeTable p w 11 an 12 (S0 w os) (topStub p)=some (Sb w os,⟨denote treeTable cE,cE,z,[topFrame z]⟩):=by kernel_rfl
theorem blk(w os):segRun treeTable p w 11 an 1 1 (Sb w os) (blockOf bE sh.env_1 cE z [topFrame z])=some (.next,Sb w os,cE,z):=by kernel_rfl
theorem fin(w os):topRun treeTable p w 11 an 2 (Sk w os) (restOf [] sh.env_1 cE ⟨729,0,744,15⟩ [topFrame z])=some (Sk w os):=by kernel_rfl
theorem bod:bE=sh.sts_4++(sh.sts_21++(sh.sts_37++(sh.sts_53++(sh.sts_69++(sh.sts_85++(sh.sts_101++(sh.sts_117++(sh.sts_133++(sh.sts_149++(sh.sts_165++(sh.sts_181++(sh.sts_197++(sh.sts_213++(sh.sts_229++(sh.sts_276++(sh.sts_357++(sh.sts_429++(sh.sts_509++(sh.sts_587++(sh.sts_681++(sh.sts_719++(sh.sts_773++(sh.sts_828++(sh.sts_892++(sh.sts_968++(sh.sts_1053++(sh.sts_1126++(sh.sts_1185++(sh.sts_1219++(sh.sts_1271++(sh.sts_1276++(sh.sts_1363++(sh.sts_1441++[]))))))))))))))))))))))))))))))))):=by kernel_rfl
theorem run(w os):topRun treeTable p w 11 an (12+(1+(196+(214+(214+(214+(214+(214+(214+(214+(214+(214+(214+(214+(214+(214+(400+(371+(397+(383+(385+(398+(160+(400+(311+(426+(398+(389+(371+(277+(397+(307+(164+(522+(385+(205+2)))))))))))))))))))))))))))))))))))) (S0 w os) (topStub p)=some (Sk w os):=by
 refine go_top (pre w os) (piece_block (blk w os) ?_)
 have h:=sh.chain p bE w os [] 2 (Sk w os) (fin w os)
 rw[<-bod] at h
 exact h
noncomputable def q:Program:=view p [234]
noncomputable abbrev lo:List Str:=p.boundNames
theorem look(w:World):(fun os=>((staticsOk (importedModules p.main.body) (boot_heap w.params) (H1 w.params) && namesBound p (H1 w.params) && gensDone (Sk w os) && laidKept (boot_heap w.params) (H1 w.params)),openSeen q lo (importedModules p.main.body) (fun _=>true) true (Sk w os),(Sk w os).heap))=fun _=>(true,openGood q lo,H1 w.params):=by kernel_rfl
theorem left:LeftO p q lo (fun _=>true) Shared.heap (fun w=>H1 w.params) 20106:=.of_pieces (boot_open (by kernel_rfl) (by kernel_rfl) fun s=>by kernel_rfl) (fun w=>by kernel_rfl) run (by kernel_rfl) look
theorem inA{t:BT}{n:Nat}{f:Life}{K:Frag}(h1:K.all (fun x=>Nat.blt x.1 n)=true)(h2:K.map (fun x=>t.get x.1)=K.map fun x=>some x.2)(h3:K.map (fun x=>alive x.2)=K.map fun x=>some x.2):K.In (absHeap t n f):=by
 intro a o e
 induction K with
 | nil=>cases e
 | cons x r ih=>
  obtain ⟨b,y⟩:=x
  simp only[List.map_cons,List.cons.injEq,List.all_cons,Bool.and_eq_true] at h1 h2 h3
  by_cases hb:(a==b)=true
  · rw[List.lookup_cons,hb] at e
    cases e
    have:=beq_iff_eq.mp hb
    subst this
    rw[abs_get (Nat.le_of_ble_eq_true h1.1) h2.1]
    exact h3.1
  · rw[List.lookup_cons,eq_false_of_ne_true hb] at e
    exact ih h1.2 h2.2 h3.2 e
local macro_rules
 | `(panic! $s:str)=>do
  let mut v:=#[]
  let mut p:=0
  let mut q:=0
  for r in s.getString.splitOn " " do
   if let g::l::m:=(r.splitOn ",").map String.toNat! then
    let i:=m.headD (q+g)
    p:=p+g
    for j in [0:l] do v:=v.push (p+j,if i==0 then .str `PySem.W s!"boot_o_{p+j}" else .str `sh s!"o_{i+j}")
    p:=p+l
    q:=i+l
  let mut a ← `(List.nil)
  for (x,o) in v.reverse do a ← `(List.cons (nat_lit $(Lean.Syntax.mkNumLit (toString x)),$(Lean.mkIdent o) P) $a)
  `(fun P=>$a)
noncomputable def KK:Params->Frag:=panic! "2,1,0 0,1,1441 11,1,7 6,2 0,1,231 0,1,17 2,1,24 6,3 2,1,40 6,3 2,1,56 6,3 2,1,72 6,3 2,1,88 6,3 2,1,104 6,3 2,1,120 6,3 2,1,136 6,3 2,1,152 6,3 2,1,168 6,3 2,1,184 6,3 2,1,200 6,3 2,1,216 6,3 2,1,232 6,3 2,18 1,2 1,3 1,2 1,2 0,1,278 2,3 1,2 1,4 1,2 1,4 1,2 1,4 1,2 1,3 1,2 1,3 1,2 1,3 1,2 1,3 1,2 1,3 1,2 1,3 1,2 1,2 0,1,359 1,2 1,9 1,2 1,3 1,2 1,3 1,2 1,3 1,2 1,9 1,2 1,3 1,2 1,3 1,2 1,3 0,3,431 1,2 1,3 1,2 1,3 1,2 1,3 1,2 1,3 1,2 1,3 1,2 1,3 1,2 1,3 1,2 1,3 1,2 1,3 2,3 1,2 1,2 0,1,511 1,2 1,3 1,2 1,3 1,2 1,3 1,2 1,3 1,2 1,3 1,2 1,3 1,2 1,15 1,2 1,3 1,2 1,2 0,1,589 1,2 1,3 1,2 1,3 1,2 1,3 1,2 1,3 1,2 1,3 1,2 1,3 1,2 1,3 1,2 1,3 1,2 1,3 1,2 1,3 1,2 1,3 1,2 1,3 1,2 1,2 0,1,683 1,2 1,3 1,2 1,3 1,2 1,3 1,2 1,3 1,2 1,2 0,15,721 1,2 1,3 1,2 1,3 1,2 1,3 1,2 1,3 1,2 1,2 0,1,775 1,2 1,3 1,2 1,3 1,2 1,3 2,3 1,2 1,3 1,2 1,3 2,3 1,2 1,2 7,1,837 1,2 1,3 1,2 1,3 1,2 1,3 1,2 1,3 2,3 1,2 1,3 1,2 1,7 2,1,894 1,2 1,3 2,3 1,2 1,3 2,3 1,2 1,3 1,2 1,3 1,2 1,10 1,2 1,3 1,2 1,3 1,2 1,2 0,1,970 1,2 1,3 1,2 1,3 1,2 1,3 1,2 1,3 1,2 1,3 1,2 1,3 1,2 1,3 2,3 1,2 1,3 1,2 1,3 1,2 1,3 1,2 1,2 0,1,1055 1,2 1,3 1,2 1,3 1,2 1,3 1,2 1,3 1,2 1,3 1,2 1,3 1,2 1,3 1,2 1,3 1,2 1,3 1,2 1,2 0,1,1128 1,2 1,3 1,2 1,3 1,2 1,3 1,2 1,3 1,2 1,3 1,2 1,3 1,2 1,3 1,2 1,2 0,2,1187 1,2 1,3 1,2 1,3 1,2 1,3 1,2 1,2 0,1,1221 1,2 1,3 1,2 1,3 1,2 1,3 1,2 1,3 1,2 1,3 1,2 1,3 1,2 1,2 0,1,1272 7,1,1285 1,2 1,3 1,2 1,3 1,2 1,3 1,2 1,3 1,2 1,3 1,2 1,3 1,2 1,3 1,2 1,3 1,2 1,3 1,2 1,7 2,1,1365 1,2 1,3 1,2 1,3 1,2 1,3 1,2 1,3 2,3 1,2 1,3 1,2 1,3 1,2 1,3 1,2 1,3 1,2 1,3 1,2 1,2 0,1,1443 1,2 1,3 1,2 1,3 1,2 1,3 1,2 1,3 1,2 1,3 1,2 1,2"
theorem inK(w:World):InK KK w (H1 w.params):=inA (K:=KK w.params) (by kernel_rfl) (by kernel_rfl) (by kernel_rfl)
theorem hd{d:DefRec}{k:List (Str×Expr)}(a:defOf q "law"=some (d,k))(b:p.theDef "law"=some (d.params,d.body,d.scope))(c:kwWritten? d.params.kwonlyargs d.params.kw_defaults=some k)(h:WalkO q lo (fun _ _=>True) (InK KK) PySem.Challenge.rw_widewords_k35_products_and_quotients_ref.row.toRowW d k fun f vs=>PySem.call f vs):PySem.Challenge.rw_widewords_k35_products_and_quotients_ref.Holds:=by
 w_on;o_law
 refine holds_open left (YP:=InK KK) (XP:=fun _ _=>True) (fun w s e=>e ▸ inK w) InK.keeps (fun _ _=>trivial) (fun _ _ _ _ _=>trivial) a b c (fun s _=>recFacts_nil rfl) (by rfl) (by assumption) (by decide +kernel) ⟨rfl,rfl,rfl,rfl,rfl,by decide +kernel⟩ ?hw h
 w_witness2
end hh
local macro_rules|`(⋯)=>`((by decide))
local macro_rules|`(∅)=>`((by lia))
set_option compiler.extract_closed false
set_option bootstrap.genMatcherCode false
set_option genSizeOf false
local macro_rules | `(tactic| ac_rfl)=>`(tactic| with_unfolding_all rfl)
open Option renaming some->AA,none->AD,isSome_iff_exists->Ad,bind_some->BB,getD_some->BL,any_eq_true_iff_get->Cg,map_some->Dq,get_some->FT,getD_none->Gm
open Bool renaming false->AB,true->AC,and_eq_true->AH,false_ne_true->Ai,false_eq_true->Bd,not_eq_true'->Bl,or_eq_true->CG,true_and->Cv,and_eq_true_iff->Dj,eq_iff_iff->Dp,false_or->GA,and_self->GB,true_or->G9,not_eq_true->HD,false_and->HR,or_false->Hj,and_true->Ho,or_true->IG
open PySem.Str renaming ofString->AE,empty->DA
open PySem.W renaming Frag->AF,findIn->Aa,keepIn->Ab,nsIn->Az,kitOne->BC,fnOf->BS,emptyDict->BW,instObj->Bp,codeIn->Bz,kia_one->CJ,callWith_K->C3,looks_findIn->Cc,plainGet->Ci,isFn->Cj,hideAll->Cw,hasDictIn->DE,cellsFrom_some->DH,excIn->D7,makesIn->Dl,plainGet_of->Ds,lookIn->EF,exmOne->EM,methodObj->EW,plainOver->EX,clsIn->Eg,mg_of->El,OpenLaw->FD,takerIn->FP,methodCall_KW->FZ,hideAll_get->Fj,callWith_K0->Fq,of_hideAll->GI,codeRec_of->GM,handedIn->Gi,WalkO->HM,kitAny->Ha,subIn->Hk,mroIn->Hl,Looks->Hm,Rel2->IA
open PySem renaming Value->AG,wpAny_bind->AI,Addr->AJ,Shared->AK,Str->AL,Expr->AT,wpAny_pure->AV,wpAny->A2,Program->A4,World->Af,Around->Ag,FuncData->Ao,Heap->Aq,Env->BG,wpAny_Call_Name_kw->BI,wpAny_field->BM,wpAny_truthy_bool->BO,sizeLine_eq->BP,wpAny_newObj_type->BV,Scope->BZ,wpAny_callSpecial?_slot->B1,Obj->B7,Keyword->B8,Stmt->B9,wpAny_mono->Bb,wpAny_pyIter_tuple->Bc,DictEntry->By,Pos->CB,wpAny_passesOwn->CD,call_meets->CO,IsPair->CQ,mem_of_lookup->CT,wpAny_call_entry->CU,wpAny_seqItems->CV,wpAny_binaryOp_repeat_ref->CZ,wpAny_setField_rec->C6,wpAny_execs_nil->Cy,codeAny_mono->DF,NameKind->DG,typeIs_int->D1,strKind_is->D3,wpAny_holding->D6,Operator->Da,Builtin->Dv,wpAny_newFunctionEnv_cells->EH,BindsTo->EY,wpAny_pyIter_list->EZ,wpAny_loadPart_at->E8,IsZip->Eb,wpAny_standAt->Ef,wpAny_onRaise->Ei,PassesOwn->Eo,noFill_tuple_add->Et,wpAny_rule->FG,IsPart->FI,codeAny_call_function->FV,wpAny_loadName_local->F2,wpAny_bindName->F3,wpAny_setField->F5,codeAny_call_builtin->F6,wpAny_updateSeq_pair->F7,wpAny_loadName_cell->Fk,CmpOp->Fw,seq_tuple_add->Fx,Result->GJ,wpAny_call->GL,tupleKind_room_in1->GR,Within->GU,concat_meets->G0,wpAny_sequenceKey->G1,wpAny_typeOf->G2,slot_list_getitem->G3,wpAny_pyIter_enum->G8,ZipApart->Gb,wpAny_execs_cons->Gh,seqSlot_of->Gr,wpAny_pyIter_zip->Gy,wpAny_getItem_of->Gz,seqIndex_of->HE,Paired->HN,wpAny_Name->HQ,typeIs_str->HU,call->HX,Sem->Hh,Tok->Hq,Model->Hs,BoolOp->ID
open List renaming replicate->AM,getElem?_set_ne->AN,mem_cons_of_mem->AQ,size_toArray->AS,map_cons->AU,mem_of_getElem?->AW,mem_cons->AX,length_cons->A1,getElem?_set_self->A5,length_append->A6,mem_cons_self->A8,all_eq_true->A9,getElem?_append_left->Ae,not_mem_nil->Aj,getElem?_append_right->Ak,getElem?_cons_succ->Al,getElem?_eq_some_iff->Am,length_map->Ap,mem_append_right->Av,any_cons->Ax,replicate_succ->Ay,getElem?_cons_zero->BD,all_cons->BE,set_cons_zero->BJ,set_cons_succ->BK,getElem?_eq_none->BN,length_set->BR,lookup_cons->BU,map_nil->BY,flatten_cons->B5,append_assoc->B6,cons_append->Be,lookup->Bg,getElem?_map->Bk,mem_append->Bq,append_nil->Br,find?_cons->Bs,nil_append->CF,getElem?_set->CM,getElem?_eq_getElem->CP,filterMap_cons->CS,length->CY,range->C0,foldl_cons->C7,length_nil->C8,mem_append_left->Cb,any_eq_true->Ck,set_set->Cm,reverse_cons->DM,filterMap->DN,take_of_length_le->DP,length_singleton->DU,mem_iff_getElem?->DX,length_take->D0,countP_cons->D4,nodup_cons->Dm,of_mem_zip->Dn,mem_filterMap->EC,zip_cons_cons->EL,getElem?_eq_none_iff->ES,drop_eq_getElem_cons->ET,pairwise_iff_getElem->EU,ext_getElem?->Ec,flatMap_cons->Ed,getElem?_replicate->Es,length_drop->Eu,range_succ_eq_map->FN,mem_map->FO,forIn_cons->FQ,contains_iff_mem->F1,getElem_toArray->Fa,length_pos_iff->Ft,sum_cons->GE,isEmpty_cons->Ga,isEmpty_nil->Go,take_length->Gp,drop_length->Gq,zipIdx_cons->Gw,mem_flatMap->HB,mem_filter->HG,zipIdx_nil->HK,mem_range->HP,foldl->HW,drop_zero->HZ,forIn_nil->Hb,set_comm->Hi,any_map->IF
open PySem.Heap renaming get?_push_of_some->AO,lt_size->AZ,get?_push_size->A3,size_push->Bi,SameBut->C1,get?_update_other->DJ,FlyingW->FL,get?_update_self->FW,IsTuple->G6,MadeExcOf->HY
open Nat renaming le_refl->AR,lt_of_lt_of_le->A0,pow_le_pow_right->Ac,ne_of_lt->Ah,mul_le_mul->An,le_trans->As,le_succ->CK,mul_le_mul_right->Ch,lt_irrefl->Cr,zero_le->DB,lt_or_ge->DQ,le_add_right->D2,and_two_pow_sub_one_eq_mod->D5,add_assoc->D9,add_le_add_right->Dh,zero_add->Dx,mod_two_eq_zero_or_one->ER,reduceSub->Em,ne_of_gt->FH,add_le_add_left->Fv,reduceAdd->GF,lt_of_le_of_lt->GT,le_of_lt->GV,succ_mul->G4,mul_comm->G5,lt_succ_self->Gj,reduceLeDiff->HC,add_le_add->Hd,le_of_eq->Hx,add_comm->Hz,log2_lt->IM
open Option.some renaming inj->AY
open PySem.Value renaming ref->A7,none->Bo,bool->Dy,builtin->Eh,int->En,type->FF,str->Gg,isStrOf->Hg,isInt->II,bytes->IJ,float->IK
open PySem.Builtin renaming bitAnd->Ar,bitOr->B3,bitXor->B4,bitNot->Fb
open Ne renaming symm->Au
open PyProof.Rows renaming slot_tuple_getitem->Aw,callWith_type1->Bw,boot_isinstance->C9,AllBare->DD,tupleItemsOf_->DS,assignInOrder_cons->EB,subscriptTail_builtinR->FJ,IntsAre->Fh,entry_tuple_getitem->Fm,args_tuple_getitem->GN,assignInOrder_nil->GW,callWith_builtin1->Gk,iadd_int->HL,Subscript_->HS,IsTup->Hr
open PySem.PyData renaming eqv->BA,canLay0->Cf,depth->DO,eqvAll->D8,keyHash->EQ,canLayAll0->E9,depthAll->FR
open PySem.Builtin.SmallTypes renaming nextOf->BF,ownedTupleIsFree->BX,ownedTupleHandOut->Cq
open False renaming elim->BH
open PySem.Heap.FunFrames renaming mem->BQ
open Int renaming emod_lt_of_pos->B0,pow_pos->Bj,emod_nonneg->Bt,toNat_natCast->CL,pow_succ->CN,mul_le_mul_of_nonneg_right->CW,mul_comm->Cn,toNat_of_nonneg->Cp,mul_one->Cz,mul_nonneg->DR,ediv_lt_of_lt_mul->DZ,mul_le_mul_of_nonneg_left->Di,fdiv_eq_ediv_of_nonneg->ED,mul_le_mul->EO,one_mul->Ea,ediv_ediv_of_nonneg->FC,ediv_nonneg->FU,natAbs_mul->Fc,add_le_add_right->Fd,add_le_add_left->Fu,natAbs_add_le->Gd,pow_zero->Ge,natCast_emod->HA,add_le_add->He,ediv_one->Hy,add_comm->IE,le_trans->IH,pow_mul->IP
open PySem.Challenge renaming rw_widewords_k35_products_and_quotients_ref->Ba,pw_widewords_k35_products_and_quotients_ref->DY
open PySem.Builtin.Tuple renaming tupleExact->Bf,tupleItemsOf->EJ,tupleTooMany->EN
open PySem.F renaming plainAttrs_list->Bm,slot_int_rmul->Bv,slot_tuple_iterator_next->CA,slot_tuple_mul->C5,args_tuple_add_2->Ct,entry_tuple_add->DC,slot_tuple_add->DI,args_int_rmul_2->DV,slot_dict_get->DW,slot_int_index->Dd,entry_int_rmul->De,args_tuple_iterator_next_1->Do,slot_zip_next->Dr,fills_int_mul->Dt,entry_tuple_iterator_next->Du,slot_dict_getitem->EV,args_tuple_mul_2->Ek,args_dict_get_3->Ey,slot_tuple_rmul->Ez,entry_tuple_mul->FA,entry_dict_get->FM,slot_list_append->FX,typeOf_object_class->FY,slot_list_insert->F0,slot_list_clear->F4,slot_list_count->F8,slot_list_index->F9,args_zip_next_1->Gc,entry_zip_next->Gx
open Array renaming length_toList->Bu,append_assoc->Dz,getElem?_eq_some_iff->EK,toList_inj->Gv,toList->Hw
open PySem.Builtin.Slice renaming slicePlaces->CC,sliceAdjust->Co,sliceApplied->EI,slicePartIndex->HH,sliceFields->Hf
open True renaming intro->C2
open Eq renaming refl->C4
open PySem.NameKind renaming free->Ca,cell->Fy
open PySem.Value.type renaming inj->Cd
open PySem.Builtin.List renaming listTooLong->Cu,listFitsIndex->Hc
open PySem.Calls renaming callWith_builtin->DL,evalArgs_plain->Db,Name_function_global->EA,spliced_cons->EG,spliced_nil->GZ
open PySem.Builtin.Str renaming strSliceIndices->Dw,occurrences->Ep
open PySem.Paired renaming length->Ee,snoc->IN
open PySem.AutoSeq1 renaming sub_tuple_tuple->Ej,idx_int->Gu
open PySem.W.Looks renaming ld->Ew,here->IQ
open PySem.Builtin.Getset_descriptor renaming descrCheckInstance->Ex,descrNameAndClass->FE,descrGetter->Fi,descrGet->GQ
open PySem.Obj renaming mapSeq->FK,data_mapFields->GO
open Sum renaming inl->Fe,inr->Ff
open PyProof.Rows.IsTup renaming new->Fg
open PySem.Heap.SameBut renaming update->Fp
open PyProof.Rows.LSm renaming kept_iter->Fz
open PySem.SeqAt.EqAt renaming int_str->GG,str_int->GH
open PySem.W.KF renaming slot_gs->GP
open PySem.ScopeKind renaming function->GS
open PySem.Around renaming under->GX
open PySem.Code renaming isFrame->GY,frames->IL
open PySem.WalksT renaming enumerateD->G7
open Classical renaming not_not->Gf
open PySem.SeqAt renaming in_tupleAt->Gn,in_listAt->HI,EqAt->HV,shaped->IB
open PySem.Shared renaming heap->HF
open ForInStep renaming yield->HJ
open PySem.Value.ref renaming inj->Hn
open PySem.Builtin.Range renaming rangeSize->Ht
open PySem.Heap.UpToSlots renaming of_keeps->Hu
open And renaming intro->Hv
open PySem.Heap.IsSliceOf renaming new->IR
open PySem.W.WShape renaming has->IS
open PySem.Walks renaming list->IT
open PySem.Within renaming cons->IU
open List.Pairwise renaming nil->IV
open PySem.W.WData renaming int->IW
noncomputable section
open Lean in
def cnvP:Nat->Syntax->MacroM (TSyntax `rcasesPat)
 |0,_=>Macro.throwUnsupported
 |n+1,s=>do
  if s.isOfKind ``Lean.Parser.Term.anonymousCtor then `(rcasesPat| ⟨$[$(← s[1].getSepArgs.mapM (cnvP n)):rcasesPat],*⟩)
  else if s.isIdent then `(rcasesPat| $(⟨s⟩):ident)
  else if s.isOfKind ``Lean.Parser.Term.hole then `(rcasesPat| _)
  else Macro.throwUnsupported
local macro_rules | `(tactic| let $p:term := $e)=>do `(tactic| obtain $(← cnvP 9 p):rcasesPat := $e)
local macro_rules | `(tactic| erw [$rs,*] $(l)?)=>do
 let t<-rs.getElems.mapM λ|`(Lean.Parser.Tactic.rwRule| $t:term)=>`(Lean.Parser.Tactic.simpLemma| $t:term)|_=>Lean.Macro.throwUnsupported
 `(tactic| simp only[$t,*] $(l)?)
local macro_rules | `(fun $bs* => $b)=>do
 if !(bs.any λx=>x.raw.isOfKind ``Lean.Parser.Term.anonymousCtor)||(b.raw.find? λx=>x.isOfKind ``Lean.Parser.Term.syntheticHole).isSome then Lean.Macro.throwUnsupported
 `(by rintro $[$(← bs.mapM λx=>cnvP 9 x.raw):rcasesPat]*;exact $b)
set_option backward.eqns.nonrecursive false
local macro_rules (kind:=Lean.Parser.Command.declaration)
 |s=>do
  let k:=s[1].getKind
  unless (k==``Lean.Parser.Command.definition||k==``Lean.Parser.Command.abbrev)&&s[0].getArgs.all (·.isNone) do Lean.Macro.throwUnsupported
  if k==``Lean.Parser.Command.definition&&(toString s[1][1][0].getId).startsWith "z" then
   let m←`(theorem x:True:=trivial)
   return s.setArg 1 (((m.raw[1].setArg 1 s[1][1]).setArg 2 (Lean.mkNode ``Lean.Parser.Command.declSig #[s[1][2][0],s[1][2][1][0]])).setArg 3 s[1][3])
  let m←`(noncomputable def x:=0)
  return s.setArg 0 m.raw[0]
namespace L2
open PySem PySem.Spec PyProof.Rows
abbrev Key:=Sum Int AL
def ybC:Key->AG->Bool
 |.inl k,v=>II k v
 |.inr x,v=>Hg x v
def ygi(w:Af):Key->Int
 |.inl k=>hashInt k
 |.inr x=>hashStr w x
def zH:∀{k:Key} {v:AG},ybC k v=AC->(∃i t,k=Fe i/\v=En i t) \/ (∃x t,k=Ff x/\v=Gg x t)
 |.inl i,v,h=>by
  let⟨t,e⟩:=Value.isInt_shape (k:=i) (v:=v) h;exact .inl ⟨i,t,rfl,e⟩
 |.inr x,v,h=>by
  let⟨t,e⟩:=Value.isStrOf_shape (x:=x) (v:=v) h;exact .inr ⟨x,t,rfl,e⟩
def zia(i:Int)(t:Hq):ybC (.inl i) (.int i t)=true:=by simp[ybC,II]
def ziu(x:AL)(t:Hq):ybC (.inr x) (.str x t)=true:=by simp[ybC,Hg]
def znB(a b:Int):decide ((Fe a:Key)=Fe b)=(a==b):=by
 by_cases e:a=b
 .subst e;simp
 .have h:¬(Fe a:Key)=Fe b:=λq=>e (Sum.inl.inj q);rw[decide_eq_false h];exact(beq_eq_false_iff_ne.mpr e).symm
def zof(a b:AL):decide ((Ff a:Key)=Ff b)=decide (a=b):=by
 by_cases e:a=b
 .subst e;simp
 .have h:¬(Ff a:Key)=Ff b:=λq=>e (Sum.inr.inj q);rw[decide_eq_false h,decide_eq_false e]
def zob(a:Int)(b:AL):decide ((Fe a:Key)=Ff b)=false:=decide_eq_false (λq=>nomatch q)
def znD(a:AL)(b:Int):decide ((Ff a:Key)=Fe b)=false:=decide_eq_false (λq=>nomatch q)
def yL(prog:A4)(w:Af):PySem.KeyKind prog w Key where
 is:=ybC
 hash:=ygi w
 inj:=λv a b ha hb=>by
  rcases zH ha with⟨i,t,rfl,rfl⟩|⟨x,t,rfl,rfl⟩
  .rcases zH hb with⟨j,u,rfl,e⟩|⟨y,u,rfl,e⟩
   .injection e with e1 _;rw[e1]
   .exact nomatch e
  .rcases zH hb with⟨j,u,rfl,e⟩|⟨y,u,rfl,e⟩
   .exact nomatch e
   .injection e with e1 _;rw[e1]
 byValue:=λk v h=>by
  rcases zH h with⟨i,t,rfl,rfl⟩|⟨x,t,rfl,rfl⟩<;>rfl
 pyHash:=λhv h=>by
  rcases zH hv with⟨i,t,rfl,rfl⟩|⟨x,t,rfl,rfl⟩
  .exact wpAny_pyHash_int h
  .exact wpAny_pyHash_str h
 eqBool:=λhu hv h=>by
  rcases zH hu with⟨i,t,rfl,rfl⟩|⟨x,t,rfl,rfl⟩
  .rcases zH hv with⟨j,u,rfl,rfl⟩|⟨y,u,rfl,rfl⟩
   .rw[znB]at h;exact wpAny_eqBool_int h
   .rw[zob]at h;exact GG i t y u _ _ _ _ h
  .rcases zH hv with⟨j,u,rfl,rfl⟩|⟨y,u,rfl,rfl⟩
   .rw[znD]at h;exact GH x t j u _ _ _ _ h
   .rw[zof]at h;exact wpAny_eqBool_str h
 «strs»:=λk x t v h=>by
  rcases zH h with⟨i,u,rfl,e⟩|⟨y,u,rfl,e⟩
  .exact nomatch e
  .injection e with e1 _;subst e1
   cases v<;>rfl
def zf0(prog:A4)(w:Af)(i:Int)(t:Hq):(yL prog w).is (.inl i) (.int i t)=true:=zia i t
def zfK(prog:A4)(w:Af)(x:AL)(t:Hq):(yL prog w).is (.inr x) (.str x t)=true:=ziu x t
inductive V where
 |non|bl (b:Bool)|int (i:Int)|str (x:AL)|byt (b:Array UInt8)|flt (b:UInt64)|ref (a:AJ)|ty (n:String)
 deriving DecidableEq
def RelV:V->AG->Prop
 |.non,u=>u=Bo
 |.bl b,u=>u=Dy b
 |.int i,u=>∃t,u=En i t
 |.str x,u=>∃t,u=Gg x t
 |.byt b,u=>∃t,u=IJ b t
 |.flt b,u=>∃t,u=IK b t
 |.ref a,u=>u=A7 a
 |.ty n,u=>u=FF n
abbrev Vals:List V->List AG->Prop:=HN RelV
theorem Vals.length{xs:List V}{us:List AG}(r:Vals xs us):xs.length=us.length:=Ee r
theorem Vals.get:∀{xs:List V} {us:List AG} {i:Nat} {x:V},Vals xs us->xs[i]?=AA x->∃u,us[i]?=AA u/\RelV x u
 |_,_,_,_,.nil,e=>by simp at e
 |_,_,0,_,.cons r _,e=>by simp at e;subst e;exact⟨_,rfl,r⟩
 |_,_,i+1,x,.cons _ t,e=>by
  let⟨u,h1,h2⟩:=Vals.get (i:=i) (x:=x) t (by simpa using e);exact⟨u,by simpa using h1,h2⟩
theorem Vals.set{x:V}{u:AG}(r:RelV x u):∀{xs:List V} {us:List AG} (i:Nat),Vals xs us->Vals (xs.set i x) (us.set i u)
 |_,_,_,.nil=>.nil
 |_,_,0,.cons _ t=>.cons r t
 |_,_,i+1,.cons q t=>.cons q (Vals.set r i t)
theorem Vals.append:∀{xs ys:List V} {us ws:List AG},Vals xs us->Vals ys ws->Vals (xs++ys) (us++ws)
 |_,_,_,_,.nil,s=>s
 |_,_,_,_,.cons r t,s=>.cons r (Vals.append t s)
theorem Vals.take:∀{xs:List V} {us:List AG} (n:Nat),Vals xs us->Vals (xs.take n) (us.take n)
 |_,_,0,_=>.nil
 |_,_,_+1,.nil=>.nil
 |_,_,n+1,.cons r t=>.cons r (Vals.take n t)
theorem Vals.drop:∀{xs:List V} {us:List AG} (n:Nat),Vals xs us->Vals (xs.drop n) (us.drop n)
 |_,_,0,r=>r
 |_,_,_+1,.nil=>.nil
 |_,_,n+1,.cons _ t=>Vals.drop n t
theorem Vals.none_of:∀{xs:List V} {us:List AG} {i:Nat},Vals xs us->xs[i]?=AD->us[i]?=none:=λ{xs us i} r e=>by
 have h1:=r.length;have h2:xs.length<=i:=ES.mp e;exact ES.mpr ∅
def ya9:Option V->Option AG->Prop
 |some v,AA u=>RelV v u
 |none,AD=>True
 |_,_=>False
def KV{κ:Type}:List (κ×V)->List (κ×AG)->Prop:=HN λ(p:κ×V) (q:κ×AG)=>p.1=q.1/\RelV p.2 q.2
def kV:Key->V
 |.inl i=>.int i
 |.inr x=>.str x
inductive HO where
 |lst (xs:List V)
 |tup (xs:List V)
 |dK (kvs:List (Key×V))|dT (kvs:List (List Key×V))
 |set (S:Int->Bool) (n:Nat)
 |ins (C dx:AJ) (fs:List (AL×V))
 |own (x:AJ)
 |xd (fs:List (AL×V))
 |met (f x:AJ)
 |rng (lo hi:Int)
 |frz (o:B7) (u:HO)
 |tbl (ps:Array AG)
 |ext (φ:Aq->Prop)
abbrev Hp:=AJ->Option HO
def upd(H:Hp)(a:AJ)(o:HO):Hp:=λb=>if b=a then AA o else H b
def zm{H:Hp}{a:AJ}{o:HO}:upd H a o a=AA o:=by unfold upd;rw[if_pos rfl]
def zd{H:Hp}{a b:AJ}{o:HO}(h:b≠a):upd H a o b=H b:=by unfold upd;rw[if_neg h]
def zp8{H:Hp}{a b:AJ}{o u:HO}(h:H a=AA o)(h':H b=AA u)(d:o≠u):a≠b:=by
 intro e;subst e;rw[h]at h';exact d (AY h')
def zk{H:Hp}{a b:AJ}{o:HO}(h:H a=AA o)(h':H b=AD):a≠b:=by
 intro e;subst e;rw[h]at h';cases h'
section
variable (P:A4)(w:Af)
def yM(H:Hp)(h:Aq)(a:AJ):HO->Prop
 |.lst xs=>xs.length<=sizeLine/\∃(its:List AG) (n:Nat),Vals xs its/\h.get? a=AA {cls:=.type "list",data:=.seq its.toArray n}
 |.tup xs=>xs.length<=sizeLine/\∃its:List AG,Vals xs its/\Hr h a its.toArray
 |.dK kvs=>kvs.length<=sizeLine/\(a==sysModules)=AB/\∃vs,KV kvs vs/\h.DictOf (yL P w) a vs
 |.dT kvs=>kvs.length<=sizeLine/\(a==sysModules)=AB/\∃xs:List (List Key×AJ×AG),
   HN (λ(p:List Key×V) (q:List Key×AJ×AG)=>p.1=q.1/\H q.2.1=AA (.tup (p.1.map kV))/\RelV p.2 q.2.2) kvs xs /\
   ∃o es ep,h.get? a=AA o/\o.ExactDict/\o.data=.dict es ep/\es.toList=xs.map (entryOfKey (tupleKind (yL P w)))/\(xs.map (·.1)).Nodup
 |.set S n=>h.SetOf (intKind P w) a S n
 |.ins C dx fs=>H dx=AA (.own a)/\fs.length<=1000/\dx≠a/\h.get? a=AA (Bp C dx) /\
   ∃mA,h.Ns1 dx mA/\(∀f,ya9 (fs.lookup f) (mA f))/\GU mA (fs.map (·.1))
 |.own _=>∃o,h.get? a=AA o
 |.xd fs=>∃mA,h.Ns1 a mA/\∀f,ya9 (fs.lookup f) (mA f)
 |.rng lo hi=>∃t u v,h.get? a=AA {cls:=.type "range",data:=.fields #[.int lo t,.int hi u,.int 1 v]}
 |.frz o u=>h.get? a=AA o/\yM H h a u
 |.tbl ps=>h.get? a=AA {cls:=.none,data:=.fields ps}
 |.met f x=>h.get? a=AA (EW (.ref f) (.ref x))
 |.ext φ=>φ h/\(∃o,h.get? a=AA o)/\∀h1 h2:Aq,φ h1->(∀o,h1.get? a=AA o->h2.get? a=AA o)->φ h2
def HOk(H:Hp)(h:Aq):Prop:=∀a o,H a=AA o->yM P w H h a o
end
section
variable {P:A4}{w:Af}{H H':Hp}{h h':Aq}{a:AJ}{o:HO}
theorem yM.lt(x:yM P w H h a o):a<h.objs.size:=by
 cases o with
 |lst xs=>let⟨_,_,_,_,e⟩:=x;exact AZ e
 |tup xs=>let⟨_,_,_,p⟩:=x;exact p.lt
 |dK kvs=>let⟨_,_,_,_,o,_,_,e,_⟩:=x;exact AZ e
 |dT kvs=>let⟨_,_,_,_,o,_,_,e,_⟩:=x;exact AZ e
 |set S n=>let⟨o,_,_,_,e,_⟩:=x;exact AZ e
 |ins C dx fs=>let⟨_,_,_,e,_⟩:=x;exact AZ e
 |own y=>let⟨_,e⟩:=x;exact AZ e
 |xd fs=>let⟨_,⟨_,_,_,e,_⟩,_⟩:=x;exact AZ e
 |rng lo hi=>let⟨_,_,_,e⟩:=x;exact AZ e
 |frz ob u=>let⟨e,_⟩:=x;exact AZ e
 |tbl ps=>exact AZ (show h.get? a=AA _ from x)
 |met f y=>exact AZ (show h.get? a=AA _ from x)
 |ext φ=>let⟨_,⟨_,e⟩,_⟩:=x;exact AZ e
theorem Paired.mapP{α β:Type}{F G:α->β->Prop}:∀{l₁:List α} {l₂:List β},HN F l₁ l₂->(∀a b,F a b->G a b)->HN G l₁ l₂
 |_,_,.nil,_=>.nil
 |_,_,.cons r t,f=>.cons (f _ _ r) (Paired.mapP t f)
theorem yM.stay(x:yM P w H h a o)(k:∀b u,(b=a \/ H b=AA (.own a))->h.get? b=AA u->h'.get? b=AA u)
  (ho:∀b,H b=AA (.own a)->H' b=AA (.own a)) (ht:∀b xs,H b=AA (.tup xs)->H' b=AA (.tup xs)):yM P w H' h' a o:=by
 induction o with
 |lst xs=>let⟨z,its,n,r,e⟩:=x;exact⟨z,its,n,r,k _ _ (.inl rfl) e⟩
 |tup xs=>let⟨z,its,r,ob,e,c⟩:=x;exact⟨z,its,r,ob,k _ _ (.inl rfl) e,c⟩
 |dK kvs=>let⟨z,y,vs,r,ob,es,ep,e,c⟩:=x;exact⟨z,y,vs,r,ob,es,ep,k _ _ (.inl rfl) e,c⟩
 |dT kvs=>
  let⟨z,y,xs,r,ob,es,ep,e,c⟩:=x;exact⟨z,y,xs,Paired.mapP r λp q z=>⟨z.1,ht _ _ z.2.1,z.2.2⟩,ob,es,ep,k _ _ (.inl rfl) e,c⟩
 |set S n=>let⟨ob,es,ep,t,e,c⟩:=x;exact⟨ob,es,ep,t,k _ _ (.inl rfl) e,c⟩
 |ins C dx fs=>
  let⟨d,z,ne,e,mA,⟨od,es,ep,e2,c⟩,r⟩:=x;exact⟨ho _ d,z,ne,k _ _ (.inl rfl) e,mA,⟨od,es,ep,k _ _ (.inr d) e2,c⟩,r⟩
 |own y=>let⟨ob,e⟩:=x;exact⟨ob,k _ _ (.inl rfl) e⟩
 |xd fs=>let⟨mA,⟨od,es,ep,e,c⟩,r⟩:=x;exact⟨mA,⟨od,es,ep,k _ _ (.inl rfl) e,c⟩,r⟩
 |rng lo hi=>let⟨t,u,v,e⟩:=x;exact⟨t,u,v,k _ _ (.inl rfl) e⟩
 |frz ob u ih=>let⟨e,q⟩:=x;exact⟨k _ _ (.inl rfl) e,ih q⟩
 |tbl ps=>
  have e:h.get? a=AA {cls:=.none,data:=.fields ps}:=x;show h'.get? a=AA {cls:=.none,data:=.fields ps};exact k a _ (.inl rfl) e
 |met f y=>
  have e:h.get? a=AA (EW (.ref f) (.ref y)):=x;show h'.get? a=AA (EW (.ref f) (.ref y));exact k a _ (.inl rfl) e
 |ext φ=>let⟨p,⟨o,e⟩,st⟩:=x;exact⟨st _ _ p λo q=>k _ _ (.inl rfl) q,⟨o,k _ _ (.inl rfl) e⟩,st⟩
theorem HOk.lt(x:HOk P w H h)(e:H a=AA o):a<h.objs.size:=(x a o e).lt
theorem HOk.fresh(x:HOk P w H h)(e:h.objs.size<=a):H a=none:=by
 cases q:H a with
 |none=>rfl
 |some u=>exact absurd (A0 (x.lt q) e) (Cr _)
theorem HOk.kept(x:HOk P w H h)(k:∀b u,h.get? b=AA u->h'.get? b=AA u):HOk P w H h':=λa o e=>
 (x a o e).stay (λb u _ q=>k b u q) (λ_ q=>q) λ_ _ q=>q
theorem HOk.laid(x:HOk P w H h)(k:∀b u,h.get? b=AA u->h'.get? b=AA u)(hp:h.objs.size<=a)(new:yM P w (upd H a o) h' a o):HOk P w (upd H a o) h':=λb u e=>by
 have hn:=x.fresh hp
 by_cases hb:b=a
 .subst hb;rw[zm]at e;cases e;exact new
 .rw[zd hb]at e;exact(x b u e).stay (λc v _ q=>k c v q) (λc q=>by rw[zd (zk q hn)];exact q) λc xs q=>by rw[zd (zk q hn)];exact q
end
def Rd(H:Hp)(a:AJ)(u:HO):Prop:=H a=AA u \/ ∃o,H a=AA (.frz o u)
theorem Rd.of{H:Hp}{a:AJ}{u:HO}(h:H a=AA u):Rd H a u:=.inl h
theorem Rd.ok{P:A4}{w:Af}{H:Hp}{h:Aq}{a:AJ}{u:HO}(r:Rd H a u)(x:HOk P w H h):yM P w H h a u:=by
 rcases r with r|⟨o,r⟩
 .exact x a u r
 .let⟨_,q⟩:=x a _ r;exact q
def Mut:Option HO->Prop
 |some (.lst _)=>True
 |some (.dK _)=>True
 |some (.dT _)=>True
 |some (.set _ _)=>True
 |some (.ins _ _ _)=>True
 |some (.ext _)=>True
 |_=>False
section
variable {P:A4}{w:Af}{H:Hp}{h h':Aq}{x e:AJ}{o':HO}
theorem HOk.write(ok:HOk P w H h)(mu:Mut (H x))(he:e=x \/ H e=AA (.own x))(k:∀b u,b≠e->h.get? b=AA u->h'.get? b=AA u)(heo:∃u,h'.get? e=AA u)
  (new:yM P w (upd H x o') h' x o'):HOk P w (upd H x o') h':=λb u q=>by
 have nown:∀c y,H c=AA (.own y)->c≠x:=λc y r z=>by subst z;rw[r]at mu;exact mu
 have ntup:∀c xs,H c=AA (.tup xs)->c≠x:=λc xs r z=>by subst z;rw[r]at mu;exact mu
 by_cases hb:b=x
 .subst hb;rw[zm]at q;cases q;exact new
 .rw[zd hb]at q
  by_cases hbe:b=e
  .have q':H b=AA (.own x):=by
    rcases he with z|z
    .exact absurd (hbe.trans z) hb
    .rw[hbe];exact z
   rw[q]at q';cases q';let⟨v,hv⟩:=heo;exact⟨v,by rw[hbe];exact hv⟩
  .refine(ok b u q).stay (λc v hc r=>k c v ?_ r) (λc r=>by rw[zd (nown c b r)];exact r) λc xs r=>by rw[zd (ntup c xs r)];exact r
   rcases hc with rfl|hc
   .exact hbe
   .rintro rfl
    rcases he with z|z
    .exact nown c b hc z
    .rw[hc]at z;cases z;exact hb rfl
end
structure Un(fs ex:List AJ)(H H':Hp)(h h':Aq):Prop where
 keep:∀b o,h.get? b=AA o->H b=AD->b∉fs->b∉ex->h'.get? b=AA o
 slot:∀b o,h.get? b=AA o->H b=AD->b∈fs->b∉ex->∃sl,h'.get? b=AA {o with slots:=sl}
 free:∀b o,h.get? b=AA o->H b=AD->b∉ex->H' b=AD
 there:∀b o,h.get? b=AA o->b∉ex->∃o',h'.get? b=AA o'
 tups:∀b xs,H b=AA (.tup xs)->H' b=AA (.tup xs)
 frzs:∀b o u,H b=AA (.frz o u)->H' b=AA (.frz o u)
 tbls:∀b ps,H b=AA (.tbl ps)->∃more,H' b=AA (.tbl (ps++more))
section
variable {fs fs' ex ex':List AJ}{H H1 H2:Hp}{h h1 h2 h':Aq}{a x e:AJ}{o:HO}
theorem Un.any(u:Un fs ex H H1 h h1){b:AJ}{ob:B7}(q:h.get? b=AA ob)(n:H b=AD)(hx:b∉ex):∃sl,h1.get? b=AA {ob with slots:=sl}:=by
 by_cases hb:b∈fs
 .exact u.slot b ob q n hb hx
 .exact⟨ob.slots,u.keep b ob q n hb hx⟩
theorem Un.kept(k:∀b u,h.get? b=AA u->h'.get? b=AA u):Un fs ex H H h h':=
 ⟨λb ob q _ _ _=>k b ob q,λb ob q _ _ _=>⟨ob.slots,k b ob q⟩,λ_ _ _ n _=>n,λb ob q _=>⟨ob,k b ob q⟩,λ_ _ q=>q,λ_ _ _ q=>q,λ_ ps q=>⟨#[],by rw[q];simp⟩⟩
theorem Un.refl:Un fs ex H H h h:=Un.kept λ_ _ q=>q
theorem Un.laid(k:∀b u,h.get? b=AA u->h'.get? b=AA u)(hp:h.objs.size<=a)(hn:H a=AD):Un fs ex H (upd H a o) h h' where
 keep:=λb u q _ _ _=>k b u q
 slot:=λb u q _ _ _=>⟨u.slots,k b u q⟩
 free:=λb u q n _=>by rw[zd (Ah (A0 (AZ q) hp))];exact n
 there:=λb u q _=>⟨u,k b u q⟩
 tups:=λb xs q=>by rw[zd (zk q hn)];exact q
 frzs:=λb u xs q=>by rw[zd (zk q hn)];exact q
 tbls:=λb ps q=>⟨#[],by rw[zd (zk q hn),q];simp⟩
theorem Un.write(mu:Mut (H x))(he:e=x \/ H e=AA (.own x))(k:∀b u,b≠e->h.get? b=AA u->h'.get? b=AA u)(heo:∃u,h'.get? e=AA u):Un fs ex H (upd H x o) h h':=by
 have hx:∀b,H b=AD->b≠x:=λb n z=>by subst z;rw[n]at mu;exact mu
 have hb:∀b,H b=AD->b≠e:=λb n z=>by
  subst z;rcases he with r|r
  .exact hx b n r
  .rw[n]at r;cases r
 have hm:∀b u,H b=AA u->¬Mut (AA u)->b≠x:=λb u q nm z=>by subst z;rw[q]at mu;exact nm mu
 refine⟨λb u q n _ _=>k b u (hb b n) q,λb u q n _ _=>⟨u.slots,k b u (hb b n) q⟩,λb u q n _=>by rw[zd (hx b n)];exact n,λb u q _=>?_,
  λb xs q=>by rw[zd (hm b _ q λz=>z)];exact q,λb u xs q=>by rw[zd (hm b _ q λz=>z)];exact q,λb ps q=>⟨#[],by rw[zd (hm b _ q λz=>z),q];simp⟩⟩
 by_cases hbe:b=e
 .subst hbe;exact heo
 .exact⟨u,k b u hbe q⟩
end
def trk(h:Aq)(H:Hp):List Addr:=(C0 h.objs.size).filter λa=>(H a).isSome
def ycb(h:Aq)(H:Hp):Heap:=Cw h (trk h H)
def zhM(h:Aq)(H:Hp):(ycb h H).objs.size=h.objs.size:=PySem.W.hideAll_size _ _
def zj8{h:Aq}{H:Hp}{b:AJ}{o:B7}(e:h.get? b=AA o)(n:H b=AD):(ycb h H).get? b=AA o:=
 Fj _ e λhm=>by
  have q:(H b).isSome=true:=(HG.mp hm).2;rw[n]at q;simp at q
def zlT{h:Aq}{H:Hp}{b:AJ}{o:B7}(e:(ycb h H).get? b=AA o):h.get? b=AA o/\H b=none:=by
 have e':h.get? b=AA o:=GI (trk h H) e;refine⟨e',?_⟩
 cases q:H b with
 |none=>rfl
 |some x=>
  have hm:b∈trk h H:=HG.mpr ⟨HP.mpr (AZ e'),by simp[q]⟩;have z:(ycb h H).get? b=none:=PySem.W.hideAll_none (trk h H) hm;rw[z]at e;cases e
structure Mod(K:AF)(mg:AL->Option AG)(base:Aq):Prop where
 kin:K.In base
 glob:base.Ns mainGlobals mg
 blt:∃mb,base.Ns builtinsNs mb/\∀x:AL,x ≠ "__name__"->mb x=bootBuiltins x
 nolimit:base.NoLimit
structure Cx where
 prog:A4
 w:Af
 K:AF
 mg:AL->Option AG
 base:Aq
 A:Ag
 N:List AL
 s₀:AK
 H₀:Hp
 env:Env
 outer:List Env
 stack:List Env
 ex:List AJ
 fn:AL->Bool
 calm:Bool
 pn:List (AJ×B7)
 xe:AG->AK->Prop
def frs(l:List Env):List Addr:=l.filterMap (·.frame)
abbrev Cx.fs(X:Cx):List Addr:=frs X.outer
def Vis(sc:BZ)(x:AL):Prop:=sc.names.lookup x=AA .local \/ sc.names.lookup x=AA .cell \/ sc.names.lookup x=AA .free
def Loc(sc:BZ)(x:AL):Prop:=sc.names.lookup x=AA .local \/ sc.names.lookup x=AA .cell
def Look(env:Env)(h:Aq)(m:AL->Option AG)(x:AL)(u:AG):Prop:=
 (env.kindOf x=AA .local/\m x=AA u) \/ ((env.kindOf x=AA .cell \/ env.kindOf x=AA .free)/\∃c,env.cells.lookup x=AA c/\h.IsCell c (AA u))
structure Cx.Ok(X:Cx):Prop where
 mod:Mod X.K X.mg X.base
 kind:X.env.scope.kind=.function
 glob:X.env.globals=mainGlobals
 blt:X.env.builtins=builtinsNs
 above:X.s₀.heap.objs.size<=X.env.locals
 inj:∀x y c,X.env.cells.lookup x=AA c->X.env.cells.lookup y=AA c->x=y
 has:∀x,(X.env.kindOf x=AA .cell \/ X.env.kindOf x=AA .free)->∃c,X.env.cells.lookup x=AA c
 cab:∀x c,X.fn x=AC->X.env.cells.lookup x=AA c->X.s₀.heap.objs.size<=c
 hd:X.calm=AC->X.A.handled=AD
 frames:X.A.frames=AA X.stack
 stk:X.stack=X.outer \/ (X.stack=X.env::X.outer/\X.env.frame=AA X.env.locals)
 exf:∀b∈X.ex,b≠X.env.locals/\∀x c,X.env.cells.lookup x=AA c->c≠b
 bs:∀b o,X.base.get? b=AA o->X.s₀.heap.get? b=AA o/\X.H₀ b=AD
 bsz:X.base.objs.size<=X.s₀.heap.objs.size
 noex:∀b o,X.base.get? b=AA o->b∉X.ex
 exfs:∀b∈X.ex,b∉X.fs
 funs:X.s₀.heap.FunFrames X.base X.outer
 frf:∀b∈X.fs,X.H₀ b=AD
structure Inv(X:Cx)(π:List (AJ×B7))(σ:List (Option V))(H:Hp)(s:AK):Prop where
 ok:X.Ok
 os:s.os=X.s₀.os
 bare:DD s.gens
 base:Un X.fs X.ex X.H₀ H X.s₀.heap s.heap
 loc:∃m,s.heap.Ns X.env.locals m/\∀(i:Nat) (x:AL) (v:V),X.N[i]?=AA x->σ[i]?=AA (AA v)->Vis X.env.scope x->∃u,RelV v u/\Look X.env s.heap m x u
 cell:∀x c,X.env.cells.lookup x=AA c->∃v,s.heap.IsCell c v
 free:H X.env.locals=AD
 freeC:∀x c,X.env.cells.lookup x=AA c->H c=AD
 pin:∀p∈X.pn++π,s.heap.get? p.1=AA p.2/\H p.1=AD/\p.1≠X.env.locals/\p.1∉X.fs/\∀v,p.2.data ≠ .cell v
 hok:HOk X.prog X.w H s.heap
 len:σ.length=X.N.length
section
variable {X:Cx}{π:List (AJ×B7)}{σ:List (Option V)}{H H':Hp}{s:AK}{h':Aq}
theorem Cx.Ok.nofr(ok:X.Ok){b:AJ}{o:B7}(e:X.base.get? b=AA o):b∉X.fs:=λhb=>by
 have:=(ok.funs.mem hb).1;rw[e]at this;cases this
theorem Inv.bs(I:Inv X π σ H s):∀b o,X.base.get? b=AA o->s.heap.get? b=AA o/\H b=none:=λb o e=>
 ⟨I.base.keep b o (I.ok.bs b o e).1 (I.ok.bs b o e).2 (I.ok.nofr e) (I.ok.noex b o e),I.base.free b o (I.ok.bs b o e).1 (I.ok.bs b o e).2 (I.ok.noex b o e)⟩
theorem Inv.bk(I:Inv X π σ H s):∀b o,X.base.get? b=AA o->s.heap.get? b=AA o:=λb o e=>(I.bs b o e).1
theorem Inv.mod(I:Inv X π σ H s):Mod X.K X.mg X.base:=I.ok.mod
theorem Inv.kIn(I:Inv X π σ H s):X.K.In s.heap:=I.ok.mod.kin.keeps I.bk
theorem Inv.lt(I:Inv X π σ H s):X.env.locals<s.heap.objs.size:=let ⟨_,hn,_⟩:=I.loc;hn.lt
theorem Inv.sz(I:Inv X π σ H s):X.s₀.heap.objs.size<=s.heap.objs.size:=As I.ok.above (GV I.lt)
theorem Inv.nofs(I:Inv X π σ H s){a:AJ}(h:s.heap.objs.size<=a):a∉X.fs:=λhb=>by
 let⟨_,o,ho,_⟩:=I.ok.funs.mem hb;exact absurd (A0 (AZ ho) (As I.sz h)) (Cr _)
theorem Inv.cne(I:Inv X π σ H s):∀x c,X.env.cells.lookup x=AA c->c≠X.env.locals:=λx c e z=>by
 let⟨v,o,ho,hd⟩:=I.cell x c e;let⟨m,⟨o',es,ep,ho',hd',_⟩,_⟩:=I.loc;rw[z,ho']at ho;cases ho;rw[hd']at hd;cases hd
theorem Inv.funs(I:Inv X π σ H s):s.heap.FunFrames X.base X.outer:=by
 have all:∀(l:List Env),(∀b∈frs l,b∈X.fs)->X.s₀.heap.FunFrames X.base l->s.heap.FunFrames X.base l:=by
  intro l
  induction l with
  |nil=>intro _ _;trivial
  |cons env r ih=>
   intro hs hl;let⟨hk,⟨L,o,hf,hn,ho,hd⟩,hr⟩:=hl;have hL:L∈X.fs:=hs L (by unfold frs;rw[CS,hf];exact A8);let⟨sl,e⟩:=I.base.slot L o ho (I.ok.frf L hL) hL λz=>I.ok.exfs L z hL;exact⟨hk,⟨L,_,hf,hn,e,hd⟩,ih (λb hb=>hs b (by unfold frs;rw[CS,hf];exact AQ _ hb)) hr⟩
 exact all X.outer (λ_ hb=>hb) I.ok.funs
theorem Inv.stack(I:Inv X π σ H s):s.heap.FunFrames X.base X.stack:=by
 rcases I.ok.stk with e|⟨e,hf⟩
 .rw[e];exact I.funs
 .rw[e];let⟨m,hn,_⟩:=I.loc;refine .cons (by rw[I.ok.kind];decide) hf hn ?_ I.funs;exact Heap.get?_none_of_le (As I.ok.bsz I.ok.above)
theorem Inv.stkSub(I:Inv X π σ H s):∀b∈frs X.stack,b∈X.env.locals::X.fs:=λb hb=>by
 rcases I.ok.stk with e|⟨e,hf⟩
 .rw[e]at hb;exact AQ _ hb
 .rw[e]at hb;unfold frs at hb;rw[CS,hf]at hb;exact hb
theorem Inv.stkFree(I:Inv X π σ H s):∀b∈frs X.stack,H b=none:=λb hb=>by
 rcases AX.mp (I.stkSub b hb)with e|hb
 .rw[e];exact I.free
 .let⟨_,o,ho,_⟩:=I.ok.funs.mem hb;exact I.base.free b o ho (I.ok.frf b hb) λz=>I.ok.exfs b z hb
theorem Inv.step{g':Array GenState}{t':Nat}{d':Drawn}{ch:List AJ}(I:Inv X π σ H s)
  (hch:∀b∈ch,(b∈X.ex \/ X.s₀.heap.objs.size<=b)/\b≠X.env.locals/\(∀x c,X.env.cells.lookup x=AA c->c≠b)/\∀p∈X.pn++π,p.1≠b)
  (keep:∀b o,b≠X.env.locals->b∉X.fs->b∉ch->s.heap.get? b=AA o->H b=AD->h'.get? b=AA o)
  (slot:∀b o,b≠X.env.locals->b∈X.fs->b∉ch->s.heap.get? b=AA o->H b=AD->∃sl,h'.get? b=AA {o with slots:=sl}) (free:∀b o,b∉ch->s.heap.get? b=AA o->H b=AD->H' b=AD)
  (there:∀b o,b∉ch->s.heap.get? b=AA o->∃o',h'.get? b=AA o')
  (tups:∀b xs,H b=AA (.tup xs)->H' b=AA (.tup xs)) (frzs:∀b o u,H b=AA (.frz o u)->H' b=AA (.frz o u)) (tbls:∀b ps,H b=AA (.tbl ps)->∃more,H' b=AA (.tbl (ps++more)))
  (ns:∀m,s.heap.Ns X.env.locals m->h'.Ns X.env.locals m) (hok:HOk X.prog X.w H' h') (hg:DD g'):
  Inv X π σ H' {s with heap:=h',gens:=g',drawn:=d',toks:=t'}:=by
 have neL:∀b o,X.s₀.heap.get? b=AA o->b≠X.env.locals:=λb o e=>Ah (A0 (AZ e) I.ok.above);have neC:∀b o,X.s₀.heap.get? b=AA o->b∉X.ex->b∉ch:=λb o e hx hb=>by
  rcases (hch b hb).1 with z|z
  .exact hx z
  .exact absurd (A0 (AZ e) z) (Cr _)
 have cellK:∀x c,X.env.cells.lookup x=AA c->∀v,s.heap.IsCell c v->h'.IsCell c v:=λx c e v ⟨o,ho,hd⟩=>by
  have nch:c∉ch:=λz=>(hch c z).2.2.1 x c e rfl
  by_cases hc:c∈X.fs
  .let⟨sl,q⟩:=slot c o (I.cne x c e) hc nch ho (I.freeC x c e);exact⟨_,q,hd⟩
  .exact⟨o,keep c o (I.cne x c e) hc nch ho (I.freeC x c e),hd⟩
 refine⟨I.ok,I.os,hg,⟨λb o e n hb hx=>?_,λb o e n hb hx=>?_,λb o e n hx=>?_,λb o e hx=>?_,λb xs e=>tups b xs (I.base.tups b xs e),λb o xs e=>frzs b o xs (I.base.frzs b o xs e),λb ps e=>?_⟩,?_,λx c e=>?_,?_,λx c e=>?_,λp hp=>?_,hok,I.len⟩
 .exact keep b o (neL b o e) hb (neC b o e hx) (I.base.keep b o e n hb hx) (I.base.free b o e n hx)
 .let⟨sl,e1⟩:=I.base.slot b o e n hb hx;let⟨sl',e2⟩:=slot b _ (neL b o e) hb (neC b o e hx) e1 (I.base.free b o e n hx);exact⟨sl',e2⟩
 .let⟨o',e1⟩:=I.base.there b o e hx;exact free b o' (neC b o e hx) e1 (I.base.free b o e n hx)
 .let⟨o',e1⟩:=I.base.there b o e hx;exact there b o' (neC b o e hx) e1
 .let⟨m1,e1⟩:=I.base.tbls b ps e;let⟨m2,e2⟩:=tbls b _ e1;exact⟨m1++m2,by rw[e2,Dz]⟩
 .let⟨m,hn,hl⟩:=I.loc;refine⟨m,ns m hn,λi x v e1 e2 e3=>?_⟩;let⟨u,r,l⟩:=hl i x v e1 e2 e3;refine⟨u,r,?_⟩;rcases l with l|⟨k,c,e,z⟩
  .exact .inl l
  .exact .inr ⟨k,c,e,cellK x c e _ z⟩
 .let⟨v,z⟩:=I.cell x c e;exact⟨v,cellK x c e v z⟩
 .let⟨m,⟨o,_,_,ho,_⟩,_⟩:=I.loc;exact free _ o (λz=>(hch _ z).2.1 rfl) ho I.free
 .let⟨v,o,ho,hd⟩:=I.cell x c e;exact free c o (λz=>(hch c z).2.2.1 x c e rfl) ho (I.freeC x c e)
 .let⟨e,n,ne,nf,d⟩:=I.pin p hp;have nch:p.1∉ch:=λz=>(hch p.1 z).2.2.2 p hp rfl;exact⟨keep p.1 p.2 ne nf nch e n,free p.1 p.2 nch e n,ne,nf,d⟩
theorem Inv.un{t':Nat}(I:Inv X π σ H s)(u:Un X.fs [] H H' s.heap h')(hok:HOk X.prog X.w H' h'):Inv X π σ H' {s with heap:=h',toks:=t'}:=by
 let⟨m,⟨o,es,ep,ho,r⟩,_⟩:=id I.loc;let⟨sl,hL⟩:=u.any ho I.free (by simp);exact I.step (g':=s.gens) (d':=s.drawn) (ch:=[]) (λ_ z=>nomatch z) (λb o _ hb _ e n=>u.keep b o e n hb (by simp)) (λb o _ hb _ e n=>u.slot b o e n hb (by simp)) (λb o _ e n=>u.free b o e n (by simp)) (λb o _ e=>u.there b o e (by simp)) u.tups u.frzs u.tbls (λm' hm=>by
  let⟨o',es',ep',ho',r'⟩:=hm;rw[ho]at ho';cases ho';exact⟨_,es',ep',hL,r'⟩) hok I.bare
theorem Inv.call{g':Array GenState}{t':Nat}{d':Drawn}{ch:List AJ}(I:Inv X π σ H s)(u:Un (frs X.stack) ch H H' s.heap h')(hok:HOk X.prog X.w H' h')(hg:DD g')
  (hch:∀b∈ch,(b∈X.ex \/ X.s₀.heap.objs.size<=b)/\b≠X.env.locals/\(∀x c,X.env.cells.lookup x=AA c->c≠b)/\∀p∈X.pn++π,p.1≠b):
  Inv X π σ H' {s with heap:=h',gens:=g',drawn:=d',toks:=t'}:=by
 let⟨m,⟨o,es,ep,ho,r⟩,_⟩:=id I.loc;let⟨sl,hL⟩:=u.any ho I.free λz=>(hch _ z).2.1 rfl;exact I.step (ch:=ch) hch (λb o hL hb hc e n=>u.keep b o e n (λz=>(AX.mp (I.stkSub b z)).elim hL hb) hc) (λb o _ _ hc e n=>u.any e n hc) (λb o hc e n=>u.free b o e n hc) (λb o hc e=>u.there b o e hc) u.tups u.frzs u.tbls (λm' hm=>by
  let⟨o',es',ep',ho',r'⟩:=hm;rw[ho]at ho';cases ho';exact⟨_,es',ep',hL,r'⟩) hok hg
theorem Inv.turned{t':Nat}{it:AJ}(I:Inv X π σ H s)(k:∀b o,b≠it->s.heap.get? b=AA o->h'.get? b=AA o)(hn:H it=AD)(hL:it≠X.env.locals)
  (h1:it∈X.ex \/ X.s₀.heap.objs.size<=it) (h2:∀x c,X.env.cells.lookup x=AA c->c≠it) (h3:∀p∈X.pn++π,p.1≠it):Inv X π σ H {s with heap:=h',toks:=t'}:=by
 have nit:∀b u,H b=AA u->b≠it:=λb u e z=>by rw[z,hn]at e;cases e
 refine I.step (g':=s.gens) (d':=s.drawn) (ch:=[it]) (λb hb=>?_) (λb o _ _ hc e _=>k b o (λz=>hc (by simp[z])) e) (λb o _ _ hc e _=>⟨o.slots,k b o (λz=>hc (by simp[z])) e⟩) (λ_ _ _ _ n=>n)
  (λb o hc e=>⟨o,k b o (λz=>hc (by simp[z])) e⟩) (λ_ _ e=>e) (λ_ _ _ e=>e) (λb ps e=>⟨#[],by rw[e];simp⟩) (λm hm=>?_) (λb u e=>?_) I.bare
 .have e:b=it:=by simpa using hb
  subst e;exact⟨h1,hL,h2,h3⟩
 .let⟨o,es,ep,ho,r⟩:=hm;exact⟨o,es,ep,k _ o (Au hL) ho,r⟩
 .refine(I.hok b u e).stay (λc v hc q=>k c v ?_ q) (λ_ q=>q) λ_ _ q=>q;rcases hc with z|z
  .rw[z];exact nit b u e
  .exact nit c _ z
theorem Inv.tok(I:Inv X π σ H s)(t:Nat):Inv X π σ H {s with toks:=t}:=I.un (h':=s.heap) (t':=t) Un.refl I.hok
theorem Inv.kept{t':Nat}(I:Inv X π σ H s)(k:∀b u,s.heap.get? b=AA u->h'.get? b=AA u):Inv X π σ H {s with heap:=h',toks:=t'}:=I.un (Un.kept k) (I.hok.kept k)
theorem Inv.laid{a:AJ}{o:HO}{t':Nat}(I:Inv X π σ H s)(k:∀b u,s.heap.get? b=AA u->h'.get? b=AA u)(hp:s.heap.objs.size<=a)(new:yM X.prog X.w (upd H a o) h' a o):
  Inv X π σ (upd H a o) {s with heap:=h',toks:=t'}:=I.un (Un.laid k hp (I.hok.fresh hp)) (I.hok.laid k hp new)
theorem Inv.write{x e:AJ}{o:HO}{t':Nat}(I:Inv X π σ H s)(mu:Mut (H x))(he:e=x \/ H e=AA (.own x))(k:∀b u,b≠e->s.heap.get? b=AA u->h'.get? b=AA u)(heo:∃u,h'.get? e=AA u)
  (new:yM X.prog X.w (upd H x o) h' x o):Inv X π σ (upd H x o) {s with heap:=h',toks:=t'}:=I.un (Un.write mu he k heo) (I.hok.write mu he k heo new)
theorem Inv.pins_of{pins':List (AJ×B7)}(I:Inv X π σ H s)(h:∀p∈pins',s.heap.get? p.1=AA p.2/\H p.1=AD/\p.1≠X.env.locals/\p.1∉X.fs/\∀v,p.2.data ≠ .cell v):Inv X pins' σ H s:=
 ⟨I.ok,I.os,I.bare,I.base,I.loc,I.cell,I.free,I.freeC,λp hp=>(Bq.mp hp).elim (λz=>I.pin p (Cb _ z)) (h p),I.hok,I.len⟩
def zgG{N:List AL}(hN:N.Nodup){i j:Nat}{x:AL}(a:N[i]?=AA x)(b:N[j]?=AA x):i=j:=by
 let⟨h1,e1⟩:=Am.mp a;let⟨h2,e2⟩:=Am.mp b;exact(List.getElem_inj hN).mp (e1.trans e2.symm)
def zhz{M:Hs}{A:Ag}{E:AG->AK->Prop}{i:Nat}{x:AL}{v:V}{u:AG}{Q:Unit->AK->Prop}(I:Inv X π σ H s)(hN:X.N.Nodup)(hi:X.N[i]?=AA x)(hx:Loc X.env.scope x)(r:RelV v u)
  (h:∀s',Inv X π (σ.set i (AA v)) H s'->(∃a,C1 a s.heap s'.heap/\(a=X.env.locals \/ X.env.cells.lookup x=AA a))->Q () s') (hf:X.fn x=AC \/ X.env.scope.names.lookup x=AA .local:=by first|exact .inl rfl|exact .inr rfl|assumption):A2 M A (storeName X.env x u) Q E s:=by
 let⟨m,hn,hl⟩:=id I.loc;have hcls:(X.env.scope.kind==.class || (X.env.scope.kind==.module&&X.env.locals != X.env.globals))=false:=by rw[I.ok.kind];rfl
 have hiσ:i<σ.length:=by rw[I.len];exact(Am.mp hi).1
 have cne:=I.cne;have tracked:∀{a:AJ} {h':Aq},(∃o,s.heap.get? a=AA o/\H a=AD)->C1 a s.heap h'->HOk X.prog X.w H h':=λ{a h'} ha hs b ob e=>by
  let⟨_,_,hfree⟩:=ha;refine(I.hok b ob e).stay (λc w' hc q=>(hs.2 c ?_).trans q) (λ_ q=>q) λ_ _ q=>q
  rintro rfl
  rcases hc with rfl|hc
  .rw[hfree]at e;cases e
  .rw[hfree]at hc;cases hc
 rcases hx with hk|hk
 .refine wpAny_storeName_local hk hn (λh' hn' hs=>?_) hcls;let⟨oL,_,_,hoL,_⟩:=id hn;refine h _ ⟨I.ok,I.os,I.bare,⟨λb o e n hb hx=>?_,λb o e n hb hx=>?_,I.base.free,λb o e hx=>?_,I.base.tups,I.base.frzs,I.base.tbls⟩,⟨_,hn',λj y v' e1 e2 e3=>?_⟩,λy c e=>?_,I.free,I.freeC,λp hp=>?_,tracked ⟨oL,hoL,I.free⟩ hs,by simpa using I.len⟩ ⟨_,hs,.inl rfl⟩
  .exact(hs.2 b (Ah (A0 (AZ e) I.ok.above))).trans (I.base.keep b o e n hb hx)
  .let⟨sl,e1⟩:=I.base.slot b o e n hb hx;exact⟨sl,(hs.2 b (Ah (A0 (AZ e) I.ok.above))).trans e1⟩
  .let⟨o',e1⟩:=I.base.there b o e hx;exact⟨o',(hs.2 b (Ah (A0 (AZ e) I.ok.above))).trans e1⟩
  .by_cases hj:j=i
   .subst hj;rw[hi]at e1;cases e1;rw[A5 hiσ]at e2
    cases e2
    exact⟨u,r,.inl ⟨hk,by simp⟩⟩
   .rw[AN (Au hj)]at e2;let⟨u',r',q⟩:=hl j y v' e1 e2 e3;refine⟨u',r',?_⟩;rcases q with⟨k,e⟩|⟨k,c,e,z⟩
    .refine .inl ⟨k,?_⟩;have:y≠x:=λe=>hj (zgG hN e1 (e ▸ hi));simp[this,e]
    .exact .inr ⟨k,c,e,z.sameBut hs (cne y c e)⟩
  .let⟨w',z⟩:=I.cell y c e;exact⟨w',z.sameBut hs (cne y c e)⟩
  .let⟨e,n,ne,nf,d⟩:=I.pin p hp;exact⟨(hs.2 p.1 ne).trans e,n,ne,nf,d⟩
 .have hfn:X.fn x=true:=by
   rcases hf with z|z
   .exact z
   .rw[z]at hk;cases hk
  let⟨c,hc⟩:=I.ok.has x (.inl hk);let⟨w',z⟩:=I.cell x c hc;refine wpAny_storeName_cell I.ok.kind hk hc z (λh' hc' hs=>?_);let⟨oc,hoc,hocd⟩:=id z;refine h {s with heap:=h'} ⟨I.ok,I.os,I.bare,⟨λb o e n hb hx=>?_,λb o e n hb hx=>?_,I.base.free,λb o e hx=>?_,I.base.tups,I.base.frzs,I.base.tbls⟩,⟨m,hn.sameBut hs (Au (cne x c hc)),λj y v' e1 e2 e3=>?_⟩,λy c' e=>?_,I.free,I.freeC,λp hp=>?_,tracked ⟨oc,hoc,I.freeC x c hc⟩ hs,by simpa using I.len⟩ ⟨c,hs,.inr hc⟩
  .exact(hs.2 b (Ah (A0 (AZ e) (I.ok.cab x c hfn hc)))).trans (I.base.keep b o e n hb hx)
  .let⟨sl,e1⟩:=I.base.slot b o e n hb hx;exact⟨sl,(hs.2 b (Ah (A0 (AZ e) (I.ok.cab x c hfn hc)))).trans e1⟩
  .let⟨o',e1⟩:=I.base.there b o e hx;exact⟨o',(hs.2 b (Ah (A0 (AZ e) (I.ok.cab x c hfn hc)))).trans e1⟩
  .by_cases hj:j=i
   .subst hj;rw[hi]at e1;cases e1;rw[A5 hiσ]at e2
    cases e2
    exact⟨u,r,.inr ⟨.inl hk,c,hc,hc'⟩⟩
   .rw[AN (Au hj)]at e2;let⟨u',r',q⟩:=hl j y v' e1 e2 e3;refine⟨u',r',?_⟩;rcases q with q|⟨k,c',e,z'⟩
    .exact .inl q
    .refine .inr ⟨k,c',e,z'.sameBut hs ?_⟩
     rintro rfl
     exact hj (zgG hN e1 (I.ok.inj _ _ _ e hc ▸ hi))
  .by_cases hcc:c'=c
   .subst hcc;exact⟨_,hc'⟩
   .let⟨w2,z2⟩:=I.cell y c' e;exact⟨w2,z2.sameBut hs hcc⟩
  .let⟨e,n,ne,nf,d⟩:=I.pin p hp;refine⟨(hs.2 p.1 ?_).trans e,n,ne,nf,d⟩;intro q;rw[q,hoc]at e;have q':oc=p.2:=AY e;exact d w' (by rw[<-q'];exact hocd)
def za5{M:Hs}{A:Ag}{E:AG->AK->Prop}{i:Nat}{x:AL}{v:V}{u:AG}{Q:Unit->AK->Prop}(I:Inv X π σ H s)(hN:X.N.Nodup)(hi:X.N[i]?=AA x)(hx:Loc X.env.scope x)(r:RelV v u)
  (h:∀s',Inv X π (σ.set i (AA v)) H s'->Q () s') (hf:X.fn x=AC \/ X.env.scope.names.lookup x=AA .local:=by first|exact .inl rfl|exact .inr rfl|assumption):A2 M A (storeName X.env x u) Q E s:=
 zhz I hN hi hx r (λs' I' _=>h s' I') hf
theorem Inv.call'{s':AK}{ch:List AJ}(I:Inv X π σ H s)(ho:s'.os=s.os)(u:Un (frs X.stack) ch H H' s.heap s'.heap)(hok:HOk X.prog X.w H' s'.heap)(hg:DD s'.gens)
  (hch:∀b∈ch,(b∈X.ex \/ X.s₀.heap.objs.size<=b)/\b≠X.env.locals/\(∀x c,X.env.cells.lookup x=AA c->c≠b)/\∀p∈X.pn++π,p.1≠b):Inv X π σ H' s':=by
 let⟨h',g',d',t',o'⟩:=s';have e:o'=s.os:=ho;subst e;exact I.call (g':=g') (t':=t') (d':=d') u hok hg hch
end
abbrev XK:=AG->Option AJ->Hp->Prop
abbrev St:=List (Option V)
abbrev VK:=V->Hp->Prop
abbrev TE:=St->Hp->VK->Prop
abbrev TT:=St->Hp->(Bool->Hp->Prop)->Prop
abbrev TA:=St->Hp->(List V->Hp->Prop)->Prop
structure Ends where
 nx:St->Hp->Prop
 rt:VK
 bk:St->Hp->Prop:=λ_ _=>False
 ct:St->Hp->Prop:=λ_ _=>False
abbrev TS:=Ends->St->Hp->Prop
def EP(X:Cx)(π:List (AJ×B7))(σ:St)(Q:VK)(u:AG)(s':AK):Prop:=∃v H',Inv X π σ H' s'/\RelV v u/\Q v H'
def TP(X:Cx)(π:List (AJ×B7))(σ:St)(Q:Bool->Hp->Prop)(b:Bool)(s':AK):Prop:=∃H',Inv X π σ H' s'/\Q b H'
def AP(X:Cx)(π:List (AJ×B7))(σ:St)(Q:List V->Hp->Prop)(us:List AG)(s':AK):Prop:=∃vs H',Inv X π σ H' s'/\Vals vs us/\Q vs H'
def SP(X:Cx)(π:List (AJ×B7))(D:Ends)(f:Flow)(s':AK):Prop:=
 match f with
 |.next=>∃σ' H',Inv X π σ' H' s'/\D.nx σ' H'
 |.brk=>∃σ' H',Inv X π σ' H' s'/\D.bk σ' H'
 |.cont=>∃σ' H',Inv X π σ' H' s'/\D.ct σ' H'
 |.ret u=>∃v σ' H',Inv X π σ' H' s'/\RelV v u/\D.rt v H'
def PE(X:Cx)(e:AT)(t:TE):Prop:=
 ∀(π:List (AJ×B7)) (s:AK) (σ:St) (H:Hp) (Q:VK),Inv X π σ H s->t σ H Q->A2 (model X.prog X.w) X.A (eval e X.env) (EP X π σ Q) X.xe s
def PT(X:Cx)(e:AT)(t:TT):Prop:=
 ∀(π:List (AJ×B7)) (s:AK) (σ:St) (H:Hp) (Q:Bool->Hp->Prop),Inv X π σ H s->t σ H Q->A2 (model X.prog X.w) X.A (isTrue e X.env (eval e X.env)) (TP X π σ Q) X.xe s
def PW(X:Cx)(e:AT)(t:TT):Prop:=
 ∀(whole:Hh AG) (π:List (AJ×B7)) (s:AK) (σ:St) (H:Hp) (Q:Bool->Hp->Prop),Inv X π σ H s->t σ H Q->A2 (model X.prog X.w) X.A (isTrue e X.env whole) (TP X π σ Q) X.xe s
theorem PW.pt{X:Cx}{e:AT}{t:TT}(h:PW X e t):PT X e t:=h _
def PA(X:Cx)(es:List AT)(t:TA):Prop:=
 ∀(pos:CB) (π:List (AJ×B7)) (s:AK) (σ:St) (H:Hp) (Q:List V->Hp->Prop),Inv X π σ H s->t σ H Q->A2 (model X.prog X.w) X.A (spliced (backTo pos (starEach es X.env))) (AP X π σ Q) X.xe s
def PS(X:Cx)(st:B9)(t:TS):Prop:=
 ∀(π:List (AJ×B7)) (s:AK) (σ:St) (H:Hp) (D:Ends),Inv X π σ H s->t D σ H->A2 (model X.prog X.w) X.A (exec st X.env) (SP X π D) X.xe s
def PSs(X:Cx)(st:List B9)(t:TS):Prop:=
 ∀(π:List (AJ×B7)) (s:AK) (σ:St) (H:Hp) (D:Ends),Inv X π σ H s->t D σ H->A2 (model X.prog X.w) X.A (execs st X.env) (SP X π D) X.xe s
theorem thn{α:Type}{t:Hh α}{Q Q':α->AK->Prop}{M:Hs}{A:Ag}{E:AG->AK->Prop}{s:AK}(h:A2 M A t Q E s)(hQ:∀a s,Q a s->Q' a s):A2 M A t Q' E s:=Bb h hQ λ_ _ x=>x
section
variable {X:Cx}
theorem bin{a b:AT}{ta tb:TE}(ha:PE X a ta)(hb:PE X b tb){π:List (AJ×B7)}{s:AK}{σ:St}{H:Hp}{R:V->V->Hp->Prop}(I:Inv X π σ H s)(h:ta σ H λx H1=>tb σ H1 λy H2=>R x y H2)
  {α:Type} {Q:α->AK->Prop} {f:AG->AG->Hh α}
  (hf:∀v u s2 x y H2,Inv X π σ H2 s2->RelV x v->RelV y u->R x y H2->A2 (model X.prog X.w) X.A (f v u) Q X.xe s2):
  A2 (model X.prog X.w) X.A (eval a X.env) (λv s₁=>A2 (model X.prog X.w) X.A (eval b X.env) (λu s₂=>A2 (model X.prog X.w) X.A (f v u) Q X.xe s₂) X.xe s₁) X.xe s:=by
 refine thn (ha π s σ H _ I h) λv s1 kq=>?_;let⟨x,H1,I1,r1,q1⟩:=kq;refine thn (hb π s1 σ H1 _ I1 q1) λu s2 kq=>?_;let⟨y,H2,I2,r2,q2⟩:=kq;exact hf v u s2 x y H2 I2 r1 r2 q2
def yhd(i:Nat):TE:=λσ H Q=>∃v,σ[i]?=AA (AA v)/\Q v H
def tC(v:V):TE:=λ_ H Q=>Q v H
def zk4{i:Nat}{x:AL}{pos:CB}(hN:X.N[i]?=AA x)(hv:Vis X.env.scope x)(hd:(x==("__debug__":AL))=false:=by decide)(hcd:(x==("__classdict__":AL))=false:=by decide):PE X (.Name x pos) (yhd i):=by
 intro π s σ H Q I h;let⟨v,e,h⟩:=h;let⟨m,hn,hl⟩:=I.loc;let⟨u,r,l⟩:=hl i x v hN e hv;have fin:EP X π σ Q u s:=⟨v,H,I,r,h⟩;rcases l with⟨hk,hm⟩|⟨hk,c,hc,hcell⟩
 .exact HQ (F2 I.ok.kind hk hn hm fin) hd
 .rcases hk with hk|hk
  .exact HQ (Fk I.ok.kind hk hc hcell fin) hd
  .exact HQ (wpAny_loadName_free I.ok.kind hk hc hcell fin hcd) hd
def zqr{i j pos}:PE X (.Constant (.int i) j pos) (tC (.int i)):=λ_ _ _ H _ I h=>wpAny_Constant_int ⟨.int i,H,I.tok _,⟨_,rfl⟩,h⟩
def zqs{b j pos}:PE X (.Constant (.bool b) j pos) (tC (.bl b)):=λ_ _ _ H _ I h=>Constant_bool ⟨.bl b,H,I,rfl,h⟩
def zqt{j pos}:PE X (.Constant .none j pos) (tC .non):=λ_ _ _ H _ I h=>Constant_none ⟨.non,H,I,rfl,h⟩
def znd{x j pos}:PE X (.Constant (.str x) j pos) (tC (.str x)):=λ_ _ _ H _ I h=>Calls.Constant_str ⟨.str x,H,I.tok _,⟨_,rfl⟩,h⟩
def Gl(X:Cx)(x:AL):Prop:=X.env.kindOf x=AA .globalImplicit
def zbi{E:AG->AK->Prop}{π:List (AJ×B7)}{s:AK}{σ:St}{H:Hp}{x:AL}{u:AG}{pos:CB}{Q:AG->AK->Prop}(I:Inv X π σ H s)(hg:Gl X x)(hm:X.mg x=AA u)(h:Q u s)
  (hd:(x==("__debug__":AL))=false:=by decide):A2 (model X.prog X.w) X.A (eval (.Name x pos) X.env) Q E s:=
 EA I.ok.kind hg (Calls.loadGlobal_global (by rw[I.ok.glob];exact I.mod.glob.keeps I.bk) hm h) hd
def zdW{E:AG->AK->Prop}{π:List (AJ×B7)}{s:AK}{σ:St}{H:Hp}{x:AL}{u:AG}{pos:CB}{Q:AG->AK->Prop}(I:Inv X π σ H s)(hg:Gl X x)(hm:X.mg x=AD)(hv:bootBuiltins x=AA u)(h:Q u s)
  (hn:x ≠ "__name__":=by decide) (hd:(x==("__debug__":AL))=false:=by decide):A2 (model X.prog X.w) X.A (eval (.Name x pos) X.env) Q E s:=by
 let⟨mb,h1,h2⟩:=I.mod.blt;exact EA I.ok.kind hg (Calls.loadGlobal_builtin (by rw[I.ok.glob];exact I.mod.glob.keeps I.bk) hm (by rw[I.ok.blt];exact h1.keeps I.bk) ((h2 x hn).trans hv) h) hd
def zcJ{x:AL}{v:V}{u:AG}{pos:CB}(hg:Gl X x)(hm:X.mg x=AA u)(r:RelV v u)(hd:(x==("__debug__":AL))=false:=by decide):PE X (.Name x pos) (tC v):=
 λ_ _ _ H _ I h=>zbi I hg hm ⟨v,H,I,r,h⟩ hd
def ziE{x:AL}{v:V}{u:AG}{pos:CB}(hg:Gl X x)(hm:X.mg x=AD)(hv:bootBuiltins x=AA u)(r:RelV v u)(hn:x ≠ "__name__":=by decide)(hd:(x==("__debug__":AL))=false:=by decide):PE X (.Name x pos) (tC v):=
 λ_ _ _ H _ I h=>zdW I hg hm hv ⟨v,H,I,r,h⟩ hn hd
variable {a b:AT}{ta tb:TE}{pos:CB}
variable {tA tB':TT}{rest:List AT}
def yf8(t u:TT):TT:=λσ H Q=>t σ H λc H1=>if c=AC then u σ H1 Q else Q AB H1
def tOr(t u:TT):TT:=λσ H Q=>t σ H λc H1=>if c=AC then Q AC H1 else u σ H1 Q
def yfN(t:TT):TT:=λσ H Q=>t σ H λc H1=>Q (!c) H1
def zm2(ha:PT X a tA):PW X (.BoolOp .And [a] pos) tA:=by
 intro wh π s σ H Q I h;refine isTrue_and (thn (ha π s σ H Q I h) λc s1 e=>?_)
 cases c with
 |true=>exact isTrue_and_nil e
 |false=>exact e
def zod(ha:PT X a tA):PW X (.BoolOp .Or [a] pos) tA:=by
 intro wh π s σ H Q I h;refine isTrue_or (thn (ha π s σ H Q I h) λc s1 e=>?_)
 cases c with
 |false=>exact isTrue_or_nil e
 |true=>exact e
def zpj(ha:PT X a tA)(hb:PW X (.BoolOp .And (b::rest) pos) tB'):PW X (.BoolOp .And (a::b::rest) pos) (yf8 tA tB'):=by
 intro wh π s σ H Q I h;refine isTrue_and (thn (ha π s σ H _ I h) λc s1 kq=>?_);let⟨H1,I1,q1⟩:=kq
 cases c with
 |true=>exact hb wh π s1 σ H1 Q I1 q1
 |false=>exact⟨H1,I1,q1⟩
def zpP(ha:PT X a tA)(hb:PW X (.BoolOp .Or (b::rest) pos) tB'):PW X (.BoolOp .Or (a::b::rest) pos) (tOr tA tB'):=by
 intro wh π s σ H Q I h;refine isTrue_or (thn (ha π s σ H _ I h) λc s1 kq=>?_);let⟨H1,I1,q1⟩:=kq
 cases c with
 |true=>exact⟨H1,I1,q1⟩
 |false=>exact hb wh π s1 σ H1 Q I1 q1
def znE(ha:PT X a tA):PT X (.UnaryOp .Not a pos) (yfN tA):=by
 intro π s σ H Q I h;exact isTrue_not (ha π s σ H (λc H1=>Q (!c) H1) I h)
def yeS(ta tb:TE):TE:=λσ H Q=>ta σ H λx H1=>∃c,x=.bl c/\if c=AC then tb σ H1 Q else Q (.bl AB) H1
def yfF(ta tb:TE):TE:=λσ H Q=>ta σ H λx H1=>∃c,x=.bl c/\if c=AC then Q (.bl AC) H1 else tb σ H1 Q
def yeF(ta:TE):TE:=λσ H Q=>ta σ H λx H1=>∃c,x=.bl c/\Q (.bl (!c)) H1
def zn8{op}{t:TE}(h:PE X a t):PE X (.BoolOp op [a] pos) t:=λπ s σ H Q I hw=>BoolOp_one (h π s σ H Q I hw)
def zot(ha:PE X a ta)(hb:PE X (.BoolOp .And (b::rest) pos) tb):PE X (.BoolOp .And (a::b::rest) pos) (yeS ta tb):=by
 intro π s σ H Q I h;refine BoolOp_and (thn (ha π s σ H _ I h) λv s1 kq=>?_);let⟨x,H1,I1,r1,q1⟩:=kq;let⟨c,rfl,q1⟩:=q1
 cases r1
 refine BO ?_
 cases c with
 |true=>exact hb π s1 σ H1 Q I1 q1
 |false=>exact⟨.bl AB,H1,I1,rfl,q1⟩
def zpT(ha:PE X a ta)(hb:PE X (.BoolOp .Or (b::rest) pos) tb):PE X (.BoolOp .Or (a::b::rest) pos) (yfF ta tb):=by
 intro π s σ H Q I h;refine BoolOp_or (thn (ha π s σ H _ I h) λv s1 kq=>?_);let⟨x,H1,I1,r1,q1⟩:=kq;let⟨c,rfl,q1⟩:=q1
 cases r1
 refine BO ?_
 cases c with
 |false=>exact hb π s1 σ H1 Q I1 q1
 |true=>exact⟨.bl AC,H1,I1,rfl,q1⟩
def zn7(ha:PE X a ta):PE X (.UnaryOp .Not a pos) (yeF ta):=by
 intro π s σ H Q I h;refine UnaryOp_ (thn (ha π s σ H _ I h) λv s1 kq=>?_);let⟨x,H1,I1,r1,q1⟩:=kq;let⟨c,rfl,q1⟩:=q1
 cases r1
 exact not_of (BO ⟨.bl (!c),H1,I1,rfl,q1⟩)
def tIf(t:TT)(ta tb:TE):TE:=λσ H Q=>t σ H λc H1=>if c=AC then ta σ H1 Q else tb σ H1 Q
def zkf{c:AT}(hc:PT X c tA)(ha:PE X a ta)(hb:PE X b tb):PE X (.IfExp c a b pos) (tIf tA ta tb):=by
 intro π s σ H Q I h;refine wpAny_IfExp (thn (hc π s σ H _ I h) λd s1 kq=>?_);let⟨H1,I1,q1⟩:=kq
 cases d with
 |true=>exact ha π s1 σ H1 Q I1 q1
 |false=>exact hb π s1 σ H1 Q I1 q1
end
def SqL(K:AF)(H:Hp)(a:AJ)(xs:List V):Prop:=
 Rd H a (.lst xs) \/
  ∃(o:B7) (its:Array AG) (n:Nat),K.lookup a=AA o/\o.cls=.type "list"/\o.dict=AD/\o.data=.seq its n/\its.size<=sizeLine/\Vals xs its.toList
def SqT(K:AF)(H:Hp)(a:AJ)(xs:List V):Prop:=
 Rd H a (.tup xs) \/
  ∃(o:B7) (its:Array AG) (n:Nat),K.lookup a=AA o/\o.cls=.type "tuple"/\o.data=.seq its n/\its.size<=sizeLine/\Vals xs its.toList
def yg6:AG->Option V
 |.none=>AA .non
 |.bool b=>AA (.bl b)
 |.int i _=>AA (.int i)
 |.str x _=>AA (.str x)
 |.bytes b _=>AA (.byt b)
 |.float b _=>AA (.flt b)
 |.ref a=>AA (.ref a)
 |.type n=>AA (.ty n)
 |_=>AD
theorem RelV.abs{x:V}{u:AG}(r:RelV x u):yg6 u=AA x:=by
 cases x with
 |non=>cases r;rfl
 |bl _=>cases r;rfl
 |int _=>let⟨t,rfl⟩:=r;rfl
 |str _=>let⟨t,rfl⟩:=r;rfl
 |byt _=>let⟨t,rfl⟩:=r;rfl
 |flt _=>let⟨t,rfl⟩:=r;rfl
 |ref _=>cases r;rfl
 |ty _=>cases r;rfl
theorem RelV.inj{x y:V}{u:AG}(r:RelV x u)(q:RelV y u):x=y:=AY (r.abs.symm.trans q.abs)
theorem Vals.inj:∀{xs ys:List V} {us:List AG},Vals xs us->Vals ys us->xs=ys
 |_,_,_,.nil,.nil=>rfl
 |_,_,_,.cons r t,.cons r' t'=>by rw[r.inj r',Vals.inj t t']
section
variable {X:Cx}{π:List (AJ×B7)}{σ:St}{H:Hp}{s:AK}{a:AJ}{xs ys:List V}
theorem SqL.of{K:AF}(h:H a=AA (.lst xs)):SqL K H a xs:=.inl (.inl h)
theorem Inv.list(I:Inv X π σ H s)(h:SqL X.K H a xs):∃its:List AG,Vals xs its/\PlainL s.heap a its.toArray/\xs.length<=sizeLine:=by
 rcases h with h|⟨o,its,n,hk,hc,hd,hs,hz,r⟩
 .let⟨z,its,n,r,e⟩:=h.ok I.hok;exact⟨its,r,⟨_,n,e,rfl,rfl,rfl⟩,z⟩
 .refine⟨its.toList,r,⟨o,n,I.kIn a o hk,hc,hd,by simpa using hs⟩,?_⟩;have e:=r.length;erw[Bu]at e;lia
theorem Inv.tuple(I:Inv X π σ H s)(h:SqT X.K H a xs):∃its:List AG,Vals xs its/\Hr s.heap a its.toArray/\xs.length<=sizeLine:=by
 rcases h with h|⟨o,its,n,hk,hc,hs,hz,r⟩
 .let⟨z,its,r,p⟩:=h.ok I.hok;exact⟨its,r,p,z⟩
 .refine⟨its.toList,r,⟨o,I.kIn a o hk,hc,n,by simpa using hs⟩,?_⟩;have e:=r.length;erw[Bu]at e;lia
theorem Inv.list_inj(I:Inv X π σ H s)(h:SqL X.K H a xs)(h':SqL X.K H a ys):xs=ys:=by
 let⟨its,r,⟨o,n,e,_,_,d⟩,_⟩:=I.list h;let⟨its',r',⟨o',n',e',_,_,d'⟩,_⟩:=I.list h';rw[e]at e';cases e';rw[d]at d';injection d' with d1 _;have:its=its':=by simpa using congrArg Hw d1
 subst this;exact r.inj r'
theorem Inv.tuple_inj(I:Inv X π σ H s)(h:SqT X.K H a xs)(h':SqT X.K H a ys):xs=ys:=by
 let⟨its,r,⟨o,e,_,n,d⟩,_⟩:=I.tuple h;let⟨its',r',⟨o',e',_,n',d'⟩,_⟩:=I.tuple h';rw[e]at e';cases e';rw[d]at d';injection d' with d1 _;have:its=its':=by simpa using congrArg Hw d1
 subst this;exact r.inj r'
end
abbrev Cx.wish(X:Cx)(E:AG->AK->Prop):Cx:={X with xe:=E}
theorem Cx.Ok.wish{X:Cx}(ok:X.Ok)(E:AG->AK->Prop):(X.wish E).Ok:=
 ⟨ok.mod,ok.kind,ok.glob,ok.blt,ok.above,ok.inj,ok.has,ok.cab,ok.hd,ok.frames,ok.stk,ok.exf,ok.bs,ok.bsz,ok.noex,ok.exfs,ok.funs,ok.frf⟩
theorem Cx.Ok.unwish{X:Cx}{E:AG->AK->Prop}(ok:(X.wish E).Ok):X.Ok:=
 ⟨ok.mod,ok.kind,ok.glob,ok.blt,ok.above,ok.inj,ok.has,ok.cab,ok.hd,ok.frames,ok.stk,ok.exf,ok.bs,ok.bsz,ok.noex,ok.exfs,ok.funs,ok.frf⟩
section
variable {X:Cx}{π:List (AJ×B7)}{σ:St}{H:Hp}{s:AK}{E:AG->AK->Prop}
theorem Inv.wish(I:Inv X π σ H s)(E:AG->AK->Prop):Inv (X.wish E) π σ H s:=⟨I.ok.wish E,I.os,I.bare,I.base,I.loc,I.cell,I.free,I.freeC,I.pin,I.hok,I.len⟩
theorem Inv.unwish(I:Inv (X.wish E) π σ H s):Inv X π σ H s:=⟨I.ok.unwish,I.os,I.bare,I.base,I.loc,I.cell,I.free,I.freeC,I.pin,I.hok,I.len⟩
end
section
variable {X:Cx}{st:B9}{rest:List B9}{t u:TS}{e:AT}{te:TE}{pos:CB}
def yeO:TS:=λD σ H=>D.nx σ H
def yfB(t u:TS):TS:=λD σ H=>t {D with nx:=u D} σ H
def zqu:PSs X [] yeO:=λ_ _ σ H _ I h=>Cy ⟨σ,H,I,h⟩
def zf4(h1:PS X st t)(h2:PSs X rest u):PSs X (st::rest) (yfB t u):=by
 intro π s σ H D I h;refine Gh (thn (h1 π s σ H {D with nx:=u D} I h) λf s1 q=>?_)
 cases f with
 |next=>
  let⟨σ',H',I',q⟩:=q;exact h2 π s1 σ' H' D I' q
 |ret v=>exact q
 |brk=>exact q
 |cont=>exact q
def zmV(h1:PS X st t):PSs X [st] t:=by
 intro π s σ H D I h;refine Gh (thn (h1 π s σ H D I h) λf s1 q=>?_)
 cases f with
 |next=>exact Cy q
 |ret v=>exact q
 |brk=>exact q
 |cont=>exact q
theorem Inv.quiet{π:List (AJ×B7)}{σ:St}{H:Hp}{s:AK}(I:Inv X π σ H s):interactive X.env=false:=by simp[interactive,I.ok.kind]
def yeP(te:TE):TS:=λD σ H=>te σ H λ_ H1=>D.nx σ H1
def zm0(he:PE X e te)(hs:swapsWith e AD pos.line X.env=pure false:=by rfl):PS X (.Expr e pos) (yeP te):=by
 intro π s σ H D I h;exact wpAny_Expr_any (thn (he π s σ H _ I h) λv s1 ⟨x,H1,I1,r1,q1⟩=>⟨σ,H1,I1,q1⟩) I.quiet hs
def ygI(te:TE):TS:=λD σ H=>te σ H D.rt
def zkY(he:PE X e te):PS X (.Return (AA e) pos) (ygI te):=by
 intro π s σ H D I h;exact wpAny_Return_some (thn (he π s σ H _ I h) λv s1 ⟨x,H1,I1,r1,q1⟩=>⟨x,σ,H1,I1,r1,q1⟩)
def yeI:TS:=λD _ H=>D.rt .non H
def zqv:PS X (.Return AD pos) yeI:=λ_ _ σ H _ I h=>wpAny_Return_none ⟨.non,σ,H,I,rfl,h⟩
def yge(c:TT)(t u:TS):TS:=λD σ H=>c σ H λb H1=>if b=AC then t D σ H1 else u D σ H1
def zp9{c:AT}{a b:List B9}{tc:TT}(hc:PT X c tc)(ha:PSs X a t)(hb:PSs X b u):PS X (.If c a b pos) (yge tc t u):=by
 intro π s σ H D I h;refine wpAny_If (thn (hc π s σ H _ I h) λd s1 kq=>?_);let⟨H1,I1,q1⟩:=kq
 cases d with
 |true=>exact ha π s1 σ H1 D I1 q1
 |false=>exact hb π s1 σ H1 D I1 q1
end
abbrev TG:=V->St->Hp->(St->Hp->Prop)->Prop
abbrev TGs:=List V->St->Hp->(St->Hp->Prop)->Prop
def PG(X:Cx)(target:AT)(t:TG):Prop:=
 ∀(π:List (AJ×B7)) (s:AK) (σ:St) (H:Hp) (v:V) (u:AG) (Q:St->Hp->Prop),Inv X π σ H s->RelV v u->t v σ H Q ->
  A2 (model X.prog X.w) X.A (assign target X.env u) (λ_ s'=>∃σ' H',Inv X π σ' H' s'/\Q σ' H') X.xe s
def PGs(X:Cx)(ts:List AT)(t:TGs):Prop:=
 ∀(π:List (AJ×B7)) (s:AK) (σ:St) (H:Hp) (vs:List V) (us:List AG) (Q:St->Hp->Prop),Inv X π σ H s->Vals vs us->t vs σ H Q ->
  A2 (model X.prog X.w) X.A (assignInOrder ((assignEach ts X.env).map (·.2)) us) (λ_ s'=>∃σ' H',Inv X π σ' H' s'/\Q σ' H') X.xe s
abbrev yea:=V->V->V->Hp->(Hp->Prop)->Prop
def yfd(X:Cx)(t:yea):Prop:=
 ∀(π:List (AJ×B7)) (s:AK) (σ:St) (H:Hp) (o i v:V) (ov iv u:AG) (Q:Hp->Prop),Inv X π σ H s->RelV o ov->RelV i iv->RelV v u->t o i v H Q ->
  A2 (model X.prog X.w) X.A (setItem ov iv u) (λ_ s'=>∃H',Inv X π σ H' s'/\Q H') X.xe s
abbrev TIp:=V->V->Hp->VK->Prop
def PIp(X:Cx)(op:Da)(t:TIp):Prop:=
 ∀(π:List (AJ×B7)) (s:AK) (σ:St) (H:Hp) (x y:V) (v u:AG) (Q:VK),Inv X π σ H s->RelV x v->RelV y u->t x y H Q ->
  A2 (model X.prog X.w) X.A (inplaceOp op v u) (EP X π σ Q) X.xe s
section
variable {X:Cx}{pos:CB}
def yc3(i:Nat):TG:=λv σ H Q=>Q (σ.set i (AA v)) H
def zht{i:Nat}{x:AL}(hN:X.N.Nodup)(hi:X.N[i]?=AA x)(hx:Loc X.env.scope x)(hf:X.fn x=AC \/ X.env.scope.names.lookup x=AA .local:=by first|exact .inl rfl|exact .inr rfl|assumption):PG X (.Name x pos) (yc3 i):=by
 intro π s σ H v u Q I r h;exact wpAny_assign_Name (za5 I hN hi hx r (λs' I'=>⟨_,H,I',h⟩) hf)
def yfZ:TGs:=λvs σ H Q=>vs=[]/\Q σ H
def yek(t:TG)(u:TGs):TGs:=λvs σ H Q=>∃v r,vs=v::r/\t v σ H λσ' H'=>u r σ' H' Q
def zqw:PGs X [] yfZ:=by
 intro π s σ H vs us Q I r h;let⟨e,h⟩:=h;subst e
 cases r
 exact GW ⟨σ,H,I,h⟩
def zjA{e:AT}{es:List AT}{t:TG}{u:TGs}(h1:PG X e t)(h2:PGs X es u)
  (hs:(assignEach (e::es) X.env).map (·.2)=assign e X.env::(assignEach es X.env).map (·.2):=by rfl):PGs X (e::es) (yek t u):=by
 intro π s σ H vs us Q I r h;let⟨v,vr,e1,h⟩:=h;subst e1
 cases r with
 |cons r rr=>
  rw[hs];refine EB (thn (h1 π s σ H _ _ _ I r h) λ_ s1 kq=>?_);let⟨σ1,H1,I1,q1⟩:=kq;exact h2 π s1 σ1 H1 _ _ Q I1 rr q1
def yfY(K:AF)(n:Nat)(t:TGs):TG:=λv σ H Q=>∃a xs,v=.ref a/\SqT K H a xs/\xs.length=n/\t xs σ H Q
def zoP{es:List AT}{k:Nat}{t:TGs}{n:Nat}(hc:X.calm=AC)(h:PGs X es t)
  (hn:(assignEach es X.env).length=n:=by rfl) (hst:(assignEach es X.env).findIdx? (·.1)=none:=by rfl):PG X (.Tuple es k pos) (yfY X.K n t):=by
 intro π s σ H v u Q I r hw;let⟨a,xs,e1,hq,hl,hw⟩:=hw;subst e1
 cases r
 let⟨its,rv,ht,hz⟩:=I.tuple hq;refine assign_Tuple_tuple (I.ok.hd hc) ht (by simp[hn,<-hl,rv.length]) hst λh' hx=>?_;have I1:Inv X π σ H {s with heap:=h'}:=I.kept (t':=s.toks) λb o e=>hx b o (Ah (AZ e)) e;exact h π _ σ H xs _ Q I1 (by simpa using rv) hw
def yfz(to ti:TE)(t:yea):TG:=λv σ H Q=>to σ H λo H1=>ti σ H1 λi H2=>t o i v H2 λH3=>Q σ H3
def zld{o i:AT}{to ti:TE}{t:yea}(ho:PE X o to)(hi:PE X i ti)(hs:yfd X t)
  (ha:∀v,assign (.Subscript o i pos) X.env v=(do
   let ov <-holding [v] (eval o X.env)
   let iv <-holding [v,ov] (eval i X.env)
   standAt pos
   holding [v,ov,iv] (setItem ov iv v)
   release [v,ov,iv] []):=by intro _;rfl):PG X (.Subscript o i pos) (yfz to ti t):=by
 intro π s σ H v u Q I r h;rw[ha];refine AI (D6 (thn (ho π s σ H _ I h) λov s1 kq=>?_));let⟨x,H1,I1,r1,q1⟩:=kq;refine AI (D6 (thn (hi π s1 σ H1 _ I1 q1) λiv s2 kq=>?_));let⟨y,H2,I2,r2,q2⟩:=kq;refine AI (Ef (AI (D6 (thn (hs π s2 σ H2 x y v ov iv u _ I2 r1 r2 r q2) λ_ s3 kq=>?_))));let⟨H3,I3,q3⟩:=kq;exact wpAny_release ⟨σ,H3,I3,q3⟩
def ye4(te:TE)(g:TG):TS:=λD σ H=>te σ H λx H1=>g x σ H1 D.nx
def zlg{tg e:AT}{te:TE}{g:TG}(he:PE X e te)(hg:PG X tg g)(hs:swapsWithSole [tg] e pos.line X.env=pure false:=by rfl)(hw:swappedStores [tg] e X.env=pure none:=by rfl)
  (h1:(assignEach [tg] X.env).map (·.2)=[assign tg X.env]:=by rfl):PS X (.Assign [tg] e pos) (ye4 te g):=by
 intro π s σ H D I h;refine wpAny_Assign_stores (thn (he π s σ H _ I h) λv s1 kq=>?_) hs hw;let⟨x,H1,I1,r1,q1⟩:=kq;rw[h1];exact thn (hg π s1 σ H1 x v _ I1 r1 q1) λ_ s2 q=>q
def zlh{i:Nat}{x:AL}{e:AT}{te:TE}{pos':CB}(hN:X.N.Nodup)(hi:X.N[i]?=AA x)(hx:Loc X.env.scope x)(he:PE X e te)(hs:swapsWith e (AA (.Name x pos')) pos.line X.env=pure false:=by rfl)(hf:X.fn x=AC \/ X.env.scope.names.lookup x=AA .local:=by first|exact .inl rfl|exact .inr rfl|assumption):
  PS X (.Assign [.Name x pos'] e pos) (ye4 te (yc3 i)):=by
 intro π s σ H D I h;refine wpAny_Assign_Name (thn (he π s σ H _ I h) λv s1 kq=>?_) hs;let⟨y,H1,I1,r1,q1⟩:=kq;exact za5 I1 hN hi hx r1 (λs2 I2=>⟨_,H1,I2,q1⟩) hf
def yfn(i j:Nat)(ta:TA):TS:=λD σ H=>ta σ H λvs H1=>∃v w,vs=[v,w]/\D.nx ((σ.set i (AA v)).set j (AA w)) H1
def zpq{i j:Nat}{x y:AL}{a b:AT}{ta:TA}{px py pt:CB}{kt k2 pt2}(hc:X.calm=AC)(hN:X.N.Nodup)(hi:X.N[i]?=AA x)(hj:X.N[j]?=AA y)(hij:i≠j)
  (hx:X.env.scope.names.lookup x=AA .local) (hy:X.env.scope.names.lookup y=AA .local) (ha:PA X [a,b] ta)
  (hw:swappedStores [.Tuple [.Name x px,.Name y py] kt pt] (.Tuple [a,b] k2 pt2) X.env=pure (AA [x,y]))
  (hs:swapsWithSole [.Tuple [.Name x px,.Name y py] kt pt] (.Tuple [a,b] k2 pt2) pos.line X.env=pure false:=by rfl):
  PS X (.Assign [.Tuple [.Name x px,.Name y py] kt pt] (.Tuple [a,b] k2 pt2) pos) (yfn i j ta):=by
 intro π s σ H D I h;rw[exec_Assign_arm];refine AI (Ef ?_);rw[hs];refine AI (AV ?_);rw[if_neg ⋯];refine AI (Tuple_ (thn (ha _ π s σ H _ I h) λus s1 kq=>?_));let⟨vs,H1,I1,r1,q1⟩:=kq;let⟨v,w,e1,q1⟩:=q1;subst e1;obtain⟨u1,u2,rfl,rv,rw'⟩:∃u1 u2,us=[u1,u2]/\RelV v u1/\RelV w u2:=by
  cases r1 with
  |cons p q=>
   cases q with
   |cons p' q'=>
    cases q'
    exact⟨_,_,rfl,p,p'⟩
 refine BV ?_ (by show 2<=sizeLine;decide);have I2:Inv X π σ H1 {s1 with heap:=s1.heap.push {cls:=.type "tuple",data:=.seq [u1,u2].toArray} }:=I1.kept (t':=s1.toks) λb o e=>AO _ e;rw[hw];refine AI (AV ?_);show A2 (model X.prog X.w) X.A (do rule "assign.swapped-stores";let items <-unpackItems (.ref s1.heap.objs.size) 2 AD;assignInOrder [λv=>bindName X.env y v,λv=>bindName X.env x v] items.reverse;pure Flow.next) _ _ _;refine AI (FG (AI (unpackItems_tuple (items:=#[u1,u2]) (I.ok.hd hc) (Fg s1.heap _) λh' hx'=>?_)));have I3:=I2.kept (h':=h') (t':=s1.toks) λb o e=>hx' b o (Ah (AZ e)) e;show A2 _ _ (assignInOrder [λv=>bindName X.env y v,λv=>bindName X.env x v] [u2,u1] >>= λ_=>pure Flow.next) _ _ _;refine AI (EB (F3 (za5 I3 hN hj (.inl hy) rw' (λs2 I4=>?_) (.inr hy))));refine EB (F3 (za5 I4 hN hi (.inl hx) rv (λs3 I5=>GW (AV ?_)) (.inr hx)));rw[Hi _ _ (Au hij)]at I5;exact⟨_,H1,I5,q1⟩
def ygu(i:Nat)(te:TE)(ti:TIp):TS:=λD σ H=>∃x,σ[i]?=AA (AA x)/\te σ H λy H1=>ti x y H1 λz H2=>D.nx (σ.set i (AA z)) H2
def zkF{i:Nat}{x:AL}{e:AT}{te:TE}{op:Da}{ti:TIp}{pos':CB}(hN:X.N.Nodup)(hi:X.N[i]?=AA x)(hx:Loc X.env.scope x)(he:PE X e te)(ho:PIp X op ti)(hf:X.fn x=AC \/ X.env.scope.names.lookup x=AA .local:=by first|exact .inl rfl|exact .inr rfl|assumption):
  PS X (.AugAssign (.Name x pos') op e pos) (ygu i te ti):=by
 intro π s σ H D I h;let⟨v,e1,h⟩:=h;let⟨m,hn,hl⟩:=I.loc;have vis:Vis X.env.scope x:=by rcases hx with k|k;exact .inl k;exact .inr (.inl k)
 let⟨u,r,l⟩:=hl i x v hi e1 vis;refine wpAny_AugAssign_Name ?_;have go:A2 (model X.prog X.w) X.A (eval e X.env) (λw s₂=>A2 (model X.prog X.w) X.A (inplaceOp op u w) (λr s₃=>A2 (model X.prog X.w) X.A (storeName X.env x r) (λ_=>SP X π D .next) X.xe s₃) X.xe s₂) X.xe s:=by
  refine thn (he π s σ H _ I h) λw s1 kq=>?_;let⟨y,H1,I1,r1,q1⟩:=kq;refine thn (ho π s1 σ H1 v y u w _ I1 r r1 q1) λz s2 kq=>?_;let⟨zv,H2,I2,r2,q2⟩:=kq;exact za5 I2 hN hi hx r2 (λs3 I3=>⟨_,H2,I3,q2⟩) hf
 rcases l with⟨hk,hm⟩|⟨hk,c,hc,hcell⟩
 .exact F2 I.ok.kind hk hn hm go
 .rcases hk with hk|hk
  .exact Fk I.ok.kind hk hc hcell go
  .rcases hx with k|k
   .have:X.env.scope.names.lookup x=AA .free:=hk;rw[k]at this;cases this
   .have:X.env.scope.names.lookup x=AA .free:=hk;rw[k]at this;cases this
def ipI(f:Int->Int->Int):TIp:=λx y H Q=>∃i j,x=.int i/\y=.int j/\Q (.int (f i j)) H
def zpi:PIp X .Add (ipI λi j=>i+j):=by
 intro π s σ H x y v u Q I r1 r2 h;let⟨i,j,e1,e2,q⟩:=h;subst e1;subst e2;let⟨t,rfl⟩:=r1;let⟨t',rfl⟩:=r2;exact HL ⟨.int _,H,I.tok _,⟨_,rfl⟩,q⟩
end
section
variable {X:Cx}{pos:CB}
def ydB(c:TT)(tb:TS):TS:=λD σ H=>∃W:Nat->St->Hp->Prop,(∃m,W m σ H)/\∀m σ H,W m σ H ->
 c σ H λb H1=>if b=AC then ∃N:St->Hp->Prop,(∀σ' H',N σ' H'->∃m',m' < m/\W m' σ' H')/\tb {D with nx:=N,ct:=N,bk:=D.nx} σ H1 else D.nx σ H1
def zjl{c:AT}{body:List B9}{tc:TT}{tb:TS}(hp:Eo (model X.prog X.w) X.A X.env X.xe)(hc:PT X c tc)(hb:PSs X body tb):PS X (.While c body [] pos) (ydB tc tb):=by
 intro π s σ H D I h;let⟨W,⟨m0,w0⟩,turn⟩:=h;refine wpAny_While (codeAny_whileLoop (λn s'=>∃σ' H',Inv X π σ' H' s'/\W n σ' H') ?_ m0 ⟨σ,H,I,w0⟩)
 rintro n s1 ⟨σ1,H1,I1,w1⟩
 refine CD hp (thn (hc π s1 σ1 H1 _ I1 (turn n σ1 H1 w1)) λb s2 kq=>?_);let⟨H2,I2,q2⟩:=kq
 cases b with
 |true=>
  let⟨N,hN,q2⟩:=q2;rw[if_pos rfl];refine CD hp (thn (hb π s2 σ1 H2 _ I2 q2) λf s3 q3=>?_)
  cases f with
  |next=>
   let⟨σ3,H3,I3,n3⟩:=q3;let⟨m',hm,w3⟩:=hN σ3 H3 n3;exact⟨m',hm,σ3,H3,I3,w3⟩
  |cont=>
   let⟨σ3,H3,I3,n3⟩:=q3;let⟨m',hm,w3⟩:=hN σ3 H3 n3;exact⟨m',hm,σ3,H3,I3,w3⟩
  |brk=>exact q3
  |ret v=>exact q3
 |false=>
  rw[if_neg Ai];exact Cy ⟨σ1,H2,I2,q2⟩
end
structure It where
 go:Nat->Hp->Prop
 yld:Nat->Hp->V->Hp->Prop
 stop:Nat->Hp->Prop
def ybb(X:Cx)(π:List (AJ×B7))(H:Hp)(b:AJ):Prop:=
 H b=AD/\b≠X.env.locals/\b∉X.fs/\(b∈X.ex \/ X.s₀.heap.objs.size<=b)/\(∀x c,X.env.cells.lookup x=AA c->c≠b)/\∀p∈X.pn++π,p.1≠b
theorem Inv.fpOk{X:Cx}{π:List (AJ×B7)}{σ:St}{H H':Hp}{s:AK}{b:AJ}(I:Inv X π σ H s)(hb:s.heap.objs.size<=b)(hn:H' b=AD):ybb X π H' b:=by
 refine⟨hn,FH (A0 I.lt hb),I.nofs hb,.inr (As I.sz hb),λx c e z=>?_,λp hp z=>?_⟩
 .let⟨v,q⟩:=I.cell x c e;exact absurd (A0 q.lt (by rw[z];exact hb)) (Cr _)
 .exact absurd (A0 (AZ (I.pin p hp).1) (by rw[z];exact hb)) (Cr _)
structure Turn(P:A4)(w:Af)(K:AF)(tg:AT)(J:It)(fp:List AJ)(it:AJ)(tn:Nat->Aq->Prop):Prop where
 mem:it∈fp
 obj:∀i h,tn i h->∀b∈fp,∃o,h.get? b=AA o/\∀v,o.data ≠ .cell v
 keep:∀i h h',tn i h->(∀b∈fp,∀o,h.get? b=AA o->h'.get? b=AA o)->tn i h'
 item:∀(X:Cx),X.prog=P->X.w=w->X.K=K->X.calm=AC->∀(i:Nat) (π:List (AJ×B7)) (s:AK) (σ:St) (H:Hp) (E:AG->AK->Prop),Inv X π σ H s->(∀b∈fp,ybb X π H b)->tn i s.heap->J.go i H ->
  A2 (model P w) X.A (pyNext (.ref it)) (λr s1=>∃u,r=AA u /\
   A2 (model P w) X.A (letOwnedTupleGo tg (.ref it) u) (λ_ s2=>∃x H',Inv X π σ H' s2/\RelV x u/\J.yld i H x H'/\tn (i+1) s2.heap/\∀b∈fp,H' b=AD) E s1) E s
 done:∀(X:Cx),X.prog=P->X.w=w->X.K=K->X.calm=AC->∀(i:Nat) (π:List (AJ×B7)) (s:AK) (σ:St) (H:Hp) (E:AG->AK->Prop),Inv X π σ H s->(∀b∈fp,ybb X π H b)->tn i s.heap->J.stop i H ->
  A2 (model P w) X.A (pyNext (.ref it)) (λr s1=>r=AD/\Inv X π σ H s1) E s
 self:∀(A:Ag) (i:Nat) (s:AK) (Q:AG->AK->Prop) (E:AG->AK->Prop),tn i s.heap->Q (.ref it) s->A2 (model P w) A (pyIter (.ref it)) Q E s
abbrev TI:=St->Hp->(It->Hp->Prop)->Prop
def PIE(X:Cx)(π:List (AJ×B7))(σ:St)(tg:AT)(R:It->Hp->Prop)(itv:AG)(s2:AK):Prop:=
 ∃(it:AJ) (fp:List AJ) (tn:Nat->Aq->Prop) (J:It) (H':Hp),itv=.ref it/\Inv X π σ H' s2/\Turn X.prog X.w X.K tg J fp it tn/\tn 0 s2.heap/\(∀b∈fp,ybb X π H' b)/\R J H'
def PI(X:Cx)(tg iter:AT)(wi:TI):Prop:=
 ∀(π:List (AJ×B7)) (s:AK) (σ:St) (H:Hp) (R:It->Hp->Prop),Inv X π σ H s->wi σ H R ->
  A2 (model X.prog X.w) X.A (eval iter X.env) (λv s1=>A2 (model X.prog X.w) X.A (pyIter v) (PIE X π σ tg R) X.xe s1) X.xe s
def zl1{M:Hs}{A:Ag}{E:AG->AK->Prop}{s:AK}{tg:AT}{it:AJ}{u:AG}{o:B7}{n:String}{vs:Array AG}{Q:Unit->AK->Prop}(ho:s.heap.get? it=AA o)(hc:o.cls=.type n)(hd:o.data=.fields vs)
  (hn:["enumerate","zip","dict_itemiterator","dict_reverseitemiterator","odict_iterator","itertools.zip_longest","itertools.pairwise"].contains n=AB) (hQ:Q () s):A2 M A (letOwnedTupleGo tg (.ref it) u) Q E s:=by
 unfold letOwnedTupleGo
 cases tg<;>first
  |exact AV hQ
  | (cases u<;>first
    |exact AV hQ
    | (refine AI (wpAny_load ho ?_)
       rw[hc,hd];show A2 M A (if (["enumerate","zip","dict_itemiterator","dict_reverseitemiterator","odict_iterator","itertools.zip_longest","itertools.pairwise"].contains n&&vs[0]? == AA (rawInt _))=AC then _ else _) Q E s;rw[if_neg (by intro h;rw[hn,HR]at h;cases h)];exact AV hQ))
def Itl(K:AF)(a:AJ):It:=
 ⟨λi H=>∃xs x,SqL K H a xs/\xs[i]?=AA x,λi H x H'=>H'=H/\∀xs,SqL K H a xs->xs[i]?=AA x,λi H=>∃xs,SqL K H a xs/\xs.length<=i⟩
def Itt(K:AF)(a:AJ):It:=
 ⟨λi H=>∃xs x,SqT K H a xs/\xs[i]?=AA x,λi H x H'=>H'=H/\∀xs,SqT K H a xs->xs[i]?=AA x,λi H=>∃xs,SqT K H a xs/\xs.length<=i⟩
def Itr(lo:Int)(n:Nat):It:=⟨λi _=>i<n,λi H x H'=>H'=H/\x=.int (lo+i),λi _=>n<=i⟩
def zho{P:A4}{w:Af}{K:AF}{tg:AT}(a it:AJ):Turn P w K tg (Itl K a) [it] it (λi h=>h.IsListIter it a i) where
 mem:=by simp
 obj:=λi h st b hb=>by
  have e:b=it:=by simpa using hb
  subst e;let⟨o,e,c,d⟩:=st;exact⟨o,e,λv z=>by rw[d]at z;cases z⟩
 keep:=λi h h' st k=>st.at λo e=>k it (by simp) o e
 item:=by
  intro X hP hw hK hc i π s σ H E I hf st hg;subst hP hw hK;let⟨xs,x,hq,hx⟩:=hg;let⟨its,rv,p,hz⟩:=I.list hq;let⟨u,hu,ru⟩:=rv.get hx;let⟨f0,f1,f2,f3,f4,f5⟩:=hf it (by simp);refine wpAny_pyNext_list_item st p.isList (x:=u) (by simpa using hu) λh' st' sb=>?_;have I1:Inv X π σ H {s with heap:=h'}:=I.turned (t':=s.toks) (λb o hb e=>(sb.2 b hb).trans e) f0 f1 f3 f4 f5;let⟨o,e,c,d⟩:=id st';exact⟨u,rfl,zl1 (s:={s with heap:=h'}) e c d ⋯ ⟨x,H,I1,ru,⟨rfl,λys hy=>by rw[I.list_inj hy hq];exact hx⟩,st',λb hb=>(hf b hb).1⟩⟩
 done:=by
  intro X hP hw hK hc i π s σ H E I hf st hg;subst hP hw hK;let⟨xs,hq,hx⟩:=hg;let⟨its,rv,p,hz⟩:=I.list hq;let⟨f0,f1,f2,f3,f4,f5⟩:=hf it (by simp);have hl:=rv.length;exact wpAny_pyNext_list_end (I.ok.hd hc) st p.isList (by simp;lia) λh' eb=>⟨rfl,I.turned (t':=s.toks) (λb o hb e=>eb b o hb e) f0 f1 f3 f4 f5⟩
 self:=λ_ _ _ _ _ st h=>wpAny_pyIter_listiter st h
def zgQ{P:A4}{w:Af}{K:AF}{tg:AT}(a it:AJ):Turn P w K tg (Itt K a) [it] it (λi h=>h.IsTupleIter it a i) where
 mem:=by simp
 obj:=λi h st b hb=>by
  have e:b=it:=by simpa using hb
  subst e;let⟨o,e,c,d⟩:=st;exact⟨o,e,λv z=>by rw[d]at z;cases z⟩
 keep:=λi h h' st k=>st.at λo e=>k it (by simp) o e
 item:=by
  intro X hP hw hK hc i π s σ H E I hf st hg;subst hP hw hK;let⟨xs,x,hq,hx⟩:=hg;let⟨its,rv,p,hz⟩:=I.tuple hq;let⟨u,hu,ru⟩:=rv.get hx;let⟨f0,f1,f2,f3,f4,f5⟩:=hf it (by simp);refine wpAny_pyNext_tuple_item st (show s.heap.IsTuple a its.toArray from p) (x:=u) (by simpa using hu) λh' st' sb=>?_;have I1:Inv X π σ H {s with heap:=h'}:=I.turned (t':=s.toks) (λb o hb e=>(sb.2 b hb).trans e) f0 f1 f3 f4 f5;let⟨o,e,c,d⟩:=id st';exact⟨u,rfl,zl1 (s:={s with heap:=h'}) e c d ⋯ ⟨x,H,I1,ru,⟨rfl,λys hy=>by rw[I.tuple_inj hy hq];exact hx⟩,st',λb hb=>(hf b hb).1⟩⟩
 done:=by
  intro X hP hw hK hc i π s σ H E I hf st hg;subst hP hw hK;let⟨xs,hq,hx⟩:=hg;let⟨its,rv,p,hz⟩:=I.tuple hq;let⟨f0,f1,f2,f3,f4,f5⟩:=hf it (by simp);have hl:=rv.length;exact wpAny_pyNext_tuple_end (I.ok.hd hc) st (show s.heap.IsTuple a its.toArray from p) (by simp;lia) λh' eb=>⟨rfl,I.turned (t':=s.toks) (λb o hb e=>eb b o hb e) f0 f1 f3 f4 f5⟩
 self:=λ_ _ _ _ _ st h=>wpAny_pyIter_tupleiter st h
def zhb{P:A4}{w:Af}{K:AF}{tg:AT}(it:AJ)(lo:Int)(n:Nat):Turn P w K tg (Itr lo n) [it] it (λi h=>IsRangeIter h it (lo+(i:Nat)*1) ((n:Int)-(i:Nat)) 1) where
 mem:=by simp
 obj:=λi h st b hb=>by
  have e:b=it:=by simpa using hb
  subst e;exact⟨_,st,λv z=>by
   have z':Data.fields _=Data.cell v:=z
   cases z'⟩
 keep:=λi h h' st k=>k it (by simp) _ st
 item:=by
  intro X hP hw hK hc i π s σ H E I hf st hg;subst hP hw hK;let⟨f0,f1,f2,f3,f4,f5⟩:=hf it (by simp);have W:=Walks.range (prog:=X.prog) (w:=X.w) (I.ok.hd hc) it lo 1 n;refine W.item i s _ _ hg st λv h' tk hv st' kk=>?_;let⟨t,rfl⟩:=hv;have I1:Inv X π σ H {s with heap:=h',toks:=tk}:=I.turned (λb o hb e=>kk b o (by simpa using hb) e) f0 f1 f3 f4 f5;refine⟨_,rfl,zl1 (s:={s with heap:=h',toks:=tk}) (n:="range_iterator") st' rfl rfl ⋯ ⟨.int (lo+i),H,I1,⟨t,?_⟩,⟨rfl,rfl⟩,st',λb hb=>(hf b hb).1⟩⟩;rw[Cz]
 done:=by
  intro X hP hw hK hc i π s σ H E I hf st hg;subst hP hw hK;let⟨f0,f1,f2,f3,f4,f5⟩:=hf it (by simp);exact wpAny_pyNext_range_end (I.ok.hd hc) st (by have:n<=i:=hg;lia) λh' eb=>⟨rfl,I.turned (t':=s.toks) (λb o hb e=>eb b o hb e) f0 f1 f3 f4 f5⟩
 self:=λ_ _ _ _ _ st h=>wpAny_pyIter_rangeiter st h
section
variable {X:Cx}{tg:AT}
def zks{π:List (AJ×B7)}{σ:St}{H:Hp}{s:AK}{R:It->Hp->Prop}{E:AG->AK->Prop}{lo hi:Int}{t u v:Hq}{tk:Nat}(I:Inv X π σ H s)(h1:-(2^62)<=lo)(h2:lo<2^62)(h3:-(2^62)<=hi)(h4:hi<2^62)
  (q:R (Itr lo (hi-lo).toNat) H):A2 (model X.prog X.w) X.A (pyIter (.ref s.heap.objs.size)) (PIE X π σ tg R) E {s with heap:=s.heap.push {cls:=.type "range",data:=.fields #[.int lo t,.int hi u,.int 1 v]},toks:=tk}:=by
 refine wpAny_pyIter_range (IsRange.new ..) (small_one h1 h2 h3 h4) ?_;have I1:Inv X π σ H {s with heap:=s.heap.push {cls:=.type "range",data:=.fields #[.int lo t,.int hi u,.int 1 v]},toks:=tk}:=I.kept λb o e=>AO _ e;refine⟨(s.heap.push {cls:=.type "range",data:=.fields #[.int lo t,.int hi u,.int 1 v]}).objs.size,[(s.heap.push {cls:=.type "range",data:=.fields #[.int lo t,.int hi u,.int 1 v]}).objs.size],_,_,H,rfl,
  I1.kept (t':=tk) λb o e=>AO _ e,zhb _ lo (hi-lo).toNat,?_,λb hb=>?_,q⟩
 .have e1:lo+((0:Nat):Int)*1=lo:=by simp
  have e2:(((hi-lo).toNat:Nat):Int)-((0:Nat):Int)=Ht lo hi 1:=by rw[rangeSize_one];split<;>lia
  show IsRangeIter _ _ (lo+((0:Nat):Int)*1) ((((hi-lo).toNat:Nat):Int)-((0:Nat):Int)) 1;rw[e1,e2];exact A3 _ rfl
 .have e:b=(s.heap.push {cls:=.type "range",data:=.fields #[.int lo t,.int hi u,.int 1 v]}).objs.size:=by simpa using hb
  subst e;exact I1.fpOk (AR _) (I1.hok.fresh (AR _))
def yd3(ta:TA):TI:=λσ H R=>ta σ H λvs H1=>∃j:Int,vs=[.int j]/\-(2^62)<=j/\j<2^62/\R (Itr 0 j.toNat) H1
def zil{a:AT}{ta:TA}{p pos:CB}(hg:Gl X "range")(hm:X.mg "range"=AD)(ha:PA X [a] ta)(hs:starEach [a] X.env=[(AB,eval a X.env)]:=by rfl):PI X tg (.Call (.Name "range" p) [a] [] pos) (yd3 ta):=by
 intro π s σ H R I h;refine Call_ (zdW I hg hm boot_range (Bw (thn (ha pos π s σ H _ I h) λus s1 kq=>?_) hs rfl));let⟨vs,H1,I1,r1,q1⟩:=kq;let⟨j,e,q1,q2,q⟩:=q1;subst e
 cases r1 with
 |cons r rr=>
  cases rr
  let⟨t,rfl⟩:=r;exact call_range_1 (zks I1 ∅ ∅ q1 q2 (by simpa using q))
def yhk(wi:TI)(g:TG)(tb:TS):TS:=λD σ H=>wi σ H λJ H1=>∃W:Nat->Nat->St->Hp->Prop,(∃m,W 0 m σ H1)/\∀i m σ H,W i m σ H ->
 (J.stop i H/\D.nx σ H) \/ (J.go i H/\∃N:St->Hp->Prop,(∀σ' H',N σ' H'->∃m',m' < m/\W (i+1) m' σ' H')/\∀x H',J.yld i H x H'->g x σ H' λσ2 H2=>tb {D with nx:=N,ct:=N,bk:=D.nx} σ2 H2)
def ya6(fp:List AJ)(h:Aq):List (AJ×B7):=fp.filterMap λb=>(h.get? b).map λo=>(b,o)
def zbC{fp:List AJ}{h:Aq}{b:AJ}{o:B7}(hb:b∈fp)(e:h.get? b=AA o):(b,o)∈ya6 fp h:=EC.mpr ⟨b,hb,by rw[e];rfl⟩
def zig{fp:List AJ}{h:Aq}{p:AJ×B7}(hp:p∈ya6 fp h):p.1∈fp/\h.get? p.1=AA p.2:=by
 let⟨b,hb,e⟩:=EC.mp hp
 cases q:h.get? b with
 |none=>rw[q]at e;cases e
 |some o=>
  rw[q]at e;have e':(b,o)=p:=AY e;subst e';exact⟨hb,q⟩
theorem Inv.pinned{π:List (AJ×B7)}{σ:St}{H:Hp}{s:AK}{fp:List AJ}(I:Inv X π σ H s)(hf:∀b∈fp,ybb X π H b)(ho:∀b∈fp,∃o,s.heap.get? b=AA o/\∀v,o.data ≠ .cell v):Inv X (π++ya6 fp s.heap) σ H s:=
 I.pins_of λp hp=>(Bq.mp hp).elim (λz=>I.pin p (Av _ z)) λz=>by
  let⟨hb,e⟩:=zig z;let⟨f0,f1,f2,_⟩:=hf p.1 hb;let⟨o,e',d⟩:=ho p.1 hb;rw[e]at e';cases e';exact⟨e,f0,f1,f2,d⟩
theorem Inv.unpinned{π pl:List (AJ×B7)}{σ:St}{H:Hp}{s:AK}(I:Inv X (π++pl) σ H s):Inv X π σ H s:=I.pins_of λp hp=>I.pin p (Av _ (Cb _ hp))
def zo2{iter:AT}{body:List B9}{wi:TI}{g:TG}{tb:TS}{pos:CB}(hp:Eo (model X.prog X.w) X.A X.env X.xe)(hc:X.calm=AC)(hi:PI X tg iter wi)(hg:PG X tg g)(hb:PSs X body tb)
  (hs:∀x,foldedSetIterable iter X.env x=pure x:=by intro _;rfl):PS X (.For tg iter body [] pos) (yhk wi g tb):=by
 intro π s σ H D I h;refine wpAny_For (thn (hi π s σ H _ I h) λv s1 h1=>thn h1 λitv s2 h2=>?_) hs;let⟨it,fp,tn,J,H2,e,I2,T,st2,f2,W,⟨m0,w0⟩,turn⟩:=h2;subst e;have stat:∀{H':Hp},(∀b∈fp,H' b=AD)->∀b∈fp,ybb X π H' b:=λhn b hb=>⟨hn b hb,(f2 b hb).2⟩;refine codeAny_forLoop_any (λn s'=>∃i σ' H',Inv X π σ' H' s'/\tn i s'.heap/\(∀b∈fp,H' b=AD)/\W i n σ' H') ?_ m0 ⟨0,σ,H2,I2,st2,λb hb=>(f2 b hb).1,w0⟩
 rintro n s3 ⟨i,σ3,H3,I3,st3,fr3,w3⟩
 rcases turn i n σ3 H3 w3 with⟨stop,qn⟩|⟨go,N,hN,step⟩
 .refine CD hp (thn (T.done X rfl rfl rfl hc i π s3 σ3 H3 X.xe I3 (stat fr3) st3 stop) λr s4 kq=>?_);let⟨hr,I4⟩:=kq;subst hr;exact Cy ⟨σ3,H3,I4,qn⟩
 .refine CD hp (thn (T.item X rfl rfl rfl hc i π s3 σ3 H3 X.xe I3 (stat fr3) st3 go) λr s4 kq=>?_);let⟨u,hr,h4⟩:=kq;subst hr;refine CD hp (thn h4 λ_ s5 kq=>?_);let⟨x,H5,I5,r5,y5,st5,fr5⟩:=kq;have I5':=I5.pinned (stat fr5) (T.obj _ _ st5);refine CD hp (thn (hg _ s5 σ3 H5 x u _ I5' r5 (step x H5 y5)) λ_ s6 kq=>?_);let⟨σ6,H6,I6,q6⟩:=kq;refine CD hp (thn (hb _ s6 σ6 H6 _ I6 q6) λf s7 q7=>?_);have again:∀{σ7:St} {H7:Hp},Inv X (π++ya6 fp s5.heap) σ7 H7 s7->N σ7 H7->∃m,m<n/\∃i σ' H',Inv X π σ' H' s7/\tn i s7.heap/\(∀b∈fp,H' b=AD)/\W i m σ' H':=λ{σ7 H7} I7 n7=>by
   let⟨m',hm,w7⟩:=hN σ7 H7 n7;refine⟨m',hm,i+1,σ7,H7,I7.unpinned,T.keep _ _ _ st5 λb hb o e=>(I7.pin (b,o) (Av _ (Av _ (zbC hb e)))).1,λb hb=>?_,w7⟩;let⟨o,e,d⟩:=T.obj _ _ st5 b hb;exact(I7.pin (b,o) (Av _ (Av _ (zbC hb e)))).2.1
  cases f with
  |next=>let⟨σ7,H7,I7,n7⟩:=q7;exact again I7 n7
  |cont=>let⟨σ7,H7,I7,n7⟩:=q7;exact again I7 n7
  |brk=>let⟨σ7,H7,I7,q7⟩:=q7;exact⟨σ7,H7,I7.unpinned,q7⟩
  |ret v=>let⟨x7,σ7,H7,I7,r7,q7⟩:=q7;exact⟨x7,σ7,H7,I7.unpinned,r7,q7⟩
end
abbrev R2:=V->V->Hp->VK->Prop
def OpR(X:Cx)(f:AG->AG->Hh AG)(r:R2):Prop:=
 ∀(π:List (AJ×B7)) (s:AK) (σ:St) (H:Hp) (x y:V) (v u:AG) (Q:VK),Inv X π σ H s->RelV x v->RelV y u->r x y H Q ->
  A2 (model X.prog X.w) X.A (f v u) (EP X π σ Q) X.xe s
def UnR(X:Cx)(f:AG->Hh AG)(r:V->Hp->VK->Prop):Prop:=
 ∀(π:List (AJ×B7)) (s:AK) (σ:St) (H:Hp) (x:V) (v:AG) (Q:VK),Inv X π σ H s->RelV x v->r x H Q ->
  A2 (model X.prog X.w) X.A (f v) (EP X π σ Q) X.xe s
def yQ(X:Cx)(f:AG)(r:List V->Hp->VK->Prop):Prop:=
 ∀(π:List (AJ×B7)) (s:AK) (σ:St) (H:Hp) (xs:List V) (us:List AG) (Q:VK),Inv X π σ H s->Vals xs us->r xs H Q ->
  A2 (model X.prog X.w) X.A (call f us) (EP X π σ Q) X.xe s
def yhq(X:Cx)(r:V->Hp->(Bool->Hp->Prop)->Prop):Prop:=
 ∀(π:List (AJ×B7)) (s:AK) (σ:St) (H:Hp) (x:V) (v:AG) (Q:Bool->Hp->Prop),Inv X π σ H s->RelV x v->r x H Q ->
  A2 (model X.prog X.w) X.A (truthy v) (TP X π σ Q) X.xe s
def tOp(r:R2)(ta tb:TE):TE:=λσ H Q=>ta σ H λx H1=>tb σ H1 λy H2=>r x y H2 Q
def tUn(r:V->Hp->VK->Prop)(ta:TE):TE:=λσ H Q=>ta σ H λx H1=>r x H1 Q
def rI(C:Int->Int->Prop)(g:Int->Int->V):R2:=λx y H Q=>∃i j,x=.int i/\y=.int j/\C i j/\Q (g i j) H
def rI0(g:Int->Int->V):R2:=λx y H Q=>∃i j,x=.int i/\y=.int j/\Q (g i j) H
def rU(g:Int->V):V->Hp->VK->Prop:=λx H Q=>∃i,x=.int i/\Q (g i) H
section
variable {X:Cx}{a b c:AT}{ta tb tc:TE}{pos:CB}
def zlA(ha:PE X a ta)(hb:PE X b tb){π:List (AJ×B7)}{s:AK}{σ:St}{H:Hp}{R:V->V->Hp->Prop}(I:Inv X π σ H s)
  (h:ta σ H λx H1=>tb σ H1 λy H2=>R x y H2) {Q:AG->AK->Prop} {f:AG->AG->Hh AG}
  (hf:∀v u s2 x y H2,Inv X π σ H2 s2->RelV x v->RelV y u->R x y H2->A2 (model X.prog X.w) X.A (f v u) Q X.xe s2):
  A2 (model X.prog X.w) X.A (eval a X.env) (λv s₁=>A2 (model X.prog X.w) X.A (eval b X.env) (λu s₂=>A2 (model X.prog X.w) X.A (f v u) Q X.xe s₂) X.xe s₁) X.xe s:=by
 refine thn (ha π s σ H _ I h) λv s1 kq=>?_;let⟨x,H1,I1,r1,q1⟩:=kq;refine thn (hb π s1 σ H1 _ I1 q1) λu s2 kq=>?_;let⟨y,H2,I2,r2,q2⟩:=kq;exact hf v u s2 x y H2 I2 r1 r2 q2
def zl4{op:Da}{r:R2}(ho:OpR X (binaryOp op) r)(ha:PE X a ta)(hb:PE X b tb):PE X (.BinOp a op b pos) (tOp r ta tb):=by
 intro π s σ H Q I h;exact wpAny_BinOp (zlA ha hb I h λv u s2 x y H2 I2 rx ry q=>ho π s2 σ H2 x y v u Q I2 rx ry q)
def zqf{op:UnaryOp}{r:V->Hp->VK->Prop}(ho:UnR X (unaryOp op) r)(ha:PE X a ta):PE X (.UnaryOp op a pos) (tUn r ta):=by
 intro π s σ H Q I h;exact UnaryOp_ (thn (ha π s σ H _ I h) λv s1 ⟨x,H1,I1,r1,q1⟩=>ho π s1 σ H1 x v Q I1 r1 q1)
theorem opI{f:AG->AG->Hh AG}{C:Int->Int->Prop}{g:Int->Int->Int}
  (rule:∀(i j:Int) (t u:Hq) (s:AK) (Q:AG->AK->Prop) (E:AG->AK->Prop),C i j->Q (.int (g i j) s.toks) {s with toks:=s.toks+1}->A2 (model X.prog X.w) X.A (f (.int i t) (.int j u)) Q E s):
  OpR X f (rI C λi j=>.int (g i j)):=by
 intro π s σ H x y v u Q I rx ry h;let⟨i,j,rfl,rfl,hc,q⟩:=h;let⟨t,rfl⟩:=rx;let⟨t',rfl⟩:=ry;exact rule i j t t' s _ _ hc ⟨.int (g i j),H,I.tok _,⟨_,rfl⟩,q⟩
def zgZ{f:AG->AG->Hh AG}{g:Int->Int->Int}
  (rule:∀(i j:Int) (t u:Hq) (s:AK) (Q:AG->AK->Prop) (E:AG->AK->Prop),Q (.int (g i j) s.toks) {s with toks:=s.toks+1}->A2 (model X.prog X.w) X.A (f (.int i t) (.int j u)) Q E s):
  OpR X f (rI0 λi j=>.int (g i j)):=by
 intro π s σ H x y v u Q I rx ry h;let⟨i,j,rfl,rfl,q⟩:=h;let⟨t,rfl⟩:=rx;let⟨t',rfl⟩:=ry;exact rule i j t t' s _ _ ⟨.int (g i j),H,I.tok _,⟨_,rfl⟩,q⟩
def zjr{f:AG->AG->Hh AG}{g:Int->Int->Bool}
  (rule:∀(i j:Int) (t u:Hq) (s:AK) (Q:AG->AK->Prop) (E:AG->AK->Prop),Q (.bool (g i j)) s->A2 (model X.prog X.w) X.A (f (.int i t) (.int j u)) Q E s):
  OpR X f (rI0 λi j=>.bl (g i j)):=by
 intro π s σ H x y v u Q I rx ry h;let⟨i,j,rfl,rfl,q⟩:=h;let⟨t,rfl⟩:=rx;let⟨t',rfl⟩:=ry;exact rule i j t t' s _ _ ⟨.bl (g i j),H,I,rfl,q⟩
def ydU(i j:Int):Prop:=0<=j/\j<=1000000/\i.natAbs<2^64
def ydh(i j:Int):Prop:=(-(2^64)<i/\i<2^64) \/ (-(2^64)<j/\j<2^64)
theorem ydh.ok{i j:Int}(h:ydh i j):IntMulOk i j:=by
 rcases h with⟨h1,h2⟩|⟨h1,h2⟩
 .exact .of_left (intBits_le_64 h1 h2)
 .exact .of_right (intBits_le_64 h1 h2)
def zg9(k:Nat):(0:Int)<=2^k:=by
 rw[two_pow_cast];exact Int.natCast_nonneg _
def znj:OpR X (binaryOp .Add) (rI0 λi j=>.int (i+j)):=zgZ λ_ _ _ _ _ _ _ q=>add_int q
def znV:OpR X (binaryOp .Sub) (rI0 λi j=>.int (i-j)):=zgZ λ_ _ _ _ _ _ _ q=>sub_int q
def znq:OpR X (binaryOp .Mult) (rI ydh λi j=>.int (i*j)):=opI λ_ _ _ _ _ _ _ hc q=>mul_int q hc.ok
def znT:OpR X (binaryOp .Mod) (rI (λ_ j=>0<j) λi j=>.int (i%j)):=opI λi j _ _ _ _ _ hc q=>by
 have h1:(0:Int)<j:=hc;exact mod_int' ∅ (by rw[Int.fmod_eq_emod_of_nonneg i ∅];exact q)
def znm:OpR X (binaryOp .Pow) (rI ydU λi j=>.int (i^j.toNat)):=opI λ_ _ _ _ _ _ _ hc q=>pow_int_small hc.1 hc.2.1 hc.2.2 q
def zpv:OpR X (binaryOp .LShift) (rI ydU λi j=>.int (i*2^j.toNat)):=opI λ_ _ _ _ _ _ _ hc q=>lshift_int_small hc.1 hc.2.1 hc.2.2 q
def zoo:OpR X (binaryOp .RShift) (rI (λ_ j=>0<=j) λi j=>.int (i/2^j.toNat)):=opI λi j _ _ _ _ _ hc q=>
 rshift_int hc (by rw[ED i (zg9 _)];exact q)
def zpp:OpR X (binaryOp .BitAnd) (rI0 λi j=>.int (Ar i j)):=zgZ λ_ _ _ _ _ _ _ q=>and_int q
def zpU:OpR X (binaryOp .BitOr) (rI0 λi j=>.int (B3 i j)):=zgZ λ_ _ _ _ _ _ _ q=>or_int q
def zou:OpR X (binaryOp .BitXor) (rI0 λi j=>.int (B4 i j)):=zgZ λ_ _ _ _ _ _ _ q=>xor_int q
theorem unI{f:AG->Hh AG}{g:Int->Int}
  (rule:∀(i:Int) (t:Hq) (s:AK) (Q:AG->AK->Prop) (E:AG->AK->Prop),Q (.int (g i) s.toks) {s with toks:=s.toks+1}->A2 (model X.prog X.w) X.A (f (.int i t)) Q E s):
  UnR X f (rU λi=>.int (g i)):=by
 intro π s σ H x v Q I rx h;let⟨i,rfl,q⟩:=h;let⟨t,rfl⟩:=rx;exact rule i t s _ _ ⟨.int (g i),H,I.tok _,⟨_,rfl⟩,q⟩
def zom:UnR X (unaryOp .USub) (rU λi=>.int (-i)):=unI λ_ _ _ _ _ q=>neg_int q
def zh7:OpR X (binaryOp .Add) (λx y H Q=>∃i k,x=.int i/\y=.bl k/\Q (.int (i+b2i k)) H):=by
 intro π s σ H x y v u Q I rx ry h;let⟨i,k,rfl,rfl,q⟩:=h;let⟨t,rfl⟩:=rx
 cases ry
 exact add_int_bool ⟨.int (i+b2i k),H,I.tok _,⟨_,rfl⟩,q⟩
end
section
variable {X:Cx}{a b c:AT}{ta tb tc:TE}{pos:CB}
def ziM{π:List (AJ×B7)}{σ:St}{H:Hp}{s:AK}{Q:VK}{k k':Bool}(I:Inv X π σ H s)(q:Q (.bl k) H)(e:k=k'):EP X π σ Q (.bool k') s:=by
 subst e;exact⟨.bl k,H,I,rfl,q⟩
def zp5:OpR X (compareOp .Lt) (rI0 λi j=>.bl (decide (i<j))):=zjr λ_ _ _ _ _ _ _ q=>lt_int q
def zp4:OpR X (compareOp .LtE) (rI0 λi j=>.bl (decide (i<=j))):=zjr λ_ _ _ _ _ _ _ q=>le_int q
def zpO:OpR X (compareOp .Gt) (rI0 λi j=>.bl (decide (j<i))):=zjr λ_ _ _ _ _ _ _ q=>gt_int q
def zqe:OpR X (compareOp .GtE) (rI0 λi j=>.bl (decide (j<=i))):=zjr λ_ _ _ _ _ _ _ q=>ge_int q
def zhy:OpR X (compareOp .Lt) (λx y H Q=>∃i j,x=.str i/\y=.str j/\Q (.bl (decide (i.cps.toList<j.cps.toList))) H):=by
 intro π s σ H x y v u Q I rx ry h;let⟨i,j,rfl,rfl,q⟩:=h;let⟨t,rfl⟩:=rx;let⟨t',rfl⟩:=ry;exact lt_str (ziM I q rfl)
def zic:OpR X (compareOp .In) (λx y H Q=>∃i j,x=.str i/\y=.str j/\Q (.bl (!(Ep j i 0 j.length 1).isEmpty)) H):=by
 intro π s σ H x y v u Q I rx ry h;let⟨i,j,rfl,rfl,q⟩:=h;let⟨t,rfl⟩:=rx;let⟨t',rfl⟩:=ry;exact in_str (ziM I q rfl)
def zeB{op:Fw}{r:R2}(ho:OpR X (compareOp op) r)(ha:PE X a ta)(hb:PE X b tb)(hm:behindInMarks op b=AB):PE X (.Compare a [op] [b] pos) (tOp r ta tb):=by
 intro π s σ H Q I h;exact wpAny_Compare1 (zlA ha hb I h λv u s2 x y H2 I2 rx ry q=>ho π s2 σ H2 x y v u Q I2 rx ry q) hm
def ydd(t:TE):TT:=λσ H Q=>t σ H λx H'=>∃k,x=.bl k/\Q k H'
def zfR{op:Fw}{r:R2}(ho:OpR X (compareOp op) r)(ha:PE X a ta)(hb:PE X b tb)(hm:behindInMarks op b=AB):PT X (.Compare a [op] [b] pos) (ydd (tOp r ta tb)):=by
 intro π s σ H Q I h;refine wpAny_isTrue_Compare1 (thn (ha π s σ H _ I h) λv s1 ⟨x,H1,I1,r1,q1⟩=>thn (hb π s1 σ H1 _ I1 q1) λu s2 ⟨y,H2,I2,r2,q2⟩=>
  thn (ho π s2 σ H2 x y v u _ I2 r1 r2 q2) λc s3 ⟨z,H3,I3,r3,k,e,q3⟩=>?_) hm
 subst e
 cases r3
 exact BO ⟨H3,I3,q3⟩
def ycp(r r':R2)(ta tb tc:TE):TE:=λσ H Q=>ta σ H λx H1=>tb σ H1 λy H2=>r x y H2 λz H3=>∃k,z=.bl k /\
 (if k=AC then tc σ H3 λw' H4=>r' y w' H4 Q else Q (.bl AB) H3)
def zj3{op op':Fw}{r r':R2}(ho:OpR X (compareOp op) r)(ho':OpR X (compareOp op') r')(ha:PE X a ta)(hb:PE X b tb)(hc:PE X c tc)
  (hm:lastMarks [op,op'] [b,c]=false:=by ac_rfl):PE X (.Compare a [op,op'] [b,c] pos) (ycp r r' ta tb tc):=by
 intro π s σ H Q I h;refine Compare_chain (thn (ha π s σ H _ I h) λv s1 ⟨x,H1,I1,r1,q1⟩=>chain_link (thn (hb π s1 σ H1 _ I1 q1) λu s2 ⟨y,H2,I2,r2,q2⟩=>
  thn (ho π s2 σ H2 x y v u _ I2 r1 r2 q2) λd s3 ⟨z,H3,I3,r3,k,e,q3⟩=>?_)) hm
 subst e
 cases r3
 refine BO ?_
 cases k with
 |false=>exact ite_ff ⟨.bl AB,H3,I3,rfl,q3⟩
 |true=>exact ite_tt (chain_last (thn (hc π s3 σ H3 _ I3 q3) λw' s4 ⟨z',H4,I4,r4,q4⟩=>ho' π s4 σ H4 y z' u w' Q I4 r2 r4 q4))
def zkt{op op':Fw}{r r':R2}(ho:OpR X (compareOp op) r)(ho':OpR X (compareOp op') r')(ha:PE X a ta)(hb:PE X b tb)(hc:PE X c tc)
  (hm:lastMarks [op,op'] [b,c]=false:=by ac_rfl):PT X (.Compare a [op,op'] [b,c] pos) (ydd (ycp r r' ta tb tc)):=by
 intro π s σ H Q I h;refine isTrue_chain (thn (ha π s σ H _ I h) λv s1 ⟨x,H1,I1,r1,q1⟩=>test_link (thn (hb π s1 σ H1 _ I1 q1) λu s2 ⟨y,H2,I2,r2,q2⟩=>
  thn (ho π s2 σ H2 x y v u _ I2 r1 r2 q2) λd s3 ⟨z,H3,I3,r3,k,e,q3⟩=>?_)) hm
 subst e
 cases r3
 refine BO ?_
 cases k with
 |false=>
  let⟨k',e',q'⟩:=q3
  cases e'
  exact ite_ff ⟨H3,I3,q'⟩
 |true=>
  refine ite_tt (test_last (thn (hc π s3 σ H3 _ I3 q3) λw' s4 kq=>?_));let⟨z',H4,I4,r4,q4⟩:=kq;refine thn (ho' π s4 σ H4 y z' u w' _ I4 r2 r4 q4) λd' s5 kq=>?_;let⟨z2,H5,I5,r5,k2,e2,q5⟩:=kq;subst e2
  cases r5
  exact BO ⟨H5,I5,q5⟩
def yeT(K:AF)(x:V)(H:Hp)(k:Bool):Prop:=
 match x with
 |.non=>k=AB
 |.bl b=>k=b
 |.int i=>k=(i != 0)
 |.str y=>y.length<=sizeLine/\k=((y.length:Int) != 0)
 |.byt y=>y.size<=sizeLine/\k=((y.size:Int) != 0)
 |.ref p=>(∃xs,SqL K H p xs/\k=!xs.isEmpty) \/ (∃xs,SqT K H p xs/\k=!xs.isEmpty) \/ ∃kvs,H p=AA (.dK kvs)/\k=!kvs.isEmpty
 |_=>False
def zgX{κ:Type}{kvs:List (κ×V)}{vs:List (κ×AG)}(r:KV kvs vs):(!vs.isEmpty)=!kvs.isEmpty:=by
 cases r<;>rfl
def zd2{xs:List V}{its:List AG}(r:Vals xs its):(!its.toArray.isEmpty)=!xs.isEmpty:=by
 cases r<;>simp
def zgL:(sizeLine:Nat)<2^63:=by rw[BP];decide
def zon:yhq X (λx H Q=>∃k,yeT X.K x H k/\Q k H):=by
 intro π s σ H x v Q I rx h;let⟨k,e,q⟩:=h;have hl:=zgL;have hs:sizeLine=16777216:=BP
 cases x with
 |non=>
  cases rx
  have e':k=false:=e;subst e';exact truthy_none ⟨H,I,q⟩
 |bl b=>
  cases rx
  have e':k=b:=e;subst e';exact BO ⟨H,I,q⟩
 |int i=>
  let⟨t,rfl⟩:=rx;have e':k=(i != 0):=e;subst e';exact PySem.P.truthy_int ⟨H,I,q⟩
 |str y=>
  let⟨t,rfl⟩:=rx;obtain⟨hy,e'⟩:y.length<=sizeLine/\k=((y.length:Int) != 0):=e;subst e';exact PySem.P.truthy_str ∅ ⟨H,I.tok _,q⟩
 |byt y=>
  let⟨t,rfl⟩:=rx;obtain⟨hy,e'⟩:y.size<=sizeLine/\k=((y.size:Int) != 0):=e;subst e';exact PySem.W.truthy_bytes ∅ ⟨H,I.tok _,q⟩
 |ref p=>
  cases rx
  have e':(∃xs,SqL X.K H p xs/\k=!xs.isEmpty) \/ (∃xs,SqT X.K H p xs/\k=!xs.isEmpty) \/ ∃kvs,H p=AA (.dK kvs)/\k=!kvs.isEmpty:=e;rcases e' with⟨xs,hx,e'⟩|⟨xs,hx,e'⟩|⟨kvs,hx,e'⟩
  .subst e';let⟨its,r,pl,hz⟩:=I.list hx;have hlen:=r.length;exact wpAny_truthy_list pl.isList (by erw[AS];lia) ⟨H,I.tok _,by rw[zd2 r];exact q⟩
  .subst e';let⟨its,r,pl,hz⟩:=I.tuple hx;have hlen:=r.length;exact truthy_tuple pl (by erw[AS];lia) ⟨H,I.tok _,by rw[zd2 r];exact q⟩
  .subst e';obtain⟨hz,hS,vs,r,m⟩:kvs.length<=sizeLine/\(p==sysModules)=AB/\∃vs,KV kvs vs/\s.heap.DictOf (yL X.prog X.w) p vs:=I.hok p _ hx;have hlen:kvs.length=vs.length:=Ee r;exact wpAny_truthy_dict hS m ∅ ⟨H,I.tok _,by rw[zgX r];exact q⟩
 |_=>exact(show False from e).elim
def zjw(ha:PE X a ta)(he:∀whole,isTrue a X.env whole=(do let v <-whole;standAt a.pos;holding [v] (truthy v))):
  PT X a (λσ H Q=>ta σ H λx H'=>∃k,yeT X.K x H' k/\Q k H'):=by
 intro π s σ H Q I h;exact isTrue_plain (thn (ha π s σ H _ I h) λv s1 ⟨x,H1,I1,r1,q1⟩=>zon π s1 σ H1 x v Q I1 r1 q1) (he _)
def zgN:OpR X (binaryOp .Add) (λx y H Q=>∃i j,x=.str i/\y=.str j/\i.length+j.length<=sizeLine/\Q (.str (i++j)) H):=by
 intro π s σ H x y v u Q I rx ry h;let⟨i,j,rfl,rfl,hz,q⟩:=h;let⟨t,rfl⟩:=rx;let⟨t',rfl⟩:=ry;exact add_str (λt' tk=>⟨.str (i++j),H,I.tok _,⟨_,rfl⟩,q⟩) hz
theorem vals1{x:V}{us:List AG}(r:Vals [x] us):∃u,us=[u]/\RelV x u:=by
 cases r with
 |cons r1 r2=>cases r2;exact⟨_,rfl,r1⟩
theorem vals2{x y:V}{us:List AG}(r:Vals [x,y] us):∃u w',us=[u,w']/\RelV x u/\RelV y w':=by
 cases r with
 |cons r1 r2=>
  cases r2 with
  |cons r3 r4=>cases r4;exact⟨_,_,rfl,r1,r3⟩
def zjK:yQ X (.builtin "abs") (λxs H Q=>∃i,xs=[.int i]/\Q (.int (if i<0 then -i else i)) H):=by
 intro π s σ H xs us Q I r h;let⟨i,rfl,q⟩:=h;let⟨u,rfl,t,rfl⟩:=vals1 r;exact call_abs_int λu tk=>⟨.int (if i<0 then -i else i),H,I.tok _,⟨_,rfl⟩,q⟩
def zhO(hc:X.calm=AC):yQ X (.builtin "max") (λxs H Q=>∃i j,xs=[.int i,.int j]/\Q (.int (if j > i then j else i)) H):=by
 intro π s σ H xs us Q I r h;let⟨i,j,rfl,q⟩:=h;let⟨u,w',rfl,⟨t,rfl⟩,⟨t',rfl⟩⟩:=vals2 r;refine max_two_ints (I.ok.hd hc) λh' tk k=>⟨_,H,I.kept k,?_,q⟩
 by_cases hj:j > i
 .rw[if_pos hj,if_pos hj];exact⟨_,rfl⟩
 .rw[if_neg hj,if_neg hj];exact⟨_,rfl⟩
def zfb:yQ X (.type "int") (λxs H Q=>(∃i,xs=[.int i]/\Q (.int i) H) \/ ∃k,xs=[.bl k]/\Q (.int (if k then 1 else 0)) H):=by
 intro π s σ H xs us Q I r h;rcases h with⟨i,rfl,q⟩|⟨k,rfl,q⟩
 .let⟨u,rfl,t,rfl⟩:=vals1 r;exact call_int_int ⟨.int i,H,I,⟨_,rfl⟩,q⟩
 .let⟨u,rfl,r1⟩:=vals1 r
  cases r1
  exact call_int_bool ⟨.int (if k then 1 else 0),H,I.tok _,⟨_,rfl⟩,q⟩
end
structure ycE(h:Aq)(x dx C:AJ)(mA:AL->Option AG):Prop where
 obj:h.get? x=AA (Bp C dx)
 ns:h.Ns1 dx mA
 ne:dx≠x
def zh9{h:Aq}{dx:AJ}{mA:AL->Option AG}(n:h.Ns1 dx mA):∃od,h.get? dx=AA od/\∀name,EF name od=AA (mA name):=by
 let⟨o,es,ep,ho,hd,hk,_,hm⟩:=n;refine⟨o,ho,λname=>?_⟩;have e:=hm name;unfold nsFind findBy at e;rw[<-Array.find?_toList]at e;unfold EF;rw[hd];dsimp only;split
 .rename_i y q;rw[q]at e;exact congrArg AA e
 .rename_i q;rw[q]at e;have a:es.toList.any (·.refKey)=false:=by
   rw[List.any_eq_false];intro y hy;let⟨z,t,hkey⟩:=hk y (Array.mem_toList_iff.mp hy);simp[DictEntry.refKey,hkey]
  have a':¬es.toList.any (·.refKey)=true:=by rw[a];exact Ai
  rw[if_neg a'];exact congrArg AA e
theorem ycE.look{h:Aq}{x dx C:AJ}{mA:AL->Option AG}(I:ycE h x dx C mA):∃od,PySem.W.InstAt h x (Bp C dx) C (AA od)/\∀name,EF name od=AA (mA name):=
 let ⟨od,ho,hl⟩:=zh9 I.ns
 ⟨od,⟨I.obj,rfl,rfl,ho⟩,hl⟩
section
variable {prog:A4}{w:Af}{A:Ag}{E:AG->AK->Prop}{s:AK}{K:AF}{x dx C f:AJ}{mA:AL->Option AG}{name:AL}{v:AG}
def zmP{expr:Bool}{Q:AG->AK->Prop}(X:K.In s.heap)(I:ycE s.heap x dx C mA)(hg:Ci K C name=AC)(hh:DE K C=AC)
  (ha:Aa K (.ref C) name=AA AD) (hv:mA name=AA v) (hv':Gi v=AC) (h:Q v {s with toks:=s.toks+1}):
  A2 (model prog w) A (getAttr (.ref x) name expr) Q E s:=by
 let⟨od,J,hl⟩:=I.look;exact PySem.W.get_value X J (Ds hg).1 (PySem.W.findObj_own hh ha rfl (by rw[hl,hv])) hv' h
def zjo{pl:Hh Bool}{Q:AG×List AG->AK->Prop}(X:K.In s.heap)(I:ycE s.heap x dx C mA)(hg:Ci K C name=AC)
  (hf:Aa K (.ref C) name=AA (AA (.ref f))) (ht:Cj K (.ref f)=AC) (hv:mA name=AD) (h:Q (.ref f,[.ref x]) s):
  A2 (model prog w) A (getMethod (.ref x) name pl) Q E s:=by
 let⟨od,J,hl⟩:=I.look;exact PySem.W.method_fn X J (Ds hg).1 (Ds hg).2 hf (beq_iff_eq.mp ht) (by show (EF name od).map (·.isSome)=AA AB;rw[hl,hv];rfl) h
def zm9{ns:List AL}{Q:Unit->AK->Prop}(X:K.In s.heap)(I:ycE s.heap x dx C mA)
  (hs:Aa K (.ref C) "__setattr__"=AA (AA (.builtin "object.__setattr__"))) (hp:EX K C=AC) (ht:FP K C name=AA AD) (hh:DE K C=AC)
  (hw:GU mA ns) (hsz:ns.length<=sizeLine)
  (h:∀h',ycE h' x dx C (λy=>if y=name then AA v else mA y)->C1 dx s.heap h'->Q () {s with heap:=h',toks:=s.toks+2}):
  A2 (model prog w) A (setAttr (.ref x) name v) Q E s:=by
 let⟨od,J,hl⟩:=I.look;refine PySem.W.set_plain X J hs (PySem.W.osa_open (s:={s with toks:=s.toks+1}) (r:=AD) X J hp ht λb=>?_);let⟨cd,hc,hd'⟩:=PySem.W.any_some hh;have hx:s.heap.get? x=AA ⟨.ref C,AA dx,.plain,#[]⟩:=I.obj;refine AI (AV (AI (AI (wpAny_loadPart hx (AI (IQ (s:={s with toks:=s.toks+1}) (PySem.W.looks_clsIn X hc) ?_))))));rw[hd'];refine AV (a:=AA dx) (AI (AV (AI ?_)));refine wpAny_nsSet1 (s:={s with toks:=s.toks+1}) I.ns λh' hn2 hs2=>?_;let⟨oD,esD,epD,hoD,hdD,hcD⟩:=hn2.count (IU name v hw);refine AI (wpAny_lookBehind hoD (by rw[hdD];exact pastItsLine_dict (As hcD (by rw[A1];lia))) ?_);exact AV (h _ ⟨(hs2.2 _ (Au I.ne)).trans I.obj,hn2,I.ne⟩ hs2)
def zjh{R:GJ->AK->Prop}{vs:List AG}{kw:List (AL×AG)}(X:K.In s.heap)(hm:Dl K C=AC)
  (hi:Aa K (.ref C) "__init__"=AA (AA (.ref f))) (hf:PySem.W.typeIn K (.ref f)=AA (.type "function"))
  (h:codeAny (model prog w) (A.under (.builtin "type.__call__" ⟨.ref C::vs,kw⟩)) (.call (.ref f) ⟨.ref (s.heap.objs.size+1)::vs,kw⟩) (PySem.W.InitBack (s.heap.objs.size+1) R)
   {s with heap:=(s.heap.push BW).push (Bp C s.heap.objs.size)}):
  codeAny (model prog w) A (.call (.ref C) ⟨vs,kw⟩) R s:=by
 let⟨hh,g,d,t,os⟩:=s;exact PySem.W.make_core (PySem.W.makes_of X hm) (Cc X hi) (λself=>PySem.W.bind_fn X self hf) (.inl rfl) h
end
def yaQ(f:AL)(v:V):List (AL×V)->List (AL×V)
 |[]=>[(f,v)]
 |(g,x)::r=>if g=f then(g,v)::r else(g,x)::yaQ f v r
def zdB(f g:AL)(v:V):∀fs:List (AL×V),(yaQ f v fs).lookup g=if g=f then AA v else fs.lookup g
 |[]=>by
  show Bg g [(f,v)]=_
  by_cases h:g=f
  .have hb:(g==f)=true:=beq_iff_eq.mpr h;erw[Bg,hb,if_pos h]
  .have hb:(g==f)=false:=beq_eq_false_iff_ne.mpr h;erw[Bg,hb,if_neg h]
 |(k,x)::r=>by
  have ih:=zdB f g v r;rw[show yaQ f v ((k,x)::r)=(if k=f then(k,v)::r else(k,x)::yaQ f v r)from rfl]
  by_cases hk:k=f
  .rw[if_pos hk]
   by_cases h:g=k
   .have hb:(g==k)=true:=beq_iff_eq.mpr h;erw[Bg,hb,if_pos (h.trans hk)]
   .have hb:(g==k)=false:=beq_eq_false_iff_ne.mpr h;erw[Bg,hb,if_neg (λe:g=f=>h (e.trans hk.symm))]
  .rw[if_neg hk]
   by_cases h:g=k
   .have hb:(g==k)=true:=beq_iff_eq.mpr h;erw[Bg,hb,if_neg (λe:g=f=>hk (h.symm.trans e))]
   .have hb:(g==k)=false:=beq_eq_false_iff_ne.mpr h;erw[Bg,hb];exact ih
def zdH(f:AL)(v:V):∀fs:List (AL×V),f∈(yaQ f v fs).map (·.1)/\∀g,g∈fs.map (·.1)->g∈(yaQ f v fs).map (·.1)
 |[]=>⟨by simp[yaQ],λg h=>by simp at h⟩
 |(k,x)::r=>by
  let⟨i1,i2⟩:=zdH f v r;rw[show yaQ f v ((k,x)::r)=(if k=f then(k,v)::r else(k,x)::yaQ f v r)from rfl]
  by_cases hk:k=f
  .rw[if_pos hk];subst hk;exact⟨by simp,λg h=>by simpa using h⟩
  .rw[if_neg hk];refine⟨?_,λg h=>?_⟩
   .rw[AU];exact AQ _ i1
   .rw[AU]at h ⊢;rcases AX.mp h with e|e
    .exact AX.mpr (.inl e)
    .exact AQ _ (i2 g e)
def zdr(f:AL)(v:V):∀fs:List (AL×V),(yaQ f v fs).length<=fs.length+1
 |[]=>by simp[yaQ]
 |(k,x)::r=>by
  have ih:=zdr f v r;rw[show yaQ f v ((k,x)::r)=(if k=f then(k,v)::r else(k,x)::yaQ f v r)from rfl]
  by_cases hk:k=f
  .rw[if_pos hk,A1,A1];lia
  .rw[if_neg hk,A1,A1];lia
theorem ya9.some_of{v:V}{o:Option AG}(r:ya9 (AA v) o):∃u,o=AA u/\RelV v u:=by
 cases o with
 |none=>exact(show False from r).elim
 |some u=>exact⟨u,rfl,r⟩
theorem ya9.none_of{o:Option AG}(r:ya9 AD o):o=none:=by
 cases o with
 |none=>rfl
 |some u=>exact(show False from r).elim
def zhk{v:V}{u:AG}(r:RelV v u):Gi u=true:=by
 cases v with
 |non=>cases (show u=Bo from r);rfl
 |bl b=>cases (show u=Dy b from r);rfl
 |int i=>let⟨t,e⟩:=(show ∃t,u=En i t from r);cases e;rfl
 |str x=>let⟨t,e⟩:=(show ∃t,u=Gg x t from r);cases e;rfl
 |byt b=>let⟨t,e⟩:=(show ∃t,u=IJ b t from r);cases e;rfl
 |flt b=>let⟨t,e⟩:=(show ∃t,u=IK b t from r);cases e;rfl
 |ref a=>cases (show u=A7 a from r);rfl
 |ty n=>cases (show u=FF n from r);rfl
section
variable {P:A4}{w:Af}{H H':Hp}{h h':Aq}{a C dx:AJ}{fs fs':List (AL×V)}
def zfV(hok:HOk P w H h)(e:H a=AA (.ins C dx fs)):∃mA,ycE h a dx C mA/\(∀f,ya9 (fs.lookup f) (mA f))/\GU mA (fs.map (·.1))/\fs.length<=1000/\H dx=AA (.own a):=by
 let⟨d,z,ne,ob,mA,n,r,q⟩:=(show yM P w H h a (.ins C dx fs)from hok a _ e);exact⟨mA,⟨ob,n,ne⟩,r,q,z,d⟩
end
structure Cls(K:AF)(C:AJ):Prop where
 pg:Ci K C DA=AC
 hd:DE K C=AC
 po:EX K C=AC
 sa:Aa K (.ref C) "__setattr__"=AA (AA (.builtin "object.__setattr__"))
theorem Cls.get{K:AF}{C:AJ}(c:Cls K C)(f:AL):Ci K C f=true:=c.pg
def yac(K:AF)(C:AJ)(f:AL):Prop:=Aa K (.ref C) f=AA AD
theorem yac.taker{K:AF}{C:AJ}{f:AL}(n:yac K C f):FP K C f=AA none:=by
 unfold FP;rw[show Aa K (.ref C) f=AA AD from n];rfl
structure Con(K:AF)(C:AJ)(f:AL)(v:V)(u:AG):Prop where
 at_:Aa K (.ref C) f=AA (AA u)
 rel:RelV v u
 get:PySem.W.specialIn K u "__get__"=AA AD
 cp:PySem.W.copiedNames.contains f=AB
structure Meth(K:AF)(C:AJ)(m:AL)(f:AJ):Prop where
 at_:Aa K (.ref C) m=AA (AA (.ref f))
 fn:Cj K (.ref f)=AC
 kp:Ab K (.ref f)=AC
section
variable {X:Cx}{π:List (AJ×B7)}{σ:St}{H:Hp}{s:AK}{a C dx:AJ}{fs:List (AL×V)}{f:AL}{v:V}{A:Ag}{E:AG->AK->Prop}
def zei{b:Bool}{Q:AG->AK->Prop}(I:Inv X π σ H s)(e:H a=AA (.ins C dx fs))(c:Cls X.K C)(n:yac X.K C f)(l:fs.lookup f=AA v)
  (h:∀u s',Inv X π σ H s'->RelV v u->Q u s'):A2 (model X.prog X.w) A (getAttr (.ref a) f b) Q E s:=by
 let⟨mA,O,r,_,_,_⟩:=zfV I.hok e;let⟨u,hu,ru⟩:=ya9.some_of (v:=v) (o:=mA f) (by rw[<-l];exact r f);exact zmP I.kIn O (c.get f) c.hd n hu (zhk ru) (h u _ (I.tok _) ru)
def zeh{m:AL}{g:AJ}{pl:Hh Bool}{Q:AG×List AG->AK->Prop}(I:Inv X π σ H s)(e:H a=AA (.ins C dx fs))(c:Cls X.K C)(k:Meth X.K C m g)(l:fs.lookup m=AD)
  (h:Q (.ref g,[.ref a]) s):A2 (model X.prog X.w) A (getMethod (.ref a) m pl) Q E s:=by
 let⟨mA,O,r,_,_,_⟩:=zfV I.hok e;have hn:mA m=none:=ya9.none_of (by rw[<-l];exact r m);exact zjo I.kIn O (c.get m) k.at_ k.fn hn h
def zdV{y:V}{u:AG}{Q:Unit->AK->Prop}(I:Inv X π σ H s)(e:H a=AA (.ins C dx fs))(c:Cls X.K C)(n:yac X.K C f)(hl:fs.length<1000)(ry:RelV y u)
  (h:∀s',Inv X π σ (upd H a (.ins C dx (yaQ f y fs))) s'->Q () s'):A2 (model X.prog X.w) A (setAttr (.ref a) f u) Q E s:=by
 let⟨mA,O,r,wi,_,ho⟩:=zfV I.hok e;have hz:(fs.map (·.1)).length<=sizeLine:=by rw[Ap,BP];lia
 refine zm9 I.kIn O c.sa c.po n.taker c.hd wi hz λh' O' sb=>h _ ?_;have hd:∃o,h'.get? dx=AA o:=let ⟨o,_,_,e',_⟩:=O'.ns;⟨o,e'⟩
 refine I.write (x:=a) (e:=dx) (by rw[e];exact C2) (.inr ho) (λb q hb z=>(sb.2 b hb).trans z) hd ?_;refine⟨by rw[zd O.ne];exact ho,?_,O.ne,O'.obj,_,O'.ns,λg=>?_,λg hg=>?_⟩
 .have:=zdr f y fs;lia
 .show ya9 ((yaQ f y fs).lookup g) (if g=f then AA u else mA g);rw[zdB]
  by_cases q:g=f
  .rw[if_pos q,if_pos q];exact ry
  .rw[if_neg q,if_neg q];exact r g
 .by_cases q:g=f
  .rw[q];exact(zdH f y fs).1
  .refine(zdH f y fs).2 g (wi g λz=>hg ?_);show (if g=f then AA u else mA g)=AD;rw[if_neg q];exact z
theorem Inv.made(I:Inv X π σ H s):Inv X π σ (upd (upd H s.heap.objs.size (.own (s.heap.objs.size+1))) (s.heap.objs.size+1) (.ins C s.heap.objs.size []))
  {s with heap:=(s.heap.push BW).push (Bp C s.heap.objs.size)}:=by
 have e1:(s.heap.push BW).get? s.heap.objs.size=AA BW:=A3 s.heap rfl;have e2:((s.heap.push BW).push (Bp C s.heap.objs.size)).get? (s.heap.objs.size+1)=AA (Bp C s.heap.objs.size):=by
  have:=A3 (s.heap.push BW) (o:=Bp C s.heap.objs.size) rfl
  rwa [Bi]at this
 have e3:(s.heap.push BW).Ns s.heap.objs.size (λ_=>AD):=⟨BW,#[],_,e1,rfl,(λe he=>absurd he (by simp)),λ_=>rfl⟩;have I1:=I.laid (a:=s.heap.objs.size) (o:=.own (s.heap.objs.size+1)) (h':=s.heap.push BW) (t':=s.toks) (λb u q=>AO _ q) (AR _) ⟨_,e1⟩;refine I1.laid (a:=s.heap.objs.size+1) (o:=.ins C s.heap.objs.size []) (t':=s.toks) (λb u q=>AO _ q) (Hx (Bi _ _)) ?_;have ne:s.heap.objs.size≠s.heap.objs.size+1:=Ah (Gj _);refine⟨by rw[zd ne,zm],DB _,ne,e2,λ_=>AD,(Heap.Ns1.of_empty e3).at λo q=>AO _ q,λ_=>C2,λy hy=>absurd rfl hy⟩
def zmC{prog:A4}{w:Af}{env:Env}{e:AT}{f:AL}{pos:CB}{s:AK}{Q:AG->AK->Prop}(hb:attributeBase e f env (eval e env)=eval e env)
  (h:A2 (model prog w) A (eval e env) (λo s₁=>A2 (model prog w) A (getAttr o f AC) Q E s₁) E s):A2 (model prog w) A (eval (.Attribute e f pos) env) Q E s:=
 Attribute_any_ h (by rw[arm_eval_Attribute,hb])
end
def yfD(K:AF)(ta:TE)(f:AL):TE:=λσ H Q=>ta σ H λx H1=>∃a C dx fs v,x=.ref a/\H1 a=AA (.ins C dx fs)/\Cls K C/\yac K C f/\fs.lookup f=AA v/\Q v H1
def ygm(K:AF)(ta tv:TE)(f:AL):TS:=λD σ H=>tv σ H λy H1=>ta σ H1 λx H2=>∃a C dx fs,x=.ref a/\H2 a=AA (.ins C dx fs)/\Cls K C/\yac K C f/\fs.length<1000 /\
 D.nx σ (upd H2 a (.ins C dx (yaQ f y fs)))
def yfs(X:Cx)(op:Da)(rd:V->V->Hp->VK->Prop):Prop:=
 ∀(π:List (AJ×B7)) (s:AK) (σ:St) (H:Hp) (x y:V) (u v:AG) (Q:VK),Inv X π σ H s->RelV x u->RelV y v->rd x y H Q->A2 (model X.prog X.w) X.A (inplaceOp op u v) (EP X π σ Q) X.xe s
def ycv(K:AF)(ta tv:TE)(rd:V->V->Hp->VK->Prop)(f:AL):TS:=λD σ H=>ta σ H λx H1=>∃a C dx fs v,x=.ref a/\H1 a=AA (.ins C dx fs)/\Cls K C/\yac K C f/\fs.lookup f=AA v /\
 tv σ H1 λy H2=>rd v y H2 λz H3=>∃dx' fs',H3 a=AA (.ins C dx' fs')/\fs'.length<1000/\D.nx σ (upd H3 a (.ins C dx' (yaQ f z fs')))
section
variable {X:Cx}{o e value:AT}{f:AL}{pos pos' tpos:CB}{ta tv:TE}
def zoF(he:PE X e ta)(hb:attributeBase e f X.env (eval e X.env)=eval e X.env):PE X (.Attribute e f pos) (yfD X.K ta f):=by
 intro π s σ H Q I h;refine zmC hb (thn (he π s σ H _ I h) λu s1 kq=>?_);let⟨x,H1,I1,rx,a,C,dx,fs,v,ex,ea,c,n,l,q⟩:=kq;subst ex;obtain rfl:u=A7 a:=rx;exact zei I1 ea c n l λu' s2 I2 ru=>⟨v,H1,I2,ru,q⟩
def zpt(ha:PE X o ta)(hv:PE X value tv)(hs:swapsWith value (AA (.Attribute o f pos')) pos.line X.env=pure AB):PS X (.Assign [.Attribute o f pos'] value pos) (ygm X.K ta tv f):=by
 intro π s σ H D I h;refine plainObj_wpAny_Assign_Attribute (thn (hv π s σ H _ I h) λu s1 kq=>?_) hs;let⟨y,H1,I1,ry,q⟩:=kq;refine thn (ha π s1 σ H1 _ I1 q) λov s2 kq=>?_;let⟨x,H2,I2,rx,a,C,dx,fs,ex,ea,c,n,l,q2⟩:=kq;subst ex;obtain rfl:ov=A7 a:=rx;exact zdV I2 ea c n l ry λs3 I3=>⟨σ,_,I3,q2⟩
def ziV{op:Da}{rd:V->V->Hp->VK->Prop}(ha:PE X o ta)(hv:PE X value tv)(hop:yfs X op rd):PS X (.AugAssign (.Attribute o f tpos) op value pos) (ycv X.K ta tv rd f):=by
 intro π s σ H D I h;refine wpAny_AugAssign_AttributeAny (thn (ha π s σ H _ I h) λov s1 kq=>?_);let⟨x,H1,I1,rx,a,C,dx,fs,v,ex,ea,c,n,l,q⟩:=kq;subst ex;obtain rfl:ov=A7 a:=rx;refine zei I1 ea c n l λu s2 I2 ru=>thn (hv π s2 σ H1 _ I2 q) λw3 s3 kq=>?_;let⟨y,H2,I3,ry,q3⟩:=kq;refine thn (hop π s3 σ H2 v y u w3 _ I3 ru ry q3) λw4 s4 kq=>?_;let⟨z,H3,I4,rz,dx',fs',ea',l',q4⟩:=kq;exact zdV I4 ea' c n l' rz λs5 I5=>⟨σ,_,I5,q4⟩
def ygD:V->V->Hp->VK->Prop:=λx y H Q=>∃i j,x=.int i/\y=.int j/\Q (.int (i+j)) H
def zoz:yfs X .Add ygD:=by
 rintro π s σ H x y u v Q I rx ry ⟨i,j,rfl,rfl,q⟩
 let⟨t,rfl⟩:=(show ∃t,u=En i t from rx);let⟨t',rfl⟩:=(show ∃t',v=En j t' from ry);exact HL ⟨.int (i+j),H,I.tok _,⟨_,rfl⟩,q⟩
end
section
variable {X:Cx}{π:List (AJ×B7)}{σ:St}{H:Hp}{s:AK}{A:Ag}{E:AG->AK->Prop}{Q:AG->AK->Prop}{c:AG}{b:Bool}
end
structure yah(k:Nat)(A:Ag):Prop where
 hd:A.handled=AD
 dp:A.depth+3*k+5<recursionLimit
 un:A.units+16*k+200<cLine
theorem yah.mono{j k:Nat}{A:Ag}(r:yah k A)(h:j<=k):yah j A:=⟨r.hd,by have:=r.dp;lia,by have:=r.un;lia⟩
theorem yah.deeper{k:Nat}{A:Ag}(r:yah (k+1) A)(env:Env):yah k (A.deeper env):=
 ⟨r.hd,by have:=r.dp;show A.depth+1+3*k+5<_;lia,by have:=r.un;show A.units+3+16*k+200<_;lia⟩
def zha{A:Ag}{C:AJ}{us:List AG}{kw:List (AL×AG)}:(A.under (.builtin "type.__call__" ⟨.ref C::us,kw⟩)).depth=A.depth+1:=by
 first|rfl|simp[GX,Code.weight,Code.isCreation,Code.isGuard,Code.isCaller,IL,GY,guardIds]
def zg7{A:Ag}{C:AJ}{us:List AG}{kw:List (AL×AG)}:(A.under (.builtin "type.__call__" ⟨.ref C::us,kw⟩)).units=A.units+1:=by
 first|rfl|simp[GX,Code.cUnits,IL,GY]
theorem yah.make{k:Nat}{A:Ag}(r:yah (k+1) A)(C:AJ)(us:List AG)(kw:List (AL×AG)):yah k (A.under (.builtin "type.__call__" ⟨.ref C::us,kw⟩)):=
 ⟨r.hd,by have:=r.dp;rw[zha];lia,by have:=r.un;rw[zg7];lia⟩
theorem yah.depth{k:Nat}{A:Ag}(r:yah k A):A.depth<recursionLimit:=by have:=r.dp;lia
def ydE:TA:=λ_ H Q=>Q [] H
def ydA(ta:TE)(tr:TA):TA:=λσ H Q=>ta σ H λx H1=>tr σ H1 λxs H2=>Q (x::xs) H2
section
variable {X:Cx}{e:AT}{es:List AT}{te:TE}{t:TA}{pos:CB}
def zf2:PA X [] ydE:=λ_ _ _ _ H Q I h=>GZ ⟨[],H,I,.nil,h⟩
def zaj(ha:PE X e te)(hr:PA X es t)(hs:starEach (e::es) X.env=(AB,eval e X.env)::starEach es X.env:=by rfl):PA X (e::es) (ydA te t):=by
 intro pos π s σ H Q I h;rw[hs];show A2 _ _ (spliced ((AB,eval e X.env)::backTo pos (starEach es X.env))) _ _ s;refine EG (thn (ha π s σ H _ I h) λu s1 kq=>?_);let⟨x,H1,I1,r1,q1⟩:=kq;exact thn (hr pos π s1 σ H1 _ I1 q1) λus s2 ⟨xs,H2,I2,r2,q2⟩=>⟨x::xs,H2,I2,.cons r1 r2,q2⟩
def yg2(t:TA):TE:=λσ H Q=>t σ H λxs H1=>xs.length<=sizeLine/\∀p,H1 p=AD->Q (.ref p) (upd H1 p (.tup xs))
def yhf(t:TA):TE:=λσ H Q=>t σ H λxs H1=>xs.length<=sizeLine/\∀p,H1 p=AD->Q (.ref p) (upd H1 p (.lst xs))
def zk3{x1}(h:PA X es t):PE X (.Tuple es x1 pos) (yg2 t):=by
 intro π s σ H Q I hq;refine wpAny_Tuple_spliced (thn (h pos π s σ H _ I hq) λus s1 kq=>?_);let⟨xs,H1,I1,r,z,q⟩:=kq;refine ⟨by rw[<-r.length];exact z,?_⟩;have hf:H1 s1.heap.objs.size=none:=I1.hok.fresh (AR _);refine⟨.ref s1.heap.objs.size,upd H1 s1.heap.objs.size (.tup xs),I1.laid (t':=s1.toks) (λb u e=>AO _ e) (AR _) ?_,rfl,q _ hf⟩;exact⟨z,us,r,⟨_,A3 _ rfl,rfl,_,rfl⟩⟩
def zk1(h:PA X es t):PE X (.List es pos) (yhf t):=by
 intro π s σ H Q I hq;refine wpAny_List_spliced (thn (h pos π s σ H _ I hq) λus s1 kq=>?_);let⟨xs,H1,I1,r,z,q⟩:=kq;refine ⟨by rw[<-r.length];exact z,?_⟩;have hf:H1 s1.heap.objs.size=none:=I1.hok.fresh (AR _);refine⟨.ref s1.heap.objs.size,upd H1 s1.heap.objs.size (.lst xs),I1.laid (t':=s1.toks) (λb u e=>AO _ e) (AR _) ?_,rfl,q _ hf⟩;exact⟨z,us,0,r,A3 _ rfl⟩
end
abbrev Sp:=List V->Hp->VK->XK->Prop
abbrev CXT:=List Env->Hp->AK->XK->AG->AK->Prop
structure yb5(P:A4)(w:Af)(K:AF)(mg:AL->Option AG)(base:Aq)(A:Ag)(outer:List Env)(s:AK)(H:Hp):Prop where
 frames:A.frames=AA outer
 mod:Mod K mg base
 bs:∀b o,base.get? b=AA o->s.heap.get? b=AA o/\H b=AD
 bsz:base.objs.size<=s.heap.objs.size
 funs:s.heap.FunFrames base outer
 frf:∀b∈frs outer,H b=AD
 hok:HOk P w H s.heap
 bare:DD s.gens
def CE(outer:List Env)(P:A4)(w:Af)(H:Hp)(s:AK)(Q:VK)(u:AG)(s':AK):Prop:=
 ∃v H',s'.os=s.os/\DD s'.gens/\Un (frs outer) [] H H' s.heap s'.heap/\HOk P w H' s'.heap/\RelV v u/\Q v H'
def CR(CX:CXT)(outer:List Env)(P:A4)(w:Af)(H:Hp)(s:AK)(Q:VK)(E:XK)(r:GJ)(s':AK):Prop:=
 match r with
 |.ok (.ret u)=>CE outer P w H s Q u s'
 |.ok _=>False
 |.error e=>CX outer H s E e s'
structure yaA(P:A4)(w:Af)(K:AF)(mg:AL->Option AG)(base:Aq)(CX:CXT)(k:Nat)(f:AJ)(fd:Ao)(ps:List AL)(sp:Sp):Prop where
 len:∀vs H Q E,sp vs H Q E->vs.length=ps.length
 run:∀(A:Ag) (outer:List Env) (s:AK) (H:Hp) (args:Args) (us:List AG) (vs:List V) (Q:VK) (E:XK),yah k A->yb5 P w K mg base A outer s H->EY s fd args (ps.zip us)->Vals vs us->sp vs H Q E ->
  codeAny (model P w) A (.call (.ref f) args) (CR CX outer P w H s Q E) s
theorem yaA.imp{P:A4}{w:Af}{K:AF}{mg:AL->Option AG}{base:Aq}{CX:CXT}{k:Nat}{f:AJ}{fd:Ao}{ps:List AL}{sp sp':Sp}(F:yaA P w K mg base CX k f fd ps sp)
  (h:∀vs H Q E,sp' vs H Q E->sp vs H Q E):yaA P w K mg base CX k f fd ps sp':=
 ⟨λvs H Q E q=>F.len vs H Q E (h _ _ _ _ q),λA outer s H args us vs Q E hr he hb hv hs=>F.run A outer s H args us vs Q E hr he hb hv (h _ _ _ _ hs)⟩
theorem yb5.make{P:A4}{w:Af}{K:AF}{mg:AL->Option AG}{base:Aq}{A:Ag}{outer:List Env}{s:AK}{H:Hp}(e:yb5 P w K mg base A outer s H)(C:AJ)(us:List AG)(kw:List (AL×AG)):
  yb5 P w K mg base (A.under (.builtin "type.__call__" ⟨.ref C::us,kw⟩)) outer s H:=⟨by first|exact e.frames|(simpa [GX,Code.envs,GY,pushEnvs] using e.frames),e.mod,e.bs,e.bsz,e.funs,e.frf,e.hok,e.bare⟩
section
variable {X:Cx}{π:List (AJ×B7)}{σ:St}{H:Hp}{s s':AK}
theorem Inv.env0(I:Inv X π σ H s):yb5 X.prog X.w X.K X.mg X.base X.A X.stack s H:=
 ⟨I.ok.frames,I.ok.mod,I.bs,As I.ok.bsz I.sz,I.stack,I.stkFree,I.hok,I.bare⟩
theorem Inv.after{Q:VK}{u:AG}(I:Inv X π σ H s)(h:CE X.stack X.prog X.w H s Q u s'):EP X π σ Q u s':=by
 let⟨v,H',os,bare,un,hok,r,q⟩:=h;let⟨hh,g,d,t,os'⟩:=s';obtain rfl:os'=s.os:=os;exact⟨v,H',I.call (h':=hh) (g':=g) (d':=d) (t':=t) (ch:=[]) un hok bare (λb z=>absurd z (by simp)),r,q⟩
end
def yeM(C:AJ)(sp:Sp)(dvs:List V)(E:XK)(t:TA):TE:=λσ H Q=>t σ H λvs H1=>∀x dx,H1 x=AD->H1 dx=AD->dx≠x ->
 sp (.ref x::(vs++dvs)) (upd (upd H1 dx (.own x)) x (.ins C dx [])) (λv H2=>v=.non/\Q (.ref x) H2) E
def Binds(K:AF)(fd:Ao)(ps:List AL)(ds:List AG):Prop:=
 ∀(s:AK) (us:List AG),K.In s.heap->(us++ds).length=ps.length->EY s fd ⟨us,[]⟩ (ps.zip (us++ds))
theorem Binds.all{K:AF}{fd:Ao}{ps:List AL}(h:∀us:List AG,us.length=ps.length->bindArgs fd ⟨us,[]⟩=pure (ps.zip us)):Binds K fd ps []:=λs us _ hl=>by
 rw[Br]at hl ⊢;exact .of_eq (h us hl)
def ybq(CX:CXT)(X:Cx)(E:XK):Prop:=∀(π:List (AJ×B7)) (σ:St) (H:Hp) (s:AK) (e:AG) (s':AK),Inv X π σ H s->CX X.stack H s E e s'->X.xe e s'
section
variable {X:Cx}{CX:CXT}{k:Nat}{f C:AJ}{fd:Ao}{ps:List AL}{sp:Sp}{dvs:List V}{ds:List AG}{E:XK}{x m:AL}{p pos apos:CB}{e o:AT}{es:List AT}{ta:TE}{t:TA}
structure Mk(K:AF)(C f:AJ):Prop where
 makes:Dl K C=AC
 init:Aa K (.ref C) "__init__"=AA (AA (.ref f))
 fn:Cj K (.ref f)=AC
 kp:Ab K (.ref C)=AC
def zky{π:List (AJ×B7)}{σ:St}{H:Hp}{s:AK}{Q:VK}{us:List AG}{vs:List V}(M:Mk X.K C f)(F:yaA X.prog X.w X.K X.mg X.base CX k f fd ps sp)(hr:yah (k+1) X.A)(hb:Binds X.K fd ps ds)(hd:Vals dvs ds)
  (hx:ybq CX X E) (I:Inv X π σ H s) (r:Vals vs us)
  (h:∀x dx,H x=AD->H dx=AD->dx≠x->sp (.ref x::(vs++dvs)) (upd (upd H dx (.own x)) x (.ins C dx [])) (λv H2=>v=.non/\Q (.ref x) H2) E):
  A2 (model X.prog X.w) X.A (call (.ref C) us) (EP X π σ Q) X.xe s:=by
 have hq:=h (s.heap.objs.size+1) s.heap.objs.size (I.hok.fresh (CK _)) (I.hok.fresh (AR _)) (Ah (Gj _));have I2:=Inv.made (C:=C) I;have r2:Vals (V.ref (s.heap.objs.size+1)::(vs++dvs)) (A7 (s.heap.objs.size+1)::(us++ds)):=.cons rfl (r.append hd);have hl:(A7 (s.heap.objs.size+1)::us++ds).length=ps.length:=by
  have e:=r2.length;rw[F.len _ _ _ _ hq]at e;exact e.symm
 refine GL (zjh (f:=f) I.kIn M.makes M.init (beq_iff_eq.mp M.fn) (DF (F.run _ X.stack _ _ ⟨A7 (s.heap.objs.size+1)::us,[]⟩ (A7 (s.heap.objs.size+1)::(us++ds)) _ _ E (hr.make C us [])
  (I2.env0.make C us []) (hb _ (A7 (s.heap.objs.size+1)::us) I2.kIn hl) r2 hq) λr s' hq'=>?_))
 cases r with
 |error e=>exact hx π σ _ _ e s' I2 hq'
 |ok fl=>
  cases fl with
  |ret u=>
   let⟨v,H',I3,rv,ev,q3⟩:=I2.after hq';subst ev;exact⟨rv,⟨V.ref (s.heap.objs.size+1),H',I3,rfl,q3⟩⟩
  |next=>exact BH hq'
  |brk=>exact BH hq'
  |cont=>exact BH hq'
def zms(M:Mk X.K C f)(F:yaA X.prog X.w X.K X.mg X.base CX k f fd ps sp)(hr:yah (k+1) X.A)(hg:Gl X x)(hm:X.mg x=AA (.ref C))(hb:Binds X.K fd ps ds)(hd:Vals dvs ds)(hx:ybq CX X E)
  (ha:PA X (e::es) t) (hdb:(x==("__debug__":AL))=false:=by decide) (he:starEach (e::es) X.env=(AB,eval e X.env)::starEach es X.env:=by rfl) (hpl:(backTo pos (starEach es X.env)).any (·.1)=false:=by rfl):
  PE X (.Call (.Name x p) (e::es) [] pos) (yeM C sp dvs E t):=by
 intro π s σ H Q I h;refine BI (zbi I hg hm ?_ hdb);refine C3 (h₀:=X.base) I.ok.mod.kin M.kp (thn (ha pos π s σ H _ I h) λus s1 kq=>?_) he hpl;let⟨vs,H1,I1,r,q⟩:=kq;refine ⟨I1.kIn,?_⟩;exact zky M F hr hb hd hx I1 r q
end
def PK(X:Cx)(kws:List B8)(t:TA):Prop:=
 ∀(pos:CB) (π:List (AJ×B7)) (s:AK) (σ:St) (H:Hp) (Q:List V->Hp->Prop),Inv X π σ H s->t σ H Q->A2 (model X.prog X.w) X.A (evalAll ((backToKw pos (keywordEach kws X.env)).map (·.2))) (AP X π σ Q) X.xe s
section
variable {X:Cx}{CX:CXT}{k:Nat}{f C:AJ}{fd:Ao}{ps ks:List AL}{sp:Sp}{E:XK}{x m:AL}{p pos apos kpos:CB}{e o:AT}{es:List AT}{kws:List B8}{te ta:TE}{t tk:TA}{nm:Option AL}
def zqx:PK X [] ydE:=λ_ _ _ _ H Q I h=>wpAny_evalAll_nil ⟨[],H,I,.nil,h⟩
def zlr(ha:PE X e te)(hr:PK X kws t):PK X (⟨nm,e,kpos⟩ :: kws) (ydA te t):=by
 intro pos π s σ H Q I h;show A2 _ _ (evalAll ((do let v <-eval e X.env;standAt pos;pure v)::(backToKw pos (keywordEach kws X.env)).map (·.2))) _ _ s;refine wpAny_evalAll_cons (AI (thn (ha π s σ H _ I h) λu s1 kq=>?_));let⟨x,H1,I1,r1,q1⟩:=kq;refine AI (Ef (AV ?_));exact thn (hr pos π s1 σ H1 _ I1 q1) λus s2 ⟨xs,H2,I2,r2,q2⟩=>⟨x::xs,H2,I2,.cons r1 r2,q2⟩
structure ybn(K:AF)(fd:Ao)(ps ks:List AL)(g:List AG->List AG->List AG)(gV:List V->List V->List V):Prop where
 to:∀(s:AK) (us ws:List AG),K.In s.heap->(g us ws).length=ps.length->EY s fd ⟨us,ks.zip ws⟩ (ps.zip (g us ws))
 rel:∀{vs:List V} {us:List AG} {zs:List V} {ws:List AG},Vals vs us->Vals zs ws->Vals (gV vs zs) (g us ws)
variable {g:List AG->List AG->List AG}{gV:List V->List V->List V}
end
structure yaw(N P:List AL)(sc:BZ):Prop where
 kind:sc.kind=.function
 co:sc.isCoroutine=AB
 gen:sc.isGenerator=AB
 nd:N.Nodup
 pre:N.take P.length=P
 par:∀x∈P,sc.names.lookup x=AA .local \/ sc.names.lookup x=AA .cell
 nofree:∀y∈sc.names,y.2 ≠ .free
def ze7{kindOf:AL->Option DG}{x:AL}:∀{binds:List (AL×AG)} {m:AL->Option AG},(∀v,(x,v)∉binds)->bindL kindOf binds m x=m x
 |[],_,_=>rfl
 |(n,v)::r,m,h=>by
  unfold bindL;rw[ze7 λw hw=>h w (AQ _ hw)];split
  .have:x≠n:=by rintro rfl;exact h v A8
   simp[this]
  .rfl
def zeV{kindOf:AL->Option DG}{x:AL}:∀{binds:List (AL×AG)} {m:AL->Option AG},(∀v,(x,v)∉binds)->bindC kindOf binds m x=m x
 |[],_,_=>rfl
 |(n,v)::r,m,h=>by
  unfold bindC;rw[zeV λw hw=>h w (AQ _ hw)];split
  .rfl
  .have:x≠n:=by rintro rfl;exact h v A8
   simp[this]
def zft{kindOf:AL->Option DG}{x:AL}{v:AG}:∀{P:List AL} {vs:List AG} {i:Nat} {m:AL->Option AG},P.Nodup->P[i]?=AA x->vs[i]?=AA v->kindOf x=AA .local ->
  bindL kindOf (P.zip vs) m x=AA v
 |[],_,_,_,_,h,_,_=>by simp at h
 |_::_,[],_,_,_,_,h,_=>by simp at h
 |p::P,w::vs,0,m,nd,h1,h2,hk=>by
  simp at h1 h2;subst h1;subst h2;show bindL kindOf ((p,w)::P.zip vs) m p=_;unfold bindL;rw[ze7 λv hv=>(Dm.mp nd).1 (Dn hv).1,if_pos hk];simp
 |p::P,w::vs,i+1,m,nd,h1,h2,hk=>by
  show bindL kindOf ((p,w)::P.zip vs) m x=_;unfold bindL;exact zft (i:=i) (Dm.mp nd).2 (by simpa using h1) (by simpa using h2) hk
def zeS{kindOf:AL->Option DG}{x:AL}{v:AG}:∀{P:List AL} {vs:List AG} {i:Nat} {m:AL->Option AG},P.Nodup->P[i]?=AA x->vs[i]?=AA v->kindOf x≠AA .local ->
  bindC kindOf (P.zip vs) m x=AA v
 |[],_,_,_,_,h,_,_=>by simp at h
 |_::_,[],_,_,_,_,h,_=>by simp at h
 |p::P,w::vs,0,m,nd,h1,h2,hk=>by
  simp at h1 h2;subst h1;subst h2;show bindC kindOf ((p,w)::P.zip vs) m p=_;unfold bindC;rw[zeV λv hv=>(Dm.mp nd).1 (Dn hv).1,if_neg hk];simp
 |p::P,w::vs,i+1,m,nd,h1,h2,hk=>by
  show bindC kindOf ((p,w)::P.zip vs) m x=_;unfold bindC;exact zeS (i:=i) (Dm.mp nd).2 (by simpa using h1) (by simpa using h2) hk
def start(N:List AL)(vs:List V):St:=vs.map AA++AM (N.length-vs.length) AD
def yaE(CX:CXT)(P:A4)(w:Af)(K:AF)(mg:AL->Option AG)(base:Aq)(N:List AL)(qual:AL)(scope:BZ)(f:AJ)(cd:AG)(A:Ag)(outer:List Env)(s:AK)(H:Hp)(E:XK):Cx where
 prog:=P
 w:=w
 K:=K
 mg:=mg
 base:=base
 A:=A.deeper (envOfC qual scope s.heap.objs.size f cd)
 N:=N
 s₀:=s
 H₀:=H
 env:=envOfC qual scope s.heap.objs.size f cd
 outer:=outer
 stack:=envOfC qual scope s.heap.objs.size f cd::outer
 ex:=[]
 calm:=AC
 fn:=λ_=>AC
 pn:=[]
 xe:=λe s'=>A2 (model P w) (A.deeper (envOfC qual scope s.heap.objs.size f cd)) («leaving» (envOfC qual scope s.heap.objs.size f cd) e) (λ_ s''=>CX outer H s E e s'') (λe' s''=>CX outer H s E e' s'') s'
def zgy{sc:BZ}{n:Nat}{x:AL}(h:sc.names.lookup x=AA .cell):∃c,(cellsFrom n sc.names []).lookup x=AA c:=by
 have q:=DH sc.names n [] (.inl h);exact Ad.mp q
def ze8{CX:CXT}{P:A4}{w:Af}{K:AF}{mg:AL->Option AG}{base:Aq}{N ps:List AL}{qual:AL}{scope:BZ}{f:AJ}{cd:AG}{A:Ag}{outer:List Env}{s s1:AK}{H:Hp}{E:XK}{us:List AG}{vs:List V}
  (S:yaw N ps scope) (hd:A.handled=AD) (e0:yb5 P w K mg base A outer s H) (hl:vs.length=ps.length) (r:Vals vs us)
  (x:InCallC s s.heap.objs.size (bindL (envOfC qual scope s.heap.objs.size f cd).kindOf (ps.zip us) λ_=>AD) (cellsFrom (s.heap.objs.size+1) scope.names []) (bindC (envOfC qual scope s.heap.objs.size f cd).kindOf (ps.zip us) λ_=>AD) s1):
  Inv (yaE CX P w K mg base N qual scope f cd A outer s H E) [] (start N vs) H s1:=by
 have hpl:ps.length<=N.length:=by have:=congrArg CY S.pre;rw[D0]at this;lia
 let⟨h1,tk,rfl,hk⟩:=x.done;have noA:∀b:AJ,b∉(yaE CX P w K mg base N qual scope f cd A outer s H E).ex:=λb z=>absurd (show b∈([]:List AJ)from z) (by simp);refine⟨⟨e0.mod,S.kind,rfl,rfl,AR _,λy z c h1 h2=>?_,λy hy=>?_,λy c _ h=>?_,λ_=>hd,Around.frames_deeper e0.frames,.inr ⟨rfl,rfl⟩,λb z=>absurd z (noA b),e0.bs,e0.bsz,λb _ _=>noA b,λb z=>absurd z (noA b),e0.funs,e0.frf⟩,
  rfl,e0.bare,Un.kept hk,⟨_,x.toInCall.ns,λi y v h1 h2 h3=>?_⟩,λy c h=>⟨_,x.cell y c h⟩,e0.hok.fresh (AR _),λy c h=>?_,λp hp=>absurd (show p∈([]:List (AJ×B7))from hp) (by simp),e0.hok.kept hk,?_⟩
 .exact name_of_addr x.apart (CT h1) (CT h2)
 .have hy:scope.names.lookup y=AA .cell \/ scope.names.lookup y=AA .free:=hy;rcases hy with hy|hy
  .exact zgy hy
  .exact absurd rfl (S.nofree _ (CT hy))
 .exact GV (x.above y c (CT h))
 .have hi:i<vs.length:=by
   unfold start at h2
   by_cases hi:i<vs.length
   .exact hi
   .rw[Ak (by simpa using hi)]at h2;rw[Es]at h2;split at h2<;>cases h2
  have ha:vs[i]?=AA v:=by
   unfold start at h2;rw[Ae (by simpa using hi),Bk]at h2
   cases e:vs[i]? with
   |none=>rw[e]at h2;cases h2
   |some a=>rw[e]at h2;cases h2;rfl
  let⟨u,hu,rv⟩:=r.get ha;have hp:ps[i]?=AA y:=by
   rw[<-S.pre,List.getElem?_take_of_lt ∅];exact h1
  have ndP:ps.Nodup:=by rw[<-S.pre];exact S.nd.sublist (List.take_sublist _ _)
  refine⟨u,rv,?_⟩;rcases S.par y (AW hp)with k|k
  .exact .inl ⟨k,zft ndP hp hu k⟩
  .let⟨c,e⟩:=zgy (n:=s.heap.objs.size+1) k;refine .inr ⟨.inl k,c,e,?_⟩;have q:=x.cell y c e;rw[zeS ndP hp hu (by show scope.names.lookup y≠_;rw[k];decide)]at q;exact q
 .exact e0.hok.fresh (GV (x.above y c (CT h)))
 .unfold start;show _=N.length;rw[A6,Ap,List.length_replicate];lia
def zpN{CX:CXT}{P:A4}{w:Af}{K:AF}{mg:AL->Option AG}{base:Aq}{k:Nat}{f:AJ}{name qual:AL}{params:Arguments}{body:List B9}{scope:BZ}{dV kV doc pm cdv ct oc:AG}{an od:Option AJ}
  {osl:Array (Option AG)} {N ps:List AL} {sp:Sp} (lk:K.lookup f=AA ⟨oc,od,.func (BS name qual params body scope dV kV doc pm an cdv ct),osl⟩) (hcd:Bz K cdv qual=AC) (S:yaw N ps scope)
  (len:∀vs H Q E,sp vs H Q E->vs.length=ps.length)
  (hbody:∀(A:Ag) (outer:List Env) (s:AK) (H:Hp) (vs:List V) (Q:VK) (E:XK),yah k (A.deeper (envOfC qual scope s.heap.objs.size f cdv))->sp vs H Q E ->
   ∃t,PSs (yaE CX P w K mg base N qual scope f cdv A outer s H E) body t/\t {nx:=λ_ H'=>Q .non H',rt:=Q} (start N vs) H):
  yaA P w K mg base CX (k+1) f (BS name qual params body scope dV kV doc pm an cdv ct) ps sp:=by
 refine⟨len,λA outer s H args us vs Q E hr e0 hb r hsp=>?_⟩;have hl:=len _ _ _ _ hsp;have KX:K.In s.heap:=e0.mod.kin.keeps λb o e=>(e0.bs b o e).1;have lim:s.heap.NoLimit:=e0.mod.nolimit.keeps λb o e=>(e0.bs b o e).1;have hkind:∀y∈ps.zip us,scope.names.lookup y.1=AA .local \/ (scope.names.lookup y.1=AA .cell/\((cellsFrom (s.heap.objs.size+1) scope.names []).lookup y.1).isSome=AC):=λ⟨n,v⟩ hy=>by
  rcases S.par n (Dn hy).1 with q|q
  .exact .inl q
  .exact .inr ⟨q,DH _ _ _ (.inl q)⟩
 refine FV hr.depth (KX _ _ lk) rfl S.co S.gen rfl (GM KX hcd) (hb _ _ _ _ ?_);refine EH S.kind hkind λenv he s1 x=>?_;subst he;refine⟨lim.keeps x.toInCall.keep,codeAny_func ?_⟩;let⟨t,ht,hq⟩:=hbody A outer s H vs Q E (hr.deeper _) hsp;have I:Inv (yaE CX P w K mg base N qual scope f cdv A outer s H E) [] (start N vs) H s1:=ze8 S hr.hd e0 hl r x;refine Bb (ht [] s1 (start N vs) H _ I hq) (λfl s' hs=>?_) λe s' hs=>hs;have fin:∀{σ':St} {H':Hp} {v:V} {u:AG},Inv (yaE CX P w K mg base N qual scope f cdv A outer s H E) [] σ' H' s'->RelV v u->Q v H'->CE outer P w H s Q u s':=
  λ{σ' H' v u} J rv q=>⟨v,H',J.os,J.bare,J.base,J.hok,rv,q⟩
 cases fl with
 |ret u=>
  let⟨v,σ',H',J,rv,q⟩:=hs;exact fin J rv q
 |next=>
  let⟨σ',H',J,q⟩:=hs;exact fin (v:=V.non) (u:=Bo) J rfl q
 |brk=>
  let⟨_,_,_,q⟩:=hs;exact BH q
 |cont=>
  let⟨_,_,_,q⟩:=hs;exact BH q
section
variable {X:Cx}{x:AL}{p pos:CB}{e:AT}{es:List AT}{t:TA}{id T:String}{r:List V->Hp->VK->Prop}
def tCB(r:List V->Hp->VK->Prop)(t:TA):TE:=λσ H Q=>t σ H λvs H1=>r vs H1 Q
def zcZ(hc:yQ X (.builtin id) r)(hg:Gl X x)(hm:X.mg x=AD)(hv:bootBuiltins x=AA (.builtin id))(ha:PA X (e::es) t)(hn:x ≠ "__name__":=by decide)(hdb:(x==("__debug__":AL))=false:=by decide)
  (he:starEach (e::es) X.env=(AB,eval e X.env)::starEach es X.env:=by rfl) (hpl:(backTo pos (starEach es X.env)).any (·.1)=false:=by rfl):PE X (.Call (.Name x p) (e::es) [] pos) (tCB r t):=by
 intro π s σ H Q I h;refine BI (zdW I hg hm hv ?_ hn hdb);exact Gk (thn (ha pos π s σ H _ I h) λus s1 ⟨vs,H1,I1,r1,q1⟩=>hc π s1 σ H1 vs us Q I1 r1 q1) he hpl
def zfc(hc:yQ X (.type T) r)(hg:Gl X x)(hm:X.mg x=AD)(hv:bootBuiltins x=AA (.type T))(ha:PA X (e::es) t)(hn:x ≠ "__name__":=by decide)(hdb:(x==("__debug__":AL))=false:=by decide)
  (he:starEach (e::es) X.env=(AB,eval e X.env)::starEach es X.env:=by rfl) (hpl:(backTo pos (starEach es X.env)).any (·.1)=false:=by rfl):PE X (.Call (.Name x p) (e::es) [] pos) (tCB r t):=by
 intro π s σ H Q I h;refine BI (zdW I hg hm hv ?_ hn hdb);exact Bw (thn (ha pos π s σ H _ I h) λus s1 ⟨vs,H1,I1,r1,q1⟩=>hc π s1 σ H1 vs us Q I1 r1 q1) he hpl
end
end L2
namespace HT
open PySem PyProof.Rows
section
open PySem.SeqAt
open PySem.AutoSeq1 (wpAny_loadPart')
open PySem.MeetsSeq PySem.MeetsSeq2 PySem.MeetsSeq3
end
section
variable {prog:A4}{w:Af}{A:Ag}{E:AG->AK->Prop}{s:AK}
theorem cat_tup{t b:AJ}{vs ws:List AG}{Q:AG->AK->Prop}(ht:Hr s.heap t vs.toArray)(hb:Hr s.heap b ws.toArray)(hv:vs≠[])
  (h1:ws=[]->Q (.ref t) s) (h2:ws≠[]->Q (.ref s.heap.objs.size) {s with heap:=s.heap.push {cls:=.type "tuple",data:=.seq (vs++ws).toArray} })
  (hsz:vs.length+ws.length<=sizeLine):A2 (model prog w) A (binaryOp .Add (.ref t) (.ref b)) Q E s:=by
 let⟨⟨cls,dd,data,sl⟩,ho,hc,n,hd⟩:=id ht;let⟨⟨cls2,dd2,data2,sl2⟩,ho2,hc2,n2,hd2⟩:=id hb;simp only at hc hd hc2 hd2;subst hc hd hc2 hd2;have e:vs.toArray++ws.toArray=(vs++ws).toArray:=by simp
 by_cases hw:ws=[]
 .exact G0 ⟨_,ho,rfl⟩ ⟨_,ho2,rfl⟩ Et Fx DI DC (Ct _ _)
   (tuple_addW1 t b vs.toArray ws.toArray n n2 dd dd2 sl sl2 (by simpa using hv) (by simp[hw])) ⟨ho,ho2,h1 hw⟩
 .refine G0 ⟨_,ho,rfl⟩ ⟨_,ho2,rfl⟩ Et Fx DI DC (Ct _ _)
   (tuple_addW2 t b vs.toArray ws.toArray n n2 dd dd2 sl sl2 (by simpa using hv) (by simpa using hw) (by rw[AS,AS];exact hsz)) ⟨ho,ho2,?_⟩
  rw[e];exact h2 hw
def sIx(n d:Nat):Option Int->Nat
 |none=>d
 |some v=>if v<0 then(v+(n:Int)).toNat else min v.toNat n
theorem sIx_le(n d:Nat)(hd:d<=n)(o:Option Int):sIx n d o<=n:=by
 cases o with
 |none=>exact hd
 |some v=>
  show (if v<0 then(v+(n:Int)).toNat else min v.toNat n)<=n
  by_cases hv:v<0
  .rw[if_pos hv];lia
  .rw[if_neg hv];exact Nat.min_le_right _ _
def ziF(v:Int)(n d:Nat):(if v<0 then max (v+(n:Int)) 0 else min v (n:Int))=((sIx n d (AA v):Nat):Int):=by
 show (if v<0 then max (v+(n:Int)) 0 else min v (n:Int))=(((if v<0 then(v+(n:Int)).toNat else min v.toNat n):Nat):Int)
 by_cases hv:v<0
 .simp only[if_pos hv];lia
 .simp only[if_neg hv];lia
def zgK(lo hi:Option Int)(n:Nat):Co lo hi 1 (n:Int)=(((sIx n 0 lo:Nat):Int),((sIx n n hi:Nat):Int)):=by
 have h1:¬((1:Int)<0):=by lia
 unfold Co;erw[h1,if_false];refine Prod.ext ?_ ?_
 .cases lo with
  |none=>rfl
  |some v=>exact ziF v n 0
 .cases hi with
  |none=>rfl
  |some v=>exact ziF v n n
def zhf(i j:Nat):CC (i:Int) (j:Int) 1=j-i:=by
 unfold CC;have h1:(1:Int) > 0:=by lia
 erw[h1,if_true,Hy];split<;>lia
def zd3{v:AG}{o:Option Int}{Q:Option Int->AK->Prop}(p:FI v o)(h:Q o s):A2 (model prog w) A (HH v) Q E s:=by
 cases p with
 |none=>exact slicePart_none h
 |int i t=>exact slicePart_int h
theorem sliceApplied_gen{sl:AJ}{vl vu:AG}{lo hi:Option Int}{n:Nat}{Q:Int×Int×Nat->AK->Prop}(hs:s.heap.IsSliceOf sl vl vu .none)(pl:FI vl lo)(pu:FI vu hi)
  (h:Q (((sIx n 0 lo:Nat):Int),1,sIx n n hi-sIx n 0 lo) s):A2 (model prog w) A (EI (.ref sl) (pure (n:Int))) Q E s:=by
 let⟨os,hos,hcs,hds⟩:=id hs;unfold EI Hf;refine AI (AI (BM hos hds (x:=vl) rfl (AI (BM hos hds (x:=vu) rfl (AI (BM hos hds (x:=.none) rfl (AV ?_)))))));refine AI (slicePart_none ?_);show A2 _ _ (if ((1:Int)==0)=AC then _ else _) _ _ s;rw[if_neg ⋯];refine AI (zd3 pl (AI (zd3 pu (AI (AV ?_)))));show A2 _ _ (match Co lo hi 1 (n:Int)with|(lo,hi)=>pure (lo,(1:Int),CC lo hi 1)) _ _ s;rw[zgK lo hi n];show A2 _ _ (pure (((sIx n 0 lo:Nat):Int),(1:Int),CC ((sIx n 0 lo:Nat):Int) ((sIx n n hi:Nat):Int) 1)) _ _ s;rw[zhf];exact AV h
def zjE(xs:Array AG)(i k:Nat):((C0 k).filterMap λ(m:Nat)=>xs[((i:Int)+(m:Int)*1).toNat]?).toArray=((xs.toList.drop i).take k).toArray:=by
 have e:(λ(m:Nat)=>xs[((i:Int)+(m:Int)*1).toNat]?)=λm=>xs[i+m]?:=by
  funext m
  have:((i:Int)+(m:Int)*1).toNat=i+m:=by lia
  rw[this]
 rw[e];have:=pick_run xs i k;rw[List.filterMap_map]at this;have e2:((λx=>xs[x]?) ∘ λx=>i+x)=λm=>xs[i+m]?:=rfl;rw[e2]at this;rw[this]
theorem getItem_tuple_cut{t sl:AJ}{items:Array AG}{vl vu:AG}{lo hi:Option Int}{Q:AG->AK->Prop}(ht:Hr s.heap t items)(hs:s.heap.IsSliceOf sl vl vu .none)(pl:FI vl lo)(pu:FI vu hi)
  (hw:¬(sIx items.size 0 lo=0/\sIx items.size items.size hi=items.size))
  (h:Q (.ref s.heap.objs.size) {s with heap:=s.heap.push {cls:=.type "tuple",data:=.seq ((items.toList.drop (sIx items.size 0 lo)).take (sIx items.size items.size hi-sIx items.size 0 lo)).toArray} })
  (hsz:items.size<=sizeLine):A2 (model prog w) A (getItem (.ref t) (.ref sl)) Q E s:=by
 have htake:sizeOk (.seq ((items.toList.drop (sIx items.size 0 lo)).take (sIx items.size items.size hi-sIx items.size 0 lo)).toArray):=by
  show ((items.toList.drop (sIx items.size 0 lo)).take (sIx items.size items.size hi-sIx items.size 0 lo)).toArray.size<=sizeLine;rw[AS,D0,Eu,Bu];lia
 have hj:sIx items.size items.size hi<=items.size:=sIx_le _ _ (AR _) hi;let⟨os,hos,hcs,hds⟩:=id hs;have hTs:s.TypeIs (.ref sl) "slice":=⟨os,hos,hcs⟩;unfold getItem
 try with_reducible refine D6 ?_
 first|refine AI (AV ?_)|skip
 refine AI (G1 ht.typeIs ⋯ ?_);refine AI (B1 (name:=AE "__getitem__") ht.typeIs Aw
  (CU Aw ht.typeIs Fm ?_ (GN _ _)))
 show A2 _ _ (EJ (.ref t) >>= _) _ _ s;refine AI (DS ht ?_);refine AI (G2 hTs ?_);rw[if_pos ⋯];refine AI (sliceApplied_gen hs pl pu ?_);have hno:¬((((sIx items.size 0 lo:Nat):Int)==0&&(1:Int)==1&&(sIx items.size items.size hi-sIx items.size 0 lo)==items.size)=AC):=by
  intro q;rw[AH,AH]at q;have q1:((sIx items.size 0 lo:Nat):Int)=0:=eq_of_beq q.1.1;have q2:sIx items.size items.size hi-sIx items.size 0 lo=items.size:=eq_of_beq q.2;exact hw ⟨by lia,by lia⟩
 show A2 _ _ (if (((sIx items.size 0 lo:Nat):Int)==0&&(1:Int)==1&&(sIx items.size items.size hi-sIx items.size 0 lo)==items.size)=AC then _ else _) _ _ s;rw[if_neg hno,zjE]
 first
  |exact AI (m:=Bf _) (BV (AV ⟨_,rfl,AV h⟩) htake)
  |exact AI (m:=Bf _) (BV (AI (AV (AV ⟨_,rfl,AV h⟩))) htake)
  |exact AI (AI (m:=Bf _) (BV (AV (AV ⟨_,rfl,AV h⟩)) htake))
  |exact AI (AI (m:=Bf _) (BV (AV ⟨_,rfl,AV h⟩) htake))
end
end HT
namespace L2
open PySem PySem.Spec PyProof.Rows
abbrev TO:=St->Hp->(Option Int->Hp->Prop)->Prop
def PO(X:Cx)(e:Option AT)(t:TO):Prop:=
 ∀(π:List (AJ×B7)) (s:AK) (σ:St) (H:Hp) (Q:Option Int->Hp->Prop),Inv X π σ H s->t σ H Q ->
  A2 (model X.prog X.w) X.A (evalPart e X.env) (λu s'=>∃o H',Inv X π σ H' s'/\FI u o/\Q o H') X.xe s
def ycC:TO:=λ_ H Q=>Q AD H
def zg8{ns:List Int}:∀{us:List AG},Vals (ns.map V.int) us->Fh us ns:=by
 induction ns with
 |nil=>intro us r;rw[BY]at r;cases r;exact .nil
 |cons n ns ih=>
  intro us r;rw[AU]at r
  cases r with
  |cons r1 r2=>
   let⟨t,e⟩:=r1;subst e;exact .cons n t (ih r2)
section
variable {X:Cx}{e:AT}{te:TE}{lo hi:Option AT}{tl th:TO}{pos p2:CB}
def zmm:PO X AD ycC:=by
 intro π s σ H Q I h;rw[evalPart_none];exact AV ⟨AD,H,I,.none,h⟩
def SlR(X:Cx)(r:V->Option Int->Option Int->Hp->VK->Prop):Prop:=
 ∀(π:List (AJ×B7)) (s:AK) (σ:St) (H:Hp) (x:V) (v vl vu:AG) (lo hi:Option Int) (sl:AJ) (Q:VK),Inv X π σ H s->RelV x v->s.heap.IsSliceOf sl vl vu .none->FI vl lo->FI vu hi->r x lo hi H Q ->
  ∃T id,typeLookup (.type T) "__getitem__"=pure (AA (.builtin id))/\s.TypeIs v T/\A2 (model X.prog X.w) X.A (getItem v (.ref sl)) (EP X π σ Q) X.xe s
def tSl(r:V->Option Int->Option Int->Hp->VK->Prop)(te:TE)(tl th:TO):TE:=λσ H Q=>te σ H λx H1=>tl σ H1 λl H2=>th σ H2 λu H3=>r x l u H3 Q
def zj9{r:V->Option Int->Option Int->Hp->VK->Prop}(hr:SlR X r)(he:PE X e te)(hl:PO X lo tl)(hu:PO X hi th):PE X (.Subscript e (.Slice lo hi AD p2) pos) (tSl r te tl th):=by
 intro π s σ H Q I h;refine HS (thn (he π s σ H _ I h) λv s1 kq=>?_);let⟨x,H1,I1,r1,q1⟩:=kq;refine wpAny_Slice (thn (hl π s1 σ H1 _ I1 q1) λvl s2 kq=>?_);let⟨l,H2,I2,pl,q2⟩:=kq;refine thn (hu π s2 σ H2 _ I2 q2) λvu s3 kq=>?_;let⟨u,H3,I3,pu,q3⟩:=kq;rw[evalPart_none];refine AV ?_;have I4:Inv X π σ H3 {s3 with heap:=s3.heap.push {cls:=.type "slice",data:=.fields #[vl,vu,.none]} }:=I3.kept (t':=s3.toks) λb ob q=>AO _ q;let⟨T,id,hT,ht,hg⟩:=hr π {s3 with heap:=s3.heap.push {cls:=.type "slice",data:=.fields #[vl,vu,.none]} } σ H3 x v vl vu l u s3.heap.objs.size Q I4 r1 (IR ..) pl pu q3;show A2 (model X.prog X.w) X.A (subscriptTail e (.Slice lo hi AD p2) v (.ref s3.heap.objs.size)) (EP X π σ Q) X.xe {s3 with heap:=s3.heap.push {cls:=.type "slice",data:=.fields #[vl,vu,.none]} };exact tail_any (ops:=[.ref s3.heap.objs.size,v]) ht hT hg (by ac_rfl)
def ycm(xs:List V)(lo hi:Option Int):List V:=(xs.drop (HT.sIx xs.length 0 lo)).take (HT.sIx xs.length xs.length hi-HT.sIx xs.length 0 lo)
def zdc(xs:List V)(lo hi:Option Int):(ycm xs lo hi).length<=xs.length:=by
 unfold ycm;rw[D0,Eu];lia
def ygh(K:AF):V->Option Int->Option Int->Hp->VK->Prop:=λx lo hi H Q=>∃a xs,x=.ref a/\SqT K H a xs /\
 ¬(HT.sIx xs.length 0 lo=0/\HT.sIx xs.length xs.length hi=xs.length)/\∀p,H p=AD->Q (.ref p) (upd H p (.tup (ycm xs lo hi)))
def znW:SlR X (ygh X.K):=by
 intro π s σ H x v vl vu lo hi sl Q I rx hs pl pu h;let⟨a,xs,rfl,hx,hw,q⟩:=h
 cases rx
 let⟨its,r,ht,hz⟩:=I.tuple hx;have hlen:its.toArray.size=xs.length:=by rw[AS];exact r.length.symm
 refine⟨"tuple",_,Aw.lookup,ht.typeIs,?_⟩;refine HT.getItem_tuple_cut ht hs pl pu (by rw[hlen];exact hw) ?_ (by rw[hlen];exact hz);rw[hlen];refine⟨.ref s.heap.objs.size,_,I.laid (t':=s.toks) (o:=.tup (ycm xs lo hi)) (λb ob q=>AO _ q) (AR _) ?_,rfl,q _ (I.hok.fresh (AR _))⟩;exact⟨As (zdc xs lo hi) hz,_,(r.drop (HT.sIx xs.length 0 lo)).take (HT.sIx xs.length xs.length hi-HT.sIx xs.length 0 lo),Fg _ _⟩
def yeh(K:AF):R2:=λx y H Q=>∃a b xs ys,x=.ref a/\y=.ref b/\SqT K H a xs/\SqT K H b ys/\xs≠[]/\xs.length+ys.length<=sizeLine /\
 (ys=[]->Q (.ref a) H)/\(ys≠[]->∀p,H p=AD->Q (.ref p) (upd H p (.tup (xs++ys))))
theorem Vals.nil_iff{xs:List V}{us:List AG}(r:Vals xs us):us=[] ↔ xs=[]:=by
 cases r with
 |nil=>simp
 |cons _ _=>simp
def zlF:OpR X (binaryOp .Add) (yeh X.K):=by
 intro π s σ H x y v u Q I rx ry h;let⟨a,b,xs,ys,rfl,rfl,ha,hb,hx,hz,q1,q2⟩:=h
 cases rx
 cases ry
 let⟨its,r1,p1,_⟩:=I.tuple ha;let⟨its2,r2,p2,_⟩:=I.tuple hb;refine HT.cat_tup p1 p2 (λz=>hx (r1.nil_iff.mp z)) (λz=>⟨.ref a,H,I,rfl,q1 (r2.nil_iff.mp z)⟩) (λz=>?_) (by rw[<-r1.length,<-r2.length];exact hz);refine⟨.ref s.heap.objs.size,_,I.laid (t':=s.toks) (o:=.tup (xs++ys)) (λb ob q=>AO _ q) (AR _) ?_,rfl,q2 (λw=>z (r2.nil_iff.mpr w)) _ (I.hok.fresh (AR _))⟩;exact⟨by rw[A6];exact hz,_,r1.append r2,Fg _ _⟩
end
def ixN(n:Nat)(i:Int):Option Nat:=if 0<=i then(if i<n then AA i.toNat else AD)else if -(n:Int)<=i then AA (i+n).toNat else AD
def atI{α:Type}(xs:List α)(i:Int):Option α:=(ixN xs.length i).bind λj=>xs[j]?
def ziy{n:Nat}{i:Int}{j:Nat}(h:ixN n i=AA j):seqIndex? i n=AA j/\j<n/\-(n:Int)<=i/\i<n:=by
 unfold ixN at h
 by_cases h0:0<=i
 .rw[if_pos h0]at h
  by_cases h1:i<n
  .rw[if_pos h1]at h;have e:i.toNat=j:=AY h;exact⟨by rw[HE h0 h1,e],by lia,by lia,h1⟩
  .rw[if_neg h1]at h;cases h
 .rw[if_neg h0]at h
  by_cases h1:-(n:Int)<=i
  .rw[if_pos h1]at h;have e:(i+n).toNat=j:=AY h;exact⟨by rw[seqIndex_neg ∅ h1,e],by lia,h1,by lia⟩
  .rw[if_neg h1]at h;cases h
def zfQ{α:Type}{xs:List α}{i:Int}{v:α}(h:atI xs i=AA v):∃j,seqIndex? i xs.length=AA j/\xs[j]?=AA v/\j<xs.length/\-(xs.length:Int)<=i/\i<xs.length:=by
 unfold atI at h
 cases e:ixN xs.length i with
 |none=>rw[e]at h;cases h
 |some j=>
  rw[e]at h;let⟨h1,h2,h3,h4⟩:=ziy e;exact⟨j,h1,h,h2,h3,h4⟩
def ybh(b:AT):Prop:=∀o i,subscripted b AB o i=operate [o,i] (getItem o i)
def IxR(X:Cx)(r:R2):Prop:=
 ∀(value slice:AT) (π:List (AJ×B7)) (s:AK) (σ:St) (H:Hp) (x y:V) (v u:AG) (Q:VK),Inv X π σ H s->RelV x v->RelV y u->r x y H Q ->
  subscripted slice AB v u=operate [v,u] (getItem v u)->A2 (model X.prog X.w) X.A (subscriptTail value slice v u) (EP X π σ Q) X.xe s
def MtR(X:Cx)(id:String)(r:V->List V->Hp->VK->Prop):Prop:=
 ∀(π:List (AJ×B7)) (s:AK) (σ:St) (H:Hp) (x:V) (xs:List V) (v:AG) (us:List AG) (Q:VK),Inv X π σ H s->RelV x v->Vals xs us->r x xs H Q ->
  A2 (model X.prog X.w) X.A (call (.builtin id) (v::us)) (EP X π σ Q) X.xe s
section
variable {X:Cx}{a b:AT}{ta tb:TE}{pos:CB}
theorem IxR.or{r r':R2}(h:IxR X r)(h':IxR X r'):IxR X (λx y H Q=>r x y H Q \/ r' x y H Q):=by
 intro value slice π s σ H x y v u Q I rx ry q hs;rcases q with q|q
 .exact h value slice π s σ H x y v u Q I rx ry q hs
 .exact h' value slice π s σ H x y v u Q I rx ry q hs
def zpK{r:R2}(hr:IxR X r)(ha:PE X a ta)(hb:PE X b tb)(hs:ybh b):PE X (.Subscript a b pos) (tOp r ta tb):=by
 intro π s σ H Q I h;exact HS (zlA ha hb I h λv u s2 x y H2 I2 rx ry q=>hr a b π s2 σ H2 x y v u Q I2 rx ry q (hs _ _))
def yft(K:AF):R2:=λx y H Q=>∃p xs i v,x=.ref p/\y=.int i/\SqL K H p xs/\atI xs i=AA v/\Q v H
def yfh(K:AF):R2:=λx y H Q=>∃p xs i v,x=.ref p/\y=.int i/\SqT K H p xs/\atI xs i=AA v/\Q v H
def yfm:R2:=λx y H Q=>∃z i c,x=.str z/\y=.int i/\z.length<=sizeLine/\atI z.cps.toList i=AA c/\Q (.str ⟨#[c]⟩) H
def zqy:IxR X (yft X.K):=by
 intro value slice π s σ H x y v u Q I rx ry h hs;let⟨p,xs,i,z,rfl,rfl,hq,he,q⟩:=h
 cases rx
 let⟨t,rfl⟩:=ry;let⟨its,r,pl,hz⟩:=I.list hq;let⟨j,h1,h2,h3,h4,h5⟩:=zfQ he;let⟨w,ew,rw'⟩:=r.get h2;have hl:=r.length;have hn:=zgL;have fin:EP X π σ Q w s:=⟨z,H,I,rw',q⟩
 by_cases h0:0<=i
 .have hj:i.toNat=j:=by
   rw[HE h0 h5]at h1;exact AY h1
  exact item_listR pl.isList h0 ∅ (by rw[hj];simpa using ew) fin hs
 .have hj:(i+(its.toArray.size:Int)).toNat=j:=by
   rw[seqIndex_neg ∅ h4]at h1;rw[AS,<-hl];exact AY h1
  exact FJ (x:=w) pl.isList.typeIs G3.lookup
   (wpAny_getItem_list_neg (Q:=λr s'=>r=w/\EP X π σ Q r s') pl.isList ∅ (by rw[AS]<;>lia) ∅ (by rw[hj];simpa using ew) ⟨rfl,fin⟩) hs
def zqz:IxR X (yfh X.K):=by
 intro value slice π s σ H x y v u Q I rx ry h hs;let⟨p,xs,i,z,rfl,rfl,hq,he,q⟩:=h
 cases rx
 let⟨t,rfl⟩:=ry;let⟨its,r,pl,hz⟩:=I.tuple hq;let⟨j,h1,h2,h3,h4,h5⟩:=zfQ he;let⟨w,ew,rw'⟩:=r.get h2;have hl:=r.length;have hn:=zgL;have fin:EP X π σ Q w s:=⟨z,H,I,rw',q⟩;exact FJ (x:=w) pl.typeIs Aw.lookup
  (getItem_tuple (j:=j) (Q:=λr s'=>r=w/\EP X π σ Q r s') pl ∅ ∅ (by rw[AS,<-hl];exact h1) (by simpa using ew) ⟨rfl,fin⟩) hs
def zpC:IxR X yfm:=by
 intro value slice π s σ H x y v u Q I rx ry h hs;let⟨z,i,c,rfl,rfl,hz,he,q⟩:=h;let⟨t,rfl⟩:=rx;let⟨t',rfl⟩:=ry;let⟨j,h1,h2,h3,h4,h5⟩:=zfQ he;have hl:z.cps.toList.length=z.length:=by simp[Str.length]
 rw[hl]at h1 h4 h5;have hn:=zgL;exact tail_any (HU s z t) slot_str_getitem.lookup (getItem_str (c:=c) (by
  have e1:decide (i < -(2^63:Int))=false:=decide_eq_false ∅;have e2:decide (i ≥ 2^63)=false:=decide_eq_false ∅;rw[e1,e2,Hj]) (by rw[h1];simpa using h2) ⟨.str ⟨#[c]⟩,H,I.tok _,⟨_,rfl⟩,q⟩) hs
def rIx(K:AF):R2:=λx y H Q=>yft K x y H Q \/ yfh K x y H Q \/ yfm x y H Q
def zf5:IxR X (rIx X.K):=zqy.or (zqz.or zpC)
def zgT(its:List AG)(n j:Nat)(u:AG):FK (·.setIfInBounds j u) {cls:=.type "list",data:=.seq its.toArray n}={cls:=.type "list",data:=.seq (its.set j u).toArray n}:=by
 simp[FK]
theorem Inv.lst{π:List (AJ×B7)}{σ:St}{H:Hp}{s:AK}{p:AJ}{xs:List V}(I:Inv X π σ H s)(h:H p=AA (.lst xs)):
  ∃(its:List AG) (n:Nat),Vals xs its/\s.heap.get? p=AA {cls:=.type "list",data:=.seq its.toArray n}/\xs.length<=sizeLine:=by
 let⟨z,its,n,r,e⟩:=I.hok p _ h;exact⟨its,n,r,e,z⟩
theorem Inv.lstUpd{π:List (AJ×B7)}{σ:St}{H:Hp}{s:AK}{p:AJ}{xs ys:List V}{its its':List AG}{n n':Nat}{f:B7->B7}(I:Inv X π σ H s)(h:H p=AA (.lst xs))
  (ho:s.heap.get? p=AA {cls:=.type "list",data:=.seq its.toArray n}) (hf:f {cls:=.type "list",data:=.seq its.toArray n}={cls:=.type "list",data:=.seq its'.toArray n'}) (r:Vals ys its') (hz:ys.length<=sizeLine) (t:Nat):
  Inv X π σ (upd H p (.lst ys)) {s with heap:=s.heap.update p f,toks:=t}:=by
 have e:(s.heap.update p f).get? p=AA {cls:=.type "list",data:=.seq its'.toArray n'}:=by
  rw[FW f ho (by rw[hf]<;>rfl),hf]
 refine I.write (x:=p) (e:=p) (by rw[h];trivial) (.inl rfl) (λb u hb q=>(DJ _ _ (Au hb)).trans q) ⟨_,e⟩ ?_;exact⟨hz,its',n',r,e⟩
def ydn:V->V->V->Hp->(Hp->Prop)->Prop:=λo i v H Q=>∃p xs k j,o=.ref p/\i=.int k/\H p=AA (.lst xs)/\ixN xs.length k=AA j/\Q (upd H p (.lst (xs.set j v)))
def zgD:yfd X ydn:=by
 intro π s σ H o i v ov iv u Q I ro ri rv h;let⟨p,xs,k,j,rfl,rfl,hp,hj,q⟩:=h
 cases ro
 let⟨t,rfl⟩:=ri;let⟨its,n,r,ho,hz⟩:=I.lst hp;let⟨h1,h2,h3,h4⟩:=ziy hj;have hl:=r.length;have hn:=zgL;have I':Inv X π σ (upd H p (.lst (xs.set j v))) {s with heap:=s.heap.update p (FK (·.setIfInBounds j u))}:=
  I.lstUpd hp ho (zgT its n j u) (r.set rv j) (by rw[BR];exact hz) s.toks
 by_cases h0:0<=k
 .have hk:k.toNat=j:=by
   rw[HE h0 h4]at h1;exact AY h1
  exact PySem.W.ki_setAt ho h0 ∅ (by rw[AS,<-hl];exact h4) (by rw[hk];exact⟨_,I',q⟩)
 .have hk:(k+(its.toArray.size:Int)).toNat=j:=by
   rw[seqIndex_neg ∅ h3]at h1;rw[AS,<-hl];exact AY h1
  exact PySem.W.ki_setBack ho ∅ (by rw[AS,<-hl];exact h3) ∅ (by rw[hk];exact⟨_,I',q⟩)
def zeY(lo hi:Option Int)(n:Nat):(sliceBounds lo hi AD n).1=((HT.sIx n 0 lo:Nat):Int)/\(sliceBounds lo hi AD n).2.1=((HT.sIx n n hi:Nat):Int)/\(sliceBounds lo hi AD n).2.2=1:=by
 refine⟨?_,?_,rfl⟩
 .cases lo with
  |none=>simp[sliceBounds,HT.sIx]
  |some i=>
   erw[sliceBounds,HT.sIx,Gm,show (1:Int) > 0 by decide,if_true]
   by_cases h:i<0
   .simp only[h,if_true]<;>lia
   .simp only[h,if_false]<;>lia
 .cases hi with
  |none=>simp[sliceBounds,HT.sIx]
  |some i=>
   erw[sliceBounds,HT.sIx,Gm,show (1:Int) > 0 by decide,if_true]
   by_cases h:i<0
   .simp only[h,if_true]<;>lia
   .simp only[h,if_false]<;>lia
def zel(its:List AG)(lo hi:Option Int):slicePick its.toArray lo hi AD=((its.drop (HT.sIx its.length 0 lo)).take (HT.sIx its.length its.length hi-HT.sIx its.length 0 lo)).toArray:=by
 let⟨h1,h2,h3⟩:=zeY lo hi its.toArray.size;unfold slicePick;rw[h1,h2,h3];erw[sliceRange_one,pick_run,AS]<;>rfl
def yfR(K:AF):V->Option Int->Option Int->Hp->VK->Prop:=λx lo hi H Q=>∃a xs,x=.ref a/\SqL K H a xs/\∀p,H p=AD->Q (.ref p) (upd H p (.lst (ycm xs lo hi)))
def zhQ:SlR X (yfR X.K):=by
 intro π s σ H x v vl vu lo hi sl Q I rx hs pl pu h;let⟨a,xs,rfl,hx,q⟩:=h
 cases rx
 let⟨its,r,ht,hz⟩:=I.list hx;have hlen:=r.length;refine⟨"list",_,G3.lookup,ht.isList.typeIs,?_⟩;refine wpAny_getItem_list_slice ht.isList hs pl pu .none (by simp) ?_ (by rw[AS]<;>lia);rw[zel,<-hlen];refine⟨.ref s.heap.objs.size,_,I.laid (t':=s.toks) (o:=.lst (ycm xs lo hi)) (λb ob q=>AO _ q) (AR _) ?_,rfl,q _ (I.hok.fresh (AR _))⟩;exact⟨As (zdc xs lo hi) hz,_,0,(r.drop (HT.sIx xs.length 0 lo)).take (HT.sIx xs.length xs.length hi-HT.sIx xs.length 0 lo),A3 _ rfl⟩
def yan:V->Bool
 |.non=>AC
 |.bl _=>AC
 |.int _=>AC
 |.str _=>AC
 |_=>AB
def eqV:V->V->Bool
 |.non,.non=>AC
 |.bl a,.bl b=>a==b
 |.bl a,.int b=>(if a then 1 else 0)==b
 |.int a,.bl b=>a==(if b then 1 else 0)
 |.int a,.int b=>a==b
 |.str a,.str b=>a==b
 |_,_=>AB
def zoy{A:Ag}{s:AK}{y x:V}{u v:AG}(ry:RelV y u)(rx:RelV x v)(fy:yan y=AC)(fx:yan x=AC):HV A s u v (eqV y x):=by
 cases y with
 |non=>
  cases ry
  cases x with
  |non=>cases rx;exact SeqAt.EqAt.same _
  |bl b=>cases rx;exact SeqAt.EqAt.none_bool b
  |int b=>let⟨t,rfl⟩:=rx;exact SeqAt.EqAt.none_int b t
  |str b=>let⟨t,rfl⟩:=rx;exact SeqAt.EqAt.none_str b t
  |_=>exact absurd (show AB=AC from fx) Ai
 |bl a=>
  cases ry
  cases x with
  |non=>cases rx;exact SeqAt.EqAt.bool_none a
  |bl b=>cases rx;exact SeqAt.EqAt.bool_bool a b
  |int b=>let⟨t,rfl⟩:=rx;exact SeqAt.EqAt.bool_int a b t
  |str b=>let⟨t,rfl⟩:=rx;exact SeqAt.EqAt.bool_str a b t
  |_=>exact absurd (show AB=AC from fx) Ai
 |int a=>
  let⟨t',rfl⟩:=ry
  cases x with
  |non=>cases rx;exact SeqAt.EqAt.int_none a t'
  |bl b=>cases rx;exact SeqAt.EqAt.int_bool a t' b
  |int b=>let⟨t,rfl⟩:=rx;exact SeqAt.EqAt.int_int a t' b t
  |str b=>let⟨t,rfl⟩:=rx;exact GG a t' b t
  |_=>exact absurd (show AB=AC from fx) Ai
 |str a=>
  let⟨t',rfl⟩:=ry
  cases x with
  |non=>cases rx;exact SeqAt.EqAt.str_none a t'
  |bl b=>cases rx;exact SeqAt.EqAt.str_bool a t' b
  |int b=>let⟨t,rfl⟩:=rx;exact GH a t' b t
  |str b=>let⟨t,rfl⟩:=rx;exact SeqAt.EqAt.str_str a t' b t
  |_=>exact absurd (show AB=AC from fx) Ai
 |_=>exact absurd (show AB=AC from fy) Ai
def eqU(x:V)(u:AG):Bool:=match u with
 |.none=>eqV .non x
 |.bool b=>eqV (.bl b) x
 |.int i _=>eqV (.int i) x
 |.str z _=>eqV (.str z) x
 |_=>AB
def zff{x y:V}{u:AG}(r:RelV y u)(f:yan y=AC):eqU x u=eqV y x:=by
 cases y with
 |non=>cases r;rfl
 |bl b=>cases r;rfl
 |int i=>let⟨t,rfl⟩:=r;rfl
 |str z=>let⟨t,rfl⟩:=r;rfl
 |_=>exact absurd (show AB=AC from f) Ai
def zfZ{x:V}:∀{xs:List V} {us:List AG},Vals xs us->xs.all yan=AC->us.any (eqU x)=xs.any λy=>eqV y x
 |_,_,.nil,_=>rfl
 |y::xs,u::us,.cons r t,f=>by
  rw[BE,AH]at f;rw[Ax,Ax,zff r f.1,zfZ t f.2]
def zcg{A:Ag}{s:AK}{x:V}{v:AG}(rx:RelV x v)(fx:yan x=AC):∀{xs:List V} {us:List AG},Vals xs us->xs.all yan=AC->∀u∈us,HV A s u v (eqU x u)
 |_,_,.nil,_=>λu hu=>by cases hu
 |y::xs,u::us,.cons r t,f=>λu' hu=>by
  rw[BE,AH]at f;rcases AX.mp hu with rfl|hu
  .rw[zff r f.1];exact zoy r rx f.1 fx
  .exact zcg rx fx t f.2 u' hu
def inV(x:V)(xs:List V):Bool:=xs.any λy=>eqV y x
def rIn(K:AF)(neg:Bool):R2:=λx y H Q=>∃p xs,y=.ref p/\(SqL K H p xs \/ SqT K H p xs)/\yan x=AC/\xs.all yan=AC/\Q (.bl (if neg then !inV x xs else inV x xs)) H
def ze1:OpR X (compareOp .In) (rIn X.K AB):=by
 intro π s σ H x y v u Q I rx ry h;let⟨p,xs,rfl,hq,fx,fs,q⟩:=h
 cases ry
 rcases hq with hq|hq
 .let⟨its,r,pl,hz⟩:=I.list hq;refine HI (eqU x) pl.isList (λw hw=>zcg rx fx r fs w (by simpa using hw)) ⟨.bl _,H,I,rfl,?_⟩;rw[show its.toArray.any (eqU x)=its.any (eqU x)by simp,zfZ r fs];exact q
 .let⟨its,r,pl,hz⟩:=I.tuple hq;refine Gn (eqU x) pl (λw hw=>zcg rx fx r fs w (by simpa using hw)) ⟨.bl _,H,I,rfl,?_⟩;rw[show its.toArray.any (eqU x)=its.any (eqU x)by simp,zfZ r fs];exact q
def zfe:yQ X (.builtin "len") (λxs H Q=>∃p ys,xs=[.ref p]/\(SqL X.K H p ys \/ SqT X.K H p ys)/\Q (.int ys.length) H):=by
 intro π s σ H xs us Q I r h;let⟨p,ys,rfl,hq,q⟩:=h;let⟨u,rfl,rx⟩:=vals1 r
 cases rx
 have hn:=zgL;rcases hq with hq|hq
 .let⟨its,r',pl,hz⟩:=I.list hq;have hlen:=r'.length;exact Calls.call_len_list pl.isList (by erw[AS]<;>lia) ⟨.int ys.length,H,I.tok _,⟨s.toks+1,by rw[AS,hlen]⟩,q⟩
 .let⟨its,r',pl,hz⟩:=I.tuple hq;have hlen:=r'.length;exact len_tuple pl (by erw[AS]<;>lia) ⟨.int ys.length,H,I.tok _,⟨s.toks+1,by rw[AS,hlen]⟩,q⟩
def zfv:yQ X (.builtin "len") (λxs H Q=>∃z,xs=[.str z]/\z.length<=sizeLine/\Q (.int z.length) H):=by
 intro π s σ H xs us Q I r h;let⟨z,rfl,hz,q⟩:=h;let⟨u,rfl,t,rfl⟩:=vals1 r;have hn:=zgL;exact len_str ∅ ⟨.int z.length,H,I.tok _,⟨_,rfl⟩,q⟩
def zcd:yQ X (.type "tuple") (λxs H Q=>∃p ys,xs=[.ref p]/\((SqL X.K H p ys/\∀l,H l=AD->Q (.ref l) (upd H l (.tup ys))) \/ (SqT X.K H p ys/\Q (.ref p) H))):=by
 intro π s σ H xs us Q I r h;let⟨p,ys,rfl,h⟩:=h;let⟨u,rfl,rx⟩:=vals1 r
 cases rx
 rcases h with⟨hq,q⟩|⟨hq,q⟩
 .let⟨its,r',pl,hz⟩:=I.list hq;have hlen:=r'.length;refine call_tuple_list pl.isList (λh' kp=>?_) (by erw[AS]<;>lia);have I1:Inv X π σ H {s with heap:=h'}:=I.kept (t':=s.toks) kp;have I2:Inv X π σ (upd H h'.objs.size (.tup ys)) {s with heap:=h'.push {cls:=.type "tuple",data:=.seq its.toArray} }:=
   I1.laid (t':=s.toks) (λb o e=>AO _ e) (AR _) (show yM X.prog X.w _ _ _ (.tup ys)from ⟨hz,its,r',Fg _ _⟩)
  exact⟨.ref h'.objs.size,_,I2,rfl,q _ (I1.hok.fresh (AR _))⟩
 .let⟨its,r',pl,hz⟩:=I.tuple hq;exact call_tuple_same pl ⟨.ref p,H,I,rfl,q⟩
def tyV(K:AF)(T:String)(x:V)(H:Hp):Prop:=match x with
 |.str _=>T="str"
 |.int _=>T="int"
 |.ref p=>(T="list"/\∃xs,SqL K H p xs) \/ (T="tuple"/\∃o,K.lookup p=AA o/\o.cls=.type "tuple"/\o.dict=AD) \/
   (T="dict"/\((∃kvs,H p=AA (.dK kvs)) \/ ∃kvs,H p=AA (.dT kvs))) \/ (T="set"/\∃S n,H p=AA (.set S n))
 |_=>False
def zlk{π:List (AJ×B7)}{σ:St}{H:Hp}{s:AK}{T:String}{x:V}{v:AG}(I:Inv X π σ H s)(r:RelV x v)(ty:tyV X.K T x H):
  s.TypeIs v T/\∀a,v=.ref a->∃ob,s.heap.get? a=AA ob/\ob.dict=none:=by
 cases x with
 |str z=>
  let⟨t,rfl⟩:=r
  cases (show T="str" from ty)
  exact⟨HU s z t,λ_ e=>nomatch e⟩
 |int i=>
  let⟨t,rfl⟩:=r
  cases (show T="int" from ty)
  exact⟨D1 s i t,λ_ e=>nomatch e⟩
 |ref p=>
  cases r
  rcases ty with⟨rfl,xs,hq⟩|⟨rfl,o,hk,hc,hd⟩|⟨rfl,hk⟩|⟨rfl,S,n,hk⟩
  .let⟨its,_,pl,_⟩:=I.list hq;refine⟨pl.isList.typeIs,λa e=>?_⟩
   cases e
   let⟨o,n,e,c,hd,_⟩:=pl;exact⟨o,e,hd⟩
  .refine⟨⟨o,I.kIn p o hk,hc⟩,λa e=>?_⟩
   cases e
   exact⟨o,I.kIn _ o hk,hd⟩
  .have z:∃o,s.heap.get? p=AA o/\o.ExactDict:=by
    rcases hk with⟨kvs,hk⟩|⟨kvs,hk⟩
    .let⟨_,_,_,_,o,_,_,e,ex,_⟩:=I.hok p _ hk;exact⟨o,e,ex⟩
    .let⟨_,_,_,_,o,_,_,e,ex,_⟩:=I.hok p _ hk;exact⟨o,e,ex⟩
   let⟨o,e,ex⟩:=z;refine⟨⟨o,e,ex.1⟩,λa e2=>?_⟩
   cases e2
   exact⟨o,e,ex.2.1⟩
  .let⟨o,_,_,_,e,ex,_⟩:=I.hok p _ hk;refine⟨⟨o,e,ex.1⟩,λa e2=>?_⟩
   cases e2
   exact⟨o,e,ex.2.1⟩
 |_=>exact BH ty
def yhp(K:AF)(T:String)(r:V->List V->Hp->VK->Prop)(to:TE):TE:=λσ H Q=>to σ H λx H1=>tyV K T x H1/\r x [] H1 Q
def tBM(K:AF)(T:String)(r:V->List V->Hp->VK->Prop)(to:TE)(t:TA):TE:=λσ H Q=>to σ H λx H1=>tyV K T x H1/\t σ H1 λxs H2=>r x xs H2 Q
variable {o e:AT}{es:List AT}{to:TE}{t:TA}{name:AL}{apos cpos:CB}{T id:String}{r:V->List V->Hp->VK->Prop}
def znO(pa:PlainAttrs T)(slot:Slot T name id)(hty:typeOf (.builtin id)=pure (.type "method_descriptor"))(hm:MtR X id r)(ho:PE X o to)
  (hbase:attributeBase o name X.env (eval o X.env)=eval o X.env:=by rfl) (hline:(apos.endLine==cpos.line)=true:=by rfl):PE X (.Call (.Attribute o name apos) [] [] cpos) (yhp X.K T r to):=by
 intro π s σ H Q I h;refine wpAny_Call_method0_late hbase hline (thn (ho π s σ H _ I h) λv s1 kq=>?_);let⟨x,H1,I1,r1,ty,q1⟩:=kq;let⟨h1,h2⟩:=zlk I1 r1 ty;exact⟨T,id,pa,slot,hty,h1,h2,DL rfl (PySem.evalArgs_none (hm π s1 σ H1 x [] v [] Q I1 r1 .nil q1))⟩
def zkw(pa:PlainAttrs T)(slot:Slot T name id)(hty:typeOf (.builtin id)=pure (.type "method_descriptor"))(hm:MtR X id r)(ho:PE X o to)(ha:PA X (e::es) t)
  (hbase:attributeBase o name X.env (eval o X.env)=eval o X.env:=by rfl)
  (hfew:((backTo cpos (starEach (e::es) X.env)).all (λx=>!x.1)&&(backToKw cpos (keywordEach [] X.env)).all (λx=>x.1.isSome)
   && decide ((e::es).length+([]:List B8).length+(if ([]:List B8).isEmpty then 0 else 1)<30))=true:=by rfl)
  (hline:(apos.endLine==cpos.line)=true:=by rfl) (hs:starEach (e::es) X.env=(AB,eval e X.env)::starEach es X.env:=by rfl) (hplain:(backTo cpos (starEach es X.env)).any (·.1)=false:=by rfl):
  PE X (.Call (.Attribute o name apos) (e::es) [] cpos) (tBM X.K T r to t):=by
 intro π s σ H Q I h;refine wpAny_Call_method_late hbase hfew hline rfl (thn (ho π s σ H _ I h) λv s1 kq=>?_);let⟨x,H1,I1,r1,ty,q1⟩:=kq;let⟨h1,h2⟩:=zlk I1 r1 ty;refine⟨T,id,pa,slot,hty,h1,h2,?_⟩;have hA:=ha cpos π s1 σ H1 _ I1 q1;rw[hs]at hA ⊢;refine DL (by show (AB || (backTo cpos (starEach es X.env)).any (·.1))=AB;rw[hplain]<;>rfl) (Db ?_);exact thn hA λus s2 ⟨vs,H2,I2,r2,q2⟩=>hm π s2 σ H2 x vs v us Q I2 r1 r2 q2
/- xs.append(e),list.index on a module's tuple .. are MtR facts of 06m -/
end
def MtM(X:Cx)(id:String)(r:V->List V->Hp->VK->Prop):Prop:=
 ∀(π:List (AJ×B7)) (s:AK) (σ:St) (H:Hp) (x:V) (xs:List V) (v:AG) (us:List AG) (Q:VK),Inv X π σ H s->RelV x v->Vals xs us->r x xs H Q ->
  A2 (model X.prog X.w) X.A (call (.builtin id) (v::us)) (EP X π σ Q) X.xe s
theorem Vals.one:∀{x:V} {us:List AG},Vals [x] us->∃u,us=[u]/\RelV x u
  :=by intro x us h;rcases h with _|⟨r,q⟩;cases q;exact⟨_,rfl,r⟩
theorem Vals.two:∀{x y:V} {us:List AG},Vals [x,y] us->∃u v,us=[u,v]/\RelV x u/\RelV y v
  :=by intro x y us h;rcases h with _|⟨r,q⟩;rcases q with _|⟨q,z⟩;cases z;exact⟨_,_,rfl,r,q⟩
theorem Vals.zero:∀{us:List AG},Vals [] us->us=[]
 |_,.nil=>rfl
theorem Vals.reverse{xs:List V}{us:List AG}(h:Vals xs us):Vals xs.reverse us.reverse:=by
 induction h with
 |nil=>exact .nil
 |cons r t ih=>rw[DM,DM];exact Vals.append ih (.cons r .nil)
theorem Vals.rep{xs:List V}{us:List AG}(h:Vals xs us):∀k:Nat,Vals (AM k xs).flatten (AM k us).flatten
 |0=>.nil
 |k+1=>by
  rw[Ay,Ay,B5,B5];exact Vals.append h (Vals.rep h k)
def zfn(its:List AG):∀(k:Nat) (acc:List AG),
  HW (λx1 x2=>x1++x2) acc.toArray (AM k its.toArray)=(acc++(AM k its).flatten).toArray
 |0,acc=>by simp
 |k+1,acc=>by
  have e:acc.toArray++its.toArray=(acc++its).toArray:=by simp
  have e2:(acc++its)++(AM k its).flatten=acc++(AM (k+1) its).flatten:=by
   rw[Ay,B5,B6]
  rw[<-e2,<-zfn its k (acc++its),<-e,Ay,C7]
section
variable {X:Cx}{π:List (AJ×B7)}{σ:St}{H:Hp}{s:AK}{l b:AJ}{xs ys zs:List V}
theorem Inv.lset{its its':List AG}{n:Nat}{f:Array AG->Array AG}{t':Nat}(I:Inv X π σ H s)(hH:H l=AA (.lst xs))
  (e:s.heap.get? l=AA {cls:=.type "list",data:=.seq its.toArray n}) (hf:f its.toArray=its'.toArray) (hv:Vals ys its') (hz:ys.length<=sizeLine):
  Inv X π σ (upd H l (.lst ys)) {s with heap:=s.heap.update l (FK f),toks:=t'}:=by
 have q:=PySem.IsL.update e f;rw[hf]at q;refine I.write (x:=l) (e:=l) (by rw[hH];exact trivial) (.inl rfl) (λb' u hb hu=>(DJ s.heap (FK f) (Au hb)).trans hu) ⟨_,q⟩ ?_;exact⟨hz,its',_,hv,q⟩
theorem Inv.lnew{its:List AG}{t':Nat}(I:Inv X π σ H s)(hv:Vals ys its)(hz:ys.length<=sizeLine):
  Inv X π σ (upd H s.heap.objs.size (.lst ys)) {s with heap:=s.heap.push {cls:=.type "list",data:=.seq its.toArray},toks:=t'}:=
 I.laid (λ_ _ q=>AO _ q) (AR _) ⟨hz,its,0,hv,A3 _ rfl⟩
theorem Inv.fresh(I:Inv X π σ H s):H s.heap.objs.size=none:=I.hok.fresh (AR _)
theorem Inv.lstM(I:Inv X π σ H s)(hH:H l=AA (.lst xs)):xs.length<=sizeLine/\∃(its:List AG) (n:Nat),Vals xs its/\xs.length=its.length/\s.heap.get? l=AA {cls:=.type "list",data:=.seq its.toArray n}:=by
 let⟨z,its,n,r,e⟩:=I.hok l _ hH;exact⟨z,its,n,r,r.length,e⟩
def zqA{n:Nat}(h:n<=sizeLine):Cu n=false:=by
 unfold Cu;exact decide_eq_false ∅
end
section
variable {X:Cx}
def ycx:V->List V->Hp->VK->Prop:=λx vs H Q=>∃l xs y,x=.ref l/\vs=[y]/\H l=AA (.lst xs)/\xs.length<sizeLine/\Q .non (upd H l (.lst (xs++[y])))
def zeW:MtM X "list.append" ycx:=by
 intro π s σ H x vs v us Q I rx rv h;let⟨l,xs,y,rfl,rfl,hH,hz,q⟩:=h
 cases rx
 let⟨u,rfl,ru⟩:=rv.one;let⟨z,its,n,r,hl,e⟩:=I.lstM hH;refine CO FX ⟨_,e,rfl⟩ F.entry_list_append (F.args_list_append_2 _ _) (PySem.list_append l its.toArray n u (by rw[AS];lia)) ⟨e,?_⟩;refine⟨.non,_,I.lset (its':=its++[u]) hH e (by simp) (r.append (.cons ru .nil)) ?_,rfl,q⟩;rw[A6,DU];lia
def ycV:V->List V->Hp->VK->Prop:=λx vs H Q=>∃l xs,x=.ref l/\vs=[]/\H l=AA (.lst xs)/\Q .non (upd H l (.lst []))
def zj5:MtM X "list.clear" ycV:=by
 intro π s σ H x vs v us Q I rx rv h;let⟨l,xs,rfl,rfl,hH,q⟩:=h
 cases rx
 have hus:=rv.zero;subst hus;let⟨z,its,n,r,hl,e⟩:=I.lstM hH;refine CO F4 ⟨_,e,rfl⟩ F.entry_list_clear (F.args_list_clear_1 _) (AutoSeq1.list_clear_list_0 l its.toArray n (by rw[AS];lia)) ⟨e,?_⟩;exact⟨.non,_,I.lset (its':=[]) (ys:=[]) hH e rfl .nil (DB _),rfl,q⟩
def yhb:R2:=λx y H Q=>∃l b xs zs,x=.ref l/\y=.ref b/\H l=AA (.lst xs)/\H b=AA (.lst zs)/\xs.length+zs.length<=sizeLine/\∀p,H p=AD->Q (.ref p) (upd H p (.lst (xs++zs)))
def zkI:OpR X (binaryOp .Add) yhb:=by
 intro π s σ H x y v u Q I rx ry h;let⟨l,b,xs,zs,rfl,rfl,hH,hB,hz,q⟩:=h
 cases rx
 cases ry
 let⟨z,its,n,r,hl,e⟩:=I.lstM hH;let⟨z2,its2,n2,r2,hl2,e2⟩:=I.lstM hB;refine PySem.P.add_list e e2 ?_ (by rw[AS,AS];lia);have ea:its.toArray++its2.toArray=(its++its2).toArray:=by simp
 rw[ea];exact⟨.ref _,_,I.lnew (t':=s.toks) (r.append r2) (by rw[A6];lia),rfl,q _ I.fresh⟩
def ygZ:R2:=λx y H Q=>∃l k xs,x=.ref l/\y=.int k/\H l=AA (.lst xs)/\-(2^63)<=k/\k<2^63/\xs.length*k.toNat<=sizeLine /\
 ∀p,H p=AD->Q (.ref p) (upd H p (.lst (AM k.toNat xs).flatten))
def zne{α:Type}(xs:List α)(k:Nat):(AM k xs).flatten.length=k*xs.length:=by
 induction k with
 |zero=>simp
 |succ k ih=>rw[Ay,B5,A6,ih,G4,Hz]
def zpa:OpR X (binaryOp .Mult) ygZ:=by
 intro π s σ H x y v u Q I rx ry h;let⟨l,k,xs,rfl,rfl,hH,h1,h2,hz,q⟩:=h
 cases rx
 let⟨t,rfl⟩:=ry;let⟨z,its,n,r,hl,e⟩:=I.lstM hH;have hlen:its.toArray.size*k.toNat<=sizeLine:=by rw[AS,<-hl];exact hz
 have hcap:¬its.toArray.size*k.toNat > (2^63-1)/8:=by
  have:(sizeLine:Nat)<=(2^63-1)/8:=by decide
  lia
 have hfit:¬(!Builtin.List.listFitsIndex k)=true:=by
  rw[fitsIndex_both h1 h2];exact Ai
 have hlong:¬Cu (its.toArray.size*k.toNat)=true:=by
  rw[zqA hlen];exact Ai
 have hnew:HW (λx1 x2=>x1++x2) #[] (AM (if its.toArray.isEmpty=AC then 0 else k.toNat) its.toArray)=(AM k.toNat its).flatten.toArray:=by
  have f0:∀m:Nat,HW (λx1 x2=>x1++x2) #[] (AM m its.toArray)=(AM m its).flatten.toArray:=λm=>by
   have:=zfn its m [];rw[CF]at this;exact this
  rw[f0]
  cases its with
  |nil=>simp
  |cons a r'=>rw[if_neg (by simp)]
 refine CZ (T:="list") (U:="int") ⋯ ⟨_,e,rfl⟩ (λs'=>D1 s' k t) noFill_list_mul Dt Bv repeat_list Dd.lookup
  (CO Bv (D1 s k t) De (DV _ _) (int___rmul___int_list k t l its.toArray n)
   ⟨e,rfl,⟨_,e,rfl⟩,CO F.slot_list_mul ⟨_,e,rfl⟩ F.entry_list_mul (F.args_list_mul_2 _ _) (AutoListH.list___mul___list_int_3 l its.toArray n k t hfit hcap hlong) ⟨e,?_⟩⟩)
 rw[hnew];exact⟨.ref _,_,I.lnew (t':=s.toks) (r.rep k.toNat) (by rw[zne,G5];exact hz),rfl,q _ I.fresh⟩
end
section
variable {prog:A4}{w:Af}{A:Ag}{E:AG->AK->Prop}{s:AK}
end
section
variable {X:Cx}
end
end L2
namespace Att
open PySem PySem.W PySem.Calls PyProof.Rows
def zdh{P:Params}{h:Aq}:∀(ns:List Int) (vs:List AG),WellAll P h vs (ns.map IW)->Fh vs ns:=by
 intro ns
 induction ns with
 |nil=>
  intro vs w;rw[BY]at w
  cases w
  exact .nil
 |cons n ns ih=>
  intro vs w;rw[AU]at w
  cases w with
  |cons a b=>
   cases a
   exact .cons _ _ (ih _ b)
def ziD{l:FD}{n:Nat}(hn:l.most=AA n){P:Params}{h:Aq}{args:List WData}{vals:List AG}
  (hpre:l.row.toRowW.claim.pre args=AC) (hwl:WellAll P h vals args):
  ∃a vs ns,vals=[A7 a]/\args=[WData.list (ns.map IW)]/\h.get? a=AA {cls:=.type "list",data:=.seq vs.toArray}/\Fh vs ns/\ns.length<=n:=by
 have hsh:WShape.hasAll [] args [.list .int]=true:=(pre_splitW hpre).1;have hc:l.pre.holds [] {args:=args}=true:=(pre_splitW hpre).2;let⟨d,r,rfl,h1,h2⟩:=hasAllW_cons hsh;obtain rfl:=hasAllW_nil h2;let⟨xs,rfl,h3⟩:=hasW_list h1;let⟨ns,rfl⟩:=items_int h3;have hlen:ns.length<=n:=by
  unfold OpenLaw.pre at hc;have h4:(WTm.not (.lt (.lit (.int (n:Int))) (.len (.arg 0)))).holds [] {args:=[.list (ns.map .int)]}=true:=by
   have h4:=(holds_andW hc).1;rw[hn]at h4;exact h4
  have h5:=condW_of h4 (w_not (w_lt w_lit (w_len_list (w_arg rfl))));rw[Ap]at h5;refine Nat.le_of_not_lt λq=>?_;have q':(n:Int)<((ns.length:Nat):Int):=by lia
  first
   |(rw[decide_eq_true q']at h5;exact absurd h5 ⋯)
   |(simp at h5;lia)
 cases hwl with
 |cons w1 w2=>
  cases w2
  cases w1 with
  |list ho hall=>exact⟨_,_,ns,rfl,rfl,ho,zdh ns _ hall,hlen⟩
def zhu(l:FD)(args:List WData):l.row.toRowW.claim.post args (.bool AC) args=true:=
 postW_of (r:=l.row.toRowW) (X:=(AC==AC))
  (show IS [] (.bool AC) .bool=AC by first|rfl|decide|simp[IS,WShape.arms,WShape.armsAll])
  (show (WTm.eq .res (.lit (.bool AC))).value [] {args:=args,res:=AA (.bool AC),after:=args}=AA (.bool (AC==AC))from w_eq_bool (w_res rfl) w_lit) rfl
theorem attach_call{l:FD}{n:Nat}{q:A4}{loose:List AL}{XP:(AL->Option AG)->Aq->Prop}{YP:Af->Aq->Prop}{d:DefRec}
  (hn:l.most=AA n) (hdf:d.params.defaults=[])
  (call:∀(w:Af) (s₀ s₁:AK) (mg mb:AL->Option AG) (fa:AJ) (o:B7) (pm cd doc:AG) (a:AJ) (vs:List AG) (ns:List Int),
   Ground q loose [] XP w s₀ mg mb s₁.heap->YP w s₁.heap ->
   s₁.heap.get? fa=AA o->o.data=.func (docDef d.name d.params d.body d.scope pm cd doc)->s₁.heap.CodeRec cd d.name->mg d.name=AA (.ref fa) ->
   s₁.heap.get? a=AA {cls:=.type "list",data:=.seq vs.toArray}->Fh vs ns->ns.length<=n->s₁.gens=#[] ->
   codeAny (model l.prog w) callerA (.call (.ref fa) ⟨[.ref a],[]⟩) (λr s'=>r=.ok (.ret (.bool AC))/\OldK s₁.heap s'.heap/\s'.os=s₁.os/\DD s'.gens) s₁):
  HM q loose XP YP l.row.toRowW d [] (λf vs=>HX f vs):=by
 intro w s₀ s₁ mg mb G Y fa o pm cd doc dV kV ho hd hcd hD hmg hg args vals as hpre hlay hrd hwl hlo;obtain rfl:dV=.none:=Dflts.none hD hdf;obtain rfl:kV=.none:=Dflts.noKw hD;let⟨a,vs,ns,rfl,rfl,hobj,hints,hlen⟩:=ziD hn hpre hwl;refine enter_call (DF (call w s₀ s₁ mg mb fa o pm cd doc a vs ns G Y ho (fd_plain hd) hcd hmg hobj hints hlen hg) λr s' hq=>?_);let⟨rfl,h2,h3,h4⟩:=hq;exact⟨.inl ⟨.bool AC,.bool AC,[],rfl,λ_=>rfl,.bool AC,zhu l _,λ_=>⟨IV,λ_ hm=>(nomatch hm)⟩⟩,h2,h3,h4⟩
section
variable {prog:A4}{w:Af}{A:Ag}{E:AG->AK->Prop}{s:AK}{K:AF}
end
end Att
namespace L2
open PySem PySem.Spec PyProof.Rows
def zfw:∀{vs:List AG} {ns:List Int},Fh vs ns->Vals (ns.map V.int) vs
 |_,_,.nil=>.nil
 |_,_,.cons n t h=>.cons ⟨t,rfl⟩ (zfw h)
def Only(H:Hp):Prop:=∀b,H b=AD \/ ∃o xs,H b=AA (.frz o (.lst xs))
def zj1{P:A4}{w:Af}{K:AF}{mg mb:AL->Option AG}{CX:CXT}{k:Nat}{fa a:AJ}{fd:Ao}{x:AL}{sp:Sp}{s₁:AK}{vs:List AG}{ns:List Int}
  (KX:K.In s₁.heap) (hns:s₁.heap.Ns mainGlobals mg) (hb:s₁.heap.Ns builtinsNs mb) (hbb:∀x:AL,x ≠ "__name__"->mb x=bootBuiltins x) (hlim:s₁.heap.NoLimit) (hg:s₁.gens=#[])
  (ha:s₁.heap.get? a=AA {cls:=.type "list",data:=.seq vs.toArray}) (hi:Fh vs ns) (hl:ns.length<=sizeLine) (hr:yah k callerA)
  (F:∀base:Aq,K.In base->base.Ns mainGlobals mg->yaA P w K mg base CX k fa fd [x] sp) (hbind:∀(s:AK) (u:AG),EY s fd ⟨[u],[]⟩ [(x,u)])
  (hsp:∀H:Hp,Only H->SqL K H a (ns.map V.int)->sp [.ref a] H (λv _=>v=.bl AC) λ_ _ _=>False)
  (hCX:∀H e s',CX [] H s₁ (λ_ _ _=>False) e s'->False):
  codeAny (model P w) callerA (.call (.ref fa) ⟨[.ref a],[]⟩) (λr s'=>r=.ok (.ret (.bool AC))/\OldK s₁.heap s'.heap/\s'.os=s₁.os/\DD s'.gens) s₁:=by
 have rv:=zfw hi;have lenV:=hi.length;have core:∀H:Hp,Only H->SqL K H a (ns.map V.int)->HOk P w H s₁.heap->(∀b,H b≠AD->b=a)->(H a≠AD->K.lookup a=AD) ->
   codeAny (model P w) callerA (.call (.ref fa) ⟨[.ref a],[]⟩) (λr s'=>r=.ok (.ret (.bool AC))/\OldK s₁.heap s'.heap/\s'.os=s₁.os/\DD s'.gens) s₁:=by
  intro H hO hS hok hA hK;have base_of:∀{b:AJ} {o:B7},s₁.heap.get? b=AA o->H b=AD->(ycb s₁.heap H).get? b=AA o:=λe n=>zj8 e n;have noA:∀{b:AJ} {o:B7} {es:Array By} {ep:Nat},s₁.heap.get? b=AA o->o.data=.dict es ep->H b=none:=λ{b o es ep} e d=>by
   cases q:H b with
   |none=>rfl
   |some u=>
    have e':b=a:=hA b (by rw[q];simp);subst e';rw[ha]at e;cases e;have d':Data.seq vs.toArray _=Data.dict es ep:=d
    cases d'
  have nsK:∀{b:AJ} {m:AL->Option AG},s₁.heap.Ns b m->(ycb s₁.heap H).Ns b m:=λ{b m} ⟨o,es,ep,e,d,r⟩=>⟨o,es,ep,base_of e (noA e d),d,r⟩;have hKb:K.In (ycb s₁.heap H):=λb o e=>base_of (KX b o e) (by
   cases q:H b with
   |none=>rfl
   |some u=>
    have e':b=a:=hA b (by rw[q];simp);subst e';rw[hK (by rw[q];simp)]at e;cases e)
  have hM:Mod K mg (ycb s₁.heap H):=⟨hKb,nsK hns,⟨mb,nsK hb,hbb⟩,let ⟨mc,h1,h2⟩:=hlim;⟨mc,nsK h1,h2⟩⟩;have e0:yb5 P w K mg (ycb s₁.heap H) callerA [] s₁ H:=⟨rfl,hM,λb o e=>zlT e,Hx (zhM _ _),trivial,λb hb=>absurd (show b∈([]:List AJ)from hb) (by simp),hok,.of_eq hg⟩;refine DF ((F _ hKb (nsK hns)).run callerA [] s₁ H ⟨[.ref a],[]⟩ [.ref a] [.ref a] _ _ hr e0 (hbind s₁ (.ref a)) (.cons rfl .nil) (hsp H hO hS)) λr s' h=>?_
  cases r with
  |error e=>exact(hCX H e s' h).elim
  |ok fl=>
   cases fl with
   |next=>exact BH h
   |brk=>exact BH h
   |cont=>exact BH h
   |ret u=>
    let⟨v,H',os,bare,un,hok',r',q⟩:=h;have q':v=.bl true:=q;subst q';obtain rfl:u=Dy true:=r';refine⟨rfl,OldK.of_keep λb o e=>?_,os,bare⟩
    cases q:H b with
    |none=>exact un.keep b o e q (by intro z;exact absurd (show b∈([]:List AJ)from z) (by simp)) (by simp)
    |some u=>
     rcases hO b with z|⟨ob,xs,z⟩
     .rw[q]at z;cases z
     .have z2:=un.frzs b ob _ z;let⟨e1,_⟩:=hok b _ z;let⟨e2,_⟩:=hok' b _ z2;rw[e]at e1;cases e1;exact e2
 cases hk:K.lookup a with
 |some o=>
  have e:=KX a o hk;rw[ha]at e
  cases e
  refine core (λ_=>AD) (λ_=>.inl rfl) (.inr ⟨_,vs.toArray,_,hk,rfl,rfl,rfl,by rw[AS,lenV];exact hl,by simpa using rv⟩) (λb u z=>by have z':(AD:Option HO)=AA u:=z;cases z') (λb z=>absurd rfl z) λz=>absurd rfl z
 |none=>
  refine core (λb=>if b=a then AA (.frz {cls:=.type "list",data:=.seq vs.toArray} (.lst (ns.map V.int)))else AD) (λb=>?_) (.inl (.inr ⟨{cls:=.type "list",data:=.seq vs.toArray},if_pos rfl⟩)) (λb u z=>?_) (λb z=>?_) λ_=>hk
  .by_cases hb:b=a
   .exact .inr ⟨_,_,if_pos hb⟩
   .exact .inl (if_neg hb)
  .by_cases hb:b=a
   .have z':=(if_pos hb).symm.trans z
    cases z'
    subst hb;exact⟨ha,by rw[Ap];exact hl,vs,_,rv,ha⟩
   .have z':=(if_neg hb).symm.trans z
    cases z'
  .by_cases hb:b=a
   .exact hb
   .exact absurd (if_neg hb) z
theorem walk_of{l:FD}{n k:Nat}{q:A4}{loose:List AL}{XP:(AL->Option AG)->Aq->Prop}{YP:Af->Aq->Prop}{d:DefRec}{K:Params->AF}{CX:Af->CXT}{sp:Af->Sp}{x:AL}
  (hn:l.most=AA n) (hn2:n<=sizeLine) (hdf:d.params.defaults=[]) (hr:yah k callerA)
  (hY:∀(w:Af) (h:Aq),YP w h->(K w.params).In h)
  (F:∀(w:Af) (mg:AL->Option AG) (fa:AJ) (h:Aq),(K w.params).In h->h.Ns mainGlobals mg->mg d.name=AA (.ref fa) ->
   ∃fd:Ao,(∀(s:AK) (u:AG),EY s fd ⟨[u],[]⟩ [(x,u)]) /\
    ∀base:Aq,(K w.params).In base->base.Ns mainGlobals mg->yaA l.prog w (K w.params) mg base (CX w) k fa fd [x] (sp w))
  (hsp:∀(w:Af) (H:Hp) (a:AJ) (ns:List Int),ns.length<=n->Only H->SqL (K w.params) H a (ns.map V.int)->sp w [.ref a] H (λv _=>v=.bl AC) λ_ _ _=>False)
  (hCX:∀(w:Af) (H:Hp) (s:AK) (e:AG) (s':AK),CX w [] H s (λ_ _ _=>False) e s'->False):
  HM q loose XP YP l.row.toRowW d [] (λf vs=>HX f vs):=by
 refine Att.attach_call hn hdf λw s₀ s₁ mg mb fa o pm cd doc a vs ns G Y ho hd hcd hmg hobj hints hlen hg=>?_;have KX:=hY w _ Y;let⟨fd,hb,hF⟩:=F w mg fa _ KX G.T.g hmg;exact zj1 KX G.T.g G.T.b G.T.builtins G.T.nolimit hg hobj hints (As hlen hn2) hr hF hb (λH hO hS=>hsp w H a ns hlen hO hS) λH e s'=>hCX w H s₁ e s'
def inClass(s:B9)(j:Nat):Stmt:=match s with
 |.ClassDef _ _ _ body _ _ _ _ _ _ _=>body.getD j (.Pass ⟨0,0,0,0⟩)
 |_=>.Pass ⟨0,0,0,0⟩
def yU(s:B9):Arguments:=match s with
 |.FunctionDef _ a _ _ _ _ _ _ _ _=>a
 |_=>{posonlyargs:=[],args:=[],vararg:=AD,kwonlyargs:=[],kw_defaults:=[],kwarg:=AD,defaults:=[]}
def yK(s:B9):List Stmt:=match s with
 |.FunctionDef _ _ b _ _ _ _ _ _ _=>b
 |_=>[]
def yh(s:B9):Scope:=match s with
 |.FunctionDef _ _ _ _ _ _ sc _ _ _=>sc
 |_=>{kind:=.function,names:=[],isGenerator:=AB,isCoroutine:=AB}
abbrev CX0:CXT:=λ_ _ _ _ _ _=>False
abbrev E0:XK:=λ_ _ _=>False
structure Fun(K:AF)(x qual:AL)(st:B9)(f:AJ)(fd:Ao):Prop where
 ex:∃(oc:AG) (od:Option AJ) (kV doc pm:AG) (an:Option AJ) (cdv ct:AG) (osl:Array (Option AG)),
  fd=BS x qual (yU st) (yK st) (yh st) .none kV doc pm an cdv ct/\K.lookup f=AA ⟨oc,od,.func fd,osl⟩/\Bz K cdv qual=AC
 kp:Ab K (.ref f)=AC
section
variable {P:A4}{w:Af}{K:AF}{mg:AL->Option AG}{base:Aq}
theorem Fun.binds{x qual:AL}{st:B9}{f:AJ}{fd:Ao}{ps:List AL}(F:Fun K x qual st f fd)
  (h:∀(kV doc pm:AG) (an:Option AJ) (cdv ct:AG) (us:List AG),us.length=ps.length->bindArgs (BS x qual (yU st) (yK st) (yh st) .none kV doc pm an cdv ct) ⟨us,[]⟩=pure (ps.zip us)):Binds K fd ps []:=by
 let⟨oc,od,kV,doc,pm,an,cdv,ct,osl,rfl,lk,hcd⟩:=F.ex;exact .all (h kV doc pm an cdv ct)
end
section
variable {X:Cx}
end
end L2
namespace WE
open PySem PySem.Spec PyProof.Rows
open AutoSeq1 (wpAny_loadPart')
section
variable {pg:A4}{wd:Af}{A:Ag}{Er:AG->AK->Prop}{s:AK}
def zcC{it t:AJ}{i:Nat}{xs:Array AG}{x:AG}{Q:AG->AK->Prop}(hi:s.heap.IsTupleIter it t i)(ht:s.heap.IsTuple t xs)(hx:xs[i]?=AA x)
  (k:∀h',h'.IsTupleIter it t (i+1)->C1 it s.heap h'->Q x {s with heap:=h'}):A2 (model pg wd) A (BF (.ref it)) Q Er s:=by
 let⟨oi,gi,ci,di⟩:=id hi;let⟨ot,gt,_,nt,dt⟩:=ht;unfold BF;refine AI (B1 (name:=AE "__next__") hi.typeIs CA (CU CA hi.typeIs Du ?_ (Do _)));show A2 _ _ (field (.ref it) 0 >>= _) _ _ _;refine AI (BM gi di (x:=.ref t) rfl ?_);show A2 _ _ (if (A7 t==Bo)=AC then _ else _) _ _ _;rw[if_neg (show ¬((A7 t==Bo)=AC)from λz=>Ai z)];show A2 _ _ (field (.ref it) 1 >>= _) _ _ _;refine AI (BM gi di (x:=.int i 0) rfl ?_);show A2 _ _ (seqItems? (.ref t) >>= _) _ _ _;refine AI (CV gt dt ?_);erw[CL,hx];refine AI (F5 gi di (by simp) (AV ⟨x,rfl,AV (k _ ?_ (Fp ..))⟩));refine⟨_,FW _ gi (Obj.isFreed_of_fields (GO di _)),(Obj.cls_mapFields ..).trans ci,?_⟩;rw[GO di];simp[rawInt]
def zfx{it t:AJ}{i:Nat}{xs:Array AG}{Q:AG->AK->Prop}(hh:A.handled=AD)(hi:s.heap.IsTupleIter it t i)(ht:s.heap.IsTuple t xs)(hx:xs[i]?=AD)
  (k:∀h' e,Heap.ExtBut it s.heap h'->(∃o,h'.get? e=AA o/\o.cls=.type "StopIteration")->Er (.ref e) {s with heap:=h'}):A2 (model pg wd) A (BF (.ref it)) Q Er s:=by
 let⟨oi,gi,ci,di⟩:=id hi;let⟨ot,gt,_,nt,dt⟩:=ht;unfold BF;refine AI (B1 (name:=AE "__next__") hi.typeIs CA (CU CA hi.typeIs Du ?_ (Do _)));show A2 _ _ (field (.ref it) 0 >>= _) _ _ _;refine AI (BM gi di (x:=.ref t) rfl ?_);show A2 _ _ (if (A7 t==Bo)=AC then _ else _) _ _ _;rw[if_neg (show ¬((A7 t==Bo)=AC)from λz=>Ai z)];show A2 _ _ (field (.ref it) 1 >>= _) _ _ _;refine AI (BM gi di (x:=.int i 0) rfl ?_);show A2 _ _ (seqItems? (.ref t) >>= _) _ _ _;refine AI (CV gt dt ?_);erw[CL,hx];refine AI (FG (AI (F5 gi di (by simp) ?_)));show A2 _ _ (newExc (.type "StopIteration") [] >>= _) _ _ _;refine AI ?_;erw[newExc,newTuple];refine AI (BV ?_ (by size_fits));refine AI (m:=firstArgMember _ _) (wpAny_of_eq (a:=Bo) (by first|rfl|(erw[firstArgMember];rfl)) ?_);refine BV ?_ (by size_fits);erw[raiseNew];refine AI (wpAny_handled ?_);first|rw[show A.in1.handled=AD from hh]|rw[hh]
 refine AI (AV (wpAny_throw ?_));exact k _ _ (((Fp ..).extBut.push _).push _) ⟨_,A3 _ rfl,rfl⟩
end
theorem draws_tuple{pg:A4}{wd:Af}{A:Ag}(hh:A.handled=AD)(it t:AJ)(hne:t≠it)(xs:Array AG):
  Draws pg wd A it [it,t] xs.size (λi v=>xs[i]?=AA v) (λi h=>h.IsTupleIter it t i/\h.IsTuple t xs) where
 live:=λ_ _ st=>let ⟨o,g,_⟩:=st.1;⟨o,g⟩
 frame:=λ_ _ _ st kp=>⟨let ⟨o,g,r⟩:=st.1;⟨o,kp it (by simp) o g,r⟩,let ⟨o,g,r⟩:=st.2;⟨o,kp t (by simp) o g,r⟩⟩
 item:=λi s Q E hi st hQ=>zcC st.1 st.2 (x:=xs[i]) (by simp[hi]) λh' hit' hs'=>hQ _ h' s.toks (by simp[hi]) ⟨hit',st.2.extBut hs'.extBut hne⟩ hs'
 done:=λs Q E st hE=>zfx hh st.1 st.2 (by simp) hE
def zfG(l:AJ)(xs:Array AG)(n:Nat)(dc:Option AJ)(sl:Array (Option AG)):
  Meets (Dv.«enumerate.__new__» ⟨[.type "enumerate",.ref l],[]⟩) (λ_ R s=>s.heap.get? l=AA {cls:=.type "tuple",dict:=dc,data:=.seq xs n,slots:=sl} /\
   R (.ok (.ret (.ref (s.heap.push {cls:=.type "tuple_iterator",data:=.fields #[.ref l,.int 0 0]}).objs.size)))
    {s with heap:=(s.heap.push {cls:=.type "tuple_iterator",data:=.fields #[.ref l,.int 0 0]}).push {cls:=.type "enumerate",data:=.fields #[.none,.bool AB,.ref s.heap.objs.size,rawInt 0,.none,.none]} }):=
 .of_wp λprog w A R s h=>by
  let⟨hp,g,d,tk,os⟩:=s;let⟨gl,h⟩:=h;have hsub:=sub_enumerate;have hT:G6 (HF ⟨hp,g,d,tk,os⟩) l xs:=⟨_,gl,rfl,n,rfl⟩
  wp_walk using wpAny_loadPart' gl
  refine wpAny_stack_any λst=>AV ?_;split
  .rename_i c _ _ _ _ _
   cases (c==FF "enumerate")
   .wp_walk using wpAny_loadPart' gl,Bc hT
    exact⟨_,rfl,h⟩
   .wp_walk using wpAny_loadPart' gl,Bc hT
    exact⟨_,rfl,h⟩
  .wp_walk using wpAny_loadPart' gl,Bc hT
   exact⟨_,rfl,h⟩
theorem call_enumT{pg:A4}{wd:Af}{A:Ag}{Er:AG->AK->Prop}{s:AK}{l:AJ}{xs:Array AG}{Q:AG->AK->Prop}(hT:s.heap.IsTuple l xs)
  (k:∀h',IsEnum h' (s.heap.objs.size+1) s.heap.objs.size 0 .none->h'.IsTupleIter s.heap.objs.size l 0->h'.objs.size=s.heap.objs.size+2 ->
   (∀b o,s.heap.get? b=AA o->h'.get? b=AA o)->Q (.ref (s.heap.objs.size+1)) {s with heap:=h'}):A2 (model pg wd) A (call (.type "enumerate") [.ref l]) Q Er s:=by
 let⟨⟨c,dct,dt,sl⟩,gl,hc,n,hd⟩:=hT
 cases (show c=.type "tuple" from hc)
 cases (show dt=.seq xs n from hd)
 refine callType_new F.called_enumerate ⋯ (F.typeCall_enumerate_1 _) (F.newCall_enumerate_1 _) (λobj=>F.args_object_init_2 obj _) F.entry_enumerate_new (zfG l xs n dct sl) ⟨gl,?_⟩;have hz:(s.heap.push {cls:=.type "tuple_iterator",data:=.fields #[.ref l,.int 0 0]}).objs.size=s.heap.objs.size+1:=Bi ..;show _/\_;rw[hz];have he:IsEnum ((s.heap.push {cls:=.type "tuple_iterator",data:=.fields #[.ref l,.int 0 0]}).push {cls:=.type "enumerate",data:=.fields #[.none,.bool AB,.ref s.heap.objs.size,rawInt 0,.none,.none]}) (s.heap.objs.size+1) s.heap.objs.size 0 .none:=by
  have q:=A3 (s.heap.push {cls:=.type "tuple_iterator",data:=.fields #[.ref l,.int 0 0]}) (o:={cls:=.type "enumerate",data:=.fields #[.none,.bool AB,.ref s.heap.objs.size,rawInt 0,.none,.none]}) rfl;rw[hz]at q;exact q
 exact⟨⟨_,he,rfl⟩,k _ he ⟨_,AO _ (A3 _ rfl),rfl,rfl⟩ (by rw[Bi,hz]) λb o y=>AO _ (AO _ y)⟩
end WE
namespace L2
open PySem PySem.Spec PyProof.Rows
section
variable {X:Cx}
def ydy(i j:Int):Prop:=0<j/\j<10000000000000000000000000000000000000000000000000000000000000000000000
def zjk:OpR X (binaryOp .FloorDiv) (rI ydy λi j=>.int (i/j)):=opI λi j _ _ _ _ _ hc q=>by
 let⟨h1,h2⟩:=hc;refine floordiv_int ∅ (by rw[ED i ∅];exact q) (.inl (PyProof.noPylong_of_log2 ?_));have h0:j.natAbs≠0:=by lia
 refine A0 ((IM h0).mpr (?_:j.natAbs<2^250)) ⋯;have e:(10000000000000000000000000000000000000000000000000000000000000000000000:Nat)<2^250:=by decide
 lia
end
section
variable {X:Cx}{π:List (AJ×B7)}{σ:St}{H:Hp}{s:AK}{h':Aq}
theorem Inv.turnLaid{t':Nat}{ch:List AJ}{T:AJ}{o:HO}(I:Inv X π σ H s)(hf:∀b∈ch,ybb X π H b)(k:∀b u,b∉ch->s.heap.get? b=AA u->h'.get? b=AA u)
  (hp:s.heap.objs.size<=T) (new:yM X.prog X.w (upd H T o) h' T o):Inv X π σ (upd H T o) {s with heap:=h',toks:=t'}:=by
 have hn:H T=none:=I.hok.fresh hp;have nch:∀b u,H b=AA u->b∉ch:=λb u e z=>by
  have q:=(hf b z).1;rw[e]at q
  cases q
 refine I.step (g':=s.gens) (d':=s.drawn) (ch:=ch) (λb hb=>?_) (λb u _ _ hc e _=>k b u hc e) (λb u _ _ hc e _=>⟨u.slots,k b u hc e⟩) (λb u _ e n=>?_) (λb u hc e=>⟨u,k b u hc e⟩) (λb xs e=>?_) (λb u v e=>?_) (λb ps e=>⟨#[],?_⟩) (λm hm=>?_) (λb u e=>?_) I.bare
 .let⟨f0,f1,f2,f3,f4,f5⟩:=hf b hb;exact⟨f3,f1,f4,f5⟩
 .rw[zd (Ah (A0 (AZ e) hp))];exact n
 .rw[zd (zk e hn)];exact e
 .rw[zd (zk e hn)];exact e
 .rw[zd (zk e hn),e];simp
 .let⟨ob,es,ep,ho,r⟩:=hm;exact⟨ob,es,ep,k _ ob (λz=>(hf _ z).2.1 rfl) ho,r⟩
 .by_cases hb:b=T
  .subst hb;rw[zm]at e
   cases e
   exact new
  .rw[zd hb]at e;refine(I.hok b u e).stay (λc v hc q=>k c v ?_ q) (λc q=>by rw[zd (zk q hn)];exact q) λc xs q=>by rw[zd (zk q hn)];exact q
   rcases hc with z|z
   .rw[z];exact nch b u e
   .exact nch c _ z
theorem Inv.turnedL{t':Nat}{ch:List AJ}(I:Inv X π σ H s)(hf:∀b∈ch,ybb X π H b)(k:∀b u,b∉ch->s.heap.get? b=AA u->h'.get? b=AA u):Inv X π σ H {s with heap:=h',toks:=t'}:=by
 have nch:∀b u,H b=AA u->b∉ch:=λb u e z=>by
  have q:=(hf b z).1;rw[e]at q
  cases q
 refine I.step (g':=s.gens) (d':=s.drawn) (ch:=ch) (λb hb=>?_) (λb u _ _ hc e _=>k b u hc e) (λb u _ _ hc e _=>⟨u.slots,k b u hc e⟩) (λ_ _ _ _ n=>n) (λb u hc e=>⟨u,k b u hc e⟩) (λ_ _ e=>e) (λ_ _ _ e=>e) (λb ps e=>⟨#[],by rw[e];simp⟩) (λm hm=>?_) (λb u e=>?_) I.bare
 .let⟨f0,f1,f2,f3,f4,f5⟩:=hf b hb;exact⟨f3,f1,f4,f5⟩
 .let⟨ob,es,ep,ho,r⟩:=hm;exact⟨ob,es,ep,k _ ob (λz=>(hf _ z).2.1 rfl) ho,r⟩
 .refine(I.hok b u e).stay (λc v hc q=>k c v ?_ q) (λ_ q=>q) λ_ _ q=>q;rcases hc with z|z
  .rw[z];exact nch b u e
  .exact nch c _ z
end
def Ite(K:AF)(a:AJ):It:=
 ⟨λi H=>∃xs x,SqT K H a xs/\xs[i]?=AA x,λi H x H'=>∃T,H T=AD/\x=.ref T/\∀xs y,SqT K H a xs->xs[i]?=AA y->H'=upd H T (.tup [.int i,y]),λi H=>∃xs,SqT K H a xs/\xs.length=i⟩
def zd6{h:Aq}{a b:AJ}{o u:B7}(x:h.get? a=AA o)(y:h.get? b=AA u)(z:o.cls≠u.cls):a≠b:=λe=>by
 subst e;rw[x]at y
 cases y
 exact z rfl
def zg2{P:A4}{w:Af}{K:AF}{es:List AT}{kk:Nat}{pos:CB}(a e it:AJ):
  Turn P w K (.Tuple es kk pos) (Ite K a) [e,it] e (λi h=>(∃old,IsEnum h e it i old)/\h.IsTupleIter it a i) where
 mem:=by simp
 obj:=λi h st b hb=>by
  let⟨⟨old,he⟩,oi,gi,ci,di⟩:=st;rcases AX.mp hb with z|z
  .subst z;exact⟨_,he,λv y=>nomatch y⟩
  .have z:b=it:=by simpa using z
   subst z;exact⟨oi,gi,λv y=>by rw[di]at y;cases y⟩
 keep:=λi h h' st k=>by
  let⟨⟨old,he⟩,oi,gi,r⟩:=st;exact⟨⟨old,k e (by simp) _ he⟩,oi,k it (by simp) _ gi,r⟩
 item:=by
  intro X hP hw hK hc i π s σ H E I hf st hg;subst hP hw hK;let⟨xs,x,hq,hx⟩:=hg;let⟨its,rv,p,hz⟩:=I.tuple hq;let⟨⟨old,he⟩,hi⟩:=st;let⟨oi,gi,ci,di⟩:=id hi;let⟨oa,ga,ca,na,da⟩:=id p;have nai:a≠it:=zd6 ga gi (by rw[ca,ci];exact λz=>absurd (Cd z) ⋯);have nei:e≠it:=zd6 he gi (by rw[ci];exact λz=>absurd (Cd z) ⋯);have nea:e≠a:=zd6 he ga (by rw[ca];exact λz=>absurd (Cd z) ⋯);have hl:=rv.length;have hil:i<its.toArray.size:=by
   have:=(Am.mp hx).1;simpa using (by lia:i<its.length)
  have W:=G7 (prog:=X.prog) (w:=X.w) (A:=X.A) (WE.draws_tuple (pg:=X.prog) (wd:=X.w) (A:=X.A.in1) (I.ok.hd hc) it a nai its.toArray) e nei (by simp[nei,nea]) (by simp);refine W.item i s _ E hil ⟨⟨old,he⟩,hi,p⟩ λT vals h1 tk hP hsz hT mid kp=>⟨.ref T,rfl,?_⟩;refine W.go es kk pos i T _ _ E mid λh2 st2 kp2=>?_;let⟨t,y,hy,rfl⟩:=hP;let⟨u,hu,ru⟩:=rv.get hx;have ey:y=u:=AY (hy.symm.trans (by simpa using hu));subst ey;have hch:∀b o,b∉[e,it]->s.heap.get? b=AA o->h2.get? b=AA o:=λb o hb q=>kp2 b o hb (kp b o hb q);have hTw:=W.apart i T h1 mid;have new:yM X.prog X.w (upd H T (.tup [.int i,x])) h2 T (.tup [.int i,x]):=by
   let⟨o,g,r⟩:=hT;exact⟨by show 2<=sizeLine;decide,[.int i t,y],.cons ⟨t,rfl⟩ (.cons ru .nil),o,kp2 T o hTw g,r⟩
  have I2:=I.turnLaid (t':=tk) hf hch hsz new;refine⟨.ref T,_,I2,rfl,⟨T,I.hok.fresh hsz,rfl,λys z hy' hz'=>?_⟩,⟨st2.1,st2.2.1⟩,λb hb=>?_⟩
  .rw[I.tuple_inj hy' hq]at hz';rw[hx]at hz'
   cases hz'
   rfl
  .rw[zd (λz:b=T=>hTw (z ▸ hb))];exact(hf b hb).1
 done:=by
  intro X hP hw hK hc i π s σ H E I hf st hg;subst hP hw hK;let⟨xs,hq,hx⟩:=hg;let⟨its,rv,p,hz⟩:=I.tuple hq;let⟨⟨old,he⟩,hi⟩:=st;let⟨oi,gi,ci,di⟩:=id hi;let⟨oa,ga,ca,na,da⟩:=id p;have nai:a≠it:=zd6 ga gi (by rw[ca,ci];exact λz=>absurd (Cd z) ⋯);have nei:e≠it:=zd6 he gi (by rw[ci];exact λz=>absurd (Cd z) ⋯);have nea:e≠a:=zd6 he ga (by rw[ca];exact λz=>absurd (Cd z) ⋯);have hl:=rv.length;have W:=G7 (prog:=X.prog) (w:=X.w) (A:=X.A) (WE.draws_tuple (pg:=X.prog) (wd:=X.w) (A:=X.A.in1) (I.ok.hd hc) it a nai its.toArray) e nei (by simp[nei,nea]) (by simp);have en:its.toArray.size=i:=by simp;lia
  refine W.done s _ E (by rw[en];exact⟨⟨old,he⟩,hi,p⟩) λh2 tk kp=>⟨rfl,I.turnedL (t':=tk) hf kp⟩
 self:=λ_ _ _ _ _ st q=>by
  let⟨⟨old,he⟩,_⟩:=st;exact G8 he q
def yfU(K:AF)(ta:TA):TI:=λσ H R=>ta σ H λvs H1=>∃a,vs=[.ref a]/\(∃xs,SqT K H1 a xs)/\R (Ite K a) H1
def zjR{X:Cx}{a:AT}{es:List AT}{kk:Nat}{tp:CB}{ta:TA}{p pos:CB}(hg:Gl X "enumerate")(hm:X.mg "enumerate"=AD)(ha:PA X [a] ta)(hs:starEach [a] X.env=[(AB,eval a X.env)]:=by rfl):
  PI X (.Tuple es kk tp) (.Call (.Name "enumerate" p) [a] [] pos) (yfU X.K ta):=by
 intro π s σ H R I h;refine BI (zdW I hg hm boot_enumerate ?_);refine Bw (thn (ha pos π s σ H _ I h) λus s1 kq=>?_) hs rfl;let⟨vs,H1,I1,r1,q1⟩:=kq;let⟨l,rfl,⟨xs,hq⟩,q⟩:=q1;let⟨u,rfl,ru⟩:=Vals.one r1
 cases (show u=A7 l from ru)
 let⟨its,rv,pt,hz⟩:=I1.tuple hq;refine WE.call_enumT (show s1.heap.IsTuple l its.toArray from pt) λh1 he hi hsz kp=>?_;refine G8 he ?_;refine⟨_,[s1.heap.objs.size+1,s1.heap.objs.size],_,_,H1,rfl,I1.kept (t':=s1.toks) kp,zg2 l _ s1.heap.objs.size,⟨⟨_,he⟩,hi⟩,λb hb=>?_,q⟩;have hb2:s1.heap.objs.size<=b:=by
  rcases AX.mp hb with z|z
  .subst z;exact CK _
  .have z:b=s1.heap.objs.size:=by simpa using z
   subst z;exact AR _
 exact I1.fpOk hb2 (I1.hok.fresh hb2)
abbrev No:AG->AK->Prop:=λ_ _=>False
abbrev ycW(ifs:List AT)(env:Env):Hh Bool:=forIn ifs AC λc r=>if r=AC then do let ok <-isTrue c env (eval c env);pure (HJ ok)else pure (HJ r)
section
variable {pg:A4}{wd:Af}{A:Ag}{R:GJ->AK->Prop}{s:AK}
def zhI{elt tg iter:AT}{ifs:List AT}{sc:BZ}{pos:CB}{it acc:AG}{env:Env}(I:Nat->AK->Prop)
  (turn:∀n s,I n s->A2 (model pg wd) A (pyNext it) (λr s1=>match r with
   |none=>R (.ok .next) s1
   |some v=>A2 (model pg wd) A (letOwnedTupleGo tg it v) (λ_ s2=>A2 (model pg wd) A (assign tg env v) (λ_ s3=>A2 (model pg wd) A (ycW ifs env) (λok s4=>
     if ok=AC then A2 (model pg wd) A (eval elt env) (λx s5=>A2 (model pg wd) A (call (.builtin "list.append") [acc,x]) (λ_ s6=>∃m,m<n/\I m s6) No s5) No s4
     else ∃m,m<n/\I m s4) No s3) No s2) No s1) No s)
  (n:Nat) (h:I n s):codeAny (model pg wd) A (.compLoop (.ListComp elt [⟨tg,iter,ifs,0⟩] sc pos) 0 it acc env) R s:=by
 refine codeAny_loop rfl I (λn s hI=>?_) n h;show A2 _ A ((compTurn (.ListComp elt [⟨tg,iter,ifs,0⟩] sc pos) 0 it acc env).onRaise (λx=>do noteFrame x env;theTreesLotGoes x)) _ _ s;refine wpAny_noted ?_;rw[compTurn_list];refine AI (Ef (AI (Bb (turn n s hI) (λr s1 h1=>?_) λ_ _ f=>f.elim)))
 cases r with
 |none=>exact AV h1
 |some v=>
  refine AI (Bb h1 (λ_ s2 h2=>AI (Bb h2 (λ_ s3 h3=>AI (Bb h3 (λok s4 h4=>?_) λ_ _ f=>f.elim)) λ_ _ f=>f.elim)) λ_ _ f=>f.elim)
  cases ok with
  |false=>exact AV ⟨rfl,h4⟩
  |true=>exact AI (AI (Bb h4 (λx s5 h5=>AI (Bb h5 (λ_ s6 h6=>AV (AV ⟨rfl,h6⟩)) λ_ _ f=>f.elim)) λ_ _ f=>f.elim))
end
def yX(env:Env)(r:List (AL×AJ))(x:AL×DG):List (AL×AJ):=if x.2=.free then(x.1,(env.cells.lookup x.1).getD 0)::r else r
def yc5(sc:BZ)(env:Env):List (AL×AJ):=sc.names.foldl (yX env) []
def zg1{α β:Type}{l:List α}{f:α->β->Hh (ForInStep β)}{g:β->α->β}(h:∀x∈l,∀c,f x c=pure (.yield (g c x))):∀c:β,forIn l c f=pure (l.foldl g c):=by
 induction l with
 |nil=>exact λ_=>rfl
 |cons x l ih=>
  intro c;rw[FQ,h x A8,pure_bind,C7];exact ih (λy hy=>h y (AQ _ hy)) (g c x)
def zdk{sc:BZ}{env:Env}(hf:∀y∈sc.names,y.2=.free->∃c,env.cells.lookup y.1=AA c):closureFor sc env=pure (yc5 sc env):=by
 erw[closureFor];rw[zg1 (g:=yX env) (λx hx c=>?_)]
 .rfl
 .let⟨n,k⟩:=x
  by_cases hk:k=.free
  .subst hk;let⟨a,ha⟩:=hf _ hx rfl;have ha':env.cells.lookup n=AA a:=ha;simp[yX,cellOf,ha']
  .have hb:(k==Ca)=false:=by simpa using hk
   simp[yX,hk,hb]
def zdX{env:Env}:∀(l:List (AL×DG)) (r:List (AL×AJ)),(∀y∈l,y.2=.free->∃c,env.cells.lookup y.1=AA c)->(∀x c,r.lookup x=AA c->env.cells.lookup x=AA c) ->
  ∀x c,(l.foldl (yX env) r).lookup x=AA c->env.cells.lookup x=AA c
 |[],r,_,h=>h
 |y::l,r,hf,h=>by
  refine zdX l (yX env r y) (λz hz=>hf z (AQ _ hz)) λx c e=>?_;unfold yX at e
  by_cases hk:y.2=.free
  .let⟨a,ha⟩:=hf y A8 hk;rw[if_pos hk,BU]at e
   cases hx:x==y.1 with
   |true=>
    rw[hx,ha]at e;rw[eq_of_beq hx,ha];exact e
   |false=>
    rw[hx]at e;exact h x c e
  .rw[if_neg hk]at e;exact h x c e
def zdl{env:Env}{x:AL}:∀(l:List (AL×DG)) (r:List (AL×AJ)),(∃c,r.lookup x=AA c)->∃c,(l.foldl (yX env) r).lookup x=AA c
 |[],r,h=>h
 |y::l,r,h=>by
  refine zdl l (yX env r y) ?_;unfold yX
  by_cases hk:y.2=.free
  .rw[if_pos hk,BU]
   cases hx:x==y.1 with
   |true=>exact⟨_,rfl⟩
   |false=>exact h
  .rw[if_neg hk];exact h
def zcF{env:Env}:∀(l:List (AL×DG)) (r:List (AL×AJ)),∀y∈l,y.2=.free->∃c,(l.foldl (yX env) r).lookup y.1=AA c
 |[],_,y,hy,_=>nomatch hy
 |z::l,r,y,hy,hk=>by
  rcases AX.mp hy with e|e
  .subst e;refine zdl l (yX env r y) ?_;unfold yX;rw[if_pos hk,BU,beq_self_eq_true];exact⟨_,rfl⟩
  .exact zcF l (yX env r z) y e hk
theorem mem_of_lookup{β:Type}{x:AL}{k:β}:∀{l:List (AL×β)},l.lookup x=AA k->(x,k)∈l
 |[],h=>nomatch h
 |y::l,h=>by
  rw[BU]at h
  cases hx:x==y.1 with
  |true=>
   rw[hx]at h
   cases h
   rw[eq_of_beq hx];exact A8
  |false=>
   rw[hx]at h;exact AQ _ (mem_of_lookup h)
def ycR(env:Env)(x:AL)(k:DG):NameKind:=if (k==.free&&env.scope.kind==.function&&env.kindOf x==AA .cell)=AC then .cell else k
def zd8{sc:BZ}{env:Env}(x:AL):(relabel sc env).names.lookup x=(sc.names.lookup x).map (ycR env x):=by
 unfold relabel;show (sc.names.map λ(n,k)=>if (k==Ca&&env.scope.kind==.function&&env.kindOf n==AA .cell)then(n,Fy)else(n,k)).lookup x=_
 induction sc.names with
 |nil=>rfl
 |cons y l ih=>
  let⟨n,k⟩:=y;rw[AU];show Bg x ((if (k==Ca&&env.scope.kind==.function&&env.kindOf n==AA .cell)=AC then(n,Fy)else(n,k))::_)=_
  cases hx:x==n with
  |true=>
   have e:=eq_of_beq hx;subst e
   by_cases hc:(k==Ca&&env.scope.kind==.function&&env.kindOf x==AA .cell)=AC
   .rw[if_pos hc,BU,beq_self_eq_true];simp[ycR,hc]
   .rw[if_neg hc,BU,beq_self_eq_true];simp[ycR,hc]
  |false=>
   by_cases hc:(k==Ca&&env.scope.kind==.function&&env.kindOf n==AA .cell)=AC
   .rw[if_pos hc];erw[BU,hx];exact ih
   .rw[if_neg hc];erw[BU,hx];exact ih
structure CI where
 C:AJ
 s:AK
 H:Hp
 fp:List AJ
def cxC(X:Cx)(sc:BZ)(NC:List AL)(j:CI):Cx where
 prog:=X.prog
 w:=X.w
 K:=X.K
 mg:=X.mg
 base:=X.base
 A:=X.A
 N:=NC
 s₀:=j.s
 H₀:=j.H
 env:=compEnvC sc (yc5 sc X.env) j.C X.env
 outer:=X.stack
 stack:=X.stack
 ex:=j.fp
 fn:=λ_=>AB
 calm:=X.calm
 pn:=[]
 xe:=No
def inn(slots:List (Option Nat))(σ:St):St:=slots.map λo=>o.bind λj=>(σ[j]?).join
structure yZ(X:Cx)(sc:BZ)(NC:List AL)(slots:List (Option Nat)):Prop where
 kind:sc.kind=.function
 names:∀y∈sc.names,y.2=.local->sc.names.lookup y.1=AA .local
 nocell:∀y∈sc.names,y.2 ≠ .cell
 free:∀y∈sc.names,y.2=.free->X.env.scope.names.lookup y.1=AA .cell
 slot:∀(i:Nat) (x:AL) (j:Nat),NC[i]?=AA x->slots[i]?=AA (AA j)->X.N[j]?=AA x/\sc.names.lookup x=AA .free
 len:slots.length=NC.length
def zqB{X:Cx}{sc:BZ}{NC:List AL}{slots:List (Option Nat)}(N:List AL)(so:BZ)(hN:X.N=N)(hs:X.env.scope=so)(kind:sc.kind=.function)
  (names:∀y∈sc.names,y.2=.local->sc.names.lookup y.1=AA .local) (nocell:∀y∈sc.names,y.2 ≠ .cell) (free:∀y∈sc.names,y.2=.free->so.names.lookup y.1=AA .cell)
  (slot:∀p∈NC.zip slots,(p.2.all λj=>decide (N[j]?=AA p.1/\sc.names.lookup p.1=AA .free))=AC) (len:slots.length=NC.length):yZ X sc NC slots:=by
 subst hN hs;refine⟨kind,names,nocell,free,λi x j e1 e2=>?_,len⟩;have hm:(x,AA j)∈NC.zip slots:=AW (i:=i) (by rw[List.getElem?_zip_eq_some];exact⟨e1,e2⟩);have:=slot _ hm;simpa using this
section
variable {X:Cx}{sc:BZ}{NC:List AL}{slots:List (Option Nat)}{π:List (AJ×B7)}{σ:St}{H:Hp}{s:AK}
theorem yZ.cells(O:yZ X sc NC slots)(ok:X.Ok):∀y∈sc.names,y.2=.free->∃c,X.env.cells.lookup y.1=AA c:=λy hy hk=>ok.has y.1 (.inl (O.free y hy hk))
theorem yZ.sub(O:yZ X sc NC slots)(ok:X.Ok):∀x c,(yc5 sc X.env).lookup x=AA c->X.env.cells.lookup x=AA c:=zdX sc.names [] (O.cells ok) λ_ _ e=>nomatch e
theorem yZ.rel(O:yZ X sc NC slots)(ok:X.Ok){x:AL}(h:sc.names.lookup x=AA .free):(relabel sc X.env).names.lookup x=AA .cell:=by
 rw[zd8,h];have e:X.env.kindOf x=AA .cell:=O.free _ (mem_of_lookup h) rfl;simp[ycR,ok.kind,e]
def zgS(I:Inv X π σ H s)(O:yZ X sc NC slots){fp:List AJ}(hf:∀b∈fp,ybb X π H b)(hob:∀b∈fp,∃o,s.heap.get? b=AA o){h1:Aq}{t':Nat}{m:AL->Option AG}(hns:h1.Ns s.heap.objs.size m)
  (hk:∀b o,s.heap.get? b=AA o->h1.get? b=AA o):Inv (cxC X sc NC ⟨s.heap.objs.size,s,H,fp⟩) [] (inn slots σ) H {s with heap:=h1,toks:=t'}:=by
 have sub:=O.sub I.ok;have fss:∀b,b≠X.env.locals->b∉X.fs->b∉frs X.stack:=λb h1 h2 hb=>(AX.mp (I.stkSub b hb)).elim h1 h2;have ltC:∀x c,(yc5 sc X.env).lookup x=AA c->c<s.heap.objs.size:=λx c e=>by
  let⟨v,q⟩:=I.cell x c (sub x c e);exact q.lt
 refine⟨⟨I.ok.mod,O.kind,I.ok.glob,I.ok.blt,AR _,λx y c e1 e2=>I.ok.inj x y c (sub x c e1) (sub y c e2),λx hx=>?_,λ_ _ z=>(nomatch z),I.ok.hd,I.ok.frames,.inl rfl,λb hb=>⟨?_,λx c e=>(hf b hb).2.2.2.2.1 x c (sub x c e)⟩,I.bs,As I.ok.bsz I.sz,λb o e hb=>?_,λb hb=>fss b (hf b hb).2.1 (hf b hb).2.2.1,I.stack,I.stkFree⟩,
  rfl,I.bare,Un.kept hk,⟨m,hns,λi x v e1 e2 e3=>?_⟩,λx c e=>?_,I.hok.fresh (AR _),λx c e=>I.freeC x c (sub x c e),λp hp=>(nomatch hp),I.hok.kept hk,?_⟩
 .have hx':(relabel sc X.env).names.lookup x=AA .cell \/ (relabel sc X.env).names.lookup x=AA .free:=hx;rw[zd8]at hx'
  cases q:sc.names.lookup x with
  |none=>
   rw[q]at hx';rcases hx' with z|z<;>cases z
  |some k=>
   have hm:=mem_of_lookup q;have hkf:k=.free:=by
    rw[q]at hx';have nc:=O.nocell _ hm
    by_cases hk:k=.free
    .exact hk
    .exfalso;have hb:(k==Ca)=false:=by simpa using hk
     rcases hx' with z|z
     .simp[ycR,hb]at z;exact nc z
     .simp[ycR,hb]at z;exact hk z
   subst hkf;exact zcF sc.names [] _ hm rfl
 .let⟨o,e⟩:=hob b hb;exact Ah (AZ e)
 .rcases (hf b hb).2.2.2.1 with z|z
  .exact I.ok.noex b o e z
  .exact absurd (A0 (AZ e) (As I.ok.bsz z)) (Cr _)
 .obtain⟨j,e4,e5⟩:∃j,slots[i]?=AA (AA j)/\σ[j]?=AA (AA v):=by
   have e2':(slots.map λo=>o.bind λj=>(σ[j]?).join)[i]?=AA (AA v):=e2;rw[Bk]at e2'
   cases q:slots[i]? with
   |none=>
    rw[q]at e2'
    cases e2'
   |some o=>
    rw[q]at e2'
    cases o with
    |none=>cases e2'
    |some j=>
     refine⟨j,rfl,?_⟩;have e6:(σ[j]?).join=AA v:=AY e2'
     cases q2:σ[j]? with
     |none=>
      rw[q2]at e6
      cases e6
     |some w=>
      rw[q2]at e6;have e7:w=AA v:=e6;rw[e7]
  let⟨e6,e7⟩:=O.slot i x j e1 e4;have kc:X.env.scope.names.lookup x=AA .cell:=O.free _ (mem_of_lookup e7) rfl;let⟨m0,hn0,hl⟩:=I.loc;let⟨u,r,lk⟩:=hl j x v e6 e5 (.inr (.inl kc));refine⟨u,r,.inr ⟨.inl (O.rel I.ok e7),?_⟩⟩;rcases lk with⟨z,_⟩|⟨_,c,hc,o,ho,hd⟩
  .rw[show X.env.kindOf x=AA .cell from kc]at z
   cases z
  .let⟨c',hc'⟩:=zcF (env:=X.env) sc.names [] _ (mem_of_lookup e7) rfl;have e8:c'=c:=AY ((sub x c' hc').symm.trans hc);subst e8;exact⟨c',hc',o,hk _ _ ho,hd⟩
 .let⟨v,o,ho,hd⟩:=I.cell x c (sub x c e);exact⟨v,o,hk _ _ ho,hd⟩
 .show (slots.map λo=>o.bind λj=>(σ[j]?).join).length=NC.length;rw[Ap,O.len]
def zhd(I:Inv X π σ H s){fp:List AJ}(hf:∀b∈fp,ybb X π H b){C:AJ}(hC:s.heap.objs.size<=C){pl:List (AJ×B7)}{σ':St}{H':Hp}{s':AK}(J:Inv (cxC X sc NC ⟨C,s,H,fp⟩) pl σ' H' s')
  {h2:Aq} (hb:C1 C s'.heap h2):Inv X π σ H' {s' with heap:=h2}:=by
 have nC:∀b o,s.heap.get? b=AA o->b≠C:=λb o e=>Ah (A0 (AZ e) hC);have B:Un (frs X.stack) fp H H' s.heap s'.heap:=J.base;have fC:H' C=none:=J.free;refine I.call' (ch:=fp) J.os ⟨λb o e n h3 h4=>(hb.2 b (nC b o e)).trans (B.keep b o e n h3 h4),λb o e n h3 h4=>?_,B.free,λb o e h4=>?_,B.tups,B.frzs,B.tbls⟩ (λb u e=>?_) J.bare λb h3=>⟨(hf b h3).2.2.2.1,(hf b h3).2.1,(hf b h3).2.2.2.2.1,(hf b h3).2.2.2.2.2⟩
 .let⟨sl,q⟩:=B.slot b o e n h3 h4;exact⟨sl,(hb.2 b (nC b o e)).trans q⟩
 .let⟨o',q⟩:=B.there b o e h4;exact⟨o',(hb.2 b (nC b o e)).trans q⟩
 .refine(J.hok b u e).stay (λc v hc q=>(hb.2 c λz=>?_).trans q) (λ_ q=>q) λ_ _ q=>q;subst z;rcases hc with z|z
  .rw[z,e]at fC
   cases fC
  .rw[z]at fC
   cases fC
end
def PTs(X:Cx)(ifs:List AT)(t:TT):Prop:=
 ∀(π:List (AJ×B7)) (s:AK) (σ:St) (H:Hp) (Q:Bool->Hp->Prop),Inv X π σ H s->t σ H Q->A2 (model X.prog X.w) X.A (ycW ifs X.env) (TP X π σ Q) X.xe s
def ygy:TT:=λ_ H Q=>Q AC H
def zma{X:Cx}:PTs X [] ygy:=λ_ _ _ H _ I h=>wpAny_tests_nil ⟨H,I,h⟩
def zlZ{X:Cx}{c:AT}{t:TT}(h:PT X c t):PTs X [c] t:=λπ s σ H Q I q=>wpAny_tests_one (h π s σ H Q I q)
def ycH(J:It)(D:AJ)(g:TG)(ti:TT)(te:TE)(W:Nat->Nat->St->List V->Hp->Prop)(Q:Hp->Prop):Prop:=
 ∀i m σc ys H2,W i m σc ys H2->H2 D=AA (.lst ys)/\((J.stop i H2/\Q H2) \/ (J.go i H2/\ys.length<sizeLine/\∃N:St->List V->Hp->Prop,(∀σ' ys' H',N σ' ys' H'->∃m',m' < m/\W (i+1) m' σ' ys' H') /\
  ∀x H3,J.yld i H2 x H3->g x σc H3 λσ4 H4=>ti σ4 H4 λb H5=>if b=AC then te σ4 H5 λy H6=>H6 D=AA (.lst ys)/\N σ4 (ys++[y]) (upd H6 D (.lst (ys++[y])))else N σ4 ys H5))
def yda(slots:List (Option Nat))(wi:TI)(g:TG)(ti:TT)(te:TE):TE:=λσ H Q=>wi σ H λJ H1=>∀D,H1 D=AD->∃W:Nat->Nat->St->List V->Hp->Prop,(∃m,W 0 m (inn slots σ) [] (upd H1 D (.lst [])))/\ycH J D g ti te W (Q (.ref D))
section
variable {X:Cx}{sc:BZ}{NC:List AL}{slots:List (Option Nat)}{elt tg iter:AT}{ifs:List AT}{pos:CB}{g:TG}{ti:TT}{te:TE}
def zjz(hc:X.calm=AC)(hg:∀j,PG (cxC X sc NC j) tg g)(ht:∀j,PTs (cxC X sc NC j) ifs ti)(he:∀j,PE (cxC X sc NC j) elt te){cj:CI}{it D:AJ}{tn:Nat->Aq->Prop}{J:It}
  {W:Nat->Nat->St->List V->Hp->Prop} {Q:Hp->Prop} {R:GJ->AK->Prop} {s:AK} {σc:St} {ys:List V} {H:Hp} (T:Turn X.prog X.w X.K tg J cj.fp it tn)
  (I:Inv (cxC X sc NC cj) [] σc H s) (hf:∀b∈cj.fp,ybb (cxC X sc NC cj) [] H b) (st:tn 0 s.heap) {m:Nat} (w0:W 0 m σc ys H) (step:ycH J D g ti te W Q)
  (fin:∀σ' H' s',Inv (cxC X sc NC cj) [] σ' H' s'->Q H'->R (.ok .next) s'):
  codeAny (model X.prog X.w) X.A (.compLoop (.ListComp elt [⟨tg,iter,ifs,0⟩] sc pos) 0 (.ref it) (.ref D) (cxC X sc NC cj).env) R s:=by
 have stat:∀{H':Hp},(∀b∈cj.fp,H' b=AD)->∀b∈cj.fp,ybb (cxC X sc NC cj) [] H' b:=λhn b hb=>⟨hn b hb,(hf b hb).2⟩;refine zhI (λn s'=>∃i σ' ys' H',Inv (cxC X sc NC cj) [] σ' H' s'/\tn i s'.heap/\(∀b∈cj.fp,H' b=AD)/\W i n σ' ys' H') ?_ m ⟨0,σc,ys,H,I,st,λb hb=>(hf b hb).1,w0⟩
 rintro n s3 ⟨i,σ3,ys3,H3,I3,st3,fr3,w3⟩
 let⟨hD,q⟩:=step i n σ3 ys3 H3 w3;rcases q with⟨stop,qn⟩|⟨go,hz,N,hN,turn⟩
 .refine thn (T.done (cxC X sc NC cj) rfl rfl rfl hc i [] s3 σ3 H3 No I3 (stat fr3) st3 stop) λr s4 kq=>?_;let⟨hr,I4⟩:=kq;subst hr;exact fin σ3 H3 s4 I4 qn
 .refine thn (T.item (cxC X sc NC cj) rfl rfl rfl hc i [] s3 σ3 H3 No I3 (stat fr3) st3 go) λr s4 kq=>?_;let⟨u,hr,h4⟩:=kq;subst hr;refine thn h4 λ_ s5 kq=>?_;let⟨x,H5,I5,r5,y5,st5,fr5⟩:=kq;have I5':=I5.pinned (stat fr5) (T.obj _ _ st5);refine thn (hg cj _ s5 σ3 H5 x u _ I5' r5 (turn x H5 y5)) λ_ s6 kq=>?_;let⟨σ6,H6,I6,q6⟩:=kq;refine thn (ht cj _ s6 σ6 H6 _ I6 q6) λok s7 kq=>?_;let⟨H7,I7,q7⟩:=kq;have again:∀{σ8:St} {ys8:List V} {H8:Hp} {s8:AK},Inv (cxC X sc NC cj) ([]++ya6 cj.fp s5.heap) σ8 H8 s8->N σ8 ys8 H8->∃m,m<n/\∃i σ' ys' H',Inv (cxC X sc NC cj) [] σ' H' s8/\tn i s8.heap/\(∀b∈cj.fp,H' b=AD)/\W i m σ' ys' H':=λ{σ8 ys8 H8 s8} I8 n8=>by
   let⟨m',hm,w8⟩:=hN σ8 ys8 H8 n8;refine⟨m',hm,i+1,σ8,ys8,H8,I8.unpinned,T.keep _ _ _ st5 λb hb o e=>(I8.pin (b,o) (Av _ (Av _ (zbC hb e)))).1,λb hb=>?_,w8⟩;let⟨o,e,d⟩:=T.obj _ _ st5 b hb;exact(I8.pin (b,o) (Av _ (Av _ (zbC hb e)))).2.1
  cases ok with
  |false=>
   rw[if_neg Ai]at q7 ⊢;exact again I7 q7
  |true=>
   rw[if_pos rfl]at q7 ⊢;refine thn (he cj _ s7 σ6 H7 _ I7 q7) λy s8 kq=>?_;let⟨v,H8,I8,r8,hD8,q8⟩:=kq;refine thn (zeW (X:=cxC X sc NC cj) _ s8 σ6 H8 (.ref D) [v] (.ref D) [y] (λz H'=>z=.non/\H'=upd H8 D (.lst (ys3++[v]))) I8 rfl (.cons r8 .nil) ⟨D,ys3,v,rfl,rfl,hD8,hz,rfl,rfl⟩) λz s9 kq=>?_;let⟨zv,H9,I9,r9,e1,e2⟩:=kq;subst e2;exact again I9 q8
def zgU(hc:X.calm=AC)(O:yZ X sc NC slots)(hg:∀j,PG (cxC X sc NC j) tg g)(ht:∀j,PTs (cxC X sc NC j) ifs ti)(he:∀j,PE (cxC X sc NC j) elt te){π:List (AJ×B7)}{s:AK}{σ:St}{H:Hp}(I:Inv X π σ H s)
  {it:AJ} {fp:List AJ} {tn:Nat->Aq->Prop} {J:It} (T:Turn X.prog X.w X.K tg J fp it tn) (st:tn 0 s.heap) (hf:∀b∈fp,ybb X π H b) {Q:VK}
  (h:∀D,H D=AD->∃W:Nat->Nat->St->List V->Hp->Prop,(∃m,W 0 m (inn slots σ) [] (upd H D (.lst [])))/\ycH J D g ti te W (Q (.ref D))) {RR:AG->AJ->GJ->AK->Prop}
  (fin:∀D C s' H',Q (.ref D) H'->(∃o m,s'.heap.get? C=AA o/\s'.heap.Ns C m/\∀v,o.data ≠ .cell v)->ybb X π H' C->(∀h2,C1 C s'.heap h2->Inv X π σ H' {s' with heap:=h2})->RR (.ref D) C (.ok .next) s'):
  A2 (model X.prog X.w) X.A (newList []) (λacc s3=>A2 (model X.prog X.w) X.A (newFunctionEnv sc X.env.globals (yc5 sc X.env) [] X.env.qual AD .none (AA X.env)) (λcenv s4=>
   codeAny (model X.prog X.w) X.A (.compStart (.ListComp elt [⟨tg,iter,ifs,0⟩] sc pos) 0 (.ref it) acc {cenv with scope:=relabel sc X.env}) (RR acc cenv.locals) s4) X.xe s3) X.xe s:=by
 refine BV (wpAny_newFunctionEnv O.nocell (by intro y hy;simp at hy) (λh1 hns1 hsb1=>?_) O.kind);dsimp only at hns1 hsb1 ⊢;have hDn:H s.heap.objs.size=none:=I.hok.fresh (AR _);let⟨W,⟨m,w0⟩,step⟩:=h s.heap.objs.size hDn;obtain⟨s3,hs3⟩:∃x:AK,x=({s with heap:=s.heap.push {cls:=.type "list",dict:=AD,data:=.seq ([]:List AG).toArray} }:AK):=⟨_,rfl⟩;have e3:s3.heap=s.heap.push {cls:=.type "list",dict:=AD,data:=.seq ([]:List AG).toArray}:=by rw[hs3]
 rw[<-e3]at hns1 hsb1;have hp3:∀b o,s.heap.get? b=AA o->s3.heap.get? b=AA o:=λb o e=>by
  rw[e3];exact AO _ e
 have I3:Inv X π σ (upd H s.heap.objs.size (.lst [])) s3:=by
  have q:=I.laid (a:=s.heap.objs.size) (o:=.lst []) (h':=s3.heap) (t':=s.toks) hp3 (AR _) ⟨DB _,[],_,.nil,by rw[e3];exact A3 _ rfl⟩;rw[hs3]at q ⊢;exact q
 have hf3:∀b∈fp,ybb X π (upd H s.heap.objs.size (.lst [])) b:=λb hb=>by
  let⟨o,e,_⟩:=T.obj _ _ st b hb;refine⟨?_,(hf b hb).2⟩;rw[zd (Ah (AZ e))];exact(hf b hb).1
 have st3:tn 0 s3.heap:=T.keep _ _ _ st λb _ o e=>hp3 b o e;have hob:∀b∈fp,∃o,s3.heap.get? b=AA o:=λb hb=>by
  let⟨o,e,_⟩:=T.obj _ _ st3 b hb;exact⟨o,e⟩
 have hk1:∀b o,s3.heap.get? b=AA o->h1.get? b=AA o:=λb o e=>hsb1.extBut b o (Ah (AZ e)) (AO _ e);have J1:=zgS (t':=s3.toks+([]:List (AL×AG)).length) I3 O hf3 hob hns1 hk1;have hfc:∀b∈fp,ybb (cxC X sc NC ⟨s3.heap.objs.size,s3,upd H s.heap.objs.size (.lst []),fp⟩) [] (upd H s.heap.objs.size (.lst [])) b:=λb hb=>
  ⟨(hf3 b hb).1,(J1.ok.exf b hb).1,J1.ok.exfs b hb,.inl hb,(J1.ok.exf b hb).2,λp hp=>nomatch hp⟩
 have loop:codeAny (model X.prog X.w) X.A (.compLoop (.ListComp elt [⟨tg,iter,ifs,0⟩] sc pos) 0 (.ref it) (.ref s.heap.objs.size) (cxC X sc NC ⟨s3.heap.objs.size,s3,upd H s.heap.objs.size (.lst []),fp⟩).env) (RR (.ref s.heap.objs.size) s3.heap.objs.size)
   {s3 with heap:=h1,toks:=s3.toks+([]:List (AL×AG)).length}:=by
  refine zjz (D:=s.heap.objs.size) (Q:=Q (.ref s.heap.objs.size)) hc hg ht he T J1 hfc (T.keep _ _ _ st3 λb _ o e=>hk1 b o e) w0 step λσ' H' s' J' q'=>?_;have fC:H' s3.heap.objs.size=none:=J'.free;refine fin _ _ s' H' q' ?_ (I3.fpOk (AR _) fC) λh2 hb=>zhd I3 hf3 (AR _) J' hb;let⟨m',hn',_⟩:=J'.loc;let⟨o,es,ep,ho,hd,r⟩:=id hn';exact⟨o,m',ho,hn',λv z=>by rw[hd]at z;cases z⟩
 have self:=λ(RQ:AG->AK->Prop) (EE:AG->AK->Prop)=>T.self X.A 0 {s3 with heap:=h1,toks:=s3.toks+([]:List (AL×AG)).length} RQ EE (T.keep _ _ _ st3 λb _ o e=>hk1 b o e);subst hs3;exact codeAny_compStart_list loop (self _ _ loop)
variable {wi:TI}
def zls(hc:X.calm=AC)(O:yZ X sc NC slots)(hi:PI X tg iter wi)(hg:∀j,PG (cxC X sc NC j) tg g)(ht:∀j,PTs (cxC X sc NC j) ifs ti)(he:∀j,PE (cxC X sc NC j) elt te)
  (hs:∀x,foldedSetIterable iter X.env x=pure x:=by intro _;rfl):PE X (.ListComp elt [⟨tg,iter,ifs,0⟩] sc pos) (yda slots wi g ti te):=by
 intro π s σ H Q I h;rw[eval_ListComp];refine wpAny_comprehension_free (use:=AD) rfl hs (zdk (O.cells I.ok)) O.kind O.names (thn (hi π s σ H _ I h) λv s1 h1=>thn h1 λitv s2 h2=>?_);let⟨it,fp,tn,J,H2,rfl,I2,T,st2,f2,q2⟩:=h2;refine zgU hc O hg ht he I2 T st2 f2 q2 λD C s' H' q' ⟨o,m,ho,hn,_⟩ _ out=>⟨m,hn,λh2 hb=>⟨.ref D,H',out h2 hb,rfl,q'⟩⟩
end
def zex:∀{bs:List Bool} {us:List AG},Vals (bs.map V.bl) us->LSm.BoolsAre us bs
 |[],_,.nil=>.nil
 |b::bs,_,.cons r q=>by
  cases (show _=Dy b from r)
  exact .cons b (zex q)
section
variable {X:Cx}
def yhm(K:AF):List V->Hp->VK->Prop:=λxs H Q=>∃(l:AJ) (bs:List Bool),xs=[.ref l]/\SqL K H l (bs.map V.bl)/\Q (.bl (bs.all id)) H
def zjm(hc:X.calm=AC):yQ X (.builtin "all") (yhm X.K):=by
 intro π s σ H xs us Q I r h;let⟨l,bs,rfl,hq,q⟩:=h;let⟨u,rfl,ru⟩:=Vals.one r
 cases (show u=A7 l from ru)
 let⟨its,rv,pl,hz⟩:=I.list hq;have hb:=zex rv;have hl:=pl.isList;have hlt:l<s.heap.objs.size:=by
  let⟨_,e,_⟩:=hl;exact AZ e
 refine call_all_walk (EZ hl ?_);refine⟨s.heap.objs.size,[s.heap.objs.size,l],[s.heap.objs.size],its.toArray.size,_,_,λi=>(bs[i]?).getD AC,rfl,IT (A:=X.A.in1) (I.ok.hd hc) _ l (Ah hlt) its.toArray,⟨⟨_,A3 _ rfl,rfl,rfl⟩,hl.push _⟩,λi v s' Q' E' hP hQ=>?_,λh' tk hk=>?_⟩
 .let⟨b,e,rfl⟩:=hb.get i v (by simpa using hP);erw[e,BL]at hQ;exact BO hQ
 .have e:((C0 its.toArray.size).all λi=>(bs[i]?).getD AC)=bs.all id:=by
   rw[AS,hb.length];exact LSm.range_all bs
  rw[e];exact⟨.bl _,H,I.kept (t':=tk) (Fz hk),rfl,q⟩
end
section
variable {X:Cx}{π:List (AJ×B7)}{σ:St}{H:Hp}{s:AK}
end
section
variable {X:Cx}{a:AT}{ta:TE}{K:AF}
end
end L2
namespace L2
end L2
namespace L2
open PySem PySem.Spec PyProof.Rows
def CX1(P:A4)(w:Af):CXT:=λouter H s E e s'=>∃(a:AJ) (cls a0:AG) (H':Hp) (B:Aq),e=.ref a/\s'.os=s.os/\DD s'.gens/\FL B outer a cls a0 s'.heap/\HOk P w H' s'.heap/\Un (frs outer) [] H H' s.heap s'.heap /\
 (∀b o,s.heap.get? b=AA o->H b=AD->b∉frs outer->B.get? b=AA o)/\(∀b u,H' b=AA u->∃o,B.get? b=AA o)/\(∀b o,s.heap.get? b=AA o->b∉frs outer->∃o',B.get? b=AA o')/\E cls AD H'
theorem yM.there{P:A4}{w:Af}{H:Hp}{h:Aq}{a:AJ}{o:HO}(x:yM P w H h a o):∃ob,h.get? a=AA ob:=by
 induction o with
 |lst xs=>let⟨_,_,_,_,e⟩:=x;exact⟨_,e⟩
 |tup xs=>let⟨_,_,_,ob,e,_⟩:=x;exact⟨ob,e⟩
 |dK kvs=>let⟨_,_,_,_,ob,_,_,e,_⟩:=x;exact⟨ob,e⟩
 |dT kvs=>let⟨_,_,_,_,ob,_,_,e,_⟩:=x;exact⟨ob,e⟩
 |set S n=>let⟨ob,_,_,_,e,_⟩:=x;exact⟨ob,e⟩
 |ins C dx fs=>let⟨_,_,_,e,_⟩:=x;exact⟨_,e⟩
 |own y=>exact x
 |xd fs=>let⟨_,⟨ob,_,_,e,_⟩,_⟩:=x;exact⟨ob,e⟩
 |rng lo hi=>let⟨_,_,_,e⟩:=x;exact⟨_,e⟩
 |frz ob u ih=>exact⟨ob,x.1⟩
 |tbl ps=>exact⟨_,x⟩
 |met f y=>exact⟨_,x⟩
 |ext φ=>exact x.2.1
theorem HOk.inB{P:A4}{w:Af}{H:Hp}{h h' B:Aq}(ok:HOk P w H h)(hB:B.StaysIn h)(hB':B.StaysIn h')(tr:∀b u,H b=AA u->∃o,B.get? b=AA o):HOk P w H h':=λa o e=>
 (ok a o e).stay (λb u hb q=>by
  have hb':∃o,B.get? b=AA o:=by
   rcases hb with z|z
   .rw[z];exact tr a o e
   .exact tr b _ z
  let⟨o',q'⟩:=hb';have:=hB b o' q';rw[q]at this
  cases this
  exact hB' b u q') (λ_ q=>q) λ_ _ q=>q
section
variable {P:A4}{w:Af}{K:AF}{mg:AL->Option AG}{base:Aq}{N:List AL}{qual:AL}{scope:BZ}{f:AJ}{cd:AG}{A:Ag}{outer:List Env}{s₀:AK}{H₀:Hp}{E:XK}
 {π:List (AJ×B7)} {σ:St} {H:Hp} {s:AK}
def ziN{h':Aq}{e:AJ}{cls:AG}{vs:List AG}(I:Inv (yaE (CX1 P w) P w K mg base N qual scope f cd A outer s₀ H₀ E) π σ H s)(hx:HY s.heap h' e cls vs)(hE:E cls AD H):
  (yaE (CX1 P w) P w K mg base N qual scope f cd A outer s₀ H₀ E).xe (.ref e) {s with heap:=h'}:=by
 have stk:s.heap.FunFrames base (envOfC qual scope s₀.heap.objs.size f cd::outer):=I.stack;have hst:∀b,b∈frs (envOfC qual scope s₀.heap.objs.size f cd::outer)->b=s₀.heap.objs.size \/ b∈frs outer:=λb hb=>by
  have hb':b∈s₀.heap.objs.size::frs outer:=hb;exact AX.mp hb'
 have inB:∀b o,s.heap.get? b=AA o->b∉frs (envOfC qual scope s₀.heap.objs.size f cd::outer)->(Cw s.heap (frs (envOfC qual scope s₀.heap.objs.size f cd::outer))).get? b=AA o:=λb o q n=>Fj _ q n;have hB:(Cw s.heap (frs (envOfC qual scope s₀.heap.objs.size f cd::outer))).StaysIn s.heap:=λb o q=>GI _ q;have bse:Un (frs outer) [] H₀ H s₀.heap s.heap:=I.base;have lt:∀b o,s₀.heap.get? b=AA o->b≠s₀.heap.objs.size:=λb o q=>Ah (AZ q);have tr:∀b u,H b=AA u->∃o,(Cw s.heap (frs (envOfC qual scope s₀.heap.objs.size f cd::outer))).get? b=AA o:=λb u q=>by
  let⟨o,ho⟩:=yM.there (I.hok b u q);exact⟨o,inB b o ho λhb=>by
   have:=I.stkFree b hb;rw[q]at this
   cases this⟩
 refine wpAny_leaves_madeW (base:=Cw s.heap (frs (envOfC qual scope s₀.heap.objs.size f cd::outer))) (h:=s.heap) I.ok.frames rfl hB (PySem.W.funFrames_hide stk λenv he a ha=>EC.mpr ⟨env,he,ha⟩) hx λh'' t fl tu tn up=>?_;have up':s.heap.UpToSlots h'':=(Hu hx.keeps).trans up;refine⟨e,cls,_,H,_,rfl,I.os,I.bare,fl,HOk.inB I.hok hB fl.1 tr,⟨λb o q n hb _=>?_,λb o q n hb _=>?_,bse.free,λb o q _=>?_,bse.tups,bse.frzs,bse.tbls⟩,λb o q n hb=>?_,tr,λb o q hb=>?_,hE⟩
 .refine fl.1 b o (inB b o (bse.keep b o q n hb (by simp)) λz=>?_);rcases hst b z with z|z
  .exact lt b o q z
  .exact hb z
 .let⟨sl,q1⟩:=bse.slot b o q n hb (by simp);let⟨_,o',ho',hd⟩:=BQ stk (show b∈DN (λ(z:Env)=>z.frame) _ from AQ _ hb);let⟨sl',q2⟩:=up' b _ q1 (by rw[ho']at q1;cases q1;exact hd);exact⟨sl',q2⟩
 .let⟨o',q1⟩:=bse.there b o q (by simp)
  by_cases hb:b∈frs (envOfC qual scope s₀.heap.objs.size f cd::outer)
  .let⟨_,o2,ho',hd⟩:=BQ stk hb;let⟨sl',q2⟩:=up' b _ ho' hd;exact⟨_,q2⟩
  .exact⟨o',fl.1 b o' (inB b o' q1 hb)⟩
 .refine inB b o (bse.keep b o q n hb (by simp)) λz=>?_;rcases hst b z with z|z
  .exact lt b o q z
  .exact hb z
 .let⟨o',q1⟩:=bse.there b o q (by simp);refine⟨o',inB b o' q1 λz=>?_⟩;rcases hst b z with z|z
  .exact lt b o q z
  .exact hb z
def zqC:ybq (CX1 P w) (yaE (CX1 P w) P w K mg base N qual scope f cd A outer s₀ H₀ E) E:=by
 intro π σ H s e s' I h;let⟨a,cls,a0,H',B,rfl,os,bare,fl,hok,un,hB,tr,hT,hE⟩:=h;have bse:Un (frs outer) [] H₀ H s₀.heap s.heap:=I.base;have lt:∀b o,s₀.heap.get? b=AA o->b≠s₀.heap.objs.size:=λb o q=>Ah (AZ q);have hst:∀b,b∈frs (envOfC qual scope s₀.heap.objs.size f cd::outer)->b=s₀.heap.objs.size \/ b∈frs outer:=λb hb=>by
  have hb':b∈s₀.heap.objs.size::frs outer:=hb;exact AX.mp hb'
 have un':Un (frs (envOfC qual scope s₀.heap.objs.size f cd::outer)) [] H H' s.heap s'.heap:=un;have kB:∀b o,s₀.heap.get? b=AA o->H₀ b=AD->b∉frs outer->B.get? b=AA o:=λb o q n hb=>hB b o (bse.keep b o q n hb (by simp)) (bse.free b o q n (by simp)) λz=>by
  rcases hst b z with z|z
  .exact lt b o q z
  .exact hb z
 have kT:∀b o,s₀.heap.get? b=AA o->b∉frs outer->∃o',B.get? b=AA o':=λb o q hb=>by
  let⟨o',q1⟩:=bse.there b o q (by simp);refine hT b o' q1 λz=>?_;rcases hst b z with z|z
  .exact lt b o q z
  .exact hb z
 refine wpAny_leaves_onW I.ok.frames rfl fl λh'' fl' up=>?_;refine⟨a,cls,a0,H',B,rfl,os.trans I.os,bare,fl',HOk.inB hok fl.1 fl'.1 tr,⟨λb o q n hb _=>fl'.1 b o (kB b o q n hb),λb o q n hb _=>?_,λb o q n _=>?_,λb o q _=>?_,λb xs q=>un'.tups b xs (bse.tups b xs q),λb o u q=>un'.frzs b o u (bse.frzs b o u q),λb ps q=>?_⟩,kB,tr,kT,hE⟩
 .let⟨sl,q1⟩:=bse.slot b o q n hb (by simp);have n1:=bse.free b o q n (by simp);let⟨sl1,q2⟩:=un'.slot b _ q1 n1 (AQ _ hb) (by simp);let⟨_,o',ho',hd⟩:=BQ fl.2.2.1 (show b∈DN (λ(z:Env)=>z.frame) _ from AQ _ hb);let⟨sl',q3⟩:=up b _ q2 (by rw[ho']at q2;cases q2;exact hd);exact⟨sl',q3⟩
 .let⟨o',q1⟩:=bse.there b o q (by simp);exact un'.free b o' q1 (bse.free b o q n (by simp)) (by simp)
 .let⟨o',q1⟩:=bse.there b o q (by simp);let⟨o2,q2⟩:=un'.there b o' q1 (by simp)
  by_cases hb:b∈frs outer
  .let⟨_,o3,ho3,hd⟩:=BQ fl.2.2.1 (show b∈DN (λ(z:Env)=>z.frame) _ from AQ _ hb);let⟨sl',q3⟩:=up b _ ho3 hd;exact⟨_,q3⟩
  .let⟨o4,q4⟩:=kT b o q hb;exact⟨o4,fl'.1 b o4 q4⟩
 .let⟨m1,e1⟩:=bse.tbls b ps q;let⟨m2,e2⟩:=un'.tbls b _ e1;exact⟨m1++m2,by rw[e2,Dz]⟩
end
section
variable {X:Cx}{e:AT}{es:List AT}{te:TE}
abbrev TJ:=AL->St->Hp->VK->Prop
def PJ(X:Cx)(es:List AT)(t:TJ):Prop:=
 ∀(out:AL) (π:List (AJ×B7)) (s:AK) (σ:St) (H:Hp) (Q:VK),Inv X π σ H s->t out σ H Q->A2 (model X.prog X.w) X.A (joinParts out (evalEach es X.env)) (EP X π σ Q) X.xe s
def yhr:TJ:=λout _ H Q=>out.length<=sizeLine/\Q (.str out) H
def yeB(te:TE)(t:TJ):TJ:=λout σ H Q=>te σ H λv H1=>∃y,v=.str y/\(out++y).length<=sizeLine/\t (out++y) σ H1 Q
def zpf:PJ X [] yhr:=λout _ _ _ H _ I h=>joinParts_nil ⟨.str out,H,I.tok _,⟨_,rfl⟩,h.2⟩ h.1
def zmo{t:TJ}(he:PE X e te)(hr:PJ X es t)(hs:evalEach (e::es) X.env=eval e X.env::evalEach es X.env:=by rfl):PJ X (e::es) (yeB te t):=by
 intro out π s σ H Q I h;rw[hs];refine joinParts_cons (thn (he π s σ H _ I h) λv s1 kq=>?_);let⟨x,H1,I1,r1,y,e1,hz,q⟩:=kq;subst e1;let⟨tk,rfl⟩:=r1;exact⟨hz,hr (out++y) π s1 σ H1 Q I1 q⟩
def ycu(t:TJ):TE:=λσ H Q=>t DA σ H Q
def zik{v1 v2:AT}{rest:List AT}{pos:CB}{t:TJ}(h:PJ X (v1::v2::rest) t):PE X (.JoinedStr (v1::v2::rest) pos) (ycu t):=λπ s σ H Q I q=>JoinedStr_many (h DA π s σ H Q I q)
end
section
variable {X:Cx}{e:AT}{es:List AT}{t:TA}{E:XK}
end
structure ybt(K:AF)(C:AJ):Prop where
 ga:Aa K (.ref C) "__getattribute__"=AA (AA (.builtin "BaseException.__getattribute__"))
 gh:Aa K (.ref C) "__getattr__"=AA AD
 cl:Aa K (.ref C) "__class__"=AA (AA (.builtin "object.__class__"))
 sb:Hk K (.ref C) (.type "BaseException")=AA AC
 mo:Hl K C (.type "object")=AA AC
 ct:∃cd,Eg K C=AA cd
section
variable {pg:A4}{wd:Af}{A:Ag}{E:AG->AK->Prop}{h:Aq}{g:Array GenState}{d:Drawn}{t:Nat}{os:OsState}{a C:AJ}{o:B7}{K:AF}
def zfD{M:Hs}{nv:AG}{Q:Unit->AK->Prop}(X:K.In h)(Z:ybt K C)(hx:h.get? a=AA o)(hc:o.cls=.ref C)(hq:Q () ⟨h,g,d,t,os⟩):A2 M A (checkBuiltinCall "BaseException.__getattribute__" ⟨[.ref a,nv],[]⟩) Q E ⟨h,g,d,t,os⟩:=by
 have hk:builtinKind "BaseException.__getattribute__"=AA .slot:=by decide +kernel
 have hsp:splitId "BaseException.__getattribute__"=AA ("BaseException","__getattribute__"):=by decide +kernel
 have ha:=F.args_bexc_ga (.ref a) nv;have LS:=PySem.W.looks_subIn (M:=M) X Z.sb;erw[checkBuiltinCall,hk,hsp];refine AI ?_
 .unfold isInstance
  repeat (first|(with_reducible refine E8 hx ?_;rw[hc])|with_reducible refine LS.at ?_|wp_step)
  exact hq
def zi4{tp:AG}{R:GJ->AK->Prop}(X:K.In h)(Z:ybt K C)(hx:h.get? a=AA o)(hc:o.cls=.ref C)(hq:R (.ok (.ret (.ref C))) ⟨h,g,d,t,os⟩):
  codeAny (model pg wd) A (.call (.builtin "getset_descriptor.__get__") ⟨[.builtin "object.__class__",.ref a,tp],[]⟩) R ⟨h,g,d,t,os⟩:=by
 have L0:Hm (model pg wd) h (typeOf (.ref a)) (.ref C):=hc ▸ (Ew hx).andThen .now;have L1:=PySem.W.looks_mroIn (M:=model pg wd) X Z.mo;refine F6 GP.plain PySem.W.KF.entry_gs (GP.check _ _ _ _ _ _ _ _ PySem.W.KF.type_class (PySem.W.KF.args_gs _ _ _) ?_)
 (unfold Dv.«getset_descriptor.__get__» GQ);rw[PySem.W.dga_obj]
 refine AI (AV ?_);(unfold Fi Ex FE isInstance);erw[PySem.W.KF.owner_class];repeat lk
 refine⟨Code.quiet_builtin _ (by decide +kernel),codeAny_builtin PySem.W.KF.entry_class ?_⟩
 (unfold Dv.«object.__class__» shownTypeOf);repeat lk
 exact hq
def zfB{tk:Hq}{Q:Fin->AK->Prop}(X:K.In h)(Z:ybt K C)(hx:h.get? a=AA o)(hc:o.cls=.ref C)(hq:Q (.done (.ret (.ref C))) ⟨h,g,d,t,os⟩):
  A2 (model pg wd) A (Dv.«object.__getattribute__» ⟨[.ref a,.str "__class__" tk],[]⟩) Q E ⟨h,g,d,t,os⟩:=by
 have hT5:(⟨h,g,d,t,os⟩:AK).TypeIs (.builtin "object.__class__") "getset_descriptor":=FY;have f5:=FY;have f6:=F.slot_gs_get.lookup;have f7:=F.slot_gs_set.lookup;have L3:=Cc (M:=model pg wd) X Z.cl
 repeat (any_goals (first|assumption|(with_reducible refine E8 hx ?_;rw[hc])|with_reducible refine L3.at ?_|wp_step))
 refine zi4 X Z hx hc ?_
 repeat (any_goals (first|assumption|wp_step))
def zhe{tk:Hq}{R:GJ->AK->Prop}{Bn:String}(ga:Slot Bn "__getattribute__" "BaseException.__getattribute__")(X:K.In h)(Z:ybt K C)(hx:h.get? a=AA o)(hc:o.cls=.ref C)(hq:R (.ok (.ret (.ref C))) ⟨h,g,d,t,os⟩):
  codeAny (model pg wd) A (.call (.builtin "BaseException.__getattribute__") ⟨[.ref a,.str "__class__" tk],[]⟩) R ⟨h,g,d,t,os⟩:=
 F6 ga.plain F.entry_bexc_ga (zfD X Z hx hc (zfB X Z hx hc hq))
def zjU{tk:Hq}{Q:AG->AK->Prop}{Bn:String}(ga:Slot Bn "__getattribute__" "BaseException.__getattribute__")(X:K.In h)(Z:ybt K C)(hx:h.get? a=AA o)(hc:o.cls=.ref C)(hq:Q (.ref C) ⟨h,g,d,t,os⟩):
  A2 (model pg wd) A (getAttrBy (.ref a) (.str "__class__" tk) AB) Q E ⟨h,g,d,t,os⟩:=by
 have f3:=ga.bind (.ref a);have hx2:(Eh "BaseException.__getattribute__" == Eh "object.__getattribute__")=false:=by decide +kernel
 have hx1:(onTheHeap (A7 C)&&Eh "BaseException.__getattribute__" == Eh "object.__getattribute__")=false:=by rw[hx2];rfl
 have L1:=Cc (M:=model pg wd) X Z.ga;have L2:=Cc (M:=model pg wd) X Z.gh
 repeat (any_goals (first|assumption|(with_reducible refine E8 hx ?_;rw[hc])|with_reducible refine L1.at ?_|with_reducible refine L2.at ?_|wp_step))
 refine zhe ga X Z hx hc ?_
 repeat (any_goals (first|assumption|wp_step))
def zfY{Q:Option AG->AK->Prop}{Bn:String}(ga:Slot Bn "__getattribute__" "BaseException.__getattribute__")(X:K.In h)(Z:ybt K C)(hx:h.get? a=AA o)(hc:o.cls=.ref C)(hq:Q (AA (.ref C)) ⟨h,g,d,t+1,os⟩):
  A2 (model pg wd) A (getAttr? (.ref a) "__class__") Q E ⟨h,g,d,t,os⟩:=by
 unfold getAttr? getAttrBy?
 repeat (any_goals (first|assumption|with_reducible apply zjU ga X Z hx hc|wp_step))
end
def ybK(a C:AJ):Aq->Prop:=λh=>∃o,h.get? a=AA o/\o.cls=.ref C
theorem ybK.keep{a C:AJ}{h1 h2:Aq}(x:ybK a C h1)(k:∀o,h1.get? a=AA o->h2.get? a=AA o):ybK a C h2:=by
 let⟨o,h,c⟩:=x;exact⟨o,k o h,c⟩
def zgk{K:AF}{a C:AJ}(Z:ybt K C){Bn:String}(ga:Slot Bn "__getattribute__" "BaseException.__getattribute__"):PySem.W.KitX K (.ref a) (.ref C) (ybK a C) where
 ty:=λM h X p=>by
  let⟨o,hx,hc⟩:=p;exact hc ▸ (Ew hx).andThen .now
 it:=λM h X p=>by
  let⟨cd,hcd⟩:=Z.ct;unfold Eg at hcd;split at hcd
  .rename_i c' d' cd' sl' ho;intro A' Q' E' s' k q;unfold isType loadHead;exact AI (wpAny_loadPart (k _ _ (X _ _ ho)) (AV q))
  .cases hcd
 ne:=λh tp dd its n sl X htp=>by
  let⟨cd,hcd⟩:=Z.ct;refine Bool.eq_false_iff.mpr λq=>?_;have e:C=tp:=Hn (beq_iff_eq.mp q);subst e;unfold Eg at hcd;split at hcd
  .rename_i c' d' cd' sl' ho;have z:=(X _ _ ho).symm.trans htp
   cases z
  .cases hcd
 ca:=λ{pg wd A E Q s} X p k=>by
  let⟨o,hx,hc⟩:=p;let⟨h,g,d,t,os⟩:=s;exact zfY ga X Z hx hc k
section
variable {X:Cx}
end
section
variable {X:Cx}{π:List (AJ×B7)}{σ:St}{H:Hp}{s:AK}
theorem Inv.track{a:AJ}{o:HO}(I:Inv X π σ H s)(hn:H a=AD)(h0:∀ob,X.s₀.heap.get? a≠AA ob)(hL:a≠X.env.locals)(hc:∀x c,X.env.cells.lookup x=AA c->c≠a)(hp:∀p∈X.pn++π,p.1≠a)
  (new:yM X.prog X.w (upd H a o) s.heap a o):Inv X π σ (upd H a o) s:=by
 refine⟨I.ok,I.os,I.bare,⟨I.base.keep,I.base.slot,λb u e n hx=>?_,I.base.there,λb xs e=>?_,λb u v e=>?_,λb ps e=>?_⟩,I.loc,I.cell,?_,λx c e=>?_,λp hq=>?_,λb u e=>?_,I.len⟩
 .rw[zd (λz:b=a=>h0 u (z ▸ e))];exact I.base.free b u e n hx
 .have q:=I.base.tups b xs e;rw[zd (zk q hn)];exact q
 .have q:=I.base.frzs b u v e;rw[zd (zk q hn)];exact q
 .let⟨m,q⟩:=I.base.tbls b ps e;refine⟨m,?_⟩;rw[zd (zk q hn)];exact q
 .rw[zd (Au hL)];exact I.free
 .rw[zd (hc x c e)];exact I.freeC x c e
 .let⟨q1,q2,q3⟩:=I.pin p hq;refine⟨q1,?_,q3⟩;rw[zd (hp p hq)];exact q2
 .by_cases hb:b=a
  .subst hb;rw[zm]at e
   cases e
   exact new
  .rw[zd hb]at e;exact(I.hok b u e).stay (λ_ _ _ q=>q) (λc q=>by rw[zd (zk q hn)];exact q) λc xs q=>by rw[zd (zk q hn)];exact q
theorem Inv.back{s1:AK}{h:Aq}{H':Hp}{B:Aq}{a:AJ}{cls a0:AG}{t':Nat}(I:Inv X π σ H s)(os:s1.os=s.os)(bare:DD s1.gens)(fl:FL B X.stack a cls a0 s1.heap)(hok:HOk X.prog X.w H' s1.heap)(un:Un (frs X.stack) [] H H' s.heap s1.heap)
  (hB:∀b o,s.heap.get? b=AA o->H b=AD->b∉frs X.stack->B.get? b=AA o) (tr:∀b u,H' b=AA u->∃o,B.get? b=AA o) (hT:∀b o,s.heap.get? b=AA o->b∉frs X.stack->∃o',B.get? b=AA o') (st:B.StaysIn h) (up:s1.heap.UpToSlots h):
  Inv X π σ H' {s1 with heap:=h,toks:=t'}:=by
 refine I.call' (ch:=[]) (s':={s1 with heap:=h,toks:=t'}) os ⟨λb o q n hb _=>st b o (hB b o q n hb),λb o q n hb _=>?_,un.free,λb o q _=>?_,un.tups,un.frzs,un.tbls⟩ (HOk.inB hok fl.1 st tr) bare (λb z=>absurd z (by simp))
 .let⟨sl,q1⟩:=un.slot b o q n hb (by simp);let⟨_,o',ho',hd⟩:=BQ fl.2.2.1 hb;let⟨sl',q2⟩:=up b _ q1 (by rw[ho']at q1;cases q1;exact hd);exact⟨sl',q2⟩
 .by_cases hb:b∈frs X.stack
  .let⟨_,o',ho',hd⟩:=BQ fl.2.2.1 hb;let⟨sl',q2⟩:=up b _ ho' hd;exact⟨_,q2⟩
  .let⟨o',q1⟩:=hT b o q hb;exact⟨o',st b o' q1⟩
end
abbrev cxP(X:Cx)(pn:List (AJ×B7)):Cx:={X with pn:=pn}
abbrev cxS(X:Cx)(pn:List (AJ×B7))(a:AJ):Cx:={X with A:=X.A.mark (AA (.ref a)),calm:=AB,pn:=pn,xe:=No}
section
variable {X:Cx}{π:List (AJ×B7)}{σ:St}{H:Hp}{s:AK}
theorem Cx.Ok.pn(ok:X.Ok)(pn:List (AJ×B7)):(cxP X pn).Ok:=⟨ok.mod,ok.kind,ok.glob,ok.blt,ok.above,ok.inj,ok.has,ok.cab,ok.hd,ok.frames,ok.stk,ok.exf,ok.bs,ok.bsz,ok.noex,ok.exfs,ok.funs,ok.frf⟩
theorem Cx.Ok.suite(ok:X.Ok)(pn:List (AJ×B7))(a:AJ):(cxS X pn a).Ok:=⟨ok.mod,ok.kind,ok.glob,ok.blt,ok.above,ok.inj,ok.has,ok.cab,(λz=>nomatch z),ok.frames,ok.stk,ok.exf,ok.bs,ok.bsz,ok.noex,ok.exfs,ok.funs,ok.frf⟩
theorem Inv.toP(I:Inv X π σ H s):Inv (cxP X (X.pn++π)) [] σ H s:=⟨I.ok.pn _,I.os,I.bare,I.base,I.loc,I.cell,I.free,I.freeC,λp hp=>I.pin p (by simpa using hp),I.hok,I.len⟩
theorem Inv.ofP(ok:X.Ok){pl:List (AJ×B7)}(I:Inv (cxP X (X.pn++π)) pl σ H s):Inv X π σ H s:=⟨ok,I.os,I.bare,I.base,I.loc,I.cell,I.free,I.freeC,λp hp=>I.pin p (Cb _ hp),I.hok,I.len⟩
theorem Inv.toS(I:Inv (cxP X (X.pn++π)) [] σ H s)(a:AJ):Inv (cxS X (X.pn++π) a) [] σ H s:=⟨Cx.Ok.suite (X:=X) ⟨I.ok.mod,I.ok.kind,I.ok.glob,I.ok.blt,I.ok.above,I.ok.inj,I.ok.has,I.ok.cab,I.ok.hd,I.ok.frames,I.ok.stk,I.ok.exf,I.ok.bs,I.ok.bsz,I.ok.noex,I.ok.exfs,I.ok.funs,I.ok.frf⟩ _ a,I.os,I.bare,I.base,I.loc,I.cell,I.free,I.freeC,I.pin,I.hok,I.len⟩
theorem Inv.ofS(ok:X.Ok){a:AJ}{pl:List (AJ×B7)}(I:Inv (cxS X (X.pn++π) a) pl σ H s):Inv X π σ H s:=⟨ok,I.os,I.bare,I.base,I.loc,I.cell,I.free,I.freeC,λp hp=>I.pin p (Cb _ hp),I.hok,I.len⟩
end
section
variable {X:Cx}{body suite:List B9}{b₀:B9}{x n:AL}{np hpos pos:CB}{tb:XK->TS}{ts:TS}{W:AJ}{i:Nat}
end
structure yaa(k:Nat)(A:Ag):Prop where
 dp:A.depth+3*k+5<recursionLimit
 un:A.units+16*k+200<cLine
theorem yah.h{k:Nat}{A:Ag}(r:yah k A):yaa k A:=⟨r.dp,r.un⟩
theorem yaa.mark{k:Nat}{A:Ag}{e:Option AG}(r:yaa k A):yaa k (A.mark e):=⟨r.dp,r.un⟩
theorem yaa.deeper{k:Nat}{A:Ag}(r:yaa (k+1) A)(env:Env):yaa k (A.deeper env):=⟨by have:=r.dp;show A.depth+1+3*k+5<_;lia,by have:=r.un;show A.units+3+16*k+200<_;lia⟩
theorem yaa.mono{j k:Nat}{A:Ag}(r:yaa k A)(h:j<=k):yaa j A:=⟨by have:=r.dp;lia,by have:=r.un;lia⟩
structure ybe(P:A4)(w:Af)(K:AF)(mg:AL->Option AG)(base:Aq)(k:Nat)(f:AJ)(fd:Ao)(ps:List AL)(sp:Sp):Prop where
 len:∀vs H Q E,sp vs H Q E->vs.length=ps.length
 run:∀(A:Ag) (outer:List Env) (s:AK) (H:Hp) (args:Args) (us:List AG) (vs:List V) (Q:VK),yaa k A->yb5 P w K mg base A outer s H->EY s fd args (ps.zip us)->Vals vs us->sp vs H Q E0 ->
  codeAny (model P w) A (.call (.ref f) args) (CR CX0 outer P w H s Q E0) s
abbrev ybF(P:A4)(w:Af)(K:AF)(mg:AL->Option AG)(base:Aq)(N:List AL)(qual:AL)(scope:BZ)(f:AJ)(cd:AG)(A:Ag)(outer:List Env)(s:AK)(H:Hp):Cx:=
 {yaE CX0 P w K mg base N qual scope f cd A outer s H E0 with calm:=AB,xe:=No}
theorem Inv.calmless{X:Cx}{π:List (AJ×B7)}{σ:St}{H:Hp}{s:AK}(I:Inv X π σ H s)(A:Ag)(E:AG->AK->Prop)(hf:A.frames=X.A.frames):Inv {X with A:=A,calm:=AB,xe:=E} π σ H s:=
 ⟨⟨I.ok.mod,I.ok.kind,I.ok.glob,I.ok.blt,I.ok.above,I.ok.inj,I.ok.has,I.ok.cab,(λz=>nomatch z),hf.trans I.ok.frames,I.ok.stk,I.ok.exf,I.ok.bs,I.ok.bsz,I.ok.noex,I.ok.exfs,I.ok.funs,I.ok.frf⟩,I.os,I.bare,I.base,I.loc,I.cell,I.free,I.freeC,I.pin,I.hok,I.len⟩
section
variable {P:A4}{w:Af}{K:AF}{mg:AL->Option AG}{base:Aq}
theorem Fun.okH{x qual:AL}{st:B9}{f:AJ}{fd:Ao}{N ps:List AL}{k:Nat}{sp:Sp}(F:Fun K x qual st f fd)(S:yaw N ps (yh st))(len:∀vs H Q E,sp vs H Q E->vs.length=ps.length)
  (hbody:∀(cdv:AG) (A:Ag) (outer:List Env) (s:AK) (H:Hp) (vs:List V) (Q:VK),yaa k (A.deeper (envOfC qual (yh st) s.heap.objs.size f cdv))->sp vs H Q E0 ->
   ∃t,PSs (ybF P w K mg base N qual (yh st) f cdv A outer s H) (yK st) t/\t {nx:=λ_ H'=>Q .non H',rt:=Q} (start N vs) H):ybe P w K mg base (k+1) f fd ps sp:=by
 let⟨oc,od,kV,doc,pm,an,cdv,ct,osl,rfl,lk,hcd⟩:=F.ex;refine⟨len,λA outer s H args us vs Q hr e0 hb r hsp=>?_⟩;have hl:=len _ _ _ _ hsp;have KX:K.In s.heap:=e0.mod.kin.keeps λb o e=>(e0.bs b o e).1;have lim:s.heap.NoLimit:=e0.mod.nolimit.keeps λb o e=>(e0.bs b o e).1;have hkind:∀y∈ps.zip us,(yh st).names.lookup y.1=AA .local \/ ((yh st).names.lookup y.1=AA .cell/\((cellsFrom (s.heap.objs.size+1) (yh st).names []).lookup y.1).isSome=AC):=λ⟨n,v⟩ hy=>by
  rcases S.par n (Dn hy).1 with q|q
  .exact .inl q
  .exact .inr ⟨q,DH _ _ _ (.inl q)⟩
 refine FV (by have:=hr.dp;lia) (KX _ _ lk) rfl S.co S.gen rfl (GM KX hcd) (hb _ _ _ _ ?_);refine EH S.kind hkind λenv he s1 x=>?_;subst he;refine⟨lim.keeps x.toInCall.keep,codeAny_func ?_⟩;let⟨t,ht,hq⟩:=hbody cdv A outer s H vs Q (hr.deeper _) hsp;have e0':yb5 P w K mg base {A with handled:=AD} outer s H:=⟨e0.frames,e0.mod,e0.bs,e0.bsz,e0.funs,e0.frf,e0.hok,e0.bare⟩;have I0:Inv (yaE CX0 P w K mg base N qual (yh st) f cdv {A with handled:=AD} outer s H E0) [] (start N vs) H s1:=ze8 S rfl e0' hl r x;have I:Inv (ybF P w K mg base N qual (yh st) f cdv A outer s H) [] (start N vs) H s1:=I0.calmless (A.deeper (envOfC qual (yh st) s.heap.objs.size f cdv)) No rfl;refine Bb (ht [] s1 (start N vs) H _ I hq) (λfl s' hs=>?_) λe s' z=>z.elim;have fin:∀{σ':St} {H':Hp} {v:V} {u:AG},Inv (ybF P w K mg base N qual (yh st) f cdv A outer s H) [] σ' H' s'->RelV v u->Q v H'->CE outer P w H s Q u s':=
  λ{σ' H' v u} J rv q=>⟨v,H',J.os,J.bare,J.base,J.hok,rv,q⟩
 cases fl with
 |ret u=>
  let⟨v,σ',H',J,rv,q⟩:=hs;exact fin J rv q
 |next=>
  let⟨σ',H',J,q⟩:=hs;exact fin (v:=V.non) (u:=Bo) J rfl q
 |brk=>
  let⟨_,_,_,q⟩:=hs;exact BH q
 |cont=>
  let⟨_,_,_,q⟩:=hs;exact BH q
end
section
variable {X:Cx}{k:Nat}{f:AJ}{fd:Ao}{ps:List AL}{sp:Sp}{x:AL}{p pos:CB}{e:AT}{es:List AT}{t:TA}
def ydm(sp:Sp)(t:TA):TE:=λσ H Q=>t σ H λvs H1=>sp vs H1 Q E0
def zkr(F:ybe X.prog X.w X.K X.mg X.base k f fd ps sp)(hr:yaa k X.A)(hg:Gl X x)(hm:X.mg x=AA (.ref f))(hk:Ab X.K (.ref f)=AC)(hb:Binds X.K fd ps [])(ha:PA X (e::es) t)
  (hdb:(x==("__debug__":AL))=false:=by decide) (he:starEach (e::es) X.env=(AB,eval e X.env)::starEach es X.env:=by rfl) (hpl:(backTo pos (starEach es X.env)).any (·.1)=false:=by rfl):
  PE X (.Call (.Name x p) (e::es) [] pos) (ydm sp t):=by
 intro π s σ H Q I h;refine BI (zbi I hg hm ?_ hdb);refine C3 (h₀:=X.base) I.ok.mod.kin hk (thn (ha pos π s σ H _ I h) λus s1 kq=>?_) he hpl;let⟨vs,H1,I1,r,q⟩:=kq;refine ⟨I1.kIn,?_⟩;have hl:us.length=ps.length:=by rw[<-r.length];exact F.len _ _ _ _ q
 have hb1:EY s1 fd ⟨us,[]⟩ (ps.zip us):=by
  have:=hb s1 us I1.kIn (by simpa using hl);simpa using this
 refine GL (DF (F.run X.A X.stack s1 H1 ⟨us,[]⟩ us vs Q hr I1.env0 hb1 r q) λr' s' hq=>?_)
 cases r' with
 |error z=>exact hq.elim
 |ok fl=>
  cases fl with
  |ret u=>exact I1.after hq
  |next=>exact BH hq
  |brk=>exact BH hq
  |cont=>exact BH hq
end
section
variable {P:A4}{w:Af}{K:AF}{mg:AL->Option AG}{base:Aq}
theorem own1{N:List AL}{qual:AL}{scope:BZ}{f:AJ}{cd:AG}{A:Ag}{outer:List Env}{s:AK}{H:Hp}{E:XK}{CX:CXT}:
  Eo (model (yaE CX P w K mg base N qual scope f cd A outer s H E).prog (yaE CX P w K mg base N qual scope f cd A outer s H E).w) (yaE CX P w K mg base N qual scope f cd A outer s H E).A (yaE CX P w K mg base N qual scope f cd A outer s H E).env (yaE CX P w K mg base N qual scope f cd A outer s H E).xe:=
 PassesOwn.leaving
def zqD{x:AL}{C:AJ}{ts:List AG}{nid:String}{h:Aq}(X:K.In h)(b:mg x=AA (.ref C))(q:D7 K C ts nid=AC):OwnCls x C ts nid mg h:=by
 constructor
 .exact b
 .revert q
  unfold D7
  cases hl:K.lookup C with
  |none=>intro q;cases q
  |some o=>
   intro q;split at q
   .rename_i dd cd sl ho;split at q
    .rename_i C' bm k0 k1 k2 k3 n k5 hm hs;erw[AH,beq_iff_eq,Bl]at q;rcases q with⟨⟨⟨⟨⟨r1,r2⟩,r3⟩,r4⟩,r5⟩,r6⟩;subst r1 r2;rcases cd with⟨nm,bs,mro,ns,qn,hd,sn,sub,ab,col,del⟩;dsimp only at hm r3 r5 r6;subst hm r3;rcases sl with⟨l⟩;simp only at hs;subst hs
     cases ho
     exact⟨bm,ns,nm,qn,bs,hd,sn,sub,ab,col,_,k0,k1,k2,k3,k5,_,X _ _ hl,.of_isNs (PySem.W.isNs_of_in X r5),PySem.W.nsMap_none_of_in X r5 r6,PySem.W.tail_of_in X r4⟩
    .cases q
   .cases q
end
section
variable {X:Cx}
end
section
variable {X:Cx}
def ygM(K:AF):List V->Hp->VK->Prop:=λxs H Q=>∃(l:AJ) (ns:List Int),xs=[.ref l]/\SqL K H l (ns.map V.int)/\0<ns.length/\∀M,M∈ns->(∀a,a∈ns->a<=M)->Q (.int M) H
def zio(hc:X.calm=AC):yQ X (.builtin "max") (ygM X.K):=by
 intro π s σ H xs us Q I r h;let⟨l,ns,rfl,hq,hne,q⟩:=h;let⟨u,rfl,ru⟩:=Vals.one r
 cases (show u=A7 l from ru)
 let⟨its,rv,pl,hz⟩:=I.list hq;have hi:Fh its ns:=zg8 rv;let⟨ys,e⟩:=hi.allInts.items;have hns:ns=ys.toList.map (·.1):=by rw[<-hi.numsOf,<-nums_intItems,<-e]
 have hsz:0<ys.size:=by
  rw[hns,Ap,Bu]at hne;exact hne
 have hl:=pl.isList;rw[e]at hl;refine max_intList (I.ok.hd hc) hl hsz λv h' tk hv hk=>?_;let⟨t,rfl⟩:=intItems_at hv;let⟨h1,h2⟩:=argBest_gt (numAt ys) (ys.size-1);refine⟨.int _,H,I.kept (t':=tk) hk,⟨t,rfl⟩,q _ ?_ λa ha=>?_⟩
 .rw[hns,numAt_eq];exact getD_mem (by rw[Ap,Bu];lia)
 .rw[hns]at ha;let⟨j,hj,rfl⟩:=mem_getD ha;rw[Ap,Bu]at hj;rw[<-numAt_eq];exact h2 j ∅
end
section
variable {κ:Type}[DecidableEq κ]
def ybu(kvs:List (κ×V))(k:κ):Option V:=(kvs.find? λkv=>decide (kv.1=k)).map (·.2)
def putK(kvs:List (κ×V))(k:κ)(v:V):List (κ×V):=
 if (kvs.any λkv=>decide (kv.1=k))=AC then kvs.map (λkv=>if kv.1=k then(kv.1,v)else kv)else kvs++[(k,v)]
def zcr{p:κ×V}{r:List (κ×V)}{k:κ}(e:p.1=k):ybu (p::r) k=AA p.2:=by simp[ybu,Bs,e]
def zcl{p:κ×V}{r:List (κ×V)}{k:κ}(e:¬p.1=k):ybu (p::r) k=ybu r k:=by simp[ybu,Bs,e]
def zgl(k:κ):∀kvs:List (κ×V),(kvs.any λkv=>decide (kv.1=k))=(ybu kvs k).isSome
 |[]=>rfl
 |p::r=>by
  rw[Ax]
  by_cases e:p.1=k
  .simp only[zcr e,decide_eq_true e,G9,Option.isSome_some]
  .rw[zcl e,decide_eq_false e,GA];exact zgl k r
def zdt(kvs:List (κ×V))(k:κ)(v:V):(putK kvs k v).length<=kvs.length+1:=by
 unfold putK;split
 .rw[Ap];lia
 .rw[A6,A1,C8];lia
theorem ya9.isSome_eq{o:Option V}{u:Option AG}(r:ya9 o u):o.isSome=u.isSome:=by
 cases o with
 |none=>cases u with
  |none=>rfl
  |some _=>exact(show False from r).elim
 |some _=>cases u with
  |none=>exact(show False from r).elim
  |some _=>rfl
theorem ya9.getD{o:Option V}{u:Option AG}{d:V}{d':AG}(r:ya9 o u)(rd:RelV d d'):RelV (o.getD d) (u.getD d'):=by
 cases o with
 |none=>cases u with
  |none=>exact rd
  |some _=>exact(show False from r).elim
 |some _=>cases u with
  |none=>exact(show False from r).elim
  |some _=>exact r
theorem KV.val{kvs:List (κ×V)}{vs:List (κ×AG)}(r:KV kvs vs)(k:κ):ya9 (ybu kvs k) (valueAt vs k):=by
 unfold KV at r
 induction r with
 |nil=>exact C2
 |@cons p q ps qs h t ih=>
  let⟨h1,h2⟩:=h
  by_cases e:p.1=k
  .have e':q.1=k:=h1.symm.trans e;have b:valueAt (q::qs) k=AA q.2:=by simp[valueAt,Bs,e']
   rw[zcr e,b];exact h2
  .have e':¬q.1=k:=λz=>e (h1.trans z);have b:valueAt (q::qs) k=valueAt qs k:=by simp[valueAt,Bs,e']
   rw[zcl e,b];exact ih
theorem KV.any{kvs:List (κ×V)}{vs:List (κ×AG)}(r:KV kvs vs)(k:κ):(kvs.any λkv=>decide (kv.1=k))=vs.any λkv=>decide (kv.1=k):=by
 unfold KV at r
 induction r with
 |nil=>rfl
 |cons h t ih=>rw[Ax,Ax,ih,h.1]
theorem KV.repl{kvs:List (κ×V)}{vs:List (κ×AG)}(r:KV kvs vs)(k:κ){y:V}{u:AG}(ry:RelV y u):
  KV (kvs.map λkv=>if kv.1=k then(kv.1,y)else kv) (vs.map λkv=>if kv.1=k then(kv.1,u)else kv):=by
 unfold KV at r ⊢
 induction r with
 |nil=>exact .nil
 |@cons p q ps qs h t ih=>
  rw[AU,AU];refine .cons ?_ ih;let⟨h1,h2⟩:=h
  by_cases e:p.1=k
  .rw[if_pos e,if_pos (h1.symm.trans e)];exact⟨h1,ry⟩
  .rw[if_neg e,if_neg (λz=>e (h1.trans z))];exact⟨h1,h2⟩
theorem KV.put{kvs:List (κ×V)}{vs:List (κ×AG)}(r:KV kvs vs)(k:κ){y:V}{u:AG}(ry:RelV y u):KV (putK kvs k y) (stored vs k u):=by
 unfold putK stored;rw[r.any k]
 by_cases e:(vs.any λkv=>decide (kv.1=k))=AC
 .rw[if_pos e,if_pos e];exact r.repl k ry
 .rw[if_neg e,if_neg e];exact IN r ⟨rfl,ry⟩
theorem KV.length{kvs:List (κ×V)}{vs:List (κ×AG)}(r:KV kvs vs):kvs.length=vs.length:=Ee r
end
def zlP{P:A4}{w:Af}{k:Key}{u:AG}(r:RelV (kV k) u):(yL P w).is k u=true:=by
 cases k with
 |inl i=>let⟨t,e⟩:=(show ∃t,u=En i t from r);subst e;exact zf0 P w i t
 |inr x=>let⟨t,e⟩:=(show ∃t,u=Gg x t from r);subst e;exact zfK P w x t
def zfa{P:A4}{w:Af}:∀{ks:List Key} {us:List AG},Vals (ks.map kV) us->ItemsAre (yL P w) ks us
 |[],_,r=>by rw[BY]at r;cases r;exact .nil
 |k::ks,_,r=>by
  rw[AU]at r
  cases r with
  |cons h t=>exact .cons (zlP h) (zfa t)
abbrev KT(H:Hp):List (List Key×V)->List (List Key×AJ×AG)->Prop:=HN λp q=>p.1=q.1/\H q.2.1=AA (.tup (p.1.map kV))/\RelV p.2 q.2.2
theorem KT.val{H:Hp}{kvs:List (List Key×V)}{xs:List (List Key×AJ×AG)}(r:KT H kvs xs)(k:List Key):ya9 (ybu kvs k) ((atKey xs k).map (·.2)):=by
 induction r with
 |nil=>exact C2
 |@cons p q ps qs h t ih=>
  let⟨h1,_,h2⟩:=h
  by_cases e:p.1=k
  .have e':q.1=k:=h1.symm.trans e;have b:atKey (q::qs) k=AA q.2:=by simp[atKey,Bs,e']
   rw[zcr e,b];exact h2
  .have e':¬q.1=k:=λz=>e (h1.trans z);have b:atKey (q::qs) k=atKey qs k:=by simp[atKey,Bs,e']
   rw[zcl e,b];exact ih
theorem KT.repl{H:Hp}{kvs:List (List Key×V)}{xs:List (List Key×AJ×AG)}(r:KT H kvs xs)(k:List Key){y:V}{u:AG}(ry:RelV y u):
  KT H (kvs.map λkv=>if kv.1=k then(kv.1,y)else kv) (xs.map (putAt k u)):=by
 induction r with
 |nil=>exact .nil
 |@cons p q ps qs h t ih=>
  rw[AU,AU];refine .cons ?_ ih;let⟨h1,h2,h3⟩:=h;unfold putAt
  by_cases e:p.1=k
  .rw[if_pos e,if_pos (h1.symm.trans e)];exact⟨h1,h2,ry⟩
  .rw[if_neg e,if_neg (λz=>e (h1.trans z))];exact⟨h1,h2,h3⟩
theorem KT.put{H:Hp}{kvs:List (List Key×V)}{xs:List (List Key×AJ×AG)}(r:KT H kvs xs)(k:List Key){b:AJ}{y:V}{u:AG}(hb:H b=AA (.tup (k.map kV)))(ry:RelV y u):
  KT H (putK kvs k y) (storedH xs k b u):=by
 have e:(kvs.any λkv=>decide (kv.1=k))=(atKey xs k).isSome:=by
  rw[zgl,(r.val k).isSome_eq,Option.isSome_map]
 unfold putK storedH;rw[e]
 by_cases q:(atKey xs k).isSome=AC
 .rw[if_pos q,if_pos q];exact r.repl k ry
 .rw[if_neg q,if_neg q];exact IN r ⟨rfl,hb,ry⟩
theorem KT.keeps{H H':Hp}{kvs:List (List Key×V)}{xs:List (List Key×AJ×AG)}(r:KT H kvs xs)(ht:∀b ys,H b=AA (.tup ys)->H' b=AA (.tup ys)):KT H' kvs xs:=
 Paired.mapP r λ_ _ z=>⟨z.1,ht _ _ z.2.1,z.2.2⟩
section
variable {P:A4}{w:Af}{H:Hp}{h:Aq}{a:AJ}
def znn{u:HO}(ok:HOk P w H h)(e:Rd H a u):yM P w H h a u:=e.ok ok
def zmc{kvs:List (Key×V)}(ok:HOk P w H h)(e:Rd H a (.dK kvs)):kvs.length<=sizeLine/\(a==sysModules)=AB/\∃vs,KV kvs vs/\h.DictOf (yL P w) a vs:=
 show yM P w H h a (.dK kvs)from znn ok e
def zp3{kvs:List (Key×V)}(ok:HOk P w H h)(e:H a=AA (.dK kvs)):kvs.length<=sizeLine/\(a==sysModules)=AB/\∃vs,KV kvs vs/\h.DictOf (yL P w) a vs:=zmc ok (.inl e)
def zhi{ks:List Key}(ok:HOk P w H h)(e:H a=AA (.tup (ks.map kV))):(tupleKind (yL P w)).is h ks a:=by
 let⟨_,its,r,o,h1,h2,n,h3⟩:=(show yM P w H h a (.tup (ks.map kV))from ok a _ e);exact⟨o,its.toArray,n,h1,h2,h3,by simpa using zfa r⟩
def zlD{kvs:List (List Key×V)}(ok:HOk P w H h)(e:Rd H a (.dT kvs)):kvs.length<=sizeLine/\(a==sysModules)=AB /\
  ∃xs,KT H kvs xs/\h.DictOfH (tupleKind (yL P w)) a xs:=by
 let⟨z,y,xs,r,o,es,ep,h1,h2,h3,h4,h5⟩:=(show yM P w H h a (.dT kvs)from znn ok e);refine⟨z,y,xs,r,o,es,ep,h1,h2,h3,h4,λx hx=>?_,h5⟩;have all:∀{l:List (List Key×V)} {m:List (List Key×AJ×AG)},KT H l m->∀x∈m,(tupleKind (yL P w)).is h x.1 x.2.1:=by
  intro l m q
  induction q with
  |nil=>intro x hx;exact nomatch hx
  |@cons p q ps qs hq t ih=>
   intro x hx;rcases AX.mp hx with e|hx
   .subst e;exact zhi ok (by rw[<-hq.1];exact hq.2.1)
   .exact ih x hx
 exact all r x hx
def zqi{kvs:List (List Key×V)}(ok:HOk P w H h)(e:H a=AA (.dT kvs)):kvs.length<=sizeLine/\(a==sysModules)=AB /\
  ∃xs,KT H kvs xs/\h.DictOfH (tupleKind (yL P w)) a xs:=zlD ok (.inl e)
end
def yfa(H:Hp)(a:AJ)(y:V)(r:Option V):Prop:=
 (∃kvs k,Rd H a (.dK kvs)/\y=kV k/\r=ybu kvs k) \/ ∃kvs k b,Rd H a (.dT kvs)/\y=.ref b/\H b=AA (.tup (k.map kV))/\r=ybu kvs k
def ye5(H:Hp)(a:AJ)(y v:V)(H':Hp):Prop:=
 (∃kvs k,H a=AA (.dK kvs)/\y=kV k/\kvs.length<sizeLine/\H'=upd H a (.dK (putK kvs k v))) \/
 ∃kvs k b,H a=AA (.dT kvs)/\y=.ref b/\H b=AA (.tup (k.map kV))/\kvs.length<sizeLine/\H'=upd H a (.dT (putK kvs k v))
section
variable {X:Cx}{π:List (AJ×B7)}{σ:St}{H:Hp}{s:AK}{a:AJ}{y v:V}{u r:AG}{o:Option V}{A:Ag}{E:AG->AK->Prop}
theorem Inv.big(I:Inv X π σ H s):sysModules<s.heap.objs.size:=by
 have h:mainGlobals<s.heap.objs.size:=(I.mod.glob.keeps I.bk).lt;exact Nat.lt_trans ⋯ h
def zhX{h':Aq}{t':Nat}{ob:HO}(I:Inv X π σ H s)(mu:Mut (H a))(hs:C1 a s.heap h')(he:∃q,h'.get? a=AA q)(new:yM X.prog X.w (upd H a ob) h' a ob):
  Inv X π σ (upd H a ob) {s with heap:=h',toks:=t'}:=
 I.write (x:=a) (e:=a) mu (.inl rfl) (λb q hb z=>(hs.2 b hb).trans z) he new
def znu{P:A4}{w:Af}{H':Hp}{h':Aq}{kvs:List (Key×V)}{vs:List (Key×AG)}(z:kvs.length<=sizeLine)(hd:(a==sysModules)=AB)(rel:KV kvs vs)(dd:h'.DictOf (yL P w) a vs):
  yM P w H' h' a (.dK kvs):=⟨z,hd,vs,rel,dd⟩
def zh6{H':Hp}{Q:Unit->AK->Prop}(hu:A.units+1<cLine)(I:Inv X π σ H s)(g:ye5 H a y v H')(ry:RelV y u)(rv:RelV v r)(h:∀s',Inv X π σ H' s'->Q () s'):
  A2 (model X.prog X.w) A (setItem (.ref a) u r) Q E s:=by
 rcases g with⟨kvs,k,e,ey,l,eH⟩|⟨kvs,k,b,e,ey,eb,l,eH⟩
 .subst ey eH;let⟨z,hd,vs,rel,dd⟩:=zp3 I.hok e;have hz:vs.length<=sizeLine:=by rw[<-rel.length];exact z
  have hl:(putK kvs k v).length<=sizeLine:=by have:=zdt kvs k v;lia
  refine wpAny_setItem_pairs (hsz:=hz) (zlP ry) dd λh' dd' hs=>h _ ?_;have he:∃q,h'.get? a=AA q:=let ⟨q,_,_,hq,_⟩:=dd';⟨q,hq⟩
  exact zhX I (by rw[e];exact C2) hs he (znu hl hd (rel.put k rv) dd')
 .subst ey eH
  cases (show u=A7 b from ry)
  let⟨z,hd,xs,rel,dd⟩:=zqi I.hok e;have hz:xs.length<=sizeLine:=by rw[<-Ee rel];exact z
  have hl:(putK kvs k v).length<=sizeLine:=by have:=zdt kvs k v;lia
  refine wpAny_setItem_heap (hsz:=hz) (GR hu) (zhi I.hok eb) dd λh' dd' hs=>h _ ?_;let⟨q,es,ep,hq,h2,h3,h4,_,h5⟩:=dd';refine zhX I (by rw[e];exact C2) hs ⟨q,hq⟩ ⟨hl,hd,_,(rel.put k eb rv).keeps λc ys ec=>?_,q,es,ep,hq,h2,h3,h4,h5⟩;rw[zd (zp8 ec e (λz=>nomatch z))];exact ec
end
section
variable {X:Cx}{π:List (AJ×B7)}{σ:St}{H:Hp}{s:AK}{a:AJ}{kvs:List (Key×V)}{k:Key}{u:AG}{A:Ag}{E:AG->AK->Prop}
end
def ycS(i:AT):Prop:=∀ov iv,subscripted i AB ov iv=operate [ov,iv] (getItem ov iv)
def ziU{prog:A4}{w:Af}{A:Ag}{E:AG->AK->Prop}{s:AK}{env:Env}{value slice:AT}{pos:CB}{T id:String}{Q:AG->AK->Prop}
  (hl:typeLookup (.type T) "__getitem__"=pure (AA (.builtin id))) (hs:ycS slice)
  (h:A2 (model prog w) A (eval value env) (λo s₁=>A2 (model prog w) A (eval slice env) (λi s₂=>s₂.TypeIs o T/\A2 (model prog w) A (getItem o i) Q E s₂) E s₁) E s):
  A2 (model prog w) A (eval (.Subscript value slice pos) env) Q E s:=by
 refine HS (Bb h (λo s₁ h₁=>Bb h₁ (λi s₂ h₂=>?_) λ_ _ x=>x) λ_ _ x=>x);let⟨hT,h₂⟩:=h₂;unfold subscriptTail;refine AI ?_;rw[getitemInPython_of_ne hT.not_modules];refine AI (wpAny_specialOf hT hl ?_);have fin:A2 (model prog w) A (subscripted slice AB o i) (λr s₃=>A2 (model prog w) A (letTemporaryGo value o r >>= λ_=>pure r) Q E s₃) E s₂:=by
  rw[hs o i];exact wpAny_operating (Bb h₂ (λr s₃ h₃=>AI (wpAny_letTemporaryGo (AV h₃))) λ_ _ x=>x)
 first
  |exact AV (AI fin)
  |exact AI (AV (AI fin))
  |exact AI fin
def ydZ(td ty tv:TE):TS:=λD σ H=>tv σ H λv H1=>td σ H1 λx H2=>ty σ H2 λy H3=>∃a H4,x=.ref a/\ye5 H3 a y v H4/\D.nx σ H4
section
variable {X:Cx}{o i e value:AT}{pos pos' tpos:CB}{td ty tv:TE}
def zly(hu:X.A.units+1<cLine)(ho:PE X o td)(hi:PE X i ty)(hv:PE X value tv)(hs:swapsWith value (AA (.Subscript o i pos')) pos.line X.env=pure AB):
  PS X (.Assign [.Subscript o i pos'] value pos) (ydZ td ty tv):=by
 intro π s σ H D I h;refine wpAny_Assign_Subscript (thn (hv π s σ H _ I h) λr s1 kq=>?_) hs;let⟨v,H1,I1,rv,q1⟩:=kq;refine thn (ho π s1 σ H1 _ I1 q1) λu s2 kq=>?_;let⟨x,H2,I2,rx,q2⟩:=kq;refine thn (hi π s2 σ H2 _ I2 q2) λiv s3 kq=>?_;let⟨y,H3,I3,ry,a,H4,ex,g,q3⟩:=kq;subst ex;obtain rfl:u=A7 a:=rx;exact zh6 hu I3 g ry rv λs4 I4=>⟨σ,H4,I4,q3⟩
end
def zjt{P:A4}{w:Af}{H:Hp}(h:Aq)(hb:sysModules<h.objs.size):yM P w H (h.push {cls:=.type "dict",data:=.dict #[]}) h.objs.size (.dT []):=
 ⟨DB _,beq_eq_false_iff_ne.mpr (Au (Ah hb)),[],.nil,_,#[],0,A3 _ rfl,⟨rfl,rfl,rfl⟩,rfl,rfl,List.nodup_nil⟩
def ydz:TE:=λ_ H Q=>∀p,H p=AD->Q (.ref p) (upd H p (.dT []))
section
variable {X:Cx}{pos:CB}
def zqE:PE X (.Dict [] [] pos) ydz:=λπ s σ H Q I h=>
 wpAny_Dict_empty ⟨.ref s.heap.objs.size,_,I.laid (a:=s.heap.objs.size) (o:=.dT []) (t':=s.toks) (λ_ _ q=>AO _ q) (AR _) (zjt s.heap I.big),rfl,h _ (I.hok.fresh (AR _))⟩
end
structure M2(X:Cx)(o:AT)(m:AL)(apos:CB)(e f:AT)(cpos:CB):Prop where
 base:attributeBase o m X.env (eval o X.env)=eval o X.env
 few:((backTo cpos (starEach [e,f] X.env)).all (λx=>!x.1)&&(backToKw cpos (keywordEach [] X.env)).all (λx=>x.1.isSome)
  && decide (([e,f]:List AT).length+([]:List B8).length+(if ([]:List B8).isEmpty then 0 else 1)<30))=AC
 line:(apos.endLine==cpos.line)=AC
 trees:backTo cpos (starEach [e,f] X.env)=[(AB,eval e X.env),(AB,eval f X.env)]
def IsD(H:Hp)(a:AJ):Prop:=(∃kvs,Rd H a (.dK kvs)) \/ ∃kvs,Rd H a (.dT kvs)
def zoj{X:Cx}{π:List (AJ×B7)}{σ:St}{H:Hp}{s:AK}{a:AJ}(I:Inv X π σ H s)(d:IsD H a):
  s.TypeIs (.ref a) "dict"/\(∀b,A7 a=.ref b->∃ob,s.heap.get? b=AA ob/\ob.dict=AD)/\(a==sysModules)=false:=by
 rcases d with⟨kvs,e⟩|⟨kvs,e⟩
 .let⟨_,hd,vs,_,dd⟩:=zmc I.hok e;refine⟨dd.typeIs,λb q=>?_,hd⟩
  cases q
  let⟨ob,_,_,h1,h2,_⟩:=dd;exact⟨ob,h1,h2.2.1⟩
 .let⟨_,hd,xs,_,dd⟩:=zlD I.hok e;refine⟨dd.typeIs,λb q=>?_,hd⟩
  cases q
  let⟨ob,_,_,h1,h2,_⟩:=dd;exact⟨ob,h1,h2.2.1⟩
section
variable {X:Cx}{π:List (AJ×B7)}{σ:St}{H:Hp}{s:AK}{a:AJ}{y d:V}{u r:AG}{o:Option V}{A:Ag}{E:AG->AK->Prop}
def zoZ{Q:AG->AK->Prop}(hu:A.units+1<cLine)(I:Inv X π σ H s)(g:yfa H a y o)(ry:RelV y u)(rd:RelV d r)(h:∀w' s',Inv X π σ H s'->RelV (o.getD d) w'->Q w' s'):
  A2 (model X.prog X.w) A (call (.builtin "dict.get") [.ref a,u,r]) Q E s:=by
 rcases g with⟨kvs,k,e,ey,l⟩|⟨kvs,k,b,e,ey,eb,l⟩
 .subst ey;let⟨z,hd,vs,rel,dd⟩:=zmc I.hok e;refine call_meetsIn DW dd.typeIs FM (Ey _ _ _) (meets_dict_get_default (yL X.prog X.w) a (zlP ry) hd r) ⟨_,dd.mapOf,h _ _ (I.tok _) ?_⟩;rw[l];exact(rel.val k).getD rd
 .subst ey
  cases (show u=A7 b from ry)
  let⟨z,hd,xs,rel,dd⟩:=zlD I.hok e;refine call_meetsIn DW dd.typeIs FM (Ey _ _ _) (meetsH_dict_get_default (tupleKind (yL X.prog X.w)) a b hd r) ⟨GR hu,k,xs,zhi I.hok eb,dd,h _ _ (I.tok _) ?_⟩;rw[l];exact(rel.val k).getD rd
end
def yds(td ty tx:TE):TE:=λσ H Q=>td σ H λx H1=>∃a,x=.ref a/\IsD H1 a/\ty σ H1 λy H2=>tx σ H2 λz H3=>∃o,yfa H3 a y o/\Q (o.getD z) H3
section
variable {X:Cx}{o e f:AT}{apos cpos:CB}{td ty tx:TE}
def zkv(hu:X.A.units+1<cLine)(ho:PE X o td)(he:PE X e ty)(hf:PE X f tx)(m:M2 X o "get" apos e f cpos):PE X (.Call (.Attribute o "get" apos) [e,f] [] cpos) (yds td ty tx):=by
 intro π s σ H Q I h;refine wpAny_Call_method m.base m.few m.line PySem.F.plainAttrs_dict DW PySem.F.type_dict_get (thn (ho π s σ H _ I h) λu s1 kq=>?_);let⟨x,H1,I1,rx,a,ex,d,q1⟩:=kq;subst ex;obtain rfl:u=A7 a:=rx;let⟨t1,t2,_⟩:=zoj I1 d;refine⟨t1,t2,?_⟩;rw[m.trees];refine DL rfl (Db (EG (thn (he π s1 σ H1 _ I1 q1) λiv s2 ⟨y,H2,I2,ry,q2⟩=>
  EG (thn (hf π s2 σ H2 _ I2 q2) λfv s3 ⟨z,H3,I3,rz,ov,g,q3⟩=>GZ ?_))))
 exact zoZ hu I3 g ry rz λw' s4 I4 rw'=>⟨_,H3,I4,rw',q3⟩
end
section
variable {X:Cx}{π:List (AJ×B7)}{σ:St}{H:Hp}{s:AK}{a:AJ}{kvs:List (Key×V)}{A:Ag}{E:AG->AK->Prop}
end
section
variable {X:Cx}{π:List (AJ×B7)}{σ:St}{H:Hp}{s:AK}{a:AJ}{y:V}{u:AG}{A:Ag}{E:AG->AK->Prop}
end
end L2
namespace IC
open PySem
inductive PV where
 |non|bl (b:Bool)|int (i:Int)|str (x:AL)|tp (k:Bool) (xs:List PV)|lst (xs:List PV)|loc (n:Nat)|exn (c:Nat)|scr (xs:List PV)|fnc (j:Nat)
deriving Inhabited
abbrev PV.tup(xs:List PV):PV:=.tp AB xs
mutual
noncomputable def nL:PV->Bool
 |.loc _=>AB
 |.exn _=>AB
 |.fnc _=>AC
 |.tp _ xs=>nLs xs
 |.lst xs=>nLs xs
 |.scr xs=>nLs xs
 |_=>AC
noncomputable def nLs:List PV->Bool
 |[]=>AC
 |x::xs=>nL x&&nLs xs
end
mutual
noncomputable def shd(n:Nat):PV->Bool
 |.non=>AC
 |.bl _=>AC
 |.int _=>AC
 |.str x=>x.cps.all (· < 0x110000)
 |.tp _ xs=>decide (0<n)&&ya4 (n-1) xs
 |.lst xs=>decide (0<n)&&ya4 (n-1) xs
 |_=>AB
noncomputable def ya4(n:Nat):List PV->Bool
 |[]=>AC
 |x::xs=>shd n x&&ya4 n xs
end
abbrev shp(v:PV):Bool:=shd 60 v
def flat:PV->Bool
 |.non=>AC
 |.bl _=>AC
 |.int _=>AC
 |.str _=>AC
 |_=>AB
def bi(b:Bool):Int:=if b then 1 else 0
mutual
noncomputable def peq:PV->PV->Bool
 |.non,.non=>AC
 |.bl a,.bl b=>a==b
 |.bl a,.int j=>bi a==j
 |.int i,.bl b=>i==bi b
 |.int i,.int j=>i==j
 |.str x,.str y=>x==y
 |.tp _ xs,.tp _ ys=>ybi xs ys
 |.lst xs,.lst ys=>ybi xs ys
 |_,_=>AB
noncomputable def ybi:List PV->List PV->Bool
 |[],[]=>AC
 |x::xs,y::ys=>peq x y&&ybi xs ys
 |_,_=>AB
end
inductive Ob where
 |lst (xs:List PV)|dct (t:Bool) (kvs:List (PV×PV))|dead|ins (c:Nat) (fs:List (AL×PV))
abbrev Env:=List (Option PV)
abbrev SO:=List Ob
inductive R(α:Type) where
 |ok (a:α) (st:SO)|exc (c:Nat) (st:SO)|bad
def R.bind{α β:Type}(r:R α)(k:α->SO->R β):R β:=
 match r with
 |.ok a st=>k a st
 |.exc c st=>.exc c st
 |.bad=>.bad
inductive BOp where
 |add|sub|mul|fdiv|mod|pow|shl|shr|band|bor|bxor
inductive COp where
 |eq|ne|lt|le|gt|ge|is|isnot|isin|notin
inductive Ty where
 |int|bool|str|tuple|list|cls (c:Nat)|val
inductive Blt where
 |len|int|abs|min|max|tuple|list|all|sum|dict|rev|str|any
inductive Mth where
 |append|extend|get|bits|upper|insert|count|index|join|split|sidx|clear
inductive Tg where
 |n (i:Nat)|t (l:List Nat)
set_option genInjectivity false
mutual
inductive Ce where
 |cst (v:PV)
 |var (i:Nat)
 |bin (o:BOp) (a b:Ce)
 |neg (a:Ce)
 |not (a:Ce)
 |and (a b:Ce)
 |or (a b:Ce)
 |cmp (o:COp) (a b:Ce)
 |chain (o p:COp) (a b c:Ce)
 |ite (c a b:Ce)
 |tup (es:Ces)
 |lst (es:Ces)
 |newl (es:Ces)
 |dict0 (t:Bool)
 |idx (a i:Ce)
 |slc (a:Ce) (lo hi:Ce)
 |call (f:Nat) (args:Ces)
 |blt (b:Blt) (args:Ces)
 |mth (m:Mth) (o:Ce) (args:Ces)
 |isi (a:Ce) (t:List Ty)
 |isx (a:Ce) (cs:List Nat) (t:List Ty)
 |comp (sl:List (Option Nat)) (tg:Tg) (it:Cit) (c:Ce) (e:Ce)
 |frz (a:Ce)
 |nope
 |fst (e:Ces)
 |rep (a b:Ce)
 |dix (D:List (AL×PV)) (a:Ce)
 |din (a:Ce) (D:List (AL×PV))
 |nin (a b:Ce)
 |fld (c:Nat) (a:Ce) (f:AL)
 |new (c i:Nat) (es:Ces)
 |mcl (c i:Nat) (m:AL) (o:Ce) (es:Ces)
 |inn (a b:Ce)
 |qcl (i:Nat) (es:Ces)
 |cav (i:Nat) (L:List (AL×Nat)) (es:Ces)
inductive Ces where
 |nil
 |cons (e:Ce) (es:Ces)
inductive Cit where
 |seq (e:Ce)
 |range1 (a:Ce)
 |range2 (a b:Ce)
 |rangeD (a b:Ce)
 |enum (e:Ce)
 |zip (a b:Ce)
 |revl (e:Ce)
 |revr (a:Ce)
 |chars (e:Ce)
end
set_option genInjectivity true
abbrev Ce.i(n:Int):Ce:=.cst (.int n)
abbrev Ce.s(x:AL):Ce:=.cst (.str x)
abbrev Ce.v:=Ce.var
abbrev Ces.k:=Ces.cons
abbrev Ces.e:=Ces.nil
mutual
inductive Cs where
 |expr (e:Ce)
 |asg (t:Tg) (e:Ce)
 |six (o i e:Ce)
 |dput (o i e:Ce)
 |aug (i:Nat) (o:BOp) (e:Ce)
 |ret (e:Ce)
 |ite (c:Ce) (a b:Css)
 |for (t:Tg) (it:Cit) (b:Css)
 |while (c:Ce) (b:Css)
 |nope
 |raise (c:Nat) (e:Ce)
 |try (b:Css) (cs:List Nat) (i:Nat) (h:Css)
 |sfl (c:Nat) (o:Ce) (f:AL) (e:Ce)
 |mkr (i:Nat) (D:List (AL×Nat)) (n:Ce) (es:Ces)
inductive Css where
 |nil
 |cons (s:Cs) (ss:Css)
end
abbrev Css.k:=Css.cons
abbrev Css.e:=Css.nil
def yar(i j:Int):Bool:=(decide (i.natAbs<18446744073709551616)) || (decide (j.natAbs<18446744073709551616))
def binI(o:BOp)(i j:Int):Option PV:=
 match o with
 |.add=>AA (.int (i+j))
 |.sub=>AA (.int (i-j))
 |.mul=>if yar i j then AA (.int (i*j))else AD
 |.fdiv=>if 0<j/\j<10000000000000000000000000000000000000000000000000000000000000000000000 then AA (.int (i/j))else AD
 |.mod=>if 0<j then AA (.int (i%j))else AD
 |.pow=>if 0<=j/\j<=1000000/\i.natAbs<18446744073709551616 then AA (.int (i^j.toNat))else AD
 |.shl=>if 0<=j/\j<=1000000/\i.natAbs<18446744073709551616 then AA (.int (i*2^j.toNat))else AD
 |.shr=>if 0<=j then AA (.int (i/2^j.toNat))else AD
 |.band=>AA (.int (Ar i j))
 |.bor=>AA (.int (B3 i j))
 |.bxor=>AA (.int (B4 i j))
def sizeMax:Nat:=16777216
def ydO(k:Bool)(a:List PV)(j:Bool)(b:List PV):PV:=if a.isEmpty then .tp j b else if b.isEmpty then .tp k a else .tup (a++b)
def ydw(x y:PV):Option PV:=
 match x,y with
 |.str a,.int n=>if 1<=n/\n<=1000/\a.length<=1000/\1<=a.length then AA (.str ⟨(AM n.toNat a.cps.toList).flatten.toArray⟩)else AD
 |.tp k a,.int n=>if n=1 then AA (.tp k a)else if 2<=n/\n<=1000/\a.isEmpty=AB/\a.length<=1000 then AA (.tup (AM n.toNat a).flatten)else AD
 |.lst a,.int n=>if 1<=n/\n<=1000/\a.length<=1000 then AA (.lst (AM n.toNat a).flatten)else AD
 |_,_=>AD
def yt(o:BOp)(x y:PV):Option PV:=
 match x,y with
 |.int i,.int j=>binI o i j
 |.int i,.bl b=>match o with
  |.add=>AA (.int (i+bi b))
  |_=>AD
 |.str a,.str b=>match o with
  |.add=>if a.length+b.length<=sizeMax then AA (.str (a++b))else AD
  |_=>AD
 |.tp k a,.tp j b=>match o with
  |.add=>if a.length+b.length<=sizeMax then AA (ydO k a j b)else AD
  |_=>AD
 |.lst a,.lst b=>match o with
  |.add=>if a.length+b.length<=sizeMax then AA (.lst (a++b))else AD
  |_=>AD
 |_,_=>AD
def ybA(o:BOp)(x y:PV):Option PV:=
 match x,y with
 |.int i,.int j=>binI o i j
 |_,_=>AD
def isNon:PV->Bool
 |.non=>AC
 |_=>AB
def inL(x:PV):List PV->Bool
 |[]=>AB
 |y::ys=>peq y x || inL x ys
def inS(a b:AL):Bool:=(C0 (b.length+1)).any λi=>decide (i+a.length<=b.length)&&(b.cps.extract i (i+a.length)==a.cps)
def ybp(o:COp)(i j:Int):Option PV:=
 match o with
 |.lt=>AA (.bl (decide (i<j)))
 |.le=>AA (.bl (decide (i<=j)))
 |.gt=>AA (.bl (decide (j<i)))
 |.ge=>AA (.bl (decide (j<=i)))
 |_=>AD
def yeV(o:COp)(a b:AL):Option PV:=
 match o with
 |.lt=>AA (.bl (decide (a.cps.toList<b.cps.toList)))
 |.le=>AA (.bl (!decide (b.cps.toList<a.cps.toList)))
 |_=>AD
def yw(o:COp)(x y:PV):Option PV:=
 match o with
 |.eq=>if shp x&&shp y then AA (.bl (peq x y))else AD
 |.ne=>if shp x&&shp y then AA (.bl (!peq x y))else AD
 |.is=>match y with
  |.non=>AA (.bl (isNon x))
  |.bl b=>match x with
   |.bl a=>AA (.bl (a==b))
   |_=>AD
  |_=>AD
 |.isnot=>match y with
  |.non=>AA (.bl (!isNon x))
  |.bl b=>match x with
   |.bl a=>AA (.bl (!(a==b)))
   |_=>AD
  |_=>AD
 |.isin=>match x,y with
  |.str a,.str b=>AA (.bl (inS a b))
  |x,.tp _ l=>if flat x&&l.all flat then AA (.bl (inL x l))else AD
  |x,.lst l=>if flat x&&l.all flat then AA (.bl (inL x l))else AD
  |_,_=>AD
 |.notin=>match x,y with
  |.str a,.str b=>AA (.bl (!inS a b))
  |x,.tp _ l=>if flat x&&l.all flat then AA (.bl (!inL x l))else AD
  |x,.lst l=>if flat x&&l.all flat then AA (.bl (!inL x l))else AD
  |_,_=>AD
 |o=>match x,y with
  |.int i,.int j=>ybp o i j
  |.str a,.str b=>yeV o a b
  |_,_=>AD
def yaD(st:SO)(x:PV):Option Bool:=
 match x with
 |.non=>AA AB
 |.bl b=>AA b
 |.int i=>AA (i != 0)
 |.str y=>if y.length<=sizeMax then AA ((y.length:Int) != 0)else AD
 |.tp _ xs=>AA (!xs.isEmpty)
 |.lst xs=>AA (!xs.isEmpty)
 |.loc n=>match st[n]? with
  |some (.lst xs)=>AA (!xs.isEmpty)
  |_=>AD
 |_=>AD
def ixI(n:Nat)(i:Int):Option Nat:=if 0<=i then(if i<n then AA i.toNat else AD)else if -(n:Int)<=i then AA (i+n).toNat else AD
def at?{α:Type}(xs:List α)(i:Int):Option α:=(ixI xs.length i).bind λj=>xs[j]?
def look(k:PV):List (PV×PV)->Option PV
 |[]=>AD
 |(a,b)::r=>if peq a k then AA b else look k r
def put(k v:PV)(kvs:List (PV×PV)):List (PV×PV):=
 if (kvs.any λp=>peq p.1 k)=AC then kvs.map (λp=>if peq p.1 k=AC then(p.1,v)else p)else kvs++[(k,v)]
def ybr:PV->Bool
 |.int _=>AC
 |.str _=>AC
 |_=>AB
def isKey(t:Bool)(k:PV):Bool:=
 match t with
 |false=>ybr k
 |true=>match k with
  |.tp AB xs=>xs.all ybr
  |_=>AB
def yaP{α:Type}(xs:List α)(i:PV):Option α:=
 match i with
 |.int k=>at? xs k
 |_=>AD
def idxV(st:SO)(x i:PV):Option PV:=
 match x with
 |.tp _ xs=>yaP xs i
 |.lst xs=>yaP xs i
 |.str s=>if s.length<=sizeMax then(yaP s.cps.toList i).map λc=>.str ⟨#[c]⟩else AD
 |.loc n=>match st[n]? with
  |some (.lst xs)=>yaP xs i
  |_=>AD
 |_=>AD
def ya8(n:Nat)(v:Int):Nat:=if v<0 then(v+(n:Int)).toNat else min v.toNat n
def ycy(n:Nat)(lo:Option Int):Nat:=
 match lo with
 |none=>0
 |some i=>ya8 n i
def ycQ(n:Nat)(hi:Option Int):Nat:=
 match hi with
 |none=>n
 |some i=>ya8 n i
def cut{α:Type}(xs:List α)(lo hi:Option Int):List α:=(xs.drop (ycy xs.length lo)).take (ycQ xs.length hi-ycy xs.length lo)
def ybX:PV->Option (Option Int)
 |.non=>AA AD
 |.int i=>AA (AA i)
 |_=>AD
def ycl(x:PV)(a b:Option Int):Option PV:=
 match x with
 |.tp k xs=>if ycy xs.length a=0/\ycQ xs.length b=xs.length then AA (.tp k xs)else AA (.tup (cut xs a b))
 |.str s=>if s.length<=sizeMax then AA (.str ⟨(cut s.cps.toList a b).toArray⟩)else AD
 |.lst xs=>AA (.lst (cut xs a b))
 |.scr xs=>AA (.lst (cut xs a b))
 |_=>AD
def ycB(x:PV)(a:Option Int)(hi:PV):Option PV:=
 match ybX hi with
 |some b=>ycl x a b
 |none=>AD
def yaU(x:PV)(t:Ty):Bool:=
 match x,t with
 |.int _,.int=>AC
 |.bl _,.int=>AC
 |.bl _,.bool=>AC
 |.str _,.str=>AC
 |.tp _ _,.tuple=>AC
 |.lst _,.list=>AC
 |.exn c,.cls d=>c==d
 |.exn _,.val=>AC
 |_,_=>AB
def ydC:Ty->Bool
 |.cls _=>AB
 |.val=>AB
 |_=>AC
def yaR(x:PV)(ts:List Ty):Option PV:=
 match x with
 |.loc _=>AD
 |.scr _=>AD
 |.fnc _=>AD
 |.exn c=>if ts.all ydC then AD else AA (.bl (ts.any (yaU (.exn c))))
 |x=>match ts with
  |[t]=>if ydC t then AA (.bl (yaU x t))else AD
  |_=>AD
def ycP(cs:List Nat)(x:PV)(ts:List Ty):Option PV:=
 match x with
 |.exn c=>if cs.contains c then AA (.bl (ts.any (yaU (.exn c))))else AD
 |_=>AD
def ybI:PV->Option AL
 |.int i=>if i.natAbs.log2<1920 then AA (AE (toString i))else AD
 |.str s=>if s.length<=16777216 then AA s else AD
 |_=>AD
def yb7:AL->List PV->Option AL
 |out,[]=>if out.length<=16777216 then AA out else AD
 |out,v::vs=>match ybI v with
  |some y=>if (out++y).length<=16777216 then yb7 (out++y) vs else AD
  |none=>AD
def yc7(r:R (List PV)):R PV:=
 match r with
 |.ok vs st=>match yb7 DA vs with
  |some z=>.ok (.str z) st
  |none=>.bad
 |_=>.bad
def allB:List PV->Option Bool
 |[]=>AA AC
 |.bl b::r=>match allB r with
  |some c=>AA (b&&c)
  |none=>AD
 |_::_=>AD
def yfy:List PV->Option Int
 |[]=>AA 0
 |.int i::r=>match yfy r with
  |some c=>AA (i+c)
  |none=>AD
 |_::_=>AD
def ydr:List PV->Option Int
 |[]=>AD
 |[.int i]=>AA i
 |.int i::r=>match ydr r with
  |some c=>AA (if i<c then c else i)
  |none=>AD
 |_::_=>AD
def ya2(st:SO):PV->Option (List PV)
 |.tp _ xs=>AA xs
 |.lst xs=>AA xs
 |.loc n=>match st[n]? with
  |some (.lst xs)=>AA xs
  |_=>AD
 |_=>AD
def yJ(st:SO):PV->Option (List PV)
 |.lst xs=>AA xs
 |.loc n=>match st[n]? with
  |some (.lst xs)=>AA xs
  |_=>AD
 |_=>AD
def lenV(st:SO)(x:PV):Option PV:=
 match x with
 |.str s=>if s.length<=sizeMax then AA (.int s.length)else AD
 |x=>(ya2 st x).map λxs=>.int xs.length
def yg1(x:PV):Option PV:=
 match x with
 |.int i=>AA (.int i)
 |.bl k=>AA (.int (bi k))
 |_=>AD
def ydY(x:PV):Option PV:=
 match x with
 |.int i=>AA (.int (if i<0 then -i else i))
 |_=>AD
def ygj(x y:PV):Option PV:=
 match x,y with
 |.int i,.int j=>AA (.int (if j<i then j else i))
 |_,_=>AD
def maxV(x y:PV):Option PV:=
 match x,y with
 |.int i,.int j=>AA (.int (if i<j then j else i))
 |_,_=>AD
def yfl(st:SO)(x:PV):Option PV:=
 match x with
 |.tp k xs=>AA (.tp k xs)
 |x=>(yJ st x).map .tup
def ydV:PV->Option PV
 |.tp _ xs=>if xs.isEmpty then AD else AA (.tup xs.reverse)
 |.lst xs=>AA (.lst xs.reverse)
 |_=>AD
def anyB:List PV->Option Bool
 |[]=>AA AB
 |.bl b::r=>match anyB r with
  |some c=>AA (b || c)
  |none=>AD
 |_=>AD
def anyI:List PV->Option Bool
 |[]=>AA AB
 |.int i::r=>match anyI r with
  |some c=>AA ((i != 0) || c)
  |none=>AD
 |_=>AD
def yg3:PV->Option PV
 |.int i=>if i=0 then AA (.str "0")else if i=1 then AA (.str "1")else AD
 |_=>AD
def yam(b:Blt)(st:SO)(vs:List PV):Option PV:=
 match vs with
 |[x]=>match b with
  |.len=>lenV st x
  |.int=>yg1 x
  |.abs=>ydY x
  |.max=>(yJ st x).bind λxs=>(ydr xs).map .int
  |.tuple=>yfl st x
  |.list=>(ya2 st x).map .lst
  |.all=>(yJ st x).bind λxs=>(allB xs).map .bl
  |.sum=>(yJ st x).bind λxs=>(yfy xs).map .int
  |.rev=>ydV x
  |.str=>yg3 x
  |.any=>match x with
   |.tp _ xs=>(anyI xs).map .bl
   |x=>(yJ st x).bind λxs=>(anyB xs).map .bl
  |_=>AD
 |[x,y]=>match b with
  |.min=>ygj x y
  |.max=>maxV x y
  |_=>AD
 |_=>AD
def ya0(st:SO):PV->Option (Bool×List (PV×PV))
 |.loc n=>match st[n]? with
  |some (.dct t xs)=>AA (t,xs)
  |_=>AD
 |_=>AD
def yav(m:Mth)(st:SO)(x:PV):Option Bool:=
 match m with
 |.append=>(yJ st x).map λ_=>AC
 |.extend=>(yJ st x).map λ_=>AC
 |.insert=>(yJ st x).map λ_=>AC
 |.count=>(yJ st x).map λ_=>AC
 |.index=>(yJ st x).map λ_=>AC
 |.get=>(ya0 st x).map λ_=>AC
 |.bits=>match x with
  |.int _=>AA AC
  |_=>AD
 |.upper=>match x with
  |.str _=>AA AC
  |_=>AD
 |.join=>match x with
  |.str _=>AA AC
  |_=>AD
 |.split=>match x with
  |.str _=>AA AC
  |_=>AD
 |.sidx=>match x with
  |.str _=>AA AC
  |_=>AD
 |.clear=>match x with
  |.loc n=>(yJ st (.loc n)).map λ_=>AC
  |_=>AD
def yd0(st:SO)(o v:PV):R PV:=
 match o with
 |.loc n=>match st[n]? with
  |some (.lst xs)=>if xs.length<1000000 then .ok .non (st.set n (.lst (xs++[v])))else .bad
  |_=>.bad
 |_=>.bad
def yfJ(st:SO)(o v:PV):R PV:=
 match o with
 |.loc n=>match st[n]? with
  |some (.lst xs)=>match v with
   |.lst ys=>if xs.length+ys.length<=1000000 then .ok .non (st.set n (.lst (xs++ys)))else .bad
   |_=>.bad
  |_=>.bad
 |_=>.bad
def yfu(st:SO)(o i v:PV):R PV:=
 match o with
 |.loc n=>match st[n]? with
  |some (.lst xs)=>match i with
   |.int k=>if 0<=k/\k<=xs.length/\xs.length<1000000 then .ok .non (st.set n (.lst (xs.take k.toNat++v::xs.drop k.toNat)))else .bad
   |_=>.bad
  |_=>.bad
 |_=>.bad
def ydQ(st:SO)(o k d:PV):R PV:=
 match ya0 st o with
 |some (t,kvs)=>if isKey t k then .ok ((look k kvs).getD d) st else .bad
 |none=>.bad
def yfw(st:SO)(o v:PV):R PV:=
 match yJ st o with
 |some xs=>if flat v&&xs.all flat then .ok (.int (xs.countP λy=>peq y v)) st else .bad
 |none=>.bad
def ybV(v:PV):List PV->Option Nat
 |[]=>AD
 |y::ys=>if peq y v then AA 0 else(ybV v ys).map (·+1)
def ye9(st:SO)(o v:PV):R PV:=
 match yJ st o with
 |some xs=>if flat v&&xs.all flat then(match ybV v xs with
  |some j=>.ok (.int j) st
  |none=>.bad)else .bad
 |none=>.bad
def upC(c:Nat):Nat:=if 97<=c/\c<=122 then c-32 else c
def upS(s:AL):Str:=⟨(s.cps.toList.map upC).toArray⟩
def ybO(c:Nat):List Nat->List (List Nat)
 |[]=>[[]]
 |x::xs=>if x=c then []::ybO c xs else match ybO c xs with
  |[]=>[[x]]
  |p::ps=>(x::p)::ps
def strsOf:List PV->Option (List AL)
 |[]=>AA []
 |.str s::r=>(strsOf r).map (s :: ·)
 |_=>AD
def yd7(st:SO)(o v:PV):R PV:=
 match o,yJ st v with
 |.str s,AA xs=>match strsOf xs with
  |some ys=>if s.length<=10/\xs.length<=1000/\(ys.all λy=>decide (y.length<=1000))=AC then .ok (.str (Str.join s ys)) st else .bad
  |none=>.bad
 |_,_=>.bad
def ye3(st:SO)(o:PV):R PV:=
 match o with
 |.loc n=>match st[n]? with
  |some (.lst _)=>.ok .non (st.set n (.lst []))
  |_=>.bad
 |_=>.bad
def yeJ(st:SO)(o v:PV):R PV:=
 match o,v with
 |.str s,.str y=>if s=AE "01" then(if y=AE "0" then .ok (.int 0) st else if y=AE "1" then .ok (.int 1) st else .bad)else .bad
 |_,_=>.bad
def ycZ(st:SO)(o v:PV):R PV:=
 match o,v with
 |.str s,.str y=>match y.cps.toList with
  |[c]=>if s.length<=100000 then .ok (.lst ((ybO c s.cps.toList).map λl=>.str ⟨l.toArray⟩)) st else .bad
  |_=>.bad
 |_,_=>.bad
def ybU(m:Mth)(st:SO)(o:PV)(vs:List PV):R PV:=
 match m,vs with
 |.append,[v]=>yd0 st o v
 |.extend,[v]=>yfJ st o v
 |.insert,[i,v]=>yfu st o i v
 |.get,[k,d]=>ydQ st o k d
 |.count,[v]=>yfw st o v
 |.index,[v]=>ye9 st o v
 |.join,[v]=>yd7 st o v
 |.split,[v]=>ycZ st o v
 |.sidx,[v]=>yeJ st o v
 |.clear,[]=>ye3 st o
 |.bits,[]=>match o with
  |.int i=>.ok (.int (Builtin.Int.intBits i)) st
  |_=>.bad
 |.upper,[]=>match o with
  |.str s=>if s.cps.toList.all (· < 128)/\s.length<=1000000 then .ok (.str (upS s)) st else .bad
  |_=>.bad
 |_,_=>.bad
def toR(o:Option PV)(st:SO):R PV:=
 match o with
 |some v=>.ok v st
 |none=>.bad
def yD(t:Tg)(v:PV)(ρ:Env):Option Env:=
 match t,v with
 |.n i,v=>AA (ρ.set i (AA v))
 |.t l,.tp _ xs=>if l.length=xs.length then AA ((l.zip xs).foldl (λρ p=>ρ.set p.1 (AA p.2)) ρ)else AD
 |_,_=>AD
def yS:Nat->List PV->List PV
 |_,[]=>[]
 |k,x::xs=>.tup [.int k,x]::yS (k+1) xs
def yaM:List PV->List PV->List PV
 |x::xs,y::ys=>.tup [x,y]::yaM xs ys
 |_,_=>[]
def ygc:PV->Option (List PV)
 |.tp _ xs=>AA xs.reverse
 |.lst xs=>AA xs.reverse
 |_=>AD
def yc6:PV->Option (List PV)
 |.str s=>if s.length<=1000000 then AA (s.cps.toList.map λc=>.str ⟨#[c]⟩)else AD
 |_=>AD
def ydK(x y:PV):Option (List PV):=
 match x,y with
 |.tp _ xs,.tp _ ys=>if xs.length<=ys.length then AA (yaM xs ys)else AD
 |_,_=>AD
def yaH(s:AL):List (AL×PV)->Option PV
 |[]=>AD
 |(a,b)::r=>if decide (a=s)then AA b else yaH s r
def yco(D:List (AL×PV))(x:PV):Option PV:=
 match x with
 |.str s=>yaH s D
 |_=>AD
def yb3(D:List (AL×PV))(x:PV):Option PV:=
 match x with
 |.str s=>AA (.bl (yaH s D).isSome)
 |_=>AD
def yp:Nat->Int->Int->List PV
 |0,_,_=>[]
 |n+1,a,d=>.int a::yp n (a+d) d
def ybJ(x:PV):Option (List PV):=
 match x with
 |.int j=>if j.natAbs<1000000000 then AA (yp j.toNat 0 1)else AD
 |_=>AD
def yhg(x:PV):Option (List PV):=
 match x with
 |.int j=>if 0<=j/\j<1000000000 then AA (yp j.toNat (j-1) (-1))else AD
 |_=>AD
def ygz(x y:PV):Option (List PV):=
 match x,y with
 |.int i,.int j=>if i.natAbs<1000000000/\j.natAbs<1000000000 then AA (yp (j-i).toNat i 1)else AD
 |_,_=>AD
def yfX(x y:PV):Option (List PV):=
 match x,y with
 |.int i,.int j=>if i.natAbs<1000000000/\j.natAbs<1000000000 then AA (yp (i-j).toNat i (-1))else AD
 |_,_=>AD
def toL(o:Option (List PV))(st:SO):R (List PV):=
 match o with
 |some v=>.ok v st
 |none=>.bad
def ydu(v:PV)(st:SO):R PV:=
 match v with
 |.loc n=>match st[n]? with
  |some (.lst xs)=>.ok (.lst xs) (st.set n .dead)
  |_=>.bad
 |v=>.ok v st
def ybW(st:SO)(x y:PV):Option PV:=
 match ya2 st y with
 |some xs=>if shp x&&ya4 60 xs then AA (.bl (!inL x xs))else AD
 |none=>AD
def ybZ(st:SO)(x y:PV):Option PV:=
 match ya2 st y with
 |some xs=>if shp x&&ya4 60 xs then AA (.bl (inL x xs))else AD
 |none=>AD
def mkV(D:List (AL×Nat))(b:Bool)(x:PV):Option Nat:=
 match x with
 |.str s=>if b then D.lookup s else AD
 |_=>AD
def yaS(c:Nat)(st:SO)(x:PV)(f:AL):Option PV:=
 match x with
 |.loc n=>match st[n]? with
  |some (.ins d fs)=>if d=c then fs.lookup f else AD
  |_=>AD
 |_=>AD
def ybD(f:AL)(v:PV):List (AL×PV)->List (AL×PV)
 |[]=>[(f,v)]
 |(g,x)::r=>if g=f then(g,v)::r else(g,x)::ybD f v r
def yaT(c:Nat)(st:SO)(x:PV)(f:AL)(v:PV):Option SO:=
 match x with
 |.loc n=>match st[n]? with
  |some (.ins d fs)=>if d=c/\fs.length<1000 then AA (st.set n (.ins c (ybD f v fs)))else AD
  |_=>AD
 |_=>AD
def ybT(c:Nat)(m:AL)(st:SO)(x:PV):Option Bool:=
 match x with
 |.loc n=>match st[n]? with
  |some (.ins d fs)=>if d=c/\fs.lookup m=AD then AA AC else AD
  |_=>AD
 |_=>AD
def newV(n:Nat)(v:PV)(st:SO):R PV:=
 match v with
 |.non=>.ok (.loc n) st
 |_=>.bad
def yaZ(r:R PV):R PV:=
 match r with
 |.ok v st=>.ok v st
 |_=>.bad
inductive Fl where
 |nx (ρ:Env) (st:SO)|rt (v:PV) (st:SO)|bk (ρ:Env) (st:SO)|ct (ρ:Env) (st:SO)|exc (c:Nat) (ρ:Env) (st:SO)|bad
def onBl{α:Type}(x:PV)(k:Bool->R α):R α:=
 match x with
 |.bl b=>k b
 |_=>.bad
def onO{α:Type}(o:Option Bool)(k:Bool->R α):R α:=
 match o with
 |some b=>k b
 |none=>.bad
def onF(o:Option Bool)(k:Bool->Fl):Fl:=
 match o with
 |some b=>k b
 |none=>.bad
def onP{α:Type}(o:Option (Option Int))(k:Option Int->R α):R α:=
 match o with
 |some b=>k b
 |none=>.bad
def blO(o:Option PV):Option Bool:=
 match o with
 |some (.bl b)=>AA b
 |_=>AD
def ybQ(o:Option PV)(ys:List PV):List PV:=
 match o with
 |some y=>y::ys
 |none=>ys
def yaL(one:PV->SO->R (Option PV)):List PV->SO->R (List PV)
 |[],st=>.ok [] st
 |x::xs,st=>(one x st).bind λo st1=>(yaL one xs st1).bind λys st2=>.ok (ybQ o ys) st2
def ycq(r:R (List PV)):R PV:=
 match r with
 |.ok ys st=>if ys.length<=1000000 then .ok (.lst ys) st else .bad
 |_=>.bad
def yb0(L:List (AL×Nat))(v:Option (Option PV)):Option Nat:=
 match v with
 |some (AA (.fnc j))=>if L.any (λp=>p.2==j&&L.lookup p.1==AA j)then AA j else AD
 |_=>AD
mutual
noncomputable def ev(call:Nat->List PV->SO->R PV)(ρ:Env)(st:SO):Ce->R PV
 |.cst v=>.ok v st
 |.var i=>match ρ[i]? with
  |some (AA v)=>.ok v st
  |_=>.bad
 |.bin o a b=>(ev call ρ st a).bind λx st1=>(ev call ρ st1 b).bind λy st2=>toR (yt o x y) st2
 |.neg a=>(ev call ρ st a).bind λx st1=>match x with
  |.int i=>.ok (.int (-i)) st1
  |_=>.bad
 |.not a=>(ev call ρ st a).bind λx st1=>onBl x λk=>.ok (.bl (!k)) st1
 |.and a b=>(ev call ρ st a).bind λx st1=>onBl x λk=>cond k (ev call ρ st1 b) (.ok (.bl AB) st1)
 |.or a b=>(ev call ρ st a).bind λx st1=>onBl x λk=>cond k (.ok (.bl AC) st1) (ev call ρ st1 b)
 |.cmp o a b=>(ev call ρ st a).bind λx st1=>(ev call ρ st1 b).bind λy st2=>toR (yw o x y) st2
 |.chain o p a b c=>(ev call ρ st a).bind λx st1=>(ev call ρ st1 b).bind λy st2=>onO (blO (yw o x y)) λk=>cond k ((ev call ρ st2 c).bind λz st3=>toR (yw p y z) st3) (.ok (.bl AB) st2)
 |.ite c a b=>(ev call ρ st c).bind λx st1=>onO (yaD st1 x) λk=>cond k (ev call ρ st1 a) (ev call ρ st1 b)
 |.tup es=>(evs call ρ st es).bind λvs st1=>if vs.length<=sizeMax then .ok (.tup vs) st1 else .bad
 |.lst es=>(evs call ρ st es).bind λvs st1=>if vs.length<=sizeMax then .ok (.lst vs) st1 else .bad
 |.newl es=>(evs call ρ st es).bind λvs st1=>if vs.length<=sizeMax then .ok (.loc st1.length) (st1++[.lst vs])else .bad
 |.dict0 t=>.ok (.loc st.length) (st++[.dct t []])
 |.idx a i=>(ev call ρ st a).bind λx st1=>(ev call ρ st1 i).bind λy st2=>toR (idxV st2 x y) st2
 |.slc a l h=>(ev call ρ st a).bind λx st1=>(ev call ρ st1 l).bind λy st2=>onP (ybX y) λo=>(ev call ρ st2 h).bind λz st3=>toR (ycB x o z) st3
 |.call f es=>(evs call ρ st es).bind λvs st1=>call f vs st1
 |.blt b es=>(evs call ρ st es).bind λvs st1=>toR (yam b st1 vs) st1
 |.mth m o es=>(ev call ρ st o).bind λx st1=>onO (yav m st1 x) λ_=>(evs call ρ st1 es).bind λvs st2=>ybU m st2 x vs
 |.isi a ts=>(ev call ρ st a).bind λx st1=>toR (yaR x ts) st1
 |.isx a cs ts=>(ev call ρ st a).bind λx st1=>toR (ycP cs x ts) st1
 |.comp sl tg it c e=>(evi call ρ st it).bind λxs st1=>
  let ρ0:Env:=sl.map λo=>o.bind λj=>(ρ[j]?).join
  ycq (yaL (λx st2=>match yD tg x ρ0 with
   |none=>.bad
   |some ρ1=>(ev call ρ1 st2 c).bind λb st3=>onO (yaD st3 b) λk=>cond k ((ev call ρ1 st3 e).bind λy st4=>.ok (AA y) st4) (.ok AD st3)) xs st1)
 |.nope=>.bad
 |.frz a=>(ev call ρ st a).bind λx st1=>ydu x st1
 |.fst es=>yc7 (evs call ρ st es)
 |.rep a b=>(ev call ρ st a).bind λx st1=>(ev call ρ st1 b).bind λy st2=>toR (ydw x y) st2
 |.dix D a=>(ev call ρ st a).bind λx st1=>toR (yco D x) st1
 |.din a D=>(ev call ρ st a).bind λx st1=>toR (yb3 D x) st1
 |.nin a b=>(ev call ρ st a).bind λx st1=>(ev call ρ st1 b).bind λy st2=>toR (ybW st2 x y) st2
 |.fld c a f=>(ev call ρ st a).bind λx st1=>toR (yaS c st1 x f) st1
 |.new c i es=>(evs call ρ st es).bind λvs st1=>(yaZ (call i (.loc st1.length::vs) (st1++[.ins c []]))).bind λv st2=>newV st1.length v st2
 |.qcl i es=>(evs call ρ st es).bind λvs st1=>yaZ (call i vs st1)
 |.inn a b=>(ev call ρ st a).bind λx st1=>(ev call ρ st1 b).bind λy st2=>toR (ybZ st2 x y) st2
 |.mcl c i m o es=>(ev call ρ st o).bind λx st1=>onO (ybT c m st1 x) λ_=>(evs call ρ st1 es).bind λvs st2=>call i (x::vs) st2
 |.cav i L es=>match yb0 L ρ[i]? with
  |some j=>(evs call ρ st es).bind λvs st1=>call j vs st1
  |none=>.bad
noncomputable def evs(call:Nat->List PV->SO->R PV)(ρ:Env)(st:SO):Ces->R (List PV)
 |.nil=>.ok [] st
 |.cons e es=>(ev call ρ st e).bind λv st1=>(evs call ρ st1 es).bind λvs st2=>.ok (v::vs) st2
noncomputable def evi(call:Nat->List PV->SO->R PV)(ρ:Env)(st:SO):Cit->R (List PV)
 |.seq e=>(ev call ρ st e).bind λv st1=>match v with
  |.tp _ xs=>.ok xs st1
  |.lst xs=>.ok xs st1
  |_=>.bad
 |.range1 a=>(ev call ρ st a).bind λx st1=>toL (ybJ x) st1
 |.range2 a b=>(ev call ρ st a).bind λx st1=>(ev call ρ st1 b).bind λy st2=>toL (ygz x y) st2
 |.rangeD a b=>(ev call ρ st a).bind λx st1=>(ev call ρ st1 b).bind λy st2=>toL (yfX x y) st2
 |.enum e=>(ev call ρ st e).bind λv st1=>match v with
  |.tp _ xs=>.ok (yS 0 xs) st1
  |_=>.bad
 |.zip a b=>(ev call ρ st a).bind λx st1=>(ev call ρ st1 b).bind λy st2=>toL (ydK x y) st2
 |.revl e=>(ev call ρ st e).bind λv st1=>toL (ygc v) st1
 |.revr a=>(ev call ρ st a).bind λx st1=>toL (yhg x) st1
 |.chars e=>(ev call ρ st e).bind λv st1=>toL (yc6 v) st1
end
def R.fl{α:Type}(r:R α)(ρ:Env)(k:α->SO->Fl):Fl:=
 match r with
 |.ok a st=>k a st
 |.exc c st=>.exc c ρ st
 |.bad=>.bad
def yao(f:Fl)(k:Env->SO->Fl):Fl:=
 match f with
 |.nx ρ st=>k ρ st
 |.ct ρ st=>k ρ st
 |.bk ρ st=>.nx ρ st
 |f=>f
def forL(t:Tg)(body:Env->SO->Fl):List PV->Env->SO->Fl
 |[],ρ,st=>.nx ρ st
 |x::xs,ρ,st=>match yD t x ρ with
  |none=>.bad
  |some ρ1=>yao (body ρ1 st) λρ2 st2=>forL t body xs ρ2 st2
def yad(test:Env->SO->R PV)(body:Env->SO->Fl):Nat->Env->SO->Fl
 |0,_,_=>.bad
 |n+1,ρ,st=>(test ρ st).fl ρ λx st1=>onF (yaD st1 x) λk=>cond k (yao (body ρ st1) λρ2 st2=>yad test body n ρ2 st2) (.nx ρ st1)
def ybf(st:SO)(o i v:PV):Option SO:=
 match o with
 |.loc n=>match st[n]? with
  |some (.lst xs)=>match i with
   |.int k=>match ixI xs.length k with
    |some j=>AA (st.set n (.lst (xs.set j v)))
    |none=>AD
   |_=>AD
  |_=>AD
 |_=>AD
def yaY(st:SO)(o i v:PV):Option SO:=
 match o with
 |.loc n=>match st[n]? with
  |some (.dct t kvs)=>if isKey t i/\kvs.length<1000000 then AA (st.set n (.dct t (put i v kvs)))else AD
  |_=>AD
 |_=>AD
mutual
noncomputable def ex(call:Nat->List PV->SO->R PV)(ρ:Env)(st:SO):Cs->Fl
 |.expr e=>(ev call ρ st e).fl ρ λ_ st1=>.nx ρ st1
 |.asg t e=>(ev call ρ st e).fl ρ λv st1=>match yD t v ρ with
  |some ρ1=>.nx ρ1 st1
  |none=>.bad
 |.six o i e=>(ev call ρ st e).fl ρ λv st1=>(ev call ρ st1 o).fl ρ λx st2=>(ev call ρ st2 i).fl ρ λy st3=>match ybf st3 x y v with
  |some st4=>.nx ρ st4
  |none=>.bad
 |.dput o i e=>(ev call ρ st e).fl ρ λv st1=>(ev call ρ st1 o).fl ρ λx st2=>(ev call ρ st2 i).fl ρ λy st3=>match yaY st3 x y v with
  |some st4=>.nx ρ st4
  |none=>.bad
 |.aug i o e=>match ρ[i]? with
  |some (AA x)=>(ev call ρ st e).fl ρ λy st1=>match ybA o x y with
   |some z=>.nx (ρ.set i (AA z)) st1
   |none=>.bad
  |_=>.bad
 |.ret e=>(ev call ρ st e).fl ρ λv st1=>.rt v st1
 |.ite c a b=>(ev call ρ st c).fl ρ λx st1=>onF (yaD st1 x) λk=>cond k (exs call ρ st1 a) (exs call ρ st1 b)
 |.for t it b=>(evi call ρ st it).fl ρ λxs st1=>forL t (λρ2 st2=>exs call ρ2 st2 b) xs ρ st1
 |.while c b=>yad (λρ2 st2=>ev call ρ2 st2 c) (λρ2 st2=>exs call ρ2 st2 b) 100000 ρ st
 |.nope=>.bad
 |.raise c e=>(ev call ρ st e).fl ρ λ_ st1=>.exc c ρ st1
 |.try b cs i h=>match exs call ρ st b with
  | .exc d ρ1 st1=>if cs.contains d then(match exs call (ρ1.set i (AA (.exn d))) st1 h with
   |.nx ρ2 st2=>.nx (ρ2.set i AD) st2
   |.rt v st2=>.rt v st2
   |_=>.bad)else .bad
  |f=>f
 |.mkr i D n es=>(ev call ρ st n).fl ρ λx st1=>match mkV D (decide (i<ρ.length)) x with
  |some j=>((evs call (ρ.set i AD) st1 es).bind λvs st2=>call j vs st2).fl (ρ.set i AD) λv st3=>.rt v st3
  |none=>.bad
 |.sfl c o f e=>(ev call ρ st e).fl ρ λv st1=>(ev call ρ st1 o).fl ρ λx st2=>match yaT c st2 x f v with
  |some st3=>.nx ρ st3
  |none=>.bad
noncomputable def exs(call:Nat->List PV->SO->R PV)(ρ:Env)(st:SO):Css->Fl
 |.nil=>.nx ρ st
 |.cons s ss=>match ex call ρ st s with
  |.nx ρ1 st1=>exs call ρ1 st1 ss
  |f=>f
end
structure Fn where
 np:Nat
 ns:Nat
 pure:Bool
 body:Css
def yc(T:Nat->Option Fn):Nat->Nat->List PV->SO->R PV
 |0,_,_,_=>.bad
 |k+1,f,args,st=>match T f with
  |none=>.bad
  |some fn=>if args.length=fn.np then
    if fn.pure then
     if nLs args then match exs (yc T k) (args.map AA++AM (fn.ns-fn.np) AD) [] fn.body with
      |.rt v _=>if nL v then .ok v st else .bad
      |.nx _ _=>.ok .non st
      |.exc c _ _=>.exc c st
      |_=>.bad
     else .bad
    else match exs (yc T k) (args.map AA++AM (fn.ns-fn.np) AD) st fn.body with
     |.rt v st1=>.ok v st1
     |.nx _ st1=>.ok .non st1
     |.exc c _ st1=>.exc c st1
     |_=>.bad
   else .bad
def yg:List (Sum Ce Int)->Ces
 |[]=>.nil
 |.inl c::r=>.cons c (yg r)
 |.inr i::r=>.cons (.cst (.int i)) (yg r)
def yI:Ces->Ces->Ces
 |.nil,b=>b
 |.cons e r,b=>.cons e (yI r b)
end IC
namespace L2
open PySem PySem.Spec PyProof.Rows IC
abbrev Ph:=List (Option AJ)
section
variable (K:AF)(cl:Nat->AJ)(B:AJ->Prop)(φ:Ph)(H:Hp)
def yby(k:Bool)(a:AJ)(xs:List V):Prop:=(H a=AA (.tup xs)/\¬B a/\AA a∉φ) \/
 k=AC/\∃(o:B7) (its:Array AG) (n:Nat),K.lookup a=AA o/\o.cls=.type "tuple"/\o.data=.seq its n/\its.size<=sizeLine/\Vals xs its.toList
def ycz(a:AJ)(xs:List V):Prop:=H a=AA (.lst xs)/\¬B a/\AA a∉φ
def ydP(a:AJ)(xs:List V):Prop:=(Rd H a (.lst xs)/\¬B a/\AA a∉φ) \/
 ∃(o:B7) (its:Array AG) (n:Nat),K.lookup a=AA o/\o.cls=.type "list"/\o.dict=AD/\o.data=.seq its n/\its.size<=sizeLine/\Vals xs its.toList
mutual
noncomputable def yd:PV->V->Prop
 |.non,x=>x=.non
 |.bl b,x=>x=.bl b
 |.int i,x=>x=.int i
 |.str s,x=>x=.str s
 |.tp k vs,x=>∃a xs,x=.ref a/\yby K B φ H k a xs/\ye vs xs
 |.lst vs,x=>∃a xs,x=.ref a/\ycz B φ H a xs/\ye vs xs
 |.loc n,x=>n<φ.length/\∃a,x=.ref a/\∀b,φ[n]?=AA (AA b)->b=a
 |.exn c,x=>∃a,x=.ref a/\H a=AA (.ext (ybK a (cl c)))/\¬B a/\AA a∉φ
 |.scr vs,x=>∃a xs,x=.ref a/\ydP K B φ H a xs/\ye vs xs
 |.fnc j,x=>x=.ref (cl (1000+j))
noncomputable def ye:List PV->List V->Prop
 |[],xs=>xs=[]
 |v::vs,xs=>∃y ys,xs=y::ys/\yd v y/\ye vs ys
end
def yay:Key->PV
 |.inl i=>.int i
 |.inr y=>.str y
def DK:List (PV×PV)->List (Key×V)->Prop
 |[],ks=>ks=[]
 |(k,v)::r,ks=>∃q x s,ks=(q,x)::s/\k=yay q/\yd K cl B φ H v x/\DK r s
def DT:List (PV×PV)->List (List Key×V)->Prop
 |[],ks=>ks=[]
 |(k,v)::r,ks=>∃q x s,ks=(q,x)::s/\k=.tup (q.map yay)/\yd K cl B φ H v x/\DT r s
def FS:List (AL×PV)->List (AL×V)->Prop
 |[],ks=>ks=[]
 |(k,v)::r,ks=>∃x s,ks=(k,x)::s/\yd K cl B φ H v x/\FS r s
def yb4:Ob->AJ->Prop
 |.lst vs,a=>∃xs,H a=AA (.lst xs)/\ye K cl B φ H vs xs
 |.dct AB kvs,a=>∃ks,H a=AA (.dK ks)/\DK K cl B φ H kvs ks
 |.dct AC kvs,a=>∃ks,H a=AA (.dT ks)/\DT K cl B φ H kvs ks
 |.dead,_=>False
 |.ins c fs,a=>∃ks,(∃dx,H a=AA (.ins (cl c) dx ks))/\FS K cl B φ H fs ks
structure yu(st:SO):Prop where
 len:φ.length=st.length
 inj:∀(m n:Nat) (a:AJ),φ[m]?=AA (AA a)->φ[n]?=AA (AA a)->m=n
 obj:∀(n:Nat) (a:AJ),φ[n]?=AA (AA a)->∃o,st[n]?=AA o/\yb4 K cl B φ H o a
 liv:∀(n:Nat) (o:Ob),st[n]?=AA o->o ≠ .dead->∃a,φ[n]?=AA (AA a)
 nb:∀a,AA a∈φ->¬B a
 dom:∀a,B a->∃o,H a=AA o
structure yH(ρ:IC.Env)(σ:St):Prop where
 len:ρ.length=σ.length
 get:∀(i:Nat) (v:PV),ρ[i]?=AA (AA v)->∃x,σ[i]?=AA (AA x)/\yd K cl B φ H v x
end
structure Step(φ:Ph)(H:Hp)(φ':Ph)(H':Hp):Prop where
 keep:∀b o,AA b∉φ->H b=AA o->H' b=AA o
 len:φ.length<=φ'.length
 pre:∀(n:Nat) (a:AJ),n<φ.length->φ'[n]?=AA (AA a)->φ[n]?=AA (AA a)
 new:∀b,AA b∈φ'->AA b∈φ \/ H b=AD
theorem Step.rfl{φ:Ph}{H:Hp}:Step φ H φ H:=⟨λ_ _ _ e=>e,AR _,λ_ _ _ e=>e,λ_ h=>.inl h⟩
theorem Step.trans{φ φ1 φ2:Ph}{H H1 H2:Hp}(s:Step φ H φ1 H1)(t:Step φ1 H1 φ2 H2):Step φ H φ2 H2:=by
 refine⟨λb o n e=>?_,As s.len t.len,λn a hn e=>s.pre n a hn (t.pre n a (A0 hn s.len) e),λb hb=>?_⟩
 .refine t.keep b o (λh=>?_) (s.keep b o n e);rcases s.new b h with q|q
  .exact n q
  .rw[e]at q;cases q
 .rcases t.new b hb with q|q
  .exact s.new b q
  .by_cases h:AA b∈φ
   .exact .inl h
   .refine .inr ?_
    cases e:H b with
    |none=>exact C4 _
    |some o=>rw[s.keep b o h e]at q;cases q
section
variable {K:AF}{cl:Nat->AJ}{B:AJ->Prop}{φ φ':Ph}{H H':Hp}{st:SO}{ρ:IC.Env}{σ:St}
theorem Rd.step(s:Step φ H φ' H'){a:AJ}{u:HO}(n:AA a∉φ)(r:Rd H a u):Rd H' a u/\AA a∉φ':=by
 have h:∃o,H a=AA o:=by
  rcases r with r|⟨o,r⟩<;>exact⟨_,r⟩
 refine⟨?_,λz=>?_⟩
 .rcases r with r|⟨o,r⟩
  .exact .inl (s.keep _ _ n r)
  .exact .inr ⟨o,s.keep _ _ n r⟩
 .let⟨o,e⟩:=h;rcases s.new a z with q|q
  .exact n q
  .rw[e]at q;cases q
theorem yby.step(s:Step φ H φ' H'){k:Bool}{a:AJ}{xs:List V}(r:yby K B φ H k a xs):yby K B φ' H' k a xs:=by
 rcases r with⟨r,b,n⟩|r
 .let⟨_,n'⟩:=(Rd.of r).step s n;exact .inl ⟨s.keep _ _ n r,b,n'⟩
 .exact .inr r
theorem ycz.step(s:Step φ H φ' H'){a:AJ}{xs:List V}(r:ycz B φ H a xs):ycz B φ' H' a xs:=by
 let⟨r,b,n⟩:=r;let⟨_,n'⟩:=(Rd.of r).step s n;exact⟨s.keep _ _ n r,b,n'⟩
theorem ydP.step(s:Step φ H φ' H'){a:AJ}{xs:List V}(r:ydP K B φ H a xs):ydP K B φ' H' a xs:=by
 rcases r with⟨r,b,n⟩|r
 .let⟨r',n'⟩:=r.step s n;exact .inl ⟨r',b,n'⟩
 .exact .inr r
mutual
theorem yd.step(s:Step φ H φ' H'):∀(v:PV) (x:V),yd K cl B φ H v x->yd K cl B φ' H' v x
 |.non,x,h=>by erw[yd]at h ⊢;exact h
 |.bl b,x,h=>by erw[yd]at h ⊢;exact h
 |.int i,x,h=>by erw[yd]at h ⊢;exact h
 |.str y,x,h=>by erw[yd]at h ⊢;exact h
 |.tp k vs,x,h=>by
  erw[yd]at h ⊢;let⟨a,xs,e,r,l⟩:=h;exact⟨a,xs,e,r.step s,ye.step s vs xs l⟩
 |.lst vs,x,h=>by
  erw[yd]at h ⊢;let⟨a,xs,e,r,l⟩:=h;exact⟨a,xs,e,r.step s,ye.step s vs xs l⟩
 |.loc n,x,h=>by
  erw[yd]at h ⊢;let⟨h1,a,e,h2⟩:=h;exact⟨A0 h1 s.len,a,e,λb q=>h2 b (s.pre n b h1 q)⟩
 |.fnc j,x,h=>by erw[yd]at h ⊢;exact h
 |.exn c,x,h=>by
  erw[yd]at h ⊢;let⟨a,e,r,b,n⟩:=h;let⟨_,n'⟩:=(Rd.of r).step s n;exact⟨a,e,s.keep _ _ n r,b,n'⟩
 |.scr vs,x,h=>by
  erw[yd]at h ⊢;let⟨a,xs,e,r,l⟩:=h;exact⟨a,xs,e,r.step s,ye.step s vs xs l⟩
theorem ye.step(s:Step φ H φ' H'):∀(v:List PV) (x:List V),ye K cl B φ H v x->ye K cl B φ' H' v x
 |[],x,h=>by erw[ye]at h ⊢;exact h
 |v::vs,x,h=>by
  erw[ye]at h ⊢;let⟨y,ys,e,r,l⟩:=h;exact⟨y,ys,e,yd.step s v y r,ye.step s vs ys l⟩
end
theorem yH.step(s:Step φ H φ' H')(r:yH K cl B φ H ρ σ):yH K cl B φ' H' ρ σ:=⟨r.len,λi v e=>by
 let⟨x,h,q⟩:=r.get i v e;exact⟨x,h,q.step s⟩⟩
mutual
theorem yd.inn(hn:∀a,AA a∈φ->¬B a):∀(v:PV) (x:V),nL v=AC->yd K cl B φ H v x->yd K cl (λa=>B a \/ AA a∈φ) [] H v x
 |.non,x,_,h=>by erw[yd]at h ⊢;exact h
 |.bl b,x,_,h=>by erw[yd]at h ⊢;exact h
 |.int i,x,_,h=>by erw[yd]at h ⊢;exact h
 |.str y,x,_,h=>by erw[yd]at h ⊢;exact h
 |.tp k vs,x,q,h=>by
  erw[yd]at h ⊢;let⟨a,xs,e,r,l⟩:=h;refine⟨a,xs,e,?_,ye.inn hn vs xs (by simpa only[nL] using q) l⟩;rcases r with⟨r,b,n⟩|r
  .exact .inl ⟨r,λz=>z.elim b n,by simp⟩
  .exact .inr r
 |.lst vs,x,q,h=>by
  erw[yd]at h ⊢;let⟨a,xs,e,⟨r,b,n⟩,l⟩:=h;exact⟨a,xs,e,⟨r,λz=>z.elim b n,by simp⟩,ye.inn hn vs xs (by simpa only[nL] using q) l⟩
 |.loc n,x,q,h=>by simp[nL]at q
 |.fnc j,x,q,h=>by erw[yd]at h ⊢;exact h
 |.exn c,x,q,h=>by simp[nL]at q
 |.scr vs,x,q,h=>by
  erw[yd]at h ⊢;let⟨a,xs,e,r,l⟩:=h;refine⟨a,xs,e,?_,ye.inn hn vs xs (by simpa only[nL] using q) l⟩;rcases r with⟨r,b,n⟩|r
  .exact .inl ⟨r,λz=>z.elim b n,by simp⟩
  .exact .inr r
theorem ye.inn(hn:∀a,AA a∈φ->¬B a):∀(v:List PV) (x:List V),nLs v=AC->ye K cl B φ H v x->ye K cl (λa=>B a \/ AA a∈φ) [] H v x
 |[],x,_,h=>by erw[ye]at h ⊢;exact h
 |v::vs,x,q,h=>by
  erw[ye]at h ⊢;erw[nLs,AH]at q;let⟨y,ys,e,r,l⟩:=h;exact⟨y,ys,e,yd.inn hn v y q.1 r,ye.inn hn vs ys q.2 l⟩
end
mutual
theorem yd.out{ψ:Ph}:∀(v:PV) (x:V),nL v=AC->yd K cl (λa=>B a \/ AA a∈φ) ψ H v x->yd K cl B φ H v x
 |.non,x,_,h=>by erw[yd]at h ⊢;exact h
 |.bl b,x,_,h=>by erw[yd]at h ⊢;exact h
 |.int i,x,_,h=>by erw[yd]at h ⊢;exact h
 |.str y,x,_,h=>by erw[yd]at h ⊢;exact h
 |.tp k vs,x,q,h=>by
  erw[yd]at h ⊢;let⟨a,xs,e,r,l⟩:=h;refine⟨a,xs,e,?_,ye.out vs xs (by simpa only[nL] using q) l⟩;rcases r with⟨r,b,n⟩|r
  .exact .inl ⟨r,λz=>b (.inl z),λz=>b (.inr z)⟩
  .exact .inr r
 |.lst vs,x,q,h=>by
  erw[yd]at h ⊢;let⟨a,xs,e,⟨r,b,n⟩,l⟩:=h;exact⟨a,xs,e,⟨r,λz=>b (.inl z),λz=>b (.inr z)⟩,ye.out vs xs (by simpa only[nL] using q) l⟩
 |.loc n,x,q,h=>by simp[nL]at q
 |.fnc j,x,q,h=>by erw[yd]at h ⊢;exact h
 |.exn c,x,q,h=>by simp[nL]at q
 |.scr vs,x,q,h=>by
  erw[yd]at h ⊢;let⟨a,xs,e,r,l⟩:=h;refine⟨a,xs,e,?_,ye.out vs xs (by simpa only[nL] using q) l⟩;rcases r with⟨r,b,n⟩|r
  .exact .inl ⟨r,λz=>b (.inl z),λz=>b (.inr z)⟩
  .exact .inr r
theorem ye.out{ψ:Ph}:∀(v:List PV) (x:List V),nLs v=AC->ye K cl (λa=>B a \/ AA a∈φ) ψ H v x->ye K cl B φ H v x
 |[],x,_,h=>by erw[ye]at h ⊢;exact h
 |v::vs,x,q,h=>by
  erw[ye]at h ⊢;erw[nLs,AH]at q;let⟨y,ys,e,r,l⟩:=h;exact⟨y,ys,e,yd.out v y q.1 r,ye.out vs ys q.2 l⟩
end
theorem ye.length:∀{v:List PV} {x:List V},ye K cl B φ H v x->v.length=x.length
 |[],x,h=>by erw[ye]at h;subst h;rfl
 |v::vs,x,h=>by
  erw[ye]at h;let⟨y,ys,rfl,_,l⟩:=h;simp[ye.length l]
theorem DK.step(s:Step φ H φ' H'):∀{kvs:List (PV×PV)} {ks:List (Key×V)},DK K cl B φ H kvs ks->DK K cl B φ' H' kvs ks
 |[],ks,h=>h
 |(k,v)::r,ks,h=>by
  let⟨q,x,t,e,m,rv,l⟩:=h;exact⟨q,x,t,e,m,rv.step s,DK.step s l⟩
theorem DT.step(s:Step φ H φ' H'):∀{kvs:List (PV×PV)} {ks:List (List Key×V)},DT K cl B φ H kvs ks->DT K cl B φ' H' kvs ks
 |[],ks,h=>h
 |(k,v)::r,ks,h=>by
  let⟨q,x,t,e,m,rv,l⟩:=h;exact⟨q,x,t,e,m,rv.step s,DT.step s l⟩
theorem FS.step(s:Step φ H φ' H'):∀{kvs:List (AL×PV)} {ks:List (AL×V)},FS K cl B φ H kvs ks->FS K cl B φ' H' kvs ks
 |[],ks,h=>h
 |(k,v)::r,ks,h=>by
  let⟨x,t,e,rv,l⟩:=h;exact⟨x,t,e,rv.step s,FS.step s l⟩
theorem yb4.step(s:Step φ H φ' H'){o:Ob}{a:AJ}(e:H' a=H a)(r:yb4 K cl B φ H o a):yb4 K cl B φ' H' o a:=by
 cases o with
 |lst vs=>
  let⟨xs,q,l⟩:=r;exact⟨xs,e.trans q,l.step s⟩
 |dct t kvs=>
  cases t with
  |false=>let⟨ks,q,l⟩:=r;exact⟨ks,e.trans q,l.step s⟩
  |true=>let⟨ks,q,l⟩:=r;exact⟨ks,e.trans q,l.step s⟩
 |dead=>exact r
 |ins c fs=>let⟨ks,⟨dx,q⟩,l⟩:=r;exact⟨ks,⟨dx,e.trans q⟩,l.step s⟩
theorem yb4.there{o:Ob}{a:AJ}(r:yb4 K cl B φ H o a):∃u,H a=AA u:=by
 cases o with
 |lst vs=>let⟨xs,q,l⟩:=r;exact⟨_,q⟩
 |dct t kvs=>cases t<;>(let⟨ks,q,l⟩:=r;exact⟨_,q⟩)
 |dead=>exact r.elim
 |ins c fs=>let⟨ks,⟨dx,q⟩,l⟩:=r;exact⟨_,q⟩
theorem yu.there(S:yu K cl B φ H st){a:AJ}(h:AA a∈φ):∃u,H a=AA u:=by
 let⟨n,e⟩:=DX.mp h;let⟨o,_,r⟩:=S.obj n a e;exact r.there
theorem Step.upd{p:AJ}{o:HO}(hp:H p=AD):Step φ H φ (upd H p o):=
 ⟨λb u n e=>by rw[zd (zk e hp)];exact e,AR _,λ_ _ _ e=>e,λ_ h=>.inl h⟩
theorem yu.same(S:yu K cl B φ H st)(k:∀b o,H b=AA o->H' b=AA o):yu K cl B φ H' st:=by
 have s:Step φ H φ H':=⟨λb o _ e=>k b o e,AR _,λ_ _ _ e=>e,λ_ h=>.inl h⟩;refine⟨S.len,S.inj,λn a e=>?_,S.liv,S.nb,λa h=>?_⟩
 .let⟨o,q,r⟩:=S.obj n a e;let⟨u,z⟩:=r.there;exact⟨o,q,r.step s ((k a u z).trans z.symm)⟩
 .let⟨o,q⟩:=S.dom a h;exact⟨o,k a o q⟩
theorem yu.upd{p:AJ}{o:HO}(S:yu K cl B φ H st)(hp:H p=AD):yu K cl B φ (upd H p o) st:=S.same λb u e=>by rw[zd (zk e hp)];exact e
mutual
theorem yd.moreB{B':AJ->Prop}(hn:∀y,B' y->B y \/ H y=AD):∀(v:PV) (x:V),yd K cl B φ H v x->yd K cl B' φ H v x
 |.non,x,h=>by erw[yd]at h ⊢;exact h
 |.bl b,x,h=>by erw[yd]at h ⊢;exact h
 |.int i,x,h=>by erw[yd]at h ⊢;exact h
 |.str y,x,h=>by erw[yd]at h ⊢;exact h
 |.tp k vs,x,h=>by
  erw[yd]at h ⊢;let⟨y,xs,e,r,l⟩:=h;refine⟨y,xs,e,?_,ye.moreB hn vs xs l⟩;rcases r with⟨r,b,n⟩|r
  .exact .inl ⟨r,λz=>(hn y z).elim b λq=>(by rw[q]at r;cases r),n⟩
  .exact .inr r
 |.lst vs,x,h=>by
  erw[yd]at h ⊢;let⟨y,xs,e,⟨r,b,n⟩,l⟩:=h;exact⟨y,xs,e,⟨r,λz=>(hn y z).elim b λq=>(by rw[q]at r;cases r),n⟩,ye.moreB hn vs xs l⟩
 |.loc n,x,h=>by erw[yd]at h ⊢;exact h
 |.fnc j,x,h=>by erw[yd]at h ⊢;exact h
 |.exn c,x,h=>by
  erw[yd]at h ⊢;let⟨y,e,r,b,n⟩:=h;exact⟨y,e,r,λz=>(hn y z).elim b λq=>(by rw[q]at r;cases r),n⟩
 |.scr vs,x,h=>by
  erw[yd]at h ⊢;let⟨y,xs,e,r,l⟩:=h;refine⟨y,xs,e,?_,ye.moreB hn vs xs l⟩;rcases r with⟨r,b,n⟩|r
  .refine .inl ⟨r,λz=>(hn y z).elim b λq=>?_,n⟩;rcases r with r|⟨o,r⟩<;>(rw[q]at r;cases r)
  .exact .inr r
theorem ye.moreB{B':AJ->Prop}(hn:∀y,B' y->B y \/ H y=AD):∀(v:List PV) (x:List V),ye K cl B φ H v x->ye K cl B' φ H v x
 |[],x,h=>by erw[ye]at h ⊢;exact h
 |v::vs,x,h=>by
  erw[ye]at h ⊢;let⟨y,ys,e,r,l⟩:=h;exact⟨y,ys,e,yd.moreB hn v y r,ye.moreB hn vs ys l⟩
end
end
end L2
namespace L2
open PySem PySem.Spec PyProof.Rows
def CXH(X:Cx)(H:Hp)(s:AK)(E:XK)(e:AG)(s':AK):Prop:=
 ∃(C a:AJ) (cls a0 fl:AG) (H':Hp) (B:Aq),X.s₀.heap.objs.size<=C/\e=.ref a/\s'.os=s.os/\DD s'.gens /\
  (B.StaysIn s'.heap/\B.get? a=AD/\s'.heap.FunFrames B X.stack/\s'.heap.TracedAtW B a cls a0 fl)/\HOk X.prog X.w H' s'.heap/\Un (frs X.stack) [C] H H' s.heap s'.heap /\
  (∀b o,s.heap.get? b=AA o->H b=AD->b∉frs X.stack->b≠C->B.get? b=AA o)/\(∀b u,H' b=AA u->∃o,B.get? b=AA o)/\(∀b o,s.heap.get? b=AA o->b∉frs X.stack->b≠C->∃o',B.get? b=AA o')/\E cls AD H'
theorem CXH.mono{X:Cx}{H:Hp}{s:AK}{E E':XK}{e:AG}{s':AK}(h:CXH X H s E e s')(n:∀cls H',E cls AD H'->E' cls AD H'):CXH X H s E' e s':=by
 let⟨C,a,cls,a0,fl,H',B,r1,r2,r3,r4,r5,r6,r7,r8,r9,r10,r11⟩:=h;exact⟨C,a,cls,a0,fl,H',B,r1,r2,r3,r4,r5,r6,r7,r8,r9,r10,n _ _ r11⟩
section
variable {M:Hs}{A:Ag}{E:AG->AK->Prop}{s:AK}
def zfJ{base:Aq}{env:Env}{outer:List Env}{L e:AJ}{cls a0 fl:AG}{Q:Unit->AK->Prop}
  (hfr:A.frames=AA (env::outer)) (hf:env.frame=AA L) (f1:base.StaysIn s.heap) (f2:base.get? e=AD) (f3:s.heap.FunFrames base (env::outer)) (f4:s.heap.TracedAtW base e cls a0 fl)
  (hQ:∀h',FL base outer e cls a0 h'->s.heap.UpToSlots h'->Q () {s with heap:=h'}):A2 M A («leaving» env (.ref e)) Q E s:=by
 by_cases hfl:fl=rawInt L
 .subst hfl;unfold «leaving»;refine AI (wpAny_noteFrame_againW hf f4 ?_);refine wpAny_landsW ⟨f1,f2,f3,f4⟩ λh' hfl up=>?_;let⟨k1,k2,⟨_,_,k3⟩,k4⟩:=hfl;exact hQ h' ⟨k1,k2,k3,k4⟩ up
 .let⟨oe,vs,T,oT,ts,he,⟨hcls,h0⟩,hd,h1,hnT,hTe,hT,hdT,h3⟩:=f4;subst hcls;unfold «leaving» noteFrame;erw[hf];refine AI (AI (BM he hd h1 ?_));rw[if_pos (show (A7 T != Bo)=AC from by simp)];refine AI (BM hT hdT h3 ?_);rw[if_neg (show ¬((fl==rawInt L)=AC)from λz=>hfl (eq_of_beq z))];refine AI (F5 hT hdT (EK.mp h3).1 ?_);have other:∀b,b≠T->(s.heap.update T (Obj.mapFields (·.setIfInBounds 3 Bo))).get? b=s.heap.get? b:=λb hb=>DJ _ _ (Au hb);have noRecord:∀b o,s.heap.get? b=AA o->(∀vs,o.data ≠ .fields vs)->b≠T:=λb o hb hnf q=>by
   rw[q,hT]at hb;injection hb with hb;subst hb;exact hnf ts hdT
  refine wpAny_newEntryW hfr (f3.of_keeps λb o hb hnf=>⟨o,(other b (noRecord b o hb hnf)).trans hb,rfl⟩) hf ((other e (Au hTe)).trans he)
   (λb o hbo=>(other b λq=>by rw[q,hnT]at hbo;cases hbo).trans (f1 b o hbo)) f2 hd (EK.mp h1).1 h0
   λh' ⟨x1,⟨_,_,x2⟩,x3,x4⟩=>hQ h' ⟨x1,f2,x2,x3⟩ λb o hb hnf=>x4 b o ((other b (noRecord b o hb hnf)).trans hb) hnf
end
section
variable {P:A4}{w:Af}{K:AF}{mg:AL->Option AG}{base:Aq}{N:List AL}{qual:AL}{scope:BZ}{f:AJ}{cd:AG}{A:Ag}{outer:List Env}{s₀:AK}{H₀:Hp}{E:XK}
def zqF{π:List (AJ×B7)}{σ:St}{H:Hp}{s:AK}{e:AG}{s':AK}(I:Inv (yaE (CX1 P w) P w K mg base N qual scope f cd A outer s₀ H₀ E) π σ H s)(h:CXH (yaE (CX1 P w) P w K mg base N qual scope f cd A outer s₀ H₀ E) H s E e s'):
  (yaE (CX1 P w) P w K mg base N qual scope f cd A outer s₀ H₀ E).xe e s':=by
 let⟨C,a,cls,a0,fl,H',B,hC,rfl,os,bare,⟨f1,f2,f3,f4⟩,hok,un,hB,tr,hT,hE⟩:=h;have bse:Un (frs outer) [] H₀ H s₀.heap s.heap:=I.base;have lt:∀b o,s₀.heap.get? b=AA o->b≠s₀.heap.objs.size:=λb o q=>Ah (AZ q);have neC:∀b o,s₀.heap.get? b=AA o->b≠C:=λb o q=>Ah (A0 (AZ q) hC);have niC:∀b o,s₀.heap.get? b=AA o->b∉[C]:=λb o q z=>neC b o q (by simpa using z);have hst:∀b,b∈frs (envOfC qual scope s₀.heap.objs.size f cd::outer)->b=s₀.heap.objs.size \/ b∈frs outer:=λb hb=>by
  have hb':b∈s₀.heap.objs.size::frs outer:=hb;exact AX.mp hb'
 have un':Un (frs (envOfC qual scope s₀.heap.objs.size f cd::outer)) [C] H H' s.heap s'.heap:=un;have kB:∀b o,s₀.heap.get? b=AA o->H₀ b=AD->b∉frs outer->B.get? b=AA o:=λb o q n hb=>hB b o (bse.keep b o q n hb (by simp)) (bse.free b o q n (by simp)) (λz=>by
  rcases hst b z with z|z
  .exact lt b o q z
  .exact hb z) (neC b o q)
 have kT:∀b o,s₀.heap.get? b=AA o->b∉frs outer->∃o',B.get? b=AA o':=λb o q hb=>by
  let⟨o',q1⟩:=bse.there b o q (by simp);refine hT b o' q1 (λz=>?_) (neC b o q);rcases hst b z with z|z
  .exact lt b o q z
  .exact hb z
 refine zfJ I.ok.frames rfl f1 f2 f3 f4 λh'' fl' up=>?_;refine⟨a,cls,a0,H',B,rfl,os.trans I.os,bare,fl',HOk.inB hok f1 fl'.1 tr,⟨λb o q n hb _=>fl'.1 b o (kB b o q n hb),λb o q n hb _=>?_,λb o q n _=>?_,λb o q _=>?_,λb xs q=>un'.tups b xs (bse.tups b xs q),λb o u q=>un'.frzs b o u (bse.frzs b o u q),λb ps q=>?_⟩,kB,tr,kT,hE⟩
 .let⟨sl,q1⟩:=bse.slot b o q n hb (by simp);have n1:=bse.free b o q n (by simp);let⟨sl1,q2⟩:=un'.slot b _ q1 n1 (AQ _ hb) (niC b o q);let⟨_,o',ho',hd⟩:=BQ f3 (show b∈DN (λ(z:Env)=>z.frame) _ from AQ _ hb);let⟨sl',q3⟩:=up b _ q2 (by rw[ho']at q2;cases q2;exact hd);exact⟨sl',q3⟩
 .let⟨o',q1⟩:=bse.there b o q (by simp);exact un'.free b o' q1 (bse.free b o q n (by simp)) (niC b o q)
 .let⟨o',q1⟩:=bse.there b o q (by simp);let⟨o2,q2⟩:=un'.there b o' q1 (niC b o q)
  by_cases hb:b∈frs outer
  .let⟨_,o3,ho3,hd⟩:=BQ f3 (show b∈DN (λ(z:Env)=>z.frame) _ from AQ _ hb);let⟨sl',q3⟩:=up b _ ho3 hd;exact⟨_,q3⟩
  .let⟨o4,q4⟩:=kT b o q hb;exact⟨o4,fl'.1 b o4 q4⟩
 .let⟨m1,e1⟩:=bse.tbls b ps q;let⟨m2,e2⟩:=un'.tbls b _ e1;exact⟨m1++m2,by rw[e2,Dz]⟩
end
section
variable {pg:A4}{wd:Af}{A:Ag}{R:GJ->AK->Prop}{s:AK}
end
section
variable {X:Cx}{sc:BZ}{NC:List AL}{slots:List (Option Nat)}{elt tg iter:AT}{ifs:List AT}{pos:CB}{g:TG}{ti:TT}{te:CI->TE}{E:XK}
end
end L2
namespace L2
open PySem PySem.Spec PyProof.Rows IC
structure Se where
 cl:Nat->AJ
 call:Nat->List PV->SO->R PV
 may:Bool
section
variable (S:Se)(X:Cx)
def ExcAt(σ:St)(B:AJ->Prop)(φ:Ph)(H:Hp)(k:Nat)(st':SO)(e:AG)(s':AK):Prop:=
 (∃π H1 s φ1,Inv X π σ H1 s/\Step φ H φ1 H1/\CX1 X.prog X.w X.stack H1 s (λcls _ H'=>cls=.ref (S.cl k)/\∃φ',Step φ1 H1 φ' H'/\yu X.K S.cl B φ' H' st') e s') \/
 (S.may=AC/\∃π H1 s φ1 h' e0 vs,Inv X π σ H1 s/\Step φ H φ1 H1/\yu X.K S.cl B φ1 H1 st'/\HY s.heap h' e0 (.ref (S.cl k)) vs/\e=.ref e0/\s'={s with heap:=h'}) \/
 (S.may=AC/\∃π H1 s,Inv X π σ H1 s/\CXH X H1 s (λcls _ H'=>cls=.ref (S.cl k)/\∃φ',Step φ H φ' H'/\yu X.K S.cl B φ' H' st') e s')
def Run{α β:Type}(σ:St)(B:AJ->Prop)(φ:Ph)(H:Hp)(Rel:Ph->Hp->α->β->Prop)(r:R α)(Q:β->Hp->Prop):Prop:=
 match r with
 |.ok v st'=>∀x H' φ',Step φ H φ' H'->yu X.K S.cl B φ' H' st'->Rel φ' H' v x->Q x H'
 |.exc k st'=>∀e s',ExcAt S X σ B φ H k st' e s'->X.xe e s'
 |.bad=>False
abbrev RV(B:AJ->Prop):Ph->Hp->PV->V->Prop:=λφ H=>yd X.K S.cl B φ H
abbrev RL(B:AJ->Prop):Ph->Hp->List PV->List V->Prop:=λφ H=>ye X.K S.cl B φ H
abbrev RB:Ph->Hp->Bool->Bool->Prop:=λ_ _ b c=>b=c
def tE(c:Ce):TE:=λσ H Q=>∃B φ st ρ,yu X.K S.cl B φ H st/\yH X.K S.cl B φ H ρ σ/\Run S X σ B φ H (RV S X B) (ev S.call ρ st c) Q
def tAs(c:Ces):TA:=λσ H Q=>∃B φ st ρ,yu X.K S.cl B φ H st/\yH X.K S.cl B φ H ρ σ/\Run S X σ B φ H (RL S X B) (evs S.call ρ st c) Q
def yaO(r:R PV):R Bool:=r.bind λx st=>onO (yaD st x) λb=>.ok b st
def tTs(c:Ce):TT:=λσ H Q=>∃B φ st ρ,yu X.K S.cl B φ H st/\yH X.K S.cl B φ H ρ σ/\Run S X σ B φ H RB (yaO (ev S.call ρ st c)) Q
end
section
variable {S:Se}{X:Cx}{σ:St}{B:AJ->Prop}{φ φ1:Ph}{H H1:Hp}
theorem ExcAt.back{k:Nat}{st':SO}{e:AG}{s':AK}(s:Step φ H φ1 H1)(h:ExcAt S X σ B φ1 H1 k st' e s'):ExcAt S X σ B φ H k st' e s':=by
 rcases h with⟨π,H2,t,φ2,I,q,c⟩|⟨m,π,H2,t,φ2,h',e0,vs,I,q,c⟩|⟨m,π,H2,t,I,c⟩
 .exact .inl ⟨π,H2,t,φ2,I,s.trans q,c⟩
 .exact .inr (.inl ⟨m,π,H2,t,φ2,h',e0,vs,I,s.trans q,c⟩)
 .exact .inr (.inr ⟨m,π,H2,t,I,c.mono λcls H' ⟨e1,φ',s2,r⟩=>⟨e1,φ',s.trans s2,r⟩⟩)
variable {α β γ δ:Type}{Rel:Ph->Hp->α->β->Prop}{IA:Ph->Hp->γ->δ->Prop}
theorem Run.on{r:R α}{Q:β->Hp->Prop}(s:Step φ H φ1 H1)(h:Run S X σ B φ H Rel r Q):Run S X σ B φ1 H1 Rel r Q:=by
 cases r with
 |ok v st'=>exact λx H' φ' t=>h x H' φ' (s.trans t)
 |exc k st'=>exact λe s' x=>h e s' (x.back s)
 |bad=>exact h
theorem Run.mono{r:R α}{Q Q':β->Hp->Prop}(h:Run S X σ B φ H Rel r Q)(k:∀x H',Q x H'->Q' x H'):Run S X σ B φ H Rel r Q':=by
 cases r with
 |ok v st'=>exact λx H' φ' t rs rv=>k x H' (h x H' φ' t rs rv)
 |exc c st'=>exact h
 |bad=>exact h
theorem Run.bind{r:R α}{k:α->SO->R γ}{Q:δ->Hp->Prop}(h:Run S X σ B φ H IA (r.bind k) Q):
  Run S X σ B φ H Rel r λx H1=>∃v st1 φ1,Step φ H φ1 H1/\yu X.K S.cl B φ1 H1 st1/\Rel φ1 H1 v x/\Run S X σ B φ1 H1 IA (k v st1) Q:=by
 cases r with
 |ok v st'=>exact λx H' φ' t rs rv=>⟨v,st',φ',t,rs,rv,Run.on t h⟩
 |exc c st'=>exact h
 |bad=>exact h
theorem Run.ok{v:α}{st:SO}{Q:β->Hp->Prop}(h:Run S X σ B φ H Rel (.ok v st) Q)(rs:yu X.K S.cl B φ H st){x:β}(rv:Rel φ H v x):Q x H:=h x H φ .rfl rs rv
theorem PE.imp{e:AT}{t t':TE}(h:PE X e t')(k:∀σ H Q,t σ H Q->t' σ H Q):PE X e t:=λπ s σ H Q I q=>h π s σ H Q I (k σ H Q q)
theorem PT.imp{e:AT}{t t':TT}(h:PT X e t')(k:∀σ H Q,t σ H Q->t' σ H Q):PT X e t:=λπ s σ H Q I q=>h π s σ H Q I (k σ H Q q)
theorem PW.imp{e:AT}{t t':TT}(h:PW X e t')(k:∀σ H Q,t σ H Q->t' σ H Q):PW X e t:=λwh π s σ H Q I q=>h wh π s σ H Q I (k σ H Q q)
theorem PA.imp{e:List AT}{t t':TA}(h:PA X e t')(k:∀σ H Q,t σ H Q->t' σ H Q):PA X e t:=λpos π s σ H Q I q=>h pos π s σ H Q I (k σ H Q q)
theorem tE.bind{c:Ce}{ρ:IC.Env}{st:SO}{k:PV->SO->R γ}{Q:δ->Hp->Prop}{P:V->Hp->Prop}(rs:yu X.K S.cl B φ H st)(re:yH X.K S.cl B φ H ρ σ)(h:Run S X σ B φ H IA ((ev S.call ρ st c).bind k) Q)
  (n:∀x H1 v st1 φ1,Step φ H φ1 H1->yu X.K S.cl B φ1 H1 st1->yH X.K S.cl B φ1 H1 ρ σ->yd X.K S.cl B φ1 H1 v x->Run S X σ B φ1 H1 IA (k v st1) Q->P x H1):tE S X c σ H P:=
 ⟨B,φ,st,ρ,rs,re,(Run.bind h).mono λx H1 ⟨v,st1,φ1,s,rs1,rv,h1⟩=>n x H1 v st1 φ1 s rs1 (re.step s) rv h1⟩
theorem tAs.bind{c:Ces}{ρ:IC.Env}{st:SO}{k:List PV->SO->R γ}{Q:δ->Hp->Prop}{P:List V->Hp->Prop}(rs:yu X.K S.cl B φ H st)(re:yH X.K S.cl B φ H ρ σ)(h:Run S X σ B φ H IA ((evs S.call ρ st c).bind k) Q)
  (n:∀x H1 v st1 φ1,Step φ H φ1 H1->yu X.K S.cl B φ1 H1 st1->yH X.K S.cl B φ1 H1 ρ σ->ye X.K S.cl B φ1 H1 v x->Run S X σ B φ1 H1 IA (k v st1) Q->P x H1):tAs S X c σ H P:=
 ⟨B,φ,st,ρ,rs,re,(Run.bind h).mono λx H1 ⟨v,st1,φ1,s,rs1,rv,h1⟩=>n x H1 v st1 φ1 s rs1 (re.step s) rv h1⟩
variable {i:Int}{b:Bool}{x:AL}{j:Nat}{pos:CB}{e a a':AT}{c ca cb cc:Ce}
def zkO:PE X (.Constant (.int i) j pos) (tE S X (.cst (.int i))):=zqr.imp λσ H Q ⟨B,φ,st,ρ,rs,re,h⟩=>by
 erw[ev]at h;exact h.ok rs (by erw[yd])
def zpL:PE X (.Constant (.bool b) j pos) (tE S X (.cst (.bl b))):=zqs.imp λσ H Q ⟨B,φ,st,ρ,rs,re,h⟩=>by
 erw[ev]at h;exact h.ok rs (by erw[yd])
def zoE:PE X (.Constant .none j pos) (tE S X (.cst .non)):=zqt.imp λσ H Q ⟨B,φ,st,ρ,rs,re,h⟩=>by
 erw[ev]at h;exact h.ok rs (by erw[yd])
def zoq:PE X (.Constant (.str x) j pos) (tE S X (.cst (.str x))):=znd.imp λσ H Q ⟨B,φ,st,ρ,rs,re,h⟩=>by
 erw[ev]at h;exact h.ok rs (by erw[yd])
def znX{i:Nat}(hN:X.N[i]?=AA x)(hv:Vis X.env.scope x)(hd:(x==("__debug__":AL))=false:=by decide)(hcd:(x==("__classdict__":AL))=false:=by decide):PE X (.Name x pos) (tE S X (.var i)):=
 (zk4 hN hv hd hcd).imp λσ H Q ⟨B,φ,st,ρ,rs,re,h⟩=>by
  erw[ev]at h
  cases q:ρ[i]? with
  |none=>rw[q]at h;exact h.elim
  |some o=>
   cases o with
   |none=>rw[q]at h;exact h.elim
   |some v=>
    rw[q]at h;let⟨y,hy,rv⟩:=re.get i v q;exact⟨y,hy,h.ok rs rv⟩
def zim{v:PV}{y:AJ}(hg:Gl X x)(hm:X.mg x=AA (.ref y))(hk:∀B φ H,yd X.K S.cl B φ H v (.ref y))(hd:(x==("__debug__":AL))=false:=by decide):PE X (.Name x pos) (tE S X (.cst v)):=
 (zcJ hg hm (show RelV (.ref y) (.ref y)from rfl) hd).imp λσ H Q ⟨B,φ,st,ρ,rs,re,h⟩=>by
  erw[ev]at h;exact h.ok rs (hk B φ H)
def zU{o:Option PV}{st:SO}{Q:VK}(h:Run S X σ B φ H (RV S X B) (toR o st) Q)(rs:yu X.K S.cl B φ H st):∃z,o=AA z/\∀z' H' φ',Step φ H φ' H'->yu X.K S.cl B φ' H' st->yd X.K S.cl B φ' H' z z'->Q z' H':=by
 cases o with
 |none=>exact h.elim
 |some z=>exact⟨z,rfl,h⟩
def rT2(S:Se)(X:Cx)(f:PV->PV->Option PV):R2:=λx y H Q=>∃B φ st v w z,yu X.K S.cl B φ H st/\yd X.K S.cl B φ H v x/\yd X.K S.cl B φ H w y/\f v w=AA z /\
 ∀z' H' φ',Step φ H φ' H'->yu X.K S.cl B φ' H' st->yd X.K S.cl B φ' H' z z'->Q z' H'
def znK{op:Da}{o:BOp}(ho:OpR X (binaryOp op) (rT2 S X (yt o)))(ha:PE X a (tE S X ca))(hb:PE X a' (tE S X cb)):PE X (.BinOp a op a' pos) (tE S X (.bin o ca cb)):=
 (zl4 ho ha hb).imp λσ H Q ⟨B,φ,st,ρ,rs,re,h⟩=>by
  erw[ev]at h;refine tE.bind rs re h λx H1 v st1 φ1 s1 rs1 re1 rv h1=>tE.bind rs1 re1 h1 λy H2 w st2 φ2 s2 rs2 re2 rw h2=>?_;let⟨z,e,q⟩:=zU h2 rs2;exact⟨B,φ2,st2,v,w,z,rs2,rv.step s2,rw,e,q⟩
def zpw{op:Fw}{o:COp}(ho:OpR X (compareOp op) (rT2 S X (yw o)))(ha:PE X a (tE S X ca))(hb:PE X a' (tE S X cb))(hm:behindInMarks op a'=AB):PE X (.Compare a [op] [a'] pos) (tE S X (.cmp o ca cb)):=
 (zeB ho ha hb hm).imp λσ H Q ⟨B,φ,st,ρ,rs,re,h⟩=>by
  erw[ev]at h;refine tE.bind rs re h λx H1 v st1 φ1 s1 rs1 re1 rv h1=>tE.bind rs1 re1 h1 λy H2 w st2 φ2 s2 rs2 re2 rw h2=>?_;let⟨z,e,q⟩:=zU h2 rs2;exact⟨B,φ2,st2,v,w,z,rs2,rv.step s2,rw,e,q⟩
end
section
variable {S:Se}{X:Cx}{σ:St}{B:AJ->Prop}{φ φ1:Ph}{H H1:Hp}{K:AF}{cl:Nat->AJ}{st:SO}
theorem yby.sq{k:Bool}{a:AJ}{xs:List V}(r:yby K B φ H k a xs):SqT K H a xs:=by
 rcases r with⟨r,_⟩|r
 .exact .inl (.inl r)
 .exact .inr r.2
theorem ycz.sq{a:AJ}{xs:List V}(r:ycz B φ H a xs):SqL K H a xs:=.inl (.inl r.1)
theorem yd.tup_new{vs:List PV}{xs:List V}{p:AJ}(hp:H p=AD)(rs:yu K cl B φ H st)(r:ye K cl B φ H vs xs):yd K cl B φ (upd H p (.tup xs)) (.tup vs) (.ref p):=by
 erw[yd];refine⟨p,xs,rfl,.inl ⟨zm,λz=>?_,λz=>?_⟩,r.step (.upd hp)⟩
 .let⟨o,e⟩:=rs.dom p z;rw[hp]at e;cases e
 .let⟨o,e⟩:=rs.there z;rw[hp]at e;cases e
theorem yd.lst_new{vs:List PV}{xs:List V}{p:AJ}(hp:H p=AD)(rs:yu K cl B φ H st)(r:ye K cl B φ H vs xs):yd K cl B φ (upd H p (.lst xs)) (.lst vs) (.ref p):=by
 erw[yd];refine⟨p,xs,rfl,⟨zm,λz=>?_,λz=>?_⟩,r.step (.upd hp)⟩
 .let⟨o,e⟩:=rs.dom p z;rw[hp]at e;cases e
 .let⟨o,e⟩:=rs.there z;rw[hp]at e;cases e
theorem ye.append:∀{vs ws:List PV} {xs ys:List V},ye K cl B φ H vs xs->ye K cl B φ H ws ys->ye K cl B φ H (vs++ws) (xs++ys)
 |[],ws,xs,ys,h,q=>by erw[ye]at h;subst h;exact q
 |v::vs,ws,xs,ys,h,q=>by
  erw[ye]at h;let⟨y,zs,rfl,r,l⟩:=h;show ye K cl B φ H (v::(vs++ws)) (y::(zs++ys));erw[ye];exact⟨y,zs++ys,rfl,r,ye.append l q⟩
theorem ye.get:∀{vs:List PV} {xs:List V} (j:Nat) {v:PV},ye K cl B φ H vs xs->vs[j]?=AA v->∃x,xs[j]?=AA x/\yd K cl B φ H v x
 |[],xs,j,v,h,e=>by simp at e
 |w::vs,xs,0,v,h,e=>by
  erw[ye]at h;let⟨y,zs,rfl,r,l⟩:=h;simp at e;subst e;exact⟨y,rfl,r⟩
 |w::vs,xs,j+1,v,h,e=>by
  erw[ye]at h;let⟨y,zs,rfl,r,l⟩:=h;let⟨x,q1,q2⟩:=ye.get j l (by simpa using e);exact⟨x,by simpa using q1,q2⟩
theorem ye.drop:∀{vs:List PV} {xs:List V} (n:Nat),ye K cl B φ H vs xs->ye K cl B φ H (vs.drop n) (xs.drop n)
 |vs,xs,0,h=>by simpa using h
 |[],xs,n+1,h=>by erw[ye]at h;subst h;simp[ye]
 |v::vs,xs,n+1,h=>by
  erw[ye]at h;let⟨y,ys,rfl,_,l⟩:=h;simpa using ye.drop n l
theorem ye.take:∀{vs:List PV} {xs:List V} (n:Nat),ye K cl B φ H vs xs->ye K cl B φ H (vs.take n) (xs.take n)
 |vs,xs,0,h=>by simp[ye]
 |[],xs,n+1,h=>by erw[ye]at h;subst h;simp[ye]
 |v::vs,xs,n+1,h=>by
  erw[ye]at h;let⟨y,ys,rfl,r,l⟩:=h;erw[List.take_succ_cons,ye];exact⟨y,ys.take n,rfl,r,ye.take n l⟩
def zcx{f:AG->AG->Hh AG}{o:BOp}{C:Int->Int->Prop}{g:Int->Int->Int}(h:OpR X f (rI C λi j=>.int (g i j)))
  (hb:∀v w z,yt o v w=AA z->∃i j,v=.int i/\w=.int j/\C i j/\z=.int (g i j)):OpR X f (rT2 S X (yt o)):=by
 rintro π s σ H x y v u Q I rx ry ⟨B,φ,st,a,b,z,rs,ra,rb,e,q⟩
 let⟨i,j,rfl,rfl,hc,rfl⟩:=hb a b z e;erw[yd]at ra rb;subst ra rb;exact h π s σ H _ _ v u Q I rx ry ⟨i,j,rfl,rfl,hc,q _ H φ .rfl rs (by erw[yd])⟩
def zc5{f:AG->AG->Hh AG}{o:BOp}{g:Int->Int->Int}(h:OpR X f (rI0 λi j=>.int (g i j)))
  (hb:∀v w z,yt o v w=AA z->∃i j,v=.int i/\w=.int j/\z=.int (g i j)):OpR X f (rT2 S X (yt o)):=by
 rintro π s σ H x y v u Q I rx ry ⟨B,φ,st,a,b,z,rs,ra,rb,e,q⟩
 let⟨i,j,rfl,rfl,rfl⟩:=hb a b z e;erw[yd]at ra rb;subst ra rb;exact h π s σ H _ _ v u Q I rx ry ⟨i,j,rfl,rfl,q _ H φ .rfl rs (by erw[yd])⟩
def zmN(v w z:PV)(h:yt .sub v w=AA z):∃i j,v=.int i/\w=.int j/\z=.int (i-j):=by
 unfold yt at h;split at h<;>first|(cases h;done)|skip
 exact⟨_,_,rfl,rfl,(AY h).symm⟩
def zlv(v w z:PV)(h:yt .mul v w=AA z):∃i j,v=.int i/\w=.int j/\ydh i j/\z=.int (i*j):=by
 unfold yt at h;split at h<;>first|(cases h;done)|skip
 rename_i i j;erw[IC.binI]at h;split at h
 .rename_i c;refine⟨i,j,rfl,rfl,?_,(AY h).symm⟩;erw[yar,CG,decide_eq_true_eq]at c;unfold ydh;rcases c with c|c
  .left;constructor<;>lia
  .right;constructor<;>lia
 .cases h
def zkg(v w z:PV)(h:yt .fdiv v w=AA z):∃i j,v=.int i/\w=.int j/\ydy i j/\z=.int (i/j):=by
 unfold yt at h;split at h<;>first|(cases h;done)|skip
 rename_i i j;erw[IC.binI]at h;split at h
 .rename_i c;exact⟨i,j,rfl,rfl,c,(AY h).symm⟩
 .cases h
def zmR(v w z:PV)(h:yt .mod v w=AA z):∃i j,v=.int i/\w=.int j/\0<j/\z=.int (i%j):=by
 unfold yt at h;split at h<;>first|(cases h;done)|skip
 rename_i i j;erw[IC.binI]at h;split at h
 .rename_i c;exact⟨i,j,rfl,rfl,c,(AY h).symm⟩
 .cases h
def zmf(v w z:PV)(h:yt .pow v w=AA z):∃i j,v=.int i/\w=.int j/\ydU i j/\z=.int (i^j.toNat):=by
 unfold yt at h;split at h<;>first|(cases h;done)|skip
 rename_i i j;erw[IC.binI]at h;split at h
 .rename_i c;exact⟨i,j,rfl,rfl,⟨c.1,c.2.1,by have:=c.2.2;lia⟩,(AY h).symm⟩
 .cases h
def zmK(v w z:PV)(h:yt .shl v w=AA z):∃i j,v=.int i/\w=.int j/\ydU i j/\z=.int (i*2^j.toNat):=by
 unfold yt at h;split at h<;>first|(cases h;done)|skip
 rename_i i j;erw[IC.binI]at h;split at h
 .rename_i c;exact⟨i,j,rfl,rfl,⟨c.1,c.2.1,by have:=c.2.2;lia⟩,(AY h).symm⟩
 .cases h
def zlm(v w z:PV)(h:yt .shr v w=AA z):∃i j,v=.int i/\w=.int j/\0<=j/\z=.int (i/2^j.toNat):=by
 unfold yt at h;split at h<;>first|(cases h;done)|skip
 rename_i i j;erw[IC.binI]at h;split at h
 .rename_i c;exact⟨i,j,rfl,rfl,c,(AY h).symm⟩
 .cases h
def zkz(v w z:PV)(h:yt .band v w=AA z):∃i j,v=.int i/\w=.int j/\z=.int (Ar i j):=by
 unfold yt at h;split at h<;>first|(cases h;done)|skip
 exact⟨_,_,rfl,rfl,(AY h).symm⟩
def zlG(v w z:PV)(h:yt .bor v w=AA z):∃i j,v=.int i/\w=.int j/\z=.int (B3 i j):=by
 unfold yt at h;split at h<;>first|(cases h;done)|skip
 exact⟨_,_,rfl,rfl,(AY h).symm⟩
def zka(v w z:PV)(h:yt .bxor v w=AA z):∃i j,v=.int i/\w=.int j/\z=.int (B4 i j):=by
 unfold yt at h;split at h<;>first|(cases h;done)|skip
 exact⟨_,_,rfl,rfl,(AY h).symm⟩
def zoB:OpR X (binaryOp .Sub) (rT2 S X (yt .sub)):=zc5 znV zmN
def znJ:OpR X (binaryOp .Mult) (rT2 S X (yt .mul)):=zcx znq zlv
def zlx:OpR X (binaryOp .FloorDiv) (rT2 S X (yt .fdiv)):=zcx zjk zkg
def zol:OpR X (binaryOp .Mod) (rT2 S X (yt .mod)):=zcx znT zmR
def zoc:OpR X (binaryOp .Pow) (rT2 S X (yt .pow)):=zcx znm zmf
def znp:OpR X (binaryOp .LShift) (rT2 S X (yt .shl)):=zcx zpv zmK
def znk:OpR X (binaryOp .RShift) (rT2 S X (yt .shr)):=zcx zoo zlm
def zlq:OpR X (binaryOp .BitAnd) (rT2 S X (yt .band)):=zc5 zpp zkz
def zpk:OpR X (binaryOp .BitOr) (rT2 S X (yt .bor)):=zc5 zpU zlG
def zl2:OpR X (binaryOp .BitXor) (rT2 S X (yt .bxor)):=zc5 zou zka
def zA:sizeMax=sizeLine:=by rw[BP];rfl
def zl8:OpR X (binaryOp .Add) (λx y H Q=>∃a b ys,x=.ref a/\y=.ref b/\SqT X.K H a []/\SqT X.K H b ys/\Q (.ref b) H):=by
 intro π s σ H x y v u Q I rx ry h;let⟨a,b,ys,rfl,rfl,ha,hb,q⟩:=h
 cases rx
 cases ry
 let⟨its,r1,p1,_⟩:=I.tuple ha;let⟨its2,r2,p2,_⟩:=I.tuple hb;have:its=[]:=r1.nil_iff.mpr rfl;subst this;let⟨⟨cls,dd,data,sl⟩,ho,hc,n,hd⟩:=id p1;let⟨⟨cls2,dd2,data2,sl2⟩,ho2,hc2,n2,hd2⟩:=id p2;simp only at hc hd hc2 hd2;subst hc hd hc2 hd2;exact G0 ⟨_,ho,rfl⟩ ⟨_,ho2,rfl⟩ Et Fx DI DC (Ct _ _)
   (tuple_addW0 a b [].toArray its2.toArray n n2 dd dd2 sl sl2 (by simp)) ⟨ho,ho2,⟨.ref b,H,I,rfl,q⟩⟩
def zoV:OpR X (binaryOp .Add) (rT2 S X (yt .add)):=by
 rintro π s σ H x y v u Q I rx ry ⟨B,φ,st,a,b,z,rs,ra,rb,e,q⟩
 unfold yt at e;split at e
 .rename_i i j;erw[yd]at ra rb;subst ra rb
  cases e
  exact znj π s σ H _ _ v u Q I rx ry ⟨i,j,rfl,rfl,q _ H φ .rfl rs (by erw[yd])⟩
 .rename_i i k;erw[yd]at ra rb;subst ra rb
  cases e
  exact zh7 π s σ H _ _ v u Q I rx ry ⟨i,k,rfl,rfl,q _ H φ .rfl rs (by erw[yd];cases k<;>rfl)⟩
 .rename_i i j;erw[yd]at ra rb;subst ra rb;dsimp only at e;split at e
  .rename_i c
   cases e
   exact zgN π s σ H _ _ v u Q I rx ry ⟨i,j,rfl,rfl,by rw[<-zA];exact c,q _ H φ .rfl rs (by erw[yd])⟩
  .cases e
 .rename_i k1 vs k2 ws;erw[yd]at ra rb;let⟨p,xs,rfl,r1,l1⟩:=ra;let⟨p',ys,rfl,r2,l2⟩:=rb;dsimp only at e;split at e
  .rename_i c
   cases e
   have n1:=l1.length;have n2:=l2.length;unfold ydO at q
   cases vs with
   |nil=>
    have:xs=[]:=by cases xs with|nil=>rfl|cons _ _=>simp at n1
    subst this;refine zl8 π s σ H _ _ v u Q I rx ry ⟨p,p',ys,rfl,rfl,r1.sq,r2.sq,q _ H φ .rfl rs ?_⟩;erw[Go,if_true,yd];exact⟨p',ys,rfl,r2,l2⟩
   |cons v1 vr=>
    erw[Ga,Bd,if_false]at q;refine zlF π s σ H _ _ v u Q I rx ry ⟨p,p',xs,ys,rfl,rfl,r1.sq,r2.sq,?_,by rw[<-zA];lia,λz=>?_,λz t ht=>?_⟩
    .rintro rfl
     simp at n1
    .subst z;have:ws=[]:=by cases ws with|nil=>rfl|cons _ _=>simp at n2
     subst this;erw[Go,if_true]at q;refine q _ H φ .rfl rs ?_;erw[yd];exact⟨p,xs,rfl,r1,l1⟩
    .cases ws with
     |nil=>exact absurd (List.length_eq_zero_iff.mp n2.symm) z
     |cons w1 wr=>
      erw[Ga,Bd,if_false]at q;exact q _ _ φ (.upd ht) (rs.upd ht) (.tup_new ht rs (l1.append l2))
  .cases e
 .rename_i vs ws;erw[yd]at ra rb;let⟨p,xs,rfl,r1,l1⟩:=ra;let⟨p',ys,rfl,r2,l2⟩:=rb;dsimp only at e;split at e
  .rename_i c
   cases e
   have n1:=l1.length;have n2:=l2.length;exact zkI π s σ H _ _ v u Q I rx ry ⟨p,p',xs,ys,rfl,rfl,r1.1,r2.1,by rw[<-zA];lia,λt ht=>q _ _ φ (.upd ht) (rs.upd ht) (.lst_new ht rs (l1.append l2))⟩
  .cases e
 .cases e
end
mutual
noncomputable def toD:PV->PyData
 |.non=>.none
 |.bl b=>.bool b
 |.int i=>.int i
 |.str x=>.str x
 |.tp _ xs=>.tuple (ybs xs)
 |.lst xs=>.list (ybs xs)
 |_=>.none
noncomputable def ybs:List PV->List PyData
 |[]=>[]
 |x::xs=>toD x::ybs xs
end
mutual
theorem zey:∀(v:PV) (n:Nat),shd n v=AC->(toD v).canLay0=AC/\(toD v).depth<=n
 |.non,n,h=>by simp[toD,Cf,DO]
 |.bl b,n,h=>by simp[toD,Cf,DO]
 |.int i,n,h=>by simp[toD,Cf,DO]
 |.str x,n,h=>by
  erw[shd]at h;erw[toD,Cf,DO,DB,and_true];exact h
 |.tp _ xs,n,h=>by
  erw[shd,AH,decide_eq_true_eq]at h;let⟨q1,q2⟩:=zes xs (n-1) h.2;erw[toD,Cf,DO];exact⟨q1,by lia⟩
 |.lst xs,n,h=>by
  erw[shd,AH,decide_eq_true_eq]at h;let⟨q1,q2⟩:=zes xs (n-1) h.2;erw[toD,Cf,DO];exact⟨q1,by lia⟩
 |.loc k,n,h=>by simp[shd]at h
 |.fnc k,n,h=>by simp[shd]at h
 |.exn k,n,h=>by simp[shd]at h
 |.scr xs,n,h=>by simp[shd]at h
theorem zes:∀(v:List PV) (n:Nat),ya4 n v=AC->E9 (ybs v)=AC/\FR (ybs v)<=n
 |[],n,h=>by simp[ybs,E9,FR]
 |v::vs,n,h=>by
  erw[ya4,AH]at h;let⟨q1,q2⟩:=zey v n h.1;let⟨q3,q4⟩:=zes vs n h.2;erw[ybs,E9,FR,AH];exact⟨⟨q1,q3⟩,by lia⟩
end
def zbD{v:PV}(h:shp v=AC):IB (toD v)=true:=by
 let⟨q1,q2⟩:=zey v 60 h;unfold IB;rw[q1,Cv,decide_eq_true_eq];lia
mutual
theorem zeC:∀(v w:PV) (n m:Nat),shd n v=AC->shd m w=AC->BA (toD v) (toD w)=peq v w
 |.non,w,n,m,h,q=>by cases w<;>simp_all[toD,BA,peq,shd]
 |.bl b,w,n,m,h,q=>by cases w<;>simp_all[toD,BA,peq,shd,bi]
 |.int i,w,n,m,h,q=>by cases w<;>simp_all[toD,BA,peq,shd,bi]
 |.str x,w,n,m,h,q=>by cases w<;>simp_all[toD,BA,peq,shd]
 |.tp _ xs,.tp _ ys,n,m,h,q=>by
  erw[shd,AH]at h q;erw[toD,BA,peq];exact zeo xs ys (n-1) (m-1) h.2 q.2
 |.lst xs,.lst ys,n,m,h,q=>by
  erw[shd,AH]at h q;erw[toD,BA,peq];exact zeo xs ys (n-1) (m-1) h.2 q.2
 |.tp _ xs,.non,n,m,h,q=>by simp[toD,BA,peq]
 |.tp _ xs,.bl _,n,m,h,q=>by simp[toD,BA,peq]
 |.tp _ xs,.int _,n,m,h,q=>by simp[toD,BA,peq]
 |.tp _ xs,.str _,n,m,h,q=>by simp[toD,BA,peq]
 |.tp _ xs,.lst _,n,m,h,q=>by simp[toD,BA,peq]
 |.lst xs,.non,n,m,h,q=>by simp[toD,BA,peq]
 |.lst xs,.bl _,n,m,h,q=>by simp[toD,BA,peq]
 |.lst xs,.int _,n,m,h,q=>by simp[toD,BA,peq]
 |.lst xs,.str _,n,m,h,q=>by simp[toD,BA,peq]
 |.lst xs,.tp _ _,n,m,h,q=>by simp[toD,BA,peq]
 |.loc k,w,n,m,h,q=>by simp[shd]at h
 |.fnc k,w,n,m,h,q=>by simp[shd]at h
 |.exn k,w,n,m,h,q=>by simp[shd]at h
 |.scr k,w,n,m,h,q=>by simp[shd]at h
 |v,.loc k,n,m,h,q=>by simp[shd]at q
 |v,.fnc k,n,m,h,q=>by simp[shd]at q
 |v,.exn k,n,m,h,q=>by simp[shd]at q
 |v,.scr k,n,m,h,q=>by simp[shd]at q
theorem zeo:∀(v w:List PV) (n m:Nat),ya4 n v=AC->ya4 m w=AC->D8 (ybs v) (ybs w)=ybi v w
 |[],[],n,m,h,q=>by simp[ybs,D8,ybi]
 |[],y::ys,n,m,h,q=>by simp[ybs,D8,ybi]
 |x::xs,[],n,m,h,q=>by simp[ybs,D8,ybi]
 |x::xs,y::ys,n,m,h,q=>by
  erw[ya4,AH]at h q;erw[ybs,D8,ybi];rw[zeC x y n m h.1 q.1,zeo xs ys n m h.2 q.2]
end
section
variable {S:Se}{X:Cx}{σ:St}{B:AJ->Prop}{φ φ1:Ph}{H H1:Hp}{st:SO}{π:List (AJ×B7)}{s:AK}
mutual
theorem zaA(I:Inv X π σ H s):∀(v:PV) (n:Nat) (x:V) (u:AG),shd n v=AC->yd X.K S.cl B φ H v x->RelV x u->∃as,Reads s.heap u (toD v) as
 |.non,n,x,u,h,r,q=>by
  erw[yd]at r;subst r;cases (show u=Bo from q);exact⟨_,.none⟩
 |.bl b,n,x,u,h,r,q=>by
  erw[yd]at r;subst r;cases (show u=Dy b from q);exact⟨_,.bool b⟩
 |.int i,n,x,u,h,r,q=>by
  erw[yd]at r;subst r;let⟨t,rfl⟩:=q;exact⟨_,.int i t⟩
 |.str y,n,x,u,h,r,q=>by
  erw[yd]at r;subst r;let⟨t,rfl⟩:=q;exact⟨_,.str y t⟩
 |.tp _ vs,n,x,u,h,r,q=>by
  erw[yd]at r;let⟨a,xs,rfl,rt,l⟩:=r
  cases (show u=A7 a from q)
  erw[shd,AH]at h;let⟨its,rv,⟨o,g,c,k,d⟩,_⟩:=I.tuple rt.sq;let⟨as,z⟩:=zdj I vs (n-1) xs its h.2 l rv;exact⟨as,.tuple g c d (by simpa using z)⟩
 |.lst vs,n,x,u,h,r,q=>by
  erw[yd]at r;let⟨a,xs,rfl,rt,l⟩:=r
  cases (show u=A7 a from q)
  erw[shd,AH]at h;let⟨its,rv,⟨o,k,g,c,_,d⟩,_⟩:=I.list (rt.sq (K:=X.K));let⟨as,z⟩:=zdj I vs (n-1) xs its h.2 l rv;exact⟨_,.list g c d (by simpa using z)⟩
 |.loc k,n,x,u,h,r,q=>by simp[shd]at h
 |.fnc k,n,x,u,h,r,q=>by simp[shd]at h
 |.exn k,n,x,u,h,r,q=>by simp[shd]at h
 |.scr k,n,x,u,h,r,q=>by simp[shd]at h
theorem zdj(I:Inv X π σ H s):∀(v:List PV) (n:Nat) (x:List V) (u:List AG),ya4 n v=AC->ye X.K S.cl B φ H v x->Vals x u->∃as,ReadsAll s.heap u (ybs v) as
 |[],n,x,u,h,r,q=>by
  erw[ye]at r;subst r;cases q;exact⟨_,.nil⟩
 |v::vs,n,x,u,h,r,q=>by
  erw[ye]at r;let⟨y,ys,rfl,rv,l⟩:=r;erw[ya4,AH]at h
  cases q with
  |cons q1 q2=>
   let⟨as,z1⟩:=zaA I v n y _ h.1 rv q1;let⟨bs,z2⟩:=zdj I vs n ys _ h.2 l q2;exact⟨_,.cons z1 z2⟩
end
def zpS(hu:X.A.units+64<cLine):OpR X (compareOp .Eq) (rT2 S X (yw .eq)):=by
 rintro π s σ H x y v u Q I rx ry ⟨B,φ,st,a,b,z,rs,ra,rb,e,q⟩
 erw[yw]at e;split at e
 .rename_i c;rw[AH]at c
  cases e
  let⟨as,z1⟩:=zaA (S:=S) I a 60 x v c.1 ra rx;let⟨bs,z2⟩:=zaA (S:=S) I b 60 y u c.2 rb ry;refine eq_dataH z1 z2 (zbD c.1) (zbD c.2) hu ⟨.bl _,H,I,rfl,?_⟩;rw[zeC a b 60 60 c.1 c.2];exact q _ H φ .rfl rs (by erw[yd])
 .cases e
def zqh(hu:X.A.units+64<cLine):OpR X (compareOp .NotEq) (rT2 S X (yw .ne)):=by
 rintro π s σ H x y v u Q I rx ry ⟨B,φ,st,a,b,z,rs,ra,rb,e,q⟩
 erw[yw]at e;split at e
 .rename_i c;rw[AH]at c
  cases e
  let⟨as,z1⟩:=zaA (S:=S) I a 60 x v c.1 ra rx;let⟨bs,z2⟩:=zaA (S:=S) I b 60 y u c.2 rb ry;refine ne_dataH z1 z2 (zbD c.1) (zbD c.2) hu ⟨.bl _,H,I,rfl,?_⟩;rw[zeC a b 60 60 c.1 c.2];exact q _ H φ .rfl rs (by erw[yd])
 .cases e
def ziA{f:AG->AG->Hh AG}{o:COp}{g:Int->Int->Bool}(h:OpR X f (rI0 λi j=>.bl (g i j)))
  (hb:∀v w z,yw o v w=AA z->∃i j,v=.int i/\w=.int j/\z=.bl (g i j)):OpR X f (rT2 S X (yw o)):=by
 rintro π s σ H x y v u Q I rx ry ⟨B,φ,st,a,b,z,rs,ra,rb,e,q⟩
 let⟨i,j,rfl,rfl,rfl⟩:=hb a b z e;erw[yd]at ra rb;subst ra rb;exact h π s σ H _ _ v u Q I rx ry ⟨i,j,rfl,rfl,q _ H φ .rfl rs (by erw[yd])⟩
def zih:OpR X (compareOp .LtE) (λx y H Q=>∃i j,x=.str i/\y=.str j/\Q (.bl (!decide (j.cps.toList<i.cps.toList))) H):=by
 intro π s σ H x y v u Q I rx ry h;let⟨i,j,rfl,rfl,q⟩:=h;let⟨t,rfl⟩:=rx;let⟨t',rfl⟩:=ry;exact PySem.P.le_str (ziM I q rfl)
def zp2:OpR X (compareOp .Lt) (rT2 S X (yw .lt)):=by
 rintro π s σ H x y v u Q I rx ry ⟨B,φ,st,a,b,z,rs,ra,rb,e,q⟩
 erw[yw]at e;split at e
 .rename_i i j;erw[yd]at ra rb;subst ra rb
  cases e
  exact zp5 π s σ H _ _ v u Q I rx ry ⟨i,j,rfl,rfl,q _ H φ .rfl rs (by erw[yd])⟩
 .rename_i i j;erw[yd]at ra rb;subst ra rb
  cases e
  exact zhy π s σ H _ _ v u Q I rx ry ⟨i,j,rfl,rfl,q _ H φ .rfl rs (by erw[yd])⟩
 .cases e
def zpV:OpR X (compareOp .LtE) (rT2 S X (yw .le)):=by
 rintro π s σ H x y v u Q I rx ry ⟨B,φ,st,a,b,z,rs,ra,rb,e,q⟩
 erw[yw]at e;split at e
 .rename_i i j;erw[yd]at ra rb;subst ra rb
  cases e
  exact zp4 π s σ H _ _ v u Q I rx ry ⟨i,j,rfl,rfl,q _ H φ .rfl rs (by erw[yd])⟩
 .rename_i i j;erw[yd]at ra rb;subst ra rb
  cases e
  exact zih π s σ H _ _ v u Q I rx ry ⟨i,j,rfl,rfl,q _ H φ .rfl rs (by erw[yd])⟩
 .cases e
def zf6{o:COp}{g:Int->Int->Bool}(ho:∀v w,yw o v w=match v,w with
   |.int i,.int j=>ybp o i j
   |.str a,.str b=>yeV o a b
   |_,_=>AD) (hs:∀a b,yeV o a b=AD) (hg:∀i j,ybp o i j=AA (.bl (g i j))) (v w z:PV) (h:yw o v w=AA z):∃i j,v=.int i/\w=.int j/\z=.bl (g i j):=by
 rw[ho]at h;split at h
 .rename_i i j;rw[hg]at h;exact⟨i,j,rfl,rfl,(AY h).symm⟩
 .rw[hs]at h;cases h
 .cases h
def zp6:OpR X (compareOp .Gt) (rT2 S X (yw .gt)):=ziA zpO (zf6 (λ_ _=>rfl) (λ_ _=>rfl) λ_ _=>rfl)
def zqb:OpR X (compareOp .GtE) (rT2 S X (yw .ge)):=ziA zqe (zf6 (λ_ _=>rfl) (λ_ _=>rfl) λ_ _=>rfl)
theorem yd.isNon{K:AF}{cl:Nat->AJ}{v:PV}{x:V}(r:yd K cl B φ H v x):decide (x=.non)=IC.isNon v:=by
 cases v with
 |loc n=>erw[yd]at r;let⟨_,a,rfl,_⟩:=r;rfl
 |non=>erw[yd]at r;subst r;rfl
 |bl b=>erw[yd]at r;subst r;rfl
 |int b=>erw[yd]at r;subst r;rfl
 |str b=>erw[yd]at r;subst r;rfl
 |tp k vs=>erw[yd]at r;let⟨a,xs,rfl,_⟩:=r;rfl
 |lst vs=>erw[yd]at r;let⟨a,xs,rfl,_⟩:=r;rfl
 |fnc j=>erw[yd]at r;subst r;rfl
 |exn vs=>erw[yd]at r;let⟨a,rfl,_⟩:=r;rfl
 |scr vs=>erw[yd]at r;let⟨a,xs,rfl,_⟩:=r;rfl
theorem yd.flat{K:AF}{cl:Nat->AJ}{v:PV}{x:V}(r:yd K cl B φ H v x)(h:IC.flat v=AC):yan x=AC/\∀(w:PV) (y:V),IC.flat w=AC->yd K cl B φ H w y->eqV x y=peq v w:=by
 cases v with
 |non=>
  erw[yd]at r;subst r;refine⟨rfl,λw y hw rw=>?_⟩
  cases w<;>first|(simp[IC.flat]at hw;done)|(erw[yd]at rw;subst rw;simp[eqV,peq,bi])
 |bl b=>
  erw[yd]at r;subst r;refine⟨rfl,λw y hw rw=>?_⟩
  cases w<;>first|(simp[IC.flat]at hw;done)|(erw[yd]at rw;subst rw;simp[eqV,peq,bi])
 |int b=>
  erw[yd]at r;subst r;refine⟨rfl,λw y hw rw=>?_⟩
  cases w<;>first|(simp[IC.flat]at hw;done)|(erw[yd]at rw;subst rw;simp[eqV,peq,bi])
 |str b=>
  erw[yd]at r;subst r;refine⟨rfl,λw y hw rw=>?_⟩
  cases w<;>first|(simp[IC.flat]at hw;done)|(erw[yd]at rw;subst rw;simp[eqV,peq,bi])
 |_=>simp[IC.flat]at h
def zbr{K:AF}{cl:Nat->AJ}{v:PV}{x:V}(r:yd K cl B φ H v x)(h:IC.flat v=AC):∀{vs:List PV} {xs:List V},ye K cl B φ H vs xs->vs.all IC.flat=AC->xs.all yan=AC/\inV x xs=inL v vs
 |[],xs,l,_=>by erw[ye]at l;subst l;exact⟨rfl,rfl⟩
 |w::vs,xs,l,f=>by
  erw[ye]at l;let⟨y,ys,rfl,rw,l⟩:=l;rw[BE,AH]at f;let⟨q1,q2⟩:=zbr r h l f.2;let⟨q3,q4⟩:=rw.flat f.1;refine⟨by rw[BE,q3,q1];rfl,?_⟩;unfold inV at q2 ⊢;rw[Ax,q2,q4 v x h r];rfl
end
def zmF(a b:AL):(!(Ep b a 0 b.length 1).isEmpty)=inS a b:=by
 rw[Dp,StrLaws.found_iff];unfold inS;rw[Ck];constructor
 .rintro⟨i,h1,h2⟩
  exact⟨i,by rw[HP];lia,by rw[AH,decide_eq_true_eq];exact⟨h1,h2⟩⟩
 .rintro⟨i,_,h⟩
  rw[AH,decide_eq_true_eq]at h;exact⟨i,h.1,h.2⟩
section
variable {S:Se}{X:Cx}{σ:St}{B:AJ->Prop}{φ φ1:Ph}{H H1:Hp}{st:SO}
def zp1:OpR X (compareOp .In) (rT2 S X (yw .isin)):=by
 rintro π s σ H x y v u Q I rx ry ⟨B,φ,st,a,b,z,rs,ra,rb,e,q⟩
 erw[yw]at e;split at e
 .rename_i i j;erw[yd]at ra rb;subst ra rb
  cases e
  exact zic π s σ H _ _ v u Q I rx ry ⟨i,j,rfl,rfl,by rw[zmF];exact q _ H φ .rfl rs (by erw[yd])⟩
 .rename_i l;split at e
  .rename_i c;rw[AH]at c
   cases e
   erw[yd]at rb;let⟨p,xs,rfl,r,l'⟩:=rb;let⟨q1,q2⟩:=zbr ra c.1 l' c.2;exact ze1 π s σ H _ _ v u Q I rx ry ⟨p,xs,rfl,.inr r.sq,(ra.flat c.1).1,q1,q _ H φ .rfl rs (by erw[yd];rw[<-q2];rfl)⟩
  .cases e
 .rename_i l;split at e
  .rename_i c;rw[AH]at c
   cases e
   erw[yd]at rb;let⟨p,xs,rfl,r,l'⟩:=rb;let⟨q1,q2⟩:=zbr ra c.1 l' c.2;exact ze1 π s σ H _ _ v u Q I rx ry ⟨p,xs,rfl,.inl r.sq,(ra.flat c.1).1,q1,q _ H φ .rfl rs (by erw[yd];rw[<-q2];rfl)⟩
  .cases e
 .cases e
theorem ye.empty{K:AF}{cl:Nat->AJ}{vs:List PV}{xs:List V}(l:ye K cl B φ H vs xs):vs.isEmpty=xs.isEmpty:=by
 have:=l.length
 cases vs<;>cases xs<;>simp_all
def zmt{K:AF}{cl:Nat->AJ}{v:PV}{x:V}{k:Bool}(rs:yu K cl B φ H st)(r:yd K cl B φ H v x)(h:yaD st v=AA k):yeT K x H k:=by
 cases v with
 |non=>erw[yd]at r;subst r;cases h;rfl
 |bl b=>erw[yd]at r;subst r;cases h;rfl
 |int b=>erw[yd]at r;subst r;cases h;rfl
 |str b=>
  erw[yd]at r;subst r;erw[yaD]at h;split at h
  .rename_i c
   cases h
   exact⟨by rw[<-zA];exact c,rfl⟩
  .cases h
 |tp k vs=>
  erw[yd]at r;let⟨a,xs,rfl,rt,l⟩:=r
  cases h
  exact .inr (.inl ⟨xs,rt.sq,by rw[l.empty]⟩)
 |lst vs=>
  erw[yd]at r;let⟨a,xs,rfl,rt,l⟩:=r
  cases h
  exact .inl ⟨xs,rt.sq,by rw[l.empty]⟩
 |loc n=>
  erw[yd]at r;let⟨hn,a,rfl,ha⟩:=r;erw[yaD]at h;split at h
  .rename_i vs hv
   cases h
   let⟨b,hb⟩:=rs.liv n _ hv (by intro z;cases z);obtain rfl:=ha b hb;let⟨o,ho,ro⟩:=rs.obj n b hb;rw[hv]at ho;cases ho;let⟨xs,hx,l⟩:=ro;exact .inl ⟨xs,.of hx,by rw[l.empty]⟩
  .cases h
 |fnc c=>cases h
 |exn c=>cases h
 |scr c=>cases h
end
theorem R.bind_assoc{α β γ:Type}{r:R α}{k:α->SO->R β}{l:β->SO->R γ}:(r.bind k).bind l=r.bind λa s=>(k a s).bind l:=by
 cases r<;>rfl
section
variable {S:Se}{X:Cx}{σ:St}{B:AJ->Prop}{φ φ1:Ph}{H H1:Hp}{st:SO}{ρ:IC.Env}{pos:CB}{a b c d:AT}{ca cb cc:Ce}{es:List AT}{ces:Ces}
def zew{o:COp}{v w z:PV}(h:yw o v w=AA z):∃k,z=.bl k:=by
 cases o<;>erw[yw]at h
 all_goals (repeat' split at h)<;>first|(cases h;done)|(cases h;exact⟨_,rfl⟩)|skip
 all_goals (erw[ybp]at h;cases h;exact⟨_,rfl⟩)
def zoH{op:Fw}{o:COp}(ho:OpR X (compareOp op) (rT2 S X (yw o)))(ha:PE X a (tE S X ca))(hb:PE X b (tE S X cb))(hm:behindInMarks op b=AB):PT X (.Compare a [op] [b] pos) (tTs S X (.cmp o ca cb)):=
 (zfR ho ha hb hm).imp λσ H Q ⟨B,φ,st,ρ,rs,re,h⟩=>by
  erw[ev,yaO,R.bind_assoc]at h;refine tE.bind rs re h λx H1 v st1 φ1 s1 rs1 re1 rv h1=>tE.bind rs1 re1 h1 λy H2 w st2 φ2 s2 rs2 re2 rw h2=>?_
  cases e:yw o v w with
  |none=>rw[e]at h2;exact h2.elim
  |some z=>
   let⟨k,rfl⟩:=zew e;rw[e]at h2;refine⟨B,φ2,st2,v,w,.bl k,rs2,rv.step s2,rw,e,λz' H' φ' s' rs' rz=>?_⟩;erw[yd]at rz;exact⟨k,rz,h2 k H' φ' s' rs' rfl⟩
def zpF(ha:PE X a (tE S X ca))(he:∀whole,isTrue a X.env whole=(do let v <-whole;standAt a.pos;holding [v] (truthy v)):=by intro _;rfl):PT X a (tTs S X ca):=
 (zjw ha he).imp λσ H Q ⟨B,φ,st,ρ,rs,re,h⟩=>by
  erw[yaO]at h;refine tE.bind rs re h λx H1 v st1 φ1 s1 rs1 re1 rv h1=>?_
  cases e:yaD st1 v with
  |none=>rw[e]at h1;exact h1.elim
  |some k=>
   rw[e]at h1;exact⟨k,zmt rs1 rv e,h1.ok rs1 rfl⟩
theorem tTs.bind{γ δ:Type}{IA:Ph->Hp->γ->δ->Prop}{k:Bool->SO->R γ}{Q:δ->Hp->Prop}{P:Bool->Hp->Prop}(rs:yu X.K S.cl B φ H st)(re:yH X.K S.cl B φ H ρ σ)(h:Run S X σ B φ H IA ((yaO (ev S.call ρ st ca)).bind k) Q)
  (n:∀b H1 st1 φ1,Step φ H φ1 H1->yu X.K S.cl B φ1 H1 st1->yH X.K S.cl B φ1 H1 ρ σ->Run S X σ B φ1 H1 IA (k b st1) Q->P b H1):tTs S X ca σ H P:=
 ⟨B,φ,st,ρ,rs,re,(Run.bind h).mono λx H1 ⟨v,st1,φ1,s,rs1,rv,h1⟩=>by
  subst rv;exact n v H1 st1 φ1 s rs1 (re.step s) h1⟩
def zfP(r:R PV)(f:Bool->SO->R PV):yaO (r.bind λx st1=>onBl x λb=>f b st1)=r.bind λx st1=>onBl x λb=>yaO (f b st1):=by
 unfold yaO;rw[R.bind_assoc]
 congr 1
 funext x st1
 cases x<;>rfl
theorem Run.bl_tru{r:R PV}{k:Bool->SO->R Bool}{Q:Bool->Hp->Prop}(h:Run S X σ B φ H RB (r.bind λx st1=>onBl x λb=>k b st1) Q):Run S X σ B φ H RB ((yaO r).bind k) Q:=by
 cases r with
 |bad=>exact h
 |exc c s=>exact h
 |ok v s=>
  cases v with
  |bl b=>exact h
  |_=>exact h.elim
def zox(ha:PT X a (tTs S X ca)):PT X (.UnaryOp .Not a pos) (tTs S X (.not ca)):=
 (znE ha).imp λσ H Q ⟨B,φ,st,ρ,rs,re,h⟩=>by
  erw[ev]at h;rw[zfP _ λk st1=>.ok (.bl (!k)) st1]at h;exact tTs.bind rs re (Run.bl_tru (k:=λb st1=>.ok (!b) st1) h) λb H1 st1 φ1 s1 rs1 re1 h1=>h1.ok rs1 rfl
variable {rest:List AT}
def zlS(ha:PT X a (tTs S X ca)):PW X (.BoolOp .And [a] pos) (tTs S X ca):=zm2 ha
def znt(ha:PT X a (tTs S X ca)):PW X (.BoolOp .Or [a] pos) (tTs S X ca):=zod ha
def znN(ha:PT X a (tTs S X ca))(hb:PW X (.BoolOp .And (b::rest) pos) (tTs S X cb)):PW X (.BoolOp .And (a::b::rest) pos) (tTs S X (.and ca cb)):=
 (zpj ha hb).imp λσ H Q ⟨B,φ,st,ρ,rs,re,h⟩=>by
  erw[ev]at h;rw[zfP _ λk st1=>cond k (ev S.call ρ st1 cb) (.ok (.bl AB) st1)]at h;refine tTs.bind rs re (Run.bl_tru h) λk H1 st1 φ1 s1 rs1 re1 h1=>?_
  cases k with
  |false=>exact h1.ok rs1 rfl
  |true=>exact⟨B,φ1,st1,ρ,rs1,re1,h1⟩
def zqj(ha:PT X a (tTs S X ca))(hb:PW X (.BoolOp .Or (b::rest) pos) (tTs S X cb)):PW X (.BoolOp .Or (a::b::rest) pos) (tTs S X (.or ca cb)):=
 (zpP ha hb).imp λσ H Q ⟨B,φ,st,ρ,rs,re,h⟩=>by
  erw[ev]at h;rw[zfP _ λk st1=>cond k (.ok (.bl AC) st1) (ev S.call ρ st1 cb)]at h;refine tTs.bind rs re (Run.bl_tru h) λk H1 st1 φ1 s1 rs1 re1 h1=>?_
  cases k with
  |true=>exact h1.ok rs1 rfl
  |false=>exact⟨B,φ1,st1,ρ,rs1,re1,h1⟩
def zkC{op:ID}(h:PE X a (tE S X ca)):PE X (.BoolOp op [a] pos) (tE S X ca):=zn8 h
def zkT(ha:PE X a (tE S X ca))(hb:PE X (.BoolOp .And (b::rest) pos) (tE S X cb)):PE X (.BoolOp .And (a::b::rest) pos) (tE S X (.and ca cb)):=
 (zot ha hb).imp λσ H Q ⟨B,φ,st,ρ,rs,re,h⟩=>by
  erw[ev]at h;refine tE.bind rs re h λx H1 v st1 φ1 s1 rs1 re1 rv h1=>?_
  cases v with
  |bl k=>
   erw[yd]at rv;refine⟨k,rv,?_⟩
   cases k with
   |true=>exact⟨B,φ1,st1,ρ,rs1,re1,h1⟩
   |false=>exact h1.ok rs1 (by erw[yd])
  |_=>exact h1.elim
def zpc(ha:PE X a (tE S X ca))(hb:PE X (.BoolOp .Or (b::rest) pos) (tE S X cb)):PE X (.BoolOp .Or (a::b::rest) pos) (tE S X (.or ca cb)):=
 (zpT ha hb).imp λσ H Q ⟨B,φ,st,ρ,rs,re,h⟩=>by
  erw[ev]at h;refine tE.bind rs re h λx H1 v st1 φ1 s1 rs1 re1 rv h1=>?_
  cases v with
  |bl k=>
   erw[yd]at rv;refine⟨k,rv,?_⟩
   cases k with
   |false=>exact⟨B,φ1,st1,ρ,rs1,re1,h1⟩
   |true=>exact h1.ok rs1 (by erw[yd])
  |_=>exact h1.elim
def zpb(ha:PE X a (tE S X ca)):PE X (.UnaryOp .Not a pos) (tE S X (.not ca)):=
 (zn7 ha).imp λσ H Q ⟨B,φ,st,ρ,rs,re,h⟩=>by
  erw[ev]at h;refine tE.bind rs re h λx H1 v st1 φ1 s1 rs1 re1 rv h1=>?_
  cases v with
  |bl k=>
   erw[yd]at rv;exact⟨k,rv,h1.ok rs1 (by erw[yd])⟩
  |_=>exact h1.elim
def zkZ(ha:PE X a (tE S X ca)):PE X (.UnaryOp .USub a pos) (tE S X (.neg ca)):=
 (zqf zom ha).imp λσ H Q ⟨B,φ,st,ρ,rs,re,h⟩=>by
  erw[ev]at h;refine tE.bind rs re h λx H1 v st1 φ1 s1 rs1 re1 rv h1=>?_;split at h1
  .simp only[yd]at rv;exact⟨_,rv,h1.ok rs1 (by erw[yd])⟩
  .exact h1.elim
def zoX(hc:PT X c (tTs S X cc))(ha:PE X a (tE S X ca))(hb:PE X b (tE S X cb)):PE X (.IfExp c a b pos) (tE S X (.ite cc ca cb)):=
 (zkf hc ha hb).imp λσ H Q ⟨B,φ,st,ρ,rs,re,h⟩=>by
  erw[ev]at h;have e:((ev S.call ρ st cc).bind λx st1=>onO (yaD st1 x) λk=>cond k (ev S.call ρ st1 ca) (ev S.call ρ st1 cb))=(yaO (ev S.call ρ st cc)).bind λk st1=>cond k (ev S.call ρ st1 ca) (ev S.call ρ st1 cb):=by
   unfold yaO;rw[R.bind_assoc]
   congr 1
   funext x st1
   cases yaD st1 x<;>rfl
  rw[e]at h;refine tTs.bind rs re h λk H1 st1 φ1 s1 rs1 re1 h1=>?_
  cases k with
  |true=>exact⟨B,φ1,st1,ρ,rs1,re1,h1⟩
  |false=>exact⟨B,φ1,st1,ρ,rs1,re1,h1⟩
def zdL:PA X [] (tAs S X .nil):=zf2.imp λσ H Q ⟨B,φ,st,ρ,rs,re,h⟩=>by
 erw[evs]at h;exact h.ok rs (by erw[ye])
def za9(ha:PE X a (tE S X ca))(hr:PA X es (tAs S X ces))(hs:starEach (a::es) X.env=(AB,eval a X.env)::starEach es X.env:=by rfl):PA X (a::es) (tAs S X (.cons ca ces)):=
 (zaj ha hr hs).imp λσ H Q ⟨B,φ,st,ρ,rs,re,h⟩=>by
  erw[evs]at h;refine tE.bind rs re h λx H1 v st1 φ1 s1 rs1 re1 rv h1=>tAs.bind rs1 re1 h1 λxs H2 vs st2 φ2 s2 rs2 re2 rvs h2=>?_;refine h2.ok rs2 ?_;erw[ye];exact⟨x,xs,rfl,rv.step s2,rvs⟩
def zpx{k:Nat}(h:PA X es (tAs S X ces)):PE X (.Tuple es k pos) (tE S X (.tup ces)):=
 (zk3 h).imp λσ H Q ⟨B,φ,st,ρ,rs,re,h⟩=>by
  erw[ev]at h;refine tAs.bind rs re h λxs H1 vs st1 φ1 s1 rs1 re1 rv h1=>?_;split at h1
  .rename_i c;refine⟨by rw[<-zA,<-rv.length];exact c,λp hp=>h1 _ _ φ1 (.upd hp) (rs1.upd hp) (.tup_new hp rs1 rv)⟩
  .exact h1.elim
def zoL(h:PA X es (tAs S X ces)):PE X (.List es pos) (tE S X (.lst ces)):=
 (zk1 h).imp λσ H Q ⟨B,φ,st,ρ,rs,re,h⟩=>by
  erw[ev]at h;refine tAs.bind rs re h λxs H1 vs st1 φ1 s1 rs1 re1 rv h1=>?_;split at h1
  .rename_i c;refine⟨by rw[<-zA,<-rv.length];exact c,λp hp=>h1 _ _ φ1 (.upd hp) (rs1.upd hp) (.lst_new hp rs1 rv)⟩
  .exact h1.elim
theorem Step.push{p:AJ}{o:HO}(hp:H p=AD):Step φ H (φ++[AA p]) (L2.upd H p o):=by
 refine⟨λb u n e=>by rw[zd (zk e hp)];exact e,by simp,λn a hn e=>?_,λb h=>?_⟩
 .rw[Ae hn]at e;exact e
 .rw[Bq]at h;rcases h with h|h
  .exact .inl h
  .have:b=p:=by simpa using h
   subst this;exact .inr hp
theorem yu.push{K:AF}{cl:Nat->AJ}{p:AJ}{u:HO}{o:Ob}(rs:yu K cl B φ H st)(hp:H p=AD)(hb:¬B p)(ho:yb4 K cl B (φ++[AA p]) (L2.upd H p u) o p):yu K cl B (φ++[AA p]) (L2.upd H p u) (st++[o]):=by
 have s:Step φ H (φ++[AA p]) (L2.upd H p u):=.push hp;have np:AA p∉φ:=λz=>by
  let⟨w,e⟩:=rs.there z;rw[hp]at e;cases e
 have hl:φ.length=st.length:=rs.len;refine⟨by simp[hl],λm n a e1 e2=>?_,λn a e=>?_,λn o' e ho'=>?_,λa h=>?_,λa h=>?_⟩
 .by_cases hm:m<φ.length
  .rw[Ae hm]at e1
   by_cases hn:n<φ.length
   .rw[Ae hn]at e2;exact rs.inj m n a e1 e2
   .rw[Ak ∅]at e2;have:a=p:=by
     cases q:n-φ.length with
     |zero=>rw[q]at e2;simpa using e2.symm
     |succ k=>rw[q]at e2;simp at e2
    subst this;exact absurd (AW e1) np
  .rw[Ak ∅]at e1;have:m-φ.length=0/\a=p:=by
    cases q:m-φ.length with
    |zero=>rw[q]at e1;exact⟨rfl,by simpa using e1.symm⟩
    |succ k=>rw[q]at e1;simp at e1
   let⟨q1,rfl⟩:=this
   by_cases hn:n<φ.length
   .rw[Ae hn]at e2;exact absurd (AW e2) np
   .rw[Ak ∅]at e2;have:n-φ.length=0:=by
     cases q:n-φ.length with
     |zero=>rfl
     |succ k=>rw[q]at e2;simp at e2
    lia
 .by_cases hn:n<φ.length
  .rw[Ae hn]at e;let⟨o',q,r⟩:=rs.obj n a e;refine⟨o',by rw[Ae ∅];exact q,r.step s ?_⟩;rw[zd]
   rintro rfl
   exact np (AW e)
  .rw[Ak ∅]at e;have:n-φ.length=0/\a=p:=by
    cases q:n-φ.length with
    |zero=>rw[q]at e;exact⟨rfl,by simpa using e.symm⟩
    |succ k=>rw[q]at e;simp at e
   let⟨q1,rfl⟩:=this;refine⟨o,?_,ho⟩;rw[Ak ∅];have:n-st.length=0:=by lia
   rw[this];rfl
 .by_cases hn:n<φ.length
  .rw[Ae ∅]at e;let⟨a,q⟩:=rs.liv n o' e ho';exact⟨a,by rw[Ae hn];exact q⟩
  .rw[Ak ∅]at e;have:n-st.length=0:=by
    cases q:n-st.length with
    |zero=>rfl
    |succ k=>rw[q]at e;simp at e
   refine⟨p,?_⟩;rw[Ak ∅];have:n-φ.length=0:=by lia
   rw[this];rfl
 .rw[Bq]at h;rcases h with h|h
  .exact rs.nb a h
  .have:a=p:=by simpa using h
   subst this;exact hb
 .let⟨w,e⟩:=rs.dom a h;exact⟨w,by rw[zd (zk e hp)];exact e⟩
theorem yu.nB{K:AF}{cl:Nat->AJ}{p:AJ}(rs:yu K cl B φ H st)(hp:H p=AD):¬B p:=λz=>by
 let⟨o,e⟩:=rs.dom p z;rw[hp]at e;cases e
theorem yd.loc_new{K:AF}{cl:Nat->AJ}{p:AJ}(rs:yu K cl B φ H st):yd K cl B (φ++[AA p]) H1 (.loc st.length) (.ref p):=by
 erw[yd];have hl:=rs.len;refine⟨by simp[hl],p,rfl,λb e=>?_⟩;rw[Ak ∅]at e;have:st.length-φ.length=0:=by lia
 rw[this]at e;simpa using e.symm
def zmT(h:PA X es (tAs S X ces)):PE X (.List es pos) (tE S X (.newl ces)):=
 (zk1 h).imp λσ H Q ⟨B,φ,st,ρ,rs,re,h⟩=>by
  erw[ev]at h;refine tAs.bind rs re h λxs H1 vs st1 φ1 s1 rs1 re1 rv h1=>?_;split at h1
  .rename_i c;refine⟨by rw[<-zA,<-rv.length];exact c,λp hp=>h1 _ _ (φ1++[AA p]) (.push hp) (rs1.push hp (rs1.nB hp) ⟨xs,zm,rv.step (.push hp)⟩) (.loc_new rs1)⟩
  .exact h1.elim
end
section
variable {S:Se}{X:Cx}{σ:St}{B:AJ->Prop}{φ φ1:Ph}{H H1:Hp}{st:SO}{ρ:IC.Env}{pos p2:CB}{a b c d:AT}{ca cb cc:Ce}{es:List AT}{ces:Ces}{K:AF}{cl:Nat->AJ}
def zhg{o:COp}{v w:PV}{α β:Type}{Rel:Ph->Hp->α->β->Prop}{k:Bool->R α}{Q:β->Hp->Prop}(h:Run S X σ B φ H Rel (onO (blO (yw o v w)) k) Q):∃b,yw o v w=AA (.bl b)/\Run S X σ B φ H Rel (k b) Q:=by
 cases e:yw o v w with
 |none=>rw[e]at h;exact h.elim
 |some z=>
  let⟨b,rfl⟩:=zew e;rw[e]at h;exact⟨b,rfl,h⟩
def zku{op op':Fw}{o p:COp}(ho:OpR X (compareOp op) (rT2 S X (yw o)))(ho':OpR X (compareOp op') (rT2 S X (yw p)))(ha:PE X a (tE S X ca))(hb:PE X b (tE S X cb))(hc:PE X c (tE S X cc))
  (hm:lastMarks [op,op'] [b,c]=false:=by ac_rfl):PE X (.Compare a [op,op'] [b,c] pos) (tE S X (.chain o p ca cb cc)):=
 (zj3 ho ho' ha hb hc hm).imp λσ H Q ⟨B,φ,st,ρ,rs,re,h⟩=>by
  erw[ev]at h;refine tE.bind rs re h λx H1 v st1 φ1 s1 rs1 re1 rv h1=>tE.bind rs1 re1 h1 λy H2 w st2 φ2 s2 rs2 re2 rw h2=>?_;let⟨k,e,h2⟩:=zhg h2;refine⟨B,φ2,st2,v,w,.bl k,rs2,rv.step s2,rw,e,λz' H' φ' s' rs' rz=>?_⟩;erw[yd]at rz;refine⟨k,rz,?_⟩
  cases k with
  |false=>exact h2 _ H' φ' s' rs' (by erw[yd])
  |true=>
   refine tE.bind rs' (re2.step s') (Run.on s' h2) λz H3 v3 st3 φ3 s3 rs3 re3 rv3 h3=>?_;let⟨q,eq,hq⟩:=zU h3 rs3;exact⟨B,φ3,st3,w,v3,q,rs3,(rw.step s').step s3,rv3,eq,hq⟩
def zjD{op op':Fw}{o p:COp}(ho:OpR X (compareOp op) (rT2 S X (yw o)))(ho':OpR X (compareOp op') (rT2 S X (yw p)))(ha:PE X a (tE S X ca))(hb:PE X b (tE S X cb))(hc:PE X c (tE S X cc))
  (hm:lastMarks [op,op'] [b,c]=false:=by ac_rfl):PT X (.Compare a [op,op'] [b,c] pos) (tTs S X (.chain o p ca cb cc)):=
 (zkt ho ho' ha hb hc hm).imp λσ H Q ⟨B,φ,st,ρ,rs,re,h⟩=>by
  erw[ev,yaO,R.bind_assoc]at h;refine tE.bind rs re h λx H1 v st1 φ1 s1 rs1 re1 rv h1=>tE.bind rs1 re1 h1 λy H2 w st2 φ2 s2 rs2 re2 rw h2=>?_;have h2':Run S X σ B φ2 H2 RB (onO (blO (yw o v w)) λk=>cond k ((ev S.call ρ st2 cc).bind λz st3=>(toR (yw p w z) st3).bind λx st=>onO (yaD st x) λb=>.ok b st) (.ok AB st2)) Q:=by
   cases e:yw o v w with
   |none=>rw[e]at h2;exact h2
   |some z=>
    let⟨b,rfl⟩:=zew e;rw[e]at h2
    cases b with
    |false=>exact h2
    |true=>
     erw[blO,onO,cond_true,R.bind_assoc]at h2 ⊢;exact h2
  let⟨k,e,h2⟩:=zhg h2';refine⟨B,φ2,st2,v,w,.bl k,rs2,rv.step s2,rw,e,λz' H' φ' s' rs' rz=>?_⟩;erw[yd]at rz;refine⟨k,rz,?_⟩
  cases k with
  |false=>exact⟨AB,rfl,h2 _ H' φ' s' rs' rfl⟩
  |true=>
   refine tE.bind rs' (re2.step s') (Run.on s' h2) λz H3 v3 st3 φ3 s3 rs3 re3 rv3 h3=>?_
   cases eq:yw p w v3 with
   |none=>rw[eq]at h3;exact h3.elim
   |some q=>
    let⟨b,rfl⟩:=zew eq;rw[eq]at h3;refine⟨B,φ3,st3,w,v3,.bl b,rs3,(rw.step s').step s3,rv3,eq,λz2 H4 φ4 s4 rs4 rz4=>?_⟩;erw[yd]at rz4;exact⟨b,rz4,h3 b H4 φ4 s4 rs4 rfl⟩
theorem ye.at{vs:List PV}{xs:List V}{i:Int}{v:PV}(l:ye K cl B φ H vs xs)(h:at? vs i=AA v):∃x,atI xs i=AA x/\yd K cl B φ H v x:=by
 unfold at? at h;rw[l.length]at h;unfold atI
 cases e:ixI xs.length i with
 |none=>rw[e]at h;cases h
 |some j=>
  rw[e]at h;have e':ixN xs.length i=AA j:=e;rw[e'];exact l.get j h
theorem yu.list{n:Nat}{vs:List PV}{x:V}(rs:yu K cl B φ H st)(r:yd K cl B φ H (.loc n) x)(h:st[n]?=AA (.lst vs)):∃a xs,x=.ref a/\φ[n]?=AA (AA a)/\H a=AA (.lst xs)/\ye K cl B φ H vs xs:=by
 erw[yd]at r;let⟨hn,a,rfl,ha⟩:=r;let⟨b,hb⟩:=rs.liv n _ h (by intro z;cases z);obtain rfl:=ha b hb;let⟨o,ho,ro⟩:=rs.obj n b hb;rw[h]at ho;cases ho;let⟨xs,hx,l⟩:=ro;exact⟨b,xs,rfl,hb,hx,l⟩
def rTS(S:Se)(X:Cx)(f:SO->PV->PV->Option PV):R2:=λx y H Q=>∃B φ st v w z,yu X.K S.cl B φ H st/\yd X.K S.cl B φ H v x/\yd X.K S.cl B φ H w y/\f st v w=AA z /\
 ∀z' H' φ',Step φ H φ' H'->yu X.K S.cl B φ' H' st->yd X.K S.cl B φ' H' z z'->Q z' H'
def zc3{α:Type}{xs:List α}{i:PV}{z:α}(h:yaP xs i=AA z):∃k,i=.int k/\at? xs k=AA z:=by
 cases i with
 |int k=>exact⟨k,rfl,h⟩
 |_=>cases h
def zna:IxR X (rTS S X idxV):=by
 rintro value slice π s σ H x y v u Q I rx ry ⟨B,φ,st,a,i,z,rs,ra,ri,e,q⟩ hs
 cases a with
 |tp k vs=>
  let⟨k,rfl,e⟩:=zc3 e;erw[yd]at ra ri;subst ri;let⟨p,xs,rfl,rt,l⟩:=ra;let⟨w,e1,rw⟩:=l.at e;exact zf5 value slice π s σ H _ _ v u Q I rx ry (.inr (.inl ⟨p,xs,k,w,rfl,rfl,rt.sq,e1,q w H φ .rfl rs rw⟩)) hs
 |lst vs=>
  let⟨k,rfl,e⟩:=zc3 e;erw[yd]at ra ri;subst ri;let⟨p,xs,rfl,rt,l⟩:=ra;let⟨w,e1,rw⟩:=l.at e;exact zf5 value slice π s σ H _ _ v u Q I rx ry (.inl ⟨p,xs,k,w,rfl,rfl,rt.sq,e1,q w H φ .rfl rs rw⟩) hs
 |loc n=>
  erw[idxV]at e;split at e
  .rename_i vs h1;let⟨k,rfl,e⟩:=zc3 e;erw[yd]at ri;subst ri;let⟨p,xs,rfl,_,hx,l⟩:=rs.list ra h1;let⟨w,e1,rw⟩:=l.at e;exact zf5 value slice π s σ H _ _ v u Q I rx ry (.inl ⟨p,xs,k,w,rfl,rfl,.of hx,e1,q w H φ .rfl rs rw⟩) hs
  .cases e
 |str t=>
  erw[idxV]at e;split at e
  .rename_i hl
   cases e1:yaP t.cps.toList i with
   |none=>rw[e1]at e;cases e
   |some c=>
    rw[e1]at e
    cases e
    let⟨k,rfl,e1⟩:=zc3 e1;erw[yd]at ra ri;subst ra ri;exact zf5 value slice π s σ H _ _ v u Q I rx ry (.inr (.inr ⟨t,k,c,rfl,rfl,by rw[<-zA];exact hl,e1,q _ H φ .rfl rs (by erw[yd])⟩)) hs
  .cases e
 |_=>cases e
def znz(ha:PE X a (tE S X ca))(hb:PE X b (tE S X cb))(hs:ybh b:=by exact λ_ _=>rfl):PE X (.Subscript a b pos) (tE S X (.idx ca cb)):=
 (zpK zna ha hb hs).imp λσ H Q ⟨B,φ,st,ρ,rs,re,h⟩=>by
  erw[ev]at h;refine tE.bind rs re h λx H1 v st1 φ1 s1 rs1 re1 rv h1=>tE.bind rs1 re1 h1 λy H2 w st2 φ2 s2 rs2 re2 rw h2=>?_;let⟨z,e,q⟩:=zU h2 rs2;exact⟨B,φ2,st2,v,w,z,rs2,rv.step s2,rw,e,q⟩
theorem ye.cut{vs:List PV}{xs:List V}(lo hi:Option Int)(l:ye K cl B φ H vs xs):ye K cl B φ H (IC.cut vs lo hi) (ycm xs lo hi):=by
 have e1:∀n o,ycy n o=HT.sIx n 0 o:=λn o=>by cases o<;>rfl
 have e2:∀n o,ycQ n o=HT.sIx n n o:=λn o=>by cases o<;>rfl
 unfold IC.cut ycm;rw[l.length,e1,e2];exact(l.drop _).take _
def tO(S:Se)(X:Cx)(c:Ce):TO:=λσ H Q=>tE S X c σ H λx H1=>(x=.non/\Q AD H1) \/ ∃i,x=.int i/\Q (AA i) H1
def zmE:PO X AD (tO S X (.cst .non)):=λπ s σ H Q I h=>by
 refine zmm π s σ H Q I ?_;let⟨B,φ,st,ρ,rs,re,h⟩:=h;erw[ev]at h;rcases h.ok rs (x:=V.non) (by erw[yd])with q|⟨i,z,_⟩
 .exact q.2
 .cases z
def zmX(ha:PE X a (tE S X ca)):PO X (AA a) (tO S X ca):=by
 intro π s σ H Q I hw;rw[evalPart_some];refine thn (ha π s σ H _ I hw) λu s1 kq=>?_;let⟨x,H1,I1,r1,q1⟩:=kq;rcases q1 with⟨rfl,q⟩|⟨i,rfl,q⟩
 .cases r1
  exact⟨AD,H1,I1,.none,q⟩
 .let⟨t,rfl⟩:=r1;exact⟨AA i,H1,I1,.int i t,q⟩
def rSl(S:Se)(X:Cx):V->Option Int->Option Int->Hp->VK->Prop:=λx lo hi H Q=>∃B φ st v z,yu X.K S.cl B φ H st/\yd X.K S.cl B φ H v x/\ycl v lo hi=AA z /\
 ∀z' H' φ',Step φ H φ' H'->yu X.K S.cl B φ' H' st->yd X.K S.cl B φ' H' z z'->Q z' H'
def zbZ{prog:A4}{w:Af}{A:Ag}{E:AG->AK->Prop}{s:AK}{t sl:AJ}{items:Array AG}{vl vu:AG}{lo hi:Option Int}{Q:AG->AK->Prop}(ht:Hr s.heap t items)(hs:s.heap.IsSliceOf sl vl vu .none)(pl:FI vl lo)(pu:FI vu hi)
  (hw:HT.sIx items.size 0 lo=0/\HT.sIx items.size items.size hi=items.size)
  (h:Q (.ref t) s):A2 (model prog w) A (getItem (.ref t) (.ref sl)) Q E s:=by
 let⟨os,hos,hcs,hds⟩:=id hs;have hTs:s.TypeIs (.ref sl) "slice":=⟨os,hos,hcs⟩;unfold getItem
 try with_reducible refine D6 ?_
 first|refine AI (AV ?_)|skip
 refine AI (G1 ht.typeIs ⋯ ?_);refine AI (B1 (name:=AE "__getitem__") ht.typeIs Aw
  (CU Aw ht.typeIs Fm ?_ (GN _ _)))
 show A2 _ _ (EJ (.ref t) >>= _) _ _ s;refine AI (DS ht ?_);refine AI (G2 hTs ?_);rw[if_pos ⋯];refine AI (HT.sliceApplied_gen hs pl pu ?_);have hyes:(((HT.sIx items.size 0 lo:Nat):Int)==0&&(1:Int)==1&&(HT.sIx items.size items.size hi-HT.sIx items.size 0 lo)==items.size)=true:=by
  rw[hw.1,hw.2];simp
 show A2 _ _ (if (((HT.sIx items.size 0 lo:Nat):Int)==0&&(1:Int)==1&&(HT.sIx items.size items.size hi-HT.sIx items.size 0 lo)==items.size)=AC then _ else _) _ _ s;rw[if_pos hyes];refine AI (AI (G2 ht.typeIs (AV ?_)));rw[if_pos ⋯]
 first
  |exact AI (AV (AV ⟨_,rfl,AV h⟩))
  |exact AI (FG (AV ⟨_,rfl,AV h⟩))
  |(wp_step;wp_step;exact⟨_,rfl,AV h⟩)
def yha(K:AF):V->Option Int->Option Int->Hp->VK->Prop:=λx lo hi H Q=>∃a xs,x=.ref a/\SqT K H a xs /\
 (HT.sIx xs.length 0 lo=0/\HT.sIx xs.length xs.length hi=xs.length)/\Q (.ref a) H
def zjB:SlR X (yha X.K):=by
 intro π s σ H x v vl vu lo hi sl Q I rx hs pl pu h;let⟨a,xs,rfl,hx,hw,q⟩:=h
 cases rx
 let⟨its,r,ht,hz⟩:=I.tuple hx;have hlen:its.toArray.size=xs.length:=by rw[AS];exact r.length.symm
 refine⟨"tuple",_,Aw.lookup,ht.typeIs,?_⟩;exact zbZ ht hs pl pu (by rw[hlen];exact hw) ⟨.ref a,H,I,rfl,q⟩
def yfK:V->Option Int->Option Int->Hp->VK->Prop:=λx lo hi H Q=>∃y:AL,x=.str y/\y.length<=sizeLine/\Q (.str ⟨((y.cps.toList.drop (HT.sIx y.cps.toList.length 0 lo)).take (HT.sIx y.cps.toList.length y.cps.toList.length hi-HT.sIx y.cps.toList.length 0 lo)).toArray⟩) H
def zqG(lo hi:Option Int)(n:Nat):Dw lo hi 1 n=sliceRange ((HT.sIx n 0 lo:Nat):Int) ((HT.sIx n n hi:Nat):Int) 1:=by
 unfold Dw;erw[show (1:Int) > 0 by decide,if_true]
 congr 1
 .cases lo with
  |none=>simp[HT.sIx]
  |some i=>
   erw[HT.sIx]
   by_cases h:i<0
   .simp only[h,if_true]<;>lia
   .simp only[h,if_false]<;>lia
 .cases hi with
  |none=>simp[HT.sIx]
  |some i=>
   erw[HT.sIx]
   by_cases h:i<0
   .simp only[h,if_true]<;>lia
   .simp only[h,if_false]<;>lia
def ziZ(y:AL)(lo hi:Option Int):Txt.slice y lo hi=⟨((y.cps.toList.drop (HT.sIx y.cps.toList.length 0 lo)).take (HT.sIx y.cps.toList.length y.cps.toList.length hi-HT.sIx y.cps.toList.length 0 lo)).toArray⟩:=by
 have hn:y.length=y.cps.toList.length:=by simp[Str.length]
 unfold Txt.slice;rw[zqG,hn,sliceRange_one];have ha:=HT.sIx_le y.cps.toList.length 0 (DB _) lo;have hb:=HT.sIx_le y.cps.toList.length y.cps.toList.length (AR _) hi;generalize HT.sIx y.cps.toList.length 0 lo=a,HT.sIx y.cps.toList.length y.cps.toList.length hi=b at *;split
 .rename_i c;erw[Ap,List.length_range,AH,beq_iff_eq]at c;obtain⟨rfl,rfl⟩:a=0/\b=y.cps.toList.length:=by lia
  rw[HZ,Nat.sub_zero,Gp]
 .rw[pick_run]
def zlz:SlR X yfK:=by
 intro π s σ H x v vl vu lo hi sl Q I rx hs pl pu h;let⟨y,rfl,hz,q⟩:=h;let⟨t,rfl⟩:=rx;rw[<-ziZ]at q;refine⟨"str",_,PySem.F.slot_str_getitem.lookup,HU _ _ _,?_⟩;have go:∀l u:Option (Int×Hq),vl=partValue l->vu=partValue u->lo=l.map (·.1)->hi=u.map (·.1)->A2 (model X.prog X.w) X.A (getItem (.str y t) (.ref sl)) (EP X π σ Q) X.xe s:=by
  rintro l u rfl rfl rfl rfl
  refine wpAny_getItem_str_slice (l:=l) (u:=u) (st:=AD) hs rfl ?_;exact post_val_or_str ⟨As (Txt.slice_le y _ _) hz,λt' k=>⟨.str _,H,I.tok k,⟨_,rfl⟩,q⟩⟩
 cases pl with
 |none=>
  cases pu with
  |none=>exact go AD AD rfl rfl rfl rfl
  |int j u=>exact go AD (AA (j,u)) rfl rfl rfl rfl
 |int i t1=>
  cases pu with
  |none=>exact go (AA (i,t1)) AD rfl rfl rfl rfl
  |int j u=>exact go (AA (i,t1)) (AA (j,u)) rfl rfl rfl rfl
def zmw:SlR X (rSl S X):=by
 rintro π s σ H x v vl vu lo hi sl Q I rx hs pl pu ⟨B,φ,st,w,z,rs,rw,e,q⟩
 have e1:∀n o,ycy n o=HT.sIx n 0 o:=λn o=>by cases o<;>rfl
 have e2:∀n o,ycQ n o=HT.sIx n n o:=λn o=>by cases o<;>rfl
 cases w with
 |tp k vs=>
  erw[ycl]at e;split at e
  .rename_i c
   cases e
   have rw':=rw;erw[yd]at rw;let⟨p,xs,rfl,rt,l⟩:=rw;refine zjB π s σ H _ v vl vu lo hi sl Q I rx hs pl pu ⟨p,xs,rfl,rt.sq,?_,q _ H φ .rfl rs rw'⟩;rw[l.length,e1,e2]at c;exact c
  .rename_i c
   cases e
   erw[yd]at rw;let⟨p,xs,rfl,rt,l⟩:=rw;refine znW π s σ H _ v vl vu lo hi sl Q I rx hs pl pu ⟨p,xs,rfl,rt.sq,?_,λt ht=>q _ _ φ (.upd ht) (rs.upd ht) (.tup_new ht rs (l.cut lo hi))⟩;rw[l.length,e1,e2]at c;exact c
 |str y=>
  erw[ycl]at e;split at e
  .rename_i c
   cases e
   erw[yd]at rw;subst rw;refine zlz π s σ H _ v vl vu lo hi sl Q I rx hs pl pu ⟨y,rfl,by rw[<-zA];exact c,?_⟩;have:=q (.str ⟨(cut y.cps.toList lo hi).toArray⟩) H φ .rfl rs (by erw[yd]);rw[cut,e1,e2]at this;exact this
  .cases e
 |lst vs=>
  erw[ycl]at e
  cases e
  erw[yd]at rw;let⟨p,xs,rfl,rt,l⟩:=rw;exact zhQ π s σ H _ v vl vu lo hi sl Q I rx hs pl pu ⟨p,xs,rfl,rt.sq,λt ht=>q _ _ φ (.upd ht) (rs.upd ht) (.lst_new ht rs (l.cut lo hi))⟩
 |scr vs=>
  erw[ycl]at e
  cases e
  erw[yd]at rw;let⟨p,xs,rfl,rt,l⟩:=rw;exact zhQ π s σ H _ v vl vu lo hi sl Q I rx hs pl pu ⟨p,xs,rfl,(by rcases rt with rt|rt;exact .inl rt.1;exact .inr rt),λt ht=>q _ _ φ (.upd ht) (rs.upd ht) (.lst_new ht rs (l.cut lo hi))⟩
 |_=>cases e
def zph{lo hi:Option AT}(ha:PE X a (tE S X ca))(hl:PO X lo (tO S X cb))(hh:PO X hi (tO S X cc)):PE X (.Subscript a (.Slice lo hi AD p2) pos) (tE S X (.slc ca cb cc)):=
 (zj9 zmw ha hl hh).imp λσ H Q ⟨B,φ,st,ρ,rs,re,h⟩=>by
  erw[ev]at h;have oi:∀{v:PV} {x:V} {o:Option Int} {B φ H},yd X.K S.cl B φ H v x->ybX v=AA o->(x=.non/\o=AD) \/ ∃i,x=.int i/\o=AA i:=λ{v x o B φ H} r e=>by
   cases v with
   |non=>erw[yd]at r;cases e;exact .inl ⟨r,rfl⟩
   |int i=>erw[yd]at r;cases e;exact .inr ⟨i,r,rfl⟩
   |_=>cases e
  refine tE.bind rs re h λx H1 v st1 φ1 s1 rs1 re1 rv h1=>tE.bind rs1 re1 h1 λy H2 w st2 φ2 s2 rs2 re2 rw h2=>?_
  cases eo:ybX w with
  |none=>rw[eo]at h2;exact h2.elim
  |some o1=>
   rw[eo]at h2;have key:tO S X cc σ H2 λu H3=>rSl S X x o1 u H3 Q:=by
    refine tE.bind rs2 re2 h2 λy' H3 w' st3 φ3 s3 rs3 re3 rw' h3=>?_;let⟨z,e,q⟩:=zU h3 rs3;unfold ycB at e
    cases eo':ybX w' with
    |none=>rw[eo']at e;cases e
    |some o2=>
     rw[eo']at e;have fin:rSl S X x o1 o2 H3 Q:=⟨B,φ3,st3,v,z,rs3,(rv.step s2).step s3,e,q⟩;rcases oi rw' eo' with⟨rfl,rfl⟩|⟨i,rfl,rfl⟩
     .exact .inl ⟨rfl,fin⟩
     .exact .inr ⟨i,rfl,fin⟩
   rcases oi rw eo with⟨rfl,rfl⟩|⟨i,rfl,rfl⟩
   .exact .inl ⟨rfl,key⟩
   .exact .inr ⟨i,rfl,key⟩
end
section
variable {S:Se}{X:Cx}{σ:St}{B:AJ->Prop}{φ φ1:Ph}{H H1:Hp}{st:SO}{ρ:IC.Env}{p pos p2:CB}{a b c d:AT}{ca cb cc:Ce}{es:List AT}{ces:Ces}{K:AF}{cl:Nat->AJ}
def rB(S:Se)(X:Cx)(k:Blt):List V->Hp->VK->Prop:=λxs H Q=>∃B φ st vs z,yu X.K S.cl B φ H st/\ye X.K S.cl B φ H vs xs/\yam k st vs=AA z /\
 ∀z' H' φ',Step φ H φ' H'->yu X.K S.cl B φ' H' st->yd X.K S.cl B φ' H' z z'->Q z' H'
theorem ye.one{v:PV}{xs:List V}(l:ye K cl B φ H [v] xs):∃x,xs=[x]/\yd K cl B φ H v x:=by
 erw[ye]at l;let⟨y,ys,rfl,r,rfl⟩:=l;exact⟨y,rfl,r⟩
theorem ye.two{v w:PV}{xs:List V}(l:ye K cl B φ H [v,w] xs):∃x y,xs=[x,y]/\yd K cl B φ H v x/\yd K cl B φ H w y:=by
 erw[ye]at l;let⟨y,ys,rfl,r,z,zs,rfl,r2,rfl⟩:=l;exact⟨y,z,rfl,r,r2⟩
def zbX{k:Blt}{st:SO}{vs:List PV}{z:PV}(h:yam k st vs=AA z)(h2:∀x y,yam k st [x,y]=AD):∃x,vs=[x]:=by
 match vs,h with
 |[x],_=>exact⟨x,rfl⟩
 |[x,y],h=>rw[h2]at h;cases h
def zbv{v:PV}{x:V}{vs:List PV}(rs:yu K cl B φ H st)(r:yd K cl B φ H v x)(h:yJ st v=AA vs):∃a xs,x=.ref a/\SqL K H a xs/\ye K cl B φ H vs xs:=by
 cases v with
 |lst ws=>
  cases h
  erw[yd]at r;let⟨a,xs,rfl,rt,l⟩:=r;exact⟨a,xs,rfl,rt.sq,l⟩
 |loc n=>
  erw[yJ]at h;split at h
  .rename_i ws hw
   cases h
   let⟨a,xs,rfl,_,hx,l⟩:=rs.list r hw;exact⟨a,xs,rfl,.of hx,l⟩
  .cases h
 |_=>cases h
def zgm{v:PV}{x:V}{vs:List PV}(rs:yu K cl B φ H st)(r:yd K cl B φ H v x)(h:ya2 st v=AA vs):∃a xs,x=.ref a/\(SqL K H a xs \/ SqT K H a xs)/\ye K cl B φ H vs xs:=by
 cases v with
 |tp k ws=>
  cases h
  erw[yd]at r;let⟨a,xs,rfl,rt,l⟩:=r;exact⟨a,xs,rfl,.inr rt.sq,l⟩
 |lst ws=>
  let⟨a,xs,e,q,l⟩:=zbv rs r (vs:=vs) h;exact⟨a,xs,e,.inl q,l⟩
 |loc n=>
  let⟨a,xs,e,q,l⟩:=zbv rs r (vs:=vs) h;exact⟨a,xs,e,.inl q,l⟩
 |_=>cases h
def zoN:yQ X (.builtin "len") (rB S X .len):=by
 rintro π s σ H xs us Q I r ⟨B,φ,st,vs,z,rs,l,e,q⟩
 let⟨v,rfl⟩:=zbX e λ_ _=>rfl;let⟨x,rfl,rv⟩:=l.one;erw[yam,lenV]at e;split at e
 .rename_i t;split at e
  .rename_i c
   cases e
   erw[yd]at rv;subst rv;exact zfv π s σ H _ us Q I r ⟨t,rfl,by rw[<-zA];exact c,q _ H φ .rfl rs (by erw[yd])⟩
  .cases e
 .cases e1:ya2 st v with
  |none=>rw[e1]at e;cases e
  |some ws=>
   rw[e1]at e
   cases e
   let⟨a,ys,rfl,h,l⟩:=zgm rs rv e1;refine zfe π s σ H _ us Q I r ⟨a,ys,rfl,?_,q _ H φ .rfl rs (by erw[yd];rw[l.length])⟩;exact h
def zoS:yQ X (.type "int") (rB S X .int):=by
 rintro π s σ H xs us Q I r ⟨B,φ,st,vs,z,rs,l,e,q⟩
 let⟨v,rfl⟩:=zbX e λ_ _=>rfl;let⟨x,rfl,rv⟩:=l.one;erw[yam]at e
 cases v with
 |int i=>
  cases e
  erw[yd]at rv;subst rv;exact zfb π s σ H _ us Q I r (.inl ⟨i,rfl,q _ H φ .rfl rs (by erw[yd])⟩)
 |bl k=>
  cases e
  erw[yd]at rv;subst rv;exact zfb π s σ H _ us Q I r (.inr ⟨k,rfl,q _ H φ .rfl rs (by erw[yd,bi])⟩)
 |_=>cases e
def zn5:yQ X (.builtin "abs") (rB S X .abs):=by
 rintro π s σ H xs us Q I r ⟨B,φ,st,vs,z,rs,l,e,q⟩
 let⟨v,rfl⟩:=zbX e λ_ _=>rfl;let⟨x,rfl,rv⟩:=l.one;erw[yam]at e
 cases v with
 |int i=>
  cases e
  erw[yd]at rv;subst rv;exact zjK π s σ H _ us Q I r ⟨i,rfl,q _ H φ .rfl rs (by erw[yd])⟩
 |_=>cases e
def zkL:∀{vs:List PV} {m:Int},ydr vs=AA m->∃ns:List Int,vs=ns.map .int/\m∈ns/\∀a∈ns,a<=m
 |[],m,h=>by cases h
 |[.int i],m,h=>by cases h;exact⟨[i],rfl,by simp,by simp⟩
 |.int i::w::r,m,h=>by
  erw[ydr]at h;split at h
  .rename_i c e
   cases h
   let⟨ns,e1,e2,e3⟩:=zkL e;refine⟨i::ns,by rw[e1];rfl,?_,λa ha=>?_⟩
   .split
    .exact AQ _ e2
    .exact A8
   .rcases AX.mp ha with rfl|ha
    .split<;>lia
    .have:=e3 a ha;split<;>lia
  .cases h
 |.non::r,m,h=>by cases r<;>cases h
 |.bl _::r,m,h=>by cases r<;>cases h
 |.str _::r,m,h=>by cases r<;>cases h
 |.tp _ _::r,m,h=>by cases r<;>cases h
 |.lst _::r,m,h=>by cases r<;>cases h
 |.loc _::r,m,h=>by cases r<;>cases h
 |.fnc _::r,m,h=>by cases r<;>cases h
 |.exn _::r,m,h=>by cases r<;>cases h
 |.scr _::r,m,h=>by cases r<;>cases h
theorem ye.ints:∀{ns:List Int} {xs:List V},ye K cl B φ H (ns.map .int) xs->xs=ns.map V.int
 |[],xs,h=>by simpa only[BY,ye] using h
 |n::ns,xs,h=>by
  erw[AU,ye]at h;let⟨y,ys,rfl,r,l⟩:=h;erw[yd]at r;rw[r,ye.ints l];rfl
theorem ye.bls:∀{ns:List Bool} {xs:List V},ye K cl B φ H (ns.map .bl) xs->xs=ns.map V.bl
 |[],xs,h=>by simpa only[BY,ye] using h
 |n::ns,xs,h=>by
  erw[AU,ye]at h;let⟨y,ys,rfl,r,l⟩:=h;erw[yd]at r;rw[r,ye.bls l];rfl
def zmg{v w z:PV}(e:maxV v w=AA z):∃i j,v=.int i/\w=.int j/\z=.int (if i<j then j else i):=by
 unfold maxV at e;split at e
 .exact⟨_,_,rfl,rfl,(AY e).symm⟩
 .cases e
def zoM(hc:X.calm=AC):yQ X (.builtin "max") (rB S X .max):=by
 rintro π s σ H xs us Q I r ⟨B,φ,st,vs,z,rs,l,e,q⟩
 rcases vs with _|⟨v,_|⟨w,_|⟨u',t⟩⟩⟩
 .simp[yam]at e
 .let⟨x,rfl,rv⟩:=l.one;erw[yam]at e
  cases e1:yJ st v with
  |none=>rw[e1]at e;cases e
  |some ws=>
   rw[e1]at e;erw[BB]at e
   cases e2:ydr ws with
   |none=>rw[e2]at e;cases e
   |some m=>
    rw[e2]at e;obtain rfl:=AY e;let⟨ns,rfl,hm,hb⟩:=zkL e2;let⟨a,ys,rfl,h,l⟩:=zbv rs rv e1;rw[l.ints]at h;refine zio hc π s σ H _ us Q I r ⟨a,ns,rfl,h,List.length_pos_of_mem hm,λM h1 h2=>?_⟩;have:M=m:=by
     have:=hb M h1;have:=h2 m hm;lia
    subst this;exact q _ H φ .rfl rs (by erw[yd])
 .let⟨x,y,rfl,rv,rw⟩:=l.two;have e:maxV v w=AA z:=e;let⟨i,j,rfl,rfl,rfl⟩:=zmg e;erw[yd]at rv rw;subst rv rw;exact zhO hc π s σ H _ us Q I r ⟨i,j,rfl,q (.int (if i<j then j else i)) H φ .rfl rs (by erw[yd])⟩
 .simp[yam]at e
def zjZ:yQ X (.type "tuple") (rB S X .tuple):=by
 rintro π s σ H xs us Q I r ⟨B,φ,st,vs,z,rs,l,e,q⟩
 let⟨v,rfl⟩:=zbX e λ_ _=>rfl;let⟨x,rfl,rv⟩:=l.one;erw[yam,yfl]at e;split at e
 .cases e
  erw[yd]at rv;let⟨a,ys,rfl,rt,l⟩:=rv;exact zcd π s σ H _ us Q I r ⟨a,ys,rfl,.inr ⟨rt.sq,q _ H φ .rfl rs (by erw[yd];exact⟨a,ys,rfl,rt,l⟩)⟩⟩
 .cases e1:yJ st v with
  |none=>rw[e1]at e;cases e
  |some ws=>
   rw[e1]at e
   cases e
   let⟨a,ys,rfl,h,l⟩:=zbv rs rv e1;exact zcd π s σ H _ us Q I r ⟨a,ys,rfl,.inl ⟨h,λt ht=>q _ _ φ (.upd ht) (rs.upd ht) (.tup_new ht rs l)⟩⟩
def zkJ:∀{vs:List PV} {m:Bool},IC.allB vs=AA m->∃ns:List Bool,vs=ns.map .bl/\m=ns.all id
 |[],m,h=>by cases h;exact⟨[],rfl,rfl⟩
 |.bl i::r,m,h=>by
  erw[IC.allB]at h;split at h
  .rename_i c e
   cases h
   let⟨ns,e1,e2⟩:=zkJ e;exact⟨i::ns,by rw[e1];rfl,by rw[e2];rfl⟩
  .cases h
 |.non::r,m,h=>by cases h
 |.int _::r,m,h=>by cases h
 |.str _::r,m,h=>by cases h
 |.tp _ _::r,m,h=>by cases h
 |.lst _::r,m,h=>by cases h
 |.loc _::r,m,h=>by cases h
 |.fnc _::r,m,h=>by cases h
 |.exn _::r,m,h=>by cases h
 |.scr _::r,m,h=>by cases h
def zpn(hc:X.calm=AC):yQ X (.builtin "all") (rB S X .all):=by
 rintro π s σ H xs us Q I r ⟨B,φ,st,vs,z,rs,l,e,q⟩
 let⟨v,rfl⟩:=zbX e λ_ _=>rfl;let⟨x,rfl,rv⟩:=l.one;erw[yam]at e
 cases e1:yJ st v with
 |none=>rw[e1]at e;cases e
 |some ws=>
  rw[e1]at e;erw[BB]at e
  cases e2:IC.allB ws with
  |none=>rw[e2]at e;cases e
  |some m=>
   rw[e2]at e
   cases e
   let⟨ns,rfl,rfl⟩:=zkJ e2;let⟨a,ys,rfl,h,l⟩:=zbv rs rv e1;rw[l.bls]at h;exact zjm hc π s σ H _ us Q I r ⟨a,ns,rfl,h,q _ H φ .rfl rs (by erw[yd])⟩
variable {x:AL}{id T:String}{k:Blt}
def znH(hc:yQ X (.builtin id) (rB S X k))(hg:Gl X x)(hm:X.mg x=AD)(hv:bootBuiltins x=AA (.builtin id))(ha:PA X (a::es) (tAs S X ces))(hn:x ≠ "__name__":=by decide)(hdb:(x==("__debug__":AL))=false:=by decide)
  (he:starEach (a::es) X.env=(AB,eval a X.env)::starEach es X.env:=by rfl) (hpl:(backTo pos (starEach es X.env)).any (·.1)=false:=by rfl):PE X (.Call (.Name x p) (a::es) [] pos) (tE S X (.blt k ces)):=
 (zcZ hc hg hm hv ha hn hdb he hpl).imp λσ H Q ⟨B,φ,st,ρ,rs,re,h⟩=>by
  erw[ev]at h;refine tAs.bind rs re h λxs H1 vs st1 φ1 s1 rs1 re1 rv h1=>?_;let⟨z,e,q⟩:=zU h1 rs1;exact⟨B,φ1,st1,vs,z,rs1,rv,e,q⟩
def zlp(hc:yQ X (.type T) (rB S X k))(hg:Gl X x)(hm:X.mg x=AD)(hv:bootBuiltins x=AA (.type T))(ha:PA X (a::es) (tAs S X ces))(hn:x ≠ "__name__":=by decide)(hdb:(x==("__debug__":AL))=false:=by decide)
  (he:starEach (a::es) X.env=(AB,eval a X.env)::starEach es X.env:=by rfl) (hpl:(backTo pos (starEach es X.env)).any (·.1)=false:=by rfl):PE X (.Call (.Name x p) (a::es) [] pos) (tE S X (.blt k ces)):=
 (zfc hc hg hm hv ha hn hdb he hpl).imp λσ H Q ⟨B,φ,st,ρ,rs,re,h⟩=>by
  erw[ev]at h;refine tAs.bind rs re h λxs H1 vs st1 φ1 s1 rs1 re1 rv h1=>?_;let⟨z,e,q⟩:=zU h1 rs1;exact⟨B,φ1,st1,vs,z,rs1,rv,e,q⟩
end
section
variable {S:Se}{X:Cx}{σ:St}{B:AJ->Prop}{φ φ1:Ph}{H H1:Hp}{st:SO}{ρ:IC.Env}{p pos p2 apos:CB}{a b c d:AT}{ca cb cc:Ce}{es:List AT}{ces:Ces}{K:AF}{cl:Nat->AJ}
theorem Step.put{l:AJ}{u:HO}(hl:AA l∈φ):Step φ H φ (L2.upd H l u):=
 ⟨λb o n e=>by rw[zd (show b≠l from λz=>n (by rw[z];exact hl))];exact e,AR _,λ_ _ _ e=>e,λ_ h=>.inl h⟩
theorem yu.put{n:Nat}{l:AJ}{u:HO}{o:Ob}(rs:yu K cl B φ H st)(hn:φ[n]?=AA (AA l))(ho:yb4 K cl B φ (L2.upd H l u) o l):yu K cl B φ (L2.upd H l u) (st.set n o):=by
 have hm:AA l∈φ:=AW hn;have s:Step φ H φ (L2.upd H l u):=.put hm;have hlt:n<st.length:=by rw[<-rs.len];exact(Am.mp hn).1
 refine⟨by rw[BR];exact rs.len,rs.inj,λm a e=>?_,λm o' e ho'=>?_,rs.nb,λa h=>?_⟩
 .by_cases hmn:m=n
  .subst hmn;rw[hn]at e;cases e;exact⟨o,by rw[A5 hlt],ho⟩
  .let⟨o',q,r⟩:=rs.obj m a e;refine⟨o',by rw[AN (Au hmn)];exact q,r.step s ?_⟩;rw[zd]
   rintro rfl
   exact hmn (rs.inj m n a e hn)
 .by_cases hmn:m=n
  .subst hmn;exact⟨l,hn⟩
  .rw[AN (Au hmn)]at e;exact rs.liv m o' e ho'
 .let⟨w,e⟩:=rs.dom a h
  by_cases z:a=l
  .subst z;exact⟨u,zm⟩
  .exact⟨w,by rw[zd z];exact e⟩
def zlR:1000000<=sizeLine:=by rw[BP];decide
def zcI{m:Mth}{v:PV}{st:SO}{α β:Type}{Rel:Ph->Hp->α->β->Prop}{k:Bool->R α}{Q:β->Hp->Prop}(h:Run S X σ B φ H Rel (onO (yav m st v) k) Q):∃b,yav m st v=AA b/\Run S X σ B φ H Rel (k b) Q:=by
 cases e:yav m st v with
 |none=>rw[e]at h;exact h.elim
 |some z=>rw[e]at h;exact⟨z,rfl,h⟩
def zhC(ha:PE X a (tE S X ca))(hb:PE X b (tE S X cb))(hs:starEach [b] X.env=[(AB,eval b X.env)]:=by rfl)(hbase:attributeBase a "append" X.env (eval a X.env)=eval a X.env:=by rfl)(hline:(apos.endLine==pos.line)=true:=by rfl)
  (hfew:((backTo pos (starEach [b] X.env)).all (λx=>!x.1)&&(backToKw pos (keywordEach [] X.env)).all (λx=>x.1.isSome)&&decide (([b]:List AT).length+([]:List B8).length+(if ([]:List B8).isEmpty then 0 else 1)<30))=true:=by rfl):
  PE X (.Call (.Attribute a "append" apos) [b] [] pos) (tE S X (.mth .append ca (.cons cb .nil))):=
 (zkw Bm FX PySem.F.type_list_append zeW ha (za9 (S:=S) hb zdL hs) hbase hfew hline hs rfl).imp λσ H Q ⟨B,φ,st,ρ,rs,re,h⟩=>by
  erw[ev]at h;refine tE.bind rs re h λx H1 v st1 φ1 s1 rs1 re1 rv h1=>?_;let⟨_,e1,h1⟩:=zcI h1;have t1:∃ws,yJ st1 v=AA ws:=by
   erw[yav]at e1
   cases q:yJ st1 v with
   |none=>rw[q]at e1;cases e1
   |some ws=>exact⟨ws,rfl⟩
  let⟨ws,t1⟩:=t1;let⟨l,xs,rfl,hl,_⟩:=zbv rs1 rv t1;refine⟨.inl ⟨rfl,xs,hl⟩,tAs.bind rs1 re1 h1 λys H2 vs st2 φ2 s2 rs2 re2 rvs h2=>?_⟩;have rv2:=rv.step s2;rcases vs with _|⟨w,_|⟨w',t⟩⟩
  .exact h2.elim
  .let⟨y,rfl,rw⟩:=rvs.one;unfold ybU at h2;erw[yd0]at h2;split at h2
   .rename_i n;split at h2
    .rename_i zs hz;split at h2
     .rename_i c;let⟨l',xs',e,hn,hx,lr⟩:=rs2.list rv2 hz
      cases e
      refine⟨l,xs',y,rfl,rfl,hx,by have:=zlR;have:=lr.length;lia,?_⟩;exact h2 _ _ φ2 (.put (AW hn)) (rs2.put hn ⟨_,zm,(lr.append (by erw[ye];exact⟨y,[],rfl,rw,rfl⟩)).step (.put (AW hn))⟩) (by erw[yd])
     .exact h2.elim
    .exact h2.elim
   .exact h2.elim
  .exact h2.elim
def zo9(ha:PE X a (tE S X ca)):PE X a (tE S X (.frz ca)):=
 ha.imp λσ H Q ⟨B,φ,st,ρ,rs,re,h⟩=>by
  erw[ev]at h;refine tE.bind rs re h λx H1 v st1 φ1 s1 rs1 re1 rv h1=>?_;unfold ydu at h1;split at h1
  .rename_i n;split at h1
   .rename_i vs hv;let⟨l,xs,rfl,hn,hx,lr⟩:=rs1.list rv hv;have hm:AA l∈φ1:=AW hn;have hlt:n<φ1.length:=(Am.mp hn).1;have nl:AA l∉φ1.set n none:=λz=>by
     let⟨m,e⟩:=DX.mp z
     by_cases hmn:m=n
     .subst hmn;rw[A5 hlt]at e;cases e
     .rw[AN (Au hmn)]at e;exact hmn (rs1.inj m n l e hn)
    have sb:∀b,AA b∈φ1.set n AD->AA b∈φ1:=λb z=>by
     let⟨m,e⟩:=DX.mp z
     by_cases hmn:m=n
     .subst hmn;rw[A5 hlt]at e;cases e
     .rw[AN (Au hmn)]at e;exact AW e
    have s:Step φ1 H1 (φ1.set n AD) H1:=⟨λ_ _ _ e=>e,by simp,λm a hm' e=>by
     by_cases hmn:m=n
     .subst hmn;rw[A5 hlt]at e;cases e
     .rw[AN (Au hmn)]at e;exact e,λb z=>.inl (sb b z)⟩
    refine h1 _ H1 (φ1.set n AD) s ⟨by simp[rs1.len],λm k a e1 e2=>?_,λm a e=>?_,λm o e ho=>?_,λa z=>rs1.nb a (sb a z),rs1.dom⟩ ?_
    .by_cases h1':m=n
     .subst h1';rw[A5 hlt]at e1;cases e1
     .by_cases h2':k=n
      .subst h2';rw[A5 hlt]at e2;cases e2
      .rw[AN (Au h1')]at e1;rw[AN (Au h2')]at e2;exact rs1.inj m k a e1 e2
    .by_cases hmn:m=n
     .subst hmn;rw[A5 hlt]at e;cases e
     .rw[AN (Au hmn)]at e;let⟨o,q,r⟩:=rs1.obj m a e;exact⟨o,by rw[AN (Au hmn)];exact q,r.step s rfl⟩
    .by_cases hmn:m=n
     .subst hmn;rw[A5 (by rw[<-rs1.len];exact hlt)]at e;cases e;exact absurd rfl ho
     .rw[AN (Au hmn)]at e ⊢;exact rs1.liv m o e ho
    .simp only[yd];exact⟨l,xs,rfl,⟨hx,rs1.nb l hm,nl⟩,lr.step s⟩
   .exact h1.elim
  .exact h1.ok rs1 rv
end
section
variable (S:Se)(X:Cx)
def yag(B:AJ->Prop)(φ:Ph)(H:Hp)(f:Fl)(D:Ends):Prop:=
 match f with
 |.nx ρ' st'=>∀σ' H' φ',Step φ H φ' H'->yu X.K S.cl B φ' H' st'->yH X.K S.cl B φ' H' ρ' σ'->D.nx σ' H'
 |.rt v st'=>∀x H' φ',Step φ H φ' H'->yu X.K S.cl B φ' H' st'->yd X.K S.cl B φ' H' v x->D.rt x H'
 |.bk ρ' st'=>∀σ' H' φ',Step φ H φ' H'->yu X.K S.cl B φ' H' st'->yH X.K S.cl B φ' H' ρ' σ'->D.bk σ' H'
 |.ct ρ' st'=>∀σ' H' φ',Step φ H φ' H'->yu X.K S.cl B φ' H' st'->yH X.K S.cl B φ' H' ρ' σ'->D.ct σ' H'
 |.exc k ρ' st'=>∀σ' φ1 H1 e s',Step φ H φ1 H1->yH X.K S.cl B φ1 H1 ρ' σ'->ExcAt S X σ' B φ1 H1 k st' e s'->X.xe e s'
 |.bad=>False
def tS(c:Cs):TS:=λD σ H=>∃B φ st ρ,yu X.K S.cl B φ H st/\yH X.K S.cl B φ H ρ σ/\yag S X B φ H (ex S.call ρ st c) D
def tSs(c:Css):TS:=λD σ H=>∃B φ st ρ,yu X.K S.cl B φ H st/\yH X.K S.cl B φ H ρ σ/\yag S X B φ H (exs S.call ρ st c) D
end
section
variable {S:Se}{X:Cx}{σ:St}{B:AJ->Prop}{φ φ1:Ph}{H H1:Hp}{st:SO}{ρ:IC.Env}{D:Ends}{pos p2 px:CB}{a b c o:AT}{ca cb cc:Ce}{s1:B9}{ss ss':List B9}{c1:Cs}{cs cs':Css}
theorem yag.on{f:Fl}(s:Step φ H φ1 H1)(h:yag S X B φ H f D):yag S X B φ1 H1 f D:=by
 cases f with
 |nx ρ st=>exact λσ' H' φ' t=>h σ' H' φ' (s.trans t)
 |rt ρ st=>exact λσ' H' φ' t=>h σ' H' φ' (s.trans t)
 |bk ρ st=>exact λσ' H' φ' t=>h σ' H' φ' (s.trans t)
 |ct ρ st=>exact λσ' H' φ' t=>h σ' H' φ' (s.trans t)
 |exc k ρ st=>exact λσ' φ2 H2 e s' t=>h σ' φ2 H2 e s' (s.trans t)
 |bad=>exact h
theorem tE.fl{k:PV->SO->Fl}{P:V->Hp->Prop}(rs:yu X.K S.cl B φ H st)(re:yH X.K S.cl B φ H ρ σ)(h:yag S X B φ H ((ev S.call ρ st ca).fl ρ k) D)
  (n:∀x H1 v st1 φ1,Step φ H φ1 H1->yu X.K S.cl B φ1 H1 st1->yH X.K S.cl B φ1 H1 ρ σ->yd X.K S.cl B φ1 H1 v x->yag S X B φ1 H1 (k v st1) D->P x H1):tE S X ca σ H P:=by
 refine⟨B,φ,st,ρ,rs,re,?_⟩
 cases e:ev S.call ρ st ca with
 |ok v st'=>
  rw[e]at h;exact λx H' φ' s rs' rv=>n x H' v st' φ' s rs' (re.step s) rv (h.on s)
 |exc k st'=>
  rw[e]at h;exact λe s' x=>h σ φ H e s' .rfl re x
 |bad=>rw[e]at h;exact h
theorem PS.imp{t t':TS}(h:PS X s1 t')(k:∀D σ H,t D σ H->t' D σ H):PS X s1 t:=λπ s σ H D I q=>h π s σ H D I (k D σ H q)
theorem PSs.imp{t t':TS}(h:PSs X ss t')(k:∀D σ H,t D σ H->t' D σ H):PSs X ss t:=λπ s σ H D I q=>h π s σ H D I (k D σ H q)
theorem yH.set{K:AF}{cl:Nat->AJ}(r:yH K cl B φ H ρ σ)(i:Nat){v:PV}{x:V}(rv:yd K cl B φ H v x):yH K cl B φ H (ρ.set i (AA v)) (σ.set i (AA x)):=by
 refine⟨by rw[BR,BR];exact r.len,λj w e=>?_⟩
 by_cases h:j=i
 .subst h
  by_cases hl:j<ρ.length
  .rw[A5 hl]at e
   cases e
   exact⟨x,by rw[A5 (by rw[<-r.len];exact hl)],rv⟩
  .rw[BN (by rw[BR];lia)]at e
   cases e
 .rw[AN (Au h)]at e ⊢;exact r.get j w e
def znY:PSs X [] (tSs S X .nil):=zqu.imp λD σ H ⟨B,φ,st,ρ,rs,re,h⟩=>by
 erw[exs]at h;exact h σ H φ .rfl rs re
def zmx(h1:PS X s1 (tS S X c1))(h2:PSs X ss (tSs S X cs)):PSs X (s1::ss) (tSs S X (.cons c1 cs)):=
 (zf4 h1 h2).imp λD σ H ⟨B,φ,st,ρ,rs,re,h⟩=>by
  erw[exs]at h;refine⟨B,φ,st,ρ,rs,re,?_⟩
  cases e:ex S.call ρ st c1 with
  |nx ρ1 st1=>
   rw[e]at h;exact λσ' H' φ' s rs' re'=>⟨B,φ',st1,ρ1,rs',re',h.on s⟩
  |rt v st1=>rw[e]at h;exact h
  |bk ρ1 st1=>rw[e]at h;exact h
  |ct ρ1 st1=>rw[e]at h;exact h
  |exc k ρ1 st1=>rw[e]at h;exact h
  |bad=>rw[e]at h;exact h
def zng(he:PE X a (tE S X ca))(hs:swapsWith a AD pos.line X.env=pure false:=by rfl):PS X (.Expr a pos) (tS S X (.expr ca)):=
 (zm0 he hs).imp λD σ H ⟨B,φ,st,ρ,rs,re,h⟩=>by
  erw[ex]at h;exact tE.fl rs re h λx H1 v st1 φ1 s rs1 re1 rv h1=>h1 σ H1 φ1 .rfl rs1 re1
def zos(he:PE X a (tE S X ca)):PS X (.Return (AA a) pos) (tS S X (.ret ca)):=
 (zkY he).imp λD σ H ⟨B,φ,st,ρ,rs,re,h⟩=>by
  erw[ex]at h;exact tE.fl rs re h λx H1 v st1 φ1 s rs1 re1 rv h1=>h1 x H1 φ1 .rfl rs1 rv
def zmH:PS X (.Return AD pos) (tS S X (.ret (.cst .non))):=
 zqv.imp λD σ H ⟨B,φ,st,ρ,rs,re,h⟩=>by
  erw[ex,ev,R.fl]at h;exact h .non H φ .rfl rs (by erw[yd])
def zoh{i:Nat}{x:AL}(hN:X.N.Nodup)(hi:X.N[i]?=AA x)(hx:Loc X.env.scope x)(he:PE X a (tE S X ca))(hs:swapsWith a (AA (.Name x px)) pos.line X.env=pure false:=by rfl)
  (hf:X.fn x=AC \/ X.env.scope.names.lookup x=AA .local:=by first|exact .inl rfl|exact .inr rfl|assumption):PS X (.Assign [.Name x px] a pos) (tS S X (.asg (.n i) ca)):=
 (zlh hN hi hx he hs hf).imp λD σ H ⟨B,φ,st,ρ,rs,re,h⟩=>by
  erw[ex]at h;exact tE.fl rs re h λx H1 v st1 φ1 s rs1 re1 rv h1=>h1 _ H1 φ1 .rfl rs1 (re1.set i rv)
theorem flT(r:R PV)(f:Bool->SO->Fl):(r.fl ρ λx st1=>onF (yaD st1 x) λk=>f k st1)=(yaO r).fl ρ f:=by
 cases r with
 |ok v s=>
  erw[R.fl,yaO,R.bind]
  cases yaD s v<;>rfl
 |exc c s=>rfl
 |bad=>rfl
theorem tTs.fl{k:Bool->SO->Fl}{P:Bool->Hp->Prop}(rs:yu X.K S.cl B φ H st)(re:yH X.K S.cl B φ H ρ σ)(h:yag S X B φ H ((yaO (ev S.call ρ st ca)).fl ρ k) D)
  (n:∀b H1 st1 φ1,Step φ H φ1 H1->yu X.K S.cl B φ1 H1 st1->yH X.K S.cl B φ1 H1 ρ σ->yag S X B φ1 H1 (k b st1) D->P b H1):tTs S X ca σ H P:=by
 refine⟨B,φ,st,ρ,rs,re,?_⟩
 cases e:yaO (ev S.call ρ st ca)with
 |ok v st'=>
  rw[e]at h;exact λx H' φ' s rs' rv=>by
   subst rv;exact n v H' st' φ' s rs' (re.step s) (h.on s)
 |exc k st'=>
  rw[e]at h;exact λe s' x=>h σ φ H e s' .rfl re x
 |bad=>rw[e]at h;exact h
def zqm(hc:PT X c (tTs S X cc))(ha:PSs X ss (tSs S X cs))(hb:PSs X ss' (tSs S X cs')):PS X (.If c ss ss' pos) (tS S X (.ite cc cs cs')):=
 (zp9 hc ha hb).imp λD σ H ⟨B,φ,st,ρ,rs,re,h⟩=>by
  erw[ex]at h;rw[flT _ λk st1=>cond k (exs S.call ρ st1 cs) (exs S.call ρ st1 cs')]at h;refine tTs.fl rs re h λk H1 st1 φ1 s rs1 re1 h1=>?_
  cases k with
  |true=>exact⟨B,φ1,st1,ρ,rs1,re1,h1⟩
  |false=>exact⟨B,φ1,st1,ρ,rs1,re1,h1⟩
def zoG{i:Nat}{x:AL}{op:Da}{bo:BOp}(hN:X.N.Nodup)(hi:X.N[i]?=AA x)(hx:Loc X.env.scope x)(he:PE X a (tE S X ca))(ho:PIp X op (rT2 S X (ybA bo)))
  (hf:X.fn x=AC \/ X.env.scope.names.lookup x=AA .local:=by first|exact .inl rfl|exact .inr rfl|assumption) (hd:(x==("__debug__":AL))=false:=by decide) (hcd:(x==("__classdict__":AL))=false:=by decide):PS X (.AugAssign (.Name x px) op a pos) (tS S X (.aug i bo ca)):=
 (zkF hN hi hx he ho hf).imp λD σ H ⟨B,φ,st,ρ,rs,re,h⟩=>by
  erw[ex]at h
  cases q:ρ[i]? with
  |none=>rw[q]at h;exact h.elim
  |some w=>
   cases w with
   |none=>rw[q]at h;exact h.elim
   |some w=>
    rw[q]at h;let⟨y,hy,rw⟩:=re.get i w q;refine⟨y,hy,tE.fl rs re h λz H1 v st1 φ1 s rs1 re1 rv h1=>?_⟩
    cases e:ybA bo w v with
    |none=>rw[e]at h1;exact h1.elim
    |some u=>
     rw[e]at h1;exact⟨B,φ1,st1,w,v,u,rs1,rw.step s,rv,e,λz' H' φ' s' rs' rz=>h1 _ H' φ' s' rs' ((re1.step s').set i rz)⟩
end
section
variable (S:Se)(X:Cx)
structure Drw(B:AJ->Prop)(φ0:Ph)(H0:Hp)(xs:List PV)(J:It):Prop where
 stop:∀φ H,Step φ0 H0 φ H->J.stop xs.length H
 go:∀(i:Nat) φ H,Step φ0 H0 φ H->i<xs.length->J.go i H
 yld:∀(i:Nat) φ H st x H' (B':AJ->Prop),(∀y,B' y->B y \/ H0 y=AD)->Step φ0 H0 φ H->yu X.K S.cl B' φ H st->i<xs.length->J.yld i H x H'->∃v,xs[i]?=AA v/\yd X.K S.cl B' φ H' v x/\∀b o,H b=AA o->H' b=AA o
abbrev RD(B:AJ->Prop):Ph->Hp->List PV->It->Prop:=λφ H=>Drw S X B φ H
def tI(c:Cit):TI:=λσ H R=>∃B φ st ρ,yu X.K S.cl B φ H st/\yH X.K S.cl B φ H ρ σ/\Run S X σ B φ H (RD S X B) (evi S.call ρ st c) R
end
section
variable {S:Se}{X:Cx}{σ:St}{B:AJ->Prop}{φ φ1:Ph}{H H1:Hp}{st:SO}{ρ:IC.Env}{D:Ends}{pos p p2 px:CB}{a b c o tg l:AT}{ca cb cc:Ce}{es:List AT}{ces:Ces}{ss:List B9}{cs:Css}{ci:Cit}{ct:Tg}
def zlV:PE X a (tE S X .nope):=λπ s σ H Q I ⟨B,φ,st,ρ,rs,re,h⟩=>by
 erw[ev]at h;exact h.elim
def zmW{s1:B9}:PS X s1 (tS S X .nope):=λπ s σ H D I ⟨B,φ,st,ρ,rs,re,h⟩=>by
 erw[ex]at h;exact h.elim
theorem PI.imp{t t':TI}(h:PI X tg l t')(k:∀σ H R,t σ H R->t' σ H R):PI X tg l t:=λπ s σ H R I q=>h π s σ H R I (k σ H R q)
def zor{tl:TE}(hl:PE X l tl):PI X tg l (λσ H R=>tl σ H λx H1=>∃a,x=.ref a/\(((∃xs,SqL X.K H1 a xs)/\R (Itl X.K a) H1) \/ ((∃xs,SqT X.K H1 a xs)/\R (Itt X.K a) H1))):=by
 intro π s σ H R I h;refine thn (hl π s σ H _ I h) λv s1 kq=>?_;let⟨x,H1,I1,r1,q1⟩:=kq;let⟨a,e,q1⟩:=q1;subst e
 cases r1
 rcases q1 with⟨⟨xs,hq⟩,q⟩|⟨⟨xs,hq⟩,q⟩
 .let⟨its,rv,p,hz⟩:=I1.list hq;refine EZ p.isList ?_;refine⟨s1.heap.objs.size,[s1.heap.objs.size],_,_,H1,rfl,I1.kept (t':=s1.toks) λb o e=>AO _ e,zho a _,⟨_,A3 _ rfl,rfl,rfl⟩,λb hb=>?_,q⟩;have e:b=s1.heap.objs.size:=by simpa using hb
  subst e;exact I1.fpOk (AR _) (I1.hok.fresh (AR _))
 .let⟨its,rv,p,hz⟩:=I1.tuple hq;refine Bc (show s1.heap.IsTuple a its.toArray from p) ?_;refine⟨s1.heap.objs.size,[s1.heap.objs.size],_,_,H1,rfl,I1.kept (t':=s1.toks) λb o e=>AO _ e,zgQ a _,⟨_,A3 _ rfl,rfl,rfl⟩,λb hb=>?_,q⟩;have e:b=s1.heap.objs.size:=by simpa using hb
  subst e;exact I1.fpOk (AR _) (I1.hok.fresh (AR _))
def zmn{k:Bool}{vs:List PV}{xs:List V}{y:AJ}(rt:yby X.K B φ H k y xs)(l:ye X.K S.cl B φ H vs xs):Drw S X B φ H vs (Itt X.K y):=by
 have hl:=l.length;refine⟨λφ' H' s=>⟨xs,(rt.step s).sq,by lia⟩,λi φ' H' s hi=>⟨xs,xs[i]'∅,(rt.step s).sq,by simp[show i<xs.length by lia]⟩,λi φ' H' st x H2 B' hB s rs hi q=>?_⟩;let⟨rfl,q⟩:=q;obtain⟨v,hv⟩:∃v,vs[i]?=AA v:=⟨vs[i],by simp[hi]⟩;let⟨x',hx',rv⟩:=l.get i hv;have:=q xs (rt.step s).sq;rw[this]at hx'
 cases hx'
 exact⟨v,hv,(rv.moreB hB).step s,λ_ _ e=>e⟩
def zmu{vs:List PV}{xs:List V}{y:AJ}(rt:ycz B φ H y xs)(l:ye X.K S.cl B φ H vs xs):Drw S X B φ H vs (Itl X.K y):=by
 have hl:=l.length;refine⟨λφ' H' s=>⟨xs,(rt.step s).sq,by lia⟩,λi φ' H' s hi=>⟨xs,xs[i]'∅,(rt.step s).sq,by simp[show i<xs.length by lia]⟩,λi φ' H' st x H2 B' hB s rs hi q=>?_⟩;let⟨rfl,q⟩:=q;obtain⟨v,hv⟩:∃v,vs[i]?=AA v:=⟨vs[i],by simp[hi]⟩;let⟨x',hx',rv⟩:=l.get i hv;have:=q xs (rt.step s).sq;rw[this]at hx'
 cases hx'
 exact⟨v,hv,(rv.moreB hB).step s,λ_ _ e=>e⟩
def zok(hl:PE X l (tE S X ca)):PI X tg l (tI S X (.seq ca)):=
 (zor hl).imp λσ H R ⟨B,φ,st,ρ,rs,re,h⟩=>by
  erw[evi]at h;refine tE.bind rs re h λx H1 v st1 φ1 s1 rs1 re1 rv h1=>?_
  cases v with
  |tp k vs=>
   erw[yd]at rv;let⟨y,xs,rfl,rt,l⟩:=rv;exact⟨y,rfl,.inr ⟨⟨xs,rt.sq⟩,h1.ok rs1 (zmn rt l)⟩⟩
  |lst vs=>
   erw[yd]at rv;let⟨y,xs,rfl,rt,l⟩:=rv;exact⟨y,rfl,.inl ⟨⟨xs,rt.sq⟩,h1.ok rs1 (zmu rt l)⟩⟩
  |_=>exact h1.elim
def zd9:∀(n:Nat) (lo d:Int) (i:Nat),(yp n lo d)[i]?=if i<n then AA (.int (lo+i*d))else AD
 |0,lo,d,i=>by simp[yp]
 |n+1,lo,d,0=>by simp[yp]
 |n+1,lo,d,i+1=>by
  erw[yp,Al];rw[zd9 n (lo+d) d i]
  by_cases h:i<n
  .rw[if_pos h,if_pos ∅,Int.natCast_succ,Int.add_mul,Ea,Int.add_assoc,IE d]
  .rw[if_neg h,if_neg ∅]
def zbx:∀(n:Nat) (lo d:Int),(yp n lo d).length=n
 |0,lo,d=>rfl
 |n+1,lo,d=>by simp[yp,zbx n]
def zi1{lo:Int}{n:Nat}:Drw S X B φ H (yp n lo 1) (Itr lo n):=by
 refine⟨λφ' H' s=>by rw[zbx];exact AR _,λi φ' H' s hi=>by rw[zbx]at hi;exact hi,λi φ' H' st x H2 B' hB s rs hi q=>?_⟩;rw[zbx]at hi;let⟨rfl,rfl⟩:=q;refine⟨.int (lo+i),?_,by erw[yd],λ_ _ e=>e⟩;rw[zd9,if_pos hi,Cz]
def ziI{o:Option (List PV)}{st:SO}{Q:It->Hp->Prop}(h:Run S X σ B φ H (RD S X B) (toL o st) Q):∃xs,o=AA xs/\Run S X σ B φ H (RD S X B) (.ok xs st) Q:=by
 cases o with
 |none=>exact h.elim
 |some z=>exact⟨z,rfl,h⟩
def zi7(hg:Gl X "range")(hm:X.mg "range"=AD)(ha:PE X a (tE S X ca))(hs:starEach [a] X.env=[(AB,eval a X.env)]:=by rfl):PI X tg (.Call (.Name "range" p) [a] [] pos) (tI S X (.range1 ca)):=
 (zil hg hm (zaj ha zf2 hs) hs).imp λσ H R ⟨B,φ,st,ρ,rs,re,h⟩=>by
  erw[evi]at h;refine tE.bind rs re h λx H1 v st1 φ1 s1 rs1 re1 rv h1=>?_;let⟨xs,e,h1⟩:=ziI h1
  cases v with
  |int j=>
   erw[ybJ]at e;split at e
   .cases e
    erw[yd]at rv;subst rv;exact⟨j,rfl,by lia,by lia,h1.ok rs1 zi1⟩
   .cases e
  |_=>cases e
def zdx:∀(xs:List PV) (k i:Nat),(yS k xs)[i]?=(xs[i]?).map λx=>.tup [.int ((k+i:Nat):Int),x]
 |[],k,i=>by simp[yS]
 |x::xs,k,0=>by simp[yS]
 |x::xs,k,i+1=>by
  erw[yS,Al];rw[zdx xs (k+1) i];have:k+1+i=k+(i+1):=by lia
  rw[this]
def zdA:∀(xs:List PV) (k:Nat),(yS k xs).length=xs.length
 |[],k=>rfl
 |x::xs,k=>by simp[yS,zdA xs]
def zjV{k:Bool}{vs:List PV}{xs:List V}{y:AJ}(rt:yby X.K B φ H k y xs)(l:ye X.K S.cl B φ H vs xs):Drw S X B φ H (yS 0 vs) (Ite X.K y):=by
 have hl:=l.length;have hp:=zdA vs 0;refine⟨λφ' H' s=>⟨xs,(rt.step s).sq,by lia⟩,λi φ' H' s hi=>⟨xs,xs[i]'∅,(rt.step s).sq,by simp[show i<xs.length by lia]⟩,λi φ' H' st x H2 B' hB s rs hi q=>?_⟩;let⟨T,hT,rfl,q⟩:=q;obtain⟨v,hv⟩:∃v,vs[i]?=AA v:=⟨vs[i]'∅,by simp[show i<vs.length by lia]⟩;let⟨x',hx',rv⟩:=l.get i hv;have e:=q xs x' (rt.step s).sq hx';subst e;refine⟨.tup [.int i,v],?_,.tup_new hT rs ?_,λb o e=>by rw[zd (zk e hT)];exact e⟩
 .rw[zdx,hv];simp
 .simp only[ye,yd];exact⟨_,_,rfl,rfl,x',[],rfl,(rv.moreB hB).step s,rfl⟩
def zmd{es:List AT}{kk:Nat}{tp:CB}(hg:Gl X "enumerate")(hm:X.mg "enumerate"=AD)(ha:PE X a (tE S X ca))(hs:starEach [a] X.env=[(AB,eval a X.env)]:=by rfl):
  PI X (.Tuple es kk tp) (.Call (.Name "enumerate" p) [a] [] pos) (tI S X (.enum ca)):=
 (zjR hg hm (zaj ha zf2 hs) hs).imp λσ H R ⟨B,φ,st,ρ,rs,re,h⟩=>by
  erw[evi]at h;refine tE.bind rs re h λx H1 v st1 φ1 s1 rs1 re1 rv h1=>?_
  cases v with
  |tp k vs=>
   erw[yd]at rv;let⟨y,xs,rfl,rt,l⟩:=rv;exact⟨y,rfl,⟨xs,rt.sq⟩,h1.ok rs1 (zjV rt l)⟩
  |_=>exact h1.elim
def tG(S:Se)(X:Cx)(t:Tg):TG:=λv σ H Q=>∃B φ st ρ w ρ',yu X.K S.cl B φ H st/\yH X.K S.cl B φ H ρ σ/\yd X.K S.cl B φ H w v/\yD t w ρ=AA ρ'/\∀σ',yH X.K S.cl B φ H ρ' σ'->Q σ' H
theorem PG.imp{t t':TG}(h:PG X tg t')(k:∀v σ H Q,t v σ H Q->t' v σ H Q):PG X tg t:=λπ s σ H v u Q I rv q=>h π s σ H v u Q I rv (k v σ H Q q)
def zm8{i:Nat}{x:AL}(hN:X.N.Nodup)(hi:X.N[i]?=AA x)(hx:Loc X.env.scope x)(hf:X.fn x=AC \/ X.env.scope.names.lookup x=AA .local:=by first|exact .inl rfl|exact .inr rfl|assumption):PG X (.Name x pos) (tG S X (.n i)):=
 (zht hN hi hx hf).imp λv σ H Q ⟨B,φ,st,ρ,w,ρ',rs,re,rv,e,q⟩=>by
  cases e
  exact q _ (re.set i rv)
def gNs(l:List Nat):TGs:=λvs σ H Q=>vs.length=l.length/\Q ((l.zip vs).foldl (λσ p=>σ.set p.1 (AA p.2)) σ) H
theorem PGs.imp{es:List AT}{t t':TGs}(h:PGs X es t')(k:∀v σ H Q,t v σ H Q->t' v σ H Q):PGs X es t:=λπ s σ H vs us Q I rv q=>h π s σ H vs us Q I rv (k vs σ H Q q)
def zmi:PGs X [] (gNs []):=zqw.imp λvs σ H Q ⟨h,q⟩=>by
 cases vs with
 |nil=>exact⟨rfl,q⟩
 |cons _ _=>cases h
def zkm{es:List AT}{l:List Nat}{i:Nat}{x:AL}(hN:X.N.Nodup)(hi:X.N[i]?=AA x)(hx:Loc X.env.scope x)(h2:PGs X es (gNs l))(hf:X.fn x=AC \/ X.env.scope.names.lookup x=AA .local:=by first|exact .inl rfl|exact .inr rfl|assumption):PGs X (.Name x pos::es) (gNs (i::l)):=
 (zjA (zht hN hi hx hf) h2).imp λvs σ H Q ⟨h,q⟩=>by
  cases vs with
  |nil=>cases h
  |cons v vs=>exact⟨v,vs,rfl,by simpa using h,q⟩
theorem yH.sets{K:AF}{cl:Nat->AJ}:∀(l:List Nat) {vs:List PV} {xs:List V} {ρ:IC.Env} {σ:St},yH K cl B φ H ρ σ->ye K cl B φ H vs xs ->
  yH K cl B φ H ((l.zip vs).foldl (λρ p=>ρ.set p.1 (AA p.2)) ρ) ((l.zip xs).foldl (λσ p=>σ.set p.1 (AA p.2)) σ)
 |[],vs,xs,ρ,σ,re,l=>by simpa using re
 |i::is,[],xs,ρ,σ,re,l=>by
  erw[ye]at l;subst l;simpa using re
 |i::is,v::vs,xs,ρ,σ,re,l=>by
  erw[ye]at l;let⟨y,ys,rfl,r,l⟩:=l;erw[EL,C7];exact yH.sets is (re.set i r) l
def zn0{es:List AT}{l:List Nat}{k:Nat}(hc:X.calm=AC)(h:PGs X es (gNs l))(hn:(assignEach es X.env).length=l.length:=by rfl)(hst:(assignEach es X.env).findIdx? (·.1)=none:=by rfl):PG X (.Tuple es k pos) (tG S X (.t l)):=
 (zoP hc h hn hst).imp λv σ H Q ⟨B,φ,st,ρ,w,ρ',rs,re,rv,e,q⟩=>by
  cases w with
  |tp kk vs=>
   erw[yD]at e;split at e
   .rename_i c
    cases e
    erw[yd]at rv;let⟨y,xs,rfl,rt,lr⟩:=rv;have hl:=lr.length;exact⟨y,xs,rfl,rt.sq,by lia,by lia,q _ (yH.sets l re lr)⟩
   .cases e
  |_=>cases e
def zlO{es:List AT}{l:List Nat}{k:Nat}(he:PE X a (tE S X ca))(hg:PG X (.Tuple es k p2) (tG S X (.t l)))(hs:swapsWithSole [.Tuple es k p2] a pos.line X.env=pure false:=by rfl)(hw:swappedStores [.Tuple es k p2] a X.env=pure none:=by rfl):
  PS X (.Assign [.Tuple es k p2] a pos) (tS S X (.asg (.t l) ca)):=
 (zlg he hg hs hw).imp λD σ H ⟨B,φ,st,ρ,rs,re,h⟩=>by
  erw[ex]at h;refine tE.fl rs re h λx H1 v st1 φ1 s rs1 re1 rv h1=>?_
  cases e:yD (.t l) v ρ with
  |none=>rw[e]at h1;exact h1.elim
  |some ρ'=>
   rw[e]at h1;exact⟨B,φ1,st1,ρ,v,ρ',rs1,re1,rv,e,λσ' re'=>h1 σ' H1 φ1 .rfl rs1 re'⟩
theorem tI.fl{k:List PV->SO->Fl}{P:It->Hp->Prop}(rs:yu X.K S.cl B φ H st)(re:yH X.K S.cl B φ H ρ σ)(h:yag S X B φ H ((evi S.call ρ st ci).fl ρ k) D)
  (n:∀x H1 v st1 φ1,Step φ H φ1 H1->yu X.K S.cl B φ1 H1 st1->yH X.K S.cl B φ1 H1 ρ σ->Drw S X B φ1 H1 v x->yag S X B φ1 H1 (k v st1) D->P x H1):tI S X ci σ H P:=by
 refine⟨B,φ,st,ρ,rs,re,?_⟩
 cases e:evi S.call ρ st ci with
 |ok v st'=>
  rw[e]at h;exact λx H' φ' s rs' rv=>n x H' v st' φ' s rs' (re.step s) rv (h.on s)
 |exc k st'=>
  rw[e]at h;exact λe s' x=>h σ φ H e s' .rfl re x
 |bad=>rw[e]at h;exact h
def znF(hp:Eo (model X.prog X.w) X.A X.env X.xe)(hc:X.calm=AC)(hi:PI X tg l (tI S X ci))(hg:PG X tg (tG S X ct))(hb:PSs X ss (tSs S X cs))(hs:∀x,foldedSetIterable l X.env x=pure x:=by intro _;rfl):
  PS X (.For tg l ss [] pos) (tS S X (.for ct ci cs)):=
 (zo2 hp hc hi hg hb hs).imp λD σ H ⟨B,φ,st,ρ,rs,re,h⟩=>by
  erw[ex]at h;refine tI.fl rs re h λJ H1 xs st1 φ1 s1 rs1 re1 dr h1=>?_;refine⟨λi m σ H=>∃φ st ρ,i+m=xs.length/\Step φ1 H1 φ H/\yu X.K S.cl B φ H st/\yH X.K S.cl B φ H ρ σ/\yag S X B φ H (forL ct (λρ2 st2=>exs S.call ρ2 st2 cs) (xs.drop i) ρ st) D,
   ⟨xs.length,φ1,st1,ρ,by lia,.rfl,rs1,re1,by simpa using h1⟩,?_⟩
  rintro i m σ2 H2 ⟨φ2,st2,ρ2,hm,s2,rs2,re2,h2⟩
  by_cases hi:i<xs.length
  .refine .inr ⟨dr.go i φ2 H2 s2 hi,λσ' H'=>∃φ st ρ,Step φ1 H1 φ H'/\yu X.K S.cl B φ H' st/\yH X.K S.cl B φ H' ρ σ'/\yag S X B φ H' (forL ct (λρ2 st2=>exs S.call ρ2 st2 cs) (xs.drop (i+1)) ρ st) D,
    λσ' H' ⟨φ,st,ρ,s,q⟩=>⟨m-1,by lia,φ,st,ρ,by lia,s,q⟩,λx H3 hy=>?_⟩
   let⟨v,hv,rv,kk⟩:=dr.yld i φ2 H2 st2 x H3 B (λ_ z=>.inl z) s2 rs2 hi hy;have e:xs.drop i=v::xs.drop (i+1):=by
    rw[ET hi];rw[CP hi]at hv;rw[AY hv]
   have s3:Step φ2 H2 φ2 H3:=⟨λb o _ e=>kk b o e,AR _,λ_ _ _ e=>e,λ_ h=>.inl h⟩;have rs3:yu X.K S.cl B φ2 H3 st2:=rs2.same kk;rw[e,forL]at h2
   cases eb:yD ct v ρ2 with
   |none=>rw[eb]at h2;exact h2.elim
   |some ρ3=>
    rw[eb]at h2;refine⟨B,φ2,st2,ρ2,v,ρ3,rs3,re2.step s3,rv,eb,λσ' re'=>⟨B,φ2,st2,ρ3,rs3,re',?_⟩⟩;have h3:=yag.on s3 h2;dsimp only at h3
    cases ee:exs S.call ρ3 st2 cs with
    |nx ρ4 st4=>
     rw[ee]at h3;exact λσ4 H4 φ4 s4 rs4 re4=>⟨φ4,st4,ρ4,s2.trans (s3.trans s4),rs4,re4,yag.on s4 h3⟩
    |ct ρ4 st4=>
     rw[ee]at h3;exact λσ4 H4 φ4 s4 rs4 re4=>⟨φ4,st4,ρ4,s2.trans (s3.trans s4),rs4,re4,yag.on s4 h3⟩
    |bk ρ4 st4=>rw[ee]at h3;exact h3
    |rt v4 st4=>rw[ee]at h3;exact h3
    |exc k ρ4 st4=>rw[ee]at h3;exact h3
    |bad=>rw[ee]at h3;exact h3
  .have e:i=xs.length:=by lia
   subst e;rw[Gq,forL]at h2;exact .inl ⟨dr.stop φ2 H2 s2,h2 σ2 H2 φ2 .rfl rs2 re2⟩
def zj2(hp:Eo (model X.prog X.w) X.A X.env X.xe)(hc:PT X c (tTs S X cc))(hb:PSs X ss (tSs S X cs)):PS X (.While c ss [] pos) (tS S X (.while cc cs)):=
 (zjl hp hc hb).imp λD σ H ⟨B,φ,st,ρ,rs,re,h⟩=>by
  erw[ex]at h;refine⟨λm σ H=>∃φ st ρ,yu X.K S.cl B φ H st/\yH X.K S.cl B φ H ρ σ/\yag S X B φ H (yad (λρ2 st2=>ev S.call ρ2 st2 cc) (λρ2 st2=>exs S.call ρ2 st2 cs) m ρ st) D,⟨100000,φ,st,ρ,rs,re,h⟩,?_⟩
  rintro m σ2 H2 ⟨φ2,st2,ρ2,rs2,re2,h2⟩
  cases m with
  |zero=>exact h2.elim
  |succ m=>
   rw[yad]at h2;rw[flT _ λk st1=>cond k (yao (exs S.call ρ2 st1 cs) λρ2 st2=>yad (λρ2 st2=>ev S.call ρ2 st2 cc) (λρ2 st2=>exs S.call ρ2 st2 cs) m ρ2 st2) (.nx ρ2 st1)]at h2;refine tTs.fl rs2 re2 h2 λk H3 st3 φ3 s3 rs3 re3 h3=>?_
   cases k with
   |false=>exact h3 σ2 H3 φ3 .rfl rs3 re3
   |true=>
    refine⟨λσ' H'=>∃φ st ρ,yu X.K S.cl B φ H' st/\yH X.K S.cl B φ H' ρ σ'/\yag S X B φ H' (yad (λρ2 st2=>ev S.call ρ2 st2 cc) (λρ2 st2=>exs S.call ρ2 st2 cs) m ρ st) D,
     λσ' H' q=>⟨m,by lia,q⟩,B,φ3,st3,ρ2,rs3,re3,?_⟩
    erw[cond_true]at h3
    cases ee:exs S.call ρ2 st3 cs with
    |nx ρ4 st4=>
     rw[ee]at h3;exact λσ4 H4 φ4 s4 rs4 re4=>⟨φ4,st4,ρ4,rs4,re4,yag.on s4 h3⟩
    |ct ρ4 st4=>
     rw[ee]at h3;exact λσ4 H4 φ4 s4 rs4 re4=>⟨φ4,st4,ρ4,rs4,re4,yag.on s4 h3⟩
    |bk ρ4 st4=>rw[ee]at h3;exact h3
    |rt v4 st4=>rw[ee]at h3;exact h3
    |exc k ρ4 st4=>rw[ee]at h3;exact h3
    |bad=>rw[ee]at h3;exact h3
end
section
variable (S:Se)(K:AF)
def yfA{α β:Type}(B:AJ->Prop)(φ:Ph)(H:Hp)(Rel:Ph->Hp->α->β->Prop)(r:R α)(Q:β->Hp->Prop):Prop:=
 match r with
 |.ok v st'=>∀x H' φ',Step φ H φ' H'->yu K S.cl B φ' H' st'->Rel φ' H' v x->Q x H'
 |_=>False
def tE0(c:Ce):TE:=λσ H Q=>∃B φ st ρ,yu K S.cl B φ H st/\yH K S.cl B φ H ρ σ/\yfA S K B φ H (λφ H=>yd K S.cl B φ H) (ev S.call ρ st c) Q
def tT0(c:Ce):TT:=λσ H Q=>∃B φ st ρ,yu K S.cl B φ H st/\yH K S.cl B φ H ρ σ/\yfA S K B φ H RB (yaO (ev S.call ρ st c)) Q
def tG0(t:Tg):TG:=λv σ H Q=>∃B φ st ρ w ρ',yu K S.cl B φ H st/\yH K S.cl B φ H ρ σ/\yd K S.cl B φ H w v/\yD t w ρ=AA ρ'/\∀σ',yH K S.cl B φ H ρ' σ'->Q σ' H
end
section
variable {S:Se}{X:Cx}{K:AF}{cl:Nat->AJ}{σ:St}{B:AJ->Prop}{φ φ1:Ph}{H H1:Hp}{st:SO}{ρ:IC.Env}{pos p p2 px:CB}{a b c o tg l elt iter:AT}{ca cb cc ce:Ce}{ci:Cit}{ct:Tg}
def zl5(hK:X.K=K)(h:PE X a (tE S X ca)):PE X a (tE0 S K ca):=by
 subst hK;refine h.imp λσ H Q kq=>?_;let⟨B,φ,st,ρ,rs,re,q⟩:=kq;refine ⟨B,φ,st,ρ,rs,re,?_⟩
 cases e:ev S.call ρ st ca with
 |ok v st'=>rw[e]at q;exact q
 |exc k st'=>rw[e]at q;exact q.elim
 |bad=>rw[e]at q;exact q
def zlC(hK:X.K=K)(h:PT X a (tTs S X ca)):PTs X [a] (tT0 S K ca):=by
 subst hK;refine zlZ (h.imp λσ H Q kq=>?_);let⟨B,φ,st,ρ,rs,re,q⟩:=kq;refine ⟨B,φ,st,ρ,rs,re,?_⟩
 cases e:yaO (ev S.call ρ st ca)with
 |ok v st'=>rw[e]at q;exact q
 |exc k st'=>rw[e]at q;exact q.elim
 |bad=>rw[e]at q;exact q
def zjq:PTs X [] (tT0 S K (.cst (.bl AC))):=λπ s σ H Q I ⟨B,φ,st,ρ,rs,re,q⟩=>by
 refine zma π s σ H Q I ?_;erw[ev,yaO,R.bind,yaD,onO]at q;exact q AC H φ .rfl rs rfl
def zmD(hK:X.K=K)(h:PG X tg (tG S X ct)):PG X tg (tG0 S K ct):=by
 subst hK;exact h
theorem yby.skip{k:Bool}{D y:AJ}{u:HO}{xs:List V}(hD:B D)(r:yby K B φ H k y xs):yby K B φ (L2.upd H D u) k y xs:=by
 rcases r with⟨r,b,n⟩|r
 .exact .inl ⟨by rw[zd (show y≠D from λz=>b (z ▸ hD))];exact r,b,n⟩
 .exact .inr r
mutual
theorem yd.skip{D:AJ}{u:HO}(hD:B D):∀(v:PV) (x:V),yd K cl B φ H v x->yd K cl B φ (L2.upd H D u) v x
 |.non,x,h=>by erw[yd]at h ⊢;exact h
 |.bl b,x,h=>by erw[yd]at h ⊢;exact h
 |.int i,x,h=>by erw[yd]at h ⊢;exact h
 |.str y,x,h=>by erw[yd]at h ⊢;exact h
 |.tp k vs,x,h=>by
  erw[yd]at h ⊢;let⟨y,xs,e,r,l⟩:=h;exact⟨y,xs,e,r.skip hD,ye.skip hD vs xs l⟩
 |.lst vs,x,h=>by
  erw[yd]at h ⊢;let⟨y,xs,e,⟨r,b,n⟩,l⟩:=h;exact⟨y,xs,e,⟨by rw[zd (show y≠D from λz=>b (z ▸ hD))];exact r,b,n⟩,ye.skip hD vs xs l⟩
 |.loc n,x,h=>by erw[yd]at h ⊢;exact h
 |.fnc j,x,h=>by erw[yd]at h ⊢;exact h
 |.exn c,x,h=>by
  erw[yd]at h ⊢;let⟨y,e,r,b,n⟩:=h;exact⟨y,e,by rw[zd (show y≠D from λz=>b (z ▸ hD))];exact r,b,n⟩
 |.scr vs,x,h=>by
  erw[yd]at h ⊢;let⟨y,xs,e,r,l⟩:=h;refine⟨y,xs,e,?_,ye.skip hD vs xs l⟩;rcases r with⟨r,b,n⟩|r
  .refine .inl ⟨?_,b,n⟩;have ne:y≠D:=λz=>b (z ▸ hD);rcases r with r|⟨o,r⟩
   .exact .inl (by rw[zd ne];exact r)
   .exact .inr ⟨o,by rw[zd ne];exact r⟩
  .exact .inr r
theorem ye.skip{D:AJ}{u:HO}(hD:B D):∀(v:List PV) (x:List V),ye K cl B φ H v x->ye K cl B φ (L2.upd H D u) v x
 |[],x,h=>by erw[ye]at h ⊢;exact h
 |v::vs,x,h=>by
  erw[ye]at h ⊢;let⟨y,ys,e,r,l⟩:=h;exact⟨y,ys,e,yd.skip hD v y r,ye.skip hD vs ys l⟩
end
theorem DK.skip{D:AJ}{u:HO}(hD:B D):∀{kvs:List (PV×PV)} {ks:List (Key×V)},DK K cl B φ H kvs ks->DK K cl B φ (L2.upd H D u) kvs ks
 |[],ks,h=>h
 |(k,v)::r,ks,h=>by
  let⟨q,x,t,e,m,rv,l⟩:=h;exact⟨q,x,t,e,m,rv.skip hD,DK.skip hD l⟩
theorem DT.skip{D:AJ}{u:HO}(hD:B D):∀{kvs:List (PV×PV)} {ks:List (List Key×V)},DT K cl B φ H kvs ks->DT K cl B φ (L2.upd H D u) kvs ks
 |[],ks,h=>h
 |(k,v)::r,ks,h=>by
  let⟨q,x,t,e,m,rv,l⟩:=h;exact⟨q,x,t,e,m,rv.skip hD,DT.skip hD l⟩
theorem FS.skip{D:AJ}{u:HO}(hD:B D):∀{kvs:List (AL×PV)} {ks:List (AL×V)},FS K cl B φ H kvs ks->FS K cl B φ (L2.upd H D u) kvs ks
 |[],ks,h=>h
 |(k,v)::r,ks,h=>by
  let⟨x,t,e,rv,l⟩:=h;exact⟨x,t,e,rv.skip hD,FS.skip hD l⟩
theorem yu.skip{D:AJ}{u:HO}(hD:B D)(rs:yu K cl B φ H st):yu K cl B φ (L2.upd H D u) st:=by
 refine⟨rs.len,rs.inj,λn y e=>?_,rs.liv,rs.nb,λy h=>?_⟩
 .let⟨o,q,r⟩:=rs.obj n y e;have ne:y≠D:=λz=>rs.nb y (AW e) (z ▸ hD);refine⟨o,q,?_⟩
  cases o with
  |lst vs=>
   let⟨xs,hx,l⟩:=r;exact⟨xs,by rw[zd ne];exact hx,l.skip hD⟩
  |dct t kvs=>
   cases t with
   |false=>
    let⟨xs,hx,l⟩:=r;exact⟨xs,by rw[zd ne];exact hx,l.skip hD⟩
   |true=>
    let⟨xs,hx,l⟩:=r;exact⟨xs,by rw[zd ne];exact hx,l.skip hD⟩
  |ins c fs=>
   let⟨ks,⟨dx,hx⟩,l⟩:=r;exact⟨ks,⟨dx,by rw[zd ne];exact hx⟩,l.skip hD⟩
  |dead=>exact r.elim
 .by_cases z:y=D
  .subst z;exact⟨u,zm⟩
  .let⟨w,e⟩:=rs.dom y h;exact⟨w,by rw[zd z];exact e⟩
theorem yH.skip{D:AJ}{u:HO}(hD:B D)(re:yH K cl B φ H ρ σ):yH K cl B φ (L2.upd H D u) ρ σ:=⟨re.len,λi v e=>by
 let⟨x,h,q⟩:=re.get i v e;exact⟨x,h,q.skip hD⟩⟩
def Bx(B:AJ->Prop)(D:AJ):AJ->Prop:=λy=>B y \/ y=D
def ziT{D:AJ}(hn:H D=AD):∀y,Bx B D y->B y \/ H y=none:=λy z=>z.elim .inl λq=>.inr (q ▸ hn)
theorem yd.more{D:AJ}(hn:H D=AD){v:PV}{x:V}(h:yd K cl B φ H v x):yd K cl (Bx B D) φ H v x:=h.moreB (ziT hn)
theorem ye.more{D:AJ}(hn:H D=AD){v:List PV}{x:List V}(h:ye K cl B φ H v x):ye K cl (Bx B D) φ H v x:=h.moreB (ziT hn)
mutual
theorem yd.less{D:AJ}:∀(v:PV) (x:V),yd K cl (Bx B D) φ H v x->yd K cl B φ H v x
 |.non,x,h=>by erw[yd]at h ⊢;exact h
 |.bl b,x,h=>by erw[yd]at h ⊢;exact h
 |.int i,x,h=>by erw[yd]at h ⊢;exact h
 |.str y,x,h=>by erw[yd]at h ⊢;exact h
 |.tp k vs,x,h=>by
  erw[yd]at h ⊢;let⟨y,xs,e,r,l⟩:=h;refine⟨y,xs,e,?_,ye.less vs xs l⟩;rcases r with⟨r,b,n⟩|r
  .exact .inl ⟨r,λz=>b (.inl z),n⟩
  .exact .inr r
 |.lst vs,x,h=>by
  erw[yd]at h ⊢;let⟨y,xs,e,⟨r,b,n⟩,l⟩:=h;exact⟨y,xs,e,⟨r,λz=>b (.inl z),n⟩,ye.less vs xs l⟩
 |.loc n,x,h=>by erw[yd]at h ⊢;exact h
 |.fnc j,x,h=>by erw[yd]at h ⊢;exact h
 |.exn c,x,h=>by
  erw[yd]at h ⊢;let⟨y,e,r,b,n⟩:=h;exact⟨y,e,r,λz=>b (.inl z),n⟩
 |.scr vs,x,h=>by
  erw[yd]at h ⊢;let⟨y,xs,e,r,l⟩:=h;refine⟨y,xs,e,?_,ye.less vs xs l⟩;rcases r with⟨r,b,n⟩|r
  .exact .inl ⟨r,λz=>b (.inl z),n⟩
  .exact .inr r
theorem ye.less{D:AJ}:∀(v:List PV) (x:List V),ye K cl (Bx B D) φ H v x->ye K cl B φ H v x
 |[],x,h=>by erw[ye]at h ⊢;exact h
 |v::vs,x,h=>by
  erw[ye]at h ⊢;let⟨y,ys,e,r,l⟩:=h;exact⟨y,ys,e,yd.less v y r,ye.less vs ys l⟩
end
theorem DK.more{D:AJ}(hn:H D=AD):∀{kvs:List (PV×PV)} {ks:List (Key×V)},DK K cl B φ H kvs ks->DK K cl (Bx B D) φ H kvs ks
 |[],ks,h=>h
 |(k,v)::r,ks,h=>by
  let⟨q,x,t,e,m,rv,l⟩:=h;exact⟨q,x,t,e,m,rv.more hn,DK.more hn l⟩
theorem DT.more{D:AJ}(hn:H D=AD):∀{kvs:List (PV×PV)} {ks:List (List Key×V)},DT K cl B φ H kvs ks->DT K cl (Bx B D) φ H kvs ks
 |[],ks,h=>h
 |(k,v)::r,ks,h=>by
  let⟨q,x,t,e,m,rv,l⟩:=h;exact⟨q,x,t,e,m,rv.more hn,DT.more hn l⟩
theorem FS.more{D:AJ}(hn:H D=AD):∀{kvs:List (AL×PV)} {ks:List (AL×V)},FS K cl B φ H kvs ks->FS K cl (Bx B D) φ H kvs ks
 |[],ks,h=>h
 |(k,v)::r,ks,h=>by
  let⟨x,t,e,rv,l⟩:=h;exact⟨x,t,e,rv.more hn,FS.more hn l⟩
theorem DK.less{D:AJ}:∀{kvs:List (PV×PV)} {ks:List (Key×V)},DK K cl (Bx B D) φ H kvs ks->DK K cl B φ H kvs ks
 |[],ks,h=>h
 |(k,v)::r,ks,h=>by
  let⟨q,x,t,e,m,rv,l⟩:=h;exact⟨q,x,t,e,m,rv.less,DK.less l⟩
theorem DT.less{D:AJ}:∀{kvs:List (PV×PV)} {ks:List (List Key×V)},DT K cl (Bx B D) φ H kvs ks->DT K cl B φ H kvs ks
 |[],ks,h=>h
 |(k,v)::r,ks,h=>by
  let⟨q,x,t,e,m,rv,l⟩:=h;exact⟨q,x,t,e,m,rv.less,DT.less l⟩
theorem FS.less{D:AJ}:∀{kvs:List (AL×PV)} {ks:List (AL×V)},FS K cl (Bx B D) φ H kvs ks->FS K cl B φ H kvs ks
 |[],ks,h=>h
 |(k,v)::r,ks,h=>by
  let⟨x,t,e,rv,l⟩:=h;exact⟨x,t,e,rv.less,FS.less l⟩
theorem yu.less{D:AJ}(rs:yu K cl (Bx B D) φ H st):yu K cl B φ H st:=by
 refine⟨rs.len,rs.inj,λn y e=>?_,rs.liv,λy h z=>rs.nb y h (.inl z),λy h=>rs.dom y (.inl h)⟩;let⟨o,q,r⟩:=rs.obj n y e;refine⟨o,q,?_⟩
 cases o with
 |lst vs=>let⟨xs,hx,l⟩:=r;exact⟨xs,hx,l.less⟩
 |dct t kvs=>cases t<;>(let⟨xs,hx,l⟩:=r;exact⟨xs,hx,l.less⟩)
 |ins c fs=>let⟨ks,hx,l⟩:=r;exact⟨ks,hx,l.less⟩
 |dead=>exact r.elim
theorem yu.more{D:AJ}{u:HO}(hn:H D=AD)(rs:yu K cl B φ H st):yu K cl (Bx B D) φ (L2.upd H D u) st:=by
 have nD:AA D∉φ:=λz=>by
  let⟨w,e⟩:=rs.there z;rw[hn]at e;cases e
 have s:Step φ H φ (L2.upd H D u):=.upd hn;have rs':=rs.upd (o:=u) hn;refine⟨rs.len,rs.inj,λn y e=>?_,rs.liv,λy h z=>z.elim (rs.nb y h) λq=>nD (q ▸ h),λy h=>?_⟩
 .let⟨o,q,r⟩:=rs.obj n y e;have ne:y≠D:=λz=>nD (z ▸ AW e);have hD:Bx B D D:=.inr rfl;refine⟨o,q,?_⟩
  cases o with
  |lst vs=>let⟨xs,hx,l⟩:=r;exact⟨xs,by rw[zd ne];exact hx,(l.more hn).skip hD⟩
  |dct t kvs=>
   cases t with
   |false=>let⟨xs,hx,l⟩:=r;exact⟨xs,by rw[zd ne];exact hx,(l.more hn).skip hD⟩
   |true=>let⟨xs,hx,l⟩:=r;exact⟨xs,by rw[zd ne];exact hx,(l.more hn).skip hD⟩
  |ins c fs=>let⟨ks,⟨dx,hx⟩,l⟩:=r;exact⟨ks,⟨dx,by rw[zd ne];exact hx⟩,(l.more hn).skip hD⟩
  |dead=>exact r.elim
 .rcases h with h|h
  .exact rs'.dom y h
  .subst h;exact⟨u,zm⟩
theorem yH.more{D:AJ}{u:HO}(hn:H D=AD)(re:yH K cl B φ H ρ σ):yH K cl (Bx B D) φ (L2.upd H D u) ρ σ:=⟨re.len,λi v e=>by
 let⟨x,h,q⟩:=re.get i v e;exact⟨x,h,(q.more hn).skip (.inr rfl)⟩⟩
def yaq:Tg->List (Option Nat)->Bool
 |.n i,sl=>decide (sl[i]?=AA AD)
 |.t l,sl=>l.all λi=>decide (sl[i]?=AA AD)
def zgC:∀(l:List Nat) (vs:List PV) (ρ:IC.Env) (j:Nat),j∉l->((l.zip vs).foldl (λρ p=>ρ.set p.1 (AA p.2)) ρ)[j]?=ρ[j]?
 |[],vs,ρ,j,h=>by simp
 |i::is,[],ρ,j,h=>by simp
 |i::is,v::vs,ρ,j,h=>by
  erw[EL,C7];rw[zgC is vs _ j λz=>h (AQ _ z),AN]
  rintro rfl
  exact h A8
def zgh:∀(l:List Nat) (vs:List PV) (ρ:IC.Env),((l.zip vs).foldl (λρ p=>ρ.set p.1 (AA p.2)) ρ).length=ρ.length
 |[],vs,ρ=>by simp
 |i::is,[],ρ=>by simp
 |i::is,v::vs,ρ=>by
  erw[EL,C7];rw[zgh is vs,BR]
theorem yH.untgt{sl:List (Option Nat)}{ρ0 ρ1:IC.Env}{v:PV}(hf:yaq ct sl=AC)(h0:∀(i:Nat),sl[i]?=AA AD->ρ0[i]?=AA AD)(hb:yD ct v ρ0=AA ρ1)(re:yH K cl B φ H ρ1 σ):yH K cl B φ H ρ0 σ:=by
 cases ct with
 |n i=>
  cases hb
  erw[yaq,decide_eq_true_eq]at hf;refine⟨by rw[<-re.len,BR],λj w e=>re.get j w ?_⟩;rw[AN]
  .exact e
  .rintro rfl
   rw[h0 _ hf]at e;cases e
 |t l=>
  cases v with
  |tp k vs=>
   erw[yD]at hb;split at hb
   .cases hb
    erw[yaq,A9,decide_eq_true_eq]at hf;refine⟨by rw[<-re.len,zgh],λj w e=>re.get j w ?_⟩;rw[zgC]
    .exact e
    .intro z;rw[h0 _ (hf j z)]at e;cases e
   .cases hb
  |_=>cases hb
theorem yH.inn{sl:List (Option Nat)}(re:yH K cl B φ H ρ σ):yH K cl B φ H (sl.map λo=>o.bind λj=>(ρ[j]?).join) (L2.inn sl σ):=by
 unfold L2.inn;refine⟨by simp,λi v e=>?_⟩;rw[Bk]at e ⊢
 cases q:sl[i]? with
 |none=>rw[q]at e;cases e
 |some o=>
  rw[q]at e
  cases o with
  |none=>cases e
  |some j=>
   erw[Dq,BB,Option.some.injEq]at e ⊢
   cases q2:ρ[j]? with
   |none=>rw[q2]at e;cases e
   |some w=>
    rw[q2]at e;erw[Option.join_some]at e;subst e;let⟨x,hx,rv⟩:=re.get j v q2;exact⟨x,by rw[hx];rfl,rv⟩
def zqH:1000000<sizeLine:=by rw[BP];decide
def zpD{α:Type}{o:Option Bool}{k:Bool->R α}{z:α}{s:SO}(h:onO o k=.ok z s):∃b,o=AA b/\k b=.ok z s:=by
 cases o with
 |none=>cases h
 |some b=>exact⟨b,rfl,h⟩
def zbw{α β:Type}{r:R α}{k:α->SO->R β}{z:β}{s:SO}(h:r.bind k=.ok z s):∃a s1,r=.ok a s1/\k a s1=.ok z s:=by
 cases r with
 |ok a s1=>exact⟨a,s1,rfl,h⟩
 |exc c s=>cases h
 |bad=>cases h
def ziC{sl:List (Option Nat)}(hf:yaq ct sl=AC){H:Hp}{Q:VK}(h:tE S X (.comp sl ct ci cc ce) σ H Q):yda sl (tI S X ci) (tG0 S X.K ct) (tT0 S X.K cc) (tE0 S X.K ce) σ H Q:=by
  let⟨B,φ,st,ρ,rs,re,h⟩:=h;erw[ev]at h;refine⟨B,φ,st,ρ,rs,re,(Run.bind h).mono λJ H1 kq=>?_⟩;let⟨xs,st1,φ1,s1,rs1,dr,h1⟩:=kq;refine λD hD=>?_
  generalize hone:(λ(x:PV) (st2:SO)=>match yD ct x (sl.map λo=>o.bind λj=>(ρ[j]?).join)with
   |none=>(R.bad:R (Option PV))
   |some ρ1=>(ev S.call ρ1 st2 cc).bind λb st3=>onO (yaD st3 b) λk=>cond k ((ev S.call ρ1 st3 ce).bind λy st4=>.ok (AA y) st4) (.ok AD st3))=one at h1
  cases e:yaL one xs st1 with
  |exc k s=>rw[e]at h1;exact h1.elim
  |bad=>rw[e]at h1;exact h1.elim
  |ok zs st5=>
   rw[e]at h1;erw[ycq]at h1;split at h1
   case isFalse=>exact h1.elim
   rename_i hz;have nB:¬B D:=rs1.nB hD;have nD:AA D∉φ1:=λz=>by
    let⟨w,e⟩:=rs1.there z;rw[hD]at e;cases e
   refine⟨λi m σc ys H2=>∃φ2 st2 vs rest,i+m=xs.length/\Step φ1 H1 φ2 H2/\H2 D=AA (.lst ys)/\AA D∉φ2/\yu X.K S.cl (Bx B D) φ2 H2 st2/\yH X.K S.cl (Bx B D) φ2 H2 (sl.map λo=>o.bind λj=>(ρ[j]?).join) σc /\
     ye X.K S.cl (Bx B D) φ2 H2 vs ys/\yaL one (xs.drop i) st2=.ok rest st5/\vs++rest=zs,
    ⟨xs.length,φ1,st1,[],zs,by lia,.upd hD,zm,nD,rs1.more hD,(yH.inn (re.step s1)).more hD,by erw[ye],by simpa using e,rfl⟩,?_⟩
   rintro i m σc ys H2 ⟨φ2,st2,vs,rest,hm,s2,hD2,nD2,rs2,re2,l2,ec,ez⟩
   refine⟨hD2,?_⟩
   by_cases hi:i<xs.length
   .have hl2:=l2.length;have hml:=zqH;have hzl:=congrArg CY ez;rw[A6]at hzl;refine .inr ⟨dr.go i φ2 H2 s2 hi,by lia,λσ' ys' H'=>∃φ2 st2 vs rest,Step φ1 H1 φ2 H'/\H' D=AA (.lst ys')/\AA D∉φ2/\yu X.K S.cl (Bx B D) φ2 H' st2/\yH X.K S.cl (Bx B D) φ2 H' (sl.map λo=>o.bind λj=>(ρ[j]?).join) σ' /\
     ye X.K S.cl (Bx B D) φ2 H' vs ys'/\yaL one (xs.drop (i+1)) st2=.ok rest st5/\vs++rest=zs,λσ' ys' H' ⟨φ2,st2,vs,rest,q⟩=>⟨m-1,by lia,φ2,st2,vs,rest,by lia,q⟩,λx H3 hy=>?_⟩
    let⟨v,hv,rv,kk⟩:=dr.yld i φ2 H2 st2 x H3 (Bx B D) (λy z=>z.elim .inl λq=>.inr (q ▸ hD)) s2 rs2 hi hy;have s3:Step φ2 H2 φ2 H3:=⟨λb o _ e=>kk b o e,AR _,λ_ _ _ e=>e,λ_ h=>.inl h⟩;have rs3:yu X.K S.cl (Bx B D) φ2 H3 st2:=rs2.same kk;have ed:xs.drop i=v::xs.drop (i+1):=by
     rw[ET hi];rw[CP hi]at hv;rw[AY hv]
    rw[ed,yaL]at ec;let⟨o,st3,e1,ec⟩:=zbw ec;let⟨rest',st4,e2,ec⟩:=zbw ec;rw[<-hone]at e1;dsimp only at e1
    cases eb:yD ct v (sl.map λo=>o.bind λj=>(ρ[j]?).join)with
    |none=>rw[eb]at e1;cases e1
    |some ρ1=>
     rw[eb]at e1;dsimp only at e1;let⟨bv,st6,e3,e1⟩:=zbw e1;let⟨k,e4,e1⟩:=zpD e1;have er:st4=st5/\ybQ o rest'=rest:=by
      injection ec with q1 q2;exact⟨q2,q1⟩
     let⟨rfl,rfl⟩:=er;refine⟨Bx B D,φ2,st2,_,v,ρ1,rs3,re2.step s3,rv,eb,λσ4 re4=>⟨Bx B D,φ2,st2,ρ1,rs3,re4,?_⟩⟩;have et:yaO (ev S.call ρ1 st2 cc)=.ok k st6:=by
      rw[e3];erw[yaO,R.bind,e4,onO]
     rw[et]
     rintro k' H5 φ5 s5 rs5 rfl
     have nD5:AA D∉φ5:=λz=>by
      rcases s5.new D z with q|q
      .exact nD2 q
      .rw[kk D _ hD2]at q;cases q
     have hD5:H5 D=AA (.lst ys):=s5.keep D _ nD2 (kk D _ hD2);have s25:Step φ1 H1 φ5 H5:=s2.trans (s3.trans s5);have l5:=(l2.step s3).step s5;have re5:yH X.K S.cl (Bx B D) φ5 H5 ρ1 σ4:=re4.step s5;have h0:∀(i:Nat),sl[i]?=AA AD->(sl.map λo=>o.bind λj=>(ρ[j]?).join)[i]?=AA none:=λi q=>by
      rw[Bk,q];rfl
     cases k with
     |false=>
      erw[cond_false]at e1
      cases e1
      exact⟨φ5,_,vs,rest',s25,hD5,nD5,rs5,yH.untgt hf h0 eb re5,l5,e2,ez⟩
     |true=>
      erw[cond_true]at e1;let⟨y,st7,e5,e1⟩:=zbw e1
      cases e1
      refine⟨Bx B D,φ5,st6,ρ1,rs5,re5,?_⟩;rw[e5];intro y' H6 φ6 s6 rs6 ry;have nD6:AA D∉φ6:=λz=>by
       rcases s6.new D z with q|q
       .exact nD5 q
       .rw[hD5]at q;cases q
      have hD6:H6 D=AA (.lst ys):=s6.keep D _ nD5 hD5;have hBD:Bx B D D:=.inr rfl;refine⟨hD6,φ6,_,vs++[y],rest',?_,zm,nD6,rs6.skip hBD,(yH.untgt hf h0 eb (re5.step s6)).skip hBD,((l5.step s6).append (by erw[ye];exact⟨y',[],rfl,ry,rfl⟩)).skip hBD,e2,?_⟩
      .have s16:=s25.trans s6;exact⟨λb o n q=>by rw[zd (zk q hD)];exact s16.keep b o n q,s16.len,s16.pre,s16.new⟩
      .simpa [ybQ] using ez
   .have ei:i=xs.length:=by lia
    subst ei;rw[Gq,yaL]at ec
    cases ec
    refine .inl ⟨dr.stop φ2 H2 s2,h1 (.ref D) H2 φ2 s2 rs2.less ?_⟩;erw[yd];exact⟨D,ys,rfl,⟨hD2,nB,nD2⟩,by rw[<-ez,Br];exact l2.less⟩
def zmS{sc:BZ}{NC:List AL}{sl:List (Option Nat)}{ifs:List AT}(hc:X.calm=AC)(O:yZ X sc NC sl)(hf:yaq ct sl=AC)(hi:PI X tg iter (tI S X ci))(hg:∀j,PG (cxC X sc NC j) tg (tG0 S X.K ct))
  (ht:∀j,PTs (cxC X sc NC j) ifs (tT0 S X.K cc)) (he:∀j,PE (cxC X sc NC j) elt (tE0 S X.K ce)) (hs:∀x,foldedSetIterable iter X.env x=pure x:=by intro _;rfl):
  PE X (.ListComp elt [⟨tg,iter,ifs,0⟩] sc pos) (tE S X (.comp sl ct ci cc ce)):=
 (zls hc O hi hg ht he hs).imp λσ H Q h=>ziC hf h
end
end L2
namespace IC
open PySem
def RLe{α:Type}(r q:R α):Prop:=r=.bad \/ r=q
def FLe(f g:Fl):Prop:=f=.bad \/ f=g
abbrev Cl:=Nat->List PV->SO->R PV
def CLe(c d:Cl):Prop:=∀f a s,RLe (c f a s) (d f a s)
theorem RLe.rfl{α:Type}{r:R α}:RLe r r:=.inr (C4 _)
theorem FLe.rfl{f:Fl}:FLe f f:=.inr (C4 _)
theorem RLe.bind{α β:Type}{r q:R α}{k l:α->SO->R β}(h:RLe r q)(hk:∀a s,RLe (k a s) (l a s)):RLe (r.bind k) (q.bind l):=by
 rcases h with h|h
 .subst h;exact .inl (C4 _)
 .subst h
  cases r with
  |ok a s=>exact hk a s
  |exc c s=>exact .rfl
  |bad=>exact .rfl
theorem RLe.fl{α:Type}{r q:R α}{ρ:Env}{k l:α->SO->Fl}(h:RLe r q)(hk:∀a s,FLe (k a s) (l a s)):FLe (r.fl ρ k) (q.fl ρ l):=by
 rcases h with h|h
 .subst h;exact .inl (C4 _)
 .subst h
  cases r with
  |ok a s=>exact hk a s
  |exc c s=>exact .rfl
  |bad=>exact .rfl
theorem RLe.comp{r q:R (List PV)}(h:RLe r q):RLe (ycq r) (ycq q):=by
 rcases h with h|h
 .subst h;exact .inl (C4 _)
 .subst h;exact .rfl
def ziL{α:Type}{x:PV}{k l:Bool->R α}(h:∀b,RLe (k b) (l b)):RLe (onBl x k) (onBl x l):=by
 cases x with
 |bl b=>exact h b
 |_=>exact .rfl
def zeX{α:Type}{x:Option Bool}{k l:Bool->R α}(h:∀b,RLe (k b) (l b)):RLe (onO x k) (onO x l):=by
 cases x with
 |some b=>exact h b
 |none=>exact .rfl
def zk6{x:Option Bool}{k l:Bool->Fl}(h:∀b,FLe (k b) (l b)):FLe (onF x k) (onF x l):=by
 cases x with
 |some b=>exact h b
 |none=>exact .rfl
def zny{α:Type}{x:Option (Option Int)}{k l:Option Int->R α}(h:∀b,RLe (k b) (l b)):RLe (onP x k) (onP x l):=by
 cases x with
 |some b=>exact h b
 |none=>exact .rfl
def zdJ{α:Type}{b:Bool}{r q r' q':R α}(h:RLe r q)(h':RLe r' q'):RLe (cond b r r') (cond b q q'):=by
 cases b
 .exact h'
 .exact h
def zgi{b:Bool}{r q r' q':Fl}(h:FLe r q)(h':FLe r' q'):FLe (cond b r r') (cond b q q'):=by
 cases b
 .exact h'
 .exact h
def zc4{f g:PV->SO->R (Option PV)}(h:∀x s,RLe (f x s) (g x s)):∀xs s,RLe (yaL f xs s) (yaL g xs s)
 |[],s=>.rfl
 |x::xs,s=>(h x s).bind λo s1=>(zc4 h xs s1).bind λys s2=>.rfl
def zdF{f g:Fl}{k l:Env->SO->Fl}(h:FLe f g)(hk:∀ρ s,FLe (k ρ s) (l ρ s)):FLe (yao f k) (yao g l):=by
 rcases h with h|h
 .subst h;exact .inl (C4 _)
 .subst h
  cases f with
  |nx ρ s=>exact hk ρ s
  |ct ρ s=>exact hk ρ s
  |_=>exact .rfl
def zeI{t:Tg}{f g:Env->SO->Fl}(h:∀ρ s,FLe (f ρ s) (g ρ s)):∀xs ρ s,FLe (forL t f xs ρ s) (forL t g xs ρ s)
 |[],ρ,s=>.rfl
 |x::xs,ρ,s=>by
  unfold forL
  cases yD t x ρ with
  |none=>exact .rfl
  |some ρ1=>exact zdF (h ρ1 s) λρ2 s2=>zeI h xs ρ2 s2
def zfg{t u:Env->SO->R PV}{f g:Env->SO->Fl}(ht:∀ρ s,RLe (t ρ s) (u ρ s))(h:∀ρ s,FLe (f ρ s) (g ρ s)):∀n ρ s,FLe (yad t f n ρ s) (yad u g n ρ s)
 |0,ρ,s=>.rfl
 |n+1,ρ,s=>by
  unfold yad;exact(ht ρ s).fl λx s1=>zk6 λb=>zgi (zdF (h ρ s1) λρ2 s2=>zfg ht h n ρ2 s2) .rfl
mutual
theorem zj{c d:Cl}(h:CLe c d):∀(e:Ce) (ρ:Env) (s:SO),RLe (ev c ρ s e) (ev d ρ s e)
 |.cst v,ρ,s=>by exact .rfl
 |.var i,ρ,s=>by exact .rfl
 |.bin o a b,ρ,s=>by
  exact(zj h a ρ s).bind λx s1=>(zj h b ρ s1).bind λy s2=>.rfl
 |.neg a,ρ,s=>by
  exact(zj h a ρ s).bind λx s1=>.rfl
 |.not a,ρ,s=>by
  exact(zj h a ρ s).bind λx s1=>.rfl
 |.and a b,ρ,s=>by
  refine(zj h a ρ s).bind λx s1=>?_;exact ziL λk=>zdJ (zj h b ρ s1) .rfl
 |.or a b,ρ,s=>by
  refine(zj h a ρ s).bind λx s1=>?_;exact ziL λk=>zdJ .rfl (zj h b ρ s1)
 |.cmp o a b,ρ,s=>by
  exact(zj h a ρ s).bind λx s1=>(zj h b ρ s1).bind λy s2=>.rfl
 |.chain o p a b k,ρ,s=>by
  refine(zj h a ρ s).bind λx s1=>(zj h b ρ s1).bind λy s2=>?_;exact zeX λq=>zdJ ((zj h k ρ s2).bind λz s3=>.rfl) .rfl
 |.ite k a b,ρ,s=>by
  exact(zj h k ρ s).bind λx s1=>zeX λq=>zdJ (zj h a ρ s1) (zj h b ρ s1)
 |.tup es,ρ,s=>by
  exact(zaQ h es ρ s).bind λx s1=>.rfl
 |.lst es,ρ,s=>by
  exact(zaQ h es ρ s).bind λx s1=>.rfl
 |.newl es,ρ,s=>by
  exact(zaQ h es ρ s).bind λx s1=>.rfl
 |.dict0 t,ρ,s=>by exact .rfl
 |.idx a i,ρ,s=>by
  exact(zj h a ρ s).bind λx s1=>(zj h i ρ s1).bind λy s2=>.rfl
 |.slc a l u,ρ,s=>by
  exact(zj h a ρ s).bind λx s1=>(zj h l ρ s1).bind λy s2=>zny λo=>(zj h u ρ s2).bind λz s3=>.rfl
 |.call f es,ρ,s=>by
  exact(zaQ h es ρ s).bind λx s1=>h f x s1
 |.blt b es,ρ,s=>by
  exact(zaQ h es ρ s).bind λx s1=>.rfl
 |.mth m o es,ρ,s=>by
  exact(zj h o ρ s).bind λx s1=>zeX λ_=>(zaQ h es ρ s1).bind λy s2=>.rfl
 |.isi a ts,ρ,s=>by
  exact(zj h a ρ s).bind λx s1=>.rfl
 |.isx a cs ts,ρ,s=>by
  exact(zj h a ρ s).bind λx s1=>.rfl
 |.comp sl tg it k e,ρ,s=>by
  refine(zi8 h it ρ s).bind λxs s1=>?_;have q:=λ(f g:PV->SO->R (Option PV)) (hfg:∀x s,RLe (f x s) (g x s))=>zc4 hfg xs s1;refine RLe.comp (zc4 (λx s2=>?_) xs s1)
  cases yD tg x _ with
  |none=>exact .rfl
  |some ρ1=>
   dsimp only;exact(zj h k ρ1 s2).bind λb s3=>zeX λq=>zdJ ((zj h e ρ1 s3).bind λy s4=>.rfl) .rfl
 |.nope,ρ,s=>by exact .rfl
 |.frz a,ρ,s=>by
  exact(zj h a ρ s).bind λx s1=>.rfl
 |.fst es,ρ,s=>by
  first|unfold ev|unfold ex|unfold evs|unfold evi|unfold exs
  rcases zaQ h es ρ s with e|e
  .rw[e];exact .inl (C4 _)
  .rw[e];exact .rfl
 |.rep a b,ρ,s=>by
  exact(zj h a ρ s).bind λx s1=>(zj h b ρ s1).bind λy s2=>.rfl
 |.dix D a,ρ,s=>by
  exact(zj h a ρ s).bind λx s1=>.rfl
 |.din a D,ρ,s=>by
  exact(zj h a ρ s).bind λx s1=>.rfl
 |.nin a b,ρ,s=>by
  exact(zj h a ρ s).bind λx s1=>(zj h b ρ s1).bind λy s2=>.rfl
 |.fld q a f,ρ,s=>by
  exact(zj h a ρ s).bind λx s1=>.rfl
 |.new q i es,ρ,s=>by
  refine(zaQ h es ρ s).bind λx s1=>RLe.bind ?_ λv s2=>.rfl;rcases h i (.loc s1.length::x) (s1++[.ins q []])with e|e
  .rw[e];exact .inl (C4 _)
  .rw[e];exact .rfl
 |.qcl i es,ρ,s=>by
  refine(zaQ h es ρ s).bind λx s1=>?_;rcases h i x s1 with e|e
  .rw[e];exact .inl (C4 _)
  .rw[e];exact .rfl
 |.inn a b,ρ,s=>by
  exact(zj h a ρ s).bind λx s1=>(zj h b ρ s1).bind λy s2=>.rfl
 |.mcl q i m o es,ρ,s=>by
  exact(zj h o ρ s).bind λx s1=>zeX λ_=>(zaQ h es ρ s1).bind λy s2=>h i (x::y) s2
 |.cav i L es,ρ,s=>by
  erw[ev]
  cases yb0 L ρ[i]? with
  |none=>exact .rfl
  |some j=>exact(zaQ h es ρ s).bind λx s1=>h j x s1
theorem zaQ{c d:Cl}(h:CLe c d):∀(e:Ces) (ρ:Env) (s:SO),RLe (evs c ρ s e) (evs d ρ s e)
 |.nil,ρ,s=>by exact .rfl
 |.cons e es,ρ,s=>by
  exact(zj h e ρ s).bind λx s1=>(zaQ h es ρ s1).bind λy s2=>.rfl
theorem zi8{c d:Cl}(h:CLe c d):∀(e:Cit) (ρ:Env) (s:SO),RLe (evi c ρ s e) (evi d ρ s e)
 |.seq e,ρ,s=>by
  exact(zj h e ρ s).bind λx s1=>.rfl
 |.range1 a,ρ,s=>by
  exact(zj h a ρ s).bind λx s1=>.rfl
 |.range2 a b,ρ,s=>by
  exact(zj h a ρ s).bind λx s1=>(zj h b ρ s1).bind λy s2=>.rfl
 |.rangeD a b,ρ,s=>by
  exact(zj h a ρ s).bind λx s1=>(zj h b ρ s1).bind λy s2=>.rfl
 |.enum e,ρ,s=>by
  exact(zj h e ρ s).bind λx s1=>.rfl
 |.zip a b,ρ,s=>by
  exact(zj h a ρ s).bind λx s1=>(zj h b ρ s1).bind λy s2=>.rfl
 |.revl e,ρ,s=>by
  exact(zj h e ρ s).bind λx s1=>.rfl
 |.revr e,ρ,s=>by
  exact(zj h e ρ s).bind λx s1=>.rfl
 |.chars e,ρ,s=>by
  exact(zj h e ρ s).bind λx s1=>.rfl
end
mutual
theorem zpR{c d:Cl}(h:CLe c d):∀(x:Cs) (ρ:Env) (s:SO),FLe (ex c ρ s x) (ex d ρ s x)
 |.expr e,ρ,s=>by
  exact(zj h e ρ s).fl λx s1=>.rfl
 |.asg t e,ρ,s=>by
  exact(zj h e ρ s).fl λx s1=>.rfl
 |.six o i e,ρ,s=>by
  exact(zj h e ρ s).fl λx s1=>(zj h o ρ s1).fl λy s2=>(zj h i ρ s2).fl λz s3=>.rfl
 |.dput o i e,ρ,s=>by
  exact(zj h e ρ s).fl λx s1=>(zj h o ρ s1).fl λy s2=>(zj h i ρ s2).fl λz s3=>.rfl
 |.aug i o e,ρ,s=>by
  first|unfold ev|unfold ex|unfold evs|unfold evi|unfold exs
  split
  .exact(zj h e ρ s).fl λx s1=>.rfl
  .exact .rfl
 |.ret e,ρ,s=>by
  exact(zj h e ρ s).fl λx s1=>.rfl
 |.ite k a b,ρ,s=>by
  exact(zj h k ρ s).fl λx s1=>zk6 λq=>zgi (zbb h a ρ s1) (zbb h b ρ s1)
 |.for t it b,ρ,s=>by
  exact(zi8 h it ρ s).fl λxs s1=>zeI (λρ2 s2=>zbb h b ρ2 s2) xs ρ s1
 |.while k b,ρ,s=>by
  exact zfg (λρ2 s2=>zj h k ρ2 s2) (λρ2 s2=>zbb h b ρ2 s2) _ ρ s
 |.nope,ρ,s=>by exact .rfl
 |.raise k e,ρ,s=>by
  exact(zj h e ρ s).fl λx s1=>.rfl
 |.try b k i u,ρ,s=>by
  first|unfold ev|unfold ex|unfold evs|unfold evi|unfold exs
  rcases zbb h b ρ s with e|e
  .rw[e];exact .inl (C4 _)
  .rw[e]
   cases exs d ρ s b with
   |exc q ρ1 s1=>
    dsimp only;split
    .rcases zbb h u (ρ1.set i (AA (.exn q))) s1 with e|e
     .rw[e];exact .inl (C4 _)
     .rw[e];exact .rfl
    .exact .rfl
   |_=>exact .rfl
 |.mkr i D n es,ρ,s=>by
  refine(zj h n ρ s).fl λx s1=>?_;split
  .exact((zaQ h es _ s1).bind λvs s2=>h _ vs s2).fl λv s3=>.rfl
  .exact .rfl
 |.sfl q o f e,ρ,s=>by
  exact(zj h e ρ s).fl λx s1=>(zj h o ρ s1).fl λy s2=>.rfl
theorem zbb{c d:Cl}(h:CLe c d):∀(x:Css) (ρ:Env) (s:SO),FLe (exs c ρ s x) (exs d ρ s x)
 |.nil,ρ,s=>by exact .rfl
 |.cons x xs,ρ,s=>by
  first|unfold ev|unfold ex|unfold evs|unfold evi|unfold exs
  rcases zpR h x ρ s with e|e
  .rw[e];exact .inl (C4 _)
  .rw[e]
   cases ex d ρ s x with
   |nx ρ1 s1=>exact zbb h xs ρ1 s1
   |_=>exact .rfl
end
def zeQ(T:Nat->Option Fn):∀k,CLe (yc T k) (yc T (k+1))
 |0,f,a,s=>.inl (C4 _)
 |k+1,f,a,s=>by
  have h:=zeQ T k;rw[yc,yc]
  cases T f with
  |none=>exact .rfl
  |some fn=>
   dsimp only;split
   .split
    .split
     .rcases zbb h fn.body (a.map AA++AM (fn.ns-fn.np) AD) []with e|e
      .rw[e];exact .inl (C4 _)
      .rw[e];exact .rfl
     .exact .rfl
    .rcases zbb h fn.body (a.map AA++AM (fn.ns-fn.np) AD) s with e|e
     .rw[e];exact .inl (C4 _)
     .rw[e];exact .rfl
   .exact .rfl
def zN{T:Nat->Option Fn}{k:Nat}{f:Nat}{a:List PV}{s s':SO}{v:PV}(h:yc T k f a s=.ok v s'):∀j,yc T (k+j) f a s=.ok v s'
 |0=>h
 |j+1=>by
  have q:=zN h j;rcases zeQ T (k+j) f a s with e|e
  .rw[q]at e;cases e
  .rw[D9]at e;rw[<-e];exact q
end IC
namespace L2
open PySem PySem.Spec PyProof.Rows IC
def spI(K:AF)(cl:Nat->AJ)(call:Nat->List PV->SO->R PV)(f:Nat):Sp:=λvs H Q E=>∃B φ st args,yu K cl B φ H st/\ye K cl B φ H args vs/\match call f args st with
 |.ok v st'=>∀x H' φ',Step φ H φ' H'->yu K cl B φ' H' st'->yd K cl B φ' H' v x->Q x H'
 |.exc c st'=>∀H' φ',Step φ H φ' H'->yu K cl B φ' H' st'->E (.ref (cl c)) AD H'
 |.bad=>False
section
variable {S:Se}{X:Cx}{k:Nat}{f:AJ}{fd:Ao}{ps ks:List AL}{sp:Sp}{dvs:List V}{ds:List AG}{x:AL}{p pos:CB}{e:AT}{es:List AT}{t tk:TA}{CX:CXT}{σ:St}{H:Hp}
def zdK{π:List (AJ×B7)}{s:AK}{Q:VK}{us:List AG}{vs:List V}{E:XK}(F:yaA X.prog X.w X.K X.mg X.base CX k f fd ps sp)(hr:yah k X.A)(hb:Binds X.K fd ps ds)(hd:Vals dvs ds)
  (I:Inv X π σ H s) (r:Vals vs us) (h:sp (vs++dvs) H Q E) (hx:∀e s',CX X.stack H s E e s'->X.xe e s'):A2 (model X.prog X.w) X.A (call (.ref f) us) (EP X π σ Q) X.xe s:=by
 have r2:Vals (vs++dvs) (us++ds):=r.append hd;have hl:(us++ds).length=ps.length:=by rw[<-r2.length];exact F.len _ _ _ _ h
 refine GL (DF (F.run X.A X.stack s H ⟨us,[]⟩ (us++ds) (vs++dvs) Q E hr I.env0 (hb s us I.kIn hl) r2 h) λr s' hq=>?_)
 cases r with
 |error e=>exact hx e s' hq
 |ok fl=>
  cases fl with
  |ret u=>exact I.after hq
  |next=>exact BH hq
  |brk=>exact BH hq
  |cont=>exact BH hq
def ycg(CX:CXT)(X:Cx)(sp:Sp)(dvs:List V)(t:TA):TE:=λσ H Q=>t σ H λvs H1=>∃E:XK,sp (vs++dvs) H1 Q E/\∀π s e s',Inv X π σ H1 s->CX X.stack H1 s E e s'->X.xe e s'
def zkn(F:yaA X.prog X.w X.K X.mg X.base CX k f fd ps sp)(hr:yah k X.A)(hg:Gl X x)(hm:X.mg x=AA (.ref f))(hk:Ab X.K (.ref f)=AC)(hb:Binds X.K fd ps ds)(hd:Vals dvs ds)
  (ha:PA X (e::es) t) (hdb:(x==("__debug__":AL))=false:=by decide) (he:starEach (e::es) X.env=(AB,eval e X.env)::starEach es X.env:=by rfl) (hpl:(backTo pos (starEach es X.env)).any (·.1)=false:=by rfl):
  PE X (.Call (.Name x p) (e::es) [] pos) (ycg CX X sp dvs t):=by
 intro π s σ H Q I h;refine BI (zbi I hg hm ?_ hdb);refine C3 (h₀:=X.base) I.ok.mod.kin hk (thn (ha pos π s σ H _ I h) λus s1 kq=>?_) he hpl;let⟨vs,H1,I1,r,E,q,hx⟩:=kq;refine ⟨I1.kIn,?_⟩;exact zdK F hr hb hd I1 r q λe s' c=>hx π s1 e s' I1 c
def ziQ(F:yaA X.prog X.w X.K X.mg X.base CX k f fd ps sp)(hr:yah k X.A)(hg:Gl X x)(hm:X.mg x=AA (.ref f))(hk:Ab X.K (.ref f)=AC)(hb:Binds X.K fd ps ds)(hd:Vals dvs ds)
  (hdb:(x==("__debug__":AL))=false:=by decide):PE X (.Call (.Name x p) [] [] pos) (ycg CX X sp dvs ydE):=by
 intro π s σ H Q I h;let⟨E,q,hx⟩:=h;refine BI (zbi I hg hm ?_ hdb);exact Fq I.kIn hk (zdK F hr hb hd I .nil q λe s' c=>hx π s e s' I c)
variable {B:AJ->Prop}{φ:Ph}{st:SO}{ces:Ces}{fi:Nat}
def zaT{vs:List PV}{xs:List V}{Q:VK}(rs:yu X.K S.cl B φ H st)(l:ye X.K S.cl B φ H vs xs)(h:Run S X σ B φ H (RV S X B) (S.call fi vs st) Q):
  ∃E:XK,spI X.K S.cl S.call fi xs H Q E/\∀π s e s',Inv X π σ H s->CX1 X.prog X.w X.stack H s E e s'->X.xe e s':=by
 cases c:S.call fi vs st with
 |ok v st'=>
  rw[c]at h;refine⟨λ_ _ _=>False,⟨B,φ,st,vs,rs,l,by rw[c];exact h⟩,λπ s e s' _ z=>?_⟩;let⟨_,_,_,_,_,_,_,_,_,_,_,_,_,_,z⟩:=z;exact z.elim
 |exc k st'=>
  rw[c]at h;refine⟨λcls _ H'=>cls=.ref (S.cl k)/\∃φ',Step φ H φ' H'/\yu X.K S.cl B φ' H' st',⟨B,φ,st,vs,rs,l,by rw[c];exact λH' φ' s r=>⟨rfl,φ',s,r⟩⟩,λπ s e s' I z=>h e s' (.inl ⟨π,H,s,φ,I,.rfl,z⟩)⟩
 |bad=>rw[c]at h;exact h.elim
def zmb(F:yaA X.prog X.w X.K X.mg X.base (CX1 X.prog X.w) k f fd ps (spI X.K S.cl S.call fi))(hr:yah k X.A)(hg:Gl X x)(hm:X.mg x=AA (.ref f))(hk:Ab X.K (.ref f)=AC)(hb:Binds X.K fd ps [])
  (ha:PA X (e::es) (tAs S X ces)) (hdb:(x==("__debug__":AL))=false:=by decide) (he:starEach (e::es) X.env=(AB,eval e X.env)::starEach es X.env:=by rfl) (hpl:(backTo pos (starEach es X.env)).any (·.1)=false:=by rfl):
  PE X (.Call (.Name x p) (e::es) [] pos) (tE S X (.call fi ces)):=
 (zkn F hr hg hm hk hb .nil ha hdb he hpl).imp λσ H Q ⟨B,φ,st,ρ,rs,re,h⟩=>by
  erw[ev]at h;refine tAs.bind rs re h λxs H1 vs st1 φ1 s1 rs1 re1 rv h1=>?_;rw[Br];exact zaT rs1 rv h1
def zjJ(F:yaA X.prog X.w X.K X.mg X.base (CX1 X.prog X.w) k f fd ps (spI X.K S.cl S.call fi))(hr:yah k X.A)(hg:Gl X x)(hm:X.mg x=AA (.ref f))(hk:Ab X.K (.ref f)=AC)(hb:Binds X.K fd ps [])
  (hdb:(x==("__debug__":AL))=false:=by decide):PE X (.Call (.Name x p) [] [] pos) (tE S X (.call fi .nil)):=
 (ziQ F hr hg hm hk hb .nil hdb).imp λσ H Q ⟨B,φ,st,ρ,rs,re,h⟩=>by
  erw[ev,evs,R.bind]at h;exact zaT rs (by erw[ye];rfl) h
end
section
variable {P:A4}{w:Af}{K:AF}{mg:AL->Option AG}{base:Aq}{cl:Nat->AJ}{T:Nat->Option IC.Fn}{fi:Nat}{fn:IC.Fn}{x qual:AL}{stm:B9}{f:AJ}{fd:Ao}{N ps:List AL}{k:Nat}
theorem CX1.mono{outer:List BG}{H:Hp}{s:AK}{E E':XK}{e:AG}{s':AK}(h:CX1 P w outer H s E e s')(n:∀cls H',E cls AD H'->E' cls AD H'):CX1 P w outer H s E' e s':=by
 let⟨a,cls,a0,H',Bh,r1,r2,r3,r4,r5,r6,r7,r8,r9,r10⟩:=h;exact⟨a,cls,a0,H',Bh,r1,r2,r3,r4,r5,r6,r7,r8,r9,n _ _ r10⟩
theorem yH.start{B:AJ->Prop}{φ:Ph}{H:Hp}{args:List PV}{vs:List V}(l:ye K cl B φ H args vs)(n:Nat)(hn:N.length-vs.length=n):yH K cl B φ H (args.map AA++AM n AD) (L2.start N vs):=by
 have hl:=l.length;unfold L2.start;refine⟨by simp[hl,hn],λi v e=>?_⟩
 by_cases hi:i<args.length
 .rw[Ae (by simpa using hi),Bk]at e
  cases q:args[i]? with
  |none=>rw[q]at e;cases e
  |some v'=>
   rw[q]at e
   cases e
   let⟨y,hy,rv⟩:=l.get i q;exact⟨y,by rw[Ae (by simp;lia),Bk,hy];rfl,rv⟩
 .rw[Ak (by simp;lia),Es]at e;split at e<;>cases e
theorem leave{N:List AL}{scope:BZ}{cd:AG}{A:Ag}{outer:List BG}{s₀:AK}{H₀:Hp}{E:XK}{call:Nat->List PV->SO->R PV}{σ:St}{B:AJ->Prop}{φ:Ph}{H:Hp}{c:Nat}{st':SO}{e:AG}{s':AK}
  (h:ExcAt ⟨cl,call,AC⟩ (yaE (CX1 P w) P w K mg base N qual scope f cd A outer s₀ H₀ E) σ B φ H c st' e s') (n:∀φ' H',Step φ H φ' H'->yu K cl B φ' H' st'->E (.ref (cl c)) AD H'):
  (yaE (CX1 P w) P w K mg base N qual scope f cd A outer s₀ H₀ E).xe e s':=by
 rcases h with⟨π,H1,s,φ1,I,s1,q⟩|⟨_,π,H1,s,φ1,h',e0,vs,I,s1,rs,mk,rfl,rfl⟩|⟨_,π,H1,s,I,q⟩
 .exact zqC π σ H1 s e s' I (q.mono λcls H' ⟨e1,φ',s2,r⟩=>by subst e1;exact n φ' H' (s1.trans s2) r)
 .exact ziN I mk (n φ1 H1 s1 rs)
 .exact zqF I (q.mono λcls H' ⟨e1,φ',s2,r⟩=>by subst e1;exact n φ' H' s2 r)
def zie(hT:T fi=AA fn):∀(args:List PV) (st:SO),yc T (k+1) fi args st ≠ .bad->args.length=fn.np:=λargs st hne=>by
 apply Classical.byContradiction;intro c;apply hne;rw[yc,hT];exact if_neg c
def zlb(hT:T fi=AA fn)(hnp:ps.length=fn.np){vs:List V}{H:Hp}{Q:VK}{E:XK}(h:spI K cl (yc T (k+1)) fi vs H Q E):vs.length=ps.length:=by
 let⟨B,φ,st,args,rs,l,h⟩:=h;rw[hnp,<-l.length];refine zie (k:=k) hT args st λz=>?_;rw[z]at h;exact h
def znh(hT:T fi=AA fn)(hns:N.length=fn.ns){scope:BZ}{cdv:AG}{A:Ag}{outer:List BG}{s:AK}{vs:List V}{H:Hp}{Q:VK}{E:XK}(h:spI K cl (yc T (k+1)) fi vs H Q E):
  tSs ⟨cl,yc T k,AC⟩ (yaE (CX1 P w) P w K mg base N qual scope f cdv A outer s H E) fn.body {nx:=λ_ H'=>Q .non H',rt:=Q} (L2.start N vs) H:=by
 let⟨B,φ,st,args,rs,l,h⟩:=h;have hl:args.length=fn.np:=zie (k:=k) hT args st λz=>by rw[z]at h;exact h
 have hlen:=l.length;rw[yc,hT]at h;dsimp only at h;rw[if_pos hl]at h
 by_cases hp:fn.pure=AC
 .rw[if_pos hp]at h
  by_cases hz:nLs args=AC
  .rw[if_pos hz]at h;have rs0:yu K cl (λa=>B a \/ AA a∈φ) [] H []:=⟨rfl,λm n a e=>by simp at e,λn a e=>by simp at e,λn o e=>by simp at e,λa z=>by simp at z,λa z=>z.elim (rs.dom a) rs.there⟩;have back:∀{φ':Ph} {H':Hp},Step [] H φ' H'->Step φ H φ H'/\yu K cl B φ H' st:=λ{φ' H'} s'=>
    have kk:∀b o,H b=AA o->H' b=AA o:=λb o e=>s'.keep b o (by simp) e
    ⟨⟨λb o _ e=>kk b o e,AR _,λ_ _ _ e=>e,λ_ h=>.inl h⟩,rs.same kk⟩
   refine⟨_,[],[],_,rs0,yH.start (ye.inn rs.nb args vs hz l) (fn.ns-fn.np) ∅,?_⟩;show yag _ _ _ _ _ (exs (yc T k) (args.map AA++AM (fn.ns-fn.np) AD) [] fn.body) _
   cases e:exs (yc T k) (args.map AA++AM (fn.ns-fn.np) AD) [] fn.body with
   |nx ρ' st'=>
    rw[e]at h;intro σ' H' φ' s' rs' re';let⟨s2,r2⟩:=back s';exact h .non H' φ s2 r2 (by erw[yd])
   |rt v st'=>
    rw[e]at h;dsimp only at h
    by_cases hv:nL v=AC
    .rw[if_pos hv]at h;intro y H' φ' s' rs' rv;let⟨s2,r2⟩:=back s';exact h y H' φ s2 r2 (yd.out v y hv rv)
    .rw[if_neg hv]at h;exact h.elim
   |exc c ρ' st'=>
    rw[e]at h;intro σ' φ1 H1 ev s' s1 _ ex;refine leave ex λφ2 H2 s2 _=>?_;let⟨s3,r3⟩:=back (s1.trans s2);exact h H2 φ s3 r3
   |bk ρ' st'=>rw[e]at h;exact h.elim
   |ct ρ' st'=>rw[e]at h;exact h.elim
   |bad=>rw[e]at h;exact h.elim
  .rw[if_neg hz]at h;exact h.elim
 .rw[if_neg hp]at h;refine⟨B,φ,st,_,rs,yH.start l (fn.ns-fn.np) ∅,?_⟩;show yag _ _ _ _ _ (exs (yc T k) (args.map AA++AM (fn.ns-fn.np) AD) st fn.body) _
  cases e:exs (yc T k) (args.map AA++AM (fn.ns-fn.np) AD) st fn.body with
  |nx ρ' st'=>
   rw[e]at h;intro σ' H' φ' s' rs' re';exact h .non H' φ' s' rs' (by erw[yd])
  |rt v st'=>
   rw[e]at h;intro y H' φ' s' rs' rv;exact h y H' φ' s' rs' rv
  |exc c ρ' st'=>
   rw[e]at h;intro σ' φ1 H1 ev s' s1 _ ex;exact leave ex λφ2 H2 s2 r2=>h H2 φ2 (s1.trans s2) r2
  |bk ρ' st'=>rw[e]at h;exact h.elim
  |ct ρ' st'=>rw[e]at h;exact h.elim
  |bad=>rw[e]at h;exact h.elim
end
def tyN:Ty->String
 |.int=>"int" | .bool=>"bool" | .str=>"str" | .tuple=>"tuple" | .list=>"list" | _=>""
structure yec(K:AF)(t:Ty):Prop where
 n:BC K (.type "NoneType") (.type (tyN t))=AA (yaU .non t)
 b:BC K (.type "bool") (.type (tyN t))=AA (yaU (.bl AC) t)
 i:BC K (.type "int") (.type (tyN t))=AA (yaU (.int 0) t)
 s:BC K (.type "str") (.type (tyN t))=AA (yaU (.str DA) t)
 p:BC K (.type "tuple") (.type (tyN t))=AA (yaU (.tp AC []) t)
 l:BC K (.type "list") (.type (tyN t))=AA (yaU (.lst []) t)
section
variable {S:Se}{X:Cx}{σ:St}{B:AJ->Prop}{φ:Ph}{H:Hp}{st:SO}{p pos p2 px:CB}{a b c d o:AT}{ca cb cc:Ce}{t:Ty}
def yhj(S:Se)(X:Cx)(t:Ty):List V->Hp->VK->Prop:=λxs H Q=>∃B φ st v x z,xs=[x,.ty (tyN t)]/\yu X.K S.cl B φ H st/\yd X.K S.cl B φ H v x/\yaR v [t]=AA z/\ydC t=AC /\
 ∀z' H' φ',Step φ H φ' H'->yu X.K S.cl B φ' H' st->yd X.K S.cl B φ' H' z z'->Q z' H'
def zpd(Z:yec X.K t):yQ X (.builtin "isinstance") (yhj S X t):=by
 rintro π s σ H xs us Q I r ⟨B,φ,st,v,x,z,rfl,rs,rv,e,hb,q⟩
 let⟨u,c',rfl,ru,rc⟩:=vals2 r
 cases (show c'=FF (tyN t)from rc)
 have fin:∀(k:Bool) (tk:Nat),z=.bl k->EP X π σ Q (.bool k) {s with toks:=tk}:=λk tk ez=>⟨.bl k,H,I.tok tk,rfl,q _ H φ .rfl rs (by subst ez;erw[yd])⟩
 cases v with
 |non=>
  erw[yd]at rv;subst rv
  cases (show u=Bo from ru)
  erw[yaR,hb,if_true]at e;exact CJ PySem.W.kitx_none I.kIn C2 Z.n (λz=>nomatch z) λtk=>fin _ tk (by cases e;cases t<;>rfl)
 |bl k=>
  erw[yd]at rv;subst rv
  cases (show u=Dy k from ru)
  erw[yaR,hb,if_true]at e;exact CJ PySem.W.kitx_bool I.kIn C2 Z.b (λz=>nomatch z) λtk=>fin _ tk (by cases e;cases t<;>rfl)
 |int k=>
  erw[yd]at rv;subst rv;let⟨tk,rfl⟩:=ru;erw[yaR,hb,if_true]at e;exact CJ PySem.W.kitx_int I.kIn C2 Z.i (λz=>nomatch z) λtk=>fin _ tk (by cases e;cases t<;>rfl)
 |str k=>
  erw[yd]at rv;subst rv;let⟨tk,rfl⟩:=ru;erw[yaR,hb,if_true]at e;exact CJ PySem.W.kitx_str I.kIn C2 Z.s (λz=>nomatch z) λtk=>fin _ tk (by cases e;cases t<;>rfl)
 |tp k vs=>
  erw[yd]at rv;let⟨y,ys,rfl,rt,l⟩:=rv
  cases (show u=A7 y from ru)
  erw[yaR,hb,if_true]at e;let⟨its,_,⟨o,g,c,_,_⟩,_⟩:=I.tuple rt.sq;exact CJ PySem.W.kitx_tuple I.kIn ⟨o,g,c⟩ Z.p (λz=>nomatch z) λtk=>fin _ tk (by cases e;cases t<;>rfl)
 |lst vs=>
  erw[yd]at rv;let⟨y,ys,rfl,rt,l⟩:=rv
  cases (show u=A7 y from ru)
  erw[yaR,hb,if_true]at e;let⟨_,_,n,_,h1⟩:=(show yM X.prog X.w H s.heap y (.lst ys)from I.hok y _ rt.1);exact CJ PySem.W.kitx_list I.kIn ⟨_,h1,rfl⟩ Z.l (λz=>nomatch z) λtk=>fin _ tk (by cases e;cases t<;>rfl)
 |loc n=>cases e
 |scr n=>cases e
 |fnc n=>cases e
 |exn n=>erw[yaR,BE,List.all_nil,hb,GB,if_true]at e;cases e
def znL{T:AL}(Z:yec X.K t)(ht:ydC t=AC)(hg:Gl X "isinstance")(hm:X.mg "isinstance"=AD)(hgT:Gl X T)(hmT:X.mg T=AD)(hT:bootBuiltins T=AA (.type (tyN t)))(ha:PE X a (tE S X ca))(hnT:T ≠ "__name__":=by decide)(hdT:(T==("__debug__":AL))=false:=by decide)
  (he:starEach [a,.Name T p2] X.env=(AB,eval a X.env)::starEach [.Name T p2] X.env:=by rfl) (hpl:(backTo pos (starEach [.Name T p2] X.env)).any (·.1)=false:=by rfl):
  PE X (.Call (.Name "isinstance" p) [a,.Name T p2] [] pos) (tE S X (.isi ca [t])):=
 (zcZ (zpd Z) hg hm C9 (zaj ha (zaj (ziE (v:=.ty (tyN t)) hgT hmT hT rfl hnT hdT) zf2) he) ⋯ ⋯ he hpl).imp λσ H Q ⟨B,φ,st,ρ,rs,re,h⟩=>by
  erw[ev]at h;refine tE.bind rs re h λx H1 v st1 φ1 s1 rs1 re1 rv h1=>?_;let⟨z,e,q⟩:=zU h1 rs1;exact⟨B,φ1,st1,v,x,z,rfl,rs1,rv,e,ht,q⟩
def zji{st4:SO}{x y v:PV}(h:ybf st x y v=AA st4):∃n xs k j,x=.loc n/\st[n]?=AA (.lst xs)/\y=.int k/\ixI xs.length k=AA j/\st4=st.set n (.lst (xs.set j v)):=by
 cases x with
 |loc n=>
  erw[ybf]at h
  cases q:st[n]? with
  |none=>rw[q]at h;cases h
  |some o=>
   rw[q]at h
   cases o with
   |lst xs=>
    cases y with
    |int k=>
     dsimp only at h
     cases q2:ixI xs.length k with
     |none=>rw[q2]at h;cases h
     |some j=>rw[q2]at h;exact⟨n,xs,k,j,rfl,q,rfl,q2,(AY h).symm⟩
    |_=>cases h
   |_=>cases h
 |_=>cases h
theorem ye.put{K:AF}{cl:Nat->AJ}:∀{vs:List PV} {xs:List V} (j:Nat) {v:PV} {x:V},ye K cl B φ H vs xs->yd K cl B φ H v x->ye K cl B φ H (vs.set j v) (xs.set j x)
 |[],xs,j,v,x,l,r=>by erw[ye]at l;subst l;simp[ye]
 |w::vs,xs,0,v,x,l,r=>by
  erw[ye]at l;let⟨y,ys,rfl,_,l⟩:=l;erw[BJ,ye];exact⟨x,ys,rfl,r,l⟩
 |w::vs,xs,j+1,v,x,l,r=>by
  erw[ye]at l;let⟨y,ys,rfl,ry,l⟩:=l;erw[BK,ye];exact⟨y,ys.set j x,rfl,ry,ye.put j l r⟩
def zo7(he:PE X a (tE S X ca))(ho:PE X b (tE S X cb))(hi:PE X c (tE S X cc))(hs:swapsWithSole [.Subscript b c px] a pos.line X.env=pure false:=by rfl)(hw:swappedStores [.Subscript b c px] a X.env=pure none:=by rfl)
  (hg:PG X (.Subscript b c px) (yfz (tE S X cb) (tE S X cc) ydn):=by exact zld ‹_› ‹_› zgD):PS X (.Assign [.Subscript b c px] a pos) (tS S X (.six cb cc ca)):=
 (zlg he hg hs hw).imp λD σ H ⟨B,φ,st,ρ,rs,re,h⟩=>by
  erw[ex]at h;refine tE.fl rs re h λv' H1 v st1 φ1 s1 rs1 re1 rv h1=>tE.fl rs1 re1 h1 λx' H2 x st2 φ2 s2 rs2 re2 rx h2=>tE.fl rs2 re2 h2 λy' H3 y st3 φ3 s3 rs3 re3 ry h3=>?_
  cases e:ybf st3 x y v with
  |none=>rw[e]at h3;exact h3.elim
  |some st4=>
   rw[e]at h3;let⟨n,xs,k,j,rfl,hn,rfl,hj,rfl⟩:=zji e;erw[yd]at ry;subst ry;let⟨l,ys,rfl,hp,hx,lr⟩:=rs3.list (rx.step s3) hn;refine⟨l,ys,k,j,rfl,rfl,hx,by rw[<-lr.length];exact hj,?_⟩;have s4:Step φ3 H3 φ3 (L2.upd H3 l (.lst (ys.set j v'))):=.put (AW hp);exact h3 σ _ φ3 s4 (rs3.put hp ⟨_,zm,(lr.put j ((rv.step s2).step s3)).step s4⟩) (re3.step s4)
end
section
variable {S:Se}{X:Cx}{σ:St}{B:AJ->Prop}{φ:Ph}{H:Hp}{st:SO}{p pos p2 px py pt pt2 apos:CB}{a b c d o:AT}{ca cb cc:Ce}{kt k2:Nat}
def znZ{i j:Nat}{x y:AL}(hc:X.calm=AC)(hN:X.N.Nodup)(hi:X.N[i]?=AA x)(hj:X.N[j]?=AA y)(hij:i≠j)(h:PS X (.Assign [.Tuple [.Name x px,.Name y py] kt pt] (.Tuple [a,b] k2 pt2) pos) (yfn i j (tAs S X (.cons ca (.cons cb .nil))))):
  PS X (.Assign [.Tuple [.Name x px,.Name y py] kt pt] (.Tuple [a,b] k2 pt2) pos) (tS S X (.asg (.t [i,j]) (.tup (.cons ca (.cons cb .nil))))):=
 h.imp λD σ H ⟨B,φ,st,ρ,rs,re,h⟩=>by
  erw[ex,ev]at h;refine⟨B,φ,st,ρ,rs,re,?_⟩
  cases e:evs S.call ρ st (.cons ca (.cons cb .nil))with
  |bad=>rw[e]at h;exact h
  |exc k st'=>rw[e]at h;exact λe s' x=>h σ φ H e s' .rfl re x
  |ok vs st'=>
   rw[e]at h;intro xs H' φ' s rs' l;erw[R.bind]at h;split at h
   .rcases vs with _|⟨v,_|⟨w,_|⟨u,t⟩⟩⟩
    .exact h.elim
    .exact h.elim
    .let⟨v',w',rfl,rv,rw⟩:=l.two;refine⟨v',w',rfl,?_⟩;exact h _ H' φ' s rs' (((re.step s).set i rv).set j rw)
    .exact h.elim
   .exact h.elim
def znf{bo:BOp}{v w z:PV}(h:ybA bo v w=AA z):∃i j,v=.int i/\w=.int j/\IC.binI bo i j=AA z:=by
 unfold ybA at h;split at h
 .exact⟨_,_,rfl,rfl,h⟩
 .cases h
def zmL:PIp X .Add (rT2 S X (ybA .add)):=by
 rintro π s σ H x y v u Q I rx ry ⟨B,φ,st,a,b,z,rs,ra,rb,e,q⟩
 let⟨i,j,rfl,rfl,e⟩:=znf e
 cases e
 erw[yd]at ra rb;subst ra rb;exact zpi π s σ H _ _ v u Q I rx ry ⟨i,j,rfl,rfl,q _ H φ .rfl rs (by erw[yd])⟩
end
end L2
namespace WK
open PySem L2 IC
def GC(K:AF)(mg:AL->Option AG)(cl:Nat->AJ)(x:AL)(v:PV):Prop:=∃y:AJ,mg x=AA (.ref y)/\∀B φ H,yd K cl B φ H v (.ref y)
def zp7{S:Se}{X:Cx}{x:AL}{v:PV}{pos:CB}(hg:Gl X x)(h:GC X.K X.mg S.cl x v)(hd:(x==("__debug__":AL))=false:=by decide):PE X (.Name x pos) (tE S X (.cst v)):=by
 let⟨y,hm,hk⟩:=h;exact zim hg hm hk hd
def zkS:bootBuiltins "int"=AA (.type "int"):=by decide +kernel
def zlN:bootBuiltins "bool"=AA (.type "bool"):=by decide +kernel
def zpH:bootBuiltins "str"=AA (.type "str"):=by decide +kernel
def zgg:bootBuiltins "tuple"=AA (.type "tuple"):=by decide +kernel
def zpI:bootBuiltins "len"=AA (.builtin "len"):=by decide +kernel
def znC:bootBuiltins "abs"=AA (.builtin "abs"):=by decide +kernel
def zop:bootBuiltins "max"=AA (.builtin "max"):=by decide +kernel
def zps:bootBuiltins "all"=AA (.builtin "all"):=by decide +kernel
end WK
namespace L2
open PySem PySem.Spec PyProof.Rows IC
def shC:Sum Ce Int->Option Int
 |.inl _=>AD
 |.inr i=>AA i
def yaF:List (Option Int)->List V->List V
 |[],_=>[]
 |some i::r,zs=>.int i::yaF r zs
 |none::r,z::zs=>z::yaF r zs
 |none::_,[]=>[]
def pick:List (Option Int)->List V->List V
 |none::r,v::vs=>v::pick r vs
 |some _::r,_::vs=>pick r vs
 |_,_=>[]
def nKw:List (Option Int)->Nat
 |[]=>0
 |none::r=>nKw r+1
 |some _::r=>nKw r
def ycO:Ces->Nat
 |.nil=>0
 |.cons _ r=>ycO r+1
def gK(np:Nat)(sh:List (Option Int))(vs zs:List V):List V:=if vs.length=np/\zs.length=nKw sh then vs++yaF sh zs else []
def zhn{call:Nat->List PV->SO->R PV}{ρ:IC.Env}:∀(a:Ces) {st st':SO} {vs:List PV},evs call ρ st a=.ok vs st'->vs.length=ycO a
 |.nil,st,st',vs,h=>by erw[evs]at h;cases h;rfl
 |.cons e r,st,st',vs,h=>by
  erw[evs]at h
  cases q:ev call ρ st e with
  |ok v s1=>
   rw[q]at h;erw[R.bind]at h
   cases q2:evs call ρ s1 r with
   |ok ws s2=>
    rw[q2]at h
    cases h
    simp[ycO,zhn r q2]
   |exc c s=>rw[q2]at h;cases h
   |bad=>rw[q2]at h;cases h
  |exc c s=>rw[q]at h;cases h
  |bad=>rw[q]at h;cases h
def ziv{call:Nat->List PV->SO->R PV}{ρ:IC.Env}:∀(a b:Ces) (st:SO),evs call ρ st (yI a b)=(evs call ρ st a).bind λvs st1=>(evs call ρ st1 b).bind λws st2=>.ok (vs++ws) st2
 |.nil,b,st=>by
  erw[yI,evs,R.bind,CF]
  cases evs call ρ st b<;>rfl
 |.cons e r,b,st=>by
  erw[yI,evs]
  cases ev call ρ st e with
  |ok v st1=>
   erw[R.bind];rw[ziv r b st1]
   cases evs call ρ st1 r with
   |ok vs st2=>
    erw[R.bind]
    cases evs call ρ st2 b<;>rfl
   |exc c s=>rfl
   |bad=>rfl
  |exc c s=>rfl
  |bad=>rfl
section
variable {S:Se}{X:Cx}{k:Nat}{f:AJ}{fd:Ao}{ps ks:List AL}{sp:Sp}{x:AL}{p pos kpos:CB}{e:AT}{es:List AT}{kws:List B8}{nm:Option AL}{t tk:TA}{CX:CXT}{ca:Ce}{ces:Ces}{items:List (Sum Ce Int)}{g:List AG->List AG->List AG}{gV:List V->List V->List V}
def zcE{K:AF}{cl:Nat->AJ}{B:AJ->Prop}{φ:Ph}{H:Hp}{call:Nat->List PV->SO->R PV}{ρ:IC.Env}:∀(items:List (Sum Ce Int)) {st st':SO} {vs:List PV} {xs:List V},evs call ρ st (yg items)=.ok vs st'->ye K cl B φ H vs xs->yaF (items.map shC) (pick (items.map shC) xs)=xs/\(pick (items.map shC) xs).length=nKw (items.map shC)
 |[],st,st',vs,xs,h,l=>by
  erw[yg,evs]at h
  cases h
  erw[ye]at l;subst l;exact⟨rfl,rfl⟩
 |.inl c::r,st,st',vs,xs,h,l=>by
  erw[yg,evs]at h;let⟨v,s1,e1,h⟩:=zbw h;let⟨ws,s2,e2,h⟩:=zbw h
  cases h
  erw[ye]at l;let⟨y,ys,rfl,_,l⟩:=l;let⟨q1,q2⟩:=zcE r e2 l;erw[AU,shC,pick,yaF,nKw,A1,q1,q2];exact⟨trivial,trivial⟩
 |.inr i::r,st,st',vs,xs,h,l=>by
  erw[yg,evs,ev]at h;let⟨v,s1,e1,h⟩:=zbw h;let⟨ws,s2,e2,h⟩:=zbw h
  cases h
  cases e1
  erw[ye,yd]at l;let⟨y,ys,rfl,rfl,l⟩:=l;let⟨q1,q2⟩:=zcE r e2 l;erw[AU,shC,pick,yaF,nKw,q1,q2];exact⟨trivial,trivial⟩
def tK(S:Se)(X:Cx)(items:List (Sum Ce Int)):TA:=λσ H Q=>∃B φ st ρ,yu X.K S.cl B φ H st/\yH X.K S.cl B φ H ρ σ/\Run S X σ B φ H (RL S X B) (evs S.call ρ st (yg items)) λxs H'=>Q (pick (items.map shC) xs) H'
theorem PK.imp{t t':TA}(h:PK X kws t')(k:∀σ H Q,t σ H Q->t' σ H Q):PK X kws t:=λpos π s σ H Q I q=>h pos π s σ H Q I (k σ H Q q)
def zns:PK X [] (tK S X []):=zqx.imp λσ H Q ⟨B,φ,st,ρ,rs,re,h⟩=>by
 erw[yg,evs]at h;exact h.ok rs (x:=[]) (by erw[ye])
def zpZ{i:Int}(h:PK X kws (tK S X items)):PK X kws (tK S X (.inr i::items)):=h.imp λσ H Q ⟨B,φ,st,ρ,rs,re,h⟩=>by
 erw[yg,evs,ev,R.bind]at h;refine⟨B,φ,st,ρ,rs,re,?_⟩
 cases e:evs S.call ρ st (yg items)with
 |ok vs st'=>
  rw[e]at h;intro xs H' φ' s rs' l;exact h (.int i::xs) H' φ' s rs' (by erw[ye,yd];exact⟨_,_,rfl,rfl,l⟩)
 |exc c s=>rw[e]at h;exact h
 |bad=>rw[e]at h;exact h
def zpX(ha:PE X e (tE S X ca))(h:PK X kws (tK S X items)):PK X (⟨nm,e,kpos⟩ :: kws) (tK S X (.inl ca::items)):=(zlr ha h).imp λσ H Q ⟨B,φ,st,ρ,rs,re,h⟩=>by
 erw[yg,evs]at h;refine tE.bind rs re h λx H1 v st1 φ1 s1 rs1 re1 rv h1=>⟨B,φ1,st1,ρ,rs1,re1,?_⟩;refine(Run.bind (Rel:=RL S X B) h1).mono λxs H2 kq=>?_;let⟨ws,st2,φ2,s2,rs2,l,h2⟩:=kq;exact h2.ok rs2 (x:=x::xs) (by erw[ye];exact⟨x,xs,rfl,rv.step s2,l⟩)
def zkq{fi:Nat}(F:yaA X.prog X.w X.K X.mg X.base (CX1 X.prog X.w) k f fd ps (spI X.K S.cl S.call fi))(hr:yah k X.A)(hg:Gl X x)(hm:X.mg x=AA (.ref f))(hk:Ab X.K (.ref f)=AC){np:Nat}(hb:∃g,ybn X.K fd ps ks g (gK np (items.map shC)))(hnp:ycO ces=np)
  (ha:PA X (e::es) (tAs S X ces)) (hkw:PK X kws (tK S X items)) (hall:(backToKw pos (keywordEach kws X.env)).all (·.1.isSome)=true:=by rfl) (hks:(backToKw pos (keywordEach kws X.env)).filterMap (·.1)=ks:=by rfl)
  (hdb:(x==("__debug__":AL))=false:=by decide) (he:starEach (e::es) X.env=(AB,eval e X.env)::starEach es X.env:=by rfl)
  (hpl:((backTo pos (starEach (e::es) X.env)).any (·.1) || (backToKw pos (keywordEach kws X.env)).any (·.1.isNone))=false:=by rfl):
  PE X (.Call (.Name x p) (e::es) kws pos) (tE S X (.call fi (yI ces (yg items)))):=by
 intro π s σ H Q I ⟨B,φ,st,ρ,rs,re,h⟩;erw[ev]at h;rw[ziv,R.bind_assoc]at h;refine BI (zbi I hg hm ?_ hdb);have h0:tAs S X ces σ H λvs H1=>tK S X items σ H1 λzs H2=>∃E:XK,spI X.K S.cl S.call fi (gK np (items.map shC) vs zs) H2 Q E/\∀π s e s',Inv X π σ H2 s->CX1 X.prog X.w X.stack H2 s E e s'->X.xe e s':=by
  have hlen:∀vs st',evs S.call ρ st ces=.ok vs st'->vs.length=np:=λvs st' q=>(zhn ces q).trans hnp;refine⟨B,φ,st,ρ,rs,re,?_⟩
  cases q:evs S.call ρ st ces with
  |exc c s=>rw[q]at h;exact h
  |bad=>rw[q]at h;exact h
  |ok vs st1=>
  rw[q]at h;intro xs H1 φ1 s1 rs1 rv;have h1:=Run.on s1 h;have re1:=re.step s1;have hv:=hlen vs st1 q;refine⟨B,φ1,st1,ρ,rs1,re1,?_⟩;have h1:Run S X σ B φ1 H1 (RV S X B) (((evs S.call ρ st1 (yg items)).bind λa st=>(R.ok (vs++a) st:R (List PV))).bind λvs st1=>S.call fi vs st1) Q:=h1;rw[R.bind_assoc]at h1
  cases e:evs S.call ρ st1 (yg items)with
  |ok ws st2=>
   rw[e]at h1;intro ys H2 φ2 s2 rs2 l2;let⟨m1,m2⟩:=zcE items e l2;have eg:gK np (items.map shC) xs (pick (items.map shC) ys)=xs++ys:=by
    unfold gK;rw[if_pos ⟨by rw[<-rv.length];exact hv,m2⟩,m1]
   show ∃E:XK,spI X.K S.cl S.call fi (gK np (items.map shC) xs (pick (items.map shC) ys)) H2 Q E/\_;rw[eg];exact zaT rs2 ((rv.step s2).append l2) (Run.on s2 h1)
  |exc c s=>rw[e]at h1;exact h1
  |bad=>rw[e]at h1;exact h1
 refine PySem.W.callWith_KW (h₀:=X.base) I.ok.mod.kin hk hall (thn (ha pos π s σ H _ I h0) λus s1 kq=>?_) hpl he;let⟨vs,H1,I1,r,q⟩:=kq;refine thn (hkw pos π s1 σ H1 _ I1 q) λws s2 kq=>?_;let⟨zs,H2,I2,rz,E,q2,hx⟩:=kq;refine ⟨I2.kIn,?_⟩;rw[hks];let⟨g,hb⟩:=hb;have r2:=hb.rel r rz;have hl:(g us ws).length=ps.length:=by rw[<-r2.length];exact F.len _ _ _ _ q2
 refine GL (DF (F.run X.A X.stack s2 H2 ⟨us,ks.zip ws⟩ (g us ws) (gK np (items.map shC) vs zs) Q E hr I2.env0 (hb.to s2 us ws I2.kIn hl) r2 q2) λr s' hq=>?_)
 cases r with
 |error e=>exact hx π s2 e s' I2 hq
 |ok fl=>
  cases fl with
  |ret u=>exact I2.after hq
  |next=>exact BH hq
  |brk=>exact BH hq
  |cont=>exact BH hq
end
def yaV:List (Option Int)->List AG->List AG->List AG
 |[],_,_=>[]
 |some _::r,ws,d::ds=>d::yaV r ws ds
 |none::r,w::ws,_::ds=>w::yaV r ws ds
 |_,_,_=>[]
def zdf:∀(sh:List (Option Int)) (ds:List Int) {zs:List V} {ws us:List AG},Vals (ds.map V.int) us->Vals zs ws->sh.length=ds.length->(∀p∈sh.zip ds,∀i,p.1=AA i->i=p.2)->Vals (yaF sh zs) (yaV sh ws us)
 |[],ds,zs,ws,us,r,q,hl,h=>.nil
 |some i::r,[],zs,ws,us,rr,q,hl,h=>by simp at hl
 |some i::r,d::ds,zs,ws,_,.cons a b,q,hl,h=>by
  have:i=d:=h (AA i,d) (by simp) i rfl;subst this;exact .cons a (zdf r ds b q (by simpa using hl) λp hp=>h p (by simp[hp]))
 |none::r,[],zs,ws,us,rr,q,hl,h=>by simp at hl
 |none::r,d::ds,_,_,_,.cons a b,.nil,hl,h=>.nil
 |none::r,d::ds,_,_,_,.cons a b,.cons c q,hl,h=>.cons c (zdf r ds b q (by simpa using hl) λp hp=>h p (by simp[hp]))
structure FnD(K:AF)(mg:AL->Option AG)(x:AL)(st:B9)(ps:List AL)(ds:List Int)(f:AJ)(fd:Ao):Prop where
 ex:∃(oc:AG) (od:Option AJ) (dT:AJ) (kV doc pm:AG) (an:Option AJ) (cdv ct:AG) (osl:Array (Option AG)) (o:B7) (its:Array AG) (n:Nat),
  fd=BS x x (yU st) (yK st) (yh st) (.ref dT) kV doc pm an cdv ct/\K.lookup f=AA ⟨oc,od,.func fd,osl⟩/\Bz K cdv x=AC/\K.lookup dT=AA o/\o.data=.seq its n/\Vals (ds.map V.int) its.toList
 kp:Ab K (.ref f)=AC
 m:mg x=AA (.ref f)
theorem kbD{K:AF}{mg:AL->Option AG}{x:AL}{st:B9}{ps ks:List AL}{ds:List Int}{f:AJ}{fd:Ao}{np off:Nat}{sh:List (Option Int)}(D:FnD K mg x st ps ds f fd)(hnk:ks.length=nKw sh)(hsh:sh.length=(ds.drop off).length)(hd':((sh.zip (ds.drop off)).all λp=>p.1.all λi=>decide (i=p.2))=AC)
  (h:∀(dT:AJ) (kV doc pm:AG) (an:Option AJ) (cdv ct:AG) (us ws its:List AG),us.length=np->ws.length=ks.length->its.length=ds.length ->
   ∃k,bindArgs (BS x x (yU st) (yK st) (yh st) (.ref dT) kV doc pm an cdv ct) ⟨us,ks.zip ws⟩=seqItems? (.ref dT) >>= k/\k (AA its.toArray)=pure (ps.zip (us++yaV sh ws (its.drop off)))) (hps:0<ps.length):
  ∃g,ybn K fd ps ks g (gK np sh):=by
 have hd:∀p∈sh.zip (ds.drop off),∀i,p.1=AA i->i=p.2:=λp hp i hi=>by
  have:=A9.mp hd' p hp;rw[hi]at this;simpa using this
 let⟨oc,od,dT,kV,doc,pm,an,cdv,ct,osl,o,its,n,rfl,lk,hcd,lo,hs,r⟩:=D.ex;refine⟨λus ws=>if us.length=np/\ws.length=nKw sh then us++yaV sh ws (its.toList.drop off)else [],⟨λs us ws KX hl=>?_,λ{vs us zs ws} rv rz=>?_⟩⟩
 .by_cases c:us.length=np/\ws.length=nKw sh
  .rw[if_pos c]at hl ⊢;let⟨k,h1,h2⟩:=h dT kV doc pm an cdv ct us ws its.toList c.1 (by rw[hnk];exact c.2) (by rw[<-r.length,Ap]);exact BindsTo.of_defaults rfl (KX _ _ lo) hs h1 (by simpa using h2)
  .rw[if_neg c]at hl;simp at hl;lia
 .unfold gK;have e1:=rv.length;have e2:=rz.length
  by_cases c:us.length=np/\ws.length=nKw sh
  .rw[if_pos c,if_pos ∅];refine rv.append (zdf sh (ds.drop off) ?_ rz hsh hd);rw[List.map_drop];exact r.drop off
  .rw[if_neg c,if_neg ∅];exact .nil
section
variable {P:A4}{w:Af}{K:AF}{mg:AL->Option AG}{base:Aq}{cl:Nat->AJ}{T:Nat->Option IC.Fn}{fi:Nat}{fn:IC.Fn}{x:AL}{stm:B9}{f:AJ}{fd:Ao}{N ps:List AL}{ds:List Int}{k:Nat}
end
def zet(a b:Key):peq (yay a) (yay b)=decide (a=b):=by
 rw[Dp]
 cases a<;>cases b<;>simp[yay,peq]
def zf3:∀(a b:List Key),ybi (a.map yay) (b.map yay)=decide (a=b)
 |[],[]=>by simp[ybi]
 |[],y::ys=>by simp[ybi]
 |x::xs,[]=>by simp[ybi]
 |x::xs,y::ys=>by
  erw[AU,ybi,zet,zf3 xs ys];rw[Dp];simp
def zeH(a b:List Key):peq (.tup (a.map yay)) (.tup (b.map yay))=decide (a=b):=by
 erw[peq,zf3]
def ziX{k:PV}(h:ybr k=AC):∃q,k=yay q:=by
 cases k with
 |int i=>exact⟨.inl i,rfl⟩
 |str i=>exact⟨.inr i,rfl⟩
 |_=>cases h
def zh8:∀{ks:List PV},ks.all ybr=AC->∃qs:List Key,ks=qs.map yay
 |[],_=>⟨[],rfl⟩
 |k::ks,h=>by
  rw[BE,AH]at h;let⟨q,rfl⟩:=ziX h.1;let⟨qs,rfl⟩:=zh8 h.2;exact⟨q::qs,rfl⟩
section
variable {S:Se}{X:Cx}{K:AF}{cl:Nat->AJ}{σ:St}{B:AJ->Prop}{φ:Ph}{H:Hp}{st:SO}{p pos p2 px apos:CB}{a b c d o:AT}{ca cb cc:Ce}
def zlY{q:Key}{x:V}:yd K cl B φ H (yay q) x ↔ x=kV q:=by
 cases q<;>simp[yay,yd,kV]
def zeO:∀{qs:List Key} {xs:List V},ye K cl B φ H (qs.map yay) xs->xs=qs.map kV
 |[],xs,l=>by simpa only[BY,ye] using l
 |q::qs,xs,l=>by
  erw[AU,ye]at l;let⟨y,ys,rfl,r,l⟩:=l;rw[zlY.mp r,zeO l];rfl
theorem DK.look{q:Key}:∀{kvs:List (PV×PV)} {ks:List (Key×V)},DK K cl B φ H kvs ks->∀{v:PV} {x:V},yd K cl B φ H v x->yd K cl B φ H ((IC.look (yay q) kvs).getD v) ((ybu ks q).getD x)
 |[],ks,h,v,x,r=>by cases h;exact r
 |(k,w)::t,ks,h,v,x,r=>by
  let⟨q',y,s,rfl,rfl,rv,l⟩:=h;erw[IC.look,zet]
  by_cases e:q'=q
  .rw[zcr (p:=(q',y)) e];simp[e,rv]
  .rw[zcl (p:=(q',y)) e];erw[decide_eq_true_eq,e,if_false];exact DK.look l r
theorem DT.look{q:List Key}:∀{kvs:List (PV×PV)} {ks:List (List Key×V)},DT K cl B φ H kvs ks->∀{v:PV} {x:V},yd K cl B φ H v x->yd K cl B φ H ((IC.look (.tup (q.map yay)) kvs).getD v) ((ybu ks q).getD x)
 |[],ks,h,v,x,r=>by cases h;exact r
 |(k,w)::t,ks,h,v,x,r=>by
  let⟨q',y,s,rfl,rfl,rv,l⟩:=h;erw[IC.look,zeH]
  by_cases e:q'=q
  .rw[zcr (p:=(q',y)) e];simp[e,rv]
  .rw[zcl (p:=(q',y)) e];erw[decide_eq_true_eq,e,if_false];exact DT.look l r
theorem DK.any{q:Key}:∀{kvs:List (PV×PV)} {ks:List (Key×V)},DK K cl B φ H kvs ks->(kvs.any λp=>peq p.1 (yay q))=ks.any λkv=>decide (kv.1=q)
 |[],ks,h=>by cases h;rfl
 |(k,w)::t,ks,h=>by
  let⟨q',y,s,rfl,rfl,rv,l⟩:=h;erw[Ax,zet,DK.any l]
theorem DT.any{q:List Key}:∀{kvs:List (PV×PV)} {ks:List (List Key×V)},DT K cl B φ H kvs ks->(kvs.any λp=>peq p.1 (.tup (q.map yay)))=ks.any λkv=>decide (kv.1=q)
 |[],ks,h=>by cases h;rfl
 |(k,w)::t,ks,h=>by
  let⟨q',y,s,rfl,rfl,rv,l⟩:=h;erw[Ax,zeH,DT.any l]
theorem DK.map{q:Key}{v:PV}{x:V}(r:yd K cl B φ H v x):∀{kvs:List (PV×PV)} {ks:List (Key×V)},DK K cl B φ H kvs ks->DK K cl B φ H (kvs.map λp=>if peq p.1 (yay q)=AC then(p.1,v)else p) (ks.map λkv=>if kv.1=q then(kv.1,x)else kv)
 |[],ks,h=>by cases h;exact rfl
 |(k,w)::t,ks,h=>by
  let⟨q',y,s,rfl,rfl,rv,l⟩:=h;erw[AU,zet,decide_eq_true_eq]
  by_cases e:q'=q
  .simp only[e,if_true];exact⟨q,x,_,rfl,rfl,r,DK.map r l⟩
  .simp only[e,if_false];exact⟨q',y,_,rfl,rfl,rv,DK.map r l⟩
theorem DT.map{q:List Key}{v:PV}{x:V}(r:yd K cl B φ H v x):∀{kvs:List (PV×PV)} {ks:List (List Key×V)},DT K cl B φ H kvs ks->DT K cl B φ H (kvs.map λp=>if peq p.1 (.tup (q.map yay))=AC then(p.1,v)else p) (ks.map λkv=>if kv.1=q then(kv.1,x)else kv)
 |[],ks,h=>by cases h;exact rfl
 |(k,w)::t,ks,h=>by
  let⟨q',y,s,rfl,rfl,rv,l⟩:=h;erw[AU,zeH,decide_eq_true_eq]
  by_cases e:q'=q
  .simp only[e,if_true];exact⟨q,x,_,rfl,rfl,r,DT.map r l⟩
  .simp only[e,if_false];exact⟨q',y,_,rfl,rfl,rv,DT.map r l⟩
theorem DK.snoc{q:Key}{v:PV}{x:V}(r:yd K cl B φ H v x):∀{kvs:List (PV×PV)} {ks:List (Key×V)},DK K cl B φ H kvs ks->DK K cl B φ H (kvs++[(yay q,v)]) (ks++[(q,x)])
 |[],ks,h=>by cases h;exact⟨q,x,[],rfl,rfl,r,rfl⟩
 |(k,w)::t,ks,h=>by
  let⟨q',y,s,rfl,rfl,rv,l⟩:=h;exact⟨q',y,_,rfl,rfl,rv,DK.snoc r l⟩
theorem DT.snoc{q:List Key}{v:PV}{x:V}(r:yd K cl B φ H v x):∀{kvs:List (PV×PV)} {ks:List (List Key×V)},DT K cl B φ H kvs ks->DT K cl B φ H (kvs++[(.tup (q.map yay),v)]) (ks++[(q,x)])
 |[],ks,h=>by cases h;exact⟨q,x,[],rfl,rfl,r,rfl⟩
 |(k,w)::t,ks,h=>by
  let⟨q',y,s,rfl,rfl,rv,l⟩:=h;exact⟨q',y,_,rfl,rfl,rv,DT.snoc r l⟩
theorem DK.put{q:Key}{v:PV}{x:V}{kvs:List (PV×PV)}{ks:List (Key×V)}(l:DK K cl B φ H kvs ks)(r:yd K cl B φ H v x):DK K cl B φ H (IC.put (yay q) v kvs) (putK ks q x):=by
 unfold IC.put putK;rw[DK.any l];split
 .exact DK.map r l
 .exact DK.snoc r l
theorem DT.put{q:List Key}{v:PV}{x:V}{kvs:List (PV×PV)}{ks:List (List Key×V)}(l:DT K cl B φ H kvs ks)(r:yd K cl B φ H v x):DT K cl B φ H (IC.put (.tup (q.map yay)) v kvs) (putK ks q x):=by
 unfold IC.put putK;rw[DT.any l];split
 .exact DT.map r l
 .exact DT.snoc r l
theorem DK.len:∀{kvs:List (PV×PV)} {ks:List (Key×V)},DK K cl B φ H kvs ks->kvs.length=ks.length
 |[],ks,h=>by cases h;rfl
 |(k,w)::t,ks,h=>by
  let⟨q',y,s,rfl,rfl,rv,l⟩:=h;simp[DK.len l]
theorem DT.len:∀{kvs:List (PV×PV)} {ks:List (List Key×V)},DT K cl B φ H kvs ks->kvs.length=ks.length
 |[],ks,h=>by cases h;rfl
 |(k,w)::t,ks,h=>by
  let⟨q',y,s,rfl,rfl,rv,l⟩:=h;simp[DT.len l]
theorem yu.dct{n:Nat}{t:Bool}{kvs:List (PV×PV)}{x:V}(rs:yu K cl B φ H st)(r:yd K cl B φ H (.loc n) x)(h:st[n]?=AA (.dct t kvs)):∃y,x=.ref y/\φ[n]?=AA (AA y)/\yb4 K cl B φ H (.dct t kvs) y:=by
 erw[yd]at r;let⟨hn,y,rfl,ha⟩:=r;let⟨z,hz⟩:=rs.liv n _ h (by intro z;cases z);obtain rfl:=ha z hz;let⟨o,ho,ro⟩:=rs.obj n z hz;rw[h]at ho;cases ho;exact⟨z,rfl,hz,ro⟩
def ze6{v:PV}{t:Bool}{kvs:List (PV×PV)}(h:ya0 st v=AA (t,kvs)):∃n,v=.loc n/\st[n]?=AA (.dct t kvs):=by
 cases v with
 |loc n=>
  erw[ya0]at h;split at h
  .rename_i t' xs q
   cases h
   exact⟨n,rfl,q⟩
  .cases h
 |_=>cases h
def zir{k:PV}(h:isKey AB k=AC):∃q,k=yay q:=ziX h
def ziz{k:PV}(h:isKey AC k=AC):∃q:List Key,k=.tup (q.map yay):=by
 cases k with
 |tp b xs=>
  cases b with
  |false=>
   let⟨qs,rfl⟩:=zh8 h;exact⟨qs,rfl⟩
  |true=>cases h
 |_=>cases h
def zis{q:List Key}{x:V}(r:yd K cl B φ H (.tup (q.map yay)) x):∃y,x=.ref y/\H y=AA (.tup (q.map kV)):=by
 erw[yd]at r;let⟨y,xs,rfl,rt,l⟩:=r;rcases rt with⟨rt,_⟩|⟨z,_⟩
 .exact⟨y,rfl,by rw[rt,zeO l]⟩
 .cases z
def ziK:PE X (.Dict [] [] pos) (tE S X (.dict0 AC)):=zqE.imp λσ H Q ⟨B,φ,st,ρ,rs,re,h⟩=>by
 erw[ev]at h;exact λp hp=>h _ _ (φ++[AA p]) (.push hp) (rs.push hp (rs.nB hp) ⟨[],zm,rfl⟩) (.loc_new rs)
def znr(hu:X.A.units+1<cLine)(ha:PE X a (tE S X ca))(hb:PE X b (tE S X cb))(hc:PE X c (tE S X cc))(m:M2 X a "get" apos b c pos:=by exact⟨rfl,rfl,rfl,rfl⟩):PE X (.Call (.Attribute a "get" apos) [b,c] [] pos) (tE S X (.mth .get ca (.cons cb (.cons cc .nil)))):=
 (zkv hu ha hb hc m).imp λσ H Q ⟨B,φ,st,ρ,rs,re,h⟩=>by
  erw[ev]at h;refine tE.bind rs re h λx H1 v st1 φ1 s1 rs1 re1 rv h1=>?_;let⟨_,e1,h1⟩:=zcI h1;erw[yav]at e1
  cases q:ya0 st1 v with
  |none=>rw[q]at e1;cases e1
  |some tk=>
   let⟨t,kvs⟩:=tk;let⟨n,rfl,hn⟩:=ze6 q;let⟨y,rfl,hy,ro⟩:=rs1.dct rv hn;refine⟨y,rfl,?_,?_⟩
   .cases t with
    |false=>let⟨ks,hk,_⟩:=ro;exact .inl ⟨ks,.inl hk⟩
    |true=>let⟨ks,hk,_⟩:=ro;exact .inr ⟨ks,.inl hk⟩
   .simp only[evs,R.bind_assoc]at h1;refine tE.bind rs1 re1 h1 λkx H2 kv st2 φ2 s2 rs2 re2 rk h2=>tE.bind rs2 re2 h2 λdx H3 dv st3 φ3 s3 rs3 re3 rd h3=>?_;erw[R.bind]at h3;unfold ybU at h3;erw[ydQ]at h3
    cases q3:ya0 st3 (.loc n)with
    |none=>rw[q3]at h3;exact h3.elim
    |some tk3=>
     let⟨t3,kvs3⟩:=tk3;rw[q3]at h3;dsimp only at h3;split at h3
     .rename_i hk;let⟨n',e',hn3⟩:=ze6 q3
      cases e'
      let⟨y3,ey,hy3,ro3⟩:=rs3.dct ((rv.step s2).step s3) hn3
      cases ey
      have rk3:=rk.step s3
      cases t3 with
      |false=>
       let⟨q,rfl⟩:=zir hk;let⟨ks,hks,l⟩:=ro3;refine⟨ybu ks q,.inl ⟨ks,q,.inl hks,zlY.mp rk3,rfl⟩,h3.ok rs3 (DK.look l rd)⟩
      |true=>
       let⟨q,rfl⟩:=ziz hk;let⟨ks,hks,l⟩:=ro3;let⟨b',rfl,hb'⟩:=zis rk3;exact⟨ybu ks q,.inr ⟨ks,q,b',.inl hks,rfl,hb',rfl⟩,h3.ok rs3 (DT.look l rd)⟩
     .exact h3.elim
def ziq{st4:SO}{x y v:PV}(h:yaY st x y v=AA st4):∃n t kvs,x=.loc n/\st[n]?=AA (.dct t kvs)/\isKey t y=AC/\kvs.length<1000000/\st4=st.set n (.dct t (IC.put y v kvs)):=by
 cases x with
 |loc n=>
  erw[yaY]at h;split at h
  .rename_i t kvs q;split at h
   .rename_i c;exact⟨n,t,kvs,rfl,q,c.1,c.2,(AY h).symm⟩
   .cases h
  .cases h
 |_=>cases h
def zmU(hu:X.A.units+1<cLine)(ho:PE X b (tE S X cb))(hi:PE X c (tE S X cc))(hv:PE X a (tE S X ca))(hs:swapsWith a (AA (.Subscript b c px)) pos.line X.env=pure false:=by rfl):PS X (.Assign [.Subscript b c px] a pos) (tS S X (.dput cb cc ca)):=
 (zly hu ho hi hv hs).imp λD σ H ⟨B,φ,st,ρ,rs,re,h⟩=>by
  erw[ex]at h;refine tE.fl rs re h λv' H1 v st1 φ1 s1 rs1 re1 rv h1=>tE.fl rs1 re1 h1 λx' H2 x st2 φ2 s2 rs2 re2 rx h2=>tE.fl rs2 re2 h2 λy' H3 y st3 φ3 s3 rs3 re3 ry h3=>?_
  cases e:yaY st3 x y v with
  |none=>rw[e]at h3;exact h3.elim
  |some st4=>
   rw[e]at h3;let⟨n,t,kvs,rfl,hn,hk,hl,rfl⟩:=ziq e;let⟨l,rfl,hp,ro⟩:=rs3.dct (rx.step s3) hn;have rv3:=(rv.step s2).step s3;have hm:=zlR
   cases t with
   |false=>
    let⟨q,rfl⟩:=zir hk;let⟨ks,hks,ld⟩:=ro;have s4:Step φ3 H3 φ3 (L2.upd H3 l (.dK (putK ks q v'))):=.put (AW hp);refine⟨l,_,rfl,.inl ⟨ks,q,hks,zlY.mp ry,by have:=ld.len;lia,rfl⟩,h3 σ _ φ3 s4 (rs3.put hp ⟨_,zm,(ld.put rv3).step s4⟩) (re3.step s4)⟩
   |true=>
    let⟨q,rfl⟩:=ziz hk;let⟨ks,hks,ld⟩:=ro;let⟨b',rfl,hb'⟩:=zis ry;have s4:Step φ3 H3 φ3 (L2.upd H3 l (.dT (putK ks q v'))):=.put (AW hp);refine⟨l,_,rfl,.inr ⟨ks,q,b',hks,rfl,hb',by have:=ld.len;lia,rfl⟩,h3 σ _ φ3 s4 (rs3.put hp ⟨_,zm,(ld.put rv3).step s4⟩) (re3.step s4)⟩
end
section
variable {S:Se}{X:Cx}{σ:St}{B:AJ->Prop}{φ:Ph}{H:Hp}{p pos p3 p4:CB}{a b tg:AT}{ca cb:Ce}
end
end L2
namespace WK
open PySem L2 IC
section
variable {K:AF}{cl:Nat->AJ}{B:AJ->Prop}{φ:Ph}{H:Hp}
def zkV:ye K cl B φ H [] []:=by erw[ye]
def zi9{v:PV}{x:V}{vs:List PV}{xs:List V}(h:yd K cl B φ H v x)(l:ye K cl B φ H vs xs):ye K cl B φ H (v::vs) (x::xs):=by
 erw[ye];exact⟨x,xs,rfl,h,l⟩
end
def zpy{P:A4}{w:Af}{outer:List BG}{H:Hp}{s:AK}{e:AG}{s':AK}(h:CX1 P w outer H s (λ_ _ _=>False) e s'):False:=by
 let⟨_,_,_,_,_,_,_,_,_,_,_,_,_,_,z⟩:=h;exact z
def zhU{K:AF}{cl:Nat->AJ}{B:AJ->Prop}{φ:Ph}{H:Hp}:∀ns:List Int,ye K cl B φ H (ns.map .int) (ns.map V.int)
 |[]=>zkV
 |n::ns=>zi9 (by erw[yd]) (zhU ns)
def spX(K:AF)(call:Nat->List PV->SO->R PV)(fi:Nat):Sp:=λvs H Q E=>∀cl,spI K cl call fi vs H Q E
def zix{K:AF}{call:Nat->List PV->SO->R PV}{fi:Nat}{H:Hp}{a:AJ}{ns:List Int}(ht:∀ns:List Int,ns.length<=63->call fi [.scr (ns.map .int)] []=.ok (.bl AC) [])(hl:ns.length<=63)(hS:SqL K H a (ns.map V.int)):
  spX K call fi [.ref a] H (λv _=>v=.bl AC) λ_ _ _=>False:=by
 intro cl;refine⟨λ_=>False,[],[],[.scr (ns.map .int)],⟨rfl,λm n a e=>by simp at e,λn a e=>by simp at e,λn o e=>by simp at e,λa z=>by simp at z,λa z=>z.elim⟩,zi9 ?_ zkV,?_⟩
 .simp only[yd];refine⟨a,_,rfl,?_,zhU ns⟩;rcases hS with hS|hS
  .exact .inl ⟨hS,λz=>z,by simp⟩
  .exact .inr hS
 .rw[ht ns hl];intro x H' φ' _ _ r;simpa only[yd] using r
end WK
namespace L2
open PySem PySem.Spec PyProof.Rows IC
def zhN{l:List AL}(h:l.Nodup){i j:Nat}(hi:i<l.length)(hj:j<l.length)(e:l[i]=l[j]):i=j:=by
 rcases Nat.lt_trichotomy i j with q|q|q
 .exact absurd e (EU.mp h i j hi hj q)
 .exact q
 .exact absurd e.symm (EU.mp h j i hj hi q)
section
variable {X:Cx}{π:List (AJ×B7)}{σ:St}{H:Hp}{s:AK}
theorem Inv.drop{h':Aq}{m:AL->Option AG}{v:Option AG}{i:Nat}{n:AL}(I:Inv X π σ H s)(hN:X.N.Nodup)(hi:X.N[i]?=AA n)(hm:s.heap.Ns X.env.locals m)(look:∀(i:Nat) (x:AL) (v:V),X.N[i]?=AA x->σ[i]?=AA (AA v)->Vis X.env.scope x->∃u,RelV v u/\Look X.env s.heap m x u)(hs:C1 X.env.locals s.heap h')(hn:h'.Ns X.env.locals (λx=>if x=n then v else m x)):Inv X π (σ.set i AD) H {s with heap:=h'}:=by
 have k:∀b u,b≠X.env.locals->s.heap.get? b=AA u->h'.get? b=AA u:=λb u hb q=>(hs.2 b hb).trans q;have nl:∀b o,X.s₀.heap.get? b=AA o->b≠X.env.locals:=λb o e=>Ah (A0 (AZ e) I.ok.above);refine⟨I.ok,I.os,I.bare,⟨λb o q n hb hx=>k b o (nl b o q) (I.base.keep b o q n hb hx),λb o q n hb hx=>?_,I.base.free,λb o q hx=>?_,I.base.tups,I.base.frzs,I.base.tbls⟩,⟨_,hn,λj x v e1 e2 hv=>?_⟩,λx c e=>?_,I.free,I.freeC,λp hp=>?_,λb u e=>?_,?_⟩
 .let⟨sl,q1⟩:=I.base.slot b o q n hb hx;exact⟨sl,k b _ (nl b o q) q1⟩
 .let⟨o',q1⟩:=I.base.there b o q hx;exact⟨o',k b o' (nl b o q) q1⟩
 .have hj:j≠i:=λz=>by
   subst z;rw[CM]at e2;erw[if_true]at e2;split at e2<;>cases e2
  rw[AN (Au hj)]at e2;have hx:x≠n:=λz=>by
   subst z;let⟨l1,g1⟩:=Am.mp e1;let⟨l2,g2⟩:=Am.mp hi;exact hj (zhN hN l1 l2 (g1.trans g2.symm))
  let⟨u,r,lk⟩:=look j x v e1 e2 hv;refine⟨u,r,?_⟩;rcases lk with⟨q1,q2⟩|⟨q1,c,q2,o,q3,q4⟩
  .exact .inl ⟨q1,by dsimp only;rw[if_neg hx];exact q2⟩
  .exact .inr ⟨q1,c,q2,o,k c o (I.cne x c q2) q3,q4⟩
 .let⟨v,o,ho,hd⟩:=I.cell x c e;exact⟨v,o,k c o (I.cne x c e) ho,hd⟩
 .let⟨q1,q2,q3,q4⟩:=I.pin p hp;exact⟨k _ _ q3 q1,q2,q3,q4⟩
 .refine(I.hok b u e).stay (λc v hc q=>k c v (λz=>?_) q) (λ_ q=>q) λ_ _ q=>q;have fr:=I.free;subst z;rcases hc with z|z
  .rw[z,e]at fr
   cases fr
  .rw[z]at fr
   cases fr
 .rw[BR];exact I.len
end
def yhi(X:Cx)(pn:List (AJ×B7))(P:St->AG->Hp->Prop):AG->AK->Prop:=λe s'=>∃π σ H s,Inv (cxP X pn) π σ H s/\CX1 X.prog X.w X.stack H s (λcls _ H'=>P σ cls H') e s'
abbrev ydF(X:Cx)(pn:List (AJ×B7))(P:St->AG->Hp->Prop):Cx:=(cxP X pn).wish (yhi X pn P)
section
variable {X:Cx}{body suite:List B9}{b₀:B9}{x n:AL}{np hpos pos:CB}{W:AJ}{i:Nat}
def zdI{π:List (AJ×B7)}{σ:St}{H:Hp}{s:AK}{Q:Unit->AK->Prop}{E:AG->AK->Prop}{A:Ag}(I:Inv X π σ H s)(hN:X.N.Nodup)(hi:X.N[i]?=AA n)(hx:X.env.scope.names.lookup n=AA .local)(hl:i<σ.length)
  (h:∀s',Inv X π (σ.set i AD) H s'->Q () s'):A2 (model X.prog X.w) A (do bindName X.env n .none;unbindBehindTheSuite X.env n pos) Q E s:=by
 refine AI (F3 (za5 I hN hi (.inl hx) (show RelV .non .none from rfl) (λs2 I2=>?_) (.inr hx)));let⟨m,hn,look⟩:=I2.loc;let⟨u,ru,lk⟩:=look i n .non hi (by rw[CM];simp[hl]) (.inl hx);have hm:m n=AA u:=by
  rcases lk with⟨_,q⟩|⟨z,_⟩
  .exact q
  .rw[show X.env.kindOf n=AA .local from hx]at z;rcases z with z|z<;>cases z
 have hkn:X.env.kindOf n=AA .local:=hx;have hkind:X.env.scope.kind=.function:=I.ok.kind;unfold unbindBehindTheSuite;refine Ei ?_;unfold unbindName deleteName;refine AI (wpAny_point (AI ?_));erw[hkn,hkind];refine AI (m:=nsDel X.env.locals n) (wpAny_nsDel_keeps hn λh' m' hn' hs'=>?_);rw[hm];refine AV (wpAny_point ?_);have J:=I2.drop hN hi hn look hs' hn';rw[Cm]at J;exact h _ J
def zmO{tb:List (AJ×B7)->(St->AG->Hp->Prop)->TS}{ts:List (AJ×B7)->AJ->TS}(hstk:∃outer,X.stack=X.env::outer)(hex0:X.ex=[])(hfr:X.env.frame=AA X.env.locals)(hN:X.N.Nodup)(hi:X.N[i]?=AA n)(hx:X.env.scope.names.lookup n=AA .local)(hgx:Gl X x)(hmx:X.mg x=AA (.ref W))
  (hb:∀pn P,PSs (ydF X pn P) body (tb pn P)) (hs:∀pn a,PSs (cxS X pn a) (b₀::suite) (ts pn a)) (hdb:(x==("__debug__":AL))=false:=by decide):
  PS X (.Try body [.ExceptHandler (AA (.Name x np)) (AA n) (b₀::suite) hpos] [] [] pos) (λD σ H=>∀pn,∃P:St->AG->Hp->Prop,tb pn P D σ H/\∀σ1 cls H',P σ1 cls H'->∃C,cls=.ref C/\EM X.K (.ref C) (.ref W)=AA AC /\
   ∀a,H' a=AD->ts pn a {nx:=λσ2 H2=>D.nx (σ2.set i AD) H2,rt:=D.rt} (σ1.set i (AA (.ref a))) (upd H' a (.ext (ybK a C)))):=by
 intro π s σ H D I h;let⟨P,hbody,hex⟩:=h (X.pn++π);let⟨outer,hst⟩:=hstk;refine wpAny_Try_except (Bb (hb (X.pn++π) P [] s σ H D (I.toP.wish _) hbody) (λf s1 hf=>?_) λe s1 hx1=>?_)
 .have cv:SP X π D f s1:=by
   cases f with
   |next=>
    let⟨σ',H',J,q⟩:=hf;exact⟨σ',H',Inv.ofP I.ok J.unwish,q⟩
   |brk=>
    let⟨σ',H',J,q⟩:=hf;exact⟨σ',H',Inv.ofP I.ok J.unwish,q⟩
   |cont=>
    let⟨σ',H',J,q⟩:=hf;exact⟨σ',H',Inv.ofP I.ok J.unwish,q⟩
   |ret u=>
    let⟨v,σ',H',J,r,q⟩:=hf;exact⟨v,σ',H',Inv.ofP I.ok J.unwish,r,q⟩
  cases f with
  |next=>exact Cy cv
  |brk=>exact cv
  |cont=>exact cv
  |ret u=>exact cv
 .let⟨pins1,σ1,H1,s2,I1,a,cls,a0,H',B,rfl,os,bare,fl,hok,un,hB,tr,hT,hE⟩:=hx1;let⟨C,rfl,hm,hsuite⟩:=hex σ1 cls H' hE;have I1:Inv (cxP X (X.pn++π)) [] σ1 H1 s2:=I1.pins_of λp hp=>absurd hp (by simp);have frs':X.A.frames=AA (X.env::outer):=by rw[<-hst];exact I.ok.frames
  have fl0:FL B (X.env::outer) a (.ref C) a0 s1.heap:=by rw[<-hst];exact fl
  refine wpAny_looks_onW frs' hfr fl0 λh1 held1 up1=>?_;refine wpAny_landsW (s:={s1 with heap:=h1}) held1 λh2 fl2 up2=>?_;have up12:s1.heap.UpToSlots h2:=up1.trans up2;have I2:Inv (cxP X (X.pn++π)) [] σ1 H' {s1 with heap:=h2}:=I1.back (t':=s1.toks) os bare fl hok un hB tr hT fl2.1 up12;let⟨ob,hob,hobc⟩:=fl2.there;have LT:∀M:Hs,Hm M h2 (typeOf (.ref a)) (.ref C):=λM=>hobc ▸ (Ew hob).andThen .now;refine wpAny_handleBy_cons (codeAny_handlers_test ?_) (by intro q;cases q);refine zbi (X:=cxS X (X.pn++π) a) (I2.toS a) hgx hmx ?_ hdb;refine PySem.W.Looks.at (PySem.W.exm_one I2.kIn (LT _) hm) ?_;rw[if_pos rfl];refine codeAny_handlers_suite_as ?_;refine lands_againW (s:={s1 with heap:=h2}) fl2 λh3 fl3 up3=>?_;have up13:=up12.trans up3;have I3:Inv (cxP X (X.pn++π)) [] σ1 H' {s1 with heap:=h3}:=I1.back (t':=s1.toks) os bare fl hok un hB tr hT fl3.1 up13;let⟨oe,ws,T3,oT,tsx,ge,⟨gc,g0⟩,gd,_⟩:=id fl3.2.2.2;have nfr:a∉frs X.stack:=λz=>by
   let⟨_,o',ho',hd⟩:=BQ fl3.2.2.1 (by rw[<-hst];exact z);rw[ge]at ho'
   cases ho'
   exact hd ws gd
  have nB:B.get? a=none:=fl3.2.1;have ns2:∀o,s2.heap.get? a≠AA o:=λo z=>by
   let⟨o',q⟩:=hT a o z nfr;rw[nB]at q
   cases q
  have nH:H' a=none:=by
   cases z:H' a with
   |none=>rfl
   |some u=>
    let⟨o',q⟩:=tr a u z;rw[nB]at q
    cases q
  have n0:∀o,X.s₀.heap.get? a≠AA o:=λo z=>by
   have hx':a∉X.ex:=by
    rw[hex0];simp
   let⟨o',q⟩:=I1.base.there a o z hx';exact ns2 o' q
  have nl:a≠X.env.locals:=λz=>by
   let⟨m,hn,_⟩:=I1.loc;let⟨ol,_,_,hol,_⟩:=hn;exact ns2 ol (z ▸ hol)
  have nc:∀y c,X.env.cells.lookup y=AA c->c≠a:=λy c q z=>by
   let⟨v,oc,hoc,_⟩:=I1.cell y c q;exact ns2 oc (z ▸ hoc)
  have np:∀p∈(cxP X (X.pn++π)).pn++[],p.1≠a:=λp hp z=>ns2 p.2 (z ▸ (I1.pin p hp).1);have new:yM X.prog X.w (upd H' a (.ext (ybK a C))) h3 a (.ext (ybK a C)):=⟨⟨oe,ge,gc⟩,⟨oe,ge⟩,λk1 k2 p q=>p.keep q⟩;have I4:Inv (cxP X (X.pn++π)) [] σ1 (upd H' a (.ext (ybK a C))) {s1 with heap:=h3}:=I3.track nH n0 nl nc np new;have hln:i<X.N.length:=(Am.mp hi).1;refine za5 (X:=cxS X (X.pn++π) a) (I4.toS a) hN hi (.inl hx) (show RelV (.ref a) (.ref a)from rfl) (λs6 I6=>?_) (.inr hx);refine Bb (hs (X.pn++π) a [] s6 _ _ _ I6 (hsuite a nH)) (λf s7 hf=>?_) λ_ _ z=>z.elim
  cases f with
  |next=>
   let⟨σ7,H7,J7,q7⟩:=hf;have J8:Inv X π σ7 H7 s7:=Inv.ofS I.ok J7;exact zdI (pos:=hpos) J8 hN hi hx (by rw[J8.len];exact hln) λs8 J9=>⟨_,H7,J9,q7⟩
  |brk=>
   let⟨_,_,_,z⟩:=hf;exact z.elim
  |cont=>
   let⟨_,_,_,z⟩:=hf;exact z.elim
  |ret u=>
   let⟨v,σ7,H7,J7,r7,q7⟩:=hf;have J8:Inv X π σ7 H7 s7:=Inv.ofS I.ok J7;exact zdI (pos:=hpos) J8 hN hi hx (by rw[J8.len];exact hln) λs8 J9=>⟨v,_,H7,J9,r7,q7⟩
end
section
variable {S:Se}{X:Cx}{σ:St}{B:AJ->Prop}{φ φ1:Ph}{H H1:Hp}{st:SO}{ρ:IC.Env}{D:Ends}{body suite:List B9}{b₀:B9}{x n:AL}{p p2 np hpos pos cpos:CB}{W:AJ}{i:Nat}{cb ch:Css}{a e:AT}{es:List AT}{ca ce:Ce}{ces:Ces}
theorem yH.drop{K:AF}{cl:Nat->AJ}(r:yH K cl B φ H ρ σ)(i:Nat):yH K cl B φ H (ρ.set i AD) (σ.set i AD):=by
 refine⟨by rw[BR,BR];exact r.len,λj w e=>?_⟩
 by_cases h:j=i
 .subst h;rw[CM]at e;erw[if_true]at e;split at e<;>cases e
 .rw[AN (Au h)]at e ⊢;exact r.get j w e
abbrev Se.quiet(S:Se):Se:={S with may:=AB}
def zpJ{cs:List Nat}(hstk:∃outer,X.stack=X.env::outer)(hex0:X.ex=[])(hfr:X.env.frame=AA X.env.locals)(hN:X.N.Nodup)(hi:X.N[i]?=AA n)(hx:X.env.scope.names.lookup n=AA .local)(hgx:Gl X x)(hmx:X.mg x=AA (.ref W))(hW:∀c∈cs,EM X.K (.ref (S.cl c)) (.ref W)=AA AC)
  (hb:∀pn P,PSs (ydF X pn P) body (tSs S.quiet (ydF X pn P) cb)) (hs:∀pn a,PSs (cxS X pn a) (b₀::suite) (tSs S.quiet (cxS X pn a) ch)) (hdb:(x==("__debug__":AL))=false:=by decide):
  PS X (.Try body [.ExceptHandler (AA (.Name x np)) (AA n) (b₀::suite) hpos] [] [] pos) (tS S X (.try cb cs i ch)):=by
 refine(zmO (tb:=λpn P=>tSs S.quiet (ydF X pn P) cb) (ts:=λpn a=>tSs S.quiet (cxS X pn a) ch) hstk hex0 hfr hN hi hx hgx hmx hb hs hdb).imp λD σ H ⟨B,φ,st,ρ,rs,re,h⟩ pn=>?_;erw[ex]at h
 cases q:exs S.call ρ st cb with
 |exc d ρ1 st1=>
  rw[q]at h;dsimp only at h
  by_cases hd:cs.contains d=AC
  .rw[if_pos hd]at h;refine⟨λσ1 cls H'=>cls=.ref (S.cl d)/\∃φ',Step φ H φ' H'/\yu X.K S.cl B φ' H' st1/\yH X.K S.cl B φ' H' ρ1 σ1,⟨B,φ,st,ρ,rs,re,?_⟩,?_⟩
   .show yag _ _ _ _ _ (exs S.call ρ st cb) _;rw[q];intro σ' φ1 H1 e s' s1 re1 hx;rcases hx with⟨π,H2,t,φ2,I,q2,c⟩|⟨m,_⟩|⟨m,_⟩
    .refine⟨π,σ',H2,t,I.unwish,CX1.mono c λcls H' z=>?_⟩;let⟨z1,φ',z2,z3⟩:=z;exact⟨z1,φ',(s1.trans q2).trans z2,z3,(re1.step q2).step z2⟩
    .cases m
    .cases m
   .rintro σ1 cls H' ⟨rfl,φ',s1,rs1,re1⟩
    refine⟨S.cl d,rfl,hW d (by simpa using hd),λa ha=>?_⟩;have nB:¬B a:=λz=>by
     let⟨o,e⟩:=rs1.dom a z;rw[ha]at e
     cases e
    have nφ:AA a∉φ':=λz=>by
     let⟨o,e⟩:=rs1.there z;rw[ha]at e
     cases e
    have s2:Step φ' H' φ' (upd H' a (.ext (ybK a (S.cl d)))):=.upd ha;refine⟨B,φ',st1,ρ1.set i (AA (.exn d)),rs1.upd ha,(re1.step s2).set i ?_,?_⟩
    .simp only[yd];exact⟨a,rfl,zm,nB,nφ⟩
    .show yag _ _ _ _ _ (exs S.call (ρ1.set i (AA (.exn d))) st1 ch) _
     cases q2:exs S.call (ρ1.set i (AA (.exn d))) st1 ch with
     |nx ρ2 st2=>
      rw[q2]at h;intro σ' H2 φ2 s3 rs3 re3;exact h _ H2 φ2 ((s1.trans s2).trans s3) rs3 (re3.drop i)
     |rt v st2=>
      rw[q2]at h;intro y H2 φ2 s3 rs3 rv;exact h y H2 φ2 ((s1.trans s2).trans s3) rs3 rv
     |bk ρ2 st2=>rw[q2]at h;exact h.elim
     |ct ρ2 st2=>rw[q2]at h;exact h.elim
     |exc k ρ2 st2=>rw[q2]at h;exact h.elim
     |bad=>rw[q2]at h;exact h.elim
  .rw[if_neg hd]at h;exact h.elim
 |nx ρ1 st1=>
  rw[q]at h;exact⟨λ_ _ _=>False,⟨B,φ,st,ρ,rs,re,by show yag _ _ _ _ _ (exs S.call ρ st cb) _;rw[q];exact h⟩,λ_ _ _ z=>z.elim⟩
 |rt v st1=>
  rw[q]at h;exact⟨λ_ _ _=>False,⟨B,φ,st,ρ,rs,re,by show yag _ _ _ _ _ (exs S.call ρ st cb) _;rw[q];exact h⟩,λ_ _ _ z=>z.elim⟩
 |bk ρ1 st1=>
  rw[q]at h;exact⟨λ_ _ _=>False,⟨B,φ,st,ρ,rs,re,by show yag _ _ _ _ _ (exs S.call ρ st cb) _;rw[q];exact h⟩,λ_ _ _ z=>z.elim⟩
 |ct ρ1 st1=>
  rw[q]at h;exact⟨λ_ _ _=>False,⟨B,φ,st,ρ,rs,re,by show yag _ _ _ _ _ (exs S.call ρ st cb) _;rw[q];exact h⟩,λ_ _ _ z=>z.elim⟩
 |bad=>rw[q]at h;exact h.elim
theorem all_nil{P:Nat->Prop}:∀c∈([]:List Nat),P c:=λ_ h=>by cases h
theorem all_cons{P:Nat->Prop}{c:Nat}{cs:List Nat}(h:P c)(t:∀d∈cs,P d):∀d∈c::cs,P d:=λd hd=>by
 rcases AX.mp hd with e|e
 .exact e ▸ h
 .exact t d e
structure ycn(K:AF)(mg:AL->Option AG)(C:AJ)(x:AL):Prop where
 m:mg x=AA (.ref C)
 q:D7 K C [.type "ValueError",.type "Exception",.type "BaseException",.type "object"] "ValueError.__new__"=AC
def zjc{k:Nat}(Z:ycn X.K X.mg (S.cl k) x)(hmay:S.may=AC)(hc:X.calm=AC)(hg:Gl X x)(ha:PE X a (tE S X ca))
  (hs:starEach [a] X.env=(AB,eval a X.env)::starEach [] X.env:=by rfl) (hpl:(backTo cpos (starEach [] X.env)).any (·.1)=false:=by rfl) (hdb:(x==("__debug__":AL))=false:=by decide):
  PS X (.Raise (AA (.Call (.Name x np) [a] [] cpos)) AD pos) (tS S X (.raise k ca)):=by
 intro π s σ H D I ⟨B,φ,st,ρ,rs,re,h⟩;erw[ex]at h;have OC:=zqD I.ok.mod.kin Z.m Z.q;have FB:=PySem.F.excBase_ValueError;let⟨tl,Nn,nm,q,bs,hdct,sn,sub,ab,col,dd,k0,k1,k2,k3,k5,mN,hC,hN,hni,TL⟩:=OC.obj;refine wpAny_Raise_call_subT (C:=S.cl k) (nm:=nm) (q:=q) (N:=Nn) (bs:=bs) (bm:=tl) (hdct:=hdct) (sn:=sn) (sub:=sub) (ab:=ab) (col:=col) (dd:=dd) (k0:=k0) (k1:=k1) (k2:=k2) (k3:=k3) (k5:=k5)
  FB (mN:=mN) (TL.hasType FB.hasBase) (I.ok.hd hc) (by rw[hs];show (AB || (backTo cpos (starEach [] X.env)).any (·.1))=AB;rw[hpl];rfl) hni (zbi I hg OC.bound ⟨rfl,?_⟩ hdb)
 have hA:=(zaj ha zf2 hs) cpos π s σ H (λvs H1=>∃v,vs=[v]/\∃φ1 st1,Step φ H φ1 H1/\yu X.K S.cl B φ1 H1 st1/\yH X.K S.cl B φ1 H1 ρ σ/\yag S X B φ1 H1 (.exc k ρ st1) D) I
  (tE.fl rs re h λx H1 v st1 φ1 s1 rs1 re1 rv h1=>⟨x,rfl,φ1,st1,s1,rs1,re1,h1⟩)
 rw[hs]at hA ⊢;refine Db (thn hA λus s1 kq=>?_);let⟨vs,H1,I1,r1,v,ev,φ1,st1,t1,rs1,re1,h1⟩:=kq;subst ev;refine⟨rfl,by rw[<-r1.length];show 1<=sizeLine;decide,I1.bk _ _ hC,hN.keeps I1.bk,TL.keeps I1.bk,λh' e' hx=>?_⟩;exact h1 σ φ1 H1 _ _ .rfl re1 (.inr (.inl ⟨hmay,π,H1,s1,φ1,h',e',us,I1,.rfl,rs1,hx,rfl,rfl⟩))
def tyZ(cl:Nat->AJ):Ty->AG
 |.cls d=>.ref (cl d)
 |_=>.type "ValueError"
def ybL(cl:Nat->AJ):Ty->V
 |.cls d=>.ref (cl d)
 |_=>.ty "ValueError"
def zgt{cl:Nat->AJ}{t:Ty}{c:AG}(r:RelV (ybL cl t) c):c=tyZ cl t:=by
 cases t<;>exact r
def zhv:bootBuiltins "ValueError"=AA (.type "ValueError"):=by decide +kernel
def zpe{d:Nat}{cl:Nat->AJ}(hg:Gl X x)(hm:X.mg x=AA (.ref (cl d)))(hd:(x==("__debug__":AL))=false:=by decide):PE X (.Name x pos) (tC (ybL cl (.cls d))):=zcJ hg hm rfl hd
def zoW{cl:Nat->AJ}(hg:Gl X "ValueError")(hm:X.mg "ValueError"=AD):PE X (.Name "ValueError" pos) (tC (ybL cl .val)):=ziE hg hm zhv rfl
def ych(K:AF)(cl:Nat->AJ)(c:Nat)(t:Ty):Prop:=BC K (.ref (cl c)) (tyZ cl t)=AA (yaU (.exn c) t)
def zij{K:AF}{cl:Nat->AJ}{c:Nat}:∀{ts:List Ty},(∀t∈ts,ych K cl c t)->Ha K (.ref (cl c)) (ts.map (tyZ cl))=AA (ts.any (yaU (.exn c)))
 |[],_=>rfl
 |t::ts,h=>by
  have ht:=h t A8;unfold ych at ht;rw[AU,Ha,ht,Ax]
  cases yaU (.exn c) t with
  |true=>rfl
  |false=>exact zij λt' h'=>h t' (AQ _ h')
abbrev gaE:=PySem.F.attr_ValueError.ga
def zlc{cs:List Nat}{ts:List Ty}{v z:PV}(h:ycP cs v ts=AA z):∃c,v=.exn c/\c∈cs/\z=.bl (ts.any (yaU (.exn c))):=by
 cases v with
 |exn c=>
  erw[ycP]at h;split at h
  .rename_i q;exact⟨c,rfl,by simpa using q,(AY h).symm⟩
  .cases h
 |_=>cases h
def ygJ(S:Se)(X:Cx)(cs:List Nat)(t:Ty):List V->Hp->VK->Prop:=λxs H Q=>∃B φ st v x z,xs=[x,ybL S.cl t]/\yu X.K S.cl B φ H st/\yd X.K S.cl B φ H v x/\ycP cs v [t]=AA z /\
 ∀z' H' φ',Step φ H φ' H'->yu X.K S.cl B φ' H' st->yd X.K S.cl B φ' H' z z'->Q z' H'
def zoC{cs:List Nat}{t:Ty}(Z:∀c∈cs,ybt X.K (S.cl c)/\ych X.K S.cl c t):yQ X (.builtin "isinstance") (ygJ S X cs t):=by
 rintro π s σ H xs us Q I r ⟨B,φ,st,v,x,z,rfl,rs,rv,e,q⟩
 let⟨u,c',rfl,ru,rc⟩:=vals2 r;let⟨c,rfl,hc,rfl⟩:=zlc e
 cases zgt rc
 erw[yd]at rv;let⟨a,rfl,hH,_,_⟩:=rv
 cases (show u=A7 a from ru)
 let⟨Z1,Z2⟩:=Z c hc;have p:ybK a (S.cl c) s.heap:=(I.hok a _ hH).1;exact CJ (zgk Z1 gaE) I.kIn p Z2 (λz=>nomatch z) λtk=>⟨.bl _,H,I.tok tk,rfl,q _ H φ .rfl rs (by simp[yd])⟩
def zoO{cs:List Nat}{t:Ty}{en:AT}(Z:∀c∈cs,ybt X.K (S.cl c)/\ych X.K S.cl c t)(hg:Gl X "isinstance")(hm:X.mg "isinstance"=AD)(hn:PE X en (tC (ybL S.cl t)))(ha:PE X a (tE S X ca))
  (he:starEach [a,en] X.env=(AB,eval a X.env)::starEach [en] X.env:=by rfl) (he2:starEach [en] X.env=(AB,eval en X.env)::starEach [] X.env:=by rfl) (hpl:(backTo pos (starEach [en] X.env)).any (·.1)=false:=by rfl):
  PE X (.Call (.Name "isinstance" p) [a,en] [] pos) (tE S X (.isx ca cs [t])):=
 (zcZ (zoC Z) hg hm C9 (zaj ha (zaj hn zf2 he2) he) ⋯ ⋯ he hpl).imp λσ H Q ⟨B,φ,st,ρ,rs,re,h⟩=>by
  erw[ev]at h;refine tE.bind rs re h λx H1 v st1 φ1 s1 rs1 re1 rv h1=>?_;let⟨z,e,q⟩:=zU h1 rs1;exact⟨B,φ1,st1,v,x,z,rfl,rs1,rv,e,q⟩
abbrev tNs(vs:List V):TA:=λ_ H Q=>Q vs H
def znQ:PA X [] (tNs []):=zf2.imp λσ H Q h=>h
def zlJ{v:V}{vs:List V}(h:PE X e (tC v))(t:PA X es (tNs vs))(he:starEach (e::es) X.env=(AB,eval e X.env)::starEach es X.env:=by rfl):PA X (e::es) (tNs (v::vs)):=(zaj h t he).imp λσ H Q h=>h
def zi0{cl:Nat->AJ}:∀{ts:List Ty} {us:List AG},Vals (ts.map (ybL cl)) us->us=ts.map (tyZ cl)
 |[],us,h=>by cases h;rfl
 |t::ts,us,h=>by
  cases h with
  |cons r q=>rw[zgt r,zi0 q];rfl
def yeq(S:Se)(X:Cx)(cs:List Nat)(ts:List Ty):List V->Hp->VK->Prop:=λxs H Q=>∃B φ st v x z p,xs=[x,.ref p]/\H p=AA (.tup (ts.map (ybL S.cl)))/\yu X.K S.cl B φ H st/\yd X.K S.cl B φ H v x/\ycP cs v ts=AA z /\
 ∀z' H' φ',Step φ H φ' H'->yu X.K S.cl B φ' H' st->yd X.K S.cl B φ' H' z z'->Q z' H'
def zll{cs:List Nat}{ts:List Ty}(Z:∀c∈cs,ybt X.K (S.cl c)/\∀t∈ts,ych X.K S.cl c t):yQ X (.builtin "isinstance") (yeq S X cs ts):=by
 rintro π s σ H xs us Q I r ⟨B,φ,st,v,x,z,p,rfl,hp,rs,rv,e,q⟩
 let⟨u,c',rfl,ru,rc⟩:=vals2 r;let⟨c,rfl,hc,rfl⟩:=zlc e
 cases (show c'=A7 p from rc)
 erw[yd]at rv;let⟨a,rfl,hH,_,_⟩:=rv
 cases (show u=A7 a from ru)
 let⟨Z1,Z2⟩:=Z c hc;have pp:ybK a (S.cl c) s.heap:=(I.hok a _ hH).1;let⟨_,its,r2,⟨oc,od,odt,osl⟩,g,hcl,n,hd⟩:=(show yM X.prog X.w H s.heap p (.tup (ts.map (ybL S.cl)))from I.hok p _ hp);have:=zi0 r2;dsimp only at hcl hd;subst hcl hd this;exact PySem.W.kia_tup (zgk Z1 gaE) I.kIn pp g (zij Z2) (λz=>nomatch z) λtk=>⟨.bl _,H,I.tok tk,rfl,q _ H φ .rfl rs (by simp[yd])⟩
def zm6{cs:List Nat}{ts:List Ty}{k:Nat}{tp:CB}(Z:∀c∈cs,ybt X.K (S.cl c)/\∀t∈ts,ych X.K S.cl c t)(hz:ts.length<=1000)(hg:Gl X "isinstance")(hm:X.mg "isinstance"=AD)(hn:PA X es (tNs (ts.map (ybL S.cl))))(ha:PE X a (tE S X ca))
  (he:starEach [a,.Tuple es k tp] X.env=(AB,eval a X.env)::starEach [.Tuple es k tp] X.env:=by rfl) (he2:starEach [.Tuple es k tp] X.env=(AB,eval (.Tuple es k tp) X.env)::starEach [] X.env:=by rfl) (hpl:(backTo pos (starEach [.Tuple es k tp] X.env)).any (·.1)=false:=by rfl):
  PE X (.Call (.Name "isinstance" p) [a,.Tuple es k tp] [] pos) (tE S X (.isx ca cs ts)):=
 (zcZ (zll Z) hg hm C9 (zaj ha (zaj (zk3 hn) zf2 he2) he) ⋯ ⋯ he hpl).imp λσ H Q ⟨B,φ,st,ρ,rs,re,h⟩=>by
  erw[ev]at h;refine tE.bind rs re h λx H1 v st1 φ1 s1 rs1 re1 rv h1=>?_;let⟨z,e,q⟩:=zU h1 rs1;refine⟨by rw[Ap,BP];lia,λpp hp=>?_⟩;have s2:Step φ1 H1 φ1 (upd H1 pp (.tup (ts.map (ybL S.cl)))):=.upd hp;exact⟨B,φ1,st1,v,x,z,pp,rfl,zm,rs1.upd hp,rv.step s2,e,λz' H' φ' s'=>q z' H' φ' (s2.trans s')⟩
def tJ(S:Se)(X:Cx)(c:Ces):TJ:=λout σ H Q=>∃B φ st ρ,yu X.K S.cl B φ H st/\yH X.K S.cl B φ H ρ σ/\∃vs st' z,evs S.call ρ st c=.ok vs st'/\yb7 out vs=AA z/\∀H' φ',Step φ H φ' H'->yu X.K S.cl B φ' H' st'->Q (.str z) H'
def tF(S:Se)(X:Cx)(c:Ce):TE:=λσ H Q=>∃B φ st ρ,yu X.K S.cl B φ H st/\yH X.K S.cl B φ H ρ σ/\∃v st' y,ev S.call ρ st c=.ok v st'/\ybI v=AA y/\∀H' φ',Step φ H φ' H'->yu X.K S.cl B φ' H' st'->Q (.str y) H'
def zoQ(h:PE X e (tE S X ce)):PE X (.FormattedValue e (-1) AD pos) (tF S X ce):=by
 intro π s σ H Q I ⟨B,φ,st,ρ,rs,re,v,st',y,e1,e2,q⟩;refine FormattedValue_plain (thn (h π s σ H (λx H1=>∃φ1,Step φ H φ1 H1/\yu X.K S.cl B φ1 H1 st'/\yd X.K S.cl B φ1 H1 v x) I ⟨B,φ,st,ρ,rs,re,by rw[e1];exact λx H' φ' t r rv=>⟨φ',t,r,rv⟩⟩) λu s1 kq=>?_);let⟨x,H1,I1,r1,φ1,t1,rs1,rv⟩:=kq
 cases v with
 |int i=>
  erw[yd]at rv;subst rv;let⟨tk,rfl⟩:=r1;erw[ybI]at e2;split at e2
  .rename_i hd
   cases e2
   exact formatField_int_small hd ⟨.str _,H1,I1.tok _,⟨_,rfl⟩,q H1 φ1 t1 rs1⟩
  .cases e2
 |str z=>
  erw[yd]at rv;subst rv;let⟨tk,rfl⟩:=r1;erw[ybI]at e2;split at e2
  .rename_i hd
   cases e2
   exact formatField_str (λt' tk=>⟨.str _,H1,I1.tok _,⟨_,rfl⟩,q H1 φ1 t1 rs1⟩) (by rw[BP];exact hd)
  .cases e2
 |_=>cases e2
def zog{y:AL}{j:Nat}:PE X (.Constant (.str y) j pos) (tF S X (.cst (.str y))):=znd.imp λσ H Q ⟨B,φ,st,ρ,rs,re,v,st',z,e1,e2,q⟩=>by
 erw[ev]at e1
 cases e1
 erw[ybI]at e2;split at e2
 .cases e2;exact q H φ .rfl rs
 .cases e2
def zni:PJ X [] (tJ S X .nil):=λout π s σ H Q I ⟨B,φ,st,ρ,rs,re,vs,st',z,e1,e2,q⟩=>by
 erw[evs]at e1
 cases e1
 erw[yb7]at e2;split at e2
 .rename_i hz
  cases e2
  exact zpf out π s σ H Q I ⟨by rw[BP];exact hz,q H φ .rfl rs⟩
 .cases e2
def ziB(he:PE X e (tF S X ce))(hr:PJ X es (tJ S X ces))(hs:evalEach (e::es) X.env=eval e X.env::evalEach es X.env:=by rfl):PJ X (e::es) (tJ S X (.cons ce ces)):=λout π s σ H Q I ⟨B,φ,st,ρ,rs,re,vs,st',z,e1,e2,q⟩=>by
 erw[evs]at e1
 cases e3:ev S.call ρ st ce with
 |ok v st1=>
  rw[e3]at e1;erw[R.bind]at e1
  cases e4:evs S.call ρ st1 ces with
  |ok ws st2=>
   rw[e4]at e1;simp only at e1
   cases e1
   erw[yb7]at e2
   cases e5:ybI v with
   |none=>rw[e5]at e2;cases e2
   |some y=>
    rw[e5]at e2;simp only at e2;split at e2
    .rename_i hz;refine zmo he hr hs out π s σ H Q I ⟨B,φ,st,ρ,rs,re,v,st1,y,e3,e5,λH' φ' t1 rs1=>⟨y,rfl,by rw[BP];exact hz,B,φ',st1,ρ,rs1,re.step t1,ws,st',z,e4,e2,λH2 φ2 t2 rs2=>q H2 φ2 (t1.trans t2) rs2⟩⟩
    .cases e2
  |exc c st2=>rw[e4]at e1;cases e1
  |bad=>rw[e4]at e1;cases e1
 |exc c st1=>rw[e3]at e1;cases e1
 |bad=>rw[e3]at e1;cases e1
def znR{v1 v2:AT}{rest:List AT}(h:PJ X (v1::v2::rest) (tJ S X ces)):PE X (.JoinedStr (v1::v2::rest) pos) (tE S X (.fst ces)):=(zik h).imp λσ H Q ⟨B,φ,st,ρ,rs,re,h⟩=>by
 erw[ev]at h
 cases e1:evs S.call ρ st ces with
 |ok vs st1=>
  rw[e1]at h;erw[yc7]at h
  cases e2:yb7 DA vs with
  |none=>rw[e2]at h;exact h.elim
  |some z=>
   rw[e2]at h;exact⟨B,φ,st,ρ,rs,re,vs,st1,z,e1,e2,λH' φ' t r=>h _ H' φ' t r (by erw[yd])⟩
 |exc c st1=>rw[e1]at h;exact h.elim
 |bad=>rw[e1]at h;exact h.elim
end
def zba:fillsNumberSlot (.type "tuple") "mul"=pure false:=
 PySem.fillsNumberSlot_seq (id:="tuple.__mul__") (r:=AA (.builtin "tuple.__rmul__")) C5.lookup (by decide +kernel) Ez.lookup (by decide +kernel)
def zcT:seqRepeat? (.type "tuple")=pure (AA (.builtin "tuple.__mul__")):=by
 unfold seqRepeat?;rw[Gr (T:="tuple") (name:="__mul__") (id:="tuple.__mul__") C5.lookup (by decide +kernel),Gr (T:="tuple") (name:="__rmul__") (id:="tuple.__rmul__") Ez.lookup (by decide +kernel)];rfl
def zbQ(a:Int)(t:Hq)(l:AJ)(items:Array AG)(n:Nat)(dd:Option AJ)(sl:Array (Option AG)):
  Meets (Dv.«int.__rmul__» ⟨[.int a t,.ref l],[]⟩) (λ_ R s=>s.heap.get? l=AA {cls:=.type "tuple",dict:=dd,data:=.seq items n,slots:=sl}/\R (.ok (.ret Value.notImplemented)) s):=
 .of_wp λprog w A R s h=>by let⟨hp,g,d,tk,os⟩:=s;let⟨hl,h⟩:=h;wp_walk;exact⟨_,rfl,h⟩
def zg6(l:AJ)(items:Array AG)(n:Nat)(dd:Option AJ)(sl:Array (Option AG))(x:Int)(u:Hq)(hc0:¬(decide (x < -(2^63)) || decide (x ≥ 2^63))=AC)(hc1:¬(items.isEmpty || x==1)=AC)(hc2:¬(decide (x<=0) || items.isEmpty)=AC)(hc3:¬(items.size:Int)*x > (2^63-1)/8)(hc4:¬EN ((items.size:Int)*x)=AC)
  (hsz:((AM x.toNat items).foldl (·++·) #[]).size<=sizeLine):
  Meets (Dv.«tuple.__mul__» ⟨[.ref l,.int x u],[]⟩) (λ_ R s=>s.heap.get? l=AA {cls:=.type "tuple",dict:=dd,data:=.seq items n,slots:=sl}/\R (.ok (.ret (A7 s.heap.objs.size))) {s with heap:=s.heap.push {cls:=FF "tuple",data:=Data.seq ((AM x.toNat items).foldl (·++·) #[])},toks:=s.toks}):=
 .of_wp λprog w A R s h=>by
  let⟨hp,g,d,tk,os⟩:=s;let⟨hl,h⟩:=h;have f1:=Gu;have f2:=Ej
  have ht:Hr (⟨hp,g,d,tk,os⟩:AK).heap l items:=⟨_,hl,rfl,n,rfl⟩
  wp_walk
  rw[if_neg hc0];refine AI (DS ht ?_);rw[if_neg hc1];rw[if_neg hc2];rw[if_neg hc3];rw[if_neg hc4];exact AI (m:=Bf _) (BV (AV ⟨_,rfl,h⟩) hsz)
def zgR(l:AJ)(items:Array AG)(n:Nat)(dd:Option AJ)(sl:Array (Option AG))(u:Hq):
  Meets (Dv.«tuple.__mul__» ⟨[.ref l,.int 1 u],[]⟩) (λ_ R s=>s.heap.get? l=AA {cls:=.type "tuple",dict:=dd,data:=.seq items n,slots:=sl}/\R (.ok (.ret (A7 l))) s):=
 .of_wp λprog w A R s h=>by
  let⟨hp,g,d,tk,os⟩:=s;let⟨hl,h⟩:=h;have f1:=Gu;have f2:=Ej
  wp_walk
  exact⟨_,rfl,h⟩
def zdU(its:List AG):∀k:Nat,(AM k its.toArray).foldl (·++·) #[]=((AM k its).flatten).toArray:=λk=>by
 have:=listMul_foldl its.toArray k #[];simpa using this
theorem Vals.repN{xs:List V}{us:List AG}(r:Vals xs us):∀k:Nat,Vals (AM k xs).flatten (AM k us).flatten
 |0=>.nil
 |k+1=>by
  rw[Ay,Ay,B5,B5];exact r.append (Vals.repN r k)
section
variable {S:Se}{X:Cx}{p pos p2 px apos:CB}{a b:AT}{ca cb:Ce}
def zl6:OpR X (binaryOp .Mult) (λx y H Q=>∃a xs n,x=.ref a/\y=.int n/\SqT X.K H a xs/\xs≠[]/\2<=n/\n<=1000/\xs.length<=1000/\∀p,H p=AD->Q (.ref p) (upd H p (.tup (AM n.toNat xs).flatten))):=by
 intro π s σ H x y v u Q I rx ry h;let⟨a,xs,n,rfl,rfl,ha,hx,h2,hn,hz,q⟩:=h
 cases rx
 let⟨t,rfl⟩:=ry;let⟨its,r1,p1,_⟩:=I.tuple ha;let⟨⟨cls,dd,data,sl⟩,ho,hc,m,hd⟩:=id p1;simp only at hc hd;subst hc hd;have hl:=r1.length;have hne:its≠[]:=λz=>hx (r1.nil_iff.mp z);have hmul:its.length*n.toNat<=1000*1000:=An ∅ ∅;have hmulI:(its.length:Int)*n<=1000000:=by
  have:((its.length*n.toNat:Nat):Int)=(its.length:Int)*n:=by rw[Int.natCast_mul,Cp ∅]
  lia
 have hfl:∀k,((AM k its).flatten).length=k*its.length:=λk=>by simp
 have hflx:((AM n.toNat xs).flatten).length<=sizeLine:=by
  rw[List.length_flatten,BP];erw[List.map_replicate,List.sum_replicate_nat];rw[hl,G5];lia
 refine CZ (T:="tuple") (U:="int") ⋯ ⟨_,ho,rfl⟩ (λs'=>D1 s' n t) zba Dt Bv zcT Dd.lookup
  (CO Bv (D1 s n t) De (DV _ _) (zbQ n t a its.toArray m dd sl)
   ⟨ho,rfl,⟨_,ho,rfl⟩,CO C5 ⟨_,ho,rfl⟩ FA (Ek _ _)
    (zg6 a its.toArray m dd sl n t (by simp;lia) (by simp[hne];lia) (by simp[hne];lia) (by erw[AS];lia) (by erw[EN,AS];simp[BP];lia) (by rw[zdU,AS,hfl,BP,G5];lia)) ⟨ho,?_⟩⟩)
 rw[zdU];refine⟨.ref s.heap.objs.size,_,I.laid (t':=s.toks) (o:=.tup (AM n.toNat xs).flatten) (λb ob q=>AO _ q) (AR _) ?_,rfl,q _ (I.hok.fresh (AR _))⟩;exact⟨hflx,_,r1.repN n.toNat,Fg _ _⟩
def zmv:OpR X (binaryOp .Mult) (λx y H Q=>∃a xs,x=.ref a/\y=.int 1/\SqT X.K H a xs/\Q (.ref a) H):=by
 intro π s σ H x y v u Q I rx ry h;let⟨a,xs,rfl,rfl,ha,q⟩:=h
 cases rx
 let⟨t,rfl⟩:=ry;let⟨its,r1,p1,_⟩:=I.tuple ha;let⟨⟨cls,dd,data,sl⟩,ho,hc,m,hd⟩:=id p1;simp only at hc hd;subst hc hd;exact CZ (T:="tuple") (U:="int") ⋯ ⟨_,ho,rfl⟩ (λs'=>D1 s' 1 t) zba Dt Bv zcT Dd.lookup
  (CO Bv (D1 s 1 t) De (DV _ _) (zbQ 1 t a its.toArray m dd sl)
   ⟨ho,rfl,⟨_,ho,rfl⟩,CO C5 ⟨_,ho,rfl⟩ FA (Ek _ _) (zgR a its.toArray m dd sl t) ⟨ho,⟨.ref a,H,I,rfl,q⟩⟩⟩)
theorem ye.rep{K:AF}{cl:Nat->AJ}{B:AJ->Prop}{φ:Ph}{H:Hp}{vs:List PV}{xs:List V}(l:ye K cl B φ H vs xs):∀k:Nat,ye K cl B φ H (AM k vs).flatten (AM k xs).flatten
 |0=>by simp[ye]
 |k+1=>by
  rw[Ay,Ay,B5,B5];exact l.append (ye.rep l k)
def zeU(a:Array Nat):∀(k:Nat) (acc:Array Nat),((AM k a).foldl (·++·) acc).toList=acc.toList++(AM k a.toList).flatten
 |0,acc=>by simp
 |k+1,acc=>by
  rw[Ay,C7,zeU a k (acc++a)];simp[Ay]
def znx{x:AL}{n:Int}(h1:1<=n)(h2:1<=x.length):Txt.mul x n=⟨(AM n.toNat x.cps.toList).flatten.toArray⟩:=by
 unfold Txt.mul;rw[if_neg ∅]
 by_cases q:n=1
 .subst q;rw[if_pos (by simp)]
  cases x
  simp
 .have:(n==1 || x.length==0)=false:=by simp[q];lia
  rw[if_neg (by rw[this];simp)]
  congr 1
  apply Gv.mp;rw[zeU];simp
def zlw{x:AL}{n:Int}(h1:1<=n)(h2:n<=1000)(h3:x.length<=1000)(h4:1<=x.length){π:List (AJ×B7)}{s:AK}{σ:St}{H:Hp}{t u:Hq}{Q:VK}(I:Inv X π σ H s)(q:Q (.str ⟨(AM n.toNat x.cps.toList).flatten.toArray⟩) H):
  A2 (model X.prog X.w) X.A (binaryOp .Mult (.str x t) (.int n u)) (EP X π σ Q) X.xe s:=by
 have hm:x.length*n.toNat<=1000*1000:=An h3 ∅;refine SB.mul ⟨by rw[decide_eq_false ∅,decide_eq_false ∅];rfl,λ_ _=>?_,λ_ _=>?_⟩ λt' k=>?_
 .have h5:(x.length:Int)*n<=1000*1000:=EO ∅ h2 ∅ ∅;have:=(Int.le_ediv_iff_mul_le (a:=(x.length:Int)) (b:=2^63-1) (show (0:Int)<n by lia)).2 ∅;lia
 .unfold Builtin.Str.tooLong;rw[BP];exact decide_eq_false ∅
 .rw[znx h1 h4];exact⟨.str _,H,I.tok k,⟨_,rfl⟩,q⟩
def zpz:OpR X (binaryOp .Mult) (rT2 S X ydw):=by
 rintro π s σ H x y v u Q I rx ry ⟨B,φ,st,a,b,z,rs,ra,rb,e,q⟩
 unfold ydw at e;split at e
 .rename_i a n;split at e
  .rename_i c
   cases e
   erw[yd]at ra rb;subst ra rb;let⟨t1,rfl⟩:=rx;let⟨t2,rfl⟩:=ry;exact zlw c.1 c.2.1 c.2.2.1 c.2.2.2 I (q _ H φ .rfl rs (by erw[yd]))
  .cases e
 .rename_i k vs n;split at e
  .rename_i c
   cases e
   subst c;erw[yd]at rb;have ra':=ra;erw[yd]at ra';let⟨p,xs,rfl,rt,l⟩:=ra';exact zmv π s σ H _ _ v u Q I rx ry ⟨p,xs,rfl,rb,rt.sq,q _ H φ .rfl rs ra⟩
  split at e
  .rename_i c
   cases e
   erw[yd]at ra rb;subst rb;let⟨p,xs,rfl,rt,l⟩:=ra;have hl:=l.length;refine zl6 π s σ H _ _ v u Q I rx ry ⟨p,xs,n,rfl,rfl,rt.sq,?_,c.1,c.2.1,by rw[<-hl];exact c.2.2.2,λt ht=>q _ _ φ (.upd ht) (rs.upd ht) (.tup_new ht rs (l.rep n.toNat))⟩
   rintro rfl
   cases vs with
   |nil=>exact absurd c.2.2.1 (by simp)
   |cons _ _=>simp at hl
  .cases e
 .rename_i vs n;split at e
  .rename_i c
   cases e
   erw[yd]at ra rb;subst rb;let⟨p,xs,rfl,rt,l⟩:=ra;have hl:=l.length;have hm:xs.length*n.toNat<=1000*1000:=An ∅ ∅;exact zpa π s σ H _ _ v u Q I rx ry ⟨p,n,xs,rfl,rfl,rt.1,by lia,by lia,by rw[BP];lia,λt ht=>q _ _ φ (.upd ht) (rs.upd ht) (.lst_new ht rs (l.rep n.toNat))⟩
  .cases e
 .cases e
def zpg(ha:PE X a (tE S X ca))(hb:PE X b (tE S X cb)):PE X (.BinOp a .Mult b pos) (tE S X (.rep ca cb)):=
 (zl4 zpz ha hb).imp λσ H Q ⟨B,φ,st,ρ,rs,re,h⟩=>by
  erw[ev]at h;refine tE.bind rs re h λx H1 v st1 φ1 s1 rs1 re1 rv h1=>tE.bind rs1 re1 h1 λy H2 w st2 φ2 s2 rs2 re2 rw h2=>?_;let⟨z,e,q⟩:=zU h2 rs2;exact⟨B,φ2,st2,v,w,z,rs2,rv.step s2,rw,e,q⟩
def GCI(mg:AL->Option AG)(x:AL)(i:Int):Prop:=∃t,mg x=AA (.int i t)
def zn9{x:AL}{i:Int}(hg:Gl X x)(h:GCI X.mg x i)(hd:(x==("__debug__":AL))=false:=by decide):PE X (.Name x pos) (tE S X (.cst (.int i))):=by
 let⟨t,hm⟩:=h;exact(zcJ hg hm (show RelV (.int i) (.int i t)from ⟨t,rfl⟩) hd).imp λσ H Q ⟨B,φ,st,ρ,rs,re,h⟩=>by
  erw[ev]at h;exact h.ok rs (by erw[yd])
end
end L2
namespace WE
open PySem PySem.Spec PyProof.Rows
section
variable {prog:A4}{w:Af}{A:Ag}{E:AG->AK->Prop}{s:AK}
def ydq(h:Aq)(a t:AJ)(i:Int):Prop:=∃o,h.get? a=AA o/\o.cls=.type "reversed"/\o.data=.fields #[.ref t,rawInt i]
theorem ydq.typeIs{a t:AJ}{i:Int}(x:ydq s.heap a t i):s.TypeIs (.ref a) "reversed":=let ⟨o,ho,hc,_⟩:=x;⟨o,ho,hc⟩
end
end WE
namespace L2
open PySem PySem.Spec PyProof.Rows
end L2
namespace L2
open PySem PySem.Spec PyProof.Rows IC
open Classical in
def eqR(h:Aq)(dw:PyData)(u:AG):Bool:=decide (∃d as,Reads h u d as/\BA d dw=AC)
def zkU{h:Aq}{u:AG}{d dw:PyData}{as:List AJ}(r:Reads h u d as):eqR h dw u=BA d dw:=by
 unfold eqR
 classical
 cases c:BA d dw with
 |true=>exact decide_eq_true (p:=∃d as,Reads h u d as/\BA d dw=AC) ⟨d,as,r,c⟩
 |false=>
  refine decide_eq_false ?_
  rintro⟨d',as',r',q⟩
  have:=(reads_det (λb o e _=>e) r r').1;subst this;rw[c]at q
  cases q
section
variable {S:Se}{X:Cx}{σ:St}{B:AJ->Prop}{φ φ1:Ph}{H H1:Hp}{st:SO}{ρ:IC.Env}{p pos p2 px py pt pt2:CB}{a b c d o a' b' c' d':AT}{ca cb cc cd ce cf:Ce}{π:List (AJ×B7)}{s:AK}{kt k2:Nat}{es:List AT}{ces:Ces}{x:AL}
def zdy(I:Inv X π σ H s)(w:PV)(hw:shd 60 w=AC):∀(vs:List PV) (xs:List V) (us:List AG),ya4 60 vs=AC->ye X.K S.cl B φ H vs xs->Vals xs us->us.any (eqR s.heap (toD w))=inL w vs
 |[],xs,us,h,r,q=>by
  erw[ye]at r;subst r;cases q;rfl
 |v::vs,xs,us,h,r,q=>by
  erw[ye]at r;let⟨y,ys,rfl,rv,l⟩:=r;erw[ya4,AH]at h
  cases q with
  |cons q1 q2=>
   let⟨as,z1⟩:=zaA (S:=S) I v 60 y _ h.1 rv q1;rw[Ax,zdy I w hw vs ys _ h.2 l q2,zkU z1,zeC v w 60 60 h.1 hw];rfl
def zdD(I:Inv X π σ H s)(w:PV)(hw:shd 60 w=AC){wv:AG}{bs:List AJ}(zw:Reads s.heap wv (toD w) bs)(hu:X.A.units+64<cLine):∀(vs:List PV) (xs:List V) (us:List AG),ya4 60 vs=AC->ye X.K S.cl B φ H vs xs->Vals xs us->∀u∈us,HV X.A.in1 s u wv (eqR s.heap (toD w) u)
 |[],xs,us,h,r,q=>by
  erw[ye]at r;subst r;cases q;intro u hu;cases hu
 |v::vs,xs,us,h,r,q=>by
  erw[ye]at r;let⟨y,ys,rfl,rv,l⟩:=r;erw[ya4,AH]at h
  cases q with
  |cons q1 q2=>
   let⟨as,z1⟩:=zaA (S:=S) I v 60 y _ h.1 rv q1;intro u hm;rcases AX.mp hm with rfl|hm
   .rw[zkU z1];let⟨l1,d1⟩:=zey v 60 h.1;let⟨l2,d2⟩:=zey w 60 hw;refine SeqAt.eqAt_reads _ _ X.A.in1 s _ _ as bs z1 zw l1 l2 ?_;show X.A.units+1+_<_;lia
   .exact zdD I w hw zw hu vs ys _ h.2 l q2 u hm
def rTs(S:Se)(X:Cx)(f:SO->PV->PV->Option PV):R2:=λx y H Q=>∃B φ st v w z,yu X.K S.cl B φ H st/\yd X.K S.cl B φ H v x/\yd X.K S.cl B φ H w y/\f st v w=AA z /\
 ∀z' H' φ',Step φ H φ' H'->yu X.K S.cl B φ' H' st->yd X.K S.cl B φ' H' z z'->Q z' H'
def zk5(hu:X.A.units+64<cLine):OpR X (compareOp .NotIn) (rTs S X ybW):=by
 rintro π s σ H x y v u Q I rx ry ⟨B,φ,st,a,b,z,rs,ra,rb,e,q⟩
 erw[ybW]at e
 cases e1:ya2 st b with
 |none=>rw[e1]at e;cases e
 |some ws=>
  rw[e1]at e;dsimp only at e;split at e
  .rename_i c;rw[AH]at c
   cases e
   let⟨l,ys,rfl,hq,lr⟩:=zgm rs rb e1
   cases (show u=A7 l from ry)
   let⟨bs,z1⟩:=zaA (S:=S) I a 60 x v c.1 ra rx;rcases hq with hq|hq
   .let⟨its,r,pl,hz⟩:=I.list hq;refine SeqAt.notIn_listAt (eqR s.heap (toD a)) pl.isList (λw hw=>zdD (S:=S) I a c.1 z1 hu ws ys its c.2 lr r w (by simpa using hw)) ⟨.bl _,H,I,rfl,?_⟩;rw[show its.toArray.any (eqR s.heap (toD a))=its.any (eqR s.heap (toD a))by simp,zdy (S:=S) I a c.1 ws ys its c.2 lr r];exact q _ H φ .rfl rs (by erw[yd])
   .let⟨its,r,pl,hz⟩:=I.tuple hq;refine SeqAt.notIn_tupleAt (eqR s.heap (toD a)) pl (λw hw=>zdD (S:=S) I a c.1 z1 hu ws ys its c.2 lr r w (by simpa using hw)) ⟨.bl _,H,I,rfl,?_⟩;rw[show its.toArray.any (eqR s.heap (toD a))=its.any (eqR s.heap (toD a))by simp,zdy (S:=S) I a c.1 ws ys its c.2 lr r];exact q _ H φ .rfl rs (by erw[yd])
  .cases e
def znl(hu:X.A.units+64<cLine)(ha:PE X a (tE S X ca))(hb:PE X b (tE S X cb))(hm:behindInMarks .NotIn b=AB):PE X (.Compare a [.NotIn] [b] pos) (tE S X (.nin ca cb)):=
 (zeB (zk5 hu) ha hb hm).imp λσ H Q ⟨B,φ,st,ρ,rs,re,h⟩=>by
  erw[ev]at h;refine tE.bind rs re h λx H1 v st1 φ1 s1 rs1 re1 rv h1=>tE.bind rs1 re1 h1 λy H2 w st2 φ2 s2 rs2 re2 rw h2=>?_;let⟨z,e,q⟩:=zU h2 rs2;exact⟨B,φ2,st2,v,w,z,rs2,rv.step s2,rw,e,q⟩
def zmr{st:SO}{x y z:PV}(h:ybW st x y=AA z):∃k,z=.bl k:=by
 unfold ybW at h;split at h
 .split at h
  .cases h;exact⟨_,rfl⟩
  .cases h
 .cases h
def zoJ(hu:X.A.units+64<cLine)(ha:PE X a (tE S X ca))(hb:PE X b (tE S X cb))(hm:behindInMarks .NotIn b=AB):PT X (.Compare a [.NotIn] [b] pos) (tTs S X (.nin ca cb)):=
 (zfR (zk5 hu) ha hb hm).imp λσ H Q ⟨B,φ,st,ρ,rs,re,h⟩=>by
  erw[ev,yaO,R.bind_assoc]at h;refine tE.bind rs re h λx H1 v st1 φ1 s1 rs1 re1 rv h1=>tE.bind rs1 re1 h1 λy H2 w st2 φ2 s2 rs2 re2 rw h2=>?_
  cases e:ybW st2 v w with
  |none=>rw[e]at h2;exact h2.elim
  |some z=>
   let⟨k,rfl⟩:=zmr e;rw[e]at h2;refine⟨B,φ2,st2,v,w,.bl k,rs2,rv.step s2,rw,e,λz' H' φ' s' rs' rz=>?_⟩;erw[yd]at rz;exact⟨k,rz,h2 k H' φ' s' rs' rfl⟩
end
end L2
namespace IC
open PySem
end IC
namespace L2
open PySem PySem.Spec PyProof.Rows IC
section
variable {S:Se}{X:Cx}{σ:St}{B:AJ->Prop}{φ:Ph}{H:Hp}{p p2 pos pos2 apos:CB}{a b tg:AT}{ca cb:Ce}
def zds:∀{ys:List AL},(∀y∈ys,y.length<=1000)->(ys.map (·.length)).sum<=1000*ys.length
 |[],_=>by simp
 |y::ys,h=>by
  have:=zds λz hz=>h z (AQ _ hz);have:=h y (by simp);erw[AU,GE,A1];lia
def zdS:∀bs:List Bool,((C0 bs.length).any λi=>(bs[i]?).getD AC)=bs.any id
 |[]=>rfl
 |b::bs=>by
  rw[A1,FN,Ax,IF,Ax,<-zdS bs];rfl
def zkA(hc:X.calm=AC):yQ X (.builtin "any") (λxs H Q=>∃(l:AJ) (bs:List Bool),xs=[.ref l]/\SqL X.K H l (bs.map V.bl)/\Q (.bl (bs.any id)) H):=by
 intro π s σ H xs us Q I r h;let⟨l,bs,rfl,hq,q⟩:=h;let⟨u,rfl,ru⟩:=Vals.one r
 cases (show u=A7 l from ru)
 let⟨its,rv,pl,hz⟩:=I.list hq;have hb:=zex rv;have hl:=pl.isList;have hlt:l<s.heap.objs.size:=by
  let⟨_,e,_⟩:=hl;exact AZ e
 refine call_any_walk (EZ hl ?_);refine⟨s.heap.objs.size,[s.heap.objs.size,l],[s.heap.objs.size],its.toArray.size,_,_,λi=>(bs[i]?).getD AC,rfl,IT (A:=X.A.in1) (I.ok.hd hc) _ l (Ah hlt) its.toArray,⟨⟨_,A3 _ rfl,rfl,rfl⟩,hl.push _⟩,λi v s' Q' E' hP hQ=>?_,λh' tk hk=>?_⟩
 .let⟨b,e,rfl⟩:=hb.get i v (by simpa using hP);erw[e,BL]at hQ;exact BO hQ
 .have e:((C0 its.toArray.size).any λi=>(bs[i]?).getD AC)=bs.any id:=by
   rw[AS,hb.length];exact zdS bs
  rw[e];exact⟨.bl _,H,I.kept (t':=tk) (Fz hk),rfl,q⟩
def zkP:∀{vs:List PV} {m:Bool},IC.anyB vs=AA m->∃ns:List Bool,vs=ns.map .bl/\m=ns.any id
 |[],m,h=>by cases h;exact⟨[],rfl,rfl⟩
 |.bl i::r,m,h=>by
  erw[IC.anyB]at h;split at h
  .rename_i c e
   cases h
   let⟨ns,e1,e2⟩:=zkP e;exact⟨i::ns,by rw[e1];rfl,by rw[e2];rfl⟩
  .cases h
 |.non::r,m,h=>by cases h
 |.int _::r,m,h=>by cases h
 |.str _::r,m,h=>by cases h
 |.tp _ _::r,m,h=>by cases h
 |.lst _::r,m,h=>by cases h
 |.loc _::r,m,h=>by cases h
 |.fnc _::r,m,h=>by cases h
 |.exn _::r,m,h=>by cases h
 |.scr _::r,m,h=>by cases h
def zoR:bootBuiltins "any"=AA (.builtin "any"):=by decide +kernel
def zgf:∀{ns:List Int} {us:List AG},Vals (ns.map V.int) us->us.length=ns.length/\∀(i:Nat) (v:AG),us[i]?=AA v->∃n t,ns[i]?=AA n/\v=.int n t
 |[],_,.nil=>⟨rfl,λi v h=>by simp at h⟩
 |n::ns,_,.cons r q=>by
  let⟨h1,h2⟩:=zgf q;let⟨t,rfl⟩:=r;refine⟨by simp[h1],λi v h=>?_⟩
  cases i with
  |zero=>simp at h;exact⟨n,t,rfl,h.symm⟩
  |succ i=>simp at h;simpa using h2 i v h
def zej:∀ns:List Int,((C0 ns.length).any λi=>((ns[i]?).getD 1) != 0)=ns.any (· != 0)
 |[]=>rfl
 |b::bs=>by
  rw[A1,FN,Ax,IF,Ax,<-zej bs];rfl
def zhx(hc:X.calm=AC):yQ X (.builtin "any") (λxs H Q=>∃(l:AJ) (ns:List Int),xs=[.ref l]/\SqT X.K H l (ns.map V.int)/\Q (.bl (ns.any (· != 0))) H):=by
 intro π s σ H xs us Q I r h;let⟨l,ns,rfl,hq,q⟩:=h;let⟨u,rfl,ru⟩:=Vals.one r
 cases (show u=A7 l from ru)
 let⟨its,rv,p,hz⟩:=I.tuple hq;let⟨hn,hb⟩:=zgf rv;have hl:s.heap.IsTuple l its.toArray:=p;have hlt:l<s.heap.objs.size:=by
  let⟨_,e,_⟩:=hl;exact AZ e
 refine call_any_walk (Bc hl ?_);refine⟨s.heap.objs.size,[s.heap.objs.size,l],[s.heap.objs.size],its.toArray.size,_,_,λi=>((ns[i]?).getD 1) != 0,rfl,Walks.tuple (A:=X.A.in1) (I.ok.hd hc) _ l (Ah hlt) its.toArray,⟨⟨_,A3 _ rfl,rfl,rfl⟩,hl.push _⟩,λi v s' Q' E' hP hQ=>?_,λh' tk hk=>?_⟩
 .let⟨b,t,e,rfl⟩:=hb i v (by simpa using hP);erw[e,BL]at hQ;exact truthy_int hQ
 .have e:((C0 its.toArray.size).any λi=>((ns[i]?).getD 1) != 0)=ns.any (· != 0):=by
   rw[AS,hn];exact zej ns
  rw[e];exact⟨.bl _,H,I.kept (t':=tk) (Fz hk),rfl,q⟩
def zii:∀{vs:List PV} {m:Bool},IC.anyI vs=AA m->∃ns:List Int,vs=ns.map .int/\m=ns.any (· != 0)
 |[],m,h=>by cases h;exact⟨[],rfl,rfl⟩
 |.int i::r,m,h=>by
  erw[IC.anyI]at h;split at h
  .rename_i c e
   cases h
   let⟨ns,e1,e2⟩:=zii e;exact⟨i::ns,by rw[e1];rfl,by rw[e2];rfl⟩
  .cases h
 |.non::r,m,h=>by cases h
 |.bl _::r,m,h=>by cases h
 |.str _::r,m,h=>by cases h
 |.tp _ _::r,m,h=>by cases h
 |.lst _::r,m,h=>by cases h
 |.loc _::r,m,h=>by cases h
 |.fnc _::r,m,h=>by cases h
 |.exn _::r,m,h=>by cases h
 |.scr _::r,m,h=>by cases h
def zmk(st:SO)(v:PV):(∃k xs,v=.tp k xs) \/ yam .any st [v]=(yJ st v).bind λxs=>(anyB xs).map .bl:=by
 cases v<;>first|exact .inl ⟨_,_,rfl⟩|exact .inr rfl
def zn6(hc:X.calm=AC):yQ X (.builtin "any") (rB S X .any):=by
 rintro π s σ H xs us Q I r ⟨B,φ,st,vs,z,rs,l,e,q⟩
 let⟨v,rfl⟩:=zbX e λ_ _=>rfl;let⟨x,rfl,rv⟩:=l.one;rcases zmk st v with⟨k,ws,rfl⟩|ev
 .have e:(IC.anyI ws).map PV.bl=AA z:=e
  cases e2:IC.anyI ws with
  |none=>rw[e2]at e;cases e
  |some m=>
   rw[e2]at e
   cases e
   let⟨ns,rfl,rfl⟩:=zii e2;erw[yd]at rv;let⟨a,ys,rfl,h,l⟩:=rv;have h:=h.sq;rw[l.ints]at h;exact zhx hc π s σ H _ us Q I r ⟨a,ns,rfl,h,q _ H φ .rfl rs (by erw[yd])⟩
 .rw[ev]at e
  cases e1:yJ st v with
  |none=>rw[e1]at e;cases e
  |some ws=>
   rw[e1]at e;erw[BB]at e
   cases e2:IC.anyB ws with
   |none=>rw[e2]at e;cases e
   |some m=>
    rw[e2]at e
    cases e
    let⟨ns,rfl,rfl⟩:=zkP e2;let⟨a,ys,rfl,h,l⟩:=zbv rs rv e1;rw[l.bls]at h;exact zkA hc π s σ H _ us Q I r ⟨a,ns,rfl,h,q _ H φ .rfl rs (by erw[yd])⟩
end
end L2
namespace WE
open PySem PySem.Spec PyProof.Rows
section
variable {pg:A4}{wd:Af}{A:Ag}{Er:AG->AK->Prop}{s:AK}
theorem tit_keep{h h':Aq}{i t:AJ}{j:Nat}(u:h.IsTupleIter i t j)(k:∀o,h.get? i=AA o->h'.get? i=AA o):h'.IsTupleIter i t j:=let ⟨o,g,r⟩:=u;⟨o,k o g,r⟩
def zcY{h h':Aq}{t:AJ}{xs:Array AG}(u:h.IsTuple t xs)(k:∀o,h.get? t=AA o->h'.get? t=AA o):h'.IsTuple t xs:=let ⟨o,g,r⟩:=u;⟨o,k o g,r⟩
def Kz(z TO i1 i2:AJ)(h h':Aq):Prop:=∀c o,c≠z->c≠TO->c≠i1->c≠i2->h.get? c=AA o->h'.get? c=AA o
def zid{z TI TO i1 i2 l1 l2:AJ}{j:Nat}{xs ys:Array AG}{x y a b:AG}{Q:AG->AK->Prop}(D:Gb z TI TO i1 i2 l1 l2)
  (gz:Eb s.heap z TI TO .none) (gI:CQ s.heap TI (.ref i1) (.ref i2)) (gO:CQ s.heap TO a b) (u1:s.heap.IsTupleIter i1 l1 j) (u2:s.heap.IsTupleIter i2 l2 j) (t1:s.heap.IsTuple l1 xs) (t2:s.heap.IsTuple l2 ys) (ex:xs[j]?=AA x) (ey:ys[j]?=AA y)
  (k:∀h',Eb h' z TI TO (rawInt s.heap.objs.size)->CQ h' TO x y->h'.IsTupleIter i1 l1 (j+1)->h'.IsTupleIter i2 l2 (j+1)->CQ h' s.heap.objs.size x y->h'.objs.size=s.heap.objs.size+1->Kz z TO i1 i2 s.heap h'->Q (.ref s.heap.objs.size) {s with heap:=h'}):
  A2 (model pg wd) A (Dv.«zip.__next__» ⟨[.ref z],[]⟩) (λf s'=>∃v,f=.done (.ret v)/\Q v s') Er s:=by
 show A2 _ _ (field (.ref z) 2 >>= _) _ _ _;refine AI (BM gz rfl (x:=.bool AB) rfl ?_);show A2 _ _ (field (.ref z) 3 >>= _) _ _ _;refine AI (BM gz rfl (x:=.ref TI) rfl ?_);refine AI (CV gI rfl ?_);show A2 _ _ (BX (.ref z) >>= _) _ _ _;refine AI ?_;unfold BX;refine AI (BM gz rfl (x:=.none) rfl (AV ?_));erw[if_true];refine AI (FG ?_);refine AI (BM gz rfl (x:=.ref TO) rfl ?_);refine AI (C6 gz (by simp) λha za sa=>?_)
 replace za:Eb ha z TI TO .ellipsis:=za
 refine AI ?_;erw[Gw,HK,FQ,Hb];refine AI (AI (Ei ?_));show A2 _ _ (BF (.ref i1) >>= _) _ _ _;refine AI (zcC (tit_keep u1 λo e=>sa.extBut _ _ D.i1z e) (zcY t1 λo e=>sa.extBut _ _ D.l1z e) ex λhb ub sb=>AV ?_);have ob:CQ hb TO a b:=sb.extBut _ _ D.TOi1 (sa.extBut _ _ D.TOz gO);refine AI (CV ob rfl ?_);refine AI (F7 ob λhc oc sc=>?_)
 replace oc:CQ hc TO x b:=oc
 refine AI (wpAny_letGo (AV ?_));refine AI (AI (Ei ?_));show A2 _ _ (BF (.ref i2) >>= _) _ _ _;refine AI (zcC (tit_keep u2 λo e=>sc.extBut _ _ D.TOi2.symm (sb.extBut _ _ D.i12.symm (sa.extBut _ _ D.i2z e))) (zcY t2 λo e=>sc.extBut _ _ D.l2TO (sb.extBut _ _ D.l2i1 (sa.extBut _ _ D.l2z e))) ey λhd ud sd=>AV ?_);have od:CQ hd TO x b:=sd.extBut _ _ D.TOi2 oc;refine AI (CV od rfl ?_);refine AI (F7 od λhe oe se=>?_)
 replace oe:CQ he TO x y:=oe
 refine AI (wpAny_letGo (AV (AV ?_)));refine AI (CV oe rfl ?_);refine AI (wpAny_newTuple ?_);have sz:he.objs.size=s.heap.objs.size:=by rw[se.1,sd.1,sc.1,sb.1,sa.1]
 have ze:Eb he z TI TO .ellipsis:=se.extBut _ _ D.TOz.symm (sd.extBut _ _ D.i2z.symm (sc.extBut _ _ D.TOz.symm (sb.extBut _ _ D.i1z.symm za)));have ke:Kz z TO i1 i2 s.heap he:=λc o p1 p2 p3 p4 e=>se.extBut _ _ p2 (sd.extBut _ _ p4 (sc.extBut _ _ p2 (sb.extBut _ _ p3 (sa.extBut _ _ p1 e))));have v1:he.IsTupleIter i1 l1 (j+1):=tit_keep ub λo e=>se.extBut _ _ D.TOi1.symm (sd.extBut _ _ D.i12 (sc.extBut _ _ D.TOi1.symm e));have v2:he.IsTupleIter i2 l2 (j+1):=tit_keep ud λo e=>se.extBut _ _ D.TOi2.symm e;have lz:z<he.objs.size:=AZ ze;show A2 _ _ (Cq (.ref z) (.ref he.objs.size) >>= _) _ _ _;refine AI ?_;unfold Cq;have zf:Eb (he.push {cls:=.type "tuple",data:=.seq #[x,y]}) z TI TO .ellipsis:=AO _ ze;refine AI (C6 zf (by simp) λhg zg sg=>?_)
 replace zg:Eb hg z TI TO (rawInt he.objs.size):=zg
 refine C6 zg (by simp) λhi zi si=>?_
 replace zi:Eb hi z TI TO (rawInt he.objs.size):=zi
 have up:∀c o,c≠z->he.get? c=AA o->hi.get? c=AA o:=λc o p e=>si.extBut _ _ p (sg.extBut _ _ p (AO _ e));have pn:CQ hi he.objs.size x y:=si.extBut _ _ (FH lz) (sg.extBut _ _ (FH lz) (A3 _ rfl));have si8:hi.objs.size=he.objs.size+1:=by rw[si.1,sg.1,Bi]
 rw[sz]at zi pn si8;refine AV ⟨_,rfl,?_⟩;show Q (.ref he.objs.size) _;rw[sz];exact k hi zi (up _ _ D.TOz oe) (tit_keep v1 λo e=>up _ o D.i1z e) (tit_keep v2 λo e=>up _ o D.i2z e) pn si8 λc o p1 p2 p3 p4 e=>up c o p1 (ke c o p1 p2 p3 p4 e)
def zjs{z TI TO i1 i2 l1 l2:AJ}{j:Nat}{xs:Array AG}{a b:AG}{Q:Fin->AK->Prop}(hh:A.handled=AD)(D:Gb z TI TO i1 i2 l1 l2)
  (gz:Eb s.heap z TI TO .none) (gI:CQ s.heap TI (.ref i1) (.ref i2)) (gO:CQ s.heap TO a b) (u1:s.heap.IsTupleIter i1 l1 j) (t1:s.heap.IsTuple l1 xs) (ex:xs[j]?=AD)
  (k:∀h' e,Kz z TO i1 i2 s.heap h'->(∃o,h'.get? e=AA o/\o.cls=.type "StopIteration")->Er (.ref e) {s with heap:=h'}):
  A2 (model pg wd) A (Dv.«zip.__next__» ⟨[.ref z],[]⟩) Q Er s:=by
 show A2 _ _ (field (.ref z) 2 >>= _) _ _ _;refine AI (BM gz rfl (x:=.bool AB) rfl ?_);show A2 _ _ (field (.ref z) 3 >>= _) _ _ _;refine AI (BM gz rfl (x:=.ref TI) rfl ?_);refine AI (CV gI rfl ?_);show A2 _ _ (BX (.ref z) >>= _) _ _ _;refine AI ?_;unfold BX;refine AI (BM gz rfl (x:=.none) rfl (AV ?_));erw[if_true];refine AI (FG ?_);refine AI (BM gz rfl (x:=.ref TO) rfl ?_);refine AI (C6 gz (by simp) λha za sa=>?_)
 replace za:Eb ha z TI TO .ellipsis:=za
 refine AI ?_;erw[Gw,HK,FQ,Hb];refine AI (AI (Ei ?_));show A2 _ _ (BF (.ref i1) >>= _) _ _ _;refine AI (zfx hh (tit_keep u1 λo e=>sa.extBut _ _ D.i1z e) (zcY t1 λo e=>sa.extBut _ _ D.l1z e) ex λhb e sb he=>?_);let⟨oe,ge,ce⟩:=he;have zb:Eb hb z TI TO .ellipsis:=sb _ _ D.i1z.symm za;have ne:e≠z:=λq=>by subst q;rw[zb]at ge;cases ge;simp at ce
 exact C6 zb (by simp) λhc _ sc=>k hc e (λc o p1 _ p3 _ q=>sc.extBut _ _ p1 (sb _ _ p3 (sa.extBut _ _ p1 q))) ⟨oe,sc.extBut _ _ ne ge,ce⟩
theorem pyNext_zipT{z TI TO i1 i2 l1 l2:AJ}{j:Nat}{xs ys:Array AG}{x y a b:AG}{Q:Option AG->AK->Prop}(D:Gb z TI TO i1 i2 l1 l2)
  (gz:Eb s.heap z TI TO .none) (gI:CQ s.heap TI (.ref i1) (.ref i2)) (gO:CQ s.heap TO a b) (u1:s.heap.IsTupleIter i1 l1 j) (u2:s.heap.IsTupleIter i2 l2 j) (t1:s.heap.IsTuple l1 xs) (t2:s.heap.IsTuple l2 ys) (ex:xs[j]?=AA x) (ey:ys[j]?=AA y)
  (k:∀h',Eb h' z TI TO (rawInt s.heap.objs.size)->CQ h' TO x y->h'.IsTupleIter i1 l1 (j+1)->h'.IsTupleIter i2 l2 (j+1)->CQ h' s.heap.objs.size x y->h'.objs.size=s.heap.objs.size+1->Kz z TO i1 i2 s.heap h'->Q (AA (.ref s.heap.objs.size)) {s with heap:=h'}):
  A2 (model pg wd) A (pyNext (.ref z)) Q Er s:=by
 have ty:s.TypeIs (.ref z) "zip":=⟨_,gz,rfl⟩;unfold pyNext;exact AI (wpAny_attempt (B1 (name:=AE "__next__") ty Dr (CU Dr ty Gx (zid D gz gI gO u1 u2 t1 t2 ex ey λh' a1 a2 a3 a4 a5 a6 a7=>AV (k h' a1 a2 a3 a4 a5 a6 a7)) (Gc _))))
theorem pyNext_zipE{z TI TO i1 i2 l1 l2:AJ}{j:Nat}{xs:Array AG}{a b:AG}{Q:Option AG->AK->Prop}(hh:A.handled=AD)(D:Gb z TI TO i1 i2 l1 l2)
  (gz:Eb s.heap z TI TO .none) (gI:CQ s.heap TI (.ref i1) (.ref i2)) (gO:CQ s.heap TO a b) (u1:s.heap.IsTupleIter i1 l1 j) (t1:s.heap.IsTuple l1 xs) (ex:xs[j]?=AD)
  (k:∀h',Kz z TO i1 i2 s.heap h'->Q AD {s with heap:=h'}):A2 (model pg wd) A (pyNext (.ref z)) Q Er s:=by
 have ty:s.TypeIs (.ref z) "zip":=⟨_,gz,rfl⟩;unfold pyNext;refine AI (wpAny_attempt (B1 (name:=AE "__next__") ty Dr (CU Dr ty Gx (zjs hh D gz gI gO u1 t1 ex λh' e kk he=>?_) (Gc _))));let⟨o,ho,hc⟩:=he;exact AI (wpAny_isInstance (T:="StopIteration") (b:=AC) ⟨o,ho,hc⟩ isSubtype_stop (AV (k _ kk)))
end
abbrev ti(l:AJ):Obj:={cls:=.type "tuple_iterator",data:=.fields #[.ref l,.int 0 0]}
abbrev yhR(h:Aq)(l1:AJ):Heap:=h.push (ti l1)
abbrev yhS(h:Aq)(l1 l2:AJ):Heap:=(yhR h l1).push (ti l2)
abbrev yhT(h:Aq)(l1 l2:AJ):Heap:=(yhS h l1 l2).push {cls:=.type "tuple",data:=.seq #[.ref h.objs.size,.ref (yhR h l1).objs.size]}
abbrev yhU(h:Aq)(l1 l2:AJ):Heap:=(yhT h l1 l2).push {cls:=.type "tuple",data:=.seq #[.none,.none]}
abbrev ygN(h:Aq)(l1 l2:AJ):Heap:=(yhU h l1 l2).push {cls:=.type "zip",data:=.fields #[.none,.bool AB,.bool AB,.ref (yhS h l1 l2).objs.size,.ref (yhT h l1 l2).objs.size]}
def zg0(l1 l2:AJ)(xs ys:Array AG):
  Meets (Dv.«zip.__new__» ⟨[.type "zip",.ref l1,.ref l2],[]⟩) (λ_ R s=>s.heap.IsTuple l1 xs/\s.heap.IsTuple l2 ys/\R (.ok (.ret (.ref (yhU s.heap l1 l2).objs.size))) {s with heap:=ygN s.heap l1 l2}):=
 .of_wp λprog w A R s h=>by
  let⟨hp,g,d,tk,os⟩:=s;let⟨q1,q2,h⟩:=h;have hsub:=sub_zip;have T1:G6 (HF ⟨hp,g,d,tk,os⟩) l1 xs:=q1;have T2:G6 (HF ⟨hp.push (ti l1),g,d,tk,os⟩) l2 ys:=zcY q2 λo e=>AO _ e
  wp_walk using Bc T1,Bc T2
  exact⟨_,rfl,h⟩
theorem call_zipT{pg:A4}{wd:Af}{A:Ag}{Er:AG->AK->Prop}{s:AK}{l1 l2:AJ}{xs ys:Array AG}{Q:AG->AK->Prop}(t1:s.heap.IsTuple l1 xs)(t2:s.heap.IsTuple l2 ys)
  (k:∀h',Eb h' (s.heap.objs.size+4) (s.heap.objs.size+2) (s.heap.objs.size+3) .none->CQ h' (s.heap.objs.size+2) (.ref s.heap.objs.size) (.ref (s.heap.objs.size+1))->CQ h' (s.heap.objs.size+3) .none .none->h'.IsTupleIter s.heap.objs.size l1 0->h'.IsTupleIter (s.heap.objs.size+1) l2 0 ->
   (∀b o,s.heap.get? b=AA o->h'.get? b=AA o)->Q (.ref (s.heap.objs.size+4)) {s with heap:=h'}):A2 (model pg wd) A (call (.type "zip") [.ref l1,.ref l2]) Q Er s:=by
 refine callType_new F.called_zip ⋯ (F.typeCall_zip_2 _ _) (F.newCall_zip_2 _ _) (λobj=>F.args_object_init_3 obj _ _) F.entry_zip_new (zg0 l1 l2 xs ys) ⟨t1,t2,?_⟩;have n1:(yhR s.heap l1).objs.size=s.heap.objs.size+1:=Bi ..;have n2:(yhS s.heap l1 l2).objs.size=s.heap.objs.size+2:=by rw[Bi,n1]
 have n3:(yhT s.heap l1 l2).objs.size=s.heap.objs.size+3:=by rw[Bi,n2]
 have n4:(yhU s.heap l1 l2).objs.size=s.heap.objs.size+4:=by rw[Bi,n3]
 have kp:∀{h:Aq} {o:B7} {b:AJ} {u:B7},h.get? b=AA u->(h.push o).get? b=AA u:=λe=>AO _ e;have m5:(ygN s.heap l1 l2).get? (yhU s.heap l1 l2).objs.size=AA _:=A3 _ rfl;have m4:(ygN s.heap l1 l2).get? (yhT s.heap l1 l2).objs.size=AA _:=kp (A3 _ rfl);have m3:(ygN s.heap l1 l2).get? (yhS s.heap l1 l2).objs.size=AA _:=kp (kp (A3 _ rfl));have m2:(ygN s.heap l1 l2).get? (yhR s.heap l1).objs.size=AA _:=kp (kp (kp (A3 _ rfl)));have m1:(ygN s.heap l1 l2).get? s.heap.objs.size=AA _:=kp (kp (kp (kp (A3 _ rfl))));rw[n2,n3,n4]at m5;rw[n1,n2]at m3;rw[n3]at m4;rw[n1]at m2;show _/\_;rw[n4];exact⟨⟨_,m5,rfl⟩,k _ m5 m3 m4 ⟨_,m1,rfl,rfl⟩ ⟨_,m2,rfl,rfl⟩ λb o e=>kp (kp (kp (kp (kp e))))⟩
end WE
namespace L2
open PySem PySem.Spec PyProof.Rows
def Itz(K:AF)(a b:AJ):It:=
 ⟨λi H=>∃xs ys x y,SqT K H a xs/\SqT K H b ys/\xs[i]?=AA x/\ys[i]?=AA y,λi H v H'=>∃T,H T=AD/\v=.ref T/\∀xs ys x y,SqT K H a xs->SqT K H b ys->xs[i]?=AA x->ys[i]?=AA y->H'=upd H T (.tup [x,y]),λi H=>∃xs,SqT K H a xs/\xs.length=i⟩
def zhB{P:A4}{w:Af}{K:AF}{es:List AT}{kk:Nat}{pos:CB}(z TI TO i1 i2 a b:AJ)(D:Gb z TI TO i1 i2 a b):
  Turn P w K (.Tuple es kk pos) (Itz K a b) [z,TI,TO,i1,i2] z (λi h=>Eb h z TI TO .none/\CQ h TI (.ref i1) (.ref i2)/\(∃p q,CQ h TO p q)/\h.IsTupleIter i1 a i/\h.IsTupleIter i2 b i) where
 mem:=by simp
 obj:=λi h st c hc=>by
  let⟨g0,g1,⟨p,q,g2⟩,⟨o3,g3,_,d3⟩,⟨o4,g4,_,d4⟩⟩:=st;erw[AX,Aj,or_false]at hc;rcases hc with rfl|rfl|rfl|rfl|rfl
  .exact⟨_,g0,λv y=>nomatch y⟩
  .exact⟨_,g1,λv y=>nomatch y⟩
  .exact⟨_,g2,λv y=>nomatch y⟩
  .exact⟨o3,g3,λv y=>by rw[d3]at y;cases y⟩
  .exact⟨o4,g4,λv y=>by rw[d4]at y;cases y⟩
 keep:=λi h h' st k=>by
  let⟨g0,g1,⟨p,q,g2⟩,g3,g4⟩:=st;exact⟨k z (by simp) _ g0,k TI (by simp) _ g1,⟨p,q,k TO (by simp) _ g2⟩,WE.tit_keep g3 λo e=>k i1 (by simp) o e,WE.tit_keep g4 λo e=>k i2 (by simp) o e⟩
 item:=by
  intro X hP hw hK hc i π s σ H E I hf st hg;subst hP hw hK;let⟨xs,ys,x,y,hq1,hq2,hx,hy⟩:=hg;let⟨its,rv,p1,_⟩:=I.tuple hq1;let⟨jts,rw',p2,_⟩:=I.tuple hq2;let⟨g0,g1,⟨p,q,g2⟩,g3,g4⟩:=st;let⟨u,hu,ru⟩:=rv.get hx;let⟨v,hv,rv2⟩:=rw'.get hy;refine WE.pyNext_zipT D g0 g1 g2 g3 g4 p1 p2 (by simpa using hu) (by simpa using hv) λh1 a1 a2 a3 a4 a5 a6 a7=>⟨_,rfl,?_⟩;refine wpAny_letOwnedTupleGo_zip a1 λh2 b1 b2=>?_;have lt:∀{c o},s.heap.get? c=AA o->s.heap.objs.size≠c:=λe=>FH (AZ e);have hTz:s.heap.objs.size≠z:=lt g0;have hch:∀c o,c∉[z,TI,TO,i1,i2]->s.heap.get? c=AA o->h2.get? c=AA o:=λc o hn e=>b2.extBut _ _ (λz'=>hn (by simp[z'])) (a7 c o (λz'=>hn (by simp[z'])) (λz'=>hn (by simp[z'])) (λz'=>hn (by simp[z'])) (λz'=>hn (by simp[z'])) e);have new:yM X.prog X.w (upd H s.heap.objs.size (.tup [x,y])) h2 s.heap.objs.size (.tup [x,y]):=⟨by show 2<=sizeLine;decide,[u,v],.cons ru (.cons rv2 .nil),_,b2.extBut _ _ hTz a5,rfl,_,rfl⟩;have I2:=I.turnLaid (t':=s.toks) hf hch (AR _) new;have gI:CQ h1 TI (.ref i1) (.ref i2):=a7 _ _ D.TIz D.TITO D.TIi1 D.TIi2 g1;refine⟨.ref s.heap.objs.size,_,I2,rfl,⟨s.heap.objs.size,I.hok.fresh (AR _),rfl,λxs' ys' x' y' hx1 hy1 hx2 hy2=>?_⟩,⟨b1,b2.extBut _ _ D.TIz gI,⟨_,_,b2.extBut _ _ D.TOz a2⟩,WE.tit_keep a3 λo e=>b2.extBut _ _ D.i1z e,WE.tit_keep a4 λo e=>b2.extBut _ _ D.i2z e⟩,λc hc=>?_⟩
  .rw[I.tuple_inj hx1 hq1,hx]at hx2;rw[I.tuple_inj hy1 hq2,hy]at hy2
   cases hx2
   cases hy2
   rfl
  .have hne:c≠s.heap.objs.size:=λz'=>by
    subst z';let⟨o3,e3,_⟩:=g3;let⟨o4,e4,_⟩:=g4;erw[AX,Aj,or_false]at hc;rcases hc with z' | z' | z' | z' | z'
    .exact lt g0 z'
    .exact lt g1 z'
    .exact lt g2 z'
    .exact lt e3 z'
    .exact lt e4 z'
   rw[zd hne];exact(hf c hc).1
 done:=by
  intro X hP hw hK hc i π s σ H E I hf st hg;subst hP hw hK;let⟨xs,hq1,hx⟩:=hg;let⟨its,rv,p1,_⟩:=I.tuple hq1;let⟨g0,g1,⟨p,q,g2⟩,g3,g4⟩:=st;have hl:=rv.length;refine WE.pyNext_zipE (I.ok.hd hc) D g0 g1 g2 g3 p1 (by simp;lia) λh' kz=>⟨rfl,I.turnedL (t':=s.toks) hf λc o hn e=>kz c o (λz'=>hn (by simp[z'])) (λz'=>hn (by simp[z'])) (λz'=>hn (by simp[z'])) (λz'=>hn (by simp[z'])) e⟩
 self:=λ_ _ _ _ _ st q=>Gy st.1 q
def yfC(K:AF)(ta:TA):TI:=λσ H R=>ta σ H λvs H1=>∃a b,vs=[.ref a,.ref b]/\(∃xs,SqT K H1 a xs)/\(∃ys,SqT K H1 b ys)/\R (Itz K a b) H1
def zm7{X:Cx}{a b:AT}{es:List AT}{kk:Nat}{tp:CB}{ta:TA}{p pos:CB}(hg:Gl X "zip")(hm:X.mg "zip"=AD)(ha:PA X [a,b] ta)(hs:starEach [a,b] X.env=[(AB,eval a X.env),(AB,eval b X.env)]:=by rfl)(hs2:starEach [b] X.env=[(AB,eval b X.env)]:=by rfl):
  PI X (.Tuple es kk tp) (.Call (.Name "zip" p) [a,b] [] pos) (yfC X.K ta):=by
 intro π s σ H R I h;refine BI (zdW I hg hm boot_zip ?_);refine Bw (thn (ha pos π s σ H _ I h) λus s1 kq=>?_) (by rw[hs,hs2]) (by rw[hs2];rfl);let⟨vs,H1,I1,r1,q1⟩:=kq;let⟨l1,l2,rfl,⟨xs,hq1⟩,⟨ys,hq2⟩,q⟩:=q1
 cases r1 with
 |cons r rr=>
  cases rr with
  |cons r2 r3=>
   cases r3
   cases (show _=A7 l1 from r)
   cases (show _=A7 l2 from r2)
   let⟨its,rv,pt1,_⟩:=I1.tuple hq1;let⟨jts,rv2,pt2,_⟩:=I1.tuple hq2;have b1:l1<s1.heap.objs.size:=by let⟨_,e,_⟩:=pt1;exact AZ e
   have b2:l2<s1.heap.objs.size:=by let⟨_,e,_⟩:=pt2;exact AZ e
   refine WE.call_zipT pt1 pt2 λh1 g0 g1 g2 g3 g4 kp=>?_;refine Gy g0 ?_;refine⟨_,[s1.heap.objs.size+4,s1.heap.objs.size+2,s1.heap.objs.size+3,s1.heap.objs.size,s1.heap.objs.size+1],_,_,H1,rfl,I1.kept (t':=s1.toks) kp,zhB _ _ _ _ _ l1 l2 (zipApart_new b1 b2),⟨g0,g1,⟨_,_,g2⟩,g3,g4⟩,λc hc=>?_,q⟩;have hb2:s1.heap.objs.size<=c:=by
    erw[AX,Aj,or_false]at hc;rcases hc with z' | z' | z' | z' | z'<;>subst z'
    .exact D2 _ 4
    .exact D2 _ 2
    .exact D2 _ 3
    .exact AR _
    .exact D2 _ 1
   exact I1.fpOk hb2 (I1.hok.fresh hb2)
end L2
namespace L2
open PySem PySem.Spec PyProof.Rows IC
inductive yca(K:AF)(cl:Nat->AJ)(w:Af):List (AL×PV)->List By->Prop
 |nil:yca K cl w [] []
 |cons {k:AL} {v:PV} {t:Hq} {u:AG} {x:V} {D:List (AL×PV)} {es:List By} (hr:RelV x u) (hv:∀B φ H,yd K cl B φ H v x) (h:yca K cl w D es):yca K cl w ((k,v)::D) (⟨EQ w.params k,.str k t,u⟩ :: es)
def GD(K:AF)(w:Af)(mg:AL->Option AG)(cl:Nat->AJ)(x:AL)(D:List (AL×PV)):Prop:=
 ∃(y:AJ) (es:Array By) (ep:Nat),mg x=AA (.ref y)/\K.lookup y=AA ⟨.type "dict",AD,.dict es ep,#[]⟩/\(y==sysModules)=AB/\yca K cl w D es.toList/\(D.map (·.1)).Nodup
theorem yca.pairs{K:AF}{cl:Nat->AJ}{P:A4}{w:Af}{D:List (AL×PV)}{es:List By}(h:yca K cl w D es):
  ∃vs:List (AL×AG),Pairs (strKind P w) es vs/\(∀e∈es,∃k,(strKind P w).is k e.key=AC/\e.hash=(strKind P w).hash k)/\vs.map (·.1)=D.map (·.1) /\
   (∀s,(valueAt vs s).isSome=(yaH s D).isSome)/\∀s v,yaH s D=AA v->∃u x,valueAt vs s=AA u/\RelV x u/\∀B φ H,yd K cl B φ H v x:=by
 induction h with
 |nil=>exact⟨[],.nil,λe he=>(by cases he),rfl,λs=>rfl,λs v e=>by cases e⟩
 |@cons k v t u x D es hr hv h ih=>
  let⟨vs,h1,h2,h3,h4,h5⟩:=ih;have hat:∀s,valueAt ((k,u)::vs) s=if k=s then AA u else valueAt vs s:=λs=>by
   unfold valueAt;rw[Bs]
   by_cases e:k=s
   .simp[e]
   .simp[e]
  refine⟨(k,u)::vs,.cons (D3 P w k t) rfl h1,λe he=>?_,by rw[AU,AU,h3],λs=>?_,λs v' e=>?_⟩
  .rcases AX.1 he with rfl|he
   .exact⟨k,D3 P w k t,rfl⟩
   .exact h2 e he
  .rw[hat,yaH]
   by_cases e:k=s
   .rw[if_pos e,if_pos (by simpa using e)];rfl
   .rw[if_neg e,if_neg (by simpa using e),h4]
  .rw[yaH]at e;rw[hat]
   by_cases q:k=s
   .rw[if_pos (by simpa using q)]at e
    cases e
    exact⟨u,x,by rw[if_pos q],hr,hv⟩
   .rw[if_neg (by simpa using q)]at e;let⟨u',x',e1,e2,e3⟩:=h5 s v' e;exact⟨u',x',by rw[if_neg q];exact e1,e2,e3⟩
section
variable {S:Se}{X:Cx}{σ:St}{B:AJ->Prop}{φ:Ph}{H:Hp}{st:SO}{pos p:CB}{a b i:AT}{ca cb:Ce}{x:AL}{D:List (AL×PV)}{ty:TE}
def ziW{y:AJ}{es:Array By}{ep:Nat}{π:List (AJ×B7)}{s:AK}(I:Inv X π σ H s)(hk:X.K.lookup y=AA ⟨.type "dict",AD,.dict es ep,#[]⟩)(hn:(D.map (·.1)).Nodup){vs:List (AL×AG)}(h1:Pairs (strKind X.prog X.w) es.toList vs)
  (h2:∀e∈es.toList,∃k,(strKind X.prog X.w).is k e.key=AC/\e.hash=(strKind X.prog X.w).hash k) (h3:vs.map (·.1)=D.map (·.1)):s.heap.DictOf (strKind X.prog X.w) y vs:=
 ⟨_,es,ep,I.kIn y _ hk,⟨rfl,rfl,rfl⟩,rfl,λe he=>h2 e (by simpa using he),h1,by rw[h3];exact hn⟩
def yeQ(S:Se)(X:Cx)(D:List (AL×PV))(ty:TE):TE:=λσ H Q=>ty σ H λz H2=>∃s v,z=.str s/\yaH s D=AA v/\∀x',(∀B φ H,yd X.K S.cl B φ H v x')->Q x' H2
def zmz(hg:Gl X x)(h:GD X.K X.w X.mg S.cl x D)(hi:PE X i ty)(hs:ycS i)(hd:(x==("__debug__":AL))=false:=by decide):PE X (.Subscript (.Name x p) i pos) (yeQ S X D ty):=by
 let⟨y,es,ep,hm,hk,hsy,hr,hn⟩:=h;let⟨vs,h1,h2,h3,h4,h5⟩:=hr.pairs (P:=X.prog);intro π s σ H Q I q0;refine ziU EV.lookup hs (thn (zcJ (v:=.ref y) hg hm rfl hd π s σ H (λz H1=>z=.ref y/\ty σ H1 λz H2=>∃s v,z=.str s/\yaH s D=AA v/\∀x',(∀B φ H,yd X.K S.cl B φ H v x')->Q x' H2) I ⟨rfl,q0⟩) λu s1 kq=>?_);let⟨z,H1,I1,rz,ez,q1⟩:=kq;refine thn (hi π s1 σ H1 _ I1 q1) λiv s2 kq=>?_;let⟨z2,H2,I2,rz2,sx,v,ez2,e,q2⟩:=kq;subst ez;subst ez2;obtain rfl:u=A7 y:=rz;let⟨t,rfl⟩:=rz2;have dd:=ziW I2 hk hn h1 h2 h3;let⟨u',x',e1,e2,e3⟩:=h5 sx v e;exact⟨dd.typeIs,Gz (D3 X.prog X.w sx t) dd.mapOf e1 ⟨x',H2,I2.tok _,e2,q2 x' e3⟩⟩
def zpl(hg:Gl X x)(h:GD X.K X.w X.mg S.cl x D)(hb:PE X b (tE S X cb))(hs:ycS b:=by exact λ_ _=>rfl)(hd:(x==("__debug__":AL))=false:=by decide):PE X (.Subscript (.Name x p) b pos) (tE S X (.dix D cb)):=
 (zmz hg h hb hs hd).imp λσ H Q ⟨B,φ,st,ρ,rs,re,h⟩=>by
  erw[ev]at h;refine tE.bind rs re h λz H1 v st1 φ1 s1 rs1 re1 rv h1=>?_;let⟨w,e,q⟩:=zU h1 rs1
  cases v with
  |str sx=>
   erw[yd]at rv;exact⟨sx,w,rv,e,λx' hx=>q x' H1 φ1 .rfl rs1 (hx _ _ _)⟩
  |_=>cases e
def yfQ(y:AJ)(D:List (AL×PV)):R2:=λx z H Q=>z=.ref y/\∃s,x=.str s/\Q (.bl (yaH s D).isSome) H
def zo0(hg:Gl X x)(h:GD X.K X.w X.mg S.cl x D)(ha:PE X a (tE S X ca))(hm:behindInMarks .In (.Name x p)=false:=by ac_rfl)(hd:(x==("__debug__":AL))=false:=by decide):PE X (.Compare a [.In] [.Name x p] pos) (tE S X (.din ca D)):=by
 let⟨y,es,ep,hmg,hk,hsy,hr,hn⟩:=h;let⟨vs,h1,h2,h3,h4,h5⟩:=hr.pairs (P:=X.prog);have op:OpR X (compareOp .In) (yfQ y D):=by
  intro π s σ H z1 z2 v u Q I r1 r2 ⟨ez,sx,ex,q⟩;subst ez;subst ex;obtain rfl:u=A7 y:=r2;let⟨t,rfl⟩:=r1;have dd:=ziW I hk hn h1 h2 h3;refine wpAny_in_of (D3 X.prog X.w sx t) hsy dd.mapOf ⟨.bl (yaH sx D).isSome,H,I.tok _,?_,q⟩;rw[h4];rfl
 refine(zeB op ha (zcJ (v:=.ref y) hg hmg rfl hd) hm).imp λσ H Q kq=>?_;let⟨B,φ,st,ρ,rs,re,h⟩:=kq;erw[ev]at h;refine tE.bind rs re h λz H1 v st1 φ1 s1 rs1 re1 rv h1=>?_;let⟨w,e,q⟩:=zU h1 rs1
 cases v with
 |str sx=>
  erw[yd]at rv
  cases e
  exact⟨rfl,sx,rv,q _ H1 φ1 .rfl rs1 (by erw[yd])⟩
 |_=>cases e
def ze4:∀(xs ys:List PV) (i:Nat) {x y:PV},xs[i]?=AA x->ys[i]?=AA y->(yaM xs ys)[i]?=AA (.tup [x,y])
 |[],_,i,_,_,h,_=>by simp at h
 |_::_,[],i,_,_,_,h=>by simp at h
 |x::xs,y::ys,0,_,_,h1,h2=>by simp at h1 h2;simp[yaM,h1,h2]
 |x::xs,y::ys,i+1,_,_,h1,h2=>by
  erw[Al]at h1 h2;erw[yaM,Al];exact ze4 xs ys i h1 h2
def zfr:∀(xs ys:List PV),xs.length<=ys.length->(yaM xs ys).length=xs.length
 |[],_,_=>by simp[yaM]
 |_::_,[],h=>by simp at h
 |x::xs,y::ys,h=>by erw[yaM,A1,zfr xs ys (by simpa using h)]
def zmp{k j:Bool}{vs ws:List PV}{xs ys:List V}{y z:AJ}(rt:yby X.K B φ H k y xs)(l:ye X.K S.cl B φ H vs xs)(rt2:yby X.K B φ H j z ys)(l2:ye X.K S.cl B φ H ws ys)(hle:vs.length<=ws.length):Drw S X B φ H (yaM vs ws) (Itz X.K y z):=by
 have hl:=l.length;have hl2:=l2.length;have hp:=zfr vs ws hle;refine⟨λφ' H' s=>⟨xs,(rt.step s).sq,by lia⟩,λi φ' H' s hi=>⟨xs,ys,xs[i]'∅,ys[i]'∅,(rt.step s).sq,(rt2.step s).sq,by simp[show i<xs.length by lia],by simp[show i<ys.length by lia]⟩,λi φ' H' st x H2 B' hB s rs hi q=>?_⟩;let⟨T,hT,rfl,q⟩:=q;obtain⟨v,hv⟩:∃v,vs[i]?=AA v:=⟨vs[i]'∅,by simp[show i<vs.length by lia]⟩;obtain⟨w,hw⟩:∃w,ws[i]?=AA w:=⟨ws[i]'∅,by simp[show i<ws.length by lia]⟩;let⟨x',hx',rv⟩:=l.get i hv;let⟨y',hy',rw'⟩:=l2.get i hw;have e:=q xs ys x' y' (rt.step s).sq (rt2.step s).sq hx' hy';subst e;refine⟨.tup [v,w],ze4 vs ws i hv hw,.tup_new hT rs ?_,λb o e=>by rw[zd (zk e hT)];exact e⟩;erw[ye];exact⟨x',[y'],rfl,(rv.moreB hB).step s,y',[],rfl,(rw'.moreB hB).step s,rfl⟩
def zpo{es:List AT}{kk:Nat}{tp:CB}(hg:Gl X "zip")(hm:X.mg "zip"=AD)(ha:PE X a (tE S X ca))(hb:PE X b (tE S X cb))(hs:starEach [a,b] X.env=[(AB,eval a X.env),(AB,eval b X.env)]:=by rfl)(hs2:starEach [b] X.env=[(AB,eval b X.env)]:=by rfl):
  PI X (.Tuple es kk tp) (.Call (.Name "zip" p) [a,b] [] pos) (tI S X (.zip ca cb)):=
 (zm7 hg hm (zaj ha (zaj hb zf2 hs2) (by rw[hs,hs2])) hs hs2).imp λσ H R ⟨B,φ,st,ρ,rs,re,h⟩=>by
  erw[evi]at h;refine tE.bind rs re h λx H1 v st1 φ1 s1 rs1 re1 rv h1=>tE.bind rs1 re1 h1 λy H2 w st2 φ2 s2 rs2 re2 rw h2=>?_;let⟨zs,e,h2⟩:=ziI h2
  cases v with
  |tp k vs=>
   cases w with
   |tp j ws=>
    erw[ydK]at e
    by_cases hle:vs.length<=ws.length
    .rw[if_pos hle]at e
     cases e
     erw[yd]at rv rw;let⟨a1,xs,rfl,rt,l⟩:=rv;let⟨a2,ys,rfl,rt2,l2⟩:=rw;exact⟨a1,a2,rfl,⟨xs,(rt.step s2).sq⟩,⟨ys,rt2.sq⟩,h2.ok rs2 (zmp (rt.step s2) (l.step s2) rt2 l2 hle)⟩
    .rw[if_neg hle]at e
     cases e
   |_=>cases e
  |_=>cases e
end
section
variable {K:AF}{cl:Nat->AJ}{B:AJ->Prop}{φ:Ph}{H:Hp}{st:SO}
end
section
variable {S:Se}{X:Cx}{K:AF}{cl:Nat->AJ}{σ:St}{B:AJ->Prop}{φ φ1:Ph}{H H1:Hp}{st:SO}{ρ:IC.Env}{pos p p2 px:CB}{a b c o tg l elt iter:AT}{ca cb cc ce:Ce}{ci:Cit}{ct:Tg}
end
section
variable {K:AF}{cl:Nat->AJ}{B:AJ->Prop}{φ:Ph}{H:Hp}{st:SO}
theorem FS.lookup{f:AL}:∀{fs:List (AL×PV)} {ks:List (AL×V)},FS K cl B φ H fs ks->(∀v,fs.lookup f=AA v->∃x,ks.lookup f=AA x/\yd K cl B φ H v x)/\(fs.lookup f=AD->ks.lookup f=AD)
 |[],ks,h=>by
  cases (show ks=[]from h)
  exact⟨nofun,λ_=>rfl⟩
 |(k,v)::r,ks,h=>by
  let⟨x,s,rfl,rv,l⟩:=h;let⟨q1,q2⟩:=FS.lookup (f:=f) l;erw[Bg]
  cases e:f==k with
  |true=>exact⟨λw z=>by cases z;exact⟨x,rfl,rv⟩,λz=>by cases z⟩
  |false=>exact⟨q1,q2⟩
theorem FS.put{f:AL}{v:PV}{x:V}(r:yd K cl B φ H v x):∀{fs:List (AL×PV)} {ks:List (AL×V)},FS K cl B φ H fs ks->FS K cl B φ H (ybD f v fs) (yaQ f x ks)
 |[],ks,h=>by
  cases (show ks=[]from h)
  exact⟨x,[],rfl,r,rfl⟩
 |(k,w)::q,ks,h=>by
  let⟨y,s,rfl,ry,l⟩:=h;erw[ybD,yaQ]
  by_cases c:k=f
  .rw[if_pos c,if_pos c];exact⟨x,s,rfl,r,l⟩
  .rw[if_neg c,if_neg c];exact⟨y,_,rfl,ry,FS.put r l⟩
theorem FS.len:∀{fs:List (AL×PV)} {ks:List (AL×V)},FS K cl B φ H fs ks->fs.length=ks.length
 |[],ks,h=>by cases (show ks=[]from h);rfl
 |(k,w)::q,ks,h=>by
  let⟨y,s,rfl,ry,l⟩:=h;simp[FS.len l]
theorem yu.ins{n c:Nat}{fs:List (AL×PV)}{x:V}(rs:yu K cl B φ H st)(r:yd K cl B φ H (.loc n) x)(h:st[n]?=AA (.ins c fs)):∃y ks dx,x=.ref y/\φ[n]?=AA (AA y)/\H y=AA (.ins (cl c) dx ks)/\FS K cl B φ H fs ks:=by
 erw[yd]at r;let⟨hn,y,rfl,hy⟩:=r;let⟨a,ha⟩:=rs.liv n _ h (by intro z;cases z);let⟨o,ho,ro⟩:=rs.obj n a ha;have e:=hy a ha;subst e;rw[h]at ho
 cases ho
 let⟨ks,⟨dx,q⟩,l⟩:=ro;exact⟨a,ks,dx,rfl,ha,q,l⟩
end
section
variable {S:Se}{X:Cx}{σ:St}{B:AJ->Prop}{φ φ1:Ph}{H H1:Hp}{st:SO}{ρ:IC.Env}{p pos pos' p2 apos:CB}{a b d o e:AT}{ca cb cc:Ce}{es:List AT}{ces:Ces}{c i k:Nat}{f m x:AL}{fa:AJ}{fd:Ao}{ps:List AL}
def zgq{st:SO}{x v:PV}(h:yaS c st x f=AA v):∃n fs,x=.loc n/\st[n]?=AA (.ins c fs)/\fs.lookup f=AA v:=by
 cases x with
 |loc n=>
  erw[yaS]at h;split at h
  .rename_i dd fs e;split at h
   .rename_i q;subst q;exact⟨n,fs,rfl,e,h⟩
   .cases h
  .cases h
 |_=>cases h
def zgI{st st4:SO}{x v:PV}(h:yaT c st x f v=AA st4):∃n fs,x=.loc n/\st[n]?=AA (.ins c fs)/\fs.length<1000/\st4=st.set n (.ins c (ybD f v fs)):=by
 cases x with
 |loc n=>
  erw[yaT]at h;split at h
  .rename_i dd fs e;split at h
   .rename_i q;let⟨q,q2⟩:=q;subst q
    cases h
    exact⟨n,fs,rfl,e,q2,rfl⟩
   .cases h
  .cases h
 |_=>cases h
def zkk{st:SO}{x:PV}{t:Bool}(h:ybT c m st x=AA t):∃n fs,x=.loc n/\st[n]?=AA (.ins c fs)/\fs.lookup m=none:=by
 cases x with
 |loc n=>
  erw[ybT]at h;split at h
  .rename_i dd fs e;split at h
   .rename_i q;let⟨q,q2⟩:=q;subst q;exact⟨n,fs,rfl,e,q2⟩
   .cases h
  .cases h
 |_=>cases h
def zoY(hc:Cls X.K (S.cl c))(hn:yac X.K (S.cl c) f)(ha:PE X a (tE S X ca))(hb:attributeBase a f X.env (eval a X.env)=eval a X.env:=by rfl):PE X (.Attribute a f pos) (tE S X (.fld c ca f)):=
 (zoF ha hb).imp λσ H Q ⟨B,φ,st,ρ,rs,re,h⟩=>by
  erw[ev]at h;refine tE.bind rs re h λx H1 v st1 φ1 s1 rs1 re1 rv h1=>?_;let⟨z,e,q⟩:=zU h1 rs1;let⟨n,fs,rfl,hn',l⟩:=zgq e;let⟨y,ks,dx,rfl,_,hy,lr⟩:=rs1.ins rv hn';let⟨x,hx,rx⟩:=lr.lookup.1 z l;exact⟨y,S.cl c,dx,ks,x,rfl,hy,hc,hn,hx,q x H1 φ1 .rfl rs1 rx⟩
def znw(hc:Cls X.K (S.cl c))(hn:yac X.K (S.cl c) f)(ha:PE X a (tE S X ca))(hv:PE X b (tE S X cb))(hs:swapsWith b (AA (.Attribute a f pos')) pos.line X.env=pure false:=by rfl):PS X (.Assign [.Attribute a f pos'] b pos) (tS S X (.sfl c ca f cb)):=
 (zpt ha hv hs).imp λD σ H ⟨B,φ,st,ρ,rs,re,h⟩=>by
  erw[ex]at h;refine tE.fl rs re h λv' H1 v st1 φ1 s1 rs1 re1 rv h1=>tE.fl rs1 re1 h1 λx' H2 x st2 φ2 s2 rs2 re2 rx h2=>?_
  cases e:yaT c st2 x f v with
  |none=>rw[e]at h2;exact h2.elim
  |some st4=>
   rw[e]at h2;let⟨n,fs,rfl,hn',hl,rfl⟩:=zgI e;let⟨y,ks,dx,rfl,hp,hy,lr⟩:=rs2.ins rx hn';refine⟨y,S.cl c,dx,ks,rfl,hy,hc,hn,by rw[<-lr.len];exact hl,?_⟩;have s4:Step φ2 H2 φ2 (L2.upd H2 y (.ins (S.cl c) dx (yaQ f v' ks))):=.put (AW hp);exact h2 σ _ φ2 s4 (rs2.put (o:=.ins c (ybD f v fs)) hp ⟨_,⟨dx,zm⟩,(FS.put (rv.step s2) lr).step s4⟩) (re2.step s4)
theorem noX:ybq (CX1 X.prog X.w) X (λ_ _ _=>False):=λπ σ H s e s' _ z=>by
 let⟨_,_,_,_,_,_,_,_,_,_,_,_,_,_,z⟩:=z;exact z.elim
def zja{vs:List PV}{xs:List V}{Q:VK}{rs:yu X.K S.cl B φ H st}(l:ye X.K S.cl B φ H vs xs)(h:Run S X σ B φ H (RV S X B) ((yaZ (S.call i (.loc st.length::vs) (st++[.ins c []]))).bind λv st2=>newV st.length v st2) Q):
  ∀x dx,H x=AD->H dx=AD->dx≠x->spI X.K S.cl S.call i (.ref x::xs) (L2.upd (L2.upd H dx (.own x)) x (.ins (S.cl c) dx [])) (λv H2=>v=.non/\Q (.ref x) H2) (λ_ _ _=>False):=by
 intro x dx hx hdx ne;have hx':L2.upd H dx (.own x) x=none:=by rw[zd (Au ne)];exact hx
 have t1:Step φ H φ (L2.upd H dx (.own x)):=.upd hdx;have rs1:=rs.upd (o:=.own x) hdx;have t2:Step φ (L2.upd H dx (.own x)) (φ++[AA x]) (L2.upd (L2.upd H dx (.own x)) x (.ins (S.cl c) dx [])):=.push hx';have rs2:=rs1.push hx' (rs1.nB hx') (o:=.ins c []) ⟨[],⟨dx,zm⟩,rfl⟩;have ll:yd X.K S.cl B (φ++[AA x]) (L2.upd (L2.upd H dx (.own x)) x (.ins (S.cl c) dx [])) (.loc st.length) (.ref x):=.loc_new rs1;refine⟨B,φ++[AA x],st++[.ins c []],.loc st.length::vs,rs2,?_,?_⟩
 .simp only[ye];exact⟨.ref x,xs,rfl,ll,(l.step t1).step t2⟩
 .cases e:S.call i (.loc st.length::vs) (st++[.ins c []])with
  |ok v st'=>
   rw[e]at h;erw[yaZ,R.bind]at h
   cases v with
   |non=>
    intro z H' φ' s rs' rz;erw[yd]at rz;exact⟨rz,h (.ref x) H' φ' ((t1.trans t2).trans s) rs' (ll.step s)⟩
   |_=>exact h.elim
  |exc k s=>rw[e]at h;exact h.elim
  |bad=>rw[e]at h;exact h.elim
def zpG(M:Mk X.K (S.cl c) fa)(F:yaA X.prog X.w X.K X.mg X.base (CX1 X.prog X.w) k fa fd ps (spI X.K S.cl S.call i))(hr:yah (k+1) X.A)(hg:Gl X x)(hm:X.mg x=AA (.ref (S.cl c)))(hb:Binds X.K fd ps [])
  (ha:PA X (e::es) (tAs S X ces)) (hdb:(x==("__debug__":AL))=false:=by decide) (he:starEach (e::es) X.env=(AB,eval e X.env)::starEach es X.env:=by rfl) (hpl:(backTo pos (starEach es X.env)).any (·.1)=false:=by rfl):
  PE X (.Call (.Name x p) (e::es) [] pos) (tE S X (.new c i ces)):=
 (zms M F hr hg hm hb .nil noX ha hdb he hpl).imp λσ H Q ⟨B,φ,st,ρ,rs,re,h⟩=>by
  erw[ev]at h;refine tAs.bind rs re h λxs H1 vs st1 φ1 s1 rs1 re1 rv h1=>?_;rw[Br];exact zja (rs:=rs1) rv h1
def ybR(CX:CXT)(X:Cx)(C:AJ)(m:AL)(sp:Sp)(ta:TE)(t:TA):TE:=λσ H Q=>ta σ H λx H1=>∃y dx fs,x=.ref y/\H1 y=AA (.ins C dx fs)/\fs.lookup m=AD/\t σ H1 λvs H2=>∃E:XK,sp (.ref y::vs) H2 Q E/\∀π s e s',Inv X π σ H2 s->CX X.stack H2 s E e s'->X.xe e s'
def zjO{CX:CXT}{sp:Sp}{C:AJ}{ta:TE}{t:TA}{pl:Hh Bool}(he:PE X o ta)(c:Cls X.K C)(hm:Meth X.K C m fa)(F:yaA X.prog X.w X.K X.mg X.base CX k fa fd ps sp)(hr:yah k X.A)(hb:Binds X.K fd ps [])(ha:PA X (e::es) t)
  (hst:starEach (e::es) X.env=(AB,eval e X.env)::starEach es X.env:=by rfl) (hpl:(backTo pos (starEach es X.env)).any (·.1)=false:=by rfl)
  (ht:eval (.Call (.Attribute o m apos) (e::es) [] pos) X.env=(do
   let ov <-eval o X.env
   standAt apos.atName
   let (f,first) <-holding [ov] (getMethod ov m pl)
   callWith pos f first (backTo pos (starEach (e::es) X.env)) (backToKw pos (keywordEach [] X.env))):=by rfl):
  PE X (.Call (.Attribute o m apos) (e::es) [] pos) (ybR CX X C m sp ta t):=by
 intro π s σ H Q I h;refine FZ (pl:=pl) (thn (he π s σ H _ I h) λu s1 kq=>?_) ht;let⟨x,H1,I1,rx,y,dx,fs,ex,ea,l,q⟩:=kq;subst ex;obtain rfl:u=A7 y:=rx;refine zeh I1 ea c hm l ?_;refine C3 (first:=[.ref y]) (h₀:=X.base) I.ok.mod.kin hm.kp (thn (ha pos π s1 σ H1 _ I1 q) λus s2 kq=>?_) hst hpl;let⟨vs,H2,I2,r,E,q2,hx⟩:=kq;refine ⟨I2.kIn,?_⟩;exact zdK (us:=.ref y::us) (vs:=.ref y::vs) F hr hb .nil I2 (.cons rfl r) (by rw[Br];exact q2) λe s' z=>hx π s2 e s' I2 z
def zhK{CX:CXT}{sp:Sp}{C:AJ}{ta:TE}{pl:Hh Bool}(he:PE X o ta)(c:Cls X.K C)(hm:Meth X.K C m fa)(F:yaA X.prog X.w X.K X.mg X.base CX k fa fd ps sp)(hr:yah k X.A)(hb:Binds X.K fd ps [])
  (ht:eval (.Call (.Attribute o m apos) [] [] pos) X.env=(do
   let ov <-eval o X.env
   standAt apos.atName
   let (f,first) <-holding [ov] (getMethod ov m pl)
   callWith pos f first (backTo pos (starEach [] X.env)) (backToKw pos (keywordEach [] X.env))):=by rfl):
  PE X (.Call (.Attribute o m apos) [] [] pos) (ybR CX X C m sp ta ydE):=by
 intro π s σ H Q I h;refine FZ (pl:=pl) (thn (he π s σ H _ I h) λu s1 kq=>?_) ht;let⟨x,H1,I1,rx,y,dx,fs,ex,ea,l,E,q2,hx⟩:=kq;subst ex;obtain rfl:u=A7 y:=rx;refine zeh I1 ea c hm l ?_;exact Fq (first:=[.ref y]) I1.kIn hm.kp (zdK (us:=[.ref y]) (vs:=[.ref y]) F hr hb .nil I1 (.cons rfl .nil) q2 λe s' z=>hx π s1 e s' I1 z)
def zfk{Q:VK}{t:TA}(hq:∀{H1:Hp} {φ1:Ph} {st1:SO} {P:List V->Hp->Prop} {kk:List PV->SO->R PV},yu X.K S.cl B φ1 H1 st1->yH X.K S.cl B φ1 H1 ρ σ->Run S X σ B φ1 H1 (RV S X B) ((evs S.call ρ st1 ces).bind kk) Q ->
   (∀xs H2 vs st2 φ2,Step φ1 H1 φ2 H2->yu X.K S.cl B φ2 H2 st2->yH X.K S.cl B φ2 H2 ρ σ->ye X.K S.cl B φ2 H2 vs xs->Run S X σ B φ2 H2 (RV S X B) (kk vs st2) Q->P xs H2)->t σ H1 P)
  (rs:yu X.K S.cl B φ H st) (re:yH X.K S.cl B φ H ρ σ) (h:Run S X σ B φ H (RV S X B) ((ev S.call ρ st ca).bind λx st1=>onO (ybT c m st1 x) λ_=>(evs S.call ρ st1 ces).bind λvs st2=>S.call i (x::vs) st2) Q):
  ybR (CX1 X.prog X.w) X (S.cl c) m (spI X.K S.cl S.call i) (tE S X ca) t σ H Q:=by
 refine tE.bind rs re h λx H1 v st1 φ1 s1 rs1 re1 rv h1=>?_
 cases q:ybT c m st1 v with
 |none=>rw[q]at h1;exact h1.elim
 |some b=>
  rw[q]at h1;erw[onO]at h1;let⟨n,fs,rfl,hn,hl⟩:=zkk q;let⟨y,ks,dx,rfl,_,hy,lr⟩:=rs1.ins rv hn;refine⟨y,dx,ks,rfl,hy,lr.lookup.2 hl,hq rs1 re1 h1 λxs H2 vs st2 φ2 s2 rs2 re2 rl h2=>?_⟩;exact zaT rs2 (by erw[ye];exact⟨.ref y,xs,rfl,rv.step s2,rl⟩) h2
def znP{pl:Hh Bool}(hc:Cls X.K (S.cl c))(hm:Meth X.K (S.cl c) m fa)(F:yaA X.prog X.w X.K X.mg X.base (CX1 X.prog X.w) k fa fd ps (spI X.K S.cl S.call i))(hr:yah k X.A)(hb:Binds X.K fd ps [])
  (ho:PE X o (tE S X ca)) (ha:PA X (e::es) (tAs S X ces))
  (hst:starEach (e::es) X.env=(AB,eval e X.env)::starEach es X.env:=by rfl) (hpl:(backTo pos (starEach es X.env)).any (·.1)=false:=by rfl)
  (ht:eval (.Call (.Attribute o m apos) (e::es) [] pos) X.env=(do
   let ov <-eval o X.env
   standAt apos.atName
   let (f,first) <-holding [ov] (getMethod ov m pl)
   callWith pos f first (backTo pos (starEach (e::es) X.env)) (backToKw pos (keywordEach [] X.env))):=by rfl):
  PE X (.Call (.Attribute o m apos) (e::es) [] pos) (tE S X (.mcl c i m ca ces)):=
 (zjO ho hc hm F hr hb ha hst hpl ht).imp λσ H Q ⟨B,φ,st,ρ,rs,re,h⟩=>by
  erw[ev]at h;exact zfk (λrs1 re1 h1 n=>tAs.bind rs1 re1 h1 n) rs re h
def zlo{pl:Hh Bool}(hc:Cls X.K (S.cl c))(hm:Meth X.K (S.cl c) m fa)(F:yaA X.prog X.w X.K X.mg X.base (CX1 X.prog X.w) k fa fd ps (spI X.K S.cl S.call i))(hr:yah k X.A)(hb:Binds X.K fd ps [])
  (ho:PE X o (tE S X ca))
  (ht:eval (.Call (.Attribute o m apos) [] [] pos) X.env=(do
   let ov <-eval o X.env
   standAt apos.atName
   let (f,first) <-holding [ov] (getMethod ov m pl)
   callWith pos f first (backTo pos (starEach [] X.env)) (backToKw pos (keywordEach [] X.env))):=by rfl):
  PE X (.Call (.Attribute o m apos) [] [] pos) (tE S X (.mcl c i m ca .nil)):=
 (zhK ho hc hm F hr hb ht).imp λσ H Q ⟨B,φ,st,ρ,rs,re,h⟩=>by
  erw[ev]at h;refine zfk (t:=ydE) (λ{H1 φ1 st1 P kk} rs1 re1 h1 n=>?_) rs re h;erw[evs,R.bind]at h1;exact n [] H1 [] st1 φ1 .rfl rs1 re1 (by erw[ye]) h1
def zk0(hu:X.A.units+64<cLine):OpR X (compareOp .In) (rTs S X ybZ):=by
 rintro π s σ H x y v u Q I rx ry ⟨B,φ,st,a,b,z,rs,ra,rb,e,q⟩
 erw[ybZ]at e
 cases e1:ya2 st b with
 |none=>rw[e1]at e;cases e
 |some ws=>
  rw[e1]at e;dsimp only at e;split at e
  .rename_i c;rw[AH]at c
   cases e
   let⟨l,ys,rfl,hq,lr⟩:=zgm rs rb e1
   cases (show u=A7 l from ry)
   let⟨bs,z1⟩:=zaA (S:=S) I a 60 x v c.1 ra rx;rcases hq with hq|hq
   .let⟨its,r,pl,hz⟩:=I.list hq;refine HI (eqR s.heap (toD a)) pl.isList (λw hw=>zdD (S:=S) I a c.1 z1 hu ws ys its c.2 lr r w (by simpa using hw)) ⟨.bl _,H,I,rfl,?_⟩;rw[show its.toArray.any (eqR s.heap (toD a))=its.any (eqR s.heap (toD a))by simp,zdy (S:=S) I a c.1 ws ys its c.2 lr r];exact q _ H φ .rfl rs (by erw[yd])
   .let⟨its,r,pl,hz⟩:=I.tuple hq;refine Gn (eqR s.heap (toD a)) pl (λw hw=>zdD (S:=S) I a c.1 z1 hu ws ys its c.2 lr r w (by simpa using hw)) ⟨.bl _,H,I,rfl,?_⟩;rw[show its.toArray.any (eqR s.heap (toD a))=its.any (eqR s.heap (toD a))by simp,zdy (S:=S) I a c.1 ws ys its c.2 lr r];exact q _ H φ .rfl rs (by erw[yd])
  .cases e
def znA(hu:X.A.units+64<cLine)(ha:PE X a (tE S X ca))(hb:PE X b (tE S X cb))(hm:behindInMarks .In b=AB):PE X (.Compare a [.In] [b] pos) (tE S X (.inn ca cb)):=
 (zeB (zk0 hu) ha hb hm).imp λσ H Q ⟨B,φ,st,ρ,rs,re,h⟩=>by
  erw[ev]at h;refine tE.bind rs re h λx H1 v st1 φ1 s1 rs1 re1 rv h1=>tE.bind rs1 re1 h1 λy H2 w st2 φ2 s2 rs2 re2 rw h2=>?_;let⟨z,e,q⟩:=zU h2 rs2;exact⟨B,φ2,st2,v,w,z,rs2,rv.step s2,rw,e,q⟩
def zmG{st:SO}{x y z:PV}(h:ybZ st x y=AA z):∃k,z=.bl k:=by
 unfold ybZ at h;split at h
 .split at h
  .cases h;exact⟨_,rfl⟩
  .cases h
 .cases h
def zno(hu:X.A.units+64<cLine)(ha:PE X a (tE S X ca))(hb:PE X b (tE S X cb))(hm:behindInMarks .In b=AB):PT X (.Compare a [.In] [b] pos) (tTs S X (.inn ca cb)):=
 (zfR (zk0 hu) ha hb hm).imp λσ H Q ⟨B,φ,st,ρ,rs,re,h⟩=>by
  erw[ev,yaO,R.bind_assoc]at h;refine tE.bind rs re h λx H1 v st1 φ1 s1 rs1 re1 rv h1=>tE.bind rs1 re1 h1 λy H2 w st2 φ2 s2 rs2 re2 rw h2=>?_
  cases e:ybZ st2 v w with
  |none=>rw[e]at h2;exact h2.elim
  |some z=>
   let⟨k,rfl⟩:=zmG e;rw[e]at h2;refine⟨B,φ2,st2,v,w,.bl k,rs2,rv.step s2,rw,e,λz' H' φ' s' rs' rz=>?_⟩;erw[yd]at rz;exact⟨k,rz,h2 k H' φ' s' rs' rfl⟩
end
inductive yb1(w:Af)(fa:Nat->AJ):List (AL×Nat)->List By->Prop
 |nil:yb1 w fa [] []
 |cons {k:AL} {i:Nat} {t:Hq} {D:List (AL×Nat)} {es:List By} (h:yb1 w fa D es):yb1 w fa ((k,i)::D) (⟨EQ w.params k,.str k t,.ref (fa i)⟩ :: es)
def GDF(K:AF)(w:Af)(mg:AL->Option AG)(fa:Nat->AJ)(x:AL)(D:List (AL×Nat)):Prop:=
 ∃(y:AJ) (es:Array By) (ep:Nat),mg x=AA (.ref y)/\K.lookup y=AA ⟨.type "dict",AD,.dict es ep,#[]⟩/\yb1 w fa D es.toList/\(D.map (·.1)).Nodup
theorem yb1.pairs{P:A4}{w:Af}{fa:Nat->AJ}{D:List (AL×Nat)}{es:List By}(h:yb1 w fa D es):
  ∃vs:List (AL×AG),Pairs (strKind P w) es vs/\(∀e∈es,∃k,(strKind P w).is k e.key=AC/\e.hash=(strKind P w).hash k)/\vs.map (·.1)=D.map (·.1) /\
   ∀s i,D.lookup s=AA i->valueAt vs s=AA (.ref (fa i)):=by
 induction h with
 |nil=>exact⟨[],.nil,λe he=>(by cases he),rfl,λs v e=>by cases e⟩
 |@cons k i t D es h ih=>
  let⟨vs,h1,h2,h3,h5⟩:=ih;have hat:∀s,valueAt ((k,A7 (fa i))::vs) s=if k=s then AA (.ref (fa i))else valueAt vs s:=λs=>by
   unfold valueAt;rw[Bs]
   by_cases e:k=s
   .simp[e]
   .simp[e]
  refine⟨(k,.ref (fa i))::vs,.cons (D3 P w k t) rfl h1,λe he=>?_,by rw[AU,AU,h3],λs j e=>?_⟩
  .rcases AX.1 he with rfl|he
   .exact⟨k,D3 P w k t,rfl⟩
   .exact h2 e he
  .rw[hat];erw[Bg]at e
   by_cases q:k=s
   .subst q;rw[beq_self_eq_true]at e
    cases e
    rw[if_pos rfl]
   .rw[beq_eq_false_iff_ne.2 (Au q)]at e;rw[if_neg q];exact h5 s j e
section
variable {S:Se}{X:Cx}{σ:St}{B:AJ->Prop}{φ:Ph}{H:Hp}{st:SO}{ρ:IC.Env}{pos p p1 p2 p3 p4 p5 p6 p7:CB}{a b i e n:AT}{es:List AT}{ca cn:Ce}{ces:Ces}{x y:AL}{D:List (AL×Nat)}{ty:TE}{t:TA}{fa:Nat->AJ}{fdd:Nat->Ao}{ps:Nat->List AL}{k ix:Nat}
def yc0(D:List (AL×Nat))(fa:Nat->AJ)(ty:TE):TE:=λσ H Q=>ty σ H λz H2=>∃s j,z=.str s/\D.lookup s=AA j/\Q (.ref (fa j)) H2
def zjW(hg:Gl X x)(h:GDF X.K X.w X.mg fa x D)(hi:PE X i ty)(hs:ycS i)(hd:(x==("__debug__":AL))=false:=by decide):PE X (.Subscript (.Name x p) i pos) (yc0 D fa ty):=by
 let⟨y,es,ep,hm,hk,hr,hn⟩:=h;let⟨vs,h1,h2,h3,h5⟩:=hr.pairs (P:=X.prog);intro π s σ H Q I q0;refine ziU EV.lookup hs (thn (zcJ (v:=.ref y) hg hm rfl hd π s σ H (λz H1=>z=.ref y/\ty σ H1 λz H2=>∃s j,z=.str s/\D.lookup s=AA j/\Q (.ref (fa j)) H2) I ⟨rfl,q0⟩) λu s1 kq=>?_);let⟨z,H1,I1,rz,ez,q1⟩:=kq;refine thn (hi π s1 σ H1 _ I1 q1) λiv s2 kq=>?_;let⟨z2,H2,I2,rz2,sx,j,ez2,e,q2⟩:=kq;subst ez;subst ez2;obtain rfl:u=A7 y:=rz;let⟨t,rfl⟩:=rz2;have dd:s2.heap.DictOf (strKind X.prog X.w) y vs:=⟨_,es,ep,I2.kIn y _ hk,⟨rfl,rfl,rfl⟩,rfl,λe he=>h2 e (by simpa using he),h1,by rw[h3];exact hn⟩;exact⟨dd.typeIs,Gz (D3 X.prog X.w sx t) dd.mapOf (h5 sx j e) ⟨.ref (fa j),H2,I2.tok _,rfl,q2⟩⟩
structure Makers(S:Se)(X:Cx)(k:Nat)(D:List (AL×Nat))(fa:Nat->AJ)(fdd:Nat->Ao)(ps:Nat->List AL):Prop where
 F:∀s j,D.lookup s=AA j->yaA X.prog X.w X.K X.mg X.base (CX1 X.prog X.w) k (fa j) (fdd j) (ps j) (spI X.K S.cl S.call j)
 kp:∀s j,D.lookup s=AA j->Ab X.K (.ref (fa j))=AC
 b:∀s j,D.lookup s=AA j->Binds X.K (fdd j) (ps j) []
def yc9(S:Se)(X:Cx)(D:List (AL×Nat))(fa:Nat->AJ)(ix:Nat)(t:TA):TE:=λσ H Q=>∃s j,D.lookup s=AA j/\σ[ix]?=AA (AA (.ref (fa j)))/\t σ H λvs H1=>∃E:XK,spI X.K S.cl S.call j vs H1 Q E/\∀π s e s',Inv X π σ H1 s->CX1 X.prog X.w X.stack H1 s E e s'->X.xe e s'
def zf9(M:Makers S X k D fa fdd ps)(hr:yah k X.A)(hN:X.N[ix]?=AA x)(hv:Vis X.env.scope x)(ha:PA X (e::es) t)
  (hd:(x==("__debug__":AL))=false:=by decide) (hcd:(x==("__classdict__":AL))=false:=by decide) (he:starEach (e::es) X.env=(AB,eval e X.env)::starEach es X.env:=by rfl) (hpl:(backTo pos (starEach es X.env)).any (·.1)=false:=by rfl):
  PE X (.Call (.Name x p) (e::es) [] pos) (yc9 S X D fa ix t):=by
 intro π s σ H Q I ⟨sx,j,hl,hs,h⟩;refine BI (thn (zk4 hN hv hd hcd π s σ H (λz H1=>z=.ref (fa j)/\t σ H1 λvs H1=>∃E:XK,spI X.K S.cl S.call j vs H1 Q E/\∀π s e s',Inv X π σ H1 s->CX1 X.prog X.w X.stack H1 s E e s'->X.xe e s') I ⟨_,hs,rfl,h⟩) λu s1 kq=>?_);let⟨z,H1,I1,rz,ez,q1⟩:=kq;subst ez;obtain rfl:u=A7 (fa j):=rz;refine C3 (h₀:=X.base) I.ok.mod.kin (M.kp sx j hl) (thn (ha pos π s1 σ H1 _ I1 q1) λus s2 kq=>?_) he hpl;let⟨vs,H2,I2,r,E,q,hx⟩:=kq;refine ⟨I2.kIn,?_⟩;exact zdK (M.F sx j hl) hr (M.b sx j hl) .nil I2 r (by rw[Br];exact q) λe s' c=>hx π s2 e s' I2 c
def ziH{L:List (AL×Nat)}{v:Option (Option PV)}{j:Nat}(h:yb0 L v=AA j):v=AA (AA (.fnc j))/\∃s,L.lookup s=AA j:=by
 unfold yb0 at h;split at h
 .split at h
  .rename_i q
   cases h
   let⟨p,_,q⟩:=Ck.1 q;erw[AH,beq_iff_eq]at q;exact⟨rfl,p.1,q.2⟩
  .cases h
 .cases h
def zoK(M:Makers S X k D (λj=>S.cl (1000+j)) fdd ps)(hr:yah k X.A)(hN:X.N[ix]?=AA x)(hv:Vis X.env.scope x)(ha:PA X (e::es) (tAs S X ces))
  (hd:(x==("__debug__":AL))=false:=by decide) (hcd:(x==("__classdict__":AL))=false:=by decide) (he:starEach (e::es) X.env=(AB,eval e X.env)::starEach es X.env:=by rfl) (hpl:(backTo pos (starEach es X.env)).any (·.1)=false:=by rfl):
  PE X (.Call (.Name x p) (e::es) [] pos) (tE S X (.cav ix D ces)):=
 (zf9 M hr hN hv ha hd hcd he hpl).imp λσ H Q ⟨B,φ,st,ρ,rs,re,h⟩=>by
  erw[ev]at h
  cases q:yb0 D ρ[ix]? with
  |none=>rw[q]at h;exact h.elim
  |some j=>
   rw[q]at h;let⟨q1,s,hl⟩:=ziH q;let⟨u,hu,rv⟩:=re.get ix _ q1;erw[yd]at rv;subst rv;exact⟨s,j,hl,hu,tAs.bind rs re h λxs H1 vs st1 φ1 s1 rs1 re1 rv h1=>zaT rs1 rv h1⟩
theorem yH.hole{K:AF}{cl:Nat->AJ}{v:V}(re:yH K cl B φ H ρ σ):yH K cl B φ H (ρ.set ix AD) (σ.set ix (AA v)):=by
 refine⟨by simp[re.len],λj w e=>?_⟩
 by_cases q:ix=j
 .subst q
  by_cases hj:ix<ρ.length
  .rw[A5 hj]at e;cases e
  .rw[BN (by simp;lia)]at e;cases e
 .rw[AN q]at e ⊢;exact re.get j w e
def zjI{v:PV}{j:Nat}{b:Bool}(h:mkV D b v=AA j):∃s,v=.str s/\D.lookup s=AA j/\b=true:=by
 cases v with
 |str s=>
  cases b with
  |true=>exact⟨s,rfl,h,rfl⟩
  |false=>cases h
 |_=>cases h
def zo4(M:Makers S X k D fa fdd ps)(hr:yah k X.A)(hN:X.N.Nodup)(hi:X.N[ix]?=AA x)(hx:Loc X.env.scope x)(hv:Vis X.env.scope x)(hg:Gl X y)(hd:GDF X.K X.w X.mg fa y D)(hn:PE X n (tE S X cn))(ha:PA X (e::es) (tAs S X ces))
  (hs:ycS n:=by exact λ_ _=>rfl) (hsw:swapsWith (.Subscript (.Name y p2) n p3) (AA (.Name x p1)) p4.line X.env=pure false:=by rfl) (hf:X.fn x=AC \/ X.env.scope.names.lookup x=AA .local:=by first|exact .inl rfl|exact .inr rfl|assumption)
  (hyd:(y==("__debug__":AL))=false:=by decide) (hxd:(x==("__debug__":AL))=false:=by decide) (hcd:(x==("__classdict__":AL))=false:=by decide) (he:starEach (e::es) X.env=(AB,eval e X.env)::starEach es X.env:=by rfl) (hpl:(backTo p6 (starEach es X.env)).any (·.1)=false:=by rfl):
  PSs X [.Assign [.Name x p1] (.Subscript (.Name y p2) n p3) p4,.Return (AA (.Call (.Name x p5) (e::es) [] p6)) p7] (tSs S X (.cons (.mkr ix D cn ces) .nil)):=
 (zf4 (zlh hN hi hx (zjW hg hd hn hs hyd) hsw hf) (zmV (zkY (zf9 M hr hi hv ha hxd hcd he hpl)))).imp λD' σ H ⟨B,φ,st,ρ,rs,re,h⟩=>by
  have h:yag S X B φ H (ex S.call ρ st (.mkr ix D cn ces)) D':=by
   erw[exs]at h
   cases q:ex S.call ρ st (.mkr ix D cn ces)with
   |nx ρ' s'=>
    exfalso;erw[ex]at q
    cases q1:ev S.call ρ st cn with
    |ok v1 s1=>
     rw[q1]at q;erw[R.fl]at q;split at q
     .rename_i j _
      cases q2:(evs S.call (ρ.set ix AD) s1 ces).bind λvs st2=>S.call j vs st2 with
      |ok v2 s2=>rw[q2]at q;cases q
      |exc c s2=>rw[q2]at q;cases q
      |bad=>rw[q2]at q;cases q
     .cases q
    |exc c s1=>rw[q1]at q;cases q
    |bad=>rw[q1]at q;cases q
   |rt v s'=>rw[q]at h;exact h
   |bk ρ' s'=>rw[q]at h;exact h
   |ct ρ' s'=>rw[q]at h;exact h
   |exc c ρ' s'=>rw[q]at h;exact h
   |bad=>rw[q]at h;exact h
  erw[ex]at h;refine tE.fl rs re h λx' H1 v st1 φ1 s1 rs1 re1 rv h1=>?_
  cases q:mkV D (decide (ix<ρ.length)) v with
  |none=>rw[q]at h1;exact h1.elim
  |some j=>
   rw[q]at h1;let⟨sx,rfl,hl,hb⟩:=zjI q;erw[yd]at rv;subst rv;have hlen:ix<σ.length:=by
    rw[<-re1.len];exact of_decide_eq_true hb
   refine⟨sx,j,rfl,hl,sx,j,hl,by rw[A5 hlen],B,φ1,st1,ρ.set ix AD,rs1,re1.hole,?_⟩;dsimp only at h1
   cases q2:evs S.call (ρ.set ix AD) st1 ces with
   |bad=>rw[q2]at h1;exact h1
   |exc c s2=>rw[q2]at h1;exact λe s' z=>h1 _ φ1 H1 e s' .rfl re1.hole z
   |ok vs st2=>
    rw[q2]at h1;intro xs H2 φ2 s2 rs2 rl;have h2:yag S X B φ1 H1 ((S.call j vs st2).fl (ρ.set ix AD) λv st3=>.rt v st3) D':=h1;refine zaT rs2 rl ?_
    cases q3:S.call j vs st2 with
    |bad=>rw[q3]at h2;exact h2
    |ok v st3=>rw[q3]at h2;exact λx H' φ' s' rs' rv=>h2 x H' φ' (s2.trans s') rs' rv
    |exc c st3=>rw[q3]at h2;exact λe s' z=>h2 _ φ2 H2 e s' s2 (re1.hole.step s2) z
end
section
variable {P:A4}{w:Af}{K:AF}{mg:AL->Option AG}{base:Aq}{cl:Nat->AJ}{T:Nat->Option IC.Fn}{fi:Nat}{fn:IC.Fn}{x qual:AL}{stm:B9}{f:AJ}{fd:Ao}{N ps:List AL}{k m:Nat}
def zje:yaA P w K mg base (CX1 P w) m f fd ps (spI K cl (yc T 0) fi):=
 ⟨λvs H Q E ⟨_,_,_,_,_,_,h⟩=>by rw[yc]at h;exact h.elim,λA outer s H args us vs Q E _ _ _ _ ⟨_,_,_,_,_,_,h⟩=>by rw[yc]at h;exact h.elim⟩
end
theorem yaa.units{k:Nat}{A:Ag}(r:yaa k A):A.units+64<cLine:=by have:=r.un;lia
section
variable {P:A4}{w:Af}{K:AF}{mg:AL->Option AG}{base:Aq}{cl:Nat->AJ}{T:Nat->Option IC.Fn}{fi:Nat}{fn:IC.Fn}{x qual:AL}{stm:B9}{f:AJ}{fd:Ao}{N ps:List AL}{k m:Nat}
def zju(hT:T fi=AA fn)(hns:N.length=fn.ns)(hpu:fn.pure=AB){scope:BZ}{cdv:AG}{A:Ag}{outer:List BG}{s:AK}{vs:List V}{H:Hp}{Q:VK}(h:spI K cl (yc T (k+1)) fi vs H Q E0):
  tSs ⟨cl,yc T k,AB⟩ (ybF P w K mg base N qual scope f cdv A outer s H) fn.body {nx:=λ_ H'=>Q .non H',rt:=Q} (L2.start N vs) H:=by
 let⟨B,φ,st,args,rs,l,h⟩:=h;have hl:args.length=fn.np:=zie (k:=k) hT args st λz=>by rw[z]at h;exact h
 have hlen:=l.length;rw[yc,hT]at h;dsimp only at h;rw[if_pos hl,hpu,if_neg (by simp)]at h;refine⟨B,φ,st,_,rs,yH.start l (fn.ns-fn.np) ∅,?_⟩;show yag _ _ _ _ _ (exs (yc T k) (args.map AA++AM (fn.ns-fn.np) AD) st fn.body) _
 cases e:exs (yc T k) (args.map AA++AM (fn.ns-fn.np) AD) st fn.body with
 |nx ρ' st'=>
  rw[e]at h;intro σ' H' φ' s' rs' re';exact h .non H' φ' s' rs' (by erw[yd])
 |rt v st'=>
  rw[e]at h;intro y H' φ' s' rs' rv;exact h y H' φ' s' rs' rv
 |exc c ρ' st'=>
  rw[e]at h;intro σ' φ1 H1 ev s' s1 _ ex;rcases ex with⟨π,H2,s2,φ2,I,s3,q⟩|⟨hm,_⟩|⟨hm,_⟩
  .let⟨_,cls,_,H',_,_,_,_,_,_,_,_,_,_,e1,φ',s4,r⟩:=q;exact(h H' φ' (s1.trans (s3.trans s4)) r).elim
  .cases hm
  .cases hm
 |bk ρ' st'=>rw[e]at h;exact h.elim
 |ct ρ' st'=>rw[e]at h;exact h.elim
 |bad=>rw[e]at h;exact h.elim
def zoe(hT:T fi=AA fn)(F:Fun K x qual stm f fd)(Sc:yaw N ps (yh stm))(hnp:ps.length=fn.np)(hns:N.length=fn.ns)(hpu:fn.pure=AB)
  (body:∀(cdv:AG) (A:Ag) (outer:List BG) (s:AK) (H:Hp),yaa m (A.deeper (envOfC qual (yh stm) s.heap.objs.size f cdv)) ->
   PSs (ybF P w K mg base N qual (yh stm) f cdv A outer s H) (yK stm) (tSs ⟨cl,yc T k,AB⟩ (ybF P w K mg base N qual (yh stm) f cdv A outer s H) fn.body)):
  ybe P w K mg base (m+1) f fd ps (spI K cl (yc T (k+1)) fi):=
 F.okH Sc (λvs H Q E h=>zlb hT hnp h) λcdv A outer s H vs Q hr h=>⟨_,body cdv A outer s H hr,zju hT hns hpu h⟩
def zj0:ybe P w K mg base m f fd ps (spI K cl (yc T 0) fi):=
 ⟨λvs H Q E ⟨_,_,_,_,_,_,h⟩=>by rw[yc]at h;exact h.elim,λA outer s H args us vs Q _ _ _ _ ⟨_,_,_,_,_,_,h⟩=>by rw[yc]at h;exact h.elim⟩
end
section
variable {S:Se}{X:Cx}{σ:St}{B:AJ->Prop}{φ:Ph}{H:Hp}{st:SO}{ρ:IC.Env}{p pos:CB}{e:AT}{es:List AT}{ces:Ces}{fi k:Nat}{x:AL}{f:AJ}{fd:Ao}{ps:List AL}
def zjx(F:ybe X.prog X.w X.K X.mg X.base k f fd ps (spI X.K S.cl S.call fi))(hr:yaa k X.A)(hg:Gl X x)(hm:X.mg x=AA (.ref f))(hk:Ab X.K (.ref f)=AC)(hb:Binds X.K fd ps [])
  (ha:PA X (e::es) (tAs S X ces)) (hdb:(x==("__debug__":AL))=false:=by decide) (he:starEach (e::es) X.env=(AB,eval e X.env)::starEach es X.env:=by rfl) (hpl:(backTo pos (starEach es X.env)).any (·.1)=false:=by rfl):
  PE X (.Call (.Name x p) (e::es) [] pos) (tE S X (.qcl fi ces)):=
 (zkr F hr hg hm hk hb ha hdb he hpl).imp λσ H Q ⟨B,φ,st,ρ,rs,re,h⟩=>by
  erw[ev]at h;refine tAs.bind rs re h λxs H1 vs st1 φ1 s1 rs1 re1 rv h1=>?_;refine⟨B,φ1,st1,vs,rs1,rv,?_⟩
  cases c:S.call fi vs st1 with
  |ok v st'=>rw[c]at h1;exact h1
  |exc k st'=>rw[c]at h1;exact h1.elim
  |bad=>rw[c]at h1;exact h1.elim
end
end L2
namespace L2
open PySem IC
section
variable {S:Se}{X:Cx}{σ:St}{B:AJ->Prop}{φ φ1:Ph}{H H1:Hp}{st:SO}{ρ:IC.Env}{p pos p2 px py pt pt2:CB}{a b c d o a' b' c' d':AT}{ca cb cc cd ce cf:Ce}{π:List (AJ×B7)}{s:AK}{kt k2:Nat}{es:List AT}{ces:Ces}{x:AL}
end
end L2
namespace L2
open PySem PySem.Spec PyProof.Rows
section
variable {X:Cx}
def zjf{i:Int}(i0:0<=i)(i1:i<=sizeLine):(!Builtin.List.listFitsIndex i)=false:=by
 unfold Hc;have:sizeLine<=9000000000000000000:=by decide
 simp;lia
def ycK:V->List V->Hp->VK->Prop:=λx vs H Q=>∃l i xs y,x=.ref l/\vs=[.int i,y]/\H l=AA (.lst xs)/\0<=i/\i<=xs.length/\xs.length<sizeLine/\Q .non (upd H l (.lst (xs.take i.toNat++y::xs.drop i.toNat)))
def zhh:MtM X "list.insert" ycK:=by
 intro π s σ H x vs v us Q I rx rv h;let⟨l,i,xs,y,rfl,rfl,hH,i0,i1,hz,q⟩:=h
 cases rx
 let⟨u,w,rfl,ru,rw⟩:=rv.two;let⟨tk,rfl⟩:=ru;let⟨z,its,n,r,hl,e⟩:=I.lstM hH;refine CO F0 ⟨_,e,rfl⟩ F.entry_list_insert (F.args_list_insert_3 _ _ _) (AutoSeq1.list_insert_list_int_val_1 l its.toArray n i tk w (by rw[zjf i0 ∅];exact Ai) (by rw[AS];lia)) ⟨e,?_⟩;refine⟨.non,_,I.lset (its':=its.take i.toNat++w::its.drop i.toNat) hH e ?_ ((r.take i.toNat).append (.cons rw (r.drop i.toNat))) ?_,rfl,q⟩
 .show (its.toArray.extract 0 (if i<0 then(i+(its.toArray.size:Int)).toNat else min i.toNat its.toArray.size)).push w++its.toArray.extract (if i<0 then(i+(its.toArray.size:Int)).toNat else min i.toNat its.toArray.size)=_;rw[if_neg ∅,AS,Nat.min_eq_left ∅];apply Gv.mp;simp;exact DP (by simp)
 .rw[A6,A1,D0,Eu];lia
end
end L2
namespace L2
open PySem PySem.Spec PyProof.Rows IC
section
variable {S:Se}{X:Cx}{σ:St}{B:AJ->Prop}{φ φ1:Ph}{H H1:Hp}{st:SO}{ρ:IC.Env}{p pos p2 apos:CB}{a b c d:AT}{ca cb cc:Ce}{es:List AT}{ces:Ces}{K:AF}{cl:Nat->AJ}
def zhG(ha:PE X a (tE S X ca))(hb:PE X b (tE S X cb))(hc:PE X c (tE S X cc))(hs:starEach [b,c] X.env=[(AB,eval b X.env),(AB,eval c X.env)]:=by rfl)(hs2:starEach [c] X.env=[(AB,eval c X.env)]:=by rfl)(hbase:attributeBase a "insert" X.env (eval a X.env)=eval a X.env:=by rfl)(hline:(apos.endLine==pos.line)=true:=by rfl)(hany:((backTo pos (starEach [c] X.env)).any λx=>x.1)=false:=by rfl)
  (hfew:((backTo pos (starEach [b,c] X.env)).all (λx=>!x.1)&&(backToKw pos (keywordEach [] X.env)).all (λx=>x.1.isSome)&&decide (([b,c]:List AT).length+([]:List B8).length+(if ([]:List B8).isEmpty then 0 else 1)<30))=true:=by rfl):
  PE X (.Call (.Attribute a "insert" apos) [b,c] [] pos) (tE S X (.mth .insert ca (.cons cb (.cons cc .nil)))):=
 (zkw Bm F0 PySem.F.type_list_insert zhh ha (za9 (S:=S) hb (za9 (S:=S) hc zdL hs2) (by rw[hs,hs2])) hbase hfew hline (by rw[hs,hs2]) hany).imp λσ H Q ⟨B,φ,st,ρ,rs,re,h⟩=>by
  erw[ev]at h;refine tE.bind rs re h λx H1 v st1 φ1 s1 rs1 re1 rv h1=>?_;let⟨_,e1,h1⟩:=zcI h1;have t1:∃ws,yJ st1 v=AA ws:=by
   erw[yav]at e1
   cases q:yJ st1 v with
   |none=>rw[q]at e1;cases e1
   |some ws=>exact⟨ws,rfl⟩
  let⟨ws,t1⟩:=t1;let⟨l,xs,rfl,hl,_⟩:=zbv rs1 rv t1;refine⟨.inl ⟨rfl,xs,hl⟩,tAs.bind rs1 re1 h1 λys H2 vs st2 φ2 s2 rs2 re2 rvs h2=>?_⟩;have rv2:=rv.step s2;rcases vs with _|⟨w,_|⟨w',_|⟨w'',t⟩⟩⟩
  .exact h2.elim
  .exact h2.elim
  .let⟨y,y',rfl,rw,rw'⟩:=rvs.two;unfold ybU at h2;erw[yfu]at h2;split at h2
   .rename_i n;split at h2
    .rename_i zs hz;split at h2
     .rename_i k;split at h2
      .rename_i c;let⟨l',xs',e,hn,hx,lr⟩:=rs2.list rv2 hz
       cases e
       erw[yd]at rw;subst rw;have hln:=lr.length;refine⟨l,k,xs',y',rfl,rfl,hx,c.1,by lia,by have:=zlR;lia,?_⟩;exact h2 _ _ φ2 (.put (AW hn)) (rs2.put hn ⟨_,zm,((lr.take k.toNat).append (show ye _ _ _ _ _ (w'::zs.drop k.toNat) (y'::xs'.drop k.toNat)by erw[ye];exact⟨y',_,rfl,rw',lr.drop k.toNat⟩)).step (.put (AW hn))⟩) (by erw[yd])
      .exact h2.elim
     .exact h2.elim
    .exact h2.elim
   .exact h2.elim
  .exact h2.elim
end
section
variable {S:Se}{X:Cx}{a b:AT}{c i:Nat}{j:Int}{f:AL}{pos tpos:CB}
def znS(hc:Cls X.K (S.cl c))(hn:yac X.K (S.cl c) f)(ha:PE X a (tE S X (.var i)))(hv:PE X b (tE S X (.cst (.int j)))):
  PS X (.AugAssign (.Attribute a f tpos) .Add b pos) (tS S X (.sfl c (.var i) f (.bin .add (.fld c (.var i) f) (.cst (.int j))))):=
 (ziV ha hv zoz).imp λD σ H ⟨B,φ,st,ρ,rs,re,h⟩=>by
  erw[ex,ev]at h
  cases q:ρ[i]? with
  |none=>rw[q]at h;exact h.elim
  |some o=>
   cases o with
   |none=>rw[q]at h;exact h.elim
   |some x=>
    rw[q]at h;dsimp only[R.bind]at h;refine⟨B,φ,st,ρ,rs,re,?_⟩;erw[ev,q];intro x' H1 φ1 s1 rs1 rx;have re1:=re.step s1;have h:=yag.on s1 h
    cases e:yaS c st x f with
    |none=>rw[e]at h;exact h.elim
    |some v=>
     rw[e]at h;let⟨n,fs,rfl,hn',l⟩:=zgq e;let⟨y,ks,dx,rfl,hp,hy,lr⟩:=rs1.ins rx hn';let⟨x,hx,rxv⟩:=lr.lookup.1 v l;refine⟨y,S.cl c,dx,ks,x,rfl,hy,hc,hn,hx,⟨B,φ1,st,ρ,rs1,re1,?_⟩⟩;erw[ev];intro y' H2 φ2 s2 rs2 ry;erw[yd]at ry;subst ry
     cases v with
     |int k=>
      erw[yd]at rxv;subst rxv;refine⟨k,j,rfl,rfl,?_⟩;have h:yag S X B φ1 H1 (match yaT c st (.loc n) f (.int (k+j))with|some st3=>Fl.nx ρ st3|none=>Fl.bad) D:=h;have h:=yag.on s2 h;have rx2:=rx.step s2;let⟨y2,ks2,dx2,e2,hp2,hy2,lr2⟩:=rs2.ins rx2 hn'
      cases e2
      cases e3:yaT c st (.loc n) f (.int (k+j))with
      |none=>rw[e3]at h;exact h.elim
      |some st4=>
       rw[e3]at h;let⟨n',fs',z,hn2,hl,rfl⟩:=zgI e3
       cases z
       rw[hn']at hn2
       cases hn2
       refine⟨dx2,ks2,hy2,by rw[<-lr2.len];exact hl,?_⟩;have s4:Step φ2 H2 φ2 (L2.upd H2 y (.ins (S.cl c) dx2 (yaQ f (.int (k+j)) ks2))):=.put (AW hp2);exact h σ _ φ2 s4 (rs2.put (o:=.ins c (ybD f (.int (k+j)) fs)) hp2 ⟨_,⟨dx2,zm⟩,(FS.put (by erw[yd]) lr2).step s4⟩) ((re1.step s2).step s4)
     |_=>exact h.elim
end
end L2
namespace HT
open PySem PySem.Spec PyProof.Rows
section
variable {prog:A4}{w:Af}{A:Ag}{E:AG->AK->Prop}{s:AK}
end
end HT
namespace L2
open PySem PySem.Spec PyProof.Rows IC
section
variable {S:Se}{X:Cx}{pos p2:CB}{e e3:AT}{te t3:TE}{a:AT}{ca c3:Ce}
theorem ye.reverse{K:AF}{cl:Nat->AJ}{B:AJ->Prop}{φ:Ph}{H:Hp}:∀{vs:List PV} {xs:List V},ye K cl B φ H vs xs->ye K cl B φ H vs.reverse xs.reverse
 |[],xs,h=>by
  erw[ye]at h;subst h;erw[List.reverse_nil,ye]
 |v::vs,xs,h=>by
  erw[ye]at h;let⟨y,ys,rfl,r,l⟩:=h;rw[DM,DM];exact(ye.reverse l).append (by erw[ye];exact⟨y,[],rfl,r,rfl⟩)
end
section
variable {X:Cx}{prog:A4}{w:Af}{A:Ag}{E:AG->AK->Prop}{s:AK}
end
section
variable {S:Se}{X:Cx}{pos px:CB}{a:AT}{ca:Ce}
end
section
variable {X:Cx}
def zhY{x:V}:∀{xs:List V} {us:List AG},Vals xs us->xs.all yan=AC->us.countP (eqU x)=xs.countP λy=>eqV y x
 |_,_,.nil,_=>rfl
 |y::xs,u::us,.cons r t,f=>by
  rw[BE,AH]at f;rw[D4,D4,zff r f.1,zhY t f.2]
def ydj:V->List V->Hp->VK->Prop:=λx vs H Q=>∃l xs y,x=.ref l/\vs=[y]/\H l=AA (.lst xs)/\yan y=AC/\xs.all yan=AC/\Q (.int (xs.countP λz=>eqV z y)) H
def zjM:MtM X "list.count" ydj:=by
 intro π s σ H x vs v us Q I rx rv h;let⟨l,xs,y,rfl,rfl,hH,fy,fs,q⟩:=h
 cases rx
 let⟨w,rfl,rw⟩:=vals1 rv;let⟨z,its,n,r,hl,e⟩:=I.lstM hH;refine CO F8 ⟨_,e,rfl⟩ F.entry_list_count (F.args_list_count_2 _ _) (SeqAt.list_countAt l its.toArray n AD #[] w (eqU y)) ⟨e,λu hu=>zcg rw fy r fs u (by simpa using hu),?_⟩;refine⟨.int _,H,I.tok _,⟨_,rfl⟩,?_⟩;rw[show its.toArray.toList=its from rfl,zhY r fs];exact q
def ydx:V->List V->Hp->VK->Prop:=λx vs H Q=>∃l xs y j,x=.ref l/\vs=[y]/\H l=AA (.lst xs)/\yan y=AC/\xs.all yan=AC/\(∃z,xs[j]?=AA z/\eqV z y=AC)/\(∀m z,m<j->xs[m]?=AA z->eqV z y=AB)/\Q (.int (j:Nat)) H
def zgn{xs:List V}{us:List AG}(h:Vals xs us):∀{m:Nat} {u:AG},us[m]?=AA u->∃z,xs[m]?=AA z/\RelV z u:=by
 induction h with
 |nil=>intro m u e;simp at e
 |cons r t ih=>
  intro m u e
  cases m with
  |zero=>simp at e;subst e;exact⟨_,rfl,r⟩
  |succ m=>simp at e;let⟨z,e1,e2⟩:=ih e;exact⟨z,by simpa using e1,e2⟩
def zj4:MtM X "list.index" ydx:=by
 intro π s σ H x vs v us Q I rx rv h;let⟨l,xs,y,j,rfl,rfl,hH,fy,fs,⟨z,hz,ez⟩,hno,q⟩:=h
 cases rx
 let⟨w,rfl,rw⟩:=vals1 rv;let⟨hsz,its,n,r,hl,e⟩:=I.lstM hH;have hj:j<its.length:=by
  have:=(Am.1 hz).1;lia
 have flatAt:∀{m:Nat} {z:V},xs[m]?=AA z->yan z=true:=λ{m z} hm=>A9.1 fs z (AW hm);have sz:sizeLine<2^63-1:=by rw[BP];decide
 refine CO F9 ⟨_,e,rfl⟩ F.entry_list_index (F.args_list_index_2 _ _) (SeqAt.list_indexAt l its.toArray n AD #[] w (eqU y) j (by simpa using hj) ∅ ?_ ?_) ⟨e,λu hu=>zcg rw fy r fs u (by simpa using hu),?_⟩
 .let⟨z',e1,r1⟩:=zgn r (m:=j) (u:=its[j]) (by simp[hj]);rw[hz]at e1
  cases e1
  erw[Fa];rw[zff r1 (flatAt hz)];exact ez
 .intro m hm hlt;have hm':m<its.length:=by simpa using hm
  let⟨z',e1,r1⟩:=zgn r (m:=m) (u:=its[m]) (by simp[hm']);erw[Fa];rw[zff r1 (flatAt e1)];exact hno m z' hlt e1
 .exact⟨.int _,H,I.tok _,⟨_,rfl⟩,q⟩
end
section
variable {S:Se}{X:Cx}{σ:St}{B:AJ->Prop}{φ φ1:Ph}{H H1:Hp}{st:SO}{ρ:IC.Env}{p pos p2 apos:CB}{a b:AT}{ca cb:Ce}{K:AF}{cl:Nat->AJ}
def zf1{v:PV}{x:V}(r:yd K cl B φ H v x)(h:IC.flat v=AC):∀{vs:List PV} {xs:List V},ye K cl B φ H vs xs->vs.all IC.flat=AC->(xs.countP λy=>eqV y x)=vs.countP λy=>peq y v
 |[],xs,l,_=>by erw[ye]at l;subst l;rfl
 |w::vs,xs,l,f=>by
  erw[ye]at l;let⟨y,ys,rfl,rw,l⟩:=l;rw[BE,AH]at f;rw[D4,D4,zf1 r h l f.2,(rw.flat f.1).2 v x h r]
def zfC{v:PV}{x:V}(r:yd K cl B φ H v x)(h:IC.flat v=AC):∀{vs:List PV} {xs:List V} {j:Nat},ye K cl B φ H vs xs->vs.all IC.flat=AC->ybV v vs=AA j->(∃z,xs[j]?=AA z/\eqV z x=AC)/\∀m z,m<j->xs[m]?=AA z->eqV z x=AB
 |[],xs,j,l,_,e=>by cases e
 |w::vs,xs,j,l,f,e=>by
  erw[ye]at l;let⟨y,ys,rfl,rw,l⟩:=l;rw[BE,AH]at f;have hq:=(rw.flat f.1).2 v x h r;erw[ybV]at e;split at e
  .rename_i c
   cases e
   exact⟨⟨y,rfl,by rw[hq];exact c⟩,λm z hm=>by lia⟩
  .rename_i c
   cases e1:ybV v vs with
   |none=>rw[e1]at e;cases e
   |some i=>
    rw[e1]at e
    cases e
    let⟨q1,q2⟩:=zfC r h l f.2 e1;refine⟨by simpa using q1,λm z hm hz=>?_⟩
    cases m with
    |zero=>
     simp at hz;subst hz;rw[hq];simpa using c
    |succ m=>exact q2 m z (Nat.lt_of_succ_lt_succ hm) (by simpa using hz)
def zkb(ha:PE X a (tE S X ca))(hb:PE X b (tE S X cb))(hs:starEach [b] X.env=(AB,eval b X.env)::starEach [] X.env:=by rfl)(hbase:attributeBase a "count" X.env (eval a X.env)=eval a X.env:=by rfl)(hline:(apos.endLine==pos.line)=true:=by rfl)(hany:(backTo pos (starEach [] X.env)).any (·.1)=false:=by rfl)
  (hfew:((backTo pos (starEach [b] X.env)).all (λx=>!x.1)&&(backToKw pos (keywordEach [] X.env)).all (λx=>x.1.isSome)&&decide (([b]:List AT).length+([]:List B8).length+(if ([]:List B8).isEmpty then 0 else 1)<30))=true:=by rfl):
  PE X (.Call (.Attribute a "count" apos) [b] [] pos) (tE S X (.mth .count ca (.cons cb .nil))):=
 (zkw Bm F8 PySem.F.type_list_count zjM ha (za9 (S:=S) hb zdL hs) hbase hfew hline hs hany).imp λσ H Q ⟨B,φ,st,ρ,rs,re,h⟩=>by
  erw[ev]at h;refine tE.bind rs re h λx H1 v st1 φ1 s1 rs1 re1 rv h1=>?_;let⟨_,e1,h1⟩:=zcI h1;obtain⟨ws,t1⟩:∃ws,yJ st1 v=AA ws:=by
   erw[yav]at e1
   cases q:yJ st1 v with
   |none=>rw[q]at e1;cases e1
   |some ws=>exact⟨ws,rfl⟩
  let⟨l,xs,rfl,hl,_⟩:=zbv rs1 rv t1;refine⟨.inl ⟨rfl,xs,hl⟩,tAs.bind rs1 re1 h1 λys H2 vs st2 φ2 s2 rs2 re2 rvs h2=>?_⟩;have rv2:=rv.step s2;rcases vs with _|⟨w,_|⟨w',t⟩⟩
  .exact h2.elim
  .let⟨y,rfl,rw⟩:=rvs.one;unfold ybU at h2;erw[yfw]at h2
   cases t2:yJ st2 v with
   |none=>rw[t2]at h2;exact h2.elim
   |some zs=>
    rw[t2]at h2;dsimp only at h2;split at h2
    .rename_i c;rw[AH]at c;let⟨l',xs',e',hl',lr⟩:=zbv rs2 rv2 t2
     cases e'
     let⟨q1,_⟩:=zbr rw c.1 lr c.2
     cases v with
     |loc n=>
      erw[yJ]at t2;split at t2
      .rename_i zs' hz
       cases t2
       let⟨l2,xs2,e2,hn,hx,lr2⟩:=rs2.list rv2 hz
       cases e2
       let⟨q1,_⟩:=zbr rw c.1 lr2 c.2;exact⟨l,xs2,y,rfl,rfl,hx,(rw.flat c.1).1,q1,h2.ok rs2 (by erw[yd];rw[zf1 rw c.1 lr2 c.2])⟩
      .cases t2
     |lst zs'=>
      cases t2
      erw[yd]at rv2;let⟨a',xs2,e2,⟨hx,_,_⟩,lr2⟩:=rv2
      cases e2
      let⟨q1,_⟩:=zbr rw c.1 lr2 c.2;exact⟨l,xs2,y,rfl,rfl,hx,(rw.flat c.1).1,q1,h2.ok rs2 (by erw[yd];rw[zf1 rw c.1 lr2 c.2])⟩
     |_=>cases t2
    .exact h2.elim
  .exact h2.elim
def zkp(ha:PE X a (tE S X ca))(hb:PE X b (tE S X cb))(hs:starEach [b] X.env=(AB,eval b X.env)::starEach [] X.env:=by rfl)(hbase:attributeBase a "index" X.env (eval a X.env)=eval a X.env:=by rfl)(hline:(apos.endLine==pos.line)=true:=by rfl)(hany:(backTo pos (starEach [] X.env)).any (·.1)=false:=by rfl)
  (hfew:((backTo pos (starEach [b] X.env)).all (λx=>!x.1)&&(backToKw pos (keywordEach [] X.env)).all (λx=>x.1.isSome)&&decide (([b]:List AT).length+([]:List B8).length+(if ([]:List B8).isEmpty then 0 else 1)<30))=true:=by rfl):
  PE X (.Call (.Attribute a "index" apos) [b] [] pos) (tE S X (.mth .index ca (.cons cb .nil))):=
 (zkw Bm F9 PySem.F.type_list_index zj4 ha (za9 (S:=S) hb zdL hs) hbase hfew hline hs hany).imp λσ H Q ⟨B,φ,st,ρ,rs,re,h⟩=>by
  erw[ev]at h;refine tE.bind rs re h λx H1 v st1 φ1 s1 rs1 re1 rv h1=>?_;let⟨_,e1,h1⟩:=zcI h1;obtain⟨ws,t1⟩:∃ws,yJ st1 v=AA ws:=by
   erw[yav]at e1
   cases q:yJ st1 v with
   |none=>rw[q]at e1;cases e1
   |some ws=>exact⟨ws,rfl⟩
  let⟨l,xs,rfl,hl,_⟩:=zbv rs1 rv t1;refine⟨.inl ⟨rfl,xs,hl⟩,tAs.bind rs1 re1 h1 λys H2 vs st2 φ2 s2 rs2 re2 rvs h2=>?_⟩;have rv2:=rv.step s2;rcases vs with _|⟨w,_|⟨w',t⟩⟩
  .exact h2.elim
  .let⟨y,rfl,rw⟩:=rvs.one;unfold ybU at h2;erw[ye9]at h2
   cases t2:yJ st2 v with
   |none=>rw[t2]at h2;exact h2.elim
   |some zs=>
    rw[t2]at h2;dsimp only at h2;split at h2
    .rename_i c;rw[AH]at c;split at h2
     .rename_i j hj
      cases v with
      |loc n=>
       erw[yJ]at t2;split at t2
       .rename_i zs' hz
        cases t2
        let⟨l2,xs2,e2,hn,hx,lr2⟩:=rs2.list rv2 hz
        cases e2
        let⟨q1,_⟩:=zbr rw c.1 lr2 c.2;let⟨q2,q3⟩:=zfC rw c.1 lr2 c.2 hj;exact⟨l,xs2,y,j,rfl,rfl,hx,(rw.flat c.1).1,q1,q2,q3,h2.ok rs2 (by erw[yd])⟩
       .cases t2
      |lst zs'=>
       cases t2
       erw[yd]at rv2;let⟨a',xs2,e2,⟨hx,_,_⟩,lr2⟩:=rv2
       cases e2
       let⟨q1,_⟩:=zbr rw c.1 lr2 c.2;let⟨q2,q3⟩:=zfC rw c.1 lr2 c.2 hj;exact⟨l,xs2,y,j,rfl,rfl,hx,(rw.flat c.1).1,q1,q2,q3,h2.ok rs2 (by erw[yd])⟩
      |_=>cases t2
     .exact h2.elim
    .exact h2.elim
  .exact h2.elim
end
section
variable {S:Se}{X:Cx}{σ:St}{B:AJ->Prop}{φ:Ph}{H:Hp}{st:SO}{p pos p2 px apos:CB}{a b c d o tg l:AT}{ca cb cc:Ce}{ct:Tg}{ss:List B9}{cs:Css}
def zjY(ha:PE X a (tE S X ca))(hbase:attributeBase a "clear" X.env (eval a X.env)=eval a X.env:=by rfl)(hline:(apos.endLine==pos.line)=true:=by rfl):PE X (.Call (.Attribute a "clear" apos) [] [] pos) (tE S X (.mth .clear ca .nil)):=
 (znO Bm F4 PySem.F.type_list_clear zj5 ha hbase hline).imp λσ H Q ⟨B,φ,st,ρ,rs,re,h⟩=>by
  erw[ev]at h;refine tE.bind rs re h λx H1 v st1 φ1 s1 rs1 re1 rv h1=>?_;let⟨_,e1,h1⟩:=zcI h1;erw[evs,R.bind,ybU]at h1
  cases v with
  |loc n=>
   erw[ye3]at h1;split at h1
   .rename_i zs hz;let⟨l',xs',e,hn,hx,lr⟩:=rs1.list rv hz;subst e;refine⟨.inl ⟨rfl,xs',.inl (.inl hx)⟩,l',xs',rfl,rfl,hx,?_⟩;exact h1 _ _ φ1 (.put (AW hn)) (rs1.put hn ⟨[],zm,by erw[ye]⟩) (by erw[yd])
   .exact h1.elim
  |_=>cases e1
end
end L2
namespace L2
open PySem PySem.Spec PyProof.Rows IC WK
inductive GK where
 |fn (i:Nat)|fnD (i:Nat)|cst (v:PV)|dct (D:List (AL×PV))|exc (c:Nat)|cls (c i:Nat)
structure Gs where
 g:AL->Option GK
 b:AL->Bool
 t:Ty->Bool
 fl:Nat->AL->Bool
 me:Nat->AL->Option Nat
 kb:Nat->Nat->List AL->Option (List (Option Int))
 mr:AL->Option (List (AL×Nat))
 fv:AL->Nat->Bool
 xk:Nat->Ty->Bool
 xc:Nat->AL->Bool
 xm:Nat->AL->Bool
 qf:Nat->Bool
structure Kx where
 N:List AL
 sc:BZ
 own:Bool
 h:Bool
def Fo(m:Nat)(S:Se)(X:Cx)(i:Nat)(f:AJ)(fd:Ao)(ps:List AL):Prop:=yaA X.prog X.w X.K X.mg X.base (CX1 X.prog X.w) m f fd ps (spI X.K S.cl S.call i)
def zo1{β:Type}{x:AL}{k:β}:∀{l:List (AL×β)},l.lookup x=AA k->(x,k)∈l
 |[],h=>nomatch h
 |y::l,h=>by
  rw[BU]at h
  cases hx:x==y.1 with
  |true=>rw[hx]at h;cases h;rw[eq_of_beq hx];exact A8
  |false=>rw[hx]at h;exact AQ _ (zo1 h)
structure Glo(γ:Gs)(m:Nat)(S:Se)(X:Cx):Prop where
 F:∀x i,γ.g x=AA (.fn i)->∃f fd ps,Fo m S X i f fd ps/\X.mg x=AA (.ref f)/\Ab X.K (.ref f)=AC/\Binds X.K fd ps []
 Q:∀x i np ks sh,γ.g x=AA (.fnD i)->γ.kb i np ks=AA sh->∃f fd ps,Fo m S X i f fd ps/\X.mg x=AA (.ref f)/\Ab X.K (.ref f)=AC/\∃g,ybn X.K fd ps ks g (gK np sh)
 C:∀x v,γ.g x=AA (.cst v)->GC X.K X.mg S.cl x v \/ ∃i,v=.int i/\GCI X.mg x i
 D:∀x d,γ.g x=AA (.dct d)->GD X.K X.w X.mg S.cl x d
 E:∀x c,γ.g x=AA (.exc c)->ycn X.K X.mg (S.cl c) x
 N:∀x c i,γ.g x=AA (.cls c i)->X.mg x=AA (.ref (S.cl c))/\∃f fd ps,Mk X.K (S.cl c) f/\Fo m S X i f fd ps/\Binds X.K fd ps []
 B:∀x,γ.b x=AC->X.mg x=AD
 T:∀t,γ.t t=AC->yec X.K t
 A:∀c f,γ.fl c f=AC->Cls X.K (S.cl c)/\yac X.K (S.cl c) f
 M:∀c n i,γ.me c n=AA i->Cls X.K (S.cl c)/\∃f fd ps,Meth X.K (S.cl c) n f/\Fo m S X i f fd ps/\Binds X.K fd ps []
 K:∀y D,γ.mr y=AA D->∃fa fdd ps,Makers S X m D fa fdd ps/\GDF X.K X.w X.mg fa y D
 V:∀x i,γ.g x=AA (.fn i)->γ.fv x i=AC->X.mg x=AA (.ref (S.cl (1000+i)))
 I:∀c t,γ.xk c t=AC->ybt X.K (S.cl c)/\ych X.K S.cl c t
 L:∀d x,γ.xc d x=AC->X.mg x=AA (.ref (S.cl d))
 H:∀c x,γ.xm c x=AC->∃W,X.mg x=AA (.ref W)/\EM X.K (.ref (S.cl c)) (.ref W)=AA AC
 Z:∀x i,γ.g x=AA (.fn i)->γ.qf i=AC->∃f fd ps,ybe X.prog X.w X.K X.mg X.base m f fd ps (spI X.K S.cl S.call i)/\X.mg x=AA (.ref f)/\Ab X.K (.ref f)=AC/\Binds X.K fd ps []
theorem Glo.mkr{γ:Gs}{m:Nat}{S:Se}{X:Cx}(G:Glo γ m S X){p:AL×Nat}{L:List (AL×Nat)}(h:∀q∈p::L,γ.g q.1=AA (.fn q.2)/\γ.fv q.1 q.2=AC):∃fdd ps,Makers S X m (p::L) (λj=>S.cl (1000+j)) fdd ps:=by
 have one:∀q∈p::L,∃z:Ao×List AL,Fo m S X q.2 (S.cl (1000+q.2)) z.1 z.2/\Ab X.K (.ref (S.cl (1000+q.2)))=AC/\Binds X.K z.1 z.2 []:=λq hq=>by
  let⟨f,fd,ps,h1,h2,h3,h4⟩:=G.F q.1 q.2 (h q hq).1;have e:=G.V q.1 q.2 (h q hq).1 (h q hq).2;rw[h2]at e
  cases e
  exact⟨(fd,ps),h1,h3,h4⟩
 have all:∀j,∃z:Ao×List AL,(∃s,(p::L).lookup s=AA j)->Fo m S X j (S.cl (1000+j)) z.1 z.2/\Ab X.K (.ref (S.cl (1000+j)))=AC/\Binds X.K z.1 z.2 []:=λj=>by
  by_cases hj:∃s,(p::L).lookup s=AA j
  .let⟨s,hs⟩:=hj;let⟨z,hz⟩:=one (s,j) (zo1 hs);exact⟨z,λ_=>hz⟩
  .let⟨z,_⟩:=one p A8;exact⟨z,λq=>absurd q hj⟩
 let⟨f,hf⟩:=Classical.skolem.1 all;exact⟨λj=>(f j).1,λj=>(f j).2,⟨λs j e=>(hf j ⟨s,e⟩).1,λs j e=>(hf j ⟨s,e⟩).2.1,λs j e=>(hf j ⟨s,e⟩).2.2⟩⟩
structure Good(γ:Gs)(κ:Kx)(m:Nat)(S:Se)(X:Cx):Prop where
 n:X.N=κ.N
 sc:X.env.scope=κ.sc
 calm:κ.h=AB->X.calm=AC
 room:yaa (m+1) X.A
 hd:κ.h=AB->X.A.handled=AD
 own:κ.own=AC->Eo (model X.prog X.w) X.A X.env X.xe/\(∀x,X.fn x=AC)/\S.may=AC
 top:κ.own=AC->(∃outer,X.stack=X.env::outer)/\X.ex=[]/\X.env.frame=AA X.env.locals
 glo:Glo γ m S X
theorem Good.rm{γ:Gs}{κ:Kx}{m:Nat}{S:Se}{X:Cx}(G:Good γ κ m S X)(h:κ.h=AB):yah (m+1) X.A:=⟨G.hd h,G.room.dp,G.room.un⟩
def zk9{k:Nat}{A:Ag}(r:yaa k A):A.units+1<cLine:=by have:=r.units;lia
abbrev Pr(P:Prop):Type:=Option (PLift P)
abbrev YE(γ:Gs)(κ:Kx)(e:AT)(c:Ce):Prop:=∀m S X,Good γ κ m S X->PE X e (tE S X c)
abbrev YT(γ:Gs)(κ:Kx)(e:AT)(c:Ce):Prop:=∀m S X,Good γ κ m S X->PT X e (tTs S X c)
abbrev YW(γ:Gs)(κ:Kx)(e:AT)(c:Ce):Prop:=∀m S X,Good γ κ m S X->PW X e (tTs S X c)
abbrev YA(γ:Gs)(κ:Kx)(e:List AT)(c:Ces):Prop:=∀m S X,Good γ κ m S X->PA X e (tAs S X c)
abbrev YO(γ:Gs)(κ:Kx)(e:Option AT)(c:Ce):Prop:=∀m S X,Good γ κ m S X->PO X e (tO S X c)
abbrev YS(γ:Gs)(κ:Kx)(s:B9)(c:Cs):Prop:=∀m S X,Good γ κ m S X->PS X s (tS S X c)
abbrev YSs(γ:Gs)(κ:Kx)(s:List B9)(c:Css):Prop:=∀m S X,Good γ κ m S X->PSs X s (tSs S X c)
def an{P Q:Prop}(a:Pr P)(k:P->Pr Q):Pr Q:=match a with
 |some h=>k h.down
 |none=>AD
def ok{P:Prop}(h:P):Pr P:=AA ⟨h⟩
def ask(p:Prop)[Decidable p]:Pr p:=if h:p then AA ⟨h⟩else AD
def nst:AT->Bool
 |.Starred _ _=>AB
 |_=>AC
def za7{a:AT}{es:List AT}{env:BG}(h:nst a=AC):starEach (a::es) env=(AB,eval a env)::starEach es env:=by
 cases a<;>first|rfl|cases h
def ybx(es:List AT):Bool:=es.all nst
theorem stars{pos:CB}{env:BG}:∀{es:List AT},ybx es=AC->(backTo pos (starEach es env)).any (·.1)=AB
 |[],_=>rfl
 |a::es,h=>by
  erw[ybx,BE,AH]at h;rw[za7 h.1];have:=stars (pos:=pos) (env:=env) (es:=es) h.2;simpa [backTo] using this
def nco:AT->Bool
 |.ListComp ..=>AB
 |.SetComp ..=>AB
 |.DictComp ..=>AB
 |_=>AC
theorem swp{a:AT}{t:Option AT}{l:Nat}{env:BG}(h:nco a=AC):swapsWith a t l env=pure false:=by
 cases a<;>first|rfl|cases h
def nse:AT->Bool
 |.Set ..=>AB
 |_=>AC
theorem fse{a:AT}{env:BG}(h:nse a=AC):∀x,foldedSetIterable a env x=pure x:=by
 cases a<;>first|exact λ_=>rfl|cases h
theorem nmk{op:Fw}{a:AT}(h:nse a=AC):behindInMarks op a=false:=by
 cases a<;>first|rfl|cases h
def nsl:AT->Bool
 |.Slice ..=>AB
 |_=>AC
theorem pix{a:AT}(h:nsl a=AC):ybh a:=by
 cases a<;>first|exact λ_ _=>rfl|cases h
theorem nos{a:AT}(h:nsl a=AC):ycS a:=pix h
def ntu:AT->Bool
 |.Tuple ..=>AB
 |_=>AC
def nte:AT->Bool
 |.UnaryOp ..=>AB
 |.BoolOp ..=>AB
 |.IfExp ..=>AB
 |.Compare ..=>AB
 |_=>AC
theorem itr{a:AT}{env:BG}(h:nte a=AC):∀whole,isTrue a env whole=(do let v <-whole;standAt a.pos;holding [v] (truthy v)):=by
 cases a<;>first|exact λ_=>rfl|cases h
def nca:AT->Bool
 |.Call ..=>AB
 |_=>AC
def zgw{a:AT}{f:AL}{env:BG}{w:Hh AG}(h:nca a=AC):attributeBase a f env w=w:=by
 cases a<;>first|rfl|cases h
def mOp(op:Da)(o:BOp):Pr (∀S X,OpR X (binaryOp op) (rT2 S X (yt o))):=
 match op,o with
 |.Add,.add=>ok (λ_ _=>zoV)
 |.Sub,.sub=>ok (λ_ _=>zoB)
 |.Mult,.mul=>ok (λ_ _=>znJ)
 |.FloorDiv,.fdiv=>ok (λ_ _=>zlx)
 |.Mod,.mod=>ok (λ_ _=>zol)
 |.Pow,.pow=>ok (λ_ _=>zoc)
 |.LShift,.shl=>ok (λ_ _=>znp)
 |.RShift,.shr=>ok (λ_ _=>znk)
 |.BitAnd,.band=>ok (λ_ _=>zlq)
 |.BitOr,.bor=>ok (λ_ _=>zpk)
 |.BitXor,.bxor=>ok (λ_ _=>zl2)
 |_,_=>AD
def mCm(op:Fw)(o:COp):Pr (∀m S X,yaa m X.A->OpR X (compareOp op) (rT2 S X (yw o))):=
 match op,o with
 |.Eq,.eq=>ok (λ_ _ _ r=>zpS r.units)
 |.NotEq,.ne=>ok (λ_ _ _ r=>zqh r.units)
 |.Lt,.lt=>ok (λ_ _ _ _=>zp2)
 |.LtE,.le=>ok (λ_ _ _ _=>zpV)
 |.Gt,.gt=>ok (λ_ _ _ _=>zp6)
 |.GtE,.ge=>ok (λ_ _ _ _=>zqb)
 |.In,.isin=>ok (λ_ _ _ _=>zp1)
 |_,_=>AD
def ydG(sc:BZ)(x:AL):Bool:=match sc.names.lookup x with
 |some .local=>AC
 |some .cell=>AC
 |some .free=>AC
 |_=>AB
def zfN{sc:BZ}{x:AL}(h:ydG sc x=AC):Vis sc x:=by
 unfold ydG at h;split at h
 .exact .inl ‹_›
 .exact .inr (.inl ‹_›)
 .exact .inr (.inr ‹_›)
 .cases h
def ydN(sc:BZ)(x:AL):Bool:=match sc.names.lookup x with
 |some .local=>AC
 |some .cell=>AC
 |_=>AB
def ziG{sc:BZ}{x:AL}(h:ydN sc x=AC):Loc sc x:=by
 unfold ydN at h;split at h
 .exact .inl ‹_›
 .exact .inr ‹_›
 .cases h
def pln(x:AL):Bool:=!(x==("__debug__":AL))&&!(x==("__classdict__":AL))&&!(x==("__name__":AL))
def zcX{x:AL}(h:pln x=AC):(x==("__debug__":AL))=false:=by
 erw[pln,AH,Bl]at h;exact h.1.1
def zjS{x:AL}(h:pln x=AC):(x==("__classdict__":AL))=false:=by
 erw[pln,AH,Bl]at h;exact h.1.2
def zmI{x:AL}(h:pln x=AC):x ≠ "__name__":=by
 erw[pln,AH,Bl]at h;intro e;rw[e]at h;exact absurd h.2 ⋯
def hf(κ:Kx){P:Prop}(f:κ.h=AB->Pr P):Pr P:=if h:κ.h=AB then f h else AD
def glB(κ:Kx)(x:AL):Bool:=decide (κ.sc.names.lookup x=AA .globalImplicit)&&pln x
def zK{γ:Gs}{κ:Kx}{m:Nat}{S:Se}{X:Cx}(G:Good γ κ m S X){x:AL}(h:glB κ x=AC):Gl X x:=by
 erw[glB,AH,decide_eq_true_eq]at h;show X.env.scope.names.lookup x=_;rw[G.sc];exact h.1
def zaU{κ:Kx}{x:AL}(h:glB κ x=AC):pln x=true:=by
 erw[glB,AH]at h;exact h.2
def setB(κ:Kx)(i:Nat)(x:AL):Bool:=decide (κ.N[i]?=AA x)&&decide κ.N.Nodup&&ydN κ.sc x&&(κ.own || decide (κ.sc.names.lookup x=AA .local))&&pln x
structure yd9(X:Cx)(i:Nat)(x:AL):Prop where
 d:X.N.Nodup
 i:X.N[i]?=AA x
 l:Loc X.env.scope x
 f:X.fn x=AC \/ X.env.scope.names.lookup x=AA .local
 p:pln x=AC
def zbp{γ:Gs}{κ:Kx}{m:Nat}{S:Se}{X:Cx}(G:Good γ κ m S X){i:Nat}{x:AL}(h:setB κ i x=AC):yd9 X i x:=by
 erw[setB,AH,CG,decide_eq_true_eq]at h;let⟨⟨⟨⟨h1,h2⟩,h3⟩,h4⟩,h5⟩:=h;refine⟨by rw[G.n];exact h2,by rw[G.n];exact h1,by rw[G.sc];exact ziG h3,?_,h5⟩;rcases h4 with h4|h4
 .exact .inl ((G.own h4).2.1 x)
 .exact .inr (by rw[G.sc];exact h4)
def gFn(γ:Gs)(x:AL)(i:Nat):Pr (γ.g x=AA (.fn i)):=match h:γ.g x with
 |some (.fn j)=>if e:j=i then AA ⟨by subst e;rfl⟩else AD
 |_=>AD
section
variable {γ:Gs}{κ:Kx}{ca cb cc:Ce}{ces:Ces}
def yfo(v:PV)(e:AT):Pr (YE γ κ e (.cst v)):=
 match e with
 |.Constant (.int i) _ _=>match v with
  |.int j=>an (ask (i=j)) λh=>ok (λ_ _ _ _=>by cases h;exact zkO)
  |_=>AD
 |.Constant (.bool i) _ _=>match v with
  |.bl j=>an (ask (i=j)) λh=>ok (λ_ _ _ _=>by cases h;exact zpL)
  |_=>AD
 |.Constant .none _ _=>match v with
  |.non=>ok (λ_ _ _ _=>zoE)
  |_=>AD
 |.Constant (.str i) _ _=>match v with
  |.str j=>an (ask (i=j)) λh=>ok (λ_ _ _ _=>by cases h;exact zoq)
  |_=>AD
 |_=>AD
def yfv(i:Nat)(e:AT):Pr (YE γ κ e (.var i)):=
 match e with
 |.Name x _=>an (ask (κ.N[i]?=AA x/\ydG κ.sc x=AC/\pln x=AC)) λh=>ok (λ_ _ _ G=>znX (by rw[G.n];exact h.1) (by rw[G.sc];exact zfN h.2.1) (zcX h.2.2) (zjS h.2.2))
 |_=>AD
def yfG(o:BOp)(e:AT)(fa:∀x,Pr (YE γ κ x ca))(fb:∀x,Pr (YE γ κ x cb)):Pr (YE γ κ e (.bin o ca cb)):=
 match e with
 |.BinOp a op b _=>
  an (mOp op o) λho=>an (fa a) λha=>an (fb b) λhb=>ok (λm S X G=>znK (ho S X) (ha m S X G) (hb m S X G))
 |_=>AD
def yg9(e:AT)(fa:∀x,Pr (YE γ κ x ca))(fb:∀x,Pr (YE γ κ x cb)):Pr (YE γ κ e (.rep ca cb)):=
 match e with
 |.BinOp a .Mult b _=>an (fa a) λha=>an (fb b) λhb=>ok (λm S X G=>zpg (ha m S X G) (hb m S X G))
 |_=>AD
def yhc(e:AT)(fa:∀x,Pr (YE γ κ x ca)):Pr (YE γ κ e (.neg ca)):=
 match e with
 |.UnaryOp .USub a _=>
  an (fa a) λha=>ok (λm S X G=>zkZ (ha m S X G))
 |_=>AD
def ygT(e:AT)(fa:∀x,Pr (YE γ κ x ca)):Pr (YE γ κ e (.not ca)):=
 match e with
 |.UnaryOp .Not a _=>
  an (fa a) λha=>ok (λm S X G=>zpb (ha m S X G))
 |_=>AD
def yf9(o:COp)(e:AT)(fa:∀x,Pr (YE γ κ x ca))(fb:∀x,Pr (YE γ κ x cb)):Pr (YE γ κ e (.cmp o ca cb)):=
 match e with
 |.Compare a [op] [b] _=>
  an (mCm op o) λho=>an (ask (nse b=AC)) λhs=>an (fa a) λha=>an (fb b) λhb=>ok (λm S X G=>zpw (ho _ S X G.room) (ha m S X G) (hb m S X G) (nmk hs))
 |_=>AD
def yex(o:COp)(e:AT)(fa:∀x,Pr (YE γ κ x ca))(fb:∀x,Pr (YE γ κ x cb)):Pr (YT γ κ e (.cmp o ca cb)):=
 match e with
 |.Compare a [op] [b] _=>
  an (mCm op o) λho=>an (ask (nse b=AC)) λhs=>an (fa a) λha=>an (fb b) λhb=>ok (λm S X G=>zoH (ho _ S X G.room) (ha m S X G) (hb m S X G) (nmk hs))
 |_=>AD
theorem lmk{op op':Fw}{b c:AT}(h:nse c=AC):lastMarks [op,op'] [b,c]=false:=nmk h
def yg0(o p:COp)(e:AT)(fa:∀x,Pr (YE γ κ x ca))(fb:∀x,Pr (YE γ κ x cb))(fc:∀x,Pr (YE γ κ x cc)):Pr (YE γ κ e (.chain o p ca cb cc)):=
 match e with
 |.Compare a [op,op'] [b,c] _=>
  an (mCm op o) λho=>an (mCm op' p) λhp=>an (ask (nse c=AC)) λhs=>an (fa a) λha=>an (fb b) λhb=>an (fc c) λhc=>ok (λm S X G=>zku (ho _ S X G.room) (hp _ S X G.room) (ha m S X G) (hb m S X G) (hc m S X G) (lmk hs))
 |_=>AD
def yeH(o p:COp)(e:AT)(fa:∀x,Pr (YE γ κ x ca))(fb:∀x,Pr (YE γ κ x cb))(fc:∀x,Pr (YE γ κ x cc)):Pr (YT γ κ e (.chain o p ca cb cc)):=
 match e with
 |.Compare a [op,op'] [b,c] _=>
  an (mCm op o) λho=>an (mCm op' p) λhp=>an (ask (nse c=AC)) λhs=>an (fa a) λha=>an (fb b) λhb=>an (fc c) λhc=>ok (λm S X G=>zjD (ho _ S X G.room) (hp _ S X G.room) (ha m S X G) (hb m S X G) (hc m S X G) (lmk hs))
 |_=>AD
def ygw(e:AT)(fc:∀x,Pr (YT γ κ x cc))(fa:∀x,Pr (YE γ κ x ca))(fb:∀x,Pr (YE γ κ x cb)):Pr (YE γ κ e (.ite cc ca cb)):=
 match e with
 |.IfExp c a b _=>
  an (fc c) λhc=>an (fa a) λha=>an (fb b) λhb=>ok (λm S X G=>zoX (hc m S X G) (ha m S X G) (hb m S X G))
 |_=>AD
def ygA(e:AT)(fa:∀x,Pr (YA γ κ x ces)):Pr (YE γ κ e (.tup ces)):=
 match e with
 |.Tuple es _ _=>
  an (fa es) λha=>ok (λm S X G=>zpx (ha m S X G))
 |_=>AD
def yhn(e:AT)(fa:∀x,Pr (YA γ κ x ces)):Pr (YE γ κ e (.lst ces)):=
 match e with
 |.List es _=>
  an (fa es) λha=>ok (λm S X G=>zoL (ha m S X G))
 |_=>AD
def yer(e:AT)(fa:∀x,Pr (YA γ κ x ces)):Pr (YE γ κ e (.newl ces)):=
 match e with
 |.List es _=>
  an (fa es) λha=>ok (λm S X G=>zmT (ha m S X G))
 |_=>AD
def yd8(t:Bool)(e:AT):Pr (YE γ κ e (.dict0 t)):=
 match t,e with
 |true,.Dict [] [] _=>ok (λ_ _ _ _=>ziK)
 |_,_=>AD
def mIdx(e:AT)(fa:∀x,Pr (YE γ κ x ca))(fb:∀x,Pr (YE γ κ x cb)):Pr (YE γ κ e (.idx ca cb)):=
 match e with
 |.Subscript a b _=>
  an (ask (nsl b=AC)) λhs=>an (fa a) λha=>an (fb b) λhb=>ok (λm S X G=>znz (ha m S X G) (hb m S X G) (pix hs))
 |_=>AD
def yfV(e:AT)(fa:∀x,Pr (YE γ κ x ca))(fb:∀x,Pr (YO γ κ x cb))(fc:∀x,Pr (YO γ κ x cc)):Pr (YE γ κ e (.slc ca cb cc)):=
 match e with
 |.Subscript a (.Slice l h AD _) _=>
  an (fa a) λha=>an (fb l) λhb=>an (fc h) λhc=>ok (λm S X G=>zph (ha m S X G) (hb m S X G) (hc m S X G))
 |_=>AD
def yfg(c:Ce)(e:Option AT)(fa:∀x,Pr (YE γ κ x c)):Pr (YO γ κ e c):=
 match e with
 |none=>match c with
  |.cst .non=>ok (λ_ _ _ _=>zmE)
  |_=>AD
 |some a=>
  an (fa a) λha=>ok (λm S X G=>zmX (ha m S X G))
inductive Fs(γ:Gs)(κ:Kx):Ces->Type where
 |nil:Fs γ κ .nil
 |cons {c:Ce} {cs:Ces} (f:∀x,Pr (YE γ κ x c)) (r:Fs γ κ cs):Fs γ κ (.cons c cs)
def yaC:{ces:Ces}->Fs γ κ ces->(es:List AT)->Pr (YA γ κ es ces)
 |_,.nil,[]=>ok λ_ _ _ _=>zdL
 |_,.cons f r,a::es=>an (ask (nst a=AC)) λhs=>an (f a) λha=>an (yaC r es) λhr=>ok λm S X G=>za9 (ha m S X G) (hr m S X G) (za7 hs)
 |_,_,_=>AD
structure Sp2(γ:Gs)(κ:Kx)(ces:Ces)(np:Nat) where
 c1:Ces
 c2:Ces
 f1:Fs γ κ c1
 f2:Fs γ κ c2
 h:yI c1 c2=ces
 l:ycO c1=np
def ycf:(np:Nat)->{ces:Ces}->Fs γ κ ces->Option (Sp2 γ κ ces np)
 |0,ces,F=>AA ⟨.nil,ces,.nil,F,rfl,rfl⟩
 |n+1,_,.cons f r=>match ycf n r with
  |some s=>AA ⟨.cons _ s.c1,s.c2,.cons f s.f1,s.f2,by rw[yI,s.h],by rw[ycO,s.l]⟩
  |none=>AD
 |_,_,_=>AD
structure It2(γ:Gs)(κ:Kx)(ces:Ces)(sh:List (Option Int))(kws:List B8) where
 it:List (Sum Ce Int)
 h:yg it=ces
 s:it.map shC=sh
 k:∀m S X,Good γ κ m S X->PK X kws (tK S X it)
def ybS:(sh:List (Option Int))->{ces:Ces}->Fs γ κ ces->(kws:List B8)->Option (It2 γ κ ces sh kws)
 |[],_,.nil,[]=>AA ⟨[],rfl,rfl,λ_ _ _ _=>zns⟩
 |none::sh,.cons c _,.cons f r,⟨_,e,_⟩ :: kws=>match f e,ybS sh r kws with
  |some h,AA q=>AA ⟨.inl c::q.it,by rw[yg,q.h],by rw[AU,q.s];rfl,λm S X G=>zpX (h.down m S X G) (q.k m S X G)⟩
  |_,_=>AD
 |some i::sh,.cons (.cst (.int j)) _,.cons _ r,kws=>if e:i=j then match ybS sh r kws with
  |some q=>AA ⟨.inr i::q.it,by rw[yg,q.h,e],by rw[AU,q.s];rfl,λm S X G=>zpZ (q.k m S X G)⟩
  |none=>AD
  else AD
 |_,_,_,_=>AD
def kwN:List B8->List AL
 |[]=>[]
 |⟨AA x,_,_⟩ :: r=>x::kwN r
 |_::r=>kwN r
def kwB:List B8->Bool
 |[]=>AC
 |⟨AA _,_,_⟩ :: r=>kwB r
 |_=>AB
def zoi{pos:CB}{env:BG}:∀{kws:List B8},kwB kws=AC->(backToKw pos (keywordEach kws env)).all (·.1.isSome)=AC/\(backToKw pos (keywordEach kws env)).filterMap (·.1)=kwN kws/\(backToKw pos (keywordEach kws env)).any (·.1.isNone)=AB
 |[],_=>⟨rfl,rfl,rfl⟩
 |⟨AA x,e,_⟩ :: r,h=>by
  let⟨h1,h2,h3⟩:=zoi (pos:=pos) (env:=env) (kws:=r) h;erw[backToKw]at h1 h2 h3 ⊢;erw[keywordEach,AU,BE,CS,Ax,h1,h2,h3,kwN];simp
def yhl(hκ:κ.h=AB)(i:Nat)(F:Fs γ κ ces)(e:AT):Pr (YE γ κ e (.call i ces)):=
 match e with
 |.Call (.Name x _) [] [] _=>match F with
  |.nil=>an (ask (glB κ x=AC)) λhg=>an (gFn γ x i) λhf=>ok λm S X G=>by
   let⟨f,fd,ps,h1,h2,h3,h4⟩:=G.glo.F x i hf;exact zjJ h1 ((G.rm hκ).mono (CK m)) (zK G hg) h2 h3 h4 (zcX (zaU hg))
  |_=>AD
 |.Call (.Name x _) (a::es) kws _=>an (ask (glB κ x=AC/\nst a=AC/\ybx es=AC)) λhg=>
  match hx:γ.g x with
  |some (.fn j)=>match kws with
   |[]=>an (ask (j=i)) λhj=>an (yaC F (a::es)) λha=>ok λm S X G=>by
    subst hj;let⟨f,fd,ps,h1,h2,h3,h4⟩:=G.glo.F x j hx;exact zmb h1 ((G.rm hκ).mono (CK m)) (zK G hg.1) h2 h3 h4 (ha m S X G) (zcX (zaU hg.1)) (za7 hg.2.1) (stars hg.2.2)
   |_=>AD
  |some (.fnD j)=>match hk:γ.kb j (es.length+1) (kwN kws)with
   |none=>AD
   |some sh=>match ycf (es.length+1) F with
    |none=>AD
    |some s=>match ybS sh s.f2 kws with
     |none=>AD
     |some q=>an (ask (kwB kws=AC/\j=i)) λhw=>an (yaC s.f1 (a::es)) λha=>ok λm S X G=>by
      let⟨hw,rfl⟩:=hw;let⟨f,fd,ps,h1,h2,h3,h4⟩:=G.glo.Q x j _ _ sh hx hk;rw[<-s.h,<-q.h];rw[<-q.s]at h4;have w:=λ{pos}=>zoi (pos:=pos) (env:=X.env) hw;exact zkq h1 ((G.rm hκ).mono (CK m)) (zK G hg.1) h2 h3 h4 s.l (ha m S X G) (q.k m S X G) w.1 w.2.1 (zcX (zaU hg.1)) (za7 hg.2.1) (by
       rw[w.2.2,Hj];exact stars (es:=a::es) (by erw[ybx,BE,hg.2.1,Cv];exact hg.2.2))
  |_=>AD
 |_=>AD
abbrev yed(b:Blt)(x:AL):Prop:=∀S X,X.calm=AC->(∃id,yQ X (.builtin id) (rB S X b)/\bootBuiltins x=AA (.builtin id)) \/ ∃T,yQ X (.type T) (rB S X b)/\bootBuiltins x=AA (.type T)
def yf0(b:Blt)(x:AL):Pr (yed b x):=
 match b with
 |.len=>an (ask (x="len")) λh=>ok λ_ _ _=>.inl ⟨_,zoN,h ▸ zpI⟩
 |.int=>an (ask (x="int")) λh=>ok λ_ _ _=>.inr ⟨_,zoS,h ▸ zkS⟩
 |.abs=>an (ask (x="abs")) λh=>ok λ_ _ _=>.inl ⟨_,zn5,h ▸ znC⟩
 |.max=>an (ask (x="max")) λh=>ok λ_ _ c=>.inl ⟨_,zoM c,h ▸ zop⟩
 |.tuple=>an (ask (x="tuple")) λh=>ok λ_ _ _=>.inr ⟨_,zjZ,h ▸ zgg⟩
 |.all=>an (ask (x="all")) λh=>ok λ_ _ c=>.inl ⟨_,zpn c,h ▸ zps⟩
 |.any=>an (ask (x="any")) λh=>ok λ_ _ c=>.inl ⟨_,zn6 c,h ▸ zoR⟩
 |_=>AD
def yfM(b:Blt)(F:Fs γ κ ces)(e:AT):Pr (YE γ κ e (.blt b ces)):=
 match e with
 |.Call (.Name x _) (a::es) [] _=>hf κ λhκ=>an (ask (glB κ x=AC/\nst a=AC/\ybx es=AC/\γ.b x=AC)) λhg=>an (yf0 b x) λhb=>an (yaC F (a::es)) λha=>ok λm S X G=>by
  rcases hb S X (G.calm hκ)with⟨id,h1,h2⟩|⟨T,h1,h2⟩
  .exact znH h1 (zK G hg.1) (G.glo.B x hg.2.2.2) h2 (ha m S X G) (zmI (zaU hg.1)) (zcX (zaU hg.1)) (za7 hg.2.1) (stars hg.2.2.1)
  .exact zlp h1 (zK G hg.1) (G.glo.B x hg.2.2.2) h2 (ha m S X G) (zmI (zaU hg.1)) (zcX (zaU hg.1)) (za7 hg.2.1) (stars hg.2.2.1)
 |_=>AD
def ygx(b:Blt)(F:Fs γ κ ces)(e:AT):Pr (YE γ κ e (.blt b ces)):=
 match b with
 |b=>yfM b F e
def tyB(t:Ty)(x:AL):Pr (ydC t=AC/\bootBuiltins x=AA (.type (tyN t))):=
 match t with
 |.int=>an (ask (x="int")) λh=>ok ⟨rfl,h ▸ zkS⟩
 |.bool=>an (ask (x="bool")) λh=>ok ⟨rfl,h ▸ zlN⟩
 |.str=>an (ask (x="str")) λh=>ok ⟨rfl,h ▸ zpH⟩
 |.tuple=>an (ask (x="tuple")) λh=>ok ⟨rfl,h ▸ zgg⟩
 |_=>AD
def ygL(ts:List Ty)(e:AT)(fa:∀x,Pr (YE γ κ x ca)):Pr (YE γ κ e (.isi ca ts)):=
 match ts,e with
 |[t],.Call (.Name n _) [a,.Name x _] [] _=>an (ask (n="isinstance"/\glB κ n=AC/\γ.b n=AC/\glB κ x=AC/\γ.b x=AC/\γ.t t=AC/\nst a=AC)) λh=>an (tyB t x) λht=>an (fa a) λha=>ok λm S X G=>by
  let⟨rfl,h1,h2,h3,h4,h5,h6⟩:=h;exact znL (G.glo.T t h5) ht.1 (zK G h1) (G.glo.B _ h2) (zK G h3) (G.glo.B _ h4) ht.2 (ha m S X G) (zmI (zaU h3)) (zcX (zaU h3)) (za7 h6) rfl
 |_,_=>AD
mutual
noncomputable def yeU:(a b:PV)->Pr (a=b)
 |.non,.non=>ok rfl
 |.bl a,.bl b=>an (ask (a=b)) λh=>ok (by rw[h])
 |.int a,.int b=>an (ask (a=b)) λh=>ok (by rw[h])
 |.str a,.str b=>an (ask (a=b)) λh=>ok (by rw[h])
 |.tp k a,.tp j b=>an (ask (k=j)) λh=>an (ycr a b) λg=>ok (by rw[h,g])
 |.lst a,.lst b=>an (ycr a b) λg=>ok (by rw[g])
 |_,_=>AD
noncomputable def ycr:(a b:List PV)->Pr (a=b)
 |[],[]=>ok rfl
 |a::x,b::y=>an (yeU a b) λh=>an (ycr x y) λg=>ok (by rw[h,g])
 |_,_=>AD
end
def eqD:(a b:List (AL×PV))->Pr (a=b)
 |[],[]=>ok rfl
 |(k,a)::x,(j,b)::y=>an (ask (k=j)) λe=>an (yeU a b) λh=>an (eqD x y) λg=>ok (by rw[e,h,g])
 |_,_=>AD
def yfS(v:PV)(e:AT):Pr (YE γ κ e (.cst v)):=
 match e with
 |.Name x _=>match h:γ.g x with
  |some (.cst u)=>an (ask (glB κ x=AC)) λhg=>an (yeU u v) λhv=>ok λm S X G=>by
   subst hv;rcases G.glo.C x u h with q|⟨i,rfl,q⟩
   .exact zp7 (zK G hg) q (zcX (zaU hg))
   .exact zn9 (zK G hg) q (zcX (zaU hg))
  |some (.fn i)=>match v with
   |.fnc j=>an (ask (glB κ x=AC/\γ.fv x i=AC/\i=j)) λhg=>ok λm S X G=>by
    let⟨h1,h2,rfl⟩:=hg;exact zim (zK G h1) (G.glo.V x i h h2) (λB φ H=>by erw[yd]) (zcX (zaU h1))
   |_=>AD
  |_=>AD
 |e=>yfo v e
def yfr(γ:Gs):(L:List (AL×Nat))->Pr (∀q∈L,γ.g q.1=AA (.fn q.2)/\γ.fv q.1 q.2=AC)
 |[]=>ok λq h=>nomatch h
 |p::L=>an (gFn γ p.1 p.2) λh=>an (ask (γ.fv p.1 p.2=AC)) λh1=>an (yfr γ L) λh2=>ok λq hq=>by
  rcases AX.1 hq with rfl|hq
  .exact⟨h,h1⟩
  .exact h2 q hq
def ygU(hκ:κ.h=AB)(i:Nat)(F:Fs γ κ ces)(e:AT):(L:List (AL×Nat))->Pr (YE γ κ e (.cav i L ces))
 |[]=>AD
 |p::L=>match e with
  |.Call (.Name x _) (a::es) [] _=>an (ask (κ.N[i]?=AA x/\ydG κ.sc x=AC/\pln x=AC/\nst a=AC/\ybx es=AC)) λhg=>an (yfr γ (p::L)) λhl=>an (yaC F (a::es)) λha=>ok λm S X G=>by
   let⟨fdd,ps,M⟩:=G.glo.mkr hl;exact zoK M ((G.rm hκ).mono (CK m)) (by rw[G.n];exact hg.1) (by rw[G.sc];exact zfN hg.2.1) (ha m S X G) (zcX hg.2.2.1) (zjS hg.2.2.1) (za7 hg.2.2.2.1) (stars hg.2.2.2.2)
  |_=>AD
def yfP(D:List (AL×PV))(e:AT)(fb:∀x,Pr (YE γ κ x cb)):Pr (YE γ κ e (.dix D cb)):=
 match e with
 |.Subscript (.Name x _) b _=>match h:γ.g x with
  |some (.dct E)=>an (ask (glB κ x=AC/\nsl b=AC)) λhg=>an (eqD E D) λhv=>an (fb b) λhb=>ok λm S X G=>by
   subst hv;exact zpl (zK G hg.1) (G.glo.D x E h) (hb m S X G) (nos hg.2) (zcX (zaU hg.1))
  |_=>AD
 |_=>AD
def yf2(D:List (AL×PV))(e:AT)(fa:∀x,Pr (YE γ κ x ca)):Pr (YE γ κ e (.din ca D)):=
 match e with
 |.Compare a [.In] [.Name x _] _=>match h:γ.g x with
  |some (.dct E)=>an (ask (glB κ x=AC)) λhg=>an (eqD E D) λhv=>an (fa a) λha=>ok λm S X G=>by
   subst hv;exact zo0 (zK G hg) (G.glo.D x E h) (ha m S X G) rfl (zcX (zaU hg))
  |_=>AD
 |_=>AD
def zo8{pos:CB}{env:BG}:∀{es:List AT},ybx es=AC->((backTo pos (starEach es env)).all λx=>!x.1)=AC
 |[],_=>rfl
 |a::es,h=>by
  erw[ybx,BE,AH]at h;have:=zo8 (pos:=pos) (env:=env) (es:=es) h.2;erw[backTo]at this ⊢;rw[za7 h.1,AU,BE,this];rfl
def zk8{o:AT}{n:AL}{ap pos:CB}{es:List AT}{env:BG}(hb:nca o=AC)(hs:ybx es=AC)(hn:es.length<30)(hl:(ap.endLine==pos.line)=AC):
  eval (.Call (.Attribute o n ap) es [] pos) env=(do
   let ov <-eval o env
   standAt ap.atName
   let (f,first) <-holding [ov] (getMethod ov n (do return (<-importBound o env).getD AC))
   callWith pos f first (backTo pos (starEach es env)) (backToKw pos (keywordEach [] env))):=by
 have hf:methodCallForm (es.length+([]:List B8).length) (backTo pos (starEach es env)) (backToKw pos (keywordEach [] env))=true:=by
  erw[methodCallForm,zo8 hs,Cv];simp[backToKw,keywordEach,hn]
 rw[arm_eval_Call,zgw hb];erw[methodCall,calleeOf,methodCallPos,hf,hl,if_true,Bool.not_true,IG,pure_bind]
def ygY(c:Nat)(f:AL)(e:AT)(fa:∀x,Pr (YE γ κ x ca)):Pr (YE γ κ e (.fld c ca f)):=
 match e with
 |.Attribute a g _=>an (ask (g=f/\γ.fl c f=AC/\nca a=AC)) λh=>an (fa a) λha=>ok λm S X G=>by
  let⟨rfl,h1,h2⟩:=h;exact zoY (G.glo.A c g h1).1 (G.glo.A c g h1).2 (ha m S X G) (zgw h2)
 |_=>AD
def ygH(hκ:κ.h=AB)(c i:Nat)(F:Fs γ κ ces)(e:AT):Pr (YE γ κ e (.new c i ces)):=
 match e with
 |.Call (.Name x _) (a::es) [] _=>match h:γ.g x with
  |some (.cls c' i')=>an (ask (c'=c/\i'=i/\glB κ x=AC/\nst a=AC/\ybx es=AC)) λhg=>an (yaC F (a::es)) λha=>ok λm S X G=>by
   let⟨rfl,rfl,h1,h2,h3⟩:=hg;let⟨q,f,fd,ps,q1,q2,q3⟩:=G.glo.N x c' i' h;exact zpG q1 q2 (G.rm hκ) (zK G h1) q q3 (ha m S X G) (zcX (zaU h1)) (za7 h2) (stars h3)
  |_=>AD
 |_=>AD
def ygP(hκ:κ.h=AB)(c i:Nat)(n:AL)(F:Fs γ κ ces)(e:AT)(fa:∀x,Pr (YE γ κ x ca)):Pr (YE γ κ e (.mcl c i n ca ces)):=
 match e with
 |.Call (.Attribute (.Name x p) n' ap) [] [] pos=>match F with
  |.nil=>an (ask (n'=n/\γ.me c n=AA i/\(ap.endLine==pos.line)=AC)) λh=>an (fa (.Name x p)) λho=>ok λm S X G=>by
   let⟨rfl,h1,h4⟩:=h;let⟨q,f,fd,ps,q1,q2,q3⟩:=G.glo.M c n' i h1;exact zlo q q1 q2 ((G.rm hκ).mono (CK m)) q3 (ho m S X G) (zk8 rfl rfl (Nat.zero_lt_succ _) h4)
  |_=>AD
 |.Call (.Attribute (.Name x p) n' ap) (a::es) [] pos=>an (ask (n'=n/\γ.me c n=AA i/\nst a=AC/\ybx es=AC/\(ap.endLine==pos.line)=AC/\(a::es).length<30)) λh=>an (fa (.Name x p)) λho=>an (yaC F (a::es)) λha=>ok λm S X G=>by
  let⟨rfl,h1,h2,h3,h4,h5⟩:=h;let⟨q,f,fd,ps,q1,q2,q3⟩:=G.glo.M c n' i h1;exact znP q q1 q2 ((G.rm hκ).mono (CK m)) q3 (ho m S X G) (ha m S X G) (za7 h2) (stars h3) (zk8 rfl (by erw[ybx,BE,h2,Cv];exact h3) h5 h4)
 |_=>AD
def zm5{pos:CB}{env:BG}{b:AT}(h:nst b=AC):((backTo pos (starEach [b] env)).all (λx=>!x.1)&&(backToKw pos (keywordEach [] env)).all (λx=>x.1.isSome)&&decide (([b]:List AT).length+([]:List B8).length+(if ([]:List B8).isEmpty then 0 else 1)<30))=true:=by
 rw[za7 h];rfl
def ygE(k:Mth)(F:Fs γ κ ces)(e:AT)(fa:∀x,Pr (YE γ κ x ca)):Pr (YE γ κ e (.mth k ca ces)):=
 match k,e,F with
 |.append,.Call (.Attribute a n ap) [b] [] pos,.cons fb .nil=>an (ask (n="append"/\nca a=AC/\nst b=AC/\(ap.endLine==pos.line)=AC)) λh=>an (fa a) λha=>an (fb b) λhb=>ok λm S X G=>by
  let⟨rfl,h1,h2,h3⟩:=h;exact zhC (ha m S X G) (hb m S X G) (za7 h2) (zgw h1) h3 (zm5 h2)
 |.get,.Call (.Attribute a n ap) [b,c] [] pos,.cons fb (.cons fc .nil)=>an (ask (n="get"/\nca a=AC/\nst b=AC/\nst c=AC/\(ap.endLine==pos.line)=AC)) λh=>an (fa a) λha=>an (fb b) λhb=>an (fc c) λhc=>ok λm S X G=>by
  let⟨rfl,h1,h2,h4,h3⟩:=h;exact znr (zk9 G.room) (ha m S X G) (hb m S X G) (hc m S X G) ⟨zgw h1,by rw[za7 h2,za7 h4];rfl,h3,by rw[za7 h2,za7 h4];rfl⟩
 |.insert,.Call (.Attribute a n ap) [b,c] [] pos,.cons fb (.cons fc .nil)=>an (ask (n="insert"/\nca a=AC/\nst b=AC/\nst c=AC/\(ap.endLine==pos.line)=AC)) λh=>an (fa a) λha=>an (fb b) λhb=>an (fc c) λhc=>ok λm S X G=>by
  let⟨rfl,h1,h2,h4,h3⟩:=h;exact zhG (ha m S X G) (hb m S X G) (hc m S X G) (by rw[za7 h2,za7 h4];rfl) (by rw[za7 h4];rfl) (zgw h1) h3 (by rw[za7 h4];rfl) (by rw[za7 h2,za7 h4];rfl)
 |.clear,.Call (.Attribute a n ap) [] [] pos,.nil=>an (ask (n="clear"/\nca a=AC/\(ap.endLine==pos.line)=AC)) λh=>an (fa a) λha=>ok λm S X G=>by
  let⟨rfl,h1,h3⟩:=h;exact zjY (ha m S X G) (zgw h1) h3
 |.count,.Call (.Attribute a n ap) [b] [] pos,.cons fb .nil=>an (ask (n="count"/\nca a=AC/\nst b=AC/\(ap.endLine==pos.line)=AC)) λh=>an (fa a) λha=>an (fb b) λhb=>ok λm S X G=>by
  let⟨rfl,h1,h2,h3⟩:=h;exact zkb (ha m S X G) (hb m S X G) (za7 h2) (zgw h1) h3 rfl (zm5 h2)
 |.index,.Call (.Attribute a n ap) [b] [] pos,.cons fb .nil=>an (ask (n="index"/\nca a=AC/\nst b=AC/\(ap.endLine==pos.line)=AC)) λh=>an (fa a) λha=>an (fb b) λhb=>ok λm S X G=>by
  let⟨rfl,h1,h2,h3⟩:=h;exact zkp (ha m S X G) (hb m S X G) (za7 h2) (zgw h1) h3 rfl (zm5 h2)
 |_,_,_=>AD
def ygW(e:AT)(fa:∀x,Pr (YE γ κ x ca))(fb:∀x,Pr (YE γ κ x cb)):Pr (YE γ κ e (.nin ca cb)):=
 match e with
 |.Compare a [.NotIn] [b] _=>an (ask (behindInMarks .NotIn b=AB)) λh=>an (fa a) λha=>an (fb b) λhb=>ok λm S X G=>znl G.room.units (ha m S X G) (hb m S X G) h
 |_=>AD
def yeE(e:AT)(fa:∀x,Pr (YE γ κ x ca))(fb:∀x,Pr (YE γ κ x cb)):Pr (YT γ κ e (.nin ca cb)):=
 match e with
 |.Compare a [.NotIn] [b] _=>an (ask (behindInMarks .NotIn b=AB)) λh=>an (fa a) λha=>an (fb b) λhb=>ok λm S X G=>zoJ G.room.units (ha m S X G) (hb m S X G) h
 |_=>AD
def ygf(e:AT)(fa:∀x,Pr (YE γ κ x ca))(fb:∀x,Pr (YE γ κ x cb)):Pr (YE γ κ e (.inn ca cb)):=
 match e with
 |.Compare a [.In] [b] _=>an (ask (behindInMarks .In b=AB)) λh=>an (fa a) λha=>an (fb b) λhb=>ok λm S X G=>znA G.room.units (ha m S X G) (hb m S X G) h
 |_=>AD
def yeY(e:AT)(fa:∀x,Pr (YE γ κ x ca))(fb:∀x,Pr (YE γ κ x cb)):Pr (YT γ κ e (.inn ca cb)):=
 match e with
 |.Compare a [.In] [b] _=>an (ask (behindInMarks .In b=AB)) λh=>an (fa a) λha=>an (fb b) λhb=>ok λm S X G=>zno G.room.units (ha m S X G) (hb m S X G) h
 |_=>AD
def mCn(t:Ty)(e:AT):Pr (∀m S X,Good γ κ m S X->PE X e (tC (ybL S.cl t))):=
 match t,e with
 |.cls d,.Name y _=>an (ask (γ.xc d y=AC/\glB κ y=AC)) λh=>ok λm S X G=>zpe (zK G h.2) (G.glo.L d y h.1) (zcX (zaU h.2))
 |.val,.Name y _=>an (ask (y="ValueError"/\γ.b y=AC/\glB κ y=AC)) λh=>ok λm S X G=>by
  let⟨rfl,h1,h2⟩:=h;exact zoW (zK G h2) (G.glo.B _ h1)
 |_,_=>AD
def mNs:(ts:List Ty)->(es:List AT)->Pr (∀m S X,Good γ κ m S X->PA X es (tNs (ts.map (ybL S.cl))))
 |[],[]=>ok λ_ _ _ _=>znQ
 |t::ts,e::es=>an (ask (nst e=AC)) λh=>an (mCn t e) λhe=>an (mNs ts es) λhr=>ok λm S X G=>zlJ (he m S X G) (hr m S X G) (za7 h)
 |_,_=>AD
def xkB(γ:Gs)(cs:List Nat)(ts:List Ty):Bool:=cs.all λc=>ts.all λt=>γ.xk c t
def zkR{γ:Gs}{m:Nat}{S:Se}{X:Cx}(G:Glo γ m S X){cs:List Nat}{ts:List Ty}(h:xkB γ cs ts=AC)(hn:ts≠[]):∀c∈cs,ybt X.K (S.cl c)/\∀t∈ts,ych X.K S.cl c t:=λc hc=>by
 erw[xkB,A9]at h;refine⟨?_,λt ht=>(G.I c t (h c hc t ht)).2⟩
 cases ts with
 |nil=>exact absurd rfl hn
 |cons t ts=>exact(G.I c t (h c hc t A8)).1
def yf5(cs:List Nat)(ts:List Ty)(e:AT)(fa:∀x,Pr (YE γ κ x ca)):Pr (YE γ κ e (.isx ca cs ts)):=
 match e with
 |.Call (.Name x _) [a,.Tuple es _ _] [] _=>an (ask (x="isinstance"/\glB κ x=AC/\γ.b x=AC/\nst a=AC/\xkB γ cs ts=AC/\ts.length<=1000/\ts≠[])) λh=>an (fa a) λha=>an (mNs (γ:=γ) (κ:=κ) ts es) λhn=>ok λm S X G=>by
  let⟨rfl,h1,h2,h3,h4,h5,h6⟩:=h;exact zm6 (zkR G.glo h4 h6) h5 (zK G h1) (G.glo.B _ h2) (hn m S X G) (ha m S X G) (za7 h3) rfl rfl
 |.Call (.Name x _) [a,.Name y py] [] _=>match ts with
  |[t]=>an (ask (x="isinstance"/\glB κ x=AC/\γ.b x=AC/\nst a=AC/\xkB γ cs [t]=AC)) λh=>an (fa a) λha=>an (mCn (γ:=γ) (κ:=κ) t (.Name y py)) λhn=>ok λm S X G=>by
   let⟨rfl,h1,h2,h3,h4⟩:=h;exact zoO (λc hc=>let z:=zkR G.glo h4 (by simp) c hc;⟨z.1,z.2 t A8⟩) (zK G h1) (G.glo.B _ h2) (hn m S X G) (ha m S X G) (za7 h3) rfl rfl
  |_=>AD
 |_=>AD
def ygo(i:Nat)(F:Fs γ κ ces)(e:AT):Pr (YE γ κ e (.qcl i ces)):=
 match e with
 |.Call (.Name x _) (a::es) [] _=>an (ask (glB κ x=AC/\nst a=AC/\ybx es=AC/\γ.qf i=AC)) λhg=>an (gFn γ x i) λhx=>an (yaC F (a::es)) λha=>ok λm S X G=>by
  let⟨f,fd,ps,h1,h2,h3,h4⟩:=G.glo.Z x i hx hg.2.2.2;exact zjx h1 (G.room.mono (CK m)) (zK G hg.1) h2 h3 h4 (ha m S X G) (zcX (zaU hg.1)) (za7 hg.2.1) (stars hg.2.2.1)
 |_=>AD
def mJ:(ces:Ces)->Fs γ κ ces->(es:List AT)->Pr (∀m S X,Good γ κ m S X->PJ X es (tJ S X ces))
 |.nil,_,[]=>ok λ_ _ _ _=>zni
 |.cons (.cst (.str y)) cs,.cons _ r,.Constant (.str z) _ _::es=>an (ask (z=y)) λhz=>an (mJ cs r es) λhr=>ok λm S X G=>by
  subst hz;exact ziB zog (hr m S X G)
 |.cons _ cs,.cons f r,.FormattedValue e k AD _::es=>an (ask (k=-1)) λhk=>an (f e) λh=>an (mJ cs r es) λhr=>ok λm S X G=>by
  subst hk;exact ziB (zoQ (h m S X G)) (hr m S X G)
 |_,_,_=>AD
def yhs(F:Fs γ κ ces)(e:AT):Pr (YE γ κ e (.fst ces)):=
 match e with
 |.JoinedStr (v1::v2::rest) _=>an (mJ ces F (v1::v2::rest)) λh=>ok λm S X G=>znR (h m S X G)
 |_=>AD
end
structure Ev(γ:Gs)(c:Ce) where
 e:∀κ x,Pr (YE γ κ x c)
 t:∀κ x,Pr (YT γ κ x c)
 w:∀κ op l pos,Pr (YW γ κ (.BoolOp op l pos) c)
section
variable {γ:Gs}{ca cb cc:Ce}
def w1{c:Ce}(t:∀κ x,Pr (YT γ κ x c))(κ:Kx)(op:ID)(l:List AT)(pos:CB):Pr (YW γ κ (.BoolOp op l pos) c):=
 match op,l with
 |.And,[a]=>an (t κ a) λh=>ok λm S X G=>zlS (h m S X G)
 |.Or,[a]=>an (t κ a) λh=>ok λm S X G=>znt (h m S X G)
 |_,_=>AD
def plT{c:Ce}(e:∀κ x,Pr (YE γ κ x c))(κ:Kx)(x:AT):Pr (YT γ κ x c):=an (ask (nte x=AC)) λh=>an (e κ x) λhe=>ok λm S X G=>zpF (he m S X G) (itr h)
def plain{c:Ce}(e:∀κ x,Pr (YE γ κ x c)):Ev γ c:=⟨e,plT e,w1 (plT e)⟩
def ybM{c:Ce}(e:∀κ x,Pr (YE γ κ x c))(t:∀κ x,Pr (YT γ κ x c)):Ev γ c:=⟨e,t,w1 t⟩
def yfO(A:Ev γ ca)(κ:Kx)(e:AT):Pr (YT γ κ e (.not ca)):=
 match e with
 |.UnaryOp .Not a _=>an (A.t κ a) λh=>ok λm S X G=>zox (h m S X G)
 |_=>AD
def ygV(A:Ev γ ca)(B:Ev γ cb)(κ:Kx)(e:AT):Pr (YE γ κ e (.and ca cb)):=
 match e with
 |.BoolOp .And (a::b::[]) _=>an (A.e κ a) λha=>an (B.e κ b) λhb=>ok λm S X G=>zkT (ha m S X G) (zkC (hb m S X G))
 |.BoolOp .And (a::b::c::r) p=>an (A.e κ a) λha=>an (B.e κ (.BoolOp .And (b::c::r) p)) λhb=>ok λm S X G=>zkT (ha m S X G) (hb m S X G)
 |_=>AD
def orE(A:Ev γ ca)(B:Ev γ cb)(κ:Kx)(e:AT):Pr (YE γ κ e (.or ca cb)):=
 match e with
 |.BoolOp .Or (a::b::[]) _=>an (A.e κ a) λha=>an (B.e κ b) λhb=>ok λm S X G=>zpc (ha m S X G) (zkC (hb m S X G))
 |.BoolOp .Or (a::b::c::r) p=>an (A.e κ a) λha=>an (B.e κ (.BoolOp .Or (b::c::r) p)) λhb=>ok λm S X G=>zpc (ha m S X G) (hb m S X G)
 |_=>AD
def yeN(A:Ev γ ca)(B:Ev γ cb)(κ:Kx)(op:ID)(l:List AT)(pos:CB):Pr (YW γ κ (.BoolOp op l pos) (.and ca cb)):=
 match op,l with
 |.And,a::b::r=>an (A.t κ a) λha=>an (B.w κ .And (b::r) pos) λhb=>ok λm S X G=>znN (ha m S X G) (hb m S X G)
 |_,_=>AD
def orW(A:Ev γ ca)(B:Ev γ cb)(κ:Kx)(op:ID)(l:List AT)(pos:CB):Pr (YW γ κ (.BoolOp op l pos) (.or ca cb)):=
 match op,l with
 |.Or,a::b::r=>an (A.t κ a) λha=>an (B.w κ .Or (b::r) pos) λhb=>ok λm S X G=>zqj (ha m S X G) (hb m S X G)
 |_,_=>AD
def ptW{c:Ce}(w:∀κ op l pos,Pr (YW γ κ (.BoolOp op l pos) c))(κ:Kx)(e:AT):Pr (YT γ κ e c):=
 match e with
 |.BoolOp op l p=>an (w κ op l p) λh=>ok λm S X G=>PW.pt (h m S X G)
 |_=>AD
def yfc{c:Ce}(t:∀κ x,Pr (YT γ κ x c))(w:∀κ op l pos,Pr (YW γ κ (.BoolOp op l pos) c))(κ:Kx)(op:ID)(l:List AT)(pos:CB):Pr (YW γ κ (.BoolOp op l pos) c):=
 match l with
 |[a]=>w1 t κ op [a] pos
 |l=>w κ op l pos
def yej(A:Ev γ ca)(B:Ev γ cb):Ev γ (.and ca cb):=⟨ygV A B,ptW (yeN A B),yfc (ptW (yeN A B)) (yeN A B)⟩
def ygB(A:Ev γ ca)(B:Ev γ cb):Ev γ (.or ca cb):=⟨orE A B,ptW (orW A B),yfc (ptW (orW A B)) (orW A B)⟩
end
abbrev YI(γ:Gs)(κ:Kx)(tg l:AT)(c:Cit):Prop:=∀m S X,Good γ κ m S X->PI X tg l (tI S X c)
abbrev YG(γ:Gs)(κ:Kx)(tg:AT)(c:Tg):Prop:=∀m S X,Good γ κ m S X->PG X tg (tG S X c)
section
variable {γ:Gs}{κ:Kx}{ca cb cc ce:Ce}{ci:Cit}
def yfT(e:∀x,Pr (YE γ κ x ca))(tg l:AT):Pr (YI γ κ tg l (.seq ca)):=an (e l) λh=>ok λm S X G=>zok (h m S X G)
def iR1(fa:∀x,Pr (YE γ κ x ca))(tg l:AT):Pr (YI γ κ tg l (.range1 ca)):=
 match l with
 |.Call (.Name x _) [a] [] _=>an (ask (x="range"/\glB κ x=AC/\γ.b x=AC/\nst a=AC)) λh=>an (fa a) λha=>ok λm S X G=>by
  let⟨rfl,h1,h2,h3⟩:=h;exact zi7 (zK G h1) (G.glo.B _ h2) (ha m S X G) (za7 h3)
 |_=>AD
def ydW(fa:∀x,Pr (YE γ κ x ca))(tg l:AT):Pr (YI γ κ tg l (.enum ca)):=
 match tg,l with
 |.Tuple _ _ _,.Call (.Name x _) [a] [] _=>an (ask (x="enumerate"/\glB κ x=AC/\γ.b x=AC/\nst a=AC)) λh=>an (fa a) λha=>ok λm S X G=>by
  let⟨rfl,h1,h2,h3⟩:=h;exact zmd (zK G h1) (G.glo.B _ h2) (ha m S X G) (za7 h3)
 |_,_=>AD
def yg7(fa:∀x,Pr (YE γ κ x ca))(fb:∀x,Pr (YE γ κ x cb))(tg l:AT):Pr (YI γ κ tg l (.zip ca cb)):=
 match tg,l with
 |.Tuple _ _ _,.Call (.Name x _) [a,b] [] _=>an (ask (x="zip"/\glB κ x=AC/\γ.b x=AC/\nst a=AC/\nst b=AC)) λh=>an (fa a) λha=>an (fb b) λhb=>ok λm S X G=>by
  let⟨rfl,h1,h2,h3,h4⟩:=h;exact zpo (zK G h1) (G.glo.B _ h2) (ha m S X G) (hb m S X G) (by rw[za7 h3,za7 h4];rfl) (za7 h4)
 |_,_=>AD
def gNm(κ:Kx):(l:List Nat)->(es:List AT)->Pr (∀m S X,Good γ κ m S X->PGs X es (gNs l)/\(assignEach es X.env).length=l.length/\(assignEach es X.env).findIdx? (·.1)=AD)
 |[],[]=>ok λ_ _ _ _=>⟨zmi,rfl,rfl⟩
 |i::l,.Name x _::es=>an (ask (setB κ i x=AC)) λh=>an (gNm κ l es) λhr=>ok λm S X G=>by
  have s:=zbp G h;let⟨h1,h2,h3⟩:=hr m S X G;refine⟨zkm s.d s.i s.l h1 s.f,?_,?_⟩
  .simp only[assignEach,A1,h2]
  .simp only[assignEach,List.findIdx?_cons,h3];rfl
 |_,_=>AD
def mTg(ct:Tg)(tg:AT):Pr (YG γ κ tg ct):=
 match ct,tg with
 |.n i,.Name x _=>an (ask (setB κ i x=AC)) λh=>ok λm S X G=>let s:=zbp G h;zm8 s.d s.i s.l s.f
 |.t l,.Tuple es _ _=>hf κ λhκ=>an (gNm κ l es) λh=>ok λm S X G=>zn0 (G.calm hκ) (h m S X G).1 (h m S X G).2.1 (h m S X G).2.2
 |_,_=>AD
def tgN:AT->List AL
 |.Name x _=>[x]
 |.Tuple es _ _=>es.filterMap fun
  |.Name x _=>AA x
  |_=>AD
 |_=>[]
def ydl(N:List AL)(sl:List (Option Nat))(tg:AT):List Str:=tgN tg++(sl.drop (tgN tg).length).filterMap λo=>o.bind λj=>N[j]?
def ycc(sc so:BZ):Scope:={sc with names:=sc.names.map λ(n,k)=>if (k==Ca&&so.kind==.function&&so.names.lookup n==AA .cell)then(n,Fy)else(n,k)}
def yaf(N:List AL)(so sc:BZ)(NC:List AL)(sl:List (Option Nat)):Bool:=
 decide (sc.kind=.function)&&(sc.names.all λy=>y.2 != .local || decide (sc.names.lookup y.1=AA .local))&&(sc.names.all λy=>y.2 != .cell)&&(sc.names.all λy=>y.2 != .free || decide (so.names.lookup y.1=AA .cell)) &&
  ((NC.zip sl).all λp=>p.2.all λj=>decide (N[j]?=AA p.1/\sc.names.lookup p.1=AA .free))&&decide (sl.length=NC.length)
def zjb{X:Cx}{sc:BZ}{NC:List AL}{sl:List (Option Nat)}(h:yaf X.N X.env.scope sc NC sl=AC):yZ X sc NC sl:=by
 erw[yaf,AH,decide_eq_true_eq,A9,CG,bne_iff_ne,ne_eq]at h;let⟨⟨⟨⟨⟨h1,h2⟩,h3⟩,h4⟩,h5⟩,h6⟩:=h;exact zqB _ _ rfl rfl h1 (λy hy e=>(h2 y hy).resolve_left λz=>z e) h3 (λy hy e=>(h4 y hy).resolve_left λz=>z e) (λp hp=>by simpa using h5 p hp) h6
theorem Good.comp{m:Nat}{S:Se}{X:Cx}(G:Good γ κ m S X)(sc:BZ)(NC:List AL)(j:CI):Good γ ⟨NC,ycc sc κ.sc,AB,κ.h⟩ m S (cxC X sc NC j):=by
 refine⟨rfl,?_,G.calm,G.room,G.hd,(λh=>nomatch h),(λh=>nomatch h),⟨G.glo.F,G.glo.Q,G.glo.C,G.glo.D,G.glo.E,G.glo.N,G.glo.B,G.glo.T,G.glo.A,G.glo.M,λy D h=>let ⟨fa,fdd,ps,M,d⟩:=G.glo.K y D h;⟨fa,fdd,ps,⟨M.F,M.kp,M.b⟩,d⟩,G.glo.V,G.glo.I,G.glo.L,G.glo.H,G.glo.Z⟩⟩;show relabel sc X.env=_;rw[<-G.sc];rfl
def ygS(c:Ce)(f:∀x,Pr (YT γ κ x c))(ifs:List AT):Pr (∀m S X,Good γ κ m S X->PTs X ifs (tT0 S X.K c)):=
 match ifs with
 |[]=>match c with
  |.cst (.bl AC)=>ok λ_ _ _ _=>zjq
  |_=>AD
 |[a]=>an (f a) λh=>ok λm S X G=>zlC rfl (h m S X G)
 |_=>AD
structure ycL(γ:Gs)(κ:Kx)(sl:List (Option Nat))(ct:Tg)(ci:Cit)(cc ce:Ce)(elt tg it:AT)(ifs:List AT)(sc:BZ):Prop where
 q:∀m S X,Good γ κ m S X->∃NC,yZ X sc NC sl/\PI X tg it (tI S X ci)/\(∀j,PG (cxC X sc NC j) tg (tG0 S X.K ct))/\(∀j,PTs (cxC X sc NC j) ifs (tT0 S X.K cc))/\∀j,PE (cxC X sc NC j) elt (tE0 S X.K ce)
 f:yaq ct sl=AC
 s:nse it=AC
def mCo(sl:List (Option Nat))(ct:Tg)(fi:∀tg l,Pr (YI γ κ tg l ci))(C:Ev γ cc)(E:Ev γ ce)(elt tg it:AT)(ifs:List AT)(sc:BZ):Pr (ycL γ κ sl ct ci cc ce elt tg it ifs sc):=
 an (ask (yaf κ.N κ.sc sc (ydl κ.N sl tg) sl=AC/\yaq ct sl=AC/\nse it=AC)) λh=>an (fi tg it) λhi=>an (mTg (γ:=γ) (κ:=⟨ydl κ.N sl tg,ycc sc κ.sc,AB,κ.h⟩) ct tg) λhg=>
  an (ygS (γ:=γ) (κ:=⟨ydl κ.N sl tg,ycc sc κ.sc,AB,κ.h⟩) cc (C.t _) ifs) λht=>an (E.e ⟨ydl κ.N sl tg,ycc sc κ.sc,AB,κ.h⟩ elt) λhe=>ok ⟨λm S X G=>⟨ydl κ.N sl tg,by
   rw[<-G.n,<-G.sc]at h;rw[<-G.n];exact zjb h.1,hi m S X G,λj=>zmD rfl (hg m S _ (G.comp sc _ j)),λj=>ht m S _ (G.comp sc _ j),λj=>zl5 rfl (he m S _ (G.comp sc _ j))⟩,h.2.1,h.2.2⟩
def yeZ(sl:List (Option Nat))(ct:Tg)(fi:∀tg l,Pr (YI γ κ tg l ci))(C:Ev γ cc)(E:Ev γ ce)(e:AT):Pr (YE γ κ e (.comp sl ct ci cc ce)):=
 match e with
 |.ListComp elt [⟨tg,it,ifs,0⟩] sc _=>hf κ λhκ=>an (mCo sl ct fi C E elt tg it ifs sc) λh=>ok λm S X G=>by
  let⟨NC,h1,h2,h3,h4,h5⟩:=h.q m S X G;exact zmS (G.calm hκ) h1 h.f h2 h3 h4 h5 (fse h.s)
 |_=>AD
end
section
variable {γ:Gs}{κ:Kx}
end
mutual
noncomputable def ch(γ:Gs):(c:Ce)->Ev γ c
 |.cst v=>plain λκ x=>yfS v x
 |.var i=>plain λκ x=>yfv i x
 |.bin o a b=>plain λκ x=>yfG o x ((ch γ a).e κ) ((ch γ b).e κ)
 |.rep a b=>plain λκ x=>yg9 x ((ch γ a).e κ) ((ch γ b).e κ)
 |.neg a=>plain λκ x=>yhc x ((ch γ a).e κ)
 |.not a=>ybM (λκ x=>ygT x ((ch γ a).e κ)) (yfO (ch γ a))
 |.and a b=>yej (ch γ a) (ch γ b)
 |.or a b=>ygB (ch γ a) (ch γ b)
 |.cmp o a b=>ybM (λκ x=>yf9 o x ((ch γ a).e κ) ((ch γ b).e κ)) (λκ x=>yex o x ((ch γ a).e κ) ((ch γ b).e κ))
 |.chain o p a b c=>ybM (λκ x=>yg0 o p x ((ch γ a).e κ) ((ch γ b).e κ) ((ch γ c).e κ)) (λκ x=>yeH o p x ((ch γ a).e κ) ((ch γ b).e κ) ((ch γ c).e κ))
 |.ite c a b=>plain λκ x=>ygw x ((ch γ c).t κ) ((ch γ a).e κ) ((ch γ b).e κ)
 |.tup es=>plain λκ x=>ygA x (yaC (chs γ es κ))
 |.lst es=>plain λκ x=>yhn x (yaC (chs γ es κ))
 |.newl es=>plain λκ x=>yer x (yaC (chs γ es κ))
 |.dict0 t=>plain λκ x=>yd8 t x
 |.idx a i=>plain λκ x=>mIdx x ((ch γ a).e κ) ((ch γ i).e κ)
 |.slc a l h=>plain λκ x=>yfV x ((ch γ a).e κ) (λo=>yfg l o ((ch γ l).e κ)) (λo=>yfg h o ((ch γ h).e κ))
 |.call f es=>plain λκ x=>hf κ λh=>yhl h f (chs γ es κ) x
 |.cav i L es=>plain λκ x=>hf κ λh=>ygU h i (chs γ es κ) x L
 |.fst es=>plain λκ x=>yhs (chs γ es κ) x
 |.qcl i es=>plain λκ x=>ygo i (chs γ es κ) x
 |.isx a cs ts=>plain λκ x=>yf5 cs ts x ((ch γ a).e κ)
 |.nin a b=>ybM (λκ x=>ygW x ((ch γ a).e κ) ((ch γ b).e κ)) (λκ x=>yeE x ((ch γ a).e κ) ((ch γ b).e κ))
 |.inn a b=>ybM (λκ x=>ygf x ((ch γ a).e κ) ((ch γ b).e κ)) (λκ x=>yeY x ((ch γ a).e κ) ((ch γ b).e κ))
 |.blt b es=>plain λκ x=>ygx b (chs γ es κ) x
 |.mth k o es=>plain λκ x=>ygE k (chs γ es κ) x ((ch γ o).e κ)
 |.isi a ts=>plain λκ x=>ygL ts x ((ch γ a).e κ)
 |.comp sl tg it c e=>plain λκ x=>yeZ sl tg (chi γ it κ) (ch γ c) (ch γ e) x
 |.frz a=>plain λκ x=>an ((ch γ a).e κ x) λh=>ok λm S X G=>zo9 (h m S X G)
 |.nope=>plain λκ x=>ok λ_ _ _ _=>zlV
 |.dix D a=>plain λκ x=>yfP D x ((ch γ a).e κ)
 |.din a D=>plain λκ x=>yf2 D x ((ch γ a).e κ)
 |.fld c a f=>plain λκ x=>ygY c f x ((ch γ a).e κ)
 |.new c i es=>plain λκ x=>hf κ λh=>ygH h c i (chs γ es κ) x
 |.mcl c i n o es=>plain λκ x=>hf κ λh=>ygP h c i n (chs γ es κ) x ((ch γ o).e κ)
noncomputable def chs(γ:Gs):(cs:Ces)->(κ:Kx)->Fs γ κ cs
 |.nil,_=>.nil
 |.cons c cs,κ=>.cons (λx=>(ch γ c).e κ x) (chs γ cs κ)
noncomputable def chi(γ:Gs):(c:Cit)->(κ:Kx)->∀tg l,Pr (YI γ κ tg l c)
 |.seq a,κ=>yfT ((ch γ a).e κ)
 |.range1 a,κ=>iR1 ((ch γ a).e κ)
 |.enum a,κ=>ydW ((ch γ a).e κ)
 |.zip a b,κ=>yg7 ((ch γ a).e κ) ((ch γ b).e κ)
 |_,_=>λ_ _=>AD
end
section
variable {γ:Gs}{κ:Kx}{ca cb cc ce:Ce}{ci:Cit}{ct:Tg}{cs cs':Css}{ces:Ces}
def yeA(f:∀x,Pr (YE γ κ x ca))(s:B9):Pr (YS γ κ s (.expr ca)):=
 match s with
 |.Expr a _=>an (ask (nco a=AC)) λhs=>an (f a) λh=>ok λm S X G=>zng (h m S X G) (swp hs)
 |_=>AD
def ye7(i:Nat)(f:∀x,Pr (YE γ κ x ca))(s:B9):Pr (YS γ κ s (.asg (.n i) ca)):=
 match s with
 |.Assign [.Name x _] a _=>an (ask (nco a=AC/\setB κ i x=AC)) λhs=>an (f a) λh=>ok λm S X G=>let q:=zbp G hs.2;zoh q.d q.i q.l (h m S X G) (swp hs.1) q.f
 |_=>AD
def zpm{a:AT}(h:nst a=AC):(match (generalizing:=false) a with | .Starred _ _=>AC|_=>AB)=false:=by
 revert h;cases a<;>intro h<;>first|rfl|cases h
def swD(so:BZ)(x y:AL)(px py:CB)(a b:AT):Bool:=(if so.kind.isAnnotationScope then GS else so.kind)==.function&&so.names.lookup x==AA .local&&so.names.lookup y==AA .local&&py.line==px.line&&nst a&&nst b&&!(x==y)&&!(foldedForSure 8 a&&foldedForSure 8 b)&&!(constantsAlone 8 a&&constantsAlone 8 b)
def zqI{x y:AL}{px py pt pt2:CB}{kt k2:Nat}{a b:AT}{env:BG}(h:swD env.scope x y px py a b=AC):
  swappedStores [.Tuple [.Name x px,.Name y py] kt pt] (.Tuple [a,b] k2 pt2) env=pure (AA [x,y]):=by
 erw[swD,AH,Bl]at h;let⟨⟨⟨⟨⟨⟨⟨⟨h1,h2⟩,h3⟩,h4⟩,h5⟩,h6⟩,h7⟩,h8⟩,h9⟩:=h;have k1:(env.blockKind != .function)=false:=by
  show (!((if env.scope.kind.isAnnotationScope then GS else env.scope.kind)==.function))=AB;rw[h1];rfl
 have k2:env.kindOf x=AA .local:=eq_of_beq h2;have k3:env.kindOf y=AA .local:=eq_of_beq h3;have k4:py.line=px.line:=eq_of_beq h4;have k7:¬y=x:=λz=>by subst z;simp at h7
 have m1:=zpm h5;have m2:=zpm h6;have c8:¬(foldedForSure 8 a=AC/\foldedForSure 8 b=AC):=λz=>by rw[z.1,z.2]at h8;cases h8
 have c9:¬(constantsAlone 8 a=AC/\constantsAlone 8 b=AC):=λz=>by rw[z.1,z.2]at h9;cases h9
 have x1:(Expr.Name x px).pos=px:=rfl;have x2:(Expr.Name y py).pos=py:=rfl;unfold swappedStores;simp[k1,m1,m2,k2,k3,k4,List.eraseDups_cons,k7,x1,x2,c8,c9,CS];intro z;exfalso;rcases z with z|z
 .exact Ai (m1.symm.trans z)
 .exact Ai (m2.symm.trans z)
def ygn(i j:Nat)(fa:∀x,Pr (YE γ κ x ca))(fb:∀x,Pr (YE γ κ x cb))(s:B9):Pr (YS γ κ s (.asg (.t [i,j]) (.tup (.cons ca (.cons cb .nil))))):=
 match s with
 |.Assign [.Tuple [.Name x px,.Name y py] _ _] (.Tuple [a,b] _ _) _=>hf κ λhκ=>an (ask (setB κ i x=AC/\setB κ j y=AC/\i≠j/\swD κ.sc x y px py a b=AC)) λh=>an (fa a) λha=>an (fb b) λhb=>ok λm S X G=>by
  let⟨h1,h2,h3,h4⟩:=h;have q:=zbp G h1;have r:=zbp G h2;have h5:=h4;erw[swD,AH]at h5;have e1:X.env.scope.names.lookup x=AA .local:=by rw[G.sc];exact eq_of_beq h5.1.1.1.1.1.1.1.2
  have e2:X.env.scope.names.lookup y=AA .local:=by rw[G.sc];exact eq_of_beq h5.1.1.1.1.1.1.2
  exact znZ (G.calm hκ) q.d q.i r.i h3 (zpq (G.calm hκ) q.d q.i r.i h3 e1 e2 (za9 (ha m S X G) (za9 (hb m S X G) zdL (za7 h5.1.1.1.2)) (za7 h5.1.1.1.1.2)) (zqI (by rw[G.sc];exact h4)))
 |_=>AD
theorem sw0{es:List AT}{k:Nat}{p:CB}{a:AT}{env:BG}(h:ntu a=AC):swappedStores [.Tuple es k p] a env=pure none:=by
 cases a<;>first|rfl|cases h
theorem sw1{b c:AT}{p:CB}{a:AT}{env:BG}:swappedStores [.Subscript b c p] a env=pure none:=by
 cases a<;>rfl
def zqg{t a:AT}{l:Nat}{env:BG}(h:nco a=AC):swapsWithSole [t] a l env=pure false:=by
 show swapsWith a (AA t) l env=_;exact swp h
theorem asS{b c:AT}{pos:CB}{env:BG}(h:nsl c=AC):∀v,assign (.Subscript b c pos) env v=(do
   let ov <-holding [v] (eval b env)
   let iv <-holding [v,ov] (eval c env)
   standAt pos
   holding [v,ov,iv] (setItem ov iv v)
   release [v,ov,iv] []):=by
 cases c<;>first|exact λ_=>rfl|cases h
def ygO(l:List Nat)(f:∀x,Pr (YE γ κ x ca))(s:B9):Pr (YS γ κ s (.asg (.t l) ca)):=
 match s with
 |.Assign [.Tuple es k p] a _=>an (ask (nco a=AC/\ntu a=AC)) λhs=>an (mTg (γ:=γ) (κ:=κ) (.t l) (.Tuple es k p)) λhg=>an (f a) λh=>ok λm S X G=>zlO (h m S X G) (hg m S X G) (zqg hs.1) (sw0 hs.2)
 |_=>AD
def ygQ(f:∀x,Pr (YE γ κ x cc))(fo:∀x,Pr (YE γ κ x ca))(fi:∀x,Pr (YE γ κ x cb))(s:B9):Pr (YS γ κ s (.six ca cb cc)):=
 match s with
 |.Assign [.Subscript b c _] a _=>an (ask (nco a=AC/\nsl c=AC)) λhs=>an (f a) λh=>an (fo b) λho=>an (fi c) λhi=>ok λm S X G=>zo7 (h m S X G) (ho m S X G) (hi m S X G) (zqg hs.1) sw1 (zld (ho m S X G) (hi m S X G) zgD (asS hs.2))
 |_=>AD
def yen(f:∀x,Pr (YE γ κ x cc))(fo:∀x,Pr (YE γ κ x ca))(fi:∀x,Pr (YE γ κ x cb))(s:B9):Pr (YS γ κ s (.dput ca cb cc)):=
 match s with
 |.Assign [.Subscript b c _] a _=>an (ask (nco a=AC)) λhs=>an (f a) λh=>an (fo b) λho=>an (fi c) λhi=>ok λm S X G=>zmU (zk9 G.room) (ho m S X G) (hi m S X G) (h m S X G) (swp hs)
 |_=>AD
def ygv(op:Da)(o:BOp):Pr (∀S X,PIp X op (rT2 S X (ybA o))):=
 match op,o with
 |.Add,.add=>ok λ_ _=>zmL
 |_,_=>AD
def yf1(i:Nat)(o:BOp)(f:∀x,Pr (YE γ κ x ca))(s:B9):Pr (YS γ κ s (.aug i o ca)):=
 match s with
 |.AugAssign (.Name x _) op a _=>an (ask (setB κ i x=AC)) λh=>an (ygv op o) λhp=>an (f a) λha=>ok λm S X G=>let q:=zbp G h;zoG q.d q.i q.l (ha m S X G) (hp S X) q.f (zcX q.p) (zjS q.p)
 |_=>AD
def yhh(c:Ce)(f:∀x,Pr (YE γ κ x c))(s:B9):Pr (YS γ κ s (.ret c)):=
 match s with
 |.Return (AA a) _=>an (f a) λh=>ok λm S X G=>zos (h m S X G)
 |.Return AD _=>match c with
  |.cst .non=>ok λ_ _ _ _=>zmH
  |_=>AD
 |_=>AD
def sIf(fc:∀x,Pr (YT γ κ x cc))(fa:∀x,Pr (YSs γ κ x cs))(fb:∀x,Pr (YSs γ κ x cs'))(s:B9):Pr (YS γ κ s (.ite cc cs cs')):=
 match s with
 |.If c a b _=>an (fc c) λhc=>an (fa a) λha=>an (fb b) λhb=>ok λm S X G=>zqm (hc m S X G) (ha m S X G) (hb m S X G)
 |_=>AD
def ygk(ct:Tg)(fi:∀tg l,Pr (YI γ κ tg l ci))(fb:∀x,Pr (YSs γ κ x cs))(s:B9):Pr (YS γ κ s (.for ct ci cs)):=
 match s with
 |.For tg l b [] _=>hf κ λhκ=>an (ask (κ.own=AC/\nse l=AC)) λho=>an (fi tg l) λhi=>an (mTg (γ:=γ) (κ:=κ) ct tg) λhg=>an (fb b) λhb=>ok λm S X G=>znF (G.own ho.1).1 (G.calm hκ) (hi m S X G) (hg m S X G) (hb m S X G) (fse ho.2)
 |_=>AD
def sWh(fc:∀x,Pr (YT γ κ x cc))(fb:∀x,Pr (YSs γ κ x cs))(s:B9):Pr (YS γ κ s (.while cc cs)):=
 match s with
 |.While c b [] _=>an (ask (κ.own=AC)) λho=>an (fc c) λhc=>an (fb b) λhb=>ok λm S X G=>zj2 (G.own ho).1 (hc m S X G) (hb m S X G)
 |_=>AD
def ygt(k:Nat)(f:∀x,Pr (YE γ κ x ca))(s:B9):Pr (YS γ κ s (.raise k ca)):=
 match s with
 |.Raise (AA (.Call (.Name x _) [a] [] _)) AD _=>hf κ λhκ=>match hx:γ.g x with
  |some (.exc c)=>an (ask (c=k/\κ.own=AC/\glB κ x=AC/\nst a=AC)) λh=>an (f a) λha=>ok λm S X G=>by
   let⟨rfl,h1,h2,h3⟩:=h;exact zjc (G.glo.E x c hx) (G.own h1).2.2 (G.calm hκ) (zK G h2) (ha m S X G) (za7 h3) rfl (zcX (zaU h2))
  |_=>AD
 |_=>AD
def yg8(c:Nat)(f:AL)(fo:∀x,Pr (YE γ κ x ca))(fv:∀x,Pr (YE γ κ x cb))(s:B9):Pr (YS γ κ s (.sfl c ca f cb)):=
 match s with
 |.Assign [.Attribute a g _] b _=>an (ask (g=f/\γ.fl c f=AC/\nco b=AC)) λh=>an (fo a) λha=>an (fv b) λhb=>ok λm S X G=>by
  let⟨rfl,h1,h2⟩:=h;exact znw (G.glo.A c g h1).1 (G.glo.A c g h1).2 (ha m S X G) (hb m S X G) (swp h2)
 |_=>AD
def yga(c i:Nat)(f:AL)(j:Int)(fo:∀x,Pr (YE γ κ x (.var i)))(fv:∀x,Pr (YE γ κ x (.cst (.int j))))(s:B9):Pr (YS γ κ s (.sfl c (.var i) f (.bin .add (.fld c (.var i) f) (.cst (.int j))))):=
 match s with
 |.AugAssign (.Attribute a g _) .Add b _=>an (ask (g=f/\γ.fl c f=AC)) λh=>an (fo a) λha=>an (fv b) λhb=>ok λm S X G=>by
  let⟨rfl,h1⟩:=h;exact znS (G.glo.A c g h1).1 (G.glo.A c g h1).2 (ha m S X G) (hb m S X G)
 |_=>AD
def ygr(c:Nat)(o:Ce)(f:AL)(e:Ce)(O:Ev γ o)(E:Ev γ e)(s:B9):Pr (YS γ κ s (.sfl c o f e)):=
 match s with
 |.AugAssign t op b p=>match o,e with
  | .var i,.bin .add (.fld c' (.var i') f') (.cst (.int j))=>an (ask (c'=c/\i'=i/\f'=f)) λh=>an (yga (γ:=γ) (κ:=κ) c i f j (λx=>yfv i x) (λx=>yfo (.int j) x) (.AugAssign t op b p)) λq=>ok (by
    let⟨rfl,rfl,rfl⟩:=h;exact q)
  |_,_=>AD
 |s=>yg8 c f (O.e κ) (E.e κ) s
def ygd(hκ:κ.h=AB)(ix:Nat)(D:List (AL×Nat)){cn:Ce}{ces:Ces}(fn:∀x,Pr (YE γ κ x cn))(F:Fs γ κ ces)(ss:List B9):Pr (YSs γ κ ss (.cons (.mkr ix D cn ces) .nil)):=
 match ss with
 |[.Assign [.Name x _] (.Subscript (.Name y _) n _) _,.Return (AA (.Call (.Name x' _) (e::es) [] _)) _]=>match hy:γ.mr y with
  |some E=>an (ask (E=D/\x'=x/\setB κ ix x=AC/\ydG κ.sc x=AC/\glB κ y=AC/\nsl n=AC/\nst e=AC/\ybx es=AC)) λh=>an (fn n) λhn=>an (yaC F (e::es)) λha=>ok λm S X G=>by
   let⟨rfl,rfl,h1,h2,h3,h4,h5,h6⟩:=h;have q:=zbp G h1;let⟨fa,fdd,ps,M,d⟩:=G.glo.K y E hy;exact zo4 M ((G.rm hκ).mono (CK m)) q.d q.i q.l (by rw[G.sc];exact zfN h2) (zK G h3) d (hn m S X G) (ha m S X G) (nos h4) (swp rfl) q.f (zcX (zaU h3)) (zcX q.p) (zjS q.p) (za7 h5) (stars h6)
  |none=>AD
 |_=>AD
theorem Good.tb{m:Nat}{S:Se}{X:Cx}(G:Good γ κ m S X)(hκ:κ.h=AB)(pn:List (AJ×B7))(P:St->AG->Hp->Prop):Good γ ⟨κ.N,κ.sc,AB,AB⟩ m S.quiet (ydF X pn P):=
 ⟨G.n,G.sc,λ_=>G.calm hκ,G.room,λ_=>G.hd hκ,(λh=>nomatch h),(λh=>nomatch h),⟨G.glo.F,G.glo.Q,G.glo.C,G.glo.D,G.glo.E,G.glo.N,G.glo.B,G.glo.T,G.glo.A,G.glo.M,λy D h=>let ⟨fa,fdd,ps,M,d⟩:=G.glo.K y D h;⟨fa,fdd,ps,⟨M.F,M.kp,M.b⟩,d⟩,G.glo.V,G.glo.I,G.glo.L,G.glo.H,G.glo.Z⟩⟩
theorem Good.th{m:Nat}{S:Se}{X:Cx}(G:Good γ κ m S X)(pn:List (AJ×B7))(a:AJ):Good γ ⟨κ.N,κ.sc,AB,AC⟩ m S.quiet (cxS X pn a):=
 ⟨G.n,G.sc,(λh=>nomatch h),G.room.mark,(λh=>nomatch h),(λh=>nomatch h),(λh=>nomatch h),⟨G.glo.F,G.glo.Q,G.glo.C,G.glo.D,G.glo.E,G.glo.N,G.glo.B,G.glo.T,G.glo.A,G.glo.M,λy D h=>let ⟨fa,fdd,ps,M,d⟩:=G.glo.K y D h;⟨fa,fdd,ps,⟨M.F,M.kp,M.b⟩,d⟩,G.glo.V,G.glo.I,G.glo.L,G.glo.H,G.glo.Z⟩⟩
def yht(cs:List Nat)(i:Nat){cb ch:Css}(fb:∀s,Pr (YSs γ ⟨κ.N,κ.sc,AB,AB⟩ s cb))(fh:∀s,Pr (YSs γ ⟨κ.N,κ.sc,AB,AC⟩ s ch))(s:B9):Pr (YS γ κ s (.try cb cs i ch)):=
 match s with
 |.Try body [.ExceptHandler (AA (.Name x _)) (AA n) (b₀::suite) _] [] [] _=>hf κ λhκ=>an (ask (κ.own=AC/\κ.N.Nodup/\κ.N[i]?=AA n/\κ.sc.names.lookup n=AA .local/\glB κ x=AC/\(cs.all λc=>γ.xm c x)=AC/\cs≠[])) λh=>an (fb body) λhb=>an (fh (b₀::suite)) λhs=>ok λm S X G=>by
  let⟨h1,h2,h3,h4,h5,h6,h7⟩:=h;erw[A9]at h6;obtain⟨W,hW⟩:∃W,X.mg x=AA (.ref W):=by
   cases cs with
   |nil=>exact absurd rfl h7
   |cons c cs=>let⟨W,q,_⟩:=G.glo.H c x (h6 c A8);exact⟨W,q⟩
  refine zpJ (G.top h1).1 (G.top h1).2.1 (G.top h1).2.2 (by rw[G.n];exact h2) (by rw[G.n];exact h3) (by rw[G.sc];exact h4) (zK G h5) hW (λc hc=>?_) (λpn P=>hb m _ _ (G.tb hκ pn P)) (λpn a=>hs m _ _ (G.th pn a)) (zcX (zaU h5));let⟨W',q,e⟩:=G.glo.H c x (h6 c hc);rw[hW]at q
  cases q
  exact e
 |_=>AD
end
mutual
noncomputable def chS(γ:Gs):(c:Cs)->(κ:Kx)->∀s,Pr (YS γ κ s c)
 |.expr e,κ=>yeA ((ch γ e).e κ)
 |.asg (.n i) c,κ=>ye7 i ((ch γ c).e κ)
 |.asg (.t [i,j]) (.tup (.cons a (.cons b .nil))),κ=>ygn i j ((ch γ a).e κ) ((ch γ b).e κ)
 |.asg (.t l) c,κ=>ygO l ((ch γ c).e κ)
 |.six o i e,κ=>ygQ ((ch γ e).e κ) ((ch γ o).e κ) ((ch γ i).e κ)
 |.dput o i e,κ=>yen ((ch γ e).e κ) ((ch γ o).e κ) ((ch γ i).e κ)
 |.aug i o e,κ=>yf1 i o ((ch γ e).e κ)
 |.ret e,κ=>yhh e ((ch γ e).e κ)
 |.ite c a b,κ=>sIf ((ch γ c).t κ) (yb2 γ a κ) (yb2 γ b κ)
 |.for t it b,κ=>ygk t (chi γ it κ) (yb2 γ b κ)
 |.while c b,κ=>sWh ((ch γ c).t κ) (yb2 γ b κ)
 |.nope,_=>λ_=>ok λ_ _ _ _=>zmW
 |.try b cs i h,κ=>yht cs i (yb2 γ b ⟨κ.N,κ.sc,AB,AB⟩) (yb2 γ h ⟨κ.N,κ.sc,AB,AC⟩)
 |.raise k e,κ=>ygt k ((ch γ e).e κ)
 |.sfl c o f e,κ=>ygr c o f e (ch γ o) (ch γ e)
 |_,_=>λ_=>AD
noncomputable def yb2(γ:Gs):(c:Css)->(κ:Kx)->∀s,Pr (YSs γ κ s c)
 |.nil,_,[]=>ok λ_ _ _ _=>znY
 |.cons (.mkr ix D cn ces) .nil,κ,ss=>hf κ λh=>ygd h ix D ((ch γ cn).e κ) (chs γ ces κ) ss
 |.cons c cs,κ,s::ss=>an (chS γ c κ s) λh=>an (yb2 γ cs κ ss) λhr=>ok λm S X G=>zmx (h m S X G) (hr m S X G)
 |_,_,_=>AD
end
inductive Dk where
 |fn|fd (ds:List Int)|me (c:Nat)|ini (c:Nat)
structure Df where
 gn:AL
 nm:AL
 q:AL
 st:B9
 N:List AL
 ps:List AL
 fn:IC.Fn
 k:Dk
def scB(N P:List AL)(sc:BZ):Bool:=decide (sc.kind=.function)&&!sc.isCoroutine&&!sc.isGenerator&&decide N.Nodup&&decide (N.take P.length=P)&&P.all (ydN sc)&&sc.names.all λy=>y.2 != .free
def zla{N P:List AL}{sc:BZ}(h:scB N P sc=AC):yaw N P sc:=by
 erw[scB,AH,decide_eq_true_eq,Bl,A9,bne_iff_ne,ne_eq]at h;let⟨⟨⟨⟨⟨⟨h1,h2⟩,h3⟩,h4⟩,h5⟩,h6⟩,h7⟩:=h;exact⟨h1,h2,h3,h4,h5,λx hx=>ziG (h6 x hx),h7⟩
def okD(γ:Gs)(d:Df):Bool:=scB d.N d.ps (yh d.st)&&decide (d.ps.length=d.fn.np)&&decide (d.N.length=d.fn.ns)&&(yb2 γ d.fn.body ⟨d.N,yh d.st,AC,AB⟩ (yK d.st)).isSome
def ybG{α:Type}(P:α->Prop):List α->Prop
 |[]=>True
 |d::r=>P d/\ybG P r
theorem ybG.get{α:Type}{P:α->Prop}:∀{l:List α},ybG P l->∀d∈l,P d
 |_::_,h,d,hd=>by
  rcases AX.1 hd with rfl|hd
  .exact h.1
  .exact h.2.get d hd
def ybl:List AL->(List AG->Prop)->Prop
 |[],P=>P []
 |_::r,P=>∀a,ybl r λus=>P (a::us)
theorem ybl.get:∀{ps:List AL} {P:List AG->Prop},ybl ps P->∀us,us.length=ps.length->P us
 |[],P,h,[],_=>h
 |_::r,P,h,a::us,e=>(h a).get us (by simpa using e)
def ya1(d:Df):Prop:=∀(kV doc pm:AG) (an:Option AJ) (cdv ct:AG),ybl d.ps λus=>bindArgs (BS d.nm d.q (yU d.st) (yK d.st) (yh d.st) .none kV doc pm an cdv ct) ⟨us,[]⟩=pure (d.ps.zip us)
structure yce(K:AF)(d:Df)(dv:AG)(f:AJ)(fd:Ao):Prop where
 ex:∃(oc:AG) (od:Option AJ) (kV doc pm:AG) (an:Option AJ) (cdv ct:AG) (osl:Array (Option AG)),
  fd=BS d.nm d.q (yU d.st) (yK d.st) (yh d.st) dv kV doc pm an cdv ct/\K.lookup f=AA ⟨oc,od,.func fd,osl⟩/\Bz K cdv d.q=AC
 kp:Ab K (.ref f)=AC
def At(K:AF)(cn:Nat->AL)(d:Df)(f:AJ):Prop:=
 match d.k with
 |.fn=>Az K mainGlobals d.gn=AA (AA (.ref f))/\ya1 d
 |.fd _=>Az K mainGlobals d.gn=AA (AA (.ref f))
 |.me c=>ya1 d/\∃q,Az K mainGlobals (cn c)=AA (AA (.ref q))/\Aa K (.ref q) d.nm=AA (AA (.ref f))/\Cj K (.ref f)=AC
 |.ini c=>ya1 d/\∃q,Az K mainGlobals (cn c)=AA (AA (.ref q))/\Aa K (.ref q) d.nm=AA (AA (.ref f))/\Cj K (.ref f)=AC/\Dl K q=AC/\Ab K (.ref q)=AC
def DvP(K:AF)(d:Df)(dv:AG):Prop:=
 match d.k with
 |.fd ds=>∃dT o its n,dv=.ref dT/\K.lookup dT=AA o/\o.data=.seq its n/\Vals (ds.map V.int) its.toList
 |_=>dv=.none
def ycU(K:AF)(cn:Nat->AL)(d:Df):Prop:=∃dv f fd,yce K d dv f fd/\At K cn d f/\DvP K d dv
section
variable {K:AF}{cn:Nat->AL}{gn nm:AL}{st:B9}{N ps:List AL}{fn:IC.Fn}{f:AJ}{oc:AG}{od:Option AJ}{kV doc pm:AG}{an:Option AJ}{cdv ct:AG}{osl:Array (Option AG)}
theorem rowFn(a:Az K mainGlobals gn=AA (AA (.ref f)))(l:K.lookup f=AA ⟨oc,od,.func (BS nm nm (yU st) (yK st) (yh st) .none kV doc pm an cdv ct),osl⟩)
  (c:Bz K cdv nm=AC) (p:Ab K (.ref f)=AC) (b:ya1 ⟨gn,nm,nm,st,N,ps,fn,.fn⟩):ycU K cn ⟨gn,nm,nm,st,N,ps,fn,.fn⟩:=
 ⟨.none,f,_,⟨⟨oc,od,kV,doc,pm,an,cdv,ct,osl,rfl,l,c⟩,p⟩,⟨a,b⟩,rfl⟩
theorem rowFd{ds:List Int}{dT:AJ}{o:B7}{its:Array AG}{n:Nat}(a:Az K mainGlobals gn=AA (AA (.ref f)))(l:K.lookup f=AA ⟨oc,od,.func (BS nm nm (yU st) (yK st) (yh st) (.ref dT) kV doc pm an cdv ct),osl⟩)
  (c:Bz K cdv nm=AC) (p:Ab K (.ref f)=AC) (d:K.lookup dT=AA o) (e:o.data=.seq its n) (v:Vals (ds.map V.int) its.toList):ycU K cn ⟨gn,nm,nm,st,N,ps,fn,.fd ds⟩:=
 ⟨.ref dT,f,_,⟨⟨oc,od,kV,doc,pm,an,cdv,ct,osl,rfl,l,c⟩,p⟩,a,dT,o,its,n,rfl,d,e,v⟩
theorem rowMe{qn:AL}{cc:Nat}{q:AJ}(z:Az K mainGlobals (cn cc)=AA (AA (.ref q)))(a:Aa K (.ref q) nm=AA (AA (.ref f)))(i:Cj K (.ref f)=AC)(l:K.lookup f=AA ⟨oc,od,.func (BS nm qn (yU st) (yK st) (yh st) .none kV doc pm an cdv ct),osl⟩)
  (c:Bz K cdv qn=AC) (p:Ab K (.ref f)=AC) (b:ya1 ⟨gn,nm,qn,st,N,ps,fn,.me cc⟩):ycU K cn ⟨gn,nm,qn,st,N,ps,fn,.me cc⟩:=
 ⟨.none,f,_,⟨⟨oc,od,kV,doc,pm,an,cdv,ct,osl,rfl,l,c⟩,p⟩,⟨b,q,z,a,i⟩,rfl⟩
theorem rowIni{qn:AL}{cc:Nat}{q:AJ}(z:Az K mainGlobals (cn cc)=AA (AA (.ref q)))(a:Aa K (.ref q) nm=AA (AA (.ref f)))(i:Cj K (.ref f)=AC)(l:K.lookup f=AA ⟨oc,od,.func (BS nm qn (yU st) (yK st) (yh st) .none kV doc pm an cdv ct),osl⟩)
  (c:Bz K cdv qn=AC) (p:Ab K (.ref f)=AC) (b:ya1 ⟨gn,nm,qn,st,N,ps,fn,.ini cc⟩) (mk:Dl K q=AC) (kq:Ab K (.ref q)=AC):ycU K cn ⟨gn,nm,qn,st,N,ps,fn,.ini cc⟩:=
 ⟨.none,f,_,⟨⟨oc,od,kV,doc,pm,an,cdv,ct,osl,rfl,l,c⟩,p⟩,⟨b,q,z,a,i,mk,kq⟩,rfl⟩
theorem gdf_mk{w:Af}{h:Aq}{mg:AL->Option AG}{x:AL}{D:List (AL×Nat)}{fa:Nat->AJ}{y:AJ}{es:Array By}{ep:Nat}(X:K.In h)(G:h.Ns mainGlobals mg)(a:Az K mainGlobals x=AA (AA (.ref y)))(l:K.lookup y=AA ⟨.type "dict",AD,.dict es ep,#[]⟩)
  (r:yb1 w fa D es.toList) (n:(D.map (·.1)).Nodup):GDF K w mg fa x D:=⟨y,es,ep,El X G a,l,r,n⟩
theorem gd_mk{w:Af}{h:Aq}{mg:AL->Option AG}{x:AL}{D:List (AL×PV)}{cl:Nat->AJ}{y:AJ}{es:Array By}{ep:Nat}(X:K.In h)(G:h.Ns mainGlobals mg)(a:Az K mainGlobals x=AA (AA (.ref y)))(l:K.lookup y=AA ⟨.type "dict",AD,.dict es ep,#[]⟩)
  (s:(y==sysModules)=AB) (r:yca K cl w D es.toList) (n:(D.map (·.1)).Nodup):GD K w mg cl x D:=⟨y,es,ep,El X G a,l,s,r,n⟩
end
abbrev KoV(K:AF)(v:PV)(u:AG):Prop:=∃x:V,RelV x u/\∀cl B φ H,yd K cl B φ H v x
abbrev KoL(K:AF)(vs:List PV)(us:List AG):Prop:=∃xs:List V,Vals xs us/\∀cl B φ H,ye K cl B φ H vs xs
mutual
noncomputable def yew(K:AF):(v:PV)->(u:AG)->Pr (KoV K v u)
 |.int i,.int j t=>an (ask (i=j)) λh=>ok ⟨.int i,⟨t,by rw[h]⟩,λ_ _ _ _=>by erw[yd]⟩
 |.str i,.str j t=>an (ask (i=j)) λh=>ok ⟨.str i,⟨t,by rw[h]⟩,λ_ _ _ _=>by erw[yd]⟩
 |.tp AC vs,.ref a=>match h:K.lookup a with
  |some ⟨c,_,.seq its n,_⟩=>an (ask (c=.type "tuple"/\its.size<=sizeLine)) λq=>an (ycX K vs its.toList) λr=>ok (by
    let⟨xs,r1,r2⟩:=r;refine⟨.ref a,rfl,λcl B φ H=>?_⟩;erw[yd];exact⟨a,xs,rfl,.inr ⟨rfl,_,its,n,h,q.1,rfl,q.2,r1⟩,r2 cl B φ H⟩)
  |_=>AD
 |_,_=>AD
noncomputable def ycX(K:AF):(vs:List PV)->(us:List AG)->Pr (KoL K vs us)
 |[],[]=>ok ⟨[],.nil,λ_ _ _ _=>by erw[ye]⟩
 |v::vs,u::us=>an (yew K v u) λh=>an (ycX K vs us) λr=>ok (by
   let⟨x,h1,h2⟩:=h;let⟨xs,r1,r2⟩:=r;refine⟨x::xs,.cons h1 r1,λcl B φ H=>?_⟩;erw[ye];exact⟨x,xs,rfl,h2 cl B φ H,r2 cl B φ H⟩)
 |_,_=>AD
end
theorem con_row{K:AF}{cl:Nat->AJ}{w:Af}{k:AL}{v:PV}{tk:Hq}{u:AG}{D:List (AL×PV)}{es:List By}(c:(yew K v u).isSome=AC)(h:yca K cl w D es):yca K cl w ((k,v)::D) (⟨EQ w.params k,.str k tk,u⟩ :: es):=by
 let⟨⟨x,r,q⟩,_⟩:=Ad.1 c;exact .cons r (q cl) h
theorem frow_cons{w:Af}{fa:Nat->AJ}{k:AL}{i:Nat}{tk:Hq}{a:AJ}{D:List (AL×Nat)}{es:List By}(e:fa i=a)(h:yb1 w fa D es):yb1 w fa ((k,i)::D) (⟨EQ w.params k,.str k tk,.ref a⟩ :: es):=by
 subst e;exact .cons h
structure Tb where
 tbl:List Df
 al:List (AL×GK)
 bs:List AL
 ts:List Ty
 fl:List (Nat×AL)
 me:List ((Nat×AL)×Nat)
 kb:List ((Nat×Nat×List AL)×List (Option Int))
 cn:List (Nat×AL)
 dd:List (AL×List (AL×PV))
 ml:List (AL×List (AL×Nat))
 xs:List (Nat×Ty)
 xc:List (Nat×AL)
 xm:List (Nat×AL)
 qh:List AL
abbrev eF(x:AL)(i:Nat):AL×GK:=(x,.fn i)
abbrev eD(x:AL)(i:Nat):AL×GK:=(x,.fnD i)
abbrev eC(x:AL)(v:PV):AL×GK:=(x,.cst v)
abbrev eG(x:AL)(g:GK):AL×GK:=(x,g)
abbrev eN(c:Nat)(x:AL):Nat×Str:=(c,x)
abbrev eM(c:Nat)(x:AL)(i:Nat):(Nat×AL)×Nat:=((c,x),i)
abbrev eK(i n:Nat)(ks:List AL)(sh:List (Option Int)):(Nat×Nat×List AL)×List (Option Int):=((i,n,ks),sh)
abbrev eL(x:AL)(d:List (AL×Nat)):AL×List (AL×Nat):=(x,d)
abbrev eB(x:AL)(d:List (AL×PV)):AL×List (AL×PV):=(x,d)
def tyE:Ty->Ty->Bool
 |.int,.int=>AC
 |.bool,.bool=>AC
 |.str,.str=>AC
 |.tuple,.tuple=>AC
 |.list,.list=>AC
 |_,_=>AB
def zo5{a b:Ty}(h:tyE a b=AC):a=b:=by
 cases a<;>cases b<;>first|rfl|cases h
def tyX:Ty->Ty->Bool
 |.cls a,.cls b=>a==b
 |.val,.val=>AC
 |_,_=>AB
def zow{a b:Ty}(h:tyX a b=AC):a=b:=by
 cases a<;>cases b<;>first|rfl|(cases h;done)|(rw[eq_of_beq (show _=AC from h)])
def Tb.gs(t:Tb):Gs:=⟨λx=>t.al.lookup x,λx=>t.bs.contains x,λy=>t.ts.any (tyE y),λc f=>t.fl.contains (c,f),λc n=>t.me.lookup (c,n),λi n ks=>t.kb.lookup (i,n,ks),λx=>t.ml.lookup x,λx i=>decide (t.cn.lookup (1000+i)=AA x),λc y=>t.xs.any λp=>p.1==c&&tyX p.2 y,λd x=>t.xc.contains (d,x),λc x=>t.xm.contains (c,x),λi=>match t.tbl[i]? with
 |some d=>t.qh.contains d.gn
 |none=>AB⟩
def nmA(K:AF)(x:AL):Option Addr:=match Az K mainGlobals x with
 |some (AA (.ref q))=>AA q
 |_=>AD
def clA(K:AF)(t:Tb)(c:Nat):Addr:=((t.cn.lookup c).bind (nmA K)).getD 0
def cnm(t:Tb)(c:Nat):Str:=(t.cn.lookup c).getD ""
def faA(K:AF)(t:Tb)(i:Nat):Addr:=match t.tbl[i]? with
 |some d=>match d.k with
  |.fn=>(nmA K d.gn).getD 0
  |.fd _=>(nmA K d.gn).getD 0
  |.me c=>match Aa K (.ref (clA K t c)) d.nm with
   |some (AA (.ref f))=>f
   |_=>0
  |.ini c=>match Aa K (.ref (clA K t c)) d.nm with
   |some (AA (.ref f))=>f
   |_=>0
 |none=>0
def ycs:Dk->Bool
 |.fn=>AC
 |_=>AB
def yee:Dk->Bool
 |.fd _=>AC
 |_=>AB
def yf3:PV->Bool
 |.int _=>AC
 |.tp _ _=>AC
 |_=>AB
def alB(K:AF)(t:Tb):AL×GK->Bool
 |(x,.fn i)=>match t.tbl[i]? with
  |some d=>ycs d.k&&(decide (x=d.gn) || decide (nmA K x=nmA K d.gn))
  |none=>AB
 |(x,.fnD i)=>match t.tbl[i]? with
  |some d=>yee d.k&&(decide (x=d.gn) || decide (nmA K x=nmA K d.gn))
  |none=>AB
 |(x,.cst v)=>yf3 v&&match Az K mainGlobals x with
  |some (AA u)=>(yew K v u).isSome
  |_=>AB
 |(x,.dct d)=>t.dd.any λp=>decide (p.1=x)&&(eqD p.2 d).isSome
 |(x,.exc c)=>decide (t.cn.lookup c=AA x)&&(nmA K x).any λq=>D7 K q [.type "ValueError",.type "Exception",.type "BaseException",.type "object"] "ValueError.__new__"
 |(x,.cls c i)=>decide (t.cn.lookup c=AA x)&&(nmA K x).isSome&&match t.tbl[i]? with
  |some d=>match d.k with
   |.ini c'=>decide (c'=c)&&decide (d.nm="__init__")
   |_=>AB
  |none=>AB
def yfi(K:AF)(t:Ty):Bool:=
 decide (BC K (.type "NoneType") (.type (tyN t))=AA (yaU .non t))&&decide (BC K (.type "bool") (.type (tyN t))=AA (yaU (.bl AC) t))&&decide (BC K (.type "int") (.type (tyN t))=AA (yaU (.int 0) t))&&decide (BC K (.type "str") (.type (tyN t))=AA (yaU (.str DA) t))&&decide (BC K (.type "tuple") (.type (tyN t))=AA (yaU (.tp AC []) t))&&decide (BC K (.type "list") (.type (tyN t))=AA (yaU (.lst []) t))
def ydI(K:AF)(q:AJ):Bool:=Ci K q DA&&DE K q&&EX K q&&decide (Aa K (.ref q) "__setattr__"=AA (AA (.builtin "object.__setattr__")))
def zhH{K:AF}{q:AJ}(h:ydI K q=AC):Cls K q:=by
 erw[ydI,AH,decide_eq_true_eq]at h;exact⟨h.1.1.1,h.1.1.2,h.1.2,h.2⟩
def yd5(K:AF)(q:AJ):Bool:=decide (Aa K (.ref q) "__getattribute__"=AA (AA (.builtin "BaseException.__getattribute__")))&&decide (Aa K (.ref q) "__getattr__"=AA AD)&&decide (Aa K (.ref q) "__class__"=AA (AA (.builtin "object.__class__")))&&decide (Hk K (.ref q) (.type "BaseException")=AA AC)&&decide (Hl K q (.type "object")=AA AC)&&(Eg K q).isSome
def zmB{K:AF}{q:AJ}(h:yd5 K q=AC):ybt K q:=by
 erw[yd5,AH,decide_eq_true_eq]at h;let⟨⟨⟨⟨⟨h1,h2⟩,h3⟩,h4⟩,h5⟩,h6⟩:=h;exact⟨h1,h2,h3,h4,h5,Ad.1 h6⟩
def yfk(K:AF)(t:Tb):Bool:=
 t.xs.all (λp=>yd5 K (clA K t p.1)&&decide (BC K (.ref (clA K t p.1)) (tyZ (clA K t) p.2)=AA (yaU (.exn p.1) p.2))) &&
  t.xc.all (λp=>decide (t.cn.lookup p.1=AA p.2)&&(nmA K p.2).isSome) &&
  t.xm.all λp=>(nmA K p.2).any λW=>decide (EM K (.ref (clA K t p.1)) (.ref W)=AA AC)
def yde(K:AF)(t:Tb):Bool:=
 t.al.all (alB K t)&&t.bs.all (λx=>decide (Az K mainGlobals x=AA AD))&&t.ts.all (yfi K) &&
  t.fl.all (λp=>(t.cn.lookup p.1).isSome&&(nmA K (cnm t p.1)).any λq=>ydI K q&&decide (Aa K (.ref q) p.2=AA AD)) &&
  t.me.all (λp=>(t.cn.lookup p.1.1).isSome&&(nmA K (cnm t p.1.1)).any λq=>ydI K q&&match t.tbl[p.2]? with
   |some d=>(match d.k with
    |.me c=>decide (c=p.1.1)
    |_=>AB)&&decide (d.nm=p.1.2)
   |none=>AB) &&
  t.ml.all λp=>p.2.all λq=>match t.tbl[q.2]? with
   |some d=>ycs d.k
   |none=>AB
def yeo(K:AF)(t:Tb):Bool:=yde K t&&yfk K t
def fd0:FuncData:=BS "" "" (yU (.Pass ⟨0,0,0,0⟩)) [] (yh (.Pass ⟨0,0,0,0⟩)) .none .none .none .none AD .none .none
def fdA(K:AF)(t:Tb)(i:Nat):FuncData:=match K.lookup (faA K t i)with
 |some ⟨_,_,.func fd,_⟩=>fd
 |_=>fd0
def psA(t:Tb)(i:Nat):List Str:=match t.tbl[i]? with
 |some d=>d.ps
 |none=>[]
theorem lkm{α β:Type}[BEq α][LawfulBEq α]{x:α}{k:β}:∀{l:List (α×β)},l.lookup x=AA k->(x,k)∈l
 |[],h=>nomatch h
 |y::l,h=>by
  rw[BU]at h
  cases hx:x==y.1 with
  |true=>rw[hx]at h;cases h;rw[eq_of_beq hx];exact A8
  |false=>rw[hx]at h;exact AQ _ (lkm h)
def KbP(t:Tb)(p:(Nat×Nat×List AL)×List (Option Int)):Prop:=∀d ds,t.tbl[p.1.1]?=AA d->d.k=.fd ds->∀(K:AF) (mg:AL->Option AG) (f:AJ) (fd:Ao),FnD K mg d.nm d.st d.ps ds f fd->∃g,ybn K fd d.ps p.1.2.2 g (gK p.1.2.1 p.2)
structure Fact(t:Tb)(w:Af)(K:AF)(mg:AL->Option AG):Prop where
 X:∀x u,Az K mainGlobals x=AA u->mg x=u
 R:ybG (ycU K (cnm t)) t.tbl
 B:yeo K t=AC
 D:ybG (λp=>∀cl,GD K w mg cl p.1 p.2) t.dd
 Kb:ybG (KbP t) t.kb
 Ml:ybG (λp=>GDF K w mg (faA K t) p.1 p.2) t.ml
def zov{K:AF}{x:AL}{q:AJ}(h:nmA K x=AA q):Az K mainGlobals x=AA (AA (.ref q)):=by
 unfold nmA at h;split at h
 .cases h;assumption
 .cases h
def zbN{K:AF}{x:AL}{q:AJ}(h:Az K mainGlobals x=AA (AA (.ref q))):nmA K x=AA q:=by
 erw[nmA,h]
def zga{K:AF}{t:Tb}{c:Nat}{q:AJ}(h:nmA K (cnm t c)=AA q)(hc:(t.cn.lookup c).isSome=AC):clA K t c=q:=by
 let⟨x,e⟩:=Ad.1 hc;erw[clA,e,BB];erw[cnm,e,BL]at h;rw[h];rfl
def okH(t:Tb)(d:Df):Bool:=(yb2 t.gs d.fn.body ⟨d.N,yh d.st,AB,AC⟩ (yK d.st)).isSome&&!d.fn.pure&&ycs d.k
def okT(t:Tb)(d:Df):Bool:=okD t.gs d&&(!t.qh.contains d.gn || okH t d)&&match d.k with
 |.fn=>AC
 |.fd _=>decide (d.q=d.nm)
 |.me c=>(t.cn.lookup c).isSome
 |.ini c=>(t.cn.lookup c).isSome&&decide (d.nm="__init__")
section
variable {t:Tb}{w:Af}{K:AF}{mg:AL->Option AG}{T:Nat->Option IC.Fn}{P:A4}{base:Aq}{k:Nat}
def zcN(F:Fact t w K mg)(O:∀d∈t.tbl,okT t d=AC){i:Nat}{d:Df}(h:t.tbl[i]?=AA d):∃dv fd,yce K d dv (faA K t i) fd/\At K (cnm t) d (faA K t i)/\DvP K d dv:=by
 have hm:=AW h;let⟨dv,f,fd,h1,h2,h3⟩:=F.R.get d hm;have e:f=faA K t i:=by
  have o:=O d hm;erw[okT,AH]at o;have o:=o.2;erw[faA,h];unfold At at h2
  cases q:d.k with
  |fn=>
   rw[q]at h2;erw[zbN h2.1,BL]
  |fd ds=>
   rw[q]at h2;have h2:Az K mainGlobals d.gn=AA (AA (.ref f)):=h2;erw[zbN h2,BL]
  |me c=>
   rw[q]at h2 o;let⟨_,q',e1,e2,_⟩:=h2;erw[zga (zbN e1) o,e2]
  |ini c=>
   rw[q]at h2 o;let⟨_,q',e1,e2,_⟩:=h2;erw[AH]at o;erw[zga (zbN e1) o.1,e2]
 subst e;exact⟨dv,fd,h1,h2,h3⟩
theorem yce.binds{d:Df}{f:AJ}{fd:Ao}(R:yce K d .none f fd)(b:ya1 d):Binds K fd d.ps []:=
 Fun.binds ⟨R.ex,R.kp⟩ λkV doc pm an cdv ct us hl=>(b kV doc pm an cdv ct).get us hl
theorem yce.ok{d:Df}{dv:AG}{f:AJ}{fd:Ao}{fi m:Nat}{cl:Nat->AJ}(R:yce K d dv f fd)(hT:T fi=AA d.fn)(Sc:yaw d.N d.ps (yh d.st))(hnp:d.ps.length=d.fn.np)(hns:d.N.length=d.fn.ns)
  (body:∀(cdv:AG) (A:Ag) (outer:List BG) (s:AK) (H:Hp) (E:XK),yah m (A.deeper (envOfC d.q (yh d.st) s.heap.objs.size f cdv)) ->
   PSs (yaE (CX1 P w) P w K mg base d.N d.q (yh d.st) f cdv A outer s H E) (yK d.st) (tSs ⟨cl,yc T k,AC⟩ (yaE (CX1 P w) P w K mg base d.N d.q (yh d.st) f cdv A outer s H E) d.fn.body)):
  yaA P w K mg base (CX1 P w) (m+1) f fd d.ps (spI K cl (yc T (k+1)) fi):=by
 let⟨oc,od,kV,doc,pm,an,cdv,ct,osl,rfl,lk,hcd⟩:=R.ex;exact zpN lk hcd Sc (λvs H Q E h=>zlb hT hnp h) λA outer s H vs Q E hr h=>⟨_,body cdv A outer s H E hr,znh hT hns h⟩
def Fn2(t:Tb)(P:A4)(w:Af)(K:AF)(mg:AL->Option AG)(base:Aq)(T:Nat->Option IC.Fn)(k:Nat):Prop:=
 ∀i d dv fd,t.tbl[i]?=AA d->yce K d dv (faA K t i) fd->yaA P w K mg base (CX1 P w) (2*k) (faA K t i) fd d.ps (spI K (clA K t) (yc T k) i)
def FnH(t:Tb)(P:A4)(w:Af)(K:AF)(mg:AL->Option AG)(base:Aq)(T:Nat->Option IC.Fn)(k:Nat):Prop:=
 ∀i d fd,t.tbl[i]?=AA d->t.qh.contains d.gn=AC->yce K d .none (faA K t i) fd->ybe P w K mg base (2*k) (faA K t i) fd d.ps (spI K (clA K t) (yc T k) i)
def zgp(F:Fact t w K mg)(O:∀d∈t.tbl,okT t d=AC)(C:Fn2 t P w K mg base T k)(CH:FnH t P w K mg base T k){N:List AL}{q:AL}{sc:BZ}{f:AJ}{cdv:AG}{A:Ag}{outer:List BG}{s:AK}{H:Hp}{E:XK}:
  Glo t.gs (2*k) ⟨clA K t,yc T k,AC⟩ (yaE (CX1 P w) P w K mg base N q sc f cdv A outer s H E):=by
 have B:=F.B;erw[yeo,AH]at B;let⟨B,B2⟩:=B;erw[yde,AH,A9]at B;erw[yfk,AH,A9]at B2;let⟨⟨⟨⟨⟨b1,b2⟩,b3⟩,b4⟩,b5⟩,b6⟩:=B;let⟨⟨b7,b8⟩,b9⟩:=B2;have mgr:∀{x:AL} {a:AJ},nmA K x=AA a->mg x=AA (.ref a):=λh=>F.X _ _ (zov h);have same:∀{x y:AL} {a:AJ},(decide (x=y) || decide (nmA K x=nmA K y))=AC->nmA K y=AA a->nmA K x=AA a:=λ{x y a} h e=>by
  erw[CG,decide_eq_true_eq]at h;rcases h with rfl|h
  .exact e
  .rw[h];exact e
 refine⟨λx i h=>?_,λx i np ks sh h hk=>?_,λx v h=>?_,λx d h=>?_,λx c h=>?_,λx c i h=>?_,λx h=>?_,λy h=>?_,λc n h=>?_,λc n i h=>?_,λy D h=>?_,λx i h hv=>?_,λc y h=>?_,λd x h=>?_,λc x h=>?_,λx i h hq=>?_⟩
 .have q:=b1 _ (lkm h);erw[alB]at q;split at q
  .rename_i d hd;erw[AH]at q;let⟨dv,fd,r1,r2,r3⟩:=zcN F O hd;have hk:d.k=.fn:=by cases e:d.k<;>rw[e]at q<;>first|rfl|cases q.1
   erw[At,hk]at r2;erw[DvP,hk]at r3;subst r3;exact⟨_,fd,d.ps,C i d _ fd hd r1,mgr (same q.2 (zbN r2.1)),r1.kp,r1.binds r2.2⟩
  .cases q
 .have q:=b1 _ (lkm h);erw[alB]at q;split at q
  .rename_i d hd;erw[AH]at q;let⟨dv,fd,r1,r2,r3⟩:=zcN F O hd;obtain⟨ds,hk'⟩:∃ds,d.k=.fd ds:=by cases e:d.k<;>rw[e]at q<;>first|exact⟨_,rfl⟩|cases q.1
   erw[At,hk']at r2;erw[DvP,hk']at r3;let⟨dT,o,its,n,rfl,e1,e2,e3⟩:=r3;have oo:=O d (AW hd);erw[okT,hk',AH,decide_eq_true_eq]at oo;have D:FnD K (λ_=>AA (.ref (faA K t i))) d.nm d.st d.ps ds (faA K t i) fd:=by
    let⟨oc,od,kV,doc,pm,an,cdv,ct,osl,z1,z2,z3⟩:=r1.ex;rw[oo.2]at z1 z3;exact⟨⟨oc,od,dT,kV,doc,pm,an,cdv,ct,osl,o,its,n,z1,z2,z3,e1,e2,e3⟩,r1.kp,rfl⟩
   exact⟨_,fd,d.ps,C i d _ fd hd r1,mgr (same q.2 (zbN r2)),r1.kp,F.Kb.get _ (lkm hk) d ds hd hk' K _ _ _ D⟩
  .cases q
 .have q:=b1 _ (lkm h);erw[alB,AH]at q;let⟨q0,q⟩:=q;split at q
  .rename_i u hu;let⟨⟨y,r,z⟩,_⟩:=Ad.1 q;have hm:=F.X _ _ hu
   cases v with
   |int i=>
    have z:=z (λ_=>0) (λ_=>False) [] (λ_=>AD);erw[yd]at z;subst z;let⟨tk,rfl⟩:=r;exact .inr ⟨i,rfl,tk,hm⟩
   |tp b vs=>
    have z0:=z (λ_=>0) (λ_=>False) [] (λ_=>AD);erw[yd]at z0;let⟨a,xs,rfl,_⟩:=z0;have r:u=.ref a:=r;subst r;exact .inl ⟨a,hm,λB φ H=>z _ B φ H⟩
   |_=>cases q0
  .cases q
 .have q:=b1 _ (lkm h);erw[alB,Ck,AH,decide_eq_true_eq]at q;let⟨p,hp,rfl,q⟩:=q;let⟨⟨e⟩,_⟩:=Ad.1 q;rw[<-e];exact F.D.get p hp _
 .have q:=b1 _ (lkm h);erw[alB,AH,decide_eq_true_eq,Cg]at q;let⟨q1,q2,q3⟩:=q;let⟨a,ha⟩:=Ad.1 q2;have e:clA K t c=a:=by erw[clA,q1,BB,ha,BL]
  erw[ha,FT]at q3;exact⟨by show mg x=AA (.ref (clA K t c));rw[e];exact mgr ha,by show D7 K (clA K t c) _ _=AC;rw[e];exact q3⟩
 .have q:=b1 _ (lkm h);erw[alB,AH,decide_eq_true_eq]at q;let⟨⟨q1,q2⟩,q3⟩:=q;let⟨a,ha⟩:=Ad.1 q2;have e:clA K t c=a:=by erw[clA,q1,BB,ha,BL]
  split at q3
  .rename_i d hd
   cases hk:d.k with
   |ini c'=>
    rw[hk]at q3;erw[AH,decide_eq_true_eq]at q3;let⟨rfl,hn⟩:=q3;let⟨dv,fd,r1,r2,r3⟩:=zcN F O hd;erw[At,hk]at r2;erw[DvP,hk]at r3;subst r3;let⟨r0,q',r4,r5,r6,r7,r8⟩:=r2;have e2:q'=a:=by
     have:nmA K (cnm t c')=AA q':=zbN r4;erw[cnm,q1,BL,ha]at this;exact(AY this).symm
    subst e2;rw[hn]at r5;refine⟨by show mg x=AA (.ref (clA K t c'));rw[e];exact mgr ha,_,fd,d.ps,?_,C i d _ fd hd r1,r1.binds r0⟩;show Mk K (clA K t c') _;rw[e];exact⟨r7,r5,r6,r8⟩
   |_=>rw[hk]at q3;cases q3
  .cases q3
 .have q:x∈t.bs:=by simpa [Tb.gs] using h
  have:=b2 x q;erw[decide_eq_true_eq]at this;exact F.X _ _ this
 .simp only[Tb.gs,Ck]at h;let⟨y',hy,e⟩:=h;have:=zo5 e;subst this;have q:=b3 y hy;erw[yfi,AH,decide_eq_true_eq]at q;exact⟨q.1.1.1.1.1,q.1.1.1.1.2,q.1.1.1.2,q.1.1.2,q.1.2,q.2⟩
 .have q:(c,n)∈t.fl:=by simpa [Tb.gs] using h
  have q:=b4 _ q;erw[AH,Cg,decide_eq_true_eq]at q;let⟨q1,q2,q3⟩:=q;let⟨a,ha⟩:=Ad.1 q2;erw[ha,FT]at q3;have e:clA K t c=a:=zga ha q1;show Cls K (clA K t c)/\yac K (clA K t c) n;rw[e];exact⟨zhH q3.1,q3.2⟩
 .have q:=b5 _ (lkm h);erw[AH,Cg,decide_eq_true_eq]at q;let⟨q1,q2,q3,q4⟩:=q;let⟨a,ha⟩:=Ad.1 q2;erw[ha,FT]at q3;have e:clA K t c=a:=zga ha q1;split at q4
  .rename_i d hd;erw[AH,decide_eq_true_eq]at q4;let⟨q4,hn⟩:=q4
   cases hk:d.k with
   |me c'=>
    rw[hk]at q4;have q4:c'=c:=by simpa using q4
    subst q4;let⟨dv,fd,r1,r2,r3⟩:=zcN F O hd;erw[At,hk]at r2;erw[DvP,hk]at r3;subst r3;let⟨r0,q',r4,r5,r6⟩:=r2;have e2:q'=a:=AY ((zbN r4).symm.trans ha);subst e2;refine⟨by show Cls K (clA K t c');rw[e];exact zhH q3,_,fd,d.ps,?_,C i d _ fd hd r1,r1.binds r0⟩;show Meth K (clA K t c') n _;rw[e,<-hn];exact⟨r5,r6,r1.kp⟩
   |_=>rw[hk]at q4;cases q4
  .cases q4
 .have q:=b6 _ (lkm h);have g:∀s j,D.lookup s=AA j->∃d dv fd,t.tbl[j]?=AA d/\yce K d dv (faA K t j) fd/\dv=.none/\ya1 d/\fd=fdA K t j/\d.ps=psA t j:=λs j hj=>by
   have q:=q _ (lkm hj);split at q
   .rename_i d hd;let⟨dv,fd,r1,r2,r3⟩:=zcN F O hd;have hk:d.k=.fn:=by cases e:d.k<;>rw[e]at q<;>first|rfl|cases q
    erw[At,hk]at r2;erw[DvP,hk]at r3;let⟨oc,od,kV,doc,pm,an,cdv,ct,osl,_,lk,_⟩:=r1.ex;exact⟨d,dv,fd,hd,r1,r3,r2.2,by erw[fdA,lk],by erw[psA,hd]⟩
   .cases q
  refine⟨faA K t,fdA K t,psA t,⟨λs j hj=>?_,λs j hj=>?_,λs j hj=>?_⟩,F.Ml.get _ (lkm h)⟩
  .let⟨d,dv,fd,h1,h2,h3,h4,h5,h6⟩:=g s j hj;rw[<-h5,<-h6];exact C j d dv fd h1 h2
  .let⟨d,dv,fd,h1,h2,h3,h4,h5,h6⟩:=g s j hj;exact h2.kp
  .let⟨d,dv,fd,h1,h2,h3,h4,h5,h6⟩:=g s j hj;subst h3;rw[<-h5,<-h6];exact h2.binds h4
 .have q:=b1 _ (lkm h);erw[alB]at q;split at q
  .rename_i d hd;erw[AH]at q;let⟨dv,fd,r1,r2,r3⟩:=zcN F O hd;have hk:d.k=.fn:=by cases e:d.k<;>rw[e]at q<;>first|rfl|cases q.1
   erw[At,hk]at r2;have hn:=same q.2 (zbN r2.1);have e:t.cn.lookup (1000+i)=AA x:=of_decide_eq_true hv;have z:clA K t (1000+i)=faA K t i:=by erw[clA,e,BB,hn,BL]
   show mg x=AA (.ref (clA K t (1000+i)));rw[z];exact mgr hn
  .cases q
 .let⟨p,hp,q⟩:=Ck.1 h;erw[AH,beq_iff_eq]at q;let⟨rfl,q⟩:=q;have:=zow q;subst this;have b:=b7 p hp;erw[decide_eq_true_eq]at b;exact⟨zmB b.1,b.2⟩
 .have b:=b8 _ (F1.1 h);erw[decide_eq_true_eq]at b;let⟨a,ha⟩:=Ad.1 b.2;have e:clA K t d=a:=by erw[clA,b.1,BB,ha,BL]
  show mg x=AA (.ref (clA K t d));rw[e];exact mgr ha
 .have b:=b9 _ (F1.1 h)
  cases ha:nmA K x with
  |none=>rw[ha]at b;cases b
  |some W=>
   rw[ha]at b;exact⟨W,mgr ha,of_decide_eq_true b⟩
 .have q:=b1 _ (lkm h);erw[alB]at q;split at q
  .rename_i d hd;erw[AH]at q;let⟨dv,fd,r1,r2,r3⟩:=zcN F O hd;have hk:d.k=.fn:=by cases e:d.k<;>rw[e]at q<;>first|rfl|cases q.1
   erw[At,hk]at r2;erw[DvP,hk]at r3;subst r3;have hq:t.qh.contains d.gn=true:=by simpa only[Tb.gs,hd] using hq
   exact⟨_,fd,d.ps,CH i d fd hd hq r1,mgr (same q.2 (zbN r2.1)),r1.kp,r1.binds r2.2⟩
  .cases q
def zhJ(F:Fact t w K mg)(O:∀d∈t.tbl,okT t d=AC)(hT:∀i d,t.tbl[i]?=AA d->T i=AA d.fn):∀k,Fn2 t P w K mg base T k/\FnH t P w K mg base T k
 |0=>⟨λi d dv fd _ _=>zje,λi d fd _ _ _=>zj0⟩
 |k+1=>by
  have ih:=zhJ F O hT k;refine⟨λi d dv fd h R=>?_,λi d fd h hq R=>?_⟩
  .have o:=O d (AW h);erw[okT,okD,AH,decide_eq_true_eq]at o;let⟨⟨⟨⟨⟨o1,o2⟩,o3⟩,o4⟩,_⟩,_⟩:=o;let⟨⟨y⟩,_⟩:=Ad.1 o4;exact R.ok (m:=2*k+1) (hT i d h) (zla o1) o2 o3 λ_ _ _ _ _ _ hr=>y (2*k) _ _ ⟨rfl,rfl,λ_=>rfl,hr.h,λ_=>hr.hd,λ_=>⟨own1,λ_=>rfl,rfl⟩,λ_=>⟨⟨_,rfl⟩,rfl,rfl⟩,zgp F O ih.1 ih.2⟩
  .have o:=O d (AW h);erw[okT,okD,AH,decide_eq_true_eq]at o;let⟨⟨⟨⟨⟨o1,o2⟩,o3⟩,_⟩,oq⟩,_⟩:=o;have oh:okH t d=true:=by rw[hq]at oq;simpa using oq
   erw[okH,AH,Bl]at oh;let⟨⟨y⟩,_⟩:=Ad.1 oh.1.1;refine zoe (m:=2*k+1) (hT i d h) ⟨R.ex,R.kp⟩ (zla o1) o2 o3 oh.1.2 λcdv A outer s H hr=>y (2*k) _ _ ⟨rfl,rfl,(λh=>nomatch h),hr,(λh=>nomatch h),(λh=>nomatch h),(λh=>nomatch h),?_⟩;have G:=zgp (N:=d.N) (q:=d.q) (sc:=yh d.st) (f:=faA K t i) (cdv:=cdv) (A:=A) (outer:=outer) (s:=s) (H:=H) (E:=E0) F O ih.1 ih.2;exact⟨G.F,G.Q,G.C,G.D,G.E,G.N,G.B,G.T,G.A,G.M,λy D h=>let ⟨fa,fdd,ps,M,d⟩:=G.K y D h;⟨fa,fdd,ps,⟨M.F,M.kp,M.b⟩,d⟩,G.V,G.I,G.L,G.H,G.Z⟩
def zlK(F:Fact t w K mg)(O:∀d∈t.tbl,okT t d=AC)(hT:∀i d,t.tbl[i]?=AA d->T i=AA d.fn)(k:Nat):Fn2 t P w K mg base T k:=(zhJ F O hT k).1
def ycT:Nat->(List AG->Prop)->Prop
 |0,P=>P []
 |n+1,P=>∀a,ycT n λus=>P (a::us)
theorem ycT.get:∀{n:Nat} {P:List AG->Prop},ycT n P->∀us,us.length=n->P us
 |0,P,h,[],_=>h
 |n+1,P,h,a::us,e=>(h a).get us (by simpa using e)
theorem kbP{i np:Nat}{ks:List AL}{sh:List (Option Int)}{d:Df}{ds:List Int}(hd:t.tbl[i]?=AA d)(hk:d.k=.fd ds)(h1:ks.length=nKw sh)(h2:sh.length=(ds.drop (ds.length-sh.length)).length)
  (h3:((sh.zip (ds.drop (ds.length-sh.length))).all λp=>p.1.all λi=>decide (i=p.2))=AC) (hp:0<d.ps.length)
  (h:∀(dT:AJ) (kV doc pm:AG) (an:Option AJ) (cdv ct:AG),ycT np λus=>ycT ks.length λws=>ycT ds.length λits=>
   ∃k,bindArgs (BS d.nm d.nm (yU d.st) (yK d.st) (yh d.st) (.ref dT) kV doc pm an cdv ct) ⟨us,ks.zip ws⟩=seqItems? (.ref dT) >>= k/\k (AA its.toArray)=pure (d.ps.zip (us++yaV sh ws (its.drop (ds.length-sh.length))))):KbP t ((i,np,ks),sh):=by
 intro d' ds' e1 e2 K mg f fd D;have e1:t.tbl[i]?=AA d':=e1;rw[hd]at e1
 cases e1
 rw[hk]at e2
 cases e2
 exact kbD D h1 h2 h3 (λdT kV doc pm an cdv ct us ws its z1 z2 z3=>(((h dT kV doc pm an cdv ct).get us z1).get ws z2).get its z3) hp
theorem all_mk2{h:Aq}{fx:AJ}(X:K.In h)(G:h.Ns mainGlobals mg)(hfa:mg "law"=AA (.ref fx))(R:ybG (ycU K (cnm t)) t.tbl)(B:yeo K t=AC)(D:ybG (λp=>∀cl,GD K w mg cl p.1 p.2) t.dd)(Kb:ybG (KbP t) t.kb)(Ml:ybG (λp=>GDF K w mg (faA K t) p.1 p.2) t.ml)
  (O:t.tbl.all (okT t)=AC) (hT:∀i d,t.tbl[i]?=AA d->T i=AA d.fn) {L:Nat} {st:B9} {N:List AL} {fn:IC.Fn} (hL:t.tbl[L]?=AA ⟨"law","law","law",st,N,["_law_script"],fn,.fn⟩) (lvl:Nat):
  ∃fd:Ao,(∀(s:AK) (v:AG),EY s fd ⟨[v],[]⟩ [("_law_script",v)])/\∀base:Aq,K.In base->base.Ns mainGlobals mg->yaA P w K mg base (CX1 P w) (2*lvl) fx fd ["_law_script"] (spX K (yc T lvl) L):=by
 have F:Fact t w K mg:=⟨λx u e=>by
  cases u with
  |none=>exact PySem.W.mg_none_of X G e
  |some v=>exact El X G e,R,B,D,Kb,Ml⟩
 have O':=A9.1 O;let⟨dv,fd,r1,r2,r3⟩:=zcN F O' hL;have r3:dv=.none:=r3;subst r3;have r2:Az K mainGlobals "law"=AA (AA (.ref (faA K t L)))/\ya1 _:=r2;have e:=Hn (AY (hfa.symm.trans (El X G r2.1)));subst e;refine⟨fd,λs v=>?_,λbase _ _=>(zlK F O' hT lvl L _ _ fd hL r1).imp λ_ _ _ _ h=>h _⟩;let⟨oc,od,kV,doc,pm,an,cdv,ct,osl,rfl,_⟩:=r1.ex;exact .of_eq (r2.2 kV doc pm an cdv ct v)
end
end L2
namespace IC
open PySem
def yiD:List (AL×Nat):=[(AE "sum",81),(AE "difference",82),(AE "turned",83),(AE "both",84),(AE "any",85),(AE "odd",86),(AE "bare",87),(AE "left",88),(AE "right",89),(AE "down",90),(AE "roll",91),(AE "product",92),(AE "signed product",93),(AE "quotient",94),(AE "signed quotient",95)]
def ydR:List (AL×Nat):=[(AE "comes",76),(AE "ran",117)]
def ya:List (AL×Nat):=[(AE "move",98),(AE "bare",99),(AE "sum",100),(AE "less",101),(AE "both",102),(AE "any",103),(AE "odd",104),(AE "twice",105),(AE "half",106)]
def ygX:PV:=(.tp AC [(.str "f"),(.tp AC [(.int 0),(.int 0),(.int 0),(.int 0)])])
def yiE:PV:=(.tp AC [(.str "p"),(.tp AC [(.int 0),(.int 0),(.int 0),(.int 0)])])
def yjd:PV:=(.tp AC [(.int 0),(.int 0),(.int 1)])
def yi:PV:=(.tp AC [(.int 0),(.int 1),(.int 0)])
def yje:PV:=(.int 10000000000000000000000000000000000000000)
def yhA:PV:=(.tp AC [(.str "g"),(.tp AC [(.int 0),(.int 0),(.int 0),(.int 0)])])
def yho:PV:=(.tp AC [(.str "h"),(.tp AC [(.int 0),(.int 0),(.int 0),(.int 0)])])
def yjf:PV:=(.tp AC [(.str "turned"),(.str "bare")])
def yiF:PV:=(.tp AC [(.str "w"),(.tp AC [(.int 0),(.int 0),(.int 0),(.int 0)])])
def yev:PV:=(.tp AC [(.str "l"),(.tp AC [(.int 0),(.int 0),(.int 0),(.int 0)])])
def yb:PV:=(.tp AC [(.tp AC [(.str "m"),(.tp AC [(.int 0),(.int 0),(.int 0),(.int 0)])]),(.tp AC [(.str "m"),(.tp AC [(.int 1),(.int 0),(.int 0),(.int 0)])]),(.tp AC [(.str "m"),(.tp AC [(.int 2),(.int 0),(.int 0),(.int 0)])]),(.tp AC [(.str "m"),(.tp AC [(.int 3),(.int 0),(.int 0),(.int 0)])])])
def yjg:PV:=(.int 4)
def yky:PV:=(.int 2)
def yjh:PV:=(.int 4000)
def yji:PV:=(.int 4000)
def ykz:PV:=(.int 20)
def ykA:PV:=(.int 2)
def yjj:PV:=(.int 200)
def ycM:PV:=(.tp AC [(.str "z"),(.tp AC [(.int 0),(.int 0),(.int 0),(.int 0)])])
def yhB:PV:=(.tp AC [(.str "o"),(.tp AC [(.int 0),(.int 0),(.int 0),(.int 0)])])
def yiG:PV:=(.tp AC [(.str "sum"),(.str "difference"),(.str "compare"),(.str "both"),(.str "any"),(.str "odd"),(.str "product"),(.str "signed product"),(.str "quotient"),(.str "signed quotient")])
def yjk:PV:=(.tp AC [(.str "both"),(.str "any"),(.str "odd")])
def yhV:PV:=(.tp AC [(.str "product"),(.str "signed product")])
def yfb:PV:=(.tp AC [(.str "quotient"),(.str "signed quotient")])
def yhC:PV:=(.tp AC [(.str "s"),(.tp AC [(.int 0),(.int 0),(.int 0),(.int 0)])])
def yhD:PV:=(.tp AC [(.str "left"),(.str "right"),(.str "down"),(.str "roll")])
def yY:PV:=(.tp AC [(.str "k"),(.tp AC [(.int 0),(.int 0),(.int 0),(.int 0)])])
def yet:PV:=(.tp AC [(.str "i"),(.tp AC [(.int 0),(.int 0),(.int 0),(.int 0)])])
def yf7:PV:=(.tp AC [(.str "j"),(.tp AC [(.int 0),(.int 0),(.int 0),(.int 0)])])
def ydc:PV:=(.tp AC [(.str "t"),(.tp AC [(.int 0),(.int 0),(.int 0),(.int 0)])])
def ybE:List (AL×PV):=[(AE "set",(.tp AC [(.str "cell"),(.str "figure")])),(AE "move",(.tp AC [(.str "cell"),(.str "cell")])),(AE "bare",(.tp AC [(.str "cell"),(.str "cell")])),(AE "sum",(.tp AC [(.str "cell"),(.str "cell"),(.str "cell")])),(AE "less",(.tp AC [(.str "cell"),(.str "cell"),(.str "cell")])),(AE "both",(.tp AC [(.str "cell"),(.str "cell"),(.str "cell")])),(AE "any",(.tp AC [(.str "cell"),(.str "cell"),(.str "cell")])),(AE "odd",(.tp AC [(.str "cell"),(.str "cell"),(.str "cell")])),(AE "twice",(.tp AC [(.str "cell"),(.str "cell")])),(AE "half",(.tp AC [(.str "cell"),(.str "cell")])),(AE "times",(.tp AC [(.str "cell"),(.str "cell"),(.str "cell"),(.str "cell")])),(AE "mark",(.tp AC [(.str "figure")])),(AE "ask",(.tp AC [(.str "cell")]))]
section yb
local macro_rules|`(#[$x,*])=>do
 let mut a←`(.e)
 for y in x.getElems.reverse do a←`(.k $y $a)
 pure a
def yjl:Fn:=⟨5,5,AC,#[.ret (.tup #[.v 0,.tup #[.v 1,.v 2,.v 3,.v 4]])]⟩
def yjm:Fn:=⟨1,1,AC,#[.ret (.call 0 (yI #[.v 0,.neg (.i 1)] (yg [.inr 0,.inr 0,.inl (.i 1)])))]⟩
def yjn:Fn:=⟨1,1,AC,#[.ret (.blt .tuple #[.comp [AD] (.n 0) (.seq (.v 0)) (.cst (.bl AC)) (.tup #[.s "row",.v 0])])]⟩
def yjo:Fn:=⟨3,3,AC,#[.ret (.tup #[.tup #[.s "rounds",.v 0,.v 1,.v 2]])]⟩
def yjp:Fn:=⟨5,5,AC,#[.ret (.tup #[.s "slice",.v 0,.tup #[.i 0,.i 0,.i 0,.i 0],.tup #[.v 1,.v 2,.v 3,.v 4]])]⟩
def yjq:Fn:=⟨6,6,AC,#[.ret (.tup #[.v 0,.tup #[.i 0,.v 2,.i 0,.v 3,.v 4,.v 5],.v 1])]⟩
def yjr:Fn:=⟨3,4,AC,#[.asg (.n 3) (.tup #[.call 5 (yI #[.i 1,.tup #[.call 4 (yI #[.v 1] (yg [.inr 0,.inl (.i 1),.inr 0,.inr 0]))]] (yg [.inr 0,.inr 0,.inr 0,.inr 0])),.call 5 (yI #[.neg (.i 1),.tup #[.call 4 (yI #[.v 0] (yg [.inr 0,.inl (.i 1),.inr 0,.inr 0]))]] (yg [.inr 0,.inr 0,.inr 0,.inr 0]))]),.ret (.call 3 #[.tup #[.v 2,.i 1,.i 0],.v 3,.call 2 #[.lst #[.tup #[.s "move",.call 0 (yI #[.v 0] (yg [.inr 0,.inl (.i 1),.inr 0,.inr 0])),.call 0 (yI #[.v 1] (yg [.inr 0,.inl (.i 1),.inr 0,.inr 0]))]]]])]⟩
def yjs:Fn:=⟨2,2,AC,#[.ret (.call 3 #[.v 1,.tup .e,.call 2 #[.lst #[.tup #[.s "twice",.call 0 (yI #[.v 0] (yg [.inr 0,.inr 0,.inl (.i 1),.inr 0])),.call 0 (yI #[.v 0] (yg [.inr 0,.inr 0,.inl (.i 1),.inr 0]))]]]])]⟩
def yjt:Fn:=⟨1,1,AC,#[.ret (.tup #[.s "sum",.v 0,.cst ycM,.cst ycM])]⟩
def yju:Fn:=⟨1,1,AC,#[.ret (.lst #[.tup #[.s "set",.v 0,.i 1],.tup #[.s "less",.v 0,.v 0,.cst ycM]])]⟩
def yjv:Fn:=⟨2,2,AC,#[.ret (.lst #[.tup #[.s "twice",.cst ydc,.v 1],.tup #[.s "less",.v 0,.cst ycM,.cst ycM]])]⟩
def yjw:Fn:=⟨4,4,AC,#[.ret (.call 3 #[.v 3,.tup .e,.call 2 #[.lst #[.tup #[.s "odd",.cst ydc,.v 1,.v 2],.tup #[.s "any",.v 0,.v 0,.cst ydc]]]])]⟩
def yjx:Fn:=⟨3,4,AC,#[.asg (.n 3) (.tup #[.s "any",.cst yhC,.cst yhC,.call 0 (yI #[.v 0] (yg [.inr 0,.inl (.i 1),.inr 0,.inl (.v 1)]))]),.ret (.bin .add (.bin .add (.call 2 #[.lst #[.tup #[.s "set",.cst yhC,.i 0]]]) (.call 3 #[.v 2,.tup .e,.call 2 #[.lst #[.v 3]]])) (.call 2 #[.lst #[.tup #[.s "ask",.cst yhC]]]))]⟩
def yjy:Fn:=⟨2,3,AC,#[.asg (.n 2) (.lst #[.tup #[.s "twice",.cst ydc,.call 0 (yI #[.s "c",.bin .sub (.v 0) (.i 1)] (yg [.inr 0,.inr 0,.inl (.v 1)]))],.call 8 #[.idx (.cst yb) (.i 3)]]),.ret (.bin .add (.call 12 #[.s "c",.i 0,.tup #[.v 0,.v 1,.i 0]]) (.call 2 #[.bin .add (.call 9 #[.idx (.cst yb) (.i 2)]) (.v 2)]))]⟩
def yjz:Fn:=⟨0,1,AC,#[.asg (.n 0) (.bin .add (.call 12 #[.s "c",.i 1,.cst yi]) (.call 2 #[.lst #[.call 8 #[.idx (.cst yb) (.i 1)]]])),.ret (.bin .add (.bin .add (.call 15 .e) (.v 0)) (.call 13 #[.i 0,.i 2]))]⟩
def yjA:Fn:=⟨0,3,AC,#[.asg (.n 0) (.tup #[.call 5 (yI #[.i 1,.tup #[.call 4 (yI #[.s "c"] (yg [.inr 0,.inl (.i 1),.inr 0,.inl (.i 1)]))]] (yg [.inr 0,.inr 0,.inr 0,.inr 0])),.call 5 (yI #[.neg (.i 1),.tup #[.call 4 (yI #[.s "a"] (yg [.inr 0,.inr 0,.inr 0,.inl (.i 1)])),.call 4 (yI #[.s "b"] (yg [.inr 0,.inl (.i 1),.inr 0,.inr 0]))]] (yg [.inr 0,.inr 0,.inr 0,.inr 0]))]),.asg (.n 1) (.call 2 #[.lst #[.tup #[.s "mark",.i 0],.tup #[.s "set",.cst yhB,.i 0]]]),.asg (.n 2) (.call 2 #[.lst #[.tup #[.s "move",.call 0 (yI #[.s "c"] (yg [.inr 0,.inl (.i 1),.inr 0,.inl (.i 1)])),.cst yhB]]]),.ret (.call 3 #[.cst yi,.v 0,.bin .add (.bin .add (.v 1) (.call 16 .e)) (.v 2)])]⟩
def yjB:Fn:=⟨0,3,AC,#[.asg (.n 0) (.call 0 (yI #[.s "c"] (yg [.inr 0,.inl (.i 1),.inl (.i 1),.inr 0]))),.asg (.n 1) (.tup #[.s "slice",.s "b",.tup #[.i 0,.i 1,.i 0,.i 0],.tup #[.i 1,.i 1,.i 0,.i 0]]),.asg (.n 2) (.tup #[.call 5 (yI #[.i 1,.tup #[.call 4 (yI #[.s "c"] (yg [.inr 0,.inl (.i 1),.inr 0,.inl (.i 1)]))]] (yg [.inr 0,.inr 0,.inr 0,.inr 0])),.call 5 (yI #[.i 1,.tup #[.call 4 (yI #[.s "o",.i 1] (yg [.inr 0,.inr 0,.inr 0]))]] (yg [.inr 0,.inl (.i 1),.inl (.i 1),.inr 0])),.call 5 (yI #[.neg (.i 1),.tup #[.call 4 (yI #[.s "a"] (yg [.inr 0,.inr 0,.inr 0,.inl (.i 1)])),.call 4 (yI #[.s "b"] (yg [.inr 0,.inl (.i 1),.inr 0,.inr 0]))]] (yg [.inr 0,.inr 0,.inr 0,.inr 0])),.call 5 (yI #[.neg (.i 1),.tup #[.call 4 (yI #[.s "a"] (yg [.inr 0,.inr 0,.inl (.i 1),.inr 0])),.v 1]] (yg [.inr 0,.inl (.i 1),.inr 0,.inr 0]))]),.ret (.call 3 #[.cst yi,.v 2,.call 2 #[.lst #[.tup #[.s "times",.cst yev,.cst yho,.call 0 (yI #[.s "a"] (yg [.inr 0,.inr 0,.inl (.i 1),.inr 0])),.call 0 (yI #[.s "b"] (yg [.inr 0,.inl (.i 1),.inr 0,.inr 0]))],.tup #[.s "sum",.cst yev,.cst yev,.cst yhB],.tup #[.s "sum",.cst yho,.cst yho,.cst ycM],.tup #[.s "sum",.v 0,.v 0,.cst yev],.tup #[.s "sum",.cst yhB,.cst yho,.cst ycM]]]])]⟩
def yjC:Fn:=⟨0,0,AC,#[.ret (.bin .add (.bin .add (.call 19 #[.s "a",.s "b",.s "c",.s "d"]) (.call 18 .e)) (.call 13 #[.i 0,.i 1]))]⟩
def yjD:Fn:=⟨0,0,AC,#[.ret (.bin .add (.call 12 #[.s "b",.i 0,.cst yi]) (.call 2 #[.call 9 #[.idx (.cst yb) (.i 0)]]))]⟩
def yjE:Fn:=⟨4,6,AC,#[.asg (.n 4) (.tup #[.call 5 (yI #[.i 1,.tup #[.call 4 (yI #[.v 0] (yg [.inr 0,.inr 0,.inr 0,.inl (.i 1)]))]] (yg [.inl (.i 1),.inr 0,.inr 0,.inr 0])),.call 5 (yI #[.neg (.i 1),.tup #[.call 4 (yI #[.v 2] (yg [.inr 0,.inr 0,.inr 0,.inl (.i 1)])),.call 4 (yI #[.v 1] (yg [.inr 0,.inr 0,.inr 0,.inl (.i 1)]))]] (yg [.inr 0,.inr 0,.inr 0,.inl (.i 1)])),.call 5 (yI #[.neg (.i 1),.tup #[.call 4 (yI #[.v 3,.i 1] (yg [.inr 0,.inr 0,.inl (.i 1)]))]] (yg [.inr 0,.inr 0,.inr 0,.inl (.i 1)])),.call 5 (yI #[.neg (.i 1),.tup #[.call 4 (yI #[.s "e"] (yg [.inr 0,.inr 0,.inr 0,.inl (.i 1)]))]] (yg [.inr 0,.inr 0,.inr 0,.inr 0]))]),.asg (.n 5) (.bin .add (.bin .add (.bin .add (.call 20 #[.v 3]) (.call 21 #[.v 3,.v 1])) (.call 22 #[.v 3,.v 1])) (.call 23 #[.v 2])),.ret (.bin .add (.call 6 (yI #[.s "e",.v 0] (yg [.inr 0]))) (.call 3 #[.cst yjd,.v 4,.v 5]))]⟩
def yjF:Fn:=⟨1,1,AC,#[.ret (.bin .add (.bin .add (.call 2 #[.lst #[.tup #[.s "mark",.i 0]]]) (.call 7 #[.s "e",.cst yi])) (.call 7 #[.v 0,.tup #[.i 1,.i 1,.i 0]]))]⟩
def yjG:Fn:=⟨2,4,AC,#[.asg (.n 2) (.tup #[.s "less",.call 0 (yI #[.v 0] (yg [.inr 0,.inr 0,.inl (.i 1),.inr 0])),.call 0 (yI #[.v 0] (yg [.inr 0,.inr 0,.inl (.i 1),.inr 0])),.call 0 (yI #[.v 1] (yg [.inr 0,.inr 0,.inl (.i 1),.inr 0]))]),.asg (.n 3) (.call 0 (yI #[.v 0] (yg [.inr 0,.inr 0,.inr 0,.inl (.i 1)]))),.ret (.bin .add (.call 3 #[.cst yi,.tup .e,.call 2 #[.lst #[.v 2]]]) (.call 2 #[.lst #[.tup #[.s "less",.v 3,.v 3,.cst ycM]]]))]⟩
def yjH:Fn:=⟨2,5,AC,#[.asg (.n 2) (.lst #[.tup #[.s "both",.cst ydc,.call 0 (yI #[.v 1] (yg [.inr 0,.inr 0,.inl (.i 1),.inr 0])),.cst ygX],.tup #[.s "sum",.call 0 (yI #[.v 0] (yg [.inr 0,.inr 0,.inl (.i 1),.inr 0])),.call 0 (yI #[.v 0] (yg [.inr 0,.inr 0,.inl (.i 1),.inr 0])),.cst ydc]]),.asg (.n 3) (.call 0 (yI #[.v 0] (yg [.inr 0,.inr 0,.inr 0,.inl (.i 1)]))),.asg (.n 4) (.call 2 #[.lst #[.tup #[.s "less",.cst ygX,.cst ycM,.cst ycM],.tup #[.s "mark",.i 0]]]),.ret (.bin .add (.bin .add (.v 4) (.call 3 #[.cst yi,.tup .e,.call 2 #[.v 2]])) (.call 2 #[.lst #[.tup #[.s "sum",.v 3,.v 3,.cst ycM]]]))]⟩
def yjI:Fn:=⟨1,1,AC,#[.ret (.bin .add (.call 2 #[.lst #[.tup #[.s "bare",.cst ygX,.cst ygX],.tup #[.s "ask",.cst ygX]]]) (.call 7 #[.v 0,.cst yi]))]⟩
def yhu:Fn:=⟨3,3,AC,#[.ret (.and (.isi (.v 0) [.int]) (.and (.not (.isi (.v 0) [.bool])) (.chain .le .le (.v 1) (.v 0) (.v 2))))]⟩
def yiH:Fn:=⟨1,1,AC,#[.ret (.and (.isi (.v 0) [.str]) (.and (.cmp .eq (.blt .len #[.v 0]) (.i 1)) (.chain .le .le (.s "a") (.v 0) (.s "z"))))]⟩
def yjJ:Fn:=⟨2,2,AC,#[.ite (.or (.not (.isi (.v 0) [.tuple])) (.cmp .ne (.blt .len #[.v 0]) (.v 1))) #[.nope] .e,.ret (.blt .all #[.comp [AD] (.n 0) (.seq (.v 0)) (.cst (.bl AC)) (.call 24 #[.v 0,.neg (.cst yjj),.cst yjj])])]⟩
def yjK:Fn:=⟨0,1,AC,#[.asg (.n 0) (.bin .add (.call 29 #[.cst yet,.s "a"]) (.call 29 #[.cst yf7,.s "b"])),.ret (.bin .add (.bin .add (.bin .add (.bin .add (.bin .add (.v 0) (.call 15 .e)) (.call 31 .e)) (.call 32 .e)) (.call 36 .e)) (.call 13 #[.i 0,.i 2]))]⟩
def yjL:Fn:=⟨0,3,AC,#[.asg (.n 0) (.bin .add (.bin .add (.call 29 #[.cst yet,.s "a"]) (.call 29 #[.cst yf7,.s "b"])) (.call 2 #[.lst #[.tup #[.s "odd",.cst yY,.cst yet,.cst yf7]]])),.asg (.n 1) (.bin .add (.call 37 #[.cst yet,.s "u",.s "a"]) (.call 37 #[.cst yf7,.s "v",.s "b"])),.asg (.n 2) (.bin .add (.call 37 #[.cst yY,.s "c",.s "q"]) (.call 37 #[.cst yet,.s "d",.s "r"])),.ret (.bin .add (.bin .add (.bin .add (.bin .add (.bin .add (.bin .add (.v 0) (.v 1)) (.call 19 #[.s "u",.s "v",.s "q",.s "r"])) (.v 2)) (.call 18 .e)) (.call 38 .e)) (.call 13 #[.i 0,.i 1]))]⟩
def yjM:Fn:=⟨2,2,AC,#[.ret (.call 2 #[.lst #[.tup #[.s "twice",.cst ydc,.call 1 #[.v 1]],.call 8 #[.v 0]]])]⟩
def yjN:Fn:=⟨1,1,AC,#[.ret (.call 4 (yI #[.idx (.v 0) (.i 0),.i 1] (yg [.inr 0,.inr 0,.inr 0])))]⟩
def yjO:Fn:=⟨0,0,AC,#[.ret (.bin .add (.call 35 #[.cst yet,.s "b",.bin .add (.call 33 .e) (.call 34 #[.cst yet,.s "b"])]) (.call 2 #[.lst #[.call 8 #[.cst yiE]]]))]⟩
def yjP:Fn:=⟨0,1,AC,#[.asg (.n 0) (.tup #[.call 5 (yI #[.i 1,.tup #[.call 30 #[.cst yet],.call 4 (yI #[.s "b"] (yg [.inr 0,.inr 0,.inr 0,.inl (.i 1)]))]] (yg [.inr 0,.inr 0,.inr 0,.inl (.i 1)])),.call 5 (yI #[.neg (.i 1),.tup #[.call 30 #[.cst yiE]]] (yg [.inr 0,.inr 0,.inr 0,.inl (.i 2)]))]),.ret (.call 35 #[.cst yf7,.s "a",.bin .add (.bin .add (.call 33 .e) (.v 0)) (.call 34 #[.cst yf7,.s "a"])])]⟩
def yjQ:Fn:=⟨0,0,AC,#[.ret (.tup #[.call 5 (yI #[.i 1,.tup #[.call 4 (yI #[.s "c"] (yg [.inr 0,.inr 0,.inr 0,.inl (.i 2)]))]] (yg [.inr 0,.inr 0,.inr 0,.inr 0])),.call 5 (yI #[.neg (.i 1),.tup #[.call 4 (yI #[.s "a"] (yg [.inr 0,.inr 0,.inr 0,.inl (.i 1)])),.call 4 (yI #[.s "b"] (yg [.inr 0,.inr 0,.inr 0,.inl (.i 1)]))]] (yg [.inr 0,.inr 0,.inr 0,.inr 0]))])]⟩
def yjR:Fn:=⟨2,2,AC,#[.ret (.tup #[.call 5 (yI #[.i 1,.tup #[.call 30 #[.v 0],.call 4 (yI #[.v 1] (yg [.inr 0,.inl (.i 1),.inr 0,.inr 0]))]] (yg [.inr 0,.inr 0,.inr 0,.inl (.i 1)])),.call 5 (yI #[.neg (.i 1),.tup #[.tup #[.s "mark"]]] (yg [.inr 0,.inl (.i 1),.inr 0,.inl (.i 1)]))])]⟩
def yjS:Fn:=⟨3,4,AC,#[.asg (.n 3) (.call 0 (yI #[.s "c"] (yg [.inr 0,.inl (.i 1),.inr 0,.inl (.i 1)]))),.ret (.call 3 #[.cst yi,.v 2,.call 2 #[.lst #[.tup #[.s "times",.cst yev,.cst yho,.call 0 (yI #[.v 1] (yg [.inr 0,.inl (.i 1),.inr 0,.inr 0])),.v 0],.tup #[.s "less",.v 3,.v 3,.cst yev]]]])]⟩
def yjT:Fn:=⟨0,1,AC,#[.asg (.n 0) (.call 11 #[.cst yiF,.call 0 (yI #[.s "c"] (yg [.inr 0,.inl (.i 1),.inr 0,.inl (.i 1)])),.cst yhA,.cst yi]),.ret (.bin .add (.bin .add (.call 2 #[.call 10 #[.cst yhA,.call 1 #[.s "c"]]]) (.v 0)) (.call 2 #[.lst #[.tup #[.s "ask",.cst yiF],.call 8 #[.idx (.cst yb) (.i 1)]]]))]⟩
def yjU:Fn:=⟨3,4,AC,#[.asg (.n 3) (.tup #[.call 5 (yI #[.i 1,.tup #[.call 4 (yI #[.v 1] (yg [.inr 0,.inl (.i 1),.inr 0,.inr 0]))]] (yg [.inr 0,.inr 0,.inr 0,.inr 0])),.call 5 (yI #[.i 1,.tup #[.tup #[.s "mark"]]] (yg [.inr 0,.inl (.i 1),.inr 0,.inr 0])),.call 5 (yI #[.neg (.i 1),.tup #[.call 4 (yI #[.v 2] (yg [.inr 0,.inl (.i 1),.inr 0,.inr 0]))]] (yg [.inr 0,.inr 0,.inr 0,.inr 0])),.call 5 (yI #[.i 2,.tup #[.call 30 #[.v 0],.call 4 (yI #[.v 2] (yg [.inr 0,.inl (.i 1),.inr 0,.inr 0]))]] (yg [.inr 0,.inr 0,.inr 0,.inr 0])),.call 5 (yI #[.neg (.i 1),.tup #[.call 30 #[.v 0]]] (yg [.inr 0,.inl (.i 1),.inr 0,.inr 0]))]),.ret (.bin .add (.call 2 #[.lst #[.tup #[.s "ask",.v 0],.tup #[.s "less",.cst yhA,.cst ycM,.cst ycM]]]) (.call 3 #[.cst yi,.v 3,.call 2 #[.lst #[.tup #[.s "odd",.cst ydc,.call 0 (yI #[.v 2] (yg [.inr 0,.inl (.i 1),.inr 0,.inr 0])),.cst yhA],.tup #[.s "sum",.call 0 (yI #[.v 1] (yg [.inr 0,.inl (.i 1),.inr 0,.inr 0])),.cst ydc,.cst ycM]]]]))]⟩
def yjV:Fn:=⟨0,0,AC,#[.ret (.call 2 #[.lst #[.tup #[.s "twice",.cst ydc,.call 1 #[.s "q"]],.call 8 #[.idx (.cst yb) (.i 1)],.tup #[.s "any",.idx (.cst yb) (.i 1),.idx (.cst yb) (.i 1),.cst yY],.tup #[.s "odd",.idx (.cst yb) (.i 1),.idx (.cst yb) (.i 1),.cst yY]]])]⟩
def yhW:Fn:=⟨1,1,AC,#[.ret (.call 41 #[.v 0,.cst (.bl AB)])]⟩
def yjW:Fn:=⟨1,1,AC,#[.ret (.call 41 #[.v 0,.cst (.bl AC)])]⟩
def yF:Fn:=⟨2,4,AC,#[.ite (.or (.not (.call 42 #[.v 0])) (.cmp .ne (.blt .len #[.v 0]) (.bin .add (.blt .len #[.dix ybE (.idx (.v 0) (.i 0))]) (.i 1)))) #[.ret (.cst (.bl AB))] .e,.for (.t [2,3]) (.zip (.dix ybE (.idx (.v 0) (.i 0))) (.slc (.v 0) (.i 1) (.cst .non))) #[.ite (.not (.call 43 #[.v 2,.v 3,.v 1])) #[.ret (.cst (.bl AB))] .e],.ret (.or (.cmp .ne (.idx (.v 0) (.i 0)) (.s "times")) (.cmp .ne (.idx (.v 0) (.i 1)) (.idx (.v 0) (.i 2))))]⟩
def yhX:Fn:=⟨1,1,AC,#[.ret (.and (.isi (.v 0) [.tuple]) (.and (.cmp .gt (.blt .len #[.v 0]) (.i 0)) (.and (.isi (.idx (.v 0) (.i 0)) [.str]) (.din (.idx (.v 0) (.i 0)) ybE))))]⟩
def yhv:Fn:=⟨3,3,AC,#[.ite (.cmp .eq (.v 0) (.s "figure")) #[.ret (.call 24 #[.v 1,.i 0,.i 1])] .e,.ret (.ite (.v 2) (.call 45 #[.v 1]) (.call 44 #[.v 1]))]⟩
def yhY:Fn:=⟨1,1,AC,#[.ret (.and (.call 46 #[.v 0]) (.call 24 #[.idx (.v 0) (.i 1),.i 0,.i 99]))]⟩
def yjX:Fn:=⟨1,1,AC,#[.ret (.and (.call 46 #[.v 0]) (.call 26 #[.idx (.v 0) (.i 1),.i 4]))]⟩
def yhZ:Fn:=⟨1,1,AC,#[.ret (.and (.isi (.v 0) [.tuple]) (.and (.cmp .eq (.blt .len #[.v 0]) (.i 2)) (.call 25 #[.idx (.v 0) (.i 0)])))]⟩
def yjY:Fn:=⟨1,1,AC,#[.ret (.and (.isi (.v 0) [.tuple]) (.and (.cmp .le (.blt .len #[.v 0]) (.cst ykz)) (.blt .all #[.comp [AD] (.n 0) (.seq (.v 0)) (.cst (.bl AC)) (.call 49 #[.v 0])])))]⟩
def yh0:Fn:=⟨4,4,AC,#[.ret (.bin .add (.bin .add (.bin .add (.idx (.v 0) (.i 0)) (.bin .mul (.idx (.v 0) (.i 1)) (.v 2))) (.bin .mul (.idx (.v 0) (.i 2)) (.v 3))) (.bin .mul (.idx (.v 0) (.i 3)) (.v 1)))]⟩
def yjZ:Fn:=⟨1,4,AC,#[.ite (.or (.not (.isi (.v 0) [.tuple])) (.cmp .ne (.blt .len #[.v 0]) (.i 3))) #[.ret (.cst (.bl AB))] .e,.asg (.t [1,2,3]) (.v 0),.ret (.and (.call 24 #[.v 1,.bin .sub (.i 1) (.cst yje),.bin .sub (.cst yje) (.i 1)]) (.and (.call 26 #[.v 2,.i 6]) (.call 50 #[.v 3])))]⟩
def yj0:Fn:=⟨1,1,AC,#[.ret (.and (.isi (.v 0) [.tuple]) (.and (.cmp .le (.blt .len #[.v 0]) (.cst ykA)) (.blt .all #[.comp [AD] (.n 0) (.seq (.v 0)) (.cst (.bl AC)) (.call 51 #[.v 0])])))]⟩
def yj1:Fn:=⟨1,1,AC,#[.ite (.or (.not (.isi (.v 0) [.tuple])) (.cmp .eq (.blt .len #[.v 0]) (.i 0))) #[.ret (.cst (.bl AB))] .e,.ite (.cmp .eq (.idx (.v 0) (.i 0)) (.s "mark")) #[.ret (.cmp .eq (.blt .len #[.v 0]) (.i 1))] .e,.ite (.or (.cmp .ne (.idx (.v 0) (.i 0)) (.s "slice")) (.or (.cmp .ne (.blt .len #[.v 0]) (.i 4)) (.not (.call 25 #[.idx (.v 0) (.i 1)])))) #[.ret (.cst (.bl AB))] .e,.ret (.and (.call 26 #[.idx (.v 0) (.i 2),.i 4]) (.call 26 #[.idx (.v 0) (.i 3),.i 4]))]⟩
def yiI:Fn:=⟨3,3,AB,#[.sfl 20 (.v 0) (AE "w") (.v 1),.sfl 20 (.v 0) (AE "n") (.v 2),.sfl 20 (.v 0) (AE "steps") (.newl .e),.sfl 20 (.v 0) (AE "rows") (.i 0),.sfl 20 (.v 0) (AE "rounds") (.i 0)]⟩
def yj:Fn:=⟨3,4,AB,#[.for (.n 3) (.seq (.v 1)) #[.ite (.cmp .eq (.idx (.v 3) (.i 0)) (.s "row")) #[.expr (.mcl 20 56 (AE "add_row") (.v 0) #[.idx (.v 3) (.i 1),.v 2])] #[.expr (.mcl 20 54 (AE "go_rounds") (.v 0) #[.v 3,.v 2])]]]⟩
def yo:Fn:=⟨3,5,AB,#[.asg (.n 3) (.blt .max #[.i 0,.mcl 20 55 (AE "count_of") (.v 0) #[.idx (.v 1) (.i 1)]]),.for (.n 4) (.range1 (.v 3)) #[.expr (.mcl 20 58 (AE "add_asked") (.v 0) #[.idx (.v 1) (.i 2),.bin .add (.v 2) (.tup #[.v 4])]),.expr (.mcl 20 57 (AE "add_round") (.v 0) .e),.expr (.mcl 20 53 (AE "go_parts") (.v 0) #[.idx (.v 1) (.i 3),.bin .add (.v 2) (.tup #[.v 4])])],.expr (.mcl 20 58 (AE "add_asked") (.v 0) #[.idx (.v 1) (.i 2),.bin .add (.v 2) (.tup #[.v 3])])]⟩
def y9:Fn:=⟨2,5,AB,#[.asg (.t [2,3,4]) (.v 1),.ret (.bin .add (.bin .add (.v 2) (.bin .mul (.v 3) (.fld 20 (.v 0) (AE "n")))) (.bin .mul (.bin .mul (.v 4) (.fld 20 (.v 0) (AE "w"))) (.fld 20 (.v 0) (AE "n"))))]⟩
def yh1:Fn:=⟨3,6,AB,#[.asg (.t [3,4]) (.call 64 #[.v 2]),.asg (.n 5) (.blt .tuple #[.comp [AD,AA 3,AA 4,AA 0] (.n 0) (.seq (.v 1)) (.cst (.bl AC)) (.call 65 #[.v 0,.fld 20 (.v 3) (AE "n"),.v 1,.v 2])]),.sfl 20 (.v 0) (AE "rows") (.bin .add (.fld 20 (.v 0) (AE "rows")) (.i 1)),.ite (.or (.not (.call 39 #[.v 5])) (.cmp .gt (.fld 20 (.v 0) (AE "rows")) (.cst yji))) #[.nope] .e,.expr (.mth .append (.fld 20 (.v 0) (AE "steps")) #[.tup #[.s "row",.v 5]])]⟩
def yh2:Fn:=⟨1,1,AB,#[.sfl 20 (.v 0) (AE "rounds") (.bin .add (.fld 20 (.v 0) (AE "rounds")) (.i 1)),.ite (.cmp .gt (.fld 20 (.v 0) (AE "rounds")) (.cst yjh)) #[.nope] .e]⟩
def yh3:Fn:=⟨3,5,AB,#[.asg (.t [3,4]) (.call 64 #[.v 2]),.expr (.mth .append (.fld 20 (.v 0) (AE "steps")) #[.tup #[.s "asked",.v 1,.v 3,.v 4]])]⟩
def yiJ:Fn:=⟨1,1,AC,#[.ret (.call 62 #[.v 0,.cst yky])]⟩
def yh4:Fn:=⟨3,3,AC,#[.ret (.blt .tuple #[.comp [AD] (.n 0) (.seq (.call 61 #[.v 0,.v 1,.v 2])) (.cmp .eq (.idx (.v 0) (.i 0)) (.s "row")) (.idx (.v 0) (.i 1))])]⟩
def yh5:Fn:=⟨3,4,AC,#[.ite (.not (.call 59 #[.v 0])) #[.nope] .e,.asg (.n 3) (.new 20 52 #[.v 1,.v 2]),.expr (.mcl 20 53 (AE "go_parts") (.v 3) #[.v 0,.tup .e]),.ret (.frz (.fld 20 (.v 3) (AE "steps")))]⟩
def yj2:Fn:=⟨2,2,AC,#[.ret (.and (.isi (.v 0) [.tuple]) (.blt .all #[.comp [AD,AA 1] (.n 0) (.seq (.v 0)) (.cst (.bl AC)) (.call 63 #[.v 0,.v 1])]))]⟩
def yj3:Fn:=⟨2,2,AC,#[.ite (.or (.not (.isi (.v 0) [.tuple])) (.cmp .eq (.blt .len #[.v 0]) (.i 0))) #[.ret (.cst (.bl AB))] .e,.ite (.cmp .eq (.idx (.v 0) (.i 0)) (.s "row")) #[.ret (.and (.cmp .eq (.blt .len #[.v 0]) (.i 2)) (.call 40 #[.idx (.v 0) (.i 1)]))] .e,.ite (.or (.cmp .ne (.idx (.v 0) (.i 0)) (.s "rounds")) (.or (.cmp .ne (.blt .len #[.v 0]) (.i 4)) (.cmp .eq (.v 1) (.i 0)))) #[.ret (.cst (.bl AB))] .e,.ret (.and (.call 26 #[.idx (.v 0) (.i 1),.i 3]) (.and (.call 47 #[.idx (.v 0) (.i 2)]) (.call 62 #[.idx (.v 0) (.i 3),.bin .sub (.v 1) (.i 1)])))]⟩
def yhE:Fn:=⟨1,1,AC,#[.ret (.slc (.bin .add (.v 0) (.tup #[.i 0,.i 0])) (.cst .non) (.i 2))]⟩
def ygp:Fn:=⟨4,4,AC,#[.ite (.not (.isi (.v 0) [.tuple])) #[.ret (.v 0)] .e,.ret (.tup #[.idx (.v 0) (.i 0),.call 48 #[.idx (.v 0) (.i 1),.v 1,.v 2,.v 3]])]⟩
def yiK:Fn:=⟨1,1,AC,#[.ite (.not (.call 68 #[.v 0])) #[.nope] .e,.ite (.cmp .eq (.idx (.v 0) (.i 0)) (.s "led")) #[.nope] .e,.ite (.cmp .isin (.idx (.v 0) (.i 0)) (.cst yhD)) #[.nope] .e,.ite (.cmp .isin (.idx (.v 0) (.i 0)) (.cst yjk)) #[.nope] .e,.ret (.call 72 #[.idx (.v 0) (.i 0)])]⟩
def yhF:Fn:=⟨3,3,AC,#[.ret (.call 60 #[.call 66 #[.v 0],.v 1,.v 2])]⟩
def yj4:Fn:=⟨1,1,AC,#[.ite (.or (.not (.isi (.v 0) [.tuple])) (.cmp .eq (.blt .len #[.v 0]) (.i 0))) #[.ret (.cst (.bl AB))] .e,.ite (.cmp .eq (.idx (.v 0) (.i 0)) (.s "led")) #[.nope] .e,.ite (.cmp .isin (.idx (.v 0) (.i 0)) (.cst yhD)) #[.nope] .e,.ret (.and (.cmp .eq (.blt .len #[.v 0]) (.i 1)) (.or (.cmp .isin (.idx (.v 0) (.i 0)) (.cst yiG)) (.cmp .isin (.idx (.v 0) (.i 0)) (.cst yjf))))]⟩
def yj5:Fn:=⟨1,1,AC,#[.ret (.cmp .isin (.idx (.v 0) (.i 0)) (.cst yiG))]⟩
def yB:Fn:=⟨2,2,AC,#[.ite (.cmp .eq (.idx (.v 0) (.i 0)) (.s "compare")) #[.nope] .e,.ite (.cmp .eq (.idx (.v 0) (.i 0)) (.s "led")) #[.nope] .e,.ret (.ite (.cmp .isin (.idx (.v 0) (.i 0)) (.cst yhV)) (.bin .mul (.i 2) (.v 1)) (.v 1))]⟩
def yhw:Fn:=⟨2,2,AC,#[.ret (.ite (.cmp .isin (.idx (.v 0) (.i 0)) (.cst yfb)) (.v 1) (.i 0))]⟩
def yj6:Fn:=⟨1,1,AC,#[.ite (.cmp .eq (.v 0) (.s "sum")) #[.nope] .e,.ite (.cmp .eq (.v 0) (.s "difference")) #[.nope] .e,.ite (.cmp .eq (.v 0) (.s "turned")) #[.nope] .e,.ite (.cmp .eq (.v 0) (.s "compare")) #[.nope] .e,.ite (.cmp .eq (.v 0) (.s "bare")) #[.nope] .e,.ite (.cmp .eq (.v 0) (.s "product")) #[.ret (.call 14 .e)] .e,.ite (.cmp .eq (.v 0) (.s "signed product")) #[.ret (.call 27 .e)] .e,.ite (.cmp .eq (.v 0) (.s "quotient")) #[.ret (.call 17 .e)] .e,.ret (.call 28 .e)]⟩
def ygq:Fn:=⟨3,3,AC,#[.ite (.or (.cmp .lt (.v 0) (.i 0)) (.cmp .ge (.v 0) (.bin .shl (.i 1) (.bin .mul (.v 1) (.v 2))))) #[.raise 0 (.fst #[.v 0,.s " is no plain worth of ",.v 2,.s " words of width ",.v 1])] .e,.ret (.call 75 #[.v 0,.v 1,.v 2])]⟩
def yh6:Fn:=⟨2,2,AC,#[.ret (.bin .shr (.idx (.v 0) (.neg (.i 1))) (.bin .sub (.v 1) (.i 1)))]⟩
def yh7:Fn:=⟨3,4,AC,#[.asg (.n 3) (.bin .sub (.bin .shl (.i 1) (.v 1)) (.i 1)),.ret (.blt .tuple #[.comp [AD,AA 3,AA 0,AA 1] (.n 0) (.range1 (.v 2)) (.cst (.bl AC)) (.bin .band (.bin .shr (.v 2) (.bin .mul (.v 3) (.v 0))) (.v 1))])]⟩
def yax:Fn:=⟨5,10,AC,#[.expr (.call 77 #[.v 0,.v 1,.v 2,.v 3,.v 4]),.ite (.cmp .eq (.idx (.v 0) (.i 0)) (.s "compare")) #[.nope] .e,.asg (.t [5,6,7]) (.call 78 #[.v 0,.v 1,.v 2,.v 3,.v 4]),.asg (.n 8) (.call 75 #[.v 5,.v 1,.call 70 #[.v 0,.v 2]]),.asg (.n 9) (.call 75 #[.bin .sub (.v 3) (.bin .mul (.v 4) (.v 5)),.v 1,.call 71 #[.v 0,.v 2]]),.ret (.tup #[.v 8,.v 9,.tup #[.v 6,.v 7,.ite (.blt .any #[.v 8]) (.i 0) (.i 1),.call 74 #[.v 8,.v 1]]])]⟩
def yk:Fn:=⟨5,5,AC,#[.ite (.not (.call 68 #[.v 0])) #[.raise 6 (.s "this is no deed")] .e,.expr (.call 73 #[.v 3,.v 1,.v 2]),.expr (.call 73 #[.v 4,.v 1,.v 2]),.ite (.and (.cmp .ne (.v 4) (.i 0)) (.not (.call 69 #[.v 0]))) #[.nope] .e,.ite (.and (.cmp .eq (.v 4) (.i 0)) (.cmp .isin (.idx (.v 0) (.i 0)) (.cst yfb))) #[.raise 7 (.s "there is no quotient by nought")] .e]⟩
def yak:Fn:=⟨5,6,AC,#[.ite (.cmp .eq (.idx (.v 0) (.i 0)) (.s "led")) #[.nope] .e,.mkr 5 yiD (.idx (.v 0) (.i 0)) #[.v 3,.ite (.cmp .isin (.idx (.v 0) (.i 0)) (.cst yhD)) (.idx (.v 0) (.i 1)) (.v 4),.bin .mul (.v 1) (.v 2)]]⟩
def yh8:Fn:=⟨2,2,AC,#[.ret (.bin .sub (.v 0) (.bin .shl (.bin .shr (.v 0) (.bin .sub (.v 1) (.i 1))) (.v 1)))]⟩
def yhG:Fn:=⟨2,3,AC,#[.asg (.n 2) (.bin .shl (.i 1) (.bin .sub (.v 1) (.i 1))),.ret (.ite (.chain .le .lt (.neg (.v 2)) (.v 0) (.v 2)) (.i 0) (.i 1))]⟩
def yj7:Fn:=⟨3,3,AC,#[.ret (.tup #[.bin .add (.v 0) (.v 1),.bin .shr (.bin .add (.v 0) (.v 1)) (.v 2),.call 80 #[.bin .add (.call 79 #[.v 0,.v 2]) (.call 79 #[.v 1,.v 2]),.v 2]])]⟩
def yj8:Fn:=⟨3,3,AC,#[.ret (.tup #[.bin .sub (.v 0) (.v 1),.blt .int #[.cmp .lt (.v 0) (.v 1)],.call 80 #[.bin .sub (.call 79 #[.v 0,.v 2]) (.call 79 #[.v 1,.v 2]),.v 2]])]⟩
def yj9:Fn:=⟨3,3,AC,#[.ret (.call 82 #[.i 0,.v 0,.v 2])]⟩
def yka:Fn:=⟨3,3,AC,#[.ret (.tup #[.bin .band (.v 0) (.v 1),.i 0,.i 0])]⟩
def ykb:Fn:=⟨3,3,AC,#[.ret (.tup #[.bin .bor (.v 0) (.v 1),.i 0,.i 0])]⟩
def ykc:Fn:=⟨3,3,AC,#[.ret (.tup #[.bin .bxor (.v 0) (.v 1),.i 0,.i 0])]⟩
def ykd:Fn:=⟨3,3,AC,#[.ret (.tup #[.bin .sub (.neg (.i 1)) (.v 0),.i 0,.i 0])]⟩
def yke:Fn:=⟨3,3,AC,#[.ret (.tup #[.bin .shl (.v 0) (.v 1),.bin .band (.bin .shr (.bin .shl (.v 0) (.v 1)) (.v 2)) (.i 1),.i 0])]⟩
def ykf:Fn:=⟨3,3,AC,#[.ret (.tup #[.bin .shr (.v 0) (.v 1),.bin .band (.bin .shr (.bin .mul (.i 2) (.v 0)) (.v 1)) (.i 1),.i 0])]⟩
def ykg:Fn:=⟨3,3,AC,#[.ret (.call 89 #[.call 79 #[.v 0,.v 2],.v 1,.v 2])]⟩
def ykh:Fn:=⟨3,4,AC,#[.asg (.n 3) (.bin .mod (.v 1) (.v 2)),.ret (.tup #[.bin .bor (.bin .shl (.v 0) (.v 3)) (.bin .shr (.v 0) (.bin .sub (.v 2) (.v 3))),.i 0,.i 0])]⟩
def yh9:Fn:=⟨3,3,AC,#[.ret (.tup #[.bin .mul (.v 0) (.v 1),.i 0,.ite (.cmp .eq (.bin .shr (.bin .mul (.v 0) (.v 1)) (.v 2)) (.i 0)) (.i 0) (.i 1)])]⟩
def yia:Fn:=⟨3,4,AC,#[.asg (.n 3) (.bin .mul (.call 79 #[.v 0,.v 2]) (.call 79 #[.v 1,.v 2])),.ret (.tup #[.v 3,.i 0,.call 80 #[.v 3,.v 2]])]⟩
def yib:Fn:=⟨3,3,AC,#[.ret (.tup #[.bin .fdiv (.v 0) (.v 1),.i 0,.i 0])]⟩
def y4:Fn:=⟨3,6,AC,#[.asg (.t [3,4]) (.tup #[.call 79 #[.v 0,.v 2],.call 79 #[.v 1,.v 2]]),.asg (.n 5) (.bin .fdiv (.blt .abs #[.v 3]) (.blt .abs #[.v 4])),.ite (.cmp .ne (.cmp .lt (.v 3) (.i 0)) (.cmp .lt (.v 4) (.i 0))) #[.asg (.n 5) (.neg (.v 5))] .e,.ret (.tup #[.v 5,.i 0,.call 80 #[.v 5,.v 2]])]⟩
def yic:Fn:=⟨5,6,AC,#[.mkr 5 ya (.v 0) #[.v 1,.v 2,.v 3,.v 4]]⟩
def yid:Fn:=⟨1,1,AC,#[.ret (.bin .sub (.bin .shl (.i 1) (.v 0)) (.i 1))]⟩
def yie:Fn:=⟨4,4,AC,#[.ret (.tup #[.v 1,.v 3])]⟩
def yif:Fn:=⟨4,4,AC,#[.ret (.tup #[.bin .sub (.call 97 #[.v 0]) (.v 1),.v 3])]⟩
def yig:Fn:=⟨4,5,AC,#[.asg (.n 4) (.bin .add (.bin .add (.v 1) (.v 2)) (.v 3)),.ret (.tup #[.bin .band (.v 4) (.call 97 #[.v 0]),.bin .shr (.v 4) (.v 0)])]⟩
def yhH:Fn:=⟨4,5,AC,#[.asg (.n 4) (.bin .sub (.bin .sub (.v 1) (.v 2)) (.v 3)),.ret (.tup #[.bin .band (.v 4) (.call 97 #[.v 0]),.ite (.cmp .lt (.v 4) (.i 0)) (.i 1) (.i 0)])]⟩
def yih:Fn:=⟨4,4,AC,#[.ret (.tup #[.bin .band (.v 1) (.v 2),.v 3])]⟩
def yii:Fn:=⟨4,4,AC,#[.ret (.tup #[.bin .bor (.v 1) (.v 2),.v 3])]⟩
def yij:Fn:=⟨4,4,AC,#[.ret (.tup #[.bin .bxor (.v 1) (.v 2),.v 3])]⟩
def yik:Fn:=⟨4,4,AC,#[.ret (.call 100 #[.v 0,.v 1,.v 1,.v 3])]⟩
def yil:Fn:=⟨4,4,AC,#[.ret (.tup #[.bin .bor (.bin .shr (.v 1) (.i 1)) (.bin .shl (.v 3) (.bin .sub (.v 0) (.i 1))),.bin .band (.v 1) (.i 1)])]⟩
def yim:Fn:=⟨2,2,AB,#[.sfl 21 (.v 0) (AE "w") (.v 1),.sfl 21 (.v 0) (AE "words") (.dict0 AC),.sfl 21 (.v 0) (AE "marked") (.i 0)]⟩
def yin:Fn:=⟨4,5,AB,#[.asg (.n 4) (.call 115 #[.v 1,.v 2]),.ite (.not (.call 24 #[.v 3,.i 0,.call 97 #[.fld 21 (.v 0) (AE "w")]])) #[.nope] .e,.dput (.fld 21 (.v 0) (AE "words")) (.v 4) (.v 3)]⟩
def yio:Fn:=⟨3,3,AB,#[.ret (.mcl 21 111 (AE "held_in") (.v 0) #[.call 115 #[.v 1,.v 2]])]⟩
def yx:Fn:=⟨2,3,AB,#[.for (.n 2) (.seq (.v 1)) #[.expr (.call 116 #[.v 2])],.for (.n 2) (.seq (.v 1)) #[.expr (.mcl 21 112 (AE "go_row") (.v 0) #[.v 2])]]⟩
def yip:Fn:=⟨2,2,AB,#[.ret (.mth .get (.fld 21 (.v 0) (AE "words")) #[.v 1,.i 0])]⟩
def yf:Fn:=⟨2,2,AB,#[.ite (.cmp .eq (.idx (.v 1) (.i 0)) (.s "mark")) #[.sfl 21 (.v 0) (AE "marked") (.idx (.v 1) (.i 1))] #[.ite (.cmp .eq (.idx (.v 1) (.i 0)) (.s "ask")) #[.sfl 21 (.v 0) (AE "marked") (.ite (.cmp .eq (.mcl 21 111 (AE "held_in") (.v 0) #[.idx (.v 1) (.i 1)]) (.i 0)) (.i 0) (.i 1))] #[.ite (.cmp .eq (.idx (.v 1) (.i 0)) (.s "set")) #[.dput (.fld 21 (.v 0) (AE "words")) (.idx (.v 1) (.i 1)) (.idx (.v 1) (.i 2))] #[.ite (.cmp .eq (.idx (.v 1) (.i 0)) (.s "times")) #[.expr (.mcl 21 113 (AE "go_times") (.v 0) #[.v 1])] #[.expr (.mcl 21 114 (AE "go_made") (.v 0) #[.v 1])]]]]]⟩
def yiq:Fn:=⟨2,3,AB,#[.asg (.n 2) (.bin .mul (.mcl 21 111 (AE "held_in") (.v 0) #[.idx (.v 1) (.i 3)]) (.mcl 21 111 (AE "held_in") (.v 0) #[.idx (.v 1) (.i 4)])),.dput (.fld 21 (.v 0) (AE "words")) (.idx (.v 1) (.i 1)) (.bin .band (.v 2) (.call 97 #[.fld 21 (.v 0) (AE "w")])),.dput (.fld 21 (.v 0) (AE "words")) (.idx (.v 1) (.i 2)) (.bin .shr (.v 2) (.fld 21 (.v 0) (AE "w")))]⟩
def yir:Fn:=⟨2,6,AB,#[.asg (.t [2,3]) (.tup #[.mcl 21 111 (AE "held_in") (.v 0) #[.idx (.v 1) (.i 2)],.mcl 21 111 (AE "held_in") (.v 0) #[.idx (.v 1) (.neg (.i 1))]]),.asg (.t [4,5]) (.call 96 #[.idx (.v 1) (.i 0),.fld 21 (.v 0) (AE "w"),.v 2,.v 3,.fld 21 (.v 0) (AE "marked")]),.dput (.fld 21 (.v 0) (AE "words")) (.idx (.v 1) (.i 1)) (.v 4),.sfl 21 (.v 0) (AE "marked") (.v 5)]⟩
def yiL:Fn:=⟨2,2,AC,#[.ite (.not (.call 44 #[.tup #[.v 0,.v 1]])) #[.nope] .e,.ret (.tup #[.v 0,.v 1])]⟩
def yhI:Fn:=⟨1,1,AC,#[.ite (.not (.call 39 #[.v 0])) #[.nope] .e]⟩
def ybz:Fn:=⟨5,7,AC,#[.expr (.call 77 #[.v 0,.v 1,.v 2,.v 3,.v 4]),.asg (.n 5) (.call 118 #[.v 1,.v 2,.v 3,.v 4]),.expr (.mcl 21 110 (AE "run") (.v 5) #[.call 67 #[.v 0,.v 1,.v 2]]),.asg (.n 6) (.call 119 #[.v 5,.s "c",.call 70 #[.v 0,.v 2]]),.ret (.tup #[.v 6,.call 119 #[.v 5,.s "d",.call 71 #[.v 0,.v 2]],.call 119 #[.v 5,.s "m",.cst yjg]])]⟩
def yr:Fn:=⟨4,9,AB,#[.asg (.n 4) (.new 21 107 #[.v 0]),.for (.t [5,6]) (.seq (.tup #[.tup #[.s "a",.v 2],.tup #[.s "b",.v 3]])) #[.for (.t [7,8]) (.enum (.call 75 #[.v 6,.v 0,.v 1])) #[.expr (.mcl 21 108 (AE "put") (.v 4) #[.v 5,.v 7,.v 8])]],.ret (.v 4)]⟩
def yab:Fn:=⟨3,3,AB,#[.ret (.blt .tuple #[.comp [AD,AA 1,AA 0] (.n 0) (.range1 (.v 2)) (.cst (.bl AC)) (.mcl 21 109 (AE "word") (.v 2) #[.v 1,.v 0])])]⟩
def yis:Fn:=⟨1,1,AB,#[.ret (.newl #[.slc (.v 0) (.cst .non) (.i 63),.i 0,.i 0,.cst (.bl AB)])]⟩
def yal:Fn:=⟨1,8,AC,#[.asg (.n 1) (.tup #[.i 2147483647,.i 2147483629,.i 2147483587,.i 2147483579,.i 2147483563]),.asg (.n 2) (.i 0),.for (.t [3,4]) (.enum (.v 1)) #[.asg (.n 5) (.bin .add (.v 0) (.idx (.tup #[.i 11,.i 101,.i 1009,.i 10007,.i 100003]) (.v 3))),.asg (.n 5) (.bin .mod (.bin .mul (.v 5) (.bin .add (.i 48271) (.bin .mul (.i 2) (.v 3)))) (.v 4)),.asg (.n 6) (.bin .mod (.bin .mul (.v 5) (.v 5)) (.v 4)),.asg (.n 7) (.bin .mod (.bin .mul (.bin .mod (.bin .mul (.v 6) (.v 6)) (.v 4)) (.v 5)) (.v 4)),.asg (.n 2) (.bin .add (.bin .mul (.v 2) (.v 4)) (.v 7))],.ret (.v 2)]⟩
def yV:Fn:=⟨1,4,AB,#[.asg (.t [1,2]) (.tup #[.idx (.v 0) (.i 0),.idx (.v 0) (.i 1)]),.asg (.n 3) (.bin .add (.bin .mul (.i 31) (.v 2)) (.i 7)),.ite (.cmp .gt (.blt .len #[.v 1]) (.i 0)) #[.asg (.n 3) (.bin .mul (.i 104729) (.bin .fdiv (.v 2) (.blt .len #[.v 1]))),.asg (.n 3) (.bin .add (.v 3) (.idx (.v 1) (.bin .mod (.v 2) (.blt .len #[.v 1]))))] .e,.six (.v 0) (.i 1) (.bin .add (.v 2) (.i 1)),.six (.v 0) (.i 3) (.or (.cmp .ge (.v 2) (.blt .len #[.v 1])) (.cmp .lt (.v 3) (.bin .pow (.i 10) (.i 18)))),.ite (.idx (.v 0) (.i 3)) #[.six (.v 0) (.i 2) (.call 121 #[.v 3])] #[.six (.v 0) (.i 2) (.bin .sub (.v 3) (.bin .pow (.i 10) (.i 18)))]]⟩
def yR:Fn:=⟨2,4,AB,#[.asg (.n 2) (.i 0),.while (.and (.cmp .lt (.v 2) (.i 64)) (.or (.cmp .eq (.idx (.v 0) (.i 2)) (.i 0)) (.and (.idx (.v 0) (.i 3)) (.cmp .lt (.idx (.v 0) (.i 2)) (.bin .mul (.v 1) (.i 4096)))))) #[.expr (.call 122 #[.v 0]),.aug 2 .add (.i 1),.ite (.and (.idx (.v 0) (.i 3)) (.cmp .lt (.idx (.v 0) (.i 2)) (.bin .mul (.v 1) (.i 4096)))) #[.six (.v 0) (.i 2) (.bin .add (.idx (.v 0) (.i 2)) (.bin .mul (.bin .mul (.v 1) (.i 4096)) (.bin .add (.i 1) (.bin .mod (.idx (.v 0) (.i 2)) (.i 4093)))))] .e],.asg (.n 3) (.bin .mod (.idx (.v 0) (.i 2)) (.v 1)),.six (.v 0) (.i 2) (.bin .fdiv (.idx (.v 0) (.i 2)) (.v 1)),.ret (.v 3)]⟩
def yit:Fn:=⟨2,2,AB,#[.ret (.tup #[.bin .add (.i 4) (.call 123 #[.v 0,.i 13]),.bin .add (.i 1) (.call 123 #[.v 0,.v 1])])]⟩
def yO:Fn:=⟨3,13,AB,#[.asg (.n 3) (.call 123 #[.v 0,.i 12]),.asg (.n 4) (.i 1),.for (.n 5) (.range1 (.bin .mul (.v 1) (.v 2))) #[.asg (.n 4) (.bin .mul (.i 2) (.v 4))],.asg (.n 6) (.tup #[.i 0,.i 1,.bin .sub (.v 4) (.i 1),.bin .fdiv (.v 4) (.i 2),.bin .sub (.bin .fdiv (.v 4) (.i 2)) (.i 1),.bin .sub (.v 4) (.i 2)]),.ite (.cmp .lt (.v 3) (.i 6)) #[.ret (.idx (.v 6) (.v 3))] .e,.asg (.n 7) (.call 123 #[.v 0,.v 4]),.ite (.cmp .eq (.v 3) (.i 6)) #[.asg (.n 8) (.i 1),.for (.n 5) (.range1 (.call 123 #[.v 0,.bin .mul (.v 1) (.v 2)])) #[.asg (.n 8) (.bin .mul (.i 2) (.v 8))],.ret (.bin .mul (.bin .fdiv (.v 7) (.v 8)) (.v 8))] .e,.ite (.cmp .eq (.v 3) (.i 7)) #[.asg (.n 8) (.i 1),.for (.n 5) (.range1 (.call 123 #[.v 0,.bin .mul (.v 1) (.v 2)])) #[.asg (.n 8) (.bin .mul (.i 2) (.v 8))],.ret (.bin .sub (.v 4) (.v 8))] .e,.ite (.cmp .gt (.v 3) (.i 9)) #[.ret (.v 7)] .e,.asg (.n 9) (.i 1),.for (.n 5) (.range1 (.v 1)) #[.asg (.n 9) (.bin .mul (.i 2) (.v 9))],.asg (.n 10) (.i 0),.for (.n 5) (.range1 (.v 2)) #[.asg (.n 11) (.bin .mod (.bin .fdiv (.v 7) (.bin .add (.v 5) (.i 1))) (.v 9)),.asg (.n 12) (.tup #[.i 0,.i 1,.bin .sub (.v 9) (.i 1),.bin .fdiv (.v 9) (.i 2),.v 11]),.asg (.n 10) (.bin .add (.bin .mul (.v 10) (.v 9)) (.idx (.v 12) (.call 123 #[.v 0,.i 5])))],.ret (.v 10)]⟩
def yiu:Fn:=⟨1,3,AC,#[.asg (.n 1) (.i 1),.for (.n 2) (.range1 (.v 0)) #[.asg (.n 1) (.bin .mul (.i 2) (.v 1))],.ret (.v 1)]⟩
def yki:Fn:=⟨1,2,AB,#[.asg (.n 1) (.newl #[.isx (.v 0) [0,6,7] [.cls 6],.isx (.v 0) [0,6,7] [.cls 0],.isx (.v 0) [0,6,7] [.cls 7]]),.expr (.mth .append (.v 1) #[.isx (.v 0) [0,6,7] [.cls 2,.cls 3,.cls 4,.cls 1,.cls 5,.cls 9,.cls 10,.cls 11,.cls 12]]),.expr (.mth .append (.v 1) #[.or (.isx (.v 0) [0,6,7] [.cls 13,.cls 8]) (.not (.isx (.v 0) [0,6,7] [.val]))]),.ite (.cmp .ne (.mth .count (.v 1) #[.cst (.bl AC)]) (.i 1)) #[.nope] .e,.ret (.idx (.tup #[.s "deed",.s "fit",.s "quotient",.s "else",.s "else"]) (.mth .index (.v 1) #[.cst (.bl AC)]))]⟩
def yaj:Fn:=⟨6,9,AC,#[.asg (.n 6) (.s "told"),.try #[.asg (.n 7) (.cav 0 ydR #[.v 1,.v 2,.v 3,.v 4,.v 5]),.ite (.or (.not (.isi (.v 7) [.tuple])) (.cmp .ne (.blt .len #[.v 7]) (.i 3))) #[.nope] .e] [0,6,7] 8 #[.asg (.n 6) (.qcl 127 #[.v 8])],.ret (.v 6)]⟩
def yaK:Fn:=⟨3,5,AB,#[.asg (.n 3) (.call 126 #[.bin .mul (.v 1) (.v 2)]),.asg (.n 4) (.call 123 #[.v 0,.i 6]),.ite (.cmp .eq (.v 4) (.i 0)) #[.ret (.bin .add (.v 3) (.bin .mul (.call 123 #[.v 0,.i 3]) (.call 123 #[.v 0,.bin .pow (.i 10) (.i 30)])))] .e,.ite (.cmp .eq (.v 4) (.i 1)) #[.ret (.bin .sub (.neg (.i 1)) (.bin .mul (.call 123 #[.v 0,.i 3]) (.call 123 #[.v 0,.bin .pow (.i 10) (.i 30)])))] .e,.ite (.cmp .eq (.v 4) (.i 2)) #[.ret (.i 0)] .e,.ret (.call 125 #[.v 0,.v 1,.v 2])]⟩
def yap:Fn:=⟨5,6,AC,#[.asg (.n 5) (.call 126 #[.bin .mul (.v 1) (.v 2)]),.ite (.nin (.v 0) (.tup #[.tup #[.s "product"],.tup #[.s "signed product"],.tup #[.s "quotient"],.tup #[.s "signed quotient"]])) #[.ret (.s "deed")] .e,.ite (.or (.not (.chain .le .lt (.i 0) (.v 3) (.v 5))) (.not (.chain .le .lt (.i 0) (.v 4) (.v 5)))) #[.ret (.s "fit")] .e,.ite (.and (.cmp .eq (.v 4) (.i 0)) (.inn (.v 0) (.tup #[.tup #[.s "quotient"],.tup #[.s "signed quotient"]]))) #[.ret (.s "quotient")] .e,.ret (.s "told")]⟩
def ya5:Fn:=⟨1,11,AC,#[.asg (.n 1) (.call 120 #[.v 0]),.asg (.t [2,3]) (.call 124 #[.v 1,.i 2]),.asg (.n 4) (.lst #[.tup #[.s "product"],.tup #[.s "signed product"],.tup #[.s "quotient"],.tup #[.s "signed quotient"],.tup #[.s "quotient"],.tup #[.s "signed quotient"]]),.asg (.n 5) (.lst #[.tup #[.s "products"],.tup #[.s "signed",.s "product"],.tup #[.s "quotient",.i 0],.s "quotient",.tup #[.s "Quotient"],.tup #[.s "signed quotient",.i 1]]),.asg (.n 5) (.bin .add (.v 5) (.lst #[.tup #[.s "signedproduct"],.tup .e,.tup #[.s "rest"],.cst .non,.tup #[.s "quotient "],.tup #[.i 3]])),.asg (.n 6) (.idx (.bin .add (.rep (.v 4) (.i 4)) (.v 5)) (.call 123 #[.v 1,.i 36])),.asg (.n 7) (.call 129 #[.v 1,.v 2,.v 3]),.asg (.n 8) (.call 129 #[.v 1,.v 2,.v 3]),.asg (.n 9) (.call 130 #[.v 6,.v 2,.v 3,.v 7,.v 8]),.for (.n 10) (.seq (.tup #[.cst (.fnc 76),.cst (.fnc 117)])) #[.ite (.cmp .ne (.call 128 #[.v 10,.v 6,.v 2,.v 3,.v 7,.v 8]) (.v 9)) #[.nope] .e,.ite (.cmp .ne (.call 128 #[.v 10,.tup #[.s "product"],.v 2,.v 3,.i 1,.i 3]) (.s "told")) #[.nope] .e],.ret (.cst (.bl AC))]⟩
end yb
def Tl:List Fn:=[yjl,yjm,yjn,yjo,yjp,yjq,yjr,yjs,yjt,yju,yjv,yjw,yjx,yjy,yjz,yjA,yjB,yjC,yjD,yjE,yjF,yjG,yjH,yjI,yhu,yiH,yjJ,yjK,yjL,yjM,yjN,yjO,yjP,yjQ,yjR,yjS,yjT,yjU,yjV,yhW,yjW,yF,yhX,yhv,yhY,yjX,yhZ,yjY,yh0,yjZ,yj0,yj1,yiI,yj,yo,y9,yh1,yh2,yh3,yiJ,yh4,yh5,yj2,yj3,yhE,ygp,yiK,yhF,yj4,yj5,yB,yhw,yj6,ygq,yh6,yh7,yax,yk,yak,yh8,yhG,yj7,yj8,yj9,yka,ykb,ykc,ykd,yke,ykf,ykg,ykh,yh9,yia,yib,y4,yic,yid,yie,yif,yig,yhH,yih,yii,yij,yik,yil,yim,yin,yio,yx,yip,yf,yiq,yir,yiL,yhI,ybz,yr,yab,yis,yal,yV,yR,yit,yO,yiu,yki,yaj,yaK,yap,ya5]
def T(i:Nat):Option Fn:=Tl[i]?
abbrev yhJ:Nat:=24
abbrev yiM:Nat:=25
abbrev yhx:Nat:=39
abbrev yiN:Nat:=41
abbrev yiO:Nat:=42
abbrev yv:Nat:=43
abbrev ykj:Nat:=44
abbrev ykk:Nat:=46
abbrev ykl:Nat:=48
abbrev ykm:Nat:=52
abbrev yiP:Nat:=53
abbrev y6:Nat:=54
abbrev yiQ:Nat:=55
abbrev ykn:Nat:=56
abbrev yiR:Nat:=57
abbrev yiS:Nat:=58
abbrev yA:Nat:=59
abbrev yko:Nat:=60
abbrev ykp:Nat:=61
abbrev yiv:Nat:=64
abbrev yhy:Nat:=65
abbrev yhK:Nat:=66
abbrev yiw:Nat:=67
abbrev yhL:Nat:=68
abbrev yhM:Nat:=69
abbrev yz:Nat:=70
abbrev yhN:Nat:=71
abbrev ym:Nat:=73
abbrev yix:Nat:=74
abbrev yy:Nat:=75
abbrev yeu:Nat:=76
abbrev yl:Nat:=77
abbrev yiy:Nat:=78
abbrev y7:Nat:=79
abbrev yiz:Nat:=80
abbrev ykq:Nat:=92
abbrev ykr:Nat:=93
abbrev yks:Nat:=94
abbrev yiT:Nat:=95
abbrev yiU:Nat:=96
abbrev yiV:Nat:=97
abbrev yiW:Nat:=98
abbrev yiX:Nat:=99
abbrev yiY:Nat:=100
abbrev yiZ:Nat:=101
abbrev yi0:Nat:=102
abbrev yi1:Nat:=103
abbrev yi2:Nat:=104
abbrev yi3:Nat:=105
abbrev yi4:Nat:=106
abbrev yi5:Nat:=107
abbrev ykt:Nat:=108
abbrev y8:Nat:=109
abbrev yi6:Nat:=110
abbrev yT:Nat:=111
abbrev yn:Nat:=112
abbrev yku:Nat:=113
abbrev yi7:Nat:=114
abbrev yi8:Nat:=115
abbrev yhz:Nat:=116
abbrev yes:Nat:=117
abbrev yi9:Nat:=118
abbrev yhO:Nat:=119
abbrev yja:Nat:=120
abbrev yjb:Nat:=121
abbrev ykv:Nat:=122
abbrev yiA:Nat:=123
abbrev yjc:Nat:=124
abbrev ykw:Nat:=125
abbrev ykx:Nat:=126
abbrev yhP:Nat:=127
abbrev ydM:Nat:=128
abbrev yiB:Nat:=129
abbrev yhQ:Nat:=130
abbrev yiC:Nat:=131
end IC
namespace WK
open PySem L2 IC
def top(i:Nat):Stmt:=DY.main.body.getD i (.Pass ⟨0,0,0,0⟩)
def tbQ:Tb where
 tbl:=[⟨"word","word","word",top 22,["letter","c","i","j","m"],["letter","c","i","j","m"],yjl,.fd [0,0,0,0]⟩,⟨"last_word","last_word","last_word",top 23,["letter"],["letter"],yjm,.fn⟩,⟨"rows","rows","rows",top 24,["told"],["told"],yjn,.fn⟩,⟨"rounds","rounds","rounds",top 25,["count","sentence","inner"],["count","sentence","inner"],yjo,.fn⟩,⟨"lowest","lowest","lowest",top 26,["letter","c","i","j","m"],["letter","c","i","j","m"],yjp,.fd [0,0,0,0]⟩,⟨"term","term","term",top 27,["f","things","i","p","q","r"],["f","things","i","p","q","r"],yjq,.fd [0,0,0,0]⟩,⟨"moved_parts","moved","moved",top 28,["to","source","c","sentence"],["to","source","c"],yjr,.fd [0]⟩,⟨"doubled_parts","doubled","doubled",top 30,["letter","count"],["letter","count"],yjs,.fn⟩,⟨"kept_mark","kept_mark","kept_mark",top 32,["to"],["to"],yjt,.fn⟩,⟨"kept_contrary","kept_contrary","kept_contrary",top 33,["to"],["to"],yju,.fn⟩,⟨"sign_filled","sign_filled","sign_filled",top 34,["to","last"],["to","last"],yjv,.fn⟩,⟨"gathered_unlike","gathered_unlike","gathered_unlike",top 35,["to","here","fill","count"],["to","here","fill","count"],yjw,.fn⟩,⟨"asked_words","asked_words","asked_words",top 36,["letter","m","count","gathered"],["letter","m","count"],yjx,.fn⟩,⟨"answer_marks","answer_marks","answer_marks",top 37,["c","m","sign"],["c","m"],yjy,.fn⟩,⟨"product_telling","product_telling","product_telling",top 50,["unfit"],[],yjz,.fn⟩,⟨"multiplied_products","multiplied","multiplied",top 51,["sentence","begun","ended"],[],yjA,.fn⟩,⟨"by_one_word","by_one_word","by_one_word",top 53,["here","this_word","sentence"],[],yjB,.fn⟩,⟨"quotient_telling","quotient_telling","quotient_telling",top 57,[],[],yjC,.fn⟩,⟨"by_nought","by_nought","by_nought",top 58,[],[],yjD,.fn⟩,⟨"divided_quotients","divided","divided",top 59,["x","y","answer","rest","sentence","one_place"],["x","y","answer","rest"],yjE,.fn⟩,⟨"next_place","next_place","next_place",top 61,["rest"],["rest"],yjF,.fn⟩,⟨"less_divisor","less_divisor","less_divisor",top 62,["rest","y","taken","top"],["rest","y"],yjG,.fn⟩,⟨"put_back","put_back","put_back",top 63,["rest","y","added","top","begun"],["rest","y"],yjH,.fn⟩,⟨"next_figure","next_figure","next_figure",top 64,["answer"],["answer"],yjI,.fn⟩,⟨"is_whole","is_whole","is_whole",top 67,["thing","low","high"],["thing","low","high"],yhu,.fn⟩,⟨"is_letter","is_letter","is_letter",top 68,["thing"],["thing"],yiH,.fn⟩,⟨"are_told","are_told","are_told",top 69,["thing","many"],["thing","many"],yjJ,.fn⟩,⟨"signed_product_telling","signed_product_telling","signed_product_telling",top 87,["signs"],[],yjK,.fn⟩,⟨"signed_quotient_telling","signed_quotient_telling","signed_quotient_telling",top 88,["signs","begun","ended"],[],yjL,.fn⟩,⟨"kept_sign","kept_sign","kept_sign",top 89,["to","letter"],["to","letter"],yjM,.fn⟩,⟨"worth_of","worth_of","worth_of",top 90,["cell"],["cell"],yjN,.fn⟩,⟨"less_for_x","less_for_x","less_for_x",top 91,[],[],yjO,.fn⟩,⟨"less_for_y","less_for_y","less_for_y",top 92,["before"],[],yjP,.fn⟩,⟨"product_terms","product_terms","product_terms",top 93,[],[],yjQ,.fn⟩,⟨"less_terms","less_terms","less_terms",top 94,["sign","letter"],["sign","letter"],yjR,.fn⟩,⟨"less_where","less_where","less_where",top 95,["sign","letter","sentence","upper"],["sign","letter","sentence"],yjS,.fn⟩,⟨"unfit_product","unfit_product","unfit_product",top 96,["looked"],[],yjT,.fn⟩,⟨"turned_where","turned_where","turned_where",top 97,["sign","to","source","sentence"],["sign","to","source"],yjU,.fn⟩,⟨"unfit_quotient","unfit_quotient","unfit_quotient",top 98,[],[],yjV,.fn⟩,⟨"is_row","is_row","is_row",top 110,["thing"],["thing"],yhW,.fn⟩,⟨"is_told_row","is_told_row","is_told_row",top 111,["thing"],["thing"],yjW,.fn⟩,⟨"has_form","has_form","has_form",top 112,["thing","told","kind","operand"],["thing","told"],yF,.fn⟩,⟨"is_named","is_named","is_named",top 113,["thing"],["thing"],yhX,.fn⟩,⟨"is_operand","is_operand","is_operand",top 114,["kind","thing","told"],["kind","thing","told"],yhv,.fn⟩,⟨"is_cell","is_cell","is_cell",top 115,["thing"],["thing"],yhY,.fn⟩,⟨"is_told_cell","is_told_cell","is_told_cell",top 116,["thing"],["thing"],yjX,.fn⟩,⟨"is_lettered","is_lettered","is_lettered",top 117,["thing"],["thing"],yhZ,.fn⟩,⟨"is_sentence","is_sentence","is_sentence",top 122,["thing"],["thing"],yjY,.fn⟩,⟨"place_of","place_of","place_of",top 123,["told","n","i","j"],["told","n","i","j"],yh0,.fn⟩,⟨"is_term","is_term","is_term",top 124,["thing","f","exponent","things"],["thing"],yjZ,.fn⟩,⟨"are_things","are_things","are_things",top 125,["thing"],["thing"],yj0,.fn⟩,⟨"is_thing","is_thing","is_thing",top 126,["thing"],["thing"],yj1,.fn⟩,⟨"","__init__","Unrolling.__init__",inClass (top 131) 0,["self","w","n"],["self","w","n"],yiI,.ini 20⟩,⟨"","go_parts","Unrolling.go_parts",inClass (top 131) 1,["self","parts","gone","part"],["self","parts","gone"],yj,.me 20⟩,⟨"","go_rounds","Unrolling.go_rounds",inClass (top 131) 2,["self","part","gone","count","at"],["self","part","gone"],yo,.me 20⟩,⟨"","count_of","Unrolling.count_of",inClass (top 131) 3,["self","told","c","m","t"],["self","told"],y9,.me 20⟩,⟨"","add_row","Unrolling.add_row",inClass (top 131) 4,["self","told","gone","i","j","row"],["self","told","gone"],yh1,.me 20⟩,⟨"","add_round","Unrolling.add_round",inClass (top 131) 5,["self"],["self"],yh2,.me 20⟩,⟨"","add_asked","Unrolling.add_asked",inClass (top 131) 6,["self","sentence","gone","i","j"],["self","sentence","gone"],yh3,.me 20⟩,⟨"is_telling","is_telling","is_telling",top 132,["thing"],["thing"],yiJ,.fn⟩,⟨"unrolled","unrolled","unrolled",top 133,["telling","w","n"],["telling","w","n"],yh4,.fn⟩,⟨"steps_of","steps_of","steps_of",top 134,["telling","w","n","unrolling"],["telling","w","n"],yh5,.fn⟩,⟨"are_parts","are_parts","are_parts",top 135,["thing","nests"],["thing","nests"],yj2,.fn⟩,⟨"is_part","is_part","is_part",top 136,["thing","nests"],["thing","nests"],yj3,.fn⟩,⟨"both_gone","both_gone","both_gone",top 137,["gone"],["gone"],yhE,.fn⟩,⟨"placed","placed","placed",top 138,["thing","n","i","j"],["thing","n","i","j"],ygp,.fn⟩,⟨"telling","telling","telling",top 147,["deed"],["deed"],yiK,.fn⟩,⟨"deed_rows","deed_rows","deed_rows",top 148,["deed","w","n"],["deed","w","n"],yhF,.fn⟩,⟨"is_deed","is_deed","is_deed",top 149,["thing"],["thing"],yj4,.fn⟩,⟨"is_paired","is_paired","is_paired",top 150,["deed"],["deed"],yj5,.fn⟩,⟨"answer_words","answer_words","answer_words",top 151,["deed","n"],["deed","n"],yB,.fn⟩,⟨"rest_words","rest_words","rest_words",top 152,["deed","n"],["deed","n"],yhw,.fn⟩,⟨"named_telling","named_telling","named_telling",top 154,["name"],["name"],yj6,.fn⟩,⟨"words_of","words_of","words_of",top 156,["worth","w","n"],["worth","w","n"],ygq,.fn⟩,⟨"sign_of","sign_of","sign_of",top 157,["number","w"],["number","w"],yh6,.fn⟩,⟨"lowest_words","lowest_words","lowest_words",top 158,["worth","w","n","highest"],["worth","w","n"],yh7,.fn⟩,⟨"comes","comes","comes",top 160,["deed","w","n","x","y","worth","first","second","answer","rest"],["deed","w","n","x","y"],yax,.fn⟩,⟨"refuse_deed","refuse_deed","refuse_deed",top 161,["deed","w","n","x","y"],["deed","w","n","x","y"],yk,.fn⟩,⟨"reckoned","reckoned","reckoned",top 162,["deed","w","n","x","y","reckon"],["deed","w","n","x","y"],yak,.fn⟩,⟨"signed_worth","signed_worth","signed_worth",top 163,["x","k"],["x","k"],yh8,.fn⟩,⟨"unfit","unfit","unfit",top 164,["worth","k","half"],["worth","k"],yhG,.fn⟩,⟨"summed_worths","summed","summed",top 166,["x","y","k"],["x","y","k"],yj7,.fn⟩,⟨"taken_away_worths","taken_away","taken_away",top 168,["x","y","k"],["x","y","k"],yj8,.fn⟩,⟨"turned","turned","turned",top 170,["x","y","k"],["x","y","k"],yj9,.fn⟩,⟨"in_both_worths","in_both","in_both",top 171,["x","y","k"],["x","y","k"],yka,.fn⟩,⟨"in_any_worths","in_any","in_any",top 173,["x","y","k"],["x","y","k"],ykb,.fn⟩,⟨"in_one_worths","in_one","in_one",top 175,["x","y","k"],["x","y","k"],ykc,.fn⟩,⟨"bared_worths","bared","bared",top 177,["x","y","k"],["x","y","k"],ykd,.fn⟩,⟨"moved_left","moved_left","moved_left",top 179,["x","s","k"],["x","s","k"],yke,.fn⟩,⟨"moved_right","moved_right","moved_right",top 180,["x","s","k"],["x","s","k"],ykf,.fn⟩,⟨"moved_down","moved_down","moved_down",top 181,["x","s","k"],["x","s","k"],ykg,.fn⟩,⟨"rolled","rolled","rolled",top 182,["x","s","k","places"],["x","s","k"],ykh,.fn⟩,⟨"multiplied","multiplied","multiplied",top 183,["x","y","k"],["x","y","k"],yh9,.fn⟩,⟨"signed_multiplied","signed_multiplied","signed_multiplied",top 185,["x","y","k","worth"],["x","y","k"],yia,.fn⟩,⟨"divided","divided","divided",top 186,["x","y","k"],["x","y","k"],yib,.fn⟩,⟨"signed_divided","signed_divided","signed_divided",top 188,["x","y","k","above","below","worth"],["x","y","k"],y4,.fn⟩,⟨"made","made","made",top 192,["name","w","x","y","k","make"],["name","w","x","y","k"],yic,.fn⟩,⟨"highest","highest","highest",top 193,["w"],["w"],yid,.fn⟩,⟨"moved","moved","moved",top 194,["w","x","y","k"],["w","x","y","k"],yie,.fn⟩,⟨"bared","bared","bared",top 196,["w","x","y","k"],["w","x","y","k"],yif,.fn⟩,⟨"summed","summed","summed",top 198,["w","x","y","k","total"],["w","x","y","k"],yig,.fn⟩,⟨"taken_away","taken_away","taken_away",top 200,["w","x","y","k","total"],["w","x","y","k"],yhH,.fn⟩,⟨"in_both","in_both","in_both",top 202,["w","x","y","k"],["w","x","y","k"],yih,.fn⟩,⟨"in_any","in_any","in_any",top 204,["w","x","y","k"],["w","x","y","k"],yii,.fn⟩,⟨"in_one","in_one","in_one",top 206,["w","x","y","k"],["w","x","y","k"],yij,.fn⟩,⟨"doubled","doubled","doubled",top 208,["w","x","y","k"],["w","x","y","k"],yik,.fn⟩,⟨"halved","halved","halved",top 210,["w","x","y","k"],["w","x","y","k"],yil,.fn⟩,⟨"","__init__","Machine.__init__",inClass (top 214) 0,["self","w"],["self","w"],yim,.ini 21⟩,⟨"","put","Machine.put",inClass (top 214) 1,["self","letter","at","word","cell"],["self","letter","at","word"],yin,.me 21⟩,⟨"","word","Machine.word",inClass (top 214) 2,["self","letter","at"],["self","letter","at"],yio,.me 21⟩,⟨"","run","Machine.run",inClass (top 214) 5,["self","rows","row"],["self","rows"],yx,.me 21⟩,⟨"","held_in","Machine.held_in",inClass (top 214) 6,["self","cell"],["self","cell"],yip,.me 21⟩,⟨"","go_row","Machine.go_row",inClass (top 214) 7,["self","row"],["self","row"],yf,.me 21⟩,⟨"","go_times","Machine.go_times",inClass (top 214) 8,["self","row","product"],["self","row"],yiq,.me 21⟩,⟨"","go_made","Machine.go_made",inClass (top 214) 9,["self","row","x","y","word","mark"],["self","row"],yir,.me 21⟩,⟨"known_cell","known_cell","known_cell",top 215,["letter","at"],["letter","at"],yiL,.fn⟩,⟨"refuse_row","refuse_row","refuse_row",top 216,["thing"],["thing"],yhI,.fn⟩,⟨"ran","ran","ran",top 219,["deed","w","n","x","y","machine","answer"],["deed","w","n","x","y"],ybz,.fn⟩,⟨"machine_with","machine_with","machine_with",top 220,["w","n","x","y","machine","letter","worth","at","word"],["w","n","x","y"],yr,.fn⟩,⟨"number_in","number_in","number_in",top 221,["machine","letter","many"],["machine","letter","many"],yab,.fn⟩,⟨"_law_fresh","_law_fresh","_law_fresh",top 223,["_law_script"],["_law_script"],yis,.fn⟩,⟨"_law_mixed","_law_mixed","_law_mixed",top 224,["_law_seed","_law_primes","_law_number","_law_k","_law_prime","_law_far","_law_square","_law_power"],["_law_seed"],yal,.fn⟩,⟨"_law_fill","_law_fill","_law_fill",top 225,["_law_state","_law_cells","_law_at","_law_seed"],["_law_state"],yV,.fn⟩,⟨"_law_take","_law_take","_law_take",top 226,["_law_state","_law_many","_law_turns","_law_digit"],["_law_state","_law_many"],yR,.fn⟩,⟨"_law_sizes","_law_sizes","_law_sizes",top 227,["_law_state","_law_most"],["_law_state","_law_most"],yit,.fn⟩,⟨"_law_worth","_law_worth","_law_worth",top 228,["_law_state","_law_w","_law_n","_law_way","_law_top","_law_k","_law_edges","_law_any_one","_law_low","_law_wide","_law_worth_here","_law_some","_law_words"],["_law_state","_law_w","_law_n"],yO,.fn⟩,⟨"_law_two_to","_law_two_to","_law_two_to",top 229,["_law_many","_law_found","_law_k"],["_law_many"],yiu,.fn⟩,⟨"_law_kinds","_law_kinds","_law_kinds",top 230,["_law_error","_law_kinds_here"],["_law_error"],yki,.fn⟩,⟨"_law_asked","_law_asked","_law_asked",top 231,["_law_asked_here","_law_deed","_law_w","_law_n","_law_x","_law_y","_law_told","_law_found","_law_error"],["_law_asked_here","_law_deed","_law_w","_law_n","_law_x","_law_y"],yaj,.fn⟩,⟨"_law_any","_law_any","_law_any",top 232,["_law_state","_law_w","_law_n","_law_top","_law_way"],["_law_state","_law_w","_law_n"],yaK,.fn⟩,⟨"_law_due","_law_due","_law_due",top 233,["_law_deed","_law_w","_law_n","_law_x","_law_y","_law_top"],["_law_deed","_law_w","_law_n","_law_x","_law_y"],yap,.fn⟩,⟨"law","law","law",top 234,["_law_script","_law_state","_law_w","_law_n","_law_good","_law_near","_law_deed","_law_x","_law_y","_law_due_here","_law_asked_here"],["_law_script"],ya5,.fn⟩]
 al:=[eD "word" 0,eF "last_word" 1,eF "rows" 2,eF "rounds" 3,eD "lowest" 4,eD "term" 5,eD "moved_parts" 6,eF "doubled_parts" 7,eF "kept_mark" 8,eF "kept_contrary" 9,eF "sign_filled" 10,eF "gathered_unlike" 11,eF "asked_words" 12,eF "answer_marks" 13,eF "product_telling" 14,eF "multiplied_products" 15,eF "by_one_word" 16,eF "quotient_telling" 17,eF "by_nought" 18,eF "divided_quotients" 19,eF "next_place" 20,eF "less_divisor" 21,eF "put_back" 22,eF "next_figure" 23,eF "is_whole" 24,eF "is_letter" 25,eF "are_told" 26,eF "signed_product_telling" 27,eF "signed_quotient_telling" 28,eF "kept_sign" 29,eF "worth_of" 30,eF "less_for_x" 31,eF "less_for_y" 32,eF "product_terms" 33,eF "less_terms" 34,eF "less_where" 35,eF "unfit_product" 36,eF "turned_where" 37,eF "unfit_quotient" 38,eF "is_row" 39,eF "is_told_row" 40,eF "has_form" 41,eF "is_named" 42,eF "is_operand" 43,eF "is_cell" 44,eF "is_told_cell" 45,eF "is_lettered" 46,eF "is_sentence" 47,eF "place_of" 48,eF "is_term" 49,eF "are_things" 50,eF "is_thing" 51,eF "is_telling" 59,eF "unrolled" 60,eF "steps_of" 61,eF "are_parts" 62,eF "is_part" 63,eF "both_gone" 64,eF "placed" 65,eF "telling" 66,eF "deed_rows" 67,eF "is_deed" 68,eF "is_paired" 69,eF "answer_words" 70,eF "rest_words" 71,eF "named_telling" 72,eF "words_of" 73,eF "sign_of" 74,eF "lowest_words" 75,eF "comes" 76,eF "refuse_deed" 77,eF "reckoned" 78,eF "signed_worth" 79,eF "unfit" 80,eF "summed_worths" 81,eF "taken_away_worths" 82,eF "turned" 83,eF "in_both_worths" 84,eF "in_any_worths" 85,eF "in_one_worths" 86,eF "bared_worths" 87,eF "moved_left" 88,eF "moved_right" 89,eF "moved_down" 90,eF "rolled" 91,eF "multiplied" 92,eF "signed_multiplied" 93,eF "divided" 94,eF "signed_divided" 95,eF "made" 96,eF "highest" 97,eF "moved" 98,eF "bared" 99,eF "summed" 100,eF "taken_away" 101,eF "in_both" 102,eF "in_any" 103,eF "in_one" 104,eF "doubled" 105,eF "halved" 106,eF "known_cell" 115,eF "refuse_row" 116,eF "ran" 117,eF "machine_with" 118,eF "number_in" 119,eF "_law_fresh" 120,eF "_law_mixed" 121,eF "_law_fill" 122,eF "_law_take" 123,eF "_law_sizes" 124,eF "_law_worth" 125,eF "_law_two_to" 126,eF "_law_kinds" 127,eF "_law_asked" 128,eF "_law_any" 129,eF "_law_due" 130,eF "law" 131,eF "bared_made" 99,eF "divided_worths" 94,eF "doubled_made" 105,eF "halved_made" 106,eF "in_any_made" 103,eF "in_both_made" 102,eF "in_one_made" 104,eF "moved_made" 98,eF "multiplied_worths" 92,eF "summed_made" 100,eF "taken_away_made" 101,eC "BACK" ygX,eC "BORROWED" yiE,eC "EACH_PLACE" yjd,eC "EACH_WORD" yi,eC "FACTOR_LIMIT" (.int (10000000000000000000000000000000000000000)),eC "FILL_signed" yhA,eC "HIGH" yho,eC "LONE" yjf,eC "LOST_signed" yiF,eC "LOW" yev,eC "MARKS_parts" yb,eC "MARKS_runs" (.int (4)),eC "MOST_NESTS" (.int (2)),eC "MOST_ROUNDS" (.int (4000)),eC "MOST_ROWS" (.int (4000)),eC "MOST_TERMS" (.int (20)),eC "MOST_THINGS" (.int (2)),eC "MOST_TOLD" (.int (200)),eC "NIL" ycM,eC "OVER" yhB,eC "PAIRED" yiG,eC "PAIRWISE" yjk,eC "PRODUCTS" yhV,eC "QUOTIENTS" yfb,eC "SEEN" yhC,eC "SHIFTS" yhD,eC "SIGN_OF_BOTH" yY,eC "SIGN_X" yet,eC "SIGN_Y" yf7,eC "SPARE" ydc,eG "ROWS" (.dct ybE),eG "NoFit" (.exc 0),eG "NoDeed" (.exc 6),eG "NoQuotient" (.exc 7),eG "Machine" (.cls 21 107),eG "Unrolling" (.cls 20 52)]
 bs:=["ValueError","abs","all","any","bool","enumerate","int","isinstance","len","max","range","str","tuple","zip"]
 ts:=[.bool,.int,.str,.tuple]
 fl:=[eN 20 "n",eN 20 "rounds",eN 20 "rows",eN 20 "steps",eN 20 "w",eN 21 "marked",eN 21 "w",eN 21 "words"]
 me:=[eM 20 "go_parts" 53,eM 20 "go_rounds" 54,eM 20 "count_of" 55,eM 20 "add_row" 56,eM 20 "add_round" 57,eM 20 "add_asked" 58,eM 21 "put" 108,eM 21 "word" 109,eM 21 "run" 110,eM 21 "held_in" 111,eM 21 "go_row" 112,eM 21 "go_times" 113,eM 21 "go_made" 114]
 kb:=[eK 0 1 ["i"] [AA 0,AD,AA 0,AA 0],eK 0 1 ["i","j"] [AA 0,AD,AD,AA 0],eK 0 1 ["i","m"] [AA 0,AD,AA 0,AD],eK 0 1 ["j"] [AA 0,AA 0,AD,AA 0],eK 0 1 ["m"] [AA 0,AA 0,AA 0,AD],eK 0 2 ["m"] [AA 0,AA 0,AD],eK 4 1 ["i"] [AA 0,AD,AA 0,AA 0],eK 4 1 ["i","m"] [AA 0,AD,AA 0,AD],eK 4 1 ["j"] [AA 0,AA 0,AD,AA 0],eK 4 1 ["m"] [AA 0,AA 0,AA 0,AD],eK 4 2 [] [AA 0,AA 0,AA 0],eK 4 2 ["m"] [AA 0,AA 0,AD],eK 5 2 [] [AA 0,AA 0,AA 0,AA 0],eK 5 2 ["i"] [AD,AA 0,AA 0,AA 0],eK 5 2 ["p"] [AA 0,AD,AA 0,AA 0],eK 5 2 ["p","q"] [AA 0,AD,AD,AA 0],eK 5 2 ["p","r"] [AA 0,AD,AA 0,AD],eK 5 2 ["r"] [AA 0,AA 0,AA 0,AD],eK 6 2 [] [AA 0]]
 cn:=[eN 21 "Machine",eN 20 "Unrolling",eN 0 "NoFit",eN 6 "NoDeed",eN 7 "NoQuotient",eN 1 "NoText",eN 2 "NoCell",eN 3 "NoWord",eN 4 "NoRow",eN 5 "NoTelling",eN 8 "TooMany",eN 9 "NoLine",eN 10 "NoName",eN 11 "NoWidth",eN 12 "NoPair",eN 13 "NoUndo",eN 1076 "comes",eN 1117 "ran"]
 dd:=[eB "ROWS" ybE]
 ml:=[eL "MAKERS" ya,eL "RECKONED" yiD]
 xs:=[(0,.cls 0),(0,.cls 1),(0,.cls 10),(0,.cls 11),(0,.cls 12),(0,.cls 13),(0,.cls 2),(0,.cls 3),(0,.cls 4),(0,.cls 5),(0,.cls 6),(0,.cls 7),(0,.cls 8),(0,.cls 9),(0,.val),(6,.cls 0),(6,.cls 1),(6,.cls 10),(6,.cls 11),(6,.cls 12),(6,.cls 13),(6,.cls 2),(6,.cls 3),(6,.cls 4),(6,.cls 5),(6,.cls 6),(6,.cls 7),(6,.cls 8),(6,.cls 9),(6,.val),(7,.cls 0),(7,.cls 1),(7,.cls 10),(7,.cls 11),(7,.cls 12),(7,.cls 13),(7,.cls 2),(7,.cls 3),(7,.cls 4),(7,.cls 5),(7,.cls 6),(7,.cls 7),(7,.cls 8),(7,.cls 9),(7,.val)]
 xc:=[eN 0 "NoFit",eN 1 "NoText",eN 2 "NoCell",eN 3 "NoWord",eN 4 "NoRow",eN 5 "NoTelling",eN 6 "NoDeed",eN 7 "NoQuotient",eN 8 "TooMany",eN 9 "NoLine",eN 10 "NoName",eN 11 "NoWidth",eN 12 "NoPair",eN 13 "NoUndo"]
 xm:=[eN 0 "WordError",eN 6 "WordError",eN 7 "WordError"]
 qh:=["_law_kinds"]
theorem ok_all:tbQ.tbl.all (okT tbQ)=true:=by decide +kernel
theorem T_ok:∀i d,tbQ.tbl[i]?=AA d->T i=AA d.fn:=λi d h=>by
 have e:Tl=tbQ.tbl.map (·.fn):=rfl;rw[T,e,Bk,h];rfl
theorem kb_all:ybG (KbP tbQ) tbQ.kb:=by
 repeat' (first|exact trivial|(refine⟨kbP rfl rfl rfl rfl rfl ⋯ ?_,?_⟩;((repeat intro _);exact⟨_,rfl,rfl⟩)))
theorem cn_20:cnm tbQ 20="Unrolling":=rfl
theorem cn_21:cnm tbQ 21="Machine":=rfl
end WK
namespace IC
open PySem
def yaW(call:Cl)(t:Tg)(b:Css)(xs:List PV)(ρ:Env)(st:SO):Fl:=forL t (λρ2 st2=>exs call ρ2 st2 b) xs ρ st
def yaG(call:Cl)(c:Ce)(b:Css)(n:Nat)(ρ:Env)(st:SO):Fl:=yad (λρ2 st2=>ev call ρ2 st2 c) (λρ2 st2=>exs call ρ2 st2 b) n ρ st
def ybm(call:Cl)(ρ0:Env)(t:Tg)(c e:Ce)(x:PV)(st2:SO):R (Option PV):=match yD t x ρ0 with
 |none=>.bad
 |some ρ1=>(ev call ρ1 st2 c).bind λb st3=>onO (yaD st3 b) λk=>cond k ((ev call ρ1 st3 e).bind λy st4=>.ok (AA y) st4) (.ok AD st3)
def yaf(call:Cl)(ρ0:Env)(t:Tg)(c e:Ce)(xs:List PV)(st:SO):R (List PV):=yaL (ybm call ρ0 t c e) xs st
def yau(f:Fl)(k:Env->SO->Fl):Fl:=
 match f with
 |.nx ρ st=>k ρ st
 |f=>f
def nxO(o:Option Env)(st:SO):Fl:=
 match o with
 |some ρ=>.nx ρ st
 |none=>.bad
def stO(ρ:Env)(o:Option SO):Fl:=
 match o with
 |some st=>.nx ρ st
 |none=>.bad
section
variable {call:Cl}{ρ:Env}{st:SO}
theorem x_for{t:Tg}{it:Cit}{b:Css}:ex call ρ st (.for t it b)=(evi call ρ st it).fl ρ λxs st1=>yaW call t b xs ρ st1:=rfl
def zmJ{c:Ce}{b:Css}:ex call ρ st (.while c b)=yaG call c b 100000 ρ st:=rfl
theorem v_comp{sl:List (Option Nat)}{t:Tg}{it:Cit}{c e:Ce}:ev call ρ st (.comp sl t it c e)=(evi call ρ st it).bind λxs st1=>ycq (yaf call (sl.map λo=>o.bind λj=>(ρ[j]?).join) t c e xs st1):=rfl
def zQ{t:Tg}{b:Css}:yaW call t b [] ρ st=.nx ρ st:=rfl
def zC{t:Tg}{b:Css}{x:PV}{xs:List PV}{ρ1:Env}(h:yD t x ρ=AA ρ1):yaW call t b (x::xs) ρ st=yao (exs call ρ1 st b) λρ2 st2=>yaW call t b xs ρ2 st2:=by
 rw[yaW,forL,h];rfl
def zev{t:Tg}{b:Css}(P:Nat->Env->SO->Prop):∀(xs:List PV) (i:Nat) (ρ:Env) (st:SO),P i ρ st ->
  (∀(j:Nat) (x:PV) (ρ:Env) (st:SO),xs[j]?=AA x->P (i+j) ρ st->∃ρ1 ρ2 st2,yD t x ρ=AA ρ1/\exs call ρ1 st b=.nx ρ2 st2/\P (i+j+1) ρ2 st2) ->
  ∃ρ' st',yaW call t b xs ρ st=.nx ρ' st'/\P (i+xs.length) ρ' st'
 |[],i,ρ,st,h,_=>⟨ρ,st,zQ,h⟩
 |x::xs,i,ρ,st,h,k=>by
  let⟨ρ1,ρ2,st2,e1,e2,h2⟩:=k 0 x ρ st rfl h;let⟨ρ',st',e3,h3⟩:=zev P xs (i+1) ρ2 st2 h2 λj y ρ st hy hp=>by
   have:=k (j+1) y ρ st (by simpa using hy) (by rw[show i+(j+1)=i+1+j by lia];exact hp);rw[show i+(j+1)+1=i+1+j+1 by lia]at this;exact this
  refine⟨ρ',st',?_,by rw[A1,show i+(xs.length+1)=i+1+xs.length by lia];exact h3⟩;rw[zC e1,e2];exact e3
def zi5{c:Ce}{b:Css}{n:Nat}{x:PV}{st1 st2:SO}{ρ2:Env}(h:ev call ρ st c=.ok x st1)(ht:yaD st1 x=AA AC)(hb:exs call ρ st1 b=.nx ρ2 st2):yaG call c b (n+1) ρ st=yaG call c b n ρ2 st2:=by
 rw[yaG,yad,h];erw[R.fl,ht,onF,cond_true,hb,yao];rfl
def zfA{c:Ce}{b:Css}{n:Nat}{x:PV}{st1:SO}(h:ev call ρ st c=.ok x st1)(ht:yaD st1 x=AA AB):yaG call c b (n+1) ρ st=.nx ρ st1:=by
 rw[yaG,yad,h];erw[R.fl,ht,onF,cond_false]
def zb6{ρ0:Env}{t:Tg}{c e:Ce}:yaf call ρ0 t c e [] st=.ok [] st:=rfl
def zaC{ρ0:Env}{t:Tg}{c e:Ce}{x:PV}{xs:List PV}:yaf call ρ0 t c e (x::xs) st=(ybm call ρ0 t c e x st).bind λo st1=>(yaf call ρ0 t c e xs st1).bind λys st2=>.ok (ybQ o ys) st2:=rfl
def zfz{ρ0:Env}{t:Tg}{c e:Ce}{f:PV->PV}:∀(xs:List PV),(∀x∈xs,ybm call ρ0 t c e x st=.ok (AA (f x)) st)->yaf call ρ0 t c e xs st=.ok (xs.map f) st
 |[],_=>zb6
 |x::xs,h=>by
  rw[zaC,h x A8];erw[R.bind];rw[zfz xs λy hy=>h y (AQ _ hy)];rfl
theorem xs_nil:exs call ρ st .nil=.nx ρ st:=rfl
theorem xs_cons{s:Cs}{ss:Css}:exs call ρ st (.cons s ss)=yau (ex call ρ st s) λρ1 st1=>exs call ρ1 st1 ss:=rfl
theorem x_asg{t:Tg}{e:Ce}:ex call ρ st (.asg t e)=(ev call ρ st e).fl ρ λv st1=>nxO (yD t v ρ) st1:=rfl
theorem x_expr{e:Ce}:ex call ρ st (.expr e)=(ev call ρ st e).fl ρ λ_ st1=>.nx ρ st1:=rfl
theorem x_ret{e:Ce}:ex call ρ st (.ret e)=(ev call ρ st e).fl ρ λv st1=>.rt v st1:=rfl
theorem x_ite{c:Ce}{a b:Css}:ex call ρ st (.ite c a b)=(ev call ρ st c).fl ρ λx st1=>onF (yaD st1 x) λk=>cond k (exs call ρ st1 a) (exs call ρ st1 b):=rfl
theorem x_raise{c:Nat}{e:Ce}:ex call ρ st (.raise c e)=(ev call ρ st e).fl ρ λ_ st1=>.exc c ρ st1:=rfl
def yfp(i:Nat)(f:Fl):Fl:=
 match f with
 |.nx ρ2 st2=>.nx (ρ2.set i AD) st2
 |.rt v st2=>.rt v st2
 |_=>.bad
def yeL(cs:List Nat)(i:Nat)(f:Fl)(k:Env->SO->Nat->Fl):Fl:=
 match f with
 |.exc d ρ1 st1=>if cs.contains d then yfp i (k ρ1 st1 d)else .bad
 |f=>f
theorem x_try{b h:Css}{cs:List Nat}{i:Nat}:ex call ρ st (.try b cs i h)=yeL cs i (exs call ρ st b) λρ1 st1 d=>exs call (ρ1.set i (AA (.exn d))) st1 h:=rfl
theorem x_six{o i e:Ce}:ex call ρ st (.six o i e)=(ev call ρ st e).fl ρ λv st1=>(ev call ρ st1 o).fl ρ λx st2=>(ev call ρ st2 i).fl ρ λy st3=>stO ρ (ybf st3 x y v):=rfl
def yel(o:Option Nat)(k:Nat->Fl):Fl:=match o with
 |some j=>k j
 |none=>.bad
def znI{i:Nat}{D:List (AL×Nat)}{n:Ce}{es:Ces}:ex call ρ st (.mkr i D n es)=(ev call ρ st n).fl ρ λx st1=>yel (mkV D (decide (i<ρ.length)) x) λj=>((evs call (ρ.set i AD) st1 es).bind λvs st2=>call j vs st2).fl (ρ.set i AD) λv st3=>.rt v st3:=rfl
def zfM{c:Nat}{o e:Ce}{f:AL}:ex call ρ st (.sfl c o f e)=(ev call ρ st e).fl ρ λv st1=>(ev call ρ st1 o).fl ρ λx st2=>stO ρ (yaT c st2 x f v):=rfl
def zgd{o i e:Ce}:ex call ρ st (.dput o i e)=(ev call ρ st e).fl ρ λv st1=>(ev call ρ st1 o).fl ρ λx st2=>(ev call ρ st2 i).fl ρ λy st3=>stO ρ (yaY st3 x y v):=rfl
def zql{i:Nat}{o:BOp}{e:Ce}{x:PV}(h:ρ[i]?=AA (AA x)):ex call ρ st (.aug i o e)=(ev call ρ st e).fl ρ λy st1=>nxO ((ybA o x y).map λz=>ρ.set i (AA z)) st1:=by
 rw[ex,h];show (ev call ρ st e).fl ρ _=_;refine congrArg _ (funext λy=>funext λst1=>?_)
 cases ybA o x y<;>rfl
end
theorem ve1(call:Nat->List PV->SO->R PV)(ρ:Env)(st:SO)(v:PV):
  ev call ρ st (Ce.cst v)=R.ok v st:=rfl
theorem ve2(call:Nat->List PV->SO->R PV)(ρ:Env)(st:SO)(i:Nat):
  ev call ρ st (Ce.var i) =
  match ρ[i]? with
  |some (AA v)=>R.ok v st
  |x=>R.bad:=rfl
theorem ve3(call:Nat->List PV->SO->R PV)(ρ:Env)(st:SO)(o:BOp)(a b:Ce):
  ev call ρ st (Ce.bin o a b)=R.bind (ev call ρ st a) λx st1=>R.bind (ev call ρ st1 b) λy st2=>toR (yt o x y) st2:=rfl
theorem ve4(call:Nat->List PV->SO->R PV)(ρ:Env)(st:SO)(a:Ce):
  ev call ρ st (Ce.neg a) =
  R.bind (ev call ρ st a) λx st1=>
   match x with
   |PV.int i=>R.ok (PV.int (-i)) st1
   |x=>R.bad:=rfl
theorem ve5(call:Nat->List PV->SO->R PV)(ρ:Env)(st:SO)(a:Ce):
  ev call ρ st (Ce.not a)=R.bind (ev call ρ st a) λx st1=>onBl x λk=>R.ok (PV.bl !k) st1:=rfl
theorem ve6(call:Nat->List PV->SO->R PV)(ρ:Env)(st:SO)(a b:Ce):
  ev call ρ st (Ce.and a b)=R.bind (ev call ρ st a) λx st1=>onBl x λk=>bif k then ev call ρ st1 b else R.ok (PV.bl AB) st1:=rfl
theorem ve7(call:Nat->List PV->SO->R PV)(ρ:Env)(st:SO)(a b:Ce):
  ev call ρ st (Ce.or a b)=R.bind (ev call ρ st a) λx st1=>onBl x λk=>bif k then R.ok (PV.bl AC) st1 else ev call ρ st1 b:=rfl
theorem ve8(call:Nat->List PV->SO->R PV)(ρ:Env)(st:SO)(o:COp)(a b:Ce):
  ev call ρ st (Ce.cmp o a b)=R.bind (ev call ρ st a) λx st1=>R.bind (ev call ρ st1 b) λy st2=>toR (yw o x y) st2:=rfl
theorem ve9(call:Nat->List PV->SO->R PV)(ρ:Env)(st:SO)(o p:COp)(a b c:Ce):
  ev call ρ st (Ce.chain o p a b c)=R.bind (ev call ρ st a) λx st1=>R.bind (ev call ρ st1 b) λy st2=>onO (blO (yw o x y)) λk=>bif k then R.bind (ev call ρ st2 c) λz st3=>toR (yw p y z) st3 else R.ok (PV.bl AB) st2:=rfl
theorem ve10(call:Nat->List PV->SO->R PV)(ρ:Env)(st:SO)(c a b:Ce):
  ev call ρ st (Ce.ite c a b)=R.bind (ev call ρ st c) λx st1=>onO (yaD st1 x) λk=>bif k then ev call ρ st1 a else ev call ρ st1 b:=rfl
theorem ve11(call:Nat->List PV->SO->R PV)(ρ:Env)(st:SO)(es:Ces):
  ev call ρ st (Ce.tup es)=R.bind (evs call ρ st es) λvs st1=>if CY vs<=sizeMax then R.ok (PV.tup vs) st1 else R.bad:=rfl
theorem ve12(call:Nat->List PV->SO->R PV)(ρ:Env)(st:SO)(es:Ces):
  ev call ρ st (Ce.lst es)=R.bind (evs call ρ st es) λvs st1=>if CY vs<=sizeMax then R.ok (PV.lst vs) st1 else R.bad:=rfl
theorem ve13(call:Nat->List PV->SO->R PV)(ρ:Env)(st:SO)(es:Ces):
  ev call ρ st (Ce.newl es)=R.bind (evs call ρ st es) λvs st1=>if CY vs<=sizeMax then R.ok (PV.loc (CY st1)) (st1++[Ob.lst vs])else R.bad:=rfl
theorem ve15(call:Nat->List PV->SO->R PV)(ρ:Env)(st:SO)(t:Bool):
  ev call ρ st (Ce.dict0 t)=R.ok (PV.loc (CY st)) (st++[Ob.dct t []]):=rfl
theorem ve16(call:Nat->List PV->SO->R PV)(ρ:Env)(st:SO)(a i:Ce):
  ev call ρ st (Ce.idx a i)=R.bind (ev call ρ st a) λx st1=>R.bind (ev call ρ st1 i) λy st2=>toR (idxV st2 x y) st2:=rfl
theorem ve17(call:Nat->List PV->SO->R PV)(ρ:Env)(st:SO)(a l h:Ce):
  ev call ρ st (Ce.slc a l h)=R.bind (ev call ρ st a) λx st1=>R.bind (ev call ρ st1 l) λy st2=>onP (ybX y) λo=>R.bind (ev call ρ st2 h) λz st3=>toR (ycB x o z) st3:=rfl
theorem ve18(call:Nat->List PV->SO->R PV)(ρ:Env)(st:SO)(f:Nat)(es:Ces):
  ev call ρ st (Ce.call f es)=R.bind (evs call ρ st es) λvs st1=>call f vs st1:=rfl
theorem ve19(call:Nat->List PV->SO->R PV)(ρ:Env)(st:SO)(b:Blt)(es:Ces):
  ev call ρ st (Ce.blt b es)=R.bind (evs call ρ st es) λvs st1=>toR (yam b st1 vs) st1:=rfl
theorem ve20(call:Nat->List PV->SO->R PV)(ρ:Env)(st:SO)(m:Mth)(o:Ce)(es:Ces):
  ev call ρ st (Ce.mth m o es)=R.bind (ev call ρ st o) λx st1=>onO (yav m st1 x) λx_1=>R.bind (evs call ρ st1 es) λvs st2=>ybU m st2 x vs:=rfl
theorem ve21(call:Nat->List PV->SO->R PV)(ρ:Env)(st:SO)(a:Ce)(ts:List Ty):
  ev call ρ st (Ce.isi a ts)=R.bind (ev call ρ st a) λx st1=>toR (yaR x ts) st1:=rfl
theorem ve22(call:Nat->List PV->SO->R PV)(ρ:Env)(st:SO)(a:Ce)(cs:List Nat)(ts:List Ty):
  ev call ρ st (Ce.isx a cs ts)=R.bind (ev call ρ st a) λx st1=>toR (ycP cs x ts) st1:=rfl
theorem ve24(call:Nat->List PV->SO->R PV)(ρ:Env)(st:SO):
  ev call ρ st Ce.nope=R.bad:=rfl
theorem ve25(call:Nat->List PV->SO->R PV)(ρ:Env)(st:SO)(a:Ce):
  ev call ρ st (Ce.frz a)=R.bind (ev call ρ st a) λx st1=>ydu x st1:=rfl
theorem ve26(call:Nat->List PV->SO->R PV)(ρ:Env)(st:SO)(es:Ces):
  ev call ρ st (Ce.fst es)=yc7 (evs call ρ st es):=rfl
theorem ve27(call:Nat->List PV->SO->R PV)(ρ:Env)(st:SO)(a b:Ce):
  ev call ρ st (Ce.rep a b)=R.bind (ev call ρ st a) λx st1=>R.bind (ev call ρ st1 b) λy st2=>toR (ydw x y) st2:=rfl
theorem ve28(call:Nat->List PV->SO->R PV)(ρ:Env)(st:SO)(D:List (AL×PV))(a:Ce):
  ev call ρ st (Ce.dix D a)=R.bind (ev call ρ st a) λx st1=>toR (yco D x) st1:=rfl
theorem ve29(call:Nat->List PV->SO->R PV)(ρ:Env)(st:SO)(a:Ce)(D:List (AL×PV)):
  ev call ρ st (Ce.din a D)=R.bind (ev call ρ st a) λx st1=>toR (yb3 D x) st1:=rfl
theorem ve31(call:Nat->List PV->SO->R PV)(ρ:Env)(st:SO)(a b:Ce):
  ev call ρ st (Ce.nin a b)=R.bind (ev call ρ st a) λx st1=>R.bind (ev call ρ st1 b) λy st2=>toR (ybW st2 x y) st2:=rfl
theorem ve32(call:Nat->List PV->SO->R PV)(ρ:Env)(st:SO)(c:Nat)(a:Ce)(f:AL):
  ev call ρ st (Ce.fld c a f)=R.bind (ev call ρ st a) λx st1=>toR (yaS c st1 x f) st1:=rfl
theorem ve33(call:Nat->List PV->SO->R PV)(ρ:Env)(st:SO)(c i:Nat)(es:Ces):
  ev call ρ st (Ce.new c i es)=R.bind (evs call ρ st es) λvs st1=>R.bind (yaZ (call i (PV.loc (CY st1)::vs) (st1++[Ob.ins c []]))) λv st2=>newV (CY st1) v st2:=rfl
theorem ve35(call:Nat->List PV->SO->R PV)(ρ:Env)(st:SO)(i:Nat)(es:Ces):
  ev call ρ st (Ce.qcl i es)=R.bind (evs call ρ st es) λvs st1=>yaZ (call i vs st1):=rfl
theorem ve36(call:Nat->List PV->SO->R PV)(ρ:Env)(st:SO)(a b:Ce):
  ev call ρ st (Ce.inn a b)=R.bind (ev call ρ st a) λx st1=>R.bind (ev call ρ st1 b) λy st2=>toR (ybZ st2 x y) st2:=rfl
theorem ve37(call:Nat->List PV->SO->R PV)(ρ:Env)(st:SO)(c i:Nat)(m:AL)(o:Ce)
 (es:Ces):
  ev call ρ st (Ce.mcl c i m o es)=R.bind (ev call ρ st o) λx st1=>onO (ybT c m st1 x) λx_1=>R.bind (evs call ρ st1 es) λvs st2=>call i (x::vs) st2:=rfl
def ye2(o:Option Nat)(k:Nat->R PV):R PV:=match o with
 |some j=>k j
 |none=>R.bad
theorem ve44(call:Nat->List PV->SO->R PV)(ρ:Env)(st:SO)(i:Nat)(L:List (AL×Nat))(es:Ces):
  ev call ρ st (Ce.cav i L es)=ye2 (yb0 L ρ[i]?) λj=>R.bind (evs call ρ st es) λvs st1=>call j vs st1:=rfl
end IC
namespace WK
open IC PySem
mutual
noncomputable def pvq:PV->PV->Bool
 |.non,.non=>AC
 |.bl a,.bl b=>a==b
 |.int i,.int j=>decide (i=j)
 |.str x,.str y=>decide (x=y)
 |.tp k xs,.tp l ys=>(k==l)&&ycI xs ys
 |.lst xs,.lst ys=>ycI xs ys
 |_,_=>AB
noncomputable def ycI:List PV->List PV->Bool
 |[],[]=>AC
 |x::xs,y::ys=>pvq x y&&ycI xs ys
 |_,_=>AB
end
mutual
theorem zkQ:∀(a b:PV),pvq a b=AC->a=b
 |.non,b,h=>by cases b<;>simp[pvq]at h ⊢
 |.bl a,b,h=>by cases b<;>simp[pvq]at h ⊢;exact h
 |.int a,b,h=>by cases b<;>simp[pvq]at h ⊢;exact h
 |.str a,b,h=>by cases b<;>simp[pvq]at h ⊢;exact h
 |.tp k xs,b,h=>by
  cases b<;>simp[pvq]at h ⊢
  exact⟨h.1,zfT _ _ h.2⟩
 |.lst xs,b,h=>by
  cases b<;>simp[pvq]at h ⊢
  exact zfT _ _ h
 |.loc _,b,h=>by cases b<;>simp[pvq]at h
 |.exn _,b,h=>by cases b<;>simp[pvq]at h
 |.fnc _,b,h=>by cases b<;>simp[pvq]at h
 |.scr _,b,h=>by cases b<;>simp[pvq]at h
theorem zfT:∀(a b:List PV),ycI a b=AC->a=b
 |[],b,h=>by cases b<;>simp[ycI]at h ⊢
 |x::xs,b,h=>by
  cases b with
  |nil=>simp[ycI]at h
  |cons y ys=>
   simp[ycI]at h;rw[zkQ x y h.1,zfT xs ys h.2]
end
def isOk(r:R PV)(v:PV):Bool:=match r with
 |.ok w []=>pvq w v
 |_=>AB
def zcA{r:R PV}{v:PV}(h:isOk r v=AC):r=.ok v []:=by
 match r with
 |.ok w []=>rw[zkQ w v h]
 |.ok w (_::_)=>simp[isOk]at h
 |.exc _ _=>simp[isOk]at h
 |.bad=>simp[isOk]at h
def chS(c:Nat):Str:=⟨#[c]⟩
def yN(c:Nat)(i:Int):PV:=.tup [.str (chS c),.int i]
def zm1{c d:Nat}(h:chS c=chS d):c=d:=by
 have:=congrArg (λx=>x.cps) h;simpa [chS] using this
def zbz(c d:Nat)(i j:Int):peq (yN c i) (yN d j)=decide (c=d/\i=j):=by
 have h:(chS c==chS d)=decide (c=d):=by
  rw[Dp];simp;exact⟨zm1,λe=>by rw[e]⟩
 simp[yN,peq,ybi,h,Bool.decide_and]
 try rfl
abbrev Mem:=Nat->Int->Int
def upd(M:Mem)(c:Nat)(i v:Int):Mem:=λd j=>if d=c/\j=i then v else M d j
def ycD(kvs:List (PV×PV)):Prop:=∀p∈kvs,∃c i,p.1=yN c i
def Rel(kvs:List (PV×PV))(M:Mem):Prop:=∀c i,(look (yN c i) kvs).getD (.int 0)=.int (M c i)
def zgE(c:Nat)(i:Int)(v:PV)(d:Nat)(j:Int):∀kvs,ycD kvs->look (yN d j) (kvs.map λp=>if peq p.1 (yN c i)=AC then(p.1,v)else p)=if d=c/\j=i then(if (kvs.any λp=>peq p.1 (yN c i))=AC then AA v else AD)else look (yN d j) kvs
 |[],_=>by simp[look]
 |p::kvs,h=>by
  let⟨e,g,hp⟩:=h p A8;let⟨p1,p2⟩:=p;simp only at hp;subst hp;have ih:=zgE c i v d j kvs λq hq=>h q (AQ _ hq);rw[AU,Ax];erw[zbz]
  by_cases h1:e=c/\g=i
  .let⟨rfl,rfl⟩:=h1;erw[and_self,decide_true,if_true,look,zbz,G9]
   by_cases h2:e=d/\g=j
   .let⟨rfl,rfl⟩:=h2;simp
   .have h3:¬(d=e/\j=g):=λz=>h2 ⟨z.1.symm,z.2.symm⟩;erw[h2,h3,decide_false,if_false,Bd];rw[ih,if_neg h3]
  .simp only[h1,decide_false,GA,Bd,if_false];rw[look,look];erw[zbz]
   by_cases h2:e=d/\g=j
   .let⟨rfl,rfl⟩:=h2;simp[h1]
   .simp only[h2,decide_false,Bd,if_false];exact ih
def zgA(c:Nat)(i:Int)(v:PV)(d:Nat)(j:Int):∀kvs,ycD kvs->(kvs.any λp=>peq p.1 (yN c i))=AB->look (yN d j) (kvs++[(yN c i,v)])=if d=c/\j=i then AA v else look (yN d j) kvs
 |[],_,_=>by
  erw[CF,look,zbz]
  by_cases h2:c=d/\i=j
  .let⟨rfl,rfl⟩:=h2;simp
  .have h3:¬(d=c/\j=i):=λz=>h2 ⟨z.1.symm,z.2.symm⟩;simp[h2,h3]
 |p::kvs,h,hn=>by
  let⟨e,g,hp⟩:=h p A8;let⟨p1,p2⟩:=p;simp only at hp;subst hp;rw[Ax,Bool.or_eq_false_iff]at hn;have ih:=zgA c i v d j kvs (λq hq=>h q (AQ _ hq)) hn.2;have h1:¬(e=c/\g=i):=by simpa [zbz] using hn.1
  rw[Be,look,look];erw[zbz]
  by_cases h2:e=d/\g=j
  .let⟨rfl,rfl⟩:=h2;simp[h1]
  .simp only[h2,decide_false,Bd,if_false];exact ih
def zkd(c:Nat)(i:Int)(v:PV)(d:Nat)(j:Int)(kvs:List (PV×PV))(h:ycD kvs):look (yN d j) (put (yN c i) v kvs)=if d=c/\j=i then AA v else look (yN d j) kvs:=by
 unfold put;split
 .rename_i z;rw[zgE _ _ _ _ _ _ h,z,if_pos rfl]
 .rename_i z;exact zgA _ _ _ _ _ _ h (by simpa using z)
def zjF{c:Nat}{i:Int}{v:PV}{kvs:List (PV×PV)}(h:ycD kvs):ycD (put (yN c i) v kvs):=by
 unfold put;split
 .intro p hp;let⟨q,hq,rfl⟩:=FO.1 hp;let⟨e,g,he⟩:=h q hq;refine⟨e,g,?_⟩;split
  .exact he
  .exact he
 .intro p hp;rcases Bq.1 hp with hp|hp
  .exact h p hp
  .simp at hp;exact⟨c,i,by rw[hp]⟩
def zl0{c:Nat}{i v:Int}{kvs:List (PV×PV)}{M:Mem}(h:ycD kvs)(r:Rel kvs M):Rel (put (yN c i) (.int v) kvs) (upd M c i v):=by
 intro d j;rw[zkd _ _ _ _ _ _ h];unfold upd;split
 .rfl
 .exact r d j
def zm3{k v:PV}{kvs:List (PV×PV)}:(put k v kvs).length<=kvs.length+1:=by
 unfold put;split
 .simp
 .simp
def zgz(c:Nat)(i:Int):isKey AC (yN c i)=true:=rfl
structure Dc(st:SO)(n:Nat)(M:Mem)(L:Nat):Prop where
 ex:∃kvs,st[n]?=AA (.dct AC kvs)/\ycD kvs/\Rel kvs M/\kvs.length<=L
def zjH{st:SO}{n L:Nat}{M:Mem}(h:Dc st n M L)(c:Nat)(i:Int):ydQ st (.loc n) (yN c i) (.int 0)=.ok (.int (M c i)) st:=by
 let⟨kvs,h1,h2,h3,h4⟩:=h;erw[ydQ,ya0,h1,zgz,if_true,h3 c i]
def zjg{st:SO}{n L:Nat}{M:Mem}(h:Dc st n M L)(hL:L<999999)(c:Nat)(i v:Int):∃kvs,yaY st (.loc n) (yN c i) (.int v)=AA (st.set n (.dct AC kvs))/\Dc (st.set n (.dct AC kvs)) n (upd M c i v) (L+1):=by
 let⟨kvs,h1,h2,h3,h4⟩:=h;have hn:n<st.length:=by
  rcases DQ n st.length with z|z
  .exact z
  .rw[BN z]at h1;cases h1
 refine⟨put (yN c i) (.int v) kvs,?_,⟨_,A5 hn,zjF h2,zl0 h2 h3,As zm3 ∅⟩⟩;have h5:kvs.length<1000000:=by lia
 erw[yaY,h1,zgz,h5,and_self,if_true]
abbrev Cel:=Nat×Int
def yC(x:Cel):PV:=yN x.1 x.2
inductive Rw where
 |mark (d:Int)|ask (x:Cel)|set (t:Cel) (d:Int)|move (t x:Cel)|bare (t x:Cel)|twice (t x:Cel)|half (t x:Cel)
 |sum (t x y:Cel)|less (t x y:Cel)|both (t x y:Cel)|any (t x y:Cel)|odd (t x y:Cel)|times (l h x y:Cel)
def yae:Rw->PV
 |.mark d=>.tup [.str "mark",.int d]
 |.ask x=>.tup [.str "ask",yC x]
 |.set t d=>.tup [.str "set",yC t,.int d]
 |.move t x=>.tup [.str "move",yC t,yC x]
 |.bare t x=>.tup [.str "bare",yC t,yC x]
 |.twice t x=>.tup [.str "twice",yC t,yC x]
 |.half t x=>.tup [.str "half",yC t,yC x]
 |.sum t x y=>.tup [.str "sum",yC t,yC x,yC y]
 |.less t x y=>.tup [.str "less",yC t,yC x,yC y]
 |.both t x y=>.tup [.str "both",yC t,yC x,yC y]
 |.any t x y=>.tup [.str "any",yC t,yC x,yC y]
 |.odd t x y=>.tup [.str "odd",yC t,yC x,yC y]
 |.times l h x y=>.tup [.str "times",yC l,yC h,yC x,yC y]
def rd(M:Mem)(x:Cel):Int:=M x.1 x.2
def wr(M:Mem)(x:Cel)(v:Int):Mem:=upd M x.1 x.2 v
def stepM(W:Int)(M:Mem)(k:Int):Rw->Mem×Int
 |.mark d=>(M,d)
 |.ask x=>(M,bi (!(rd M x==0)))
 |.set t d=>(wr M t d,k)
 |.move t x=>(wr M t (rd M x),k)
 |.bare t x=>(wr M t (W-1-rd M x),k)
 |.twice t x=>(wr M t ((2*rd M x+k)%W),(2*rd M x+k)/W)
 |.half t x=>(wr M t (rd M x/2+k*(W/2)),rd M x%2)
 |.sum t x y=>(wr M t ((rd M x+rd M y+k)%W),(rd M x+rd M y+k)/W)
 |.less t x y=>(wr M t ((rd M x-rd M y-k)%W),bi (decide (rd M x-rd M y-k<0)))
 |.both t x y=>(wr M t (Ar (rd M x) (rd M y)),k)
 |.any t x y=>(wr M t (B3 (rd M x) (rd M y)),k)
 |.odd t x y=>(wr M t (B4 (rd M x) (rd M y)),k)
 |.times l h x y=>(wr (wr M l (rd M x*rd M y%W)) h (rd M x*rd M y/W),k)
def ybg(W:Int):List Rw->Mem->Int->Mem×Int
 |[],M,k=>(M,k)
 |r::rs,M,k=>ybg W rs (stepM W M k r).1 (stepM W M k r).2
def zjj{st:SO}{n:Nat}{o:Ob}(h:st[n]?=AA o):st=st.set n o:=by
 refine Ec λi=>?_;rw[CM];split
 .rename_i e;subst e;split
  .exact h
  .rename_i z;rw[BN ∅]at h
   cases h
 .rfl
def zdz(i:Int):shp (.int i)=true:=rfl
section
variable {st:SO}{k:Bool}{a b c d e:PV}{r:List PV}{i j:Int}
theorem ix0:idxV st (.tp k (a::r)) (.int 0)=AA a:=by simp[idxV,yaP,at?,ixI]
theorem ix1:idxV st (.tp k (a::b::r)) (.int 1)=AA b:=by
 have:(1:Int)<(r.length:Int)+1+1:=by lia
 simp[idxV,yaP,at?,ixI,this]
theorem ix2:idxV st (.tp k (a::b::c::r)) (.int 2)=AA c:=by
 have:(2:Int)<(r.length:Int)+1+1+1:=by lia
 simp[idxV,yaP,at?,ixI,this]
theorem ix3:idxV st (.tp k (a::b::c::d::r)) (.int 3)=AA d:=by
 have:(3:Int)<(r.length:Int)+1+1+1+1:=by lia
 simp[idxV,yaP,at?,ixI,this]
theorem b_add:yt .add (.int i) (.int j)=AA (.int (i+j)):=rfl
theorem b_sub:yt .sub (.int i) (.int j)=AA (.int (i-j)):=rfl
def zj7(h:i.natAbs<18446744073709551616 \/ j.natAbs<18446744073709551616):yt .mul (.int i) (.int j)=AA (.int (i*j)):=by
 have:yar i j=true:=by simpa [yar] using h
 simp[yt,binI,this]
def zaN(h:i.natAbs<18446744073709551616):yt .mul (.int i) (.int j)=AA (.int (i*j)):=zj7 (.inl h)
def zdM(h:j.natAbs<18446744073709551616):yt .mul (.int i) (.int j)=AA (.int (i*j)):=zj7 (.inr h)
theorem b_mul2:yt .mul (.int 2) (.int j)=AA (.int (2*j)):=zj7 (.inl ⋯)
def zhp(h:0<j)(h2:j<18446744073709551616*18446744073709551616):yt .fdiv (.int i) (.int j)=AA (.int (i/j)):=by
 have h3:j<10000000000000000000000000000000000000000000000000000000000000000000000:=by lia
 simp[yt,binI,h,h3]
theorem b_div2:yt .fdiv (.int i) (.int 2)=AA (.int (i/2)):=rfl
def zmM(h:0<j):yt .mod (.int i) (.int j)=AA (.int (i%j)):=by simp[yt,binI,h]
def zpM:yt .band (.int i) (.int j)=AA (.int (Ar i j)):=rfl
def zqn:yt .bor (.int i) (.int j)=AA (.int (B3 i j)):=rfl
def zp0:yt .bxor (.int i) (.int j)=AA (.int (B4 i j)):=rfl
theorem toR_some{v:PV}:toR (AA v) st=.ok v st:=rfl
theorem c_ne:yw .ne (.int i) (.int j)=AA (.bl (!(i==j))):=by simp[yw,zdz,peq]
theorem c_eq:yw .eq (.int i) (.int j)=AA (.bl (i==j)):=by simp[yw,zdz,peq]
theorem c_lt:yw .lt (.int i) (.int j)=AA (.bl (decide (i<j))):=rfl
theorem c_le:yw .le (.int i) (.int j)=AA (.bl (decide (i<=j))):=rfl
theorem c_gt:yw .gt (.int i) (.int j)=AA (.bl (decide (j<i))):=rfl
theorem c_ge:yw .ge (.int i) (.int j)=AA (.bl (decide (j<=i))):=rfl
theorem t_bl{b:Bool}:yaD st (.bl b)=AA b:=rfl
theorem on_t{f:Bool->Fl}{b:Bool}:onF (AA b) f=f b:=rfl
theorem ono{α:Type}{f:Bool->R α}{b:Bool}:onO (AA b) f=f b:=rfl
def zam{ρ:IC.Env}:stO ρ (AA st)=.nx ρ st:=rfl
theorem nxO_some{ρ:IC.Env}:nxO (AA ρ) st=.nx ρ st:=rfl
theorem fl_ok{α:Type}{a:α}{ρ:IC.Env}{k:α->SO->Fl}:(R.ok a st).fl ρ k=k a st:=rfl
theorem bd_ok{α β:Type}{a:α}{k:α->SO->R β}:(R.ok a st).bind k=k a st:=rfl
theorem th_nx{ρ:IC.Env}{k:IC.Env->SO->Fl}:yau (.nx ρ st) k=k ρ st:=rfl
theorem th_rt{v:PV}{k:IC.Env->SO->Fl}:yau (.rt v st) k=.rt v st:=rfl
theorem fl_exc{α:Type}{c:Nat}{ρ:IC.Env}{k:α->SO->Fl}:(R.exc c st:R α).fl ρ k=.exc c ρ st:=rfl
theorem bd_exc{α β:Type}{c:Nat}{k:α->SO->R β}:(R.exc c st:R α).bind k=.exc c st:=rfl
theorem th_exc{c:Nat}{ρ:IC.Env}{k:IC.Env->SO->Fl}:yau (.exc c ρ st) k=.exc c ρ st:=rfl
theorem noLocs_ints:∀(l:List Int),nLs (l.map PV.int)=AC
 |[]=>rfl
 |_::l=>by simp[nLs,nL,noLocs_ints l]
theorem bT_n{i:Nat}{v:PV}{ρ:IC.Env}:yD (.n i) v ρ=AA (ρ.set i (AA v)):=rfl
end
def zoA:∀(n x y:Nat),x<=n->(x ^^^ y)+(x &&& y)=x ||| y
 |n,x,y,h=>by
  by_cases hx:x=0
  .subst hx;simp
  .have ih:=zoA (n-1) (x/2) (y/2) ∅;rw[<-Nat.xor_div_two,<-Nat.and_div_two,<-Nat.or_div_two]at ih;have m1:(x ^^^ y)%2=((x%2) ^^^ (y%2)):=by
    have:=Nat.xor_mod_two_pow (a:=x) (b:=y) (n:=1);simpa using this
   have m2:(x &&& y)%2=((x%2) &&& (y%2)):=by
    have:=Nat.and_mod_two_pow (a:=x) (b:=y) (n:=1);simpa using this
   have m3:(x ||| y)%2=((x%2) ||| (y%2)):=by
    have:=Nat.or_mod_two_pow (a:=x) (b:=y) (n:=1);simpa using this
   rcases ER x with a|a<;>rcases ER y with b|b<;>rw[a,b]at m1 m2 m3<;>erw[Nat.reduceXor,Nat.reduceAnd,Nat.reduceOr]at m1 m2 m3<;>lia
def zkK(x y:Nat):Ar (x:Int) (y:Int)=((x &&& y:Nat):Int):=by
 simp[Ar]
def zhE(x y:Nat):B3 (x:Int) (y:Int)=((x ||| y:Nat):Int):=by
 have h1:¬(0:Int)<=-(x:Int)-1:=by lia
 have h2:¬(0:Int)<=-(y:Int)-1:=by lia
 have h3:(-(-(x:Int)-1)-1).toNat=x:=by lia
 have h4:(-(-(y:Int)-1)-1).toNat=y:=by lia
 erw[B3,Ar,Fb,h1,h2,decide_false,h3,h4];lia
def zoD(x y:Nat):B4 (x:Int) (y:Int)=((x ^^^ y:Nat):Int):=by
 have:=zoA x x y (AR x);rw[B4,zhE,zkK];lia
theorem pw(w:Nat):((2^w:Nat):Int)=2^w:=by simp
def znM{w:Nat}{a b:Int}(a0:0<=a)(b0:0<=b)(b1:b<2^w):0<=Ar a b/\Ar a b<2^w:=by
 obtain⟨x,rfl⟩:∃n:Nat,a=n:=⟨a.toNat,by lia⟩;obtain⟨y,rfl⟩:∃n:Nat,b=n:=⟨b.toNat,by lia⟩;rw[zkK];rw[<-pw]at b1 ⊢;exact⟨by lia,by exact_mod_cast Nat.and_lt_two_pow x (by lia:y<2^w)⟩
def zoI{w:Nat}{a b:Int}(a0:0<=a)(a1:a<2^w)(b0:0<=b)(b1:b<2^w):0<=B4 a b/\B4 a b<2^w:=by
 obtain⟨x,rfl⟩:∃n:Nat,a=n:=⟨a.toNat,by lia⟩;obtain⟨y,rfl⟩:∃n:Nat,b=n:=⟨b.toNat,by lia⟩;rw[zoD];rw[<-pw]at a1 b1 ⊢;exact⟨by lia,by exact_mod_cast Nat.xor_lt_two_pow (by lia:x<2^w) (by lia:y<2^w)⟩
def znG{w:Nat}{a b:Int}(a0:0<=a)(a1:a<2^w)(b0:0<=b)(b1:b<2^w):0<=B3 a b/\B3 a b<2^w:=by
 obtain⟨x,rfl⟩:∃n:Nat,a=n:=⟨a.toNat,by lia⟩;obtain⟨y,rfl⟩:∃n:Nat,b=n:=⟨b.toNat,by lia⟩;rw[zhE];rw[<-pw]at a1 b1 ⊢;exact⟨by lia,by exact_mod_cast Nat.or_lt_two_pow (by lia:x<2^w) (by lia:y<2^w)⟩
def zez(ys:List PV)(h:ys.length<=1000000)(st:SO):ycq (.ok ys st)=.ok (.lst ys) st:=by simp[ycq,h]
def zct(n:Nat)(h:n<1000):ybJ (.int (n:Int))=AA (yp n 0 1):=by
 simp[ybJ];lia
def zdQ{z:Int}(h:0<=z):∃n:Nat,z=n:=⟨z.toNat,by lia⟩
def ybj(st:SO)(f:Fl):R PV:=
 match f with
 |.rt v _=>if nL v then .ok v st else .bad
 |.nx _ _=>.ok .non st
 |.exc c _ _=>.exc c st
 |_=>.bad
def zc{T:Nat->Option IC.Fn}{k f:Nat}{fn:IC.Fn}{args:List PV}{st:SO}(hT:T f=AA fn)(hp:fn.pure=AC)(hl:args.length=fn.np)(hn:nLs args=AC):
  yc T (k+1) f args st=ybj st (exs (yc T k) (args.map AA++AM (fn.ns-fn.np) AD) [] fn.body):=by
 rw[yc,hT];dsimp only;rw[if_pos hl,if_pos hp,if_pos hn];rfl
def outI(f:Fl):R PV:=
 match f with
 |.rt v st1=>.ok v st1
 |.nx _ st1=>.ok .non st1
 |.exc c _ st1=>.exc c st1
 |_=>.bad
def zn{T:Nat->Option IC.Fn}{k f:Nat}{fn:IC.Fn}{args:List PV}{st:SO}(hT:T f=AA fn)(hp:fn.pure=AB)(hl:args.length=fn.np):
  yc T (k+1) f args st=outI (exs (yc T k) (args.map AA++AM (fn.ns-fn.np) AD) st fn.body):=by
 rw[yc,hT];dsimp only;rw[if_pos hl,hp,if_neg (by simp)];rfl
def zbS{st:SO}{v:PV}:outI (.rt v st)=.ok v st:=rfl
def zn1{st s:SO}{b:Bool}:ybj st (.rt (.bl b) s)=.ok (.bl b) st:=rfl
def zmQ{st s:SO}{b:Int}:ybj st (.rt (.int b) s)=.ok (.int b) st:=rfl
set_option backward.eqns.nonrecursive true
local macro_rules | `(tactic| simp! [$xs,*])=>do
 let l<-("IC.xs_cons IC.xs_nil IC.x_asg IC.x_ite IC.x_ret IC.x_expr IC.x_for IC.x_six IC.x_try IC.x_raise IC.evs IC.evi IC.ve1 IC.ve2 IC.ve3 IC.ve4 IC.ve5 IC.ve6 IC.ve7 IC.ve8 IC.ve9 IC.ve10 IC.ve11 IC.ve12 IC.ve13 IC.ve15 IC.ve16 IC.ve17 IC.ve18 IC.ve19 IC.ve20 IC.ve21 IC.ve22 IC.ve24 IC.ve25 IC.ve26 IC.ve28 IC.v_comp List.getElem?_cons_zero List.getElem?_cons_succ WK.bd_ok WK.fl_ok WK.bd_exc WK.fl_exc WK.toR_some IC.toL WK.bT_n WK.nxO_some WK.th_nx WK.th_rt WK.th_exc List.set_cons_zero List.set_cons_succ WK.on_t WK.t_bl WK.ono IC.onBl cond_true cond_false List.length_cons List.length_nil Nat.zero_add Nat.reduceAdd Nat.reduceSub Nat.reduceLeDiff if_true IC.nL IC.nLs WK.noLocs_ints Bool.and_self Bool.not_true Bool.not_false List.map_cons List.map_nil List.replicate List.cons_append List.nil_append List.append_nil Option.bind_none Option.bind_some Option.join_some WK.b_add WK.b_sub WK.b_mul2 WK.b_div2 WK.c_lt WK.c_le WK.c_gt WK.c_ge WK.c_eq WK.c_ne IC.PV.tup IC.sizeMax".splitOn " ").toArray.mapM λs=>`(Lean.Parser.Tactic.simpLemma| $(Lean.mkIdent s.toName):term)
 `(tactic| simp only[$l,*,$xs,*])
def yai:PV:=.tup [.int 2147483647,.int 2147483629,.int 2147483587,.int 2147483579,.int 2147483563]
def ydo:Css:=match yal.body with
 |.cons _ (.cons _ (.cons (.for _ _ b) _))=>b
 |_=>.nil
def zdn{c:Cl}{s num g p:Int}{i:Nat}{u5 u6 u7:Option PV}(hg:∀st,idxV st (.tup [.int 11,.int 101,.int 1009,.int 10007,.int 100003]) (.int i)=AA (.int g))(hi:i<5)(hp:0<p)(hp2:p<18446744073709551616):
  ∃num' v5 v6 v7,exs c [AA (.int s),AA yai,AA (.int num),AA (.int i),AA (.int p),u5,u6,u7] [] ydo=.nx [AA (.int s),AA yai,AA (.int num'),AA (.int i),AA (.int p),v5,v6,v7] []:=by
 have h1:∀z:Int,yt .mul (.int z) (.int (48271+2*(i:Int)))=AA (.int (z*(48271+2*(i:Int)))):=λz=>zdM ∅;have h2:∀z y:Int,yt .mul (.int z) (.int (y%p))=AA (.int (z*(y%p))):=λz y=>zdM (by
  have a:=Bt y (show p≠0 by lia);have b:=B0 y hp;lia)
 have h3:∀z:Int,yt .mul (.int z) (.int p)=AA (.int (z*p)):=λz=>zdM ∅;simp! [ydo,yal,hg,h1,h2,h3,zmM hp];exact⟨_,_,_,_,rfl⟩
def zki{c:Cl}{s num:Int}{u5 u6 u7:Option PV}(i:Nat)(p:Int)(h:(i,p)∈[(0,(2147483647:Int)),(1,2147483629),(2,2147483587),(3,2147483579),(4,2147483563)]):
  ∃num' v5 v6 v7,exs c [AA (.int s),AA yai,AA (.int num),AA (.int i),AA (.int p),u5,u6,u7] [] ydo=.nx [AA (.int s),AA yai,AA (.int num'),AA (.int i),AA (.int p),v5,v6,v7] []:=by
 erw[AX,Prod.mk.injEq,Aj,or_false]at h;rcases h with⟨rfl,rfl⟩|⟨rfl,rfl⟩|⟨rfl,rfl⟩|⟨rfl,rfl⟩|⟨rfl,rfl⟩
 .exact zdn (λ_=>rfl) ⋯ ⋯ ⋯
 .exact zdn (λ_=>rfl) ⋯ ⋯ ⋯
 .exact zdn (λ_=>rfl) ⋯ ⋯ ⋯
 .exact zdn (λ_=>rfl) ⋯ ⋯ ⋯
 .exact zdn (λ_=>rfl) ⋯ ⋯ ⋯
def ydH:List PV:=[.tup [.int 0,.int 2147483647],.tup [.int 1,.int 2147483629],.tup [.int 2,.int 2147483587],.tup [.int 3,.int 2147483579],.tup [.int 4,.int 2147483563]]
theorem mixed(k:Nat)(s:Int)(st:SO):∃num,yc T (k+1) yjb [.int s] st=.ok (.int num) st:=by
 let⟨ρ',st',h,num,a,b,c,d,e,e1,e2⟩:=zev (call:=yc T k) (t:=.t [3,4]) (b:=ydo) (λ_ ρ st=>∃num a b c d e,ρ=[AA (.int s),AA yai,AA (.int num),a,b,c,d,e]/\st=[]) ydH 0 [AA (.int s),AA yai,AA (.int 0),AD,AD,AD,AD,AD] [] ⟨_,_,_,_,_,_,rfl,rfl⟩ (by
  rintro j x ρ st hx ⟨num,a,b,c,d,e,rfl,rfl⟩
  have hx:=AW hx;have hx:∃i p,x=.tup [.int ((i:Nat):Int),.int p]/\(i,p)∈[(0,(2147483647:Int)),(1,2147483629),(2,2147483587),(3,2147483579),(4,2147483563)]:=by
   erw[ydH,AX,Aj,or_false]at hx;rcases hx with rfl|rfl|rfl|rfl|rfl
   .exact⟨0,_,rfl,by simp⟩
   .exact⟨1,_,rfl,by simp⟩
   .exact⟨2,_,rfl,by simp⟩
   .exact⟨3,_,rfl,by simp⟩
   .exact⟨4,_,rfl,by simp⟩
  let⟨i,p,rfl,hm⟩:=hx;let⟨num',v5,v6,v7,hh⟩:=zki (c:=yc T k) (s:=s) (num:=num) (u5:=c) (u6:=d) (u7:=e) i p hm;exact⟨_,_,_,rfl,hh,_,_,_,_,_,_,rfl,rfl⟩)
 subst e1 e2;refine⟨num,?_⟩;rw[yc];have hb:yal.body=.cons (.asg (.n 1) (.tup (.cons (.cst (.int 2147483647)) (.cons (.cst (.int 2147483629)) (.cons (.cst (.int 2147483587)) (.cons (.cst (.int 2147483579)) (.cons (.cst (.int 2147483563)) .nil))))))) (.cons (.asg (.n 2) (.cst (.int 0))) (.cons (.for (.t [3,4]) (.enum (.var 1)) ydo) (.cons (.ret (.var 2)) .nil))):=rfl;have hT:T yjb=AA ⟨1,8,AC,yal.body⟩:=rfl;have hp:PV.tup [.int 2147483647,.int 2147483629,.int 2147483587,.int 2147483579,.int 2147483563]=yai:=rfl;rw[hT,hb];have h5:ev (yc T k) [AA (.int s),AD,AD,AD,AD,AD,AD,AD] [] (.tup (.cons (.cst (.int 2147483647)) (.cons (.cst (.int 2147483629)) (.cons (.cst (.int 2147483587)) (.cons (.cst (.int 2147483579)) (.cons (.cst (.int 2147483563)) .nil))))))=.ok yai []:=by
  simp[IC.ve1,IC.ve11,evs,R.bind,sizeMax,yai]
 have he:evi (yc T k) [AA (.int s),AA yai,AA (.int 0),AD,AD,AD,AD,AD] [] (.enum (.var 1))=.ok ydH []:=by
  simp[evi,IC.ve2,R.bind,yai,yS,ydH]
 erw[A1,C8,if_true,nLs,nL,GB,AU,BY,Em,AM,Be,CF,xs_cons,xs_nil,x_asg,x_for,x_ret,h5,R.fl,yD,nxO,yau,BJ,BK,IC.ve1,he,h,IC.ve2,BD,Al]
theorem rdS{st:SO}{n:Nat}{o x:Ob}(h:st[n]?=AA o):(st.set n x)[n]?=AA x:=by
 have:n<st.length:=by
  rcases DQ n st.length with h1|h1
  .exact h1
  .rw[BN h1]at h;cases h
 rw[A5 this]
def zpr(ns:List Int)(a:Int)(h:ns≠[]):∃v,yaP (ns.map PV.int) (.int (a%(ns.length:Int)))=AA (.int v):=by
 have h0:0<ns.length:=Ft.2 h;have h1:=Bt a (show (ns.length:Int)≠0 by lia);have h2:=B0 a (show (0:Int)<ns.length by lia);have h3:(a%(ns.length:Int)).toNat<ns.length:=by lia
 refine⟨ns[(a%(ns.length:Int)).toNat],?_⟩;simp[yaP,at?,ixI,h1,h2,h3]
def flT:Css:=match yV.body with
 |.cons _ (.cons _ (.cons _ t))=>t
 |x=>x
abbrev flS(l:PV)(a p:Int)(f:Bool):Ob:=.lst [l,.int a,.int p,.bl f]
def zqd{st:SO}{n:Nat}{l:PV}{a p v:Int}{f:Bool}(h:st[n]?=AA (flS l a p f)):ybf st (.loc n) (.int 1) (.int v)=AA (st.set n (flS l v p f)):=by erw[ybf,h];rfl
def zpY{st:SO}{n:Nat}{l:PV}{a p v:Int}{f:Bool}(h:st[n]?=AA (flS l a p f)):ybf st (.loc n) (.int 2) (.int v)=AA (st.set n (flS l a v f)):=by erw[ybf,h];rfl
def zpQ{st:SO}{n:Nat}{l:PV}{a p:Int}{f g:Bool}(h:st[n]?=AA (flS l a p f)):ybf st (.loc n) (.int 3) (.bl g)=AA (st.set n (flS l a p g)):=by erw[ybf,h];rfl
def zqJ{st:SO}{n:Nat}{l:PV}{a p:Int}{f:Bool}(h:st[n]?=AA (flS l a p f)):idxV st (.loc n) (.int 0)=AA l:=by erw[idxV,h];rfl
def zqK{st:SO}{n:Nat}{l:PV}{a p:Int}{f:Bool}(h:st[n]?=AA (flS l a p f)):idxV st (.loc n) (.int 1)=AA (.int a):=by erw[idxV,h];rfl
def zqL{st:SO}{n:Nat}{l:PV}{a p:Int}{f:Bool}(h:st[n]?=AA (flS l a p f)):idxV st (.loc n) (.int 3)=AA (.bl f):=by erw[idxV,h];rfl
theorem p18:yt .pow (.int 10) (.int 18)=AA (.int 1000000000000000000):=by ac_rfl
def zf8(k n:Nat){l:PV}{m a v p q:Int}{f g:Bool}{st:SO}(h:st[n]?=AA (flS l a p f))(hl:∀st,yam .len st [l]=AA (.int m))(hg:(decide (a ≥ m) || decide (v<1000000000000000000))=g)
  (h1:g=AC->yc T (k+1) yjb [.int v] (st.set n (flS l (a+1) p AC))=.ok (.int q) (st.set n (flS l (a+1) p AC))) (h2:g=AB->q=v-1000000000000000000):
  exs (yc T (k+1)) [AA (.loc n),AA l,AA (.int a),AA (.int v)] st flT=.nx [AA (.loc n),AA l,AA (.int a),AA (.int v)] (st.set n (flS l (a+1) q g)):=by
 have s1:=zqd h (v:=a+1);have r1:=rdS h (x:=flS l (a+1) p f);have s2:=zpQ r1 (g:=g);have r2:=rdS r1 (x:=flS l (a+1) p g);have s3:=zpY r2 (v:=q);have i3:=zqL r2;rw[Cm]at s2 s3 i3 r2;rw[Cm]at s3
 have hb:flT=(match flT with
  |.cons a (.cons (.six x y _) r)=>.cons a (.cons (.six x y (.or (.cmp .ge (.var 2) (.blt .len (.cons (.var 1) .nil))) (.cmp .lt (.var 3) (.bin .pow (.cst (.int 10)) (.cst (.int 18)))))) r)
  |x=>x):=rfl
 have hor:∀st,ev (yc T (k+1)) [AA (.loc n),AA l,AA (.int a),AA (.int v)] st (.or (.cmp .ge (.var 2) (.blt .len (.cons (.var 1) .nil))) (.cmp .lt (.var 3) (.bin .pow (.cst (.int 10)) (.cst (.int 18)))))=.ok (.bl g) st:=λst=>by
  cases c:decide (a ≥ m)
  .rw[c,GA]at hg;simp! [hl,c,p18,hg]
  .rw[c,G9]at hg;subst hg;simp! [hl,c]
 generalize hE:(Ce.or (.cmp .ge (.var 2) (.blt .len (.cons (.var 1) .nil))) (.cmp .lt (.var 3) (.bin .pow (.cst (.int 10)) (.cst (.int 18)))))=E at *
 cases g with
 |true=>
  have h1:=h1 rfl;rw[hb];simp! [flT,yV,stO,s1,hor,s2,i3,h1,s3]
 |false=>
  have h2:=h2 rfl;subst h2;rw[hb];simp! [flT,yV,stO,s1,hor,s2,i3,p18,s3]
theorem fill(k n:Nat)(ns:List Int)(hns:ns.length<=1000)(a p:Int)(ha:0<=a)(f:Bool)(st:SO)(h:st[n]?=AA (.lst [.lst (ns.map .int),.int a,.int p,.bl f])):
  ∃p' f',yc T (k+2) ykv [.loc n] st=.ok .non (st.set n (.lst [.lst (ns.map .int),.int (a+1),.int p',.bl f'])):=by
 have hT:T ykv=AA ⟨1,4,AB,yV.body⟩:=rfl;have hl:∀st,yam .len st [.lst (ns.map .int)]=AA (.int (ns.length:Int)):=λst=>by
  show AA (PV.int (((ns.map PV.int).length:Nat):Int))=_;simp
 have i0:=zqJ h;have i1:=zqK h;have bt:∀(a b:PV) (ρ:IC.Env),yD (.t [1,2]) (.tp AB [a,b]) ρ=AA ((ρ.set 1 (AA a)).set 2 (AA b)):=λ_ _ _=>rfl
 have hb:yV.body=(match yV.body with
  |.cons a (.cons b (.cons c _))=>.cons a (.cons b (.cons c flT))
  |x=>x):=rfl
 have m31:yt .mul (.int 31) (.int a)=AA (.int (31*a)):=zaN ⋯;obtain⟨v,hv⟩:∃v,exs (yc T (k+1)) [AA (.loc n),AD,AD,AD] st yV.body=exs (yc T (k+1)) [AA (.loc n),AA (.lst (ns.map .int)),AA (.int a),AA (.int v)] st flT:=by
  by_cases hn:ns=[]
  .have c0:decide ((ns.length:Int) > 0)=false:=by subst hn;rfl
   refine⟨31*a+7,?_⟩;rw[hb];generalize flT=F,ns.map PV.int=L at *;simp! [yV,i0,i1,bt,m31,hl,c0]
  .have h0:0<ns.length:=Ft.2 hn;let⟨v,hv⟩:=zpr ns a hn;have c0:decide ((ns.length:Int) > 0)=true:=decide_eq_true ∅;have d1:=zhp (i:=a) (j:=(ns.length:Int)) ∅ ∅;have d2:=zmM (i:=a) (j:=(ns.length:Int)) ∅;have m1:yt .mul (.int 104729) (.int (a/(ns.length:Int)))=AA (.int (104729*(a/(ns.length:Int)))):=zaN ⋯;have ix:∀st,idxV st (.lst (ns.map .int)) (.int (a%(ns.length:Int)))=AA (.int v):=λ_=>hv;refine⟨104729*(a/(ns.length:Int))+v,?_⟩;rw[hb];generalize flT=F,ns.map PV.int=L at *;simp! [yV,i0,i1,bt,m31,hl,c0,d1,d2,m1,ix]
 cases c:(decide (a ≥ (ns.length:Int)) || decide (v<1000000000000000000))with
 |true=>
  let⟨q,hq⟩:=mixed k v (st.set n (flS (.lst (ns.map .int)) (a+1) p AC));refine⟨q,AC,?_⟩;rw[zn hT rfl rfl];have e:=zf8 k n h hl c (λ_=>hq) (λh=>nomatch h);rw[<-hv]at e;exact(congrArg _ e).trans rfl
 |false=>
  refine⟨v-1000000000000000000,AB,?_⟩;rw[zn hT rfl rfl];have e:=zf8 k n h hl c (λh=>nomatch h) (λ_=>rfl);rw[<-hv]at e;exact(congrArg _ e).trans rfl
abbrev cM:Nat:=21
abbrev sw:Str:=AE "w"
abbrev sws:Str:=AE "words"
abbrev smk:Str:=AE "marked"
def mob(w:Int)(L:Nat)(mk:Int):Ob:=.ins cM [(sw,.int w),(sws,.loc L),(smk,.int mk)]
structure MM(st:SO)(m l:Nat)(w:Int)(M:Mem)(mk:Int)(L:Nat):Prop where
 o:st[m]?=AA (mob w l mk)
 d:Dc st l M L
 ne:m≠l
def zqM{w mk:Int}{L:Nat}:([(sw,PV.int w),(sws,.loc L),(smk,.int mk)]:List (AL×PV)).lookup sw=AA (.int w):=by ac_rfl
def zqN{w mk:Int}{L:Nat}:([(sw,PV.int w),(sws,.loc L),(smk,.int mk)]:List (AL×PV)).lookup sws=AA (.loc L):=by ac_rfl
def zqO{w mk:Int}{L:Nat}:([(sw,PV.int w),(sws,.loc L),(smk,.int mk)]:List (AL×PV)).lookup smk=AA (.int mk):=by ac_rfl
section
variable {st:SO}{m l L:Nat}{w mk:Int}{M:Mem}
theorem MM.fw(h:MM st m l w M mk L):yaS cM st (.loc m) sw=AA (.int w):=by erw[yaS,h.o,mob,if_true];exact zqM
theorem MM.fd(h:MM st m l w M mk L):yaS cM st (.loc m) sws=AA (.loc l):=by erw[yaS,h.o,mob,if_true];exact zqN
theorem MM.fm(h:MM st m l w M mk L):yaS cM st (.loc m) smk=AA (.int mk):=by erw[yaS,h.o,mob,if_true];exact zqO
theorem MM.ins(h:MM st m l w M mk L)(n:AL)(hm:(([(sw,PV.non),(sws,.non),(smk,.non)]:List (AL×PV)).lookup n).isNone=true:=by decide +kernel):ybT cM n st (.loc m)=AA true:=by
 have e:([(sw,PV.int w),(sws,.loc l),(smk,.int mk)]:List (AL×PV)).lookup n=none:=by
  erw[Bg]at hm ⊢
  cases h1:n==sw with
  |true=>rw[h1]at hm;cases hm
  |false=>
   rw[h1]at hm
   cases h2:n==sws with
   |true=>rw[h2]at hm;cases hm
   |false=>
    rw[h2]at hm
    cases h3:n==smk with
    |true=>rw[h3]at hm;cases hm
    |false=>rfl
 erw[ybT,h.o,mob];rw[if_pos ⟨trivial,e⟩]
def zpB{v:Int}:ybD smk (.int v) [(sw,PV.int w),(sws,.loc L),(smk,.int mk)]=[(sw,.int w),(sws,.loc L),(smk,.int v)]:=by ac_rfl
theorem Dc.set_ne{n:Nat}(h:Dc st l M L)(hn:n≠l)(o:Ob):Dc (st.set n o) l M L:=by
 let⟨kvs,h1,h2⟩:=h.ex;exact⟨kvs,by rw[AN hn];exact h1,h2⟩
theorem Dc.le{L':Nat}(h:Dc st l M L)(hL:L<=L'):Dc st l M L':=by
 let⟨kvs,h1,h2,h3,h4⟩:=h.ex;exact⟨kvs,h1,h2,h3,As h4 hL⟩
theorem MM.sm(h:MM st m l w M mk L)(v:Int):yaT cM st (.loc m) smk (.int v)=AA (st.set m (mob w l v))/\MM (st.set m (mob w l v)) m l w M v L:=by
 refine⟨?_,⟨rdS h.o,h.d.set_ne h.ne _,h.ne⟩⟩;erw[yaT,h.o,mob];rw[if_pos ⟨trivial,by simp⟩,zpB]
theorem MM.sd(h:MM st m l w M mk L)(hL:L<999999)(c:Cel)(v:Int):∃st',yaY st (.loc l) (yC c) (.int v)=AA st'/\(∃o,st'=st.set l o)/\MM st' m l w (wr M c v) mk (L+1):=by
 let⟨kvs,e,d⟩:=zjg h.d hL c.1 c.2 v;exact⟨_,e,⟨_,rfl⟩,by rw[AN (Au h.ne)];exact h.o,d,h.ne⟩
def zcy(k:Nat)(h:MM st m l w M mk L)(c:Cel):yc T (k+1) yT [.loc m,yC c] st=.ok (.int (rd M c)) st:=by
 have hT:T yT=AA yip:=rfl;have g:ybU .get st (.loc l) [yC c,.int 0]=.ok (.int (rd M c)) st:=zjH h.d c.1 c.2;have o:yav .get st (.loc l)=AA true:=by
  let⟨kvs,h1,_⟩:=h.d.ex;simp[yav,ya0,h1]
 rw[zn hT rfl rfl];generalize yC c=q at *;simp! [yip,h.fd,o,g,zbS,IC.ve32]
end
theorem highest(k n:Nat)(hn:n<=100)(s:SO):yc T (k+1) yiV [.int n] s=.ok (.int (2^n-1)) s:=by
 have hT:T yiV=AA yid:=rfl;have hs:yt .shl (.int 1) (.int (n:Int))=AA (.int (2^n)):=by
  erw[yt,binI];rw[if_pos ⟨by lia,by lia,by decide⟩];simp
 rw[zc hT rfl rfl rfl];simp! [yid,zmQ,hs]
def zaE{st s:SO}{a b:Int}:ybj st (.rt (.tp AB [.int a,.int b]) s)=.ok (.tp AB [.int a,.int b]) st:=rfl
section
variable {x y m:Int}{n:Nat}(hn:n<=100)(hn1:1<=n)(k:Nat)(st:SO)
def zlu:yt .shr (.int x) (.int (n:Int))=AA (.int (x/2^n)):=by
 erw[yt,binI];rw[if_pos ∅];simp
theorem band(a b:Int):yt .band (.int a) (.int b)=AA (.int (Ar a b)):=rfl
def zpu{x y:Int}(hx:0<=x)(hy:0<=y):Ar x y=((x.toNat &&& y.toNat:Nat):Int):=by simp[Ar,hx,hy]
def zoT{x y:Int}(hx:¬0<=x)(hy:0<=y):Ar x y=y-((y.toNat &&& (Fb x).toNat:Nat):Int):=by simp[Ar,hx,hy]
def zd1(a:Int):Ar a (2^n-1)=a%2^n:=by
 have hp:(0:Int)<2^n:=Bj ⋯;have hc:((2^n:Nat):Int)=2^n:=by simp
 have ht:((2:Int)^n-1).toNat=2^n-1:=by lia
 by_cases h:0<=a
 .rw[zpu h ∅,ht,D5,HA,hc,Cp h]
 .have hb:Fb a=-a-1:=rfl;rw[zoT h ∅,ht,Nat.and_comm,D5,HA,hc,hb,Cp ∅];have e:=Int.emod_add_mul_ediv (-a-1) (2^n);have r0:=Bt (-a-1) (show (2:Int)^n≠0 by lia);have r1:=B0 (-a-1) hp;generalize (-a-1)%2^n=r,(-a-1)/2^n=q at *;generalize (2:Int)^n=P at *;have m:P*(-q-1)=-(P*q)-P:=by rw[Int.mul_sub,Int.mul_neg,Cz]
  rw[show a=(P-1-r)+P*(-q-1)by lia,Int.add_mul_emod_self_left,Int.emod_eq_of_lt ∅ ∅]
include hn
def zlL:yc T (k+1) yiW [.int n,.int x,.int y,.int m] st=.ok (.tp AB [.int x,.int m]) st:=by
 have hT:T yiW=AA yie:=rfl;rw[zc hT rfl rfl rfl];simp! [yie,zaE]
def zlH:yc T (k+2) yiX [.int n,.int x,.int y,.int m] st=.ok (.tp AB [.int (2^n-1-x),.int m]) st:=by
 have hT:T yiX=AA yif:=rfl;have e:=highest k n hn;rw[zc hT rfl rfl rfl];simp! [yif,zaE,e]
def zgs:yc T (k+2) yiY [.int n,.int x,.int y,.int m] st=.ok (.tp AB [.int ((x+y+m)%2^n),.int ((x+y+m)/2^n)]) st:=by
 have hT:T yiY=AA yig:=rfl;have e:=highest k n hn;rw[zc hT rfl rfl rfl];simp! [yig,zaE,e,band,zlu,zd1]
def zlE:yc T (k+2) yiZ [.int n,.int x,.int y,.int m] st=.ok (.tp AB [.int ((x-y-m)%2^n),.int (if x-y-m<0 then 1 else 0)]) st:=by
 have hT:T yiZ=AA yhH:=rfl;have e:=highest k n hn;rw[zc hT rfl rfl rfl]
 by_cases c:x-y-m<0
 .have hc:yw .lt (.int (x-y-m)) (.int 0)=AA (.bl AC):=by simp[yw,ybp,c]
  rw[if_pos c];have hd:decide (x-y-m<0)=true:=decide_eq_true c;simp! [yhH,zaE,e,band,zd1,hd]
 .rw[if_neg c];have hd:decide (x-y-m<0)=false:=decide_eq_false c;simp! [yhH,zaE,e,band,zd1,hd]
def znv:yc T (k+1) yi0 [.int n,.int x,.int y,.int m] st=.ok (.tp AB [.int (Ar x y),.int m]) st:=by
 have hT:T yi0=AA yih:=rfl;rw[zc hT rfl rfl rfl];simp! [yih,zaE,zpM]
def zqc:yc T (k+1) yi1 [.int n,.int x,.int y,.int m] st=.ok (.tp AB [.int (B3 x y),.int m]) st:=by
 have hT:T yi1=AA yii:=rfl;rw[zc hT rfl rfl rfl];simp! [yii,zaE,zqn]
def zpW:yc T (k+1) yi2 [.int n,.int x,.int y,.int m] st=.ok (.tp AB [.int (B4 x y),.int m]) st:=by
 have hT:T yi2=AA yij:=rfl;rw[zc hT rfl rfl rfl];simp! [yij,zaE,zp0]
def zif:yc T (k+3) yi3 [.int n,.int x,.int y,.int m] st=.ok (.tp AB [.int ((x+x+m)%2^n),.int ((x+x+m)/2^n)]) st:=by
 have hT:T yi3=AA yik:=rfl;have e:=zgs (x:=x) (y:=x) (m:=m) hn k;rw[zc hT rfl rfl rfl];simp! [yik,zaE,e]
include hn1
def zl3(x0:0<=x)(x1:x<2^n)(m0:0<=m)(m1:m<2):B3 (x/2) (m*2^(n-1))=x/2+m*(2^n/2):=by
 obtain⟨n',rfl⟩:∃n',n=n'+1:=⟨n-1,by lia⟩;let⟨a,rfl⟩:=zdQ x0;let⟨b,rfl⟩:=zdQ m0;have e1:((a:Int)/2)=((a/2:Nat):Int):=by lia
 have e2:((b:Int)*2^(n'+1-1))=((2^n' * b:Nat):Int):=by
  rw[show n'+1-1=n' from rfl,Cn];simp
 have hp:(2:Int)^(n'+1)=2*2^n':=by rw[CN,Cn]
 have ha:a/2<2^n':=by
  have:(a:Int)<2*2^n':=by rw[<-hp];exact x1
  have h3:((2^n':Nat):Int)=2^n':=by simp
  lia
 rw[e1,e2,zhE,Nat.or_comm,<-Nat.two_pow_add_eq_or_of_lt ha,hp,Int.mul_ediv_cancel_left _ ⋯];have h3:((2^n' * b:Nat):Int)=b*2^n':=by rw[Cn];simp
 rw[Int.natCast_add,h3,IE]
def zkl(x0:0<=x)(x1:x<2^n)(m0:0<=m)(m1:m<2):yc T (k+1) yi4 [.int n,.int x,.int y,.int m] st=.ok (.tp AB [.int (x/2+m*(2^n/2)),.int (x%2)]) st:=by
 have hT:T yi4=AA yil:=rfl;have h1:yt .shr (.int x) (.int 1)=AA (.int (x/2)):=by
  have:=zlu (x:=x) (n:=1);simpa using this
 have h2:yt .shl (.int m) (.int ((n:Int)-1))=AA (.int (m*2^(n-1))):=by
  erw[yt,binI];rw[if_pos ⟨by lia,by lia,by lia⟩]
  congr 3
  congr 1
  lia
 have h3:Ar x 1=x%2:=zd1 (n:=1) x;rw[zc hT rfl rfl rfl];simp! [yil,zaE,h1,h2,zqn,zl3 hn hn1 x0 x1 m0 m1,band,h3]
end
def zkB{j:Nat}{k:Nat->Fl}:yel (AA j) k=k j:=rfl
theorem made{s:AL}{j:Nat}(hj:mkV ya AC (.str s)=AA j)(k:Nat)(st:SO){n x y m a b:Int}(e:yc T k j [.int n,.int x,.int y,.int m] []=.ok (.tp AB [.int a,.int b]) []):
  yc T (k+1) yiU [.str s,.int n,.int x,.int y,.int m] st=.ok (.tp AB [.int a,.int b]) st:=by
 have hT:T yiU=AA yic:=rfl;have hd:decide (5<6)=true:=rfl;rw[zc hT rfl rfl rfl];erw[yic,AU,BY,Em,AM,Be,CF,xs_cons,znI,IC.ve2,BD,fl_ok];simp! [hd,hj,zkB,e,zaE]
def zjn:mkV ya AC (.str "move")=AA yiW/\mkV ya AC (.str "bare")=AA yiX/\mkV ya AC (.str "sum")=AA yiY/\mkV ya AC (.str "less")=AA yiZ/\mkV ya AC (.str "both")=AA yi0 /\
  mkV ya AC (.str "any")=AA yi1/\mkV ya AC (.str "odd")=AA yi2/\mkV ya AC (.str "twice")=AA yi3/\mkV ya AC (.str "half")=AA yi4:=by
 refine⟨?_,?_,?_,?_,?_,?_,?_,?_,?_⟩<;>decide +kernel
def zqP{i j:Nat}{k:Bool}{a b:PV}{ρ:IC.Env}:yD (.t [i,j]) (.tp k [a,b]) ρ=AA ((ρ.set i (AA a)).set j (AA b)):=rfl
def zqQ{call:Cl}{ρ:IC.Env}{st:SO}:ev call ρ st (.neg (.cst (.int 1)))=.ok (.int (-1)) st:=by erw[ev,R.bind]
def okM(r:R PV)(st:SO)(m l:Nat)(w:Int)(M':Mem)(mk':Int)(L':Nat):Prop:=∃st',MM st' m l w M' mk' L'/\(∀n,n≠m->n≠l->st'[n]?=st[n]?)/\st'.length=st.length/\r=.ok .non st'
section
variable {st:SO}{m l L n:Nat}{mk:Int}{M:Mem}
def za4(k:Nat)(h:MM st m l n M mk L)(hL:L<999999){s:AL}{j:Nat}(hj:mkV ya AC (.str s)=AA j){t x z:Cel}{r:List PV}
  (hlast:∀st,idxV st (.tp AB (.str s::yC t::yC x::r)) (.int (-1))=AA (yC z)) {v m':Int} (e:yc T (k+3) j [.int n,.int (rd M x),.int (rd M z),.int mk] []=.ok (.tp AB [.int v,.int m']) []):
  okM (yc T (k+5) yi7 [.loc m,.tp AB (.str s::yC t::yC x::r)] st) st m l n (wr M t v) m' (L+1):=by
 have hT:T yi7=AA yir:=rfl;have e1:yc T (k+4) yT [.loc m,yC x] st=.ok (.int (rd M x)) st:=zcy (k+3) h x;have e2:yc T (k+4) yT [.loc m,yC z] st=.ok (.int (rd M z)) st:=zcy (k+3) h z;have e3:yc T (k+4) yiU [.str s,.int n,.int (rd M x),.int (rd M z),.int mk] st=_:=made hj (k+3) st e;have ih:=h.ins (AE "held_in");let⟨s1,d1,⟨o,ho⟩,h1⟩:=h.sd hL t v;let⟨d2,h2⟩:=h1.sm m';refine⟨_,h2,λq a b=>?_,by simp[ho],?_⟩
 .rw[AN (Au a),ho,AN (Au b)]
 rw[zn hT rfl rfl];generalize yC t=ct,yC x=cx,yC z=cz at *;simp! [yir,ih,ix0,ix1,ix2,e1,zqQ,hlast,e2,zqP,h.fw,h.fm,e3,h.fd,zgd,d1,zam,zfM,d2,DB,IC.ve32,IC.ve37];rfl
end
section
variable {st:SO}{m l L n:Nat}{mk:Int}{M:Mem}
def zco(k:Nat){s:AL}{r:List PV}{M':Mem}{mk':Int}{L':Nat}(h:MM st m l n M mk L)(q1:yw .eq (.str s) (.str "mark")=AA (.bl AB))(q2:yw .eq (.str s) (.str "ask")=AA (.bl AB))(q3:yw .eq (.str s) (.str "set")=AA (.bl AB))(q4:yw .eq (.str s) (.str "times")=AA (.bl AB))
  (g:okM (yc T (k+5) yi7 [.loc m,.tp AB (.str s::r)] st) st m l n M' mk' L'):okM (yc T (k+6) yn [.loc m,.tp AB (.str s::r)] st) st m l n M' mk' L':=by
 have hT:T yn=AA yf:=rfl;let⟨st',g1,g2,g3,e⟩:=g;refine⟨st',g1,g2,g3,?_⟩;have ih:=h.ins (AE "go_made");rw[zn hT rfl rfl];simp! [yf,ix0,q1,q2,q3,q4,ih,e,IC.ve37];rfl
theorem MM.le{L':Nat}{w:Int}(h:MM st m l w M mk L)(hL:L<=L'):MM st m l w M mk L':=⟨h.o,h.d.le hL,h.ne⟩
def zlM(k:Nat)(h:MM st m l n M mk L)(d:Int):okM (yc T (k+6) yn [.loc m,yae (.mark d)] st) st m l n M d (L+1):=by
 have hT:T yn=AA yf:=rfl;let⟨d2,h2⟩:=h.sm d;refine⟨_,h2.le ∅,λq a b=>by rw[AN (Au a)],by simp,?_⟩;have q:yw .eq (.str "mark") (.str "mark")=AA (.bl AC):=by ac_rfl
 rw[zn hT rfl rfl];simp! [yf,yae,ix0,ix1,q,zfM,d2,zam];rfl
def zoa(k:Nat)(h:MM st m l n M mk L)(x:Cel):okM (yc T (k+6) yn [.loc m,yae (.ask x)] st) st m l n M (bi (!(rd M x==0))) (L+1):=by
 have hT:T yn=AA yf:=rfl;let⟨d2,h2⟩:=h.sm (bi (!(rd M x==0)));refine⟨_,h2.le ∅,λq a b=>by rw[AN (Au a)],by simp,?_⟩;have q:yw .eq (.str "ask") (.str "mark")=AA (.bl AB):=by ac_rfl
 have q2:yw .eq (.str "ask") (.str "ask")=AA (.bl AC):=by ac_rfl
 have e1:yc T (k+5) yT [.loc m,yC x] st=.ok (.int (rd M x)) st:=zcy (k+4) h x;have ih:=h.ins (AE "held_in");rw[zn hT rfl rfl];erw[yae];generalize yC x=cx at *
 cases e:(rd M x==0)with
 |true=>
  rw[e]at d2;have d2:yaT cM st (.loc m) smk (.int 0)=_:=d2;simp! [yf,ix0,ix1,q,q2,ih,e1,e,zfM,d2,zam,IC.ve37];rfl
 |false=>
  rw[e]at d2;have d2:yaT cM st (.loc m) smk (.int 1)=_:=d2;simp! [yf,ix0,ix1,q,q2,ih,e1,e,zfM,d2,zam,IC.ve37];rfl
def zn2(k:Nat)(h:MM st m l n M mk L)(hL:L<999999)(t:Cel)(d:Int):okM (yc T (k+6) yn [.loc m,yae (.set t d)] st) st m l n (wr M t d) mk (L+1):=by
 have hT:T yn=AA yf:=rfl;let⟨s1,d1,⟨o,ho⟩,h1⟩:=h.sd hL t d;refine⟨_,h1,λq a b=>by rw[ho,AN (Au b)],by simp[ho],?_⟩;have q:yw .eq (.str "set") (.str "mark")=AA (.bl AB):=by ac_rfl
 have q2:yw .eq (.str "set") (.str "ask")=AA (.bl AB):=by ac_rfl
 have q3:yw .eq (.str "set") (.str "set")=AA (.bl AC):=by ac_rfl
 rw[zn hT rfl rfl];erw[yae];generalize yC t=ct at *;simp! [yf,ix0,ix1,ix2,q,q2,q3,h.fd,zgd,d1,zam,IC.ve32];rfl
def zke{s a b:PV}:∀st,idxV st (.tp AB [s,a,b]) (.int (-1))=AA b:=λst=>rfl
def zhs{s a b c:PV}:∀st,idxV st (.tp AB [s,a,b,c]) (.int (-1))=AA c:=λst=>rfl
def znc(a:Int):(if a<0 then(1:Int)else 0)=bi (decide (a<0)):=by
 by_cases h:a<0<;>simp[h,bi]
theorem okM.le{R:R PV}{w:Int}{L':Nat}(h:okM R st m l w M mk L)(hL:L<=L'):okM R st m l w M mk L':=by
 let⟨s,a,b,c,d⟩:=h;exact⟨s,a.le hL,b,c,d⟩
def zjX(k:Nat)(h:MM st m l n M mk L)(hL:L+1<999999)(hn:n<=100)(a b x y:Cel)(hx:(rd M x).natAbs<18446744073709551616):okM (yc T (k+6) yn [.loc m,yae (.times a b x y)] st) st m l n (wr (wr M a (rd M x*rd M y%2^n)) b (rd M x*rd M y/2^n)) mk (L+2):=by
 have hT:T yn=AA yf:=rfl;have hT2:T yku=AA yiq:=rfl;let⟨s1,d1,⟨o1,ho1⟩,h1⟩:=h.sd ∅ a (rd M x*rd M y%2^n);let⟨s2,d2,⟨o2,ho2⟩,h2⟩:=h1.sd ∅ b (rd M x*rd M y/2^n);refine⟨s2,h2,λq _ c=>by rw[ho2,AN (Au c),ho1,AN (Au c)],by simp[ho1,ho2],?_⟩;have q1:yw .eq (.str "times") (.str "mark")=AA (.bl AB):=by ac_rfl
 have q2:yw .eq (.str "times") (.str "ask")=AA (.bl AB):=by ac_rfl
 have q3:yw .eq (.str "times") (.str "set")=AA (.bl AB):=by ac_rfl
 have q4:yw .eq (.str "times") (.str "times")=AA (.bl AC):=by ac_rfl
 have ix:∀(st:SO) (a b c d e:PV),idxV st (.tp AB [a,b,c,d,e]) (.int 1)=AA b/\idxV st (.tp AB [a,b,c,d,e]) (.int 2)=AA c/\idxV st (.tp AB [a,b,c,d,e]) (.int 3)=AA d/\idxV st (.tp AB [a,b,c,d,e]) (.int 4)=AA e:=λ_ _ _ _ _ _=>⟨rfl,rfl,rfl,rfl⟩;have ih:=h.ins (AE "go_times");have ih2:=h.ins (AE "held_in");have e1:=zcy (k+3) h x;have e2:=zcy (k+3) h y;have e3:=λs=>highest (k+3) n hn s;have bm:=zaN (i:=rd M x) (j:=rd M y) hx;have f1:=h.fw;have f2:=h.fd;have f3:=h1.fw;have f4:=h1.fd;have g:yc T (k+5) yku [.loc m,yae (.times a b x y)] st=.ok .non s2:=by
  rw[zn hT2 rfl rfl];erw[yae];generalize rd M x*rd M y=p,yC a=ca,yC b=cb,yC x=cx,yC y=cy at *;simp! [yiq,ih2,e1,e2,e3,ix,bm,f1,f2,f3,f4,band,zd1,zlu,zgd,d1,d2,zam,IC.ve32,IC.ve37];rfl
 rw[zn hT rfl rfl];erw[yae]at g ⊢;simp! [yf,ix0,q1,q2,q3,q4,ih,g,IC.ve37];rfl
def zn3(k:Nat)(h:MM st m l n M mk L)(hL:L+1<999999)(hn:n<=100)(hn1:1<=n)(r:Rw)(hh:∀t x,r=.half t x->0<=rd M x/\rd M x<2^n/\0<=mk/\mk<2)(ht:∀a b x y,r=.times a b x y->(rd M x).natAbs<18446744073709551616):
  okM (yc T (k+6) yn [.loc m,yae r] st) st m l n (stepM (2^n) M mk r).1 (stepM (2^n) M mk r).2 (L+2):=by
 have hL':L<999999:=by lia
 have up:=λ{R:R PV} {M':Mem} {mk':Int} (h:okM R st m l n M' mk' (L+1))=>h.le (show L+1<=L+2 by lia);let⟨j1,j2,j3,j4,j5,j6,j7,j8,j9⟩:=zjn
 cases r with
 |mark d=>exact up (zlM k h d)
 |ask x=>exact up (zoa k h x)
 |set t d=>exact up (zn2 k h hL' t d)
 |move t x=>exact up (zco k h (by ac_rfl) (by ac_rfl) (by ac_rfl) (by ac_rfl) (za4 k h hL' j1 zke (zlL hn (k+2) [])))
 |bare t x=>exact up (zco k h (by ac_rfl) (by ac_rfl) (by ac_rfl) (by ac_rfl) (za4 k h hL' j2 zke (zlH hn (k+1) [])))
 |twice t x=>
  have e:=zif (x:=rd M x) (y:=rd M x) (m:=mk) hn k [];rw[show rd M x+rd M x+mk=2*rd M x+mk by lia]at e;exact up (zco k h (by ac_rfl) (by ac_rfl) (by ac_rfl) (by ac_rfl) (za4 k h hL' j8 zke e))
 |half t x=>
  let⟨a,b,c,d⟩:=hh t x rfl;exact up (zco k h (by ac_rfl) (by ac_rfl) (by ac_rfl) (by ac_rfl) (za4 k h hL' j9 zke (zkl hn hn1 (k+2) [] a b c d)))
 |sum t x y=>exact up (zco k h (by ac_rfl) (by ac_rfl) (by ac_rfl) (by ac_rfl) (za4 k h hL' j3 zhs (zgs hn (k+1) [])))
 |less t x y=>
  have e:=zlE (x:=rd M x) (y:=rd M y) (m:=mk) hn (k+1) [];rw[znc]at e;exact up (zco k h (by ac_rfl) (by ac_rfl) (by ac_rfl) (by ac_rfl) (za4 k h hL' j4 zhs e))
 |both t x y=>exact up (zco k h (by ac_rfl) (by ac_rfl) (by ac_rfl) (by ac_rfl) (za4 k h hL' j5 zhs (znv hn (k+2) [])))
 |any t x y=>exact up (zco k h (by ac_rfl) (by ac_rfl) (by ac_rfl) (by ac_rfl) (za4 k h hL' j6 zhs (zqc hn (k+2) [])))
 |odd t x y=>exact up (zco k h (by ac_rfl) (by ac_rfl) (by ac_rfl) (by ac_rfl) (za4 k h hL' j7 zhs (zpW hn (k+2) [])))
 |times a b x y=>exact zjX k h hL hn a b x y (ht a b x y rfl)
end
def yq(W:Int):Nat->Int->List Int
 |0,_=>[]
 |n+1,x=>x%W::yq W n (x/W)
def zaV(W:Int):∀n x,(yq W n x).length=n
 |0,_=>rfl
 |n+1,x=>by rw[yq,A1,zaV]
def ya3(c:Nat):Nat->List Int->Mem->Mem
 |_,[],M=>M
 |i,v::vs,M=>ya3 c (i+1) vs (upd M c i v)
def M0:Mem:=λ_ _=>0
def ybH(W:Int)(n:Nat)(x y:Int):Mem:=ya3 98 0 (yq W n y) (ya3 97 0 (yq W n x) M0)
structure Cx where
 l:Nat
 c:Int
 i:Int
 j:Int
 m:Int
deriving DecidableEq
inductive Op where
 |fig (d:Int)|cel (x:Cx)
deriving DecidableEq
structure Rs where
 nm:AL
 ops:List Op
deriving DecidableEq
inductive T2 where
 |row (r:Rs)|rounds (c m t:Int) (rs:List Rs)
deriving DecidableEq
inductive T1 where
 |row (r:Rs)|rounds (c m t:Int) (ps:List T2)
deriving DecidableEq
def Cx.at(x:Cx)(I J n:Int):Int:=x.c+x.i*I+x.j*J+x.m*n
def Op.pv(I J n:Int):Op->PV
 |.fig d=>.int d
 |.cel x=>yN x.l (x.at I J n)
def Rs.pv(r:Rs)(I J n:Int):PV:=.tup (.str r.nm::r.ops.map (Op.pv I J n))
def cnt(c m t w n:Int):Nat:=(c+m*n+t*w*n).toNat
def upTo{α:Type}(f:Nat->List α):Nat->List α
 |0=>[]
 |n+1=>upTo f n++f n
def T2.rows(w n:Int)(I:Nat):T2->List PV
 |.row r=>[r.pv I 0 n]
 |.rounds c m t rs=>upTo (λJ=>rs.map λr=>r.pv I J n) (cnt c m t w n)
def T2.rnd(w n:Int):T2->Nat
 |.row _=>0
 |.rounds c m t _=>cnt c m t w n
def yas(w n:Int)(I:Nat)(ps:List T2):List PV:=ps.flatMap (T2.rows w n I)
def ybN(w n:Int)(ps:List T2):Nat:=(ps.map (T2.rnd w n)).sum
def T1.rows(w n:Int):T1->List PV
 |.row r=>[r.pv 0 0 n]
 |.rounds c m t ps=>upTo (λI=>yas w n I ps) (cnt c m t w n)
def T1.rnd(w n:Int):T1->Nat
 |.row _=>0
 |.rounds c m t ps=>cnt c m t w n*(1+ybN w n ps)
def yP(w n:Int)(ps:List T1):List PV:=ps.flatMap (T1.rows w n)
def ybo(w n:Int)(ps:List T1):Nat:=(ps.map (T1.rnd w n)).sum
def sm(i:Int):Bool:=decide (i.natAbs<=200)
def intOf:PV->Option Int
 |.int i=>AA i
 |_=>AD
def strOf:PV->Option AL
 |.str s=>AA s
 |_=>AD
def ycN:PV->Option (Bool×List PV)
 |.tp k l=>AA (k,l)
 |_=>AD
def yd2:List PV->Option (PV×PV×PV×PV)
 |[a,b,c,d]=>AA (a,b,c,d)
 |_=>AD
def yd6(l:List PV):Option (Int×Int×Int×Int):=(yd2 l).bind λp=>(intOf p.1).bind λi=>(intOf p.2.1).bind λj=>(intOf p.2.2.1).bind λk=>(intOf p.2.2.2).bind λm=>AA (i,j,k,m)
def ye8(l:List PV):Option (Int×Int×Int):=(yd6 (l++[.int 0])).bind λz=>AA (z.1,z.2.1,z.2.2.1)
def opC(x y:PV):Option Op:=(strOf x).bind λs=>(ycN y).bind λq=>(yd6 q.2).bind λz=>if s=chS (s.cps.getD 0 0)/\(sm z.1&&sm z.2.1&&sm z.2.2.1&&sm z.2.2.2)=AC then AA (.cel ⟨s.cps.getD 0 0,z.1,z.2.1,z.2.2.1,z.2.2.2⟩)else AD
def yfq:List PV->Option (PV×PV)
 |[a,b]=>AA (a,b)
 |_=>AD
def ydL(v:PV):Option Op:=match intOf v with
 |some d=>AA (.fig d)
 |none=>(ycN v).bind λp=>(yfq p.2).bind λq=>opC q.1 q.2
def ybd:List PV->Option (List Op)
 |[]=>AA []
 |v::vs=>match ydL v,ybd vs with
  |some a,AA b=>AA (a::b)
  |_,_=>AD
def rowOf:PV->Option Rs
 |.tp _ (.str nm::vs)=>match ybd vs with
  |some ops=>if vs.length<100 then AA ⟨nm,ops⟩else AD
  |none=>AD
 |_=>AD
def yc2(s:AL):Bool:=decide (s=AE "row")
def ybY:PV->Option Rs
 |.tp _ [.str s,v]=>if yc2 s then rowOf v else AD
 |_=>AD
def deepOf:List PV->Option (List Rs)
 |[]=>AA []
 |v::vs=>match ybY v,deepOf vs with
  |some a,AA b=>AA (a::b)
  |_,_=>AD
def ycJ(s:AL):Bool:=decide (s=AE "rounds")
def yc4(v:PV):Option (Int×Int×Int×List PV):=(ycN v).bind λp=>(yd2 p.2).bind λq=>(strOf q.1).bind λs=>(ycN q.2.1).bind λy=>(ye8 y.2).bind λc=>(ycN q.2.2.2).bind λu=>if (ycJ s&&(sm c.1&&sm c.2.1&&sm c.2.2))=AC then AA (c.1,c.2.1,c.2.2,u.2)else AD
def part2(v:PV):Option T2:=match yc4 v with
 |some z=>(deepOf z.2.2.2).map (.rounds z.1 z.2.1 z.2.2.1)
 |none=>(ybY v).map .row
def yaI:List PV->Option (List T2)
 |[]=>AA []
 |v::vs=>match part2 v,yaI vs with
  |some a,AA b=>AA (a::b)
  |_,_=>AD
def part1(v:PV):Option T1:=match yc4 v with
 |some z=>(yaI z.2.2.2).map (.rounds z.1 z.2.1 z.2.2.1)
 |none=>(ybY v).map .row
def yaz:List PV->Option (List T1)
 |[]=>AA []
 |v::vs=>match part1 v,yaz vs with
  |some a,AA b=>AA (a::b)
  |_,_=>AD
theorem bnd{α β:Type}{o:Option α}{f:α->Option β}{b:β}(h:o.bind f=AA b):∃a,o=AA a/\f a=AA b:=by
 cases o with
 |none=>exact nomatch h
 |some a=>exact⟨a,rfl,h⟩
theorem mpd{α β:Type}{o:Option α}{f:α->β}{b:β}(h:o.map f=AA b):∃a,o=AA a/\b=f a:=by
 cases o with
 |none=>exact nomatch h
 |some a=>have h:AA (f a)=AA b:=h;cases h;exact⟨a,rfl,rfl⟩
def zb7{v:PV}{i:Int}(h:intOf v=AA i):v=.int i:=by
 cases v with
 |int j=>have h:AA j=AA i:=h;cases h;rfl
 |_=>exact nomatch (show AD=AA i from h)
def zgx{v:PV}{i:AL}(h:strOf v=AA i):v=.str i:=by
 cases v with
 |str j=>have h:AA j=AA i:=h;cases h;rfl
 |_=>exact nomatch (show AD=AA i from h)
def zdE{v:PV}{p:Bool×List PV}(h:ycN v=AA p):v=.tp p.1 p.2:=by
 cases v with
 |tp k l=>have h:AA (k,l)=AA p:=h;cases h;rfl
 |_=>exact nomatch (show AD=AA p from h)
def ziO{l:List PV}{p:PV×PV×PV×PV}(h:yd2 l=AA p):l=[p.1,p.2.1,p.2.2.1,p.2.2.2]:=by
 rcases l with _|⟨a,_|⟨b,_|⟨c,_|⟨d,_|⟨e,l⟩⟩⟩⟩⟩
 case cons.cons.cons.cons.nil=>have h:AA (a,b,c,d)=AA p:=h;cases h;rfl
 all_goals exact nomatch (show AD=AA p from h)
def zlt{l:List PV}{p:PV×PV}(h:yfq l=AA p):l=[p.1,p.2]:=by
 rcases l with _|⟨a,_|⟨b,_|⟨c,l⟩⟩⟩
 case cons.cons.nil=>have h:AA (a,b)=AA p:=h;cases h;rfl
 all_goals exact nomatch (show AD=AA p from h)
def zhm{l:List PV}{z:Int×Int×Int×Int}(h:yd6 l=AA z):l=[.int z.1,.int z.2.1,.int z.2.2.1,.int z.2.2.2]:=by
 let⟨p,e,h⟩:=bnd h;let⟨i,e1,h⟩:=bnd h;let⟨j,e2,h⟩:=bnd h;let⟨k,e3,h⟩:=bnd h;let⟨m,e4,h⟩:=bnd h;have h:AA (i,j,k,m)=AA z:=h
 cases h
 rw[ziO e,zb7 e1,zb7 e2,zb7 e3,zb7 e4]
def zmA{l:List PV}{z:Int×Int×Int}(h:ye8 l=AA z):l=[.int z.1,.int z.2.1,.int z.2.2]:=by
 let⟨p,e,h⟩:=bnd h;have e:=zhm e;have h:AA (p.1,p.2.1,p.2.2.1)=AA z:=h
 cases h
 have e:l++[.int 0]=[.int p.1,.int p.2.1,.int p.2.2.1]++[.int p.2.2.2]:=e;exact(List.append_inj' e rfl).1
def zml{v:PV}{o:Op}(h:ydL v=AA o):(∃d,o=.fig d/\v=.int d) \/ ∃a b x,o=.cel x/\v=.tp a [.str (chS x.l),.tp b [.int x.c,.int x.i,.int x.j,.int x.m]]/\x.i.natAbs<=200/\x.j.natAbs<=200/\x.m.natAbs<=200:=by
 unfold ydL at h
 cases e:intOf v with
 |some d=>rw[e]at h;have h:AA (Op.fig d)=AA o:=h;cases h;exact .inl ⟨d,rfl,zb7 e⟩
 |none=>
  rw[e]at h;let⟨p,e1,h⟩:=bnd h;let⟨q,e2,h⟩:=bnd h;let⟨s,e3,h⟩:=bnd h;let⟨y,e4,h⟩:=bnd h;let⟨z,e5,h⟩:=bnd h
  by_cases c:s=chS (s.cps.getD 0 0)/\(sm z.1&&sm z.2.1&&sm z.2.2.1&&sm z.2.2.2)=AC
  .rw[if_pos c]at h;have q2:=c.2;erw[sm,AH,decide_eq_true_eq]at q2
   cases h
   refine .inr ⟨p.1,y.1,_,rfl,?_,q2.1.1.2,q2.1.2,q2.2⟩;rw[zdE e1,zlt e2,zgx e3,zdE e4,zhm e5];simp only;rw[<-c.1]
  .rw[if_neg c]at h;cases h
def zhZ{v:PV}{z:Int×Int×Int×List PV}(h:yc4 v=AA z):∃a b sn d,v=.tp a [.str "rounds",.tp b [.int z.1,.int z.2.1,.int z.2.2.1],sn,.tp d z.2.2.2]/\z.1.natAbs<=200/\z.2.1.natAbs<=200/\z.2.2.1.natAbs<=200:=by
 let⟨p,e1,h⟩:=bnd h;let⟨q,e2,h⟩:=bnd h;let⟨s,e3,h⟩:=bnd h;let⟨y,e4,h⟩:=bnd h;let⟨c,e5,h⟩:=bnd h;let⟨u,e6,h⟩:=bnd h
 by_cases k:(ycJ s&&(sm c.1&&sm c.2.1&&sm c.2.2))=AC
 .rw[if_pos k]at h;erw[ycJ,sm,AH,decide_eq_true_eq]at k
  cases h
  refine⟨p.1,y.1,q.2.2.1,u.1,?_,k.2.1.1,k.2.1.2,k.2.2⟩;rw[zdE e1,ziO e2,zgx e3,zdE e4,zmA e5,zdE e6,k.1]
 .rw[if_neg k]at h;cases h
def zjC{v:PV}{r:Rs}(h:rowOf v=AA r):∃a vs,v=.tp a (.str r.nm::vs)/\ybd vs=AA r.ops/\vs.length<100:=by
 unfold rowOf at h;split at h
 .rename_i a nm vs;split at h
  .rename_i ops q;split at h
   .rename_i z
    cases h;exact⟨a,vs,rfl,q,z⟩
   .cases h
  .cases h
 .cases h
def zmq{v:PV}{r:Rs}(h:ybY v=AA r):∃a v1,v=.tp a [.str "row",v1]/\rowOf v1=AA r:=by
 unfold ybY at h;split at h
 .rename_i a s v1;split at h
  .rename_i q;have q:s=AE "row":=by simpa [yc2] using q
   exact⟨a,v1,by rw[q],h⟩
  .cases h
 .cases h
def zjP{v:PV}{p:T2}(h:part2 v=AA p):(∃r,p=.row r/\ybY v=AA r) \/ ∃a b sn d vs c m t rs,p=.rounds c m t rs/\v=.tp a [.str "rounds",.tp b [.int c,.int m,.int t],sn,.tp d vs]/\deepOf vs=AA rs/\c.natAbs<=200/\m.natAbs<=200/\t.natAbs<=200:=by
 unfold part2 at h
 cases e:yc4 v with
 |some z=>
  rw[e]at h;let⟨a,b,sn,d,hv,hc,hm,ht⟩:=zhZ e;let⟨rs,e2,hp⟩:=mpd (f:=T2.rounds z.1 z.2.1 z.2.2.1) (o:=deepOf z.2.2.2) h;exact .inr ⟨a,b,sn,d,_,_,_,_,rs,hp,hv,e2,hc,hm,ht⟩
 |none=>
  rw[e]at h;let⟨r,e2,hp⟩:=mpd (f:=T2.row) (o:=ybY v) h;exact .inl ⟨r,hp,e2⟩
def zkh{v:PV}{p:T1}(h:part1 v=AA p):(∃r,p=.row r/\ybY v=AA r) \/ ∃a b sn d vs c m t ps,p=.rounds c m t ps/\v=.tp a [.str "rounds",.tp b [.int c,.int m,.int t],sn,.tp d vs]/\yaI vs=AA ps/\c.natAbs<=200/\m.natAbs<=200/\t.natAbs<=200:=by
 unfold part1 at h
 cases e:yc4 v with
 |some z=>
  rw[e]at h;let⟨a,b,sn,d,hv,hc,hm,ht⟩:=zhZ e;let⟨rs,e2,hp⟩:=mpd (f:=T1.rounds z.1 z.2.1 z.2.2.1) (o:=yaI z.2.2.2) h;exact .inr ⟨a,b,sn,d,_,_,_,_,rs,hp,hv,e2,hc,hm,ht⟩
 |none=>
  rw[e]at h;let⟨r,e2,hp⟩:=mpd (f:=T1.row) (o:=ybY v) h;exact .inl ⟨r,hp,e2⟩
abbrev cU:Nat:=20
abbrev sn:Str:=AE "n"
abbrev sst:Str:=AE "steps"
abbrev srw:Str:=AE "rows"
abbrev srd:Str:=AE "rounds"
abbrev ufs(w n:Int)(l:Nat)(r q:Int):List (AL×PV):=[(sw,.int w),(sn,.int n),(sst,.loc l),(srw,.int r),(srd,.int q)]
def uob(w n:Int)(l:Nat)(r q:Int):Ob:=.ins cU (ufs w n l r q)
structure UM(st:SO)(u l:Nat)(w n r q:Int)(xs:List PV):Prop where
 o:st[u]?=AA (uob w n l r q)
 d:st[l]?=AA (.lst xs)
 ne:u≠l
section
variable {st:SO}{u l:Nat}{w n r q:Int}{xs:List PV}
theorem UM.fw(h:UM st u l w n r q xs):yaS cU st (.loc u) sw=AA (.int w):=by erw[yaS,h.o,uob,if_true];ac_rfl
theorem UM.fn(h:UM st u l w n r q xs):yaS cU st (.loc u) sn=AA (.int n):=by erw[yaS,h.o,uob,if_true];ac_rfl
theorem UM.fs(h:UM st u l w n r q xs):yaS cU st (.loc u) sst=AA (.loc l):=by erw[yaS,h.o,uob,if_true];ac_rfl
theorem UM.fr(h:UM st u l w n r q xs):yaS cU st (.loc u) srw=AA (.int r):=by erw[yaS,h.o,uob,if_true];ac_rfl
theorem UM.fq(h:UM st u l w n r q xs):yaS cU st (.loc u) srd=AA (.int q):=by erw[yaS,h.o,uob,if_true];ac_rfl
theorem UM.sr(h:UM st u l w n r q xs)(v:Int):yaT cU st (.loc u) srw (.int v)=AA (st.set u (uob w n l v q))/\UM (st.set u (uob w n l v q)) u l w n v q xs:=by
 refine⟨?_,rdS h.o,by rw[AN h.ne];exact h.d,h.ne⟩;erw[yaT,h.o,uob];rw[if_pos ⟨trivial,by simp⟩,show ybD srw (.int v) (ufs w n l r q)=ufs w n l v q by ac_rfl]
theorem UM.sq(h:UM st u l w n r q xs)(v:Int):yaT cU st (.loc u) srd (.int v)=AA (st.set u (uob w n l r v))/\UM (st.set u (uob w n l r v)) u l w n r v xs:=by
 refine⟨?_,rdS h.o,by rw[AN h.ne];exact h.d,h.ne⟩;erw[yaT,h.o,uob];rw[if_pos ⟨trivial,by simp⟩,show ybD srd (.int v) (ufs w n l r q)=ufs w n l r v by ac_rfl]
theorem UM.ap(h:UM st u l w n r q xs)(hx:xs.length<1000000)(v:PV):ybU .append st (.loc l) [v]=.ok .non (st.set l (.lst (xs++[v])))/\UM (st.set l (.lst (xs++[v]))) u l w n r q (xs++[v]):=by
 refine⟨?_,by rw[AN (Au h.ne)];exact h.o,rdS h.d,h.ne⟩;unfold ybU;erw[yd0,h.d];rw[if_pos hx]
theorem UM.ok(h:UM st u l w n r q xs):yav .append st (.loc l)=AA true:=by simp[yav,yJ,h.d]
theorem UM.ins(h:UM st u l w n r q xs)(x:AL)(hx:((ufs 0 0 0 0 0).lookup x).isNone=true:=by decide +kernel):ybT cU x st (.loc u)=AA true:=by
 have e:(ufs w n l r q).lookup x=none:=by
  erw[ufs,Bg]at hx ⊢
  cases h1:x==sw<;>rw[h1]at hx<;>simp only at hx ⊢<;>try cases hx
  cases h2:x==sn<;>rw[h2]at hx<;>simp only at hx ⊢<;>try cases hx
  cases h3:x==sst<;>rw[h3]at hx<;>simp only at hx ⊢<;>try cases hx
  cases h4:x==srw<;>rw[h4]at hx<;>simp only at hx ⊢<;>try cases hx
  cases h5:x==srd<;>rw[h5]at hx<;>simp only at hx ⊢<;>try cases hx
 erw[ybT,h.o,uob];rw[if_pos ⟨trivial,e⟩]
def zhr(k:Nat)(h:UM st u l w n r q xs)(hq:q+1<=4000):∃s,yc T (k+1) yiR [.loc u] st=.ok .non s/\UM s u l w n r (q+1) xs:=by
 have hT:T yiR=AA yh2:=rfl;let⟨d,h2⟩:=h.sq (q+1);have c:decide (q+1 > 4000)=false:=decide_eq_false ∅;have vM:yjh=.int 4000:=rfl;refine⟨_,?_,h2⟩;rw[zn hT rfl rfl];have f1:=h.fq;have f2:=h2.fq;simp! [yh2,f1,zfM,d,zam,f2,vM,c,IC.ve32,zbS];rfl
def zfd(k:Nat):∀(G:List Int),G.length<=2->∀s:SO,yc T (k+1) yiv [.tp AB (G.map .int)] s=.ok (.tp AB [.int (G.headD 0),.int (G.tail.headD 0)]) s
 |[],_,s=>by
  have hT:T yiv=AA yhE:=rfl;rw[zc hT rfl rfl rfl];rfl
 |[a],_,s=>by
  have hT:T yiv=AA yhE:=rfl;rw[zc hT rfl rfl rfl];rfl
 |[a,b],_,s=>by
  have hT:T yiv=AA yhE:=rfl;rw[zc hT rfl rfl rfl];rfl
def zin(k:Nat)(h:UM st u l w n r q xs)(hx:xs.length<1000000)(sen:PV)(G:List Int)(hG:G.length<=2):∃s,yc T (k+2) yiS [.loc u,sen,.tp AB (G.map .int)] st=.ok .non s/\UM s u l w n r q (xs++[.tp AB [.str "asked",sen,.int (G.headD 0),.int (G.tail.headD 0)]]):=by
 have hT:T yiS=AA yh3:=rfl;have e1:=zfd k G hG st;let⟨a,h2⟩:=h.ap hx (.tp AB [.str "asked",sen,.int (G.headD 0),.int (G.tail.headD 0)]);have bt:∀(i j:Nat) (a b:PV) (ρ:IC.Env),yD (.t [i,j]) (.tp AB [a,b]) ρ=AA ((ρ.set i (AA a)).set j (AA b)):=λ_ _ _ _ _=>rfl;refine⟨_,?_,h2⟩;rw[zn hT rfl rfl];have f1:=h.fs;have o:=h.ok;generalize PV.tp AB (G.map .int)=gv at *;simp! [yh3,e1,bt,f1,o,a,IC.ve32,zbS];rfl
def zjQ(k:Nat)(h:UM st u l w n r q xs)(bb:Bool)(c m t:Int)(b1:yt .mul (.int m) (.int n)=AA (.int (m*n)))(b2:yt .mul (.int t) (.int w)=AA (.int (t*w)))(b3:yt .mul (.int (t*w)) (.int n)=AA (.int (t*w*n))):
  yc T (k+1) yiQ [.loc u,.tp bb [.int c,.int m,.int t]] st=.ok (.int (c+m*n+t*w*n)) st:=by
 have hT:T yiQ=AA y9:=rfl;have bt:∀(i j k:Nat) (a b c:PV) (ρ:IC.Env),yD (.t [i,j,k]) (.tp bb [a,b,c]) ρ=AA (((ρ.set i (AA a)).set j (AA b)).set k (AA c)):=λ_ _ _ _ _ _ _=>rfl;rw[zn hT rfl rfl];have f1:=h.fw;have f2:=h.fn;simp! [y9,bt,f1,f2,b1,b2,b3,IC.ve32,zbS]
def zjT(k:Nat){b:Bool}{c i j m I J n:Int}(hi:i.natAbs<=200)(hj:j.natAbs<=200)(hm:m.natAbs<=200)(s:SO):yc T (k+1) ykl [.tp b [.int c,.int i,.int j,.int m],.int n,.int I,.int J] s=.ok (.int (c+i*I+j*J+m*n)) s:=by
 have hT:T ykl=AA yh0:=rfl;have h1:i.natAbs<18446744073709551616:=by lia
 have h2:j.natAbs<18446744073709551616:=by lia
 have h3:m.natAbs<18446744073709551616:=by lia
 have j2:∀st,idxV st (.tp b [.int c,.int i,.int j,.int m]) (.int 2)=AA (.int j):=λ_=>rfl;have j3:∀st,idxV st (.tp b [.int c,.int i,.int j,.int m]) (.int 3)=AA (.int m):=λ_=>rfl;rw[zc hT rfl rfl rfl];simp! [yh0,ix0,ix1,j2,j3,zaN h1,zaN h2,zaN h3];rfl
theorem placed(k:Nat){v:PV}{o:Op}(h:ydL v=AA o)(I J n:Int)(s:SO):yc T (k+2) yhy [v,.int n,.int I,.int J] s=.ok (o.pv I J n) s:=by
 have hT:T yhy=AA ygp:=rfl;rcases zml h with⟨d,rfl,rfl⟩|⟨f1,f2,x,rfl,rfl,q1,q2,q3⟩
 .rw[zc hT rfl rfl rfl];have hi:yaR (.int d) [.tuple]=AA (.bl AB):=rfl;simp! [ygp,hi];rfl
 .have hi:yaR (.tp f1 [.str (chS x.l),.tp f2 [.int x.c,.int x.i,.int x.j,.int x.m]]) [.tuple]=AA (.bl AC):=rfl;have e:=λs=>zjT k (b:=f2) (c:=x.c) (I:=I) (J:=J) (n:=n) q1 q2 q3 s;rw[zc hT rfl rfl rfl];simp! [ygp,hi,ix0,ix1,e];rfl
def zg5(k:Nat)(x:AL)(I J n:Int)(s:SO):yc T (k+2) yhy [.str x,.int n,.int I,.int J] s=.ok (.str x) s:=by
 have hT:T yhy=AA ygp:=rfl;rw[zc hT rfl rfl rfl];have hi:yaR (.str x) [.tuple]=AA (.bl AB):=rfl;simp! [ygp,hi];rfl
def arC:Ce:=.call yhy (.cons (.var 0) (.cons (.fld cU (.var 3) sn) (.cons (.var 1) (.cons (.var 2) .nil))))
def zgF(k:Nat)(h:UM st u l w n r q xs)(I J:Int):∀(vs:List PV) (ops:List Op),ybd vs=AA ops->yaf (yc T (k+2)) [AD,AA (.int I),AA (.int J),AA (.loc u)] (.n 0) (.cst (.bl AC)) arC vs st=.ok (ops.map (Op.pv I J n)) st
 |[],ops,e=>by cases e;exact zb6
 |v::vs,ops,e=>by
  unfold ybd at e;split at e
  .rename_i a b ha hb
   cases e
   have hp:=placed k ha I J n st;have f1:=h.fn;have ih:=zgF k h I J vs b hb;have one:ybm (yc T (k+2)) [AD,AA (.int I),AA (.int J),AA (.loc u)] (.n 0) (.cst (.bl AC)) arC v st=.ok (AA (a.pv I J n)) st:=by
    simp! [ybm,arC,f1,hp,IC.ve32]
   rw[zaC,one,bd_ok,ih,bd_ok];rfl
  .cases e
def zhS:∀{vs:List PV} {ops:List Op},ybd vs=AA ops->ops.length=vs.length
 |[],ops,e=>by cases e;rfl
 |v::vs,ops,e=>by
  unfold ybd at e;split at e
  .rename_i a b ha hb
   cases e
   rw[A1,A1,zhS hb]
  .cases e
def zmy(k:Nat)(h:UM st u l w n r q xs)(hx:xs.length<1000000)(hr:r+1<=4000){v:PV}{rs:Rs}(hv:rowOf v=AA rs)(G:List Int)(hG:G.length<=2)
  (hrow:∀s,yc T (k+2) yhx [rs.pv (G.headD 0) (G.tail.headD 0) n] s=.ok (.bl AC) s):
  ∃s,yc T (k+3) ykn [.loc u,v,.tp AB (G.map .int)] st=.ok .non s/\UM s u l w n (r+1) q (xs++[.tp AB [.str "row",rs.pv (G.headD 0) (G.tail.headD 0) n]]):=by
 have hT:T ykn=AA yh1:=rfl;let⟨a,vs,rfl,ho,hl⟩:=zjC hv;have e1:=zfd (k+1) G hG st;generalize G.headD 0=I,G.tail.headD 0=J at *;have hl2:=zhS ho;have e2:yaf (yc T (k+2)) [AD,AA (.int I),AA (.int J),AA (.loc u)] (.n 0) (.cst (.bl AC)) arC (.str rs.nm::vs) st=.ok (.str rs.nm::rs.ops.map (Op.pv I J n)) st:=by
  have hp:=zg5 k rs.nm I J n st;have f1:=h.fn;have one:ybm (yc T (k+2)) [AD,AA (.int I),AA (.int J),AA (.loc u)] (.n 0) (.cst (.bl AC)) arC (.str rs.nm) st=.ok (AA (.str rs.nm)) st:=by
   simp! [ybm,arC,f1,hp,IC.ve32]
  rw[zaC,one,bd_ok,zgF k h I J vs rs.ops ho,bd_ok];rfl
 have e2:yaf (yc T (k+2)) [AD,AA (.int I),AA (.int J),AA (.loc u)] (.n 0) (.cst (.bl AC)) (.call yhy (.cons (.var 0) (.cons (.fld cU (.var 3) sn) (.cons (.var 1) (.cons (.var 2) .nil))))) (.str rs.nm::vs) st=_:=e2;let⟨d,h2⟩:=h.sr (r+1);have ht:∀st,yam .tuple st [.lst (.str rs.nm::rs.ops.map (Op.pv I J n))]=AA (rs.pv I J n):=λ_=>rfl;let⟨b,h3⟩:=h2.ap hx (.tp AB [.str "row",rs.pv I J n]);have bt:∀(i j:Nat) (a b:PV) (ρ:IC.Env),yD (.t [i,j]) (.tp AB [a,b]) ρ=AA ((ρ.set i (AA a)).set j (AA b)):=λ_ _ _ _ _=>rfl;have c:decide (r+1 > 4000)=false:=decide_eq_false ∅;have vM:yji=.int 4000:=rfl;have f1:=h.fr;have f2:=h2.fr;have f3:=h2.fs;have o:=h2.ok;have lr:=λst=>zez (.str rs.nm::rs.ops.map (Op.pv I J n)) (by simp[hl2];lia) st;refine⟨_,?_,h3⟩;rw[zn hT rfl rfl];generalize PV.tp AB (G.map .int)=gv,PV.str rs.nm::rs.ops.map (Op.pv I J n)=row,rs.pv I J n=rowv at *;simp! [yh1,e1,bt,e2,lr,ht,f1,zfM,d,zam,hrow,f2,vM,c,f3,o,b,IC.ve32,zbS];rfl
end
inductive StR:List PV->List PV->Prop
 |nil:StR [] []
 |row {xs rs v}:nL v=AC->StR xs rs->StR (xs++[.tp AB [.str "row",v]]) (rs++[v])
 |ask {xs rs a b c}:nLs [a,b,c]=AC->StR xs rs->StR (xs++[.tp AB [.str "asked",a,b,c]]) rs
def US(st:SO)(u l:Nat)(w n:Int)(R:List PV)(q:Int)(a:Nat):Prop:=∃xs,UM st u l w n R.length q xs/\StR xs R/\xs.length<=R.length+a
section
variable {st:SO}{u l:Nat}{w n q:Int}{R:List PV}{a:Nat}
def gpB:Css:=match yj.body with
 |.cons (.for _ _ b) _=>b
 |x=>x
def zdY:yw .eq (.str "row") (.str "row")=AA (.bl AC):=by ac_rfl
def zgO:yw .eq (.str "rounds") (.str "row")=AA (.bl AB):=by ac_rfl
def zjp(I J n:Int)(o:Op):nL (o.pv I J n)=true:=by cases o<;>rfl
def zeZ(I J n:Int):∀ops:List Op,nLs (ops.map (Op.pv I J n))=AC
 |[]=>rfl
 |o::os=>by rw[AU,nLs,zjp,zeZ I J n os];rfl
def zb4(r:Rs)(I J n:Int):nL (r.pv I J n)=true:=by
 show nLs (PV.str r.nm::r.ops.map (Op.pv I J n))=AC;rw[nLs,zeZ];rfl
def zib(k:Nat)(H:US st u l w n R q a)(hR:R.length+1<=4000)(ha:a<=500000){v:PV}{r:Rs}(hv:ybY v=AA r)(G:List Int)(hG:G.length<=2)
  (hrow:∀s,yc T (k+2) yhx [r.pv (G.headD 0) (G.tail.headD 0) n] s=.ok (.bl AC) s) (p1:Option PV):
  ∃s,exs (yc T (k+3)) [AA (.loc u),p1,AA (.tp AB (G.map .int)),AA v] st gpB=.nx [AA (.loc u),p1,AA (.tp AB (G.map .int)),AA v] s/\US s u l w n (R++[r.pv (G.headD 0) (G.tail.headD 0) n]) q a:=by
 let⟨xs,h,hs,hx⟩:=H;let⟨b,v1,rfl,h1⟩:=zmq hv;let⟨s,e,h2⟩:=zmy k h ∅ ∅ h1 G hG hrow;have ih:=h.ins (AE "add_row");refine⟨s,?_,_,?_,.row (zb4 _ _ _ _) hs,by simp;lia⟩
 .generalize PV.tp AB (G.map .int)=gv at *;simp! [gpB,yj,ix0,ix1,zdY,ih,e,IC.ve37]
 .rw[A6,DU];exact h2
def zhD(k:Nat)(I J:Int)(p1:Option PV)(ha:a<=500000):∀(vs:List PV) (rs:List Rs) (st:SO) (R:List PV) (p3:Option PV),deepOf vs=AA rs->US st u l w n R q a->R.length+rs.length<=4000 ->
  (∀r∈rs,∀s,yc T (k+2) yhx [r.pv I J n] s=.ok (.bl AC) s) ->
  ∃s p3',yaW (yc T (k+3)) (.n 3) gpB vs [AA (.loc u),p1,AA (.tp AB [.int I,.int J]),p3] st=.nx [AA (.loc u),p1,AA (.tp AB [.int I,.int J]),p3'] s/\US s u l w n (R++rs.map λr=>r.pv I J n) q a
 |[],rs,st,R,p3,hd,H,_,_=>by
  cases hd
  exact⟨st,p3,zQ,by simpa using H⟩
 |v::vs,rs,st,R,p3,hd,H,hl,hrow=>by
  unfold deepOf at hd;split at hd
  .rename_i x y hx hy
   cases hd
   erw[A1]at hl;let⟨s1,e1,H1⟩:=zib k H ∅ ha hx [I,J] (by simp) (hrow x (by simp)) p1;have e1:exs (yc T (k+3)) [AA (.loc u),p1,AA (.tp AB [.int I,.int J]),AA v] st gpB=.nx [AA (.loc u),p1,AA (.tp AB [.int I,.int J]),AA v] s1:=e1;let⟨s2,p3',e2,H2⟩:=zhD k I J p1 ha vs y s1 _ (AA v) hy H1 (by simp;lia) (λr hr=>hrow r (by simp[hr]));refine⟨s2,p3',?_,by simpa using H2⟩;rw[zC (ρ1:=[AA (.loc u),p1,AA (.tp AB [.int I,.int J]),AA v]) rfl,e1];exact e2
  .cases hd
def zhT{α:Type}(f:Nat->List α){i:Nat}:∀n,i<=n->(upTo f i).length<=(upTo f n).length
 |0,h=>by
  rw[show i=0 by lia];exact AR _
 |n+1,h=>by
  rcases DQ i (n+1)with h1|h1
  .have:=zhT f (i:=i) n ∅;rw[upTo,A6];lia
  .have:i=n+1:=by lia
   rw[this];exact AR _
theorem US.ask(H:US st u l w n R q a)(k:Nat)(ha:a+1<=500000)(hR:R.length<=4000)(sen:PV)(hsn:nL sen=AC)(G:List Int)(hG:G.length<=2):∃s,yc T (k+2) yiS [.loc u,sen,.tp AB (G.map .int)] st=.ok .non s/\US s u l w n R q (a+1):=by
 let⟨xs,h,hs,hx⟩:=H;let⟨s,e,h2⟩:=zin k h ∅ sen G hG;exact⟨s,e,_,h2,.ask (by simp[nLs,nL,hsn]) hs,by simp;lia⟩
theorem US.rnd(H:US st u l w n R q a)(k:Nat)(hq:q+1<=4000):∃s,yc T (k+1) yiR [.loc u] st=.ok .non s/\US s u l w n R (q+1) a:=by
 let⟨xs,h,hs,hx⟩:=H;let⟨s,e,h2⟩:=zhr k h hq;exact⟨s,e,_,h2,hs,hx⟩
theorem US.ins(H:US st u l w n R q a)(x:AL)(hx:((ufs 0 0 0 0 0).lookup x).isNone=true:=by decide +kernel):ybT cU x st (.loc u)=AA true:=by
 let⟨xs,h,_⟩:=H;exact h.ins x hx
def grB:Css:=match yo.body with
 |.cons _ (.cons (.for _ _ b) _)=>b
 |x=>x
def zqo:∀(G:List Int),G.length<=1->∀J:Int,yt .add (.tp AB (G.map .int)) (.tp AB [.int J])=AA (.tp AB ((G++[J]).map .int))
 |[],_,J=>rfl
 |[a],_,J=>rfl
def BodyOk(k u l:Nat)(w n:Int)(d:Bool)(vs:List PV)(G:List Int)(f:Nat->List PV)(qn an J:Nat):Prop:=
 ∀(st:SO) (R:List PV) (q:Int) (a:Nat),US st u l w n R q a->R.length+(f J).length<=4000->q+qn<=4000->a+an<=500000 ->
  ∃s,yc T k yiP [.loc u,.tp d vs,.tp AB ((G++[(J:Int)]).map .int)] st=.ok .non s/\US s u l w n (R++f J) (q+qn) (a+an)
def ziY(k:Nat){a1 d:Bool}{s0 cn sn:PV}(hsn:nL sn=AC){vs:List PV}{G:List Int}(hG:G.length<=1){f:Nat->List PV}{qn an N:Nat}(hb:∀J<N,BodyOk (k+2) u l w n d vs G f qn an J)
  (hR:R.length+(upTo f N).length<=4000) (hq:q+(N*(1+qn):Nat)<=4000) (ha:a+N*(1+an)<=500000):∀(M j:Nat) (st:SO) (p4:Option PV),j+M=N->US st u l w n (R++upTo f j) (q+(j*(1+qn):Nat)) (a+j*(1+an)) ->
  ∃s p4',yaW (yc T (k+2)) (.n 4) grB (yp M (j:Int) 1) [AA (.loc u),AA (.tp a1 [s0,cn,sn,.tp d vs]),AA (.tp AB (G.map .int)),AA (.int N),p4] st=.nx [AA (.loc u),AA (.tp a1 [s0,cn,sn,.tp d vs]),AA (.tp AB (G.map .int)),AA (.int N),p4'] s/\US s u l w n (R++upTo f N) (q+(N*(1+qn):Nat)) (a+N*(1+an))
 |0,j,st,p4,hj,H=>by
  have:j=N:=by lia
  subst this;exact⟨st,p4,by rw[yp];exact zQ,H⟩
 |M+1,j,st,p4,hj,H=>by
  have l1:(upTo f (j+1)).length<=(upTo f N).length:=zhT f N ∅;rw[upTo,A6]at l1;have m1:(j+1)*(1+qn)<=N*(1+qn):=Ch _ ∅;have m2:(j+1)*(1+an)<=N*(1+an):=Ch _ ∅;have n1:(j+1)*(1+qn)=j*(1+qn)+(1+qn):=G4 _ _;have n2:(j+1)*(1+an)=j*(1+an)+(1+an):=G4 _ _;let⟨s1,e1,H1⟩:=H.ask k ∅ (by rw[A6];lia) sn hsn (G++[(j:Int)]) (by simp;lia);let⟨s2,e2,H2⟩:=H1.rnd (k+1) ∅;let⟨s3,e3,H3⟩:=hb j ∅ s2 _ _ _ H2 (by rw[A6];lia) ∅ ∅;have H3:US s3 u l w n (R++upTo f (j+1)) (q+((j+1)*(1+qn):Nat)) (a+(j+1)*(1+an)):=by
   rw[upTo,<-B6,n1,n2];have x1:q+((j*(1+qn)+(1+qn):Nat):Int)=q+((j*(1+qn):Nat):Int)+1+(qn:Int):=by lia
   have x2:a+(j*(1+an)+(1+an))=a+j*(1+an)+1+an:=by lia
   rw[x1,x2];exact H3
  let⟨s4,p4',e4,H4⟩:=ziY k (a1:=a1) (s0:=s0) (cn:=cn) (sn:=sn) hsn hG hb hR hq ha M (j+1) s3 (AA (.int j)) ∅ H3;refine⟨s4,p4',?_,H4⟩;have i1:=H.ins (AE "add_asked");have i2:=H1.ins (AE "add_round");have i3:=H2.ins (AE "go_parts");have c1:=zqo G hG (j:Int);have one:exs (yc T (k+2)) [AA (.loc u),AA (.tp a1 [s0,cn,sn,.tp d vs]),AA (.tp AB (G.map .int)),AA (.int N),AA (.int (j:Int))] st grB=.nx [AA (.loc u),AA (.tp a1 [s0,cn,sn,.tp d vs]),AA (.tp AB (G.map .int)),AA (.int N),AA (.int (j:Int))] s3:=by
   generalize PV.tp AB (G.map .int)=gv,PV.tp AB ((G++[(j:Int)]).map .int)=gw,PV.tp d vs=pv at *;simp! [grB,yo,ix0,ix1,ix2,ix3,c1,i1,i2,i3,e1,e2,e3,IC.ve37]
  rw[yp,zC (ρ1:=[AA (.loc u),AA (.tp a1 [s0,cn,sn,.tp d vs]),AA (.tp AB (G.map .int)),AA (.int N),AA (.int (j:Int))]) rfl,one];exact e4
theorem US.cnt(H:US st u l w n R q a)(k:Nat)(bb:Bool){c m t:Int}(hm:m.natAbs<=200)(ht:t.natAbs<=200)(n0:0<=n)(n1:n<=8):yc T (k+1) yiQ [.loc u,.tp bb [.int c,.int m,.int t]] st=.ok (.int (c+m*n+t*w*n)) st:=by
 let⟨xs,h,_⟩:=H;have zdM:∀{i j:Int},j.natAbs<18446744073709551616->yt .mul (.int i) (.int j)=AA (.int (i*j)):=λh=>zj7 (.inr h);exact zjQ k h bb c m t (zaN ∅) (zaN ∅) (zdM ∅)
def zm4(z:Int)(s:SO):yam .max s [.int 0,.int z]=AA (.int ((z.toNat:Nat):Int)):=by
 show AA (PV.int (if 0<z then z else 0))=_;split
 .rw[Cp ∅]
 .rw[show z.toNat=0 by lia];rfl
def ze3(k:Nat){a1 b d:Bool}{s0 sn:PV}(hsn:nL sn=AC){vs:List PV}{c m t:Int}{G:List Int}(hG:G.length<=1){f:Nat->List PV}{qn an N:Nat}(hN:N=cnt c m t w n)(hm:m.natAbs<=200)(ht:t.natAbs<=200)(n0:0<=n)(n1:n<=8)(hN2:N<1000000)
  (hb:∀J<N,BodyOk (k+2) u l w n d vs G f qn an J) (hR:R.length+(upTo f N).length<=4000) (hq:q+(N*(1+qn):Nat)<=4000) (ha:a+N*(1+an)+1<=500000) (H:US st u l w n R q a):
  ∃s,yc T (k+3) y6 [.loc u,.tp a1 [s0,.tp b [.int c,.int m,.int t],sn,.tp d vs],.tp AB (G.map .int)] st=.ok .non s/\US s u l w n (R++upTo f N) (q+(N*(1+qn):Nat)) (a+N*(1+an)+1):=by
 have hT:T y6=AA ⟨3,5,AB,yo.body⟩:=rfl;have e1:=H.cnt (k+1) b (c:=c) hm ht n0 n1;have i1:=H.ins (AE "count_of");let⟨s1,p4,e2,H2⟩:=ziY k (a1:=a1) (s0:=s0) (cn:=.tp b [.int c,.int m,.int t]) (sn:=sn) (a:=a) (q:=q) (R:=R) hsn hG hb hR hq ∅ N 0 st AD ∅ (by simpa [upTo] using H);let⟨s2,e3,H3⟩:=H2.ask k ∅ (by rw[A6];lia) sn hsn (G++[(N:Int)]) (by simp;lia);have i2:=H2.ins (AE "add_asked");have c1:=zqo G hG (N:Int);have hx:=zm4 (c+m*n+t*w*n) st;have hz:((c+m*n+t*w*n).toNat:Int)=(N:Int):=by rw[hN];rfl
 rw[hz]at hx;have hr:ybJ (.int (N:Int))=AA (yp N 0 1):=by
  erw[ybJ];rw[if_pos ∅];rfl
 have hbd:yo.body=(match yo.body with
  |.cons x (.cons (.for t i _) r)=>.cons x (.cons (.for t i grB) r)
  |x=>x):=rfl
 refine⟨s2,?_,H3⟩;rw[zn hT rfl rfl];dsimp only;rw[hbd];have e2:yaW (yc T (k+2)) (.n 4) grB (yp N 0 1) _ st=_:=e2;generalize PV.tp AB (G.map .int)=gv,PV.tp AB ((G++[(N:Int)]).map .int)=gw,PV.tp d vs=pv,PV.tp b [.int c,.int m,.int t]=cv,c+m*n+t*w*n=z at *;simp! [yo,ix0,ix1,ix2,ix3,i1,e1,hx,hr,e2,c1,i2,e3,IC.ve37,zbS];rfl
def zfX(k:Nat){b:Bool}{vs:List PV}{gv:PV}{s:SO}{p3:Option PV}(e:yaW (yc T k) (.n 3) gpB vs [AA (.loc u),AA (.tp b vs),AA gv,AD] st=.nx [AA (.loc u),AA (.tp b vs),AA gv,p3] s):
  yc T (k+1) yiP [.loc u,.tp b vs,gv] st=.ok .non s:=by
 have hT:T yiP=AA ⟨3,4,AB,yj.body⟩:=rfl
 have hbd:yj.body=(match yj.body with
  |.cons (.for t i _) r=>.cons (.for t i gpB) r
  |x=>x):=rfl
 rw[zn hT rfl rfl];dsimp only;rw[hbd];simp! [yj,e,zbS];rfl
def zhq(k:Nat){d:Bool}{vs:List PV}{rs:List Rs}(hd:deepOf vs=AA rs)(I:Int)(J:Nat)(hrow:∀r∈rs,∀s,yc T (k+2) yhx [r.pv I J n] s=.ok (.bl AC) s):BodyOk (k+4) u l w n d vs [I] (λJ=>rs.map λr=>r.pv I J n) 0 0 J:=by
 intro st R q a H h1 h2 h3;let⟨s,p3,e,H2⟩:=zhD k (a:=a) (q:=q) I J (AA (.tp d vs)) ∅ vs rs st R AD hd H (by simpa using h1) hrow;exact⟨s,zfX (k+3) e,by simpa using H2⟩
def zkN(k:Nat)(H:US st u l w n R q a){a1:Bool}{r:List PV}{gv:PV}{p1:Option PV}{s:SO}(e:yc T k y6 [.loc u,.tp a1 (.str "rounds" :: r),gv] st=.ok .non s):
  exs (yc T k) [AA (.loc u),p1,AA gv,AA (.tp a1 (.str "rounds" :: r))] st gpB=.nx [AA (.loc u),p1,AA gv,AA (.tp a1 (.str "rounds" :: r))] s:=by
 have ih:=H.ins (AE "go_rounds");simp! [gpB,yj,ix0,zgO,ih,e,IC.ve37]
def yba(v:PV):Prop:=∀(k:Nat) (s:SO),yc T (10+k) yhx [v] s=.ok (.bl AC) s
def T2.ak(w n:Int):T2->Nat
 |.row _=>0
 |.rounds c m t _=>cnt c m t w n+1
def ak2(w n:Int)(ps:List T2):Nat:=(ps.map (T2.ak w n)).sum
def zeT{c m t w n:Int}(hc:c.natAbs<=200)(hm:m.natAbs<=200)(ht:t.natAbs<=200)(w0:0<=w)(w1:w<=16)(n0:0<=n)(n1:n<=8):(c+m*n+t*w*n).natAbs<1000000:=by
 have h1:(m*n).natAbs<=200*8:=by rw[Fc];exact An hm ∅
 have h2:(t*w*n).natAbs<=200*16*8:=by rw[Fc,Fc];exact An (An ht ∅) ∅
 have h3:=As (Gd (c+m*n) (t*w*n)) (Hd (Gd c (m*n)) h2);have h4:c.natAbs+(m*n).natAbs+200*16*8<=200+200*8+200*16*8:=Dh (Hd hc h1) _;exact GT (As h3 h4) ⋯
def ziw{α:Type}{f:Nat->List α}{x:α}:∀{N J:Nat},J<N->x∈f J->x∈upTo f N
 |0,_,h,_=>absurd h ∅
 |N+1,J,h,hx=>by
  rw[upTo,Bq];rcases DQ J N with h1|h1
  .exact .inl (ziw h1 hx)
  .have:J=N:=by lia
   exact .inr (this ▸ hx)
def zo3{a b d:Bool}{x c m t sn:PV}{vs:List PV}(h:nL (.tp a [x,.tp b [c,m,t],sn,.tp d vs])=AC):nL sn=true:=by
 erw[nL,nLs,AH]at h;exact h.2.2.1
def zqk{a b d:Bool}{x c m t sn:PV}{vs:List PV}(h:nL (.tp a [x,.tp b [c,m,t],sn,.tp d vs])=AC):nLs vs=true:=by
 erw[nL,nLs,AH]at h;exact h.2.2.2.1
def zbU{v:PV}{vs:List PV}(h:nLs (v::vs)=AC):nL v=AC/\nLs vs=true:=by
 simpa only[nLs,AH] using h
def zmY(k:Nat)(w0:0<=w)(w1:w<=16)(n0:0<=n)(n1:n<=8)(I:Nat)(p1:Option PV){v:PV}{p:T2}(hv:nL v=AC)(hp:part2 v=AA p)(H:US st u l w n R q a)(hR:R.length+(p.rows w n I).length<=4000)(hq:q+(p.rnd w n:Nat)<=4000)(ha:a+p.ak w n<=500000)(hrow:∀x∈p.rows w n I,yba x):
  ∃s,exs (yc T (k+13)) [AA (.loc u),p1,AA (.tp AB [.int I]),AA v] st gpB=.nx [AA (.loc u),p1,AA (.tp AB [.int I]),AA v] s/\US s u l w n (R++p.rows w n I) (q+(p.rnd w n:Nat)) (a+p.ak w n):=by
 rcases zjP hp with⟨r,rfl,h1⟩|⟨a1,b,sn,d,vs,c,m,t,rs,rfl,rfl,hd,hc,hm,ht⟩
 .let⟨s,e,H2⟩:=zib (k+10) H (by simpa [T2.rows] using hR) ∅ h1 [(I:Int)] (by simp) (λs=>by
   have:=hrow (r.pv I 0 n) (by simp[T2.rows]) (k+2) s;rw[show 10+(k+2)=k+10+2 by lia]at this;exact this) p1
  exact⟨s,e,by simpa [T2.rows,T2.rnd,T2.ak] using H2⟩
 .have hN:cnt c m t w n<1000000:=by
   have:=zeT hc hm ht w0 w1 n0 n1;erw[cnt];lia
  erw[T2.rows,T2.rnd,T2.ak]at hR hq ha hrow ⊢;let⟨s,e,H2⟩:=ze3 (k+10) (a1:=a1) (b:=b) (d:=d) (s0:=.str "rounds") (sn:=sn) (zo3 hv) (vs:=vs) (G:=[(I:Int)]) (by simp) (f:=λJ=>rs.map λr=>r.pv I J n) (qn:=0) (an:=0) rfl hm ht n0 n1 hN
   (λJ hJ=>zhq (k+8) hd I J (λr hr s=>by
    have:=hrow (r.pv I J n) (ziw hJ (FO.2 ⟨r,hr,rfl⟩)) k s;rw[show 10+k=k+8+2 by lia]at this;exact this)) hR (by simpa using hq) ∅ H
  have e:yc T (k+13) y6 [.loc u,.tp a1 [.str "rounds",.tp b [.int c,.int m,.int t],sn,.tp d vs],.tp AB [.int I]] st=.ok .non s:=e;exact⟨s,zkN (k+13) H e,by simpa [D9] using H2⟩
def zkH(k:Nat)(w0:0<=w)(w1:w<=16)(n0:0<=n)(n1:n<=8)(I:Nat)(p1:Option PV):∀(vs:List PV) (ps:List T2) (st:SO) (R:List PV) (q:Int) (a:Nat) (p3:Option PV),nLs vs=AC->yaI vs=AA ps->US st u l w n R q a->R.length+(yas w n I ps).length<=4000->q+(ybN w n ps:Nat)<=4000->a+ak2 w n ps<=500000->(∀x∈yas w n I ps,yba x) ->
  ∃s p3',yaW (yc T (k+13)) (.n 3) gpB vs [AA (.loc u),p1,AA (.tp AB [.int I]),p3] st=.nx [AA (.loc u),p1,AA (.tp AB [.int I]),p3'] s/\US s u l w n (R++yas w n I ps) (q+(ybN w n ps:Nat)) (a+ak2 w n ps)
 |[],ps,st,R,q,a,p3,_,hp,H,_,_,_,_=>by
  cases hp
  exact⟨st,p3,zQ,by simpa [yas,ybN,ak2] using H⟩
 |v::vs,ps,st,R,q,a,p3,hv,hp,H,hR,hq,ha,hrow=>by
  unfold yaI at hp;split at hp
  .rename_i x y hx hy
   cases hp
   have r1:yas w n I (x::y)=x.rows w n I++yas w n I y:=by simp[yas]
   have r2:ybN w n (x::y)=x.rnd w n+ybN w n y:=by simp[ybN]
   have r3:ak2 w n (x::y)=x.ak w n+ak2 w n y:=by simp[ak2]
   rw[r1,A6]at hR;rw[r2]at hq;rw[r3]at ha;rw[r1]at hrow;rw[r1,r2,r3];let⟨s1,e1,H1⟩:=zmY k w0 w1 n0 n1 I p1 (zbU hv).1 hx H ∅ ∅ ∅ (λz hz=>hrow z (by simp[hz]));let⟨s2,p3',e2,H2⟩:=zkH k w0 w1 n0 n1 I p1 vs y s1 _ _ _ (AA v) (zbU hv).2 hy H1 (by rw[A6];lia) ∅ ∅ (λz hz=>hrow z (by simp[hz]));refine⟨s2,p3',?_,?_⟩
   .rw[zC (ρ1:=[AA (.loc u),p1,AA (.tp AB [.int I]),AA v]) rfl,e1];exact e2
   .rw[<-B6,<-D9,show q+((x.rnd w n+ybN w n y:Nat):Int)=q+(x.rnd w n:Nat)+(ybN w n y:Nat)by lia];exact H2
  .cases hp
def zko(k:Nat)(w0:0<=w)(w1:w<=16)(n0:0<=n)(n1:n<=8){d:Bool}{vs:List PV}{ps:List T2}(hv:nLs vs=AC)(hp:yaI vs=AA ps)(I:Nat)(hrow:∀x∈yas w n I ps,yba x):BodyOk (k+14) u l w n d vs [] (λI=>yas w n I ps) (ybN w n ps) (ak2 w n ps) I:=by
 intro st R q a H h1 h2 h3;let⟨s,p3,e,H2⟩:=zkH k w0 w1 n0 n1 I (AA (.tp d vs)) vs ps st R q a AD hv hp H h1 h2 h3 hrow;exact⟨s,zfX (k+13) e,H2⟩
def T1.ak(w n:Int):T1->Nat
 |.row _=>0
 |.rounds c m t ps=>cnt c m t w n*(1+ak2 w n ps)+1
def ak1(w n:Int)(ps:List T1):Nat:=(ps.map (T1.ak w n)).sum
def zmj(k:Nat)(w0:0<=w)(w1:w<=16)(n0:0<=n)(n1:n<=8)(p1:Option PV){v:PV}{p:T1}(hv:nL v=AC)(hp:part1 v=AA p)(H:US st u l w n R q a)(hR:R.length+(p.rows w n).length<=4000)(hq:q+(p.rnd w n:Nat)<=4000)(ha:a+p.ak w n<=500000)(hrow:∀x∈p.rows w n,yba x):
  ∃s,exs (yc T (k+15)) [AA (.loc u),p1,AA (.tp AB []),AA v] st gpB=.nx [AA (.loc u),p1,AA (.tp AB []),AA v] s/\US s u l w n (R++p.rows w n) (q+(p.rnd w n:Nat)) (a+p.ak w n):=by
 rcases zkh hp with⟨r,rfl,h1⟩|⟨a1,b,sn,d,vs,c,m,t,ps,rfl,rfl,hd,hc,hm,ht⟩
 .let⟨s,e,H2⟩:=zib (k+12) H (by simpa [T1.rows] using hR) ∅ h1 [] (by simp) (λs=>by
   have:=hrow (r.pv 0 0 n) (by simp[T1.rows]) (k+4) s;rw[show 10+(k+4)=k+12+2 by lia]at this;exact this) p1
  exact⟨s,e,by simpa [T1.rows,T1.rnd,T1.ak] using H2⟩
 .have hN:cnt c m t w n<1000000:=by
   have:=zeT hc hm ht w0 w1 n0 n1;erw[cnt];lia
  erw[T1.rows,T1.rnd,T1.ak]at hR hq ha hrow ⊢;let⟨s,e,H2⟩:=ze3 (k+12) (a1:=a1) (b:=b) (d:=d) (s0:=.str "rounds") (sn:=sn) (zo3 hv) (vs:=vs) (G:=[]) (by simp) (f:=λI=>yas w n I ps) (qn:=ybN w n ps) (an:=ak2 w n ps) rfl hm ht n0 n1 hN
   (λJ hJ=>zko k w0 w1 n0 n1 (zqk hv) hd J (λz hz=>hrow z (ziw hJ hz))) hR hq ∅ H
  have e:yc T (k+15) y6 [.loc u,.tp a1 [.str "rounds",.tp b [.int c,.int m,.int t],sn,.tp d vs],.tp AB []] st=.ok .non s:=e;exact⟨s,zkN (k+15) H e,by rw[<-D9];exact H2⟩
def zkE(k:Nat)(w0:0<=w)(w1:w<=16)(n0:0<=n)(n1:n<=8)(p1:Option PV):∀(vs:List PV) (ps:List T1) (st:SO) (R:List PV) (q:Int) (a:Nat) (p3:Option PV),nLs vs=AC->yaz vs=AA ps->US st u l w n R q a->R.length+(yP w n ps).length<=4000->q+(ybo w n ps:Nat)<=4000->a+ak1 w n ps<=500000->(∀x∈yP w n ps,yba x) ->
  ∃s p3',yaW (yc T (k+15)) (.n 3) gpB vs [AA (.loc u),p1,AA (.tp AB []),p3] st=.nx [AA (.loc u),p1,AA (.tp AB []),p3'] s/\US s u l w n (R++yP w n ps) (q+(ybo w n ps:Nat)) (a+ak1 w n ps)
 |[],ps,st,R,q,a,p3,_,hp,H,_,_,_,_=>by
  cases hp
  exact⟨st,p3,zQ,by simpa [yP,ybo,ak1] using H⟩
 |v::vs,ps,st,R,q,a,p3,hv,hp,H,hR,hq,ha,hrow=>by
  unfold yaz at hp;split at hp
  .rename_i x y hx hy
   cases hp
   have r1:yP w n (x::y)=x.rows w n++yP w n y:=by simp[yP]
   have r2:ybo w n (x::y)=x.rnd w n+ybo w n y:=by simp[ybo]
   have r3:ak1 w n (x::y)=x.ak w n+ak1 w n y:=by simp[ak1]
   rw[r1,A6]at hR;rw[r2]at hq;rw[r3]at ha;rw[r1]at hrow;rw[r1,r2,r3];let⟨s1,e1,H1⟩:=zmj k w0 w1 n0 n1 p1 (zbU hv).1 hx H ∅ ∅ ∅ (λz hz=>hrow z (by simp[hz]));let⟨s2,p3',e2,H2⟩:=zkE k w0 w1 n0 n1 p1 vs y s1 _ _ _ (AA v) (zbU hv).2 hy H1 (by rw[A6];lia) ∅ ∅ (λz hz=>hrow z (by simp[hz]));refine⟨s2,p3',?_,?_⟩
   .rw[zC (ρ1:=[AA (.loc u),p1,AA (.tp AB []),AA v]) rfl,e1];exact e2
   .rw[<-B6,<-D9,show q+((x.rnd w n+ybo w n y:Nat):Int)=q+(x.rnd w n:Nat)+(ybo w n y:Nat)by lia];exact H2
  .cases hp
end
def zqR(k:Nat)(w n:Int):yc T (k+1) ykm [.loc 0,.int w,.int n] [.ins cU []]=.ok .non [uob w n 1 0 0,.lst []]:=by
 have hT:T ykm=AA yiI:=rfl;rw[zn hT rfl rfl];ac_rfl
def zlj(w n:Int):US [uob w n 1 0 0,.lst []] 0 1 w n [] 0 0:=⟨[],⟨rfl,rfl,by decide⟩,.nil,by simp⟩
theorem StR.nl{xs rs:List PV}(h:StR xs rs):nLs xs=true:=by
 have ap:∀(a b:List PV),nLs a=AC->nLs b=AC->nLs (a++b)=true:=by
  intro a
  induction a with
  |nil=>intro b _ h;exact h
  |cons x a ih=>
   intro b h1 h2;let⟨p,q⟩:=zbU h1;rw[Be,nLs,p,ih b q h2];rfl
 induction h with
 |nil=>rfl
 |row hv _ ih=>exact ap _ _ ih (by simp[nLs,nL,hv])
 |ask hv _ ih=>exact ap _ _ ih (by erw[nLs,nL,Ho,Cv]at hv ⊢;simpa using hv)
def zg4:yw .eq (.str "asked") (.str "row")=AA (.bl AB):=by ac_rfl
def zjG(k:Nat){b:Bool}{vs:List PV}{ps:List T1}{w n:Int}(hv:nLs vs=AC)(hp:yaz vs=AA ps)(w0:0<=w)(w1:w<=16)(n0:0<=n)(n1:n<=8)(hR:(yP w n ps).length<=4000)(hq:ybo w n ps<=4000)(ha:ak1 w n ps<=500000)(hrow:∀x∈yP w n ps,yba x)
  (hit:∀s,yc T (k+16) yA [.tp b vs] s=.ok (.bl AC) s) (st:SO):∃xs,yc T (k+17) ykp [.tp b vs,.int w,.int n] st=.ok (.lst xs) st/\StR xs (yP w n ps):=by
 have hT:T ykp=AA yh5:=rfl;have hnl:nLs [.tp b vs,.int w,.int n]=true:=by simp[nLs,nL,hv]
 let⟨s,p3,e,xs,h,hs,_⟩:=zkE k w0 w1 n0 n1 (AA (.tp b vs)) vs ps [uob w n 1 0 0,.lst []] [] 0 0 AD hv hp (zlj w n) (by simpa using hR) ∅ ∅ hrow;have e:=zfX (k+15) e;have i0:=zqR (k+15) w n;have ih:=(zlj w n).ins (AE "go_parts");have f1:=h.fs;have fz:ydu (.loc 1) s=.ok (.lst xs) (s.set 1 .dead):=by simp[ydu,h.d]
 refine⟨xs,?_,by simpa using hs⟩;have nl:=hs.nl;rw[zc hT rfl rfl hnl];generalize PV.tp b vs=tv at *;simp! [yh5,hit,i0,ih,e,f1,fz,IC.ve32,IC.ve33,IC.ve37,yaZ,newV];simp[ybj,nL,nl]
def unT:Ce:=.cmp .eq (.idx (.var 0) (.cst (.int 0))) (.cst (.str "row"))
def unE:Ce:=.idx (.var 0) (.cst (.int 1))
def zkx(k:Nat){st:SO}{xs rs:List PV}(h:StR xs rs):∀(ys b:List PV),yaf (yc T k) [AD] (.n 0) unT unE ys st=.ok b st->yaf (yc T k) [AD] (.n 0) unT unE (xs++ys) st=.ok (rs++b) st:=by
 induction h with
 |nil=>intro ys b e;exact e
 |@row xs rs v hv _ ih=>
  intro ys b e;have one:ybm (yc T k) [AD] (.n 0) unT unE (.tp AB [.str "row",v]) st=.ok (AA v) st:=by
   simp! [ybm,unT,unE,ix0,ix1,zdY]
  have:=ih (.tp AB [.str "row",v]::ys) (v::b) (by rw[zaC,one,bd_ok,e,bd_ok];rfl);rw[B6,B6];exact this
 |@ask xs rs x y z hv _ ih=>
  intro ys b e;have one:ybm (yc T k) [AD] (.n 0) unT unE (.tp AB [.str "asked",x,y,z]) st=.ok AD st:=by
   simp! [ybm,unT,unE,ix0,ix1,zg4]
  have:=ih (.tp AB [.str "asked",x,y,z]::ys) b (by rw[zaC,one,bd_ok,e,bd_ok];rfl);rw[B6];exact this
theorem StR.nl2{xs rs:List PV}(h:StR xs rs):nLs rs=true:=by
 have ap:∀(a b:List PV),nLs a=AC->nLs b=AC->nLs (a++b)=true:=by
  intro a
  induction a with
  |nil=>intro b _ h;exact h
  |cons x a ih=>
   intro b h1 h2;let⟨p,q⟩:=zbU h1;rw[Be,nLs,p,ih b q h2];rfl
 induction h with
 |nil=>rfl
 |row hv _ ih=>exact ap _ _ ih (by simp[nLs,hv])
 |ask _ _ ih=>exact ih
theorem unrolled(k:Nat){b:Bool}{vs:List PV}{ps:List T1}{w n:Int}(hv:nLs vs=AC)(hp:yaz vs=AA ps)(w0:0<=w)(w1:w<=16)(n0:0<=n)(n1:n<=8)(hR:(yP w n ps).length<=4000)(hq:ybo w n ps<=4000)(ha:ak1 w n ps<=500000)(hrow:∀x∈yP w n ps,yba x)
  (hit:∀s,yc T (k+16) yA [.tp b vs] s=.ok (.bl AC) s) (st:SO):yc T (k+18) yko [.tp b vs,.int w,.int n] st=.ok (.tp AB (yP w n ps)) st:=by
 have hT:T yko=AA yh4:=rfl;have hnl:nLs [.tp b vs,.int w,.int n]=true:=by simp[nLs,nL,hv]
 let⟨xs,e,hs⟩:=zjG k hv hp w0 w1 n0 n1 hR hq ha hrow hit [];have ec:=zkx (k+17) (st:=[]) hs [] [] zb6;rw[Br,Br]at ec;have ec:yaf (yc T (k+17)) [AD] (.n 0) (.cmp .eq (.idx (.var 0) (.cst (.int 0))) (.cst (.str "row"))) (.idx (.var 0) (.cst (.int 1))) xs []=_:=ec;have nl:=hs.nl2;have lr:=λst=>zez (yP w n ps) ∅ st;have ht:∀st,yam .tuple st [.lst (yP w n ps)]=AA (.tp AB (yP w n ps)):=λ_=>rfl;rw[zc hT rfl rfl hnl];generalize PV.tp b vs=tv,yP w n ps=rows at *;simp! [yh4,e,ec,lr,ht];simp[ybj,nL,nl]
def zhc(w n:Int):∀ps:List T1,nLs (yP w n ps)=true:=by
 have ap:∀(a b:List PV),nLs a=AC->nLs b=AC->nLs (a++b)=true:=by
  intro a
  induction a with
  |nil=>intro b _ h;exact h
  |cons x a ih=>
   intro b h1 h2;let⟨p,q⟩:=zbU h1;rw[Be,nLs,p,ih b q h2];rfl
 have up:∀(f:Nat->List PV) (N:Nat),(∀i,nLs (f i)=AC)->nLs (upTo f N)=true:=by
  intro f N h
  induction N with
  |zero=>rfl
  |succ N ih=>exact ap _ _ ih (h N)
 have mp:∀(rs:List Rs) (I J:Int),nLs (rs.map λr=>r.pv I J n)=true:=by
  intro rs I J
  induction rs with
  |nil=>rfl
  |cons r rs ih=>rw[AU,nLs,zb4,ih];rfl
 have two:∀(I:Nat) (ps:List T2),nLs (yas w n I ps)=true:=by
  intro I ps
  induction ps with
  |nil=>rfl
  |cons p ps ih=>
   rw[yas,Ed];refine ap _ _ ?_ ih
   cases p with
   |row r=>simp[T2.rows,nLs,zb4]
   |rounds c m t rs=>exact up _ _ λJ=>mp rs _ _
 intro ps
 induction ps with
 |nil=>rfl
 |cons p ps ih=>
  rw[yP,Ed];refine ap _ _ ?_ ih
  cases p with
  |row r=>simp[T1.rows,nLs,zb4]
  |rounds c m t ps=>exact up _ _ λI=>two I ps
def zhA(k:Nat){deed:PV}(hd:nL deed=AC){b:Bool}{vs:List PV}{ps:List T1}{w n:Int}(ht:∀s,yc T (k+18) yhK [deed] s=.ok (.tp b vs) s)(hv:nLs vs=AC)(hp:yaz vs=AA ps)(w0:0<=w)(w1:w<=16)(n0:0<=n)(n1:n<=8)(hR:(yP w n ps).length<=4000)(hq:ybo w n ps<=4000)(ha:ak1 w n ps<=500000)(hrow:∀x∈yP w n ps,yba x)
  (hit:∀s,yc T (k+16) yA [.tp b vs] s=.ok (.bl AC) s) (st:SO):yc T (k+19) yiw [deed,.int w,.int n] st=.ok (.tp AB (yP w n ps)) st:=by
 have hT:T yiw=AA yhF:=rfl;have hnl:nLs [deed,.int w,.int n]=true:=by simp[nLs,nL,hd]
 have e:=unrolled k hv hp w0 w1 n0 n1 hR hq ha hrow hit [];have nl:=zhc w n ps;rw[zc hT rfl rfl hnl];generalize PV.tp b vs=tv,yP w n ps=rows at *;simp! [yhF,ht,e];simp[ybj,nL,nl]
def Dg(W:Int)(M:Mem)(c n:Nat):Prop:=∀i:Nat,i<n->0<=M c i/\M c i<W
theorem Dg.mono{W:Int}{M:Mem}{c n:Nat}(h:Dg W M c (n+1)):Dg W M c n:=λi hi=>h i ∅
def zli(b:Bool):0<=bi b/\bi b<=1:=by cases b<;>decide
section
variable {W:Int}(n:Nat)(x y:Int)
variable (hW:0<W)
include hW
end
def zln{X:Fl}{v:PV}{st:SO}(h:ybj [] X=.ok v []):ybj st X=.ok v st:=by
 cases X with
 |rt u s=>
  erw[ybj]at h ⊢
  by_cases c:nL u=AC
  .rw[if_pos c]at h ⊢;cases h;rfl
  .rw[if_neg c]at h;cases h
 |nx ρ s=>erw[ybj]at h ⊢;cases h;rfl
 |_=>cases h
def zbV{k f:Nat}{fn:IC.Fn}{args:List PV}{v:PV}(hT:T f=AA fn)(hp:fn.pure=AC)(hl:args.length=fn.np)(hn:nLs args=AC)(h:yc T (k+1) f args []=.ok v [])(st:SO):yc T (k+1) f args st=.ok v st:=by
 rw[zc hT hp hl hn]at h ⊢;exact zln h
def ya7(W:Int):List Rw->Mem->Int->Prop
 |[],_,_=>True
 |r::rs,M,k=>((∀t x,r=.half t x->0<=rd M x/\rd M x<W/\0<=k/\k<2)/\∀a b x y,r=.times a b x y->(rd M x).natAbs<18446744073709551616)/\ya7 W rs (stepM W M k r).1 (stepM W M k r).2
def rnA:Css:=match yx.body with
 |.cons (.for _ _ b) _=>b
 |x=>x
def rnB:Css:=match yx.body with
 |.cons _ (.cons (.for _ _ b) _)=>b
 |x=>x
theorem rnS:yx.body=.cons (.for (.n 2) (.seq (.var 1)) rnA) (.cons (.for (.n 2) (.seq (.var 1)) rnB) .nil):=rfl
def zjL(r:Rw):nLs [yae r]=true:=by cases r<;>rfl
section
variable {m l n:Nat}
def zdO(k:Nat){v:Option PV}(st:SO):∀(rs:List Rw),(∀r∈rs,yc T (k+1) yhz [yae r] []=.ok .non [])->∀p2,∃q2,yaW (yc T (k+1)) (.n 2) rnA (rs.map yae) [AA (.loc m),v,p2] st=.nx [AA (.loc m),v,q2] st
 |[],h,p2=>⟨p2,by rw[BY,zQ]⟩
 |r::rs,h,p2=>by
  let⟨q2,e⟩:=zdO k (v:=v) st rs (λq hq=>h q (AQ _ hq)) (AA (yae r));have e1:=zbV (f:=yhz) (fn:=yhI) rfl rfl rfl (zjL r) (h r (by simp)) st;refine⟨q2,?_⟩;rw[AU,zC (ρ1:=[AA (.loc m),v,AA (yae r)]) rfl];generalize yae r=row at *;have hb:exs (yc T (k+1)) [AA (.loc m),v,AA row] st rnA=.nx [AA (.loc m),v,AA row] st:=by
   simp! [rnA,yx,e1]
  rw[hb];exact e
def zhP(k:Nat)(hn:n<=100)(hn1:1<=n){v:Option PV}:∀(rs:List Rw) (M:Mem) (mk:Int) (st:SO) (L:Nat) (p2:Option PV),MM st m l n M mk L->L+2*rs.length<999999->ya7 (2^n) rs M mk ->
  ∃st' q2,MM st' m l n (ybg (2^n) rs M mk).1 (ybg (2^n) rs M mk).2 (L+2*rs.length)/\(∀q,q≠m->q≠l->st'[q]?=st[q]?)/\st'.length=st.length/\yaW (yc T (k+6)) (.n 2) rnB (rs.map yae) [AA (.loc m),v,p2] st=.nx [AA (.loc m),v,q2] st'
 |[],M,mk,st,L,p2,h,hL,hh=>⟨st,p2,h,λ_ _ _=>rfl,rfl,by rw[BY,zQ]⟩
 |r::rs,M,mk,st,L,p2,h,hL,hh=>by
  erw[A1]at hL;let⟨s1,h1,o1,l1,e1⟩:=zn3 k h ∅ hn hn1 r hh.1.1 hh.1.2;let⟨s2,q2,h2,o2,l2,e2⟩:=zhP k hn hn1 (v:=v) rs _ _ s1 (L+2) (AA (yae r)) h1 ∅ hh.2;refine⟨s2,q2,?_,λq a b=>(o2 q a b).trans (o1 q a b),l2.trans l1,?_⟩
  .rw[ybg,A1,show L+2*(rs.length+1)=L+2+2*rs.length by lia];exact h2
  .have ih:=h.ins (AE "go_row");rw[AU,zC (ρ1:=[AA (.loc m),v,AA (yae r)]) rfl];generalize yae r=row at *;have hb:exs (yc T (k+6)) [AA (.loc m),v,AA row] st rnB=.nx [AA (.loc m),v,AA row] s1:=by
    simp! [rnB,yx,ih,e1,IC.ve37]
   rw[hb];exact e2
def zkj(k:Nat)(hn:n<=100)(hn1:1<=n){rs:List Rw}{M:Mem}{mk:Int}{st:SO}{L:Nat}(h:MM st m l n M mk L)(hL:L+2*rs.length<999999)(hh:ya7 (2^n) rs M mk)(hA:∀r∈rs,yc T (k+6) yhz [yae r] []=.ok .non []):
  okM (yc T (k+7) yi6 [.loc m,.tp AB (rs.map yae)] st) st m l n (ybg (2^n) rs M mk).1 (ybg (2^n) rs M mk).2 (L+2*rs.length):=by
 have hT:T yi6=AA ⟨2,3,AB,yx.body⟩:=rfl;let⟨q2,e1⟩:=zdO (m:=m) (k+5) (v:=AA (.tp AB (rs.map yae))) st rs hA AD;let⟨s2,q3,h2,o2,l2,e2⟩:=zhP k hn hn1 (v:=AA (.tp AB (rs.map yae))) rs M mk st L q2 h hL hh;refine⟨s2,h2,o2,l2,?_⟩;rw[zn hT rfl rfl];show outI (exs (yc T (k+6)) [AA (.loc m),AA (.tp AB (rs.map yae)),AD] st yx.body)=_;rw[rnS,xs_cons,x_for];generalize rs.map yae=rows at *;simp! [e1,e2];rfl
def zhL:([97,98,99,100,109].all λc=>(C0 9).all λi=>isOk (yc T 8 yi8 [.str ⟨#[c]⟩,.int (i:Nat)] []) (yN c (i:Nat)))=true:=by decide +kernel
theorem known(k:Nat){c i:Nat}(hc:c∈[97,98,99,100,109])(hi:i<9)(st:SO):yc T (8+k) yi8 [.str ⟨#[c]⟩,.int (i:Int)] st=.ok (yN c i) st:=by
 have h:=A9.1 zhL c hc;have h:=A9.1 h i (by simpa using hi);have h:=zN (zcA h) k;rw[show 8+k=7+k+1 by lia]at h ⊢;exact zbV (f:=yi8) (fn:=yiL) rfl rfl rfl rfl h st
def zqS(k:Nat){st:SO}{L:Nat}{w mk:Int}{M:Mem}(h:MM st m l w M mk L){c i:Nat}(hc:c∈[97,98,99,100,109])(hi:i<9):yc T (9+k) y8 [.loc m,.str ⟨#[c]⟩,.int (i:Int)] st=.ok (.int (M c i)) st:=by
 have hT:T y8=AA yio:=rfl;have e1:=known k hc hi st;have e2:yc T (8+k) yT [.loc m,yN c i] st=.ok (.int (M c i)) st:=by
  rw[show 8+k=7+k+1 by lia];exact zcy (7+k) h (c,(i:Int))
 have ih:=h.ins (AE "held_in");rw[show 9+k=8+k+1 by lia,zn hT rfl rfl];generalize yN c i=q at *;simp! [yio,ih,e1,e2,zbS,IC.ve37]
def zfi(k:Nat)(v lo hi:Int)(h1:lo<=v)(h2:v<=hi)(st:SO):yc T (k+1) yhJ [.int v,.int lo,.int hi] st=.ok (.bl AC) st:=by
 have hT:T yhJ=AA yhu:=rfl;rw[zc hT rfl rfl rfl];have e1:yaR (.int v) [.int]=AA (.bl AC):=rfl;have e2:yaR (.int v) [.bool]=AA (.bl AB):=rfl;simp! [yhu,e1,e2,decide_eq_true h1,decide_eq_true h2];rfl
def zqT(k:Nat)(hn:n<=100){st:SO}{L:Nat}{mk:Int}{M:Mem}(h:MM st m l n M mk L)(hL:L<999999){c i:Nat}(hc:c∈[97,98,99,100,109])(hi:i<9){v:Int}(v0:0<=v)(v1:v<2^n):
  okM (yc T (9+k) ykt [.loc m,.str ⟨#[c]⟩,.int (i:Int),.int v] st) st m l n (upd M c i v) mk (L+1):=by
 have hT:T ykt=AA yin:=rfl;have e1:=known k hc hi st;have e2:yc T (8+k) yiV [.int n] st=.ok (.int (2^n-1)) st:=by rw[show 8+k=7+k+1 by lia];exact highest (7+k) n hn st
 have e3:yc T (8+k) yhJ [.int v,.int 0,.int (2^n-1)] st=.ok (.bl AC) st:=by rw[show 8+k=7+k+1 by lia];exact zfi (7+k) v 0 (2^n-1) v0 ∅ st
 let⟨s1,d1,⟨o,ho⟩,h1⟩:=h.sd hL (c,(i:Int)) v;refine⟨s1,h1,λq a b=>by rw[ho,AN (Au b)],by simp[ho],?_⟩;have d1:yaY st (.loc l) (yN c i) (.int v)=AA s1:=d1;rw[show 9+k=8+k+1 by lia,zn hT rfl rfl];generalize yN c i=q at *;simp! [yin,e1,h.fw,e2,e3,h.fd,zgd,d1,zam,IC.ve32];rfl
end
def zqU{v:PV}:ybD sw v []=[(sw,v)]:=rfl
def zqV{a v:PV}:ybD sws v [(sw,a)]=[(sw,a),(sws,v)]:=by ac_rfl
def zqW{a b v:PV}:ybD smk v [(sw,a),(sws,b)]=[(sw,a),(sws,b),(smk,v)]:=by ac_rfl
def zqX(k:Nat)(w:Int)(st:SO):yc T (k+1) yi5 [.loc st.length,.int w] (st++[.ins cM []])=.ok .non (st++[mob w (st.length+1) 0]++[.dct AC []]):=by
 have hT:T yi5=AA yim:=rfl;have g0:(st++[Ob.ins cM []])[st.length]?=AA (.ins cM []):=by simp
 have s1:yaT cM (st++[Ob.ins cM []]) (.loc st.length) sw (.int w)=AA (st++[.ins cM [(sw,.int w)]]):=by
  erw[yaT,g0];rw[if_pos ⟨trivial,by simp⟩,zqU];simp
 have g1:(st++[Ob.ins cM [(sw,.int w)]]++[Ob.dct AC []])[st.length]?=AA (.ins cM [(sw,.int w)]):=by simp
 have s2:yaT cM (st++[Ob.ins cM [(sw,.int w)]]++[Ob.dct AC []]) (.loc st.length) sws (.loc (st.length+1))=AA (st++[.ins cM [(sw,.int w),(sws,.loc (st.length+1))]]++[.dct AC []]):=by
  erw[yaT,g1];rw[if_pos ⟨trivial,by simp⟩,zqV];simp
 have g2:(st++[Ob.ins cM [(sw,.int w),(sws,.loc (st.length+1))]]++[Ob.dct AC []])[st.length]?=AA (.ins cM [(sw,.int w),(sws,.loc (st.length+1))]):=by simp
 have s3:yaT cM (st++[Ob.ins cM [(sw,.int w),(sws,.loc (st.length+1))]]++[Ob.dct AC []]) (.loc st.length) smk (.int 0)=AA (st++[mob w (st.length+1) 0]++[.dct AC []]):=by
  erw[yaT,g2];rw[if_pos ⟨trivial,by simp⟩,zqW];simp[mob]
 have hd:∀(ρ:IC.Env),ev (yc T k) ρ (st++[Ob.ins cM [(sw,.int w)]]) (.dict0 AC)=.ok (.loc (st.length+1)) (st++[Ob.ins cM [(sw,.int w)]]++[.dct AC []]):=λρ=>by
  erw[ev,A6,DU]
 rw[zn hT rfl rfl];erw[yim,xs_cons,zfM,hd];have hlen:(st++[Ob.ins cM [(sw,.int w)]]).length=st.length+1:=by simp
 simp! [s1,zam,hlen,s2,s3];rfl
def zfo(W:Int)(hW:0<W)(x:Int):∀(n a:Nat),(yp n (a:Int) 1).map (λp=>match p with | .int j=>PV.int (x/W^j.toNat%W)|q=>q)=(yq W n (x/W^a)).map .int
 |0,a=>rfl
 |n+1,a=>by
  have h:=zfo W hW x n (a+1);rw[yp,AU,yq,AU]
  congr 1
  .rw[show ((a:Int)+1)=((a+1:Nat):Int)by lia,h,CN,FC (Int.le_of_lt (Bj hW))]
def zjN(n:Nat)(hn:n<=1000):yt .shl (.int 1) (.int (n:Int))=AA (.int (2^n)):=by
 erw[yt,binI];rw[if_pos ⟨by lia,by lia,by decide⟩];simp
def zec(a b:Nat)(ha:a<=1000):yt .mul (.int (a:Int)) (.int (b:Int))=AA (.int ((a*b:Nat):Int)):=by
 have h:yar (a:Int) (b:Int)=true:=by
  erw[yar,CG,decide_eq_true_eq];exact .inl (by simp;lia)
 erw[yt,binI,h,if_true];simp
theorem lowest(k:Nat)(x:Int)(w n:Nat)(hw:w<=16)(hn:n<=8)(st:SO):yc T (k+1) yy [.int x,.int w,.int n] st=.ok (.tp AB ((yq (2^w) n x).map .int)) st:=by
 have hT:T yy=AA yh7:=rfl;have e1:=zjN w ∅;have hr:=zct n ∅;have hc:yaf (yc T k) [AD,AA (.int (2^w-1)),AA (.int x),AA (.int w)] (.n 0) (.cst (.bl AC)) (.bin .band (.bin .shr (.var 2) (.bin .mul (.var 3) (.var 0))) (.var 1)) (yp n 0 1) []=.ok ((yq (2^w) n x).map .int) []:=by
  have h:=zfo (2^w) (Bj ⋯) x n 0;rw[Ge,Hy]at h;rw[<-h];refine zfz _ λp hp=>?_;obtain⟨j,hj,rfl⟩:∃j:Nat,j<n/\p=.int (j:Int):=by
   have:∀(n a:Nat) (p:PV),p∈yp n (a:Int) 1->∃j:Nat,a<=j/\j<a+n/\p=.int (j:Int):=by
    intro n
    induction n with
    |zero=>intro a p h;cases h
    |succ n ih=>
     intro a p h;rw[yp]at h;rcases AX.1 h with rfl|h
     .exact⟨a,AR _,by lia,rfl⟩
     .let⟨j,h1,h2,h3⟩:=ih (a+1) p (by rw[show ((a+1:Nat):Int)=(a:Int)+1 by lia];exact h);exact⟨j,by lia,by lia,h3⟩
   let⟨j,_,h2,h3⟩:=this n 0 p hp;exact⟨j,by lia,h3⟩
  have m1:=zec w j ∅;have s1:yt .shr (.int x) (.int ((w*j:Nat):Int))=AA (.int (x/2^(w*j))):=by
   erw[yt,binI];rw[if_pos ∅,CL]
  have b1:=band (x/2^(w*j)) (2^w-1);rw[zd1 (n:=w) (x/2^(w*j))]at b1;simp! [ybm,m1,s1,b1];rw[CL,<-IP]
 rw[zc hT rfl rfl rfl];simp! [yh7,e1,hr,hc];rw[zez _ (by simp[zaV];lia)];have ht:yam .tuple [] [.lst ((yq (2^w) n x).map .int)]=AA (.tp AB ((yq (2^w) n x).map .int)):=rfl;simp! [ht];simp[ybj,nL,noLocs_ints]
def zcH{W:Int}(hW:0<W):∀(n:Nat) (x:Int),∀v∈yq W n x,0<=v/\v<W
 |0,x,v,h=>by cases h
 |n+1,x,v,h=>by
  rw[yq]at h;rcases AX.1 h with rfl|h
  .exact⟨Bt _ ∅,B0 _ hW⟩
  .exact zcH hW n _ v h
def mwB:Css:=match yr.body with
 |.cons _ (.cons (.for _ _ b) _)=>b
 |x=>x
def mwC:Css:=match mwB with
 |.cons (.for _ _ b) _=>b
 |x=>x
section
variable {m l n:Nat}
def zfE(k:Nat)(hn:n<=100){c:Nat}(hc:c∈[97,98,99,100,109]){p0 p1 p2 p3 p6:Option PV}:∀(ws:List Int) (i:Nat) (M:Mem) (st:SO) (L:Nat) (p7 p8:Option PV),(∀v∈ws,0<=v/\v<2^n)->i+ws.length<=9->MM st m l n M 0 L->L+ws.length<999999 ->
  ∃st' q7 q8,MM st' m l n (ya3 c i ws M) 0 (L+ws.length)/\(∀q,q≠m->q≠l->st'[q]?=st[q]?)/\st'.length=st.length /\
   yaW (yc T (9+k)) (.t [7,8]) mwC (yS i (ws.map .int)) [p0,p1,p2,p3,AA (.loc m),AA (.str ⟨#[c]⟩),p6,p7,p8] st=.nx [p0,p1,p2,p3,AA (.loc m),AA (.str ⟨#[c]⟩),p6,q7,q8] st'
 |[],i,M,st,L,p7,p8,hv,hi,h,hL=>⟨st,p7,p8,h,λ_ _ _=>rfl,rfl,by rw[BY,yS,zQ]⟩
 |v::ws,i,M,st,L,p7,p8,hv,hi,h,hL=>by
  erw[A1]at hi hL;let⟨v0,v1⟩:=hv v (by simp);let⟨s1,h1,o1,l1,e1⟩:=zqT k hn h ∅ hc (i:=i) ∅ v0 v1;let⟨s2,q7,q8,h2,o2,l2,e2⟩:=zfE k hn hc (p0:=p0) (p1:=p1) (p2:=p2) (p3:=p3) (p6:=p6) ws (i+1) (upd M c i v) s1 (L+1) (AA (.int i)) (AA (.int v)) (λu hu=>hv u (AQ _ hu)) ∅ h1 ∅;refine⟨s2,q7,q8,?_,λq a b=>(o2 q a b).trans (o1 q a b),l2.trans l1,?_⟩
  .rw[ya3,A1,show L+(ws.length+1)=L+1+ws.length by lia];exact h2
  .have ih:=h.ins (AE "put");have bt:yD (.t [7,8]) (.tup [.int (i:Int),.int v]) [p0,p1,p2,p3,AA (.loc m),AA (.str ⟨#[c]⟩),p6,p7,p8]=AA [p0,p1,p2,p3,AA (.loc m),AA (.str ⟨#[c]⟩),p6,AA (.int i),AA (.int v)]:=rfl;rw[AU,yS,zC bt];have hb:exs (yc T (9+k)) [p0,p1,p2,p3,AA (.loc m),AA (.str ⟨#[c]⟩),p6,AA (.int i),AA (.int v)] st mwC=.nx [p0,p1,p2,p3,AA (.loc m),AA (.str ⟨#[c]⟩),p6,AA (.int i),AA (.int v)] s1:=by
    simp! [mwC,mwB,yr,ih,e1,IC.ve37]
   rw[hb];exact e2
end
def zfl(k:Nat)(w n:Nat)(hw:w<=16)(hn:n<=8)(x y:Int)(st:SO):
  ∃st' m l,st.length<=m/\st.length<=l/\MM st' m l w (ybH (2^w) n x y) 0 (2*n)/\(∀q,q<st.length->st'[q]?=st[q]?)/\yc T (10+k) yi9 [.int w,.int n,.int x,.int y] st=.ok (.loc m) st':=by
 have hT:T yi9=AA ⟨4,9,AB,yr.body⟩:=rfl;have e1:yc T (9+k) yi5 [.loc st.length,.int w] (st++[.ins cM []])=.ok .non (st++[mob w (st.length+1) 0]++[.dct AC []]):=by rw[show 9+k=8+k+1 by lia];exact zqX (8+k) w st
 obtain⟨s1,hs1⟩:∃s1,s1=st++[mob w (st.length+1) 0]++[.dct AC []]:=⟨_,rfl⟩;rw[<-hs1]at e1;have h1:MM s1 st.length (st.length+1) w M0 0 0:=by
  rw[hs1];exact⟨by simp,⟨[],by simp,λp hp=>(by cases hp),λc i=>rfl,by simp⟩,by lia⟩
 have eA:∀s,yc T (9+k) yy [.int x,.int w,.int n] s=.ok (.tp AB ((yq (2^w) n x).map .int)) s:=λs=>by rw[show 9+k=8+k+1 by lia];exact lowest (8+k) x w n hw hn s
 have eB:∀s,yc T (9+k) yy [.int y,.int w,.int n] s=.ok (.tp AB ((yq (2^w) n y).map .int)) s:=λs=>by rw[show 9+k=8+k+1 by lia];exact lowest (8+k) y w n hw hn s
 have lA:=zaV (2^w) n x;have lB:=zaV (2^w) n y;let⟨s2,q7,q8,h2,o2,l2,f2⟩:=zfE k ∅ (c:=97) (by simp) (p0:=AA (.int w)) (p1:=AA (.int n)) (p2:=AA (.int x)) (p3:=AA (.int y)) (p6:=AA (.int x)) (yq (2^w) n x) 0 M0 s1 0 AD AD (zcH (Bj ⋯) n x) ∅ h1 ∅;let⟨s3,r7,r8,h3,o3,l3,f3⟩:=zfE k ∅ (c:=98) (by simp) (p0:=AA (.int w)) (p1:=AA (.int n)) (p2:=AA (.int x)) (p3:=AA (.int y)) (p6:=AA (.int y)) (yq (2^w) n y) 0 _ s2 _ q7 q8 (zcH (Bj ⋯) n y) ∅ h2 ∅;refine⟨s3,st.length,st.length+1,AR _,by lia,?_,λq hq=>?_,?_⟩
 .rw[show 2*n=0+(yq (2^w) n x).length+(yq (2^w) n y).length by lia];exact h3
 .rw[o3 q ∅ ∅,o2 q ∅ ∅,hs1,B6,Ae hq]
 .have hb:yr.body=(match yr.body with
   |.cons a (.cons (.for t i _) r)=>.cons a (.cons (.for t i mwB) r)
   |x=>x):=rfl
  have hc:mwB=(match mwB with
   |.cons (.for t i _) r=>.cons (.for t i mwC) r
   |x=>x):=rfl
  have bt:∀(a b:PV) (p4 p5 p6 p7 p8:Option PV),yD (.t [5,6]) (.tp AB [a,b]) [AA (.int w),AA (.int n),AA (.int x),AA (.int y),p4,p5,p6,p7,p8]=AA [AA (.int w),AA (.int n),AA (.int x),AA (.int y),p4,AA a,AA b,p7,p8]:=λ_ _ _ _ _ _ _=>rfl;have cA:(AE "a")=⟨#[97]⟩:=by ac_rfl
  have cB:(AE "b")=⟨#[98]⟩:=by ac_rfl
  have g1:exs (yc T (9+k)) [AA (.int w),AA (.int n),AA (.int x),AA (.int y),AA (.loc st.length),AA (.str ⟨#[97]⟩),AA (.int x),AD,AD] s1 mwB=.nx [AA (.int w),AA (.int n),AA (.int x),AA (.int y),AA (.loc st.length),AA (.str ⟨#[97]⟩),AA (.int x),q7,q8] s2:=by
   rw[hc];simp! [mwB,yr,eA,f2]
  have g2:exs (yc T (9+k)) [AA (.int w),AA (.int n),AA (.int x),AA (.int y),AA (.loc st.length),AA (.str ⟨#[98]⟩),AA (.int y),q7,q8] s2 mwB=.nx [AA (.int w),AA (.int n),AA (.int x),AA (.int y),AA (.loc st.length),AA (.str ⟨#[98]⟩),AA (.int y),r7,r8] s3:=by
   rw[hc];simp! [mwB,yr,eB,f3]
  have ag:∀(ρ:IC.Env) (s:SO) (k:IC.Env->SO->Fl),yao (.nx ρ s) k=k ρ s:=λ_ _ _=>rfl;rw[show 10+k=9+k+1 by lia,zn hT rfl rfl];dsimp only;rw[hb];simp! [yr,e1,yaZ,newV,hs1.symm,cA,cB,zC (bt _ _ _ _ _ _ _),zQ,g1,g2,ag,zbS,IC.ve33]
def getM(M:Mem)(c:Nat):Nat->Nat->List Int
 |_,0=>[]
 |a,n+1=>M c a::getM M c (a+1) n
def zdu(k:Nat){m l L:Nat}{w mk:Int}{M:Mem}{st:SO}(h:MM st m l w M mk L){c:Nat}(hc:c∈[97,98,99,100,109])(n:Nat)(hn:n<=8):
  yc T (10+k) yhO [.loc m,.str ⟨#[c]⟩,.int n] st=.ok (.tp AB ((getM M c 0 n).map .int)) st:=by
 have hT:T yhO=AA ⟨3,3,AB,yab.body⟩:=rfl;have hr:=zct n ∅;have ih:=h.ins (AE "word");have hl:∀(n a:Nat),(getM M c a n).length=n:=by
  intro n
  induction n with
  |zero=>intro a;rfl
  |succ n ihn=>intro a;simp[getM,ihn]
 have hcm:∀(n a:Nat),a+n<=9->yaf (yc T (9+k)) [AD,AA (.str ⟨#[c]⟩),AA (.loc m)] (.n 0) (.cst (.bl AC)) (.mcl cM y8 (AE "word") (.var 2) (.cons (.var 1) (.cons (.var 0) .nil))) (yp n (a:Int) 1) st=.ok ((getM M c a n).map .int) st:=by
  intro n
  induction n with
  |zero=>intro a _;rw[yp,zb6];rfl
  |succ n ihn=>
   intro a ha;have e:=zqS k h hc (i:=a) ∅;have one:ybm (yc T (9+k)) [AD,AA (.str ⟨#[c]⟩),AA (.loc m)] (.n 0) (.cst (.bl AC)) (.mcl cM y8 (AE "word") (.var 2) (.cons (.var 1) (.cons (.var 0) .nil))) (.int (a:Int)) st=.ok (AA (.int (M c a))) st:=by
    simp! [ybm,ih,e,IC.ve37]
   have q:=ihn (a+1) ∅;rw[yp,zaC,one,bd_ok,show ((a:Int)+1)=((a+1:Nat):Int)by lia,q,bd_ok];rfl
 have hcm:=hcm n 0 ∅;have ht:yam .tuple st [.lst ((getM M c 0 n).map .int)]=AA (.tp AB ((getM M c 0 n).map .int)):=rfl;rw[show 10+k=9+k+1 by lia,zn hT rfl rfl];have hcm:yaf (yc T (9+k)) [AD,AA (.str ⟨#[c]⟩),AA (.loc m)] (.n 0) (.cst (.bl AC)) (.mcl cM y8 (AE "word") (.var 2) (.cons (.var 1) (.cons (.var 0) .nil))) (yp n 0 1) st=_:=hcm;simp! [yab,hr,hcm];rw[zez _ (by simp[hl];lia)];simp! [ht,zbS]
def zcp(k:Nat)(x:Int)(w n:Nat)(hw:w<=16)(hn:n<=8)(x0:0<=x)(x1:x<2^(w*n))(st:SO):yc T (k+2) ym [.int x,.int w,.int n] st=.ok (.tp AB ((yq (2^w) n x).map .int)) st:=by
 have hT:T ym=AA ygq:=rfl;have hwn:w*n<=1000:=by
  have:w*n<=16*8:=An hw hn;lia
 have m1:=zec w n ∅;have s1:=zjN (w*n) hwn;have e1:∀s,yc T (k+1) yy [.int x,.int w,.int n] s=_:=λs=>lowest k x w n hw hn s;have c1:decide (x<0)=false:=decide_eq_false ∅;have c2:decide ((2:Int)^(w*n)<=x)=false:=decide_eq_false ∅;rw[zc hT rfl rfl rfl];generalize hL:yq (2^w) n x=ws at *;simp! [ygq,c1,m1,s1,c2,e1];simp[ybj,nL,noLocs_ints]
structure yb6(pr:Prop)(qb:Bool)(deed:PV)(w n na:Nat)(rs:List Rw):Prop where
 nl:nL deed=AC
 isd:yc T 20 yhL [deed] []=.ok (.bl AC) []
 isp:pr->yc T 20 yhM [deed] []=.ok (.bl AC) []
 quo:∀st,(idxV st deed (.int 0)).bind (λv=>yw .isin v yfb)=AA (.bl qb)
 rows:yc T 20 yiw [deed,.int w,.int n] []=.ok (.tp AB (rs.map yae)) []
 ref:∀r∈rs,yc T 20 yhz [yae r] []=.ok .non []
 ans:yc T 20 yz [deed,.int n] []=.ok (.int na) []
 rest:yc T 20 yhN [deed,.int n] []=.ok (.int (if qb=AC then n else 0:Nat)) []
def zdi(k:Nat){pr:Prop}{qb:Bool}{deed:PV}{w n na:Nat}{rs:List Rw}(D:yb6 pr qb deed w n na rs)(hw:w<=16)(hn:n<=8){x y:Int}(x0:0<=x)(x1:x<2^(w*n))(y0:0<=y)(y1:y<2^(w*n))(hp:y≠0->pr)(hq:y=0->qb=AB)(st:SO):
  yc T (21+k) yl [deed,.int w,.int n,.int x,.int y] st=.ok .non st:=by
 have hT:T yl=AA yk:=rfl;have hnl:nLs [deed,.int w,.int n,.int x,.int y]=true:=by simp[nLs,D.nl,nL]
 have e1:=zN D.isd k;have e3:∀s,yc T (20+k) ym [.int x,.int w,.int n] s=.ok (.tp AB ((yq (2^w) n x).map .int)) s:=λs=>by rw[show 20+k=18+k+2 by lia];exact zcp (18+k) x w n hw hn x0 x1 s
 have e4:∀s,yc T (20+k) ym [.int y,.int w,.int n] s=.ok (.tp AB ((yq (2^w) n y).map .int)) s:=λs=>by rw[show 20+k=18+k+2 by lia];exact zcp (18+k) y w n hw hn y0 y1 s
 rw[show 21+k=20+k+1 by lia,zc hT rfl rfl hnl];have q:=D.quo []
 cases hi:idxV [] deed (.int 0)with
 |none=>rw[hi]at q;cases q
 |some v=>
  rw[hi,BB]at q;generalize yq (2^w) n x=xs,yq (2^w) n y=ys at *
  cases hy:(y==0)with
  |true=>
   rw[hq (by simpa using hy)]at q;simp! [yk,e1,e3,e4,hy,hi,q];rfl
  |false=>
   have e2:=zN (D.isp (hp (by intro h;rw[h]at hy;exact absurd hy ⋯))) k;simp! [yk,e1,e2,e3,e4,hy];rfl
theorem ran(k:Nat){pr:Prop}{qb:Bool}{deed:PV}{w n na:Nat}{rs:List Rw}(D:yb6 pr qb deed w n na rs)(hw:w<=16)(hw1:1<=w)(hn:n<=4)(hna:na<=8)(hrs:rs.length<5000){x y:Int}(x0:0<=x)(x1:x<2^(w*n))(y0:0<=y)(y1:y<2^(w*n))(hp:y≠0->pr)(hq:y=0->qb=AB)(hh:ya7 (2^w) rs (ybH (2^w) n x y) 0)(st:SO):
  yc T (22+k) yes [deed,.int w,.int n,.int x,.int y] st=.ok (.tp AB [.tp AB ((getM (ybg (2^w) rs (ybH (2^w) n x y) 0).1 99 0 na).map .int),.tp AB ((getM (ybg (2^w) rs (ybH (2^w) n x y) 0).1 100 0 (if qb=AC then n else 0)).map .int),.tp AB ((getM (ybg (2^w) rs (ybH (2^w) n x y) 0).1 109 0 4).map .int)]) st:=by
 have hT:T yes=AA ⟨5,7,AC,ybz.body⟩:=rfl;have hnl:nLs [deed,.int w,.int n,.int x,.int y]=true:=by simp[nLs,D.nl,nL]
 have e1:=zdi k D hw ∅ x0 x1 y0 y1 hp hq [];let⟨s2,m,l,_,_,h2,_,e2⟩:=zfl (11+k) w n hw ∅ x y [];have e2:yc T (21+k) yi9 [.int w,.int n,.int x,.int y] []=.ok (.loc m) s2:=by rw[show 21+k=10+(11+k)by lia];exact e2
 have nl3:nLs [deed,.int w,.int n]=true:=by simp[nLs,D.nl,nL]
 have nl2:nLs [deed,.int n]=true:=by simp[nLs,D.nl,nL]
 have up:∀{f:Nat} {fn:IC.Fn} {args:List PV} {v:PV},T f=AA fn->fn.pure=AC->args.length=fn.np->nLs args=AC->yc T 20 f args []=.ok v []->∀s,yc T (21+k) f args s=.ok v s:=λ{f fn args v} a b c d e s=>by
  have:=zN e (1+k);rw[show 20+(1+k)=20+k+1 by lia]at this;rw[show 21+k=20+k+1 by lia];exact zbV a b c d this s
 have e3:=up (f:=yiw) (fn:=yhF) rfl rfl rfl nl3 D.rows s2;let⟨s4,h4,_,_,e4⟩:=zkj (14+k) (n:=w) ∅ hw1 h2 (rs:=rs) ∅ hh (λr hr=>by
  have:=zN (D.ref r hr) k;rw[show 20+k=14+k+6 by lia]at this;exact this)
 have e4:yc T (21+k) yi6 [.loc m,.tp AB (rs.map yae)] s2=.ok .non s4:=by rw[show 21+k=14+k+7 by lia];exact e4
 have e5:=up (f:=yz) (fn:=yB) rfl rfl rfl nl2 D.ans s4;have e6:=up (f:=yhN) (fn:=yhw) rfl rfl rfl nl2 D.rest s4;have n1:yc T (21+k) yhO [.loc m,.str ⟨#[99]⟩,.int na] s4=.ok (.tp AB ((getM (ybg (2^w) rs (ybH (2^w) n x y) 0).1 99 0 na).map .int)) s4:=by
  have:=zdu (11+k) h4 (c:=99) (by simp) na hna;rw[show 10+(11+k)=21+k by lia]at this;exact this
 have n2:yc T (21+k) yhO [.loc m,.str ⟨#[100]⟩,.int (if qb=AC then n else 0:Nat)] s4=.ok (.tp AB ((getM (ybg (2^w) rs (ybH (2^w) n x y) 0).1 100 0 (if qb=AC then n else 0)).map .int)) s4:=by
  have:=zdu (11+k) h4 (c:=100) (by simp) (if qb=AC then n else 0) (by split<;>lia);rw[show 10+(11+k)=21+k by lia]at this;exact this
 have n3:yc T (21+k) yhO [.loc m,.str ⟨#[109]⟩,.int 4] s4=.ok (.tp AB ((getM (ybg (2^w) rs (ybH (2^w) n x y) 0).1 109 0 4).map .int)) s4:=by
  have:=zdu (11+k) h4 (c:=109) (by simp) 4 ∅;rw[show 10+(11+k)=21+k by lia]at this;exact this
 have ih:=h2.ins (AE "run");have cC:(AE "c")=⟨#[99]⟩:=by ac_rfl
 have cD:(AE "d")=⟨#[100]⟩:=by ac_rfl
 have cE:(AE "m")=⟨#[109]⟩:=by ac_rfl
 have vM:yjg=.int 4:=rfl;rw[show 22+k=21+k+1 by lia,zc hT rfl rfl hnl];dsimp only;generalize rs.map yae=rows,getM (ybg (2^w) rs (ybH (2^w) n x y) 0).1 99 0 na=A,getM (ybg (2^w) rs (ybH (2^w) n x y) 0).1 109 0 4=B,getM (ybg (2^w) rs (ybH (2^w) n x y) 0).1 100 0 (if qb=AC then n else 0)=C at *;generalize (if qb=AC then n else 0)=nr at *;simp! [ybz,e1,e2,ih,e3,e4,e5,e6,cC,cD,cE,vM,n1,n2,n3,IC.ve37];simp[ybj,nL,nLs,noLocs_ints]
theorem letters:((C0 26).all λj=>isOk (yc T 2 yiM [.str (chS (97+j))] []) (.bl AC))=true:=by decide +kernel
def zg3(k:Nat){c:Nat}(h1:97<=c)(h2:c<=122)(s:SO):yc T (k+2) yiM [.str (chS c)] s=.ok (.bl AC) s:=by
 have h:=A9.1 letters (c-97) (by simp;lia);rw[show 97+(c-97)=c by lia]at h;have h:=zN (zcA h) k;rw[show 2+k=k+1+1 by lia]at h;exact zbV (f:=yiM) (fn:=yiH) rfl rfl rfl rfl h s
def zfq(k:Nat){i a b:Int}(h1:a<=i)(h2:i<=b)(s:SO):yc T (k+1) yhJ [.int i,.int a,.int b] s=.ok (.bl AC) s:=by
 have hT:T yhJ=AA yhu:=rfl;have e1:yaR (.int i) [.int]=AA (.bl AC):=rfl;have e2:yaR (.int i) [.bool]=AA (.bl AB):=rfl;have c1:decide (a<=i)=true:=decide_eq_true h1;have c2:decide (i<=b)=true:=decide_eq_true h2;rw[zc hT rfl rfl rfl];simp! [yhu,e1,e2,c1,c2,IC.ve9];rfl
def zjv(k:Nat){x:Cel}(h1:97<=x.1)(h2:x.1<=122)(h3:0<=x.2)(h4:x.2<=99)(s:SO):yc T (k+4) ykj [yC x] s=.ok (.bl AC) s:=by
 have hT:T ykj=AA yhY:=rfl;have hT2:T ykk=AA yhZ:=rfl;have el:∀s,yc T (k+3) ykk [yC x] s=.ok (.bl AC) s:=λs=>by
  have e:=λs=>zg3 k h1 h2 s;rw[zc hT2 rfl rfl rfl];have e1:yaR (yC x) [.tuple]=AA (.bl AC):=rfl;have e2:∀st,yam .len st [yC x]=AA (.int 2):=λ_=>rfl;have e3:∀st,idxV st (yC x) (.int 0)=AA (.str (chS x.1)):=λ_=>rfl;generalize yC x=v at *;simp! [yhZ,e1,e2,e3,e];rfl
 have ew:=λs=>zfq (k+2) h3 h4 s;have e3:∀st,idxV st (yC x) (.int 1)=AA (.int x.2):=λ_=>rfl;rw[zc hT rfl rfl rfl];generalize yC x=v at *;simp! [yhY,el,e3,ew];rfl
abbrev kC:PV:=.str "cell"
abbrev kF:PV:=.str "figure"
def znb(k:Nat){x:Cel}(h1:97<=x.1)(h2:x.1<=122)(h3:0<=x.2)(h4:x.2<=99)(s:SO):yc T (k+5) yv [kC,yC x,.bl AB] s=.ok (.bl AC) s:=by
 have hT:T yv=AA yhv:=rfl;have e:=λs=>zjv k h1 h2 h3 h4 s;have c:yw .eq kC kF=AA (.bl AB):=by ac_rfl
 have hnl:nLs [kC,yC x,.bl AB]=true:=rfl;rw[zc hT rfl rfl hnl];generalize yC x=v at *;simp! [yhv,c,e];rfl
def zkD(k:Nat){d:Int}(h1:0<=d)(h2:d<=1)(s:SO):yc T (k+5) yv [kF,.int d,.bl AB] s=.ok (.bl AC) s:=by
 have hT:T yv=AA yhv:=rfl;have e:=λs=>zfq (k+3) h1 h2 s;have c:yw .eq kF kF=AA (.bl AC):=by ac_rfl
 rw[zc hT rfl rfl rfl];simp! [yhv,c,e];rfl
def hfB:Css:=match yF.body with
 |.cons _ (.cons (.for _ _ b) _)=>b
 |x=>x
def ziR(k:Nat){p0 p1:PV}(hp1:p1=.bl AB){st:SO}:∀(l:List (PV×PV)) (p2 p3:Option PV),(∀x∈l,∀s,yc T k yv [x.1,x.2,.bl AB] s=.ok (.bl AC) s) ->
  ∃q2 q3,yaW (yc T k) (.t [2,3]) hfB (l.map λx=>.tp AB [x.1,x.2]) [AA p0,AA p1,p2,p3] st=.nx [AA p0,AA p1,q2,q3] st
 |[],p2,p3,_=>⟨p2,p3,zQ⟩
 |(a,b)::l,p2,p3,h=>by
  subst hp1;let⟨q2,q3,e⟩:=ziR k (p0:=p0) rfl (st:=st) l (AA a) (AA b) (λx hx=>h x (by simp[hx]));refine⟨q2,q3,?_⟩;have e1:=h (a,b) (by simp) st;have one:exs (yc T k) [AA p0,AA (.bl AB),AA a,AA b] st hfB=.nx [AA p0,AA (.bl AB),AA a,AA b] st:=by
   simp only at e1;simp! [hfB,yF,e1]
  rw[AU,zC (ρ1:=[AA p0,AA (.bl AB),AA a,AA b]) rfl,one];exact e
def ziP(k:Nat){nm:AL}{ops:List PV}(ho:nLs ops=AC)(hl:0<(.str nm::ops:List PV).length)(hd:yb3 ybE (.str nm)=AA (.bl AC))(s:SO):yc T (k+1) yiO [.tp AB (.str nm::ops)] s=.ok (.bl AC) s:=by
 have hT:T yiO=AA yhX:=rfl;have hnl:nLs [.tp AB (.str nm::ops)]=true:=by simp[nLs,nL,ho]
 have e1:yaR (.tp AB (.str nm::ops)) [.tuple]=AA (.bl AC):=rfl;have e2:∀st,yam .len st [.tp AB (.str nm::ops)]=AA (.int ((.str nm::ops:List PV).length:Nat)):=λ_=>rfl;have e3:∀st,idxV st (.tp AB (.str nm::ops)) (.int 0)=AA (.str nm):=λ_=>ix0;have e4:yaR (.str nm) [.str]=AA (.bl AC):=rfl;have c:decide (((.str nm::ops:List PV).length:Int) > 0)=true:=decide_eq_true ∅;rw[zc hT rfl rfl hnl];generalize (PV.str nm::ops).length=L,PV.tp AB (.str nm::ops)=v at *;simp! [yhX,e1,e2,e3,e4,c,hd,IC.ve29];rfl
def zge:∀l:List (PV×PV),yaM (l.map (·.1)) (l.map (·.2))=l.map λx=>.tp AB [x.1,x.2]
 |[]=>rfl
 |(a,b)::l=>by erw[AU,yaM,zge l,PV.tup]
def hfE:Ce:=match yF.body with
 |.cons _ (.cons _ (.cons (.ret e) _))=>e
 |_=>.nope
def zhR(k:Nat){nm:AL}(l:List (PV×PV))(hd:yb3 ybE (.str nm)=AA (.bl AC))(hr:yco ybE (.str nm)=AA (.tp AC (l.map (·.1))))(ho:∀x∈l,∀s,yc T (k+1) yv [x.1,x.2,.bl AB] s=.ok (.bl AC) s)(hnl:nLs (l.map (·.2))=AC)
  (ht:∀q2 q3 st,ev (yc T (k+1)) [AA (.tp AB (.str nm::l.map (·.2))),AA (.bl AB),q2,q3] st hfE=.ok (.bl AC) st) (s:SO):yc T (k+2) yiN [.tp AB (.str nm::l.map (·.2)),.bl AB] s=.ok (.bl AC) s:=by
 have hT:T yiN=AA yF:=rfl;have hn2:nLs [.tp AB (.str nm::l.map (·.2)),.bl AB]=true:=by simp[nLs,nL,hnl]
 have e0:∀st,yc T (k+1) yiO [.tp AB (.str nm::l.map (·.2))] st=.ok (.bl AC) st:=λst=>ziP k hnl (by simp) hd st;have e1:∀st,yam .len st [.tp AB (.str nm::l.map (·.2))]=AA (.int ((l.length+1:Nat):Int)):=λst=>by
  show AA (PV.int (((PV.str nm::l.map (·.2)).length:Nat):Int))=_;simp
 have e2:∀st,idxV st (.tp AB (.str nm::l.map (·.2))) (.int 0)=AA (.str nm):=λ_=>ix0;have e3:∀st,yam .len st [.tp AC (l.map (·.1))]=AA (.int (l.length:Nat)):=λst=>by
  show AA (PV.int (((l.map (·.1)).length:Nat):Int))=_;simp
 have c1:((((l.length+1:Nat):Int)==(l.length:Int)+1):Bool)=true:=by simp
 have o1:ybX (.int 1)=AA (AA 1):=rfl;have e5:ycB (.tp AB (.str nm::l.map (·.2))) (AA 1) .non=AA (.tp AB (l.map (·.2))):=by
  have hc:ya8 (l.length+1) 1=1:=by simp[ya8]
  erw[ycB,ybX,ycl,cut,ycy,ycQ,A1,Ap,hc,List.drop_succ_cons,HZ]
  first
  |(rw[DP (by simp)];done)
  |(simp;done)
  |(simp[DP])
 have e6:ydK (.tp AC (l.map (·.1))) (.tp AB (l.map (·.2)))=AA (l.map λx=>.tp AB [x.1,x.2]):=by
  simp[ydK,zge]
 let⟨q2,q3,e7⟩:=ziR (k+1) (p0:=.tp AB (.str nm::l.map (·.2))) (p1:=.bl AB) rfl (st:=[]) l AD AD ho
 have hb:yF.body=(match yF.body with
  |.cons a (.cons (.for t i _) (.cons _ r))=>.cons a (.cons (.for t i hfB) (.cons (.ret hfE) r))
  |x=>x):=rfl
 rw[zc hT rfl rfl hn2];rw[hb];generalize hfE=E,hv:PV.tp AB (.str nm::l.map (·.2))=v,hz:(l.map λx=>PV.tp AB [x.1,x.2])=zs,PV.tp AC (l.map (·.1))=ks at *;simp! [yF,e0,e1,e2,hr,e3,c1,e5,e6,e7,ht,o1,onP,IC.ve31];rfl
def yW(x:Cel):Prop:=97<=x.1/\x.1<=122/\0<=x.2/\x.2<=99
def yci:Rw->Prop
 |.mark d=>0<=d/\d<=1
 |.ask x=>yW x
 |.set t d=>yW t/\0<=d/\d<=1
 |.move t x | .bare t x | .twice t x | .half t x=>yW t/\yW x
 |.sum t x y | .less t x y | .both t x y | .any t x y | .odd t x y=>yW t/\yW x/\yW y
 |.times a b x y=>yW a/\yW b/\yW x/\yW y/\yw .ne (yC a) (yC b)=AA (.bl AC)
def ze2{r:PV}{nm:AL}(l:List (PV×PV))(hr:r=.tp AB (.str nm::l.map (·.2)))(hd:yb3 ybE (.str nm)=AA (.bl AC))(hx:yco ybE (.str nm)=AA (.tp AC (l.map (·.1))))(ho:∀x∈l,∀k s,yc T (k+5) yv [x.1,x.2,.bl AB] s=.ok (.bl AC) s)(hnl:nLs (l.map (·.2))=AC)
  (ht:∀k q2 q3 st,ev (yc T k) [AA r,AA (.bl AB),q2,q3] st hfE=.ok (.bl AC) st):yba r:=λk s=>by
 have hT:T yhx=AA yhW:=rfl;have e:∀s,yc T (9+k) yiN [r,.bl AB] s=.ok (.bl AC) s:=λs=>by
  subst hr;rw[show 9+k=7+k+2 by lia];exact zhR (7+k) l hd hx (λx hx s=>by rw[show 7+k+1=3+k+5 by lia];exact ho x hx (3+k) s) hnl (ht _) s
 have hn2:nLs [r]=true:=by subst hr;simp[nLs,nL,hnl]
 rw[show 10+k=9+k+1 by lia,zc hT rfl rfl hn2];simp! [yhW,e];rfl
def zb3{r:PV}{nm:AL}(l:List (PV×PV))(hr:r=.tp AB (.str nm::l.map (·.2)))(hd:yb3 ybE (.str nm)=AA (.bl AC))(hx:yco ybE (.str nm)=AA (.tp AC (l.map (·.1))))(ho:∀x∈l,∀k s,yc T (k+5) yv [x.1,x.2,.bl AB] s=.ok (.bl AC) s)(hnl:nLs (l.map (·.2))=AC)
  (ht:yw .ne (.str nm) (.str "times")=AA (.bl AC)):yba r:=ze2 l hr hd hx ho hnl λk q2 q3 st=>by
 subst hr;have e2:∀st,idxV st (.tp AB (.str nm::l.map (·.2))) (.int 0)=AA (.str nm):=λ_=>ix0;simp! [hfE,yF,e2,ht]
theorem oC{x:Cel}(h:yW x)(k:Nat)(s:SO):yc T (k+5) yv [kC,yC x,.bl AB] s=.ok (.bl AC) s:=znb k h.1 h.2.1 h.2.2.1 h.2.2.2 s
def zqY{nm:AL}{x:Cel}(h:yW x)(hd:yb3 ybE (.str nm)=AA (.bl AC))(hx:yco ybE (.str nm)=AA (.tp AC [kC]))(ht:yw .ne (.str nm) (.str "times")=AA (.bl AC)):yba (.tp AB [.str nm,yC x]):=
 zb3 [(kC,yC x)] rfl hd hx (λa ha=>by erw[AX,Aj,or_false]at ha;subst ha;exact oC h) rfl ht
theorem row2{nm:AL}{t x:Cel}(h0:yW t)(h:yW x)(hd:yb3 ybE (.str nm)=AA (.bl AC))(hx:yco ybE (.str nm)=AA (.tp AC [kC,kC]))(ht:yw .ne (.str nm) (.str "times")=AA (.bl AC)):yba (.tp AB [.str nm,yC t,yC x]):=
 zb3 [(kC,yC t),(kC,yC x)] rfl hd hx (λa ha=>by erw[AX,Aj,or_false]at ha;rcases ha with rfl|rfl;exact oC h0;exact oC h) rfl ht
def zhw{nm:AL}{t x y:Cel}(h0:yW t)(h:yW x)(h2:yW y)(hd:yb3 ybE (.str nm)=AA (.bl AC))(hx:yco ybE (.str nm)=AA (.tp AC [kC,kC,kC]))(ht:yw .ne (.str nm) (.str "times")=AA (.bl AC)):yba (.tp AB [.str nm,yC t,yC x,yC y]):=
 zb3 [(kC,yC t),(kC,yC x),(kC,yC y)] rfl hd hx (λa ha=>by erw[AX,Aj,or_false]at ha;rcases ha with rfl|rfl|rfl;exact oC h0;exact oC h;exact oC h2) rfl ht
def zgr:∀r,yci r->yba (yae r)
 |.mark d,h=>zb3 [(kF,.int d)] rfl (by ac_rfl) (by ac_rfl) (λa ha=>by erw[AX,Aj,or_false]at ha;subst ha;exact λk s=>zkD k h.1 h.2 s) rfl (by ac_rfl)
 |.ask x,h=>zqY h (by ac_rfl) (by ac_rfl) (by ac_rfl)
 |.set t d,h=>zb3 [(kC,yC t),(kF,.int d)] rfl (by ac_rfl) (by ac_rfl) (λa ha=>by erw[AX,Aj,or_false]at ha;rcases ha with rfl|rfl;exact oC h.1;exact λk s=>zkD k h.2.1 h.2.2 s) rfl (by ac_rfl)
 |.move t x,h=>row2 h.1 h.2 (by ac_rfl) (by ac_rfl) (by ac_rfl)
 |.bare t x,h=>row2 h.1 h.2 (by ac_rfl) (by ac_rfl) (by ac_rfl)
 |.twice t x,h=>row2 h.1 h.2 (by ac_rfl) (by ac_rfl) (by ac_rfl)
 |.half t x,h=>row2 h.1 h.2 (by ac_rfl) (by ac_rfl) (by ac_rfl)
 |.sum t x y,h=>zhw h.1 h.2.1 h.2.2 (by ac_rfl) (by ac_rfl) (by ac_rfl)
 |.less t x y,h=>zhw h.1 h.2.1 h.2.2 (by ac_rfl) (by ac_rfl) (by ac_rfl)
 |.both t x y,h=>zhw h.1 h.2.1 h.2.2 (by ac_rfl) (by ac_rfl) (by ac_rfl)
 |.any t x y,h=>zhw h.1 h.2.1 h.2.2 (by ac_rfl) (by ac_rfl) (by ac_rfl)
 |.odd t x y,h=>zhw h.1 h.2.1 h.2.2 (by ac_rfl) (by ac_rfl) (by ac_rfl)
 |.times a b x y,h=>ze2 [(kC,yC a),(kC,yC b),(kC,yC x),(kC,yC y)] rfl (by ac_rfl) (by ac_rfl) (λz hz=>by erw[AX,Aj,or_false]at hz;rcases hz with rfl|rfl|rfl|rfl;exact oC h.1;exact oC h.2.1;exact oC h.2.2.1;exact oC h.2.2.2.1) rfl λk q2 q3 st=>by
  have q:yw .ne (.str "times") (.str "times")=AA (.bl AB):=by ac_rfl
  have h:=h.2.2.2.2;erw[yae];generalize yC a=ca,yC b=cb at *;simp! [hfE,yF,ix0,ix1,ix2,q,h]
def zlB{v:PV}(hn:nL v=AC)(h:yba v)(k:Nat)(s:SO):yc T (11+k) yhz [v] s=.ok .non s:=by
 have hT:T yhz=AA yhI:=rfl;have e:=λs=>h k s;rw[show 11+k=10+k+1 by lia,zc hT rfl rfl (by simp[nLs,hn])];simp! [yhI,e];rfl
def Good(w:Nat)(M:Mem)(k:Int):Prop:=(∀c i,0<=M c i/\M c i<2^w)/\0<=k/\k<=1
def okD:Rw->Prop
 |.mark d=>0<=d/\d<=1
 |.set _ d=>0<=d/\d<=1
 |_=>True
def zau{w:Nat}{M:Mem}(h:∀c i,0<=M c i/\M c i<2^w)(t:Cel){v:Int}(v0:0<=v)(v1:v<2^w):∀c i,0<=wr M t v c i/\wr M t v c i<2^w:=by
 intro c i;unfold wr upd;split
 .exact⟨v0,v1⟩
 .exact h c i
def zhF{w:Nat}(hw:1<=w){M:Mem}{k:Int}(h:Good w M k){r:Rw}(hd:okD r):Good w (stepM (2^w) M k r).1 (stepM (2^w) M k r).2:=by
 let⟨g,k0,k1⟩:=h;have hW2:(2:Int)<=2^w:=by
  have h:(2:Nat)^1<=2^w:=Ac ∅ hw;have h2:=pw w;lia
 have hW0:(2:Int)^w≠0:=by lia
 have hWp:(0:Int)<2^w:=by lia
 have md:∀z:Int,0<=z%2^w/\z%2^w<2^w:=λz=>⟨Bt _ hW0,B0 _ hWp⟩;have dv:∀z:Int,0<=z->z<2*2^w->0<=z/2^w/\z/2^w<=1:=λz z0 z1=>⟨FU z0 ∅,by
  have:=DZ hWp (a:=z) (b:=2) ∅;lia⟩
 cases r with
 |mark d=>exact⟨g,hd⟩
 |ask x=>exact⟨g,zli _⟩
 |set t d=>exact⟨zau g t hd.1 (by have:=hd.2;lia),k0,k1⟩
 |move t x=>exact⟨zau g t (g _ _).1 (g _ _).2,k0,k1⟩
 |bare t x=>
  have:=g x.1 x.2;exact⟨zau g t (by erw[rd];lia) (by erw[rd];lia),k0,k1⟩
 |twice t x=>
  have:=g x.1 x.2;exact⟨zau g t (md _).1 (md _).2,dv _ (by erw[rd];lia) (by erw[rd];lia)⟩
 |half t x=>
  have:=g x.1 x.2;have hH:(2:Int)^w=2*(2^w/2):=by
   obtain⟨v,rfl⟩:∃v,w=v+1:=⟨w-1,by lia⟩;rw[CN];lia
  have hk:k*(2^w/2)=0 \/ k*((2:Int)^w/2)=2^w/2:=by
   rcases (by lia:k=0 \/ k=1)with rfl|rfl
   .left;lia
   .right;lia
  refine⟨zau g t ?_ ?_,?_,?_⟩
  .simp only[rd];lia
  .simp only[rd];lia
  .simp only[stepM,rd];lia
  .simp only[stepM,rd];lia
 |sum t x y=>
  have:=g x.1 x.2;have:=g y.1 y.2;exact⟨zau g t (md _).1 (md _).2,dv _ (by erw[rd];lia) (by erw[rd];lia)⟩
 |less t x y=>exact⟨zau g t (md _).1 (md _).2,zli _⟩
 |both t x y=>
  have h:=znM (w:=w) (g x.1 x.2).1 (g y.1 y.2).1 (g y.1 y.2).2;exact⟨zau g t h.1 h.2,k0,k1⟩
 |any t x y=>
  have h:=znG (w:=w) (g x.1 x.2).1 (g x.1 x.2).2 (g y.1 y.2).1 (g y.1 y.2).2;exact⟨zau g t h.1 h.2,k0,k1⟩
 |odd t x y=>
  have h:=zoI (w:=w) (g x.1 x.2).1 (g x.1 x.2).2 (g y.1 y.2).1 (g y.1 y.2).2;exact⟨zau g t h.1 h.2,k0,k1⟩
 |times l t x y=>
  have a:=g x.1 x.2;have b:=g y.1 y.2;have p0:0<=M x.1 x.2*M y.1 y.2:=DR a.1 b.1;have p1:M x.1 x.2*M y.1 y.2<2^w*2^w:=by
   rcases (by lia:M x.1 x.2=0 \/ 0<M x.1 x.2)with z|z
   .rw[z,Int.zero_mul];exact Int.mul_pos hWp hWp
   .exact Int.lt_of_lt_of_le (Int.mul_lt_mul_of_pos_left b.2 z) (CW ∅ ∅)
  refine⟨zau (zau g l (md _).1 (md _).2) t ?_ ?_,k0,k1⟩
  .exact FU p0 ∅
  .exact DZ hWp p1
def zdp{w:Nat}{c:Nat}:∀(vs:List Int) (i:Nat) (M:Mem),(∀c i,0<=M c i/\M c i<2^w)->(∀v∈vs,0<=v/\v<2^w)->∀d j,0<=ya3 c i vs M d j/\ya3 c i vs M d j<2^w
 |[],_,_,h,_=>h
 |v::vs,i,M,h,hv=>by
  rw[ya3];refine zdp vs (i+1) _ (λc' j=>?_) λu hu=>hv u (AQ _ hu);unfold upd;split
  .exact hv v A8
  .exact h c' j
def zcD{w:Nat}:∀(n:Nat) (x:Int),∀v∈yq (2^w) n x,0<=v/\v<2^w
 |0,_,v,h=>by cases h
 |n+1,x,v,h=>by
  have hWp:(0:Int)<2^w:=Bj ∅;rw[yq,AX]at h;rcases h with rfl|h
  .exact⟨Bt _ ∅,B0 _ hWp⟩
  .exact zcD n _ v h
def zjd{w:Nat}(hw:1<=w)(n:Nat)(x y:Int):Good w (ybH (2^w) n x y) 0:=by
 have hWp:(0:Int)<2^w:=Bj ∅;exact⟨zdp _ _ _ (zdp _ _ _ (λc i=>⟨Int.le_refl _,hWp⟩) (zcD n x)) (zcD n y),by lia,by lia⟩
def zgu{w:Nat}(hw:1<=w)(hw2:w<=16):∀(rs:List Rw) (M:Mem) (k:Int),(∀r∈rs,okD r)->Good w M k->ya7 (2^w) rs M k
 |[],M,k,_,_=>trivial
 |r::rs,M,k,hr,g=>by
  let⟨h,k0,k1⟩:=g;exact⟨⟨λt x _=>⟨(h x.1 x.2).1,(h x.1 x.2).2,k0,by lia⟩,λ_ _ x _ _=>by
   have:=h x.1 x.2;have p:(2:Nat)^w<=2^16:=Ac ∅ hw2;have q:=pw w;show (M x.1 x.2).natAbs<_;have:(2:Nat)^16=65536:=rfl;lia⟩,zgu hw hw2 rs _ _ (λx hx=>hr x (by simp[hx])) (zhF hw ⟨h,k0,k1⟩ (hr r (by simp)))⟩
def zpA:∀r,yci r->okD r
 |.mark _,h=>h
 |.set _ _,h=>h.2
 |.times _ _ _ _,_ | .ask _,_ | .move _ _,_ | .bare _ _,_ | .twice _ _,_ | .half _ _,_ | .sum _ _ _,_ | .less _ _ _,_ | .both _ _ _,_ | .any _ _ _,_ | .odd _ _ _,_=>trivial
def zqZ{pr:Prop}{nm:AL}{xs:List PV}{b:Bool}{vs:List PV}{ps:List T1}{rs:List Rw}{w n na:Nat}(hw:w<=16)(hn2:n<=4)(nl:nLs xs=AC)(i0:∀st,idxV st (.tp AB (.str nm::xs)) (.int 0)=AA (.str nm))
  (e0:yc T 18 yhK [.tp AB (.str nm::xs)] []=.ok (.tp b vs) []) (c1:yaz vs=AA ps) (c2:nLs vs=AC) (c3:isOk (yc T 16 yA [.tp b vs] []) (.bl AC)=AC) (c4:isOk (yc T 20 yhL [.tp AB (.str nm::xs)] []) (.bl AC)=AC)
  (hp:pr->yc T 20 yhM [.tp AB (.str nm::xs)] []=.ok (.bl AC) []) (pv:yP w n ps=rs.map yae) (ok:∀r∈rs,yci r) (hl:rs.length<=4000) (hr:ybo w n ps<=4000) (ha:ak1 w n ps<=500000)
  {qb:Bool} (q3:yw .isin (.str nm) yfb=AA (.bl qb)) (hA:yc T 20 yz [.tp AB (.str nm::xs),.int n] []=.ok (.int na) []):yb6 pr qb (.tp AB (.str nm::xs)) w n na rs:=by
 have nl:nL (.tp AB (.str nm::xs))=true:=by simp[nL,nLs,nl]
 generalize PV.tp AB (.str nm::xs)=d at *;have nl1:nLs [d]=true:=by simp[nLs,nl]
 have rw':∀x∈yP w n ps,yba x:=λx hx=>by
  rw[pv,FO]at hx;let⟨r,hr,rfl⟩:=hx;exact zgr r (ok r hr)
 have ht:∀st,yc T (1+18) yhK [d] st=.ok (.tp b vs) st:=λst=>by
  have:=zN e0 1;rw[show 18+1=18+0+1 by lia]at this;exact zbV (f:=yhK) (fn:=yiK) rfl rfl rfl nl1 this st
 have hit:∀st,yc T (1+16) yA [.tp b vs] st=.ok (.bl AC) st:=λst=>by
  have:=zN (zcA c3) 1;exact zbV (f:=yA) (fn:=yiJ) rfl rfl rfl (by simp[nLs,nL,c2]) this st
 have rows:=zhA 1 (w:=w) (n:=n) nl ht c2 c1 ∅ ∅ ∅ ∅ (by rw[pv,Ap];exact hl) hr ha rw' hit [];rw[pv]at rows;have hT2:T yhN=AA yhw:=rfl;have nl2:nLs [d,.int n]=true:=by simp[nLs,nl,nL]
 refine⟨nl,zcA c4,hp,λst=>by rw[i0,BB,q3],rows,λr hr=>?_,hA,?_⟩
 .have hv:nL (yae r)=true:=by cases r<;>rfl
  exact zlB hv (zgr r (ok r hr)) 9 []
 .rw[show (20:Nat)=19+1 from rfl,zc hT2 rfl rfl nl2]
  cases qb<;>simp! [yhw,i0,q3,IC.ve9]<;>rfl
theorem aw{pb:Bool}{nm:AL}{xs:List PV}{n:Nat}(nl:nLs xs=AC)(i0:∀st,idxV st (.tp AB (.str nm::xs)) (.int 0)=AA (.str nm))(q1:yw .eq (.str nm) (.str "compare")=AA (.bl AB))(q2:yw .eq (.str nm) (.str "led")=AA (.bl AB))(q4:yw .isin (.str nm) yhV=AA (.bl pb)):yc T 20 yz [.tp AB (.str nm::xs),.int n] []=.ok (.int (if pb=AC then 2*n else n:Nat)) []:=by
 have nl:nL (.tp AB (.str nm::xs))=true:=by simp[nL,nLs,nl]
 generalize PV.tp AB (.str nm::xs)=d at *;have hT1:T yz=AA yB:=rfl;have nl2:nLs [d,.int n]=true:=by simp[nLs,nl,nL]
 rw[show (20:Nat)=19+1 from rfl,zc hT1 rfl rfl nl2]
 cases pb<;>simp! [yB,i0,q1,q2,q4]<;>rfl
def Cx.ce(x:Cx)(I J n:Int):Cel:=(x.l,x.at I J n)
def loI(a N:Int):Int:=if a<0 then a*(N-1)else 0
def hiI(a N:Int):Int:=if a<0 then 0 else a*(N-1)
def zlf{a I N:Int}(h0:0<=I)(h1:I<N):loI a N<=a*I/\a*I<=hiI a N:=by
 unfold loI hiI;split
 .rename_i h;exact⟨Int.mul_le_mul_of_nonpos_left ∅ ∅,Int.mul_nonpos_of_nonpos_of_nonneg ∅ h0⟩
 .exact⟨DR ∅ h0,Di ∅ ∅⟩
def Cx.okI(x:Cx)(N M n:Int):Bool:=decide (97<=x.l)&&decide (x.l<=122)&&decide (0<=x.c+loI x.i N+loI x.j M+x.m*n)&&decide (x.c+hiI x.i N+hiI x.j M+x.m*n<=99)
def zlU{x:Cx}{I J N M n:Int}(h:x.okI N M n=AC)(i0:0<=I)(i1:I<N)(j0:0<=J)(j1:J<M):yW (x.ce I J n):=by
 erw[Cx.okI,AH,decide_eq_true_eq]at h;let⟨⟨⟨h1,h2⟩,h3⟩,h4⟩:=h;have a:=zlf (a:=x.i) i0 i1;have b:=zlf (a:=x.j) j0 j1;exact⟨h1,h2,IH h3 (Fd (He (Fu a.1 _) b.1) _),IH (Fd (He (Fu a.2 _) b.2) _) h4⟩
def isN(nm:AL)(s:String):Bool:=decide (nm=AE s)
def yeX(a b:Cx):Bool:=decide (a.l≠b.l)
def rs7(N M n:Int)(nm:AL)(t x:Cx)(l:List Op):Op->Bool
 |.fig _=>AB
 |.cel z=>l.isEmpty&&(isN nm "times" && yeX t x&&z.okI N M n)
def rs6(N M n:Int)(nm:AL)(t x:Cx):List Op->Bool
 |[]=>isN nm "sum" || isN nm "less" || isN nm "both" || isN nm "any" || isN nm "odd"
 |a::l=>rs7 N M n nm t x l a
def rs5(N M n:Int)(nm:AL)(t x:Cx)(l:List Op):Op->Bool
 |.fig _=>AB
 |.cel y=>y.okI N M n&&rs6 N M n nm t x l
def rs4(N M n:Int)(nm:AL)(t x:Cx):List Op->Bool
 |[]=>isN nm "move" || isN nm "bare" || isN nm "twice" || isN nm "half"
 |a::l=>rs5 N M n nm t x l a
def rs3(N M n:Int)(nm:AL)(t:Cx)(l:List Op):Op->Bool
 |.fig d=>l.isEmpty&&(isN nm "set" && decide (0<=d)&&decide (d<=1))
 |.cel x=>x.okI N M n&&rs4 N M n nm t x l
def rs2(N M n:Int)(nm:AL)(t:Cx):List Op->Bool
 |[]=>isN nm "ask"
 |a::l=>rs3 N M n nm t l a
def rs1(N M n:Int)(nm:AL)(l:List Op):Op->Bool
 |.fig d=>l.isEmpty&&(isN nm "mark" && decide (0<=d)&&decide (d<=1))
 |.cel t=>t.okI N M n&&rs2 N M n nm t l
def rs0(N M n:Int)(nm:AL):List Op->Bool
 |[]=>AB
 |a::l=>rs1 N M n nm l a
def ydS(N M n:Int)(r:Rs):Bool:=rs0 N M n r.nm r.ops
def isR(v:PV):Prop:=∃w,yci w/\v=yae w
def zo6{a b:Cel}(ha:yW a)(hb:yW b)(h:a.1≠b.1):yw .ne (yC a) (yC b)=AA (.bl AC):=by
 have hs:∀c:Nat,c<=122->(chS c).cps.all (· < 0x110000)=true:=λc hc=>by simp[chS];lia
 have hne:(chS a.1==chS b.1)=false:=beq_eq_false_iff_ne.2 λe=>h (by simpa [chS] using e);erw[yw,yC,yN,PV.tup,shp,shd,ya4,hs _ ha.2.1,hs _ hb.2.1,peq,ybi,hne];rfl
def zlW{r:Rs}{I J N M n:Int}(h:ydS N M n r=AC)(i0:0<=I)(i1:I<N)(j0:0<=J)(j1:J<M):isR (r.pv I J n):=by
 let⟨nm,ops⟩:=r;have oc:∀{x:Cx},x.okI N M n=AC->yW (x.ce I J n):=λh=>zlU h i0 i1 j0 j1;have em:∀{l:List Op} {b:Bool},(l.isEmpty&&b)=AC->l=[]/\b=true:=λ{l b} h=>by
  rw[AH]at h;exact⟨List.isEmpty_iff.1 h.1,h.2⟩
 rcases ops with _|⟨d|t,l⟩
 .exact nomatch (show AB=AC from h)
 .let⟨rfl,h⟩:=em h;erw[isN,AH,decide_eq_true_eq]at h;let⟨⟨rfl,h1⟩,h2⟩:=h;exact⟨.mark d,⟨h1,h2⟩,rfl⟩
 let⟨ht,h⟩:=Dj.1 (show (t.okI N M n&&rs2 N M n nm t l)=AC from h);rcases l with _|⟨d|x,l⟩
 .cases of_decide_eq_true h
  exact⟨.ask (t.ce I J n),oc ht,rfl⟩
 .let⟨e,g⟩:=em (show (l.isEmpty&&(isN nm "set" && decide (0<=d)&&decide (d<=1)))=AC from h);erw[isN,AH,decide_eq_true_eq]at g;let⟨⟨rfl,h1⟩,h2⟩:=g;subst e;exact⟨.set (t.ce I J n) d,⟨oc ht,h1,h2⟩,rfl⟩
 let⟨hx,h⟩:=Dj.1 (show (x.okI N M n&&rs4 N M n nm t x l)=AC from h);rcases l with _|⟨d|y,l⟩
 .simp only[rs4,isN,CG,decide_eq_true_eq]at h;rcases h with ((rfl|rfl)|rfl)|rfl
  .exact⟨.move (t.ce I J n) (x.ce I J n),⟨oc ht,oc hx⟩,rfl⟩
  .exact⟨.bare (t.ce I J n) (x.ce I J n),⟨oc ht,oc hx⟩,rfl⟩
  .exact⟨.twice (t.ce I J n) (x.ce I J n),⟨oc ht,oc hx⟩,rfl⟩
  .exact⟨.half (t.ce I J n) (x.ce I J n),⟨oc ht,oc hx⟩,rfl⟩
 .exact nomatch (show AB=AC from h)
 let⟨hy,h⟩:=Dj.1 (show (y.okI N M n&&rs6 N M n nm t x l)=AC from h);rcases l with _|⟨d|z,l⟩
 .simp only[rs6,isN,CG,decide_eq_true_eq]at h;rcases h with (((rfl|rfl)|rfl)|rfl)|rfl
  .exact⟨.sum (t.ce I J n) (x.ce I J n) (y.ce I J n),⟨oc ht,oc hx,oc hy⟩,rfl⟩
  .exact⟨.less (t.ce I J n) (x.ce I J n) (y.ce I J n),⟨oc ht,oc hx,oc hy⟩,rfl⟩
  .exact⟨.both (t.ce I J n) (x.ce I J n) (y.ce I J n),⟨oc ht,oc hx,oc hy⟩,rfl⟩
  .exact⟨.any (t.ce I J n) (x.ce I J n) (y.ce I J n),⟨oc ht,oc hx,oc hy⟩,rfl⟩
  .exact⟨.odd (t.ce I J n) (x.ce I J n) (y.ce I J n),⟨oc ht,oc hx,oc hy⟩,rfl⟩
 .exact nomatch (show AB=AC from h)
 let⟨e,g⟩:=em (show (l.isEmpty&&(isN nm "times" && yeX t x&&z.okI N M n))=AC from h);erw[isN,yeX,AH,decide_eq_true_eq]at g;let⟨⟨rfl,hn⟩,hz⟩:=g;subst e;exact⟨.times (t.ce I J n) (x.ce I J n) (y.ce I J n) (z.ce I J n),⟨oc ht,oc hx,oc hy,oc hz,zo6 (oc ht) (oc hx) hn⟩,rfl⟩
def zi3:∀l:List PV,(∀v∈l,isR v)->∃rs:List Rw,l=rs.map yae/\∀r∈rs,yci r
 |[],_=>⟨[],rfl,by simp⟩
 |v::l,h=>by
  let⟨w,hw,rfl⟩:=h v (by simp);let⟨rs,rfl,hr⟩:=zi3 l λx hx=>h x (by simp[hx]);exact⟨w::rs,rfl,λr q=>by rcases AX.1 q with rfl|q;exact hw;exact hr r q⟩
def zdq{f:Nat->List PV}{v:PV}:∀{n:Nat},v∈upTo f n->∃i:Nat,i<n/\v∈f i
 |0,h=>by simp[upTo]at h
 |n+1,h=>by
  rw[upTo,Bq]at h;rcases h with h|h
  .let⟨i,hi,e⟩:=zdq h;exact⟨i,by lia,e⟩
  .exact⟨n,by lia,h⟩
def zbH{c m t:Int}{w n:Nat}(ht:0<=t)(hw:w<=16):cnt c m t w n<=cnt c m t 16 n:=by
 have h:t*(w:Int)*(n:Int)<=t*16*n:=CW (Di ∅ ht) ∅;unfold cnt;lia
def T2.okR(N:Int)(n:Nat):T2->Bool
 |.row r=>ydS N 1 n r
 |.rounds c m t rs=>decide (0<=t)&&rs.all (ydS N (cnt c m t 16 n) n)
def T1.okR(n:Nat):T1->Bool
 |.row r=>ydS 1 1 n r
 |.rounds c m t ps=>decide (0<=t)&&ps.all (T2.okR (cnt c m t 16 n) n)
def zq0{N:Int}{n w I:Nat}(hw:w<=16)(hI:(I:Int)<N):∀p:T2,p.okR N n=AC->∀v∈p.rows w n I,isR v
 |.row r,h,v,hv=>by
  erw[T2.rows,AX,Aj,or_false]at hv;subst hv;exact zlW h ∅ hI ∅ ∅
 |.rounds c m t rs,h,v,hv=>by
  erw[T2.okR,AH,decide_eq_true_eq,A9]at h;let⟨J,hJ,hv⟩:=zdq hv;let⟨r,hr,rfl⟩:=FO.1 hv;have:=zbH (c:=c) (m:=m) (n:=n) h.1 hw;exact zlW (h.2 r hr) ∅ hI ∅ ∅
def zq1{n w:Nat}(hw:w<=16):∀p:T1,p.okR n=AC->∀v∈p.rows w n,isR v
 |.row r,h,v,hv=>by
  erw[T1.rows,AX,Aj,or_false]at hv;subst hv;exact zlW h ∅ ∅ ∅ ∅
 |.rounds c m t ps,h,v,hv=>by
  erw[T1.okR,AH,decide_eq_true_eq,A9]at h;let⟨I,hI,hv⟩:=zdq hv;let⟨p,hp,hv⟩:=HB.1 hv;have:=zbH (c:=c) (m:=m) (n:=n) h.1 hw;exact zq0 hw ∅ p (h.2 p hp) v hv
def zds{α:Type}{f g:α->Nat}:∀l:List α,(∀x∈l,f x<=g x)->(l.map f).sum<=(l.map g).sum
 |[],_=>AR _
 |x::l,h=>by
  have:=h x (by simp);have:=zds l λy hy=>h y (by simp[hy]);erw[AU,GE];lia
def zeq{f:Nat->List PV}{c:Nat}:∀{n:Nat},(∀i,i<n->(f i).length<=c)->(upTo f n).length<=n*c
 |0,_=>by simp[upTo]
 |n+1,h=>by
  have:=zeq (n:=n) λi hi=>h i ∅;have:=h n ∅;rw[upTo,A6,Nat.add_mul];lia
def zfU{α:Type}{f:α->List PV}{g:α->Nat}:∀l:List α,(∀x∈l,(f x).length<=g x)->(l.flatMap f).length<=(l.map g).sum
 |[],_=>by simp
 |x::l,h=>by
  have:=h x (by simp);have:=zfU l λy hy=>h y (by simp[hy]);erw[Ed,A6,AU,GE];lia
def T2.lenB(n:Nat):T2->Nat
 |.row _=>1
 |.rounds c m t rs=>cnt c m t 16 n*rs.length
def T1.lenB(n:Nat):T1->Nat
 |.row _=>1
 |.rounds c m t ps=>cnt c m t 16 n*(ps.map (T2.lenB n)).sum
def zq2{N:Int}{n w I:Nat}(hw:w<=16):∀p:T2,p.okR N n=AC->(p.rows w n I).length<=p.lenB n
 |.row r,_=>by simp[T2.rows,T2.lenB]
 |.rounds c m t rs,h=>by
  erw[T2.okR,AH,decide_eq_true_eq]at h;have h1:=zbH (c:=c) (m:=m) (n:=n) h.1 hw;have h2:=zeq (f:=λJ=>rs.map λr=>r.pv I J n) (c:=rs.length) (n:=cnt c m t w n) λi _=>by simp
  exact As h2 (Ch _ h1)
def zq3{n w:Nat}(hw:w<=16):∀p:T1,p.okR n=AC->(p.rows w n).length<=p.lenB n
 |.row r,_=>by simp[T1.rows,T1.lenB]
 |.rounds c m t ps,h=>by
  erw[T1.okR,AH,decide_eq_true_eq,A9]at h;have h1:=zbH (c:=c) (m:=m) (n:=n) h.1 hw;have h2:=zeq (f:=λI=>yas w n I ps) (c:=(ps.map (T2.lenB n)).sum) (n:=cnt c m t w n) λi _=>zfU ps λp hp=>zq2 hw p (h.2 p hp);exact As h2 (Ch _ h1)
def zqp{n w:Nat}(hw:w<=16):∀p:T1,p.okR n=AC->p.rnd w n<=p.rnd 16 n/\p.ak w n<=p.ak 16 n
 |.row r,_=>⟨AR _,AR _⟩
 |.rounds c m t ps,h=>by
  erw[T1.okR,AH,decide_eq_true_eq,A9]at h;have h1:=zbH (c:=c) (m:=m) (n:=n) h.1 hw;have h2:∀p∈ps,T2.rnd w n p<=T2.rnd 16 n p/\T2.ak w n p<=T2.ak 16 n p:=λp hp=>by
   have h:=h.2 p hp
   cases p with
   |row r=>exact⟨AR _,AR _⟩
   |rounds c m t rs=>
    erw[T2.okR,AH,decide_eq_true_eq]at h;have:=zbH (c:=c) (m:=m) (n:=n) h.1 hw;exact⟨this,Dh this 1⟩
  have h3:=zds ps λp hp=>(h2 p hp).1;have h4:=zds ps λp hp=>(h2 p hp).2;exact⟨An h1 (Fv h3 1),Dh (An h1 (Fv h4 1)) 1⟩
def okN(ps:List T1)(n:Nat):Bool:=ps.all (T1.okR n)&&decide ((ps.map (T1.lenB n)).sum<=4000)&&decide (ybo 16 n ps<=4000)&&decide (ak1 16 n ps<=500000)
def ydJ(ns:List Nat)(d:PV):Bool:=match yc T 18 yhK [d] []with
 | .ok (.tp b vs) []=>(match yaz vs with
  |some ps=>ns.all (okN ps)
  |none=>AB)&&nLs vs&&isOk (yc T 16 yA [.tp b vs] []) (.bl AC)&&isOk (yc T 20 yhL [d] []) (.bl AC)&&shp (.tp b vs)
 |_=>AB
def zq4{ns:List Nat}{pr:Prop}{nm:AL}{xs:List PV}{w n na:Nat}(h:ydJ ns (.tp AB (.str nm::xs))=AC)(hn:n∈ns)(hw:w<=16)(hn2:n<=4)(nl:nLs xs=AC)(hp:pr->yc T 20 yhM [.tp AB (.str nm::xs)] []=.ok (.bl AC) [])
  {qb:Bool} (q3:yw .isin (.str nm) yfb=AA (.bl qb)) (hA:yc T 20 yz [.tp AB (.str nm::xs),.int n] []=.ok (.int na) []):∃rs,rs.length<=4000/\(∀r∈rs,yci r)/\yb6 pr qb (.tp AB (.str nm::xs)) w n na rs:=by
 unfold ydJ at h;split at h
 .rename_i b vs e0;erw[AH]at h;let⟨⟨⟨⟨c1,c2⟩,c3⟩,c4⟩,c5⟩:=h;split at c1
  .rename_i ps e1;have hk:=A9.1 c1 n hn;erw[okN,AH,decide_eq_true_eq,A9]at hk;let⟨⟨⟨k1,k2⟩,k3⟩,k4⟩:=hk;let⟨rs,pv,ok⟩:=zi3 (yP w n ps) λv hv=>by
    let⟨p,hp,hv⟩:=HB.1 hv;exact zq1 hw p (k1 p hp) v hv
   have hl:rs.length<=4000:=by
    have h1:=zfU (f:=T1.rows w n) (g:=T1.lenB n) ps λp hp=>zq3 hw p (k1 p hp);have h2:(yP w n ps).length=rs.length:=by rw[pv,Ap]
    have h1:(yP w n ps).length<=_:=h1;lia
   have hr:ybo w n ps<=4000:=As (zds ps λp hp=>(zqp hw p (k1 p hp)).1) k3;have ha:ak1 w n ps<=500000:=As (zds ps λp hp=>(zqp hw p (k1 p hp)).2) k4;exact⟨rs,hl,ok,zqZ hw hn2 nl (λ_=>ix0) e0 e1 c2 c3 c4 hp pv ok hl hr ha q3 hA⟩
  .cases c1
 .cases h
def sgd(T x:Int):Int:=if T<=2*x then x-T else x
def yem(T s:Int):Bool:=decide (0-T<=2*s)&&decide (2*s<T)
def zkc{c:Cl}{N acc lo:Int}{st:SO}:exs c [AA (.int N),AA (.int acc),AA (.int lo)] st (.cons (.asg (.n 1) (.bin .mul (.cst (.int 2)) (.var 1))) .nil)=.nx [AA (.int N),AA (.int (2*acc)),AA (.int lo)] st:=by
 erw[xs_nil,xs_cons,x_asg,yau,nxO,IC.ve1,IC.ve2,IC.ve3,R.bind,R.fl,yD,yt,binI,yar,toR,BJ,BK,BD,Al];simp
def zle(k n:Nat)(hn:n<1000)(st:SO):yc T (k+1) ykx [.int n] st=.ok (.int (2^n)) st:=by
 let⟨ρ',st',h,u,e1,e2⟩:=zev (call:=yc T k) (t:=.n 2) (b:=.cons (.asg (.n 1) (.bin .mul (.cst (.int 2)) (.var 1))) .nil) (λi ρ st=>∃u,ρ=[AA (.int n),AA (.int (2^i)),u]/\st=[]) (yp n 0 1) 0 [AA (.int n),AA (.int 1),AD] [] ⟨_,rfl,rfl⟩ (by
  rintro j x ρ st hx ⟨u,rfl,rfl⟩
  have hx:∃i,x=.int i:=by
   have:∀(n:Nat) (a d:Int) (j:Nat) x,(yp n a d)[j]?=AA x->∃i,x=.int i:=by
    intro n
    induction n with
    |zero=>intro a d j x h;simp[yp]at h
    |succ n ih=>
     intro a d j x h
     cases j with
     |zero=>simp[yp]at h;exact⟨a,h.symm⟩
     |succ j=>simp[yp]at h;exact ih _ _ _ _ h
   exact this _ _ _ _ _ hx
  let⟨i,rfl⟩:=hx;exact⟨_,_,_,rfl,zkc,_,by rw[CN,Cn],rfl⟩)
 have hl:(yp n 0 1).length=n:=by
  have:∀(n:Nat) (a d:Int),(yp n a d).length=n:=by
   intro n
   induction n with
   |zero=>intro a d;rfl
   |succ n ih=>intro a d;simp[yp,ih]
  exact this _ _ _
 rw[hl,Dx]at e1;subst e1 e2;rw[yc,show T ykx=AA yiu from rfl];erw[yiu,A1,C8,if_true,nLs,nL,GB,AU,BY,Em,AM,Be,CF,xs_cons,xs_nil,x_asg,x_for,x_ret,yau,nxO,IC.ve1,IC.ve2,R.fl,yD,BJ,BK,evi,R.bind,BD,ybJ,toL];erw[show (n:Int).natAbs<1000000000 by lia,if_true,CL,h];simp[nL]
def ybc:Ce:=match yR.body with
 |.cons _ (.cons (.while c _) _)=>c
 |_=>.nope
def ybB:Css:=match yR.body with
 |.cons _ (.cons (.while _ b) _)=>b
 |_=>.nil
def zhj{c:Cl}{n:Nat}{ns:List Int}{a p m t:Int}{f:Bool}{u:Option PV}{st:SO}(h:st[n]?=AA (.lst [.lst (ns.map .int),.int a,.int p,.bl f])):
  ∃B,ev c [AA (.loc n),AA (.int m),AA (.int t),u] st ybc=.ok (.bl B) st/\(B=AC->t<64):=by
 by_cases h1:t<64
 .by_cases h2:p=0
  .refine⟨AC,?_,λ_=>h1⟩;simp! [ybc,yR,R.bind,h,idxV,yaP,at?,ixI,yt,binI,yar,toR,yw,ybp];simp[h1,h2,zdz,peq]
  .have h2:(p==0)=false:=by simp[h2]
   cases f
   .refine⟨AB,?_,λ_=>h1⟩;simp! [ybc,yR,R.bind,h,idxV,yaP,at?,ixI,yt,binI,yar,toR,yw,ybp];simp[h,h1,h2,zdz,peq]
   .refine⟨decide (p<m*4096),?_,λ_=>h1⟩;simp! [ybc,yR,R.bind,h,idxV,yaP,at?,ixI,yt,binI,yar,toR,yw,ybp];simp[h,h1,h2,zdz,peq]
 .refine⟨AB,?_,λz=>by cases z⟩;simp! [ybc,yR,R.bind,h,idxV,yaP,at?,ixI,yt,binI,yar,toR,yw,ybp];simp[h1]
def zhl(k:Nat){n:Nat}{ns:List Int}(hns:ns.length<=1000){a p m t:Int}(ha:0<=a){f:Bool}{u:Option PV}{st:SO}(h:st[n]?=AA (.lst [.lst (ns.map .int),.int a,.int p,.bl f])):
  ∃p' f',exs (yc T (k+2)) [AA (.loc n),AA (.int m),AA (.int t),u] st ybB=.nx [AA (.loc n),AA (.int m),AA (.int (t+1)),u] (st.set n (.lst [.lst (ns.map .int),.int (a+1),.int p',.bl f'])):=by
 let⟨q,g,hq⟩:=fill k n ns hns a p ha f st h;have hm:(1+q%4093).natAbs<18446744073709551616:=by lia
 have hau:∀st,ex (yc T (k+2)) [AA (.loc n),AA (.int m),AA (.int t),u] st (.aug 2 .add (.cst (.int 1)))=.nx [AA (.loc n),AA (.int m),AA (.int (t+1)),u] st:=λst=>by
  rw[zql (x:=.int t) rfl];simp[IC.ve1,R.fl,ybA,yt,binI,nxO]
 cases g
 .refine⟨q,AB,?_⟩;simp! [ybB,yR,hau,yau,nxO,R.fl,R.bind,hq,ybA,yt,binI,Dq,rdS h,idxV,yaP,at?,ixI,yar,toR,yw,ybp,onF,yaD];simp[rdS h]
 .by_cases hl:q<m*4096
  .refine⟨q+m*4096*(1+q%4093),AC,?_⟩;simp! [ybB,yR,hau,yau,nxO,R.fl,R.bind,hq,ybA,yt,binI,Dq,rdS h,idxV,yaP,at?,ixI,yar,toR,yw,ybp,onF,yaD,stO,ybf];simp[rdS h,hl,hm]
  .refine⟨q,AC,?_⟩;simp! [ybB,yR,hau,yau,nxO,R.fl,R.bind,hq,ybA,yt,binI,Dq,rdS h,idxV,yaP,at?,ixI,yar,toR,yw,ybp,onF,yaD];simp[rdS h,hl]
def zeN(k:Nat){n:Nat}{ns:List Int}(hns:ns.length<=1000){m:Int}{u:Option PV}:∀(r N:Nat) (t a p:Int) (f:Bool) (st:SO),r<=N->64-t<=r->0<=a->st[n]?=AA (.lst [.lst (ns.map .int),.int a,.int p,.bl f]) ->
  ∃t' a' p' f',0<=a'/\yaG (yc T (k+2)) ybc ybB (N+1) [AA (.loc n),AA (.int m),AA (.int t),u] st=.nx [AA (.loc n),AA (.int m),AA (.int t'),u] (st.set n (.lst [.lst (ns.map .int),.int a',.int p',.bl f']))
 |r,N,t,a,p,f,st,hN,ht,ha,h=>by
  let⟨B,hB,hb⟩:=zhj (c:=yc T (k+2)) (m:=m) (t:=t) (u:=u) h;have hs:st.set n (.lst [.lst (ns.map .int),.int a,.int p,.bl f])=st:=by
   refine Ec λi=>?_;rw[CM];split
   .rename_i e;subst e;split
    .exact h.symm
    .rename_i z;rw[BN ∅]at h
     cases h
   .rfl
  cases B with
  |false=>exact⟨t,a,p,f,ha,by rw[zfA hB rfl,hs]⟩
  |true=>
   have h64:=hb rfl
   match r,N with
   |0,_=>exact absurd ht ∅
   |r+1,N+1=>
    let⟨p1,f1,hx⟩:=zhl k hns (m:=m) (t:=t) ha (u:=u) h;let⟨t',a',p',f',h0,h2⟩:=zeN k hns (m:=m) (u:=u) r N (t+1) (a+1) p1 f1 _ ∅ ∅ ∅ (rdS h);refine⟨t',a',p',f',h0,?_⟩;rw[zi5 hB rfl hx,h2,Cm]
theorem take(k n:Nat)(ns:List Int)(hns:ns.length<=1000)(a p m:Int)(ha:0<=a)(hm:0<m)(hm2:m<10000000000000000000000000000000000000000000000000000000000000000000000)(f:Bool)(st:SO)(h:st[n]?=AA (.lst [.lst (ns.map .int),.int a,.int p,.bl f])):
  ∃d a' p' f',0<=d/\d<m/\0<=a'/\yc T (k+3) yiA [.loc n,.int m] st=.ok (.int d) (st.set n (.lst [.lst (ns.map .int),.int a',.int p',.bl f'])):=by
 let⟨t',a',p',f',h0,h2⟩:=zeN k hns (m:=m) (u:=AD) 64 99999 0 a p f st ∅ ∅ ha h;refine⟨p'%m,a',p'/m,f',Bt _ ∅,B0 _ hm,h0,?_⟩;have hb:yR.body=.cons (.asg (.n 2) (.cst (.int 0))) (.cons (.while ybc ybB) (.cons (.asg (.n 3) (.bin .mod (.idx (.var 0) (.cst (.int 2))) (.var 1))) (.cons (.six (.var 0) (.cst (.int 2)) (.bin .fdiv (.idx (.var 0) (.cst (.int 2))) (.var 1))) (.cons (.ret (.var 3)) .nil)))):=rfl;have hT:T yiA=AA ⟨2,4,AB,yR.body⟩:=rfl;rw[yc,hT,hb];simp! [zmJ,yau,nxO,stO,R.fl,R.bind,yD,h2,rdS h,idxV,yaP,at?,ixI,yt,binI,hm,hm2,and_self,toR,ybf];simp[rdS h,hm,hm2]
def Drw(ns:List Int)(n:Nat)(st:SO):Prop:=∃a p f,0<=a/\st[n]?=AA (.lst [.lst (ns.map .int),.int a,.int p,.bl f])
def Onl(ns:List Int)(n:Nat)(st st':SO):Prop:=∃a p f,0<=a/\st'=st.set n (.lst [.lst (ns.map .int),.int a,.int p,.bl f])
theorem Onl.drw{ns:List Int}{n:Nat}{st st':SO}(h:Drw ns n st)(o:Onl ns n st st'):Drw ns n st':=by
 let⟨a,p,f,ha,h⟩:=h;let⟨b,q,g,hb,rfl⟩:=o;exact⟨b,q,g,hb,rdS h⟩
theorem Onl.trans{ns:List Int}{n:Nat}{st st1 st2:SO}(o:Onl ns n st st1)(o2:Onl ns n st1 st2):Onl ns n st st2:=by
 let⟨b,q,g,hb,rfl⟩:=o;let⟨c,r,j,hc,rfl⟩:=o2;exact⟨c,r,j,hc,by rw[Cm]⟩
def zfm(k:Nat){n:Nat}{ns:List Int}(hns:ns.length<=1000){m:Int}(hm:0<m)(hm2:m<10000000000000000000000000000000000000000000000000000000000000000000000){st:SO}(h:Drw ns n st):
  ∃d st',0<=d/\d<m/\Onl ns n st st'/\yc T (k+3) yiA [.loc n,.int m] st=.ok (.int d) st':=by
 let⟨a,p,f,ha,h⟩:=h;let⟨d,a',p',f',h1,h2,h3,h4⟩:=take k n ns hns a p m ha hm hm2 f st h;exact⟨d,_,h1,h2,⟨_,_,_,h3,rfl⟩,h4⟩
theorem sizes(k:Nat){n:Nat}{ns:List Int}(hns:ns.length<=1000){m:Int}(hm:0<m)(hm2:m<=100){st:SO}(h:Drw ns n st):
  ∃w z st',4<=w/\w<=16/\1<=z/\z<=m/\Onl ns n st st'/\yc T (k+4) yjc [.loc n,.int m] st=.ok (.tup [.int w,.int z]) st':=by
 let⟨d,s1,d1,d2,o1,e1⟩:=zfm k hns (m:=13) ∅ ∅ h;let⟨e,s2,d3,d4,o2,e2⟩:=zfm k hns (m:=m) hm ∅ (o1.drw h);refine⟨4+d,1+e,s2,by lia,by lia,by lia,by lia,o1.trans o2,?_⟩;have hT:T yjc=AA yit:=rfl;rw[yc,hT];simp! [yit,yau,R.fl,R.bind,e1,e2,yt,binI,toR];simp[sizeMax]
theorem fresh(k:Nat)(ns:List Int)(h:ns.length<=63)(st:SO):∃v,yc T (k+1) yja [.scr (ns.map .int)] st=.ok (.loc st.length) (st++[v])/\v=.lst [.lst (ns.map .int),.int 0,.int 0,.bl AB]:=by
 have hT:T yja=AA yis:=rfl;refine⟨_,?_,rfl⟩;rw[yc,hT];simp! [yis,yau,ev,R.fl,R.bind,toR];have hc:ycB (.scr (ns.map PV.int)) AD (.int 63)=AA (.lst (ns.map .int)):=by
  have hk:ya8 ns.length 63=ns.length:=by
   show min 63 ns.length=ns.length;lia
  simp[ycB,ybX,ycl,cut,ycy,ycQ,hk]
  try rw[<-Ap (f:=PV.int),Gp]
 simp[ybX,onP,hc,sizeMax]
theorem dbl{call:Cl}{i j:Nat}(hij:i≠j):∀(N:Nat) (a:Int) (ρ:IC.Env) (v:Int) (st:SO),ρ[i]?=AA (AA (.int v)) ->
  ∃u,yaW call (.n j) (.cons (.asg (.n i) (.bin .mul (.cst (.int 2)) (.var i))) .nil) (yp N a 1) ρ st=.nx ((ρ.set i (AA (.int (2^N*v)))).set j u) st/\(N=0->ρ[j]?=AA u \/ ρ.length<=j)
 |0,a,ρ,v,st,h=>by
  have hi:ρ.set i (AA (.int v))=ρ:=by
   refine Ec λz=>?_;rw[CM];split
   .rename_i e;subst e;split
    .exact h.symm
    .rw[BN ∅]at h
     cases h
   .rfl
  rcases DQ j ρ.length with hj|hj
  .refine⟨ρ[j],?_,λ_=>.inl (CP hj)⟩;rw[yp,zQ,Ge,Ea,hi,List.set_getElem_self]
  .refine⟨AD,?_,λ_=>.inr hj⟩;rw[yp,zQ,Ge,Ea,hi,List.set_eq_of_length_le hj]
 |N+1,a,ρ,v,st,h=>by
  have h1:(ρ.set j (AA (.int a)))[i]?=AA (AA (.int v)):=by
   rw[AN (Au hij)];exact h
  have hil:i<ρ.length:=by
   rcases DQ i ρ.length with z|z
   .exact z
   .rw[BN z]at h;cases h
  have h2:exs call (ρ.set j (AA (.int a))) st (.cons (.asg (.n i) (.bin .mul (.cst (.int 2)) (.var i))) .nil)=.nx ((ρ.set j (AA (.int a))).set i (AA (.int (2*v)))) st:=by
   erw[xs_nil,xs_cons,x_asg,yau,nxO,IC.ve1,IC.ve2,IC.ve3,R.bind,R.fl,h1,yD,yt,binI,yar,toR];simp
  let⟨u,h3,_⟩:=dbl (call:=call) hij N (a+1) ((ρ.set j (AA (.int a))).set i (AA (.int (2*v)))) (2*v) st (by rw[A5 (by rw[BR];exact hil)]);refine⟨u,?_,λz=>by cases z⟩;rw[yp,zC (ρ1:=ρ.set j (AA (.int a))) rfl,h2];show yaW call _ _ _ _ _=_;rw[h3,Cm,Hi _ _ (Au hij),Cm,CN,Int.mul_assoc]
def zeG(K:Nat):(0:Int)<2^K:=Bj ∅
def yE:Css:=match yO.body with
 |.cons _ (.cons _ (.cons _ r))=>r
 |_=>.nil
def wT2:Css:=match yE with
 |.cons _ (.cons _ (r))=>r
 |_=>.nil
theorem wE2:yE=(match yE with
 |.cons q0 (.cons q1 (_))=>.cons q0 (.cons q1 (wT2))
 |_=>.nil):=rfl
def wT4:Css:=match yE with
 |.cons _ (.cons _ (.cons _ (.cons _ (r))))=>r
 |_=>.nil
theorem wE4:yE=(match yE with
 |.cons q0 (.cons q1 (.cons q2 (.cons q3 (_))))=>.cons q0 (.cons q1 (.cons q2 (.cons q3 (wT4))))
 |_=>.nil):=rfl
def wT5:Css:=match yE with
 |.cons _ (.cons _ (.cons _ (.cons _ (.cons _ (r)))))=>r
 |_=>.nil
theorem wE5:yE=(match yE with
 |.cons q0 (.cons q1 (.cons q2 (.cons q3 (.cons q4 (_)))))=>.cons q0 (.cons q1 (.cons q2 (.cons q3 (.cons q4 (wT5)))))
 |_=>.nil):=rfl
def wT6:Css:=match yE with
 |.cons _ (.cons _ (.cons _ (.cons _ (.cons _ (.cons _ (r))))))=>r
 |_=>.nil
theorem wE6:yE=(match yE with
 |.cons q0 (.cons q1 (.cons q2 (.cons q3 (.cons q4 (.cons q5 (_))))))=>.cons q0 (.cons q1 (.cons q2 (.cons q3 (.cons q4 (.cons q5 (wT6))))))
 |_=>.nil):=rfl
def zgV{c:Cl}{n:Nat}{w z kd m:Int}{u5 u6 u7 u8 u9 u10 u11 u12:Option PV}{st:SO}(h0:0<=kd)(h6:kd<6)(hm:16<=m):
  ∃x,0<=x/\x<m/\exs c [AA (.loc n),AA (.int w),AA (.int z),AA (.int kd),AA (.int m),u5,u6,u7,u8,u9,u10,u11,u12] st yE=.rt (.int x) st:=by
 obtain⟨x,x0,x1,hv⟩:∃x:Int,0<=x/\x<m/\∀st,idxV st (.tup [.int 0,.int 1,.int (m-1),.int (m/2),.int (m/2-1),.int (m-2)]) (.int kd)=AA (.int x):=by
  rcases (by lia:kd=0 \/ kd=1 \/ kd=2 \/ kd=3 \/ kd=4 \/ kd=5)with rfl|rfl|rfl|rfl|rfl|rfl
  .exact⟨0,by lia,by lia,λ_=>rfl⟩
  .exact⟨1,by lia,by lia,λ_=>rfl⟩
  .exact⟨m-1,by lia,by lia,λ_=>rfl⟩
  .exact⟨m/2,by lia,by lia,λ_=>rfl⟩
  .exact⟨m/2-1,by lia,by lia,λ_=>rfl⟩
  .exact⟨m-2,by lia,by lia,λ_=>rfl⟩
 refine⟨x,x0,x1,?_⟩;rw[wE2];erw[yE,yO,A1,C8,Dx,GF,if_true,xs_cons,xs_nil,x_asg,x_ite,x_ret,IC.ve1,IC.ve2,IC.ve3,IC.ve8,IC.ve11,IC.ve16,IC.ve18,evs,BD,Al,bd_ok,fl_ok,toR_some,bT_n,nxO_some,th_nx,th_rt,BJ,BK,t_bl,on_t,sizeMax,HC,b_sub,b_div2,c_lt,c_eq,c_gt,cond_true,cond_false,hv,h6,decide_true]
def zi2(k:Nat){n:Nat}{ns:List Int}(hns:ns.length<=1000){w z kd m:Int}{u5 u6 u7 u8 u9 u10 u11 u12:Option PV}{st:SO}(h:Drw ns n st)(h9:9<kd)(hm:16<=m)(hm2:m<=18446744073709551616):
  ∃x st',0<=x/\x<m/\Onl ns n st st'/\exs (yc T (k+3)) [AA (.loc n),AA (.int w),AA (.int z),AA (.int kd),AA (.int m),u5,u6,u7,u8,u9,u10,u11,u12] st yE=.rt (.int x) st':=by
 let⟨d,s1,d1,d2,o1,e1⟩:=zfm k hns (m:=m) ∅ ∅ h;refine⟨d,s1,d1,d2,o1,?_⟩;have k1:decide (kd<6)=false:=decide_eq_false ∅;have k2:(kd==6)=false:=beq_eq_false_iff_ne.2 ∅;have k3:(kd==7)=false:=beq_eq_false_iff_ne.2 ∅;rw[wE6];erw[yE,yO,A1,C8,Dx,GF,if_true,xs_cons,xs_nil,x_asg,x_ite,x_ret,IC.ve1,IC.ve2,IC.ve3,IC.ve8,IC.ve11,IC.ve16,IC.ve18,evs,BD,Al,bd_ok,fl_ok,toR_some,bT_n,nxO_some,th_nx,th_rt,BJ,BK,t_bl,on_t,sizeMax,HC,b_sub,b_div2,c_lt,c_eq,c_gt,cond_true,cond_false,e1,h9,decide_true,k1,k2,k3]
def zgW(k:Nat){n:Nat}{ns:List Int}(hns:ns.length<=1000){w z kd m:Int}{u5 u6 u7 u8 u9 u10 u11 u12:Option PV}{st:SO}(h:Drw ns n st)(hk:kd=6 \/ kd=7)(hw:4<=w)(hw2:w<=16)(hz:1<=z)(hz2:z<=4)(hm:m=2^(w*z).toNat):
  ∃x st',0<=x/\x<m/\Onl ns n st st'/\exs (yc T (k+3)) [AA (.loc n),AA (.int w),AA (.int z),AA (.int kd),AA (.int m),u5,u6,u7,u8,u9,u10,u11,u12] st yE=.rt (.int x) st':=by
 have hwz:4<=w*z:=by
  have:=EO hw hz ∅ ∅;lia
 have hwz2:w*z<=64:=by
  have:=EO hw2 hz2 ∅ ∅;lia
 have hm1:0<m:=hm ▸ zeG _;have hm2:m<=18446744073709551616:=by
  have h64:(2:Nat)^(w*z).toNat<=2^64:=Ac ∅ ∅;have h65:((2^(w*z).toNat:Nat):Int)=2^(w*z).toNat:=by simp
  rw[hm,<-h65];lia
 let⟨d,s1,d1,d2,o1,e1⟩:=zfm k hns (m:=m) ∅ ∅ h;let⟨e,s2,d3,d4,o2,e2⟩:=zfm k hns (m:=w*z) ∅ ∅ (o1.drw h);have hj:(2:Int)^e.toNat<m:=by
  rw[hm];exact Int.pow_lt_pow_of_lt ∅ ∅
 have hj1:=zeG e.toNat;have hj2:(2:Int)^e.toNat<10000000000000000000000000000000000000000000000000000000000000000000000:=by lia
 have hj3:((2:Int)^e.toNat).natAbs<18446744073709551616:=by lia
 have hj4:(2:Nat)^e.toNat<18446744073709551616:=by
  have h65:((2^e.toNat:Nat):Int)=2^e.toNat:=by simp
  lia
 have hwa:w.natAbs<18446744073709551616:=by lia
 have hea:e.natAbs<1000000000:=by lia
 have hr:ybJ (.int e)=AA (yp e.toNat 0 1):=by erw[ybJ,hea,if_true]
 have q1:=zhp (i:=d) hj1 ∅;have q2:yt .mul (.int (d/2^e.toNat)) (.int (2^e.toNat))=AA (.int (d/2^e.toNat*2^e.toNat)):=zdM hj3;have q3:yt .mul (.int w) (.int z)=AA (.int (w*z)):=zaN hwa
 clear hj2 hj4 hea hwa hj3 hwz hwz2
 rcases hk with rfl|rfl
 .let⟨u,hd,_⟩:=dbl (call:=yc T (k+3)) (i:=8) (j:=5) ∅ e.toNat 0 [AA (.loc n),AA (.int w),AA (.int z),AA (.int 6),AA (.int m),u5,AA (.tup [.int 0,.int 1,.int (m-1),.int (m/2),.int (m/2-1),.int (m-2)]),AA (.int d),AA (.int 1),u9,u10,u11,u12] 1 s2 rfl;refine⟨d/2^e.toNat*2^e.toNat,s2,DR (FU d1 ∅) ∅,Int.lt_of_le_of_lt (Int.ediv_mul_le d ∅) d2,o1.trans o2,?_⟩;have k1:decide ((6:Int)<6)=false:=rfl;have k2:((6:Int)==6)=true:=rfl;rw[Cz]at hd;rw[wE4];generalize wT4=F,(2:Int)^e.toNat=P at *;erw[IC.PV.tup]at hd;simp! [yE,yO,e1,k1,k2,q3,e2,hr,hd,q1,q2]
 .let⟨u,hd,_⟩:=dbl (call:=yc T (k+3)) (i:=8) (j:=5) ∅ e.toNat 0 [AA (.loc n),AA (.int w),AA (.int z),AA (.int 7),AA (.int m),u5,AA (.tup [.int 0,.int 1,.int (m-1),.int (m/2),.int (m/2-1),.int (m-2)]),AA (.int d),AA (.int 1),u9,u10,u11,u12] 1 s2 rfl;refine⟨m-2^e.toNat,s2,by lia,by lia,o1.trans o2,?_⟩;have k1:decide ((7:Int)<6)=false:=rfl;have k2:((7:Int)==6)=false:=rfl;have k3:((7:Int)==7)=true:=rfl;rw[Cz]at hd;rw[wE5];generalize wT5=F,(2:Int)^e.toNat=P at *;erw[IC.PV.tup]at hd;simp! [yE,yO,e1,k1,k2,k3,q3,e2,hr,hd]
theorem Drw.refl{ns:List Int}{n:Nat}{st:SO}(h:Drw ns n st):Onl ns n st st:=by
 let⟨a,p,f,ha,h⟩:=h;exact⟨a,p,f,ha,zjj h⟩
def ybw:Css:=match yE with
 |.cons _ (.cons _ (.cons _ (.cons _ (.cons _ (.cons _ (.cons _ (.cons _ (.cons _ (.cons (.for _ _ b) _)))))))))=>b
 |_=>.nil
def zgM(k:Nat){n:Nat}{ns:List Int}(hns:ns.length<=1000){p1 p2 p3 p4 p6 p8 u11 u12:Option PV}{d W acc a:Int}{st:SO}(h:Drw ns n st)(ha:0<=a)(ha2:a<1000)(hW:4<=W)(hW2:W<18446744073709551616):
  ∃e st' v11 v12,0<=e/\e<W/\Onl ns n st st'/\exs (yc T (k+3)) [AA (.loc n),p1,p2,p3,p4,AA (.int a),p6,AA (.int d),p8,AA (.int W),AA (.int acc),u11,u12] st ybw=.nx [AA (.loc n),p1,p2,p3,p4,AA (.int a),p6,AA (.int d),p8,AA (.int W),AA (.int (acc*W+e)),v11,v12] st':=by
 let⟨t,s1,d1,d2,o1,e1⟩:=zfm k hns (m:=5) ∅ ∅ h;have hW0:0<W:=by lia
 have hWm:W.natAbs<18446744073709551616:=by lia
 have ha3:0<a+1:=by lia
 have ha4:a+1<18446744073709551616*18446744073709551616:=by lia
 have q0:=Bt (d/(a+1)) (show W≠0 by lia);have q1:=B0 (d/(a+1)) hW0;obtain⟨e,x0,x1,hv⟩:∃e:Int,0<=e/\e<W/\∀st,idxV st (.tp AB [.int 0,.int 1,.int (W-1),.int (W/2),.int (d/(a+1)%W)]) (.int t)=AA (.int e):=by
  rcases (by lia:t=0 \/ t=1 \/ t=2 \/ t=3 \/ t=4)with rfl|rfl|rfl|rfl|rfl
  .exact⟨0,by lia,by lia,λ_=>rfl⟩
  .exact⟨1,by lia,by lia,λ_=>rfl⟩
  .exact⟨W-1,by lia,by lia,λ_=>rfl⟩
  .exact⟨W/2,by lia,by lia,λ_=>rfl⟩
  .exact⟨d/(a+1)%W,q0,q1,λ_=>rfl⟩
 refine⟨e,s1,AA (.int (d/(a+1)%W)),AA (.tp AB [.int 0,.int 1,.int (W-1),.int (W/2),.int (d/(a+1)%W)]),x0,x1,o1,?_⟩;simp! [ybw,yE,yO,zhp ha3 ha4,zmM hW0,zdM hWm,e1,hv]
def zea(k:Nat){n:Nat}{ns:List Int}(hns:ns.length<=1000){p1 p2 p3 p4 p6 p8:Option PV}{d W:Int}(hW:4<=W)(hW2:W<18446744073709551616):∀(r i:Nat) (a acc:Int) (u5 u11 u12:Option PV) (st:SO),0<=a->a+r<1000->0<=acc->acc<W^i->Drw ns n st ->
  ∃acc' st' v5 v11 v12,0<=acc'/\acc' < W^(i+r)/\Onl ns n st st'/\yaW (yc T (k+3)) (.n 5) ybw (yp r a 1) [AA (.loc n),p1,p2,p3,p4,u5,p6,AA (.int d),p8,AA (.int W),AA (.int acc),u11,u12] st=.nx [AA (.loc n),p1,p2,p3,p4,v5,p6,AA (.int d),p8,AA (.int W),AA (.int acc'),v11,v12] st'
 |0,i,a,acc,u5,u11,u12,st,_,_,h0,h1,h=>⟨acc,st,u5,u11,u12,h0,h1,h.refl,by rw[yp,zQ]⟩
 |r+1,i,a,acc,u5,u11,u12,st,ha,hr,h0,h1,h=>by
  let⟨e,s1,v11,v12,e0,e1,o1,hs⟩:=zgM k hns (p1:=p1) (p2:=p2) (p3:=p3) (p4:=p4) (p6:=p6) (p8:=p8) (u11:=u11) (u12:=u12) (d:=d) (acc:=acc) h ha ∅ hW hW2;have hb:acc*W+e<W^(i+1):=by
   have:=CW (show acc<=W^i-1 by lia) (show 0<=W by lia);rw[Int.sub_mul,Ea]at this;rw[CN];lia
  have hb0:0<=acc*W:=DR h0 ∅;let⟨acc',s2,w5,w11,w12,f0,f1,o2,hf⟩:=zea k hns (p1:=p1) (p2:=p2) (p3:=p3) (p4:=p4) (p6:=p6) (p8:=p8) (d:=d) hW hW2 r (i+1) (a+1) (acc*W+e) (AA (.int a)) v11 v12 s1 ∅ ∅ ∅ hb (o1.drw h);refine⟨acc',s2,w5,w11,w12,f0,by rw[show i+(r+1)=i+1+r by lia];exact f1,o1.trans o2,?_⟩;rw[yp,zC (ρ1:=[AA (.loc n),p1,p2,p3,p4,AA (.int a),p6,AA (.int d),p8,AA (.int W),AA (.int acc),u11,u12]) rfl,hs];exact hf
def zfF(k:Nat){n:Nat}{ns:List Int}(hns:ns.length<=1000){w z:Nat}{kd m:Int}{u5 u6 u7 u8 u9 u10 u11 u12:Option PV}{st:SO}(h:Drw ns n st)(hk:kd=8 \/ kd=9)(hw:4<=w)(hw2:w<=16)(hz:1<=z)(hz2:z<=4)(hm:m=2^(w*z)):
  ∃x st',0<=x/\x<m/\Onl ns n st st'/\exs (yc T (k+3)) [AA (.loc n),AA (.int w),AA (.int z),AA (.int kd),AA (.int m),u5,u6,u7,u8,u9,u10,u11,u12] st yE=.rt (.int x) st':=by
 have hwz2:w*z<=64:=An hw2 hz2;have hm1:0<m:=hm ▸ zeG _;have hm2:m<=18446744073709551616:=by
  have h64:(2:Nat)^(w*z)<=2^64:=Ac ∅ hwz2;rw[hm,<-pw];lia
 let⟨d,s1,d1,d2,o1,e1⟩:=zfm k hns (m:=m) ∅ ∅ h;have hW4:(4:Int)<=2^w:=by
  have h:(2:Nat)^2<=2^w:=Ac ∅ ∅;have h2:=pw w;lia
 have hWl:(2:Int)^w<18446744073709551616:=by
  have h:(2:Nat)^w<=2^16:=Ac ∅ hw2;have h2:=pw w;lia
 have r1:ybJ (.int (w:Int))=AA (yp w 0 1):=zct w ∅;have r2:ybJ (.int (z:Int))=AA (yp z 0 1):=zct z ∅;have k1:¬kd<6:=by lia
 have k2:(kd==6)=false:=by simp;lia
 have k3:(kd==7)=false:=by simp;lia
 have k4:¬9<kd:=by lia
 let⟨u,hd,_⟩:=dbl (call:=yc T (k+3)) (i:=9) (j:=5) ∅ w 0 [AA (.loc n),AA (.int w),AA (.int z),AA (.int kd),AA (.int m),u5,AA (.tup [.int 0,.int 1,.int (m-1),.int (m/2),.int (m/2-1),.int (m-2)]),AA (.int d),u8,AA (.int 1),u10,u11,u12] 1 s1 rfl;erw[BJ,BK,Cz]at hd;let⟨acc',s2,w5,w11,w12,f0,f1,o2,hf⟩:=zea k hns (p1:=AA (.int w)) (p2:=AA (.int z)) (p3:=AA (.int kd)) (p4:=AA (.int m)) (p6:=AA (.tup [.int 0,.int 1,.int (m-1),.int (m/2),.int (m/2-1),.int (m-2)])) (p8:=u8) (d:=d) (W:=2^w) hW4 hWl z 0 0 0 u u11 u12 s1 ∅ ∅ ∅ (by simp) (o1.drw h);rw[Dx,<-IP,<-hm]at f1;refine⟨acc',s2,f0,f1,o1.trans o2,?_⟩
 have hR:yE=.cons (.asg (.n 6) (.tup (.cons (.cst (.int 0)) (.cons (.cst (.int 1)) (.cons (.bin .sub (.var 4) (.cst (.int 1))) (.cons (.bin .fdiv (.var 4) (.cst (.int 2))) (.cons (.bin .sub (.bin .fdiv (.var 4) (.cst (.int 2))) (.cst (.int 1))) (.cons (.bin .sub (.var 4) (.cst (.int 2))) .nil)))))))) (match yE with
  |.cons _ (.cons a (.cons b (.cons c (.cons d (.cons e (.cons f (.cons g (.cons h (.cons (.for t i _) r)))))))))=>.cons a (.cons b (.cons c (.cons d (.cons e (.cons f (.cons g (.cons h (.cons (.for t i ybw) r))))))))
  |_=>.nil):=rfl
 rw[hR];simp! [yE,yO,r1,r2,k1,k2,k3,k4,decide_false,e1,hd,hf]
theorem worth(k:Nat){n:Nat}{ns:List Int}(hns:ns.length<=1000)(w z:Nat)(hw:4<=w)(hw2:w<=16)(hz:1<=z)(hz2:z<=4){st:SO}(h:Drw ns n st):
  ∃x st',0<=x/\x<2^(w*z)/\Onl ns n st st'/\yc T (k+4) ykw [.loc n,.int w,.int z] st=.ok (.int x) st':=by
 let⟨kd,s1,d1,d2,o1,e1⟩:=zfm k hns (m:=12) ∅ ∅ h;have h1:=o1.drw h;have hwz2:w*z<=64:=An hw2 hz2;have hwz:4<=w*z:=An hw hz;have hm:(16:Int)<=2^(w*z):=by
  have h:(2:Nat)^4<=2^(w*z):=Ac ∅ hwz;have h2:=pw (w*z);lia
 have hm2:(2:Int)^(w*z)<=18446744073709551616:=by
  have h:(2:Nat)^(w*z)<=2^64:=Ac ∅ hwz2;have h2:=pw (w*z);lia
 have hwa:(w:Int).natAbs<18446744073709551616:=by lia
 have hwm:(w:Int)*(z:Int)=((w*z:Nat):Int):=by simp
 have r1:ybJ (.int ((w*z:Nat):Int))=AA (yp (w*z) 0 1):=zct _ ∅;let⟨u,hd,_⟩:=dbl (call:=yc T (k+3)) (i:=4) (j:=5) ∅ (w*z) 0 [AA (.loc n),AA (.int w),AA (.int z),AA (.int kd),AA (.int 1),AD,AD,AD,AD,AD,AD,AD,AD] 1 s1 rfl;erw[BJ,BK,Cz]at hd;have key:∃x st',0<=x/\x<2^(w*z)/\Onl ns n s1 st'/\exs (yc T (k+3)) [AA (.loc n),AA (.int w),AA (.int z),AA (.int kd),AA (.int (2^(w*z))),u,AD,AD,AD,AD,AD,AD,AD] s1 yE=.rt (.int x) st':=by
  rcases (by lia:kd<6 \/ (kd=6 \/ kd=7) \/ (kd=8 \/ kd=9) \/ 9<kd)with q|q|q|q
  .let⟨x,a,b,e⟩:=zgV (c:=yc T (k+3)) (n:=n) (w:=w) (z:=z) (st:=s1) (u5:=u) (u6:=AD) (u7:=AD) (u8:=AD) (u9:=AD) (u10:=AD) (u11:=AD) (u12:=AD) d1 q hm;exact⟨x,s1,a,b,h1.refl,e⟩
  .exact zgW k hns h1 q ∅ ∅ ∅ ∅ (by rw[hwm,CL])
  .exact zfF k hns h1 q hw hw2 hz hz2 rfl
  .exact zi2 k hns h1 q hm hm2
 let⟨x,s2,a,b,o2,e2⟩:=key;refine⟨x,s2,a,b,o1.trans o2,?_⟩;have hT:T ykw=AA ⟨3,13,AB,yO.body⟩:=rfl;have hb:yO.body=.cons (.asg (.n 3) (.call 123 (.cons (.var 0) (.cons (.cst (.int 12)) .nil)))) (.cons (.asg (.n 4) (.cst (.int 1))) (.cons (.for (.n 5) (.range1 (.bin .mul (.var 1) (.var 2))) (.cons (.asg (.n 4) (.bin .mul (.cst (.int 2)) (.var 4))) .nil)) yE)):=rfl;rw[yc,hT,hb];erw[A1,C8,Dx,GF,if_true,Bd,if_false,AU,BY,Em,AM,Be,CF];rw[xs_cons,x_asg];erw[IC.ve18,IC.ve1,IC.ve2,evs,BD,Al,bd_ok,fl_ok,e1,bT_n,nxO_some,th_nx,BJ,BK];rw[xs_cons,x_asg];erw[IC.ve1,bd_ok,fl_ok,bT_n,nxO_some,th_nx,BJ,BK];rw[xs_cons,x_for];erw[evi,IC.ve2,IC.ve3,BD,Al,bd_ok,fl_ok,zaN hwa,hwm,r1,toL,toR_some,hd,th_nx,e2]
def zfH{i:Int}(h:i.natAbs<2^1000):∃y,ybI (.int i)=AA y/\y.length<=2000:=by
 have hl:i.natAbs.log2<1920:=by
  by_cases h0:i.natAbs=0
  .rw[h0];decide
  .exact(IM h0).mpr (A0 h (Ac ∅ ∅))
 refine⟨AE (toString i),by erw[ybI];rw[if_pos hl],?_⟩;rw[PySem.ofString_length];have:=PySem.int_text_length_le (k:=1920) ⋯ hl;lia
def zhW{s:AL}(h:s.length<=2000):∃y,ybI (.str s)=AA y/\y.length<=2000:=⟨s,by erw[ybI];rw[if_pos ∅],h⟩
def ziS:∀(vs:List PV) (out:AL),(∀v∈vs,∃y,ybI v=AA y/\y.length<=2000)->out.length+2000*vs.length<=16777216->∃z,yb7 out vs=AA z
 |[],out,_,h=>⟨out,by rw[yb7,if_pos (by simpa using h)]⟩
 |v::vs,out,hv,h=>by
  let⟨y,e,l⟩:=hv v A8;have hl:(out++y).length=out.length+y.length:=PySem.Str.length_append out y;rw[A1]at h;let⟨z,e2⟩:=ziS vs (out++y) (λu hu=>hv u (AQ _ hu)) ∅;exact⟨z,by rw[yb7,e];show (if _ then _ else _)=_;rw[if_pos ∅];exact e2⟩
def zlX{vs:List PV}(st:SO)(hv:∀v∈vs,∃y,ybI v=AA y/\y.length<=2000)(h:vs.length<=8000):∃z,yc7 (.ok vs st)=.ok (.str z) st:=by
 let⟨z,e⟩:=ziS vs DA hv (by show 0+_<=_;lia);exact⟨z,by erw[yc7,e]⟩
theorem cavR_some{j:Nat}{k:Nat->R PV}:ye2 (AA j) k=k j:=rfl
local macro_rules | `(tactic| simp! [$xs,*])=>do
 let l<-("IC.xs_cons IC.xs_nil IC.x_asg IC.x_ite IC.x_ret IC.x_expr IC.x_for IC.x_six IC.x_try IC.x_raise IC.evs IC.evi IC.ve1 IC.ve2 IC.ve3 IC.ve4 IC.ve5 IC.ve6 IC.ve7 IC.ve8 IC.ve9 IC.ve10 IC.ve11 IC.ve12 IC.ve13 IC.ve15 IC.ve16 IC.ve17 IC.ve18 IC.ve19 IC.ve20 IC.ve21 IC.ve22 IC.ve24 IC.ve25 IC.ve26 IC.ve44 WK.cavR_some IC.ve28 IC.v_comp List.getElem?_cons_zero List.getElem?_cons_succ WK.bd_ok WK.fl_ok WK.bd_exc WK.fl_exc WK.toR_some IC.toL WK.bT_n WK.nxO_some WK.th_nx WK.th_rt WK.th_exc List.set_cons_zero List.set_cons_succ WK.on_t WK.t_bl WK.ono IC.onBl cond_true cond_false List.length_cons List.length_nil Nat.zero_add Nat.reduceAdd Nat.reduceSub Nat.reduceLeDiff if_true IC.nL IC.nLs WK.noLocs_ints Bool.and_self Bool.not_true Bool.not_false List.map_cons List.map_nil List.replicate List.cons_append List.nil_append List.append_nil Option.bind_none Option.bind_some Option.join_some WK.b_add WK.b_sub WK.b_mul2 WK.b_div2 WK.c_lt WK.c_le WK.c_gt WK.c_ge WK.c_eq WK.c_ne IC.PV.tup IC.sizeMax".splitOn " ").toArray.mapM λs=>`(Lean.Parser.Tactic.simpLemma| $(Lean.mkIdent s.toName):term)
 `(tactic| simp only[$l,*,$xs,*])
def zlI{i:Int}{j:Nat}:yt .shr (.int i) (.int (j:Int))=AA (.int (i/2^j)):=by
 erw[yt,binI];rw[if_pos ∅];simp
def zqa{i:Int}{j:Nat}(h:i.natAbs<18446744073709551616)(hj:j<=1000):yt .shl (.int i) (.int (j:Int))=AA (.int (i*2^j)):=by
 have hc:(0:Int)<=j/\(j:Int)<=1000000/\i.natAbs<18446744073709551616:=⟨by lia,by lia,h⟩;show (if (0:Int)<=j/\(j:Int)<=1000000/\i.natAbs<18446744073709551616 then AA (PV.int (i*2^(j:Int).toNat))else AD)=_;rw[if_pos hc];rfl
def zoU(k:Nat){x a b u v r:Int}(hs:a-1=b)(q1:yt .shr (.int x) (.int b)=AA (.int u))(q2:yt .shl (.int u) (.int a)=AA (.int v))(q3:x-v=r)(st:SO):yc T (k+1) y7 [.int x,.int a] st=.ok (.int r) st:=by
 have hT:T y7=AA yh8:=rfl;rw[zc hT rfl rfl rfl];simp! [yh8,hs,q1,q2,q3];rfl
def zn4(k:Nat){s a b h:Int}{f:Bool}(hs:a-1=b)(q1:yt .shl (.int 1) (.int b)=AA (.int h))(q2:(decide (-h<=s)&&decide (s<h))=f)(st:SO):yc T (k+1) yiz [.int s,.int a] st=.ok (.int (bi (!f))) st:=by
 have hT:T yiz=AA yhG:=rfl;rw[zc hT rfl rfl rfl]
 cases e1:decide (-h<=s)with
 |false=>
  rw[e1,HR]at q2;subst q2;simp! [yhG,hs,q1,e1,blO];rfl
 |true=>
  rw[e1,Cv]at q2;subst q2
  cases e2:decide (s<h)<;>simp! [yhG,hs,q1,e1,e2,blO]<;>rfl
def ze5(k:Nat){K:Nat}(hK:1<=K)(hK2:K<=64){x:Int}(x0:0<=x)(x1:x<2^K)(st:SO):yc T (k+1) y7 [.int x,.int K] st=.ok (.int (sgd (2^K) x)) st:=by
 obtain⟨j,rfl⟩:∃j,K=j+1:=⟨K-1,by lia⟩;have p:(0:Int)<2^j:=Bj ∅;have e:(2:Int)^(j+1)=2*2^j:=by rw[CN,Cn]
 have hd:x/2^j=if 2*2^j<=2*x then 1 else 0:=by
  rw[e]at x1;split
  .have h1:1<=x/2^j:=Int.le_ediv_of_mul_le p ∅;have h2:x/2^j<2:=DZ p ∅;lia
  .exact Int.ediv_eq_zero_of_lt x0 ∅
 refine zoU k (b:=(j:Int)) ∅ zlI (zqa (by rw[hd];split<;>lia) ∅) ?_ st;rw[hd,e];unfold sgd;split
 .rw[Ea]
 .lia
def zq5(k:Nat){K:Nat}(hK:1<=K)(hK2:K<=64)(s:Int)(st:SO):yc T (k+1) yiz [.int s,.int K] st=.ok (.int (bi (!yem (2^K) s))) st:=by
 obtain⟨j,rfl⟩:∃j,K=j+1:=⟨K-1,by lia⟩;have e:(2:Int)^(j+1)=2*2^j:=by rw[CN,Cn]
 refine zn4 k (b:=(j:Int)) ∅ (zjN j ∅) ?_ st;unfold yem;rw[e]
 congr 1
 .exact decide_eq_decide.2 ∅
 .exact decide_eq_decide.2 ∅
def zdT{W:Int}(hW:0<W):∀(n:Nat) (v:Int),(yq W (n+1) v)[n]?=AA (v/W^n%W)
 |0,v=>by simp[yq]
 |n+1,v=>by
  rw[yq,Al,zdT hW n,FC ∅,CN,Cn W]
def ziJ(ws:List Int):anyI (ws.map .int)=AA (ws.any (· != 0)):=by
 induction ws with
 |nil=>rfl
 |cons a ws ih=>rw[AU,anyI,ih];rfl
def zme(k:Nat){ws:List Int}{w b l r:Int}(hs:w-1=b)(hi:∀st,idxV st (.tp AB (ws.map .int)) (.int (-1))=AA (.int l))(q:yt .shr (.int l) (.int b)=AA (.int r))(st:SO):yc T (k+1) yix [.tp AB (ws.map .int),.int w] st=.ok (.int r) st:=by
 have hT:T yix=AA yh6:=rfl;rw[zc hT rfl rfl (by simp[nLs,nL,noLocs_ints])];generalize PV.tp AB (ws.map .int)=v at *;simp! [yh6,hi,hs,q];rfl
abbrev dvv(ws us:List Int)(a b c d:Int):PV:=.tp AB [.tp AB (ws.map .int),.tp AB (us.map .int),.tp AB [.int a,.int b,.int c,.int d]]
def zlQ(k:Nat){d:PV}(hd:nL d=AC){s:AL}{w n x y a b c t r z N R:Int}{ws us:List Int}{g:Bool}(i0:∀st,idxV st d (.int 0)=AA (.str s))(c0:yw .eq (.str s) (.str "compare")=AA (.bl AB))(E0:∀st,yc T k yl [d,.int w,.int n,.int x,.int y] st=.ok .non st)(E1:∀st,yc T k yiy [d,.int w,.int n,.int x,.int y] st=.ok (.tp AB [.int a,.int b,.int c]) st)
  (E2:∀st,yc T k yz [d,.int n] st=.ok (.int N) st) (E3:∀st,yc T k yy [.int a,.int w,.int N] st=.ok (.tp AB (ws.map .int)) st) (m1:yt .mul (.int y) (.int a)=AA (.int t)) (E4:∀st,yc T k yhN [d,.int n] st=.ok (.int R) st) (E5:∀st,yc T k yy [.int (x-t),.int w,.int R] st=.ok (.tp AB (us.map .int)) st)
  (E6:∀st,yam .any st [.tp AB (ws.map .int)]=AA (.bl g)) (hz:(bif g then(0:Int)else 1)=z) (E7:∀st,yc T k yix [.tp AB (ws.map .int),.int w] st=.ok (.int r) st) (st:SO):
  yc T (k+1) yeu [d,.int w,.int n,.int x,.int y] st=.ok (dvv ws us b c z r) st:=by
 have hT:T yeu=AA ⟨5,10,AC,yax.body⟩:=rfl;have bt:∀(a b c:PV) (ρ:IC.Env),yD (.t [5,6,7]) (.tp AB [a,b,c]) ρ=AA (((ρ.set 5 (AA a)).set 6 (AA b)).set 7 (AA c)):=λ_ _ _ _=>rfl;rw[zc hT rfl rfl (by simp[nLs,nL,hd])];dsimp only;have nl:nL (.tp AB (ws.map .int))=true:=by simp[nL,noLocs_ints]
 have nl2:nL (.tp AB (us.map .int))=true:=by simp[nL,noLocs_ints]
 unfold dvv;generalize PV.tp AB (ws.map .int)=A,PV.tp AB (us.map .int)=B at *
 cases g<;>subst hz<;>simp! [yax,E0,i0,c0,E1,bt,E2,E3,m1,E4,E5,E6,E7]<;>simp[ybj,nL,nLs,nl,nl2]
def ydf(x:Int):Int:=if x<0 then -x else x
def znU(k:Nat){x y K X Y A B q Q o:Int}{b:Bool}(e1:∀st,yc T k y7 [.int x,.int K] st=.ok (.int X) st)(e2:∀st,yc T k y7 [.int y,.int K] st=.ok (.int Y) st)(hA:ydf X=A)(hB:ydf Y=B)(q1:yt .fdiv (.int A) (.int B)=AA (.int q))(hb:(decide (X<0) != decide (Y<0))=b)(hQ:(if b=AC then 0-q else q)=Q)(e3:∀st,yc T k yiz [.int Q,.int K] st=.ok (.int o) st)(st:SO):yc T (k+1) yiT [.int x,.int y,.int K] st=.ok (.tp AB [.int Q,.int 0,.int o]) st:=by
 have hT:T yiT=AA y4:=rfl;have a1:∀st,yam .abs st [.int X]=AA (.int A):=λst=>by rw[<-hA];rfl
 have a2:∀st,yam .abs st [.int Y]=AA (.int B):=λst=>by rw[<-hB];rfl
 have c1:yw .ne (.bl (decide (X<0))) (.bl (decide (Y<0)))=AA (.bl b):=by
  rw[<-hb];cases decide (X<0)<;>cases decide (Y<0)<;>rfl
 have bt:∀(a b:PV) (ρ:IC.Env),yD (.t [3,4]) (.tp AB [a,b]) ρ=AA ((ρ.set 3 (AA a)).set 4 (AA b)):=λ_ _ _=>rfl;rw[zc hT rfl rfl rfl]
 cases b
 .have hQ:q=Q:=hQ;subst hQ;simp! [y4,e1,e2,bt,a1,a2,q1,c1,e3];rfl
 .have hQ:0-q=Q:=hQ;have n1:-q=Q:=by lia
  simp! [y4,e1,e2,bt,a1,a2,q1,c1,n1,e3];rfl
def zi6(k:Nat){w m:Nat}(hw:1<=w)(v:Int):∃r:Int,∀st,yc T (k+1) yix [.tp AB ((yq (2^w) (m+1) v).map .int),.int w] st=.ok (.int r) st:=by
 obtain⟨j,rfl⟩:∃j,w=j+1:=⟨w-1,by lia⟩;have hW:(0:Int)<2^(j+1):=Bj ∅;have hl:=zdT hW m v;have hi:∀st,idxV st (.tp AB ((yq (2^(j+1)) (m+1) v).map .int)) (.int (-1))=AA (.int (v/(2^(j+1):Int)^m%2^(j+1))):=λst=>by
  have hlen:=zaV (2^(j+1)) (m+1) v;erw[idxV,yaP,at?,ixI,Ap,hlen];rw[if_neg ∅,if_pos ∅];rw[show ((-1:Int)+((m+1:Nat):Int)).toNat=m by lia];simp[hl]
 exact⟨_,zme k (b:=(j:Int)) ∅ hi zlI⟩
theorem upL{k:Nat}{f:Nat}{fn:IC.Fn}{args:List PV}{v:PV}(a:T f=AA fn)(b:fn.pure=AC)(c:args.length=fn.np)(d:nLs args=AC)(e:yc T 20 f args []=.ok v [])(s:SO):yc T (21+k) f args s=.ok v s:=by
 have:=zN e (1+k);rw[show 20+(1+k)=20+k+1 by lia]at this;rw[show 21+k=20+k+1 by lia];exact zbV a b c d this s
def zq6(k:Nat){pr:Prop}{q:Bool}{d:PV}{nm:AL}{w n m:Nat}{rs:List Rw}(D:yb6 pr q d w n (m+1) rs)(i0:∀st,idxV st d (.int 0)=AA (.str nm))(c0:yw .eq (.str nm) (.str "compare")=AA (.bl AB))(hw:1<=w)(hw2:w<=16)(hn2:n<=4)(hm:m+1<=8){x y:Int}(x0:0<=x)(x1:x<2^(w*n))(y0:0<=y)(y1:y<2^(w*n))(hp:y≠0->pr)(hq:y=0->q=AB){a b c:Int}
  (E1:∀t,yc T (21+k) yiy [d,.int w,.int n,.int x,.int y] t=.ok (.tp AB [.int a,.int b,.int c]) t):∃v1 v2 v3,∀st,yc T (22+k) yeu [d,.int w,.int n,.int x,.int y] st=.ok (.tp AB [v1,v2,v3]) st:=by
 have hK2:w*n<=64:=An hw2 hn2;have hp64:(2:Int)^(w*n)<=2^64:=by
  have hh:(2:Nat)^(w*n)<=2^64:=Ac ∅ hK2;have h2:=pw (w*n);lia
 have E0:=λt=>zdi k D hw2 ∅ x0 x1 y0 y1 hp hq t;have nl2:nLs [d,.int (n:Int)]=true:=by simp[nLs,D.nl,nL]
 have E2:=λs=>upL (k:=k) (f:=yz) (fn:=yB) rfl rfl rfl nl2 D.ans s;have E4:=λs=>upL (k:=k) (f:=yhN) (fn:=yhw) rfl rfl rfl nl2 D.rest s;obtain⟨R,hR8,hR⟩:∃R:Nat,R<=8/\(if q=AC then n else 0)=R:=⟨_,by split<;>lia,rfl⟩;rw[hR]at E4;have E3:∀t,yc T (21+k) yy [.int a,.int w,.int ((m+1:Nat):Int)] t=.ok (.tp AB ((yq (2^w) (m+1) a).map .int)) t:=λt=>by
  rw[show 21+k=20+k+1 by lia];exact lowest (20+k) _ w (m+1) hw2 hm t
 have E5:∀t,yc T (21+k) yy [.int (x-y*a),.int w,.int (R:Int)] t=.ok (.tp AB ((yq (2^w) R (x-y*a)).map .int)) t:=λt=>by
  rw[show 21+k=20+k+1 by lia];exact lowest (20+k) _ w R hw2 hR8 t
 have m1:yt .mul (.int y) (.int a)=AA (.int (y*a)):=zaN ∅;have E6:∀t,yam .any t [.tp AB ((yq (2^w) (m+1) a).map .int)]=AA (.bl ((yq (2^w) (m+1) a).any (· != 0))):=λt=>by
  show (anyI _).map PV.bl=_;rw[ziJ];rfl
 let⟨r,E7⟩:=zi6 (20+k) (w:=w) (m:=m) hw a;rw[show 20+k+1=21+k by lia]at E7;have e:22+k=21+k+1:=by lia
 have h:=λst=>zlQ (21+k) D.nl i0 c0 E0 E1 E2 E3 m1 E4 E5 E6 rfl E7 st;rw[e];exact⟨_,_,_,h⟩
def zq7(k:Nat){pr:Prop}{q:Bool}{d:PV}{w n na:Nat}{rs:List Rw}(D:yb6 pr q d w n na rs)(ok:∀r∈rs,yci r)(hrs:rs.length<=4000)(hw:1<=w)(hw2:w<=16)(hn2:n<=4)(hna:na<=8){x y:Int}(x0:0<=x)(x1:x<2^(w*n))(y0:0<=y)(y1:y<2^(w*n))(hp:y≠0->pr)(hq:y=0->q=AB):∃v1 v2 v3,∀st,yc T (22+k) yes [d,.int w,.int n,.int x,.int y] st=.ok (.tp AB [v1,v2,v3]) st:=
 have bg:=zjd (w:=w) hw n x y
 ⟨_,_,_,λst=>ran k D hw2 hw hn2 hna ∅ x0 x1 y0 y1 hp hq (zgu hw hw2 _ _ _ (λr hr=>zpA r (ok r hr)) bg) st⟩
def zgb(k:Nat)(V:Int)(w n:Nat)(hw2:w<=16)(hn:n<=8)(hV:¬(0<=V/\V<2^(w*n)))(hb:V.natAbs<2^1000)(st:SO):yc T (k+1) ym [.int V,.int w,.int n] st=.exc 0 st:=by
 have hT:T ym=AA ygq:=rfl;have hwi:w*n<=16*8:=An hw2 hn;have m1:=zec w n ∅;have s1:=zjN (w*n) ∅;let⟨z,hz⟩:=zlX [] (vs:=[.int V,.str " is no plain worth of ",.int n,.str " words of width ",.int w]) (λv hv=>by
  erw[AX,Aj,or_false]at hv;rcases hv with rfl|rfl|rfl|rfl|rfl
  .exact zfH hb
  .exact zhW (by decide +kernel)
  .exact zfH (A0 (show (n:Int).natAbs<2^10 by lia) (Ac ∅ ∅))
  .exact zhW (by decide +kernel)
  .exact zfH (A0 (show (w:Int).natAbs<2^10 by lia) (Ac ∅ ∅))) (by simp)
 rw[zc hT rfl rfl rfl]
 by_cases h:V<0
 .have c1:=decide_eq_true h;simp! [ygq,c1,hz];rfl
 .have h2:(2:Int)^(w*n)<=V:=by lia
  have c1:=decide_eq_false h;have c2:=decide_eq_true h2;generalize ((w*n:Nat):Int)=K,(2:Int)^(w*n)=P at *;simp! [ygq,m1,s1,c1,c2,hz];rfl
def zpE(k:Nat){d w n x y:PV}(hl:nLs [d,w,n,x,y]=AC)(h:yc T 20 yhL [d] []=.ok (.bl AB) [])(st:SO):yc T (21+k) yl [d,w,n,x,y] st=.exc 6 st:=by
 have hT:T yl=AA yk:=rfl;have e1:=zN h k;rw[show 21+k=20+k+1 by lia,zc hT rfl rfl hl];simp! [yk,e1];rfl
def zl9(k:Nat){pr:Prop}{q:Bool}{d:PV}{w n na:Nat}{rs:List Rw}(D:yb6 pr q d w n na rs)(hw:w<=16)(hn:n<=8){x y:Int}(h:¬(0<=x/\x<2^(w*n)) \/ ¬(0<=y/\y<2^(w*n)))(hx:x.natAbs<2^1000)(hy:y.natAbs<2^1000)(st:SO):yc T (21+k) yl [d,.int w,.int n,.int x,.int y] st=.exc 0 st:=by
 have hT:T yl=AA yk:=rfl;have hnl:nLs [d,.int w,.int n,.int x,.int y]=true:=by simp[nLs,D.nl,nL]
 have e1:=zN D.isd k;rw[show 21+k=20+k+1 by lia,zc hT rfl rfl hnl]
 by_cases g:0<=x/\x<2^(w*n)
 .have h:¬(0<=y/\y<2^(w*n)):=h.elim (λz=>absurd g z) id;have e3:∀s,yc T (20+k) ym [.int x,.int w,.int n] s=.ok (.tp AB ((yq (2^w) n x).map .int)) s:=λs=>by rw[show 20+k=18+k+2 by lia];exact zcp (18+k) x w n hw hn g.1 g.2 s
  have e4:∀s,yc T (20+k) ym [.int y,.int w,.int n] s=.exc 0 s:=λs=>by rw[show 20+k=19+k+1 by lia];exact zgb (19+k) y w n hw hn h hy s
  generalize yq (2^w) n x=xs at *;simp! [yk,e1,e3,e4];rfl
 .have e3:∀s,yc T (20+k) ym [.int x,.int w,.int n] s=.exc 0 s:=λs=>by rw[show 20+k=19+k+1 by lia];exact zgb (19+k) x w n hw hn g hx s
  simp! [yk,e1,e3];rfl
def zmh(k:Nat){pr:Prop}{d:PV}{w n na:Nat}{rs:List Rw}(D:yb6 pr AC d w n na rs)(hw:w<=16)(hn:n<=8){x:Int}(x0:0<=x)(x1:x<2^(w*n))(st:SO):yc T (21+k) yl [d,.int w,.int n,.int x,.int 0] st=.exc 7 st:=by
 have hT:T yl=AA yk:=rfl;have hnl:nLs [d,.int w,.int n,.int x,.int 0]=true:=by simp[nLs,D.nl,nL]
 have e1:=zN D.isd k;have hp0:(0:Int)<2^(w*n):=Bj ⋯;have e3:∀s,yc T (20+k) ym [.int x,.int w,.int n] s=.ok (.tp AB ((yq (2^w) n x).map .int)) s:=λs=>by rw[show 20+k=18+k+2 by lia];exact zcp (18+k) x w n hw hn x0 x1 s
 have e4:∀s,yc T (20+k) ym [.int 0,.int w,.int n] s=.ok (.tp AB ((yq (2^w) n 0).map .int)) s:=λs=>by rw[show 20+k=18+k+2 by lia];exact zcp (18+k) 0 w n hw hn ∅ hp0 s
 rw[show 21+k=20+k+1 by lia,zc hT rfl rfl hnl];have q:=D.quo [];have hy:((0:Int)==0)=true:=rfl
 cases hi:idxV [] d (.int 0)with
 |none=>rw[hi]at q;cases q
 |some v=>
  rw[hi,BB]at q;generalize yq (2^w) n x=xs,yq (2^w) n 0=ys at *;simp! [yk,e1,e3,e4,hy,hi,q];rfl
def zl7(k:Nat){d w n x y:PV}{c:Nat}(hl:nLs [d,w,n,x,y]=AC)(E:∀st,yc T k yl [d,w,n,x,y] st=.exc c st)(st:SO):yc T (k+1) yeu [d,w,n,x,y] st=.exc c st:=by
 have hT:T yeu=AA ⟨5,10,AC,yax.body⟩:=rfl;rw[zc hT rfl rfl hl];dsimp only;simp! [yax,E];rfl
def zmZ(k:Nat){d w n x y:PV}{c:Nat}(hl:nLs [d,w,n,x,y]=AC)(E:∀st,yc T k yl [d,w,n,x,y] st=.exc c st)(st:SO):yc T (k+1) yes [d,w,n,x,y] st=.exc c st:=by
 have hT:T yes=AA ⟨5,7,AC,ybz.body⟩:=rfl;rw[zc hT rfl rfl hl];dsimp only;simp! [ybz,E];rfl
def zgY(k:Nat){j:Nat}(hj:yb0 ydR (AA (AA (.fnc j)))=AA j){d w n x y v1 v2 v3:PV}(hl:nLs [.fnc j,d,w,n,x,y]=AC)(E:∀st,yc T k j [d,w,n,x,y] st=.ok (.tp AB [v1,v2,v3]) st)(st:SO):yc T (k+1) ydM [.fnc j,d,w,n,x,y] st=.ok (.str "told") st:=by
 have hT:T ydM=AA ⟨6,9,AC,yaj.body⟩:=rfl;have e1:yaR (.tp AB [v1,v2,v3]) [.tuple]=AA (.bl AC):=rfl;have e2:∀st,yam .len st [.tp AB [v1,v2,v3]]=AA (.int 3):=λ_=>rfl;have b3:((3:Int) != 3)=false:=rfl;rw[zc hT rfl rfl hl];dsimp only;generalize PV.tp AB [v1,v2,v3]=v at *;simp! [yaj,hj,E,yeL,e1,e2,b3];rfl
def zhV(k:Nat){j c:Nat}{s:AL}{s':SO}(hj:yb0 ydR (AA (AA (.fnc j)))=AA j){d w n x y:PV}(hl:nLs [.fnc j,d,w,n,x,y]=AC)(E:∀st,yc T (k+1) j [d,w,n,x,y] st=.exc c st)(hc:([0,6,7]:List Nat).contains c=AC)(hk:yc T 1 yhP [.exn c] []=.ok (.str s) s')(st:SO):yc T (k+2) ydM [.fnc j,d,w,n,x,y] st=.ok (.str s) st:=by
 have hT:T ydM=AA ⟨6,9,AC,yaj.body⟩:=rfl;have hk:=zN hk k;rw[Hz]at hk;rw[zc hT rfl rfl hl];dsimp only;simp! [yaj,hj,E,yeL,hc,hk,yfp,yaZ,IC.ve35];rfl
def gN:Bool->Bool->AL
 |false,AB=>AE "product"
 |false,AC=>AE "signed product"
 |true,AB=>AE "quotient"
 |true,AC=>AE "signed quotient"
abbrev dG(q s:Bool):PV:=.tp AB [.str (gN q s)]
def zq8:([AB,AC].all λq=>[AB,AC].all λs=>ydJ [1,2,3,4] (dG q s))=true:=by decide +kernel
def zq9(q s:Bool){w n:Nat}(hw2:w<=16)(hn:1<=n)(hn2:n<=4):∃m rs,m+1<=8/\rs.length<=4000/\(∀r∈rs,yci r)/\yb6 (yc T 20 yhM [dG q s] []=.ok (.bl AC) []) q (dG q s) w n (m+1) rs:=by
 have h:ydJ [1,2,3,4] (dG q s)=true:=by
  have h:=A9.1 zq8 q (by cases q<;>simp);exact A9.1 h s (by cases s<;>simp)
 have q1:yw .eq (.str (gN q s)) (.str "compare")=AA (.bl AB):=by cases q<;>cases s<;>ac_rfl
 have q2:yw .eq (.str (gN q s)) (.str "led")=AA (.bl AB):=by cases q<;>cases s<;>ac_rfl
 have q3:yw .isin (.str (gN q s)) yfb=AA (.bl q):=by cases q<;>cases s<;>ac_rfl
 have q4:yw .isin (.str (gN q s)) yhV=AA (.bl (!q)):=by cases q<;>cases s<;>ac_rfl
 have hA:=aw (xs:=[]) (n:=n) rfl (λ_=>ix0) q1 q2 q4;obtain⟨m,hm⟩:∃m,(if (!q)=AC then 2*n else n)=m+1:=⟨(if (!q)=AC then 2*n else n)-1,by split<;>lia⟩;have hm8:m+1<=8:=by rw[<-hm];split<;>lia
 rw[hm]at hA;let⟨rs,hl,ok,D⟩:=zq4 (w:=w) h (by erw[AX,Aj,or_false];lia) hw2 hn2 rfl id q3 hA;exact⟨m,rs,hm8,hl,ok,D⟩
theorem gP(q s:Bool):yc T 20 yhM [dG q s] []=.ok (.bl AC) []:=by
 cases q<;>cases s<;>exact zcA (by decide +kernel)
def zra(k:Nat)(q s:Bool){w n:Nat}(hw:4<=w)(hw2:w<=16)(hn:1<=n)(hn2:n<=4){x y:Int}(x0:0<=x)(x1:x<2^(w*n))(y0:0<=y)(y1:y<2^(w*n))(hq:y=0->q=AB):∃a b c:Int,∀t,yc T (21+k) yiy [dG q s,.int w,.int n,.int x,.int y] t=.ok (.tp AB [.int a,.int b,.int c]) t:=by
 have hK:1<=w*n:=by have:=An hw hn;lia
 have hK2:w*n<=64:=An hw2 hn2;have hp64:(2:Int)^(w*n)<=2^64:=by
  have hh:(2:Nat)^(w*n)<=2^64:=Ac ∅ hK2;have h2:=pw (w*n);lia
 have sw:=λ(z:Int) z0 z1 t=>ze5 (18+k) hK hK2 (x:=z) z0 z1 t;have uf:=λz t=>zq5 (18+k) hK hK2 z t;rw[show 18+k+1=19+k by lia]at sw uf;obtain⟨f,a,b,c,hf,ef⟩:∃f,∃a b c:Int,mkV yiD AC (.str (gN q s))=AA f/\∀t,yc T (19+k+1) f [.int x,.int y,.int ((w*n:Nat):Int)] t=.ok (.tp AB [.int a,.int b,.int c]) t:=by
  cases q<;>cases s
  .have m1:yt .mul (.int x) (.int y)=AA (.int (x*y)):=zaN ∅;have s1:yt .shr (.int (x*y)) (.int ((w*n:Nat):Int))=AA (.int (x*y/2^(w*n))):=zlI;have hT:T ykq=AA yh9:=rfl;refine⟨ykq,x*y,0,bif (x*y/2^(w*n)==0)then 0 else 1,by ac_rfl,λt=>?_⟩;rw[zc hT rfl rfl rfl];generalize ((w*n:Nat):Int)=K,x*y/2^(w*n)=Q at *
   cases hb:(Q==0)<;>simp! [yh9,m1,s1,hb]<;>rfl
  .have hT:T ykr=AA yia:=rfl;have e1:=sw x x0 x1;have e2:=sw y y0 y1;have hb2:(sgd (2^(w*n)) x).natAbs<18446744073709551616:=by unfold sgd;split<;>lia
   have m1:yt .mul (.int (sgd (2^(w*n)) x)) (.int (sgd (2^(w*n)) y))=AA (.int _):=zaN hb2;have e3:=uf (sgd (2^(w*n)) x*sgd (2^(w*n)) y);refine⟨ykr,sgd (2^(w*n)) x*sgd (2^(w*n)) y,0,bi (!yem (2^(w*n)) (sgd (2^(w*n)) x*sgd (2^(w*n)) y)),by ac_rfl,λt=>?_⟩;rw[zc hT rfl rfl rfl];generalize sgd (2^(w*n)) x*sgd (2^(w*n)) y=Z at *;generalize sgd (2^(w*n)) x=X,sgd (2^(w*n)) y=Y,((w*n:Nat):Int)=K at *;simp! [yia,e1,e2,m1,e3];rfl
  .have hT:T yks=AA yib:=rfl;have y2:0<y:=by
    by_cases h:y=0
    .exact absurd (hq h) ⋯
    .lia
   have d1:yt .fdiv (.int x) (.int y)=AA (.int (x/y)):=zhp y2 ∅;refine⟨yks,x/y,0,0,by ac_rfl,λt=>?_⟩;rw[zc hT rfl rfl rfl];generalize x/y=Q,((w*n:Nat):Int)=K at *;simp! [yib,d1];rfl
  .have y2:0<y:=by
    by_cases h:y=0
    .exact absurd (hq h) ⋯
    .lia
   have hb0:0<ydf (sgd (2^(w*n)) y)/\ydf (sgd (2^(w*n)) y)<=2^(w*n):=by unfold ydf sgd;split<;>split<;>lia
   exact⟨yiT,_,0,_,by ac_rfl,λt=>znU (19+k) (sw x x0 x1) (sw y y0 y1) rfl rfl (zhp hb0.1 ∅) rfl rfl (uf _) t⟩
 refine⟨a,b,c,λt=>?_⟩;have hT:T yiy=AA ⟨5,6,AC,yak.body⟩:=rfl;have i0:∀st,idxV st (dG q s) (.int 0)=AA (.str (gN q s)):=λ_=>ix0;have hl:decide (5<6)=true:=rfl;have c1:yw .eq (.str (gN q s)) (.str "led")=AA (.bl AB):=by cases q<;>cases s<;>ac_rfl
 have c2:yw .isin (.str (gN q s)) yhD=AA (.bl AB):=by cases q<;>cases s<;>ac_rfl
 have m1:=zec w n ∅;rw[show 21+k=19+k+1+1 by lia,zc hT rfl rfl rfl];dsimp only;generalize dG q s=d,((w*n:Nat):Int)=K at *;simp! [yak,i0,c1,c2,znI,hl,hf,yel,m1,ef];rfl
def zfO(k:Nat){d:PV}{w n:Nat}(hw:w<=16)(hn:n<=4){x y:Int}(hd:nL d=AC){b0 b1 b2 b3 b4 b5 b6:Bool}(q0:∀st,ybW st d (.tp AB [dG AB AB,dG AB AC,dG AC AB,dG AC AC])=AA (.bl b0))(q1:decide (0<=x)=b1)(q2:decide (x<2^(w*n))=b2)(q3:decide (0<=y)=b3)(q4:decide (y<2^(w*n))=b4)(q5:(y==0)=b5)(q6:∀st,ybZ st d (.tp AB [dG AC AB,dG AC AC])=AA (.bl b6))(st:SO):
  yc T (k+2) yhQ [d,.int w,.int n,.int x,.int y] st=.ok (.str (bif b0 then AE "deed" else bif !(b1&&b2) || !(b3&&b4)then AE "fit" else bif b5&&b6 then AE "quotient" else AE "told")) st:=by
 have hT:T yhQ=AA ⟨5,6,AC,yap.body⟩:=rfl;have hK:w*n<=64:=An hw hn;have m1:=zec w n ∅;have e1:=λt=>zle k (w*n) ∅ t;rw[zc hT rfl rfl (by simp[nLs,nL,hd])];dsimp only;unfold dG gN at q0 q6;generalize ((w*n:Nat):Int)=K,(2:Int)^(w*n)=P at *
 cases b0
 case true=>simp! [yap,IC.ve31,IC.ve36,m1,e1,q0];rfl
 case false=>
  cases b1
  case false=>simp! [yap,IC.ve31,IC.ve36,m1,e1,q0,q1,q2,blO];rfl
  case true=>
   cases b2
   case false=>simp! [yap,IC.ve31,IC.ve36,m1,e1,q0,q1,q2,blO];rfl
   case true=>
    cases b3
    case false=>simp! [yap,IC.ve31,IC.ve36,m1,e1,q0,q1,q2,q3,q4,blO];rfl
    case true=>
     cases b4
     case false=>simp! [yap,IC.ve31,IC.ve36,m1,e1,q0,q1,q2,q3,q4,blO];rfl
     case true=>
      cases b5
      case false=>simp! [yap,IC.ve31,IC.ve36,m1,e1,q0,q1,q2,q3,q4,q5,blO];rfl
      case true=>cases b6<;>simp! [yap,IC.ve31,IC.ve36,m1,e1,q0,q1,q2,q3,q4,q5,q6,blO]<;>rfl
def okJ(j:Nat):Prop:=j=yeu \/ j=yes
def zkX{j:Nat}(h:okJ j):yb0 ydR (AA (AA (.fnc j)))=AA j:=by
 rcases h with rfl|rfl<;>decide +kernel
theorem kd0:∃s',yc T 1 yhP [.exn 0] []=.ok (.str "fit") s':=⟨_,by ac_rfl⟩
theorem kd6:∃s',yc T 1 yhP [.exn 6] []=.ok (.str "deed") s':=⟨_,by ac_rfl⟩
theorem kd7:∃s',yc T 1 yhP [.exn 7] []=.ok (.str "quotient") s':=⟨_,by ac_rfl⟩
def zfW{j c:Nat}{s:AL}(hj:okJ j){d w n x y:PV}(hl:nLs [d,w,n,x,y]=AC)(E:∀st,yc T (21+1) yl [d,w,n,x,y] st=.exc c st)(hc:([0,6,7]:List Nat).contains c=AC)(hk:∃s',yc T 1 yhP [.exn c] []=.ok (.str s) s')(st:SO):yc T 24 ydM [.fnc j,d,w,n,x,y] st=.ok (.str s) st:=by
 let⟨s',hk⟩:=hk;refine zhV 22 (zkX hj) (by simpa [nLs,nL] using hl) (λst=>?_) hc hk st;rcases hj with rfl|rfl
 .exact zl7 22 hl E st
 .exact zmZ 22 hl E st
theorem good(q s:Bool){w n:Nat}(hw:4<=w)(hw2:w<=16)(hn:1<=n)(hn2:n<=4){x y:Int}(hx:x.natAbs<2^1000)(hy:y.natAbs<2^1000):∃r:AL,(∀st,yc T 24 yhQ [dG q s,.int w,.int n,.int x,.int y] st=.ok (.str r) st)/\(r=AE "told" \/ r=AE "fit" \/ r=AE "quotient" \/ r=AE "deed")/\∀j,okJ j->∀st,yc T 24 ydM [.fnc j,dG q s,.int w,.int n,.int x,.int y] st=.ok (.str r) st:=by
 let⟨m,rs,hm,hl,ok,D⟩:=zq9 q s (w:=w) (n:=n) hw2 hn hn2;have q0:∀st,ybW st (dG q s) (.tp AB [dG AB AB,dG AB AC,dG AC AB,dG AC AC])=AA (.bl AB):=λ_=>by cases q<;>cases s<;>ac_rfl
 have q6:∀st,ybZ st (dG q s) (.tp AB [dG AC AB,dG AC AC])=AA (.bl q):=λ_=>by cases q<;>cases s<;>ac_rfl
 have du:=λst=>zfO 22 hw2 hn2 (x:=x) (y:=y) (d:=dG q s) rfl q0 rfl rfl rfl rfl rfl q6 st
 by_cases hf:¬(0<=x/\x<2^(w*n)) \/ ¬(0<=y/\y<2^(w*n))
 .refine⟨AE "fit",λst=>?_,by simp,λj hj st=>zfW hj rfl (λst=>zl9 1 D hw2 ∅ hf hx hy st) rfl kd0 st⟩;have e:(!(decide (0<=x)&&decide (x<2^(w*n))) || !(decide (0<=y)&&decide (y<2^(w*n))))=true:=by
   rcases hf with h|h
   .rw[show (decide (0<=x)&&decide (x<2^(w*n)))=AB by rw[<-HD,AH,decide_eq_true_eq,decide_eq_true_eq];exact h];rfl
   .rw[show (decide (0<=y)&&decide (y<2^(w*n)))=AB by rw[<-HD,AH,decide_eq_true_eq,decide_eq_true_eq];exact h];exact IG _
  rw[du,e];rfl
 .have gx:0<=x/\x<2^(w*n):=Gf.1 λh=>hf (.inl h);have gy:0<=y/\y<2^(w*n):=Gf.1 λh=>hf (.inr h);have e:(!(decide (0<=x)&&decide (x<2^(w*n))) || !(decide (0<=y)&&decide (y<2^(w*n))))=false:=by
   simp[gx,gy]
  rw[e]at du
  by_cases hz:y=0/\q=AC
  .let⟨rfl,rfl⟩:=hz;exact⟨AE "quotient",du,by simp,λj hj st=>zfW hj rfl (λst=>zmh 1 D hw2 ∅ gx.1 gx.2 st) rfl kd7 st⟩
  .have e2:((y==0)&&q)=false:=by
    cases q
    .simp
    .rw[Ho];exact beq_eq_false_iff_ne.2 λh=>hz ⟨h,rfl⟩
   rw[e2]at du;have hq:y=0->q=false:=λh=>by
    cases q
    .rfl
    .exact absurd ⟨h,rfl⟩ hz
   refine⟨AE "told",du,by simp,λj hj st=>?_⟩;have c0:yw .eq (.str (gN q s)) (.str "compare")=AA (.bl AB):=by cases q<;>cases s<;>ac_rfl
   obtain⟨v1,v2,v3,E⟩:∃v1 v2 v3,∀st,yc T 23 j [dG q s,.int w,.int n,.int x,.int y] st=.ok (.tp AB [v1,v2,v3]) st:=by
    rcases hj with rfl|rfl
    .let⟨a,b,c,e1⟩:=zra 1 q s hw hw2 hn hn2 gx.1 gx.2 gy.1 gy.2 hq;exact zq6 1 D (λ_=>ix0) c0 ∅ hw2 hn2 hm gx.1 gx.2 gy.1 gy.2 (λ_=>gP q s) hq e1
    .exact zq7 1 D ok hl ∅ hw2 hn2 hm gx.1 gx.2 gy.1 gy.2 (λ_=>gP q s) hq
   exact zgY 23 (zkX hj) rfl E st
theorem near{d:PV}(hd:nL d=AC)(h:yc T 20 yhL [d] []=.ok (.bl AB) [])(q0:∀st,ybW st d (.tp AB [dG AB AB,dG AB AC,dG AC AB,dG AC AC])=AA (.bl AC))(q6:∀st,ybZ st d (.tp AB [dG AC AB,dG AC AC])=AA (.bl AB)){w n:Nat}(hw2:w<=16)(hn2:n<=4){x y:Int}:∃r:AL,(∀st,yc T 24 yhQ [d,.int w,.int n,.int x,.int y] st=.ok (.str r) st)/\(r=AE "told" \/ r=AE "fit" \/ r=AE "quotient" \/ r=AE "deed")/\∀j,okJ j->∀st,yc T 24 ydM [.fnc j,d,.int w,.int n,.int x,.int y] st=.ok (.str r) st:=
 have hl:nLs [d,.int (w:Int),.int (n:Int),.int x,.int y]=true:=by simp[nLs,nL,hd]
 ⟨AE "deed",λst=>zfO 22 hw2 hn2 hd q0 rfl rfl rfl rfl rfl q6 st,by simp,λj hj st=>zfW hj hl (λst=>zpE 1 hl h st) rfl kd6 st⟩
def L6:List PV:=[dG AB AB,dG AB AC,dG AC AB,dG AC AC,dG AC AB,dG AC AC]
abbrev sS(s:String):PV:=.str (AE s)
def N12:List PV:=[.tp AB [sS "products"],.tp AB [sS "signed",sS "product"],.tp AB [sS "quotient",.int 0],sS "quotient",.tp AB [sS "Quotient"],.tp AB [sS "signed quotient",.int 1],.tp AB [sS "signedproduct"],.tp AB [],.tp AB [sS "rest"],.non,.tp AB [sS "quotient "],.tp AB [.int 3]]
def L36:List PV:=L6++(L6++(L6++(L6++[])))++N12
def zrb{d:PV}(h:d∈L36){w n:Nat}(hw:4<=w)(hw2:w<=16)(hn:1<=n)(hn2:n<=4){x y:Int}(hx:x.natAbs<2^1000)(hy:y.natAbs<2^1000):nL d=AC/\∃r:AL,(∀st,yc T 24 yhQ [d,.int w,.int n,.int x,.int y] st=.ok (.str r) st)/\(r=AE "told" \/ r=AE "fit" \/ r=AE "quotient" \/ r=AE "deed")/\∀j,okJ j->∀st,yc T 24 ydM [.fnc j,d,.int w,.int n,.int x,.int y] st=.ok (.str r) st:=by
 erw[L36,Bq,Aj,or_false,or_self]at h;rcases h with h|h
 .simp only[L6,AX,Aj,or_false]at h;rcases h with rfl|rfl|rfl|rfl|rfl|rfl<;>exact⟨rfl,good _ _ hw hw2 hn hn2 hx hy⟩
 .simp only[N12,AX,Aj,or_false]at h;rcases h with rfl|rfl|rfl|rfl|rfl|rfl|rfl|rfl|rfl|rfl|rfl|rfl<;>exact⟨rfl,near rfl (zcA (by decide +kernel)) (λ_=>by ac_rfl) (λ_=>by ac_rfl) hw2 hn2⟩
def zqq(k:Nat){p:Nat}{ns:List Int}(hns:ns.length<=1000)(w n:Nat)(hw:4<=w)(hw2:w<=16)(hn:1<=n)(hn2:n<=4){st:SO}(h:Drw ns p st):∃x st',x.natAbs<2^1000/\Onl ns p st st'/\yc T (k+5) yiB [.loc p,.int w,.int n] st=.ok (.int x) st':=by
 have hT:T yiB=AA ⟨3,5,AB,yaK.body⟩:=rfl;have hK2:w*n<=64:=An hw2 hn2;have hp64:(2:Int)^(w*n)<=2^64:=by
  have hh:(2:Nat)^(w*n)<=2^64:=Ac ∅ hK2;have h2:=pw (w*n);lia
 have hP0:(0:Int)<2^(w*n):=Bj ⋯;have big:∀z:Int,z.natAbs<=2^300->z.natAbs<2^1000:=λz hz=>GT hz (Nat.pow_lt_pow_right ∅ ∅);have m1:=zec w n ∅;have e0:=zle (k+3) (w*n) ∅ st;let⟨d,s1,d0,d1,o1,e1⟩:=zfm (k+1) hns (m:=6) ∅ ∅ h;have h1:=o1.drw h;let⟨a,s2,a0,a1,o2,e2⟩:=zfm (k+1) hns (m:=3) ∅ ∅ h1;have h2:=o2.drw h1;let⟨b,s3,b0,b1,o3,e3⟩:=zfm (k+1) hns (m:=10^30) ∅ ∅ h2;have ab0:0<=a*b:=DR a0 b0;have ab1:a*b<=2*10^30:=EO ∅ ∅ b0 ∅;have m2:yt .mul (.int a) (.int b)=AA (.int (a*b)):=zaN ∅;have hpw:yt .pow (.int 10) (.int 30)=AA (.int (10^30)):=rfl;let⟨x,s4,x0,x1,o4,e4⟩:=worth k hns w n hw hw2 hn hn2 h1
 by_cases k0:d=0
 .subst k0;have z:((0:Int)==0)=true:=rfl;refine⟨2^(w*n)+a*b,s3,big _ ∅,(o1.trans o2).trans o3,?_⟩;rw[show k+5=k+4+1 by lia,zn hT rfl rfl];dsimp only;generalize a*b=c,(2:Int)^(w*n)=P,((w*n:Nat):Int)=K,(10:Int)^30=E at *;simp! [yaK,m1,e0,e1,z,e2,hpw,e3,m2];rfl
 .have z0:(d==0)=false:=beq_eq_false_iff_ne.2 k0
  by_cases k1:d=1
  .subst k1;have z:((1:Int)==1)=true:=rfl;have zz:((1:Int)==0)=false:=rfl;refine⟨-1-a*b,s3,big _ ∅,(o1.trans o2).trans o3,?_⟩;rw[show k+5=k+4+1 by lia,zn hT rfl rfl];dsimp only;generalize a*b=c,(2:Int)^(w*n)=P,((w*n:Nat):Int)=K,(10:Int)^30=E at *;simp! [yaK,m1,e0,e1,z,zz,e2,hpw,e3,m2];rfl
  .have z1:(d==1)=false:=beq_eq_false_iff_ne.2 k1
   by_cases k2:d=2
   .subst k2;have z:((2:Int)==2)=true:=rfl;refine⟨0,s1,big _ ∅,o1,?_⟩;rw[show k+5=k+4+1 by lia,zn hT rfl rfl];dsimp only;generalize (2:Int)^(w*n)=P,((w*n:Nat):Int)=K at *;simp! [yaK,m1,e0,e1,z,z0,z1];rfl
   .have z2:(d==2)=false:=beq_eq_false_iff_ne.2 k2;refine⟨x,s4,big _ ∅,o1.trans o4,?_⟩;rw[show k+5=k+4+1 by lia,zn hT rfl rfl];dsimp only;generalize (2:Int)^(w*n)=P,((w*n:Nat):Int)=K at *;simp! [yaK,m1,e0,e1,z0,z1,z2,e4];rfl
def fB:Css:=match ya5.body with
 |.cons _ (.cons _ (.cons _ (.cons _ (.cons _ (.cons _ (.cons _ (.cons _ (.cons _ (.cons (.for _ _ b) _)))))))))=>b
 |x=>x
theorem bt2(i j:Nat)(a b:PV)(ρ:IC.Env):yD (.t [i,j]) (.tp AB [a,b]) ρ=AA ((ρ.set i (AA a)).set j (AA b)):=rfl
def zkM{j:Nat}{w n:Nat}{x y:Int}{d:PV}{r:AL}(nr:yw .ne (.str r) (.str r)=AA (.bl AB))(c1:∀st,yc T 24 ydM [.fnc j,d,.int w,.int n,.int x,.int y] st=.ok (.str r) st)(c2:∀st,yc T 24 ydM [.fnc j,.tp AB [.str "product"],.int w,.int n,.int 1,.int 3] st=.ok (.str "told") st){p0 p1 p4 p5:Option PV}(st:SO):
  exs (yc T 24) [p0,p1,AA (.int w),AA (.int n),p4,p5,AA d,AA (.int x),AA (.int y),AA (.str r),AA (.fnc j)] st fB=.nx [p0,p1,AA (.int w),AA (.int n),p4,p5,AA d,AA (.int x),AA (.int y),AA (.str r),AA (.fnc j)] st:=by
 have nt:yw .ne (.str "told") (.str "told")=AA (.bl AB):=by ac_rfl
 simp! [fB,ya5,c1,c2,nr,nt]
def zgP(l:List Int):nLs [PV.scr (l.map .int)]=true:=by simp[nLs,nL,noLocs_ints]
def zj6(ns:List Int)(hns:ns.length<=63):yc T 25 yiC [.scr (ns.map .int)] []=.ok (.bl AC) []:=by
 let⟨o,e1,ho⟩:=fresh 23 ns hns [];have h0:Drw ns 0 [o]:=⟨0,0,AB,by lia,by rw[ho];rfl⟩;have hl:ns.length<=1000:=by lia
 let⟨wi,zi,s1,a1,a2,a3,a4,o1,e2⟩:=sizes 20 hl (m:=2) ∅ ∅ h0;let⟨w,rfl⟩:=zdQ (show 0<=wi by lia);let⟨n,rfl⟩:=zdQ (show 0<=zi by lia);have h1:=o1.drw h0;have hw:4<=w:=by lia
 have hw2:w<=16:=by lia
 have hn:1<=n:=by lia
 have hn2:n<=4:=by lia
 let⟨i,s2,i0,i1,o2,e3⟩:=zfm 21 hl (m:=36) ∅ ∅ h1;have h2:=o2.drw h1;let⟨x,s3,x1,o3,e4⟩:=zqq 19 hl w n hw hw2 hn hn2 h2;have h3:=o3.drw h2;let⟨y,s4,y1,o4,e5⟩:=zqq 19 hl w n hw hw2 hn hn2 h3;let⟨i,rfl⟩:=zdQ i0;have hi:i<L36.length:=by show i<36;lia
 obtain⟨d,hd,dm⟩:∃d,(∀st,idxV st (.lst L36) (.int (i:Int))=AA d)/\d∈L36:=by
  refine⟨L36[i],λst=>?_,List.getElem_mem hi⟩;have hl36:L36.length=36:=rfl;erw[idxV,yaP,at?,ixI];rw[if_pos ∅,if_pos ∅];simp[CP hi]
 let⟨nd,r,du,hr,as⟩:=zrb dm hw hw2 hn hn2 x1 y1;have nr:yw .ne (.str r) (.str r)=AA (.bl AB):=by
  rcases hr with rfl|rfl|rfl|rfl<;>ac_rfl
 have pr:∀j,okJ j->∀st,yc T 24 ydM [.fnc j,dG AB AB,.int w,.int n,.int 1,.int 3] st=.ok (.str "told") st:=by
  have hp:(2:Int)^4<=2^(w*n):=by
   have hK:4<=w*n:=by have:=An hw hn;lia
   have hh:(2:Nat)^4<=2^(w*n):=Ac ∅ hK;have h2:=pw (w*n);lia
  let⟨r,du,hr,as⟩:=good AB AB hw hw2 hn hn2 (x:=1) (y:=3) (Nat.one_lt_two_pow ∅) (A0 (show (3:Int).natAbs<2^2 by decide) (Ac ∅ ∅));have d2:=zfO 22 hw2 hn2 (x:=1) (y:=3) (d:=dG AB AB) rfl (b0:=AB) (λ_=>by ac_rfl) (decide_eq_true ∅) (decide_eq_true ∅) (decide_eq_true ∅) (decide_eq_true ∅) (b5:=AB) rfl (b6:=AB) (λ_=>by ac_rfl) [];have e:R.ok (PV.str r) ([]:SO)=.ok (.str "told") []:=(du []).symm.trans d2;erw[R.ok.injEq,PV.str.injEq,and_true]at e;subst e;exact as
 have f1:=zkM (j:=yeu) nr (as _ (.inl rfl)) (pr _ (.inl rfl)) (p0:=AA (.scr (ns.map .int))) (p1:=AA (.loc 0)) (p4:=AA (.lst L6)) (p5:=AA (.lst N12)) s4;have f2:=zkM (j:=yes) nr (as _ (.inr rfl)) (pr _ (.inr rfl)) (p0:=AA (.scr (ns.map .int))) (p1:=AA (.loc 0)) (p4:=AA (.lst L6)) (p5:=AA (.lst N12)) s4;have ag:∀(ρ:IC.Env) (s:SO) (k:IC.Env->SO->Fl),yao (.nx ρ s) k=k ρ s:=λ_ _ _=>rfl;have lp:yaW (yc T 24) (.n 10) fB [.fnc yeu,.fnc yes] [AA (.scr (ns.map .int)),AA (.loc 0),AA (.int w),AA (.int n),AA (.lst L6),AA (.lst N12),AA d,AA (.int x),AA (.int y),AA (.str r),AD] s4=.nx [AA (.scr (ns.map .int)),AA (.loc 0),AA (.int w),AA (.int n),AA (.lst L6),AA (.lst N12),AA d,AA (.int x),AA (.int y),AA (.str r),AA (.fnc yes)] s4:=by
  rw[zC (ρ1:=[AA (.scr (ns.map .int)),AA (.loc 0),AA (.int w),AA (.int n),AA (.lst L6),AA (.lst N12),AA d,AA (.int x),AA (.int y),AA (.str r),AA (.fnc yeu)]) rfl,f1,ag,zC (ρ1:=[AA (.scr (ns.map .int)),AA (.loc 0),AA (.int w),AA (.int n),AA (.lst L6),AA (.lst N12),AA d,AA (.int x),AA (.int y),AA (.str r),AA (.fnc yes)]) rfl,f2,ag,zQ]
 have hT:T yiC=AA ⟨1,11,AC,ya5.body⟩:=rfl
 have hb:ya5.body=(match ya5.body with
  |.cons a (.cons b (.cons c (.cons d (.cons e (.cons f (.cons g (.cons h (.cons i (.cons (.for t it _) r)))))))))=>.cons a (.cons b (.cons c (.cons d (.cons e (.cons f (.cons g (.cons h (.cons i (.cons (.for t it fB) r)))))))))
  |x=>x):=rfl
 rw[zc hT rfl rfl (zgP ns)];dsimp only;rw[hb];have e1:yc T 24 yja [.scr (ns.map .int)] []=.ok (.loc 0) [o]:=e1;have E2:yc T 24 yjc [.loc 0,.int 2] [o]=.ok (.tp AB [.int w,.int n]) s1:=e2;have E3:yc T 24 yiA [.loc 0,.int 36] s1=.ok (.int i) s2:=e3;have E4:yc T 24 yiB [.loc 0,.int w,.int n] s2=_:=e4;have E5:yc T 24 yiB [.loc 0,.int w,.int n] s3=_:=e5;have v4:PV.lst [.tp AB [.str "product"],.tp AB [.str "signed product"],.tp AB [.str "quotient"],.tp AB [.str "signed quotient"],.tp AB [.str "quotient"],.tp AB [.str "signed quotient"]]=.lst L6:=rfl;have v5:yt .add (.lst [.tp AB [.str "products"],.tp AB [.str "signed",.str "product"],.tp AB [.str "quotient",.int 0],.str "quotient",.tp AB [.str "Quotient"],.tp AB [.str "signed quotient",.int 1]]) (.lst [.tp AB [.str "signedproduct"],.tp AB [],.tp AB [.str "rest"],.non,.tp AB [.str "quotient "],.tp AB [.int 3]])=AA (.lst N12):=by ac_rfl
 have v6:ydw (.lst L6) (.int 4)=AA (.lst (L6++(L6++(L6++(L6++[]))))):=by ac_rfl
 have v7:yt .add (.lst (L6++(L6++(L6++(L6++[]))))) (.lst N12)=AA (.lst L36):=by ac_rfl
 clear hb
 generalize L6++(L6++(L6++(L6++[])))=LL,fB=F at *;simp! [IC.ve27,ya5,e1,E2,bt2,v4,v5,v6,v7,E3,hd,E4,E5,du,lp,zn1]
end WK
namespace WK
open PySem L2 IC
theorem walk{l:FD}{q:A4}{loose:List AL}{XP:(AL->Option AG)->Aq->Prop}{YP:Af->Aq->Prop}{d:DefRec}{K:Params->AF}(hn:l.most=AA 63)(hdf:d.params.defaults=[])
  (hY:∀(w:Af) (h:Aq),YP w h->(K w.params).In h)
  (F:∀(w:Af) (mg:AL->Option AG) (fa:AJ) (h:Aq),(K w.params).In h->h.Ns mainGlobals mg->mg d.name=AA (.ref fa) ->
   ∃fd:Ao,(∀(s:AK) (u:AG),EY s fd ⟨[u],[]⟩ [("_law_script",u)])/\∀base:Aq,(K w.params).In base->base.Ns mainGlobals mg->yaA l.prog w (K w.params) mg base (CX1 l.prog w) (2*25) fa fd ["_law_script"] (spX (K w.params) (yc T 25) yiC)):
  HM q loose XP YP l.row.toRowW d [] (λf vs=>HX f vs):=
 L2.walk_of (n:=63) (k:=2*25) (x:="_law_script") (CX:=λw=>CX1 l.prog w) (sp:=λw=>spX (K w.params) (yc T 25) yiC) hn ⋯ hdf ⟨rfl,by decide,by decide⟩ hY F (λw H a ns hl _ hS=>zix zj6 hl hS) λ_ _ _ _ _ z=>zpy z
end WK
end
open PySem PySem.W PyProof.Rows
theorem PySem.Challenge.cw_widewords_k35_products_and_quotients_ref_holds : PySem.Challenge.rw_widewords_k35_products_and_quotients_ref.Holds := by
 refine hh.hd (by rfl) (by rfl) (by rfl) ?_
 k_fill
 refine WK.walk (l:=PySem.Challenge.rw_widewords_k35_products_and_quotients_ref) rfl rfl (λw h Y=>Y) ?F
 case F =>
  intro w mg fa h KX G hmg
  refine' L2.all_mk2 (t:=WK.tbQ) KX G hmg ?R ?B ?D WK.kb_all ?Ml WK.ok_all WK.T_ok (L:=131) rfl 25
  case R =>
   repeat' (first|exact trivial|apply And.intro|(refine' L2.rowFn ?a9 ?l9 ?c9 ?p9 ?b9;(case a9|l9|c9|p9=>k_is);(case b9=>((repeat intro _);first|rfl|kernel_rfl)))|(refine' L2.rowMe ?z9 ?a9 ?i9 ?l9 ?c9 ?p9 ?b9;(case z9=>((first|rw[WK.cn_20]|rw[WK.cn_21]);k_is));(case a9|i9|l9|c9|p9=>k_is);(case b9=>((repeat intro _);first|rfl|kernel_rfl)))|(refine' L2.rowIni ?z9 ?a9 ?i9 ?l9 ?c9 ?p9 ?b9 ?m9 ?k9;(case z9=>((first|rw[WK.cn_20]|rw[WK.cn_21]);k_is));(case a9|i9|l9|c9|p9=>k_is);(case b9=>((repeat intro _);first|rfl|kernel_rfl));(case m9|k9=>k_is))|(refine' L2.rowFd ?a9 ?l9 ?c9 ?p9 ?d9 ?e9 ?v9;(case a9|l9|c9|p9|d9=>k_is);(case e9=>rfl);(case v9=>(repeat first|exact .nil|refine .cons ⟨_,rfl⟩ ?_))))
  case B=>kernel_rfl
  case D =>
   repeat' (first|exact trivial|apply And.intro|intro _|(refine' L2.gd_mk KX G ?a9 ?l9 ?s9 ?r9 ?n9;(case a9|l9=>k_is);(case s9=>rfl);(case r9=>(repeat first|exact .nil|refine L2.con_row (by kernel_rfl) ?_));(case n9=>decide +kernel)))
  case Ml =>
   repeat' (first|exact trivial|apply And.intro|(refine' L2.gdf_mk KX G ?a9 ?l9 ?r9 ?n9;(case a9|l9=>k_is);(case r9=>(repeat first|exact .nil|refine L2.frow_cons (by kernel_rfl) ?_));(case n9=>decide +kernel)))
