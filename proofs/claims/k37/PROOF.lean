import PyProof.Rows.All
import OpenK.KLine
import Open.Tops
import Wide.FinOn
import KE.KRevSl
import KE.KItem
import KE.KxWritten
import KE.KFromBytes
import KE.LcSums
import KE.KBits
import KE.KTryMore
import PySem.Challenge.RW_widewords_k37_signed_products_reckoned
set_option Elab.async false
set_option linter.all false
set_option maxRecDepth 100000
set_option maxHeartbeats 0
local macro_rules
 | `(#print $s:str)=>do
  let n:=fun (x:Lean.Name)=>Lean.mkIdent (.mkSimple s!"tw{x.hash}")
  let mut a:=#[n `PySem.Challenge.pw_widewords_k37_signed_products_reckoned]
  for e in s.getString.splitOn "|" do
   let f:=e.splitOn " "
   let mut p:=0
   for r in f.tail! do
    let g:=(r.splitOn ".").map String.toNat!
    p:=p+g[0]!
    for j in [0:g.getD 1 0+1] do a:=a.push (n (.mkStr2 "sh" (f[0]!++toString (p+j))))
    p:=p+g.getD 1 0
  `(structure $(Lean.mkIdent `PySem.W.Fast):declId:Prop where ($a*:True))
set_option genSizeOf false
set_option genInjectivity false
#print "o_ 3 2 4 3.1 2.2 4 2 3 3.1 2.1 4 2 3 3.1 2.1 4 2 3 3.1 2.1 4 2 3 3.1 2.1 4 2 3 3.1 2.1 4 2 3 3.1 2.1 4 2 3 3.1 2.1 22 2.2 5.2 2 4.2 3 2.2 4 2.2 4 2.2 4 2.2 3 2.2 5.2 5.2 5.2 3 2.2 3 2.2 2 4 2.2 9 2.2 3 2.2 5.2 5.2 11.2 3 2.2 3 2.2 3 8.2 5.2 3 2.2 5.2 3 2.2 3 2.2 5.2 3 2.2 5.2 3.2 5.2 2 6.2 5.2 5.2 3 2.2 5.2 5.2 5.2 17.2 3 2.2 2 6.2 5.2 5.2 5.2 5.2 3 2.2 3 2.2 5.2 3 2.2 5.2 3 2.2 3 2.2 3 2.2 2 6.2 3 2.2 3 2.2 3 2.2 3 2.2 2 2.1 17.2 5.2 3 2.2 5.2 3 2.2 4 6.2 5.2 5.2 3.2 3 2.2 3 2.2 3.2 5.2 2 4 3.1 3 2.2 3 2.2 3 2.2 3 2.2 3.2 5.2 3 2.6 5 6.2 3.2 3 2.2 3.2 3 2.2 5.2 3 2.9 5.2 3 2.2 5.2 2 6.2 5.2 5.2 5.2 5.2 3 2.2 5.2 3 2.2 3 2.2 3 2.2 3 2.2 2 4 2.2 3 2.2 3 2.2 3 2.2 3 2.3 4 4 3.1 5.2 3 2.2 3 2.2 5.2 5.2 3 2.2 5.2 5.2 3 2.2 3 2.5 6 6.2 5.2 3 2.2 5.2 3.2 3 2.2 3 2.2 3 2.2 5.2 3 2.2 5.2 5.2 2 6.2 5.2 5.2 5.2 5.2 5.2 5.2 5.2 5.2 3 2.2 2 6.2 3 2.2 5.2 3 2.2 3 2.2 2 2 3 2.2 3 2.2 3.2 4 6.2 3 2.2 3 2.2 3 2.2 3 2.2 3 2.2 3 2.2 3 2.2 3 2.2 5.2 3.2 3.2 2 4 2.2 3 2.2 3 2.2 3 2.2 3 2.2|sts_ 4 17 16 16 16 16 16 16 47 81 72 80 78 94 38 54 55 64 76 80 41 87 85 73 38 25 83|tree_ 19 16 16 16 16 16 16 47 81 72 80 78 94 38 52 57 64 76 80 39 89 85 73 38 23 85 38"
set_option genSizeOf true
set_option genInjectivity true
open_shared sh for PySem.Challenge.pw_widewords_k37_signed_products_reckoned leaving 0
namespace hh
open PySem PySem.W PySem.Calls PyProof.Rows
noncomputable abbrev p:=PySem.Challenge.pw_widewords_k37_signed_products_reckoned
abbrev z:Pos:=⟨0,0,0,0⟩
abbrev an:Option Value:=some (.ref 6)
noncomputable abbrev bE:=behindTheImports p
noncomputable abbrev cE:Code:=.body bE sh.env_1
noncomputable abbrev H1(P:Params):Heap:=absHeap (sh.tree_1404 P) 1322 {}
noncomputable abbrev S0(w:World)(os:OsState):Shared:=⟨boot_heap w.params,⟨[]⟩,boot_drawn,boot_toks,os⟩
noncomputable abbrev Sb(w:World)(os:OsState):Shared:=SharedT.abs ⟨sh.tree_4 w.params,15,{},⟨[]⟩,{},187,os⟩
noncomputable abbrev Sk(w:World)(os:OsState):Shared:=SharedT.abs ⟨sh.tree_1404 w.params,1322,{},⟨[]⟩,{},2143,os⟩
theorem pre(w os):topGo treeTable p w 11 an 12 (S0 w os) (topStub p)=some (Sb w os,⟨denote treeTable cE,cE,z,[topFrame z]⟩):=by kernel_rfl
theorem blk(w os):segRun treeTable p w 11 an 1 1 (Sb w os) (blockOf bE sh.env_1 cE z [topFrame z])=some (.next,Sb w os,cE,z):=by kernel_rfl
theorem fin(w os):topRun treeTable p w 11 an 2 (Sk w os) (restOf [] sh.env_1 cE ⟨716,0,732,15⟩ [topFrame z])=some (Sk w os):=by kernel_rfl
theorem bod:bE=sh.sts_4++(sh.sts_21++(sh.sts_37++(sh.sts_53++(sh.sts_69++(sh.sts_85++(sh.sts_101++(sh.sts_117++(sh.sts_164++(sh.sts_245++(sh.sts_317++(sh.sts_397++(sh.sts_475++(sh.sts_569++(sh.sts_607++(sh.sts_661++(sh.sts_716++(sh.sts_780++(sh.sts_856++(sh.sts_936++(sh.sts_977++(sh.sts_1064++(sh.sts_1149++(sh.sts_1222++(sh.sts_1260++(sh.sts_1285++(sh.sts_1368++[])))))))))))))))))))))))))):=by kernel_rfl
theorem run(w os):topRun treeTable p w 11 an (12+(1+(196+(214+(214+(214+(214+(214+(214+(400+(371+(397+(383+(385+(398+(160+(400+(311+(426+(398+(391+(374+(522+(393+(372+(183+(376+(378+(168+2))))))))))))))))))))))))))))) (S0 w os) (topStub p)=some (Sk w os):=by
 refine go_top (pre w os) (piece_block (blk w os) ?_)
 have h:=sh.chain p bE w os [] 2 (Sk w os) (fin w os)
 rw[<-bod] at h
 exact h
noncomputable def q:Program:=view p [232]
noncomputable abbrev lo:List Str:=p.boundNames
theorem look(w:World):(fun os=>((staticsOk (importedModules p.main.body) (boot_heap w.params) (H1 w.params) && namesBound p (H1 w.params) && gensDone (Sk w os) && laidKept (boot_heap w.params) (H1 w.params)),openSeen q lo (importedModules p.main.body) (fun _=>true) true (Sk w os),(Sk w os).heap))=fun _=>(true,openGood q lo,H1 w.params):=by kernel_rfl
theorem left:LeftO p q lo (fun _=>true) Shared.heap (fun w=>H1 w.params) 17404:=.of_pieces (boot_open (by kernel_rfl) (by kernel_rfl) fun s=>by kernel_rfl) (fun w=>by kernel_rfl) run (by kernel_rfl) look
theorem inA{t:BT}{n:Nat}{f:Life}{K:Frag}(h1:K.all (fun x=>Nat.blt x.1 n)=true)(h2:K.map (fun x=>t.get x.1)=K.map fun x=>some x.2)(h3:K.map (fun x=>alive x.2)=K.map fun x=>some x.2):K.In (absHeap t n f):=by
 intro a o e
 induction K with
 | nil=>cases e
 | cons x r ih=>
  obtain ⟨b,y⟩:=x
  simp only[List.map_cons,List.cons.injEq,List.all_cons,Bool.and_eq_true] at h1 h2 h3
  by_cases hb:(a==b)=true
  · rw[List.lookup_cons,hb] at e
    cases e
    have:=beq_iff_eq.mp hb
    subst this
    rw[abs_get (Nat.le_of_ble_eq_true h1.1) h2.1]
    exact h3.1
  · rw[List.lookup_cons,eq_false_of_ne_true hb] at e
    exact ih h1.2 h2.2 h3.2 e
local macro_rules
 | `(panic! $s:str)=>do
  let mut v:=#[]
  let mut p:=0
  let mut q:=0
  for r in s.getString.splitOn " " do
   if let g::l::m:=(r.splitOn ",").map String.toNat! then
    let i:=m.headD (q+g)
    p:=p+g
    for j in [0:l] do v:=v.push (p+j,if i==0 then .str `PySem.W s!"boot_o_{p+j}" else .str `sh s!"o_{i+j}")
    p:=p+l
    q:=i+l
  let mut a ← `(List.nil)
  for (x,o) in v.reverse do a ← `(List.cons (nat_lit $(Lean.Syntax.mkNumLit (toString x)),$(Lean.mkIdent o) P) $a)
  `(fun P=>$a)
noncomputable def KK:Params->Frag:=panic! "2,1,0 0,1,1368 11,1,7 6,2 0,1,119 0,1,17 2,1,24 6,3 2,1,40 6,3 2,1,56 6,3 2,1,72 6,3 2,1,88 6,3 2,1,104 6,3 2,1,120 6,3 2,18 1,2 1,3 1,2 1,2 0,1,166 2,3 1,2 1,4 1,2 1,4 1,2 1,4 1,2 1,3 1,2 1,3 1,2 1,3 1,2 1,3 1,2 1,3 1,2 1,3 1,2 1,2 0,1,247 1,2 1,9 1,2 1,3 1,2 1,3 1,2 1,3 1,2 1,9 1,2 1,3 1,2 1,3 1,2 1,3 0,3,319 1,2 1,3 1,2 1,3 1,2 1,3 1,2 1,3 1,2 1,3 1,2 1,3 1,2 1,3 1,2 1,3 1,2 1,3 2,3 1,2 1,2 0,1,399 1,2 1,3 1,2 1,3 1,2 1,3 1,2 1,3 1,2 1,3 1,2 1,3 1,2 1,15 1,2 1,3 1,2 1,2 0,1,477 1,2 1,3 1,2 1,3 1,2 1,3 1,2 1,3 1,2 1,3 1,2 1,3 1,2 1,3 1,2 1,3 1,2 1,3 1,2 1,3 1,2 1,3 1,2 1,3 1,2 1,2 0,1,571 1,2 1,3 1,2 1,3 1,2 1,3 1,2 1,3 1,2 1,2 0,15,609 1,2 1,3 1,2 1,3 1,2 1,3 1,2 1,3 1,2 1,2 0,1,663 1,2 1,3 1,2 1,3 1,2 1,3 2,3 1,2 1,3 1,2 1,3 2,3 1,2 1,2 7,1,725 1,2 1,3 1,2 1,3 1,2 1,3 1,2 1,3 2,3 1,2 1,3 1,2 1,7 2,1,782 1,2 1,3 2,3 1,2 1,3 2,3 1,2 1,3 1,2 1,3 1,2 1,10 1,2 1,3 1,2 1,3 1,2 1,2 0,1,858 1,2 1,3 1,2 1,3 1,2 1,3 1,2 1,3 1,2 1,3 1,2 1,3 1,2 1,3 1,2 1,3 1,2 1,3 1,2 1,3 1,2 1,2 0,1,938 1,2 1,3 1,2 1,3 1,2 1,3 1,2 1,3 1,2 1,3 7,1,986 1,2 1,3 1,2 1,3 1,2 1,3 1,2 1,3 1,2 1,3 1,2 1,3 1,2 1,3 1,2 1,3 1,2 1,3 1,2 1,7 2,1,1066 1,2 1,3 1,2 1,3 1,2 1,3 1,2 1,3 2,3 1,2 1,3 1,2 1,3 1,2 1,3 1,2 1,3 1,2 1,3 1,2 1,3 1,2 1,2 0,1,1151 1,2 1,3 1,2 1,3 1,2 1,3 1,2 1,3 1,2 1,3 1,2 1,3 1,2 1,3 1,2 1,3 1,2 1,3 1,2 1,2 0,1,1224 1,2 1,3 1,2 1,3 1,2 1,3 1,2 1,3 1,2 1,2 0,2,1262 1,2 1,3 1,2 1,3 2,2 0,1,1287 1,2 1,3 1,2 1,3 1,2 1,3 1,2 1,3 1,2 1,3 1,2 1,3 1,2 1,3 1,2 1,3 1,2 1,3 1,2 1,3 2,3 2,2 0,1,1370 1,2 1,3 1,2 1,3 1,2 1,3 1,2 1,3 1,2 1,2"
theorem inK(w:World):InK KK w (H1 w.params):=inA (K:=KK w.params) (by kernel_rfl) (by kernel_rfl) (by kernel_rfl)
theorem hd{d:DefRec}{k:List (Str×Expr)}(a:defOf q "law"=some (d,k))(b:p.theDef "law"=some (d.params,d.body,d.scope))(c:kwWritten? d.params.kwonlyargs d.params.kw_defaults=some k)(h:WalkO q lo (fun _ _=>True) (InK KK) PySem.Challenge.rw_widewords_k37_signed_products_reckoned.row.toRowW d k fun f vs=>PySem.call f vs):PySem.Challenge.rw_widewords_k37_signed_products_reckoned.Holds:=by
 w_on;o_law
 refine holds_open left (YP:=InK KK) (XP:=fun _ _=>True) (fun w s e=>e ▸ inK w) InK.keeps (fun _ _=>trivial) (fun _ _ _ _ _=>trivial) a b c (fun s _=>recFacts_nil rfl) (by rfl) (by assumption) (by decide +kernel) ⟨rfl,rfl,rfl,rfl,rfl,by decide +kernel⟩ ?hw h
 w_witness2
end hh
local macro_rules|`(⋯)=>`((by decide))
local macro_rules|`(∅)=>`((by lia))
set_option compiler.extract_closed false
set_option bootstrap.genMatcherCode false
set_option genSizeOf false
local macro_rules | `(tactic| ac_rfl)=>`(tactic| with_unfolding_all rfl)
open Option renaming some->AA,none->AD,isSome_iff_exists->Aw,getD_some->B6,bind_some->B7,any_eq_true_iff_get->Cm,map_some->Di,get_some->Et,getD_none->GF
open Bool renaming true->AB,false->AC,and_eq_true->AK,false_ne_true->BA,false_eq_true->Be,and_self->Cf,not_eq_true'->Ci,true_and->Cu,or_eq_true->Cy,eq_iff_iff->Dh,true_or->Eh,false_or->FW,false_and->G5,or_false->Gi,or_true->HA
open PySem.Str renaming ofString->AE,empty->Fz
open PySem.W renaming Frag->AF,keepIn->Al,findIn->Ay,nsIn->BK,kitOne->B0,fnOf->B4,emptyDict->Ba,instObj->CB,codeIn->CN,kia_one->Cc,plainGet->Cn,isFn->Co,hideAll->Cw,callWith_K->DA,hasDictIn->DE,makesIn->Da,plainGet_of->Dl,lookIn->Dw,methodObj->EK,plainOver->EL,mg_of->ET,OpenLaw->E9,cellsFrom_some->Ec,takerIn->En,methodCall_KW->Ex,hideAll_get->FL,callWith_K0->FP,excIn->FX,of_hideAll->F2,handedIn->Fy,WalkO->G1,Rel2->Gw
open PySem renaming Value->AG,wpAny_bind->AH,Addr->AI,Shared->AJ,Str->AN,Expr->AS,wpAny_pure->AU,wpAny->A0,Program->A3,World->Ag,Around->Ar,FuncData->Az,Heap->BB,wpAny_field->BT,wpAny_truthy_bool->BW,Env->BX,wpAny_Call_Name_kw->BZ,wpAny_callSpecial?_slot->Bf,Scope->Bk,wpAny_newObj_type->Bl,wpAny_pyIter_tuple->Bs,Stmt->Bz,Obj->CF,DictEntry->CL,wpAny_passesOwn->CS,Pos->CT,wpAny_mono->CW,IsPair->CZ,Keyword->C2,mem_of_lookup->C3,wpAny_call_entry->C4,wpAny_seqItems->C5,wpAny_setField_rec->Cb,NameKind->DF,strKind_is->DX,wpAny_holding->D3,Operator->D7,sizeLine_eq->D8,wpAny_execs_nil->D9,codeAny_mono->Dn,wpAny_pyIter_list->EM,IsZip->EO,wpAny_standAt->ES,PassesOwn->EV,noFill_tuple_add->EZ,wpAny_rule->Ea,IsPart->Ed,wpAny_loadName_local->Ez,wpAny_setField->FB,wpAny_updateSeq_pair->FC,BindsTo->FI,wpAny_loadName_cell->FM,CmpOp->FR,seq_tuple_add->FT,wpAny_onRaise->FY,tupleKind_room_in1->F5,Within->F7,concat_meets->Fd,wpAny_sequenceKey->Fe,wpAny_typeOf->Ff,slot_list_getitem->Fg,wpAny_pyIter_enum->Fj,ZipApart->Fm,wpAny_execs_cons->Fw,wpAny_pyIter_zip->GM,wpAny_getItem_of->GN,seqIndex_of->GQ,Paired->G2,wpAny_Name->G4,Result->G6,wpAny_call->G7,typeIs_str->G9,call->Ga,Sem->Gg,Builtin->Gu,BoolOp->Gy,Tok->HS
open List renaming map_cons->AL,getElem?_set_ne->AM,mem_cons_of_mem->AQ,mem_cons->AR,length_cons->AX,size_toArray->AY,mem_of_getElem?->A1,getElem?_set_self->A4,getElem?_cons_succ->A5,not_mem_nil->A7,length_append->A8,cons_append->Aa,getElem?_append_left->Ac,getElem?_cons_zero->Ae,map_nil->Ai,mem_cons_self->Aj,replicate->An,getElem?_append_right->Ao,append_nil->Ap,set_cons_zero->As,set_cons_succ->Au,nil_append->Av,length_map->BD,mem_append_right->BF,getElem?_eq_some_iff->BI,any_cons->BL,flatMap_cons->BP,getElem?_eq_none->BU,mem_append->B1,length_set->B3,lookup_cons->B5,all_cons->Bb,length_nil->Bd,all_eq_true->Bg,flatMap_nil->Bj,append_assoc->Bo,lookup->Bu,getElem?_map->CA,find?_cons->CC,filterMap_cons->C1,length->C7,range->C8,getElem?_set->Ch,getElem?_eq_getElem->Cv,map_append->Cz,reverse_cons->DI,filterMap->DJ,set_set->DN,length_singleton->DQ,mem_iff_getElem?->DS,any_eq_true->DV,nodup_cons->Db,foldl_cons->De,mem_filterMap->Du,zip_cons_cons->EB,getElem?_eq_none_iff->EG,drop_eq_getElem_cons->EH,pairwise_iff_getElem->EI,ext_getElem?->EQ,length_take->EX,getElem?_replicate->EY,range_succ_eq_map->Ek,take_of_length_le->Em,of_mem_zip->Eo,forIn_cons->Ep,mem_append_left->Ey,length_pos_iff->FQ,isEmpty_cons->Fk,mem_map->Fq,length_drop->GE,isEmpty_nil->GG,take_length->GH,drop_length->GI,zipIdx_cons->GJ,mem_filter->GU,zipIdx_nil->GY,mem_range->G3,drop_zero->Gc,forIn_nil->Gd,set_comm->Gh,any_map->Gz
open PySem.Heap renaming get?_push_of_some->AO,lt_size->AV,get?_push_size->AZ,size_push->Bv,SameBut->C9,get?_update_other->DH,get?_update_self->Eu,IsTuple->Fh,MadeExcOf->Gb,FlyingW->Gv
open Nat renaming le_refl->AT,lt_of_lt_of_le->A2,ne_of_lt->Ah,pow_le_pow_right->Am,mul_le_mul->BO,le_trans->BV,zero_add->Br,lt_or_ge->CJ,reduceSub->C0,le_succ->C6,reduceAdd->Cg,lt_irrefl->Cr,zero_le->DB,le_add_right->DW,and_two_pow_sub_one_eq_mod->DY,reduceEqDiff->DZ,add_assoc->D5,mod_two_eq_zero_or_one->ED,ne_of_gt->Eb,mul_le_mul_right->FE,le_of_lt->F8,succ_mul->Fr,lt_succ_self->GA,reduceLeDiff->GP,mul_assoc->Gk,le_of_eq->Gq,xor_self->HB
open Option.some renaming inj->AW
open Int renaming mul_comm->A6,emod_lt_of_pos->A9,pow_pos->Ab,pow_succ->Af,emod_eq_of_lt->Ak,emod_nonneg->Aq,mul_le_mul_of_nonneg_right->BC,mul_le_mul_of_nonneg_left->BH,one_mul->BJ,ediv_lt_of_lt_mul->BM,emod_add_mul_ediv->BN,ediv_eq_zero_of_lt->BR,mul_assoc->BS,zero_mul->B8,ediv_ediv_of_nonneg->Bi,add_mul_emod_self_left->Bn,mul_nonneg->Bp,add_zero->Bq,sub_mul->Bw,mul_add->By,ediv_nonneg->CD,mul_sub->CK,mul_one->CU,toNat_natCast->CV,add_mul->DD,natAbs_mul->DO,mul_left_comm->DP,le_ediv_of_mul_le->DU,toNat_of_nonneg->Dm,fdiv_eq_ediv_of_nonneg->Dv,mul_le_mul->EF,add_comm->Ej,pow_zero->El,pow_mul->FF,le_of_lt->Ft,mul_zero->Fu,natCast_emod->GO,mul_pos->GS,pow_add->GT,mul_eq_zero->GZ,add_assoc->Gj,ediv_one->Gr,zero_add->HC
open PySem.Value renaming ref->Ad,none->CM,bool->Dq,int->EU,type->F1,str->Fv,isStrOf->Gf,isInt->HD,bytes->HE,float->HF
open PySem.Builtin renaming bitAnd->Ax,bitXor->BY,bitOr->B2,bitNot->FD
open Ne renaming symm->BE
open PyProof.Rows renaming slot_tuple_getitem->BG,callWith_type1->CH,AllBare->D0,assignInOrder_cons->Dt,subscriptTail_builtinR->Ee,tupleItemsOf_->FJ,IntsAre->FK,entry_tuple_getitem->FN,args_tuple_getitem->F3,assignInOrder_nil->F9,callWith_builtin1->GB,boot_isinstance->GX,iadd_int->G0,Subscript_->G8,IsTup->HG
open PySem.Builtin.SmallTypes renaming nextOf->BQ,ownedTupleIsFree->Bc,ownedTupleHandOut->Cq
open PySem.PyData renaming eqv->B9,canLay0->Ck,depth->DM,eqvAll->D4,keyHash->EC,canLayAll0->EN,depthAll->Es
open False renaming elim->Bm
open PySem.Challenge renaming rw_widewords_k37_signed_products_reckoned->Bt,pw_widewords_k37_signed_products_reckoned->D6
open Array renaming length_toList->CG,append_assoc->Dr,getElem?_eq_some_iff->EA,toList->Gp
open PySem.F renaming slot_tuple_iterator_next->CO,args_tuple_add_2->Ct,entry_tuple_add->DC,slot_tuple_add->DG,slot_dict_get->DR,args_tuple_iterator_next_1->Dd,slot_zip_next->Dj,entry_tuple_iterator_next->Do,slot_dict_getitem->EJ,args_dict_get_3->E8,entry_dict_get->Ei,slot_list_append->Ew,args_zip_next_1->Fp,entry_zip_next->GL
open PySem.Heap.FunFrames renaming mem->CP
open PySem.Builtin.Slice renaming slicePlaces->CQ,sliceAdjust->Cp,sliceApplied->Dy,slicePartIndex->GV,sliceFields->Ge
open PySem.Builtin.Tuple renaming tupleExact->CY,tupleItemsOf->Dz
open True renaming intro->Ca
open PySem.NameKind renaming free->Cd,cell->FU
open PySem.Value.type renaming inj->Cj
open Eq renaming refl->DL
open PySem.Builtin.Str renaming strSliceIndices->Dp,occurrences->EW
open PySem.Calls renaming Name_function_global->Ds,spliced_cons->Dx,callWith_builtin->Eg,evalArgs_plain->FA,spliced_nil->Fc
open PySem.Paired renaming length->ER,snoc->HJ
open PySem.Obj renaming mapSeq->Ef,data_mapFields->F4
open Sum renaming inl->FG,inr->FH
open PySem.Heap.SameBut renaming update->FO
open PyProof.Rows.LSm renaming kept_iter->FV
open PySem.SeqAt.EqAt renaming int_str->FZ,str_int->F0
open PySem.ScopeKind renaming function->F6
open PySem.Around renaming under->Fa
open PySem.Code renaming isFrame->Fb,frames->HH
open PySem.WalksT renaming enumerateD->Fi
open PyProof.Rows.IsTup renaming new->Fx
open PySem.Shared renaming heap->GR
open ForInStep renaming yield->GW
open PySem.Builtin.Range renaming rangeSize->Gm
open PySem.Heap.UpToSlots renaming of_keeps->Gn
open And renaming intro->Go
open PySem.SeqAt renaming shaped->Gx,EqAt->HM
open Prod renaming ext->HI
open PySem.W.Looks renaming here->HK
open PySem.Heap.IsSliceOf renaming new->HL
open PySem.W.WShape renaming has->HN
open PySem.Walks renaming list->HP
open PySem.Within renaming cons->HQ
open List.Pairwise renaming nil->HR
open PySem.W.WData renaming int->HU
noncomputable section
open Lean in
def cnvP:Nat->Syntax->MacroM (TSyntax `rcasesPat)
 |0,_=>Macro.throwUnsupported
 |n+1,s=>do
  if s.isOfKind ``Lean.Parser.Term.anonymousCtor then `(rcasesPat| ⟨$[$(← s[1].getSepArgs.mapM (cnvP n)):rcasesPat],*⟩)
  else if s.isIdent then `(rcasesPat| $(⟨s⟩):ident)
  else if s.isOfKind ``Lean.Parser.Term.hole then `(rcasesPat| _)
  else Macro.throwUnsupported
local macro_rules | `(tactic| let $p:term := $e)=>do `(tactic| obtain $(← cnvP 9 p):rcasesPat := $e)
local macro_rules | `(tactic| erw [$rs,*] $(l)?)=>do
 let t<-rs.getElems.mapM λ|`(Lean.Parser.Tactic.rwRule| $t:term)=>`(Lean.Parser.Tactic.simpLemma| $t:term)|_=>Lean.Macro.throwUnsupported
 `(tactic| simp only[$t,*] $(l)?)
local macro_rules | `(fun $bs* => $b)=>do
 if !(bs.any λx=>x.raw.isOfKind ``Lean.Parser.Term.anonymousCtor)||(b.raw.find? λx=>x.isOfKind ``Lean.Parser.Term.syntheticHole).isSome then Lean.Macro.throwUnsupported
 `(by rintro $[$(← bs.mapM λx=>cnvP 9 x.raw):rcasesPat]*;exact $b)
set_option backward.eqns.nonrecursive false
local macro_rules (kind:=Lean.Parser.Command.declaration)
 |s=>do
  let k:=s[1].getKind
  unless (k==``Lean.Parser.Command.definition||k==``Lean.Parser.Command.abbrev)&&s[0].getArgs.all (·.isNone) do Lean.Macro.throwUnsupported
  if k==``Lean.Parser.Command.definition&&(toString s[1][1][0].getId).startsWith "z" then
   let m←`(theorem x:True:=trivial)
   return s.setArg 1 (((m.raw[1].setArg 1 s[1][1]).setArg 2 (Lean.mkNode ``Lean.Parser.Command.declSig #[s[1][2][0],s[1][2][1][0]])).setArg 3 s[1][3])
  let m←`(noncomputable def x:=0)
  return s.setArg 0 m.raw[0]
namespace L2
open PySem PySem.Spec PyProof.Rows
abbrev Key:=Sum Int AN
def ybL:Key->AG->Bool
 |.inl k,v=>HD k v
 |.inr x,v=>Gf x v
def yf1(w:Ag):Key->Int
 |.inl k=>hashInt k
 |.inr x=>hashStr w x
def zC:∀{k:Key} {v:AG},ybL k v=AB->(∃i t,k=FG i/\v=EU i t) \/ (∃x t,k=FH x/\v=Fv x t)
 |.inl i,v,h=>by
  let⟨t,e⟩:=Value.isInt_shape (k:=i) (v:=v) h;exact .inl ⟨i,t,rfl,e⟩
 |.inr x,v,h=>by
  let⟨t,e⟩:=Value.isStrOf_shape (x:=x) (v:=v) h;exact .inr ⟨x,t,rfl,e⟩
def zi3(i:Int)(t:HS):ybL (.inl i) (.int i t)=true:=by simp[ybL,HD]
def zhT(x:AN)(t:HS):ybL (.inr x) (.str x t)=true:=by simp[ybL,Gf]
def zmG(a b:Int):decide ((FG a:Key)=FG b)=(a==b):=by
 by_cases e:a=b
 .subst e;simp
 .have h:¬(FG a:Key)=FG b:=λq=>e (Sum.inl.inj q);rw[decide_eq_false h];exact(beq_eq_false_iff_ne.mpr e).symm
def zmH(a b:AN):decide ((FH a:Key)=FH b)=decide (a=b):=by
 by_cases e:a=b
 .subst e;simp
 .have h:¬(FH a:Key)=FH b:=λq=>e (Sum.inr.inj q);rw[decide_eq_false h,decide_eq_false e]
def znj(a:Int)(b:AN):decide ((FG a:Key)=FH b)=false:=decide_eq_false (λq=>nomatch q)
def zoK(a:AN)(b:Int):decide ((FH a:Key)=FG b)=false:=decide_eq_false (λq=>nomatch q)
def yL(prog:A3)(w:Ag):PySem.KeyKind prog w Key where
 is:=ybL
 hash:=yf1 w
 inj:=λv a b ha hb=>by
  rcases zC ha with⟨i,t,rfl,rfl⟩|⟨x,t,rfl,rfl⟩
  .rcases zC hb with⟨j,u,rfl,e⟩|⟨y,u,rfl,e⟩
   .injection e with e1 _;rw[e1]
   .exact nomatch e
  .rcases zC hb with⟨j,u,rfl,e⟩|⟨y,u,rfl,e⟩
   .exact nomatch e
   .injection e with e1 _;rw[e1]
 byValue:=λk v h=>by
  rcases zC h with⟨i,t,rfl,rfl⟩|⟨x,t,rfl,rfl⟩<;>rfl
 pyHash:=λhv h=>by
  rcases zC hv with⟨i,t,rfl,rfl⟩|⟨x,t,rfl,rfl⟩
  .exact wpAny_pyHash_int h
  .exact wpAny_pyHash_str h
 eqBool:=λhu hv h=>by
  rcases zC hu with⟨i,t,rfl,rfl⟩|⟨x,t,rfl,rfl⟩
  .rcases zC hv with⟨j,u,rfl,rfl⟩|⟨y,u,rfl,rfl⟩
   .rw[zmG]at h;exact wpAny_eqBool_int h
   .rw[znj]at h;exact FZ i t y u _ _ _ _ h
  .rcases zC hv with⟨j,u,rfl,rfl⟩|⟨y,u,rfl,rfl⟩
   .rw[zoK]at h;exact F0 x t j u _ _ _ _ h
   .rw[zmH]at h;exact wpAny_eqBool_str h
 «strs»:=λk x t v h=>by
  rcases zC h with⟨i,u,rfl,e⟩|⟨y,u,rfl,e⟩
  .exact nomatch e
  .injection e with e1 _;subst e1
   cases v<;>rfl
def zfO(prog:A3)(w:Ag)(i:Int)(t:HS):(yL prog w).is (.inl i) (.int i t)=true:=zi3 i t
def zfD(prog:A3)(w:Ag)(x:AN)(t:HS):(yL prog w).is (.inr x) (.str x t)=true:=zhT x t
inductive V where
 |non|bl (b:Bool)|int (i:Int)|str (x:AN)|byt (b:Array UInt8)|flt (b:UInt64)|ref (a:AI)|ty (n:String)
 deriving DecidableEq
def RelV:V->AG->Prop
 |.non,u=>u=CM
 |.bl b,u=>u=Dq b
 |.int i,u=>∃t,u=EU i t
 |.str x,u=>∃t,u=Fv x t
 |.byt b,u=>∃t,u=HE b t
 |.flt b,u=>∃t,u=HF b t
 |.ref a,u=>u=Ad a
 |.ty n,u=>u=F1 n
abbrev Vals:List V->List AG->Prop:=G2 RelV
theorem Vals.length{xs:List V}{us:List AG}(r:Vals xs us):xs.length=us.length:=ER r
theorem Vals.get:∀{xs:List V} {us:List AG} {i:Nat} {x:V},Vals xs us->xs[i]?=AA x->∃u,us[i]?=AA u/\RelV x u
 |_,_,_,_,.nil,e=>by simp at e
 |_,_,0,_,.cons r _,e=>by simp at e;subst e;exact⟨_,rfl,r⟩
 |_,_,i+1,x,.cons _ t,e=>by
  let⟨u,h1,h2⟩:=Vals.get (i:=i) (x:=x) t (by simpa using e);exact⟨u,by simpa using h1,h2⟩
theorem Vals.set{x:V}{u:AG}(r:RelV x u):∀{xs:List V} {us:List AG} (i:Nat),Vals xs us->Vals (xs.set i x) (us.set i u)
 |_,_,_,.nil=>.nil
 |_,_,0,.cons _ t=>.cons r t
 |_,_,i+1,.cons q t=>.cons q (Vals.set r i t)
theorem Vals.append:∀{xs ys:List V} {us ws:List AG},Vals xs us->Vals ys ws->Vals (xs++ys) (us++ws)
 |_,_,_,_,.nil,s=>s
 |_,_,_,_,.cons r t,s=>.cons r (Vals.append t s)
theorem Vals.take:∀{xs:List V} {us:List AG} (n:Nat),Vals xs us->Vals (xs.take n) (us.take n)
 |_,_,0,_=>.nil
 |_,_,_+1,.nil=>.nil
 |_,_,n+1,.cons r t=>.cons r (Vals.take n t)
theorem Vals.drop:∀{xs:List V} {us:List AG} (n:Nat),Vals xs us->Vals (xs.drop n) (us.drop n)
 |_,_,0,r=>r
 |_,_,_+1,.nil=>.nil
 |_,_,n+1,.cons _ t=>Vals.drop n t
theorem Vals.none_of:∀{xs:List V} {us:List AG} {i:Nat},Vals xs us->xs[i]?=AD->us[i]?=none:=λ{xs us i} r e=>by
 have h1:=r.length;have h2:xs.length<=i:=EG.mp e;exact EG.mpr ∅
def ybs:Option V->Option AG->Prop
 |some v,AA u=>RelV v u
 |none,AD=>True
 |_,_=>False
def KV{κ:Type}:List (κ×V)->List (κ×AG)->Prop:=G2 λ(p:κ×V) (q:κ×AG)=>p.1=q.1/\RelV p.2 q.2
def kV:Key->V
 |.inl i=>.int i
 |.inr x=>.str x
inductive HO where
 |lst (xs:List V)
 |tup (xs:List V)
 |dK (kvs:List (Key×V))|dT (kvs:List (List Key×V))
 |set (S:Int->Bool) (n:Nat)
 |ins (C dx:AI) (fs:List (AN×V))
 |own (x:AI)
 |xd (fs:List (AN×V))
 |met (f x:AI)
 |rng (lo hi:Int)
 |frz (o:CF) (u:HO)
 |tbl (ps:Array AG)
 |ext (φ:BB->Prop)
abbrev Hp:=AI->Option HO
def upd(H:Hp)(a:AI)(o:HO):Hp:=λb=>if b=a then AA o else H b
def zq{H:Hp}{a:AI}{o:HO}:upd H a o a=AA o:=by unfold upd;rw[if_pos rfl]
def zj{H:Hp}{a b:AI}{o:HO}(h:b≠a):upd H a o b=H b:=by unfold upd;rw[if_neg h]
def zo3{H:Hp}{a b:AI}{o u:HO}(h:H a=AA o)(h':H b=AA u)(d:o≠u):a≠b:=by
 intro e;subst e;rw[h]at h';exact d (AW h')
def zl{H:Hp}{a b:AI}{o:HO}(h:H a=AA o)(h':H b=AD):a≠b:=by
 intro e;subst e;rw[h]at h';cases h'
section
variable (P:A3)(w:Ag)
def yR(H:Hp)(h:BB)(a:AI):HO->Prop
 |.lst xs=>xs.length<=sizeLine/\∃(its:List AG) (n:Nat),Vals xs its/\h.get? a=AA {cls:=.type "list",data:=.seq its.toArray n}
 |.tup xs=>xs.length<=sizeLine/\∃its:List AG,Vals xs its/\HG h a its.toArray
 |.dK kvs=>kvs.length<=sizeLine/\(a==sysModules)=AC/\∃vs,KV kvs vs/\h.DictOf (yL P w) a vs
 |.dT kvs=>kvs.length<=sizeLine/\(a==sysModules)=AC/\∃xs:List (List Key×AI×AG),
   G2 (λ(p:List Key×V) (q:List Key×AI×AG)=>p.1=q.1/\H q.2.1=AA (.tup (p.1.map kV))/\RelV p.2 q.2.2) kvs xs /\
   ∃o es ep,h.get? a=AA o/\o.ExactDict/\o.data=.dict es ep/\es.toList=xs.map (entryOfKey (tupleKind (yL P w)))/\(xs.map (·.1)).Nodup
 |.set S n=>h.SetOf (intKind P w) a S n
 |.ins C dx fs=>H dx=AA (.own a)/\fs.length<=1000/\dx≠a/\h.get? a=AA (CB C dx) /\
   ∃mA,h.Ns1 dx mA/\(∀f,ybs (fs.lookup f) (mA f))/\F7 mA (fs.map (·.1))
 |.own _=>∃o,h.get? a=AA o
 |.xd fs=>∃mA,h.Ns1 a mA/\∀f,ybs (fs.lookup f) (mA f)
 |.rng lo hi=>∃t u v,h.get? a=AA {cls:=.type "range",data:=.fields #[.int lo t,.int hi u,.int 1 v]}
 |.frz o u=>h.get? a=AA o/\yR H h a u
 |.tbl ps=>h.get? a=AA {cls:=.none,data:=.fields ps}
 |.met f x=>h.get? a=AA (EK (.ref f) (.ref x))
 |.ext φ=>φ h/\(∃o,h.get? a=AA o)/\∀h1 h2:BB,φ h1->(∀o,h1.get? a=AA o->h2.get? a=AA o)->φ h2
def HOk(H:Hp)(h:BB):Prop:=∀a o,H a=AA o->yR P w H h a o
end
section
variable {P:A3}{w:Ag}{H H':Hp}{h h':BB}{a:AI}{o:HO}
theorem yR.lt(x:yR P w H h a o):a<h.objs.size:=by
 cases o with
 |lst xs=>let⟨_,_,_,_,e⟩:=x;exact AV e
 |tup xs=>let⟨_,_,_,p⟩:=x;exact p.lt
 |dK kvs=>let⟨_,_,_,_,o,_,_,e,_⟩:=x;exact AV e
 |dT kvs=>let⟨_,_,_,_,o,_,_,e,_⟩:=x;exact AV e
 |set S n=>let⟨o,_,_,_,e,_⟩:=x;exact AV e
 |ins C dx fs=>let⟨_,_,_,e,_⟩:=x;exact AV e
 |own y=>let⟨_,e⟩:=x;exact AV e
 |xd fs=>let⟨_,⟨_,_,_,e,_⟩,_⟩:=x;exact AV e
 |rng lo hi=>let⟨_,_,_,e⟩:=x;exact AV e
 |frz ob u=>let⟨e,_⟩:=x;exact AV e
 |tbl ps=>exact AV (show h.get? a=AA _ from x)
 |met f y=>exact AV (show h.get? a=AA _ from x)
 |ext φ=>let⟨_,⟨_,e⟩,_⟩:=x;exact AV e
theorem Paired.mapP{α β:Type}{F G:α->β->Prop}:∀{l₁:List α} {l₂:List β},G2 F l₁ l₂->(∀a b,F a b->G a b)->G2 G l₁ l₂
 |_,_,.nil,_=>.nil
 |_,_,.cons r t,f=>.cons (f _ _ r) (Paired.mapP t f)
theorem yR.stay(x:yR P w H h a o)(k:∀b u,(b=a \/ H b=AA (.own a))->h.get? b=AA u->h'.get? b=AA u)
  (ho:∀b,H b=AA (.own a)->H' b=AA (.own a)) (ht:∀b xs,H b=AA (.tup xs)->H' b=AA (.tup xs)):yR P w H' h' a o:=by
 induction o with
 |lst xs=>let⟨z,its,n,r,e⟩:=x;exact⟨z,its,n,r,k _ _ (.inl rfl) e⟩
 |tup xs=>let⟨z,its,r,ob,e,c⟩:=x;exact⟨z,its,r,ob,k _ _ (.inl rfl) e,c⟩
 |dK kvs=>let⟨z,y,vs,r,ob,es,ep,e,c⟩:=x;exact⟨z,y,vs,r,ob,es,ep,k _ _ (.inl rfl) e,c⟩
 |dT kvs=>
  let⟨z,y,xs,r,ob,es,ep,e,c⟩:=x;exact⟨z,y,xs,Paired.mapP r λp q z=>⟨z.1,ht _ _ z.2.1,z.2.2⟩,ob,es,ep,k _ _ (.inl rfl) e,c⟩
 |set S n=>let⟨ob,es,ep,t,e,c⟩:=x;exact⟨ob,es,ep,t,k _ _ (.inl rfl) e,c⟩
 |ins C dx fs=>
  let⟨d,z,ne,e,mA,⟨od,es,ep,e2,c⟩,r⟩:=x;exact⟨ho _ d,z,ne,k _ _ (.inl rfl) e,mA,⟨od,es,ep,k _ _ (.inr d) e2,c⟩,r⟩
 |own y=>let⟨ob,e⟩:=x;exact⟨ob,k _ _ (.inl rfl) e⟩
 |xd fs=>let⟨mA,⟨od,es,ep,e,c⟩,r⟩:=x;exact⟨mA,⟨od,es,ep,k _ _ (.inl rfl) e,c⟩,r⟩
 |rng lo hi=>let⟨t,u,v,e⟩:=x;exact⟨t,u,v,k _ _ (.inl rfl) e⟩
 |frz ob u ih=>let⟨e,q⟩:=x;exact⟨k _ _ (.inl rfl) e,ih q⟩
 |tbl ps=>
  have e:h.get? a=AA {cls:=.none,data:=.fields ps}:=x;show h'.get? a=AA {cls:=.none,data:=.fields ps};exact k a _ (.inl rfl) e
 |met f y=>
  have e:h.get? a=AA (EK (.ref f) (.ref y)):=x;show h'.get? a=AA (EK (.ref f) (.ref y));exact k a _ (.inl rfl) e
 |ext φ=>let⟨p,⟨o,e⟩,st⟩:=x;exact⟨st _ _ p λo q=>k _ _ (.inl rfl) q,⟨o,k _ _ (.inl rfl) e⟩,st⟩
theorem HOk.lt(x:HOk P w H h)(e:H a=AA o):a<h.objs.size:=(x a o e).lt
theorem HOk.fresh(x:HOk P w H h)(e:h.objs.size<=a):H a=none:=by
 cases q:H a with
 |none=>rfl
 |some u=>exact absurd (A2 (x.lt q) e) (Cr _)
theorem HOk.kept(x:HOk P w H h)(k:∀b u,h.get? b=AA u->h'.get? b=AA u):HOk P w H h':=λa o e=>
 (x a o e).stay (λb u _ q=>k b u q) (λ_ q=>q) λ_ _ q=>q
theorem HOk.laid(x:HOk P w H h)(k:∀b u,h.get? b=AA u->h'.get? b=AA u)(hp:h.objs.size<=a)(new:yR P w (upd H a o) h' a o):HOk P w (upd H a o) h':=λb u e=>by
 have hn:=x.fresh hp
 by_cases hb:b=a
 .subst hb;rw[zq]at e;cases e;exact new
 .rw[zj hb]at e;exact(x b u e).stay (λc v _ q=>k c v q) (λc q=>by rw[zj (zl q hn)];exact q) λc xs q=>by rw[zj (zl q hn)];exact q
end
def Rd(H:Hp)(a:AI)(u:HO):Prop:=H a=AA u \/ ∃o,H a=AA (.frz o u)
theorem Rd.of{H:Hp}{a:AI}{u:HO}(h:H a=AA u):Rd H a u:=.inl h
theorem Rd.ok{P:A3}{w:Ag}{H:Hp}{h:BB}{a:AI}{u:HO}(r:Rd H a u)(x:HOk P w H h):yR P w H h a u:=by
 rcases r with r|⟨o,r⟩
 .exact x a u r
 .let⟨_,q⟩:=x a _ r;exact q
def Mut:Option HO->Prop
 |some (.lst _)=>True
 |some (.dK _)=>True
 |some (.dT _)=>True
 |some (.set _ _)=>True
 |some (.ins _ _ _)=>True
 |some (.ext _)=>True
 |_=>False
section
variable {P:A3}{w:Ag}{H:Hp}{h h':BB}{x e:AI}{o':HO}
theorem HOk.write(ok:HOk P w H h)(mu:Mut (H x))(he:e=x \/ H e=AA (.own x))(k:∀b u,b≠e->h.get? b=AA u->h'.get? b=AA u)(heo:∃u,h'.get? e=AA u)
  (new:yR P w (upd H x o') h' x o'):HOk P w (upd H x o') h':=λb u q=>by
 have nown:∀c y,H c=AA (.own y)->c≠x:=λc y r z=>by subst z;rw[r]at mu;exact mu
 have ntup:∀c xs,H c=AA (.tup xs)->c≠x:=λc xs r z=>by subst z;rw[r]at mu;exact mu
 by_cases hb:b=x
 .subst hb;rw[zq]at q;cases q;exact new
 .rw[zj hb]at q
  by_cases hbe:b=e
  .have q':H b=AA (.own x):=by
    rcases he with z|z
    .exact absurd (hbe.trans z) hb
    .rw[hbe];exact z
   rw[q]at q';cases q';let⟨v,hv⟩:=heo;exact⟨v,by rw[hbe];exact hv⟩
  .refine(ok b u q).stay (λc v hc r=>k c v ?_ r) (λc r=>by rw[zj (nown c b r)];exact r) λc xs r=>by rw[zj (ntup c xs r)];exact r
   rcases hc with rfl|hc
   .exact hbe
   .rintro rfl
    rcases he with z|z
    .exact nown c b hc z
    .rw[hc]at z;cases z;exact hb rfl
end
structure Un(fs ex:List AI)(H H':Hp)(h h':BB):Prop where
 keep:∀b o,h.get? b=AA o->H b=AD->b∉fs->b∉ex->h'.get? b=AA o
 slot:∀b o,h.get? b=AA o->H b=AD->b∈fs->b∉ex->∃sl,h'.get? b=AA {o with slots:=sl}
 free:∀b o,h.get? b=AA o->H b=AD->b∉ex->H' b=AD
 there:∀b o,h.get? b=AA o->b∉ex->∃o',h'.get? b=AA o'
 tups:∀b xs,H b=AA (.tup xs)->H' b=AA (.tup xs)
 frzs:∀b o u,H b=AA (.frz o u)->H' b=AA (.frz o u)
 tbls:∀b ps,H b=AA (.tbl ps)->∃more,H' b=AA (.tbl (ps++more))
section
variable {fs fs' ex ex':List AI}{H H1 H2:Hp}{h h1 h2 h':BB}{a x e:AI}{o:HO}
theorem Un.any(u:Un fs ex H H1 h h1){b:AI}{ob:CF}(q:h.get? b=AA ob)(n:H b=AD)(hx:b∉ex):∃sl,h1.get? b=AA {ob with slots:=sl}:=by
 by_cases hb:b∈fs
 .exact u.slot b ob q n hb hx
 .exact⟨ob.slots,u.keep b ob q n hb hx⟩
theorem Un.kept(k:∀b u,h.get? b=AA u->h'.get? b=AA u):Un fs ex H H h h':=
 ⟨λb ob q _ _ _=>k b ob q,λb ob q _ _ _=>⟨ob.slots,k b ob q⟩,λ_ _ _ n _=>n,λb ob q _=>⟨ob,k b ob q⟩,λ_ _ q=>q,λ_ _ _ q=>q,λ_ ps q=>⟨#[],by rw[q];simp⟩⟩
theorem Un.refl:Un fs ex H H h h:=Un.kept λ_ _ q=>q
theorem Un.laid(k:∀b u,h.get? b=AA u->h'.get? b=AA u)(hp:h.objs.size<=a)(hn:H a=AD):Un fs ex H (upd H a o) h h' where
 keep:=λb u q _ _ _=>k b u q
 slot:=λb u q _ _ _=>⟨u.slots,k b u q⟩
 free:=λb u q n _=>by rw[zj (Ah (A2 (AV q) hp))];exact n
 there:=λb u q _=>⟨u,k b u q⟩
 tups:=λb xs q=>by rw[zj (zl q hn)];exact q
 frzs:=λb u xs q=>by rw[zj (zl q hn)];exact q
 tbls:=λb ps q=>⟨#[],by rw[zj (zl q hn),q];simp⟩
theorem Un.write(mu:Mut (H x))(he:e=x \/ H e=AA (.own x))(k:∀b u,b≠e->h.get? b=AA u->h'.get? b=AA u)(heo:∃u,h'.get? e=AA u):Un fs ex H (upd H x o) h h':=by
 have hx:∀b,H b=AD->b≠x:=λb n z=>by subst z;rw[n]at mu;exact mu
 have hb:∀b,H b=AD->b≠e:=λb n z=>by
  subst z;rcases he with r|r
  .exact hx b n r
  .rw[n]at r;cases r
 have hm:∀b u,H b=AA u->¬Mut (AA u)->b≠x:=λb u q nm z=>by subst z;rw[q]at mu;exact nm mu
 refine⟨λb u q n _ _=>k b u (hb b n) q,λb u q n _ _=>⟨u.slots,k b u (hb b n) q⟩,λb u q n _=>by rw[zj (hx b n)];exact n,λb u q _=>?_,
  λb xs q=>by rw[zj (hm b _ q λz=>z)];exact q,λb u xs q=>by rw[zj (hm b _ q λz=>z)];exact q,λb ps q=>⟨#[],by rw[zj (hm b _ q λz=>z),q];simp⟩⟩
 by_cases hbe:b=e
 .subst hbe;exact heo
 .exact⟨u,k b u hbe q⟩
end
def trk(h:BB)(H:Hp):List Addr:=(C8 h.objs.size).filter λa=>(H a).isSome
def ycg(h:BB)(H:Hp):Heap:=Cw h (trk h H)
def zhj(h:BB)(H:Hp):(ycg h H).objs.size=h.objs.size:=PySem.W.hideAll_size _ _
def zjH{h:BB}{H:Hp}{b:AI}{o:CF}(e:h.get? b=AA o)(n:H b=AD):(ycg h H).get? b=AA o:=
 FL _ e λhm=>by
  have q:(H b).isSome=true:=(GU.mp hm).2;rw[n]at q;simp at q
def zlg{h:BB}{H:Hp}{b:AI}{o:CF}(e:(ycg h H).get? b=AA o):h.get? b=AA o/\H b=none:=by
 have e':h.get? b=AA o:=F2 (trk h H) e;refine⟨e',?_⟩
 cases q:H b with
 |none=>rfl
 |some x=>
  have hm:b∈trk h H:=GU.mpr ⟨G3.mpr (AV e'),by simp[q]⟩;have z:(ycg h H).get? b=none:=PySem.W.hideAll_none (trk h H) hm;rw[z]at e;cases e
structure Mod(K:AF)(mg:AN->Option AG)(base:BB):Prop where
 kin:K.In base
 glob:base.Ns mainGlobals mg
 blt:∃mb,base.Ns builtinsNs mb/\∀x:AN,x ≠ "__name__"->mb x=bootBuiltins x
 nolimit:base.NoLimit
structure Cx where
 prog:A3
 w:Ag
 K:AF
 mg:AN->Option AG
 base:BB
 A:Ar
 N:List AN
 s₀:AJ
 H₀:Hp
 env:Env
 outer:List Env
 stack:List Env
 ex:List AI
 fn:AN->Bool
 calm:Bool
 pn:List (AI×CF)
 xe:AG->AJ->Prop
def frs(l:List Env):List Addr:=l.filterMap (·.frame)
abbrev Cx.fs(X:Cx):List Addr:=frs X.outer
def Vis(sc:Bk)(x:AN):Prop:=sc.names.lookup x=AA .local \/ sc.names.lookup x=AA .cell \/ sc.names.lookup x=AA .free
def Loc(sc:Bk)(x:AN):Prop:=sc.names.lookup x=AA .local \/ sc.names.lookup x=AA .cell
def Look(env:Env)(h:BB)(m:AN->Option AG)(x:AN)(u:AG):Prop:=
 (env.kindOf x=AA .local/\m x=AA u) \/ ((env.kindOf x=AA .cell \/ env.kindOf x=AA .free)/\∃c,env.cells.lookup x=AA c/\h.IsCell c (AA u))
structure Cx.Ok(X:Cx):Prop where
 mod:Mod X.K X.mg X.base
 kind:X.env.scope.kind=.function
 glob:X.env.globals=mainGlobals
 blt:X.env.builtins=builtinsNs
 above:X.s₀.heap.objs.size<=X.env.locals
 inj:∀x y c,X.env.cells.lookup x=AA c->X.env.cells.lookup y=AA c->x=y
 has:∀x,(X.env.kindOf x=AA .cell \/ X.env.kindOf x=AA .free)->∃c,X.env.cells.lookup x=AA c
 cab:∀x c,X.fn x=AB->X.env.cells.lookup x=AA c->X.s₀.heap.objs.size<=c
 hd:X.calm=AB->X.A.handled=AD
 frames:X.A.frames=AA X.stack
 stk:X.stack=X.outer \/ (X.stack=X.env::X.outer/\X.env.frame=AA X.env.locals)
 exf:∀b∈X.ex,b≠X.env.locals/\∀x c,X.env.cells.lookup x=AA c->c≠b
 bs:∀b o,X.base.get? b=AA o->X.s₀.heap.get? b=AA o/\X.H₀ b=AD
 bsz:X.base.objs.size<=X.s₀.heap.objs.size
 noex:∀b o,X.base.get? b=AA o->b∉X.ex
 exfs:∀b∈X.ex,b∉X.fs
 funs:X.s₀.heap.FunFrames X.base X.outer
 frf:∀b∈X.fs,X.H₀ b=AD
structure Inv(X:Cx)(π:List (AI×CF))(σ:List (Option V))(H:Hp)(s:AJ):Prop where
 ok:X.Ok
 os:s.os=X.s₀.os
 bare:D0 s.gens
 base:Un X.fs X.ex X.H₀ H X.s₀.heap s.heap
 loc:∃m,s.heap.Ns X.env.locals m/\∀(i:Nat) (x:AN) (v:V),X.N[i]?=AA x->σ[i]?=AA (AA v)->Vis X.env.scope x->∃u,RelV v u/\Look X.env s.heap m x u
 cell:∀x c,X.env.cells.lookup x=AA c->∃v,s.heap.IsCell c v
 free:H X.env.locals=AD
 freeC:∀x c,X.env.cells.lookup x=AA c->H c=AD
 pin:∀p∈X.pn++π,s.heap.get? p.1=AA p.2/\H p.1=AD/\p.1≠X.env.locals/\p.1∉X.fs/\∀v,p.2.data ≠ .cell v
 hok:HOk X.prog X.w H s.heap
 len:σ.length=X.N.length
section
variable {X:Cx}{π:List (AI×CF)}{σ:List (Option V)}{H H':Hp}{s:AJ}{h':BB}
theorem Cx.Ok.nofr(ok:X.Ok){b:AI}{o:CF}(e:X.base.get? b=AA o):b∉X.fs:=λhb=>by
 have:=(ok.funs.mem hb).1;rw[e]at this;cases this
theorem Inv.bs(I:Inv X π σ H s):∀b o,X.base.get? b=AA o->s.heap.get? b=AA o/\H b=none:=λb o e=>
 ⟨I.base.keep b o (I.ok.bs b o e).1 (I.ok.bs b o e).2 (I.ok.nofr e) (I.ok.noex b o e),I.base.free b o (I.ok.bs b o e).1 (I.ok.bs b o e).2 (I.ok.noex b o e)⟩
theorem Inv.bk(I:Inv X π σ H s):∀b o,X.base.get? b=AA o->s.heap.get? b=AA o:=λb o e=>(I.bs b o e).1
theorem Inv.mod(I:Inv X π σ H s):Mod X.K X.mg X.base:=I.ok.mod
theorem Inv.kIn(I:Inv X π σ H s):X.K.In s.heap:=I.ok.mod.kin.keeps I.bk
theorem Inv.lt(I:Inv X π σ H s):X.env.locals<s.heap.objs.size:=let ⟨_,hn,_⟩:=I.loc;hn.lt
theorem Inv.sz(I:Inv X π σ H s):X.s₀.heap.objs.size<=s.heap.objs.size:=BV I.ok.above (F8 I.lt)
theorem Inv.nofs(I:Inv X π σ H s){a:AI}(h:s.heap.objs.size<=a):a∉X.fs:=λhb=>by
 let⟨_,o,ho,_⟩:=I.ok.funs.mem hb;exact absurd (A2 (AV ho) (BV I.sz h)) (Cr _)
theorem Inv.cne(I:Inv X π σ H s):∀x c,X.env.cells.lookup x=AA c->c≠X.env.locals:=λx c e z=>by
 let⟨v,o,ho,hd⟩:=I.cell x c e;let⟨m,⟨o',es,ep,ho',hd',_⟩,_⟩:=I.loc;rw[z,ho']at ho;cases ho;rw[hd']at hd;cases hd
theorem Inv.funs(I:Inv X π σ H s):s.heap.FunFrames X.base X.outer:=by
 have all:∀(l:List Env),(∀b∈frs l,b∈X.fs)->X.s₀.heap.FunFrames X.base l->s.heap.FunFrames X.base l:=by
  intro l
  induction l with
  |nil=>intro _ _;trivial
  |cons env r ih=>
   intro hs hl;let⟨hk,⟨L,o,hf,hn,ho,hd⟩,hr⟩:=hl;have hL:L∈X.fs:=hs L (by unfold frs;rw[C1,hf];exact Aj);let⟨sl,e⟩:=I.base.slot L o ho (I.ok.frf L hL) hL λz=>I.ok.exfs L z hL;exact⟨hk,⟨L,_,hf,hn,e,hd⟩,ih (λb hb=>hs b (by unfold frs;rw[C1,hf];exact AQ _ hb)) hr⟩
 exact all X.outer (λ_ hb=>hb) I.ok.funs
theorem Inv.stack(I:Inv X π σ H s):s.heap.FunFrames X.base X.stack:=by
 rcases I.ok.stk with e|⟨e,hf⟩
 .rw[e];exact I.funs
 .rw[e];let⟨m,hn,_⟩:=I.loc;refine .cons (by rw[I.ok.kind];decide) hf hn ?_ I.funs;exact Heap.get?_none_of_le (BV I.ok.bsz I.ok.above)
theorem Inv.stkSub(I:Inv X π σ H s):∀b∈frs X.stack,b∈X.env.locals::X.fs:=λb hb=>by
 rcases I.ok.stk with e|⟨e,hf⟩
 .rw[e]at hb;exact AQ _ hb
 .rw[e]at hb;unfold frs at hb;rw[C1,hf]at hb;exact hb
theorem Inv.stkFree(I:Inv X π σ H s):∀b∈frs X.stack,H b=none:=λb hb=>by
 rcases AR.mp (I.stkSub b hb)with e|hb
 .rw[e];exact I.free
 .let⟨_,o,ho,_⟩:=I.ok.funs.mem hb;exact I.base.free b o ho (I.ok.frf b hb) λz=>I.ok.exfs b z hb
theorem Inv.step{g':Array GenState}{t':Nat}{d':Drawn}{ch:List AI}(I:Inv X π σ H s)
  (hch:∀b∈ch,(b∈X.ex \/ X.s₀.heap.objs.size<=b)/\b≠X.env.locals/\(∀x c,X.env.cells.lookup x=AA c->c≠b)/\∀p∈X.pn++π,p.1≠b)
  (keep:∀b o,b≠X.env.locals->b∉X.fs->b∉ch->s.heap.get? b=AA o->H b=AD->h'.get? b=AA o)
  (slot:∀b o,b≠X.env.locals->b∈X.fs->b∉ch->s.heap.get? b=AA o->H b=AD->∃sl,h'.get? b=AA {o with slots:=sl}) (free:∀b o,b∉ch->s.heap.get? b=AA o->H b=AD->H' b=AD)
  (there:∀b o,b∉ch->s.heap.get? b=AA o->∃o',h'.get? b=AA o')
  (tups:∀b xs,H b=AA (.tup xs)->H' b=AA (.tup xs)) (frzs:∀b o u,H b=AA (.frz o u)->H' b=AA (.frz o u)) (tbls:∀b ps,H b=AA (.tbl ps)->∃more,H' b=AA (.tbl (ps++more)))
  (ns:∀m,s.heap.Ns X.env.locals m->h'.Ns X.env.locals m) (hok:HOk X.prog X.w H' h') (hg:D0 g'):
  Inv X π σ H' {s with heap:=h',gens:=g',drawn:=d',toks:=t'}:=by
 have neL:∀b o,X.s₀.heap.get? b=AA o->b≠X.env.locals:=λb o e=>Ah (A2 (AV e) I.ok.above);have neC:∀b o,X.s₀.heap.get? b=AA o->b∉X.ex->b∉ch:=λb o e hx hb=>by
  rcases (hch b hb).1 with z|z
  .exact hx z
  .exact absurd (A2 (AV e) z) (Cr _)
 have cellK:∀x c,X.env.cells.lookup x=AA c->∀v,s.heap.IsCell c v->h'.IsCell c v:=λx c e v ⟨o,ho,hd⟩=>by
  have nch:c∉ch:=λz=>(hch c z).2.2.1 x c e rfl
  by_cases hc:c∈X.fs
  .let⟨sl,q⟩:=slot c o (I.cne x c e) hc nch ho (I.freeC x c e);exact⟨_,q,hd⟩
  .exact⟨o,keep c o (I.cne x c e) hc nch ho (I.freeC x c e),hd⟩
 refine⟨I.ok,I.os,hg,⟨λb o e n hb hx=>?_,λb o e n hb hx=>?_,λb o e n hx=>?_,λb o e hx=>?_,λb xs e=>tups b xs (I.base.tups b xs e),λb o xs e=>frzs b o xs (I.base.frzs b o xs e),λb ps e=>?_⟩,?_,λx c e=>?_,?_,λx c e=>?_,λp hp=>?_,hok,I.len⟩
 .exact keep b o (neL b o e) hb (neC b o e hx) (I.base.keep b o e n hb hx) (I.base.free b o e n hx)
 .let⟨sl,e1⟩:=I.base.slot b o e n hb hx;let⟨sl',e2⟩:=slot b _ (neL b o e) hb (neC b o e hx) e1 (I.base.free b o e n hx);exact⟨sl',e2⟩
 .let⟨o',e1⟩:=I.base.there b o e hx;exact free b o' (neC b o e hx) e1 (I.base.free b o e n hx)
 .let⟨o',e1⟩:=I.base.there b o e hx;exact there b o' (neC b o e hx) e1
 .let⟨m1,e1⟩:=I.base.tbls b ps e;let⟨m2,e2⟩:=tbls b _ e1;exact⟨m1++m2,by rw[e2,Dr]⟩
 .let⟨m,hn,hl⟩:=I.loc;refine⟨m,ns m hn,λi x v e1 e2 e3=>?_⟩;let⟨u,r,l⟩:=hl i x v e1 e2 e3;refine⟨u,r,?_⟩;rcases l with l|⟨k,c,e,z⟩
  .exact .inl l
  .exact .inr ⟨k,c,e,cellK x c e _ z⟩
 .let⟨v,z⟩:=I.cell x c e;exact⟨v,cellK x c e v z⟩
 .let⟨m,⟨o,_,_,ho,_⟩,_⟩:=I.loc;exact free _ o (λz=>(hch _ z).2.1 rfl) ho I.free
 .let⟨v,o,ho,hd⟩:=I.cell x c e;exact free c o (λz=>(hch c z).2.2.1 x c e rfl) ho (I.freeC x c e)
 .let⟨e,n,ne,nf,d⟩:=I.pin p hp;have nch:p.1∉ch:=λz=>(hch p.1 z).2.2.2 p hp rfl;exact⟨keep p.1 p.2 ne nf nch e n,free p.1 p.2 nch e n,ne,nf,d⟩
theorem Inv.un{t':Nat}(I:Inv X π σ H s)(u:Un X.fs [] H H' s.heap h')(hok:HOk X.prog X.w H' h'):Inv X π σ H' {s with heap:=h',toks:=t'}:=by
 let⟨m,⟨o,es,ep,ho,r⟩,_⟩:=id I.loc;let⟨sl,hL⟩:=u.any ho I.free (by simp);exact I.step (g':=s.gens) (d':=s.drawn) (ch:=[]) (λ_ z=>nomatch z) (λb o _ hb _ e n=>u.keep b o e n hb (by simp)) (λb o _ hb _ e n=>u.slot b o e n hb (by simp)) (λb o _ e n=>u.free b o e n (by simp)) (λb o _ e=>u.there b o e (by simp)) u.tups u.frzs u.tbls (λm' hm=>by
  let⟨o',es',ep',ho',r'⟩:=hm;rw[ho]at ho';cases ho';exact⟨_,es',ep',hL,r'⟩) hok I.bare
theorem Inv.call{g':Array GenState}{t':Nat}{d':Drawn}{ch:List AI}(I:Inv X π σ H s)(u:Un (frs X.stack) ch H H' s.heap h')(hok:HOk X.prog X.w H' h')(hg:D0 g')
  (hch:∀b∈ch,(b∈X.ex \/ X.s₀.heap.objs.size<=b)/\b≠X.env.locals/\(∀x c,X.env.cells.lookup x=AA c->c≠b)/\∀p∈X.pn++π,p.1≠b):
  Inv X π σ H' {s with heap:=h',gens:=g',drawn:=d',toks:=t'}:=by
 let⟨m,⟨o,es,ep,ho,r⟩,_⟩:=id I.loc;let⟨sl,hL⟩:=u.any ho I.free λz=>(hch _ z).2.1 rfl;exact I.step (ch:=ch) hch (λb o hL hb hc e n=>u.keep b o e n (λz=>(AR.mp (I.stkSub b z)).elim hL hb) hc) (λb o _ _ hc e n=>u.any e n hc) (λb o hc e n=>u.free b o e n hc) (λb o hc e=>u.there b o e hc) u.tups u.frzs u.tbls (λm' hm=>by
  let⟨o',es',ep',ho',r'⟩:=hm;rw[ho]at ho';cases ho';exact⟨_,es',ep',hL,r'⟩) hok hg
theorem Inv.turned{t':Nat}{it:AI}(I:Inv X π σ H s)(k:∀b o,b≠it->s.heap.get? b=AA o->h'.get? b=AA o)(hn:H it=AD)(hL:it≠X.env.locals)
  (h1:it∈X.ex \/ X.s₀.heap.objs.size<=it) (h2:∀x c,X.env.cells.lookup x=AA c->c≠it) (h3:∀p∈X.pn++π,p.1≠it):Inv X π σ H {s with heap:=h',toks:=t'}:=by
 have nit:∀b u,H b=AA u->b≠it:=λb u e z=>by rw[z,hn]at e;cases e
 refine I.step (g':=s.gens) (d':=s.drawn) (ch:=[it]) (λb hb=>?_) (λb o _ _ hc e _=>k b o (λz=>hc (by simp[z])) e) (λb o _ _ hc e _=>⟨o.slots,k b o (λz=>hc (by simp[z])) e⟩) (λ_ _ _ _ n=>n)
  (λb o hc e=>⟨o,k b o (λz=>hc (by simp[z])) e⟩) (λ_ _ e=>e) (λ_ _ _ e=>e) (λb ps e=>⟨#[],by rw[e];simp⟩) (λm hm=>?_) (λb u e=>?_) I.bare
 .have e:b=it:=by simpa using hb
  subst e;exact⟨h1,hL,h2,h3⟩
 .let⟨o,es,ep,ho,r⟩:=hm;exact⟨o,es,ep,k _ o (BE hL) ho,r⟩
 .refine(I.hok b u e).stay (λc v hc q=>k c v ?_ q) (λ_ q=>q) λ_ _ q=>q;rcases hc with z|z
  .rw[z];exact nit b u e
  .exact nit c _ z
theorem Inv.tok(I:Inv X π σ H s)(t:Nat):Inv X π σ H {s with toks:=t}:=I.un (h':=s.heap) (t':=t) Un.refl I.hok
theorem Inv.kept{t':Nat}(I:Inv X π σ H s)(k:∀b u,s.heap.get? b=AA u->h'.get? b=AA u):Inv X π σ H {s with heap:=h',toks:=t'}:=I.un (Un.kept k) (I.hok.kept k)
theorem Inv.laid{a:AI}{o:HO}{t':Nat}(I:Inv X π σ H s)(k:∀b u,s.heap.get? b=AA u->h'.get? b=AA u)(hp:s.heap.objs.size<=a)(new:yR X.prog X.w (upd H a o) h' a o):
  Inv X π σ (upd H a o) {s with heap:=h',toks:=t'}:=I.un (Un.laid k hp (I.hok.fresh hp)) (I.hok.laid k hp new)
theorem Inv.write{x e:AI}{o:HO}{t':Nat}(I:Inv X π σ H s)(mu:Mut (H x))(he:e=x \/ H e=AA (.own x))(k:∀b u,b≠e->s.heap.get? b=AA u->h'.get? b=AA u)(heo:∃u,h'.get? e=AA u)
  (new:yR X.prog X.w (upd H x o) h' x o):Inv X π σ (upd H x o) {s with heap:=h',toks:=t'}:=I.un (Un.write mu he k heo) (I.hok.write mu he k heo new)
theorem Inv.pins_of{pins':List (AI×CF)}(I:Inv X π σ H s)(h:∀p∈pins',s.heap.get? p.1=AA p.2/\H p.1=AD/\p.1≠X.env.locals/\p.1∉X.fs/\∀v,p.2.data ≠ .cell v):Inv X pins' σ H s:=
 ⟨I.ok,I.os,I.bare,I.base,I.loc,I.cell,I.free,I.freeC,λp hp=>(B1.mp hp).elim (λz=>I.pin p (Ey _ z)) (h p),I.hok,I.len⟩
def zgs{N:List AN}(hN:N.Nodup){i j:Nat}{x:AN}(a:N[i]?=AA x)(b:N[j]?=AA x):i=j:=by
 let⟨h1,e1⟩:=BI.mp a;let⟨h2,e2⟩:=BI.mp b;exact(List.getElem_inj hN).mp (e1.trans e2.symm)
def ziz{M:Model}{A:Ar}{E:AG->AJ->Prop}{i:Nat}{x:AN}{v:V}{u:AG}{Q:Unit->AJ->Prop}(I:Inv X π σ H s)(hN:X.N.Nodup)(hi:X.N[i]?=AA x)(hx:Loc X.env.scope x)(r:RelV v u)
  (h:∀s',Inv X π (σ.set i (AA v)) H s'->(∃a,C9 a s.heap s'.heap/\(a=X.env.locals \/ X.env.cells.lookup x=AA a))->Q () s') (hf:X.fn x=AB \/ X.env.scope.names.lookup x=AA .local:=by first|exact .inl rfl|exact .inr rfl|assumption):A0 M A (storeName X.env x u) Q E s:=by
 let⟨m,hn,hl⟩:=id I.loc;have hcls:(X.env.scope.kind==.class || (X.env.scope.kind==.module&&X.env.locals != X.env.globals))=false:=by rw[I.ok.kind];rfl
 have hiσ:i<σ.length:=by rw[I.len];exact(BI.mp hi).1
 have cne:=I.cne;have tracked:∀{a:AI} {h':BB},(∃o,s.heap.get? a=AA o/\H a=AD)->C9 a s.heap h'->HOk X.prog X.w H h':=λ{a h'} ha hs b ob e=>by
  let⟨_,_,hfree⟩:=ha;refine(I.hok b ob e).stay (λc w' hc q=>(hs.2 c ?_).trans q) (λ_ q=>q) λ_ _ q=>q
  rintro rfl
  rcases hc with rfl|hc
  .rw[hfree]at e;cases e
  .rw[hfree]at hc;cases hc
 rcases hx with hk|hk
 .refine wpAny_storeName_local hk hn (λh' hn' hs=>?_) hcls;let⟨oL,_,_,hoL,_⟩:=id hn;refine h _ ⟨I.ok,I.os,I.bare,⟨λb o e n hb hx=>?_,λb o e n hb hx=>?_,I.base.free,λb o e hx=>?_,I.base.tups,I.base.frzs,I.base.tbls⟩,⟨_,hn',λj y v' e1 e2 e3=>?_⟩,λy c e=>?_,I.free,I.freeC,λp hp=>?_,tracked ⟨oL,hoL,I.free⟩ hs,by simpa using I.len⟩ ⟨_,hs,.inl rfl⟩
  .exact(hs.2 b (Ah (A2 (AV e) I.ok.above))).trans (I.base.keep b o e n hb hx)
  .let⟨sl,e1⟩:=I.base.slot b o e n hb hx;exact⟨sl,(hs.2 b (Ah (A2 (AV e) I.ok.above))).trans e1⟩
  .let⟨o',e1⟩:=I.base.there b o e hx;exact⟨o',(hs.2 b (Ah (A2 (AV e) I.ok.above))).trans e1⟩
  .by_cases hj:j=i
   .subst hj;rw[hi]at e1;cases e1;rw[A4 hiσ]at e2
    cases e2
    exact⟨u,r,.inl ⟨hk,by simp⟩⟩
   .rw[AM (BE hj)]at e2;let⟨u',r',q⟩:=hl j y v' e1 e2 e3;refine⟨u',r',?_⟩;rcases q with⟨k,e⟩|⟨k,c,e,z⟩
    .refine .inl ⟨k,?_⟩;have:y≠x:=λe=>hj (zgs hN e1 (e ▸ hi));simp[this,e]
    .exact .inr ⟨k,c,e,z.sameBut hs (cne y c e)⟩
  .let⟨w',z⟩:=I.cell y c e;exact⟨w',z.sameBut hs (cne y c e)⟩
  .let⟨e,n,ne,nf,d⟩:=I.pin p hp;exact⟨(hs.2 p.1 ne).trans e,n,ne,nf,d⟩
 .have hfn:X.fn x=true:=by
   rcases hf with z|z
   .exact z
   .rw[z]at hk;cases hk
  let⟨c,hc⟩:=I.ok.has x (.inl hk);let⟨w',z⟩:=I.cell x c hc;refine wpAny_storeName_cell I.ok.kind hk hc z (λh' hc' hs=>?_);let⟨oc,hoc,hocd⟩:=id z;refine h {s with heap:=h'} ⟨I.ok,I.os,I.bare,⟨λb o e n hb hx=>?_,λb o e n hb hx=>?_,I.base.free,λb o e hx=>?_,I.base.tups,I.base.frzs,I.base.tbls⟩,⟨m,hn.sameBut hs (BE (cne x c hc)),λj y v' e1 e2 e3=>?_⟩,λy c' e=>?_,I.free,I.freeC,λp hp=>?_,tracked ⟨oc,hoc,I.freeC x c hc⟩ hs,by simpa using I.len⟩ ⟨c,hs,.inr hc⟩
  .exact(hs.2 b (Ah (A2 (AV e) (I.ok.cab x c hfn hc)))).trans (I.base.keep b o e n hb hx)
  .let⟨sl,e1⟩:=I.base.slot b o e n hb hx;exact⟨sl,(hs.2 b (Ah (A2 (AV e) (I.ok.cab x c hfn hc)))).trans e1⟩
  .let⟨o',e1⟩:=I.base.there b o e hx;exact⟨o',(hs.2 b (Ah (A2 (AV e) (I.ok.cab x c hfn hc)))).trans e1⟩
  .by_cases hj:j=i
   .subst hj;rw[hi]at e1;cases e1;rw[A4 hiσ]at e2
    cases e2
    exact⟨u,r,.inr ⟨.inl hk,c,hc,hc'⟩⟩
   .rw[AM (BE hj)]at e2;let⟨u',r',q⟩:=hl j y v' e1 e2 e3;refine⟨u',r',?_⟩;rcases q with q|⟨k,c',e,z'⟩
    .exact .inl q
    .refine .inr ⟨k,c',e,z'.sameBut hs ?_⟩
     rintro rfl
     exact hj (zgs hN e1 (I.ok.inj _ _ _ e hc ▸ hi))
  .by_cases hcc:c'=c
   .subst hcc;exact⟨_,hc'⟩
   .let⟨w2,z2⟩:=I.cell y c' e;exact⟨w2,z2.sameBut hs hcc⟩
  .let⟨e,n,ne,nf,d⟩:=I.pin p hp;refine⟨(hs.2 p.1 ?_).trans e,n,ne,nf,d⟩;intro q;rw[q,hoc]at e;have q':oc=p.2:=AW e;exact d w' (by rw[<-q'];exact hocd)
def zci{M:Model}{A:Ar}{E:AG->AJ->Prop}{i:Nat}{x:AN}{v:V}{u:AG}{Q:Unit->AJ->Prop}(I:Inv X π σ H s)(hN:X.N.Nodup)(hi:X.N[i]?=AA x)(hx:Loc X.env.scope x)(r:RelV v u)
  (h:∀s',Inv X π (σ.set i (AA v)) H s'->Q () s') (hf:X.fn x=AB \/ X.env.scope.names.lookup x=AA .local:=by first|exact .inl rfl|exact .inr rfl|assumption):A0 M A (storeName X.env x u) Q E s:=
 ziz I hN hi hx r (λs' I' _=>h s' I') hf
theorem Inv.call'{s':AJ}{ch:List AI}(I:Inv X π σ H s)(ho:s'.os=s.os)(u:Un (frs X.stack) ch H H' s.heap s'.heap)(hok:HOk X.prog X.w H' s'.heap)(hg:D0 s'.gens)
  (hch:∀b∈ch,(b∈X.ex \/ X.s₀.heap.objs.size<=b)/\b≠X.env.locals/\(∀x c,X.env.cells.lookup x=AA c->c≠b)/\∀p∈X.pn++π,p.1≠b):Inv X π σ H' s':=by
 let⟨h',g',d',t',o'⟩:=s';have e:o'=s.os:=ho;subst e;exact I.call (g':=g') (t':=t') (d':=d') u hok hg hch
end
abbrev XK:=AG->Option AI->Hp->Prop
abbrev St:=List (Option V)
abbrev VK:=V->Hp->Prop
abbrev TE:=St->Hp->VK->Prop
abbrev TT:=St->Hp->(Bool->Hp->Prop)->Prop
abbrev TA:=St->Hp->(List V->Hp->Prop)->Prop
structure Ends where
 nx:St->Hp->Prop
 rt:VK
 bk:St->Hp->Prop:=λ_ _=>False
 ct:St->Hp->Prop:=λ_ _=>False
abbrev TS:=Ends->St->Hp->Prop
def EP(X:Cx)(π:List (AI×CF))(σ:St)(Q:VK)(u:AG)(s':AJ):Prop:=∃v H',Inv X π σ H' s'/\RelV v u/\Q v H'
def TP(X:Cx)(π:List (AI×CF))(σ:St)(Q:Bool->Hp->Prop)(b:Bool)(s':AJ):Prop:=∃H',Inv X π σ H' s'/\Q b H'
def AP(X:Cx)(π:List (AI×CF))(σ:St)(Q:List V->Hp->Prop)(us:List AG)(s':AJ):Prop:=∃vs H',Inv X π σ H' s'/\Vals vs us/\Q vs H'
def SP(X:Cx)(π:List (AI×CF))(D:Ends)(f:Flow)(s':AJ):Prop:=
 match f with
 |.next=>∃σ' H',Inv X π σ' H' s'/\D.nx σ' H'
 |.brk=>∃σ' H',Inv X π σ' H' s'/\D.bk σ' H'
 |.cont=>∃σ' H',Inv X π σ' H' s'/\D.ct σ' H'
 |.ret u=>∃v σ' H',Inv X π σ' H' s'/\RelV v u/\D.rt v H'
def PE(X:Cx)(e:AS)(t:TE):Prop:=
 ∀(π:List (AI×CF)) (s:AJ) (σ:St) (H:Hp) (Q:VK),Inv X π σ H s->t σ H Q->A0 (model X.prog X.w) X.A (eval e X.env) (EP X π σ Q) X.xe s
def PT(X:Cx)(e:AS)(t:TT):Prop:=
 ∀(π:List (AI×CF)) (s:AJ) (σ:St) (H:Hp) (Q:Bool->Hp->Prop),Inv X π σ H s->t σ H Q->A0 (model X.prog X.w) X.A (isTrue e X.env (eval e X.env)) (TP X π σ Q) X.xe s
def PW(X:Cx)(e:AS)(t:TT):Prop:=
 ∀(whole:Gg AG) (π:List (AI×CF)) (s:AJ) (σ:St) (H:Hp) (Q:Bool->Hp->Prop),Inv X π σ H s->t σ H Q->A0 (model X.prog X.w) X.A (isTrue e X.env whole) (TP X π σ Q) X.xe s
theorem PW.pt{X:Cx}{e:AS}{t:TT}(h:PW X e t):PT X e t:=h _
def PA(X:Cx)(es:List AS)(t:TA):Prop:=
 ∀(pos:CT) (π:List (AI×CF)) (s:AJ) (σ:St) (H:Hp) (Q:List V->Hp->Prop),Inv X π σ H s->t σ H Q->A0 (model X.prog X.w) X.A (spliced (backTo pos (starEach es X.env))) (AP X π σ Q) X.xe s
def PS(X:Cx)(st:Bz)(t:TS):Prop:=
 ∀(π:List (AI×CF)) (s:AJ) (σ:St) (H:Hp) (D:Ends),Inv X π σ H s->t D σ H->A0 (model X.prog X.w) X.A (exec st X.env) (SP X π D) X.xe s
def PSs(X:Cx)(st:List Bz)(t:TS):Prop:=
 ∀(π:List (AI×CF)) (s:AJ) (σ:St) (H:Hp) (D:Ends),Inv X π σ H s->t D σ H->A0 (model X.prog X.w) X.A (execs st X.env) (SP X π D) X.xe s
theorem thn{α:Type}{t:Gg α}{Q Q':α->AJ->Prop}{M:Model}{A:Ar}{E:AG->AJ->Prop}{s:AJ}(h:A0 M A t Q E s)(hQ:∀a s,Q a s->Q' a s):A0 M A t Q' E s:=CW h hQ λ_ _ x=>x
section
variable {X:Cx}
theorem bin{a b:AS}{ta tb:TE}(ha:PE X a ta)(hb:PE X b tb){π:List (AI×CF)}{s:AJ}{σ:St}{H:Hp}{R:V->V->Hp->Prop}(I:Inv X π σ H s)(h:ta σ H λx H1=>tb σ H1 λy H2=>R x y H2)
  {α:Type} {Q:α->AJ->Prop} {f:AG->AG->Gg α}
  (hf:∀v u s2 x y H2,Inv X π σ H2 s2->RelV x v->RelV y u->R x y H2->A0 (model X.prog X.w) X.A (f v u) Q X.xe s2):
  A0 (model X.prog X.w) X.A (eval a X.env) (λv s₁=>A0 (model X.prog X.w) X.A (eval b X.env) (λu s₂=>A0 (model X.prog X.w) X.A (f v u) Q X.xe s₂) X.xe s₁) X.xe s:=by
 refine thn (ha π s σ H _ I h) λv s1 kq=>?_;let⟨x,H1,I1,r1,q1⟩:=kq;refine thn (hb π s1 σ H1 _ I1 q1) λu s2 kq=>?_;let⟨y,H2,I2,r2,q2⟩:=kq;exact hf v u s2 x y H2 I2 r1 r2 q2
def ygF(i:Nat):TE:=λσ H Q=>∃v,σ[i]?=AA (AA v)/\Q v H
def tC(v:V):TE:=λ_ H Q=>Q v H
def zky{i:Nat}{x:AN}{pos:CT}(hN:X.N[i]?=AA x)(hv:Vis X.env.scope x)(hd:(x==("__debug__":AN))=false:=by decide)(hcd:(x==("__classdict__":AN))=false:=by decide):PE X (.Name x pos) (ygF i):=by
 intro π s σ H Q I h;let⟨v,e,h⟩:=h;let⟨m,hn,hl⟩:=I.loc;let⟨u,r,l⟩:=hl i x v hN e hv;have fin:EP X π σ Q u s:=⟨v,H,I,r,h⟩;rcases l with⟨hk,hm⟩|⟨hk,c,hc,hcell⟩
 .exact G4 (Ez I.ok.kind hk hn hm fin) hd
 .rcases hk with hk|hk
  .exact G4 (FM I.ok.kind hk hc hcell fin) hd
  .exact G4 (wpAny_loadName_free I.ok.kind hk hc hcell fin hcd) hd
def zpT{i j pos}:PE X (.Constant (.int i) j pos) (tC (.int i)):=λ_ _ _ H _ I h=>wpAny_Constant_int ⟨.int i,H,I.tok _,⟨_,rfl⟩,h⟩
def zpU{b j pos}:PE X (.Constant (.bool b) j pos) (tC (.bl b)):=λ_ _ _ H _ I h=>Constant_bool ⟨.bl b,H,I,rfl,h⟩
def zpV{j pos}:PE X (.Constant .none j pos) (tC .non):=λ_ _ _ H _ I h=>Constant_none ⟨.non,H,I,rfl,h⟩
def zpW{x j pos}:PE X (.Constant (.str x) j pos) (tC (.str x)):=λ_ _ _ H _ I h=>Calls.Constant_str ⟨.str x,H,I.tok _,⟨_,rfl⟩,h⟩
def Gl(X:Cx)(x:AN):Prop:=X.env.kindOf x=AA .globalImplicit
def zdA{E:AG->AJ->Prop}{π:List (AI×CF)}{s:AJ}{σ:St}{H:Hp}{x:AN}{u:AG}{pos:CT}{Q:AG->AJ->Prop}(I:Inv X π σ H s)(hg:Gl X x)(hm:X.mg x=AA u)(h:Q u s)
  (hd:(x==("__debug__":AN))=false:=by decide):A0 (model X.prog X.w) X.A (eval (.Name x pos) X.env) Q E s:=
 Ds I.ok.kind hg (Calls.loadGlobal_global (by rw[I.ok.glob];exact I.mod.glob.keeps I.bk) hm h) hd
def zd0{E:AG->AJ->Prop}{π:List (AI×CF)}{s:AJ}{σ:St}{H:Hp}{x:AN}{u:AG}{pos:CT}{Q:AG->AJ->Prop}(I:Inv X π σ H s)(hg:Gl X x)(hm:X.mg x=AD)(hv:bootBuiltins x=AA u)(h:Q u s)
  (hn:x ≠ "__name__":=by decide) (hd:(x==("__debug__":AN))=false:=by decide):A0 (model X.prog X.w) X.A (eval (.Name x pos) X.env) Q E s:=by
 let⟨mb,h1,h2⟩:=I.mod.blt;exact Ds I.ok.kind hg (Calls.loadGlobal_builtin (by rw[I.ok.glob];exact I.mod.glob.keeps I.bk) hm (by rw[I.ok.blt];exact h1.keeps I.bk) ((h2 x hn).trans hv) h) hd
def zdC{x:AN}{v:V}{u:AG}{pos:CT}(hg:Gl X x)(hm:X.mg x=AA u)(r:RelV v u)(hd:(x==("__debug__":AN))=false:=by decide):PE X (.Name x pos) (tC v):=
 λ_ _ _ H _ I h=>zdA I hg hm ⟨v,H,I,r,h⟩ hd
def zlW{x:AN}{v:V}{u:AG}{pos:CT}(hg:Gl X x)(hm:X.mg x=AD)(hv:bootBuiltins x=AA u)(r:RelV v u)(hn:x ≠ "__name__":=by decide)(hd:(x==("__debug__":AN))=false:=by decide):PE X (.Name x pos) (tC v):=
 λ_ _ _ H _ I h=>zd0 I hg hm hv ⟨v,H,I,r,h⟩ hn hd
variable {a b:AS}{ta tb:TE}{pos:CT}
variable {tA tB':TT}{rest:List AS}
def yfJ(t u:TT):TT:=λσ H Q=>t σ H λc H1=>if c=AB then u σ H1 Q else Q AC H1
def tOr(t u:TT):TT:=λσ H Q=>t σ H λc H1=>if c=AB then Q AB H1 else u σ H1 Q
def yfz(t:TT):TT:=λσ H Q=>t σ H λc H1=>Q (!c) H1
def zlH(ha:PT X a tA):PW X (.BoolOp .And [a] pos) tA:=by
 intro wh π s σ H Q I h;refine isTrue_and (thn (ha π s σ H Q I h) λc s1 e=>?_)
 cases c with
 |true=>exact isTrue_and_nil e
 |false=>exact e
def znk(ha:PT X a tA):PW X (.BoolOp .Or [a] pos) tA:=by
 intro wh π s σ H Q I h;refine isTrue_or (thn (ha π s σ H Q I h) λc s1 e=>?_)
 cases c with
 |false=>exact isTrue_or_nil e
 |true=>exact e
def zoq(ha:PT X a tA)(hb:PW X (.BoolOp .And (b::rest) pos) tB'):PW X (.BoolOp .And (a::b::rest) pos) (yfJ tA tB'):=by
 intro wh π s σ H Q I h;refine isTrue_and (thn (ha π s σ H _ I h) λc s1 kq=>?_);let⟨H1,I1,q1⟩:=kq
 cases c with
 |true=>exact hb wh π s1 σ H1 Q I1 q1
 |false=>exact⟨H1,I1,q1⟩
def zpq(ha:PT X a tA)(hb:PW X (.BoolOp .Or (b::rest) pos) tB'):PW X (.BoolOp .Or (a::b::rest) pos) (tOr tA tB'):=by
 intro wh π s σ H Q I h;refine isTrue_or (thn (ha π s σ H _ I h) λc s1 kq=>?_);let⟨H1,I1,q1⟩:=kq
 cases c with
 |true=>exact⟨H1,I1,q1⟩
 |false=>exact hb wh π s1 σ H1 Q I1 q1
def zoQ(ha:PT X a tA):PT X (.UnaryOp .Not a pos) (yfz tA):=by
 intro π s σ H Q I h;exact isTrue_not (ha π s σ H (λc H1=>Q (!c) H1) I h)
def yed(ta tb:TE):TE:=λσ H Q=>ta σ H λx H1=>∃c,x=.bl c/\if c=AB then tb σ H1 Q else Q (.bl AC) H1
def ygx(ta tb:TE):TE:=λσ H Q=>ta σ H λx H1=>∃c,x=.bl c/\if c=AB then Q (.bl AB) H1 else tb σ H1 Q
def yez(ta:TE):TE:=λσ H Q=>ta σ H λx H1=>∃c,x=.bl c/\Q (.bl (!c)) H1
def zoM{op}{t:TE}(h:PE X a t):PE X (.BoolOp op [a] pos) t:=λπ s σ H Q I hw=>BoolOp_one (h π s σ H Q I hw)
def znV(ha:PE X a ta)(hb:PE X (.BoolOp .And (b::rest) pos) tb):PE X (.BoolOp .And (a::b::rest) pos) (yed ta tb):=by
 intro π s σ H Q I h;refine BoolOp_and (thn (ha π s σ H _ I h) λv s1 kq=>?_);let⟨x,H1,I1,r1,q1⟩:=kq;let⟨c,rfl,q1⟩:=q1
 cases r1
 refine BW ?_
 cases c with
 |true=>exact hb π s1 σ H1 Q I1 q1
 |false=>exact⟨.bl AC,H1,I1,rfl,q1⟩
def zpp(ha:PE X a ta)(hb:PE X (.BoolOp .Or (b::rest) pos) tb):PE X (.BoolOp .Or (a::b::rest) pos) (ygx ta tb):=by
 intro π s σ H Q I h;refine BoolOp_or (thn (ha π s σ H _ I h) λv s1 kq=>?_);let⟨x,H1,I1,r1,q1⟩:=kq;let⟨c,rfl,q1⟩:=q1
 cases r1
 refine BW ?_
 cases c with
 |false=>exact hb π s1 σ H1 Q I1 q1
 |true=>exact⟨.bl AB,H1,I1,rfl,q1⟩
def zoR(ha:PE X a ta):PE X (.UnaryOp .Not a pos) (yez ta):=by
 intro π s σ H Q I h;refine UnaryOp_ (thn (ha π s σ H _ I h) λv s1 kq=>?_);let⟨x,H1,I1,r1,q1⟩:=kq;let⟨c,rfl,q1⟩:=q1
 cases r1
 exact not_of (BW ⟨.bl (!c),H1,I1,rfl,q1⟩)
def tIf(t:TT)(ta tb:TE):TE:=λσ H Q=>t σ H λc H1=>if c=AB then ta σ H1 Q else tb σ H1 Q
def zkl{c:AS}(hc:PT X c tA)(ha:PE X a ta)(hb:PE X b tb):PE X (.IfExp c a b pos) (tIf tA ta tb):=by
 intro π s σ H Q I h;refine wpAny_IfExp (thn (hc π s σ H _ I h) λd s1 kq=>?_);let⟨H1,I1,q1⟩:=kq
 cases d with
 |true=>exact ha π s1 σ H1 Q I1 q1
 |false=>exact hb π s1 σ H1 Q I1 q1
end
def SqL(K:AF)(H:Hp)(a:AI)(xs:List V):Prop:=
 Rd H a (.lst xs) \/
  ∃(o:CF) (its:Array AG) (n:Nat),K.lookup a=AA o/\o.cls=.type "list"/\o.dict=AD/\o.data=.seq its n/\its.size<=sizeLine/\Vals xs its.toList
def SqT(K:AF)(H:Hp)(a:AI)(xs:List V):Prop:=
 Rd H a (.tup xs) \/
  ∃(o:CF) (its:Array AG) (n:Nat),K.lookup a=AA o/\o.cls=.type "tuple"/\o.data=.seq its n/\its.size<=sizeLine/\Vals xs its.toList
def yf4:AG->Option V
 |.none=>AA .non
 |.bool b=>AA (.bl b)
 |.int i _=>AA (.int i)
 |.str x _=>AA (.str x)
 |.bytes b _=>AA (.byt b)
 |.float b _=>AA (.flt b)
 |.ref a=>AA (.ref a)
 |.type n=>AA (.ty n)
 |_=>AD
theorem RelV.abs{x:V}{u:AG}(r:RelV x u):yf4 u=AA x:=by
 cases x with
 |non=>cases r;rfl
 |bl _=>cases r;rfl
 |int _=>let⟨t,rfl⟩:=r;rfl
 |str _=>let⟨t,rfl⟩:=r;rfl
 |byt _=>let⟨t,rfl⟩:=r;rfl
 |flt _=>let⟨t,rfl⟩:=r;rfl
 |ref _=>cases r;rfl
 |ty _=>cases r;rfl
theorem RelV.inj{x y:V}{u:AG}(r:RelV x u)(q:RelV y u):x=y:=AW (r.abs.symm.trans q.abs)
theorem Vals.inj:∀{xs ys:List V} {us:List AG},Vals xs us->Vals ys us->xs=ys
 |_,_,_,.nil,.nil=>rfl
 |_,_,_,.cons r t,.cons r' t'=>by rw[r.inj r',Vals.inj t t']
section
variable {X:Cx}{π:List (AI×CF)}{σ:St}{H:Hp}{s:AJ}{a:AI}{xs ys:List V}
theorem SqL.of{K:AF}(h:H a=AA (.lst xs)):SqL K H a xs:=.inl (.inl h)
theorem Inv.list(I:Inv X π σ H s)(h:SqL X.K H a xs):∃its:List AG,Vals xs its/\PlainL s.heap a its.toArray/\xs.length<=sizeLine:=by
 rcases h with h|⟨o,its,n,hk,hc,hd,hs,hz,r⟩
 .let⟨z,its,n,r,e⟩:=h.ok I.hok;exact⟨its,r,⟨_,n,e,rfl,rfl,rfl⟩,z⟩
 .refine⟨its.toList,r,⟨o,n,I.kIn a o hk,hc,hd,by simpa using hs⟩,?_⟩;have e:=r.length;erw[CG]at e;lia
theorem Inv.tuple(I:Inv X π σ H s)(h:SqT X.K H a xs):∃its:List AG,Vals xs its/\HG s.heap a its.toArray/\xs.length<=sizeLine:=by
 rcases h with h|⟨o,its,n,hk,hc,hs,hz,r⟩
 .let⟨z,its,r,p⟩:=h.ok I.hok;exact⟨its,r,p,z⟩
 .refine⟨its.toList,r,⟨o,I.kIn a o hk,hc,n,by simpa using hs⟩,?_⟩;have e:=r.length;erw[CG]at e;lia
theorem Inv.list_inj(I:Inv X π σ H s)(h:SqL X.K H a xs)(h':SqL X.K H a ys):xs=ys:=by
 let⟨its,r,⟨o,n,e,_,_,d⟩,_⟩:=I.list h;let⟨its',r',⟨o',n',e',_,_,d'⟩,_⟩:=I.list h';rw[e]at e';cases e';rw[d]at d';injection d' with d1 _;have:its=its':=by simpa using congrArg Gp d1
 subst this;exact r.inj r'
theorem Inv.tuple_inj(I:Inv X π σ H s)(h:SqT X.K H a xs)(h':SqT X.K H a ys):xs=ys:=by
 let⟨its,r,⟨o,e,_,n,d⟩,_⟩:=I.tuple h;let⟨its',r',⟨o',e',_,n',d'⟩,_⟩:=I.tuple h';rw[e]at e';cases e';rw[d]at d';injection d' with d1 _;have:its=its':=by simpa using congrArg Gp d1
 subst this;exact r.inj r'
end
section
variable {X:Cx}{π:List (AI×CF)}{σ:St}{H:Hp}{s:AJ}{E:AG->AJ->Prop}
end
section
variable {X:Cx}{st:Bz}{rest:List Bz}{t u:TS}{e:AS}{te:TE}{pos:CT}
def ydX:TS:=λD σ H=>D.nx σ H
def ygy(t u:TS):TS:=λD σ H=>t {D with nx:=u D} σ H
def zpX:PSs X [] ydX:=λ_ _ σ H _ I h=>D9 ⟨σ,H,I,h⟩
def zf0(h1:PS X st t)(h2:PSs X rest u):PSs X (st::rest) (ygy t u):=by
 intro π s σ H D I h;refine Fw (thn (h1 π s σ H {D with nx:=u D} I h) λf s1 q=>?_)
 cases f with
 |next=>
  let⟨σ',H',I',q⟩:=q;exact h2 π s1 σ' H' D I' q
 |ret v=>exact q
 |brk=>exact q
 |cont=>exact q
def zk4(h1:PS X st t):PSs X [st] t:=by
 intro π s σ H D I h;refine Fw (thn (h1 π s σ H D I h) λf s1 q=>?_)
 cases f with
 |next=>exact D9 q
 |ret v=>exact q
 |brk=>exact q
 |cont=>exact q
theorem Inv.quiet{π:List (AI×CF)}{σ:St}{H:Hp}{s:AJ}(I:Inv X π σ H s):interactive X.env=false:=by simp[interactive,I.ok.kind]
def yem(te:TE):TS:=λD σ H=>te σ H λ_ H1=>D.nx σ H1
def zmn(he:PE X e te)(hs:swapsWith e AD pos.line X.env=pure false:=by rfl):PS X (.Expr e pos) (yem te):=by
 intro π s σ H D I h;exact wpAny_Expr_any (thn (he π s σ H _ I h) λv s1 ⟨x,H1,I1,r1,q1⟩=>⟨σ,H1,I1,q1⟩) I.quiet hs
def ygz(te:TE):TS:=λD σ H=>te σ H D.rt
def zkt(he:PE X e te):PS X (.Return (AA e) pos) (ygz te):=by
 intro π s σ H D I h;exact wpAny_Return_some (thn (he π s σ H _ I h) λv s1 ⟨x,H1,I1,r1,q1⟩=>⟨x,σ,H1,I1,r1,q1⟩)
def yeI:TS:=λD _ H=>D.rt .non H
def zpY:PS X (.Return AD pos) yeI:=λ_ _ σ H _ I h=>wpAny_Return_none ⟨.non,σ,H,I,rfl,h⟩
def ygB(c:TT)(t u:TS):TS:=λD σ H=>c σ H λb H1=>if b=AB then t D σ H1 else u D σ H1
def zpC{c:AS}{a b:List Bz}{tc:TT}(hc:PT X c tc)(ha:PSs X a t)(hb:PSs X b u):PS X (.If c a b pos) (ygB tc t u):=by
 intro π s σ H D I h;refine wpAny_If (thn (hc π s σ H _ I h) λd s1 kq=>?_);let⟨H1,I1,q1⟩:=kq
 cases d with
 |true=>exact ha π s1 σ H1 D I1 q1
 |false=>exact hb π s1 σ H1 D I1 q1
end
abbrev TG:=V->St->Hp->(St->Hp->Prop)->Prop
abbrev TGs:=List V->St->Hp->(St->Hp->Prop)->Prop
def PG(X:Cx)(target:AS)(t:TG):Prop:=
 ∀(π:List (AI×CF)) (s:AJ) (σ:St) (H:Hp) (v:V) (u:AG) (Q:St->Hp->Prop),Inv X π σ H s->RelV v u->t v σ H Q ->
  A0 (model X.prog X.w) X.A (assign target X.env u) (λ_ s'=>∃σ' H',Inv X π σ' H' s'/\Q σ' H') X.xe s
def PGs(X:Cx)(ts:List AS)(t:TGs):Prop:=
 ∀(π:List (AI×CF)) (s:AJ) (σ:St) (H:Hp) (vs:List V) (us:List AG) (Q:St->Hp->Prop),Inv X π σ H s->Vals vs us->t vs σ H Q ->
  A0 (model X.prog X.w) X.A (assignInOrder ((assignEach ts X.env).map (·.2)) us) (λ_ s'=>∃σ' H',Inv X π σ' H' s'/\Q σ' H') X.xe s
abbrev yeg:=V->V->V->Hp->(Hp->Prop)->Prop
def yfa(X:Cx)(t:yeg):Prop:=
 ∀(π:List (AI×CF)) (s:AJ) (σ:St) (H:Hp) (o i v:V) (ov iv u:AG) (Q:Hp->Prop),Inv X π σ H s->RelV o ov->RelV i iv->RelV v u->t o i v H Q ->
  A0 (model X.prog X.w) X.A (setItem ov iv u) (λ_ s'=>∃H',Inv X π σ H' s'/\Q H') X.xe s
abbrev TIp:=V->V->Hp->VK->Prop
def PIp(X:Cx)(op:D7)(t:TIp):Prop:=
 ∀(π:List (AI×CF)) (s:AJ) (σ:St) (H:Hp) (x y:V) (v u:AG) (Q:VK),Inv X π σ H s->RelV x v->RelV y u->t x y H Q ->
  A0 (model X.prog X.w) X.A (inplaceOp op v u) (EP X π σ Q) X.xe s
section
variable {X:Cx}{pos:CT}
def yda(i:Nat):TG:=λv σ H Q=>Q (σ.set i (AA v)) H
def ziK{i:Nat}{x:AN}(hN:X.N.Nodup)(hi:X.N[i]?=AA x)(hx:Loc X.env.scope x)(hf:X.fn x=AB \/ X.env.scope.names.lookup x=AA .local:=by first|exact .inl rfl|exact .inr rfl|assumption):PG X (.Name x pos) (yda i):=by
 intro π s σ H v u Q I r h;exact wpAny_assign_Name (zci I hN hi hx r (λs' I'=>⟨_,H,I',h⟩) hf)
def ygo:TGs:=λvs σ H Q=>vs=[]/\Q σ H
def yey(t:TG)(u:TGs):TGs:=λvs σ H Q=>∃v r,vs=v::r/\t v σ H λσ' H'=>u r σ' H' Q
def zpZ:PGs X [] ygo:=by
 intro π s σ H vs us Q I r h;let⟨e,h⟩:=h;subst e
 cases r
 exact F9 ⟨σ,H,I,h⟩
def zjB{e:AS}{es:List AS}{t:TG}{u:TGs}(h1:PG X e t)(h2:PGs X es u)
  (hs:(assignEach (e::es) X.env).map (·.2)=assign e X.env::(assignEach es X.env).map (·.2):=by rfl):PGs X (e::es) (yey t u):=by
 intro π s σ H vs us Q I r h;let⟨v,vr,e1,h⟩:=h;subst e1
 cases r with
 |cons r rr=>
  rw[hs];refine Dt (thn (h1 π s σ H _ _ _ I r h) λ_ s1 kq=>?_);let⟨σ1,H1,I1,q1⟩:=kq;exact h2 π s1 σ1 H1 _ _ Q I1 rr q1
def yfu(K:AF)(n:Nat)(t:TGs):TG:=λv σ H Q=>∃a xs,v=.ref a/\SqT K H a xs/\xs.length=n/\t xs σ H Q
def znH{es:List AS}{k:Nat}{t:TGs}{n:Nat}(hc:X.calm=AB)(h:PGs X es t)
  (hn:(assignEach es X.env).length=n:=by rfl) (hst:(assignEach es X.env).findIdx? (·.1)=none:=by rfl):PG X (.Tuple es k pos) (yfu X.K n t):=by
 intro π s σ H v u Q I r hw;let⟨a,xs,e1,hq,hl,hw⟩:=hw;subst e1
 cases r
 let⟨its,rv,ht,hz⟩:=I.tuple hq;refine assign_Tuple_tuple (I.ok.hd hc) ht (by simp[hn,<-hl,rv.length]) hst λh' hx=>?_;have I1:Inv X π σ H {s with heap:=h'}:=I.kept (t':=s.toks) λb o e=>hx b o (Ah (AV e)) e;exact h π _ σ H xs _ Q I1 (by simpa using rv) hw
def yfh(to ti:TE)(t:yeg):TG:=λv σ H Q=>to σ H λo H1=>ti σ H1 λi H2=>t o i v H2 λH3=>Q σ H3
def zkI{o i:AS}{to ti:TE}{t:yeg}(ho:PE X o to)(hi:PE X i ti)(hs:yfa X t)
  (ha:∀v,assign (.Subscript o i pos) X.env v=(do
   let ov <-holding [v] (eval o X.env)
   let iv <-holding [v,ov] (eval i X.env)
   standAt pos
   holding [v,ov,iv] (setItem ov iv v)
   release [v,ov,iv] []):=by intro _;rfl):PG X (.Subscript o i pos) (yfh to ti t):=by
 intro π s σ H v u Q I r h;rw[ha];refine AH (D3 (thn (ho π s σ H _ I h) λov s1 kq=>?_));let⟨x,H1,I1,r1,q1⟩:=kq;refine AH (D3 (thn (hi π s1 σ H1 _ I1 q1) λiv s2 kq=>?_));let⟨y,H2,I2,r2,q2⟩:=kq;refine AH (ES (AH (D3 (thn (hs π s2 σ H2 x y v ov iv u _ I2 r1 r2 r q2) λ_ s3 kq=>?_))));let⟨H3,I3,q3⟩:=kq;exact wpAny_release ⟨σ,H3,I3,q3⟩
def ye6(te:TE)(g:TG):TS:=λD σ H=>te σ H λx H1=>g x σ H1 D.nx
def zkF{tg e:AS}{te:TE}{g:TG}(he:PE X e te)(hg:PG X tg g)(hs:swapsWithSole [tg] e pos.line X.env=pure false:=by rfl)(hw:swappedStores [tg] e X.env=pure none:=by rfl)
  (h1:(assignEach [tg] X.env).map (·.2)=[assign tg X.env]:=by rfl):PS X (.Assign [tg] e pos) (ye6 te g):=by
 intro π s σ H D I h;refine wpAny_Assign_stores (thn (he π s σ H _ I h) λv s1 kq=>?_) hs hw;let⟨x,H1,I1,r1,q1⟩:=kq;rw[h1];exact thn (hg π s1 σ H1 x v _ I1 r1 q1) λ_ s2 q=>q
def zkW{i:Nat}{x:AN}{e:AS}{te:TE}{pos':CT}(hN:X.N.Nodup)(hi:X.N[i]?=AA x)(hx:Loc X.env.scope x)(he:PE X e te)(hs:swapsWith e (AA (.Name x pos')) pos.line X.env=pure false:=by rfl)(hf:X.fn x=AB \/ X.env.scope.names.lookup x=AA .local:=by first|exact .inl rfl|exact .inr rfl|assumption):
  PS X (.Assign [.Name x pos'] e pos) (ye6 te (yda i)):=by
 intro π s σ H D I h;refine wpAny_Assign_Name (thn (he π s σ H _ I h) λv s1 kq=>?_) hs;let⟨y,H1,I1,r1,q1⟩:=kq;exact zci I1 hN hi hx r1 (λs2 I2=>⟨_,H1,I2,q1⟩) hf
def ye8(i j:Nat)(ta:TA):TS:=λD σ H=>ta σ H λvs H1=>∃v w,vs=[v,w]/\D.nx ((σ.set i (AA v)).set j (AA w)) H1
def zov{i j:Nat}{x y:AN}{a b:AS}{ta:TA}{px py pt:CT}{kt k2 pt2}(hc:X.calm=AB)(hN:X.N.Nodup)(hi:X.N[i]?=AA x)(hj:X.N[j]?=AA y)(hij:i≠j)
  (hx:X.env.scope.names.lookup x=AA .local) (hy:X.env.scope.names.lookup y=AA .local) (ha:PA X [a,b] ta)
  (hw:swappedStores [.Tuple [.Name x px,.Name y py] kt pt] (.Tuple [a,b] k2 pt2) X.env=pure (AA [x,y]))
  (hs:swapsWithSole [.Tuple [.Name x px,.Name y py] kt pt] (.Tuple [a,b] k2 pt2) pos.line X.env=pure false:=by rfl):
  PS X (.Assign [.Tuple [.Name x px,.Name y py] kt pt] (.Tuple [a,b] k2 pt2) pos) (ye8 i j ta):=by
 intro π s σ H D I h;rw[exec_Assign_arm];refine AH (ES ?_);rw[hs];refine AH (AU ?_);rw[if_neg ⋯];refine AH (Tuple_ (thn (ha _ π s σ H _ I h) λus s1 kq=>?_));let⟨vs,H1,I1,r1,q1⟩:=kq;let⟨v,w,e1,q1⟩:=q1;subst e1;obtain⟨u1,u2,rfl,rv,rw'⟩:∃u1 u2,us=[u1,u2]/\RelV v u1/\RelV w u2:=by
  cases r1 with
  |cons p q=>
   cases q with
   |cons p' q'=>
    cases q'
    exact⟨_,_,rfl,p,p'⟩
 refine Bl ?_ (by show 2<=sizeLine;decide);have I2:Inv X π σ H1 {s1 with heap:=s1.heap.push {cls:=.type "tuple",data:=.seq [u1,u2].toArray} }:=I1.kept (t':=s1.toks) λb o e=>AO _ e;rw[hw];refine AH (AU ?_);show A0 (model X.prog X.w) X.A (do rule "assign.swapped-stores";let items <-unpackItems (.ref s1.heap.objs.size) 2 AD;assignInOrder [λv=>bindName X.env y v,λv=>bindName X.env x v] items.reverse;pure Flow.next) _ _ _;refine AH (Ea (AH (unpackItems_tuple (items:=#[u1,u2]) (I.ok.hd hc) (Fx s1.heap _) λh' hx'=>?_)));have I3:=I2.kept (h':=h') (t':=s1.toks) λb o e=>hx' b o (Ah (AV e)) e;show A0 _ _ (assignInOrder [λv=>bindName X.env y v,λv=>bindName X.env x v] [u2,u1] >>= λ_=>pure Flow.next) _ _ _;refine AH (Dt (wpAny_bindName (zci I3 hN hj (.inl hy) rw' (λs2 I4=>?_) (.inr hy))));refine Dt (wpAny_bindName (zci I4 hN hi (.inl hx) rv (λs3 I5=>F9 (AU ?_)) (.inr hx)));rw[Gh _ _ (BE hij)]at I5;exact⟨_,H1,I5,q1⟩
def yfq(i:Nat)(te:TE)(ti:TIp):TS:=λD σ H=>∃x,σ[i]?=AA (AA x)/\te σ H λy H1=>ti x y H1 λz H2=>D.nx (σ.set i (AA z)) H2
def zkG{i:Nat}{x:AN}{e:AS}{te:TE}{op:D7}{ti:TIp}{pos':CT}(hN:X.N.Nodup)(hi:X.N[i]?=AA x)(hx:Loc X.env.scope x)(he:PE X e te)(ho:PIp X op ti)(hf:X.fn x=AB \/ X.env.scope.names.lookup x=AA .local:=by first|exact .inl rfl|exact .inr rfl|assumption):
  PS X (.AugAssign (.Name x pos') op e pos) (yfq i te ti):=by
 intro π s σ H D I h;let⟨v,e1,h⟩:=h;let⟨m,hn,hl⟩:=I.loc;have vis:Vis X.env.scope x:=by rcases hx with k|k;exact .inl k;exact .inr (.inl k)
 let⟨u,r,l⟩:=hl i x v hi e1 vis;refine wpAny_AugAssign_Name ?_;have go:A0 (model X.prog X.w) X.A (eval e X.env) (λw s₂=>A0 (model X.prog X.w) X.A (inplaceOp op u w) (λr s₃=>A0 (model X.prog X.w) X.A (storeName X.env x r) (λ_=>SP X π D .next) X.xe s₃) X.xe s₂) X.xe s:=by
  refine thn (he π s σ H _ I h) λw s1 kq=>?_;let⟨y,H1,I1,r1,q1⟩:=kq;refine thn (ho π s1 σ H1 v y u w _ I1 r r1 q1) λz s2 kq=>?_;let⟨zv,H2,I2,r2,q2⟩:=kq;exact zci I2 hN hi hx r2 (λs3 I3=>⟨_,H2,I3,q2⟩) hf
 rcases l with⟨hk,hm⟩|⟨hk,c,hc,hcell⟩
 .exact Ez I.ok.kind hk hn hm go
 .rcases hk with hk|hk
  .exact FM I.ok.kind hk hc hcell go
  .rcases hx with k|k
   .have:X.env.scope.names.lookup x=AA .free:=hk;rw[k]at this;cases this
   .have:X.env.scope.names.lookup x=AA .free:=hk;rw[k]at this;cases this
def ipI(f:Int->Int->Int):TIp:=λx y H Q=>∃i j,x=.int i/\y=.int j/\Q (.int (f i j)) H
def zoe:PIp X .Add (ipI λi j=>i+j):=by
 intro π s σ H x y v u Q I r1 r2 h;let⟨i,j,e1,e2,q⟩:=h;subst e1;subst e2;let⟨t,rfl⟩:=r1;let⟨t',rfl⟩:=r2;exact G0 ⟨.int _,H,I.tok _,⟨_,rfl⟩,q⟩
end
section
variable {X:Cx}{pos:CT}
def yc1(c:TT)(tb:TS):TS:=λD σ H=>∃W:Nat->St->Hp->Prop,(∃m,W m σ H)/\∀m σ H,W m σ H ->
 c σ H λb H1=>if b=AB then ∃N:St->Hp->Prop,(∀σ' H',N σ' H'->∃m',m' < m/\W m' σ' H')/\tb {D with nx:=N,ct:=N,bk:=D.nx} σ H1 else D.nx σ H1
def zjc{c:AS}{body:List Bz}{tc:TT}{tb:TS}(hp:EV (model X.prog X.w) X.A X.env X.xe)(hc:PT X c tc)(hb:PSs X body tb):PS X (.While c body [] pos) (yc1 tc tb):=by
 intro π s σ H D I h;let⟨W,⟨m0,w0⟩,turn⟩:=h;refine wpAny_While (codeAny_whileLoop (λn s'=>∃σ' H',Inv X π σ' H' s'/\W n σ' H') ?_ m0 ⟨σ,H,I,w0⟩)
 rintro n s1 ⟨σ1,H1,I1,w1⟩
 refine CS hp (thn (hc π s1 σ1 H1 _ I1 (turn n σ1 H1 w1)) λb s2 kq=>?_);let⟨H2,I2,q2⟩:=kq
 cases b with
 |true=>
  let⟨N,hN,q2⟩:=q2;rw[if_pos rfl];refine CS hp (thn (hb π s2 σ1 H2 _ I2 q2) λf s3 q3=>?_)
  cases f with
  |next=>
   let⟨σ3,H3,I3,n3⟩:=q3;let⟨m',hm,w3⟩:=hN σ3 H3 n3;exact⟨m',hm,σ3,H3,I3,w3⟩
  |cont=>
   let⟨σ3,H3,I3,n3⟩:=q3;let⟨m',hm,w3⟩:=hN σ3 H3 n3;exact⟨m',hm,σ3,H3,I3,w3⟩
  |brk=>exact q3
  |ret v=>exact q3
 |false=>
  rw[if_neg BA];exact D9 ⟨σ1,H2,I2,q2⟩
end
structure It where
 go:Nat->Hp->Prop
 yld:Nat->Hp->V->Hp->Prop
 stop:Nat->Hp->Prop
def ybr(X:Cx)(π:List (AI×CF))(H:Hp)(b:AI):Prop:=
 H b=AD/\b≠X.env.locals/\b∉X.fs/\(b∈X.ex \/ X.s₀.heap.objs.size<=b)/\(∀x c,X.env.cells.lookup x=AA c->c≠b)/\∀p∈X.pn++π,p.1≠b
theorem Inv.fpOk{X:Cx}{π:List (AI×CF)}{σ:St}{H H':Hp}{s:AJ}{b:AI}(I:Inv X π σ H s)(hb:s.heap.objs.size<=b)(hn:H' b=AD):ybr X π H' b:=by
 refine⟨hn,Eb (A2 I.lt hb),I.nofs hb,.inr (BV I.sz hb),λx c e z=>?_,λp hp z=>?_⟩
 .let⟨v,q⟩:=I.cell x c e;exact absurd (A2 q.lt (by rw[z];exact hb)) (Cr _)
 .exact absurd (A2 (AV (I.pin p hp).1) (by rw[z];exact hb)) (Cr _)
structure Turn(P:A3)(w:Ag)(K:AF)(tg:AS)(J:It)(fp:List AI)(it:AI)(tn:Nat->BB->Prop):Prop where
 mem:it∈fp
 obj:∀i h,tn i h->∀b∈fp,∃o,h.get? b=AA o/\∀v,o.data ≠ .cell v
 keep:∀i h h',tn i h->(∀b∈fp,∀o,h.get? b=AA o->h'.get? b=AA o)->tn i h'
 item:∀(X:Cx),X.prog=P->X.w=w->X.K=K->X.calm=AB->∀(i:Nat) (π:List (AI×CF)) (s:AJ) (σ:St) (H:Hp) (E:AG->AJ->Prop),Inv X π σ H s->(∀b∈fp,ybr X π H b)->tn i s.heap->J.go i H ->
  A0 (model P w) X.A (pyNext (.ref it)) (λr s1=>∃u,r=AA u /\
   A0 (model P w) X.A (letOwnedTupleGo tg (.ref it) u) (λ_ s2=>∃x H',Inv X π σ H' s2/\RelV x u/\J.yld i H x H'/\tn (i+1) s2.heap/\∀b∈fp,H' b=AD) E s1) E s
 done:∀(X:Cx),X.prog=P->X.w=w->X.K=K->X.calm=AB->∀(i:Nat) (π:List (AI×CF)) (s:AJ) (σ:St) (H:Hp) (E:AG->AJ->Prop),Inv X π σ H s->(∀b∈fp,ybr X π H b)->tn i s.heap->J.stop i H ->
  A0 (model P w) X.A (pyNext (.ref it)) (λr s1=>r=AD/\Inv X π σ H s1) E s
 self:∀(A:Ar) (i:Nat) (s:AJ) (Q:AG->AJ->Prop) (E:AG->AJ->Prop),tn i s.heap->Q (.ref it) s->A0 (model P w) A (pyIter (.ref it)) Q E s
abbrev TI:=St->Hp->(It->Hp->Prop)->Prop
def PIE(X:Cx)(π:List (AI×CF))(σ:St)(tg:AS)(R:It->Hp->Prop)(itv:AG)(s2:AJ):Prop:=
 ∃(it:AI) (fp:List AI) (tn:Nat->BB->Prop) (J:It) (H':Hp),itv=.ref it/\Inv X π σ H' s2/\Turn X.prog X.w X.K tg J fp it tn/\tn 0 s2.heap/\(∀b∈fp,ybr X π H' b)/\R J H'
def PI(X:Cx)(tg iter:AS)(wi:TI):Prop:=
 ∀(π:List (AI×CF)) (s:AJ) (σ:St) (H:Hp) (R:It->Hp->Prop),Inv X π σ H s->wi σ H R ->
  A0 (model X.prog X.w) X.A (eval iter X.env) (λv s1=>A0 (model X.prog X.w) X.A (pyIter v) (PIE X π σ tg R) X.xe s1) X.xe s
def zlY{M:Model}{A:Ar}{E:AG->AJ->Prop}{s:AJ}{tg:AS}{it:AI}{u:AG}{o:CF}{n:String}{vs:Array AG}{Q:Unit->AJ->Prop}(ho:s.heap.get? it=AA o)(hc:o.cls=.type n)(hd:o.data=.fields vs)
  (hn:["enumerate","zip","dict_itemiterator","dict_reverseitemiterator","odict_iterator","itertools.zip_longest","itertools.pairwise"].contains n=AC) (hQ:Q () s):A0 M A (letOwnedTupleGo tg (.ref it) u) Q E s:=by
 unfold letOwnedTupleGo
 cases tg<;>first
  |exact AU hQ
  | (cases u<;>first
    |exact AU hQ
    | (refine AH (wpAny_load ho ?_)
       rw[hc,hd];show A0 M A (if (["enumerate","zip","dict_itemiterator","dict_reverseitemiterator","odict_iterator","itertools.zip_longest","itertools.pairwise"].contains n&&vs[0]? == AA (rawInt _))=AB then _ else _) Q E s;rw[if_neg (by intro h;rw[hn,G5]at h;cases h)];exact AU hQ))
def Itl(K:AF)(a:AI):It:=
 ⟨λi H=>∃xs x,SqL K H a xs/\xs[i]?=AA x,λi H x H'=>H'=H/\∀xs,SqL K H a xs->xs[i]?=AA x,λi H=>∃xs,SqL K H a xs/\xs.length<=i⟩
def Itt(K:AF)(a:AI):It:=
 ⟨λi H=>∃xs x,SqT K H a xs/\xs[i]?=AA x,λi H x H'=>H'=H/\∀xs,SqT K H a xs->xs[i]?=AA x,λi H=>∃xs,SqT K H a xs/\xs.length<=i⟩
def Itr(lo:Int)(n:Nat):It:=⟨λi _=>i<n,λi H x H'=>H'=H/\x=.int (lo+i),λi _=>n<=i⟩
def ziS{P:A3}{w:Ag}{K:AF}{tg:AS}(a it:AI):Turn P w K tg (Itl K a) [it] it (λi h=>h.IsListIter it a i) where
 mem:=by simp
 obj:=λi h st b hb=>by
  have e:b=it:=by simpa using hb
  subst e;let⟨o,e,c,d⟩:=st;exact⟨o,e,λv z=>by rw[d]at z;cases z⟩
 keep:=λi h h' st k=>st.at λo e=>k it (by simp) o e
 item:=by
  intro X hP hw hK hc i π s σ H E I hf st hg;subst hP hw hK;let⟨xs,x,hq,hx⟩:=hg;let⟨its,rv,p,hz⟩:=I.list hq;let⟨u,hu,ru⟩:=rv.get hx;let⟨f0,f1,f2,f3,f4,f5⟩:=hf it (by simp);refine wpAny_pyNext_list_item st p.isList (x:=u) (by simpa using hu) λh' st' sb=>?_;have I1:Inv X π σ H {s with heap:=h'}:=I.turned (t':=s.toks) (λb o hb e=>(sb.2 b hb).trans e) f0 f1 f3 f4 f5;let⟨o,e,c,d⟩:=id st';exact⟨u,rfl,zlY (s:={s with heap:=h'}) e c d ⋯ ⟨x,H,I1,ru,⟨rfl,λys hy=>by rw[I.list_inj hy hq];exact hx⟩,st',λb hb=>(hf b hb).1⟩⟩
 done:=by
  intro X hP hw hK hc i π s σ H E I hf st hg;subst hP hw hK;let⟨xs,hq,hx⟩:=hg;let⟨its,rv,p,hz⟩:=I.list hq;let⟨f0,f1,f2,f3,f4,f5⟩:=hf it (by simp);have hl:=rv.length;exact wpAny_pyNext_list_end (I.ok.hd hc) st p.isList (by simp;lia) λh' eb=>⟨rfl,I.turned (t':=s.toks) (λb o hb e=>eb b o hb e) f0 f1 f3 f4 f5⟩
 self:=λ_ _ _ _ _ st h=>wpAny_pyIter_listiter st h
def zgJ{P:A3}{w:Ag}{K:AF}{tg:AS}(a it:AI):Turn P w K tg (Itt K a) [it] it (λi h=>h.IsTupleIter it a i) where
 mem:=by simp
 obj:=λi h st b hb=>by
  have e:b=it:=by simpa using hb
  subst e;let⟨o,e,c,d⟩:=st;exact⟨o,e,λv z=>by rw[d]at z;cases z⟩
 keep:=λi h h' st k=>st.at λo e=>k it (by simp) o e
 item:=by
  intro X hP hw hK hc i π s σ H E I hf st hg;subst hP hw hK;let⟨xs,x,hq,hx⟩:=hg;let⟨its,rv,p,hz⟩:=I.tuple hq;let⟨u,hu,ru⟩:=rv.get hx;let⟨f0,f1,f2,f3,f4,f5⟩:=hf it (by simp);refine wpAny_pyNext_tuple_item st (show s.heap.IsTuple a its.toArray from p) (x:=u) (by simpa using hu) λh' st' sb=>?_;have I1:Inv X π σ H {s with heap:=h'}:=I.turned (t':=s.toks) (λb o hb e=>(sb.2 b hb).trans e) f0 f1 f3 f4 f5;let⟨o,e,c,d⟩:=id st';exact⟨u,rfl,zlY (s:={s with heap:=h'}) e c d ⋯ ⟨x,H,I1,ru,⟨rfl,λys hy=>by rw[I.tuple_inj hy hq];exact hx⟩,st',λb hb=>(hf b hb).1⟩⟩
 done:=by
  intro X hP hw hK hc i π s σ H E I hf st hg;subst hP hw hK;let⟨xs,hq,hx⟩:=hg;let⟨its,rv,p,hz⟩:=I.tuple hq;let⟨f0,f1,f2,f3,f4,f5⟩:=hf it (by simp);have hl:=rv.length;exact wpAny_pyNext_tuple_end (I.ok.hd hc) st (show s.heap.IsTuple a its.toArray from p) (by simp;lia) λh' eb=>⟨rfl,I.turned (t':=s.toks) (λb o hb e=>eb b o hb e) f0 f1 f3 f4 f5⟩
 self:=λ_ _ _ _ _ st h=>wpAny_pyIter_tupleiter st h
def zg4{P:A3}{w:Ag}{K:AF}{tg:AS}(it:AI)(lo:Int)(n:Nat):Turn P w K tg (Itr lo n) [it] it (λi h=>IsRangeIter h it (lo+(i:Nat)*1) ((n:Int)-(i:Nat)) 1) where
 mem:=by simp
 obj:=λi h st b hb=>by
  have e:b=it:=by simpa using hb
  subst e;exact⟨_,st,λv z=>by
   have z':Data.fields _=Data.cell v:=z
   cases z'⟩
 keep:=λi h h' st k=>k it (by simp) _ st
 item:=by
  intro X hP hw hK hc i π s σ H E I hf st hg;subst hP hw hK;let⟨f0,f1,f2,f3,f4,f5⟩:=hf it (by simp);have W:=Walks.range (prog:=X.prog) (w:=X.w) (I.ok.hd hc) it lo 1 n;refine W.item i s _ _ hg st λv h' tk hv st' kk=>?_;let⟨t,rfl⟩:=hv;have I1:Inv X π σ H {s with heap:=h',toks:=tk}:=I.turned (λb o hb e=>kk b o (by simpa using hb) e) f0 f1 f3 f4 f5;refine⟨_,rfl,zlY (s:={s with heap:=h',toks:=tk}) (n:="range_iterator") st' rfl rfl ⋯ ⟨.int (lo+i),H,I1,⟨t,?_⟩,⟨rfl,rfl⟩,st',λb hb=>(hf b hb).1⟩⟩;rw[CU]
 done:=by
  intro X hP hw hK hc i π s σ H E I hf st hg;subst hP hw hK;let⟨f0,f1,f2,f3,f4,f5⟩:=hf it (by simp);exact wpAny_pyNext_range_end (I.ok.hd hc) st (by have:n<=i:=hg;lia) λh' eb=>⟨rfl,I.turned (t':=s.toks) (λb o hb e=>eb b o hb e) f0 f1 f3 f4 f5⟩
 self:=λ_ _ _ _ _ st h=>wpAny_pyIter_rangeiter st h
section
variable {X:Cx}{tg:AS}
def zkp{π:List (AI×CF)}{σ:St}{H:Hp}{s:AJ}{R:It->Hp->Prop}{E:AG->AJ->Prop}{lo hi:Int}{t u v:HS}{tk:Nat}(I:Inv X π σ H s)(h1:-(2^62)<=lo)(h2:lo<2^62)(h3:-(2^62)<=hi)(h4:hi<2^62)
  (q:R (Itr lo (hi-lo).toNat) H):A0 (model X.prog X.w) X.A (pyIter (.ref s.heap.objs.size)) (PIE X π σ tg R) E {s with heap:=s.heap.push {cls:=.type "range",data:=.fields #[.int lo t,.int hi u,.int 1 v]},toks:=tk}:=by
 refine wpAny_pyIter_range (IsRange.new ..) (small_one h1 h2 h3 h4) ?_;have I1:Inv X π σ H {s with heap:=s.heap.push {cls:=.type "range",data:=.fields #[.int lo t,.int hi u,.int 1 v]},toks:=tk}:=I.kept λb o e=>AO _ e;refine⟨(s.heap.push {cls:=.type "range",data:=.fields #[.int lo t,.int hi u,.int 1 v]}).objs.size,[(s.heap.push {cls:=.type "range",data:=.fields #[.int lo t,.int hi u,.int 1 v]}).objs.size],_,_,H,rfl,
  I1.kept (t':=tk) λb o e=>AO _ e,zg4 _ lo (hi-lo).toNat,?_,λb hb=>?_,q⟩
 .have e1:lo+((0:Nat):Int)*1=lo:=by simp
  have e2:(((hi-lo).toNat:Nat):Int)-((0:Nat):Int)=Gm lo hi 1:=by rw[rangeSize_one];split<;>lia
  show IsRangeIter _ _ (lo+((0:Nat):Int)*1) ((((hi-lo).toNat:Nat):Int)-((0:Nat):Int)) 1;rw[e1,e2];exact AZ _ rfl
 .have e:b=(s.heap.push {cls:=.type "range",data:=.fields #[.int lo t,.int hi u,.int 1 v]}).objs.size:=by simpa using hb
  subst e;exact I1.fpOk (AT _) (I1.hok.fresh (AT _))
def yeG(ta:TA):TI:=λσ H R=>ta σ H λvs H1=>∃j:Int,vs=[.int j]/\-(2^62)<=j/\j<2^62/\R (Itr 0 j.toNat) H1
def zhR{a:AS}{ta:TA}{p pos:CT}(hg:Gl X "range")(hm:X.mg "range"=AD)(ha:PA X [a] ta)(hs:starEach [a] X.env=[(AC,eval a X.env)]:=by rfl):PI X tg (.Call (.Name "range" p) [a] [] pos) (yeG ta):=by
 intro π s σ H R I h;refine Call_ (zd0 I hg hm boot_range (CH (thn (ha pos π s σ H _ I h) λus s1 kq=>?_) hs rfl));let⟨vs,H1,I1,r1,q1⟩:=kq;let⟨j,e,q1,q2,q⟩:=q1;subst e
 cases r1 with
 |cons r rr=>
  cases rr
  let⟨t,rfl⟩:=r;exact call_range_1 (zkp I1 ∅ ∅ q1 q2 (by simpa using q))
def yfK(wi:TI)(g:TG)(tb:TS):TS:=λD σ H=>wi σ H λJ H1=>∃W:Nat->Nat->St->Hp->Prop,(∃m,W 0 m σ H1)/\∀i m σ H,W i m σ H ->
 (J.stop i H/\D.nx σ H) \/ (J.go i H/\∃N:St->Hp->Prop,(∀σ' H',N σ' H'->∃m',m' < m/\W (i+1) m' σ' H')/\∀x H',J.yld i H x H'->g x σ H' λσ2 H2=>tb {D with nx:=N,ct:=N,bk:=D.nx} σ2 H2)
def ybl(fp:List AI)(h:BB):List (AI×CF):=fp.filterMap λb=>(h.get? b).map λo=>(b,o)
def zbu{fp:List AI}{h:BB}{b:AI}{o:CF}(hb:b∈fp)(e:h.get? b=AA o):(b,o)∈ybl fp h:=Du.mpr ⟨b,hb,by rw[e];rfl⟩
def zhS{fp:List AI}{h:BB}{p:AI×CF}(hp:p∈ybl fp h):p.1∈fp/\h.get? p.1=AA p.2:=by
 let⟨b,hb,e⟩:=Du.mp hp
 cases q:h.get? b with
 |none=>rw[q]at e;cases e
 |some o=>
  rw[q]at e;have e':(b,o)=p:=AW e;subst e';exact⟨hb,q⟩
theorem Inv.pinned{π:List (AI×CF)}{σ:St}{H:Hp}{s:AJ}{fp:List AI}(I:Inv X π σ H s)(hf:∀b∈fp,ybr X π H b)(ho:∀b∈fp,∃o,s.heap.get? b=AA o/\∀v,o.data ≠ .cell v):Inv X (π++ybl fp s.heap) σ H s:=
 I.pins_of λp hp=>(B1.mp hp).elim (λz=>I.pin p (BF _ z)) λz=>by
  let⟨hb,e⟩:=zhS z;let⟨f0,f1,f2,_⟩:=hf p.1 hb;let⟨o,e',d⟩:=ho p.1 hb;rw[e]at e';cases e';exact⟨e,f0,f1,f2,d⟩
theorem Inv.unpinned{π pl:List (AI×CF)}{σ:St}{H:Hp}{s:AJ}(I:Inv X (π++pl) σ H s):Inv X π σ H s:=I.pins_of λp hp=>I.pin p (BF _ (Ey _ hp))
def zm6{iter:AS}{body:List Bz}{wi:TI}{g:TG}{tb:TS}{pos:CT}(hp:EV (model X.prog X.w) X.A X.env X.xe)(hc:X.calm=AB)(hi:PI X tg iter wi)(hg:PG X tg g)(hb:PSs X body tb)
  (hs:∀x,foldedSetIterable iter X.env x=pure x:=by intro _;rfl):PS X (.For tg iter body [] pos) (yfK wi g tb):=by
 intro π s σ H D I h;refine wpAny_For (thn (hi π s σ H _ I h) λv s1 h1=>thn h1 λitv s2 h2=>?_) hs;let⟨it,fp,tn,J,H2,e,I2,T,st2,f2,W,⟨m0,w0⟩,turn⟩:=h2;subst e;have stat:∀{H':Hp},(∀b∈fp,H' b=AD)->∀b∈fp,ybr X π H' b:=λhn b hb=>⟨hn b hb,(f2 b hb).2⟩;refine codeAny_forLoop_any (λn s'=>∃i σ' H',Inv X π σ' H' s'/\tn i s'.heap/\(∀b∈fp,H' b=AD)/\W i n σ' H') ?_ m0 ⟨0,σ,H2,I2,st2,λb hb=>(f2 b hb).1,w0⟩
 rintro n s3 ⟨i,σ3,H3,I3,st3,fr3,w3⟩
 rcases turn i n σ3 H3 w3 with⟨stop,qn⟩|⟨go,N,hN,step⟩
 .refine CS hp (thn (T.done X rfl rfl rfl hc i π s3 σ3 H3 X.xe I3 (stat fr3) st3 stop) λr s4 kq=>?_);let⟨hr,I4⟩:=kq;subst hr;exact D9 ⟨σ3,H3,I4,qn⟩
 .refine CS hp (thn (T.item X rfl rfl rfl hc i π s3 σ3 H3 X.xe I3 (stat fr3) st3 go) λr s4 kq=>?_);let⟨u,hr,h4⟩:=kq;subst hr;refine CS hp (thn h4 λ_ s5 kq=>?_);let⟨x,H5,I5,r5,y5,st5,fr5⟩:=kq;have I5':=I5.pinned (stat fr5) (T.obj _ _ st5);refine CS hp (thn (hg _ s5 σ3 H5 x u _ I5' r5 (step x H5 y5)) λ_ s6 kq=>?_);let⟨σ6,H6,I6,q6⟩:=kq;refine CS hp (thn (hb _ s6 σ6 H6 _ I6 q6) λf s7 q7=>?_);have again:∀{σ7:St} {H7:Hp},Inv X (π++ybl fp s5.heap) σ7 H7 s7->N σ7 H7->∃m,m<n/\∃i σ' H',Inv X π σ' H' s7/\tn i s7.heap/\(∀b∈fp,H' b=AD)/\W i m σ' H':=λ{σ7 H7} I7 n7=>by
   let⟨m',hm,w7⟩:=hN σ7 H7 n7;refine⟨m',hm,i+1,σ7,H7,I7.unpinned,T.keep _ _ _ st5 λb hb o e=>(I7.pin (b,o) (BF _ (BF _ (zbu hb e)))).1,λb hb=>?_,w7⟩;let⟨o,e,d⟩:=T.obj _ _ st5 b hb;exact(I7.pin (b,o) (BF _ (BF _ (zbu hb e)))).2.1
  cases f with
  |next=>let⟨σ7,H7,I7,n7⟩:=q7;exact again I7 n7
  |cont=>let⟨σ7,H7,I7,n7⟩:=q7;exact again I7 n7
  |brk=>let⟨σ7,H7,I7,q7⟩:=q7;exact⟨σ7,H7,I7.unpinned,q7⟩
  |ret v=>let⟨x7,σ7,H7,I7,r7,q7⟩:=q7;exact⟨x7,σ7,H7,I7.unpinned,r7,q7⟩
end
abbrev R2:=V->V->Hp->VK->Prop
def OpR(X:Cx)(f:AG->AG->Gg AG)(r:R2):Prop:=
 ∀(π:List (AI×CF)) (s:AJ) (σ:St) (H:Hp) (x y:V) (v u:AG) (Q:VK),Inv X π σ H s->RelV x v->RelV y u->r x y H Q ->
  A0 (model X.prog X.w) X.A (f v u) (EP X π σ Q) X.xe s
def UnR(X:Cx)(f:AG->Gg AG)(r:V->Hp->VK->Prop):Prop:=
 ∀(π:List (AI×CF)) (s:AJ) (σ:St) (H:Hp) (x:V) (v:AG) (Q:VK),Inv X π σ H s->RelV x v->r x H Q ->
  A0 (model X.prog X.w) X.A (f v) (EP X π σ Q) X.xe s
def yae(X:Cx)(f:AG)(r:List V->Hp->VK->Prop):Prop:=
 ∀(π:List (AI×CF)) (s:AJ) (σ:St) (H:Hp) (xs:List V) (us:List AG) (Q:VK),Inv X π σ H s->Vals xs us->r xs H Q ->
  A0 (model X.prog X.w) X.A (call f us) (EP X π σ Q) X.xe s
def yfD(X:Cx)(r:V->Hp->(Bool->Hp->Prop)->Prop):Prop:=
 ∀(π:List (AI×CF)) (s:AJ) (σ:St) (H:Hp) (x:V) (v:AG) (Q:Bool->Hp->Prop),Inv X π σ H s->RelV x v->r x H Q ->
  A0 (model X.prog X.w) X.A (truthy v) (TP X π σ Q) X.xe s
def tOp(r:R2)(ta tb:TE):TE:=λσ H Q=>ta σ H λx H1=>tb σ H1 λy H2=>r x y H2 Q
def tUn(r:V->Hp->VK->Prop)(ta:TE):TE:=λσ H Q=>ta σ H λx H1=>r x H1 Q
def rI(C:Int->Int->Prop)(g:Int->Int->V):R2:=λx y H Q=>∃i j,x=.int i/\y=.int j/\C i j/\Q (g i j) H
def rI0(g:Int->Int->V):R2:=λx y H Q=>∃i j,x=.int i/\y=.int j/\Q (g i j) H
def rU(g:Int->V):V->Hp->VK->Prop:=λx H Q=>∃i,x=.int i/\Q (g i) H
section
variable {X:Cx}{a b c:AS}{ta tb tc:TE}{pos:CT}
def znw(ha:PE X a ta)(hb:PE X b tb){π:List (AI×CF)}{s:AJ}{σ:St}{H:Hp}{R:V->V->Hp->Prop}(I:Inv X π σ H s)
  (h:ta σ H λx H1=>tb σ H1 λy H2=>R x y H2) {Q:AG->AJ->Prop} {f:AG->AG->Gg AG}
  (hf:∀v u s2 x y H2,Inv X π σ H2 s2->RelV x v->RelV y u->R x y H2->A0 (model X.prog X.w) X.A (f v u) Q X.xe s2):
  A0 (model X.prog X.w) X.A (eval a X.env) (λv s₁=>A0 (model X.prog X.w) X.A (eval b X.env) (λu s₂=>A0 (model X.prog X.w) X.A (f v u) Q X.xe s₂) X.xe s₁) X.xe s:=by
 refine thn (ha π s σ H _ I h) λv s1 kq=>?_;let⟨x,H1,I1,r1,q1⟩:=kq;refine thn (hb π s1 σ H1 _ I1 q1) λu s2 kq=>?_;let⟨y,H2,I2,r2,q2⟩:=kq;exact hf v u s2 x y H2 I2 r1 r2 q2
def zpw{op:D7}{r:R2}(ho:OpR X (binaryOp op) r)(ha:PE X a ta)(hb:PE X b tb):PE X (.BinOp a op b pos) (tOp r ta tb):=by
 intro π s σ H Q I h;exact wpAny_BinOp (znw ha hb I h λv u s2 x y H2 I2 rx ry q=>ho π s2 σ H2 x y v u Q I2 rx ry q)
def zpE{op:UnaryOp}{r:V->Hp->VK->Prop}(ho:UnR X (unaryOp op) r)(ha:PE X a ta):PE X (.UnaryOp op a pos) (tUn r ta):=by
 intro π s σ H Q I h;exact UnaryOp_ (thn (ha π s σ H _ I h) λv s1 ⟨x,H1,I1,r1,q1⟩=>ho π s1 σ H1 x v Q I1 r1 q1)
theorem opI{f:AG->AG->Gg AG}{C:Int->Int->Prop}{g:Int->Int->Int}
  (rule:∀(i j:Int) (t u:HS) (s:AJ) (Q:AG->AJ->Prop) (E:AG->AJ->Prop),C i j->Q (.int (g i j) s.toks) {s with toks:=s.toks+1}->A0 (model X.prog X.w) X.A (f (.int i t) (.int j u)) Q E s):
  OpR X f (rI C λi j=>.int (g i j)):=by
 intro π s σ H x y v u Q I rx ry h;let⟨i,j,rfl,rfl,hc,q⟩:=h;let⟨t,rfl⟩:=rx;let⟨t',rfl⟩:=ry;exact rule i j t t' s _ _ hc ⟨.int (g i j),H,I.tok _,⟨_,rfl⟩,q⟩
def zg6{f:AG->AG->Gg AG}{g:Int->Int->Int}
  (rule:∀(i j:Int) (t u:HS) (s:AJ) (Q:AG->AJ->Prop) (E:AG->AJ->Prop),Q (.int (g i j) s.toks) {s with toks:=s.toks+1}->A0 (model X.prog X.w) X.A (f (.int i t) (.int j u)) Q E s):
  OpR X f (rI0 λi j=>.int (g i j)):=by
 intro π s σ H x y v u Q I rx ry h;let⟨i,j,rfl,rfl,q⟩:=h;let⟨t,rfl⟩:=rx;let⟨t',rfl⟩:=ry;exact rule i j t t' s _ _ ⟨.int (g i j),H,I.tok _,⟨_,rfl⟩,q⟩
def zkb{f:AG->AG->Gg AG}{g:Int->Int->Bool}
  (rule:∀(i j:Int) (t u:HS) (s:AJ) (Q:AG->AJ->Prop) (E:AG->AJ->Prop),Q (.bool (g i j)) s->A0 (model X.prog X.w) X.A (f (.int i t) (.int j u)) Q E s):
  OpR X f (rI0 λi j=>.bl (g i j)):=by
 intro π s σ H x y v u Q I rx ry h;let⟨i,j,rfl,rfl,q⟩:=h;let⟨t,rfl⟩:=rx;let⟨t',rfl⟩:=ry;exact rule i j t t' s _ _ ⟨.bl (g i j),H,I,rfl,q⟩
def ydF(i j:Int):Prop:=0<=j/\j<=1000000/\i.natAbs<2^64
def ydq(i j:Int):Prop:=(-(2^64)<i/\i<2^64) \/ (-(2^64)<j/\j<2^64)
theorem ydq.ok{i j:Int}(h:ydq i j):IntMulOk i j:=by
 rcases h with⟨h1,h2⟩|⟨h1,h2⟩
 .exact .of_left (intBits_le_64 h1 h2)
 .exact .of_right (intBits_le_64 h1 h2)
def zgP(k:Nat):(0:Int)<=2^k:=by
 rw[two_pow_cast];exact Int.natCast_nonneg _
def zou:OpR X (binaryOp .Add) (rI0 λi j=>.int (i+j)):=zg6 λ_ _ _ _ _ _ _ q=>add_int q
def zn9:OpR X (binaryOp .Sub) (rI0 λi j=>.int (i-j)):=zg6 λ_ _ _ _ _ _ _ q=>sub_int q
def zn8:OpR X (binaryOp .Mult) (rI ydq λi j=>.int (i*j)):=opI λ_ _ _ _ _ _ _ hc q=>mul_int q hc.ok
def zmQ:OpR X (binaryOp .Mod) (rI (λ_ j=>0<j) λi j=>.int (i%j)):=opI λi j _ _ _ _ _ hc q=>by
 have h1:(0:Int)<j:=hc;exact mod_int' ∅ (by rw[Int.fmod_eq_emod_of_nonneg i ∅];exact q)
def zoH:OpR X (binaryOp .Pow) (rI ydF λi j=>.int (i^j.toNat)):=opI λ_ _ _ _ _ _ _ hc q=>pow_int_small hc.1 hc.2.1 hc.2.2 q
def zno:OpR X (binaryOp .LShift) (rI ydF λi j=>.int (i*2^j.toNat)):=opI λ_ _ _ _ _ _ _ hc q=>lshift_int_small hc.1 hc.2.1 hc.2.2 q
def zom:OpR X (binaryOp .RShift) (rI (λ_ j=>0<=j) λi j=>.int (i/2^j.toNat)):=opI λi j _ _ _ _ _ hc q=>
 rshift_int hc (by rw[Dv i (zgP _)];exact q)
def znh:OpR X (binaryOp .BitAnd) (rI0 λi j=>.int (Ax i j)):=zg6 λ_ _ _ _ _ _ _ q=>and_int q
def zoY:OpR X (binaryOp .BitOr) (rI0 λi j=>.int (B2 i j)):=zg6 λ_ _ _ _ _ _ _ q=>or_int q
def znL:OpR X (binaryOp .BitXor) (rI0 λi j=>.int (BY i j)):=zg6 λ_ _ _ _ _ _ _ q=>xor_int q
theorem unI{f:AG->Gg AG}{g:Int->Int}
  (rule:∀(i:Int) (t:HS) (s:AJ) (Q:AG->AJ->Prop) (E:AG->AJ->Prop),Q (.int (g i) s.toks) {s with toks:=s.toks+1}->A0 (model X.prog X.w) X.A (f (.int i t)) Q E s):
  UnR X f (rU λi=>.int (g i)):=by
 intro π s σ H x v Q I rx h;let⟨i,rfl,q⟩:=h;let⟨t,rfl⟩:=rx;exact rule i t s _ _ ⟨.int (g i),H,I.tok _,⟨_,rfl⟩,q⟩
def zmK:UnR X (unaryOp .USub) (rU λi=>.int (-i)):=unI λ_ _ _ _ _ q=>neg_int q
def zhE:OpR X (binaryOp .Add) (λx y H Q=>∃i k,x=.int i/\y=.bl k/\Q (.int (i+b2i k)) H):=by
 intro π s σ H x y v u Q I rx ry h;let⟨i,k,rfl,rfl,q⟩:=h;let⟨t,rfl⟩:=rx
 cases ry
 exact add_int_bool ⟨.int (i+b2i k),H,I.tok _,⟨_,rfl⟩,q⟩
end
section
variable {X:Cx}{a b c:AS}{ta tb tc:TE}{pos:CT}
def zir{π:List (AI×CF)}{σ:St}{H:Hp}{s:AJ}{Q:VK}{k k':Bool}(I:Inv X π σ H s)(q:Q (.bl k) H)(e:k=k'):EP X π σ Q (.bool k') s:=by
 subst e;exact⟨.bl k,H,I,rfl,q⟩
def zo0:OpR X (compareOp .Lt) (rI0 λi j=>.bl (decide (i<j))):=zkb λ_ _ _ _ _ _ _ q=>lt_int q
def zo7:OpR X (compareOp .LtE) (rI0 λi j=>.bl (decide (i<=j))):=zkb λ_ _ _ _ _ _ _ q=>le_int q
def zpA:OpR X (compareOp .Gt) (rI0 λi j=>.bl (decide (j<i))):=zkb λ_ _ _ _ _ _ _ q=>gt_int q
def zpf:OpR X (compareOp .GtE) (rI0 λi j=>.bl (decide (j<=i))):=zkb λ_ _ _ _ _ _ _ q=>ge_int q
def zhy:OpR X (compareOp .Lt) (λx y H Q=>∃i j,x=.str i/\y=.str j/\Q (.bl (decide (i.cps.toList<j.cps.toList))) H):=by
 intro π s σ H x y v u Q I rx ry h;let⟨i,j,rfl,rfl,q⟩:=h;let⟨t,rfl⟩:=rx;let⟨t',rfl⟩:=ry;exact lt_str (zir I q rfl)
def ziH:OpR X (compareOp .In) (λx y H Q=>∃i j,x=.str i/\y=.str j/\Q (.bl (!(EW j i 0 j.length 1).isEmpty)) H):=by
 intro π s σ H x y v u Q I rx ry h;let⟨i,j,rfl,rfl,q⟩:=h;let⟨t,rfl⟩:=rx;let⟨t',rfl⟩:=ry;exact in_str (zir I q rfl)
def zic{op:FR}{r:R2}(ho:OpR X (compareOp op) r)(ha:PE X a ta)(hb:PE X b tb)(hm:behindInMarks op b=AC):PE X (.Compare a [op] [b] pos) (tOp r ta tb):=by
 intro π s σ H Q I h;exact wpAny_Compare1 (znw ha hb I h λv u s2 x y H2 I2 rx ry q=>ho π s2 σ H2 x y v u Q I2 rx ry q) hm
def ydA(t:TE):TT:=λσ H Q=>t σ H λx H'=>∃k,x=.bl k/\Q k H'
def zlk{op:FR}{r:R2}(ho:OpR X (compareOp op) r)(ha:PE X a ta)(hb:PE X b tb)(hm:behindInMarks op b=AC):PT X (.Compare a [op] [b] pos) (ydA (tOp r ta tb)):=by
 intro π s σ H Q I h;refine wpAny_isTrue_Compare1 (thn (ha π s σ H _ I h) λv s1 ⟨x,H1,I1,r1,q1⟩=>thn (hb π s1 σ H1 _ I1 q1) λu s2 ⟨y,H2,I2,r2,q2⟩=>
  thn (ho π s2 σ H2 x y v u _ I2 r1 r2 q2) λc s3 ⟨z,H3,I3,r3,k,e,q3⟩=>?_) hm
 subst e
 cases r3
 exact BW ⟨H3,I3,q3⟩
def ycr(r r':R2)(ta tb tc:TE):TE:=λσ H Q=>ta σ H λx H1=>tb σ H1 λy H2=>r x y H2 λz H3=>∃k,z=.bl k /\
 (if k=AB then tc σ H3 λw' H4=>r' y w' H4 Q else Q (.bl AC) H3)
def zjk{op op':FR}{r r':R2}(ho:OpR X (compareOp op) r)(ho':OpR X (compareOp op') r')(ha:PE X a ta)(hb:PE X b tb)(hc:PE X c tc)
  (hm:lastMarks [op,op'] [b,c]=false:=by ac_rfl):PE X (.Compare a [op,op'] [b,c] pos) (ycr r r' ta tb tc):=by
 intro π s σ H Q I h;refine Compare_chain (thn (ha π s σ H _ I h) λv s1 ⟨x,H1,I1,r1,q1⟩=>chain_link (thn (hb π s1 σ H1 _ I1 q1) λu s2 ⟨y,H2,I2,r2,q2⟩=>
  thn (ho π s2 σ H2 x y v u _ I2 r1 r2 q2) λd s3 ⟨z,H3,I3,r3,k,e,q3⟩=>?_)) hm
 subst e
 cases r3
 refine BW ?_
 cases k with
 |false=>exact ite_ff ⟨.bl AC,H3,I3,rfl,q3⟩
 |true=>exact ite_tt (chain_last (thn (hc π s3 σ H3 _ I3 q3) λw' s4 ⟨z',H4,I4,r4,q4⟩=>ho' π s4 σ H4 y z' u w' Q I4 r2 r4 q4))
def zjo{op op':FR}{r r':R2}(ho:OpR X (compareOp op) r)(ho':OpR X (compareOp op') r')(ha:PE X a ta)(hb:PE X b tb)(hc:PE X c tc)
  (hm:lastMarks [op,op'] [b,c]=false:=by ac_rfl):PT X (.Compare a [op,op'] [b,c] pos) (ydA (ycr r r' ta tb tc)):=by
 intro π s σ H Q I h;refine isTrue_chain (thn (ha π s σ H _ I h) λv s1 ⟨x,H1,I1,r1,q1⟩=>test_link (thn (hb π s1 σ H1 _ I1 q1) λu s2 ⟨y,H2,I2,r2,q2⟩=>
  thn (ho π s2 σ H2 x y v u _ I2 r1 r2 q2) λd s3 ⟨z,H3,I3,r3,k,e,q3⟩=>?_)) hm
 subst e
 cases r3
 refine BW ?_
 cases k with
 |false=>
  let⟨k',e',q'⟩:=q3
  cases e'
  exact ite_ff ⟨H3,I3,q'⟩
 |true=>
  refine ite_tt (test_last (thn (hc π s3 σ H3 _ I3 q3) λw' s4 kq=>?_));let⟨z',H4,I4,r4,q4⟩:=kq;refine thn (ho' π s4 σ H4 y z' u w' _ I4 r2 r4 q4) λd' s5 kq=>?_;let⟨z2,H5,I5,r5,k2,e2,q5⟩:=kq;subst e2
  cases r5
  exact BW ⟨H5,I5,q5⟩
def ydR(K:AF)(x:V)(H:Hp)(k:Bool):Prop:=
 match x with
 |.non=>k=AC
 |.bl b=>k=b
 |.int i=>k=(i != 0)
 |.str y=>y.length<=sizeLine/\k=((y.length:Int) != 0)
 |.byt y=>y.size<=sizeLine/\k=((y.size:Int) != 0)
 |.ref p=>(∃xs,SqL K H p xs/\k=!xs.isEmpty) \/ (∃xs,SqT K H p xs/\k=!xs.isEmpty) \/ ∃kvs,H p=AA (.dK kvs)/\k=!kvs.isEmpty
 |_=>False
def zg8{κ:Type}{kvs:List (κ×V)}{vs:List (κ×AG)}(r:KV kvs vs):(!vs.isEmpty)=!kvs.isEmpty:=by
 cases r<;>rfl
def zdM{xs:List V}{its:List AG}(r:Vals xs its):(!its.toArray.isEmpty)=!xs.isEmpty:=by
 cases r<;>simp
def zgd:(sizeLine:Nat)<2^63:=by rw[D8];decide
def znp:yfD X (λx H Q=>∃k,ydR X.K x H k/\Q k H):=by
 intro π s σ H x v Q I rx h;let⟨k,e,q⟩:=h;have hl:=zgd;have hs:sizeLine=16777216:=D8
 cases x with
 |non=>
  cases rx
  have e':k=false:=e;subst e';exact truthy_none ⟨H,I,q⟩
 |bl b=>
  cases rx
  have e':k=b:=e;subst e';exact BW ⟨H,I,q⟩
 |int i=>
  let⟨t,rfl⟩:=rx;have e':k=(i != 0):=e;subst e';exact PySem.P.truthy_int ⟨H,I,q⟩
 |str y=>
  let⟨t,rfl⟩:=rx;obtain⟨hy,e'⟩:y.length<=sizeLine/\k=((y.length:Int) != 0):=e;subst e';exact PySem.P.truthy_str ∅ ⟨H,I.tok _,q⟩
 |byt y=>
  let⟨t,rfl⟩:=rx;obtain⟨hy,e'⟩:y.size<=sizeLine/\k=((y.size:Int) != 0):=e;subst e';exact PySem.W.truthy_bytes ∅ ⟨H,I.tok _,q⟩
 |ref p=>
  cases rx
  have e':(∃xs,SqL X.K H p xs/\k=!xs.isEmpty) \/ (∃xs,SqT X.K H p xs/\k=!xs.isEmpty) \/ ∃kvs,H p=AA (.dK kvs)/\k=!kvs.isEmpty:=e;rcases e' with⟨xs,hx,e'⟩|⟨xs,hx,e'⟩|⟨kvs,hx,e'⟩
  .subst e';let⟨its,r,pl,hz⟩:=I.list hx;have hlen:=r.length;exact wpAny_truthy_list pl.isList (by erw[AY];lia) ⟨H,I.tok _,by rw[zdM r];exact q⟩
  .subst e';let⟨its,r,pl,hz⟩:=I.tuple hx;have hlen:=r.length;exact truthy_tuple pl (by erw[AY];lia) ⟨H,I.tok _,by rw[zdM r];exact q⟩
  .subst e';obtain⟨hz,hS,vs,r,m⟩:kvs.length<=sizeLine/\(p==sysModules)=AC/\∃vs,KV kvs vs/\s.heap.DictOf (yL X.prog X.w) p vs:=I.hok p _ hx;have hlen:kvs.length=vs.length:=ER r;exact wpAny_truthy_dict hS m ∅ ⟨H,I.tok _,by rw[zg8 r];exact q⟩
 |_=>exact(show False from e).elim
def zjD(ha:PE X a ta)(he:∀whole,isTrue a X.env whole=(do let v <-whole;standAt a.pos;holding [v] (truthy v))):
  PT X a (λσ H Q=>ta σ H λx H'=>∃k,ydR X.K x H' k/\Q k H'):=by
 intro π s σ H Q I h;exact isTrue_plain (thn (ha π s σ H _ I h) λv s1 ⟨x,H1,I1,r1,q1⟩=>znp π s1 σ H1 x v Q I1 r1 q1) (he _)
def zg0:OpR X (binaryOp .Add) (λx y H Q=>∃i j,x=.str i/\y=.str j/\i.length+j.length<=sizeLine/\Q (.str (i++j)) H):=by
 intro π s σ H x y v u Q I rx ry h;let⟨i,j,rfl,rfl,hz,q⟩:=h;let⟨t,rfl⟩:=rx;let⟨t',rfl⟩:=ry;exact add_str (λt' tk=>⟨.str (i++j),H,I.tok _,⟨_,rfl⟩,q⟩) hz
theorem vals1{x:V}{us:List AG}(r:Vals [x] us):∃u,us=[u]/\RelV x u:=by
 cases r with
 |cons r1 r2=>cases r2;exact⟨_,rfl,r1⟩
theorem vals2{x y:V}{us:List AG}(r:Vals [x,y] us):∃u w',us=[u,w']/\RelV x u/\RelV y w':=by
 cases r with
 |cons r1 r2=>
  cases r2 with
  |cons r3 r4=>cases r4;exact⟨_,_,rfl,r1,r3⟩
def zkk:yae X (.builtin "abs") (λxs H Q=>∃i,xs=[.int i]/\Q (.int (if i<0 then -i else i)) H):=by
 intro π s σ H xs us Q I r h;let⟨i,rfl,q⟩:=h;let⟨u,rfl,t,rfl⟩:=vals1 r;exact call_abs_int λu tk=>⟨.int (if i<0 then -i else i),H,I.tok _,⟨_,rfl⟩,q⟩
def ziM(hc:X.calm=AB):yae X (.builtin "max") (λxs H Q=>∃i j,xs=[.int i,.int j]/\Q (.int (if j > i then j else i)) H):=by
 intro π s σ H xs us Q I r h;let⟨i,j,rfl,q⟩:=h;let⟨u,w',rfl,⟨t,rfl⟩,⟨t',rfl⟩⟩:=vals2 r;refine max_two_ints (I.ok.hd hc) λh' tk k=>⟨_,H,I.kept k,?_,q⟩
 by_cases hj:j > i
 .rw[if_pos hj,if_pos hj];exact⟨_,rfl⟩
 .rw[if_neg hj,if_neg hj];exact⟨_,rfl⟩
def zfh:yae X (.type "int") (λxs H Q=>(∃i,xs=[.int i]/\Q (.int i) H) \/ ∃k,xs=[.bl k]/\Q (.int (if k then 1 else 0)) H):=by
 intro π s σ H xs us Q I r h;rcases h with⟨i,rfl,q⟩|⟨k,rfl,q⟩
 .let⟨u,rfl,t,rfl⟩:=vals1 r;exact call_int_int ⟨.int i,H,I,⟨_,rfl⟩,q⟩
 .let⟨u,rfl,r1⟩:=vals1 r
  cases r1
  exact call_int_bool ⟨.int (if k then 1 else 0),H,I.tok _,⟨_,rfl⟩,q⟩
end
structure ycw(h:BB)(x dx C:AI)(mA:AN->Option AG):Prop where
 obj:h.get? x=AA (CB C dx)
 ns:h.Ns1 dx mA
 ne:dx≠x
def zhm{h:BB}{dx:AI}{mA:AN->Option AG}(n:h.Ns1 dx mA):∃od,h.get? dx=AA od/\∀name,Dw name od=AA (mA name):=by
 let⟨o,es,ep,ho,hd,hk,_,hm⟩:=n;refine⟨o,ho,λname=>?_⟩;have e:=hm name;unfold nsFind findBy at e;rw[<-Array.find?_toList]at e;unfold Dw;rw[hd];dsimp only;split
 .rename_i y q;rw[q]at e;exact congrArg AA e
 .rename_i q;rw[q]at e;have a:es.toList.any (·.refKey)=false:=by
   rw[List.any_eq_false];intro y hy;let⟨z,t,hkey⟩:=hk y (Array.mem_toList_iff.mp hy);simp[DictEntry.refKey,hkey]
  have a':¬es.toList.any (·.refKey)=true:=by rw[a];exact BA
  rw[if_neg a'];exact congrArg AA e
theorem ycw.look{h:BB}{x dx C:AI}{mA:AN->Option AG}(I:ycw h x dx C mA):∃od,PySem.W.InstAt h x (CB C dx) C (AA od)/\∀name,Dw name od=AA (mA name):=
 let ⟨od,ho,hl⟩:=zhm I.ns
 ⟨od,⟨I.obj,rfl,rfl,ho⟩,hl⟩
section
variable {prog:A3}{w:Ag}{A:Ar}{E:AG->AJ->Prop}{s:AJ}{K:AF}{x dx C f:AI}{mA:AN->Option AG}{name:AN}{v:AG}
def zl3{expr:Bool}{Q:AG->AJ->Prop}(X:K.In s.heap)(I:ycw s.heap x dx C mA)(hg:Cn K C name=AB)(hh:DE K C=AB)
  (ha:Ay K (.ref C) name=AA AD) (hv:mA name=AA v) (hv':Fy v=AB) (h:Q v {s with toks:=s.toks+1}):
  A0 (model prog w) A (getAttr (.ref x) name expr) Q E s:=by
 let⟨od,J,hl⟩:=I.look;exact PySem.W.get_value X J (Dl hg).1 (PySem.W.findObj_own hh ha rfl (by rw[hl,hv])) hv' h
def zi8{pl:Gg Bool}{Q:AG×List AG->AJ->Prop}(X:K.In s.heap)(I:ycw s.heap x dx C mA)(hg:Cn K C name=AB)
  (hf:Ay K (.ref C) name=AA (AA (.ref f))) (ht:Co K (.ref f)=AB) (hv:mA name=AD) (h:Q (.ref f,[.ref x]) s):
  A0 (model prog w) A (getMethod (.ref x) name pl) Q E s:=by
 let⟨od,J,hl⟩:=I.look;exact PySem.W.method_fn X J (Dl hg).1 (Dl hg).2 hf (beq_iff_eq.mp ht) (by show (Dw name od).map (·.isSome)=AA AC;rw[hl,hv];rfl) h
def zl7{ns:List AN}{Q:Unit->AJ->Prop}(X:K.In s.heap)(I:ycw s.heap x dx C mA)
  (hs:Ay K (.ref C) "__setattr__"=AA (AA (.builtin "object.__setattr__"))) (hp:EL K C=AB) (ht:En K C name=AA AD) (hh:DE K C=AB)
  (hw:F7 mA ns) (hsz:ns.length<=sizeLine)
  (h:∀h',ycw h' x dx C (λy=>if y=name then AA v else mA y)->C9 dx s.heap h'->Q () {s with heap:=h',toks:=s.toks+2}):
  A0 (model prog w) A (setAttr (.ref x) name v) Q E s:=by
 let⟨od,J,hl⟩:=I.look;refine PySem.W.set_plain X J hs (PySem.W.osa_open (s:={s with toks:=s.toks+1}) (r:=AD) X J hp ht λb=>?_);let⟨cd,hc,hd'⟩:=PySem.W.any_some hh;have hx:s.heap.get? x=AA ⟨.ref C,AA dx,.plain,#[]⟩:=I.obj;refine AH (AU (AH (AH (wpAny_loadPart hx (AH (HK (s:={s with toks:=s.toks+1}) (PySem.W.looks_clsIn X hc) ?_))))));rw[hd'];refine AU (a:=AA dx) (AH (AU (AH ?_)));refine wpAny_nsSet1 (s:={s with toks:=s.toks+1}) I.ns λh' hn2 hs2=>?_;let⟨oD,esD,epD,hoD,hdD,hcD⟩:=hn2.count (HQ name v hw);refine AH (wpAny_lookBehind hoD (by rw[hdD];exact pastItsLine_dict (BV hcD (by rw[AX];lia))) ?_);exact AU (h _ ⟨(hs2.2 _ (BE I.ne)).trans I.obj,hn2,I.ne⟩ hs2)
def zjV{R:G6->AJ->Prop}{vs:List AG}{kw:List (AN×AG)}(X:K.In s.heap)(hm:Da K C=AB)
  (hi:Ay K (.ref C) "__init__"=AA (AA (.ref f))) (hf:PySem.W.typeIn K (.ref f)=AA (.type "function"))
  (h:codeAny (model prog w) (A.under (.builtin "type.__call__" ⟨.ref C::vs,kw⟩)) (.call (.ref f) ⟨.ref (s.heap.objs.size+1)::vs,kw⟩) (PySem.W.InitBack (s.heap.objs.size+1) R)
   {s with heap:=(s.heap.push Ba).push (CB C s.heap.objs.size)}):
  codeAny (model prog w) A (.call (.ref C) ⟨vs,kw⟩) R s:=by
 let⟨hh,g,d,t,os⟩:=s;exact PySem.W.make_core (PySem.W.makes_of X hm) (PySem.W.looks_findIn X hi) (λself=>PySem.W.bind_fn X self hf) (.inl rfl) h
end
def yaX(f:AN)(v:V):List (AN×V)->List (AN×V)
 |[]=>[(f,v)]
 |(g,x)::r=>if g=f then(g,v)::r else(g,x)::yaX f v r
def zc9(f g:AN)(v:V):∀fs:List (AN×V),(yaX f v fs).lookup g=if g=f then AA v else fs.lookup g
 |[]=>by
  show Bu g [(f,v)]=_
  by_cases h:g=f
  .have hb:(g==f)=true:=beq_iff_eq.mpr h;erw[Bu,hb,if_pos h]
  .have hb:(g==f)=false:=beq_eq_false_iff_ne.mpr h;erw[Bu,hb,if_neg h]
 |(k,x)::r=>by
  have ih:=zc9 f g v r;rw[show yaX f v ((k,x)::r)=(if k=f then(k,v)::r else(k,x)::yaX f v r)from rfl]
  by_cases hk:k=f
  .rw[if_pos hk]
   by_cases h:g=k
   .have hb:(g==k)=true:=beq_iff_eq.mpr h;erw[Bu,hb,if_pos (h.trans hk)]
   .have hb:(g==k)=false:=beq_eq_false_iff_ne.mpr h;erw[Bu,hb,if_neg (λe:g=f=>h (e.trans hk.symm))]
  .rw[if_neg hk]
   by_cases h:g=k
   .have hb:(g==k)=true:=beq_iff_eq.mpr h;erw[Bu,hb,if_neg (λe:g=f=>hk (h.symm.trans e))]
   .have hb:(g==k)=false:=beq_eq_false_iff_ne.mpr h;erw[Bu,hb];exact ih
def zdy(f:AN)(v:V):∀fs:List (AN×V),f∈(yaX f v fs).map (·.1)/\∀g,g∈fs.map (·.1)->g∈(yaX f v fs).map (·.1)
 |[]=>⟨by simp[yaX],λg h=>by simp at h⟩
 |(k,x)::r=>by
  let⟨i1,i2⟩:=zdy f v r;rw[show yaX f v ((k,x)::r)=(if k=f then(k,v)::r else(k,x)::yaX f v r)from rfl]
  by_cases hk:k=f
  .rw[if_pos hk];subst hk;exact⟨by simp,λg h=>by simpa using h⟩
  .rw[if_neg hk];refine⟨?_,λg h=>?_⟩
   .rw[AL];exact AQ _ i1
   .rw[AL]at h ⊢;rcases AR.mp h with e|e
    .exact AR.mpr (.inl e)
    .exact AQ _ (i2 g e)
def zdB(f:AN)(v:V):∀fs:List (AN×V),(yaX f v fs).length<=fs.length+1
 |[]=>by simp[yaX]
 |(k,x)::r=>by
  have ih:=zdB f v r;rw[show yaX f v ((k,x)::r)=(if k=f then(k,v)::r else(k,x)::yaX f v r)from rfl]
  by_cases hk:k=f
  .rw[if_pos hk,AX,AX];lia
  .rw[if_neg hk,AX,AX];lia
theorem ybs.some_of{v:V}{o:Option AG}(r:ybs (AA v) o):∃u,o=AA u/\RelV v u:=by
 cases o with
 |none=>exact(show False from r).elim
 |some u=>exact⟨u,rfl,r⟩
theorem ybs.none_of{o:Option AG}(r:ybs AD o):o=none:=by
 cases o with
 |none=>rfl
 |some u=>exact(show False from r).elim
def zh7{v:V}{u:AG}(r:RelV v u):Fy u=true:=by
 cases v with
 |non=>cases (show u=CM from r);rfl
 |bl b=>cases (show u=Dq b from r);rfl
 |int i=>let⟨t,e⟩:=(show ∃t,u=EU i t from r);cases e;rfl
 |str x=>let⟨t,e⟩:=(show ∃t,u=Fv x t from r);cases e;rfl
 |byt b=>let⟨t,e⟩:=(show ∃t,u=HE b t from r);cases e;rfl
 |flt b=>let⟨t,e⟩:=(show ∃t,u=HF b t from r);cases e;rfl
 |ref a=>cases (show u=Ad a from r);rfl
 |ty n=>cases (show u=F1 n from r);rfl
section
variable {P:A3}{w:Ag}{H H':Hp}{h h':BB}{a C dx:AI}{fs fs':List (AN×V)}
def zfR(hok:HOk P w H h)(e:H a=AA (.ins C dx fs)):∃mA,ycw h a dx C mA/\(∀f,ybs (fs.lookup f) (mA f))/\F7 mA (fs.map (·.1))/\fs.length<=1000/\H dx=AA (.own a):=by
 let⟨d,z,ne,ob,mA,n,r,q⟩:=(show yR P w H h a (.ins C dx fs)from hok a _ e);exact⟨mA,⟨ob,n,ne⟩,r,q,z,d⟩
end
structure Cls(K:AF)(C:AI):Prop where
 pg:Cn K C Fz=AB
 hd:DE K C=AB
 po:EL K C=AB
 sa:Ay K (.ref C) "__setattr__"=AA (AA (.builtin "object.__setattr__"))
theorem Cls.get{K:AF}{C:AI}(c:Cls K C)(f:AN):Cn K C f=true:=c.pg
def yaq(K:AF)(C:AI)(f:AN):Prop:=Ay K (.ref C) f=AA AD
theorem yaq.taker{K:AF}{C:AI}{f:AN}(n:yaq K C f):En K C f=AA none:=by
 unfold En;rw[show Ay K (.ref C) f=AA AD from n];rfl
structure Con(K:AF)(C:AI)(f:AN)(v:V)(u:AG):Prop where
 at_:Ay K (.ref C) f=AA (AA u)
 rel:RelV v u
 get:PySem.W.specialIn K u "__get__"=AA AD
 cp:PySem.W.copiedNames.contains f=AC
structure Meth(K:AF)(C:AI)(m:AN)(f:AI):Prop where
 at_:Ay K (.ref C) m=AA (AA (.ref f))
 fn:Co K (.ref f)=AB
 kp:Al K (.ref f)=AB
section
variable {X:Cx}{π:List (AI×CF)}{σ:St}{H:Hp}{s:AJ}{a C dx:AI}{fs:List (AN×V)}{f:AN}{v:V}{A:Ar}{E:AG->AJ->Prop}
def zd4{b:Bool}{Q:AG->AJ->Prop}(I:Inv X π σ H s)(e:H a=AA (.ins C dx fs))(c:Cls X.K C)(n:yaq X.K C f)(l:fs.lookup f=AA v)
  (h:∀u s',Inv X π σ H s'->RelV v u->Q u s'):A0 (model X.prog X.w) A (getAttr (.ref a) f b) Q E s:=by
 let⟨mA,O,r,_,_,_⟩:=zfR I.hok e;let⟨u,hu,ru⟩:=ybs.some_of (v:=v) (o:=mA f) (by rw[<-l];exact r f);exact zl3 I.kIn O (c.get f) c.hd n hu (zh7 ru) (h u _ (I.tok _) ru)
def zdT{m:AN}{g:AI}{pl:Gg Bool}{Q:AG×List AG->AJ->Prop}(I:Inv X π σ H s)(e:H a=AA (.ins C dx fs))(c:Cls X.K C)(k:Meth X.K C m g)(l:fs.lookup m=AD)
  (h:Q (.ref g,[.ref a]) s):A0 (model X.prog X.w) A (getMethod (.ref a) m pl) Q E s:=by
 let⟨mA,O,r,_,_,_⟩:=zfR I.hok e;have hn:mA m=none:=ybs.none_of (by rw[<-l];exact r m);exact zi8 I.kIn O (c.get m) k.at_ k.fn hn h
def zdQ{y:V}{u:AG}{Q:Unit->AJ->Prop}(I:Inv X π σ H s)(e:H a=AA (.ins C dx fs))(c:Cls X.K C)(n:yaq X.K C f)(hl:fs.length<1000)(ry:RelV y u)
  (h:∀s',Inv X π σ (upd H a (.ins C dx (yaX f y fs))) s'->Q () s'):A0 (model X.prog X.w) A (setAttr (.ref a) f u) Q E s:=by
 let⟨mA,O,r,wi,_,ho⟩:=zfR I.hok e;have hz:(fs.map (·.1)).length<=sizeLine:=by rw[BD,D8];lia
 refine zl7 I.kIn O c.sa c.po n.taker c.hd wi hz λh' O' sb=>h _ ?_;have hd:∃o,h'.get? dx=AA o:=let ⟨o,_,_,e',_⟩:=O'.ns;⟨o,e'⟩
 refine I.write (x:=a) (e:=dx) (by rw[e];exact Ca) (.inr ho) (λb q hb z=>(sb.2 b hb).trans z) hd ?_;refine⟨by rw[zj O.ne];exact ho,?_,O.ne,O'.obj,_,O'.ns,λg=>?_,λg hg=>?_⟩
 .have:=zdB f y fs;lia
 .show ybs ((yaX f y fs).lookup g) (if g=f then AA u else mA g);rw[zc9]
  by_cases q:g=f
  .rw[if_pos q,if_pos q];exact ry
  .rw[if_neg q,if_neg q];exact r g
 .by_cases q:g=f
  .rw[q];exact(zdy f y fs).1
  .refine(zdy f y fs).2 g (wi g λz=>hg ?_);show (if g=f then AA u else mA g)=AD;rw[if_neg q];exact z
theorem Inv.made(I:Inv X π σ H s):Inv X π σ (upd (upd H s.heap.objs.size (.own (s.heap.objs.size+1))) (s.heap.objs.size+1) (.ins C s.heap.objs.size []))
  {s with heap:=(s.heap.push Ba).push (CB C s.heap.objs.size)}:=by
 have e1:(s.heap.push Ba).get? s.heap.objs.size=AA Ba:=AZ s.heap rfl;have e2:((s.heap.push Ba).push (CB C s.heap.objs.size)).get? (s.heap.objs.size+1)=AA (CB C s.heap.objs.size):=by
  have:=AZ (s.heap.push Ba) (o:=CB C s.heap.objs.size) rfl
  rwa [Bv]at this
 have e3:(s.heap.push Ba).Ns s.heap.objs.size (λ_=>AD):=⟨Ba,#[],_,e1,rfl,(λe he=>absurd he (by simp)),λ_=>rfl⟩;have I1:=I.laid (a:=s.heap.objs.size) (o:=.own (s.heap.objs.size+1)) (h':=s.heap.push Ba) (t':=s.toks) (λb u q=>AO _ q) (AT _) ⟨_,e1⟩;refine I1.laid (a:=s.heap.objs.size+1) (o:=.ins C s.heap.objs.size []) (t':=s.toks) (λb u q=>AO _ q) (Gq (Bv _ _)) ?_;have ne:s.heap.objs.size≠s.heap.objs.size+1:=Ah (GA _);refine⟨by rw[zj ne,zq],DB _,ne,e2,λ_=>AD,(Heap.Ns1.of_empty e3).at λo q=>AO _ q,λ_=>Ca,λy hy=>absurd rfl hy⟩
def zlK{prog:A3}{w:Ag}{env:Env}{e:AS}{f:AN}{pos:CT}{s:AJ}{Q:AG->AJ->Prop}(hb:attributeBase e f env (eval e env)=eval e env)
  (h:A0 (model prog w) A (eval e env) (λo s₁=>A0 (model prog w) A (getAttr o f AB) Q E s₁) E s):A0 (model prog w) A (eval (.Attribute e f pos) env) Q E s:=
 Attribute_any_ h (by rw[arm_eval_Attribute,hb])
end
def yfX(K:AF)(ta:TE)(f:AN):TE:=λσ H Q=>ta σ H λx H1=>∃a C dx fs v,x=.ref a/\H1 a=AA (.ins C dx fs)/\Cls K C/\yaq K C f/\fs.lookup f=AA v/\Q v H1
def ygO(K:AF)(ta tv:TE)(f:AN):TS:=λD σ H=>tv σ H λy H1=>ta σ H1 λx H2=>∃a C dx fs,x=.ref a/\H2 a=AA (.ins C dx fs)/\Cls K C/\yaq K C f/\fs.length<1000 /\
 D.nx σ (upd H2 a (.ins C dx (yaX f y fs)))
def yeX(X:Cx)(op:D7)(rd:V->V->Hp->VK->Prop):Prop:=
 ∀(π:List (AI×CF)) (s:AJ) (σ:St) (H:Hp) (x y:V) (u v:AG) (Q:VK),Inv X π σ H s->RelV x u->RelV y v->rd x y H Q->A0 (model X.prog X.w) X.A (inplaceOp op u v) (EP X π σ Q) X.xe s
def ycB(K:AF)(ta tv:TE)(rd:V->V->Hp->VK->Prop)(f:AN):TS:=λD σ H=>ta σ H λx H1=>∃a C dx fs v,x=.ref a/\H1 a=AA (.ins C dx fs)/\Cls K C/\yaq K C f/\fs.lookup f=AA v /\
 tv σ H1 λy H2=>rd v y H2 λz H3=>∃dx' fs',H3 a=AA (.ins C dx' fs')/\fs'.length<1000/\D.nx σ (upd H3 a (.ins C dx' (yaX f z fs')))
section
variable {X:Cx}{o e value:AS}{f:AN}{pos pos' tpos:CT}{ta tv:TE}
def znI(he:PE X e ta)(hb:attributeBase e f X.env (eval e X.env)=eval e X.env):PE X (.Attribute e f pos) (yfX X.K ta f):=by
 intro π s σ H Q I h;refine zlK hb (thn (he π s σ H _ I h) λu s1 kq=>?_);let⟨x,H1,I1,rx,a,C,dx,fs,v,ex,ea,c,n,l,q⟩:=kq;subst ex;obtain rfl:u=Ad a:=rx;exact zd4 I1 ea c n l λu' s2 I2 ru=>⟨v,H1,I2,ru,q⟩
def zmM(ha:PE X o ta)(hv:PE X value tv)(hs:swapsWith value (AA (.Attribute o f pos')) pos.line X.env=pure AC):PS X (.Assign [.Attribute o f pos'] value pos) (ygO X.K ta tv f):=by
 intro π s σ H D I h;refine plainObj_wpAny_Assign_Attribute (thn (hv π s σ H _ I h) λu s1 kq=>?_) hs;let⟨y,H1,I1,ry,q⟩:=kq;refine thn (ha π s1 σ H1 _ I1 q) λov s2 kq=>?_;let⟨x,H2,I2,rx,a,C,dx,fs,ex,ea,c,n,l,q2⟩:=kq;subst ex;obtain rfl:ov=Ad a:=rx;exact zdQ I2 ea c n l ry λs3 I3=>⟨σ,_,I3,q2⟩
def zhL{op:D7}{rd:V->V->Hp->VK->Prop}(ha:PE X o ta)(hv:PE X value tv)(hop:yeX X op rd):PS X (.AugAssign (.Attribute o f tpos) op value pos) (ycB X.K ta tv rd f):=by
 intro π s σ H D I h;refine wpAny_AugAssign_AttributeAny (thn (ha π s σ H _ I h) λov s1 kq=>?_);let⟨x,H1,I1,rx,a,C,dx,fs,v,ex,ea,c,n,l,q⟩:=kq;subst ex;obtain rfl:ov=Ad a:=rx;refine zd4 I1 ea c n l λu s2 I2 ru=>thn (hv π s2 σ H1 _ I2 q) λw3 s3 kq=>?_;let⟨y,H2,I3,ry,q3⟩:=kq;refine thn (hop π s3 σ H2 v y u w3 _ I3 ru ry q3) λw4 s4 kq=>?_;let⟨z,H3,I4,rz,dx',fs',ea',l',q4⟩:=kq;exact zdQ I4 ea' c n l' rz λs5 I5=>⟨σ,_,I5,q4⟩
def yfM:V->V->Hp->VK->Prop:=λx y H Q=>∃i j,x=.int i/\y=.int j/\Q (.int (i+j)) H
def znB:yeX X .Add yfM:=by
 rintro π s σ H x y u v Q I rx ry ⟨i,j,rfl,rfl,q⟩
 let⟨t,rfl⟩:=(show ∃t,u=EU i t from rx);let⟨t',rfl⟩:=(show ∃t',v=EU j t' from ry);exact G0 ⟨.int (i+j),H,I.tok _,⟨_,rfl⟩,q⟩
end
section
variable {X:Cx}{π:List (AI×CF)}{σ:St}{H:Hp}{s:AJ}{A:Ar}{E:AG->AJ->Prop}{Q:AG->AJ->Prop}{c:AG}{b:Bool}
end
structure yap(k:Nat)(A:Ar):Prop where
 hd:A.handled=AD
 dp:A.depth+3*k+5<recursionLimit
 un:A.units+16*k+200<cLine
theorem yap.mono{j k:Nat}{A:Ar}(r:yap k A)(h:j<=k):yap j A:=⟨r.hd,by have:=r.dp;lia,by have:=r.un;lia⟩
theorem yap.deeper{k:Nat}{A:Ar}(r:yap (k+1) A)(env:Env):yap k (A.deeper env):=
 ⟨r.hd,by have:=r.dp;show A.depth+1+3*k+5<_;lia,by have:=r.un;show A.units+3+16*k+200<_;lia⟩
def zgO{A:Ar}{C:AI}{us:List AG}{kw:List (AN×AG)}:(A.under (.builtin "type.__call__" ⟨.ref C::us,kw⟩)).depth=A.depth+1:=by
 first|rfl|simp[Fa,Code.weight,Code.isCreation,Code.isGuard,Code.isCaller,HH,Fb,guardIds]
def zgH{A:Ar}{C:AI}{us:List AG}{kw:List (AN×AG)}:(A.under (.builtin "type.__call__" ⟨.ref C::us,kw⟩)).units=A.units+1:=by
 first|rfl|simp[Fa,Code.cUnits,HH,Fb]
theorem yap.make{k:Nat}{A:Ar}(r:yap (k+1) A)(C:AI)(us:List AG)(kw:List (AN×AG)):yap k (A.under (.builtin "type.__call__" ⟨.ref C::us,kw⟩)):=
 ⟨r.hd,by have:=r.dp;rw[zgO];lia,by have:=r.un;rw[zgH];lia⟩
theorem yap.depth{k:Nat}{A:Ar}(r:yap k A):A.depth<recursionLimit:=by have:=r.dp;lia
theorem yap.units{k:Nat}{A:Ar}(r:yap k A):A.units+64<cLine:=by have:=r.un;lia
def ydv:TA:=λ_ H Q=>Q [] H
def yde(ta:TE)(tr:TA):TA:=λσ H Q=>ta σ H λx H1=>tr σ H1 λxs H2=>Q (x::xs) H2
section
variable {X:Cx}{e:AS}{es:List AS}{te:TE}{t:TA}{pos:CT}
def zhr:PA X [] ydv:=λ_ _ _ _ H Q I h=>Fc ⟨[],H,I,.nil,h⟩
def zbI(ha:PE X e te)(hr:PA X es t)(hs:starEach (e::es) X.env=(AC,eval e X.env)::starEach es X.env:=by rfl):PA X (e::es) (yde te t):=by
 intro pos π s σ H Q I h;rw[hs];show A0 _ _ (spliced ((AC,eval e X.env)::backTo pos (starEach es X.env))) _ _ s;refine Dx (thn (ha π s σ H _ I h) λu s1 kq=>?_);let⟨x,H1,I1,r1,q1⟩:=kq;exact thn (hr pos π s1 σ H1 _ I1 q1) λus s2 ⟨xs,H2,I2,r2,q2⟩=>⟨x::xs,H2,I2,.cons r1 r2,q2⟩
def yf3(t:TA):TE:=λσ H Q=>t σ H λxs H1=>xs.length<=sizeLine/\∀p,H1 p=AD->Q (.ref p) (upd H1 p (.tup xs))
def yfs(t:TA):TE:=λσ H Q=>t σ H λxs H1=>xs.length<=sizeLine/\∀p,H1 p=AD->Q (.ref p) (upd H1 p (.lst xs))
def zoS{x1}(h:PA X es t):PE X (.Tuple es x1 pos) (yf3 t):=by
 intro π s σ H Q I hq;refine wpAny_Tuple_spliced (thn (h pos π s σ H _ I hq) λus s1 kq=>?_);let⟨xs,H1,I1,r,z,q⟩:=kq;refine ⟨by rw[<-r.length];exact z,?_⟩;have hf:H1 s1.heap.objs.size=none:=I1.hok.fresh (AT _);refine⟨.ref s1.heap.objs.size,upd H1 s1.heap.objs.size (.tup xs),I1.laid (t':=s1.toks) (λb u e=>AO _ e) (AT _) ?_,rfl,q _ hf⟩;exact⟨z,us,r,⟨_,AZ _ rfl,rfl,_,rfl⟩⟩
def zkw(h:PA X es t):PE X (.List es pos) (yfs t):=by
 intro π s σ H Q I hq;refine wpAny_List_spliced (thn (h pos π s σ H _ I hq) λus s1 kq=>?_);let⟨xs,H1,I1,r,z,q⟩:=kq;refine ⟨by rw[<-r.length];exact z,?_⟩;have hf:H1 s1.heap.objs.size=none:=I1.hok.fresh (AT _);refine⟨.ref s1.heap.objs.size,upd H1 s1.heap.objs.size (.lst xs),I1.laid (t':=s1.toks) (λb u e=>AO _ e) (AT _) ?_,rfl,q _ hf⟩;exact⟨z,us,0,r,AZ _ rfl⟩
end
abbrev Sp:=List V->Hp->VK->XK->Prop
abbrev CXT:=List Env->Hp->AJ->XK->AG->AJ->Prop
structure ycy(P:A3)(w:Ag)(K:AF)(mg:AN->Option AG)(base:BB)(A:Ar)(outer:List Env)(s:AJ)(H:Hp):Prop where
 frames:A.frames=AA outer
 mod:Mod K mg base
 bs:∀b o,base.get? b=AA o->s.heap.get? b=AA o/\H b=AD
 bsz:base.objs.size<=s.heap.objs.size
 funs:s.heap.FunFrames base outer
 frf:∀b∈frs outer,H b=AD
 hok:HOk P w H s.heap
 bare:D0 s.gens
def CE(outer:List Env)(P:A3)(w:Ag)(H:Hp)(s:AJ)(Q:VK)(u:AG)(s':AJ):Prop:=
 ∃v H',s'.os=s.os/\D0 s'.gens/\Un (frs outer) [] H H' s.heap s'.heap/\HOk P w H' s'.heap/\RelV v u/\Q v H'
def CR(CX:CXT)(outer:List Env)(P:A3)(w:Ag)(H:Hp)(s:AJ)(Q:VK)(E:XK)(r:G6)(s':AJ):Prop:=
 match r with
 |.ok (.ret u)=>CE outer P w H s Q u s'
 |.ok _=>False
 |.error e=>CX outer H s E e s'
structure yaI(P:A3)(w:Ag)(K:AF)(mg:AN->Option AG)(base:BB)(CX:CXT)(k:Nat)(f:AI)(fd:Az)(ps:List AN)(sp:Sp):Prop where
 len:∀vs H Q E,sp vs H Q E->vs.length=ps.length
 run:∀(A:Ar) (outer:List Env) (s:AJ) (H:Hp) (args:Args) (us:List AG) (vs:List V) (Q:VK) (E:XK),yap k A->ycy P w K mg base A outer s H->FI s fd args (ps.zip us)->Vals vs us->sp vs H Q E ->
  codeAny (model P w) A (.call (.ref f) args) (CR CX outer P w H s Q E) s
theorem yaI.imp{P:A3}{w:Ag}{K:AF}{mg:AN->Option AG}{base:BB}{CX:CXT}{k:Nat}{f:AI}{fd:Az}{ps:List AN}{sp sp':Sp}(F:yaI P w K mg base CX k f fd ps sp)
  (h:∀vs H Q E,sp' vs H Q E->sp vs H Q E):yaI P w K mg base CX k f fd ps sp':=
 ⟨λvs H Q E q=>F.len vs H Q E (h _ _ _ _ q),λA outer s H args us vs Q E hr he hb hv hs=>F.run A outer s H args us vs Q E hr he hb hv (h _ _ _ _ hs)⟩
theorem ycy.make{P:A3}{w:Ag}{K:AF}{mg:AN->Option AG}{base:BB}{A:Ar}{outer:List Env}{s:AJ}{H:Hp}(e:ycy P w K mg base A outer s H)(C:AI)(us:List AG)(kw:List (AN×AG)):
  ycy P w K mg base (A.under (.builtin "type.__call__" ⟨.ref C::us,kw⟩)) outer s H:=⟨by first|exact e.frames|(simpa [Fa,Code.envs,Fb,pushEnvs] using e.frames),e.mod,e.bs,e.bsz,e.funs,e.frf,e.hok,e.bare⟩
section
variable {X:Cx}{π:List (AI×CF)}{σ:St}{H:Hp}{s s':AJ}
theorem Inv.env0(I:Inv X π σ H s):ycy X.prog X.w X.K X.mg X.base X.A X.stack s H:=
 ⟨I.ok.frames,I.ok.mod,I.bs,BV I.ok.bsz I.sz,I.stack,I.stkFree,I.hok,I.bare⟩
theorem Inv.after{Q:VK}{u:AG}(I:Inv X π σ H s)(h:CE X.stack X.prog X.w H s Q u s'):EP X π σ Q u s':=by
 let⟨v,H',os,bare,un,hok,r,q⟩:=h;let⟨hh,g,d,t,os'⟩:=s';obtain rfl:os'=s.os:=os;exact⟨v,H',I.call (h':=hh) (g':=g) (d':=d) (t':=t) (ch:=[]) un hok bare (λb z=>absurd z (by simp)),r,q⟩
end
def yeh(C:AI)(sp:Sp)(dvs:List V)(E:XK)(t:TA):TE:=λσ H Q=>t σ H λvs H1=>∀x dx,H1 x=AD->H1 dx=AD->dx≠x ->
 sp (.ref x::(vs++dvs)) (upd (upd H1 dx (.own x)) x (.ins C dx [])) (λv H2=>v=.non/\Q (.ref x) H2) E
def Binds(K:AF)(fd:Az)(ps:List AN)(ds:List AG):Prop:=
 ∀(s:AJ) (us:List AG),K.In s.heap->(us++ds).length=ps.length->FI s fd ⟨us,[]⟩ (ps.zip (us++ds))
theorem Binds.all{K:AF}{fd:Az}{ps:List AN}(h:∀us:List AG,us.length=ps.length->bindArgs fd ⟨us,[]⟩=pure (ps.zip us)):Binds K fd ps []:=λs us _ hl=>by
 rw[Ap]at hl ⊢;exact .of_eq (h us hl)
def ybD(CX:CXT)(X:Cx)(E:XK):Prop:=∀(π:List (AI×CF)) (σ:St) (H:Hp) (s:AJ) (e:AG) (s':AJ),Inv X π σ H s->CX X.stack H s E e s'->X.xe e s'
section
variable {X:Cx}{CX:CXT}{k:Nat}{f C:AI}{fd:Az}{ps:List AN}{sp:Sp}{dvs:List V}{ds:List AG}{E:XK}{x m:AN}{p pos apos:CT}{e o:AS}{es:List AS}{ta:TE}{t:TA}
structure Mk(K:AF)(C f:AI):Prop where
 makes:Da K C=AB
 init:Ay K (.ref C) "__init__"=AA (AA (.ref f))
 fn:Co K (.ref f)=AB
 kp:Al K (.ref C)=AB
def zjj{π:List (AI×CF)}{σ:St}{H:Hp}{s:AJ}{Q:VK}{us:List AG}{vs:List V}(M:Mk X.K C f)(F:yaI X.prog X.w X.K X.mg X.base CX k f fd ps sp)(hr:yap (k+1) X.A)(hb:Binds X.K fd ps ds)(hd:Vals dvs ds)
  (hx:ybD CX X E) (I:Inv X π σ H s) (r:Vals vs us)
  (h:∀x dx,H x=AD->H dx=AD->dx≠x->sp (.ref x::(vs++dvs)) (upd (upd H dx (.own x)) x (.ins C dx [])) (λv H2=>v=.non/\Q (.ref x) H2) E):
  A0 (model X.prog X.w) X.A (call (.ref C) us) (EP X π σ Q) X.xe s:=by
 have hq:=h (s.heap.objs.size+1) s.heap.objs.size (I.hok.fresh (C6 _)) (I.hok.fresh (AT _)) (Ah (GA _));have I2:=Inv.made (C:=C) I;have r2:Vals (V.ref (s.heap.objs.size+1)::(vs++dvs)) (Ad (s.heap.objs.size+1)::(us++ds)):=.cons rfl (r.append hd);have hl:(Ad (s.heap.objs.size+1)::us++ds).length=ps.length:=by
  have e:=r2.length;rw[F.len _ _ _ _ hq]at e;exact e.symm
 refine G7 (zjV (f:=f) I.kIn M.makes M.init (beq_iff_eq.mp M.fn) (Dn (F.run _ X.stack _ _ ⟨Ad (s.heap.objs.size+1)::us,[]⟩ (Ad (s.heap.objs.size+1)::(us++ds)) _ _ E (hr.make C us [])
  (I2.env0.make C us []) (hb _ (Ad (s.heap.objs.size+1)::us) I2.kIn hl) r2 hq) λr s' hq'=>?_))
 cases r with
 |error e=>exact hx π σ _ _ e s' I2 hq'
 |ok fl=>
  cases fl with
  |ret u=>
   let⟨v,H',I3,rv,ev,q3⟩:=I2.after hq';subst ev;exact⟨rv,⟨V.ref (s.heap.objs.size+1),H',I3,rfl,q3⟩⟩
  |next=>exact Bm hq'
  |brk=>exact Bm hq'
  |cont=>exact Bm hq'
def zlb(M:Mk X.K C f)(F:yaI X.prog X.w X.K X.mg X.base CX k f fd ps sp)(hr:yap (k+1) X.A)(hg:Gl X x)(hm:X.mg x=AA (.ref C))(hb:Binds X.K fd ps ds)(hd:Vals dvs ds)(hx:ybD CX X E)
  (ha:PA X (e::es) t) (hdb:(x==("__debug__":AN))=false:=by decide) (he:starEach (e::es) X.env=(AC,eval e X.env)::starEach es X.env:=by rfl) (hpl:(backTo pos (starEach es X.env)).any (·.1)=false:=by rfl):
  PE X (.Call (.Name x p) (e::es) [] pos) (yeh C sp dvs E t):=by
 intro π s σ H Q I h;refine BZ (zdA I hg hm ?_ hdb);refine DA (h₀:=X.base) I.ok.mod.kin M.kp (thn (ha pos π s σ H _ I h) λus s1 kq=>?_) he hpl;let⟨vs,H1,I1,r,q⟩:=kq;refine ⟨I1.kIn,?_⟩;exact zjj M F hr hb hd hx I1 r q
end
def PK(X:Cx)(kws:List C2)(t:TA):Prop:=
 ∀(pos:CT) (π:List (AI×CF)) (s:AJ) (σ:St) (H:Hp) (Q:List V->Hp->Prop),Inv X π σ H s->t σ H Q->A0 (model X.prog X.w) X.A (evalAll ((backToKw pos (keywordEach kws X.env)).map (·.2))) (AP X π σ Q) X.xe s
section
variable {X:Cx}{CX:CXT}{k:Nat}{f C:AI}{fd:Az}{ps ks:List AN}{sp:Sp}{E:XK}{x m:AN}{p pos apos kpos:CT}{e o:AS}{es:List AS}{kws:List C2}{te ta:TE}{t tk:TA}{nm:Option AN}
def zp0:PK X [] ydv:=λ_ _ _ _ H Q I h=>wpAny_evalAll_nil ⟨[],H,I,.nil,h⟩
def zlI(ha:PE X e te)(hr:PK X kws t):PK X (⟨nm,e,kpos⟩ :: kws) (yde te t):=by
 intro pos π s σ H Q I h;show A0 _ _ (evalAll ((do let v <-eval e X.env;standAt pos;pure v)::(backToKw pos (keywordEach kws X.env)).map (·.2))) _ _ s;refine wpAny_evalAll_cons (AH (thn (ha π s σ H _ I h) λu s1 kq=>?_));let⟨x,H1,I1,r1,q1⟩:=kq;refine AH (ES (AU ?_));exact thn (hr pos π s1 σ H1 _ I1 q1) λus s2 ⟨xs,H2,I2,r2,q2⟩=>⟨x::xs,H2,I2,.cons r1 r2,q2⟩
structure ybH(K:AF)(fd:Az)(ps ks:List AN)(g:List AG->List AG->List AG)(gV:List V->List V->List V):Prop where
 to:∀(s:AJ) (us ws:List AG),K.In s.heap->(g us ws).length=ps.length->FI s fd ⟨us,ks.zip ws⟩ (ps.zip (g us ws))
 rel:∀{vs:List V} {us:List AG} {zs:List V} {ws:List AG},Vals vs us->Vals zs ws->Vals (gV vs zs) (g us ws)
variable {g:List AG->List AG->List AG}{gV:List V->List V->List V}
end
structure ya8(N P:List AN)(sc:Bk):Prop where
 kind:sc.kind=.function
 co:sc.isCoroutine=AC
 gen:sc.isGenerator=AC
 nd:N.Nodup
 pre:N.take P.length=P
 par:∀x∈P,sc.names.lookup x=AA .local \/ sc.names.lookup x=AA .cell
 nofree:∀y∈sc.names,y.2 ≠ .free
def ze9{kindOf:AN->Option DF}{x:AN}:∀{binds:List (AN×AG)} {m:AN->Option AG},(∀v,(x,v)∉binds)->bindL kindOf binds m x=m x
 |[],_,_=>rfl
 |(n,v)::r,m,h=>by
  unfold bindL;rw[ze9 λw hw=>h w (AQ _ hw)];split
  .have:x≠n:=by rintro rfl;exact h v Aj
   simp[this]
  .rfl
def zfu{kindOf:AN->Option DF}{x:AN}:∀{binds:List (AN×AG)} {m:AN->Option AG},(∀v,(x,v)∉binds)->bindC kindOf binds m x=m x
 |[],_,_=>rfl
 |(n,v)::r,m,h=>by
  unfold bindC;rw[zfu λw hw=>h w (AQ _ hw)];split
  .rfl
  .have:x≠n:=by rintro rfl;exact h v Aj
   simp[this]
def zfm{kindOf:AN->Option DF}{x:AN}{v:AG}:∀{P:List AN} {vs:List AG} {i:Nat} {m:AN->Option AG},P.Nodup->P[i]?=AA x->vs[i]?=AA v->kindOf x=AA .local ->
  bindL kindOf (P.zip vs) m x=AA v
 |[],_,_,_,_,h,_,_=>by simp at h
 |_::_,[],_,_,_,_,h,_=>by simp at h
 |p::P,w::vs,0,m,nd,h1,h2,hk=>by
  simp at h1 h2;subst h1;subst h2;show bindL kindOf ((p,w)::P.zip vs) m p=_;unfold bindL;rw[ze9 λv hv=>(Db.mp nd).1 (Eo hv).1,if_pos hk];simp
 |p::P,w::vs,i+1,m,nd,h1,h2,hk=>by
  show bindL kindOf ((p,w)::P.zip vs) m x=_;unfold bindL;exact zfm (i:=i) (Db.mp nd).2 (by simpa using h1) (by simpa using h2) hk
def zeQ{kindOf:AN->Option DF}{x:AN}{v:AG}:∀{P:List AN} {vs:List AG} {i:Nat} {m:AN->Option AG},P.Nodup->P[i]?=AA x->vs[i]?=AA v->kindOf x≠AA .local ->
  bindC kindOf (P.zip vs) m x=AA v
 |[],_,_,_,_,h,_,_=>by simp at h
 |_::_,[],_,_,_,_,h,_=>by simp at h
 |p::P,w::vs,0,m,nd,h1,h2,hk=>by
  simp at h1 h2;subst h1;subst h2;show bindC kindOf ((p,w)::P.zip vs) m p=_;unfold bindC;rw[zfu λv hv=>(Db.mp nd).1 (Eo hv).1,if_neg hk];simp
 |p::P,w::vs,i+1,m,nd,h1,h2,hk=>by
  show bindC kindOf ((p,w)::P.zip vs) m x=_;unfold bindC;exact zeQ (i:=i) (Db.mp nd).2 (by simpa using h1) (by simpa using h2) hk
def start(N:List AN)(vs:List V):St:=vs.map AA++An (N.length-vs.length) AD
def yaV(CX:CXT)(P:A3)(w:Ag)(K:AF)(mg:AN->Option AG)(base:BB)(N:List AN)(qual:AN)(scope:Bk)(f:AI)(cd:AG)(A:Ar)(outer:List Env)(s:AJ)(H:Hp)(E:XK):Cx where
 prog:=P
 w:=w
 K:=K
 mg:=mg
 base:=base
 A:=A.deeper (envOfC qual scope s.heap.objs.size f cd)
 N:=N
 s₀:=s
 H₀:=H
 env:=envOfC qual scope s.heap.objs.size f cd
 outer:=outer
 stack:=envOfC qual scope s.heap.objs.size f cd::outer
 ex:=[]
 calm:=AB
 fn:=λ_=>AB
 pn:=[]
 xe:=λe s'=>A0 (model P w) (A.deeper (envOfC qual scope s.heap.objs.size f cd)) («leaving» (envOfC qual scope s.heap.objs.size f cd) e) (λ_ s''=>CX outer H s E e s'') (λe' s''=>CX outer H s E e' s'') s'
def zgt{sc:Bk}{n:Nat}{x:AN}(h:sc.names.lookup x=AA .cell):∃c,(cellsFrom n sc.names []).lookup x=AA c:=by
 have q:=Ec sc.names n [] (.inl h);exact Aw.mp q
def zht{CX:CXT}{P:A3}{w:Ag}{K:AF}{mg:AN->Option AG}{base:BB}{N ps:List AN}{qual:AN}{scope:Bk}{f:AI}{cd:AG}{A:Ar}{outer:List Env}{s s1:AJ}{H:Hp}{E:XK}{us:List AG}{vs:List V}
  (S:ya8 N ps scope) (hd:A.handled=AD) (e0:ycy P w K mg base A outer s H) (hl:vs.length=ps.length) (r:Vals vs us)
  (x:InCallC s s.heap.objs.size (bindL (envOfC qual scope s.heap.objs.size f cd).kindOf (ps.zip us) λ_=>AD) (cellsFrom (s.heap.objs.size+1) scope.names []) (bindC (envOfC qual scope s.heap.objs.size f cd).kindOf (ps.zip us) λ_=>AD) s1):
  Inv (yaV CX P w K mg base N qual scope f cd A outer s H E) [] (start N vs) H s1:=by
 have hpl:ps.length<=N.length:=by have:=congrArg C7 S.pre;rw[EX]at this;lia
 let⟨h1,tk,rfl,hk⟩:=x.done;have noA:∀b:AI,b∉(yaV CX P w K mg base N qual scope f cd A outer s H E).ex:=λb z=>absurd (show b∈([]:List AI)from z) (by simp);refine⟨⟨e0.mod,S.kind,rfl,rfl,AT _,λy z c h1 h2=>?_,λy hy=>?_,λy c _ h=>?_,λ_=>hd,Around.frames_deeper e0.frames,.inr ⟨rfl,rfl⟩,λb z=>absurd z (noA b),e0.bs,e0.bsz,λb _ _=>noA b,λb z=>absurd z (noA b),e0.funs,e0.frf⟩,
  rfl,e0.bare,Un.kept hk,⟨_,x.toInCall.ns,λi y v h1 h2 h3=>?_⟩,λy c h=>⟨_,x.cell y c h⟩,e0.hok.fresh (AT _),λy c h=>?_,λp hp=>absurd (show p∈([]:List (AI×CF))from hp) (by simp),e0.hok.kept hk,?_⟩
 .exact name_of_addr x.apart (C3 h1) (C3 h2)
 .have hy:scope.names.lookup y=AA .cell \/ scope.names.lookup y=AA .free:=hy;rcases hy with hy|hy
  .exact zgt hy
  .exact absurd rfl (S.nofree _ (C3 hy))
 .exact F8 (x.above y c (C3 h))
 .have hi:i<vs.length:=by
   unfold start at h2
   by_cases hi:i<vs.length
   .exact hi
   .rw[Ao (by simpa using hi)]at h2;rw[EY]at h2;split at h2<;>cases h2
  have ha:vs[i]?=AA v:=by
   unfold start at h2;rw[Ac (by simpa using hi),CA]at h2
   cases e:vs[i]? with
   |none=>rw[e]at h2;cases h2
   |some a=>rw[e]at h2;cases h2;rfl
  let⟨u,hu,rv⟩:=r.get ha;have hp:ps[i]?=AA y:=by
   rw[<-S.pre,List.getElem?_take_of_lt ∅];exact h1
  have ndP:ps.Nodup:=by rw[<-S.pre];exact S.nd.sublist (List.take_sublist _ _)
  refine⟨u,rv,?_⟩;rcases S.par y (A1 hp)with k|k
  .exact .inl ⟨k,zfm ndP hp hu k⟩
  .let⟨c,e⟩:=zgt (n:=s.heap.objs.size+1) k;refine .inr ⟨.inl k,c,e,?_⟩;have q:=x.cell y c e;rw[zeQ ndP hp hu (by show scope.names.lookup y≠_;rw[k];decide)]at q;exact q
 .exact e0.hok.fresh (F8 (x.above y c (C3 h)))
 .unfold start;show _=N.length;rw[A8,BD,List.length_replicate];lia
def zo1{CX:CXT}{P:A3}{w:Ag}{K:AF}{mg:AN->Option AG}{base:BB}{k:Nat}{f:AI}{name qual:AN}{params:Arguments}{body:List Bz}{scope:Bk}{dV kV doc pm cdv ct oc:AG}{an od:Option AI}
  {osl:Array (Option AG)} {N ps:List AN} {sp:Sp} (lk:K.lookup f=AA ⟨oc,od,.func (B4 name qual params body scope dV kV doc pm an cdv ct),osl⟩) (hcd:CN K cdv qual=AB) (S:ya8 N ps scope)
  (len:∀vs H Q E,sp vs H Q E->vs.length=ps.length)
  (hbody:∀(A:Ar) (outer:List Env) (s:AJ) (H:Hp) (vs:List V) (Q:VK) (E:XK),yap k (A.deeper (envOfC qual scope s.heap.objs.size f cdv))->sp vs H Q E ->
   ∃t,PSs (yaV CX P w K mg base N qual scope f cdv A outer s H E) body t/\t {nx:=λ_ H'=>Q .non H',rt:=Q} (start N vs) H):
  yaI P w K mg base CX (k+1) f (B4 name qual params body scope dV kV doc pm an cdv ct) ps sp:=by
 refine⟨len,λA outer s H args us vs Q E hr e0 hb r hsp=>?_⟩;have hl:=len _ _ _ _ hsp;have KX:K.In s.heap:=e0.mod.kin.keeps λb o e=>(e0.bs b o e).1;have lim:s.heap.NoLimit:=e0.mod.nolimit.keeps λb o e=>(e0.bs b o e).1;have hkind:∀y∈ps.zip us,scope.names.lookup y.1=AA .local \/ (scope.names.lookup y.1=AA .cell/\((cellsFrom (s.heap.objs.size+1) scope.names []).lookup y.1).isSome=AB):=λ⟨n,v⟩ hy=>by
  rcases S.par n (Eo hy).1 with q|q
  .exact .inl q
  .exact .inr ⟨q,Ec _ _ _ (.inl q)⟩
 refine codeAny_call_function hr.depth (KX _ _ lk) rfl S.co S.gen rfl (PySem.W.codeRec_of KX hcd) (hb _ _ _ _ ?_);refine wpAny_newFunctionEnv_cells S.kind hkind λenv he s1 x=>?_;subst he;refine⟨lim.keeps x.toInCall.keep,codeAny_func ?_⟩;let⟨t,ht,hq⟩:=hbody A outer s H vs Q E (hr.deeper _) hsp;have I:Inv (yaV CX P w K mg base N qual scope f cdv A outer s H E) [] (start N vs) H s1:=zht S hr.hd e0 hl r x;refine CW (ht [] s1 (start N vs) H _ I hq) (λfl s' hs=>?_) λe s' hs=>hs;have fin:∀{σ':St} {H':Hp} {v:V} {u:AG},Inv (yaV CX P w K mg base N qual scope f cdv A outer s H E) [] σ' H' s'->RelV v u->Q v H'->CE outer P w H s Q u s':=
  λ{σ' H' v u} J rv q=>⟨v,H',J.os,J.bare,J.base,J.hok,rv,q⟩
 cases fl with
 |ret u=>
  let⟨v,σ',H',J,rv,q⟩:=hs;exact fin J rv q
 |next=>
  let⟨σ',H',J,q⟩:=hs;exact fin (v:=V.non) (u:=CM) J rfl q
 |brk=>
  let⟨_,_,_,q⟩:=hs;exact Bm q
 |cont=>
  let⟨_,_,_,q⟩:=hs;exact Bm q
section
variable {X:Cx}{x:AN}{p pos:CT}{e:AS}{es:List AS}{t:TA}{id T:String}{r:List V->Hp->VK->Prop}
def tCB(r:List V->Hp->VK->Prop)(t:TA):TE:=λσ H Q=>t σ H λvs H1=>r vs H1 Q
def zgv(hc:yae X (.builtin id) r)(hg:Gl X x)(hm:X.mg x=AD)(hv:bootBuiltins x=AA (.builtin id))(ha:PA X (e::es) t)(hn:x ≠ "__name__":=by decide)(hdb:(x==("__debug__":AN))=false:=by decide)
  (he:starEach (e::es) X.env=(AC,eval e X.env)::starEach es X.env:=by rfl) (hpl:(backTo pos (starEach es X.env)).any (·.1)=false:=by rfl):PE X (.Call (.Name x p) (e::es) [] pos) (tCB r t):=by
 intro π s σ H Q I h;refine BZ (zd0 I hg hm hv ?_ hn hdb);exact GB (thn (ha pos π s σ H _ I h) λus s1 ⟨vs,H1,I1,r1,q1⟩=>hc π s1 σ H1 vs us Q I1 r1 q1) he hpl
def zi0(hc:yae X (.type T) r)(hg:Gl X x)(hm:X.mg x=AD)(hv:bootBuiltins x=AA (.type T))(ha:PA X (e::es) t)(hn:x ≠ "__name__":=by decide)(hdb:(x==("__debug__":AN))=false:=by decide)
  (he:starEach (e::es) X.env=(AC,eval e X.env)::starEach es X.env:=by rfl) (hpl:(backTo pos (starEach es X.env)).any (·.1)=false:=by rfl):PE X (.Call (.Name x p) (e::es) [] pos) (tCB r t):=by
 intro π s σ H Q I h;refine BZ (zd0 I hg hm hv ?_ hn hdb);exact CH (thn (ha pos π s σ H _ I h) λus s1 ⟨vs,H1,I1,r1,q1⟩=>hc π s1 σ H1 vs us Q I1 r1 q1) he hpl
end
end L2
namespace HT
open PySem PyProof.Rows
section
open PySem.SeqAt
open PySem.AutoSeq1 (wpAny_loadPart')
open PySem.MeetsSeq PySem.MeetsSeq2 PySem.MeetsSeq3
end
section
variable {prog:A3}{w:Ag}{A:Ar}{E:AG->AJ->Prop}{s:AJ}
theorem cat_tup{t b:AI}{vs ws:List AG}{Q:AG->AJ->Prop}(ht:HG s.heap t vs.toArray)(hb:HG s.heap b ws.toArray)(hv:vs≠[])
  (h1:ws=[]->Q (.ref t) s) (h2:ws≠[]->Q (.ref s.heap.objs.size) {s with heap:=s.heap.push {cls:=.type "tuple",data:=.seq (vs++ws).toArray} })
  (hsz:vs.length+ws.length<=sizeLine):A0 (model prog w) A (binaryOp .Add (.ref t) (.ref b)) Q E s:=by
 let⟨⟨cls,dd,data,sl⟩,ho,hc,n,hd⟩:=id ht;let⟨⟨cls2,dd2,data2,sl2⟩,ho2,hc2,n2,hd2⟩:=id hb;simp only at hc hd hc2 hd2;subst hc hd hc2 hd2;have e:vs.toArray++ws.toArray=(vs++ws).toArray:=by simp
 by_cases hw:ws=[]
 .exact Fd ⟨_,ho,rfl⟩ ⟨_,ho2,rfl⟩ EZ FT DG DC (Ct _ _)
   (tuple_addW1 t b vs.toArray ws.toArray n n2 dd dd2 sl sl2 (by simpa using hv) (by simp[hw])) ⟨ho,ho2,h1 hw⟩
 .refine Fd ⟨_,ho,rfl⟩ ⟨_,ho2,rfl⟩ EZ FT DG DC (Ct _ _)
   (tuple_addW2 t b vs.toArray ws.toArray n n2 dd dd2 sl sl2 (by simpa using hv) (by simpa using hw) (by rw[AY,AY];exact hsz)) ⟨ho,ho2,?_⟩
  rw[e];exact h2 hw
def sIx(n d:Nat):Option Int->Nat
 |none=>d
 |some v=>if v<0 then(v+(n:Int)).toNat else min v.toNat n
theorem sIx_le(n d:Nat)(hd:d<=n)(o:Option Int):sIx n d o<=n:=by
 cases o with
 |none=>exact hd
 |some v=>
  show (if v<0 then(v+(n:Int)).toNat else min v.toNat n)<=n
  by_cases hv:v<0
  .rw[if_pos hv];lia
  .rw[if_neg hv];exact Nat.min_le_right _ _
def zix(v:Int)(n d:Nat):(if v<0 then max (v+(n:Int)) 0 else min v (n:Int))=((sIx n d (AA v):Nat):Int):=by
 show (if v<0 then max (v+(n:Int)) 0 else min v (n:Int))=(((if v<0 then(v+(n:Int)).toNat else min v.toNat n):Nat):Int)
 by_cases hv:v<0
 .simp only[if_pos hv];lia
 .simp only[if_neg hv];lia
def zgT(lo hi:Option Int)(n:Nat):Cp lo hi 1 (n:Int)=(((sIx n 0 lo:Nat):Int),((sIx n n hi:Nat):Int)):=by
 have h1:¬((1:Int)<0):=by lia
 unfold Cp;erw[h1,if_false];refine HI ?_ ?_
 .cases lo with
  |none=>rfl
  |some v=>exact zix v n 0
 .cases hi with
  |none=>rfl
  |some v=>exact zix v n n
def zha(i j:Nat):CQ (i:Int) (j:Int) 1=j-i:=by
 unfold CQ;have h1:(1:Int) > 0:=by lia
 erw[h1,if_true,Gr];split<;>lia
def zea{v:AG}{o:Option Int}{Q:Option Int->AJ->Prop}(p:Ed v o)(h:Q o s):A0 (model prog w) A (GV v) Q E s:=by
 cases p with
 |none=>exact slicePart_none h
 |int i t=>exact slicePart_int h
theorem sliceApplied_gen{sl:AI}{vl vu:AG}{lo hi:Option Int}{n:Nat}{Q:Int×Int×Nat->AJ->Prop}(hs:s.heap.IsSliceOf sl vl vu .none)(pl:Ed vl lo)(pu:Ed vu hi)
  (h:Q (((sIx n 0 lo:Nat):Int),1,sIx n n hi-sIx n 0 lo) s):A0 (model prog w) A (Dy (.ref sl) (pure (n:Int))) Q E s:=by
 let⟨os,hos,hcs,hds⟩:=id hs;unfold Dy Ge;refine AH (AH (BT hos hds (x:=vl) rfl (AH (BT hos hds (x:=vu) rfl (AH (BT hos hds (x:=.none) rfl (AU ?_)))))));refine AH (slicePart_none ?_);show A0 _ _ (if ((1:Int)==0)=AB then _ else _) _ _ s;rw[if_neg ⋯];refine AH (zea pl (AH (zea pu (AH (AU ?_)))));show A0 _ _ (match Cp lo hi 1 (n:Int)with|(lo,hi)=>pure (lo,(1:Int),CQ lo hi 1)) _ _ s;rw[zgT lo hi n];show A0 _ _ (pure (((sIx n 0 lo:Nat):Int),(1:Int),CQ ((sIx n 0 lo:Nat):Int) ((sIx n n hi:Nat):Int) 1)) _ _ s;rw[zha];exact AU h
def zkm(xs:Array AG)(i k:Nat):((C8 k).filterMap λ(m:Nat)=>xs[((i:Int)+(m:Int)*1).toNat]?).toArray=((xs.toList.drop i).take k).toArray:=by
 have e:(λ(m:Nat)=>xs[((i:Int)+(m:Int)*1).toNat]?)=λm=>xs[i+m]?:=by
  funext m
  have:((i:Int)+(m:Int)*1).toNat=i+m:=by lia
  rw[this]
 rw[e];have:=pick_run xs i k;rw[List.filterMap_map]at this;have e2:((λx=>xs[x]?) ∘ λx=>i+x)=λm=>xs[i+m]?:=rfl;rw[e2]at this;rw[this]
theorem getItem_tuple_cut{t sl:AI}{items:Array AG}{vl vu:AG}{lo hi:Option Int}{Q:AG->AJ->Prop}(ht:HG s.heap t items)(hs:s.heap.IsSliceOf sl vl vu .none)(pl:Ed vl lo)(pu:Ed vu hi)
  (hw:¬(sIx items.size 0 lo=0/\sIx items.size items.size hi=items.size))
  (h:Q (.ref s.heap.objs.size) {s with heap:=s.heap.push {cls:=.type "tuple",data:=.seq ((items.toList.drop (sIx items.size 0 lo)).take (sIx items.size items.size hi-sIx items.size 0 lo)).toArray} })
  (hsz:items.size<=sizeLine):A0 (model prog w) A (getItem (.ref t) (.ref sl)) Q E s:=by
 have htake:sizeOk (.seq ((items.toList.drop (sIx items.size 0 lo)).take (sIx items.size items.size hi-sIx items.size 0 lo)).toArray):=by
  show ((items.toList.drop (sIx items.size 0 lo)).take (sIx items.size items.size hi-sIx items.size 0 lo)).toArray.size<=sizeLine;rw[AY,EX,GE,CG];lia
 have hj:sIx items.size items.size hi<=items.size:=sIx_le _ _ (AT _) hi;let⟨os,hos,hcs,hds⟩:=id hs;have hTs:s.TypeIs (.ref sl) "slice":=⟨os,hos,hcs⟩;unfold getItem
 try with_reducible refine D3 ?_
 first|refine AH (AU ?_)|skip
 refine AH (Fe ht.typeIs ⋯ ?_);refine AH (Bf (name:=AE "__getitem__") ht.typeIs BG
  (C4 BG ht.typeIs FN ?_ (F3 _ _)))
 show A0 _ _ (Dz (.ref t) >>= _) _ _ s;refine AH (FJ ht ?_);refine AH (Ff hTs ?_);rw[if_pos ⋯];refine AH (sliceApplied_gen hs pl pu ?_);have hno:¬((((sIx items.size 0 lo:Nat):Int)==0&&(1:Int)==1&&(sIx items.size items.size hi-sIx items.size 0 lo)==items.size)=AB):=by
  intro q;rw[AK,AK]at q;have q1:((sIx items.size 0 lo:Nat):Int)=0:=eq_of_beq q.1.1;have q2:sIx items.size items.size hi-sIx items.size 0 lo=items.size:=eq_of_beq q.2;exact hw ⟨by lia,by lia⟩
 show A0 _ _ (if (((sIx items.size 0 lo:Nat):Int)==0&&(1:Int)==1&&(sIx items.size items.size hi-sIx items.size 0 lo)==items.size)=AB then _ else _) _ _ s;rw[if_neg hno,zkm]
 first
  |exact AH (m:=CY _) (Bl (AU ⟨_,rfl,AU h⟩) htake)
  |exact AH (m:=CY _) (Bl (AH (AU (AU ⟨_,rfl,AU h⟩))) htake)
  |exact AH (AH (m:=CY _) (Bl (AU (AU ⟨_,rfl,AU h⟩)) htake))
  |exact AH (AH (m:=CY _) (Bl (AU ⟨_,rfl,AU h⟩) htake))
end
end HT
namespace L2
open PySem PySem.Spec PyProof.Rows
abbrev TO:=St->Hp->(Option Int->Hp->Prop)->Prop
def PO(X:Cx)(e:Option AS)(t:TO):Prop:=
 ∀(π:List (AI×CF)) (s:AJ) (σ:St) (H:Hp) (Q:Option Int->Hp->Prop),Inv X π σ H s->t σ H Q ->
  A0 (model X.prog X.w) X.A (evalPart e X.env) (λu s'=>∃o H',Inv X π σ H' s'/\Ed u o/\Q o H') X.xe s
def ycG:TO:=λ_ H Q=>Q AD H
def zgU{ns:List Int}:∀{us:List AG},Vals (ns.map V.int) us->FK us ns:=by
 induction ns with
 |nil=>intro us r;rw[Ai]at r;cases r;exact .nil
 |cons n ns ih=>
  intro us r;rw[AL]at r
  cases r with
  |cons r1 r2=>
   let⟨t,e⟩:=r1;subst e;exact .cons n t (ih r2)
section
variable {X:Cx}{e:AS}{te:TE}{lo hi:Option AS}{tl th:TO}{pos p2:CT}
def zlM:PO X AD ycG:=by
 intro π s σ H Q I h;rw[evalPart_none];exact AU ⟨AD,H,I,.none,h⟩
def SlR(X:Cx)(r:V->Option Int->Option Int->Hp->VK->Prop):Prop:=
 ∀(π:List (AI×CF)) (s:AJ) (σ:St) (H:Hp) (x:V) (v vl vu:AG) (lo hi:Option Int) (sl:AI) (Q:VK),Inv X π σ H s->RelV x v->s.heap.IsSliceOf sl vl vu .none->Ed vl lo->Ed vu hi->r x lo hi H Q ->
  ∃T id,typeLookup (.type T) "__getitem__"=pure (AA (.builtin id))/\s.TypeIs v T/\A0 (model X.prog X.w) X.A (getItem v (.ref sl)) (EP X π σ Q) X.xe s
def tSl(r:V->Option Int->Option Int->Hp->VK->Prop)(te:TE)(tl th:TO):TE:=λσ H Q=>te σ H λx H1=>tl σ H1 λl H2=>th σ H2 λu H3=>r x l u H3 Q
def zkg{r:V->Option Int->Option Int->Hp->VK->Prop}(hr:SlR X r)(he:PE X e te)(hl:PO X lo tl)(hu:PO X hi th):PE X (.Subscript e (.Slice lo hi AD p2) pos) (tSl r te tl th):=by
 intro π s σ H Q I h;refine G8 (thn (he π s σ H _ I h) λv s1 kq=>?_);let⟨x,H1,I1,r1,q1⟩:=kq;refine wpAny_Slice (thn (hl π s1 σ H1 _ I1 q1) λvl s2 kq=>?_);let⟨l,H2,I2,pl,q2⟩:=kq;refine thn (hu π s2 σ H2 _ I2 q2) λvu s3 kq=>?_;let⟨u,H3,I3,pu,q3⟩:=kq;rw[evalPart_none];refine AU ?_;have I4:Inv X π σ H3 {s3 with heap:=s3.heap.push {cls:=.type "slice",data:=.fields #[vl,vu,.none]} }:=I3.kept (t':=s3.toks) λb ob q=>AO _ q;let⟨T,id,hT,ht,hg⟩:=hr π {s3 with heap:=s3.heap.push {cls:=.type "slice",data:=.fields #[vl,vu,.none]} } σ H3 x v vl vu l u s3.heap.objs.size Q I4 r1 (HL ..) pl pu q3;show A0 (model X.prog X.w) X.A (subscriptTail e (.Slice lo hi AD p2) v (.ref s3.heap.objs.size)) (EP X π σ Q) X.xe {s3 with heap:=s3.heap.push {cls:=.type "slice",data:=.fields #[vl,vu,.none]} };exact tail_any (ops:=[.ref s3.heap.objs.size,v]) ht hT hg (by ac_rfl)
def ycq(xs:List V)(lo hi:Option Int):List V:=(xs.drop (HT.sIx xs.length 0 lo)).take (HT.sIx xs.length xs.length hi-HT.sIx xs.length 0 lo)
def zdc(xs:List V)(lo hi:Option Int):(ycq xs lo hi).length<=xs.length:=by
 unfold ycq;rw[EX,GE];lia
def yfN(K:AF):V->Option Int->Option Int->Hp->VK->Prop:=λx lo hi H Q=>∃a xs,x=.ref a/\SqT K H a xs /\
 ¬(HT.sIx xs.length 0 lo=0/\HT.sIx xs.length xs.length hi=xs.length)/\∀p,H p=AD->Q (.ref p) (upd H p (.tup (ycq xs lo hi)))
def zns:SlR X (yfN X.K):=by
 intro π s σ H x v vl vu lo hi sl Q I rx hs pl pu h;let⟨a,xs,rfl,hx,hw,q⟩:=h
 cases rx
 let⟨its,r,ht,hz⟩:=I.tuple hx;have hlen:its.toArray.size=xs.length:=by rw[AY];exact r.length.symm
 refine⟨"tuple",_,BG.lookup,ht.typeIs,?_⟩;refine HT.getItem_tuple_cut ht hs pl pu (by rw[hlen];exact hw) ?_ (by rw[hlen];exact hz);rw[hlen];refine⟨.ref s.heap.objs.size,_,I.laid (t':=s.toks) (o:=.tup (ycq xs lo hi)) (λb ob q=>AO _ q) (AT _) ?_,rfl,q _ (I.hok.fresh (AT _))⟩;exact⟨BV (zdc xs lo hi) hz,_,(r.drop (HT.sIx xs.length 0 lo)).take (HT.sIx xs.length xs.length hi-HT.sIx xs.length 0 lo),Fx _ _⟩
def yeD(K:AF):R2:=λx y H Q=>∃a b xs ys,x=.ref a/\y=.ref b/\SqT K H a xs/\SqT K H b ys/\xs≠[]/\xs.length+ys.length<=sizeLine /\
 (ys=[]->Q (.ref a) H)/\(ys≠[]->∀p,H p=AD->Q (.ref p) (upd H p (.tup (xs++ys))))
theorem Vals.nil_iff{xs:List V}{us:List AG}(r:Vals xs us):us=[] ↔ xs=[]:=by
 cases r with
 |nil=>simp
 |cons _ _=>simp
def zmh:OpR X (binaryOp .Add) (yeD X.K):=by
 intro π s σ H x y v u Q I rx ry h;let⟨a,b,xs,ys,rfl,rfl,ha,hb,hx,hz,q1,q2⟩:=h
 cases rx
 cases ry
 let⟨its,r1,p1,_⟩:=I.tuple ha;let⟨its2,r2,p2,_⟩:=I.tuple hb;refine HT.cat_tup p1 p2 (λz=>hx (r1.nil_iff.mp z)) (λz=>⟨.ref a,H,I,rfl,q1 (r2.nil_iff.mp z)⟩) (λz=>?_) (by rw[<-r1.length,<-r2.length];exact hz);refine⟨.ref s.heap.objs.size,_,I.laid (t':=s.toks) (o:=.tup (xs++ys)) (λb ob q=>AO _ q) (AT _) ?_,rfl,q2 (λw=>z (r2.nil_iff.mpr w)) _ (I.hok.fresh (AT _))⟩;exact⟨by rw[A8];exact hz,_,r1.append r2,Fx _ _⟩
end
def ixN(n:Nat)(i:Int):Option Nat:=if 0<=i then(if i<n then AA i.toNat else AD)else if -(n:Int)<=i then AA (i+n).toNat else AD
def atI{α:Type}(xs:List α)(i:Int):Option α:=(ixN xs.length i).bind λj=>xs[j]?
def zit{n:Nat}{i:Int}{j:Nat}(h:ixN n i=AA j):seqIndex? i n=AA j/\j<n/\-(n:Int)<=i/\i<n:=by
 unfold ixN at h
 by_cases h0:0<=i
 .rw[if_pos h0]at h
  by_cases h1:i<n
  .rw[if_pos h1]at h;have e:i.toNat=j:=AW h;exact⟨by rw[GQ h0 h1,e],by lia,by lia,h1⟩
  .rw[if_neg h1]at h;cases h
 .rw[if_neg h0]at h
  by_cases h1:-(n:Int)<=i
  .rw[if_pos h1]at h;have e:(i+n).toNat=j:=AW h;exact⟨by rw[seqIndex_neg ∅ h1,e],by lia,h1,by lia⟩
  .rw[if_neg h1]at h;cases h
def zfy{α:Type}{xs:List α}{i:Int}{v:α}(h:atI xs i=AA v):∃j,seqIndex? i xs.length=AA j/\xs[j]?=AA v/\j<xs.length/\-(xs.length:Int)<=i/\i<xs.length:=by
 unfold atI at h
 cases e:ixN xs.length i with
 |none=>rw[e]at h;cases h
 |some j=>
  rw[e]at h;let⟨h1,h2,h3,h4⟩:=zit e;exact⟨j,h1,h,h2,h3,h4⟩
def yby(b:AS):Prop:=∀o i,subscripted b AC o i=operate [o,i] (getItem o i)
def IxR(X:Cx)(r:R2):Prop:=
 ∀(value slice:AS) (π:List (AI×CF)) (s:AJ) (σ:St) (H:Hp) (x y:V) (v u:AG) (Q:VK),Inv X π σ H s->RelV x v->RelV y u->r x y H Q ->
  subscripted slice AC v u=operate [v,u] (getItem v u)->A0 (model X.prog X.w) X.A (subscriptTail value slice v u) (EP X π σ Q) X.xe s
def MtR(X:Cx)(id:String)(r:V->List V->Hp->VK->Prop):Prop:=
 ∀(π:List (AI×CF)) (s:AJ) (σ:St) (H:Hp) (x:V) (xs:List V) (v:AG) (us:List AG) (Q:VK),Inv X π σ H s->RelV x v->Vals xs us->r x xs H Q ->
  A0 (model X.prog X.w) X.A (call (.builtin id) (v::us)) (EP X π σ Q) X.xe s
section
variable {X:Cx}{a b:AS}{ta tb:TE}{pos:CT}
theorem IxR.or{r r':R2}(h:IxR X r)(h':IxR X r'):IxR X (λx y H Q=>r x y H Q \/ r' x y H Q):=by
 intro value slice π s σ H x y v u Q I rx ry q hs;rcases q with q|q
 .exact h value slice π s σ H x y v u Q I rx ry q hs
 .exact h' value slice π s σ H x y v u Q I rx ry q hs
def zo9{r:R2}(hr:IxR X r)(ha:PE X a ta)(hb:PE X b tb)(hs:yby b):PE X (.Subscript a b pos) (tOp r ta tb):=by
 intro π s σ H Q I h;exact G8 (znw ha hb I h λv u s2 x y H2 I2 rx ry q=>hr a b π s2 σ H2 x y v u Q I2 rx ry q (hs _ _))
def yeP(K:AF):R2:=λx y H Q=>∃p xs i v,x=.ref p/\y=.int i/\SqL K H p xs/\atI xs i=AA v/\Q v H
def ye3(K:AF):R2:=λx y H Q=>∃p xs i v,x=.ref p/\y=.int i/\SqT K H p xs/\atI xs i=AA v/\Q v H
def yfc:R2:=λx y H Q=>∃z i c,x=.str z/\y=.int i/\z.length<=sizeLine/\atI z.cps.toList i=AA c/\Q (.str ⟨#[c]⟩) H
def zp1:IxR X (yeP X.K):=by
 intro value slice π s σ H x y v u Q I rx ry h hs;let⟨p,xs,i,z,rfl,rfl,hq,he,q⟩:=h
 cases rx
 let⟨t,rfl⟩:=ry;let⟨its,r,pl,hz⟩:=I.list hq;let⟨j,h1,h2,h3,h4,h5⟩:=zfy he;let⟨w,ew,rw'⟩:=r.get h2;have hl:=r.length;have hn:=zgd;have fin:EP X π σ Q w s:=⟨z,H,I,rw',q⟩
 by_cases h0:0<=i
 .have hj:i.toNat=j:=by
   rw[GQ h0 h5]at h1;exact AW h1
  exact item_listR pl.isList h0 ∅ (by rw[hj];simpa using ew) fin hs
 .have hj:(i+(its.toArray.size:Int)).toNat=j:=by
   rw[seqIndex_neg ∅ h4]at h1;rw[AY,<-hl];exact AW h1
  exact Ee (x:=w) pl.isList.typeIs Fg.lookup
   (wpAny_getItem_list_neg (Q:=λr s'=>r=w/\EP X π σ Q r s') pl.isList ∅ (by rw[AY]<;>lia) ∅ (by rw[hj];simpa using ew) ⟨rfl,fin⟩) hs
def zp2:IxR X (ye3 X.K):=by
 intro value slice π s σ H x y v u Q I rx ry h hs;let⟨p,xs,i,z,rfl,rfl,hq,he,q⟩:=h
 cases rx
 let⟨t,rfl⟩:=ry;let⟨its,r,pl,hz⟩:=I.tuple hq;let⟨j,h1,h2,h3,h4,h5⟩:=zfy he;let⟨w,ew,rw'⟩:=r.get h2;have hl:=r.length;have hn:=zgd;have fin:EP X π σ Q w s:=⟨z,H,I,rw',q⟩;exact Ee (x:=w) pl.typeIs BG.lookup
  (getItem_tuple (j:=j) (Q:=λr s'=>r=w/\EP X π σ Q r s') pl ∅ ∅ (by rw[AY,<-hl];exact h1) (by simpa using ew) ⟨rfl,fin⟩) hs
def zmE:IxR X yfc:=by
 intro value slice π s σ H x y v u Q I rx ry h hs;let⟨z,i,c,rfl,rfl,hz,he,q⟩:=h;let⟨t,rfl⟩:=rx;let⟨t',rfl⟩:=ry;let⟨j,h1,h2,h3,h4,h5⟩:=zfy he;have hl:z.cps.toList.length=z.length:=by simp[Str.length]
 rw[hl]at h1 h4 h5;have hn:=zgd;exact tail_any (G9 s z t) slot_str_getitem.lookup (getItem_str (c:=c) (by
  have e1:decide (i < -(2^63:Int))=false:=decide_eq_false ∅;have e2:decide (i ≥ 2^63)=false:=decide_eq_false ∅;rw[e1,e2,Gi]) (by rw[h1];simpa using h2) ⟨.str ⟨#[c]⟩,H,I.tok _,⟨_,rfl⟩,q⟩) hs
def rIx(K:AF):R2:=λx y H Q=>yeP K x y H Q \/ ye3 K x y H Q \/ yfc x y H Q
def zgb:IxR X (rIx X.K):=zp1.or (zp2.or zmE)
def zgL(its:List AG)(n j:Nat)(u:AG):Ef (·.setIfInBounds j u) {cls:=.type "list",data:=.seq its.toArray n}={cls:=.type "list",data:=.seq (its.set j u).toArray n}:=by
 simp[Ef]
theorem Inv.lst{π:List (AI×CF)}{σ:St}{H:Hp}{s:AJ}{p:AI}{xs:List V}(I:Inv X π σ H s)(h:H p=AA (.lst xs)):
  ∃(its:List AG) (n:Nat),Vals xs its/\s.heap.get? p=AA {cls:=.type "list",data:=.seq its.toArray n}/\xs.length<=sizeLine:=by
 let⟨z,its,n,r,e⟩:=I.hok p _ h;exact⟨its,n,r,e,z⟩
theorem Inv.lstUpd{π:List (AI×CF)}{σ:St}{H:Hp}{s:AJ}{p:AI}{xs ys:List V}{its its':List AG}{n n':Nat}{f:CF->CF}(I:Inv X π σ H s)(h:H p=AA (.lst xs))
  (ho:s.heap.get? p=AA {cls:=.type "list",data:=.seq its.toArray n}) (hf:f {cls:=.type "list",data:=.seq its.toArray n}={cls:=.type "list",data:=.seq its'.toArray n'}) (r:Vals ys its') (hz:ys.length<=sizeLine) (t:Nat):
  Inv X π σ (upd H p (.lst ys)) {s with heap:=s.heap.update p f,toks:=t}:=by
 have e:(s.heap.update p f).get? p=AA {cls:=.type "list",data:=.seq its'.toArray n'}:=by
  rw[Eu f ho (by rw[hf]<;>rfl),hf]
 refine I.write (x:=p) (e:=p) (by rw[h];trivial) (.inl rfl) (λb u hb q=>(DH _ _ (BE hb)).trans q) ⟨_,e⟩ ?_;exact⟨hz,its',n',r,e⟩
def ydc:V->V->V->Hp->(Hp->Prop)->Prop:=λo i v H Q=>∃p xs k j,o=.ref p/\i=.int k/\H p=AA (.lst xs)/\ixN xs.length k=AA j/\Q (upd H p (.lst (xs.set j v)))
def zgD:yfa X ydc:=by
 intro π s σ H o i v ov iv u Q I ro ri rv h;let⟨p,xs,k,j,rfl,rfl,hp,hj,q⟩:=h
 cases ro
 let⟨t,rfl⟩:=ri;let⟨its,n,r,ho,hz⟩:=I.lst hp;let⟨h1,h2,h3,h4⟩:=zit hj;have hl:=r.length;have hn:=zgd;have I':Inv X π σ (upd H p (.lst (xs.set j v))) {s with heap:=s.heap.update p (Ef (·.setIfInBounds j u))}:=
  I.lstUpd hp ho (zgL its n j u) (r.set rv j) (by rw[B3];exact hz) s.toks
 by_cases h0:0<=k
 .have hk:k.toNat=j:=by
   rw[GQ h0 h4]at h1;exact AW h1
  exact PySem.W.ki_setAt ho h0 ∅ (by rw[AY,<-hl];exact h4) (by rw[hk];exact⟨_,I',q⟩)
 .have hk:(k+(its.toArray.size:Int)).toNat=j:=by
   rw[seqIndex_neg ∅ h3]at h1;rw[AY,<-hl];exact AW h1
  exact PySem.W.ki_setBack ho ∅ (by rw[AY,<-hl];exact h3) ∅ (by rw[hk];exact⟨_,I',q⟩)
def zfa(lo hi:Option Int)(n:Nat):(sliceBounds lo hi AD n).1=((HT.sIx n 0 lo:Nat):Int)/\(sliceBounds lo hi AD n).2.1=((HT.sIx n n hi:Nat):Int)/\(sliceBounds lo hi AD n).2.2=1:=by
 refine⟨?_,?_,rfl⟩
 .cases lo with
  |none=>simp[sliceBounds,HT.sIx]
  |some i=>
   erw[sliceBounds,HT.sIx,GF,show (1:Int) > 0 by decide,if_true]
   by_cases h:i<0
   .simp only[h,if_true]<;>lia
   .simp only[h,if_false]<;>lia
 .cases hi with
  |none=>simp[sliceBounds,HT.sIx]
  |some i=>
   erw[sliceBounds,HT.sIx,GF,show (1:Int) > 0 by decide,if_true]
   by_cases h:i<0
   .simp only[h,if_true]<;>lia
   .simp only[h,if_false]<;>lia
def zel(its:List AG)(lo hi:Option Int):slicePick its.toArray lo hi AD=((its.drop (HT.sIx its.length 0 lo)).take (HT.sIx its.length its.length hi-HT.sIx its.length 0 lo)).toArray:=by
 let⟨h1,h2,h3⟩:=zfa lo hi its.toArray.size;unfold slicePick;rw[h1,h2,h3];erw[sliceRange_one,pick_run,AY]<;>rfl
def ygJ(K:AF):V->Option Int->Option Int->Hp->VK->Prop:=λx lo hi H Q=>∃a xs,x=.ref a/\SqL K H a xs/\∀p,H p=AD->Q (.ref p) (upd H p (.lst (ycq xs lo hi)))
def zhK:SlR X (ygJ X.K):=by
 intro π s σ H x v vl vu lo hi sl Q I rx hs pl pu h;let⟨a,xs,rfl,hx,q⟩:=h
 cases rx
 let⟨its,r,ht,hz⟩:=I.list hx;have hlen:=r.length;refine⟨"list",_,Fg.lookup,ht.isList.typeIs,?_⟩;refine wpAny_getItem_list_slice ht.isList hs pl pu .none (by simp) ?_ (by rw[AY]<;>lia);rw[zel,<-hlen];refine⟨.ref s.heap.objs.size,_,I.laid (t':=s.toks) (o:=.lst (ycq xs lo hi)) (λb ob q=>AO _ q) (AT _) ?_,rfl,q _ (I.hok.fresh (AT _))⟩;exact⟨BV (zdc xs lo hi) hz,_,0,(r.drop (HT.sIx xs.length 0 lo)).take (HT.sIx xs.length xs.length hi-HT.sIx xs.length 0 lo),AZ _ rfl⟩
def ya1:V->Bool
 |.non=>AB
 |.bl _=>AB
 |.int _=>AB
 |.str _=>AB
 |_=>AC
def eqV:V->V->Bool
 |.non,.non=>AB
 |.bl a,.bl b=>a==b
 |.bl a,.int b=>(if a then 1 else 0)==b
 |.int a,.bl b=>a==(if b then 1 else 0)
 |.int a,.int b=>a==b
 |.str a,.str b=>a==b
 |_,_=>AC
def zoO{A:Ar}{s:AJ}{y x:V}{u v:AG}(ry:RelV y u)(rx:RelV x v)(fy:ya1 y=AB)(fx:ya1 x=AB):HM A s u v (eqV y x):=by
 cases y with
 |non=>
  cases ry
  cases x with
  |non=>cases rx;exact SeqAt.EqAt.same _
  |bl b=>cases rx;exact SeqAt.EqAt.none_bool b
  |int b=>let⟨t,rfl⟩:=rx;exact SeqAt.EqAt.none_int b t
  |str b=>let⟨t,rfl⟩:=rx;exact SeqAt.EqAt.none_str b t
  |_=>exact absurd (show AC=AB from fx) BA
 |bl a=>
  cases ry
  cases x with
  |non=>cases rx;exact SeqAt.EqAt.bool_none a
  |bl b=>cases rx;exact SeqAt.EqAt.bool_bool a b
  |int b=>let⟨t,rfl⟩:=rx;exact SeqAt.EqAt.bool_int a b t
  |str b=>let⟨t,rfl⟩:=rx;exact SeqAt.EqAt.bool_str a b t
  |_=>exact absurd (show AC=AB from fx) BA
 |int a=>
  let⟨t',rfl⟩:=ry
  cases x with
  |non=>cases rx;exact SeqAt.EqAt.int_none a t'
  |bl b=>cases rx;exact SeqAt.EqAt.int_bool a t' b
  |int b=>let⟨t,rfl⟩:=rx;exact SeqAt.EqAt.int_int a t' b t
  |str b=>let⟨t,rfl⟩:=rx;exact FZ a t' b t
  |_=>exact absurd (show AC=AB from fx) BA
 |str a=>
  let⟨t',rfl⟩:=ry
  cases x with
  |non=>cases rx;exact SeqAt.EqAt.str_none a t'
  |bl b=>cases rx;exact SeqAt.EqAt.str_bool a t' b
  |int b=>let⟨t,rfl⟩:=rx;exact F0 a t' b t
  |str b=>let⟨t,rfl⟩:=rx;exact SeqAt.EqAt.str_str a t' b t
  |_=>exact absurd (show AC=AB from fx) BA
 |_=>exact absurd (show AC=AB from fy) BA
def eqU(x:V)(u:AG):Bool:=match u with
 |.none=>eqV .non x
 |.bool b=>eqV (.bl b) x
 |.int i _=>eqV (.int i) x
 |.str z _=>eqV (.str z) x
 |_=>AC
def zkV{x y:V}{u:AG}(r:RelV y u)(f:ya1 y=AB):eqU x u=eqV y x:=by
 cases y with
 |non=>cases r;rfl
 |bl b=>cases r;rfl
 |int i=>let⟨t,rfl⟩:=r;rfl
 |str z=>let⟨t,rfl⟩:=r;rfl
 |_=>exact absurd (show AC=AB from f) BA
def zfE{x:V}:∀{xs:List V} {us:List AG},Vals xs us->xs.all ya1=AB->us.any (eqU x)=xs.any λy=>eqV y x
 |_,_,.nil,_=>rfl
 |y::xs,u::us,.cons r t,f=>by
  rw[Bb,AK]at f;rw[BL,BL,zkV r f.1,zfE t f.2]
def zeC{A:Ar}{s:AJ}{x:V}{v:AG}(rx:RelV x v)(fx:ya1 x=AB):∀{xs:List V} {us:List AG},Vals xs us->xs.all ya1=AB->∀u∈us,HM A s u v (eqU x u)
 |_,_,.nil,_=>λu hu=>by cases hu
 |y::xs,u::us,.cons r t,f=>λu' hu=>by
  rw[Bb,AK]at f;rcases AR.mp hu with rfl|hu
  .rw[zkV r f.1];exact zoO r rx f.1 fx
  .exact zeC rx fx t f.2 u' hu
def inV(x:V)(xs:List V):Bool:=xs.any λy=>eqV y x
def rIn(K:AF)(neg:Bool):R2:=λx y H Q=>∃p xs,y=.ref p/\(SqL K H p xs \/ SqT K H p xs)/\ya1 x=AB/\xs.all ya1=AB/\Q (.bl (if neg then !inV x xs else inV x xs)) H
def zeS:OpR X (compareOp .In) (rIn X.K AC):=by
 intro π s σ H x y v u Q I rx ry h;let⟨p,xs,rfl,hq,fx,fs,q⟩:=h
 cases ry
 rcases hq with hq|hq
 .let⟨its,r,pl,hz⟩:=I.list hq;refine SeqAt.in_listAt (eqU x) pl.isList (λw hw=>zeC rx fx r fs w (by simpa using hw)) ⟨.bl _,H,I,rfl,?_⟩;rw[show its.toArray.any (eqU x)=its.any (eqU x)by simp,zfE r fs];exact q
 .let⟨its,r,pl,hz⟩:=I.tuple hq;refine SeqAt.in_tupleAt (eqU x) pl (λw hw=>zeC rx fx r fs w (by simpa using hw)) ⟨.bl _,H,I,rfl,?_⟩;rw[show its.toArray.any (eqU x)=its.any (eqU x)by simp,zfE r fs];exact q
def zeJ:yae X (.builtin "len") (λxs H Q=>∃p ys,xs=[.ref p]/\(SqL X.K H p ys \/ SqT X.K H p ys)/\Q (.int ys.length) H):=by
 intro π s σ H xs us Q I r h;let⟨p,ys,rfl,hq,q⟩:=h;let⟨u,rfl,rx⟩:=vals1 r
 cases rx
 have hn:=zgd;rcases hq with hq|hq
 .let⟨its,r',pl,hz⟩:=I.list hq;have hlen:=r'.length;exact Calls.call_len_list pl.isList (by erw[AY]<;>lia) ⟨.int ys.length,H,I.tok _,⟨s.toks+1,by rw[AY,hlen]⟩,q⟩
 .let⟨its,r',pl,hz⟩:=I.tuple hq;have hlen:=r'.length;exact len_tuple pl (by erw[AY]<;>lia) ⟨.int ys.length,H,I.tok _,⟨s.toks+1,by rw[AY,hlen]⟩,q⟩
def zfc:yae X (.builtin "len") (λxs H Q=>∃z,xs=[.str z]/\z.length<=sizeLine/\Q (.int z.length) H):=by
 intro π s σ H xs us Q I r h;let⟨z,rfl,hz,q⟩:=h;let⟨u,rfl,t,rfl⟩:=vals1 r;have hn:=zgd;exact len_str ∅ ⟨.int z.length,H,I.tok _,⟨_,rfl⟩,q⟩
def zbM:yae X (.type "tuple") (λxs H Q=>∃p ys,xs=[.ref p]/\((SqL X.K H p ys/\∀l,H l=AD->Q (.ref l) (upd H l (.tup ys))) \/ (SqT X.K H p ys/\Q (.ref p) H))):=by
 intro π s σ H xs us Q I r h;let⟨p,ys,rfl,h⟩:=h;let⟨u,rfl,rx⟩:=vals1 r
 cases rx
 rcases h with⟨hq,q⟩|⟨hq,q⟩
 .let⟨its,r',pl,hz⟩:=I.list hq;have hlen:=r'.length;refine call_tuple_list pl.isList (λh' kp=>?_) (by erw[AY]<;>lia);have I1:Inv X π σ H {s with heap:=h'}:=I.kept (t':=s.toks) kp;have I2:Inv X π σ (upd H h'.objs.size (.tup ys)) {s with heap:=h'.push {cls:=.type "tuple",data:=.seq its.toArray} }:=
   I1.laid (t':=s.toks) (λb o e=>AO _ e) (AT _) (show yR X.prog X.w _ _ _ (.tup ys)from ⟨hz,its,r',Fx _ _⟩)
  exact⟨.ref h'.objs.size,_,I2,rfl,q _ (I1.hok.fresh (AT _))⟩
 .let⟨its,r',pl,hz⟩:=I.tuple hq;exact call_tuple_same pl ⟨.ref p,H,I,rfl,q⟩
def tyV(K:AF)(T:String)(x:V)(H:Hp):Prop:=match x with
 |.str _=>T="str"
 |.int _=>T="int"
 |.ref p=>(T="list"/\∃xs,SqL K H p xs) \/ (T="tuple"/\∃o,K.lookup p=AA o/\o.cls=.type "tuple"/\o.dict=AD) \/
   (T="dict"/\((∃kvs,H p=AA (.dK kvs)) \/ ∃kvs,H p=AA (.dT kvs))) \/ (T="set"/\∃S n,H p=AA (.set S n))
 |_=>False
def znG{π:List (AI×CF)}{σ:St}{H:Hp}{s:AJ}{T:String}{x:V}{v:AG}(I:Inv X π σ H s)(r:RelV x v)(ty:tyV X.K T x H):
  s.TypeIs v T/\∀a,v=.ref a->∃ob,s.heap.get? a=AA ob/\ob.dict=none:=by
 cases x with
 |str z=>
  let⟨t,rfl⟩:=r
  cases (show T="str" from ty)
  exact⟨G9 s z t,λ_ e=>nomatch e⟩
 |int i=>
  let⟨t,rfl⟩:=r
  cases (show T="int" from ty)
  exact⟨typeIs_int s i t,λ_ e=>nomatch e⟩
 |ref p=>
  cases r
  rcases ty with⟨rfl,xs,hq⟩|⟨rfl,o,hk,hc,hd⟩|⟨rfl,hk⟩|⟨rfl,S,n,hk⟩
  .let⟨its,_,pl,_⟩:=I.list hq;refine⟨pl.isList.typeIs,λa e=>?_⟩
   cases e
   let⟨o,n,e,c,hd,_⟩:=pl;exact⟨o,e,hd⟩
  .refine⟨⟨o,I.kIn p o hk,hc⟩,λa e=>?_⟩
   cases e
   exact⟨o,I.kIn _ o hk,hd⟩
  .have z:∃o,s.heap.get? p=AA o/\o.ExactDict:=by
    rcases hk with⟨kvs,hk⟩|⟨kvs,hk⟩
    .let⟨_,_,_,_,o,_,_,e,ex,_⟩:=I.hok p _ hk;exact⟨o,e,ex⟩
    .let⟨_,_,_,_,o,_,_,e,ex,_⟩:=I.hok p _ hk;exact⟨o,e,ex⟩
   let⟨o,e,ex⟩:=z;refine⟨⟨o,e,ex.1⟩,λa e2=>?_⟩
   cases e2
   exact⟨o,e,ex.2.1⟩
  .let⟨o,_,_,_,e,ex,_⟩:=I.hok p _ hk;refine⟨⟨o,e,ex.1⟩,λa e2=>?_⟩
   cases e2
   exact⟨o,e,ex.2.1⟩
 |_=>exact Bm ty
def tBM(K:AF)(T:String)(r:V->List V->Hp->VK->Prop)(to:TE)(t:TA):TE:=λσ H Q=>to σ H λx H1=>tyV K T x H1/\t σ H1 λxs H2=>r x xs H2 Q
variable {o e:AS}{es:List AS}{to:TE}{t:TA}{name:AN}{apos cpos:CT}{T id:String}{r:V->List V->Hp->VK->Prop}
def zps(pa:PlainAttrs T)(slot:Slot T name id)(hty:typeOf (.builtin id)=pure (.type "method_descriptor"))(hm:MtR X id r)(ho:PE X o to)(ha:PA X (e::es) t)
  (hbase:attributeBase o name X.env (eval o X.env)=eval o X.env:=by rfl)
  (hfew:((backTo cpos (starEach (e::es) X.env)).all (λx=>!x.1)&&(backToKw cpos (keywordEach [] X.env)).all (λx=>x.1.isSome)
   && decide ((e::es).length+([]:List C2).length+(if ([]:List C2).isEmpty then 0 else 1)<30))=true:=by rfl)
  (hline:(apos.endLine==cpos.line)=true:=by rfl) (hs:starEach (e::es) X.env=(AC,eval e X.env)::starEach es X.env:=by rfl) (hplain:(backTo cpos (starEach es X.env)).any (·.1)=false:=by rfl):
  PE X (.Call (.Attribute o name apos) (e::es) [] cpos) (tBM X.K T r to t):=by
 intro π s σ H Q I h;refine wpAny_Call_method_late hbase hfew hline rfl (thn (ho π s σ H _ I h) λv s1 kq=>?_);let⟨x,H1,I1,r1,ty,q1⟩:=kq;let⟨h1,h2⟩:=znG I1 r1 ty;refine⟨T,id,pa,slot,hty,h1,h2,?_⟩;have hA:=ha cpos π s1 σ H1 _ I1 q1;rw[hs]at hA ⊢;refine Eg (by show (AC || (backTo cpos (starEach es X.env)).any (·.1))=AC;rw[hplain]<;>rfl) (FA ?_);exact thn hA λus s2 ⟨vs,H2,I2,r2,q2⟩=>hm π s2 σ H2 x vs v us Q I2 r1 r2 q2
/- xs.append(e),list.index on a module's tuple .. are MtR facts of 06m -/
end
def MtM(X:Cx)(id:String)(r:V->List V->Hp->VK->Prop):Prop:=
 ∀(π:List (AI×CF)) (s:AJ) (σ:St) (H:Hp) (x:V) (xs:List V) (v:AG) (us:List AG) (Q:VK),Inv X π σ H s->RelV x v->Vals xs us->r x xs H Q ->
  A0 (model X.prog X.w) X.A (call (.builtin id) (v::us)) (EP X π σ Q) X.xe s
theorem Vals.one:∀{x:V} {us:List AG},Vals [x] us->∃u,us=[u]/\RelV x u
 |_,_,.cons r .nil=>⟨_,rfl,r⟩
theorem Vals.reverse{xs:List V}{us:List AG}(h:Vals xs us):Vals xs.reverse us.reverse:=by
 induction h with
 |nil=>exact .nil
 |cons r t ih=>rw[DI,DI];exact Vals.append ih (.cons r .nil)
section
variable {X:Cx}{π:List (AI×CF)}{σ:St}{H:Hp}{s:AJ}{l b:AI}{xs ys zs:List V}
theorem Inv.lset{its its':List AG}{n:Nat}{f:Array AG->Array AG}{t':Nat}(I:Inv X π σ H s)(hH:H l=AA (.lst xs))
  (e:s.heap.get? l=AA {cls:=.type "list",data:=.seq its.toArray n}) (hf:f its.toArray=its'.toArray) (hv:Vals ys its') (hz:ys.length<=sizeLine):
  Inv X π σ (upd H l (.lst ys)) {s with heap:=s.heap.update l (Ef f),toks:=t'}:=by
 have q:=PySem.IsL.update e f;rw[hf]at q;refine I.write (x:=l) (e:=l) (by rw[hH];exact trivial) (.inl rfl) (λb' u hb hu=>(DH s.heap (Ef f) (BE hb)).trans hu) ⟨_,q⟩ ?_;exact⟨hz,its',_,hv,q⟩
theorem Inv.lnew{its:List AG}{t':Nat}(I:Inv X π σ H s)(hv:Vals ys its)(hz:ys.length<=sizeLine):
  Inv X π σ (upd H s.heap.objs.size (.lst ys)) {s with heap:=s.heap.push {cls:=.type "list",data:=.seq its.toArray},toks:=t'}:=
 I.laid (λ_ _ q=>AO _ q) (AT _) ⟨hz,its,0,hv,AZ _ rfl⟩
theorem Inv.fresh(I:Inv X π σ H s):H s.heap.objs.size=none:=I.hok.fresh (AT _)
theorem Inv.lstM(I:Inv X π σ H s)(hH:H l=AA (.lst xs)):xs.length<=sizeLine/\∃(its:List AG) (n:Nat),Vals xs its/\xs.length=its.length/\s.heap.get? l=AA {cls:=.type "list",data:=.seq its.toArray n}:=by
 let⟨z,its,n,r,e⟩:=I.hok l _ hH;exact⟨z,its,n,r,r.length,e⟩
end
section
variable {X:Cx}
def yct:V->List V->Hp->VK->Prop:=λx vs H Q=>∃l xs y,x=.ref l/\vs=[y]/\H l=AA (.lst xs)/\xs.length<sizeLine/\Q .non (upd H l (.lst (xs++[y])))
def zeY:MtM X "list.append" yct:=by
 intro π s σ H x vs v us Q I rx rv h;let⟨l,xs,y,rfl,rfl,hH,hz,q⟩:=h
 cases rx
 let⟨u,rfl,ru⟩:=rv.one;let⟨z,its,n,r,hl,e⟩:=I.lstM hH;refine call_meets Ew ⟨_,e,rfl⟩ F.entry_list_append (F.args_list_append_2 _ _) (PySem.list_append l its.toArray n u (by rw[AY];lia)) ⟨e,?_⟩;refine⟨.non,_,I.lset (its':=its++[u]) hH e (by simp) (r.append (.cons ru .nil)) ?_,rfl,q⟩;rw[A8,DQ];lia
def ygj:R2:=λx y H Q=>∃l b xs zs,x=.ref l/\y=.ref b/\H l=AA (.lst xs)/\H b=AA (.lst zs)/\xs.length+zs.length<=sizeLine/\∀p,H p=AD->Q (.ref p) (upd H p (.lst (xs++zs)))
def zm8:OpR X (binaryOp .Add) ygj:=by
 intro π s σ H x y v u Q I rx ry h;let⟨l,b,xs,zs,rfl,rfl,hH,hB,hz,q⟩:=h
 cases rx
 cases ry
 let⟨z,its,n,r,hl,e⟩:=I.lstM hH;let⟨z2,its2,n2,r2,hl2,e2⟩:=I.lstM hB;refine PySem.P.add_list e e2 ?_ (by rw[AY,AY];lia);have ea:its.toArray++its2.toArray=(its++its2).toArray:=by simp
 rw[ea];exact⟨.ref _,_,I.lnew (t':=s.toks) (r.append r2) (by rw[A8];lia),rfl,q _ I.fresh⟩
end
section
variable {prog:A3}{w:Ag}{A:Ar}{E:AG->AJ->Prop}{s:AJ}
end
section
variable {X:Cx}
end
end L2
namespace Att
open PySem PySem.W PySem.Calls PyProof.Rows
def zdJ{P:Params}{h:BB}:∀(ns:List Int) (vs:List AG),WellAll P h vs (ns.map HU)->FK vs ns:=by
 intro ns
 induction ns with
 |nil=>
  intro vs w;rw[Ai]at w
  cases w
  exact .nil
 |cons n ns ih=>
  intro vs w;rw[AL]at w
  cases w with
  |cons a b=>
   cases a
   exact .cons _ _ (ih _ b)
def zhM{l:E9}{n:Nat}(hn:l.most=AA n){P:Params}{h:BB}{args:List WData}{vals:List AG}
  (hpre:l.row.toRowW.claim.pre args=AB) (hwl:WellAll P h vals args):
  ∃a vs ns,vals=[Ad a]/\args=[WData.list (ns.map HU)]/\h.get? a=AA {cls:=.type "list",data:=.seq vs.toArray}/\FK vs ns/\ns.length<=n:=by
 have hsh:WShape.hasAll [] args [.list .int]=true:=(pre_splitW hpre).1;have hc:l.pre.holds [] {args:=args}=true:=(pre_splitW hpre).2;let⟨d,r,rfl,h1,h2⟩:=hasAllW_cons hsh;obtain rfl:=hasAllW_nil h2;let⟨xs,rfl,h3⟩:=hasW_list h1;let⟨ns,rfl⟩:=items_int h3;have hlen:ns.length<=n:=by
  unfold OpenLaw.pre at hc;have h4:(WTm.not (.lt (.lit (.int (n:Int))) (.len (.arg 0)))).holds [] {args:=[.list (ns.map .int)]}=true:=by
   have h4:=(holds_andW hc).1;rw[hn]at h4;exact h4
  have h5:=condW_of h4 (w_not (w_lt w_lit (w_len_list (w_arg rfl))));rw[BD]at h5;refine Nat.le_of_not_lt λq=>?_;have q':(n:Int)<((ns.length:Nat):Int):=by lia
  first
   |(rw[decide_eq_true q']at h5;exact absurd h5 ⋯)
   |(simp at h5;lia)
 cases hwl with
 |cons w1 w2=>
  cases w2
  cases w1 with
  |list ho hall=>exact⟨_,_,ns,rfl,rfl,ho,zdJ ns _ hall,hlen⟩
def ziY(l:E9)(args:List WData):l.row.toRowW.claim.post args (.bool AB) args=true:=
 postW_of (r:=l.row.toRowW) (X:=(AB==AB))
  (show HN [] (.bool AB) .bool=AB by first|rfl|decide|simp[HN,WShape.arms,WShape.armsAll])
  (show (WTm.eq .res (.lit (.bool AB))).value [] {args:=args,res:=AA (.bool AB),after:=args}=AA (.bool (AB==AB))from w_eq_bool (w_res rfl) w_lit) rfl
theorem attach_call{l:E9}{n:Nat}{q:A3}{loose:List AN}{XP:(AN->Option AG)->BB->Prop}{YP:Ag->BB->Prop}{d:DefRec}
  (hn:l.most=AA n) (hdf:d.params.defaults=[])
  (call:∀(w:Ag) (s₀ s₁:AJ) (mg mb:AN->Option AG) (fa:AI) (o:CF) (pm cd doc:AG) (a:AI) (vs:List AG) (ns:List Int),
   Ground q loose [] XP w s₀ mg mb s₁.heap->YP w s₁.heap ->
   s₁.heap.get? fa=AA o->o.data=.func (docDef d.name d.params d.body d.scope pm cd doc)->s₁.heap.CodeRec cd d.name->mg d.name=AA (.ref fa) ->
   s₁.heap.get? a=AA {cls:=.type "list",data:=.seq vs.toArray}->FK vs ns->ns.length<=n->s₁.gens=#[] ->
   codeAny (model l.prog w) callerA (.call (.ref fa) ⟨[.ref a],[]⟩) (λr s'=>r=.ok (.ret (.bool AB))/\OldK s₁.heap s'.heap/\s'.os=s₁.os/\D0 s'.gens) s₁):
  G1 q loose XP YP l.row.toRowW d [] (λf vs=>Ga f vs):=by
 intro w s₀ s₁ mg mb G Y fa o pm cd doc dV kV ho hd hcd hD hmg hg args vals as hpre hlay hrd hwl hlo;obtain rfl:dV=.none:=Dflts.none hD hdf;obtain rfl:kV=.none:=Dflts.noKw hD;let⟨a,vs,ns,rfl,rfl,hobj,hints,hlen⟩:=zhM hn hpre hwl;refine enter_call (Dn (call w s₀ s₁ mg mb fa o pm cd doc a vs ns G Y ho (fd_plain hd) hcd hmg hobj hints hlen hg) λr s' hq=>?_);let⟨rfl,h2,h3,h4⟩:=hq;exact⟨.inl ⟨.bool AB,.bool AB,[],rfl,λ_=>rfl,.bool AB,ziY l _,λ_=>⟨HR,λ_ hm=>(nomatch hm)⟩⟩,h2,h3,h4⟩
section
variable {prog:A3}{w:Ag}{A:Ar}{E:AG->AJ->Prop}{s:AJ}{K:AF}
end
end Att
namespace L2
open PySem PySem.Spec PyProof.Rows
def zfj:∀{vs:List AG} {ns:List Int},FK vs ns->Vals (ns.map V.int) vs
 |_,_,.nil=>.nil
 |_,_,.cons n t h=>.cons ⟨t,rfl⟩ (zfj h)
def Only(H:Hp):Prop:=∀b,H b=AD \/ ∃o xs,H b=AA (.frz o (.lst xs))
def zjX{P:A3}{w:Ag}{K:AF}{mg mb:AN->Option AG}{CX:CXT}{k:Nat}{fa a:AI}{fd:Az}{x:AN}{sp:Sp}{s₁:AJ}{vs:List AG}{ns:List Int}
  (KX:K.In s₁.heap) (hns:s₁.heap.Ns mainGlobals mg) (hb:s₁.heap.Ns builtinsNs mb) (hbb:∀x:AN,x ≠ "__name__"->mb x=bootBuiltins x) (hlim:s₁.heap.NoLimit) (hg:s₁.gens=#[])
  (ha:s₁.heap.get? a=AA {cls:=.type "list",data:=.seq vs.toArray}) (hi:FK vs ns) (hl:ns.length<=sizeLine) (hr:yap k callerA)
  (F:∀base:BB,K.In base->base.Ns mainGlobals mg->yaI P w K mg base CX k fa fd [x] sp) (hbind:∀(s:AJ) (u:AG),FI s fd ⟨[u],[]⟩ [(x,u)])
  (hsp:∀H:Hp,Only H->SqL K H a (ns.map V.int)->sp [.ref a] H (λv _=>v=.bl AB) λ_ _ _=>False)
  (hCX:∀H e s',CX [] H s₁ (λ_ _ _=>False) e s'->False):
  codeAny (model P w) callerA (.call (.ref fa) ⟨[.ref a],[]⟩) (λr s'=>r=.ok (.ret (.bool AB))/\OldK s₁.heap s'.heap/\s'.os=s₁.os/\D0 s'.gens) s₁:=by
 have rv:=zfj hi;have lenV:=hi.length;have core:∀H:Hp,Only H->SqL K H a (ns.map V.int)->HOk P w H s₁.heap->(∀b,H b≠AD->b=a)->(H a≠AD->K.lookup a=AD) ->
   codeAny (model P w) callerA (.call (.ref fa) ⟨[.ref a],[]⟩) (λr s'=>r=.ok (.ret (.bool AB))/\OldK s₁.heap s'.heap/\s'.os=s₁.os/\D0 s'.gens) s₁:=by
  intro H hO hS hok hA hK;have base_of:∀{b:AI} {o:CF},s₁.heap.get? b=AA o->H b=AD->(ycg s₁.heap H).get? b=AA o:=λe n=>zjH e n;have noA:∀{b:AI} {o:CF} {es:Array CL} {ep:Nat},s₁.heap.get? b=AA o->o.data=.dict es ep->H b=none:=λ{b o es ep} e d=>by
   cases q:H b with
   |none=>rfl
   |some u=>
    have e':b=a:=hA b (by rw[q];simp);subst e';rw[ha]at e;cases e;have d':Data.seq vs.toArray _=Data.dict es ep:=d
    cases d'
  have nsK:∀{b:AI} {m:AN->Option AG},s₁.heap.Ns b m->(ycg s₁.heap H).Ns b m:=λ{b m} ⟨o,es,ep,e,d,r⟩=>⟨o,es,ep,base_of e (noA e d),d,r⟩;have hKb:K.In (ycg s₁.heap H):=λb o e=>base_of (KX b o e) (by
   cases q:H b with
   |none=>rfl
   |some u=>
    have e':b=a:=hA b (by rw[q];simp);subst e';rw[hK (by rw[q];simp)]at e;cases e)
  have hM:Mod K mg (ycg s₁.heap H):=⟨hKb,nsK hns,⟨mb,nsK hb,hbb⟩,let ⟨mc,h1,h2⟩:=hlim;⟨mc,nsK h1,h2⟩⟩;have e0:ycy P w K mg (ycg s₁.heap H) callerA [] s₁ H:=⟨rfl,hM,λb o e=>zlg e,Gq (zhj _ _),trivial,λb hb=>absurd (show b∈([]:List AI)from hb) (by simp),hok,.of_eq hg⟩;refine Dn ((F _ hKb (nsK hns)).run callerA [] s₁ H ⟨[.ref a],[]⟩ [.ref a] [.ref a] _ _ hr e0 (hbind s₁ (.ref a)) (.cons rfl .nil) (hsp H hO hS)) λr s' h=>?_
  cases r with
  |error e=>exact(hCX H e s' h).elim
  |ok fl=>
   cases fl with
   |next=>exact Bm h
   |brk=>exact Bm h
   |cont=>exact Bm h
   |ret u=>
    let⟨v,H',os,bare,un,hok',r',q⟩:=h;have q':v=.bl true:=q;subst q';obtain rfl:u=Dq true:=r';refine⟨rfl,OldK.of_keep λb o e=>?_,os,bare⟩
    cases q:H b with
    |none=>exact un.keep b o e q (by intro z;exact absurd (show b∈([]:List AI)from z) (by simp)) (by simp)
    |some u=>
     rcases hO b with z|⟨ob,xs,z⟩
     .rw[q]at z;cases z
     .have z2:=un.frzs b ob _ z;let⟨e1,_⟩:=hok b _ z;let⟨e2,_⟩:=hok' b _ z2;rw[e]at e1;cases e1;exact e2
 cases hk:K.lookup a with
 |some o=>
  have e:=KX a o hk;rw[ha]at e
  cases e
  refine core (λ_=>AD) (λ_=>.inl rfl) (.inr ⟨_,vs.toArray,_,hk,rfl,rfl,rfl,by rw[AY,lenV];exact hl,by simpa using rv⟩) (λb u z=>by have z':(AD:Option HO)=AA u:=z;cases z') (λb z=>absurd rfl z) λz=>absurd rfl z
 |none=>
  refine core (λb=>if b=a then AA (.frz {cls:=.type "list",data:=.seq vs.toArray} (.lst (ns.map V.int)))else AD) (λb=>?_) (.inl (.inr ⟨{cls:=.type "list",data:=.seq vs.toArray},if_pos rfl⟩)) (λb u z=>?_) (λb z=>?_) λ_=>hk
  .by_cases hb:b=a
   .exact .inr ⟨_,_,if_pos hb⟩
   .exact .inl (if_neg hb)
  .by_cases hb:b=a
   .have z':=(if_pos hb).symm.trans z
    cases z'
    subst hb;exact⟨ha,by rw[BD];exact hl,vs,_,rv,ha⟩
   .have z':=(if_neg hb).symm.trans z
    cases z'
  .by_cases hb:b=a
   .exact hb
   .exact absurd (if_neg hb) z
theorem walk_of{l:E9}{n k:Nat}{q:A3}{loose:List AN}{XP:(AN->Option AG)->BB->Prop}{YP:Ag->BB->Prop}{d:DefRec}{K:Params->AF}{CX:Ag->CXT}{sp:Ag->Sp}{x:AN}
  (hn:l.most=AA n) (hn2:n<=sizeLine) (hdf:d.params.defaults=[]) (hr:yap k callerA)
  (hY:∀(w:Ag) (h:BB),YP w h->(K w.params).In h)
  (F:∀(w:Ag) (mg:AN->Option AG) (fa:AI) (h:BB),(K w.params).In h->h.Ns mainGlobals mg->mg d.name=AA (.ref fa) ->
   ∃fd:Az,(∀(s:AJ) (u:AG),FI s fd ⟨[u],[]⟩ [(x,u)]) /\
    ∀base:BB,(K w.params).In base->base.Ns mainGlobals mg->yaI l.prog w (K w.params) mg base (CX w) k fa fd [x] (sp w))
  (hsp:∀(w:Ag) (H:Hp) (a:AI) (ns:List Int),ns.length<=n->Only H->SqL (K w.params) H a (ns.map V.int)->sp w [.ref a] H (λv _=>v=.bl AB) λ_ _ _=>False)
  (hCX:∀(w:Ag) (H:Hp) (s:AJ) (e:AG) (s':AJ),CX w [] H s (λ_ _ _=>False) e s'->False):
  G1 q loose XP YP l.row.toRowW d [] (λf vs=>Ga f vs):=by
 refine Att.attach_call hn hdf λw s₀ s₁ mg mb fa o pm cd doc a vs ns G Y ho hd hcd hmg hobj hints hlen hg=>?_;have KX:=hY w _ Y;let⟨fd,hb,hF⟩:=F w mg fa _ KX G.T.g hmg;exact zjX KX G.T.g G.T.b G.T.builtins G.T.nolimit hg hobj hints (BV hlen hn2) hr hF hb (λH hO hS=>hsp w H a ns hlen hO hS) λH e s'=>hCX w H s₁ e s'
def inClass(s:Bz)(j:Nat):Stmt:=match s with
 |.ClassDef _ _ _ body _ _ _ _ _ _ _=>body.getD j (.Pass ⟨0,0,0,0⟩)
 |_=>.Pass ⟨0,0,0,0⟩
def yab(s:Bz):Arguments:=match s with
 |.FunctionDef _ a _ _ _ _ _ _ _ _=>a
 |_=>{posonlyargs:=[],args:=[],vararg:=AD,kwonlyargs:=[],kw_defaults:=[],kwarg:=AD,defaults:=[]}
def yX(s:Bz):List Stmt:=match s with
 |.FunctionDef _ _ b _ _ _ _ _ _ _=>b
 |_=>[]
def yE(s:Bz):Scope:=match s with
 |.FunctionDef _ _ _ _ _ _ sc _ _ _=>sc
 |_=>{kind:=.function,names:=[],isGenerator:=AC,isCoroutine:=AC}
structure Fun(K:AF)(x qual:AN)(st:Bz)(f:AI)(fd:Az):Prop where
 ex:∃(oc:AG) (od:Option AI) (kV doc pm:AG) (an:Option AI) (cdv ct:AG) (osl:Array (Option AG)),
  fd=B4 x qual (yab st) (yX st) (yE st) .none kV doc pm an cdv ct/\K.lookup f=AA ⟨oc,od,.func fd,osl⟩/\CN K cdv qual=AB
 kp:Al K (.ref f)=AB
section
variable {P:A3}{w:Ag}{K:AF}{mg:AN->Option AG}{base:BB}
theorem Fun.binds{x qual:AN}{st:Bz}{f:AI}{fd:Az}{ps:List AN}(F:Fun K x qual st f fd)
  (h:∀(kV doc pm:AG) (an:Option AI) (cdv ct:AG) (us:List AG),us.length=ps.length->bindArgs (B4 x qual (yab st) (yX st) (yE st) .none kV doc pm an cdv ct) ⟨us,[]⟩=pure (ps.zip us)):Binds K fd ps []:=by
 let⟨oc,od,kV,doc,pm,an,cdv,ct,osl,rfl,lk,hcd⟩:=F.ex;exact .all (h kV doc pm an cdv ct)
end
def zlp{A:Ar}{k:Nat}(hr:yap k A):A.units+1<cLine:=Nat.lt_of_le_of_lt (Nat.add_le_add_left (by decide:1<=64) _) hr.units
section
variable {X:Cx}
end
end L2
namespace WE
open PySem PySem.Spec PyProof.Rows
open AutoSeq1 (wpAny_loadPart')
section
variable {pg:A3}{wd:Ag}{A:Ar}{Er:AG->AJ->Prop}{s:AJ}
def zcp{it t:AI}{i:Nat}{xs:Array AG}{x:AG}{Q:AG->AJ->Prop}(hi:s.heap.IsTupleIter it t i)(ht:s.heap.IsTuple t xs)(hx:xs[i]?=AA x)
  (k:∀h',h'.IsTupleIter it t (i+1)->C9 it s.heap h'->Q x {s with heap:=h'}):A0 (model pg wd) A (BQ (.ref it)) Q Er s:=by
 let⟨oi,gi,ci,di⟩:=id hi;let⟨ot,gt,_,nt,dt⟩:=ht;unfold BQ;refine AH (Bf (name:=AE "__next__") hi.typeIs CO (C4 CO hi.typeIs Do ?_ (Dd _)));show A0 _ _ (field (.ref it) 0 >>= _) _ _ _;refine AH (BT gi di (x:=.ref t) rfl ?_);show A0 _ _ (if (Ad t==CM)=AB then _ else _) _ _ _;rw[if_neg (show ¬((Ad t==CM)=AB)from λz=>BA z)];show A0 _ _ (field (.ref it) 1 >>= _) _ _ _;refine AH (BT gi di (x:=.int i 0) rfl ?_);show A0 _ _ (seqItems? (.ref t) >>= _) _ _ _;refine AH (C5 gt dt ?_);erw[CV,hx];refine AH (FB gi di (by simp) (AU ⟨x,rfl,AU (k _ ?_ (FO ..))⟩));refine⟨_,Eu _ gi (Obj.isFreed_of_fields (F4 di _)),(Obj.cls_mapFields ..).trans ci,?_⟩;rw[F4 di];simp[rawInt]
def zeM{it t:AI}{i:Nat}{xs:Array AG}{Q:AG->AJ->Prop}(hh:A.handled=AD)(hi:s.heap.IsTupleIter it t i)(ht:s.heap.IsTuple t xs)(hx:xs[i]?=AD)
  (k:∀h' e,Heap.ExtBut it s.heap h'->(∃o,h'.get? e=AA o/\o.cls=.type "StopIteration")->Er (.ref e) {s with heap:=h'}):A0 (model pg wd) A (BQ (.ref it)) Q Er s:=by
 let⟨oi,gi,ci,di⟩:=id hi;let⟨ot,gt,_,nt,dt⟩:=ht;unfold BQ;refine AH (Bf (name:=AE "__next__") hi.typeIs CO (C4 CO hi.typeIs Do ?_ (Dd _)));show A0 _ _ (field (.ref it) 0 >>= _) _ _ _;refine AH (BT gi di (x:=.ref t) rfl ?_);show A0 _ _ (if (Ad t==CM)=AB then _ else _) _ _ _;rw[if_neg (show ¬((Ad t==CM)=AB)from λz=>BA z)];show A0 _ _ (field (.ref it) 1 >>= _) _ _ _;refine AH (BT gi di (x:=.int i 0) rfl ?_);show A0 _ _ (seqItems? (.ref t) >>= _) _ _ _;refine AH (C5 gt dt ?_);erw[CV,hx];refine AH (Ea (AH (FB gi di (by simp) ?_)));show A0 _ _ (newExc (.type "StopIteration") [] >>= _) _ _ _;refine AH ?_;erw[newExc,newTuple];refine AH (Bl ?_ (by size_fits));refine AH (m:=firstArgMember _ _) (wpAny_of_eq (a:=CM) (by first|rfl|(erw[firstArgMember];rfl)) ?_);refine Bl ?_ (by size_fits);erw[raiseNew];refine AH (wpAny_handled ?_);first|rw[show A.in1.handled=AD from hh]|rw[hh]
 refine AH (AU (wpAny_throw ?_));exact k _ _ (((FO ..).extBut.push _).push _) ⟨_,AZ _ rfl,rfl⟩
end
theorem draws_tuple{pg:A3}{wd:Ag}{A:Ar}(hh:A.handled=AD)(it t:AI)(hne:t≠it)(xs:Array AG):
  Draws pg wd A it [it,t] xs.size (λi v=>xs[i]?=AA v) (λi h=>h.IsTupleIter it t i/\h.IsTuple t xs) where
 live:=λ_ _ st=>let ⟨o,g,_⟩:=st.1;⟨o,g⟩
 frame:=λ_ _ _ st kp=>⟨let ⟨o,g,r⟩:=st.1;⟨o,kp it (by simp) o g,r⟩,let ⟨o,g,r⟩:=st.2;⟨o,kp t (by simp) o g,r⟩⟩
 item:=λi s Q E hi st hQ=>zcp st.1 st.2 (x:=xs[i]) (by simp[hi]) λh' hit' hs'=>hQ _ h' s.toks (by simp[hi]) ⟨hit',st.2.extBut hs'.extBut hne⟩ hs'
 done:=λs Q E st hE=>zeM hh st.1 st.2 (by simp) hE
def zfC(l:AI)(xs:Array AG)(n:Nat)(dc:Option AI)(sl:Array (Option AG)):
  Meets (Gu.«enumerate.__new__» ⟨[.type "enumerate",.ref l],[]⟩) (λ_ R s=>s.heap.get? l=AA {cls:=.type "tuple",dict:=dc,data:=.seq xs n,slots:=sl} /\
   R (.ok (.ret (.ref (s.heap.push {cls:=.type "tuple_iterator",data:=.fields #[.ref l,.int 0 0]}).objs.size)))
    {s with heap:=(s.heap.push {cls:=.type "tuple_iterator",data:=.fields #[.ref l,.int 0 0]}).push {cls:=.type "enumerate",data:=.fields #[.none,.bool AC,.ref s.heap.objs.size,rawInt 0,.none,.none]} }):=
 .of_wp λprog w A R s h=>by
  let⟨hp,g,d,tk,os⟩:=s;let⟨gl,h⟩:=h;have hsub:=sub_enumerate;have hT:Fh (GR ⟨hp,g,d,tk,os⟩) l xs:=⟨_,gl,rfl,n,rfl⟩
  wp_walk using wpAny_loadPart' gl
  refine wpAny_stack_any λst=>AU ?_;split
  .rename_i c _ _ _ _ _
   cases (c==F1 "enumerate")
   .wp_walk using wpAny_loadPart' gl,Bs hT
    exact⟨_,rfl,h⟩
   .wp_walk using wpAny_loadPart' gl,Bs hT
    exact⟨_,rfl,h⟩
  .wp_walk using wpAny_loadPart' gl,Bs hT
   exact⟨_,rfl,h⟩
theorem call_enumT{pg:A3}{wd:Ag}{A:Ar}{Er:AG->AJ->Prop}{s:AJ}{l:AI}{xs:Array AG}{Q:AG->AJ->Prop}(hT:s.heap.IsTuple l xs)
  (k:∀h',IsEnum h' (s.heap.objs.size+1) s.heap.objs.size 0 .none->h'.IsTupleIter s.heap.objs.size l 0->h'.objs.size=s.heap.objs.size+2 ->
   (∀b o,s.heap.get? b=AA o->h'.get? b=AA o)->Q (.ref (s.heap.objs.size+1)) {s with heap:=h'}):A0 (model pg wd) A (call (.type "enumerate") [.ref l]) Q Er s:=by
 let⟨⟨c,dct,dt,sl⟩,gl,hc,n,hd⟩:=hT
 cases (show c=.type "tuple" from hc)
 cases (show dt=.seq xs n from hd)
 refine callType_new F.called_enumerate ⋯ (F.typeCall_enumerate_1 _) (F.newCall_enumerate_1 _) (λobj=>F.args_object_init_2 obj _) F.entry_enumerate_new (zfC l xs n dct sl) ⟨gl,?_⟩;have hz:(s.heap.push {cls:=.type "tuple_iterator",data:=.fields #[.ref l,.int 0 0]}).objs.size=s.heap.objs.size+1:=Bv ..;show _/\_;rw[hz];have he:IsEnum ((s.heap.push {cls:=.type "tuple_iterator",data:=.fields #[.ref l,.int 0 0]}).push {cls:=.type "enumerate",data:=.fields #[.none,.bool AC,.ref s.heap.objs.size,rawInt 0,.none,.none]}) (s.heap.objs.size+1) s.heap.objs.size 0 .none:=by
  have q:=AZ (s.heap.push {cls:=.type "tuple_iterator",data:=.fields #[.ref l,.int 0 0]}) (o:={cls:=.type "enumerate",data:=.fields #[.none,.bool AC,.ref s.heap.objs.size,rawInt 0,.none,.none]}) rfl;rw[hz]at q;exact q
 exact⟨⟨_,he,rfl⟩,k _ he ⟨_,AO _ (AZ _ rfl),rfl,rfl⟩ (by rw[Bv,hz]) λb o y=>AO _ (AO _ y)⟩
end WE
namespace L2
open PySem PySem.Spec PyProof.Rows
section
variable {X:Cx}
def yc2(i j:Int):Prop:=0<j/\j<10000000000000000000000000000000000000000000000000000000000000000000000
def zjE:OpR X (binaryOp .FloorDiv) (rI yc2 λi j=>.int (i/j)):=opI λi j _ _ _ _ _ hc q=>by
 let⟨h1,h2⟩:=hc;refine floordiv_int ∅ (by rw[Dv i ∅];exact q) (.inl (PyProof.noPylong_of_log2 ?_));have h0:j.natAbs≠0:=by lia
 refine A2 ((Nat.log2_lt h0).mpr (?_:j.natAbs<2^250)) ⋯;have e:(10000000000000000000000000000000000000000000000000000000000000000000000:Nat)<2^250:=by decide
 lia
end
section
variable {X:Cx}{π:List (AI×CF)}{σ:St}{H:Hp}{s:AJ}{h':BB}
theorem Inv.turnLaid{t':Nat}{ch:List AI}{T:AI}{o:HO}(I:Inv X π σ H s)(hf:∀b∈ch,ybr X π H b)(k:∀b u,b∉ch->s.heap.get? b=AA u->h'.get? b=AA u)
  (hp:s.heap.objs.size<=T) (new:yR X.prog X.w (upd H T o) h' T o):Inv X π σ (upd H T o) {s with heap:=h',toks:=t'}:=by
 have hn:H T=none:=I.hok.fresh hp;have nch:∀b u,H b=AA u->b∉ch:=λb u e z=>by
  have q:=(hf b z).1;rw[e]at q
  cases q
 refine I.step (g':=s.gens) (d':=s.drawn) (ch:=ch) (λb hb=>?_) (λb u _ _ hc e _=>k b u hc e) (λb u _ _ hc e _=>⟨u.slots,k b u hc e⟩) (λb u _ e n=>?_) (λb u hc e=>⟨u,k b u hc e⟩) (λb xs e=>?_) (λb u v e=>?_) (λb ps e=>⟨#[],?_⟩) (λm hm=>?_) (λb u e=>?_) I.bare
 .let⟨f0,f1,f2,f3,f4,f5⟩:=hf b hb;exact⟨f3,f1,f4,f5⟩
 .rw[zj (Ah (A2 (AV e) hp))];exact n
 .rw[zj (zl e hn)];exact e
 .rw[zj (zl e hn)];exact e
 .rw[zj (zl e hn),e];simp
 .let⟨ob,es,ep,ho,r⟩:=hm;exact⟨ob,es,ep,k _ ob (λz=>(hf _ z).2.1 rfl) ho,r⟩
 .by_cases hb:b=T
  .subst hb;rw[zq]at e
   cases e
   exact new
  .rw[zj hb]at e;refine(I.hok b u e).stay (λc v hc q=>k c v ?_ q) (λc q=>by rw[zj (zl q hn)];exact q) λc xs q=>by rw[zj (zl q hn)];exact q
   rcases hc with z|z
   .rw[z];exact nch b u e
   .exact nch c _ z
theorem Inv.turnedL{t':Nat}{ch:List AI}(I:Inv X π σ H s)(hf:∀b∈ch,ybr X π H b)(k:∀b u,b∉ch->s.heap.get? b=AA u->h'.get? b=AA u):Inv X π σ H {s with heap:=h',toks:=t'}:=by
 have nch:∀b u,H b=AA u->b∉ch:=λb u e z=>by
  have q:=(hf b z).1;rw[e]at q
  cases q
 refine I.step (g':=s.gens) (d':=s.drawn) (ch:=ch) (λb hb=>?_) (λb u _ _ hc e _=>k b u hc e) (λb u _ _ hc e _=>⟨u.slots,k b u hc e⟩) (λ_ _ _ _ n=>n) (λb u hc e=>⟨u,k b u hc e⟩) (λ_ _ e=>e) (λ_ _ _ e=>e) (λb ps e=>⟨#[],by rw[e];simp⟩) (λm hm=>?_) (λb u e=>?_) I.bare
 .let⟨f0,f1,f2,f3,f4,f5⟩:=hf b hb;exact⟨f3,f1,f4,f5⟩
 .let⟨ob,es,ep,ho,r⟩:=hm;exact⟨ob,es,ep,k _ ob (λz=>(hf _ z).2.1 rfl) ho,r⟩
 .refine(I.hok b u e).stay (λc v hc q=>k c v ?_ q) (λ_ q=>q) λ_ _ q=>q;rcases hc with z|z
  .rw[z];exact nch b u e
  .exact nch c _ z
end
def Ite(K:AF)(a:AI):It:=
 ⟨λi H=>∃xs x,SqT K H a xs/\xs[i]?=AA x,λi H x H'=>∃T,H T=AD/\x=.ref T/\∀xs y,SqT K H a xs->xs[i]?=AA y->H'=upd H T (.tup [.int i,y]),λi H=>∃xs,SqT K H a xs/\xs.length=i⟩
def zd6{h:BB}{a b:AI}{o u:CF}(x:h.get? a=AA o)(y:h.get? b=AA u)(z:o.cls≠u.cls):a≠b:=λe=>by
 subst e;rw[x]at y
 cases y
 exact z rfl
def zg9{P:A3}{w:Ag}{K:AF}{es:List AS}{kk:Nat}{pos:CT}(a e it:AI):
  Turn P w K (.Tuple es kk pos) (Ite K a) [e,it] e (λi h=>(∃old,IsEnum h e it i old)/\h.IsTupleIter it a i) where
 mem:=by simp
 obj:=λi h st b hb=>by
  let⟨⟨old,he⟩,oi,gi,ci,di⟩:=st;rcases AR.mp hb with z|z
  .subst z;exact⟨_,he,λv y=>nomatch y⟩
  .have z:b=it:=by simpa using z
   subst z;exact⟨oi,gi,λv y=>by rw[di]at y;cases y⟩
 keep:=λi h h' st k=>by
  let⟨⟨old,he⟩,oi,gi,r⟩:=st;exact⟨⟨old,k e (by simp) _ he⟩,oi,k it (by simp) _ gi,r⟩
 item:=by
  intro X hP hw hK hc i π s σ H E I hf st hg;subst hP hw hK;let⟨xs,x,hq,hx⟩:=hg;let⟨its,rv,p,hz⟩:=I.tuple hq;let⟨⟨old,he⟩,hi⟩:=st;let⟨oi,gi,ci,di⟩:=id hi;let⟨oa,ga,ca,na,da⟩:=id p;have nai:a≠it:=zd6 ga gi (by rw[ca,ci];exact λz=>absurd (Cj z) ⋯);have nei:e≠it:=zd6 he gi (by rw[ci];exact λz=>absurd (Cj z) ⋯);have nea:e≠a:=zd6 he ga (by rw[ca];exact λz=>absurd (Cj z) ⋯);have hl:=rv.length;have hil:i<its.toArray.size:=by
   have:=(BI.mp hx).1;simpa using (by lia:i<its.length)
  have W:=Fi (prog:=X.prog) (w:=X.w) (A:=X.A) (WE.draws_tuple (pg:=X.prog) (wd:=X.w) (A:=X.A.in1) (I.ok.hd hc) it a nai its.toArray) e nei (by simp[nei,nea]) (by simp);refine W.item i s _ E hil ⟨⟨old,he⟩,hi,p⟩ λT vals h1 tk hP hsz hT mid kp=>⟨.ref T,rfl,?_⟩;refine W.go es kk pos i T _ _ E mid λh2 st2 kp2=>?_;let⟨t,y,hy,rfl⟩:=hP;let⟨u,hu,ru⟩:=rv.get hx;have ey:y=u:=AW (hy.symm.trans (by simpa using hu));subst ey;have hch:∀b o,b∉[e,it]->s.heap.get? b=AA o->h2.get? b=AA o:=λb o hb q=>kp2 b o hb (kp b o hb q);have hTw:=W.apart i T h1 mid;have new:yR X.prog X.w (upd H T (.tup [.int i,x])) h2 T (.tup [.int i,x]):=by
   let⟨o,g,r⟩:=hT;exact⟨by show 2<=sizeLine;decide,[.int i t,y],.cons ⟨t,rfl⟩ (.cons ru .nil),o,kp2 T o hTw g,r⟩
  have I2:=I.turnLaid (t':=tk) hf hch hsz new;refine⟨.ref T,_,I2,rfl,⟨T,I.hok.fresh hsz,rfl,λys z hy' hz'=>?_⟩,⟨st2.1,st2.2.1⟩,λb hb=>?_⟩
  .rw[I.tuple_inj hy' hq]at hz';rw[hx]at hz'
   cases hz'
   rfl
  .rw[zj (λz:b=T=>hTw (z ▸ hb))];exact(hf b hb).1
 done:=by
  intro X hP hw hK hc i π s σ H E I hf st hg;subst hP hw hK;let⟨xs,hq,hx⟩:=hg;let⟨its,rv,p,hz⟩:=I.tuple hq;let⟨⟨old,he⟩,hi⟩:=st;let⟨oi,gi,ci,di⟩:=id hi;let⟨oa,ga,ca,na,da⟩:=id p;have nai:a≠it:=zd6 ga gi (by rw[ca,ci];exact λz=>absurd (Cj z) ⋯);have nei:e≠it:=zd6 he gi (by rw[ci];exact λz=>absurd (Cj z) ⋯);have nea:e≠a:=zd6 he ga (by rw[ca];exact λz=>absurd (Cj z) ⋯);have hl:=rv.length;have W:=Fi (prog:=X.prog) (w:=X.w) (A:=X.A) (WE.draws_tuple (pg:=X.prog) (wd:=X.w) (A:=X.A.in1) (I.ok.hd hc) it a nai its.toArray) e nei (by simp[nei,nea]) (by simp);have en:its.toArray.size=i:=by simp;lia
  refine W.done s _ E (by rw[en];exact⟨⟨old,he⟩,hi,p⟩) λh2 tk kp=>⟨rfl,I.turnedL (t':=tk) hf kp⟩
 self:=λ_ _ _ _ _ st q=>by
  let⟨⟨old,he⟩,_⟩:=st;exact Fj he q
def yfF(K:AF)(ta:TA):TI:=λσ H R=>ta σ H λvs H1=>∃a,vs=[.ref a]/\(∃xs,SqT K H1 a xs)/\R (Ite K a) H1
def zi9{X:Cx}{a:AS}{es:List AS}{kk:Nat}{tp:CT}{ta:TA}{p pos:CT}(hg:Gl X "enumerate")(hm:X.mg "enumerate"=AD)(ha:PA X [a] ta)(hs:starEach [a] X.env=[(AC,eval a X.env)]:=by rfl):
  PI X (.Tuple es kk tp) (.Call (.Name "enumerate" p) [a] [] pos) (yfF X.K ta):=by
 intro π s σ H R I h;refine BZ (zd0 I hg hm boot_enumerate ?_);refine CH (thn (ha pos π s σ H _ I h) λus s1 kq=>?_) hs rfl;let⟨vs,H1,I1,r1,q1⟩:=kq;let⟨l,rfl,⟨xs,hq⟩,q⟩:=q1;let⟨u,rfl,ru⟩:=Vals.one r1
 cases (show u=Ad l from ru)
 let⟨its,rv,pt,hz⟩:=I1.tuple hq;refine WE.call_enumT (show s1.heap.IsTuple l its.toArray from pt) λh1 he hi hsz kp=>?_;refine Fj he ?_;refine⟨_,[s1.heap.objs.size+1,s1.heap.objs.size],_,_,H1,rfl,I1.kept (t':=s1.toks) kp,zg9 l _ s1.heap.objs.size,⟨⟨_,he⟩,hi⟩,λb hb=>?_,q⟩;have hb2:s1.heap.objs.size<=b:=by
  rcases AR.mp hb with z|z
  .subst z;exact C6 _
  .have z:b=s1.heap.objs.size:=by simpa using z
   subst z;exact AT _
 exact I1.fpOk hb2 (I1.hok.fresh hb2)
abbrev No:AG->AJ->Prop:=λ_ _=>False
abbrev ydo(ifs:List AS)(env:Env):Gg Bool:=forIn ifs AB λc r=>if r=AB then do let ok <-isTrue c env (eval c env);pure (GW ok)else pure (GW r)
section
variable {pg:A3}{wd:Ag}{A:Ar}{R:G6->AJ->Prop}{s:AJ}
def zhG{elt tg iter:AS}{ifs:List AS}{sc:Bk}{pos:CT}{it acc:AG}{env:Env}(I:Nat->AJ->Prop)
  (turn:∀n s,I n s->A0 (model pg wd) A (pyNext it) (λr s1=>match r with
   |none=>R (.ok .next) s1
   |some v=>A0 (model pg wd) A (letOwnedTupleGo tg it v) (λ_ s2=>A0 (model pg wd) A (assign tg env v) (λ_ s3=>A0 (model pg wd) A (ydo ifs env) (λok s4=>
     if ok=AB then A0 (model pg wd) A (eval elt env) (λx s5=>A0 (model pg wd) A (call (.builtin "list.append") [acc,x]) (λ_ s6=>∃m,m<n/\I m s6) No s5) No s4
     else ∃m,m<n/\I m s4) No s3) No s2) No s1) No s)
  (n:Nat) (h:I n s):codeAny (model pg wd) A (.compLoop (.ListComp elt [⟨tg,iter,ifs,0⟩] sc pos) 0 it acc env) R s:=by
 refine codeAny_loop rfl I (λn s hI=>?_) n h;show A0 _ A ((compTurn (.ListComp elt [⟨tg,iter,ifs,0⟩] sc pos) 0 it acc env).onRaise (λx=>do noteFrame x env;theTreesLotGoes x)) _ _ s;refine wpAny_noted ?_;rw[compTurn_list];refine AH (ES (AH (CW (turn n s hI) (λr s1 h1=>?_) λ_ _ f=>f.elim)))
 cases r with
 |none=>exact AU h1
 |some v=>
  refine AH (CW h1 (λ_ s2 h2=>AH (CW h2 (λ_ s3 h3=>AH (CW h3 (λok s4 h4=>?_) λ_ _ f=>f.elim)) λ_ _ f=>f.elim)) λ_ _ f=>f.elim)
  cases ok with
  |false=>exact AU ⟨rfl,h4⟩
  |true=>exact AH (AH (CW h4 (λx s5 h5=>AH (CW h5 (λ_ s6 h6=>AU (AU ⟨rfl,h6⟩)) λ_ _ f=>f.elim)) λ_ _ f=>f.elim))
end
def yai(env:Env)(r:List (AN×AI))(x:AN×DF):List (AN×AI):=if x.2=.free then(x.1,(env.cells.lookup x.1).getD 0)::r else r
def ydm(sc:Bk)(env:Env):List (AN×AI):=sc.names.foldl (yai env) []
def zgR{α β:Type}{l:List α}{f:α->β->Gg (ForInStep β)}{g:β->α->β}(h:∀x∈l,∀c,f x c=pure (.yield (g c x))):∀c:β,forIn l c f=pure (l.foldl g c):=by
 induction l with
 |nil=>exact λ_=>rfl
 |cons x l ih=>
  intro c;rw[Ep,h x Aj,pure_bind,De];exact ih (λy hy=>h y (AQ _ hy)) (g c x)
def zdk{sc:Bk}{env:Env}(hf:∀y∈sc.names,y.2=.free->∃c,env.cells.lookup y.1=AA c):closureFor sc env=pure (ydm sc env):=by
 erw[closureFor];rw[zgR (g:=yai env) (λx hx c=>?_)]
 .rfl
 .let⟨n,k⟩:=x
  by_cases hk:k=.free
  .subst hk;let⟨a,ha⟩:=hf _ hx rfl;have ha':env.cells.lookup n=AA a:=ha;simp[yai,cellOf,ha']
  .have hb:(k==Cd)=false:=by simpa using hk
   simp[yai,hk,hb]
def zd8{env:Env}:∀(l:List (AN×DF)) (r:List (AN×AI)),(∀y∈l,y.2=.free->∃c,env.cells.lookup y.1=AA c)->(∀x c,r.lookup x=AA c->env.cells.lookup x=AA c) ->
  ∀x c,(l.foldl (yai env) r).lookup x=AA c->env.cells.lookup x=AA c
 |[],r,_,h=>h
 |y::l,r,hf,h=>by
  refine zd8 l (yai env r y) (λz hz=>hf z (AQ _ hz)) λx c e=>?_;unfold yai at e
  by_cases hk:y.2=.free
  .let⟨a,ha⟩:=hf y Aj hk;rw[if_pos hk,B5]at e
   cases hx:x==y.1 with
   |true=>
    rw[hx,ha]at e;rw[eq_of_beq hx,ha];exact e
   |false=>
    rw[hx]at e;exact h x c e
  .rw[if_neg hk]at e;exact h x c e
def zdG{env:Env}{x:AN}:∀(l:List (AN×DF)) (r:List (AN×AI)),(∃c,r.lookup x=AA c)->∃c,(l.foldl (yai env) r).lookup x=AA c
 |[],r,h=>h
 |y::l,r,h=>by
  refine zdG l (yai env r y) ?_;unfold yai
  by_cases hk:y.2=.free
  .rw[if_pos hk,B5]
   cases hx:x==y.1 with
   |true=>exact⟨_,rfl⟩
   |false=>exact h
  .rw[if_neg hk];exact h
def zcx{env:Env}:∀(l:List (AN×DF)) (r:List (AN×AI)),∀y∈l,y.2=.free->∃c,(l.foldl (yai env) r).lookup y.1=AA c
 |[],_,y,hy,_=>nomatch hy
 |z::l,r,y,hy,hk=>by
  rcases AR.mp hy with e|e
  .subst e;refine zdG l (yai env r y) ?_;unfold yai;rw[if_pos hk,B5,beq_self_eq_true];exact⟨_,rfl⟩
  .exact zcx l (yai env r z) y e hk
theorem mem_of_lookup{β:Type}{x:AN}{k:β}:∀{l:List (AN×β)},l.lookup x=AA k->(x,k)∈l
 |[],h=>nomatch h
 |y::l,h=>by
  rw[B5]at h
  cases hx:x==y.1 with
  |true=>
   rw[hx]at h
   cases h
   rw[eq_of_beq hx];exact Aj
  |false=>
   rw[hx]at h;exact AQ _ (mem_of_lookup h)
def ycV(env:Env)(x:AN)(k:DF):NameKind:=if (k==.free&&env.scope.kind==.function&&env.kindOf x==AA .cell)=AB then .cell else k
def zd2{sc:Bk}{env:Env}(x:AN):(relabel sc env).names.lookup x=(sc.names.lookup x).map (ycV env x):=by
 unfold relabel;show (sc.names.map λ(n,k)=>if (k==Cd&&env.scope.kind==.function&&env.kindOf n==AA .cell)then(n,FU)else(n,k)).lookup x=_
 induction sc.names with
 |nil=>rfl
 |cons y l ih=>
  let⟨n,k⟩:=y;rw[AL];show Bu x ((if (k==Cd&&env.scope.kind==.function&&env.kindOf n==AA .cell)=AB then(n,FU)else(n,k))::_)=_
  cases hx:x==n with
  |true=>
   have e:=eq_of_beq hx;subst e
   by_cases hc:(k==Cd&&env.scope.kind==.function&&env.kindOf x==AA .cell)=AB
   .rw[if_pos hc,B5,beq_self_eq_true];simp[ycV,hc]
   .rw[if_neg hc,B5,beq_self_eq_true];simp[ycV,hc]
  |false=>
   by_cases hc:(k==Cd&&env.scope.kind==.function&&env.kindOf n==AA .cell)=AB
   .rw[if_pos hc];erw[B5,hx];exact ih
   .rw[if_neg hc];erw[B5,hx];exact ih
structure CI where
 C:AI
 s:AJ
 H:Hp
 fp:List AI
def cxC(X:Cx)(sc:Bk)(NC:List AN)(j:CI):Cx where
 prog:=X.prog
 w:=X.w
 K:=X.K
 mg:=X.mg
 base:=X.base
 A:=X.A
 N:=NC
 s₀:=j.s
 H₀:=j.H
 env:=compEnvC sc (ydm sc X.env) j.C X.env
 outer:=X.stack
 stack:=X.stack
 ex:=j.fp
 fn:=λ_=>AC
 calm:=X.calm
 pn:=[]
 xe:=No
def inn(slots:List (Option Nat))(σ:St):St:=slots.map λo=>o.bind λj=>(σ[j]?).join
structure yal(X:Cx)(sc:Bk)(NC:List AN)(slots:List (Option Nat)):Prop where
 kind:sc.kind=.function
 names:∀y∈sc.names,y.2=.local->sc.names.lookup y.1=AA .local
 nocell:∀y∈sc.names,y.2 ≠ .cell
 free:∀y∈sc.names,y.2=.free->X.env.scope.names.lookup y.1=AA .cell
 slot:∀(i:Nat) (x:AN) (j:Nat),NC[i]?=AA x->slots[i]?=AA (AA j)->X.N[j]?=AA x/\sc.names.lookup x=AA .free
 len:slots.length=NC.length
def zp3{X:Cx}{sc:Bk}{NC:List AN}{slots:List (Option Nat)}(N:List AN)(so:Bk)(hN:X.N=N)(hs:X.env.scope=so)(kind:sc.kind=.function)
  (names:∀y∈sc.names,y.2=.local->sc.names.lookup y.1=AA .local) (nocell:∀y∈sc.names,y.2 ≠ .cell) (free:∀y∈sc.names,y.2=.free->so.names.lookup y.1=AA .cell)
  (slot:∀p∈NC.zip slots,(p.2.all λj=>decide (N[j]?=AA p.1/\sc.names.lookup p.1=AA .free))=AB) (len:slots.length=NC.length):yal X sc NC slots:=by
 subst hN hs;refine⟨kind,names,nocell,free,λi x j e1 e2=>?_,len⟩;have hm:(x,AA j)∈NC.zip slots:=A1 (i:=i) (by rw[List.getElem?_zip_eq_some];exact⟨e1,e2⟩);have:=slot _ hm;simpa using this
section
variable {X:Cx}{sc:Bk}{NC:List AN}{slots:List (Option Nat)}{π:List (AI×CF)}{σ:St}{H:Hp}{s:AJ}
theorem yal.cells(O:yal X sc NC slots)(ok:X.Ok):∀y∈sc.names,y.2=.free->∃c,X.env.cells.lookup y.1=AA c:=λy hy hk=>ok.has y.1 (.inl (O.free y hy hk))
theorem yal.sub(O:yal X sc NC slots)(ok:X.Ok):∀x c,(ydm sc X.env).lookup x=AA c->X.env.cells.lookup x=AA c:=zd8 sc.names [] (O.cells ok) λ_ _ e=>nomatch e
theorem yal.rel(O:yal X sc NC slots)(ok:X.Ok){x:AN}(h:sc.names.lookup x=AA .free):(relabel sc X.env).names.lookup x=AA .cell:=by
 rw[zd2,h];have e:X.env.kindOf x=AA .cell:=O.free _ (mem_of_lookup h) rfl;simp[ycV,ok.kind,e]
def zg7(I:Inv X π σ H s)(O:yal X sc NC slots){fp:List AI}(hf:∀b∈fp,ybr X π H b)(hob:∀b∈fp,∃o,s.heap.get? b=AA o){h1:BB}{t':Nat}{m:AN->Option AG}(hns:h1.Ns s.heap.objs.size m)
  (hk:∀b o,s.heap.get? b=AA o->h1.get? b=AA o):Inv (cxC X sc NC ⟨s.heap.objs.size,s,H,fp⟩) [] (inn slots σ) H {s with heap:=h1,toks:=t'}:=by
 have sub:=O.sub I.ok;have fss:∀b,b≠X.env.locals->b∉X.fs->b∉frs X.stack:=λb h1 h2 hb=>(AR.mp (I.stkSub b hb)).elim h1 h2;have ltC:∀x c,(ydm sc X.env).lookup x=AA c->c<s.heap.objs.size:=λx c e=>by
  let⟨v,q⟩:=I.cell x c (sub x c e);exact q.lt
 refine⟨⟨I.ok.mod,O.kind,I.ok.glob,I.ok.blt,AT _,λx y c e1 e2=>I.ok.inj x y c (sub x c e1) (sub y c e2),λx hx=>?_,λ_ _ z=>(nomatch z),I.ok.hd,I.ok.frames,.inl rfl,λb hb=>⟨?_,λx c e=>(hf b hb).2.2.2.2.1 x c (sub x c e)⟩,I.bs,BV I.ok.bsz I.sz,λb o e hb=>?_,λb hb=>fss b (hf b hb).2.1 (hf b hb).2.2.1,I.stack,I.stkFree⟩,
  rfl,I.bare,Un.kept hk,⟨m,hns,λi x v e1 e2 e3=>?_⟩,λx c e=>?_,I.hok.fresh (AT _),λx c e=>I.freeC x c (sub x c e),λp hp=>(nomatch hp),I.hok.kept hk,?_⟩
 .have hx':(relabel sc X.env).names.lookup x=AA .cell \/ (relabel sc X.env).names.lookup x=AA .free:=hx;rw[zd2]at hx'
  cases q:sc.names.lookup x with
  |none=>
   rw[q]at hx';rcases hx' with z|z<;>cases z
  |some k=>
   have hm:=mem_of_lookup q;have hkf:k=.free:=by
    rw[q]at hx';have nc:=O.nocell _ hm
    by_cases hk:k=.free
    .exact hk
    .exfalso;have hb:(k==Cd)=false:=by simpa using hk
     rcases hx' with z|z
     .simp[ycV,hb]at z;exact nc z
     .simp[ycV,hb]at z;exact hk z
   subst hkf;exact zcx sc.names [] _ hm rfl
 .let⟨o,e⟩:=hob b hb;exact Ah (AV e)
 .rcases (hf b hb).2.2.2.1 with z|z
  .exact I.ok.noex b o e z
  .exact absurd (A2 (AV e) (BV I.ok.bsz z)) (Cr _)
 .obtain⟨j,e4,e5⟩:∃j,slots[i]?=AA (AA j)/\σ[j]?=AA (AA v):=by
   have e2':(slots.map λo=>o.bind λj=>(σ[j]?).join)[i]?=AA (AA v):=e2;rw[CA]at e2'
   cases q:slots[i]? with
   |none=>
    rw[q]at e2'
    cases e2'
   |some o=>
    rw[q]at e2'
    cases o with
    |none=>cases e2'
    |some j=>
     refine⟨j,rfl,?_⟩;have e6:(σ[j]?).join=AA v:=AW e2'
     cases q2:σ[j]? with
     |none=>
      rw[q2]at e6
      cases e6
     |some w=>
      rw[q2]at e6;have e7:w=AA v:=e6;rw[e7]
  let⟨e6,e7⟩:=O.slot i x j e1 e4;have kc:X.env.scope.names.lookup x=AA .cell:=O.free _ (mem_of_lookup e7) rfl;let⟨m0,hn0,hl⟩:=I.loc;let⟨u,r,lk⟩:=hl j x v e6 e5 (.inr (.inl kc));refine⟨u,r,.inr ⟨.inl (O.rel I.ok e7),?_⟩⟩;rcases lk with⟨z,_⟩|⟨_,c,hc,o,ho,hd⟩
  .rw[show X.env.kindOf x=AA .cell from kc]at z
   cases z
  .let⟨c',hc'⟩:=zcx (env:=X.env) sc.names [] _ (mem_of_lookup e7) rfl;have e8:c'=c:=AW ((sub x c' hc').symm.trans hc);subst e8;exact⟨c',hc',o,hk _ _ ho,hd⟩
 .let⟨v,o,ho,hd⟩:=I.cell x c (sub x c e);exact⟨v,o,hk _ _ ho,hd⟩
 .show (slots.map λo=>o.bind λj=>(σ[j]?).join).length=NC.length;rw[BD,O.len]
def zgV(I:Inv X π σ H s){fp:List AI}(hf:∀b∈fp,ybr X π H b){C:AI}(hC:s.heap.objs.size<=C){pl:List (AI×CF)}{σ':St}{H':Hp}{s':AJ}(J:Inv (cxC X sc NC ⟨C,s,H,fp⟩) pl σ' H' s')
  {h2:BB} (hb:C9 C s'.heap h2):Inv X π σ H' {s' with heap:=h2}:=by
 have nC:∀b o,s.heap.get? b=AA o->b≠C:=λb o e=>Ah (A2 (AV e) hC);have B:Un (frs X.stack) fp H H' s.heap s'.heap:=J.base;have fC:H' C=none:=J.free;refine I.call' (ch:=fp) J.os ⟨λb o e n h3 h4=>(hb.2 b (nC b o e)).trans (B.keep b o e n h3 h4),λb o e n h3 h4=>?_,B.free,λb o e h4=>?_,B.tups,B.frzs,B.tbls⟩ (λb u e=>?_) J.bare λb h3=>⟨(hf b h3).2.2.2.1,(hf b h3).2.1,(hf b h3).2.2.2.2.1,(hf b h3).2.2.2.2.2⟩
 .let⟨sl,q⟩:=B.slot b o e n h3 h4;exact⟨sl,(hb.2 b (nC b o e)).trans q⟩
 .let⟨o',q⟩:=B.there b o e h4;exact⟨o',(hb.2 b (nC b o e)).trans q⟩
 .refine(J.hok b u e).stay (λc v hc q=>(hb.2 c λz=>?_).trans q) (λ_ q=>q) λ_ _ q=>q;subst z;rcases hc with z|z
  .rw[z,e]at fC
   cases fC
  .rw[z]at fC
   cases fC
end
def PTs(X:Cx)(ifs:List AS)(t:TT):Prop:=
 ∀(π:List (AI×CF)) (s:AJ) (σ:St) (H:Hp) (Q:Bool->Hp->Prop),Inv X π σ H s->t σ H Q->A0 (model X.prog X.w) X.A (ydo ifs X.env) (TP X π σ Q) X.xe s
def yf9:TT:=λ_ H Q=>Q AB H
def zmk{X:Cx}:PTs X [] yf9:=λ_ _ _ H _ I h=>wpAny_tests_nil ⟨H,I,h⟩
def zk6{X:Cx}{c:AS}{t:TT}(h:PT X c t):PTs X [c] t:=λπ s σ H Q I q=>wpAny_tests_one (h π s σ H Q I q)
def ycK(J:It)(D:AI)(g:TG)(ti:TT)(te:TE)(W:Nat->Nat->St->List V->Hp->Prop)(Q:Hp->Prop):Prop:=
 ∀i m σc ys H2,W i m σc ys H2->H2 D=AA (.lst ys)/\((J.stop i H2/\Q H2) \/ (J.go i H2/\ys.length<sizeLine/\∃N:St->List V->Hp->Prop,(∀σ' ys' H',N σ' ys' H'->∃m',m' < m/\W (i+1) m' σ' ys' H') /\
  ∀x H3,J.yld i H2 x H3->g x σc H3 λσ4 H4=>ti σ4 H4 λb H5=>if b=AB then te σ4 H5 λy H6=>H6 D=AA (.lst ys)/\N σ4 (ys++[y]) (upd H6 D (.lst (ys++[y])))else N σ4 ys H5))
def ydb(slots:List (Option Nat))(wi:TI)(g:TG)(ti:TT)(te:TE):TE:=λσ H Q=>wi σ H λJ H1=>∀D,H1 D=AD->∃W:Nat->Nat->St->List V->Hp->Prop,(∃m,W 0 m (inn slots σ) [] (upd H1 D (.lst [])))/\ycK J D g ti te W (Q (.ref D))
section
variable {X:Cx}{sc:Bk}{NC:List AN}{slots:List (Option Nat)}{elt tg iter:AS}{ifs:List AS}{pos:CT}{g:TG}{ti:TT}{te:TE}
def zjq(hc:X.calm=AB)(hg:∀j,PG (cxC X sc NC j) tg g)(ht:∀j,PTs (cxC X sc NC j) ifs ti)(he:∀j,PE (cxC X sc NC j) elt te){cj:CI}{it D:AI}{tn:Nat->BB->Prop}{J:It}
  {W:Nat->Nat->St->List V->Hp->Prop} {Q:Hp->Prop} {R:G6->AJ->Prop} {s:AJ} {σc:St} {ys:List V} {H:Hp} (T:Turn X.prog X.w X.K tg J cj.fp it tn)
  (I:Inv (cxC X sc NC cj) [] σc H s) (hf:∀b∈cj.fp,ybr (cxC X sc NC cj) [] H b) (st:tn 0 s.heap) {m:Nat} (w0:W 0 m σc ys H) (step:ycK J D g ti te W Q)
  (fin:∀σ' H' s',Inv (cxC X sc NC cj) [] σ' H' s'->Q H'->R (.ok .next) s'):
  codeAny (model X.prog X.w) X.A (.compLoop (.ListComp elt [⟨tg,iter,ifs,0⟩] sc pos) 0 (.ref it) (.ref D) (cxC X sc NC cj).env) R s:=by
 have stat:∀{H':Hp},(∀b∈cj.fp,H' b=AD)->∀b∈cj.fp,ybr (cxC X sc NC cj) [] H' b:=λhn b hb=>⟨hn b hb,(hf b hb).2⟩;refine zhG (λn s'=>∃i σ' ys' H',Inv (cxC X sc NC cj) [] σ' H' s'/\tn i s'.heap/\(∀b∈cj.fp,H' b=AD)/\W i n σ' ys' H') ?_ m ⟨0,σc,ys,H,I,st,λb hb=>(hf b hb).1,w0⟩
 rintro n s3 ⟨i,σ3,ys3,H3,I3,st3,fr3,w3⟩
 let⟨hD,q⟩:=step i n σ3 ys3 H3 w3;rcases q with⟨stop,qn⟩|⟨go,hz,N,hN,turn⟩
 .refine thn (T.done (cxC X sc NC cj) rfl rfl rfl hc i [] s3 σ3 H3 No I3 (stat fr3) st3 stop) λr s4 kq=>?_;let⟨hr,I4⟩:=kq;subst hr;exact fin σ3 H3 s4 I4 qn
 .refine thn (T.item (cxC X sc NC cj) rfl rfl rfl hc i [] s3 σ3 H3 No I3 (stat fr3) st3 go) λr s4 kq=>?_;let⟨u,hr,h4⟩:=kq;subst hr;refine thn h4 λ_ s5 kq=>?_;let⟨x,H5,I5,r5,y5,st5,fr5⟩:=kq;have I5':=I5.pinned (stat fr5) (T.obj _ _ st5);refine thn (hg cj _ s5 σ3 H5 x u _ I5' r5 (turn x H5 y5)) λ_ s6 kq=>?_;let⟨σ6,H6,I6,q6⟩:=kq;refine thn (ht cj _ s6 σ6 H6 _ I6 q6) λok s7 kq=>?_;let⟨H7,I7,q7⟩:=kq;have again:∀{σ8:St} {ys8:List V} {H8:Hp} {s8:AJ},Inv (cxC X sc NC cj) ([]++ybl cj.fp s5.heap) σ8 H8 s8->N σ8 ys8 H8->∃m,m<n/\∃i σ' ys' H',Inv (cxC X sc NC cj) [] σ' H' s8/\tn i s8.heap/\(∀b∈cj.fp,H' b=AD)/\W i m σ' ys' H':=λ{σ8 ys8 H8 s8} I8 n8=>by
   let⟨m',hm,w8⟩:=hN σ8 ys8 H8 n8;refine⟨m',hm,i+1,σ8,ys8,H8,I8.unpinned,T.keep _ _ _ st5 λb hb o e=>(I8.pin (b,o) (BF _ (BF _ (zbu hb e)))).1,λb hb=>?_,w8⟩;let⟨o,e,d⟩:=T.obj _ _ st5 b hb;exact(I8.pin (b,o) (BF _ (BF _ (zbu hb e)))).2.1
  cases ok with
  |false=>
   rw[if_neg BA]at q7 ⊢;exact again I7 q7
  |true=>
   rw[if_pos rfl]at q7 ⊢;refine thn (he cj _ s7 σ6 H7 _ I7 q7) λy s8 kq=>?_;let⟨v,H8,I8,r8,hD8,q8⟩:=kq;refine thn (zeY (X:=cxC X sc NC cj) _ s8 σ6 H8 (.ref D) [v] (.ref D) [y] (λz H'=>z=.non/\H'=upd H8 D (.lst (ys3++[v]))) I8 rfl (.cons r8 .nil) ⟨D,ys3,v,rfl,rfl,hD8,hz,rfl,rfl⟩) λz s9 kq=>?_;let⟨zv,H9,I9,r9,e1,e2⟩:=kq;subst e2;exact again I9 q8
def zgZ(hc:X.calm=AB)(O:yal X sc NC slots)(hg:∀j,PG (cxC X sc NC j) tg g)(ht:∀j,PTs (cxC X sc NC j) ifs ti)(he:∀j,PE (cxC X sc NC j) elt te){π:List (AI×CF)}{s:AJ}{σ:St}{H:Hp}(I:Inv X π σ H s)
  {it:AI} {fp:List AI} {tn:Nat->BB->Prop} {J:It} (T:Turn X.prog X.w X.K tg J fp it tn) (st:tn 0 s.heap) (hf:∀b∈fp,ybr X π H b) {Q:VK}
  (h:∀D,H D=AD->∃W:Nat->Nat->St->List V->Hp->Prop,(∃m,W 0 m (inn slots σ) [] (upd H D (.lst [])))/\ycK J D g ti te W (Q (.ref D))) {RR:AG->AI->G6->AJ->Prop}
  (fin:∀D C s' H',Q (.ref D) H'->(∃o m,s'.heap.get? C=AA o/\s'.heap.Ns C m/\∀v,o.data ≠ .cell v)->ybr X π H' C->(∀h2,C9 C s'.heap h2->Inv X π σ H' {s' with heap:=h2})->RR (.ref D) C (.ok .next) s'):
  A0 (model X.prog X.w) X.A (newList []) (λacc s3=>A0 (model X.prog X.w) X.A (newFunctionEnv sc X.env.globals (ydm sc X.env) [] X.env.qual AD .none (AA X.env)) (λcenv s4=>
   codeAny (model X.prog X.w) X.A (.compStart (.ListComp elt [⟨tg,iter,ifs,0⟩] sc pos) 0 (.ref it) acc {cenv with scope:=relabel sc X.env}) (RR acc cenv.locals) s4) X.xe s3) X.xe s:=by
 refine Bl (wpAny_newFunctionEnv O.nocell (by intro y hy;simp at hy) (λh1 hns1 hsb1=>?_) O.kind);dsimp only at hns1 hsb1 ⊢;have hDn:H s.heap.objs.size=none:=I.hok.fresh (AT _);let⟨W,⟨m,w0⟩,step⟩:=h s.heap.objs.size hDn;obtain⟨s3,hs3⟩:∃x:AJ,x=({s with heap:=s.heap.push {cls:=.type "list",dict:=AD,data:=.seq ([]:List AG).toArray} }:AJ):=⟨_,rfl⟩;have e3:s3.heap=s.heap.push {cls:=.type "list",dict:=AD,data:=.seq ([]:List AG).toArray}:=by rw[hs3]
 rw[<-e3]at hns1 hsb1;have hp3:∀b o,s.heap.get? b=AA o->s3.heap.get? b=AA o:=λb o e=>by
  rw[e3];exact AO _ e
 have I3:Inv X π σ (upd H s.heap.objs.size (.lst [])) s3:=by
  have q:=I.laid (a:=s.heap.objs.size) (o:=.lst []) (h':=s3.heap) (t':=s.toks) hp3 (AT _) ⟨DB _,[],_,.nil,by rw[e3];exact AZ _ rfl⟩;rw[hs3]at q ⊢;exact q
 have hf3:∀b∈fp,ybr X π (upd H s.heap.objs.size (.lst [])) b:=λb hb=>by
  let⟨o,e,_⟩:=T.obj _ _ st b hb;refine⟨?_,(hf b hb).2⟩;rw[zj (Ah (AV e))];exact(hf b hb).1
 have st3:tn 0 s3.heap:=T.keep _ _ _ st λb _ o e=>hp3 b o e;have hob:∀b∈fp,∃o,s3.heap.get? b=AA o:=λb hb=>by
  let⟨o,e,_⟩:=T.obj _ _ st3 b hb;exact⟨o,e⟩
 have hk1:∀b o,s3.heap.get? b=AA o->h1.get? b=AA o:=λb o e=>hsb1.extBut b o (Ah (AV e)) (AO _ e);have J1:=zg7 (t':=s3.toks+([]:List (AN×AG)).length) I3 O hf3 hob hns1 hk1;have hfc:∀b∈fp,ybr (cxC X sc NC ⟨s3.heap.objs.size,s3,upd H s.heap.objs.size (.lst []),fp⟩) [] (upd H s.heap.objs.size (.lst [])) b:=λb hb=>
  ⟨(hf3 b hb).1,(J1.ok.exf b hb).1,J1.ok.exfs b hb,.inl hb,(J1.ok.exf b hb).2,λp hp=>nomatch hp⟩
 have loop:codeAny (model X.prog X.w) X.A (.compLoop (.ListComp elt [⟨tg,iter,ifs,0⟩] sc pos) 0 (.ref it) (.ref s.heap.objs.size) (cxC X sc NC ⟨s3.heap.objs.size,s3,upd H s.heap.objs.size (.lst []),fp⟩).env) (RR (.ref s.heap.objs.size) s3.heap.objs.size)
   {s3 with heap:=h1,toks:=s3.toks+([]:List (AN×AG)).length}:=by
  refine zjq (D:=s.heap.objs.size) (Q:=Q (.ref s.heap.objs.size)) hc hg ht he T J1 hfc (T.keep _ _ _ st3 λb _ o e=>hk1 b o e) w0 step λσ' H' s' J' q'=>?_;have fC:H' s3.heap.objs.size=none:=J'.free;refine fin _ _ s' H' q' ?_ (I3.fpOk (AT _) fC) λh2 hb=>zgV I3 hf3 (AT _) J' hb;let⟨m',hn',_⟩:=J'.loc;let⟨o,es,ep,ho,hd,r⟩:=id hn';exact⟨o,m',ho,hn',λv z=>by rw[hd]at z;cases z⟩
 have self:=λ(RQ:AG->AJ->Prop) (EE:AG->AJ->Prop)=>T.self X.A 0 {s3 with heap:=h1,toks:=s3.toks+([]:List (AN×AG)).length} RQ EE (T.keep _ _ _ st3 λb _ o e=>hk1 b o e);subst hs3;exact codeAny_compStart_list loop (self _ _ loop)
variable {wi:TI}
def zlm(hc:X.calm=AB)(O:yal X sc NC slots)(hi:PI X tg iter wi)(hg:∀j,PG (cxC X sc NC j) tg g)(ht:∀j,PTs (cxC X sc NC j) ifs ti)(he:∀j,PE (cxC X sc NC j) elt te)
  (hs:∀x,foldedSetIterable iter X.env x=pure x:=by intro _;rfl):PE X (.ListComp elt [⟨tg,iter,ifs,0⟩] sc pos) (ydb slots wi g ti te):=by
 intro π s σ H Q I h;rw[eval_ListComp];refine wpAny_comprehension_free (use:=AD) rfl hs (zdk (O.cells I.ok)) O.kind O.names (thn (hi π s σ H _ I h) λv s1 h1=>thn h1 λitv s2 h2=>?_);let⟨it,fp,tn,J,H2,rfl,I2,T,st2,f2,q2⟩:=h2;refine zgZ hc O hg ht he I2 T st2 f2 q2 λD C s' H' q' ⟨o,m,ho,hn,_⟩ _ out=>⟨m,hn,λh2 hb=>⟨.ref D,H',out h2 hb,rfl,q'⟩⟩
end
def zeu:∀{bs:List Bool} {us:List AG},Vals (bs.map V.bl) us->LSm.BoolsAre us bs
 |[],_,.nil=>.nil
 |b::bs,_,.cons r q=>by
  cases (show _=Dq b from r)
  exact .cons b (zeu q)
section
variable {X:Cx}
def ygR(K:AF):List V->Hp->VK->Prop:=λxs H Q=>∃(l:AI) (bs:List Bool),xs=[.ref l]/\SqL K H l (bs.map V.bl)/\Q (.bl (bs.all id)) H
def zjZ(hc:X.calm=AB):yae X (.builtin "all") (ygR X.K):=by
 intro π s σ H xs us Q I r h;let⟨l,bs,rfl,hq,q⟩:=h;let⟨u,rfl,ru⟩:=Vals.one r
 cases (show u=Ad l from ru)
 let⟨its,rv,pl,hz⟩:=I.list hq;have hb:=zeu rv;have hl:=pl.isList;have hlt:l<s.heap.objs.size:=by
  let⟨_,e,_⟩:=hl;exact AV e
 refine call_all_walk (EM hl ?_);refine⟨s.heap.objs.size,[s.heap.objs.size,l],[s.heap.objs.size],its.toArray.size,_,_,λi=>(bs[i]?).getD AB,rfl,HP (A:=X.A.in1) (I.ok.hd hc) _ l (Ah hlt) its.toArray,⟨⟨_,AZ _ rfl,rfl,rfl⟩,hl.push _⟩,λi v s' Q' E' hP hQ=>?_,λh' tk hk=>?_⟩
 .let⟨b,e,rfl⟩:=hb.get i v (by simpa using hP);erw[e,B6]at hQ;exact BW hQ
 .have e:((C8 its.toArray.size).all λi=>(bs[i]?).getD AB)=bs.all id:=by
   rw[AY,hb.length];exact LSm.range_all bs
  rw[e];exact⟨.bl _,H,I.kept (t':=tk) (FV hk),rfl,q⟩
end
section
variable {X:Cx}{π:List (AI×CF)}{σ:St}{H:Hp}{s:AJ}
end
section
variable {X:Cx}{a:AS}{ta:TE}{K:AF}
end
end L2
namespace L2
end L2
namespace L2
open PySem PySem.Spec PyProof.Rows
def CX1(P:A3)(w:Ag):CXT:=λouter H s E e s'=>∃(a:AI) (cls a0:AG) (H':Hp) (B:BB),e=.ref a/\s'.os=s.os/\D0 s'.gens/\Gv B outer a cls a0 s'.heap/\HOk P w H' s'.heap/\Un (frs outer) [] H H' s.heap s'.heap /\
 (∀b o,s.heap.get? b=AA o->H b=AD->b∉frs outer->B.get? b=AA o)/\(∀b u,H' b=AA u->∃o,B.get? b=AA o)/\(∀b o,s.heap.get? b=AA o->b∉frs outer->∃o',B.get? b=AA o')/\E cls AD H'
theorem yR.there{P:A3}{w:Ag}{H:Hp}{h:BB}{a:AI}{o:HO}(x:yR P w H h a o):∃ob,h.get? a=AA ob:=by
 induction o with
 |lst xs=>let⟨_,_,_,_,e⟩:=x;exact⟨_,e⟩
 |tup xs=>let⟨_,_,_,ob,e,_⟩:=x;exact⟨ob,e⟩
 |dK kvs=>let⟨_,_,_,_,ob,_,_,e,_⟩:=x;exact⟨ob,e⟩
 |dT kvs=>let⟨_,_,_,_,ob,_,_,e,_⟩:=x;exact⟨ob,e⟩
 |set S n=>let⟨ob,_,_,_,e,_⟩:=x;exact⟨ob,e⟩
 |ins C dx fs=>let⟨_,_,_,e,_⟩:=x;exact⟨_,e⟩
 |own y=>exact x
 |xd fs=>let⟨_,⟨ob,_,_,e,_⟩,_⟩:=x;exact⟨ob,e⟩
 |rng lo hi=>let⟨_,_,_,e⟩:=x;exact⟨_,e⟩
 |frz ob u ih=>exact⟨ob,x.1⟩
 |tbl ps=>exact⟨_,x⟩
 |met f y=>exact⟨_,x⟩
 |ext φ=>exact x.2.1
theorem HOk.inB{P:A3}{w:Ag}{H:Hp}{h h' B:BB}(ok:HOk P w H h)(hB:B.StaysIn h)(hB':B.StaysIn h')(tr:∀b u,H b=AA u->∃o,B.get? b=AA o):HOk P w H h':=λa o e=>
 (ok a o e).stay (λb u hb q=>by
  have hb':∃o,B.get? b=AA o:=by
   rcases hb with z|z
   .rw[z];exact tr a o e
   .exact tr b _ z
  let⟨o',q'⟩:=hb';have:=hB b o' q';rw[q]at this
  cases this
  exact hB' b u q') (λ_ q=>q) λ_ _ q=>q
section
variable {P:A3}{w:Ag}{K:AF}{mg:AN->Option AG}{base:BB}{N:List AN}{qual:AN}{scope:Bk}{f:AI}{cd:AG}{A:Ar}{outer:List Env}{s₀:AJ}{H₀:Hp}{E:XK}
 {π:List (AI×CF)} {σ:St} {H:Hp} {s:AJ}
def zih{h':BB}{e:AI}{cls:AG}{vs:List AG}(I:Inv (yaV (CX1 P w) P w K mg base N qual scope f cd A outer s₀ H₀ E) π σ H s)(hx:Gb s.heap h' e cls vs)(hE:E cls AD H):
  (yaV (CX1 P w) P w K mg base N qual scope f cd A outer s₀ H₀ E).xe (.ref e) {s with heap:=h'}:=by
 have stk:s.heap.FunFrames base (envOfC qual scope s₀.heap.objs.size f cd::outer):=I.stack;have hst:∀b,b∈frs (envOfC qual scope s₀.heap.objs.size f cd::outer)->b=s₀.heap.objs.size \/ b∈frs outer:=λb hb=>by
  have hb':b∈s₀.heap.objs.size::frs outer:=hb;exact AR.mp hb'
 have inB:∀b o,s.heap.get? b=AA o->b∉frs (envOfC qual scope s₀.heap.objs.size f cd::outer)->(Cw s.heap (frs (envOfC qual scope s₀.heap.objs.size f cd::outer))).get? b=AA o:=λb o q n=>FL _ q n;have hB:(Cw s.heap (frs (envOfC qual scope s₀.heap.objs.size f cd::outer))).StaysIn s.heap:=λb o q=>F2 _ q;have bse:Un (frs outer) [] H₀ H s₀.heap s.heap:=I.base;have lt:∀b o,s₀.heap.get? b=AA o->b≠s₀.heap.objs.size:=λb o q=>Ah (AV q);have tr:∀b u,H b=AA u->∃o,(Cw s.heap (frs (envOfC qual scope s₀.heap.objs.size f cd::outer))).get? b=AA o:=λb u q=>by
  let⟨o,ho⟩:=yR.there (I.hok b u q);exact⟨o,inB b o ho λhb=>by
   have:=I.stkFree b hb;rw[q]at this
   cases this⟩
 refine wpAny_leaves_madeW (base:=Cw s.heap (frs (envOfC qual scope s₀.heap.objs.size f cd::outer))) (h:=s.heap) I.ok.frames rfl hB (PySem.W.funFrames_hide stk λenv he a ha=>Du.mpr ⟨env,he,ha⟩) hx λh'' t fl tu tn up=>?_;have up':s.heap.UpToSlots h'':=(Gn hx.keeps).trans up;refine⟨e,cls,_,H,_,rfl,I.os,I.bare,fl,HOk.inB I.hok hB fl.1 tr,⟨λb o q n hb _=>?_,λb o q n hb _=>?_,bse.free,λb o q _=>?_,bse.tups,bse.frzs,bse.tbls⟩,λb o q n hb=>?_,tr,λb o q hb=>?_,hE⟩
 .refine fl.1 b o (inB b o (bse.keep b o q n hb (by simp)) λz=>?_);rcases hst b z with z|z
  .exact lt b o q z
  .exact hb z
 .let⟨sl,q1⟩:=bse.slot b o q n hb (by simp);let⟨_,o',ho',hd⟩:=CP stk (show b∈DJ (λ(z:Env)=>z.frame) _ from AQ _ hb);let⟨sl',q2⟩:=up' b _ q1 (by rw[ho']at q1;cases q1;exact hd);exact⟨sl',q2⟩
 .let⟨o',q1⟩:=bse.there b o q (by simp)
  by_cases hb:b∈frs (envOfC qual scope s₀.heap.objs.size f cd::outer)
  .let⟨_,o2,ho',hd⟩:=CP stk hb;let⟨sl',q2⟩:=up' b _ ho' hd;exact⟨_,q2⟩
  .exact⟨o',fl.1 b o' (inB b o' q1 hb)⟩
 .refine inB b o (bse.keep b o q n hb (by simp)) λz=>?_;rcases hst b z with z|z
  .exact lt b o q z
  .exact hb z
 .let⟨o',q1⟩:=bse.there b o q (by simp);refine⟨o',inB b o' q1 λz=>?_⟩;rcases hst b z with z|z
  .exact lt b o q z
  .exact hb z
def zp4:ybD (CX1 P w) (yaV (CX1 P w) P w K mg base N qual scope f cd A outer s₀ H₀ E) E:=by
 intro π σ H s e s' I h;let⟨a,cls,a0,H',B,rfl,os,bare,fl,hok,un,hB,tr,hT,hE⟩:=h;have bse:Un (frs outer) [] H₀ H s₀.heap s.heap:=I.base;have lt:∀b o,s₀.heap.get? b=AA o->b≠s₀.heap.objs.size:=λb o q=>Ah (AV q);have hst:∀b,b∈frs (envOfC qual scope s₀.heap.objs.size f cd::outer)->b=s₀.heap.objs.size \/ b∈frs outer:=λb hb=>by
  have hb':b∈s₀.heap.objs.size::frs outer:=hb;exact AR.mp hb'
 have un':Un (frs (envOfC qual scope s₀.heap.objs.size f cd::outer)) [] H H' s.heap s'.heap:=un;have kB:∀b o,s₀.heap.get? b=AA o->H₀ b=AD->b∉frs outer->B.get? b=AA o:=λb o q n hb=>hB b o (bse.keep b o q n hb (by simp)) (bse.free b o q n (by simp)) λz=>by
  rcases hst b z with z|z
  .exact lt b o q z
  .exact hb z
 have kT:∀b o,s₀.heap.get? b=AA o->b∉frs outer->∃o',B.get? b=AA o':=λb o q hb=>by
  let⟨o',q1⟩:=bse.there b o q (by simp);refine hT b o' q1 λz=>?_;rcases hst b z with z|z
  .exact lt b o q z
  .exact hb z
 refine wpAny_leaves_onW I.ok.frames rfl fl λh'' fl' up=>?_;refine⟨a,cls,a0,H',B,rfl,os.trans I.os,bare,fl',HOk.inB hok fl.1 fl'.1 tr,⟨λb o q n hb _=>fl'.1 b o (kB b o q n hb),λb o q n hb _=>?_,λb o q n _=>?_,λb o q _=>?_,λb xs q=>un'.tups b xs (bse.tups b xs q),λb o u q=>un'.frzs b o u (bse.frzs b o u q),λb ps q=>?_⟩,kB,tr,kT,hE⟩
 .let⟨sl,q1⟩:=bse.slot b o q n hb (by simp);have n1:=bse.free b o q n (by simp);let⟨sl1,q2⟩:=un'.slot b _ q1 n1 (AQ _ hb) (by simp);let⟨_,o',ho',hd⟩:=CP fl.2.2.1 (show b∈DJ (λ(z:Env)=>z.frame) _ from AQ _ hb);let⟨sl',q3⟩:=up b _ q2 (by rw[ho']at q2;cases q2;exact hd);exact⟨sl',q3⟩
 .let⟨o',q1⟩:=bse.there b o q (by simp);exact un'.free b o' q1 (bse.free b o q n (by simp)) (by simp)
 .let⟨o',q1⟩:=bse.there b o q (by simp);let⟨o2,q2⟩:=un'.there b o' q1 (by simp)
  by_cases hb:b∈frs outer
  .let⟨_,o3,ho3,hd⟩:=CP fl.2.2.1 (show b∈DJ (λ(z:Env)=>z.frame) _ from AQ _ hb);let⟨sl',q3⟩:=up b _ ho3 hd;exact⟨_,q3⟩
  .let⟨o4,q4⟩:=kT b o q hb;exact⟨o4,fl'.1 b o4 q4⟩
 .let⟨m1,e1⟩:=bse.tbls b ps q;let⟨m2,e2⟩:=un'.tbls b _ e1;exact⟨m1++m2,by rw[e2,Dr]⟩
end
section
variable {X:Cx}{e:AS}{es:List AS}{te:TE}
end
section
variable {X:Cx}{e:AS}{es:List AS}{t:TA}{E:XK}
end
section
variable {pg:A3}{wd:Ag}{A:Ar}{E:AG->AJ->Prop}{h:BB}{g:Array GenState}{d:Drawn}{t:Nat}{os:OsState}{a C:AI}{o:CF}{K:AF}
end
def ygI(a C:AI):BB->Prop:=λh=>∃o,h.get? a=AA o/\o.cls=.ref C
section
variable {X:Cx}
end
section
variable {X:Cx}{π:List (AI×CF)}{σ:St}{H:Hp}{s:AJ}
end
section
variable {X:Cx}{π:List (AI×CF)}{σ:St}{H:Hp}{s:AJ}
end
section
variable {X:Cx}{body suite:List Bz}{b₀:Bz}{x n:AN}{np hpos pos:CT}{tb:XK->TS}{ts:TS}{W:AI}{i:Nat}
end
structure ydi(k:Nat)(A:Ar):Prop where
 dp:A.depth+3*k+5<recursionLimit
 un:A.units+16*k+200<cLine
section
variable {P:A3}{w:Ag}{K:AF}{mg:AN->Option AG}{base:BB}
end
section
variable {X:Cx}{k:Nat}{f:AI}{fd:Az}{ps:List AN}{sp:Sp}{x:AN}{p pos:CT}{e:AS}{es:List AS}{t:TA}
end
section
variable {P:A3}{w:Ag}{K:AF}{mg:AN->Option AG}{base:BB}
theorem own1{N:List AN}{qual:AN}{scope:Bk}{f:AI}{cd:AG}{A:Ar}{outer:List Env}{s:AJ}{H:Hp}{E:XK}{CX:CXT}:
  EV (model (yaV CX P w K mg base N qual scope f cd A outer s H E).prog (yaV CX P w K mg base N qual scope f cd A outer s H E).w) (yaV CX P w K mg base N qual scope f cd A outer s H E).A (yaV CX P w K mg base N qual scope f cd A outer s H E).env (yaV CX P w K mg base N qual scope f cd A outer s H E).xe:=
 PassesOwn.leaving
end
section
variable {X:Cx}
end
section
variable {X:Cx}
def yfp(K:AF):List V->Hp->VK->Prop:=λxs H Q=>∃(l:AI) (ns:List Int),xs=[.ref l]/\SqL K H l (ns.map V.int)/\0<ns.length/\∀M,M∈ns->(∀a,a∈ns->a<=M)->Q (.int M) H
def ziP(hc:X.calm=AB):yae X (.builtin "max") (yfp X.K):=by
 intro π s σ H xs us Q I r h;let⟨l,ns,rfl,hq,hne,q⟩:=h;let⟨u,rfl,ru⟩:=Vals.one r
 cases (show u=Ad l from ru)
 let⟨its,rv,pl,hz⟩:=I.list hq;have hi:FK its ns:=zgU rv;let⟨ys,e⟩:=hi.allInts.items;have hns:ns=ys.toList.map (·.1):=by rw[<-hi.numsOf,<-nums_intItems,<-e]
 have hsz:0<ys.size:=by
  rw[hns,BD,CG]at hne;exact hne
 have hl:=pl.isList;rw[e]at hl;refine max_intList (I.ok.hd hc) hl hsz λv h' tk hv hk=>?_;let⟨t,rfl⟩:=intItems_at hv;let⟨h1,h2⟩:=argBest_gt (numAt ys) (ys.size-1);refine⟨.int _,H,I.kept (t':=tk) hk,⟨t,rfl⟩,q _ ?_ λa ha=>?_⟩
 .rw[hns,numAt_eq];exact getD_mem (by rw[BD,CG];lia)
 .rw[hns]at ha;let⟨j,hj,rfl⟩:=mem_getD ha;rw[BD,CG]at hj;rw[<-numAt_eq];exact h2 j ∅
end
section
variable {κ:Type}[DecidableEq κ]
def ybE(kvs:List (κ×V))(k:κ):Option V:=(kvs.find? λkv=>decide (kv.1=k)).map (·.2)
def putK(kvs:List (κ×V))(k:κ)(v:V):List (κ×V):=
 if (kvs.any λkv=>decide (kv.1=k))=AB then kvs.map (λkv=>if kv.1=k then(kv.1,v)else kv)else kvs++[(k,v)]
def zbT{p:κ×V}{r:List (κ×V)}{k:κ}(e:p.1=k):ybE (p::r) k=AA p.2:=by simp[ybE,CC,e]
def zbU{p:κ×V}{r:List (κ×V)}{k:κ}(e:¬p.1=k):ybE (p::r) k=ybE r k:=by simp[ybE,CC,e]
def zgj(k:κ):∀kvs:List (κ×V),(kvs.any λkv=>decide (kv.1=k))=(ybE kvs k).isSome
 |[]=>rfl
 |p::r=>by
  rw[BL]
  by_cases e:p.1=k
  .simp only[zbT e,decide_eq_true e,Eh,Option.isSome_some]
  .rw[zbU e,decide_eq_false e,FW];exact zgj k r
def zdw(kvs:List (κ×V))(k:κ)(v:V):(putK kvs k v).length<=kvs.length+1:=by
 unfold putK;split
 .rw[BD];lia
 .rw[A8,AX,Bd];lia
theorem ybs.isSome_eq{o:Option V}{u:Option AG}(r:ybs o u):o.isSome=u.isSome:=by
 cases o with
 |none=>cases u with
  |none=>rfl
  |some _=>exact(show False from r).elim
 |some _=>cases u with
  |none=>exact(show False from r).elim
  |some _=>rfl
theorem ybs.getD{o:Option V}{u:Option AG}{d:V}{d':AG}(r:ybs o u)(rd:RelV d d'):RelV (o.getD d) (u.getD d'):=by
 cases o with
 |none=>cases u with
  |none=>exact rd
  |some _=>exact(show False from r).elim
 |some _=>cases u with
  |none=>exact(show False from r).elim
  |some _=>exact r
theorem KV.val{kvs:List (κ×V)}{vs:List (κ×AG)}(r:KV kvs vs)(k:κ):ybs (ybE kvs k) (valueAt vs k):=by
 unfold KV at r
 induction r with
 |nil=>exact Ca
 |@cons p q ps qs h t ih=>
  let⟨h1,h2⟩:=h
  by_cases e:p.1=k
  .have e':q.1=k:=h1.symm.trans e;have b:valueAt (q::qs) k=AA q.2:=by simp[valueAt,CC,e']
   rw[zbT e,b];exact h2
  .have e':¬q.1=k:=λz=>e (h1.trans z);have b:valueAt (q::qs) k=valueAt qs k:=by simp[valueAt,CC,e']
   rw[zbU e,b];exact ih
theorem KV.any{kvs:List (κ×V)}{vs:List (κ×AG)}(r:KV kvs vs)(k:κ):(kvs.any λkv=>decide (kv.1=k))=vs.any λkv=>decide (kv.1=k):=by
 unfold KV at r
 induction r with
 |nil=>rfl
 |cons h t ih=>rw[BL,BL,ih,h.1]
theorem KV.repl{kvs:List (κ×V)}{vs:List (κ×AG)}(r:KV kvs vs)(k:κ){y:V}{u:AG}(ry:RelV y u):
  KV (kvs.map λkv=>if kv.1=k then(kv.1,y)else kv) (vs.map λkv=>if kv.1=k then(kv.1,u)else kv):=by
 unfold KV at r ⊢
 induction r with
 |nil=>exact .nil
 |@cons p q ps qs h t ih=>
  rw[AL,AL];refine .cons ?_ ih;let⟨h1,h2⟩:=h
  by_cases e:p.1=k
  .rw[if_pos e,if_pos (h1.symm.trans e)];exact⟨h1,ry⟩
  .rw[if_neg e,if_neg (λz=>e (h1.trans z))];exact⟨h1,h2⟩
theorem KV.put{kvs:List (κ×V)}{vs:List (κ×AG)}(r:KV kvs vs)(k:κ){y:V}{u:AG}(ry:RelV y u):KV (putK kvs k y) (stored vs k u):=by
 unfold putK stored;rw[r.any k]
 by_cases e:(vs.any λkv=>decide (kv.1=k))=AB
 .rw[if_pos e,if_pos e];exact r.repl k ry
 .rw[if_neg e,if_neg e];exact HJ r ⟨rfl,ry⟩
theorem KV.length{kvs:List (κ×V)}{vs:List (κ×AG)}(r:KV kvs vs):kvs.length=vs.length:=ER r
end
def zlX{P:A3}{w:Ag}{k:Key}{u:AG}(r:RelV (kV k) u):(yL P w).is k u=true:=by
 cases k with
 |inl i=>let⟨t,e⟩:=(show ∃t,u=EU i t from r);subst e;exact zfO P w i t
 |inr x=>let⟨t,e⟩:=(show ∃t,u=Fv x t from r);subst e;exact zfD P w x t
def ze0{P:A3}{w:Ag}:∀{ks:List Key} {us:List AG},Vals (ks.map kV) us->ItemsAre (yL P w) ks us
 |[],_,r=>by rw[Ai]at r;cases r;exact .nil
 |k::ks,_,r=>by
  rw[AL]at r
  cases r with
  |cons h t=>exact .cons (zlX h) (ze0 t)
abbrev KT(H:Hp):List (List Key×V)->List (List Key×AI×AG)->Prop:=G2 λp q=>p.1=q.1/\H q.2.1=AA (.tup (p.1.map kV))/\RelV p.2 q.2.2
theorem KT.val{H:Hp}{kvs:List (List Key×V)}{xs:List (List Key×AI×AG)}(r:KT H kvs xs)(k:List Key):ybs (ybE kvs k) ((atKey xs k).map (·.2)):=by
 induction r with
 |nil=>exact Ca
 |@cons p q ps qs h t ih=>
  let⟨h1,_,h2⟩:=h
  by_cases e:p.1=k
  .have e':q.1=k:=h1.symm.trans e;have b:atKey (q::qs) k=AA q.2:=by simp[atKey,CC,e']
   rw[zbT e,b];exact h2
  .have e':¬q.1=k:=λz=>e (h1.trans z);have b:atKey (q::qs) k=atKey qs k:=by simp[atKey,CC,e']
   rw[zbU e,b];exact ih
theorem KT.repl{H:Hp}{kvs:List (List Key×V)}{xs:List (List Key×AI×AG)}(r:KT H kvs xs)(k:List Key){y:V}{u:AG}(ry:RelV y u):
  KT H (kvs.map λkv=>if kv.1=k then(kv.1,y)else kv) (xs.map (putAt k u)):=by
 induction r with
 |nil=>exact .nil
 |@cons p q ps qs h t ih=>
  rw[AL,AL];refine .cons ?_ ih;let⟨h1,h2,h3⟩:=h;unfold putAt
  by_cases e:p.1=k
  .rw[if_pos e,if_pos (h1.symm.trans e)];exact⟨h1,h2,ry⟩
  .rw[if_neg e,if_neg (λz=>e (h1.trans z))];exact⟨h1,h2,h3⟩
theorem KT.put{H:Hp}{kvs:List (List Key×V)}{xs:List (List Key×AI×AG)}(r:KT H kvs xs)(k:List Key){b:AI}{y:V}{u:AG}(hb:H b=AA (.tup (k.map kV)))(ry:RelV y u):
  KT H (putK kvs k y) (storedH xs k b u):=by
 have e:(kvs.any λkv=>decide (kv.1=k))=(atKey xs k).isSome:=by
  rw[zgj,(r.val k).isSome_eq,Option.isSome_map]
 unfold putK storedH;rw[e]
 by_cases q:(atKey xs k).isSome=AB
 .rw[if_pos q,if_pos q];exact r.repl k ry
 .rw[if_neg q,if_neg q];exact HJ r ⟨rfl,hb,ry⟩
theorem KT.keeps{H H':Hp}{kvs:List (List Key×V)}{xs:List (List Key×AI×AG)}(r:KT H kvs xs)(ht:∀b ys,H b=AA (.tup ys)->H' b=AA (.tup ys)):KT H' kvs xs:=
 Paired.mapP r λ_ _ z=>⟨z.1,ht _ _ z.2.1,z.2.2⟩
section
variable {P:A3}{w:Ag}{H:Hp}{h:BB}{a:AI}
def zoP{u:HO}(ok:HOk P w H h)(e:Rd H a u):yR P w H h a u:=e.ok ok
def zmd{kvs:List (Key×V)}(ok:HOk P w H h)(e:Rd H a (.dK kvs)):kvs.length<=sizeLine/\(a==sysModules)=AC/\∃vs,KV kvs vs/\h.DictOf (yL P w) a vs:=
 show yR P w H h a (.dK kvs)from zoP ok e
def zo4{kvs:List (Key×V)}(ok:HOk P w H h)(e:H a=AA (.dK kvs)):kvs.length<=sizeLine/\(a==sysModules)=AC/\∃vs,KV kvs vs/\h.DictOf (yL P w) a vs:=zmd ok (.inl e)
def zhZ{ks:List Key}(ok:HOk P w H h)(e:H a=AA (.tup (ks.map kV))):(tupleKind (yL P w)).is h ks a:=by
 let⟨_,its,r,o,h1,h2,n,h3⟩:=(show yR P w H h a (.tup (ks.map kV))from ok a _ e);exact⟨o,its.toArray,n,h1,h2,h3,by simpa using ze0 r⟩
def zll{kvs:List (List Key×V)}(ok:HOk P w H h)(e:Rd H a (.dT kvs)):kvs.length<=sizeLine/\(a==sysModules)=AC /\
  ∃xs,KT H kvs xs/\h.DictOfH (tupleKind (yL P w)) a xs:=by
 let⟨z,y,xs,r,o,es,ep,h1,h2,h3,h4,h5⟩:=(show yR P w H h a (.dT kvs)from zoP ok e);refine⟨z,y,xs,r,o,es,ep,h1,h2,h3,h4,λx hx=>?_,h5⟩;have all:∀{l:List (List Key×V)} {m:List (List Key×AI×AG)},KT H l m->∀x∈m,(tupleKind (yL P w)).is h x.1 x.2.1:=by
  intro l m q
  induction q with
  |nil=>intro x hx;exact nomatch hx
  |@cons p q ps qs hq t ih=>
   intro x hx;rcases AR.mp hx with e|hx
   .subst e;exact zhZ ok (by rw[<-hq.1];exact hq.2.1)
   .exact ih x hx
 exact all r x hx
def zo5{kvs:List (List Key×V)}(ok:HOk P w H h)(e:H a=AA (.dT kvs)):kvs.length<=sizeLine/\(a==sysModules)=AC /\
  ∃xs,KT H kvs xs/\h.DictOfH (tupleKind (yL P w)) a xs:=zll ok (.inl e)
end
def ye2(H:Hp)(a:AI)(y:V)(r:Option V):Prop:=
 (∃kvs k,Rd H a (.dK kvs)/\y=kV k/\r=ybE kvs k) \/ ∃kvs k b,Rd H a (.dT kvs)/\y=.ref b/\H b=AA (.tup (k.map kV))/\r=ybE kvs k
def yeV(H:Hp)(a:AI)(y v:V)(H':Hp):Prop:=
 (∃kvs k,H a=AA (.dK kvs)/\y=kV k/\kvs.length<sizeLine/\H'=upd H a (.dK (putK kvs k v))) \/
 ∃kvs k b,H a=AA (.dT kvs)/\y=.ref b/\H b=AA (.tup (k.map kV))/\kvs.length<sizeLine/\H'=upd H a (.dT (putK kvs k v))
section
variable {X:Cx}{π:List (AI×CF)}{σ:St}{H:Hp}{s:AJ}{a:AI}{y v:V}{u r:AG}{o:Option V}{A:Ar}{E:AG->AJ->Prop}
theorem Inv.big(I:Inv X π σ H s):sysModules<s.heap.objs.size:=by
 have h:mainGlobals<s.heap.objs.size:=(I.mod.glob.keeps I.bk).lt;exact Nat.lt_trans ⋯ h
def ziG{h':BB}{t':Nat}{ob:HO}(I:Inv X π σ H s)(mu:Mut (H a))(hs:C9 a s.heap h')(he:∃q,h'.get? a=AA q)(new:yR X.prog X.w (upd H a ob) h' a ob):
  Inv X π σ (upd H a ob) {s with heap:=h',toks:=t'}:=
 I.write (x:=a) (e:=a) mu (.inl rfl) (λb q hb z=>(hs.2 b hb).trans z) he new
def zoy{P:A3}{w:Ag}{H':Hp}{h':BB}{kvs:List (Key×V)}{vs:List (Key×AG)}(z:kvs.length<=sizeLine)(hd:(a==sysModules)=AC)(rel:KV kvs vs)(dd:h'.DictOf (yL P w) a vs):
  yR P w H' h' a (.dK kvs):=⟨z,hd,vs,rel,dd⟩
def zhe{H':Hp}{Q:Unit->AJ->Prop}(hu:A.units+1<cLine)(I:Inv X π σ H s)(g:yeV H a y v H')(ry:RelV y u)(rv:RelV v r)(h:∀s',Inv X π σ H' s'->Q () s'):
  A0 (model X.prog X.w) A (setItem (.ref a) u r) Q E s:=by
 rcases g with⟨kvs,k,e,ey,l,eH⟩|⟨kvs,k,b,e,ey,eb,l,eH⟩
 .subst ey eH;let⟨z,hd,vs,rel,dd⟩:=zo4 I.hok e;have hz:vs.length<=sizeLine:=by rw[<-rel.length];exact z
  have hl:(putK kvs k v).length<=sizeLine:=by have:=zdw kvs k v;lia
  refine wpAny_setItem_pairs (hsz:=hz) (zlX ry) dd λh' dd' hs=>h _ ?_;have he:∃q,h'.get? a=AA q:=let ⟨q,_,_,hq,_⟩:=dd';⟨q,hq⟩
  exact ziG I (by rw[e];exact Ca) hs he (zoy hl hd (rel.put k rv) dd')
 .subst ey eH
  cases (show u=Ad b from ry)
  let⟨z,hd,xs,rel,dd⟩:=zo5 I.hok e;have hz:xs.length<=sizeLine:=by rw[<-ER rel];exact z
  have hl:(putK kvs k v).length<=sizeLine:=by have:=zdw kvs k v;lia
  refine wpAny_setItem_heap (hsz:=hz) (F5 hu) (zhZ I.hok eb) dd λh' dd' hs=>h _ ?_;let⟨q,es,ep,hq,h2,h3,h4,_,h5⟩:=dd';refine ziG I (by rw[e];exact Ca) hs ⟨q,hq⟩ ⟨hl,hd,_,(rel.put k eb rv).keeps λc ys ec=>?_,q,es,ep,hq,h2,h3,h4,h5⟩;rw[zj (zo3 ec e (λz=>nomatch z))];exact ec
end
section
variable {X:Cx}{π:List (AI×CF)}{σ:St}{H:Hp}{s:AJ}{a:AI}{kvs:List (Key×V)}{k:Key}{u:AG}{A:Ar}{E:AG->AJ->Prop}
end
def ycU(i:AS):Prop:=∀ov iv,subscripted i AC ov iv=operate [ov,iv] (getItem ov iv)
def zij{prog:A3}{w:Ag}{A:Ar}{E:AG->AJ->Prop}{s:AJ}{env:Env}{value slice:AS}{pos:CT}{T id:String}{Q:AG->AJ->Prop}
  (hl:typeLookup (.type T) "__getitem__"=pure (AA (.builtin id))) (hs:ycU slice)
  (h:A0 (model prog w) A (eval value env) (λo s₁=>A0 (model prog w) A (eval slice env) (λi s₂=>s₂.TypeIs o T/\A0 (model prog w) A (getItem o i) Q E s₂) E s₁) E s):
  A0 (model prog w) A (eval (.Subscript value slice pos) env) Q E s:=by
 refine G8 (CW h (λo s₁ h₁=>CW h₁ (λi s₂ h₂=>?_) λ_ _ x=>x) λ_ _ x=>x);let⟨hT,h₂⟩:=h₂;unfold subscriptTail;refine AH ?_;rw[getitemInPython_of_ne hT.not_modules];refine AH (wpAny_specialOf hT hl ?_);have fin:A0 (model prog w) A (subscripted slice AC o i) (λr s₃=>A0 (model prog w) A (letTemporaryGo value o r >>= λ_=>pure r) Q E s₃) E s₂:=by
  rw[hs o i];exact wpAny_operating (CW h₂ (λr s₃ h₃=>AH (wpAny_letTemporaryGo (AU h₃))) λ_ _ x=>x)
 first
  |exact AU (AH fin)
  |exact AH (AU (AH fin))
  |exact AH fin
def yef(td ty tv:TE):TS:=λD σ H=>tv σ H λv H1=>td σ H1 λx H2=>ty σ H2 λy H3=>∃a H4,x=.ref a/\yeV H3 a y v H4/\D.nx σ H4
section
variable {X:Cx}{o i e value:AS}{pos pos' tpos:CT}{td ty tv:TE}
def zlq(hu:X.A.units+1<cLine)(ho:PE X o td)(hi:PE X i ty)(hv:PE X value tv)(hs:swapsWith value (AA (.Subscript o i pos')) pos.line X.env=pure AC):
  PS X (.Assign [.Subscript o i pos'] value pos) (yef td ty tv):=by
 intro π s σ H D I h;refine wpAny_Assign_Subscript (thn (hv π s σ H _ I h) λr s1 kq=>?_) hs;let⟨v,H1,I1,rv,q1⟩:=kq;refine thn (ho π s1 σ H1 _ I1 q1) λu s2 kq=>?_;let⟨x,H2,I2,rx,q2⟩:=kq;refine thn (hi π s2 σ H2 _ I2 q2) λiv s3 kq=>?_;let⟨y,H3,I3,ry,a,H4,ex,g,q3⟩:=kq;subst ex;obtain rfl:u=Ad a:=rx;exact zhe hu I3 g ry rv λs4 I4=>⟨σ,H4,I4,q3⟩
end
def zjs{P:A3}{w:Ag}{H:Hp}(h:BB)(hb:sysModules<h.objs.size):yR P w H (h.push {cls:=.type "dict",data:=.dict #[]}) h.objs.size (.dT []):=
 ⟨DB _,beq_eq_false_iff_ne.mpr (BE (Ah hb)),[],.nil,_,#[],0,AZ _ rfl,⟨rfl,rfl,rfl⟩,rfl,rfl,List.nodup_nil⟩
def ydd:TE:=λ_ H Q=>∀p,H p=AD->Q (.ref p) (upd H p (.dT []))
section
variable {X:Cx}{pos:CT}
def zp5:PE X (.Dict [] [] pos) ydd:=λπ s σ H Q I h=>
 wpAny_Dict_empty ⟨.ref s.heap.objs.size,_,I.laid (a:=s.heap.objs.size) (o:=.dT []) (t':=s.toks) (λ_ _ q=>AO _ q) (AT _) (zjs s.heap I.big),rfl,h _ (I.hok.fresh (AT _))⟩
end
structure M2(X:Cx)(o:AS)(m:AN)(apos:CT)(e f:AS)(cpos:CT):Prop where
 base:attributeBase o m X.env (eval o X.env)=eval o X.env
 few:((backTo cpos (starEach [e,f] X.env)).all (λx=>!x.1)&&(backToKw cpos (keywordEach [] X.env)).all (λx=>x.1.isSome)
  && decide (([e,f]:List AS).length+([]:List C2).length+(if ([]:List C2).isEmpty then 0 else 1)<30))=AB
 line:(apos.endLine==cpos.line)=AB
 trees:backTo cpos (starEach [e,f] X.env)=[(AC,eval e X.env),(AC,eval f X.env)]
def IsD(H:Hp)(a:AI):Prop:=(∃kvs,Rd H a (.dK kvs)) \/ ∃kvs,Rd H a (.dT kvs)
def zoo{X:Cx}{π:List (AI×CF)}{σ:St}{H:Hp}{s:AJ}{a:AI}(I:Inv X π σ H s)(d:IsD H a):
  s.TypeIs (.ref a) "dict"/\(∀b,Ad a=.ref b->∃ob,s.heap.get? b=AA ob/\ob.dict=AD)/\(a==sysModules)=false:=by
 rcases d with⟨kvs,e⟩|⟨kvs,e⟩
 .let⟨_,hd,vs,_,dd⟩:=zmd I.hok e;refine⟨dd.typeIs,λb q=>?_,hd⟩
  cases q
  let⟨ob,_,_,h1,h2,_⟩:=dd;exact⟨ob,h1,h2.2.1⟩
 .let⟨_,hd,xs,_,dd⟩:=zll I.hok e;refine⟨dd.typeIs,λb q=>?_,hd⟩
  cases q
  let⟨ob,_,_,h1,h2,_⟩:=dd;exact⟨ob,h1,h2.2.1⟩
section
variable {X:Cx}{π:List (AI×CF)}{σ:St}{H:Hp}{s:AJ}{a:AI}{y d:V}{u r:AG}{o:Option V}{A:Ar}{E:AG->AJ->Prop}
def zn6{Q:AG->AJ->Prop}(hu:A.units+1<cLine)(I:Inv X π σ H s)(g:ye2 H a y o)(ry:RelV y u)(rd:RelV d r)(h:∀w' s',Inv X π σ H s'->RelV (o.getD d) w'->Q w' s'):
  A0 (model X.prog X.w) A (call (.builtin "dict.get") [.ref a,u,r]) Q E s:=by
 rcases g with⟨kvs,k,e,ey,l⟩|⟨kvs,k,b,e,ey,eb,l⟩
 .subst ey;let⟨z,hd,vs,rel,dd⟩:=zmd I.hok e;refine call_meetsIn DR dd.typeIs Ei (E8 _ _ _) (meets_dict_get_default (yL X.prog X.w) a (zlX ry) hd r) ⟨_,dd.mapOf,h _ _ (I.tok _) ?_⟩;rw[l];exact(rel.val k).getD rd
 .subst ey
  cases (show u=Ad b from ry)
  let⟨z,hd,xs,rel,dd⟩:=zll I.hok e;refine call_meetsIn DR dd.typeIs Ei (E8 _ _ _) (meetsH_dict_get_default (tupleKind (yL X.prog X.w)) a b hd r) ⟨F5 hu,k,xs,zhZ I.hok eb,dd,h _ _ (I.tok _) ?_⟩;rw[l];exact(rel.val k).getD rd
end
def ydC(td ty tx:TE):TE:=λσ H Q=>td σ H λx H1=>∃a,x=.ref a/\IsD H1 a/\ty σ H1 λy H2=>tx σ H2 λz H3=>∃o,ye2 H3 a y o/\Q (o.getD z) H3
section
variable {X:Cx}{o e f:AS}{apos cpos:CT}{td ty tx:TE}
def zje(hu:X.A.units+1<cLine)(ho:PE X o td)(he:PE X e ty)(hf:PE X f tx)(m:M2 X o "get" apos e f cpos):PE X (.Call (.Attribute o "get" apos) [e,f] [] cpos) (ydC td ty tx):=by
 intro π s σ H Q I h;refine wpAny_Call_method m.base m.few m.line PySem.F.plainAttrs_dict DR PySem.F.type_dict_get (thn (ho π s σ H _ I h) λu s1 kq=>?_);let⟨x,H1,I1,rx,a,ex,d,q1⟩:=kq;subst ex;obtain rfl:u=Ad a:=rx;let⟨t1,t2,_⟩:=zoo I1 d;refine⟨t1,t2,?_⟩;rw[m.trees];refine Eg rfl (FA (Dx (thn (he π s1 σ H1 _ I1 q1) λiv s2 ⟨y,H2,I2,ry,q2⟩=>
  Dx (thn (hf π s2 σ H2 _ I2 q2) λfv s3 ⟨z,H3,I3,rz,ov,g,q3⟩=>Fc ?_))))
 exact zn6 hu I3 g ry rz λw' s4 I4 rw'=>⟨_,H3,I4,rw',q3⟩
end
section
variable {X:Cx}{π:List (AI×CF)}{σ:St}{H:Hp}{s:AJ}{a:AI}{kvs:List (Key×V)}{A:Ar}{E:AG->AJ->Prop}
end
section
variable {X:Cx}{π:List (AI×CF)}{σ:St}{H:Hp}{s:AJ}{a:AI}{y:V}{u:AG}{A:Ar}{E:AG->AJ->Prop}
end
end L2
namespace IC
open PySem
inductive PV where
 |non|bl (b:Bool)|int (i:Int)|str (x:AN)|tp (k:Bool) (xs:List PV)|lst (xs:List PV)|loc (n:Nat)|exn (c:Nat)|scr (xs:List PV)|fnc (j:Nat)
deriving Inhabited
abbrev PV.tup(xs:List PV):PV:=.tp AC xs
mutual
noncomputable def nL:PV->Bool
 |.loc _=>AC
 |.exn _=>AC
 |.fnc _=>AC
 |.tp _ xs=>nLs xs
 |.lst xs=>nLs xs
 |.scr xs=>nLs xs
 |_=>AB
noncomputable def nLs:List PV->Bool
 |[]=>AB
 |x::xs=>nL x&&nLs xs
end
mutual
noncomputable def shd(n:Nat):PV->Bool
 |.non=>AB
 |.bl _=>AB
 |.int _=>AB
 |.str x=>x.cps.all (· < 0x110000)
 |.tp _ xs=>decide (0<n)&&ybu (n-1) xs
 |.lst xs=>decide (0<n)&&ybu (n-1) xs
 |_=>AC
noncomputable def ybu(n:Nat):List PV->Bool
 |[]=>AB
 |x::xs=>shd n x&&ybu n xs
end
abbrev shp(v:PV):Bool:=shd 60 v
def flat:PV->Bool
 |.non=>AB
 |.bl _=>AB
 |.int _=>AB
 |.str _=>AB
 |_=>AC
def bi(b:Bool):Int:=if b then 1 else 0
mutual
noncomputable def peq:PV->PV->Bool
 |.non,.non=>AB
 |.bl a,.bl b=>a==b
 |.bl a,.int j=>bi a==j
 |.int i,.bl b=>i==bi b
 |.int i,.int j=>i==j
 |.str x,.str y=>x==y
 |.tp _ xs,.tp _ ys=>ybc xs ys
 |.lst xs,.lst ys=>ybc xs ys
 |_,_=>AC
noncomputable def ybc:List PV->List PV->Bool
 |[],[]=>AB
 |x::xs,y::ys=>peq x y&&ybc xs ys
 |_,_=>AC
end
inductive Ob where
 |lst (xs:List PV)|dct (t:Bool) (kvs:List (PV×PV))|dead|ins (c:Nat) (fs:List (AN×PV))
abbrev Env:=List (Option PV)
abbrev SO:=List Ob
inductive R(α:Type) where
 |ok (a:α) (st:SO)|exc (c:Nat) (st:SO)|bad
def R.bind{α β:Type}(r:R α)(k:α->SO->R β):R β:=
 match r with
 |.ok a st=>k a st
 |.exc c st=>.exc c st
 |.bad=>.bad
inductive BOp where
 |add|sub|mul|fdiv|mod|pow|shl|shr|band|bor|bxor
inductive COp where
 |eq|ne|lt|le|gt|ge|is|isnot|isin|notin
inductive Ty where
 |int|bool|str|tuple|list|cls (c:Nat)|val
inductive Blt where
 |len|int|abs|min|max|tuple|list|all|sum|dict|rev|str|any
inductive Mth where
 |append|extend|get|bits|upper|insert|count|index|join|split|sidx|clear
inductive Tg where
 |n (i:Nat)|t (l:List Nat)
set_option genInjectivity false
mutual
inductive Ce where
 |cst (v:PV)
 |var (i:Nat)
 |bin (o:BOp) (a b:Ce)
 |neg (a:Ce)
 |not (a:Ce)
 |and (a b:Ce)
 |or (a b:Ce)
 |cmp (o:COp) (a b:Ce)
 |chain (o p:COp) (a b c:Ce)
 |ite (c a b:Ce)
 |tup (es:Ces)
 |lst (es:Ces)
 |newl (es:Ces)
 |dict0 (t:Bool)
 |idx (a i:Ce)
 |slc (a:Ce) (lo hi:Ce)
 |call (f:Nat) (args:Ces)
 |blt (b:Blt) (args:Ces)
 |mth (m:Mth) (o:Ce) (args:Ces)
 |isi (a:Ce) (t:List Ty)
 |comp (sl:List (Option Nat)) (tg:Tg) (it:Cit) (c:Ce) (e:Ce)
 |frz (a:Ce)
 |nope
 |dix (D:List (AN×PV)) (a:Ce)
 |din (a:Ce) (D:List (AN×PV))
 |fld (c:Nat) (a:Ce) (f:AN)
 |new (c i:Nat) (es:Ces)
 |mcl (c i:Nat) (m:AN) (o:Ce) (es:Ces)
 |cav (i:Nat) (L:List (AN×Nat)) (es:Ces)
inductive Ces where
 |nil
 |cons (e:Ce) (es:Ces)
inductive Cit where
 |seq (e:Ce)
 |range1 (a:Ce)
 |range2 (a b:Ce)
 |rangeD (a b:Ce)
 |enum (e:Ce)
 |zip (a b:Ce)
 |revl (e:Ce)
 |revr (a:Ce)
 |chars (e:Ce)
end
set_option genInjectivity true
abbrev Ce.i(n:Int):Ce:=.cst (.int n)
abbrev Ce.s(x:AN):Ce:=.cst (.str x)
abbrev Ce.v:=Ce.var
abbrev Ces.k:=Ces.cons
abbrev Ces.e:=Ces.nil
mutual
inductive Cs where
 |expr (e:Ce)
 |asg (t:Tg) (e:Ce)
 |six (o i e:Ce)
 |dput (o i e:Ce)
 |aug (i:Nat) (o:BOp) (e:Ce)
 |ret (e:Ce)
 |ite (c:Ce) (a b:Css)
 |for (t:Tg) (it:Cit) (b:Css)
 |while (c:Ce) (b:Css)
 |nope
 |sfl (c:Nat) (o:Ce) (f:AN) (e:Ce)
 |mkr (i:Nat) (D:List (AN×Nat)) (n:Ce) (es:Ces)
inductive Css where
 |nil
 |cons (s:Cs) (ss:Css)
end
abbrev Css.k:=Css.cons
abbrev Css.e:=Css.nil
def yaB(i j:Int):Bool:=(decide (i.natAbs<18446744073709551616)) || (decide (j.natAbs<18446744073709551616))
def binI(o:BOp)(i j:Int):Option PV:=
 match o with
 |.add=>AA (.int (i+j))
 |.sub=>AA (.int (i-j))
 |.mul=>if yaB i j then AA (.int (i*j))else AD
 |.fdiv=>if 0<j/\j<10000000000000000000000000000000000000000000000000000000000000000000000 then AA (.int (i/j))else AD
 |.mod=>if 0<j then AA (.int (i%j))else AD
 |.pow=>if 0<=j/\j<=1000000/\i.natAbs<18446744073709551616 then AA (.int (i^j.toNat))else AD
 |.shl=>if 0<=j/\j<=1000000/\i.natAbs<18446744073709551616 then AA (.int (i*2^j.toNat))else AD
 |.shr=>if 0<=j then AA (.int (i/2^j.toNat))else AD
 |.band=>AA (.int (Ax i j))
 |.bor=>AA (.int (B2 i j))
 |.bxor=>AA (.int (BY i j))
def sizeMax:Nat:=16777216
def ydU(k:Bool)(a:List PV)(j:Bool)(b:List PV):PV:=if a.isEmpty then .tp j b else if b.isEmpty then .tp k a else .tup (a++b)
def yq(o:BOp)(x y:PV):Option PV:=
 match x,y with
 |.int i,.int j=>binI o i j
 |.int i,.bl b=>match o with
  |.add=>AA (.int (i+bi b))
  |_=>AD
 |.str a,.str b=>match o with
  |.add=>if a.length+b.length<=sizeMax then AA (.str (a++b))else AD
  |_=>AD
 |.tp k a,.tp j b=>match o with
  |.add=>if a.length+b.length<=sizeMax then AA (ydU k a j b)else AD
  |_=>AD
 |.lst a,.lst b=>match o with
  |.add=>if a.length+b.length<=sizeMax then AA (.lst (a++b))else AD
  |_=>AD
 |_,_=>AD
def ybN(o:BOp)(x y:PV):Option PV:=
 match x,y with
 |.int i,.int j=>binI o i j
 |_,_=>AD
def isNon:PV->Bool
 |.non=>AB
 |_=>AC
def inL(x:PV):List PV->Bool
 |[]=>AC
 |y::ys=>peq y x || inL x ys
def inS(a b:AN):Bool:=(C8 (b.length+1)).any λi=>decide (i+a.length<=b.length)&&(b.cps.extract i (i+a.length)==a.cps)
def ybI(o:COp)(i j:Int):Option PV:=
 match o with
 |.lt=>AA (.bl (decide (i<j)))
 |.le=>AA (.bl (decide (i<=j)))
 |.gt=>AA (.bl (decide (j<i)))
 |.ge=>AA (.bl (decide (j<=i)))
 |_=>AD
def yd2(o:COp)(a b:AN):Option PV:=
 match o with
 |.lt=>AA (.bl (decide (a.cps.toList<b.cps.toList)))
 |.le=>AA (.bl (!decide (b.cps.toList<a.cps.toList)))
 |_=>AD
def yu(o:COp)(x y:PV):Option PV:=
 match o with
 |.eq=>if shp x&&shp y then AA (.bl (peq x y))else AD
 |.ne=>if shp x&&shp y then AA (.bl (!peq x y))else AD
 |.is=>match y with
  |.non=>AA (.bl (isNon x))
  |.bl b=>match x with
   |.bl a=>AA (.bl (a==b))
   |_=>AD
  |_=>AD
 |.isnot=>match y with
  |.non=>AA (.bl (!isNon x))
  |.bl b=>match x with
   |.bl a=>AA (.bl (!(a==b)))
   |_=>AD
  |_=>AD
 |.isin=>match x,y with
  |.str a,.str b=>AA (.bl (inS a b))
  |x,.tp _ l=>if flat x&&l.all flat then AA (.bl (inL x l))else AD
  |x,.lst l=>if flat x&&l.all flat then AA (.bl (inL x l))else AD
  |_,_=>AD
 |.notin=>match x,y with
  |.str a,.str b=>AA (.bl (!inS a b))
  |x,.tp _ l=>if flat x&&l.all flat then AA (.bl (!inL x l))else AD
  |x,.lst l=>if flat x&&l.all flat then AA (.bl (!inL x l))else AD
  |_,_=>AD
 |o=>match x,y with
  |.int i,.int j=>ybI o i j
  |.str a,.str b=>yd2 o a b
  |_,_=>AD
def yaK(st:SO)(x:PV):Option Bool:=
 match x with
 |.non=>AA AC
 |.bl b=>AA b
 |.int i=>AA (i != 0)
 |.str y=>if y.length<=sizeMax then AA ((y.length:Int) != 0)else AD
 |.tp _ xs=>AA (!xs.isEmpty)
 |.lst xs=>AA (!xs.isEmpty)
 |.loc n=>match st[n]? with
  |some (.lst xs)=>AA (!xs.isEmpty)
  |_=>AD
 |_=>AD
def ixI(n:Nat)(i:Int):Option Nat:=if 0<=i then(if i<n then AA i.toNat else AD)else if -(n:Int)<=i then AA (i+n).toNat else AD
def at?{α:Type}(xs:List α)(i:Int):Option α:=(ixI xs.length i).bind λj=>xs[j]?
def look(k:PV):List (PV×PV)->Option PV
 |[]=>AD
 |(a,b)::r=>if peq a k then AA b else look k r
def put(k v:PV)(kvs:List (PV×PV)):List (PV×PV):=
 if (kvs.any λp=>peq p.1 k)=AB then kvs.map (λp=>if peq p.1 k=AB then(p.1,v)else p)else kvs++[(k,v)]
def ybC:PV->Bool
 |.int _=>AB
 |.str _=>AB
 |_=>AC
def isKey(t:Bool)(k:PV):Bool:=
 match t with
 |false=>ybC k
 |true=>match k with
  |.tp AC xs=>xs.all ybC
  |_=>AC
def yaW{α:Type}(xs:List α)(i:PV):Option α:=
 match i with
 |.int k=>at? xs k
 |_=>AD
def idxV(st:SO)(x i:PV):Option PV:=
 match x with
 |.tp _ xs=>yaW xs i
 |.lst xs=>yaW xs i
 |.str s=>if s.length<=sizeMax then(yaW s.cps.toList i).map λc=>.str ⟨#[c]⟩else AD
 |.loc n=>match st[n]? with
  |some (.lst xs)=>yaW xs i
  |_=>AD
 |_=>AD
def ybf(n:Nat)(v:Int):Nat:=if v<0 then(v+(n:Int)).toNat else min v.toNat n
def ycC(n:Nat)(lo:Option Int):Nat:=
 match lo with
 |none=>0
 |some i=>ybf n i
def ycP(n:Nat)(hi:Option Int):Nat:=
 match hi with
 |none=>n
 |some i=>ybf n i
def cut{α:Type}(xs:List α)(lo hi:Option Int):List α:=(xs.drop (ycC xs.length lo)).take (ycP xs.length hi-ycC xs.length lo)
def yb3:PV->Option (Option Int)
 |.non=>AA AD
 |.int i=>AA (AA i)
 |_=>AD
def yck(x:PV)(a b:Option Int):Option PV:=
 match x with
 |.tp k xs=>if ycC xs.length a=0/\ycP xs.length b=xs.length then AA (.tp k xs)else AA (.tup (cut xs a b))
 |.str s=>if s.length<=sizeMax then AA (.str ⟨(cut s.cps.toList a b).toArray⟩)else AD
 |.lst xs=>AA (.lst (cut xs a b))
 |.scr xs=>AA (.lst (cut xs a b))
 |_=>AD
def ycx(x:PV)(a:Option Int)(hi:PV):Option PV:=
 match yb3 hi with
 |some b=>yck x a b
 |none=>AD
def ybv(x:PV)(t:Ty):Bool:=
 match x,t with
 |.int _,.int=>AB
 |.bl _,.int=>AB
 |.bl _,.bool=>AB
 |.str _,.str=>AB
 |.tp _ _,.tuple=>AB
 |.lst _,.list=>AB
 |.exn c,.cls d=>c==d
 |.exn _,.val=>AB
 |_,_=>AC
def yc7:Ty->Bool
 |.cls _=>AC
 |.val=>AC
 |_=>AB
def yaM(x:PV)(ts:List Ty):Option PV:=
 match x with
 |.loc _=>AD
 |.scr _=>AD
 |.fnc _=>AD
 |.exn c=>if ts.all yc7 then AD else AA (.bl (ts.any (ybv (.exn c))))
 |x=>match ts with
  |[t]=>if yc7 t then AA (.bl (ybv x t))else AD
  |_=>AD
def allB:List PV->Option Bool
 |[]=>AA AB
 |.bl b::r=>match allB r with
  |some c=>AA (b&&c)
  |none=>AD
 |_::_=>AD
def yfb:List PV->Option Int
 |[]=>AA 0
 |.int i::r=>match yfb r with
  |some c=>AA (i+c)
  |none=>AD
 |_::_=>AD
def yds:List PV->Option Int
 |[]=>AD
 |[.int i]=>AA i
 |.int i::r=>match yds r with
  |some c=>AA (if i<c then c else i)
  |none=>AD
 |_::_=>AD
def yb1(st:SO):PV->Option (List PV)
 |.tp _ xs=>AA xs
 |.lst xs=>AA xs
 |.loc n=>match st[n]? with
  |some (.lst xs)=>AA xs
  |_=>AD
 |_=>AD
def yZ(st:SO):PV->Option (List PV)
 |.lst xs=>AA xs
 |.loc n=>match st[n]? with
  |some (.lst xs)=>AA xs
  |_=>AD
 |_=>AD
def lenV(st:SO)(x:PV):Option PV:=
 match x with
 |.str s=>if s.length<=sizeMax then AA (.int s.length)else AD
 |x=>(yb1 st x).map λxs=>.int xs.length
def yej(x:PV):Option PV:=
 match x with
 |.int i=>AA (.int i)
 |.bl k=>AA (.int (bi k))
 |_=>AD
def yee(x:PV):Option PV:=
 match x with
 |.int i=>AA (.int (if i<0 then -i else i))
 |_=>AD
def yfT(x y:PV):Option PV:=
 match x,y with
 |.int i,.int j=>AA (.int (if j<i then j else i))
 |_,_=>AD
def maxV(x y:PV):Option PV:=
 match x,y with
 |.int i,.int j=>AA (.int (if i<j then j else i))
 |_,_=>AD
def yeA(st:SO)(x:PV):Option PV:=
 match x with
 |.tp k xs=>AA (.tp k xs)
 |x=>(yZ st x).map .tup
def yeC:PV->Option PV
 |.tp _ xs=>if xs.isEmpty then AD else AA (.tup xs.reverse)
 |.lst xs=>AA (.lst xs.reverse)
 |_=>AD
def anyB:List PV->Option Bool
 |[]=>AA AC
 |.bl b::r=>match anyB r with
  |some c=>AA (b || c)
  |none=>AD
 |_=>AD
def anyI:List PV->Option Bool
 |[]=>AA AC
 |.int i::r=>match anyI r with
  |some c=>AA ((i != 0) || c)
  |none=>AD
 |_=>AD
def ygY:PV->Option PV
 |.int i=>if i=0 then AA (.str "0")else if i=1 then AA (.str "1")else AD
 |_=>AD
def yar(b:Blt)(st:SO)(vs:List PV):Option PV:=
 match vs with
 |[x]=>match b with
  |.len=>lenV st x
  |.int=>yej x
  |.abs=>yee x
  |.max=>(yZ st x).bind λxs=>(yds xs).map .int
  |.tuple=>yeA st x
  |.list=>(yb1 st x).map .lst
  |.all=>(yZ st x).bind λxs=>(allB xs).map .bl
  |.sum=>(yZ st x).bind λxs=>(yfb xs).map .int
  |.rev=>yeC x
  |.str=>ygY x
  |.any=>match x with
   |.tp _ xs=>(anyI xs).map .bl
   |x=>(yZ st x).bind λxs=>(anyB xs).map .bl
  |_=>AD
 |[x,y]=>match b with
  |.min=>yfT x y
  |.max=>maxV x y
  |_=>AD
 |_=>AD
def ya7(st:SO):PV->Option (Bool×List (PV×PV))
 |.loc n=>match st[n]? with
  |some (.dct t xs)=>AA (t,xs)
  |_=>AD
 |_=>AD
def yaL(m:Mth)(st:SO)(x:PV):Option Bool:=
 match m with
 |.append=>(yZ st x).map λ_=>AB
 |.extend=>(yZ st x).map λ_=>AB
 |.insert=>(yZ st x).map λ_=>AB
 |.count=>(yZ st x).map λ_=>AB
 |.index=>(yZ st x).map λ_=>AB
 |.get=>(ya7 st x).map λ_=>AB
 |.bits=>match x with
  |.int _=>AA AB
  |_=>AD
 |.upper=>match x with
  |.str _=>AA AB
  |_=>AD
 |.join=>match x with
  |.str _=>AA AB
  |_=>AD
 |.split=>match x with
  |.str _=>AA AB
  |_=>AD
 |.sidx=>match x with
  |.str _=>AA AB
  |_=>AD
 |.clear=>match x with
  |.loc n=>(yZ st (.loc n)).map λ_=>AB
  |_=>AD
def ydL(st:SO)(o v:PV):R PV:=
 match o with
 |.loc n=>match st[n]? with
  |some (.lst xs)=>if xs.length<1000000 then .ok .non (st.set n (.lst (xs++[v])))else .bad
  |_=>.bad
 |_=>.bad
def ygd(st:SO)(o v:PV):R PV:=
 match o with
 |.loc n=>match st[n]? with
  |some (.lst xs)=>match v with
   |.lst ys=>if xs.length+ys.length<=1000000 then .ok .non (st.set n (.lst (xs++ys)))else .bad
   |_=>.bad
  |_=>.bad
 |_=>.bad
def yf2(st:SO)(o i v:PV):R PV:=
 match o with
 |.loc n=>match st[n]? with
  |some (.lst xs)=>match i with
   |.int k=>if 0<=k/\k<=xs.length/\xs.length<1000000 then .ok .non (st.set n (.lst (xs.take k.toNat++v::xs.drop k.toNat)))else .bad
   |_=>.bad
  |_=>.bad
 |_=>.bad
def ydI(st:SO)(o k d:PV):R PV:=
 match ya7 st o with
 |some (t,kvs)=>if isKey t k then .ok ((look k kvs).getD d) st else .bad
 |none=>.bad
def ygu(st:SO)(o v:PV):R PV:=
 match yZ st o with
 |some xs=>if flat v&&xs.all flat then .ok (.int (xs.countP λy=>peq y v)) st else .bad
 |none=>.bad
def ydj(v:PV):List PV->Option Nat
 |[]=>AD
 |y::ys=>if peq y v then AA 0 else(ydj v ys).map (·+1)
def yf0(st:SO)(o v:PV):R PV:=
 match yZ st o with
 |some xs=>if flat v&&xs.all flat then(match ydj v xs with
  |some j=>.ok (.int j) st
  |none=>.bad)else .bad
 |none=>.bad
def upC(c:Nat):Nat:=if 97<=c/\c<=122 then c-32 else c
def upS(s:AN):Str:=⟨(s.cps.toList.map upC).toArray⟩
def ybW(c:Nat):List Nat->List (List Nat)
 |[]=>[[]]
 |x::xs=>if x=c then []::ybW c xs else match ybW c xs with
  |[]=>[[x]]
  |p::ps=>(x::p)::ps
def strsOf:List PV->Option (List AN)
 |[]=>AA []
 |.str s::r=>(strsOf r).map (s :: ·)
 |_=>AD
def yer(st:SO)(o v:PV):R PV:=
 match o,yZ st v with
 |.str s,AA xs=>match strsOf xs with
  |some ys=>if s.length<=10/\xs.length<=1000/\(ys.all λy=>decide (y.length<=1000))=AB then .ok (.str (Str.join s ys)) st else .bad
  |none=>.bad
 |_,_=>.bad
def yfI(st:SO)(o:PV):R PV:=
 match o with
 |.loc n=>match st[n]? with
  |some (.lst _)=>.ok .non (st.set n (.lst []))
  |_=>.bad
 |_=>.bad
def yex(st:SO)(o v:PV):R PV:=
 match o,v with
 |.str s,.str y=>if s=AE "01" then(if y=AE "0" then .ok (.int 0) st else if y=AE "1" then .ok (.int 1) st else .bad)else .bad
 |_,_=>.bad
def yc4(st:SO)(o v:PV):R PV:=
 match o,v with
 |.str s,.str y=>match y.cps.toList with
  |[c]=>if s.length<=100000 then .ok (.lst ((ybW c s.cps.toList).map λl=>.str ⟨l.toArray⟩)) st else .bad
  |_=>.bad
 |_,_=>.bad
def yb5(m:Mth)(st:SO)(o:PV)(vs:List PV):R PV:=
 match m,vs with
 |.append,[v]=>ydL st o v
 |.extend,[v]=>ygd st o v
 |.insert,[i,v]=>yf2 st o i v
 |.get,[k,d]=>ydI st o k d
 |.count,[v]=>ygu st o v
 |.index,[v]=>yf0 st o v
 |.join,[v]=>yer st o v
 |.split,[v]=>yc4 st o v
 |.sidx,[v]=>yex st o v
 |.clear,[]=>yfI st o
 |.bits,[]=>match o with
  |.int i=>.ok (.int (Builtin.Int.intBits i)) st
  |_=>.bad
 |.upper,[]=>match o with
  |.str s=>if s.cps.toList.all (· < 128)/\s.length<=1000000 then .ok (.str (upS s)) st else .bad
  |_=>.bad
 |_,_=>.bad
def toR(o:Option PV)(st:SO):R PV:=
 match o with
 |some v=>.ok v st
 |none=>.bad
def yI(t:Tg)(v:PV)(ρ:Env):Option Env:=
 match t,v with
 |.n i,v=>AA (ρ.set i (AA v))
 |.t l,.tp _ xs=>if l.length=xs.length then AA ((l.zip xs).foldl (λρ p=>ρ.set p.1 (AA p.2)) ρ)else AD
 |_,_=>AD
def yV:Nat->List PV->List PV
 |_,[]=>[]
 |k,x::xs=>.tup [.int k,x]::yV (k+1) xs
def yaU:List PV->List PV->List PV
 |x::xs,y::ys=>.tup [x,y]::yaU xs ys
 |_,_=>[]
def ygc:PV->Option (List PV)
 |.tp _ xs=>AA xs.reverse
 |.lst xs=>AA xs.reverse
 |_=>AD
def ydt:PV->Option (List PV)
 |.str s=>if s.length<=1000000 then AA (s.cps.toList.map λc=>.str ⟨#[c]⟩)else AD
 |_=>AD
def ydN(x y:PV):Option (List PV):=
 match x,y with
 |.tp _ xs,.tp _ ys=>if xs.length<=ys.length then AA (yaU xs ys)else AD
 |_,_=>AD
def yaT(s:AN):List (AN×PV)->Option PV
 |[]=>AD
 |(a,b)::r=>if decide (a=s)then AA b else yaT s r
def ycn(D:List (AN×PV))(x:PV):Option PV:=
 match x with
 |.str s=>yaT s D
 |_=>AD
def yce(D:List (AN×PV))(x:PV):Option PV:=
 match x with
 |.str s=>AA (.bl (yaT s D).isSome)
 |_=>AD
def yo:Nat->Int->Int->List PV
 |0,_,_=>[]
 |n+1,a,d=>.int a::yo n (a+d) d
def ybU(x:PV):Option (List PV):=
 match x with
 |.int j=>if j.natAbs<1000000000 then AA (yo j.toNat 0 1)else AD
 |_=>AD
def ygv(x:PV):Option (List PV):=
 match x with
 |.int j=>if 0<=j/\j<1000000000 then AA (yo j.toNat (j-1) (-1))else AD
 |_=>AD
def yfr(x y:PV):Option (List PV):=
 match x,y with
 |.int i,.int j=>if i.natAbs<1000000000/\j.natAbs<1000000000 then AA (yo (j-i).toNat i 1)else AD
 |_,_=>AD
def yfZ(x y:PV):Option (List PV):=
 match x,y with
 |.int i,.int j=>if i.natAbs<1000000000/\j.natAbs<1000000000 then AA (yo (i-j).toNat i (-1))else AD
 |_,_=>AD
def toL(o:Option (List PV))(st:SO):R (List PV):=
 match o with
 |some v=>.ok v st
 |none=>.bad
def ydl(v:PV)(st:SO):R PV:=
 match v with
 |.loc n=>match st[n]? with
  |some (.lst xs)=>.ok (.lst xs) (st.set n .dead)
  |_=>.bad
 |v=>.ok v st
def mkV(D:List (AN×Nat))(b:Bool)(x:PV):Option Nat:=
 match x with
 |.str s=>if b then D.lookup s else AD
 |_=>AD
def yaZ(c:Nat)(st:SO)(x:PV)(f:AN):Option PV:=
 match x with
 |.loc n=>match st[n]? with
  |some (.ins d fs)=>if d=c then fs.lookup f else AD
  |_=>AD
 |_=>AD
def ybM(f:AN)(v:PV):List (AN×PV)->List (AN×PV)
 |[]=>[(f,v)]
 |(g,x)::r=>if g=f then(g,v)::r else(g,x)::ybM f v r
def ya0(c:Nat)(st:SO)(x:PV)(f:AN)(v:PV):Option SO:=
 match x with
 |.loc n=>match st[n]? with
  |some (.ins d fs)=>if d=c/\fs.length<1000 then AA (st.set n (.ins c (ybM f v fs)))else AD
  |_=>AD
 |_=>AD
def ybX(c:Nat)(m:AN)(st:SO)(x:PV):Option Bool:=
 match x with
 |.loc n=>match st[n]? with
  |some (.ins d fs)=>if d=c/\fs.lookup m=AD then AA AB else AD
  |_=>AD
 |_=>AD
def newV(n:Nat)(v:PV)(st:SO):R PV:=
 match v with
 |.non=>.ok (.loc n) st
 |_=>.bad
def ybB(r:R PV):R PV:=
 match r with
 |.ok v st=>.ok v st
 |_=>.bad
inductive Fl where
 |nx (ρ:Env) (st:SO)|rt (v:PV) (st:SO)|bk (ρ:Env) (st:SO)|ct (ρ:Env) (st:SO)|exc (c:Nat) (ρ:Env) (st:SO)|bad
def onBl{α:Type}(x:PV)(k:Bool->R α):R α:=
 match x with
 |.bl b=>k b
 |_=>.bad
def onO{α:Type}(o:Option Bool)(k:Bool->R α):R α:=
 match o with
 |some b=>k b
 |none=>.bad
def onF(o:Option Bool)(k:Bool->Fl):Fl:=
 match o with
 |some b=>k b
 |none=>.bad
def onP{α:Type}(o:Option (Option Int))(k:Option Int->R α):R α:=
 match o with
 |some b=>k b
 |none=>.bad
def blO(o:Option PV):Option Bool:=
 match o with
 |some (.bl b)=>AA b
 |_=>AD
def ybV(o:Option PV)(ys:List PV):List PV:=
 match o with
 |some y=>y::ys
 |none=>ys
def yaP(one:PV->SO->R (Option PV)):List PV->SO->R (List PV)
 |[],st=>.ok [] st
 |x::xs,st=>(one x st).bind λo st1=>(yaP one xs st1).bind λys st2=>.ok (ybV o ys) st2
def ych(r:R (List PV)):R PV:=
 match r with
 |.ok ys st=>if ys.length<=1000000 then .ok (.lst ys) st else .bad
 |_=>.bad
def ycu(L:List (AN×Nat))(v:Option (Option PV)):Option Nat:=
 match v with
 |some (AA (.fnc j))=>if L.any (λp=>p.2==j&&L.lookup p.1==AA j)then AA j else AD
 |_=>AD
mutual
noncomputable def ev(call:Nat->List PV->SO->R PV)(ρ:Env)(st:SO):Ce->R PV
 |.cst v=>.ok v st
 |.var i=>match ρ[i]? with
  |some (AA v)=>.ok v st
  |_=>.bad
 |.bin o a b=>(ev call ρ st a).bind λx st1=>(ev call ρ st1 b).bind λy st2=>toR (yq o x y) st2
 |.neg a=>(ev call ρ st a).bind λx st1=>match x with
  |.int i=>.ok (.int (-i)) st1
  |_=>.bad
 |.not a=>(ev call ρ st a).bind λx st1=>onBl x λk=>.ok (.bl (!k)) st1
 |.and a b=>(ev call ρ st a).bind λx st1=>onBl x λk=>cond k (ev call ρ st1 b) (.ok (.bl AC) st1)
 |.or a b=>(ev call ρ st a).bind λx st1=>onBl x λk=>cond k (.ok (.bl AB) st1) (ev call ρ st1 b)
 |.cmp o a b=>(ev call ρ st a).bind λx st1=>(ev call ρ st1 b).bind λy st2=>toR (yu o x y) st2
 |.chain o p a b c=>(ev call ρ st a).bind λx st1=>(ev call ρ st1 b).bind λy st2=>onO (blO (yu o x y)) λk=>cond k ((ev call ρ st2 c).bind λz st3=>toR (yu p y z) st3) (.ok (.bl AC) st2)
 |.ite c a b=>(ev call ρ st c).bind λx st1=>onO (yaK st1 x) λk=>cond k (ev call ρ st1 a) (ev call ρ st1 b)
 |.tup es=>(evs call ρ st es).bind λvs st1=>if vs.length<=sizeMax then .ok (.tup vs) st1 else .bad
 |.lst es=>(evs call ρ st es).bind λvs st1=>if vs.length<=sizeMax then .ok (.lst vs) st1 else .bad
 |.newl es=>(evs call ρ st es).bind λvs st1=>if vs.length<=sizeMax then .ok (.loc st1.length) (st1++[.lst vs])else .bad
 |.dict0 t=>.ok (.loc st.length) (st++[.dct t []])
 |.idx a i=>(ev call ρ st a).bind λx st1=>(ev call ρ st1 i).bind λy st2=>toR (idxV st2 x y) st2
 |.slc a l h=>(ev call ρ st a).bind λx st1=>(ev call ρ st1 l).bind λy st2=>onP (yb3 y) λo=>(ev call ρ st2 h).bind λz st3=>toR (ycx x o z) st3
 |.call f es=>(evs call ρ st es).bind λvs st1=>call f vs st1
 |.blt b es=>(evs call ρ st es).bind λvs st1=>toR (yar b st1 vs) st1
 |.mth m o es=>(ev call ρ st o).bind λx st1=>onO (yaL m st1 x) λ_=>(evs call ρ st1 es).bind λvs st2=>yb5 m st2 x vs
 |.isi a ts=>(ev call ρ st a).bind λx st1=>toR (yaM x ts) st1
 |.comp sl tg it c e=>(evi call ρ st it).bind λxs st1=>
  let ρ0:Env:=sl.map λo=>o.bind λj=>(ρ[j]?).join
  ych (yaP (λx st2=>match yI tg x ρ0 with
   |none=>.bad
   |some ρ1=>(ev call ρ1 st2 c).bind λb st3=>onO (yaK st3 b) λk=>cond k ((ev call ρ1 st3 e).bind λy st4=>.ok (AA y) st4) (.ok AD st3)) xs st1)
 |.nope=>.bad
 |.frz a=>(ev call ρ st a).bind λx st1=>ydl x st1
 |.dix D a=>(ev call ρ st a).bind λx st1=>toR (ycn D x) st1
 |.din a D=>(ev call ρ st a).bind λx st1=>toR (yce D x) st1
 |.fld c a f=>(ev call ρ st a).bind λx st1=>toR (yaZ c st1 x f) st1
 |.new c i es=>(evs call ρ st es).bind λvs st1=>(ybB (call i (.loc st1.length::vs) (st1++[.ins c []]))).bind λv st2=>newV st1.length v st2
 |.mcl c i m o es=>(ev call ρ st o).bind λx st1=>onO (ybX c m st1 x) λ_=>(evs call ρ st1 es).bind λvs st2=>call i (x::vs) st2
 |.cav i L es=>match ycu L ρ[i]? with
  |some j=>(evs call ρ st es).bind λvs st1=>call j vs st1
  |none=>.bad
noncomputable def evs(call:Nat->List PV->SO->R PV)(ρ:Env)(st:SO):Ces->R (List PV)
 |.nil=>.ok [] st
 |.cons e es=>(ev call ρ st e).bind λv st1=>(evs call ρ st1 es).bind λvs st2=>.ok (v::vs) st2
noncomputable def evi(call:Nat->List PV->SO->R PV)(ρ:Env)(st:SO):Cit->R (List PV)
 |.seq e=>(ev call ρ st e).bind λv st1=>match v with
  |.tp _ xs=>.ok xs st1
  |.lst xs=>.ok xs st1
  |_=>.bad
 |.range1 a=>(ev call ρ st a).bind λx st1=>toL (ybU x) st1
 |.range2 a b=>(ev call ρ st a).bind λx st1=>(ev call ρ st1 b).bind λy st2=>toL (yfr x y) st2
 |.rangeD a b=>(ev call ρ st a).bind λx st1=>(ev call ρ st1 b).bind λy st2=>toL (yfZ x y) st2
 |.enum e=>(ev call ρ st e).bind λv st1=>match v with
  |.tp _ xs=>.ok (yV 0 xs) st1
  |_=>.bad
 |.zip a b=>(ev call ρ st a).bind λx st1=>(ev call ρ st1 b).bind λy st2=>toL (ydN x y) st2
 |.revl e=>(ev call ρ st e).bind λv st1=>toL (ygc v) st1
 |.revr a=>(ev call ρ st a).bind λx st1=>toL (ygv x) st1
 |.chars e=>(ev call ρ st e).bind λv st1=>toL (ydt v) st1
end
def R.fl{α:Type}(r:R α)(ρ:Env)(k:α->SO->Fl):Fl:=
 match r with
 |.ok a st=>k a st
 |.exc c st=>.exc c ρ st
 |.bad=>.bad
def yat(f:Fl)(k:Env->SO->Fl):Fl:=
 match f with
 |.nx ρ st=>k ρ st
 |.ct ρ st=>k ρ st
 |.bk ρ st=>.nx ρ st
 |f=>f
def forL(t:Tg)(body:Env->SO->Fl):List PV->Env->SO->Fl
 |[],ρ,st=>.nx ρ st
 |x::xs,ρ,st=>match yI t x ρ with
  |none=>.bad
  |some ρ1=>yat (body ρ1 st) λρ2 st2=>forL t body xs ρ2 st2
def yao(test:Env->SO->R PV)(body:Env->SO->Fl):Nat->Env->SO->Fl
 |0,_,_=>.bad
 |n+1,ρ,st=>(test ρ st).fl ρ λx st1=>onF (yaK st1 x) λk=>cond k (yat (body ρ st1) λρ2 st2=>yao test body n ρ2 st2) (.nx ρ st1)
def ybx(st:SO)(o i v:PV):Option SO:=
 match o with
 |.loc n=>match st[n]? with
  |some (.lst xs)=>match i with
   |.int k=>match ixI xs.length k with
    |some j=>AA (st.set n (.lst (xs.set j v)))
    |none=>AD
   |_=>AD
  |_=>AD
 |_=>AD
def yba(st:SO)(o i v:PV):Option SO:=
 match o with
 |.loc n=>match st[n]? with
  |some (.dct t kvs)=>if isKey t i/\kvs.length<1000000 then AA (st.set n (.dct t (put i v kvs)))else AD
  |_=>AD
 |_=>AD
mutual
noncomputable def ex(call:Nat->List PV->SO->R PV)(ρ:Env)(st:SO):Cs->Fl
 |.expr e=>(ev call ρ st e).fl ρ λ_ st1=>.nx ρ st1
 |.asg t e=>(ev call ρ st e).fl ρ λv st1=>match yI t v ρ with
  |some ρ1=>.nx ρ1 st1
  |none=>.bad
 |.six o i e=>(ev call ρ st e).fl ρ λv st1=>(ev call ρ st1 o).fl ρ λx st2=>(ev call ρ st2 i).fl ρ λy st3=>match ybx st3 x y v with
  |some st4=>.nx ρ st4
  |none=>.bad
 |.dput o i e=>(ev call ρ st e).fl ρ λv st1=>(ev call ρ st1 o).fl ρ λx st2=>(ev call ρ st2 i).fl ρ λy st3=>match yba st3 x y v with
  |some st4=>.nx ρ st4
  |none=>.bad
 |.aug i o e=>match ρ[i]? with
  |some (AA x)=>(ev call ρ st e).fl ρ λy st1=>match ybN o x y with
   |some z=>.nx (ρ.set i (AA z)) st1
   |none=>.bad
  |_=>.bad
 |.ret e=>(ev call ρ st e).fl ρ λv st1=>.rt v st1
 |.ite c a b=>(ev call ρ st c).fl ρ λx st1=>onF (yaK st1 x) λk=>cond k (exs call ρ st1 a) (exs call ρ st1 b)
 |.for t it b=>(evi call ρ st it).fl ρ λxs st1=>forL t (λρ2 st2=>exs call ρ2 st2 b) xs ρ st1
 |.while c b=>yao (λρ2 st2=>ev call ρ2 st2 c) (λρ2 st2=>exs call ρ2 st2 b) 100000 ρ st
 |.nope=>.bad
 |.mkr i D n es=>(ev call ρ st n).fl ρ λx st1=>match mkV D (decide (i<ρ.length)) x with
  |some j=>((evs call (ρ.set i AD) st1 es).bind λvs st2=>call j vs st2).fl (ρ.set i AD) λv st3=>.rt v st3
  |none=>.bad
 |.sfl c o f e=>(ev call ρ st e).fl ρ λv st1=>(ev call ρ st1 o).fl ρ λx st2=>match ya0 c st2 x f v with
  |some st3=>.nx ρ st3
  |none=>.bad
noncomputable def exs(call:Nat->List PV->SO->R PV)(ρ:Env)(st:SO):Css->Fl
 |.nil=>.nx ρ st
 |.cons s ss=>match ex call ρ st s with
  |.nx ρ1 st1=>exs call ρ1 st1 ss
  |f=>f
end
structure Fn where
 np:Nat
 ns:Nat
 pure:Bool
 body:Css
def yc(T:Nat->Option Fn):Nat->Nat->List PV->SO->R PV
 |0,_,_,_=>.bad
 |k+1,f,args,st=>match T f with
  |none=>.bad
  |some fn=>if args.length=fn.np then
    if fn.pure then
     if nLs args then match exs (yc T k) (args.map AA++An (fn.ns-fn.np) AD) [] fn.body with
      |.rt v _=>if nL v then .ok v st else .bad
      |.nx _ _=>.ok .non st
      |.exc c _ _=>.exc c st
      |_=>.bad
     else .bad
    else match exs (yc T k) (args.map AA++An (fn.ns-fn.np) AD) st fn.body with
     |.rt v st1=>.ok v st1
     |.nx _ st1=>.ok .non st1
     |.exc c _ st1=>.exc c st1
     |_=>.bad
   else .bad
def yr:List (Sum Ce Int)->Ces
 |[]=>.nil
 |.inl c::r=>.cons c (yr r)
 |.inr i::r=>.cons (.cst (.int i)) (yr r)
def yaj:Ces->Ces->Ces
 |.nil,b=>b
 |.cons e r,b=>.cons e (yaj r b)
end IC
namespace L2
open PySem PySem.Spec PyProof.Rows IC
abbrev Ph:=List (Option AI)
section
variable (K:AF)(cl:Nat->AI)(B:AI->Prop)(φ:Ph)(H:Hp)
def ybK(k:Bool)(a:AI)(xs:List V):Prop:=(H a=AA (.tup xs)/\¬B a/\AA a∉φ) \/
 k=AB/\∃(o:CF) (its:Array AG) (n:Nat),K.lookup a=AA o/\o.cls=.type "tuple"/\o.data=.seq its n/\its.size<=sizeLine/\Vals xs its.toList
def ycF(a:AI)(xs:List V):Prop:=H a=AA (.lst xs)/\¬B a/\AA a∉φ
def ydK(a:AI)(xs:List V):Prop:=(Rd H a (.lst xs)/\¬B a/\AA a∉φ) \/
 ∃(o:CF) (its:Array AG) (n:Nat),K.lookup a=AA o/\o.cls=.type "list"/\o.dict=AD/\o.data=.seq its n/\its.size<=sizeLine/\Vals xs its.toList
mutual
noncomputable def yd:PV->V->Prop
 |.non,x=>x=.non
 |.bl b,x=>x=.bl b
 |.int i,x=>x=.int i
 |.str s,x=>x=.str s
 |.tp k vs,x=>∃a xs,x=.ref a/\ybK K B φ H k a xs/\ye vs xs
 |.lst vs,x=>∃a xs,x=.ref a/\ycF B φ H a xs/\ye vs xs
 |.loc n,x=>n<φ.length/\∃a,x=.ref a/\∀b,φ[n]?=AA (AA b)->b=a
 |.exn c,x=>∃a,x=.ref a/\H a=AA (.ext (ygI a (cl c)))/\¬B a/\AA a∉φ
 |.scr vs,x=>∃a xs,x=.ref a/\ydK K B φ H a xs/\ye vs xs
 |.fnc j,x=>x=.ref (cl (1000+j))
noncomputable def ye:List PV->List V->Prop
 |[],xs=>xs=[]
 |v::vs,xs=>∃y ys,xs=y::ys/\yd v y/\ye vs ys
end
def yaG:Key->PV
 |.inl i=>.int i
 |.inr y=>.str y
def DK:List (PV×PV)->List (Key×V)->Prop
 |[],ks=>ks=[]
 |(k,v)::r,ks=>∃q x s,ks=(q,x)::s/\k=yaG q/\yd K cl B φ H v x/\DK r s
def DT:List (PV×PV)->List (List Key×V)->Prop
 |[],ks=>ks=[]
 |(k,v)::r,ks=>∃q x s,ks=(q,x)::s/\k=.tup (q.map yaG)/\yd K cl B φ H v x/\DT r s
def FS:List (AN×PV)->List (AN×V)->Prop
 |[],ks=>ks=[]
 |(k,v)::r,ks=>∃x s,ks=(k,x)::s/\yd K cl B φ H v x/\FS r s
def yb7:Ob->AI->Prop
 |.lst vs,a=>∃xs,H a=AA (.lst xs)/\ye K cl B φ H vs xs
 |.dct AC kvs,a=>∃ks,H a=AA (.dK ks)/\DK K cl B φ H kvs ks
 |.dct AB kvs,a=>∃ks,H a=AA (.dT ks)/\DT K cl B φ H kvs ks
 |.dead,_=>False
 |.ins c fs,a=>∃ks,(∃dx,H a=AA (.ins (cl c) dx ks))/\FS K cl B φ H fs ks
structure yt(st:SO):Prop where
 len:φ.length=st.length
 inj:∀(m n:Nat) (a:AI),φ[m]?=AA (AA a)->φ[n]?=AA (AA a)->m=n
 obj:∀(n:Nat) (a:AI),φ[n]?=AA (AA a)->∃o,st[n]?=AA o/\yb7 K cl B φ H o a
 liv:∀(n:Nat) (o:Ob),st[n]?=AA o->o ≠ .dead->∃a,φ[n]?=AA (AA a)
 nb:∀a,AA a∈φ->¬B a
 dom:∀a,B a->∃o,H a=AA o
structure yJ(ρ:IC.Env)(σ:St):Prop where
 len:ρ.length=σ.length
 get:∀(i:Nat) (v:PV),ρ[i]?=AA (AA v)->∃x,σ[i]?=AA (AA x)/\yd K cl B φ H v x
end
structure Step(φ:Ph)(H:Hp)(φ':Ph)(H':Hp):Prop where
 keep:∀b o,AA b∉φ->H b=AA o->H' b=AA o
 len:φ.length<=φ'.length
 pre:∀(n:Nat) (a:AI),n<φ.length->φ'[n]?=AA (AA a)->φ[n]?=AA (AA a)
 new:∀b,AA b∈φ'->AA b∈φ \/ H b=AD
theorem Step.rfl{φ:Ph}{H:Hp}:Step φ H φ H:=⟨λ_ _ _ e=>e,AT _,λ_ _ _ e=>e,λ_ h=>.inl h⟩
theorem Step.trans{φ φ1 φ2:Ph}{H H1 H2:Hp}(s:Step φ H φ1 H1)(t:Step φ1 H1 φ2 H2):Step φ H φ2 H2:=by
 refine⟨λb o n e=>?_,BV s.len t.len,λn a hn e=>s.pre n a hn (t.pre n a (A2 hn s.len) e),λb hb=>?_⟩
 .refine t.keep b o (λh=>?_) (s.keep b o n e);rcases s.new b h with q|q
  .exact n q
  .rw[e]at q;cases q
 .rcases t.new b hb with q|q
  .exact s.new b q
  .by_cases h:AA b∈φ
   .exact .inl h
   .refine .inr ?_
    cases e:H b with
    |none=>exact DL _
    |some o=>rw[s.keep b o h e]at q;cases q
section
variable {K:AF}{cl:Nat->AI}{B:AI->Prop}{φ φ':Ph}{H H':Hp}{st:SO}{ρ:IC.Env}{σ:St}
theorem Rd.step(s:Step φ H φ' H'){a:AI}{u:HO}(n:AA a∉φ)(r:Rd H a u):Rd H' a u/\AA a∉φ':=by
 have h:∃o,H a=AA o:=by
  rcases r with r|⟨o,r⟩<;>exact⟨_,r⟩
 refine⟨?_,λz=>?_⟩
 .rcases r with r|⟨o,r⟩
  .exact .inl (s.keep _ _ n r)
  .exact .inr ⟨o,s.keep _ _ n r⟩
 .let⟨o,e⟩:=h;rcases s.new a z with q|q
  .exact n q
  .rw[e]at q;cases q
theorem ybK.step(s:Step φ H φ' H'){k:Bool}{a:AI}{xs:List V}(r:ybK K B φ H k a xs):ybK K B φ' H' k a xs:=by
 rcases r with⟨r,b,n⟩|r
 .let⟨_,n'⟩:=(Rd.of r).step s n;exact .inl ⟨s.keep _ _ n r,b,n'⟩
 .exact .inr r
theorem ycF.step(s:Step φ H φ' H'){a:AI}{xs:List V}(r:ycF B φ H a xs):ycF B φ' H' a xs:=by
 let⟨r,b,n⟩:=r;let⟨_,n'⟩:=(Rd.of r).step s n;exact⟨s.keep _ _ n r,b,n'⟩
theorem ydK.step(s:Step φ H φ' H'){a:AI}{xs:List V}(r:ydK K B φ H a xs):ydK K B φ' H' a xs:=by
 rcases r with⟨r,b,n⟩|r
 .let⟨r',n'⟩:=r.step s n;exact .inl ⟨r',b,n'⟩
 .exact .inr r
mutual
theorem yd.step(s:Step φ H φ' H'):∀(v:PV) (x:V),yd K cl B φ H v x->yd K cl B φ' H' v x
 |.non,x,h=>by erw[yd]at h ⊢;exact h
 |.bl b,x,h=>by erw[yd]at h ⊢;exact h
 |.int i,x,h=>by erw[yd]at h ⊢;exact h
 |.str y,x,h=>by erw[yd]at h ⊢;exact h
 |.tp k vs,x,h=>by
  erw[yd]at h ⊢;let⟨a,xs,e,r,l⟩:=h;exact⟨a,xs,e,r.step s,ye.step s vs xs l⟩
 |.lst vs,x,h=>by
  erw[yd]at h ⊢;let⟨a,xs,e,r,l⟩:=h;exact⟨a,xs,e,r.step s,ye.step s vs xs l⟩
 |.loc n,x,h=>by
  erw[yd]at h ⊢;let⟨h1,a,e,h2⟩:=h;exact⟨A2 h1 s.len,a,e,λb q=>h2 b (s.pre n b h1 q)⟩
 |.fnc j,x,h=>by erw[yd]at h ⊢;exact h
 |.exn c,x,h=>by
  erw[yd]at h ⊢;let⟨a,e,r,b,n⟩:=h;let⟨_,n'⟩:=(Rd.of r).step s n;exact⟨a,e,s.keep _ _ n r,b,n'⟩
 |.scr vs,x,h=>by
  erw[yd]at h ⊢;let⟨a,xs,e,r,l⟩:=h;exact⟨a,xs,e,r.step s,ye.step s vs xs l⟩
theorem ye.step(s:Step φ H φ' H'):∀(v:List PV) (x:List V),ye K cl B φ H v x->ye K cl B φ' H' v x
 |[],x,h=>by erw[ye]at h ⊢;exact h
 |v::vs,x,h=>by
  erw[ye]at h ⊢;let⟨y,ys,e,r,l⟩:=h;exact⟨y,ys,e,yd.step s v y r,ye.step s vs ys l⟩
end
theorem yJ.step(s:Step φ H φ' H')(r:yJ K cl B φ H ρ σ):yJ K cl B φ' H' ρ σ:=⟨r.len,λi v e=>by
 let⟨x,h,q⟩:=r.get i v e;exact⟨x,h,q.step s⟩⟩
mutual
theorem yd.inn(hn:∀a,AA a∈φ->¬B a):∀(v:PV) (x:V),nL v=AB->yd K cl B φ H v x->yd K cl (λa=>B a \/ AA a∈φ) [] H v x
 |.non,x,_,h=>by erw[yd]at h ⊢;exact h
 |.bl b,x,_,h=>by erw[yd]at h ⊢;exact h
 |.int i,x,_,h=>by erw[yd]at h ⊢;exact h
 |.str y,x,_,h=>by erw[yd]at h ⊢;exact h
 |.tp k vs,x,q,h=>by
  erw[yd]at h ⊢;let⟨a,xs,e,r,l⟩:=h;refine⟨a,xs,e,?_,ye.inn hn vs xs (by simpa only[nL] using q) l⟩;rcases r with⟨r,b,n⟩|r
  .exact .inl ⟨r,λz=>z.elim b n,by simp⟩
  .exact .inr r
 |.lst vs,x,q,h=>by
  erw[yd]at h ⊢;let⟨a,xs,e,⟨r,b,n⟩,l⟩:=h;exact⟨a,xs,e,⟨r,λz=>z.elim b n,by simp⟩,ye.inn hn vs xs (by simpa only[nL] using q) l⟩
 |.loc n,x,q,h=>by simp[nL]at q
 |.fnc j,x,q,h=>by simp[nL]at q
 |.exn c,x,q,h=>by simp[nL]at q
 |.scr vs,x,q,h=>by
  erw[yd]at h ⊢;let⟨a,xs,e,r,l⟩:=h;refine⟨a,xs,e,?_,ye.inn hn vs xs (by simpa only[nL] using q) l⟩;rcases r with⟨r,b,n⟩|r
  .exact .inl ⟨r,λz=>z.elim b n,by simp⟩
  .exact .inr r
theorem ye.inn(hn:∀a,AA a∈φ->¬B a):∀(v:List PV) (x:List V),nLs v=AB->ye K cl B φ H v x->ye K cl (λa=>B a \/ AA a∈φ) [] H v x
 |[],x,_,h=>by erw[ye]at h ⊢;exact h
 |v::vs,x,q,h=>by
  erw[ye]at h ⊢;erw[nLs,AK]at q;let⟨y,ys,e,r,l⟩:=h;exact⟨y,ys,e,yd.inn hn v y q.1 r,ye.inn hn vs ys q.2 l⟩
end
mutual
theorem yd.out{ψ:Ph}:∀(v:PV) (x:V),nL v=AB->yd K cl (λa=>B a \/ AA a∈φ) ψ H v x->yd K cl B φ H v x
 |.non,x,_,h=>by erw[yd]at h ⊢;exact h
 |.bl b,x,_,h=>by erw[yd]at h ⊢;exact h
 |.int i,x,_,h=>by erw[yd]at h ⊢;exact h
 |.str y,x,_,h=>by erw[yd]at h ⊢;exact h
 |.tp k vs,x,q,h=>by
  erw[yd]at h ⊢;let⟨a,xs,e,r,l⟩:=h;refine⟨a,xs,e,?_,ye.out vs xs (by simpa only[nL] using q) l⟩;rcases r with⟨r,b,n⟩|r
  .exact .inl ⟨r,λz=>b (.inl z),λz=>b (.inr z)⟩
  .exact .inr r
 |.lst vs,x,q,h=>by
  erw[yd]at h ⊢;let⟨a,xs,e,⟨r,b,n⟩,l⟩:=h;exact⟨a,xs,e,⟨r,λz=>b (.inl z),λz=>b (.inr z)⟩,ye.out vs xs (by simpa only[nL] using q) l⟩
 |.loc n,x,q,h=>by simp[nL]at q
 |.fnc j,x,q,h=>by simp[nL]at q
 |.exn c,x,q,h=>by simp[nL]at q
 |.scr vs,x,q,h=>by
  erw[yd]at h ⊢;let⟨a,xs,e,r,l⟩:=h;refine⟨a,xs,e,?_,ye.out vs xs (by simpa only[nL] using q) l⟩;rcases r with⟨r,b,n⟩|r
  .exact .inl ⟨r,λz=>b (.inl z),λz=>b (.inr z)⟩
  .exact .inr r
theorem ye.out{ψ:Ph}:∀(v:List PV) (x:List V),nLs v=AB->ye K cl (λa=>B a \/ AA a∈φ) ψ H v x->ye K cl B φ H v x
 |[],x,_,h=>by erw[ye]at h ⊢;exact h
 |v::vs,x,q,h=>by
  erw[ye]at h ⊢;erw[nLs,AK]at q;let⟨y,ys,e,r,l⟩:=h;exact⟨y,ys,e,yd.out v y q.1 r,ye.out vs ys q.2 l⟩
end
theorem ye.length:∀{v:List PV} {x:List V},ye K cl B φ H v x->v.length=x.length
 |[],x,h=>by erw[ye]at h;subst h;rfl
 |v::vs,x,h=>by
  erw[ye]at h;let⟨y,ys,rfl,_,l⟩:=h;simp[ye.length l]
theorem DK.step(s:Step φ H φ' H'):∀{kvs:List (PV×PV)} {ks:List (Key×V)},DK K cl B φ H kvs ks->DK K cl B φ' H' kvs ks
 |[],ks,h=>h
 |(k,v)::r,ks,h=>by
  let⟨q,x,t,e,m,rv,l⟩:=h;exact⟨q,x,t,e,m,rv.step s,DK.step s l⟩
theorem DT.step(s:Step φ H φ' H'):∀{kvs:List (PV×PV)} {ks:List (List Key×V)},DT K cl B φ H kvs ks->DT K cl B φ' H' kvs ks
 |[],ks,h=>h
 |(k,v)::r,ks,h=>by
  let⟨q,x,t,e,m,rv,l⟩:=h;exact⟨q,x,t,e,m,rv.step s,DT.step s l⟩
theorem FS.step(s:Step φ H φ' H'):∀{kvs:List (AN×PV)} {ks:List (AN×V)},FS K cl B φ H kvs ks->FS K cl B φ' H' kvs ks
 |[],ks,h=>h
 |(k,v)::r,ks,h=>by
  let⟨x,t,e,rv,l⟩:=h;exact⟨x,t,e,rv.step s,FS.step s l⟩
theorem yb7.step(s:Step φ H φ' H'){o:Ob}{a:AI}(e:H' a=H a)(r:yb7 K cl B φ H o a):yb7 K cl B φ' H' o a:=by
 cases o with
 |lst vs=>
  let⟨xs,q,l⟩:=r;exact⟨xs,e.trans q,l.step s⟩
 |dct t kvs=>
  cases t with
  |false=>let⟨ks,q,l⟩:=r;exact⟨ks,e.trans q,l.step s⟩
  |true=>let⟨ks,q,l⟩:=r;exact⟨ks,e.trans q,l.step s⟩
 |dead=>exact r
 |ins c fs=>let⟨ks,⟨dx,q⟩,l⟩:=r;exact⟨ks,⟨dx,e.trans q⟩,l.step s⟩
theorem yb7.there{o:Ob}{a:AI}(r:yb7 K cl B φ H o a):∃u,H a=AA u:=by
 cases o with
 |lst vs=>let⟨xs,q,l⟩:=r;exact⟨_,q⟩
 |dct t kvs=>cases t<;>(let⟨ks,q,l⟩:=r;exact⟨_,q⟩)
 |dead=>exact r.elim
 |ins c fs=>let⟨ks,⟨dx,q⟩,l⟩:=r;exact⟨_,q⟩
theorem yt.there(S:yt K cl B φ H st){a:AI}(h:AA a∈φ):∃u,H a=AA u:=by
 let⟨n,e⟩:=DS.mp h;let⟨o,_,r⟩:=S.obj n a e;exact r.there
theorem Step.upd{p:AI}{o:HO}(hp:H p=AD):Step φ H φ (upd H p o):=
 ⟨λb u n e=>by rw[zj (zl e hp)];exact e,AT _,λ_ _ _ e=>e,λ_ h=>.inl h⟩
theorem yt.same(S:yt K cl B φ H st)(k:∀b o,H b=AA o->H' b=AA o):yt K cl B φ H' st:=by
 have s:Step φ H φ H':=⟨λb o _ e=>k b o e,AT _,λ_ _ _ e=>e,λ_ h=>.inl h⟩;refine⟨S.len,S.inj,λn a e=>?_,S.liv,S.nb,λa h=>?_⟩
 .let⟨o,q,r⟩:=S.obj n a e;let⟨u,z⟩:=r.there;exact⟨o,q,r.step s ((k a u z).trans z.symm)⟩
 .let⟨o,q⟩:=S.dom a h;exact⟨o,k a o q⟩
theorem yt.upd{p:AI}{o:HO}(S:yt K cl B φ H st)(hp:H p=AD):yt K cl B φ (upd H p o) st:=S.same λb u e=>by rw[zj (zl e hp)];exact e
mutual
theorem yd.moreB{B':AI->Prop}(hn:∀y,B' y->B y \/ H y=AD):∀(v:PV) (x:V),yd K cl B φ H v x->yd K cl B' φ H v x
 |.non,x,h=>by erw[yd]at h ⊢;exact h
 |.bl b,x,h=>by erw[yd]at h ⊢;exact h
 |.int i,x,h=>by erw[yd]at h ⊢;exact h
 |.str y,x,h=>by erw[yd]at h ⊢;exact h
 |.tp k vs,x,h=>by
  erw[yd]at h ⊢;let⟨y,xs,e,r,l⟩:=h;refine⟨y,xs,e,?_,ye.moreB hn vs xs l⟩;rcases r with⟨r,b,n⟩|r
  .exact .inl ⟨r,λz=>(hn y z).elim b λq=>(by rw[q]at r;cases r),n⟩
  .exact .inr r
 |.lst vs,x,h=>by
  erw[yd]at h ⊢;let⟨y,xs,e,⟨r,b,n⟩,l⟩:=h;exact⟨y,xs,e,⟨r,λz=>(hn y z).elim b λq=>(by rw[q]at r;cases r),n⟩,ye.moreB hn vs xs l⟩
 |.loc n,x,h=>by erw[yd]at h ⊢;exact h
 |.fnc j,x,h=>by erw[yd]at h ⊢;exact h
 |.exn c,x,h=>by
  erw[yd]at h ⊢;let⟨y,e,r,b,n⟩:=h;exact⟨y,e,r,λz=>(hn y z).elim b λq=>(by rw[q]at r;cases r),n⟩
 |.scr vs,x,h=>by
  erw[yd]at h ⊢;let⟨y,xs,e,r,l⟩:=h;refine⟨y,xs,e,?_,ye.moreB hn vs xs l⟩;rcases r with⟨r,b,n⟩|r
  .refine .inl ⟨r,λz=>(hn y z).elim b λq=>?_,n⟩;rcases r with r|⟨o,r⟩<;>(rw[q]at r;cases r)
  .exact .inr r
theorem ye.moreB{B':AI->Prop}(hn:∀y,B' y->B y \/ H y=AD):∀(v:List PV) (x:List V),ye K cl B φ H v x->ye K cl B' φ H v x
 |[],x,h=>by erw[ye]at h ⊢;exact h
 |v::vs,x,h=>by
  erw[ye]at h ⊢;let⟨y,ys,e,r,l⟩:=h;exact⟨y,ys,e,yd.moreB hn v y r,ye.moreB hn vs ys l⟩
end
end
end L2
namespace L2
open PySem PySem.Spec PyProof.Rows
def CXH(X:Cx)(H:Hp)(s:AJ)(E:XK)(e:AG)(s':AJ):Prop:=
 ∃(C a:AI) (cls a0 fl:AG) (H':Hp) (B:BB),X.s₀.heap.objs.size<=C/\e=.ref a/\s'.os=s.os/\D0 s'.gens /\
  (B.StaysIn s'.heap/\B.get? a=AD/\s'.heap.FunFrames B X.stack/\s'.heap.TracedAtW B a cls a0 fl)/\HOk X.prog X.w H' s'.heap/\Un (frs X.stack) [C] H H' s.heap s'.heap /\
  (∀b o,s.heap.get? b=AA o->H b=AD->b∉frs X.stack->b≠C->B.get? b=AA o)/\(∀b u,H' b=AA u->∃o,B.get? b=AA o)/\(∀b o,s.heap.get? b=AA o->b∉frs X.stack->b≠C->∃o',B.get? b=AA o')/\E cls AD H'
theorem CXH.mono{X:Cx}{H:Hp}{s:AJ}{E E':XK}{e:AG}{s':AJ}(h:CXH X H s E e s')(n:∀cls H',E cls AD H'->E' cls AD H'):CXH X H s E' e s':=by
 let⟨C,a,cls,a0,fl,H',B,r1,r2,r3,r4,r5,r6,r7,r8,r9,r10,r11⟩:=h;exact⟨C,a,cls,a0,fl,H',B,r1,r2,r3,r4,r5,r6,r7,r8,r9,r10,n _ _ r11⟩
section
variable {M:Model}{A:Ar}{E:AG->AJ->Prop}{s:AJ}
def zfJ{base:BB}{env:Env}{outer:List Env}{L e:AI}{cls a0 fl:AG}{Q:Unit->AJ->Prop}
  (hfr:A.frames=AA (env::outer)) (hf:env.frame=AA L) (f1:base.StaysIn s.heap) (f2:base.get? e=AD) (f3:s.heap.FunFrames base (env::outer)) (f4:s.heap.TracedAtW base e cls a0 fl)
  (hQ:∀h',Gv base outer e cls a0 h'->s.heap.UpToSlots h'->Q () {s with heap:=h'}):A0 M A («leaving» env (.ref e)) Q E s:=by
 by_cases hfl:fl=rawInt L
 .subst hfl;unfold «leaving»;refine AH (wpAny_noteFrame_againW hf f4 ?_);refine wpAny_landsW ⟨f1,f2,f3,f4⟩ λh' hfl up=>?_;let⟨k1,k2,⟨_,_,k3⟩,k4⟩:=hfl;exact hQ h' ⟨k1,k2,k3,k4⟩ up
 .let⟨oe,vs,T,oT,ts,he,⟨hcls,h0⟩,hd,h1,hnT,hTe,hT,hdT,h3⟩:=f4;subst hcls;unfold «leaving» noteFrame;erw[hf];refine AH (AH (BT he hd h1 ?_));rw[if_pos (show (Ad T != CM)=AB from by simp)];refine AH (BT hT hdT h3 ?_);rw[if_neg (show ¬((fl==rawInt L)=AB)from λz=>hfl (eq_of_beq z))];refine AH (FB hT hdT (EA.mp h3).1 ?_);have other:∀b,b≠T->(s.heap.update T (Obj.mapFields (·.setIfInBounds 3 CM))).get? b=s.heap.get? b:=λb hb=>DH _ _ (BE hb);have noRecord:∀b o,s.heap.get? b=AA o->(∀vs,o.data ≠ .fields vs)->b≠T:=λb o hb hnf q=>by
   rw[q,hT]at hb;injection hb with hb;subst hb;exact hnf ts hdT
  refine wpAny_newEntryW hfr (f3.of_keeps λb o hb hnf=>⟨o,(other b (noRecord b o hb hnf)).trans hb,rfl⟩) hf ((other e (BE hTe)).trans he)
   (λb o hbo=>(other b λq=>by rw[q,hnT]at hbo;cases hbo).trans (f1 b o hbo)) f2 hd (EA.mp h1).1 h0
   λh' ⟨x1,⟨_,_,x2⟩,x3,x4⟩=>hQ h' ⟨x1,f2,x2,x3⟩ λb o hb hnf=>x4 b o ((other b (noRecord b o hb hnf)).trans hb) hnf
end
section
variable {P:A3}{w:Ag}{K:AF}{mg:AN->Option AG}{base:BB}{N:List AN}{qual:AN}{scope:Bk}{f:AI}{cd:AG}{A:Ar}{outer:List Env}{s₀:AJ}{H₀:Hp}{E:XK}
def zp6{π:List (AI×CF)}{σ:St}{H:Hp}{s:AJ}{e:AG}{s':AJ}(I:Inv (yaV (CX1 P w) P w K mg base N qual scope f cd A outer s₀ H₀ E) π σ H s)(h:CXH (yaV (CX1 P w) P w K mg base N qual scope f cd A outer s₀ H₀ E) H s E e s'):
  (yaV (CX1 P w) P w K mg base N qual scope f cd A outer s₀ H₀ E).xe e s':=by
 let⟨C,a,cls,a0,fl,H',B,hC,rfl,os,bare,⟨f1,f2,f3,f4⟩,hok,un,hB,tr,hT,hE⟩:=h;have bse:Un (frs outer) [] H₀ H s₀.heap s.heap:=I.base;have lt:∀b o,s₀.heap.get? b=AA o->b≠s₀.heap.objs.size:=λb o q=>Ah (AV q);have neC:∀b o,s₀.heap.get? b=AA o->b≠C:=λb o q=>Ah (A2 (AV q) hC);have niC:∀b o,s₀.heap.get? b=AA o->b∉[C]:=λb o q z=>neC b o q (by simpa using z);have hst:∀b,b∈frs (envOfC qual scope s₀.heap.objs.size f cd::outer)->b=s₀.heap.objs.size \/ b∈frs outer:=λb hb=>by
  have hb':b∈s₀.heap.objs.size::frs outer:=hb;exact AR.mp hb'
 have un':Un (frs (envOfC qual scope s₀.heap.objs.size f cd::outer)) [C] H H' s.heap s'.heap:=un;have kB:∀b o,s₀.heap.get? b=AA o->H₀ b=AD->b∉frs outer->B.get? b=AA o:=λb o q n hb=>hB b o (bse.keep b o q n hb (by simp)) (bse.free b o q n (by simp)) (λz=>by
  rcases hst b z with z|z
  .exact lt b o q z
  .exact hb z) (neC b o q)
 have kT:∀b o,s₀.heap.get? b=AA o->b∉frs outer->∃o',B.get? b=AA o':=λb o q hb=>by
  let⟨o',q1⟩:=bse.there b o q (by simp);refine hT b o' q1 (λz=>?_) (neC b o q);rcases hst b z with z|z
  .exact lt b o q z
  .exact hb z
 refine zfJ I.ok.frames rfl f1 f2 f3 f4 λh'' fl' up=>?_;refine⟨a,cls,a0,H',B,rfl,os.trans I.os,bare,fl',HOk.inB hok f1 fl'.1 tr,⟨λb o q n hb _=>fl'.1 b o (kB b o q n hb),λb o q n hb _=>?_,λb o q n _=>?_,λb o q _=>?_,λb xs q=>un'.tups b xs (bse.tups b xs q),λb o u q=>un'.frzs b o u (bse.frzs b o u q),λb ps q=>?_⟩,kB,tr,kT,hE⟩
 .let⟨sl,q1⟩:=bse.slot b o q n hb (by simp);have n1:=bse.free b o q n (by simp);let⟨sl1,q2⟩:=un'.slot b _ q1 n1 (AQ _ hb) (niC b o q);let⟨_,o',ho',hd⟩:=CP f3 (show b∈DJ (λ(z:Env)=>z.frame) _ from AQ _ hb);let⟨sl',q3⟩:=up b _ q2 (by rw[ho']at q2;cases q2;exact hd);exact⟨sl',q3⟩
 .let⟨o',q1⟩:=bse.there b o q (by simp);exact un'.free b o' q1 (bse.free b o q n (by simp)) (niC b o q)
 .let⟨o',q1⟩:=bse.there b o q (by simp);let⟨o2,q2⟩:=un'.there b o' q1 (niC b o q)
  by_cases hb:b∈frs outer
  .let⟨_,o3,ho3,hd⟩:=CP f3 (show b∈DJ (λ(z:Env)=>z.frame) _ from AQ _ hb);let⟨sl',q3⟩:=up b _ ho3 hd;exact⟨_,q3⟩
  .let⟨o4,q4⟩:=kT b o q hb;exact⟨o4,fl'.1 b o4 q4⟩
 .let⟨m1,e1⟩:=bse.tbls b ps q;let⟨m2,e2⟩:=un'.tbls b _ e1;exact⟨m1++m2,by rw[e2,Dr]⟩
end
section
variable {pg:A3}{wd:Ag}{A:Ar}{R:G6->AJ->Prop}{s:AJ}
end
section
variable {X:Cx}{sc:Bk}{NC:List AN}{slots:List (Option Nat)}{elt tg iter:AS}{ifs:List AS}{pos:CT}{g:TG}{ti:TT}{te:CI->TE}{E:XK}
end
end L2
namespace L2
open PySem PySem.Spec PyProof.Rows IC
structure Se where
 cl:Nat->AI
 call:Nat->List PV->SO->R PV
 may:Bool
section
variable (S:Se)(X:Cx)
def ExcAt(σ:St)(B:AI->Prop)(φ:Ph)(H:Hp)(k:Nat)(st':SO)(e:AG)(s':AJ):Prop:=
 (∃π H1 s φ1,Inv X π σ H1 s/\Step φ H φ1 H1/\CX1 X.prog X.w X.stack H1 s (λcls _ H'=>cls=.ref (S.cl k)/\∃φ',Step φ1 H1 φ' H'/\yt X.K S.cl B φ' H' st') e s') \/
 (S.may=AB/\∃π H1 s φ1 h' e0 vs,Inv X π σ H1 s/\Step φ H φ1 H1/\yt X.K S.cl B φ1 H1 st'/\Gb s.heap h' e0 (.ref (S.cl k)) vs/\e=.ref e0/\s'={s with heap:=h'}) \/
 (S.may=AB/\∃π H1 s,Inv X π σ H1 s/\CXH X H1 s (λcls _ H'=>cls=.ref (S.cl k)/\∃φ',Step φ H φ' H'/\yt X.K S.cl B φ' H' st') e s')
def Run{α β:Type}(σ:St)(B:AI->Prop)(φ:Ph)(H:Hp)(Rel:Ph->Hp->α->β->Prop)(r:R α)(Q:β->Hp->Prop):Prop:=
 match r with
 |.ok v st'=>∀x H' φ',Step φ H φ' H'->yt X.K S.cl B φ' H' st'->Rel φ' H' v x->Q x H'
 |.exc k st'=>∀e s',ExcAt S X σ B φ H k st' e s'->X.xe e s'
 |.bad=>False
abbrev RV(B:AI->Prop):Ph->Hp->PV->V->Prop:=λφ H=>yd X.K S.cl B φ H
abbrev RL(B:AI->Prop):Ph->Hp->List PV->List V->Prop:=λφ H=>ye X.K S.cl B φ H
abbrev RB:Ph->Hp->Bool->Bool->Prop:=λ_ _ b c=>b=c
def tE(c:Ce):TE:=λσ H Q=>∃B φ st ρ,yt X.K S.cl B φ H st/\yJ X.K S.cl B φ H ρ σ/\Run S X σ B φ H (RV S X B) (ev S.call ρ st c) Q
def tAs(c:Ces):TA:=λσ H Q=>∃B φ st ρ,yt X.K S.cl B φ H st/\yJ X.K S.cl B φ H ρ σ/\Run S X σ B φ H (RL S X B) (evs S.call ρ st c) Q
def ya4(r:R PV):R Bool:=r.bind λx st=>onO (yaK st x) λb=>.ok b st
def tTs(c:Ce):TT:=λσ H Q=>∃B φ st ρ,yt X.K S.cl B φ H st/\yJ X.K S.cl B φ H ρ σ/\Run S X σ B φ H RB (ya4 (ev S.call ρ st c)) Q
end
section
variable {S:Se}{X:Cx}{σ:St}{B:AI->Prop}{φ φ1:Ph}{H H1:Hp}
theorem ExcAt.back{k:Nat}{st':SO}{e:AG}{s':AJ}(s:Step φ H φ1 H1)(h:ExcAt S X σ B φ1 H1 k st' e s'):ExcAt S X σ B φ H k st' e s':=by
 rcases h with⟨π,H2,t,φ2,I,q,c⟩|⟨m,π,H2,t,φ2,h',e0,vs,I,q,c⟩|⟨m,π,H2,t,I,c⟩
 .exact .inl ⟨π,H2,t,φ2,I,s.trans q,c⟩
 .exact .inr (.inl ⟨m,π,H2,t,φ2,h',e0,vs,I,s.trans q,c⟩)
 .exact .inr (.inr ⟨m,π,H2,t,I,c.mono λcls H' ⟨e1,φ',s2,r⟩=>⟨e1,φ',s.trans s2,r⟩⟩)
variable {α β γ δ:Type}{Rel:Ph->Hp->α->β->Prop}{Gw:Ph->Hp->γ->δ->Prop}
theorem Run.on{r:R α}{Q:β->Hp->Prop}(s:Step φ H φ1 H1)(h:Run S X σ B φ H Rel r Q):Run S X σ B φ1 H1 Rel r Q:=by
 cases r with
 |ok v st'=>exact λx H' φ' t=>h x H' φ' (s.trans t)
 |exc k st'=>exact λe s' x=>h e s' (x.back s)
 |bad=>exact h
theorem Run.mono{r:R α}{Q Q':β->Hp->Prop}(h:Run S X σ B φ H Rel r Q)(k:∀x H',Q x H'->Q' x H'):Run S X σ B φ H Rel r Q':=by
 cases r with
 |ok v st'=>exact λx H' φ' t rs rv=>k x H' (h x H' φ' t rs rv)
 |exc c st'=>exact h
 |bad=>exact h
theorem Run.bind{r:R α}{k:α->SO->R γ}{Q:δ->Hp->Prop}(h:Run S X σ B φ H Gw (r.bind k) Q):
  Run S X σ B φ H Rel r λx H1=>∃v st1 φ1,Step φ H φ1 H1/\yt X.K S.cl B φ1 H1 st1/\Rel φ1 H1 v x/\Run S X σ B φ1 H1 Gw (k v st1) Q:=by
 cases r with
 |ok v st'=>exact λx H' φ' t rs rv=>⟨v,st',φ',t,rs,rv,Run.on t h⟩
 |exc c st'=>exact h
 |bad=>exact h
theorem Run.ok{v:α}{st:SO}{Q:β->Hp->Prop}(h:Run S X σ B φ H Rel (.ok v st) Q)(rs:yt X.K S.cl B φ H st){x:β}(rv:Rel φ H v x):Q x H:=h x H φ .rfl rs rv
theorem PE.imp{e:AS}{t t':TE}(h:PE X e t')(k:∀σ H Q,t σ H Q->t' σ H Q):PE X e t:=λπ s σ H Q I q=>h π s σ H Q I (k σ H Q q)
theorem PT.imp{e:AS}{t t':TT}(h:PT X e t')(k:∀σ H Q,t σ H Q->t' σ H Q):PT X e t:=λπ s σ H Q I q=>h π s σ H Q I (k σ H Q q)
theorem PW.imp{e:AS}{t t':TT}(h:PW X e t')(k:∀σ H Q,t σ H Q->t' σ H Q):PW X e t:=λwh π s σ H Q I q=>h wh π s σ H Q I (k σ H Q q)
theorem PA.imp{e:List AS}{t t':TA}(h:PA X e t')(k:∀σ H Q,t σ H Q->t' σ H Q):PA X e t:=λpos π s σ H Q I q=>h pos π s σ H Q I (k σ H Q q)
theorem tE.bind{c:Ce}{ρ:IC.Env}{st:SO}{k:PV->SO->R γ}{Q:δ->Hp->Prop}{P:V->Hp->Prop}(rs:yt X.K S.cl B φ H st)(re:yJ X.K S.cl B φ H ρ σ)(h:Run S X σ B φ H Gw ((ev S.call ρ st c).bind k) Q)
  (n:∀x H1 v st1 φ1,Step φ H φ1 H1->yt X.K S.cl B φ1 H1 st1->yJ X.K S.cl B φ1 H1 ρ σ->yd X.K S.cl B φ1 H1 v x->Run S X σ B φ1 H1 Gw (k v st1) Q->P x H1):tE S X c σ H P:=
 ⟨B,φ,st,ρ,rs,re,(Run.bind h).mono λx H1 ⟨v,st1,φ1,s,rs1,rv,h1⟩=>n x H1 v st1 φ1 s rs1 (re.step s) rv h1⟩
theorem tAs.bind{c:Ces}{ρ:IC.Env}{st:SO}{k:List PV->SO->R γ}{Q:δ->Hp->Prop}{P:List V->Hp->Prop}(rs:yt X.K S.cl B φ H st)(re:yJ X.K S.cl B φ H ρ σ)(h:Run S X σ B φ H Gw ((evs S.call ρ st c).bind k) Q)
  (n:∀x H1 v st1 φ1,Step φ H φ1 H1->yt X.K S.cl B φ1 H1 st1->yJ X.K S.cl B φ1 H1 ρ σ->ye X.K S.cl B φ1 H1 v x->Run S X σ B φ1 H1 Gw (k v st1) Q->P x H1):tAs S X c σ H P:=
 ⟨B,φ,st,ρ,rs,re,(Run.bind h).mono λx H1 ⟨v,st1,φ1,s,rs1,rv,h1⟩=>n x H1 v st1 φ1 s rs1 (re.step s) rv h1⟩
variable {i:Int}{b:Bool}{x:AN}{j:Nat}{pos:CT}{e a a':AS}{c ca cb cc:Ce}
def zkM:PE X (.Constant (.int i) j pos) (tE S X (.cst (.int i))):=zpT.imp λσ H Q ⟨B,φ,st,ρ,rs,re,h⟩=>by
 erw[ev]at h;exact h.ok rs (by erw[yd])
def zpD:PE X (.Constant (.bool b) j pos) (tE S X (.cst (.bl b))):=zpU.imp λσ H Q ⟨B,φ,st,ρ,rs,re,h⟩=>by
 erw[ev]at h;exact h.ok rs (by erw[yd])
def zmX:PE X (.Constant .none j pos) (tE S X (.cst .non)):=zpV.imp λσ H Q ⟨B,φ,st,ρ,rs,re,h⟩=>by
 erw[ev]at h;exact h.ok rs (by erw[yd])
def zmO:PE X (.Constant (.str x) j pos) (tE S X (.cst (.str x))):=zpW.imp λσ H Q ⟨B,φ,st,ρ,rs,re,h⟩=>by
 erw[ev]at h;exact h.ok rs (by erw[yd])
def zoX{i:Nat}(hN:X.N[i]?=AA x)(hv:Vis X.env.scope x)(hd:(x==("__debug__":AN))=false:=by decide)(hcd:(x==("__classdict__":AN))=false:=by decide):PE X (.Name x pos) (tE S X (.var i)):=
 (zky hN hv hd hcd).imp λσ H Q ⟨B,φ,st,ρ,rs,re,h⟩=>by
  erw[ev]at h
  cases q:ρ[i]? with
  |none=>rw[q]at h;exact h.elim
  |some o=>
   cases o with
   |none=>rw[q]at h;exact h.elim
   |some v=>
    rw[q]at h;let⟨y,hy,rv⟩:=re.get i v q;exact⟨y,hy,h.ok rs rv⟩
def ziZ{v:PV}{y:AI}(hg:Gl X x)(hm:X.mg x=AA (.ref y))(hk:∀B φ H,yd X.K S.cl B φ H v (.ref y))(hd:(x==("__debug__":AN))=false:=by decide):PE X (.Name x pos) (tE S X (.cst v)):=
 (zdC hg hm (show RelV (.ref y) (.ref y)from rfl) hd).imp λσ H Q ⟨B,φ,st,ρ,rs,re,h⟩=>by
  erw[ev]at h;exact h.ok rs (hk B φ H)
def zas{o:Option PV}{st:SO}{Q:VK}(h:Run S X σ B φ H (RV S X B) (toR o st) Q)(rs:yt X.K S.cl B φ H st):∃z,o=AA z/\∀z' H' φ',Step φ H φ' H'->yt X.K S.cl B φ' H' st->yd X.K S.cl B φ' H' z z'->Q z' H':=by
 cases o with
 |none=>exact h.elim
 |some z=>exact⟨z,rfl,h⟩
def rT2(S:Se)(X:Cx)(f:PV->PV->Option PV):R2:=λx y H Q=>∃B φ st v w z,yt X.K S.cl B φ H st/\yd X.K S.cl B φ H v x/\yd X.K S.cl B φ H w y/\f v w=AA z /\
 ∀z' H' φ',Step φ H φ' H'->yt X.K S.cl B φ' H' st->yd X.K S.cl B φ' H' z z'->Q z' H'
def zol{op:D7}{o:BOp}(ho:OpR X (binaryOp op) (rT2 S X (yq o)))(ha:PE X a (tE S X ca))(hb:PE X a' (tE S X cb)):PE X (.BinOp a op a' pos) (tE S X (.bin o ca cb)):=
 (zpw ho ha hb).imp λσ H Q ⟨B,φ,st,ρ,rs,re,h⟩=>by
  erw[ev]at h;refine tE.bind rs re h λx H1 v st1 φ1 s1 rs1 re1 rv h1=>tE.bind rs1 re1 h1 λy H2 w st2 φ2 s2 rs2 re2 rw h2=>?_;let⟨z,e,q⟩:=zas h2 rs2;exact⟨B,φ2,st2,v,w,z,rs2,rv.step s2,rw,e,q⟩
def znE{op:FR}{o:COp}(ho:OpR X (compareOp op) (rT2 S X (yu o)))(ha:PE X a (tE S X ca))(hb:PE X a' (tE S X cb))(hm:behindInMarks op a'=AC):PE X (.Compare a [op] [a'] pos) (tE S X (.cmp o ca cb)):=
 (zic ho ha hb hm).imp λσ H Q ⟨B,φ,st,ρ,rs,re,h⟩=>by
  erw[ev]at h;refine tE.bind rs re h λx H1 v st1 φ1 s1 rs1 re1 rv h1=>tE.bind rs1 re1 h1 λy H2 w st2 φ2 s2 rs2 re2 rw h2=>?_;let⟨z,e,q⟩:=zas h2 rs2;exact⟨B,φ2,st2,v,w,z,rs2,rv.step s2,rw,e,q⟩
end
section
variable {S:Se}{X:Cx}{σ:St}{B:AI->Prop}{φ φ1:Ph}{H H1:Hp}{K:AF}{cl:Nat->AI}{st:SO}
theorem ybK.sq{k:Bool}{a:AI}{xs:List V}(r:ybK K B φ H k a xs):SqT K H a xs:=by
 rcases r with⟨r,_⟩|r
 .exact .inl (.inl r)
 .exact .inr r.2
theorem ycF.sq{a:AI}{xs:List V}(r:ycF B φ H a xs):SqL K H a xs:=.inl (.inl r.1)
theorem yd.tup_new{vs:List PV}{xs:List V}{p:AI}(hp:H p=AD)(rs:yt K cl B φ H st)(r:ye K cl B φ H vs xs):yd K cl B φ (upd H p (.tup xs)) (.tup vs) (.ref p):=by
 erw[yd];refine⟨p,xs,rfl,.inl ⟨zq,λz=>?_,λz=>?_⟩,r.step (.upd hp)⟩
 .let⟨o,e⟩:=rs.dom p z;rw[hp]at e;cases e
 .let⟨o,e⟩:=rs.there z;rw[hp]at e;cases e
theorem yd.lst_new{vs:List PV}{xs:List V}{p:AI}(hp:H p=AD)(rs:yt K cl B φ H st)(r:ye K cl B φ H vs xs):yd K cl B φ (upd H p (.lst xs)) (.lst vs) (.ref p):=by
 erw[yd];refine⟨p,xs,rfl,⟨zq,λz=>?_,λz=>?_⟩,r.step (.upd hp)⟩
 .let⟨o,e⟩:=rs.dom p z;rw[hp]at e;cases e
 .let⟨o,e⟩:=rs.there z;rw[hp]at e;cases e
theorem ye.append:∀{vs ws:List PV} {xs ys:List V},ye K cl B φ H vs xs->ye K cl B φ H ws ys->ye K cl B φ H (vs++ws) (xs++ys)
 |[],ws,xs,ys,h,q=>by erw[ye]at h;subst h;exact q
 |v::vs,ws,xs,ys,h,q=>by
  erw[ye]at h;let⟨y,zs,rfl,r,l⟩:=h;show ye K cl B φ H (v::(vs++ws)) (y::(zs++ys));erw[ye];exact⟨y,zs++ys,rfl,r,ye.append l q⟩
theorem ye.get:∀{vs:List PV} {xs:List V} (j:Nat) {v:PV},ye K cl B φ H vs xs->vs[j]?=AA v->∃x,xs[j]?=AA x/\yd K cl B φ H v x
 |[],xs,j,v,h,e=>by simp at e
 |w::vs,xs,0,v,h,e=>by
  erw[ye]at h;let⟨y,zs,rfl,r,l⟩:=h;simp at e;subst e;exact⟨y,rfl,r⟩
 |w::vs,xs,j+1,v,h,e=>by
  erw[ye]at h;let⟨y,zs,rfl,r,l⟩:=h;let⟨x,q1,q2⟩:=ye.get j l (by simpa using e);exact⟨x,by simpa using q1,q2⟩
theorem ye.drop:∀{vs:List PV} {xs:List V} (n:Nat),ye K cl B φ H vs xs->ye K cl B φ H (vs.drop n) (xs.drop n)
 |vs,xs,0,h=>by simpa using h
 |[],xs,n+1,h=>by erw[ye]at h;subst h;simp[ye]
 |v::vs,xs,n+1,h=>by
  erw[ye]at h;let⟨y,ys,rfl,_,l⟩:=h;simpa using ye.drop n l
theorem ye.take:∀{vs:List PV} {xs:List V} (n:Nat),ye K cl B φ H vs xs->ye K cl B φ H (vs.take n) (xs.take n)
 |vs,xs,0,h=>by simp[ye]
 |[],xs,n+1,h=>by erw[ye]at h;subst h;simp[ye]
 |v::vs,xs,n+1,h=>by
  erw[ye]at h;let⟨y,ys,rfl,r,l⟩:=h;erw[List.take_succ_cons,ye];exact⟨y,ys.take n,rfl,r,ye.take n l⟩
def zcA{f:AG->AG->Gg AG}{o:BOp}{C:Int->Int->Prop}{g:Int->Int->Int}(h:OpR X f (rI C λi j=>.int (g i j)))
  (hb:∀v w z,yq o v w=AA z->∃i j,v=.int i/\w=.int j/\C i j/\z=.int (g i j)):OpR X f (rT2 S X (yq o)):=by
 rintro π s σ H x y v u Q I rx ry ⟨B,φ,st,a,b,z,rs,ra,rb,e,q⟩
 let⟨i,j,rfl,rfl,hc,rfl⟩:=hb a b z e;erw[yd]at ra rb;subst ra rb;exact h π s σ H _ _ v u Q I rx ry ⟨i,j,rfl,rfl,hc,q _ H φ .rfl rs (by erw[yd])⟩
def zcW{f:AG->AG->Gg AG}{o:BOp}{g:Int->Int->Int}(h:OpR X f (rI0 λi j=>.int (g i j)))
  (hb:∀v w z,yq o v w=AA z->∃i j,v=.int i/\w=.int j/\z=.int (g i j)):OpR X f (rT2 S X (yq o)):=by
 rintro π s σ H x y v u Q I rx ry ⟨B,φ,st,a,b,z,rs,ra,rb,e,q⟩
 let⟨i,j,rfl,rfl,rfl⟩:=hb a b z e;erw[yd]at ra rb;subst ra rb;exact h π s σ H _ _ v u Q I rx ry ⟨i,j,rfl,rfl,q _ H φ .rfl rs (by erw[yd])⟩
def zmf(v w z:PV)(h:yq .sub v w=AA z):∃i j,v=.int i/\w=.int j/\z=.int (i-j):=by
 unfold yq at h;split at h<;>first|(cases h;done)|skip
 exact⟨_,_,rfl,rfl,(AW h).symm⟩
def zla(v w z:PV)(h:yq .mul v w=AA z):∃i j,v=.int i/\w=.int j/\ydq i j/\z=.int (i*j):=by
 unfold yq at h;split at h<;>first|(cases h;done)|skip
 rename_i i j;erw[IC.binI]at h;split at h
 .rename_i c;refine⟨i,j,rfl,rfl,?_,(AW h).symm⟩;erw[yaB,Cy,decide_eq_true_eq]at c;unfold ydq;rcases c with c|c
  .left;constructor<;>lia
  .right;constructor<;>lia
 .cases h
def zka(v w z:PV)(h:yq .fdiv v w=AA z):∃i j,v=.int i/\w=.int j/\yc2 i j/\z=.int (i/j):=by
 unfold yq at h;split at h<;>first|(cases h;done)|skip
 rename_i i j;erw[IC.binI]at h;split at h
 .rename_i c;exact⟨i,j,rfl,rfl,c,(AW h).symm⟩
 .cases h
def zmA(v w z:PV)(h:yq .mod v w=AA z):∃i j,v=.int i/\w=.int j/\0<j/\z=.int (i%j):=by
 unfold yq at h;split at h<;>first|(cases h;done)|skip
 rename_i i j;erw[IC.binI]at h;split at h
 .rename_i c;exact⟨i,j,rfl,rfl,c,(AW h).symm⟩
 .cases h
def zk3(v w z:PV)(h:yq .pow v w=AA z):∃i j,v=.int i/\w=.int j/\ydF i j/\z=.int (i^j.toNat):=by
 unfold yq at h;split at h<;>first|(cases h;done)|skip
 rename_i i j;erw[IC.binI]at h;split at h
 .rename_i c;exact⟨i,j,rfl,rfl,⟨c.1,c.2.1,by have:=c.2.2;lia⟩,(AW h).symm⟩
 .cases h
def zk0(v w z:PV)(h:yq .shl v w=AA z):∃i j,v=.int i/\w=.int j/\ydF i j/\z=.int (i*2^j.toNat):=by
 unfold yq at h;split at h<;>first|(cases h;done)|skip
 rename_i i j;erw[IC.binI]at h;split at h
 .rename_i c;exact⟨i,j,rfl,rfl,⟨c.1,c.2.1,by have:=c.2.2;lia⟩,(AW h).symm⟩
 .cases h
def zlx(v w z:PV)(h:yq .shr v w=AA z):∃i j,v=.int i/\w=.int j/\0<=j/\z=.int (i/2^j.toNat):=by
 unfold yq at h;split at h<;>first|(cases h;done)|skip
 rename_i i j;erw[IC.binI]at h;split at h
 .rename_i c;exact⟨i,j,rfl,rfl,c,(AW h).symm⟩
 .cases h
def zj9(v w z:PV)(h:yq .band v w=AA z):∃i j,v=.int i/\w=.int j/\z=.int (Ax i j):=by
 unfold yq at h;split at h<;>first|(cases h;done)|skip
 exact⟨_,_,rfl,rfl,(AW h).symm⟩
def zk2(v w z:PV)(h:yq .bor v w=AA z):∃i j,v=.int i/\w=.int j/\z=.int (B2 i j):=by
 unfold yq at h;split at h<;>first|(cases h;done)|skip
 exact⟨_,_,rfl,rfl,(AW h).symm⟩
def zjx(v w z:PV)(h:yq .bxor v w=AA z):∃i j,v=.int i/\w=.int j/\z=.int (BY i j):=by
 unfold yq at h;split at h<;>first|(cases h;done)|skip
 exact⟨_,_,rfl,rfl,(AW h).symm⟩
def zmF:OpR X (binaryOp .Sub) (rT2 S X (yq .sub)):=zcW zn9 zmf
def zoh:OpR X (binaryOp .Mult) (rT2 S X (yq .mul)):=zcA zn8 zla
def zma:OpR X (binaryOp .FloorDiv) (rT2 S X (yq .fdiv)):=zcA zjE zka
def znb:OpR X (binaryOp .Mod) (rT2 S X (yq .mod)):=zcA zmQ zmA
def zm0:OpR X (binaryOp .Pow) (rT2 S X (yq .pow)):=zcA zoH zk3
def znN:OpR X (binaryOp .LShift) (rT2 S X (yq .shl)):=zcA zno zk0
def zmS:OpR X (binaryOp .RShift) (rT2 S X (yq .shr)):=zcA zom zlx
def zml:OpR X (binaryOp .BitAnd) (rT2 S X (yq .band)):=zcW znh zj9
def zn1:OpR X (binaryOp .BitOr) (rT2 S X (yq .bor)):=zcW zoY zk2
def zl9:OpR X (binaryOp .BitXor) (rT2 S X (yq .bxor)):=zcW znL zjx
def zA:sizeMax=sizeLine:=by rw[D8];rfl
def zlV:OpR X (binaryOp .Add) (λx y H Q=>∃a b ys,x=.ref a/\y=.ref b/\SqT X.K H a []/\SqT X.K H b ys/\Q (.ref b) H):=by
 intro π s σ H x y v u Q I rx ry h;let⟨a,b,ys,rfl,rfl,ha,hb,q⟩:=h
 cases rx
 cases ry
 let⟨its,r1,p1,_⟩:=I.tuple ha;let⟨its2,r2,p2,_⟩:=I.tuple hb;have:its=[]:=r1.nil_iff.mpr rfl;subst this;let⟨⟨cls,dd,data,sl⟩,ho,hc,n,hd⟩:=id p1;let⟨⟨cls2,dd2,data2,sl2⟩,ho2,hc2,n2,hd2⟩:=id p2;simp only at hc hd hc2 hd2;subst hc hd hc2 hd2;exact Fd ⟨_,ho,rfl⟩ ⟨_,ho2,rfl⟩ EZ FT DG DC (Ct _ _)
   (tuple_addW0 a b [].toArray its2.toArray n n2 dd dd2 sl sl2 (by simp)) ⟨ho,ho2,⟨.ref b,H,I,rfl,q⟩⟩
def zoD:OpR X (binaryOp .Add) (rT2 S X (yq .add)):=by
 rintro π s σ H x y v u Q I rx ry ⟨B,φ,st,a,b,z,rs,ra,rb,e,q⟩
 unfold yq at e;split at e
 .rename_i i j;erw[yd]at ra rb;subst ra rb
  cases e
  exact zou π s σ H _ _ v u Q I rx ry ⟨i,j,rfl,rfl,q _ H φ .rfl rs (by erw[yd])⟩
 .rename_i i k;erw[yd]at ra rb;subst ra rb
  cases e
  exact zhE π s σ H _ _ v u Q I rx ry ⟨i,k,rfl,rfl,q _ H φ .rfl rs (by erw[yd];cases k<;>rfl)⟩
 .rename_i i j;erw[yd]at ra rb;subst ra rb;dsimp only at e;split at e
  .rename_i c
   cases e
   exact zg0 π s σ H _ _ v u Q I rx ry ⟨i,j,rfl,rfl,by rw[<-zA];exact c,q _ H φ .rfl rs (by erw[yd])⟩
  .cases e
 .rename_i k1 vs k2 ws;erw[yd]at ra rb;let⟨p,xs,rfl,r1,l1⟩:=ra;let⟨p',ys,rfl,r2,l2⟩:=rb;dsimp only at e;split at e
  .rename_i c
   cases e
   have n1:=l1.length;have n2:=l2.length;unfold ydU at q
   cases vs with
   |nil=>
    have:xs=[]:=by cases xs with|nil=>rfl|cons _ _=>simp at n1
    subst this;refine zlV π s σ H _ _ v u Q I rx ry ⟨p,p',ys,rfl,rfl,r1.sq,r2.sq,q _ H φ .rfl rs ?_⟩;erw[GG,if_true,yd];exact⟨p',ys,rfl,r2,l2⟩
   |cons v1 vr=>
    erw[Fk,Be,if_false]at q;refine zmh π s σ H _ _ v u Q I rx ry ⟨p,p',xs,ys,rfl,rfl,r1.sq,r2.sq,?_,by rw[<-zA];lia,λz=>?_,λz t ht=>?_⟩
    .rintro rfl
     simp at n1
    .subst z;have:ws=[]:=by cases ws with|nil=>rfl|cons _ _=>simp at n2
     subst this;erw[GG,if_true]at q;refine q _ H φ .rfl rs ?_;erw[yd];exact⟨p,xs,rfl,r1,l1⟩
    .cases ws with
     |nil=>exact absurd (List.length_eq_zero_iff.mp n2.symm) z
     |cons w1 wr=>
      erw[Fk,Be,if_false]at q;exact q _ _ φ (.upd ht) (rs.upd ht) (.tup_new ht rs (l1.append l2))
  .cases e
 .rename_i vs ws;erw[yd]at ra rb;let⟨p,xs,rfl,r1,l1⟩:=ra;let⟨p',ys,rfl,r2,l2⟩:=rb;dsimp only at e;split at e
  .rename_i c
   cases e
   have n1:=l1.length;have n2:=l2.length;exact zm8 π s σ H _ _ v u Q I rx ry ⟨p,p',xs,ys,rfl,rfl,r1.1,r2.1,by rw[<-zA];lia,λt ht=>q _ _ φ (.upd ht) (rs.upd ht) (.lst_new ht rs (l1.append l2))⟩
  .cases e
 .cases e
end
mutual
noncomputable def toD:PV->PyData
 |.non=>.none
 |.bl b=>.bool b
 |.int i=>.int i
 |.str x=>.str x
 |.tp _ xs=>.tuple (ybG xs)
 |.lst xs=>.list (ybG xs)
 |_=>.none
noncomputable def ybG:List PV->List PyData
 |[]=>[]
 |x::xs=>toD x::ybG xs
end
mutual
theorem zi4:∀(v:PV) (n:Nat),shd n v=AB->(toD v).canLay0=AB/\(toD v).depth<=n
 |.non,n,h=>by simp[toD,Ck,DM]
 |.bl b,n,h=>by simp[toD,Ck,DM]
 |.int i,n,h=>by simp[toD,Ck,DM]
 |.str x,n,h=>by
  erw[shd]at h;erw[toD,Ck,DM,DB,and_true];exact h
 |.tp _ xs,n,h=>by
  erw[shd,AK,decide_eq_true_eq]at h;let⟨q1,q2⟩:=zeq xs (n-1) h.2;erw[toD,Ck,DM];exact⟨q1,by lia⟩
 |.lst xs,n,h=>by
  erw[shd,AK,decide_eq_true_eq]at h;let⟨q1,q2⟩:=zeq xs (n-1) h.2;erw[toD,Ck,DM];exact⟨q1,by lia⟩
 |.loc k,n,h=>by simp[shd]at h
 |.fnc k,n,h=>by simp[shd]at h
 |.exn k,n,h=>by simp[shd]at h
 |.scr xs,n,h=>by simp[shd]at h
theorem zeq:∀(v:List PV) (n:Nat),ybu n v=AB->EN (ybG v)=AB/\Es (ybG v)<=n
 |[],n,h=>by simp[ybG,EN,Es]
 |v::vs,n,h=>by
  erw[ybu,AK]at h;let⟨q1,q2⟩:=zi4 v n h.1;let⟨q3,q4⟩:=zeq vs n h.2;erw[ybG,EN,Es,AK];exact⟨⟨q1,q3⟩,by lia⟩
end
def zbn{v:PV}(h:shp v=AB):Gx (toD v)=true:=by
 let⟨q1,q2⟩:=zi4 v 60 h;unfold Gx;rw[q1,Cu,decide_eq_true_eq];lia
mutual
theorem zfN:∀(v w:PV) (n m:Nat),shd n v=AB->shd m w=AB->B9 (toD v) (toD w)=peq v w
 |.non,w,n,m,h,q=>by cases w<;>simp_all[toD,B9,peq,shd]
 |.bl b,w,n,m,h,q=>by cases w<;>simp_all[toD,B9,peq,shd,bi]
 |.int i,w,n,m,h,q=>by cases w<;>simp_all[toD,B9,peq,shd,bi]
 |.str x,w,n,m,h,q=>by cases w<;>simp_all[toD,B9,peq,shd]
 |.tp _ xs,.tp _ ys,n,m,h,q=>by
  erw[shd,AK]at h q;erw[toD,B9,peq];exact zew xs ys (n-1) (m-1) h.2 q.2
 |.lst xs,.lst ys,n,m,h,q=>by
  erw[shd,AK]at h q;erw[toD,B9,peq];exact zew xs ys (n-1) (m-1) h.2 q.2
 |.tp _ xs,.non,n,m,h,q=>by simp[toD,B9,peq]
 |.tp _ xs,.bl _,n,m,h,q=>by simp[toD,B9,peq]
 |.tp _ xs,.int _,n,m,h,q=>by simp[toD,B9,peq]
 |.tp _ xs,.str _,n,m,h,q=>by simp[toD,B9,peq]
 |.tp _ xs,.lst _,n,m,h,q=>by simp[toD,B9,peq]
 |.lst xs,.non,n,m,h,q=>by simp[toD,B9,peq]
 |.lst xs,.bl _,n,m,h,q=>by simp[toD,B9,peq]
 |.lst xs,.int _,n,m,h,q=>by simp[toD,B9,peq]
 |.lst xs,.str _,n,m,h,q=>by simp[toD,B9,peq]
 |.lst xs,.tp _ _,n,m,h,q=>by simp[toD,B9,peq]
 |.loc k,w,n,m,h,q=>by simp[shd]at h
 |.fnc k,w,n,m,h,q=>by simp[shd]at h
 |.exn k,w,n,m,h,q=>by simp[shd]at h
 |.scr k,w,n,m,h,q=>by simp[shd]at h
 |v,.loc k,n,m,h,q=>by simp[shd]at q
 |v,.fnc k,n,m,h,q=>by simp[shd]at q
 |v,.exn k,n,m,h,q=>by simp[shd]at q
 |v,.scr k,n,m,h,q=>by simp[shd]at q
theorem zew:∀(v w:List PV) (n m:Nat),ybu n v=AB->ybu m w=AB->D4 (ybG v) (ybG w)=ybc v w
 |[],[],n,m,h,q=>by simp[ybG,D4,ybc]
 |[],y::ys,n,m,h,q=>by simp[ybG,D4,ybc]
 |x::xs,[],n,m,h,q=>by simp[ybG,D4,ybc]
 |x::xs,y::ys,n,m,h,q=>by
  erw[ybu,AK]at h q;erw[ybG,D4,ybc];rw[zfN x y n m h.1 q.1,zew xs ys n m h.2 q.2]
end
section
variable {S:Se}{X:Cx}{σ:St}{B:AI->Prop}{φ φ1:Ph}{H H1:Hp}{st:SO}{π:List (AI×CF)}{s:AJ}
mutual
theorem zbW(I:Inv X π σ H s):∀(v:PV) (n:Nat) (x:V) (u:AG),shd n v=AB->yd X.K S.cl B φ H v x->RelV x u->∃as,Reads s.heap u (toD v) as
 |.non,n,x,u,h,r,q=>by
  erw[yd]at r;subst r;cases (show u=CM from q);exact⟨_,.none⟩
 |.bl b,n,x,u,h,r,q=>by
  erw[yd]at r;subst r;cases (show u=Dq b from q);exact⟨_,.bool b⟩
 |.int i,n,x,u,h,r,q=>by
  erw[yd]at r;subst r;let⟨t,rfl⟩:=q;exact⟨_,.int i t⟩
 |.str y,n,x,u,h,r,q=>by
  erw[yd]at r;subst r;let⟨t,rfl⟩:=q;exact⟨_,.str y t⟩
 |.tp _ vs,n,x,u,h,r,q=>by
  erw[yd]at r;let⟨a,xs,rfl,rt,l⟩:=r
  cases (show u=Ad a from q)
  erw[shd,AK]at h;let⟨its,rv,⟨o,g,c,k,d⟩,_⟩:=I.tuple rt.sq;let⟨as,z⟩:=zc6 I vs (n-1) xs its h.2 l rv;exact⟨as,.tuple g c d (by simpa using z)⟩
 |.lst vs,n,x,u,h,r,q=>by
  erw[yd]at r;let⟨a,xs,rfl,rt,l⟩:=r
  cases (show u=Ad a from q)
  erw[shd,AK]at h;let⟨its,rv,⟨o,k,g,c,_,d⟩,_⟩:=I.list (rt.sq (K:=X.K));let⟨as,z⟩:=zc6 I vs (n-1) xs its h.2 l rv;exact⟨_,.list g c d (by simpa using z)⟩
 |.loc k,n,x,u,h,r,q=>by simp[shd]at h
 |.fnc k,n,x,u,h,r,q=>by simp[shd]at h
 |.exn k,n,x,u,h,r,q=>by simp[shd]at h
 |.scr k,n,x,u,h,r,q=>by simp[shd]at h
theorem zc6(I:Inv X π σ H s):∀(v:List PV) (n:Nat) (x:List V) (u:List AG),ybu n v=AB->ye X.K S.cl B φ H v x->Vals x u->∃as,ReadsAll s.heap u (ybG v) as
 |[],n,x,u,h,r,q=>by
  erw[ye]at r;subst r;cases q;exact⟨_,.nil⟩
 |v::vs,n,x,u,h,r,q=>by
  erw[ye]at r;let⟨y,ys,rfl,rv,l⟩:=r;erw[ybu,AK]at h
  cases q with
  |cons q1 q2=>
   let⟨as,z1⟩:=zbW I v n y _ h.1 rv q1;let⟨bs,z2⟩:=zc6 I vs n ys _ h.2 l q2;exact⟨_,.cons z1 z2⟩
end
def zpt(hu:X.A.units+64<cLine):OpR X (compareOp .Eq) (rT2 S X (yu .eq)):=by
 rintro π s σ H x y v u Q I rx ry ⟨B,φ,st,a,b,z,rs,ra,rb,e,q⟩
 erw[yu]at e;split at e
 .rename_i c;rw[AK]at c
  cases e
  let⟨as,z1⟩:=zbW (S:=S) I a 60 x v c.1 ra rx;let⟨bs,z2⟩:=zbW (S:=S) I b 60 y u c.2 rb ry;refine eq_dataH z1 z2 (zbn c.1) (zbn c.2) hu ⟨.bl _,H,I,rfl,?_⟩;rw[zfN a b 60 60 c.1 c.2];exact q _ H φ .rfl rs (by erw[yd])
 .cases e
def zpm(hu:X.A.units+64<cLine):OpR X (compareOp .NotEq) (rT2 S X (yu .ne)):=by
 rintro π s σ H x y v u Q I rx ry ⟨B,φ,st,a,b,z,rs,ra,rb,e,q⟩
 erw[yu]at e;split at e
 .rename_i c;rw[AK]at c
  cases e
  let⟨as,z1⟩:=zbW (S:=S) I a 60 x v c.1 ra rx;let⟨bs,z2⟩:=zbW (S:=S) I b 60 y u c.2 rb ry;refine ne_dataH z1 z2 (zbn c.1) (zbn c.2) hu ⟨.bl _,H,I,rfl,?_⟩;rw[zfN a b 60 60 c.1 c.2];exact q _ H φ .rfl rs (by erw[yd])
 .cases e
def ziX{f:AG->AG->Gg AG}{o:COp}{g:Int->Int->Bool}(h:OpR X f (rI0 λi j=>.bl (g i j)))
  (hb:∀v w z,yu o v w=AA z->∃i j,v=.int i/\w=.int j/\z=.bl (g i j)):OpR X f (rT2 S X (yu o)):=by
 rintro π s σ H x y v u Q I rx ry ⟨B,φ,st,a,b,z,rs,ra,rb,e,q⟩
 let⟨i,j,rfl,rfl,rfl⟩:=hb a b z e;erw[yd]at ra rb;subst ra rb;exact h π s σ H _ _ v u Q I rx ry ⟨i,j,rfl,rfl,q _ H φ .rfl rs (by erw[yd])⟩
def ziq:OpR X (compareOp .LtE) (λx y H Q=>∃i j,x=.str i/\y=.str j/\Q (.bl (!decide (j.cps.toList<i.cps.toList))) H):=by
 intro π s σ H x y v u Q I rx ry h;let⟨i,j,rfl,rfl,q⟩:=h;let⟨t,rfl⟩:=rx;let⟨t',rfl⟩:=ry;exact PySem.P.le_str (zir I q rfl)
def zpF:OpR X (compareOp .Lt) (rT2 S X (yu .lt)):=by
 rintro π s σ H x y v u Q I rx ry ⟨B,φ,st,a,b,z,rs,ra,rb,e,q⟩
 erw[yu]at e;split at e
 .rename_i i j;erw[yd]at ra rb;subst ra rb
  cases e
  exact zo0 π s σ H _ _ v u Q I rx ry ⟨i,j,rfl,rfl,q _ H φ .rfl rs (by erw[yd])⟩
 .rename_i i j;erw[yd]at ra rb;subst ra rb
  cases e
  exact zhy π s σ H _ _ v u Q I rx ry ⟨i,j,rfl,rfl,q _ H φ .rfl rs (by erw[yd])⟩
 .cases e
def zpj:OpR X (compareOp .LtE) (rT2 S X (yu .le)):=by
 rintro π s σ H x y v u Q I rx ry ⟨B,φ,st,a,b,z,rs,ra,rb,e,q⟩
 erw[yu]at e;split at e
 .rename_i i j;erw[yd]at ra rb;subst ra rb
  cases e
  exact zo7 π s σ H _ _ v u Q I rx ry ⟨i,j,rfl,rfl,q _ H φ .rfl rs (by erw[yd])⟩
 .rename_i i j;erw[yd]at ra rb;subst ra rb
  cases e
  exact ziq π s σ H _ _ v u Q I rx ry ⟨i,j,rfl,rfl,q _ H φ .rfl rs (by erw[yd])⟩
 .cases e
def zgC{o:COp}{g:Int->Int->Bool}(ho:∀v w,yu o v w=match v,w with
   |.int i,.int j=>ybI o i j
   |.str a,.str b=>yd2 o a b
   |_,_=>AD) (hs:∀a b,yd2 o a b=AD) (hg:∀i j,ybI o i j=AA (.bl (g i j))) (v w z:PV) (h:yu o v w=AA z):∃i j,v=.int i/\w=.int j/\z=.bl (g i j):=by
 rw[ho]at h;split at h
 .rename_i i j;rw[hg]at h;exact⟨i,j,rfl,rfl,(AW h).symm⟩
 .rw[hs]at h;cases h
 .cases h
def zpv:OpR X (compareOp .Gt) (rT2 S X (yu .gt)):=ziX zpA (zgC (λ_ _=>rfl) (λ_ _=>rfl) λ_ _=>rfl)
def zpx:OpR X (compareOp .GtE) (rT2 S X (yu .ge)):=ziX zpf (zgC (λ_ _=>rfl) (λ_ _=>rfl) λ_ _=>rfl)
theorem yd.isNon{K:AF}{cl:Nat->AI}{v:PV}{x:V}(r:yd K cl B φ H v x):decide (x=.non)=IC.isNon v:=by
 cases v with
 |loc n=>erw[yd]at r;let⟨_,a,rfl,_⟩:=r;rfl
 |non=>erw[yd]at r;subst r;rfl
 |bl b=>erw[yd]at r;subst r;rfl
 |int b=>erw[yd]at r;subst r;rfl
 |str b=>erw[yd]at r;subst r;rfl
 |tp k vs=>erw[yd]at r;let⟨a,xs,rfl,_⟩:=r;rfl
 |lst vs=>erw[yd]at r;let⟨a,xs,rfl,_⟩:=r;rfl
 |fnc j=>erw[yd]at r;subst r;rfl
 |exn vs=>erw[yd]at r;let⟨a,rfl,_⟩:=r;rfl
 |scr vs=>erw[yd]at r;let⟨a,xs,rfl,_⟩:=r;rfl
theorem yd.flat{K:AF}{cl:Nat->AI}{v:PV}{x:V}(r:yd K cl B φ H v x)(h:IC.flat v=AB):ya1 x=AB/\∀(w:PV) (y:V),IC.flat w=AB->yd K cl B φ H w y->eqV x y=peq v w:=by
 cases v with
 |non=>
  erw[yd]at r;subst r;refine⟨rfl,λw y hw rw=>?_⟩
  cases w<;>first|(simp[IC.flat]at hw;done)|(erw[yd]at rw;subst rw;simp[eqV,peq,bi])
 |bl b=>
  erw[yd]at r;subst r;refine⟨rfl,λw y hw rw=>?_⟩
  cases w<;>first|(simp[IC.flat]at hw;done)|(erw[yd]at rw;subst rw;simp[eqV,peq,bi])
 |int b=>
  erw[yd]at r;subst r;refine⟨rfl,λw y hw rw=>?_⟩
  cases w<;>first|(simp[IC.flat]at hw;done)|(erw[yd]at rw;subst rw;simp[eqV,peq,bi])
 |str b=>
  erw[yd]at r;subst r;refine⟨rfl,λw y hw rw=>?_⟩
  cases w<;>first|(simp[IC.flat]at hw;done)|(erw[yd]at rw;subst rw;simp[eqV,peq,bi])
 |_=>simp[IC.flat]at h
def zfH{K:AF}{cl:Nat->AI}{v:PV}{x:V}(r:yd K cl B φ H v x)(h:IC.flat v=AB):∀{vs:List PV} {xs:List V},ye K cl B φ H vs xs->vs.all IC.flat=AB->xs.all ya1=AB/\inV x xs=inL v vs
 |[],xs,l,_=>by erw[ye]at l;subst l;exact⟨rfl,rfl⟩
 |w::vs,xs,l,f=>by
  erw[ye]at l;let⟨y,ys,rfl,rw,l⟩:=l;rw[Bb,AK]at f;let⟨q1,q2⟩:=zfH r h l f.2;let⟨q3,q4⟩:=rw.flat f.1;refine⟨by rw[Bb,q3,q1];rfl,?_⟩;unfold inV at q2 ⊢;rw[BL,q2,q4 v x h r];rfl
end
def zlF(a b:AN):(!(EW b a 0 b.length 1).isEmpty)=inS a b:=by
 rw[Dh,StrLaws.found_iff];unfold inS;rw[DV];constructor
 .rintro⟨i,h1,h2⟩
  exact⟨i,by rw[G3];lia,by rw[AK,decide_eq_true_eq];exact⟨h1,h2⟩⟩
 .rintro⟨i,_,h⟩
  rw[AK,decide_eq_true_eq]at h;exact⟨i,h.1,h.2⟩
section
variable {S:Se}{X:Cx}{σ:St}{B:AI->Prop}{φ φ1:Ph}{H H1:Hp}{st:SO}
def zo8:OpR X (compareOp .In) (rT2 S X (yu .isin)):=by
 rintro π s σ H x y v u Q I rx ry ⟨B,φ,st,a,b,z,rs,ra,rb,e,q⟩
 erw[yu]at e;split at e
 .rename_i i j;erw[yd]at ra rb;subst ra rb
  cases e
  exact ziH π s σ H _ _ v u Q I rx ry ⟨i,j,rfl,rfl,by rw[zlF];exact q _ H φ .rfl rs (by erw[yd])⟩
 .rename_i l;split at e
  .rename_i c;rw[AK]at c
   cases e
   erw[yd]at rb;let⟨p,xs,rfl,r,l'⟩:=rb;let⟨q1,q2⟩:=zfH ra c.1 l' c.2;exact zeS π s σ H _ _ v u Q I rx ry ⟨p,xs,rfl,.inr r.sq,(ra.flat c.1).1,q1,q _ H φ .rfl rs (by erw[yd];rw[<-q2];rfl)⟩
  .cases e
 .rename_i l;split at e
  .rename_i c;rw[AK]at c
   cases e
   erw[yd]at rb;let⟨p,xs,rfl,r,l'⟩:=rb;let⟨q1,q2⟩:=zfH ra c.1 l' c.2;exact zeS π s σ H _ _ v u Q I rx ry ⟨p,xs,rfl,.inl r.sq,(ra.flat c.1).1,q1,q _ H φ .rfl rs (by erw[yd];rw[<-q2];rfl)⟩
  .cases e
 .cases e
theorem ye.empty{K:AF}{cl:Nat->AI}{vs:List PV}{xs:List V}(l:ye K cl B φ H vs xs):vs.isEmpty=xs.isEmpty:=by
 have:=l.length
 cases vs<;>cases xs<;>simp_all
def zlw{K:AF}{cl:Nat->AI}{v:PV}{x:V}{k:Bool}(rs:yt K cl B φ H st)(r:yd K cl B φ H v x)(h:yaK st v=AA k):ydR K x H k:=by
 cases v with
 |non=>erw[yd]at r;subst r;cases h;rfl
 |bl b=>erw[yd]at r;subst r;cases h;rfl
 |int b=>erw[yd]at r;subst r;cases h;rfl
 |str b=>
  erw[yd]at r;subst r;erw[yaK]at h;split at h
  .rename_i c
   cases h
   exact⟨by rw[<-zA];exact c,rfl⟩
  .cases h
 |tp k vs=>
  erw[yd]at r;let⟨a,xs,rfl,rt,l⟩:=r
  cases h
  exact .inr (.inl ⟨xs,rt.sq,by rw[l.empty]⟩)
 |lst vs=>
  erw[yd]at r;let⟨a,xs,rfl,rt,l⟩:=r
  cases h
  exact .inl ⟨xs,rt.sq,by rw[l.empty]⟩
 |loc n=>
  erw[yd]at r;let⟨hn,a,rfl,ha⟩:=r;erw[yaK]at h;split at h
  .rename_i vs hv
   cases h
   let⟨b,hb⟩:=rs.liv n _ hv (by intro z;cases z);obtain rfl:=ha b hb;let⟨o,ho,ro⟩:=rs.obj n b hb;rw[hv]at ho;cases ho;let⟨xs,hx,l⟩:=ro;exact .inl ⟨xs,.of hx,by rw[l.empty]⟩
  .cases h
 |fnc c=>cases h
 |exn c=>cases h
 |scr c=>cases h
end
theorem R.bind_assoc{α β γ:Type}{r:R α}{k:α->SO->R β}{l:β->SO->R γ}:(r.bind k).bind l=r.bind λa s=>(k a s).bind l:=by
 cases r<;>rfl
section
variable {S:Se}{X:Cx}{σ:St}{B:AI->Prop}{φ φ1:Ph}{H H1:Hp}{st:SO}{ρ:IC.Env}{pos:CT}{a b c d:AS}{ca cb cc:Ce}{es:List AS}{ces:Ces}
def zeD{o:COp}{v w z:PV}(h:yu o v w=AA z):∃k,z=.bl k:=by
 cases o<;>erw[yu]at h
 all_goals (repeat' split at h)<;>first|(cases h;done)|(cases h;exact⟨_,rfl⟩)|skip
 all_goals (erw[ybI]at h;cases h;exact⟨_,rfl⟩)
def zoC{op:FR}{o:COp}(ho:OpR X (compareOp op) (rT2 S X (yu o)))(ha:PE X a (tE S X ca))(hb:PE X b (tE S X cb))(hm:behindInMarks op b=AC):PT X (.Compare a [op] [b] pos) (tTs S X (.cmp o ca cb)):=
 (zlk ho ha hb hm).imp λσ H Q ⟨B,φ,st,ρ,rs,re,h⟩=>by
  erw[ev,ya4,R.bind_assoc]at h;refine tE.bind rs re h λx H1 v st1 φ1 s1 rs1 re1 rv h1=>tE.bind rs1 re1 h1 λy H2 w st2 φ2 s2 rs2 re2 rw h2=>?_
  cases e:yu o v w with
  |none=>rw[e]at h2;exact h2.elim
  |some z=>
   let⟨k,rfl⟩:=zeD e;rw[e]at h2;refine⟨B,φ2,st2,v,w,.bl k,rs2,rv.step s2,rw,e,λz' H' φ' s' rs' rz=>?_⟩;erw[yd]at rz;exact⟨k,rz,h2 k H' φ' s' rs' rfl⟩
def zoc(ha:PE X a (tE S X ca))(he:∀whole,isTrue a X.env whole=(do let v <-whole;standAt a.pos;holding [v] (truthy v)):=by intro _;rfl):PT X a (tTs S X ca):=
 (zjD ha he).imp λσ H Q ⟨B,φ,st,ρ,rs,re,h⟩=>by
  erw[ya4]at h;refine tE.bind rs re h λx H1 v st1 φ1 s1 rs1 re1 rv h1=>?_
  cases e:yaK st1 v with
  |none=>rw[e]at h1;exact h1.elim
  |some k=>
   rw[e]at h1;exact⟨k,zlw rs1 rv e,h1.ok rs1 rfl⟩
theorem tTs.bind{γ δ:Type}{Gw:Ph->Hp->γ->δ->Prop}{k:Bool->SO->R γ}{Q:δ->Hp->Prop}{P:Bool->Hp->Prop}(rs:yt X.K S.cl B φ H st)(re:yJ X.K S.cl B φ H ρ σ)(h:Run S X σ B φ H Gw ((ya4 (ev S.call ρ st ca)).bind k) Q)
  (n:∀b H1 st1 φ1,Step φ H φ1 H1->yt X.K S.cl B φ1 H1 st1->yJ X.K S.cl B φ1 H1 ρ σ->Run S X σ B φ1 H1 Gw (k b st1) Q->P b H1):tTs S X ca σ H P:=
 ⟨B,φ,st,ρ,rs,re,(Run.bind h).mono λx H1 ⟨v,st1,φ1,s,rs1,rv,h1⟩=>by
  subst rv;exact n v H1 st1 φ1 s rs1 (re.step s) h1⟩
def zfT(r:R PV)(f:Bool->SO->R PV):ya4 (r.bind λx st1=>onBl x λb=>f b st1)=r.bind λx st1=>onBl x λb=>ya4 (f b st1):=by
 unfold ya4;rw[R.bind_assoc]
 congr 1
 funext x st1
 cases x<;>rfl
theorem Run.bl_tru{r:R PV}{k:Bool->SO->R Bool}{Q:Bool->Hp->Prop}(h:Run S X σ B φ H RB (r.bind λx st1=>onBl x λb=>k b st1) Q):Run S X σ B φ H RB ((ya4 r).bind k) Q:=by
 cases r with
 |bad=>exact h
 |exc c s=>exact h
 |ok v s=>
  cases v with
  |bl b=>exact h
  |_=>exact h.elim
def zoG(ha:PT X a (tTs S X ca)):PT X (.UnaryOp .Not a pos) (tTs S X (.not ca)):=
 (zoQ ha).imp λσ H Q ⟨B,φ,st,ρ,rs,re,h⟩=>by
  erw[ev]at h;rw[zfT _ λk st1=>.ok (.bl (!k)) st1]at h;exact tTs.bind rs re (Run.bl_tru (k:=λb st1=>.ok (!b) st1) h) λb H1 st1 φ1 s1 rs1 re1 h1=>h1.ok rs1 rfl
variable {rest:List AS}
def zlT(ha:PT X a (tTs S X ca)):PW X (.BoolOp .And [a] pos) (tTs S X ca):=zlH ha
def zm9(ha:PT X a (tTs S X ca)):PW X (.BoolOp .Or [a] pos) (tTs S X ca):=znk ha
def znS(ha:PT X a (tTs S X ca))(hb:PW X (.BoolOp .And (b::rest) pos) (tTs S X cb)):PW X (.BoolOp .And (a::b::rest) pos) (tTs S X (.and ca cb)):=
 (zoq ha hb).imp λσ H Q ⟨B,φ,st,ρ,rs,re,h⟩=>by
  erw[ev]at h;rw[zfT _ λk st1=>cond k (ev S.call ρ st1 cb) (.ok (.bl AC) st1)]at h;refine tTs.bind rs re (Run.bl_tru h) λk H1 st1 φ1 s1 rs1 re1 h1=>?_
  cases k with
  |false=>exact h1.ok rs1 rfl
  |true=>exact⟨B,φ1,st1,ρ,rs1,re1,h1⟩
def zpk(ha:PT X a (tTs S X ca))(hb:PW X (.BoolOp .Or (b::rest) pos) (tTs S X cb)):PW X (.BoolOp .Or (a::b::rest) pos) (tTs S X (.or ca cb)):=
 (zpq ha hb).imp λσ H Q ⟨B,φ,st,ρ,rs,re,h⟩=>by
  erw[ev]at h;rw[zfT _ λk st1=>cond k (.ok (.bl AB) st1) (ev S.call ρ st1 cb)]at h;refine tTs.bind rs re (Run.bl_tru h) λk H1 st1 φ1 s1 rs1 re1 h1=>?_
  cases k with
  |true=>exact h1.ok rs1 rfl
  |false=>exact⟨B,φ1,st1,ρ,rs1,re1,h1⟩
def zkz{op:Gy}(h:PE X a (tE S X ca)):PE X (.BoolOp op [a] pos) (tE S X ca):=zoM h
def zkT(ha:PE X a (tE S X ca))(hb:PE X (.BoolOp .And (b::rest) pos) (tE S X cb)):PE X (.BoolOp .And (a::b::rest) pos) (tE S X (.and ca cb)):=
 (znV ha hb).imp λσ H Q ⟨B,φ,st,ρ,rs,re,h⟩=>by
  erw[ev]at h;refine tE.bind rs re h λx H1 v st1 φ1 s1 rs1 re1 rv h1=>?_
  cases v with
  |bl k=>
   erw[yd]at rv;refine⟨k,rv,?_⟩
   cases k with
   |true=>exact⟨B,φ1,st1,ρ,rs1,re1,h1⟩
   |false=>exact h1.ok rs1 (by erw[yd])
  |_=>exact h1.elim
def zmJ(ha:PE X a (tE S X ca))(hb:PE X (.BoolOp .Or (b::rest) pos) (tE S X cb)):PE X (.BoolOp .Or (a::b::rest) pos) (tE S X (.or ca cb)):=
 (zpp ha hb).imp λσ H Q ⟨B,φ,st,ρ,rs,re,h⟩=>by
  erw[ev]at h;refine tE.bind rs re h λx H1 v st1 φ1 s1 rs1 re1 rv h1=>?_
  cases v with
  |bl k=>
   erw[yd]at rv;refine⟨k,rv,?_⟩
   cases k with
   |false=>exact⟨B,φ1,st1,ρ,rs1,re1,h1⟩
   |true=>exact h1.ok rs1 (by erw[yd])
  |_=>exact h1.elim
def znX(ha:PE X a (tE S X ca)):PE X (.UnaryOp .Not a pos) (tE S X (.not ca)):=
 (zoR ha).imp λσ H Q ⟨B,φ,st,ρ,rs,re,h⟩=>by
  erw[ev]at h;refine tE.bind rs re h λx H1 v st1 φ1 s1 rs1 re1 rv h1=>?_
  cases v with
  |bl k=>
   erw[yd]at rv;exact⟨k,rv,h1.ok rs1 (by erw[yd])⟩
  |_=>exact h1.elim
def zkR(ha:PE X a (tE S X ca)):PE X (.UnaryOp .USub a pos) (tE S X (.neg ca)):=
 (zpE zmK ha).imp λσ H Q ⟨B,φ,st,ρ,rs,re,h⟩=>by
  erw[ev]at h;refine tE.bind rs re h λx H1 v st1 φ1 s1 rs1 re1 rv h1=>?_;split at h1
  .simp only[yd]at rv;exact⟨_,rv,h1.ok rs1 (by erw[yd])⟩
  .exact h1.elim
def znW(hc:PT X c (tTs S X cc))(ha:PE X a (tE S X ca))(hb:PE X b (tE S X cb)):PE X (.IfExp c a b pos) (tE S X (.ite cc ca cb)):=
 (zkl hc ha hb).imp λσ H Q ⟨B,φ,st,ρ,rs,re,h⟩=>by
  erw[ev]at h;have e:((ev S.call ρ st cc).bind λx st1=>onO (yaK st1 x) λk=>cond k (ev S.call ρ st1 ca) (ev S.call ρ st1 cb))=(ya4 (ev S.call ρ st cc)).bind λk st1=>cond k (ev S.call ρ st1 ca) (ev S.call ρ st1 cb):=by
   unfold ya4;rw[R.bind_assoc]
   congr 1
   funext x st1
   cases yaK st1 x<;>rfl
  rw[e]at h;refine tTs.bind rs re h λk H1 st1 φ1 s1 rs1 re1 h1=>?_
  cases k with
  |true=>exact⟨B,φ1,st1,ρ,rs1,re1,h1⟩
  |false=>exact⟨B,φ1,st1,ρ,rs1,re1,h1⟩
def zhg:PA X [] (tAs S X .nil):=zhr.imp λσ H Q ⟨B,φ,st,ρ,rs,re,h⟩=>by
 erw[evs]at h;exact h.ok rs (by erw[ye])
def zet(ha:PE X a (tE S X ca))(hr:PA X es (tAs S X ces))(hs:starEach (a::es) X.env=(AC,eval a X.env)::starEach es X.env:=by rfl):PA X (a::es) (tAs S X (.cons ca ces)):=
 (zbI ha hr hs).imp λσ H Q ⟨B,φ,st,ρ,rs,re,h⟩=>by
  erw[evs]at h;refine tE.bind rs re h λx H1 v st1 φ1 s1 rs1 re1 rv h1=>tAs.bind rs1 re1 h1 λxs H2 vs st2 φ2 s2 rs2 re2 rvs h2=>?_;refine h2.ok rs2 ?_;erw[ye];exact⟨x,xs,rfl,rv.step s2,rvs⟩
def znP{k:Nat}(h:PA X es (tAs S X ces)):PE X (.Tuple es k pos) (tE S X (.tup ces)):=
 (zoS h).imp λσ H Q ⟨B,φ,st,ρ,rs,re,h⟩=>by
  erw[ev]at h;refine tAs.bind rs re h λxs H1 vs st1 φ1 s1 rs1 re1 rv h1=>?_;split at h1
  .rename_i c;refine⟨by rw[<-zA,<-rv.length];exact c,λp hp=>h1 _ _ φ1 (.upd hp) (rs1.upd hp) (.tup_new hp rs1 rv)⟩
  .exact h1.elim
def zof(h:PA X es (tAs S X ces)):PE X (.List es pos) (tE S X (.lst ces)):=
 (zkw h).imp λσ H Q ⟨B,φ,st,ρ,rs,re,h⟩=>by
  erw[ev]at h;refine tAs.bind rs re h λxs H1 vs st1 φ1 s1 rs1 re1 rv h1=>?_;split at h1
  .rename_i c;refine⟨by rw[<-zA,<-rv.length];exact c,λp hp=>h1 _ _ φ1 (.upd hp) (rs1.upd hp) (.lst_new hp rs1 rv)⟩
  .exact h1.elim
theorem Step.push{p:AI}{o:HO}(hp:H p=AD):Step φ H (φ++[AA p]) (L2.upd H p o):=by
 refine⟨λb u n e=>by rw[zj (zl e hp)];exact e,by simp,λn a hn e=>?_,λb h=>?_⟩
 .rw[Ac hn]at e;exact e
 .rw[B1]at h;rcases h with h|h
  .exact .inl h
  .have:b=p:=by simpa using h
   subst this;exact .inr hp
theorem yt.push{K:AF}{cl:Nat->AI}{p:AI}{u:HO}{o:Ob}(rs:yt K cl B φ H st)(hp:H p=AD)(hb:¬B p)(ho:yb7 K cl B (φ++[AA p]) (L2.upd H p u) o p):yt K cl B (φ++[AA p]) (L2.upd H p u) (st++[o]):=by
 have s:Step φ H (φ++[AA p]) (L2.upd H p u):=.push hp;have np:AA p∉φ:=λz=>by
  let⟨w,e⟩:=rs.there z;rw[hp]at e;cases e
 have hl:φ.length=st.length:=rs.len;refine⟨by simp[hl],λm n a e1 e2=>?_,λn a e=>?_,λn o' e ho'=>?_,λa h=>?_,λa h=>?_⟩
 .by_cases hm:m<φ.length
  .rw[Ac hm]at e1
   by_cases hn:n<φ.length
   .rw[Ac hn]at e2;exact rs.inj m n a e1 e2
   .rw[Ao ∅]at e2;have:a=p:=by
     cases q:n-φ.length with
     |zero=>rw[q]at e2;simpa using e2.symm
     |succ k=>rw[q]at e2;simp at e2
    subst this;exact absurd (A1 e1) np
  .rw[Ao ∅]at e1;have:m-φ.length=0/\a=p:=by
    cases q:m-φ.length with
    |zero=>rw[q]at e1;exact⟨rfl,by simpa using e1.symm⟩
    |succ k=>rw[q]at e1;simp at e1
   let⟨q1,rfl⟩:=this
   by_cases hn:n<φ.length
   .rw[Ac hn]at e2;exact absurd (A1 e2) np
   .rw[Ao ∅]at e2;have:n-φ.length=0:=by
     cases q:n-φ.length with
     |zero=>rfl
     |succ k=>rw[q]at e2;simp at e2
    lia
 .by_cases hn:n<φ.length
  .rw[Ac hn]at e;let⟨o',q,r⟩:=rs.obj n a e;refine⟨o',by rw[Ac ∅];exact q,r.step s ?_⟩;rw[zj]
   rintro rfl
   exact np (A1 e)
  .rw[Ao ∅]at e;have:n-φ.length=0/\a=p:=by
    cases q:n-φ.length with
    |zero=>rw[q]at e;exact⟨rfl,by simpa using e.symm⟩
    |succ k=>rw[q]at e;simp at e
   let⟨q1,rfl⟩:=this;refine⟨o,?_,ho⟩;rw[Ao ∅];have:n-st.length=0:=by lia
   rw[this];rfl
 .by_cases hn:n<φ.length
  .rw[Ac ∅]at e;let⟨a,q⟩:=rs.liv n o' e ho';exact⟨a,by rw[Ac hn];exact q⟩
  .rw[Ao ∅]at e;have:n-st.length=0:=by
    cases q:n-st.length with
    |zero=>rfl
    |succ k=>rw[q]at e;simp at e
   refine⟨p,?_⟩;rw[Ao ∅];have:n-φ.length=0:=by lia
   rw[this];rfl
 .rw[B1]at h;rcases h with h|h
  .exact rs.nb a h
  .have:a=p:=by simpa using h
   subst this;exact hb
 .let⟨w,e⟩:=rs.dom a h;exact⟨w,by rw[zj (zl e hp)];exact e⟩
theorem yt.nB{K:AF}{cl:Nat->AI}{p:AI}(rs:yt K cl B φ H st)(hp:H p=AD):¬B p:=λz=>by
 let⟨o,e⟩:=rs.dom p z;rw[hp]at e;cases e
theorem yd.loc_new{K:AF}{cl:Nat->AI}{p:AI}(rs:yt K cl B φ H st):yd K cl B (φ++[AA p]) H1 (.loc st.length) (.ref p):=by
 erw[yd];have hl:=rs.len;refine⟨by simp[hl],p,rfl,λb e=>?_⟩;rw[Ao ∅]at e;have:st.length-φ.length=0:=by lia
 rw[this]at e;simpa using e.symm
def zmq(h:PA X es (tAs S X ces)):PE X (.List es pos) (tE S X (.newl ces)):=
 (zkw h).imp λσ H Q ⟨B,φ,st,ρ,rs,re,h⟩=>by
  erw[ev]at h;refine tAs.bind rs re h λxs H1 vs st1 φ1 s1 rs1 re1 rv h1=>?_;split at h1
  .rename_i c;refine⟨by rw[<-zA,<-rv.length];exact c,λp hp=>h1 _ _ (φ1++[AA p]) (.push hp) (rs1.push hp (rs1.nB hp) ⟨xs,zq,rv.step (.push hp)⟩) (.loc_new rs1)⟩
  .exact h1.elim
end
section
variable {S:Se}{X:Cx}{σ:St}{B:AI->Prop}{φ φ1:Ph}{H H1:Hp}{st:SO}{ρ:IC.Env}{pos p2:CT}{a b c d:AS}{ca cb cc:Ce}{es:List AS}{ces:Ces}{K:AF}{cl:Nat->AI}
def ziC{o:COp}{v w:PV}{α β:Type}{Rel:Ph->Hp->α->β->Prop}{k:Bool->R α}{Q:β->Hp->Prop}(h:Run S X σ B φ H Rel (onO (blO (yu o v w)) k) Q):∃b,yu o v w=AA (.bl b)/\Run S X σ B φ H Rel (k b) Q:=by
 cases e:yu o v w with
 |none=>rw[e]at h;exact h.elim
 |some z=>
  let⟨b,rfl⟩:=zeD e;rw[e]at h;exact⟨b,rfl,h⟩
def zj0{op op':FR}{o p:COp}(ho:OpR X (compareOp op) (rT2 S X (yu o)))(ho':OpR X (compareOp op') (rT2 S X (yu p)))(ha:PE X a (tE S X ca))(hb:PE X b (tE S X cb))(hc:PE X c (tE S X cc))
  (hm:lastMarks [op,op'] [b,c]=false:=by ac_rfl):PE X (.Compare a [op,op'] [b,c] pos) (tE S X (.chain o p ca cb cc)):=
 (zjk ho ho' ha hb hc hm).imp λσ H Q ⟨B,φ,st,ρ,rs,re,h⟩=>by
  erw[ev]at h;refine tE.bind rs re h λx H1 v st1 φ1 s1 rs1 re1 rv h1=>tE.bind rs1 re1 h1 λy H2 w st2 φ2 s2 rs2 re2 rw h2=>?_;let⟨k,e,h2⟩:=ziC h2;refine⟨B,φ2,st2,v,w,.bl k,rs2,rv.step s2,rw,e,λz' H' φ' s' rs' rz=>?_⟩;erw[yd]at rz;refine⟨k,rz,?_⟩
  cases k with
  |false=>exact h2 _ H' φ' s' rs' (by erw[yd])
  |true=>
   refine tE.bind rs' (re2.step s') (Run.on s' h2) λz H3 v3 st3 φ3 s3 rs3 re3 rv3 h3=>?_;let⟨q,eq,hq⟩:=zas h3 rs3;exact⟨B,φ3,st3,w,v3,q,rs3,(rw.step s').step s3,rv3,eq,hq⟩
def zjp{op op':FR}{o p:COp}(ho:OpR X (compareOp op) (rT2 S X (yu o)))(ho':OpR X (compareOp op') (rT2 S X (yu p)))(ha:PE X a (tE S X ca))(hb:PE X b (tE S X cb))(hc:PE X c (tE S X cc))
  (hm:lastMarks [op,op'] [b,c]=false:=by ac_rfl):PT X (.Compare a [op,op'] [b,c] pos) (tTs S X (.chain o p ca cb cc)):=
 (zjo ho ho' ha hb hc hm).imp λσ H Q ⟨B,φ,st,ρ,rs,re,h⟩=>by
  erw[ev,ya4,R.bind_assoc]at h;refine tE.bind rs re h λx H1 v st1 φ1 s1 rs1 re1 rv h1=>tE.bind rs1 re1 h1 λy H2 w st2 φ2 s2 rs2 re2 rw h2=>?_;have h2':Run S X σ B φ2 H2 RB (onO (blO (yu o v w)) λk=>cond k ((ev S.call ρ st2 cc).bind λz st3=>(toR (yu p w z) st3).bind λx st=>onO (yaK st x) λb=>.ok b st) (.ok AC st2)) Q:=by
   cases e:yu o v w with
   |none=>rw[e]at h2;exact h2
   |some z=>
    let⟨b,rfl⟩:=zeD e;rw[e]at h2
    cases b with
    |false=>exact h2
    |true=>
     erw[blO,onO,cond_true,R.bind_assoc]at h2 ⊢;exact h2
  let⟨k,e,h2⟩:=ziC h2';refine⟨B,φ2,st2,v,w,.bl k,rs2,rv.step s2,rw,e,λz' H' φ' s' rs' rz=>?_⟩;erw[yd]at rz;refine⟨k,rz,?_⟩
  cases k with
  |false=>exact⟨AC,rfl,h2 _ H' φ' s' rs' rfl⟩
  |true=>
   refine tE.bind rs' (re2.step s') (Run.on s' h2) λz H3 v3 st3 φ3 s3 rs3 re3 rv3 h3=>?_
   cases eq:yu p w v3 with
   |none=>rw[eq]at h3;exact h3.elim
   |some q=>
    let⟨b,rfl⟩:=zeD eq;rw[eq]at h3;refine⟨B,φ3,st3,w,v3,.bl b,rs3,(rw.step s').step s3,rv3,eq,λz2 H4 φ4 s4 rs4 rz4=>?_⟩;erw[yd]at rz4;exact⟨b,rz4,h3 b H4 φ4 s4 rs4 rfl⟩
theorem ye.at{vs:List PV}{xs:List V}{i:Int}{v:PV}(l:ye K cl B φ H vs xs)(h:at? vs i=AA v):∃x,atI xs i=AA x/\yd K cl B φ H v x:=by
 unfold at? at h;rw[l.length]at h;unfold atI
 cases e:ixI xs.length i with
 |none=>rw[e]at h;cases h
 |some j=>
  rw[e]at h;have e':ixN xs.length i=AA j:=e;rw[e'];exact l.get j h
theorem yt.list{n:Nat}{vs:List PV}{x:V}(rs:yt K cl B φ H st)(r:yd K cl B φ H (.loc n) x)(h:st[n]?=AA (.lst vs)):∃a xs,x=.ref a/\φ[n]?=AA (AA a)/\H a=AA (.lst xs)/\ye K cl B φ H vs xs:=by
 erw[yd]at r;let⟨hn,a,rfl,ha⟩:=r;let⟨b,hb⟩:=rs.liv n _ h (by intro z;cases z);obtain rfl:=ha b hb;let⟨o,ho,ro⟩:=rs.obj n b hb;rw[h]at ho;cases ho;let⟨xs,hx,l⟩:=ro;exact⟨b,xs,rfl,hb,hx,l⟩
def rTS(S:Se)(X:Cx)(f:SO->PV->PV->Option PV):R2:=λx y H Q=>∃B φ st v w z,yt X.K S.cl B φ H st/\yd X.K S.cl B φ H v x/\yd X.K S.cl B φ H w y/\f st v w=AA z /\
 ∀z' H' φ',Step φ H φ' H'->yt X.K S.cl B φ' H' st->yd X.K S.cl B φ' H' z z'->Q z' H'
def zc3{α:Type}{xs:List α}{i:PV}{z:α}(h:yaW xs i=AA z):∃k,i=.int k/\at? xs k=AA z:=by
 cases i with
 |int k=>exact⟨k,rfl,h⟩
 |_=>cases h
def zlD:IxR X (rTS S X idxV):=by
 rintro value slice π s σ H x y v u Q I rx ry ⟨B,φ,st,a,i,z,rs,ra,ri,e,q⟩ hs
 cases a with
 |tp k vs=>
  let⟨k,rfl,e⟩:=zc3 e;erw[yd]at ra ri;subst ri;let⟨p,xs,rfl,rt,l⟩:=ra;let⟨w,e1,rw⟩:=l.at e;exact zgb value slice π s σ H _ _ v u Q I rx ry (.inr (.inl ⟨p,xs,k,w,rfl,rfl,rt.sq,e1,q w H φ .rfl rs rw⟩)) hs
 |lst vs=>
  let⟨k,rfl,e⟩:=zc3 e;erw[yd]at ra ri;subst ri;let⟨p,xs,rfl,rt,l⟩:=ra;let⟨w,e1,rw⟩:=l.at e;exact zgb value slice π s σ H _ _ v u Q I rx ry (.inl ⟨p,xs,k,w,rfl,rfl,rt.sq,e1,q w H φ .rfl rs rw⟩) hs
 |loc n=>
  erw[idxV]at e;split at e
  .rename_i vs h1;let⟨k,rfl,e⟩:=zc3 e;erw[yd]at ri;subst ri;let⟨p,xs,rfl,_,hx,l⟩:=rs.list ra h1;let⟨w,e1,rw⟩:=l.at e;exact zgb value slice π s σ H _ _ v u Q I rx ry (.inl ⟨p,xs,k,w,rfl,rfl,.of hx,e1,q w H φ .rfl rs rw⟩) hs
  .cases e
 |str t=>
  erw[idxV]at e;split at e
  .rename_i hl
   cases e1:yaW t.cps.toList i with
   |none=>rw[e1]at e;cases e
   |some c=>
    rw[e1]at e
    cases e
    let⟨k,rfl,e1⟩:=zc3 e1;erw[yd]at ra ri;subst ra ri;exact zgb value slice π s σ H _ _ v u Q I rx ry (.inr (.inr ⟨t,k,c,rfl,rfl,by rw[<-zA];exact hl,e1,q _ H φ .rfl rs (by erw[yd])⟩)) hs
  .cases e
 |_=>cases e
def zn3(ha:PE X a (tE S X ca))(hb:PE X b (tE S X cb))(hs:yby b:=by exact λ_ _=>rfl):PE X (.Subscript a b pos) (tE S X (.idx ca cb)):=
 (zo9 zlD ha hb hs).imp λσ H Q ⟨B,φ,st,ρ,rs,re,h⟩=>by
  erw[ev]at h;refine tE.bind rs re h λx H1 v st1 φ1 s1 rs1 re1 rv h1=>tE.bind rs1 re1 h1 λy H2 w st2 φ2 s2 rs2 re2 rw h2=>?_;let⟨z,e,q⟩:=zas h2 rs2;exact⟨B,φ2,st2,v,w,z,rs2,rv.step s2,rw,e,q⟩
theorem ye.cut{vs:List PV}{xs:List V}(lo hi:Option Int)(l:ye K cl B φ H vs xs):ye K cl B φ H (IC.cut vs lo hi) (ycq xs lo hi):=by
 have e1:∀n o,ycC n o=HT.sIx n 0 o:=λn o=>by cases o<;>rfl
 have e2:∀n o,ycP n o=HT.sIx n n o:=λn o=>by cases o<;>rfl
 unfold IC.cut ycq;rw[l.length,e1,e2];exact(l.drop _).take _
def tO(S:Se)(X:Cx)(c:Ce):TO:=λσ H Q=>tE S X c σ H λx H1=>(x=.non/\Q AD H1) \/ ∃i,x=.int i/\Q (AA i) H1
def zlU:PO X AD (tO S X (.cst .non)):=λπ s σ H Q I h=>by
 refine zlM π s σ H Q I ?_;let⟨B,φ,st,ρ,rs,re,h⟩:=h;erw[ev]at h;rcases h.ok rs (x:=V.non) (by erw[yd])with q|⟨i,z,_⟩
 .exact q.2
 .cases z
def zl6(ha:PE X a (tE S X ca)):PO X (AA a) (tO S X ca):=by
 intro π s σ H Q I hw;rw[evalPart_some];refine thn (ha π s σ H _ I hw) λu s1 kq=>?_;let⟨x,H1,I1,r1,q1⟩:=kq;rcases q1 with⟨rfl,q⟩|⟨i,rfl,q⟩
 .cases r1
  exact⟨AD,H1,I1,.none,q⟩
 .let⟨t,rfl⟩:=r1;exact⟨AA i,H1,I1,.int i t,q⟩
def rSl(S:Se)(X:Cx):V->Option Int->Option Int->Hp->VK->Prop:=λx lo hi H Q=>∃B φ st v z,yt X.K S.cl B φ H st/\yd X.K S.cl B φ H v x/\yck v lo hi=AA z /\
 ∀z' H' φ',Step φ H φ' H'->yt X.K S.cl B φ' H' st->yd X.K S.cl B φ' H' z z'->Q z' H'
def zbJ{prog:A3}{w:Ag}{A:Ar}{E:AG->AJ->Prop}{s:AJ}{t sl:AI}{items:Array AG}{vl vu:AG}{lo hi:Option Int}{Q:AG->AJ->Prop}(ht:HG s.heap t items)(hs:s.heap.IsSliceOf sl vl vu .none)(pl:Ed vl lo)(pu:Ed vu hi)
  (hw:HT.sIx items.size 0 lo=0/\HT.sIx items.size items.size hi=items.size)
  (h:Q (.ref t) s):A0 (model prog w) A (getItem (.ref t) (.ref sl)) Q E s:=by
 let⟨os,hos,hcs,hds⟩:=id hs;have hTs:s.TypeIs (.ref sl) "slice":=⟨os,hos,hcs⟩;unfold getItem
 try with_reducible refine D3 ?_
 first|refine AH (AU ?_)|skip
 refine AH (Fe ht.typeIs ⋯ ?_);refine AH (Bf (name:=AE "__getitem__") ht.typeIs BG
  (C4 BG ht.typeIs FN ?_ (F3 _ _)))
 show A0 _ _ (Dz (.ref t) >>= _) _ _ s;refine AH (FJ ht ?_);refine AH (Ff hTs ?_);rw[if_pos ⋯];refine AH (HT.sliceApplied_gen hs pl pu ?_);have hyes:(((HT.sIx items.size 0 lo:Nat):Int)==0&&(1:Int)==1&&(HT.sIx items.size items.size hi-HT.sIx items.size 0 lo)==items.size)=true:=by
  rw[hw.1,hw.2];simp
 show A0 _ _ (if (((HT.sIx items.size 0 lo:Nat):Int)==0&&(1:Int)==1&&(HT.sIx items.size items.size hi-HT.sIx items.size 0 lo)==items.size)=AB then _ else _) _ _ s;rw[if_pos hyes];refine AH (AH (Ff ht.typeIs (AU ?_)));rw[if_pos ⋯]
 first
  |exact AH (AU (AU ⟨_,rfl,AU h⟩))
  |exact AH (Ea (AU ⟨_,rfl,AU h⟩))
  |(wp_step;wp_step;exact⟨_,rfl,AU h⟩)
def yfG(K:AF):V->Option Int->Option Int->Hp->VK->Prop:=λx lo hi H Q=>∃a xs,x=.ref a/\SqT K H a xs /\
 (HT.sIx xs.length 0 lo=0/\HT.sIx xs.length xs.length hi=xs.length)/\Q (.ref a) H
def zjf:SlR X (yfG X.K):=by
 intro π s σ H x v vl vu lo hi sl Q I rx hs pl pu h;let⟨a,xs,rfl,hx,hw,q⟩:=h
 cases rx
 let⟨its,r,ht,hz⟩:=I.tuple hx;have hlen:its.toArray.size=xs.length:=by rw[AY];exact r.length.symm
 refine⟨"tuple",_,BG.lookup,ht.typeIs,?_⟩;exact zbJ ht hs pl pu (by rw[hlen];exact hw) ⟨.ref a,H,I,rfl,q⟩
def ygw:V->Option Int->Option Int->Hp->VK->Prop:=λx lo hi H Q=>∃y:AN,x=.str y/\y.length<=sizeLine/\Q (.str ⟨((y.cps.toList.drop (HT.sIx y.cps.toList.length 0 lo)).take (HT.sIx y.cps.toList.length y.cps.toList.length hi-HT.sIx y.cps.toList.length 0 lo)).toArray⟩) H
def zp7(lo hi:Option Int)(n:Nat):Dp lo hi 1 n=sliceRange ((HT.sIx n 0 lo:Nat):Int) ((HT.sIx n n hi:Nat):Int) 1:=by
 unfold Dp;erw[show (1:Int) > 0 by decide,if_true]
 congr 1
 .cases lo with
  |none=>simp[HT.sIx]
  |some i=>
   erw[HT.sIx]
   by_cases h:i<0
   .simp only[h,if_true]<;>lia
   .simp only[h,if_false]<;>lia
 .cases hi with
  |none=>simp[HT.sIx]
  |some i=>
   erw[HT.sIx]
   by_cases h:i<0
   .simp only[h,if_true]<;>lia
   .simp only[h,if_false]<;>lia
def zif(y:AN)(lo hi:Option Int):Txt.slice y lo hi=⟨((y.cps.toList.drop (HT.sIx y.cps.toList.length 0 lo)).take (HT.sIx y.cps.toList.length y.cps.toList.length hi-HT.sIx y.cps.toList.length 0 lo)).toArray⟩:=by
 have hn:y.length=y.cps.toList.length:=by simp[Str.length]
 unfold Txt.slice;rw[zp7,hn,sliceRange_one];have ha:=HT.sIx_le y.cps.toList.length 0 (DB _) lo;have hb:=HT.sIx_le y.cps.toList.length y.cps.toList.length (AT _) hi;generalize HT.sIx y.cps.toList.length 0 lo=a,HT.sIx y.cps.toList.length y.cps.toList.length hi=b at *;split
 .rename_i c;erw[BD,List.length_range,AK,beq_iff_eq]at c;obtain⟨rfl,rfl⟩:a=0/\b=y.cps.toList.length:=by lia
  rw[Gc,Nat.sub_zero,GH]
 .rw[pick_run]
def zmu:SlR X ygw:=by
 intro π s σ H x v vl vu lo hi sl Q I rx hs pl pu h;let⟨y,rfl,hz,q⟩:=h;let⟨t,rfl⟩:=rx;rw[<-zif]at q;refine⟨"str",_,PySem.F.slot_str_getitem.lookup,G9 _ _ _,?_⟩;have go:∀l u:Option (Int×HS),vl=partValue l->vu=partValue u->lo=l.map (·.1)->hi=u.map (·.1)->A0 (model X.prog X.w) X.A (getItem (.str y t) (.ref sl)) (EP X π σ Q) X.xe s:=by
  rintro l u rfl rfl rfl rfl
  refine wpAny_getItem_str_slice (l:=l) (u:=u) (st:=AD) hs rfl ?_;exact post_val_or_str ⟨BV (Txt.slice_le y _ _) hz,λt' k=>⟨.str _,H,I.tok k,⟨_,rfl⟩,q⟩⟩
 cases pl with
 |none=>
  cases pu with
  |none=>exact go AD AD rfl rfl rfl rfl
  |int j u=>exact go AD (AA (j,u)) rfl rfl rfl rfl
 |int i t1=>
  cases pu with
  |none=>exact go (AA (i,t1)) AD rfl rfl rfl rfl
  |int j u=>exact go (AA (i,t1)) (AA (j,u)) rfl rfl rfl rfl
def zmC:SlR X (rSl S X):=by
 rintro π s σ H x v vl vu lo hi sl Q I rx hs pl pu ⟨B,φ,st,w,z,rs,rw,e,q⟩
 have e1:∀n o,ycC n o=HT.sIx n 0 o:=λn o=>by cases o<;>rfl
 have e2:∀n o,ycP n o=HT.sIx n n o:=λn o=>by cases o<;>rfl
 cases w with
 |tp k vs=>
  erw[yck]at e;split at e
  .rename_i c
   cases e
   have rw':=rw;erw[yd]at rw;let⟨p,xs,rfl,rt,l⟩:=rw;refine zjf π s σ H _ v vl vu lo hi sl Q I rx hs pl pu ⟨p,xs,rfl,rt.sq,?_,q _ H φ .rfl rs rw'⟩;rw[l.length,e1,e2]at c;exact c
  .rename_i c
   cases e
   erw[yd]at rw;let⟨p,xs,rfl,rt,l⟩:=rw;refine zns π s σ H _ v vl vu lo hi sl Q I rx hs pl pu ⟨p,xs,rfl,rt.sq,?_,λt ht=>q _ _ φ (.upd ht) (rs.upd ht) (.tup_new ht rs (l.cut lo hi))⟩;rw[l.length,e1,e2]at c;exact c
 |str y=>
  erw[yck]at e;split at e
  .rename_i c
   cases e
   erw[yd]at rw;subst rw;refine zmu π s σ H _ v vl vu lo hi sl Q I rx hs pl pu ⟨y,rfl,by rw[<-zA];exact c,?_⟩;have:=q (.str ⟨(cut y.cps.toList lo hi).toArray⟩) H φ .rfl rs (by erw[yd]);rw[cut,e1,e2]at this;exact this
  .cases e
 |lst vs=>
  erw[yck]at e
  cases e
  erw[yd]at rw;let⟨p,xs,rfl,rt,l⟩:=rw;exact zhK π s σ H _ v vl vu lo hi sl Q I rx hs pl pu ⟨p,xs,rfl,rt.sq,λt ht=>q _ _ φ (.upd ht) (rs.upd ht) (.lst_new ht rs (l.cut lo hi))⟩
 |scr vs=>
  erw[yck]at e
  cases e
  erw[yd]at rw;let⟨p,xs,rfl,rt,l⟩:=rw;exact zhK π s σ H _ v vl vu lo hi sl Q I rx hs pl pu ⟨p,xs,rfl,(by rcases rt with rt|rt;exact .inl rt.1;exact .inr rt),λt ht=>q _ _ φ (.upd ht) (rs.upd ht) (.lst_new ht rs (l.cut lo hi))⟩
 |_=>cases e
def znd{lo hi:Option AS}(ha:PE X a (tE S X ca))(hl:PO X lo (tO S X cb))(hh:PO X hi (tO S X cc)):PE X (.Subscript a (.Slice lo hi AD p2) pos) (tE S X (.slc ca cb cc)):=
 (zkg zmC ha hl hh).imp λσ H Q ⟨B,φ,st,ρ,rs,re,h⟩=>by
  erw[ev]at h;have oi:∀{v:PV} {x:V} {o:Option Int} {B φ H},yd X.K S.cl B φ H v x->yb3 v=AA o->(x=.non/\o=AD) \/ ∃i,x=.int i/\o=AA i:=λ{v x o B φ H} r e=>by
   cases v with
   |non=>erw[yd]at r;cases e;exact .inl ⟨r,rfl⟩
   |int i=>erw[yd]at r;cases e;exact .inr ⟨i,r,rfl⟩
   |_=>cases e
  refine tE.bind rs re h λx H1 v st1 φ1 s1 rs1 re1 rv h1=>tE.bind rs1 re1 h1 λy H2 w st2 φ2 s2 rs2 re2 rw h2=>?_
  cases eo:yb3 w with
  |none=>rw[eo]at h2;exact h2.elim
  |some o1=>
   rw[eo]at h2;have key:tO S X cc σ H2 λu H3=>rSl S X x o1 u H3 Q:=by
    refine tE.bind rs2 re2 h2 λy' H3 w' st3 φ3 s3 rs3 re3 rw' h3=>?_;let⟨z,e,q⟩:=zas h3 rs3;unfold ycx at e
    cases eo':yb3 w' with
    |none=>rw[eo']at e;cases e
    |some o2=>
     rw[eo']at e;have fin:rSl S X x o1 o2 H3 Q:=⟨B,φ3,st3,v,z,rs3,(rv.step s2).step s3,e,q⟩;rcases oi rw' eo' with⟨rfl,rfl⟩|⟨i,rfl,rfl⟩
     .exact .inl ⟨rfl,fin⟩
     .exact .inr ⟨i,rfl,fin⟩
   rcases oi rw eo with⟨rfl,rfl⟩|⟨i,rfl,rfl⟩
   .exact .inl ⟨rfl,key⟩
   .exact .inr ⟨i,rfl,key⟩
end
section
variable {S:Se}{X:Cx}{σ:St}{B:AI->Prop}{φ φ1:Ph}{H H1:Hp}{st:SO}{ρ:IC.Env}{p pos p2:CT}{a b c d:AS}{ca cb cc:Ce}{es:List AS}{ces:Ces}{K:AF}{cl:Nat->AI}
def rB(S:Se)(X:Cx)(k:Blt):List V->Hp->VK->Prop:=λxs H Q=>∃B φ st vs z,yt X.K S.cl B φ H st/\ye X.K S.cl B φ H vs xs/\yar k st vs=AA z /\
 ∀z' H' φ',Step φ H φ' H'->yt X.K S.cl B φ' H' st->yd X.K S.cl B φ' H' z z'->Q z' H'
theorem ye.one{v:PV}{xs:List V}(l:ye K cl B φ H [v] xs):∃x,xs=[x]/\yd K cl B φ H v x:=by
 erw[ye]at l;let⟨y,ys,rfl,r,rfl⟩:=l;exact⟨y,rfl,r⟩
theorem ye.two{v w:PV}{xs:List V}(l:ye K cl B φ H [v,w] xs):∃x y,xs=[x,y]/\yd K cl B φ H v x/\yd K cl B φ H w y:=by
 erw[ye]at l;let⟨y,ys,rfl,r,z,zs,rfl,r2,rfl⟩:=l;exact⟨y,z,rfl,r,r2⟩
def zco{k:Blt}{st:SO}{vs:List PV}{z:PV}(h:yar k st vs=AA z)(h2:∀x y,yar k st [x,y]=AD):∃x,vs=[x]:=by
 match vs,h with
 |[x],_=>exact⟨x,rfl⟩
 |[x,y],h=>rw[h2]at h;cases h
def zc7{v:PV}{x:V}{vs:List PV}(rs:yt K cl B φ H st)(r:yd K cl B φ H v x)(h:yZ st v=AA vs):∃a xs,x=.ref a/\SqL K H a xs/\ye K cl B φ H vs xs:=by
 cases v with
 |lst ws=>
  cases h
  erw[yd]at r;let⟨a,xs,rfl,rt,l⟩:=r;exact⟨a,xs,rfl,rt.sq,l⟩
 |loc n=>
  erw[yZ]at h;split at h
  .rename_i ws hw
   cases h
   let⟨a,xs,rfl,_,hx,l⟩:=rs.list r hw;exact⟨a,xs,rfl,.of hx,l⟩
  .cases h
 |_=>cases h
def zna{v:PV}{x:V}{vs:List PV}(rs:yt K cl B φ H st)(r:yd K cl B φ H v x)(h:yb1 st v=AA vs):∃a xs,x=.ref a/\(SqL K H a xs \/ SqT K H a xs)/\ye K cl B φ H vs xs:=by
 cases v with
 |tp k ws=>
  cases h
  erw[yd]at r;let⟨a,xs,rfl,rt,l⟩:=r;exact⟨a,xs,rfl,.inr rt.sq,l⟩
 |lst ws=>
  let⟨a,xs,e,q,l⟩:=zc7 rs r (vs:=vs) h;exact⟨a,xs,e,.inl q,l⟩
 |loc n=>
  let⟨a,xs,e,q,l⟩:=zc7 rs r (vs:=vs) h;exact⟨a,xs,e,.inl q,l⟩
 |_=>cases h
def zmV:yae X (.builtin "len") (rB S X .len):=by
 rintro π s σ H xs us Q I r ⟨B,φ,st,vs,z,rs,l,e,q⟩
 let⟨v,rfl⟩:=zco e λ_ _=>rfl;let⟨x,rfl,rv⟩:=l.one;erw[yar,lenV]at e;split at e
 .rename_i t;split at e
  .rename_i c
   cases e
   erw[yd]at rv;subst rv;exact zfc π s σ H _ us Q I r ⟨t,rfl,by rw[<-zA];exact c,q _ H φ .rfl rs (by erw[yd])⟩
  .cases e
 .cases e1:yb1 st v with
  |none=>rw[e1]at e;cases e
  |some ws=>
   rw[e1]at e
   cases e
   let⟨a,ys,rfl,h,l⟩:=zna rs rv e1;refine zeJ π s σ H _ us Q I r ⟨a,ys,rfl,?_,q _ H φ .rfl rs (by erw[yd];rw[l.length])⟩;exact h
def zni:yae X (.type "int") (rB S X .int):=by
 rintro π s σ H xs us Q I r ⟨B,φ,st,vs,z,rs,l,e,q⟩
 let⟨v,rfl⟩:=zco e λ_ _=>rfl;let⟨x,rfl,rv⟩:=l.one;erw[yar]at e
 cases v with
 |int i=>
  cases e
  erw[yd]at rv;subst rv;exact zfh π s σ H _ us Q I r (.inl ⟨i,rfl,q _ H φ .rfl rs (by erw[yd])⟩)
 |bl k=>
  cases e
  erw[yd]at rv;subst rv;exact zfh π s σ H _ us Q I r (.inr ⟨k,rfl,q _ H φ .rfl rs (by erw[yd,bi])⟩)
 |_=>cases e
def zmP:yae X (.builtin "abs") (rB S X .abs):=by
 rintro π s σ H xs us Q I r ⟨B,φ,st,vs,z,rs,l,e,q⟩
 let⟨v,rfl⟩:=zco e λ_ _=>rfl;let⟨x,rfl,rv⟩:=l.one;erw[yar]at e
 cases v with
 |int i=>
  cases e
  erw[yd]at rv;subst rv;exact zkk π s σ H _ us Q I r ⟨i,rfl,q _ H φ .rfl rs (by erw[yd])⟩
 |_=>cases e
def zkE:∀{vs:List PV} {m:Int},yds vs=AA m->∃ns:List Int,vs=ns.map .int/\m∈ns/\∀a∈ns,a<=m
 |[],m,h=>by cases h
 |[.int i],m,h=>by cases h;exact⟨[i],rfl,by simp,by simp⟩
 |.int i::w::r,m,h=>by
  erw[yds]at h;split at h
  .rename_i c e
   cases h
   let⟨ns,e1,e2,e3⟩:=zkE e;refine⟨i::ns,by rw[e1];rfl,?_,λa ha=>?_⟩
   .split
    .exact AQ _ e2
    .exact Aj
   .rcases AR.mp ha with rfl|ha
    .split<;>lia
    .have:=e3 a ha;split<;>lia
  .cases h
 |.non::r,m,h=>by cases r<;>cases h
 |.bl _::r,m,h=>by cases r<;>cases h
 |.str _::r,m,h=>by cases r<;>cases h
 |.tp _ _::r,m,h=>by cases r<;>cases h
 |.lst _::r,m,h=>by cases r<;>cases h
 |.loc _::r,m,h=>by cases r<;>cases h
 |.fnc _::r,m,h=>by cases r<;>cases h
 |.exn _::r,m,h=>by cases r<;>cases h
 |.scr _::r,m,h=>by cases r<;>cases h
theorem ye.ints:∀{ns:List Int} {xs:List V},ye K cl B φ H (ns.map .int) xs->xs=ns.map V.int
 |[],xs,h=>by simpa only[Ai,ye] using h
 |n::ns,xs,h=>by
  erw[AL,ye]at h;let⟨y,ys,rfl,r,l⟩:=h;erw[yd]at r;rw[r,ye.ints l];rfl
theorem ye.bls:∀{ns:List Bool} {xs:List V},ye K cl B φ H (ns.map .bl) xs->xs=ns.map V.bl
 |[],xs,h=>by simpa only[Ai,ye] using h
 |n::ns,xs,h=>by
  erw[AL,ye]at h;let⟨y,ys,rfl,r,l⟩:=h;erw[yd]at r;rw[r,ye.bls l];rfl
def zlj{v w z:PV}(e:maxV v w=AA z):∃i j,v=.int i/\w=.int j/\z=.int (if i<j then j else i):=by
 unfold maxV at e;split at e
 .exact⟨_,_,rfl,rfl,(AW e).symm⟩
 .cases e
def zoJ(hc:X.calm=AB):yae X (.builtin "max") (rB S X .max):=by
 rintro π s σ H xs us Q I r ⟨B,φ,st,vs,z,rs,l,e,q⟩
 rcases vs with _|⟨v,_|⟨w,_|⟨u',t⟩⟩⟩
 .simp[yar]at e
 .let⟨x,rfl,rv⟩:=l.one;erw[yar]at e
  cases e1:yZ st v with
  |none=>rw[e1]at e;cases e
  |some ws=>
   rw[e1]at e;erw[B7]at e
   cases e2:yds ws with
   |none=>rw[e2]at e;cases e
   |some m=>
    rw[e2]at e;obtain rfl:=AW e;let⟨ns,rfl,hm,hb⟩:=zkE e2;let⟨a,ys,rfl,h,l⟩:=zc7 rs rv e1;rw[l.ints]at h;refine ziP hc π s σ H _ us Q I r ⟨a,ns,rfl,h,List.length_pos_of_mem hm,λM h1 h2=>?_⟩;have:M=m:=by
     have:=hb M h1;have:=h2 m hm;lia
    subst this;exact q _ H φ .rfl rs (by erw[yd])
 .let⟨x,y,rfl,rv,rw⟩:=l.two;have e:maxV v w=AA z:=e;let⟨i,j,rfl,rfl,rfl⟩:=zlj e;erw[yd]at rv rw;subst rv rw;exact ziM hc π s σ H _ us Q I r ⟨i,j,rfl,q (.int (if i<j then j else i)) H φ .rfl rs (by erw[yd])⟩
 .simp[yar]at e
def zjC:yae X (.type "tuple") (rB S X .tuple):=by
 rintro π s σ H xs us Q I r ⟨B,φ,st,vs,z,rs,l,e,q⟩
 let⟨v,rfl⟩:=zco e λ_ _=>rfl;let⟨x,rfl,rv⟩:=l.one;erw[yar,yeA]at e;split at e
 .cases e
  erw[yd]at rv;let⟨a,ys,rfl,rt,l⟩:=rv;exact zbM π s σ H _ us Q I r ⟨a,ys,rfl,.inr ⟨rt.sq,q _ H φ .rfl rs (by erw[yd];exact⟨a,ys,rfl,rt,l⟩)⟩⟩
 .cases e1:yZ st v with
  |none=>rw[e1]at e;cases e
  |some ws=>
   rw[e1]at e
   cases e
   let⟨a,ys,rfl,h,l⟩:=zc7 rs rv e1;exact zbM π s σ H _ us Q I r ⟨a,ys,rfl,.inl ⟨h,λt ht=>q _ _ φ (.upd ht) (rs.upd ht) (.tup_new ht rs l)⟩⟩
def zks:∀{vs:List PV} {m:Bool},IC.allB vs=AA m->∃ns:List Bool,vs=ns.map .bl/\m=ns.all id
 |[],m,h=>by cases h;exact⟨[],rfl,rfl⟩
 |.bl i::r,m,h=>by
  erw[IC.allB]at h;split at h
  .rename_i c e
   cases h
   let⟨ns,e1,e2⟩:=zks e;exact⟨i::ns,by rw[e1];rfl,by rw[e2];rfl⟩
  .cases h
 |.non::r,m,h=>by cases h
 |.int _::r,m,h=>by cases h
 |.str _::r,m,h=>by cases h
 |.tp _ _::r,m,h=>by cases h
 |.lst _::r,m,h=>by cases h
 |.loc _::r,m,h=>by cases h
 |.fnc _::r,m,h=>by cases h
 |.exn _::r,m,h=>by cases h
 |.scr _::r,m,h=>by cases h
def zng(hc:X.calm=AB):yae X (.builtin "all") (rB S X .all):=by
 rintro π s σ H xs us Q I r ⟨B,φ,st,vs,z,rs,l,e,q⟩
 let⟨v,rfl⟩:=zco e λ_ _=>rfl;let⟨x,rfl,rv⟩:=l.one;erw[yar]at e
 cases e1:yZ st v with
 |none=>rw[e1]at e;cases e
 |some ws=>
  rw[e1]at e;erw[B7]at e
  cases e2:IC.allB ws with
  |none=>rw[e2]at e;cases e
  |some m=>
   rw[e2]at e
   cases e
   let⟨ns,rfl,rfl⟩:=zks e2;let⟨a,ys,rfl,h,l⟩:=zc7 rs rv e1;rw[l.bls]at h;exact zjZ hc π s σ H _ us Q I r ⟨a,ns,rfl,h,q _ H φ .rfl rs (by erw[yd])⟩
variable {x:AN}{id T:String}{k:Blt}
def zoV(hc:yae X (.builtin id) (rB S X k))(hg:Gl X x)(hm:X.mg x=AD)(hv:bootBuiltins x=AA (.builtin id))(ha:PA X (a::es) (tAs S X ces))(hn:x ≠ "__name__":=by decide)(hdb:(x==("__debug__":AN))=false:=by decide)
  (he:starEach (a::es) X.env=(AC,eval a X.env)::starEach es X.env:=by rfl) (hpl:(backTo pos (starEach es X.env)).any (·.1)=false:=by rfl):PE X (.Call (.Name x p) (a::es) [] pos) (tE S X (.blt k ces)):=
 (zgv hc hg hm hv ha hn hdb he hpl).imp λσ H Q ⟨B,φ,st,ρ,rs,re,h⟩=>by
  erw[ev]at h;refine tAs.bind rs re h λxs H1 vs st1 φ1 s1 rs1 re1 rv h1=>?_;let⟨z,e,q⟩:=zas h1 rs1;exact⟨B,φ1,st1,vs,z,rs1,rv,e,q⟩
def zlv(hc:yae X (.type T) (rB S X k))(hg:Gl X x)(hm:X.mg x=AD)(hv:bootBuiltins x=AA (.type T))(ha:PA X (a::es) (tAs S X ces))(hn:x ≠ "__name__":=by decide)(hdb:(x==("__debug__":AN))=false:=by decide)
  (he:starEach (a::es) X.env=(AC,eval a X.env)::starEach es X.env:=by rfl) (hpl:(backTo pos (starEach es X.env)).any (·.1)=false:=by rfl):PE X (.Call (.Name x p) (a::es) [] pos) (tE S X (.blt k ces)):=
 (zi0 hc hg hm hv ha hn hdb he hpl).imp λσ H Q ⟨B,φ,st,ρ,rs,re,h⟩=>by
  erw[ev]at h;refine tAs.bind rs re h λxs H1 vs st1 φ1 s1 rs1 re1 rv h1=>?_;let⟨z,e,q⟩:=zas h1 rs1;exact⟨B,φ1,st1,vs,z,rs1,rv,e,q⟩
end
section
variable {S:Se}{X:Cx}{σ:St}{B:AI->Prop}{φ φ1:Ph}{H H1:Hp}{st:SO}{ρ:IC.Env}{p pos p2 apos:CT}{a b c d:AS}{ca cb cc:Ce}{es:List AS}{ces:Ces}{K:AF}{cl:Nat->AI}
theorem Step.put{l:AI}{u:HO}(hl:AA l∈φ):Step φ H φ (L2.upd H l u):=
 ⟨λb o n e=>by rw[zj (show b≠l from λz=>n (by rw[z];exact hl))];exact e,AT _,λ_ _ _ e=>e,λ_ h=>.inl h⟩
theorem yt.put{n:Nat}{l:AI}{u:HO}{o:Ob}(rs:yt K cl B φ H st)(hn:φ[n]?=AA (AA l))(ho:yb7 K cl B φ (L2.upd H l u) o l):yt K cl B φ (L2.upd H l u) (st.set n o):=by
 have hm:AA l∈φ:=A1 hn;have s:Step φ H φ (L2.upd H l u):=.put hm;have hlt:n<st.length:=by rw[<-rs.len];exact(BI.mp hn).1
 refine⟨by rw[B3];exact rs.len,rs.inj,λm a e=>?_,λm o' e ho'=>?_,rs.nb,λa h=>?_⟩
 .by_cases hmn:m=n
  .subst hmn;rw[hn]at e;cases e;exact⟨o,by rw[A4 hlt],ho⟩
  .let⟨o',q,r⟩:=rs.obj m a e;refine⟨o',by rw[AM (BE hmn)];exact q,r.step s ?_⟩;rw[zj]
   rintro rfl
   exact hmn (rs.inj m n a e hn)
 .by_cases hmn:m=n
  .subst hmn;exact⟨l,hn⟩
  .rw[AM (BE hmn)]at e;exact rs.liv m o' e ho'
 .let⟨w,e⟩:=rs.dom a h
  by_cases z:a=l
  .subst z;exact⟨u,zq⟩
  .exact⟨w,by rw[zj z];exact e⟩
def zpH:1000000<=sizeLine:=by rw[D8];decide
def ziO{m:Mth}{v:PV}{st:SO}{α β:Type}{Rel:Ph->Hp->α->β->Prop}{k:Bool->R α}{Q:β->Hp->Prop}(h:Run S X σ B φ H Rel (onO (yaL m st v) k) Q):∃b,yaL m st v=AA b/\Run S X σ B φ H Rel (k b) Q:=by
 cases e:yaL m st v with
 |none=>rw[e]at h;exact h.elim
 |some z=>rw[e]at h;exact⟨z,rfl,h⟩
def zhO(ha:PE X a (tE S X ca))(hb:PE X b (tE S X cb))(hs:starEach [b] X.env=[(AC,eval b X.env)]:=by rfl)(hbase:attributeBase a "append" X.env (eval a X.env)=eval a X.env:=by rfl)(hline:(apos.endLine==pos.line)=true:=by rfl)
  (hfew:((backTo pos (starEach [b] X.env)).all (λx=>!x.1)&&(backToKw pos (keywordEach [] X.env)).all (λx=>x.1.isSome)&&decide (([b]:List AS).length+([]:List C2).length+(if ([]:List C2).isEmpty then 0 else 1)<30))=true:=by rfl):
  PE X (.Call (.Attribute a "append" apos) [b] [] pos) (tE S X (.mth .append ca (.cons cb .nil))):=
 (zps PySem.F.plainAttrs_list Ew PySem.F.type_list_append zeY ha (zet (S:=S) hb zhg hs) hbase hfew hline hs rfl).imp λσ H Q ⟨B,φ,st,ρ,rs,re,h⟩=>by
  erw[ev]at h;refine tE.bind rs re h λx H1 v st1 φ1 s1 rs1 re1 rv h1=>?_;let⟨_,e1,h1⟩:=ziO h1;have t1:∃ws,yZ st1 v=AA ws:=by
   erw[yaL]at e1
   cases q:yZ st1 v with
   |none=>rw[q]at e1;cases e1
   |some ws=>exact⟨ws,rfl⟩
  let⟨ws,t1⟩:=t1;let⟨l,xs,rfl,hl,_⟩:=zc7 rs1 rv t1;refine⟨.inl ⟨rfl,xs,hl⟩,tAs.bind rs1 re1 h1 λys H2 vs st2 φ2 s2 rs2 re2 rvs h2=>?_⟩;have rv2:=rv.step s2;rcases vs with _|⟨w,_|⟨w',t⟩⟩
  .exact h2.elim
  .let⟨y,rfl,rw⟩:=rvs.one;unfold yb5 at h2;erw[ydL]at h2;split at h2
   .rename_i n;split at h2
    .rename_i zs hz;split at h2
     .rename_i c;let⟨l',xs',e,hn,hx,lr⟩:=rs2.list rv2 hz
      cases e
      refine⟨l,xs',y,rfl,rfl,hx,by have:=zpH;have:=lr.length;lia,?_⟩;exact h2 _ _ φ2 (.put (A1 hn)) (rs2.put hn ⟨_,zq,(lr.append (by erw[ye];exact⟨y,[],rfl,rw,rfl⟩)).step (.put (A1 hn))⟩) (by erw[yd])
     .exact h2.elim
    .exact h2.elim
   .exact h2.elim
  .exact h2.elim
def znQ(ha:PE X a (tE S X ca)):PE X a (tE S X (.frz ca)):=
 ha.imp λσ H Q ⟨B,φ,st,ρ,rs,re,h⟩=>by
  erw[ev]at h;refine tE.bind rs re h λx H1 v st1 φ1 s1 rs1 re1 rv h1=>?_;unfold ydl at h1;split at h1
  .rename_i n;split at h1
   .rename_i vs hv;let⟨l,xs,rfl,hn,hx,lr⟩:=rs1.list rv hv;have hm:AA l∈φ1:=A1 hn;have hlt:n<φ1.length:=(BI.mp hn).1;have nl:AA l∉φ1.set n none:=λz=>by
     let⟨m,e⟩:=DS.mp z
     by_cases hmn:m=n
     .subst hmn;rw[A4 hlt]at e;cases e
     .rw[AM (BE hmn)]at e;exact hmn (rs1.inj m n l e hn)
    have sb:∀b,AA b∈φ1.set n AD->AA b∈φ1:=λb z=>by
     let⟨m,e⟩:=DS.mp z
     by_cases hmn:m=n
     .subst hmn;rw[A4 hlt]at e;cases e
     .rw[AM (BE hmn)]at e;exact A1 e
    have s:Step φ1 H1 (φ1.set n AD) H1:=⟨λ_ _ _ e=>e,by simp,λm a hm' e=>by
     by_cases hmn:m=n
     .subst hmn;rw[A4 hlt]at e;cases e
     .rw[AM (BE hmn)]at e;exact e,λb z=>.inl (sb b z)⟩
    refine h1 _ H1 (φ1.set n AD) s ⟨by simp[rs1.len],λm k a e1 e2=>?_,λm a e=>?_,λm o e ho=>?_,λa z=>rs1.nb a (sb a z),rs1.dom⟩ ?_
    .by_cases h1':m=n
     .subst h1';rw[A4 hlt]at e1;cases e1
     .by_cases h2':k=n
      .subst h2';rw[A4 hlt]at e2;cases e2
      .rw[AM (BE h1')]at e1;rw[AM (BE h2')]at e2;exact rs1.inj m k a e1 e2
    .by_cases hmn:m=n
     .subst hmn;rw[A4 hlt]at e;cases e
     .rw[AM (BE hmn)]at e;let⟨o,q,r⟩:=rs1.obj m a e;exact⟨o,by rw[AM (BE hmn)];exact q,r.step s rfl⟩
    .by_cases hmn:m=n
     .subst hmn;rw[A4 (by rw[<-rs1.len];exact hlt)]at e;cases e;exact absurd rfl ho
     .rw[AM (BE hmn)]at e ⊢;exact rs1.liv m o e ho
    .simp only[yd];exact⟨l,xs,rfl,⟨hx,rs1.nb l hm,nl⟩,lr.step s⟩
   .exact h1.elim
  .exact h1.ok rs1 rv
end
section
variable (S:Se)(X:Cx)
def yaF(B:AI->Prop)(φ:Ph)(H:Hp)(f:Fl)(D:Ends):Prop:=
 match f with
 |.nx ρ' st'=>∀σ' H' φ',Step φ H φ' H'->yt X.K S.cl B φ' H' st'->yJ X.K S.cl B φ' H' ρ' σ'->D.nx σ' H'
 |.rt v st'=>∀x H' φ',Step φ H φ' H'->yt X.K S.cl B φ' H' st'->yd X.K S.cl B φ' H' v x->D.rt x H'
 |.bk ρ' st'=>∀σ' H' φ',Step φ H φ' H'->yt X.K S.cl B φ' H' st'->yJ X.K S.cl B φ' H' ρ' σ'->D.bk σ' H'
 |.ct ρ' st'=>∀σ' H' φ',Step φ H φ' H'->yt X.K S.cl B φ' H' st'->yJ X.K S.cl B φ' H' ρ' σ'->D.ct σ' H'
 |.exc k ρ' st'=>∀σ' φ1 H1 e s',Step φ H φ1 H1->yJ X.K S.cl B φ1 H1 ρ' σ'->ExcAt S X σ' B φ1 H1 k st' e s'->X.xe e s'
 |.bad=>False
def tS(c:Cs):TS:=λD σ H=>∃B φ st ρ,yt X.K S.cl B φ H st/\yJ X.K S.cl B φ H ρ σ/\yaF S X B φ H (ex S.call ρ st c) D
def tSs(c:Css):TS:=λD σ H=>∃B φ st ρ,yt X.K S.cl B φ H st/\yJ X.K S.cl B φ H ρ σ/\yaF S X B φ H (exs S.call ρ st c) D
end
section
variable {S:Se}{X:Cx}{σ:St}{B:AI->Prop}{φ φ1:Ph}{H H1:Hp}{st:SO}{ρ:IC.Env}{D:Ends}{pos p2 px:CT}{a b c o:AS}{ca cb cc:Ce}{s1:Bz}{ss ss':List Bz}{c1:Cs}{cs cs':Css}
theorem yaF.on{f:Fl}(s:Step φ H φ1 H1)(h:yaF S X B φ H f D):yaF S X B φ1 H1 f D:=by
 cases f with
 |nx ρ st=>exact λσ' H' φ' t=>h σ' H' φ' (s.trans t)
 |rt ρ st=>exact λσ' H' φ' t=>h σ' H' φ' (s.trans t)
 |bk ρ st=>exact λσ' H' φ' t=>h σ' H' φ' (s.trans t)
 |ct ρ st=>exact λσ' H' φ' t=>h σ' H' φ' (s.trans t)
 |exc k ρ st=>exact λσ' φ2 H2 e s' t=>h σ' φ2 H2 e s' (s.trans t)
 |bad=>exact h
theorem tE.fl{k:PV->SO->Fl}{P:V->Hp->Prop}(rs:yt X.K S.cl B φ H st)(re:yJ X.K S.cl B φ H ρ σ)(h:yaF S X B φ H ((ev S.call ρ st ca).fl ρ k) D)
  (n:∀x H1 v st1 φ1,Step φ H φ1 H1->yt X.K S.cl B φ1 H1 st1->yJ X.K S.cl B φ1 H1 ρ σ->yd X.K S.cl B φ1 H1 v x->yaF S X B φ1 H1 (k v st1) D->P x H1):tE S X ca σ H P:=by
 refine⟨B,φ,st,ρ,rs,re,?_⟩
 cases e:ev S.call ρ st ca with
 |ok v st'=>
  rw[e]at h;exact λx H' φ' s rs' rv=>n x H' v st' φ' s rs' (re.step s) rv (h.on s)
 |exc k st'=>
  rw[e]at h;exact λe s' x=>h σ φ H e s' .rfl re x
 |bad=>rw[e]at h;exact h
theorem PS.imp{t t':TS}(h:PS X s1 t')(k:∀D σ H,t D σ H->t' D σ H):PS X s1 t:=λπ s σ H D I q=>h π s σ H D I (k D σ H q)
theorem PSs.imp{t t':TS}(h:PSs X ss t')(k:∀D σ H,t D σ H->t' D σ H):PSs X ss t:=λπ s σ H D I q=>h π s σ H D I (k D σ H q)
theorem yJ.set{K:AF}{cl:Nat->AI}(r:yJ K cl B φ H ρ σ)(i:Nat){v:PV}{x:V}(rv:yd K cl B φ H v x):yJ K cl B φ H (ρ.set i (AA v)) (σ.set i (AA x)):=by
 refine⟨by rw[B3,B3];exact r.len,λj w e=>?_⟩
 by_cases h:j=i
 .subst h
  by_cases hl:j<ρ.length
  .rw[A4 hl]at e
   cases e
   exact⟨x,by rw[A4 (by rw[<-r.len];exact hl)],rv⟩
  .rw[BU (by rw[B3];lia)]at e
   cases e
 .rw[AM (BE h)]at e ⊢;exact r.get j w e
def znJ:PSs X [] (tSs S X .nil):=zpX.imp λD σ H ⟨B,φ,st,ρ,rs,re,h⟩=>by
 erw[exs]at h;exact h σ H φ .rfl rs re
def zlJ(h1:PS X s1 (tS S X c1))(h2:PSs X ss (tSs S X cs)):PSs X (s1::ss) (tSs S X (.cons c1 cs)):=
 (zf0 h1 h2).imp λD σ H ⟨B,φ,st,ρ,rs,re,h⟩=>by
  erw[exs]at h;refine⟨B,φ,st,ρ,rs,re,?_⟩
  cases e:ex S.call ρ st c1 with
  |nx ρ1 st1=>
   rw[e]at h;exact λσ' H' φ' s rs' re'=>⟨B,φ',st1,ρ1,rs',re',h.on s⟩
  |rt v st1=>rw[e]at h;exact h
  |bk ρ1 st1=>rw[e]at h;exact h
  |ct ρ1 st1=>rw[e]at h;exact h
  |exc k ρ1 st1=>rw[e]at h;exact h
  |bad=>rw[e]at h;exact h
def zk7(he:PE X a (tE S X ca))(hs:swapsWith a AD pos.line X.env=pure false:=by rfl):PS X (.Expr a pos) (tS S X (.expr ca)):=
 (zmn he hs).imp λD σ H ⟨B,φ,st,ρ,rs,re,h⟩=>by
  erw[ex]at h;exact tE.fl rs re h λx H1 v st1 φ1 s rs1 re1 rv h1=>h1 σ H1 φ1 .rfl rs1 re1
def zmI(he:PE X a (tE S X ca)):PS X (.Return (AA a) pos) (tS S X (.ret ca)):=
 (zkt he).imp λD σ H ⟨B,φ,st,ρ,rs,re,h⟩=>by
  erw[ex]at h;exact tE.fl rs re h λx H1 v st1 φ1 s rs1 re1 rv h1=>h1 x H1 φ1 .rfl rs1 rv
def zl2:PS X (.Return AD pos) (tS S X (.ret (.cst .non))):=
 zpY.imp λD σ H ⟨B,φ,st,ρ,rs,re,h⟩=>by
  erw[ex,ev,R.fl]at h;exact h .non H φ .rfl rs (by erw[yd])
def zos{i:Nat}{x:AN}(hN:X.N.Nodup)(hi:X.N[i]?=AA x)(hx:Loc X.env.scope x)(he:PE X a (tE S X ca))(hs:swapsWith a (AA (.Name x px)) pos.line X.env=pure false:=by rfl)
  (hf:X.fn x=AB \/ X.env.scope.names.lookup x=AA .local:=by first|exact .inl rfl|exact .inr rfl|assumption):PS X (.Assign [.Name x px] a pos) (tS S X (.asg (.n i) ca)):=
 (zkW hN hi hx he hs hf).imp λD σ H ⟨B,φ,st,ρ,rs,re,h⟩=>by
  erw[ex]at h;exact tE.fl rs re h λx H1 v st1 φ1 s rs1 re1 rv h1=>h1 _ H1 φ1 .rfl rs1 (re1.set i rv)
theorem flT(r:R PV)(f:Bool->SO->Fl):(r.fl ρ λx st1=>onF (yaK st1 x) λk=>f k st1)=(ya4 r).fl ρ f:=by
 cases r with
 |ok v s=>
  erw[R.fl,ya4,R.bind]
  cases yaK s v<;>rfl
 |exc c s=>rfl
 |bad=>rfl
theorem tTs.fl{k:Bool->SO->Fl}{P:Bool->Hp->Prop}(rs:yt X.K S.cl B φ H st)(re:yJ X.K S.cl B φ H ρ σ)(h:yaF S X B φ H ((ya4 (ev S.call ρ st ca)).fl ρ k) D)
  (n:∀b H1 st1 φ1,Step φ H φ1 H1->yt X.K S.cl B φ1 H1 st1->yJ X.K S.cl B φ1 H1 ρ σ->yaF S X B φ1 H1 (k b st1) D->P b H1):tTs S X ca σ H P:=by
 refine⟨B,φ,st,ρ,rs,re,?_⟩
 cases e:ya4 (ev S.call ρ st ca)with
 |ok v st'=>
  rw[e]at h;exact λx H' φ' s rs' rv=>by
   subst rv;exact n v H' st' φ' s rs' (re.step s) (h.on s)
 |exc k st'=>
  rw[e]at h;exact λe s' x=>h σ φ H e s' .rfl re x
 |bad=>rw[e]at h;exact h
def zpo(hc:PT X c (tTs S X cc))(ha:PSs X ss (tSs S X cs))(hb:PSs X ss' (tSs S X cs')):PS X (.If c ss ss' pos) (tS S X (.ite cc cs cs')):=
 (zpC hc ha hb).imp λD σ H ⟨B,φ,st,ρ,rs,re,h⟩=>by
  erw[ex]at h;rw[flT _ λk st1=>cond k (exs S.call ρ st1 cs) (exs S.call ρ st1 cs')]at h;refine tTs.fl rs re h λk H1 st1 φ1 s rs1 re1 h1=>?_
  cases k with
  |true=>exact⟨B,φ1,st1,ρ,rs1,re1,h1⟩
  |false=>exact⟨B,φ1,st1,ρ,rs1,re1,h1⟩
def znC{i:Nat}{x:AN}{op:D7}{bo:BOp}(hN:X.N.Nodup)(hi:X.N[i]?=AA x)(hx:Loc X.env.scope x)(he:PE X a (tE S X ca))(ho:PIp X op (rT2 S X (ybN bo)))
  (hf:X.fn x=AB \/ X.env.scope.names.lookup x=AA .local:=by first|exact .inl rfl|exact .inr rfl|assumption) (hd:(x==("__debug__":AN))=false:=by decide) (hcd:(x==("__classdict__":AN))=false:=by decide):PS X (.AugAssign (.Name x px) op a pos) (tS S X (.aug i bo ca)):=
 (zkG hN hi hx he ho hf).imp λD σ H ⟨B,φ,st,ρ,rs,re,h⟩=>by
  erw[ex]at h
  cases q:ρ[i]? with
  |none=>rw[q]at h;exact h.elim
  |some w=>
   cases w with
   |none=>rw[q]at h;exact h.elim
   |some w=>
    rw[q]at h;let⟨y,hy,rw⟩:=re.get i w q;refine⟨y,hy,tE.fl rs re h λz H1 v st1 φ1 s rs1 re1 rv h1=>?_⟩
    cases e:ybN bo w v with
    |none=>rw[e]at h1;exact h1.elim
    |some u=>
     rw[e]at h1;exact⟨B,φ1,st1,w,v,u,rs1,rw.step s,rv,e,λz' H' φ' s' rs' rz=>h1 _ H' φ' s' rs' ((re1.step s').set i rz)⟩
end
section
variable (S:Se)(X:Cx)
structure Drw(B:AI->Prop)(φ0:Ph)(H0:Hp)(xs:List PV)(J:It):Prop where
 stop:∀φ H,Step φ0 H0 φ H->J.stop xs.length H
 go:∀(i:Nat) φ H,Step φ0 H0 φ H->i<xs.length->J.go i H
 yld:∀(i:Nat) φ H st x H' (B':AI->Prop),(∀y,B' y->B y \/ H0 y=AD)->Step φ0 H0 φ H->yt X.K S.cl B' φ H st->i<xs.length->J.yld i H x H'->∃v,xs[i]?=AA v/\yd X.K S.cl B' φ H' v x/\∀b o,H b=AA o->H' b=AA o
abbrev RD(B:AI->Prop):Ph->Hp->List PV->It->Prop:=λφ H=>Drw S X B φ H
def tI(c:Cit):TI:=λσ H R=>∃B φ st ρ,yt X.K S.cl B φ H st/\yJ X.K S.cl B φ H ρ σ/\Run S X σ B φ H (RD S X B) (evi S.call ρ st c) R
end
section
variable {S:Se}{X:Cx}{σ:St}{B:AI->Prop}{φ φ1:Ph}{H H1:Hp}{st:SO}{ρ:IC.Env}{D:Ends}{pos p p2 px:CT}{a b c o tg l:AS}{ca cb cc:Ce}{es:List AS}{ces:Ces}{ss:List Bz}{cs:Css}{ci:Cit}{ct:Tg}
def zkZ:PE X a (tE S X .nope):=λπ s σ H Q I ⟨B,φ,st,ρ,rs,re,h⟩=>by
 erw[ev]at h;exact h.elim
def zlE{s1:Bz}:PS X s1 (tS S X .nope):=λπ s σ H D I ⟨B,φ,st,ρ,rs,re,h⟩=>by
 erw[ex]at h;exact h.elim
theorem PI.imp{t t':TI}(h:PI X tg l t')(k:∀σ H R,t σ H R->t' σ H R):PI X tg l t:=λπ s σ H R I q=>h π s σ H R I (k σ H R q)
def znx{tl:TE}(hl:PE X l tl):PI X tg l (λσ H R=>tl σ H λx H1=>∃a,x=.ref a/\(((∃xs,SqL X.K H1 a xs)/\R (Itl X.K a) H1) \/ ((∃xs,SqT X.K H1 a xs)/\R (Itt X.K a) H1))):=by
 intro π s σ H R I h;refine thn (hl π s σ H _ I h) λv s1 kq=>?_;let⟨x,H1,I1,r1,q1⟩:=kq;let⟨a,e,q1⟩:=q1;subst e
 cases r1
 rcases q1 with⟨⟨xs,hq⟩,q⟩|⟨⟨xs,hq⟩,q⟩
 .let⟨its,rv,p,hz⟩:=I1.list hq;refine EM p.isList ?_;refine⟨s1.heap.objs.size,[s1.heap.objs.size],_,_,H1,rfl,I1.kept (t':=s1.toks) λb o e=>AO _ e,ziS a _,⟨_,AZ _ rfl,rfl,rfl⟩,λb hb=>?_,q⟩;have e:b=s1.heap.objs.size:=by simpa using hb
  subst e;exact I1.fpOk (AT _) (I1.hok.fresh (AT _))
 .let⟨its,rv,p,hz⟩:=I1.tuple hq;refine Bs (show s1.heap.IsTuple a its.toArray from p) ?_;refine⟨s1.heap.objs.size,[s1.heap.objs.size],_,_,H1,rfl,I1.kept (t':=s1.toks) λb o e=>AO _ e,zgJ a _,⟨_,AZ _ rfl,rfl,rfl⟩,λb hb=>?_,q⟩;have e:b=s1.heap.objs.size:=by simpa using hb
  subst e;exact I1.fpOk (AT _) (I1.hok.fresh (AT _))
def zme{k:Bool}{vs:List PV}{xs:List V}{y:AI}(rt:ybK X.K B φ H k y xs)(l:ye X.K S.cl B φ H vs xs):Drw S X B φ H vs (Itt X.K y):=by
 have hl:=l.length;refine⟨λφ' H' s=>⟨xs,(rt.step s).sq,by lia⟩,λi φ' H' s hi=>⟨xs,xs[i]'∅,(rt.step s).sq,by simp[show i<xs.length by lia]⟩,λi φ' H' st x H2 B' hB s rs hi q=>?_⟩;let⟨rfl,q⟩:=q;obtain⟨v,hv⟩:∃v,vs[i]?=AA v:=⟨vs[i],by simp[hi]⟩;let⟨x',hx',rv⟩:=l.get i hv;have:=q xs (rt.step s).sq;rw[this]at hx'
 cases hx'
 exact⟨v,hv,(rv.moreB hB).step s,λ_ _ e=>e⟩
def zk8{vs:List PV}{xs:List V}{y:AI}(rt:ycF B φ H y xs)(l:ye X.K S.cl B φ H vs xs):Drw S X B φ H vs (Itl X.K y):=by
 have hl:=l.length;refine⟨λφ' H' s=>⟨xs,(rt.step s).sq,by lia⟩,λi φ' H' s hi=>⟨xs,xs[i]'∅,(rt.step s).sq,by simp[show i<xs.length by lia]⟩,λi φ' H' st x H2 B' hB s rs hi q=>?_⟩;let⟨rfl,q⟩:=q;obtain⟨v,hv⟩:∃v,vs[i]?=AA v:=⟨vs[i],by simp[hi]⟩;let⟨x',hx',rv⟩:=l.get i hv;have:=q xs (rt.step s).sq;rw[this]at hx'
 cases hx'
 exact⟨v,hv,(rv.moreB hB).step s,λ_ _ e=>e⟩
def zmY(hl:PE X l (tE S X ca)):PI X tg l (tI S X (.seq ca)):=
 (znx hl).imp λσ H R ⟨B,φ,st,ρ,rs,re,h⟩=>by
  erw[evi]at h;refine tE.bind rs re h λx H1 v st1 φ1 s1 rs1 re1 rv h1=>?_
  cases v with
  |tp k vs=>
   erw[yd]at rv;let⟨y,xs,rfl,rt,l⟩:=rv;exact⟨y,rfl,.inr ⟨⟨xs,rt.sq⟩,h1.ok rs1 (zme rt l)⟩⟩
  |lst vs=>
   erw[yd]at rv;let⟨y,xs,rfl,rt,l⟩:=rv;exact⟨y,rfl,.inl ⟨⟨xs,rt.sq⟩,h1.ok rs1 (zk8 rt l)⟩⟩
  |_=>exact h1.elim
def zd9:∀(n:Nat) (lo d:Int) (i:Nat),(yo n lo d)[i]?=if i<n then AA (.int (lo+i*d))else AD
 |0,lo,d,i=>by simp[yo]
 |n+1,lo,d,0=>by simp[yo]
 |n+1,lo,d,i+1=>by
  erw[yo,A5];rw[zd9 n (lo+d) d i]
  by_cases h:i<n
  .rw[if_pos h,if_pos ∅,Int.natCast_succ,DD,BJ,Gj,Ej d]
  .rw[if_neg h,if_neg ∅]
def zbm:∀(n:Nat) (lo d:Int),(yo n lo d).length=n
 |0,lo,d=>rfl
 |n+1,lo,d=>by simp[yo,zbm n]
def zhW{lo:Int}{n:Nat}:Drw S X B φ H (yo n lo 1) (Itr lo n):=by
 refine⟨λφ' H' s=>by rw[zbm];exact AT _,λi φ' H' s hi=>by rw[zbm]at hi;exact hi,λi φ' H' st x H2 B' hB s rs hi q=>?_⟩;rw[zbm]at hi;let⟨rfl,rfl⟩:=q;refine⟨.int (lo+i),?_,by erw[yd],λ_ _ e=>e⟩;rw[zd9,if_pos hi,CU]
def zi2{o:Option (List PV)}{st:SO}{Q:It->Hp->Prop}(h:Run S X σ B φ H (RD S X B) (toL o st) Q):∃xs,o=AA xs/\Run S X σ B φ H (RD S X B) (.ok xs st) Q:=by
 cases o with
 |none=>exact h.elim
 |some z=>exact⟨z,rfl,h⟩
def zim(hg:Gl X "range")(hm:X.mg "range"=AD)(ha:PE X a (tE S X ca))(hs:starEach [a] X.env=[(AC,eval a X.env)]:=by rfl):PI X tg (.Call (.Name "range" p) [a] [] pos) (tI S X (.range1 ca)):=
 (zhR hg hm (zbI ha zhr hs) hs).imp λσ H R ⟨B,φ,st,ρ,rs,re,h⟩=>by
  erw[evi]at h;refine tE.bind rs re h λx H1 v st1 φ1 s1 rs1 re1 rv h1=>?_;let⟨xs,e,h1⟩:=zi2 h1
  cases v with
  |int j=>
   erw[ybU]at e;split at e
   .cases e
    erw[yd]at rv;subst rv;exact⟨j,rfl,by lia,by lia,h1.ok rs1 zhW⟩
   .cases e
  |_=>cases e
def zdq:∀(xs:List PV) (k i:Nat),(yV k xs)[i]?=(xs[i]?).map λx=>.tup [.int ((k+i:Nat):Int),x]
 |[],k,i=>by simp[yV]
 |x::xs,k,0=>by simp[yV]
 |x::xs,k,i+1=>by
  erw[yV,A5];rw[zdq xs (k+1) i];have:k+1+i=k+(i+1):=by lia
  rw[this]
def zde:∀(xs:List PV) (k:Nat),(yV k xs).length=xs.length
 |[],k=>rfl
 |x::xs,k=>by simp[yV,zde xs]
def zjO{k:Bool}{vs:List PV}{xs:List V}{y:AI}(rt:ybK X.K B φ H k y xs)(l:ye X.K S.cl B φ H vs xs):Drw S X B φ H (yV 0 vs) (Ite X.K y):=by
 have hl:=l.length;have hp:=zde vs 0;refine⟨λφ' H' s=>⟨xs,(rt.step s).sq,by lia⟩,λi φ' H' s hi=>⟨xs,xs[i]'∅,(rt.step s).sq,by simp[show i<xs.length by lia]⟩,λi φ' H' st x H2 B' hB s rs hi q=>?_⟩;let⟨T,hT,rfl,q⟩:=q;obtain⟨v,hv⟩:∃v,vs[i]?=AA v:=⟨vs[i]'∅,by simp[show i<vs.length by lia]⟩;let⟨x',hx',rv⟩:=l.get i hv;have e:=q xs x' (rt.step s).sq hx';subst e;refine⟨.tup [.int i,v],?_,.tup_new hT rs ?_,λb o e=>by rw[zj (zl e hT)];exact e⟩
 .rw[zdq,hv];simp
 .simp only[ye,yd];exact⟨_,_,rfl,rfl,x',[],rfl,(rv.moreB hB).step s,rfl⟩
def zms{es:List AS}{kk:Nat}{tp:CT}(hg:Gl X "enumerate")(hm:X.mg "enumerate"=AD)(ha:PE X a (tE S X ca))(hs:starEach [a] X.env=[(AC,eval a X.env)]:=by rfl):
  PI X (.Tuple es kk tp) (.Call (.Name "enumerate" p) [a] [] pos) (tI S X (.enum ca)):=
 (zi9 hg hm (zbI ha zhr hs) hs).imp λσ H R ⟨B,φ,st,ρ,rs,re,h⟩=>by
  erw[evi]at h;refine tE.bind rs re h λx H1 v st1 φ1 s1 rs1 re1 rv h1=>?_
  cases v with
  |tp k vs=>
   erw[yd]at rv;let⟨y,xs,rfl,rt,l⟩:=rv;exact⟨y,rfl,⟨xs,rt.sq⟩,h1.ok rs1 (zjO rt l)⟩
  |_=>exact h1.elim
def tG(S:Se)(X:Cx)(t:Tg):TG:=λv σ H Q=>∃B φ st ρ w ρ',yt X.K S.cl B φ H st/\yJ X.K S.cl B φ H ρ σ/\yd X.K S.cl B φ H w v/\yI t w ρ=AA ρ'/\∀σ',yJ X.K S.cl B φ H ρ' σ'->Q σ' H
theorem PG.imp{t t':TG}(h:PG X tg t')(k:∀v σ H Q,t v σ H Q->t' v σ H Q):PG X tg t:=λπ s σ H v u Q I rv q=>h π s σ H v u Q I rv (k v σ H Q q)
def zmy{i:Nat}{x:AN}(hN:X.N.Nodup)(hi:X.N[i]?=AA x)(hx:Loc X.env.scope x)(hf:X.fn x=AB \/ X.env.scope.names.lookup x=AA .local:=by first|exact .inl rfl|exact .inr rfl|assumption):PG X (.Name x pos) (tG S X (.n i)):=
 (ziK hN hi hx hf).imp λv σ H Q ⟨B,φ,st,ρ,w,ρ',rs,re,rv,e,q⟩=>by
  cases e
  exact q _ (re.set i rv)
def gNs(l:List Nat):TGs:=λvs σ H Q=>vs.length=l.length/\Q ((l.zip vs).foldl (λσ p=>σ.set p.1 (AA p.2)) σ) H
theorem PGs.imp{es:List AS}{t t':TGs}(h:PGs X es t')(k:∀v σ H Q,t v σ H Q->t' v σ H Q):PGs X es t:=λπ s σ H vs us Q I rv q=>h π s σ H vs us Q I rv (k vs σ H Q q)
def zlu:PGs X [] (gNs []):=zpZ.imp λvs σ H Q ⟨h,q⟩=>by
 cases vs with
 |nil=>exact⟨rfl,q⟩
 |cons _ _=>cases h
def zj1{es:List AS}{l:List Nat}{i:Nat}{x:AN}(hN:X.N.Nodup)(hi:X.N[i]?=AA x)(hx:Loc X.env.scope x)(h2:PGs X es (gNs l))(hf:X.fn x=AB \/ X.env.scope.names.lookup x=AA .local:=by first|exact .inl rfl|exact .inr rfl|assumption):PGs X (.Name x pos::es) (gNs (i::l)):=
 (zjB (ziK hN hi hx hf) h2).imp λvs σ H Q ⟨h,q⟩=>by
  cases vs with
  |nil=>cases h
  |cons v vs=>exact⟨v,vs,rfl,by simpa using h,q⟩
theorem yJ.sets{K:AF}{cl:Nat->AI}:∀(l:List Nat) {vs:List PV} {xs:List V} {ρ:IC.Env} {σ:St},yJ K cl B φ H ρ σ->ye K cl B φ H vs xs ->
  yJ K cl B φ H ((l.zip vs).foldl (λρ p=>ρ.set p.1 (AA p.2)) ρ) ((l.zip xs).foldl (λσ p=>σ.set p.1 (AA p.2)) σ)
 |[],vs,xs,ρ,σ,re,l=>by simpa using re
 |i::is,[],xs,ρ,σ,re,l=>by
  erw[ye]at l;subst l;simpa using re
 |i::is,v::vs,xs,ρ,σ,re,l=>by
  erw[ye]at l;let⟨y,ys,rfl,r,l⟩:=l;erw[EB,De];exact yJ.sets is (re.set i r) l
def znz{es:List AS}{l:List Nat}{k:Nat}(hc:X.calm=AB)(h:PGs X es (gNs l))(hn:(assignEach es X.env).length=l.length:=by rfl)(hst:(assignEach es X.env).findIdx? (·.1)=none:=by rfl):PG X (.Tuple es k pos) (tG S X (.t l)):=
 (znH hc h hn hst).imp λv σ H Q ⟨B,φ,st,ρ,w,ρ',rs,re,rv,e,q⟩=>by
  cases w with
  |tp kk vs=>
   erw[yI]at e;split at e
   .rename_i c
    cases e
    erw[yd]at rv;let⟨y,xs,rfl,rt,lr⟩:=rv;have hl:=lr.length;exact⟨y,xs,rfl,rt.sq,by lia,by lia,q _ (yJ.sets l re lr)⟩
   .cases e
  |_=>cases e
def zlL{es:List AS}{l:List Nat}{k:Nat}(he:PE X a (tE S X ca))(hg:PG X (.Tuple es k p2) (tG S X (.t l)))(hs:swapsWithSole [.Tuple es k p2] a pos.line X.env=pure false:=by rfl)(hw:swappedStores [.Tuple es k p2] a X.env=pure none:=by rfl):
  PS X (.Assign [.Tuple es k p2] a pos) (tS S X (.asg (.t l) ca)):=
 (zkF he hg hs hw).imp λD σ H ⟨B,φ,st,ρ,rs,re,h⟩=>by
  erw[ex]at h;refine tE.fl rs re h λx H1 v st1 φ1 s rs1 re1 rv h1=>?_
  cases e:yI (.t l) v ρ with
  |none=>rw[e]at h1;exact h1.elim
  |some ρ'=>
   rw[e]at h1;exact⟨B,φ1,st1,ρ,v,ρ',rs1,re1,rv,e,λσ' re'=>h1 σ' H1 φ1 .rfl rs1 re'⟩
theorem tI.fl{k:List PV->SO->Fl}{P:It->Hp->Prop}(rs:yt X.K S.cl B φ H st)(re:yJ X.K S.cl B φ H ρ σ)(h:yaF S X B φ H ((evi S.call ρ st ci).fl ρ k) D)
  (n:∀x H1 v st1 φ1,Step φ H φ1 H1->yt X.K S.cl B φ1 H1 st1->yJ X.K S.cl B φ1 H1 ρ σ->Drw S X B φ1 H1 v x->yaF S X B φ1 H1 (k v st1) D->P x H1):tI S X ci σ H P:=by
 refine⟨B,φ,st,ρ,rs,re,?_⟩
 cases e:evi S.call ρ st ci with
 |ok v st'=>
  rw[e]at h;exact λx H' φ' s rs' rv=>n x H' v st' φ' s rs' (re.step s) rv (h.on s)
 |exc k st'=>
  rw[e]at h;exact λe s' x=>h σ φ H e s' .rfl re x
 |bad=>rw[e]at h;exact h
def znm(hp:EV (model X.prog X.w) X.A X.env X.xe)(hc:X.calm=AB)(hi:PI X tg l (tI S X ci))(hg:PG X tg (tG S X ct))(hb:PSs X ss (tSs S X cs))(hs:∀x,foldedSetIterable l X.env x=pure x:=by intro _;rfl):
  PS X (.For tg l ss [] pos) (tS S X (.for ct ci cs)):=
 (zm6 hp hc hi hg hb hs).imp λD σ H ⟨B,φ,st,ρ,rs,re,h⟩=>by
  erw[ex]at h;refine tI.fl rs re h λJ H1 xs st1 φ1 s1 rs1 re1 dr h1=>?_;refine⟨λi m σ H=>∃φ st ρ,i+m=xs.length/\Step φ1 H1 φ H/\yt X.K S.cl B φ H st/\yJ X.K S.cl B φ H ρ σ/\yaF S X B φ H (forL ct (λρ2 st2=>exs S.call ρ2 st2 cs) (xs.drop i) ρ st) D,
   ⟨xs.length,φ1,st1,ρ,by lia,.rfl,rs1,re1,by simpa using h1⟩,?_⟩
  rintro i m σ2 H2 ⟨φ2,st2,ρ2,hm,s2,rs2,re2,h2⟩
  by_cases hi:i<xs.length
  .refine .inr ⟨dr.go i φ2 H2 s2 hi,λσ' H'=>∃φ st ρ,Step φ1 H1 φ H'/\yt X.K S.cl B φ H' st/\yJ X.K S.cl B φ H' ρ σ'/\yaF S X B φ H' (forL ct (λρ2 st2=>exs S.call ρ2 st2 cs) (xs.drop (i+1)) ρ st) D,
    λσ' H' ⟨φ,st,ρ,s,q⟩=>⟨m-1,by lia,φ,st,ρ,by lia,s,q⟩,λx H3 hy=>?_⟩
   let⟨v,hv,rv,kk⟩:=dr.yld i φ2 H2 st2 x H3 B (λ_ z=>.inl z) s2 rs2 hi hy;have e:xs.drop i=v::xs.drop (i+1):=by
    rw[EH hi];rw[Cv hi]at hv;rw[AW hv]
   have s3:Step φ2 H2 φ2 H3:=⟨λb o _ e=>kk b o e,AT _,λ_ _ _ e=>e,λ_ h=>.inl h⟩;have rs3:yt X.K S.cl B φ2 H3 st2:=rs2.same kk;rw[e,forL]at h2
   cases eb:yI ct v ρ2 with
   |none=>rw[eb]at h2;exact h2.elim
   |some ρ3=>
    rw[eb]at h2;refine⟨B,φ2,st2,ρ2,v,ρ3,rs3,re2.step s3,rv,eb,λσ' re'=>⟨B,φ2,st2,ρ3,rs3,re',?_⟩⟩;have h3:=yaF.on s3 h2;dsimp only at h3
    cases ee:exs S.call ρ3 st2 cs with
    |nx ρ4 st4=>
     rw[ee]at h3;exact λσ4 H4 φ4 s4 rs4 re4=>⟨φ4,st4,ρ4,s2.trans (s3.trans s4),rs4,re4,yaF.on s4 h3⟩
    |ct ρ4 st4=>
     rw[ee]at h3;exact λσ4 H4 φ4 s4 rs4 re4=>⟨φ4,st4,ρ4,s2.trans (s3.trans s4),rs4,re4,yaF.on s4 h3⟩
    |bk ρ4 st4=>rw[ee]at h3;exact h3
    |rt v4 st4=>rw[ee]at h3;exact h3
    |exc k ρ4 st4=>rw[ee]at h3;exact h3
    |bad=>rw[ee]at h3;exact h3
  .have e:i=xs.length:=by lia
   subst e;rw[GI,forL]at h2;exact .inl ⟨dr.stop φ2 H2 s2,h2 σ2 H2 φ2 .rfl rs2 re2⟩
def zjA(hp:EV (model X.prog X.w) X.A X.env X.xe)(hc:PT X c (tTs S X cc))(hb:PSs X ss (tSs S X cs)):PS X (.While c ss [] pos) (tS S X (.while cc cs)):=
 (zjc hp hc hb).imp λD σ H ⟨B,φ,st,ρ,rs,re,h⟩=>by
  erw[ex]at h;refine⟨λm σ H=>∃φ st ρ,yt X.K S.cl B φ H st/\yJ X.K S.cl B φ H ρ σ/\yaF S X B φ H (yao (λρ2 st2=>ev S.call ρ2 st2 cc) (λρ2 st2=>exs S.call ρ2 st2 cs) m ρ st) D,⟨100000,φ,st,ρ,rs,re,h⟩,?_⟩
  rintro m σ2 H2 ⟨φ2,st2,ρ2,rs2,re2,h2⟩
  cases m with
  |zero=>exact h2.elim
  |succ m=>
   rw[yao]at h2;rw[flT _ λk st1=>cond k (yat (exs S.call ρ2 st1 cs) λρ2 st2=>yao (λρ2 st2=>ev S.call ρ2 st2 cc) (λρ2 st2=>exs S.call ρ2 st2 cs) m ρ2 st2) (.nx ρ2 st1)]at h2;refine tTs.fl rs2 re2 h2 λk H3 st3 φ3 s3 rs3 re3 h3=>?_
   cases k with
   |false=>exact h3 σ2 H3 φ3 .rfl rs3 re3
   |true=>
    refine⟨λσ' H'=>∃φ st ρ,yt X.K S.cl B φ H' st/\yJ X.K S.cl B φ H' ρ σ'/\yaF S X B φ H' (yao (λρ2 st2=>ev S.call ρ2 st2 cc) (λρ2 st2=>exs S.call ρ2 st2 cs) m ρ st) D,
     λσ' H' q=>⟨m,by lia,q⟩,B,φ3,st3,ρ2,rs3,re3,?_⟩
    erw[cond_true]at h3
    cases ee:exs S.call ρ2 st3 cs with
    |nx ρ4 st4=>
     rw[ee]at h3;exact λσ4 H4 φ4 s4 rs4 re4=>⟨φ4,st4,ρ4,rs4,re4,yaF.on s4 h3⟩
    |ct ρ4 st4=>
     rw[ee]at h3;exact λσ4 H4 φ4 s4 rs4 re4=>⟨φ4,st4,ρ4,rs4,re4,yaF.on s4 h3⟩
    |bk ρ4 st4=>rw[ee]at h3;exact h3
    |rt v4 st4=>rw[ee]at h3;exact h3
    |exc k ρ4 st4=>rw[ee]at h3;exact h3
    |bad=>rw[ee]at h3;exact h3
end
section
variable (S:Se)(K:AF)
def yeS{α β:Type}(B:AI->Prop)(φ:Ph)(H:Hp)(Rel:Ph->Hp->α->β->Prop)(r:R α)(Q:β->Hp->Prop):Prop:=
 match r with
 |.ok v st'=>∀x H' φ',Step φ H φ' H'->yt K S.cl B φ' H' st'->Rel φ' H' v x->Q x H'
 |_=>False
def tE0(c:Ce):TE:=λσ H Q=>∃B φ st ρ,yt K S.cl B φ H st/\yJ K S.cl B φ H ρ σ/\yeS S K B φ H (λφ H=>yd K S.cl B φ H) (ev S.call ρ st c) Q
def tT0(c:Ce):TT:=λσ H Q=>∃B φ st ρ,yt K S.cl B φ H st/\yJ K S.cl B φ H ρ σ/\yeS S K B φ H RB (ya4 (ev S.call ρ st c)) Q
def tG0(t:Tg):TG:=λv σ H Q=>∃B φ st ρ w ρ',yt K S.cl B φ H st/\yJ K S.cl B φ H ρ σ/\yd K S.cl B φ H w v/\yI t w ρ=AA ρ'/\∀σ',yJ K S.cl B φ H ρ' σ'->Q σ' H
end
section
variable {S:Se}{X:Cx}{K:AF}{cl:Nat->AI}{σ:St}{B:AI->Prop}{φ φ1:Ph}{H H1:Hp}{st:SO}{ρ:IC.Env}{pos p p2 px:CT}{a b c o tg l elt iter:AS}{ca cb cc ce:Ce}{ci:Cit}{ct:Tg}
def zl4(hK:X.K=K)(h:PE X a (tE S X ca)):PE X a (tE0 S K ca):=by
 subst hK;refine h.imp λσ H Q kq=>?_;let⟨B,φ,st,ρ,rs,re,q⟩:=kq;refine ⟨B,φ,st,ρ,rs,re,?_⟩
 cases e:ev S.call ρ st ca with
 |ok v st'=>rw[e]at q;exact q
 |exc k st'=>rw[e]at q;exact q.elim
 |bad=>rw[e]at q;exact q
def zlR(hK:X.K=K)(h:PT X a (tTs S X ca)):PTs X [a] (tT0 S K ca):=by
 subst hK;refine zk6 (h.imp λσ H Q kq=>?_);let⟨B,φ,st,ρ,rs,re,q⟩:=kq;refine ⟨B,φ,st,ρ,rs,re,?_⟩
 cases e:ya4 (ev S.call ρ st ca)with
 |ok v st'=>rw[e]at q;exact q
 |exc k st'=>rw[e]at q;exact q.elim
 |bad=>rw[e]at q;exact q
def zjn:PTs X [] (tT0 S K (.cst (.bl AB))):=λπ s σ H Q I ⟨B,φ,st,ρ,rs,re,q⟩=>by
 refine zmk π s σ H Q I ?_;erw[ev,ya4,R.bind,yaK,onO]at q;exact q AB H φ .rfl rs rfl
def zln(hK:X.K=K)(h:PG X tg (tG S X ct)):PG X tg (tG0 S K ct):=by
 subst hK;exact h
theorem ybK.skip{k:Bool}{D y:AI}{u:HO}{xs:List V}(hD:B D)(r:ybK K B φ H k y xs):ybK K B φ (L2.upd H D u) k y xs:=by
 rcases r with⟨r,b,n⟩|r
 .exact .inl ⟨by rw[zj (show y≠D from λz=>b (z ▸ hD))];exact r,b,n⟩
 .exact .inr r
mutual
theorem yd.skip{D:AI}{u:HO}(hD:B D):∀(v:PV) (x:V),yd K cl B φ H v x->yd K cl B φ (L2.upd H D u) v x
 |.non,x,h=>by erw[yd]at h ⊢;exact h
 |.bl b,x,h=>by erw[yd]at h ⊢;exact h
 |.int i,x,h=>by erw[yd]at h ⊢;exact h
 |.str y,x,h=>by erw[yd]at h ⊢;exact h
 |.tp k vs,x,h=>by
  erw[yd]at h ⊢;let⟨y,xs,e,r,l⟩:=h;exact⟨y,xs,e,r.skip hD,ye.skip hD vs xs l⟩
 |.lst vs,x,h=>by
  erw[yd]at h ⊢;let⟨y,xs,e,⟨r,b,n⟩,l⟩:=h;exact⟨y,xs,e,⟨by rw[zj (show y≠D from λz=>b (z ▸ hD))];exact r,b,n⟩,ye.skip hD vs xs l⟩
 |.loc n,x,h=>by erw[yd]at h ⊢;exact h
 |.fnc j,x,h=>by erw[yd]at h ⊢;exact h
 |.exn c,x,h=>by
  erw[yd]at h ⊢;let⟨y,e,r,b,n⟩:=h;exact⟨y,e,by rw[zj (show y≠D from λz=>b (z ▸ hD))];exact r,b,n⟩
 |.scr vs,x,h=>by
  erw[yd]at h ⊢;let⟨y,xs,e,r,l⟩:=h;refine⟨y,xs,e,?_,ye.skip hD vs xs l⟩;rcases r with⟨r,b,n⟩|r
  .refine .inl ⟨?_,b,n⟩;have ne:y≠D:=λz=>b (z ▸ hD);rcases r with r|⟨o,r⟩
   .exact .inl (by rw[zj ne];exact r)
   .exact .inr ⟨o,by rw[zj ne];exact r⟩
  .exact .inr r
theorem ye.skip{D:AI}{u:HO}(hD:B D):∀(v:List PV) (x:List V),ye K cl B φ H v x->ye K cl B φ (L2.upd H D u) v x
 |[],x,h=>by erw[ye]at h ⊢;exact h
 |v::vs,x,h=>by
  erw[ye]at h ⊢;let⟨y,ys,e,r,l⟩:=h;exact⟨y,ys,e,yd.skip hD v y r,ye.skip hD vs ys l⟩
end
theorem DK.skip{D:AI}{u:HO}(hD:B D):∀{kvs:List (PV×PV)} {ks:List (Key×V)},DK K cl B φ H kvs ks->DK K cl B φ (L2.upd H D u) kvs ks
 |[],ks,h=>h
 |(k,v)::r,ks,h=>by
  let⟨q,x,t,e,m,rv,l⟩:=h;exact⟨q,x,t,e,m,rv.skip hD,DK.skip hD l⟩
theorem DT.skip{D:AI}{u:HO}(hD:B D):∀{kvs:List (PV×PV)} {ks:List (List Key×V)},DT K cl B φ H kvs ks->DT K cl B φ (L2.upd H D u) kvs ks
 |[],ks,h=>h
 |(k,v)::r,ks,h=>by
  let⟨q,x,t,e,m,rv,l⟩:=h;exact⟨q,x,t,e,m,rv.skip hD,DT.skip hD l⟩
theorem FS.skip{D:AI}{u:HO}(hD:B D):∀{kvs:List (AN×PV)} {ks:List (AN×V)},FS K cl B φ H kvs ks->FS K cl B φ (L2.upd H D u) kvs ks
 |[],ks,h=>h
 |(k,v)::r,ks,h=>by
  let⟨x,t,e,rv,l⟩:=h;exact⟨x,t,e,rv.skip hD,FS.skip hD l⟩
theorem yt.skip{D:AI}{u:HO}(hD:B D)(rs:yt K cl B φ H st):yt K cl B φ (L2.upd H D u) st:=by
 refine⟨rs.len,rs.inj,λn y e=>?_,rs.liv,rs.nb,λy h=>?_⟩
 .let⟨o,q,r⟩:=rs.obj n y e;have ne:y≠D:=λz=>rs.nb y (A1 e) (z ▸ hD);refine⟨o,q,?_⟩
  cases o with
  |lst vs=>
   let⟨xs,hx,l⟩:=r;exact⟨xs,by rw[zj ne];exact hx,l.skip hD⟩
  |dct t kvs=>
   cases t with
   |false=>
    let⟨xs,hx,l⟩:=r;exact⟨xs,by rw[zj ne];exact hx,l.skip hD⟩
   |true=>
    let⟨xs,hx,l⟩:=r;exact⟨xs,by rw[zj ne];exact hx,l.skip hD⟩
  |ins c fs=>
   let⟨ks,⟨dx,hx⟩,l⟩:=r;exact⟨ks,⟨dx,by rw[zj ne];exact hx⟩,l.skip hD⟩
  |dead=>exact r.elim
 .by_cases z:y=D
  .subst z;exact⟨u,zq⟩
  .let⟨w,e⟩:=rs.dom y h;exact⟨w,by rw[zj z];exact e⟩
theorem yJ.skip{D:AI}{u:HO}(hD:B D)(re:yJ K cl B φ H ρ σ):yJ K cl B φ (L2.upd H D u) ρ σ:=⟨re.len,λi v e=>by
 let⟨x,h,q⟩:=re.get i v e;exact⟨x,h,q.skip hD⟩⟩
def Bx(B:AI->Prop)(D:AI):AI->Prop:=λy=>B y \/ y=D
def zhi{D:AI}(hn:H D=AD):∀y,Bx B D y->B y \/ H y=none:=λy z=>z.elim .inl λq=>.inr (q ▸ hn)
theorem yd.more{D:AI}(hn:H D=AD){v:PV}{x:V}(h:yd K cl B φ H v x):yd K cl (Bx B D) φ H v x:=h.moreB (zhi hn)
theorem ye.more{D:AI}(hn:H D=AD){v:List PV}{x:List V}(h:ye K cl B φ H v x):ye K cl (Bx B D) φ H v x:=h.moreB (zhi hn)
mutual
theorem yd.less{D:AI}:∀(v:PV) (x:V),yd K cl (Bx B D) φ H v x->yd K cl B φ H v x
 |.non,x,h=>by erw[yd]at h ⊢;exact h
 |.bl b,x,h=>by erw[yd]at h ⊢;exact h
 |.int i,x,h=>by erw[yd]at h ⊢;exact h
 |.str y,x,h=>by erw[yd]at h ⊢;exact h
 |.tp k vs,x,h=>by
  erw[yd]at h ⊢;let⟨y,xs,e,r,l⟩:=h;refine⟨y,xs,e,?_,ye.less vs xs l⟩;rcases r with⟨r,b,n⟩|r
  .exact .inl ⟨r,λz=>b (.inl z),n⟩
  .exact .inr r
 |.lst vs,x,h=>by
  erw[yd]at h ⊢;let⟨y,xs,e,⟨r,b,n⟩,l⟩:=h;exact⟨y,xs,e,⟨r,λz=>b (.inl z),n⟩,ye.less vs xs l⟩
 |.loc n,x,h=>by erw[yd]at h ⊢;exact h
 |.fnc j,x,h=>by erw[yd]at h ⊢;exact h
 |.exn c,x,h=>by
  erw[yd]at h ⊢;let⟨y,e,r,b,n⟩:=h;exact⟨y,e,r,λz=>b (.inl z),n⟩
 |.scr vs,x,h=>by
  erw[yd]at h ⊢;let⟨y,xs,e,r,l⟩:=h;refine⟨y,xs,e,?_,ye.less vs xs l⟩;rcases r with⟨r,b,n⟩|r
  .exact .inl ⟨r,λz=>b (.inl z),n⟩
  .exact .inr r
theorem ye.less{D:AI}:∀(v:List PV) (x:List V),ye K cl (Bx B D) φ H v x->ye K cl B φ H v x
 |[],x,h=>by erw[ye]at h ⊢;exact h
 |v::vs,x,h=>by
  erw[ye]at h ⊢;let⟨y,ys,e,r,l⟩:=h;exact⟨y,ys,e,yd.less v y r,ye.less vs ys l⟩
end
theorem DK.more{D:AI}(hn:H D=AD):∀{kvs:List (PV×PV)} {ks:List (Key×V)},DK K cl B φ H kvs ks->DK K cl (Bx B D) φ H kvs ks
 |[],ks,h=>h
 |(k,v)::r,ks,h=>by
  let⟨q,x,t,e,m,rv,l⟩:=h;exact⟨q,x,t,e,m,rv.more hn,DK.more hn l⟩
theorem DT.more{D:AI}(hn:H D=AD):∀{kvs:List (PV×PV)} {ks:List (List Key×V)},DT K cl B φ H kvs ks->DT K cl (Bx B D) φ H kvs ks
 |[],ks,h=>h
 |(k,v)::r,ks,h=>by
  let⟨q,x,t,e,m,rv,l⟩:=h;exact⟨q,x,t,e,m,rv.more hn,DT.more hn l⟩
theorem FS.more{D:AI}(hn:H D=AD):∀{kvs:List (AN×PV)} {ks:List (AN×V)},FS K cl B φ H kvs ks->FS K cl (Bx B D) φ H kvs ks
 |[],ks,h=>h
 |(k,v)::r,ks,h=>by
  let⟨x,t,e,rv,l⟩:=h;exact⟨x,t,e,rv.more hn,FS.more hn l⟩
theorem DK.less{D:AI}:∀{kvs:List (PV×PV)} {ks:List (Key×V)},DK K cl (Bx B D) φ H kvs ks->DK K cl B φ H kvs ks
 |[],ks,h=>h
 |(k,v)::r,ks,h=>by
  let⟨q,x,t,e,m,rv,l⟩:=h;exact⟨q,x,t,e,m,rv.less,DK.less l⟩
theorem DT.less{D:AI}:∀{kvs:List (PV×PV)} {ks:List (List Key×V)},DT K cl (Bx B D) φ H kvs ks->DT K cl B φ H kvs ks
 |[],ks,h=>h
 |(k,v)::r,ks,h=>by
  let⟨q,x,t,e,m,rv,l⟩:=h;exact⟨q,x,t,e,m,rv.less,DT.less l⟩
theorem FS.less{D:AI}:∀{kvs:List (AN×PV)} {ks:List (AN×V)},FS K cl (Bx B D) φ H kvs ks->FS K cl B φ H kvs ks
 |[],ks,h=>h
 |(k,v)::r,ks,h=>by
  let⟨x,t,e,rv,l⟩:=h;exact⟨x,t,e,rv.less,FS.less l⟩
theorem yt.less{D:AI}(rs:yt K cl (Bx B D) φ H st):yt K cl B φ H st:=by
 refine⟨rs.len,rs.inj,λn y e=>?_,rs.liv,λy h z=>rs.nb y h (.inl z),λy h=>rs.dom y (.inl h)⟩;let⟨o,q,r⟩:=rs.obj n y e;refine⟨o,q,?_⟩
 cases o with
 |lst vs=>let⟨xs,hx,l⟩:=r;exact⟨xs,hx,l.less⟩
 |dct t kvs=>cases t<;>(let⟨xs,hx,l⟩:=r;exact⟨xs,hx,l.less⟩)
 |ins c fs=>let⟨ks,hx,l⟩:=r;exact⟨ks,hx,l.less⟩
 |dead=>exact r.elim
theorem yt.more{D:AI}{u:HO}(hn:H D=AD)(rs:yt K cl B φ H st):yt K cl (Bx B D) φ (L2.upd H D u) st:=by
 have nD:AA D∉φ:=λz=>by
  let⟨w,e⟩:=rs.there z;rw[hn]at e;cases e
 have s:Step φ H φ (L2.upd H D u):=.upd hn;have rs':=rs.upd (o:=u) hn;refine⟨rs.len,rs.inj,λn y e=>?_,rs.liv,λy h z=>z.elim (rs.nb y h) λq=>nD (q ▸ h),λy h=>?_⟩
 .let⟨o,q,r⟩:=rs.obj n y e;have ne:y≠D:=λz=>nD (z ▸ A1 e);have hD:Bx B D D:=.inr rfl;refine⟨o,q,?_⟩
  cases o with
  |lst vs=>let⟨xs,hx,l⟩:=r;exact⟨xs,by rw[zj ne];exact hx,(l.more hn).skip hD⟩
  |dct t kvs=>
   cases t with
   |false=>let⟨xs,hx,l⟩:=r;exact⟨xs,by rw[zj ne];exact hx,(l.more hn).skip hD⟩
   |true=>let⟨xs,hx,l⟩:=r;exact⟨xs,by rw[zj ne];exact hx,(l.more hn).skip hD⟩
  |ins c fs=>let⟨ks,⟨dx,hx⟩,l⟩:=r;exact⟨ks,⟨dx,by rw[zj ne];exact hx⟩,(l.more hn).skip hD⟩
  |dead=>exact r.elim
 .rcases h with h|h
  .exact rs'.dom y h
  .subst h;exact⟨u,zq⟩
theorem yJ.more{D:AI}{u:HO}(hn:H D=AD)(re:yJ K cl B φ H ρ σ):yJ K cl (Bx B D) φ (L2.upd H D u) ρ σ:=⟨re.len,λi v e=>by
 let⟨x,h,q⟩:=re.get i v e;exact⟨x,h,(q.more hn).skip (.inr rfl)⟩⟩
def yaC:Tg->List (Option Nat)->Bool
 |.n i,sl=>decide (sl[i]?=AA AD)
 |.t l,sl=>l.all λi=>decide (sl[i]?=AA AD)
def zgg:∀(l:List Nat) (vs:List PV) (ρ:IC.Env) (j:Nat),j∉l->((l.zip vs).foldl (λρ p=>ρ.set p.1 (AA p.2)) ρ)[j]?=ρ[j]?
 |[],vs,ρ,j,h=>by simp
 |i::is,[],ρ,j,h=>by simp
 |i::is,v::vs,ρ,j,h=>by
  erw[EB,De];rw[zgg is vs _ j λz=>h (AQ _ z),AM]
  rintro rfl
  exact h Aj
def zgf:∀(l:List Nat) (vs:List PV) (ρ:IC.Env),((l.zip vs).foldl (λρ p=>ρ.set p.1 (AA p.2)) ρ).length=ρ.length
 |[],vs,ρ=>by simp
 |i::is,[],ρ=>by simp
 |i::is,v::vs,ρ=>by
  erw[EB,De];rw[zgf is vs,B3]
theorem yJ.untgt{sl:List (Option Nat)}{ρ0 ρ1:IC.Env}{v:PV}(hf:yaC ct sl=AB)(h0:∀(i:Nat),sl[i]?=AA AD->ρ0[i]?=AA AD)(hb:yI ct v ρ0=AA ρ1)(re:yJ K cl B φ H ρ1 σ):yJ K cl B φ H ρ0 σ:=by
 cases ct with
 |n i=>
  cases hb
  erw[yaC,decide_eq_true_eq]at hf;refine⟨by rw[<-re.len,B3],λj w e=>re.get j w ?_⟩;rw[AM]
  .exact e
  .rintro rfl
   rw[h0 _ hf]at e;cases e
 |t l=>
  cases v with
  |tp k vs=>
   erw[yI]at hb;split at hb
   .cases hb
    erw[yaC,Bg,decide_eq_true_eq]at hf;refine⟨by rw[<-re.len,zgf],λj w e=>re.get j w ?_⟩;rw[zgg]
    .exact e
    .intro z;rw[h0 _ (hf j z)]at e;cases e
   .cases hb
  |_=>cases hb
theorem yJ.inn{sl:List (Option Nat)}(re:yJ K cl B φ H ρ σ):yJ K cl B φ H (sl.map λo=>o.bind λj=>(ρ[j]?).join) (L2.inn sl σ):=by
 unfold L2.inn;refine⟨by simp,λi v e=>?_⟩;rw[CA]at e ⊢
 cases q:sl[i]? with
 |none=>rw[q]at e;cases e
 |some o=>
  rw[q]at e
  cases o with
  |none=>cases e
  |some j=>
   erw[Di,B7,Option.some.injEq]at e ⊢
   cases q2:ρ[j]? with
   |none=>rw[q2]at e;cases e
   |some w=>
    rw[q2]at e;erw[Option.join_some]at e;subst e;let⟨x,hx,rv⟩:=re.get j v q2;exact⟨x,by rw[hx];rfl,rv⟩
def zp8:1000000<sizeLine:=by rw[D8];decide
def zoL{α:Type}{o:Option Bool}{k:Bool->R α}{z:α}{s:SO}(h:onO o k=.ok z s):∃b,o=AA b/\k b=.ok z s:=by
 cases o with
 |none=>cases h
 |some b=>exact⟨b,rfl,h⟩
def za7{α β:Type}{r:R α}{k:α->SO->R β}{z:β}{s:SO}(h:r.bind k=.ok z s):∃a s1,r=.ok a s1/\k a s1=.ok z s:=by
 cases r with
 |ok a s1=>exact⟨a,s1,rfl,h⟩
 |exc c s=>cases h
 |bad=>cases h
def ziF{sl:List (Option Nat)}(hf:yaC ct sl=AB){H:Hp}{Q:VK}(h:tE S X (.comp sl ct ci cc ce) σ H Q):ydb sl (tI S X ci) (tG0 S X.K ct) (tT0 S X.K cc) (tE0 S X.K ce) σ H Q:=by
  let⟨B,φ,st,ρ,rs,re,h⟩:=h;erw[ev]at h;refine⟨B,φ,st,ρ,rs,re,(Run.bind h).mono λJ H1 kq=>?_⟩;let⟨xs,st1,φ1,s1,rs1,dr,h1⟩:=kq;refine λD hD=>?_
  generalize hone:(λ(x:PV) (st2:SO)=>match yI ct x (sl.map λo=>o.bind λj=>(ρ[j]?).join)with
   |none=>(R.bad:R (Option PV))
   |some ρ1=>(ev S.call ρ1 st2 cc).bind λb st3=>onO (yaK st3 b) λk=>cond k ((ev S.call ρ1 st3 ce).bind λy st4=>.ok (AA y) st4) (.ok AD st3))=one at h1
  cases e:yaP one xs st1 with
  |exc k s=>rw[e]at h1;exact h1.elim
  |bad=>rw[e]at h1;exact h1.elim
  |ok zs st5=>
   rw[e]at h1;erw[ych]at h1;split at h1
   case isFalse=>exact h1.elim
   rename_i hz;have nB:¬B D:=rs1.nB hD;have nD:AA D∉φ1:=λz=>by
    let⟨w,e⟩:=rs1.there z;rw[hD]at e;cases e
   refine⟨λi m σc ys H2=>∃φ2 st2 vs rest,i+m=xs.length/\Step φ1 H1 φ2 H2/\H2 D=AA (.lst ys)/\AA D∉φ2/\yt X.K S.cl (Bx B D) φ2 H2 st2/\yJ X.K S.cl (Bx B D) φ2 H2 (sl.map λo=>o.bind λj=>(ρ[j]?).join) σc /\
     ye X.K S.cl (Bx B D) φ2 H2 vs ys/\yaP one (xs.drop i) st2=.ok rest st5/\vs++rest=zs,
    ⟨xs.length,φ1,st1,[],zs,by lia,.upd hD,zq,nD,rs1.more hD,(yJ.inn (re.step s1)).more hD,by erw[ye],by simpa using e,rfl⟩,?_⟩
   rintro i m σc ys H2 ⟨φ2,st2,vs,rest,hm,s2,hD2,nD2,rs2,re2,l2,ec,ez⟩
   refine⟨hD2,?_⟩
   by_cases hi:i<xs.length
   .have hl2:=l2.length;have hml:=zp8;have hzl:=congrArg C7 ez;rw[A8]at hzl;refine .inr ⟨dr.go i φ2 H2 s2 hi,by lia,λσ' ys' H'=>∃φ2 st2 vs rest,Step φ1 H1 φ2 H'/\H' D=AA (.lst ys')/\AA D∉φ2/\yt X.K S.cl (Bx B D) φ2 H' st2/\yJ X.K S.cl (Bx B D) φ2 H' (sl.map λo=>o.bind λj=>(ρ[j]?).join) σ' /\
     ye X.K S.cl (Bx B D) φ2 H' vs ys'/\yaP one (xs.drop (i+1)) st2=.ok rest st5/\vs++rest=zs,λσ' ys' H' ⟨φ2,st2,vs,rest,q⟩=>⟨m-1,by lia,φ2,st2,vs,rest,by lia,q⟩,λx H3 hy=>?_⟩
    let⟨v,hv,rv,kk⟩:=dr.yld i φ2 H2 st2 x H3 (Bx B D) (λy z=>z.elim .inl λq=>.inr (q ▸ hD)) s2 rs2 hi hy;have s3:Step φ2 H2 φ2 H3:=⟨λb o _ e=>kk b o e,AT _,λ_ _ _ e=>e,λ_ h=>.inl h⟩;have rs3:yt X.K S.cl (Bx B D) φ2 H3 st2:=rs2.same kk;have ed:xs.drop i=v::xs.drop (i+1):=by
     rw[EH hi];rw[Cv hi]at hv;rw[AW hv]
    rw[ed,yaP]at ec;let⟨o,st3,e1,ec⟩:=za7 ec;let⟨rest',st4,e2,ec⟩:=za7 ec;rw[<-hone]at e1;dsimp only at e1
    cases eb:yI ct v (sl.map λo=>o.bind λj=>(ρ[j]?).join)with
    |none=>rw[eb]at e1;cases e1
    |some ρ1=>
     rw[eb]at e1;dsimp only at e1;let⟨bv,st6,e3,e1⟩:=za7 e1;let⟨k,e4,e1⟩:=zoL e1;have er:st4=st5/\ybV o rest'=rest:=by
      injection ec with q1 q2;exact⟨q2,q1⟩
     let⟨rfl,rfl⟩:=er;refine⟨Bx B D,φ2,st2,_,v,ρ1,rs3,re2.step s3,rv,eb,λσ4 re4=>⟨Bx B D,φ2,st2,ρ1,rs3,re4,?_⟩⟩;have et:ya4 (ev S.call ρ1 st2 cc)=.ok k st6:=by
      rw[e3];erw[ya4,R.bind,e4,onO]
     rw[et]
     rintro k' H5 φ5 s5 rs5 rfl
     have nD5:AA D∉φ5:=λz=>by
      rcases s5.new D z with q|q
      .exact nD2 q
      .rw[kk D _ hD2]at q;cases q
     have hD5:H5 D=AA (.lst ys):=s5.keep D _ nD2 (kk D _ hD2);have s25:Step φ1 H1 φ5 H5:=s2.trans (s3.trans s5);have l5:=(l2.step s3).step s5;have re5:yJ X.K S.cl (Bx B D) φ5 H5 ρ1 σ4:=re4.step s5;have h0:∀(i:Nat),sl[i]?=AA AD->(sl.map λo=>o.bind λj=>(ρ[j]?).join)[i]?=AA none:=λi q=>by
      rw[CA,q];rfl
     cases k with
     |false=>
      erw[cond_false]at e1
      cases e1
      exact⟨φ5,_,vs,rest',s25,hD5,nD5,rs5,yJ.untgt hf h0 eb re5,l5,e2,ez⟩
     |true=>
      erw[cond_true]at e1;let⟨y,st7,e5,e1⟩:=za7 e1
      cases e1
      refine⟨Bx B D,φ5,st6,ρ1,rs5,re5,?_⟩;rw[e5];intro y' H6 φ6 s6 rs6 ry;have nD6:AA D∉φ6:=λz=>by
       rcases s6.new D z with q|q
       .exact nD5 q
       .rw[hD5]at q;cases q
      have hD6:H6 D=AA (.lst ys):=s6.keep D _ nD5 hD5;have hBD:Bx B D D:=.inr rfl;refine⟨hD6,φ6,_,vs++[y],rest',?_,zq,nD6,rs6.skip hBD,(yJ.untgt hf h0 eb (re5.step s6)).skip hBD,((l5.step s6).append (by erw[ye];exact⟨y',[],rfl,ry,rfl⟩)).skip hBD,e2,?_⟩
      .have s16:=s25.trans s6;exact⟨λb o n q=>by rw[zj (zl q hD)];exact s16.keep b o n q,s16.len,s16.pre,s16.new⟩
      .simpa [ybV] using ez
   .have ei:i=xs.length:=by lia
    subst ei;rw[GI,yaP]at ec
    cases ec
    refine .inl ⟨dr.stop φ2 H2 s2,h1 (.ref D) H2 φ2 s2 rs2.less ?_⟩;erw[yd];exact⟨D,ys,rfl,⟨hD2,nB,nD2⟩,by rw[<-ez,Ap];exact l2.less⟩
def zk9{sc:Bk}{NC:List AN}{sl:List (Option Nat)}{ifs:List AS}(hc:X.calm=AB)(O:yal X sc NC sl)(hf:yaC ct sl=AB)(hi:PI X tg iter (tI S X ci))(hg:∀j,PG (cxC X sc NC j) tg (tG0 S X.K ct))
  (ht:∀j,PTs (cxC X sc NC j) ifs (tT0 S X.K cc)) (he:∀j,PE (cxC X sc NC j) elt (tE0 S X.K ce)) (hs:∀x,foldedSetIterable iter X.env x=pure x:=by intro _;rfl):
  PE X (.ListComp elt [⟨tg,iter,ifs,0⟩] sc pos) (tE S X (.comp sl ct ci cc ce)):=
 (zlm hc O hi hg ht he hs).imp λσ H Q h=>ziF hf h
end
end L2
namespace IC
open PySem
def RLe{α:Type}(r q:R α):Prop:=r=.bad \/ r=q
def FLe(f g:Fl):Prop:=f=.bad \/ f=g
abbrev Cl:=Nat->List PV->SO->R PV
def CLe(c d:Cl):Prop:=∀f a s,RLe (c f a s) (d f a s)
theorem RLe.rfl{α:Type}{r:R α}:RLe r r:=.inr (DL _)
theorem FLe.rfl{f:Fl}:FLe f f:=.inr (DL _)
theorem RLe.bind{α β:Type}{r q:R α}{k l:α->SO->R β}(h:RLe r q)(hk:∀a s,RLe (k a s) (l a s)):RLe (r.bind k) (q.bind l):=by
 rcases h with h|h
 .subst h;exact .inl (DL _)
 .subst h
  cases r with
  |ok a s=>exact hk a s
  |exc c s=>exact .rfl
  |bad=>exact .rfl
theorem RLe.fl{α:Type}{r q:R α}{ρ:Env}{k l:α->SO->Fl}(h:RLe r q)(hk:∀a s,FLe (k a s) (l a s)):FLe (r.fl ρ k) (q.fl ρ l):=by
 rcases h with h|h
 .subst h;exact .inl (DL _)
 .subst h
  cases r with
  |ok a s=>exact hk a s
  |exc c s=>exact .rfl
  |bad=>exact .rfl
theorem RLe.comp{r q:R (List PV)}(h:RLe r q):RLe (ych r) (ych q):=by
 rcases h with h|h
 .subst h;exact .inl (DL _)
 .subst h;exact .rfl
def zhP{α:Type}{x:PV}{k l:Bool->R α}(h:∀b,RLe (k b) (l b)):RLe (onBl x k) (onBl x l):=by
 cases x with
 |bl b=>exact h b
 |_=>exact .rfl
def zeP{α:Type}{x:Option Bool}{k l:Bool->R α}(h:∀b,RLe (k b) (l b)):RLe (onO x k) (onO x l):=by
 cases x with
 |some b=>exact h b
 |none=>exact .rfl
def zku{x:Option Bool}{k l:Bool->Fl}(h:∀b,FLe (k b) (l b)):FLe (onF x k) (onF x l):=by
 cases x with
 |some b=>exact h b
 |none=>exact .rfl
def zm1{α:Type}{x:Option (Option Int)}{k l:Option Int->R α}(h:∀b,RLe (k b) (l b)):RLe (onP x k) (onP x l):=by
 cases x with
 |some b=>exact h b
 |none=>exact .rfl
def zdx{α:Type}{b:Bool}{r q r' q':R α}(h:RLe r q)(h':RLe r' q'):RLe (cond b r r') (cond b q q'):=by
 cases b
 .exact h'
 .exact h
def zf6{b:Bool}{r q r' q':Fl}(h:FLe r q)(h':FLe r' q'):FLe (cond b r r') (cond b q q'):=by
 cases b
 .exact h'
 .exact h
def zcR{f g:PV->SO->R (Option PV)}(h:∀x s,RLe (f x s) (g x s)):∀xs s,RLe (yaP f xs s) (yaP g xs s)
 |[],s=>.rfl
 |x::xs,s=>(h x s).bind λo s1=>(zcR h xs s1).bind λys s2=>.rfl
def zdm{f g:Fl}{k l:Env->SO->Fl}(h:FLe f g)(hk:∀ρ s,FLe (k ρ s) (l ρ s)):FLe (yat f k) (yat g l):=by
 rcases h with h|h
 .subst h;exact .inl (DL _)
 .subst h
  cases f with
  |nx ρ s=>exact hk ρ s
  |ct ρ s=>exact hk ρ s
  |_=>exact .rfl
def zen{t:Tg}{f g:Env->SO->Fl}(h:∀ρ s,FLe (f ρ s) (g ρ s)):∀xs ρ s,FLe (forL t f xs ρ s) (forL t g xs ρ s)
 |[],ρ,s=>.rfl
 |x::xs,ρ,s=>by
  unfold forL
  cases yI t x ρ with
  |none=>exact .rfl
  |some ρ1=>exact zdm (h ρ1 s) λρ2 s2=>zen h xs ρ2 s2
def zeN{t u:Env->SO->R PV}{f g:Env->SO->Fl}(ht:∀ρ s,RLe (t ρ s) (u ρ s))(h:∀ρ s,FLe (f ρ s) (g ρ s)):∀n ρ s,FLe (yao t f n ρ s) (yao u g n ρ s)
 |0,ρ,s=>.rfl
 |n+1,ρ,s=>by
  unfold yao;exact(ht ρ s).fl λx s1=>zku λb=>zf6 (zdm (h ρ s1) λρ2 s2=>zeN ht h n ρ2 s2) .rfl
mutual
theorem zh{c d:Cl}(h:CLe c d):∀(e:Ce) (ρ:Env) (s:SO),RLe (ev c ρ s e) (ev d ρ s e)
 |.cst v,ρ,s=>by exact .rfl
 |.var i,ρ,s=>by exact .rfl
 |.bin o a b,ρ,s=>by
  exact(zh h a ρ s).bind λx s1=>(zh h b ρ s1).bind λy s2=>.rfl
 |.neg a,ρ,s=>by
  exact(zh h a ρ s).bind λx s1=>.rfl
 |.not a,ρ,s=>by
  exact(zh h a ρ s).bind λx s1=>.rfl
 |.and a b,ρ,s=>by
  refine(zh h a ρ s).bind λx s1=>?_;exact zhP λk=>zdx (zh h b ρ s1) .rfl
 |.or a b,ρ,s=>by
  refine(zh h a ρ s).bind λx s1=>?_;exact zhP λk=>zdx .rfl (zh h b ρ s1)
 |.cmp o a b,ρ,s=>by
  exact(zh h a ρ s).bind λx s1=>(zh h b ρ s1).bind λy s2=>.rfl
 |.chain o p a b k,ρ,s=>by
  refine(zh h a ρ s).bind λx s1=>(zh h b ρ s1).bind λy s2=>?_;exact zeP λq=>zdx ((zh h k ρ s2).bind λz s3=>.rfl) .rfl
 |.ite k a b,ρ,s=>by
  exact(zh h k ρ s).bind λx s1=>zeP λq=>zdx (zh h a ρ s1) (zh h b ρ s1)
 |.tup es,ρ,s=>by
  exact(zaK h es ρ s).bind λx s1=>.rfl
 |.lst es,ρ,s=>by
  exact(zaK h es ρ s).bind λx s1=>.rfl
 |.newl es,ρ,s=>by
  exact(zaK h es ρ s).bind λx s1=>.rfl
 |.dict0 t,ρ,s=>by exact .rfl
 |.idx a i,ρ,s=>by
  exact(zh h a ρ s).bind λx s1=>(zh h i ρ s1).bind λy s2=>.rfl
 |.slc a l u,ρ,s=>by
  exact(zh h a ρ s).bind λx s1=>(zh h l ρ s1).bind λy s2=>zm1 λo=>(zh h u ρ s2).bind λz s3=>.rfl
 |.call f es,ρ,s=>by
  exact(zaK h es ρ s).bind λx s1=>h f x s1
 |.blt b es,ρ,s=>by
  exact(zaK h es ρ s).bind λx s1=>.rfl
 |.mth m o es,ρ,s=>by
  exact(zh h o ρ s).bind λx s1=>zeP λ_=>(zaK h es ρ s1).bind λy s2=>.rfl
 |.isi a ts,ρ,s=>by
  exact(zh h a ρ s).bind λx s1=>.rfl
 |.comp sl tg it k e,ρ,s=>by
  refine(zhQ h it ρ s).bind λxs s1=>?_;have q:=λ(f g:PV->SO->R (Option PV)) (hfg:∀x s,RLe (f x s) (g x s))=>zcR hfg xs s1;refine RLe.comp (zcR (λx s2=>?_) xs s1)
  cases yI tg x _ with
  |none=>exact .rfl
  |some ρ1=>
   dsimp only;exact(zh h k ρ1 s2).bind λb s3=>zeP λq=>zdx ((zh h e ρ1 s3).bind λy s4=>.rfl) .rfl
 |.nope,ρ,s=>by exact .rfl
 |.frz a,ρ,s=>by
  exact(zh h a ρ s).bind λx s1=>.rfl
 |.dix D a,ρ,s=>by
  exact(zh h a ρ s).bind λx s1=>.rfl
 |.din a D,ρ,s=>by
  exact(zh h a ρ s).bind λx s1=>.rfl
 |.fld q a f,ρ,s=>by
  exact(zh h a ρ s).bind λx s1=>.rfl
 |.new q i es,ρ,s=>by
  refine(zaK h es ρ s).bind λx s1=>RLe.bind ?_ λv s2=>.rfl;rcases h i (.loc s1.length::x) (s1++[.ins q []])with e|e
  .rw[e];exact .inl (DL _)
  .rw[e];exact .rfl
 |.mcl q i m o es,ρ,s=>by
  exact(zh h o ρ s).bind λx s1=>zeP λ_=>(zaK h es ρ s1).bind λy s2=>h i (x::y) s2
 |.cav i L es,ρ,s=>by
  erw[ev]
  cases ycu L ρ[i]? with
  |none=>exact .rfl
  |some j=>exact(zaK h es ρ s).bind λx s1=>h j x s1
theorem zaK{c d:Cl}(h:CLe c d):∀(e:Ces) (ρ:Env) (s:SO),RLe (evs c ρ s e) (evs d ρ s e)
 |.nil,ρ,s=>by exact .rfl
 |.cons e es,ρ,s=>by
  exact(zh h e ρ s).bind λx s1=>(zaK h es ρ s1).bind λy s2=>.rfl
theorem zhQ{c d:Cl}(h:CLe c d):∀(e:Cit) (ρ:Env) (s:SO),RLe (evi c ρ s e) (evi d ρ s e)
 |.seq e,ρ,s=>by
  exact(zh h e ρ s).bind λx s1=>.rfl
 |.range1 a,ρ,s=>by
  exact(zh h a ρ s).bind λx s1=>.rfl
 |.range2 a b,ρ,s=>by
  exact(zh h a ρ s).bind λx s1=>(zh h b ρ s1).bind λy s2=>.rfl
 |.rangeD a b,ρ,s=>by
  exact(zh h a ρ s).bind λx s1=>(zh h b ρ s1).bind λy s2=>.rfl
 |.enum e,ρ,s=>by
  exact(zh h e ρ s).bind λx s1=>.rfl
 |.zip a b,ρ,s=>by
  exact(zh h a ρ s).bind λx s1=>(zh h b ρ s1).bind λy s2=>.rfl
 |.revl e,ρ,s=>by
  exact(zh h e ρ s).bind λx s1=>.rfl
 |.revr e,ρ,s=>by
  exact(zh h e ρ s).bind λx s1=>.rfl
 |.chars e,ρ,s=>by
  exact(zh h e ρ s).bind λx s1=>.rfl
end
mutual
theorem zo2{c d:Cl}(h:CLe c d):∀(x:Cs) (ρ:Env) (s:SO),FLe (ex c ρ s x) (ex d ρ s x)
 |.expr e,ρ,s=>by
  exact(zh h e ρ s).fl λx s1=>.rfl
 |.asg t e,ρ,s=>by
  exact(zh h e ρ s).fl λx s1=>.rfl
 |.six o i e,ρ,s=>by
  exact(zh h e ρ s).fl λx s1=>(zh h o ρ s1).fl λy s2=>(zh h i ρ s2).fl λz s3=>.rfl
 |.dput o i e,ρ,s=>by
  exact(zh h e ρ s).fl λx s1=>(zh h o ρ s1).fl λy s2=>(zh h i ρ s2).fl λz s3=>.rfl
 |.aug i o e,ρ,s=>by
  first|unfold ev|unfold ex|unfold evs|unfold evi|unfold exs
  split
  .exact(zh h e ρ s).fl λx s1=>.rfl
  .exact .rfl
 |.ret e,ρ,s=>by
  exact(zh h e ρ s).fl λx s1=>.rfl
 |.ite k a b,ρ,s=>by
  exact(zh h k ρ s).fl λx s1=>zku λq=>zf6 (za5 h a ρ s1) (za5 h b ρ s1)
 |.for t it b,ρ,s=>by
  exact(zhQ h it ρ s).fl λxs s1=>zen (λρ2 s2=>za5 h b ρ2 s2) xs ρ s1
 |.while k b,ρ,s=>by
  exact zeN (λρ2 s2=>zh h k ρ2 s2) (λρ2 s2=>za5 h b ρ2 s2) _ ρ s
 |.nope,ρ,s=>by exact .rfl
 |.mkr i D n es,ρ,s=>by
  refine(zh h n ρ s).fl λx s1=>?_;split
  .exact((zaK h es _ s1).bind λvs s2=>h _ vs s2).fl λv s3=>.rfl
  .exact .rfl
 |.sfl q o f e,ρ,s=>by
  exact(zh h e ρ s).fl λx s1=>(zh h o ρ s1).fl λy s2=>.rfl
theorem za5{c d:Cl}(h:CLe c d):∀(x:Css) (ρ:Env) (s:SO),FLe (exs c ρ s x) (exs d ρ s x)
 |.nil,ρ,s=>by exact .rfl
 |.cons x xs,ρ,s=>by
  first|unfold ev|unfold ex|unfold evs|unfold evi|unfold exs
  rcases zo2 h x ρ s with e|e
  .rw[e];exact .inl (DL _)
  .rw[e]
   cases ex d ρ s x with
   |nx ρ1 s1=>exact za5 h xs ρ1 s1
   |_=>exact .rfl
end
def zeH(T:Nat->Option Fn):∀k,CLe (yc T k) (yc T (k+1))
 |0,f,a,s=>.inl (DL _)
 |k+1,f,a,s=>by
  have h:=zeH T k;rw[yc,yc]
  cases T f with
  |none=>exact .rfl
  |some fn=>
   dsimp only;split
   .split
    .split
     .rcases za5 h fn.body (a.map AA++An (fn.ns-fn.np) AD) []with e|e
      .rw[e];exact .inl (DL _)
      .rw[e];exact .rfl
     .exact .rfl
    .rcases za5 h fn.body (a.map AA++An (fn.ns-fn.np) AD) s with e|e
     .rw[e];exact .inl (DL _)
     .rw[e];exact .rfl
   .exact .rfl
def zak{T:Nat->Option Fn}{k:Nat}{f:Nat}{a:List PV}{s s':SO}{v:PV}(h:yc T k f a s=.ok v s'):∀j,yc T (k+j) f a s=.ok v s'
 |0=>h
 |j+1=>by
  have q:=zak h j;rcases zeH T (k+j) f a s with e|e
  .rw[q]at e;cases e
  .rw[D5]at e;rw[<-e];exact q
end IC
namespace L2
open PySem PySem.Spec PyProof.Rows IC
def spI(K:AF)(cl:Nat->AI)(call:Nat->List PV->SO->R PV)(f:Nat):Sp:=λvs H Q E=>∃B φ st args,yt K cl B φ H st/\ye K cl B φ H args vs/\match call f args st with
 |.ok v st'=>∀x H' φ',Step φ H φ' H'->yt K cl B φ' H' st'->yd K cl B φ' H' v x->Q x H'
 |.exc c st'=>∀H' φ',Step φ H φ' H'->yt K cl B φ' H' st'->E (.ref (cl c)) AD H'
 |.bad=>False
section
variable {S:Se}{X:Cx}{k:Nat}{f:AI}{fd:Az}{ps ks:List AN}{sp:Sp}{dvs:List V}{ds:List AG}{x:AN}{p pos:CT}{e:AS}{es:List AS}{t tk:TA}{CX:CXT}{σ:St}{H:Hp}
def zdo{π:List (AI×CF)}{s:AJ}{Q:VK}{us:List AG}{vs:List V}{E:XK}(F:yaI X.prog X.w X.K X.mg X.base CX k f fd ps sp)(hr:yap k X.A)(hb:Binds X.K fd ps ds)(hd:Vals dvs ds)
  (I:Inv X π σ H s) (r:Vals vs us) (h:sp (vs++dvs) H Q E) (hx:∀e s',CX X.stack H s E e s'->X.xe e s'):A0 (model X.prog X.w) X.A (call (.ref f) us) (EP X π σ Q) X.xe s:=by
 have r2:Vals (vs++dvs) (us++ds):=r.append hd;have hl:(us++ds).length=ps.length:=by rw[<-r2.length];exact F.len _ _ _ _ h
 refine G7 (Dn (F.run X.A X.stack s H ⟨us,[]⟩ (us++ds) (vs++dvs) Q E hr I.env0 (hb s us I.kIn hl) r2 h) λr s' hq=>?_)
 cases r with
 |error e=>exact hx e s' hq
 |ok fl=>
  cases fl with
  |ret u=>exact I.after hq
  |next=>exact Bm hq
  |brk=>exact Bm hq
  |cont=>exact Bm hq
def ycl(CX:CXT)(X:Cx)(sp:Sp)(dvs:List V)(t:TA):TE:=λσ H Q=>t σ H λvs H1=>∃E:XK,sp (vs++dvs) H1 Q E/\∀π s e s',Inv X π σ H1 s->CX X.stack H1 s E e s'->X.xe e s'
def zju(F:yaI X.prog X.w X.K X.mg X.base CX k f fd ps sp)(hr:yap k X.A)(hg:Gl X x)(hm:X.mg x=AA (.ref f))(hk:Al X.K (.ref f)=AB)(hb:Binds X.K fd ps ds)(hd:Vals dvs ds)
  (ha:PA X (e::es) t) (hdb:(x==("__debug__":AN))=false:=by decide) (he:starEach (e::es) X.env=(AC,eval e X.env)::starEach es X.env:=by rfl) (hpl:(backTo pos (starEach es X.env)).any (·.1)=false:=by rfl):
  PE X (.Call (.Name x p) (e::es) [] pos) (ycl CX X sp dvs t):=by
 intro π s σ H Q I h;refine BZ (zdA I hg hm ?_ hdb);refine DA (h₀:=X.base) I.ok.mod.kin hk (thn (ha pos π s σ H _ I h) λus s1 kq=>?_) he hpl;let⟨vs,H1,I1,r,E,q,hx⟩:=kq;refine ⟨I1.kIn,?_⟩;exact zdo F hr hb hd I1 r q λe s' c=>hx π s1 e s' I1 c
def zis(F:yaI X.prog X.w X.K X.mg X.base CX k f fd ps sp)(hr:yap k X.A)(hg:Gl X x)(hm:X.mg x=AA (.ref f))(hk:Al X.K (.ref f)=AB)(hb:Binds X.K fd ps ds)(hd:Vals dvs ds)
  (hdb:(x==("__debug__":AN))=false:=by decide):PE X (.Call (.Name x p) [] [] pos) (ycl CX X sp dvs ydv):=by
 intro π s σ H Q I h;let⟨E,q,hx⟩:=h;refine BZ (zdA I hg hm ?_ hdb);exact FP I.kIn hk (zdo F hr hb hd I .nil q λe s' c=>hx π s e s' I c)
variable {B:AI->Prop}{φ:Ph}{st:SO}{ces:Ces}{fi:Nat}
def zaP{vs:List PV}{xs:List V}{Q:VK}(rs:yt X.K S.cl B φ H st)(l:ye X.K S.cl B φ H vs xs)(h:Run S X σ B φ H (RV S X B) (S.call fi vs st) Q):
  ∃E:XK,spI X.K S.cl S.call fi xs H Q E/\∀π s e s',Inv X π σ H s->CX1 X.prog X.w X.stack H s E e s'->X.xe e s':=by
 cases c:S.call fi vs st with
 |ok v st'=>
  rw[c]at h;refine⟨λ_ _ _=>False,⟨B,φ,st,vs,rs,l,by rw[c];exact h⟩,λπ s e s' _ z=>?_⟩;let⟨_,_,_,_,_,_,_,_,_,_,_,_,_,_,z⟩:=z;exact z.elim
 |exc k st'=>
  rw[c]at h;refine⟨λcls _ H'=>cls=.ref (S.cl k)/\∃φ',Step φ H φ' H'/\yt X.K S.cl B φ' H' st',⟨B,φ,st,vs,rs,l,by rw[c];exact λH' φ' s r=>⟨rfl,φ',s,r⟩⟩,λπ s e s' I z=>h e s' (.inl ⟨π,H,s,φ,I,.rfl,z⟩)⟩
 |bad=>rw[c]at h;exact h.elim
def zlt(F:yaI X.prog X.w X.K X.mg X.base (CX1 X.prog X.w) k f fd ps (spI X.K S.cl S.call fi))(hr:yap k X.A)(hg:Gl X x)(hm:X.mg x=AA (.ref f))(hk:Al X.K (.ref f)=AB)(hb:Binds X.K fd ps [])
  (ha:PA X (e::es) (tAs S X ces)) (hdb:(x==("__debug__":AN))=false:=by decide) (he:starEach (e::es) X.env=(AC,eval e X.env)::starEach es X.env:=by rfl) (hpl:(backTo pos (starEach es X.env)).any (·.1)=false:=by rfl):
  PE X (.Call (.Name x p) (e::es) [] pos) (tE S X (.call fi ces)):=
 (zju F hr hg hm hk hb .nil ha hdb he hpl).imp λσ H Q ⟨B,φ,st,ρ,rs,re,h⟩=>by
  erw[ev]at h;refine tAs.bind rs re h λxs H1 vs st1 φ1 s1 rs1 re1 rv h1=>?_;rw[Ap];exact zaP rs1 rv h1
def zjT(F:yaI X.prog X.w X.K X.mg X.base (CX1 X.prog X.w) k f fd ps (spI X.K S.cl S.call fi))(hr:yap k X.A)(hg:Gl X x)(hm:X.mg x=AA (.ref f))(hk:Al X.K (.ref f)=AB)(hb:Binds X.K fd ps [])
  (hdb:(x==("__debug__":AN))=false:=by decide):PE X (.Call (.Name x p) [] [] pos) (tE S X (.call fi .nil)):=
 (zis F hr hg hm hk hb .nil hdb).imp λσ H Q ⟨B,φ,st,ρ,rs,re,h⟩=>by
  erw[ev,evs,R.bind]at h;exact zaP rs (by erw[ye];rfl) h
end
section
variable {P:A3}{w:Ag}{K:AF}{mg:AN->Option AG}{base:BB}{cl:Nat->AI}{T:Nat->Option IC.Fn}{fi:Nat}{fn:IC.Fn}{x qual:AN}{stm:Bz}{f:AI}{fd:Az}{N ps:List AN}{k:Nat}
theorem CX1.mono{outer:List BX}{H:Hp}{s:AJ}{E E':XK}{e:AG}{s':AJ}(h:CX1 P w outer H s E e s')(n:∀cls H',E cls AD H'->E' cls AD H'):CX1 P w outer H s E' e s':=by
 let⟨a,cls,a0,H',Bh,r1,r2,r3,r4,r5,r6,r7,r8,r9,r10⟩:=h;exact⟨a,cls,a0,H',Bh,r1,r2,r3,r4,r5,r6,r7,r8,r9,n _ _ r10⟩
theorem yJ.start{B:AI->Prop}{φ:Ph}{H:Hp}{args:List PV}{vs:List V}(l:ye K cl B φ H args vs)(n:Nat)(hn:N.length-vs.length=n):yJ K cl B φ H (args.map AA++An n AD) (L2.start N vs):=by
 have hl:=l.length;unfold L2.start;refine⟨by simp[hl,hn],λi v e=>?_⟩
 by_cases hi:i<args.length
 .rw[Ac (by simpa using hi),CA]at e
  cases q:args[i]? with
  |none=>rw[q]at e;cases e
  |some v'=>
   rw[q]at e
   cases e
   let⟨y,hy,rv⟩:=l.get i q;exact⟨y,by rw[Ac (by simp;lia),CA,hy];rfl,rv⟩
 .rw[Ao (by simp;lia),EY]at e;split at e<;>cases e
theorem leave{N:List AN}{scope:Bk}{cd:AG}{A:Ar}{outer:List BX}{s₀:AJ}{H₀:Hp}{E:XK}{call:Nat->List PV->SO->R PV}{σ:St}{B:AI->Prop}{φ:Ph}{H:Hp}{c:Nat}{st':SO}{e:AG}{s':AJ}
  (h:ExcAt ⟨cl,call,AB⟩ (yaV (CX1 P w) P w K mg base N qual scope f cd A outer s₀ H₀ E) σ B φ H c st' e s') (n:∀φ' H',Step φ H φ' H'->yt K cl B φ' H' st'->E (.ref (cl c)) AD H'):
  (yaV (CX1 P w) P w K mg base N qual scope f cd A outer s₀ H₀ E).xe e s':=by
 rcases h with⟨π,H1,s,φ1,I,s1,q⟩|⟨_,π,H1,s,φ1,h',e0,vs,I,s1,rs,mk,rfl,rfl⟩|⟨_,π,H1,s,I,q⟩
 .exact zp4 π σ H1 s e s' I (q.mono λcls H' ⟨e1,φ',s2,r⟩=>by subst e1;exact n φ' H' (s1.trans s2) r)
 .exact zih I mk (n φ1 H1 s1 rs)
 .exact zp6 I (q.mono λcls H' ⟨e1,φ',s2,r⟩=>by subst e1;exact n φ' H' s2 r)
def zkP(hT:T fi=AA fn):∀(args:List PV) (st:SO),yc T (k+1) fi args st ≠ .bad->args.length=fn.np:=λargs st hne=>by
 apply Classical.byContradiction;intro c;apply hne;rw[yc,hT];exact if_neg c
def zmW(hT:T fi=AA fn)(hnp:ps.length=fn.np){vs:List V}{H:Hp}{Q:VK}{E:XK}(h:spI K cl (yc T (k+1)) fi vs H Q E):vs.length=ps.length:=by
 let⟨B,φ,st,args,rs,l,h⟩:=h;rw[hnp,<-l.length];refine zkP (k:=k) hT args st λz=>?_;rw[z]at h;exact h
def zmx(hT:T fi=AA fn)(hns:N.length=fn.ns){scope:Bk}{cdv:AG}{A:Ar}{outer:List BX}{s:AJ}{vs:List V}{H:Hp}{Q:VK}{E:XK}(h:spI K cl (yc T (k+1)) fi vs H Q E):
  tSs ⟨cl,yc T k,AB⟩ (yaV (CX1 P w) P w K mg base N qual scope f cdv A outer s H E) fn.body {nx:=λ_ H'=>Q .non H',rt:=Q} (L2.start N vs) H:=by
 let⟨B,φ,st,args,rs,l,h⟩:=h;have hl:args.length=fn.np:=zkP (k:=k) hT args st λz=>by rw[z]at h;exact h
 have hlen:=l.length;rw[yc,hT]at h;dsimp only at h;rw[if_pos hl]at h
 by_cases hp:fn.pure=AB
 .rw[if_pos hp]at h
  by_cases hz:nLs args=AB
  .rw[if_pos hz]at h;have rs0:yt K cl (λa=>B a \/ AA a∈φ) [] H []:=⟨rfl,λm n a e=>by simp at e,λn a e=>by simp at e,λn o e=>by simp at e,λa z=>by simp at z,λa z=>z.elim (rs.dom a) rs.there⟩;have back:∀{φ':Ph} {H':Hp},Step [] H φ' H'->Step φ H φ H'/\yt K cl B φ H' st:=λ{φ' H'} s'=>
    have kk:∀b o,H b=AA o->H' b=AA o:=λb o e=>s'.keep b o (by simp) e
    ⟨⟨λb o _ e=>kk b o e,AT _,λ_ _ _ e=>e,λ_ h=>.inl h⟩,rs.same kk⟩
   refine⟨_,[],[],_,rs0,yJ.start (ye.inn rs.nb args vs hz l) (fn.ns-fn.np) ∅,?_⟩;show yaF _ _ _ _ _ (exs (yc T k) (args.map AA++An (fn.ns-fn.np) AD) [] fn.body) _
   cases e:exs (yc T k) (args.map AA++An (fn.ns-fn.np) AD) [] fn.body with
   |nx ρ' st'=>
    rw[e]at h;intro σ' H' φ' s' rs' re';let⟨s2,r2⟩:=back s';exact h .non H' φ s2 r2 (by erw[yd])
   |rt v st'=>
    rw[e]at h;dsimp only at h
    by_cases hv:nL v=AB
    .rw[if_pos hv]at h;intro y H' φ' s' rs' rv;let⟨s2,r2⟩:=back s';exact h y H' φ s2 r2 (yd.out v y hv rv)
    .rw[if_neg hv]at h;exact h.elim
   |exc c ρ' st'=>
    rw[e]at h;intro σ' φ1 H1 ev s' s1 _ ex;refine leave ex λφ2 H2 s2 _=>?_;let⟨s3,r3⟩:=back (s1.trans s2);exact h H2 φ s3 r3
   |bk ρ' st'=>rw[e]at h;exact h.elim
   |ct ρ' st'=>rw[e]at h;exact h.elim
   |bad=>rw[e]at h;exact h.elim
  .rw[if_neg hz]at h;exact h.elim
 .rw[if_neg hp]at h;refine⟨B,φ,st,_,rs,yJ.start l (fn.ns-fn.np) ∅,?_⟩;show yaF _ _ _ _ _ (exs (yc T k) (args.map AA++An (fn.ns-fn.np) AD) st fn.body) _
  cases e:exs (yc T k) (args.map AA++An (fn.ns-fn.np) AD) st fn.body with
  |nx ρ' st'=>
   rw[e]at h;intro σ' H' φ' s' rs' re';exact h .non H' φ' s' rs' (by erw[yd])
  |rt v st'=>
   rw[e]at h;intro y H' φ' s' rs' rv;exact h y H' φ' s' rs' rv
  |exc c ρ' st'=>
   rw[e]at h;intro σ' φ1 H1 ev s' s1 _ ex;exact leave ex λφ2 H2 s2 r2=>h H2 φ2 (s1.trans s2) r2
  |bk ρ' st'=>rw[e]at h;exact h.elim
  |ct ρ' st'=>rw[e]at h;exact h.elim
  |bad=>rw[e]at h;exact h.elim
end
def tyN:Ty->String
 |.int=>"int" | .bool=>"bool" | .str=>"str" | .tuple=>"tuple" | .list=>"list" | _=>""
structure yd0(K:AF)(t:Ty):Prop where
 n:B0 K (.type "NoneType") (.type (tyN t))=AA (ybv .non t)
 b:B0 K (.type "bool") (.type (tyN t))=AA (ybv (.bl AB) t)
 i:B0 K (.type "int") (.type (tyN t))=AA (ybv (.int 0) t)
 s:B0 K (.type "str") (.type (tyN t))=AA (ybv (.str Fz) t)
 p:B0 K (.type "tuple") (.type (tyN t))=AA (ybv (.tp AB []) t)
 l:B0 K (.type "list") (.type (tyN t))=AA (ybv (.lst []) t)
section
variable {S:Se}{X:Cx}{σ:St}{B:AI->Prop}{φ:Ph}{H:Hp}{st:SO}{p pos p2 px:CT}{a b c d o:AS}{ca cb cc:Ce}{t:Ty}
def yf6(S:Se)(X:Cx)(t:Ty):List V->Hp->VK->Prop:=λxs H Q=>∃B φ st v x z,xs=[x,.ty (tyN t)]/\yt X.K S.cl B φ H st/\yd X.K S.cl B φ H v x/\yaM v [t]=AA z/\yc7 t=AB /\
 ∀z' H' φ',Step φ H φ' H'->yt X.K S.cl B φ' H' st->yd X.K S.cl B φ' H' z z'->Q z' H'
def znl(Z:yd0 X.K t):yae X (.builtin "isinstance") (yf6 S X t):=by
 rintro π s σ H xs us Q I r ⟨B,φ,st,v,x,z,rfl,rs,rv,e,hb,q⟩
 let⟨u,c',rfl,ru,rc⟩:=vals2 r
 cases (show c'=F1 (tyN t)from rc)
 have fin:∀(k:Bool) (tk:Nat),z=.bl k->EP X π σ Q (.bool k) {s with toks:=tk}:=λk tk ez=>⟨.bl k,H,I.tok tk,rfl,q _ H φ .rfl rs (by subst ez;erw[yd])⟩
 cases v with
 |non=>
  erw[yd]at rv;subst rv
  cases (show u=CM from ru)
  erw[yaM,hb,if_true]at e;exact Cc PySem.W.kitx_none I.kIn Ca Z.n (λz=>nomatch z) λtk=>fin _ tk (by cases e;cases t<;>rfl)
 |bl k=>
  erw[yd]at rv;subst rv
  cases (show u=Dq k from ru)
  erw[yaM,hb,if_true]at e;exact Cc PySem.W.kitx_bool I.kIn Ca Z.b (λz=>nomatch z) λtk=>fin _ tk (by cases e;cases t<;>rfl)
 |int k=>
  erw[yd]at rv;subst rv;let⟨tk,rfl⟩:=ru;erw[yaM,hb,if_true]at e;exact Cc PySem.W.kitx_int I.kIn Ca Z.i (λz=>nomatch z) λtk=>fin _ tk (by cases e;cases t<;>rfl)
 |str k=>
  erw[yd]at rv;subst rv;let⟨tk,rfl⟩:=ru;erw[yaM,hb,if_true]at e;exact Cc PySem.W.kitx_str I.kIn Ca Z.s (λz=>nomatch z) λtk=>fin _ tk (by cases e;cases t<;>rfl)
 |tp k vs=>
  erw[yd]at rv;let⟨y,ys,rfl,rt,l⟩:=rv
  cases (show u=Ad y from ru)
  erw[yaM,hb,if_true]at e;let⟨its,_,⟨o,g,c,_,_⟩,_⟩:=I.tuple rt.sq;exact Cc PySem.W.kitx_tuple I.kIn ⟨o,g,c⟩ Z.p (λz=>nomatch z) λtk=>fin _ tk (by cases e;cases t<;>rfl)
 |lst vs=>
  erw[yd]at rv;let⟨y,ys,rfl,rt,l⟩:=rv
  cases (show u=Ad y from ru)
  erw[yaM,hb,if_true]at e;let⟨_,_,n,_,h1⟩:=(show yR X.prog X.w H s.heap y (.lst ys)from I.hok y _ rt.1);exact Cc PySem.W.kitx_list I.kIn ⟨_,h1,rfl⟩ Z.l (λz=>nomatch z) λtk=>fin _ tk (by cases e;cases t<;>rfl)
 |loc n=>cases e
 |scr n=>cases e
 |fnc n=>cases e
 |exn n=>erw[yaM,Bb,List.all_nil,hb,Cf,if_true]at e;cases e
def zob{T:AN}(Z:yd0 X.K t)(ht:yc7 t=AB)(hg:Gl X "isinstance")(hm:X.mg "isinstance"=AD)(hgT:Gl X T)(hmT:X.mg T=AD)(hT:bootBuiltins T=AA (.type (tyN t)))(ha:PE X a (tE S X ca))(hnT:T ≠ "__name__":=by decide)(hdT:(T==("__debug__":AN))=false:=by decide)
  (he:starEach [a,.Name T p2] X.env=(AC,eval a X.env)::starEach [.Name T p2] X.env:=by rfl) (hpl:(backTo pos (starEach [.Name T p2] X.env)).any (·.1)=false:=by rfl):
  PE X (.Call (.Name "isinstance" p) [a,.Name T p2] [] pos) (tE S X (.isi ca [t])):=
 (zgv (znl Z) hg hm GX (zbI ha (zbI (zlW (v:=.ty (tyN t)) hgT hmT hT rfl hnT hdT) zhr) he) ⋯ ⋯ he hpl).imp λσ H Q ⟨B,φ,st,ρ,rs,re,h⟩=>by
  erw[ev]at h;refine tE.bind rs re h λx H1 v st1 φ1 s1 rs1 re1 rv h1=>?_;let⟨z,e,q⟩:=zas h1 rs1;exact⟨B,φ1,st1,v,x,z,rfl,rs1,rv,e,ht,q⟩
def zkn{st4:SO}{x y v:PV}(h:ybx st x y v=AA st4):∃n xs k j,x=.loc n/\st[n]?=AA (.lst xs)/\y=.int k/\ixI xs.length k=AA j/\st4=st.set n (.lst (xs.set j v)):=by
 cases x with
 |loc n=>
  erw[ybx]at h
  cases q:st[n]? with
  |none=>rw[q]at h;cases h
  |some o=>
   rw[q]at h
   cases o with
   |lst xs=>
    cases y with
    |int k=>
     dsimp only at h
     cases q2:ixI xs.length k with
     |none=>rw[q2]at h;cases h
     |some j=>rw[q2]at h;exact⟨n,xs,k,j,rfl,q,rfl,q2,(AW h).symm⟩
    |_=>cases h
   |_=>cases h
 |_=>cases h
theorem ye.put{K:AF}{cl:Nat->AI}:∀{vs:List PV} {xs:List V} (j:Nat) {v:PV} {x:V},ye K cl B φ H vs xs->yd K cl B φ H v x->ye K cl B φ H (vs.set j v) (xs.set j x)
 |[],xs,j,v,x,l,r=>by erw[ye]at l;subst l;simp[ye]
 |w::vs,xs,0,v,x,l,r=>by
  erw[ye]at l;let⟨y,ys,rfl,_,l⟩:=l;erw[As,ye];exact⟨x,ys,rfl,r,l⟩
 |w::vs,xs,j+1,v,x,l,r=>by
  erw[ye]at l;let⟨y,ys,rfl,ry,l⟩:=l;erw[Au,ye];exact⟨y,ys.set j x,rfl,ry,ye.put j l r⟩
def znv(he:PE X a (tE S X ca))(ho:PE X b (tE S X cb))(hi:PE X c (tE S X cc))(hs:swapsWithSole [.Subscript b c px] a pos.line X.env=pure false:=by rfl)(hw:swappedStores [.Subscript b c px] a X.env=pure none:=by rfl)
  (hg:PG X (.Subscript b c px) (yfh (tE S X cb) (tE S X cc) ydc):=by exact zkI ‹_› ‹_› zgD):PS X (.Assign [.Subscript b c px] a pos) (tS S X (.six cb cc ca)):=
 (zkF he hg hs hw).imp λD σ H ⟨B,φ,st,ρ,rs,re,h⟩=>by
  erw[ex]at h;refine tE.fl rs re h λv' H1 v st1 φ1 s1 rs1 re1 rv h1=>tE.fl rs1 re1 h1 λx' H2 x st2 φ2 s2 rs2 re2 rx h2=>tE.fl rs2 re2 h2 λy' H3 y st3 φ3 s3 rs3 re3 ry h3=>?_
  cases e:ybx st3 x y v with
  |none=>rw[e]at h3;exact h3.elim
  |some st4=>
   rw[e]at h3;let⟨n,xs,k,j,rfl,hn,rfl,hj,rfl⟩:=zkn e;erw[yd]at ry;subst ry;let⟨l,ys,rfl,hp,hx,lr⟩:=rs3.list (rx.step s3) hn;refine⟨l,ys,k,j,rfl,rfl,hx,by rw[<-lr.length];exact hj,?_⟩;have s4:Step φ3 H3 φ3 (L2.upd H3 l (.lst (ys.set j v'))):=.put (A1 hp);exact h3 σ _ φ3 s4 (rs3.put hp ⟨_,zq,(lr.put j ((rv.step s2).step s3)).step s4⟩) (re3.step s4)
end
section
variable {S:Se}{X:Cx}{σ:St}{B:AI->Prop}{φ:Ph}{H:Hp}{st:SO}{p pos p2 px py pt pt2 apos:CT}{a b c d o:AS}{ca cb cc:Ce}{kt k2:Nat}
def zoj{i j:Nat}{x y:AN}(hc:X.calm=AB)(hN:X.N.Nodup)(hi:X.N[i]?=AA x)(hj:X.N[j]?=AA y)(hij:i≠j)(h:PS X (.Assign [.Tuple [.Name x px,.Name y py] kt pt] (.Tuple [a,b] k2 pt2) pos) (ye8 i j (tAs S X (.cons ca (.cons cb .nil))))):
  PS X (.Assign [.Tuple [.Name x px,.Name y py] kt pt] (.Tuple [a,b] k2 pt2) pos) (tS S X (.asg (.t [i,j]) (.tup (.cons ca (.cons cb .nil))))):=
 h.imp λD σ H ⟨B,φ,st,ρ,rs,re,h⟩=>by
  erw[ex,ev]at h;refine⟨B,φ,st,ρ,rs,re,?_⟩
  cases e:evs S.call ρ st (.cons ca (.cons cb .nil))with
  |bad=>rw[e]at h;exact h
  |exc k st'=>rw[e]at h;exact λe s' x=>h σ φ H e s' .rfl re x
  |ok vs st'=>
   rw[e]at h;intro xs H' φ' s rs' l;erw[R.bind]at h;split at h
   .rcases vs with _|⟨v,_|⟨w,_|⟨u,t⟩⟩⟩
    .exact h.elim
    .exact h.elim
    .let⟨v',w',rfl,rv,rw⟩:=l.two;refine⟨v',w',rfl,?_⟩;exact h _ H' φ' s rs' (((re.step s).set i rv).set j rw)
    .exact h.elim
   .exact h.elim
def zli{bo:BOp}{v w z:PV}(h:ybN bo v w=AA z):∃i j,v=.int i/\w=.int j/\IC.binI bo i j=AA z:=by
 unfold ybN at h;split at h
 .exact⟨_,_,rfl,rfl,h⟩
 .cases h
def zls:PIp X .Add (rT2 S X (ybN .add)):=by
 rintro π s σ H x y v u Q I rx ry ⟨B,φ,st,a,b,z,rs,ra,rb,e,q⟩
 let⟨i,j,rfl,rfl,e⟩:=zli e
 cases e
 erw[yd]at ra rb;subst ra rb;exact zoe π s σ H _ _ v u Q I rx ry ⟨i,j,rfl,rfl,q _ H φ .rfl rs (by erw[yd])⟩
end
end L2
namespace WK
open PySem L2 IC
def GC(K:AF)(mg:AN->Option AG)(cl:Nat->AI)(x:AN)(v:PV):Prop:=∃y:AI,mg x=AA (.ref y)/\∀B φ H,yd K cl B φ H v (.ref y)
def zpr{S:Se}{X:Cx}{x:AN}{v:PV}{pos:CT}(hg:Gl X x)(h:GC X.K X.mg S.cl x v)(hd:(x==("__debug__":AN))=false:=by decide):PE X (.Name x pos) (tE S X (.cst v)):=by
 let⟨y,hm,hk⟩:=h;exact ziZ hg hm hk hd
def zkq:bootBuiltins "int"=AA (.type "int"):=by decide +kernel
def zmr:bootBuiltins "bool"=AA (.type "bool"):=by decide +kernel
def znK:bootBuiltins "str"=AA (.type "str"):=by decide +kernel
def zgh:bootBuiltins "tuple"=AA (.type "tuple"):=by decide +kernel
def znR:bootBuiltins "len"=AA (.builtin "len"):=by decide +kernel
def zot:bootBuiltins "abs"=AA (.builtin "abs"):=by decide +kernel
def znM:bootBuiltins "max"=AA (.builtin "max"):=by decide +kernel
def zmZ:bootBuiltins "all"=AA (.builtin "all"):=by decide +kernel
def zlp{k:Nat}{A:Ar}(r:yap k A):A.units+1<cLine:=by have:=r.units;lia
end WK
namespace L2
open PySem PySem.Spec PyProof.Rows IC
def shC:Sum Ce Int->Option Int
 |.inl _=>AD
 |.inr i=>AA i
def yaN:List (Option Int)->List V->List V
 |[],_=>[]
 |some i::r,zs=>.int i::yaN r zs
 |none::r,z::zs=>z::yaN r zs
 |none::_,[]=>[]
def pick:List (Option Int)->List V->List V
 |none::r,v::vs=>v::pick r vs
 |some _::r,_::vs=>pick r vs
 |_,_=>[]
def nKw:List (Option Int)->Nat
 |[]=>0
 |none::r=>nKw r+1
 |some _::r=>nKw r
def ycR:Ces->Nat
 |.nil=>0
 |.cons _ r=>ycR r+1
def gK(np:Nat)(sh:List (Option Int))(vs zs:List V):List V:=if vs.length=np/\zs.length=nKw sh then vs++yaN sh zs else []
def zii{call:Nat->List PV->SO->R PV}{ρ:IC.Env}:∀(a:Ces) {st st':SO} {vs:List PV},evs call ρ st a=.ok vs st'->vs.length=ycR a
 |.nil,st,st',vs,h=>by erw[evs]at h;cases h;rfl
 |.cons e r,st,st',vs,h=>by
  erw[evs]at h
  cases q:ev call ρ st e with
  |ok v s1=>
   rw[q]at h;erw[R.bind]at h
   cases q2:evs call ρ s1 r with
   |ok ws s2=>
    rw[q2]at h
    cases h
    simp[ycR,zii r q2]
   |exc c s=>rw[q2]at h;cases h
   |bad=>rw[q2]at h;cases h
  |exc c s=>rw[q]at h;cases h
  |bad=>rw[q]at h;cases h
def zhC{call:Nat->List PV->SO->R PV}{ρ:IC.Env}:∀(a b:Ces) (st:SO),evs call ρ st (yaj a b)=(evs call ρ st a).bind λvs st1=>(evs call ρ st1 b).bind λws st2=>.ok (vs++ws) st2
 |.nil,b,st=>by
  erw[yaj,evs,R.bind,Av]
  cases evs call ρ st b<;>rfl
 |.cons e r,b,st=>by
  erw[yaj,evs]
  cases ev call ρ st e with
  |ok v st1=>
   erw[R.bind];rw[zhC r b st1]
   cases evs call ρ st1 r with
   |ok vs st2=>
    erw[R.bind]
    cases evs call ρ st2 b<;>rfl
   |exc c s=>rfl
   |bad=>rfl
  |exc c s=>rfl
  |bad=>rfl
section
variable {S:Se}{X:Cx}{k:Nat}{f:AI}{fd:Az}{ps ks:List AN}{sp:Sp}{x:AN}{p pos kpos:CT}{e:AS}{es:List AS}{kws:List C2}{nm:Option AN}{t tk:TA}{CX:CXT}{ca:Ce}{ces:Ces}{items:List (Sum Ce Int)}{g:List AG->List AG->List AG}{gV:List V->List V->List V}
def zcs{K:AF}{cl:Nat->AI}{B:AI->Prop}{φ:Ph}{H:Hp}{call:Nat->List PV->SO->R PV}{ρ:IC.Env}:∀(items:List (Sum Ce Int)) {st st':SO} {vs:List PV} {xs:List V},evs call ρ st (yr items)=.ok vs st'->ye K cl B φ H vs xs->yaN (items.map shC) (pick (items.map shC) xs)=xs/\(pick (items.map shC) xs).length=nKw (items.map shC)
 |[],st,st',vs,xs,h,l=>by
  erw[yr,evs]at h
  cases h
  erw[ye]at l;subst l;exact⟨rfl,rfl⟩
 |.inl c::r,st,st',vs,xs,h,l=>by
  erw[yr,evs]at h;let⟨v,s1,e1,h⟩:=za7 h;let⟨ws,s2,e2,h⟩:=za7 h
  cases h
  erw[ye]at l;let⟨y,ys,rfl,_,l⟩:=l;let⟨q1,q2⟩:=zcs r e2 l;erw[AL,shC,pick,yaN,nKw,AX,q1,q2];exact⟨trivial,trivial⟩
 |.inr i::r,st,st',vs,xs,h,l=>by
  erw[yr,evs,ev]at h;let⟨v,s1,e1,h⟩:=za7 h;let⟨ws,s2,e2,h⟩:=za7 h
  cases h
  cases e1
  erw[ye,yd]at l;let⟨y,ys,rfl,rfl,l⟩:=l;let⟨q1,q2⟩:=zcs r e2 l;erw[AL,shC,pick,yaN,nKw,q1,q2];exact⟨trivial,trivial⟩
def tK(S:Se)(X:Cx)(items:List (Sum Ce Int)):TA:=λσ H Q=>∃B φ st ρ,yt X.K S.cl B φ H st/\yJ X.K S.cl B φ H ρ σ/\Run S X σ B φ H (RL S X B) (evs S.call ρ st (yr items)) λxs H'=>Q (pick (items.map shC) xs) H'
theorem PK.imp{t t':TA}(h:PK X kws t')(k:∀σ H Q,t σ H Q->t' σ H Q):PK X kws t:=λpos π s σ H Q I q=>h pos π s σ H Q I (k σ H Q q)
def znZ:PK X [] (tK S X []):=zp0.imp λσ H Q ⟨B,φ,st,ρ,rs,re,h⟩=>by
 erw[yr,evs]at h;exact h.ok rs (x:=[]) (by erw[ye])
def zpc{i:Int}(h:PK X kws (tK S X items)):PK X kws (tK S X (.inr i::items)):=h.imp λσ H Q ⟨B,φ,st,ρ,rs,re,h⟩=>by
 erw[yr,evs,ev,R.bind]at h;refine⟨B,φ,st,ρ,rs,re,?_⟩
 cases e:evs S.call ρ st (yr items)with
 |ok vs st'=>
  rw[e]at h;intro xs H' φ' s rs' l;exact h (.int i::xs) H' φ' s rs' (by erw[ye,yd];exact⟨_,_,rfl,rfl,l⟩)
 |exc c s=>rw[e]at h;exact h
 |bad=>rw[e]at h;exact h
def zoZ(ha:PE X e (tE S X ca))(h:PK X kws (tK S X items)):PK X (⟨nm,e,kpos⟩ :: kws) (tK S X (.inl ca::items)):=(zlI ha h).imp λσ H Q ⟨B,φ,st,ρ,rs,re,h⟩=>by
 erw[yr,evs]at h;refine tE.bind rs re h λx H1 v st1 φ1 s1 rs1 re1 rv h1=>⟨B,φ1,st1,ρ,rs1,re1,?_⟩;refine(Run.bind (Rel:=RL S X B) h1).mono λxs H2 kq=>?_;let⟨ws,st2,φ2,s2,rs2,l,h2⟩:=kq;exact h2.ok rs2 (x:=x::xs) (by erw[ye];exact⟨x,xs,rfl,rv.step s2,l⟩)
def zjG{fi:Nat}(F:yaI X.prog X.w X.K X.mg X.base (CX1 X.prog X.w) k f fd ps (spI X.K S.cl S.call fi))(hr:yap k X.A)(hg:Gl X x)(hm:X.mg x=AA (.ref f))(hk:Al X.K (.ref f)=AB){np:Nat}(hb:∃g,ybH X.K fd ps ks g (gK np (items.map shC)))(hnp:ycR ces=np)
  (ha:PA X (e::es) (tAs S X ces)) (hkw:PK X kws (tK S X items)) (hall:(backToKw pos (keywordEach kws X.env)).all (·.1.isSome)=true:=by rfl) (hks:(backToKw pos (keywordEach kws X.env)).filterMap (·.1)=ks:=by rfl)
  (hdb:(x==("__debug__":AN))=false:=by decide) (he:starEach (e::es) X.env=(AC,eval e X.env)::starEach es X.env:=by rfl)
  (hpl:((backTo pos (starEach (e::es) X.env)).any (·.1) || (backToKw pos (keywordEach kws X.env)).any (·.1.isNone))=false:=by rfl):
  PE X (.Call (.Name x p) (e::es) kws pos) (tE S X (.call fi (yaj ces (yr items)))):=by
 intro π s σ H Q I ⟨B,φ,st,ρ,rs,re,h⟩;erw[ev]at h;rw[zhC,R.bind_assoc]at h;refine BZ (zdA I hg hm ?_ hdb);have h0:tAs S X ces σ H λvs H1=>tK S X items σ H1 λzs H2=>∃E:XK,spI X.K S.cl S.call fi (gK np (items.map shC) vs zs) H2 Q E/\∀π s e s',Inv X π σ H2 s->CX1 X.prog X.w X.stack H2 s E e s'->X.xe e s':=by
  have hlen:∀vs st',evs S.call ρ st ces=.ok vs st'->vs.length=np:=λvs st' q=>(zii ces q).trans hnp;refine⟨B,φ,st,ρ,rs,re,?_⟩
  cases q:evs S.call ρ st ces with
  |exc c s=>rw[q]at h;exact h
  |bad=>rw[q]at h;exact h
  |ok vs st1=>
  rw[q]at h;intro xs H1 φ1 s1 rs1 rv;have h1:=Run.on s1 h;have re1:=re.step s1;have hv:=hlen vs st1 q;refine⟨B,φ1,st1,ρ,rs1,re1,?_⟩;have h1:Run S X σ B φ1 H1 (RV S X B) (((evs S.call ρ st1 (yr items)).bind λa st=>(R.ok (vs++a) st:R (List PV))).bind λvs st1=>S.call fi vs st1) Q:=h1;rw[R.bind_assoc]at h1
  cases e:evs S.call ρ st1 (yr items)with
  |ok ws st2=>
   rw[e]at h1;intro ys H2 φ2 s2 rs2 l2;let⟨m1,m2⟩:=zcs items e l2;have eg:gK np (items.map shC) xs (pick (items.map shC) ys)=xs++ys:=by
    unfold gK;rw[if_pos ⟨by rw[<-rv.length];exact hv,m2⟩,m1]
   show ∃E:XK,spI X.K S.cl S.call fi (gK np (items.map shC) xs (pick (items.map shC) ys)) H2 Q E/\_;rw[eg];exact zaP rs2 ((rv.step s2).append l2) (Run.on s2 h1)
  |exc c s=>rw[e]at h1;exact h1
  |bad=>rw[e]at h1;exact h1
 refine PySem.W.callWith_KW (h₀:=X.base) I.ok.mod.kin hk hall (thn (ha pos π s σ H _ I h0) λus s1 kq=>?_) hpl he;let⟨vs,H1,I1,r,q⟩:=kq;refine thn (hkw pos π s1 σ H1 _ I1 q) λws s2 kq=>?_;let⟨zs,H2,I2,rz,E,q2,hx⟩:=kq;refine ⟨I2.kIn,?_⟩;rw[hks];let⟨g,hb⟩:=hb;have r2:=hb.rel r rz;have hl:(g us ws).length=ps.length:=by rw[<-r2.length];exact F.len _ _ _ _ q2
 refine G7 (Dn (F.run X.A X.stack s2 H2 ⟨us,ks.zip ws⟩ (g us ws) (gK np (items.map shC) vs zs) Q E hr I2.env0 (hb.to s2 us ws I2.kIn hl) r2 q2) λr s' hq=>?_)
 cases r with
 |error e=>exact hx π s2 e s' I2 hq
 |ok fl=>
  cases fl with
  |ret u=>exact I2.after hq
  |next=>exact Bm hq
  |brk=>exact Bm hq
  |cont=>exact Bm hq
end
def ya3:List (Option Int)->List AG->List AG->List AG
 |[],_,_=>[]
 |some _::r,ws,d::ds=>d::ya3 r ws ds
 |none::r,w::ws,_::ds=>w::ya3 r ws ds
 |_,_,_=>[]
def zdF:∀(sh:List (Option Int)) (ds:List Int) {zs:List V} {ws us:List AG},Vals (ds.map V.int) us->Vals zs ws->sh.length=ds.length->(∀p∈sh.zip ds,∀i,p.1=AA i->i=p.2)->Vals (yaN sh zs) (ya3 sh ws us)
 |[],ds,zs,ws,us,r,q,hl,h=>.nil
 |some i::r,[],zs,ws,us,rr,q,hl,h=>by simp at hl
 |some i::r,d::ds,zs,ws,_,.cons a b,q,hl,h=>by
  have:i=d:=h (AA i,d) (by simp) i rfl;subst this;exact .cons a (zdF r ds b q (by simpa using hl) λp hp=>h p (by simp[hp]))
 |none::r,[],zs,ws,us,rr,q,hl,h=>by simp at hl
 |none::r,d::ds,_,_,_,.cons a b,.nil,hl,h=>.nil
 |none::r,d::ds,_,_,_,.cons a b,.cons c q,hl,h=>.cons c (zdF r ds b q (by simpa using hl) λp hp=>h p (by simp[hp]))
structure FnD(K:AF)(mg:AN->Option AG)(x:AN)(st:Bz)(ps:List AN)(ds:List Int)(f:AI)(fd:Az):Prop where
 ex:∃(oc:AG) (od:Option AI) (dT:AI) (kV doc pm:AG) (an:Option AI) (cdv ct:AG) (osl:Array (Option AG)) (o:CF) (its:Array AG) (n:Nat),
  fd=B4 x x (yab st) (yX st) (yE st) (.ref dT) kV doc pm an cdv ct/\K.lookup f=AA ⟨oc,od,.func fd,osl⟩/\CN K cdv x=AB/\K.lookup dT=AA o/\o.data=.seq its n/\Vals (ds.map V.int) its.toList
 kp:Al K (.ref f)=AB
 m:mg x=AA (.ref f)
theorem kbD{K:AF}{mg:AN->Option AG}{x:AN}{st:Bz}{ps ks:List AN}{ds:List Int}{f:AI}{fd:Az}{np off:Nat}{sh:List (Option Int)}(D:FnD K mg x st ps ds f fd)(hnk:ks.length=nKw sh)(hsh:sh.length=(ds.drop off).length)(hd':((sh.zip (ds.drop off)).all λp=>p.1.all λi=>decide (i=p.2))=AB)
  (h:∀(dT:AI) (kV doc pm:AG) (an:Option AI) (cdv ct:AG) (us ws its:List AG),us.length=np->ws.length=ks.length->its.length=ds.length ->
   ∃k,bindArgs (B4 x x (yab st) (yX st) (yE st) (.ref dT) kV doc pm an cdv ct) ⟨us,ks.zip ws⟩=seqItems? (.ref dT) >>= k/\k (AA its.toArray)=pure (ps.zip (us++ya3 sh ws (its.drop off)))) (hps:0<ps.length):
  ∃g,ybH K fd ps ks g (gK np sh):=by
 have hd:∀p∈sh.zip (ds.drop off),∀i,p.1=AA i->i=p.2:=λp hp i hi=>by
  have:=Bg.mp hd' p hp;rw[hi]at this;simpa using this
 let⟨oc,od,dT,kV,doc,pm,an,cdv,ct,osl,o,its,n,rfl,lk,hcd,lo,hs,r⟩:=D.ex;refine⟨λus ws=>if us.length=np/\ws.length=nKw sh then us++ya3 sh ws (its.toList.drop off)else [],⟨λs us ws KX hl=>?_,λ{vs us zs ws} rv rz=>?_⟩⟩
 .by_cases c:us.length=np/\ws.length=nKw sh
  .rw[if_pos c]at hl ⊢;let⟨k,h1,h2⟩:=h dT kV doc pm an cdv ct us ws its.toList c.1 (by rw[hnk];exact c.2) (by rw[<-r.length,BD]);exact BindsTo.of_defaults rfl (KX _ _ lo) hs h1 (by simpa using h2)
  .rw[if_neg c]at hl;simp at hl;lia
 .unfold gK;have e1:=rv.length;have e2:=rz.length
  by_cases c:us.length=np/\ws.length=nKw sh
  .rw[if_pos c,if_pos ∅];refine rv.append (zdF sh (ds.drop off) ?_ rz hsh hd);rw[List.map_drop];exact r.drop off
  .rw[if_neg c,if_neg ∅];exact .nil
section
variable {P:A3}{w:Ag}{K:AF}{mg:AN->Option AG}{base:BB}{cl:Nat->AI}{T:Nat->Option IC.Fn}{fi:Nat}{fn:IC.Fn}{x:AN}{stm:Bz}{f:AI}{fd:Az}{N ps:List AN}{ds:List Int}{k:Nat}
end
def zez(a b:Key):peq (yaG a) (yaG b)=decide (a=b):=by
 rw[Dh]
 cases a<;>cases b<;>simp[yaG,peq]
def zfV:∀(a b:List Key),ybc (a.map yaG) (b.map yaG)=decide (a=b)
 |[],[]=>by simp[ybc]
 |[],y::ys=>by simp[ybc]
 |x::xs,[]=>by simp[ybc]
 |x::xs,y::ys=>by
  erw[AL,ybc,zez,zfV xs ys];rw[Dh];simp
def zeh(a b:List Key):peq (.tup (a.map yaG)) (.tup (b.map yaG))=decide (a=b):=by
 erw[peq,zfV]
def zh6{k:PV}(h:ybC k=AB):∃q,k=yaG q:=by
 cases k with
 |int i=>exact⟨.inl i,rfl⟩
 |str i=>exact⟨.inr i,rfl⟩
 |_=>cases h
def zia:∀{ks:List PV},ks.all ybC=AB->∃qs:List Key,ks=qs.map yaG
 |[],_=>⟨[],rfl⟩
 |k::ks,h=>by
  rw[Bb,AK]at h;let⟨q,rfl⟩:=zh6 h.1;let⟨qs,rfl⟩:=zia h.2;exact⟨q::qs,rfl⟩
section
variable {S:Se}{X:Cx}{K:AF}{cl:Nat->AI}{σ:St}{B:AI->Prop}{φ:Ph}{H:Hp}{st:SO}{p pos p2 px apos:CT}{a b c d o:AS}{ca cb cc:Ce}
def zor{q:Key}{x:V}:yd K cl B φ H (yaG q) x ↔ x=kV q:=by
 cases q<;>simp[yaG,yd,kV]
def zfp:∀{qs:List Key} {xs:List V},ye K cl B φ H (qs.map yaG) xs->xs=qs.map kV
 |[],xs,l=>by simpa only[Ai,ye] using l
 |q::qs,xs,l=>by
  erw[AL,ye]at l;let⟨y,ys,rfl,r,l⟩:=l;rw[zor.mp r,zfp l];rfl
theorem DK.look{q:Key}:∀{kvs:List (PV×PV)} {ks:List (Key×V)},DK K cl B φ H kvs ks->∀{v:PV} {x:V},yd K cl B φ H v x->yd K cl B φ H ((IC.look (yaG q) kvs).getD v) ((ybE ks q).getD x)
 |[],ks,h,v,x,r=>by cases h;exact r
 |(k,w)::t,ks,h,v,x,r=>by
  let⟨q',y,s,rfl,rfl,rv,l⟩:=h;erw[IC.look,zez]
  by_cases e:q'=q
  .rw[zbT (p:=(q',y)) e];simp[e,rv]
  .rw[zbU (p:=(q',y)) e];erw[decide_eq_true_eq,e,if_false];exact DK.look l r
theorem DT.look{q:List Key}:∀{kvs:List (PV×PV)} {ks:List (List Key×V)},DT K cl B φ H kvs ks->∀{v:PV} {x:V},yd K cl B φ H v x->yd K cl B φ H ((IC.look (.tup (q.map yaG)) kvs).getD v) ((ybE ks q).getD x)
 |[],ks,h,v,x,r=>by cases h;exact r
 |(k,w)::t,ks,h,v,x,r=>by
  let⟨q',y,s,rfl,rfl,rv,l⟩:=h;erw[IC.look,zeh]
  by_cases e:q'=q
  .rw[zbT (p:=(q',y)) e];simp[e,rv]
  .rw[zbU (p:=(q',y)) e];erw[decide_eq_true_eq,e,if_false];exact DT.look l r
theorem DK.any{q:Key}:∀{kvs:List (PV×PV)} {ks:List (Key×V)},DK K cl B φ H kvs ks->(kvs.any λp=>peq p.1 (yaG q))=ks.any λkv=>decide (kv.1=q)
 |[],ks,h=>by cases h;rfl
 |(k,w)::t,ks,h=>by
  let⟨q',y,s,rfl,rfl,rv,l⟩:=h;erw[BL,zez,DK.any l]
theorem DT.any{q:List Key}:∀{kvs:List (PV×PV)} {ks:List (List Key×V)},DT K cl B φ H kvs ks->(kvs.any λp=>peq p.1 (.tup (q.map yaG)))=ks.any λkv=>decide (kv.1=q)
 |[],ks,h=>by cases h;rfl
 |(k,w)::t,ks,h=>by
  let⟨q',y,s,rfl,rfl,rv,l⟩:=h;erw[BL,zeh,DT.any l]
theorem DK.map{q:Key}{v:PV}{x:V}(r:yd K cl B φ H v x):∀{kvs:List (PV×PV)} {ks:List (Key×V)},DK K cl B φ H kvs ks->DK K cl B φ H (kvs.map λp=>if peq p.1 (yaG q)=AB then(p.1,v)else p) (ks.map λkv=>if kv.1=q then(kv.1,x)else kv)
 |[],ks,h=>by cases h;exact rfl
 |(k,w)::t,ks,h=>by
  let⟨q',y,s,rfl,rfl,rv,l⟩:=h;erw[AL,zez,decide_eq_true_eq]
  by_cases e:q'=q
  .simp only[e,if_true];exact⟨q,x,_,rfl,rfl,r,DK.map r l⟩
  .simp only[e,if_false];exact⟨q',y,_,rfl,rfl,rv,DK.map r l⟩
theorem DT.map{q:List Key}{v:PV}{x:V}(r:yd K cl B φ H v x):∀{kvs:List (PV×PV)} {ks:List (List Key×V)},DT K cl B φ H kvs ks->DT K cl B φ H (kvs.map λp=>if peq p.1 (.tup (q.map yaG))=AB then(p.1,v)else p) (ks.map λkv=>if kv.1=q then(kv.1,x)else kv)
 |[],ks,h=>by cases h;exact rfl
 |(k,w)::t,ks,h=>by
  let⟨q',y,s,rfl,rfl,rv,l⟩:=h;erw[AL,zeh,decide_eq_true_eq]
  by_cases e:q'=q
  .simp only[e,if_true];exact⟨q,x,_,rfl,rfl,r,DT.map r l⟩
  .simp only[e,if_false];exact⟨q',y,_,rfl,rfl,rv,DT.map r l⟩
theorem DK.snoc{q:Key}{v:PV}{x:V}(r:yd K cl B φ H v x):∀{kvs:List (PV×PV)} {ks:List (Key×V)},DK K cl B φ H kvs ks->DK K cl B φ H (kvs++[(yaG q,v)]) (ks++[(q,x)])
 |[],ks,h=>by cases h;exact⟨q,x,[],rfl,rfl,r,rfl⟩
 |(k,w)::t,ks,h=>by
  let⟨q',y,s,rfl,rfl,rv,l⟩:=h;exact⟨q',y,_,rfl,rfl,rv,DK.snoc r l⟩
theorem DT.snoc{q:List Key}{v:PV}{x:V}(r:yd K cl B φ H v x):∀{kvs:List (PV×PV)} {ks:List (List Key×V)},DT K cl B φ H kvs ks->DT K cl B φ H (kvs++[(.tup (q.map yaG),v)]) (ks++[(q,x)])
 |[],ks,h=>by cases h;exact⟨q,x,[],rfl,rfl,r,rfl⟩
 |(k,w)::t,ks,h=>by
  let⟨q',y,s,rfl,rfl,rv,l⟩:=h;exact⟨q',y,_,rfl,rfl,rv,DT.snoc r l⟩
theorem DK.put{q:Key}{v:PV}{x:V}{kvs:List (PV×PV)}{ks:List (Key×V)}(l:DK K cl B φ H kvs ks)(r:yd K cl B φ H v x):DK K cl B φ H (IC.put (yaG q) v kvs) (putK ks q x):=by
 unfold IC.put putK;rw[DK.any l];split
 .exact DK.map r l
 .exact DK.snoc r l
theorem DT.put{q:List Key}{v:PV}{x:V}{kvs:List (PV×PV)}{ks:List (List Key×V)}(l:DT K cl B φ H kvs ks)(r:yd K cl B φ H v x):DT K cl B φ H (IC.put (.tup (q.map yaG)) v kvs) (putK ks q x):=by
 unfold IC.put putK;rw[DT.any l];split
 .exact DT.map r l
 .exact DT.snoc r l
theorem DK.len:∀{kvs:List (PV×PV)} {ks:List (Key×V)},DK K cl B φ H kvs ks->kvs.length=ks.length
 |[],ks,h=>by cases h;rfl
 |(k,w)::t,ks,h=>by
  let⟨q',y,s,rfl,rfl,rv,l⟩:=h;simp[DK.len l]
theorem DT.len:∀{kvs:List (PV×PV)} {ks:List (List Key×V)},DT K cl B φ H kvs ks->kvs.length=ks.length
 |[],ks,h=>by cases h;rfl
 |(k,w)::t,ks,h=>by
  let⟨q',y,s,rfl,rfl,rv,l⟩:=h;simp[DT.len l]
theorem yt.dct{n:Nat}{t:Bool}{kvs:List (PV×PV)}{x:V}(rs:yt K cl B φ H st)(r:yd K cl B φ H (.loc n) x)(h:st[n]?=AA (.dct t kvs)):∃y,x=.ref y/\φ[n]?=AA (AA y)/\yb7 K cl B φ H (.dct t kvs) y:=by
 erw[yd]at r;let⟨hn,y,rfl,ha⟩:=r;let⟨z,hz⟩:=rs.liv n _ h (by intro z;cases z);obtain rfl:=ha z hz;let⟨o,ho,ro⟩:=rs.obj n z hz;rw[h]at ho;cases ho;exact⟨z,rfl,hz,ro⟩
def zfg{v:PV}{t:Bool}{kvs:List (PV×PV)}(h:ya7 st v=AA (t,kvs)):∃n,v=.loc n/\st[n]?=AA (.dct t kvs):=by
 cases v with
 |loc n=>
  erw[ya7]at h;split at h
  .rename_i t' xs q
   cases h
   exact⟨n,rfl,q⟩
  .cases h
 |_=>cases h
def zhV{k:PV}(h:isKey AC k=AB):∃q,k=yaG q:=zh6 h
def zib{k:PV}(h:isKey AB k=AB):∃q:List Key,k=.tup (q.map yaG):=by
 cases k with
 |tp b xs=>
  cases b with
  |false=>
   let⟨qs,rfl⟩:=zia h;exact⟨qs,rfl⟩
  |true=>cases h
 |_=>cases h
def zhx{q:List Key}{x:V}(r:yd K cl B φ H (.tup (q.map yaG)) x):∃y,x=.ref y/\H y=AA (.tup (q.map kV)):=by
 erw[yd]at r;let⟨y,xs,rfl,rt,l⟩:=r;rcases rt with⟨rt,_⟩|⟨z,_⟩
 .exact⟨y,rfl,by rw[rt,zfp l]⟩
 .cases z
def ziv:PE X (.Dict [] [] pos) (tE S X (.dict0 AB)):=zp5.imp λσ H Q ⟨B,φ,st,ρ,rs,re,h⟩=>by
 erw[ev]at h;exact λp hp=>h _ _ (φ++[AA p]) (.push hp) (rs.push hp (rs.nB hp) ⟨[],zq,rfl⟩) (.loc_new rs)
def zoW(hu:X.A.units+1<cLine)(ha:PE X a (tE S X ca))(hb:PE X b (tE S X cb))(hc:PE X c (tE S X cc))(m:M2 X a "get" apos b c pos:=by exact⟨rfl,rfl,rfl,rfl⟩):PE X (.Call (.Attribute a "get" apos) [b,c] [] pos) (tE S X (.mth .get ca (.cons cb (.cons cc .nil)))):=
 (zje hu ha hb hc m).imp λσ H Q ⟨B,φ,st,ρ,rs,re,h⟩=>by
  erw[ev]at h;refine tE.bind rs re h λx H1 v st1 φ1 s1 rs1 re1 rv h1=>?_;let⟨_,e1,h1⟩:=ziO h1;erw[yaL]at e1
  cases q:ya7 st1 v with
  |none=>rw[q]at e1;cases e1
  |some tk=>
   let⟨t,kvs⟩:=tk;let⟨n,rfl,hn⟩:=zfg q;let⟨y,rfl,hy,ro⟩:=rs1.dct rv hn;refine⟨y,rfl,?_,?_⟩
   .cases t with
    |false=>let⟨ks,hk,_⟩:=ro;exact .inl ⟨ks,.inl hk⟩
    |true=>let⟨ks,hk,_⟩:=ro;exact .inr ⟨ks,.inl hk⟩
   .simp only[evs,R.bind_assoc]at h1;refine tE.bind rs1 re1 h1 λkx H2 kv st2 φ2 s2 rs2 re2 rk h2=>tE.bind rs2 re2 h2 λdx H3 dv st3 φ3 s3 rs3 re3 rd h3=>?_;erw[R.bind]at h3;unfold yb5 at h3;erw[ydI]at h3
    cases q3:ya7 st3 (.loc n)with
    |none=>rw[q3]at h3;exact h3.elim
    |some tk3=>
     let⟨t3,kvs3⟩:=tk3;rw[q3]at h3;dsimp only at h3;split at h3
     .rename_i hk;let⟨n',e',hn3⟩:=zfg q3
      cases e'
      let⟨y3,ey,hy3,ro3⟩:=rs3.dct ((rv.step s2).step s3) hn3
      cases ey
      have rk3:=rk.step s3
      cases t3 with
      |false=>
       let⟨q,rfl⟩:=zhV hk;let⟨ks,hks,l⟩:=ro3;refine⟨ybE ks q,.inl ⟨ks,q,.inl hks,zor.mp rk3,rfl⟩,h3.ok rs3 (DK.look l rd)⟩
      |true=>
       let⟨q,rfl⟩:=zib hk;let⟨ks,hks,l⟩:=ro3;let⟨b',rfl,hb'⟩:=zhx rk3;exact⟨ybE ks q,.inr ⟨ks,q,b',.inl hks,rfl,hb',rfl⟩,h3.ok rs3 (DT.look l rd)⟩
     .exact h3.elim
def ziA{st4:SO}{x y v:PV}(h:yba st x y v=AA st4):∃n t kvs,x=.loc n/\st[n]?=AA (.dct t kvs)/\isKey t y=AB/\kvs.length<1000000/\st4=st.set n (.dct t (IC.put y v kvs)):=by
 cases x with
 |loc n=>
  erw[yba]at h;split at h
  .rename_i t kvs q;split at h
   .rename_i c;exact⟨n,t,kvs,rfl,q,c.1,c.2,(AW h).symm⟩
   .cases h
  .cases h
 |_=>cases h
def zl1(hu:X.A.units+1<cLine)(ho:PE X b (tE S X cb))(hi:PE X c (tE S X cc))(hv:PE X a (tE S X ca))(hs:swapsWith a (AA (.Subscript b c px)) pos.line X.env=pure false:=by rfl):PS X (.Assign [.Subscript b c px] a pos) (tS S X (.dput cb cc ca)):=
 (zlq hu ho hi hv hs).imp λD σ H ⟨B,φ,st,ρ,rs,re,h⟩=>by
  erw[ex]at h;refine tE.fl rs re h λv' H1 v st1 φ1 s1 rs1 re1 rv h1=>tE.fl rs1 re1 h1 λx' H2 x st2 φ2 s2 rs2 re2 rx h2=>tE.fl rs2 re2 h2 λy' H3 y st3 φ3 s3 rs3 re3 ry h3=>?_
  cases e:yba st3 x y v with
  |none=>rw[e]at h3;exact h3.elim
  |some st4=>
   rw[e]at h3;let⟨n,t,kvs,rfl,hn,hk,hl,rfl⟩:=ziA e;let⟨l,rfl,hp,ro⟩:=rs3.dct (rx.step s3) hn;have rv3:=(rv.step s2).step s3;have hm:=zpH
   cases t with
   |false=>
    let⟨q,rfl⟩:=zhV hk;let⟨ks,hks,ld⟩:=ro;have s4:Step φ3 H3 φ3 (L2.upd H3 l (.dK (putK ks q v'))):=.put (A1 hp);refine⟨l,_,rfl,.inl ⟨ks,q,hks,zor.mp ry,by have:=ld.len;lia,rfl⟩,h3 σ _ φ3 s4 (rs3.put hp ⟨_,zq,(ld.put rv3).step s4⟩) (re3.step s4)⟩
   |true=>
    let⟨q,rfl⟩:=zib hk;let⟨ks,hks,ld⟩:=ro;let⟨b',rfl,hb'⟩:=zhx ry;have s4:Step φ3 H3 φ3 (L2.upd H3 l (.dT (putK ks q v'))):=.put (A1 hp);refine⟨l,_,rfl,.inr ⟨ks,q,b',hks,rfl,hb',by have:=ld.len;lia,rfl⟩,h3 σ _ φ3 s4 (rs3.put hp ⟨_,zq,(ld.put rv3).step s4⟩) (re3.step s4)⟩
end
section
variable {S:Se}{X:Cx}{σ:St}{B:AI->Prop}{φ:Ph}{H:Hp}{p pos p3 p4:CT}{a b tg:AS}{ca cb:Ce}
end
end L2
namespace WK
open PySem L2 IC
section
variable {K:AF}{cl:Nat->AI}{B:AI->Prop}{φ:Ph}{H:Hp}
def zkY:ye K cl B φ H [] []:=by erw[ye]
def zhk{v:PV}{x:V}{vs:List PV}{xs:List V}(h:yd K cl B φ H v x)(l:ye K cl B φ H vs xs):ye K cl B φ H (v::vs) (x::xs):=by
 erw[ye];exact⟨x,xs,rfl,h,l⟩
end
def znA{P:A3}{w:Ag}{outer:List BX}{H:Hp}{s:AJ}{e:AG}{s':AJ}(h:CX1 P w outer H s (λ_ _ _=>False) e s'):False:=by
 let⟨_,_,_,_,_,_,_,_,_,_,_,_,_,_,z⟩:=h;exact z
def zid{K:AF}{cl:Nat->AI}{B:AI->Prop}{φ:Ph}{H:Hp}:∀ns:List Int,ye K cl B φ H (ns.map .int) (ns.map V.int)
 |[]=>zkY
 |n::ns=>zhk (by erw[yd]) (zid ns)
def spX(K:AF)(call:Nat->List PV->SO->R PV)(fi:Nat):Sp:=λvs H Q E=>∀cl,spI K cl call fi vs H Q E
def ziV{K:AF}{call:Nat->List PV->SO->R PV}{fi:Nat}{H:Hp}{a:AI}{ns:List Int}(ht:∀ns:List Int,ns.length<=63->call fi [.scr (ns.map .int)] []=.ok (.bl AB) [])(hl:ns.length<=63)(hS:SqL K H a (ns.map V.int)):
  spX K call fi [.ref a] H (λv _=>v=.bl AB) λ_ _ _=>False:=by
 intro cl;refine⟨λ_=>False,[],[],[.scr (ns.map .int)],⟨rfl,λm n a e=>by simp at e,λn a e=>by simp at e,λn o e=>by simp at e,λa z=>by simp at z,λa z=>z.elim⟩,zhk ?_ zkY,?_⟩
 .simp only[yd];refine⟨a,_,rfl,?_,zid ns⟩;rcases hS with hS|hS
  .exact .inl ⟨hS,λz=>z,by simp⟩
  .exact .inr hS
 .rw[ht ns hl];intro x H' φ' _ _ r;simpa only[yd] using r
end WK
namespace L2
open PySem PySem.Spec PyProof.Rows IC
def zhs{l:List AN}(h:l.Nodup){i j:Nat}(hi:i<l.length)(hj:j<l.length)(e:l[i]=l[j]):i=j:=by
 rcases Nat.lt_trichotomy i j with q|q|q
 .exact absurd e (EI.mp h i j hi hj q)
 .exact q
 .exact absurd e.symm (EI.mp h j i hj hi q)
section
variable {X:Cx}{π:List (AI×CF)}{σ:St}{H:Hp}{s:AJ}
theorem Inv.drop{h':BB}{m:AN->Option AG}{v:Option AG}{i:Nat}{n:AN}(I:Inv X π σ H s)(hN:X.N.Nodup)(hi:X.N[i]?=AA n)(hm:s.heap.Ns X.env.locals m)(look:∀(i:Nat) (x:AN) (v:V),X.N[i]?=AA x->σ[i]?=AA (AA v)->Vis X.env.scope x->∃u,RelV v u/\Look X.env s.heap m x u)(hs:C9 X.env.locals s.heap h')(hn:h'.Ns X.env.locals (λx=>if x=n then v else m x)):Inv X π (σ.set i AD) H {s with heap:=h'}:=by
 have k:∀b u,b≠X.env.locals->s.heap.get? b=AA u->h'.get? b=AA u:=λb u hb q=>(hs.2 b hb).trans q;have nl:∀b o,X.s₀.heap.get? b=AA o->b≠X.env.locals:=λb o e=>Ah (A2 (AV e) I.ok.above);refine⟨I.ok,I.os,I.bare,⟨λb o q n hb hx=>k b o (nl b o q) (I.base.keep b o q n hb hx),λb o q n hb hx=>?_,I.base.free,λb o q hx=>?_,I.base.tups,I.base.frzs,I.base.tbls⟩,⟨_,hn,λj x v e1 e2 hv=>?_⟩,λx c e=>?_,I.free,I.freeC,λp hp=>?_,λb u e=>?_,?_⟩
 .let⟨sl,q1⟩:=I.base.slot b o q n hb hx;exact⟨sl,k b _ (nl b o q) q1⟩
 .let⟨o',q1⟩:=I.base.there b o q hx;exact⟨o',k b o' (nl b o q) q1⟩
 .have hj:j≠i:=λz=>by
   subst z;rw[Ch]at e2;erw[if_true]at e2;split at e2<;>cases e2
  rw[AM (BE hj)]at e2;have hx:x≠n:=λz=>by
   subst z;let⟨l1,g1⟩:=BI.mp e1;let⟨l2,g2⟩:=BI.mp hi;exact hj (zhs hN l1 l2 (g1.trans g2.symm))
  let⟨u,r,lk⟩:=look j x v e1 e2 hv;refine⟨u,r,?_⟩;rcases lk with⟨q1,q2⟩|⟨q1,c,q2,o,q3,q4⟩
  .exact .inl ⟨q1,by dsimp only;rw[if_neg hx];exact q2⟩
  .exact .inr ⟨q1,c,q2,o,k c o (I.cne x c q2) q3,q4⟩
 .let⟨v,o,ho,hd⟩:=I.cell x c e;exact⟨v,o,k c o (I.cne x c e) ho,hd⟩
 .let⟨q1,q2,q3,q4⟩:=I.pin p hp;exact⟨k _ _ q3 q1,q2,q3,q4⟩
 .refine(I.hok b u e).stay (λc v hc q=>k c v (λz=>?_) q) (λ_ q=>q) λ_ _ q=>q;have fr:=I.free;subst z;rcases hc with z|z
  .rw[z,e]at fr
   cases fr
  .rw[z]at fr
   cases fr
 .rw[B3];exact I.len
end
section
variable {X:Cx}{body suite:List Bz}{b₀:Bz}{x n:AN}{np hpos pos:CT}{W:AI}{i:Nat}
end
section
variable {S:Se}{X:Cx}{σ:St}{B:AI->Prop}{φ φ1:Ph}{H H1:Hp}{st:SO}{ρ:IC.Env}{D:Ends}{body suite:List Bz}{b₀:Bz}{x n:AN}{p p2 np hpos pos cpos:CT}{W:AI}{i:Nat}{cb ch:Css}{a e:AS}{es:List AS}{ca ce:Ce}{ces:Ces}
theorem yJ.drop{K:AF}{cl:Nat->AI}(r:yJ K cl B φ H ρ σ)(i:Nat):yJ K cl B φ H (ρ.set i AD) (σ.set i AD):=by
 refine⟨by rw[B3,B3];exact r.len,λj w e=>?_⟩
 by_cases h:j=i
 .subst h;rw[Ch]at e;erw[if_true]at e;split at e<;>cases e
 .rw[AM (BE h)]at e ⊢;exact r.get j w e
abbrev Se.quiet(S:Se):Se:={S with may:=AC}
theorem all_nil{P:Nat->Prop}:∀c∈([]:List Nat),P c:=λ_ h=>by cases h
theorem all_cons{P:Nat->Prop}{c:Nat}{cs:List Nat}(h:P c)(t:∀d∈cs,P d):∀d∈c::cs,P d:=λd hd=>by
 rcases AR.mp hd with e|e
 .exact e ▸ h
 .exact t d e
structure yc0(K:AF)(mg:AN->Option AG)(C:AI)(x:AN):Prop where
 m:mg x=AA (.ref C)
 q:FX K C [.type "ValueError",.type "Exception",.type "BaseException",.type "object"] "ValueError.__new__"=AB
end
section
variable {S:Se}{X:Cx}{p pos p2 px apos:CT}{a b:AS}{ca cb:Ce}
def GCI(mg:AN->Option AG)(x:AN)(i:Int):Prop:=∃t,mg x=AA (.int i t)
def zmT{x:AN}{i:Int}(hg:Gl X x)(h:GCI X.mg x i)(hd:(x==("__debug__":AN))=false:=by decide):PE X (.Name x pos) (tE S X (.cst (.int i))):=by
 let⟨t,hm⟩:=h;exact(zdC hg hm (show RelV (.int i) (.int i t)from ⟨t,rfl⟩) hd).imp λσ H Q ⟨B,φ,st,ρ,rs,re,h⟩=>by
  erw[ev]at h;exact h.ok rs (by erw[yd])
end
end L2
namespace WE
open PySem PySem.Spec PyProof.Rows
section
variable {prog:A3}{w:Ag}{A:Ar}{E:AG->AJ->Prop}{s:AJ}
def ydk(h:BB)(a t:AI)(i:Int):Prop:=∃o,h.get? a=AA o/\o.cls=.type "reversed"/\o.data=.fields #[.ref t,rawInt i]
theorem ydk.typeIs{a t:AI}{i:Int}(x:ydk s.heap a t i):s.TypeIs (.ref a) "reversed":=let ⟨o,ho,hc,_⟩:=x;⟨o,ho,hc⟩
end
end WE
namespace L2
open PySem PySem.Spec PyProof.Rows
end L2
namespace L2
open PySem PySem.Spec PyProof.Rows IC
open Classical in
section
variable {S:Se}{X:Cx}{σ:St}{B:AI->Prop}{φ φ1:Ph}{H H1:Hp}{st:SO}{ρ:IC.Env}{p pos p2 px py pt pt2:CT}{a b c d o a' b' c' d':AS}{ca cb cc cd ce cf:Ce}{π:List (AI×CF)}{s:AJ}{kt k2:Nat}{es:List AS}{ces:Ces}{x:AN}
end
end L2
namespace IC
open PySem
end IC
namespace L2
open PySem PySem.Spec PyProof.Rows IC
section
variable {S:Se}{X:Cx}{σ:St}{B:AI->Prop}{φ:Ph}{H:Hp}{p p2 pos pos2 apos:CT}{a b tg:AS}{ca cb:Ce}
def zec:∀bs:List Bool,((C8 bs.length).any λi=>(bs[i]?).getD AB)=bs.any id
 |[]=>rfl
 |b::bs=>by
  rw[AX,Ek,BL,Gz,BL,<-zec bs];rfl
def zkc(hc:X.calm=AB):yae X (.builtin "any") (λxs H Q=>∃(l:AI) (bs:List Bool),xs=[.ref l]/\SqL X.K H l (bs.map V.bl)/\Q (.bl (bs.any id)) H):=by
 intro π s σ H xs us Q I r h;let⟨l,bs,rfl,hq,q⟩:=h;let⟨u,rfl,ru⟩:=Vals.one r
 cases (show u=Ad l from ru)
 let⟨its,rv,pl,hz⟩:=I.list hq;have hb:=zeu rv;have hl:=pl.isList;have hlt:l<s.heap.objs.size:=by
  let⟨_,e,_⟩:=hl;exact AV e
 refine call_any_walk (EM hl ?_);refine⟨s.heap.objs.size,[s.heap.objs.size,l],[s.heap.objs.size],its.toArray.size,_,_,λi=>(bs[i]?).getD AB,rfl,HP (A:=X.A.in1) (I.ok.hd hc) _ l (Ah hlt) its.toArray,⟨⟨_,AZ _ rfl,rfl,rfl⟩,hl.push _⟩,λi v s' Q' E' hP hQ=>?_,λh' tk hk=>?_⟩
 .let⟨b,e,rfl⟩:=hb.get i v (by simpa using hP);erw[e,B6]at hQ;exact BW hQ
 .have e:((C8 its.toArray.size).any λi=>(bs[i]?).getD AB)=bs.any id:=by
   rw[AY,hb.length];exact zec bs
  rw[e];exact⟨.bl _,H,I.kept (t':=tk) (FV hk),rfl,q⟩
def zkr:∀{vs:List PV} {m:Bool},IC.anyB vs=AA m->∃ns:List Bool,vs=ns.map .bl/\m=ns.any id
 |[],m,h=>by cases h;exact⟨[],rfl,rfl⟩
 |.bl i::r,m,h=>by
  erw[IC.anyB]at h;split at h
  .rename_i c e
   cases h
   let⟨ns,e1,e2⟩:=zkr e;exact⟨i::ns,by rw[e1];rfl,by rw[e2];rfl⟩
  .cases h
 |.non::r,m,h=>by cases h
 |.int _::r,m,h=>by cases h
 |.str _::r,m,h=>by cases h
 |.tp _ _::r,m,h=>by cases h
 |.lst _::r,m,h=>by cases h
 |.loc _::r,m,h=>by cases h
 |.fnc _::r,m,h=>by cases h
 |.exn _::r,m,h=>by cases h
 |.scr _::r,m,h=>by cases h
def znU:bootBuiltins "any"=AA (.builtin "any"):=by decide +kernel
def zgu:∀{ns:List Int} {us:List AG},Vals (ns.map V.int) us->us.length=ns.length/\∀(i:Nat) (v:AG),us[i]?=AA v->∃n t,ns[i]?=AA n/\v=.int n t
 |[],_,.nil=>⟨rfl,λi v h=>by simp at h⟩
 |n::ns,_,.cons r q=>by
  let⟨h1,h2⟩:=zgu q;let⟨t,rfl⟩:=r;refine⟨by simp[h1],λi v h=>?_⟩
  cases i with
  |zero=>simp at h;exact⟨n,t,rfl,h.symm⟩
  |succ i=>simp at h;simpa using h2 i v h
def zeb:∀ns:List Int,((C8 ns.length).any λi=>((ns[i]?).getD 1) != 0)=ns.any (· != 0)
 |[]=>rfl
 |b::bs=>by
  rw[AX,Ek,BL,Gz,BL,<-zeb bs];rfl
def zhH(hc:X.calm=AB):yae X (.builtin "any") (λxs H Q=>∃(l:AI) (ns:List Int),xs=[.ref l]/\SqT X.K H l (ns.map V.int)/\Q (.bl (ns.any (· != 0))) H):=by
 intro π s σ H xs us Q I r h;let⟨l,ns,rfl,hq,q⟩:=h;let⟨u,rfl,ru⟩:=Vals.one r
 cases (show u=Ad l from ru)
 let⟨its,rv,p,hz⟩:=I.tuple hq;let⟨hn,hb⟩:=zgu rv;have hl:s.heap.IsTuple l its.toArray:=p;have hlt:l<s.heap.objs.size:=by
  let⟨_,e,_⟩:=hl;exact AV e
 refine call_any_walk (Bs hl ?_);refine⟨s.heap.objs.size,[s.heap.objs.size,l],[s.heap.objs.size],its.toArray.size,_,_,λi=>((ns[i]?).getD 1) != 0,rfl,Walks.tuple (A:=X.A.in1) (I.ok.hd hc) _ l (Ah hlt) its.toArray,⟨⟨_,AZ _ rfl,rfl,rfl⟩,hl.push _⟩,λi v s' Q' E' hP hQ=>?_,λh' tk hk=>?_⟩
 .let⟨b,t,e,rfl⟩:=hb i v (by simpa using hP);erw[e,B6]at hQ;exact truthy_int hQ
 .have e:((C8 its.toArray.size).any λi=>((ns[i]?).getD 1) != 0)=ns.any (· != 0):=by
   rw[AY,hn];exact zeb ns
  rw[e];exact⟨.bl _,H,I.kept (t':=tk) (FV hk),rfl,q⟩
def zhh:∀{vs:List PV} {m:Bool},IC.anyI vs=AA m->∃ns:List Int,vs=ns.map .int/\m=ns.any (· != 0)
 |[],m,h=>by cases h;exact⟨[],rfl,rfl⟩
 |.int i::r,m,h=>by
  erw[IC.anyI]at h;split at h
  .rename_i c e
   cases h
   let⟨ns,e1,e2⟩:=zhh e;exact⟨i::ns,by rw[e1];rfl,by rw[e2];rfl⟩
  .cases h
 |.non::r,m,h=>by cases h
 |.bl _::r,m,h=>by cases h
 |.str _::r,m,h=>by cases h
 |.tp _ _::r,m,h=>by cases h
 |.lst _::r,m,h=>by cases h
 |.loc _::r,m,h=>by cases h
 |.fnc _::r,m,h=>by cases h
 |.exn _::r,m,h=>by cases h
 |.scr _::r,m,h=>by cases h
def zlC(st:SO)(v:PV):(∃k xs,v=.tp k xs) \/ yar .any st [v]=(yZ st v).bind λxs=>(anyB xs).map .bl:=by
 cases v<;>first|exact .inl ⟨_,_,rfl⟩|exact .inr rfl
def zoa(hc:X.calm=AB):yae X (.builtin "any") (rB S X .any):=by
 rintro π s σ H xs us Q I r ⟨B,φ,st,vs,z,rs,l,e,q⟩
 let⟨v,rfl⟩:=zco e λ_ _=>rfl;let⟨x,rfl,rv⟩:=l.one;rcases zlC st v with⟨k,ws,rfl⟩|ev
 .have e:(IC.anyI ws).map PV.bl=AA z:=e
  cases e2:IC.anyI ws with
  |none=>rw[e2]at e;cases e
  |some m=>
   rw[e2]at e
   cases e
   let⟨ns,rfl,rfl⟩:=zhh e2;erw[yd]at rv;let⟨a,ys,rfl,h,l⟩:=rv;have h:=h.sq;rw[l.ints]at h;exact zhH hc π s σ H _ us Q I r ⟨a,ns,rfl,h,q _ H φ .rfl rs (by erw[yd])⟩
 .rw[ev]at e
  cases e1:yZ st v with
  |none=>rw[e1]at e;cases e
  |some ws=>
   rw[e1]at e;erw[B7]at e
   cases e2:IC.anyB ws with
   |none=>rw[e2]at e;cases e
   |some m=>
    rw[e2]at e
    cases e
    let⟨ns,rfl,rfl⟩:=zkr e2;let⟨a,ys,rfl,h,l⟩:=zc7 rs rv e1;rw[l.bls]at h;exact zkc hc π s σ H _ us Q I r ⟨a,ns,rfl,h,q _ H φ .rfl rs (by erw[yd])⟩
end
end L2
namespace WE
open PySem PySem.Spec PyProof.Rows
section
variable {pg:A3}{wd:Ag}{A:Ar}{Er:AG->AJ->Prop}{s:AJ}
theorem tit_keep{h h':BB}{i t:AI}{j:Nat}(u:h.IsTupleIter i t j)(k:∀o,h.get? i=AA o->h'.get? i=AA o):h'.IsTupleIter i t j:=let ⟨o,g,r⟩:=u;⟨o,k o g,r⟩
def zcV{h h':BB}{t:AI}{xs:Array AG}(u:h.IsTuple t xs)(k:∀o,h.get? t=AA o->h'.get? t=AA o):h'.IsTuple t xs:=let ⟨o,g,r⟩:=u;⟨o,k o g,r⟩
def Kz(z TO i1 i2:AI)(h h':BB):Prop:=∀c o,c≠z->c≠TO->c≠i1->c≠i2->h.get? c=AA o->h'.get? c=AA o
def zhf{z TI TO i1 i2 l1 l2:AI}{j:Nat}{xs ys:Array AG}{x y a b:AG}{Q:AG->AJ->Prop}(D:Fm z TI TO i1 i2 l1 l2)
  (gz:EO s.heap z TI TO .none) (gI:CZ s.heap TI (.ref i1) (.ref i2)) (gO:CZ s.heap TO a b) (u1:s.heap.IsTupleIter i1 l1 j) (u2:s.heap.IsTupleIter i2 l2 j) (t1:s.heap.IsTuple l1 xs) (t2:s.heap.IsTuple l2 ys) (ex:xs[j]?=AA x) (ey:ys[j]?=AA y)
  (k:∀h',EO h' z TI TO (rawInt s.heap.objs.size)->CZ h' TO x y->h'.IsTupleIter i1 l1 (j+1)->h'.IsTupleIter i2 l2 (j+1)->CZ h' s.heap.objs.size x y->h'.objs.size=s.heap.objs.size+1->Kz z TO i1 i2 s.heap h'->Q (.ref s.heap.objs.size) {s with heap:=h'}):
  A0 (model pg wd) A (Gu.«zip.__next__» ⟨[.ref z],[]⟩) (λf s'=>∃v,f=.done (.ret v)/\Q v s') Er s:=by
 show A0 _ _ (field (.ref z) 2 >>= _) _ _ _;refine AH (BT gz rfl (x:=.bool AC) rfl ?_);show A0 _ _ (field (.ref z) 3 >>= _) _ _ _;refine AH (BT gz rfl (x:=.ref TI) rfl ?_);refine AH (C5 gI rfl ?_);show A0 _ _ (Bc (.ref z) >>= _) _ _ _;refine AH ?_;unfold Bc;refine AH (BT gz rfl (x:=.none) rfl (AU ?_));erw[if_true];refine AH (Ea ?_);refine AH (BT gz rfl (x:=.ref TO) rfl ?_);refine AH (Cb gz (by simp) λha za sa=>?_)
 replace za:EO ha z TI TO .ellipsis:=za
 refine AH ?_;erw[GJ,GY,Ep,Gd];refine AH (AH (FY ?_));show A0 _ _ (BQ (.ref i1) >>= _) _ _ _;refine AH (zcp (tit_keep u1 λo e=>sa.extBut _ _ D.i1z e) (zcV t1 λo e=>sa.extBut _ _ D.l1z e) ex λhb ub sb=>AU ?_);have ob:CZ hb TO a b:=sb.extBut _ _ D.TOi1 (sa.extBut _ _ D.TOz gO);refine AH (C5 ob rfl ?_);refine AH (FC ob λhc oc sc=>?_)
 replace oc:CZ hc TO x b:=oc
 refine AH (wpAny_letGo (AU ?_));refine AH (AH (FY ?_));show A0 _ _ (BQ (.ref i2) >>= _) _ _ _;refine AH (zcp (tit_keep u2 λo e=>sc.extBut _ _ D.TOi2.symm (sb.extBut _ _ D.i12.symm (sa.extBut _ _ D.i2z e))) (zcV t2 λo e=>sc.extBut _ _ D.l2TO (sb.extBut _ _ D.l2i1 (sa.extBut _ _ D.l2z e))) ey λhd ud sd=>AU ?_);have od:CZ hd TO x b:=sd.extBut _ _ D.TOi2 oc;refine AH (C5 od rfl ?_);refine AH (FC od λhe oe se=>?_)
 replace oe:CZ he TO x y:=oe
 refine AH (wpAny_letGo (AU (AU ?_)));refine AH (C5 oe rfl ?_);refine AH (wpAny_newTuple ?_);have sz:he.objs.size=s.heap.objs.size:=by rw[se.1,sd.1,sc.1,sb.1,sa.1]
 have ze:EO he z TI TO .ellipsis:=se.extBut _ _ D.TOz.symm (sd.extBut _ _ D.i2z.symm (sc.extBut _ _ D.TOz.symm (sb.extBut _ _ D.i1z.symm za)));have ke:Kz z TO i1 i2 s.heap he:=λc o p1 p2 p3 p4 e=>se.extBut _ _ p2 (sd.extBut _ _ p4 (sc.extBut _ _ p2 (sb.extBut _ _ p3 (sa.extBut _ _ p1 e))));have v1:he.IsTupleIter i1 l1 (j+1):=tit_keep ub λo e=>se.extBut _ _ D.TOi1.symm (sd.extBut _ _ D.i12 (sc.extBut _ _ D.TOi1.symm e));have v2:he.IsTupleIter i2 l2 (j+1):=tit_keep ud λo e=>se.extBut _ _ D.TOi2.symm e;have lz:z<he.objs.size:=AV ze;show A0 _ _ (Cq (.ref z) (.ref he.objs.size) >>= _) _ _ _;refine AH ?_;unfold Cq;have zf:EO (he.push {cls:=.type "tuple",data:=.seq #[x,y]}) z TI TO .ellipsis:=AO _ ze;refine AH (Cb zf (by simp) λhg zg sg=>?_)
 replace zg:EO hg z TI TO (rawInt he.objs.size):=zg
 refine Cb zg (by simp) λhi zi si=>?_
 replace zi:EO hi z TI TO (rawInt he.objs.size):=zi
 have up:∀c o,c≠z->he.get? c=AA o->hi.get? c=AA o:=λc o p e=>si.extBut _ _ p (sg.extBut _ _ p (AO _ e));have pn:CZ hi he.objs.size x y:=si.extBut _ _ (Eb lz) (sg.extBut _ _ (Eb lz) (AZ _ rfl));have si8:hi.objs.size=he.objs.size+1:=by rw[si.1,sg.1,Bv]
 rw[sz]at zi pn si8;refine AU ⟨_,rfl,?_⟩;show Q (.ref he.objs.size) _;rw[sz];exact k hi zi (up _ _ D.TOz oe) (tit_keep v1 λo e=>up _ o D.i1z e) (tit_keep v2 λo e=>up _ o D.i2z e) pn si8 λc o p1 p2 p3 p4 e=>up c o p1 (ke c o p1 p2 p3 p4 e)
def zji{z TI TO i1 i2 l1 l2:AI}{j:Nat}{xs:Array AG}{a b:AG}{Q:Fin->AJ->Prop}(hh:A.handled=AD)(D:Fm z TI TO i1 i2 l1 l2)
  (gz:EO s.heap z TI TO .none) (gI:CZ s.heap TI (.ref i1) (.ref i2)) (gO:CZ s.heap TO a b) (u1:s.heap.IsTupleIter i1 l1 j) (t1:s.heap.IsTuple l1 xs) (ex:xs[j]?=AD)
  (k:∀h' e,Kz z TO i1 i2 s.heap h'->(∃o,h'.get? e=AA o/\o.cls=.type "StopIteration")->Er (.ref e) {s with heap:=h'}):
  A0 (model pg wd) A (Gu.«zip.__next__» ⟨[.ref z],[]⟩) Q Er s:=by
 show A0 _ _ (field (.ref z) 2 >>= _) _ _ _;refine AH (BT gz rfl (x:=.bool AC) rfl ?_);show A0 _ _ (field (.ref z) 3 >>= _) _ _ _;refine AH (BT gz rfl (x:=.ref TI) rfl ?_);refine AH (C5 gI rfl ?_);show A0 _ _ (Bc (.ref z) >>= _) _ _ _;refine AH ?_;unfold Bc;refine AH (BT gz rfl (x:=.none) rfl (AU ?_));erw[if_true];refine AH (Ea ?_);refine AH (BT gz rfl (x:=.ref TO) rfl ?_);refine AH (Cb gz (by simp) λha za sa=>?_)
 replace za:EO ha z TI TO .ellipsis:=za
 refine AH ?_;erw[GJ,GY,Ep,Gd];refine AH (AH (FY ?_));show A0 _ _ (BQ (.ref i1) >>= _) _ _ _;refine AH (zeM hh (tit_keep u1 λo e=>sa.extBut _ _ D.i1z e) (zcV t1 λo e=>sa.extBut _ _ D.l1z e) ex λhb e sb he=>?_);let⟨oe,ge,ce⟩:=he;have zb:EO hb z TI TO .ellipsis:=sb _ _ D.i1z.symm za;have ne:e≠z:=λq=>by subst q;rw[zb]at ge;cases ge;simp at ce
 exact Cb zb (by simp) λhc _ sc=>k hc e (λc o p1 _ p3 _ q=>sc.extBut _ _ p1 (sb _ _ p3 (sa.extBut _ _ p1 q))) ⟨oe,sc.extBut _ _ ne ge,ce⟩
theorem pyNext_zipT{z TI TO i1 i2 l1 l2:AI}{j:Nat}{xs ys:Array AG}{x y a b:AG}{Q:Option AG->AJ->Prop}(D:Fm z TI TO i1 i2 l1 l2)
  (gz:EO s.heap z TI TO .none) (gI:CZ s.heap TI (.ref i1) (.ref i2)) (gO:CZ s.heap TO a b) (u1:s.heap.IsTupleIter i1 l1 j) (u2:s.heap.IsTupleIter i2 l2 j) (t1:s.heap.IsTuple l1 xs) (t2:s.heap.IsTuple l2 ys) (ex:xs[j]?=AA x) (ey:ys[j]?=AA y)
  (k:∀h',EO h' z TI TO (rawInt s.heap.objs.size)->CZ h' TO x y->h'.IsTupleIter i1 l1 (j+1)->h'.IsTupleIter i2 l2 (j+1)->CZ h' s.heap.objs.size x y->h'.objs.size=s.heap.objs.size+1->Kz z TO i1 i2 s.heap h'->Q (AA (.ref s.heap.objs.size)) {s with heap:=h'}):
  A0 (model pg wd) A (pyNext (.ref z)) Q Er s:=by
 have ty:s.TypeIs (.ref z) "zip":=⟨_,gz,rfl⟩;unfold pyNext;exact AH (wpAny_attempt (Bf (name:=AE "__next__") ty Dj (C4 Dj ty GL (zhf D gz gI gO u1 u2 t1 t2 ex ey λh' a1 a2 a3 a4 a5 a6 a7=>AU (k h' a1 a2 a3 a4 a5 a6 a7)) (Fp _))))
theorem pyNext_zipE{z TI TO i1 i2 l1 l2:AI}{j:Nat}{xs:Array AG}{a b:AG}{Q:Option AG->AJ->Prop}(hh:A.handled=AD)(D:Fm z TI TO i1 i2 l1 l2)
  (gz:EO s.heap z TI TO .none) (gI:CZ s.heap TI (.ref i1) (.ref i2)) (gO:CZ s.heap TO a b) (u1:s.heap.IsTupleIter i1 l1 j) (t1:s.heap.IsTuple l1 xs) (ex:xs[j]?=AD)
  (k:∀h',Kz z TO i1 i2 s.heap h'->Q AD {s with heap:=h'}):A0 (model pg wd) A (pyNext (.ref z)) Q Er s:=by
 have ty:s.TypeIs (.ref z) "zip":=⟨_,gz,rfl⟩;unfold pyNext;refine AH (wpAny_attempt (Bf (name:=AE "__next__") ty Dj (C4 Dj ty GL (zji hh D gz gI gO u1 t1 ex λh' e kk he=>?_) (Fp _))));let⟨o,ho,hc⟩:=he;exact AH (wpAny_isInstance (T:="StopIteration") (b:=AB) ⟨o,ho,hc⟩ isSubtype_stop (AU (k _ kk)))
end
abbrev ti(l:AI):Obj:={cls:=.type "tuple_iterator",data:=.fields #[.ref l,.int 0 0]}
abbrev yg9(h:BB)(l1:AI):Heap:=h.push (ti l1)
abbrev yha(h:BB)(l1 l2:AI):Heap:=(yg9 h l1).push (ti l2)
abbrev yhb(h:BB)(l1 l2:AI):Heap:=(yha h l1 l2).push {cls:=.type "tuple",data:=.seq #[.ref h.objs.size,.ref (yg9 h l1).objs.size]}
abbrev yhc(h:BB)(l1 l2:AI):Heap:=(yhb h l1 l2).push {cls:=.type "tuple",data:=.seq #[.none,.none]}
abbrev yes(h:BB)(l1 l2:AI):Heap:=(yhc h l1 l2).push {cls:=.type "zip",data:=.fields #[.none,.bool AC,.bool AC,.ref (yha h l1 l2).objs.size,.ref (yhb h l1 l2).objs.size]}
def zgI(l1 l2:AI)(xs ys:Array AG):
  Meets (Gu.«zip.__new__» ⟨[.type "zip",.ref l1,.ref l2],[]⟩) (λ_ R s=>s.heap.IsTuple l1 xs/\s.heap.IsTuple l2 ys/\R (.ok (.ret (.ref (yhc s.heap l1 l2).objs.size))) {s with heap:=yes s.heap l1 l2}):=
 .of_wp λprog w A R s h=>by
  let⟨hp,g,d,tk,os⟩:=s;let⟨q1,q2,h⟩:=h;have hsub:=sub_zip;have T1:Fh (GR ⟨hp,g,d,tk,os⟩) l1 xs:=q1;have T2:Fh (GR ⟨hp.push (ti l1),g,d,tk,os⟩) l2 ys:=zcV q2 λo e=>AO _ e
  wp_walk using Bs T1,Bs T2
  exact⟨_,rfl,h⟩
theorem call_zipT{pg:A3}{wd:Ag}{A:Ar}{Er:AG->AJ->Prop}{s:AJ}{l1 l2:AI}{xs ys:Array AG}{Q:AG->AJ->Prop}(t1:s.heap.IsTuple l1 xs)(t2:s.heap.IsTuple l2 ys)
  (k:∀h',EO h' (s.heap.objs.size+4) (s.heap.objs.size+2) (s.heap.objs.size+3) .none->CZ h' (s.heap.objs.size+2) (.ref s.heap.objs.size) (.ref (s.heap.objs.size+1))->CZ h' (s.heap.objs.size+3) .none .none->h'.IsTupleIter s.heap.objs.size l1 0->h'.IsTupleIter (s.heap.objs.size+1) l2 0 ->
   (∀b o,s.heap.get? b=AA o->h'.get? b=AA o)->Q (.ref (s.heap.objs.size+4)) {s with heap:=h'}):A0 (model pg wd) A (call (.type "zip") [.ref l1,.ref l2]) Q Er s:=by
 refine callType_new F.called_zip ⋯ (F.typeCall_zip_2 _ _) (F.newCall_zip_2 _ _) (λobj=>F.args_object_init_3 obj _ _) F.entry_zip_new (zgI l1 l2 xs ys) ⟨t1,t2,?_⟩;have n1:(yg9 s.heap l1).objs.size=s.heap.objs.size+1:=Bv ..;have n2:(yha s.heap l1 l2).objs.size=s.heap.objs.size+2:=by rw[Bv,n1]
 have n3:(yhb s.heap l1 l2).objs.size=s.heap.objs.size+3:=by rw[Bv,n2]
 have n4:(yhc s.heap l1 l2).objs.size=s.heap.objs.size+4:=by rw[Bv,n3]
 have kp:∀{h:BB} {o:CF} {b:AI} {u:CF},h.get? b=AA u->(h.push o).get? b=AA u:=λe=>AO _ e;have m5:(yes s.heap l1 l2).get? (yhc s.heap l1 l2).objs.size=AA _:=AZ _ rfl;have m4:(yes s.heap l1 l2).get? (yhb s.heap l1 l2).objs.size=AA _:=kp (AZ _ rfl);have m3:(yes s.heap l1 l2).get? (yha s.heap l1 l2).objs.size=AA _:=kp (kp (AZ _ rfl));have m2:(yes s.heap l1 l2).get? (yg9 s.heap l1).objs.size=AA _:=kp (kp (kp (AZ _ rfl)));have m1:(yes s.heap l1 l2).get? s.heap.objs.size=AA _:=kp (kp (kp (kp (AZ _ rfl))));rw[n2,n3,n4]at m5;rw[n1,n2]at m3;rw[n3]at m4;rw[n1]at m2;show _/\_;rw[n4];exact⟨⟨_,m5,rfl⟩,k _ m5 m3 m4 ⟨_,m1,rfl,rfl⟩ ⟨_,m2,rfl,rfl⟩ λb o e=>kp (kp (kp (kp (kp e))))⟩
end WE
namespace L2
open PySem PySem.Spec PyProof.Rows
def Itz(K:AF)(a b:AI):It:=
 ⟨λi H=>∃xs ys x y,SqT K H a xs/\SqT K H b ys/\xs[i]?=AA x/\ys[i]?=AA y,λi H v H'=>∃T,H T=AD/\v=.ref T/\∀xs ys x y,SqT K H a xs->SqT K H b ys->xs[i]?=AA x->ys[i]?=AA y->H'=upd H T (.tup [x,y]),λi H=>∃xs,SqT K H a xs/\xs.length=i⟩
def zhU{P:A3}{w:Ag}{K:AF}{es:List AS}{kk:Nat}{pos:CT}(z TI TO i1 i2 a b:AI)(D:Fm z TI TO i1 i2 a b):
  Turn P w K (.Tuple es kk pos) (Itz K a b) [z,TI,TO,i1,i2] z (λi h=>EO h z TI TO .none/\CZ h TI (.ref i1) (.ref i2)/\(∃p q,CZ h TO p q)/\h.IsTupleIter i1 a i/\h.IsTupleIter i2 b i) where
 mem:=by simp
 obj:=λi h st c hc=>by
  let⟨g0,g1,⟨p,q,g2⟩,⟨o3,g3,_,d3⟩,⟨o4,g4,_,d4⟩⟩:=st;erw[AR,A7,or_false]at hc;rcases hc with rfl|rfl|rfl|rfl|rfl
  .exact⟨_,g0,λv y=>nomatch y⟩
  .exact⟨_,g1,λv y=>nomatch y⟩
  .exact⟨_,g2,λv y=>nomatch y⟩
  .exact⟨o3,g3,λv y=>by rw[d3]at y;cases y⟩
  .exact⟨o4,g4,λv y=>by rw[d4]at y;cases y⟩
 keep:=λi h h' st k=>by
  let⟨g0,g1,⟨p,q,g2⟩,g3,g4⟩:=st;exact⟨k z (by simp) _ g0,k TI (by simp) _ g1,⟨p,q,k TO (by simp) _ g2⟩,WE.tit_keep g3 λo e=>k i1 (by simp) o e,WE.tit_keep g4 λo e=>k i2 (by simp) o e⟩
 item:=by
  intro X hP hw hK hc i π s σ H E I hf st hg;subst hP hw hK;let⟨xs,ys,x,y,hq1,hq2,hx,hy⟩:=hg;let⟨its,rv,p1,_⟩:=I.tuple hq1;let⟨jts,rw',p2,_⟩:=I.tuple hq2;let⟨g0,g1,⟨p,q,g2⟩,g3,g4⟩:=st;let⟨u,hu,ru⟩:=rv.get hx;let⟨v,hv,rv2⟩:=rw'.get hy;refine WE.pyNext_zipT D g0 g1 g2 g3 g4 p1 p2 (by simpa using hu) (by simpa using hv) λh1 a1 a2 a3 a4 a5 a6 a7=>⟨_,rfl,?_⟩;refine wpAny_letOwnedTupleGo_zip a1 λh2 b1 b2=>?_;have lt:∀{c o},s.heap.get? c=AA o->s.heap.objs.size≠c:=λe=>Eb (AV e);have hTz:s.heap.objs.size≠z:=lt g0;have hch:∀c o,c∉[z,TI,TO,i1,i2]->s.heap.get? c=AA o->h2.get? c=AA o:=λc o hn e=>b2.extBut _ _ (λz'=>hn (by simp[z'])) (a7 c o (λz'=>hn (by simp[z'])) (λz'=>hn (by simp[z'])) (λz'=>hn (by simp[z'])) (λz'=>hn (by simp[z'])) e);have new:yR X.prog X.w (upd H s.heap.objs.size (.tup [x,y])) h2 s.heap.objs.size (.tup [x,y]):=⟨by show 2<=sizeLine;decide,[u,v],.cons ru (.cons rv2 .nil),_,b2.extBut _ _ hTz a5,rfl,_,rfl⟩;have I2:=I.turnLaid (t':=s.toks) hf hch (AT _) new;have gI:CZ h1 TI (.ref i1) (.ref i2):=a7 _ _ D.TIz D.TITO D.TIi1 D.TIi2 g1;refine⟨.ref s.heap.objs.size,_,I2,rfl,⟨s.heap.objs.size,I.hok.fresh (AT _),rfl,λxs' ys' x' y' hx1 hy1 hx2 hy2=>?_⟩,⟨b1,b2.extBut _ _ D.TIz gI,⟨_,_,b2.extBut _ _ D.TOz a2⟩,WE.tit_keep a3 λo e=>b2.extBut _ _ D.i1z e,WE.tit_keep a4 λo e=>b2.extBut _ _ D.i2z e⟩,λc hc=>?_⟩
  .rw[I.tuple_inj hx1 hq1,hx]at hx2;rw[I.tuple_inj hy1 hq2,hy]at hy2
   cases hx2
   cases hy2
   rfl
  .have hne:c≠s.heap.objs.size:=λz'=>by
    subst z';let⟨o3,e3,_⟩:=g3;let⟨o4,e4,_⟩:=g4;erw[AR,A7,or_false]at hc;rcases hc with z' | z' | z' | z' | z'
    .exact lt g0 z'
    .exact lt g1 z'
    .exact lt g2 z'
    .exact lt e3 z'
    .exact lt e4 z'
   rw[zj hne];exact(hf c hc).1
 done:=by
  intro X hP hw hK hc i π s σ H E I hf st hg;subst hP hw hK;let⟨xs,hq1,hx⟩:=hg;let⟨its,rv,p1,_⟩:=I.tuple hq1;let⟨g0,g1,⟨p,q,g2⟩,g3,g4⟩:=st;have hl:=rv.length;refine WE.pyNext_zipE (I.ok.hd hc) D g0 g1 g2 g3 p1 (by simp;lia) λh' kz=>⟨rfl,I.turnedL (t':=s.toks) hf λc o hn e=>kz c o (λz'=>hn (by simp[z'])) (λz'=>hn (by simp[z'])) (λz'=>hn (by simp[z'])) (λz'=>hn (by simp[z'])) e⟩
 self:=λ_ _ _ _ _ st q=>GM st.1 q
def yfv(K:AF)(ta:TA):TI:=λσ H R=>ta σ H λvs H1=>∃a b,vs=[.ref a,.ref b]/\(∃xs,SqT K H1 a xs)/\(∃ys,SqT K H1 b ys)/\R (Itz K a b) H1
def zly{X:Cx}{a b:AS}{es:List AS}{kk:Nat}{tp:CT}{ta:TA}{p pos:CT}(hg:Gl X "zip")(hm:X.mg "zip"=AD)(ha:PA X [a,b] ta)(hs:starEach [a,b] X.env=[(AC,eval a X.env),(AC,eval b X.env)]:=by rfl)(hs2:starEach [b] X.env=[(AC,eval b X.env)]:=by rfl):
  PI X (.Tuple es kk tp) (.Call (.Name "zip" p) [a,b] [] pos) (yfv X.K ta):=by
 intro π s σ H R I h;refine BZ (zd0 I hg hm boot_zip ?_);refine CH (thn (ha pos π s σ H _ I h) λus s1 kq=>?_) (by rw[hs,hs2]) (by rw[hs2];rfl);let⟨vs,H1,I1,r1,q1⟩:=kq;let⟨l1,l2,rfl,⟨xs,hq1⟩,⟨ys,hq2⟩,q⟩:=q1
 cases r1 with
 |cons r rr=>
  cases rr with
  |cons r2 r3=>
   cases r3
   cases (show _=Ad l1 from r)
   cases (show _=Ad l2 from r2)
   let⟨its,rv,pt1,_⟩:=I1.tuple hq1;let⟨jts,rv2,pt2,_⟩:=I1.tuple hq2;have b1:l1<s1.heap.objs.size:=by let⟨_,e,_⟩:=pt1;exact AV e
   have b2:l2<s1.heap.objs.size:=by let⟨_,e,_⟩:=pt2;exact AV e
   refine WE.call_zipT pt1 pt2 λh1 g0 g1 g2 g3 g4 kp=>?_;refine GM g0 ?_;refine⟨_,[s1.heap.objs.size+4,s1.heap.objs.size+2,s1.heap.objs.size+3,s1.heap.objs.size,s1.heap.objs.size+1],_,_,H1,rfl,I1.kept (t':=s1.toks) kp,zhU _ _ _ _ _ l1 l2 (zipApart_new b1 b2),⟨g0,g1,⟨_,_,g2⟩,g3,g4⟩,λc hc=>?_,q⟩;have hb2:s1.heap.objs.size<=c:=by
    erw[AR,A7,or_false]at hc;rcases hc with z' | z' | z' | z' | z'<;>subst z'
    .exact DW _ 4
    .exact DW _ 2
    .exact DW _ 3
    .exact AT _
    .exact DW _ 1
   exact I1.fpOk hb2 (I1.hok.fresh hb2)
end L2
namespace L2
open PySem PySem.Spec PyProof.Rows IC
inductive yb8(K:AF)(cl:Nat->AI)(w:Ag):List (AN×PV)->List CL->Prop
 |nil:yb8 K cl w [] []
 |cons {k:AN} {v:PV} {t:HS} {u:AG} {x:V} {D:List (AN×PV)} {es:List CL} (hr:RelV x u) (hv:∀B φ H,yd K cl B φ H v x) (h:yb8 K cl w D es):yb8 K cl w ((k,v)::D) (⟨EC w.params k,.str k t,u⟩ :: es)
def GD(K:AF)(w:Ag)(mg:AN->Option AG)(cl:Nat->AI)(x:AN)(D:List (AN×PV)):Prop:=
 ∃(y:AI) (es:Array CL) (ep:Nat),mg x=AA (.ref y)/\K.lookup y=AA ⟨.type "dict",AD,.dict es ep,#[]⟩/\(y==sysModules)=AC/\yb8 K cl w D es.toList/\(D.map (·.1)).Nodup
theorem yb8.pairs{K:AF}{cl:Nat->AI}{P:A3}{w:Ag}{D:List (AN×PV)}{es:List CL}(h:yb8 K cl w D es):
  ∃vs:List (AN×AG),Pairs (strKind P w) es vs/\(∀e∈es,∃k,(strKind P w).is k e.key=AB/\e.hash=(strKind P w).hash k)/\vs.map (·.1)=D.map (·.1) /\
   (∀s,(valueAt vs s).isSome=(yaT s D).isSome)/\∀s v,yaT s D=AA v->∃u x,valueAt vs s=AA u/\RelV x u/\∀B φ H,yd K cl B φ H v x:=by
 induction h with
 |nil=>exact⟨[],.nil,λe he=>(by cases he),rfl,λs=>rfl,λs v e=>by cases e⟩
 |@cons k v t u x D es hr hv h ih=>
  let⟨vs,h1,h2,h3,h4,h5⟩:=ih;have hat:∀s,valueAt ((k,u)::vs) s=if k=s then AA u else valueAt vs s:=λs=>by
   unfold valueAt;rw[CC]
   by_cases e:k=s
   .simp[e]
   .simp[e]
  refine⟨(k,u)::vs,.cons (DX P w k t) rfl h1,λe he=>?_,by rw[AL,AL,h3],λs=>?_,λs v' e=>?_⟩
  .rcases AR.1 he with rfl|he
   .exact⟨k,DX P w k t,rfl⟩
   .exact h2 e he
  .rw[hat,yaT]
   by_cases e:k=s
   .rw[if_pos e,if_pos (by simpa using e)];rfl
   .rw[if_neg e,if_neg (by simpa using e),h4]
  .rw[yaT]at e;rw[hat]
   by_cases q:k=s
   .rw[if_pos (by simpa using q)]at e
    cases e
    exact⟨u,x,by rw[if_pos q],hr,hv⟩
   .rw[if_neg (by simpa using q)]at e;let⟨u',x',e1,e2,e3⟩:=h5 s v' e;exact⟨u',x',by rw[if_neg q];exact e1,e2,e3⟩
section
variable {S:Se}{X:Cx}{σ:St}{B:AI->Prop}{φ:Ph}{H:Hp}{st:SO}{pos p:CT}{a b i:AS}{ca cb:Ce}{x:AN}{D:List (AN×PV)}{ty:TE}
def zhN{y:AI}{es:Array CL}{ep:Nat}{π:List (AI×CF)}{s:AJ}(I:Inv X π σ H s)(hk:X.K.lookup y=AA ⟨.type "dict",AD,.dict es ep,#[]⟩)(hn:(D.map (·.1)).Nodup){vs:List (AN×AG)}(h1:Pairs (strKind X.prog X.w) es.toList vs)
  (h2:∀e∈es.toList,∃k,(strKind X.prog X.w).is k e.key=AB/\e.hash=(strKind X.prog X.w).hash k) (h3:vs.map (·.1)=D.map (·.1)):s.heap.DictOf (strKind X.prog X.w) y vs:=
 ⟨_,es,ep,I.kIn y _ hk,⟨rfl,rfl,rfl⟩,rfl,λe he=>h2 e (by simpa using he),h1,by rw[h3];exact hn⟩
def yd6(S:Se)(X:Cx)(D:List (AN×PV))(ty:TE):TE:=λσ H Q=>ty σ H λz H2=>∃s v,z=.str s/\yaT s D=AA v/\∀x',(∀B φ H,yd X.K S.cl B φ H v x')->Q x' H2
def zlB(hg:Gl X x)(h:GD X.K X.w X.mg S.cl x D)(hi:PE X i ty)(hs:ycU i)(hd:(x==("__debug__":AN))=false:=by decide):PE X (.Subscript (.Name x p) i pos) (yd6 S X D ty):=by
 let⟨y,es,ep,hm,hk,hsy,hr,hn⟩:=h;let⟨vs,h1,h2,h3,h4,h5⟩:=hr.pairs (P:=X.prog);intro π s σ H Q I q0;refine zij EJ.lookup hs (thn (zdC (v:=.ref y) hg hm rfl hd π s σ H (λz H1=>z=.ref y/\ty σ H1 λz H2=>∃s v,z=.str s/\yaT s D=AA v/\∀x',(∀B φ H,yd X.K S.cl B φ H v x')->Q x' H2) I ⟨rfl,q0⟩) λu s1 kq=>?_);let⟨z,H1,I1,rz,ez,q1⟩:=kq;refine thn (hi π s1 σ H1 _ I1 q1) λiv s2 kq=>?_;let⟨z2,H2,I2,rz2,sx,v,ez2,e,q2⟩:=kq;subst ez;subst ez2;obtain rfl:u=Ad y:=rz;let⟨t,rfl⟩:=rz2;have dd:=zhN I2 hk hn h1 h2 h3;let⟨u',x',e1,e2,e3⟩:=h5 sx v e;exact⟨dd.typeIs,GN (DX X.prog X.w sx t) dd.mapOf e1 ⟨x',H2,I2.tok _,e2,q2 x' e3⟩⟩
def zmU(hg:Gl X x)(h:GD X.K X.w X.mg S.cl x D)(hb:PE X b (tE S X cb))(hs:ycU b:=by exact λ_ _=>rfl)(hd:(x==("__debug__":AN))=false:=by decide):PE X (.Subscript (.Name x p) b pos) (tE S X (.dix D cb)):=
 (zlB hg h hb hs hd).imp λσ H Q ⟨B,φ,st,ρ,rs,re,h⟩=>by
  erw[ev]at h;refine tE.bind rs re h λz H1 v st1 φ1 s1 rs1 re1 rv h1=>?_;let⟨w,e,q⟩:=zas h1 rs1
  cases v with
  |str sx=>
   erw[yd]at rv;exact⟨sx,w,rv,e,λx' hx=>q x' H1 φ1 .rfl rs1 (hx _ _ _)⟩
  |_=>cases e
def ygi(y:AI)(D:List (AN×PV)):R2:=λx z H Q=>z=.ref y/\∃s,x=.str s/\Q (.bl (yaT s D).isSome) H
def zn5(hg:Gl X x)(h:GD X.K X.w X.mg S.cl x D)(ha:PE X a (tE S X ca))(hm:behindInMarks .In (.Name x p)=false:=by ac_rfl)(hd:(x==("__debug__":AN))=false:=by decide):PE X (.Compare a [.In] [.Name x p] pos) (tE S X (.din ca D)):=by
 let⟨y,es,ep,hmg,hk,hsy,hr,hn⟩:=h;let⟨vs,h1,h2,h3,h4,h5⟩:=hr.pairs (P:=X.prog);have op:OpR X (compareOp .In) (ygi y D):=by
  intro π s σ H z1 z2 v u Q I r1 r2 ⟨ez,sx,ex,q⟩;subst ez;subst ex;obtain rfl:u=Ad y:=r2;let⟨t,rfl⟩:=r1;have dd:=zhN I hk hn h1 h2 h3;refine wpAny_in_of (DX X.prog X.w sx t) hsy dd.mapOf ⟨.bl (yaT sx D).isSome,H,I.tok _,?_,q⟩;rw[h4];rfl
 refine(zic op ha (zdC (v:=.ref y) hg hmg rfl hd) hm).imp λσ H Q kq=>?_;let⟨B,φ,st,ρ,rs,re,h⟩:=kq;erw[ev]at h;refine tE.bind rs re h λz H1 v st1 φ1 s1 rs1 re1 rv h1=>?_;let⟨w,e,q⟩:=zas h1 rs1
 cases v with
 |str sx=>
  erw[yd]at rv
  cases e
  exact⟨rfl,sx,rv,q _ H1 φ1 .rfl rs1 (by erw[yd])⟩
 |_=>cases e
def ze4:∀(xs ys:List PV) (i:Nat) {x y:PV},xs[i]?=AA x->ys[i]?=AA y->(yaU xs ys)[i]?=AA (.tup [x,y])
 |[],_,i,_,_,h,_=>by simp at h
 |_::_,[],i,_,_,_,h=>by simp at h
 |x::xs,y::ys,0,_,_,h1,h2=>by simp at h1 h2;simp[yaU,h1,h2]
 |x::xs,y::ys,i+1,_,_,h1,h2=>by
  erw[A5]at h1 h2;erw[yaU,A5];exact ze4 xs ys i h1 h2
def zff:∀(xs ys:List PV),xs.length<=ys.length->(yaU xs ys).length=xs.length
 |[],_,_=>by simp[yaU]
 |_::_,[],h=>by simp at h
 |x::xs,y::ys,h=>by erw[yaU,AX,zff xs ys (by simpa using h)]
def zl0{k j:Bool}{vs ws:List PV}{xs ys:List V}{y z:AI}(rt:ybK X.K B φ H k y xs)(l:ye X.K S.cl B φ H vs xs)(rt2:ybK X.K B φ H j z ys)(l2:ye X.K S.cl B φ H ws ys)(hle:vs.length<=ws.length):Drw S X B φ H (yaU vs ws) (Itz X.K y z):=by
 have hl:=l.length;have hl2:=l2.length;have hp:=zff vs ws hle;refine⟨λφ' H' s=>⟨xs,(rt.step s).sq,by lia⟩,λi φ' H' s hi=>⟨xs,ys,xs[i]'∅,ys[i]'∅,(rt.step s).sq,(rt2.step s).sq,by simp[show i<xs.length by lia],by simp[show i<ys.length by lia]⟩,λi φ' H' st x H2 B' hB s rs hi q=>?_⟩;let⟨T,hT,rfl,q⟩:=q;obtain⟨v,hv⟩:∃v,vs[i]?=AA v:=⟨vs[i]'∅,by simp[show i<vs.length by lia]⟩;obtain⟨w,hw⟩:∃w,ws[i]?=AA w:=⟨ws[i]'∅,by simp[show i<ws.length by lia]⟩;let⟨x',hx',rv⟩:=l.get i hv;let⟨y',hy',rw'⟩:=l2.get i hw;have e:=q xs ys x' y' (rt.step s).sq (rt2.step s).sq hx' hy';subst e;refine⟨.tup [v,w],ze4 vs ws i hv hw,.tup_new hT rs ?_,λb o e=>by rw[zj (zl e hT)];exact e⟩;erw[ye];exact⟨x',[y'],rfl,(rv.moreB hB).step s,y',[],rfl,(rw'.moreB hB).step s,rfl⟩
def zog{es:List AS}{kk:Nat}{tp:CT}(hg:Gl X "zip")(hm:X.mg "zip"=AD)(ha:PE X a (tE S X ca))(hb:PE X b (tE S X cb))(hs:starEach [a,b] X.env=[(AC,eval a X.env),(AC,eval b X.env)]:=by rfl)(hs2:starEach [b] X.env=[(AC,eval b X.env)]:=by rfl):
  PI X (.Tuple es kk tp) (.Call (.Name "zip" p) [a,b] [] pos) (tI S X (.zip ca cb)):=
 (zly hg hm (zbI ha (zbI hb zhr hs2) (by rw[hs,hs2])) hs hs2).imp λσ H R ⟨B,φ,st,ρ,rs,re,h⟩=>by
  erw[evi]at h;refine tE.bind rs re h λx H1 v st1 φ1 s1 rs1 re1 rv h1=>tE.bind rs1 re1 h1 λy H2 w st2 φ2 s2 rs2 re2 rw h2=>?_;let⟨zs,e,h2⟩:=zi2 h2
  cases v with
  |tp k vs=>
   cases w with
   |tp j ws=>
    erw[ydN]at e
    by_cases hle:vs.length<=ws.length
    .rw[if_pos hle]at e
     cases e
     erw[yd]at rv rw;let⟨a1,xs,rfl,rt,l⟩:=rv;let⟨a2,ys,rfl,rt2,l2⟩:=rw;exact⟨a1,a2,rfl,⟨xs,(rt.step s2).sq⟩,⟨ys,rt2.sq⟩,h2.ok rs2 (zl0 (rt.step s2) (l.step s2) rt2 l2 hle)⟩
    .rw[if_neg hle]at e
     cases e
   |_=>cases e
  |_=>cases e
end
section
variable {K:AF}{cl:Nat->AI}{B:AI->Prop}{φ:Ph}{H:Hp}{st:SO}
end
section
variable {S:Se}{X:Cx}{K:AF}{cl:Nat->AI}{σ:St}{B:AI->Prop}{φ φ1:Ph}{H H1:Hp}{st:SO}{ρ:IC.Env}{pos p p2 px:CT}{a b c o tg l elt iter:AS}{ca cb cc ce:Ce}{ci:Cit}{ct:Tg}
end
section
variable {K:AF}{cl:Nat->AI}{B:AI->Prop}{φ:Ph}{H:Hp}{st:SO}
theorem FS.lookup{f:AN}:∀{fs:List (AN×PV)} {ks:List (AN×V)},FS K cl B φ H fs ks->(∀v,fs.lookup f=AA v->∃x,ks.lookup f=AA x/\yd K cl B φ H v x)/\(fs.lookup f=AD->ks.lookup f=AD)
 |[],ks,h=>by
  cases (show ks=[]from h)
  exact⟨nofun,λ_=>rfl⟩
 |(k,v)::r,ks,h=>by
  let⟨x,s,rfl,rv,l⟩:=h;let⟨q1,q2⟩:=FS.lookup (f:=f) l;erw[Bu]
  cases e:f==k with
  |true=>exact⟨λw z=>by cases z;exact⟨x,rfl,rv⟩,λz=>by cases z⟩
  |false=>exact⟨q1,q2⟩
theorem FS.put{f:AN}{v:PV}{x:V}(r:yd K cl B φ H v x):∀{fs:List (AN×PV)} {ks:List (AN×V)},FS K cl B φ H fs ks->FS K cl B φ H (ybM f v fs) (yaX f x ks)
 |[],ks,h=>by
  cases (show ks=[]from h)
  exact⟨x,[],rfl,r,rfl⟩
 |(k,w)::q,ks,h=>by
  let⟨y,s,rfl,ry,l⟩:=h;erw[ybM,yaX]
  by_cases c:k=f
  .rw[if_pos c,if_pos c];exact⟨x,s,rfl,r,l⟩
  .rw[if_neg c,if_neg c];exact⟨y,_,rfl,ry,FS.put r l⟩
theorem FS.len:∀{fs:List (AN×PV)} {ks:List (AN×V)},FS K cl B φ H fs ks->fs.length=ks.length
 |[],ks,h=>by cases (show ks=[]from h);rfl
 |(k,w)::q,ks,h=>by
  let⟨y,s,rfl,ry,l⟩:=h;simp[FS.len l]
theorem yt.ins{n c:Nat}{fs:List (AN×PV)}{x:V}(rs:yt K cl B φ H st)(r:yd K cl B φ H (.loc n) x)(h:st[n]?=AA (.ins c fs)):∃y ks dx,x=.ref y/\φ[n]?=AA (AA y)/\H y=AA (.ins (cl c) dx ks)/\FS K cl B φ H fs ks:=by
 erw[yd]at r;let⟨hn,y,rfl,hy⟩:=r;let⟨a,ha⟩:=rs.liv n _ h (by intro z;cases z);let⟨o,ho,ro⟩:=rs.obj n a ha;have e:=hy a ha;subst e;rw[h]at ho
 cases ho
 let⟨ks,⟨dx,q⟩,l⟩:=ro;exact⟨a,ks,dx,rfl,ha,q,l⟩
end
section
variable {S:Se}{X:Cx}{σ:St}{B:AI->Prop}{φ φ1:Ph}{H H1:Hp}{st:SO}{ρ:IC.Env}{p pos pos' p2 apos:CT}{a b d o e:AS}{ca cb cc:Ce}{es:List AS}{ces:Ces}{c i k:Nat}{f m x:AN}{fa:AI}{fd:Az}{ps:List AN}
def zgE{st:SO}{x v:PV}(h:yaZ c st x f=AA v):∃n fs,x=.loc n/\st[n]?=AA (.ins c fs)/\fs.lookup f=AA v:=by
 cases x with
 |loc n=>
  erw[yaZ]at h;split at h
  .rename_i dd fs e;split at h
   .rename_i q;subst q;exact⟨n,fs,rfl,e,h⟩
   .cases h
  .cases h
 |_=>cases h
def zgm{st st4:SO}{x v:PV}(h:ya0 c st x f v=AA st4):∃n fs,x=.loc n/\st[n]?=AA (.ins c fs)/\fs.length<1000/\st4=st.set n (.ins c (ybM f v fs)):=by
 cases x with
 |loc n=>
  erw[ya0]at h;split at h
  .rename_i dd fs e;split at h
   .rename_i q;let⟨q,q2⟩:=q;subst q
    cases h
    exact⟨n,fs,rfl,e,q2,rfl⟩
   .cases h
  .cases h
 |_=>cases h
def zjy{st:SO}{x:PV}{t:Bool}(h:ybX c m st x=AA t):∃n fs,x=.loc n/\st[n]?=AA (.ins c fs)/\fs.lookup m=none:=by
 cases x with
 |loc n=>
  erw[ybX]at h;split at h
  .rename_i dd fs e;split at h
   .rename_i q;let⟨q,q2⟩:=q;subst q;exact⟨n,fs,rfl,e,q2⟩
   .cases h
  .cases h
 |_=>cases h
def znY(hc:Cls X.K (S.cl c))(hn:yaq X.K (S.cl c) f)(ha:PE X a (tE S X ca))(hb:attributeBase a f X.env (eval a X.env)=eval a X.env:=by rfl):PE X (.Attribute a f pos) (tE S X (.fld c ca f)):=
 (znI ha hb).imp λσ H Q ⟨B,φ,st,ρ,rs,re,h⟩=>by
  erw[ev]at h;refine tE.bind rs re h λx H1 v st1 φ1 s1 rs1 re1 rv h1=>?_;let⟨z,e,q⟩:=zas h1 rs1;let⟨n,fs,rfl,hn',l⟩:=zgE e;let⟨y,ks,dx,rfl,_,hy,lr⟩:=rs1.ins rv hn';let⟨x,hx,rx⟩:=lr.lookup.1 z l;exact⟨y,S.cl c,dx,ks,x,rfl,hy,hc,hn,hx,q x H1 φ1 .rfl rs1 rx⟩
def znD(hc:Cls X.K (S.cl c))(hn:yaq X.K (S.cl c) f)(ha:PE X a (tE S X ca))(hv:PE X b (tE S X cb))(hs:swapsWith b (AA (.Attribute a f pos')) pos.line X.env=pure false:=by rfl):PS X (.Assign [.Attribute a f pos'] b pos) (tS S X (.sfl c ca f cb)):=
 (zmM ha hv hs).imp λD σ H ⟨B,φ,st,ρ,rs,re,h⟩=>by
  erw[ex]at h;refine tE.fl rs re h λv' H1 v st1 φ1 s1 rs1 re1 rv h1=>tE.fl rs1 re1 h1 λx' H2 x st2 φ2 s2 rs2 re2 rx h2=>?_
  cases e:ya0 c st2 x f v with
  |none=>rw[e]at h2;exact h2.elim
  |some st4=>
   rw[e]at h2;let⟨n,fs,rfl,hn',hl,rfl⟩:=zgm e;let⟨y,ks,dx,rfl,hp,hy,lr⟩:=rs2.ins rx hn';refine⟨y,S.cl c,dx,ks,rfl,hy,hc,hn,by rw[<-lr.len];exact hl,?_⟩;have s4:Step φ2 H2 φ2 (L2.upd H2 y (.ins (S.cl c) dx (yaX f v' ks))):=.put (A1 hp);exact h2 σ _ φ2 s4 (rs2.put (o:=.ins c (ybM f v fs)) hp ⟨_,⟨dx,zq⟩,(FS.put (rv.step s2) lr).step s4⟩) (re2.step s4)
theorem noX:ybD (CX1 X.prog X.w) X (λ_ _ _=>False):=λπ σ H s e s' _ z=>by
 let⟨_,_,_,_,_,_,_,_,_,_,_,_,_,_,z⟩:=z;exact z.elim
def zhl{vs:List PV}{xs:List V}{Q:VK}{rs:yt X.K S.cl B φ H st}(l:ye X.K S.cl B φ H vs xs)(h:Run S X σ B φ H (RV S X B) ((ybB (S.call i (.loc st.length::vs) (st++[.ins c []]))).bind λv st2=>newV st.length v st2) Q):
  ∀x dx,H x=AD->H dx=AD->dx≠x->spI X.K S.cl S.call i (.ref x::xs) (L2.upd (L2.upd H dx (.own x)) x (.ins (S.cl c) dx [])) (λv H2=>v=.non/\Q (.ref x) H2) (λ_ _ _=>False):=by
 intro x dx hx hdx ne;have hx':L2.upd H dx (.own x) x=none:=by rw[zj (BE ne)];exact hx
 have t1:Step φ H φ (L2.upd H dx (.own x)):=.upd hdx;have rs1:=rs.upd (o:=.own x) hdx;have t2:Step φ (L2.upd H dx (.own x)) (φ++[AA x]) (L2.upd (L2.upd H dx (.own x)) x (.ins (S.cl c) dx [])):=.push hx';have rs2:=rs1.push hx' (rs1.nB hx') (o:=.ins c []) ⟨[],⟨dx,zq⟩,rfl⟩;have ll:yd X.K S.cl B (φ++[AA x]) (L2.upd (L2.upd H dx (.own x)) x (.ins (S.cl c) dx [])) (.loc st.length) (.ref x):=.loc_new rs1;refine⟨B,φ++[AA x],st++[.ins c []],.loc st.length::vs,rs2,?_,?_⟩
 .simp only[ye];exact⟨.ref x,xs,rfl,ll,(l.step t1).step t2⟩
 .cases e:S.call i (.loc st.length::vs) (st++[.ins c []])with
  |ok v st'=>
   rw[e]at h;erw[ybB,R.bind]at h
   cases v with
   |non=>
    intro z H' φ' s rs' rz;erw[yd]at rz;exact⟨rz,h (.ref x) H' φ' ((t1.trans t2).trans s) rs' (ll.step s)⟩
   |_=>exact h.elim
  |exc k s=>rw[e]at h;exact h.elim
  |bad=>rw[e]at h;exact h.elim
def znr(M:Mk X.K (S.cl c) fa)(F:yaI X.prog X.w X.K X.mg X.base (CX1 X.prog X.w) k fa fd ps (spI X.K S.cl S.call i))(hr:yap (k+1) X.A)(hg:Gl X x)(hm:X.mg x=AA (.ref (S.cl c)))(hb:Binds X.K fd ps [])
  (ha:PA X (e::es) (tAs S X ces)) (hdb:(x==("__debug__":AN))=false:=by decide) (he:starEach (e::es) X.env=(AC,eval e X.env)::starEach es X.env:=by rfl) (hpl:(backTo pos (starEach es X.env)).any (·.1)=false:=by rfl):
  PE X (.Call (.Name x p) (e::es) [] pos) (tE S X (.new c i ces)):=
 (zlb M F hr hg hm hb .nil noX ha hdb he hpl).imp λσ H Q ⟨B,φ,st,ρ,rs,re,h⟩=>by
  erw[ev]at h;refine tAs.bind rs re h λxs H1 vs st1 φ1 s1 rs1 re1 rv h1=>?_;rw[Ap];exact zhl (rs:=rs1) rv h1
def ybZ(CX:CXT)(X:Cx)(C:AI)(m:AN)(sp:Sp)(ta:TE)(t:TA):TE:=λσ H Q=>ta σ H λx H1=>∃y dx fs,x=.ref y/\H1 y=AA (.ins C dx fs)/\fs.lookup m=AD/\t σ H1 λvs H2=>∃E:XK,sp (.ref y::vs) H2 Q E/\∀π s e s',Inv X π σ H2 s->CX X.stack H2 s E e s'->X.xe e s'
def zjS{CX:CXT}{sp:Sp}{C:AI}{ta:TE}{t:TA}{pl:Gg Bool}(he:PE X o ta)(c:Cls X.K C)(hm:Meth X.K C m fa)(F:yaI X.prog X.w X.K X.mg X.base CX k fa fd ps sp)(hr:yap k X.A)(hb:Binds X.K fd ps [])(ha:PA X (e::es) t)
  (hst:starEach (e::es) X.env=(AC,eval e X.env)::starEach es X.env:=by rfl) (hpl:(backTo pos (starEach es X.env)).any (·.1)=false:=by rfl)
  (ht:eval (.Call (.Attribute o m apos) (e::es) [] pos) X.env=(do
   let ov <-eval o X.env
   standAt apos.atName
   let (f,first) <-holding [ov] (getMethod ov m pl)
   callWith pos f first (backTo pos (starEach (e::es) X.env)) (backToKw pos (keywordEach [] X.env))):=by rfl):
  PE X (.Call (.Attribute o m apos) (e::es) [] pos) (ybZ CX X C m sp ta t):=by
 intro π s σ H Q I h;refine Ex (pl:=pl) (thn (he π s σ H _ I h) λu s1 kq=>?_) ht;let⟨x,H1,I1,rx,y,dx,fs,ex,ea,l,q⟩:=kq;subst ex;obtain rfl:u=Ad y:=rx;refine zdT I1 ea c hm l ?_;refine DA (first:=[.ref y]) (h₀:=X.base) I.ok.mod.kin hm.kp (thn (ha pos π s1 σ H1 _ I1 q) λus s2 kq=>?_) hst hpl;let⟨vs,H2,I2,r,E,q2,hx⟩:=kq;refine ⟨I2.kIn,?_⟩;exact zdo (us:=.ref y::us) (vs:=.ref y::vs) F hr hb .nil I2 (.cons rfl r) (by rw[Ap];exact q2) λe s' z=>hx π s2 e s' I2 z
def zhA{CX:CXT}{sp:Sp}{C:AI}{ta:TE}{pl:Gg Bool}(he:PE X o ta)(c:Cls X.K C)(hm:Meth X.K C m fa)(F:yaI X.prog X.w X.K X.mg X.base CX k fa fd ps sp)(hr:yap k X.A)(hb:Binds X.K fd ps [])
  (ht:eval (.Call (.Attribute o m apos) [] [] pos) X.env=(do
   let ov <-eval o X.env
   standAt apos.atName
   let (f,first) <-holding [ov] (getMethod ov m pl)
   callWith pos f first (backTo pos (starEach [] X.env)) (backToKw pos (keywordEach [] X.env))):=by rfl):
  PE X (.Call (.Attribute o m apos) [] [] pos) (ybZ CX X C m sp ta ydv):=by
 intro π s σ H Q I h;refine Ex (pl:=pl) (thn (he π s σ H _ I h) λu s1 kq=>?_) ht;let⟨x,H1,I1,rx,y,dx,fs,ex,ea,l,E,q2,hx⟩:=kq;subst ex;obtain rfl:u=Ad y:=rx;refine zdT I1 ea c hm l ?_;exact FP (first:=[.ref y]) I1.kIn hm.kp (zdo (us:=[.ref y]) (vs:=[.ref y]) F hr hb .nil I1 (.cons rfl .nil) q2 λe s' z=>hx π s1 e s' I1 z)
def zfn{Q:VK}{t:TA}(hq:∀{H1:Hp} {φ1:Ph} {st1:SO} {P:List V->Hp->Prop} {kk:List PV->SO->R PV},yt X.K S.cl B φ1 H1 st1->yJ X.K S.cl B φ1 H1 ρ σ->Run S X σ B φ1 H1 (RV S X B) ((evs S.call ρ st1 ces).bind kk) Q ->
   (∀xs H2 vs st2 φ2,Step φ1 H1 φ2 H2->yt X.K S.cl B φ2 H2 st2->yJ X.K S.cl B φ2 H2 ρ σ->ye X.K S.cl B φ2 H2 vs xs->Run S X σ B φ2 H2 (RV S X B) (kk vs st2) Q->P xs H2)->t σ H1 P)
  (rs:yt X.K S.cl B φ H st) (re:yJ X.K S.cl B φ H ρ σ) (h:Run S X σ B φ H (RV S X B) ((ev S.call ρ st ca).bind λx st1=>onO (ybX c m st1 x) λ_=>(evs S.call ρ st1 ces).bind λvs st2=>S.call i (x::vs) st2) Q):
  ybZ (CX1 X.prog X.w) X (S.cl c) m (spI X.K S.cl S.call i) (tE S X ca) t σ H Q:=by
 refine tE.bind rs re h λx H1 v st1 φ1 s1 rs1 re1 rv h1=>?_
 cases q:ybX c m st1 v with
 |none=>rw[q]at h1;exact h1.elim
 |some b=>
  rw[q]at h1;erw[onO]at h1;let⟨n,fs,rfl,hn,hl⟩:=zjy q;let⟨y,ks,dx,rfl,_,hy,lr⟩:=rs1.ins rv hn;refine⟨y,dx,ks,rfl,hy,lr.lookup.2 hl,hq rs1 re1 h1 λxs H2 vs st2 φ2 s2 rs2 re2 rl h2=>?_⟩;exact zaP rs2 (by erw[ye];exact⟨.ref y,xs,rfl,rv.step s2,rl⟩) h2
def znt{pl:Gg Bool}(hc:Cls X.K (S.cl c))(hm:Meth X.K (S.cl c) m fa)(F:yaI X.prog X.w X.K X.mg X.base (CX1 X.prog X.w) k fa fd ps (spI X.K S.cl S.call i))(hr:yap k X.A)(hb:Binds X.K fd ps [])
  (ho:PE X o (tE S X ca)) (ha:PA X (e::es) (tAs S X ces))
  (hst:starEach (e::es) X.env=(AC,eval e X.env)::starEach es X.env:=by rfl) (hpl:(backTo pos (starEach es X.env)).any (·.1)=false:=by rfl)
  (ht:eval (.Call (.Attribute o m apos) (e::es) [] pos) X.env=(do
   let ov <-eval o X.env
   standAt apos.atName
   let (f,first) <-holding [ov] (getMethod ov m pl)
   callWith pos f first (backTo pos (starEach (e::es) X.env)) (backToKw pos (keywordEach [] X.env))):=by rfl):
  PE X (.Call (.Attribute o m apos) (e::es) [] pos) (tE S X (.mcl c i m ca ces)):=
 (zjS ho hc hm F hr hb ha hst hpl ht).imp λσ H Q ⟨B,φ,st,ρ,rs,re,h⟩=>by
  erw[ev]at h;exact zfn (λrs1 re1 h1 n=>tAs.bind rs1 re1 h1 n) rs re h
def zmz{pl:Gg Bool}(hc:Cls X.K (S.cl c))(hm:Meth X.K (S.cl c) m fa)(F:yaI X.prog X.w X.K X.mg X.base (CX1 X.prog X.w) k fa fd ps (spI X.K S.cl S.call i))(hr:yap k X.A)(hb:Binds X.K fd ps [])
  (ho:PE X o (tE S X ca))
  (ht:eval (.Call (.Attribute o m apos) [] [] pos) X.env=(do
   let ov <-eval o X.env
   standAt apos.atName
   let (f,first) <-holding [ov] (getMethod ov m pl)
   callWith pos f first (backTo pos (starEach [] X.env)) (backToKw pos (keywordEach [] X.env))):=by rfl):
  PE X (.Call (.Attribute o m apos) [] [] pos) (tE S X (.mcl c i m ca .nil)):=
 (zhA ho hc hm F hr hb ht).imp λσ H Q ⟨B,φ,st,ρ,rs,re,h⟩=>by
  erw[ev]at h;refine zfn (t:=ydv) (λ{H1 φ1 st1 P kk} rs1 re1 h1 n=>?_) rs re h;erw[evs,R.bind]at h1;exact n [] H1 [] st1 φ1 .rfl rs1 re1 (by erw[ye]) h1
end
inductive yb9(w:Ag)(fa:Nat->AI):List (AN×Nat)->List CL->Prop
 |nil:yb9 w fa [] []
 |cons {k:AN} {i:Nat} {t:HS} {D:List (AN×Nat)} {es:List CL} (h:yb9 w fa D es):yb9 w fa ((k,i)::D) (⟨EC w.params k,.str k t,.ref (fa i)⟩ :: es)
def GDF(K:AF)(w:Ag)(mg:AN->Option AG)(fa:Nat->AI)(x:AN)(D:List (AN×Nat)):Prop:=
 ∃(y:AI) (es:Array CL) (ep:Nat),mg x=AA (.ref y)/\K.lookup y=AA ⟨.type "dict",AD,.dict es ep,#[]⟩/\yb9 w fa D es.toList/\(D.map (·.1)).Nodup
theorem yb9.pairs{P:A3}{w:Ag}{fa:Nat->AI}{D:List (AN×Nat)}{es:List CL}(h:yb9 w fa D es):
  ∃vs:List (AN×AG),Pairs (strKind P w) es vs/\(∀e∈es,∃k,(strKind P w).is k e.key=AB/\e.hash=(strKind P w).hash k)/\vs.map (·.1)=D.map (·.1) /\
   ∀s i,D.lookup s=AA i->valueAt vs s=AA (.ref (fa i)):=by
 induction h with
 |nil=>exact⟨[],.nil,λe he=>(by cases he),rfl,λs v e=>by cases e⟩
 |@cons k i t D es h ih=>
  let⟨vs,h1,h2,h3,h5⟩:=ih;have hat:∀s,valueAt ((k,Ad (fa i))::vs) s=if k=s then AA (.ref (fa i))else valueAt vs s:=λs=>by
   unfold valueAt;rw[CC]
   by_cases e:k=s
   .simp[e]
   .simp[e]
  refine⟨(k,.ref (fa i))::vs,.cons (DX P w k t) rfl h1,λe he=>?_,by rw[AL,AL,h3],λs j e=>?_⟩
  .rcases AR.1 he with rfl|he
   .exact⟨k,DX P w k t,rfl⟩
   .exact h2 e he
  .rw[hat];erw[Bu]at e
   by_cases q:k=s
   .subst q;rw[beq_self_eq_true]at e
    cases e
    rw[if_pos rfl]
   .rw[beq_eq_false_iff_ne.2 (BE q)]at e;rw[if_neg q];exact h5 s j e
section
variable {S:Se}{X:Cx}{σ:St}{B:AI->Prop}{φ:Ph}{H:Hp}{st:SO}{ρ:IC.Env}{pos p p1 p2 p3 p4 p5 p6 p7:CT}{a b i e n:AS}{es:List AS}{ca cn:Ce}{ces:Ces}{x y:AN}{D:List (AN×Nat)}{ty:TE}{t:TA}{fa:Nat->AI}{fdd:Nat->Az}{ps:Nat->List AN}{k ix:Nat}
def ycY(D:List (AN×Nat))(fa:Nat->AI)(ty:TE):TE:=λσ H Q=>ty σ H λz H2=>∃s j,z=.str s/\D.lookup s=AA j/\Q (.ref (fa j)) H2
def zjr(hg:Gl X x)(h:GDF X.K X.w X.mg fa x D)(hi:PE X i ty)(hs:ycU i)(hd:(x==("__debug__":AN))=false:=by decide):PE X (.Subscript (.Name x p) i pos) (ycY D fa ty):=by
 let⟨y,es,ep,hm,hk,hr,hn⟩:=h;let⟨vs,h1,h2,h3,h5⟩:=hr.pairs (P:=X.prog);intro π s σ H Q I q0;refine zij EJ.lookup hs (thn (zdC (v:=.ref y) hg hm rfl hd π s σ H (λz H1=>z=.ref y/\ty σ H1 λz H2=>∃s j,z=.str s/\D.lookup s=AA j/\Q (.ref (fa j)) H2) I ⟨rfl,q0⟩) λu s1 kq=>?_);let⟨z,H1,I1,rz,ez,q1⟩:=kq;refine thn (hi π s1 σ H1 _ I1 q1) λiv s2 kq=>?_;let⟨z2,H2,I2,rz2,sx,j,ez2,e,q2⟩:=kq;subst ez;subst ez2;obtain rfl:u=Ad y:=rz;let⟨t,rfl⟩:=rz2;have dd:s2.heap.DictOf (strKind X.prog X.w) y vs:=⟨_,es,ep,I2.kIn y _ hk,⟨rfl,rfl,rfl⟩,rfl,λe he=>h2 e (by simpa using he),h1,by rw[h3];exact hn⟩;exact⟨dd.typeIs,GN (DX X.prog X.w sx t) dd.mapOf (h5 sx j e) ⟨.ref (fa j),H2,I2.tok _,rfl,q2⟩⟩
structure Makers(S:Se)(X:Cx)(k:Nat)(D:List (AN×Nat))(fa:Nat->AI)(fdd:Nat->Az)(ps:Nat->List AN):Prop where
 F:∀s j,D.lookup s=AA j->yaI X.prog X.w X.K X.mg X.base (CX1 X.prog X.w) k (fa j) (fdd j) (ps j) (spI X.K S.cl S.call j)
 kp:∀s j,D.lookup s=AA j->Al X.K (.ref (fa j))=AB
 b:∀s j,D.lookup s=AA j->Binds X.K (fdd j) (ps j) []
def yc5(S:Se)(X:Cx)(D:List (AN×Nat))(fa:Nat->AI)(ix:Nat)(t:TA):TE:=λσ H Q=>∃s j,D.lookup s=AA j/\σ[ix]?=AA (AA (.ref (fa j)))/\t σ H λvs H1=>∃E:XK,spI X.K S.cl S.call j vs H1 Q E/\∀π s e s',Inv X π σ H1 s->CX1 X.prog X.w X.stack H1 s E e s'->X.xe e s'
def zf9(M:Makers S X k D fa fdd ps)(hr:yap k X.A)(hN:X.N[ix]?=AA x)(hv:Vis X.env.scope x)(ha:PA X (e::es) t)
  (hd:(x==("__debug__":AN))=false:=by decide) (hcd:(x==("__classdict__":AN))=false:=by decide) (he:starEach (e::es) X.env=(AC,eval e X.env)::starEach es X.env:=by rfl) (hpl:(backTo pos (starEach es X.env)).any (·.1)=false:=by rfl):
  PE X (.Call (.Name x p) (e::es) [] pos) (yc5 S X D fa ix t):=by
 intro π s σ H Q I ⟨sx,j,hl,hs,h⟩;refine BZ (thn (zky hN hv hd hcd π s σ H (λz H1=>z=.ref (fa j)/\t σ H1 λvs H1=>∃E:XK,spI X.K S.cl S.call j vs H1 Q E/\∀π s e s',Inv X π σ H1 s->CX1 X.prog X.w X.stack H1 s E e s'->X.xe e s') I ⟨_,hs,rfl,h⟩) λu s1 kq=>?_);let⟨z,H1,I1,rz,ez,q1⟩:=kq;subst ez;obtain rfl:u=Ad (fa j):=rz;refine DA (h₀:=X.base) I.ok.mod.kin (M.kp sx j hl) (thn (ha pos π s1 σ H1 _ I1 q1) λus s2 kq=>?_) he hpl;let⟨vs,H2,I2,r,E,q,hx⟩:=kq;refine ⟨I2.kIn,?_⟩;exact zdo (M.F sx j hl) hr (M.b sx j hl) .nil I2 r (by rw[Ap];exact q) λe s' c=>hx π s2 e s' I2 c
def ziD{L:List (AN×Nat)}{v:Option (Option PV)}{j:Nat}(h:ycu L v=AA j):v=AA (AA (.fnc j))/\∃s,L.lookup s=AA j:=by
 unfold ycu at h;split at h
 .split at h
  .rename_i q
   cases h
   let⟨p,_,q⟩:=DV.1 q;erw[AK,beq_iff_eq]at q;exact⟨rfl,p.1,q.2⟩
  .cases h
 .cases h
def zn0(M:Makers S X k D (λj=>S.cl (1000+j)) fdd ps)(hr:yap k X.A)(hN:X.N[ix]?=AA x)(hv:Vis X.env.scope x)(ha:PA X (e::es) (tAs S X ces))
  (hd:(x==("__debug__":AN))=false:=by decide) (hcd:(x==("__classdict__":AN))=false:=by decide) (he:starEach (e::es) X.env=(AC,eval e X.env)::starEach es X.env:=by rfl) (hpl:(backTo pos (starEach es X.env)).any (·.1)=false:=by rfl):
  PE X (.Call (.Name x p) (e::es) [] pos) (tE S X (.cav ix D ces)):=
 (zf9 M hr hN hv ha hd hcd he hpl).imp λσ H Q ⟨B,φ,st,ρ,rs,re,h⟩=>by
  erw[ev]at h
  cases q:ycu D ρ[ix]? with
  |none=>rw[q]at h;exact h.elim
  |some j=>
   rw[q]at h;let⟨q1,s,hl⟩:=ziD q;let⟨u,hu,rv⟩:=re.get ix _ q1;erw[yd]at rv;subst rv;exact⟨s,j,hl,hu,tAs.bind rs re h λxs H1 vs st1 φ1 s1 rs1 re1 rv h1=>zaP rs1 rv h1⟩
theorem yJ.hole{K:AF}{cl:Nat->AI}{v:V}(re:yJ K cl B φ H ρ σ):yJ K cl B φ H (ρ.set ix AD) (σ.set ix (AA v)):=by
 refine⟨by simp[re.len],λj w e=>?_⟩
 by_cases q:ix=j
 .subst q
  by_cases hj:ix<ρ.length
  .rw[A4 hj]at e;cases e
  .rw[BU (by simp;lia)]at e;cases e
 .rw[AM q]at e ⊢;exact re.get j w e
def zjm{v:PV}{j:Nat}{b:Bool}(h:mkV D b v=AA j):∃s,v=.str s/\D.lookup s=AA j/\b=true:=by
 cases v with
 |str s=>
  cases b with
  |true=>exact⟨s,rfl,h,rfl⟩
  |false=>cases h
 |_=>cases h
def zoU(M:Makers S X k D fa fdd ps)(hr:yap k X.A)(hN:X.N.Nodup)(hi:X.N[ix]?=AA x)(hx:Loc X.env.scope x)(hv:Vis X.env.scope x)(hg:Gl X y)(hd:GDF X.K X.w X.mg fa y D)(hn:PE X n (tE S X cn))(ha:PA X (e::es) (tAs S X ces))
  (hs:ycU n:=by exact λ_ _=>rfl) (hsw:swapsWith (.Subscript (.Name y p2) n p3) (AA (.Name x p1)) p4.line X.env=pure false:=by rfl) (hf:X.fn x=AB \/ X.env.scope.names.lookup x=AA .local:=by first|exact .inl rfl|exact .inr rfl|assumption)
  (hyd:(y==("__debug__":AN))=false:=by decide) (hxd:(x==("__debug__":AN))=false:=by decide) (hcd:(x==("__classdict__":AN))=false:=by decide) (he:starEach (e::es) X.env=(AC,eval e X.env)::starEach es X.env:=by rfl) (hpl:(backTo p6 (starEach es X.env)).any (·.1)=false:=by rfl):
  PSs X [.Assign [.Name x p1] (.Subscript (.Name y p2) n p3) p4,.Return (AA (.Call (.Name x p5) (e::es) [] p6)) p7] (tSs S X (.cons (.mkr ix D cn ces) .nil)):=
 (zf0 (zkW hN hi hx (zjr hg hd hn hs hyd) hsw hf) (zk4 (zkt (zf9 M hr hi hv ha hxd hcd he hpl)))).imp λD' σ H ⟨B,φ,st,ρ,rs,re,h⟩=>by
  have h:yaF S X B φ H (ex S.call ρ st (.mkr ix D cn ces)) D':=by
   erw[exs]at h
   cases q:ex S.call ρ st (.mkr ix D cn ces)with
   |nx ρ' s'=>
    exfalso;erw[ex]at q
    cases q1:ev S.call ρ st cn with
    |ok v1 s1=>
     rw[q1]at q;erw[R.fl]at q;split at q
     .rename_i j _
      cases q2:(evs S.call (ρ.set ix AD) s1 ces).bind λvs st2=>S.call j vs st2 with
      |ok v2 s2=>rw[q2]at q;cases q
      |exc c s2=>rw[q2]at q;cases q
      |bad=>rw[q2]at q;cases q
     .cases q
    |exc c s1=>rw[q1]at q;cases q
    |bad=>rw[q1]at q;cases q
   |rt v s'=>rw[q]at h;exact h
   |bk ρ' s'=>rw[q]at h;exact h
   |ct ρ' s'=>rw[q]at h;exact h
   |exc c ρ' s'=>rw[q]at h;exact h
   |bad=>rw[q]at h;exact h
  erw[ex]at h;refine tE.fl rs re h λx' H1 v st1 φ1 s1 rs1 re1 rv h1=>?_
  cases q:mkV D (decide (ix<ρ.length)) v with
  |none=>rw[q]at h1;exact h1.elim
  |some j=>
   rw[q]at h1;let⟨sx,rfl,hl,hb⟩:=zjm q;erw[yd]at rv;subst rv;have hlen:ix<σ.length:=by
    rw[<-re1.len];exact of_decide_eq_true hb
   refine⟨sx,j,rfl,hl,sx,j,hl,by rw[A4 hlen],B,φ1,st1,ρ.set ix AD,rs1,re1.hole,?_⟩;dsimp only at h1
   cases q2:evs S.call (ρ.set ix AD) st1 ces with
   |bad=>rw[q2]at h1;exact h1
   |exc c s2=>rw[q2]at h1;exact λe s' z=>h1 _ φ1 H1 e s' .rfl re1.hole z
   |ok vs st2=>
    rw[q2]at h1;intro xs H2 φ2 s2 rs2 rl;have h2:yaF S X B φ1 H1 ((S.call j vs st2).fl (ρ.set ix AD) λv st3=>.rt v st3) D':=h1;refine zaP rs2 rl ?_
    cases q3:S.call j vs st2 with
    |bad=>rw[q3]at h2;exact h2
    |ok v st3=>rw[q3]at h2;exact λx H' φ' s' rs' rv=>h2 x H' φ' (s2.trans s') rs' rv
    |exc c st3=>rw[q3]at h2;exact λe s' z=>h2 _ φ2 H2 e s' s2 (re1.hole.step s2) z
end
section
variable {P:A3}{w:Ag}{K:AF}{mg:AN->Option AG}{base:BB}{cl:Nat->AI}{T:Nat->Option IC.Fn}{fi:Nat}{fn:IC.Fn}{x qual:AN}{stm:Bz}{f:AI}{fd:Az}{N ps:List AN}{k m:Nat}
def zjU:yaI P w K mg base (CX1 P w) m f fd ps (spI K cl (yc T 0) fi):=
 ⟨λvs H Q E ⟨_,_,_,_,_,_,h⟩=>by rw[yc]at h;exact h.elim,λA outer s H args us vs Q E _ _ _ _ ⟨_,_,_,_,_,_,h⟩=>by rw[yc]at h;exact h.elim⟩
end
theorem ydi.units{k:Nat}{A:Ar}(r:ydi k A):A.units+64<cLine:=by have:=r.un;lia
section
variable {P:A3}{w:Ag}{K:AF}{mg:AN->Option AG}{base:BB}{cl:Nat->AI}{T:Nat->Option IC.Fn}{fi:Nat}{fn:IC.Fn}{x qual:AN}{stm:Bz}{f:AI}{fd:Az}{N ps:List AN}{k m:Nat}
end
section
variable {S:Se}{X:Cx}{σ:St}{B:AI->Prop}{φ:Ph}{H:Hp}{st:SO}{ρ:IC.Env}{p pos:CT}{e:AS}{es:List AS}{ces:Ces}{fi k:Nat}{x:AN}{f:AI}{fd:Az}{ps:List AN}
end
end L2
namespace L2
open PySem IC
section
variable {S:Se}{X:Cx}{σ:St}{B:AI->Prop}{φ φ1:Ph}{H H1:Hp}{st:SO}{ρ:IC.Env}{p pos p2 px py pt pt2:CT}{a b c d o a' b' c' d':AS}{ca cb cc cd ce cf:Ce}{π:List (AI×CF)}{s:AJ}{kt k2:Nat}{es:List AS}{ces:Ces}{x:AN}
end
end L2
namespace L2
open PySem PySem.Spec PyProof.Rows
section
variable {X:Cx}
end
end L2
namespace L2
open PySem PySem.Spec PyProof.Rows IC
section
variable {S:Se}{X:Cx}{σ:St}{B:AI->Prop}{φ φ1:Ph}{H H1:Hp}{st:SO}{ρ:IC.Env}{p pos p2 apos:CT}{a b c d:AS}{ca cb cc:Ce}{es:List AS}{ces:Ces}{K:AF}{cl:Nat->AI}
end
section
variable {S:Se}{X:Cx}{a b:AS}{c i:Nat}{j:Int}{f:AN}{pos tpos:CT}
def zmR(hc:Cls X.K (S.cl c))(hn:yaq X.K (S.cl c) f)(ha:PE X a (tE S X (.var i)))(hv:PE X b (tE S X (.cst (.int j)))):
  PS X (.AugAssign (.Attribute a f tpos) .Add b pos) (tS S X (.sfl c (.var i) f (.bin .add (.fld c (.var i) f) (.cst (.int j))))):=
 (zhL ha hv znB).imp λD σ H ⟨B,φ,st,ρ,rs,re,h⟩=>by
  erw[ex,ev]at h
  cases q:ρ[i]? with
  |none=>rw[q]at h;exact h.elim
  |some o=>
   cases o with
   |none=>rw[q]at h;exact h.elim
   |some x=>
    rw[q]at h;dsimp only[R.bind]at h;refine⟨B,φ,st,ρ,rs,re,?_⟩;erw[ev,q];intro x' H1 φ1 s1 rs1 rx;have re1:=re.step s1;have h:=yaF.on s1 h
    cases e:yaZ c st x f with
    |none=>rw[e]at h;exact h.elim
    |some v=>
     rw[e]at h;let⟨n,fs,rfl,hn',l⟩:=zgE e;let⟨y,ks,dx,rfl,hp,hy,lr⟩:=rs1.ins rx hn';let⟨x,hx,rxv⟩:=lr.lookup.1 v l;refine⟨y,S.cl c,dx,ks,x,rfl,hy,hc,hn,hx,⟨B,φ1,st,ρ,rs1,re1,?_⟩⟩;erw[ev];intro y' H2 φ2 s2 rs2 ry;erw[yd]at ry;subst ry
     cases v with
     |int k=>
      erw[yd]at rxv;subst rxv;refine⟨k,j,rfl,rfl,?_⟩;have h:yaF S X B φ1 H1 (match ya0 c st (.loc n) f (.int (k+j))with|some st3=>Fl.nx ρ st3|none=>Fl.bad) D:=h;have h:=yaF.on s2 h;have rx2:=rx.step s2;let⟨y2,ks2,dx2,e2,hp2,hy2,lr2⟩:=rs2.ins rx2 hn'
      cases e2
      cases e3:ya0 c st (.loc n) f (.int (k+j))with
      |none=>rw[e3]at h;exact h.elim
      |some st4=>
       rw[e3]at h;let⟨n',fs',z,hn2,hl,rfl⟩:=zgm e3
       cases z
       rw[hn']at hn2
       cases hn2
       refine⟨dx2,ks2,hy2,by rw[<-lr2.len];exact hl,?_⟩;have s4:Step φ2 H2 φ2 (L2.upd H2 y (.ins (S.cl c) dx2 (yaX f (.int (k+j)) ks2))):=.put (A1 hp2);exact h σ _ φ2 s4 (rs2.put (o:=.ins c (ybM f (.int (k+j)) fs)) hp2 ⟨_,⟨dx2,zq⟩,(FS.put (by erw[yd]) lr2).step s4⟩) ((re1.step s2).step s4)
     |_=>exact h.elim
end
end L2
namespace HT
open PySem PySem.Spec PyProof.Rows
section
variable {prog:A3}{w:Ag}{A:Ar}{E:AG->AJ->Prop}{s:AJ}
end
end HT
namespace L2
open PySem PySem.Spec PyProof.Rows IC
section
variable {S:Se}{X:Cx}{pos p2:CT}{e e3:AS}{te t3:TE}{a:AS}{ca c3:Ce}
theorem ye.reverse{K:AF}{cl:Nat->AI}{B:AI->Prop}{φ:Ph}{H:Hp}:∀{vs:List PV} {xs:List V},ye K cl B φ H vs xs->ye K cl B φ H vs.reverse xs.reverse
 |[],xs,h=>by
  erw[ye]at h;subst h;erw[List.reverse_nil,ye]
 |v::vs,xs,h=>by
  erw[ye]at h;let⟨y,ys,rfl,r,l⟩:=h;rw[DI,DI];exact(ye.reverse l).append (by erw[ye];exact⟨y,[],rfl,r,rfl⟩)
end
section
variable {X:Cx}{prog:A3}{w:Ag}{A:Ar}{E:AG->AJ->Prop}{s:AJ}
end
section
variable {S:Se}{X:Cx}{pos px:CT}{a:AS}{ca:Ce}
end
end L2
namespace L2
open PySem PySem.Spec PyProof.Rows IC WK
inductive GK where
 |fn (i:Nat)|fnD (i:Nat)|cst (v:PV)|dct (D:List (AN×PV))|exc (c:Nat)|cls (c i:Nat)
structure Gs where
 g:AN->Option GK
 b:AN->Bool
 t:Ty->Bool
 fl:Nat->AN->Bool
 me:Nat->AN->Option Nat
 kb:Nat->Nat->List AN->Option (List (Option Int))
 mr:AN->Option (List (AN×Nat))
 fv:AN->Nat->Bool
structure Kx where
 N:List AN
 sc:Bk
 own:Bool
def Fo(m:Nat)(S:Se)(X:Cx)(i:Nat)(f:AI)(fd:Az)(ps:List AN):Prop:=yaI X.prog X.w X.K X.mg X.base (CX1 X.prog X.w) m f fd ps (spI X.K S.cl S.call i)
def zpI{β:Type}{x:AN}{k:β}:∀{l:List (AN×β)},l.lookup x=AA k->(x,k)∈l
 |[],h=>nomatch h
 |y::l,h=>by
  rw[B5]at h
  cases hx:x==y.1 with
  |true=>rw[hx]at h;cases h;rw[eq_of_beq hx];exact Aj
  |false=>rw[hx]at h;exact AQ _ (zpI h)
structure Glo(γ:Gs)(m:Nat)(S:Se)(X:Cx):Prop where
 F:∀x i,γ.g x=AA (.fn i)->∃f fd ps,Fo m S X i f fd ps/\X.mg x=AA (.ref f)/\Al X.K (.ref f)=AB/\Binds X.K fd ps []
 Q:∀x i np ks sh,γ.g x=AA (.fnD i)->γ.kb i np ks=AA sh->∃f fd ps,Fo m S X i f fd ps/\X.mg x=AA (.ref f)/\Al X.K (.ref f)=AB/\∃g,ybH X.K fd ps ks g (gK np sh)
 C:∀x v,γ.g x=AA (.cst v)->GC X.K X.mg S.cl x v \/ ∃i,v=.int i/\GCI X.mg x i
 D:∀x d,γ.g x=AA (.dct d)->GD X.K X.w X.mg S.cl x d
 E:∀x c,γ.g x=AA (.exc c)->yc0 X.K X.mg (S.cl c) x
 N:∀x c i,γ.g x=AA (.cls c i)->X.mg x=AA (.ref (S.cl c))/\∃f fd ps,Mk X.K (S.cl c) f/\Fo m S X i f fd ps/\Binds X.K fd ps []
 B:∀x,γ.b x=AB->X.mg x=AD
 T:∀t,γ.t t=AB->yd0 X.K t
 A:∀c f,γ.fl c f=AB->Cls X.K (S.cl c)/\yaq X.K (S.cl c) f
 M:∀c n i,γ.me c n=AA i->Cls X.K (S.cl c)/\∃f fd ps,Meth X.K (S.cl c) n f/\Fo m S X i f fd ps/\Binds X.K fd ps []
 K:∀y D,γ.mr y=AA D->∃fa fdd ps,Makers S X m D fa fdd ps/\GDF X.K X.w X.mg fa y D
 V:∀x i,γ.g x=AA (.fn i)->γ.fv x i=AB->X.mg x=AA (.ref (S.cl (1000+i)))
theorem Glo.mkr{γ:Gs}{m:Nat}{S:Se}{X:Cx}(G:Glo γ m S X){p:AN×Nat}{L:List (AN×Nat)}(h:∀q∈p::L,γ.g q.1=AA (.fn q.2)/\γ.fv q.1 q.2=AB):∃fdd ps,Makers S X m (p::L) (λj=>S.cl (1000+j)) fdd ps:=by
 have one:∀q∈p::L,∃z:Az×List AN,Fo m S X q.2 (S.cl (1000+q.2)) z.1 z.2/\Al X.K (.ref (S.cl (1000+q.2)))=AB/\Binds X.K z.1 z.2 []:=λq hq=>by
  let⟨f,fd,ps,h1,h2,h3,h4⟩:=G.F q.1 q.2 (h q hq).1;have e:=G.V q.1 q.2 (h q hq).1 (h q hq).2;rw[h2]at e
  cases e
  exact⟨(fd,ps),h1,h3,h4⟩
 have all:∀j,∃z:Az×List AN,(∃s,(p::L).lookup s=AA j)->Fo m S X j (S.cl (1000+j)) z.1 z.2/\Al X.K (.ref (S.cl (1000+j)))=AB/\Binds X.K z.1 z.2 []:=λj=>by
  by_cases hj:∃s,(p::L).lookup s=AA j
  .let⟨s,hs⟩:=hj;let⟨z,hz⟩:=one (s,j) (zpI hs);exact⟨z,λ_=>hz⟩
  .let⟨z,_⟩:=one p Aj;exact⟨z,λq=>absurd q hj⟩
 let⟨f,hf⟩:=Classical.skolem.1 all;exact⟨λj=>(f j).1,λj=>(f j).2,⟨λs j e=>(hf j ⟨s,e⟩).1,λs j e=>(hf j ⟨s,e⟩).2.1,λs j e=>(hf j ⟨s,e⟩).2.2⟩⟩
structure Good(γ:Gs)(κ:Kx)(m:Nat)(S:Se)(X:Cx):Prop where
 n:X.N=κ.N
 sc:X.env.scope=κ.sc
 calm:X.calm=AB
 room:yap (m+1) X.A
 own:κ.own=AB->EV (model X.prog X.w) X.A X.env X.xe/\(∀x,X.fn x=AB)/\S.may=AB
 glo:Glo γ m S X
abbrev Pr(P:Prop):Type:=Option (PLift P)
abbrev YE(γ:Gs)(κ:Kx)(e:AS)(c:Ce):Prop:=∀m S X,Good γ κ m S X->PE X e (tE S X c)
abbrev YT(γ:Gs)(κ:Kx)(e:AS)(c:Ce):Prop:=∀m S X,Good γ κ m S X->PT X e (tTs S X c)
abbrev YW(γ:Gs)(κ:Kx)(e:AS)(c:Ce):Prop:=∀m S X,Good γ κ m S X->PW X e (tTs S X c)
abbrev YA(γ:Gs)(κ:Kx)(e:List AS)(c:Ces):Prop:=∀m S X,Good γ κ m S X->PA X e (tAs S X c)
abbrev YO(γ:Gs)(κ:Kx)(e:Option AS)(c:Ce):Prop:=∀m S X,Good γ κ m S X->PO X e (tO S X c)
abbrev YS(γ:Gs)(κ:Kx)(s:Bz)(c:Cs):Prop:=∀m S X,Good γ κ m S X->PS X s (tS S X c)
abbrev YSs(γ:Gs)(κ:Kx)(s:List Bz)(c:Css):Prop:=∀m S X,Good γ κ m S X->PSs X s (tSs S X c)
def an{P Q:Prop}(a:Pr P)(k:P->Pr Q):Pr Q:=match a with
 |some h=>k h.down
 |none=>AD
def ok{P:Prop}(h:P):Pr P:=AA ⟨h⟩
def ask(p:Prop)[Decidable p]:Pr p:=if h:p then AA ⟨h⟩else AD
def nst:AS->Bool
 |.Starred _ _=>AC
 |_=>AB
def za3{a:AS}{es:List AS}{env:BX}(h:nst a=AB):starEach (a::es) env=(AC,eval a env)::starEach es env:=by
 cases a<;>first|rfl|cases h
def ybO(es:List AS):Bool:=es.all nst
theorem stars{pos:CT}{env:BX}:∀{es:List AS},ybO es=AB->(backTo pos (starEach es env)).any (·.1)=AC
 |[],_=>rfl
 |a::es,h=>by
  erw[ybO,Bb,AK]at h;rw[za3 h.1];have:=stars (pos:=pos) (env:=env) (es:=es) h.2;simpa [backTo] using this
def nco:AS->Bool
 |.ListComp ..=>AC
 |.SetComp ..=>AC
 |.DictComp ..=>AC
 |_=>AB
theorem swp{a:AS}{t:Option AS}{l:Nat}{env:BX}(h:nco a=AB):swapsWith a t l env=pure false:=by
 cases a<;>first|rfl|cases h
def nse:AS->Bool
 |.Set ..=>AC
 |_=>AB
theorem fse{a:AS}{env:BX}(h:nse a=AB):∀x,foldedSetIterable a env x=pure x:=by
 cases a<;>first|exact λ_=>rfl|cases h
theorem nmk{op:FR}{a:AS}(h:nse a=AB):behindInMarks op a=false:=by
 cases a<;>first|rfl|cases h
def nsl:AS->Bool
 |.Slice ..=>AC
 |_=>AB
theorem pix{a:AS}(h:nsl a=AB):yby a:=by
 cases a<;>first|exact λ_ _=>rfl|cases h
theorem nos{a:AS}(h:nsl a=AB):ycU a:=pix h
def ntu:AS->Bool
 |.Tuple ..=>AC
 |_=>AB
def nte:AS->Bool
 |.UnaryOp ..=>AC
 |.BoolOp ..=>AC
 |.IfExp ..=>AC
 |.Compare ..=>AC
 |_=>AB
theorem itr{a:AS}{env:BX}(h:nte a=AB):∀whole,isTrue a env whole=(do let v <-whole;standAt a.pos;holding [v] (truthy v)):=by
 cases a<;>first|exact λ_=>rfl|cases h
def nca:AS->Bool
 |.Call ..=>AC
 |_=>AB
def zmc{a:AS}{f:AN}{env:BX}{w:Gg AG}(h:nca a=AB):attributeBase a f env w=w:=by
 cases a<;>first|rfl|cases h
def mOp(op:D7)(o:BOp):Pr (∀S X,OpR X (binaryOp op) (rT2 S X (yq o))):=
 match op,o with
 |.Add,.add=>ok (λ_ _=>zoD)
 |.Sub,.sub=>ok (λ_ _=>zmF)
 |.Mult,.mul=>ok (λ_ _=>zoh)
 |.FloorDiv,.fdiv=>ok (λ_ _=>zma)
 |.Mod,.mod=>ok (λ_ _=>znb)
 |.Pow,.pow=>ok (λ_ _=>zm0)
 |.LShift,.shl=>ok (λ_ _=>znN)
 |.RShift,.shr=>ok (λ_ _=>zmS)
 |.BitAnd,.band=>ok (λ_ _=>zml)
 |.BitOr,.bor=>ok (λ_ _=>zn1)
 |.BitXor,.bxor=>ok (λ_ _=>zl9)
 |_,_=>AD
def mCm(op:FR)(o:COp):Pr (∀m S X,yap m X.A->OpR X (compareOp op) (rT2 S X (yu o))):=
 match op,o with
 |.Eq,.eq=>ok (λ_ _ _ r=>zpt r.units)
 |.NotEq,.ne=>ok (λ_ _ _ r=>zpm r.units)
 |.Lt,.lt=>ok (λ_ _ _ _=>zpF)
 |.LtE,.le=>ok (λ_ _ _ _=>zpj)
 |.Gt,.gt=>ok (λ_ _ _ _=>zpv)
 |.GtE,.ge=>ok (λ_ _ _ _=>zpx)
 |.In,.isin=>ok (λ_ _ _ _=>zo8)
 |_,_=>AD
def ycX(sc:Bk)(x:AN):Bool:=match sc.names.lookup x with
 |some .local=>AB
 |some .cell=>AB
 |some .free=>AB
 |_=>AC
def zfz{sc:Bk}{x:AN}(h:ycX sc x=AB):Vis sc x:=by
 unfold ycX at h;split at h
 .exact .inl ‹_›
 .exact .inr (.inl ‹_›)
 .exact .inr (.inr ‹_›)
 .cases h
def ydJ(sc:Bk)(x:AN):Bool:=match sc.names.lookup x with
 |some .local=>AB
 |some .cell=>AB
 |_=>AC
def zhn{sc:Bk}{x:AN}(h:ydJ sc x=AB):Loc sc x:=by
 unfold ydJ at h;split at h
 .exact .inl ‹_›
 .exact .inr ‹_›
 .cases h
def pln(x:AN):Bool:=!(x==("__debug__":AN))&&!(x==("__classdict__":AN))&&!(x==("__name__":AN))
def zcP{x:AN}(h:pln x=AB):(x==("__debug__":AN))=false:=by
 erw[pln,AK,Ci]at h;exact h.1.1
def zmj{x:AN}(h:pln x=AB):(x==("__classdict__":AN))=false:=by
 erw[pln,AK,Ci]at h;exact h.1.2
def zpb{x:AN}(h:pln x=AB):x ≠ "__name__":=by
 erw[pln,AK,Ci]at h;intro e;rw[e]at h;exact absurd h.2 ⋯
def glB(κ:Kx)(x:AN):Bool:=decide (κ.sc.names.lookup x=AA .globalImplicit)&&pln x
def zaq{γ:Gs}{κ:Kx}{m:Nat}{S:Se}{X:Cx}(G:Good γ κ m S X){x:AN}(h:glB κ x=AB):Gl X x:=by
 erw[glB,AK,decide_eq_true_eq]at h;show X.env.scope.names.lookup x=_;rw[G.sc];exact h.1
def zbB{κ:Kx}{x:AN}(h:glB κ x=AB):pln x=true:=by
 erw[glB,AK]at h;exact h.2
def setB(κ:Kx)(i:Nat)(x:AN):Bool:=decide (κ.N[i]?=AA x)&&decide κ.N.Nodup&&ydJ κ.sc x&&(κ.own || decide (κ.sc.names.lookup x=AA .local))&&pln x
structure yeu(X:Cx)(i:Nat)(x:AN):Prop where
 d:X.N.Nodup
 i:X.N[i]?=AA x
 l:Loc X.env.scope x
 f:X.fn x=AB \/ X.env.scope.names.lookup x=AA .local
 p:pln x=AB
def zbc{γ:Gs}{κ:Kx}{m:Nat}{S:Se}{X:Cx}(G:Good γ κ m S X){i:Nat}{x:AN}(h:setB κ i x=AB):yeu X i x:=by
 erw[setB,AK,Cy,decide_eq_true_eq]at h;let⟨⟨⟨⟨h1,h2⟩,h3⟩,h4⟩,h5⟩:=h;refine⟨by rw[G.n];exact h2,by rw[G.n];exact h1,by rw[G.sc];exact zhn h3,?_,h5⟩;rcases h4 with h4|h4
 .exact .inl ((G.own h4).2.1 x)
 .exact .inr (by rw[G.sc];exact h4)
def gFn(γ:Gs)(x:AN)(i:Nat):Pr (γ.g x=AA (.fn i)):=match h:γ.g x with
 |some (.fn j)=>if e:j=i then AA ⟨by subst e;rfl⟩else AD
 |_=>AD
section
variable {γ:Gs}{κ:Kx}{ca cb cc:Ce}{ces:Ces}
def yeN(v:PV)(e:AS):Pr (YE γ κ e (.cst v)):=
 match e with
 |.Constant (.int i) _ _=>match v with
  |.int j=>an (ask (i=j)) λh=>ok (λ_ _ _ _=>by cases h;exact zkM)
  |_=>AD
 |.Constant (.bool i) _ _=>match v with
  |.bl j=>an (ask (i=j)) λh=>ok (λ_ _ _ _=>by cases h;exact zpD)
  |_=>AD
 |.Constant .none _ _=>match v with
  |.non=>ok (λ_ _ _ _=>zmX)
  |_=>AD
 |.Constant (.str i) _ _=>match v with
  |.str j=>an (ask (i=j)) λh=>ok (λ_ _ _ _=>by cases h;exact zmO)
  |_=>AD
 |_=>AD
def yeQ(i:Nat)(e:AS):Pr (YE γ κ e (.var i)):=
 match e with
 |.Name x _=>an (ask (κ.N[i]?=AA x/\ycX κ.sc x=AB/\pln x=AB)) λh=>ok (λ_ _ _ G=>zoX (by rw[G.n];exact h.1) (by rw[G.sc];exact zfz h.2.1) (zcP h.2.2) (zmj h.2.2))
 |_=>AD
def yf8(o:BOp)(e:AS)(fa:∀x,Pr (YE γ κ x ca))(fb:∀x,Pr (YE γ κ x cb)):Pr (YE γ κ e (.bin o ca cb)):=
 match e with
 |.BinOp a op b _=>
  an (mOp op o) λho=>an (fa a) λha=>an (fb b) λhb=>ok (λm S X G=>zol (ho S X) (ha m S X G) (hb m S X G))
 |_=>AD
def yfV(e:AS)(fa:∀x,Pr (YE γ κ x ca)):Pr (YE γ κ e (.neg ca)):=
 match e with
 |.UnaryOp .USub a _=>
  an (fa a) λha=>ok (λm S X G=>zkR (ha m S X G))
 |_=>AD
def ygZ(e:AS)(fa:∀x,Pr (YE γ κ x ca)):Pr (YE γ κ e (.not ca)):=
 match e with
 |.UnaryOp .Not a _=>
  an (fa a) λha=>ok (λm S X G=>znX (ha m S X G))
 |_=>AD
def yf5(o:COp)(e:AS)(fa:∀x,Pr (YE γ κ x ca))(fb:∀x,Pr (YE γ κ x cb)):Pr (YE γ κ e (.cmp o ca cb)):=
 match e with
 |.Compare a [op] [b] _=>
  an (mCm op o) λho=>an (ask (nse b=AB)) λhs=>an (fa a) λha=>an (fb b) λhb=>ok (λm S X G=>znE (ho _ S X G.room) (ha m S X G) (hb m S X G) (nmk hs))
 |_=>AD
def ydV(o:COp)(e:AS)(fa:∀x,Pr (YE γ κ x ca))(fb:∀x,Pr (YE γ κ x cb)):Pr (YT γ κ e (.cmp o ca cb)):=
 match e with
 |.Compare a [op] [b] _=>
  an (mCm op o) λho=>an (ask (nse b=AB)) λhs=>an (fa a) λha=>an (fb b) λhb=>ok (λm S X G=>zoC (ho _ S X G.room) (ha m S X G) (hb m S X G) (nmk hs))
 |_=>AD
theorem lmk{op op':FR}{b c:AS}(h:nse c=AB):lastMarks [op,op'] [b,c]=false:=nmk h
def ygS(o p:COp)(e:AS)(fa:∀x,Pr (YE γ κ x ca))(fb:∀x,Pr (YE γ κ x cb))(fc:∀x,Pr (YE γ κ x cc)):Pr (YE γ κ e (.chain o p ca cb cc)):=
 match e with
 |.Compare a [op,op'] [b,c] _=>
  an (mCm op o) λho=>an (mCm op' p) λhp=>an (ask (nse c=AB)) λhs=>an (fa a) λha=>an (fb b) λhb=>an (fc c) λhc=>ok (λm S X G=>zj0 (ho _ S X G.room) (hp _ S X G.room) (ha m S X G) (hb m S X G) (hc m S X G) (lmk hs))
 |_=>AD
def yeB(o p:COp)(e:AS)(fa:∀x,Pr (YE γ κ x ca))(fb:∀x,Pr (YE γ κ x cb))(fc:∀x,Pr (YE γ κ x cc)):Pr (YT γ κ e (.chain o p ca cb cc)):=
 match e with
 |.Compare a [op,op'] [b,c] _=>
  an (mCm op o) λho=>an (mCm op' p) λhp=>an (ask (nse c=AB)) λhs=>an (fa a) λha=>an (fb b) λhb=>an (fc c) λhc=>ok (λm S X G=>zjp (ho _ S X G.room) (hp _ S X G.room) (ha m S X G) (hb m S X G) (hc m S X G) (lmk hs))
 |_=>AD
def yfS(e:AS)(fc:∀x,Pr (YT γ κ x cc))(fa:∀x,Pr (YE γ κ x ca))(fb:∀x,Pr (YE γ κ x cb)):Pr (YE γ κ e (.ite cc ca cb)):=
 match e with
 |.IfExp c a b _=>
  an (fc c) λhc=>an (fa a) λha=>an (fb b) λhb=>ok (λm S X G=>znW (hc m S X G) (ha m S X G) (hb m S X G))
 |_=>AD
def yfQ(e:AS)(fa:∀x,Pr (YA γ κ x ces)):Pr (YE γ κ e (.tup ces)):=
 match e with
 |.Tuple es _ _=>
  an (fa es) λha=>ok (λm S X G=>znP (ha m S X G))
 |_=>AD
def yfE(e:AS)(fa:∀x,Pr (YA γ κ x ces)):Pr (YE γ κ e (.lst ces)):=
 match e with
 |.List es _=>
  an (fa es) λha=>ok (λm S X G=>zof (ha m S X G))
 |_=>AD
def yek(e:AS)(fa:∀x,Pr (YA γ κ x ces)):Pr (YE γ κ e (.newl ces)):=
 match e with
 |.List es _=>
  an (fa es) λha=>ok (λm S X G=>zmq (ha m S X G))
 |_=>AD
def yew(t:Bool)(e:AS):Pr (YE γ κ e (.dict0 t)):=
 match t,e with
 |true,.Dict [] [] _=>ok (λ_ _ _ _=>ziv)
 |_,_=>AD
def mIdx(e:AS)(fa:∀x,Pr (YE γ κ x ca))(fb:∀x,Pr (YE γ κ x cb)):Pr (YE γ κ e (.idx ca cb)):=
 match e with
 |.Subscript a b _=>
  an (ask (nsl b=AB)) λhs=>an (fa a) λha=>an (fb b) λhb=>ok (λm S X G=>zn3 (ha m S X G) (hb m S X G) (pix hs))
 |_=>AD
def yfl(e:AS)(fa:∀x,Pr (YE γ κ x ca))(fb:∀x,Pr (YO γ κ x cb))(fc:∀x,Pr (YO γ κ x cc)):Pr (YE γ κ e (.slc ca cb cc)):=
 match e with
 |.Subscript a (.Slice l h AD _) _=>
  an (fa a) λha=>an (fb l) λhb=>an (fc h) λhc=>ok (λm S X G=>znd (ha m S X G) (hb m S X G) (hc m S X G))
 |_=>AD
def ye5(c:Ce)(e:Option AS)(fa:∀x,Pr (YE γ κ x c)):Pr (YO γ κ e c):=
 match e with
 |none=>match c with
  |.cst .non=>ok (λ_ _ _ _=>zlU)
  |_=>AD
 |some a=>
  an (fa a) λha=>ok (λm S X G=>zl6 (ha m S X G))
inductive Fs(γ:Gs)(κ:Kx):Ces->Type where
 |nil:Fs γ κ .nil
 |cons {c:Ce} {cs:Ces} (f:∀x,Pr (YE γ κ x c)) (r:Fs γ κ cs):Fs γ κ (.cons c cs)
def yaR:{ces:Ces}->Fs γ κ ces->(es:List AS)->Pr (YA γ κ es ces)
 |_,.nil,[]=>ok λ_ _ _ _=>zhg
 |_,.cons f r,a::es=>an (ask (nst a=AB)) λhs=>an (f a) λha=>an (yaR r es) λhr=>ok λm S X G=>zet (ha m S X G) (hr m S X G) (za3 hs)
 |_,_,_=>AD
structure Sp2(γ:Gs)(κ:Kx)(ces:Ces)(np:Nat) where
 c1:Ces
 c2:Ces
 f1:Fs γ κ c1
 f2:Fs γ κ c2
 h:yaj c1 c2=ces
 l:ycR c1=np
def ycm:(np:Nat)->{ces:Ces}->Fs γ κ ces->Option (Sp2 γ κ ces np)
 |0,ces,F=>AA ⟨.nil,ces,.nil,F,rfl,rfl⟩
 |n+1,_,.cons f r=>match ycm n r with
  |some s=>AA ⟨.cons _ s.c1,s.c2,.cons f s.f1,s.f2,by rw[yaj,s.h],by rw[ycR,s.l]⟩
  |none=>AD
 |_,_,_=>AD
structure It2(γ:Gs)(κ:Kx)(ces:Ces)(sh:List (Option Int))(kws:List C2) where
 it:List (Sum Ce Int)
 h:yr it=ces
 s:it.map shC=sh
 k:∀m S X,Good γ κ m S X->PK X kws (tK S X it)
def yb0:(sh:List (Option Int))->{ces:Ces}->Fs γ κ ces->(kws:List C2)->Option (It2 γ κ ces sh kws)
 |[],_,.nil,[]=>AA ⟨[],rfl,rfl,λ_ _ _ _=>znZ⟩
 |none::sh,.cons c _,.cons f r,⟨_,e,_⟩ :: kws=>match f e,yb0 sh r kws with
  |some h,AA q=>AA ⟨.inl c::q.it,by rw[yr,q.h],by rw[AL,q.s];rfl,λm S X G=>zoZ (h.down m S X G) (q.k m S X G)⟩
  |_,_=>AD
 |some i::sh,.cons (.cst (.int j)) _,.cons _ r,kws=>if e:i=j then match yb0 sh r kws with
  |some q=>AA ⟨.inr i::q.it,by rw[yr,q.h,e],by rw[AL,q.s];rfl,λm S X G=>zpc (q.k m S X G)⟩
  |none=>AD
  else AD
 |_,_,_,_=>AD
def kwN:List C2->List AN
 |[]=>[]
 |⟨AA x,_,_⟩ :: r=>x::kwN r
 |_::r=>kwN r
def kwB:List C2->Bool
 |[]=>AB
 |⟨AA _,_,_⟩ :: r=>kwB r
 |_=>AC
def zoE{pos:CT}{env:BX}:∀{kws:List C2},kwB kws=AB->(backToKw pos (keywordEach kws env)).all (·.1.isSome)=AB/\(backToKw pos (keywordEach kws env)).filterMap (·.1)=kwN kws/\(backToKw pos (keywordEach kws env)).any (·.1.isNone)=AC
 |[],_=>⟨rfl,rfl,rfl⟩
 |⟨AA x,e,_⟩ :: r,h=>by
  let⟨h1,h2,h3⟩:=zoE (pos:=pos) (env:=env) (kws:=r) h;erw[backToKw]at h1 h2 h3 ⊢;erw[keywordEach,AL,Bb,C1,BL,h1,h2,h3,kwN];simp
def yfA(i:Nat)(F:Fs γ κ ces)(e:AS):Pr (YE γ κ e (.call i ces)):=
 match e with
 |.Call (.Name x _) [] [] _=>match F with
  |.nil=>an (ask (glB κ x=AB)) λhg=>an (gFn γ x i) λhf=>ok λm S X G=>by
   let⟨f,fd,ps,h1,h2,h3,h4⟩:=G.glo.F x i hf;exact zjT h1 (G.room.mono (C6 m)) (zaq G hg) h2 h3 h4 (zcP (zbB hg))
  |_=>AD
 |.Call (.Name x _) (a::es) kws _=>an (ask (glB κ x=AB/\nst a=AB/\ybO es=AB)) λhg=>
  match hx:γ.g x with
  |some (.fn j)=>match kws with
   |[]=>an (ask (j=i)) λhj=>an (yaR F (a::es)) λha=>ok λm S X G=>by
    subst hj;let⟨f,fd,ps,h1,h2,h3,h4⟩:=G.glo.F x j hx;exact zlt h1 (G.room.mono (C6 m)) (zaq G hg.1) h2 h3 h4 (ha m S X G) (zcP (zbB hg.1)) (za3 hg.2.1) (stars hg.2.2)
   |_=>AD
  |some (.fnD j)=>match hk:γ.kb j (es.length+1) (kwN kws)with
   |none=>AD
   |some sh=>match ycm (es.length+1) F with
    |none=>AD
    |some s=>match yb0 sh s.f2 kws with
     |none=>AD
     |some q=>an (ask (kwB kws=AB/\j=i)) λhw=>an (yaR s.f1 (a::es)) λha=>ok λm S X G=>by
      let⟨hw,rfl⟩:=hw;let⟨f,fd,ps,h1,h2,h3,h4⟩:=G.glo.Q x j _ _ sh hx hk;rw[<-s.h,<-q.h];rw[<-q.s]at h4;have w:=λ{pos}=>zoE (pos:=pos) (env:=X.env) hw;exact zjG h1 (G.room.mono (C6 m)) (zaq G hg.1) h2 h3 h4 s.l (ha m S X G) (q.k m S X G) w.1 w.2.1 (zcP (zbB hg.1)) (za3 hg.2.1) (by
       rw[w.2.2,Gi];exact stars (es:=a::es) (by erw[ybO,Bb,hg.2.1,Cu];exact hg.2.2))
  |_=>AD
 |_=>AD
abbrev yd7(b:Blt)(x:AN):Prop:=∀S X,X.calm=AB->(∃id,yae X (.builtin id) (rB S X b)/\bootBuiltins x=AA (.builtin id)) \/ ∃T,yae X (.type T) (rB S X b)/\bootBuiltins x=AA (.type T)
def ygr(b:Blt)(x:AN):Pr (yd7 b x):=
 match b with
 |.len=>an (ask (x="len")) λh=>ok λ_ _ _=>.inl ⟨_,zmV,h ▸ znR⟩
 |.int=>an (ask (x="int")) λh=>ok λ_ _ _=>.inr ⟨_,zni,h ▸ zkq⟩
 |.abs=>an (ask (x="abs")) λh=>ok λ_ _ _=>.inl ⟨_,zmP,h ▸ zot⟩
 |.max=>an (ask (x="max")) λh=>ok λ_ _ c=>.inl ⟨_,zoJ c,h ▸ znM⟩
 |.tuple=>an (ask (x="tuple")) λh=>ok λ_ _ _=>.inr ⟨_,zjC,h ▸ zgh⟩
 |.all=>an (ask (x="all")) λh=>ok λ_ _ c=>.inl ⟨_,zng c,h ▸ zmZ⟩
 |.any=>an (ask (x="any")) λh=>ok λ_ _ c=>.inl ⟨_,zoa c,h ▸ znU⟩
 |_=>AD
def yfU(b:Blt)(F:Fs γ κ ces)(e:AS):Pr (YE γ κ e (.blt b ces)):=
 match e with
 |.Call (.Name x _) (a::es) [] _=>an (ask (glB κ x=AB/\nst a=AB/\ybO es=AB/\γ.b x=AB)) λhg=>an (ygr b x) λhb=>an (yaR F (a::es)) λha=>ok λm S X G=>by
  rcases hb S X G.calm with⟨id,h1,h2⟩|⟨T,h1,h2⟩
  .exact zoV h1 (zaq G hg.1) (G.glo.B x hg.2.2.2) h2 (ha m S X G) (zpb (zbB hg.1)) (zcP (zbB hg.1)) (za3 hg.2.1) (stars hg.2.2.1)
  .exact zlv h1 (zaq G hg.1) (G.glo.B x hg.2.2.2) h2 (ha m S X G) (zpb (zbB hg.1)) (zcP (zbB hg.1)) (za3 hg.2.1) (stars hg.2.2.1)
 |_=>AD
def ygh(b:Blt)(F:Fs γ κ ces)(e:AS):Pr (YE γ κ e (.blt b ces)):=
 match b with
 |b=>yfU b F e
def tyB(t:Ty)(x:AN):Pr (yc7 t=AB/\bootBuiltins x=AA (.type (tyN t))):=
 match t with
 |.int=>an (ask (x="int")) λh=>ok ⟨rfl,h ▸ zkq⟩
 |.bool=>an (ask (x="bool")) λh=>ok ⟨rfl,h ▸ zmr⟩
 |.str=>an (ask (x="str")) λh=>ok ⟨rfl,h ▸ znK⟩
 |.tuple=>an (ask (x="tuple")) λh=>ok ⟨rfl,h ▸ zgh⟩
 |_=>AD
def yfR(ts:List Ty)(e:AS)(fa:∀x,Pr (YE γ κ x ca)):Pr (YE γ κ e (.isi ca ts)):=
 match ts,e with
 |[t],.Call (.Name n _) [a,.Name x _] [] _=>an (ask (n="isinstance"/\glB κ n=AB/\γ.b n=AB/\glB κ x=AB/\γ.b x=AB/\γ.t t=AB/\nst a=AB)) λh=>an (tyB t x) λht=>an (fa a) λha=>ok λm S X G=>by
  let⟨rfl,h1,h2,h3,h4,h5,h6⟩:=h;exact zob (G.glo.T t h5) ht.1 (zaq G h1) (G.glo.B _ h2) (zaq G h3) (G.glo.B _ h4) ht.2 (ha m S X G) (zpb (zbB h3)) (zcP (zbB h3)) (za3 h6) rfl
 |_,_=>AD
mutual
noncomputable def ydS:(a b:PV)->Pr (a=b)
 |.non,.non=>ok rfl
 |.bl a,.bl b=>an (ask (a=b)) λh=>ok (by rw[h])
 |.int a,.int b=>an (ask (a=b)) λh=>ok (by rw[h])
 |.str a,.str b=>an (ask (a=b)) λh=>ok (by rw[h])
 |.tp k a,.tp j b=>an (ask (k=j)) λh=>an (ycH a b) λg=>ok (by rw[h,g])
 |.lst a,.lst b=>an (ycH a b) λg=>ok (by rw[g])
 |_,_=>AD
noncomputable def ycH:(a b:List PV)->Pr (a=b)
 |[],[]=>ok rfl
 |a::x,b::y=>an (ydS a b) λh=>an (ycH x y) λg=>ok (by rw[h,g])
 |_,_=>AD
end
def eqD:(a b:List (AN×PV))->Pr (a=b)
 |[],[]=>ok rfl
 |(k,a)::x,(j,b)::y=>an (ask (k=j)) λe=>an (ydS a b) λh=>an (eqD x y) λg=>ok (by rw[e,h,g])
 |_,_=>AD
def ygQ(v:PV)(e:AS):Pr (YE γ κ e (.cst v)):=
 match e with
 |.Name x _=>match h:γ.g x with
  |some (.cst u)=>an (ask (glB κ x=AB)) λhg=>an (ydS u v) λhv=>ok λm S X G=>by
   subst hv;rcases G.glo.C x u h with q|⟨i,rfl,q⟩
   .exact zpr (zaq G hg) q (zcP (zbB hg))
   .exact zmT (zaq G hg) q (zcP (zbB hg))
  |some (.fn i)=>match v with
   |.fnc j=>an (ask (glB κ x=AB/\γ.fv x i=AB/\i=j)) λhg=>ok λm S X G=>by
    let⟨h1,h2,rfl⟩:=hg;exact ziZ (zaq G h1) (G.glo.V x i h h2) (λB φ H=>by erw[yd]) (zcP (zbB h1))
   |_=>AD
  |_=>AD
 |e=>yeN v e
def yeZ(γ:Gs):(L:List (AN×Nat))->Pr (∀q∈L,γ.g q.1=AA (.fn q.2)/\γ.fv q.1 q.2=AB)
 |[]=>ok λq h=>nomatch h
 |p::L=>an (gFn γ p.1 p.2) λh=>an (ask (γ.fv p.1 p.2=AB)) λh1=>an (yeZ γ L) λh2=>ok λq hq=>by
  rcases AR.1 hq with rfl|hq
  .exact⟨h,h1⟩
  .exact h2 q hq
def ygT(i:Nat)(F:Fs γ κ ces)(e:AS):(L:List (AN×Nat))->Pr (YE γ κ e (.cav i L ces))
 |[]=>AD
 |p::L=>match e with
  |.Call (.Name x _) (a::es) [] _=>an (ask (κ.N[i]?=AA x/\ycX κ.sc x=AB/\pln x=AB/\nst a=AB/\ybO es=AB)) λhg=>an (yeZ γ (p::L)) λhl=>an (yaR F (a::es)) λha=>ok λm S X G=>by
   let⟨fdd,ps,M⟩:=G.glo.mkr hl;exact zn0 M (G.room.mono (C6 m)) (by rw[G.n];exact hg.1) (by rw[G.sc];exact zfz hg.2.1) (ha m S X G) (zcP hg.2.2.1) (zmj hg.2.2.1) (za3 hg.2.2.2.1) (stars hg.2.2.2.2)
  |_=>AD
def ygL(D:List (AN×PV))(e:AS)(fb:∀x,Pr (YE γ κ x cb)):Pr (YE γ κ e (.dix D cb)):=
 match e with
 |.Subscript (.Name x _) b _=>match h:γ.g x with
  |some (.dct E)=>an (ask (glB κ x=AB/\nsl b=AB)) λhg=>an (eqD E D) λhv=>an (fb b) λhb=>ok λm S X G=>by
   subst hv;exact zmU (zaq G hg.1) (G.glo.D x E h) (hb m S X G) (nos hg.2) (zcP (zbB hg.1))
  |_=>AD
 |_=>AD
def yfC(D:List (AN×PV))(e:AS)(fa:∀x,Pr (YE γ κ x ca)):Pr (YE γ κ e (.din ca D)):=
 match e with
 |.Compare a [.In] [.Name x _] _=>match h:γ.g x with
  |some (.dct E)=>an (ask (glB κ x=AB)) λhg=>an (eqD E D) λhv=>an (fa a) λha=>ok λm S X G=>by
   subst hv;exact zn5 (zaq G hg) (G.glo.D x E h) (ha m S X G) rfl (zcP (zbB hg))
  |_=>AD
 |_=>AD
def zpJ{pos:CT}{env:BX}:∀{es:List AS},ybO es=AB->((backTo pos (starEach es env)).all λx=>!x.1)=AB
 |[],_=>rfl
 |a::es,h=>by
  erw[ybO,Bb,AK]at h;have:=zpJ (pos:=pos) (env:=env) (es:=es) h.2;erw[backTo]at this ⊢;rw[za3 h.1,AL,Bb,this];rfl
def zkC{o:AS}{n:AN}{ap pos:CT}{es:List AS}{env:BX}(hb:nca o=AB)(hs:ybO es=AB)(hn:es.length<30)(hl:(ap.endLine==pos.line)=AB):
  eval (.Call (.Attribute o n ap) es [] pos) env=(do
   let ov <-eval o env
   standAt ap.atName
   let (f,first) <-holding [ov] (getMethod ov n (do return (<-importBound o env).getD AB))
   callWith pos f first (backTo pos (starEach es env)) (backToKw pos (keywordEach [] env))):=by
 have hf:methodCallForm (es.length+([]:List C2).length) (backTo pos (starEach es env)) (backToKw pos (keywordEach [] env))=true:=by
  erw[methodCallForm,zpJ hs,Cu];simp[backToKw,keywordEach,hn]
 rw[arm_eval_Call,zmc hb];erw[methodCall,calleeOf,methodCallPos,hf,hl,if_true,Bool.not_true,HA,pure_bind]
def yfB(c:Nat)(f:AN)(e:AS)(fa:∀x,Pr (YE γ κ x ca)):Pr (YE γ κ e (.fld c ca f)):=
 match e with
 |.Attribute a g _=>an (ask (g=f/\γ.fl c f=AB/\nca a=AB)) λh=>an (fa a) λha=>ok λm S X G=>by
  let⟨rfl,h1,h2⟩:=h;exact znY (G.glo.A c g h1).1 (G.glo.A c g h1).2 (ha m S X G) (zmc h2)
 |_=>AD
def yg0(c i:Nat)(F:Fs γ κ ces)(e:AS):Pr (YE γ κ e (.new c i ces)):=
 match e with
 |.Call (.Name x _) (a::es) [] _=>match h:γ.g x with
  |some (.cls c' i')=>an (ask (c'=c/\i'=i/\glB κ x=AB/\nst a=AB/\ybO es=AB)) λhg=>an (yaR F (a::es)) λha=>ok λm S X G=>by
   let⟨rfl,rfl,h1,h2,h3⟩:=hg;let⟨q,f,fd,ps,q1,q2,q3⟩:=G.glo.N x c' i' h;exact znr q1 q2 G.room (zaq G h1) q q3 (ha m S X G) (zcP (zbB h1)) (za3 h2) (stars h3)
  |_=>AD
 |_=>AD
def ygK(c i:Nat)(n:AN)(F:Fs γ κ ces)(e:AS)(fa:∀x,Pr (YE γ κ x ca)):Pr (YE γ κ e (.mcl c i n ca ces)):=
 match e with
 |.Call (.Attribute (.Name x p) n' ap) [] [] pos=>match F with
  |.nil=>an (ask (n'=n/\γ.me c n=AA i/\(ap.endLine==pos.line)=AB)) λh=>an (fa (.Name x p)) λho=>ok λm S X G=>by
   let⟨rfl,h1,h4⟩:=h;let⟨q,f,fd,ps,q1,q2,q3⟩:=G.glo.M c n' i h1;exact zmz q q1 q2 (G.room.mono (C6 m)) q3 (ho m S X G) (zkC rfl rfl (Nat.zero_lt_succ _) h4)
  |_=>AD
 |.Call (.Attribute (.Name x p) n' ap) (a::es) [] pos=>an (ask (n'=n/\γ.me c n=AA i/\nst a=AB/\ybO es=AB/\(ap.endLine==pos.line)=AB/\(a::es).length<30)) λh=>an (fa (.Name x p)) λho=>an (yaR F (a::es)) λha=>ok λm S X G=>by
  let⟨rfl,h1,h2,h3,h4,h5⟩:=h;let⟨q,f,fd,ps,q1,q2,q3⟩:=G.glo.M c n' i h1;exact znt q q1 q2 (G.room.mono (C6 m)) q3 (ho m S X G) (ha m S X G) (za3 h2) (stars h3) (zkC rfl (by erw[ybO,Bb,h2,Cu];exact h3) h5 h4)
 |_=>AD
def zp9{pos:CT}{env:BX}{b:AS}(h:nst b=AB):((backTo pos (starEach [b] env)).all (λx=>!x.1)&&(backToKw pos (keywordEach [] env)).all (λx=>x.1.isSome)&&decide (([b]:List AS).length+([]:List C2).length+(if ([]:List C2).isEmpty then 0 else 1)<30))=true:=by
 rw[za3 h];rfl
def ygP(k:Mth)(F:Fs γ κ ces)(e:AS)(fa:∀x,Pr (YE γ κ x ca)):Pr (YE γ κ e (.mth k ca ces)):=
 match k,e,F with
 |.append,.Call (.Attribute a n ap) [b] [] pos,.cons fb .nil=>an (ask (n="append"/\nca a=AB/\nst b=AB/\(ap.endLine==pos.line)=AB)) λh=>an (fa a) λha=>an (fb b) λhb=>ok λm S X G=>by
  let⟨rfl,h1,h2,h3⟩:=h;exact zhO (ha m S X G) (hb m S X G) (za3 h2) (zmc h1) h3 (zp9 h2)
 |.get,.Call (.Attribute a n ap) [b,c] [] pos,.cons fb (.cons fc .nil)=>an (ask (n="get"/\nca a=AB/\nst b=AB/\nst c=AB/\(ap.endLine==pos.line)=AB)) λh=>an (fa a) λha=>an (fb b) λhb=>an (fc c) λhc=>ok λm S X G=>by
  let⟨rfl,h1,h2,h4,h3⟩:=h;exact zoW (zlp G.room) (ha m S X G) (hb m S X G) (hc m S X G) ⟨zmc h1,by rw[za3 h2,za3 h4];rfl,h3,by rw[za3 h2,za3 h4];rfl⟩
 |_,_,_=>AD
end
structure Ev(γ:Gs)(c:Ce) where
 e:∀κ x,Pr (YE γ κ x c)
 t:∀κ x,Pr (YT γ κ x c)
 w:∀κ op l pos,Pr (YW γ κ (.BoolOp op l pos) c)
section
variable {γ:Gs}{ca cb cc:Ce}
def w1{c:Ce}(t:∀κ x,Pr (YT γ κ x c))(κ:Kx)(op:Gy)(l:List AS)(pos:CT):Pr (YW γ κ (.BoolOp op l pos) c):=
 match op,l with
 |.And,[a]=>an (t κ a) λh=>ok λm S X G=>zlT (h m S X G)
 |.Or,[a]=>an (t κ a) λh=>ok λm S X G=>zm9 (h m S X G)
 |_,_=>AD
def plT{c:Ce}(e:∀κ x,Pr (YE γ κ x c))(κ:Kx)(x:AS):Pr (YT γ κ x c):=an (ask (nte x=AB)) λh=>an (e κ x) λhe=>ok λm S X G=>zoc (he m S X G) (itr h)
def plain{c:Ce}(e:∀κ x,Pr (YE γ κ x c)):Ev γ c:=⟨e,plT e,w1 (plT e)⟩
def ycM{c:Ce}(e:∀κ x,Pr (YE γ κ x c))(t:∀κ x,Pr (YT γ κ x c)):Ev γ c:=⟨e,t,w1 t⟩
def yfm(A:Ev γ ca)(κ:Kx)(e:AS):Pr (YT γ κ e (.not ca)):=
 match e with
 |.UnaryOp .Not a _=>an (A.t κ a) λh=>ok λm S X G=>zoG (h m S X G)
 |_=>AD
def ygM(A:Ev γ ca)(B:Ev γ cb)(κ:Kx)(e:AS):Pr (YE γ κ e (.and ca cb)):=
 match e with
 |.BoolOp .And (a::b::[]) _=>an (A.e κ a) λha=>an (B.e κ b) λhb=>ok λm S X G=>zkT (ha m S X G) (zkz (hb m S X G))
 |.BoolOp .And (a::b::c::r) p=>an (A.e κ a) λha=>an (B.e κ (.BoolOp .And (b::c::r) p)) λhb=>ok λm S X G=>zkT (ha m S X G) (hb m S X G)
 |_=>AD
def orE(A:Ev γ ca)(B:Ev γ cb)(κ:Kx)(e:AS):Pr (YE γ κ e (.or ca cb)):=
 match e with
 |.BoolOp .Or (a::b::[]) _=>an (A.e κ a) λha=>an (B.e κ b) λhb=>ok λm S X G=>zmJ (ha m S X G) (zkz (hb m S X G))
 |.BoolOp .Or (a::b::c::r) p=>an (A.e κ a) λha=>an (B.e κ (.BoolOp .Or (b::c::r) p)) λhb=>ok λm S X G=>zmJ (ha m S X G) (hb m S X G)
 |_=>AD
def yd9(A:Ev γ ca)(B:Ev γ cb)(κ:Kx)(op:Gy)(l:List AS)(pos:CT):Pr (YW γ κ (.BoolOp op l pos) (.and ca cb)):=
 match op,l with
 |.And,a::b::r=>an (A.t κ a) λha=>an (B.w κ .And (b::r) pos) λhb=>ok λm S X G=>znS (ha m S X G) (hb m S X G)
 |_,_=>AD
def orW(A:Ev γ ca)(B:Ev γ cb)(κ:Kx)(op:Gy)(l:List AS)(pos:CT):Pr (YW γ κ (.BoolOp op l pos) (.or ca cb)):=
 match op,l with
 |.Or,a::b::r=>an (A.t κ a) λha=>an (B.w κ .Or (b::r) pos) λhb=>ok λm S X G=>zpk (ha m S X G) (hb m S X G)
 |_,_=>AD
def ptW{c:Ce}(w:∀κ op l pos,Pr (YW γ κ (.BoolOp op l pos) c))(κ:Kx)(e:AS):Pr (YT γ κ e c):=
 match e with
 |.BoolOp op l p=>an (w κ op l p) λh=>ok λm S X G=>PW.pt (h m S X G)
 |_=>AD
def yfk{c:Ce}(t:∀κ x,Pr (YT γ κ x c))(w:∀κ op l pos,Pr (YW γ κ (.BoolOp op l pos) c))(κ:Kx)(op:Gy)(l:List AS)(pos:CT):Pr (YW γ κ (.BoolOp op l pos) c):=
 match l with
 |[a]=>w1 t κ op [a] pos
 |l=>w κ op l pos
def ydY(A:Ev γ ca)(B:Ev γ cb):Ev γ (.and ca cb):=⟨ygM A B,ptW (yd9 A B),yfk (ptW (yd9 A B)) (yd9 A B)⟩
def yfW(A:Ev γ ca)(B:Ev γ cb):Ev γ (.or ca cb):=⟨orE A B,ptW (orW A B),yfk (ptW (orW A B)) (orW A B)⟩
end
abbrev YI(γ:Gs)(κ:Kx)(tg l:AS)(c:Cit):Prop:=∀m S X,Good γ κ m S X->PI X tg l (tI S X c)
abbrev YG(γ:Gs)(κ:Kx)(tg:AS)(c:Tg):Prop:=∀m S X,Good γ κ m S X->PG X tg (tG S X c)
section
variable {γ:Gs}{κ:Kx}{ca cb cc ce:Ce}{ci:Cit}
def yfY(e:∀x,Pr (YE γ κ x ca))(tg l:AS):Pr (YI γ κ tg l (.seq ca)):=an (e l) λh=>ok λm S X G=>zmY (h m S X G)
def iR1(fa:∀x,Pr (YE γ κ x ca))(tg l:AS):Pr (YI γ κ tg l (.range1 ca)):=
 match l with
 |.Call (.Name x _) [a] [] _=>an (ask (x="range"/\glB κ x=AB/\γ.b x=AB/\nst a=AB)) λh=>an (fa a) λha=>ok λm S X G=>by
  let⟨rfl,h1,h2,h3⟩:=h;exact zim (zaq G h1) (G.glo.B _ h2) (ha m S X G) (za3 h3)
 |_=>AD
def yen(fa:∀x,Pr (YE γ κ x ca))(tg l:AS):Pr (YI γ κ tg l (.enum ca)):=
 match tg,l with
 |.Tuple _ _ _,.Call (.Name x _) [a] [] _=>an (ask (x="enumerate"/\glB κ x=AB/\γ.b x=AB/\nst a=AB)) λh=>an (fa a) λha=>ok λm S X G=>by
  let⟨rfl,h1,h2,h3⟩:=h;exact zms (zaq G h1) (G.glo.B _ h2) (ha m S X G) (za3 h3)
 |_,_=>AD
def yfn(fa:∀x,Pr (YE γ κ x ca))(fb:∀x,Pr (YE γ κ x cb))(tg l:AS):Pr (YI γ κ tg l (.zip ca cb)):=
 match tg,l with
 |.Tuple _ _ _,.Call (.Name x _) [a,b] [] _=>an (ask (x="zip"/\glB κ x=AB/\γ.b x=AB/\nst a=AB/\nst b=AB)) λh=>an (fa a) λha=>an (fb b) λhb=>ok λm S X G=>by
  let⟨rfl,h1,h2,h3,h4⟩:=h;exact zog (zaq G h1) (G.glo.B _ h2) (ha m S X G) (hb m S X G) (by rw[za3 h3,za3 h4];rfl) (za3 h4)
 |_,_=>AD
def gNm(κ:Kx):(l:List Nat)->(es:List AS)->Pr (∀m S X,Good γ κ m S X->PGs X es (gNs l)/\(assignEach es X.env).length=l.length/\(assignEach es X.env).findIdx? (·.1)=AD)
 |[],[]=>ok λ_ _ _ _=>⟨zlu,rfl,rfl⟩
 |i::l,.Name x _::es=>an (ask (setB κ i x=AB)) λh=>an (gNm κ l es) λhr=>ok λm S X G=>by
  have s:=zbc G h;let⟨h1,h2,h3⟩:=hr m S X G;refine⟨zj1 s.d s.i s.l h1 s.f,?_,?_⟩
  .simp only[assignEach,AX,h2]
  .simp only[assignEach,List.findIdx?_cons,h3];rfl
 |_,_=>AD
def mTg(ct:Tg)(tg:AS):Pr (YG γ κ tg ct):=
 match ct,tg with
 |.n i,.Name x _=>an (ask (setB κ i x=AB)) λh=>ok λm S X G=>let s:=zbc G h;zmy s.d s.i s.l s.f
 |.t l,.Tuple es _ _=>an (gNm κ l es) λh=>ok λm S X G=>znz G.calm (h m S X G).1 (h m S X G).2.1 (h m S X G).2.2
 |_,_=>AD
def tgN:AS->List AN
 |.Name x _=>[x]
 |.Tuple es _ _=>es.filterMap fun
  |.Name x _=>AA x
  |_=>AD
 |_=>[]
def ydf(N:List AN)(sl:List (Option Nat))(tg:AS):List Str:=tgN tg++(sl.drop (tgN tg).length).filterMap λo=>o.bind λj=>N[j]?
def yca(sc so:Bk):Scope:={sc with names:=sc.names.map λ(n,k)=>if (k==Cd&&so.kind==.function&&so.names.lookup n==AA .cell)then(n,FU)else(n,k)}
def yag(N:List AN)(so sc:Bk)(NC:List AN)(sl:List (Option Nat)):Bool:=
 decide (sc.kind=.function)&&(sc.names.all λy=>y.2 != .local || decide (sc.names.lookup y.1=AA .local))&&(sc.names.all λy=>y.2 != .cell)&&(sc.names.all λy=>y.2 != .free || decide (so.names.lookup y.1=AA .cell)) &&
  ((NC.zip sl).all λp=>p.2.all λj=>decide (N[j]?=AA p.1/\sc.names.lookup p.1=AA .free))&&decide (sl.length=NC.length)
def zkj{X:Cx}{sc:Bk}{NC:List AN}{sl:List (Option Nat)}(h:yag X.N X.env.scope sc NC sl=AB):yal X sc NC sl:=by
 erw[yag,AK,decide_eq_true_eq,Bg,Cy,bne_iff_ne,ne_eq]at h;let⟨⟨⟨⟨⟨h1,h2⟩,h3⟩,h4⟩,h5⟩,h6⟩:=h;exact zp3 _ _ rfl rfl h1 (λy hy e=>(h2 y hy).resolve_left λz=>z e) h3 (λy hy e=>(h4 y hy).resolve_left λz=>z e) (λp hp=>by simpa using h5 p hp) h6
theorem Good.comp{m:Nat}{S:Se}{X:Cx}(G:Good γ κ m S X)(sc:Bk)(NC:List AN)(j:CI):Good γ ⟨NC,yca sc κ.sc,AC⟩ m S (cxC X sc NC j):=by
 refine⟨rfl,?_,G.calm,G.room,(λh=>nomatch h),⟨G.glo.F,G.glo.Q,G.glo.C,G.glo.D,G.glo.E,G.glo.N,G.glo.B,G.glo.T,G.glo.A,G.glo.M,λy D h=>let ⟨fa,fdd,ps,M,d⟩:=G.glo.K y D h;⟨fa,fdd,ps,⟨M.F,M.kp,M.b⟩,d⟩,G.glo.V⟩⟩;show relabel sc X.env=_;rw[<-G.sc];rfl
def ygp(c:Ce)(f:∀x,Pr (YT γ κ x c))(ifs:List AS):Pr (∀m S X,Good γ κ m S X->PTs X ifs (tT0 S X.K c)):=
 match ifs with
 |[]=>match c with
  |.cst (.bl AB)=>ok λ_ _ _ _=>zjn
  |_=>AD
 |[a]=>an (f a) λh=>ok λm S X G=>zlR rfl (h m S X G)
 |_=>AD
structure ycN(γ:Gs)(κ:Kx)(sl:List (Option Nat))(ct:Tg)(ci:Cit)(cc ce:Ce)(elt tg it:AS)(ifs:List AS)(sc:Bk):Prop where
 q:∀m S X,Good γ κ m S X->∃NC,yal X sc NC sl/\PI X tg it (tI S X ci)/\(∀j,PG (cxC X sc NC j) tg (tG0 S X.K ct))/\(∀j,PTs (cxC X sc NC j) ifs (tT0 S X.K cc))/\∀j,PE (cxC X sc NC j) elt (tE0 S X.K ce)
 f:yaC ct sl=AB
 s:nse it=AB
def mCo(sl:List (Option Nat))(ct:Tg)(fi:∀tg l,Pr (YI γ κ tg l ci))(C:Ev γ cc)(E:Ev γ ce)(elt tg it:AS)(ifs:List AS)(sc:Bk):Pr (ycN γ κ sl ct ci cc ce elt tg it ifs sc):=
 an (ask (yag κ.N κ.sc sc (ydf κ.N sl tg) sl=AB/\yaC ct sl=AB/\nse it=AB)) λh=>an (fi tg it) λhi=>an (mTg (γ:=γ) (κ:=⟨ydf κ.N sl tg,yca sc κ.sc,AC⟩) ct tg) λhg=>
  an (ygp (γ:=γ) (κ:=⟨ydf κ.N sl tg,yca sc κ.sc,AC⟩) cc (C.t _) ifs) λht=>an (E.e ⟨ydf κ.N sl tg,yca sc κ.sc,AC⟩ elt) λhe=>ok ⟨λm S X G=>⟨ydf κ.N sl tg,by
   rw[<-G.n,<-G.sc]at h;rw[<-G.n];exact zkj h.1,hi m S X G,λj=>zln rfl (hg m S _ (G.comp sc _ j)),λj=>ht m S _ (G.comp sc _ j),λj=>zl4 rfl (he m S _ (G.comp sc _ j))⟩,h.2.1,h.2.2⟩
def yel(sl:List (Option Nat))(ct:Tg)(fi:∀tg l,Pr (YI γ κ tg l ci))(C:Ev γ cc)(E:Ev γ ce)(e:AS):Pr (YE γ κ e (.comp sl ct ci cc ce)):=
 match e with
 |.ListComp elt [⟨tg,it,ifs,0⟩] sc _=>an (mCo sl ct fi C E elt tg it ifs sc) λh=>ok λm S X G=>by
  let⟨NC,h1,h2,h3,h4,h5⟩:=h.q m S X G;exact zk9 G.calm h1 h.f h2 h3 h4 h5 (fse h.s)
 |_=>AD
end
section
variable {γ:Gs}{κ:Kx}
end
mutual
noncomputable def ch(γ:Gs):(c:Ce)->Ev γ c
 |.cst v=>plain λκ x=>ygQ v x
 |.var i=>plain λκ x=>yeQ i x
 |.bin o a b=>plain λκ x=>yf8 o x ((ch γ a).e κ) ((ch γ b).e κ)
 |.neg a=>plain λκ x=>yfV x ((ch γ a).e κ)
 |.not a=>ycM (λκ x=>ygZ x ((ch γ a).e κ)) (yfm (ch γ a))
 |.and a b=>ydY (ch γ a) (ch γ b)
 |.or a b=>yfW (ch γ a) (ch γ b)
 |.cmp o a b=>ycM (λκ x=>yf5 o x ((ch γ a).e κ) ((ch γ b).e κ)) (λκ x=>ydV o x ((ch γ a).e κ) ((ch γ b).e κ))
 |.chain o p a b c=>ycM (λκ x=>ygS o p x ((ch γ a).e κ) ((ch γ b).e κ) ((ch γ c).e κ)) (λκ x=>yeB o p x ((ch γ a).e κ) ((ch γ b).e κ) ((ch γ c).e κ))
 |.ite c a b=>plain λκ x=>yfS x ((ch γ c).t κ) ((ch γ a).e κ) ((ch γ b).e κ)
 |.tup es=>plain λκ x=>yfQ x (yaR (chs γ es κ))
 |.lst es=>plain λκ x=>yfE x (yaR (chs γ es κ))
 |.newl es=>plain λκ x=>yek x (yaR (chs γ es κ))
 |.dict0 t=>plain λκ x=>yew t x
 |.idx a i=>plain λκ x=>mIdx x ((ch γ a).e κ) ((ch γ i).e κ)
 |.slc a l h=>plain λκ x=>yfl x ((ch γ a).e κ) (λo=>ye5 l o ((ch γ l).e κ)) (λo=>ye5 h o ((ch γ h).e κ))
 |.call f es=>plain λκ x=>yfA f (chs γ es κ) x
 |.cav i L es=>plain λκ x=>ygT i (chs γ es κ) x L
 |.blt b es=>plain λκ x=>ygh b (chs γ es κ) x
 |.mth k o es=>plain λκ x=>ygP k (chs γ es κ) x ((ch γ o).e κ)
 |.isi a ts=>plain λκ x=>yfR ts x ((ch γ a).e κ)
 |.comp sl tg it c e=>plain λκ x=>yel sl tg (chi γ it κ) (ch γ c) (ch γ e) x
 |.frz a=>plain λκ x=>an ((ch γ a).e κ x) λh=>ok λm S X G=>znQ (h m S X G)
 |.nope=>plain λκ x=>ok λ_ _ _ _=>zkZ
 |.dix D a=>plain λκ x=>ygL D x ((ch γ a).e κ)
 |.din a D=>plain λκ x=>yfC D x ((ch γ a).e κ)
 |.fld c a f=>plain λκ x=>yfB c f x ((ch γ a).e κ)
 |.new c i es=>plain λκ x=>yg0 c i (chs γ es κ) x
 |.mcl c i n o es=>plain λκ x=>ygK c i n (chs γ es κ) x ((ch γ o).e κ)
noncomputable def chs(γ:Gs):(cs:Ces)->(κ:Kx)->Fs γ κ cs
 |.nil,_=>.nil
 |.cons c cs,κ=>.cons (λx=>(ch γ c).e κ x) (chs γ cs κ)
noncomputable def chi(γ:Gs):(c:Cit)->(κ:Kx)->∀tg l,Pr (YI γ κ tg l c)
 |.seq a,κ=>yfY ((ch γ a).e κ)
 |.range1 a,κ=>iR1 ((ch γ a).e κ)
 |.enum a,κ=>yen ((ch γ a).e κ)
 |.zip a b,κ=>yfn ((ch γ a).e κ) ((ch γ b).e κ)
 |_,_=>λ_ _=>AD
end
section
variable {γ:Gs}{κ:Kx}{ca cb cc ce:Ce}{ci:Cit}{ct:Tg}{cs cs':Css}{ces:Ces}
def yeF(f:∀x,Pr (YE γ κ x ca))(s:Bz):Pr (YS γ κ s (.expr ca)):=
 match s with
 |.Expr a _=>an (ask (nco a=AB)) λhs=>an (f a) λh=>ok λm S X G=>zk7 (h m S X G) (swp hs)
 |_=>AD
def yfe(i:Nat)(f:∀x,Pr (YE γ κ x ca))(s:Bz):Pr (YS γ κ s (.asg (.n i) ca)):=
 match s with
 |.Assign [.Name x _] a _=>an (ask (nco a=AB/\setB κ i x=AB)) λhs=>an (f a) λh=>ok λm S X G=>let q:=zbc G hs.2;zos q.d q.i q.l (h m S X G) (swp hs.1) q.f
 |_=>AD
def zpK{a:AS}(h:nst a=AB):(match (generalizing:=false) a with | .Starred _ _=>AB|_=>AC)=false:=by
 revert h;cases a<;>intro h<;>first|rfl|cases h
def swD(so:Bk)(x y:AN)(px py:CT)(a b:AS):Bool:=(if so.kind.isAnnotationScope then F6 else so.kind)==.function&&so.names.lookup x==AA .local&&so.names.lookup y==AA .local&&py.line==px.line&&nst a&&nst b&&!(x==y)&&!(foldedForSure 8 a&&foldedForSure 8 b)&&!(constantsAlone 8 a&&constantsAlone 8 b)
def zqa{x y:AN}{px py pt pt2:CT}{kt k2:Nat}{a b:AS}{env:BX}(h:swD env.scope x y px py a b=AB):
  swappedStores [.Tuple [.Name x px,.Name y py] kt pt] (.Tuple [a,b] k2 pt2) env=pure (AA [x,y]):=by
 erw[swD,AK,Ci]at h;let⟨⟨⟨⟨⟨⟨⟨⟨h1,h2⟩,h3⟩,h4⟩,h5⟩,h6⟩,h7⟩,h8⟩,h9⟩:=h;have k1:(env.blockKind != .function)=false:=by
  show (!((if env.scope.kind.isAnnotationScope then F6 else env.scope.kind)==.function))=AC;rw[h1];rfl
 have k2:env.kindOf x=AA .local:=eq_of_beq h2;have k3:env.kindOf y=AA .local:=eq_of_beq h3;have k4:py.line=px.line:=eq_of_beq h4;have k7:¬y=x:=λz=>by subst z;simp at h7
 have m1:=zpK h5;have m2:=zpK h6;have c8:¬(foldedForSure 8 a=AB/\foldedForSure 8 b=AB):=λz=>by rw[z.1,z.2]at h8;cases h8
 have c9:¬(constantsAlone 8 a=AB/\constantsAlone 8 b=AB):=λz=>by rw[z.1,z.2]at h9;cases h9
 have x1:(Expr.Name x px).pos=px:=rfl;have x2:(Expr.Name y py).pos=py:=rfl;unfold swappedStores;simp[k1,m1,m2,k2,k3,k4,List.eraseDups_cons,k7,x1,x2,c8,c9,C1];intro z;exfalso;rcases z with z|z
 .exact BA (m1.symm.trans z)
 .exact BA (m2.symm.trans z)
def ygW(i j:Nat)(fa:∀x,Pr (YE γ κ x ca))(fb:∀x,Pr (YE γ κ x cb))(s:Bz):Pr (YS γ κ s (.asg (.t [i,j]) (.tup (.cons ca (.cons cb .nil))))):=
 match s with
 |.Assign [.Tuple [.Name x px,.Name y py] _ _] (.Tuple [a,b] _ _) _=>an (ask (setB κ i x=AB/\setB κ j y=AB/\i≠j/\swD κ.sc x y px py a b=AB)) λh=>an (fa a) λha=>an (fb b) λhb=>ok λm S X G=>by
  let⟨h1,h2,h3,h4⟩:=h;have q:=zbc G h1;have r:=zbc G h2;have h5:=h4;erw[swD,AK]at h5;have e1:X.env.scope.names.lookup x=AA .local:=by rw[G.sc];exact eq_of_beq h5.1.1.1.1.1.1.1.2
  have e2:X.env.scope.names.lookup y=AA .local:=by rw[G.sc];exact eq_of_beq h5.1.1.1.1.1.1.2
  exact zoj G.calm q.d q.i r.i h3 (zov G.calm q.d q.i r.i h3 e1 e2 (zet (ha m S X G) (zet (hb m S X G) zhg (za3 h5.1.1.1.2)) (za3 h5.1.1.1.1.2)) (zqa (by rw[G.sc];exact h4)))
 |_=>AD
theorem sw0{es:List AS}{k:Nat}{p:CT}{a:AS}{env:BX}(h:ntu a=AB):swappedStores [.Tuple es k p] a env=pure none:=by
 cases a<;>first|rfl|cases h
theorem sw1{b c:AS}{p:CT}{a:AS}{env:BX}:swappedStores [.Subscript b c p] a env=pure none:=by
 cases a<;>rfl
def zpL{t a:AS}{l:Nat}{env:BX}(h:nco a=AB):swapsWithSole [t] a l env=pure false:=by
 show swapsWith a (AA t) l env=_;exact swp h
theorem asS{b c:AS}{pos:CT}{env:BX}(h:nsl c=AB):∀v,assign (.Subscript b c pos) env v=(do
   let ov <-holding [v] (eval b env)
   let iv <-holding [v,ov] (eval c env)
   standAt pos
   holding [v,ov,iv] (setItem ov iv v)
   release [v,ov,iv] []):=by
 cases c<;>first|exact λ_=>rfl|cases h
def ygn(l:List Nat)(f:∀x,Pr (YE γ κ x ca))(s:Bz):Pr (YS γ κ s (.asg (.t l) ca)):=
 match s with
 |.Assign [.Tuple es k p] a _=>an (ask (nco a=AB/\ntu a=AB)) λhs=>an (mTg (γ:=γ) (κ:=κ) (.t l) (.Tuple es k p)) λhg=>an (f a) λh=>ok λm S X G=>zlL (h m S X G) (hg m S X G) (zpL hs.1) (sw0 hs.2)
 |_=>AD
def ygU(f:∀x,Pr (YE γ κ x cc))(fo:∀x,Pr (YE γ κ x ca))(fi:∀x,Pr (YE γ κ x cb))(s:Bz):Pr (YS γ κ s (.six ca cb cc)):=
 match s with
 |.Assign [.Subscript b c _] a _=>an (ask (nco a=AB/\nsl c=AB)) λhs=>an (f a) λh=>an (fo b) λho=>an (fi c) λhi=>ok λm S X G=>znv (h m S X G) (ho m S X G) (hi m S X G) (zpL hs.1) sw1 (zkI (ho m S X G) (hi m S X G) zgD (asS hs.2))
 |_=>AD
def yeE(f:∀x,Pr (YE γ κ x cc))(fo:∀x,Pr (YE γ κ x ca))(fi:∀x,Pr (YE γ κ x cb))(s:Bz):Pr (YS γ κ s (.dput ca cb cc)):=
 match s with
 |.Assign [.Subscript b c _] a _=>an (ask (nco a=AB)) λhs=>an (f a) λh=>an (fo b) λho=>an (fi c) λhi=>ok λm S X G=>zl1 (zlp G.room) (ho m S X G) (hi m S X G) (h m S X G) (swp hs)
 |_=>AD
def yf7(op:D7)(o:BOp):Pr (∀S X,PIp X op (rT2 S X (ybN o))):=
 match op,o with
 |.Add,.add=>ok λ_ _=>zls
 |_,_=>AD
def ygm(i:Nat)(o:BOp)(f:∀x,Pr (YE γ κ x ca))(s:Bz):Pr (YS γ κ s (.aug i o ca)):=
 match s with
 |.AugAssign (.Name x _) op a _=>an (ask (setB κ i x=AB)) λh=>an (yf7 op o) λhp=>an (f a) λha=>ok λm S X G=>let q:=zbc G h;znC q.d q.i q.l (ha m S X G) (hp S X) q.f (zcP q.p) (zmj q.p)
 |_=>AD
def ygG(c:Ce)(f:∀x,Pr (YE γ κ x c))(s:Bz):Pr (YS γ κ s (.ret c)):=
 match s with
 |.Return (AA a) _=>an (f a) λh=>ok λm S X G=>zmI (h m S X G)
 |.Return AD _=>match c with
  |.cst .non=>ok λ_ _ _ _=>zl2
  |_=>AD
 |_=>AD
def sIf(fc:∀x,Pr (YT γ κ x cc))(fa:∀x,Pr (YSs γ κ x cs))(fb:∀x,Pr (YSs γ κ x cs'))(s:Bz):Pr (YS γ κ s (.ite cc cs cs')):=
 match s with
 |.If c a b _=>an (fc c) λhc=>an (fa a) λha=>an (fb b) λhb=>ok λm S X G=>zpo (hc m S X G) (ha m S X G) (hb m S X G)
 |_=>AD
def ygX(ct:Tg)(fi:∀tg l,Pr (YI γ κ tg l ci))(fb:∀x,Pr (YSs γ κ x cs))(s:Bz):Pr (YS γ κ s (.for ct ci cs)):=
 match s with
 |.For tg l b [] _=>an (ask (κ.own=AB/\nse l=AB)) λho=>an (fi tg l) λhi=>an (mTg (γ:=γ) (κ:=κ) ct tg) λhg=>an (fb b) λhb=>ok λm S X G=>znm (G.own ho.1).1 G.calm (hi m S X G) (hg m S X G) (hb m S X G) (fse ho.2)
 |_=>AD
def sWh(fc:∀x,Pr (YT γ κ x cc))(fb:∀x,Pr (YSs γ κ x cs))(s:Bz):Pr (YS γ κ s (.while cc cs)):=
 match s with
 |.While c b [] _=>an (ask (κ.own=AB)) λho=>an (fc c) λhc=>an (fb b) λhb=>ok λm S X G=>zjA (G.own ho).1 (hc m S X G) (hb m S X G)
 |_=>AD
def yga(c:Nat)(f:AN)(fo:∀x,Pr (YE γ κ x ca))(fv:∀x,Pr (YE γ κ x cb))(s:Bz):Pr (YS γ κ s (.sfl c ca f cb)):=
 match s with
 |.Assign [.Attribute a g _] b _=>an (ask (g=f/\γ.fl c f=AB/\nco b=AB)) λh=>an (fo a) λha=>an (fv b) λhb=>ok λm S X G=>by
  let⟨rfl,h1,h2⟩:=h;exact znD (G.glo.A c g h1).1 (G.glo.A c g h1).2 (ha m S X G) (hb m S X G) (swp h2)
 |_=>AD
def yfo(c i:Nat)(f:AN)(j:Int)(fo:∀x,Pr (YE γ κ x (.var i)))(fv:∀x,Pr (YE γ κ x (.cst (.int j))))(s:Bz):Pr (YS γ κ s (.sfl c (.var i) f (.bin .add (.fld c (.var i) f) (.cst (.int j))))):=
 match s with
 |.AugAssign (.Attribute a g _) .Add b _=>an (ask (g=f/\γ.fl c f=AB)) λh=>an (fo a) λha=>an (fv b) λhb=>ok λm S X G=>by
  let⟨rfl,h1⟩:=h;exact zmR (G.glo.A c g h1).1 (G.glo.A c g h1).2 (ha m S X G) (hb m S X G)
 |_=>AD
def ygk(c:Nat)(o:Ce)(f:AN)(e:Ce)(O:Ev γ o)(E:Ev γ e)(s:Bz):Pr (YS γ κ s (.sfl c o f e)):=
 match s with
 |.AugAssign t op b p=>match o,e with
  | .var i,.bin .add (.fld c' (.var i') f') (.cst (.int j))=>an (ask (c'=c/\i'=i/\f'=f)) λh=>an (yfo (γ:=γ) (κ:=κ) c i f j (λx=>yeQ i x) (λx=>yeN (.int j) x) (.AugAssign t op b p)) λq=>ok (by
    let⟨rfl,rfl,rfl⟩:=h;exact q)
  |_,_=>AD
 |s=>yga c f (O.e κ) (E.e κ) s
def ygg(ix:Nat)(D:List (AN×Nat)){cn:Ce}{ces:Ces}(fn:∀x,Pr (YE γ κ x cn))(F:Fs γ κ ces)(ss:List Bz):Pr (YSs γ κ ss (.cons (.mkr ix D cn ces) .nil)):=
 match ss with
 |[.Assign [.Name x _] (.Subscript (.Name y _) n _) _,.Return (AA (.Call (.Name x' _) (e::es) [] _)) _]=>match hy:γ.mr y with
  |some E=>an (ask (E=D/\x'=x/\setB κ ix x=AB/\ycX κ.sc x=AB/\glB κ y=AB/\nsl n=AB/\nst e=AB/\ybO es=AB)) λh=>an (fn n) λhn=>an (yaR F (e::es)) λha=>ok λm S X G=>by
   let⟨rfl,rfl,h1,h2,h3,h4,h5,h6⟩:=h;have q:=zbc G h1;let⟨fa,fdd,ps,M,d⟩:=G.glo.K y E hy;exact zoU M (G.room.mono (C6 m)) q.d q.i q.l (by rw[G.sc];exact zfz h2) (zaq G h3) d (hn m S X G) (ha m S X G) (nos h4) (swp rfl) q.f (zcP (zbB h3)) (zcP q.p) (zmj q.p) (za3 h5) (stars h6)
  |none=>AD
 |_=>AD
end
mutual
noncomputable def chS(γ:Gs):(c:Cs)->(κ:Kx)->∀s,Pr (YS γ κ s c)
 |.expr e,κ=>yeF ((ch γ e).e κ)
 |.asg (.n i) c,κ=>yfe i ((ch γ c).e κ)
 |.asg (.t [i,j]) (.tup (.cons a (.cons b .nil))),κ=>ygW i j ((ch γ a).e κ) ((ch γ b).e κ)
 |.asg (.t l) c,κ=>ygn l ((ch γ c).e κ)
 |.six o i e,κ=>ygU ((ch γ e).e κ) ((ch γ o).e κ) ((ch γ i).e κ)
 |.dput o i e,κ=>yeE ((ch γ e).e κ) ((ch γ o).e κ) ((ch γ i).e κ)
 |.aug i o e,κ=>ygm i o ((ch γ e).e κ)
 |.ret e,κ=>ygG e ((ch γ e).e κ)
 |.ite c a b,κ=>sIf ((ch γ c).t κ) (ycS γ a κ) (ycS γ b κ)
 |.for t it b,κ=>ygX t (chi γ it κ) (ycS γ b κ)
 |.while c b,κ=>sWh ((ch γ c).t κ) (ycS γ b κ)
 |.nope,_=>λ_=>ok λ_ _ _ _=>zlE
 |.sfl c o f e,κ=>ygk c o f e (ch γ o) (ch γ e)
 |_,_=>λ_=>AD
noncomputable def ycS(γ:Gs):(c:Css)->(κ:Kx)->∀s,Pr (YSs γ κ s c)
 |.nil,_,[]=>ok λ_ _ _ _=>znJ
 |.cons (.mkr ix D cn ces) .nil,κ,ss=>ygg ix D ((ch γ cn).e κ) (chs γ ces κ) ss
 |.cons c cs,κ,s::ss=>an (chS γ c κ s) λh=>an (ycS γ cs κ ss) λhr=>ok λm S X G=>zlJ (h m S X G) (hr m S X G)
 |_,_,_=>AD
end
inductive Dk where
 |fn|fd (ds:List Int)|me (c:Nat)|ini (c:Nat)
structure Df where
 gn:AN
 nm:AN
 q:AN
 st:Bz
 N:List AN
 ps:List AN
 fn:IC.Fn
 k:Dk
def scB(N P:List AN)(sc:Bk):Bool:=decide (sc.kind=.function)&&!sc.isCoroutine&&!sc.isGenerator&&decide N.Nodup&&decide (N.take P.length=P)&&P.all (ydJ sc)&&sc.names.all λy=>y.2 != .free
def zoI{N P:List AN}{sc:Bk}(h:scB N P sc=AB):ya8 N P sc:=by
 erw[scB,AK,decide_eq_true_eq,Ci,Bg,bne_iff_ne,ne_eq]at h;let⟨⟨⟨⟨⟨⟨h1,h2⟩,h3⟩,h4⟩,h5⟩,h6⟩,h7⟩:=h;exact⟨h1,h2,h3,h4,h5,λx hx=>zhn (h6 x hx),h7⟩
def okD(γ:Gs)(d:Df):Bool:=scB d.N d.ps (yE d.st)&&decide (d.ps.length=d.fn.np)&&decide (d.N.length=d.fn.ns)&&(ycS γ d.fn.body ⟨d.N,yE d.st,AB⟩ (yX d.st)).isSome
def ybS{α:Type}(P:α->Prop):List α->Prop
 |[]=>True
 |d::r=>P d/\ybS P r
theorem ybS.get{α:Type}{P:α->Prop}:∀{l:List α},ybS P l->∀d∈l,P d
 |_::_,h,d,hd=>by
  rcases AR.1 hd with rfl|hd
  .exact h.1
  .exact h.2.get d hd
def ybJ:List AN->(List AG->Prop)->Prop
 |[],P=>P []
 |_::r,P=>∀a,ybJ r λus=>P (a::us)
theorem ybJ.get:∀{ps:List AN} {P:List AG->Prop},ybJ ps P->∀us,us.length=ps.length->P us
 |[],P,h,[],_=>h
 |_::r,P,h,a::us,e=>(h a).get us (by simpa using e)
def ya6(d:Df):Prop:=∀(kV doc pm:AG) (an:Option AI) (cdv ct:AG),ybJ d.ps λus=>bindArgs (B4 d.nm d.q (yab d.st) (yX d.st) (yE d.st) .none kV doc pm an cdv ct) ⟨us,[]⟩=pure (d.ps.zip us)
structure yco(K:AF)(d:Df)(dv:AG)(f:AI)(fd:Az):Prop where
 ex:∃(oc:AG) (od:Option AI) (kV doc pm:AG) (an:Option AI) (cdv ct:AG) (osl:Array (Option AG)),
  fd=B4 d.nm d.q (yab d.st) (yX d.st) (yE d.st) dv kV doc pm an cdv ct/\K.lookup f=AA ⟨oc,od,.func fd,osl⟩/\CN K cdv d.q=AB
 kp:Al K (.ref f)=AB
def At(K:AF)(cn:Nat->AN)(d:Df)(f:AI):Prop:=
 match d.k with
 |.fn=>BK K mainGlobals d.gn=AA (AA (.ref f))/\ya6 d
 |.fd _=>BK K mainGlobals d.gn=AA (AA (.ref f))
 |.me c=>ya6 d/\∃q,BK K mainGlobals (cn c)=AA (AA (.ref q))/\Ay K (.ref q) d.nm=AA (AA (.ref f))/\Co K (.ref f)=AB
 |.ini c=>ya6 d/\∃q,BK K mainGlobals (cn c)=AA (AA (.ref q))/\Ay K (.ref q) d.nm=AA (AA (.ref f))/\Co K (.ref f)=AB/\Da K q=AB/\Al K (.ref q)=AB
def DvP(K:AF)(d:Df)(dv:AG):Prop:=
 match d.k with
 |.fd ds=>∃dT o its n,dv=.ref dT/\K.lookup dT=AA o/\o.data=.seq its n/\Vals (ds.map V.int) its.toList
 |_=>dv=.none
def ycQ(K:AF)(cn:Nat->AN)(d:Df):Prop:=∃dv f fd,yco K d dv f fd/\At K cn d f/\DvP K d dv
section
variable {K:AF}{cn:Nat->AN}{gn nm:AN}{st:Bz}{N ps:List AN}{fn:IC.Fn}{f:AI}{oc:AG}{od:Option AI}{kV doc pm:AG}{an:Option AI}{cdv ct:AG}{osl:Array (Option AG)}
theorem rowFn(a:BK K mainGlobals gn=AA (AA (.ref f)))(l:K.lookup f=AA ⟨oc,od,.func (B4 nm nm (yab st) (yX st) (yE st) .none kV doc pm an cdv ct),osl⟩)
  (c:CN K cdv nm=AB) (p:Al K (.ref f)=AB) (b:ya6 ⟨gn,nm,nm,st,N,ps,fn,.fn⟩):ycQ K cn ⟨gn,nm,nm,st,N,ps,fn,.fn⟩:=
 ⟨.none,f,_,⟨⟨oc,od,kV,doc,pm,an,cdv,ct,osl,rfl,l,c⟩,p⟩,⟨a,b⟩,rfl⟩
theorem rowFd{ds:List Int}{dT:AI}{o:CF}{its:Array AG}{n:Nat}(a:BK K mainGlobals gn=AA (AA (.ref f)))(l:K.lookup f=AA ⟨oc,od,.func (B4 nm nm (yab st) (yX st) (yE st) (.ref dT) kV doc pm an cdv ct),osl⟩)
  (c:CN K cdv nm=AB) (p:Al K (.ref f)=AB) (d:K.lookup dT=AA o) (e:o.data=.seq its n) (v:Vals (ds.map V.int) its.toList):ycQ K cn ⟨gn,nm,nm,st,N,ps,fn,.fd ds⟩:=
 ⟨.ref dT,f,_,⟨⟨oc,od,kV,doc,pm,an,cdv,ct,osl,rfl,l,c⟩,p⟩,a,dT,o,its,n,rfl,d,e,v⟩
theorem rowMe{qn:AN}{cc:Nat}{q:AI}(z:BK K mainGlobals (cn cc)=AA (AA (.ref q)))(a:Ay K (.ref q) nm=AA (AA (.ref f)))(i:Co K (.ref f)=AB)(l:K.lookup f=AA ⟨oc,od,.func (B4 nm qn (yab st) (yX st) (yE st) .none kV doc pm an cdv ct),osl⟩)
  (c:CN K cdv qn=AB) (p:Al K (.ref f)=AB) (b:ya6 ⟨gn,nm,qn,st,N,ps,fn,.me cc⟩):ycQ K cn ⟨gn,nm,qn,st,N,ps,fn,.me cc⟩:=
 ⟨.none,f,_,⟨⟨oc,od,kV,doc,pm,an,cdv,ct,osl,rfl,l,c⟩,p⟩,⟨b,q,z,a,i⟩,rfl⟩
theorem rowIni{qn:AN}{cc:Nat}{q:AI}(z:BK K mainGlobals (cn cc)=AA (AA (.ref q)))(a:Ay K (.ref q) nm=AA (AA (.ref f)))(i:Co K (.ref f)=AB)(l:K.lookup f=AA ⟨oc,od,.func (B4 nm qn (yab st) (yX st) (yE st) .none kV doc pm an cdv ct),osl⟩)
  (c:CN K cdv qn=AB) (p:Al K (.ref f)=AB) (b:ya6 ⟨gn,nm,qn,st,N,ps,fn,.ini cc⟩) (mk:Da K q=AB) (kq:Al K (.ref q)=AB):ycQ K cn ⟨gn,nm,qn,st,N,ps,fn,.ini cc⟩:=
 ⟨.none,f,_,⟨⟨oc,od,kV,doc,pm,an,cdv,ct,osl,rfl,l,c⟩,p⟩,⟨b,q,z,a,i,mk,kq⟩,rfl⟩
theorem gdf_mk{w:Ag}{h:BB}{mg:AN->Option AG}{x:AN}{D:List (AN×Nat)}{fa:Nat->AI}{y:AI}{es:Array CL}{ep:Nat}(X:K.In h)(G:h.Ns mainGlobals mg)(a:BK K mainGlobals x=AA (AA (.ref y)))(l:K.lookup y=AA ⟨.type "dict",AD,.dict es ep,#[]⟩)
  (r:yb9 w fa D es.toList) (n:(D.map (·.1)).Nodup):GDF K w mg fa x D:=⟨y,es,ep,ET X G a,l,r,n⟩
theorem gd_mk{w:Ag}{h:BB}{mg:AN->Option AG}{x:AN}{D:List (AN×PV)}{cl:Nat->AI}{y:AI}{es:Array CL}{ep:Nat}(X:K.In h)(G:h.Ns mainGlobals mg)(a:BK K mainGlobals x=AA (AA (.ref y)))(l:K.lookup y=AA ⟨.type "dict",AD,.dict es ep,#[]⟩)
  (s:(y==sysModules)=AC) (r:yb8 K cl w D es.toList) (n:(D.map (·.1)).Nodup):GD K w mg cl x D:=⟨y,es,ep,ET X G a,l,s,r,n⟩
end
abbrev KoV(K:AF)(v:PV)(u:AG):Prop:=∃x:V,RelV x u/\∀cl B φ H,yd K cl B φ H v x
abbrev KoL(K:AF)(vs:List PV)(us:List AG):Prop:=∃xs:List V,Vals xs us/\∀cl B φ H,ye K cl B φ H vs xs
mutual
noncomputable def yd3(K:AF):(v:PV)->(u:AG)->Pr (KoV K v u)
 |.int i,.int j t=>an (ask (i=j)) λh=>ok ⟨.int i,⟨t,by rw[h]⟩,λ_ _ _ _=>by erw[yd]⟩
 |.str i,.str j t=>an (ask (i=j)) λh=>ok ⟨.str i,⟨t,by rw[h]⟩,λ_ _ _ _=>by erw[yd]⟩
 |.tp AB vs,.ref a=>match h:K.lookup a with
  |some ⟨c,_,.seq its n,_⟩=>an (ask (c=.type "tuple"/\its.size<=sizeLine)) λq=>an (ydz K vs its.toList) λr=>ok (by
    let⟨xs,r1,r2⟩:=r;refine⟨.ref a,rfl,λcl B φ H=>?_⟩;erw[yd];exact⟨a,xs,rfl,.inr ⟨rfl,_,its,n,h,q.1,rfl,q.2,r1⟩,r2 cl B φ H⟩)
  |_=>AD
 |_,_=>AD
noncomputable def ydz(K:AF):(vs:List PV)->(us:List AG)->Pr (KoL K vs us)
 |[],[]=>ok ⟨[],.nil,λ_ _ _ _=>by erw[ye]⟩
 |v::vs,u::us=>an (yd3 K v u) λh=>an (ydz K vs us) λr=>ok (by
   let⟨x,h1,h2⟩:=h;let⟨xs,r1,r2⟩:=r;refine⟨x::xs,.cons h1 r1,λcl B φ H=>?_⟩;erw[ye];exact⟨x,xs,rfl,h2 cl B φ H,r2 cl B φ H⟩)
 |_,_=>AD
end
theorem con_row{K:AF}{cl:Nat->AI}{w:Ag}{k:AN}{v:PV}{tk:HS}{u:AG}{D:List (AN×PV)}{es:List CL}(c:(yd3 K v u).isSome=AB)(h:yb8 K cl w D es):yb8 K cl w ((k,v)::D) (⟨EC w.params k,.str k tk,u⟩ :: es):=by
 let⟨⟨x,r,q⟩,_⟩:=Aw.1 c;exact .cons r (q cl) h
theorem frow_cons{w:Ag}{fa:Nat->AI}{k:AN}{i:Nat}{tk:HS}{a:AI}{D:List (AN×Nat)}{es:List CL}(e:fa i=a)(h:yb9 w fa D es):yb9 w fa ((k,i)::D) (⟨EC w.params k,.str k tk,.ref a⟩ :: es):=by
 subst e;exact .cons h
structure Tb where
 tbl:List Df
 al:List (AN×GK)
 bs:List AN
 ts:List Ty
 fl:List (Nat×AN)
 me:List ((Nat×AN)×Nat)
 kb:List ((Nat×Nat×List AN)×List (Option Int))
 cn:List (Nat×AN)
 dd:List (AN×List (AN×PV))
 ml:List (AN×List (AN×Nat))
abbrev eF(x:AN)(i:Nat):AN×GK:=(x,.fn i)
abbrev eD(x:AN)(i:Nat):AN×GK:=(x,.fnD i)
abbrev eC(x:AN)(v:PV):AN×GK:=(x,.cst v)
abbrev eG(x:AN)(g:GK):AN×GK:=(x,g)
abbrev eN(c:Nat)(x:AN):Nat×Str:=(c,x)
abbrev eM(c:Nat)(x:AN)(i:Nat):(Nat×AN)×Nat:=((c,x),i)
abbrev eK(i n:Nat)(ks:List AN)(sh:List (Option Int)):(Nat×Nat×List AN)×List (Option Int):=((i,n,ks),sh)
abbrev eL(x:AN)(d:List (AN×Nat)):AN×List (AN×Nat):=(x,d)
abbrev eB(x:AN)(d:List (AN×PV)):AN×List (AN×PV):=(x,d)
def tyE:Ty->Ty->Bool
 |.int,.int=>AB
 |.bool,.bool=>AB
 |.str,.str=>AB
 |.tuple,.tuple=>AB
 |.list,.list=>AB
 |_,_=>AC
def znu{a b:Ty}(h:tyE a b=AB):a=b:=by
 cases a<;>cases b<;>first|rfl|cases h
def Tb.gs(t:Tb):Gs:=⟨λx=>t.al.lookup x,λx=>t.bs.contains x,λy=>t.ts.any (tyE y),λc f=>t.fl.contains (c,f),λc n=>t.me.lookup (c,n),λi n ks=>t.kb.lookup (i,n,ks),λx=>t.ml.lookup x,λx i=>decide (t.cn.lookup (1000+i)=AA x)⟩
def nmA(K:AF)(x:AN):Option Addr:=match BK K mainGlobals x with
 |some (AA (.ref q))=>AA q
 |_=>AD
def clA(K:AF)(t:Tb)(c:Nat):Addr:=((t.cn.lookup c).bind (nmA K)).getD 0
def cnm(t:Tb)(c:Nat):Str:=(t.cn.lookup c).getD ""
def faA(K:AF)(t:Tb)(i:Nat):Addr:=match t.tbl[i]? with
 |some d=>match d.k with
  |.fn=>(nmA K d.gn).getD 0
  |.fd _=>(nmA K d.gn).getD 0
  |.me c=>match Ay K (.ref (clA K t c)) d.nm with
   |some (AA (.ref f))=>f
   |_=>0
  |.ini c=>match Ay K (.ref (clA K t c)) d.nm with
   |some (AA (.ref f))=>f
   |_=>0
 |none=>0
def yc8:Dk->Bool
 |.fn=>AB
 |_=>AC
def yec:Dk->Bool
 |.fd _=>AB
 |_=>AC
def ygl:PV->Bool
 |.int _=>AB
 |.tp _ _=>AB
 |_=>AC
def alB(K:AF)(t:Tb):AN×GK->Bool
 |(x,.fn i)=>match t.tbl[i]? with
  |some d=>yc8 d.k&&(decide (x=d.gn) || decide (nmA K x=nmA K d.gn))
  |none=>AC
 |(x,.fnD i)=>match t.tbl[i]? with
  |some d=>yec d.k&&(decide (x=d.gn) || decide (nmA K x=nmA K d.gn))
  |none=>AC
 |(x,.cst v)=>ygl v&&match BK K mainGlobals x with
  |some (AA u)=>(yd3 K v u).isSome
  |_=>AC
 |(x,.dct d)=>t.dd.any λp=>decide (p.1=x)&&(eqD p.2 d).isSome
 |(x,.exc c)=>decide (t.cn.lookup c=AA x)&&(nmA K x).any λq=>FX K q [.type "ValueError",.type "Exception",.type "BaseException",.type "object"] "ValueError.__new__"
 |(x,.cls c i)=>decide (t.cn.lookup c=AA x)&&(nmA K x).isSome&&match t.tbl[i]? with
  |some d=>match d.k with
   |.ini c'=>decide (c'=c)&&decide (d.nm="__init__")
   |_=>AC
  |none=>AC
def yfj(K:AF)(t:Ty):Bool:=
 decide (B0 K (.type "NoneType") (.type (tyN t))=AA (ybv .non t))&&decide (B0 K (.type "bool") (.type (tyN t))=AA (ybv (.bl AB) t))&&decide (B0 K (.type "int") (.type (tyN t))=AA (ybv (.int 0) t))&&decide (B0 K (.type "str") (.type (tyN t))=AA (ybv (.str Fz) t))&&decide (B0 K (.type "tuple") (.type (tyN t))=AA (ybv (.tp AB []) t))&&decide (B0 K (.type "list") (.type (tyN t))=AA (ybv (.lst []) t))
def ydQ(K:AF)(q:AI):Bool:=Cn K q Fz&&DE K q&&EL K q&&decide (Ay K (.ref q) "__setattr__"=AA (AA (.builtin "object.__setattr__")))
def zhD{K:AF}{q:AI}(h:ydQ K q=AB):Cls K q:=by
 erw[ydQ,AK,decide_eq_true_eq]at h;exact⟨h.1.1.1,h.1.1.2,h.1.2,h.2⟩
def ydT(K:AF)(t:Tb):Bool:=
 t.al.all (alB K t)&&t.bs.all (λx=>decide (BK K mainGlobals x=AA AD))&&t.ts.all (yfj K) &&
  t.fl.all (λp=>(t.cn.lookup p.1).isSome&&(nmA K (cnm t p.1)).any λq=>ydQ K q&&decide (Ay K (.ref q) p.2=AA AD)) &&
  t.me.all (λp=>(t.cn.lookup p.1.1).isSome&&(nmA K (cnm t p.1.1)).any λq=>ydQ K q&&match t.tbl[p.2]? with
   |some d=>(match d.k with
    |.me c=>decide (c=p.1.1)
    |_=>AC)&&decide (d.nm=p.1.2)
   |none=>AC) &&
  t.ml.all λp=>p.2.all λq=>match t.tbl[q.2]? with
   |some d=>yc8 d.k
   |none=>AC
def fd0:FuncData:=B4 "" "" (yab (.Pass ⟨0,0,0,0⟩)) [] (yE (.Pass ⟨0,0,0,0⟩)) .none .none .none .none AD .none .none
def fdA(K:AF)(t:Tb)(i:Nat):FuncData:=match K.lookup (faA K t i)with
 |some ⟨_,_,.func fd,_⟩=>fd
 |_=>fd0
def psA(t:Tb)(i:Nat):List Str:=match t.tbl[i]? with
 |some d=>d.ps
 |none=>[]
theorem lkm{α β:Type}[BEq α][LawfulBEq α]{x:α}{k:β}:∀{l:List (α×β)},l.lookup x=AA k->(x,k)∈l
 |[],h=>nomatch h
 |y::l,h=>by
  rw[B5]at h
  cases hx:x==y.1 with
  |true=>rw[hx]at h;cases h;rw[eq_of_beq hx];exact Aj
  |false=>rw[hx]at h;exact AQ _ (lkm h)
def KbP(t:Tb)(p:(Nat×Nat×List AN)×List (Option Int)):Prop:=∀d ds,t.tbl[p.1.1]?=AA d->d.k=.fd ds->∀(K:AF) (mg:AN->Option AG) (f:AI) (fd:Az),FnD K mg d.nm d.st d.ps ds f fd->∃g,ybH K fd d.ps p.1.2.2 g (gK p.1.2.1 p.2)
structure Fact(t:Tb)(w:Ag)(K:AF)(mg:AN->Option AG):Prop where
 X:∀x u,BK K mainGlobals x=AA u->mg x=u
 R:ybS (ycQ K (cnm t)) t.tbl
 B:ydT K t=AB
 D:ybS (λp=>∀cl,GD K w mg cl p.1 p.2) t.dd
 Kb:ybS (KbP t) t.kb
 Ml:ybS (λp=>GDF K w mg (faA K t) p.1 p.2) t.ml
def zm5{K:AF}{x:AN}{q:AI}(h:nmA K x=AA q):BK K mainGlobals x=AA (AA (.ref q)):=by
 unfold nmA at h;split at h
 .cases h;assumption
 .cases h
def zb0{K:AF}{x:AN}{q:AI}(h:BK K mainGlobals x=AA (AA (.ref q))):nmA K x=AA q:=by
 erw[nmA,h]
def zgn{K:AF}{t:Tb}{c:Nat}{q:AI}(h:nmA K (cnm t c)=AA q)(hc:(t.cn.lookup c).isSome=AB):clA K t c=q:=by
 let⟨x,e⟩:=Aw.1 hc;erw[clA,e,B7];erw[cnm,e,B6]at h;rw[h];rfl
def okT(t:Tb)(d:Df):Bool:=okD t.gs d&&match d.k with
 |.fn=>AB
 |.fd _=>decide (d.q=d.nm)
 |.me c=>(t.cn.lookup c).isSome
 |.ini c=>(t.cn.lookup c).isSome&&decide (d.nm="__init__")
section
variable {t:Tb}{w:Ag}{K:AF}{mg:AN->Option AG}{T:Nat->Option IC.Fn}{P:A3}{base:BB}{k:Nat}
def zda(F:Fact t w K mg)(O:∀d∈t.tbl,okT t d=AB){i:Nat}{d:Df}(h:t.tbl[i]?=AA d):∃dv fd,yco K d dv (faA K t i) fd/\At K (cnm t) d (faA K t i)/\DvP K d dv:=by
 have hm:=A1 h;let⟨dv,f,fd,h1,h2,h3⟩:=F.R.get d hm;have e:f=faA K t i:=by
  have o:=O d hm;erw[okT,AK]at o;have o:=o.2;erw[faA,h];unfold At at h2
  cases q:d.k with
  |fn=>
   rw[q]at h2;erw[zb0 h2.1,B6]
  |fd ds=>
   rw[q]at h2;have h2:BK K mainGlobals d.gn=AA (AA (.ref f)):=h2;erw[zb0 h2,B6]
  |me c=>
   rw[q]at h2 o;let⟨_,q',e1,e2,_⟩:=h2;erw[zgn (zb0 e1) o,e2]
  |ini c=>
   rw[q]at h2 o;let⟨_,q',e1,e2,_⟩:=h2;erw[AK]at o;erw[zgn (zb0 e1) o.1,e2]
 subst e;exact⟨dv,fd,h1,h2,h3⟩
theorem yco.binds{d:Df}{f:AI}{fd:Az}(R:yco K d .none f fd)(b:ya6 d):Binds K fd d.ps []:=
 Fun.binds ⟨R.ex,R.kp⟩ λkV doc pm an cdv ct us hl=>(b kV doc pm an cdv ct).get us hl
theorem yco.ok{d:Df}{dv:AG}{f:AI}{fd:Az}{fi m:Nat}{cl:Nat->AI}(R:yco K d dv f fd)(hT:T fi=AA d.fn)(Sc:ya8 d.N d.ps (yE d.st))(hnp:d.ps.length=d.fn.np)(hns:d.N.length=d.fn.ns)
  (body:∀(cdv:AG) (A:Ar) (outer:List BX) (s:AJ) (H:Hp) (E:XK),yap m (A.deeper (envOfC d.q (yE d.st) s.heap.objs.size f cdv)) ->
   PSs (yaV (CX1 P w) P w K mg base d.N d.q (yE d.st) f cdv A outer s H E) (yX d.st) (tSs ⟨cl,yc T k,AB⟩ (yaV (CX1 P w) P w K mg base d.N d.q (yE d.st) f cdv A outer s H E) d.fn.body)):
  yaI P w K mg base (CX1 P w) (m+1) f fd d.ps (spI K cl (yc T (k+1)) fi):=by
 let⟨oc,od,kV,doc,pm,an,cdv,ct,osl,rfl,lk,hcd⟩:=R.ex;exact zo1 lk hcd Sc (λvs H Q E h=>zmW hT hnp h) λA outer s H vs Q E hr h=>⟨_,body cdv A outer s H E hr,zmx hT hns h⟩
def Fn2(t:Tb)(P:A3)(w:Ag)(K:AF)(mg:AN->Option AG)(base:BB)(T:Nat->Option IC.Fn)(k:Nat):Prop:=
 ∀i d dv fd,t.tbl[i]?=AA d->yco K d dv (faA K t i) fd->yaI P w K mg base (CX1 P w) (2*k) (faA K t i) fd d.ps (spI K (clA K t) (yc T k) i)
def zkf(F:Fact t w K mg)(O:∀d∈t.tbl,okT t d=AB)(C:Fn2 t P w K mg base T k){N:List AN}{q:AN}{sc:Bk}{f:AI}{cdv:AG}{A:Ar}{outer:List BX}{s:AJ}{H:Hp}{E:XK}:
  Glo t.gs (2*k) ⟨clA K t,yc T k,AB⟩ (yaV (CX1 P w) P w K mg base N q sc f cdv A outer s H E):=by
 have B:=F.B;erw[ydT,AK,Bg]at B;let⟨⟨⟨⟨⟨b1,b2⟩,b3⟩,b4⟩,b5⟩,b6⟩:=B;have mgr:∀{x:AN} {a:AI},nmA K x=AA a->mg x=AA (.ref a):=λh=>F.X _ _ (zm5 h);have same:∀{x y:AN} {a:AI},(decide (x=y) || decide (nmA K x=nmA K y))=AB->nmA K y=AA a->nmA K x=AA a:=λ{x y a} h e=>by
  erw[Cy,decide_eq_true_eq]at h;rcases h with rfl|h
  .exact e
  .rw[h];exact e
 refine⟨λx i h=>?_,λx i np ks sh h hk=>?_,λx v h=>?_,λx d h=>?_,λx c h=>?_,λx c i h=>?_,λx h=>?_,λy h=>?_,λc n h=>?_,λc n i h=>?_,λy D h=>?_,λx i h hv=>?_⟩
 .have q:=b1 _ (lkm h);erw[alB]at q;split at q
  .rename_i d hd;erw[AK]at q;let⟨dv,fd,r1,r2,r3⟩:=zda F O hd;have hk:d.k=.fn:=by cases e:d.k<;>rw[e]at q<;>first|rfl|cases q.1
   erw[At,hk]at r2;erw[DvP,hk]at r3;subst r3;exact⟨_,fd,d.ps,C i d _ fd hd r1,mgr (same q.2 (zb0 r2.1)),r1.kp,r1.binds r2.2⟩
  .cases q
 .have q:=b1 _ (lkm h);erw[alB]at q;split at q
  .rename_i d hd;erw[AK]at q;let⟨dv,fd,r1,r2,r3⟩:=zda F O hd;obtain⟨ds,hk'⟩:∃ds,d.k=.fd ds:=by cases e:d.k<;>rw[e]at q<;>first|exact⟨_,rfl⟩|cases q.1
   erw[At,hk']at r2;erw[DvP,hk']at r3;let⟨dT,o,its,n,rfl,e1,e2,e3⟩:=r3;have oo:=O d (A1 hd);erw[okT,hk',AK,decide_eq_true_eq]at oo;have D:FnD K (λ_=>AA (.ref (faA K t i))) d.nm d.st d.ps ds (faA K t i) fd:=by
    let⟨oc,od,kV,doc,pm,an,cdv,ct,osl,z1,z2,z3⟩:=r1.ex;rw[oo.2]at z1 z3;exact⟨⟨oc,od,dT,kV,doc,pm,an,cdv,ct,osl,o,its,n,z1,z2,z3,e1,e2,e3⟩,r1.kp,rfl⟩
   exact⟨_,fd,d.ps,C i d _ fd hd r1,mgr (same q.2 (zb0 r2)),r1.kp,F.Kb.get _ (lkm hk) d ds hd hk' K _ _ _ D⟩
  .cases q
 .have q:=b1 _ (lkm h);erw[alB,AK]at q;let⟨q0,q⟩:=q;split at q
  .rename_i u hu;let⟨⟨y,r,z⟩,_⟩:=Aw.1 q;have hm:=F.X _ _ hu
   cases v with
   |int i=>
    have z:=z (λ_=>0) (λ_=>False) [] (λ_=>AD);erw[yd]at z;subst z;let⟨tk,rfl⟩:=r;exact .inr ⟨i,rfl,tk,hm⟩
   |tp b vs=>
    have z0:=z (λ_=>0) (λ_=>False) [] (λ_=>AD);erw[yd]at z0;let⟨a,xs,rfl,_⟩:=z0;have r:u=.ref a:=r;subst r;exact .inl ⟨a,hm,λB φ H=>z _ B φ H⟩
   |_=>cases q0
  .cases q
 .have q:=b1 _ (lkm h);erw[alB,DV,AK,decide_eq_true_eq]at q;let⟨p,hp,rfl,q⟩:=q;let⟨⟨e⟩,_⟩:=Aw.1 q;rw[<-e];exact F.D.get p hp _
 .have q:=b1 _ (lkm h);erw[alB,AK,decide_eq_true_eq,Cm]at q;let⟨q1,q2,q3⟩:=q;let⟨a,ha⟩:=Aw.1 q2;have e:clA K t c=a:=by erw[clA,q1,B7,ha,B6]
  erw[ha,Et]at q3;exact⟨by show mg x=AA (.ref (clA K t c));rw[e];exact mgr ha,by show FX K (clA K t c) _ _=AB;rw[e];exact q3⟩
 .have q:=b1 _ (lkm h);erw[alB,AK,decide_eq_true_eq]at q;let⟨⟨q1,q2⟩,q3⟩:=q;let⟨a,ha⟩:=Aw.1 q2;have e:clA K t c=a:=by erw[clA,q1,B7,ha,B6]
  split at q3
  .rename_i d hd
   cases hk:d.k with
   |ini c'=>
    rw[hk]at q3;erw[AK,decide_eq_true_eq]at q3;let⟨rfl,hn⟩:=q3;let⟨dv,fd,r1,r2,r3⟩:=zda F O hd;erw[At,hk]at r2;erw[DvP,hk]at r3;subst r3;let⟨r0,q',r4,r5,r6,r7,r8⟩:=r2;have e2:q'=a:=by
     have:nmA K (cnm t c')=AA q':=zb0 r4;erw[cnm,q1,B6,ha]at this;exact(AW this).symm
    subst e2;rw[hn]at r5;refine⟨by show mg x=AA (.ref (clA K t c'));rw[e];exact mgr ha,_,fd,d.ps,?_,C i d _ fd hd r1,r1.binds r0⟩;show Mk K (clA K t c') _;rw[e];exact⟨r7,r5,r6,r8⟩
   |_=>rw[hk]at q3;cases q3
  .cases q3
 .have q:x∈t.bs:=by simpa [Tb.gs] using h
  have:=b2 x q;erw[decide_eq_true_eq]at this;exact F.X _ _ this
 .simp only[Tb.gs,DV]at h;let⟨y',hy,e⟩:=h;have:=znu e;subst this;have q:=b3 y hy;erw[yfj,AK,decide_eq_true_eq]at q;exact⟨q.1.1.1.1.1,q.1.1.1.1.2,q.1.1.1.2,q.1.1.2,q.1.2,q.2⟩
 .have q:(c,n)∈t.fl:=by simpa [Tb.gs] using h
  have q:=b4 _ q;erw[AK,Cm,decide_eq_true_eq]at q;let⟨q1,q2,q3⟩:=q;let⟨a,ha⟩:=Aw.1 q2;erw[ha,Et]at q3;have e:clA K t c=a:=zgn ha q1;show Cls K (clA K t c)/\yaq K (clA K t c) n;rw[e];exact⟨zhD q3.1,q3.2⟩
 .have q:=b5 _ (lkm h);erw[AK,Cm,decide_eq_true_eq]at q;let⟨q1,q2,q3,q4⟩:=q;let⟨a,ha⟩:=Aw.1 q2;erw[ha,Et]at q3;have e:clA K t c=a:=zgn ha q1;split at q4
  .rename_i d hd;erw[AK,decide_eq_true_eq]at q4;let⟨q4,hn⟩:=q4
   cases hk:d.k with
   |me c'=>
    rw[hk]at q4;have q4:c'=c:=by simpa using q4
    subst q4;let⟨dv,fd,r1,r2,r3⟩:=zda F O hd;erw[At,hk]at r2;erw[DvP,hk]at r3;subst r3;let⟨r0,q',r4,r5,r6⟩:=r2;have e2:q'=a:=AW ((zb0 r4).symm.trans ha);subst e2;refine⟨by show Cls K (clA K t c');rw[e];exact zhD q3,_,fd,d.ps,?_,C i d _ fd hd r1,r1.binds r0⟩;show Meth K (clA K t c') n _;rw[e,<-hn];exact⟨r5,r6,r1.kp⟩
   |_=>rw[hk]at q4;cases q4
  .cases q4
 .have q:=b6 _ (lkm h);have g:∀s j,D.lookup s=AA j->∃d dv fd,t.tbl[j]?=AA d/\yco K d dv (faA K t j) fd/\dv=.none/\ya6 d/\fd=fdA K t j/\d.ps=psA t j:=λs j hj=>by
   have q:=q _ (lkm hj);split at q
   .rename_i d hd;let⟨dv,fd,r1,r2,r3⟩:=zda F O hd;have hk:d.k=.fn:=by cases e:d.k<;>rw[e]at q<;>first|rfl|cases q
    erw[At,hk]at r2;erw[DvP,hk]at r3;let⟨oc,od,kV,doc,pm,an,cdv,ct,osl,_,lk,_⟩:=r1.ex;exact⟨d,dv,fd,hd,r1,r3,r2.2,by erw[fdA,lk],by erw[psA,hd]⟩
   .cases q
  refine⟨faA K t,fdA K t,psA t,⟨λs j hj=>?_,λs j hj=>?_,λs j hj=>?_⟩,F.Ml.get _ (lkm h)⟩
  .let⟨d,dv,fd,h1,h2,h3,h4,h5,h6⟩:=g s j hj;rw[<-h5,<-h6];exact C j d dv fd h1 h2
  .let⟨d,dv,fd,h1,h2,h3,h4,h5,h6⟩:=g s j hj;exact h2.kp
  .let⟨d,dv,fd,h1,h2,h3,h4,h5,h6⟩:=g s j hj;subst h3;rw[<-h5,<-h6];exact h2.binds h4
 .have q:=b1 _ (lkm h);erw[alB]at q;split at q
  .rename_i d hd;erw[AK]at q;let⟨dv,fd,r1,r2,r3⟩:=zda F O hd;have hk:d.k=.fn:=by cases e:d.k<;>rw[e]at q<;>first|rfl|cases q.1
   erw[At,hk]at r2;have hn:=same q.2 (zb0 r2.1);have e:t.cn.lookup (1000+i)=AA x:=of_decide_eq_true hv;have z:clA K t (1000+i)=faA K t i:=by erw[clA,e,B7,hn,B6]
   show mg x=AA (.ref (clA K t (1000+i)));rw[z];exact mgr hn
  .cases q
def zhw(F:Fact t w K mg)(O:∀d∈t.tbl,okT t d=AB)(hT:∀i d,t.tbl[i]?=AA d->T i=AA d.fn):∀k,Fn2 t P w K mg base T k
 |0=>λi d dv fd _ _=>zjU
 |k+1=>λi d dv fd h R=>by
  have o:=O d (A1 h);erw[okT,okD,AK,decide_eq_true_eq]at o;let⟨⟨⟨⟨o1,o2⟩,o3⟩,o4⟩,_⟩:=o;let⟨⟨y⟩,_⟩:=Aw.1 o4;exact R.ok (m:=2*k+1) (hT i d h) (zoI o1) o2 o3 λ_ _ _ _ _ _ hr=>y (2*k) _ _ ⟨rfl,rfl,rfl,hr,λ_=>⟨own1,λ_=>rfl,rfl⟩,zkf F O (zhw F O hT k)⟩
def ycW:Nat->(List AG->Prop)->Prop
 |0,P=>P []
 |n+1,P=>∀a,ycW n λus=>P (a::us)
theorem ycW.get:∀{n:Nat} {P:List AG->Prop},ycW n P->∀us,us.length=n->P us
 |0,P,h,[],_=>h
 |n+1,P,h,a::us,e=>(h a).get us (by simpa using e)
theorem kbP{i np:Nat}{ks:List AN}{sh:List (Option Int)}{d:Df}{ds:List Int}(hd:t.tbl[i]?=AA d)(hk:d.k=.fd ds)(h1:ks.length=nKw sh)(h2:sh.length=(ds.drop (ds.length-sh.length)).length)
  (h3:((sh.zip (ds.drop (ds.length-sh.length))).all λp=>p.1.all λi=>decide (i=p.2))=AB) (hp:0<d.ps.length)
  (h:∀(dT:AI) (kV doc pm:AG) (an:Option AI) (cdv ct:AG),ycW np λus=>ycW ks.length λws=>ycW ds.length λits=>
   ∃k,bindArgs (B4 d.nm d.nm (yab d.st) (yX d.st) (yE d.st) (.ref dT) kV doc pm an cdv ct) ⟨us,ks.zip ws⟩=seqItems? (.ref dT) >>= k/\k (AA its.toArray)=pure (d.ps.zip (us++ya3 sh ws (its.drop (ds.length-sh.length))))):KbP t ((i,np,ks),sh):=by
 intro d' ds' e1 e2 K mg f fd D;have e1:t.tbl[i]?=AA d':=e1;rw[hd]at e1
 cases e1
 rw[hk]at e2
 cases e2
 exact kbD D h1 h2 h3 (λdT kV doc pm an cdv ct us ws its z1 z2 z3=>(((h dT kV doc pm an cdv ct).get us z1).get ws z2).get its z3) hp
theorem all_mk2{h:BB}{fx:AI}(X:K.In h)(G:h.Ns mainGlobals mg)(hfa:mg "law"=AA (.ref fx))(R:ybS (ycQ K (cnm t)) t.tbl)(B:ydT K t=AB)(D:ybS (λp=>∀cl,GD K w mg cl p.1 p.2) t.dd)(Kb:ybS (KbP t) t.kb)(Ml:ybS (λp=>GDF K w mg (faA K t) p.1 p.2) t.ml)
  (O:t.tbl.all (okT t)=AB) (hT:∀i d,t.tbl[i]?=AA d->T i=AA d.fn) {L:Nat} {st:Bz} {N:List AN} {fn:IC.Fn} (hL:t.tbl[L]?=AA ⟨"law","law","law",st,N,["_law_script"],fn,.fn⟩) (lvl:Nat):
  ∃fd:Az,(∀(s:AJ) (v:AG),FI s fd ⟨[v],[]⟩ [("_law_script",v)])/\∀base:BB,K.In base->base.Ns mainGlobals mg->yaI P w K mg base (CX1 P w) (2*lvl) fx fd ["_law_script"] (spX K (yc T lvl) L):=by
 have F:Fact t w K mg:=⟨λx u e=>by
  cases u with
  |none=>exact PySem.W.mg_none_of X G e
  |some v=>exact ET X G e,R,B,D,Kb,Ml⟩
 have O':=Bg.1 O;let⟨dv,fd,r1,r2,r3⟩:=zda F O' hL;have r3:dv=.none:=r3;subst r3;have r2:BK K mainGlobals "law"=AA (AA (.ref (faA K t L)))/\ya6 _:=r2;have e:=Value.ref.inj (AW (hfa.symm.trans (ET X G r2.1)));subst e;refine⟨fd,λs v=>?_,λbase _ _=>(zhw F O' hT lvl L _ _ fd hL r1).imp λ_ _ _ _ h=>h _⟩;let⟨oc,od,kV,doc,pm,an,cdv,ct,osl,rfl,_⟩:=r1.ex;exact .of_eq (r2.2 kV doc pm an cdv ct v)
end
end L2
namespace IC
open PySem
def yh5:List (AN×Nat):=[(AE "sum",89),(AE "difference",90),(AE "turned",91),(AE "both",92),(AE "any",93),(AE "odd",94),(AE "bare",95),(AE "left",96),(AE "right",97),(AE "down",98),(AE "roll",99),(AE "product",100),(AE "signed product",101),(AE "quotient",102),(AE "signed quotient",103)]
def ydM:List (AN×Nat):=[(AE "comes",84),(AE "ran",104)]
def ya:List (AN×Nat):=[(AE "move",62),(AE "bare",63),(AE "sum",64),(AE "less",65),(AE "both",66),(AE "any",67),(AE "odd",68),(AE "twice",69),(AE "half",70)]
def yh6:PV:=(.tp AB [(.str "p"),(.tp AB [(.int 0),(.int 0),(.int 0),(.int 0)])])
def yft:PV:=(.tp AB [(.int 0),(.int 1),(.int 0)])
def yiL:PV:=(.int 10000000000000000000000000000000000000000)
def yh7:PV:=(.tp AB [(.str "g"),(.tp AB [(.int 0),(.int 0),(.int 0),(.int 0)])])
def yet:PV:=(.tp AB [(.str "h"),(.tp AB [(.int 0),(.int 0),(.int 0),(.int 0)])])
def yiM:PV:=(.tp AB [(.str "turned"),(.str "bare")])
def yh8:PV:=(.tp AB [(.str "w"),(.tp AB [(.int 0),(.int 0),(.int 0),(.int 0)])])
def ycL:PV:=(.tp AB [(.str "l"),(.tp AB [(.int 0),(.int 0),(.int 0),(.int 0)])])
def yhd:PV:=(.tp AB [(.tp AB [(.str "m"),(.tp AB [(.int 0),(.int 0),(.int 0),(.int 0)])]),(.tp AB [(.str "m"),(.tp AB [(.int 1),(.int 0),(.int 0),(.int 0)])]),(.tp AB [(.str "m"),(.tp AB [(.int 2),(.int 0),(.int 0),(.int 0)])]),(.tp AB [(.str "m"),(.tp AB [(.int 3),(.int 0),(.int 0),(.int 0)])])])
def yiN:PV:=(.int 4)
def yjS:PV:=(.int 2)
def yiO:PV:=(.int 4000)
def yiP:PV:=(.int 4000)
def yjT:PV:=(.int 20)
def yjU:PV:=(.int 2)
def yiQ:PV:=(.int 200)
def ycj:PV:=(.tp AB [(.str "z"),(.tp AB [(.int 0),(.int 0),(.int 0),(.int 0)])])
def yfw:PV:=(.tp AB [(.str "o"),(.tp AB [(.int 0),(.int 0),(.int 0),(.int 0)])])
def yh9:PV:=(.tp AB [(.str "sum"),(.str "difference"),(.str "compare"),(.str "both"),(.str "any"),(.str "odd"),(.str "product"),(.str "signed product"),(.str "quotient"),(.str "signed quotient")])
def yiR:PV:=(.tp AB [(.str "both"),(.str "any"),(.str "odd")])
def yhe:PV:=(.tp AB [(.str "product"),(.str "signed product")])
def yeK:PV:=(.tp AB [(.str "quotient"),(.str "signed quotient")])
def yfx:PV:=(.tp AB [(.str "s"),(.tp AB [(.int 0),(.int 0),(.int 0),(.int 0)])])
def yfy:PV:=(.tp AB [(.str "left"),(.str "right"),(.str "down"),(.str "roll")])
def yfP:PV:=(.tp AB [(.str "i"),(.tp AB [(.int 0),(.int 0),(.int 0),(.int 0)])])
def yhf:PV:=(.tp AB [(.str "j"),(.tp AB [(.int 0),(.int 0),(.int 0),(.int 0)])])
def yeO:PV:=(.tp AB [(.str "t"),(.tp AB [(.int 0),(.int 0),(.int 0),(.int 0)])])
def ybR:List (AN×PV):=[(AE "set",(.tp AB [(.str "cell"),(.str "figure")])),(AE "move",(.tp AB [(.str "cell"),(.str "cell")])),(AE "bare",(.tp AB [(.str "cell"),(.str "cell")])),(AE "sum",(.tp AB [(.str "cell"),(.str "cell"),(.str "cell")])),(AE "less",(.tp AB [(.str "cell"),(.str "cell"),(.str "cell")])),(AE "both",(.tp AB [(.str "cell"),(.str "cell"),(.str "cell")])),(AE "any",(.tp AB [(.str "cell"),(.str "cell"),(.str "cell")])),(AE "odd",(.tp AB [(.str "cell"),(.str "cell"),(.str "cell")])),(AE "twice",(.tp AB [(.str "cell"),(.str "cell")])),(AE "half",(.tp AB [(.str "cell"),(.str "cell")])),(AE "times",(.tp AB [(.str "cell"),(.str "cell"),(.str "cell"),(.str "cell")])),(AE "mark",(.tp AB [(.str "figure")])),(AE "ask",(.tp AB [(.str "cell")]))]
section zq
local macro_rules|`(#[$x,*])=>do
 let mut a←`(.e)
 for y in x.getElems.reverse do a←`(.k $y $a)
 pure a
def yiS:Fn:=⟨5,5,AB,#[.ret (.tup #[.v 0,.tup #[.v 1,.v 2,.v 3,.v 4]])]⟩
def yiT:Fn:=⟨1,1,AB,#[.ret (.call 0 (yaj #[.v 0,.neg (.i 1)] (yr [.inr 0,.inr 0,.inl (.i 1)])))]⟩
def yiU:Fn:=⟨1,1,AB,#[.ret (.blt .tuple #[.comp [AD] (.n 0) (.seq (.v 0)) (.cst (.bl AB)) (.tup #[.s "row",.v 0])])]⟩
def yiV:Fn:=⟨3,3,AB,#[.ret (.tup #[.tup #[.s "rounds",.v 0,.v 1,.v 2]])]⟩
def yiW:Fn:=⟨5,5,AB,#[.ret (.tup #[.s "slice",.v 0,.tup #[.i 0,.i 0,.i 0,.i 0],.tup #[.v 1,.v 2,.v 3,.v 4]])]⟩
def yiX:Fn:=⟨6,6,AB,#[.ret (.tup #[.v 0,.tup #[.i 0,.v 2,.i 0,.v 3,.v 4,.v 5],.v 1])]⟩
def yiY:Fn:=⟨1,1,AB,#[.ret (.tup #[.s "sum",.v 0,.cst ycj,.cst ycj])]⟩
def yiZ:Fn:=⟨1,1,AB,#[.ret (.lst #[.tup #[.s "set",.v 0,.i 1],.tup #[.s "less",.v 0,.v 0,.cst ycj]])]⟩
def yi0:Fn:=⟨2,2,AB,#[.ret (.lst #[.tup #[.s "twice",.cst yeO,.v 1],.tup #[.s "less",.v 0,.cst ycj,.cst ycj]])]⟩
def yi1:Fn:=⟨4,4,AB,#[.ret (.call 3 #[.v 3,.tup .e,.call 2 #[.lst #[.tup #[.s "odd",.cst yeO,.v 1,.v 2],.tup #[.s "any",.v 0,.v 0,.cst yeO]]]])]⟩
def yi2:Fn:=⟨3,4,AB,#[.asg (.n 3) (.tup #[.s "any",.cst yfx,.cst yfx,.call 0 (yaj #[.v 0] (yr [.inr 0,.inl (.i 1),.inr 0,.inl (.v 1)]))]),.ret (.bin .add (.bin .add (.call 2 #[.lst #[.tup #[.s "set",.cst yfx,.i 0]]]) (.call 3 #[.v 2,.tup .e,.call 2 #[.lst #[.v 3]]])) (.call 2 #[.lst #[.tup #[.s "ask",.cst yfx]]]))]⟩
def yi3:Fn:=⟨2,3,AB,#[.asg (.n 2) (.lst #[.tup #[.s "twice",.cst yeO,.call 0 (yaj #[.s "c",.bin .sub (.v 0) (.i 1)] (yr [.inr 0,.inr 0,.inl (.v 1)]))],.call 6 #[.idx (.cst yhd) (.i 3)]]),.ret (.bin .add (.call 10 #[.s "c",.i 0,.tup #[.v 0,.v 1,.i 0]]) (.call 2 #[.bin .add (.call 7 #[.idx (.cst yhd) (.i 2)]) (.v 2)]))]⟩
def yi4:Fn:=⟨0,3,AB,#[.asg (.n 0) (.tup #[.call 5 (yaj #[.i 1,.tup #[.call 4 (yaj #[.s "c"] (yr [.inr 0,.inl (.i 1),.inr 0,.inl (.i 1)]))]] (yr [.inr 0,.inr 0,.inr 0,.inr 0])),.call 5 (yaj #[.neg (.i 1),.tup #[.call 4 (yaj #[.s "a"] (yr [.inr 0,.inr 0,.inr 0,.inl (.i 1)])),.call 4 (yaj #[.s "b"] (yr [.inr 0,.inl (.i 1),.inr 0,.inr 0]))]] (yr [.inr 0,.inr 0,.inr 0,.inr 0]))]),.asg (.n 1) (.call 2 #[.lst #[.tup #[.s "mark",.i 0],.tup #[.s "set",.cst yfw,.i 0]]]),.asg (.n 2) (.call 2 #[.lst #[.tup #[.s "move",.call 0 (yaj #[.s "c"] (yr [.inr 0,.inl (.i 1),.inr 0,.inl (.i 1)])),.cst yfw]]]),.ret (.call 3 #[.cst yft,.v 0,.bin .add (.bin .add (.v 1) (.call 13 .e)) (.v 2)])]⟩
def yi5:Fn:=⟨0,3,AB,#[.asg (.n 0) (.call 0 (yaj #[.s "c"] (yr [.inr 0,.inl (.i 1),.inl (.i 1),.inr 0]))),.asg (.n 1) (.tup #[.s "slice",.s "b",.tup #[.i 0,.i 1,.i 0,.i 0],.tup #[.i 1,.i 1,.i 0,.i 0]]),.asg (.n 2) (.tup #[.call 5 (yaj #[.i 1,.tup #[.call 4 (yaj #[.s "c"] (yr [.inr 0,.inl (.i 1),.inr 0,.inl (.i 1)]))]] (yr [.inr 0,.inr 0,.inr 0,.inr 0])),.call 5 (yaj #[.i 1,.tup #[.call 4 (yaj #[.s "o",.i 1] (yr [.inr 0,.inr 0,.inr 0]))]] (yr [.inr 0,.inl (.i 1),.inl (.i 1),.inr 0])),.call 5 (yaj #[.neg (.i 1),.tup #[.call 4 (yaj #[.s "a"] (yr [.inr 0,.inr 0,.inr 0,.inl (.i 1)])),.call 4 (yaj #[.s "b"] (yr [.inr 0,.inl (.i 1),.inr 0,.inr 0]))]] (yr [.inr 0,.inr 0,.inr 0,.inr 0])),.call 5 (yaj #[.neg (.i 1),.tup #[.call 4 (yaj #[.s "a"] (yr [.inr 0,.inr 0,.inl (.i 1),.inr 0])),.v 1]] (yr [.inr 0,.inl (.i 1),.inr 0,.inr 0]))]),.ret (.call 3 #[.cst yft,.v 2,.call 2 #[.lst #[.tup #[.s "times",.cst ycL,.cst yet,.call 0 (yaj #[.s "a"] (yr [.inr 0,.inr 0,.inl (.i 1),.inr 0])),.call 0 (yaj #[.s "b"] (yr [.inr 0,.inl (.i 1),.inr 0,.inr 0]))],.tup #[.s "sum",.cst ycL,.cst ycL,.cst yfw],.tup #[.s "sum",.cst yet,.cst yet,.cst ycj],.tup #[.s "sum",.v 0,.v 0,.cst ycL],.tup #[.s "sum",.cst yfw,.cst yet,.cst ycj]]]])]⟩
def yeT:Fn:=⟨3,3,AB,#[.ret (.and (.isi (.v 0) [.int]) (.and (.not (.isi (.v 0) [.bool])) (.chain .le .le (.v 1) (.v 0) (.v 2))))]⟩
def yia:Fn:=⟨1,1,AB,#[.ret (.and (.isi (.v 0) [.str]) (.and (.cmp .eq (.blt .len #[.v 0]) (.i 1)) (.chain .le .le (.s "a") (.v 0) (.s "z"))))]⟩
def yi6:Fn:=⟨2,2,AB,#[.ite (.or (.not (.isi (.v 0) [.tuple])) (.cmp .ne (.blt .len #[.v 0]) (.v 1))) #[.nope] .e,.ret (.blt .all #[.comp [AD] (.n 0) (.seq (.v 0)) (.cst (.bl AB)) (.call 14 #[.v 0,.neg (.cst yiQ),.cst yiQ])])]⟩
def yi7:Fn:=⟨0,1,AB,#[.asg (.n 0) (.bin .add (.call 18 #[.cst yfP,.s "a"]) (.call 18 #[.cst yhf,.s "b"])),.ret (.bin .add (.bin .add (.bin .add (.bin .add (.bin .add (.v 0) (.call 12 .e)) (.call 20 .e)) (.call 21 .e)) (.call 25 .e)) (.call 11 #[.i 0,.i 2]))]⟩
def yi8:Fn:=⟨2,2,AB,#[.ret (.call 2 #[.lst #[.tup #[.s "twice",.cst yeO,.call 1 #[.v 1]],.call 6 #[.v 0]]])]⟩
def yi9:Fn:=⟨1,1,AB,#[.ret (.call 4 (yaj #[.idx (.v 0) (.i 0),.i 1] (yr [.inr 0,.inr 0,.inr 0])))]⟩
def yja:Fn:=⟨0,0,AB,#[.ret (.bin .add (.call 24 #[.cst yfP,.s "b",.bin .add (.call 22 .e) (.call 23 #[.cst yfP,.s "b"])]) (.call 2 #[.lst #[.call 6 #[.cst yh6]]]))]⟩
def yjb:Fn:=⟨0,1,AB,#[.asg (.n 0) (.tup #[.call 5 (yaj #[.i 1,.tup #[.call 19 #[.cst yfP],.call 4 (yaj #[.s "b"] (yr [.inr 0,.inr 0,.inr 0,.inl (.i 1)]))]] (yr [.inr 0,.inr 0,.inr 0,.inl (.i 1)])),.call 5 (yaj #[.neg (.i 1),.tup #[.call 19 #[.cst yh6]]] (yr [.inr 0,.inr 0,.inr 0,.inl (.i 2)]))]),.ret (.call 24 #[.cst yhf,.s "a",.bin .add (.bin .add (.call 22 .e) (.v 0)) (.call 23 #[.cst yhf,.s "a"])])]⟩
def yjc:Fn:=⟨0,0,AB,#[.ret (.tup #[.call 5 (yaj #[.i 1,.tup #[.call 4 (yaj #[.s "c"] (yr [.inr 0,.inr 0,.inr 0,.inl (.i 2)]))]] (yr [.inr 0,.inr 0,.inr 0,.inr 0])),.call 5 (yaj #[.neg (.i 1),.tup #[.call 4 (yaj #[.s "a"] (yr [.inr 0,.inr 0,.inr 0,.inl (.i 1)])),.call 4 (yaj #[.s "b"] (yr [.inr 0,.inr 0,.inr 0,.inl (.i 1)]))]] (yr [.inr 0,.inr 0,.inr 0,.inr 0]))])]⟩
def yjd:Fn:=⟨2,2,AB,#[.ret (.tup #[.call 5 (yaj #[.i 1,.tup #[.call 19 #[.v 0],.call 4 (yaj #[.v 1] (yr [.inr 0,.inl (.i 1),.inr 0,.inr 0]))]] (yr [.inr 0,.inr 0,.inr 0,.inl (.i 1)])),.call 5 (yaj #[.neg (.i 1),.tup #[.tup #[.s "mark"]]] (yr [.inr 0,.inl (.i 1),.inr 0,.inl (.i 1)]))])]⟩
def yje:Fn:=⟨3,4,AB,#[.asg (.n 3) (.call 0 (yaj #[.s "c"] (yr [.inr 0,.inl (.i 1),.inr 0,.inl (.i 1)]))),.ret (.call 3 #[.cst yft,.v 2,.call 2 #[.lst #[.tup #[.s "times",.cst ycL,.cst yet,.call 0 (yaj #[.v 1] (yr [.inr 0,.inl (.i 1),.inr 0,.inr 0])),.v 0],.tup #[.s "less",.v 3,.v 3,.cst ycL]]]])]⟩
def yjf:Fn:=⟨0,1,AB,#[.asg (.n 0) (.call 9 #[.cst yh8,.call 0 (yaj #[.s "c"] (yr [.inr 0,.inl (.i 1),.inr 0,.inl (.i 1)])),.cst yh7,.cst yft]),.ret (.bin .add (.bin .add (.call 2 #[.call 8 #[.cst yh7,.call 1 #[.s "c"]]]) (.v 0)) (.call 2 #[.lst #[.tup #[.s "ask",.cst yh8],.call 6 #[.idx (.cst yhd) (.i 1)]]]))]⟩
def yhg:Fn:=⟨1,1,AB,#[.ret (.call 28 #[.v 0,.cst (.bl AC)])]⟩
def yjg:Fn:=⟨1,1,AB,#[.ret (.call 28 #[.v 0,.cst (.bl AB)])]⟩
def yG:Fn:=⟨2,4,AB,#[.ite (.or (.not (.call 29 #[.v 0])) (.cmp .ne (.blt .len #[.v 0]) (.bin .add (.blt .len #[.dix ybR (.idx (.v 0) (.i 0))]) (.i 1)))) #[.ret (.cst (.bl AC))] .e,.for (.t [2,3]) (.zip (.dix ybR (.idx (.v 0) (.i 0))) (.slc (.v 0) (.i 1) (.cst .non))) #[.ite (.not (.call 30 #[.v 2,.v 3,.v 1])) #[.ret (.cst (.bl AC))] .e],.ret (.or (.cmp .ne (.idx (.v 0) (.i 0)) (.s "times")) (.cmp .ne (.idx (.v 0) (.i 1)) (.idx (.v 0) (.i 2))))]⟩
def yhh:Fn:=⟨1,1,AB,#[.ret (.and (.isi (.v 0) [.tuple]) (.and (.cmp .gt (.blt .len #[.v 0]) (.i 0)) (.and (.isi (.idx (.v 0) (.i 0)) [.str]) (.din (.idx (.v 0) (.i 0)) ybR))))]⟩
def yn:Fn:=⟨3,3,AB,#[.ite (.cmp .eq (.v 0) (.s "figure")) #[.ret (.call 14 #[.v 1,.i 0,.i 1])] .e,.ret (.ite (.v 2) (.call 32 #[.v 1]) (.call 31 #[.v 1]))]⟩
def yhi:Fn:=⟨1,1,AB,#[.ret (.and (.call 33 #[.v 0]) (.call 14 #[.idx (.v 0) (.i 1),.i 0,.i 99]))]⟩
def yjh:Fn:=⟨1,1,AB,#[.ret (.and (.call 33 #[.v 0]) (.call 16 #[.idx (.v 0) (.i 1),.i 4]))]⟩
def yhj:Fn:=⟨1,1,AB,#[.ret (.and (.isi (.v 0) [.tuple]) (.and (.cmp .eq (.blt .len #[.v 0]) (.i 2)) (.call 15 #[.idx (.v 0) (.i 0)])))]⟩
def yji:Fn:=⟨1,1,AB,#[.ret (.and (.isi (.v 0) [.tuple]) (.and (.cmp .le (.blt .len #[.v 0]) (.cst yjT)) (.blt .all #[.comp [AD] (.n 0) (.seq (.v 0)) (.cst (.bl AB)) (.call 36 #[.v 0])])))]⟩
def yhk:Fn:=⟨4,4,AB,#[.ret (.bin .add (.bin .add (.bin .add (.idx (.v 0) (.i 0)) (.bin .mul (.idx (.v 0) (.i 1)) (.v 2))) (.bin .mul (.idx (.v 0) (.i 2)) (.v 3))) (.bin .mul (.idx (.v 0) (.i 3)) (.v 1)))]⟩
def yjj:Fn:=⟨1,4,AB,#[.ite (.or (.not (.isi (.v 0) [.tuple])) (.cmp .ne (.blt .len #[.v 0]) (.i 3))) #[.ret (.cst (.bl AC))] .e,.asg (.t [1,2,3]) (.v 0),.ret (.and (.call 14 #[.v 1,.bin .sub (.i 1) (.cst yiL),.bin .sub (.cst yiL) (.i 1)]) (.and (.call 16 #[.v 2,.i 6]) (.call 37 #[.v 3])))]⟩
def yjk:Fn:=⟨1,1,AB,#[.ret (.and (.isi (.v 0) [.tuple]) (.and (.cmp .le (.blt .len #[.v 0]) (.cst yjU)) (.blt .all #[.comp [AD] (.n 0) (.seq (.v 0)) (.cst (.bl AB)) (.call 38 #[.v 0])])))]⟩
def yjl:Fn:=⟨1,1,AB,#[.ite (.or (.not (.isi (.v 0) [.tuple])) (.cmp .eq (.blt .len #[.v 0]) (.i 0))) #[.ret (.cst (.bl AC))] .e,.ite (.cmp .eq (.idx (.v 0) (.i 0)) (.s "mark")) #[.ret (.cmp .eq (.blt .len #[.v 0]) (.i 1))] .e,.ite (.or (.cmp .ne (.idx (.v 0) (.i 0)) (.s "slice")) (.or (.cmp .ne (.blt .len #[.v 0]) (.i 4)) (.not (.call 15 #[.idx (.v 0) (.i 1)])))) #[.ret (.cst (.bl AC))] .e,.ret (.and (.call 16 #[.idx (.v 0) (.i 2),.i 4]) (.call 16 #[.idx (.v 0) (.i 3),.i 4]))]⟩
def yib:Fn:=⟨3,3,AC,#[.sfl 20 (.v 0) (AE "w") (.v 1),.sfl 20 (.v 0) (AE "n") (.v 2),.sfl 20 (.v 0) (AE "steps") (.newl .e),.sfl 20 (.v 0) (AE "rows") (.i 0),.sfl 20 (.v 0) (AE "rounds") (.i 0)]⟩
def yh:Fn:=⟨3,4,AC,#[.for (.n 3) (.seq (.v 1)) #[.ite (.cmp .eq (.idx (.v 3) (.i 0)) (.s "row")) #[.expr (.mcl 20 43 (AE "add_row") (.v 0) #[.idx (.v 3) (.i 1),.v 2])] #[.expr (.mcl 20 41 (AE "go_rounds") (.v 0) #[.v 3,.v 2])]]]⟩
def yj:Fn:=⟨3,5,AC,#[.asg (.n 3) (.blt .max #[.i 0,.mcl 20 42 (AE "count_of") (.v 0) #[.idx (.v 1) (.i 1)]]),.for (.n 4) (.range1 (.v 3)) #[.expr (.mcl 20 45 (AE "add_asked") (.v 0) #[.idx (.v 1) (.i 2),.bin .add (.v 2) (.tup #[.v 4])]),.expr (.mcl 20 44 (AE "add_round") (.v 0) .e),.expr (.mcl 20 40 (AE "go_parts") (.v 0) #[.idx (.v 1) (.i 3),.bin .add (.v 2) (.tup #[.v 4])])],.expr (.mcl 20 45 (AE "add_asked") (.v 0) #[.idx (.v 1) (.i 2),.bin .add (.v 2) (.tup #[.v 3])])]⟩
def y7:Fn:=⟨2,5,AC,#[.asg (.t [2,3,4]) (.v 1),.ret (.bin .add (.bin .add (.v 2) (.bin .mul (.v 3) (.fld 20 (.v 0) (AE "n")))) (.bin .mul (.bin .mul (.v 4) (.fld 20 (.v 0) (AE "w"))) (.fld 20 (.v 0) (AE "n"))))]⟩
def y8:Fn:=⟨3,6,AC,#[.asg (.t [3,4]) (.call 51 #[.v 2]),.asg (.n 5) (.blt .tuple #[.comp [AD,AA 3,AA 4,AA 0] (.n 0) (.seq (.v 1)) (.cst (.bl AB)) (.call 52 #[.v 0,.fld 20 (.v 3) (AE "n"),.v 1,.v 2])]),.sfl 20 (.v 0) (AE "rows") (.bin .add (.fld 20 (.v 0) (AE "rows")) (.i 1)),.ite (.or (.not (.call 26 #[.v 5])) (.cmp .gt (.fld 20 (.v 0) (AE "rows")) (.cst yiP))) #[.nope] .e,.expr (.mth .append (.fld 20 (.v 0) (AE "steps")) #[.tup #[.s "row",.v 5]])]⟩
def y9:Fn:=⟨1,1,AC,#[.sfl 20 (.v 0) (AE "rounds") (.bin .add (.fld 20 (.v 0) (AE "rounds")) (.i 1)),.ite (.cmp .gt (.fld 20 (.v 0) (AE "rounds")) (.cst yiO)) #[.nope] .e]⟩
def yhl:Fn:=⟨3,5,AC,#[.asg (.t [3,4]) (.call 51 #[.v 2]),.expr (.mth .append (.fld 20 (.v 0) (AE "steps")) #[.tup #[.s "asked",.v 1,.v 3,.v 4]])]⟩
def yic:Fn:=⟨1,1,AB,#[.ret (.call 49 #[.v 0,.cst yjS])]⟩
def yhm:Fn:=⟨3,3,AB,#[.ret (.blt .tuple #[.comp [AD] (.n 0) (.seq (.call 48 #[.v 0,.v 1,.v 2])) (.cmp .eq (.idx (.v 0) (.i 0)) (.s "row")) (.idx (.v 0) (.i 1))])]⟩
def yhn:Fn:=⟨3,4,AB,#[.ite (.not (.call 46 #[.v 0])) #[.nope] .e,.asg (.n 3) (.new 20 39 #[.v 1,.v 2]),.expr (.mcl 20 40 (AE "go_parts") (.v 3) #[.v 0,.tup .e]),.ret (.frz (.fld 20 (.v 3) (AE "steps")))]⟩
def yjm:Fn:=⟨2,2,AB,#[.ret (.and (.isi (.v 0) [.tuple]) (.blt .all #[.comp [AD,AA 1] (.n 0) (.seq (.v 0)) (.cst (.bl AB)) (.call 50 #[.v 0,.v 1])]))]⟩
def yjn:Fn:=⟨2,2,AB,#[.ite (.or (.not (.isi (.v 0) [.tuple])) (.cmp .eq (.blt .len #[.v 0]) (.i 0))) #[.ret (.cst (.bl AC))] .e,.ite (.cmp .eq (.idx (.v 0) (.i 0)) (.s "row")) #[.ret (.and (.cmp .eq (.blt .len #[.v 0]) (.i 2)) (.call 27 #[.idx (.v 0) (.i 1)]))] .e,.ite (.or (.cmp .ne (.idx (.v 0) (.i 0)) (.s "rounds")) (.or (.cmp .ne (.blt .len #[.v 0]) (.i 4)) (.cmp .eq (.v 1) (.i 0)))) #[.ret (.cst (.bl AC))] .e,.ret (.and (.call 16 #[.idx (.v 0) (.i 1),.i 3]) (.and (.call 34 #[.idx (.v 0) (.i 2)]) (.call 49 #[.idx (.v 0) (.i 3),.bin .sub (.v 1) (.i 1)])))]⟩
def yge:Fn:=⟨1,1,AB,#[.ret (.slc (.bin .add (.v 0) (.tup #[.i 0,.i 0])) (.cst .non) (.i 2))]⟩
def ydw:Fn:=⟨4,4,AB,#[.ite (.not (.isi (.v 0) [.tuple])) #[.ret (.v 0)] .e,.ret (.tup #[.idx (.v 0) (.i 0),.call 35 #[.idx (.v 0) (.i 1),.v 1,.v 2,.v 3]])]⟩
def yid:Fn:=⟨1,1,AB,#[.ite (.not (.call 55 #[.v 0])) #[.nope] .e,.ite (.cmp .eq (.idx (.v 0) (.i 0)) (.s "led")) #[.nope] .e,.ite (.cmp .isin (.idx (.v 0) (.i 0)) (.cst yfy)) #[.nope] .e,.ite (.cmp .isin (.idx (.v 0) (.i 0)) (.cst yiR)) #[.nope] .e,.ret (.call 59 #[.idx (.v 0) (.i 0)])]⟩
def ygA:Fn:=⟨3,3,AB,#[.ret (.call 47 #[.call 53 #[.v 0],.v 1,.v 2])]⟩
def yjo:Fn:=⟨1,1,AB,#[.ite (.or (.not (.isi (.v 0) [.tuple])) (.cmp .eq (.blt .len #[.v 0]) (.i 0))) #[.nope] .e,.ite (.cmp .eq (.idx (.v 0) (.i 0)) (.s "led")) #[.nope] .e,.ite (.cmp .isin (.idx (.v 0) (.i 0)) (.cst yfy)) #[.nope] .e,.ret (.and (.cmp .eq (.blt .len #[.v 0]) (.i 1)) (.or (.cmp .isin (.idx (.v 0) (.i 0)) (.cst yh9)) (.cmp .isin (.idx (.v 0) (.i 0)) (.cst yiM))))]⟩
def yjp:Fn:=⟨1,1,AB,#[.ret (.cmp .isin (.idx (.v 0) (.i 0)) (.cst yh9))]⟩
def yv:Fn:=⟨2,2,AB,#[.ite (.cmp .eq (.idx (.v 0) (.i 0)) (.s "compare")) #[.nope] .e,.ite (.cmp .eq (.idx (.v 0) (.i 0)) (.s "led")) #[.nope] .e,.ret (.ite (.cmp .isin (.idx (.v 0) (.i 0)) (.cst yhe)) (.bin .mul (.i 2) (.v 1)) (.v 1))]⟩
def yy:Fn:=⟨2,2,AB,#[.ret (.ite (.cmp .isin (.idx (.v 0) (.i 0)) (.cst yeK)) (.v 1) (.i 0))]⟩
def yjq:Fn:=⟨1,1,AB,#[.ite (.cmp .eq (.v 0) (.s "sum")) #[.nope] .e,.ite (.cmp .eq (.v 0) (.s "difference")) #[.nope] .e,.ite (.cmp .eq (.v 0) (.s "turned")) #[.nope] .e,.ite (.cmp .eq (.v 0) (.s "compare")) #[.nope] .e,.ite (.cmp .eq (.v 0) (.s "bare")) #[.nope] .e,.ite (.cmp .eq (.v 0) (.s "product")) #[.nope] .e,.ite (.cmp .eq (.v 0) (.s "signed product")) #[.ret (.call 17 .e)] .e,.nope,.nope]⟩
def yho:Fn:=⟨5,6,AB,#[.mkr 5 ya (.v 0) #[.v 1,.v 2,.v 3,.v 4]]⟩
def yhp:Fn:=⟨1,1,AB,#[.ret (.bin .sub (.bin .shl (.i 1) (.v 0)) (.i 1))]⟩
def yhq:Fn:=⟨4,4,AB,#[.ret (.tup #[.v 1,.v 3])]⟩
def yhr:Fn:=⟨4,4,AB,#[.ret (.tup #[.bin .sub (.call 61 #[.v 0]) (.v 1),.v 3])]⟩
def yhs:Fn:=⟨4,5,AB,#[.asg (.n 4) (.bin .add (.bin .add (.v 1) (.v 2)) (.v 3)),.ret (.tup #[.bin .band (.v 4) (.call 61 #[.v 0]),.bin .shr (.v 4) (.v 0)])]⟩
def yB:Fn:=⟨4,5,AB,#[.asg (.n 4) (.bin .sub (.bin .sub (.v 1) (.v 2)) (.v 3)),.ret (.tup #[.bin .band (.v 4) (.call 61 #[.v 0]),.ite (.cmp .lt (.v 4) (.i 0)) (.i 1) (.i 0)])]⟩
def yht:Fn:=⟨4,4,AB,#[.ret (.tup #[.bin .band (.v 1) (.v 2),.v 3])]⟩
def yhu:Fn:=⟨4,4,AB,#[.ret (.tup #[.bin .bor (.v 1) (.v 2),.v 3])]⟩
def yhv:Fn:=⟨4,4,AB,#[.ret (.tup #[.bin .bxor (.v 1) (.v 2),.v 3])]⟩
def yhw:Fn:=⟨4,4,AB,#[.ret (.call 64 #[.v 0,.v 1,.v 1,.v 3])]⟩
def yhx:Fn:=⟨4,4,AB,#[.ret (.tup #[.bin .bor (.bin .shr (.v 1) (.i 1)) (.bin .shl (.v 3) (.bin .sub (.v 0) (.i 1))),.bin .band (.v 1) (.i 1)])]⟩
def yhy:Fn:=⟨2,2,AC,#[.sfl 21 (.v 0) (AE "w") (.v 1),.sfl 21 (.v 0) (AE "words") (.dict0 AB),.sfl 21 (.v 0) (AE "marked") (.i 0)]⟩
def yhz:Fn:=⟨4,5,AC,#[.asg (.n 4) (.call 79 #[.v 1,.v 2]),.ite (.not (.call 14 #[.v 3,.i 0,.call 61 #[.fld 21 (.v 0) (AE "w")]])) #[.nope] .e,.dput (.fld 21 (.v 0) (AE "words")) (.v 4) (.v 3)]⟩
def yhA:Fn:=⟨3,3,AC,#[.ret (.mcl 21 75 (AE "held_in") (.v 0) #[.call 79 #[.v 1,.v 2]])]⟩
def yD:Fn:=⟨2,3,AC,#[.for (.n 2) (.seq (.v 1)) #[.expr (.call 80 #[.v 2])],.for (.n 2) (.seq (.v 1)) #[.expr (.mcl 21 76 (AE "go_row") (.v 0) #[.v 2])]]⟩
def yhB:Fn:=⟨2,2,AC,#[.ret (.mth .get (.fld 21 (.v 0) (AE "words")) #[.v 1,.i 0])]⟩
def yb:Fn:=⟨2,2,AC,#[.ite (.cmp .eq (.idx (.v 1) (.i 0)) (.s "mark")) #[.sfl 21 (.v 0) (AE "marked") (.idx (.v 1) (.i 1))] #[.ite (.cmp .eq (.idx (.v 1) (.i 0)) (.s "ask")) #[.sfl 21 (.v 0) (AE "marked") (.ite (.cmp .eq (.mcl 21 75 (AE "held_in") (.v 0) #[.idx (.v 1) (.i 1)]) (.i 0)) (.i 0) (.i 1))] #[.ite (.cmp .eq (.idx (.v 1) (.i 0)) (.s "set")) #[.dput (.fld 21 (.v 0) (AE "words")) (.idx (.v 1) (.i 1)) (.idx (.v 1) (.i 2))] #[.ite (.cmp .eq (.idx (.v 1) (.i 0)) (.s "times")) #[.expr (.mcl 21 77 (AE "go_times") (.v 0) #[.v 1])] #[.expr (.mcl 21 78 (AE "go_made") (.v 0) #[.v 1])]]]]]⟩
def yhC:Fn:=⟨2,3,AC,#[.asg (.n 2) (.bin .mul (.mcl 21 75 (AE "held_in") (.v 0) #[.idx (.v 1) (.i 3)]) (.mcl 21 75 (AE "held_in") (.v 0) #[.idx (.v 1) (.i 4)])),.dput (.fld 21 (.v 0) (AE "words")) (.idx (.v 1) (.i 1)) (.bin .band (.v 2) (.call 61 #[.fld 21 (.v 0) (AE "w")])),.dput (.fld 21 (.v 0) (AE "words")) (.idx (.v 1) (.i 2)) (.bin .shr (.v 2) (.fld 21 (.v 0) (AE "w")))]⟩
def yhD:Fn:=⟨2,6,AC,#[.asg (.t [2,3]) (.tup #[.mcl 21 75 (AE "held_in") (.v 0) #[.idx (.v 1) (.i 2)],.mcl 21 75 (AE "held_in") (.v 0) #[.idx (.v 1) (.neg (.i 1))]]),.asg (.t [4,5]) (.call 60 #[.idx (.v 1) (.i 0),.fld 21 (.v 0) (AE "w"),.v 2,.v 3,.fld 21 (.v 0) (AE "marked")]),.dput (.fld 21 (.v 0) (AE "words")) (.idx (.v 1) (.i 1)) (.v 4),.sfl 21 (.v 0) (AE "marked") (.v 5)]⟩
def yie:Fn:=⟨2,2,AB,#[.ite (.not (.call 31 #[.tup #[.v 0,.v 1]])) #[.nope] .e,.ret (.tup #[.v 0,.v 1])]⟩
def ygC:Fn:=⟨1,1,AB,#[.ite (.not (.call 26 #[.v 0])) #[.nope] .e]⟩
def yhE:Fn:=⟨3,3,AB,#[.ite (.or (.cmp .lt (.v 0) (.i 0)) (.cmp .ge (.v 0) (.bin .shl (.i 1) (.bin .mul (.v 1) (.v 2))))) #[.nope] .e,.ret (.call 83 #[.v 0,.v 1,.v 2])]⟩
def yhF:Fn:=⟨2,2,AB,#[.ret (.bin .shr (.idx (.v 0) (.neg (.i 1))) (.bin .sub (.v 1) (.i 1)))]⟩
def yhG:Fn:=⟨3,4,AB,#[.asg (.n 3) (.bin .sub (.bin .shl (.i 1) (.v 1)) (.i 1)),.ret (.blt .tuple #[.comp [AD,AA 3,AA 0,AA 1] (.n 0) (.range1 (.v 2)) (.cst (.bl AB)) (.bin .band (.bin .shr (.v 2) (.bin .mul (.v 3) (.v 0))) (.v 1))])]⟩
def ybb:Fn:=⟨5,10,AB,#[.expr (.call 85 #[.v 0,.v 1,.v 2,.v 3,.v 4]),.ite (.cmp .eq (.idx (.v 0) (.i 0)) (.s "compare")) #[.nope] .e,.asg (.t [5,6,7]) (.call 86 #[.v 0,.v 1,.v 2,.v 3,.v 4]),.asg (.n 8) (.call 83 #[.v 5,.v 1,.call 57 #[.v 0,.v 2]]),.asg (.n 9) (.call 83 #[.bin .sub (.v 3) (.bin .mul (.v 4) (.v 5)),.v 1,.call 58 #[.v 0,.v 2]]),.ret (.tup #[.v 8,.v 9,.tup #[.v 6,.v 7,.ite (.blt .any #[.v 8]) (.i 0) (.i 1),.call 82 #[.v 8,.v 1]]])]⟩
def ygV:Fn:=⟨5,5,AB,#[.ite (.not (.call 55 #[.v 0])) #[.nope] .e,.expr (.call 81 #[.v 3,.v 1,.v 2]),.expr (.call 81 #[.v 4,.v 1,.v 2]),.ite (.and (.cmp .ne (.v 4) (.i 0)) (.not (.call 56 #[.v 0]))) #[.nope] .e,.ite (.and (.cmp .eq (.v 4) (.i 0)) (.cmp .isin (.idx (.v 0) (.i 0)) (.cst yeK))) #[.nope] .e]⟩
def yaw:Fn:=⟨5,6,AB,#[.ite (.cmp .eq (.idx (.v 0) (.i 0)) (.s "led")) #[.nope] .e,.mkr 5 yh5 (.idx (.v 0) (.i 0)) #[.v 3,.ite (.cmp .isin (.idx (.v 0) (.i 0)) (.cst yfy)) (.idx (.v 0) (.i 1)) (.v 4),.bin .mul (.v 1) (.v 2)]]⟩
def yhH:Fn:=⟨2,2,AB,#[.ret (.bin .sub (.v 0) (.bin .shl (.bin .shr (.v 0) (.bin .sub (.v 1) (.i 1))) (.v 1)))]⟩
def yg1:Fn:=⟨2,3,AB,#[.asg (.n 2) (.bin .shl (.i 1) (.bin .sub (.v 1) (.i 1))),.ret (.ite (.chain .le .lt (.neg (.v 2)) (.v 0) (.v 2)) (.i 0) (.i 1))]⟩
def yjr:Fn:=⟨3,3,AB,#[.ret (.tup #[.bin .add (.v 0) (.v 1),.bin .shr (.bin .add (.v 0) (.v 1)) (.v 2),.call 88 #[.bin .add (.call 87 #[.v 0,.v 2]) (.call 87 #[.v 1,.v 2]),.v 2]])]⟩
def yjs:Fn:=⟨3,3,AB,#[.ret (.tup #[.bin .sub (.v 0) (.v 1),.blt .int #[.cmp .lt (.v 0) (.v 1)],.call 88 #[.bin .sub (.call 87 #[.v 0,.v 2]) (.call 87 #[.v 1,.v 2]),.v 2]])]⟩
def yjt:Fn:=⟨3,3,AB,#[.ret (.call 90 #[.i 0,.v 0,.v 2])]⟩
def yju:Fn:=⟨3,3,AB,#[.ret (.tup #[.bin .band (.v 0) (.v 1),.i 0,.i 0])]⟩
def yjv:Fn:=⟨3,3,AB,#[.ret (.tup #[.bin .bor (.v 0) (.v 1),.i 0,.i 0])]⟩
def yjw:Fn:=⟨3,3,AB,#[.ret (.tup #[.bin .bxor (.v 0) (.v 1),.i 0,.i 0])]⟩
def yjx:Fn:=⟨3,3,AB,#[.ret (.tup #[.bin .sub (.neg (.i 1)) (.v 0),.i 0,.i 0])]⟩
def yjy:Fn:=⟨3,3,AB,#[.ret (.tup #[.bin .shl (.v 0) (.v 1),.bin .band (.bin .shr (.bin .shl (.v 0) (.v 1)) (.v 2)) (.i 1),.i 0])]⟩
def yjz:Fn:=⟨3,3,AB,#[.ret (.tup #[.bin .shr (.v 0) (.v 1),.bin .band (.bin .shr (.bin .mul (.i 2) (.v 0)) (.v 1)) (.i 1),.i 0])]⟩
def yjA:Fn:=⟨3,3,AB,#[.ret (.call 97 #[.call 87 #[.v 0,.v 2],.v 1,.v 2])]⟩
def yjB:Fn:=⟨3,4,AB,#[.asg (.n 3) (.bin .mod (.v 1) (.v 2)),.ret (.tup #[.bin .bor (.bin .shl (.v 0) (.v 3)) (.bin .shr (.v 0) (.bin .sub (.v 2) (.v 3))),.i 0,.i 0])]⟩
def yjC:Fn:=⟨3,3,AB,#[.ret (.tup #[.bin .mul (.v 0) (.v 1),.i 0,.ite (.cmp .eq (.bin .shr (.bin .mul (.v 0) (.v 1)) (.v 2)) (.i 0)) (.i 0) (.i 1)])]⟩
def yhI:Fn:=⟨3,4,AB,#[.asg (.n 3) (.bin .mul (.call 87 #[.v 0,.v 2]) (.call 87 #[.v 1,.v 2])),.ret (.tup #[.v 3,.i 0,.call 88 #[.v 3,.v 2]])]⟩
def yjD:Fn:=⟨3,3,AB,#[.ret (.tup #[.bin .fdiv (.v 0) (.v 1),.i 0,.i 0])]⟩
def yjE:Fn:=⟨3,6,AB,#[.asg (.t [3,4]) (.tup #[.call 87 #[.v 0,.v 2],.call 87 #[.v 1,.v 2]]),.asg (.n 5) (.bin .fdiv (.blt .abs #[.v 3]) (.blt .abs #[.v 4])),.ite (.cmp .ne (.cmp .lt (.v 3) (.i 0)) (.cmp .lt (.v 4) (.i 0))) #[.asg (.n 5) (.neg (.v 5))] .e,.ret (.tup #[.v 5,.i 0,.call 88 #[.v 5,.v 2]])]⟩
def ycc:Fn:=⟨5,7,AB,#[.expr (.call 85 #[.v 0,.v 1,.v 2,.v 3,.v 4]),.asg (.n 5) (.call 105 #[.v 1,.v 2,.v 3,.v 4]),.expr (.mcl 21 74 (AE "run") (.v 5) #[.call 54 #[.v 0,.v 1,.v 2]]),.asg (.n 6) (.call 106 #[.v 5,.s "c",.call 57 #[.v 0,.v 2]]),.ret (.tup #[.v 6,.call 106 #[.v 5,.s "d",.call 58 #[.v 0,.v 2]],.call 106 #[.v 5,.s "m",.cst yiN]])]⟩
def yp:Fn:=⟨4,9,AC,#[.asg (.n 4) (.new 21 71 #[.v 0]),.for (.t [5,6]) (.seq (.tup #[.tup #[.s "a",.v 2],.tup #[.s "b",.v 3]])) #[.for (.t [7,8]) (.enum (.call 83 #[.v 6,.v 0,.v 1])) #[.expr (.mcl 21 72 (AE "put") (.v 4) #[.v 5,.v 7,.v 8])]],.ret (.v 4)]⟩
def yan:Fn:=⟨3,3,AC,#[.ret (.blt .tuple #[.comp [AD,AA 1,AA 0] (.n 0) (.range1 (.v 2)) (.cst (.bl AB)) (.mcl 21 73 (AE "word") (.v 2) #[.v 1,.v 0])])]⟩
def yhJ:Fn:=⟨1,1,AC,#[.ret (.newl #[.slc (.v 0) (.cst .non) (.i 63),.i 0,.i 0,.cst (.bl AC)])]⟩
def yax:Fn:=⟨1,8,AB,#[.asg (.n 1) (.tup #[.i 2147483647,.i 2147483629,.i 2147483587,.i 2147483579,.i 2147483563]),.asg (.n 2) (.i 0),.for (.t [3,4]) (.enum (.v 1)) #[.asg (.n 5) (.bin .add (.v 0) (.idx (.tup #[.i 11,.i 101,.i 1009,.i 10007,.i 100003]) (.v 3))),.asg (.n 5) (.bin .mod (.bin .mul (.v 5) (.bin .add (.i 48271) (.bin .mul (.i 2) (.v 3)))) (.v 4)),.asg (.n 6) (.bin .mod (.bin .mul (.v 5) (.v 5)) (.v 4)),.asg (.n 7) (.bin .mod (.bin .mul (.bin .mod (.bin .mul (.v 6) (.v 6)) (.v 4)) (.v 5)) (.v 4)),.asg (.n 2) (.bin .add (.bin .mul (.v 2) (.v 4)) (.v 7))],.ret (.v 2)]⟩
def yah:Fn:=⟨1,4,AC,#[.asg (.t [1,2]) (.tup #[.idx (.v 0) (.i 0),.idx (.v 0) (.i 1)]),.asg (.n 3) (.bin .add (.bin .mul (.i 31) (.v 2)) (.i 7)),.ite (.cmp .gt (.blt .len #[.v 1]) (.i 0)) #[.asg (.n 3) (.bin .mul (.i 104729) (.bin .fdiv (.v 2) (.blt .len #[.v 1]))),.asg (.n 3) (.bin .add (.v 3) (.idx (.v 1) (.bin .mod (.v 2) (.blt .len #[.v 1]))))] .e,.six (.v 0) (.i 1) (.bin .add (.v 2) (.i 1)),.six (.v 0) (.i 3) (.or (.cmp .ge (.v 2) (.blt .len #[.v 1])) (.cmp .lt (.v 3) (.bin .pow (.i 10) (.i 18)))),.ite (.idx (.v 0) (.i 3)) #[.six (.v 0) (.i 2) (.call 108 #[.v 3])] #[.six (.v 0) (.i 2) (.bin .sub (.v 3) (.bin .pow (.i 10) (.i 18)))]]⟩
def yW:Fn:=⟨2,4,AC,#[.asg (.n 2) (.i 0),.while (.and (.cmp .lt (.v 2) (.i 64)) (.or (.cmp .eq (.idx (.v 0) (.i 2)) (.i 0)) (.and (.idx (.v 0) (.i 3)) (.cmp .lt (.idx (.v 0) (.i 2)) (.bin .mul (.v 1) (.i 4096)))))) #[.expr (.call 109 #[.v 0]),.aug 2 .add (.i 1),.ite (.and (.idx (.v 0) (.i 3)) (.cmp .lt (.idx (.v 0) (.i 2)) (.bin .mul (.v 1) (.i 4096)))) #[.six (.v 0) (.i 2) (.bin .add (.idx (.v 0) (.i 2)) (.bin .mul (.bin .mul (.v 1) (.i 4096)) (.bin .add (.i 1) (.bin .mod (.idx (.v 0) (.i 2)) (.i 4093)))))] .e],.asg (.n 3) (.bin .mod (.idx (.v 0) (.i 2)) (.v 1)),.six (.v 0) (.i 2) (.bin .fdiv (.idx (.v 0) (.i 2)) (.v 1)),.ret (.v 3)]⟩
def yhK:Fn:=⟨2,2,AC,#[.ret (.tup #[.bin .add (.i 4) (.call 110 #[.v 0,.i 13]),.bin .add (.i 1) (.call 110 #[.v 0,.v 1])])]⟩
def yO:Fn:=⟨3,13,AC,#[.asg (.n 3) (.call 110 #[.v 0,.i 12]),.asg (.n 4) (.i 1),.for (.n 5) (.range1 (.bin .mul (.v 1) (.v 2))) #[.asg (.n 4) (.bin .mul (.i 2) (.v 4))],.asg (.n 6) (.tup #[.i 0,.i 1,.bin .sub (.v 4) (.i 1),.bin .fdiv (.v 4) (.i 2),.bin .sub (.bin .fdiv (.v 4) (.i 2)) (.i 1),.bin .sub (.v 4) (.i 2)]),.ite (.cmp .lt (.v 3) (.i 6)) #[.ret (.idx (.v 6) (.v 3))] .e,.asg (.n 7) (.call 110 #[.v 0,.v 4]),.ite (.cmp .eq (.v 3) (.i 6)) #[.asg (.n 8) (.i 1),.for (.n 5) (.range1 (.call 110 #[.v 0,.bin .mul (.v 1) (.v 2)])) #[.asg (.n 8) (.bin .mul (.i 2) (.v 8))],.ret (.bin .mul (.bin .fdiv (.v 7) (.v 8)) (.v 8))] .e,.ite (.cmp .eq (.v 3) (.i 7)) #[.asg (.n 8) (.i 1),.for (.n 5) (.range1 (.call 110 #[.v 0,.bin .mul (.v 1) (.v 2)])) #[.asg (.n 8) (.bin .mul (.i 2) (.v 8))],.ret (.bin .sub (.v 4) (.v 8))] .e,.ite (.cmp .gt (.v 3) (.i 9)) #[.ret (.v 7)] .e,.asg (.n 9) (.i 1),.for (.n 5) (.range1 (.v 1)) #[.asg (.n 9) (.bin .mul (.i 2) (.v 9))],.asg (.n 10) (.i 0),.for (.n 5) (.range1 (.v 2)) #[.asg (.n 11) (.bin .mod (.bin .fdiv (.v 7) (.bin .add (.v 5) (.i 1))) (.v 9)),.asg (.n 12) (.tup #[.i 0,.i 1,.bin .sub (.v 9) (.i 1),.bin .fdiv (.v 9) (.i 2),.v 11]),.asg (.n 10) (.bin .add (.bin .mul (.v 10) (.v 9)) (.idx (.v 12) (.call 110 #[.v 0,.i 5])))],.ret (.v 10)]⟩
def yhL:Fn:=⟨1,3,AB,#[.asg (.n 1) (.i 1),.for (.n 2) (.range1 (.v 0)) #[.asg (.n 1) (.bin .mul (.i 2) (.v 1))],.ret (.v 1)]⟩
def yhM:Fn:=⟨3,6,AB,#[.asg (.n 3) (.call 113 #[.v 1]),.asg (.n 4) (.newl .e),.for (.n 5) (.range1 (.v 2)) #[.expr (.mth .append (.v 4) #[.bin .mod (.v 0) (.v 3)]),.asg (.n 0) (.bin .fdiv (.v 0) (.v 3))],.ret (.blt .tuple #[.v 4])]⟩
def yhN:Fn:=⟨2,3,AB,#[.asg (.n 2) (.call 113 #[.v 1]),.ite (.cmp .ge (.bin .mul (.i 2) (.v 0)) (.v 2)) #[.ret (.bin .sub (.v 0) (.v 2))] .e,.ret (.v 0)]⟩
def yhO:Fn:=⟨1,1,AB,#[.ret (.and (.isi (.v 0) [.int]) (.not (.isi (.v 0) [.bool])))]⟩
def yhP:Fn:=⟨3,3,AB,#[.ite (.or (.not (.isi (.v 0) [.tuple])) (.cmp .ne (.blt .len #[.v 0]) (.v 1))) #[.nope] .e,.ret (.blt .all #[.comp [AD,AA 2] (.n 0) (.seq (.v 0)) (.cst (.bl AB)) (.and (.call 116 #[.v 0]) (.chain .le .le (.bin .sub (.i 0) (.v 1)) (.v 0) (.v 1)))])]⟩
def yhQ:Fn:=⟨3,3,AB,#[.ite (.or (.not (.isi (.v 0) [.tuple])) (.or (.cmp .ne (.blt .len #[.v 0]) (.v 2)) (.not (.blt .all #[.comp [AD] (.n 0) (.seq (.v 0)) (.cst (.bl AB)) (.call 116 #[.v 0])])))) #[.nope] .e,.ret (.blt .all #[.comp [AD,AA 1] (.n 0) (.seq (.v 0)) (.cst (.bl AB)) (.chain .le .lt (.i 0) (.v 0) (.call 113 #[.v 1]))])]⟩
def yhR:Fn:=⟨2,3,AB,#[.asg (.n 2) (.call 113 #[.v 1]),.ret (.chain .le .lt (.bin .sub (.i 0) (.v 2)) (.bin .mul (.i 2) (.v 0)) (.v 2))]⟩
def yhS:Fn:=⟨2,2,AB,#[.ret (.tup #[.blt .int #[.cmp .eq (.v 0) (.i 0)],.blt .int #[.cmp .ge (.bin .mul (.i 2) (.v 0)) (.call 113 #[.v 1])]])]⟩
def yhT:Fn:=⟨4,7,AB,#[.asg (.n 4) (.bin .mul (.call 115 #[.v 2,.bin .mul (.v 0) (.v 1)]) (.call 115 #[.v 3,.bin .mul (.v 0) (.v 1)])),.asg (.n 5) (.bin .mod (.v 4) (.call 113 #[.bin .mul (.bin .mul (.i 2) (.v 0)) (.v 1)])),.asg (.n 6) (.bin .add (.tup #[.i 0,.blt .int #[.not (.call 119 #[.v 4,.bin .mul (.v 0) (.v 1)])]]) (.call 120 #[.v 5,.bin .mul (.bin .mul (.i 2) (.v 0)) (.v 1)])),.ret (.tup #[.call 114 #[.v 5,.v 0,.bin .mul (.i 2) (.v 1)],.tup .e,.v 6])]⟩
def yhU:Fn:=⟨3,3,AB,#[.ite (.or (.not (.isi (.v 0) [.tuple])) (.or (.cmp .ne (.blt .len #[.v 0]) (.i 3)) (.cmp .ne (.v 0) (.v 1)))) #[.nope] .e,.ret (.and (.call 118 #[.idx (.v 0) (.i 0),.v 2,.blt .len #[.idx (.v 1) (.i 0)]]) (.and (.cmp .eq (.idx (.v 0) (.i 1)) (.tup .e)) (.call 117 #[.idx (.v 0) (.i 2),.i 4,.i 1])))]⟩
def ybh:Fn:=⟨1,12,AB,#[.asg (.n 1) (.call 107 #[.v 0]),.asg (.t [2,3]) (.call 111 #[.v 1,.i 4]),.asg (.n 4) (.call 112 #[.v 1,.v 2,.v 3]),.asg (.n 5) (.call 112 #[.v 1,.v 2,.v 3]),.asg (.t [6,7]) (.call 111 #[.v 1,.i 4]),.asg (.n 8) (.tup #[.call 112 #[.v 1,.v 6,.v 7],.call 112 #[.v 1,.v 6,.v 7]]),.asg (.n 9) (.call 121 #[.v 2,.v 3,.v 4,.v 5]),.for (.n 10) (.seq (.tup #[.cst (.fnc 84),.cst (.fnc 104)])) #[.ite (.not (.call 122 #[.cav 10 ydM #[.tup #[.s "signed product"],.v 2,.v 3,.v 4,.v 5],.v 9,.v 2])) #[.nope] .e,.asg (.n 11) (.cav 10 ydM #[.tup #[.s "signed product"],.v 6,.v 7,.idx (.v 8) (.i 0),.idx (.v 8) (.i 1)]),.ite (.not (.call 122 #[.v 11,.call 121 #[.v 6,.v 7,.idx (.v 8) (.i 0),.idx (.v 8) (.i 1)],.v 6])) #[.nope] .e,.ite (.not (.call 122 #[.cav 10 ydM #[.tup #[.s "signed product"],.v 2,.v 3,.v 4,.v 5],.v 9,.v 2])) #[.nope] .e],.ret (.cst (.bl AB))]⟩
end zq
def Tl:List Fn:=[yiS,yiT,yiU,yiV,yiW,yiX,yiY,yiZ,yi0,yi1,yi2,yi3,yi4,yi5,yeT,yia,yi6,yi7,yi8,yi9,yja,yjb,yjc,yjd,yje,yjf,yhg,yjg,yG,yhh,yn,yhi,yjh,yhj,yji,yhk,yjj,yjk,yjl,yib,yh,yj,y7,y8,y9,yhl,yic,yhm,yhn,yjm,yjn,yge,ydw,yid,ygA,yjo,yjp,yv,yy,yjq,yho,yhp,yhq,yhr,yhs,yB,yht,yhu,yhv,yhw,yhx,yhy,yhz,yhA,yD,yhB,yb,yhC,yhD,yie,ygC,yhE,yhF,yhG,ybb,ygV,yaw,yhH,yg1,yjr,yjs,yjt,yju,yjv,yjw,yjx,yjy,yjz,yjA,yjB,yjC,yhI,yjD,yjE,ycc,yp,yan,yhJ,yax,yah,yW,yhK,yO,yhL,yhM,yhN,yhO,yhP,yhQ,yhR,yhS,yhT,yhU,ybh]
def T(i:Nat):Option Fn:=Tl[i]?
abbrev yg2:Nat:=14
abbrev yif:Nat:=15
abbrev yeU:Nat:=26
abbrev yig:Nat:=28
abbrev yih:Nat:=29
abbrev yi:Nat:=30
abbrev yjF:Nat:=31
abbrev yjG:Nat:=33
abbrev yjH:Nat:=35
abbrev yjI:Nat:=39
abbrev yii:Nat:=40
abbrev yT:Nat:=41
abbrev yij:Nat:=42
abbrev yjJ:Nat:=43
abbrev yik:Nat:=44
abbrev yil:Nat:=45
abbrev yl:Nat:=46
abbrev yjK:Nat:=47
abbrev yjL:Nat:=48
abbrev yhV:Nat:=51
abbrev yeW:Nat:=52
abbrev yg3:Nat:=53
abbrev yhW:Nat:=54
abbrev yim:Nat:=55
abbrev yg4:Nat:=56
abbrev ym:Nat:=57
abbrev yg5:Nat:=58
abbrev yin:Nat:=60
abbrev yio:Nat:=61
abbrev yip:Nat:=62
abbrev yiq:Nat:=63
abbrev yir:Nat:=64
abbrev yis:Nat:=65
abbrev yit:Nat:=66
abbrev yiu:Nat:=67
abbrev yiv:Nat:=68
abbrev yiw:Nat:=69
abbrev yix:Nat:=70
abbrev yiy:Nat:=71
abbrev yjM:Nat:=72
abbrev yY:Nat:=73
abbrev yiz:Nat:=74
abbrev yz:Nat:=75
abbrev yf:Nat:=76
abbrev yjN:Nat:=77
abbrev yiA:Nat:=78
abbrev yiB:Nat:=79
abbrev yA:Nat:=80
abbrev yhX:Nat:=81
abbrev yg6:Nat:=82
abbrev yk:Nat:=83
abbrev ye4:Nat:=84
abbrev yiC:Nat:=85
abbrev yiD:Nat:=86
abbrev y6:Nat:=87
abbrev yhY:Nat:=88
abbrev yiE:Nat:=101
abbrev yd4:Nat:=104
abbrev yiF:Nat:=105
abbrev yg7:Nat:=106
abbrev yiG:Nat:=107
abbrev yiH:Nat:=108
abbrev yjO:Nat:=109
abbrev yiI:Nat:=110
abbrev yhZ:Nat:=111
abbrev yfd:Nat:=112
abbrev yh0:Nat:=113
abbrev yiJ:Nat:=114
abbrev yh1:Nat:=115
abbrev yg8:Nat:=116
abbrev yjP:Nat:=117
abbrev yjQ:Nat:=118
abbrev yjR:Nat:=119
abbrev yiK:Nat:=120
abbrev yh2:Nat:=121
abbrev yh3:Nat:=122
abbrev yh4:Nat:=123
end IC
namespace WK
open PySem L2 IC
def top(i:Nat):Stmt:=D6.main.body.getD i (.Pass ⟨0,0,0,0⟩)
local macro_rules|`(panic! $s:str)=>do
 let q:=fun (x:String)=>Lean.Syntax.mkStrLit x
 let n:=fun (x:String)=>Lean.Syntax.mkNumLit x
 let w:=fun (x:String)=>(x.splitOn ",").filter (·!="")
 let mut a:=#[]
 for e in s.getString.splitOn "|" do
  let f:=(e.splitOn " ").toArray
  let g:=f[0]!.splitOn ":"
  let b:=(f[1]!.splitOn ".").toArray
  let N:=w f[2]!
  let p:=(N.take f[3]!.toNat!).toArray.map q
  let N:=N.toArray.map q
  let k:=f.getD 5 ""
  let d:=(w (k.drop 1).toString).toArray
  let u←if b.size<2 then `(top $(n b[0]!)) else `(inClass (top $(n b[0]!)) $(n b[1]!))
  let z:=n (d.getD 0 "0")
  let v:=d.map n
  let y←if k=="" then `(.fn) else if k.startsWith "d" then `(.fd [$v,*]) else if k.startsWith "m" then `(.me $z) else `(.ini $z)
  a:=a.push (←`(⟨$(q g[0]!),$(q (g.getD 1 g[0]!)),$(q (g.getD 2 g[0]!)),$u,[$N,*],[$p,*],$(Lean.mkIdent (.mkSimple f[4]!)),$y⟩))
 `([$a,*])
def tb0:List Df:=panic! "word 15 letter,c,i,j,m 5 yiS d0,0,0,0|last_word 16 letter 1 yiT|rows 17 told 1 yiU|rounds 18 count,sentence,inner 3 yiV|lowest 19 letter,c,i,j,m 5 yiW d0,0,0,0|term 20 f,things,i,p,q,r 6 yiX d0,0,0,0|kept_mark 25 to 1 yiY|kept_contrary 26 to 1 yiZ|sign_filled 27 to,last 2 yi0|gathered_unlike 28 to,here,fill,count 4 yi1|asked_words 29 letter,m,count,gathered 3 yi2|answer_marks 30 c,m,sign 2 yi3|multiplied_products:multiplied:multiplied 44 sentence,begun,ended 0 yi4|by_one_word 46 here,this_word,sentence 0 yi5|is_whole 60 thing,low,high 3 yeT|is_letter 61 thing 1 yia|are_told 62 thing,many 2 yi6|signed_product_telling 80 signs 0 yi7|kept_sign 82 to,letter 2 yi8|worth_of 83 cell 1 yi9|less_for_x 84  0 yja|less_for_y 85 before 0 yjb|product_terms 86  0 yjc|less_terms 87 sign,letter 2 yjd|less_where 88 sign,letter,sentence,upper 3 yje|unfit_product 89 looked 0 yjf|is_row 103 thing 1 yhg|is_told_row 104 thing 1 yjg|has_form 105 thing,told,kind,operand 2 yG|is_named 106 thing 1 yhh|is_operand 107 kind,thing,told 3 yn|is_cell 108 thing 1 yhi|is_told_cell 109 thing 1 yjh|is_lettered 110 thing 1 yhj|is_sentence 115 thing 1 yji|place_of 116 told,n,i,j 4 yhk|is_term 117 thing,f,exponent,things 1 yjj|are_things 118 thing 1 yjk|is_thing 119 thing 1 yjl|:__init__:Unrolling.__init__ 124.0 self,w,n 3 yib i20|:go_parts:Unrolling.go_parts 124.1 self,parts,gone,part 3 yh m20|:go_rounds:Unrolling.go_rounds 124.2 self,part,gone,count,at 3 yj m20|:count_of:Unrolling.count_of 124.3 self,told,c,m,t 2 y7 m20|:add_row:Unrolling.add_row 124.4 self,told,gone,i,j,row 3 y8 m20|:add_round:Unrolling.add_round 124.5 self 1 y9 m20|:add_asked:Unrolling.add_asked 124.6 self,sentence,gone,i,j 3 yhl m20|is_telling 125 thing 1 yic|unrolled 126 telling,w,n 3 yhm|steps_of 127 telling,w,n,unrolling 3 yhn|are_parts 128 thing,nests 2 yjm|is_part 129 thing,nests 2 yjn|both_gone 130 gone 1 yge|placed 131 thing,n,i,j 4 ydw|telling 140 deed 1 yid|deed_rows 141 deed,w,n 3 ygA|is_deed 142 thing 1 yjo|is_paired 143 deed 1 yjp|answer_words 144 deed,n 2 yv|rest_words 145 deed,n 2 yy|named_telling 147 name 1 yjq|made 149 name,w,x,y,k,make 5 yho|highest 150 w 1 yhp|moved 151 w,x,y,k 4 yhq|bared_made:bared:bared 153 w,x,y,k 4 yhr|summed_made:summed:summed 155 w,x,y,k,total 4 yhs|taken_away_made:taken_away:taken_away 157 w,x,y,k,total 4 yB|in_both_made:in_both:in_both 159 w,x,y,k 4 yht|in_any_made:in_any:in_any 161 w,x,y,k 4 yhu|in_one_made:in_one:in_one 163 w,x,y,k 4 yhv|doubled 165 w,x,y,k 4 yhw|halved 167 w,x,y,k 4 yhx|:__init__:Machine.__init__ 171.0 self,w 2 yhy i21|:put:Machine.put 171.1 self,letter,at,word,cell 4 yhz m21|:word:Machine.word 171.2 self,letter,at 3 yhA m21|:run:Machine.run 171.5 self,rows,row 2 yD m21|:held_in:Machine.held_in 171.6 self,cell 2 yhB m21|:go_row:Machine.go_row 171.7 self,row 2 yb m21|:go_times:Machine.go_times 171.8 self,row,product 2 yhC m21|:go_made:Machine.go_made 171.9 self,row,x,y,word,mark 2 yhD m21|known_cell 172 letter,at 2 yie|refuse_row 173 thing 1 ygC|words_of 175 worth,w,n 3 yhE|sign_of 176 number,w 2 yhF|lowest_words 177 worth,w,n,highest 3 yhG|comes 179 deed,w,n,x,y,worth,first,second,answer,rest 5 ybb|refuse_deed 180 deed,w,n,x,y 5 ygV|reckoned 181 deed,w,n,x,y,reckon 5 yaw|signed_worth 182 x,k 2 yhH|unfit 183 worth,k,half 2 yg1|summed 185 x,y,k 3 yjr|taken_away 187 x,y,k 3 yjs|turned 189 x,y,k 3 yjt|in_both 190 x,y,k 3 yju|in_any 192 x,y,k 3 yjv|in_one 194 x,y,k 3 yjw|bared 196 x,y,k 3 yjx|moved_left 198 x,s,k 3 yjy|moved_right 199 x,s,k 3 yjz|moved_down 200 x,s,k 3 yjA|rolled 201 x,s,k,places 3 yjB|multiplied 202 x,y,k 3 yjC|signed_multiplied 204 x,y,k,worth 3 yhI|divided 205 x,y,k 3 yjD|signed_divided 207 x,y,k,above,below,worth 3 yjE|ran 212 deed,w,n,x,y,machine,answer 5 ycc|machine_with 213 w,n,x,y,machine,letter,worth,at,word 4 yp|number_in 214 machine,letter,many 3 yan|_law_fresh 216 _law_script 1 yhJ|_law_mixed 217 _law_seed,_law_primes,_law_number_here,_law_k,_law_prime,_law_far,_law_square,_law_power 1 yax|_law_fill 218 _law_state,_law_cells,_law_at,_law_seed 1 yah|_law_take 219 _law_state,_law_many,_law_turns,_law_digit 2 yW|_law_sizes 220 _law_state,_law_most 2 yhK|_law_worth 221 _law_state,_law_w,_law_n,_law_way,_law_top,_law_k,_law_edges,_law_any_one,_law_low,_law_wide,_law_worth_here,_law_some,_law_words_here 3 yO|_law_two_to 222 _law_many,_law_found,_law_k 1 yhL|_law_words 223 _law_worth_here,_law_w,_law_n,_law_wide,_law_words_here,_law_k 3 yhM|_law_signed 224 _law_worth_here,_law_many,_law_top 2 yhN|_law_whole 225 _law_thing 1 yhO|_law_wholes 226 _law_thing,_law_many,_law_most 3 yhP|_law_number 227 _law_thing,_law_w,_law_n 3 yhQ|_law_fits 228 _law_signed_worth,_law_many,_law_top 2 yhR|_law_ends 229 _law_worth_here,_law_many 2 yhS|_law_due 230 _law_w,_law_n,_law_x,_law_y,_law_worth_here,_law_low,_law_marks 4 yhT|_law_told 231 _law_found,_law_due_here,_law_w 3 yhU|law 232 _law_script,_law_state,_law_w,_law_n,_law_x,_law_y,_law_wide,_law_many,_law_other,_law_due_here,_law_asked,_law_found 1 ybh"
def tb1:Nat->List Df->List (AN×GK)
 |_,[]=>[]
 |i,d::l=>if d.gn="" then tb1 (i+1) l else (match d.k with
  |.fd _=>eD d.gn i
  |_=>eF d.gn i)::tb1 (i+1) l
def tbQ:Tb where
 tbl:=tb0
 al:=tb1 0 tb0++[eF "bared_worths" 95,eF "divided_worths" 102,eF "doubled_made" 69,eF "halved_made" 70,eF "in_any_worths" 93,eF "in_both_worths" 92,eF "in_one_worths" 94,eF "moved_made" 62,eF "multiplied_worths" 100,eF "summed_worths" 89,eF "taken_away_worths" 90,eC "BORROWED" yh6,eC "EACH_WORD" yft,eC "FACTOR_LIMIT" (.int (10000000000000000000000000000000000000000)),eC "FILL_signed" yh7,eC "HIGH" yet,eC "LONE" yiM,eC "LOST_signed" yh8,eC "LOW" ycL,eC "MARKS_parts" yhd,eC "MARKS_runs" (.int (4)),eC "MOST_NESTS" (.int (2)),eC "MOST_ROUNDS" (.int (4000)),eC "MOST_ROWS" (.int (4000)),eC "MOST_TERMS" (.int (20)),eC "MOST_THINGS" (.int (2)),eC "MOST_TOLD" (.int (200)),eC "NIL" ycj,eC "OVER" yfw,eC "PAIRED" yh9,eC "PAIRWISE" yiR,eC "PRODUCTS" yhe,eC "QUOTIENTS" yeK,eC "SEEN" yfx,eC "SHIFTS" yfy,eC "SIGN_X" yfP,eC "SIGN_Y" yhf,eC "SPARE" yeO,eG "ROWS" (.dct ybR),eG "Machine" (.cls 21 71),eG "Unrolling" (.cls 20 39)]
 bs:=["abs","all","any","bool","enumerate","int","isinstance","len","max","range","str","tuple","zip"]
 ts:=[.bool,.int,.str,.tuple]
 fl:=[eN 20 "n",eN 20 "rounds",eN 20 "rows",eN 20 "steps",eN 20 "w",eN 21 "marked",eN 21 "w",eN 21 "words"]
 me:=[eM 20 "go_parts" 40,eM 20 "go_rounds" 41,eM 20 "count_of" 42,eM 20 "add_row" 43,eM 20 "add_round" 44,eM 20 "add_asked" 45,eM 21 "put" 72,eM 21 "word" 73,eM 21 "run" 74,eM 21 "held_in" 75,eM 21 "go_row" 76,eM 21 "go_times" 77,eM 21 "go_made" 78]
 kb:=[eK 0 1 ["i"] [AA 0,AD,AA 0,AA 0],eK 0 1 ["i","j"] [AA 0,AD,AD,AA 0],eK 0 1 ["i","m"] [AA 0,AD,AA 0,AD],eK 0 1 ["j"] [AA 0,AA 0,AD,AA 0],eK 0 2 ["m"] [AA 0,AA 0,AD],eK 4 1 ["i"] [AA 0,AD,AA 0,AA 0],eK 4 1 ["i","m"] [AA 0,AD,AA 0,AD],eK 4 1 ["j"] [AA 0,AA 0,AD,AA 0],eK 4 1 ["m"] [AA 0,AA 0,AA 0,AD],eK 4 2 [] [AA 0,AA 0,AA 0],eK 5 2 [] [AA 0,AA 0,AA 0,AA 0],eK 5 2 ["p"] [AA 0,AD,AA 0,AA 0],eK 5 2 ["p","q"] [AA 0,AD,AD,AA 0],eK 5 2 ["p","r"] [AA 0,AD,AA 0,AD],eK 5 2 ["r"] [AA 0,AA 0,AA 0,AD]]
 cn:=[eN 21 "Machine",eN 20 "Unrolling",eN 1084 "comes",eN 1104 "ran"]
 dd:=[eB "ROWS" ybR]
 ml:=[eL "MAKERS" ya,eL "RECKONED" yh5]
theorem ok_all:tbQ.tbl.all (okT tbQ)=true:=by decide +kernel
theorem T_ok:∀i d,tbQ.tbl[i]?=AA d->T i=AA d.fn:=λi d h=>by
 have e:Tl=tbQ.tbl.map (·.fn):=rfl;rw[T,e,CA,h];rfl
theorem kb_all:ybS (KbP tbQ) tbQ.kb:=by
 repeat' (first|exact trivial|(refine⟨kbP rfl rfl rfl rfl rfl ⋯ ?_,?_⟩;((repeat intro _);exact⟨_,rfl,rfl⟩)))
theorem cn_20:cnm tbQ 20="Unrolling":=rfl
theorem cn_21:cnm tbQ 21="Machine":=rfl
end WK
namespace IC
open PySem
def yaY(call:Cl)(t:Tg)(b:Css)(xs:List PV)(ρ:Env)(st:SO):Fl:=forL t (λρ2 st2=>exs call ρ2 st2 b) xs ρ st
def yaQ(call:Cl)(c:Ce)(b:Css)(n:Nat)(ρ:Env)(st:SO):Fl:=yao (λρ2 st2=>ev call ρ2 st2 c) (λρ2 st2=>exs call ρ2 st2 b) n ρ st
def ybe(call:Cl)(ρ0:Env)(t:Tg)(c e:Ce)(x:PV)(st2:SO):R (Option PV):=match yI t x ρ0 with
 |none=>.bad
 |some ρ1=>(ev call ρ1 st2 c).bind λb st3=>onO (yaK st3 b) λk=>cond k ((ev call ρ1 st3 e).bind λy st4=>.ok (AA y) st4) (.ok AD st3)
def yag(call:Cl)(ρ0:Env)(t:Tg)(c e:Ce)(xs:List PV)(st:SO):R (List PV):=yaP (ybe call ρ0 t c e) xs st
def yas(f:Fl)(k:Env->SO->Fl):Fl:=
 match f with
 |.nx ρ st=>k ρ st
 |f=>f
def nxO(o:Option Env)(st:SO):Fl:=
 match o with
 |some ρ=>.nx ρ st
 |none=>.bad
def stO(ρ:Env)(o:Option SO):Fl:=
 match o with
 |some st=>.nx ρ st
 |none=>.bad
section
variable {call:Cl}{ρ:Env}{st:SO}
theorem x_for{t:Tg}{it:Cit}{b:Css}:ex call ρ st (.for t it b)=(evi call ρ st it).fl ρ λxs st1=>yaY call t b xs ρ st1:=rfl
def zlr{c:Ce}{b:Css}:ex call ρ st (.while c b)=yaQ call c b 100000 ρ st:=rfl
theorem v_comp{sl:List (Option Nat)}{t:Tg}{it:Cit}{c e:Ce}:ev call ρ st (.comp sl t it c e)=(evi call ρ st it).bind λxs st1=>ych (yag call (sl.map λo=>o.bind λj=>(ρ[j]?).join) t c e xs st1):=rfl
def zD{t:Tg}{b:Css}:yaY call t b [] ρ st=.nx ρ st:=rfl
def zt{t:Tg}{b:Css}{x:PV}{xs:List PV}{ρ1:Env}(h:yI t x ρ=AA ρ1):yaY call t b (x::xs) ρ st=yat (exs call ρ1 st b) λρ2 st2=>yaY call t b xs ρ2 st2:=by
 rw[yaY,forL,h];rfl
def zer{t:Tg}{b:Css}(P:Nat->Env->SO->Prop):∀(xs:List PV) (i:Nat) (ρ:Env) (st:SO),P i ρ st ->
  (∀(j:Nat) (x:PV) (ρ:Env) (st:SO),xs[j]?=AA x->P (i+j) ρ st->∃ρ1 ρ2 st2,yI t x ρ=AA ρ1/\exs call ρ1 st b=.nx ρ2 st2/\P (i+j+1) ρ2 st2) ->
  ∃ρ' st',yaY call t b xs ρ st=.nx ρ' st'/\P (i+xs.length) ρ' st'
 |[],i,ρ,st,h,_=>⟨ρ,st,zD,h⟩
 |x::xs,i,ρ,st,h,k=>by
  let⟨ρ1,ρ2,st2,e1,e2,h2⟩:=k 0 x ρ st rfl h;let⟨ρ',st',e3,h3⟩:=zer P xs (i+1) ρ2 st2 h2 λj y ρ st hy hp=>by
   have:=k (j+1) y ρ st (by simpa using hy) (by rw[show i+(j+1)=i+1+j by lia];exact hp);rw[show i+(j+1)+1=i+1+j+1 by lia]at this;exact this
  refine⟨ρ',st',?_,by rw[AX,show i+(xs.length+1)=i+1+xs.length by lia];exact h3⟩;rw[zt e1,e2];exact e3
def zin{c:Ce}{b:Css}{n:Nat}{x:PV}{st1 st2:SO}{ρ2:Env}(h:ev call ρ st c=.ok x st1)(ht:yaK st1 x=AA AB)(hb:exs call ρ st1 b=.nx ρ2 st2):yaQ call c b (n+1) ρ st=yaQ call c b n ρ2 st2:=by
 rw[yaQ,yao,h];erw[R.fl,ht,onF,cond_true,hb,yat];rfl
def zfM{c:Ce}{b:Css}{n:Nat}{x:PV}{st1:SO}(h:ev call ρ st c=.ok x st1)(ht:yaK st1 x=AA AC):yaQ call c b (n+1) ρ st=.nx ρ st1:=by
 rw[yaQ,yao,h];erw[R.fl,ht,onF,cond_false]
def zbi{ρ0:Env}{t:Tg}{c e:Ce}:yag call ρ0 t c e [] st=.ok [] st:=rfl
def zad{ρ0:Env}{t:Tg}{c e:Ce}{x:PV}{xs:List PV}:yag call ρ0 t c e (x::xs) st=(ybe call ρ0 t c e x st).bind λo st1=>(yag call ρ0 t c e xs st1).bind λys st2=>.ok (ybV o ys) st2:=rfl
def zfo{ρ0:Env}{t:Tg}{c e:Ce}{f:PV->PV}:∀(xs:List PV),(∀x∈xs,ybe call ρ0 t c e x st=.ok (AA (f x)) st)->yag call ρ0 t c e xs st=.ok (xs.map f) st
 |[],_=>zbi
 |x::xs,h=>by
  rw[zad,h x Aj];erw[R.bind];rw[zfo xs λy hy=>h y (AQ _ hy)];rfl
theorem xs_nil:exs call ρ st .nil=.nx ρ st:=rfl
theorem xs_cons{s:Cs}{ss:Css}:exs call ρ st (.cons s ss)=yas (ex call ρ st s) λρ1 st1=>exs call ρ1 st1 ss:=rfl
theorem x_asg{t:Tg}{e:Ce}:ex call ρ st (.asg t e)=(ev call ρ st e).fl ρ λv st1=>nxO (yI t v ρ) st1:=rfl
theorem x_expr{e:Ce}:ex call ρ st (.expr e)=(ev call ρ st e).fl ρ λ_ st1=>.nx ρ st1:=rfl
theorem x_ret{e:Ce}:ex call ρ st (.ret e)=(ev call ρ st e).fl ρ λv st1=>.rt v st1:=rfl
theorem x_ite{c:Ce}{a b:Css}:ex call ρ st (.ite c a b)=(ev call ρ st c).fl ρ λx st1=>onF (yaK st1 x) λk=>cond k (exs call ρ st1 a) (exs call ρ st1 b):=rfl
theorem x_six{o i e:Ce}:ex call ρ st (.six o i e)=(ev call ρ st e).fl ρ λv st1=>(ev call ρ st1 o).fl ρ λx st2=>(ev call ρ st2 i).fl ρ λy st3=>stO ρ (ybx st3 x y v):=rfl
def yeq(o:Option Nat)(k:Nat->Fl):Fl:=match o with
 |some j=>k j
 |none=>.bad
def zm4{i:Nat}{D:List (AN×Nat)}{n:Ce}{es:Ces}:ex call ρ st (.mkr i D n es)=(ev call ρ st n).fl ρ λx st1=>yeq (mkV D (decide (i<ρ.length)) x) λj=>((evs call (ρ.set i AD) st1 es).bind λvs st2=>call j vs st2).fl (ρ.set i AD) λv st3=>.rt v st3:=rfl
def zfI{c:Nat}{o e:Ce}{f:AN}:ex call ρ st (.sfl c o f e)=(ev call ρ st e).fl ρ λv st1=>(ev call ρ st1 o).fl ρ λx st2=>stO ρ (ya0 c st2 x f v):=rfl
def zga{o i e:Ce}:ex call ρ st (.dput o i e)=(ev call ρ st e).fl ρ λv st1=>(ev call ρ st1 o).fl ρ λx st2=>(ev call ρ st2 i).fl ρ λy st3=>stO ρ (yba st3 x y v):=rfl
def zpg{i:Nat}{o:BOp}{e:Ce}{x:PV}(h:ρ[i]?=AA (AA x)):ex call ρ st (.aug i o e)=(ev call ρ st e).fl ρ λy st1=>nxO ((ybN o x y).map λz=>ρ.set i (AA z)) st1:=by
 rw[ex,h];show (ev call ρ st e).fl ρ _=_;refine congrArg _ (funext λy=>funext λst1=>?_)
 cases ybN o x y<;>rfl
end
theorem ve1(call:Nat->List PV->SO->R PV)(ρ:Env)(st:SO)(v:PV):
  ev call ρ st (Ce.cst v)=R.ok v st:=rfl
theorem ve2(call:Nat->List PV->SO->R PV)(ρ:Env)(st:SO)(i:Nat):
  ev call ρ st (Ce.var i) =
  match ρ[i]? with
  |some (AA v)=>R.ok v st
  |x=>R.bad:=rfl
theorem ve3(call:Nat->List PV->SO->R PV)(ρ:Env)(st:SO)(o:BOp)(a b:Ce):
  ev call ρ st (Ce.bin o a b)=R.bind (ev call ρ st a) λx st1=>R.bind (ev call ρ st1 b) λy st2=>toR (yq o x y) st2:=rfl
theorem ve4(call:Nat->List PV->SO->R PV)(ρ:Env)(st:SO)(a:Ce):
  ev call ρ st (Ce.neg a) =
  R.bind (ev call ρ st a) λx st1=>
   match x with
   |PV.int i=>R.ok (PV.int (-i)) st1
   |x=>R.bad:=rfl
theorem ve5(call:Nat->List PV->SO->R PV)(ρ:Env)(st:SO)(a:Ce):
  ev call ρ st (Ce.not a)=R.bind (ev call ρ st a) λx st1=>onBl x λk=>R.ok (PV.bl !k) st1:=rfl
theorem ve6(call:Nat->List PV->SO->R PV)(ρ:Env)(st:SO)(a b:Ce):
  ev call ρ st (Ce.and a b)=R.bind (ev call ρ st a) λx st1=>onBl x λk=>bif k then ev call ρ st1 b else R.ok (PV.bl AC) st1:=rfl
theorem ve7(call:Nat->List PV->SO->R PV)(ρ:Env)(st:SO)(a b:Ce):
  ev call ρ st (Ce.or a b)=R.bind (ev call ρ st a) λx st1=>onBl x λk=>bif k then R.ok (PV.bl AB) st1 else ev call ρ st1 b:=rfl
theorem ve8(call:Nat->List PV->SO->R PV)(ρ:Env)(st:SO)(o:COp)(a b:Ce):
  ev call ρ st (Ce.cmp o a b)=R.bind (ev call ρ st a) λx st1=>R.bind (ev call ρ st1 b) λy st2=>toR (yu o x y) st2:=rfl
theorem ve9(call:Nat->List PV->SO->R PV)(ρ:Env)(st:SO)(o p:COp)(a b c:Ce):
  ev call ρ st (Ce.chain o p a b c)=R.bind (ev call ρ st a) λx st1=>R.bind (ev call ρ st1 b) λy st2=>onO (blO (yu o x y)) λk=>bif k then R.bind (ev call ρ st2 c) λz st3=>toR (yu p y z) st3 else R.ok (PV.bl AC) st2:=rfl
theorem ve10(call:Nat->List PV->SO->R PV)(ρ:Env)(st:SO)(c a b:Ce):
  ev call ρ st (Ce.ite c a b)=R.bind (ev call ρ st c) λx st1=>onO (yaK st1 x) λk=>bif k then ev call ρ st1 a else ev call ρ st1 b:=rfl
theorem ve11(call:Nat->List PV->SO->R PV)(ρ:Env)(st:SO)(es:Ces):
  ev call ρ st (Ce.tup es)=R.bind (evs call ρ st es) λvs st1=>if C7 vs<=sizeMax then R.ok (PV.tup vs) st1 else R.bad:=rfl
theorem ve12(call:Nat->List PV->SO->R PV)(ρ:Env)(st:SO)(es:Ces):
  ev call ρ st (Ce.lst es)=R.bind (evs call ρ st es) λvs st1=>if C7 vs<=sizeMax then R.ok (PV.lst vs) st1 else R.bad:=rfl
theorem ve13(call:Nat->List PV->SO->R PV)(ρ:Env)(st:SO)(es:Ces):
  ev call ρ st (Ce.newl es)=R.bind (evs call ρ st es) λvs st1=>if C7 vs<=sizeMax then R.ok (PV.loc (C7 st1)) (st1++[Ob.lst vs])else R.bad:=rfl
theorem ve15(call:Nat->List PV->SO->R PV)(ρ:Env)(st:SO)(t:Bool):
  ev call ρ st (Ce.dict0 t)=R.ok (PV.loc (C7 st)) (st++[Ob.dct t []]):=rfl
theorem ve16(call:Nat->List PV->SO->R PV)(ρ:Env)(st:SO)(a i:Ce):
  ev call ρ st (Ce.idx a i)=R.bind (ev call ρ st a) λx st1=>R.bind (ev call ρ st1 i) λy st2=>toR (idxV st2 x y) st2:=rfl
theorem ve17(call:Nat->List PV->SO->R PV)(ρ:Env)(st:SO)(a l h:Ce):
  ev call ρ st (Ce.slc a l h)=R.bind (ev call ρ st a) λx st1=>R.bind (ev call ρ st1 l) λy st2=>onP (yb3 y) λo=>R.bind (ev call ρ st2 h) λz st3=>toR (ycx x o z) st3:=rfl
theorem ve18(call:Nat->List PV->SO->R PV)(ρ:Env)(st:SO)(f:Nat)(es:Ces):
  ev call ρ st (Ce.call f es)=R.bind (evs call ρ st es) λvs st1=>call f vs st1:=rfl
theorem ve19(call:Nat->List PV->SO->R PV)(ρ:Env)(st:SO)(b:Blt)(es:Ces):
  ev call ρ st (Ce.blt b es)=R.bind (evs call ρ st es) λvs st1=>toR (yar b st1 vs) st1:=rfl
theorem ve20(call:Nat->List PV->SO->R PV)(ρ:Env)(st:SO)(m:Mth)(o:Ce)(es:Ces):
  ev call ρ st (Ce.mth m o es)=R.bind (ev call ρ st o) λx st1=>onO (yaL m st1 x) λx_1=>R.bind (evs call ρ st1 es) λvs st2=>yb5 m st2 x vs:=rfl
theorem ve21(call:Nat->List PV->SO->R PV)(ρ:Env)(st:SO)(a:Ce)(ts:List Ty):
  ev call ρ st (Ce.isi a ts)=R.bind (ev call ρ st a) λx st1=>toR (yaM x ts) st1:=rfl
theorem ve24(call:Nat->List PV->SO->R PV)(ρ:Env)(st:SO):
  ev call ρ st Ce.nope=R.bad:=rfl
theorem ve25(call:Nat->List PV->SO->R PV)(ρ:Env)(st:SO)(a:Ce):
  ev call ρ st (Ce.frz a)=R.bind (ev call ρ st a) λx st1=>ydl x st1:=rfl
theorem ve28(call:Nat->List PV->SO->R PV)(ρ:Env)(st:SO)(D:List (AN×PV))(a:Ce):
  ev call ρ st (Ce.dix D a)=R.bind (ev call ρ st a) λx st1=>toR (ycn D x) st1:=rfl
theorem ve29(call:Nat->List PV->SO->R PV)(ρ:Env)(st:SO)(a:Ce)(D:List (AN×PV)):
  ev call ρ st (Ce.din a D)=R.bind (ev call ρ st a) λx st1=>toR (yce D x) st1:=rfl
theorem ve32(call:Nat->List PV->SO->R PV)(ρ:Env)(st:SO)(c:Nat)(a:Ce)(f:AN):
  ev call ρ st (Ce.fld c a f)=R.bind (ev call ρ st a) λx st1=>toR (yaZ c st1 x f) st1:=rfl
theorem ve33(call:Nat->List PV->SO->R PV)(ρ:Env)(st:SO)(c i:Nat)(es:Ces):
  ev call ρ st (Ce.new c i es)=R.bind (evs call ρ st es) λvs st1=>R.bind (ybB (call i (PV.loc (C7 st1)::vs) (st1++[Ob.ins c []]))) λv st2=>newV (C7 st1) v st2:=rfl
theorem ve37(call:Nat->List PV->SO->R PV)(ρ:Env)(st:SO)(c i:Nat)(m:AN)(o:Ce)
 (es:Ces):
  ev call ρ st (Ce.mcl c i m o es)=R.bind (ev call ρ st o) λx st1=>onO (ybX c m st1 x) λx_1=>R.bind (evs call ρ st1 es) λvs st2=>call i (x::vs) st2:=rfl
def yeY(o:Option Nat)(k:Nat->R PV):R PV:=match o with
 |some j=>k j
 |none=>R.bad
theorem ve44(call:Nat->List PV->SO->R PV)(ρ:Env)(st:SO)(i:Nat)(L:List (AN×Nat))(es:Ces):
  ev call ρ st (Ce.cav i L es)=yeY (ycu L ρ[i]?) λj=>R.bind (evs call ρ st es) λvs st1=>call j vs st1:=rfl
end IC
namespace WK
open IC PySem
mutual
noncomputable def pvq:PV->PV->Bool
 |.non,.non=>AB
 |.bl a,.bl b=>a==b
 |.int i,.int j=>decide (i=j)
 |.str x,.str y=>decide (x=y)
 |.tp k xs,.tp l ys=>(k==l)&&ycE xs ys
 |.lst xs,.lst ys=>ycE xs ys
 |_,_=>AC
noncomputable def ycE:List PV->List PV->Bool
 |[],[]=>AB
 |x::xs,y::ys=>pvq x y&&ycE xs ys
 |_,_=>AC
end
mutual
theorem zkU:∀(a b:PV),pvq a b=AB->a=b
 |.non,b,h=>by cases b<;>simp[pvq]at h ⊢
 |.bl a,b,h=>by cases b<;>simp[pvq]at h ⊢;exact h
 |.int a,b,h=>by cases b<;>simp[pvq]at h ⊢;exact h
 |.str a,b,h=>by cases b<;>simp[pvq]at h ⊢;exact h
 |.tp k xs,b,h=>by
  cases b<;>simp[pvq]at h ⊢
  exact⟨h.1,zfQ _ _ h.2⟩
 |.lst xs,b,h=>by
  cases b<;>simp[pvq]at h ⊢
  exact zfQ _ _ h
 |.loc _,b,h=>by cases b<;>simp[pvq]at h
 |.exn _,b,h=>by cases b<;>simp[pvq]at h
 |.fnc _,b,h=>by cases b<;>simp[pvq]at h
 |.scr _,b,h=>by cases b<;>simp[pvq]at h
theorem zfQ:∀(a b:List PV),ycE a b=AB->a=b
 |[],b,h=>by cases b<;>simp[ycE]at h ⊢
 |x::xs,b,h=>by
  cases b with
  |nil=>simp[ycE]at h
  |cons y ys=>
   simp[ycE]at h;rw[zkU x y h.1,zfQ xs ys h.2]
end
def isOk(r:R PV)(v:PV):Bool:=match r with
 |.ok w []=>pvq w v
 |_=>AC
def zdH{r:R PV}{v:PV}(h:isOk r v=AB):r=.ok v []:=by
 match r with
 |.ok w []=>rw[zkU w v h]
 |.ok w (_::_)=>simp[isOk]at h
 |.exc _ _=>simp[isOk]at h
 |.bad=>simp[isOk]at h
def chS(c:Nat):Str:=⟨#[c]⟩
def yN(c:Nat)(i:Int):PV:=.tup [.str (chS c),.int i]
def zle{c d:Nat}(h:chS c=chS d):c=d:=by
 have:=congrArg (λx=>x.cps) h;simpa [chS] using this
def zbq(c d:Nat)(i j:Int):peq (yN c i) (yN d j)=decide (c=d/\i=j):=by
 have h:(chS c==chS d)=decide (c=d):=by
  rw[Dh];simp;exact⟨zle,λe=>by rw[e]⟩
 simp[yN,peq,ybc,h,Bool.decide_and]
 try rfl
abbrev Mem:=Nat->Int->Int
def upd(M:Mem)(c:Nat)(i v:Int):Mem:=λd j=>if d=c/\j=i then v else M d j
def ycA(kvs:List (PV×PV)):Prop:=∀p∈kvs,∃c i,p.1=yN c i
def Rel(kvs:List (PV×PV))(M:Mem):Prop:=∀c i,(look (yN c i) kvs).getD (.int 0)=.int (M c i)
def zfY(c:Nat)(i:Int)(v:PV)(d:Nat)(j:Int):∀kvs,ycA kvs->look (yN d j) (kvs.map λp=>if peq p.1 (yN c i)=AB then(p.1,v)else p)=if d=c/\j=i then(if (kvs.any λp=>peq p.1 (yN c i))=AB then AA v else AD)else look (yN d j) kvs
 |[],_=>by simp[look]
 |p::kvs,h=>by
  let⟨e,g,hp⟩:=h p Aj;let⟨p1,p2⟩:=p;simp only at hp;subst hp;have ih:=zfY c i v d j kvs λq hq=>h q (AQ _ hq);rw[AL,BL];erw[zbq]
  by_cases h1:e=c/\g=i
  .let⟨rfl,rfl⟩:=h1;erw[and_self,decide_true,if_true,look,zbq,Eh]
   by_cases h2:e=d/\g=j
   .let⟨rfl,rfl⟩:=h2;simp
   .have h3:¬(d=e/\j=g):=λz=>h2 ⟨z.1.symm,z.2.symm⟩;erw[h2,h3,decide_false,if_false,Be];rw[ih,if_neg h3]
  .simp only[h1,decide_false,FW,Be,if_false];rw[look,look];erw[zbq]
   by_cases h2:e=d/\g=j
   .let⟨rfl,rfl⟩:=h2;simp[h1]
   .simp only[h2,decide_false,Be,if_false];exact ih
def zfZ(c:Nat)(i:Int)(v:PV)(d:Nat)(j:Int):∀kvs,ycA kvs->(kvs.any λp=>peq p.1 (yN c i))=AC->look (yN d j) (kvs++[(yN c i,v)])=if d=c/\j=i then AA v else look (yN d j) kvs
 |[],_,_=>by
  erw[Av,look,zbq]
  by_cases h2:c=d/\i=j
  .let⟨rfl,rfl⟩:=h2;simp
  .have h3:¬(d=c/\j=i):=λz=>h2 ⟨z.1.symm,z.2.symm⟩;simp[h2,h3]
 |p::kvs,h,hn=>by
  let⟨e,g,hp⟩:=h p Aj;let⟨p1,p2⟩:=p;simp only at hp;subst hp;rw[BL,Bool.or_eq_false_iff]at hn;have ih:=zfZ c i v d j kvs (λq hq=>h q (AQ _ hq)) hn.2;have h1:¬(e=c/\g=i):=by simpa [zbq] using hn.1
  rw[Aa,look,look];erw[zbq]
  by_cases h2:e=d/\g=j
  .let⟨rfl,rfl⟩:=h2;simp[h1]
  .simp only[h2,decide_false,Be,if_false];exact ih
def zi6(c:Nat)(i:Int)(v:PV)(d:Nat)(j:Int)(kvs:List (PV×PV))(h:ycA kvs):look (yN d j) (put (yN c i) v kvs)=if d=c/\j=i then AA v else look (yN d j) kvs:=by
 unfold put;split
 .rename_i z;rw[zfY _ _ _ _ _ _ h,z,if_pos rfl]
 .rename_i z;exact zfZ _ _ _ _ _ _ h (by simpa using z)
def zj4{c:Nat}{i:Int}{v:PV}{kvs:List (PV×PV)}(h:ycA kvs):ycA (put (yN c i) v kvs):=by
 unfold put;split
 .intro p hp;let⟨q,hq,rfl⟩:=Fq.1 hp;let⟨e,g,he⟩:=h q hq;refine⟨e,g,?_⟩;split
  .exact he
  .exact he
 .intro p hp;rcases B1.1 hp with hp|hp
  .exact h p hp
  .simp at hp;exact⟨c,i,by rw[hp]⟩
def zmB{c:Nat}{i v:Int}{kvs:List (PV×PV)}{M:Mem}(h:ycA kvs)(r:Rel kvs M):Rel (put (yN c i) (.int v) kvs) (upd M c i v):=by
 intro d j;rw[zi6 _ _ _ _ _ _ h];unfold upd;split
 .rfl
 .exact r d j
def zlf{k v:PV}{kvs:List (PV×PV)}:(put k v kvs).length<=kvs.length+1:=by
 unfold put;split
 .simp
 .simp
def zf1(c:Nat)(i:Int):isKey AB (yN c i)=true:=rfl
structure Dc(st:SO)(n:Nat)(M:Mem)(L:Nat):Prop where
 ex:∃kvs,st[n]?=AA (.dct AB kvs)/\ycA kvs/\Rel kvs M/\kvs.length<=L
def zj6{st:SO}{n L:Nat}{M:Mem}(h:Dc st n M L)(c:Nat)(i:Int):ydI st (.loc n) (yN c i) (.int 0)=.ok (.int (M c i)) st:=by
 let⟨kvs,h1,h2,h3,h4⟩:=h;erw[ydI,ya7,h1,zf1,if_true,h3 c i]
def zjK{st:SO}{n L:Nat}{M:Mem}(h:Dc st n M L)(hL:L<999999)(c:Nat)(i v:Int):∃kvs,yba st (.loc n) (yN c i) (.int v)=AA (st.set n (.dct AB kvs))/\Dc (st.set n (.dct AB kvs)) n (upd M c i v) (L+1):=by
 let⟨kvs,h1,h2,h3,h4⟩:=h;have hn:n<st.length:=by
  rcases CJ n st.length with z|z
  .exact z
  .rw[BU z]at h1;cases h1
 refine⟨put (yN c i) (.int v) kvs,?_,⟨_,A4 hn,zj4 h2,zmB h2 h3,BV zlf ∅⟩⟩;have h5:kvs.length<1000000:=by lia
 erw[yba,h1,zf1,h5,and_self,if_true]
abbrev Cel:=Nat×Int
def yx(x:Cel):PV:=yN x.1 x.2
inductive Rw where
 |mark (d:Int)|ask (x:Cel)|set (t:Cel) (d:Int)|move (t x:Cel)|bare (t x:Cel)|twice (t x:Cel)|half (t x:Cel)
 |sum (t x y:Cel)|less (t x y:Cel)|both (t x y:Cel)|any (t x y:Cel)|odd (t x y:Cel)|times (l h x y:Cel)
def yM:Rw->PV
 |.mark d=>.tup [.str "mark",.int d]
 |.ask x=>.tup [.str "ask",yx x]
 |.set t d=>.tup [.str "set",yx t,.int d]
 |.move t x=>.tup [.str "move",yx t,yx x]
 |.bare t x=>.tup [.str "bare",yx t,yx x]
 |.twice t x=>.tup [.str "twice",yx t,yx x]
 |.half t x=>.tup [.str "half",yx t,yx x]
 |.sum t x y=>.tup [.str "sum",yx t,yx x,yx y]
 |.less t x y=>.tup [.str "less",yx t,yx x,yx y]
 |.both t x y=>.tup [.str "both",yx t,yx x,yx y]
 |.any t x y=>.tup [.str "any",yx t,yx x,yx y]
 |.odd t x y=>.tup [.str "odd",yx t,yx x,yx y]
 |.times l h x y=>.tup [.str "times",yx l,yx h,yx x,yx y]
def rd(M:Mem)(x:Cel):Int:=M x.1 x.2
def wr(M:Mem)(x:Cel)(v:Int):Mem:=upd M x.1 x.2 v
def stepM(W:Int)(M:Mem)(k:Int):Rw->Mem×Int
 |.mark d=>(M,d)
 |.ask x=>(M,bi (!(rd M x==0)))
 |.set t d=>(wr M t d,k)
 |.move t x=>(wr M t (rd M x),k)
 |.bare t x=>(wr M t (W-1-rd M x),k)
 |.twice t x=>(wr M t ((2*rd M x+k)%W),(2*rd M x+k)/W)
 |.half t x=>(wr M t (rd M x/2+k*(W/2)),rd M x%2)
 |.sum t x y=>(wr M t ((rd M x+rd M y+k)%W),(rd M x+rd M y+k)/W)
 |.less t x y=>(wr M t ((rd M x-rd M y-k)%W),bi (decide (rd M x-rd M y-k<0)))
 |.both t x y=>(wr M t (Ax (rd M x) (rd M y)),k)
 |.any t x y=>(wr M t (B2 (rd M x) (rd M y)),k)
 |.odd t x y=>(wr M t (BY (rd M x) (rd M y)),k)
 |.times l h x y=>(wr (wr M l (rd M x*rd M y%W)) h (rd M x*rd M y/W),k)
def yK(W:Int):List Rw->Mem->Int->Mem×Int
 |[],M,k=>(M,k)
 |r::rs,M,k=>yK W rs (stepM W M k r).1 (stepM W M k r).2
def zH(W:Int):∀(a b:List Rw) (M:Mem) (k:Int),yK W (a++b) M k=yK W b (yK W a M k).1 (yK W a M k).2
 |[],b,M,k=>rfl
 |r::a,b,M,k=>by rw[Aa,yK,zH W a b,yK]
def zjz{st:SO}{n:Nat}{o:Ob}(h:st[n]?=AA o):st=st.set n o:=by
 refine EQ λi=>?_;rw[Ch];split
 .rename_i e;subst e;split
  .exact h
  .rename_i z;rw[BU ∅]at h
   cases h
 .rfl
def zds(i:Int):shp (.int i)=true:=rfl
section
variable {st:SO}{k:Bool}{a b c d e:PV}{r:List PV}{i j:Int}
theorem ix0:idxV st (.tp k (a::r)) (.int 0)=AA a:=by simp[idxV,yaW,at?,ixI]
theorem ix1:idxV st (.tp k (a::b::r)) (.int 1)=AA b:=by
 have:(1:Int)<(r.length:Int)+1+1:=by lia
 simp[idxV,yaW,at?,ixI,this]
theorem ix2:idxV st (.tp k (a::b::c::r)) (.int 2)=AA c:=by
 have:(2:Int)<(r.length:Int)+1+1+1:=by lia
 simp[idxV,yaW,at?,ixI,this]
theorem ix3:idxV st (.tp k (a::b::c::d::r)) (.int 3)=AA d:=by
 have:(3:Int)<(r.length:Int)+1+1+1+1:=by lia
 simp[idxV,yaW,at?,ixI,this]
theorem b_add:yq .add (.int i) (.int j)=AA (.int (i+j)):=rfl
theorem b_sub:yq .sub (.int i) (.int j)=AA (.int (i-j)):=rfl
def zjh(h:i.natAbs<18446744073709551616 \/ j.natAbs<18446744073709551616):yq .mul (.int i) (.int j)=AA (.int (i*j)):=by
 have:yaB i j=true:=by simpa [yaB] using h
 simp[yq,binI,this]
def zaO(h:i.natAbs<18446744073709551616):yq .mul (.int i) (.int j)=AA (.int (i*j)):=zjh (.inl h)
def zdl(h:j.natAbs<18446744073709551616):yq .mul (.int i) (.int j)=AA (.int (i*j)):=zjh (.inr h)
theorem b_mul2:yq .mul (.int 2) (.int j)=AA (.int (2*j)):=zjh (.inl ⋯)
def zki(h:0<j)(h2:j<18446744073709551616*18446744073709551616):yq .fdiv (.int i) (.int j)=AA (.int (i/j)):=by
 have h3:j<10000000000000000000000000000000000000000000000000000000000000000000000:=by lia
 simp[yq,binI,h,h3]
theorem b_div2:yq .fdiv (.int i) (.int 2)=AA (.int (i/2)):=rfl
def ziu(h:0<j):yq .mod (.int i) (.int j)=AA (.int (i%j)):=by simp[yq,binI,h]
def zpz:yq .band (.int i) (.int j)=AA (.int (Ax i j)):=rfl
def zpM:yq .bor (.int i) (.int j)=AA (.int (B2 i j)):=rfl
def zpd:yq .bxor (.int i) (.int j)=AA (.int (BY i j)):=rfl
theorem toR_some{v:PV}:toR (AA v) st=.ok v st:=rfl
theorem c_ne:yu .ne (.int i) (.int j)=AA (.bl (!(i==j))):=by simp[yu,zds,peq]
theorem c_eq:yu .eq (.int i) (.int j)=AA (.bl (i==j)):=by simp[yu,zds,peq]
theorem c_lt:yu .lt (.int i) (.int j)=AA (.bl (decide (i<j))):=rfl
theorem c_le:yu .le (.int i) (.int j)=AA (.bl (decide (i<=j))):=rfl
theorem c_gt:yu .gt (.int i) (.int j)=AA (.bl (decide (j<i))):=rfl
theorem c_ge:yu .ge (.int i) (.int j)=AA (.bl (decide (j<=i))):=rfl
theorem t_bl{b:Bool}:yaK st (.bl b)=AA b:=rfl
theorem on_t{f:Bool->Fl}{b:Bool}:onF (AA b) f=f b:=rfl
theorem ono{α:Type}{f:Bool->R α}{b:Bool}:onO (AA b) f=f b:=rfl
def zal{ρ:IC.Env}:stO ρ (AA st)=.nx ρ st:=rfl
theorem nxO_some{ρ:IC.Env}:nxO (AA ρ) st=.nx ρ st:=rfl
theorem fl_ok{α:Type}{a:α}{ρ:IC.Env}{k:α->SO->Fl}:(R.ok a st).fl ρ k=k a st:=rfl
theorem bd_ok{α β:Type}{a:α}{k:α->SO->R β}:(R.ok a st).bind k=k a st:=rfl
theorem th_nx{ρ:IC.Env}{k:IC.Env->SO->Fl}:yas (.nx ρ st) k=k ρ st:=rfl
theorem th_rt{v:PV}{k:IC.Env->SO->Fl}:yas (.rt v st) k=.rt v st:=rfl
theorem fl_exc{α:Type}{c:Nat}{ρ:IC.Env}{k:α->SO->Fl}:(R.exc c st:R α).fl ρ k=.exc c ρ st:=rfl
theorem bd_exc{α β:Type}{c:Nat}{k:α->SO->R β}:(R.exc c st:R α).bind k=.exc c st:=rfl
theorem th_exc{c:Nat}{ρ:IC.Env}{k:IC.Env->SO->Fl}:yas (.exc c ρ st) k=.exc c ρ st:=rfl
theorem noLocs_ints:∀(l:List Int),nLs (l.map PV.int)=AB
 |[]=>rfl
 |_::l=>by simp[nLs,nL,noLocs_ints l]
def zld{x:PV}:yar .int st [x]=yej x:=rfl
def zod{b:Bool}:yej (.bl b)=AA (.int (bi b)):=rfl
theorem bT_n{i:Nat}{v:PV}{ρ:IC.Env}:yI (.n i) v ρ=AA (ρ.set i (AA v)):=rfl
end
def zoA:∀(n x y:Nat),x<=n->(x ^^^ y)+(x &&& y)=x ||| y
 |n,x,y,h=>by
  by_cases hx:x=0
  .subst hx;simp
  .have ih:=zoA (n-1) (x/2) (y/2) ∅;rw[<-Nat.xor_div_two,<-Nat.and_div_two,<-Nat.or_div_two]at ih;have m1:(x ^^^ y)%2=((x%2) ^^^ (y%2)):=by
    have:=Nat.xor_mod_two_pow (a:=x) (b:=y) (n:=1);simpa using this
   have m2:(x &&& y)%2=((x%2) &&& (y%2)):=by
    have:=Nat.and_mod_two_pow (a:=x) (b:=y) (n:=1);simpa using this
   have m3:(x ||| y)%2=((x%2) ||| (y%2)):=by
    have:=Nat.or_mod_two_pow (a:=x) (b:=y) (n:=1);simpa using this
   rcases ED x with a|a<;>rcases ED y with b|b<;>rw[a,b]at m1 m2 m3<;>erw[Nat.reduceXor,Nat.reduceAnd,Nat.reduceOr]at m1 m2 m3<;>lia
def zkL(x y:Nat):Ax (x:Int) (y:Int)=((x &&& y:Nat):Int):=by
 simp[Ax]
def zdU(x y:Nat):B2 (x:Int) (y:Int)=((x ||| y:Nat):Int):=by
 have h1:¬(0:Int)<=-(x:Int)-1:=by lia
 have h2:¬(0:Int)<=-(y:Int)-1:=by lia
 have h3:(-(-(x:Int)-1)-1).toNat=x:=by lia
 have h4:(-(-(y:Int)-1)-1).toNat=y:=by lia
 erw[B2,Ax,FD,h1,h2,decide_false,h3,h4];lia
def zkS(x y:Nat):BY (x:Int) (y:Int)=((x ^^^ y:Nat):Int):=by
 have:=zoA x x y (AT x);rw[BY,zdU,zkL];lia
theorem pw(w:Nat):((2^w:Nat):Int)=2^w:=by simp
def znq{w:Nat}{a b:Int}(a0:0<=a)(b0:0<=b)(b1:b<2^w):0<=Ax a b/\Ax a b<2^w:=by
 obtain⟨x,rfl⟩:∃n:Nat,a=n:=⟨a.toNat,by lia⟩;obtain⟨y,rfl⟩:∃n:Nat,b=n:=⟨b.toNat,by lia⟩;rw[zkL];rw[<-pw]at b1 ⊢;exact⟨by lia,by exact_mod_cast Nat.and_lt_two_pow x (by lia:y<2^w)⟩
def zn2{w:Nat}{a b:Int}(a0:0<=a)(a1:a<2^w)(b0:0<=b)(b1:b<2^w):0<=BY a b/\BY a b<2^w:=by
 obtain⟨x,rfl⟩:∃n:Nat,a=n:=⟨a.toNat,by lia⟩;obtain⟨y,rfl⟩:∃n:Nat,b=n:=⟨b.toNat,by lia⟩;rw[zkS];rw[<-pw]at a1 b1 ⊢;exact⟨by lia,by exact_mod_cast Nat.xor_lt_two_pow (by lia:x<2^w) (by lia:y<2^w)⟩
def znO{w:Nat}{a b:Int}(a0:0<=a)(a1:a<2^w)(b0:0<=b)(b1:b<2^w):0<=B2 a b/\B2 a b<2^w:=by
 obtain⟨x,rfl⟩:∃n:Nat,a=n:=⟨a.toNat,by lia⟩;obtain⟨y,rfl⟩:∃n:Nat,b=n:=⟨b.toNat,by lia⟩;rw[zdU];rw[<-pw]at a1 b1 ⊢;exact⟨by lia,by exact_mod_cast Nat.or_lt_two_pow (by lia:x<2^w) (by lia:y<2^w)⟩
def ziU{a b:Int}(a0:0<=a)(b0:0<=b):B2 a b=0 ↔ a=0/\b=0:=by
 obtain⟨x,rfl⟩:∃n:Nat,a=n:=⟨a.toNat,by lia⟩;obtain⟨y,rfl⟩:∃n:Nat,b=n:=⟨b.toNat,by lia⟩;rw[zdU];have:=Nat.or_eq_zero_iff (n:=x) (m:=y);lia
def tb(w:Nat)(a:Int):Int:=(2*a)/2^w
def ziJ{w:Nat}(hw:0<w){a:Int}(a0:0<=a)(a1:a<2^w):tb w a=if 2^w<=2*a then 1 else 0:=by
 have h1:(0:Int)<2^w:=Ab ∅;unfold tb;split
 .rename_i h;exact Int.le_antisymm (Int.le_of_lt_add_one (BM h1 ∅)) (DU h1 ∅)
 .exact BR ∅ ∅
def zcv(ys:List PV)(h:ys.length<=1000000)(st:SO):ych (.ok ys st)=.ok (.lst ys) st:=by simp[ych,h]
def zbs(n:Nat)(h:n<1000):ybU (.int (n:Int))=AA (yo n 0 1):=by
 simp[ybU];lia
def zcB{z:Int}(h:0<=z):∃n:Nat,z=n:=⟨z.toNat,by lia⟩
def ybq(st:SO)(f:Fl):R PV:=
 match f with
 |.rt v _=>if nL v then .ok v st else .bad
 |.nx _ _=>.ok .non st
 |.exc c _ _=>.exc c st
 |_=>.bad
def zc{T:Nat->Option IC.Fn}{k f:Nat}{fn:IC.Fn}{args:List PV}{st:SO}(hT:T f=AA fn)(hp:fn.pure=AB)(hl:args.length=fn.np)(hn:nLs args=AB):
  yc T (k+1) f args st=ybq st (exs (yc T k) (args.map AA++An (fn.ns-fn.np) AD) [] fn.body):=by
 rw[yc,hT];dsimp only;rw[if_pos hl,if_pos hp,if_pos hn];rfl
def outI(f:Fl):R PV:=
 match f with
 |.rt v st1=>.ok v st1
 |.nx _ st1=>.ok .non st1
 |.exc c _ st1=>.exc c st1
 |_=>.bad
def zm{T:Nat->Option IC.Fn}{k f:Nat}{fn:IC.Fn}{args:List PV}{st:SO}(hT:T f=AA fn)(hp:fn.pure=AC)(hl:args.length=fn.np):
  yc T (k+1) f args st=outI (exs (yc T k) (args.map AA++An (fn.ns-fn.np) AD) st fn.body):=by
 rw[yc,hT];dsimp only;rw[if_pos hl,hp,if_neg (by simp)];rfl
def zbC{st:SO}{v:PV}:outI (.rt v st)=.ok v st:=rfl
def zow{st s:SO}{b:Bool}:ybq st (.rt (.bl b) s)=.ok (.bl b) st:=rfl
def zmw{st s:SO}{b:Int}:ybq st (.rt (.int b) s)=.ok (.int b) st:=rfl
set_option backward.eqns.nonrecursive true
local macro_rules | `(tactic| simp! [$xs,*])=>do
 let l<-("IC.xs_cons IC.xs_nil IC.x_asg IC.x_ite IC.x_ret IC.x_expr IC.x_for IC.x_six IC.evs IC.evi IC.ve1 IC.ve2 IC.ve3 IC.ve4 IC.ve5 IC.ve6 IC.ve7 IC.ve8 IC.ve9 IC.ve10 IC.ve11 IC.ve12 IC.ve13 IC.ve15 IC.ve16 IC.ve17 IC.ve18 IC.ve19 IC.ve20 IC.ve21 IC.ve24 IC.ve25 IC.ve28 IC.v_comp List.getElem?_cons_zero List.getElem?_cons_succ WK.bd_ok WK.fl_ok WK.bd_exc WK.fl_exc WK.toR_some IC.toL WK.bT_n WK.nxO_some WK.th_nx WK.th_rt WK.th_exc List.set_cons_zero List.set_cons_succ WK.on_t WK.t_bl WK.ono IC.onBl cond_true cond_false List.length_cons List.length_nil Nat.zero_add Nat.reduceAdd Nat.reduceSub Nat.reduceLeDiff if_true IC.nL IC.nLs WK.noLocs_ints Bool.and_self Bool.not_true Bool.not_false List.map_cons List.map_nil List.replicate List.cons_append List.nil_append List.append_nil Option.bind_none Option.bind_some Option.join_some WK.b_add WK.b_sub WK.b_mul2 WK.b_div2 WK.c_lt WK.c_le WK.c_gt WK.c_ge WK.c_eq WK.c_ne IC.PV.tup IC.sizeMax".splitOn " ").toArray.mapM λs=>`(Lean.Parser.Tactic.simpLemma| $(Lean.mkIdent s.toName):term)
 `(tactic| simp only[$l,*,$xs,*])
def yau:PV:=.tup [.int 2147483647,.int 2147483629,.int 2147483587,.int 2147483579,.int 2147483563]
def ydg:Css:=match yax.body with
 |.cons _ (.cons _ (.cons (.for _ _ b) _))=>b
 |_=>.nil
def zdn{c:Cl}{s num g p:Int}{i:Nat}{u5 u6 u7:Option PV}(hg:∀st,idxV st (.tup [.int 11,.int 101,.int 1009,.int 10007,.int 100003]) (.int i)=AA (.int g))(hi:i<5)(hp:0<p)(hp2:p<18446744073709551616):
  ∃num' v5 v6 v7,exs c [AA (.int s),AA yau,AA (.int num),AA (.int i),AA (.int p),u5,u6,u7] [] ydg=.nx [AA (.int s),AA yau,AA (.int num'),AA (.int i),AA (.int p),v5,v6,v7] []:=by
 have h1:∀z:Int,yq .mul (.int z) (.int (48271+2*(i:Int)))=AA (.int (z*(48271+2*(i:Int)))):=λz=>zdl ∅;have h2:∀z y:Int,yq .mul (.int z) (.int (y%p))=AA (.int (z*(y%p))):=λz y=>zdl (by
  have a:=Aq y (show p≠0 by lia);have b:=A9 y hp;lia)
 have h3:∀z:Int,yq .mul (.int z) (.int p)=AA (.int (z*p)):=λz=>zdl ∅;simp! [ydg,yax,hg,h1,h2,h3,ziu hp];exact⟨_,_,_,_,rfl⟩
def zjv{c:Cl}{s num:Int}{u5 u6 u7:Option PV}(i:Nat)(p:Int)(h:(i,p)∈[(0,(2147483647:Int)),(1,2147483629),(2,2147483587),(3,2147483579),(4,2147483563)]):
  ∃num' v5 v6 v7,exs c [AA (.int s),AA yau,AA (.int num),AA (.int i),AA (.int p),u5,u6,u7] [] ydg=.nx [AA (.int s),AA yau,AA (.int num'),AA (.int i),AA (.int p),v5,v6,v7] []:=by
 erw[AR,Prod.mk.injEq,A7,or_false]at h;rcases h with⟨rfl,rfl⟩|⟨rfl,rfl⟩|⟨rfl,rfl⟩|⟨rfl,rfl⟩|⟨rfl,rfl⟩
 .exact zdn (λ_=>rfl) ⋯ ⋯ ⋯
 .exact zdn (λ_=>rfl) ⋯ ⋯ ⋯
 .exact zdn (λ_=>rfl) ⋯ ⋯ ⋯
 .exact zdn (λ_=>rfl) ⋯ ⋯ ⋯
 .exact zdn (λ_=>rfl) ⋯ ⋯ ⋯
def ydP:List PV:=[.tup [.int 0,.int 2147483647],.tup [.int 1,.int 2147483629],.tup [.int 2,.int 2147483587],.tup [.int 3,.int 2147483579],.tup [.int 4,.int 2147483563]]
theorem mixed(k:Nat)(s:Int)(st:SO):∃num,yc T (k+1) yiH [.int s] st=.ok (.int num) st:=by
 let⟨ρ',st',h,num,a,b,c,d,e,e1,e2⟩:=zer (call:=yc T k) (t:=.t [3,4]) (b:=ydg) (λ_ ρ st=>∃num a b c d e,ρ=[AA (.int s),AA yau,AA (.int num),a,b,c,d,e]/\st=[]) ydP 0 [AA (.int s),AA yau,AA (.int 0),AD,AD,AD,AD,AD] [] ⟨_,_,_,_,_,_,rfl,rfl⟩ (by
  rintro j x ρ st hx ⟨num,a,b,c,d,e,rfl,rfl⟩
  have hx:=A1 hx;have hx:∃i p,x=.tup [.int ((i:Nat):Int),.int p]/\(i,p)∈[(0,(2147483647:Int)),(1,2147483629),(2,2147483587),(3,2147483579),(4,2147483563)]:=by
   erw[ydP,AR,A7,or_false]at hx;rcases hx with rfl|rfl|rfl|rfl|rfl
   .exact⟨0,_,rfl,by simp⟩
   .exact⟨1,_,rfl,by simp⟩
   .exact⟨2,_,rfl,by simp⟩
   .exact⟨3,_,rfl,by simp⟩
   .exact⟨4,_,rfl,by simp⟩
  let⟨i,p,rfl,hm⟩:=hx;let⟨num',v5,v6,v7,hh⟩:=zjv (c:=yc T k) (s:=s) (num:=num) (u5:=c) (u6:=d) (u7:=e) i p hm;exact⟨_,_,_,rfl,hh,_,_,_,_,_,_,rfl,rfl⟩)
 subst e1 e2;refine⟨num,?_⟩;rw[yc];have hb:yax.body=.cons (.asg (.n 1) (.tup (.cons (.cst (.int 2147483647)) (.cons (.cst (.int 2147483629)) (.cons (.cst (.int 2147483587)) (.cons (.cst (.int 2147483579)) (.cons (.cst (.int 2147483563)) .nil))))))) (.cons (.asg (.n 2) (.cst (.int 0))) (.cons (.for (.t [3,4]) (.enum (.var 1)) ydg) (.cons (.ret (.var 2)) .nil))):=rfl;have hT:T yiH=AA ⟨1,8,AB,yax.body⟩:=rfl;have hp:PV.tup [.int 2147483647,.int 2147483629,.int 2147483587,.int 2147483579,.int 2147483563]=yau:=rfl;rw[hT,hb];have h5:ev (yc T k) [AA (.int s),AD,AD,AD,AD,AD,AD,AD] [] (.tup (.cons (.cst (.int 2147483647)) (.cons (.cst (.int 2147483629)) (.cons (.cst (.int 2147483587)) (.cons (.cst (.int 2147483579)) (.cons (.cst (.int 2147483563)) .nil))))))=.ok yau []:=by
  simp[IC.ve1,IC.ve11,evs,R.bind,sizeMax,yau]
 have he:evi (yc T k) [AA (.int s),AA yau,AA (.int 0),AD,AD,AD,AD,AD] [] (.enum (.var 1))=.ok ydP []:=by
  simp[evi,IC.ve2,R.bind,yau,yV,ydP]
 erw[AX,Bd,if_true,nLs,nL,Cf,AL,Ai,C0,An,Aa,Av,xs_cons,xs_nil,x_asg,x_for,x_ret,h5,R.fl,yI,nxO,yas,As,Au,IC.ve1,he,h,IC.ve2,Ae,A5]
theorem rdS{st:SO}{n:Nat}{o x:Ob}(h:st[n]?=AA o):(st.set n x)[n]?=AA x:=by
 have:n<st.length:=by
  rcases CJ n st.length with h1|h1
  .exact h1
  .rw[BU h1]at h;cases h
 rw[A4 this]
def znn(ns:List Int)(a:Int)(h:ns≠[]):∃v,yaW (ns.map PV.int) (.int (a%(ns.length:Int)))=AA (.int v):=by
 have h0:0<ns.length:=FQ.2 h;have h1:=Aq a (show (ns.length:Int)≠0 by lia);have h2:=A9 a (show (0:Int)<ns.length by lia);have h3:(a%(ns.length:Int)).toNat<ns.length:=by lia
 refine⟨ns[(a%(ns.length:Int)).toNat],?_⟩;simp[yaW,at?,ixI,h1,h2,h3]
def flT:Css:=match yah.body with
 |.cons _ (.cons _ (.cons _ t))=>t
 |x=>x
abbrev flS(l:PV)(a p:Int)(f:Bool):Ob:=.lst [l,.int a,.int p,.bl f]
def zpB{st:SO}{n:Nat}{l:PV}{a p v:Int}{f:Bool}(h:st[n]?=AA (flS l a p f)):ybx st (.loc n) (.int 1) (.int v)=AA (st.set n (flS l v p f)):=by erw[ybx,h];rfl
def zpa{st:SO}{n:Nat}{l:PV}{a p v:Int}{f:Bool}(h:st[n]?=AA (flS l a p f)):ybx st (.loc n) (.int 2) (.int v)=AA (st.set n (flS l a v f)):=by erw[ybx,h];rfl
def zpn{st:SO}{n:Nat}{l:PV}{a p:Int}{f g:Bool}(h:st[n]?=AA (flS l a p f)):ybx st (.loc n) (.int 3) (.bl g)=AA (st.set n (flS l a p g)):=by erw[ybx,h];rfl
def zqb{st:SO}{n:Nat}{l:PV}{a p:Int}{f:Bool}(h:st[n]?=AA (flS l a p f)):idxV st (.loc n) (.int 0)=AA l:=by erw[idxV,h];rfl
def zqc{st:SO}{n:Nat}{l:PV}{a p:Int}{f:Bool}(h:st[n]?=AA (flS l a p f)):idxV st (.loc n) (.int 1)=AA (.int a):=by erw[idxV,h];rfl
def zqd{st:SO}{n:Nat}{l:PV}{a p:Int}{f:Bool}(h:st[n]?=AA (flS l a p f)):idxV st (.loc n) (.int 3)=AA (.bl f):=by erw[idxV,h];rfl
theorem p18:yq .pow (.int 10) (.int 18)=AA (.int 1000000000000000000):=by ac_rfl
def zgq(k n:Nat){l:PV}{m a v p q:Int}{f g:Bool}{st:SO}(h:st[n]?=AA (flS l a p f))(hl:∀st,yar .len st [l]=AA (.int m))(hg:(decide (a ≥ m) || decide (v<1000000000000000000))=g)
  (h1:g=AB->yc T (k+1) yiH [.int v] (st.set n (flS l (a+1) p AB))=.ok (.int q) (st.set n (flS l (a+1) p AB))) (h2:g=AC->q=v-1000000000000000000):
  exs (yc T (k+1)) [AA (.loc n),AA l,AA (.int a),AA (.int v)] st flT=.nx [AA (.loc n),AA l,AA (.int a),AA (.int v)] (st.set n (flS l (a+1) q g)):=by
 have s1:=zpB h (v:=a+1);have r1:=rdS h (x:=flS l (a+1) p f);have s2:=zpn r1 (g:=g);have r2:=rdS r1 (x:=flS l (a+1) p g);have s3:=zpa r2 (v:=q);have i3:=zqd r2;rw[DN]at s2 s3 i3 r2;rw[DN]at s3
 have hb:flT=(match flT with
  |.cons a (.cons (.six x y _) r)=>.cons a (.cons (.six x y (.or (.cmp .ge (.var 2) (.blt .len (.cons (.var 1) .nil))) (.cmp .lt (.var 3) (.bin .pow (.cst (.int 10)) (.cst (.int 18)))))) r)
  |x=>x):=rfl
 have hor:∀st,ev (yc T (k+1)) [AA (.loc n),AA l,AA (.int a),AA (.int v)] st (.or (.cmp .ge (.var 2) (.blt .len (.cons (.var 1) .nil))) (.cmp .lt (.var 3) (.bin .pow (.cst (.int 10)) (.cst (.int 18)))))=.ok (.bl g) st:=λst=>by
  cases c:decide (a ≥ m)
  .rw[c,FW]at hg;simp! [hl,c,p18,hg]
  .rw[c,Eh]at hg;subst hg;simp! [hl,c]
 generalize hE:(Ce.or (.cmp .ge (.var 2) (.blt .len (.cons (.var 1) .nil))) (.cmp .lt (.var 3) (.bin .pow (.cst (.int 10)) (.cst (.int 18)))))=E at *
 cases g with
 |true=>
  have h1:=h1 rfl;rw[hb];simp! [flT,yah,stO,s1,hor,s2,i3,h1,s3]
 |false=>
  have h2:=h2 rfl;subst h2;rw[hb];simp! [flT,yah,stO,s1,hor,s2,i3,p18,s3]
theorem fill(k n:Nat)(ns:List Int)(hns:ns.length<=1000)(a p:Int)(ha:0<=a)(f:Bool)(st:SO)(h:st[n]?=AA (.lst [.lst (ns.map .int),.int a,.int p,.bl f])):
  ∃p' f',yc T (k+2) yjO [.loc n] st=.ok .non (st.set n (.lst [.lst (ns.map .int),.int (a+1),.int p',.bl f'])):=by
 have hT:T yjO=AA ⟨1,4,AC,yah.body⟩:=rfl;have hl:∀st,yar .len st [.lst (ns.map .int)]=AA (.int (ns.length:Int)):=λst=>by
  show AA (PV.int (((ns.map PV.int).length:Nat):Int))=_;simp
 have i0:=zqb h;have i1:=zqc h;have bt:∀(a b:PV) (ρ:IC.Env),yI (.t [1,2]) (.tp AC [a,b]) ρ=AA ((ρ.set 1 (AA a)).set 2 (AA b)):=λ_ _ _=>rfl
 have hb:yah.body=(match yah.body with
  |.cons a (.cons b (.cons c _))=>.cons a (.cons b (.cons c flT))
  |x=>x):=rfl
 have m31:yq .mul (.int 31) (.int a)=AA (.int (31*a)):=zaO ⋯;obtain⟨v,hv⟩:∃v,exs (yc T (k+1)) [AA (.loc n),AD,AD,AD] st yah.body=exs (yc T (k+1)) [AA (.loc n),AA (.lst (ns.map .int)),AA (.int a),AA (.int v)] st flT:=by
  by_cases hn:ns=[]
  .have c0:decide ((ns.length:Int) > 0)=false:=by subst hn;rfl
   refine⟨31*a+7,?_⟩;rw[hb];generalize flT=F,ns.map PV.int=L at *;simp! [yah,i0,i1,bt,m31,hl,c0]
  .have h0:0<ns.length:=FQ.2 hn;let⟨v,hv⟩:=znn ns a hn;have c0:decide ((ns.length:Int) > 0)=true:=decide_eq_true ∅;have d1:=zki (i:=a) (j:=(ns.length:Int)) ∅ ∅;have d2:=ziu (i:=a) (j:=(ns.length:Int)) ∅;have m1:yq .mul (.int 104729) (.int (a/(ns.length:Int)))=AA (.int (104729*(a/(ns.length:Int)))):=zaO ⋯;have ix:∀st,idxV st (.lst (ns.map .int)) (.int (a%(ns.length:Int)))=AA (.int v):=λ_=>hv;refine⟨104729*(a/(ns.length:Int))+v,?_⟩;rw[hb];generalize flT=F,ns.map PV.int=L at *;simp! [yah,i0,i1,bt,m31,hl,c0,d1,d2,m1,ix]
 cases c:(decide (a ≥ (ns.length:Int)) || decide (v<1000000000000000000))with
 |true=>
  let⟨q,hq⟩:=mixed k v (st.set n (flS (.lst (ns.map .int)) (a+1) p AB));refine⟨q,AB,?_⟩;rw[zm hT rfl rfl];have e:=zgq k n h hl c (λ_=>hq) (λh=>nomatch h);rw[<-hv]at e;exact(congrArg _ e).trans rfl
 |false=>
  refine⟨v-1000000000000000000,AC,?_⟩;rw[zm hT rfl rfl];have e:=zgq k n h hl c (λh=>nomatch h) (λ_=>rfl);rw[<-hv]at e;exact(congrArg _ e).trans rfl
abbrev cM:Nat:=21
abbrev sw:Str:=AE "w"
abbrev sws:Str:=AE "words"
abbrev smk:Str:=AE "marked"
def mob(w:Int)(L:Nat)(mk:Int):Ob:=.ins cM [(sw,.int w),(sws,.loc L),(smk,.int mk)]
structure MM(st:SO)(m l:Nat)(w:Int)(M:Mem)(mk:Int)(L:Nat):Prop where
 o:st[m]?=AA (mob w l mk)
 d:Dc st l M L
 ne:m≠l
def zqe{w mk:Int}{L:Nat}:([(sw,PV.int w),(sws,.loc L),(smk,.int mk)]:List (AN×PV)).lookup sw=AA (.int w):=by ac_rfl
def zqf{w mk:Int}{L:Nat}:([(sw,PV.int w),(sws,.loc L),(smk,.int mk)]:List (AN×PV)).lookup sws=AA (.loc L):=by ac_rfl
def zqg{w mk:Int}{L:Nat}:([(sw,PV.int w),(sws,.loc L),(smk,.int mk)]:List (AN×PV)).lookup smk=AA (.int mk):=by ac_rfl
section
variable {st:SO}{m l L:Nat}{w mk:Int}{M:Mem}
theorem MM.fw(h:MM st m l w M mk L):yaZ cM st (.loc m) sw=AA (.int w):=by erw[yaZ,h.o,mob,if_true];exact zqe
theorem MM.fd(h:MM st m l w M mk L):yaZ cM st (.loc m) sws=AA (.loc l):=by erw[yaZ,h.o,mob,if_true];exact zqf
theorem MM.fm(h:MM st m l w M mk L):yaZ cM st (.loc m) smk=AA (.int mk):=by erw[yaZ,h.o,mob,if_true];exact zqg
theorem MM.ins(h:MM st m l w M mk L)(n:AN)(hm:(([(sw,PV.non),(sws,.non),(smk,.non)]:List (AN×PV)).lookup n).isNone=true:=by decide +kernel):ybX cM n st (.loc m)=AA true:=by
 have e:([(sw,PV.int w),(sws,.loc l),(smk,.int mk)]:List (AN×PV)).lookup n=none:=by
  erw[Bu]at hm ⊢
  cases h1:n==sw with
  |true=>rw[h1]at hm;cases hm
  |false=>
   rw[h1]at hm
   cases h2:n==sws with
   |true=>rw[h2]at hm;cases hm
   |false=>
    rw[h2]at hm
    cases h3:n==smk with
    |true=>rw[h3]at hm;cases hm
    |false=>rfl
 erw[ybX,h.o,mob];rw[if_pos ⟨trivial,e⟩]
def zm2{v:Int}:ybM smk (.int v) [(sw,PV.int w),(sws,.loc L),(smk,.int mk)]=[(sw,.int w),(sws,.loc L),(smk,.int v)]:=by ac_rfl
theorem Dc.set_ne{n:Nat}(h:Dc st l M L)(hn:n≠l)(o:Ob):Dc (st.set n o) l M L:=by
 let⟨kvs,h1,h2⟩:=h.ex;exact⟨kvs,by rw[AM hn];exact h1,h2⟩
theorem Dc.le{L':Nat}(h:Dc st l M L)(hL:L<=L'):Dc st l M L':=by
 let⟨kvs,h1,h2,h3,h4⟩:=h.ex;exact⟨kvs,h1,h2,h3,BV h4 hL⟩
theorem MM.sm(h:MM st m l w M mk L)(v:Int):ya0 cM st (.loc m) smk (.int v)=AA (st.set m (mob w l v))/\MM (st.set m (mob w l v)) m l w M v L:=by
 refine⟨?_,⟨rdS h.o,h.d.set_ne h.ne _,h.ne⟩⟩;erw[ya0,h.o,mob];rw[if_pos ⟨trivial,by simp⟩,zm2]
theorem MM.sd(h:MM st m l w M mk L)(hL:L<999999)(c:Cel)(v:Int):∃st',yba st (.loc l) (yx c) (.int v)=AA st'/\(∃o,st'=st.set l o)/\MM st' m l w (wr M c v) mk (L+1):=by
 let⟨kvs,e,d⟩:=zjK h.d hL c.1 c.2 v;exact⟨_,e,⟨_,rfl⟩,by rw[AM (BE h.ne)];exact h.o,d,h.ne⟩
def zcC(k:Nat)(h:MM st m l w M mk L)(c:Cel):yc T (k+1) yz [.loc m,yx c] st=.ok (.int (rd M c)) st:=by
 have hT:T yz=AA yhB:=rfl;have g:yb5 .get st (.loc l) [yx c,.int 0]=.ok (.int (rd M c)) st:=zj6 h.d c.1 c.2;have o:yaL .get st (.loc l)=AA true:=by
  let⟨kvs,h1,_⟩:=h.d.ex;simp[yaL,ya7,h1]
 rw[zm hT rfl rfl];generalize yx c=q at *;simp! [yhB,h.fd,o,g,zbC,IC.ve32]
end
theorem highest(k n:Nat)(hn:n<=100)(s:SO):yc T (k+1) yio [.int n] s=.ok (.int (2^n-1)) s:=by
 have hT:T yio=AA yhp:=rfl;have hs:yq .shl (.int 1) (.int (n:Int))=AA (.int (2^n)):=by
  erw[yq,binI];rw[if_pos ⟨by lia,by lia,by decide⟩];simp
 rw[zc hT rfl rfl rfl];simp! [yhp,zmw,hs]
def zaC{st s:SO}{a b:Int}:ybq st (.rt (.tp AC [.int a,.int b]) s)=.ok (.tp AC [.int a,.int b]) st:=rfl
section
variable {x y m:Int}{n:Nat}(hn:n<=100)(hn1:1<=n)(k:Nat)(st:SO)
def zl8:yq .shr (.int x) (.int (n:Int))=AA (.int (x/2^n)):=by
 erw[yq,binI];rw[if_pos ∅];simp
theorem band(a b:Int):yq .band (.int a) (.int b)=AA (.int (Ax a b)):=rfl
def zoT{x y:Int}(hx:0<=x)(hy:0<=y):Ax x y=((x.toNat &&& y.toNat:Nat):Int):=by simp[Ax,hx,hy]
def zoB{x y:Int}(hx:¬0<=x)(hy:0<=y):Ax x y=y-((y.toNat &&& (FD x).toNat:Nat):Int):=by simp[Ax,hx,hy]
def zdW(a:Int):Ax a (2^n-1)=a%2^n:=by
 have hp:(0:Int)<2^n:=Ab ⋯;have hc:((2^n:Nat):Int)=2^n:=by simp
 have ht:((2:Int)^n-1).toNat=2^n-1:=by lia
 by_cases h:0<=a
 .rw[zoT h ∅,ht,DY,GO,hc,Dm h]
 .have hb:FD a=-a-1:=rfl;rw[zoB h ∅,ht,Nat.and_comm,DY,GO,hc,hb,Dm ∅];have e:=BN (-a-1) (2^n);have r0:=Aq (-a-1) (show (2:Int)^n≠0 by lia);have r1:=A9 (-a-1) hp;generalize (-a-1)%2^n=r,(-a-1)/2^n=q at *;generalize (2:Int)^n=P at *;have m:P*(-q-1)=-(P*q)-P:=by rw[CK,Int.mul_neg,CU]
  rw[show a=(P-1-r)+P*(-q-1)by lia,Bn,Ak ∅ ∅]
include hn
def zmo:yc T (k+1) yip [.int n,.int x,.int y,.int m] st=.ok (.tp AC [.int x,.int m]) st:=by
 have hT:T yip=AA yhq:=rfl;rw[zc hT rfl rfl rfl];simp! [yhq,zaC]
def zmb:yc T (k+2) yiq [.int n,.int x,.int y,.int m] st=.ok (.tp AC [.int (2^n-1-x),.int m]) st:=by
 have hT:T yiq=AA yhr:=rfl;have e:=highest k n hn;rw[zc hT rfl rfl rfl];simp! [yhr,zaC,e]
def zf8:yc T (k+2) yir [.int n,.int x,.int y,.int m] st=.ok (.tp AC [.int ((x+y+m)%2^n),.int ((x+y+m)/2^n)]) st:=by
 have hT:T yir=AA yhs:=rfl;have e:=highest k n hn;rw[zc hT rfl rfl rfl];simp! [yhs,zaC,e,band,zl8,zdW]
def zlA:yc T (k+2) yis [.int n,.int x,.int y,.int m] st=.ok (.tp AC [.int ((x-y-m)%2^n),.int (if x-y-m<0 then 1 else 0)]) st:=by
 have hT:T yis=AA yB:=rfl;have e:=highest k n hn;rw[zc hT rfl rfl rfl]
 by_cases c:x-y-m<0
 .have hc:yu .lt (.int (x-y-m)) (.int 0)=AA (.bl AB):=by simp[yu,ybI,c]
  rw[if_pos c];have hd:decide (x-y-m<0)=true:=decide_eq_true c;simp! [yB,zaC,e,band,zdW,hd]
 .rw[if_neg c];have hd:decide (x-y-m<0)=false:=decide_eq_false c;simp! [yB,zaC,e,band,zdW,hd]
def zn7:yc T (k+1) yit [.int n,.int x,.int y,.int m] st=.ok (.tp AC [.int (Ax x y),.int m]) st:=by
 have hT:T yit=AA yht:=rfl;rw[zc hT rfl rfl rfl];simp! [yht,zaC,zpz]
def zpe:yc T (k+1) yiu [.int n,.int x,.int y,.int m] st=.ok (.tp AC [.int (B2 x y),.int m]) st:=by
 have hT:T yiu=AA yhu:=rfl;rw[zc hT rfl rfl rfl];simp! [yhu,zaC,zpM]
def zph:yc T (k+1) yiv [.int n,.int x,.int y,.int m] st=.ok (.tp AC [.int (BY x y),.int m]) st:=by
 have hT:T yiv=AA yhv:=rfl;rw[zc hT rfl rfl rfl];simp! [yhv,zaC,zpd]
def zil:yc T (k+3) yiw [.int n,.int x,.int y,.int m] st=.ok (.tp AC [.int ((x+x+m)%2^n),.int ((x+x+m)/2^n)]) st:=by
 have hT:T yiw=AA yhw:=rfl;have e:=zf8 (x:=x) (y:=x) (m:=m) hn k;rw[zc hT rfl rfl rfl];simp! [yhw,zaC,e]
include hn1
def zmp(x0:0<=x)(x1:x<2^n)(m0:0<=m)(m1:m<2):B2 (x/2) (m*2^(n-1))=x/2+m*(2^n/2):=by
 obtain⟨n',rfl⟩:∃n',n=n'+1:=⟨n-1,by lia⟩;let⟨a,rfl⟩:=zcB x0;let⟨b,rfl⟩:=zcB m0;have e1:((a:Int)/2)=((a/2:Nat):Int):=by lia
 have e2:((b:Int)*2^(n'+1-1))=((2^n' * b:Nat):Int):=by
  rw[show n'+1-1=n' from rfl,A6];simp
 have hp:(2:Int)^(n'+1)=2*2^n':=by rw[Af,A6]
 have ha:a/2<2^n':=by
  have:(a:Int)<2*2^n':=by rw[<-hp];exact x1
  have h3:((2^n':Nat):Int)=2^n':=by simp
  lia
 rw[e1,e2,zdU,Nat.or_comm,<-Nat.two_pow_add_eq_or_of_lt ha,hp,Int.mul_ediv_cancel_left _ ⋯];have h3:((2^n' * b:Nat):Int)=b*2^n':=by rw[A6];simp
 rw[Int.natCast_add,h3,Ej]
def zjI(x0:0<=x)(x1:x<2^n)(m0:0<=m)(m1:m<2):yc T (k+1) yix [.int n,.int x,.int y,.int m] st=.ok (.tp AC [.int (x/2+m*(2^n/2)),.int (x%2)]) st:=by
 have hT:T yix=AA yhx:=rfl;have h1:yq .shr (.int x) (.int 1)=AA (.int (x/2)):=by
  have:=zl8 (x:=x) (n:=1);simpa using this
 have h2:yq .shl (.int m) (.int ((n:Int)-1))=AA (.int (m*2^(n-1))):=by
  erw[yq,binI];rw[if_pos ⟨by lia,by lia,by lia⟩]
  congr 3
  congr 1
  lia
 have h3:Ax x 1=x%2:=zdW (n:=1) x;rw[zc hT rfl rfl rfl];simp! [yhx,zaC,h1,h2,zpM,zmp hn hn1 x0 x1 m0 m1,band,h3]
end
def zjY{j:Nat}{k:Nat->Fl}:yeq (AA j) k=k j:=rfl
theorem made{s:AN}{j:Nat}(hj:mkV ya AB (.str s)=AA j)(k:Nat)(st:SO){n x y m a b:Int}(e:yc T k j [.int n,.int x,.int y,.int m] []=.ok (.tp AC [.int a,.int b]) []):
  yc T (k+1) yin [.str s,.int n,.int x,.int y,.int m] st=.ok (.tp AC [.int a,.int b]) st:=by
 have hT:T yin=AA yho:=rfl;have hd:decide (5<6)=true:=rfl;rw[zc hT rfl rfl rfl];erw[yho,AL,Ai,C0,An,Aa,Av,xs_cons,zm4,IC.ve2,Ae,fl_ok];simp! [hd,hj,zjY,e,zaC]
def zjQ:mkV ya AB (.str "move")=AA yip/\mkV ya AB (.str "bare")=AA yiq/\mkV ya AB (.str "sum")=AA yir/\mkV ya AB (.str "less")=AA yis/\mkV ya AB (.str "both")=AA yit /\
  mkV ya AB (.str "any")=AA yiu/\mkV ya AB (.str "odd")=AA yiv/\mkV ya AB (.str "twice")=AA yiw/\mkV ya AB (.str "half")=AA yix:=by
 refine⟨?_,?_,?_,?_,?_,?_,?_,?_,?_⟩<;>decide +kernel
def zqh{i j:Nat}{k:Bool}{a b:PV}{ρ:IC.Env}:yI (.t [i,j]) (.tp k [a,b]) ρ=AA ((ρ.set i (AA a)).set j (AA b)):=rfl
def zqi{call:Cl}{ρ:IC.Env}{st:SO}:ev call ρ st (.neg (.cst (.int 1)))=.ok (.int (-1)) st:=by erw[ev,R.bind]
def okM(r:R PV)(st:SO)(m l:Nat)(w:Int)(M':Mem)(mk':Int)(L':Nat):Prop:=∃st',MM st' m l w M' mk' L'/\(∀n,n≠m->n≠l->st'[n]?=st[n]?)/\st'.length=st.length/\r=.ok .non st'
section
variable {st:SO}{m l L n:Nat}{mk:Int}{M:Mem}
def zaY(k:Nat)(h:MM st m l n M mk L)(hL:L<999999){s:AN}{j:Nat}(hj:mkV ya AB (.str s)=AA j){t x z:Cel}{r:List PV}
  (hlast:∀st,idxV st (.tp AC (.str s::yx t::yx x::r)) (.int (-1))=AA (yx z)) {v m':Int} (e:yc T (k+3) j [.int n,.int (rd M x),.int (rd M z),.int mk] []=.ok (.tp AC [.int v,.int m']) []):
  okM (yc T (k+5) yiA [.loc m,.tp AC (.str s::yx t::yx x::r)] st) st m l n (wr M t v) m' (L+1):=by
 have hT:T yiA=AA yhD:=rfl;have e1:yc T (k+4) yz [.loc m,yx x] st=.ok (.int (rd M x)) st:=zcC (k+3) h x;have e2:yc T (k+4) yz [.loc m,yx z] st=.ok (.int (rd M z)) st:=zcC (k+3) h z;have e3:yc T (k+4) yin [.str s,.int n,.int (rd M x),.int (rd M z),.int mk] st=_:=made hj (k+3) st e;have ih:=h.ins (AE "held_in");let⟨s1,d1,⟨o,ho⟩,h1⟩:=h.sd hL t v;let⟨d2,h2⟩:=h1.sm m';refine⟨_,h2,λq a b=>?_,by simp[ho],?_⟩
 .rw[AM (BE a),ho,AM (BE b)]
 rw[zm hT rfl rfl];generalize yx t=ct,yx x=cx,yx z=cz at *;simp! [yhD,ih,ix0,ix1,ix2,e1,zqi,hlast,e2,zqh,h.fw,h.fm,e3,h.fd,zga,d1,zal,zfI,d2,DB,IC.ve32,IC.ve37];rfl
end
section
variable {st:SO}{m l L n:Nat}{mk:Int}{M:Mem}
def zb1(k:Nat){s:AN}{r:List PV}{M':Mem}{mk':Int}{L':Nat}(h:MM st m l n M mk L)(q1:yu .eq (.str s) (.str "mark")=AA (.bl AC))(q2:yu .eq (.str s) (.str "ask")=AA (.bl AC))(q3:yu .eq (.str s) (.str "set")=AA (.bl AC))(q4:yu .eq (.str s) (.str "times")=AA (.bl AC))
  (g:okM (yc T (k+5) yiA [.loc m,.tp AC (.str s::r)] st) st m l n M' mk' L'):okM (yc T (k+6) yf [.loc m,.tp AC (.str s::r)] st) st m l n M' mk' L':=by
 have hT:T yf=AA yb:=rfl;let⟨st',g1,g2,g3,e⟩:=g;refine⟨st',g1,g2,g3,?_⟩;have ih:=h.ins (AE "go_made");rw[zm hT rfl rfl];simp! [yb,ix0,q1,q2,q3,q4,ih,e,IC.ve37];rfl
theorem MM.le{L':Nat}{w:Int}(h:MM st m l w M mk L)(hL:L<=L'):MM st m l w M mk L':=⟨h.o,h.d.le hL,h.ne⟩
def zk5(k:Nat)(h:MM st m l n M mk L)(d:Int):okM (yc T (k+6) yf [.loc m,yM (.mark d)] st) st m l n M d (L+1):=by
 have hT:T yf=AA yb:=rfl;let⟨d2,h2⟩:=h.sm d;refine⟨_,h2.le ∅,λq a b=>by rw[AM (BE a)],by simp,?_⟩;have q:yu .eq (.str "mark") (.str "mark")=AA (.bl AB):=by ac_rfl
 rw[zm hT rfl rfl];simp! [yb,yM,ix0,ix1,q,zfI,d2,zal];rfl
def zmN(k:Nat)(h:MM st m l n M mk L)(x:Cel):okM (yc T (k+6) yf [.loc m,yM (.ask x)] st) st m l n M (bi (!(rd M x==0))) (L+1):=by
 have hT:T yf=AA yb:=rfl;let⟨d2,h2⟩:=h.sm (bi (!(rd M x==0)));refine⟨_,h2.le ∅,λq a b=>by rw[AM (BE a)],by simp,?_⟩;have q:yu .eq (.str "ask") (.str "mark")=AA (.bl AC):=by ac_rfl
 have q2:yu .eq (.str "ask") (.str "ask")=AA (.bl AB):=by ac_rfl
 have e1:yc T (k+5) yz [.loc m,yx x] st=.ok (.int (rd M x)) st:=zcC (k+4) h x;have ih:=h.ins (AE "held_in");rw[zm hT rfl rfl];erw[yM];generalize yx x=cx at *
 cases e:(rd M x==0)with
 |true=>
  rw[e]at d2;have d2:ya0 cM st (.loc m) smk (.int 0)=_:=d2;simp! [yb,ix0,ix1,q,q2,ih,e1,e,zfI,d2,zal,IC.ve37];rfl
 |false=>
  rw[e]at d2;have d2:ya0 cM st (.loc m) smk (.int 1)=_:=d2;simp! [yb,ix0,ix1,q,q2,ih,e1,e,zfI,d2,zal,IC.ve37];rfl
def zoi(k:Nat)(h:MM st m l n M mk L)(hL:L<999999)(t:Cel)(d:Int):okM (yc T (k+6) yf [.loc m,yM (.set t d)] st) st m l n (wr M t d) mk (L+1):=by
 have hT:T yf=AA yb:=rfl;let⟨s1,d1,⟨o,ho⟩,h1⟩:=h.sd hL t d;refine⟨_,h1,λq a b=>by rw[ho,AM (BE b)],by simp[ho],?_⟩;have q:yu .eq (.str "set") (.str "mark")=AA (.bl AC):=by ac_rfl
 have q2:yu .eq (.str "set") (.str "ask")=AA (.bl AC):=by ac_rfl
 have q3:yu .eq (.str "set") (.str "set")=AA (.bl AB):=by ac_rfl
 rw[zm hT rfl rfl];erw[yM];generalize yx t=ct at *;simp! [yb,ix0,ix1,ix2,q,q2,q3,h.fd,zga,d1,zal,IC.ve32];rfl
def zmv{s a b:PV}:∀st,idxV st (.tp AC [s,a,b]) (.int (-1))=AA b:=λst=>rfl
def zhF{s a b c:PV}:∀st,idxV st (.tp AC [s,a,b,c]) (.int (-1))=AA c:=λst=>rfl
def zk1(a:Int):(if a<0 then(1:Int)else 0)=bi (decide (a<0)):=by
 by_cases h:a<0<;>simp[h,bi]
theorem okM.le{R:R PV}{w:Int}{L':Nat}(h:okM R st m l w M mk L)(hL:L<=L'):okM R st m l w M mk L':=by
 let⟨s,a,b,c,d⟩:=h;exact⟨s,a.le hL,b,c,d⟩
def zjw(k:Nat)(h:MM st m l n M mk L)(hL:L+1<999999)(hn:n<=100)(a b x y:Cel)(hx:(rd M x).natAbs<18446744073709551616):okM (yc T (k+6) yf [.loc m,yM (.times a b x y)] st) st m l n (wr (wr M a (rd M x*rd M y%2^n)) b (rd M x*rd M y/2^n)) mk (L+2):=by
 have hT:T yf=AA yb:=rfl;have hT2:T yjN=AA yhC:=rfl;let⟨s1,d1,⟨o1,ho1⟩,h1⟩:=h.sd ∅ a (rd M x*rd M y%2^n);let⟨s2,d2,⟨o2,ho2⟩,h2⟩:=h1.sd ∅ b (rd M x*rd M y/2^n);refine⟨s2,h2,λq _ c=>by rw[ho2,AM (BE c),ho1,AM (BE c)],by simp[ho1,ho2],?_⟩;have q1:yu .eq (.str "times") (.str "mark")=AA (.bl AC):=by ac_rfl
 have q2:yu .eq (.str "times") (.str "ask")=AA (.bl AC):=by ac_rfl
 have q3:yu .eq (.str "times") (.str "set")=AA (.bl AC):=by ac_rfl
 have q4:yu .eq (.str "times") (.str "times")=AA (.bl AB):=by ac_rfl
 have ix:∀(st:SO) (a b c d e:PV),idxV st (.tp AC [a,b,c,d,e]) (.int 1)=AA b/\idxV st (.tp AC [a,b,c,d,e]) (.int 2)=AA c/\idxV st (.tp AC [a,b,c,d,e]) (.int 3)=AA d/\idxV st (.tp AC [a,b,c,d,e]) (.int 4)=AA e:=λ_ _ _ _ _ _=>⟨rfl,rfl,rfl,rfl⟩;have ih:=h.ins (AE "go_times");have ih2:=h.ins (AE "held_in");have e1:=zcC (k+3) h x;have e2:=zcC (k+3) h y;have e3:=λs=>highest (k+3) n hn s;have bm:=zaO (i:=rd M x) (j:=rd M y) hx;have f1:=h.fw;have f2:=h.fd;have f3:=h1.fw;have f4:=h1.fd;have g:yc T (k+5) yjN [.loc m,yM (.times a b x y)] st=.ok .non s2:=by
  rw[zm hT2 rfl rfl];erw[yM];generalize rd M x*rd M y=p,yx a=ca,yx b=cb,yx x=cx,yx y=cy at *;simp! [yhC,ih2,e1,e2,e3,ix,bm,f1,f2,f3,f4,band,zdW,zl8,zga,d1,d2,zal,IC.ve32,IC.ve37];rfl
 rw[zm hT rfl rfl];erw[yM]at g ⊢;simp! [yb,ix0,q1,q2,q3,q4,ih,g,IC.ve37];rfl
def zny(k:Nat)(h:MM st m l n M mk L)(hL:L+1<999999)(hn:n<=100)(hn1:1<=n)(r:Rw)(hh:∀t x,r=.half t x->0<=rd M x/\rd M x<2^n/\0<=mk/\mk<2)(ht:∀a b x y,r=.times a b x y->(rd M x).natAbs<18446744073709551616):
  okM (yc T (k+6) yf [.loc m,yM r] st) st m l n (stepM (2^n) M mk r).1 (stepM (2^n) M mk r).2 (L+2):=by
 have hL':L<999999:=by lia
 have up:=λ{R:R PV} {M':Mem} {mk':Int} (h:okM R st m l n M' mk' (L+1))=>h.le (show L+1<=L+2 by lia);let⟨j1,j2,j3,j4,j5,j6,j7,j8,j9⟩:=zjQ
 cases r with
 |mark d=>exact up (zk5 k h d)
 |ask x=>exact up (zmN k h x)
 |set t d=>exact up (zoi k h hL' t d)
 |move t x=>exact up (zb1 k h (by ac_rfl) (by ac_rfl) (by ac_rfl) (by ac_rfl) (zaY k h hL' j1 zmv (zmo hn (k+2) [])))
 |bare t x=>exact up (zb1 k h (by ac_rfl) (by ac_rfl) (by ac_rfl) (by ac_rfl) (zaY k h hL' j2 zmv (zmb hn (k+1) [])))
 |twice t x=>
  have e:=zil (x:=rd M x) (y:=rd M x) (m:=mk) hn k [];rw[show rd M x+rd M x+mk=2*rd M x+mk by lia]at e;exact up (zb1 k h (by ac_rfl) (by ac_rfl) (by ac_rfl) (by ac_rfl) (zaY k h hL' j8 zmv e))
 |half t x=>
  let⟨a,b,c,d⟩:=hh t x rfl;exact up (zb1 k h (by ac_rfl) (by ac_rfl) (by ac_rfl) (by ac_rfl) (zaY k h hL' j9 zmv (zjI hn hn1 (k+2) [] a b c d)))
 |sum t x y=>exact up (zb1 k h (by ac_rfl) (by ac_rfl) (by ac_rfl) (by ac_rfl) (zaY k h hL' j3 zhF (zf8 hn (k+1) [])))
 |less t x y=>
  have e:=zlA (x:=rd M x) (y:=rd M y) (m:=mk) hn (k+1) [];rw[zk1]at e;exact up (zb1 k h (by ac_rfl) (by ac_rfl) (by ac_rfl) (by ac_rfl) (zaY k h hL' j4 zhF e))
 |both t x y=>exact up (zb1 k h (by ac_rfl) (by ac_rfl) (by ac_rfl) (by ac_rfl) (zaY k h hL' j5 zhF (zn7 hn (k+2) [])))
 |any t x y=>exact up (zb1 k h (by ac_rfl) (by ac_rfl) (by ac_rfl) (by ac_rfl) (zaY k h hL' j6 zhF (zpe hn (k+2) [])))
 |odd t x y=>exact up (zb1 k h (by ac_rfl) (by ac_rfl) (by ac_rfl) (by ac_rfl) (zaY k h hL' j7 zhF (zph hn (k+2) [])))
 |times a b x y=>exact zjw k h hL hn a b x y (ht a b x y rfl)
end
abbrev cZ:Cel:=(122,0)
abbrev cS:Cel:=(115,0)
abbrev cT:Cel:=(116,0)
def yS(f:Int->Rw):Nat->List Rw
 |0=>[]
 |n+1=>yS f n++[f n]
def yac(n:Nat):List Rw:=[.set cS 0]++yS (λi=>Rw.any cS cS (99,i)) n++[.ask cS,.set (109,2) 1,.less (109,2) (109,2) cZ,.twice cT (99,(n:Int)-1),.sum (109,3) cZ cZ]
def yg(W:Int):Nat->Int->List Int
 |0,_=>[]
 |n+1,x=>x%W::yg W n (x/W)
def z4(W:Int):∀n x,(yg W n x).length=n
 |0,_=>rfl
 |n+1,x=>by rw[yg,AX,z4]
def yay(c:Nat):Nat->List Int->Mem->Mem
 |_,[],M=>M
 |i,v::vs,M=>yay c (i+1) vs (upd M c i v)
def M0:Mem:=λ_ _=>0
def yaD(W:Int)(n:Nat)(x y:Int):Mem:=yay 98 0 (yg W n y) (yay 97 0 (yg W n x) M0)
def yw(W:Int)(M:Mem)(c:Nat):Nat->Int
 |0=>0
 |n+1=>yw W M c n+M c n*W^n
structure Cx where
 l:Nat
 c:Int
 i:Int
 j:Int
 m:Int
deriving DecidableEq
inductive Op where
 |fig (d:Int)|cel (x:Cx)
deriving DecidableEq
structure Rs where
 nm:AN
 ops:List Op
deriving DecidableEq
inductive T2 where
 |row (r:Rs)|rounds (c m t:Int) (rs:List Rs)
deriving DecidableEq
inductive T1 where
 |row (r:Rs)|rounds (c m t:Int) (ps:List T2)
deriving DecidableEq
def Cx.at(x:Cx)(I J n:Int):Int:=x.c+x.i*I+x.j*J+x.m*n
def Op.pv(I J n:Int):Op->PV
 |.fig d=>.int d
 |.cel x=>yN x.l (x.at I J n)
def Rs.pv(r:Rs)(I J n:Int):PV:=.tup (.str r.nm::r.ops.map (Op.pv I J n))
def cnt(c m t w n:Int):Nat:=(c+m*n+t*w*n).toNat
def upTo{α:Type}(f:Nat->List α):Nat->List α
 |0=>[]
 |n+1=>upTo f n++f n
def T2.rows(w n:Int)(I:Nat):T2->List PV
 |.row r=>[r.pv I 0 n]
 |.rounds c m t rs=>upTo (λJ=>rs.map λr=>r.pv I J n) (cnt c m t w n)
def T2.rnd(w n:Int):T2->Nat
 |.row _=>0
 |.rounds c m t _=>cnt c m t w n
def yak(w n:Int)(I:Nat)(ps:List T2):List PV:=ps.flatMap (T2.rows w n I)
def ybw(w n:Int)(ps:List T2):Nat:=(ps.map (T2.rnd w n)).sum
def T1.rows(w n:Int):T1->List PV
 |.row r=>[r.pv 0 0 n]
 |.rounds c m t ps=>upTo (λI=>yak w n I ps) (cnt c m t w n)
def T1.rnd(w n:Int):T1->Nat
 |.row _=>0
 |.rounds c m t ps=>cnt c m t w n*(1+ybw w n ps)
def yC(w n:Int)(ps:List T1):List PV:=ps.flatMap (T1.rows w n)
def yav(w n:Int)(ps:List T1):Nat:=(ps.map (T1.rnd w n)).sum
def sm(i:Int):Bool:=decide (i.natAbs<=200)
def ydO:PV->Option Op
 |.int d=>AA (.fig d)
 |.tp _ [.str s,.tp _ [.int c,.int i,.int j,.int m]]=>if s=chS (s.cps.getD 0 0)/\(sm c&&sm i&&sm j&&sm m)=AB then AA (.cel ⟨s.cps.getD 0 0,c,i,j,m⟩)else AD
 |_=>AD
def ybz:List PV->Option (List Op)
 |[]=>AA []
 |v::vs=>match ydO v,ybz vs with
  |some a,AA b=>AA (a::b)
  |_,_=>AD
def rowOf:PV->Option Rs
 |.tp _ (.str nm::vs)=>match ybz vs with
  |some ops=>if vs.length<100 then AA ⟨nm,ops⟩else AD
  |none=>AD
 |_=>AD
def yc9(s:AN):Bool:=decide (s=AE "row")
def yb4:PV->Option Rs
 |.tp _ [.str s,v]=>if yc9 s then rowOf v else AD
 |_=>AD
def deepOf:List PV->Option (List Rs)
 |[]=>AA []
 |v::vs=>match yb4 v,deepOf vs with
  |some a,AA b=>AA (a::b)
  |_,_=>AD
def yb6(s:AN):Bool:=decide (s=AE "rounds")
def part2(v:PV):Option T2:=
 match v with
 |.tp _ [.str s,.tp _ [.int c,.int m,.int t],_,.tp _ vs]=>if yb6 s&&(sm c&&sm m&&sm t)then(deepOf vs).map (.rounds c m t)else AD
 |v=>(yb4 v).map .row
def yaO:List PV->Option (List T2)
 |[]=>AA []
 |v::vs=>match part2 v,yaO vs with
  |some a,AA b=>AA (a::b)
  |_,_=>AD
def part1(v:PV):Option T1:=
 match v with
 |.tp _ [.str s,.tp _ [.int c,.int m,.int t],_,.tp _ vs]=>if yb6 s&&(sm c&&sm m&&sm t)then(yaO vs).map (.rounds c m t)else AD
 |v=>(yb4 v).map .row
def yaJ:List PV->Option (List T1)
 |[]=>AA []
 |v::vs=>match part1 v,yaJ vs with
  |some a,AA b=>AA (a::b)
  |_,_=>AD
def zmD{v:PV}{o:Op}(h:ydO v=AA o):(∃d,o=.fig d/\v=.int d) \/ ∃a b x,o=.cel x/\v=.tp a [.str (chS x.l),.tp b [.int x.c,.int x.i,.int x.j,.int x.m]]/\x.i.natAbs<=200/\x.j.natAbs<=200/\x.m.natAbs<=200:=by
 unfold ydO at h;split at h
 .left;cases h;exact⟨_,rfl,rfl⟩
 .right;rename_i a s b c i j m;split at h
  .rename_i q
   cases h
   have q2:=q.2;erw[sm,AK,decide_eq_true_eq]at q2;refine⟨a,b,_,rfl,?_,q2.1.1.2,q2.1.2,q2.2⟩;simp only;rw[<-q.1]
  .cases h
 .cases h
def zjL{v:PV}{r:Rs}(h:rowOf v=AA r):∃a vs,v=.tp a (.str r.nm::vs)/\ybz vs=AA r.ops/\vs.length<100:=by
 unfold rowOf at h;split at h
 .rename_i a nm vs;split at h
  .rename_i ops q;split at h
   .rename_i z
    cases h;exact⟨a,vs,rfl,q,z⟩
   .cases h
  .cases h
 .cases h
def zlO{v:PV}{r:Rs}(h:yb4 v=AA r):∃a v1,v=.tp a [.str "row",v1]/\rowOf v1=AA r:=by
 unfold yb4 at h;split at h
 .rename_i a s v1;split at h
  .rename_i q;have q:s=AE "row":=by simpa [yc9] using q
   exact⟨a,v1,by rw[q],h⟩
  .cases h
 .cases h
def zkh{v:PV}{p:T2}(h:part2 v=AA p):(∃r,p=.row r/\yb4 v=AA r) \/ ∃a b sn d vs c m t rs,p=.rounds c m t rs/\v=.tp a [.str "rounds",.tp b [.int c,.int m,.int t],sn,.tp d vs]/\deepOf vs=AA rs/\c.natAbs<=200/\m.natAbs<=200/\t.natAbs<=200:=by
 unfold part2 at h;split at h
 .right;rename_i a s b c m t sn d vs;split at h
  .rename_i q;erw[yb6,sm,AK,decide_eq_true_eq]at q
   cases e:deepOf vs with
   |none=>rw[e]at h;cases h
   |some rs=>
    rw[e]at h
    cases h
    exact⟨a,b,sn,d,vs,c,m,t,rs,rfl,by rw[q.1],e,q.2.1.1,q.2.1.2,q.2.2⟩
  .cases h
 .left
  cases e:yb4 v with
  |none=>rw[e]at h;cases h
  |some r=>rw[e]at h;cases h;exact⟨r,rfl,rfl⟩
def zj3{v:PV}{p:T1}(h:part1 v=AA p):(∃r,p=.row r/\yb4 v=AA r) \/ ∃a b sn d vs c m t ps,p=.rounds c m t ps/\v=.tp a [.str "rounds",.tp b [.int c,.int m,.int t],sn,.tp d vs]/\yaO vs=AA ps/\c.natAbs<=200/\m.natAbs<=200/\t.natAbs<=200:=by
 unfold part1 at h;split at h
 .right;rename_i a s b c m t sn d vs;split at h
  .rename_i q;erw[yb6,sm,AK,decide_eq_true_eq]at q
   cases e:yaO vs with
   |none=>rw[e]at h;cases h
   |some rs=>
    rw[e]at h
    cases h
    exact⟨a,b,sn,d,vs,c,m,t,rs,rfl,by rw[q.1],e,q.2.1.1,q.2.1.2,q.2.2⟩
  .cases h
 .left
  cases e:yb4 v with
  |none=>rw[e]at h;cases h
  |some r=>rw[e]at h;cases h;exact⟨r,rfl,rfl⟩
abbrev cU:Nat:=20
abbrev sn:Str:=AE "n"
abbrev sst:Str:=AE "steps"
abbrev srw:Str:=AE "rows"
abbrev srd:Str:=AE "rounds"
abbrev ufs(w n:Int)(l:Nat)(r q:Int):List (AN×PV):=[(sw,.int w),(sn,.int n),(sst,.loc l),(srw,.int r),(srd,.int q)]
def uob(w n:Int)(l:Nat)(r q:Int):Ob:=.ins cU (ufs w n l r q)
structure UM(st:SO)(u l:Nat)(w n r q:Int)(xs:List PV):Prop where
 o:st[u]?=AA (uob w n l r q)
 d:st[l]?=AA (.lst xs)
 ne:u≠l
section
variable {st:SO}{u l:Nat}{w n r q:Int}{xs:List PV}
theorem UM.fw(h:UM st u l w n r q xs):yaZ cU st (.loc u) sw=AA (.int w):=by erw[yaZ,h.o,uob,if_true];ac_rfl
theorem UM.fn(h:UM st u l w n r q xs):yaZ cU st (.loc u) sn=AA (.int n):=by erw[yaZ,h.o,uob,if_true];ac_rfl
theorem UM.fs(h:UM st u l w n r q xs):yaZ cU st (.loc u) sst=AA (.loc l):=by erw[yaZ,h.o,uob,if_true];ac_rfl
theorem UM.fr(h:UM st u l w n r q xs):yaZ cU st (.loc u) srw=AA (.int r):=by erw[yaZ,h.o,uob,if_true];ac_rfl
theorem UM.fq(h:UM st u l w n r q xs):yaZ cU st (.loc u) srd=AA (.int q):=by erw[yaZ,h.o,uob,if_true];ac_rfl
theorem UM.sr(h:UM st u l w n r q xs)(v:Int):ya0 cU st (.loc u) srw (.int v)=AA (st.set u (uob w n l v q))/\UM (st.set u (uob w n l v q)) u l w n v q xs:=by
 refine⟨?_,rdS h.o,by rw[AM h.ne];exact h.d,h.ne⟩;erw[ya0,h.o,uob];rw[if_pos ⟨trivial,by simp⟩,show ybM srw (.int v) (ufs w n l r q)=ufs w n l v q by ac_rfl]
theorem UM.sq(h:UM st u l w n r q xs)(v:Int):ya0 cU st (.loc u) srd (.int v)=AA (st.set u (uob w n l r v))/\UM (st.set u (uob w n l r v)) u l w n r v xs:=by
 refine⟨?_,rdS h.o,by rw[AM h.ne];exact h.d,h.ne⟩;erw[ya0,h.o,uob];rw[if_pos ⟨trivial,by simp⟩,show ybM srd (.int v) (ufs w n l r q)=ufs w n l r v by ac_rfl]
theorem UM.ap(h:UM st u l w n r q xs)(hx:xs.length<1000000)(v:PV):yb5 .append st (.loc l) [v]=.ok .non (st.set l (.lst (xs++[v])))/\UM (st.set l (.lst (xs++[v]))) u l w n r q (xs++[v]):=by
 refine⟨?_,by rw[AM (BE h.ne)];exact h.o,rdS h.d,h.ne⟩;unfold yb5;erw[ydL,h.d];rw[if_pos hx]
theorem UM.ok(h:UM st u l w n r q xs):yaL .append st (.loc l)=AA true:=by simp[yaL,yZ,h.d]
theorem UM.ins(h:UM st u l w n r q xs)(x:AN)(hx:((ufs 0 0 0 0 0).lookup x).isNone=true:=by decide +kernel):ybX cU x st (.loc u)=AA true:=by
 have e:(ufs w n l r q).lookup x=none:=by
  erw[ufs,Bu]at hx ⊢
  cases h1:x==sw<;>rw[h1]at hx<;>simp only at hx ⊢<;>try cases hx
  cases h2:x==sn<;>rw[h2]at hx<;>simp only at hx ⊢<;>try cases hx
  cases h3:x==sst<;>rw[h3]at hx<;>simp only at hx ⊢<;>try cases hx
  cases h4:x==srw<;>rw[h4]at hx<;>simp only at hx ⊢<;>try cases hx
  cases h5:x==srd<;>rw[h5]at hx<;>simp only at hx ⊢<;>try cases hx
 erw[ybX,h.o,uob];rw[if_pos ⟨trivial,e⟩]
def zig(k:Nat)(h:UM st u l w n r q xs)(hq:q+1<=4000):∃s,yc T (k+1) yik [.loc u] st=.ok .non s/\UM s u l w n r (q+1) xs:=by
 have hT:T yik=AA y9:=rfl;let⟨d,h2⟩:=h.sq (q+1);have c:decide (q+1 > 4000)=false:=decide_eq_false ∅;have vM:yiO=.int 4000:=rfl;refine⟨_,?_,h2⟩;rw[zm hT rfl rfl];have f1:=h.fq;have f2:=h2.fq;simp! [y9,f1,zfI,d,zal,f2,vM,c,IC.ve32,zbC];rfl
def zfi(k:Nat):∀(G:List Int),G.length<=2->∀s:SO,yc T (k+1) yhV [.tp AC (G.map .int)] s=.ok (.tp AC [.int (G.headD 0),.int (G.tail.headD 0)]) s
 |[],_,s=>by
  have hT:T yhV=AA yge:=rfl;rw[zc hT rfl rfl rfl];rfl
 |[a],_,s=>by
  have hT:T yhV=AA yge:=rfl;rw[zc hT rfl rfl rfl];rfl
 |[a,b],_,s=>by
  have hT:T yhV=AA yge:=rfl;rw[zc hT rfl rfl rfl];rfl
def zhb(k:Nat)(h:UM st u l w n r q xs)(hx:xs.length<1000000)(sen:PV)(G:List Int)(hG:G.length<=2):∃s,yc T (k+2) yil [.loc u,sen,.tp AC (G.map .int)] st=.ok .non s/\UM s u l w n r q (xs++[.tp AC [.str "asked",sen,.int (G.headD 0),.int (G.tail.headD 0)]]):=by
 have hT:T yil=AA yhl:=rfl;have e1:=zfi k G hG st;let⟨a,h2⟩:=h.ap hx (.tp AC [.str "asked",sen,.int (G.headD 0),.int (G.tail.headD 0)]);have bt:∀(i j:Nat) (a b:PV) (ρ:IC.Env),yI (.t [i,j]) (.tp AC [a,b]) ρ=AA ((ρ.set i (AA a)).set j (AA b)):=λ_ _ _ _ _=>rfl;refine⟨_,?_,h2⟩;rw[zm hT rfl rfl];have f1:=h.fs;have o:=h.ok;generalize PV.tp AC (G.map .int)=gv at *;simp! [yhl,e1,bt,f1,o,a,IC.ve32,zbC];rfl
def zko(k:Nat)(h:UM st u l w n r q xs)(bb:Bool)(c m t:Int)(b1:yq .mul (.int m) (.int n)=AA (.int (m*n)))(b2:yq .mul (.int t) (.int w)=AA (.int (t*w)))(b3:yq .mul (.int (t*w)) (.int n)=AA (.int (t*w*n))):
  yc T (k+1) yij [.loc u,.tp bb [.int c,.int m,.int t]] st=.ok (.int (c+m*n+t*w*n)) st:=by
 have hT:T yij=AA y7:=rfl;have bt:∀(i j k:Nat) (a b c:PV) (ρ:IC.Env),yI (.t [i,j,k]) (.tp bb [a,b,c]) ρ=AA (((ρ.set i (AA a)).set j (AA b)).set k (AA c)):=λ_ _ _ _ _ _ _=>rfl;rw[zm hT rfl rfl];have f1:=h.fw;have f2:=h.fn;simp! [y7,bt,f1,f2,b1,b2,b3,IC.ve32,zbC]
def zjN(k:Nat){b:Bool}{c i j m I J n:Int}(hi:i.natAbs<=200)(hj:j.natAbs<=200)(hm:m.natAbs<=200)(s:SO):yc T (k+1) yjH [.tp b [.int c,.int i,.int j,.int m],.int n,.int I,.int J] s=.ok (.int (c+i*I+j*J+m*n)) s:=by
 have hT:T yjH=AA yhk:=rfl;have h1:i.natAbs<18446744073709551616:=by lia
 have h2:j.natAbs<18446744073709551616:=by lia
 have h3:m.natAbs<18446744073709551616:=by lia
 have j2:∀st,idxV st (.tp b [.int c,.int i,.int j,.int m]) (.int 2)=AA (.int j):=λ_=>rfl;have j3:∀st,idxV st (.tp b [.int c,.int i,.int j,.int m]) (.int 3)=AA (.int m):=λ_=>rfl;rw[zc hT rfl rfl rfl];simp! [yhk,ix0,ix1,j2,j3,zaO h1,zaO h2,zaO h3];rfl
theorem placed(k:Nat){v:PV}{o:Op}(h:ydO v=AA o)(I J n:Int)(s:SO):yc T (k+2) yeW [v,.int n,.int I,.int J] s=.ok (o.pv I J n) s:=by
 have hT:T yeW=AA ydw:=rfl;rcases zmD h with⟨d,rfl,rfl⟩|⟨f1,f2,x,rfl,rfl,q1,q2,q3⟩
 .rw[zc hT rfl rfl rfl];have hi:yaM (.int d) [.tuple]=AA (.bl AC):=rfl;simp! [ydw,hi];rfl
 .have hi:yaM (.tp f1 [.str (chS x.l),.tp f2 [.int x.c,.int x.i,.int x.j,.int x.m]]) [.tuple]=AA (.bl AB):=rfl;have e:=λs=>zjN k (b:=f2) (c:=x.c) (I:=I) (J:=J) (n:=n) q1 q2 q3 s;rw[zc hT rfl rfl rfl];simp! [ydw,hi,ix0,ix1,e];rfl
def zgW(k:Nat)(x:AN)(I J n:Int)(s:SO):yc T (k+2) yeW [.str x,.int n,.int I,.int J] s=.ok (.str x) s:=by
 have hT:T yeW=AA ydw:=rfl;rw[zc hT rfl rfl rfl];have hi:yaM (.str x) [.tuple]=AA (.bl AC):=rfl;simp! [ydw,hi];rfl
def arC:Ce:=.call yeW (.cons (.var 0) (.cons (.fld cU (.var 3) sn) (.cons (.var 1) (.cons (.var 2) .nil))))
def zgk(k:Nat)(h:UM st u l w n r q xs)(I J:Int):∀(vs:List PV) (ops:List Op),ybz vs=AA ops->yag (yc T (k+2)) [AD,AA (.int I),AA (.int J),AA (.loc u)] (.n 0) (.cst (.bl AB)) arC vs st=.ok (ops.map (Op.pv I J n)) st
 |[],ops,e=>by cases e;exact zbi
 |v::vs,ops,e=>by
  unfold ybz at e;split at e
  .rename_i a b ha hb
   cases e
   have hp:=placed k ha I J n st;have f1:=h.fn;have ih:=zgk k h I J vs b hb;have one:ybe (yc T (k+2)) [AD,AA (.int I),AA (.int J),AA (.loc u)] (.n 0) (.cst (.bl AB)) arC v st=.ok (AA (a.pv I J n)) st:=by
    simp! [ybe,arC,f1,hp,IC.ve32]
   rw[zad,one,bd_ok,ih,bd_ok];rfl
  .cases e
def zh8:∀{vs:List PV} {ops:List Op},ybz vs=AA ops->ops.length=vs.length
 |[],ops,e=>by cases e;rfl
 |v::vs,ops,e=>by
  unfold ybz at e;split at e
  .rename_i a b ha hb
   cases e
   rw[AX,AX,zh8 hb]
  .cases e
def zlz(k:Nat)(h:UM st u l w n r q xs)(hx:xs.length<1000000)(hr:r+1<=4000){v:PV}{rs:Rs}(hv:rowOf v=AA rs)(G:List Int)(hG:G.length<=2)
  (hrow:∀s,yc T (k+2) yeU [rs.pv (G.headD 0) (G.tail.headD 0) n] s=.ok (.bl AB) s):
  ∃s,yc T (k+3) yjJ [.loc u,v,.tp AC (G.map .int)] st=.ok .non s/\UM s u l w n (r+1) q (xs++[.tp AC [.str "row",rs.pv (G.headD 0) (G.tail.headD 0) n]]):=by
 have hT:T yjJ=AA y8:=rfl;let⟨a,vs,rfl,ho,hl⟩:=zjL hv;have e1:=zfi (k+1) G hG st;generalize G.headD 0=I,G.tail.headD 0=J at *;have hl2:=zh8 ho;have e2:yag (yc T (k+2)) [AD,AA (.int I),AA (.int J),AA (.loc u)] (.n 0) (.cst (.bl AB)) arC (.str rs.nm::vs) st=.ok (.str rs.nm::rs.ops.map (Op.pv I J n)) st:=by
  have hp:=zgW k rs.nm I J n st;have f1:=h.fn;have one:ybe (yc T (k+2)) [AD,AA (.int I),AA (.int J),AA (.loc u)] (.n 0) (.cst (.bl AB)) arC (.str rs.nm) st=.ok (AA (.str rs.nm)) st:=by
   simp! [ybe,arC,f1,hp,IC.ve32]
  rw[zad,one,bd_ok,zgk k h I J vs rs.ops ho,bd_ok];rfl
 have e2:yag (yc T (k+2)) [AD,AA (.int I),AA (.int J),AA (.loc u)] (.n 0) (.cst (.bl AB)) (.call yeW (.cons (.var 0) (.cons (.fld cU (.var 3) sn) (.cons (.var 1) (.cons (.var 2) .nil))))) (.str rs.nm::vs) st=_:=e2;let⟨d,h2⟩:=h.sr (r+1);have ht:∀st,yar .tuple st [.lst (.str rs.nm::rs.ops.map (Op.pv I J n))]=AA (rs.pv I J n):=λ_=>rfl;let⟨b,h3⟩:=h2.ap hx (.tp AC [.str "row",rs.pv I J n]);have bt:∀(i j:Nat) (a b:PV) (ρ:IC.Env),yI (.t [i,j]) (.tp AC [a,b]) ρ=AA ((ρ.set i (AA a)).set j (AA b)):=λ_ _ _ _ _=>rfl;have c:decide (r+1 > 4000)=false:=decide_eq_false ∅;have vM:yiP=.int 4000:=rfl;have f1:=h.fr;have f2:=h2.fr;have f3:=h2.fs;have o:=h2.ok;have lr:=λst=>zcv (.str rs.nm::rs.ops.map (Op.pv I J n)) (by simp[hl2];lia) st;refine⟨_,?_,h3⟩;rw[zm hT rfl rfl];generalize PV.tp AC (G.map .int)=gv,PV.str rs.nm::rs.ops.map (Op.pv I J n)=row,rs.pv I J n=rowv at *;simp! [y8,e1,bt,e2,lr,ht,f1,zfI,d,zal,hrow,f2,vM,c,f3,o,b,IC.ve32,zbC];rfl
end
inductive StR:List PV->List PV->Prop
 |nil:StR [] []
 |row {xs rs v}:nL v=AB->StR xs rs->StR (xs++[.tp AC [.str "row",v]]) (rs++[v])
 |ask {xs rs a b c}:nLs [a,b,c]=AB->StR xs rs->StR (xs++[.tp AC [.str "asked",a,b,c]]) rs
def US(st:SO)(u l:Nat)(w n:Int)(R:List PV)(q:Int)(a:Nat):Prop:=∃xs,UM st u l w n R.length q xs/\StR xs R/\xs.length<=R.length+a
section
variable {st:SO}{u l:Nat}{w n q:Int}{R:List PV}{a:Nat}
def gpB:Css:=match yh.body with
 |.cons (.for _ _ b) _=>b
 |x=>x
def zdS:yu .eq (.str "row") (.str "row")=AA (.bl AB):=by ac_rfl
def zg2:yu .eq (.str "rounds") (.str "row")=AA (.bl AC):=by ac_rfl
def zjt(I J n:Int)(o:Op):nL (o.pv I J n)=true:=by cases o<;>rfl
def zfs(I J n:Int):∀ops:List Op,nLs (ops.map (Op.pv I J n))=AB
 |[]=>rfl
 |o::os=>by rw[AL,nLs,zjt,zfs I J n os];rfl
def zcl(r:Rs)(I J n:Int):nL (r.pv I J n)=true:=by
 show nLs (PV.str r.nm::r.ops.map (Op.pv I J n))=AB;rw[nLs,zfs];rfl
def zhz(k:Nat)(H:US st u l w n R q a)(hR:R.length+1<=4000)(ha:a<=500000){v:PV}{r:Rs}(hv:yb4 v=AA r)(G:List Int)(hG:G.length<=2)
  (hrow:∀s,yc T (k+2) yeU [r.pv (G.headD 0) (G.tail.headD 0) n] s=.ok (.bl AB) s) (p1:Option PV):
  ∃s,exs (yc T (k+3)) [AA (.loc u),p1,AA (.tp AC (G.map .int)),AA v] st gpB=.nx [AA (.loc u),p1,AA (.tp AC (G.map .int)),AA v] s/\US s u l w n (R++[r.pv (G.headD 0) (G.tail.headD 0) n]) q a:=by
 let⟨xs,h,hs,hx⟩:=H;let⟨b,v1,rfl,h1⟩:=zlO hv;let⟨s,e,h2⟩:=zlz k h ∅ ∅ h1 G hG hrow;have ih:=h.ins (AE "add_row");refine⟨s,?_,_,?_,.row (zcl _ _ _ _) hs,by simp;lia⟩
 .generalize PV.tp AC (G.map .int)=gv at *;simp! [gpB,yh,ix0,ix1,zdS,ih,e,IC.ve37]
 .rw[A8,DQ];exact h2
def zhv(k:Nat)(I J:Int)(p1:Option PV)(ha:a<=500000):∀(vs:List PV) (rs:List Rs) (st:SO) (R:List PV) (p3:Option PV),deepOf vs=AA rs->US st u l w n R q a->R.length+rs.length<=4000 ->
  (∀r∈rs,∀s,yc T (k+2) yeU [r.pv I J n] s=.ok (.bl AB) s) ->
  ∃s p3',yaY (yc T (k+3)) (.n 3) gpB vs [AA (.loc u),p1,AA (.tp AC [.int I,.int J]),p3] st=.nx [AA (.loc u),p1,AA (.tp AC [.int I,.int J]),p3'] s/\US s u l w n (R++rs.map λr=>r.pv I J n) q a
 |[],rs,st,R,p3,hd,H,_,_=>by
  cases hd
  exact⟨st,p3,zD,by simpa using H⟩
 |v::vs,rs,st,R,p3,hd,H,hl,hrow=>by
  unfold deepOf at hd;split at hd
  .rename_i x y hx hy
   cases hd
   erw[AX]at hl;let⟨s1,e1,H1⟩:=zhz k H ∅ ha hx [I,J] (by simp) (hrow x (by simp)) p1;have e1:exs (yc T (k+3)) [AA (.loc u),p1,AA (.tp AC [.int I,.int J]),AA v] st gpB=.nx [AA (.loc u),p1,AA (.tp AC [.int I,.int J]),AA v] s1:=e1;let⟨s2,p3',e2,H2⟩:=zhv k I J p1 ha vs y s1 _ (AA v) hy H1 (by simp;lia) (λr hr=>hrow r (by simp[hr]));refine⟨s2,p3',?_,by simpa using H2⟩;rw[zt (ρ1:=[AA (.loc u),p1,AA (.tp AC [.int I,.int J]),AA v]) rfl,e1];exact e2
  .cases hd
def zhB{α:Type}(f:Nat->List α){i:Nat}:∀n,i<=n->(upTo f i).length<=(upTo f n).length
 |0,h=>by
  rw[show i=0 by lia];exact AT _
 |n+1,h=>by
  rcases CJ i (n+1)with h1|h1
  .have:=zhB f (i:=i) n ∅;rw[upTo,A8];lia
  .have:i=n+1:=by lia
   rw[this];exact AT _
theorem US.ask(H:US st u l w n R q a)(k:Nat)(ha:a+1<=500000)(hR:R.length<=4000)(sen:PV)(hsn:nL sen=AB)(G:List Int)(hG:G.length<=2):∃s,yc T (k+2) yil [.loc u,sen,.tp AC (G.map .int)] st=.ok .non s/\US s u l w n R q (a+1):=by
 let⟨xs,h,hs,hx⟩:=H;let⟨s,e,h2⟩:=zhb k h ∅ sen G hG;exact⟨s,e,_,h2,.ask (by simp[nLs,nL,hsn]) hs,by simp;lia⟩
theorem US.rnd(H:US st u l w n R q a)(k:Nat)(hq:q+1<=4000):∃s,yc T (k+1) yik [.loc u] st=.ok .non s/\US s u l w n R (q+1) a:=by
 let⟨xs,h,hs,hx⟩:=H;let⟨s,e,h2⟩:=zig k h hq;exact⟨s,e,_,h2,hs,hx⟩
theorem US.ins(H:US st u l w n R q a)(x:AN)(hx:((ufs 0 0 0 0 0).lookup x).isNone=true:=by decide +kernel):ybX cU x st (.loc u)=AA true:=by
 let⟨xs,h,_⟩:=H;exact h.ins x hx
def grB:Css:=match yj.body with
 |.cons _ (.cons (.for _ _ b) _)=>b
 |x=>x
def zpN:∀(G:List Int),G.length<=1->∀J:Int,yq .add (.tp AC (G.map .int)) (.tp AC [.int J])=AA (.tp AC ((G++[J]).map .int))
 |[],_,J=>rfl
 |[a],_,J=>rfl
def BodyOk(k u l:Nat)(w n:Int)(d:Bool)(vs:List PV)(G:List Int)(f:Nat->List PV)(qn an J:Nat):Prop:=
 ∀(st:SO) (R:List PV) (q:Int) (a:Nat),US st u l w n R q a->R.length+(f J).length<=4000->q+qn<=4000->a+an<=500000 ->
  ∃s,yc T k yii [.loc u,.tp d vs,.tp AC ((G++[(J:Int)]).map .int)] st=.ok .non s/\US s u l w n (R++f J) (q+qn) (a+an)
def zhc(k:Nat){a1 d:Bool}{s0 cn sn:PV}(hsn:nL sn=AB){vs:List PV}{G:List Int}(hG:G.length<=1){f:Nat->List PV}{qn an N:Nat}(hb:∀J<N,BodyOk (k+2) u l w n d vs G f qn an J)
  (hR:R.length+(upTo f N).length<=4000) (hq:q+(N*(1+qn):Nat)<=4000) (ha:a+N*(1+an)<=500000):∀(M j:Nat) (st:SO) (p4:Option PV),j+M=N->US st u l w n (R++upTo f j) (q+(j*(1+qn):Nat)) (a+j*(1+an)) ->
  ∃s p4',yaY (yc T (k+2)) (.n 4) grB (yo M (j:Int) 1) [AA (.loc u),AA (.tp a1 [s0,cn,sn,.tp d vs]),AA (.tp AC (G.map .int)),AA (.int N),p4] st=.nx [AA (.loc u),AA (.tp a1 [s0,cn,sn,.tp d vs]),AA (.tp AC (G.map .int)),AA (.int N),p4'] s/\US s u l w n (R++upTo f N) (q+(N*(1+qn):Nat)) (a+N*(1+an))
 |0,j,st,p4,hj,H=>by
  have:j=N:=by lia
  subst this;exact⟨st,p4,by rw[yo];exact zD,H⟩
 |M+1,j,st,p4,hj,H=>by
  have l1:(upTo f (j+1)).length<=(upTo f N).length:=zhB f N ∅;rw[upTo,A8]at l1;have m1:(j+1)*(1+qn)<=N*(1+qn):=FE _ ∅;have m2:(j+1)*(1+an)<=N*(1+an):=FE _ ∅;have n1:(j+1)*(1+qn)=j*(1+qn)+(1+qn):=Fr _ _;have n2:(j+1)*(1+an)=j*(1+an)+(1+an):=Fr _ _;let⟨s1,e1,H1⟩:=H.ask k ∅ (by rw[A8];lia) sn hsn (G++[(j:Int)]) (by simp;lia);let⟨s2,e2,H2⟩:=H1.rnd (k+1) ∅;let⟨s3,e3,H3⟩:=hb j ∅ s2 _ _ _ H2 (by rw[A8];lia) ∅ ∅;have H3:US s3 u l w n (R++upTo f (j+1)) (q+((j+1)*(1+qn):Nat)) (a+(j+1)*(1+an)):=by
   rw[upTo,<-Bo,n1,n2];have x1:q+((j*(1+qn)+(1+qn):Nat):Int)=q+((j*(1+qn):Nat):Int)+1+(qn:Int):=by lia
   have x2:a+(j*(1+an)+(1+an))=a+j*(1+an)+1+an:=by lia
   rw[x1,x2];exact H3
  let⟨s4,p4',e4,H4⟩:=zhc k (a1:=a1) (s0:=s0) (cn:=cn) (sn:=sn) hsn hG hb hR hq ha M (j+1) s3 (AA (.int j)) ∅ H3;refine⟨s4,p4',?_,H4⟩;have i1:=H.ins (AE "add_asked");have i2:=H1.ins (AE "add_round");have i3:=H2.ins (AE "go_parts");have c1:=zpN G hG (j:Int);have one:exs (yc T (k+2)) [AA (.loc u),AA (.tp a1 [s0,cn,sn,.tp d vs]),AA (.tp AC (G.map .int)),AA (.int N),AA (.int (j:Int))] st grB=.nx [AA (.loc u),AA (.tp a1 [s0,cn,sn,.tp d vs]),AA (.tp AC (G.map .int)),AA (.int N),AA (.int (j:Int))] s3:=by
   generalize PV.tp AC (G.map .int)=gv,PV.tp AC ((G++[(j:Int)]).map .int)=gw,PV.tp d vs=pv at *;simp! [grB,yj,ix0,ix1,ix2,ix3,c1,i1,i2,i3,e1,e2,e3,IC.ve37]
  rw[yo,zt (ρ1:=[AA (.loc u),AA (.tp a1 [s0,cn,sn,.tp d vs]),AA (.tp AC (G.map .int)),AA (.int N),AA (.int (j:Int))]) rfl,one];exact e4
theorem US.cnt(H:US st u l w n R q a)(k:Nat)(bb:Bool){c m t:Int}(hm:m.natAbs<=200)(ht:t.natAbs<=200)(n0:0<=n)(n1:n<=8):yc T (k+1) yij [.loc u,.tp bb [.int c,.int m,.int t]] st=.ok (.int (c+m*n+t*w*n)) st:=by
 let⟨xs,h,_⟩:=H;have zdl:∀{i j:Int},j.natAbs<18446744073709551616->yq .mul (.int i) (.int j)=AA (.int (i*j)):=λh=>zjh (.inr h);exact zko k h bb c m t (zaO ∅) (zaO ∅) (zdl ∅)
def zlh(z:Int)(s:SO):yar .max s [.int 0,.int z]=AA (.int ((z.toNat:Nat):Int)):=by
 show AA (PV.int (if 0<z then z else 0))=_;split
 .rw[Dm ∅]
 .rw[show z.toNat=0 by lia];rfl
def zeU(k:Nat){a1 b d:Bool}{s0 sn:PV}(hsn:nL sn=AB){vs:List PV}{c m t:Int}{G:List Int}(hG:G.length<=1){f:Nat->List PV}{qn an N:Nat}(hN:N=cnt c m t w n)(hm:m.natAbs<=200)(ht:t.natAbs<=200)(n0:0<=n)(n1:n<=8)(hN2:N<1000000)
  (hb:∀J<N,BodyOk (k+2) u l w n d vs G f qn an J) (hR:R.length+(upTo f N).length<=4000) (hq:q+(N*(1+qn):Nat)<=4000) (ha:a+N*(1+an)+1<=500000) (H:US st u l w n R q a):
  ∃s,yc T (k+3) yT [.loc u,.tp a1 [s0,.tp b [.int c,.int m,.int t],sn,.tp d vs],.tp AC (G.map .int)] st=.ok .non s/\US s u l w n (R++upTo f N) (q+(N*(1+qn):Nat)) (a+N*(1+an)+1):=by
 have hT:T yT=AA ⟨3,5,AC,yj.body⟩:=rfl;have e1:=H.cnt (k+1) b (c:=c) hm ht n0 n1;have i1:=H.ins (AE "count_of");let⟨s1,p4,e2,H2⟩:=zhc k (a1:=a1) (s0:=s0) (cn:=.tp b [.int c,.int m,.int t]) (sn:=sn) (a:=a) (q:=q) (R:=R) hsn hG hb hR hq ∅ N 0 st AD ∅ (by simpa [upTo] using H);let⟨s2,e3,H3⟩:=H2.ask k ∅ (by rw[A8];lia) sn hsn (G++[(N:Int)]) (by simp;lia);have i2:=H2.ins (AE "add_asked");have c1:=zpN G hG (N:Int);have hx:=zlh (c+m*n+t*w*n) st;have hz:((c+m*n+t*w*n).toNat:Int)=(N:Int):=by rw[hN];rfl
 rw[hz]at hx;have hr:ybU (.int (N:Int))=AA (yo N 0 1):=by
  erw[ybU];rw[if_pos ∅];rfl
 have hbd:yj.body=(match yj.body with
  |.cons x (.cons (.for t i _) r)=>.cons x (.cons (.for t i grB) r)
  |x=>x):=rfl
 refine⟨s2,?_,H3⟩;rw[zm hT rfl rfl];dsimp only;rw[hbd];have e2:yaY (yc T (k+2)) (.n 4) grB (yo N 0 1) _ st=_:=e2;generalize PV.tp AC (G.map .int)=gv,PV.tp AC ((G++[(N:Int)]).map .int)=gw,PV.tp d vs=pv,PV.tp b [.int c,.int m,.int t]=cv,c+m*n+t*w*n=z at *;simp! [yj,ix0,ix1,ix2,ix3,i1,e1,hx,hr,e2,c1,i2,e3,IC.ve37,zbC];rfl
def zfU(k:Nat){b:Bool}{vs:List PV}{gv:PV}{s:SO}{p3:Option PV}(e:yaY (yc T k) (.n 3) gpB vs [AA (.loc u),AA (.tp b vs),AA gv,AD] st=.nx [AA (.loc u),AA (.tp b vs),AA gv,p3] s):
  yc T (k+1) yii [.loc u,.tp b vs,gv] st=.ok .non s:=by
 have hT:T yii=AA ⟨3,4,AC,yh.body⟩:=rfl
 have hbd:yh.body=(match yh.body with
  |.cons (.for t i _) r=>.cons (.for t i gpB) r
  |x=>x):=rfl
 rw[zm hT rfl rfl];dsimp only;rw[hbd];simp! [yh,e,zbC];rfl
def zi5(k:Nat){d:Bool}{vs:List PV}{rs:List Rs}(hd:deepOf vs=AA rs)(I:Int)(J:Nat)(hrow:∀r∈rs,∀s,yc T (k+2) yeU [r.pv I J n] s=.ok (.bl AB) s):BodyOk (k+4) u l w n d vs [I] (λJ=>rs.map λr=>r.pv I J n) 0 0 J:=by
 intro st R q a H h1 h2 h3;let⟨s,p3,e,H2⟩:=zhv k (a:=a) (q:=q) I J (AA (.tp d vs)) ∅ vs rs st R AD hd H (by simpa using h1) hrow;exact⟨s,zfU (k+3) e,by simpa using H2⟩
def zkX(k:Nat)(H:US st u l w n R q a){a1:Bool}{r:List PV}{gv:PV}{p1:Option PV}{s:SO}(e:yc T k yT [.loc u,.tp a1 (.str "rounds" :: r),gv] st=.ok .non s):
  exs (yc T k) [AA (.loc u),p1,AA gv,AA (.tp a1 (.str "rounds" :: r))] st gpB=.nx [AA (.loc u),p1,AA gv,AA (.tp a1 (.str "rounds" :: r))] s:=by
 have ih:=H.ins (AE "go_rounds");simp! [gpB,yh,ix0,zg2,ih,e,IC.ve37]
def ybt(v:PV):Prop:=∀(k:Nat) (s:SO),yc T (10+k) yeU [v] s=.ok (.bl AB) s
def T2.ak(w n:Int):T2->Nat
 |.row _=>0
 |.rounds c m t _=>cnt c m t w n+1
def ak2(w n:Int)(ps:List T2):Nat:=(ps.map (T2.ak w n)).sum
def zeL{c m t w n:Int}(hc:c.natAbs<=200)(hm:m.natAbs<=200)(ht:t.natAbs<=200)(w0:0<=w)(w1:w<=16)(n0:0<=n)(n1:n<=8):(c+m*n+t*w*n).natAbs<1000000:=by
 have h1:(m*n).natAbs<=200*8:=by rw[DO];exact BO hm ∅
 have h2:(t*w*n).natAbs<=200*16*8:=by rw[DO,DO];exact BO (BO ht ∅) ∅
 generalize m*n=A,t*w*n=B at *;lia
def zhY{α:Type}{f:Nat->List α}{x:α}:∀{N J:Nat},J<N->x∈f J->x∈upTo f N
 |0,_,h,_=>absurd h ∅
 |N+1,J,h,hx=>by
  rw[upTo,B1];rcases CJ J N with h1|h1
  .exact .inl (zhY h1 hx)
  .have:J=N:=by lia
   exact .inr (this ▸ hx)
def zoF{a b d:Bool}{x c m t sn:PV}{vs:List PV}(h:nL (.tp a [x,.tp b [c,m,t],sn,.tp d vs])=AB):nL sn=true:=by
 erw[nL,nLs,AK]at h;exact h.2.2.1
def zpy{a b d:Bool}{x c m t sn:PV}{vs:List PV}(h:nL (.tp a [x,.tp b [c,m,t],sn,.tp d vs])=AB):nLs vs=true:=by
 erw[nL,nLs,AK]at h;exact h.2.2.2.1
def zbG{v:PV}{vs:List PV}(h:nLs (v::vs)=AB):nL v=AB/\nLs vs=true:=by
 simpa only[nLs,AK] using h
def zlS(k:Nat)(w0:0<=w)(w1:w<=16)(n0:0<=n)(n1:n<=8)(I:Nat)(p1:Option PV){v:PV}{p:T2}(hv:nL v=AB)(hp:part2 v=AA p)(H:US st u l w n R q a)(hR:R.length+(p.rows w n I).length<=4000)(hq:q+(p.rnd w n:Nat)<=4000)(ha:a+p.ak w n<=500000)(hrow:∀x∈p.rows w n I,ybt x):
  ∃s,exs (yc T (k+13)) [AA (.loc u),p1,AA (.tp AC [.int I]),AA v] st gpB=.nx [AA (.loc u),p1,AA (.tp AC [.int I]),AA v] s/\US s u l w n (R++p.rows w n I) (q+(p.rnd w n:Nat)) (a+p.ak w n):=by
 rcases zkh hp with⟨r,rfl,h1⟩|⟨a1,b,sn,d,vs,c,m,t,rs,rfl,rfl,hd,hc,hm,ht⟩
 .let⟨s,e,H2⟩:=zhz (k+10) H (by simpa [T2.rows] using hR) ∅ h1 [(I:Int)] (by simp) (λs=>by
   have:=hrow (r.pv I 0 n) (by simp[T2.rows]) (k+2) s;rw[show 10+(k+2)=k+10+2 by lia]at this;exact this) p1
  exact⟨s,e,by simpa [T2.rows,T2.rnd,T2.ak] using H2⟩
 .have hN:cnt c m t w n<1000000:=by
   have:=zeL hc hm ht w0 w1 n0 n1;erw[cnt];lia
  erw[T2.rows,T2.rnd,T2.ak]at hR hq ha hrow ⊢;let⟨s,e,H2⟩:=zeU (k+10) (a1:=a1) (b:=b) (d:=d) (s0:=.str "rounds") (sn:=sn) (zoF hv) (vs:=vs) (G:=[(I:Int)]) (by simp) (f:=λJ=>rs.map λr=>r.pv I J n) (qn:=0) (an:=0) rfl hm ht n0 n1 hN
   (λJ hJ=>zi5 (k+8) hd I J (λr hr s=>by
    have:=hrow (r.pv I J n) (zhY hJ (Fq.2 ⟨r,hr,rfl⟩)) k s;rw[show 10+k=k+8+2 by lia]at this;exact this)) hR (by simpa using hq) ∅ H
  have e:yc T (k+13) yT [.loc u,.tp a1 [.str "rounds",.tp b [.int c,.int m,.int t],sn,.tp d vs],.tp AC [.int I]] st=.ok .non s:=e;exact⟨s,zkX (k+13) H e,by simpa [D5] using H2⟩
def zkx(k:Nat)(w0:0<=w)(w1:w<=16)(n0:0<=n)(n1:n<=8)(I:Nat)(p1:Option PV):∀(vs:List PV) (ps:List T2) (st:SO) (R:List PV) (q:Int) (a:Nat) (p3:Option PV),nLs vs=AB->yaO vs=AA ps->US st u l w n R q a->R.length+(yak w n I ps).length<=4000->q+(ybw w n ps:Nat)<=4000->a+ak2 w n ps<=500000->(∀x∈yak w n I ps,ybt x) ->
  ∃s p3',yaY (yc T (k+13)) (.n 3) gpB vs [AA (.loc u),p1,AA (.tp AC [.int I]),p3] st=.nx [AA (.loc u),p1,AA (.tp AC [.int I]),p3'] s/\US s u l w n (R++yak w n I ps) (q+(ybw w n ps:Nat)) (a+ak2 w n ps)
 |[],ps,st,R,q,a,p3,_,hp,H,_,_,_,_=>by
  cases hp
  exact⟨st,p3,zD,by simpa [yak,ybw,ak2] using H⟩
 |v::vs,ps,st,R,q,a,p3,hv,hp,H,hR,hq,ha,hrow=>by
  unfold yaO at hp;split at hp
  .rename_i x y hx hy
   cases hp
   have r1:yak w n I (x::y)=x.rows w n I++yak w n I y:=by simp[yak]
   have r2:ybw w n (x::y)=x.rnd w n+ybw w n y:=by simp[ybw]
   have r3:ak2 w n (x::y)=x.ak w n+ak2 w n y:=by simp[ak2]
   rw[r1,A8]at hR;rw[r2]at hq;rw[r3]at ha;rw[r1]at hrow;rw[r1,r2,r3];let⟨s1,e1,H1⟩:=zlS k w0 w1 n0 n1 I p1 (zbG hv).1 hx H ∅ ∅ ∅ (λz hz=>hrow z (by simp[hz]));let⟨s2,p3',e2,H2⟩:=zkx k w0 w1 n0 n1 I p1 vs y s1 _ _ _ (AA v) (zbG hv).2 hy H1 (by rw[A8];lia) ∅ ∅ (λz hz=>hrow z (by simp[hz]));refine⟨s2,p3',?_,?_⟩
   .rw[zt (ρ1:=[AA (.loc u),p1,AA (.tp AC [.int I]),AA v]) rfl,e1];exact e2
   .rw[<-Bo,<-D5,show q+((x.rnd w n+ybw w n y:Nat):Int)=q+(x.rnd w n:Nat)+(ybw w n y:Nat)by lia];exact H2
  .cases hp
def zjl(k:Nat)(w0:0<=w)(w1:w<=16)(n0:0<=n)(n1:n<=8){d:Bool}{vs:List PV}{ps:List T2}(hv:nLs vs=AB)(hp:yaO vs=AA ps)(I:Nat)(hrow:∀x∈yak w n I ps,ybt x):BodyOk (k+14) u l w n d vs [] (λI=>yak w n I ps) (ybw w n ps) (ak2 w n ps) I:=by
 intro st R q a H h1 h2 h3;let⟨s,p3,e,H2⟩:=zkx k w0 w1 n0 n1 I (AA (.tp d vs)) vs ps st R q a AD hv hp H h1 h2 h3 hrow;exact⟨s,zfU (k+13) e,H2⟩
def T1.ak(w n:Int):T1->Nat
 |.row _=>0
 |.rounds c m t ps=>cnt c m t w n*(1+ak2 w n ps)+1
def ak1(w n:Int)(ps:List T1):Nat:=(ps.map (T1.ak w n)).sum
def zlP(k:Nat)(w0:0<=w)(w1:w<=16)(n0:0<=n)(n1:n<=8)(p1:Option PV){v:PV}{p:T1}(hv:nL v=AB)(hp:part1 v=AA p)(H:US st u l w n R q a)(hR:R.length+(p.rows w n).length<=4000)(hq:q+(p.rnd w n:Nat)<=4000)(ha:a+p.ak w n<=500000)(hrow:∀x∈p.rows w n,ybt x):
  ∃s,exs (yc T (k+15)) [AA (.loc u),p1,AA (.tp AC []),AA v] st gpB=.nx [AA (.loc u),p1,AA (.tp AC []),AA v] s/\US s u l w n (R++p.rows w n) (q+(p.rnd w n:Nat)) (a+p.ak w n):=by
 rcases zj3 hp with⟨r,rfl,h1⟩|⟨a1,b,sn,d,vs,c,m,t,ps,rfl,rfl,hd,hc,hm,ht⟩
 .let⟨s,e,H2⟩:=zhz (k+12) H (by simpa [T1.rows] using hR) ∅ h1 [] (by simp) (λs=>by
   have:=hrow (r.pv 0 0 n) (by simp[T1.rows]) (k+4) s;rw[show 10+(k+4)=k+12+2 by lia]at this;exact this) p1
  exact⟨s,e,by simpa [T1.rows,T1.rnd,T1.ak] using H2⟩
 .have hN:cnt c m t w n<1000000:=by
   have:=zeL hc hm ht w0 w1 n0 n1;erw[cnt];lia
  erw[T1.rows,T1.rnd,T1.ak]at hR hq ha hrow ⊢;let⟨s,e,H2⟩:=zeU (k+12) (a1:=a1) (b:=b) (d:=d) (s0:=.str "rounds") (sn:=sn) (zoF hv) (vs:=vs) (G:=[]) (by simp) (f:=λI=>yak w n I ps) (qn:=ybw w n ps) (an:=ak2 w n ps) rfl hm ht n0 n1 hN
   (λJ hJ=>zjl k w0 w1 n0 n1 (zpy hv) hd J (λz hz=>hrow z (zhY hJ hz))) hR hq ∅ H
  have e:yc T (k+15) yT [.loc u,.tp a1 [.str "rounds",.tp b [.int c,.int m,.int t],sn,.tp d vs],.tp AC []] st=.ok .non s:=e;exact⟨s,zkX (k+15) H e,by rw[<-D5];exact H2⟩
def zkD(k:Nat)(w0:0<=w)(w1:w<=16)(n0:0<=n)(n1:n<=8)(p1:Option PV):∀(vs:List PV) (ps:List T1) (st:SO) (R:List PV) (q:Int) (a:Nat) (p3:Option PV),nLs vs=AB->yaJ vs=AA ps->US st u l w n R q a->R.length+(yC w n ps).length<=4000->q+(yav w n ps:Nat)<=4000->a+ak1 w n ps<=500000->(∀x∈yC w n ps,ybt x) ->
  ∃s p3',yaY (yc T (k+15)) (.n 3) gpB vs [AA (.loc u),p1,AA (.tp AC []),p3] st=.nx [AA (.loc u),p1,AA (.tp AC []),p3'] s/\US s u l w n (R++yC w n ps) (q+(yav w n ps:Nat)) (a+ak1 w n ps)
 |[],ps,st,R,q,a,p3,_,hp,H,_,_,_,_=>by
  cases hp
  exact⟨st,p3,zD,by simpa [yC,yav,ak1] using H⟩
 |v::vs,ps,st,R,q,a,p3,hv,hp,H,hR,hq,ha,hrow=>by
  unfold yaJ at hp;split at hp
  .rename_i x y hx hy
   cases hp
   have r1:yC w n (x::y)=x.rows w n++yC w n y:=by simp[yC]
   have r2:yav w n (x::y)=x.rnd w n+yav w n y:=by simp[yav]
   have r3:ak1 w n (x::y)=x.ak w n+ak1 w n y:=by simp[ak1]
   rw[r1,A8]at hR;rw[r2]at hq;rw[r3]at ha;rw[r1]at hrow;rw[r1,r2,r3];let⟨s1,e1,H1⟩:=zlP k w0 w1 n0 n1 p1 (zbG hv).1 hx H ∅ ∅ ∅ (λz hz=>hrow z (by simp[hz]));let⟨s2,p3',e2,H2⟩:=zkD k w0 w1 n0 n1 p1 vs y s1 _ _ _ (AA v) (zbG hv).2 hy H1 (by rw[A8];lia) ∅ ∅ (λz hz=>hrow z (by simp[hz]));refine⟨s2,p3',?_,?_⟩
   .rw[zt (ρ1:=[AA (.loc u),p1,AA (.tp AC []),AA v]) rfl,e1];exact e2
   .rw[<-Bo,<-D5,show q+((x.rnd w n+yav w n y:Nat):Int)=q+(x.rnd w n:Nat)+(yav w n y:Nat)by lia];exact H2
  .cases hp
end
def zqj(k:Nat)(w n:Int):yc T (k+1) yjI [.loc 0,.int w,.int n] [.ins cU []]=.ok .non [uob w n 1 0 0,.lst []]:=by
 have hT:T yjI=AA yib:=rfl;rw[zm hT rfl rfl];ac_rfl
def zkH(w n:Int):US [uob w n 1 0 0,.lst []] 0 1 w n [] 0 0:=⟨[],⟨rfl,rfl,by decide⟩,.nil,by simp⟩
theorem StR.nl{xs rs:List PV}(h:StR xs rs):nLs xs=true:=by
 have ap:∀(a b:List PV),nLs a=AB->nLs b=AB->nLs (a++b)=true:=by
  intro a
  induction a with
  |nil=>intro b _ h;exact h
  |cons x a ih=>
   intro b h1 h2;let⟨p,q⟩:=zbG h1;rw[Aa,nLs,p,ih b q h2];rfl
 induction h with
 |nil=>rfl
 |row hv _ ih=>exact ap _ _ ih (by simp[nLs,nL,hv])
 |ask hv _ ih=>exact ap _ _ ih (by erw[nLs,nL,Bool.and_true,Cu]at hv ⊢;simpa using hv)
def zgY:yu .eq (.str "asked") (.str "row")=AA (.bl AC):=by ac_rfl
def zkd(k:Nat){b:Bool}{vs:List PV}{ps:List T1}{w n:Int}(hv:nLs vs=AB)(hp:yaJ vs=AA ps)(w0:0<=w)(w1:w<=16)(n0:0<=n)(n1:n<=8)(hR:(yC w n ps).length<=4000)(hq:yav w n ps<=4000)(ha:ak1 w n ps<=500000)(hrow:∀x∈yC w n ps,ybt x)
  (hit:∀s,yc T (k+16) yl [.tp b vs] s=.ok (.bl AB) s) (st:SO):∃xs,yc T (k+17) yjL [.tp b vs,.int w,.int n] st=.ok (.lst xs) st/\StR xs (yC w n ps):=by
 have hT:T yjL=AA yhn:=rfl;have hnl:nLs [.tp b vs,.int w,.int n]=true:=by simp[nLs,nL,hv]
 let⟨s,p3,e,xs,h,hs,_⟩:=zkD k w0 w1 n0 n1 (AA (.tp b vs)) vs ps [uob w n 1 0 0,.lst []] [] 0 0 AD hv hp (zkH w n) (by simpa using hR) ∅ ∅ hrow;have e:=zfU (k+15) e;have i0:=zqj (k+15) w n;have ih:=(zkH w n).ins (AE "go_parts");have f1:=h.fs;have fz:ydl (.loc 1) s=.ok (.lst xs) (s.set 1 .dead):=by simp[ydl,h.d]
 refine⟨xs,?_,by simpa using hs⟩;have nl:=hs.nl;rw[zc hT rfl rfl hnl];generalize PV.tp b vs=tv at *;simp! [yhn,hit,i0,ih,e,f1,fz,IC.ve32,IC.ve33,IC.ve37,ybB,newV];simp[ybq,nL,nl]
def unT:Ce:=.cmp .eq (.idx (.var 0) (.cst (.int 0))) (.cst (.str "row"))
def unE:Ce:=.idx (.var 0) (.cst (.int 1))
def zjW(k:Nat){st:SO}{xs rs:List PV}(h:StR xs rs):∀(ys b:List PV),yag (yc T k) [AD] (.n 0) unT unE ys st=.ok b st->yag (yc T k) [AD] (.n 0) unT unE (xs++ys) st=.ok (rs++b) st:=by
 induction h with
 |nil=>intro ys b e;exact e
 |@row xs rs v hv _ ih=>
  intro ys b e;have one:ybe (yc T k) [AD] (.n 0) unT unE (.tp AC [.str "row",v]) st=.ok (AA v) st:=by
   simp! [ybe,unT,unE,ix0,ix1,zdS]
  have:=ih (.tp AC [.str "row",v]::ys) (v::b) (by rw[zad,one,bd_ok,e,bd_ok];rfl);rw[Bo,Bo];exact this
 |@ask xs rs x y z hv _ ih=>
  intro ys b e;have one:ybe (yc T k) [AD] (.n 0) unT unE (.tp AC [.str "asked",x,y,z]) st=.ok AD st:=by
   simp! [ybe,unT,unE,ix0,ix1,zgY]
  have:=ih (.tp AC [.str "asked",x,y,z]::ys) b (by rw[zad,one,bd_ok,e,bd_ok];rfl);rw[Bo];exact this
theorem StR.nl2{xs rs:List PV}(h:StR xs rs):nLs rs=true:=by
 have ap:∀(a b:List PV),nLs a=AB->nLs b=AB->nLs (a++b)=true:=by
  intro a
  induction a with
  |nil=>intro b _ h;exact h
  |cons x a ih=>
   intro b h1 h2;let⟨p,q⟩:=zbG h1;rw[Aa,nLs,p,ih b q h2];rfl
 induction h with
 |nil=>rfl
 |row hv _ ih=>exact ap _ _ ih (by simp[nLs,hv])
 |ask _ _ ih=>exact ih
theorem unrolled(k:Nat){b:Bool}{vs:List PV}{ps:List T1}{w n:Int}(hv:nLs vs=AB)(hp:yaJ vs=AA ps)(w0:0<=w)(w1:w<=16)(n0:0<=n)(n1:n<=8)(hR:(yC w n ps).length<=4000)(hq:yav w n ps<=4000)(ha:ak1 w n ps<=500000)(hrow:∀x∈yC w n ps,ybt x)
  (hit:∀s,yc T (k+16) yl [.tp b vs] s=.ok (.bl AB) s) (st:SO):yc T (k+18) yjK [.tp b vs,.int w,.int n] st=.ok (.tp AC (yC w n ps)) st:=by
 have hT:T yjK=AA yhm:=rfl;have hnl:nLs [.tp b vs,.int w,.int n]=true:=by simp[nLs,nL,hv]
 let⟨xs,e,hs⟩:=zkd k hv hp w0 w1 n0 n1 hR hq ha hrow hit [];have ec:=zjW (k+17) (st:=[]) hs [] [] zbi;rw[Ap,Ap]at ec;have ec:yag (yc T (k+17)) [AD] (.n 0) (.cmp .eq (.idx (.var 0) (.cst (.int 0))) (.cst (.str "row"))) (.idx (.var 0) (.cst (.int 1))) xs []=_:=ec;have nl:=hs.nl2;have lr:=λst=>zcv (yC w n ps) ∅ st;have ht:∀st,yar .tuple st [.lst (yC w n ps)]=AA (.tp AC (yC w n ps)):=λ_=>rfl;rw[zc hT rfl rfl hnl];generalize PV.tp b vs=tv,yC w n ps=rows at *;simp! [yhm,e,ec,lr,ht];simp[ybq,nL,nl]
def zg5(w n:Int):∀ps:List T1,nLs (yC w n ps)=true:=by
 have ap:∀(a b:List PV),nLs a=AB->nLs b=AB->nLs (a++b)=true:=by
  intro a
  induction a with
  |nil=>intro b _ h;exact h
  |cons x a ih=>
   intro b h1 h2;let⟨p,q⟩:=zbG h1;rw[Aa,nLs,p,ih b q h2];rfl
 have up:∀(f:Nat->List PV) (N:Nat),(∀i,nLs (f i)=AB)->nLs (upTo f N)=true:=by
  intro f N h
  induction N with
  |zero=>rfl
  |succ N ih=>exact ap _ _ ih (h N)
 have mp:∀(rs:List Rs) (I J:Int),nLs (rs.map λr=>r.pv I J n)=true:=by
  intro rs I J
  induction rs with
  |nil=>rfl
  |cons r rs ih=>rw[AL,nLs,zcl,ih];rfl
 have two:∀(I:Nat) (ps:List T2),nLs (yak w n I ps)=true:=by
  intro I ps
  induction ps with
  |nil=>rfl
  |cons p ps ih=>
   rw[yak,BP];refine ap _ _ ?_ ih
   cases p with
   |row r=>simp[T2.rows,nLs,zcl]
   |rounds c m t rs=>exact up _ _ λJ=>mp rs _ _
 intro ps
 induction ps with
 |nil=>rfl
 |cons p ps ih=>
  rw[yC,BP];refine ap _ _ ?_ ih
  cases p with
  |row r=>simp[T1.rows,nLs,zcl]
  |rounds c m t ps=>exact up _ _ λI=>two I ps
def zhX(k:Nat){deed:PV}(hd:nL deed=AB){b:Bool}{vs:List PV}{ps:List T1}{w n:Int}(ht:∀s,yc T (k+18) yg3 [deed] s=.ok (.tp b vs) s)(hv:nLs vs=AB)(hp:yaJ vs=AA ps)(w0:0<=w)(w1:w<=16)(n0:0<=n)(n1:n<=8)(hR:(yC w n ps).length<=4000)(hq:yav w n ps<=4000)(ha:ak1 w n ps<=500000)(hrow:∀x∈yC w n ps,ybt x)
  (hit:∀s,yc T (k+16) yl [.tp b vs] s=.ok (.bl AB) s) (st:SO):yc T (k+19) yhW [deed,.int w,.int n] st=.ok (.tp AC (yC w n ps)) st:=by
 have hT:T yhW=AA ygA:=rfl;have hnl:nLs [deed,.int w,.int n]=true:=by simp[nLs,nL,hd]
 have e:=unrolled k hv hp w0 w1 n0 n1 hR hq ha hrow hit [];have nl:=zg5 w n ps;rw[zc hT rfl rfl hnl];generalize PV.tp b vs=tv,yC w n ps=rows at *;simp! [ygA,ht,e];simp[ybq,nL,nl]
def Dg(W:Int)(M:Mem)(c n:Nat):Prop:=∀i:Nat,i<n->0<=M c i/\M c i<W
theorem Dg.mono{W:Int}{M:Mem}{c n:Nat}(h:Dg W M c (n+1)):Dg W M c n:=λi hi=>h i ∅
def zn{W:Int}{M M':Mem}{c c':Nat}:∀n,(∀i:Nat,i<n->M c i=M' c' i)->yw W M c n=yw W M' c' n
 |0,_=>rfl
 |n+1,h=>by rw[yw,yw,zn n λi hi=>h i ∅,h n ∅]
def zbA{W:Int}(hW:0<W){M:Mem}{c:Nat}:∀n,Dg W M c n->0<=yw W M c n/\yw W M c n<W^n
 |0,_=>by simp[yw]
 |n+1,h=>by
  let⟨a,b⟩:=zbA hW n h.mono;let⟨c0,c1⟩:=h n ∅;have hp:0<W^n:=Ab hW;have h1:0<=M c n*W^n:=Bp c0 ∅;have h2:M c n*W^n<=(W-1)*W^n:=BC ∅ ∅;rw[Bw,BJ]at h2;rw[yw,Af,A6 (W^n) W];lia
def zdg{W:Int}(hW:0<W){M:Mem}{c:Nat}:∀n,Dg W M c n->(yw W M c n=0 ↔ ∀i:Nat,i<n->M c i=0)
 |0,_=>by simp[yw]
 |n+1,h=>by
  have ih:=zdg hW n h.mono;let⟨a,b⟩:=zbA hW n h.mono;let⟨c0,c1⟩:=h n ∅;have hp:0<W^n:=Ab hW;have h1:0<=M c n*W^n:=Bp c0 ∅;rw[yw];constructor
  .intro h2 i hi;have h3:M c n*W^n=0:=by omega
   rcases CJ i n with z|z
   .exact ih.1 ∅ i z
   .rw[show i=n by lia];rcases GZ.1 h3 with e|e
    .exact e
    .lia
  .intro h2;rw[h2 n ∅,ih.2 λi hi=>h2 i ∅];simp
def zex{w:Nat}(hw:0<w){M:Mem}{c n:Nat}(h:Dg (2^w) M c (n+1)):tb w (M c n)=if (2^w:Int)^(n+1)<=2*yw (2^w) M c (n+1)then 1 else 0:=by
 let⟨c0,c1⟩:=h n ∅;let⟨a,b⟩:=zbA (Ab ∅) n h.mono;rw[ziJ hw c0 c1,yw];obtain⟨v,rfl⟩:∃v,w=v+1:=⟨w-1,by lia⟩;have hp:0<((2:Int)^(v+1))^n:=Ab (Ab ∅);rw[Af ((2:Int)^(v+1)) n];generalize ((2:Int)^(v+1))^n=P,hV:yw (2^(v+1)) M c n=V at *;rw[Af]at *;generalize (2:Int)^v=H,M c (n:Int)=d at *
 by_cases hd:H<=d
 .have h1:=BC hd (show 0<=P by lia);have h2:P*(H*2)=2*(H*P):=by rw[A6 P,BS,A6 2 P,<-BS,A6 2]
  rw[if_pos ∅,if_pos (by rw[h2];lia)]
 .have h1:=BC (show d<=H-1 by lia) (show 0<=P by lia);rw[Bw,BJ]at h1;have h2:P*(H*2)=2*(H*P):=by rw[A6 P,BS,A6 2 P,<-BS,A6 2]
  rw[if_neg ∅,if_neg (by rw[h2];lia)]
def zgi{W:Int}(M:Mem)(k:Int)(hS:0<=M 115 0):∀n,(∀i:Nat,i<n->0<=M 99 i) ->
  (yK W (yS (λi=>Rw.any cS cS (99,i)) n) M k).2=k/\(∀d j,d≠115->(yK W (yS (λi=>Rw.any cS cS (99,i)) n) M k).1 d j=M d j)/\0<=(yK W (yS (λi=>Rw.any cS cS (99,i)) n) M k).1 115 0/\((yK W (yS (λi=>Rw.any cS cS (99,i)) n) M k).1 115 0=0 ↔ M 115 0=0/\∀i:Nat,i<n->M 99 i=0)
 |0,_=>⟨rfl,λ_ _ _=>rfl,hS,by simp[yS,yK]⟩
 |n+1,h=>by
  let⟨h1,h2,h3,h4⟩:=zgi (W:=W) M k hS n λi hi=>h i ∅;rw[yS,zH];generalize yK W (yS (λi=>Rw.any cS cS (99,i)) n) M k=R at *;let⟨M1,k'⟩:=R;simp only at *;have hb:=h n ∅;erw[yK,stepM,rd,wr,cS,h2 99 n ⋯];have hz:=ziU h3 hb;refine⟨h1,λd j hd=>?_,?_,?_⟩
  .unfold upd;rw[if_neg ∅,h2 d j hd]
  .unfold upd;rw[if_pos ⟨rfl,rfl⟩];obtain⟨x,hx⟩:∃x:Nat,M1 115 0=x:=⟨(M1 115 0).toNat,by lia⟩;obtain⟨y,hy⟩:∃y:Nat,M 99 n=y:=⟨(M 99 n).toNat,by lia⟩;rw[hx,hy,zdU];lia
  .unfold upd;rw[if_pos ⟨rfl,rfl⟩,hz,h4];constructor
   .rintro⟨⟨a,b⟩,c⟩
    refine⟨a,λi hi=>?_⟩;rcases CJ i n with z|z
    .exact b i z
    .rw[show i=n by lia];exact c
   .rintro⟨a,b⟩
    exact⟨⟨a,λi hi=>b i ∅⟩,b n ∅⟩
def zam{W:Int}{r:Rw}{rs:List Rw}{M:Mem}{k:Int}:yK W (r::rs) M k=yK W rs (stepM W M k r).1 (stepM W M k r).2:=rfl
def zfw(b:Bool):0<=bi b/\bi b<=1:=by cases b<;>decide
def zjR{w:Nat}(hw:1<w){n:Nat}(M:Mem)(k:Int)(hc:Dg (2^w) M 99 (n+1))(hz:M 122 0=0):
  (∀j,(yK (2^w) (yac (n+1)) M k).1 99 j=M 99 j)/\(yK (2^w) (yac (n+1)) M k).1 109 0=M 109 0/\(yK (2^w) (yac (n+1)) M k).1 109 1=M 109 1 /\
  (yK (2^w) (yac (n+1)) M k).1 109 2=bi (yw (2^w) M 99 (n+1)==0)/\(yK (2^w) (yac (n+1)) M k).1 109 3=bi (decide ((2^w:Int)^(n+1)<=2*yw (2^w) M 99 (n+1))):=by
 have hW:(0:Int)<2^w:=Ab ∅;have hW4:(4:Int)<=2^w:=by
  have h:(2:Nat)^2<=2^w:=Am ∅ ∅;have h2:=pw w;lia
 let⟨h1,h2,h3,h4⟩:=zgi (W:=2^w) (wr M cS 0) k (by simp[wr,upd]) (n+1) (λi hi=>by simp[wr,upd];exact(hc i hi).1);have e:yac (n+1)=.set cS 0::(yS (λi=>Rw.any cS cS (99,i)) (n+1)++[.ask cS,.set (109,2) 1,.less (109,2) (109,2) cZ,.twice cT (99,((n+1:Nat):Int)-1),.sum (109,3) cZ cZ]):=rfl;have hst:stepM (2^w) M k (.set cS 0)=(wr M cS 0,k):=rfl;rw[e,zam,hst,zH];generalize yK (2^w) (yS (λi=>Rw.any cS cS (99,i)) (n+1)) (wr M cS 0) k=R at *;let⟨M1,k'⟩:=R;simp only at *;subst h1;have g:∀d j,d≠115->M1 d j=M d j:=λd j hd=>by
  rw[h2 d j hd];erw[wr,upd,cS];rw[if_neg ∅]
 have hn:((n+1:Nat):Int)-1=n:=by lia
 have h5:M1 115 0=0 ↔ yw (2^w) M 99 (n+1)=0:=by
  rw[h4,zdg hW (n+1) hc];constructor
  .rintro⟨_,b⟩ i hi
   have:=b i hi;simpa [wr,upd] using this
  .intro b;exact⟨by simp[wr,upd],λi hi=>by simpa [wr,upd] using b i hi⟩
 have ht:=zex ∅ hc;have hb:bi (!(M1 115 0==0))=1-bi (yw (2^w) M 99 (n+1)==0):=by
  by_cases hv:yw (2^w) M 99 (n+1)=0
  .rw[h5.2 hv,hv];rfl
  .have:¬M1 115 0=0:=λz=>hv (h5.1 z);rw[beq_eq_false_iff_ne.2 this,beq_eq_false_iff_ne.2 hv];rfl
 have hbr:=zfw (yw (2^w) M 99 (n+1)==0);rw[hn];erw[yK,stepM,rd,wr,upd,cS,cT,cZ];rw[hb];generalize bi (yw (2^w) M 99 (n+1)==0)=v at *;have hm:bi (decide ((1:Int)-0-(1-v)<0))=0:=by
  rw[decide_eq_false ∅];rfl
 have hm2:(1-0-(1-v))%(2:Int)^w=v:=by
  rw[show 1-0-(1-v)=v by lia];exact Ak ∅ ∅
 have hT:(2*M 99 n+0)/2^w=bi (decide ((2^w:Int)^(n+1)<=2*yw (2^w) M 99 (n+1))):=by
  rw[Bq];show tb w (M 99 n)=_;rw[ht]
  by_cases q:(2^w:Int)^(n+1)<=2*yw (2^w) M 99 (n+1)
  .rw[if_pos q,decide_eq_true q];rfl
  .rw[if_neg q,decide_eq_false q];rfl
 have hTr:=zfw (decide ((2^w:Int)^(n+1)<=2*yw (2^w) M 99 (n+1)));erw[DZ,false_and,if_false,Int.reduceEq,and_false,and_self,if_true,g _ _ (show (99:Nat)≠115 by decide),g _ _ (show (109:Nat)≠115 by decide),g _ _ (show (122:Nat)≠115 by decide),hz,hm,hm2,hT];refine⟨λj=>trivial,trivial,trivial,trivial,?_⟩;rw[show (0:Int)+0+bi (decide ((2^w:Int)^(n+1)<=2*yw (2^w) M 99 (n+1)))=bi (decide ((2^w:Int)^(n+1)<=2*yw (2^w) M 99 (n+1)))by lia];exact Ak ∅ ∅
def zce{c d:Nat}(h:d≠c)(j:Int):∀(vs:List Int) (i:Nat) (M:Mem),yay c i vs M d j=M d j
 |[],_,_=>rfl
 |v::vs,i,M=>by
  rw[yay,zce h j vs,upd,if_neg ∅]
def zdt{c:Nat}(j:Int):∀(vs:List Int) (i:Nat) (M:Mem),j<i->yay c i vs M c j=M c j
 |[],_,_,_=>rfl
 |v::vs,i,M,h=>by
  rw[yay,zdt j vs (i+1) _ ∅,upd,if_neg ∅]
def zeA{c:Nat}:∀(vs:List Int) (i:Nat) (M:Mem) (k:Nat),k<vs.length->yay c i vs M c ((i+k:Nat):Int)=vs.getD k 0
 |[],_,_,_,h=>by simp at h
 |v::vs,i,M,0,h=>by
  rw[yay,zdt _ vs (i+1) _ ∅,upd,if_pos ⟨rfl,by simp⟩];rfl
 |v::vs,i,M,k+1,h=>by
  rw[yay,show i+(k+1)=i+1+k by lia,zeA vs (i+1) _ k (by simpa using h)];rfl
def zdD{W:Int}(hW:0<W):∀(n:Nat) (x:Int) (k:Nat),k<n->(yg W n x).getD k 0=x/W^k%W
 |0,_,_,h=>by lia
 |n+1,x,0,h=>by simp[yg]
 |n+1,x,k+1,h=>by
  rw[yg];show (yg W n (x/W)).getD k 0=_;rw[zdD hW n (x/W) k ∅,Af,A6 (W^k),Bi ∅]
def zeB{W x:Int}(hW:0<W)(n:Nat):x%W^(n+1)=x%W^n+x/W^n%W*W^n:=by
 have hp:0<W^n:=Ab hW;rw[Af];generalize W^n=P at *;have e1:=BN x P;have e2:=BN (x/P) W;have a0:=Aq x (show P≠0 by lia);have a1:=A9 x hp;have b0:=Aq (x/P) (show W≠0 by lia);have b1:=A9 (x/P) hW;generalize x%P=r,x/P=q at *;generalize q%W=s,q/W=t at *;subst e2;have e3:x=r+s*P+P*W*t:=by
  rw[<-e1,By,A6 P s,BS P W t];lia
 have c1:s*P<=(W-1)*P:=BC ∅ ∅;have c0:0<=s*P:=Bp b0 ∅;rw[Bw,BJ]at c1;rw[e3,Bn,Ak ∅ (by rw[A6 P W];lia)]
def zeE{W:Int}(hW:0<W){M:Mem}{c:Nat}{x:Int}:∀n,(∀i:Nat,i<n->M c i=x/W^i%W)->yw W M c n=x%W^n
 |0,_=>by simp[yw,Int.emod_one]
 |n+1,h=>by rw[yw,zeE hW n λi hi=>h i ∅,h n ∅,zeB hW]
section
variable {W:Int}(n:Nat)(x y:Int)
def zjF{d:Nat}(h1:d≠97)(h2:d≠98)(j:Int):yaD W n x y d j=0:=by
 rw[yaD,zce h2,zce h1];rfl
variable (hW:0<W)
include hW
def zn4{i:Nat}(h:i<n):yaD W n x y 97 i=x/W^i%W:=by
 rw[yaD,zce ⋯];have:=zeA (c:=97) (yg W n x) 0 M0 i (by rw[z4];exact h);rw[Br]at this;rw[this,zdD hW n x i h]
def zop{i:Nat}(h:i<n):yaD W n x y 98 i=y/W^i%W:=by
 rw[yaD];have:=zeA (c:=98) (yg W n y) 0 (yay 97 0 (yg W n x) M0) i (by rw[z4];exact h);rw[Br]at this;rw[this,zdD hW n y i h]
def znT:Dg W (yaD W n x y) 97 n:=λi hi=>by
 rw[zn4 n x y hW hi];exact⟨Aq _ ∅,A9 _ hW⟩
def zon:Dg W (yaD W n x y) 98 n:=λi hi=>by
 rw[zop n x y hW hi];exact⟨Aq _ ∅,A9 _ hW⟩
def znc(h0:0<=x)(h1:x<W^n):yw W (yaD W n x y) 97 n=x:=by
 rw[zeE hW n λi hi=>zn4 n x y hW hi,Ak h0 h1]
def zm7(h0:0<=y)(h1:y<W^n):yw W (yaD W n x y) 98 n=y:=by
 rw[zeE hW n λi hi=>zop n x y hW hi,Ak h0 h1]
end
def zlZ{X:Fl}{v:PV}{st:SO}(h:ybq [] X=.ok v []):ybq st X=.ok v st:=by
 cases X with
 |rt u s=>
  erw[ybq]at h ⊢
  by_cases c:nL u=AB
  .rw[if_pos c]at h ⊢;cases h;rfl
  .rw[if_neg c]at h;cases h
 |nx ρ s=>erw[ybq]at h ⊢;cases h;rfl
 |_=>cases h
def zbL{k f:Nat}{fn:IC.Fn}{args:List PV}{v:PV}(hT:T f=AA fn)(hp:fn.pure=AB)(hl:args.length=fn.np)(hn:nLs args=AB)(h:yc T (k+1) f args []=.ok v [])(st:SO):yc T (k+1) f args st=.ok v st:=by
 rw[zc hT hp hl hn]at h ⊢;exact zlZ h
def ybp(W:Int):List Rw->Mem->Int->Prop
 |[],_,_=>True
 |r::rs,M,k=>((∀t x,r=.half t x->0<=rd M x/\rd M x<W/\0<=k/\k<2)/\∀a b x y,r=.times a b x y->(rd M x).natAbs<18446744073709551616)/\ybp W rs (stepM W M k r).1 (stepM W M k r).2
def rnA:Css:=match yD.body with
 |.cons (.for _ _ b) _=>b
 |x=>x
def rnB:Css:=match yD.body with
 |.cons _ (.cons (.for _ _ b) _)=>b
 |x=>x
theorem rnS:yD.body=.cons (.for (.n 2) (.seq (.var 1)) rnA) (.cons (.for (.n 2) (.seq (.var 1)) rnB) .nil):=rfl
def zj5(r:Rw):nLs [yM r]=true:=by cases r<;>rfl
section
variable {m l n:Nat}
def zdf(k:Nat){v:Option PV}(st:SO):∀(rs:List Rw),(∀r∈rs,yc T (k+1) yA [yM r] []=.ok .non [])->∀p2,∃q2,yaY (yc T (k+1)) (.n 2) rnA (rs.map yM) [AA (.loc m),v,p2] st=.nx [AA (.loc m),v,q2] st
 |[],h,p2=>⟨p2,by rw[Ai,zD]⟩
 |r::rs,h,p2=>by
  let⟨q2,e⟩:=zdf k (v:=v) st rs (λq hq=>h q (AQ _ hq)) (AA (yM r));have e1:=zbL (f:=yA) (fn:=ygC) rfl rfl rfl (zj5 r) (h r (by simp)) st;refine⟨q2,?_⟩;rw[AL,zt (ρ1:=[AA (.loc m),v,AA (yM r)]) rfl];generalize yM r=row at *;have hb:exs (yc T (k+1)) [AA (.loc m),v,AA row] st rnA=.nx [AA (.loc m),v,AA row] st:=by
   simp! [rnA,yD,e1]
  rw[hb];exact e
def ziw(k:Nat)(hn:n<=100)(hn1:1<=n){v:Option PV}:∀(rs:List Rw) (M:Mem) (mk:Int) (st:SO) (L:Nat) (p2:Option PV),MM st m l n M mk L->L+2*rs.length<999999->ybp (2^n) rs M mk ->
  ∃st' q2,MM st' m l n (yK (2^n) rs M mk).1 (yK (2^n) rs M mk).2 (L+2*rs.length)/\(∀q,q≠m->q≠l->st'[q]?=st[q]?)/\st'.length=st.length/\yaY (yc T (k+6)) (.n 2) rnB (rs.map yM) [AA (.loc m),v,p2] st=.nx [AA (.loc m),v,q2] st'
 |[],M,mk,st,L,p2,h,hL,hh=>⟨st,p2,h,λ_ _ _=>rfl,rfl,by rw[Ai,zD]⟩
 |r::rs,M,mk,st,L,p2,h,hL,hh=>by
  erw[AX]at hL;let⟨s1,h1,o1,l1,e1⟩:=zny k h ∅ hn hn1 r hh.1.1 hh.1.2;let⟨s2,q2,h2,o2,l2,e2⟩:=ziw k hn hn1 (v:=v) rs _ _ s1 (L+2) (AA (yM r)) h1 ∅ hh.2;refine⟨s2,q2,?_,λq a b=>(o2 q a b).trans (o1 q a b),l2.trans l1,?_⟩
  .rw[yK,AX,show L+2*(rs.length+1)=L+2+2*rs.length by lia];exact h2
  .have ih:=h.ins (AE "go_row");rw[AL,zt (ρ1:=[AA (.loc m),v,AA (yM r)]) rfl];generalize yM r=row at *;have hb:exs (yc T (k+6)) [AA (.loc m),v,AA row] st rnB=.nx [AA (.loc m),v,AA row] s1:=by
    simp! [rnB,yD,ih,e1,IC.ve37]
   rw[hb];exact e2
def zi7(k:Nat)(hn:n<=100)(hn1:1<=n){rs:List Rw}{M:Mem}{mk:Int}{st:SO}{L:Nat}(h:MM st m l n M mk L)(hL:L+2*rs.length<999999)(hh:ybp (2^n) rs M mk)(hA:∀r∈rs,yc T (k+6) yA [yM r] []=.ok .non []):
  okM (yc T (k+7) yiz [.loc m,.tp AC (rs.map yM)] st) st m l n (yK (2^n) rs M mk).1 (yK (2^n) rs M mk).2 (L+2*rs.length):=by
 have hT:T yiz=AA ⟨2,3,AC,yD.body⟩:=rfl;let⟨q2,e1⟩:=zdf (m:=m) (k+5) (v:=AA (.tp AC (rs.map yM))) st rs hA AD;let⟨s2,q3,h2,o2,l2,e2⟩:=ziw k hn hn1 (v:=AA (.tp AC (rs.map yM))) rs M mk st L q2 h hL hh;refine⟨s2,h2,o2,l2,?_⟩;rw[zm hT rfl rfl];show outI (exs (yc T (k+6)) [AA (.loc m),AA (.tp AC (rs.map yM)),AD] st yD.body)=_;rw[rnS,xs_cons,x_for];generalize rs.map yM=rows at *;simp! [e1,e2];rfl
def ziI:([97,98,99,100,109].all λc=>(C8 9).all λi=>isOk (yc T 8 yiB [.str ⟨#[c]⟩,.int (i:Nat)] []) (yN c (i:Nat)))=true:=by decide +kernel
theorem known(k:Nat){c i:Nat}(hc:c∈[97,98,99,100,109])(hi:i<9)(st:SO):yc T (8+k) yiB [.str ⟨#[c]⟩,.int (i:Int)] st=.ok (yN c i) st:=by
 have h:=Bg.1 ziI c hc;have h:=Bg.1 h i (by simpa using hi);have h:=zak (zdH h) k;rw[show 8+k=7+k+1 by lia]at h ⊢;exact zbL (f:=yiB) (fn:=yie) rfl rfl rfl rfl h st
def zqk(k:Nat){st:SO}{L:Nat}{w mk:Int}{M:Mem}(h:MM st m l w M mk L){c i:Nat}(hc:c∈[97,98,99,100,109])(hi:i<9):yc T (9+k) yY [.loc m,.str ⟨#[c]⟩,.int (i:Int)] st=.ok (.int (M c i)) st:=by
 have hT:T yY=AA yhA:=rfl;have e1:=known k hc hi st;have e2:yc T (8+k) yz [.loc m,yN c i] st=.ok (.int (M c i)) st:=by
  rw[show 8+k=7+k+1 by lia];exact zcC (7+k) h (c,(i:Int))
 have ih:=h.ins (AE "held_in");rw[show 9+k=8+k+1 by lia,zm hT rfl rfl];generalize yN c i=q at *;simp! [yhA,ih,e1,e2,zbC,IC.ve37]
def zeZ(k:Nat)(v lo hi:Int)(h1:lo<=v)(h2:v<=hi)(st:SO):yc T (k+1) yg2 [.int v,.int lo,.int hi] st=.ok (.bl AB) st:=by
 have hT:T yg2=AA yeT:=rfl;rw[zc hT rfl rfl rfl];have e1:yaM (.int v) [.int]=AA (.bl AB):=rfl;have e2:yaM (.int v) [.bool]=AA (.bl AC):=rfl;simp! [yeT,e1,e2,decide_eq_true h1,decide_eq_true h2];rfl
def zql(k:Nat)(hn:n<=100){st:SO}{L:Nat}{mk:Int}{M:Mem}(h:MM st m l n M mk L)(hL:L<999999){c i:Nat}(hc:c∈[97,98,99,100,109])(hi:i<9){v:Int}(v0:0<=v)(v1:v<2^n):
  okM (yc T (9+k) yjM [.loc m,.str ⟨#[c]⟩,.int (i:Int),.int v] st) st m l n (upd M c i v) mk (L+1):=by
 have hT:T yjM=AA yhz:=rfl;have e1:=known k hc hi st;have e2:yc T (8+k) yio [.int n] st=.ok (.int (2^n-1)) st:=by rw[show 8+k=7+k+1 by lia];exact highest (7+k) n hn st
 have e3:yc T (8+k) yg2 [.int v,.int 0,.int (2^n-1)] st=.ok (.bl AB) st:=by rw[show 8+k=7+k+1 by lia];exact zeZ (7+k) v 0 (2^n-1) v0 ∅ st
 let⟨s1,d1,⟨o,ho⟩,h1⟩:=h.sd hL (c,(i:Int)) v;refine⟨s1,h1,λq a b=>by rw[ho,AM (BE b)],by simp[ho],?_⟩;have d1:yba st (.loc l) (yN c i) (.int v)=AA s1:=d1;rw[show 9+k=8+k+1 by lia,zm hT rfl rfl];generalize yN c i=q at *;simp! [yhz,e1,h.fw,e2,e3,h.fd,zga,d1,zal,IC.ve32];rfl
end
def zqm{v:PV}:ybM sw v []=[(sw,v)]:=rfl
def zqn{a v:PV}:ybM sws v [(sw,a)]=[(sw,a),(sws,v)]:=by ac_rfl
def zqo{a b v:PV}:ybM smk v [(sw,a),(sws,b)]=[(sw,a),(sws,b),(smk,v)]:=by ac_rfl
def zqp(k:Nat)(w:Int)(st:SO):yc T (k+1) yiy [.loc st.length,.int w] (st++[.ins cM []])=.ok .non (st++[mob w (st.length+1) 0]++[.dct AB []]):=by
 have hT:T yiy=AA yhy:=rfl;have g0:(st++[Ob.ins cM []])[st.length]?=AA (.ins cM []):=by simp
 have s1:ya0 cM (st++[Ob.ins cM []]) (.loc st.length) sw (.int w)=AA (st++[.ins cM [(sw,.int w)]]):=by
  erw[ya0,g0];rw[if_pos ⟨trivial,by simp⟩,zqm];simp
 have g1:(st++[Ob.ins cM [(sw,.int w)]]++[Ob.dct AB []])[st.length]?=AA (.ins cM [(sw,.int w)]):=by simp
 have s2:ya0 cM (st++[Ob.ins cM [(sw,.int w)]]++[Ob.dct AB []]) (.loc st.length) sws (.loc (st.length+1))=AA (st++[.ins cM [(sw,.int w),(sws,.loc (st.length+1))]]++[.dct AB []]):=by
  erw[ya0,g1];rw[if_pos ⟨trivial,by simp⟩,zqn];simp
 have g2:(st++[Ob.ins cM [(sw,.int w),(sws,.loc (st.length+1))]]++[Ob.dct AB []])[st.length]?=AA (.ins cM [(sw,.int w),(sws,.loc (st.length+1))]):=by simp
 have s3:ya0 cM (st++[Ob.ins cM [(sw,.int w),(sws,.loc (st.length+1))]]++[Ob.dct AB []]) (.loc st.length) smk (.int 0)=AA (st++[mob w (st.length+1) 0]++[.dct AB []]):=by
  erw[ya0,g2];rw[if_pos ⟨trivial,by simp⟩,zqo];simp[mob]
 have hd:∀(ρ:IC.Env),ev (yc T k) ρ (st++[Ob.ins cM [(sw,.int w)]]) (.dict0 AB)=.ok (.loc (st.length+1)) (st++[Ob.ins cM [(sw,.int w)]]++[.dct AB []]):=λρ=>by
  erw[ev,A8,DQ]
 rw[zm hT rfl rfl];erw[yhy,xs_cons,zfI,hd];have hlen:(st++[Ob.ins cM [(sw,.int w)]]).length=st.length+1:=by simp
 simp! [s1,zal,hlen,s2,s3];rfl
def zeX(W:Int)(hW:0<W)(x:Int):∀(n a:Nat),(yo n (a:Int) 1).map (λp=>match p with | .int j=>PV.int (x/W^j.toNat%W)|q=>q)=(yg W n (x/W^a)).map .int
 |0,a=>rfl
 |n+1,a=>by
  have h:=zeX W hW x n (a+1);rw[yo,AL,yg,AL]
  congr 1
  .rw[show ((a:Int)+1)=((a+1:Nat):Int)by lia,h,Af,Bi (Ft (Ab hW))]
def zl5(n:Nat)(hn:n<=1000):yq .shl (.int 1) (.int (n:Int))=AA (.int (2^n)):=by
 erw[yq,binI];rw[if_pos ⟨by lia,by lia,by decide⟩];simp
def zdb(a b:Nat)(ha:a<=1000):yq .mul (.int (a:Int)) (.int (b:Int))=AA (.int ((a*b:Nat):Int)):=by
 have h:yaB (a:Int) (b:Int)=true:=by
  erw[yaB,Cy,decide_eq_true_eq];exact .inl (by simp;lia)
 erw[yq,binI,h,if_true];simp
theorem lowest(k:Nat)(x:Int)(w n:Nat)(hw:w<=16)(hn:n<=8)(st:SO):yc T (k+1) yk [.int x,.int w,.int n] st=.ok (.tp AC ((yg (2^w) n x).map .int)) st:=by
 have hT:T yk=AA yhG:=rfl;have e1:=zl5 w ∅;have hr:=zbs n ∅;have hc:yag (yc T k) [AD,AA (.int (2^w-1)),AA (.int x),AA (.int w)] (.n 0) (.cst (.bl AB)) (.bin .band (.bin .shr (.var 2) (.bin .mul (.var 3) (.var 0))) (.var 1)) (yo n 0 1) []=.ok ((yg (2^w) n x).map .int) []:=by
  have h:=zeX (2^w) (Ab ⋯) x n 0;rw[El,Gr]at h;rw[<-h];refine zfo _ λp hp=>?_;obtain⟨j,hj,rfl⟩:∃j:Nat,j<n/\p=.int (j:Int):=by
   have:∀(n a:Nat) (p:PV),p∈yo n (a:Int) 1->∃j:Nat,a<=j/\j<a+n/\p=.int (j:Int):=by
    intro n
    induction n with
    |zero=>intro a p h;cases h
    |succ n ih=>
     intro a p h;rw[yo]at h;rcases AR.1 h with rfl|h
     .exact⟨a,AT _,by lia,rfl⟩
     .let⟨j,h1,h2,h3⟩:=ih (a+1) p (by rw[show ((a+1:Nat):Int)=(a:Int)+1 by lia];exact h);exact⟨j,by lia,by lia,h3⟩
   let⟨j,_,h2,h3⟩:=this n 0 p hp;exact⟨j,by lia,h3⟩
  have m1:=zdb w j ∅;have s1:yq .shr (.int x) (.int ((w*j:Nat):Int))=AA (.int (x/2^(w*j))):=by
   erw[yq,binI];rw[if_pos ∅,CV]
  have b1:=band (x/2^(w*j)) (2^w-1);rw[zdW (n:=w) (x/2^(w*j))]at b1;simp! [ybe,m1,s1,b1];rw[CV,<-FF]
 rw[zc hT rfl rfl rfl];simp! [yhG,e1,hr,hc];rw[zcv _ (by simp[z4];lia)];have ht:yar .tuple [] [.lst ((yg (2^w) n x).map .int)]=AA (.tp AC ((yg (2^w) n x).map .int)):=rfl;simp! [ht];simp[ybq,nL,noLocs_ints]
def zbk{W:Int}(hW:0<W):∀(n:Nat) (x:Int),∀v∈yg W n x,0<=v/\v<W
 |0,x,v,h=>by cases h
 |n+1,x,v,h=>by
  rw[yg]at h;rcases AR.1 h with rfl|h
  .exact⟨Aq _ ∅,A9 _ hW⟩
  .exact zbk hW n _ v h
def mwB:Css:=match yp.body with
 |.cons _ (.cons (.for _ _ b) _)=>b
 |x=>x
def mwC:Css:=match mwB with
 |.cons (.for _ _ b) _=>b
 |x=>x
section
variable {m l n:Nat}
def zfS(k:Nat)(hn:n<=100){c:Nat}(hc:c∈[97,98,99,100,109]){p0 p1 p2 p3 p6:Option PV}:∀(ws:List Int) (i:Nat) (M:Mem) (st:SO) (L:Nat) (p7 p8:Option PV),(∀v∈ws,0<=v/\v<2^n)->i+ws.length<=9->MM st m l n M 0 L->L+ws.length<999999 ->
  ∃st' q7 q8,MM st' m l n (yay c i ws M) 0 (L+ws.length)/\(∀q,q≠m->q≠l->st'[q]?=st[q]?)/\st'.length=st.length /\
   yaY (yc T (9+k)) (.t [7,8]) mwC (yV i (ws.map .int)) [p0,p1,p2,p3,AA (.loc m),AA (.str ⟨#[c]⟩),p6,p7,p8] st=.nx [p0,p1,p2,p3,AA (.loc m),AA (.str ⟨#[c]⟩),p6,q7,q8] st'
 |[],i,M,st,L,p7,p8,hv,hi,h,hL=>⟨st,p7,p8,h,λ_ _ _=>rfl,rfl,by rw[Ai,yV,zD]⟩
 |v::ws,i,M,st,L,p7,p8,hv,hi,h,hL=>by
  erw[AX]at hi hL;let⟨v0,v1⟩:=hv v (by simp);let⟨s1,h1,o1,l1,e1⟩:=zql k hn h ∅ hc (i:=i) ∅ v0 v1;let⟨s2,q7,q8,h2,o2,l2,e2⟩:=zfS k hn hc (p0:=p0) (p1:=p1) (p2:=p2) (p3:=p3) (p6:=p6) ws (i+1) (upd M c i v) s1 (L+1) (AA (.int i)) (AA (.int v)) (λu hu=>hv u (AQ _ hu)) ∅ h1 ∅;refine⟨s2,q7,q8,?_,λq a b=>(o2 q a b).trans (o1 q a b),l2.trans l1,?_⟩
  .rw[yay,AX,show L+(ws.length+1)=L+1+ws.length by lia];exact h2
  .have ih:=h.ins (AE "put");have bt:yI (.t [7,8]) (.tup [.int (i:Int),.int v]) [p0,p1,p2,p3,AA (.loc m),AA (.str ⟨#[c]⟩),p6,p7,p8]=AA [p0,p1,p2,p3,AA (.loc m),AA (.str ⟨#[c]⟩),p6,AA (.int i),AA (.int v)]:=rfl;rw[AL,yV,zt bt];have hb:exs (yc T (9+k)) [p0,p1,p2,p3,AA (.loc m),AA (.str ⟨#[c]⟩),p6,AA (.int i),AA (.int v)] st mwC=.nx [p0,p1,p2,p3,AA (.loc m),AA (.str ⟨#[c]⟩),p6,AA (.int i),AA (.int v)] s1:=by
    simp! [mwC,mwB,yp,ih,e1,IC.ve37]
   rw[hb];exact e2
end
def zeV(k:Nat)(w n:Nat)(hw:w<=16)(hn:n<=8)(x y:Int)(st:SO):
  ∃st' m l,st.length<=m/\st.length<=l/\MM st' m l w (yaD (2^w) n x y) 0 (2*n)/\(∀q,q<st.length->st'[q]?=st[q]?)/\yc T (10+k) yiF [.int w,.int n,.int x,.int y] st=.ok (.loc m) st':=by
 have hT:T yiF=AA ⟨4,9,AC,yp.body⟩:=rfl;have e1:yc T (9+k) yiy [.loc st.length,.int w] (st++[.ins cM []])=.ok .non (st++[mob w (st.length+1) 0]++[.dct AB []]):=by rw[show 9+k=8+k+1 by lia];exact zqp (8+k) w st
 obtain⟨s1,hs1⟩:∃s1,s1=st++[mob w (st.length+1) 0]++[.dct AB []]:=⟨_,rfl⟩;rw[<-hs1]at e1;have h1:MM s1 st.length (st.length+1) w M0 0 0:=by
  rw[hs1];exact⟨by simp,⟨[],by simp,λp hp=>(by cases hp),λc i=>rfl,by simp⟩,by lia⟩
 have eA:∀s,yc T (9+k) yk [.int x,.int w,.int n] s=.ok (.tp AC ((yg (2^w) n x).map .int)) s:=λs=>by rw[show 9+k=8+k+1 by lia];exact lowest (8+k) x w n hw hn s
 have eB:∀s,yc T (9+k) yk [.int y,.int w,.int n] s=.ok (.tp AC ((yg (2^w) n y).map .int)) s:=λs=>by rw[show 9+k=8+k+1 by lia];exact lowest (8+k) y w n hw hn s
 have lA:=z4 (2^w) n x;have lB:=z4 (2^w) n y;let⟨s2,q7,q8,h2,o2,l2,f2⟩:=zfS k ∅ (c:=97) (by simp) (p0:=AA (.int w)) (p1:=AA (.int n)) (p2:=AA (.int x)) (p3:=AA (.int y)) (p6:=AA (.int x)) (yg (2^w) n x) 0 M0 s1 0 AD AD (zbk (Ab ⋯) n x) ∅ h1 ∅;let⟨s3,r7,r8,h3,o3,l3,f3⟩:=zfS k ∅ (c:=98) (by simp) (p0:=AA (.int w)) (p1:=AA (.int n)) (p2:=AA (.int x)) (p3:=AA (.int y)) (p6:=AA (.int y)) (yg (2^w) n y) 0 _ s2 _ q7 q8 (zbk (Ab ⋯) n y) ∅ h2 ∅;refine⟨s3,st.length,st.length+1,AT _,by lia,?_,λq hq=>?_,?_⟩
 .rw[show 2*n=0+(yg (2^w) n x).length+(yg (2^w) n y).length by lia];exact h3
 .rw[o3 q ∅ ∅,o2 q ∅ ∅,hs1,Bo,Ac hq]
 .have hb:yp.body=(match yp.body with
   |.cons a (.cons (.for t i _) r)=>.cons a (.cons (.for t i mwB) r)
   |x=>x):=rfl
  have hc:mwB=(match mwB with
   |.cons (.for t i _) r=>.cons (.for t i mwC) r
   |x=>x):=rfl
  have bt:∀(a b:PV) (p4 p5 p6 p7 p8:Option PV),yI (.t [5,6]) (.tp AC [a,b]) [AA (.int w),AA (.int n),AA (.int x),AA (.int y),p4,p5,p6,p7,p8]=AA [AA (.int w),AA (.int n),AA (.int x),AA (.int y),p4,AA a,AA b,p7,p8]:=λ_ _ _ _ _ _ _=>rfl;have cA:(AE "a")=⟨#[97]⟩:=by ac_rfl
  have cB:(AE "b")=⟨#[98]⟩:=by ac_rfl
  have g1:exs (yc T (9+k)) [AA (.int w),AA (.int n),AA (.int x),AA (.int y),AA (.loc st.length),AA (.str ⟨#[97]⟩),AA (.int x),AD,AD] s1 mwB=.nx [AA (.int w),AA (.int n),AA (.int x),AA (.int y),AA (.loc st.length),AA (.str ⟨#[97]⟩),AA (.int x),q7,q8] s2:=by
   rw[hc];simp! [mwB,yp,eA,f2]
  have g2:exs (yc T (9+k)) [AA (.int w),AA (.int n),AA (.int x),AA (.int y),AA (.loc st.length),AA (.str ⟨#[98]⟩),AA (.int y),q7,q8] s2 mwB=.nx [AA (.int w),AA (.int n),AA (.int x),AA (.int y),AA (.loc st.length),AA (.str ⟨#[98]⟩),AA (.int y),r7,r8] s3:=by
   rw[hc];simp! [mwB,yp,eB,f3]
  have ag:∀(ρ:IC.Env) (s:SO) (k:IC.Env->SO->Fl),yat (.nx ρ s) k=k ρ s:=λ_ _ _=>rfl;rw[show 10+k=9+k+1 by lia,zm hT rfl rfl];dsimp only;rw[hb];simp! [yp,e1,ybB,newV,hs1.symm,cA,cB,zt (bt _ _ _ _ _ _ _),zD,g1,g2,ag,zbC,IC.ve33]
def getM(M:Mem)(c:Nat):Nat->Nat->List Int
 |_,0=>[]
 |a,n+1=>M c a::getM M c (a+1) n
def zc8(k:Nat){m l L:Nat}{w mk:Int}{M:Mem}{st:SO}(h:MM st m l w M mk L){c:Nat}(hc:c∈[97,98,99,100,109])(n:Nat)(hn:n<=8):
  yc T (10+k) yg7 [.loc m,.str ⟨#[c]⟩,.int n] st=.ok (.tp AC ((getM M c 0 n).map .int)) st:=by
 have hT:T yg7=AA ⟨3,3,AC,yan.body⟩:=rfl;have hr:=zbs n ∅;have ih:=h.ins (AE "word");have hl:∀(n a:Nat),(getM M c a n).length=n:=by
  intro n
  induction n with
  |zero=>intro a;rfl
  |succ n ihn=>intro a;simp[getM,ihn]
 have hcm:∀(n a:Nat),a+n<=9->yag (yc T (9+k)) [AD,AA (.str ⟨#[c]⟩),AA (.loc m)] (.n 0) (.cst (.bl AB)) (.mcl cM yY (AE "word") (.var 2) (.cons (.var 1) (.cons (.var 0) .nil))) (yo n (a:Int) 1) st=.ok ((getM M c a n).map .int) st:=by
  intro n
  induction n with
  |zero=>intro a _;rw[yo,zbi];rfl
  |succ n ihn=>
   intro a ha;have e:=zqk k h hc (i:=a) ∅;have one:ybe (yc T (9+k)) [AD,AA (.str ⟨#[c]⟩),AA (.loc m)] (.n 0) (.cst (.bl AB)) (.mcl cM yY (AE "word") (.var 2) (.cons (.var 1) (.cons (.var 0) .nil))) (.int (a:Int)) st=.ok (AA (.int (M c a))) st:=by
    simp! [ybe,ih,e,IC.ve37]
   have q:=ihn (a+1) ∅;rw[yo,zad,one,bd_ok,show ((a:Int)+1)=((a+1:Nat):Int)by lia,q,bd_ok];rfl
 have hcm:=hcm n 0 ∅;have ht:yar .tuple st [.lst ((getM M c 0 n).map .int)]=AA (.tp AC ((getM M c 0 n).map .int)):=rfl;rw[show 10+k=9+k+1 by lia,zm hT rfl rfl];have hcm:yag (yc T (9+k)) [AD,AA (.str ⟨#[c]⟩),AA (.loc m)] (.n 0) (.cst (.bl AB)) (.mcl cM yY (AE "word") (.var 2) (.cons (.var 1) (.cons (.var 0) .nil))) (yo n 0 1) st=_:=hcm;simp! [yan,hr,hcm];rw[zcv _ (by simp[hl];lia)];simp! [ht,zbC]
def zgF(k:Nat)(x:Int)(w n:Nat)(hw:w<=16)(hn:n<=8)(x0:0<=x)(x1:x<2^(w*n))(st:SO):yc T (k+2) yhX [.int x,.int w,.int n] st=.ok (.tp AC ((yg (2^w) n x).map .int)) st:=by
 have hT:T yhX=AA yhE:=rfl;have hwn:w*n<=1000:=by
  have:w*n<=16*8:=BO hw hn;lia
 have m1:=zdb w n ∅;have s1:=zl5 (w*n) hwn;have e1:∀s,yc T (k+1) yk [.int x,.int w,.int n] s=_:=λs=>lowest k x w n hw hn s;have c1:decide (x<0)=false:=decide_eq_false ∅;have c2:decide ((2:Int)^(w*n)<=x)=false:=decide_eq_false ∅;rw[zc hT rfl rfl rfl];generalize hL:yg (2^w) n x=ws at *;simp! [yhE,c1,m1,s1,c2,e1];simp[ybq,nL,noLocs_ints]
structure ydx(pr:Prop)(deed:PV)(w n na:Nat)(rs:List Rw):Prop where
 nl:nL deed=AB
 isd:yc T 20 yim [deed] []=.ok (.bl AB) []
 isp:pr->yc T 20 yg4 [deed] []=.ok (.bl AB) []
 quo:∀st,(idxV st deed (.int 0)).bind (λv=>yu .isin v yeK)=AA (.bl AC)
 rows:yc T 20 yhW [deed,.int w,.int n] []=.ok (.tp AC (rs.map yM)) []
 ref:∀r∈rs,yc T 20 yA [yM r] []=.ok .non []
 ans:yc T 20 ym [deed,.int n] []=.ok (.int na) []
 rest:yc T 20 yg5 [deed,.int n] []=.ok (.int 0) []
def zdi(k:Nat){pr:Prop}{deed:PV}{w n na:Nat}{rs:List Rw}(D:ydx pr deed w n na rs)(hw:w<=16)(hn:n<=8){x y:Int}(x0:0<=x)(x1:x<2^(w*n))(y0:0<=y)(y1:y<2^(w*n))(hp:y≠0->pr)(st:SO):
  yc T (21+k) yiC [deed,.int w,.int n,.int x,.int y] st=.ok .non st:=by
 have hT:T yiC=AA ygV:=rfl;have hnl:nLs [deed,.int w,.int n,.int x,.int y]=true:=by simp[nLs,D.nl,nL]
 have e1:=zak D.isd k;have e3:∀s,yc T (20+k) yhX [.int x,.int w,.int n] s=.ok (.tp AC ((yg (2^w) n x).map .int)) s:=λs=>by rw[show 20+k=18+k+2 by lia];exact zgF (18+k) x w n hw hn x0 x1 s
 have e4:∀s,yc T (20+k) yhX [.int y,.int w,.int n] s=.ok (.tp AC ((yg (2^w) n y).map .int)) s:=λs=>by rw[show 20+k=18+k+2 by lia];exact zgF (18+k) y w n hw hn y0 y1 s
 rw[show 21+k=20+k+1 by lia,zc hT rfl rfl hnl];have q:=D.quo []
 cases hi:idxV [] deed (.int 0)with
 |none=>rw[hi]at q;cases q
 |some v=>
  rw[hi,B7]at q;generalize yg (2^w) n x=xs,yg (2^w) n y=ys at *
  cases hy:(y==0)with
  |true=>simp! [ygV,e1,e3,e4,hy,hi,q];rfl
  |false=>
   have e2:=zak (D.isp (hp (by intro h;rw[h]at hy;exact absurd hy ⋯))) k;simp! [ygV,e1,e2,e3,e4,hy];rfl
theorem ran(k:Nat){pr:Prop}{deed:PV}{w n na:Nat}{rs:List Rw}(D:ydx pr deed w n na rs)(hw:w<=16)(hw1:1<=w)(hn:n<=4)(hna:na<=8)(hrs:rs.length<5000){x y:Int}(x0:0<=x)(x1:x<2^(w*n))(y0:0<=y)(y1:y<2^(w*n))(hp:y≠0->pr)(hh:ybp (2^w) rs (yaD (2^w) n x y) 0)(st:SO):
  yc T (22+k) yd4 [deed,.int w,.int n,.int x,.int y] st=.ok (.tp AC [.tp AC ((getM (yK (2^w) rs (yaD (2^w) n x y) 0).1 99 0 na).map .int),.tp AC [],.tp AC ((getM (yK (2^w) rs (yaD (2^w) n x y) 0).1 109 0 4).map .int)]) st:=by
 have hT:T yd4=AA ⟨5,7,AB,ycc.body⟩:=rfl;have hnl:nLs [deed,.int w,.int n,.int x,.int y]=true:=by simp[nLs,D.nl,nL]
 have e1:=zdi k D hw ∅ x0 x1 y0 y1 hp [];let⟨s2,m,l,_,_,h2,_,e2⟩:=zeV (11+k) w n hw ∅ x y [];have e2:yc T (21+k) yiF [.int w,.int n,.int x,.int y] []=.ok (.loc m) s2:=by rw[show 21+k=10+(11+k)by lia];exact e2
 have nl3:nLs [deed,.int w,.int n]=true:=by simp[nLs,D.nl,nL]
 have nl2:nLs [deed,.int n]=true:=by simp[nLs,D.nl,nL]
 have up:∀{f:Nat} {fn:IC.Fn} {args:List PV} {v:PV},T f=AA fn->fn.pure=AB->args.length=fn.np->nLs args=AB->yc T 20 f args []=.ok v []->∀s,yc T (21+k) f args s=.ok v s:=λ{f fn args v} a b c d e s=>by
  have:=zak e (1+k);rw[show 20+(1+k)=20+k+1 by lia]at this;rw[show 21+k=20+k+1 by lia];exact zbL a b c d this s
 have e3:=up (f:=yhW) (fn:=ygA) rfl rfl rfl nl3 D.rows s2;let⟨s4,h4,_,_,e4⟩:=zi7 (14+k) (n:=w) ∅ hw1 h2 (rs:=rs) ∅ hh (λr hr=>by
  have:=zak (D.ref r hr) k;rw[show 20+k=14+k+6 by lia]at this;exact this)
 have e4:yc T (21+k) yiz [.loc m,.tp AC (rs.map yM)] s2=.ok .non s4:=by rw[show 21+k=14+k+7 by lia];exact e4
 have e5:=up (f:=ym) (fn:=yv) rfl rfl rfl nl2 D.ans s4;have e6:=up (f:=yg5) (fn:=yy) rfl rfl rfl nl2 D.rest s4;have n1:yc T (21+k) yg7 [.loc m,.str ⟨#[99]⟩,.int na] s4=.ok (.tp AC ((getM (yK (2^w) rs (yaD (2^w) n x y) 0).1 99 0 na).map .int)) s4:=by
  have:=zc8 (11+k) h4 (c:=99) (by simp) na hna;rw[show 10+(11+k)=21+k by lia]at this;exact this
 have n2:yc T (21+k) yg7 [.loc m,.str ⟨#[100]⟩,.int 0] s4=.ok (.tp AC []) s4:=by
  have:=zc8 (11+k) h4 (c:=100) (by simp) 0 ∅;rw[show 10+(11+k)=21+k by lia]at this;exact this
 have n3:yc T (21+k) yg7 [.loc m,.str ⟨#[109]⟩,.int 4] s4=.ok (.tp AC ((getM (yK (2^w) rs (yaD (2^w) n x y) 0).1 109 0 4).map .int)) s4:=by
  have:=zc8 (11+k) h4 (c:=109) (by simp) 4 ∅;rw[show 10+(11+k)=21+k by lia]at this;exact this
 have ih:=h2.ins (AE "run");have cC:(AE "c")=⟨#[99]⟩:=by ac_rfl
 have cD:(AE "d")=⟨#[100]⟩:=by ac_rfl
 have cE:(AE "m")=⟨#[109]⟩:=by ac_rfl
 have vM:yiN=.int 4:=rfl;rw[show 22+k=21+k+1 by lia,zc hT rfl rfl hnl];dsimp only;generalize rs.map yM=rows,getM (yK (2^w) rs (yaD (2^w) n x y) 0).1 99 0 na=A,getM (yK (2^w) rs (yaD (2^w) n x y) 0).1 109 0 4=B at *;simp! [ycc,e1,e2,ih,e3,e4,e5,e6,cC,cD,cE,vM,n1,n2,n3,IC.ve37];simp[ybq,nL,nLs,noLocs_ints]
theorem letters:((C8 26).all λj=>isOk (yc T 2 yif [.str (chS (97+j))] []) (.bl AB))=true:=by decide +kernel
def zgM(k:Nat){c:Nat}(h1:97<=c)(h2:c<=122)(s:SO):yc T (k+2) yif [.str (chS c)] s=.ok (.bl AB) s:=by
 have h:=Bg.1 letters (c-97) (by simp;lia);rw[show 97+(c-97)=c by lia]at h;have h:=zak (zdH h) k;rw[show 2+k=k+1+1 by lia]at h;exact zbL (f:=yif) (fn:=yia) rfl rfl rfl rfl h s
def zfl(k:Nat){i a b:Int}(h1:a<=i)(h2:i<=b)(s:SO):yc T (k+1) yg2 [.int i,.int a,.int b] s=.ok (.bl AB) s:=by
 have hT:T yg2=AA yeT:=rfl;have e1:yaM (.int i) [.int]=AA (.bl AB):=rfl;have e2:yaM (.int i) [.bool]=AA (.bl AC):=rfl;have c1:decide (a<=i)=true:=decide_eq_true h1;have c2:decide (i<=b)=true:=decide_eq_true h2;rw[zc hT rfl rfl rfl];simp! [yeT,e1,e2,c1,c2,IC.ve9];rfl
def zjP(k:Nat){x:Cel}(h1:97<=x.1)(h2:x.1<=122)(h3:0<=x.2)(h4:x.2<=99)(s:SO):yc T (k+4) yjF [yx x] s=.ok (.bl AB) s:=by
 have hT:T yjF=AA yhi:=rfl;have hT2:T yjG=AA yhj:=rfl;have el:∀s,yc T (k+3) yjG [yx x] s=.ok (.bl AB) s:=λs=>by
  have e:=λs=>zgM k h1 h2 s;rw[zc hT2 rfl rfl rfl];have e1:yaM (yx x) [.tuple]=AA (.bl AB):=rfl;have e2:∀st,yar .len st [yx x]=AA (.int 2):=λ_=>rfl;have e3:∀st,idxV st (yx x) (.int 0)=AA (.str (chS x.1)):=λ_=>rfl;generalize yx x=v at *;simp! [yhj,e1,e2,e3,e];rfl
 have ew:=λs=>zfl (k+2) h3 h4 s;have e3:∀st,idxV st (yx x) (.int 1)=AA (.int x.2):=λ_=>rfl;rw[zc hT rfl rfl rfl];generalize yx x=v at *;simp! [yhi,el,e3,ew];rfl
abbrev kC:PV:=.str "cell"
abbrev kF:PV:=.str "figure"
def zlG(k:Nat){x:Cel}(h1:97<=x.1)(h2:x.1<=122)(h3:0<=x.2)(h4:x.2<=99)(s:SO):yc T (k+5) yi [kC,yx x,.bl AC] s=.ok (.bl AB) s:=by
 have hT:T yi=AA yn:=rfl;have e:=λs=>zjP k h1 h2 h3 h4 s;have c:yu .eq kC kF=AA (.bl AC):=by ac_rfl
 have hnl:nLs [kC,yx x,.bl AC]=true:=rfl;rw[zc hT rfl rfl hnl];generalize yx x=v at *;simp! [yn,c,e];rfl
def zkO(k:Nat){d:Int}(h1:0<=d)(h2:d<=1)(s:SO):yc T (k+5) yi [kF,.int d,.bl AC] s=.ok (.bl AB) s:=by
 have hT:T yi=AA yn:=rfl;have e:=λs=>zfl (k+3) h1 h2 s;have c:yu .eq kF kF=AA (.bl AB):=by ac_rfl
 rw[zc hT rfl rfl rfl];simp! [yn,c,e];rfl
def hfB:Css:=match yG.body with
 |.cons _ (.cons (.for _ _ b) _)=>b
 |x=>x
def ziR(k:Nat){p0 p1:PV}(hp1:p1=.bl AC){st:SO}:∀(l:List (PV×PV)) (p2 p3:Option PV),(∀x∈l,∀s,yc T k yi [x.1,x.2,.bl AC] s=.ok (.bl AB) s) ->
  ∃q2 q3,yaY (yc T k) (.t [2,3]) hfB (l.map λx=>.tp AC [x.1,x.2]) [AA p0,AA p1,p2,p3] st=.nx [AA p0,AA p1,q2,q3] st
 |[],p2,p3,_=>⟨p2,p3,zD⟩
 |(a,b)::l,p2,p3,h=>by
  subst hp1;let⟨q2,q3,e⟩:=ziR k (p0:=p0) rfl (st:=st) l (AA a) (AA b) (λx hx=>h x (by simp[hx]));refine⟨q2,q3,?_⟩;have e1:=h (a,b) (by simp) st;have one:exs (yc T k) [AA p0,AA (.bl AC),AA a,AA b] st hfB=.nx [AA p0,AA (.bl AC),AA a,AA b] st:=by
   simp only at e1;simp! [hfB,yG,e1]
  rw[AL,zt (ρ1:=[AA p0,AA (.bl AC),AA a,AA b]) rfl,one];exact e
def zhp(k:Nat){nm:AN}{ops:List PV}(ho:nLs ops=AB)(hl:0<(.str nm::ops:List PV).length)(hd:yce ybR (.str nm)=AA (.bl AB))(s:SO):yc T (k+1) yih [.tp AC (.str nm::ops)] s=.ok (.bl AB) s:=by
 have hT:T yih=AA yhh:=rfl;have hnl:nLs [.tp AC (.str nm::ops)]=true:=by simp[nLs,nL,ho]
 have e1:yaM (.tp AC (.str nm::ops)) [.tuple]=AA (.bl AB):=rfl;have e2:∀st,yar .len st [.tp AC (.str nm::ops)]=AA (.int ((.str nm::ops:List PV).length:Nat)):=λ_=>rfl;have e3:∀st,idxV st (.tp AC (.str nm::ops)) (.int 0)=AA (.str nm):=λ_=>ix0;have e4:yaM (.str nm) [.str]=AA (.bl AB):=rfl;have c:decide (((.str nm::ops:List PV).length:Int) > 0)=true:=decide_eq_true ∅;rw[zc hT rfl rfl hnl];generalize (PV.str nm::ops).length=L,PV.tp AC (.str nm::ops)=v at *;simp! [yhh,e1,e2,e3,e4,c,hd,IC.ve29];rfl
def zgy:∀l:List (PV×PV),yaU (l.map (·.1)) (l.map (·.2))=l.map λx=>.tp AC [x.1,x.2]
 |[]=>rfl
 |(a,b)::l=>by erw[AL,yaU,zgy l,PV.tup]
def hfE:Ce:=match yG.body with
 |.cons _ (.cons _ (.cons (.ret e) _))=>e
 |_=>.nope
def zh0(k:Nat){nm:AN}(l:List (PV×PV))(hd:yce ybR (.str nm)=AA (.bl AB))(hr:ycn ybR (.str nm)=AA (.tp AB (l.map (·.1))))(ho:∀x∈l,∀s,yc T (k+1) yi [x.1,x.2,.bl AC] s=.ok (.bl AB) s)(hnl:nLs (l.map (·.2))=AB)
  (ht:∀q2 q3 st,ev (yc T (k+1)) [AA (.tp AC (.str nm::l.map (·.2))),AA (.bl AC),q2,q3] st hfE=.ok (.bl AB) st) (s:SO):yc T (k+2) yig [.tp AC (.str nm::l.map (·.2)),.bl AC] s=.ok (.bl AB) s:=by
 have hT:T yig=AA yG:=rfl;have hn2:nLs [.tp AC (.str nm::l.map (·.2)),.bl AC]=true:=by simp[nLs,nL,hnl]
 have e0:∀st,yc T (k+1) yih [.tp AC (.str nm::l.map (·.2))] st=.ok (.bl AB) st:=λst=>zhp k hnl (by simp) hd st;have e1:∀st,yar .len st [.tp AC (.str nm::l.map (·.2))]=AA (.int ((l.length+1:Nat):Int)):=λst=>by
  show AA (PV.int (((PV.str nm::l.map (·.2)).length:Nat):Int))=_;simp
 have e2:∀st,idxV st (.tp AC (.str nm::l.map (·.2))) (.int 0)=AA (.str nm):=λ_=>ix0;have e3:∀st,yar .len st [.tp AB (l.map (·.1))]=AA (.int (l.length:Nat)):=λst=>by
  show AA (PV.int (((l.map (·.1)).length:Nat):Int))=_;simp
 have c1:((((l.length+1:Nat):Int)==(l.length:Int)+1):Bool)=true:=by simp
 have o1:yb3 (.int 1)=AA (AA 1):=rfl;have e5:ycx (.tp AC (.str nm::l.map (·.2))) (AA 1) .non=AA (.tp AC (l.map (·.2))):=by
  have hc:ybf (l.length+1) 1=1:=by simp[ybf]
  erw[ycx,yb3,yck,cut,ycC,ycP,AX,BD,hc,List.drop_succ_cons,Gc]
  first
  |(rw[Em (by simp)];done)
  |(simp;done)
  |(simp[Em])
 have e6:ydN (.tp AB (l.map (·.1))) (.tp AC (l.map (·.2)))=AA (l.map λx=>.tp AC [x.1,x.2]):=by
  simp[ydN,zgy]
 let⟨q2,q3,e7⟩:=ziR (k+1) (p0:=.tp AC (.str nm::l.map (·.2))) (p1:=.bl AC) rfl (st:=[]) l AD AD ho
 have hb:yG.body=(match yG.body with
  |.cons a (.cons (.for t i _) (.cons _ r))=>.cons a (.cons (.for t i hfB) (.cons (.ret hfE) r))
  |x=>x):=rfl
 rw[zc hT rfl rfl hn2];rw[hb];generalize hfE=E,hv:PV.tp AC (.str nm::l.map (·.2))=v,hz:(l.map λx=>PV.tp AC [x.1,x.2])=zs,PV.tp AB (l.map (·.1))=ks at *;simp! [yG,e0,e1,e2,hr,e3,c1,e5,e6,e7,ht,o1,onP];rfl
def yaa(x:Cel):Prop:=97<=x.1/\x.1<=122/\0<=x.2/\x.2<=99
def ybo:Rw->Prop
 |.mark d=>0<=d/\d<=1
 |.ask x=>yaa x
 |.set t d=>yaa t/\0<=d/\d<=1
 |.move t x | .bare t x | .twice t x | .half t x=>yaa t/\yaa x
 |.sum t x y | .less t x y | .both t x y | .any t x y | .odd t x y=>yaa t/\yaa x/\yaa y
 |.times a b x y=>yaa a/\yaa b/\yaa x/\yaa y/\yu .ne (yx a) (yx b)=AA (.bl AB)
def zfd{r:PV}{nm:AN}(l:List (PV×PV))(hr:r=.tp AC (.str nm::l.map (·.2)))(hd:yce ybR (.str nm)=AA (.bl AB))(hx:ycn ybR (.str nm)=AA (.tp AB (l.map (·.1))))(ho:∀x∈l,∀k s,yc T (k+5) yi [x.1,x.2,.bl AC] s=.ok (.bl AB) s)(hnl:nLs (l.map (·.2))=AB)
  (ht:∀k q2 q3 st,ev (yc T k) [AA r,AA (.bl AC),q2,q3] st hfE=.ok (.bl AB) st):ybt r:=λk s=>by
 have hT:T yeU=AA yhg:=rfl;have e:∀s,yc T (9+k) yig [r,.bl AC] s=.ok (.bl AB) s:=λs=>by
  subst hr;rw[show 9+k=7+k+2 by lia];exact zh0 (7+k) l hd hx (λx hx s=>by rw[show 7+k+1=3+k+5 by lia];exact ho x hx (3+k) s) hnl (ht _) s
 have hn2:nLs [r]=true:=by subst hr;simp[nLs,nL,hnl]
 rw[show 10+k=9+k+1 by lia,zc hT rfl rfl hn2];simp! [yhg,e];rfl
def zca{r:PV}{nm:AN}(l:List (PV×PV))(hr:r=.tp AC (.str nm::l.map (·.2)))(hd:yce ybR (.str nm)=AA (.bl AB))(hx:ycn ybR (.str nm)=AA (.tp AB (l.map (·.1))))(ho:∀x∈l,∀k s,yc T (k+5) yi [x.1,x.2,.bl AC] s=.ok (.bl AB) s)(hnl:nLs (l.map (·.2))=AB)
  (ht:yu .ne (.str nm) (.str "times")=AA (.bl AB)):ybt r:=zfd l hr hd hx ho hnl λk q2 q3 st=>by
 subst hr;have e2:∀st,idxV st (.tp AC (.str nm::l.map (·.2))) (.int 0)=AA (.str nm):=λ_=>ix0;simp! [hfE,yG,e2,ht]
theorem oC{x:Cel}(h:yaa x)(k:Nat)(s:SO):yc T (k+5) yi [kC,yx x,.bl AC] s=.ok (.bl AB) s:=zlG k h.1 h.2.1 h.2.2.1 h.2.2.2 s
def zqq{nm:AN}{x:Cel}(h:yaa x)(hd:yce ybR (.str nm)=AA (.bl AB))(hx:ycn ybR (.str nm)=AA (.tp AB [kC]))(ht:yu .ne (.str nm) (.str "times")=AA (.bl AB)):ybt (.tp AC [.str nm,yx x]):=
 zca [(kC,yx x)] rfl hd hx (λa ha=>by erw[AR,A7,or_false]at ha;subst ha;exact oC h) rfl ht
theorem row2{nm:AN}{t x:Cel}(h0:yaa t)(h:yaa x)(hd:yce ybR (.str nm)=AA (.bl AB))(hx:ycn ybR (.str nm)=AA (.tp AB [kC,kC]))(ht:yu .ne (.str nm) (.str "times")=AA (.bl AB)):ybt (.tp AC [.str nm,yx t,yx x]):=
 zca [(kC,yx t),(kC,yx x)] rfl hd hx (λa ha=>by erw[AR,A7,or_false]at ha;rcases ha with rfl|rfl;exact oC h0;exact oC h) rfl ht
def zj2{nm:AN}{t x y:Cel}(h0:yaa t)(h:yaa x)(h2:yaa y)(hd:yce ybR (.str nm)=AA (.bl AB))(hx:ycn ybR (.str nm)=AA (.tp AB [kC,kC,kC]))(ht:yu .ne (.str nm) (.str "times")=AA (.bl AB)):ybt (.tp AC [.str nm,yx t,yx x,yx y]):=
 zca [(kC,yx t),(kC,yx x),(kC,yx y)] rfl hd hx (λa ha=>by erw[AR,A7,or_false]at ha;rcases ha with rfl|rfl|rfl;exact oC h0;exact oC h;exact oC h2) rfl ht
def zgG:∀r,ybo r->ybt (yM r)
 |.mark d,h=>zca [(kF,.int d)] rfl (by ac_rfl) (by ac_rfl) (λa ha=>by erw[AR,A7,or_false]at ha;subst ha;exact λk s=>zkO k h.1 h.2 s) rfl (by ac_rfl)
 |.ask x,h=>zqq h (by ac_rfl) (by ac_rfl) (by ac_rfl)
 |.set t d,h=>zca [(kC,yx t),(kF,.int d)] rfl (by ac_rfl) (by ac_rfl) (λa ha=>by erw[AR,A7,or_false]at ha;rcases ha with rfl|rfl;exact oC h.1;exact λk s=>zkO k h.2.1 h.2.2 s) rfl (by ac_rfl)
 |.move t x,h=>row2 h.1 h.2 (by ac_rfl) (by ac_rfl) (by ac_rfl)
 |.bare t x,h=>row2 h.1 h.2 (by ac_rfl) (by ac_rfl) (by ac_rfl)
 |.twice t x,h=>row2 h.1 h.2 (by ac_rfl) (by ac_rfl) (by ac_rfl)
 |.half t x,h=>row2 h.1 h.2 (by ac_rfl) (by ac_rfl) (by ac_rfl)
 |.sum t x y,h=>zj2 h.1 h.2.1 h.2.2 (by ac_rfl) (by ac_rfl) (by ac_rfl)
 |.less t x y,h=>zj2 h.1 h.2.1 h.2.2 (by ac_rfl) (by ac_rfl) (by ac_rfl)
 |.both t x y,h=>zj2 h.1 h.2.1 h.2.2 (by ac_rfl) (by ac_rfl) (by ac_rfl)
 |.any t x y,h=>zj2 h.1 h.2.1 h.2.2 (by ac_rfl) (by ac_rfl) (by ac_rfl)
 |.odd t x y,h=>zj2 h.1 h.2.1 h.2.2 (by ac_rfl) (by ac_rfl) (by ac_rfl)
 |.times a b x y,h=>zfd [(kC,yx a),(kC,yx b),(kC,yx x),(kC,yx y)] rfl (by ac_rfl) (by ac_rfl) (λz hz=>by erw[AR,A7,or_false]at hz;rcases hz with rfl|rfl|rfl|rfl;exact oC h.1;exact oC h.2.1;exact oC h.2.2.1;exact oC h.2.2.2.1) rfl λk q2 q3 st=>by
  have q:yu .ne (.str "times") (.str "times")=AA (.bl AC):=by ac_rfl
  have h:=h.2.2.2.2;erw[yM];generalize yx a=ca,yx b=cb at *;simp! [hfE,yG,ix0,ix1,ix2,q,h]
def zmm{v:PV}(hn:nL v=AB)(h:ybt v)(k:Nat)(s:SO):yc T (11+k) yA [v] s=.ok .non s:=by
 have hT:T yA=AA ygC:=rfl;have e:=λs=>h k s;rw[show 11+k=10+k+1 by lia,zc hT rfl rfl (by simp[nLs,hn])];simp! [ygC,e];rfl
def Good(w:Nat)(M:Mem)(k:Int):Prop:=(∀c i,0<=M c i/\M c i<2^w)/\0<=k/\k<=1
def okD:Rw->Prop
 |.mark d=>0<=d/\d<=1
 |.set _ d=>0<=d/\d<=1
 |_=>True
def zV{w:Nat}{M:Mem}(h:∀c i,0<=M c i/\M c i<2^w)(t:Cel){v:Int}(v0:0<=v)(v1:v<2^w):∀c i,0<=wr M t v c i/\wr M t v c i<2^w:=by
 intro c i;unfold wr upd;split
 .exact⟨v0,v1⟩
 .exact h c i
def ze8{w:Nat}(hw:1<=w){M:Mem}{k:Int}(h:Good w M k){r:Rw}(hd:okD r):Good w (stepM (2^w) M k r).1 (stepM (2^w) M k r).2:=by
 let⟨g,k0,k1⟩:=h;have hW2:(2:Int)<=2^w:=by
  have h:(2:Nat)^1<=2^w:=Am ∅ hw;have h2:=pw w;lia
 have hW0:(2:Int)^w≠0:=by lia
 have hWp:(0:Int)<2^w:=by lia
 have md:∀z:Int,0<=z%2^w/\z%2^w<2^w:=λz=>⟨Aq _ hW0,A9 _ hWp⟩;have dv:∀z:Int,0<=z->z<2*2^w->0<=z/2^w/\z/2^w<=1:=λz z0 z1=>⟨CD z0 ∅,by
  have:=BM hWp (a:=z) (b:=2) ∅;lia⟩
 cases r with
 |mark d=>exact⟨g,hd⟩
 |ask x=>exact⟨g,zfw _⟩
 |set t d=>exact⟨zV g t hd.1 (by have:=hd.2;lia),k0,k1⟩
 |move t x=>exact⟨zV g t (g _ _).1 (g _ _).2,k0,k1⟩
 |bare t x=>
  have:=g x.1 x.2;exact⟨zV g t (by erw[rd];lia) (by erw[rd];lia),k0,k1⟩
 |twice t x=>
  have:=g x.1 x.2;exact⟨zV g t (md _).1 (md _).2,dv _ (by erw[rd];lia) (by erw[rd];lia)⟩
 |half t x=>
  have:=g x.1 x.2;have hH:(2:Int)^w=2*(2^w/2):=by
   obtain⟨v,rfl⟩:∃v,w=v+1:=⟨w-1,by lia⟩;rw[Af];lia
  have hk:k*(2^w/2)=0 \/ k*((2:Int)^w/2)=2^w/2:=by
   rcases (by lia:k=0 \/ k=1)with rfl|rfl
   .left;lia
   .right;lia
  refine⟨zV g t ?_ ?_,?_,?_⟩
  .simp only[rd];lia
  .simp only[rd];lia
  .simp only[stepM,rd];lia
  .simp only[stepM,rd];lia
 |sum t x y=>
  have:=g x.1 x.2;have:=g y.1 y.2;exact⟨zV g t (md _).1 (md _).2,dv _ (by erw[rd];lia) (by erw[rd];lia)⟩
 |less t x y=>exact⟨zV g t (md _).1 (md _).2,zfw _⟩
 |both t x y=>
  have h:=znq (w:=w) (g x.1 x.2).1 (g y.1 y.2).1 (g y.1 y.2).2;exact⟨zV g t h.1 h.2,k0,k1⟩
 |any t x y=>
  have h:=znO (w:=w) (g x.1 x.2).1 (g x.1 x.2).2 (g y.1 y.2).1 (g y.1 y.2).2;exact⟨zV g t h.1 h.2,k0,k1⟩
 |odd t x y=>
  have h:=zn2 (w:=w) (g x.1 x.2).1 (g x.1 x.2).2 (g y.1 y.2).1 (g y.1 y.2).2;exact⟨zV g t h.1 h.2,k0,k1⟩
 |times l t x y=>
  have a:=g x.1 x.2;have b:=g y.1 y.2;have p0:0<=M x.1 x.2*M y.1 y.2:=Bp a.1 b.1;have p1:M x.1 x.2*M y.1 y.2<2^w*2^w:=by
   rcases (by lia:M x.1 x.2=0 \/ 0<M x.1 x.2)with z|z
   .rw[z,B8];exact GS hWp hWp
   .exact Int.lt_of_lt_of_le (Int.mul_lt_mul_of_pos_left b.2 z) (BC ∅ ∅)
  refine⟨zV (zV g l (md _).1 (md _).2) t ?_ ?_,k0,k1⟩
  .exact CD p0 ∅
  .exact BM hWp p1
def zbY{w:Nat}(hw:1<=w):∀(rs:List Rw) {M:Mem} {k:Int},Good w M k->(∀r∈rs,okD r)->Good w (yK (2^w) rs M k).1 (yK (2^w) rs M k).2
 |[],_,_,h,_=>h
 |r::rs,_,_,h,hd=>zbY hw rs (ze8 hw h (hd r Aj)) λq hq=>hd q (AQ _ hq)
def zc4{w:Nat}{c:Nat}:∀(vs:List Int) (i:Nat) (M:Mem),(∀c i,0<=M c i/\M c i<2^w)->(∀v∈vs,0<=v/\v<2^w)->∀d j,0<=yay c i vs M d j/\yay c i vs M d j<2^w
 |[],_,_,h,_=>h
 |v::vs,i,M,h,hv=>by
  rw[yay];refine zc4 vs (i+1) _ (λc' j=>?_) λu hu=>hv u (AQ _ hu);unfold upd;split
  .exact hv v Aj
  .exact h c' j
def zct{w:Nat}:∀(n:Nat) (x:Int),∀v∈yg (2^w) n x,0<=v/\v<2^w
 |0,_,v,h=>by cases h
 |n+1,x,v,h=>by
  have hWp:(0:Int)<2^w:=Ab ∅;rw[yg,AR]at h;rcases h with rfl|h
  .exact⟨Aq _ ∅,A9 _ hWp⟩
  .exact zct n _ v h
def zf5{w:Nat}(hw:1<=w)(n:Nat)(x y:Int):Good w (yaD (2^w) n x y) 0:=by
 have hWp:(0:Int)<2^w:=Ab ∅;exact⟨zc4 _ _ _ (zc4 _ _ _ (λc i=>⟨Int.le_refl _,hWp⟩) (zct n x)) (zct n y),by lia,by lia⟩
def ydZ(W:Int)(M:Mem):Prop:=∀c i,0<=M c i/\M c i<W
def zgw{w:Nat}(hw:1<=w)(hw2:w<=16):∀(rs:List Rw) (M:Mem) (k:Int),(∀r∈rs,okD r)->Good w M k->ybp (2^w) rs M k
 |[],M,k,_,_=>trivial
 |r::rs,M,k,hr,g=>by
  let⟨h,k0,k1⟩:=g;exact⟨⟨λt x _=>⟨(h x.1 x.2).1,(h x.1 x.2).2,k0,by lia⟩,λ_ _ x _ _=>by
   have:=h x.1 x.2;have p:(2:Nat)^w<=2^16:=Am ∅ hw2;have q:=pw w;show (M x.1 x.2).natAbs<_;have:(2:Nat)^16=65536:=rfl;lia⟩,zgw hw hw2 rs _ _ (λx hx=>hr x (by simp[hx])) (ze8 hw ⟨h,k0,k1⟩ (hr r (by simp)))⟩
def sgd(T x:Int):Int:=if T<=2*x then x-T else x
def yaH(T s:Int):Bool:=decide (0-T<=2*s)&&decide (2*s<T)
structure Shf(W:Int)(n:Nat)(M0 M:Mem)(v:Int):Prop where
 dg:Dg W M 99 n
 val:yw W M 99 n=v
 keep:∀d j,d≠99->d≠116->M d j=M0 d j
def cx(l:Nat)(c i j m:Int):Op:=.cel ⟨l,c,i,j,m⟩
def rS(nm:String)(ops:List Op):Rs:=⟨AE nm,ops⟩
def oZ:Op:=cx 122 0 0 0 0
def oS:Op:=cx 115 0 0 0 0
def oT:Op:=cx 116 0 0 0 0
def oM(i:Int):Op:=cx 109 i 0 0 0
def ycT(c m:Int):List T1:=[.row (rS "set" [oS,.fig 0]),.rounds c m 0 [.row (rS "any" [oS,oS,cx 99 0 1 0 0])],.row (rS "ask" [oS]),.row (rS "set" [oM 2,.fig 1]),.row (rS "less" [oM 2,oM 2,oZ]),.row (rS "twice" [oT,cx 99 (c-1) 0 0 m]),.row (rS "sum" [oM 3,oZ,oZ])]
def zf4{g:Nat->List PV}{f:Int->Rw}(h:∀I:Nat,g I=[yM (f I)]):∀n,upTo g n=(yS f n).map yM
 |0=>rfl
 |n+1=>by rw[upTo,yS,zf4 h n,h n,Cz];rfl
def ze1(w:Int)(n:Nat):cnt 0 1 0 w n=n:=by simp[cnt]
def znF(I:Nat)(n:Int):(rS "any" [oS,oS,cx 99 0 1 0 0]).pv I 0 n=yM (.any cS cS (99,I)):=by simp[Rs.pv,rS,Op.pv,oS,cx,Cx.at,yM,yx]
def zar(w n:Int)(a b:List T1):yC w n (a++b)=yC w n a++yC w n b:=by simp[yC]
def zaI(w n:Int)(a b:List T1):yav w n (a++b)=yav w n a+yav w n b:=by simp[yav]
def zfB(f:Int->Rw)(m:Nat):(yS f m).length=m:=by
 induction m with
 |zero=>rfl
 |succ m ih=>simp[yS,ih]
abbrev cL:Cel:=(108,0)
abbrev cHi:Cel:=(104,0)
abbrev cO:Cel:=(111,0)
def inR(I J:Nat):List Rw:=[.times cL cHi (97,J) (98,I),.sum cL cL cO,.sum cHi cHi cZ,.sum (99,(I:Int)+J) (99,(I:Int)+J) cL,.sum cO cHi cZ]
def yaz(n I:Nat):List Rw:=.mark 0 :: .set cO 0::(upTo (inR I) n++[.move (99,(I:Int)+n) cO])
def yam(n:Nat):List Rw:=upTo (yaz n) n
def zg1{w:Nat}(hw:1<=w):(2:Int)<=2^w:=by
 have h:(2:Nat)^1<=2^w:=Am ∅ hw;have h2:=pw w;lia
def zj8{W A B o c:Int}(hW:2<=W)(a0:0<=A)(a1:A<W)(b0:0<=B)(b1:B<W)(o0:0<=o)(o1:o<W)(c0:0<=c)(c1:c<W):
  (A*B/W+0+(A*B%W+o+0)/W)/W=0/\((A*B/W+0+(A*B%W+o+0)/W)%W+0+(c+(A*B%W+o+0)%W+0)/W)/W=0 /\
  (c+(A*B%W+o+0)%W+0)%W+W*(((A*B/W+0+(A*B%W+o+0)/W)%W+0+(c+(A*B%W+o+0)%W+0)/W)%W)=A*B+o+c:=by
 have hW0:W≠0:=by lia
 have hWp:0<W:=by lia
 have hP:A*B<=(W-1)*(W-1):=EF ∅ ∅ b0 ∅;have hP0:0<=A*B:=Bp a0 b0;have hE:(W-1)*(W-1)=W*W-2*W+1:=by rw[Bw,CK];lia
 have hE2:(W-1)*W=W*W-W:=by rw[Bw];lia
 generalize A*B=P at *;have h1:P/W<W-1:=BM hWp ∅;have h0:0<=P/W:=CD hP0 ∅;have e1:=BN P W;have l0:=Aq P hW0;have l1:=A9 P hWp;generalize P/W=h,P%W=l at *;erw[Bq];have e2:=BN (l+o) W;have k0:0<=(l+o)/W:=CD ∅ ∅;have k1:(l+o)/W<2:=BM hWp ∅;have m0:=Aq (l+o) hW0;have m1:=A9 (l+o) hWp;generalize (l+o)/W=k,(l+o)%W=l2 at *;have q1:(h+k)/W=0:=BR ∅ ∅;have q2:(h+k)%W=h+k:=Ak ∅ ∅;rw[q2];have e3:=BN (c+l2) W;have j0:0<=(c+l2)/W:=CD ∅ ∅;have n0:=Aq (c+l2) hW0;have n1:=A9 (c+l2) hWp;generalize (c+l2)/W=k3,(c+l2)%W=c2 at *;have hT:c2+W*(h+k+k3)=P+o+c:=by
  rw[By,By];lia
 have hlt:W*(h+k+k3)<W*W:=by lia
 have hlt2:h+k+k3<W:=Int.lt_of_mul_lt_mul_left hlt ∅;refine⟨q1,BR ∅ hlt2,?_⟩;rw[Ak ∅ hlt2];exact hT
def zne{I J:Nat}:∀r∈inR I J,okD r:=by
 intro r hr;erw[inR,AR,A7,or_false]at hr;rcases hr with rfl|rfl|rfl|rfl|rfl<;>trivial
def zlo{w:Nat}(hw:1<=w){M:Mem}{I J:Nat}(hg:Good w M 0)(hz:M 122 0=0):
  ∃M',yK (2^w) (inR I J) M 0=(M',0)/\Good w M' 0/\M' 99 ((I+J:Nat):Int)+2^w*M' 111 0=M 97 J*M 98 I+M 111 0+M 99 ((I+J:Nat):Int)/\∀d j,d≠108->d≠104->d≠111->(d≠99 \/ j≠((I+J:Nat):Int))->M' d j=M d j:=by
 have hgg:=zbY hw (inR I J) hg zne;have hc:(I:Int)+(J:Int)=((I+J:Nat):Int):=by lia
 let⟨s1,s2,s3⟩:=zj8 (zg1 hw) (hg.1 97 J).1 (hg.1 97 J).2 (hg.1 98 I).1 (hg.1 98 I).2 (hg.1 111 0).1 (hg.1 111 0).2 (hg.1 99 ((I+J:Nat):Int)).1 (hg.1 99 ((I+J:Nat):Int)).2;have hr:(yK (2^w) (inR I J) M 0).2=0:=by
  erw[inR,yK,stepM,rd,wr,upd,cL,cHi,cO,cZ,hc,DZ,false_and,if_false,and_self,if_true,hz,s1,s2]
 refine⟨_,HI rfl hr,by rw[hr]at hgg;exact hgg,?_,λd j h1 h2 h3 h4=>?_⟩
 .simp only[inR,yK,stepM,rd,wr,upd,cL,cHi,cO,cZ,hc,DZ,false_and,if_false,and_self,if_true,hz,s1,s2];exact s3
 .simp only[inR,yK,stepM,rd,wr,upd,cL,cHi,cO,cZ,hc,h1,h2,h3,false_and,if_false];rw[if_neg ∅]
def sh(o:Nat)(M:Mem):Mem:=λd i=>M d ((o:Int)+i)
def zbh(W:Int)(M:Mem)(c I:Nat):∀n,yw W M c (I+n)=yw W M c I+W^I*yw W (sh I M) c n
 |0=>by simp[yw]
 |n+1=>by
  rw[show I+(n+1)=I+n+1 by lia,yw,zbh W M c I n,yw,By,GT];have:M c ((I+n:Nat):Int)=sh I M c n:=by unfold sh;congr 1
  rw[this,DP (sh I M c n)];rw[Gj]
def zbP{M:Mem}{o c:Nat}(n:Nat):sh o M c n=M c ((o+n:Nat):Int):=by unfold sh;congr 1
def ziy{w:Nat}(hw:1<=w){M:Mem}{I:Nat}(hg:Good w M 0)(hz:M 122 0=0):∀j:Nat,∃M',yK (2^w) (upTo (inR I) j) M 0=(M',0)/\Good w M' 0/\(∀d (i:Int),d≠108->d≠104->d≠111->(d≠99 \/ i<I \/ (I:Int)+j<=i)->M' d i=M d i) /\
  yw (2^w) (sh I M') 99 j+M' 111 0*(2^w)^j=yw (2^w) (sh I M) 99 j+yw (2^w) M 97 j*M 98 I+M 111 0
 |0=>⟨M,rfl,hg,λ_ _ _ _ _ _=>rfl,by simp[yw]⟩
 |j+1=>by
  let⟨M1,e1,g1,o1,v1⟩:=ziy hw hg hz j;let⟨M2,e2,g2,s2,o2⟩:=zlo hw (I:=I) (J:=j) g1 (by rw[o1 122 0 ⋯ ⋯ ⋯ (.inl ⋯)];exact hz);refine⟨M2,?_,g2,λd i h1 h2 h3 h4=>?_,?_⟩
  .rw[upTo,zH,e1];exact e2
  .rw[o2 d i h1 h2 h3 ∅,o1 d i h1 h2 h3 ∅]
  .rw[o1 97 j ⋯ ⋯ ⋯ (.inl ⋯),o1 98 I ⋯ ⋯ ⋯ (.inl ⋯),o1 99 ((I+j:Nat):Int) ⋯ ⋯ ⋯ (.inr (.inr ∅))]at s2;have hv:yw (2^w) (sh I M2) 99 j=yw (2^w) (sh I M1) 99 j:=zn j λt ht=>by
    rw[zbP,zbP,o2 99 _ ⋯ ⋯ ⋯ (.inr ∅)]
   rw[yw,yw,yw,zbP,zbP,hv,Af];generalize ((2:Int)^w)^j=P at *;generalize (2:Int)^w=W at *;have e3:M2 99 ((I+j:Nat):Int)*P+M2 111 0*(P*W)=(M 97 j*M 98 I+M1 111 0+M 99 ((I+j:Nat):Int))*P:=by
    rw[<-s2,DD,A6 P W,<-BS,A6 (M2 111 0) W]
   rw[DD,DD]at e3;have e4:(yw W M 97 j+M 97 j*P)*M 98 I=yw W M 97 j*M 98 I+M 97 j*M 98 I*P:=by rw[DD,Int.mul_right_comm]
   rw[e4];generalize M2 99 ((I+j:Nat):Int)*P=x1,M2 111 0*(P*W)=x2,M 97 j*M 98 I*P=x3,M1 111 0*P=x4,M 99 ((I+j:Nat):Int)*P=x5,yw W M 97 j*M 98 I=x6 at *;lia
def zoz{w:Nat}(hw:1<=w){M:Mem}{k:Int}{n I:Nat}(hg:Good w M k)(hz:M 122 0=0):∃M',yK (2^w) (yaz n I) M k=(M',0)/\Good w M' 0/\(∀d (i:Int),d≠108->d≠104->d≠111->d≠99->M' d i=M d i) /\
  yw (2^w) M' 99 (n+I+1)=yw (2^w) M 99 (n+I)+yw (2^w) M 97 n*(M 98 I*(2^w)^I):=by
 have hW0:=zg1 hw;have g1:Good w (wr M cO 0) 0:=⟨zV hg.1 cO ∅ ∅,by lia,by lia⟩;have q1:∀d j,d≠111->wr M cO 0 d j=M d j:=λd j h=>by erw[wr,upd,cO,h,false_and,if_false]
 have q2:wr M cO 0 111 0=0:=by simp[wr,upd]
 have hst:yK (2^w) (yaz n I) M k=yK (2^w) (upTo (inR I) n++[.move (99,(I:Int)+n) cO]) (wr M cO 0) 0:=rfl;generalize wr M cO 0=M1 at *;let⟨M2,e2,g2,o2,v2⟩:=ziy hw (I:=I) g1 (by rw[q1 122 0 ⋯];exact hz) n;have hmv:yK (2^w) [.move (99,(I:Int)+n) cO] M2 0=(wr M2 (99,(I:Int)+n) (M2 111 0),0):=rfl;rw[hst,zH,e2];refine⟨_,hmv,⟨zV g2.1 _ (g2.1 _ _).1 (g2.1 _ _).2,by lia,by lia⟩,λd i h1 h2 h3 h4=>?_,?_⟩
 .simp only[wr,upd,h4,false_and,if_false];rw[o2 d i h1 h2 h3 (.inl h4),q1 d i h3]
 .have hlow:∀i:Nat,i<n+I->wr M2 (99,(I:Int)+n) (M2 111 0) 99 i=M2 99 i:=λi hi=>by
   erw[wr,upd];rw[if_neg ∅]
  have htop:wr M2 (99,(I:Int)+n) (M2 111 0) 99 ((n+I:Nat):Int)=M2 111 0:=by
   erw[wr,upd];rw[if_pos ⟨trivial,by lia⟩]
  rw[yw,zn (M':=M2) (c':=99) _ hlow,htop,Nat.add_comm n I,zbh,zbh (2^w) M,GT];have hv1:yw (2^w) M2 99 I=yw (2^w) M 99 I:=zn I λi hi=>by
   rw[o2 99 i ⋯ ⋯ ⋯ (.inr (.inl ∅)),q1 99 i ⋯]
  have hv2:yw (2^w) (sh I M1) 99 n=yw (2^w) (sh I M) 99 n:=zn n λi hi=>by
   rw[zbP,zbP,q1 99 _ ⋯]
  have hv3:yw (2^w) M1 97 n=yw (2^w) M 97 n:=zn n λi hi=>q1 97 i ⋯;rw[hv2,hv3,q1 98 I ⋯,q2,Bq]at v2;rw[hv1];generalize ((2:Int)^w)^I=P,((2:Int)^w)^n=N,yw (2^w) (sh I M2) 99 n=x1,yw (2^w) (sh I M) 99 n=x2,yw (2^w) M 97 n=A at *;have e:P*x1+M2 111 0*(P*N)=P*(x2+A*M 98 I):=by
   rw[<-v2,By,DP (M2 111 0) P N]
  rw[By,DP P A,A6 P (M 98 I)]at e;lia
def zik{w:Nat}(hw:1<=w){M:Mem}{n:Nat}(hg:Good w M 0)(hz:M 122 0=0)(hc:yw (2^w) M 99 n=0):∀I:Nat,∃M',yK (2^w) (upTo (yaz n) I) M 0=(M',0)/\Good w M' 0/\(∀d (i:Int),d≠108->d≠104->d≠111->d≠99->M' d i=M d i) /\
  yw (2^w) M' 99 (n+I)=yw (2^w) M 97 n*yw (2^w) M 98 I
 |0=>⟨M,rfl,hg,λ_ _ _ _ _ _=>rfl,by simp[yw,hc]⟩
 |I+1=>by
  let⟨M1,e1,g1,o1,v1⟩:=zik hw hg hz hc I;let⟨M2,e2,g2,o2,v2⟩:=zoz hw (n:=n) (I:=I) g1 (by rw[o1 122 0 ⋯ ⋯ ⋯ ⋯];exact hz);refine⟨M2,?_,g2,λd i h1 h2 h3 h4=>by rw[o2 d i h1 h2 h3 h4,o1 d i h1 h2 h3 h4],?_⟩
  .rw[upTo,zH,e1];exact e2
  .rw[show n+(I+1)=n+I+1 by lia,v2,v1,zn (M:=M1) (M':=M) (c:=97) (c':=97) n λi hi=>o1 97 i ⋯ ⋯ ⋯ ⋯,o1 98 I ⋯ ⋯ ⋯ ⋯,yw,By]
def oL:Op:=cx 108 0 0 0 0
def oHi:Op:=cx 104 0 0 0 0
def oO:Op:=cx 111 0 0 0 0
def inT:List Rs:=[rS "times" [oL,oHi,cx 97 0 0 1 0,cx 98 0 1 0 0],rS "sum" [oL,oL,oO],rS "sum" [oHi,oHi,oZ],rS "sum" [cx 99 0 1 1 0,cx 99 0 1 1 0,oL],rS "sum" [oO,oHi,oZ]]
def ybm:T1:=.rounds 0 1 0 [.row (rS "mark" [.fig 0]),.row (rS "set" [oO,.fig 0]),.rounds 0 1 0 inT,.row (rS "move" [cx 99 0 1 0 1,oO])]
def zbR{g:Nat->List PV}{f:Nat->List Rw}(h:∀I:Nat,g I=(f I).map yM):∀n,upTo g n=(upTo f n).map yM
 |0=>rfl
 |n+1=>by rw[upTo,upTo,zbR h n,h n,Cz]
def zkN(w:Int)(n:Nat):cnt 0 2 0 w n=2*n:=by simp[cnt];lia
def zlc(w:Int)(n:Nat):yC w n (ycT 0 2)=(yac (2*n)).map yM:=by
 have hh:=zf4 (g:=λI=>yak w n I [.row (rS "any" [oS,oS,cx 99 0 1 0 0])]) (f:=λi=>.any cS cS (99,i)) (λI=>by simp[yak,T2.rows,znF]) (2*n);have hl:(0:Int)-1+2*(n:Int)=((2*n:Nat):Int)-1:=by lia
 erw[yC,ycT,BP,Bj,T1.rows,zkN,hh,yac,Cz,AL,Ai,Ap];erw[Rs.pv,rS,Op.pv,oS,oT,oZ,oM,cx,Cx.at,yM,yx,hl,AL,Ai,Aa,Av,B8,Bq]
def zpu(n:Int)(I J:Nat):(inT.map λr=>r.pv I J n)=(inR I J).map yM:=by
 simp[inT,inR,Rs.pv,rS,Op.pv,oL,oHi,oO,oZ,cx,Cx.at,yM,yx]
def zmg(w:Int)(n:Nat):T1.rows w n ybm=(yam n).map yM:=by
 unfold ybm yam;rw[T1.rows,ze1];refine zbR (λI=>?_) n;have h:=zbR (g:=λJ=>inT.map λr=>r.pv I J n) (f:=inR I) (zpu n I) n;have hm:(0:Int)+1*(I:Int)+1*(n:Int)=(I:Int)+n:=by lia
 erw[yak,BP,Bj,Ap,T2.rows,ze1,h,yaz,AL,Cz,Ai,Aa,Av];erw[Rs.pv,rS,Op.pv,oO,cx,Cx.at,yM,yx,AL,Ai,B8,Bq,hm]
def zjg(w:Int)(n:Nat):T1.rnd w n ybm=n*(1+n):=by simp[ybm,T1.rnd,ybw,T2.rnd,ze1]
def zjb(w:Int)(n:Nat):yav w n (ycT 0 2)=2*n:=by simp[yav,ycT,T1.rnd,zkN,ybw,T2.rnd]
def zb2{f:Nat->List Rw}{c:Nat}(h:∀i,(f i).length=c):∀k,(upTo f k).length=k*c
 |0=>by simp[upTo]
 |k+1=>by rw[upTo,A8,zb2 h k,h,Fr]
def zeW(n:Nat):(yam n).length=n*(n*5+3):=zb2 (λI=>by simp[yaz,zb2 (f:=inR I) (c:=5) (λ_=>rfl)]) n
def zdY{f:Int->Rw}{r:Rw}:∀{n:Nat},r∈yS f n->∃i:Nat,i<n/\r=f i
 |0,h=>by simp[yS]at h
 |n+1,h=>by
  rw[yS,B1]at h;rcases h with h|h
  .let⟨i,hi,e⟩:=zdY h;exact⟨i,by lia,e⟩
  .simp at h;exact⟨n,by lia,h⟩
def zck{f:Nat->List Rw}{r:Rw}:∀{n:Nat},r∈upTo f n->∃i:Nat,i<n/\r∈f i
 |0,h=>by simp[upTo]at h
 |n+1,h=>by
  rw[upTo,B1]at h;rcases h with h|h
  .let⟨i,hi,e⟩:=zck h;exact⟨i,by lia,e⟩
  .exact⟨n,by lia,h⟩
def zoN{n:Nat}(hn:1<=n)(hn2:n<=8):∀r∈yac n,ybo r:=by
 intro r hr;erw[yac,B1,AR,A7,or_false]at hr;rcases hr with (rfl|hr)|rfl|rfl|rfl|rfl|rfl
 case inl.inr=>let⟨i,hi,rfl⟩:=zdY hr;erw[ybo,yaa];lia
 all_goals erw[ybo,yaa];lia
def zok:∀r,ybo r->okD r
 |.mark _,h=>h
 |.set _ _,h=>h.2
 |.times _ _ _ _,_ | .ask _,_ | .move _ _,_ | .bare _ _,_ | .twice _ _,_ | .half _ _,_ | .sum _ _ _,_ | .less _ _ _,_ | .both _ _ _,_ | .any _ _ _,_ | .odd _ _ _,_=>trivial
def zqr{pr:Prop}{nm:AN}{xs:List PV}{b:Bool}{vs:List PV}{ps:List T1}{rs:List Rw}{w n na:Nat}(hw:w<=16)(hn2:n<=4)(nl:nLs xs=AB)(i0:∀st,idxV st (.tp AC (.str nm::xs)) (.int 0)=AA (.str nm))
  (e0:yc T 18 yg3 [.tp AC (.str nm::xs)] []=.ok (.tp b vs) []) (c1:yaJ vs=AA ps) (c2:nLs vs=AB) (c3:isOk (yc T 16 yl [.tp b vs] []) (.bl AB)=AB) (c4:isOk (yc T 20 yim [.tp AC (.str nm::xs)] []) (.bl AB)=AB)
  (hp:pr->yc T 20 yg4 [.tp AC (.str nm::xs)] []=.ok (.bl AB) []) (pv:yC w n ps=rs.map yM) (ok:∀r∈rs,ybo r) (hl:rs.length<=4000) (hr:yav w n ps<=4000) (ha:ak1 w n ps<=500000)
  (q3:yu .isin (.str nm) yeK=AA (.bl AC)) (hA:yc T 20 ym [.tp AC (.str nm::xs),.int n] []=.ok (.int na) []):ydx pr (.tp AC (.str nm::xs)) w n na rs:=by
 have nl:nL (.tp AC (.str nm::xs))=true:=by simp[nL,nLs,nl]
 generalize PV.tp AC (.str nm::xs)=d at *;have nl1:nLs [d]=true:=by simp[nLs,nl]
 have rw':∀x∈yC w n ps,ybt x:=λx hx=>by
  rw[pv,Fq]at hx;let⟨r,hr,rfl⟩:=hx;exact zgG r (ok r hr)
 have ht:∀st,yc T (1+18) yg3 [d] st=.ok (.tp b vs) st:=λst=>by
  have:=zak e0 1;rw[show 18+1=18+0+1 by lia]at this;exact zbL (f:=yg3) (fn:=yid) rfl rfl rfl nl1 this st
 have hit:∀st,yc T (1+16) yl [.tp b vs] st=.ok (.bl AB) st:=λst=>by
  have:=zak (zdH c3) 1;exact zbL (f:=yl) (fn:=yic) rfl rfl rfl (by simp[nLs,nL,c2]) this st
 have rows:=zhX 1 (w:=w) (n:=n) nl ht c2 c1 ∅ ∅ ∅ ∅ (by rw[pv,BD];exact hl) hr ha rw' hit [];rw[pv]at rows;have hT2:T yg5=AA yy:=rfl;have nl2:nLs [d,.int n]=true:=by simp[nLs,nl,nL]
 refine⟨nl,zdH c4,hp,λst=>by rw[i0,B7,q3],rows,λr hr=>?_,hA,?_⟩
 .have hv:nL (yM r)=true:=by cases r<;>rfl
  exact zmm hv (zgG r (ok r hr)) 9 []
 .rw[show (20:Nat)=19+1 from rfl,zc hT2 rfl rfl nl2];simp! [yy,i0,q3,IC.ve9];rfl
theorem aw{pb:Bool}{nm:AN}{xs:List PV}{n:Nat}(nl:nLs xs=AB)(i0:∀st,idxV st (.tp AC (.str nm::xs)) (.int 0)=AA (.str nm))(q1:yu .eq (.str nm) (.str "compare")=AA (.bl AC))(q2:yu .eq (.str nm) (.str "led")=AA (.bl AC))(q4:yu .isin (.str nm) yhe=AA (.bl pb)):yc T 20 ym [.tp AC (.str nm::xs),.int n] []=.ok (.int (if pb=AB then 2*n else n:Nat)) []:=by
 have nl:nL (.tp AC (.str nm::xs))=true:=by simp[nL,nLs,nl]
 generalize PV.tp AC (.str nm::xs)=d at *;have hT1:T ym=AA yv:=rfl;have nl2:nLs [d,.int n]=true:=by simp[nLs,nl,nL]
 rw[show (20:Nat)=19+1 from rfl,zc hT1 rfl rfl nl2]
 cases pb<;>simp! [yv,i0,q1,q2,q4]<;>rfl
abbrev cG:Cel:=(103,0)
def ybg(to last:Cel)(sg:Bool):List Rw:=[if sg=AB then .twice cT last else .mark 0,.less to cZ cZ]
def zja{P C t kG:Int}{sm:Bool}(c0:0<=C)(c1:C<P)(hk:kG=if sm=AB/\P<=2*C then 1 else 0):(if sm=AB then yaH P (C+P*t)else decide (0<=C+P*t)&&decide (C+P*t<P))=decide (t=-kG):=by
 have hP:0<P:=by lia
 rcases (by lia:t<=-2 \/ t=-1 \/ t=0 \/ 1<=t)with h|rfl|rfl|h
 .have h1:P*t<=P*(-2):=BH h ∅;rw[decide_eq_false (by split at hk<;>lia:¬t=-kG)];generalize P*t=Q at *
  cases sm<;>simp[yaH]<;>lia
 .cases sm
  .rw[if_neg (by simp)]at hk ⊢;subst hk;simp;lia
  .by_cases q:P<=2*C
   .rw[if_pos ⟨rfl,q⟩]at hk;subst hk;simp[yaH];lia
   .rw[if_neg (by simp[q])]at hk;subst hk;simp[yaH];lia
 .cases sm
  .rw[if_neg (by simp)]at hk ⊢;subst hk;simp;lia
  .by_cases q:P<=2*C
   .rw[if_pos ⟨rfl,q⟩]at hk;subst hk;simp[yaH];lia
   .rw[if_neg (by simp[q])]at hk;subst hk;simp[yaH];lia
 .have h1:P*1<=P*t:=BH h ∅;rw[decide_eq_false (by split at hk<;>lia:¬t=-kG)];generalize P*t=Q at *
  cases sm<;>simp[yaH]<;>lia
def ziE{w:Nat}(hw:1<w)(M:Mem){k:Int}(k0:0<=k)(k1:k<=1)(to last:Cel)(sg:Bool)(ht:to.1≠116)(hl:last.1≠116)(hz:M 122 0=0)(l0:0<=rd M last)(l1:rd M last<2^w):
  ∃M' k',yK (2^w) (ybg to last sg) M k=(M',k')/\0<=k'/\k'<=1/\k'=(if sg=AB then tb w (rd M last)else 0)/\M' to.1 to.2=k' * (2^w-1)/\∀d j,d≠116->(d≠to.1 \/ j≠to.2)->M' d j=M d j:=by
 have hW4:(4:Int)<=2^w:=by
  have h:(2:Nat)^2<=2^w:=Am ∅ ∅;have h2:=pw w;lia
 have hv:∀q:Int,0<=q->q<=1->(0-0-q)%(2:Int)^w=q*(2^w-1)/\bi (decide (0-0-q<0))=q:=λq q0 q1=>by
  rcases (by lia:q=0 \/ q=1)with rfl|rfl
  .simp;rfl
  .refine⟨?_,rfl⟩;rw[show (0:Int)-0-1=(2^w-1)+2^w*(-1)by lia,Bn,Ak ∅ ∅,BJ]
 cases sg
 .simp only[ybg,yK,stepM,Be,if_false,rd,cZ,hz];let⟨a,b⟩:=hv 0 ∅ ∅;refine⟨_,_,rfl,?_,?_,?_,?_,λd j h1 h2=>?_⟩
  .rw[b];lia
  .rw[b];lia
  .rw[b]
  .rw[b];simp[wr,upd]
  .simp only[wr,upd];rw[if_neg ∅]
 .have hm:(2*rd M last+k)/2^w=tb w (rd M last):=by
   have hH:(2:Int)^w=2*2^(w-1):=by
    obtain⟨v,rfl⟩:∃v,w=v+1:=⟨w-1,by lia⟩;rw[show v+1-1=v by lia,Af,A6]
   unfold tb;rw[hH,<-Bi ∅,<-Bi ∅,show (2*rd M last+k)/2=rd M last by lia,show 2*rd M last/2=rd M last by lia]
  have hq:0<=tb w (rd M last)/\tb w (rd M last)<=1:=by
   rw[ziJ ∅ l0 l1];split<;>lia
  let⟨a,b⟩:=hv _ hq.1 hq.2;have hz2:∀v:Int,wr M cT v 122 0=0:=λv=>by simp[wr,upd,hz]
  erw[ybg,yK,stepM,if_true,hm];refine⟨_,_,rfl,?_,?_,?_,?_,λd j h1 h2=>?_⟩<;>erw[rd,cZ,hz2]
  .rw[show bi (decide (0-0-tb w (M last.1 last.2)<0))=tb w (M last.1 last.2)from b];exact hq.1
  .rw[show bi (decide (0-0-tb w (M last.1 last.2)<0))=tb w (M last.1 last.2)from b];exact hq.2
  .exact b
  .rw[show bi (decide (0-0-tb w (M last.1 last.2)<0))=tb w (M last.1 last.2)from b,show (0-0-tb w (M last.1 last.2))%2^w=tb w (M last.1 last.2)*(2^w-1)from a];simp[wr,upd]
  .simp only[wr,upd,cT];rw[if_neg ∅,if_neg ∅]
def zlN{a b:Int}(a0:0<=a)(b0:0<=b):0<=BY a b/\(BY a b=0 ↔ a=b):=by
 obtain⟨x,rfl⟩:∃x:Nat,a=x:=⟨a.toNat,by lia⟩;obtain⟨y,rfl⟩:∃y:Nat,b=y:=⟨b.toNat,by lia⟩;rw[zkS];refine⟨by lia,?_⟩;have:x ^^^ y=0 ↔ x=y:=⟨λh=>by
  have e:(x ^^^ y) ^^^ y=x:=by rw[Nat.xor_assoc,HB,Nat.xor_zero]
  rw[h,Nat.zero_xor]at e;exact e.symm,λh=>by rw[h,HB]⟩
 lia
def zo6{a b:Int}(a0:0<=a)(b0:0<=b):0<=B2 a b:=by
 obtain⟨x,rfl⟩:∃x:Nat,a=x:=⟨a.toNat,by lia⟩;obtain⟨y,rfl⟩:∃y:Nat,b=y:=⟨b.toNat,by lia⟩;rw[zdU];lia
abbrev cI:Cel:=(105,0)
abbrev cJ:Cel:=(106,0)
abbrev cP:Cel:=(112,0)
abbrev cW:Cel:=(119,0)
def yQ(c2:Nat)(sg:Cel)(n I:Nat):List Rw:=[.times cL cHi (c2,I) sg,.less (99,(n:Int)+I) (99,(n:Int)+I) cL]
def yaf(c2:Nat)(sg:Cel)(n:Nat):List Rw:=upTo (yQ c2 sg n) n
def yU(n:Nat):List Rw:=upTo (λi=>[.odd cT (99,(n:Int)+i) cG,.any cW cW cT]) n
def yP(n:Nat):List Rw:=[.twice cT (97,(n:Int)-1),.sum cI cZ cZ,.twice cT (98,(n:Int)-1),.sum cJ cZ cZ]
def yF(n:Nat):List Rw:=yP n++(yam n++(yaf 98 cI n++(.sum cP cZ cZ::(yaf 97 cJ n++(ybg cG (99,(n:Int)-1) AB++(yU n++(.ask cW :: .sum (109,1) cZ cZ::yac (2*n))))))))
def zcw{w:Nat}(hw:1<=w){c2:Nat}{sg:Cel}{n:Nat}(hc:c2=97 \/ c2=98)(hsg:sg=cI \/ sg=cJ){M:Mem}(hg:Good w M 0)(s:Int)(hs:rd M sg=s)(s01:s=0 \/ s=1):∀j:Nat,∃M' k',yK (2^w) (upTo (yQ c2 sg n) j) M 0=(M',k')/\Good w M' k'/\(∀d (i:Int),d≠108->d≠104->(d≠99 \/ i<n \/ (n:Int)+j<=i)->M' d i=M d i) /\
  yw (2^w) (sh n M') 99 j=yw (2^w) (sh n M) 99 j-s*yw (2^w) M c2 j+k' * (2^w)^j
 |0=>⟨M,0,rfl,hg,λ_ _ _ _ _=>rfl,by simp[yw]⟩
 |j+1=>by
  let⟨M1,k1,e1,g1,o1,v1⟩:=zcw hw (n:=n) hc hsg hg s hs s01 j;have hW2:=zg1 hw;have hc2:c2≠108/\c2≠104/\c2≠99:=by rcases hc with rfl|rfl<;>decide
  have hA:M1 c2 j=M c2 j:=o1 c2 j hc2.1 hc2.2.1 (.inl hc2.2.2);have hS:rd M1 sg=s:=by
   rw[<-hs];rcases hsg with rfl|rfl
   .exact o1 105 0 ⋯ ⋯ (.inl ⋯)
   .exact o1 106 0 ⋯ ⋯ (.inl ⋯)
  have hC:M1 99 ((n+j:Nat):Int)=M 99 ((n+j:Nat):Int):=o1 99 _ ⋯ ⋯ (.inr (.inr ∅));have hcc:(n:Int)+(j:Int)=((n+j:Nat):Int):=by lia
  let⟨a0,a1⟩:=hg.1 c2 j;let⟨c0,c1⟩:=hg.1 99 ((n+j:Nat):Int);let⟨_,k0,k1'⟩:=id g1;have hp:M c2 j*s%2^w=M c2 j*s:=by
   rcases s01 with rfl|rfl
   .simp
   .rw[CU];exact Ak a0 a1
  have hpr:0<=M c2 j*s/\M c2 j*s<2^w:=by
   rcases s01 with rfl|rfl
   .rw[Fu];lia
   .rw[CU];exact⟨a0,a1⟩
  have hgg:=zbY hw (yQ c2 sg n j) g1 (λr hr=>by
   erw[yQ,AR,A7,or_false]at hr;rcases hr with rfl|rfl<;>trivial)
  have hrun:yK (2^w) (yQ c2 sg n j) M1 k1=(wr (wr (wr M1 cL (M c2 j*s)) cHi (M c2 j*s/2^w)) (99,((n+j:Nat):Int)) ((M 99 ((n+j:Nat):Int)-M c2 j*s-k1)%2^w),bi (decide (M 99 ((n+j:Nat):Int)-M c2 j*s-k1<0))):=by
   erw[yQ,yK,stepM,hS,hcc];have r1:rd M1 (c2,(j:Int))=M c2 j:=hA;rw[r1,hp];have r2:rd (wr (wr M1 cL (M c2 j*s)) cHi (M c2 j*s/2^w)) (99,((n+j:Nat):Int))=M 99 ((n+j:Nat):Int):=by
    erw[rd,wr,upd,cL,cHi];simp;exact hC
   have r3:rd (wr (wr M1 cL (M c2 j*s)) cHi (M c2 j*s/2^w)) cL=M c2 j*s:=by
    simp[rd,wr,upd]
   rw[r2,r3]
  rw[hrun]at hgg;refine⟨_,_,by rw[upTo,zH,e1];exact hrun,hgg,λd i h1 h2 h3=>?_,?_⟩
  .simp only[wr,upd,cL,cHi,h1,h2,false_and,if_false];rw[if_neg ∅,o1 d i h1 h2 ∅]
  .have hv:yw (2^w) (sh n (wr (wr (wr M1 cL (M c2 j*s)) cHi (M c2 j*s/2^w)) (99,((n+j:Nat):Int)) ((M 99 ((n+j:Nat):Int)-M c2 j*s-k1)%2^w))) 99 j=yw (2^w) (sh n M1) 99 j:=zn j λt ht=>by
    rw[zbP,zbP];erw[wr,upd,cL,cHi];simp;lia
   have ht:sh n (wr (wr (wr M1 cL (M c2 j*s)) cHi (M c2 j*s/2^w)) (99,((n+j:Nat):Int)) ((M 99 ((n+j:Nat):Int)-M c2 j*s-k1)%2^w)) 99 j=(M 99 ((n+j:Nat):Int)-M c2 j*s-k1)%2^w:=by
    rw[zbP];simp[wr,upd]
   rw[yw,hv,ht,v1,yw,zbP,yw,Af];generalize hx:M c2 j*s=x at *;have hb:(M 99 ((n+j:Nat):Int)-x-k1)%2^w=M 99 ((n+j:Nat):Int)-x-k1+bi (decide (M 99 ((n+j:Nat):Int)-x-k1<0))*2^w:=by
    by_cases q:M 99 ((n+j:Nat):Int)-x-k1<0
    .rw[decide_eq_true q,show bi AB=1 from rfl,BJ,<-Int.add_emod_right,Ak ∅ ∅]
    .rw[decide_eq_false q,show bi AC=0 from rfl,B8,Bq,Ak ∅ ∅]
   rw[hb,By s,<-BS s,A6 s (M c2 j),hx];generalize bi (decide (M 99 ((n+j:Nat):Int)-x-k1<0))=k2;generalize ((2:Int)^w)^j=P;generalize (2:Int)^w=W;rw[DD,Bw,Bw,BS k2 W P,A6 W P];generalize M 99 ((n+j:Nat):Int)*P=y1;generalize x*P=y2;generalize k1*P=y3;generalize k2*(P*W)=y4;generalize s*yw W M c2 j=y5;lia
def zdh{W:Int}(M:Mem)(k:Int)(n:Nat)(hH:0<=M 119 0)(hG:0<=M 103 0):∀e:Nat,(∀i:Nat,i<e->0<=M 99 ((n+i:Nat):Int)) ->
  (yK W (upTo (λi=>[.odd cT (99,(n:Int)+i) cG,.any cW cW cT]) e) M k).2=k/\(∀d j,d≠116->d≠119->(yK W (upTo (λi=>[.odd cT (99,(n:Int)+i) cG,.any cW cW cT]) e) M k).1 d j=M d j)/\0<=(yK W (upTo (λi=>[.odd cT (99,(n:Int)+i) cG,.any cW cW cT]) e) M k).1 119 0/\((yK W (upTo (λi=>[.odd cT (99,(n:Int)+i) cG,.any cW cW cT]) e) M k).1 119 0=0 ↔ M 119 0=0/\∀i:Nat,i<e->M 99 ((n+i:Nat):Int)=M 103 0)
 |0,_=>⟨rfl,λ_ _ _ _=>rfl,hH,by simp[upTo,yK]⟩
 |e+1,h=>by
  let⟨h1,h2,h3,h4⟩:=zdh (W:=W) M k n hH hG e λi hi=>h i ∅;rw[upTo,zH];generalize yK W (upTo (λi=>[.odd cT (99,(n:Int)+i) cG,.any cW cW cT]) e) M k=R at *;let⟨M1,k'⟩:=R;simp only at *;subst h1;have hb:=h e ∅;let⟨x0,x1⟩:=zlN hb hG;have z0:=zo6 h3 x0;have z1:=ziU h3 x0;have hc:(n:Int)+(e:Int)=((n+e:Nat):Int):=by lia
  erw[yK,stepM,wr,rd,cT,cG,cW,hc,h2 99 _ ⋯ ⋯,h2 103 _ ⋯ ⋯];erw[upd,DZ,false_and,if_false,and_self,if_true];refine⟨trivial,λd j a b=>?_,z0,?_⟩
  .rw[if_neg ∅,if_neg ∅,h2 d j a b]
  .rw[z1,h4,x1];constructor
   .rintro⟨⟨a,b⟩,c⟩
    refine⟨a,λi hi=>?_⟩;rcases CJ i e with z|z
    .exact b i z
    .rw[show i=e by lia];exact c
   .rintro⟨a,b⟩
    exact⟨⟨a,λi hi=>b i ∅⟩,b e ∅⟩
def zgp{W:Int}(hW:0<W){M:Mem}{c:Nat}{q:Int}(hq:q=0 \/ q=1):∀n,Dg W M c n->((∀i:Nat,i<n->M c i=q*(W-1)) ↔ yw W M c n=q*(W^n-1))
 |0,_=>by simp[yw]
 |n+1,h=>by
  have ih:=zgp hW hq n h.mono;let⟨a,b⟩:=zbA hW n h.mono;let⟨c0,c1⟩:=h n ∅;have hp:0<W^n:=Ab hW;rw[yw,Af];constructor
  .intro h2;rw[ih.1 λi hi=>h2 i ∅,h2 n ∅];rcases hq with rfl|rfl
   .simp
   .rw[BJ,BJ,BJ,Bw,BJ,A6 W];lia
  .intro h2;have hd:M c n=q*(W-1):=by
    rcases hq with rfl|rfl
    .rw[B8]at h2 ⊢;have h1:0<=M c n*W^n:=Bp c0 (by omega);have h3:M c n*W^n=0:=by omega
     rcases GZ.1 h3 with z|z
     .exact z
     .lia
    .rw[BJ]at h2 ⊢;rcases (by lia:M c n=W-1 \/ M c n<=W-2)with z|z
     .exact z
     .have h1:M c n*W^n<=(W-2)*W^n:=BC z ∅;rw[Bw,A6 W]at h1;generalize W^n*W=y at *;lia
   have hv:yw W M c n=q*(W^n-1):=by
    rw[hd]at h2;rcases hq with rfl|rfl
    .rw[B8,B8,B8]at h2;rw[B8];lia
    .rw[BJ,BJ,Bw,BJ,A6 W]at h2;rw[BJ];lia
   intro i hi;rcases CJ i n with z|z
   .exact(ih.2 hv) i z
   .rw[show i=n by lia];exact hd
def zhd{T X Y L H H1 H2 k1 k2 sx sy kG:Int}(hT:2<=T)(x0:0<=X)(x1:X<T)(y0:0<=Y)(y1:Y<T)(hsx:sx=if T<=2*X then 1 else 0)(hsy:sy=if T<=2*Y then 1 else 0)
  (hxy:X*Y=L+T*H) (l0:0<=L) (l1:L<T) (h1:H1=H-sx*Y+k1*T) (h2:H2=H1-sy*X+k2*T) (a0:0<=H2) (a1:H2<T) (hkG:kG=if T<=2*L then 1 else 0):
  (sgd T X*sgd T Y)%(T*T)=L+T*H2/\yaH T (sgd T X*sgd T Y)=decide (H2=kG*(T-1)):=by
 have hX:sgd T X=X-sx*T:=by
  unfold sgd;rw[hsx];split<;>lia
 have hY:sgd T Y=Y-sy*T:=by
  unfold sgd;rw[hsy];split<;>lia
 have bx:-T<=2*sgd T X/\2*sgd T X<T:=by unfold sgd;split<;>lia
 have bw:-T<=2*sgd T Y/\2*sgd T Y<T:=by unfold sgd;split<;>lia
 have hP:sgd T X*sgd T Y=L+T*H2+T*T*(sx*sy-k1-k2):=by
  rw[hX,hY,h2,h1];have e1:(X-sx*T)*(Y-sy*T)=X*Y-T*(sx*Y)-T*(sy*X)+T*T*(sx*sy):=by
   rw[Bw,CK,CK];have z1:X*(sy*T)=T*(sy*X):=by ac_rfl
   have z2:sx*T*Y=T*(sx*Y):=by ac_rfl
   have z3:sx*T*(sy*T)=T*T*(sx*sy):=by ac_rfl
   lia
  have e2:T*(H-sx*Y+k1*T-sy*X+k2*T)=T*H-T*(sx*Y)-T*(sy*X)+T*T*k1+T*T*k2:=by
   rw[By,CK,By,CK];have z1:T*(k1*T)=T*T*k1:=by ac_rfl
   have z2:T*(k2*T)=T*T*k2:=by ac_rfl
   lia
  rw[e1,e2,hxy,CK,CK];lia
 have hTT:0<T*T:=GS ∅ ∅;have hC0:0<=T*H2:=Bp ∅ a0;have hC1:T*H2<=T*(T-1):=BH ∅ ∅;rw[CK]at hC1;have hab:∀a b:Int,-T<=a->a<=T->-T<=b->b<=T->-(T*T)<=a*b/\a*b<=T*T:=λa b p1 p2 p3 p4=>by
  have n1:a.natAbs<=T.natAbs:=by lia
  have n2:b.natAbs<=T.natAbs:=by lia
  have n3:=BO n1 n2;rw[<-DO,<-DO]at n3;lia
 have hb:=hab (2*sgd T X) (2*sgd T Y) bx.1 ∅ bw.1 ∅;rw[show 2*sgd T X*(2*sgd T Y)=4*(sgd T X*sgd T Y)by rw[BS,DP (sgd T X)];lia]at hb;generalize sx*sy-k1-k2=e,sgd T X*sgd T Y=P at *;refine⟨by rw[hP,Bn];exact Ak ∅ ∅,?_⟩;have hfit:=zja (P:=T) (C:=L) (t:=H2+T*e) (kG:=kG) (sm:=AB) l0 l1 (by rw[hkG];simp);rw[if_pos rfl,show L+T*(H2+T*e)=P by rw[hP,By,BS];lia]at hfit;rw[hfit];have he:e=0 \/ e=-1:=by
  rcases (by lia:e<=-2 \/ e=-1 \/ e=0 \/ 1<=e)with z|z|z|z
  .have:=BH z (show 0<=T*T by lia);lia
  .exact .inr z
  .exact .inl z
  .have:=BH z (show 0<=T*T by lia);lia
 have hTL:T*2<=T*T:=BH hT ∅
 congr 1
 apply propext;rcases (show kG=0 \/ kG=1 by rw[hkG];split<;>simp)with z|z<;>subst z
 .rw[B8];rcases he with rfl|rfl
  .rw[Fu];lia
  .constructor
   .intro q;lia
   .intro q;subst q;rw[Fu]at hP;lia
 .rw[BJ];rcases he with rfl|rfl
  .constructor
   .intro q;lia
   .intro q;subst q;rw[CK]at hP;lia
  .lia
def zcU{w:Nat}(hw:1<=w){M:Mem}{k:Int}(c:Cel)(hz:M 122 0=0)(k0:0<=k)(k1:k<=1):stepM (2^w) M k (.sum c cZ cZ)=(wr M c k,0):=by
 have hW2:=zg1 hw;erw[stepM,rd,cZ,hz];rw[show (0:Int)+0+k=k by lia,Ak k0 ∅,BR k0 ∅]
def ziQ{w:Nat}(hw:1<w){n:Nat}{M:Mem}(hg:Good w M 0)(hz:M 122 0=0):∃M',yK (2^w) (yP (n+1)) M 0=(M',0)/\Good w M' 0/\M' 105 0=tb w (M 97 n)/\M' 106 0=tb w (M 98 n)/\∀d j,d≠116->d≠105->d≠106->M' d j=M d j:=by
 have hgg:=zbY (by lia:1<=w) (yP (n+1)) hg (λr hr=>by
  erw[yP,AR,A7,or_false]at hr;rcases hr with rfl|rfl|rfl|rfl<;>trivial)
 have hn:((n+1:Nat):Int)-1=n:=by lia
 have q:∀a:Int,0<=a->a<2^w->0<=tb w a/\tb w a<=1:=λa a0 a1=>by rw[ziJ ∅ a0 a1];split<;>lia
 have qa:=q _ (hg.1 97 n).1 (hg.1 97 n).2;have qb:=q _ (hg.1 98 n).1 (hg.1 98 n).2;have hrun:yK (2^w) (yP (n+1)) M 0=(wr (wr (wr (wr M cT ((2*M 97 n+0)%2^w)) cI (tb w (M 97 n))) cT ((2*M 98 n+0)%2^w)) cJ (tb w (M 98 n)),0):=by
  have e:yP (n+1)=[.twice cT (97,(n:Int)),.sum cI cZ cZ,.twice cT (98,(n:Int)),.sum cJ cZ cZ]:=by rw[yP,hn]
  rw[e,zam,zam,zam,zam,yK];have s1:stepM (2^w) M 0 (.twice cT (97,(n:Int)))=(wr M cT ((2*M 97 n+0)%2^w),tb w (M 97 n)):=by erw[stepM,rd,tb,Bq]
  rw[s1];simp only;rw[zcU ∅ cI (by simp[wr,upd,hz]) qa.1 qa.2];simp only;have s3:stepM (2^w) (wr (wr M cT ((2*M 97 n+0)%2^w)) cI (tb w (M 97 n))) 0 (.twice cT (98,(n:Int)))=(wr (wr (wr M cT ((2*M 97 n+0)%2^w)) cI (tb w (M 97 n))) cT ((2*M 98 n+0)%2^w),tb w (M 98 n)):=by
   have:rd (wr (wr M cT ((2*M 97 n+0)%2^w)) cI (tb w (M 97 n))) (98,(n:Int))=M 98 n:=by simp[rd,wr,upd]
   refine HI ?_ ?_
   .simp only[stepM];rw[this]
   .simp only[stepM];rw[this,Bq];rfl
  rw[s3];simp only;rw[zcU ∅ cJ (by simp[wr,upd,hz]) qb.1 qb.2]
 rw[hrun]at hgg;refine⟨_,hrun,hgg,by simp[wr,upd],by simp[wr,upd],λd j h1 h2 h3=>?_⟩;erw[wr,upd,cT,cI,cJ,h1,h2,h3,false_and,if_false]
def zgN{w:Nat}(hw:1<w){n:Nat}{x y:Int}(x0:0<=x)(x1:x<(2^w:Int)^(n+1))(y0:0<=y)(y1:y<(2^w:Int)^(n+1)){P:Int}(hP:P=sgd ((2^w:Int)^(n+1)) x*sgd ((2^w:Int)^(n+1)) y):
  yw (2^w) (yK (2^w) (yF (n+1)) (yaD (2^w) (n+1) x y) 0).1 99 (2*(n+1))=P%(2^w:Int)^(2*(n+1)) /\
  (yK (2^w) (yF (n+1)) (yaD (2^w) (n+1) x y) 0).1 109 0=0 /\
  (yK (2^w) (yF (n+1)) (yaD (2^w) (n+1) x y) 0).1 109 1=bi (!yaH ((2^w:Int)^(n+1)) P) /\
  (yK (2^w) (yF (n+1)) (yaD (2^w) (n+1) x y) 0).1 109 2=bi (P%(2^w:Int)^(2*(n+1))==0) /\
  (yK (2^w) (yF (n+1)) (yaD (2^w) (n+1) x y) 0).1 109 3=bi (decide ((2^w:Int)^(2*(n+1))<=2*(P%(2^w:Int)^(2*(n+1))))):=by
 have hW:(0:Int)<2^w:=Ab ∅;have hw1:1<=w:=by lia
 have hg:=zf5 (w:=w) hw1 (n+1) x y;have hZ0:yaD (2^w) (n+1) x y 122 0=0:=zjF _ _ _ ⋯ ⋯ _;have hM0:∀i,yaD (2^w) (n+1) x y 109 i=0:=λi=>zjF _ _ _ ⋯ ⋯ _;have hL0:yaD (2^w) (n+1) x y 119 0=0:=zjF _ _ _ ⋯ ⋯ _;have hc0:∀i:Int,yaD (2^w) (n+1) x y 99 i=0:=λi=>zjF _ _ _ ⋯ ⋯ _;have hva:=znc (n+1) x y hW x0 x1;have hvb:=zm7 (n+1) x y hW y0 y1;have hta:=zex (w:=w) ∅ (znT (n+1) x y hW);have htb:=zex (w:=w) ∅ (zon (n+1) x y hW);rw[hva]at hta;rw[hvb]at htb;generalize yaD (2^w) (n+1) x y=A at *;let⟨M1,e1,g1,i1,j1,o1⟩:=ziQ hw (n:=n) hg hZ0;have ha1:yw (2^w) M1 97 (n+1)=x:=(zn _ λi _=>o1 97 i ⋯ ⋯ ⋯).trans hva;have hb1:yw (2^w) M1 98 (n+1)=y:=(zn _ λi _=>o1 98 i ⋯ ⋯ ⋯).trans hvb;have hc1:yw (2^w) M1 99 (n+1)=0:=(zdg hW (n+1) λi hi=>g1.1 99 i).2 λi hi=>by rw[o1 99 i ⋯ ⋯ ⋯];exact hc0 i
 have hz1:M1 122 0=0:=by rw[o1 122 0 ⋯ ⋯ ⋯];exact hZ0
 let⟨M2,e2,g2,o2,v2⟩:=zik hw1 g1 hz1 hc1 (n+1);rw[ha1,hb1]at v2;have hs2:=zbh (2^w) M2 99 (n+1) (n+1);rw[v2]at hs2;have hLr:=zbA hW (n+1) (λi hi=>g2.1 99 i:Dg (2^w) M2 99 (n+1));have q2:∀d j,d≠116->d≠105->d≠106->d≠108->d≠104->d≠111->d≠99->M2 d j=A d j:=λd j a b c e f g h=>by rw[o2 d j e f g h,o1 d j a b c]
 have sx01:tb w (A 97 n)=0 \/ tb w (A 97 n)=1:=by rw[hta];split<;>simp
 have sy01:tb w (A 98 n)=0 \/ tb w (A 98 n)=1:=by rw[htb];split<;>simp
 let⟨M3,k1,e3,g3,o3,v3⟩:=zcw hw1 (c2:=98) (sg:=cI) (n:=n+1) (.inr rfl) (.inl rfl) g2 (tb w (A 97 n)) (by show M2 105 0=_;rw[o2 105 0 ⋯ ⋯ ⋯ ⋯];exact i1) sx01 (n+1);rw[show yw (2^w) M2 98 (n+1)=y from (zn _ λi _=>o2 98 i ⋯ ⋯ ⋯ ⋯).trans hb1]at v3;have z3:M3 122 0=0:=by rw[o3 122 0 ⋯ ⋯ (.inl ⋯),o2 122 0 ⋯ ⋯ ⋯ ⋯];exact hz1
 have hsum:=zcU hw1 cP z3 g3.2.1 g3.2.2;have g4:Good w (wr M3 cP k1) 0:=⟨zV g3.1 cP g3.2.1 (by have:=zg1 hw1;have:=g3.2.2;lia),by lia,by lia⟩;have o4:∀d j,d≠112->wr M3 cP k1 d j=M3 d j:=λd j h=>by erw[wr,upd,cP,h,false_and,if_false]
 let⟨M5,k2,e5,g5,o5,v5⟩:=zcw hw1 (c2:=97) (sg:=cJ) (n:=n+1) (.inl rfl) (.inr rfl) g4 (tb w (A 98 n)) (by show wr M3 cP k1 106 0=_;rw[o4 106 0 ⋯,o3 106 0 ⋯ ⋯ (.inl ⋯),o2 106 0 ⋯ ⋯ ⋯ ⋯];exact j1) sy01 (n+1);have ha4:yw (2^w) (wr M3 cP k1) 97 (n+1)=x:=(zn _ λi _=>by rw[o4 97 i ⋯,o3 97 i ⋯ ⋯ (.inl ⋯),o2 97 i ⋯ ⋯ ⋯ ⋯]).trans ha1;have hc4:yw (2^w) (sh (n+1) (wr M3 cP k1)) 99 (n+1)=yw (2^w) (sh (n+1) M3) 99 (n+1):=zn _ λi _=>by rw[zbP,zbP,o4 99 _ ⋯]
 rw[ha4,hc4]at v5;have d5:Dg (2^w) (sh (n+1) M5) 99 (n+1):=λi hi=>g5.1 _ _;have hHr:=zbA hW (n+1) d5;have c5:∀i:Nat,i<n+1->M5 99 i=M2 99 i:=λi hi=>by
  rw[o5 99 i ⋯ ⋯ (.inr (.inl ∅)),o4 99 i ⋯,o3 99 i ⋯ ⋯ (.inr (.inl ∅))]
 have hL5:yw (2^w) M5 99 (n+1)=yw (2^w) M2 99 (n+1):=zn _ c5;have z5:M5 122 0=0:=by rw[o5 122 0 ⋯ ⋯ (.inl ⋯),o4 122 0 ⋯];exact z3
 let⟨M6,kG,e6,f0,f1,f2,f3,f4⟩:=ziE hw M5 (k:=k2) g5.2.1 g5.2.2 cG (99,n) AB ⋯ (by simp) z5 (g5.1 _ _).1 (g5.1 _ _).2;have hkG:kG=if (2^w:Int)^(n+1)<=2*yw (2^w) M2 99 (n+1)then 1 else 0:=by
  rw[f2,if_pos rfl,<-hL5];exact zex ∅ (λi hi=>g5.1 99 i)
 have hkk:kG=0 \/ kG=1:=by lia
 have hT2:(2:Int)<=(2^w)^(n+1):=by
  have h1:=zg1 hw1;have h2:(1:Int)<=(2^w)^n:=by have:(0:Int)<(2^w)^n:=Ab hW;lia
  rw[Af];have:=EF h2 h1 ∅ (show (0:Int)<=(2^w)^n by lia);lia
 let⟨N1,N2⟩:=zhd hT2 x0 x1 y0 y1 hta htb hs2 hLr.1 hLr.2 v3 v5 hHr.1 hHr.2 hkG;rw[<-hP]at N1 N2;have hTT:(2^w:Int)^(n+1)*(2^w)^(n+1)=(2^w)^(2*(n+1)):=by rw[<-GT];congr 1;lia
 rw[hTT]at N1;have hv5:yw (2^w) M5 99 (2*(n+1))=P%(2^w)^(2*(n+1)):=by
  rw[N1,show 2*(n+1)=n+1+(n+1)by lia,zbh,hL5]
 have hG6:M6 103 0=kG*(2^w-1):=f3;have hGr:0<=kG*((2:Int)^w-1):=by rcases hkk with z|z<;>rw[z]<;>lia
 have o6:∀d j,d≠116->d≠103->M6 d j=M5 d j:=λd j a b=>f4 d j a (.inl b);have l6:M6 119 0=0:=by
  rw[o6 119 0 ⋯ ⋯,o5 119 0 ⋯ ⋯ (.inl ⋯),o4 119 0 ⋯,o3 119 0 ⋯ ⋯ (.inl ⋯),q2 119 0 ⋯ ⋯ ⋯ ⋯ ⋯ ⋯ ⋯];exact hL0
 let⟨u1,u2,u3,u4⟩:=zdh (W:=2^w) M6 kG (n+1) (by rw[l6];lia) (by rw[hG6];exact hGr) (n+1) (λi hi=>by rw[o6 99 _ ⋯ ⋯];exact(g5.1 _ _).1);have hH:(yK (2^w) (yU (n+1)) M6 kG).1 119 0=0 ↔ yw (2^w) (sh (n+1) M5) 99 (n+1)=kG*((2^w)^(n+1)-1):=by
  rw[<-zgp hW hkk (n+1) d5];show (yK (2^w) (upTo (λi=>[.odd cT (99,((n+1:Nat):Int)+i) cG,.any cW cW cT]) (n+1)) M6 kG).1 119 0=0 ↔ _;rw[u4,l6,hG6];constructor
  .rintro⟨_,b⟩ i hi
   have:=b i hi;rw[o6 99 _ ⋯ ⋯]at this;rw[zbP];exact this
  .intro b;exact⟨rfl,λi hi=>by
    have:=b i hi;rw[zbP]at this;rw[o6 99 _ ⋯ ⋯];exact this⟩
 have U1:(yK (2^w) (yU (n+1)) M6 kG).2=kG:=u1;have U2:∀d j,d≠116->d≠119->(yK (2^w) (yU (n+1)) M6 kG).1 d j=M6 d j:=u2
 clear u1 u2 u3 u4
 have hn1:((n+1:Nat):Int)-1=n:=by lia
 rw[yF,zH,e1,yam,zH,e2,zH,show yaf 98 cI (n+1)=upTo (yQ 98 cI (n+1)) (n+1)from rfl,e3,zam,hsum,zH,show yaf 97 cJ (n+1)=upTo (yQ 97 cJ (n+1)) (n+1)from rfl,e5,zH,hn1,e6,zH];generalize yK (2^w) (yU (n+1)) M6 kG=R7 at *;let⟨M7,k7⟩:=R7;simp only at U1 U2 hH ⊢;subst U1;have hb:bi (!(M7 119 0==0))=bi (!yaH ((2^w:Int)^(n+1)) P):=by
  rw[N2]
  by_cases z:yw (2^w) (sh (n+1) M5) 99 (n+1)=k7*((2^w)^(n+1)-1)
  .rw[hH.2 z,decide_eq_true z];rfl
  .rw[decide_eq_false z,beq_eq_false_iff_ne.2 λq=>z (hH.1 q)]
 have hs1:stepM (2^w) M7 k7 (.ask cW)=(M7,bi (!yaH ((2^w:Int)^(n+1)) P)):=by
  erw[stepM,rd];rw[hb]
 have z7:M7 122 0=0:=by rw[U2 122 0 ⋯ ⋯,o6 122 0 ⋯ ⋯];exact z5
 have hbr:=zfw (!yaH ((2^w:Int)^(n+1)) P);rw[zam,hs1];simp only;rw[zam,zcU hw1 (109,1) z7 hbr.1 hbr.2];simp only;generalize bi (!yaH ((2^w:Int)^(n+1)) P)=v at *;have p1:∀d j,(d≠109 \/ j≠1)->wr M7 (109,1) v d j=M7 d j:=λd j h=>by
  erw[wr,upd];rw[if_neg ∅]
 have p2:wr M7 (109,1) v 109 1=v:=by simp[wr,upd]
 generalize wr M7 (109,1) v=M8 at *;have c8:∀i,M8 99 i=M5 99 i:=λi=>by rw[p1 99 i (.inl ⋯),U2 99 i ⋯ ⋯,o6 99 i ⋯ ⋯]
 have d8:Dg (2^w) M8 99 (2*(n+1)):=λi hi=>by rw[c8];exact g5.1 _ _
 have hv8:yw (2^w) M8 99 (2*(n+1))=P%(2^w)^(2*(n+1)):=(zn _ λi _=>c8 i).trans hv5;have m8:M8 109 0=0:=by
  rw[p1 109 0 (.inr ⋯),U2 109 0 ⋯ ⋯,o6 109 0 ⋯ ⋯,o5 109 0 ⋯ ⋯ (.inl ⋯),o4 109 0 ⋯,o3 109 0 ⋯ ⋯ (.inl ⋯),q2 109 0 ⋯ ⋯ ⋯ ⋯ ⋯ ⋯ ⋯];exact hM0 0
 have hN:2*(n+1)=(2*n+1)+1:=by lia
 rw[hN]at d8 hv8 ⊢;let⟨r1,r2,r3,r4,r5⟩:=zjR hw M8 0 d8 (by rw[p1 122 0 (.inl ⋯),z7]);rw[zn (M':=M8) (c':=99) _ λi hi=>r1 i,r2,r3,r4,r5,hv8,p2,m8];exact⟨rfl,rfl,rfl,rfl,rfl⟩
def oI:Op:=cx 105 0 0 0 0
def oJ:Op:=cx 106 0 0 0 0
def oP:Op:=cx 112 0 0 0 0
def oG':Op:=cx 103 0 0 0 0
def oW:Op:=cx 119 0 0 0 0
def ybi(l:Nat)(sg:Op):T1:=.rounds 0 1 0 [.row (rS "times" [oL,oHi,cx l 0 1 0 0,sg]),.row (rS "less" [cx 99 0 1 0 1,cx 99 0 1 0 1,oL])]
def yaA:T1:=.rounds 0 1 0 [.row (rS "odd" [oT,cx 99 0 1 0 1,oG']),.row (rS "any" [oW,oW,oT])]
def ybP:List T1:=[.row (rS "twice" [oT,cx 97 (-1) 0 0 1]),.row (rS "sum" [oI,oZ,oZ]),.row (rS "twice" [oT,cx 98 (-1) 0 0 1]),.row (rS "sum" [oJ,oZ,oZ])]
def ya5:List T1:=[.row (rS "twice" [oT,cx 99 (-1) 0 0 1]),.row (rS "less" [oG',oZ,oZ])]
def ya2:List T1:=ybP++([ybm]++([ybi 98 oI]++([.row (rS "sum" [oP,oZ,oZ])]++([ybi 97 oJ]++(ya5++([yaA]++([.row (rS "ask" [oW]),.row (rS "sum" [oM 1,oZ,oZ])]++ycT 0 2)))))))
def zhJ(w:Int)(n:Nat)(l:Nat)(sg:Op)(c:Cel)(h:∀I:Int,Op.pv I 0 n sg=yx c):yC w n [ybi l sg]=(yaf l c n).map yM:=by
 have e:yC w n [ybi l sg]=upTo (λI=>yak w n I [.row (rS "times" [oL,oHi,cx l 0 1 0 0,sg]),.row (rS "less" [cx 99 0 1 0 1,cx 99 0 1 0 1,oL])]) n:=by
  erw[yC,BP,Bj,Ap,ybi,T1.rows,ze1]
 rw[e];refine zbR (λI=>?_) n;have hm:(0:Int)+1*(I:Int)+1*(n:Int)=(n:Int)+I:=by lia
 have hi:(0:Int)+1*(I:Int)=I:=by lia
 have hm2:(I:Int)+1*(n:Int)=(n:Int)+I:=by lia
 erw[yak,BP,Bj,Ap,T2.rows,Rs.pv,rS,AL,Ai,h,yQ,yM,Aa,Av];erw[Op.pv,oL,oHi,cx,Cx.at,yx,B8,Bq,hi,hm2]
def ziT(w:Int)(n:Nat):yC w n [yaA]=(yU n).map yM:=by
 have e:yC w n [yaA]=upTo (λI=>yak w n I [.row (rS "odd" [oT,cx 99 0 1 0 1,oG']),.row (rS "any" [oW,oW,oT])]) n:=by
  erw[yC,BP,Bj,Ap,yaA,T1.rows,ze1]
 rw[e];refine zbR (λI=>?_) n;have hm:(0:Int)+1*(I:Int)+1*(n:Int)=(n:Int)+I:=by lia
 erw[yak,BP,Bj,Ap,T2.rows,Rs.pv,rS,AL,Ai,yM,Aa,Av,Op.pv,oT,oG',oW,cx,Cx.at,yx,B8,Bq,hm]
def zjM(w:Int)(n:Nat):yC w n ya2=(yF n).map yM:=by
 have hl:(-1:Int)+1*(n:Int)=(n:Int)-1:=by lia
 have p1:yC w n ybP=(yP n).map yM:=by
  erw[ybP,yP,yC,BP,Bj,Ap,T1.rows,Rs.pv,rS,AL,Ai,yM,Aa,Av,Op.pv,oT,oZ,oI,oJ,cx,Cx.at,yx,B8,Bq,hl]
 have p2:yC w n [ybm]=(yam n).map yM:=by
  erw[yC,BP,Bj,Ap];exact zmg w n
 have p3:=zhJ w n 98 oI cI (λI=>by simp[Op.pv,oI,cx,Cx.at,yx]);have p5:=zhJ w n 97 oJ cJ (λI=>by simp[Op.pv,oJ,cx,Cx.at,yx]);have p4:yC w n [.row (rS "sum" [oP,oZ,oZ])]=[yM (.sum cP cZ cZ)]:=by simp[yC,T1.rows,Rs.pv,rS,oP,oZ,Op.pv,cx,Cx.at,yM,yx]
 have p6:yC w n ya5=(ybg cG (99,(n:Int)-1) AB).map yM:=by
  erw[ya5,ybg,if_true,yC,BP,Bj,Ap,T1.rows,Rs.pv,rS,AL,Ai,yM,Aa,Av,Op.pv,oT,oZ,oG',cx,Cx.at,yx,B8,Bq,hl]
 have p8:yC w n [.row (rS "ask" [oW]),.row (rS "sum" [oM 1,oZ,oZ])]=[yM (.ask cW),yM (.sum (109,1) cZ cZ)]:=by simp[yC,T1.rows,Rs.pv,rS,oW,oM,oZ,Op.pv,cx,Cx.at,yM,yx]
 rw[ya2,zar,zar,zar,zar,zar,zar,zar,zar,p1,p2,p3,p4,p5,p6,ziT,p8,zlc];erw[yF,Cz,AL,Bo,Aa,Av]
def zi1(w:Int)(n:Nat):yav w n ya2=n*(1+n)+5*n:=by
 have h1:yav w n ybP=0:=by simp[ybP,yav,T1.rnd]
 have h2:yav w n [ybm]=n*(1+n):=by erw[yav,AL,Ai,List.sum_cons,List.sum_nil,zjg];lia
 have h3:∀l s,yav w n [ybi l s]=n:=λl s=>by simp[ybi,yav,T1.rnd,ybw,T2.rnd,ze1]
 have h4:yav w n [yaA]=n:=by simp[yaA,yav,T1.rnd,ybw,T2.rnd,ze1]
 have h5:yav w n ya5=0:=by simp[ya5,yav,T1.rnd]
 have h6:yav w n [.row (rS "sum" [oP,oZ,oZ])]=0:=by simp[yav,T1.rnd]
 have h7:yav w n [.row (rS "ask" [oW]),.row (rS "sum" [oM 1,oZ,oZ])]=0:=by simp[yav,T1.rnd]
 rw[ya2,zaI,zaI,zaI,zaI,zaI,zaI,zaI,zaI,h1,h2,h3,h3,h4,h5,h6,h7,zjb];lia
def ze2{n:Nat}(hn:n<=4):(yF n).length<=4000:=by
 have:n*(n*5+3)<=4*23:=BO hn ∅;have h1:∀l s,(yaf l s n).length=n*2:=λl s=>zb2 (f:=yQ l s n) (c:=2) (λ_=>rfl) _;have h2:(yU n).length=n*2:=zb2 (f:=λi=>[.odd cT (99,(n:Int)+i) cG,.any cW cW cT]) (c:=2) (λ_=>rfl) _;simp[yF,zeW,yP,ybg,h1,h2,yac,zfB];lia
def yeR(nm:String)(ps:List T1):Bool:=match yc T 18 yg3 [.tp AC [.str (AE nm)]] []with
 |.ok (.tp b vs) []=>decide (yaJ vs=AA ps)&&nLs vs&&isOk (yc T 16 yl [.tp b vs] []) (.bl AB)&&isOk (yc T 20 yim [.tp AC [.str (AE nm)]] []) (.bl AB)
 |_=>AC
def zqs{nm:String}{pb:Bool}{ps:List T1}{rs:List Rw}{w n:Nat}(hc:yeR nm ps=AB)(hw:w<=16)(hn2:n<=4)(pv:yC w n ps=rs.map yM)(ok:∀r∈rs,ybo r)(hl:rs.length<=4000)(hr:yav w n ps<=4000)(ha:ak1 w n ps<=500000)
  (q1:yu .eq (.str (AE nm)) (.str "compare")=AA (.bl AC)) (q2:yu .eq (.str (AE nm)) (.str "led")=AA (.bl AC)) (q3:yu .isin (.str (AE nm)) yeK=AA (.bl AC)) (q4:yu .isin (.str (AE nm)) yhe=AA (.bl pb)):ydx (yc T 20 yg4 [.tp AC [.str (AE nm)]] []=.ok (.bl AB) []) (.tp AC [.str (AE nm)]) w n (if pb=AB then 2*n else n) rs:=by
 unfold yeR at hc;split at hc
 .rename_i b vs e0;erw[AK,decide_eq_true_eq]at hc;let⟨⟨⟨c1,c2⟩,c3⟩,c4⟩:=hc;exact zqr hw hn2 rfl (λ_=>rfl) e0 c1 c2 c3 c4 id pv ok hl hr ha q3 (aw rfl (λ_=>rfl) q1 q2 q4)
 .cases hc
def zfG{n:Nat}(hn:1<=n)(hn2:n<=4):∀r∈yam n,ybo r:=by
 intro r hr;let⟨I,hI,hr⟩:=zck hr;erw[yaz,AR,B1,A7,or_false]at hr;rcases hr with rfl|rfl|hr|rfl
 .simp[ybo]
 .simp only[ybo,yaa];lia
 .let⟨J,hJ,hr⟩:=zck hr;erw[inR,AR,A7,or_false]at hr;have hc:yu .ne (yx cL) (yx cHi)=AA (.bl AB):=by ac_rfl
  rcases hr with rfl|rfl|rfl|rfl|rfl<;>erw[ybo,yaa,hc,and_true]<;>lia
 .simp only[ybo,yaa];lia
def zgc{n:Nat}(hn2:n<=4){c2:Nat}{sg:Cel}(hc2:c2=97 \/ c2=98)(hs:sg=cI \/ sg=cJ):∀r∈yaf c2 sg n,ybo r:=by
 intro r hr;let⟨I,hI,hr⟩:=zck hr;erw[yQ,AR,A7,or_false]at hr;have hc:yu .ne (yx cL) (yx cHi)=AA (.bl AB):=by ac_rfl
 rcases hs with rfl|rfl<;>rcases hc2 with rfl|rfl<;>rcases hr with rfl|rfl<;>erw[ybo,yaa,hc,and_true]<;>lia
def zfX{n:Nat}(hn:1<=n)(hn2:n<=4):∀r∈yF n,ybo r:=by
 intro r hr;erw[yF,yP,ybg,if_true,B1,AR,A7,or_false]at hr;rcases hr with (h|h|h|h)|hr|hr|h|hr|(h|h)|hr|h|h|hr
 any_goals (subst h;erw[ybo,yaa];lia)
 .exact zfG hn hn2 r hr
 .exact zgc hn2 (.inr rfl) (.inl rfl) r hr
 .exact zgc hn2 (.inl rfl) (.inr rfl) r hr
 .let⟨I,hI,hr⟩:=zck hr;erw[AR,A7,or_false]at hr;rcases hr with rfl|rfl<;>erw[ybo,yaa]<;>lia
 .exact zoN ∅ ∅ r hr
def zpO{w n:Nat}(hw:w<=16)(hn:1<=n)(hn2:n<=4):ydx (yc T 20 yg4 [.tp AC [.str "signed product"]] []=.ok (.bl AB) []) (.tp AC [.str "signed product"]) w n (2*n) (yF n):=by
 have hm:n*(1+n)<=4*5:=BO hn2 ∅;have hm2:n*n<=4*4:=BO hn2 hn2;refine zqs (pb:=AB) (ps:=ya2) (by decide +kernel) hw hn2 (zjM w n) (zfX hn hn2) (ze2 hn2) (by rw[zi1];lia) ?_ (by ac_rfl) (by ac_rfl) (by ac_rfl) (by ac_rfl);simp[ya2,ybP,ybm,ybi,ya5,yaA,ak1,ycT,T1.ak,ze1,ak2,T2.ak,cnt,Nat.mul_add];lia
def zjd{c:Cl}{N acc lo:Int}{st:SO}:exs c [AA (.int N),AA (.int acc),AA (.int lo)] st (.cons (.asg (.n 1) (.bin .mul (.cst (.int 2)) (.var 1))) .nil)=.nx [AA (.int N),AA (.int (2*acc)),AA (.int lo)] st:=by
 erw[xs_nil,xs_cons,x_asg,yas,nxO,IC.ve1,IC.ve2,IC.ve3,R.bind,R.fl,yI,yq,binI,yaB,toR,As,Au,Ae,A5];simp
def zd1(k n:Nat)(hn:n<1000)(st:SO):yc T (k+1) yh0 [.int n] st=.ok (.int (2^n)) st:=by
 let⟨ρ',st',h,u,e1,e2⟩:=zer (call:=yc T k) (t:=.n 2) (b:=.cons (.asg (.n 1) (.bin .mul (.cst (.int 2)) (.var 1))) .nil) (λi ρ st=>∃u,ρ=[AA (.int n),AA (.int (2^i)),u]/\st=[]) (yo n 0 1) 0 [AA (.int n),AA (.int 1),AD] [] ⟨_,rfl,rfl⟩ (by
  rintro j x ρ st hx ⟨u,rfl,rfl⟩
  have hx:∃i,x=.int i:=by
   have:∀(n:Nat) (a d:Int) (j:Nat) x,(yo n a d)[j]?=AA x->∃i,x=.int i:=by
    intro n
    induction n with
    |zero=>intro a d j x h;simp[yo]at h
    |succ n ih=>
     intro a d j x h
     cases j with
     |zero=>simp[yo]at h;exact⟨a,h.symm⟩
     |succ j=>simp[yo]at h;exact ih _ _ _ _ h
   exact this _ _ _ _ _ hx
  let⟨i,rfl⟩:=hx;exact⟨_,_,_,rfl,zjd,_,by rw[Af,A6],rfl⟩)
 have hl:(yo n 0 1).length=n:=by
  have:∀(n:Nat) (a d:Int),(yo n a d).length=n:=by
   intro n
   induction n with
   |zero=>intro a d;rfl
   |succ n ih=>intro a d;simp[yo,ih]
  exact this _ _ _
 rw[hl,Br]at e1;subst e1 e2;rw[yc,show T yh0=AA yhL from rfl];erw[yhL,AX,Bd,if_true,nLs,nL,Cf,AL,Ai,C0,An,Aa,Av,xs_cons,xs_nil,x_asg,x_for,x_ret,yas,nxO,IC.ve1,IC.ve2,R.fl,yI,As,Au,evi,R.bind,Ae,ybU,toL];erw[show (n:Int).natAbs<1000000000 by lia,if_true,CV,h];simp[nL]
def znf{i:Int}{j:Nat}:yq .shr (.int i) (.int (j:Int))=AA (.int (i/2^j)):=by
 erw[yq,binI];rw[if_pos ∅];simp
def zpi{i:Int}{j:Nat}(h:i.natAbs<18446744073709551616)(hj:j<=1000):yq .shl (.int i) (.int (j:Int))=AA (.int (i*2^j)):=by
 have hc:(0:Int)<=j/\(j:Int)<=1000000/\i.natAbs<18446744073709551616:=⟨by lia,by lia,h⟩;show (if (0:Int)<=j/\(j:Int)<=1000000/\i.natAbs<18446744073709551616 then AA (PV.int (i*2^(j:Int).toNat))else AD)=_;rw[if_pos hc];rfl
def zox(k:Nat){x a b u v r:Int}(hs:a-1=b)(q1:yq .shr (.int x) (.int b)=AA (.int u))(q2:yq .shl (.int u) (.int a)=AA (.int v))(q3:x-v=r)(st:SO):yc T (k+1) y6 [.int x,.int a] st=.ok (.int r) st:=by
 have hT:T y6=AA yhH:=rfl;rw[zc hT rfl rfl rfl];simp! [yhH,hs,q1,q2,q3];rfl
def zmL(k:Nat){s a b h:Int}{f:Bool}(hs:a-1=b)(q1:yq .shl (.int 1) (.int b)=AA (.int h))(q2:(decide (-h<=s)&&decide (s<h))=f)(st:SO):yc T (k+1) yhY [.int s,.int a] st=.ok (.int (bi (!f))) st:=by
 have hT:T yhY=AA yg1:=rfl;rw[zc hT rfl rfl rfl]
 cases e1:decide (-h<=s)with
 |false=>
  rw[e1,G5]at q2;subst q2;simp! [yg1,hs,q1,e1,blO];rfl
 |true=>
  rw[e1,Cu]at q2;subst q2
  cases e2:decide (s<h)<;>simp! [yg1,hs,q1,e1,e2,blO]<;>rfl
def zcG(k:Nat){K:Nat}(hK:1<=K)(hK2:K<=64){x:Int}(x0:0<=x)(x1:x<2^K)(st:SO):yc T (k+1) y6 [.int x,.int K] st=.ok (.int (sgd (2^K) x)) st:=by
 obtain⟨j,rfl⟩:∃j,K=j+1:=⟨K-1,by lia⟩;have p:(0:Int)<2^j:=Ab ∅;have e:(2:Int)^(j+1)=2*2^j:=by rw[Af,A6]
 have hd:x/2^j=if 2*2^j<=2*x then 1 else 0:=by
  rw[e]at x1;split
  .have h1:1<=x/2^j:=DU p ∅;have h2:x/2^j<2:=BM p ∅;lia
  .exact BR x0 ∅
 refine zox k (b:=(j:Int)) ∅ znf (zpi (by rw[hd];split<;>lia) ∅) ?_ st;rw[hd,e];unfold sgd;split
 .rw[BJ]
 .lia
def zqt(k:Nat){K:Nat}(hK:1<=K)(hK2:K<=64)(s:Int)(st:SO):yc T (k+1) yhY [.int s,.int K] st=.ok (.int (bi (!yaH (2^K) s))) st:=by
 obtain⟨j,rfl⟩:∃j,K=j+1:=⟨K-1,by lia⟩;have e:(2:Int)^(j+1)=2*2^j:=by rw[Af,A6]
 refine zmL k (b:=(j:Int)) ∅ (zl5 j ∅) ?_ st;unfold yaH;rw[e]
 congr 1
 .exact decide_eq_decide.2 ∅
 .exact decide_eq_decide.2 ∅
def zeT{W:Int}(hW:0<W):∀(n:Nat) (v:Int),yg W n (v%W^n)=yg W n v
 |0,v=>rfl
 |n+1,v=>by
  have hp:0<W^n:=Ab hW;have e1:v%W^(n+1)%W=v%W:=Int.emod_emod_of_dvd v ⟨W^n,by rw[Af,A6]⟩;have e2:v%W^(n+1)/W=v/W%W^n:=by
   have h1:=BN v W;have h2:=BN (v/W) (W^n);have r0:=Aq v (show W≠0 by lia);have r1:=A9 v hW;have s0:=Aq (v/W) (show W^n≠0 by lia);have s1:=A9 (v/W) hp;have e:v=v%W+W*(v/W%W^n)+W^(n+1)*(v/W/W^n):=by
    have:W^(n+1)*(v/W/W^n)=W*(W^n*(v/W/W^n)):=by rw[Af,A6 (W^n) W,BS]
    rw[this];have h3:W*(v/W)=W*(v/W%W^n)+W*(W^n*(v/W/W^n)):=by rw[<-By,h2]
    lia
   have hb:v%W+W*(v/W%W^n)<W^(n+1):=by
    have:=BH (show v/W%W^n<=W^n-1 by lia) (show 0<=W by lia);rw[CK,CU]at this;rw[Af,A6 (W^n) W];lia
   have hb0:0<=W*(v/W%W^n):=Bp ∅ s0;have q:v%W^(n+1)=v%W+W*(v/W%W^n):=by
    rw[e,Bn];rw[<-e];exact Ak ∅ hb
   rw[q,Int.add_mul_ediv_left _ _ ∅,BR r0 r1,HC]
  rw[yg,yg,e1,e2,zeT hW n]
def ze3{W:Int}(hW:0<W):∀(n:Nat) (v:Int),0<=v->v<W^n->(yg W n v).any (· != 0)=!(v==0)
 |0,v,h0,h1=>by
  have:v=0:=by rw[El]at h1;lia
  subst this;rfl
 |n+1,v,h0,h1=>by
  have h2:=CD h0 (show 0<=W by lia);have h3:v/W<W^n:=BM hW (by rw[Af]at h1;exact h1);have h4:=BN v W;rw[yg,BL,ze3 hW n _ h2 h3]
  by_cases q:v=0
  .subst q;simp
  .rw[beq_eq_false_iff_ne.2 q]
   by_cases a:v%W=0
   .have b:v/W≠0:=λz=>q (by rw[a,z]at h4;lia);rw[beq_eq_false_iff_ne.2 b,Bool.not_false,HA]
   .rw[bne_iff_ne.2 a,Eh];rfl
def zdO{W:Int}(hW:0<W):∀(n:Nat) (v:Int),(yg W (n+1) v)[n]?=AA (v/W^n%W)
 |0,v=>by simp[yg]
 |n+1,v=>by
  rw[yg,A5,zdO hW n,Bi ∅,Af,A6 W]
def zho(ws:List Int):anyI (ws.map .int)=AA (ws.any (· != 0)):=by
 induction ws with
 |nil=>rfl
 |cons a ws ih=>rw[AL,anyI,ih];rfl
def zlQ(k:Nat){ws:List Int}{w b l r:Int}(hs:w-1=b)(hi:∀st,idxV st (.tp AC (ws.map .int)) (.int (-1))=AA (.int l))(q:yq .shr (.int l) (.int b)=AA (.int r))(st:SO):yc T (k+1) yg6 [.tp AC (ws.map .int),.int w] st=.ok (.int r) st:=by
 have hT:T yg6=AA yhF:=rfl;rw[zc hT rfl rfl (by simp[nLs,nL,noLocs_ints])];generalize PV.tp AC (ws.map .int)=v at *;simp! [yhF,hi,hs,q];rfl
def zgQ(k:Nat){w n:Nat}(hw:1<=w){v:Int}(v0:0<=v)(v1:v<(2^w:Int)^(n+1))(st:SO):yc T (k+1) yg6 [.tp AC ((yg (2^w) (n+1) v).map .int),.int w] st=.ok (.int (bi (decide ((2^w:Int)^(n+1)<=2*v)))) st:=by
 obtain⟨j,rfl⟩:∃j,w=j+1:=⟨w-1,by lia⟩;have hW:(0:Int)<2^(j+1):=Ab ∅;have hp:(0:Int)<(2^(j+1):Int)^n:=Ab hW;have hj:(0:Int)<2^j:=Ab ∅;have e:(2:Int)^(j+1)=2^j*2:=Af 2 j;have hl:=zdO hW n v;have hd1:v/(2^(j+1):Int)^n<2^(j+1):=BM hp (by rw[Af,A6]at v1;exact v1);have hdA:=CD v0 (Ft hp);rw[Ak hdA hd1]at hl;have hi:∀st,idxV st (.tp AC ((yg (2^(j+1)) (n+1) v).map .int)) (.int (-1))=AA (.int (v/(2^(j+1):Int)^n)):=λst=>by
  have hlen:=z4 (2^(j+1)) (n+1) v;erw[idxV,yaW,at?,ixI,BD,hlen];rw[if_neg ∅,if_pos ∅];rw[show ((-1:Int)+((n+1:Nat):Int)).toNat=n by lia];simp[hl]
 refine zlQ k (b:=(j:Int)) ∅ hi ?_ st;rw[znf]
 congr 2
 have P:(2^(j+1):Int)^(n+1)=(2^(j+1):Int)^n*2^j*2:=by rw[Af,BS,<-e]
 rw[Bi (Ft hp)];have hq:0<(2^(j+1):Int)^n*2^j:=GS hp hj;rw[P]at v1 ⊢;generalize (2^(j+1):Int)^n*2^j=H at *
 by_cases h:H*2<=2*v
 .have h1:1<=v/H:=DU hq ∅;have h2:v/H<2:=BM hq ∅;rw[decide_eq_true h];show _=(1:Int);lia
 .rw[decide_eq_false h];exact BR v0 ∅
def ybT(W:Int)(M:Mem)(c:Nat):Nat->Nat->Int
 |_,0=>0
 |a,n+1=>ybT W M c (a+1) n*W+M c a
def zf3(W:Int)(M:Mem)(c:Nat):∀(n a:Nat),ybT W M c a (n+1)=ybT W M c a n+M c ((a+n:Nat):Int)*W^n
 |0,a=>by simp[ybT]
 |n+1,a=>by
  have h:=zf3 W M c n (a+1);rw[ybT,h,ybT,show a+1+n=a+(n+1)by lia,Af,DD,BS];lia
def zkA(W:Int)(M:Mem)(c:Nat):∀n,ybT W M c 0 n=yw W M c n
 |0=>rfl
 |n+1=>by rw[zf3,zkA W M c n,yw,Br]
def zhu{W:Int}(hW:0<W){M:Mem}(h:ydZ W M)(c:Nat):∀n a,yg W n (ybT W M c a n)=getM M c a n
 |0,a=>rfl
 |n+1,a=>by
  let⟨h0,h1⟩:=h c a;have e1:(ybT W M c (a+1) n*W+M c a)%W=M c a:=by
   rw[Ej,Int.add_mul_emod_self_right];exact Ak h0 h1
  have e2:(ybT W M c (a+1) n*W+M c a)/W=ybT W M c (a+1) n:=by
   rw[Ej,Int.add_mul_ediv_right _ _ ∅,BR h0 h1,HC]
  rw[ybT,yg,e1,e2,zhu hW h c n (a+1),getM]
def zmt{W:Int}(hW:0<W){M:Mem}(h:ydZ W M)(c n:Nat){v:Int}(hv:yw W M c n=v):getM M c 0 n=yg W n v:=by
 rw[<-zhu hW h c n 0,zkA,hv]
abbrev dvv(ws us:List Int)(a b c d:Int):PV:=.tp AC [.tp AC (ws.map .int),.tp AC (us.map .int),.tp AC [.int a,.int b,.int c,.int d]]
def zmi(k:Nat){d:PV}(hd:nL d=AB){s:AN}{w n x y a b c t r z N R:Int}{ws us:List Int}{g:Bool}(i0:∀st,idxV st d (.int 0)=AA (.str s))(c0:yu .eq (.str s) (.str "compare")=AA (.bl AC))(E0:∀st,yc T k yiC [d,.int w,.int n,.int x,.int y] st=.ok .non st)(E1:∀st,yc T k yiD [d,.int w,.int n,.int x,.int y] st=.ok (.tp AC [.int a,.int b,.int c]) st)
  (E2:∀st,yc T k ym [d,.int n] st=.ok (.int N) st) (E3:∀st,yc T k yk [.int a,.int w,.int N] st=.ok (.tp AC (ws.map .int)) st) (m1:yq .mul (.int y) (.int a)=AA (.int t)) (E4:∀st,yc T k yg5 [d,.int n] st=.ok (.int R) st) (E5:∀st,yc T k yk [.int (x-t),.int w,.int R] st=.ok (.tp AC (us.map .int)) st)
  (E6:∀st,yar .any st [.tp AC (ws.map .int)]=AA (.bl g)) (hz:(bif g then(0:Int)else 1)=z) (E7:∀st,yc T k yg6 [.tp AC (ws.map .int),.int w] st=.ok (.int r) st) (st:SO):
  yc T (k+1) ye4 [d,.int w,.int n,.int x,.int y] st=.ok (dvv ws us b c z r) st:=by
 have hT:T ye4=AA ⟨5,10,AB,ybb.body⟩:=rfl;have bt:∀(a b c:PV) (ρ:IC.Env),yI (.t [5,6,7]) (.tp AC [a,b,c]) ρ=AA (((ρ.set 5 (AA a)).set 6 (AA b)).set 7 (AA c)):=λ_ _ _ _=>rfl;rw[zc hT rfl rfl (by simp[nLs,nL,hd])];dsimp only;have nl:nL (.tp AC (ws.map .int))=true:=by simp[nL,noLocs_ints]
 have nl2:nL (.tp AC (us.map .int))=true:=by simp[nL,noLocs_ints]
 unfold dvv;generalize PV.tp AC (ws.map .int)=A,PV.tp AC (us.map .int)=B at *
 cases g<;>subst hz<;>simp! [ybb,E0,i0,c0,E1,bt,E2,E3,m1,E4,E5,E6,E7]<;>simp[ybq,nL,nLs,nl,nl2]
def sgP(w n:Nat)(x y:Int):Int:=sgd (2^(w*n)) x*sgd (2^(w*n)) y
def yaE(w n:Nat)(x y:Int):PV:=dvv (yg (2^w) (2*n) (sgP w n x y%2^(2*w*n))) [] 0 (bi (!yaH (2^(w*n)) (sgP w n x y))) (bi (sgP w n x y%2^(2*w*n)==0)) (bi (decide ((2:Int)^(2*w*n)<=2*(sgP w n x y%2^(2*w*n)))))
abbrev dP:PV:=.tp AC [.str "signed product"]
def zpP:yc T 20 yg4 [dP] []=.ok (.bl AB) []:=zdH (by decide +kernel)
def zm3(w n:Nat):(2:Int)^(2*w*n)=(2^w:Int)^(2*n):=by
 rw[<-FF,show w*(2*n)=2*w*n by rw[Nat.mul_left_comm,Gk]]
section
variable (k:Nat){w n:Nat}(hw:4<=w)(hw2:w<=16)(hn:1<=n)(hn2:n<=4){x y:Int}(x0:0<=x)(x1:x<2^(w*n))(y0:0<=y)(y1:y<2^(w*n))(st:SO)
include hw hw2 hn hn2 x0 x1 y0 y1
def zpQ:yc T (22+k) yd4 [dP,.int w,.int n,.int x,.int y] st=.ok (yaE w n x y) st:=by
 obtain⟨n,rfl⟩:∃m,n=m+1:=⟨n-1,by lia⟩;have hp:(2:Int)^(w*(n+1))=(2^w:Int)^(n+1):=FF;have hW:(0:Int)<2^w:=Ab ∅;have hm:∀M:Mem,(getM M 109 0 4).map PV.int=[.int (M 109 0),.int (M 109 1),.int (M 109 2),.int (M 109 3)]:=λ_=>rfl;have rd:=λr hr=>zok r (zfX (n:=n+1) hn hn2 r hr);have bg:=zf5 (w:=w) ∅ (n+1) x y;have q:=ran k (zpO (w:=w) hw2 hn hn2) hw2 ∅ hn2 ∅ (by have:=ze2 (n:=n+1) hn2;lia) x0 x1 y0 y1 (λ_=>zpP) (zgw ∅ hw2 _ _ _ rd bg) st;have R:ydZ (2^w) _:=(zbY ∅ (yF (n+1)) bg rd).1;let⟨q0,q2,q3,q4,q5⟩:=zgN (w:=w) ∅ x0 (by rw[<-hp];exact x1) y0 (by rw[<-hp];exact y1) (P:=sgP w (n+1) x y) (by rw[sgP,hp]);rw[<-hp]at q3;rw[<-zm3]at q0 q4 q5;refine q.trans ?_;rw[hm,zmt hW R 99 (2*(n+1)) q0,q2,q3,q4,q5];rfl
def zpR:yc T (22+k) ye4 [dP,.int w,.int n,.int x,.int y] st=.ok (yaE w n x y) st:=by
 have hW:(0:Int)<2^w:=Ab ∅;have hP0:(0:Int)<2^(w*n):=Ab ⋯;have hN0:(0:Int)<2^(2*w*n):=Ab ⋯;have hK:1<=w*n:=by have:=BO hw hn;lia
 have hK2:w*n<=64:=BO hw2 hn2;have hp64:(2:Int)^(w*n)<=2^64:=by
  have hh:(2:Nat)^(w*n)<=2^64:=Am ∅ hK2;have h2:=pw (w*n);lia
 have D:=zpO (w:=w) (n:=n) hw2 hn hn2;have E0:=λt=>zdi k D hw2 ∅ x0 x1 y0 y1 (λ_=>zpP) t;obtain⟨X,hX⟩:∃X,sgd (2^(w*n)) x=X:=⟨_,rfl⟩;obtain⟨Y,hY⟩:∃Y,sgd (2^(w*n)) y=Y:=⟨_,rfl⟩;have hXb:X.natAbs<18446744073709551616:=by rw[<-hX];unfold sgd;split<;>lia
 obtain⟨Z,hZ⟩:∃Z,sgP w n x y=Z:=⟨_,rfl⟩;have hXY:X*Y=Z:=by rw[<-hZ,sgP,hX,hY]
 have ef:∀t,yc T (20+k) yiE [.int x,.int y,.int ((w*n:Nat):Int)] t=.ok (.tp AC [.int Z,.int 0,.int (bi (!yaH (2^(w*n)) Z))]) t:=λt=>by
  have hT:T yiE=AA yhI:=rfl;have m1:yq .mul (.int X) (.int Y)=AA (.int Z):=by rw[<-hXY];exact zaO hXb
  have g1:∀t,yc T (19+k) y6 [.int x,.int ((w*n:Nat):Int)] t=.ok (.int X) t:=λt=>by
   rw[<-hX,show 19+k=18+k+1 by lia];exact zcG (18+k) hK hK2 x0 x1 t
  have g2:∀t,yc T (19+k) y6 [.int y,.int ((w*n:Nat):Int)] t=.ok (.int Y) t:=λt=>by
   rw[<-hY,show 19+k=18+k+1 by lia];exact zcG (18+k) hK hK2 y0 y1 t
  have g3:∀t,yc T (19+k) yhY [.int Z,.int ((w*n:Nat):Int)] t=.ok (.int (bi (!yaH (2^(w*n)) Z))) t:=λt=>by
   rw[show 19+k=18+k+1 by lia];exact zqt (18+k) hK hK2 Z t
  rw[show 20+k=19+k+1 by lia,zc hT rfl rfl rfl];generalize ((w*n:Nat):Int)=K,bi (!yaH (2^(w*n)) Z)=o at *;simp! [yhI,g1,g2,m1,g3];rfl
 have hf:mkV yh5 AB (.str "signed product")=AA yiE:=by ac_rfl
 have E1:∀t,yc T (21+k) yiD [dP,.int w,.int n,.int x,.int y] t=.ok (.tp AC [.int Z,.int 0,.int (bi (!yaH (2^(w*n)) Z))]) t:=λt=>by
  have hT:T yiD=AA ⟨5,6,AB,yaw.body⟩:=rfl;have i0:∀st,idxV st dP (.int 0)=AA (.str "signed product"):=λ_=>ix0;have hl:decide (5<6)=true:=rfl;have c1:yu .eq (.str "signed product") (.str "led")=AA (.bl AC):=by ac_rfl
  have c2:yu .isin (.str "signed product") yfy=AA (.bl AC):=by ac_rfl
  have m1:=zdb w n ∅;rw[show 21+k=20+k+1 by lia,zc hT rfl rfl rfl];dsimp only;generalize bi (!yaH (2^(w*n)) Z)=o,dP=d at *;simp! [yaw,i0,c1,c2,zm4,hl,hf,yeq,m1,ef];rfl
 have up':∀{f:Nat} {fn:IC.Fn} {args:List PV} {v:PV},T f=AA fn->fn.pure=AB->args.length=fn.np->nLs args=AB->yc T 20 f args []=.ok v []->∀s,yc T (21+k) f args s=.ok v s:=λ{f fn args v} a b c d e s=>by
  have:=zak e (1+k);rw[show 20+(1+k)=20+k+1 by lia]at this;rw[show 21+k=20+k+1 by lia];exact zbL a b c d this s
 have nl2:nLs [dP,.int (n:Int)]=true:=rfl;have E2:=up' (f:=ym) (fn:=yv) rfl rfl rfl nl2 D.ans;have E4:=up' (f:=yg5) (fn:=yy) rfl rfl rfl nl2 D.rest;have r2:=Aq Z (show (2:Int)^(2*w*n)≠0 by lia);have r3:=A9 Z hN0;obtain⟨v,hv⟩:∃v,Z%2^(2*w*n)=v:=⟨_,rfl⟩;rw[hv]at r2 r3;have E3:∀t,yc T (21+k) yk [.int Z,.int w,.int ((2*n:Nat):Int)] t=.ok (.tp AC ((yg (2^w) (2*n) v).map .int)) t:=λt=>by
  rw[<-hv,zm3,zeT hW,show 21+k=20+k+1 by lia];exact lowest (20+k) _ w (2*n) hw2 ∅ t
 have E5:∀t,yc T (21+k) yk [.int (x-y*Z),.int w,.int 0] t=.ok (.tp AC (([]:List Int).map .int)) t:=λt=>by
  rw[show 21+k=20+k+1 by lia];exact lowest (20+k) _ w 0 hw2 ∅ t
 have m1:yq .mul (.int y) (.int Z)=AA (.int (y*Z)):=zaO ∅;have r4:v<(2^w:Int)^(2*n):=by rw[<-zm3];exact r3
 have E6:∀t,yar .any t [.tp AC ((yg (2^w) (2*n) v).map .int)]=AA (.bl (!(v==0))):=λt=>by
  show (anyI _).map PV.bl=_;rw[zho,ze3 hW _ _ r2 r4];rfl
 have E7:∀t,yc T (21+k) yg6 [.tp AC ((yg (2^w) (2*n) v).map .int),.int w] t=.ok (.int (bi (decide ((2:Int)^(2*w*n)<=2*v)))) t:=λt=>by
  rw[zm3];obtain⟨m,hm⟩:∃m,2*n=m+1:=⟨2*n-1,by lia⟩;rw[hm]at r4 ⊢;rw[show 21+k=20+k+1 by lia];exact zgQ (20+k) (w:=w) (n:=m) ∅ r2 r4 t
 have c0:yu .eq (.str "signed product") (.str "compare")=AA (.bl AC):=by ac_rfl
 rw[show 22+k=21+k+1 by lia];have h:=zmi (21+k) (d:=dP) rfl (s:=AE "signed product") (λ_=>ix0) c0 E0 E1 E2 E3 m1 E4 E5 E6 (z:=bi (v==0)) (by cases (v==0)<;>rfl) E7 st;unfold yaE;rw[hZ,hv];exact h
end
def zd7{call:Cl}{W:Int}(hW:0<W)(hW2:W<18446744073709551616){p1 p2:Option PV}:∀(n:Nat) (a x:Int) (acc:List PV) (u:Option PV),acc.length+n<1000000 ->
  ∃x' u',yaY call (.n 5) (.cons (.expr (.mth .append (.var 4) (.cons (.bin .mod (.var 0) (.var 3)) .nil))) (.cons (.asg (.n 0) (.bin .fdiv (.var 0) (.var 3))) .nil)) (yo n a 1) [AA (.int x),p1,p2,AA (.int W),AA (.loc 0),u] [.lst acc]=.nx [AA (.int x'),p1,p2,AA (.int W),AA (.loc 0),u'] [.lst (acc++(yg W n x).map .int)]
 |0,a,x,acc,u,_=>⟨x,u,by rw[yo,zD];simp[yg]⟩
 |n+1,a,x,acc,u,h=>by
  let⟨x',u',e⟩:=zd7 (call:=call) hW hW2 (p1:=p1) (p2:=p2) n (a+1) (x/W) (acc++[.int (x%W)]) (AA (.int a)) (by simp;lia);refine⟨x',u',?_⟩;have hW3:W<18446744073709551616*18446744073709551616:=by lia
  have hl:acc.length<1000000:=by lia
  rw[yo,zt (ρ1:=[AA (.int x),p1,p2,AA (.int W),AA (.loc 0),AA (.int a)]) rfl];have hm:yaL .append [Ob.lst acc] (.loc 0)=AA true:=rfl;have hap:yb5 .append [Ob.lst acc] (.loc 0) [.int (x%W)]=.ok .non [.lst (acc++[.int (x%W)])]:=by
   simp[yb5,ydL,hl]
  erw[xs_cons,xs_nil,x_asg,x_expr,IC.ve20,IC.ve2,IC.ve3,evs,Ae,A5,bd_ok,fl_ok,hm,ono,ziu hW,zki hW hW3,toR_some,hap,bT_n,nxO_some,th_nx,As,Au,yat];rw[e];simp[yg]
theorem words(k:Nat)(x:Int)(w n:Nat)(hw:w<=16)(hn:n<1000)(st:SO):yc T (k+2) yiJ [.int x,.int w,.int n] st=.ok (.tup ((yg (2^w) n x).map .int)) st:=by
 have hW:(0:Int)<2^w:=Ab ∅;have hW2:(2:Int)^w<18446744073709551616:=by
  have h:(2:Nat)^w<=2^16:=Am ∅ hw;have h2:((2^w:Nat):Int)=2^w:=by simp
  lia
 let⟨x',u',e⟩:=zd7 (call:=yc T (k+1)) hW hW2 (p1:=AA (.int w)) (p2:=AA (.int n)) n 0 x [] AD (by simp;lia);have ht:=zd1 k w ∅ [];have hT:T yiJ=AA yhM:=rfl;rw[yc,hT];erw[yhM,AX,Bd,Br,Cg,if_true,nLs,nL,Cf,AL,Ai,C0,An,Aa,Av,xs_cons,xs_nil,x_asg,x_for,x_ret,IC.ve18,IC.ve2,IC.ve13,IC.ve19,evs,evi,Ae,A5,bd_ok,fl_ok,ht,bT_n,nxO_some,th_nx,As,Au,zbs n hn,toL,DB,sizeMax,e];simp[yar,yeA,yZ,toR,fl_ok,nL,noLocs_ints,R.fl,yas]
theorem signed(k:Nat)(x:Int)(K:Nat)(hK:K<1000)(st:SO):yc T (k+2) yh1 [.int x,.int K] st=.ok (.int (if 2^K<=2*x then x-2^K else x)) st:=by
 have ht:=zd1 k K hK [];have hT:T yh1=AA yhN:=rfl;rw[yc,hT];erw[yhN,AX,Bd,Br,Cg,if_true,nLs,nL,Cf,AL,Ai,C0,An,Aa,Av,xs_cons,xs_nil,x_asg,x_ite,x_ret,IC.ve18,IC.ve1,IC.ve2,IC.ve3,IC.ve8,evs,Ae,A5,bd_ok,fl_ok,ht,b_sub,b_mul2,toR_some,bT_n,nxO_some,th_nx,th_rt,As,Au,c_ge,t_bl,on_t]
 by_cases h:2^K<=2*x<;>simp[h,R.fl,yas,nL]
theorem fits(k:Nat)(s:Int)(K:Nat)(hK:K<1000)(st:SO):yc T (k+2) yjR [.int s,.int K] st=.ok (.bl (decide (0-2^K<=2*s)&&decide (2*s<2^K))) st:=by
 have ht:=zd1 k K hK [];have hT:T yjR=AA yhR:=rfl;rw[yc,hT];erw[yhR,AX,Bd,Br,Cg,if_true,nLs,nL,Cf,AL,Ai,C0,An,Aa,Av,xs_cons,xs_nil,x_asg,x_ret,IC.ve18,IC.ve1,IC.ve2,IC.ve3,IC.ve9,evs,Ae,A5,bd_ok,fl_ok,ht,b_sub,b_mul2,toR_some,bT_n,nxO_some,th_nx,th_rt,As,Au,c_le,c_lt,blO,ono]
 cases decide (0-2^K<=2*s)<;>simp[R.fl,toR,yas,nL]
theorem ends(k:Nat)(v:Int)(K:Nat)(hK:K<1000)(st:SO):yc T (k+2) yiK [.int v,.int K] st=.ok (.tup [.int (bi (v==0)),.int (bi (decide (2^K<=2*v)))]) st:=by
 have ht:=zd1 k K hK [];have hT:T yiK=AA yhS:=rfl;rw[yc,hT];erw[yhS,AX,Bd,Br,Cg,if_true,nLs,nL,Cf,AL,Ai,C0,An,Aa,Ap,Av,xs_cons,xs_nil,x_asg,x_ret,IC.ve18,IC.ve1,IC.ve2,IC.ve3,IC.ve8,IC.ve11,IC.ve19,evs,Ae,A5,bd_ok,fl_ok,ht,b_sub,b_mul2,toR_some,c_eq,c_ge,zld,zod];simp[R.fl,yas,nL,nLs,sizeMax]
def zfe:∀l:List Int,allB (l.map λ_=>PV.bl AB)=AA AB
 |[]=>rfl
 |a::l=>by rw[AL,allB,zfe l];rfl
def zjJ(l:List Int)(st:SO):yar .all st [.lst (l.map λ_=>PV.bl AB)]=AA (.bl AB):=by
 show (allB _).map PV.bl=_;rw[zfe];rfl
def zpS(k:Nat)(v:Int)(st:SO):yc T (k+1) yg8 [.int v] st=.ok (.bl AB) st:=by
 have hT:T yg8=AA yhO:=rfl;have e1:yaM (.int v) [.int]=AA (.bl AB):=rfl;have e2:yaM (.int v) [.bool]=AA (.bl AC):=rfl;rw[zc hT rfl rfl rfl];simp! [yhO,e1,e2];rfl
def zcZ{call:Cl}{ρ0:IC.Env}{t:Tg}{c e:Ce}{st:SO}:∀l:List Int,(∀x∈l,ybe call ρ0 t c e (.int x) st=.ok (AA (.bl AB)) st)->yag call ρ0 t c e (l.map .int) st=.ok (l.map λ_=>.bl AB) st
 |[],_=>zbi
 |a::l,h=>by
  rw[AL,zad,h a (by simp),bd_ok,zcZ l (λx hx=>h x (by simp[hx])),bd_ok];rfl
def zqu(k:Nat){ws:List Int}{w:Nat}(hw:w<=16)(hl:ws.length<=1000)(hr:∀v∈ws,0<=v/\v<2^w)(st:SO):yc T (k+2) yjQ [.tp AC (ws.map .int),.int w,.int (ws.length:Int)] st=.ok (.bl AB) st:=by
 have hT:T yjQ=AA yhQ:=rfl;have e1:yaM (.tp AC (ws.map .int)) [.tuple]=AA (.bl AB):=rfl;have e2:∀st,yar .len st [.tp AC (ws.map .int)]=AA (.int (ws.length:Int)):=λst=>by
  show AA (PV.int (((ws.map PV.int).length:Nat):Int))=_;simp
 have q1:yag (yc T (k+1)) [AD] (.n 0) (.cst (.bl AB)) (.call yg8 (.cons (.var 0) .nil)) (ws.map .int) []=.ok (ws.map λ_=>.bl AB) []:=zcZ ws λx _=>by
  have e:=zpS k x [];simp! [ybe,e]
 have q2:yag (yc T (k+1)) [AD,AA (.int w)] (.n 0) (.cst (.bl AB)) (.chain .le .lt (.cst (.int 0)) (.var 0) (.call yh0 (.cons (.var 1) .nil))) (ws.map .int) []=.ok (ws.map λ_=>.bl AB) []:=zcZ ws λx hx=>by
  have e:=zd1 k w ∅ [];have c1:decide (0<=x)=true:=decide_eq_true (hr x hx).1;have c2:decide (x<2^w)=true:=decide_eq_true (hr x hx).2;simp! [ybe,e,c1,c2,blO]
 have lr:=zcv (ws.map λ_=>PV.bl AB) (by simp;lia);have ta:=zjJ ws;rw[zc hT rfl rfl (by simp[nLs,nL,noLocs_ints])];simp! [yhQ,e1,e2,beq_self_eq_true,q1,lr,ta,q2];rfl
def zqv(k:Nat){a b c d:Int}(ha:-1<=a/\a<=1)(hb:-1<=b/\b<=1)(hc:-1<=c/\c<=1)(hd:-1<=d/\d<=1)(st:SO):yc T (k+2) yjP [.tp AC [.int a,.int b,.int c,.int d],.int 4,.int 1] st=.ok (.bl AB) st:=by
 have hT:T yjP=AA yhP:=rfl;have e1:yaM (.tp AC [.int a,.int b,.int c,.int d]) [.tuple]=AA (.bl AB):=rfl;have e2:∀st,yar .len st [.tp AC [.int a,.int b,.int c,.int d]]=AA (.int 4):=λ_=>rfl;have q:yag (yc T (k+1)) [AD,AA (.int 1)] (.n 0) (.cst (.bl AB)) (.and (.call yg8 (.cons (.var 0) .nil)) (.chain .le .le (.bin .sub (.cst (.int 0)) (.var 1)) (.var 0) (.var 1))) ([a,b,c,d].map .int) []=.ok ([a,b,c,d].map λ_=>.bl AB) []:=zcZ [a,b,c,d] λx hx=>by
  have e:=zpS k x [];have hx:-1<=x/\x<=1:=by
   erw[AR,A7,or_false]at hx;rcases hx with rfl|rfl|rfl|rfl<;>assumption
  have c1:decide ((0:Int)-1<=x)=true:=decide_eq_true ∅;have c2:decide (x<=1)=true:=decide_eq_true hx.2;simp! [ybe,e,c1,c2,blO]
 have q:yag (yc T (k+1)) [AD,AA (.int 1)] (.n 0) (.cst (.bl AB)) (.and (.call yg8 (.cons (.var 0) .nil)) (.chain .le .le (.bin .sub (.cst (.int 0)) (.var 1)) (.var 0) (.var 1))) [.int a,.int b,.int c,.int d] []=.ok [.bl AB,.bl AB,.bl AB,.bl AB] []:=q;have lr:∀st,ych (.ok [PV.bl AB,.bl AB,.bl AB,.bl AB] st)=.ok (.lst [.bl AB,.bl AB,.bl AB,.bl AB]) st:=λst=>zcv _ (by simp) st;have ta:∀st,yar .all st [.lst [.bl AB,.bl AB,.bl AB,.bl AB]]=AA (.bl AB):=λ_=>rfl;have b4:((4:Int)==4)=true:=rfl;rw[zc hT rfl rfl rfl];simp! [yhP,e1,e2,b4,q,lr,ta];rfl
def zpG(b:Bool):-1<=bi b/\bi b<=1:=by cases b<;>decide
def ziN(l:List Int):ybc (l.map .int) (l.map .int)=true:=by
 induction l with
 |nil=>simp[ybc]
 |cons a l ih=>simp[ybc,peq,ih]
def zie(n:Nat)(l:List Int):ybu n (l.map .int)=true:=by
 induction l with
 |nil=>simp[ybu]
 |cons a l ih=>simp[ybu,shd,ih]
def zpl(ws us:List Int)(a b c d:Int):yu .ne (dvv ws us a b c d) (dvv ws us a b c d)=AA (.bl AC):=by
 simp[yu,shd,ybu,peq,ybc,ziN,zie]
theorem told(k:Nat){w n:Nat}(hw2:w<=16)(hn2:n<=4)(x y:Int)(st:SO):yc T (k+3) yh3 [yaE w n x y,yaE w n x y,.int w] st=.ok (.bl AB) st:=by
 have hW:(0:Int)<2^w:=Ab ∅;have hT:T yh3=AA yhU:=rfl;have nl:nL (yaE w n x y)=true:=by simp[yaE,nL,nLs,noLocs_ints]
 have e1:yaM (yaE w n x y) [.tuple]=AA (.bl AB):=rfl;have e2:∀st,yar .len st [yaE w n x y]=AA (.int 3):=λ_=>rfl;have b3:((3:Int)==3)=true:=rfl;have e3:yu .ne (yaE w n x y) (yaE w n x y)=AA (.bl AC):=zpl _ _ _ _ _ _;obtain⟨ws,hws⟩:∃ws,yg (2^w) (2*n) (sgP w n x y%2^(2*w*n))=ws:=⟨_,rfl⟩;have i0:∀st,idxV st (yaE w n x y) (.int 0)=AA (.tp AC (ws.map .int)):=λ_=>by rw[<-hws];rfl
 have i1:∀st,idxV st (yaE w n x y) (.int 1)=AA (.tp AC []):=λ_=>rfl;have i2:∀st,idxV st (yaE w n x y) (.int 2)=AA (.tp AC [.int 0,.int (bi (!yaH (2^(w*n)) (sgP w n x y))),.int (bi (sgP w n x y%2^(2*w*n)==0)),.int (bi (decide ((2:Int)^(2*w*n)<=2*(sgP w n x y%2^(2*w*n)))))]):=λ_=>rfl;have l0:∀st,yar .len st [.tp AC (ws.map .int)]=AA (.int (ws.length:Int)):=λst=>by
  show AA (PV.int (((ws.map PV.int).length:Nat):Int))=_;simp
 have nu:=λt=>zqu k (ws:=ws) hw2 (by rw[<-hws,z4];lia) (by rw[<-hws];exact zbk hW _ _) t;have c1:yu .eq (.tp AC []) (.tp AC [])=AA (.bl AB):=by ac_rfl
 have wh:=λt=>zqv k (a:=0) ⋯ (zpG (!yaH (2^(w*n)) (sgP w n x y))) (zpG (sgP w n x y%2^(2*w*n)==0)) (zpG (decide ((2:Int)^(2*w*n)<=2*(sgP w n x y%2^(2*w*n))))) t;rw[show k+3=k+2+1 by lia,zc hT rfl rfl (by simp[nLs,nl,nL])]
 clear hws
 generalize yaE w n x y=V,bi (!yaH (2^(w*n)) (sgP w n x y))=z1,bi (sgP w n x y%2^(2*w*n)==0)=z2,bi (decide ((2:Int)^(2*w*n)<=2*(sgP w n x y%2^(2*w*n))))=z3,(ws.length:Int)=N,PV.tp AC (ws.map .int)=A at *;simp! [yhU,e1,e2,b3,e3,i0,i1,i2,l0,nu,c1,wh];rfl
theorem due(k:Nat){w n:Nat}(hw:4<=w)(hw2:w<=16)(hn:1<=n)(hn2:n<=4){x y:Int}(x0:0<=x)(x1:x<2^(w*n))(st:SO):yc T (k+3) yh2 [.int w,.int n,.int x,.int y] st=.ok (yaE w n x y) st:=by
 have hK:w*n<=64:=BO hw2 hn2;have hK2:2*w*n<=128:=by rw[Gk];lia
 have hN0:(0:Int)<2^(2*w*n):=Ab ⋯;have hp64:(2:Int)^(w*n)<=2^64:=by
  have hh:(2:Nat)^(w*n)<=2^64:=Am ∅ hK;have h2:=pw (w*n);lia
 have hT:T yh2=AA yhT:=rfl;obtain⟨X,hX⟩:∃X,sgd (2^(w*n)) x=X:=⟨_,rfl⟩;obtain⟨Y,hY⟩:∃Y,sgd (2^(w*n)) y=Y:=⟨_,rfl⟩;have hXb:X.natAbs<18446744073709551616:=by rw[<-hX];unfold sgd;split<;>lia
 obtain⟨Z,hZ⟩:∃Z,sgP w n x y=Z:=⟨_,rfl⟩;have hXY:X*Y=Z:=by rw[<-hZ,sgP,hX,hY]
 have m0:yq .mul (.int X) (.int Y)=AA (.int Z):=by rw[<-hXY];exact zaO hXb
 have m1:=zdb w n ∅;have m2:yq .mul (.int 2) (.int (w:Int))=AA (.int ((2*w:Nat):Int)):=zdb 2 w ∅;have m3:=zdb (2*w) n ∅;have m4:yq .mul (.int 2) (.int (n:Int))=AA (.int ((2*n:Nat):Int)):=zdb 2 n ∅;have g1:∀t,yc T (k+2) yh1 [.int x,.int ((w*n:Nat):Int)] t=.ok (.int X) t:=λt=>by rw[<-hX];exact signed k x (w*n) ∅ t
 have g2:∀t,yc T (k+2) yh1 [.int y,.int ((w*n:Nat):Int)] t=.ok (.int Y) t:=λt=>by rw[<-hY];exact signed k y (w*n) ∅ t
 have e1:∀t,yc T (k+2) yh0 [.int ((2*w*n:Nat):Int)] t=.ok (.int (2^(2*w*n))) t:=λt=>zd1 (k+1) (2*w*n) ∅ t;have md:yq .mod (.int Z) (.int (2^(2*w*n)))=AA (.int (Z%2^(2*w*n))):=ziu hN0;have hf:(decide (0-2^(w*n)<=2*Z)&&decide (2*Z<2^(w*n)))=yaH (2^(w*n)) Z:=by unfold yaH;congr 1
 have ft:=λt=>fits k Z (w*n) ∅ t;rw[hf]at ft;obtain⟨v,hv⟩:∃v,Z%2^(2*w*n)=v:=⟨_,rfl⟩;rw[hv]at md;have e2:∀t,yc T (k+2) yiK [.int v,.int ((2*w*n:Nat):Int)] t=.ok (.tp AC [.int (bi (v==0)),.int (bi (decide ((2:Int)^(2*w*n)<=2*v)))]) t:=λt=>ends k v (2*w*n) ∅ t;have e3:∀t,yc T (k+2) yiJ [.int v,.int w,.int ((2*n:Nat):Int)] t=.ok (.tp AC ((yg (2^w) (2*n) v).map .int)) t:=λt=>words k v w (2*n) hw2 ∅ t;have ib:∀(b:Bool) (st:SO),yar .int st [.bl b]=AA (.int (bi b)):=λb st=>by cases b<;>rfl
 have ad:∀a b c d:PV,yq .add (.tp AC [a,b]) (.tp AC [c,d])=AA (.tp AC [a,b,c,d]):=λ_ _ _ _=>rfl;have nl:nL (.tp AC ((yg (2^w) (2*n) v).map .int))=true:=by simp[nL,noLocs_ints]
 rw[show k+3=k+2+1 by lia,zc hT rfl rfl rfl];unfold yaE dvv;rw[hZ,hv]
 clear hf
 generalize PV.tp AC ((yg (2^w) (2*n) v).map .int)=A,bi (v==0)=z2,bi (decide ((2:Int)^(2*w*n)<=2*v))=z3,yaH (2^(w*n)) Z=fb,((2*w*n:Nat):Int)=K2,((w*n:Nat):Int)=K1,((2*w:Nat):Int)=K3,((2*n:Nat):Int)=K4 at *;generalize (2:Int)^(2*w*n)=P2 at *
 cases fb<;>simp! [yhT,g1,g2,m0,m1,m2,m3,m4,e1,md,ft,e2,e3,ib,ad]<;>simp[ybq,nL,nLs,nl]
def ybA:Ce:=match yW.body with
 |.cons _ (.cons (.while c _) _)=>c
 |_=>.nope
def ybQ:Css:=match yW.body with
 |.cons _ (.cons (.while _ b) _)=>b
 |_=>.nil
def ziW{c:Cl}{n:Nat}{ns:List Int}{a p m t:Int}{f:Bool}{u:Option PV}{st:SO}(h:st[n]?=AA (.lst [.lst (ns.map .int),.int a,.int p,.bl f])):
  ∃B,ev c [AA (.loc n),AA (.int m),AA (.int t),u] st ybA=.ok (.bl B) st/\(B=AB->t<64):=by
 by_cases h1:t<64
 .by_cases h2:p=0
  .refine⟨AB,?_,λ_=>h1⟩;simp! [ybA,yW,R.bind,h,idxV,yaW,at?,ixI,yq,binI,yaB,toR,yu,ybI];simp[h1,h2,zds,peq]
  .have h2:(p==0)=false:=by simp[h2]
   cases f
   .refine⟨AC,?_,λ_=>h1⟩;simp! [ybA,yW,R.bind,h,idxV,yaW,at?,ixI,yq,binI,yaB,toR,yu,ybI];simp[h,h1,h2,zds,peq]
   .refine⟨decide (p<m*4096),?_,λ_=>h1⟩;simp! [ybA,yW,R.bind,h,idxV,yaW,at?,ixI,yq,binI,yaB,toR,yu,ybI];simp[h,h1,h2,zds,peq]
 .refine⟨AC,?_,λz=>by cases z⟩;simp! [ybA,yW,R.bind,h,idxV,yaW,at?,ixI,yq,binI,yaB,toR,yu,ybI];simp[h1]
def ziL(k:Nat){n:Nat}{ns:List Int}(hns:ns.length<=1000){a p m t:Int}(ha:0<=a){f:Bool}{u:Option PV}{st:SO}(h:st[n]?=AA (.lst [.lst (ns.map .int),.int a,.int p,.bl f])):
  ∃p' f',exs (yc T (k+2)) [AA (.loc n),AA (.int m),AA (.int t),u] st ybQ=.nx [AA (.loc n),AA (.int m),AA (.int (t+1)),u] (st.set n (.lst [.lst (ns.map .int),.int (a+1),.int p',.bl f'])):=by
 let⟨q,g,hq⟩:=fill k n ns hns a p ha f st h;have hm:(1+q%4093).natAbs<18446744073709551616:=by lia
 have hau:∀st,ex (yc T (k+2)) [AA (.loc n),AA (.int m),AA (.int t),u] st (.aug 2 .add (.cst (.int 1)))=.nx [AA (.loc n),AA (.int m),AA (.int (t+1)),u] st:=λst=>by
  rw[zpg (x:=.int t) rfl];simp[IC.ve1,R.fl,ybN,yq,binI,nxO]
 cases g
 .refine⟨q,AC,?_⟩;simp! [ybQ,yW,hau,yas,nxO,R.fl,R.bind,hq,ybN,yq,binI,Di,rdS h,idxV,yaW,at?,ixI,yaB,toR,yu,ybI,onF,yaK];simp[rdS h]
 .by_cases hl:q<m*4096
  .refine⟨q+m*4096*(1+q%4093),AB,?_⟩;simp! [ybQ,yW,hau,yas,nxO,R.fl,R.bind,hq,ybN,yq,binI,Di,rdS h,idxV,yaW,at?,ixI,yaB,toR,yu,ybI,onF,yaK,stO,ybx];simp[rdS h,hl,hm]
  .refine⟨q,AB,?_⟩;simp! [ybQ,yW,hau,yas,nxO,R.fl,R.bind,hq,ybN,yq,binI,Di,rdS h,idxV,yaW,at?,ixI,yaB,toR,yu,ybI,onF,yaK];simp[rdS h,hl]
def zeK(k:Nat){n:Nat}{ns:List Int}(hns:ns.length<=1000){m:Int}{u:Option PV}:∀(r N:Nat) (t a p:Int) (f:Bool) (st:SO),r<=N->64-t<=r->0<=a->st[n]?=AA (.lst [.lst (ns.map .int),.int a,.int p,.bl f]) ->
  ∃t' a' p' f',0<=a'/\yaQ (yc T (k+2)) ybA ybQ (N+1) [AA (.loc n),AA (.int m),AA (.int t),u] st=.nx [AA (.loc n),AA (.int m),AA (.int t'),u] (st.set n (.lst [.lst (ns.map .int),.int a',.int p',.bl f']))
 |r,N,t,a,p,f,st,hN,ht,ha,h=>by
  let⟨B,hB,hb⟩:=ziW (c:=yc T (k+2)) (m:=m) (t:=t) (u:=u) h;have hs:st.set n (.lst [.lst (ns.map .int),.int a,.int p,.bl f])=st:=by
   refine EQ λi=>?_;rw[Ch];split
   .rename_i e;subst e;split
    .exact h.symm
    .rename_i z;rw[BU ∅]at h
     cases h
   .rfl
  cases B with
  |false=>exact⟨t,a,p,f,ha,by rw[zfM hB rfl,hs]⟩
  |true=>
   have h64:=hb rfl
   match r,N with
   |0,_=>exact absurd ht ∅
   |r+1,N+1=>
    let⟨p1,f1,hx⟩:=ziL k hns (m:=m) (t:=t) ha (u:=u) h;let⟨t',a',p',f',h0,h2⟩:=zeK k hns (m:=m) (u:=u) r N (t+1) (a+1) p1 f1 _ ∅ ∅ ∅ (rdS h);refine⟨t',a',p',f',h0,?_⟩;rw[zin hB rfl hx,h2,DN]
theorem take(k n:Nat)(ns:List Int)(hns:ns.length<=1000)(a p m:Int)(ha:0<=a)(hm:0<m)(hm2:m<10000000000000000000000000000000000000000000000000000000000000000000000)(f:Bool)(st:SO)(h:st[n]?=AA (.lst [.lst (ns.map .int),.int a,.int p,.bl f])):
  ∃d a' p' f',0<=d/\d<m/\0<=a'/\yc T (k+3) yiI [.loc n,.int m] st=.ok (.int d) (st.set n (.lst [.lst (ns.map .int),.int a',.int p',.bl f'])):=by
 let⟨t',a',p',f',h0,h2⟩:=zeK k hns (m:=m) (u:=AD) 64 99999 0 a p f st ∅ ∅ ha h;refine⟨p'%m,a',p'/m,f',Aq _ ∅,A9 _ hm,h0,?_⟩;have hb:yW.body=.cons (.asg (.n 2) (.cst (.int 0))) (.cons (.while ybA ybQ) (.cons (.asg (.n 3) (.bin .mod (.idx (.var 0) (.cst (.int 2))) (.var 1))) (.cons (.six (.var 0) (.cst (.int 2)) (.bin .fdiv (.idx (.var 0) (.cst (.int 2))) (.var 1))) (.cons (.ret (.var 3)) .nil)))):=rfl;have hT:T yiI=AA ⟨2,4,AC,yW.body⟩:=rfl;rw[yc,hT,hb];simp! [zlr,yas,nxO,stO,R.fl,R.bind,yI,h2,rdS h,idxV,yaW,at?,ixI,yq,binI,hm,hm2,and_self,toR,ybx];simp[rdS h,hm,hm2]
def Drw(ns:List Int)(n:Nat)(st:SO):Prop:=∃a p f,0<=a/\st[n]?=AA (.lst [.lst (ns.map .int),.int a,.int p,.bl f])
def Onl(ns:List Int)(n:Nat)(st st':SO):Prop:=∃a p f,0<=a/\st'=st.set n (.lst [.lst (ns.map .int),.int a,.int p,.bl f])
theorem Onl.drw{ns:List Int}{n:Nat}{st st':SO}(h:Drw ns n st)(o:Onl ns n st st'):Drw ns n st':=by
 let⟨a,p,f,ha,h⟩:=h;let⟨b,q,g,hb,rfl⟩:=o;exact⟨b,q,g,hb,rdS h⟩
theorem Onl.trans{ns:List Int}{n:Nat}{st st1 st2:SO}(o:Onl ns n st st1)(o2:Onl ns n st1 st2):Onl ns n st st2:=by
 let⟨b,q,g,hb,rfl⟩:=o;let⟨c,r,j,hc,rfl⟩:=o2;exact⟨c,r,j,hc,by rw[DN]⟩
def zf2(k:Nat){n:Nat}{ns:List Int}(hns:ns.length<=1000){m:Int}(hm:0<m)(hm2:m<10000000000000000000000000000000000000000000000000000000000000000000000){st:SO}(h:Drw ns n st):
  ∃d st',0<=d/\d<m/\Onl ns n st st'/\yc T (k+3) yiI [.loc n,.int m] st=.ok (.int d) st':=by
 let⟨a,p,f,ha,h⟩:=h;let⟨d,a',p',f',h1,h2,h3,h4⟩:=take k n ns hns a p m ha hm hm2 f st h;exact⟨d,_,h1,h2,⟨_,_,_,h3,rfl⟩,h4⟩
theorem sizes(k:Nat){n:Nat}{ns:List Int}(hns:ns.length<=1000){m:Int}(hm:0<m)(hm2:m<=100){st:SO}(h:Drw ns n st):
  ∃w z st',4<=w/\w<=16/\1<=z/\z<=m/\Onl ns n st st'/\yc T (k+4) yhZ [.loc n,.int m] st=.ok (.tup [.int w,.int z]) st':=by
 let⟨d,s1,d1,d2,o1,e1⟩:=zf2 k hns (m:=13) ∅ ∅ h;let⟨e,s2,d3,d4,o2,e2⟩:=zf2 k hns (m:=m) hm ∅ (o1.drw h);refine⟨4+d,1+e,s2,by lia,by lia,by lia,by lia,o1.trans o2,?_⟩;have hT:T yhZ=AA yhK:=rfl;rw[yc,hT];simp! [yhK,yas,R.fl,R.bind,e1,e2,yq,binI,toR];simp[sizeMax]
theorem fresh(k:Nat)(ns:List Int)(h:ns.length<=63)(st:SO):∃v,yc T (k+1) yiG [.scr (ns.map .int)] st=.ok (.loc st.length) (st++[v])/\v=.lst [.lst (ns.map .int),.int 0,.int 0,.bl AC]:=by
 have hT:T yiG=AA yhJ:=rfl;refine⟨_,?_,rfl⟩;rw[yc,hT];simp! [yhJ,yas,ev,R.fl,R.bind,toR];have hc:ycx (.scr (ns.map PV.int)) AD (.int 63)=AA (.lst (ns.map .int)):=by
  have hk:ybf ns.length 63=ns.length:=by
   show min 63 ns.length=ns.length;lia
  simp[ycx,yb3,yck,cut,ycC,ycP,hk]
  try rw[<-BD (f:=PV.int),GH]
 simp[yb3,onP,hc,sizeMax]
theorem dbl{call:Cl}{i j:Nat}(hij:i≠j):∀(N:Nat) (a:Int) (ρ:IC.Env) (v:Int) (st:SO),ρ[i]?=AA (AA (.int v)) ->
  ∃u,yaY call (.n j) (.cons (.asg (.n i) (.bin .mul (.cst (.int 2)) (.var i))) .nil) (yo N a 1) ρ st=.nx ((ρ.set i (AA (.int (2^N*v)))).set j u) st/\(N=0->ρ[j]?=AA u \/ ρ.length<=j)
 |0,a,ρ,v,st,h=>by
  have hi:ρ.set i (AA (.int v))=ρ:=by
   refine EQ λz=>?_;rw[Ch];split
   .rename_i e;subst e;split
    .exact h.symm
    .rw[BU ∅]at h
     cases h
   .rfl
  rcases CJ j ρ.length with hj|hj
  .refine⟨ρ[j],?_,λ_=>.inl (Cv hj)⟩;rw[yo,zD,El,BJ,hi,List.set_getElem_self]
  .refine⟨AD,?_,λ_=>.inr hj⟩;rw[yo,zD,El,BJ,hi,List.set_eq_of_length_le hj]
 |N+1,a,ρ,v,st,h=>by
  have h1:(ρ.set j (AA (.int a)))[i]?=AA (AA (.int v)):=by
   rw[AM (BE hij)];exact h
  have hil:i<ρ.length:=by
   rcases CJ i ρ.length with z|z
   .exact z
   .rw[BU z]at h;cases h
  have h2:exs call (ρ.set j (AA (.int a))) st (.cons (.asg (.n i) (.bin .mul (.cst (.int 2)) (.var i))) .nil)=.nx ((ρ.set j (AA (.int a))).set i (AA (.int (2*v)))) st:=by
   erw[xs_nil,xs_cons,x_asg,yas,nxO,IC.ve1,IC.ve2,IC.ve3,R.bind,R.fl,h1,yI,yq,binI,yaB,toR];simp
  let⟨u,h3,_⟩:=dbl (call:=call) hij N (a+1) ((ρ.set j (AA (.int a))).set i (AA (.int (2*v)))) (2*v) st (by rw[A4 (by rw[B3];exact hil)]);refine⟨u,?_,λz=>by cases z⟩;rw[yo,zt (ρ1:=ρ.set j (AA (.int a))) rfl,h2];show yaY call _ _ _ _ _=_;rw[h3,DN,Gh _ _ (BE hij),DN,Af,BS]
def zeF(K:Nat):(0:Int)<2^K:=Ab ∅
def yH:Css:=match yO.body with
 |.cons _ (.cons _ (.cons _ r))=>r
 |_=>.nil
def wT2:Css:=match yH with
 |.cons _ (.cons _ (r))=>r
 |_=>.nil
theorem wE2:yH=(match yH with
 |.cons q0 (.cons q1 (_))=>.cons q0 (.cons q1 (wT2))
 |_=>.nil):=rfl
def wT4:Css:=match yH with
 |.cons _ (.cons _ (.cons _ (.cons _ (r))))=>r
 |_=>.nil
theorem wE4:yH=(match yH with
 |.cons q0 (.cons q1 (.cons q2 (.cons q3 (_))))=>.cons q0 (.cons q1 (.cons q2 (.cons q3 (wT4))))
 |_=>.nil):=rfl
def wT5:Css:=match yH with
 |.cons _ (.cons _ (.cons _ (.cons _ (.cons _ (r)))))=>r
 |_=>.nil
theorem wE5:yH=(match yH with
 |.cons q0 (.cons q1 (.cons q2 (.cons q3 (.cons q4 (_)))))=>.cons q0 (.cons q1 (.cons q2 (.cons q3 (.cons q4 (wT5)))))
 |_=>.nil):=rfl
def wT6:Css:=match yH with
 |.cons _ (.cons _ (.cons _ (.cons _ (.cons _ (.cons _ (r))))))=>r
 |_=>.nil
theorem wE6:yH=(match yH with
 |.cons q0 (.cons q1 (.cons q2 (.cons q3 (.cons q4 (.cons q5 (_))))))=>.cons q0 (.cons q1 (.cons q2 (.cons q3 (.cons q4 (.cons q5 (wT6))))))
 |_=>.nil):=rfl
def zg3{c:Cl}{n:Nat}{w z kd m:Int}{u5 u6 u7 u8 u9 u10 u11 u12:Option PV}{st:SO}(h0:0<=kd)(h6:kd<6)(hm:16<=m):
  ∃x,0<=x/\x<m/\exs c [AA (.loc n),AA (.int w),AA (.int z),AA (.int kd),AA (.int m),u5,u6,u7,u8,u9,u10,u11,u12] st yH=.rt (.int x) st:=by
 obtain⟨x,x0,x1,hv⟩:∃x:Int,0<=x/\x<m/\∀st,idxV st (.tup [.int 0,.int 1,.int (m-1),.int (m/2),.int (m/2-1),.int (m-2)]) (.int kd)=AA (.int x):=by
  rcases (by lia:kd=0 \/ kd=1 \/ kd=2 \/ kd=3 \/ kd=4 \/ kd=5)with rfl|rfl|rfl|rfl|rfl|rfl
  .exact⟨0,by lia,by lia,λ_=>rfl⟩
  .exact⟨1,by lia,by lia,λ_=>rfl⟩
  .exact⟨m-1,by lia,by lia,λ_=>rfl⟩
  .exact⟨m/2,by lia,by lia,λ_=>rfl⟩
  .exact⟨m/2-1,by lia,by lia,λ_=>rfl⟩
  .exact⟨m-2,by lia,by lia,λ_=>rfl⟩
 refine⟨x,x0,x1,?_⟩;rw[wE2];erw[yH,yO,AX,Bd,Br,Cg,if_true,xs_cons,xs_nil,x_asg,x_ite,x_ret,IC.ve1,IC.ve2,IC.ve3,IC.ve8,IC.ve11,IC.ve16,IC.ve18,evs,Ae,A5,bd_ok,fl_ok,toR_some,bT_n,nxO_some,th_nx,th_rt,As,Au,t_bl,on_t,sizeMax,GP,b_sub,b_div2,c_lt,c_eq,c_gt,cond_true,cond_false,hv,h6,decide_true]
def zh9(k:Nat){n:Nat}{ns:List Int}(hns:ns.length<=1000){w z kd m:Int}{u5 u6 u7 u8 u9 u10 u11 u12:Option PV}{st:SO}(h:Drw ns n st)(h9:9<kd)(hm:16<=m)(hm2:m<=18446744073709551616):
  ∃x st',0<=x/\x<m/\Onl ns n st st'/\exs (yc T (k+3)) [AA (.loc n),AA (.int w),AA (.int z),AA (.int kd),AA (.int m),u5,u6,u7,u8,u9,u10,u11,u12] st yH=.rt (.int x) st':=by
 let⟨d,s1,d1,d2,o1,e1⟩:=zf2 k hns (m:=m) ∅ ∅ h;refine⟨d,s1,d1,d2,o1,?_⟩;have k1:decide (kd<6)=false:=decide_eq_false ∅;have k2:(kd==6)=false:=beq_eq_false_iff_ne.2 ∅;have k3:(kd==7)=false:=beq_eq_false_iff_ne.2 ∅;rw[wE6];erw[yH,yO,AX,Bd,Br,Cg,if_true,xs_cons,xs_nil,x_asg,x_ite,x_ret,IC.ve1,IC.ve2,IC.ve3,IC.ve8,IC.ve11,IC.ve16,IC.ve18,evs,Ae,A5,bd_ok,fl_ok,toR_some,bT_n,nxO_some,th_nx,th_rt,As,Au,t_bl,on_t,sizeMax,GP,b_sub,b_div2,c_lt,c_eq,c_gt,cond_true,cond_false,e1,h9,decide_true,k1,k2,k3]
def zgX(k:Nat){n:Nat}{ns:List Int}(hns:ns.length<=1000){w z kd m:Int}{u5 u6 u7 u8 u9 u10 u11 u12:Option PV}{st:SO}(h:Drw ns n st)(hk:kd=6 \/ kd=7)(hw:4<=w)(hw2:w<=16)(hz:1<=z)(hz2:z<=4)(hm:m=2^(w*z).toNat):
  ∃x st',0<=x/\x<m/\Onl ns n st st'/\exs (yc T (k+3)) [AA (.loc n),AA (.int w),AA (.int z),AA (.int kd),AA (.int m),u5,u6,u7,u8,u9,u10,u11,u12] st yH=.rt (.int x) st':=by
 have hwz:4<=w*z:=by
  have:=EF hw hz ∅ ∅;lia
 have hwz2:w*z<=64:=by
  have:=EF hw2 hz2 ∅ ∅;lia
 have hm1:0<m:=hm ▸ zeF _;have hm2:m<=18446744073709551616:=by
  have h64:(2:Nat)^(w*z).toNat<=2^64:=Am ∅ ∅;have h65:((2^(w*z).toNat:Nat):Int)=2^(w*z).toNat:=by simp
  rw[hm,<-h65];lia
 let⟨d,s1,d1,d2,o1,e1⟩:=zf2 k hns (m:=m) ∅ ∅ h;let⟨e,s2,d3,d4,o2,e2⟩:=zf2 k hns (m:=w*z) ∅ ∅ (o1.drw h);have hj:(2:Int)^e.toNat<m:=by
  rw[hm];exact Int.pow_lt_pow_of_lt ∅ ∅
 have hj1:=zeF e.toNat;have hj2:(2:Int)^e.toNat<10000000000000000000000000000000000000000000000000000000000000000000000:=by lia
 have hj3:((2:Int)^e.toNat).natAbs<18446744073709551616:=by lia
 have hj4:(2:Nat)^e.toNat<18446744073709551616:=by
  have h65:((2^e.toNat:Nat):Int)=2^e.toNat:=by simp
  lia
 have hwa:w.natAbs<18446744073709551616:=by lia
 have hea:e.natAbs<1000000000:=by lia
 have hr:ybU (.int e)=AA (yo e.toNat 0 1):=by erw[ybU,hea,if_true]
 have q1:=zki (i:=d) hj1 ∅;have q2:yq .mul (.int (d/2^e.toNat)) (.int (2^e.toNat))=AA (.int (d/2^e.toNat*2^e.toNat)):=zdl hj3;have q3:yq .mul (.int w) (.int z)=AA (.int (w*z)):=zaO hwa
 clear hj2 hj4 hea hwa hj3 hwz hwz2
 rcases hk with rfl|rfl
 .let⟨u,hd,_⟩:=dbl (call:=yc T (k+3)) (i:=8) (j:=5) ∅ e.toNat 0 [AA (.loc n),AA (.int w),AA (.int z),AA (.int 6),AA (.int m),u5,AA (.tup [.int 0,.int 1,.int (m-1),.int (m/2),.int (m/2-1),.int (m-2)]),AA (.int d),AA (.int 1),u9,u10,u11,u12] 1 s2 rfl;refine⟨d/2^e.toNat*2^e.toNat,s2,Bp (CD d1 ∅) ∅,Int.lt_of_le_of_lt (Int.ediv_mul_le d ∅) d2,o1.trans o2,?_⟩;have k1:decide ((6:Int)<6)=false:=rfl;have k2:((6:Int)==6)=true:=rfl;rw[CU]at hd;rw[wE4];generalize wT4=F,(2:Int)^e.toNat=P at *;erw[IC.PV.tup]at hd;simp! [yH,yO,e1,k1,k2,q3,e2,hr,hd,q1,q2]
 .let⟨u,hd,_⟩:=dbl (call:=yc T (k+3)) (i:=8) (j:=5) ∅ e.toNat 0 [AA (.loc n),AA (.int w),AA (.int z),AA (.int 7),AA (.int m),u5,AA (.tup [.int 0,.int 1,.int (m-1),.int (m/2),.int (m/2-1),.int (m-2)]),AA (.int d),AA (.int 1),u9,u10,u11,u12] 1 s2 rfl;refine⟨m-2^e.toNat,s2,by lia,by lia,o1.trans o2,?_⟩;have k1:decide ((7:Int)<6)=false:=rfl;have k2:((7:Int)==6)=false:=rfl;have k3:((7:Int)==7)=true:=rfl;rw[CU]at hd;rw[wE5];generalize wT5=F,(2:Int)^e.toNat=P at *;erw[IC.PV.tup]at hd;simp! [yH,yO,e1,k1,k2,k3,q3,e2,hr,hd]
theorem Drw.refl{ns:List Int}{n:Nat}{st:SO}(h:Drw ns n st):Onl ns n st st:=by
 let⟨a,p,f,ha,h⟩:=h;exact⟨a,p,f,ha,zjz h⟩
def ybF:Css:=match yH with
 |.cons _ (.cons _ (.cons _ (.cons _ (.cons _ (.cons _ (.cons _ (.cons _ (.cons _ (.cons (.for _ _ b) _)))))))))=>b
 |_=>.nil
def zgK(k:Nat){n:Nat}{ns:List Int}(hns:ns.length<=1000){p1 p2 p3 p4 p6 p8 u11 u12:Option PV}{d W acc a:Int}{st:SO}(h:Drw ns n st)(ha:0<=a)(ha2:a<1000)(hW:4<=W)(hW2:W<18446744073709551616):
  ∃e st' v11 v12,0<=e/\e<W/\Onl ns n st st'/\exs (yc T (k+3)) [AA (.loc n),p1,p2,p3,p4,AA (.int a),p6,AA (.int d),p8,AA (.int W),AA (.int acc),u11,u12] st ybF=.nx [AA (.loc n),p1,p2,p3,p4,AA (.int a),p6,AA (.int d),p8,AA (.int W),AA (.int (acc*W+e)),v11,v12] st':=by
 let⟨t,s1,d1,d2,o1,e1⟩:=zf2 k hns (m:=5) ∅ ∅ h;have hW0:0<W:=by lia
 have hWm:W.natAbs<18446744073709551616:=by lia
 have ha3:0<a+1:=by lia
 have ha4:a+1<18446744073709551616*18446744073709551616:=by lia
 have q0:=Aq (d/(a+1)) (show W≠0 by lia);have q1:=A9 (d/(a+1)) hW0;obtain⟨e,x0,x1,hv⟩:∃e:Int,0<=e/\e<W/\∀st,idxV st (.tp AC [.int 0,.int 1,.int (W-1),.int (W/2),.int (d/(a+1)%W)]) (.int t)=AA (.int e):=by
  rcases (by lia:t=0 \/ t=1 \/ t=2 \/ t=3 \/ t=4)with rfl|rfl|rfl|rfl|rfl
  .exact⟨0,by lia,by lia,λ_=>rfl⟩
  .exact⟨1,by lia,by lia,λ_=>rfl⟩
  .exact⟨W-1,by lia,by lia,λ_=>rfl⟩
  .exact⟨W/2,by lia,by lia,λ_=>rfl⟩
  .exact⟨d/(a+1)%W,q0,q1,λ_=>rfl⟩
 refine⟨e,s1,AA (.int (d/(a+1)%W)),AA (.tp AC [.int 0,.int 1,.int (W-1),.int (W/2),.int (d/(a+1)%W)]),x0,x1,o1,?_⟩;simp! [ybF,yH,yO,zki ha3 ha4,ziu hW0,zdl hWm,e1,hv]
def zd3(k:Nat){n:Nat}{ns:List Int}(hns:ns.length<=1000){p1 p2 p3 p4 p6 p8:Option PV}{d W:Int}(hW:4<=W)(hW2:W<18446744073709551616):∀(r i:Nat) (a acc:Int) (u5 u11 u12:Option PV) (st:SO),0<=a->a+r<1000->0<=acc->acc<W^i->Drw ns n st ->
  ∃acc' st' v5 v11 v12,0<=acc'/\acc' < W^(i+r)/\Onl ns n st st'/\yaY (yc T (k+3)) (.n 5) ybF (yo r a 1) [AA (.loc n),p1,p2,p3,p4,u5,p6,AA (.int d),p8,AA (.int W),AA (.int acc),u11,u12] st=.nx [AA (.loc n),p1,p2,p3,p4,v5,p6,AA (.int d),p8,AA (.int W),AA (.int acc'),v11,v12] st'
 |0,i,a,acc,u5,u11,u12,st,_,_,h0,h1,h=>⟨acc,st,u5,u11,u12,h0,h1,h.refl,by rw[yo,zD]⟩
 |r+1,i,a,acc,u5,u11,u12,st,ha,hr,h0,h1,h=>by
  let⟨e,s1,v11,v12,e0,e1,o1,hs⟩:=zgK k hns (p1:=p1) (p2:=p2) (p3:=p3) (p4:=p4) (p6:=p6) (p8:=p8) (u11:=u11) (u12:=u12) (d:=d) (acc:=acc) h ha ∅ hW hW2;have hb:acc*W+e<W^(i+1):=by
   have:=BC (show acc<=W^i-1 by lia) (show 0<=W by lia);rw[Bw,BJ]at this;rw[Af];lia
  have hb0:0<=acc*W:=Bp h0 ∅;let⟨acc',s2,w5,w11,w12,f0,f1,o2,hf⟩:=zd3 k hns (p1:=p1) (p2:=p2) (p3:=p3) (p4:=p4) (p6:=p6) (p8:=p8) (d:=d) hW hW2 r (i+1) (a+1) (acc*W+e) (AA (.int a)) v11 v12 s1 ∅ ∅ ∅ hb (o1.drw h);refine⟨acc',s2,w5,w11,w12,f0,by rw[show i+(r+1)=i+1+r by lia];exact f1,o1.trans o2,?_⟩;rw[yo,zt (ρ1:=[AA (.loc n),p1,p2,p3,p4,AA (.int a),p6,AA (.int d),p8,AA (.int W),AA (.int acc),u11,u12]) rfl,hs];exact hf
def zfA(k:Nat){n:Nat}{ns:List Int}(hns:ns.length<=1000){w z:Nat}{kd m:Int}{u5 u6 u7 u8 u9 u10 u11 u12:Option PV}{st:SO}(h:Drw ns n st)(hk:kd=8 \/ kd=9)(hw:4<=w)(hw2:w<=16)(hz:1<=z)(hz2:z<=4)(hm:m=2^(w*z)):
  ∃x st',0<=x/\x<m/\Onl ns n st st'/\exs (yc T (k+3)) [AA (.loc n),AA (.int w),AA (.int z),AA (.int kd),AA (.int m),u5,u6,u7,u8,u9,u10,u11,u12] st yH=.rt (.int x) st':=by
 have hwz2:w*z<=64:=BO hw2 hz2;have hm1:0<m:=hm ▸ zeF _;have hm2:m<=18446744073709551616:=by
  have h64:(2:Nat)^(w*z)<=2^64:=Am ∅ hwz2;rw[hm,<-pw];lia
 let⟨d,s1,d1,d2,o1,e1⟩:=zf2 k hns (m:=m) ∅ ∅ h;have hW4:(4:Int)<=2^w:=by
  have h:(2:Nat)^2<=2^w:=Am ∅ ∅;have h2:=pw w;lia
 have hWl:(2:Int)^w<18446744073709551616:=by
  have h:(2:Nat)^w<=2^16:=Am ∅ hw2;have h2:=pw w;lia
 have r1:ybU (.int (w:Int))=AA (yo w 0 1):=zbs w ∅;have r2:ybU (.int (z:Int))=AA (yo z 0 1):=zbs z ∅;have k1:¬kd<6:=by lia
 have k2:(kd==6)=false:=by simp;lia
 have k3:(kd==7)=false:=by simp;lia
 have k4:¬9<kd:=by lia
 let⟨u,hd,_⟩:=dbl (call:=yc T (k+3)) (i:=9) (j:=5) ∅ w 0 [AA (.loc n),AA (.int w),AA (.int z),AA (.int kd),AA (.int m),u5,AA (.tup [.int 0,.int 1,.int (m-1),.int (m/2),.int (m/2-1),.int (m-2)]),AA (.int d),u8,AA (.int 1),u10,u11,u12] 1 s1 rfl;erw[As,Au,CU]at hd;let⟨acc',s2,w5,w11,w12,f0,f1,o2,hf⟩:=zd3 k hns (p1:=AA (.int w)) (p2:=AA (.int z)) (p3:=AA (.int kd)) (p4:=AA (.int m)) (p6:=AA (.tup [.int 0,.int 1,.int (m-1),.int (m/2),.int (m/2-1),.int (m-2)])) (p8:=u8) (d:=d) (W:=2^w) hW4 hWl z 0 0 0 u u11 u12 s1 ∅ ∅ ∅ (by simp) (o1.drw h);rw[Br,<-FF,<-hm]at f1;refine⟨acc',s2,f0,f1,o1.trans o2,?_⟩
 have hR:yH=.cons (.asg (.n 6) (.tup (.cons (.cst (.int 0)) (.cons (.cst (.int 1)) (.cons (.bin .sub (.var 4) (.cst (.int 1))) (.cons (.bin .fdiv (.var 4) (.cst (.int 2))) (.cons (.bin .sub (.bin .fdiv (.var 4) (.cst (.int 2))) (.cst (.int 1))) (.cons (.bin .sub (.var 4) (.cst (.int 2))) .nil)))))))) (match yH with
  |.cons _ (.cons a (.cons b (.cons c (.cons d (.cons e (.cons f (.cons g (.cons h (.cons (.for t i _) r)))))))))=>.cons a (.cons b (.cons c (.cons d (.cons e (.cons f (.cons g (.cons h (.cons (.for t i ybF) r))))))))
  |_=>.nil):=rfl
 rw[hR];simp! [yH,yO,r1,r2,k1,k2,k3,k4,decide_false,e1,hd,hf]
theorem worth(k:Nat){n:Nat}{ns:List Int}(hns:ns.length<=1000)(w z:Nat)(hw:4<=w)(hw2:w<=16)(hz:1<=z)(hz2:z<=4){st:SO}(h:Drw ns n st):
  ∃x st',0<=x/\x<2^(w*z)/\Onl ns n st st'/\yc T (k+4) yfd [.loc n,.int w,.int z] st=.ok (.int x) st':=by
 let⟨kd,s1,d1,d2,o1,e1⟩:=zf2 k hns (m:=12) ∅ ∅ h;have h1:=o1.drw h;have hwz2:w*z<=64:=BO hw2 hz2;have hwz:4<=w*z:=BO hw hz;have hm:(16:Int)<=2^(w*z):=by
  have h:(2:Nat)^4<=2^(w*z):=Am ∅ hwz;have h2:=pw (w*z);lia
 have hm2:(2:Int)^(w*z)<=18446744073709551616:=by
  have h:(2:Nat)^(w*z)<=2^64:=Am ∅ hwz2;have h2:=pw (w*z);lia
 have hwa:(w:Int).natAbs<18446744073709551616:=by lia
 have hwm:(w:Int)*(z:Int)=((w*z:Nat):Int):=by simp
 have r1:ybU (.int ((w*z:Nat):Int))=AA (yo (w*z) 0 1):=zbs _ ∅;let⟨u,hd,_⟩:=dbl (call:=yc T (k+3)) (i:=4) (j:=5) ∅ (w*z) 0 [AA (.loc n),AA (.int w),AA (.int z),AA (.int kd),AA (.int 1),AD,AD,AD,AD,AD,AD,AD,AD] 1 s1 rfl;erw[As,Au,CU]at hd;have key:∃x st',0<=x/\x<2^(w*z)/\Onl ns n s1 st'/\exs (yc T (k+3)) [AA (.loc n),AA (.int w),AA (.int z),AA (.int kd),AA (.int (2^(w*z))),u,AD,AD,AD,AD,AD,AD,AD] s1 yH=.rt (.int x) st':=by
  rcases (by lia:kd<6 \/ (kd=6 \/ kd=7) \/ (kd=8 \/ kd=9) \/ 9<kd)with q|q|q|q
  .let⟨x,a,b,e⟩:=zg3 (c:=yc T (k+3)) (n:=n) (w:=w) (z:=z) (st:=s1) (u5:=u) (u6:=AD) (u7:=AD) (u8:=AD) (u9:=AD) (u10:=AD) (u11:=AD) (u12:=AD) d1 q hm;exact⟨x,s1,a,b,h1.refl,e⟩
  .exact zgX k hns h1 q ∅ ∅ ∅ ∅ (by rw[hwm,CV])
  .exact zfA k hns h1 q hw hw2 hz hz2 rfl
  .exact zh9 k hns h1 q hm hm2
 let⟨x,s2,a,b,o2,e2⟩:=key;refine⟨x,s2,a,b,o1.trans o2,?_⟩;have hT:T yfd=AA ⟨3,13,AC,yO.body⟩:=rfl;have hb:yO.body=.cons (.asg (.n 3) (.call 110 (.cons (.var 0) (.cons (.cst (.int 12)) .nil)))) (.cons (.asg (.n 4) (.cst (.int 1))) (.cons (.for (.n 5) (.range1 (.bin .mul (.var 1) (.var 2))) (.cons (.asg (.n 4) (.bin .mul (.cst (.int 2)) (.var 4))) .nil)) yH)):=rfl;rw[yc,hT,hb];erw[AX,Bd,Br,Cg,if_true,Be,if_false,AL,Ai,C0,An,Aa,Av];rw[xs_cons,x_asg];erw[IC.ve18,IC.ve1,IC.ve2,evs,Ae,A5,bd_ok,fl_ok,e1,bT_n,nxO_some,th_nx,As,Au];rw[xs_cons,x_asg];erw[IC.ve1,bd_ok,fl_ok,bT_n,nxO_some,th_nx,As,Au];rw[xs_cons,x_for];erw[evi,IC.ve2,IC.ve3,Ae,A5,bd_ok,fl_ok,zaO hwa,hwm,r1,toL,toR_some,hd,th_nx,e2]
theorem cavR_some{j:Nat}{k:Nat->R PV}:yeY (AA j) k=k j:=rfl
local macro_rules | `(tactic| simp! [$xs,*])=>do
 let l<-("IC.xs_cons IC.xs_nil IC.x_asg IC.x_ite IC.x_ret IC.x_expr IC.x_for IC.x_six IC.evs IC.evi IC.ve1 IC.ve2 IC.ve3 IC.ve4 IC.ve5 IC.ve6 IC.ve7 IC.ve8 IC.ve9 IC.ve10 IC.ve11 IC.ve12 IC.ve13 IC.ve15 IC.ve16 IC.ve17 IC.ve18 IC.ve19 IC.ve20 IC.ve21 IC.ve24 IC.ve25 IC.ve44 WK.cavR_some IC.ve28 IC.v_comp List.getElem?_cons_zero List.getElem?_cons_succ WK.bd_ok WK.fl_ok WK.bd_exc WK.fl_exc WK.toR_some IC.toL WK.bT_n WK.nxO_some WK.th_nx WK.th_rt WK.th_exc List.set_cons_zero List.set_cons_succ WK.on_t WK.t_bl WK.ono IC.onBl cond_true cond_false List.length_cons List.length_nil Nat.zero_add Nat.reduceAdd Nat.reduceSub Nat.reduceLeDiff if_true IC.nL IC.nLs WK.noLocs_ints Bool.and_self Bool.not_true Bool.not_false List.map_cons List.map_nil List.replicate List.cons_append List.nil_append List.append_nil Option.bind_none Option.bind_some Option.join_some WK.b_add WK.b_sub WK.b_mul2 WK.b_div2 WK.c_lt WK.c_le WK.c_gt WK.c_ge WK.c_eq WK.c_ne IC.PV.tup IC.sizeMax".splitOn " ").toArray.mapM λs=>`(Lean.Parser.Tactic.simpLemma| $(Lean.mkIdent s.toName):term)
 `(tactic| simp only[$l,*,$xs,*])
def fB:Css:=match ybh.body with
 |.cons _ (.cons _ (.cons _ (.cons _ (.cons _ (.cons _ (.cons _ (.cons (.for _ _ b) _)))))))=>b
 |x=>x
theorem bt2(i j:Nat)(a b:PV)(ρ:IC.Env):yI (.t [i,j]) (.tp AC [a,b]) ρ=AA ((ρ.set i (AA a)).set j (AA b)):=rfl
def zkK{j:Nat}(hj:ycu ydM (AA (AA (.fnc j)))=AA j){w n w' n':Nat}(hw:4<=w)(hw2:w<=16)(hn:1<=n)(hn2:n<=4)(hw':4<=w')(hw2':w'<=16)(hn':1<=n')(hn2':n'<=4){x y x' y':Int}(x0':0<=x')(x1':x' < 2^(w' * n'))
  (c1:∀st,yc T 24 j [dP,.int w,.int n,.int x,.int y] st=.ok (yaE w n x y) st) (c2:∀st,yc T 24 j [dP,.int w',.int n',.int x',.int y'] st=.ok (yaE w' n' x' y') st) {p0 p1 q11:Option PV} (st:SO):
  ∃r11,exs (yc T 24) [p0,p1,AA (.int w),AA (.int n),AA (.int x),AA (.int y),AA (.int w'),AA (.int n'),AA (.tp AC [.int x',.int y']),AA (yaE w n x y),AA (.fnc j),q11] st fB=.nx [p0,p1,AA (.int w),AA (.int n),AA (.int x),AA (.int y),AA (.int w'),AA (.int n'),AA (.tp AC [.int x',.int y']),AA (yaE w n x y),AA (.fnc j),r11] st:=by
 have d2:yc T 24 yh2 _ st=_:=due 21 hw' hw2' hn' hn2' x0' x1' (y:=y') st;have c1:=c1 st;have c2:=c2 st;have t1:yc T 24 yh3 _ st=_:=told 21 hw2 hn2 x y st;have t2:yc T 24 yh3 _ st=_:=told 21 hw2' hn2' x' y' st;have i0:∀(st:SO) (a b:PV),idxV st (.tp AC [a,b]) (.int 0)=AA a:=λ_ _ _=>rfl;have i1:∀(st:SO) (a b:PV),idxV st (.tp AC [a,b]) (.int 1)=AA b:=λ_ _ _=>rfl;refine⟨AA (yaE w' n' x' y'),?_⟩;unfold dP at c1 c2;generalize yaE w n x y=D1,yaE w' n' x' y'=D2 at *;simp! [fB,ybh,hj,c1,t1,i0,i1,c2,d2,t2]
def zgS(l:List Int):nLs [PV.scr (l.map .int)]=true:=by simp[nLs,nL,noLocs_ints]
def zj7(ns:List Int)(hns:ns.length<=63):yc T 25 yh4 [.scr (ns.map .int)] []=.ok (.bl AB) []:=by
 let⟨o,e1,ho⟩:=fresh 23 ns hns [];have h0:Drw ns 0 [o]:=⟨0,0,AC,by lia,by rw[ho];rfl⟩;have hl:ns.length<=1000:=by lia
 let⟨wi,zi,s1,a1,a2,a3,a4,o1,e2⟩:=sizes 20 hl (m:=4) ∅ ∅ h0;let⟨w,rfl⟩:=zcB (show 0<=wi by lia);let⟨n,rfl⟩:=zcB (show 0<=zi by lia);have h1:=o1.drw h0;have hw:4<=w:=by lia
 have hw2:w<=16:=by lia
 have hn:1<=n:=by lia
 have hn2:n<=4:=by lia
 let⟨x,s2,x0,x1,o2,e3⟩:=worth 20 hl w n hw hw2 hn hn2 h1;have h2:=o2.drw h1;let⟨y,s3,y0,y1,o3,e4⟩:=worth 20 hl w n hw hw2 hn hn2 h2;have h3:=o3.drw h2;let⟨wi,zi,s4,b1,b2,b3,b4,o4,e5⟩:=sizes 20 hl (m:=4) ∅ ∅ h3;let⟨w',rfl⟩:=zcB (show 0<=wi by lia);let⟨n',rfl⟩:=zcB (show 0<=zi by lia);have h4:=o4.drw h3;have hw':4<=w':=by lia
 have hw2':w'<=16:=by lia
 have hn':1<=n':=by lia
 have hn2':n'<=4:=by lia
 let⟨x',s5,x0',x1',o5,e6⟩:=worth 20 hl w' n' hw' hw2' hn' hn2' h4;have h5:=o5.drw h4;let⟨y',s6,y0',y1',o6,e7⟩:=worth 20 hl w' n' hw' hw2' hn' hn2' h5;have du:yc T 24 yh2 _ s6=_:=due 21 hw hw2 hn hn2 x0 x1 (y:=y) s6;let⟨u1,f1⟩:=zkK (j:=ye4) (by decide +kernel) hw hw2 hn hn2 hw' hw2' hn' hn2' x0' x1' (λst=>zpR 2 hw hw2 hn hn2 x0 x1 y0 y1 st) (λst=>zpR 2 hw' hw2' hn' hn2' x0' x1' y0' y1' st) (p0:=AA (.scr (ns.map .int))) (p1:=AA (.loc 0)) (q11:=AD) s6;let⟨u2,f2⟩:=zkK (j:=yd4) (by decide +kernel) hw hw2 hn hn2 hw' hw2' hn' hn2' x0' x1' (λst=>zpQ 2 hw hw2 hn hn2 x0 x1 y0 y1 st) (λst=>zpQ 2 hw' hw2' hn' hn2' x0' x1' y0' y1' st) (p0:=AA (.scr (ns.map .int))) (p1:=AA (.loc 0)) (q11:=u1) s6;have ag:∀(ρ:IC.Env) (s:SO) (k:IC.Env->SO->Fl),yat (.nx ρ s) k=k ρ s:=λ_ _ _=>rfl;have lp:yaY (yc T 24) (.n 10) fB [.fnc ye4,.fnc yd4] [AA (.scr (ns.map .int)),AA (.loc 0),AA (.int w),AA (.int n),AA (.int x),AA (.int y),AA (.int w'),AA (.int n'),AA (.tp AC [.int x',.int y']),AA (yaE w n x y),AD,AD] s6=.nx [AA (.scr (ns.map .int)),AA (.loc 0),AA (.int w),AA (.int n),AA (.int x),AA (.int y),AA (.int w'),AA (.int n'),AA (.tp AC [.int x',.int y']),AA (yaE w n x y),AA (.fnc yd4),u2] s6:=by
  rw[zt (ρ1:=[AA (.scr (ns.map .int)),AA (.loc 0),AA (.int w),AA (.int n),AA (.int x),AA (.int y),AA (.int w'),AA (.int n'),AA (.tp AC [.int x',.int y']),AA (yaE w n x y),AA (.fnc ye4),AD]) rfl,f1,ag,zt (ρ1:=[AA (.scr (ns.map .int)),AA (.loc 0),AA (.int w),AA (.int n),AA (.int x),AA (.int y),AA (.int w'),AA (.int n'),AA (.tp AC [.int x',.int y']),AA (yaE w n x y),AA (.fnc yd4),u1]) rfl,f2,ag,zD]
 have hT:T yh4=AA ⟨1,12,AB,ybh.body⟩:=rfl
 have hb:ybh.body=(match ybh.body with
  |.cons a (.cons b (.cons c (.cons d (.cons e (.cons f (.cons g (.cons (.for t i _) r)))))))=>.cons a (.cons b (.cons c (.cons d (.cons e (.cons f (.cons g (.cons (.for t i fB) r)))))))
  |x=>x):=rfl
 rw[zc hT rfl rfl (zgS ns)];dsimp only;rw[hb];have e1:yc T 24 yiG [.scr (ns.map .int)] []=.ok (.loc 0) [o]:=e1;have E2:yc T 24 yhZ [.loc 0,.int 4] [o]=.ok (.tp AC [.int w,.int n]) s1:=e2;have E3:yc T 24 yfd [.loc 0,.int w,.int n] s1=_:=e3;have E4:yc T 24 yfd [.loc 0,.int w,.int n] s2=_:=e4;have E5:yc T 24 yhZ [.loc 0,.int 4] s3=.ok (.tp AC [.int w',.int n']) s4:=e5;have E6:yc T 24 yfd [.loc 0,.int w',.int n'] s4=_:=e6;have E7:yc T 24 yfd [.loc 0,.int w',.int n'] s5=_:=e7
 clear hb
 generalize yaE w n x y=D,fB=F at *;simp! [ybh,e1,E2,E3,E4,bt2,E5,E6,E7,du,lp,zow]
end WK
namespace WK
open PySem L2 IC
theorem walk{l:E9}{q:A3}{loose:List AN}{XP:(AN->Option AG)->BB->Prop}{YP:Ag->BB->Prop}{d:DefRec}{K:Params->AF}(hn:l.most=AA 63)(hdf:d.params.defaults=[])
  (hY:∀(w:Ag) (h:BB),YP w h->(K w.params).In h)
  (F:∀(w:Ag) (mg:AN->Option AG) (fa:AI) (h:BB),(K w.params).In h->h.Ns mainGlobals mg->mg d.name=AA (.ref fa) ->
   ∃fd:Az,(∀(s:AJ) (u:AG),FI s fd ⟨[u],[]⟩ [("_law_script",u)])/\∀base:BB,(K w.params).In base->base.Ns mainGlobals mg->yaI l.prog w (K w.params) mg base (CX1 l.prog w) (2*25) fa fd ["_law_script"] (spX (K w.params) (yc T 25) yh4)):
  G1 q loose XP YP l.row.toRowW d [] (λf vs=>Ga f vs):=
 L2.walk_of (n:=63) (k:=2*25) (x:="_law_script") (CX:=λw=>CX1 l.prog w) (sp:=λw=>spX (K w.params) (yc T 25) yh4) hn ⋯ hdf ⟨rfl,by decide,by decide⟩ hY F (λw H a ns hl _ hS=>ziV zj7 hl hS) λ_ _ _ _ _ z=>znA z
end WK
end
open PySem PySem.W PyProof.Rows
theorem PySem.Challenge.cw_widewords_k37_signed_products_reckoned_holds : PySem.Challenge.rw_widewords_k37_signed_products_reckoned.Holds := by
 refine hh.hd (by rfl) (by rfl) (by rfl) ?_
 k_fill
 refine WK.walk (l:=PySem.Challenge.rw_widewords_k37_signed_products_reckoned) rfl rfl (λw h Y=>Y) ?F
 case F =>
  intro w mg fa h KX G hmg
  refine' L2.all_mk2 (t:=WK.tbQ) KX G hmg ?R ?B ?D WK.kb_all ?Ml WK.ok_all WK.T_ok (L:=123) rfl 25
  case R =>
   repeat' (first|exact trivial|apply And.intro|(refine' L2.rowFn ?a9 ?l9 ?c9 ?p9 ?b9;(case a9|l9|c9|p9=>k_is);(case b9=>((repeat intro _);first|rfl|kernel_rfl)))|(refine' L2.rowMe ?z9 ?a9 ?i9 ?l9 ?c9 ?p9 ?b9;(case z9=>((first|rw[WK.cn_20]|rw[WK.cn_21]);k_is));(case a9|i9|l9|c9|p9=>k_is);(case b9=>((repeat intro _);first|rfl|kernel_rfl)))|(refine' L2.rowIni ?z9 ?a9 ?i9 ?l9 ?c9 ?p9 ?b9 ?m9 ?k9;(case z9=>((first|rw[WK.cn_20]|rw[WK.cn_21]);k_is));(case a9|i9|l9|c9|p9=>k_is);(case b9=>((repeat intro _);first|rfl|kernel_rfl));(case m9|k9=>k_is))|(refine' L2.rowFd ?a9 ?l9 ?c9 ?p9 ?d9 ?e9 ?v9;(case a9|l9|c9|p9|d9=>k_is);(case e9=>rfl);(case v9=>(repeat first|exact .nil|refine .cons ⟨_,rfl⟩ ?_))))
  case B=>kernel_rfl
  case D =>
   repeat' (first|exact trivial|apply And.intro|intro _|(refine' L2.gd_mk KX G ?a9 ?l9 ?s9 ?r9 ?n9;(case a9|l9=>k_is);(case s9=>rfl);(case r9=>(repeat first|exact .nil|refine L2.con_row (by kernel_rfl) ?_));(case n9=>decide +kernel)))
  case Ml =>
   repeat' (first|exact trivial|apply And.intro|(refine' L2.gdf_mk KX G ?a9 ?l9 ?r9 ?n9;(case a9|l9=>k_is);(case r9=>(repeat first|exact .nil|refine L2.frow_cons (by kernel_rfl) ?_));(case n9=>decide +kernel)))
