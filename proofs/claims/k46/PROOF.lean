import PyProof.Rows.All
import OpenK.KLine
import Open.Tops
import Wide.FinOn
import KE.KRevSl
import KE.KItem
import KE.KxWritten
import KE.KFromBytes
import KE.LcSums
import KE.KBits
import KE.KTryMore
import PySem.Challenge.RW_widewords_k46_whole_signed_quotients
set_option Elab.async false
set_option linter.all false
set_option maxRecDepth 100000
set_option maxHeartbeats 0
local macro_rules
 | `(#print $s:str)=>do
  let n:=fun (x:Lean.Name)=>Lean.mkIdent (`PySem.W.Fast++.mkSimple s!"tw{x.hash}")
  let mut a:=#[n `PySem.Challenge.pw_widewords_k46_whole_signed_quotients]
  for e in s.getString.splitOn "|" do
   let f:=e.splitOn " "
   let mut p:=0
   for r in f.tail! do
    let g:=(r.splitOn ".").map String.toNat!
    p:=p+g[0]!
    for j in [0:g.getD 1 0+1] do a:=a.push (n (.mkStr2 "sh" (f[0]!++toString (p+j))))
    p:=p+g.getD 1 0
  return Lean.mkNullNode (←a.mapM λx=>return (←`(command|noncomputable def $x:ident:=Nat)).raw)
#print "o_ 3 2 4 3.1 2.2 4 2 3 3.1 2.1 4 2 3 3.1 2.1 4 2 3 3.1 2.1 4 2 3 3.1 2.1 4 2 3 3.1 2.1 4 2 3 3.1 2.1 4 2 3 3.1 2.1 22 2.2 5.2 2 4.2 3 2.2 4 2.2 4 2.2 4 2.2 3 2.2 5.2 5.2 5.2 3 2.2 3 2.2 2 4 2.2 9 2.2 3 2.2 5.2 5.2 11.2 3 2.2 3 2.2 3 8.2 5.2 3 2.2 5.2 3 2.2 3 2.2 5.2 3 2.2 5.2 3.2 5.2 2 6.2 5.2 5.2 3 2.2 5.2 5.2 5.2 17.2 3 2.2 2 6.2 5.2 5.2 5.2 5.2 3 2.2 3 2.2 5.2 3 2.2 5.2 3 2.2 3 2.2 3 2.2 2 6.2 3 2.2 3 2.2 3 2.2 3 2.2 2 2.1 17.2 5.2 3 2.2 5.2 3 2.2 4 6.2 5.2 5.2 3.2 3 2.2 3 2.2 3.2 5.2 2 4 3.1 3 2.2 3 2.2 3 2.2 3 2.2 3.2 5.2 3 2.6 5 6.2 3.2 3 2.2 3.2 3 2.2 5.2 3 2.9 5.2 3 2.2 5.2 2 6.2 5.2 5.2 5.2 5.2 3 2.2 5.2 3 2.2 3 2.2 3 2.2 3 2.2 3 2.2 2 4 2.2 3 2.2 3 2.2 3 2.3 4 4 3.1 5.2 3 2.2 3 2.2 5.2 5.2 3 2.2 5.2 5.2 3 2.2 3 2.5 6 6.2 5.2 3 2.2 3.2 5.2 3.2 3 2.2 3 2.2 3 2.2 3.2 5.2 2 4 2.2 3 2.2 3 2.2 3 2.2 3 2.2 3 2.2 5.2 3.2 3.2 3 2.2 3 2.2 3 2.2 2 4 2.2|sts_ 4 17 16 16 16 16 16 16 47 81 72 80 78 94 38 54 55 64 76 87 34 87 74 83|tree_ 19 16 16 16 16 16 16 47 81 72 80 78 94 38 52 57 64 76 87 32 89 74 83 10"
open_shared sh for PySem.Challenge.pw_widewords_k46_whole_signed_quotients leaving 0
namespace hh
open PySem PySem.W PySem.Calls PyProof.Rows
noncomputable abbrev p:=PySem.Challenge.pw_widewords_k46_whole_signed_quotients
abbrev z:Pos:=⟨0,0,0,0⟩
abbrev an:Option Value:=some (.ref 6)
noncomputable abbrev bE:=behindTheImports p
noncomputable abbrev cE:Code:=.body bE sh.env_1
noncomputable abbrev H1(P:Params):Heap:=absHeap (sh.tree_1229 P) 1158 {}
noncomputable abbrev S0(w:World)(os:OsState):Shared:=⟨boot_heap w.params,⟨[]⟩,boot_drawn,boot_toks,os⟩
noncomputable abbrev Sb(w:World)(os:OsState):Shared:=SharedT.abs ⟨sh.tree_4 w.params,15,{},⟨[]⟩,{},187,os⟩
noncomputable abbrev Sk(w:World)(os:OsState):Shared:=SharedT.abs ⟨sh.tree_1229 w.params,1158,{},⟨[]⟩,{},1876,os⟩
theorem pre(w os):topGo treeTable p w 11 an 12 (S0 w os) (topStub p)=some (Sb w os,⟨denote treeTable cE,cE,z,[topFrame z]⟩):=by kernel_rfl
theorem blk(w os):segRun treeTable p w 11 an 1 1 (Sb w os) (blockOf bE sh.env_1 cE z [topFrame z])=some (.next,Sb w os,cE,z):=by kernel_rfl
theorem fin(w os):topRun treeTable p w 11 an 2 (Sk w os) (restOf [] sh.env_1 cE ⟨645,0,670,109⟩ [topFrame z])=some (Sk w os):=by kernel_rfl
theorem bod:bE=sh.sts_4++(sh.sts_21++(sh.sts_37++(sh.sts_53++(sh.sts_69++(sh.sts_85++(sh.sts_101++(sh.sts_117++(sh.sts_164++(sh.sts_245++(sh.sts_317++(sh.sts_397++(sh.sts_475++(sh.sts_569++(sh.sts_607++(sh.sts_661++(sh.sts_716++(sh.sts_780++(sh.sts_856++(sh.sts_943++(sh.sts_977++(sh.sts_1064++(sh.sts_1138++(sh.sts_1221++[]))))))))))))))))))))))):=by kernel_rfl
theorem run(w os):topRun treeTable p w 11 an (12+(1+(196+(214+(214+(214+(214+(214+(214+(400+(371+(387+(373+(385+(398+(160+(400+(311+(426+(398+(393+(312+(522+(378+(392+(39+2)))))))))))))))))))))))))) (S0 w os) (topStub p)=some (Sk w os):=by
 refine go_top (pre w os) (piece_block (blk w os) ?_)
 have h:=sh.chain p bE w os [] 2 (Sk w os) (fin w os)
 rw[<-bod] at h
 exact h
noncomputable def q:Program:=view p [192]
noncomputable abbrev lo:List Str:=p.boundNames
theorem look(w:World):(fun os=>((staticsOk (importedModules p.main.body) (boot_heap w.params) (H1 w.params) && namesBound p (H1 w.params) && gensDone (Sk w os) && laidKept (boot_heap w.params) (H1 w.params)),openSeen q lo (importedModules p.main.body) (fun _=>true) true (Sk w os),(Sk w os).heap))=fun _=>(true,openGood q lo,H1 w.params):=by kernel_rfl
theorem left:LeftO p q lo (fun _=>true) Shared.heap (fun w=>H1 w.params) 15128:=.of_pieces (boot_open (by kernel_rfl) (by kernel_rfl) fun s=>by kernel_rfl) (fun w=>by kernel_rfl) run (by kernel_rfl) look
theorem inA{t:BT}{n:Nat}{f:Life}{K:Frag}(h1:K.all (fun x=>Nat.blt x.1 n)=true)(h2:K.map (fun x=>t.get x.1)=K.map fun x=>some x.2)(h3:K.map (fun x=>alive x.2)=K.map fun x=>some x.2):K.In (absHeap t n f):=by
 intro a o e
 induction K with
 | nil=>cases e
 | cons x r ih=>
  obtain ⟨b,y⟩:=x
  simp only[List.map_cons,List.cons.injEq,List.all_cons,Bool.and_eq_true] at h1 h2 h3
  by_cases hb:(a==b)=true
  · rw[List.lookup_cons,hb] at e
    cases e
    have:=beq_iff_eq.mp hb
    subst this
    rw[abs_get (Nat.le_of_ble_eq_true h1.1) h2.1]
    exact h3.1
  · rw[List.lookup_cons,eq_false_of_ne_true hb] at e
    exact ih h1.2 h2.2 h3.2 e
local macro_rules
 | `(panic! $s:str)=>do
  let mut v:=#[]
  let mut p:=0
  let mut q:=0
  for r in s.getString.splitOn " " do
   if let g::l::m:=(r.splitOn ",").map String.toNat! then
    let i:=m.headD (q+g)
    p:=p+g
    for j in [0:l] do v:=v.push (p+j,if i==0 then .str `PySem.W s!"boot_o_{p+j}" else .str `sh s!"o_{i+j}")
    p:=p+l
    q:=i+l
  let mut a ← `(List.nil)
  for (x,o) in v.reverse do a ← `(List.cons (nat_lit $(Lean.Syntax.mkNumLit (toString x)),$(Lean.mkIdent o) P) $a)
  `(fun P=>$a)
noncomputable def KK:Params->Frag:=panic! "2,1,0 0,1,1221 11,1,7 6,2 0,1,119 0,1,17 2,1,24 6,3 2,1,40 6,3 2,1,56 6,3 2,1,72 6,3 2,1,88 6,3 2,1,104 6,3 2,1,120 6,3 2,18 1,2 1,3 1,2 1,2 0,1,166 2,3 1,2 1,4 1,2 1,4 1,2 1,4 1,2 1,3 1,2 1,3 1,2 1,3 1,2 1,3 1,2 1,3 1,2 1,3 1,2 1,2 0,1,247 1,2 1,9 1,2 1,3 1,2 1,3 1,2 1,3 1,2 1,9 1,2 1,3 1,2 1,3 1,2 1,3 0,3,319 1,2 1,3 1,2 1,3 1,2 1,3 1,2 1,3 1,2 1,3 1,2 1,3 1,2 1,3 1,2 1,3 1,2 1,3 2,3 1,2 1,2 0,1,399 1,2 1,3 1,2 1,3 1,2 1,3 1,2 1,3 1,2 1,3 1,2 1,3 1,2 1,15 1,2 1,3 1,2 1,2 0,1,477 1,2 1,3 1,2 1,3 1,2 1,3 1,2 1,3 1,2 1,3 1,2 1,3 1,2 1,3 1,2 1,3 1,2 1,3 1,2 1,3 1,2 1,3 1,2 1,3 1,2 1,2 0,1,571 1,2 1,3 1,2 1,3 1,2 1,3 1,2 1,3 1,2 1,2 0,15,609 1,2 1,3 1,2 1,3 1,2 1,3 1,2 1,3 1,2 1,2 0,1,663 1,2 1,3 1,2 1,3 1,2 1,3 2,3 1,2 1,3 1,2 1,3 2,3 1,2 1,2 7,1,725 1,2 1,3 1,2 1,3 1,2 1,3 1,2 1,3 2,3 1,2 1,3 1,2 1,7 2,1,782 1,2 1,3 2,3 1,2 1,3 2,3 1,2 1,3 1,2 1,3 1,2 1,10 1,2 1,3 1,2 1,3 1,2 1,2 0,1,858 1,2 1,3 1,2 1,3 1,2 1,3 1,2 1,3 1,2 1,3 1,2 1,3 1,2 1,3 1,2 1,3 1,2 1,3 1,2 1,3 1,2 1,3 1,2 1,2 0,1,945 1,2 1,3 1,2 1,3 1,2 1,3 1,2 1,3 7,1,986 1,2 1,3 1,2 1,3 1,2 1,3 1,2 1,3 1,2 1,3 1,2 1,3 1,2 1,3 1,2 1,3 1,2 1,3 1,2 1,7 2,1,1066 1,2 1,3 1,2 1,3 1,2 1,3 2,3 1,2 1,3 2,3 1,2 1,3 1,2 1,3 1,2 1,3 2,3 1,2 1,2 0,1,1140 1,2 1,3 1,2 1,3 1,2 1,3 1,2 1,3 1,2 1,3 1,2 1,3 1,2 1,3 2,3 2,3 1,2 1,3 1,2 1,3 1,2 1,2 0,1,1223 1,2 1,2"
theorem inK(w:World):InK KK w (H1 w.params):=inA (K:=KK w.params) (by kernel_rfl) (by kernel_rfl) (by kernel_rfl)
theorem hd{d:DefRec}{k:List (Str×Expr)}(a:defOf q "law"=some (d,k))(b:p.theDef "law"=some (d.params,d.body,d.scope))(c:kwWritten? d.params.kwonlyargs d.params.kw_defaults=some k)(h:WalkO q lo (fun _ _=>True) (InK KK) PySem.Challenge.rw_widewords_k46_whole_signed_quotients.row.toRowW d k fun f vs=>PySem.call f vs):PySem.Challenge.rw_widewords_k46_whole_signed_quotients.Holds:=by
 w_on;o_law
 refine holds_open left (YP:=InK KK) (XP:=fun _ _=>True) (fun w s e=>e ▸ inK w) InK.keeps (fun _ _=>trivial) (fun _ _ _ _ _=>trivial) a b c (fun s _=>recFacts_nil rfl) (by rfl) (by assumption) (by decide +kernel) ⟨rfl,rfl,rfl,rfl,rfl,by decide +kernel⟩ ?hw h
 w_witness2
end hh
local macro_rules|`(⋯)=>`((by decide))
local macro_rules|`(∅)=>`((by lia))
set_option compiler.extract_closed false
set_option bootstrap.genMatcherCode false
set_option genSizeOf false
local macro_rules | `(tactic| ac_rfl)=>`(tactic| with_unfolding_all rfl)
open Option renaming some->AA,none->AD,isSome_iff_exists->BM,bind_some->Bb,getD_some->CW,any_eq_true_iff_get->Cu,map_some->DI,get_some->FI,getD_none->G1,join_some->G5
open Bool renaming false->AB,true->AC,and_eq_true->AK,false_ne_true->Aa,false_eq_true->B8,and_eq_true_iff->CF,and_true->Cn,not_eq_true'->Cp,or_eq_true->DG,eq_iff_iff->DH,true_and->Di,and_self->Dl,and_false->EX,false_or->Fd,true_or->GN,or_false->HK,not_true->HP
open PySem.W renaming Frag->AE,keepIn->BH,findIn->BP,nsIn->B1,kitOne->Bg,fnOf->Bi,emptyDict->Bk,instObj->CM,codeIn->C0,kia_one->Ck,plainGet->Cw,isFn->Cy,hideAll->DF,callWith_K->DJ,hasDictIn->DP,makesIn->Dt,plainGet_of->Dz,lookIn->EM,methodObj->E5,plainOver->E6,mg_of->Eg,OpenLaw->Ep,cellsFrom_some->Ew,takerIn->FE,methodCall_KW->FL,hideAll_get->F2,callWith_K0->F8,excIn->Fe,of_hideAll->Fj,handedIn->GX,WalkO->Gr,Rel2->HZ
open PySem.Str renaming ofString->AF,empty->GY
open PySem renaming Value->AG,wpAny_bind->AH,Addr->AI,Shared->AJ,Str->AQ,Expr->AV,wpAny_pure->AW,wpAny->A8,Program->Af,World->Au,Around->BK,FuncData->BQ,Heap->BR,wpAny_field->Bc,Env->Be,wpAny_Call_Name_kw->Bf,wpAny_truthy_bool->Bj,wpAny_callSpecial?_slot->Bn,Scope->Bq,wpAny_newObj_type->Bs,Stmt->CH,Obj->CP,DictEntry->CV,wpAny_pyIter_tuple->C2,wpAny_passesOwn->C5,Pos->C6,wpAny_mono->C7,IsPair->C9,Keyword->Cc,mem_of_lookup->Cd,wpAny_call_entry->Cf,wpAny_seqItems->Cg,wpAny_setField_rec->Cj,NameKind->DQ,strKind_is->Dd,wpAny_holding->Dh,Operator->Dp,sizeLine_eq->Dq,wpAny_execs_nil->Ds,codeAny_mono->EB,IsZip->E8,wpAny_standAt->Ee,PassesOwn->Ei,noFill_tuple_add->Em,wpAny_rule->Et,IsPart->Ex,wpAny_loadName_local->FO,wpAny_setField->FQ,wpAny_updateSeq_pair->FR,BindsTo->F0,wpAny_loadName_cell->F3,CmpOp->Fa,seq_tuple_add->Fb,wpAny_onRaise->Ff,tupleKind_room_in1->Fp,Within->Fw,concat_meets->GB,wpAny_sequenceKey->GF,wpAny_typeOf->GG,slot_list_getitem->GH,wpAny_pyIter_enum->GL,wpAny_pyIter_list->GM,ZipApart->GP,wpAny_execs_cons->GV,wpAny_pyIter_zip->G8,wpAny_getItem_of->G9,seqIndex_of->Ge,Paired->Gu,wpAny_Name->Gw,Result->Gx,wpAny_call->Gy,typeIs_str->HA,call->HB,Sem->HQ,Builtin->HX,BoolOp->Hb,Tok->Hv
open List renaming map_cons->AL,mem_cons->AN,getElem?_set_ne->AO,mem_cons_of_mem->AS,not_mem_nil->AU,length_cons->A4,mem_of_getElem?->A6,size_toArray->A7,getElem?_set_self->Ag,map_nil->Ah,getElem?_cons_succ->Ai,append_nil->Aj,cons_append->Ak,length_append->Al,getElem?_append_left->An,getElem?_cons_zero->Ao,flatMap_cons->Ap,mem_cons_self->Aw,length_map->Ax,getElem?_append_right->BD,mem_append->BE,nil_append->BF,replicate->BI,append_assoc->BJ,flatMap_nil->BL,set_cons_zero->BS,set_cons_succ->BU,mem_append_right->BV,getElem?_eq_some_iff->BY,map_append->Ba,getElem?_eq_none->Bd,all_cons->Bl,lookup_cons->Bo,all_eq_true->Bp,any_cons->Br,length_nil->Bw,lookup->CC,getElem?_map->CK,length_set->CN,find?_cons->CO,filterMap_cons->Cb,length->Ch,filterMap->DU,take_of_length_le->DV,mem_map->DY,set_set->DZ,length_singleton->D6,mem_iff_getElem?->D9,mem_append_left->Do,nodup_cons->Du,foldl_cons->Dx,range->EG,mem_filterMap->EK,zip_cons_cons->ET,drop_eq_getElem_cons->EY,ext_getElem?->E9,getElem?_set->Ea,getElem?_eq_getElem->Ef,length_take->Ek,getElem?_replicate->El,any_eq_true->Eo,of_mem_zip->FF,forIn_cons->FG,set_getElem_self->FN,length_pos_iff->F9,isEmpty_cons->GO,length_drop->G0,isEmpty_nil->G2,take_length->G3,drop_length->G4,zipIdx_cons->G6,mem_filter->Gj,zipIdx_nil->Go,mem_range->Gv,drop_zero->HD,forIn_nil->HE,map->HG,set_comm->HJ,sum_cons->HM
open Int renaming emod_eq_of_lt->AM,emod_lt_of_pos->AX,pow_pos->AY,mul_comm->A3,pow_succ->A5,emod_nonneg->Ab,mul_assoc->Ae,mul_le_mul_of_nonneg_right->Am,mul_le_mul_of_nonneg_left->Aq,emod_add_mul_ediv->As,zero_mul->Av,add_mul->Ay,one_mul->Az,sub_mul->BA,ediv_eq_zero_of_lt->BN,ediv_lt_of_lt_mul->BX,add_zero->B2,add_mul_emod_self_right->B3,ediv_nonneg->B4,add_mul_emod_self_left->B5,ediv_ediv_of_nonneg->B6,add_emod_right->B9,mul_nonneg->Bu,le_of_lt->Bv,mul_add->By,mul_sub->CG,toNat_natCast->CL,mul_one->CT,pow_mul->CU,reduceBEq->Ca,add_comm->Cz,pow_zero->DA,lt_of_lt_of_le->DL,lt_of_le_of_lt->DM,natAbs_mul->D1,zero_add->D3,mul_left_comm->D4,add_mul_ediv_right->D5,toNat_of_nonneg->EA,fdiv_eq_ediv_of_nonneg->EL,mul_le_mul->EW,le_refl->Eb,mul_zero->FD,le_ediv_of_mul_le->FM,neg_mul->FV,pow_add->FW,emod_emod_of_dvd->FX,mul_right_comm->Fv,ediv_one->GE,natAbs_add_le->GS,zero_sub->GT,natCast_emod->Ga,ediv_le_self->Gd,mul_neg->Gh,mul_pos->Gi,mul_eq_zero->Gp,add_assoc->HN
open PySem.Heap renaming get?_push_of_some->AR,lt_size->A2,get?_push_size->Ac,size_push->CD,SameBut->Cv,get?_update_other->DS,get?_update_self->FJ,IsTuple->GI,MadeExcOf->HC,FlyingW->HY
open Nat renaming le_refl->AT,pow_le_pow_right->AZ,lt_of_lt_of_le->A9,mul_le_mul->Ad,ne_of_lt->BG,le_trans->BZ,and_two_pow_sub_one_eq_mod->Bz,lt_or_ge->CA,zero_add->CB,reduceEqDiff->CY,reduceSub->Co,le_succ->Cq,lt_irrefl->DD,zero_le->DN,lt_succ_self->Da,le_add_right->Db,add_assoc->Dj,reduceAdd->Dn,lt_of_le_of_lt->ER,mod_two_eq_zero_or_one->EV,mul_add->Ec,le_of_lt->Es,ne_of_gt->Eu,mul_le_mul_right->FU,and_lt_two_pow->Ft,xor_lt_two_pow->Fu,succ_mul->GR,mod_eq_of_lt->Gb,reduceLeDiff->Gc,pow_pos->Gg,add_le_add->HF,le_of_eq->HW,pow_succ->Hc,xor_self->Hd,mul_one->Hm
open Option.some renaming inj->A1
open PySem.Value renaming ref->Ar,none->CZ,bool->EF,int->Eh,type->Fi,str->GU,isStrOf->HI,isInt->He,bytes->Hf,float->Hg
open PySem.Builtin renaming bitOr->BB,bitAnd->BC,bitXor->BO,bitNot->FT
open PyProof.Rows renaming slot_tuple_getitem->BW,callWith_type1->CS,AllBare->De,assignInOrder_cons->EJ,IntsAre->Ey,subscriptTail_builtinR->Ez,tupleItemsOf_->F1,entry_tuple_getitem->F4,args_tuple_getitem->Fk,assignInOrder_nil->Fx,callWith_builtin1->GZ,boot_isinstance->Gn,iadd_int->Gq,Subscript_->Gz,IsTup->Hh
open Ne renaming symm->B0
open PySem.Builtin.SmallTypes renaming nextOf->B7,ownedTupleIsFree->Bm,ownedTupleHandOut->DC
open False renaming elim->Bt
open PySem.Challenge renaming rw_widewords_k46_whole_signed_quotients->CJ,pw_widewords_k46_whole_signed_quotients->Dr
open Array renaming length_toList->CQ,append_assoc->EH,getElem?_eq_some_iff->ES,toList->HV
open PySem.F renaming slot_tuple_iterator_next->C1,args_tuple_add_2->DE,entry_tuple_add->DO,slot_tuple_add->DR,slot_dict_get->D8,args_tuple_iterator_next_1->Dw,slot_zip_next->Dy,entry_tuple_iterator_next->EC,slot_dict_getitem->EZ,args_dict_get_3->En,entry_dict_get->FC,slot_list_append->FK,args_zip_next_1->GQ,entry_zip_next->G7
open PySem.Heap.FunFrames renaming mem->C3
open PySem.Builtin.Slice renaming slicePlaces->C4,sliceAdjust->DB,sliceApplied->EO,slicePartIndex->Gk,sliceFields->HH
open PySem.Builtin.Tuple renaming tupleExact->C8,tupleItemsOf->EQ
open True renaming intro->Ci
open PySem.NameKind renaming free->Cm,cell->Fc
open PySem.Value.type renaming inj->Cr
open PySem.PyData renaming canLay0->Ct,depth->DX,keyHash->EU,canLayAll0->E7,depthAll->FH,eqvAll->HL,eqv->Hs
open Eq renaming refl->DW
open Prod.mk renaming injEq->Dm,inj->Hl
open PySem.Builtin.Str renaming strSliceIndices->ED,occurrences->Ej
open PySem.Calls renaming Name_function_global->EI,spliced_cons->EN,callWith_builtin->FB,evalArgs_plain->FP,spliced_nil->GA
open PySem.Paired renaming length->Ed,snoc->Hk
open PySem.Obj renaming mapSeq->FA,data_mapFields->Fm
open Sum renaming inl->FY,inr->FZ
open PySem.Heap.SameBut renaming update->F7
open PySem.SeqAt.EqAt renaming int_str->Fg,str_int->Fh
open PySem.ScopeKind renaming function->Fq
open PySem.Around renaming under->Fy
open PySem.Code renaming isFrame->Fz,frames->Hi
open PySem.WalksT renaming enumerateD->GJ
open PyProof.Rows.IsTup renaming new->GW
open PySem.Shared renaming heap->Gf
open ForInStep renaming yield->Gm
open PySem.Builtin.Range renaming rangeSize->HR
open PySem.Heap.UpToSlots renaming of_keeps->HS
open And renaming intro->HU
open PySem.SeqAt renaming shaped->Ha,EqAt->Hq
open Prod renaming ext->Hj
open PySem.W.Looks renaming here->Hn
open PySem.Heap.IsSliceOf renaming new->Ho
open PySem.W.WShape renaming has->Hr
open PySem.Within renaming cons->Ht
open List.Pairwise renaming nil->Hu
open PySem.W.WData renaming int->Hw
noncomputable section
open Lean in
def cnvP:Nat->Syntax->MacroM (TSyntax `rcasesPat)
 |0,_=>Macro.throwUnsupported
 |n+1,s=>do
  if s.isOfKind ``Lean.Parser.Term.anonymousCtor||s.isOfKind ``«term#[_,]» then `(rcasesPat| ⟨$[$(← s[1].getSepArgs.mapM (cnvP n)):rcasesPat],*⟩)
  else if s.isIdent then `(rcasesPat| $(⟨s⟩):ident)
  else if s.isOfKind ``Lean.Parser.Term.hole then `(rcasesPat| _)
  else Macro.throwUnsupported
local macro_rules | `(tactic| let $p:term := $e)=>do `(tactic| obtain $(← cnvP 9 p):rcasesPat := $e)
local macro_rules | `(tactic| erw [$rs,*] $(l)?)=>do
 let t<-rs.getElems.flatMapM λ|`(Lean.Parser.Tactic.rwRule| $t:term)=>(if t.raw.isOfKind `ident then (if t.raw.getId== `ev then "ve1 ve2 ve3 ve4 ve5 ve6 ve7 ve8 ve9 ve10 ve11 ve12 ve13 ve15 ve16 ve17 ve18 ve19 ve20 ve21 vx20 ve24 ve25 ve28 ve29 ve32 ve33 ve37" else if t.raw.getId== `ex then "xr0 xr1 xr2 xr3 xr4 xr5 xr6 xr7 xr8 xr9 xr10 xr11" else "").splitOn " " else [""]).toArray.mapM λs=>if s=="" then `(Lean.Parser.Tactic.simpLemma| $t:term)else `(Lean.Parser.Tactic.simpLemma| $(Lean.mkIdent (`IC++s.toName)):term)|_=>Lean.Macro.throwUnsupported
 `(tactic| simp only[$t,*] $(l)?)
local macro_rules | `(fun $bs* => $b)=>do
 if !(bs.any λx=>x.raw.isOfKind ``Lean.Parser.Term.anonymousCtor||x.raw.isOfKind ``«term#[_,]»)||(b.raw.find? λx=>x.isOfKind ``Lean.Parser.Term.syntheticHole).isSome then Lean.Macro.throwUnsupported
 `(by rintro $[$(← bs.mapM λx=>cnvP 9 x.raw):rcasesPat]*;exact $b)
set_option backward.eqns.nonrecursive false
local macro_rules (kind:=Lean.Parser.Command.declaration)
 |s=>do
  if s.getPos?.isNone then Lean.Macro.throwUnsupported
  let s:=s.rewriteBottomUp fun|.atom _ v=>.atom .none v|.ident _ r v p=>.ident .none r v p|.node _ k a=>.node .none k a|x=>x
  let k:=s[1].getKind
  unless (k==``Lean.Parser.Command.definition||k==``Lean.Parser.Command.abbrev)&&s[0].getArgs.all (·.isNone) do return s
  if k==``Lean.Parser.Command.definition&&(toString s[1][1][0].getId).startsWith "z" then
   let m←`(theorem x:True:=trivial)
   return s.setArg 1 (((m.raw[1].setArg 1 s[1][1]).setArg 2 (Lean.mkNode ``Lean.Parser.Command.declSig #[s[1][2][0],s[1][2][1][0]])).setArg 3 s[1][3])
  let m←`(noncomputable def x:=0)
  return s.setArg 0 m.raw[0]
local macro_rules|`(())=>`((by lia))
local macro_rules|`(#[$x,*])=>`(⟨$x,*⟩)
namespace L2
open PySem PySem.Spec PyProof.Rows
abbrev Key:=Sum Int AQ
def yb2:Key->AG->Bool
 |.inl k,v=>He k v
 |.inr x,v=>HI x v
def yht(w:Au):Key->Int
 |.inl k=>hashInt k
 |.inr x=>hashStr w x
def zI:∀{k:Key} {v:AG},yb2 k v=AC->(∃i t,k=FY i/\v=Eh i t) \/ (∃x t,k=FZ x/\v=GU x t)
 |.inl i,v,h=>by let#[t,e]:=Value.isInt_shape (k:=i) (v:=v) h;exact .inl #[i,t,rfl,e]
 |.inr x,v,h=>by let#[t,e]:=Value.isStrOf_shape (x:=x) (v:=v) h;exact .inr #[x,t,rfl,e]
def ziL(i:Int)(t:Hv):yb2 (.inl i) (.int i t)=true:=by simp[yb2,He]
def zig(x:AQ)(t:Hv):yb2 (.inr x) (.str x t)=true:=by simp[yb2,HI]
def zpP(a b:Int):decide ((FY a:Key)=FY b)=(a==b):=by
 by_cases e:a=b
 .subst e;simp
 .have h:¬(FY a:Key)=FY b:=λq=>e (Sum.inl.inj q);rw[decide_eq_false h];exact(beq_eq_false_iff_ne.mpr e).symm
def zpZ(a b:AQ):decide ((FZ a:Key)=FZ b)=decide (a=b):=by
 by_cases e:a=b
 .subst e;simp
 .have h:¬(FZ a:Key)=FZ b:=λq=>e (Sum.inr.inj q);rw[decide_eq_false h,decide_eq_false e]
def zpe(a:Int)(b:AQ):decide ((FY a:Key)=FZ b)=false:=decide_eq_false (λq=>nomatch q)
def zn2(a:AQ)(b:Int):decide ((FZ a:Key)=FY b)=false:=decide_eq_false (λq=>nomatch q)
def yab(prog:Af)(w:Au):PySem.KeyKind prog w Key where
 is:=yb2
 hash:=yht w
 inj:=λv a b ha hb=>by
  rcases zI ha with⟨i,t,rfl,rfl⟩|⟨x,t,rfl,rfl⟩
  .rcases zI hb with⟨j,u,rfl,e⟩|⟨y,u,rfl,e⟩
   .injection e with e1 _;rw[e1]
   .exact nomatch e
  .rcases zI hb with⟨j,u,rfl,e⟩|⟨y,u,rfl,e⟩
   .exact nomatch e
   .injection e with e1 _;rw[e1]
 byValue:=λk v h=>by rcases zI h with⟨i,t,rfl,rfl⟩|⟨x,t,rfl,rfl⟩<;>rfl
 pyHash:=λhv h=>by
  rcases zI hv with⟨i,t,rfl,rfl⟩|⟨x,t,rfl,rfl⟩
  .exact wpAny_pyHash_int h
  .exact wpAny_pyHash_str h
 eqBool:=λhu hv h=>by
  rcases zI hu with⟨i,t,rfl,rfl⟩|⟨x,t,rfl,rfl⟩
  .rcases zI hv with⟨j,u,rfl,rfl⟩|⟨y,u,rfl,rfl⟩
   .rw[zpP]at h;exact wpAny_eqBool_int h
   .rw[zpe]at h;exact Fg i t y u _ _ _ _ h
  .rcases zI hv with⟨j,u,rfl,rfl⟩|⟨y,u,rfl,rfl⟩
   .rw[zn2]at h;exact Fh x t j u _ _ _ _ h
   .rw[zpZ]at h;exact wpAny_eqBool_str h
 «strs»:=λk x t v h=>by
  rcases zI h with⟨i,u,rfl,e⟩|⟨y,u,rfl,e⟩
  .exact nomatch e
  .injection e with e1 _;subst e1
   cases v<;>rfl
def zgj(prog:Af)(w:Au)(i:Int)(t:Hv):(yab prog w).is (.inl i) (.int i t)=true:=ziL i t
def zfW(prog:Af)(w:Au)(x:AQ)(t:Hv):(yab prog w).is (.inr x) (.str x t)=true:=zig x t
inductive V where
 |non|bl (b:Bool)|int (i:Int)|str (x:AQ)|byt (b:Array UInt8)|flt (b:UInt64)|ref (a:AI)|ty (n:String)
 deriving DecidableEq
def RelV:V->AG->Prop
 |.non,u=>u=CZ
 |.bl b,u=>u=EF b
 |.int i,u=>∃t,u=Eh i t
 |.str x,u=>∃t,u=GU x t
 |.byt b,u=>∃t,u=Hf b t
 |.flt b,u=>∃t,u=Hg b t
 |.ref a,u=>u=Ar a
 |.ty n,u=>u=Fi n
abbrev Vals:List V->List AG->Prop:=Gu RelV
theorem Vals.length{xs:List V}{us:List AG}(r:Vals xs us):xs.length=us.length:=Ed r
theorem Vals.get:∀{xs:List V} {us:List AG} {i:Nat} {x:V},Vals xs us->xs[i]?=AA x->∃u,us[i]?=AA u/\RelV x u
 |_,_,_,_,.nil,e=>by simp at e
 |_,_,0,_,.cons r _,e=>by simp at e;subst e;exact#[_,rfl,r]
 |_,_,i+1,x,.cons _ t,e=>by let#[u,h1,h2]:=Vals.get (i:=i) (x:=x) t (by simpa using e);exact#[u,by simpa using h1,h2]
theorem Vals.set{x:V}{u:AG}(r:RelV x u):∀{xs:List V} {us:List AG} (i:Nat),Vals xs us->Vals (xs.set i x) (us.set i u)
 |_,_,_,.nil=>.nil
 |_,_,0,.cons _ t=>.cons r t
 |_,_,i+1,.cons q t=>.cons q (Vals.set r i t)
theorem Vals.append:∀{xs ys:List V} {us ws:List AG},Vals xs us->Vals ys ws->Vals (xs++ys) (us++ws)
 |_,_,_,_,.nil,s=>s
 |_,_,_,_,.cons r t,s=>.cons r (Vals.append t s)
theorem Vals.take:∀{xs:List V} {us:List AG} (n:Nat),Vals xs us->Vals (xs.take n) (us.take n)
 |_,_,0,_=>.nil
 |_,_,_+1,.nil=>.nil
 |_,_,n+1,.cons r t=>.cons r (Vals.take n t)
theorem Vals.drop:∀{xs:List V} {us:List AG} (n:Nat),Vals xs us->Vals (xs.drop n) (us.drop n)
 |_,_,0,r=>r
 |_,_,_+1,.nil=>.nil
 |_,_,n+1,.cons _ t=>Vals.drop n t
def ybF:Option V->Option AG->Prop
 |some v,AA u=>RelV v u
 |none,AD=>True
 |_,_=>False
def KV{L:Type}:List (L×V)->List (L×AG)->Prop:=Gu λ(p:L×V) (q:L×AG)=>p.1=q.1/\RelV p.2 q.2
def kV:Key->V
 |.inl i=>.int i
 |.inr x=>.str x
inductive HO where
 |lst (xs:List V)
 |tup (xs:List V)
 |dK (kvs:List (Key×V))|dT (kvs:List (List Key×V))
 |set (S:Int->Bool) (n:Nat)
 |ins (C dx:AI) (fs:List (AQ×V))
 |own (x:AI)
 |xd (fs:List (AQ×V))
 |met (f x:AI)
 |rng (lo hi:Int)
 |frz (o:CP) (u:HO)
 |tbl (ps:Array AG)
 |ext (A:BR->Prop)
abbrev Hp:=AI->Option HO
def upd(H:Hp)(a:AI)(o:HO):Hp:=λb=>if b=a then AA o else H b
def zu{H:Hp}{a:AI}{o:HO}:upd H a o a=AA o:=by unfold upd;rw[if_pos rfl]
def zm{H:Hp}{a b:AI}{o:HO}(h:b≠a):upd H a o b=H b:=by unfold upd;rw[if_neg h]
def zqm{H:Hp}{a b:AI}{o u:HO}(h:H a=AA o)(h':H b=AA u)(d:o≠u):a≠b:=by intro e;subst e;rw[h]at h';exact d (A1 h')
def zq{H:Hp}{a b:AI}{o:HO}(h:H a=AA o)(h':H b=AD):a≠b:=by intro e;subst e;rw[h]at h';cases h'
section
variable (P:Af)(w:Au)
def yal(H:Hp)(h:BR)(a:AI):HO->Prop
 |.lst xs=>xs.length<=sizeLine/\∃(its:List AG) (n:Nat),Vals xs its/\h.get? a=AA {cls:=.type "list",data:=.seq its.toArray n}
 |.tup xs=>xs.length<=sizeLine/\∃its:List AG,Vals xs its/\Hh h a its.toArray
 |.dK kvs=>kvs.length<=sizeLine/\(a==sysModules)=AB/\∃vs,KV kvs vs/\h.DictOf (yab P w) a vs
 |.dT kvs=>kvs.length<=sizeLine/\(a==sysModules)=AB/\∃xs:List (List Key×AI×AG),
   Gu (λ(p:List Key×V) (q:List Key×AI×AG)=>p.1=q.1/\H q.2.1=AA (.tup (p.1.map kV))/\RelV p.2 q.2.2) kvs xs /\
   ∃o es ep,h.get? a=AA o/\o.ExactDict/\o.data=.dict es ep/\es.toList=xs.map (entryOfKey (tupleKind (yab P w)))/\(xs.map (·.1)).Nodup
 |.set S n=>h.SetOf (intKind P w) a S n
 |.ins C dx fs=>H dx=AA (.own a)/\fs.length<=1000/\dx≠a/\h.get? a=AA (CM C dx) /\
   ∃mA,h.Ns1 dx mA/\(∀f,ybF (fs.lookup f) (mA f))/\Fw mA (fs.map (·.1))
 |.own _=>∃o,h.get? a=AA o
 |.xd fs=>∃mA,h.Ns1 a mA/\∀f,ybF (fs.lookup f) (mA f)
 |.rng lo hi=>∃t u v,h.get? a=AA {cls:=.type "range",data:=.fields (List.toArray [.int lo t,.int hi u,.int 1 v])}
 |.frz o u=>h.get? a=AA o/\yal H h a u
 |.tbl ps=>h.get? a=AA {cls:=.none,data:=.fields ps}
 |.met f x=>h.get? a=AA (E5 (.ref f) (.ref x))
 |.ext A=>A h/\(∃o,h.get? a=AA o)/\∀h1 h2:BR,A h1->(∀o,h1.get? a=AA o->h2.get? a=AA o)->A h2
def HOk(H:Hp)(h:BR):Prop:=∀a o,H a=AA o->yal P w H h a o
end
section
variable {P:Af}{w:Au}{H H':Hp}{h h':BR}{a:AI}{o:HO}
theorem yal.lt(x:yal P w H h a o):a<h.objs.size:=by
 cases o with
 |lst xs=>let#[_,_,_,_,e]:=x;exact A2 e
 |tup xs=>let#[_,_,_,p]:=x;exact p.lt
 |dK kvs=>let#[_,_,_,_,o,_,_,e,_]:=x;exact A2 e
 |dT kvs=>let#[_,_,_,_,o,_,_,e,_]:=x;exact A2 e
 |set S n=>let#[o,_,_,_,e,_]:=x;exact A2 e
 |ins C dx fs=>let#[_,_,_,e,_]:=x;exact A2 e
 |own y=>let#[_,e]:=x;exact A2 e
 |xd fs=>let#[_,#[_,_,_,e,_],_]:=x;exact A2 e
 |rng lo hi=>let#[_,_,_,e]:=x;exact A2 e
 |frz ob u=>let#[e,_]:=x;exact A2 e
 |tbl ps=>exact A2 (show h.get? a=AA _ from x)
 |met f y=>exact A2 (show h.get? a=AA _ from x)
 |ext A=>let#[_,#[_,e],_]:=x;exact A2 e
theorem Paired.mapP{B D:Type}{F G:B->D->Prop}:∀{l₁:List B} {l₂:List D},Gu F l₁ l₂->(∀a b,F a b->G a b)->Gu G l₁ l₂
 |_,_,.nil,_=>.nil
 |_,_,.cons r t,f=>.cons (f _ _ r) (Paired.mapP t f)
theorem yal.stay(x:yal P w H h a o)(k:∀b u,(b=a \/ H b=AA (.own a))->h.get? b=AA u->h'.get? b=AA u)
  (ho:∀b,H b=AA (.own a)->H' b=AA (.own a)) (ht:∀b xs,H b=AA (.tup xs)->H' b=AA (.tup xs)):yal P w H' h' a o:=by
 induction o with
 |lst xs=>let#[z,its,n,r,e]:=x;exact#[z,its,n,r,k _ _ (.inl rfl) e]
 |tup xs=>let#[z,its,r,ob,e,c]:=x;exact#[z,its,r,ob,k _ _ (.inl rfl) e,c]
 |dK kvs=>let#[z,y,vs,r,ob,es,ep,e,c]:=x;exact#[z,y,vs,r,ob,es,ep,k _ _ (.inl rfl) e,c]
 |dT kvs=>
  let#[z,y,xs,r,ob,es,ep,e,c]:=x;exact#[z,y,xs,Paired.mapP r λp q z=>#[z.1,ht _ _ z.2.1,z.2.2],ob,es,ep,k _ _ (.inl rfl) e,c]
 |set S n=>let#[ob,es,ep,t,e,c]:=x;exact#[ob,es,ep,t,k _ _ (.inl rfl) e,c]
 |ins C dx fs=>
  let#[d,z,ne,e,mA,#[od,es,ep,e2,c],r]:=x;exact#[ho _ d,z,ne,k _ _ (.inl rfl) e,mA,#[od,es,ep,k _ _ (.inr d) e2,c],r]
 |own y=>let#[ob,e]:=x;exact#[ob,k _ _ (.inl rfl) e]
 |xd fs=>let#[mA,#[od,es,ep,e,c],r]:=x;exact#[mA,#[od,es,ep,k _ _ (.inl rfl) e,c],r]
 |rng lo hi=>let#[t,u,v,e]:=x;exact#[t,u,v,k _ _ (.inl rfl) e]
 |frz ob u ih=>let#[e,q]:=x;exact#[k _ _ (.inl rfl) e,ih q]
 |tbl ps=>
  have e:h.get? a=AA {cls:=.none,data:=.fields ps}:=x;show h'.get? a=AA {cls:=.none,data:=.fields ps};exact k a _ (.inl rfl) e
 |met f y=>
  have e:h.get? a=AA (E5 (.ref f) (.ref y)):=x;show h'.get? a=AA (E5 (.ref f) (.ref y));exact k a _ (.inl rfl) e
 |ext A=>let#[p,#[o,e],st]:=x;exact#[st _ _ p λo q=>k _ _ (.inl rfl) q,#[o,k _ _ (.inl rfl) e],st]
theorem HOk.lt(x:HOk P w H h)(e:H a=AA o):a<h.objs.size:=(x a o e).lt
theorem HOk.fresh(x:HOk P w H h)(e:h.objs.size<=a):H a=none:=by
 cases q:H a with
 |none=>rfl
 |some u=>exact absurd (A9 (x.lt q) e) (DD _)
theorem HOk.kept(x:HOk P w H h)(k:∀b u,h.get? b=AA u->h'.get? b=AA u):HOk P w H h':=λa o e=>
 (x a o e).stay (λb u _ q=>k b u q) (λ_ q=>q) λ_ _ q=>q
theorem HOk.laid(x:HOk P w H h)(k:∀b u,h.get? b=AA u->h'.get? b=AA u)(hp:h.objs.size<=a)(new:yal P w (upd H a o) h' a o):HOk P w (upd H a o) h':=λb u e=>by
 have hn:=x.fresh hp
 by_cases hb:b=a
 .subst hb;rw[zu]at e;cases e;exact new
 .rw[zm hb]at e;exact(x b u e).stay (λc v _ q=>k c v q) (λc q=>by rw[zm (zq q hn)];exact q) λc xs q=>by rw[zm (zq q hn)];exact q
end
def Rd(H:Hp)(a:AI)(u:HO):Prop:=H a=AA u \/ ∃o,H a=AA (.frz o u)
theorem Rd.of{H:Hp}{a:AI}{u:HO}(h:H a=AA u):Rd H a u:=.inl h
theorem Rd.ok{P:Af}{w:Au}{H:Hp}{h:BR}{a:AI}{u:HO}(r:Rd H a u)(x:HOk P w H h):yal P w H h a u:=by
 rcases r with r|⟨o,r⟩
 .exact x a u r
 .let#[_,q]:=x a _ r;exact q
def Mut:Option HO->Prop
 |some (.lst _)=>True
 |some (.dK _)=>True
 |some (.dT _)=>True
 |some (.set _ _)=>True
 |some (.ins _ _ _)=>True
 |some (.ext _)=>True
 |_=>False
section
variable {P:Af}{w:Au}{H:Hp}{h h':BR}{x e:AI}{o':HO}
theorem HOk.write(ok:HOk P w H h)(mu:Mut (H x))(he:e=x \/ H e=AA (.own x))(k:∀b u,b≠e->h.get? b=AA u->h'.get? b=AA u)(heo:∃u,h'.get? e=AA u)
  (new:yal P w (upd H x o') h' x o'):HOk P w (upd H x o') h':=λb u q=>by
 have nown:∀c y,H c=AA (.own y)->c≠x:=λc y r z=>by subst z;rw[r]at mu;exact mu
 have ntup:∀c xs,H c=AA (.tup xs)->c≠x:=λc xs r z=>by subst z;rw[r]at mu;exact mu
 by_cases hb:b=x
 .subst hb;rw[zu]at q;cases q;exact new
 .rw[zm hb]at q
  by_cases hbe:b=e
  .have q':H b=AA (.own x):=by
    rcases he with z|z
    .exact absurd (hbe.trans z) hb
    .rw[hbe];exact z
   rw[q]at q';cases q';let#[v,hv]:=heo;exact#[v,by rw[hbe];exact hv]
  .refine(ok b u q).stay (λc v hc r=>k c v ?_ r) (λc r=>by rw[zm (nown c b r)];exact r) λc xs r=>by rw[zm (ntup c xs r)];exact r
   rcases hc with rfl|hc
   .exact hbe
   .rintro rfl
    rcases he with z|z
    .exact nown c b hc z
    .rw[hc]at z;cases z;exact hb rfl
end
structure Un(fs ex:List AI)(H H':Hp)(h h':BR):Prop where
 keep:∀b o,h.get? b=AA o->H b=AD->b∉fs->b∉ex->h'.get? b=AA o
 slot:∀b o,h.get? b=AA o->H b=AD->b∈fs->b∉ex->∃sl,h'.get? b=AA {o with slots:=sl}
 free:∀b o,h.get? b=AA o->H b=AD->b∉ex->H' b=AD
 there:∀b o,h.get? b=AA o->b∉ex->∃o',h'.get? b=AA o'
 tups:∀b xs,H b=AA (.tup xs)->H' b=AA (.tup xs)
 frzs:∀b o u,H b=AA (.frz o u)->H' b=AA (.frz o u)
 tbls:∀b ps,H b=AA (.tbl ps)->∃more,H' b=AA (.tbl (ps++more))
section
variable {fs fs' ex ex':List AI}{H H1 H2:Hp}{h h1 h2 h':BR}{a x e:AI}{o:HO}
theorem Un.any(u:Un fs ex H H1 h h1){b:AI}{ob:CP}(q:h.get? b=AA ob)(n:H b=AD)(hx:b∉ex):∃sl,h1.get? b=AA {ob with slots:=sl}:=by
 by_cases hb:b∈fs
 .exact u.slot b ob q n hb hx
 .exact#[ob.slots,u.keep b ob q n hb hx]
theorem Un.kept(k:∀b u,h.get? b=AA u->h'.get? b=AA u):Un fs ex H H h h':=
 #[λb ob q _ _ _=>k b ob q,λb ob q _ _ _=>#[ob.slots,k b ob q],λ_ _ _ n _=>n,λb ob q _=>#[ob,k b ob q],λ_ _ q=>q,λ_ _ _ q=>q,λ_ ps q=>#[(List.toArray []),by rw[q];simp]]
theorem Un.refl:Un fs ex H H h h:=Un.kept λ_ _ q=>q
theorem Un.laid(k:∀b u,h.get? b=AA u->h'.get? b=AA u)(hp:h.objs.size<=a)(hn:H a=AD):Un fs ex H (upd H a o) h h' where
 keep:=λb u q _ _ _=>k b u q
 slot:=λb u q _ _ _=>#[u.slots,k b u q]
 free:=λb u q n _=>by rw[zm (BG (A9 (A2 q) hp))];exact n
 there:=λb u q _=>#[u,k b u q]
 tups:=λb xs q=>by rw[zm (zq q hn)];exact q
 frzs:=λb u xs q=>by rw[zm (zq q hn)];exact q
 tbls:=λb ps q=>#[(List.toArray []),by rw[zm (zq q hn),q];simp]
theorem Un.write(mu:Mut (H x))(he:e=x \/ H e=AA (.own x))(k:∀b u,b≠e->h.get? b=AA u->h'.get? b=AA u)(heo:∃u,h'.get? e=AA u):Un fs ex H (upd H x o) h h':=by
 have hx:∀b,H b=AD->b≠x:=λb n z=>by subst z;rw[n]at mu;exact mu
 have hb:∀b,H b=AD->b≠e:=λb n z=>by
  subst z;rcases he with r|r
  .exact hx b n r
  .rw[n]at r;cases r
 have hm:∀b u,H b=AA u->¬Mut (AA u)->b≠x:=λb u q nm z=>by subst z;rw[q]at mu;exact nm mu
 refine#[λb u q n _ _=>k b u (hb b n) q,λb u q n _ _=>#[u.slots,k b u (hb b n) q],λb u q n _=>by rw[zm (hx b n)];exact n,λb u q _=>?_,
  λb xs q=>by rw[zm (hm b _ q λz=>z)];exact q,λb u xs q=>by rw[zm (hm b _ q λz=>z)];exact q,λb ps q=>#[(List.toArray []),by rw[zm (hm b _ q λz=>z),q];simp]]
 by_cases hbe:b=e
 .subst hbe;exact heo
 .exact#[u,k b u hbe q]
end
def trk(h:BR)(H:Hp):List Addr:=(EG h.objs.size).filter λa=>(H a).isSome
def ycx(h:BR)(H:Hp):Heap:=DF h (trk h H)
def zhG(h:BR)(H:Hp):(ycx h H).objs.size=h.objs.size:=PySem.W.hideAll_size _ _
def zkP{h:BR}{H:Hp}{b:AI}{o:CP}(e:h.get? b=AA o)(n:H b=AD):(ycx h H).get? b=AA o:=
 F2 _ e λhm=>by have q:(H b).isSome=true:=(Gj.mp hm).2;rw[n]at q;simp at q
def znh{h:BR}{H:Hp}{b:AI}{o:CP}(e:(ycx h H).get? b=AA o):h.get? b=AA o/\H b=none:=by
 have e':h.get? b=AA o:=Fj (trk h H) e;refine#[e',?_]
 cases q:H b with
 |none=>rfl
 |some x=>
  have hm:b∈trk h H:=Gj.mpr #[Gv.mpr (A2 e'),by simp[q]];have z:(ycx h H).get? b=none:=PySem.W.hideAll_none (trk h H) hm;rw[z]at e;cases e
structure Mod(K:AE)(mg:AQ->Option AG)(base:BR):Prop where
 kin:K.In base
 glob:base.Ns mainGlobals mg
 blt:∃mb,base.Ns builtinsNs mb/\∀x:AQ,x ≠ "__name__"->mb x=bootBuiltins x
 nolimit:base.NoLimit
structure Cx where
 prog:Af
 w:Au
 K:AE
 mg:AQ->Option AG
 base:BR
 A:BK
 N:List AQ
 s₀:AJ
 H₀:Hp
 env:Env
 outer:List Env
 stack:List Env
 ex:List AI
 fn:AQ->Bool
 calm:Bool
 pn:List (AI×CP)
 xe:AG->AJ->Prop
def frs(l:List Env):List Addr:=l.filterMap (·.frame)
abbrev Cx.fs(X:Cx):List Addr:=frs X.outer
def Vis(sc:Bq)(x:AQ):Prop:=sc.names.lookup x=AA .local \/ sc.names.lookup x=AA .cell \/ sc.names.lookup x=AA .free
def Loc(sc:Bq)(x:AQ):Prop:=sc.names.lookup x=AA .local \/ sc.names.lookup x=AA .cell
def Look(env:Env)(h:BR)(m:AQ->Option AG)(x:AQ)(u:AG):Prop:=
 (env.kindOf x=AA .local/\m x=AA u) \/ ((env.kindOf x=AA .cell \/ env.kindOf x=AA .free)/\∃c,env.cells.lookup x=AA c/\h.IsCell c (AA u))
structure Cx.Ok(X:Cx):Prop where
 mod:Mod X.K X.mg X.base
 kind:X.env.scope.kind=.function
 glob:X.env.globals=mainGlobals
 blt:X.env.builtins=builtinsNs
 above:X.s₀.heap.objs.size<=X.env.locals
 inj:∀x y c,X.env.cells.lookup x=AA c->X.env.cells.lookup y=AA c->x=y
 has:∀x,(X.env.kindOf x=AA .cell \/ X.env.kindOf x=AA .free)->∃c,X.env.cells.lookup x=AA c
 cab:∀x c,X.fn x=AC->X.env.cells.lookup x=AA c->X.s₀.heap.objs.size<=c
 hd:X.calm=AC->X.A.handled=AD
 frames:X.A.frames=AA X.stack
 stk:X.stack=X.outer \/ (X.stack=X.env::X.outer/\X.env.frame=AA X.env.locals)
 exf:∀b∈X.ex,b≠X.env.locals/\∀x c,X.env.cells.lookup x=AA c->c≠b
 bs:∀b o,X.base.get? b=AA o->X.s₀.heap.get? b=AA o/\X.H₀ b=AD
 bsz:X.base.objs.size<=X.s₀.heap.objs.size
 noex:∀b o,X.base.get? b=AA o->b∉X.ex
 exfs:∀b∈X.ex,b∉X.fs
 funs:X.s₀.heap.FunFrames X.base X.outer
 frf:∀b∈X.fs,X.H₀ b=AD
structure Inv(X:Cx)(B:List (AI×CP))(A:List (Option V))(H:Hp)(s:AJ):Prop where
 ok:X.Ok
 os:s.os=X.s₀.os
 bare:De s.gens
 base:Un X.fs X.ex X.H₀ H X.s₀.heap s.heap
 loc:∃m,s.heap.Ns X.env.locals m/\∀(i:Nat) (x:AQ) (v:V),X.N[i]?=AA x->A[i]?=AA (AA v)->Vis X.env.scope x->∃u,RelV v u/\Look X.env s.heap m x u
 cell:∀x c,X.env.cells.lookup x=AA c->∃v,s.heap.IsCell c v
 free:H X.env.locals=AD
 freeC:∀x c,X.env.cells.lookup x=AA c->H c=AD
 pin:∀p∈X.pn++B,s.heap.get? p.1=AA p.2/\H p.1=AD/\p.1≠X.env.locals/\p.1∉X.fs/\∀v,p.2.data ≠ .cell v
 hok:HOk X.prog X.w H s.heap
 len:A.length=X.N.length
section
variable {X:Cx}{C:List (AI×CP)}{B:List (Option V)}{H H':Hp}{s:AJ}{h':BR}
theorem Cx.Ok.nofr(ok:X.Ok){b:AI}{o:CP}(e:X.base.get? b=AA o):b∉X.fs:=λhb=>by have:=(ok.funs.mem hb).1;rw[e]at this;cases this
theorem Inv.bs(I:Inv X C B H s):∀b o,X.base.get? b=AA o->s.heap.get? b=AA o/\H b=none:=λb o e=>
 #[I.base.keep b o (I.ok.bs b o e).1 (I.ok.bs b o e).2 (I.ok.nofr e) (I.ok.noex b o e),I.base.free b o (I.ok.bs b o e).1 (I.ok.bs b o e).2 (I.ok.noex b o e)]
theorem Inv.bk(I:Inv X C B H s):∀b o,X.base.get? b=AA o->s.heap.get? b=AA o:=λb o e=>(I.bs b o e).1
theorem Inv.mod(I:Inv X C B H s):Mod X.K X.mg X.base:=I.ok.mod
theorem Inv.kIn(I:Inv X C B H s):X.K.In s.heap:=I.ok.mod.kin.keeps I.bk
theorem Inv.lt(I:Inv X C B H s):X.env.locals<s.heap.objs.size:=let #[_,hn,_]:=I.loc;hn.lt
theorem Inv.sz(I:Inv X C B H s):X.s₀.heap.objs.size<=s.heap.objs.size:=BZ I.ok.above (Es I.lt)
theorem Inv.nofs(I:Inv X C B H s){a:AI}(h:s.heap.objs.size<=a):a∉X.fs:=λhb=>by let#[_,o,ho,_]:=I.ok.funs.mem hb;exact absurd (A9 (A2 ho) (BZ I.sz h)) (DD _)
theorem Inv.cne(I:Inv X C B H s):∀x c,X.env.cells.lookup x=AA c->c≠X.env.locals:=λx c e z=>by let#[v,o,ho,hd]:=I.cell x c e;let#[m,#[o',es,ep,ho',hd',_],_]:=I.loc;rw[z,ho']at ho;cases ho;rw[hd']at hd;cases hd
theorem Inv.funs(I:Inv X C B H s):s.heap.FunFrames X.base X.outer:=by
 have all:∀(l:List Env),(∀b∈frs l,b∈X.fs)->X.s₀.heap.FunFrames X.base l->s.heap.FunFrames X.base l:=by
  intro l
  induction l with
  |nil=>intro _ _;trivial
  |cons env r ih=>
   intro hs hl;let#[hk,#[L,o,hf,hn,ho,hd],hr]:=hl;have hL:L∈X.fs:=hs L (by unfold frs;rw[Cb,hf];exact Aw);let#[sl,e]:=I.base.slot L o ho (I.ok.frf L hL) hL λz=>I.ok.exfs L z hL;exact#[hk,#[L,_,hf,hn,e,hd],ih (λb hb=>hs b (by unfold frs;rw[Cb,hf];exact AS _ hb)) hr]
 exact all X.outer (λ_ hb=>hb) I.ok.funs
theorem Inv.stack(I:Inv X C B H s):s.heap.FunFrames X.base X.stack:=by
 rcases I.ok.stk with e|⟨e,hf⟩
 .rw[e];exact I.funs
 .rw[e];let#[m,hn,_]:=I.loc;refine .cons (by rw[I.ok.kind];decide) hf hn ?_ I.funs;exact Heap.get?_none_of_le (BZ I.ok.bsz I.ok.above)
theorem Inv.stkSub(I:Inv X C B H s):∀b∈frs X.stack,b∈X.env.locals::X.fs:=λb hb=>by
 rcases I.ok.stk with e|⟨e,hf⟩
 .rw[e]at hb;exact AS _ hb
 .rw[e]at hb;unfold frs at hb;rw[Cb,hf]at hb;exact hb
theorem Inv.stkFree(I:Inv X C B H s):∀b∈frs X.stack,H b=none:=λb hb=>by
 rcases AN.mp (I.stkSub b hb)with e|hb
 .rw[e];exact I.free
 .let#[_,o,ho,_]:=I.ok.funs.mem hb;exact I.base.free b o ho (I.ok.frf b hb) λz=>I.ok.exfs b z hb
theorem Inv.step{g':Array GenState}{t':Nat}{d':Drawn}{ch:List AI}(I:Inv X C B H s)
  (hch:∀b∈ch,(b∈X.ex \/ X.s₀.heap.objs.size<=b)/\b≠X.env.locals/\(∀x c,X.env.cells.lookup x=AA c->c≠b)/\∀p∈X.pn++C,p.1≠b)
  (keep:∀b o,b≠X.env.locals->b∉X.fs->b∉ch->s.heap.get? b=AA o->H b=AD->h'.get? b=AA o)
  (slot:∀b o,b≠X.env.locals->b∈X.fs->b∉ch->s.heap.get? b=AA o->H b=AD->∃sl,h'.get? b=AA {o with slots:=sl}) (free:∀b o,b∉ch->s.heap.get? b=AA o->H b=AD->H' b=AD)
  (there:∀b o,b∉ch->s.heap.get? b=AA o->∃o',h'.get? b=AA o')
  (tups:∀b xs,H b=AA (.tup xs)->H' b=AA (.tup xs)) (frzs:∀b o u,H b=AA (.frz o u)->H' b=AA (.frz o u)) (tbls:∀b ps,H b=AA (.tbl ps)->∃more,H' b=AA (.tbl (ps++more)))
  (ns:∀m,s.heap.Ns X.env.locals m->h'.Ns X.env.locals m) (hok:HOk X.prog X.w H' h') (hg:De g'):
  Inv X C B H' {s with heap:=h',gens:=g',drawn:=d',toks:=t'}:=by
 have neL:∀b o,X.s₀.heap.get? b=AA o->b≠X.env.locals:=λb o e=>BG (A9 (A2 e) I.ok.above);have neC:∀b o,X.s₀.heap.get? b=AA o->b∉X.ex->b∉ch:=λb o e hx hb=>by
  rcases (hch b hb).1 with z|z
  .exact hx z
  .exact absurd (A9 (A2 e) z) (DD _)
 have cellK:∀x c,X.env.cells.lookup x=AA c->∀v,s.heap.IsCell c v->h'.IsCell c v:=λx c e v #[o,ho,hd]=>by
  have nch:c∉ch:=λz=>(hch c z).2.2.1 x c e rfl
  by_cases hc:c∈X.fs
  .let#[sl,q]:=slot c o (I.cne x c e) hc nch ho (I.freeC x c e);exact#[_,q,hd]
  .exact#[o,keep c o (I.cne x c e) hc nch ho (I.freeC x c e),hd]
 refine#[I.ok,I.os,hg,#[λb o e n hb hx=>?_,λb o e n hb hx=>?_,λb o e n hx=>?_,λb o e hx=>?_,λb xs e=>tups b xs (I.base.tups b xs e),λb o xs e=>frzs b o xs (I.base.frzs b o xs e),λb ps e=>?_],?_,λx c e=>?_,?_,λx c e=>?_,λp hp=>?_,hok,I.len]
 .exact keep b o (neL b o e) hb (neC b o e hx) (I.base.keep b o e n hb hx) (I.base.free b o e n hx)
 .let#[sl,e1]:=I.base.slot b o e n hb hx;let#[sl',e2]:=slot b _ (neL b o e) hb (neC b o e hx) e1 (I.base.free b o e n hx);exact#[sl',e2]
 .let#[o',e1]:=I.base.there b o e hx;exact free b o' (neC b o e hx) e1 (I.base.free b o e n hx)
 .let#[o',e1]:=I.base.there b o e hx;exact there b o' (neC b o e hx) e1
 .let#[m1,e1]:=I.base.tbls b ps e;let#[m2,e2]:=tbls b _ e1;exact#[m1++m2,by rw[e2,EH]]
 .let#[m,hn,hl]:=I.loc;refine#[m,ns m hn,λi x v e1 e2 e3=>?_];let#[u,r,l]:=hl i x v e1 e2 e3;refine#[u,r,?_];rcases l with l|⟨k,c,e,z⟩
  .exact .inl l
  .exact .inr #[k,c,e,cellK x c e _ z]
 .let#[v,z]:=I.cell x c e;exact#[v,cellK x c e v z]
 .let#[m,#[o,_,_,ho,_],_]:=I.loc;exact free _ o (λz=>(hch _ z).2.1 rfl) ho I.free
 .let#[v,o,ho,hd]:=I.cell x c e;exact free c o (λz=>(hch c z).2.2.1 x c e rfl) ho (I.freeC x c e)
 .let#[e,n,ne,nf,d]:=I.pin p hp;have nch:p.1∉ch:=λz=>(hch p.1 z).2.2.2 p hp rfl;exact#[keep p.1 p.2 ne nf nch e n,free p.1 p.2 nch e n,ne,nf,d]
theorem Inv.un{t':Nat}(I:Inv X C B H s)(u:Un X.fs [] H H' s.heap h')(hok:HOk X.prog X.w H' h'):Inv X C B H' {s with heap:=h',toks:=t'}:=by
 let#[m,#[o,es,ep,ho,r],_]:=id I.loc;let#[sl,hL]:=u.any ho I.free (by simp);exact I.step (g':=s.gens) (d':=s.drawn) (ch:=[]) (λ_ z=>nomatch z) (λb o _ hb _ e n=>u.keep b o e n hb (by simp)) (λb o _ hb _ e n=>u.slot b o e n hb (by simp)) (λb o _ e n=>u.free b o e n (by simp)) (λb o _ e=>u.there b o e (by simp)) u.tups u.frzs u.tbls (λm' hm=>by let#[o',es',ep',ho',r']:=hm;rw[ho]at ho';cases ho';exact#[_,es',ep',hL,r']) hok I.bare
theorem Inv.call{g':Array GenState}{t':Nat}{d':Drawn}{ch:List AI}(I:Inv X C B H s)(u:Un (frs X.stack) ch H H' s.heap h')(hok:HOk X.prog X.w H' h')(hg:De g')
  (hch:∀b∈ch,(b∈X.ex \/ X.s₀.heap.objs.size<=b)/\b≠X.env.locals/\(∀x c,X.env.cells.lookup x=AA c->c≠b)/\∀p∈X.pn++C,p.1≠b):
  Inv X C B H' {s with heap:=h',gens:=g',drawn:=d',toks:=t'}:=by
 let#[m,#[o,es,ep,ho,r],_]:=id I.loc;let#[sl,hL]:=u.any ho I.free λz=>(hch _ z).2.1 rfl;exact I.step (ch:=ch) hch (λb o hL hb hc e n=>u.keep b o e n (λz=>(AN.mp (I.stkSub b z)).elim hL hb) hc) (λb o _ _ hc e n=>u.any e n hc) (λb o hc e n=>u.free b o e n hc) (λb o hc e=>u.there b o e hc) u.tups u.frzs u.tbls (λm' hm=>by let#[o',es',ep',ho',r']:=hm;rw[ho]at ho';cases ho';exact#[_,es',ep',hL,r']) hok hg
theorem Inv.turned{t':Nat}{it:AI}(I:Inv X C B H s)(k:∀b o,b≠it->s.heap.get? b=AA o->h'.get? b=AA o)(hn:H it=AD)(hL:it≠X.env.locals)
  (h1:it∈X.ex \/ X.s₀.heap.objs.size<=it) (h2:∀x c,X.env.cells.lookup x=AA c->c≠it) (h3:∀p∈X.pn++C,p.1≠it):Inv X C B H {s with heap:=h',toks:=t'}:=by
 have nit:∀b u,H b=AA u->b≠it:=λb u e z=>by rw[z,hn]at e;cases e
 refine I.step (g':=s.gens) (d':=s.drawn) (ch:=[it]) (λb hb=>?_) (λb o _ _ hc e _=>k b o (λz=>hc (by simp[z])) e) (λb o _ _ hc e _=>#[o.slots,k b o (λz=>hc (by simp[z])) e]) (λ_ _ _ _ n=>n)
  (λb o hc e=>#[o,k b o (λz=>hc (by simp[z])) e]) (λ_ _ e=>e) (λ_ _ _ e=>e) (λb ps e=>#[(List.toArray []),by rw[e];simp]) (λm hm=>?_) (λb u e=>?_) I.bare
 .have e:b=it:=by simpa using hb
  subst e;exact#[h1,hL,h2,h3]
 .let#[o,es,ep,ho,r]:=hm;exact#[o,es,ep,k _ o (B0 hL) ho,r]
 .refine(I.hok b u e).stay (λc v hc q=>k c v ?_ q) (λ_ q=>q) λ_ _ q=>q;rcases hc with z|z
  .rw[z];exact nit b u e
  .exact nit c _ z
theorem Inv.tok(I:Inv X C B H s)(t:Nat):Inv X C B H {s with toks:=t}:=I.un (h':=s.heap) (t':=t) Un.refl I.hok
theorem Inv.kept{t':Nat}(I:Inv X C B H s)(k:∀b u,s.heap.get? b=AA u->h'.get? b=AA u):Inv X C B H {s with heap:=h',toks:=t'}:=I.un (Un.kept k) (I.hok.kept k)
theorem Inv.laid{a:AI}{o:HO}{t':Nat}(I:Inv X C B H s)(k:∀b u,s.heap.get? b=AA u->h'.get? b=AA u)(hp:s.heap.objs.size<=a)(new:yal X.prog X.w (upd H a o) h' a o):
  Inv X C B (upd H a o) {s with heap:=h',toks:=t'}:=I.un (Un.laid k hp (I.hok.fresh hp)) (I.hok.laid k hp new)
theorem Inv.write{x e:AI}{o:HO}{t':Nat}(I:Inv X C B H s)(mu:Mut (H x))(he:e=x \/ H e=AA (.own x))(k:∀b u,b≠e->s.heap.get? b=AA u->h'.get? b=AA u)(heo:∃u,h'.get? e=AA u)
  (new:yal X.prog X.w (upd H x o) h' x o):Inv X C B (upd H x o) {s with heap:=h',toks:=t'}:=I.un (Un.write mu he k heo) (I.hok.write mu he k heo new)
theorem Inv.pins_of{pins':List (AI×CP)}(I:Inv X C B H s)(h:∀p∈pins',s.heap.get? p.1=AA p.2/\H p.1=AD/\p.1≠X.env.locals/\p.1∉X.fs/\∀v,p.2.data ≠ .cell v):Inv X pins' B H s:=
 #[I.ok,I.os,I.bare,I.base,I.loc,I.cell,I.free,I.freeC,λp hp=>(BE.mp hp).elim (λz=>I.pin p (Do _ z)) (h p),I.hok,I.len]
def zg3{N:List AQ}(hN:N.Nodup){i j:Nat}{x:AQ}(a:N[i]?=AA x)(b:N[j]?=AA x):i=j:=by let#[h1,e1]:=BY.mp a;let#[h2,e2]:=BY.mp b;exact(List.getElem_inj hN).mp (e1.trans e2.symm)
def zjt{M:Model}{A:BK}{E:AG->AJ->Prop}{i:Nat}{x:AQ}{v:V}{u:AG}{Q:Unit->AJ->Prop}(I:Inv X C B H s)(hN:X.N.Nodup)(hi:X.N[i]?=AA x)(hx:Loc X.env.scope x)(r:RelV v u)
  (h:∀s',Inv X C (B.set i (AA v)) H s'->(∃a,Cv a s.heap s'.heap/\(a=X.env.locals \/ X.env.cells.lookup x=AA a))->Q Unit.unit s') (hf:X.fn x=AC \/ X.env.scope.names.lookup x=AA .local:=by first|exact .inl rfl|exact .inr rfl|assumption):A8 M A (storeName X.env x u) Q E s:=by
 let#[m,hn,hl]:=id I.loc;have hcls:(X.env.scope.kind==.class || (X.env.scope.kind==.module&&X.env.locals != X.env.globals))=false:=by rw[I.ok.kind];rfl
 have hiσ:i<B.length:=by rw[I.len];exact(BY.mp hi).1
 have cne:=I.cne;have tracked:∀{a:AI} {h':BR},(∃o,s.heap.get? a=AA o/\H a=AD)->Cv a s.heap h'->HOk X.prog X.w H h':=λ{a h'} ha hs b ob e=>by
  let#[_,_,hfree]:=ha;refine(I.hok b ob e).stay (λc w' hc q=>(hs.2 c ?_).trans q) (λ_ q=>q) λ_ _ q=>q
  rintro rfl
  rcases hc with rfl|hc
  .rw[hfree]at e;cases e
  .rw[hfree]at hc;cases hc
 rcases hx with hk|hk
 .refine wpAny_storeName_local hk hn (λh' hn' hs=>?_) hcls;let#[oL,_,_,hoL,_]:=id hn;refine h _ #[I.ok,I.os,I.bare,#[λb o e n hb hx=>?_,λb o e n hb hx=>?_,I.base.free,λb o e hx=>?_,I.base.tups,I.base.frzs,I.base.tbls],#[_,hn',λj y v' e1 e2 e3=>?_],λy c e=>?_,I.free,I.freeC,λp hp=>?_,tracked #[oL,hoL,I.free] hs,by simpa using I.len] #[_,hs,.inl rfl]
  .exact(hs.2 b (BG (A9 (A2 e) I.ok.above))).trans (I.base.keep b o e n hb hx)
  .let#[sl,e1]:=I.base.slot b o e n hb hx;exact#[sl,(hs.2 b (BG (A9 (A2 e) I.ok.above))).trans e1]
  .let#[o',e1]:=I.base.there b o e hx;exact#[o',(hs.2 b (BG (A9 (A2 e) I.ok.above))).trans e1]
  .by_cases hj:j=i
   .subst hj;rw[hi]at e1;cases e1;rw[Ag hiσ]at e2
    cases e2
    exact#[u,r,.inl #[hk,by simp]]
   .rw[AO (B0 hj)]at e2;let#[u',r',q]:=hl j y v' e1 e2 e3;refine#[u',r',?_];rcases q with⟨k,e⟩|⟨k,c,e,z⟩
    .refine .inl #[k,?_];have:y≠x:=λe=>hj (zg3 hN e1 (e ▸ hi));simp[this,e]
    .exact .inr #[k,c,e,z.sameBut hs (cne y c e)]
  .let#[w',z]:=I.cell y c e;exact#[w',z.sameBut hs (cne y c e)]
  .let#[e,n,ne,nf,d]:=I.pin p hp;exact#[(hs.2 p.1 ne).trans e,n,ne,nf,d]
 .have hfn:X.fn x=true:=by
   rcases hf with z|z
   .exact z
   .rw[z]at hk;cases hk
  let#[c,hc]:=I.ok.has x (.inl hk);let#[w',z]:=I.cell x c hc;refine wpAny_storeName_cell I.ok.kind hk hc z (λh' hc' hs=>?_);let#[oc,hoc,hocd]:=id z;refine h {s with heap:=h'} #[I.ok,I.os,I.bare,#[λb o e n hb hx=>?_,λb o e n hb hx=>?_,I.base.free,λb o e hx=>?_,I.base.tups,I.base.frzs,I.base.tbls],#[m,hn.sameBut hs (B0 (cne x c hc)),λj y v' e1 e2 e3=>?_],λy c' e=>?_,I.free,I.freeC,λp hp=>?_,tracked #[oc,hoc,I.freeC x c hc] hs,by simpa using I.len] #[c,hs,.inr hc]
  .exact(hs.2 b (BG (A9 (A2 e) (I.ok.cab x c hfn hc)))).trans (I.base.keep b o e n hb hx)
  .let#[sl,e1]:=I.base.slot b o e n hb hx;exact#[sl,(hs.2 b (BG (A9 (A2 e) (I.ok.cab x c hfn hc)))).trans e1]
  .let#[o',e1]:=I.base.there b o e hx;exact#[o',(hs.2 b (BG (A9 (A2 e) (I.ok.cab x c hfn hc)))).trans e1]
  .by_cases hj:j=i
   .subst hj;rw[hi]at e1;cases e1;rw[Ag hiσ]at e2
    cases e2
    exact#[u,r,.inr #[.inl hk,c,hc,hc']]
   .rw[AO (B0 hj)]at e2;let#[u',r',q]:=hl j y v' e1 e2 e3;refine#[u',r',?_];rcases q with q|⟨k,c',e,z'⟩
    .exact .inl q
    .refine .inr #[k,c',e,z'.sameBut hs ?_]
     rintro rfl
     exact hj (zg3 hN e1 (I.ok.inj _ _ _ e hc ▸ hi))
  .by_cases hcc:c'=c
   .subst hcc;exact#[_,hc']
   .let#[w2,z2]:=I.cell y c' e;exact#[w2,z2.sameBut hs hcc]
  .let#[e,n,ne,nf,d]:=I.pin p hp;refine#[(hs.2 p.1 ?_).trans e,n,ne,nf,d];intro q;rw[q,hoc]at e;have q':oc=p.2:=A1 e;exact d w' (by rw[<-q'];exact hocd)
def zcj{M:Model}{A:BK}{E:AG->AJ->Prop}{i:Nat}{x:AQ}{v:V}{u:AG}{Q:Unit->AJ->Prop}(I:Inv X C B H s)(hN:X.N.Nodup)(hi:X.N[i]?=AA x)(hx:Loc X.env.scope x)(r:RelV v u)
  (h:∀s',Inv X C (B.set i (AA v)) H s'->Q Unit.unit s') (hf:X.fn x=AC \/ X.env.scope.names.lookup x=AA .local:=by first|exact .inl rfl|exact .inr rfl|assumption):A8 M A (storeName X.env x u) Q E s:=
 zjt I hN hi hx r (λs' I' _=>h s' I') hf
theorem Inv.call'{s':AJ}{ch:List AI}(I:Inv X C B H s)(ho:s'.os=s.os)(u:Un (frs X.stack) ch H H' s.heap s'.heap)(hok:HOk X.prog X.w H' s'.heap)(hg:De s'.gens)
  (hch:∀b∈ch,(b∈X.ex \/ X.s₀.heap.objs.size<=b)/\b≠X.env.locals/\(∀x c,X.env.cells.lookup x=AA c->c≠b)/\∀p∈X.pn++C,p.1≠b):Inv X C B H' s':=by let#[h',g',d',t',o']:=s';have e:o'=s.os:=ho;subst e;exact I.call (g':=g') (t':=t') (d':=d') u hok hg hch
end
abbrev XK:=AG->Option AI->Hp->Prop
abbrev St:=List (Option V)
abbrev VK:=V->Hp->Prop
abbrev TE:=St->Hp->VK->Prop
abbrev TT:=St->Hp->(Bool->Hp->Prop)->Prop
abbrev TA:=St->Hp->(List V->Hp->Prop)->Prop
structure Ends where
 nx:St->Hp->Prop
 rt:VK
 bk:St->Hp->Prop:=λ_ _=>False
 ct:St->Hp->Prop:=λ_ _=>False
abbrev TS:=Ends->St->Hp->Prop
def EP(X:Cx)(B:List (AI×CP))(A:St)(Q:VK)(u:AG)(s':AJ):Prop:=∃v H',Inv X B A H' s'/\RelV v u/\Q v H'
def TP(X:Cx)(B:List (AI×CP))(A:St)(Q:Bool->Hp->Prop)(b:Bool)(s':AJ):Prop:=∃H',Inv X B A H' s'/\Q b H'
def AP(X:Cx)(B:List (AI×CP))(A:St)(Q:List V->Hp->Prop)(us:List AG)(s':AJ):Prop:=∃vs H',Inv X B A H' s'/\Vals vs us/\Q vs H'
def SP(X:Cx)(A:List (AI×CP))(D:Ends)(f:Flow)(s':AJ):Prop:=
 match f with
 |.next=>∃A' H',Inv X A A' H' s'/\D.nx A' H'
 |.brk=>∃A' H',Inv X A A' H' s'/\D.bk A' H'
 |.cont=>∃A' H',Inv X A A' H' s'/\D.ct A' H'
 |.ret u=>∃v A' H',Inv X A A' H' s'/\RelV v u/\D.rt v H'
def PE(X:Cx)(e:AV)(t:TE):Prop:=
 ∀(C:List (AI×CP)) (s:AJ) (B:St) (H:Hp) (Q:VK),Inv X C B H s->t B H Q->A8 (model X.prog X.w) X.A (eval e X.env) (EP X C B Q) X.xe s
def PT(X:Cx)(e:AV)(t:TT):Prop:=
 ∀(C:List (AI×CP)) (s:AJ) (B:St) (H:Hp) (Q:Bool->Hp->Prop),Inv X C B H s->t B H Q->A8 (model X.prog X.w) X.A (isTrue e X.env (eval e X.env)) (TP X C B Q) X.xe s
def PW(X:Cx)(e:AV)(t:TT):Prop:=
 ∀(whole:HQ AG) (C:List (AI×CP)) (s:AJ) (B:St) (H:Hp) (Q:Bool->Hp->Prop),Inv X C B H s->t B H Q->A8 (model X.prog X.w) X.A (isTrue e X.env whole) (TP X C B Q) X.xe s
theorem PW.pt{X:Cx}{e:AV}{t:TT}(h:PW X e t):PT X e t:=h _
def PA(X:Cx)(es:List AV)(t:TA):Prop:=
 ∀(pos:C6) (C:List (AI×CP)) (s:AJ) (B:St) (H:Hp) (Q:List V->Hp->Prop),Inv X C B H s->t B H Q->A8 (model X.prog X.w) X.A (spliced (backTo pos (starEach es X.env))) (AP X C B Q) X.xe s
def PS(X:Cx)(st:CH)(t:TS):Prop:=
 ∀(C:List (AI×CP)) (s:AJ) (B:St) (H:Hp) (D:Ends),Inv X C B H s->t D B H->A8 (model X.prog X.w) X.A (exec st X.env) (SP X C D) X.xe s
def PSs(X:Cx)(st:List CH)(t:TS):Prop:=
 ∀(C:List (AI×CP)) (s:AJ) (B:St) (H:Hp) (D:Ends),Inv X C B H s->t D B H->A8 (model X.prog X.w) X.A (execs st X.env) (SP X C D) X.xe s
theorem thn{B:Type}{t:HQ B}{Q Q':B->AJ->Prop}{M:Model}{A:BK}{E:AG->AJ->Prop}{s:AJ}(h:A8 M A t Q E s)(hQ:∀a s,Q a s->Q' a s):A8 M A t Q' E s:=C7 h hQ λ_ _ x=>x
section
variable {X:Cx}
def ygK(i:Nat):TE:=λB H Q=>∃v,B[i]?=AA (AA v)/\Q v H
def tC(v:V):TE:=λ_ H Q=>Q v H
def zlP{i:Nat}{x:AQ}{pos:C6}(hN:X.N[i]?=AA x)(hv:Vis X.env.scope x)(hd:(x==("__debug__":AQ))=false:=by decide)(hcd:(x==("__classdict__":AQ))=false:=by decide):PE X (.Name x pos) (ygK i):=by
 intro C s B H Q I h;let#[v,e,h]:=h;let#[m,hn,hl]:=I.loc;let#[u,r,l]:=hl i x v hN e hv;have fin:EP X C B Q u s:=#[v,H,I,r,h];rcases l with⟨hk,hm⟩|⟨hk,c,hc,hcell⟩
 .exact Gw (FO I.ok.kind hk hn hm fin) hd
 .rcases hk with hk|hk
  .exact Gw (F3 I.ok.kind hk hc hcell fin) hd
  .exact Gw (wpAny_loadName_free I.ok.kind hk hc hcell fin hcd) hd
def zrp{i j pos}:PE X (.Constant (.int i) j pos) (tC (.int i)):=λ_ _ _ H _ I h=>wpAny_Constant_int #[.int i,H,I.tok _,#[_,rfl],h]
def zrq{b j pos}:PE X (.Constant (.bool b) j pos) (tC (.bl b)):=λ_ _ _ H _ I h=>Constant_bool #[.bl b,H,I,rfl,h]
def zrr{j pos}:PE X (.Constant .none j pos) (tC .non):=λ_ _ _ H _ I h=>Constant_none #[.non,H,I,rfl,h]
def zrs{x j pos}:PE X (.Constant (.str x) j pos) (tC (.str x)):=λ_ _ _ H _ I h=>Calls.Constant_str #[.str x,H,I.tok _,#[_,rfl],h]
def Gl(X:Cx)(x:AQ):Prop:=X.env.kindOf x=AA .globalImplicit
def zdN{E:AG->AJ->Prop}{C:List (AI×CP)}{s:AJ}{B:St}{H:Hp}{x:AQ}{u:AG}{pos:C6}{Q:AG->AJ->Prop}(I:Inv X C B H s)(hg:Gl X x)(hm:X.mg x=AA u)(h:Q u s)
  (hd:(x==("__debug__":AQ))=false:=by decide):A8 (model X.prog X.w) X.A (eval (.Name x pos) X.env) Q E s:=
 EI I.ok.kind hg (Calls.loadGlobal_global (by rw[I.ok.glob];exact I.mod.glob.keeps I.bk) hm h) hd
def zeg{E:AG->AJ->Prop}{C:List (AI×CP)}{s:AJ}{B:St}{H:Hp}{x:AQ}{u:AG}{pos:C6}{Q:AG->AJ->Prop}(I:Inv X C B H s)(hg:Gl X x)(hm:X.mg x=AD)(hv:bootBuiltins x=AA u)(h:Q u s)
  (hn:x ≠ "__name__":=by decide) (hd:(x==("__debug__":AQ))=false:=by decide):A8 (model X.prog X.w) X.A (eval (.Name x pos) X.env) Q E s:=by let#[mb,h1,h2]:=I.mod.blt;exact EI I.ok.kind hg (Calls.loadGlobal_builtin (by rw[I.ok.glob];exact I.mod.glob.keeps I.bk) hm (by rw[I.ok.blt];exact h1.keeps I.bk) ((h2 x hn).trans hv) h) hd
def zdk{x:AQ}{v:V}{u:AG}{pos:C6}(hg:Gl X x)(hm:X.mg x=AA u)(r:RelV v u)(hd:(x==("__debug__":AQ))=false:=by decide):PE X (.Name x pos) (tC v):=
 λ_ _ _ H _ I h=>zdN I hg hm #[v,H,I,r,h] hd
def zm2{x:AQ}{v:V}{u:AG}{pos:C6}(hg:Gl X x)(hm:X.mg x=AD)(hv:bootBuiltins x=AA u)(r:RelV v u)(hn:x ≠ "__name__":=by decide)(hd:(x==("__debug__":AQ))=false:=by decide):PE X (.Name x pos) (tC v):=
 λ_ _ _ H _ I h=>zeg I hg hm hv #[v,H,I,r,h] hn hd
variable {a b:AV}{ta tb:TE}{pos:C6}
variable {tA tB':TT}{rest:List AV}
def ygG(t u:TT):TT:=λB H Q=>t B H λc H1=>if c=AC then u B H1 Q else Q AB H1
def tOr(t u:TT):TT:=λB H Q=>t B H λc H1=>if c=AC then Q AC H1 else u B H1 Q
def yhl(t:TT):TT:=λB H Q=>t B H λc H1=>Q (!c) H1
def zmZ(ha:PT X a tA):PW X (.BoolOp .And [a] pos) tA:=by
 intro wh C s B H Q I h;refine isTrue_and (thn (ha C s B H Q I h) λc s1 e=>?_)
 cases c with
 |true=>exact isTrue_and_nil e
 |false=>exact e
def zow(ha:PT X a tA):PW X (.BoolOp .Or [a] pos) tA:=by
 intro wh C s B H Q I h;refine isTrue_or (thn (ha C s B H Q I h) λc s1 e=>?_)
 cases c with
 |false=>exact isTrue_or_nil e
 |true=>exact e
def zor(ha:PT X a tA)(hb:PW X (.BoolOp .And (b::rest) pos) tB'):PW X (.BoolOp .And (a::b::rest) pos) (ygG tA tB'):=by
 intro wh C s B H Q I h;refine isTrue_and (thn (ha C s B H _ I h) λc s1 kq=>?_);let#[H1,I1,q1]:=kq
 cases c with
 |true=>exact hb wh C s1 B H1 Q I1 q1
 |false=>exact#[H1,I1,q1]
def zqL(ha:PT X a tA)(hb:PW X (.BoolOp .Or (b::rest) pos) tB'):PW X (.BoolOp .Or (a::b::rest) pos) (tOr tA tB'):=by
 intro wh C s B H Q I h;refine isTrue_or (thn (ha C s B H _ I h) λc s1 kq=>?_);let#[H1,I1,q1]:=kq
 cases c with
 |true=>exact#[H1,I1,q1]
 |false=>exact hb wh C s1 B H1 Q I1 q1
def zpX(ha:PT X a tA):PT X (.UnaryOp .Not a pos) (yhl tA):=by intro C s B H Q I h;exact isTrue_not (ha C s B H (λc H1=>Q (!c) H1) I h)
def yeo(ta tb:TE):TE:=λB H Q=>ta B H λx H1=>∃c,x=.bl c/\if c=AC then tb B H1 Q else Q (.bl AB) H1
def yg0(ta tb:TE):TE:=λB H Q=>ta B H λx H1=>∃c,x=.bl c/\if c=AC then Q (.bl AC) H1 else tb B H1 Q
def yel(ta:TE):TE:=λB H Q=>ta B H λx H1=>∃c,x=.bl c/\Q (.bl (!c)) H1
def zod{op}{t:TE}(h:PE X a t):PE X (.BoolOp op [a] pos) t:=λC s B H Q I hw=>BoolOp_one (h C s B H Q I hw)
def zpx(ha:PE X a ta)(hb:PE X (.BoolOp .And (b::rest) pos) tb):PE X (.BoolOp .And (a::b::rest) pos) (yeo ta tb):=by
 intro C s B H Q I h;refine BoolOp_and (thn (ha C s B H _ I h) λv s1 kq=>?_);let#[x,H1,I1,r1,q1]:=kq;let#[c,rfl,q1]:=q1
 cases r1
 refine Bj ?_
 cases c with
 |true=>exact hb C s1 B H1 Q I1 q1
 |false=>exact#[.bl AB,H1,I1,rfl,q1]
def zqK(ha:PE X a ta)(hb:PE X (.BoolOp .Or (b::rest) pos) tb):PE X (.BoolOp .Or (a::b::rest) pos) (yg0 ta tb):=by
 intro C s B H Q I h;refine BoolOp_or (thn (ha C s B H _ I h) λv s1 kq=>?_);let#[x,H1,I1,r1,q1]:=kq;let#[c,rfl,q1]:=q1
 cases r1
 refine Bj ?_
 cases c with
 |false=>exact hb C s1 B H1 Q I1 q1
 |true=>exact#[.bl AC,H1,I1,rfl,q1]
def znP(ha:PE X a ta):PE X (.UnaryOp .Not a pos) (yel ta):=by
 intro C s B H Q I h;refine UnaryOp_ (thn (ha C s B H _ I h) λv s1 kq=>?_);let#[x,H1,I1,r1,q1]:=kq;let#[c,rfl,q1]:=q1
 cases r1
 exact not_of (Bj #[.bl (!c),H1,I1,rfl,q1])
def tIf(t:TT)(ta tb:TE):TE:=λB H Q=>t B H λc H1=>if c=AC then ta B H1 Q else tb B H1 Q
def zk5{c:AV}(hc:PT X c tA)(ha:PE X a ta)(hb:PE X b tb):PE X (.IfExp c a b pos) (tIf tA ta tb):=by
 intro C s B H Q I h;refine wpAny_IfExp (thn (hc C s B H _ I h) λd s1 kq=>?_);let#[H1,I1,q1]:=kq
 cases d with
 |true=>exact ha C s1 B H1 Q I1 q1
 |false=>exact hb C s1 B H1 Q I1 q1
end
def SqL(K:AE)(H:Hp)(a:AI)(xs:List V):Prop:=
 Rd H a (.lst xs) \/
  ∃(o:CP) (its:Array AG) (n:Nat),K.lookup a=AA o/\o.cls=.type "list"/\o.dict=AD/\o.data=.seq its n/\its.size<=sizeLine/\Vals xs its.toList
def SqT(K:AE)(H:Hp)(a:AI)(xs:List V):Prop:=
 Rd H a (.tup xs) \/
  ∃(o:CP) (its:Array AG) (n:Nat),K.lookup a=AA o/\o.cls=.type "tuple"/\o.data=.seq its n/\its.size<=sizeLine/\Vals xs its.toList
def yfQ:AG->Option V
 |.none=>AA .non
 |.bool b=>AA (.bl b)
 |.int i _=>AA (.int i)
 |.str x _=>AA (.str x)
 |.bytes b _=>AA (.byt b)
 |.float b _=>AA (.flt b)
 |.ref a=>AA (.ref a)
 |.type n=>AA (.ty n)
 |_=>AD
theorem RelV.abs{x:V}{u:AG}(r:RelV x u):yfQ u=AA x:=by
 cases x with
 |non=>cases r;rfl
 |bl _=>cases r;rfl
 |int _=>let#[t,rfl]:=r;rfl
 |str _=>let#[t,rfl]:=r;rfl
 |byt _=>let#[t,rfl]:=r;rfl
 |flt _=>let#[t,rfl]:=r;rfl
 |ref _=>cases r;rfl
 |ty _=>cases r;rfl
theorem RelV.inj{x y:V}{u:AG}(r:RelV x u)(q:RelV y u):x=y:=A1 (r.abs.symm.trans q.abs)
theorem Vals.inj:∀{xs ys:List V} {us:List AG},Vals xs us->Vals ys us->xs=ys
 |_,_,_,.nil,.nil=>rfl
 |_,_,_,.cons r t,.cons r' t'=>by rw[r.inj r',Vals.inj t t']
section
variable {X:Cx}{B:List (AI×CP)}{A:St}{H:Hp}{s:AJ}{a:AI}{xs ys:List V}
theorem SqL.of{K:AE}(h:H a=AA (.lst xs)):SqL K H a xs:=.inl (.inl h)
theorem Inv.list(I:Inv X B A H s)(h:SqL X.K H a xs):∃its:List AG,Vals xs its/\PlainL s.heap a its.toArray/\xs.length<=sizeLine:=by
 rcases h with h|⟨o,its,n,hk,hc,hd,hs,hz,r⟩
 .let#[z,its,n,r,e]:=h.ok I.hok;exact#[its,r,#[_,n,e,rfl,rfl,rfl],z]
 .refine#[its.toList,r,#[o,n,I.kIn a o hk,hc,hd,by simpa using hs],?_];have e:=r.length;erw[CQ]at e;lia
theorem Inv.tuple(I:Inv X B A H s)(h:SqT X.K H a xs):∃its:List AG,Vals xs its/\Hh s.heap a its.toArray/\xs.length<=sizeLine:=by
 rcases h with h|⟨o,its,n,hk,hc,hs,hz,r⟩
 .let#[z,its,r,p]:=h.ok I.hok;exact#[its,r,p,z]
 .refine#[its.toList,r,#[o,I.kIn a o hk,hc,n,by simpa using hs],?_];have e:=r.length;erw[CQ]at e;lia
theorem Inv.list_inj(I:Inv X B A H s)(h:SqL X.K H a xs)(h':SqL X.K H a ys):xs=ys:=by
 let#[its,r,#[o,n,e,_,_,d],_]:=I.list h;let#[its',r',#[o',n',e',_,_,d'],_]:=I.list h';rw[e]at e';cases e';rw[d]at d';injection d' with d1 _;have:its=its':=by simpa using congrArg HV d1
 subst this;exact r.inj r'
theorem Inv.tuple_inj(I:Inv X B A H s)(h:SqT X.K H a xs)(h':SqT X.K H a ys):xs=ys:=by
 let#[its,r,#[o,e,_,n,d],_]:=I.tuple h;let#[its',r',#[o',e',_,n',d'],_]:=I.tuple h';rw[e]at e';cases e';rw[d]at d';injection d' with d1 _;have:its=its':=by simpa using congrArg HV d1
 subst this;exact r.inj r'
end
section
variable {X:Cx}{B:List (AI×CP)}{A:St}{H:Hp}{s:AJ}{E:AG->AJ->Prop}
end
section
variable {X:Cx}{st:CH}{rest:List CH}{t u:TS}{e:AV}{te:TE}{pos:C6}
def yeg:TS:=λD A H=>D.nx A H
def ygf(t u:TS):TS:=λD A H=>t {D with nx:=u D} A H
def zrt:PSs X [] yeg:=λ_ _ A H _ I h=>Ds #[A,H,I,h]
def zgG(h1:PS X st t)(h2:PSs X rest u):PSs X (st::rest) (ygf t u):=by
 intro B s A H D I h;refine GV (thn (h1 B s A H {D with nx:=u D} I h) λf s1 q=>?_)
 cases f with
 |next=>
  let#[A',H',I',q]:=q;exact h2 B s1 A' H' D I' q
 |ret v=>exact q
 |brk=>exact q
 |cont=>exact q
def zm4(h1:PS X st t):PSs X [st] t:=by
 intro B s A H D I h;refine GV (thn (h1 B s A H D I h) λf s1 q=>?_)
 cases f with
 |next=>exact Ds q
 |ret v=>exact q
 |brk=>exact q
 |cont=>exact q
theorem Inv.quiet{B:List (AI×CP)}{A:St}{H:Hp}{s:AJ}(I:Inv X B A H s):interactive X.env=false:=by simp[interactive,I.ok.kind]
def yeX(te:TE):TS:=λD A H=>te A H λ_ H1=>D.nx A H1
def znb(he:PE X e te)(hs:swapsWith e AD pos.line X.env=pure false:=by rfl):PS X (.Expr e pos) (yeX te):=by intro B s A H D I h;exact wpAny_Expr_any (thn (he B s A H _ I h) λv s1 #[x,H1,I1,r1,q1]=>#[A,H1,I1,q1]) I.quiet hs
def yg4(te:TE):TS:=λD A H=>te A H D.rt
def zlt(he:PE X e te):PS X (.Return (AA e) pos) (yg4 te):=by intro B s A H D I h;exact wpAny_Return_some (thn (he B s A H _ I h) λv s1 #[x,H1,I1,r1,q1]=>#[x,A,H1,I1,r1,q1])
def yeO:TS:=λD _ H=>D.rt .non H
def zru:PS X (.Return AD pos) yeO:=λ_ _ A H _ I h=>wpAny_Return_none #[.non,A,H,I,rfl,h]
def yf4(c:TT)(t u:TS):TS:=λD A H=>c A H λb H1=>if b=AC then t D A H1 else u D A H1
def zqs{c:AV}{a b:List CH}{tc:TT}(hc:PT X c tc)(ha:PSs X a t)(hb:PSs X b u):PS X (.If c a b pos) (yf4 tc t u):=by
 intro B s A H D I h;refine wpAny_If (thn (hc B s A H _ I h) λd s1 kq=>?_);let#[H1,I1,q1]:=kq
 cases d with
 |true=>exact ha B s1 A H1 D I1 q1
 |false=>exact hb B s1 A H1 D I1 q1
end
abbrev TG:=V->St->Hp->(St->Hp->Prop)->Prop
abbrev TGs:=List V->St->Hp->(St->Hp->Prop)->Prop
def PG(X:Cx)(target:AV)(t:TG):Prop:=
 ∀(C:List (AI×CP)) (s:AJ) (B:St) (H:Hp) (v:V) (u:AG) (Q:St->Hp->Prop),Inv X C B H s->RelV v u->t v B H Q ->
  A8 (model X.prog X.w) X.A (assign target X.env u) (λ_ s'=>∃B' H',Inv X C B' H' s'/\Q B' H') X.xe s
def PGs(X:Cx)(ts:List AV)(t:TGs):Prop:=
 ∀(C:List (AI×CP)) (s:AJ) (B:St) (H:Hp) (vs:List V) (us:List AG) (Q:St->Hp->Prop),Inv X C B H s->Vals vs us->t vs B H Q ->
  A8 (model X.prog X.w) X.A (assignInOrder ((assignEach ts X.env).map (·.2)) us) (λ_ s'=>∃B' H',Inv X C B' H' s'/\Q B' H') X.xe s
abbrev yff:=V->V->V->Hp->(Hp->Prop)->Prop
def yfD(X:Cx)(t:yff):Prop:=
 ∀(C:List (AI×CP)) (s:AJ) (B:St) (H:Hp) (o i v:V) (ov iv u:AG) (Q:Hp->Prop),Inv X C B H s->RelV o ov->RelV i iv->RelV v u->t o i v H Q ->
  A8 (model X.prog X.w) X.A (setItem ov iv u) (λ_ s'=>∃H',Inv X C B H' s'/\Q H') X.xe s
abbrev TIp:=V->V->Hp->VK->Prop
def PIp(X:Cx)(op:Dp)(t:TIp):Prop:=
 ∀(C:List (AI×CP)) (s:AJ) (B:St) (H:Hp) (x y:V) (v u:AG) (Q:VK),Inv X C B H s->RelV x v->RelV y u->t x y H Q ->
  A8 (model X.prog X.w) X.A (inplaceOp op v u) (EP X C B Q) X.xe s
section
variable {X:Cx}{pos:C6}
def ydH(i:Nat):TG:=λv B H Q=>Q (B.set i (AA v)) H
def zix{i:Nat}{x:AQ}(hN:X.N.Nodup)(hi:X.N[i]?=AA x)(hx:Loc X.env.scope x)(hf:X.fn x=AC \/ X.env.scope.names.lookup x=AA .local:=by first|exact .inl rfl|exact .inr rfl|assumption):PG X (.Name x pos) (ydH i):=by intro C s B H v u Q I r h;exact wpAny_assign_Name (zcj I hN hi hx r (λs' I'=>#[_,H,I',h]) hf)
def yhh:TGs:=λvs B H Q=>vs=[]/\Q B H
def yeV(t:TG)(u:TGs):TGs:=λvs B H Q=>∃v r,vs=v::r/\t v B H λB' H'=>u r B' H' Q
def zrv:PGs X [] yhh:=by
 intro C s B H vs us Q I r h;let#[e,h]:=h;subst e
 cases r
 exact Fx #[B,H,I,h]
def zla{e:AV}{es:List AV}{t:TG}{u:TGs}(h1:PG X e t)(h2:PGs X es u)
  (hs:(assignEach (e::es) X.env).map (·.2)=assign e X.env::(assignEach es X.env).map (·.2):=by rfl):PGs X (e::es) (yeV t u):=by
 intro C s B H vs us Q I r h;let#[v,vr,e1,h]:=h;subst e1
 cases r with
 |cons r rr=>
  rw[hs];refine EJ (thn (h1 C s B H _ _ _ I r h) λ_ s1 kq=>?_);let#[B1,H1,I1,q1]:=kq;exact h2 C s1 B1 H1 _ _ Q I1 rr q1
def ygN(K:AE)(n:Nat)(t:TGs):TG:=λv B H Q=>∃a xs,v=.ref a/\SqT K H a xs/\xs.length=n/\t xs B H Q
def zp4{es:List AV}{k:Nat}{t:TGs}{n:Nat}(hc:X.calm=AC)(h:PGs X es t)
  (hn:(assignEach es X.env).length=n:=by rfl) (hst:(assignEach es X.env).findIdx? (·.1)=none:=by rfl):PG X (.Tuple es k pos) (ygN X.K n t):=by
 intro C s B H v u Q I r hw;let#[a,xs,e1,hq,hl,hw]:=hw;subst e1
 cases r
 let#[its,rv,ht,hz]:=I.tuple hq;refine assign_Tuple_tuple (I.ok.hd hc) ht (by simp[hn,<-hl,rv.length]) hst λh' hx=>?_;have I1:Inv X C B H {s with heap:=h'}:=I.kept (t':=s.toks) λb o e=>hx b o (BG (A2 e)) e;exact h C _ B H xs _ Q I1 (by simpa using rv) hw
def yfK(to ti:TE)(t:yff):TG:=λv B H Q=>to B H λo H1=>ti B H1 λi H2=>t o i v H2 λH3=>Q B H3
def zlH{o i:AV}{to ti:TE}{t:yff}(ho:PE X o to)(hi:PE X i ti)(hs:yfD X t)
  (ha:∀v,assign (.Subscript o i pos) X.env v=(do
   let ov <-holding [v] (eval o X.env)
   let iv <-holding [v,ov] (eval i X.env)
   standAt pos
   holding [v,ov,iv] (setItem ov iv v)
   release [v,ov,iv] []):=by intro _;rfl):PG X (.Subscript o i pos) (yfK to ti t):=by intro C s B H v u Q I r h;rw[ha];refine AH (Dh (thn (ho C s B H _ I h) λov s1 kq=>?_));let#[x,H1,I1,r1,q1]:=kq;refine AH (Dh (thn (hi C s1 B H1 _ I1 q1) λiv s2 kq=>?_));let#[y,H2,I2,r2,q2]:=kq;refine AH (Ee (AH (Dh (thn (hs C s2 B H2 x y v ov iv u _ I2 r1 r2 r q2) λ_ s3 kq=>?_))));let#[H3,I3,q3]:=kq;exact wpAny_release #[B,H3,I3,q3]
def yfC(te:TE)(g:TG):TS:=λD B H=>te B H λx H1=>g x B H1 D.nx
def zlk{tg e:AV}{te:TE}{g:TG}(he:PE X e te)(hg:PG X tg g)(hs:swapsWithSole [tg] e pos.line X.env=pure false:=by rfl)(hw:swappedStores [tg] e X.env=pure none:=by rfl)
  (h1:(assignEach [tg] X.env).map (·.2)=[assign tg X.env]:=by rfl):PS X (.Assign [tg] e pos) (yfC te g):=by intro C s B H D I h;refine wpAny_Assign_stores (thn (he C s B H _ I h) λv s1 kq=>?_) hs hw;let#[x,H1,I1,r1,q1]:=kq;rw[h1];exact thn (hg C s1 B H1 x v _ I1 r1 q1) λ_ s2 q=>q
def zle{i:Nat}{x:AQ}{e:AV}{te:TE}{pos':C6}(hN:X.N.Nodup)(hi:X.N[i]?=AA x)(hx:Loc X.env.scope x)(he:PE X e te)(hs:swapsWith e (AA (.Name x pos')) pos.line X.env=pure false:=by rfl)(hf:X.fn x=AC \/ X.env.scope.names.lookup x=AA .local:=by first|exact .inl rfl|exact .inr rfl|assumption):
  PS X (.Assign [.Name x pos'] e pos) (yfC te (ydH i)):=by intro C s B H D I h;refine wpAny_Assign_Name (thn (he C s B H _ I h) λv s1 kq=>?_) hs;let#[y,H1,I1,r1,q1]:=kq;exact zcj I1 hN hi hx r1 (λs2 I2=>#[_,H1,I2,q1]) hf
def yfm(i j:Nat)(ta:TA):TS:=λD B H=>ta B H λvs H1=>∃v w,vs=[v,w]/\D.nx ((B.set i (AA v)).set j (AA w)) H1
def znL{i j:Nat}{x y:AQ}{a b:AV}{ta:TA}{px py pt:C6}{kt k2 pt2}(hc:X.calm=AC)(hN:X.N.Nodup)(hi:X.N[i]?=AA x)(hj:X.N[j]?=AA y)(hij:i≠j)
  (hx:X.env.scope.names.lookup x=AA .local) (hy:X.env.scope.names.lookup y=AA .local) (ha:PA X [a,b] ta)
  (hw:swappedStores [.Tuple [.Name x px,.Name y py] kt pt] (.Tuple [a,b] k2 pt2) X.env=pure (AA [x,y]))
  (hs:swapsWithSole [.Tuple [.Name x px,.Name y py] kt pt] (.Tuple [a,b] k2 pt2) pos.line X.env=pure false:=by rfl):
  PS X (.Assign [.Tuple [.Name x px,.Name y py] kt pt] (.Tuple [a,b] k2 pt2) pos) (yfm i j ta):=by
 intro C s B H D I h;rw[exec_Assign_arm];refine AH (Ee ?_);rw[hs];refine AH (AW ?_);rw[if_neg ⋯];refine AH (Tuple_ (thn (ha _ C s B H _ I h) λus s1 kq=>?_));let#[vs,H1,I1,r1,q1]:=kq;let#[v,w,e1,q1]:=q1;subst e1;obtain⟨u1,u2,rfl,rv,rw'⟩:∃u1 u2,us=[u1,u2]/\RelV v u1/\RelV w u2:=by
  cases r1 with
  |cons p q=>
   cases q with
   |cons p' q'=>
    cases q'
    exact#[_,_,rfl,p,p']
 refine Bs ?_ (by show 2<=sizeLine;decide);have I2:Inv X C B H1 {s1 with heap:=s1.heap.push {cls:=.type "tuple",data:=.seq [u1,u2].toArray} }:=I1.kept (t':=s1.toks) λb o e=>AR _ e;rw[hw];refine AH (AW ?_);show A8 (model X.prog X.w) X.A (do rule "assign.swapped-stores";let items <-unpackItems (.ref s1.heap.objs.size) 2 AD;assignInOrder [λv=>bindName X.env y v,λv=>bindName X.env x v] items.reverse;pure Flow.next) _ _ _;refine AH (Et (AH (unpackItems_tuple (items:=(List.toArray [u1,u2])) (I.ok.hd hc) (GW s1.heap _) λh' hx'=>?_)));have I3:=I2.kept (h':=h') (t':=s1.toks) λb o e=>hx' b o (BG (A2 e)) e;show A8 _ _ (assignInOrder [λv=>bindName X.env y v,λv=>bindName X.env x v] [u2,u1] >>= λ_=>pure Flow.next) _ _ _;refine AH (EJ (wpAny_bindName (zcj I3 hN hj (.inl hy) rw' (λs2 I4=>?_) (.inr hy))));refine EJ (wpAny_bindName (zcj I4 hN hi (.inl hx) rv (λs3 I5=>Fx (AW ?_)) (.inr hx)));rw[HJ _ _ (B0 hij)]at I5;exact#[_,H1,I5,q1]
def ygH(i:Nat)(te:TE)(ti:TIp):TS:=λD B H=>∃x,B[i]?=AA (AA x)/\te B H λy H1=>ti x y H1 λz H2=>D.nx (B.set i (AA z)) H2
def zoe{i:Nat}{x:AQ}{e:AV}{te:TE}{op:Dp}{ti:TIp}{pos':C6}(hN:X.N.Nodup)(hi:X.N[i]?=AA x)(hx:Loc X.env.scope x)(he:PE X e te)(ho:PIp X op ti)(hf:X.fn x=AC \/ X.env.scope.names.lookup x=AA .local:=by first|exact .inl rfl|exact .inr rfl|assumption):
  PS X (.AugAssign (.Name x pos') op e pos) (ygH i te ti):=by
 intro C s B H D I h;let#[v,e1,h]:=h;let#[m,hn,hl]:=I.loc;have vis:Vis X.env.scope x:=by rcases hx with k|k;exact .inl k;exact .inr (.inl k)
 let#[u,r,l]:=hl i x v hi e1 vis;refine wpAny_AugAssign_Name ?_;have go:A8 (model X.prog X.w) X.A (eval e X.env) (λw s₂=>A8 (model X.prog X.w) X.A (inplaceOp op u w) (λr s₃=>A8 (model X.prog X.w) X.A (storeName X.env x r) (λ_=>SP X C D .next) X.xe s₃) X.xe s₂) X.xe s:=by refine thn (he C s B H _ I h) λw s1 kq=>?_;let#[y,H1,I1,r1,q1]:=kq;refine thn (ho C s1 B H1 v y u w _ I1 r r1 q1) λz s2 kq=>?_;let#[zv,H2,I2,r2,q2]:=kq;exact zcj I2 hN hi hx r2 (λs3 I3=>#[_,H2,I3,q2]) hf
 rcases l with⟨hk,hm⟩|⟨hk,c,hc,hcell⟩
 .exact FO I.ok.kind hk hn hm go
 .rcases hk with hk|hk
  .exact F3 I.ok.kind hk hc hcell go
  .rcases hx with k|k
   .have:X.env.scope.names.lookup x=AA .free:=hk;rw[k]at this;cases this
   .have:X.env.scope.names.lookup x=AA .free:=hk;rw[k]at this;cases this
def ipI(f:Int->Int->Int):TIp:=λx y H Q=>∃i j,x=.int i/\y=.int j/\Q (.int (f i j)) H
def zoO:PIp X .Add (ipI λi j=>i+j):=by intro C s B H x y v u Q I r1 r2 h;let#[i,j,e1,e2,q]:=h;subst e1;subst e2;let#[t,rfl]:=r1;let#[t',rfl]:=r2;exact Gq #[.int _,H,I.tok _,#[_,rfl],q]
end
section
variable {X:Cx}{pos:C6}
def ydr(c:TT)(tb:TS):TS:=λD B H=>∃W:Nat->St->Hp->Prop,(∃m,W m B H)/\∀m B H,W m B H ->
 c B H λb H1=>if b=AC then ∃N:St->Hp->Prop,(∀B' H',N B' H'->∃m',m' < m/\W m' B' H')/\tb {D with nx:=N,ct:=N,bk:=D.nx} B H1 else D.nx B H1
def zj3{c:AV}{body:List CH}{tc:TT}{tb:TS}(hp:Ei (model X.prog X.w) X.A X.env X.xe)(hc:PT X c tc)(hb:PSs X body tb):PS X (.While c body [] pos) (ydr tc tb):=by
 intro C s B H D I h;let#[W,#[m0,w0],turn]:=h;refine wpAny_While (codeAny_whileLoop (λn s'=>∃B' H',Inv X C B' H' s'/\W n B' H') ?_ m0 #[B,H,I,w0])
 rintro n s1 ⟨B1,H1,I1,w1⟩
 refine C5 hp (thn (hc C s1 B1 H1 _ I1 (turn n B1 H1 w1)) λb s2 kq=>?_);let#[H2,I2,q2]:=kq
 cases b with
 |true=>
  let#[N,hN,q2]:=q2;rw[if_pos rfl];refine C5 hp (thn (hb C s2 B1 H2 _ I2 q2) λf s3 q3=>?_)
  cases f with
  |next=>
   let#[B3,H3,I3,n3]:=q3;let#[m',hm,w3]:=hN B3 H3 n3;exact#[m',hm,B3,H3,I3,w3]
  |cont=>
   let#[B3,H3,I3,n3]:=q3;let#[m',hm,w3]:=hN B3 H3 n3;exact#[m',hm,B3,H3,I3,w3]
  |brk=>exact q3
  |ret v=>exact q3
 |false=>
  rw[if_neg Aa];exact Ds #[B1,H2,I2,q2]
end
structure It where
 go:Nat->Hp->Prop
 yld:Nat->Hp->V->Hp->Prop
 stop:Nat->Hp->Prop
def ybC(X:Cx)(A:List (AI×CP))(H:Hp)(b:AI):Prop:=
 H b=AD/\b≠X.env.locals/\b∉X.fs/\(b∈X.ex \/ X.s₀.heap.objs.size<=b)/\(∀x c,X.env.cells.lookup x=AA c->c≠b)/\∀p∈X.pn++A,p.1≠b
theorem Inv.fpOk{X:Cx}{B:List (AI×CP)}{A:St}{H H':Hp}{s:AJ}{b:AI}(I:Inv X B A H s)(hb:s.heap.objs.size<=b)(hn:H' b=AD):ybC X B H' b:=by
 refine#[hn,Eu (A9 I.lt hb),I.nofs hb,.inr (BZ I.sz hb),λx c e z=>?_,λp hp z=>?_]
 .let#[v,q]:=I.cell x c e;exact absurd (A9 q.lt (by rw[z];exact hb)) (DD _)
 .exact absurd (A9 (A2 (I.pin p hp).1) (by rw[z];exact hb)) (DD _)
structure Turn(P:Af)(w:Au)(K:AE)(tg:AV)(J:It)(fp:List AI)(it:AI)(tn:Nat->BR->Prop):Prop where
 mem:it∈fp
 obj:∀i h,tn i h->∀b∈fp,∃o,h.get? b=AA o/\∀v,o.data ≠ .cell v
 keep:∀i h h',tn i h->(∀b∈fp,∀o,h.get? b=AA o->h'.get? b=AA o)->tn i h'
 item:∀(X:Cx),X.prog=P->X.w=w->X.K=K->X.calm=AC->∀(i:Nat) (C:List (AI×CP)) (s:AJ) (B:St) (H:Hp) (E:AG->AJ->Prop),Inv X C B H s->(∀b∈fp,ybC X C H b)->tn i s.heap->J.go i H ->
  A8 (model P w) X.A (pyNext (.ref it)) (λr s1=>∃u,r=AA u /\
   A8 (model P w) X.A (letOwnedTupleGo tg (.ref it) u) (λ_ s2=>∃x H',Inv X C B H' s2/\RelV x u/\J.yld i H x H'/\tn (i+1) s2.heap/\∀b∈fp,H' b=AD) E s1) E s
 done:∀(X:Cx),X.prog=P->X.w=w->X.K=K->X.calm=AC->∀(i:Nat) (C:List (AI×CP)) (s:AJ) (B:St) (H:Hp) (E:AG->AJ->Prop),Inv X C B H s->(∀b∈fp,ybC X C H b)->tn i s.heap->J.stop i H ->
  A8 (model P w) X.A (pyNext (.ref it)) (λr s1=>r=AD/\Inv X C B H s1) E s
 self:∀(A:BK) (i:Nat) (s:AJ) (Q:AG->AJ->Prop) (E:AG->AJ->Prop),tn i s.heap->Q (.ref it) s->A8 (model P w) A (pyIter (.ref it)) Q E s
abbrev TI:=St->Hp->(It->Hp->Prop)->Prop
def PIE(X:Cx)(B:List (AI×CP))(A:St)(tg:AV)(R:It->Hp->Prop)(itv:AG)(s2:AJ):Prop:=
 ∃(it:AI) (fp:List AI) (tn:Nat->BR->Prop) (J:It) (H':Hp),itv=.ref it/\Inv X B A H' s2/\Turn X.prog X.w X.K tg J fp it tn/\tn 0 s2.heap/\(∀b∈fp,ybC X B H' b)/\R J H'
def PI(X:Cx)(tg iter:AV)(wi:TI):Prop:=
 ∀(C:List (AI×CP)) (s:AJ) (B:St) (H:Hp) (R:It->Hp->Prop),Inv X C B H s->wi B H R ->
  A8 (model X.prog X.w) X.A (eval iter X.env) (λv s1=>A8 (model X.prog X.w) X.A (pyIter v) (PIE X C B tg R) X.xe s1) X.xe s
def zmC{M:Model}{A:BK}{E:AG->AJ->Prop}{s:AJ}{tg:AV}{it:AI}{u:AG}{o:CP}{n:String}{vs:Array AG}{Q:Unit->AJ->Prop}(ho:s.heap.get? it=AA o)(hc:o.cls=.type n)(hd:o.data=.fields vs)
  (hn:["enumerate","zip","dict_itemiterator","dict_reverseitemiterator","odict_iterator","itertools.zip_longest","itertools.pairwise"].contains n=AB) (hQ:Q Unit.unit s):A8 M A (letOwnedTupleGo tg (.ref it) u) Q E s:=by
 unfold letOwnedTupleGo
 cases tg<;>first
  |exact AW hQ
  | (cases u<;>first
    |exact AW hQ
    | (refine AH (wpAny_load ho ?_)
       rw[hc,hd];show A8 M A (if (["enumerate","zip","dict_itemiterator","dict_reverseitemiterator","odict_iterator","itertools.zip_longest","itertools.pairwise"].contains n&&vs[0]? == AA (rawInt _))=AC then _ else _) Q E s;rw[if_neg (by intro h;rw[hn,Bool.false_and]at h;cases h)];exact AW hQ))
def Itl(K:AE)(a:AI):It:=
 #[λi H=>∃xs x,SqL K H a xs/\xs[i]?=AA x,λi H x H'=>H'=H/\∀xs,SqL K H a xs->xs[i]?=AA x,λi H=>∃xs,SqL K H a xs/\xs.length<=i]
def Itt(K:AE)(a:AI):It:=
 #[λi H=>∃xs x,SqT K H a xs/\xs[i]?=AA x,λi H x H'=>H'=H/\∀xs,SqT K H a xs->xs[i]?=AA x,λi H=>∃xs,SqT K H a xs/\xs.length<=i]
def Itr(lo:Int)(n:Nat):It:=#[λi _=>i<n,λi H x H'=>H'=H/\x=.int (lo+i),λi _=>n<=i]
def zio{P:Af}{w:Au}{K:AE}{tg:AV}(a it:AI):Turn P w K tg (Itl K a) [it] it (λi h=>h.IsListIter it a i) where
 mem:=by simp
 obj:=λi h st b hb=>by
  have e:b=it:=by simpa using hb
  subst e;let#[o,e,c,d]:=st;exact#[o,e,λv z=>by rw[d]at z;cases z]
 keep:=λi h h' st k=>st.at λo e=>k it (by simp) o e
 item:=by intro X hP hw hK hc i B s A H E I hf st hg;subst hP hw hK;let#[xs,x,hq,hx]:=hg;let#[its,rv,p,hz]:=I.list hq;let#[u,hu,ru]:=rv.get hx;let#[f0,f1,f2,f3,f4,f5]:=hf it (by simp);refine wpAny_pyNext_list_item st p.isList (x:=u) (by simpa using hu) λh' st' sb=>?_;have I1:Inv X B A H {s with heap:=h'}:=I.turned (t':=s.toks) (λb o hb e=>(sb.2 b hb).trans e) f0 f1 f3 f4 f5;let#[o,e,c,d]:=id st';exact#[u,rfl,zmC (s:={s with heap:=h'}) e c d ⋯ #[x,H,I1,ru,#[rfl,λys hy=>by rw[I.list_inj hy hq];exact hx],st',λb hb=>(hf b hb).1]]
 done:=by intro X hP hw hK hc i B s A H E I hf st hg;subst hP hw hK;let#[xs,hq,hx]:=hg;let#[its,rv,p,hz]:=I.list hq;let#[f0,f1,f2,f3,f4,f5]:=hf it (by simp);have hl:=rv.length;exact wpAny_pyNext_list_end (I.ok.hd hc) st p.isList (by simp;lia) λh' eb=>#[rfl,I.turned (t':=s.toks) (λb o hb e=>eb b o hb e) f0 f1 f3 f4 f5]
 self:=λ_ _ _ _ _ st h=>wpAny_pyIter_listiter st h
def zhz{P:Af}{w:Au}{K:AE}{tg:AV}(a it:AI):Turn P w K tg (Itt K a) [it] it (λi h=>h.IsTupleIter it a i) where
 mem:=by simp
 obj:=λi h st b hb=>by
  have e:b=it:=by simpa using hb
  subst e;let#[o,e,c,d]:=st;exact#[o,e,λv z=>by rw[d]at z;cases z]
 keep:=λi h h' st k=>st.at λo e=>k it (by simp) o e
 item:=by intro X hP hw hK hc i B s A H E I hf st hg;subst hP hw hK;let#[xs,x,hq,hx]:=hg;let#[its,rv,p,hz]:=I.tuple hq;let#[u,hu,ru]:=rv.get hx;let#[f0,f1,f2,f3,f4,f5]:=hf it (by simp);refine wpAny_pyNext_tuple_item st (show s.heap.IsTuple a its.toArray from p) (x:=u) (by simpa using hu) λh' st' sb=>?_;have I1:Inv X B A H {s with heap:=h'}:=I.turned (t':=s.toks) (λb o hb e=>(sb.2 b hb).trans e) f0 f1 f3 f4 f5;let#[o,e,c,d]:=id st';exact#[u,rfl,zmC (s:={s with heap:=h'}) e c d ⋯ #[x,H,I1,ru,#[rfl,λys hy=>by rw[I.tuple_inj hy hq];exact hx],st',λb hb=>(hf b hb).1]]
 done:=by intro X hP hw hK hc i B s A H E I hf st hg;subst hP hw hK;let#[xs,hq,hx]:=hg;let#[its,rv,p,hz]:=I.tuple hq;let#[f0,f1,f2,f3,f4,f5]:=hf it (by simp);have hl:=rv.length;exact wpAny_pyNext_tuple_end (I.ok.hd hc) st (show s.heap.IsTuple a its.toArray from p) (by simp;lia) λh' eb=>#[rfl,I.turned (t':=s.toks) (λb o hb e=>eb b o hb e) f0 f1 f3 f4 f5]
 self:=λ_ _ _ _ _ st h=>wpAny_pyIter_tupleiter st h
def zhf{P:Af}{w:Au}{K:AE}{tg:AV}(it:AI)(lo:Int)(n:Nat):Turn P w K tg (Itr lo n) [it] it (λi h=>IsRangeIter h it (lo+(i:Nat)*1) ((n:Int)-(i:Nat)) 1) where
 mem:=by simp
 obj:=λi h st b hb=>by
  have e:b=it:=by simpa using hb
  subst e;exact#[_,st,λv z=>by
   have z':Data.fields _=Data.cell v:=z
   cases z']
 keep:=λi h h' st k=>k it (by simp) _ st
 item:=by intro X hP hw hK hc i B s A H E I hf st hg;subst hP hw hK;let#[f0,f1,f2,f3,f4,f5]:=hf it (by simp);have W:=Walks.range (prog:=X.prog) (w:=X.w) (I.ok.hd hc) it lo 1 n;refine W.item i s _ _ hg st λv h' tk hv st' kk=>?_;let#[t,rfl]:=hv;have I1:Inv X B A H {s with heap:=h',toks:=tk}:=I.turned (λb o hb e=>kk b o (by simpa using hb) e) f0 f1 f3 f4 f5;refine#[_,rfl,zmC (s:={s with heap:=h',toks:=tk}) (n:="range_iterator") st' rfl rfl ⋯ #[.int (lo+i),H,I1,#[t,?_],#[rfl,rfl],st',λb hb=>(hf b hb).1]];rw[CT]
 done:=by intro X hP hw hK hc i B s A H E I hf st hg;subst hP hw hK;let#[f0,f1,f2,f3,f4,f5]:=hf it (by simp);exact wpAny_pyNext_range_end (I.ok.hd hc) st (by have:n<=i:=hg;lia) λh' eb=>#[rfl,I.turned (t':=s.toks) (λb o hb e=>eb b o hb e) f0 f1 f3 f4 f5]
 self:=λ_ _ _ _ _ st h=>wpAny_pyIter_rangeiter st h
section
variable {X:Cx}{tg:AV}
def zkK{C:List (AI×CP)}{B:St}{H:Hp}{s:AJ}{R:It->Hp->Prop}{E:AG->AJ->Prop}{lo hi:Int}{t u v:Hv}{tk:Nat}(I:Inv X C B H s)(h1:-(2^62)<=lo)(h2:lo<2^62)(h3:-(2^62)<=hi)(h4:hi<2^62)
  (q:R (Itr lo (hi-lo).toNat) H):A8 (model X.prog X.w) X.A (pyIter (.ref s.heap.objs.size)) (PIE X C B tg R) E {s with heap:=s.heap.push {cls:=.type "range",data:=.fields (List.toArray [.int lo t,.int hi u,.int 1 v])},toks:=tk}:=by
 refine wpAny_pyIter_range (IsRange.new ..) (small_one h1 h2 h3 h4) ?_;have I1:Inv X C B H {s with heap:=s.heap.push {cls:=.type "range",data:=.fields (List.toArray [.int lo t,.int hi u,.int 1 v])},toks:=tk}:=I.kept λb o e=>AR _ e;refine#[(s.heap.push {cls:=.type "range",data:=.fields (List.toArray [.int lo t,.int hi u,.int 1 v])}).objs.size,[(s.heap.push {cls:=.type "range",data:=.fields (List.toArray [.int lo t,.int hi u,.int 1 v])}).objs.size],_,_,H,rfl,
  I1.kept (t':=tk) λb o e=>AR _ e,zhf _ lo (hi-lo).toNat,?_,λb hb=>?_,q]
 .have e1:lo+((0:Nat):Int)*1=lo:=by simp
  have e2:(((hi-lo).toNat:Nat):Int)-((0:Nat):Int)=HR lo hi 1:=by rw[rangeSize_one];split<;>lia
  show IsRangeIter _ _ (lo+((0:Nat):Int)*1) ((((hi-lo).toNat:Nat):Int)-((0:Nat):Int)) 1;rw[e1,e2];exact Ac _ rfl
 .have e:b=(s.heap.push {cls:=.type "range",data:=.fields (List.toArray [.int lo t,.int hi u,.int 1 v])}).objs.size:=by simpa using hb
  subst e;exact I1.fpOk (AT _) (I1.hok.fresh (AT _))
def yeH(ta:TA):TI:=λB H R=>ta B H λvs H1=>∃j:Int,vs=[.int j]/\-(2^62)<=j/\j<2^62/\R (Itr 0 j.toNat) H1
def zhS{a:AV}{ta:TA}{p pos:C6}(hg:Gl X "range")(hm:X.mg "range"=AD)(ha:PA X [a] ta)(hs:starEach [a] X.env=[(AB,eval a X.env)]:=by rfl):PI X tg (.Call (.Name "range" p) [a] [] pos) (yeH ta):=by
 intro C s B H R I h;refine Call_ (zeg I hg hm boot_range (CS (thn (ha pos C s B H _ I h) λus s1 kq=>?_) hs rfl));let#[vs,H1,I1,r1,q1]:=kq;let#[j,e,q1,q2,q]:=q1;subst e
 cases r1 with
 |cons r rr=>
  cases rr
  let#[t,rfl]:=r;exact call_range_1 (zkK I1 () () q1 q2 (by simpa using q))
def yhf(wi:TI)(g:TG)(tb:TS):TS:=λD B H=>wi B H λJ H1=>∃W:Nat->Nat->St->Hp->Prop,(∃m,W 0 m B H1)/\∀i m B H,W i m B H ->
 (J.stop i H/\D.nx B H) \/ (J.go i H/\∃N:St->Hp->Prop,(∀B' H',N B' H'->∃m',m' < m/\W (i+1) m' B' H')/\∀x H',J.yld i H x H'->g x B H' λB2 H2=>tb {D with nx:=N,ct:=N,bk:=D.nx} B2 H2)
def yby(fp:List AI)(h:BR):List (AI×CP):=fp.filterMap λb=>(h.get? b).map λo=>(b,o)
def zby{fp:List AI}{h:BR}{b:AI}{o:CP}(hb:b∈fp)(e:h.get? b=AA o):(b,o)∈yby fp h:=EK.mpr #[b,hb,by rw[e];rfl]
def zhJ{fp:List AI}{h:BR}{p:AI×CP}(hp:p∈yby fp h):p.1∈fp/\h.get? p.1=AA p.2:=by
 let#[b,hb,e]:=EK.mp hp
 cases q:h.get? b with
 |none=>rw[q]at e;cases e
 |some o=>
  rw[q]at e;have e':(b,o)=p:=A1 e;subst e';exact#[hb,q]
theorem Inv.pinned{C:List (AI×CP)}{B:St}{H:Hp}{s:AJ}{fp:List AI}(I:Inv X C B H s)(hf:∀b∈fp,ybC X C H b)(ho:∀b∈fp,∃o,s.heap.get? b=AA o/\∀v,o.data ≠ .cell v):Inv X (C++yby fp s.heap) B H s:=
 I.pins_of λp hp=>(BE.mp hp).elim (λz=>I.pin p (BV _ z)) λz=>by let#[hb,e]:=zhJ z;let#[f0,f1,f2,_]:=hf p.1 hb;let#[o,e',d]:=ho p.1 hb;rw[e]at e';cases e';exact#[e,f0,f1,f2,d]
theorem Inv.unpinned{C pl:List (AI×CP)}{B:St}{H:Hp}{s:AJ}(I:Inv X (C++pl) B H s):Inv X C B H s:=I.pins_of λp hp=>I.pin p (BV _ (Do _ hp))
def zps{iter:AV}{body:List CH}{wi:TI}{g:TG}{tb:TS}{pos:C6}(hp:Ei (model X.prog X.w) X.A X.env X.xe)(hc:X.calm=AC)(hi:PI X tg iter wi)(hg:PG X tg g)(hb:PSs X body tb)
  (hs:∀x,foldedSetIterable iter X.env x=pure x:=by intro _;rfl):PS X (.For tg iter body [] pos) (yhf wi g tb):=by
 intro C s B H D I h;refine wpAny_For (thn (hi C s B H _ I h) λv s1 h1=>thn h1 λitv s2 h2=>?_) hs;let#[it,fp,tn,J,H2,e,I2,T,st2,f2,W,#[m0,w0],turn]:=h2;subst e;have stat:∀{H':Hp},(∀b∈fp,H' b=AD)->∀b∈fp,ybC X C H' b:=λhn b hb=>#[hn b hb,(f2 b hb).2];refine codeAny_forLoop_any (λn s'=>∃i B' H',Inv X C B' H' s'/\tn i s'.heap/\(∀b∈fp,H' b=AD)/\W i n B' H') ?_ m0 #[0,B,H2,I2,st2,λb hb=>(f2 b hb).1,w0]
 rintro n s3 ⟨i,B3,H3,I3,st3,fr3,w3⟩
 rcases turn i n B3 H3 w3 with⟨stop,qn⟩|⟨go,N,hN,step⟩
 .refine C5 hp (thn (T.done X rfl rfl rfl hc i C s3 B3 H3 X.xe I3 (stat fr3) st3 stop) λr s4 kq=>?_);let#[hr,I4]:=kq;subst hr;exact Ds #[B3,H3,I4,qn]
 .refine C5 hp (thn (T.item X rfl rfl rfl hc i C s3 B3 H3 X.xe I3 (stat fr3) st3 go) λr s4 kq=>?_);let#[u,hr,h4]:=kq;subst hr;refine C5 hp (thn h4 λ_ s5 kq=>?_);let#[x,H5,I5,r5,y5,st5,fr5]:=kq;have I5':=I5.pinned (stat fr5) (T.obj _ _ st5);refine C5 hp (thn (hg _ s5 B3 H5 x u _ I5' r5 (step x H5 y5)) λ_ s6 kq=>?_);let#[B6,H6,I6,q6]:=kq;refine C5 hp (thn (hb _ s6 B6 H6 _ I6 q6) λf s7 q7=>?_);have again:∀{B7:St} {H7:Hp},Inv X (C++yby fp s5.heap) B7 H7 s7->N B7 H7->∃m,m<n/\∃i B' H',Inv X C B' H' s7/\tn i s7.heap/\(∀b∈fp,H' b=AD)/\W i m B' H':=λ{B7 H7} I7 n7=>by let#[m',hm,w7]:=hN B7 H7 n7;refine#[m',hm,i+1,B7,H7,I7.unpinned,T.keep _ _ _ st5 λb hb o e=>(I7.pin (b,o) (BV _ (BV _ (zby hb e)))).1,λb hb=>?_,w7];let#[o,e,d]:=T.obj _ _ st5 b hb;exact(I7.pin (b,o) (BV _ (BV _ (zby hb e)))).2.1
  cases f with
  |next=>let#[B7,H7,I7,n7]:=q7;exact again I7 n7
  |cont=>let#[B7,H7,I7,n7]:=q7;exact again I7 n7
  |brk=>let#[B7,H7,I7,q7]:=q7;exact#[B7,H7,I7.unpinned,q7]
  |ret v=>let#[x7,B7,H7,I7,r7,q7]:=q7;exact#[x7,B7,H7,I7.unpinned,r7,q7]
end
abbrev R2:=V->V->Hp->VK->Prop
def OpR(X:Cx)(f:AG->AG->HQ AG)(r:R2):Prop:=
 ∀(C:List (AI×CP)) (s:AJ) (B:St) (H:Hp) (x y:V) (v u:AG) (Q:VK),Inv X C B H s->RelV x v->RelV y u->r x y H Q ->
  A8 (model X.prog X.w) X.A (f v u) (EP X C B Q) X.xe s
def UnR(X:Cx)(f:AG->HQ AG)(r:V->Hp->VK->Prop):Prop:=
 ∀(C:List (AI×CP)) (s:AJ) (B:St) (H:Hp) (x:V) (v:AG) (Q:VK),Inv X C B H s->RelV x v->r x H Q ->
  A8 (model X.prog X.w) X.A (f v) (EP X C B Q) X.xe s
def yat(X:Cx)(f:AG)(r:List V->Hp->VK->Prop):Prop:=
 ∀(C:List (AI×CP)) (s:AJ) (B:St) (H:Hp) (xs:List V) (us:List AG) (Q:VK),Inv X C B H s->Vals xs us->r xs H Q ->
  A8 (model X.prog X.w) X.A (call f us) (EP X C B Q) X.xe s
def ygu(X:Cx)(r:V->Hp->(Bool->Hp->Prop)->Prop):Prop:=
 ∀(C:List (AI×CP)) (s:AJ) (B:St) (H:Hp) (x:V) (v:AG) (Q:Bool->Hp->Prop),Inv X C B H s->RelV x v->r x H Q ->
  A8 (model X.prog X.w) X.A (truthy v) (TP X C B Q) X.xe s
def tOp(r:R2)(ta tb:TE):TE:=λA H Q=>ta A H λx H1=>tb A H1 λy H2=>r x y H2 Q
def tUn(r:V->Hp->VK->Prop)(ta:TE):TE:=λA H Q=>ta A H λx H1=>r x H1 Q
def rI(C:Int->Int->Prop)(g:Int->Int->V):R2:=λx y H Q=>∃i j,x=.int i/\y=.int j/\C i j/\Q (g i j) H
def rI0(g:Int->Int->V):R2:=λx y H Q=>∃i j,x=.int i/\y=.int j/\Q (g i j) H
def rU(g:Int->V):V->Hp->VK->Prop:=λx H Q=>∃i,x=.int i/\Q (g i) H
section
variable {X:Cx}{a b c:AV}{ta tb tc:TE}{pos:C6}
def zra(ha:PE X a ta)(hb:PE X b tb){D:List (AI×CP)}{s:AJ}{B:St}{H:Hp}{R:V->V->Hp->Prop}(I:Inv X D B H s)
  (h:ta B H λx H1=>tb B H1 λy H2=>R x y H2) {Q:AG->AJ->Prop} {f:AG->AG->HQ AG}
  (hf:∀v u s2 x y H2,Inv X D B H2 s2->RelV x v->RelV y u->R x y H2->A8 (model X.prog X.w) X.A (f v u) Q X.xe s2):
  A8 (model X.prog X.w) X.A (eval a X.env) (λv s₁=>A8 (model X.prog X.w) X.A (eval b X.env) (λu s₂=>A8 (model X.prog X.w) X.A (f v u) Q X.xe s₂) X.xe s₁) X.xe s:=by refine thn (ha D s B H _ I h) λv s1 kq=>?_;let#[x,H1,I1,r1,q1]:=kq;refine thn (hb D s1 B H1 _ I1 q1) λu s2 kq=>?_;let#[y,H2,I2,r2,q2]:=kq;exact hf v u s2 x y H2 I2 r1 r2 q2
def zqH{op:Dp}{r:R2}(ho:OpR X (binaryOp op) r)(ha:PE X a ta)(hb:PE X b tb):PE X (.BinOp a op b pos) (tOp r ta tb):=by intro D s B H Q I h;exact wpAny_BinOp (zra ha hb I h λv u s2 x y H2 I2 rx ry q=>ho D s2 B H2 x y v u Q I2 rx ry q)
def zqv{op:UnaryOp}{r:V->Hp->VK->Prop}(ho:UnR X (unaryOp op) r)(ha:PE X a ta):PE X (.UnaryOp op a pos) (tUn r ta):=by intro D s B H Q I h;exact UnaryOp_ (thn (ha D s B H _ I h) λv s1 #[x,H1,I1,r1,q1]=>ho D s1 B H1 x v Q I1 r1 q1)
theorem opI{f:AG->AG->HQ AG}{C:Int->Int->Prop}{g:Int->Int->Int}
  (rule:∀(i j:Int) (t u:Hv) (s:AJ) (Q:AG->AJ->Prop) (E:AG->AJ->Prop),C i j->Q (.int (g i j) s.toks) {s with toks:=s.toks+1}->A8 (model X.prog X.w) X.A (f (.int i t) (.int j u)) Q E s):
  OpR X f (rI C λi j=>.int (g i j)):=by intro D s B H x y v u Q I rx ry h;let#[i,j,rfl,rfl,hc,q]:=h;let#[t,rfl]:=rx;let#[t',rfl]:=ry;exact rule i j t t' s _ _ hc #[.int (g i j),H,I.tok _,#[_,rfl],q]
def zq1{f:AG->AG->HQ AG}{g:Int->Int->Int}
  (rule:∀(i j:Int) (t u:Hv) (s:AJ) (Q:AG->AJ->Prop) (E:AG->AJ->Prop),Q (.int (g i j) s.toks) {s with toks:=s.toks+1}->A8 (model X.prog X.w) X.A (f (.int i t) (.int j u)) Q E s):
  OpR X f (rI0 λi j=>.int (g i j)):=by intro D s B H x y v u Q I rx ry h;let#[i,j,rfl,rfl,q]:=h;let#[t,rfl]:=rx;let#[t',rfl]:=ry;exact rule i j t t' s _ _ #[.int (g i j),H,I.tok _,#[_,rfl],q]
def zq6{f:AG->AG->HQ AG}{g:Int->Int->Bool}
  (rule:∀(i j:Int) (t u:Hv) (s:AJ) (Q:AG->AJ->Prop) (E:AG->AJ->Prop),Q (.bool (g i j)) s->A8 (model X.prog X.w) X.A (f (.int i t) (.int j u)) Q E s):
  OpR X f (rI0 λi j=>.bl (g i j)):=by intro D s B H x y v u Q I rx ry h;let#[i,j,rfl,rfl,q]:=h;let#[t,rfl]:=rx;let#[t',rfl]:=ry;exact rule i j t t' s _ _ #[.bl (g i j),H,I,rfl,q]
def yd5(i j:Int):Prop:=0<=j/\j<=1000000/\i.natAbs<2^64
def ydI(i j:Int):Prop:=(-(2^64)<i/\i<2^64) \/ (-(2^64)<j/\j<2^64)
theorem ydI.ok{i j:Int}(h:ydI i j):IntMulOk i j:=by
 rcases h with⟨h1,h2⟩|⟨h1,h2⟩
 .exact .of_left (intBits_le_64 h1 h2)
 .exact .of_right (intBits_le_64 h1 h2)
def zhj(k:Nat):(0:Int)<=2^k:=by rw[two_pow_cast];exact Int.natCast_nonneg _
def zoa:OpR X (binaryOp .Add) (rI0 λi j=>.int (i+j)):=zq1 λ_ _ _ _ _ _ _ q=>add_int q
def zn7:OpR X (binaryOp .Sub) (rI0 λi j=>.int (i-j)):=zq1 λ_ _ _ _ _ _ _ q=>sub_int q
def zpB:OpR X (binaryOp .Mult) (rI ydI λi j=>.int (i*j)):=opI λ_ _ _ _ _ _ _ hc q=>mul_int q hc.ok
def zpy:OpR X (binaryOp .Mod) (rI (λ_ j=>0<j) λi j=>.int (i%j)):=opI λi j _ _ _ _ _ hc q=>by have h1:(0:Int)<j:=hc;exact mod_int' () (by rw[Int.fmod_eq_emod_of_nonneg i ()];exact q)
def znV:OpR X (binaryOp .Pow) (rI yd5 λi j=>.int (i^j.toNat)):=opI λ_ _ _ _ _ _ _ hc q=>pow_int_small hc.1 hc.2.1 hc.2.2 q
def zpz:OpR X (binaryOp .LShift) (rI yd5 λi j=>.int (i*2^j.toNat)):=opI λ_ _ _ _ _ _ _ hc q=>lshift_int_small hc.1 hc.2.1 hc.2.2 q
def zoW:OpR X (binaryOp .RShift) (rI (λ_ j=>0<=j) λi j=>.int (i/2^j.toNat)):=opI λi j _ _ _ _ _ hc q=>
 rshift_int hc (by rw[EL i (zhj _)];exact q)
def zoq:OpR X (binaryOp .BitAnd) (rI0 λi j=>.int (BC i j)):=zq1 λ_ _ _ _ _ _ _ q=>and_int q
def zp7:OpR X (binaryOp .BitOr) (rI0 λi j=>.int (BB i j)):=zq1 λ_ _ _ _ _ _ _ q=>or_int q
def zpR:OpR X (binaryOp .BitXor) (rI0 λi j=>.int (BO i j)):=zq1 λ_ _ _ _ _ _ _ q=>xor_int q
theorem unI{f:AG->HQ AG}{g:Int->Int}
  (rule:∀(i:Int) (t:Hv) (s:AJ) (Q:AG->AJ->Prop) (E:AG->AJ->Prop),Q (.int (g i) s.toks) {s with toks:=s.toks+1}->A8 (model X.prog X.w) X.A (f (.int i t)) Q E s):
  UnR X f (rU λi=>.int (g i)):=by intro D s B H x v Q I rx h;let#[i,rfl,q]:=h;let#[t,rfl]:=rx;exact rule i t s _ _ #[.int (g i),H,I.tok _,#[_,rfl],q]
def zo8:UnR X (unaryOp .USub) (rU λi=>.int (-i)):=unI λ_ _ _ _ _ q=>neg_int q
def zi6:OpR X (binaryOp .Add) (λx y H Q=>∃i k,x=.int i/\y=.bl k/\Q (.int (i+b2i k)) H):=by
 intro D s B H x y v u Q I rx ry h;let#[i,k,rfl,rfl,q]:=h;let#[t,rfl]:=rx
 cases ry
 exact add_int_bool #[.int (i+b2i k),H,I.tok _,#[_,rfl],q]
end
section
variable {X:Cx}{a b c:AV}{ta tb tc:TE}{pos:C6}
def zi0{B:List (AI×CP)}{A:St}{H:Hp}{s:AJ}{Q:VK}{k k':Bool}(I:Inv X B A H s)(q:Q (.bl k) H)(e:k=k'):EP X B A Q (.bool k') s:=by subst e;exact#[.bl k,H,I,rfl,q]
def zqJ:OpR X (compareOp .Lt) (rI0 λi j=>.bl (decide (i<j))):=zq6 λ_ _ _ _ _ _ _ q=>lt_int q
def zql:OpR X (compareOp .LtE) (rI0 λi j=>.bl (decide (i<=j))):=zq6 λ_ _ _ _ _ _ _ q=>le_int q
def zqA:OpR X (compareOp .Gt) (rI0 λi j=>.bl (decide (j<i))):=zq6 λ_ _ _ _ _ _ _ q=>gt_int q
def zp9:OpR X (compareOp .GtE) (rI0 λi j=>.bl (decide (j<=i))):=zq6 λ_ _ _ _ _ _ _ q=>ge_int q
def zjN:OpR X (compareOp .Lt) (λx y H Q=>∃i j,x=.str i/\y=.str j/\Q (.bl (decide (i.cps.toList<j.cps.toList))) H):=by intro B s A H x y v u Q I rx ry h;let#[i,j,rfl,rfl,q]:=h;let#[t,rfl]:=rx;let#[t',rfl]:=ry;exact lt_str (zi0 I q rfl)
def zjh:OpR X (compareOp .In) (λx y H Q=>∃i j,x=.str i/\y=.str j/\Q (.bl (!(Ej j i 0 j.length 1).isEmpty)) H):=by intro B s A H x y v u Q I rx ry h;let#[i,j,rfl,rfl,q]:=h;let#[t,rfl]:=rx;let#[t',rfl]:=ry;exact in_str (zi0 I q rfl)
def zim{op:Fa}{r:R2}(ho:OpR X (compareOp op) r)(ha:PE X a ta)(hb:PE X b tb)(hm:behindInMarks op b=AB):PE X (.Compare a [op] [b] pos) (tOp r ta tb):=by intro B s A H Q I h;exact wpAny_Compare1 (zra ha hb I h λv u s2 x y H2 I2 rx ry q=>ho B s2 A H2 x y v u Q I2 rx ry q) hm
def ydT(t:TE):TT:=λA H Q=>t A H λx H'=>∃k,x=.bl k/\Q k H'
def zmK{op:Fa}{r:R2}(ho:OpR X (compareOp op) r)(ha:PE X a ta)(hb:PE X b tb)(hm:behindInMarks op b=AB):PT X (.Compare a [op] [b] pos) (ydT (tOp r ta tb)):=by
 intro B s A H Q I h;refine wpAny_isTrue_Compare1 (thn (ha B s A H _ I h) λv s1 #[x,H1,I1,r1,q1]=>thn (hb B s1 A H1 _ I1 q1) λu s2 #[y,H2,I2,r2,q2]=>
  thn (ho B s2 A H2 x y v u _ I2 r1 r2 q2) λc s3 #[z,H3,I3,r3,k,e,q3]=>?_) hm
 subst e
 cases r3
 exact Bj #[H3,I3,q3]
def ycK(r r':R2)(ta tb tc:TE):TE:=λA H Q=>ta A H λx H1=>tb A H1 λy H2=>r x y H2 λz H3=>∃k,z=.bl k /\
 (if k=AC then tc A H3 λw' H4=>r' y w' H4 Q else Q (.bl AB) H3)
def zkm{op op':Fa}{r r':R2}(ho:OpR X (compareOp op) r)(ho':OpR X (compareOp op') r')(ha:PE X a ta)(hb:PE X b tb)(hc:PE X c tc)
  (hm:lastMarks [op,op'] [b,c]=false:=by ac_rfl):PE X (.Compare a [op,op'] [b,c] pos) (ycK r r' ta tb tc):=by
 intro B s A H Q I h;refine Compare_chain (thn (ha B s A H _ I h) λv s1 #[x,H1,I1,r1,q1]=>chain_link (thn (hb B s1 A H1 _ I1 q1) λu s2 #[y,H2,I2,r2,q2]=>
  thn (ho B s2 A H2 x y v u _ I2 r1 r2 q2) λd s3 #[z,H3,I3,r3,k,e,q3]=>?_)) hm
 subst e
 cases r3
 refine Bj ?_
 cases k with
 |false=>exact ite_ff #[.bl AB,H3,I3,rfl,q3]
 |true=>exact ite_tt (chain_last (thn (hc B s3 A H3 _ I3 q3) λw' s4 #[z',H4,I4,r4,q4]=>ho' B s4 A H4 y z' u w' Q I4 r2 r4 q4))
def zkO{op op':Fa}{r r':R2}(ho:OpR X (compareOp op) r)(ho':OpR X (compareOp op') r')(ha:PE X a ta)(hb:PE X b tb)(hc:PE X c tc)
  (hm:lastMarks [op,op'] [b,c]=false:=by ac_rfl):PT X (.Compare a [op,op'] [b,c] pos) (ydT (ycK r r' ta tb tc)):=by
 intro B s A H Q I h;refine isTrue_chain (thn (ha B s A H _ I h) λv s1 #[x,H1,I1,r1,q1]=>test_link (thn (hb B s1 A H1 _ I1 q1) λu s2 #[y,H2,I2,r2,q2]=>
  thn (ho B s2 A H2 x y v u _ I2 r1 r2 q2) λd s3 #[z,H3,I3,r3,k,e,q3]=>?_)) hm
 subst e
 cases r3
 refine Bj ?_
 cases k with
 |false=>
  let#[k',e',q']:=q3
  cases e'
  exact ite_ff #[H3,I3,q']
 |true=>
  refine ite_tt (test_last (thn (hc B s3 A H3 _ I3 q3) λw' s4 kq=>?_));let#[z',H4,I4,r4,q4]:=kq;refine thn (ho' B s4 A H4 y z' u w' _ I4 r2 r4 q4) λd' s5 kq=>?_;let#[z2,H5,I5,r5,k2,e2,q5]:=kq;subst e2
  cases r5
  exact Bj #[H5,I5,q5]
def yew(K:AE)(x:V)(H:Hp)(k:Bool):Prop:=
 match x with
 |.non=>k=AB
 |.bl b=>k=b
 |.int i=>k=(i != 0)
 |.str y=>y.length<=sizeLine/\k=((y.length:Int) != 0)
 |.byt y=>y.size<=sizeLine/\k=((y.size:Int) != 0)
 |.ref p=>(∃xs,SqL K H p xs/\k=!xs.isEmpty) \/ (∃xs,SqT K H p xs/\k=!xs.isEmpty) \/ ∃kvs,H p=AA (.dK kvs)/\k=!kvs.isEmpty
 |_=>False
def zhE{L:Type}{kvs:List (L×V)}{vs:List (L×AG)}(r:KV kvs vs):(!vs.isEmpty)=!kvs.isEmpty:=by cases r<;>rfl
def zea{xs:List V}{its:List AG}(r:Vals xs its):(!its.toArray.isEmpty)=!xs.isEmpty:=by cases r<;>simp
def zqZ:(sizeLine:Nat)<2^63:=by rw[Dq];decide
def zpg:ygu X (λx H Q=>∃k,yew X.K x H k/\Q k H):=by
 intro B s A H x v Q I rx h;let#[k,e,q]:=h;have hl:=zqZ;have hs:sizeLine=16777216:=Dq
 cases x with
 |non=>
  cases rx
  have e':k=false:=e;subst e';exact truthy_none #[H,I,q]
 |bl b=>
  cases rx
  have e':k=b:=e;subst e';exact Bj #[H,I,q]
 |int i=>
  let#[t,rfl]:=rx;have e':k=(i != 0):=e;subst e';exact PySem.P.truthy_int #[H,I,q]
 |str y=>
  let#[t,rfl]:=rx;obtain⟨hy,e'⟩:y.length<=sizeLine/\k=((y.length:Int) != 0):=e;subst e';exact PySem.P.truthy_str () #[H,I.tok _,q]
 |byt y=>
  let#[t,rfl]:=rx;obtain⟨hy,e'⟩:y.size<=sizeLine/\k=((y.size:Int) != 0):=e;subst e';exact PySem.W.truthy_bytes () #[H,I.tok _,q]
 |ref p=>
  cases rx
  have e':(∃xs,SqL X.K H p xs/\k=!xs.isEmpty) \/ (∃xs,SqT X.K H p xs/\k=!xs.isEmpty) \/ ∃kvs,H p=AA (.dK kvs)/\k=!kvs.isEmpty:=e;rcases e' with⟨xs,hx,e'⟩|⟨xs,hx,e'⟩|⟨kvs,hx,e'⟩
  .subst e';let#[its,r,pl,hz]:=I.list hx;have hlen:=r.length;exact wpAny_truthy_list pl.isList (by erw[A7];lia) #[H,I.tok _,by rw[zea r];exact q]
  .subst e';let#[its,r,pl,hz]:=I.tuple hx;have hlen:=r.length;exact truthy_tuple pl (by erw[A7];lia) #[H,I.tok _,by rw[zea r];exact q]
  .subst e';obtain⟨hz,hS,vs,r,m⟩:kvs.length<=sizeLine/\(p==sysModules)=AB/\∃vs,KV kvs vs/\s.heap.DictOf (yab X.prog X.w) p vs:=I.hok p _ hx;have hlen:kvs.length=vs.length:=Ed r;exact wpAny_truthy_dict hS m () #[H,I.tok _,by rw[zhE r];exact q]
 |_=>exact(show False from e).elim
def zky(ha:PE X a ta)(he:∀whole,isTrue a X.env whole=(do let v <-whole;standAt a.pos;holding [v] (truthy v))):
  PT X a (λA H Q=>ta A H λx H'=>∃k,yew X.K x H' k/\Q k H'):=by intro B s A H Q I h;exact isTrue_plain (thn (ha B s A H _ I h) λv s1 #[x,H1,I1,r1,q1]=>zpg B s1 A H1 x v Q I1 r1 q1) (he _)
def zhv:OpR X (binaryOp .Add) (λx y H Q=>∃i j,x=.str i/\y=.str j/\i.length+j.length<=sizeLine/\Q (.str (i++j)) H):=by intro B s A H x y v u Q I rx ry h;let#[i,j,rfl,rfl,hz,q]:=h;let#[t,rfl]:=rx;let#[t',rfl]:=ry;exact add_str (λt' tk=>#[.str (i++j),H,I.tok _,#[_,rfl],q]) hz
theorem vals1{x:V}{us:List AG}(r:Vals [x] us):∃u,us=[u]/\RelV x u:=by
 cases r with
 |cons r1 r2=>cases r2;exact#[_,rfl,r1]
theorem vals2{x y:V}{us:List AG}(r:Vals [x,y] us):∃u w',us=[u,w']/\RelV x u/\RelV y w':=by
 cases r with
 |cons r1 r2=>
  cases r2 with
  |cons r3 r4=>cases r4;exact#[_,_,rfl,r1,r3]
def zje(hc:X.calm=AC):yat X (.builtin "max") (λxs H Q=>∃i j,xs=[.int i,.int j]/\Q (.int (if j > i then j else i)) H):=by
 intro B s A H xs us Q I r h;let#[i,j,rfl,q]:=h;let#[u,w',rfl,#[t,rfl],#[t',rfl]]:=vals2 r;refine max_two_ints (I.ok.hd hc) λh' tk k=>#[_,H,I.kept k,?_,q]
 by_cases hj:j > i
 .rw[if_pos hj,if_pos hj];exact#[_,rfl]
 .rw[if_neg hj,if_neg hj];exact#[_,rfl]
def zic(hc:X.calm=AC):yat X (.builtin "min") (λxs H Q=>∃i j,xs=[.int i,.int j]/\Q (.int (if j<i then j else i)) H):=by
 intro B s A H xs us Q I r h;let#[i,j,rfl,q]:=h;let#[u,w',rfl,#[t,rfl],#[t',rfl]]:=vals2 r;refine min_two_ints (I.ok.hd hc) λh' tk k=>#[_,H,I.kept k,?_,q]
 by_cases hj:j<i
 .rw[if_pos hj,if_pos hj];exact#[_,rfl]
 .rw[if_neg hj,if_neg hj];exact#[_,rfl]
def zfU:yat X (.type "int") (λxs H Q=>(∃i,xs=[.int i]/\Q (.int i) H) \/ ∃k,xs=[.bl k]/\Q (.int (if k then 1 else 0)) H):=by
 intro B s A H xs us Q I r h;rcases h with⟨i,rfl,q⟩|⟨k,rfl,q⟩
 .let#[u,rfl,t,rfl]:=vals1 r;exact call_int_int #[.int i,H,I,#[_,rfl],q]
 .let#[u,rfl,r1]:=vals1 r
  cases r1
  exact call_int_bool #[.int (if k then 1 else 0),H,I.tok _,#[_,rfl],q]
end
structure ydc(h:BR)(x dx C:AI)(mA:AQ->Option AG):Prop where
 obj:h.get? x=AA (CM C dx)
 ns:h.Ns1 dx mA
 ne:dx≠x
def zi7{h:BR}{dx:AI}{mA:AQ->Option AG}(n:h.Ns1 dx mA):∃od,h.get? dx=AA od/\∀name,EM name od=AA (mA name):=by
 let#[o,es,ep,ho,hd,hk,_,hm]:=n;refine#[o,ho,λname=>?_];have e:=hm name;unfold nsFind findBy at e;rw[<-Array.find?_toList]at e;unfold EM;rw[hd];dsimp only;split
 .rename_i y q;rw[q]at e;exact congrArg AA e
 .rename_i q;rw[q]at e;have a:es.toList.any (·.refKey)=false:=by rw[List.any_eq_false];intro y hy;let#[z,t,hkey]:=hk y (Array.mem_toList_iff.mp hy);simp[DictEntry.refKey,hkey]
  have a':¬es.toList.any (·.refKey)=true:=by rw[a];exact Aa
  rw[if_neg a'];exact congrArg AA e
theorem ydc.look{h:BR}{x dx C:AI}{mA:AQ->Option AG}(I:ydc h x dx C mA):∃od,PySem.W.InstAt h x (CM C dx) C (AA od)/\∀name,EM name od=AA (mA name):=
 let #[od,ho,hl]:=zi7 I.ns
 #[od,#[I.obj,rfl,rfl,ho],hl]
section
variable {prog:Af}{w:Au}{A:BK}{E:AG->AJ->Prop}{s:AJ}{K:AE}{x dx C f:AI}{mA:AQ->Option AG}{name:AQ}{v:AG}
def zmu{expr:Bool}{Q:AG->AJ->Prop}(X:K.In s.heap)(I:ydc s.heap x dx C mA)(hg:Cw K C name=AC)(hh:DP K C=AC)
  (ha:BP K (.ref C) name=AA AD) (hv:mA name=AA v) (hv':GX v=AC) (h:Q v {s with toks:=s.toks+1}):
  A8 (model prog w) A (getAttr (.ref x) name expr) Q E s:=by let#[od,J,hl]:=I.look;exact PySem.W.get_value X J (Dz hg).1 (PySem.W.findObj_own hh ha rfl (by rw[hl,hv])) hv' h
def zkt{pl:HQ Bool}{Q:AG×List AG->AJ->Prop}(X:K.In s.heap)(I:ydc s.heap x dx C mA)(hg:Cw K C name=AC)
  (hf:BP K (.ref C) name=AA (AA (.ref f))) (ht:Cy K (.ref f)=AC) (hv:mA name=AD) (h:Q (.ref f,[.ref x]) s):
  A8 (model prog w) A (getMethod (.ref x) name pl) Q E s:=by let#[od,J,hl]:=I.look;exact PySem.W.method_fn X J (Dz hg).1 (Dz hg).2 hf (beq_iff_eq.mp ht) (by show (EM name od).map (·.isSome)=AA AB;rw[hl,hv];rfl) h
def zl4{ns:List AQ}{Q:Unit->AJ->Prop}(X:K.In s.heap)(I:ydc s.heap x dx C mA)
  (hs:BP K (.ref C) "__setattr__"=AA (AA (.builtin "object.__setattr__"))) (hp:E6 K C=AC) (ht:FE K C name=AA AD) (hh:DP K C=AC)
  (hw:Fw mA ns) (hsz:ns.length<=sizeLine)
  (h:∀h',ydc h' x dx C (λy=>if y=name then AA v else mA y)->Cv dx s.heap h'->Q Unit.unit {s with heap:=h',toks:=s.toks+2}):
  A8 (model prog w) A (setAttr (.ref x) name v) Q E s:=by let#[od,J,hl]:=I.look;refine PySem.W.set_plain X J hs (PySem.W.osa_open (s:={s with toks:=s.toks+1}) (r:=AD) X J hp ht λb=>?_);let#[cd,hc,hd']:=PySem.W.any_some hh;have hx:s.heap.get? x=AA #[.ref C,AA dx,.plain,(List.toArray [])]:=I.obj;refine AH (AW (AH (AH (wpAny_loadPart hx (AH (Hn (s:={s with toks:=s.toks+1}) (PySem.W.looks_clsIn X hc) ?_))))));rw[hd'];refine AW (a:=AA dx) (AH (AW (AH ?_)));refine wpAny_nsSet1 (s:={s with toks:=s.toks+1}) I.ns λh' hn2 hs2=>?_;let#[oD,esD,epD,hoD,hdD,hcD]:=hn2.count (Ht name v hw);refine AH (wpAny_lookBehind hoD (by rw[hdD];exact pastItsLine_dict (BZ hcD (by rw[A4];lia))) ?_);exact AW (h _ #[(hs2.2 _ (B0 I.ne)).trans I.obj,hn2,I.ne] hs2)
def zka{R:Gx->AJ->Prop}{vs:List AG}{kw:List (AQ×AG)}(X:K.In s.heap)(hm:Dt K C=AC)
  (hi:BP K (.ref C) "__init__"=AA (AA (.ref f))) (hf:PySem.W.typeIn K (.ref f)=AA (.type "function"))
  (h:codeAny (model prog w) (A.under (.builtin "type.__call__" #[.ref C::vs,kw])) (.call (.ref f) #[.ref (s.heap.objs.size+1)::vs,kw]) (PySem.W.InitBack (s.heap.objs.size+1) R)
   {s with heap:=(s.heap.push Bk).push (CM C s.heap.objs.size)}):
  codeAny (model prog w) A (.call (.ref C) #[vs,kw]) R s:=by let#[hh,g,d,t,os]:=s;exact PySem.W.make_core (PySem.W.makes_of X hm) (PySem.W.looks_findIn X hi) (λself=>PySem.W.bind_fn X self hf) (.inl rfl) h
end
def ybc(f:AQ)(v:V):List (AQ×V)->List (AQ×V)
 |[]=>[(f,v)]
 |(g,x)::r=>if g=f then(g,v)::r else(g,x)::ybc f v r
def zdZ(f g:AQ)(v:V):∀fs:List (AQ×V),(ybc f v fs).lookup g=if g=f then AA v else fs.lookup g
 |[]=>by
  show CC g [(f,v)]=_
  by_cases h:g=f
  .have hb:(g==f)=true:=beq_iff_eq.mpr h;erw[CC,hb,if_pos h]
  .have hb:(g==f)=false:=beq_eq_false_iff_ne.mpr h;erw[CC,hb,if_neg h]
 |(k,x)::r=>by
  have ih:=zdZ f g v r;rw[show ybc f v ((k,x)::r)=(if k=f then(k,v)::r else(k,x)::ybc f v r)from rfl]
  by_cases hk:k=f
  .rw[if_pos hk]
   by_cases h:g=k
   .have hb:(g==k)=true:=beq_iff_eq.mpr h;erw[CC,hb,if_pos (h.trans hk)]
   .have hb:(g==k)=false:=beq_eq_false_iff_ne.mpr h;erw[CC,hb,if_neg (λe:g=f=>h (e.trans hk.symm))]
  .rw[if_neg hk]
   by_cases h:g=k
   .have hb:(g==k)=true:=beq_iff_eq.mpr h;erw[CC,hb,if_neg (λe:g=f=>hk (h.symm.trans e))]
   .have hb:(g==k)=false:=beq_eq_false_iff_ne.mpr h;erw[CC,hb];exact ih
def zdq(f:AQ)(v:V):∀fs:List (AQ×V),f∈(ybc f v fs).map (·.1)/\∀g,g∈fs.map (·.1)->g∈(ybc f v fs).map (·.1)
 |[]=>#[by simp[ybc],λg h=>by simp at h]
 |(k,x)::r=>by
  let#[i1,i2]:=zdq f v r;rw[show ybc f v ((k,x)::r)=(if k=f then(k,v)::r else(k,x)::ybc f v r)from rfl]
  by_cases hk:k=f
  .rw[if_pos hk];subst hk;exact#[by simp,λg h=>by simpa using h]
  .rw[if_neg hk];refine#[?_,λg h=>?_]
   .rw[AL];exact AS _ i1
   .rw[AL]at h ⊢;rcases AN.mp h with e|e
    .exact AN.mpr (.inl e)
    .exact AS _ (i2 g e)
def zdo(f:AQ)(v:V):∀fs:List (AQ×V),(ybc f v fs).length<=fs.length+1
 |[]=>by simp[ybc]
 |(k,x)::r=>by
  have ih:=zdo f v r;rw[show ybc f v ((k,x)::r)=(if k=f then(k,v)::r else(k,x)::ybc f v r)from rfl]
  by_cases hk:k=f
  .rw[if_pos hk,A4,A4];lia
  .rw[if_neg hk,A4,A4];lia
theorem ybF.some_of{v:V}{o:Option AG}(r:ybF (AA v) o):∃u,o=AA u/\RelV v u:=by
 cases o with
 |none=>exact(show False from r).elim
 |some u=>exact#[u,rfl,r]
theorem ybF.none_of{o:Option AG}(r:ybF AD o):o=none:=by
 cases o with
 |none=>rfl
 |some u=>exact(show False from r).elim
def zjj{v:V}{u:AG}(r:RelV v u):GX u=true:=by
 cases v with
 |non=>cases (show u=CZ from r);rfl
 |bl b=>cases (show u=EF b from r);rfl
 |int i=>let#[t,e]:=(show ∃t,u=Eh i t from r);cases e;rfl
 |str x=>let#[t,e]:=(show ∃t,u=GU x t from r);cases e;rfl
 |byt b=>let#[t,e]:=(show ∃t,u=Hf b t from r);cases e;rfl
 |flt b=>let#[t,e]:=(show ∃t,u=Hg b t from r);cases e;rfl
 |ref a=>cases (show u=Ar a from r);rfl
 |ty n=>cases (show u=Fi n from r);rfl
section
variable {P:Af}{w:Au}{H H':Hp}{h h':BR}{a C dx:AI}{fs fs':List (AQ×V)}
def zf1(hok:HOk P w H h)(e:H a=AA (.ins C dx fs)):∃mA,ydc h a dx C mA/\(∀f,ybF (fs.lookup f) (mA f))/\Fw mA (fs.map (·.1))/\fs.length<=1000/\H dx=AA (.own a):=by let#[d,z,ne,ob,mA,n,r,q]:=(show yal P w H h a (.ins C dx fs)from hok a _ e);exact#[mA,#[ob,n,ne],r,q,z,d]
end
structure Cls(K:AE)(C:AI):Prop where
 pg:Cw K C GY=AC
 hd:DP K C=AC
 po:E6 K C=AC
 sa:BP K (.ref C) "__setattr__"=AA (AA (.builtin "object.__setattr__"))
theorem Cls.get{K:AE}{C:AI}(c:Cls K C)(f:AQ):Cw K C f=true:=c.pg
def yaF(K:AE)(C:AI)(f:AQ):Prop:=BP K (.ref C) f=AA AD
theorem yaF.taker{K:AE}{C:AI}{f:AQ}(n:yaF K C f):FE K C f=AA none:=by unfold FE;rw[show BP K (.ref C) f=AA AD from n];rfl
structure Meth(K:AE)(C:AI)(m:AQ)(f:AI):Prop where
 at_:BP K (.ref C) m=AA (AA (.ref f))
 fn:Cy K (.ref f)=AC
 kp:BH K (.ref f)=AC
section
variable {X:Cx}{D:List (AI×CP)}{B:St}{H:Hp}{s:AJ}{a C dx:AI}{fs:List (AQ×V)}{f:AQ}{v:V}{A:BK}{E:AG->AJ->Prop}
def zem{b:Bool}{Q:AG->AJ->Prop}(I:Inv X D B H s)(e:H a=AA (.ins C dx fs))(c:Cls X.K C)(n:yaF X.K C f)(l:fs.lookup f=AA v)
  (h:∀u s',Inv X D B H s'->RelV v u->Q u s'):A8 (model X.prog X.w) A (getAttr (.ref a) f b) Q E s:=by let#[mA,O,r,_,_,_]:=zf1 I.hok e;let#[u,hu,ru]:=ybF.some_of (v:=v) (o:=mA f) (by rw[<-l];exact r f);exact zmu I.kIn O (c.get f) c.hd n hu (zjj ru) (h u _ (I.tok _) ru)
def zei{m:AQ}{g:AI}{pl:HQ Bool}{Q:AG×List AG->AJ->Prop}(I:Inv X D B H s)(e:H a=AA (.ins C dx fs))(c:Cls X.K C)(k:Meth X.K C m g)(l:fs.lookup m=AD)
  (h:Q (.ref g,[.ref a]) s):A8 (model X.prog X.w) A (getMethod (.ref a) m pl) Q E s:=by let#[mA,O,r,_,_,_]:=zf1 I.hok e;have hn:mA m=none:=ybF.none_of (by rw[<-l];exact r m);exact zkt I.kIn O (c.get m) k.at_ k.fn hn h
def zec{y:V}{u:AG}{Q:Unit->AJ->Prop}(I:Inv X D B H s)(e:H a=AA (.ins C dx fs))(c:Cls X.K C)(n:yaF X.K C f)(hl:fs.length<1000)(ry:RelV y u)
  (h:∀s',Inv X D B (upd H a (.ins C dx (ybc f y fs))) s'->Q Unit.unit s'):A8 (model X.prog X.w) A (setAttr (.ref a) f u) Q E s:=by
 let#[mA,O,r,wi,_,ho]:=zf1 I.hok e;have hz:(fs.map (·.1)).length<=sizeLine:=by rw[Ax,Dq];lia
 refine zl4 I.kIn O c.sa c.po n.taker c.hd wi hz λh' O' sb=>h _ ?_;have hd:∃o,h'.get? dx=AA o:=let #[o,_,_,e',_]:=O'.ns;#[o,e']
 refine I.write (x:=a) (e:=dx) (by rw[e];exact Ci) (.inr ho) (λb q hb z=>(sb.2 b hb).trans z) hd ?_;refine#[by rw[zm O.ne];exact ho,?_,O.ne,O'.obj,_,O'.ns,λg=>?_,λg hg=>?_]
 .have:=zdo f y fs;lia
 .show ybF ((ybc f y fs).lookup g) (if g=f then AA u else mA g);rw[zdZ]
  by_cases q:g=f
  .rw[if_pos q,if_pos q];exact ry
  .rw[if_neg q,if_neg q];exact r g
 .by_cases q:g=f
  .rw[q];exact(zdq f y fs).1
  .refine(zdq f y fs).2 g (wi g λz=>hg ?_);show (if g=f then AA u else mA g)=AD;rw[if_neg q];exact z
theorem Inv.made(I:Inv X D B H s):Inv X D B (upd (upd H s.heap.objs.size (.own (s.heap.objs.size+1))) (s.heap.objs.size+1) (.ins C s.heap.objs.size []))
  {s with heap:=(s.heap.push Bk).push (CM C s.heap.objs.size)}:=by
 have e1:(s.heap.push Bk).get? s.heap.objs.size=AA Bk:=Ac s.heap rfl;have e2:((s.heap.push Bk).push (CM C s.heap.objs.size)).get? (s.heap.objs.size+1)=AA (CM C s.heap.objs.size):=by
  have:=Ac (s.heap.push Bk) (o:=CM C s.heap.objs.size) rfl
  rwa [CD]at this
 have e3:(s.heap.push Bk).Ns s.heap.objs.size (λ_=>AD):=#[Bk,(List.toArray []),_,e1,rfl,(λe he=>absurd he (by simp)),λ_=>rfl];have I1:=I.laid (a:=s.heap.objs.size) (o:=.own (s.heap.objs.size+1)) (h':=s.heap.push Bk) (t':=s.toks) (λb u q=>AR _ q) (AT _) #[_,e1];refine I1.laid (a:=s.heap.objs.size+1) (o:=.ins C s.heap.objs.size []) (t':=s.toks) (λb u q=>AR _ q) (HW (CD _ _)) ?_;have ne:s.heap.objs.size≠s.heap.objs.size+1:=BG (Da _);refine#[by rw[zm ne,zu],DN _,ne,e2,λ_=>AD,(Heap.Ns1.of_empty e3).at λo q=>AR _ q,λ_=>Ci,λy hy=>absurd rfl hy]
def znC{prog:Af}{w:Au}{env:Env}{e:AV}{f:AQ}{pos:C6}{s:AJ}{Q:AG->AJ->Prop}(hb:attributeBase e f env (eval e env)=eval e env)
  (h:A8 (model prog w) A (eval e env) (λo s₁=>A8 (model prog w) A (getAttr o f AC) Q E s₁) E s):A8 (model prog w) A (eval (.Attribute e f pos) env) Q E s:=
 Attribute_any_ h (by rw[arm_eval_Attribute,hb])
end
def yg9(K:AE)(ta:TE)(f:AQ):TE:=λA H Q=>ta A H λx H1=>∃a C dx fs v,x=.ref a/\H1 a=AA (.ins C dx fs)/\Cls K C/\yaF K C f/\fs.lookup f=AA v/\Q v H1
def yhz(K:AE)(ta tv:TE)(f:AQ):TS:=λD A H=>tv A H λy H1=>ta A H1 λx H2=>∃a C dx fs,x=.ref a/\H2 a=AA (.ins C dx fs)/\Cls K C/\yaF K C f/\fs.length<1000 /\
 D.nx A (upd H2 a (.ins C dx (ybc f y fs)))
def yfH(X:Cx)(op:Dp)(rd:V->V->Hp->VK->Prop):Prop:=
 ∀(C:List (AI×CP)) (s:AJ) (B:St) (H:Hp) (x y:V) (u v:AG) (Q:VK),Inv X C B H s->RelV x u->RelV y v->rd x y H Q->A8 (model X.prog X.w) X.A (inplaceOp op u v) (EP X C B Q) X.xe s
def ycU(K:AE)(ta tv:TE)(rd:V->V->Hp->VK->Prop)(f:AQ):TS:=λD A H=>ta A H λx H1=>∃a C dx fs v,x=.ref a/\H1 a=AA (.ins C dx fs)/\Cls K C/\yaF K C f/\fs.lookup f=AA v /\
 tv A H1 λy H2=>rd v y H2 λz H3=>∃dx' fs',H3 a=AA (.ins C dx' fs')/\fs'.length<1000/\D.nx A (upd H3 a (.ins C dx' (ybc f z fs')))
section
variable {X:Cx}{o e value:AV}{f:AQ}{pos pos' tpos:C6}{ta tv:TE}
def zpJ(he:PE X e ta)(hb:attributeBase e f X.env (eval e X.env)=eval e X.env):PE X (.Attribute e f pos) (yg9 X.K ta f):=by intro B s A H Q I h;refine znC hb (thn (he B s A H _ I h) λu s1 kq=>?_);let#[x,H1,I1,rx,a,C,dx,fs,v,ex,ea,c,n,l,q]:=kq;subst ex;obtain rfl:u=Ar a:=rx;exact zem I1 ea c n l λu' s2 I2 ru=>#[v,H1,I2,ru,q]
def zot(ha:PE X o ta)(hv:PE X value tv)(hs:swapsWith value (AA (.Attribute o f pos')) pos.line X.env=pure AB):PS X (.Assign [.Attribute o f pos'] value pos) (yhz X.K ta tv f):=by intro B s A H D I h;refine plainObj_wpAny_Assign_Attribute (thn (hv B s A H _ I h) λu s1 kq=>?_) hs;let#[y,H1,I1,ry,q]:=kq;refine thn (ha B s1 A H1 _ I1 q) λov s2 kq=>?_;let#[x,H2,I2,rx,a,C,dx,fs,ex,ea,c,n,l,q2]:=kq;subst ex;obtain rfl:ov=Ar a:=rx;exact zec I2 ea c n l ry λs3 I3=>#[A,_,I3,q2]
def zjI{op:Dp}{rd:V->V->Hp->VK->Prop}(ha:PE X o ta)(hv:PE X value tv)(hop:yfH X op rd):PS X (.AugAssign (.Attribute o f tpos) op value pos) (ycU X.K ta tv rd f):=by intro B s A H D I h;refine wpAny_AugAssign_AttributeAny (thn (ha B s A H _ I h) λov s1 kq=>?_);let#[x,H1,I1,rx,a,C,dx,fs,v,ex,ea,c,n,l,q]:=kq;subst ex;obtain rfl:ov=Ar a:=rx;refine zem I1 ea c n l λu s2 I2 ru=>thn (hv B s2 A H1 _ I2 q) λw3 s3 kq=>?_;let#[y,H2,I3,ry,q3]:=kq;refine thn (hop B s3 A H2 v y u w3 _ I3 ru ry q3) λw4 s4 kq=>?_;let#[z,H3,I4,rz,dx',fs',ea',l',q4]:=kq;exact zec I4 ea' c n l' rz λs5 I5=>#[A,_,I5,q4]
def yg8:V->V->Hp->VK->Prop:=λx y H Q=>∃i j,x=.int i/\y=.int j/\Q (.int (i+j)) H
def zoN:yfH X .Add yg8:=by
 rintro B s A H x y u v Q I rx ry ⟨i,j,rfl,rfl,q⟩
 let#[t,rfl]:=(show ∃t,u=Eh i t from rx);let#[t',rfl]:=(show ∃t',v=Eh j t' from ry);exact Gq #[.int (i+j),H,I.tok _,#[_,rfl],q]
end
section
variable {X:Cx}{C:List (AI×CP)}{B:St}{H:Hp}{s:AJ}{A:BK}{E:AG->AJ->Prop}{Q:AG->AJ->Prop}{c:AG}{b:Bool}
end
structure yaI(k:Nat)(A:BK):Prop where
 hd:A.handled=AD
 dp:A.depth+3*k+5<recursionLimit
 un:A.units+16*k+200<cLine
theorem yaI.mono{j k:Nat}{A:BK}(r:yaI k A)(h:j<=k):yaI j A:=#[r.hd,by have:=r.dp;lia,by have:=r.un;lia]
theorem yaI.deeper{k:Nat}{A:BK}(r:yaI (k+1) A)(env:Env):yaI k (A.deeper env):=
 #[r.hd,by have:=r.dp;show A.depth+1+3*k+5<_;lia,by have:=r.un;show A.units+3+16*k+200<_;lia]
def zhu{A:BK}{C:AI}{us:List AG}{kw:List (AQ×AG)}:(A.under (.builtin "type.__call__" #[.ref C::us,kw])).depth=A.depth+1:=by first|rfl|simp[Fy,Code.weight,Code.isCreation,Code.isGuard,Code.isCaller,Hi,Fz,guardIds]
def zhh{A:BK}{C:AI}{us:List AG}{kw:List (AQ×AG)}:(A.under (.builtin "type.__call__" #[.ref C::us,kw])).units=A.units+1:=by first|rfl|simp[Fy,Code.cUnits,Hi,Fz]
theorem yaI.make{k:Nat}{A:BK}(r:yaI (k+1) A)(C:AI)(us:List AG)(kw:List (AQ×AG)):yaI k (A.under (.builtin "type.__call__" #[.ref C::us,kw])):=
 #[r.hd,by have:=r.dp;rw[zhu];lia,by have:=r.un;rw[zhh];lia]
theorem yaI.depth{k:Nat}{A:BK}(r:yaI k A):A.depth<recursionLimit:=by have:=r.dp;lia
theorem yaI.units{k:Nat}{A:BK}(r:yaI k A):A.units+64<cLine:=by have:=r.un;lia
def ydD:TA:=λ_ H Q=>Q [] H
def ydq(ta:TE)(tr:TA):TA:=λA H Q=>ta A H λx H1=>tr A H1 λxs H2=>Q (x::xs) H2
section
variable {X:Cx}{e:AV}{es:List AV}{te:TE}{t:TA}{pos:C6}
def zq2:PA X [] ydD:=λ_ _ _ _ H Q I h=>GA #[[],H,I,.nil,h]
def zbS(ha:PE X e te)(hr:PA X es t)(hs:starEach (e::es) X.env=(AB,eval e X.env)::starEach es X.env:=by rfl):PA X (e::es) (ydq te t):=by intro pos B s A H Q I h;rw[hs];show A8 _ _ (spliced ((AB,eval e X.env)::backTo pos (starEach es X.env))) _ _ s;refine EN (thn (ha B s A H _ I h) λu s1 kq=>?_);let#[x,H1,I1,r1,q1]:=kq;exact thn (hr pos B s1 A H1 _ I1 q1) λus s2 #[xs,H2,I2,r2,q2]=>#[x::xs,H2,I2,.cons r1 r2,q2]
def ygb(t:TA):TE:=λA H Q=>t A H λxs H1=>xs.length<=sizeLine/\∀p,H1 p=AD->Q (.ref p) (upd H1 p (.tup xs))
def ygD(t:TA):TE:=λA H Q=>t A H λxs H1=>xs.length<=sizeLine/\∀p,H1 p=AD->Q (.ref p) (upd H1 p (.lst xs))
def znM{x1}(h:PA X es t):PE X (.Tuple es x1 pos) (ygb t):=by intro B s A H Q I hq;refine wpAny_Tuple_spliced (thn (h pos B s A H _ I hq) λus s1 kq=>?_);let#[xs,H1,I1,r,z,q]:=kq;refine #[by rw[<-r.length];exact z,?_];have hf:H1 s1.heap.objs.size=none:=I1.hok.fresh (AT _);refine#[.ref s1.heap.objs.size,upd H1 s1.heap.objs.size (.tup xs),I1.laid (t':=s1.toks) (λb u e=>AR _ e) (AT _) ?_,rfl,q _ hf];exact#[z,us,r,#[_,Ac _ rfl,rfl,_,rfl]]
def zly(h:PA X es t):PE X (.List es pos) (ygD t):=by intro B s A H Q I hq;refine wpAny_List_spliced (thn (h pos B s A H _ I hq) λus s1 kq=>?_);let#[xs,H1,I1,r,z,q]:=kq;refine #[by rw[<-r.length];exact z,?_];have hf:H1 s1.heap.objs.size=none:=I1.hok.fresh (AT _);refine#[.ref s1.heap.objs.size,upd H1 s1.heap.objs.size (.lst xs),I1.laid (t':=s1.toks) (λb u e=>AR _ e) (AT _) ?_,rfl,q _ hf];exact#[z,us,0,r,Ac _ rfl]
end
abbrev Sp:=List V->Hp->VK->XK->Prop
abbrev CXT:=List Env->Hp->AJ->XK->AG->AJ->Prop
structure ycR(P:Af)(w:Au)(K:AE)(mg:AQ->Option AG)(base:BR)(A:BK)(outer:List Env)(s:AJ)(H:Hp):Prop where
 frames:A.frames=AA outer
 mod:Mod K mg base
 bs:∀b o,base.get? b=AA o->s.heap.get? b=AA o/\H b=AD
 bsz:base.objs.size<=s.heap.objs.size
 funs:s.heap.FunFrames base outer
 frf:∀b∈frs outer,H b=AD
 hok:HOk P w H s.heap
 bare:De s.gens
def CE(outer:List Env)(P:Af)(w:Au)(H:Hp)(s:AJ)(Q:VK)(u:AG)(s':AJ):Prop:=
 ∃v H',s'.os=s.os/\De s'.gens/\Un (frs outer) [] H H' s.heap s'.heap/\HOk P w H' s'.heap/\RelV v u/\Q v H'
def CR(CX:CXT)(outer:List Env)(P:Af)(w:Au)(H:Hp)(s:AJ)(Q:VK)(E:XK)(r:Gx)(s':AJ):Prop:=
 match r with
 |.ok (.ret u)=>CE outer P w H s Q u s'
 |.ok _=>False
 |.error e=>CX outer H s E e s'
structure yaW(P:Af)(w:Au)(K:AE)(mg:AQ->Option AG)(base:BR)(CX:CXT)(k:Nat)(f:AI)(fd:BQ)(ps:List AQ)(sp:Sp):Prop where
 len:∀vs H Q E,sp vs H Q E->vs.length=ps.length
 run:∀(A:BK) (outer:List Env) (s:AJ) (H:Hp) (args:Args) (us:List AG) (vs:List V) (Q:VK) (E:XK),yaI k A->ycR P w K mg base A outer s H->F0 s fd args (ps.zip us)->Vals vs us->sp vs H Q E ->
  codeAny (model P w) A (.call (.ref f) args) (CR CX outer P w H s Q E) s
theorem yaW.imp{P:Af}{w:Au}{K:AE}{mg:AQ->Option AG}{base:BR}{CX:CXT}{k:Nat}{f:AI}{fd:BQ}{ps:List AQ}{sp sp':Sp}(F:yaW P w K mg base CX k f fd ps sp)
  (h:∀vs H Q E,sp' vs H Q E->sp vs H Q E):yaW P w K mg base CX k f fd ps sp':=
 #[λvs H Q E q=>F.len vs H Q E (h _ _ _ _ q),λA outer s H args us vs Q E hr he hb hv hs=>F.run A outer s H args us vs Q E hr he hb hv (h _ _ _ _ hs)]
theorem ycR.make{P:Af}{w:Au}{K:AE}{mg:AQ->Option AG}{base:BR}{A:BK}{outer:List Env}{s:AJ}{H:Hp}(e:ycR P w K mg base A outer s H)(C:AI)(us:List AG)(kw:List (AQ×AG)):
  ycR P w K mg base (A.under (.builtin "type.__call__" #[.ref C::us,kw])) outer s H:=#[by first|exact e.frames|(simpa [Fy,Code.envs,Fz,pushEnvs] using e.frames),e.mod,e.bs,e.bsz,e.funs,e.frf,e.hok,e.bare]
section
variable {X:Cx}{C:List (AI×CP)}{B:St}{H:Hp}{s s':AJ}
theorem Inv.env0(I:Inv X C B H s):ycR X.prog X.w X.K X.mg X.base X.A X.stack s H:=
 #[I.ok.frames,I.ok.mod,I.bs,BZ I.ok.bsz I.sz,I.stack,I.stkFree,I.hok,I.bare]
theorem Inv.after{Q:VK}{u:AG}(I:Inv X C B H s)(h:CE X.stack X.prog X.w H s Q u s'):EP X C B Q u s':=by let#[v,H',os,bare,un,hok,r,q]:=h;let#[hh,g,d,t,os']:=s';obtain rfl:os'=s.os:=os;exact#[v,H',I.call (h':=hh) (g':=g) (d':=d) (t':=t) (ch:=[]) un hok bare (λb z=>absurd z (by simp)),r,q]
end
def yep(C:AI)(sp:Sp)(dvs:List V)(E:XK)(t:TA):TE:=λA H Q=>t A H λvs H1=>∀x dx,H1 x=AD->H1 dx=AD->dx≠x ->
 sp (.ref x::(vs++dvs)) (upd (upd H1 dx (.own x)) x (.ins C dx [])) (λv H2=>v=.non/\Q (.ref x) H2) E
def Binds(K:AE)(fd:BQ)(ps:List AQ)(ds:List AG):Prop:=
 ∀(s:AJ) (us:List AG),K.In s.heap->(us++ds).length=ps.length->F0 s fd #[us,[]] (ps.zip (us++ds))
theorem Binds.all{K:AE}{fd:BQ}{ps:List AQ}(h:∀us:List AG,us.length=ps.length->bindArgs fd #[us,[]]=pure (ps.zip us)):Binds K fd ps []:=λs us _ hl=>by rw[Aj]at hl ⊢;exact .of_eq (h us hl)
def ybS(CX:CXT)(X:Cx)(E:XK):Prop:=∀(B:List (AI×CP)) (A:St) (H:Hp) (s:AJ) (e:AG) (s':AJ),Inv X B A H s->CX X.stack H s E e s'->X.xe e s'
section
variable {X:Cx}{CX:CXT}{k:Nat}{f C:AI}{fd:BQ}{ps:List AQ}{sp:Sp}{dvs:List V}{ds:List AG}{E:XK}{x m:AQ}{p pos apos:C6}{e o:AV}{es:List AV}{ta:TE}{t:TA}
structure Mk(K:AE)(C f:AI):Prop where
 makes:Dt K C=AC
 init:BP K (.ref C) "__init__"=AA (AA (.ref f))
 fn:Cy K (.ref f)=AC
 kp:BH K (.ref C)=AC
def zj6{D:List (AI×CP)}{B:St}{H:Hp}{s:AJ}{Q:VK}{us:List AG}{vs:List V}(M:Mk X.K C f)(F:yaW X.prog X.w X.K X.mg X.base CX k f fd ps sp)(hr:yaI (k+1) X.A)(hb:Binds X.K fd ps ds)(hd:Vals dvs ds)
  (hx:ybS CX X E) (I:Inv X D B H s) (r:Vals vs us)
  (h:∀x dx,H x=AD->H dx=AD->dx≠x->sp (.ref x::(vs++dvs)) (upd (upd H dx (.own x)) x (.ins C dx [])) (λv H2=>v=.non/\Q (.ref x) H2) E):
  A8 (model X.prog X.w) X.A (call (.ref C) us) (EP X D B Q) X.xe s:=by
 have hq:=h (s.heap.objs.size+1) s.heap.objs.size (I.hok.fresh (Cq _)) (I.hok.fresh (AT _)) (BG (Da _));have I2:=Inv.made (C:=C) I;have r2:Vals (V.ref (s.heap.objs.size+1)::(vs++dvs)) (Ar (s.heap.objs.size+1)::(us++ds)):=.cons rfl (r.append hd);have hl:(Ar (s.heap.objs.size+1)::us++ds).length=ps.length:=by have e:=r2.length;rw[F.len _ _ _ _ hq]at e;exact e.symm
 refine Gy (zka (f:=f) I.kIn M.makes M.init (beq_iff_eq.mp M.fn) (EB (F.run _ X.stack _ _ #[Ar (s.heap.objs.size+1)::us,[]] (Ar (s.heap.objs.size+1)::(us++ds)) _ _ E (hr.make C us [])
  (I2.env0.make C us []) (hb _ (Ar (s.heap.objs.size+1)::us) I2.kIn hl) r2 hq) λr s' hq'=>?_))
 cases r with
 |error e=>exact hx D B _ _ e s' I2 hq'
 |ok fl=>
  cases fl with
  |ret u=>
   let#[v,H',I3,rv,ev,q3]:=I2.after hq';subst ev;exact#[rv,#[V.ref (s.heap.objs.size+1),H',I3,rfl,q3]]
  |next=>exact Bt hq'
  |brk=>exact Bt hq'
  |cont=>exact Bt hq'
def zmm(M:Mk X.K C f)(F:yaW X.prog X.w X.K X.mg X.base CX k f fd ps sp)(hr:yaI (k+1) X.A)(hg:Gl X x)(hm:X.mg x=AA (.ref C))(hb:Binds X.K fd ps ds)(hd:Vals dvs ds)(hx:ybS CX X E)
  (ha:PA X (e::es) t) (hdb:(x==("__debug__":AQ))=false:=by decide) (he:starEach (e::es) X.env=(AB,eval e X.env)::starEach es X.env:=by rfl) (hpl:(backTo pos (starEach es X.env)).any (·.1)=false:=by rfl):
  PE X (.Call (.Name x p) (e::es) [] pos) (yep C sp dvs E t):=by intro D s B H Q I h;refine Bf (zdN I hg hm ?_ hdb);refine DJ (h₀:=X.base) I.ok.mod.kin M.kp (thn (ha pos D s B H _ I h) λus s1 kq=>?_) he hpl;let#[vs,H1,I1,r,q]:=kq;refine #[I1.kIn,?_];exact zj6 M F hr hb hd hx I1 r q
end
def PK(X:Cx)(kws:List Cc)(t:TA):Prop:=
 ∀(pos:C6) (C:List (AI×CP)) (s:AJ) (B:St) (H:Hp) (Q:List V->Hp->Prop),Inv X C B H s->t B H Q->A8 (model X.prog X.w) X.A (evalAll ((backToKw pos (keywordEach kws X.env)).map (·.2))) (AP X C B Q) X.xe s
section
variable {X:Cx}{CX:CXT}{k:Nat}{f C:AI}{fd:BQ}{ps ks:List AQ}{sp:Sp}{E:XK}{x m:AQ}{p pos apos kpos:C6}{e o:AV}{es:List AV}{kws:List Cc}{te ta:TE}{t tk:TA}{nm:Option AQ}
def zrw:PK X [] ydD:=λ_ _ _ _ H Q I h=>wpAny_evalAll_nil #[[],H,I,.nil,h]
def zlX(ha:PE X e te)(hr:PK X kws t):PK X (#[nm,e,kpos] :: kws) (ydq te t):=by intro pos B s A H Q I h;show A8 _ _ (evalAll ((do let v <-eval e X.env;standAt pos;pure v)::(backToKw pos (keywordEach kws X.env)).map (·.2))) _ _ s;refine wpAny_evalAll_cons (AH (thn (ha B s A H _ I h) λu s1 kq=>?_));let#[x,H1,I1,r1,q1]:=kq;refine AH (Ee (AW ?_));exact thn (hr pos B s1 A H1 _ I1 q1) λus s2 #[xs,H2,I2,r2,q2]=>#[x::xs,H2,I2,.cons r1 r2,q2]
structure ybT(K:AE)(fd:BQ)(ps ks:List AQ)(g:List AG->List AG->List AG)(gV:List V->List V->List V):Prop where
 to:∀(s:AJ) (us ws:List AG),K.In s.heap->(g us ws).length=ps.length->F0 s fd #[us,ks.zip ws] (ps.zip (g us ws))
 rel:∀{vs:List V} {us:List AG} {zs:List V} {ws:List AG},Vals vs us->Vals zs ws->Vals (gV vs zs) (g us ws)
variable {g:List AG->List AG->List AG}{gV:List V->List V->List V}
end
structure ybo(N P:List AQ)(sc:Bq):Prop where
 kind:sc.kind=.function
 co:sc.isCoroutine=AB
 gen:sc.isGenerator=AB
 nd:N.Nodup
 pre:N.take P.length=P
 par:∀x∈P,sc.names.lookup x=AA .local \/ sc.names.lookup x=AA .cell
 nofree:∀y∈sc.names,y.2 ≠ .free
def zfo{kindOf:AQ->Option DQ}{x:AQ}:∀{binds:List (AQ×AG)} {m:AQ->Option AG},(∀v,(x,v)∉binds)->bindL kindOf binds m x=m x
 |[],_,_=>rfl
 |(n,v)::r,m,h=>by
  unfold bindL;rw[zfo λw hw=>h w (AS _ hw)];split
  .have:x≠n:=by rintro rfl;exact h v Aw
   simp[this]
  .rfl
def zfy{kindOf:AQ->Option DQ}{x:AQ}:∀{binds:List (AQ×AG)} {m:AQ->Option AG},(∀v,(x,v)∉binds)->bindC kindOf binds m x=m x
 |[],_,_=>rfl
 |(n,v)::r,m,h=>by
  unfold bindC;rw[zfy λw hw=>h w (AS _ hw)];split
  .rfl
  .have:x≠n:=by rintro rfl;exact h v Aw
   simp[this]
def zfI{kindOf:AQ->Option DQ}{x:AQ}{v:AG}:∀{P:List AQ} {vs:List AG} {i:Nat} {m:AQ->Option AG},P.Nodup->P[i]?=AA x->vs[i]?=AA v->kindOf x=AA .local ->
  bindL kindOf (P.zip vs) m x=AA v
 |[],_,_,_,_,h,_,_=>by simp at h
 |_::_,[],_,_,_,_,h,_=>by simp at h
 |p::P,w::vs,0,m,nd,h1,h2,hk=>by simp at h1 h2;subst h1;subst h2;show bindL kindOf ((p,w)::P.zip vs) m p=_;unfold bindL;rw[zfo λv hv=>(Du.mp nd).1 (FF hv).1,if_pos hk];simp
 |p::P,w::vs,i+1,m,nd,h1,h2,hk=>by show bindL kindOf ((p,w)::P.zip vs) m x=_;unfold bindL;exact zfI (i:=i) (Du.mp nd).2 (by simpa using h1) (by simpa using h2) hk
def zfc{kindOf:AQ->Option DQ}{x:AQ}{v:AG}:∀{P:List AQ} {vs:List AG} {i:Nat} {m:AQ->Option AG},P.Nodup->P[i]?=AA x->vs[i]?=AA v->kindOf x≠AA .local ->
  bindC kindOf (P.zip vs) m x=AA v
 |[],_,_,_,_,h,_,_=>by simp at h
 |_::_,[],_,_,_,_,h,_=>by simp at h
 |p::P,w::vs,0,m,nd,h1,h2,hk=>by simp at h1 h2;subst h1;subst h2;show bindC kindOf ((p,w)::P.zip vs) m p=_;unfold bindC;rw[zfy λv hv=>(Du.mp nd).1 (FF hv).1,if_neg hk];simp
 |p::P,w::vs,i+1,m,nd,h1,h2,hk=>by show bindC kindOf ((p,w)::P.zip vs) m x=_;unfold bindC;exact zfc (i:=i) (Du.mp nd).2 (by simpa using h1) (by simpa using h2) hk
def start(N:List AQ)(vs:List V):St:=vs.map AA++BI (N.length-vs.length) AD
def ya8(CX:CXT)(P:Af)(w:Au)(K:AE)(mg:AQ->Option AG)(base:BR)(N:List AQ)(qual:AQ)(scope:Bq)(f:AI)(cd:AG)(A:BK)(outer:List Env)(s:AJ)(H:Hp)(E:XK):Cx where
 prog:=P
 w:=w
 K:=K
 mg:=mg
 base:=base
 A:=A.deeper (envOfC qual scope s.heap.objs.size f cd)
 N:=N
 s₀:=s
 H₀:=H
 env:=envOfC qual scope s.heap.objs.size f cd
 outer:=outer
 stack:=envOfC qual scope s.heap.objs.size f cd::outer
 ex:=[]
 calm:=AC
 fn:=λ_=>AC
 pn:=[]
 xe:=λe s'=>A8 (model P w) (A.deeper (envOfC qual scope s.heap.objs.size f cd)) («leaving» (envOfC qual scope s.heap.objs.size f cd) e) (λ_ s''=>CX outer H s E e s'') (λe' s''=>CX outer H s E e' s'') s'
def zgq{sc:Bq}{n:Nat}{x:AQ}(h:sc.names.lookup x=AA .cell):∃c,(cellsFrom n sc.names []).lookup x=AA c:=by have q:=Ew sc.names n [] (.inl h);exact BM.mp q
def ziN{CX:CXT}{P:Af}{w:Au}{K:AE}{mg:AQ->Option AG}{base:BR}{N ps:List AQ}{qual:AQ}{scope:Bq}{f:AI}{cd:AG}{A:BK}{outer:List Env}{s s1:AJ}{H:Hp}{E:XK}{us:List AG}{vs:List V}
  (S:ybo N ps scope) (hd:A.handled=AD) (e0:ycR P w K mg base A outer s H) (hl:vs.length=ps.length) (r:Vals vs us)
  (x:InCallC s s.heap.objs.size (bindL (envOfC qual scope s.heap.objs.size f cd).kindOf (ps.zip us) λ_=>AD) (cellsFrom (s.heap.objs.size+1) scope.names []) (bindC (envOfC qual scope s.heap.objs.size f cd).kindOf (ps.zip us) λ_=>AD) s1):
  Inv (ya8 CX P w K mg base N qual scope f cd A outer s H E) [] (start N vs) H s1:=by
 have hpl:ps.length<=N.length:=by have:=congrArg Ch S.pre;rw[Ek]at this;lia
 let#[h1,tk,rfl,hk]:=x.done;have noA:∀b:AI,b∉(ya8 CX P w K mg base N qual scope f cd A outer s H E).ex:=λb z=>absurd (show b∈([]:List AI)from z) (by simp);refine#[#[e0.mod,S.kind,rfl,rfl,AT _,λy z c h1 h2=>?_,λy hy=>?_,λy c _ h=>?_,λ_=>hd,Around.frames_deeper e0.frames,.inr #[rfl,rfl],λb z=>absurd z (noA b),e0.bs,e0.bsz,λb _ _=>noA b,λb z=>absurd z (noA b),e0.funs,e0.frf],
  rfl,e0.bare,Un.kept hk,#[_,x.toInCall.ns,λi y v h1 h2 h3=>?_],λy c h=>#[_,x.cell y c h],e0.hok.fresh (AT _),λy c h=>?_,λp hp=>absurd (show p∈([]:List (AI×CP))from hp) (by simp),e0.hok.kept hk,?_]
 .exact name_of_addr x.apart (Cd h1) (Cd h2)
 .have hy:scope.names.lookup y=AA .cell \/ scope.names.lookup y=AA .free:=hy;rcases hy with hy|hy
  .exact zgq hy
  .exact absurd rfl (S.nofree _ (Cd hy))
 .exact Es (x.above y c (Cd h))
 .have hi:i<vs.length:=by
   unfold start at h2
   by_cases hi:i<vs.length
   .exact hi
   .rw[BD (by simpa using hi)]at h2;rw[El]at h2;split at h2<;>cases h2
  have ha:vs[i]?=AA v:=by
   unfold start at h2;rw[An (by simpa using hi),CK]at h2
   cases e:vs[i]? with
   |none=>rw[e]at h2;cases h2
   |some a=>rw[e]at h2;cases h2;rfl
  let#[u,hu,rv]:=r.get ha;have hp:ps[i]?=AA y:=by rw[<-S.pre,List.getElem?_take_of_lt ()];exact h1
  have ndP:ps.Nodup:=by rw[<-S.pre];exact S.nd.sublist (List.take_sublist _ _)
  refine#[u,rv,?_];rcases S.par y (A6 hp)with k|k
  .exact .inl #[k,zfI ndP hp hu k]
  .let#[c,e]:=zgq (n:=s.heap.objs.size+1) k;refine .inr #[.inl k,c,e,?_];have q:=x.cell y c e;rw[zfc ndP hp hu (by show scope.names.lookup y≠_;rw[k];decide)]at q;exact q
 .exact e0.hok.fresh (Es (x.above y c (Cd h)))
 .unfold start;show _=N.length;rw[Al,Ax,List.length_replicate];lia
def zqR{CX:CXT}{P:Af}{w:Au}{K:AE}{mg:AQ->Option AG}{base:BR}{k:Nat}{f:AI}{name qual:AQ}{params:Arguments}{body:List CH}{scope:Bq}{dV kV doc pm cdv ct oc:AG}{an od:Option AI}
  {osl:Array (Option AG)} {N ps:List AQ} {sp:Sp} (lk:K.lookup f=AA #[oc,od,.func (Bi name qual params body scope dV kV doc pm an cdv ct),osl]) (hcd:C0 K cdv qual=AC) (S:ybo N ps scope)
  (len:∀vs H Q E,sp vs H Q E->vs.length=ps.length)
  (hbody:∀(A:BK) (outer:List Env) (s:AJ) (H:Hp) (vs:List V) (Q:VK) (E:XK),yaI k (A.deeper (envOfC qual scope s.heap.objs.size f cdv))->sp vs H Q E ->
   ∃t,PSs (ya8 CX P w K mg base N qual scope f cdv A outer s H E) body t/\t {nx:=λ_ H'=>Q .non H',rt:=Q} (start N vs) H):
  yaW P w K mg base CX (k+1) f (Bi name qual params body scope dV kV doc pm an cdv ct) ps sp:=by
 refine#[len,λA outer s H args us vs Q E hr e0 hb r hsp=>?_];have hl:=len _ _ _ _ hsp;have KX:K.In s.heap:=e0.mod.kin.keeps λb o e=>(e0.bs b o e).1;have lim:s.heap.NoLimit:=e0.mod.nolimit.keeps λb o e=>(e0.bs b o e).1;have hkind:∀y∈ps.zip us,scope.names.lookup y.1=AA .local \/ (scope.names.lookup y.1=AA .cell/\((cellsFrom (s.heap.objs.size+1) scope.names []).lookup y.1).isSome=AC):=λ#[n,v] hy=>by
  rcases S.par n (FF hy).1 with q|q
  .exact .inl q
  .exact .inr #[q,Ew _ _ _ (.inl q)]
 refine codeAny_call_function hr.depth (KX _ _ lk) rfl S.co S.gen rfl (PySem.W.codeRec_of KX hcd) (hb _ _ _ _ ?_);refine wpAny_newFunctionEnv_cells S.kind hkind λenv he s1 x=>?_;subst he;refine#[lim.keeps x.toInCall.keep,codeAny_func ?_];let#[t,ht,hq]:=hbody A outer s H vs Q E (hr.deeper _) hsp;have I:Inv (ya8 CX P w K mg base N qual scope f cdv A outer s H E) [] (start N vs) H s1:=ziN S hr.hd e0 hl r x;refine C7 (ht [] s1 (start N vs) H _ I hq) (λfl s' hs=>?_) λe s' hs=>hs;have fin:∀{A':St} {H':Hp} {v:V} {u:AG},Inv (ya8 CX P w K mg base N qual scope f cdv A outer s H E) [] A' H' s'->RelV v u->Q v H'->CE outer P w H s Q u s':=
  λ{A' H' v u} J rv q=>#[v,H',J.os,J.bare,J.base,J.hok,rv,q]
 cases fl with
 |ret u=>
  let#[v,A',H',J,rv,q]:=hs;exact fin J rv q
 |next=>
  let#[A',H',J,q]:=hs;exact fin (v:=V.non) (u:=CZ) J rfl q
 |brk=>
  let#[_,_,_,q]:=hs;exact Bt q
 |cont=>
  let#[_,_,_,q]:=hs;exact Bt q
section
variable {X:Cx}{x:AQ}{p pos:C6}{e:AV}{es:List AV}{t:TA}{id T:String}{r:List V->Hp->VK->Prop}
def tCB(r:List V->Hp->VK->Prop)(t:TA):TE:=λA H Q=>t A H λvs H1=>r vs H1 Q
def zgz(hc:yat X (.builtin id) r)(hg:Gl X x)(hm:X.mg x=AD)(hv:bootBuiltins x=AA (.builtin id))(ha:PA X (e::es) t)(hn:x ≠ "__name__":=by decide)(hdb:(x==("__debug__":AQ))=false:=by decide)
  (he:starEach (e::es) X.env=(AB,eval e X.env)::starEach es X.env:=by rfl) (hpl:(backTo pos (starEach es X.env)).any (·.1)=false:=by rfl):PE X (.Call (.Name x p) (e::es) [] pos) (tCB r t):=by intro B s A H Q I h;refine Bf (zeg I hg hm hv ?_ hn hdb);exact GZ (thn (ha pos B s A H _ I h) λus s1 #[vs,H1,I1,r1,q1]=>hc B s1 A H1 vs us Q I1 r1 q1) he hpl
def ziY(hc:yat X (.type T) r)(hg:Gl X x)(hm:X.mg x=AD)(hv:bootBuiltins x=AA (.type T))(ha:PA X (e::es) t)(hn:x ≠ "__name__":=by decide)(hdb:(x==("__debug__":AQ))=false:=by decide)
  (he:starEach (e::es) X.env=(AB,eval e X.env)::starEach es X.env:=by rfl) (hpl:(backTo pos (starEach es X.env)).any (·.1)=false:=by rfl):PE X (.Call (.Name x p) (e::es) [] pos) (tCB r t):=by intro B s A H Q I h;refine Bf (zeg I hg hm hv ?_ hn hdb);exact CS (thn (ha pos B s A H _ I h) λus s1 #[vs,H1,I1,r1,q1]=>hc B s1 A H1 vs us Q I1 r1 q1) he hpl
end
end L2
namespace HT
open PySem PyProof.Rows
section
open PySem.SeqAt
open PySem.AutoSeq1 (wpAny_loadPart')
open PySem.MeetsSeq PySem.MeetsSeq2 PySem.MeetsSeq3
end
section
variable {prog:Af}{w:Au}{A:BK}{E:AG->AJ->Prop}{s:AJ}
theorem cat_tup{t b:AI}{vs ws:List AG}{Q:AG->AJ->Prop}(ht:Hh s.heap t vs.toArray)(hb:Hh s.heap b ws.toArray)(hv:vs≠[])
  (h1:ws=[]->Q (.ref t) s) (h2:ws≠[]->Q (.ref s.heap.objs.size) {s with heap:=s.heap.push {cls:=.type "tuple",data:=.seq (vs++ws).toArray} })
  (hsz:vs.length+ws.length<=sizeLine):A8 (model prog w) A (binaryOp .Add (.ref t) (.ref b)) Q E s:=by
 let#[#[cls,dd,data,sl],ho,hc,n,hd]:=id ht;let#[#[cls2,dd2,data2,sl2],ho2,hc2,n2,hd2]:=id hb;simp only at hc hd hc2 hd2;subst hc hd hc2 hd2;have e:vs.toArray++ws.toArray=(vs++ws).toArray:=by simp
 by_cases hw:ws=[]
 .exact GB #[_,ho,rfl] #[_,ho2,rfl] Em Fb DR DO (DE _ _)
   (tuple_addW1 t b vs.toArray ws.toArray n n2 dd dd2 sl sl2 (by simpa using hv) (by simp[hw])) #[ho,ho2,h1 hw]
 .refine GB #[_,ho,rfl] #[_,ho2,rfl] Em Fb DR DO (DE _ _)
   (tuple_addW2 t b vs.toArray ws.toArray n n2 dd dd2 sl sl2 (by simpa using hv) (by simpa using hw) (by rw[A7,A7];exact hsz)) #[ho,ho2,?_]
  rw[e];exact h2 hw
def sIx(n d:Nat):Option Int->Nat
 |none=>d
 |some v=>if v<0 then(v+(n:Int)).toNat else min v.toNat n
theorem sIx_le(n d:Nat)(hd:d<=n)(o:Option Int):sIx n d o<=n:=by
 cases o with
 |none=>exact hd
 |some v=>
  show (if v<0 then(v+(n:Int)).toNat else min v.toNat n)<=n
  by_cases hv:v<0
  .rw[if_pos hv];lia
  .rw[if_neg hv];exact Nat.min_le_right _ _
def zju(v:Int)(n d:Nat):(if v<0 then max (v+(n:Int)) 0 else min v (n:Int))=((sIx n d (AA v):Nat):Int):=by
 show (if v<0 then max (v+(n:Int)) 0 else min v (n:Int))=(((if v<0 then(v+(n:Int)).toNat else min v.toNat n):Nat):Int)
 by_cases hv:v<0
 .simp only[if_pos hv];lia
 .simp only[if_neg hv];lia
def zhB(lo hi:Option Int)(n:Nat):DB lo hi 1 (n:Int)=(((sIx n 0 lo:Nat):Int),((sIx n n hi:Nat):Int)):=by
 have h1:¬((1:Int)<0):=by lia
 unfold DB;erw[h1,if_false];refine Hj ?_ ?_
 .cases lo with
  |none=>rfl
  |some v=>exact zju v n 0
 .cases hi with
  |none=>rfl
  |some v=>exact zju v n n
def zhk(i j:Nat):C4 (i:Int) (j:Int) 1=j-i:=by
 unfold C4;have h1:(1:Int) > 0:=by lia
 erw[h1,if_true,GE];split<;>lia
def zef{v:AG}{o:Option Int}{Q:Option Int->AJ->Prop}(p:Ex v o)(h:Q o s):A8 (model prog w) A (Gk v) Q E s:=by
 cases p with
 |none=>exact slicePart_none h
 |int i t=>exact slicePart_int h
theorem sliceApplied_gen{sl:AI}{vl vu:AG}{lo hi:Option Int}{n:Nat}{Q:Int×Int×Nat->AJ->Prop}(hs:s.heap.IsSliceOf sl vl vu .none)(pl:Ex vl lo)(pu:Ex vu hi)
  (h:Q (((sIx n 0 lo:Nat):Int),1,sIx n n hi-sIx n 0 lo) s):A8 (model prog w) A (EO (.ref sl) (pure (n:Int))) Q E s:=by let#[os,hos,hcs,hds]:=id hs;unfold EO HH;refine AH (AH (Bc hos hds (x:=vl) rfl (AH (Bc hos hds (x:=vu) rfl (AH (Bc hos hds (x:=.none) rfl (AW ?_)))))));refine AH (slicePart_none ?_);show A8 _ _ (if ((1:Int)==0)=AC then _ else _) _ _ s;rw[if_neg ⋯];refine AH (zef pl (AH (zef pu (AH (AW ?_)))));show A8 _ _ (match DB lo hi 1 (n:Int)with|(lo,hi)=>pure (lo,(1:Int),C4 lo hi 1)) _ _ s;rw[zhB lo hi n];show A8 _ _ (pure (((sIx n 0 lo:Nat):Int),(1:Int),C4 ((sIx n 0 lo:Nat):Int) ((sIx n n hi:Nat):Int) 1)) _ _ s;rw[zhk];exact AW h
def zk3(xs:Array AG)(i k:Nat):((EG k).filterMap λ(m:Nat)=>xs[((i:Int)+(m:Int)*1).toNat]?).toArray=((xs.toList.drop i).take k).toArray:=by
 have e:(λ(m:Nat)=>xs[((i:Int)+(m:Int)*1).toNat]?)=λm=>xs[i+m]?:=by
  funext m
  have:((i:Int)+(m:Int)*1).toNat=i+m:=by lia
  rw[this]
 rw[e];have:=pick_run xs i k;rw[List.filterMap_map]at this;have e2:((λx=>xs[x]?) ∘ λx=>i+x)=λm=>xs[i+m]?:=rfl;rw[e2]at this;rw[this]
theorem getItem_tuple_cut{t sl:AI}{items:Array AG}{vl vu:AG}{lo hi:Option Int}{Q:AG->AJ->Prop}(ht:Hh s.heap t items)(hs:s.heap.IsSliceOf sl vl vu .none)(pl:Ex vl lo)(pu:Ex vu hi)
  (hw:¬(sIx items.size 0 lo=0/\sIx items.size items.size hi=items.size))
  (h:Q (.ref s.heap.objs.size) {s with heap:=s.heap.push {cls:=.type "tuple",data:=.seq ((items.toList.drop (sIx items.size 0 lo)).take (sIx items.size items.size hi-sIx items.size 0 lo)).toArray} })
  (hsz:items.size<=sizeLine):A8 (model prog w) A (getItem (.ref t) (.ref sl)) Q E s:=by
 have htake:sizeOk (.seq ((items.toList.drop (sIx items.size 0 lo)).take (sIx items.size items.size hi-sIx items.size 0 lo)).toArray):=by show ((items.toList.drop (sIx items.size 0 lo)).take (sIx items.size items.size hi-sIx items.size 0 lo)).toArray.size<=sizeLine;rw[A7,Ek,G0,CQ];lia
 have hj:sIx items.size items.size hi<=items.size:=sIx_le _ _ (AT _) hi;let#[os,hos,hcs,hds]:=id hs;have hTs:s.TypeIs (.ref sl) "slice":=#[os,hos,hcs];unfold getItem
 try with_reducible refine Dh ?_
 first|refine AH (AW ?_)|skip
 refine AH (GF ht.typeIs ⋯ ?_);refine AH (Bn (name:=AF "__getitem__") ht.typeIs BW
  (Cf BW ht.typeIs F4 ?_ (Fk _ _)))
 show A8 _ _ (EQ (.ref t) >>= _) _ _ s;refine AH (F1 ht ?_);refine AH (GG hTs ?_);rw[if_pos ⋯];refine AH (sliceApplied_gen hs pl pu ?_);have hno:¬((((sIx items.size 0 lo:Nat):Int)==0&&(1:Int)==1&&(sIx items.size items.size hi-sIx items.size 0 lo)==items.size)=AC):=by intro q;rw[AK,AK]at q;have q1:((sIx items.size 0 lo:Nat):Int)=0:=eq_of_beq q.1.1;have q2:sIx items.size items.size hi-sIx items.size 0 lo=items.size:=eq_of_beq q.2;exact hw #[by lia,by lia]
 show A8 _ _ (if (((sIx items.size 0 lo:Nat):Int)==0&&(1:Int)==1&&(sIx items.size items.size hi-sIx items.size 0 lo)==items.size)=AC then _ else _) _ _ s;rw[if_neg hno,zk3]
 first
  |exact AH (m:=C8 _) (Bs (AW #[_,rfl,AW h]) htake)
  |exact AH (m:=C8 _) (Bs (AH (AW (AW #[_,rfl,AW h]))) htake)
  |exact AH (AH (m:=C8 _) (Bs (AW (AW #[_,rfl,AW h])) htake))
  |exact AH (AH (m:=C8 _) (Bs (AW #[_,rfl,AW h]) htake))
end
end HT
namespace L2
open PySem PySem.Spec PyProof.Rows
abbrev TO:=St->Hp->(Option Int->Hp->Prop)->Prop
def PO(X:Cx)(e:Option AV)(t:TO):Prop:=
 ∀(C:List (AI×CP)) (s:AJ) (B:St) (H:Hp) (Q:Option Int->Hp->Prop),Inv X C B H s->t B H Q ->
  A8 (model X.prog X.w) X.A (evalPart e X.env) (λu s'=>∃o H',Inv X C B H' s'/\Ex u o/\Q o H') X.xe s
def ycT:TO:=λ_ H Q=>Q AD H
def zee{ns:List Int}:∀{us:List AG},Vals (ns.map V.int) us->Ey us ns:=by
 induction ns with
 |nil=>intro us r;rw[Ah]at r;cases r;exact .nil
 |cons n ns ih=>
  intro us r;rw[AL]at r
  cases r with
  |cons r1 r2=>
   let#[t,e]:=r1;subst e;exact .cons n t (ih r2)
section
variable {X:Cx}{e:AV}{te:TE}{lo hi:Option AV}{tl th:TO}{pos p2:C6}
def zlR:PO X AD ycT:=by intro C s B H Q I h;rw[evalPart_none];exact AW #[AD,H,I,.none,h]
def SlR(X:Cx)(r:V->Option Int->Option Int->Hp->VK->Prop):Prop:=
 ∀(C:List (AI×CP)) (s:AJ) (B:St) (H:Hp) (x:V) (v vl vu:AG) (lo hi:Option Int) (sl:AI) (Q:VK),Inv X C B H s->RelV x v->s.heap.IsSliceOf sl vl vu .none->Ex vl lo->Ex vu hi->r x lo hi H Q ->
  ∃T id,typeLookup (.type T) "__getitem__"=pure (AA (.builtin id))/\s.TypeIs v T/\A8 (model X.prog X.w) X.A (getItem v (.ref sl)) (EP X C B Q) X.xe s
def tSl(r:V->Option Int->Option Int->Hp->VK->Prop)(te:TE)(tl th:TO):TE:=λB H Q=>te B H λx H1=>tl B H1 λl H2=>th B H2 λu H3=>r x l u H3 Q
def zjQ{r:V->Option Int->Option Int->Hp->VK->Prop}(hr:SlR X r)(he:PE X e te)(hl:PO X lo tl)(hu:PO X hi th):PE X (.Subscript e (.Slice lo hi AD p2) pos) (tSl r te tl th):=by intro C s B H Q I h;refine Gz (thn (he C s B H _ I h) λv s1 kq=>?_);let#[x,H1,I1,r1,q1]:=kq;refine wpAny_Slice (thn (hl C s1 B H1 _ I1 q1) λvl s2 kq=>?_);let#[l,H2,I2,pl,q2]:=kq;refine thn (hu C s2 B H2 _ I2 q2) λvu s3 kq=>?_;let#[u,H3,I3,pu,q3]:=kq;rw[evalPart_none];refine AW ?_;have I4:Inv X C B H3 {s3 with heap:=s3.heap.push {cls:=.type "slice",data:=.fields (List.toArray [vl,vu,.none])} }:=I3.kept (t':=s3.toks) λb ob q=>AR _ q;let#[T,id,hT,ht,hg]:=hr C {s3 with heap:=s3.heap.push {cls:=.type "slice",data:=.fields (List.toArray [vl,vu,.none])} } B H3 x v vl vu l u s3.heap.objs.size Q I4 r1 (Ho ..) pl pu q3;show A8 (model X.prog X.w) X.A (subscriptTail e (.Slice lo hi AD p2) v (.ref s3.heap.objs.size)) (EP X C B Q) X.xe {s3 with heap:=s3.heap.push {cls:=.type "slice",data:=.fields (List.toArray [vl,vu,.none])} };exact tail_any (ops:=[.ref s3.heap.objs.size,v]) ht hT hg (by ac_rfl)
def ycH(xs:List V)(lo hi:Option Int):List V:=(xs.drop (HT.sIx xs.length 0 lo)).take (HT.sIx xs.length xs.length hi-HT.sIx xs.length 0 lo)
def zdw(xs:List V)(lo hi:Option Int):(ycH xs lo hi).length<=xs.length:=by unfold ycH;rw[Ek,G0];lia
def yf8(K:AE):V->Option Int->Option Int->Hp->VK->Prop:=λx lo hi H Q=>∃a xs,x=.ref a/\SqT K H a xs /\
 ¬(HT.sIx xs.length 0 lo=0/\HT.sIx xs.length xs.length hi=xs.length)/\∀p,H p=AD->Q (.ref p) (upd H p (.tup (ycH xs lo hi)))
def zoB:SlR X (yf8 X.K):=by
 intro C s B H x v vl vu lo hi sl Q I rx hs pl pu h;let#[a,xs,rfl,hx,hw,q]:=h
 cases rx
 let#[its,r,ht,hz]:=I.tuple hx;have hlen:its.toArray.size=xs.length:=by rw[A7];exact r.length.symm
 refine#["tuple",_,BW.lookup,ht.typeIs,?_];refine HT.getItem_tuple_cut ht hs pl pu (by rw[hlen];exact hw) ?_ (by rw[hlen];exact hz);rw[hlen];refine#[.ref s.heap.objs.size,_,I.laid (t':=s.toks) (o:=.tup (ycH xs lo hi)) (λb ob q=>AR _ q) (AT _) ?_,rfl,q _ (I.hok.fresh (AT _))];exact#[BZ (zdw xs lo hi) hz,_,(r.drop (HT.sIx xs.length 0 lo)).take (HT.sIx xs.length xs.length hi-HT.sIx xs.length 0 lo),GW _ _]
def yey(K:AE):R2:=λx y H Q=>∃a b xs ys,x=.ref a/\y=.ref b/\SqT K H a xs/\SqT K H b ys/\xs≠[]/\xs.length+ys.length<=sizeLine /\
 (ys=[]->Q (.ref a) H)/\(ys≠[]->∀p,H p=AD->Q (.ref p) (upd H p (.tup (xs++ys))))
theorem Vals.nil_iff{xs:List V}{us:List AG}(r:Vals xs us):us=[] ↔ xs=[]:=by
 cases r with
 |nil=>simp
 |cons _ _=>simp
def zl3:OpR X (binaryOp .Add) (yey X.K):=by
 intro C s B H x y v u Q I rx ry h;let#[a,b,xs,ys,rfl,rfl,ha,hb,hx,hz,q1,q2]:=h
 cases rx
 cases ry
 let#[its,r1,p1,_]:=I.tuple ha;let#[its2,r2,p2,_]:=I.tuple hb;refine HT.cat_tup p1 p2 (λz=>hx (r1.nil_iff.mp z)) (λz=>#[.ref a,H,I,rfl,q1 (r2.nil_iff.mp z)]) (λz=>?_) (by rw[<-r1.length,<-r2.length];exact hz);refine#[.ref s.heap.objs.size,_,I.laid (t':=s.toks) (o:=.tup (xs++ys)) (λb ob q=>AR _ q) (AT _) ?_,rfl,q2 (λw=>z (r2.nil_iff.mpr w)) _ (I.hok.fresh (AT _))];exact#[by rw[Al];exact hz,_,r1.append r2,GW _ _]
end
def ixN(n:Nat)(i:Int):Option Nat:=if 0<=i then(if i<n then AA i.toNat else AD)else if -(n:Int)<=i then AA (i+n).toNat else AD
def atI{A:Type}(xs:List A)(i:Int):Option A:=(ixN xs.length i).bind λj=>xs[j]?
def zid{n:Nat}{i:Int}{j:Nat}(h:ixN n i=AA j):seqIndex? i n=AA j/\j<n/\-(n:Int)<=i/\i<n:=by
 unfold ixN at h
 by_cases h0:0<=i
 .rw[if_pos h0]at h
  by_cases h1:i<n
  .rw[if_pos h1]at h;have e:i.toNat=j:=A1 h;exact#[by rw[Ge h0 h1,e],by lia,by lia,h1]
  .rw[if_neg h1]at h;cases h
 .rw[if_neg h0]at h
  by_cases h1:-(n:Int)<=i
  .rw[if_pos h1]at h;have e:(i+n).toNat=j:=A1 h;exact#[by rw[seqIndex_neg () h1,e],by lia,h1,by lia]
  .rw[if_neg h1]at h;cases h
def zfY{A:Type}{xs:List A}{i:Int}{v:A}(h:atI xs i=AA v):∃j,seqIndex? i xs.length=AA j/\xs[j]?=AA v/\j<xs.length/\-(xs.length:Int)<=i/\i<xs.length:=by
 unfold atI at h
 cases e:ixN xs.length i with
 |none=>rw[e]at h;cases h
 |some j=>
  rw[e]at h;let#[h1,h2,h3,h4]:=zid e;exact#[j,h1,h,h2,h3,h4]
def ybL(b:AV):Prop:=∀o i,subscripted b AB o i=operate [o,i] (getItem o i)
def IxR(X:Cx)(r:R2):Prop:=
 ∀(value slice:AV) (C:List (AI×CP)) (s:AJ) (B:St) (H:Hp) (x y:V) (v u:AG) (Q:VK),Inv X C B H s->RelV x v->RelV y u->r x y H Q ->
  subscripted slice AB v u=operate [v,u] (getItem v u)->A8 (model X.prog X.w) X.A (subscriptTail value slice v u) (EP X C B Q) X.xe s
def MtR(X:Cx)(id:String)(r:V->List V->Hp->VK->Prop):Prop:=
 ∀(C:List (AI×CP)) (s:AJ) (B:St) (H:Hp) (x:V) (xs:List V) (v:AG) (us:List AG) (Q:VK),Inv X C B H s->RelV x v->Vals xs us->r x xs H Q ->
  A8 (model X.prog X.w) X.A (call (.builtin id) (v::us)) (EP X C B Q) X.xe s
section
variable {X:Cx}{a b:AV}{ta tb:TE}{pos:C6}
theorem IxR.or{r r':R2}(h:IxR X r)(h':IxR X r'):IxR X (λx y H Q=>r x y H Q \/ r' x y H Q):=by
 intro value slice C s B H x y v u Q I rx ry q hs;rcases q with q|q
 .exact h value slice C s B H x y v u Q I rx ry q hs
 .exact h' value slice C s B H x y v u Q I rx ry q hs
def zqr{r:R2}(hr:IxR X r)(ha:PE X a ta)(hb:PE X b tb)(hs:ybL b):PE X (.Subscript a b pos) (tOp r ta tb):=by intro C s B H Q I h;exact Gz (zra ha hb I h λv u s2 x y H2 I2 rx ry q=>hr a b C s2 B H2 x y v u Q I2 rx ry q (hs _ _))
def yfJ(K:AE):R2:=λx y H Q=>∃p xs i v,x=.ref p/\y=.int i/\SqL K H p xs/\atI xs i=AA v/\Q v H
def yfq(K:AE):R2:=λx y H Q=>∃p xs i v,x=.ref p/\y=.int i/\SqT K H p xs/\atI xs i=AA v/\Q v H
def yfu:R2:=λx y H Q=>∃z i c,x=.str z/\y=.int i/\z.length<=sizeLine/\atI z.cps.toList i=AA c/\Q (.str #[(List.toArray [c])]) H
def zrx:IxR X (yfJ X.K):=by
 intro value slice C s B H x y v u Q I rx ry h hs;let#[p,xs,i,z,rfl,rfl,hq,he,q]:=h
 cases rx
 let#[t,rfl]:=ry;let#[its,r,pl,hz]:=I.list hq;let#[j,h1,h2,h3,h4,h5]:=zfY he;let#[w,ew,rw']:=r.get h2;have hl:=r.length;have hn:=zqZ;have fin:EP X C B Q w s:=#[z,H,I,rw',q]
 by_cases h0:0<=i
 .have hj:i.toNat=j:=by rw[Ge h0 h5]at h1;exact A1 h1
  exact item_listR pl.isList h0 () (by rw[hj];simpa using ew) fin hs
 .have hj:(i+(its.toArray.size:Int)).toNat=j:=by rw[seqIndex_neg () h4]at h1;rw[A7,<-hl];exact A1 h1
  exact Ez (x:=w) pl.isList.typeIs GH.lookup
   (wpAny_getItem_list_neg (Q:=λr s'=>r=w/\EP X C B Q r s') pl.isList () (by rw[A7]<;>lia) () (by rw[hj];simpa using ew) #[rfl,fin]) hs
def zry:IxR X (yfq X.K):=by
 intro value slice C s B H x y v u Q I rx ry h hs;let#[p,xs,i,z,rfl,rfl,hq,he,q]:=h
 cases rx
 let#[t,rfl]:=ry;let#[its,r,pl,hz]:=I.tuple hq;let#[j,h1,h2,h3,h4,h5]:=zfY he;let#[w,ew,rw']:=r.get h2;have hl:=r.length;have hn:=zqZ;have fin:EP X C B Q w s:=#[z,H,I,rw',q];exact Ez (x:=w) pl.typeIs BW.lookup
  (getItem_tuple (j:=j) (Q:=λr s'=>r=w/\EP X C B Q r s') pl () () (by rw[A7,<-hl];exact h1) (by simpa using ew) #[rfl,fin]) hs
def zog:IxR X yfu:=by
 intro value slice C s B H x y v u Q I rx ry h hs;let#[z,i,c,rfl,rfl,hz,he,q]:=h;let#[t,rfl]:=rx;let#[t',rfl]:=ry;let#[j,h1,h2,h3,h4,h5]:=zfY he;have hl:z.cps.toList.length=z.length:=by simp[Str.length]
 rw[hl]at h1 h4 h5;have hn:=zqZ;exact tail_any (HA s z t) slot_str_getitem.lookup (getItem_str (c:=c) (by have e1:decide (i < -(2^63:Int))=false:=decide_eq_false ();have e2:decide (i ≥ 2^63)=false:=decide_eq_false ();rw[e1,e2,HK]) (by rw[h1];simpa using h2) #[.str #[(List.toArray [c])],H,I.tok _,#[_,rfl],q]) hs
def rIx(K:AE):R2:=λx y H Q=>yfJ K x y H Q \/ yfq K x y H Q \/ yfu x y H Q
def zgX:IxR X (rIx X.K):=zrx.or (zry.or zog)
def zhg(its:List AG)(n j:Nat)(u:AG):FA (·.setIfInBounds j u) {cls:=.type "list",data:=.seq its.toArray n}={cls:=.type "list",data:=.seq (its.set j u).toArray n}:=by simp[FA]
theorem Inv.lst{C:List (AI×CP)}{B:St}{H:Hp}{s:AJ}{p:AI}{xs:List V}(I:Inv X C B H s)(h:H p=AA (.lst xs)):
  ∃(its:List AG) (n:Nat),Vals xs its/\s.heap.get? p=AA {cls:=.type "list",data:=.seq its.toArray n}/\xs.length<=sizeLine:=by let#[z,its,n,r,e]:=I.hok p _ h;exact#[its,n,r,e,z]
theorem Inv.lstUpd{C:List (AI×CP)}{B:St}{H:Hp}{s:AJ}{p:AI}{xs ys:List V}{its its':List AG}{n n':Nat}{f:CP->CP}(I:Inv X C B H s)(h:H p=AA (.lst xs))
  (ho:s.heap.get? p=AA {cls:=.type "list",data:=.seq its.toArray n}) (hf:f {cls:=.type "list",data:=.seq its.toArray n}={cls:=.type "list",data:=.seq its'.toArray n'}) (r:Vals ys its') (hz:ys.length<=sizeLine) (t:Nat):
  Inv X C B (upd H p (.lst ys)) {s with heap:=s.heap.update p f,toks:=t}:=by
 have e:(s.heap.update p f).get? p=AA {cls:=.type "list",data:=.seq its'.toArray n'}:=by rw[FJ f ho (by rw[hf]<;>rfl),hf]
 refine I.write (x:=p) (e:=p) (by rw[h];trivial) (.inl rfl) (λb u hb q=>(DS _ _ (B0 hb)).trans q) #[_,e] ?_;exact#[hz,its',n',r,e]
def ydF:V->V->V->Hp->(Hp->Prop)->Prop:=λo i v H Q=>∃p xs k j,o=.ref p/\i=.int k/\H p=AA (.lst xs)/\ixN xs.length k=AA j/\Q (upd H p (.lst (xs.set j v)))
def zgQ:yfD X ydF:=by
 intro C s B H o i v ov iv u Q I ro ri rv h;let#[p,xs,k,j,rfl,rfl,hp,hj,q]:=h
 cases ro
 let#[t,rfl]:=ri;let#[its,n,r,ho,hz]:=I.lst hp;let#[h1,h2,h3,h4]:=zid hj;have hl:=r.length;have hn:=zqZ;have I':Inv X C B (upd H p (.lst (xs.set j v))) {s with heap:=s.heap.update p (FA (·.setIfInBounds j u))}:=
  I.lstUpd hp ho (zhg its n j u) (r.set rv j) (by rw[CN];exact hz) s.toks
 by_cases h0:0<=k
 .have hk:k.toNat=j:=by rw[Ge h0 h4]at h1;exact A1 h1
  exact PySem.W.ki_setAt ho h0 () (by rw[A7,<-hl];exact h4) (by rw[hk];exact#[_,I',q])
 .have hk:(k+(its.toArray.size:Int)).toNat=j:=by rw[seqIndex_neg () h3]at h1;rw[A7,<-hl];exact A1 h1
  exact PySem.W.ki_setBack ho () (by rw[A7,<-hl];exact h3) () (by rw[hk];exact#[_,I',q])
def ze6(lo hi:Option Int)(n:Nat):(sliceBounds lo hi AD n).1=((HT.sIx n 0 lo:Nat):Int)/\(sliceBounds lo hi AD n).2.1=((HT.sIx n n hi:Nat):Int)/\(sliceBounds lo hi AD n).2.2=1:=by
 refine#[?_,?_,rfl]
 .cases lo with
  |none=>simp[sliceBounds,HT.sIx]
  |some i=>
   erw[sliceBounds,HT.sIx,G1,show (1:Int) > 0 by decide,if_true]
   by_cases h:i<0
   .simp only[h,if_true]<;>lia
   .simp only[h,if_false]<;>lia
 .cases hi with
  |none=>simp[sliceBounds,HT.sIx]
  |some i=>
   erw[sliceBounds,HT.sIx,G1,show (1:Int) > 0 by decide,if_true]
   by_cases h:i<0
   .simp only[h,if_true]<;>lia
   .simp only[h,if_false]<;>lia
def zeS(its:List AG)(lo hi:Option Int):slicePick its.toArray lo hi AD=((its.drop (HT.sIx its.length 0 lo)).take (HT.sIx its.length its.length hi-HT.sIx its.length 0 lo)).toArray:=by let#[h1,h2,h3]:=ze6 lo hi its.toArray.size;unfold slicePick;rw[h1,h2,h3];erw[sliceRange_one,pick_run,A7]<;>rfl
def ygv(K:AE):V->Option Int->Option Int->Hp->VK->Prop:=λx lo hi H Q=>∃a xs,x=.ref a/\SqL K H a xs/\∀p,H p=AD->Q (.ref p) (upd H p (.lst (ycH xs lo hi)))
def ziX:SlR X (ygv X.K):=by
 intro C s B H x v vl vu lo hi sl Q I rx hs pl pu h;let#[a,xs,rfl,hx,q]:=h
 cases rx
 let#[its,r,ht,hz]:=I.list hx;have hlen:=r.length;refine#["list",_,GH.lookup,ht.isList.typeIs,?_];refine wpAny_getItem_list_slice ht.isList hs pl pu .none (by simp) ?_ (by rw[A7]<;>lia);rw[zeS,<-hlen];refine#[.ref s.heap.objs.size,_,I.laid (t':=s.toks) (o:=.lst (ycH xs lo hi)) (λb ob q=>AR _ q) (AT _) ?_,rfl,q _ (I.hok.fresh (AT _))];exact#[BZ (zdw xs lo hi) hz,_,0,(r.drop (HT.sIx xs.length 0 lo)).take (HT.sIx xs.length xs.length hi-HT.sIx xs.length 0 lo),Ac _ rfl]
def ybe:V->Bool
 |.non=>AC
 |.bl _=>AC
 |.int _=>AC
 |.str _=>AC
 |_=>AB
def eqV:V->V->Bool
 |.non,.non=>AC
 |.bl a,.bl b=>a==b
 |.bl a,.int b=>(if a then 1 else 0)==b
 |.int a,.bl b=>a==(if b then 1 else 0)
 |.int a,.int b=>a==b
 |.str a,.str b=>a==b
 |_,_=>AB
def zo6{A:BK}{s:AJ}{y x:V}{u v:AG}(ry:RelV y u)(rx:RelV x v)(fy:ybe y=AC)(fx:ybe x=AC):Hq A s u v (eqV y x):=by
 cases y with
 |non=>
  cases ry
  cases x with
  |non=>cases rx;exact SeqAt.EqAt.same _
  |bl b=>cases rx;exact SeqAt.EqAt.none_bool b
  |int b=>let#[t,rfl]:=rx;exact SeqAt.EqAt.none_int b t
  |str b=>let#[t,rfl]:=rx;exact SeqAt.EqAt.none_str b t
  |_=>exact absurd (show AB=AC from fx) Aa
 |bl a=>
  cases ry
  cases x with
  |non=>cases rx;exact SeqAt.EqAt.bool_none a
  |bl b=>cases rx;exact SeqAt.EqAt.bool_bool a b
  |int b=>let#[t,rfl]:=rx;exact SeqAt.EqAt.bool_int a b t
  |str b=>let#[t,rfl]:=rx;exact SeqAt.EqAt.bool_str a b t
  |_=>exact absurd (show AB=AC from fx) Aa
 |int a=>
  let#[t',rfl]:=ry
  cases x with
  |non=>cases rx;exact SeqAt.EqAt.int_none a t'
  |bl b=>cases rx;exact SeqAt.EqAt.int_bool a t' b
  |int b=>let#[t,rfl]:=rx;exact SeqAt.EqAt.int_int a t' b t
  |str b=>let#[t,rfl]:=rx;exact Fg a t' b t
  |_=>exact absurd (show AB=AC from fx) Aa
 |str a=>
  let#[t',rfl]:=ry
  cases x with
  |non=>cases rx;exact SeqAt.EqAt.str_none a t'
  |bl b=>cases rx;exact SeqAt.EqAt.str_bool a t' b
  |int b=>let#[t,rfl]:=rx;exact Fh a t' b t
  |str b=>let#[t,rfl]:=rx;exact SeqAt.EqAt.str_str a t' b t
  |_=>exact absurd (show AB=AC from fx) Aa
 |_=>exact absurd (show AB=AC from fy) Aa
def eqU(x:V)(u:AG):Bool:=match u with
 |.none=>eqV .non x
 |.bool b=>eqV (.bl b) x
 |.int i _=>eqV (.int i) x
 |.str z _=>eqV (.str z) x
 |_=>AB
def zlD{x y:V}{u:AG}(r:RelV y u)(f:ybe y=AC):eqU x u=eqV y x:=by
 cases y with
 |non=>cases r;rfl
 |bl b=>cases r;rfl
 |int i=>let#[t,rfl]:=r;rfl
 |str z=>let#[t,rfl]:=r;rfl
 |_=>exact absurd (show AB=AC from f) Aa
def zf9{x:V}:∀{xs:List V} {us:List AG},Vals xs us->xs.all ybe=AC->us.any (eqU x)=xs.any λy=>eqV y x
 |_,_,.nil,_=>rfl
 |y::xs,u::us,.cons r t,f=>by rw[Bl,AK]at f;rw[Br,Br,zlD r f.1,zf9 t f.2]
def zeC{A:BK}{s:AJ}{x:V}{v:AG}(rx:RelV x v)(fx:ybe x=AC):∀{xs:List V} {us:List AG},Vals xs us->xs.all ybe=AC->∀u∈us,Hq A s u v (eqU x u)
 |_,_,.nil,_=>λu hu=>by cases hu
 |y::xs,u::us,.cons r t,f=>λu' hu=>by
  rw[Bl,AK]at f;rcases AN.mp hu with rfl|hu
  .rw[zlD r f.1];exact zo6 r rx f.1 fx
  .exact zeC rx fx t f.2 u' hu
def inV(x:V)(xs:List V):Bool:=xs.any λy=>eqV y x
def rIn(K:AE)(neg:Bool):R2:=λx y H Q=>∃p xs,y=.ref p/\(SqL K H p xs \/ SqT K H p xs)/\ybe x=AC/\xs.all ybe=AC/\Q (.bl (if neg then !inV x xs else inV x xs)) H
def zfi:OpR X (compareOp .In) (rIn X.K AB):=by
 intro C s B H x y v u Q I rx ry h;let#[p,xs,rfl,hq,fx,fs,q]:=h
 cases ry
 rcases hq with hq|hq
 .let#[its,r,pl,hz]:=I.list hq;refine SeqAt.in_listAt (eqU x) pl.isList (λw hw=>zeC rx fx r fs w (by simpa using hw)) #[.bl _,H,I,rfl,?_];rw[show its.toArray.any (eqU x)=its.any (eqU x)by simp,zf9 r fs];exact q
 .let#[its,r,pl,hz]:=I.tuple hq;refine SeqAt.in_tupleAt (eqU x) pl (λw hw=>zeC rx fx r fs w (by simpa using hw)) #[.bl _,H,I,rfl,?_];rw[show its.toArray.any (eqU x)=its.any (eqU x)by simp,zf9 r fs];exact q
def zfs:yat X (.builtin "len") (λxs H Q=>∃p ys,xs=[.ref p]/\(SqL X.K H p ys \/ SqT X.K H p ys)/\Q (.int ys.length) H):=by
 intro C s B H xs us Q I r h;let#[p,ys,rfl,hq,q]:=h;let#[u,rfl,rx]:=vals1 r
 cases rx
 have hn:=zqZ;rcases hq with hq|hq
 .let#[its,r',pl,hz]:=I.list hq;have hlen:=r'.length;exact Calls.call_len_list pl.isList (by erw[A7]<;>lia) #[.int ys.length,H,I.tok _,#[s.toks+1,by rw[A7,hlen]],q]
 .let#[its,r',pl,hz]:=I.tuple hq;have hlen:=r'.length;exact len_tuple pl (by erw[A7]<;>lia) #[.int ys.length,H,I.tok _,#[s.toks+1,by rw[A7,hlen]],q]
def zfx:yat X (.builtin "len") (λxs H Q=>∃z,xs=[.str z]/\z.length<=sizeLine/\Q (.int z.length) H):=by intro C s B H xs us Q I r h;let#[z,rfl,hz,q]:=h;let#[u,rfl,t,rfl]:=vals1 r;have hn:=zqZ;exact len_str () #[.int z.length,H,I.tok _,#[_,rfl],q]
def zch:yat X (.type "tuple") (λxs H Q=>∃p ys,xs=[.ref p]/\((SqL X.K H p ys/\∀l,H l=AD->Q (.ref l) (upd H l (.tup ys))) \/ (SqT X.K H p ys/\Q (.ref p) H))):=by
 intro C s B H xs us Q I r h;let#[p,ys,rfl,h]:=h;let#[u,rfl,rx]:=vals1 r
 cases rx
 rcases h with⟨hq,q⟩|⟨hq,q⟩
 .let#[its,r',pl,hz]:=I.list hq;have hlen:=r'.length;refine call_tuple_list pl.isList (λh' kp=>?_) (by erw[A7]<;>lia);have I1:Inv X C B H {s with heap:=h'}:=I.kept (t':=s.toks) kp;have I2:Inv X C B (upd H h'.objs.size (.tup ys)) {s with heap:=h'.push {cls:=.type "tuple",data:=.seq its.toArray} }:=
   I1.laid (t':=s.toks) (λb o e=>AR _ e) (AT _) (show yal X.prog X.w _ _ _ (.tup ys)from #[hz,its,r',GW _ _])
  exact#[.ref h'.objs.size,_,I2,rfl,q _ (I1.hok.fresh (AT _))]
 .let#[its,r',pl,hz]:=I.tuple hq;exact call_tuple_same pl #[.ref p,H,I,rfl,q]
def tyV(K:AE)(T:String)(x:V)(H:Hp):Prop:=match x with
 |.str _=>T="str"
 |.int _=>T="int"
 |.ref p=>(T="list"/\∃xs,SqL K H p xs) \/ (T="tuple"/\∃o,K.lookup p=AA o/\o.cls=.type "tuple"/\o.dict=AD) \/
   (T="dict"/\((∃kvs,H p=AA (.dK kvs)) \/ ∃kvs,H p=AA (.dT kvs))) \/ (T="set"/\∃S n,H p=AA (.set S n))
 |_=>False
def zpY{C:List (AI×CP)}{B:St}{H:Hp}{s:AJ}{T:String}{x:V}{v:AG}(I:Inv X C B H s)(r:RelV x v)(ty:tyV X.K T x H):
  s.TypeIs v T/\∀a,v=.ref a->∃ob,s.heap.get? a=AA ob/\ob.dict=none:=by
 cases x with
 |str z=>
  let#[t,rfl]:=r
  cases (show T="str" from ty)
  exact#[HA s z t,λ_ e=>nomatch e]
 |int i=>
  let#[t,rfl]:=r
  cases (show T="int" from ty)
  exact#[typeIs_int s i t,λ_ e=>nomatch e]
 |ref p=>
  cases r
  rcases ty with⟨rfl,xs,hq⟩|⟨rfl,o,hk,hc,hd⟩|⟨rfl,hk⟩|⟨rfl,S,n,hk⟩
  .let#[its,_,pl,_]:=I.list hq;refine#[pl.isList.typeIs,λa e=>?_]
   cases e
   let#[o,n,e,c,hd,_]:=pl;exact#[o,e,hd]
  .refine#[#[o,I.kIn p o hk,hc],λa e=>?_]
   cases e
   exact#[o,I.kIn _ o hk,hd]
  .have z:∃o,s.heap.get? p=AA o/\o.ExactDict:=by
    rcases hk with⟨kvs,hk⟩|⟨kvs,hk⟩
    .let#[_,_,_,_,o,_,_,e,ex,_]:=I.hok p _ hk;exact#[o,e,ex]
    .let#[_,_,_,_,o,_,_,e,ex,_]:=I.hok p _ hk;exact#[o,e,ex]
   let#[o,e,ex]:=z;refine#[#[o,e,ex.1],λa e2=>?_]
   cases e2
   exact#[o,e,ex.2.1]
  .let#[o,_,_,_,e,ex,_]:=I.hok p _ hk;refine#[#[o,e,ex.1],λa e2=>?_]
   cases e2
   exact#[o,e,ex.2.1]
 |_=>exact Bt ty
def tBM(K:AE)(T:String)(r:V->List V->Hp->VK->Prop)(to:TE)(t:TA):TE:=λB H Q=>to B H λx H1=>tyV K T x H1/\t B H1 λxs H2=>r x xs H2 Q
variable {o e:AV}{es:List AV}{to:TE}{t:TA}{name:AQ}{apos cpos:C6}{T id:String}{r:V->List V->Hp->VK->Prop}
def zqp(pa:PlainAttrs T)(slot:Slot T name id)(hty:typeOf (.builtin id)=pure (.type "method_descriptor"))(hm:MtR X id r)(ho:PE X o to)(ha:PA X (e::es) t)
  (hbase:attributeBase o name X.env (eval o X.env)=eval o X.env:=by rfl)
  (hfew:((backTo cpos (starEach (e::es) X.env)).all (λx=>!x.1)&&(backToKw cpos (keywordEach [] X.env)).all (λx=>x.1.isSome)
   && decide ((e::es).length+([]:List Cc).length+(if ([]:List Cc).isEmpty then 0 else 1)<30))=true:=by rfl)
  (hline:(apos.endLine==cpos.line)=true:=by rfl) (hs:starEach (e::es) X.env=(AB,eval e X.env)::starEach es X.env:=by rfl) (hplain:(backTo cpos (starEach es X.env)).any (·.1)=false:=by rfl):
  PE X (.Call (.Attribute o name apos) (e::es) [] cpos) (tBM X.K T r to t):=by intro C s B H Q I h;refine wpAny_Call_method_late hbase hfew hline rfl (thn (ho C s B H _ I h) λv s1 kq=>?_);let#[x,H1,I1,r1,ty,q1]:=kq;let#[h1,h2]:=zpY I1 r1 ty;refine#[T,id,pa,slot,hty,h1,h2,?_];have hA:=ha cpos C s1 B H1 _ I1 q1;rw[hs]at hA ⊢;refine FB (by show (AB || (backTo cpos (starEach es X.env)).any (·.1))=AB;rw[hplain]<;>rfl) (FP ?_);exact thn hA λus s2 #[vs,H2,I2,r2,q2]=>hm C s2 B H2 x vs v us Q I2 r1 r2 q2
/- xs.append(e),list.index on a module's tuple .. are MtR facts of 06m -/
end
def MtM(X:Cx)(id:String)(r:V->List V->Hp->VK->Prop):Prop:=
 ∀(C:List (AI×CP)) (s:AJ) (B:St) (H:Hp) (x:V) (xs:List V) (v:AG) (us:List AG) (Q:VK),Inv X C B H s->RelV x v->Vals xs us->r x xs H Q ->
  A8 (model X.prog X.w) X.A (call (.builtin id) (v::us)) (EP X C B Q) X.xe s
theorem Vals.one:∀{x:V} {us:List AG},Vals [x] us->∃u,us=[u]/\RelV x u
  :=by intro x us h;rcases h with _|⟨r,q⟩;cases q;exact#[_,rfl,r]
section
variable {X:Cx}{B:List (AI×CP)}{A:St}{H:Hp}{s:AJ}{l b:AI}{xs ys zs:List V}
theorem Inv.lset{its its':List AG}{n:Nat}{f:Array AG->Array AG}{t':Nat}(I:Inv X B A H s)(hH:H l=AA (.lst xs))
  (e:s.heap.get? l=AA {cls:=.type "list",data:=.seq its.toArray n}) (hf:f its.toArray=its'.toArray) (hv:Vals ys its') (hz:ys.length<=sizeLine):
  Inv X B A (upd H l (.lst ys)) {s with heap:=s.heap.update l (FA f),toks:=t'}:=by have q:=PySem.IsL.update e f;rw[hf]at q;refine I.write (x:=l) (e:=l) (by rw[hH];exact trivial) (.inl rfl) (λb' u hb hu=>(DS s.heap (FA f) (B0 hb)).trans hu) #[_,q] ?_;exact#[hz,its',_,hv,q]
theorem Inv.lnew{its:List AG}{t':Nat}(I:Inv X B A H s)(hv:Vals ys its)(hz:ys.length<=sizeLine):
  Inv X B A (upd H s.heap.objs.size (.lst ys)) {s with heap:=s.heap.push {cls:=.type "list",data:=.seq its.toArray},toks:=t'}:=
 I.laid (λ_ _ q=>AR _ q) (AT _) #[hz,its,0,hv,Ac _ rfl]
theorem Inv.fresh(I:Inv X B A H s):H s.heap.objs.size=none:=I.hok.fresh (AT _)
theorem Inv.lstM(I:Inv X B A H s)(hH:H l=AA (.lst xs)):xs.length<=sizeLine/\∃(its:List AG) (n:Nat),Vals xs its/\xs.length=its.length/\s.heap.get? l=AA {cls:=.type "list",data:=.seq its.toArray n}:=by let#[z,its,n,r,e]:=I.hok l _ hH;exact#[z,its,n,r,r.length,e]
end
section
variable {X:Cx}
def yc7:V->List V->Hp->VK->Prop:=λx vs H Q=>∃l xs y,x=.ref l/\vs=[y]/\H l=AA (.lst xs)/\xs.length<sizeLine/\Q .non (upd H l (.lst (xs++[y])))
def zfP:MtM X "list.append" yc7:=by
 intro B s A H x vs v us Q I rx rv h;let#[l,xs,y,rfl,rfl,hH,hz,q]:=h
 cases rx
 let#[u,rfl,ru]:=rv.one;let#[z,its,n,r,hl,e]:=I.lstM hH;refine call_meets FK #[_,e,rfl] F.entry_list_append (F.args_list_append_2 _ _) (PySem.list_append l its.toArray n u (by rw[A7];lia)) #[e,?_];refine#[.non,_,I.lset (its':=its++[u]) hH e (by simp) (r.append (.cons ru .nil)) ?_,rfl,q];rw[Al,D6];lia
def ygt:R2:=λx y H Q=>∃l b xs zs,x=.ref l/\y=.ref b/\H l=AA (.lst xs)/\H b=AA (.lst zs)/\xs.length+zs.length<=sizeLine/\∀p,H p=AD->Q (.ref p) (upd H p (.lst (xs++zs)))
def zpN:OpR X (binaryOp .Add) ygt:=by
 intro B s A H x y v u Q I rx ry h;let#[l,b,xs,zs,rfl,rfl,hH,hB,hz,q]:=h
 cases rx
 cases ry
 let#[z,its,n,r,hl,e]:=I.lstM hH;let#[z2,its2,n2,r2,hl2,e2]:=I.lstM hB;refine PySem.P.add_list e e2 ?_ (by rw[A7,A7];lia);have ea:its.toArray++its2.toArray=(its++its2).toArray:=by simp
 rw[ea];exact#[.ref _,_,I.lnew (t':=s.toks) (r.append r2) (by rw[Al];lia),rfl,q _ I.fresh]
end
section
variable {prog:Af}{w:Au}{A:BK}{E:AG->AJ->Prop}{s:AJ}
end
section
variable {X:Cx}
end
end L2
namespace Att
open PySem PySem.W PySem.Calls PyProof.Rows
def zdu{P:Params}{h:BR}:∀(ns:List Int) (vs:List AG),WellAll P h vs (ns.map Hw)->Ey vs ns:=by
 intro ns
 induction ns with
 |nil=>
  intro vs w;rw[Ah]at w
  cases w
  exact .nil
 |cons n ns ih=>
  intro vs w;rw[AL]at w
  cases w with
  |cons a b=>
   cases a
   exact .cons _ _ (ih _ b)
def zjs{l:Ep}{n:Nat}(hn:l.most=AA n){P:Params}{h:BR}{args:List WData}{vals:List AG}
  (hpre:l.row.toRowW.claim.pre args=AC) (hwl:WellAll P h vals args):
  ∃a vs ns,vals=[Ar a]/\args=[WData.list (ns.map Hw)]/\h.get? a=AA {cls:=.type "list",data:=.seq vs.toArray}/\Ey vs ns/\ns.length<=n:=by
 have hsh:WShape.hasAll [] args [.list .int]=true:=(pre_splitW hpre).1;have hc:l.pre.holds [] {args:=args}=true:=(pre_splitW hpre).2;let#[d,r,rfl,h1,h2]:=hasAllW_cons hsh;obtain rfl:=hasAllW_nil h2;let#[xs,rfl,h3]:=hasW_list h1;let#[ns,rfl]:=items_int h3;have hlen:ns.length<=n:=by
  unfold OpenLaw.pre at hc;have h4:(WTm.not (.lt (.lit (.int (n:Int))) (.len (.arg 0)))).holds [] {args:=[.list (ns.map .int)]}=true:=by have h4:=(holds_andW hc).1;rw[hn]at h4;exact h4
  have h5:=condW_of h4 (w_not (w_lt w_lit (w_len_list (w_arg rfl))));rw[Ax]at h5;refine Nat.le_of_not_lt λq=>?_;have q':(n:Int)<((ns.length:Nat):Int):=by lia
  first
   |(rw[decide_eq_true q']at h5;exact absurd h5 ⋯)
   |(simp at h5;lia)
 cases hwl with
 |cons w1 w2=>
  cases w2
  cases w1 with
  |list ho hall=>exact#[_,_,ns,rfl,rfl,ho,zdu ns _ hall,hlen]
def ziB(l:Ep)(args:List WData):l.row.toRowW.claim.post args (.bool AC) args=true:=
 postW_of (r:=l.row.toRowW) (X:=(AC==AC))
  (show Hr [] (.bool AC) .bool=AC by first|rfl|decide|simp[Hr,WShape.arms,WShape.armsAll])
  (show (WTm.eq .res (.lit (.bool AC))).value [] {args:=args,res:=AA (.bool AC),after:=args}=AA (.bool (AC==AC))from w_eq_bool (w_res rfl) w_lit) rfl
theorem attach_call{l:Ep}{n:Nat}{q:Af}{loose:List AQ}{XP:(AQ->Option AG)->BR->Prop}{YP:Au->BR->Prop}{d:DefRec}
  (hn:l.most=AA n) (hdf:d.params.defaults=[])
  (call:∀(w:Au) (s₀ s₁:AJ) (mg mb:AQ->Option AG) (fa:AI) (o:CP) (pm cd doc:AG) (a:AI) (vs:List AG) (ns:List Int),
   Ground q loose [] XP w s₀ mg mb s₁.heap->YP w s₁.heap ->
   s₁.heap.get? fa=AA o->o.data=.func (docDef d.name d.params d.body d.scope pm cd doc)->s₁.heap.CodeRec cd d.name->mg d.name=AA (.ref fa) ->
   s₁.heap.get? a=AA {cls:=.type "list",data:=.seq vs.toArray}->Ey vs ns->ns.length<=n->s₁.gens=(List.toArray []) ->
   codeAny (model l.prog w) callerA (.call (.ref fa) #[[.ref a],[]]) (λr s'=>r=.ok (.ret (.bool AC))/\OldK s₁.heap s'.heap/\s'.os=s₁.os/\De s'.gens) s₁):
  Gr q loose XP YP l.row.toRowW d [] (λf vs=>HB f vs):=by intro w s₀ s₁ mg mb G Y fa o pm cd doc dV kV ho hd hcd hD hmg hg args vals as hpre hlay hrd hwl hlo;obtain rfl:dV=.none:=Dflts.none hD hdf;obtain rfl:kV=.none:=Dflts.noKw hD;let#[a,vs,ns,rfl,rfl,hobj,hints,hlen]:=zjs hn hpre hwl;refine enter_call (EB (call w s₀ s₁ mg mb fa o pm cd doc a vs ns G Y ho (fd_plain hd) hcd hmg hobj hints hlen hg) λr s' hq=>?_);let#[rfl,h2,h3,h4]:=hq;exact#[.inl #[.bool AC,.bool AC,[],rfl,λ_=>rfl,.bool AC,ziB l _,λ_=>#[Hu,λ_ hm=>(nomatch hm)]],h2,h3,h4]
section
variable {prog:Af}{w:Au}{A:BK}{E:AG->AJ->Prop}{s:AJ}{K:AE}
end
end Att
namespace L2
open PySem PySem.Spec PyProof.Rows
def zfK:∀{vs:List AG} {ns:List Int},Ey vs ns->Vals (ns.map V.int) vs
 |_,_,.nil=>.nil
 |_,_,.cons n t h=>.cons #[t,rfl] (zfK h)
def Only(H:Hp):Prop:=∀b,H b=AD \/ ∃o xs,H b=AA (.frz o (.lst xs))
def zj5{P:Af}{w:Au}{K:AE}{mg mb:AQ->Option AG}{CX:CXT}{k:Nat}{fa a:AI}{fd:BQ}{x:AQ}{sp:Sp}{s₁:AJ}{vs:List AG}{ns:List Int}
  (KX:K.In s₁.heap) (hns:s₁.heap.Ns mainGlobals mg) (hb:s₁.heap.Ns builtinsNs mb) (hbb:∀x:AQ,x ≠ "__name__"->mb x=bootBuiltins x) (hlim:s₁.heap.NoLimit) (hg:s₁.gens=(List.toArray []))
  (ha:s₁.heap.get? a=AA {cls:=.type "list",data:=.seq vs.toArray}) (hi:Ey vs ns) (hl:ns.length<=sizeLine) (hr:yaI k callerA)
  (F:∀base:BR,K.In base->base.Ns mainGlobals mg->yaW P w K mg base CX k fa fd [x] sp) (hbind:∀(s:AJ) (u:AG),F0 s fd #[[u],[]] [(x,u)])
  (hsp:∀H:Hp,Only H->SqL K H a (ns.map V.int)->sp [.ref a] H (λv _=>v=.bl AC) λ_ _ _=>False)
  (hCX:∀H e s',CX [] H s₁ (λ_ _ _=>False) e s'->False):
  codeAny (model P w) callerA (.call (.ref fa) #[[.ref a],[]]) (λr s'=>r=.ok (.ret (.bool AC))/\OldK s₁.heap s'.heap/\s'.os=s₁.os/\De s'.gens) s₁:=by
 have rv:=zfK hi;have lenV:=hi.length;have core:∀H:Hp,Only H->SqL K H a (ns.map V.int)->HOk P w H s₁.heap->(∀b,H b≠AD->b=a)->(H a≠AD->K.lookup a=AD) ->
   codeAny (model P w) callerA (.call (.ref fa) #[[.ref a],[]]) (λr s'=>r=.ok (.ret (.bool AC))/\OldK s₁.heap s'.heap/\s'.os=s₁.os/\De s'.gens) s₁:=by
  intro H hO hS hok hA hK;have base_of:∀{b:AI} {o:CP},s₁.heap.get? b=AA o->H b=AD->(ycx s₁.heap H).get? b=AA o:=λe n=>zkP e n;have noA:∀{b:AI} {o:CP} {es:Array CV} {ep:Nat},s₁.heap.get? b=AA o->o.data=.dict es ep->H b=none:=λ{b o es ep} e d=>by
   cases q:H b with
   |none=>rfl
   |some u=>
    have e':b=a:=hA b (by rw[q];simp);subst e';rw[ha]at e;cases e;have d':Data.seq vs.toArray _=Data.dict es ep:=d
    cases d'
  have nsK:∀{b:AI} {m:AQ->Option AG},s₁.heap.Ns b m->(ycx s₁.heap H).Ns b m:=λ{b m} #[o,es,ep,e,d,r]=>#[o,es,ep,base_of e (noA e d),d,r];have hKb:K.In (ycx s₁.heap H):=λb o e=>base_of (KX b o e) (by
   cases q:H b with
   |none=>rfl
   |some u=>
    have e':b=a:=hA b (by rw[q];simp);subst e';rw[hK (by rw[q];simp)]at e;cases e)
  have hM:Mod K mg (ycx s₁.heap H):=#[hKb,nsK hns,#[mb,nsK hb,hbb],let #[mc,h1,h2]:=hlim;#[mc,nsK h1,h2]];have e0:ycR P w K mg (ycx s₁.heap H) callerA [] s₁ H:=#[rfl,hM,λb o e=>znh e,HW (zhG _ _),trivial,λb hb=>absurd (show b∈([]:List AI)from hb) (by simp),hok,.of_eq hg];refine EB ((F _ hKb (nsK hns)).run callerA [] s₁ H #[[.ref a],[]] [.ref a] [.ref a] _ _ hr e0 (hbind s₁ (.ref a)) (.cons rfl .nil) (hsp H hO hS)) λr s' h=>?_
  cases r with
  |error e=>exact(hCX H e s' h).elim
  |ok fl=>
   cases fl with
   |next=>exact Bt h
   |brk=>exact Bt h
   |cont=>exact Bt h
   |ret u=>
    let#[v,H',os,bare,un,hok',r',q]:=h;have q':v=.bl true:=q;subst q';obtain rfl:u=EF true:=r';refine#[rfl,OldK.of_keep λb o e=>?_,os,bare]
    cases q:H b with
    |none=>exact un.keep b o e q (by intro z;exact absurd (show b∈([]:List AI)from z) (by simp)) (by simp)
    |some u=>
     rcases hO b with z|⟨ob,xs,z⟩
     .rw[q]at z;cases z
     .have z2:=un.frzs b ob _ z;let#[e1,_]:=hok b _ z;let#[e2,_]:=hok' b _ z2;rw[e]at e1;cases e1;exact e2
 cases hk:K.lookup a with
 |some o=>
  have e:=KX a o hk;rw[ha]at e
  cases e
  refine core (λ_=>AD) (λ_=>.inl rfl) (.inr #[_,vs.toArray,_,hk,rfl,rfl,rfl,by rw[A7,lenV];exact hl,by simpa using rv]) (λb u z=>by have z':(AD:Option HO)=AA u:=z;cases z') (λb z=>absurd rfl z) λz=>absurd rfl z
 |none=>
  refine core (λb=>if b=a then AA (.frz {cls:=.type "list",data:=.seq vs.toArray} (.lst (ns.map V.int)))else AD) (λb=>?_) (.inl (.inr #[{cls:=.type "list",data:=.seq vs.toArray},if_pos rfl])) (λb u z=>?_) (λb z=>?_) λ_=>hk
  .by_cases hb:b=a
   .exact .inr #[_,_,if_pos hb]
   .exact .inl (if_neg hb)
  .by_cases hb:b=a
   .have z':=(if_pos hb).symm.trans z
    cases z'
    subst hb;exact#[ha,by rw[Ax];exact hl,vs,_,rv,ha]
   .have z':=(if_neg hb).symm.trans z
    cases z'
  .by_cases hb:b=a
   .exact hb
   .exact absurd (if_neg hb) z
theorem walk_of{l:Ep}{n k:Nat}{q:Af}{loose:List AQ}{XP:(AQ->Option AG)->BR->Prop}{YP:Au->BR->Prop}{d:DefRec}{K:Params->AE}{CX:Au->CXT}{sp:Au->Sp}{x:AQ}
  (hn:l.most=AA n) (hn2:n<=sizeLine) (hdf:d.params.defaults=[]) (hr:yaI k callerA)
  (hY:∀(w:Au) (h:BR),YP w h->(K w.params).In h)
  (F:∀(w:Au) (mg:AQ->Option AG) (fa:AI) (h:BR),(K w.params).In h->h.Ns mainGlobals mg->mg d.name=AA (.ref fa) ->
   ∃fd:BQ,(∀(s:AJ) (u:AG),F0 s fd #[[u],[]] [(x,u)]) /\
    ∀base:BR,(K w.params).In base->base.Ns mainGlobals mg->yaW l.prog w (K w.params) mg base (CX w) k fa fd [x] (sp w))
  (hsp:∀(w:Au) (H:Hp) (a:AI) (ns:List Int),ns.length<=n->Only H->SqL (K w.params) H a (ns.map V.int)->sp w [.ref a] H (λv _=>v=.bl AC) λ_ _ _=>False)
  (hCX:∀(w:Au) (H:Hp) (s:AJ) (e:AG) (s':AJ),CX w [] H s (λ_ _ _=>False) e s'->False):
  Gr q loose XP YP l.row.toRowW d [] (λf vs=>HB f vs):=by refine Att.attach_call hn hdf λw s₀ s₁ mg mb fa o pm cd doc a vs ns G Y ho hd hcd hmg hobj hints hlen hg=>?_;have KX:=hY w _ Y;let#[fd,hb,hF]:=F w mg fa _ KX G.T.g hmg;exact zj5 KX G.T.g G.T.b G.T.builtins G.T.nolimit hg hobj hints (BZ hlen hn2) hr hF hb (λH hO hS=>hsp w H a ns hlen hO hS) λH e s'=>hCX w H s₁ e s'
def inClass(s:CH)(j:Nat):Stmt:=match s with
 |.ClassDef _ _ _ body _ _ _ _ _ _ _=>body.getD j (.Pass #[0,0,0,0])
 |_=>.Pass #[0,0,0,0]
def yaq(s:CH):Arguments:=match s with
 |.FunctionDef _ a _ _ _ _ _ _ _ _=>a
 |_=>{posonlyargs:=[],args:=[],vararg:=AD,kwonlyargs:=[],kw_defaults:=[],kwarg:=AD,defaults:=[]}
def yam(s:CH):List Stmt:=match s with
 |.FunctionDef _ _ b _ _ _ _ _ _ _=>b
 |_=>[]
def yN(s:CH):Scope:=match s with
 |.FunctionDef _ _ _ _ _ _ sc _ _ _=>sc
 |_=>{kind:=.function,names:=[],isGenerator:=AB,isCoroutine:=AB}
structure Fun(K:AE)(x qual:AQ)(st:CH)(f:AI)(fd:BQ):Prop where
 ex:∃(oc:AG) (od:Option AI) (kV doc pm:AG) (an:Option AI) (cdv ct:AG) (osl:Array (Option AG)),
  fd=Bi x qual (yaq st) (yam st) (yN st) .none kV doc pm an cdv ct/\K.lookup f=AA #[oc,od,.func fd,osl]/\C0 K cdv qual=AC
 kp:BH K (.ref f)=AC
section
variable {P:Af}{w:Au}{K:AE}{mg:AQ->Option AG}{base:BR}
theorem Fun.binds{x qual:AQ}{st:CH}{f:AI}{fd:BQ}{ps:List AQ}(F:Fun K x qual st f fd)
  (h:∀(kV doc pm:AG) (an:Option AI) (cdv ct:AG) (us:List AG),us.length=ps.length->bindArgs (Bi x qual (yaq st) (yam st) (yN st) .none kV doc pm an cdv ct) #[us,[]]=pure (ps.zip us)):Binds K fd ps []:=by let#[oc,od,kV,doc,pm,an,cdv,ct,osl,rfl,lk,hcd]:=F.ex;exact .all (h kV doc pm an cdv ct)
end
def zni{A:BK}{k:Nat}(hr:yaI k A):A.units+1<cLine:=ER (Nat.add_le_add_left (by decide:1<=64) _) hr.units
section
variable {X:Cx}
end
end L2
namespace WE
open PySem PySem.Spec PyProof.Rows
open AutoSeq1 (wpAny_loadPart')
section
variable {pg:Af}{wd:Au}{A:BK}{Er:AG->AJ->Prop}{s:AJ}
def zcJ{it t:AI}{i:Nat}{xs:Array AG}{x:AG}{Q:AG->AJ->Prop}(hi:s.heap.IsTupleIter it t i)(ht:s.heap.IsTuple t xs)(hx:xs[i]?=AA x)
  (k:∀h',h'.IsTupleIter it t (i+1)->Cv it s.heap h'->Q x {s with heap:=h'}):A8 (model pg wd) A (B7 (.ref it)) Q Er s:=by let#[oi,gi,ci,di]:=id hi;let#[ot,gt,_,nt,dt]:=ht;unfold B7;refine AH (Bn (name:=AF "__next__") hi.typeIs C1 (Cf C1 hi.typeIs EC ?_ (Dw _)));show A8 _ _ (field (.ref it) 0 >>= _) _ _ _;refine AH (Bc gi di (x:=.ref t) rfl ?_);show A8 _ _ (if (Ar t==CZ)=AC then _ else _) _ _ _;rw[if_neg (show ¬((Ar t==CZ)=AC)from λz=>Aa z)];show A8 _ _ (field (.ref it) 1 >>= _) _ _ _;refine AH (Bc gi di (x:=.int i 0) rfl ?_);show A8 _ _ (seqItems? (.ref t) >>= _) _ _ _;refine AH (Cg gt dt ?_);erw[CL,hx];refine AH (FQ gi di (by simp) (AW #[x,rfl,AW (k _ ?_ (F7 ..))]));refine#[_,FJ _ gi (Obj.isFreed_of_fields (Fm di _)),(Obj.cls_mapFields ..).trans ci,?_];rw[Fm di];simp[rawInt]
def zfl{it t:AI}{i:Nat}{xs:Array AG}{Q:AG->AJ->Prop}(hh:A.handled=AD)(hi:s.heap.IsTupleIter it t i)(ht:s.heap.IsTuple t xs)(hx:xs[i]?=AD)
  (k:∀h' e,Heap.ExtBut it s.heap h'->(∃o,h'.get? e=AA o/\o.cls=.type "StopIteration")->Er (.ref e) {s with heap:=h'}):A8 (model pg wd) A (B7 (.ref it)) Q Er s:=by
 let#[oi,gi,ci,di]:=id hi;let#[ot,gt,_,nt,dt]:=ht;unfold B7;refine AH (Bn (name:=AF "__next__") hi.typeIs C1 (Cf C1 hi.typeIs EC ?_ (Dw _)));show A8 _ _ (field (.ref it) 0 >>= _) _ _ _;refine AH (Bc gi di (x:=.ref t) rfl ?_);show A8 _ _ (if (Ar t==CZ)=AC then _ else _) _ _ _;rw[if_neg (show ¬((Ar t==CZ)=AC)from λz=>Aa z)];show A8 _ _ (field (.ref it) 1 >>= _) _ _ _;refine AH (Bc gi di (x:=.int i 0) rfl ?_);show A8 _ _ (seqItems? (.ref t) >>= _) _ _ _;refine AH (Cg gt dt ?_);erw[CL,hx];refine AH (Et (AH (FQ gi di (by simp) ?_)));show A8 _ _ (newExc (.type "StopIteration") [] >>= _) _ _ _;refine AH ?_;erw[newExc,newTuple];refine AH (Bs ?_ (by size_fits));refine AH (m:=firstArgMember _ _) (wpAny_of_eq (a:=CZ) (by first|rfl|(erw[firstArgMember];rfl)) ?_);refine Bs ?_ (by size_fits);erw[raiseNew];refine AH (wpAny_handled ?_);first|rw[show A.in1.handled=AD from hh]|rw[hh]
 refine AH (AW (wpAny_throw ?_));exact k _ _ (((F7 ..).extBut.push _).push _) #[_,Ac _ rfl,rfl]
end
theorem draws_tuple{pg:Af}{wd:Au}{A:BK}(hh:A.handled=AD)(it t:AI)(hne:t≠it)(xs:Array AG):
  Draws pg wd A it [it,t] xs.size (λi v=>xs[i]?=AA v) (λi h=>h.IsTupleIter it t i/\h.IsTuple t xs) where
 live:=λ_ _ st=>let #[o,g,_]:=st.1;#[o,g]
 frame:=λ_ _ _ st kp=>#[let #[o,g,r]:=st.1;#[o,kp it (by simp) o g,r],let #[o,g,r]:=st.2;#[o,kp t (by simp) o g,r]]
 item:=λi s Q E hi st hQ=>zcJ st.1 st.2 (x:=xs[i]) (by simp[hi]) λh' hit' hs'=>hQ _ h' s.toks (by simp[hi]) #[hit',st.2.extBut hs'.extBut hne] hs'
 done:=λs Q E st hE=>zfl hh st.1 st.2 (by simp) hE
def zf5(l:AI)(xs:Array AG)(n:Nat)(dc:Option AI)(sl:Array (Option AG)):
  Meets (HX.«enumerate.__new__» #[[.type "enumerate",.ref l],[]]) (λ_ R s=>s.heap.get? l=AA {cls:=.type "tuple",dict:=dc,data:=.seq xs n,slots:=sl} /\
   R (.ok (.ret (.ref (s.heap.push {cls:=.type "tuple_iterator",data:=.fields (List.toArray [.ref l,.int 0 0])}).objs.size)))
    {s with heap:=(s.heap.push {cls:=.type "tuple_iterator",data:=.fields (List.toArray [.ref l,.int 0 0])}).push {cls:=.type "enumerate",data:=.fields (List.toArray [.none,.bool AB,.ref s.heap.objs.size,rawInt 0,.none,.none])} }):=
 .of_wp λprog w A R s h=>by
  let#[hp,g,d,tk,os]:=s;let#[gl,h]:=h;have hsub:=sub_enumerate;have hT:GI (Gf #[hp,g,d,tk,os]) l xs:=#[_,gl,rfl,n,rfl]
  wp_walk using wpAny_loadPart' gl
  refine wpAny_stack_any λst=>AW ?_;split
  .rename_i c _ _ _ _ _
   cases (c==Fi "enumerate")
   .wp_walk using wpAny_loadPart' gl,C2 hT
    exact#[_,rfl,h]
   .wp_walk using wpAny_loadPart' gl,C2 hT
    exact#[_,rfl,h]
  .wp_walk using wpAny_loadPart' gl,C2 hT
   exact#[_,rfl,h]
theorem call_enumT{pg:Af}{wd:Au}{A:BK}{Er:AG->AJ->Prop}{s:AJ}{l:AI}{xs:Array AG}{Q:AG->AJ->Prop}(hT:s.heap.IsTuple l xs)
  (k:∀h',IsEnum h' (s.heap.objs.size+1) s.heap.objs.size 0 .none->h'.IsTupleIter s.heap.objs.size l 0->h'.objs.size=s.heap.objs.size+2 ->
   (∀b o,s.heap.get? b=AA o->h'.get? b=AA o)->Q (.ref (s.heap.objs.size+1)) {s with heap:=h'}):A8 (model pg wd) A (call (.type "enumerate") [.ref l]) Q Er s:=by
 let#[#[c,dct,dt,sl],gl,hc,n,hd]:=hT
 cases (show c=.type "tuple" from hc)
 cases (show dt=.seq xs n from hd)
 refine callType_new F.called_enumerate ⋯ (F.typeCall_enumerate_1 _) (F.newCall_enumerate_1 _) (λobj=>F.args_object_init_2 obj _) F.entry_enumerate_new (zf5 l xs n dct sl) #[gl,?_];have hz:(s.heap.push {cls:=.type "tuple_iterator",data:=.fields (List.toArray [.ref l,.int 0 0])}).objs.size=s.heap.objs.size+1:=CD ..;show _/\_;rw[hz];have he:IsEnum ((s.heap.push {cls:=.type "tuple_iterator",data:=.fields (List.toArray [.ref l,.int 0 0])}).push {cls:=.type "enumerate",data:=.fields (List.toArray [.none,.bool AB,.ref s.heap.objs.size,rawInt 0,.none,.none])}) (s.heap.objs.size+1) s.heap.objs.size 0 .none:=by have q:=Ac (s.heap.push {cls:=.type "tuple_iterator",data:=.fields (List.toArray [.ref l,.int 0 0])}) (o:={cls:=.type "enumerate",data:=.fields (List.toArray [.none,.bool AB,.ref s.heap.objs.size,rawInt 0,.none,.none])}) rfl;rw[hz]at q;exact q
 exact#[#[_,he,rfl],k _ he #[_,AR _ (Ac _ rfl),rfl,rfl] (by rw[CD,hz]) λb o y=>AR _ (AR _ y)]
end WE
namespace L2
open PySem PySem.Spec PyProof.Rows
section
variable {X:Cx}
def ydC(i j:Int):Prop:=0<j/\j<10000000000000000000000000000000000000000000000000000000000000000000000
def zk2:OpR X (binaryOp .FloorDiv) (rI ydC λi j=>.int (i/j)):=opI λi j _ _ _ _ _ hc q=>by
 let#[h1,h2]:=hc;refine floordiv_int () (by rw[EL i ()];exact q) (.inl (PyProof.noPylong_of_log2 ?_));have h0:j.natAbs≠0:=by lia
 refine A9 ((Nat.log2_lt h0).mpr (?_:j.natAbs<2^250)) ⋯;have e:(10000000000000000000000000000000000000000000000000000000000000000000000:Nat)<2^250:=by decide
 lia
end
section
variable {X:Cx}{B:List (AI×CP)}{A:St}{H:Hp}{s:AJ}{h':BR}
theorem Inv.turnLaid{t':Nat}{ch:List AI}{T:AI}{o:HO}(I:Inv X B A H s)(hf:∀b∈ch,ybC X B H b)(k:∀b u,b∉ch->s.heap.get? b=AA u->h'.get? b=AA u)
  (hp:s.heap.objs.size<=T) (new:yal X.prog X.w (upd H T o) h' T o):Inv X B A (upd H T o) {s with heap:=h',toks:=t'}:=by
 have hn:H T=none:=I.hok.fresh hp;have nch:∀b u,H b=AA u->b∉ch:=λb u e z=>by
  have q:=(hf b z).1;rw[e]at q
  cases q
 refine I.step (g':=s.gens) (d':=s.drawn) (ch:=ch) (λb hb=>?_) (λb u _ _ hc e _=>k b u hc e) (λb u _ _ hc e _=>#[u.slots,k b u hc e]) (λb u _ e n=>?_) (λb u hc e=>#[u,k b u hc e]) (λb xs e=>?_) (λb u v e=>?_) (λb ps e=>#[(List.toArray []),?_]) (λm hm=>?_) (λb u e=>?_) I.bare
 .let#[f0,f1,f2,f3,f4,f5]:=hf b hb;exact#[f3,f1,f4,f5]
 .rw[zm (BG (A9 (A2 e) hp))];exact n
 .rw[zm (zq e hn)];exact e
 .rw[zm (zq e hn)];exact e
 .rw[zm (zq e hn),e];simp
 .let#[ob,es,ep,ho,r]:=hm;exact#[ob,es,ep,k _ ob (λz=>(hf _ z).2.1 rfl) ho,r]
 .by_cases hb:b=T
  .subst hb;rw[zu]at e
   cases e
   exact new
  .rw[zm hb]at e;refine(I.hok b u e).stay (λc v hc q=>k c v ?_ q) (λc q=>by rw[zm (zq q hn)];exact q) λc xs q=>by rw[zm (zq q hn)];exact q
   rcases hc with z|z
   .rw[z];exact nch b u e
   .exact nch c _ z
theorem Inv.turnedL{t':Nat}{ch:List AI}(I:Inv X B A H s)(hf:∀b∈ch,ybC X B H b)(k:∀b u,b∉ch->s.heap.get? b=AA u->h'.get? b=AA u):Inv X B A H {s with heap:=h',toks:=t'}:=by
 have nch:∀b u,H b=AA u->b∉ch:=λb u e z=>by
  have q:=(hf b z).1;rw[e]at q
  cases q
 refine I.step (g':=s.gens) (d':=s.drawn) (ch:=ch) (λb hb=>?_) (λb u _ _ hc e _=>k b u hc e) (λb u _ _ hc e _=>#[u.slots,k b u hc e]) (λ_ _ _ _ n=>n) (λb u hc e=>#[u,k b u hc e]) (λ_ _ e=>e) (λ_ _ _ e=>e) (λb ps e=>#[(List.toArray []),by rw[e];simp]) (λm hm=>?_) (λb u e=>?_) I.bare
 .let#[f0,f1,f2,f3,f4,f5]:=hf b hb;exact#[f3,f1,f4,f5]
 .let#[ob,es,ep,ho,r]:=hm;exact#[ob,es,ep,k _ ob (λz=>(hf _ z).2.1 rfl) ho,r]
 .refine(I.hok b u e).stay (λc v hc q=>k c v ?_ q) (λ_ q=>q) λ_ _ q=>q;rcases hc with z|z
  .rw[z];exact nch b u e
  .exact nch c _ z
end
def Ite(K:AE)(a:AI):It:=
 #[λi H=>∃xs x,SqT K H a xs/\xs[i]?=AA x,λi H x H'=>∃T,H T=AD/\x=.ref T/\∀xs y,SqT K H a xs->xs[i]?=AA y->H'=upd H T (.tup [.int i,y]),λi H=>∃xs,SqT K H a xs/\xs.length=i]
def zd6{h:BR}{a b:AI}{o u:CP}(x:h.get? a=AA o)(y:h.get? b=AA u)(z:o.cls≠u.cls):a≠b:=λe=>by
 subst e;rw[x]at y
 cases y
 exact z rfl
def zhF{P:Af}{w:Au}{K:AE}{es:List AV}{kk:Nat}{pos:C6}(a e it:AI):
  Turn P w K (.Tuple es kk pos) (Ite K a) [e,it] e (λi h=>(∃old,IsEnum h e it i old)/\h.IsTupleIter it a i) where
 mem:=by simp
 obj:=λi h st b hb=>by
  let#[#[old,he],oi,gi,ci,di]:=st;rcases AN.mp hb with z|z
  .subst z;exact#[_,he,λv y=>nomatch y]
  .have z:b=it:=by simpa using z
   subst z;exact#[oi,gi,λv y=>by rw[di]at y;cases y]
 keep:=λi h h' st k=>by let#[#[old,he],oi,gi,r]:=st;exact#[#[old,k e (by simp) _ he],oi,k it (by simp) _ gi,r]
 item:=by
  intro X hP hw hK hc i C s B H E I hf st hg;subst hP hw hK;let#[xs,x,hq,hx]:=hg;let#[its,rv,p,hz]:=I.tuple hq;let#[#[old,he],hi]:=st;let#[oi,gi,ci,di]:=id hi;let#[oa,ga,ca,na,da]:=id p;have nai:a≠it:=zd6 ga gi (by rw[ca,ci];exact λz=>absurd (Cr z) ⋯);have nei:e≠it:=zd6 he gi (by rw[ci];exact λz=>absurd (Cr z) ⋯);have nea:e≠a:=zd6 he ga (by rw[ca];exact λz=>absurd (Cr z) ⋯);have hl:=rv.length;have hil:i<its.toArray.size:=by have:=(BY.mp hx).1;simpa using (by lia:i<its.length)
  have W:=GJ (prog:=X.prog) (w:=X.w) (A:=X.A) (WE.draws_tuple (pg:=X.prog) (wd:=X.w) (A:=X.A.in1) (I.ok.hd hc) it a nai its.toArray) e nei (by simp[nei,nea]) (by simp);refine W.item i s _ E hil #[#[old,he],hi,p] λT vals h1 tk hP hsz hT mid kp=>#[.ref T,rfl,?_];refine W.go es kk pos i T _ _ E mid λh2 st2 kp2=>?_;let#[t,y,hy,rfl]:=hP;let#[u,hu,ru]:=rv.get hx;have ey:y=u:=A1 (hy.symm.trans (by simpa using hu));subst ey;have hch:∀b o,b∉[e,it]->s.heap.get? b=AA o->h2.get? b=AA o:=λb o hb q=>kp2 b o hb (kp b o hb q);have hTw:=W.apart i T h1 mid;have new:yal X.prog X.w (upd H T (.tup [.int i,x])) h2 T (.tup [.int i,x]):=by let#[o,g,r]:=hT;exact#[by show 2<=sizeLine;decide,[.int i t,y],.cons #[t,rfl] (.cons ru .nil),o,kp2 T o hTw g,r]
  have I2:=I.turnLaid (t':=tk) hf hch hsz new;refine#[.ref T,_,I2,rfl,#[T,I.hok.fresh hsz,rfl,λys z hy' hz'=>?_],#[st2.1,st2.2.1],λb hb=>?_]
  .rw[I.tuple_inj hy' hq]at hz';rw[hx]at hz'
   cases hz'
   rfl
  .rw[zm (λz:b=T=>hTw (z ▸ hb))];exact(hf b hb).1
 done:=by
  intro X hP hw hK hc i C s B H E I hf st hg;subst hP hw hK;let#[xs,hq,hx]:=hg;let#[its,rv,p,hz]:=I.tuple hq;let#[#[old,he],hi]:=st;let#[oi,gi,ci,di]:=id hi;let#[oa,ga,ca,na,da]:=id p;have nai:a≠it:=zd6 ga gi (by rw[ca,ci];exact λz=>absurd (Cr z) ⋯);have nei:e≠it:=zd6 he gi (by rw[ci];exact λz=>absurd (Cr z) ⋯);have nea:e≠a:=zd6 he ga (by rw[ca];exact λz=>absurd (Cr z) ⋯);have hl:=rv.length;have W:=GJ (prog:=X.prog) (w:=X.w) (A:=X.A) (WE.draws_tuple (pg:=X.prog) (wd:=X.w) (A:=X.A.in1) (I.ok.hd hc) it a nai its.toArray) e nei (by simp[nei,nea]) (by simp);have en:its.toArray.size=i:=by simp;lia
  refine W.done s _ E (by rw[en];exact#[#[old,he],hi,p]) λh2 tk kp=>#[rfl,I.turnedL (t':=tk) hf kp]
 self:=λ_ _ _ _ _ st q=>by let#[#[old,he],_]:=st;exact GL he q
def yf7(K:AE)(ta:TA):TI:=λA H R=>ta A H λvs H1=>∃a,vs=[.ref a]/\(∃xs,SqT K H1 a xs)/\R (Ite K a) H1
def zkG{X:Cx}{a:AV}{es:List AV}{kk:Nat}{tp:C6}{ta:TA}{p pos:C6}(hg:Gl X "enumerate")(hm:X.mg "enumerate"=AD)(ha:PA X [a] ta)(hs:starEach [a] X.env=[(AB,eval a X.env)]:=by rfl):
  PI X (.Tuple es kk tp) (.Call (.Name "enumerate" p) [a] [] pos) (yf7 X.K ta):=by
 intro B s A H R I h;refine Bf (zeg I hg hm boot_enumerate ?_);refine CS (thn (ha pos B s A H _ I h) λus s1 kq=>?_) hs rfl;let#[vs,H1,I1,r1,q1]:=kq;let#[l,rfl,#[xs,hq],q]:=q1;let#[u,rfl,ru]:=Vals.one r1
 cases (show u=Ar l from ru)
 let#[its,rv,pt,hz]:=I1.tuple hq;refine WE.call_enumT (show s1.heap.IsTuple l its.toArray from pt) λh1 he hi hsz kp=>?_;refine GL he ?_;refine#[_,[s1.heap.objs.size+1,s1.heap.objs.size],_,_,H1,rfl,I1.kept (t':=s1.toks) kp,zhF l _ s1.heap.objs.size,#[#[_,he],hi],λb hb=>?_,q];have hb2:s1.heap.objs.size<=b:=by
  rcases AN.mp hb with z|z
  .subst z;exact Cq _
  .have z:b=s1.heap.objs.size:=by simpa using z
   subst z;exact AT _
 exact I1.fpOk hb2 (I1.hok.fresh hb2)
abbrev No:AG->AJ->Prop:=λ_ _=>False
abbrev ydJ(ifs:List AV)(env:Env):HQ Bool:=forIn ifs AC λc r=>if r=AC then do let ok <-isTrue c env (eval c env);pure (Gm ok)else pure (Gm r)
section
variable {pg:Af}{wd:Au}{A:BK}{R:Gx->AJ->Prop}{s:AJ}
def zhL{elt tg iter:AV}{ifs:List AV}{sc:Bq}{pos:C6}{it acc:AG}{env:Env}(I:Nat->AJ->Prop)
  (turn:∀n s,I n s->A8 (model pg wd) A (pyNext it) (λr s1=>match r with
   |none=>R (.ok .next) s1
   |some v=>A8 (model pg wd) A (letOwnedTupleGo tg it v) (λ_ s2=>A8 (model pg wd) A (assign tg env v) (λ_ s3=>A8 (model pg wd) A (ydJ ifs env) (λok s4=>
     if ok=AC then A8 (model pg wd) A (eval elt env) (λx s5=>A8 (model pg wd) A (call (.builtin "list.append") [acc,x]) (λ_ s6=>∃m,m<n/\I m s6) No s5) No s4
     else ∃m,m<n/\I m s4) No s3) No s2) No s1) No s)
  (n:Nat) (h:I n s):codeAny (model pg wd) A (.compLoop (.ListComp elt [#[tg,iter,ifs,0]] sc pos) 0 it acc env) R s:=by
 refine codeAny_loop rfl I (λn s hI=>?_) n h;show A8 _ A ((compTurn (.ListComp elt [#[tg,iter,ifs,0]] sc pos) 0 it acc env).onRaise (λx=>do noteFrame x env;theTreesLotGoes x)) _ _ s;refine wpAny_noted ?_;rw[compTurn_list];refine AH (Ee (AH (C7 (turn n s hI) (λr s1 h1=>?_) λ_ _ f=>f.elim)))
 cases r with
 |none=>exact AW h1
 |some v=>
  refine AH (C7 h1 (λ_ s2 h2=>AH (C7 h2 (λ_ s3 h3=>AH (C7 h3 (λok s4 h4=>?_) λ_ _ f=>f.elim)) λ_ _ f=>f.elim)) λ_ _ f=>f.elim)
  cases ok with
  |false=>exact AW #[rfl,h4]
  |true=>exact AH (AH (C7 h4 (λx s5 h5=>AH (C7 h5 (λ_ s6 h6=>AW (AW #[rfl,h6])) λ_ _ f=>f.elim)) λ_ _ f=>f.elim))
end
def yax(env:Env)(r:List (AQ×AI))(x:AQ×DQ):List (AQ×AI):=if x.2=.free then(x.1,(env.cells.lookup x.1).getD 0)::r else r
def ydA(sc:Bq)(env:Env):List (AQ×AI):=sc.names.foldl (yax env) []
def zg8{A B:Type}{l:List A}{f:A->B->HQ (ForInStep B)}{g:B->A->B}(h:∀x∈l,∀c,f x c=pure (.yield (g c x))):∀c:B,forIn l c f=pure (l.foldl g c):=by
 induction l with
 |nil=>exact λ_=>rfl
 |cons x l ih=>
  intro c;rw[FG,h x Aw,pure_bind,Dx];exact ih (λy hy=>h y (AS _ hy)) (g c x)
def zdC{sc:Bq}{env:Env}(hf:∀y∈sc.names,y.2=.free->∃c,env.cells.lookup y.1=AA c):closureFor sc env=pure (ydA sc env):=by
 erw[closureFor];rw[zg8 (g:=yax env) (λx hx c=>?_)]
 .rfl
 .let#[n,k]:=x
  by_cases hk:k=.free
  .subst hk;let#[a,ha]:=hf _ hx rfl;have ha':env.cells.lookup n=AA a:=ha;simp[yax,cellOf,ha']
  .have hb:(k==Cm)=false:=by simpa using hk
   simp[yax,hk,hb]
def zen{env:Env}:∀(l:List (AQ×DQ)) (r:List (AQ×AI)),(∀y∈l,y.2=.free->∃c,env.cells.lookup y.1=AA c)->(∀x c,r.lookup x=AA c->env.cells.lookup x=AA c) ->
  ∀x c,(l.foldl (yax env) r).lookup x=AA c->env.cells.lookup x=AA c
 |[],r,_,h=>h
 |y::l,r,hf,h=>by
  refine zen l (yax env r y) (λz hz=>hf z (AS _ hz)) λx c e=>?_;unfold yax at e
  by_cases hk:y.2=.free
  .let#[a,ha]:=hf y Aw hk;rw[if_pos hk,Bo]at e
   cases hx:x==y.1 with
   |true=>
    rw[hx,ha]at e;rw[eq_of_beq hx,ha];exact e
   |false=>
    rw[hx]at e;exact h x c e
  .rw[if_neg hk]at e;exact h x c e
def zdL{env:Env}{x:AQ}:∀(l:List (AQ×DQ)) (r:List (AQ×AI)),(∃c,r.lookup x=AA c)->∃c,(l.foldl (yax env) r).lookup x=AA c
 |[],r,h=>h
 |y::l,r,h=>by
  refine zdL l (yax env r y) ?_;unfold yax
  by_cases hk:y.2=.free
  .rw[if_pos hk,Bo]
   cases hx:x==y.1 with
   |true=>exact#[_,rfl]
   |false=>exact h
  .rw[if_neg hk];exact h
def zcL{env:Env}:∀(l:List (AQ×DQ)) (r:List (AQ×AI)),∀y∈l,y.2=.free->∃c,(l.foldl (yax env) r).lookup y.1=AA c
 |[],_,y,hy,_=>nomatch hy
 |z::l,r,y,hy,hk=>by
  rcases AN.mp hy with e|e
  .subst e;refine zdL l (yax env r y) ?_;unfold yax;rw[if_pos hk,Bo,beq_self_eq_true];exact#[_,rfl]
  .exact zcL l (yax env r z) y e hk
theorem mem_of_lookup{A:Type}{x:AQ}{k:A}:∀{l:List (AQ×A)},l.lookup x=AA k->(x,k)∈l
 |[],h=>nomatch h
 |y::l,h=>by
  rw[Bo]at h
  cases hx:x==y.1 with
  |true=>
   rw[hx]at h
   cases h
   rw[eq_of_beq hx];exact Aw
  |false=>
   rw[hx]at h;exact AS _ (mem_of_lookup h)
def ydd(env:Env)(x:AQ)(k:DQ):NameKind:=if (k==.free&&env.scope.kind==.function&&env.kindOf x==AA .cell)=AC then .cell else k
def zej{sc:Bq}{env:Env}(x:AQ):(relabel sc env).names.lookup x=(sc.names.lookup x).map (ydd env x):=by
 unfold relabel;show (sc.names.map λ(n,k)=>if (k==Cm&&env.scope.kind==.function&&env.kindOf n==AA .cell)then(n,Fc)else(n,k)).lookup x=_
 induction sc.names with
 |nil=>rfl
 |cons y l ih=>
  let#[n,k]:=y;rw[AL];show CC x ((if (k==Cm&&env.scope.kind==.function&&env.kindOf n==AA .cell)=AC then(n,Fc)else(n,k))::_)=_
  cases hx:x==n with
  |true=>
   have e:=eq_of_beq hx;subst e
   by_cases hc:(k==Cm&&env.scope.kind==.function&&env.kindOf x==AA .cell)=AC
   .rw[if_pos hc,Bo,beq_self_eq_true];simp[ydd,hc]
   .rw[if_neg hc,Bo,beq_self_eq_true];simp[ydd,hc]
  |false=>
   by_cases hc:(k==Cm&&env.scope.kind==.function&&env.kindOf n==AA .cell)=AC
   .rw[if_pos hc];erw[Bo,hx];exact ih
   .rw[if_neg hc];erw[Bo,hx];exact ih
structure CI where
 C:AI
 s:AJ
 H:Hp
 fp:List AI
def cxC(X:Cx)(sc:Bq)(NC:List AQ)(j:CI):Cx where
 prog:=X.prog
 w:=X.w
 K:=X.K
 mg:=X.mg
 base:=X.base
 A:=X.A
 N:=NC
 s₀:=j.s
 H₀:=j.H
 env:=compEnvC sc (ydA sc X.env) j.C X.env
 outer:=X.stack
 stack:=X.stack
 ex:=j.fp
 fn:=λ_=>AB
 calm:=X.calm
 pn:=[]
 xe:=No
def inn(slots:List (Option Nat))(A:St):St:=slots.map λo=>o.bind λj=>(A[j]?).join
structure yaA(X:Cx)(sc:Bq)(NC:List AQ)(slots:List (Option Nat)):Prop where
 kind:sc.kind=.function
 names:∀y∈sc.names,y.2=.local->sc.names.lookup y.1=AA .local
 nocell:∀y∈sc.names,y.2 ≠ .cell
 free:∀y∈sc.names,y.2=.free->X.env.scope.names.lookup y.1=AA .cell
 slot:∀(i:Nat) (x:AQ) (j:Nat),NC[i]?=AA x->slots[i]?=AA (AA j)->X.N[j]?=AA x/\sc.names.lookup x=AA .free
 len:slots.length=NC.length
def zrz{X:Cx}{sc:Bq}{NC:List AQ}{slots:List (Option Nat)}(N:List AQ)(so:Bq)(hN:X.N=N)(hs:X.env.scope=so)(kind:sc.kind=.function)
  (names:∀y∈sc.names,y.2=.local->sc.names.lookup y.1=AA .local) (nocell:∀y∈sc.names,y.2 ≠ .cell) (free:∀y∈sc.names,y.2=.free->so.names.lookup y.1=AA .cell)
  (slot:∀p∈NC.zip slots,(p.2.all λj=>decide (N[j]?=AA p.1/\sc.names.lookup p.1=AA .free))=AC) (len:slots.length=NC.length):yaA X sc NC slots:=by subst hN hs;refine#[kind,names,nocell,free,λi x j e1 e2=>?_,len];have hm:(x,AA j)∈NC.zip slots:=A6 (i:=i) (by rw[List.getElem?_zip_eq_some];exact#[e1,e2]);have:=slot _ hm;simpa using this
section
variable {X:Cx}{sc:Bq}{NC:List AQ}{slots:List (Option Nat)}{D:List (AI×CP)}{A:St}{H:Hp}{s:AJ}
theorem yaA.cells(O:yaA X sc NC slots)(ok:X.Ok):∀y∈sc.names,y.2=.free->∃c,X.env.cells.lookup y.1=AA c:=λy hy hk=>ok.has y.1 (.inl (O.free y hy hk))
theorem yaA.sub(O:yaA X sc NC slots)(ok:X.Ok):∀x c,(ydA sc X.env).lookup x=AA c->X.env.cells.lookup x=AA c:=zen sc.names [] (O.cells ok) λ_ _ e=>nomatch e
theorem yaA.rel(O:yaA X sc NC slots)(ok:X.Ok){x:AQ}(h:sc.names.lookup x=AA .free):(relabel sc X.env).names.lookup x=AA .cell:=by rw[zej,h];have e:X.env.kindOf x=AA .cell:=O.free _ (mem_of_lookup h) rfl;simp[ydd,ok.kind,e]
def zhe(I:Inv X D A H s)(O:yaA X sc NC slots){fp:List AI}(hf:∀b∈fp,ybC X D H b)(hob:∀b∈fp,∃o,s.heap.get? b=AA o){h1:BR}{t':Nat}{m:AQ->Option AG}(hns:h1.Ns s.heap.objs.size m)
  (hk:∀b o,s.heap.get? b=AA o->h1.get? b=AA o):Inv (cxC X sc NC #[s.heap.objs.size,s,H,fp]) [] (inn slots A) H {s with heap:=h1,toks:=t'}:=by
 have sub:=O.sub I.ok;have fss:∀b,b≠X.env.locals->b∉X.fs->b∉frs X.stack:=λb h1 h2 hb=>(AN.mp (I.stkSub b hb)).elim h1 h2;have ltC:∀x c,(ydA sc X.env).lookup x=AA c->c<s.heap.objs.size:=λx c e=>by let#[v,q]:=I.cell x c (sub x c e);exact q.lt
 refine#[#[I.ok.mod,O.kind,I.ok.glob,I.ok.blt,AT _,λx y c e1 e2=>I.ok.inj x y c (sub x c e1) (sub y c e2),λx hx=>?_,λ_ _ z=>(nomatch z),I.ok.hd,I.ok.frames,.inl rfl,λb hb=>#[?_,λx c e=>(hf b hb).2.2.2.2.1 x c (sub x c e)],I.bs,BZ I.ok.bsz I.sz,λb o e hb=>?_,λb hb=>fss b (hf b hb).2.1 (hf b hb).2.2.1,I.stack,I.stkFree],
  rfl,I.bare,Un.kept hk,#[m,hns,λi x v e1 e2 e3=>?_],λx c e=>?_,I.hok.fresh (AT _),λx c e=>I.freeC x c (sub x c e),λp hp=>(nomatch hp),I.hok.kept hk,?_]
 .have hx':(relabel sc X.env).names.lookup x=AA .cell \/ (relabel sc X.env).names.lookup x=AA .free:=hx;rw[zej]at hx'
  cases q:sc.names.lookup x with
  |none=>
   rw[q]at hx';rcases hx' with z|z<;>cases z
  |some k=>
   have hm:=mem_of_lookup q;have hkf:k=.free:=by
    rw[q]at hx';have nc:=O.nocell _ hm
    by_cases hk:k=.free
    .exact hk
    .exfalso;have hb:(k==Cm)=false:=by simpa using hk
     rcases hx' with z|z
     .simp[ydd,hb]at z;exact nc z
     .simp[ydd,hb]at z;exact hk z
   subst hkf;exact zcL sc.names [] _ hm rfl
 .let#[o,e]:=hob b hb;exact BG (A2 e)
 .rcases (hf b hb).2.2.2.1 with z|z
  .exact I.ok.noex b o e z
  .exact absurd (A9 (A2 e) (BZ I.ok.bsz z)) (DD _)
 .obtain⟨j,e4,e5⟩:∃j,slots[i]?=AA (AA j)/\A[j]?=AA (AA v):=by
   have e2':(slots.map λo=>o.bind λj=>(A[j]?).join)[i]?=AA (AA v):=e2;rw[CK]at e2'
   cases q:slots[i]? with
   |none=>
    rw[q]at e2'
    cases e2'
   |some o=>
    rw[q]at e2'
    cases o with
    |none=>cases e2'
    |some j=>
     refine#[j,rfl,?_];have e6:(A[j]?).join=AA v:=A1 e2'
     cases q2:A[j]? with
     |none=>
      rw[q2]at e6
      cases e6
     |some w=>
      rw[q2]at e6;have e7:w=AA v:=e6;rw[e7]
  let#[e6,e7]:=O.slot i x j e1 e4;have kc:X.env.scope.names.lookup x=AA .cell:=O.free _ (mem_of_lookup e7) rfl;let#[m0,hn0,hl]:=I.loc;let#[u,r,lk]:=hl j x v e6 e5 (.inr (.inl kc));refine#[u,r,.inr #[.inl (O.rel I.ok e7),?_]];rcases lk with⟨z,_⟩|⟨_,c,hc,o,ho,hd⟩
  .rw[show X.env.kindOf x=AA .cell from kc]at z
   cases z
  .let#[c',hc']:=zcL (env:=X.env) sc.names [] _ (mem_of_lookup e7) rfl;have e8:c'=c:=A1 ((sub x c' hc').symm.trans hc);subst e8;exact#[c',hc',o,hk _ _ ho,hd]
 .let#[v,o,ho,hd]:=I.cell x c (sub x c e);exact#[v,o,hk _ _ ho,hd]
 .show (slots.map λo=>o.bind λj=>(A[j]?).join).length=NC.length;rw[Ax,O.len]
def zhw(I:Inv X D A H s){fp:List AI}(hf:∀b∈fp,ybC X D H b){C:AI}(hC:s.heap.objs.size<=C){pl:List (AI×CP)}{A':St}{H':Hp}{s':AJ}(J:Inv (cxC X sc NC #[C,s,H,fp]) pl A' H' s')
  {h2:BR} (hb:Cv C s'.heap h2):Inv X D A H' {s' with heap:=h2}:=by
 have nC:∀b o,s.heap.get? b=AA o->b≠C:=λb o e=>BG (A9 (A2 e) hC);have B:Un (frs X.stack) fp H H' s.heap s'.heap:=J.base;have fC:H' C=none:=J.free;refine I.call' (ch:=fp) J.os #[λb o e n h3 h4=>(hb.2 b (nC b o e)).trans (B.keep b o e n h3 h4),λb o e n h3 h4=>?_,B.free,λb o e h4=>?_,B.tups,B.frzs,B.tbls] (λb u e=>?_) J.bare λb h3=>#[(hf b h3).2.2.2.1,(hf b h3).2.1,(hf b h3).2.2.2.2.1,(hf b h3).2.2.2.2.2]
 .let#[sl,q]:=B.slot b o e n h3 h4;exact#[sl,(hb.2 b (nC b o e)).trans q]
 .let#[o',q]:=B.there b o e h4;exact#[o',(hb.2 b (nC b o e)).trans q]
 .refine(J.hok b u e).stay (λc v hc q=>(hb.2 c λz=>?_).trans q) (λ_ q=>q) λ_ _ q=>q;subst z;rcases hc with z|z
  .rw[z,e]at fC
   cases fC
  .rw[z]at fC
   cases fC
end
def PTs(X:Cx)(ifs:List AV)(t:TT):Prop:=
 ∀(C:List (AI×CP)) (s:AJ) (B:St) (H:Hp) (Q:Bool->Hp->Prop),Inv X C B H s->t B H Q->A8 (model X.prog X.w) X.A (ydJ ifs X.env) (TP X C B Q) X.xe s
def yhs:TT:=λ_ H Q=>Q AC H
def zm8{X:Cx}:PTs X [] yhs:=λ_ _ _ H _ I h=>wpAny_tests_nil #[H,I,h]
def znq{X:Cx}{c:AV}{t:TT}(h:PT X c t):PTs X [c] t:=λB s A H Q I q=>wpAny_tests_one (h B s A H Q I q)
def ycB(J:It)(D:AI)(g:TG)(ti:TT)(te:TE)(W:Nat->Nat->St->List V->Hp->Prop)(Q:Hp->Prop):Prop:=
 ∀i m Ac ys H2,W i m Ac ys H2->H2 D=AA (.lst ys)/\((J.stop i H2/\Q H2) \/ (J.go i H2/\ys.length<sizeLine/\∃N:St->List V->Hp->Prop,(∀A' ys' H',N A' ys' H'->∃m',m' < m/\W (i+1) m' A' ys' H') /\
  ∀x H3,J.yld i H2 x H3->g x Ac H3 λA4 H4=>ti A4 H4 λb H5=>if b=AC then te A4 H5 λy H6=>H6 D=AA (.lst ys)/\N A4 (ys++[y]) (upd H6 D (.lst (ys++[y])))else N A4 ys H5))
def yds(slots:List (Option Nat))(wi:TI)(g:TG)(ti:TT)(te:TE):TE:=λA H Q=>wi A H λJ H1=>∀D,H1 D=AD->∃W:Nat->Nat->St->List V->Hp->Prop,(∃m,W 0 m (inn slots A) [] (upd H1 D (.lst [])))/\ycB J D g ti te W (Q (.ref D))
section
variable {X:Cx}{sc:Bq}{NC:List AQ}{slots:List (Option Nat)}{elt tg iter:AV}{ifs:List AV}{pos:C6}{g:TG}{ti:TT}{te:TE}
def zkN(hc:X.calm=AC)(hg:∀j,PG (cxC X sc NC j) tg g)(ht:∀j,PTs (cxC X sc NC j) ifs ti)(he:∀j,PE (cxC X sc NC j) elt te){cj:CI}{it D:AI}{tn:Nat->BR->Prop}{J:It}
  {W:Nat->Nat->St->List V->Hp->Prop} {Q:Hp->Prop} {R:Gx->AJ->Prop} {s:AJ} {Bc:St} {ys:List V} {H:Hp} (T:Turn X.prog X.w X.K tg J cj.fp it tn)
  (I:Inv (cxC X sc NC cj) [] Bc H s) (hf:∀b∈cj.fp,ybC (cxC X sc NC cj) [] H b) (st:tn 0 s.heap) {m:Nat} (w0:W 0 m Bc ys H) (step:ycB J D g ti te W Q)
  (fin:∀B' H' s',Inv (cxC X sc NC cj) [] B' H' s'->Q H'->R (.ok .next) s'):
  codeAny (model X.prog X.w) X.A (.compLoop (.ListComp elt [#[tg,iter,ifs,0]] sc pos) 0 (.ref it) (.ref D) (cxC X sc NC cj).env) R s:=by
 have stat:∀{H':Hp},(∀b∈cj.fp,H' b=AD)->∀b∈cj.fp,ybC (cxC X sc NC cj) [] H' b:=λhn b hb=>#[hn b hb,(hf b hb).2];refine zhL (λn s'=>∃i B' ys' H',Inv (cxC X sc NC cj) [] B' H' s'/\tn i s'.heap/\(∀b∈cj.fp,H' b=AD)/\W i n B' ys' H') ?_ m #[0,Bc,ys,H,I,st,λb hb=>(hf b hb).1,w0]
 rintro n s3 ⟨i,B3,ys3,H3,I3,st3,fr3,w3⟩
 let#[hD,q]:=step i n B3 ys3 H3 w3;rcases q with⟨stop,qn⟩|⟨go,hz,N,hN,turn⟩
 .refine thn (T.done (cxC X sc NC cj) rfl rfl rfl hc i [] s3 B3 H3 No I3 (stat fr3) st3 stop) λr s4 kq=>?_;let#[hr,I4]:=kq;subst hr;exact fin B3 H3 s4 I4 qn
 .refine thn (T.item (cxC X sc NC cj) rfl rfl rfl hc i [] s3 B3 H3 No I3 (stat fr3) st3 go) λr s4 kq=>?_;let#[u,hr,h4]:=kq;subst hr;refine thn h4 λ_ s5 kq=>?_;let#[x,H5,I5,r5,y5,st5,fr5]:=kq;have I5':=I5.pinned (stat fr5) (T.obj _ _ st5);refine thn (hg cj _ s5 B3 H5 x u _ I5' r5 (turn x H5 y5)) λ_ s6 kq=>?_;let#[B6,H6,I6,q6]:=kq;refine thn (ht cj _ s6 B6 H6 _ I6 q6) λok s7 kq=>?_;let#[H7,I7,q7]:=kq;have again:∀{B8:St} {ys8:List V} {H8:Hp} {s8:AJ},Inv (cxC X sc NC cj) ([]++yby cj.fp s5.heap) B8 H8 s8->N B8 ys8 H8->∃m,m<n/\∃i B' ys' H',Inv (cxC X sc NC cj) [] B' H' s8/\tn i s8.heap/\(∀b∈cj.fp,H' b=AD)/\W i m B' ys' H':=λ{B8 ys8 H8 s8} I8 n8=>by let#[m',hm,w8]:=hN B8 ys8 H8 n8;refine#[m',hm,i+1,B8,ys8,H8,I8.unpinned,T.keep _ _ _ st5 λb hb o e=>(I8.pin (b,o) (BV _ (BV _ (zby hb e)))).1,λb hb=>?_,w8];let#[o,e,d]:=T.obj _ _ st5 b hb;exact(I8.pin (b,o) (BV _ (BV _ (zby hb e)))).2.1
  cases ok with
  |false=>
   rw[if_neg Aa]at q7 ⊢;exact again I7 q7
  |true=>
   rw[if_pos rfl]at q7 ⊢;refine thn (he cj _ s7 B6 H7 _ I7 q7) λy s8 kq=>?_;let#[v,H8,I8,r8,hD8,q8]:=kq;refine thn (zfP (X:=cxC X sc NC cj) _ s8 B6 H8 (.ref D) [v] (.ref D) [y] (λz H'=>z=.non/\H'=upd H8 D (.lst (ys3++[v]))) I8 rfl (.cons r8 .nil) #[D,ys3,v,rfl,rfl,hD8,hz,rfl,rfl]) λz s9 kq=>?_;let#[zv,H9,I9,r9,e1,e2]:=kq;subst e2;exact again I9 q8
def zht(hc:X.calm=AC)(O:yaA X sc NC slots)(hg:∀j,PG (cxC X sc NC j) tg g)(ht:∀j,PTs (cxC X sc NC j) ifs ti)(he:∀j,PE (cxC X sc NC j) elt te){E:List (AI×CP)}{s:AJ}{B:St}{H:Hp}(I:Inv X E B H s)
  {it:AI} {fp:List AI} {tn:Nat->BR->Prop} {J:It} (T:Turn X.prog X.w X.K tg J fp it tn) (st:tn 0 s.heap) (hf:∀b∈fp,ybC X E H b) {Q:VK}
  (h:∀D,H D=AD->∃W:Nat->Nat->St->List V->Hp->Prop,(∃m,W 0 m (inn slots B) [] (upd H D (.lst [])))/\ycB J D g ti te W (Q (.ref D))) {RR:AG->AI->Gx->AJ->Prop}
  (fin:∀D C s' H',Q (.ref D) H'->(∃o m,s'.heap.get? C=AA o/\s'.heap.Ns C m/\∀v,o.data ≠ .cell v)->ybC X E H' C->(∀h2,Cv C s'.heap h2->Inv X E B H' {s' with heap:=h2})->RR (.ref D) C (.ok .next) s'):
  A8 (model X.prog X.w) X.A (newList []) (λacc s3=>A8 (model X.prog X.w) X.A (newFunctionEnv sc X.env.globals (ydA sc X.env) [] X.env.qual AD .none (AA X.env)) (λcenv s4=>
   codeAny (model X.prog X.w) X.A (.compStart (.ListComp elt [#[tg,iter,ifs,0]] sc pos) 0 (.ref it) acc {cenv with scope:=relabel sc X.env}) (RR acc cenv.locals) s4) X.xe s3) X.xe s:=by
 refine Bs (wpAny_newFunctionEnv O.nocell (by intro y hy;simp at hy) (λh1 hns1 hsb1=>?_) O.kind);dsimp only at hns1 hsb1 ⊢;have hDn:H s.heap.objs.size=none:=I.hok.fresh (AT _);let#[W,#[m,w0],step]:=h s.heap.objs.size hDn;obtain⟨s3,hs3⟩:∃x:AJ,x=({s with heap:=s.heap.push {cls:=.type "list",dict:=AD,data:=.seq ([]:List AG).toArray} }:AJ):=#[_,rfl];have e3:s3.heap=s.heap.push {cls:=.type "list",dict:=AD,data:=.seq ([]:List AG).toArray}:=by rw[hs3]
 rw[<-e3]at hns1 hsb1;have hp3:∀b o,s.heap.get? b=AA o->s3.heap.get? b=AA o:=λb o e=>by rw[e3];exact AR _ e
 have I3:Inv X E B (upd H s.heap.objs.size (.lst [])) s3:=by have q:=I.laid (a:=s.heap.objs.size) (o:=.lst []) (h':=s3.heap) (t':=s.toks) hp3 (AT _) #[DN _,[],_,.nil,by rw[e3];exact Ac _ rfl];rw[hs3]at q ⊢;exact q
 have hf3:∀b∈fp,ybC X E (upd H s.heap.objs.size (.lst [])) b:=λb hb=>by let#[o,e,_]:=T.obj _ _ st b hb;refine#[?_,(hf b hb).2];rw[zm (BG (A2 e))];exact(hf b hb).1
 have st3:tn 0 s3.heap:=T.keep _ _ _ st λb _ o e=>hp3 b o e;have hob:∀b∈fp,∃o,s3.heap.get? b=AA o:=λb hb=>by let#[o,e,_]:=T.obj _ _ st3 b hb;exact#[o,e]
 have hk1:∀b o,s3.heap.get? b=AA o->h1.get? b=AA o:=λb o e=>hsb1.extBut b o (BG (A2 e)) (AR _ e);have J1:=zhe (t':=s3.toks+([]:List (AQ×AG)).length) I3 O hf3 hob hns1 hk1;have hfc:∀b∈fp,ybC (cxC X sc NC #[s3.heap.objs.size,s3,upd H s.heap.objs.size (.lst []),fp]) [] (upd H s.heap.objs.size (.lst [])) b:=λb hb=>
  #[(hf3 b hb).1,(J1.ok.exf b hb).1,J1.ok.exfs b hb,.inl hb,(J1.ok.exf b hb).2,λp hp=>nomatch hp]
 have loop:codeAny (model X.prog X.w) X.A (.compLoop (.ListComp elt [#[tg,iter,ifs,0]] sc pos) 0 (.ref it) (.ref s.heap.objs.size) (cxC X sc NC #[s3.heap.objs.size,s3,upd H s.heap.objs.size (.lst []),fp]).env) (RR (.ref s.heap.objs.size) s3.heap.objs.size)
   {s3 with heap:=h1,toks:=s3.toks+([]:List (AQ×AG)).length}:=by refine zkN (D:=s.heap.objs.size) (Q:=Q (.ref s.heap.objs.size)) hc hg ht he T J1 hfc (T.keep _ _ _ st3 λb _ o e=>hk1 b o e) w0 step λB' H' s' J' q'=>?_;have fC:H' s3.heap.objs.size=none:=J'.free;refine fin _ _ s' H' q' ?_ (I3.fpOk (AT _) fC) λh2 hb=>zhw I3 hf3 (AT _) J' hb;let#[m',hn',_]:=J'.loc;let#[o,es,ep,ho,hd,r]:=id hn';exact#[o,m',ho,hn',λv z=>by rw[hd]at z;cases z]
 have self:=λ(RQ:AG->AJ->Prop) (EE:AG->AJ->Prop)=>T.self X.A 0 {s3 with heap:=h1,toks:=s3.toks+([]:List (AQ×AG)).length} RQ EE (T.keep _ _ _ st3 λb _ o e=>hk1 b o e);subst hs3;exact codeAny_compStart_list loop (self _ _ loop)
variable {wi:TI}
def zmi(hc:X.calm=AC)(O:yaA X sc NC slots)(hi:PI X tg iter wi)(hg:∀j,PG (cxC X sc NC j) tg g)(ht:∀j,PTs (cxC X sc NC j) ifs ti)(he:∀j,PE (cxC X sc NC j) elt te)
  (hs:∀x,foldedSetIterable iter X.env x=pure x:=by intro _;rfl):PE X (.ListComp elt [#[tg,iter,ifs,0]] sc pos) (yds slots wi g ti te):=by intro E s B H Q I h;rw[eval_ListComp];refine wpAny_comprehension_free (use:=AD) rfl hs (zdC (O.cells I.ok)) O.kind O.names (thn (hi E s B H _ I h) λv s1 h1=>thn h1 λitv s2 h2=>?_);let#[it,fp,tn,J,H2,rfl,I2,T,st2,f2,q2]:=h2;refine zht hc O hg ht he I2 T st2 f2 q2 λD C s' H' q' #[o,m,ho,hn,_] _ out=>#[m,hn,λh2 hb=>#[.ref D,H',out h2 hb,rfl,q']]
end
def zg0:∀{bs:List Bool} {us:List AG},Vals (bs.map V.bl) us->LSm.BoolsAre us bs
 |[],_,.nil=>.nil
 |b::bs,_,.cons r q=>by
  cases (show _=EF b from r)
  exact .cons b (zg0 q)
section
variable {X:Cx}
def ygs(K:AE):List V->Hp->VK->Prop:=λxs H Q=>∃(l:AI) (bs:List Bool),xs=[.ref l]/\SqL K H l (bs.map V.bl)/\Q (.bl (bs.all id)) H
def zkU(hc:X.calm=AC):yat X (.builtin "all") (ygs X.K):=by
 intro C s B H xs us Q I r h;let#[l,bs,rfl,hq,q]:=h;let#[u,rfl,ru]:=Vals.one r
 cases (show u=Ar l from ru)
 let#[its,rv,pl,hz]:=I.list hq;have hb:=zg0 rv;have hl:=pl.isList;have hlt:l<s.heap.objs.size:=by let#[_,e,_]:=hl;exact A2 e
 refine call_all_walk (GM hl ?_);refine#[s.heap.objs.size,[s.heap.objs.size,l],[s.heap.objs.size],its.toArray.size,_,_,λi=>(bs[i]?).getD AC,rfl,Walks.list (A:=X.A.in1) (I.ok.hd hc) _ l (BG hlt) its.toArray,#[#[_,Ac _ rfl,rfl,rfl],hl.push _],λi v s' Q' E' hP hQ=>?_,λh' tk hk=>?_]
 .let#[b,e,rfl]:=hb.get i v (by simpa using hP);erw[e,CW]at hQ;exact Bj hQ
 .have e:((EG its.toArray.size).all λi=>(bs[i]?).getD AC)=bs.all id:=by rw[A7,hb.length];exact LSm.range_all bs
  rw[e];exact#[.bl _,H,I.kept (t':=tk) (LSm.kept_iter hk),rfl,q]
end
section
variable {X:Cx}{B:List (AI×CP)}{A:St}{H:Hp}{s:AJ}
end
section
variable {X:Cx}{a:AV}{ta:TE}{K:AE}
end
end L2
namespace L2
end L2
namespace L2
open PySem PySem.Spec PyProof.Rows
def CX1(P:Af)(w:Au):CXT:=λouter H s E e s'=>∃(a:AI) (cls a0:AG) (H':Hp) (B:BR),e=.ref a/\s'.os=s.os/\De s'.gens/\HY B outer a cls a0 s'.heap/\HOk P w H' s'.heap/\Un (frs outer) [] H H' s.heap s'.heap /\
 (∀b o,s.heap.get? b=AA o->H b=AD->b∉frs outer->B.get? b=AA o)/\(∀b u,H' b=AA u->∃o,B.get? b=AA o)/\(∀b o,s.heap.get? b=AA o->b∉frs outer->∃o',B.get? b=AA o')/\E cls AD H'
theorem yal.there{P:Af}{w:Au}{H:Hp}{h:BR}{a:AI}{o:HO}(x:yal P w H h a o):∃ob,h.get? a=AA ob:=by
 induction o with
 |lst xs=>let#[_,_,_,_,e]:=x;exact#[_,e]
 |tup xs=>let#[_,_,_,ob,e,_]:=x;exact#[ob,e]
 |dK kvs=>let#[_,_,_,_,ob,_,_,e,_]:=x;exact#[ob,e]
 |dT kvs=>let#[_,_,_,_,ob,_,_,e,_]:=x;exact#[ob,e]
 |set S n=>let#[ob,_,_,_,e,_]:=x;exact#[ob,e]
 |ins C dx fs=>let#[_,_,_,e,_]:=x;exact#[_,e]
 |own y=>exact x
 |xd fs=>let#[_,#[ob,_,_,e,_],_]:=x;exact#[ob,e]
 |rng lo hi=>let#[_,_,_,e]:=x;exact#[_,e]
 |frz ob u ih=>exact#[ob,x.1]
 |tbl ps=>exact#[_,x]
 |met f y=>exact#[_,x]
 |ext A=>exact x.2.1
theorem HOk.inB{P:Af}{w:Au}{H:Hp}{h h' B:BR}(ok:HOk P w H h)(hB:B.StaysIn h)(hB':B.StaysIn h')(tr:∀b u,H b=AA u->∃o,B.get? b=AA o):HOk P w H h':=λa o e=>
 (ok a o e).stay (λb u hb q=>by
  have hb':∃o,B.get? b=AA o:=by
   rcases hb with z|z
   .rw[z];exact tr a o e
   .exact tr b _ z
  let#[o',q']:=hb';have:=hB b o' q';rw[q]at this
  cases this
  exact hB' b u q') (λ_ q=>q) λ_ _ q=>q
section
variable {P:Af}{w:Au}{K:AE}{mg:AQ->Option AG}{base:BR}{N:List AQ}{qual:AQ}{scope:Bq}{f:AI}{cd:AG}{A:BK}{outer:List Env}{s₀:AJ}{H₀:Hp}{E:XK}
 {D:List (AI×CP)} {C:St} {H:Hp} {s:AJ}
def ziV{h':BR}{e:AI}{cls:AG}{vs:List AG}(I:Inv (ya8 (CX1 P w) P w K mg base N qual scope f cd A outer s₀ H₀ E) D C H s)(hx:HC s.heap h' e cls vs)(hE:E cls AD H):
  (ya8 (CX1 P w) P w K mg base N qual scope f cd A outer s₀ H₀ E).xe (.ref e) {s with heap:=h'}:=by
 have stk:s.heap.FunFrames base (envOfC qual scope s₀.heap.objs.size f cd::outer):=I.stack;have hst:∀b,b∈frs (envOfC qual scope s₀.heap.objs.size f cd::outer)->b=s₀.heap.objs.size \/ b∈frs outer:=λb hb=>by have hb':b∈s₀.heap.objs.size::frs outer:=hb;exact AN.mp hb'
 have inB:∀b o,s.heap.get? b=AA o->b∉frs (envOfC qual scope s₀.heap.objs.size f cd::outer)->(DF s.heap (frs (envOfC qual scope s₀.heap.objs.size f cd::outer))).get? b=AA o:=λb o q n=>F2 _ q n;have hB:(DF s.heap (frs (envOfC qual scope s₀.heap.objs.size f cd::outer))).StaysIn s.heap:=λb o q=>Fj _ q;have bse:Un (frs outer) [] H₀ H s₀.heap s.heap:=I.base;have lt:∀b o,s₀.heap.get? b=AA o->b≠s₀.heap.objs.size:=λb o q=>BG (A2 q);have tr:∀b u,H b=AA u->∃o,(DF s.heap (frs (envOfC qual scope s₀.heap.objs.size f cd::outer))).get? b=AA o:=λb u q=>by
  let#[o,ho]:=yal.there (I.hok b u q);exact#[o,inB b o ho λhb=>by
   have:=I.stkFree b hb;rw[q]at this
   cases this]
 refine wpAny_leaves_madeW (base:=DF s.heap (frs (envOfC qual scope s₀.heap.objs.size f cd::outer))) (h:=s.heap) I.ok.frames rfl hB (PySem.W.funFrames_hide stk λenv he a ha=>EK.mpr #[env,he,ha]) hx λh'' t fl tu tn up=>?_;have up':s.heap.UpToSlots h'':=(HS hx.keeps).trans up;refine#[e,cls,_,H,_,rfl,I.os,I.bare,fl,HOk.inB I.hok hB fl.1 tr,#[λb o q n hb _=>?_,λb o q n hb _=>?_,bse.free,λb o q _=>?_,bse.tups,bse.frzs,bse.tbls],λb o q n hb=>?_,tr,λb o q hb=>?_,hE]
 .refine fl.1 b o (inB b o (bse.keep b o q n hb (by simp)) λz=>?_);rcases hst b z with z|z
  .exact lt b o q z
  .exact hb z
 .let#[sl,q1]:=bse.slot b o q n hb (by simp);let#[_,o',ho',hd]:=C3 stk (show b∈DU (λ(z:Env)=>z.frame) _ from AS _ hb);let#[sl',q2]:=up' b _ q1 (by rw[ho']at q1;cases q1;exact hd);exact#[sl',q2]
 .let#[o',q1]:=bse.there b o q (by simp)
  by_cases hb:b∈frs (envOfC qual scope s₀.heap.objs.size f cd::outer)
  .let#[_,o2,ho',hd]:=C3 stk hb;let#[sl',q2]:=up' b _ ho' hd;exact#[_,q2]
  .exact#[o',fl.1 b o' (inB b o' q1 hb)]
 .refine inB b o (bse.keep b o q n hb (by simp)) λz=>?_;rcases hst b z with z|z
  .exact lt b o q z
  .exact hb z
 .let#[o',q1]:=bse.there b o q (by simp);refine#[o',inB b o' q1 λz=>?_];rcases hst b z with z|z
  .exact lt b o q z
  .exact hb z
def zrA:ybS (CX1 P w) (ya8 (CX1 P w) P w K mg base N qual scope f cd A outer s₀ H₀ E) E:=by
 intro D C H s e s' I h;let#[a,cls,a0,H',B,rfl,os,bare,fl,hok,un,hB,tr,hT,hE]:=h;have bse:Un (frs outer) [] H₀ H s₀.heap s.heap:=I.base;have lt:∀b o,s₀.heap.get? b=AA o->b≠s₀.heap.objs.size:=λb o q=>BG (A2 q);have hst:∀b,b∈frs (envOfC qual scope s₀.heap.objs.size f cd::outer)->b=s₀.heap.objs.size \/ b∈frs outer:=λb hb=>by have hb':b∈s₀.heap.objs.size::frs outer:=hb;exact AN.mp hb'
 have un':Un (frs (envOfC qual scope s₀.heap.objs.size f cd::outer)) [] H H' s.heap s'.heap:=un;have kB:∀b o,s₀.heap.get? b=AA o->H₀ b=AD->b∉frs outer->B.get? b=AA o:=λb o q n hb=>hB b o (bse.keep b o q n hb (by simp)) (bse.free b o q n (by simp)) λz=>by
  rcases hst b z with z|z
  .exact lt b o q z
  .exact hb z
 have kT:∀b o,s₀.heap.get? b=AA o->b∉frs outer->∃o',B.get? b=AA o':=λb o q hb=>by
  let#[o',q1]:=bse.there b o q (by simp);refine hT b o' q1 λz=>?_;rcases hst b z with z|z
  .exact lt b o q z
  .exact hb z
 refine wpAny_leaves_onW I.ok.frames rfl fl λh'' fl' up=>?_;refine#[a,cls,a0,H',B,rfl,os.trans I.os,bare,fl',HOk.inB hok fl.1 fl'.1 tr,#[λb o q n hb _=>fl'.1 b o (kB b o q n hb),λb o q n hb _=>?_,λb o q n _=>?_,λb o q _=>?_,λb xs q=>un'.tups b xs (bse.tups b xs q),λb o u q=>un'.frzs b o u (bse.frzs b o u q),λb ps q=>?_],kB,tr,kT,hE]
 .let#[sl,q1]:=bse.slot b o q n hb (by simp);have n1:=bse.free b o q n (by simp);let#[sl1,q2]:=un'.slot b _ q1 n1 (AS _ hb) (by simp);let#[_,o',ho',hd]:=C3 fl.2.2.1 (show b∈DU (λ(z:Env)=>z.frame) _ from AS _ hb);let#[sl',q3]:=up b _ q2 (by rw[ho']at q2;cases q2;exact hd);exact#[sl',q3]
 .let#[o',q1]:=bse.there b o q (by simp);exact un'.free b o' q1 (bse.free b o q n (by simp)) (by simp)
 .let#[o',q1]:=bse.there b o q (by simp);let#[o2,q2]:=un'.there b o' q1 (by simp)
  by_cases hb:b∈frs outer
  .let#[_,o3,ho3,hd]:=C3 fl.2.2.1 (show b∈DU (λ(z:Env)=>z.frame) _ from AS _ hb);let#[sl',q3]:=up b _ ho3 hd;exact#[_,q3]
  .let#[o4,q4]:=kT b o q hb;exact#[o4,fl'.1 b o4 q4]
 .let#[m1,e1]:=bse.tbls b ps q;let#[m2,e2]:=un'.tbls b _ e1;exact#[m1++m2,by rw[e2,EH]]
end
section
variable {X:Cx}{e:AV}{es:List AV}{te:TE}
end
section
variable {X:Cx}{e:AV}{es:List AV}{t:TA}{E:XK}
end
section
variable {pg:Af}{wd:Au}{A:BK}{E:AG->AJ->Prop}{h:BR}{g:Array GenState}{d:Drawn}{t:Nat}{os:OsState}{a C:AI}{o:CP}{K:AE}
end
def ygr(a C:AI):BR->Prop:=λh=>∃o,h.get? a=AA o/\o.cls=.ref C
section
variable {X:Cx}
end
section
variable {X:Cx}{B:List (AI×CP)}{A:St}{H:Hp}{s:AJ}
end
section
variable {X:Cx}{B:List (AI×CP)}{A:St}{H:Hp}{s:AJ}
end
section
variable {X:Cx}{body suite:List CH}{b₀:CH}{x n:AQ}{np hpos pos:C6}{tb:XK->TS}{ts:TS}{W:AI}{i:Nat}
end
section
variable {P:Af}{w:Au}{K:AE}{mg:AQ->Option AG}{base:BR}
end
section
variable {X:Cx}{k:Nat}{f:AI}{fd:BQ}{ps:List AQ}{sp:Sp}{x:AQ}{p pos:C6}{e:AV}{es:List AV}{t:TA}
end
section
variable {P:Af}{w:Au}{K:AE}{mg:AQ->Option AG}{base:BR}
theorem own1{N:List AQ}{qual:AQ}{scope:Bq}{f:AI}{cd:AG}{A:BK}{outer:List Env}{s:AJ}{H:Hp}{E:XK}{CX:CXT}:
  Ei (model (ya8 CX P w K mg base N qual scope f cd A outer s H E).prog (ya8 CX P w K mg base N qual scope f cd A outer s H E).w) (ya8 CX P w K mg base N qual scope f cd A outer s H E).A (ya8 CX P w K mg base N qual scope f cd A outer s H E).env (ya8 CX P w K mg base N qual scope f cd A outer s H E).xe:=
 PassesOwn.leaving
end
section
variable {X:Cx}
end
section
variable {X:Cx}
def ygT(K:AE):List V->Hp->VK->Prop:=λxs H Q=>∃(l:AI) (ns:List Int),xs=[.ref l]/\SqL K H l (ns.map V.int)/\Q (.int ns.sum) H
def zk6(hc:X.calm=AC):yat X (.builtin "sum") (ygT X.K):=by
 intro B s A H xs us Q I r h;let#[l,ns,rfl,hq,q]:=h;let#[u,rfl,ru]:=Vals.one r
 cases (show u=Ar l from ru)
 let#[its,rv,pl,hz]:=I.list hq;have hi:Ey its ns:=zee rv;let#[ys,e]:=hi.allInts.items;have hns:ns=ys.toList.map (·.1):=by rw[<-hi.numsOf,<-nums_intItems,<-e]
 have hl:=pl.isList;rw[e]at hl;refine sum_intListG (I.ok.hd hc) hl λh' tk t' hk=>#[.int ns.sum,H,I.kept (t':=tk) hk,#[t',?_],q];rw[preSum_eq,DV (by simp),<-hns]
def yg1(K:AE):List V->Hp->VK->Prop:=λxs H Q=>∃(l:AI) (ns:List Int),xs=[.ref l]/\SqL K H l (ns.map V.int)/\0<ns.length/\∀M,M∈ns->(∀a,a∈ns->a<=M)->Q (.int M) H
def zhI(hc:X.calm=AC):yat X (.builtin "max") (yg1 X.K):=by
 intro B s A H xs us Q I r h;let#[l,ns,rfl,hq,hne,q]:=h;let#[u,rfl,ru]:=Vals.one r
 cases (show u=Ar l from ru)
 let#[its,rv,pl,hz]:=I.list hq;have hi:Ey its ns:=zee rv;let#[ys,e]:=hi.allInts.items;have hns:ns=ys.toList.map (·.1):=by rw[<-hi.numsOf,<-nums_intItems,<-e]
 have hsz:0<ys.size:=by rw[hns,Ax,CQ]at hne;exact hne
 have hl:=pl.isList;rw[e]at hl;refine max_intList (I.ok.hd hc) hl hsz λv h' tk hv hk=>?_;let#[t,rfl]:=intItems_at hv;let#[h1,h2]:=argBest_gt (numAt ys) (ys.size-1);refine#[.int _,H,I.kept (t':=tk) hk,#[t,rfl],q _ ?_ λa ha=>?_]
 .rw[hns,numAt_eq];exact getD_mem (by rw[Ax,CQ];lia)
 .rw[hns]at ha;let#[j,hj,rfl]:=mem_getD ha;rw[Ax,CQ]at hj;rw[<-numAt_eq];exact h2 j ()
end
section
variable {L:Type}[DecidableEq L]
def ybO(kvs:List (L×V))(k:L):Option V:=(kvs.find? λkv=>decide (kv.1=k)).map (·.2)
def putK(kvs:List (L×V))(k:L)(v:V):List (L×V):=
 if (kvs.any λkv=>decide (kv.1=k))=AC then kvs.map (λkv=>if kv.1=k then(kv.1,v)else kv)else kvs++[(k,v)]
def zcr{p:L×V}{r:List (L×V)}{k:L}(e:p.1=k):ybO (p::r) k=AA p.2:=by simp[ybO,CO,e]
def zcu{p:L×V}{r:List (L×V)}{k:L}(e:¬p.1=k):ybO (p::r) k=ybO r k:=by simp[ybO,CO,e]
def zgU(k:L):∀kvs:List (L×V),(kvs.any λkv=>decide (kv.1=k))=(ybO kvs k).isSome
 |[]=>rfl
 |p::r=>by
  rw[Br]
  by_cases e:p.1=k
  .simp only[zcr e,decide_eq_true e,GN,Option.isSome_some]
  .rw[zcu e,decide_eq_false e,Fd];exact zgU k r
def zdB(kvs:List (L×V))(k:L)(v:V):(putK kvs k v).length<=kvs.length+1:=by
 unfold putK;split
 .rw[Ax];lia
 .rw[Al,A4,Bw];lia
theorem ybF.isSome_eq{o:Option V}{u:Option AG}(r:ybF o u):o.isSome=u.isSome:=by
 cases o with
 |none=>cases u with
  |none=>rfl
  |some _=>exact(show False from r).elim
 |some _=>cases u with
  |none=>exact(show False from r).elim
  |some _=>rfl
theorem ybF.getD{o:Option V}{u:Option AG}{d:V}{d':AG}(r:ybF o u)(rd:RelV d d'):RelV (o.getD d) (u.getD d'):=by
 cases o with
 |none=>cases u with
  |none=>exact rd
  |some _=>exact(show False from r).elim
 |some _=>cases u with
  |none=>exact(show False from r).elim
  |some _=>exact r
theorem KV.val{kvs:List (L×V)}{vs:List (L×AG)}(r:KV kvs vs)(k:L):ybF (ybO kvs k) (valueAt vs k):=by
 unfold KV at r
 induction r with
 |nil=>exact Ci
 |@cons p q ps qs h t ih=>
  let#[h1,h2]:=h
  by_cases e:p.1=k
  .have e':q.1=k:=h1.symm.trans e;have b:valueAt (q::qs) k=AA q.2:=by simp[valueAt,CO,e']
   rw[zcr e,b];exact h2
  .have e':¬q.1=k:=λz=>e (h1.trans z);have b:valueAt (q::qs) k=valueAt qs k:=by simp[valueAt,CO,e']
   rw[zcu e,b];exact ih
theorem KV.any{kvs:List (L×V)}{vs:List (L×AG)}(r:KV kvs vs)(k:L):(kvs.any λkv=>decide (kv.1=k))=vs.any λkv=>decide (kv.1=k):=by
 unfold KV at r
 induction r with
 |nil=>rfl
 |cons h t ih=>rw[Br,Br,ih,h.1]
theorem KV.repl{kvs:List (L×V)}{vs:List (L×AG)}(r:KV kvs vs)(k:L){y:V}{u:AG}(ry:RelV y u):
  KV (kvs.map λkv=>if kv.1=k then(kv.1,y)else kv) (vs.map λkv=>if kv.1=k then(kv.1,u)else kv):=by
 unfold KV at r ⊢
 induction r with
 |nil=>exact .nil
 |@cons p q ps qs h t ih=>
  rw[AL,AL];refine .cons ?_ ih;let#[h1,h2]:=h
  by_cases e:p.1=k
  .rw[if_pos e,if_pos (h1.symm.trans e)];exact#[h1,ry]
  .rw[if_neg e,if_neg (λz=>e (h1.trans z))];exact#[h1,h2]
theorem KV.put{kvs:List (L×V)}{vs:List (L×AG)}(r:KV kvs vs)(k:L){y:V}{u:AG}(ry:RelV y u):KV (putK kvs k y) (stored vs k u):=by
 unfold putK stored;rw[r.any k]
 by_cases e:(vs.any λkv=>decide (kv.1=k))=AC
 .rw[if_pos e,if_pos e];exact r.repl k ry
 .rw[if_neg e,if_neg e];exact Hk r #[rfl,ry]
theorem KV.length{kvs:List (L×V)}{vs:List (L×AG)}(r:KV kvs vs):kvs.length=vs.length:=Ed r
end
def zlT{P:Af}{w:Au}{k:Key}{u:AG}(r:RelV (kV k) u):(yab P w).is k u=true:=by
 cases k with
 |inl i=>let#[t,e]:=(show ∃t,u=Eh i t from r);subst e;exact zgj P w i t
 |inr x=>let#[t,e]:=(show ∃t,u=GU x t from r);subst e;exact zfW P w x t
def ze7{P:Af}{w:Au}:∀{ks:List Key} {us:List AG},Vals (ks.map kV) us->ItemsAre (yab P w) ks us
 |[],_,r=>by rw[Ah]at r;cases r;exact .nil
 |k::ks,_,r=>by
  rw[AL]at r
  cases r with
  |cons h t=>exact .cons (zlT h) (ze7 t)
abbrev KT(H:Hp):List (List Key×V)->List (List Key×AI×AG)->Prop:=Gu λp q=>p.1=q.1/\H q.2.1=AA (.tup (p.1.map kV))/\RelV p.2 q.2.2
theorem KT.val{H:Hp}{kvs:List (List Key×V)}{xs:List (List Key×AI×AG)}(r:KT H kvs xs)(k:List Key):ybF (ybO kvs k) ((atKey xs k).map (·.2)):=by
 induction r with
 |nil=>exact Ci
 |@cons p q ps qs h t ih=>
  let#[h1,_,h2]:=h
  by_cases e:p.1=k
  .have e':q.1=k:=h1.symm.trans e;have b:atKey (q::qs) k=AA q.2:=by simp[atKey,CO,e']
   rw[zcr e,b];exact h2
  .have e':¬q.1=k:=λz=>e (h1.trans z);have b:atKey (q::qs) k=atKey qs k:=by simp[atKey,CO,e']
   rw[zcu e,b];exact ih
theorem KT.repl{H:Hp}{kvs:List (List Key×V)}{xs:List (List Key×AI×AG)}(r:KT H kvs xs)(k:List Key){y:V}{u:AG}(ry:RelV y u):
  KT H (kvs.map λkv=>if kv.1=k then(kv.1,y)else kv) (xs.map (putAt k u)):=by
 induction r with
 |nil=>exact .nil
 |@cons p q ps qs h t ih=>
  rw[AL,AL];refine .cons ?_ ih;let#[h1,h2,h3]:=h;unfold putAt
  by_cases e:p.1=k
  .rw[if_pos e,if_pos (h1.symm.trans e)];exact#[h1,h2,ry]
  .rw[if_neg e,if_neg (λz=>e (h1.trans z))];exact#[h1,h2,h3]
theorem KT.put{H:Hp}{kvs:List (List Key×V)}{xs:List (List Key×AI×AG)}(r:KT H kvs xs)(k:List Key){b:AI}{y:V}{u:AG}(hb:H b=AA (.tup (k.map kV)))(ry:RelV y u):
  KT H (putK kvs k y) (storedH xs k b u):=by
 have e:(kvs.any λkv=>decide (kv.1=k))=(atKey xs k).isSome:=by rw[zgU,(r.val k).isSome_eq,Option.isSome_map]
 unfold putK storedH;rw[e]
 by_cases q:(atKey xs k).isSome=AC
 .rw[if_pos q,if_pos q];exact r.repl k ry
 .rw[if_neg q,if_neg q];exact Hk r #[rfl,hb,ry]
theorem KT.keeps{H H':Hp}{kvs:List (List Key×V)}{xs:List (List Key×AI×AG)}(r:KT H kvs xs)(ht:∀b ys,H b=AA (.tup ys)->H' b=AA (.tup ys)):KT H' kvs xs:=
 Paired.mapP r λ_ _ z=>#[z.1,ht _ _ z.2.1,z.2.2]
section
variable {P:Af}{w:Au}{H:Hp}{h:BR}{a:AI}
def znK{u:HO}(ok:HOk P w H h)(e:Rd H a u):yal P w H h a u:=e.ok ok
def zm1{kvs:List (Key×V)}(ok:HOk P w H h)(e:Rd H a (.dK kvs)):kvs.length<=sizeLine/\(a==sysModules)=AB/\∃vs,KV kvs vs/\h.DictOf (yab P w) a vs:=
 show yal P w H h a (.dK kvs)from znK ok e
def zqu{kvs:List (Key×V)}(ok:HOk P w H h)(e:H a=AA (.dK kvs)):kvs.length<=sizeLine/\(a==sysModules)=AB/\∃vs,KV kvs vs/\h.DictOf (yab P w) a vs:=zm1 ok (.inl e)
def zhX{ks:List Key}(ok:HOk P w H h)(e:H a=AA (.tup (ks.map kV))):(tupleKind (yab P w)).is h ks a:=by let#[_,its,r,o,h1,h2,n,h3]:=(show yal P w H h a (.tup (ks.map kV))from ok a _ e);exact#[o,its.toArray,n,h1,h2,h3,by simpa using ze7 r]
def zl0{kvs:List (List Key×V)}(ok:HOk P w H h)(e:Rd H a (.dT kvs)):kvs.length<=sizeLine/\(a==sysModules)=AB /\
  ∃xs,KT H kvs xs/\h.DictOfH (tupleKind (yab P w)) a xs:=by
 let#[z,y,xs,r,o,es,ep,h1,h2,h3,h4,h5]:=(show yal P w H h a (.dT kvs)from znK ok e);refine#[z,y,xs,r,o,es,ep,h1,h2,h3,h4,λx hx=>?_,h5];have all:∀{l:List (List Key×V)} {m:List (List Key×AI×AG)},KT H l m->∀x∈m,(tupleKind (yab P w)).is h x.1 x.2.1:=by
  intro l m q
  induction q with
  |nil=>intro x hx;exact nomatch hx
  |@cons p q ps qs hq t ih=>
   intro x hx;rcases AN.mp hx with e|hx
   .subst e;exact zhX ok (by rw[<-hq.1];exact hq.2.1)
   .exact ih x hx
 exact all r x hx
def zqw{kvs:List (List Key×V)}(ok:HOk P w H h)(e:H a=AA (.dT kvs)):kvs.length<=sizeLine/\(a==sysModules)=AB /\
  ∃xs,KT H kvs xs/\h.DictOfH (tupleKind (yab P w)) a xs:=zl0 ok (.inl e)
end
def yfs(H:Hp)(a:AI)(y:V)(r:Option V):Prop:=
 (∃kvs k,Rd H a (.dK kvs)/\y=kV k/\r=ybO kvs k) \/ ∃kvs k b,Rd H a (.dT kvs)/\y=.ref b/\H b=AA (.tup (k.map kV))/\r=ybO kvs k
def yfi(H:Hp)(a:AI)(y v:V)(H':Hp):Prop:=
 (∃kvs k,H a=AA (.dK kvs)/\y=kV k/\kvs.length<sizeLine/\H'=upd H a (.dK (putK kvs k v))) \/
 ∃kvs k b,H a=AA (.dT kvs)/\y=.ref b/\H b=AA (.tup (k.map kV))/\kvs.length<sizeLine/\H'=upd H a (.dT (putK kvs k v))
section
variable {X:Cx}{C:List (AI×CP)}{B:St}{H:Hp}{s:AJ}{a:AI}{y v:V}{u r:AG}{o:Option V}{A:BK}{E:AG->AJ->Prop}
theorem Inv.big(I:Inv X C B H s):sysModules<s.heap.objs.size:=by have h:mainGlobals<s.heap.objs.size:=(I.mod.glob.keeps I.bk).lt;exact Nat.lt_trans ⋯ h
def zjA{h':BR}{t':Nat}{ob:HO}(I:Inv X C B H s)(mu:Mut (H a))(hs:Cv a s.heap h')(he:∃q,h'.get? a=AA q)(new:yal X.prog X.w (upd H a ob) h' a ob):
  Inv X C B (upd H a ob) {s with heap:=h',toks:=t'}:=
 I.write (x:=a) (e:=a) mu (.inl rfl) (λb q hb z=>(hs.2 b hb).trans z) he new
def zoR{P:Af}{w:Au}{H':Hp}{h':BR}{kvs:List (Key×V)}{vs:List (Key×AG)}(z:kvs.length<=sizeLine)(hd:(a==sysModules)=AB)(rel:KV kvs vs)(dd:h'.DictOf (yab P w) a vs):
  yal P w H' h' a (.dK kvs):=#[z,hd,vs,rel,dd]
def ziH{H':Hp}{Q:Unit->AJ->Prop}(hu:A.units+1<cLine)(I:Inv X C B H s)(g:yfi H a y v H')(ry:RelV y u)(rv:RelV v r)(h:∀s',Inv X C B H' s'->Q Unit.unit s'):
  A8 (model X.prog X.w) A (setItem (.ref a) u r) Q E s:=by
 rcases g with⟨kvs,k,e,ey,l,eH⟩|⟨kvs,k,b,e,ey,eb,l,eH⟩
 .subst ey eH;let#[z,hd,vs,rel,dd]:=zqu I.hok e;have hz:vs.length<=sizeLine:=by rw[<-rel.length];exact z
  have hl:(putK kvs k v).length<=sizeLine:=by have:=zdB kvs k v;lia
  refine wpAny_setItem_pairs (hsz:=hz) (zlT ry) dd λh' dd' hs=>h _ ?_;have he:∃q,h'.get? a=AA q:=let #[q,_,_,hq,_]:=dd';#[q,hq]
  exact zjA I (by rw[e];exact Ci) hs he (zoR hl hd (rel.put k rv) dd')
 .subst ey eH
  cases (show u=Ar b from ry)
  let#[z,hd,xs,rel,dd]:=zqw I.hok e;have hz:xs.length<=sizeLine:=by rw[<-Ed rel];exact z
  have hl:(putK kvs k v).length<=sizeLine:=by have:=zdB kvs k v;lia
  refine wpAny_setItem_heap (hsz:=hz) (Fp hu) (zhX I.hok eb) dd λh' dd' hs=>h _ ?_;let#[q,es,ep,hq,h2,h3,h4,_,h5]:=dd';refine zjA I (by rw[e];exact Ci) hs #[q,hq] #[hl,hd,_,(rel.put k eb rv).keeps λc ys ec=>?_,q,es,ep,hq,h2,h3,h4,h5];rw[zm (zqm ec e (λz=>nomatch z))];exact ec
end
section
variable {X:Cx}{C:List (AI×CP)}{B:St}{H:Hp}{s:AJ}{a:AI}{kvs:List (Key×V)}{k:Key}{u:AG}{A:BK}{E:AG->AJ->Prop}
end
def ydj(i:AV):Prop:=∀ov iv,subscripted i AB ov iv=operate [ov,iv] (getItem ov iv)
def ziT{prog:Af}{w:Au}{A:BK}{E:AG->AJ->Prop}{s:AJ}{env:Env}{value slice:AV}{pos:C6}{T id:String}{Q:AG->AJ->Prop}
  (hl:typeLookup (.type T) "__getitem__"=pure (AA (.builtin id))) (hs:ydj slice)
  (h:A8 (model prog w) A (eval value env) (λo s₁=>A8 (model prog w) A (eval slice env) (λi s₂=>s₂.TypeIs o T/\A8 (model prog w) A (getItem o i) Q E s₂) E s₁) E s):
  A8 (model prog w) A (eval (.Subscript value slice pos) env) Q E s:=by
 refine Gz (C7 h (λo s₁ h₁=>C7 h₁ (λi s₂ h₂=>?_) λ_ _ x=>x) λ_ _ x=>x);let#[hT,h₂]:=h₂;unfold subscriptTail;refine AH ?_;rw[getitemInPython_of_ne hT.not_modules];refine AH (wpAny_specialOf hT hl ?_);have fin:A8 (model prog w) A (subscripted slice AB o i) (λr s₃=>A8 (model prog w) A (letTemporaryGo value o r >>= λ_=>pure r) Q E s₃) E s₂:=by rw[hs o i];exact wpAny_operating (C7 h₂ (λr s₃ h₃=>AH (wpAny_letTemporaryGo (AW h₃))) λ_ _ x=>x)
 first
  |exact AW (AH fin)
  |exact AH (AW (AH fin))
  |exact AH fin
def yei(td ty tv:TE):TS:=λD A H=>tv A H λv H1=>td A H1 λx H2=>ty A H2 λy H3=>∃a H4,x=.ref a/\yfi H3 a y v H4/\D.nx A H4
section
variable {X:Cx}{o i e value:AV}{pos pos' tpos:C6}{td ty tv:TE}
def znx(hu:X.A.units+1<cLine)(ho:PE X o td)(hi:PE X i ty)(hv:PE X value tv)(hs:swapsWith value (AA (.Subscript o i pos')) pos.line X.env=pure AB):
  PS X (.Assign [.Subscript o i pos'] value pos) (yei td ty tv):=by intro C s B H D I h;refine wpAny_Assign_Subscript (thn (hv C s B H _ I h) λr s1 kq=>?_) hs;let#[v,H1,I1,rv,q1]:=kq;refine thn (ho C s1 B H1 _ I1 q1) λu s2 kq=>?_;let#[x,H2,I2,rx,q2]:=kq;refine thn (hi C s2 B H2 _ I2 q2) λiv s3 kq=>?_;let#[y,H3,I3,ry,a,H4,ex,g,q3]:=kq;subst ex;obtain rfl:u=Ar a:=rx;exact ziH hu I3 g ry rv λs4 I4=>#[B,H4,I4,q3]
end
def zkr{P:Af}{w:Au}{H:Hp}(h:BR)(hb:sysModules<h.objs.size):yal P w H (h.push {cls:=.type "dict",data:=.dict (List.toArray [])}) h.objs.size (.dT []):=
 #[DN _,beq_eq_false_iff_ne.mpr (B0 (BG hb)),[],.nil,_,(List.toArray []),0,Ac _ rfl,#[rfl,rfl,rfl],rfl,rfl,List.nodup_nil]
def ydL:TE:=λ_ H Q=>∀p,H p=AD->Q (.ref p) (upd H p (.dT []))
section
variable {X:Cx}{pos:C6}
def zrB:PE X (.Dict [] [] pos) ydL:=λB s A H Q I h=>
 wpAny_Dict_empty #[.ref s.heap.objs.size,_,I.laid (a:=s.heap.objs.size) (o:=.dT []) (t':=s.toks) (λ_ _ q=>AR _ q) (AT _) (zkr s.heap I.big),rfl,h _ (I.hok.fresh (AT _))]
end
structure M2(X:Cx)(o:AV)(m:AQ)(apos:C6)(e f:AV)(cpos:C6):Prop where
 base:attributeBase o m X.env (eval o X.env)=eval o X.env
 few:((backTo cpos (starEach [e,f] X.env)).all (λx=>!x.1)&&(backToKw cpos (keywordEach [] X.env)).all (λx=>x.1.isSome)
  && decide (([e,f]:List AV).length+([]:List Cc).length+(if ([]:List Cc).isEmpty then 0 else 1)<30))=AC
 line:(apos.endLine==cpos.line)=AC
 trees:backTo cpos (starEach [e,f] X.env)=[(AB,eval e X.env),(AB,eval f X.env)]
def IsD(H:Hp)(a:AI):Prop:=(∃kvs,Rd H a (.dK kvs)) \/ ∃kvs,Rd H a (.dT kvs)
def znR{X:Cx}{B:List (AI×CP)}{A:St}{H:Hp}{s:AJ}{a:AI}(I:Inv X B A H s)(d:IsD H a):
  s.TypeIs (.ref a) "dict"/\(∀b,Ar a=.ref b->∃ob,s.heap.get? b=AA ob/\ob.dict=AD)/\(a==sysModules)=false:=by
 rcases d with⟨kvs,e⟩|⟨kvs,e⟩
 .let#[_,hd,vs,_,dd]:=zm1 I.hok e;refine#[dd.typeIs,λb q=>?_,hd]
  cases q
  let#[ob,_,_,h1,h2,_]:=dd;exact#[ob,h1,h2.2.1]
 .let#[_,hd,xs,_,dd]:=zl0 I.hok e;refine#[dd.typeIs,λb q=>?_,hd]
  cases q
  let#[ob,_,_,h1,h2,_]:=dd;exact#[ob,h1,h2.2.1]
section
variable {X:Cx}{C:List (AI×CP)}{B:St}{H:Hp}{s:AJ}{a:AI}{y d:V}{u r:AG}{o:Option V}{A:BK}{E:AG->AJ->Prop}
def zpl{Q:AG->AJ->Prop}(hu:A.units+1<cLine)(I:Inv X C B H s)(g:yfs H a y o)(ry:RelV y u)(rd:RelV d r)(h:∀w' s',Inv X C B H s'->RelV (o.getD d) w'->Q w' s'):
  A8 (model X.prog X.w) A (call (.builtin "dict.get") [.ref a,u,r]) Q E s:=by
 rcases g with⟨kvs,k,e,ey,l⟩|⟨kvs,k,b,e,ey,eb,l⟩
 .subst ey;let#[z,hd,vs,rel,dd]:=zm1 I.hok e;refine call_meetsIn D8 dd.typeIs FC (En _ _ _) (meets_dict_get_default (yab X.prog X.w) a (zlT ry) hd r) #[_,dd.mapOf,h _ _ (I.tok _) ?_];rw[l];exact(rel.val k).getD rd
 .subst ey
  cases (show u=Ar b from ry)
  let#[z,hd,xs,rel,dd]:=zl0 I.hok e;refine call_meetsIn D8 dd.typeIs FC (En _ _ _) (meetsH_dict_get_default (tupleKind (yab X.prog X.w)) a b hd r) #[Fp hu,k,xs,zhX I.hok eb,dd,h _ _ (I.tok _) ?_];rw[l];exact(rel.val k).getD rd
end
def ydV(td ty tx:TE):TE:=λA H Q=>td A H λx H1=>∃a,x=.ref a/\IsD H1 a/\ty A H1 λy H2=>tx A H2 λz H3=>∃o,yfs H3 a y o/\Q (o.getD z) H3
section
variable {X:Cx}{o e f:AV}{apos cpos:C6}{td ty tx:TE}
def zkl(hu:X.A.units+1<cLine)(ho:PE X o td)(he:PE X e ty)(hf:PE X f tx)(m:M2 X o "get" apos e f cpos):PE X (.Call (.Attribute o "get" apos) [e,f] [] cpos) (ydV td ty tx):=by
 intro C s B H Q I h;refine wpAny_Call_method m.base m.few m.line PySem.F.plainAttrs_dict D8 PySem.F.type_dict_get (thn (ho C s B H _ I h) λu s1 kq=>?_);let#[x,H1,I1,rx,a,ex,d,q1]:=kq;subst ex;obtain rfl:u=Ar a:=rx;let#[t1,t2,_]:=znR I1 d;refine#[t1,t2,?_];rw[m.trees];refine FB rfl (FP (EN (thn (he C s1 B H1 _ I1 q1) λiv s2 #[y,H2,I2,ry,q2]=>
  EN (thn (hf C s2 B H2 _ I2 q2) λfv s3 #[z,H3,I3,rz,ov,g,q3]=>GA ?_))))
 exact zpl hu I3 g ry rz λw' s4 I4 rw'=>#[_,H3,I4,rw',q3]
end
section
variable {X:Cx}{C:List (AI×CP)}{B:St}{H:Hp}{s:AJ}{a:AI}{kvs:List (Key×V)}{A:BK}{E:AG->AJ->Prop}
end
section
variable {X:Cx}{C:List (AI×CP)}{B:St}{H:Hp}{s:AJ}{a:AI}{y:V}{u:AG}{A:BK}{E:AG->AJ->Prop}
end
end L2
namespace IC
open PySem
inductive PV where
 |non|bl (b:Bool)|int (i:Int)|str (x:AQ)|tp (k:Bool) (xs:List PV)|lst (xs:List PV)|loc (n:Nat)|exn (c:Nat)|scr (xs:List PV)
deriving Inhabited
abbrev PV.tup(xs:List PV):PV:=.tp AB xs
mutual
noncomputable def nL:PV->Bool
 |.loc _=>AB
 |.exn _=>AB
 |.tp _ xs=>nLs xs
 |.lst xs=>nLs xs
 |.scr xs=>nLs xs
 |_=>AC
noncomputable def nLs:List PV->Bool
 |[]=>AC
 |x::xs=>nL x&&nLs xs
end
mutual
noncomputable def shd(n:Nat):PV->Bool
 |.non=>AC
 |.bl _=>AC
 |.int _=>AC
 |.str x=>x.cps.all (· < 0x110000)
 |.tp _ xs=>decide (0<n)&&ybt (n-1) xs
 |.lst xs=>decide (0<n)&&ybt (n-1) xs
 |_=>AB
noncomputable def ybt(n:Nat):List PV->Bool
 |[]=>AC
 |x::xs=>shd n x&&ybt n xs
end
abbrev shp(v:PV):Bool:=shd 60 v
def flat:PV->Bool
 |.non=>AC
 |.bl _=>AC
 |.int _=>AC
 |.str _=>AC
 |_=>AB
def bi(b:Bool):Int:=if b then 1 else 0
mutual
noncomputable def peq:PV->PV->Bool
 |.non,.non=>AC
 |.bl a,.bl b=>a==b
 |.bl a,.int j=>bi a==j
 |.int i,.bl b=>i==bi b
 |.int i,.int j=>i==j
 |.str x,.str y=>x==y
 |.tp _ xs,.tp _ ys=>ybX xs ys
 |.lst xs,.lst ys=>ybX xs ys
 |_,_=>AB
noncomputable def ybX:List PV->List PV->Bool
 |[],[]=>AC
 |x::xs,y::ys=>peq x y&&ybX xs ys
 |_,_=>AB
end
inductive Ob where
 |lst (xs:List PV)|dct (t:Bool) (kvs:List (PV×PV))|dead|ins (c:Nat) (fs:List (AQ×PV))
abbrev Env:=List (Option PV)
abbrev SO:=List Ob
inductive R(A:Type) where
 |ok (a:A) (st:SO)|exc (c:Nat) (st:SO)|bad
def R.bind{A B:Type}(r:R A)(k:A->SO->R B):R B:=
 match r with
 |.ok a st=>k a st
 |.exc c st=>.exc c st
 |.bad=>.bad
inductive BOp where
 |add|sub|mul|fdiv|mod|pow|shl|shr|band|bor|bxor
inductive COp where
 |eq|ne|lt|le|gt|ge|is|isnot|isin|notin
inductive Ty where
 |int|bool|str|tuple|list|cls (c:Nat)|val
inductive Blt where
 |len|int|abs|min|max|tuple|list|all|sum|dict|rev|str|any
inductive Mth where
 |append|extend|get|bits|upper|insert|count|index|join|split|sidx|clear
inductive Tg where
 |n (i:Nat)|t (l:List Nat)
set_option genInjectivity false
mutual
inductive Ce where
 |cst (v:PV)
 |var (i:Nat)
 |bin (o:BOp) (a b:Ce)
 |neg (a:Ce)
 |not (a:Ce)
 |and (a b:Ce)
 |or (a b:Ce)
 |cmp (o:COp) (a b:Ce)
 |chain (o p:COp) (a b c:Ce)
 |ite (c a b:Ce)
 |tup (es:Ces)
 |lst (es:Ces)
 |newl (es:Ces)
 |dict0 (t:Bool)
 |idx (a i:Ce)
 |slc (a:Ce) (lo hi:Ce)
 |call (f:Nat) (args:Ces)
 |blt (b:Blt) (args:Ces)
 |mth (m:Mth) (o:Ce) (args:Ces)
 |isi (a:Ce) (t:List Ty)
 |comp (sl:List (Option Nat)) (tg:Tg) (it:Cit) (c:Ce) (e:Ce)
 |frz (a:Ce)
 |nope
 |dix (D:List (AQ×PV)) (a:Ce)
 |din (a:Ce) (D:List (AQ×PV))
 |fld (c:Nat) (a:Ce) (f:AQ)
 |new (c i:Nat) (es:Ces)
 |mcl (c i:Nat) (m:AQ) (o:Ce) (es:Ces)
inductive Ces where
 |nil
 |cons (e:Ce) (es:Ces)
inductive Cit where
 |seq (e:Ce)
 |range1 (a:Ce)
 |range2 (a b:Ce)
 |rangeD (a b:Ce)
 |enum (e:Ce)
 |zip (a b:Ce)
 |revl (e:Ce)
 |revr (a:Ce)
 |chars (e:Ce)
end
set_option genInjectivity true
abbrev Ce.i(n:Int):Ce:=.cst (.int n)
abbrev Ce.s(x:AQ):Ce:=.cst (.str x)
abbrev Ce.v:=Ce.var
abbrev Ces.k:=Ces.cons
abbrev Ces.e:=Ces.nil
mutual
inductive Cs where
 |expr (e:Ce)
 |asg (t:Tg) (e:Ce)
 |six (o i e:Ce)
 |dput (o i e:Ce)
 |aug (i:Nat) (o:BOp) (e:Ce)
 |ret (e:Ce)
 |ite (c:Ce) (a b:Css)
 |for (t:Tg) (it:Cit) (b:Css)
 |while (c:Ce) (b:Css)
 |nope
 |sfl (c:Nat) (o:Ce) (f:AQ) (e:Ce)
 |mkr (i:Nat) (D:List (AQ×Nat)) (n:Ce) (es:Ces)
inductive Css where
 |nil
 |cons (s:Cs) (ss:Css)
end
abbrev Css.k:=Css.cons
abbrev Css.e:=Css.nil
def yaQ(i j:Int):Bool:=(decide (i.natAbs<18446744073709551616)) || (decide (j.natAbs<18446744073709551616))
def binI(o:BOp)(i j:Int):Option PV:=
 match o with
 |.add=>AA (.int (i+j))
 |.sub=>AA (.int (i-j))
 |.mul=>if yaQ i j then AA (.int (i*j))else AD
 |.fdiv=>if 0<j/\j<10000000000000000000000000000000000000000000000000000000000000000000000 then AA (.int (i/j))else AD
 |.mod=>if 0<j then AA (.int (i%j))else AD
 |.pow=>if 0<=j/\j<=1000000/\i.natAbs<18446744073709551616 then AA (.int (i^j.toNat))else AD
 |.shl=>if 0<=j/\j<=1000000/\i.natAbs<18446744073709551616 then AA (.int (i*2^j.toNat))else AD
 |.shr=>if 0<=j then AA (.int (i/2^j.toNat))else AD
 |.band=>AA (.int (BC i j))
 |.bor=>AA (.int (BB i j))
 |.bxor=>AA (.int (BO i j))
def sizeMax:Nat:=16777216
def yfo(k:Bool)(a:List PV)(j:Bool)(b:List PV):PV:=if a.isEmpty then .tp j b else if b.isEmpty then .tp k a else .tup (a++b)
def yI(o:BOp)(x y:PV):Option PV:=
 match x,y with
 |.int i,.int j=>binI o i j
 |.int i,.bl b=>match o with
  |.add=>AA (.int (i+bi b))
  |_=>AD
 |.str a,.str b=>match o with
  |.add=>if a.length+b.length<=sizeMax then AA (.str (a++b))else AD
  |_=>AD
 |.tp k a,.tp j b=>match o with
  |.add=>if a.length+b.length<=sizeMax then AA (yfo k a j b)else AD
  |_=>AD
 |.lst a,.lst b=>match o with
  |.add=>if a.length+b.length<=sizeMax then AA (.lst (a++b))else AD
  |_=>AD
 |_,_=>AD
def ybZ(o:BOp)(x y:PV):Option PV:=
 match x,y with
 |.int i,.int j=>binI o i j
 |_,_=>AD
def ydQ:PV->Bool
 |.non=>AC
 |_=>AB
def inL(x:PV):List PV->Bool
 |[]=>AB
 |y::ys=>peq y x || inL x ys
def inS(a b:AQ):Bool:=(EG (b.length+1)).any λi=>decide (i+a.length<=b.length)&&(b.cps.extract i (i+a.length)==a.cps)
def yb9(o:COp)(i j:Int):Option PV:=
 match o with
 |.lt=>AA (.bl (decide (i<j)))
 |.le=>AA (.bl (decide (i<=j)))
 |.gt=>AA (.bl (decide (j<i)))
 |.ge=>AA (.bl (decide (j<=i)))
 |_=>AD
def yeY(o:COp)(a b:AQ):Option PV:=
 match o with
 |.lt=>AA (.bl (decide (a.cps.toList<b.cps.toList)))
 |.le=>AA (.bl (!decide (b.cps.toList<a.cps.toList)))
 |_=>AD
def yP(o:COp)(x y:PV):Option PV:=
 match o with
 |.eq=>if shp x&&shp y then AA (.bl (peq x y))else AD
 |.ne=>if shp x&&shp y then AA (.bl (!peq x y))else AD
 |.is=>match y with
  |.non=>AA (.bl (ydQ x))
  |.bl b=>match x with
   |.bl a=>AA (.bl (a==b))
   |_=>AD
  |_=>AD
 |.isnot=>match y with
  |.non=>AA (.bl (!ydQ x))
  |.bl b=>match x with
   |.bl a=>AA (.bl (!(a==b)))
   |_=>AD
  |_=>AD
 |.isin=>match x,y with
  |.str a,.str b=>AA (.bl (inS a b))
  |x,.tp _ l=>if flat x&&l.all flat then AA (.bl (inL x l))else AD
  |x,.lst l=>if flat x&&l.all flat then AA (.bl (inL x l))else AD
  |_,_=>AD
 |.notin=>match x,y with
  |.str a,.str b=>AA (.bl (!inS a b))
  |x,.tp _ l=>if flat x&&l.all flat then AA (.bl (!inL x l))else AD
  |x,.lst l=>if flat x&&l.all flat then AA (.bl (!inL x l))else AD
  |_,_=>AD
 |o=>match x,y with
  |.int i,.int j=>yb9 o i j
  |.str a,.str b=>yeY o a b
  |_,_=>AD
def yaY(st:SO)(x:PV):Option Bool:=
 match x with
 |.non=>AA AB
 |.bl b=>AA b
 |.int i=>AA (i != 0)
 |.str y=>if y.length<=sizeMax then AA ((y.length:Int) != 0)else AD
 |.tp _ xs=>AA (!xs.isEmpty)
 |.lst xs=>AA (!xs.isEmpty)
 |.loc n=>match st[n]? with
  |some (.lst xs)=>AA (!xs.isEmpty)
  |_=>AD
 |_=>AD
def ixI(n:Nat)(i:Int):Option Nat:=if 0<=i then(if i<n then AA i.toNat else AD)else if -(n:Int)<=i then AA (i+n).toNat else AD
def at?{A:Type}(xs:List A)(i:Int):Option A:=(ixI xs.length i).bind λj=>xs[j]?
def look(k:PV):List (PV×PV)->Option PV
 |[]=>AD
 |(a,b)::r=>if peq a k then AA b else look k r
def put(k v:PV)(kvs:List (PV×PV)):List (PV×PV):=
 if (kvs.any λp=>peq p.1 k)=AC then kvs.map (λp=>if peq p.1 k=AC then(p.1,v)else p)else kvs++[(k,v)]
def ybR:PV->Bool
 |.int _=>AC
 |.str _=>AC
 |_=>AB
def isKey(t:Bool)(k:PV):Bool:=
 match t with
 |false=>ybR k
 |true=>match k with
  |.tp AB xs=>xs.all ybR
  |_=>AB
def yba{A:Type}(xs:List A)(i:PV):Option A:=
 match i with
 |.int k=>at? xs k
 |_=>AD
def idxV(st:SO)(x i:PV):Option PV:=
 match x with
 |.tp _ xs=>yba xs i
 |.lst xs=>yba xs i
 |.str s=>if s.length<=sizeMax then(yba s.cps.toList i).map λc=>.str #[(List.toArray [c])]else AD
 |.loc n=>match st[n]? with
  |some (.lst xs)=>yba xs i
  |_=>AD
 |_=>AD
def ybu(n:Nat)(v:Int):Nat:=if v<0 then(v+(n:Int)).toNat else min v.toNat n
def yc3(n:Nat)(lo:Option Int):Nat:=
 match lo with
 |none=>0
 |some i=>ybu n i
def ydf(n:Nat)(hi:Option Int):Nat:=
 match hi with
 |none=>n
 |some i=>ybu n i
def cut{A:Type}(xs:List A)(lo hi:Option Int):List A:=(xs.drop (yc3 xs.length lo)).take (ydf xs.length hi-yc3 xs.length lo)
def ycd:PV->Option (Option Int)
 |.non=>AA AD
 |.int i=>AA (AA i)
 |_=>AD
def ycM(x:PV)(a b:Option Int):Option PV:=
 match x with
 |.tp k xs=>if yc3 xs.length a=0/\ydf xs.length b=xs.length then AA (.tp k xs)else AA (.tup (cut xs a b))
 |.str s=>if s.length<=sizeMax then AA (.str #[(cut s.cps.toList a b).toArray])else AD
 |.lst xs=>AA (.lst (cut xs a b))
 |.scr xs=>AA (.lst (cut xs a b))
 |_=>AD
def ycE(x:PV)(a:Option Int)(hi:PV):Option PV:=
 match ycd hi with
 |some b=>ycM x a b
 |none=>AD
def ybN(x:PV)(t:Ty):Bool:=
 match x,t with
 |.int _,.int=>AC
 |.bl _,.int=>AC
 |.bl _,.bool=>AC
 |.str _,.str=>AC
 |.tp _ _,.tuple=>AC
 |.lst _,.list=>AC
 |.exn c,.cls d=>c==d
 |.exn _,.val=>AC
 |_,_=>AB
def ydR:Ty->Bool
 |.cls _=>AB
 |.val=>AB
 |_=>AC
def ya6(x:PV)(ts:List Ty):Option PV:=
 match x with
 |.loc _=>AD
 |.scr _=>AD
 |.exn c=>if ts.all ydR then AD else AA (.bl (ts.any (ybN (.exn c))))
 |x=>match ts with
  |[t]=>if ydR t then AA (.bl (ybN x t))else AD
  |_=>AD
def allB:List PV->Option Bool
 |[]=>AA AC
 |.bl b::r=>match allB r with
  |some c=>AA (b&&c)
  |none=>AD
 |_::_=>AD
def ycN:List PV->Option Int
 |[]=>AA 0
 |.int i::r=>match ycN r with
  |some c=>AA (i+c)
  |none=>AD
 |_::_=>AD
def ydS:List PV->Option Int
 |[]=>AD
 |[.int i]=>AA i
 |.int i::r=>match ydS r with
  |some c=>AA (if i<c then c else i)
  |none=>AD
 |_::_=>AD
def ycg(st:SO):PV->Option (List PV)
 |.tp _ xs=>AA xs
 |.lst xs=>AA xs
 |.loc n=>match st[n]? with
  |some (.lst xs)=>AA xs
  |_=>AD
 |_=>AD
def yan(st:SO):PV->Option (List PV)
 |.lst xs=>AA xs
 |.loc n=>match st[n]? with
  |some (.lst xs)=>AA xs
  |_=>AD
 |_=>AD
def lenV(st:SO)(x:PV):Option PV:=
 match x with
 |.str s=>if s.length<=sizeMax then AA (.int s.length)else AD
 |x=>(ycg st x).map λxs=>.int xs.length
def yf5(x:PV):Option PV:=
 match x with
 |.int i=>AA (.int i)
 |.bl k=>AA (.int (bi k))
 |_=>AD
def yev(x:PV):Option PV:=
 match x with
 |.int i=>AA (.int (if i<0 then -i else i))
 |_=>AD
def yfb(x y:PV):Option PV:=
 match x,y with
 |.int i,.int j=>AA (.int (if j<i then j else i))
 |_,_=>AD
def maxV(x y:PV):Option PV:=
 match x,y with
 |.int i,.int j=>AA (.int (if i<j then j else i))
 |_,_=>AD
def yeP(st:SO)(x:PV):Option PV:=
 match x with
 |.tp k xs=>AA (.tp k xs)
 |x=>(yan st x).map .tup
def yhw:PV->Option PV
 |.tp _ xs=>if xs.isEmpty then AD else AA (.tup xs.reverse)
 |.lst xs=>AA (.lst xs.reverse)
 |_=>AD
def anyB:List PV->Option Bool
 |[]=>AA AB
 |.bl b::r=>match anyB r with
  |some c=>AA (b || c)
  |none=>AD
 |_=>AD
def anyI:List PV->Option Bool
 |[]=>AA AB
 |.int i::r=>match anyI r with
  |some c=>AA ((i != 0) || c)
  |none=>AD
 |_=>AD
def yfY:PV->Option PV
 |.int i=>if i=0 then AA (.str "0")else if i=1 then AA (.str "1")else AD
 |_=>AD
def yaE(b:Blt)(st:SO)(vs:List PV):Option PV:=
 match vs with
 |[x]=>match b with
  |.len=>lenV st x
  |.int=>yf5 x
  |.abs=>yev x
  |.max=>(yan st x).bind λxs=>(ydS xs).map .int
  |.tuple=>yeP st x
  |.list=>(ycg st x).map .lst
  |.all=>(yan st x).bind λxs=>(allB xs).map .bl
  |.sum=>(yan st x).bind λxs=>(ycN xs).map .int
  |.rev=>yhw x
  |.str=>yfY x
  |.any=>match x with
   |.tp _ xs=>(anyI xs).map .bl
   |x=>(yan st x).bind λxs=>(anyB xs).map .bl
  |_=>AD
 |[x,y]=>match b with
  |.min=>yfb x y
  |.max=>maxV x y
  |_=>AD
 |_=>AD
def ybl(st:SO):PV->Option (Bool×List (PV×PV))
 |.loc n=>match st[n]? with
  |some (.dct t xs)=>AA (t,xs)
  |_=>AD
 |_=>AD
def yaX(m:Mth)(st:SO)(x:PV):Option Bool:=
 match m with
 |.append=>(yan st x).map λ_=>AC
 |.extend=>(yan st x).map λ_=>AC
 |.insert=>(yan st x).map λ_=>AC
 |.count=>(yan st x).map λ_=>AC
 |.index=>(yan st x).map λ_=>AC
 |.get=>(ybl st x).map λ_=>AC
 |.bits=>match x with
  |.int _=>AA AC
  |_=>AD
 |.upper=>match x with
  |.str _=>AA AC
  |_=>AD
 |.join=>match x with
  |.str _=>AA AC
  |_=>AD
 |.split=>match x with
  |.str _=>AA AC
  |_=>AD
 |.sidx=>match x with
  |.str _=>AA AC
  |_=>AD
 |.clear=>match x with
  |.loc n=>(yan st (.loc n)).map λ_=>AC
  |_=>AD
def yec(st:SO)(o v:PV):R PV:=
 match o with
 |.loc n=>match st[n]? with
  |some (.lst xs)=>if xs.length<1000000 then .ok .non (st.set n (.lst (xs++[v])))else .bad
  |_=>.bad
 |_=>.bad
def yhp(st:SO)(o v:PV):R PV:=
 match o with
 |.loc n=>match st[n]? with
  |some (.lst xs)=>match v with
   |.lst ys=>if xs.length+ys.length<=1000000 then .ok .non (st.set n (.lst (xs++ys)))else .bad
   |_=>.bad
  |_=>.bad
 |_=>.bad
def yhc(st:SO)(o i v:PV):R PV:=
 match o with
 |.loc n=>match st[n]? with
  |some (.lst xs)=>match i with
   |.int k=>if 0<=k/\k<=xs.length/\xs.length<1000000 then .ok .non (st.set n (.lst (xs.take k.toNat++v::xs.drop k.toNat)))else .bad
   |_=>.bad
  |_=>.bad
 |_=>.bad
def yd4(st:SO)(o k d:PV):R PV:=
 match ybl st o with
 |some (t,kvs)=>if isKey t k then .ok ((look k kvs).getD d) st else .bad
 |none=>.bad
def ygw(st:SO)(o v:PV):R PV:=
 match yan st o with
 |some xs=>if flat v&&xs.all flat then .ok (.int (xs.countP λy=>peq y v)) st else .bad
 |none=>.bad
def ydm(v:PV):List PV->Option Nat
 |[]=>AD
 |y::ys=>if peq y v then AA 0 else(ydm v ys).map (·+1)
def yf2(st:SO)(o v:PV):R PV:=
 match yan st o with
 |some xs=>if flat v&&xs.all flat then(match ydm v xs with
  |some j=>.ok (.int j) st
  |none=>.bad)else .bad
 |none=>.bad
def upC(c:Nat):Nat:=if 97<=c/\c<=122 then c-32 else c
def upS(s:AQ):Str:=#[(s.cps.toList.map upC).toArray]
def ycj(c:Nat):List Nat->List (List Nat)
 |[]=>[[]]
 |x::xs=>if x=c then []::ycj c xs else match ycj c xs with
  |[]=>[[x]]
  |p::ps=>(x::p)::ps
def strsOf:List PV->Option (List AQ)
 |[]=>AA []
 |.str s::r=>(strsOf r).map (s :: ·)
 |_=>AD
def ye2(st:SO)(o v:PV):R PV:=
 match o,yan st v with
 |.str s,AA xs=>match strsOf xs with
  |some ys=>if s.length<=10/\xs.length<=1000/\(ys.all λy=>decide (y.length<=1000))=AC then .ok (.str (Str.join s ys)) st else .bad
  |none=>.bad
 |_,_=>.bad
def ygc(st:SO)(o:PV):R PV:=
 match o with
 |.loc n=>match st[n]? with
  |some (.lst _)=>.ok .non (st.set n (.lst []))
  |_=>.bad
 |_=>.bad
def ye4(st:SO)(o v:PV):R PV:=
 match o,v with
 |.str s,.str y=>if s=AF "01" then(if y=AF "0" then .ok (.int 0) st else if y=AF "1" then .ok (.int 1) st else .bad)else .bad
 |_,_=>.bad
def ydW(st:SO)(o v:PV):R PV:=
 match o,v with
 |.str s,.str y=>match y.cps.toList with
  |[c]=>if s.length<=100000 then .ok (.lst ((ycj c s.cps.toList).map λl=>.str #[l.toArray])) st else .bad
  |_=>.bad
 |_,_=>.bad
def ycy(m:Mth)(st:SO)(o:PV)(vs:List PV):R PV:=
 match m,vs with
 |.append,[v]=>yec st o v
 |.extend,[v]=>yhp st o v
 |.insert,[i,v]=>yhc st o i v
 |.get,[k,d]=>yd4 st o k d
 |.count,[v]=>ygw st o v
 |.index,[v]=>yf2 st o v
 |.join,[v]=>ye2 st o v
 |.split,[v]=>ydW st o v
 |.sidx,[v]=>ye4 st o v
 |.clear,[]=>ygc st o
 |.bits,[]=>match o with
  |.int i=>.ok (.int (Builtin.Int.intBits i)) st
  |_=>.bad
 |.upper,[]=>match o with
  |.str s=>if s.cps.toList.all (· < 128)/\s.length<=1000000 then .ok (.str (upS s)) st else .bad
  |_=>.bad
 |_,_=>.bad
def toR(o:Option PV)(st:SO):R PV:=
 match o with
 |some v=>.ok v st
 |none=>.bad
def yU(t:Tg)(v:PV)(U:Env):Option Env:=
 match t,v with
 |.n i,v=>AA (U.set i (AA v))
 |.t l,.tp _ xs=>if l.length=xs.length then AA ((l.zip xs).foldl (λU p=>U.set p.1 (AA p.2)) U)else AD
 |_,_=>AD
def yJ:Nat->List PV->List PV
 |_,[]=>[]
 |k,x::xs=>.tup [.int k,x]::yJ (k+1) xs
def ya4:List PV->List PV->List PV
 |x::xs,y::ys=>.tup [x,y]::ya4 xs ys
 |_,_=>[]
def yhd:PV->Option (List PV)
 |.tp _ xs=>AA xs.reverse
 |.lst xs=>AA xs.reverse
 |_=>AD
def ydE:PV->Option (List PV)
 |.str s=>if s.length<=1000000 then AA (s.cps.toList.map λc=>.str #[(List.toArray [c])])else AD
 |_=>AD
def yd6(x y:PV):Option (List PV):=
 match x,y with
 |.tp _ xs,.tp _ ys=>if xs.length<=ys.length then AA (ya4 xs ys)else AD
 |_,_=>AD
def ya7(s:AQ):List (AQ×PV)->Option PV
 |[]=>AD
 |(a,b)::r=>if decide (a=s)then AA b else ya7 s r
def ycL(D:List (AQ×PV))(x:PV):Option PV:=
 match x with
 |.str s=>ya7 s D
 |_=>AD
def ycA(D:List (AQ×PV))(x:PV):Option PV:=
 match x with
 |.str s=>AA (.bl (ya7 s D).isSome)
 |_=>AD
def yx:Nat->Int->Int->List PV
 |0,_,_=>[]
 |n+1,a,d=>.int a::yx n (a+d) d
def yb8(x:PV):Option (List PV):=
 match x with
 |.int j=>if j.natAbs<1000000000 then AA (yx j.toNat 0 1)else AD
 |_=>AD
def ygl(x:PV):Option (List PV):=
 match x with
 |.int j=>if 0<=j/\j<1000000000 then AA (yx j.toNat (j-1) (-1))else AD
 |_=>AD
def yhv(x y:PV):Option (List PV):=
 match x,y with
 |.int i,.int j=>if i.natAbs<1000000000/\j.natAbs<1000000000 then AA (yx (j-i).toNat i 1)else AD
 |_,_=>AD
def ygg(x y:PV):Option (List PV):=
 match x,y with
 |.int i,.int j=>if i.natAbs<1000000000/\j.natAbs<1000000000 then AA (yx (i-j).toNat i (-1))else AD
 |_,_=>AD
def toL(o:Option (List PV))(st:SO):R (List PV):=
 match o with
 |some v=>.ok v st
 |none=>.bad
def ydN(v:PV)(st:SO):R PV:=
 match v with
 |.loc n=>match st[n]? with
  |some (.lst xs)=>.ok (.lst xs) (st.set n .dead)
  |_=>.bad
 |v=>.ok v st
def mkV(D:List (AQ×Nat))(b:Bool)(x:PV):Option Nat:=
 match x with
 |.str s=>if b then D.lookup s else AD
 |_=>AD
def ybb(c:Nat)(st:SO)(x:PV)(f:AQ):Option PV:=
 match x with
 |.loc n=>match st[n]? with
  |some (.ins d fs)=>if d=c then fs.lookup f else AD
  |_=>AD
 |_=>AD
def yb4(f:AQ)(v:PV):List (AQ×PV)->List (AQ×PV)
 |[]=>[(f,v)]
 |(g,x)::r=>if g=f then(g,v)::r else(g,x)::yb4 f v r
def ybd(c:Nat)(st:SO)(x:PV)(f:AQ)(v:PV):Option SO:=
 match x with
 |.loc n=>match st[n]? with
  |some (.ins d fs)=>if d=c/\fs.length<1000 then AA (st.set n (.ins c (yb4 f v fs)))else AD
  |_=>AD
 |_=>AD
def ycn(c:Nat)(m:AQ)(st:SO)(x:PV):Option Bool:=
 match x with
 |.loc n=>match st[n]? with
  |some (.ins d fs)=>if d=c/\fs.lookup m=AD then AA AC else AD
  |_=>AD
 |_=>AD
def newV(n:Nat)(v:PV)(st:SO):R PV:=
 match v with
 |.non=>.ok (.loc n) st
 |_=>.bad
def ybM(r:R PV):R PV:=
 match r with
 |.ok v st=>.ok v st
 |_=>.bad
inductive Fl where
 |nx (U:Env) (st:SO)|rt (v:PV) (st:SO)|bk (U:Env) (st:SO)|ct (U:Env) (st:SO)|exc (c:Nat) (U:Env) (st:SO)|bad
def onBl{A:Type}(x:PV)(k:Bool->R A):R A:=
 match x with
 |.bl b=>k b
 |_=>.bad
def onO{A:Type}(o:Option Bool)(k:Bool->R A):R A:=
 match o with
 |some b=>k b
 |none=>.bad
def onF(o:Option Bool)(k:Bool->Fl):Fl:=
 match o with
 |some b=>k b
 |none=>.bad
def onP{A:Type}(o:Option (Option Int))(k:Option Int->R A):R A:=
 match o with
 |some b=>k b
 |none=>.bad
def blO(o:Option PV):Option Bool:=
 match o with
 |some (.bl b)=>AA b
 |_=>AD
def yc8(o:Option PV)(ys:List PV):List PV:=
 match o with
 |some y=>y::ys
 |none=>ys
def ybU(one:PV->SO->R (Option PV)):List PV->SO->R (List PV)
 |[],st=>.ok [] st
 |x::xs,st=>(one x st).bind λo st1=>(ybU one xs st1).bind λys st2=>.ok (yc8 o ys) st2
def yb5(r:R (List PV)):R PV:=
 match r with
 |.ok ys st=>if ys.length<=1000000 then .ok (.lst ys) st else .bad
 |_=>.bad
mutual
noncomputable def ev(call:Nat->List PV->SO->R PV)(U:Env)(st:SO):Ce->R PV
 |.cst v=>.ok v st
 |.var i=>match U[i]? with
  |some (AA v)=>.ok v st
  |_=>.bad
 |.bin o a b=>(ev call U st a).bind λx st1=>(ev call U st1 b).bind λy st2=>toR (yI o x y) st2
 |.neg a=>(ev call U st a).bind λx st1=>match x with
  |.int i=>.ok (.int (-i)) st1
  |_=>.bad
 |.not a=>(ev call U st a).bind λx st1=>onBl x λk=>.ok (.bl (!k)) st1
 |.and a b=>(ev call U st a).bind λx st1=>onBl x λk=>cond k (ev call U st1 b) (.ok (.bl AB) st1)
 |.or a b=>(ev call U st a).bind λx st1=>onBl x λk=>cond k (.ok (.bl AC) st1) (ev call U st1 b)
 |.cmp o a b=>(ev call U st a).bind λx st1=>(ev call U st1 b).bind λy st2=>toR (yP o x y) st2
 |.chain o p a b c=>(ev call U st a).bind λx st1=>(ev call U st1 b).bind λy st2=>onO (blO (yP o x y)) λk=>cond k ((ev call U st2 c).bind λz st3=>toR (yP p y z) st3) (.ok (.bl AB) st2)
 |.ite c a b=>(ev call U st c).bind λx st1=>onO (yaY st1 x) λk=>cond k (ev call U st1 a) (ev call U st1 b)
 |.tup es=>(evs call U st es).bind λvs st1=>if vs.length<=sizeMax then .ok (.tup vs) st1 else .bad
 |.lst es=>(evs call U st es).bind λvs st1=>if vs.length<=sizeMax then .ok (.lst vs) st1 else .bad
 |.newl es=>(evs call U st es).bind λvs st1=>if vs.length<=sizeMax then .ok (.loc st1.length) (st1++[.lst vs])else .bad
 |.dict0 t=>.ok (.loc st.length) (st++[.dct t []])
 |.idx a i=>(ev call U st a).bind λx st1=>(ev call U st1 i).bind λy st2=>toR (idxV st2 x y) st2
 |.slc a l h=>(ev call U st a).bind λx st1=>(ev call U st1 l).bind λy st2=>onP (ycd y) λo=>(ev call U st2 h).bind λz st3=>toR (ycE x o z) st3
 |.call f es=>(evs call U st es).bind λvs st1=>call f vs st1
 |.blt b es=>(evs call U st es).bind λvs st1=>toR (yaE b st1 vs) st1
 |.mth m o es=>(ev call U st o).bind λx st1=>onO (yaX m st1 x) λ_=>(evs call U st1 es).bind λvs st2=>ycy m st2 x vs
 |.isi a ts=>(ev call U st a).bind λx st1=>toR (ya6 x ts) st1
 |.comp sl tg it c e=>(evi call U st it).bind λxs st1=>
  let U0:Env:=sl.map λo=>o.bind λj=>(U[j]?).join
  yb5 (ybU (λx st2=>match yU tg x U0 with
   |none=>.bad
   |some U1=>(ev call U1 st2 c).bind λb st3=>onO (yaY st3 b) λk=>cond k ((ev call U1 st3 e).bind λy st4=>.ok (AA y) st4) (.ok AD st3)) xs st1)
 |.nope=>.bad
 |.frz a=>(ev call U st a).bind λx st1=>ydN x st1
 |.dix D a=>(ev call U st a).bind λx st1=>toR (ycL D x) st1
 |.din a D=>(ev call U st a).bind λx st1=>toR (ycA D x) st1
 |.fld c a f=>(ev call U st a).bind λx st1=>toR (ybb c st1 x f) st1
 |.new c i es=>(evs call U st es).bind λvs st1=>(ybM (call i (.loc st1.length::vs) (st1++[.ins c []]))).bind λv st2=>newV st1.length v st2
 |.mcl c i m o es=>(ev call U st o).bind λx st1=>onO (ycn c m st1 x) λ_=>(evs call U st1 es).bind λvs st2=>call i (x::vs) st2
noncomputable def evs(call:Nat->List PV->SO->R PV)(U:Env)(st:SO):Ces->R (List PV)
 |.nil=>.ok [] st
 |.cons e es=>(ev call U st e).bind λv st1=>(evs call U st1 es).bind λvs st2=>.ok (v::vs) st2
noncomputable def evi(call:Nat->List PV->SO->R PV)(U:Env)(st:SO):Cit->R (List PV)
 |.seq e=>(ev call U st e).bind λv st1=>match v with
  |.tp _ xs=>.ok xs st1
  |.lst xs=>.ok xs st1
  |_=>.bad
 |.range1 a=>(ev call U st a).bind λx st1=>toL (yb8 x) st1
 |.range2 a b=>(ev call U st a).bind λx st1=>(ev call U st1 b).bind λy st2=>toL (yhv x y) st2
 |.rangeD a b=>(ev call U st a).bind λx st1=>(ev call U st1 b).bind λy st2=>toL (ygg x y) st2
 |.enum e=>(ev call U st e).bind λv st1=>match v with
  |.tp _ xs=>.ok (yJ 0 xs) st1
  |_=>.bad
 |.zip a b=>(ev call U st a).bind λx st1=>(ev call U st1 b).bind λy st2=>toL (yd6 x y) st2
 |.revl e=>(ev call U st e).bind λv st1=>toL (yhd v) st1
 |.revr a=>(ev call U st a).bind λx st1=>toL (ygl x) st1
 |.chars e=>(ev call U st e).bind λv st1=>toL (ydE v) st1
end
def R.fl{A:Type}(r:R A)(U:Env)(k:A->SO->Fl):Fl:=
 match r with
 |.ok a st=>k a st
 |.exc c st=>.exc c U st
 |.bad=>.bad
def yaN(f:Fl)(k:Env->SO->Fl):Fl:=
 match f with
 |.nx U st=>k U st
 |.ct U st=>k U st
 |.bk U st=>.nx U st
 |f=>f
def forL(t:Tg)(body:Env->SO->Fl):List PV->Env->SO->Fl
 |[],U,st=>.nx U st
 |x::xs,U,st=>match yU t x U with
  |none=>.bad
  |some U1=>yaN (body U1 st) λU2 st2=>forL t body xs U2 st2
def yaH(test:Env->SO->R PV)(body:Env->SO->Fl):Nat->Env->SO->Fl
 |0,_,_=>.bad
 |n+1,U,st=>(test U st).fl U λx st1=>onF (yaY st1 x) λk=>cond k (yaN (body U st1) λU2 st2=>yaH test body n U2 st2) (.nx U st1)
def ybG(st:SO)(o i v:PV):Option SO:=
 match o with
 |.loc n=>match st[n]? with
  |some (.lst xs)=>match i with
   |.int k=>match ixI xs.length k with
    |some j=>AA (st.set n (.lst (xs.set j v)))
    |none=>AD
   |_=>AD
  |_=>AD
 |_=>AD
def ybs(st:SO)(o i v:PV):Option SO:=
 match o with
 |.loc n=>match st[n]? with
  |some (.dct t kvs)=>if isKey t i/\kvs.length<1000000 then AA (st.set n (.dct t (put i v kvs)))else AD
  |_=>AD
 |_=>AD
mutual
noncomputable def ex(call:Nat->List PV->SO->R PV)(U:Env)(st:SO):Cs->Fl
 |.expr e=>(ev call U st e).fl U λ_ st1=>.nx U st1
 |.asg t e=>(ev call U st e).fl U λv st1=>match yU t v U with
  |some U1=>.nx U1 st1
  |none=>.bad
 |.six o i e=>(ev call U st e).fl U λv st1=>(ev call U st1 o).fl U λx st2=>(ev call U st2 i).fl U λy st3=>match ybG st3 x y v with
  |some st4=>.nx U st4
  |none=>.bad
 |.dput o i e=>(ev call U st e).fl U λv st1=>(ev call U st1 o).fl U λx st2=>(ev call U st2 i).fl U λy st3=>match ybs st3 x y v with
  |some st4=>.nx U st4
  |none=>.bad
 |.aug i o e=>match U[i]? with
  |some (AA x)=>(ev call U st e).fl U λy st1=>match ybZ o x y with
   |some z=>.nx (U.set i (AA z)) st1
   |none=>.bad
  |_=>.bad
 |.ret e=>(ev call U st e).fl U λv st1=>.rt v st1
 |.ite c a b=>(ev call U st c).fl U λx st1=>onF (yaY st1 x) λk=>cond k (exs call U st1 a) (exs call U st1 b)
 |.for t it b=>(evi call U st it).fl U λxs st1=>forL t (λU2 st2=>exs call U2 st2 b) xs U st1
 |.while c b=>yaH (λU2 st2=>ev call U2 st2 c) (λU2 st2=>exs call U2 st2 b) 100000 U st
 |.nope=>.bad
 |.mkr i D n es=>(ev call U st n).fl U λx st1=>match mkV D (decide (i<U.length)) x with
  |some j=>((evs call (U.set i AD) st1 es).bind λvs st2=>call j vs st2).fl (U.set i AD) λv st3=>.rt v st3
  |none=>.bad
 |.sfl c o f e=>(ev call U st e).fl U λv st1=>(ev call U st1 o).fl U λx st2=>match ybd c st2 x f v with
  |some st3=>.nx U st3
  |none=>.bad
noncomputable def exs(call:Nat->List PV->SO->R PV)(U:Env)(st:SO):Css->Fl
 |.nil=>.nx U st
 |.cons s ss=>match ex call U st s with
  |.nx U1 st1=>exs call U1 st1 ss
  |f=>f
end
section
variable {call:Nat->List PV->SO->R PV}{U:Env}{st:SO}
theorem ve1{v}:ev call U st (.cst v)=.ok v st:=rfl
theorem ve2{i}:ev call U st (.var i)=(match U[i]? with
    |some (AA v)=>.ok v st
    |_=>.bad):=rfl
theorem ve3{o a b}:ev call U st (.bin o a b)=(ev call U st a).bind λx st1=>(ev call U st1 b).bind λy st2=>toR (yI o x y) st2:=rfl
theorem ve4{a}:ev call U st (.neg a)=((ev call U st a).bind λx st1=>match x with
    |.int i=>.ok (.int (-i)) st1
    |_=>.bad):=rfl
theorem ve5{a}:ev call U st (.not a)=(ev call U st a).bind λx st1=>onBl x λk=>.ok (.bl (!k)) st1:=rfl
theorem ve6{a b}:ev call U st (.and a b)=(ev call U st a).bind λx st1=>onBl x λk=>cond k (ev call U st1 b) (.ok (.bl AB) st1):=rfl
theorem ve7{a b}:ev call U st (.or a b)=(ev call U st a).bind λx st1=>onBl x λk=>cond k (.ok (.bl AC) st1) (ev call U st1 b):=rfl
theorem ve8{o a b}:ev call U st (.cmp o a b)=(ev call U st a).bind λx st1=>(ev call U st1 b).bind λy st2=>toR (yP o x y) st2:=rfl
theorem ve9{o p a b c}:ev call U st (.chain o p a b c)=(ev call U st a).bind λx st1=>(ev call U st1 b).bind λy st2=>onO (blO (yP o x y)) λk=>cond k ((ev call U st2 c).bind λz st3=>toR (yP p y z) st3) (.ok (.bl AB) st2):=rfl
theorem ve10{c a b}:ev call U st (.ite c a b)=(ev call U st c).bind λx st1=>onO (yaY st1 x) λk=>cond k (ev call U st1 a) (ev call U st1 b):=rfl
theorem ve11{es}:ev call U st (.tup es)=((evs call U st es).bind λvs st1=>if vs.length<=sizeMax then .ok (.tup vs) st1 else .bad):=rfl
theorem ve12{es}:ev call U st (.lst es)=((evs call U st es).bind λvs st1=>if vs.length<=sizeMax then .ok (.lst vs) st1 else .bad):=rfl
theorem ve13{es}:ev call U st (.newl es)=((evs call U st es).bind λvs st1=>if vs.length<=sizeMax then .ok (.loc st1.length) (st1++[.lst vs])else .bad):=rfl
theorem ve15{t}:ev call U st (.dict0 t)=.ok (.loc st.length) (st++[.dct t []]):=rfl
theorem ve16{a i}:ev call U st (.idx a i)=(ev call U st a).bind λx st1=>(ev call U st1 i).bind λy st2=>toR (idxV st2 x y) st2:=rfl
theorem ve17{a l h}:ev call U st (.slc a l h)=(ev call U st a).bind λx st1=>(ev call U st1 l).bind λy st2=>onP (ycd y) λo=>(ev call U st2 h).bind λz st3=>toR (ycE x o z) st3:=rfl
theorem ve18{f es}:ev call U st (.call f es)=(evs call U st es).bind λvs st1=>call f vs st1:=rfl
theorem ve19{b es}:ev call U st (.blt b es)=(evs call U st es).bind λvs st1=>toR (yaE b st1 vs) st1:=rfl
theorem ve20{m o es}:ev call U st (.mth m o es)=(ev call U st o).bind λx st1=>onO (yaX m st1 x) λ_=>(evs call U st1 es).bind λvs st2=>ycy m st2 x vs:=rfl
theorem ve21{a ts}:ev call U st (.isi a ts)=(ev call U st a).bind λx st1=>toR (ya6 x ts) st1:=rfl
theorem vx20{sl tg it c e}:ev call U st (.comp sl tg it c e)=((evi call U st it).bind λxs st1=>
    let U0:Env:=sl.map λo=>o.bind λj=>(U[j]?).join
    yb5 (ybU (λx st2=>match yU tg x U0 with
     |none=>.bad
     |some U1=>(ev call U1 st2 c).bind λb st3=>onO (yaY st3 b) λk=>cond k ((ev call U1 st3 e).bind λy st4=>.ok (AA y) st4) (.ok AD st3)) xs st1)):=rfl
theorem ve24:ev call U st .nope=.bad:=rfl
theorem ve25{a}:ev call U st (.frz a)=(ev call U st a).bind λx st1=>ydN x st1:=rfl
theorem ve28{D a}:ev call U st (.dix D a)=(ev call U st a).bind λx st1=>toR (ycL D x) st1:=rfl
theorem ve29{a D}:ev call U st (.din a D)=(ev call U st a).bind λx st1=>toR (ycA D x) st1:=rfl
theorem ve32{c a f}:ev call U st (.fld c a f)=(ev call U st a).bind λx st1=>toR (ybb c st1 x f) st1:=rfl
theorem ve33{c i es}:ev call U st (.new c i es)=(evs call U st es).bind λvs st1=>(ybM (call i (.loc st1.length::vs) (st1++[.ins c []]))).bind λv st2=>newV st1.length v st2:=rfl
theorem ve37{c i m o es}:ev call U st (.mcl c i m o es)=(ev call U st o).bind λx st1=>onO (ycn c m st1 x) λ_=>(evs call U st1 es).bind λvs st2=>call i (x::vs) st2:=rfl
theorem vs0:evs call U st .nil=.ok [] st:=rfl
theorem vs1{e es}:evs call U st (.cons e es)=(ev call U st e).bind λv st1=>(evs call U st1 es).bind λvs st2=>.ok (v::vs) st2:=rfl
theorem vi0{e}:evi call U st (.seq e)=((ev call U st e).bind λv st1=>match v with
    |.tp _ xs=>.ok xs st1
    |.lst xs=>.ok xs st1
    |_=>.bad):=rfl
theorem vi1{a}:evi call U st (.range1 a)=(ev call U st a).bind λx st1=>toL (yb8 x) st1:=rfl
theorem vi2{a b}:evi call U st (.range2 a b)=(ev call U st a).bind λx st1=>(ev call U st1 b).bind λy st2=>toL (yhv x y) st2:=rfl
theorem vi3{a b}:evi call U st (.rangeD a b)=(ev call U st a).bind λx st1=>(ev call U st1 b).bind λy st2=>toL (ygg x y) st2:=rfl
theorem vi4{e}:evi call U st (.enum e)=((ev call U st e).bind λv st1=>match v with
    |.tp _ xs=>.ok (yJ 0 xs) st1
    |_=>.bad):=rfl
theorem vi5{a b}:evi call U st (.zip a b)=(ev call U st a).bind λx st1=>(ev call U st1 b).bind λy st2=>toL (yd6 x y) st2:=rfl
theorem vi6{e}:evi call U st (.revl e)=(ev call U st e).bind λv st1=>toL (yhd v) st1:=rfl
theorem vi7{a}:evi call U st (.revr a)=(ev call U st a).bind λx st1=>toL (ygl x) st1:=rfl
theorem vi8{e}:evi call U st (.chars e)=(ev call U st e).bind λv st1=>toL (ydE v) st1:=rfl
theorem xr0{e}:ex call U st (.expr e)=(ev call U st e).fl U λ_ st1=>.nx U st1:=rfl
theorem xr1{t e}:ex call U st (.asg t e)=((ev call U st e).fl U λv st1=>match yU t v U with
    |some U1=>.nx U1 st1
    |none=>.bad):=rfl
theorem xr2{o i e}:ex call U st (.six o i e)=((ev call U st e).fl U λv st1=>(ev call U st1 o).fl U λx st2=>(ev call U st2 i).fl U λy st3=>match ybG st3 x y v with
    |some st4=>.nx U st4
    |none=>.bad):=rfl
theorem xr3{o i e}:ex call U st (.dput o i e)=((ev call U st e).fl U λv st1=>(ev call U st1 o).fl U λx st2=>(ev call U st2 i).fl U λy st3=>match ybs st3 x y v with
    |some st4=>.nx U st4
    |none=>.bad):=rfl
theorem xr4{i o e}:ex call U st (.aug i o e)=(match U[i]? with
    |some (AA x)=>(ev call U st e).fl U λy st1=>match ybZ o x y with
     |some z=>.nx (U.set i (AA z)) st1
     |none=>.bad
    |_=>.bad):=rfl
theorem xr5{e}:ex call U st (.ret e)=(ev call U st e).fl U λv st1=>.rt v st1:=rfl
theorem xr6{c a b}:ex call U st (.ite c a b)=(ev call U st c).fl U λx st1=>onF (yaY st1 x) λk=>cond k (exs call U st1 a) (exs call U st1 b):=rfl
theorem xr7{t it b}:ex call U st (.for t it b)=(evi call U st it).fl U λxs st1=>forL t (λU2 st2=>exs call U2 st2 b) xs U st1:=rfl
theorem xr8{c b}:ex call U st (.while c b)=yaH (λU2 st2=>ev call U2 st2 c) (λU2 st2=>exs call U2 st2 b) 100000 U st:=rfl
theorem xr9:ex call U st .nope=.bad:=rfl
theorem xr10{i D n es}:ex call U st (.mkr i D n es)=((ev call U st n).fl U λx st1=>match mkV D (decide (i<U.length)) x with
    |some j=>((evs call (U.set i AD) st1 es).bind λvs st2=>call j vs st2).fl (U.set i AD) λv st3=>.rt v st3
    |none=>.bad):=rfl
theorem xr11{c o f e}:ex call U st (.sfl c o f e)=((ev call U st e).fl U λv st1=>(ev call U st1 o).fl U λx st2=>match ybd c st2 x f v with
    |some st3=>.nx U st3
    |none=>.bad):=rfl
theorem xq0:exs call U st .nil=.nx U st:=rfl
theorem xq1{s ss}:exs call U st (.cons s ss)=(match ex call U st s with
    |.nx U1 st1=>exs call U1 st1 ss
    |f=>f):=rfl
end
structure Fn where
 np:Nat
 ns:Nat
 pure:Bool
 body:Css
def yd(T:Nat->Option Fn):Nat->Nat->List PV->SO->R PV
 |0,_,_,_=>.bad
 |k+1,f,args,st=>match T f with
  |none=>.bad
  |some fn=>if args.length=fn.np then
    if fn.pure then
     if nLs args then match exs (yd T k) (args.map AA++BI (fn.ns-fn.np) AD) [] fn.body with
      |.rt v _=>if nL v then .ok v st else .bad
      |.nx _ _=>.ok .non st
      |.exc c _ _=>.exc c st
      |_=>.bad
     else .bad
    else match exs (yd T k) (args.map AA++BI (fn.ns-fn.np) AD) st fn.body with
     |.rt v st1=>.ok v st1
     |.nx _ st1=>.ok .non st1
     |.exc c _ st1=>.exc c st1
     |_=>.bad
   else .bad
def yj:List (Sum Ce Int)->Ces
 |[]=>.nil
 |.inl c::r=>.cons c (yj r)
 |.inr i::r=>.cons (.cst (.int i)) (yj r)
def yL:Ces->Ces->Ces
 |.nil,b=>b
 |.cons e r,b=>.cons e (yL r b)
end IC
namespace L2
open PySem PySem.Spec PyProof.Rows IC
abbrev Ph:=List (Option AI)
section
variable (K:AE)(cl:Nat->AI)(B:AI->Prop)(A:Ph)(H:Hp)
def ybV(k:Bool)(a:AI)(xs:List V):Prop:=(H a=AA (.tup xs)/\¬B a/\AA a∉A) \/
 k=AC/\∃(o:CP) (its:Array AG) (n:Nat),K.lookup a=AA o/\o.cls=.type "tuple"/\o.data=.seq its n/\its.size<=sizeLine/\Vals xs its.toList
def ycV(a:AI)(xs:List V):Prop:=H a=AA (.lst xs)/\¬B a/\AA a∉A
def yd8(a:AI)(xs:List V):Prop:=(Rd H a (.lst xs)/\¬B a/\AA a∉A) \/
 ∃(o:CP) (its:Array AG) (n:Nat),K.lookup a=AA o/\o.cls=.type "list"/\o.dict=AD/\o.data=.seq its n/\its.size<=sizeLine/\Vals xs its.toList
mutual
noncomputable def yh:PV->V->Prop
 |.non,x=>x=.non
 |.bl b,x=>x=.bl b
 |.int i,x=>x=.int i
 |.str s,x=>x=.str s
 |.tp k vs,x=>∃a xs,x=.ref a/\ybV K B A H k a xs/\yp vs xs
 |.lst vs,x=>∃a xs,x=.ref a/\ycV B A H a xs/\yp vs xs
 |.loc n,x=>n<A.length/\∃a,x=.ref a/\∀b,A[n]?=AA (AA b)->b=a
 |.exn c,x=>∃a,x=.ref a/\H a=AA (.ext (ygr a (cl c)))/\¬B a/\AA a∉A
 |.scr vs,x=>∃a xs,x=.ref a/\yd8 K B A H a xs/\yp vs xs
noncomputable def yp:List PV->List V->Prop
 |[],xs=>xs=[]
 |v::vs,xs=>∃y ys,xs=y::ys/\yh v y/\yp vs ys
end
def yaS:Key->PV
 |.inl i=>.int i
 |.inr y=>.str y
def DK:List (PV×PV)->List (Key×V)->Prop
 |[],ks=>ks=[]
 |(k,v)::r,ks=>∃q x s,ks=(q,x)::s/\k=yaS q/\yh K cl B A H v x/\DK r s
def DT:List (PV×PV)->List (List Key×V)->Prop
 |[],ks=>ks=[]
 |(k,v)::r,ks=>∃q x s,ks=(q,x)::s/\k=.tup (q.map yaS)/\yh K cl B A H v x/\DT r s
def FS:List (AQ×PV)->List (AQ×V)->Prop
 |[],ks=>ks=[]
 |(k,v)::r,ks=>∃x s,ks=(k,x)::s/\yh K cl B A H v x/\FS r s
def ycw:Ob->AI->Prop
 |.lst vs,a=>∃xs,H a=AA (.lst xs)/\yp K cl B A H vs xs
 |.dct AB kvs,a=>∃ks,H a=AA (.dK ks)/\DK K cl B A H kvs ks
 |.dct AC kvs,a=>∃ks,H a=AA (.dT ks)/\DT K cl B A H kvs ks
 |.dead,_=>False
 |.ins c fs,a=>∃ks,(∃dx,H a=AA (.ins (cl c) dx ks))/\FS K cl B A H fs ks
structure yH(st:SO):Prop where
 len:A.length=st.length
 inj:∀(m n:Nat) (a:AI),A[m]?=AA (AA a)->A[n]?=AA (AA a)->m=n
 obj:∀(n:Nat) (a:AI),A[n]?=AA (AA a)->∃o,st[n]?=AA o/\ycw K cl B A H o a
 liv:∀(n:Nat) (o:Ob),st[n]?=AA o->o ≠ .dead->∃a,A[n]?=AA (AA a)
 nb:∀a,AA a∈A->¬B a
 dom:∀a,B a->∃o,H a=AA o
structure yZ(U:IC.Env)(C:St):Prop where
 len:U.length=C.length
 get:∀(i:Nat) (v:PV),U[i]?=AA (AA v)->∃x,C[i]?=AA (AA x)/\yh K cl B A H v x
end
structure Step(A:Ph)(H:Hp)(A':Ph)(H':Hp):Prop where
 keep:∀b o,AA b∉A->H b=AA o->H' b=AA o
 len:A.length<=A'.length
 pre:∀(n:Nat) (a:AI),n<A.length->A'[n]?=AA (AA a)->A[n]?=AA (AA a)
 new:∀b,AA b∈A'->AA b∈A \/ H b=AD
theorem Step.rfl{A:Ph}{H:Hp}:Step A H A H:=#[λ_ _ _ e=>e,AT _,λ_ _ _ e=>e,λ_ h=>.inl h]
theorem Step.trans{A A1 A2:Ph}{H H1 H2:Hp}(s:Step A H A1 H1)(t:Step A1 H1 A2 H2):Step A H A2 H2:=by
 refine#[λb o n e=>?_,BZ s.len t.len,λn a hn e=>s.pre n a hn (t.pre n a (A9 hn s.len) e),λb hb=>?_]
 .refine t.keep b o (λh=>?_) (s.keep b o n e);rcases s.new b h with q|q
  .exact n q
  .rw[e]at q;cases q
 .rcases t.new b hb with q|q
  .exact s.new b q
  .by_cases h:AA b∈A
   .exact .inl h
   .refine .inr ?_
    cases e:H b with
    |none=>exact DW _
    |some o=>rw[s.keep b o h e]at q;cases q
section
variable {K:AE}{cl:Nat->AI}{B:AI->Prop}{A A':Ph}{H H':Hp}{st:SO}{U:IC.Env}{C:St}
theorem Rd.step(s:Step A H A' H'){a:AI}{u:HO}(n:AA a∉A)(r:Rd H a u):Rd H' a u/\AA a∉A':=by
 have h:∃o,H a=AA o:=by rcases r with r|⟨o,r⟩<;>exact#[_,r]
 refine#[?_,λz=>?_]
 .rcases r with r|⟨o,r⟩
  .exact .inl (s.keep _ _ n r)
  .exact .inr #[o,s.keep _ _ n r]
 .let#[o,e]:=h;rcases s.new a z with q|q
  .exact n q
  .rw[e]at q;cases q
theorem ybV.step(s:Step A H A' H'){k:Bool}{a:AI}{xs:List V}(r:ybV K B A H k a xs):ybV K B A' H' k a xs:=by
 rcases r with⟨r,b,n⟩|r
 .let#[_,n']:=(Rd.of r).step s n;exact .inl #[s.keep _ _ n r,b,n']
 .exact .inr r
theorem ycV.step(s:Step A H A' H'){a:AI}{xs:List V}(r:ycV B A H a xs):ycV B A' H' a xs:=by let#[r,b,n]:=r;let#[_,n']:=(Rd.of r).step s n;exact#[s.keep _ _ n r,b,n']
theorem yd8.step(s:Step A H A' H'){a:AI}{xs:List V}(r:yd8 K B A H a xs):yd8 K B A' H' a xs:=by
 rcases r with⟨r,b,n⟩|r
 .let#[r',n']:=r.step s n;exact .inl #[r',b,n']
 .exact .inr r
mutual
theorem yh.step(s:Step A H A' H'):∀(v:PV) (x:V),yh K cl B A H v x->yh K cl B A' H' v x
 |.non,x,h=>by erw[yh]at h ⊢;exact h
 |.bl b,x,h=>by erw[yh]at h ⊢;exact h
 |.int i,x,h=>by erw[yh]at h ⊢;exact h
 |.str y,x,h=>by erw[yh]at h ⊢;exact h
 |.tp k vs,x,h=>by erw[yh]at h ⊢;let#[a,xs,e,r,l]:=h;exact#[a,xs,e,r.step s,yp.step s vs xs l]
 |.lst vs,x,h=>by erw[yh]at h ⊢;let#[a,xs,e,r,l]:=h;exact#[a,xs,e,r.step s,yp.step s vs xs l]
 |.loc n,x,h=>by erw[yh]at h ⊢;let#[h1,a,e,h2]:=h;exact#[A9 h1 s.len,a,e,λb q=>h2 b (s.pre n b h1 q)]
 |.exn c,x,h=>by erw[yh]at h ⊢;let#[a,e,r,b,n]:=h;let#[_,n']:=(Rd.of r).step s n;exact#[a,e,s.keep _ _ n r,b,n']
 |.scr vs,x,h=>by erw[yh]at h ⊢;let#[a,xs,e,r,l]:=h;exact#[a,xs,e,r.step s,yp.step s vs xs l]
theorem yp.step(s:Step A H A' H'):∀(v:List PV) (x:List V),yp K cl B A H v x->yp K cl B A' H' v x
 |[],x,h=>by erw[yp]at h ⊢;exact h
 |v::vs,x,h=>by erw[yp]at h ⊢;let#[y,ys,e,r,l]:=h;exact#[y,ys,e,yh.step s v y r,yp.step s vs ys l]
end
theorem yZ.step(s:Step A H A' H')(r:yZ K cl B A H U C):yZ K cl B A' H' U C:=#[r.len,λi v e=>by let#[x,h,q]:=r.get i v e;exact#[x,h,q.step s]]
mutual
theorem yh.inn(hn:∀a,AA a∈A->¬B a):∀(v:PV) (x:V),nL v=AC->yh K cl B A H v x->yh K cl (λa=>B a \/ AA a∈A) [] H v x
 |.non,x,_,h=>by erw[yh]at h ⊢;exact h
 |.bl b,x,_,h=>by erw[yh]at h ⊢;exact h
 |.int i,x,_,h=>by erw[yh]at h ⊢;exact h
 |.str y,x,_,h=>by erw[yh]at h ⊢;exact h
 |.tp k vs,x,q,h=>by
  erw[yh]at h ⊢;let#[a,xs,e,r,l]:=h;refine#[a,xs,e,?_,yp.inn hn vs xs (by simpa only[nL] using q) l];rcases r with⟨r,b,n⟩|r
  .exact .inl #[r,λz=>z.elim b n,by simp]
  .exact .inr r
 |.lst vs,x,q,h=>by erw[yh]at h ⊢;let#[a,xs,e,#[r,b,n],l]:=h;exact#[a,xs,e,#[r,λz=>z.elim b n,by simp],yp.inn hn vs xs (by simpa only[nL] using q) l]
 |.loc n,x,q,h=>by simp[nL]at q
 |.exn c,x,q,h=>by simp[nL]at q
 |.scr vs,x,q,h=>by
  erw[yh]at h ⊢;let#[a,xs,e,r,l]:=h;refine#[a,xs,e,?_,yp.inn hn vs xs (by simpa only[nL] using q) l];rcases r with⟨r,b,n⟩|r
  .exact .inl #[r,λz=>z.elim b n,by simp]
  .exact .inr r
theorem yp.inn(hn:∀a,AA a∈A->¬B a):∀(v:List PV) (x:List V),nLs v=AC->yp K cl B A H v x->yp K cl (λa=>B a \/ AA a∈A) [] H v x
 |[],x,_,h=>by erw[yp]at h ⊢;exact h
 |v::vs,x,q,h=>by erw[yp]at h ⊢;erw[nLs,AK]at q;let#[y,ys,e,r,l]:=h;exact#[y,ys,e,yh.inn hn v y q.1 r,yp.inn hn vs ys q.2 l]
end
mutual
theorem yh.out{D:Ph}:∀(v:PV) (x:V),nL v=AC->yh K cl (λa=>B a \/ AA a∈A) D H v x->yh K cl B A H v x
 |.non,x,_,h=>by erw[yh]at h ⊢;exact h
 |.bl b,x,_,h=>by erw[yh]at h ⊢;exact h
 |.int i,x,_,h=>by erw[yh]at h ⊢;exact h
 |.str y,x,_,h=>by erw[yh]at h ⊢;exact h
 |.tp k vs,x,q,h=>by
  erw[yh]at h ⊢;let#[a,xs,e,r,l]:=h;refine#[a,xs,e,?_,yp.out vs xs (by simpa only[nL] using q) l];rcases r with⟨r,b,n⟩|r
  .exact .inl #[r,λz=>b (.inl z),λz=>b (.inr z)]
  .exact .inr r
 |.lst vs,x,q,h=>by erw[yh]at h ⊢;let#[a,xs,e,#[r,b,n],l]:=h;exact#[a,xs,e,#[r,λz=>b (.inl z),λz=>b (.inr z)],yp.out vs xs (by simpa only[nL] using q) l]
 |.loc n,x,q,h=>by simp[nL]at q
 |.exn c,x,q,h=>by simp[nL]at q
 |.scr vs,x,q,h=>by
  erw[yh]at h ⊢;let#[a,xs,e,r,l]:=h;refine#[a,xs,e,?_,yp.out vs xs (by simpa only[nL] using q) l];rcases r with⟨r,b,n⟩|r
  .exact .inl #[r,λz=>b (.inl z),λz=>b (.inr z)]
  .exact .inr r
theorem yp.out{D:Ph}:∀(v:List PV) (x:List V),nLs v=AC->yp K cl (λa=>B a \/ AA a∈A) D H v x->yp K cl B A H v x
 |[],x,_,h=>by erw[yp]at h ⊢;exact h
 |v::vs,x,q,h=>by erw[yp]at h ⊢;erw[nLs,AK]at q;let#[y,ys,e,r,l]:=h;exact#[y,ys,e,yh.out v y q.1 r,yp.out vs ys q.2 l]
end
theorem yp.length:∀{v:List PV} {x:List V},yp K cl B A H v x->v.length=x.length
 |[],x,h=>by erw[yp]at h;subst h;rfl
 |v::vs,x,h=>by erw[yp]at h;let#[y,ys,rfl,_,l]:=h;simp[yp.length l]
theorem DK.step(s:Step A H A' H'):∀{kvs:List (PV×PV)} {ks:List (Key×V)},DK K cl B A H kvs ks->DK K cl B A' H' kvs ks
 |[],ks,h=>h
 |(k,v)::r,ks,h=>by let#[q,x,t,e,m,rv,l]:=h;exact#[q,x,t,e,m,rv.step s,DK.step s l]
theorem DT.step(s:Step A H A' H'):∀{kvs:List (PV×PV)} {ks:List (List Key×V)},DT K cl B A H kvs ks->DT K cl B A' H' kvs ks
 |[],ks,h=>h
 |(k,v)::r,ks,h=>by let#[q,x,t,e,m,rv,l]:=h;exact#[q,x,t,e,m,rv.step s,DT.step s l]
theorem FS.step(s:Step A H A' H'):∀{kvs:List (AQ×PV)} {ks:List (AQ×V)},FS K cl B A H kvs ks->FS K cl B A' H' kvs ks
 |[],ks,h=>h
 |(k,v)::r,ks,h=>by let#[x,t,e,rv,l]:=h;exact#[x,t,e,rv.step s,FS.step s l]
theorem ycw.step(s:Step A H A' H'){o:Ob}{a:AI}(e:H' a=H a)(r:ycw K cl B A H o a):ycw K cl B A' H' o a:=by
 cases o with
 |lst vs=>
  let#[xs,q,l]:=r;exact#[xs,e.trans q,l.step s]
 |dct t kvs=>
  cases t with
  |false=>let#[ks,q,l]:=r;exact#[ks,e.trans q,l.step s]
  |true=>let#[ks,q,l]:=r;exact#[ks,e.trans q,l.step s]
 |dead=>exact r
 |ins c fs=>let#[ks,#[dx,q],l]:=r;exact#[ks,#[dx,e.trans q],l.step s]
theorem ycw.there{o:Ob}{a:AI}(r:ycw K cl B A H o a):∃u,H a=AA u:=by
 cases o with
 |lst vs=>let#[xs,q,l]:=r;exact#[_,q]
 |dct t kvs=>cases t<;>(let#[ks,q,l]:=r;exact#[_,q])
 |dead=>exact r.elim
 |ins c fs=>let#[ks,#[dx,q],l]:=r;exact#[_,q]
theorem yH.there(S:yH K cl B A H st){a:AI}(h:AA a∈A):∃u,H a=AA u:=by let#[n,e]:=D9.mp h;let#[o,_,r]:=S.obj n a e;exact r.there
theorem Step.upd{p:AI}{o:HO}(hp:H p=AD):Step A H A (upd H p o):=
 #[λb u n e=>by rw[zm (zq e hp)];exact e,AT _,λ_ _ _ e=>e,λ_ h=>.inl h]
theorem yH.same(S:yH K cl B A H st)(k:∀b o,H b=AA o->H' b=AA o):yH K cl B A H' st:=by
 have s:Step A H A H':=#[λb o _ e=>k b o e,AT _,λ_ _ _ e=>e,λ_ h=>.inl h];refine#[S.len,S.inj,λn a e=>?_,S.liv,S.nb,λa h=>?_]
 .let#[o,q,r]:=S.obj n a e;let#[u,z]:=r.there;exact#[o,q,r.step s ((k a u z).trans z.symm)]
 .let#[o,q]:=S.dom a h;exact#[o,k a o q]
theorem yH.upd{p:AI}{o:HO}(S:yH K cl B A H st)(hp:H p=AD):yH K cl B A (upd H p o) st:=S.same λb u e=>by rw[zm (zq e hp)];exact e
mutual
theorem yh.moreB{B':AI->Prop}(hn:∀y,B' y->B y \/ H y=AD):∀(v:PV) (x:V),yh K cl B A H v x->yh K cl B' A H v x
 |.non,x,h=>by erw[yh]at h ⊢;exact h
 |.bl b,x,h=>by erw[yh]at h ⊢;exact h
 |.int i,x,h=>by erw[yh]at h ⊢;exact h
 |.str y,x,h=>by erw[yh]at h ⊢;exact h
 |.tp k vs,x,h=>by
  erw[yh]at h ⊢;let#[y,xs,e,r,l]:=h;refine#[y,xs,e,?_,yp.moreB hn vs xs l];rcases r with⟨r,b,n⟩|r
  .exact .inl #[r,λz=>(hn y z).elim b λq=>(by rw[q]at r;cases r),n]
  .exact .inr r
 |.lst vs,x,h=>by erw[yh]at h ⊢;let#[y,xs,e,#[r,b,n],l]:=h;exact#[y,xs,e,#[r,λz=>(hn y z).elim b λq=>(by rw[q]at r;cases r),n],yp.moreB hn vs xs l]
 |.loc n,x,h=>by erw[yh]at h ⊢;exact h
 |.exn c,x,h=>by erw[yh]at h ⊢;let#[y,e,r,b,n]:=h;exact#[y,e,r,λz=>(hn y z).elim b λq=>(by rw[q]at r;cases r),n]
 |.scr vs,x,h=>by
  erw[yh]at h ⊢;let#[y,xs,e,r,l]:=h;refine#[y,xs,e,?_,yp.moreB hn vs xs l];rcases r with⟨r,b,n⟩|r
  .refine .inl #[r,λz=>(hn y z).elim b λq=>?_,n];rcases r with r|⟨o,r⟩<;>(rw[q]at r;cases r)
  .exact .inr r
theorem yp.moreB{B':AI->Prop}(hn:∀y,B' y->B y \/ H y=AD):∀(v:List PV) (x:List V),yp K cl B A H v x->yp K cl B' A H v x
 |[],x,h=>by erw[yp]at h ⊢;exact h
 |v::vs,x,h=>by erw[yp]at h ⊢;let#[y,ys,e,r,l]:=h;exact#[y,ys,e,yh.moreB hn v y r,yp.moreB hn vs ys l]
end
end
end L2
namespace L2
open PySem PySem.Spec PyProof.Rows
def CXH(X:Cx)(H:Hp)(s:AJ)(E:XK)(e:AG)(s':AJ):Prop:=
 ∃(C a:AI) (cls a0 fl:AG) (H':Hp) (B:BR),X.s₀.heap.objs.size<=C/\e=.ref a/\s'.os=s.os/\De s'.gens /\
  (B.StaysIn s'.heap/\B.get? a=AD/\s'.heap.FunFrames B X.stack/\s'.heap.TracedAtW B a cls a0 fl)/\HOk X.prog X.w H' s'.heap/\Un (frs X.stack) [C] H H' s.heap s'.heap /\
  (∀b o,s.heap.get? b=AA o->H b=AD->b∉frs X.stack->b≠C->B.get? b=AA o)/\(∀b u,H' b=AA u->∃o,B.get? b=AA o)/\(∀b o,s.heap.get? b=AA o->b∉frs X.stack->b≠C->∃o',B.get? b=AA o')/\E cls AD H'
theorem CXH.mono{X:Cx}{H:Hp}{s:AJ}{E E':XK}{e:AG}{s':AJ}(h:CXH X H s E e s')(n:∀cls H',E cls AD H'->E' cls AD H'):CXH X H s E' e s':=by let#[C,a,cls,a0,fl,H',B,r1,r2,r3,r4,r5,r6,r7,r8,r9,r10,r11]:=h;exact#[C,a,cls,a0,fl,H',B,r1,r2,r3,r4,r5,r6,r7,r8,r9,r10,n _ _ r11]
section
variable {M:Model}{A:BK}{E:AG->AJ->Prop}{s:AJ}
def zgk{base:BR}{env:Env}{outer:List Env}{L e:AI}{cls a0 fl:AG}{Q:Unit->AJ->Prop}
  (hfr:A.frames=AA (env::outer)) (hf:env.frame=AA L) (f1:base.StaysIn s.heap) (f2:base.get? e=AD) (f3:s.heap.FunFrames base (env::outer)) (f4:s.heap.TracedAtW base e cls a0 fl)
  (hQ:∀h',HY base outer e cls a0 h'->s.heap.UpToSlots h'->Q Unit.unit {s with heap:=h'}):A8 M A («leaving» env (.ref e)) Q E s:=by
 by_cases hfl:fl=rawInt L
 .subst hfl;unfold «leaving»;refine AH (wpAny_noteFrame_againW hf f4 ?_);refine wpAny_landsW #[f1,f2,f3,f4] λh' hfl up=>?_;let#[k1,k2,#[_,_,k3],k4]:=hfl;exact hQ h' #[k1,k2,k3,k4] up
 .let#[oe,vs,T,oT,ts,he,#[hcls,h0],hd,h1,hnT,hTe,hT,hdT,h3]:=f4;subst hcls;unfold «leaving» noteFrame;erw[hf];refine AH (AH (Bc he hd h1 ?_));rw[if_pos (show (Ar T != CZ)=AC from by simp)];refine AH (Bc hT hdT h3 ?_);rw[if_neg (show ¬((fl==rawInt L)=AC)from λz=>hfl (eq_of_beq z))];refine AH (FQ hT hdT (ES.mp h3).1 ?_);have other:∀b,b≠T->(s.heap.update T (Obj.mapFields (·.setIfInBounds 3 CZ))).get? b=s.heap.get? b:=λb hb=>DS _ _ (B0 hb);have noRecord:∀b o,s.heap.get? b=AA o->(∀vs,o.data ≠ .fields vs)->b≠T:=λb o hb hnf q=>by rw[q,hT]at hb;injection hb with hb;subst hb;exact hnf ts hdT
  refine wpAny_newEntryW hfr (f3.of_keeps λb o hb hnf=>#[o,(other b (noRecord b o hb hnf)).trans hb,rfl]) hf ((other e (B0 hTe)).trans he)
   (λb o hbo=>(other b λq=>by rw[q,hnT]at hbo;cases hbo).trans (f1 b o hbo)) f2 hd (ES.mp h1).1 h0
   λh' #[x1,#[_,_,x2],x3,x4]=>hQ h' #[x1,f2,x2,x3] λb o hb hnf=>x4 b o ((other b (noRecord b o hb hnf)).trans hb) hnf
end
section
variable {P:Af}{w:Au}{K:AE}{mg:AQ->Option AG}{base:BR}{N:List AQ}{qual:AQ}{scope:Bq}{f:AI}{cd:AG}{A:BK}{outer:List Env}{s₀:AJ}{H₀:Hp}{E:XK}
def zrC{F:List (AI×CP)}{D:St}{H:Hp}{s:AJ}{e:AG}{s':AJ}(I:Inv (ya8 (CX1 P w) P w K mg base N qual scope f cd A outer s₀ H₀ E) F D H s)(h:CXH (ya8 (CX1 P w) P w K mg base N qual scope f cd A outer s₀ H₀ E) H s E e s'):
  (ya8 (CX1 P w) P w K mg base N qual scope f cd A outer s₀ H₀ E).xe e s':=by
 let#[C,a,cls,a0,fl,H',B,hC,rfl,os,bare,#[f1,f2,f3,f4],hok,un,hB,tr,hT,hE]:=h;have bse:Un (frs outer) [] H₀ H s₀.heap s.heap:=I.base;have lt:∀b o,s₀.heap.get? b=AA o->b≠s₀.heap.objs.size:=λb o q=>BG (A2 q);have neC:∀b o,s₀.heap.get? b=AA o->b≠C:=λb o q=>BG (A9 (A2 q) hC);have niC:∀b o,s₀.heap.get? b=AA o->b∉[C]:=λb o q z=>neC b o q (by simpa using z);have hst:∀b,b∈frs (envOfC qual scope s₀.heap.objs.size f cd::outer)->b=s₀.heap.objs.size \/ b∈frs outer:=λb hb=>by have hb':b∈s₀.heap.objs.size::frs outer:=hb;exact AN.mp hb'
 have un':Un (frs (envOfC qual scope s₀.heap.objs.size f cd::outer)) [C] H H' s.heap s'.heap:=un;have kB:∀b o,s₀.heap.get? b=AA o->H₀ b=AD->b∉frs outer->B.get? b=AA o:=λb o q n hb=>hB b o (bse.keep b o q n hb (by simp)) (bse.free b o q n (by simp)) (λz=>by
  rcases hst b z with z|z
  .exact lt b o q z
  .exact hb z) (neC b o q)
 have kT:∀b o,s₀.heap.get? b=AA o->b∉frs outer->∃o',B.get? b=AA o':=λb o q hb=>by
  let#[o',q1]:=bse.there b o q (by simp);refine hT b o' q1 (λz=>?_) (neC b o q);rcases hst b z with z|z
  .exact lt b o q z
  .exact hb z
 refine zgk I.ok.frames rfl f1 f2 f3 f4 λh'' fl' up=>?_;refine#[a,cls,a0,H',B,rfl,os.trans I.os,bare,fl',HOk.inB hok f1 fl'.1 tr,#[λb o q n hb _=>fl'.1 b o (kB b o q n hb),λb o q n hb _=>?_,λb o q n _=>?_,λb o q _=>?_,λb xs q=>un'.tups b xs (bse.tups b xs q),λb o u q=>un'.frzs b o u (bse.frzs b o u q),λb ps q=>?_],kB,tr,kT,hE]
 .let#[sl,q1]:=bse.slot b o q n hb (by simp);have n1:=bse.free b o q n (by simp);let#[sl1,q2]:=un'.slot b _ q1 n1 (AS _ hb) (niC b o q);let#[_,o',ho',hd]:=C3 f3 (show b∈DU (λ(z:Env)=>z.frame) _ from AS _ hb);let#[sl',q3]:=up b _ q2 (by rw[ho']at q2;cases q2;exact hd);exact#[sl',q3]
 .let#[o',q1]:=bse.there b o q (by simp);exact un'.free b o' q1 (bse.free b o q n (by simp)) (niC b o q)
 .let#[o',q1]:=bse.there b o q (by simp);let#[o2,q2]:=un'.there b o' q1 (niC b o q)
  by_cases hb:b∈frs outer
  .let#[_,o3,ho3,hd]:=C3 f3 (show b∈DU (λ(z:Env)=>z.frame) _ from AS _ hb);let#[sl',q3]:=up b _ ho3 hd;exact#[_,q3]
  .let#[o4,q4]:=kT b o q hb;exact#[o4,fl'.1 b o4 q4]
 .let#[m1,e1]:=bse.tbls b ps q;let#[m2,e2]:=un'.tbls b _ e1;exact#[m1++m2,by rw[e2,EH]]
end
section
variable {pg:Af}{wd:Au}{A:BK}{R:Gx->AJ->Prop}{s:AJ}
end
section
variable {X:Cx}{sc:Bq}{NC:List AQ}{slots:List (Option Nat)}{elt tg iter:AV}{ifs:List AV}{pos:C6}{g:TG}{ti:TT}{te:CI->TE}{E:XK}
end
end L2
namespace L2
open PySem PySem.Spec PyProof.Rows IC
structure Se where
 cl:Nat->AI
 call:Nat->List PV->SO->R PV
 may:Bool
section
variable (S:Se)(X:Cx)
def ExcAt(C:St)(B:AI->Prop)(A:Ph)(H:Hp)(k:Nat)(st':SO)(e:AG)(s':AJ):Prop:=
 (∃D H1 s A1,Inv X D C H1 s/\Step A H A1 H1/\CX1 X.prog X.w X.stack H1 s (λcls _ H'=>cls=.ref (S.cl k)/\∃A',Step A1 H1 A' H'/\yH X.K S.cl B A' H' st') e s') \/
 (S.may=AC/\∃D H1 s A1 h' e0 vs,Inv X D C H1 s/\Step A H A1 H1/\yH X.K S.cl B A1 H1 st'/\HC s.heap h' e0 (.ref (S.cl k)) vs/\e=.ref e0/\s'={s with heap:=h'}) \/
 (S.may=AC/\∃D H1 s,Inv X D C H1 s/\CXH X H1 s (λcls _ H'=>cls=.ref (S.cl k)/\∃A',Step A H A' H'/\yH X.K S.cl B A' H' st') e s')
def Run{E F:Type}(C:St)(B:AI->Prop)(A:Ph)(H:Hp)(Rel:Ph->Hp->E->F->Prop)(r:R E)(Q:F->Hp->Prop):Prop:=
 match r with
 |.ok v st'=>∀x H' A',Step A H A' H'->yH X.K S.cl B A' H' st'->Rel A' H' v x->Q x H'
 |.exc k st'=>∀e s',ExcAt S X C B A H k st' e s'->X.xe e s'
 |.bad=>False
abbrev RV(B:AI->Prop):Ph->Hp->PV->V->Prop:=λA H=>yh X.K S.cl B A H
abbrev RL(B:AI->Prop):Ph->Hp->List PV->List V->Prop:=λA H=>yp X.K S.cl B A H
abbrev RB:Ph->Hp->Bool->Bool->Prop:=λ_ _ b c=>b=c
def tE(c:Ce):TE:=λC H Q=>∃B A st U,yH X.K S.cl B A H st/\yZ X.K S.cl B A H U C/\Run S X C B A H (RV S X B) (ev S.call U st c) Q
def tAs(c:Ces):TA:=λC H Q=>∃B A st U,yH X.K S.cl B A H st/\yZ X.K S.cl B A H U C/\Run S X C B A H (RL S X B) (evs S.call U st c) Q
def ybf(r:R PV):R Bool:=r.bind λx st=>onO (yaY st x) λb=>.ok b st
def tTs(c:Ce):TT:=λC H Q=>∃B A st U,yH X.K S.cl B A H st/\yZ X.K S.cl B A H U C/\Run S X C B A H RB (ybf (ev S.call U st c)) Q
end
section
variable {S:Se}{X:Cx}{C:St}{B:AI->Prop}{A A1:Ph}{H H1:Hp}
theorem ExcAt.back{k:Nat}{st':SO}{e:AG}{s':AJ}(s:Step A H A1 H1)(h:ExcAt S X C B A1 H1 k st' e s'):ExcAt S X C B A H k st' e s':=by
 rcases h with⟨D,H2,t,A2,I,q,c⟩|⟨m,D,H2,t,A2,h',e0,vs,I,q,c⟩|⟨m,D,H2,t,I,c⟩
 .exact .inl #[D,H2,t,A2,I,s.trans q,c]
 .exact .inr (.inl #[m,D,H2,t,A2,h',e0,vs,I,s.trans q,c])
 .exact .inr (.inr #[m,D,H2,t,I,c.mono λcls H' #[e1,A',s2,r]=>#[e1,A',s.trans s2,r]])
variable {E F J G:Type}{Rel:Ph->Hp->E->F->Prop}{HZ:Ph->Hp->J->G->Prop}
theorem Run.on{r:R E}{Q:F->Hp->Prop}(s:Step A H A1 H1)(h:Run S X C B A H Rel r Q):Run S X C B A1 H1 Rel r Q:=by
 cases r with
 |ok v st'=>exact λx H' A' t=>h x H' A' (s.trans t)
 |exc k st'=>exact λe s' x=>h e s' (x.back s)
 |bad=>exact h
theorem Run.mono{r:R E}{Q Q':F->Hp->Prop}(h:Run S X C B A H Rel r Q)(k:∀x H',Q x H'->Q' x H'):Run S X C B A H Rel r Q':=by
 cases r with
 |ok v st'=>exact λx H' A' t rs rv=>k x H' (h x H' A' t rs rv)
 |exc c st'=>exact h
 |bad=>exact h
theorem Run.bind{r:R E}{k:E->SO->R J}{Q:G->Hp->Prop}(h:Run S X C B A H HZ (r.bind k) Q):
  Run S X C B A H Rel r λx H1=>∃v st1 A1,Step A H A1 H1/\yH X.K S.cl B A1 H1 st1/\Rel A1 H1 v x/\Run S X C B A1 H1 HZ (k v st1) Q:=by
 cases r with
 |ok v st'=>exact λx H' A' t rs rv=>#[v,st',A',t,rs,rv,Run.on t h]
 |exc c st'=>exact h
 |bad=>exact h
theorem Run.ok{v:E}{st:SO}{Q:F->Hp->Prop}(h:Run S X C B A H Rel (.ok v st) Q)(rs:yH X.K S.cl B A H st){x:F}(rv:Rel A H v x):Q x H:=h x H A .rfl rs rv
theorem PE.imp{e:AV}{t t':TE}(h:PE X e t')(k:∀C H Q,t C H Q->t' C H Q):PE X e t:=λD s C H Q I q=>h D s C H Q I (k C H Q q)
theorem PT.imp{e:AV}{t t':TT}(h:PT X e t')(k:∀C H Q,t C H Q->t' C H Q):PT X e t:=λD s C H Q I q=>h D s C H Q I (k C H Q q)
theorem PW.imp{e:AV}{t t':TT}(h:PW X e t')(k:∀C H Q,t C H Q->t' C H Q):PW X e t:=λwh D s C H Q I q=>h wh D s C H Q I (k C H Q q)
theorem PA.imp{e:List AV}{t t':TA}(h:PA X e t')(k:∀C H Q,t C H Q->t' C H Q):PA X e t:=λpos D s C H Q I q=>h pos D s C H Q I (k C H Q q)
theorem tE.bind{c:Ce}{U:IC.Env}{st:SO}{k:PV->SO->R J}{Q:G->Hp->Prop}{P:V->Hp->Prop}(rs:yH X.K S.cl B A H st)(re:yZ X.K S.cl B A H U C)(h:Run S X C B A H HZ ((ev S.call U st c).bind k) Q)
  (n:∀x H1 v st1 A1,Step A H A1 H1->yH X.K S.cl B A1 H1 st1->yZ X.K S.cl B A1 H1 U C->yh X.K S.cl B A1 H1 v x->Run S X C B A1 H1 HZ (k v st1) Q->P x H1):tE S X c C H P:=
 #[B,A,st,U,rs,re,(Run.bind h).mono λx H1 #[v,st1,A1,s,rs1,rv,h1]=>n x H1 v st1 A1 s rs1 (re.step s) rv h1]
theorem tAs.bind{c:Ces}{U:IC.Env}{st:SO}{k:List PV->SO->R J}{Q:G->Hp->Prop}{P:List V->Hp->Prop}(rs:yH X.K S.cl B A H st)(re:yZ X.K S.cl B A H U C)(h:Run S X C B A H HZ ((evs S.call U st c).bind k) Q)
  (n:∀x H1 v st1 A1,Step A H A1 H1->yH X.K S.cl B A1 H1 st1->yZ X.K S.cl B A1 H1 U C->yp X.K S.cl B A1 H1 v x->Run S X C B A1 H1 HZ (k v st1) Q->P x H1):tAs S X c C H P:=
 #[B,A,st,U,rs,re,(Run.bind h).mono λx H1 #[v,st1,A1,s,rs1,rv,h1]=>n x H1 v st1 A1 s rs1 (re.step s) rv h1]
variable {i:Int}{b:Bool}{x:AQ}{j:Nat}{pos:C6}{e a a':AV}{c ca cb cc:Ce}
def zpL:PE X (.Constant (.int i) j pos) (tE S X (.cst (.int i))):=zrp.imp λC H Q #[B,A,st,U,rs,re,h]=>by erw[ev]at h;exact h.ok rs (by erw[yh])
def zqd:PE X (.Constant (.bool b) j pos) (tE S X (.cst (.bl b))):=zrq.imp λC H Q #[B,A,st,U,rs,re,h]=>by erw[ev]at h;exact h.ok rs (by erw[yh])
def zpV:PE X (.Constant .none j pos) (tE S X (.cst .non)):=zrr.imp λC H Q #[B,A,st,U,rs,re,h]=>by erw[ev]at h;exact h.ok rs (by erw[yh])
def zpo:PE X (.Constant (.str x) j pos) (tE S X (.cst (.str x))):=zrs.imp λC H Q #[B,A,st,U,rs,re,h]=>by erw[ev]at h;exact h.ok rs (by erw[yh])
def zoV{i:Nat}(hN:X.N[i]?=AA x)(hv:Vis X.env.scope x)(hd:(x==("__debug__":AQ))=false:=by decide)(hcd:(x==("__classdict__":AQ))=false:=by decide):PE X (.Name x pos) (tE S X (.var i)):=
 (zlP hN hv hd hcd).imp λC H Q #[B,A,st,U,rs,re,h]=>by
  erw[ev]at h
  cases q:U[i]? with
  |none=>rw[q]at h;exact h.elim
  |some o=>
   cases o with
   |none=>rw[q]at h;exact h.elim
   |some v=>
    rw[q]at h;let#[y,hy,rv]:=re.get i v q;exact#[y,hy,h.ok rs rv]
def zns{v:PV}{y:AI}(hg:Gl X x)(hm:X.mg x=AA (.ref y))(hk:∀B A H,yh X.K S.cl B A H v (.ref y))(hd:(x==("__debug__":AQ))=false:=by decide):PE X (.Name x pos) (tE S X (.cst v)):=
 (zdk hg hm (show RelV (.ref y) (.ref y)from rfl) hd).imp λC H Q #[B,A,st,U,rs,re,h]=>by erw[ev]at h;exact h.ok rs (hk B A H)
def zaJ{o:Option PV}{st:SO}{Q:VK}(h:Run S X C B A H (RV S X B) (toR o st) Q)(rs:yH X.K S.cl B A H st):∃z,o=AA z/\∀z' H' A',Step A H A' H'->yH X.K S.cl B A' H' st->yh X.K S.cl B A' H' z z'->Q z' H':=by
 cases o with
 |none=>exact h.elim
 |some z=>exact#[z,rfl,h]
def rT2(S:Se)(X:Cx)(f:PV->PV->Option PV):R2:=λx y H Q=>∃B A st v w z,yH X.K S.cl B A H st/\yh X.K S.cl B A H v x/\yh X.K S.cl B A H w y/\f v w=AA z /\
 ∀z' H' A',Step A H A' H'->yH X.K S.cl B A' H' st->yh X.K S.cl B A' H' z z'->Q z' H'
def zpS{op:Dp}{o:BOp}(ho:OpR X (binaryOp op) (rT2 S X (yI o)))(ha:PE X a (tE S X ca))(hb:PE X a' (tE S X cb)):PE X (.BinOp a op a' pos) (tE S X (.bin o ca cb)):=
 (zqH ho ha hb).imp λC H Q #[B,A,st,U,rs,re,h]=>by erw[ev]at h;refine tE.bind rs re h λx H1 v st1 A1 s1 rs1 re1 rv h1=>tE.bind rs1 re1 h1 λy H2 w st2 A2 s2 rs2 re2 rw h2=>?_;let#[z,e,q]:=zaJ h2 rs2;exact#[B,A2,st2,v,w,z,rs2,rv.step s2,rw,e,q]
def zo2{op:Fa}{o:COp}(ho:OpR X (compareOp op) (rT2 S X (yP o)))(ha:PE X a (tE S X ca))(hb:PE X a' (tE S X cb))(hm:behindInMarks op a'=AB):PE X (.Compare a [op] [a'] pos) (tE S X (.cmp o ca cb)):=
 (zim ho ha hb hm).imp λC H Q #[B,A,st,U,rs,re,h]=>by erw[ev]at h;refine tE.bind rs re h λx H1 v st1 A1 s1 rs1 re1 rv h1=>tE.bind rs1 re1 h1 λy H2 w st2 A2 s2 rs2 re2 rw h2=>?_;let#[z,e,q]:=zaJ h2 rs2;exact#[B,A2,st2,v,w,z,rs2,rv.step s2,rw,e,q]
end
section
variable {S:Se}{X:Cx}{A:St}{B:AI->Prop}{D D1:Ph}{H H1:Hp}{K:AE}{cl:Nat->AI}{st:SO}
theorem ybV.sq{k:Bool}{a:AI}{xs:List V}(r:ybV K B D H k a xs):SqT K H a xs:=by
 rcases r with⟨r,_⟩|r
 .exact .inl (.inl r)
 .exact .inr r.2
theorem ycV.sq{a:AI}{xs:List V}(r:ycV B D H a xs):SqL K H a xs:=.inl (.inl r.1)
theorem yh.tup_new{vs:List PV}{xs:List V}{p:AI}(hp:H p=AD)(rs:yH K cl B D H st)(r:yp K cl B D H vs xs):yh K cl B D (upd H p (.tup xs)) (.tup vs) (.ref p):=by
 erw[yh];refine#[p,xs,rfl,.inl #[zu,λz=>?_,λz=>?_],r.step (.upd hp)]
 .let#[o,e]:=rs.dom p z;rw[hp]at e;cases e
 .let#[o,e]:=rs.there z;rw[hp]at e;cases e
theorem yh.lst_new{vs:List PV}{xs:List V}{p:AI}(hp:H p=AD)(rs:yH K cl B D H st)(r:yp K cl B D H vs xs):yh K cl B D (upd H p (.lst xs)) (.lst vs) (.ref p):=by
 erw[yh];refine#[p,xs,rfl,#[zu,λz=>?_,λz=>?_],r.step (.upd hp)]
 .let#[o,e]:=rs.dom p z;rw[hp]at e;cases e
 .let#[o,e]:=rs.there z;rw[hp]at e;cases e
theorem yp.append:∀{vs ws:List PV} {xs ys:List V},yp K cl B D H vs xs->yp K cl B D H ws ys->yp K cl B D H (vs++ws) (xs++ys)
 |[],ws,xs,ys,h,q=>by erw[yp]at h;subst h;exact q
 |v::vs,ws,xs,ys,h,q=>by erw[yp]at h;let#[y,zs,rfl,r,l]:=h;show yp K cl B D H (v::(vs++ws)) (y::(zs++ys));erw[yp];exact#[y,zs++ys,rfl,r,yp.append l q]
theorem yp.get:∀{vs:List PV} {xs:List V} (j:Nat) {v:PV},yp K cl B D H vs xs->vs[j]?=AA v->∃x,xs[j]?=AA x/\yh K cl B D H v x
 |[],xs,j,v,h,e=>by simp at e
 |w::vs,xs,0,v,h,e=>by erw[yp]at h;let#[y,zs,rfl,r,l]:=h;simp at e;subst e;exact#[y,rfl,r]
 |w::vs,xs,j+1,v,h,e=>by erw[yp]at h;let#[y,zs,rfl,r,l]:=h;let#[x,q1,q2]:=yp.get j l (by simpa using e);exact#[x,by simpa using q1,q2]
theorem yp.drop:∀{vs:List PV} {xs:List V} (n:Nat),yp K cl B D H vs xs->yp K cl B D H (vs.drop n) (xs.drop n)
 |vs,xs,0,h=>by simpa using h
 |[],xs,n+1,h=>by erw[yp]at h;subst h;simp[yp]
 |v::vs,xs,n+1,h=>by erw[yp]at h;let#[y,ys,rfl,_,l]:=h;simpa using yp.drop n l
theorem yp.take:∀{vs:List PV} {xs:List V} (n:Nat),yp K cl B D H vs xs->yp K cl B D H (vs.take n) (xs.take n)
 |vs,xs,0,h=>by simp[yp]
 |[],xs,n+1,h=>by erw[yp]at h;subst h;simp[yp]
 |v::vs,xs,n+1,h=>by erw[yp]at h;let#[y,ys,rfl,r,l]:=h;erw[List.take_succ_cons,yp];exact#[y,ys.take n,rfl,r,yp.take n l]
def zcN{f:AG->AG->HQ AG}{o:BOp}{C:Int->Int->Prop}{g:Int->Int->Int}(h:OpR X f (rI C λi j=>.int (g i j)))
  (hb:∀v w z,yI o v w=AA z->∃i j,v=.int i/\w=.int j/\C i j/\z=.int (g i j)):OpR X f (rT2 S X (yI o)):=by
 rintro E s A H x y v u Q I rx ry ⟨B,D,st,a,b,z,rs,ra,rb,e,q⟩
 let#[i,j,rfl,rfl,hc,rfl]:=hb a b z e;erw[yh]at ra rb;subst ra rb;exact h E s A H _ _ v u Q I rx ry #[i,j,rfl,rfl,hc,q _ H D .rfl rs (by erw[yh])]
def zdd{f:AG->AG->HQ AG}{o:BOp}{g:Int->Int->Int}(h:OpR X f (rI0 λi j=>.int (g i j)))
  (hb:∀v w z,yI o v w=AA z->∃i j,v=.int i/\w=.int j/\z=.int (g i j)):OpR X f (rT2 S X (yI o)):=by
 rintro E s A H x y v u Q I rx ry ⟨B,D,st,a,b,z,rs,ra,rb,e,q⟩
 let#[i,j,rfl,rfl,rfl]:=hb a b z e;erw[yh]at ra rb;subst ra rb;exact h E s A H _ _ v u Q I rx ry #[i,j,rfl,rfl,q _ H D .rfl rs (by erw[yh])]
def zmy(v w z:PV)(h:yI .sub v w=AA z):∃i j,v=.int i/\w=.int j/\z=.int (i-j):=by
 unfold yI at h;split at h<;>first|(cases h;done)|skip
 exact#[_,_,rfl,rfl,(A1 h).symm]
def zna(v w z:PV)(h:yI .mul v w=AA z):∃i j,v=.int i/\w=.int j/\ydI i j/\z=.int (i*j):=by
 unfold yI at h;split at h<;>first|(cases h;done)|skip
 rename_i i j;erw[IC.binI]at h;split at h
 .rename_i c;refine#[i,j,rfl,rfl,?_,(A1 h).symm];erw[yaQ,DG,decide_eq_true_eq]at c;unfold ydI;rcases c with c|c
  .left;constructor<;>lia
  .right;constructor<;>lia
 .cases h
def zkz(v w z:PV)(h:yI .fdiv v w=AA z):∃i j,v=.int i/\w=.int j/\ydC i j/\z=.int (i/j):=by
 unfold yI at h;split at h<;>first|(cases h;done)|skip
 rename_i i j;erw[IC.binI]at h;split at h
 .rename_i c;exact#[i,j,rfl,rfl,c,(A1 h).symm]
 .cases h
def znr(v w z:PV)(h:yI .mod v w=AA z):∃i j,v=.int i/\w=.int j/\0<j/\z=.int (i%j):=by
 unfold yI at h;split at h<;>first|(cases h;done)|skip
 rename_i i j;erw[IC.binI]at h;split at h
 .rename_i c;exact#[i,j,rfl,rfl,c,(A1 h).symm]
 .cases h
def znm(v w z:PV)(h:yI .pow v w=AA z):∃i j,v=.int i/\w=.int j/\yd5 i j/\z=.int (i^j.toNat):=by
 unfold yI at h;split at h<;>first|(cases h;done)|skip
 rename_i i j;erw[IC.binI]at h;split at h
 .rename_i c;exact#[i,j,rfl,rfl,#[c.1,c.2.1,by have:=c.2.2;lia],(A1 h).symm]
 .cases h
def zmI(v w z:PV)(h:yI .shl v w=AA z):∃i j,v=.int i/\w=.int j/\yd5 i j/\z=.int (i*2^j.toNat):=by
 unfold yI at h;split at h<;>first|(cases h;done)|skip
 rename_i i j;erw[IC.binI]at h;split at h
 .rename_i c;exact#[i,j,rfl,rfl,#[c.1,c.2.1,by have:=c.2.2;lia],(A1 h).symm]
 .cases h
def znA(v w z:PV)(h:yI .shr v w=AA z):∃i j,v=.int i/\w=.int j/\0<=j/\z=.int (i/2^j.toNat):=by
 unfold yI at h;split at h<;>first|(cases h;done)|skip
 rename_i i j;erw[IC.binI]at h;split at h
 .rename_i c;exact#[i,j,rfl,rfl,c,(A1 h).symm]
 .cases h
def zj4(v w z:PV)(h:yI .band v w=AA z):∃i j,v=.int i/\w=.int j/\z=.int (BC i j):=by
 unfold yI at h;split at h<;>first|(cases h;done)|skip
 exact#[_,_,rfl,rfl,(A1 h).symm]
def zmj(v w z:PV)(h:yI .bor v w=AA z):∃i j,v=.int i/\w=.int j/\z=.int (BB i j):=by
 unfold yI at h;split at h<;>first|(cases h;done)|skip
 exact#[_,_,rfl,rfl,(A1 h).symm]
def zku(v w z:PV)(h:yI .bxor v w=AA z):∃i j,v=.int i/\w=.int j/\z=.int (BO i j):=by
 unfold yI at h;split at h<;>first|(cases h;done)|skip
 exact#[_,_,rfl,rfl,(A1 h).symm]
def zpW:OpR X (binaryOp .Sub) (rT2 S X (yI .sub)):=zdd zn7 zmy
def zo0:OpR X (binaryOp .Mult) (rT2 S X (yI .mul)):=zcN zpB zna
def zmR:OpR X (binaryOp .FloorDiv) (rT2 S X (yI .fdiv)):=zcN zk2 zkz
def znZ:OpR X (binaryOp .Mod) (rT2 S X (yI .mod)):=zcN zpy znr
def zn8:OpR X (binaryOp .Pow) (rT2 S X (yI .pow)):=zcN znV znm
def zn5:OpR X (binaryOp .LShift) (rT2 S X (yI .shl)):=zcN zpz zmI
def zoY:OpR X (binaryOp .RShift) (rT2 S X (yI .shr)):=zcN zoW znA
def zmh:OpR X (binaryOp .BitAnd) (rT2 S X (yI .band)):=zdd zoq zj4
def zoP:OpR X (binaryOp .BitOr) (rT2 S X (yI .bor)):=zdd zp7 zmj
def znu:OpR X (binaryOp .BitXor) (rT2 S X (yI .bxor)):=zdd zpR zku
def zJ:sizeMax=sizeLine:=by rw[Dq];rfl
def zmU:OpR X (binaryOp .Add) (λx y H Q=>∃a b ys,x=.ref a/\y=.ref b/\SqT X.K H a []/\SqT X.K H b ys/\Q (.ref b) H):=by
 intro E s A H x y v u Q I rx ry h;let#[a,b,ys,rfl,rfl,ha,hb,q]:=h
 cases rx
 cases ry
 let#[its,r1,p1,_]:=I.tuple ha;let#[its2,r2,p2,_]:=I.tuple hb;have:its=[]:=r1.nil_iff.mpr rfl;subst this;let#[#[cls,dd,data,sl],ho,hc,n,hd]:=id p1;let#[#[cls2,dd2,data2,sl2],ho2,hc2,n2,hd2]:=id p2;simp only at hc hd hc2 hd2;subst hc hd hc2 hd2;exact GB #[_,ho,rfl] #[_,ho2,rfl] Em Fb DR DO (DE _ _)
   (tuple_addW0 a b [].toArray its2.toArray n n2 dd dd2 sl sl2 (by simp)) #[ho,ho2,#[.ref b,H,I,rfl,q]]
def zoJ:OpR X (binaryOp .Add) (rT2 S X (yI .add)):=by
 rintro E s A H x y v u Q I rx ry ⟨B,D,st,a,b,z,rs,ra,rb,e,q⟩
 unfold yI at e;split at e
 .rename_i i j;erw[yh]at ra rb;subst ra rb
  cases e
  exact zoa E s A H _ _ v u Q I rx ry #[i,j,rfl,rfl,q _ H D .rfl rs (by erw[yh])]
 .rename_i i k;erw[yh]at ra rb;subst ra rb
  cases e
  exact zi6 E s A H _ _ v u Q I rx ry #[i,k,rfl,rfl,q _ H D .rfl rs (by erw[yh];cases k<;>rfl)]
 .rename_i i j;erw[yh]at ra rb;subst ra rb;dsimp only at e;split at e
  .rename_i c
   cases e
   exact zhv E s A H _ _ v u Q I rx ry #[i,j,rfl,rfl,by rw[<-zJ];exact c,q _ H D .rfl rs (by erw[yh])]
  .cases e
 .rename_i k1 vs k2 ws;erw[yh]at ra rb;let#[p,xs,rfl,r1,l1]:=ra;let#[p',ys,rfl,r2,l2]:=rb;dsimp only at e;split at e
  .rename_i c
   cases e
   have n1:=l1.length;have n2:=l2.length;unfold yfo at q
   cases vs with
   |nil=>
    have:xs=[]:=by cases xs with|nil=>rfl|cons _ _=>simp at n1
    subst this;refine zmU E s A H _ _ v u Q I rx ry #[p,p',ys,rfl,rfl,r1.sq,r2.sq,q _ H D .rfl rs ?_];erw[G2,if_true,yh];exact#[p',ys,rfl,r2,l2]
   |cons v1 vr=>
    erw[GO,B8,if_false]at q;refine zl3 E s A H _ _ v u Q I rx ry #[p,p',xs,ys,rfl,rfl,r1.sq,r2.sq,?_,by rw[<-zJ];lia,λz=>?_,λz t ht=>?_]
    .rintro rfl
     simp at n1
    .subst z;have:ws=[]:=by cases ws with|nil=>rfl|cons _ _=>simp at n2
     subst this;erw[G2,if_true]at q;refine q _ H D .rfl rs ?_;erw[yh];exact#[p,xs,rfl,r1,l1]
    .cases ws with
     |nil=>exact absurd (List.length_eq_zero_iff.mp n2.symm) z
     |cons w1 wr=>
      erw[GO,B8,if_false]at q;exact q _ _ D (.upd ht) (rs.upd ht) (.tup_new ht rs (l1.append l2))
  .cases e
 .rename_i vs ws;erw[yh]at ra rb;let#[p,xs,rfl,r1,l1]:=ra;let#[p',ys,rfl,r2,l2]:=rb;dsimp only at e;split at e
  .rename_i c
   cases e
   have n1:=l1.length;have n2:=l2.length;exact zpN E s A H _ _ v u Q I rx ry #[p,p',xs,ys,rfl,rfl,r1.1,r2.1,by rw[<-zJ];lia,λt ht=>q _ _ D (.upd ht) (rs.upd ht) (.lst_new ht rs (l1.append l2))]
  .cases e
 .cases e
end
mutual
noncomputable def toD:PV->PyData
 |.non=>.none
 |.bl b=>.bool b
 |.int i=>.int i
 |.str x=>.str x
 |.tp _ xs=>.tuple (yce xs)
 |.lst xs=>.list (yce xs)
 |_=>.none
noncomputable def yce:List PV->List PyData
 |[]=>[]
 |x::xs=>toD x::yce xs
end
mutual
theorem zjc:∀(v:PV) (n:Nat),shd n v=AC->(toD v).canLay0=AC/\(toD v).depth<=n
 |.non,n,h=>by simp[toD,Ct,DX]
 |.bl b,n,h=>by simp[toD,Ct,DX]
 |.int i,n,h=>by simp[toD,Ct,DX]
 |.str x,n,h=>by erw[shd]at h;erw[toD,Ct,DX,DN,and_true];exact h
 |.tp _ xs,n,h=>by erw[shd,AK,decide_eq_true_eq]at h;let#[q1,q2]:=zeQ xs (n-1) h.2;erw[toD,Ct,DX];exact#[q1,by lia]
 |.lst xs,n,h=>by erw[shd,AK,decide_eq_true_eq]at h;let#[q1,q2]:=zeQ xs (n-1) h.2;erw[toD,Ct,DX];exact#[q1,by lia]
 |.loc k,n,h=>by simp[shd]at h
 |.exn k,n,h=>by simp[shd]at h
 |.scr xs,n,h=>by simp[shd]at h
theorem zeQ:∀(v:List PV) (n:Nat),ybt n v=AC->E7 (yce v)=AC/\FH (yce v)<=n
 |[],n,h=>by simp[yce,E7,FH]
 |v::vs,n,h=>by erw[ybt,AK]at h;let#[q1,q2]:=zjc v n h.1;let#[q3,q4]:=zeQ vs n h.2;erw[yce,E7,FH,AK];exact#[#[q1,q3],by lia]
end
def zbC{v:PV}(h:shp v=AC):Ha (toD v)=true:=by let#[q1,q2]:=zjc v 60 h;unfold Ha;rw[q1,Di,decide_eq_true_eq];lia
mutual
theorem zf8:∀(v w:PV) (n m:Nat),shd n v=AC->shd m w=AC->Hs (toD v) (toD w)=peq v w
 |.non,w,n,m,h,q=>by cases w<;>first|rfl|exact absurd q Aa
 |.bl b,w,n,m,h,q=>by cases w<;>first|rfl|exact absurd q Aa
 |.int i,w,n,m,h,q=>by cases w<;>first|rfl|exact absurd q Aa
 |.str x,w,n,m,h,q=>by cases w<;>first|rfl|exact absurd q Aa
 |.tp _ xs,.tp _ ys,n,m,h,q=>by have h:=CF.1 h;have q:=CF.1 q;exact zeH xs ys (n-1) (m-1) h.2 q.2
 |.lst xs,.lst ys,n,m,h,q=>by have h:=CF.1 h;have q:=CF.1 q;exact zeH xs ys (n-1) (m-1) h.2 q.2
 |.tp _ xs,.non,n,m,h,q=>rfl
 |.tp _ xs,.bl _,n,m,h,q=>rfl
 |.tp _ xs,.int _,n,m,h,q=>rfl
 |.tp _ xs,.str _,n,m,h,q=>rfl
 |.tp _ xs,.lst _,n,m,h,q=>rfl
 |.lst xs,.non,n,m,h,q=>rfl
 |.lst xs,.bl _,n,m,h,q=>rfl
 |.lst xs,.int _,n,m,h,q=>rfl
 |.lst xs,.str _,n,m,h,q=>rfl
 |.lst xs,.tp _ _,n,m,h,q=>rfl
 |.loc k,w,n,m,h,q=>absurd h Aa
 |.exn k,w,n,m,h,q=>absurd h Aa
 |.scr k,w,n,m,h,q=>absurd h Aa
 |v,.loc k,n,m,h,q=>absurd q Aa
 |v,.exn k,n,m,h,q=>absurd q Aa
 |v,.scr k,n,m,h,q=>absurd q Aa
theorem zeH:∀(v w:List PV) (n m:Nat),ybt n v=AC->ybt m w=AC->HL (yce v) (yce w)=ybX v w
 |[],[],n,m,h,q=>rfl
 |[],y::ys,n,m,h,q=>rfl
 |x::xs,[],n,m,h,q=>rfl
 |x::xs,y::ys,n,m,h,q=>by have h:=CF.1 h;have q:=CF.1 q;show (Hs (toD x) (toD y)&&HL (yce xs) (yce ys))=(peq x y&&ybX xs ys);rw[zf8 x y n m h.1 q.1,zeH xs ys n m h.2 q.2]
end
section
variable {S:Se}{X:Cx}{D:St}{B:AI->Prop}{C C1:Ph}{H H1:Hp}{st:SO}{E:List (AI×CP)}{s:AJ}
mutual
theorem zb1(I:Inv X E D H s):∀(v:PV) (n:Nat) (x:V) (u:AG),shd n v=AC->yh X.K S.cl B C H v x->RelV x u->∃as,Reads s.heap u (toD v) as
 |.non,n,x,u,h,r,q=>by erw[yh]at r;subst r;cases (show u=CZ from q);exact#[_,.none]
 |.bl b,n,x,u,h,r,q=>by erw[yh]at r;subst r;cases (show u=EF b from q);exact#[_,.bool b]
 |.int i,n,x,u,h,r,q=>by erw[yh]at r;subst r;let#[t,rfl]:=q;exact#[_,.int i t]
 |.str y,n,x,u,h,r,q=>by erw[yh]at r;subst r;let#[t,rfl]:=q;exact#[_,.str y t]
 |.tp _ vs,n,x,u,h,r,q=>by
  erw[yh]at r;let#[a,xs,rfl,rt,l]:=r
  cases (show u=Ar a from q)
  erw[shd,AK]at h;let#[its,rv,#[o,g,c,k,d],_]:=I.tuple rt.sq;let#[as,z]:=zdA I vs (n-1) xs its h.2 l rv;exact#[as,.tuple g c d (by simpa using z)]
 |.lst vs,n,x,u,h,r,q=>by
  erw[yh]at r;let#[a,xs,rfl,rt,l]:=r
  cases (show u=Ar a from q)
  erw[shd,AK]at h;let#[its,rv,#[o,k,g,c,_,d],_]:=I.list (rt.sq (K:=X.K));let#[as,z]:=zdA I vs (n-1) xs its h.2 l rv;exact#[_,.list g c d (by simpa using z)]
 |.loc k,n,x,u,h,r,q=>by simp[shd]at h
 |.exn k,n,x,u,h,r,q=>by simp[shd]at h
 |.scr k,n,x,u,h,r,q=>by simp[shd]at h
theorem zdA(I:Inv X E D H s):∀(v:List PV) (n:Nat) (x:List V) (u:List AG),ybt n v=AC->yp X.K S.cl B C H v x->Vals x u->∃as,ReadsAll s.heap u (yce v) as
 |[],n,x,u,h,r,q=>by erw[yp]at r;subst r;cases q;exact#[_,.nil]
 |v::vs,n,x,u,h,r,q=>by
  erw[yp]at r;let#[y,ys,rfl,rv,l]:=r;erw[ybt,AK]at h
  cases q with
  |cons q1 q2=>
   let#[as,z1]:=zb1 I v n y _ h.1 rv q1;let#[bs,z2]:=zdA I vs n ys _ h.2 l q2;exact#[_,.cons z1 z2]
end
def zqW(hu:X.A.units+64<cLine):OpR X (compareOp .Eq) (rT2 S X (yP .eq)):=by
 rintro E s D H x y v u Q I rx ry ⟨B,C,st,a,b,z,rs,ra,rb,e,q⟩
 erw[yP]at e;split at e
 .rename_i c;rw[AK]at c
  cases e
  let#[as,z1]:=zb1 (S:=S) I a 60 x v c.1 ra rx;let#[bs,z2]:=zb1 (S:=S) I b 60 y u c.2 rb ry;refine eq_dataH z1 z2 (zbC c.1) (zbC c.2) hu #[.bl _,H,I,rfl,?_];rw[zf8 a b 60 60 c.1 c.2];exact q _ H C .rfl rs (by erw[yh])
 .cases e
def zqU(hu:X.A.units+64<cLine):OpR X (compareOp .NotEq) (rT2 S X (yP .ne)):=by
 rintro E s D H x y v u Q I rx ry ⟨B,C,st,a,b,z,rs,ra,rb,e,q⟩
 erw[yP]at e;split at e
 .rename_i c;rw[AK]at c
  cases e
  let#[as,z1]:=zb1 (S:=S) I a 60 x v c.1 ra rx;let#[bs,z2]:=zb1 (S:=S) I b 60 y u c.2 rb ry;refine ne_dataH z1 z2 (zbC c.1) (zbC c.2) hu #[.bl _,H,I,rfl,?_];rw[zf8 a b 60 60 c.1 c.2];exact q _ H C .rfl rs (by erw[yh])
 .cases e
def zh9{f:AG->AG->HQ AG}{o:COp}{g:Int->Int->Bool}(h:OpR X f (rI0 λi j=>.bl (g i j)))
  (hb:∀v w z,yP o v w=AA z->∃i j,v=.int i/\w=.int j/\z=.bl (g i j)):OpR X f (rT2 S X (yP o)):=by
 rintro E s D H x y v u Q I rx ry ⟨B,C,st,a,b,z,rs,ra,rb,e,q⟩
 let#[i,j,rfl,rfl,rfl]:=hb a b z e;erw[yh]at ra rb;subst ra rb;exact h E s D H _ _ v u Q I rx ry #[i,j,rfl,rfl,q _ H C .rfl rs (by erw[yh])]
def zi8:OpR X (compareOp .LtE) (λx y H Q=>∃i j,x=.str i/\y=.str j/\Q (.bl (!decide (j.cps.toList<i.cps.toList))) H):=by intro E s D H x y v u Q I rx ry h;let#[i,j,rfl,rfl,q]:=h;let#[t,rfl]:=rx;let#[t',rfl]:=ry;exact PySem.P.le_str (zi0 I q rfl)
def zqo:OpR X (compareOp .Lt) (rT2 S X (yP .lt)):=by
 rintro E s D H x y v u Q I rx ry ⟨B,C,st,a,b,z,rs,ra,rb,e,q⟩
 erw[yP]at e;split at e
 .rename_i i j;erw[yh]at ra rb;subst ra rb
  cases e
  exact zqJ E s D H _ _ v u Q I rx ry #[i,j,rfl,rfl,q _ H C .rfl rs (by erw[yh])]
 .rename_i i j;erw[yh]at ra rb;subst ra rb
  cases e
  exact zjN E s D H _ _ v u Q I rx ry #[i,j,rfl,rfl,q _ H C .rfl rs (by erw[yh])]
 .cases e
def zqh:OpR X (compareOp .LtE) (rT2 S X (yP .le)):=by
 rintro E s D H x y v u Q I rx ry ⟨B,C,st,a,b,z,rs,ra,rb,e,q⟩
 erw[yP]at e;split at e
 .rename_i i j;erw[yh]at ra rb;subst ra rb
  cases e
  exact zql E s D H _ _ v u Q I rx ry #[i,j,rfl,rfl,q _ H C .rfl rs (by erw[yh])]
 .rename_i i j;erw[yh]at ra rb;subst ra rb
  cases e
  exact zi8 E s D H _ _ v u Q I rx ry #[i,j,rfl,rfl,q _ H C .rfl rs (by erw[yh])]
 .cases e
def zgS{o:COp}{g:Int->Int->Bool}(ho:∀v w,yP o v w=match v,w with
   |.int i,.int j=>yb9 o i j
   |.str a,.str b=>yeY o a b
   |_,_=>AD) (hs:∀a b,yeY o a b=AD) (hg:∀i j,yb9 o i j=AA (.bl (g i j))) (v w z:PV) (h:yP o v w=AA z):∃i j,v=.int i/\w=.int j/\z=.bl (g i j):=by
 rw[ho]at h;split at h
 .rename_i i j;rw[hg]at h;exact#[i,j,rfl,rfl,(A1 h).symm]
 .rw[hs]at h;cases h
 .cases h
def zqk:OpR X (compareOp .Gt) (rT2 S X (yP .gt)):=zh9 zqA (zgS (λ_ _=>rfl) (λ_ _=>rfl) λ_ _=>rfl)
def zqI:OpR X (compareOp .GtE) (rT2 S X (yP .ge)):=zh9 zp9 (zgS (λ_ _=>rfl) (λ_ _=>rfl) λ_ _=>rfl)
theorem yh.flat{K:AE}{cl:Nat->AI}{v:PV}{x:V}(r:yh K cl B C H v x)(h:IC.flat v=AC):ybe x=AC/\∀(w:PV) (y:V),IC.flat w=AC->yh K cl B C H w y->eqV x y=peq v w:=by
 cases v with
 |non=>
  erw[yh]at r;subst r;refine#[rfl,λw y hw rw=>?_]
  cases w<;>first|(simp[IC.flat]at hw;done)|(erw[yh]at rw;subst rw;rfl)
 |bl b=>
  erw[yh]at r;subst r;refine#[rfl,λw y hw rw=>?_]
  cases w<;>first|(simp[IC.flat]at hw;done)|(erw[yh]at rw;subst rw;rfl)
 |int b=>
  erw[yh]at r;subst r;refine#[rfl,λw y hw rw=>?_]
  cases w<;>first|(simp[IC.flat]at hw;done)|(erw[yh]at rw;subst rw;rfl)
 |str b=>
  erw[yh]at r;subst r;refine#[rfl,λw y hw rw=>?_]
  cases w<;>first|(simp[IC.flat]at hw;done)|(erw[yh]at rw;subst rw;rfl)
 |_=>simp[IC.flat]at h
def zge{K:AE}{cl:Nat->AI}{v:PV}{x:V}(r:yh K cl B C H v x)(h:IC.flat v=AC):∀{vs:List PV} {xs:List V},yp K cl B C H vs xs->vs.all IC.flat=AC->xs.all ybe=AC/\inV x xs=inL v vs
 |[],xs,l,_=>by erw[yp]at l;subst l;exact#[rfl,rfl]
 |w::vs,xs,l,f=>by erw[yp]at l;let#[y,ys,rfl,rw,l]:=l;rw[Bl,AK]at f;let#[q1,q2]:=zge r h l f.2;let#[q3,q4]:=rw.flat f.1;refine#[by rw[Bl,q3,q1];rfl,?_];unfold inV at q2 ⊢;rw[Br,q2,q4 v x h r];rfl
end
def zl1(a b:AQ):(!(Ej b a 0 b.length 1).isEmpty)=inS a b:=by
 rw[DH,StrLaws.found_iff];unfold inS;rw[Eo];constructor
 .rintro⟨i,h1,h2⟩
  exact#[i,by rw[Gv];lia,by rw[AK,decide_eq_true_eq];exact#[h1,h2]]
 .rintro⟨i,_,h⟩
  rw[AK,decide_eq_true_eq]at h;exact#[i,h.1,h.2]
section
variable {S:Se}{X:Cx}{C:St}{B:AI->Prop}{A A1:Ph}{H H1:Hp}{st:SO}
def zqx:OpR X (compareOp .In) (rT2 S X (yP .isin)):=by
 rintro D s C H x y v u Q I rx ry ⟨B,A,st,a,b,z,rs,ra,rb,e,q⟩
 erw[yP]at e;split at e
 .rename_i i j;erw[yh]at ra rb;subst ra rb
  cases e
  exact zjh D s C H _ _ v u Q I rx ry #[i,j,rfl,rfl,by rw[zl1];exact q _ H A .rfl rs (by erw[yh])]
 .rename_i l;split at e
  .rename_i c;rw[AK]at c
   cases e
   erw[yh]at rb;let#[p,xs,rfl,r,l']:=rb;let#[q1,q2]:=zge ra c.1 l' c.2;exact zfi D s C H _ _ v u Q I rx ry #[p,xs,rfl,.inr r.sq,(ra.flat c.1).1,q1,q _ H A .rfl rs (by erw[yh];rw[<-q2];rfl)]
  .cases e
 .rename_i l;split at e
  .rename_i c;rw[AK]at c
   cases e
   erw[yh]at rb;let#[p,xs,rfl,r,l']:=rb;let#[q1,q2]:=zge ra c.1 l' c.2;exact zfi D s C H _ _ v u Q I rx ry #[p,xs,rfl,.inl r.sq,(ra.flat c.1).1,q1,q _ H A .rfl rs (by erw[yh];rw[<-q2];rfl)]
  .cases e
 .cases e
theorem yp.empty{K:AE}{cl:Nat->AI}{vs:List PV}{xs:List V}(l:yp K cl B A H vs xs):vs.isEmpty=xs.isEmpty:=by
 have:=l.length
 cases vs<;>cases xs<;>simp_all
def zmB{K:AE}{cl:Nat->AI}{v:PV}{x:V}{k:Bool}(rs:yH K cl B A H st)(r:yh K cl B A H v x)(h:yaY st v=AA k):yew K x H k:=by
 cases v with
 |non=>erw[yh]at r;subst r;cases h;rfl
 |bl b=>erw[yh]at r;subst r;cases h;rfl
 |int b=>erw[yh]at r;subst r;cases h;rfl
 |str b=>
  erw[yh]at r;subst r;erw[yaY]at h;split at h
  .rename_i c
   cases h
   exact#[by rw[<-zJ];exact c,rfl]
  .cases h
 |tp k vs=>
  erw[yh]at r;let#[a,xs,rfl,rt,l]:=r
  cases h
  exact .inr (.inl #[xs,rt.sq,by rw[l.empty]])
 |lst vs=>
  erw[yh]at r;let#[a,xs,rfl,rt,l]:=r
  cases h
  exact .inl #[xs,rt.sq,by rw[l.empty]]
 |loc n=>
  erw[yh]at r;let#[hn,a,rfl,ha]:=r;erw[yaY]at h;split at h
  .rename_i vs hv
   cases h
   let#[b,hb]:=rs.liv n _ hv (by intro z;cases z);obtain rfl:=ha b hb;let#[o,ho,ro]:=rs.obj n b hb;rw[hv]at ho;cases ho;let#[xs,hx,l]:=ro;exact .inl #[xs,.of hx,by rw[l.empty]]
  .cases h
 |exn c=>cases h
 |scr c=>cases h
end
theorem R.bind_assoc{A B J:Type}{r:R A}{k:A->SO->R B}{l:B->SO->R J}:(r.bind k).bind l=r.bind λa s=>(k a s).bind l:=by cases r<;>rfl
section
variable {S:Se}{X:Cx}{C:St}{B:AI->Prop}{A A1:Ph}{H H1:Hp}{st:SO}{U:IC.Env}{pos:C6}{a b c d:AV}{ca cb cc:Ce}{es:List AV}{ces:Ces}
def zeX{o:COp}{v w z:PV}(h:yP o v w=AA z):∃k,z=.bl k:=by
 cases o<;>erw[yP]at h
 all_goals (repeat' split at h)<;>first|(cases h;done)|(cases h;exact#[_,rfl])|skip
 all_goals (erw[yb9]at h;cases h;exact#[_,rfl])
def zpt{op:Fa}{o:COp}(ho:OpR X (compareOp op) (rT2 S X (yP o)))(ha:PE X a (tE S X ca))(hb:PE X b (tE S X cb))(hm:behindInMarks op b=AB):PT X (.Compare a [op] [b] pos) (tTs S X (.cmp o ca cb)):=
 (zmK ho ha hb hm).imp λC H Q #[B,A,st,U,rs,re,h]=>by
  erw[ev,ybf,R.bind_assoc]at h;refine tE.bind rs re h λx H1 v st1 A1 s1 rs1 re1 rv h1=>tE.bind rs1 re1 h1 λy H2 w st2 A2 s2 rs2 re2 rw h2=>?_
  cases e:yP o v w with
  |none=>rw[e]at h2;exact h2.elim
  |some z=>
   let#[k,rfl]:=zeX e;rw[e]at h2;refine#[B,A2,st2,v,w,.bl k,rs2,rv.step s2,rw,e,λz' H' A' s' rs' rz=>?_];erw[yh]at rz;exact#[k,rz,h2 k H' A' s' rs' rfl]
def zo7(ha:PE X a (tE S X ca))(he:∀whole,isTrue a X.env whole=(do let v <-whole;standAt a.pos;holding [v] (truthy v)):=by intro _;rfl):PT X a (tTs S X ca):=
 (zky ha he).imp λC H Q #[B,A,st,U,rs,re,h]=>by
  erw[ybf]at h;refine tE.bind rs re h λx H1 v st1 A1 s1 rs1 re1 rv h1=>?_
  cases e:yaY st1 v with
  |none=>rw[e]at h1;exact h1.elim
  |some k=>
   rw[e]at h1;exact#[k,zmB rs1 rv e,h1.ok rs1 rfl]
theorem tTs.bind{J D:Type}{HZ:Ph->Hp->J->D->Prop}{k:Bool->SO->R J}{Q:D->Hp->Prop}{P:Bool->Hp->Prop}(rs:yH X.K S.cl B A H st)(re:yZ X.K S.cl B A H U C)(h:Run S X C B A H HZ ((ybf (ev S.call U st ca)).bind k) Q)
  (n:∀b H1 st1 A1,Step A H A1 H1->yH X.K S.cl B A1 H1 st1->yZ X.K S.cl B A1 H1 U C->Run S X C B A1 H1 HZ (k b st1) Q->P b H1):tTs S X ca C H P:=
 #[B,A,st,U,rs,re,(Run.bind h).mono λx H1 #[v,st1,A1,s,rs1,rv,h1]=>by subst rv;exact n v H1 st1 A1 s rs1 (re.step s) h1]
def zgi(r:R PV)(f:Bool->SO->R PV):ybf (r.bind λx st1=>onBl x λb=>f b st1)=r.bind λx st1=>onBl x λb=>ybf (f b st1):=by
 unfold ybf;rw[R.bind_assoc]
 congr 1
 funext x st1
 cases x<;>rfl
theorem Run.bl_tru{r:R PV}{k:Bool->SO->R Bool}{Q:Bool->Hp->Prop}(h:Run S X C B A H RB (r.bind λx st1=>onBl x λb=>k b st1) Q):Run S X C B A H RB ((ybf r).bind k) Q:=by
 cases r with
 |bad=>exact h
 |exc c s=>exact h
 |ok v s=>
  cases v with
  |bl b=>exact h
  |_=>exact h.elim
def zpD(ha:PT X a (tTs S X ca)):PT X (.UnaryOp .Not a pos) (tTs S X (.not ca)):=
 (zpX ha).imp λC H Q #[B,A,st,U,rs,re,h]=>by erw[ev]at h;rw[zgi _ λk st1=>.ok (.bl (!k)) st1]at h;exact tTs.bind rs re (Run.bl_tru (k:=λb st1=>.ok (!b) st1) h) λb H1 st1 A1 s1 rs1 re1 h1=>h1.ok rs1 rfl
variable {rest:List AV}
def zm7(ha:PT X a (tTs S X ca)):PW X (.BoolOp .And [a] pos) (tTs S X ca):=zmZ ha
def zo9(ha:PT X a (tTs S X ca)):PW X (.BoolOp .Or [a] pos) (tTs S X ca):=zow ha
def zoF(ha:PT X a (tTs S X ca))(hb:PW X (.BoolOp .And (b::rest) pos) (tTs S X cb)):PW X (.BoolOp .And (a::b::rest) pos) (tTs S X (.and ca cb)):=
 (zor ha hb).imp λC H Q #[B,A,st,U,rs,re,h]=>by
  erw[ev]at h;rw[zgi _ λk st1=>cond k (ev S.call U st1 cb) (.ok (.bl AB) st1)]at h;refine tTs.bind rs re (Run.bl_tru h) λk H1 st1 A1 s1 rs1 re1 h1=>?_
  cases k with
  |false=>exact h1.ok rs1 rfl
  |true=>exact#[B,A1,st1,U,rs1,re1,h1]
def zqT(ha:PT X a (tTs S X ca))(hb:PW X (.BoolOp .Or (b::rest) pos) (tTs S X cb)):PW X (.BoolOp .Or (a::b::rest) pos) (tTs S X (.or ca cb)):=
 (zqL ha hb).imp λC H Q #[B,A,st,U,rs,re,h]=>by
  erw[ev]at h;rw[zgi _ λk st1=>cond k (.ok (.bl AC) st1) (ev S.call U st1 cb)]at h;refine tTs.bind rs re (Run.bl_tru h) λk H1 st1 A1 s1 rs1 re1 h1=>?_
  cases k with
  |true=>exact h1.ok rs1 rfl
  |false=>exact#[B,A1,st1,U,rs1,re1,h1]
def zlC{op:Hb}(h:PE X a (tE S X ca)):PE X (.BoolOp op [a] pos) (tE S X ca):=zod h
def zlq(ha:PE X a (tE S X ca))(hb:PE X (.BoolOp .And (b::rest) pos) (tE S X cb)):PE X (.BoolOp .And (a::b::rest) pos) (tE S X (.and ca cb)):=
 (zpx ha hb).imp λC H Q #[B,A,st,U,rs,re,h]=>by
  erw[ev]at h;refine tE.bind rs re h λx H1 v st1 A1 s1 rs1 re1 rv h1=>?_
  cases v with
  |bl k=>
   erw[yh]at rv;refine#[k,rv,?_]
   cases k with
   |true=>exact#[B,A1,st1,U,rs1,re1,h1]
   |false=>exact h1.ok rs1 (by erw[yh])
  |_=>exact h1.elim
def zoE(ha:PE X a (tE S X ca))(hb:PE X (.BoolOp .Or (b::rest) pos) (tE S X cb)):PE X (.BoolOp .Or (a::b::rest) pos) (tE S X (.or ca cb)):=
 (zqK ha hb).imp λC H Q #[B,A,st,U,rs,re,h]=>by
  erw[ev]at h;refine tE.bind rs re h λx H1 v st1 A1 s1 rs1 re1 rv h1=>?_
  cases v with
  |bl k=>
   erw[yh]at rv;refine#[k,rv,?_]
   cases k with
   |false=>exact#[B,A1,st1,U,rs1,re1,h1]
   |true=>exact h1.ok rs1 (by erw[yh])
  |_=>exact h1.elim
def znJ(ha:PE X a (tE S X ca)):PE X (.UnaryOp .Not a pos) (tE S X (.not ca)):=
 (znP ha).imp λC H Q #[B,A,st,U,rs,re,h]=>by
  erw[ev]at h;refine tE.bind rs re h λx H1 v st1 A1 s1 rs1 re1 rv h1=>?_
  cases v with
  |bl k=>
   erw[yh]at rv;exact#[k,rv,h1.ok rs1 (by erw[yh])]
  |_=>exact h1.elim
def zpp(ha:PE X a (tE S X ca)):PE X (.UnaryOp .USub a pos) (tE S X (.neg ca)):=
 (zqv zo8 ha).imp λC H Q #[B,A,st,U,rs,re,h]=>by
  erw[ev]at h;refine tE.bind rs re h λx H1 v st1 A1 s1 rs1 re1 rv h1=>?_;split at h1
  .simp only[yh]at rv;exact#[_,rv,h1.ok rs1 (by erw[yh])]
  .exact h1.elim
def zon(hc:PT X c (tTs S X cc))(ha:PE X a (tE S X ca))(hb:PE X b (tE S X cb)):PE X (.IfExp c a b pos) (tE S X (.ite cc ca cb)):=
 (zk5 hc ha hb).imp λC H Q #[B,A,st,U,rs,re,h]=>by
  erw[ev]at h;have e:((ev S.call U st cc).bind λx st1=>onO (yaY st1 x) λk=>cond k (ev S.call U st1 ca) (ev S.call U st1 cb))=(ybf (ev S.call U st cc)).bind λk st1=>cond k (ev S.call U st1 ca) (ev S.call U st1 cb):=by
   unfold ybf;rw[R.bind_assoc]
   congr 1
   funext x st1
   cases yaY st1 x<;>rfl
  rw[e]at h;refine tTs.bind rs re h λk H1 st1 A1 s1 rs1 re1 h1=>?_
  cases k with
  |true=>exact#[B,A1,st1,U,rs1,re1,h1]
  |false=>exact#[B,A1,st1,U,rs1,re1,h1]
def zh0:PA X [] (tAs S X .nil):=zq2.imp λC H Q #[B,A,st,U,rs,re,h]=>by erw[IC.vs0,IC.vs1]at h;exact h.ok rs (by erw[yp])
def zeZ(ha:PE X a (tE S X ca))(hr:PA X es (tAs S X ces))(hs:starEach (a::es) X.env=(AB,eval a X.env)::starEach es X.env:=by rfl):PA X (a::es) (tAs S X (.cons ca ces)):=
 (zbS ha hr hs).imp λC H Q #[B,A,st,U,rs,re,h]=>by erw[IC.vs0,IC.vs1]at h;refine tE.bind rs re h λx H1 v st1 A1 s1 rs1 re1 rv h1=>tAs.bind rs1 re1 h1 λxs H2 vs st2 A2 s2 rs2 re2 rvs h2=>?_;refine h2.ok rs2 ?_;erw[yp];exact#[x,xs,rfl,rv.step s2,rvs]
def zoo{k:Nat}(h:PA X es (tAs S X ces)):PE X (.Tuple es k pos) (tE S X (.tup ces)):=
 (znM h).imp λC H Q #[B,A,st,U,rs,re,h]=>by
  erw[ev]at h;refine tAs.bind rs re h λxs H1 vs st1 A1 s1 rs1 re1 rv h1=>?_;split at h1
  .rename_i c;refine#[by rw[<-zJ,<-rv.length];exact c,λp hp=>h1 _ _ A1 (.upd hp) (rs1.upd hp) (.tup_new hp rs1 rv)]
  .exact h1.elim
def zpr(h:PA X es (tAs S X ces)):PE X (.List es pos) (tE S X (.lst ces)):=
 (zly h).imp λC H Q #[B,A,st,U,rs,re,h]=>by
  erw[ev]at h;refine tAs.bind rs re h λxs H1 vs st1 A1 s1 rs1 re1 rv h1=>?_;split at h1
  .rename_i c;refine#[by rw[<-zJ,<-rv.length];exact c,λp hp=>h1 _ _ A1 (.upd hp) (rs1.upd hp) (.lst_new hp rs1 rv)]
  .exact h1.elim
theorem Step.push{p:AI}{o:HO}(hp:H p=AD):Step A H (A++[AA p]) (L2.upd H p o):=by
 refine#[λb u n e=>by rw[zm (zq e hp)];exact e,by simp,λn a hn e=>?_,λb h=>?_]
 .rw[An hn]at e;exact e
 .rw[BE]at h;rcases h with h|h
  .exact .inl h
  .have:b=p:=by simpa using h
   subst this;exact .inr hp
theorem yH.push{K:AE}{cl:Nat->AI}{p:AI}{u:HO}{o:Ob}(rs:yH K cl B A H st)(hp:H p=AD)(hb:¬B p)(ho:ycw K cl B (A++[AA p]) (L2.upd H p u) o p):yH K cl B (A++[AA p]) (L2.upd H p u) (st++[o]):=by
 have s:Step A H (A++[AA p]) (L2.upd H p u):=.push hp;have np:AA p∉A:=λz=>by let#[w,e]:=rs.there z;rw[hp]at e;cases e
 have hl:A.length=st.length:=rs.len;refine#[by simp[hl],λm n a e1 e2=>?_,λn a e=>?_,λn o' e ho'=>?_,λa h=>?_,λa h=>?_]
 .by_cases hm:m<A.length
  .rw[An hm]at e1
   by_cases hn:n<A.length
   .rw[An hn]at e2;exact rs.inj m n a e1 e2
   .rw[BD ()]at e2;have:a=p:=by
     cases q:n-A.length with
     |zero=>rw[q]at e2;simpa using e2.symm
     |succ k=>rw[q]at e2;simp at e2
    subst this;exact absurd (A6 e1) np
  .rw[BD ()]at e1;have:m-A.length=0/\a=p:=by
    cases q:m-A.length with
    |zero=>rw[q]at e1;exact#[rfl,by simpa using e1.symm]
    |succ k=>rw[q]at e1;simp at e1
   let#[q1,rfl]:=this
   by_cases hn:n<A.length
   .rw[An hn]at e2;exact absurd (A6 e2) np
   .rw[BD ()]at e2;have:n-A.length=0:=by
     cases q:n-A.length with
     |zero=>rfl
     |succ k=>rw[q]at e2;simp at e2
    lia
 .by_cases hn:n<A.length
  .rw[An hn]at e;let#[o',q,r]:=rs.obj n a e;refine#[o',by rw[An ()];exact q,r.step s ?_];rw[zm]
   rintro rfl
   exact np (A6 e)
  .rw[BD ()]at e;have:n-A.length=0/\a=p:=by
    cases q:n-A.length with
    |zero=>rw[q]at e;exact#[rfl,by simpa using e.symm]
    |succ k=>rw[q]at e;simp at e
   let#[q1,rfl]:=this;refine#[o,?_,ho];rw[BD ()];have:n-st.length=0:=by lia
   rw[this];rfl
 .by_cases hn:n<A.length
  .rw[An ()]at e;let#[a,q]:=rs.liv n o' e ho';exact#[a,by rw[An hn];exact q]
  .rw[BD ()]at e;have:n-st.length=0:=by
    cases q:n-st.length with
    |zero=>rfl
    |succ k=>rw[q]at e;simp at e
   refine#[p,?_];rw[BD ()];have:n-A.length=0:=by lia
   rw[this];rfl
 .rw[BE]at h;rcases h with h|h
  .exact rs.nb a h
  .have:a=p:=by simpa using h
   subst this;exact hb
 .let#[w,e]:=rs.dom a h;exact#[w,by rw[zm (zq e hp)];exact e]
theorem yH.nB{K:AE}{cl:Nat->AI}{p:AI}(rs:yH K cl B A H st)(hp:H p=AD):¬B p:=λz=>by let#[o,e]:=rs.dom p z;rw[hp]at e;cases e
theorem yh.loc_new{K:AE}{cl:Nat->AI}{p:AI}(rs:yH K cl B A H st):yh K cl B (A++[AA p]) H1 (.loc st.length) (.ref p):=by
 erw[yh];have hl:=rs.len;refine#[by simp[hl],p,rfl,λb e=>?_];rw[BD ()]at e;have:st.length-A.length=0:=by lia
 rw[this]at e;simpa using e.symm
def znk(h:PA X es (tAs S X ces)):PE X (.List es pos) (tE S X (.newl ces)):=
 (zly h).imp λC H Q #[B,A,st,U,rs,re,h]=>by
  erw[ev]at h;refine tAs.bind rs re h λxs H1 vs st1 A1 s1 rs1 re1 rv h1=>?_;split at h1
  .rename_i c;refine#[by rw[<-zJ,<-rv.length];exact c,λp hp=>h1 _ _ (A1++[AA p]) (.push hp) (rs1.push hp (rs1.nB hp) #[xs,zu,rv.step (.push hp)]) (.loc_new rs1)]
  .exact h1.elim
end
section
variable {S:Se}{X:Cx}{D:St}{B:AI->Prop}{C C1:Ph}{H H1:Hp}{st:SO}{U:IC.Env}{pos p2:C6}{a b c d:AV}{ca cb cc:Ce}{es:List AV}{ces:Ces}{K:AE}{cl:Nat->AI}
def zie{o:COp}{v w:PV}{J L:Type}{Rel:Ph->Hp->J->L->Prop}{k:Bool->R J}{Q:L->Hp->Prop}(h:Run S X D B C H Rel (onO (blO (yP o v w)) k) Q):∃b,yP o v w=AA (.bl b)/\Run S X D B C H Rel (k b) Q:=by
 cases e:yP o v w with
 |none=>rw[e]at h;exact h.elim
 |some z=>
  let#[b,rfl]:=zeX e;rw[e]at h;exact#[b,rfl,h]
def zke{op op':Fa}{o p:COp}(ho:OpR X (compareOp op) (rT2 S X (yP o)))(ho':OpR X (compareOp op') (rT2 S X (yP p)))(ha:PE X a (tE S X ca))(hb:PE X b (tE S X cb))(hc:PE X c (tE S X cc))
  (hm:lastMarks [op,op'] [b,c]=false:=by ac_rfl):PE X (.Compare a [op,op'] [b,c] pos) (tE S X (.chain o p ca cb cc)):=
 (zkm ho ho' ha hb hc hm).imp λD H Q #[B,C,st,U,rs,re,h]=>by
  erw[ev]at h;refine tE.bind rs re h λx H1 v st1 C1 s1 rs1 re1 rv h1=>tE.bind rs1 re1 h1 λy H2 w st2 C2 s2 rs2 re2 rw h2=>?_;let#[k,e,h2]:=zie h2;refine#[B,C2,st2,v,w,.bl k,rs2,rv.step s2,rw,e,λz' H' C' s' rs' rz=>?_];erw[yh]at rz;refine#[k,rz,?_]
  cases k with
  |false=>exact h2 _ H' C' s' rs' (by erw[yh])
  |true=>
   refine tE.bind rs' (re2.step s') (Run.on s' h2) λz H3 v3 st3 C3 s3 rs3 re3 rv3 h3=>?_;let#[q,eq,hq]:=zaJ h3 rs3;exact#[B,C3,st3,w,v3,q,rs3,(rw.step s').step s3,rv3,eq,hq]
def zkh{op op':Fa}{o p:COp}(ho:OpR X (compareOp op) (rT2 S X (yP o)))(ho':OpR X (compareOp op') (rT2 S X (yP p)))(ha:PE X a (tE S X ca))(hb:PE X b (tE S X cb))(hc:PE X c (tE S X cc))
  (hm:lastMarks [op,op'] [b,c]=false:=by ac_rfl):PT X (.Compare a [op,op'] [b,c] pos) (tTs S X (.chain o p ca cb cc)):=
 (zkO ho ho' ha hb hc hm).imp λD H Q #[B,C,st,U,rs,re,h]=>by
  erw[ev,ybf,R.bind_assoc]at h;refine tE.bind rs re h λx H1 v st1 C1 s1 rs1 re1 rv h1=>tE.bind rs1 re1 h1 λy H2 w st2 C2 s2 rs2 re2 rw h2=>?_;have h2':Run S X D B C2 H2 RB (onO (blO (yP o v w)) λk=>cond k ((ev S.call U st2 cc).bind λz st3=>(toR (yP p w z) st3).bind λx st=>onO (yaY st x) λb=>.ok b st) (.ok AB st2)) Q:=by
   cases e:yP o v w with
   |none=>rw[e]at h2;exact h2
   |some z=>
    let#[b,rfl]:=zeX e;rw[e]at h2
    cases b with
    |false=>exact h2
    |true=>
     erw[blO,onO,cond_true,R.bind_assoc]at h2 ⊢;exact h2
  let#[k,e,h2]:=zie h2';refine#[B,C2,st2,v,w,.bl k,rs2,rv.step s2,rw,e,λz' H' C' s' rs' rz=>?_];erw[yh]at rz;refine#[k,rz,?_]
  cases k with
  |false=>exact#[AB,rfl,h2 _ H' C' s' rs' rfl]
  |true=>
   refine tE.bind rs' (re2.step s') (Run.on s' h2) λz H3 v3 st3 C3 s3 rs3 re3 rv3 h3=>?_
   cases eq:yP p w v3 with
   |none=>rw[eq]at h3;exact h3.elim
   |some q=>
    let#[b,rfl]:=zeX eq;rw[eq]at h3;refine#[B,C3,st3,w,v3,.bl b,rs3,(rw.step s').step s3,rv3,eq,λz2 H4 C4 s4 rs4 rz4=>?_];erw[yh]at rz4;exact#[b,rz4,h3 b H4 C4 s4 rs4 rfl]
theorem yp.at{vs:List PV}{xs:List V}{i:Int}{v:PV}(l:yp K cl B C H vs xs)(h:at? vs i=AA v):∃x,atI xs i=AA x/\yh K cl B C H v x:=by
 unfold at? at h;rw[l.length]at h;unfold atI
 cases e:ixI xs.length i with
 |none=>rw[e]at h;cases h
 |some j=>
  rw[e]at h;have e':ixN xs.length i=AA j:=e;rw[e'];exact l.get j h
theorem yH.list{n:Nat}{vs:List PV}{x:V}(rs:yH K cl B C H st)(r:yh K cl B C H (.loc n) x)(h:st[n]?=AA (.lst vs)):∃a xs,x=.ref a/\C[n]?=AA (AA a)/\H a=AA (.lst xs)/\yp K cl B C H vs xs:=by erw[yh]at r;let#[hn,a,rfl,ha]:=r;let#[b,hb]:=rs.liv n _ h (by intro z;cases z);obtain rfl:=ha b hb;let#[o,ho,ro]:=rs.obj n b hb;rw[h]at ho;cases ho;let#[xs,hx,l]:=ro;exact#[b,xs,rfl,hb,hx,l]
def rTS(S:Se)(X:Cx)(f:SO->PV->PV->Option PV):R2:=λx y H Q=>∃B C st v w z,yH X.K S.cl B C H st/\yh X.K S.cl B C H v x/\yh X.K S.cl B C H w y/\f st v w=AA z /\
 ∀z' H' C',Step C H C' H'->yH X.K S.cl B C' H' st->yh X.K S.cl B C' H' z z'->Q z' H'
def zde{J:Type}{xs:List J}{i:PV}{z:J}(h:yba xs i=AA z):∃k,i=.int k/\at? xs k=AA z:=by
 cases i with
 |int k=>exact#[k,rfl,h]
 |_=>cases h
def znl:IxR X (rTS S X idxV):=by
 rintro value slice G s D H x y v u Q I rx ry ⟨B,C,st,a,i,z,rs,ra,ri,e,q⟩ hs
 cases a with
 |tp k vs=>
  let#[k,rfl,e]:=zde e;erw[yh]at ra ri;subst ri;let#[p,xs,rfl,rt,l]:=ra;let#[w,e1,rw]:=l.at e;exact zgX value slice G s D H _ _ v u Q I rx ry (.inr (.inl #[p,xs,k,w,rfl,rfl,rt.sq,e1,q w H C .rfl rs rw])) hs
 |lst vs=>
  let#[k,rfl,e]:=zde e;erw[yh]at ra ri;subst ri;let#[p,xs,rfl,rt,l]:=ra;let#[w,e1,rw]:=l.at e;exact zgX value slice G s D H _ _ v u Q I rx ry (.inl #[p,xs,k,w,rfl,rfl,rt.sq,e1,q w H C .rfl rs rw]) hs
 |loc n=>
  erw[idxV]at e;split at e
  .rename_i vs h1;let#[k,rfl,e]:=zde e;erw[yh]at ri;subst ri;let#[p,xs,rfl,_,hx,l]:=rs.list ra h1;let#[w,e1,rw]:=l.at e;exact zgX value slice G s D H _ _ v u Q I rx ry (.inl #[p,xs,k,w,rfl,rfl,.of hx,e1,q w H C .rfl rs rw]) hs
  .cases e
 |str t=>
  erw[idxV]at e;split at e
  .rename_i hl
   cases e1:yba t.cps.toList i with
   |none=>rw[e1]at e;cases e
   |some c=>
    rw[e1]at e
    cases e
    let#[k,rfl,e1]:=zde e1;erw[yh]at ra ri;subst ra ri;exact zgX value slice G s D H _ _ v u Q I rx ry (.inr (.inr #[t,k,c,rfl,rfl,by rw[<-zJ];exact hl,e1,q _ H C .rfl rs (by erw[yh])])) hs
  .cases e
 |_=>cases e
def zpE(ha:PE X a (tE S X ca))(hb:PE X b (tE S X cb))(hs:ybL b:=by exact λ_ _=>rfl):PE X (.Subscript a b pos) (tE S X (.idx ca cb)):=
 (zqr znl ha hb hs).imp λD H Q #[B,C,st,U,rs,re,h]=>by erw[ev]at h;refine tE.bind rs re h λx H1 v st1 C1 s1 rs1 re1 rv h1=>tE.bind rs1 re1 h1 λy H2 w st2 C2 s2 rs2 re2 rw h2=>?_;let#[z,e,q]:=zaJ h2 rs2;exact#[B,C2,st2,v,w,z,rs2,rv.step s2,rw,e,q]
theorem yp.cut{vs:List PV}{xs:List V}(lo hi:Option Int)(l:yp K cl B C H vs xs):yp K cl B C H (IC.cut vs lo hi) (ycH xs lo hi):=by
 have e1:∀n o,yc3 n o=HT.sIx n 0 o:=λn o=>by cases o<;>rfl
 have e2:∀n o,ydf n o=HT.sIx n n o:=λn o=>by cases o<;>rfl
 unfold IC.cut ycH;rw[l.length,e1,e2];exact(l.drop _).take _
def tO(S:Se)(X:Cx)(c:Ce):TO:=λD H Q=>tE S X c D H λx H1=>(x=.non/\Q AD H1) \/ ∃i,x=.int i/\Q (AA i) H1
def zmz:PO X AD (tO S X (.cst .non)):=λG s D H Q I h=>by
 refine zlR G s D H Q I ?_;let#[B,C,st,U,rs,re,h]:=h;erw[ev]at h;rcases h.ok rs (x:=V.non) (by erw[yh])with q|⟨i,z,_⟩
 .exact q.2
 .cases z
def zmO(ha:PE X a (tE S X ca)):PO X (AA a) (tO S X ca):=by
 intro G s D H Q I hw;rw[evalPart_some];refine thn (ha G s D H _ I hw) λu s1 kq=>?_;let#[x,H1,I1,r1,q1]:=kq;rcases q1 with⟨rfl,q⟩|⟨i,rfl,q⟩
 .cases r1
  exact#[AD,H1,I1,.none,q]
 .let#[t,rfl]:=r1;exact#[AA i,H1,I1,.int i t,q]
def rSl(S:Se)(X:Cx):V->Option Int->Option Int->Hp->VK->Prop:=λx lo hi H Q=>∃B C st v z,yH X.K S.cl B C H st/\yh X.K S.cl B C H v x/\ycM v lo hi=AA z /\
 ∀z' H' C',Step C H C' H'->yH X.K S.cl B C' H' st->yh X.K S.cl B C' H' z z'->Q z' H'
def zbV{prog:Af}{w:Au}{A:BK}{E:AG->AJ->Prop}{s:AJ}{t sl:AI}{items:Array AG}{vl vu:AG}{lo hi:Option Int}{Q:AG->AJ->Prop}(ht:Hh s.heap t items)(hs:s.heap.IsSliceOf sl vl vu .none)(pl:Ex vl lo)(pu:Ex vu hi)
  (hw:HT.sIx items.size 0 lo=0/\HT.sIx items.size items.size hi=items.size)
  (h:Q (.ref t) s):A8 (model prog w) A (getItem (.ref t) (.ref sl)) Q E s:=by
 let#[os,hos,hcs,hds]:=id hs;have hTs:s.TypeIs (.ref sl) "slice":=#[os,hos,hcs];unfold getItem
 try with_reducible refine Dh ?_
 first|refine AH (AW ?_)|skip
 refine AH (GF ht.typeIs ⋯ ?_);refine AH (Bn (name:=AF "__getitem__") ht.typeIs BW
  (Cf BW ht.typeIs F4 ?_ (Fk _ _)))
 show A8 _ _ (EQ (.ref t) >>= _) _ _ s;refine AH (F1 ht ?_);refine AH (GG hTs ?_);rw[if_pos ⋯];refine AH (HT.sliceApplied_gen hs pl pu ?_);have hyes:(((HT.sIx items.size 0 lo:Nat):Int)==0&&(1:Int)==1&&(HT.sIx items.size items.size hi-HT.sIx items.size 0 lo)==items.size)=true:=by rw[hw.1,hw.2];simp
 show A8 _ _ (if (((HT.sIx items.size 0 lo:Nat):Int)==0&&(1:Int)==1&&(HT.sIx items.size items.size hi-HT.sIx items.size 0 lo)==items.size)=AC then _ else _) _ _ s;rw[if_pos hyes];refine AH (AH (GG ht.typeIs (AW ?_)));rw[if_pos ⋯]
 first
  |exact AH (AW (AW #[_,rfl,AW h]))
  |exact AH (Et (AW #[_,rfl,AW h]))
  |(wp_step;wp_step;exact#[_,rfl,AW h])
def ygZ(K:AE):V->Option Int->Option Int->Hp->VK->Prop:=λx lo hi H Q=>∃a xs,x=.ref a/\SqT K H a xs /\
 (HT.sIx xs.length 0 lo=0/\HT.sIx xs.length xs.length hi=xs.length)/\Q (.ref a) H
def zj7:SlR X (ygZ X.K):=by
 intro G s D H x v vl vu lo hi sl Q I rx hs pl pu h;let#[a,xs,rfl,hx,hw,q]:=h
 cases rx
 let#[its,r,ht,hz]:=I.tuple hx;have hlen:its.toArray.size=xs.length:=by rw[A7];exact r.length.symm
 refine#["tuple",_,BW.lookup,ht.typeIs,?_];exact zbV ht hs pl pu (by rw[hlen];exact hw) #[.ref a,H,I,rfl,q]
def ygY:V->Option Int->Option Int->Hp->VK->Prop:=λx lo hi H Q=>∃y:AQ,x=.str y/\y.length<=sizeLine/\Q (.str #[((y.cps.toList.drop (HT.sIx y.cps.toList.length 0 lo)).take (HT.sIx y.cps.toList.length y.cps.toList.length hi-HT.sIx y.cps.toList.length 0 lo)).toArray]) H
def zrD(lo hi:Option Int)(n:Nat):ED lo hi 1 n=sliceRange ((HT.sIx n 0 lo:Nat):Int) ((HT.sIx n n hi:Nat):Int) 1:=by
 unfold ED;erw[show (1:Int) > 0 by decide,if_true]
 congr 1
 .cases lo with
  |none=>simp[HT.sIx]
  |some i=>
   erw[HT.sIx]
   by_cases h:i<0
   .simp only[h,if_true]<;>lia
   .simp only[h,if_false]<;>lia
 .cases hi with
  |none=>simp[HT.sIx]
  |some i=>
   erw[HT.sIx]
   by_cases h:i<0
   .simp only[h,if_true]<;>lia
   .simp only[h,if_false]<;>lia
def ziP(y:AQ)(lo hi:Option Int):Txt.slice y lo hi=#[((y.cps.toList.drop (HT.sIx y.cps.toList.length 0 lo)).take (HT.sIx y.cps.toList.length y.cps.toList.length hi-HT.sIx y.cps.toList.length 0 lo)).toArray]:=by
 have hn:y.length=y.cps.toList.length:=by simp[Str.length]
 unfold Txt.slice;rw[zrD,hn,sliceRange_one];have ha:=HT.sIx_le y.cps.toList.length 0 (DN _) lo;have hb:=HT.sIx_le y.cps.toList.length y.cps.toList.length (AT _) hi;generalize HT.sIx y.cps.toList.length 0 lo=a,HT.sIx y.cps.toList.length y.cps.toList.length hi=b at *;split
 .rename_i c;erw[Ax,List.length_range,AK,beq_iff_eq]at c;obtain⟨rfl,rfl⟩:a=0/\b=y.cps.toList.length:=by lia
  rw[HD,Nat.sub_zero,G3]
 .rw[pick_run]
def zm5:SlR X ygY:=by
 intro G s D H x v vl vu lo hi sl Q I rx hs pl pu h;let#[y,rfl,hz,q]:=h;let#[t,rfl]:=rx;rw[<-ziP]at q;refine#["str",_,PySem.F.slot_str_getitem.lookup,HA _ _ _,?_];have go:∀l u:Option (Int×Hv),vl=partValue l->vu=partValue u->lo=l.map (·.1)->hi=u.map (·.1)->A8 (model X.prog X.w) X.A (getItem (.str y t) (.ref sl)) (EP X G D Q) X.xe s:=by
  rintro l u rfl rfl rfl rfl
  refine wpAny_getItem_str_slice (l:=l) (u:=u) (st:=AD) hs rfl ?_;exact post_val_or_str #[BZ (Txt.slice_le y _ _) hz,λt' k=>#[.str _,H,I.tok k,#[_,rfl],q]]
 cases pl with
 |none=>
  cases pu with
  |none=>exact go AD AD rfl rfl rfl rfl
  |int j u=>exact go AD (AA (j,u)) rfl rfl rfl rfl
 |int i t1=>
  cases pu with
  |none=>exact go (AA (i,t1)) AD rfl rfl rfl rfl
  |int j u=>exact go (AA (i,t1)) (AA (j,u)) rfl rfl rfl rfl
def zmd:SlR X (rSl S X):=by
 rintro G s D H x v vl vu lo hi sl Q I rx hs pl pu ⟨B,C,st,w,z,rs,rw,e,q⟩
 have e1:∀n o,yc3 n o=HT.sIx n 0 o:=λn o=>by cases o<;>rfl
 have e2:∀n o,ydf n o=HT.sIx n n o:=λn o=>by cases o<;>rfl
 cases w with
 |tp k vs=>
  erw[ycM]at e;split at e
  .rename_i c
   cases e
   have rw':=rw;erw[yh]at rw;let#[p,xs,rfl,rt,l]:=rw;refine zj7 G s D H _ v vl vu lo hi sl Q I rx hs pl pu #[p,xs,rfl,rt.sq,?_,q _ H C .rfl rs rw'];rw[l.length,e1,e2]at c;exact c
  .rename_i c
   cases e
   erw[yh]at rw;let#[p,xs,rfl,rt,l]:=rw;refine zoB G s D H _ v vl vu lo hi sl Q I rx hs pl pu #[p,xs,rfl,rt.sq,?_,λt ht=>q _ _ C (.upd ht) (rs.upd ht) (.tup_new ht rs (l.cut lo hi))];rw[l.length,e1,e2]at c;exact c
 |str y=>
  erw[ycM]at e;split at e
  .rename_i c
   cases e
   erw[yh]at rw;subst rw;refine zm5 G s D H _ v vl vu lo hi sl Q I rx hs pl pu #[y,rfl,by rw[<-zJ];exact c,?_];have:=q (.str #[(cut y.cps.toList lo hi).toArray]) H C .rfl rs (by erw[yh]);rw[cut,e1,e2]at this;exact this
  .cases e
 |lst vs=>
  erw[ycM]at e
  cases e
  erw[yh]at rw;let#[p,xs,rfl,rt,l]:=rw;exact ziX G s D H _ v vl vu lo hi sl Q I rx hs pl pu #[p,xs,rfl,rt.sq,λt ht=>q _ _ C (.upd ht) (rs.upd ht) (.lst_new ht rs (l.cut lo hi))]
 |scr vs=>
  erw[ycM]at e
  cases e
  erw[yh]at rw;let#[p,xs,rfl,rt,l]:=rw;exact ziX G s D H _ v vl vu lo hi sl Q I rx hs pl pu #[p,xs,rfl,(by rcases rt with rt|rt;exact .inl rt.1;exact .inr rt),λt ht=>q _ _ C (.upd ht) (rs.upd ht) (.lst_new ht rs (l.cut lo hi))]
 |_=>cases e
def zof{lo hi:Option AV}(ha:PE X a (tE S X ca))(hl:PO X lo (tO S X cb))(hh:PO X hi (tO S X cc)):PE X (.Subscript a (.Slice lo hi AD p2) pos) (tE S X (.slc ca cb cc)):=
 (zjQ zmd ha hl hh).imp λD H Q #[B,C,st,U,rs,re,h]=>by
  erw[ev]at h;have oi:∀{v:PV} {x:V} {o:Option Int} {B C H},yh X.K S.cl B C H v x->ycd v=AA o->(x=.non/\o=AD) \/ ∃i,x=.int i/\o=AA i:=λ{v x o B C H} r e=>by
   cases v with
   |non=>erw[yh]at r;cases e;exact .inl #[r,rfl]
   |int i=>erw[yh]at r;cases e;exact .inr #[i,r,rfl]
   |_=>cases e
  refine tE.bind rs re h λx H1 v st1 C1 s1 rs1 re1 rv h1=>tE.bind rs1 re1 h1 λy H2 w st2 C2 s2 rs2 re2 rw h2=>?_
  cases eo:ycd w with
  |none=>rw[eo]at h2;exact h2.elim
  |some o1=>
   rw[eo]at h2;have key:tO S X cc D H2 λu H3=>rSl S X x o1 u H3 Q:=by
    refine tE.bind rs2 re2 h2 λy' H3 w' st3 C3 s3 rs3 re3 rw' h3=>?_;let#[z,e,q]:=zaJ h3 rs3;unfold ycE at e
    cases eo':ycd w' with
    |none=>rw[eo']at e;cases e
    |some o2=>
     rw[eo']at e;have fin:rSl S X x o1 o2 H3 Q:=#[B,C3,st3,v,z,rs3,(rv.step s2).step s3,e,q];rcases oi rw' eo' with⟨rfl,rfl⟩|⟨i,rfl,rfl⟩
     .exact .inl #[rfl,fin]
     .exact .inr #[i,rfl,fin]
   rcases oi rw eo with⟨rfl,rfl⟩|⟨i,rfl,rfl⟩
   .exact .inl #[rfl,key]
   .exact .inr #[i,rfl,key]
end
section
variable {S:Se}{X:Cx}{A:St}{B:AI->Prop}{C C1:Ph}{H H1:Hp}{st:SO}{U:IC.Env}{p pos p2:C6}{a b c d:AV}{ca cb cc:Ce}{es:List AV}{ces:Ces}{K:AE}{cl:Nat->AI}
def rB(S:Se)(X:Cx)(k:Blt):List V->Hp->VK->Prop:=λxs H Q=>∃B C st vs z,yH X.K S.cl B C H st/\yp X.K S.cl B C H vs xs/\yaE k st vs=AA z /\
 ∀z' H' C',Step C H C' H'->yH X.K S.cl B C' H' st->yh X.K S.cl B C' H' z z'->Q z' H'
theorem yp.one{v:PV}{xs:List V}(l:yp K cl B C H [v] xs):∃x,xs=[x]/\yh K cl B C H v x:=by erw[yp]at l;let#[y,ys,rfl,r,rfl]:=l;exact#[y,rfl,r]
theorem yp.two{v w:PV}{xs:List V}(l:yp K cl B C H [v,w] xs):∃x y,xs=[x,y]/\yh K cl B C H v x/\yh K cl B C H w y:=by erw[yp]at l;let#[y,ys,rfl,r,z,zs,rfl,r2,rfl]:=l;exact#[y,z,rfl,r,r2]
def zdU{k:Blt}{st:SO}{vs:List PV}{z:PV}(h:yaE k st vs=AA z)(h2:∀x y,yaE k st [x,y]=AD):∃x,vs=[x]:=by
 match vs,h with
 |[x],_=>exact#[x,rfl]
 |[x,y],h=>rw[h2]at h;cases h
def zdt{v:PV}{x:V}{vs:List PV}(rs:yH K cl B C H st)(r:yh K cl B C H v x)(h:yan st v=AA vs):∃a xs,x=.ref a/\SqL K H a xs/\yp K cl B C H vs xs:=by
 cases v with
 |lst ws=>
  cases h
  erw[yh]at r;let#[a,xs,rfl,rt,l]:=r;exact#[a,xs,rfl,rt.sq,l]
 |loc n=>
  erw[yan]at h;split at h
  .rename_i ws hw
   cases h
   let#[a,xs,rfl,_,hx,l]:=rs.list r hw;exact#[a,xs,rfl,.of hx,l]
  .cases h
 |_=>cases h
def zpv{v:PV}{x:V}{vs:List PV}(rs:yH K cl B C H st)(r:yh K cl B C H v x)(h:ycg st v=AA vs):∃a xs,x=.ref a/\(SqL K H a xs \/ SqT K H a xs)/\yp K cl B C H vs xs:=by
 cases v with
 |tp k ws=>
  cases h
  erw[yh]at r;let#[a,xs,rfl,rt,l]:=r;exact#[a,xs,rfl,.inr rt.sq,l]
 |lst ws=>
  let#[a,xs,e,q,l]:=zdt rs r (vs:=vs) h;exact#[a,xs,e,.inl q,l]
 |loc n=>
  let#[a,xs,e,q,l]:=zdt rs r (vs:=vs) h;exact#[a,xs,e,.inl q,l]
 |_=>cases h
def znF:yat X (.builtin "len") (rB S X .len):=by
 rintro D s A H xs us Q I r ⟨B,C,st,vs,z,rs,l,e,q⟩
 let#[v,rfl]:=zdU e λ_ _=>rfl;let#[x,rfl,rv]:=l.one;erw[yaE,lenV]at e;split at e
 .rename_i t;split at e
  .rename_i c
   cases e
   erw[yh]at rv;subst rv;exact zfx D s A H _ us Q I r #[t,rfl,by rw[<-zJ];exact c,q _ H C .rfl rs (by erw[yh])]
  .cases e
 .cases e1:ycg st v with
  |none=>rw[e1]at e;cases e
  |some ws=>
   rw[e1]at e
   cases e
   let#[a,ys,rfl,h,l]:=zpv rs rv e1;refine zfs D s A H _ us Q I r #[a,ys,rfl,?_,q _ H C .rfl rs (by erw[yh];rw[l.length])];exact h
def znX:yat X (.type "int") (rB S X .int):=by
 rintro D s A H xs us Q I r ⟨B,C,st,vs,z,rs,l,e,q⟩
 let#[v,rfl]:=zdU e λ_ _=>rfl;let#[x,rfl,rv]:=l.one;erw[yaE]at e
 cases v with
 |int i=>
  cases e
  erw[yh]at rv;subst rv;exact zfU D s A H _ us Q I r (.inl #[i,rfl,q _ H C .rfl rs (by erw[yh])])
 |bl k=>
  cases e
  erw[yh]at rv;subst rv;exact zfU D s A H _ us Q I r (.inr #[k,rfl,q _ H C .rfl rs (by erw[yh,bi])])
 |_=>cases e
def zmf{k:Blt}{st:SO}{vs:List PV}{z:PV}(h:yaE k st vs=AA z)(h2:∀x,yaE k st [x]=AD):∃x y,vs=[x,y]:=by
 match vs,h with
 |[x,y],_=>exact#[x,y,rfl]
 |[x],h=>rw[h2]at h;cases h
def zom(hc:X.calm=AC):yat X (.builtin "min") (rB S X .min):=by
 rintro D s A H xs us Q I r ⟨B,C,st,vs,z,rs,l,e,q⟩
 let#[v,w,rfl]:=zmf e λ_=>rfl;let#[x,y,rfl,rv,rw]:=l.two;erw[yaE,yfb]at e;split at e
 .cases e
  erw[yh]at rv rw;subst rv rw;exact zic hc D s A H _ us Q I r #[_,_,rfl,q _ H C .rfl rs (by erw[yh])]
 .cases e
def zlw:∀{vs:List PV} {m:Int},ydS vs=AA m->∃ns:List Int,vs=ns.map .int/\m∈ns/\∀a∈ns,a<=m
 |[],m,h=>by cases h
 |[.int i],m,h=>by cases h;exact#[[i],rfl,by simp,by simp]
 |.int i::w::r,m,h=>by
  erw[ydS]at h;split at h
  .rename_i c e
   cases h
   let#[ns,e1,e2,e3]:=zlw e;refine#[i::ns,by rw[e1];rfl,?_,λa ha=>?_]
   .split
    .exact AS _ e2
    .exact Aw
   .rcases AN.mp ha with rfl|ha
    .split<;>lia
    .have:=e3 a ha;split<;>lia
  .cases h
 |.non::r,m,h=>by cases r<;>cases h
 |.bl _::r,m,h=>by cases r<;>cases h
 |.str _::r,m,h=>by cases r<;>cases h
 |.tp _ _::r,m,h=>by cases r<;>cases h
 |.lst _::r,m,h=>by cases r<;>cases h
 |.loc _::r,m,h=>by cases r<;>cases h
 |.exn _::r,m,h=>by cases r<;>cases h
 |.scr _::r,m,h=>by cases r<;>cases h
theorem yp.ints:∀{ns:List Int} {xs:List V},yp K cl B C H (ns.map .int) xs->xs=ns.map V.int
 |[],xs,h=>by simpa only[Ah,yp] using h
 |n::ns,xs,h=>by erw[AL,yp]at h;let#[y,ys,rfl,r,l]:=h;erw[yh]at r;rw[r,yp.ints l];rfl
theorem yp.bls:∀{ns:List Bool} {xs:List V},yp K cl B C H (ns.map .bl) xs->xs=ns.map V.bl
 |[],xs,h=>by simpa only[Ah,yp] using h
 |n::ns,xs,h=>by erw[AL,yp]at h;let#[y,ys,rfl,r,l]:=h;erw[yh]at r;rw[r,yp.bls l];rfl
def zno{v w z:PV}(e:maxV v w=AA z):∃i j,v=.int i/\w=.int j/\z=.int (if i<j then j else i):=by
 unfold maxV at e;split at e
 .exact#[_,_,rfl,rfl,(A1 e).symm]
 .cases e
def zoI(hc:X.calm=AC):yat X (.builtin "max") (rB S X .max):=by
 rintro D s A H xs us Q I r ⟨B,C,st,vs,z,rs,l,e,q⟩
 rcases vs with _|⟨v,_|⟨w,_|⟨u',t⟩⟩⟩
 .simp[yaE]at e
 .let#[x,rfl,rv]:=l.one;erw[yaE]at e
  cases e1:yan st v with
  |none=>rw[e1]at e;cases e
  |some ws=>
   rw[e1]at e;erw[Bb]at e
   cases e2:ydS ws with
   |none=>rw[e2]at e;cases e
   |some m=>
    rw[e2]at e;obtain rfl:=A1 e;let#[ns,rfl,hm,hb]:=zlw e2;let#[a,ys,rfl,h,l]:=zdt rs rv e1;rw[l.ints]at h;refine zhI hc D s A H _ us Q I r #[a,ns,rfl,h,List.length_pos_of_mem hm,λM h1 h2=>?_];have:M=m:=by have:=hb M h1;have:=h2 m hm;lia
    subst this;exact q _ H C .rfl rs (by erw[yh])
 .let#[x,y,rfl,rv,rw]:=l.two;have e:maxV v w=AA z:=e;let#[i,j,rfl,rfl,rfl]:=zno e;erw[yh]at rv rw;subst rv rw;exact zje hc D s A H _ us Q I r #[i,j,rfl,q (.int (if i<j then j else i)) H C .rfl rs (by erw[yh])]
 .simp[yaE]at e
def zkZ:yat X (.type "tuple") (rB S X .tuple):=by
 rintro D s A H xs us Q I r ⟨B,C,st,vs,z,rs,l,e,q⟩
 let#[v,rfl]:=zdU e λ_ _=>rfl;let#[x,rfl,rv]:=l.one;erw[yaE,yeP]at e;split at e
 .cases e
  erw[yh]at rv;let#[a,ys,rfl,rt,l]:=rv;exact zch D s A H _ us Q I r #[a,ys,rfl,.inr #[rt.sq,q _ H C .rfl rs (by erw[yh];exact#[a,ys,rfl,rt,l])]]
 .cases e1:yan st v with
  |none=>rw[e1]at e;cases e
  |some ws=>
   rw[e1]at e
   cases e
   let#[a,ys,rfl,h,l]:=zdt rs rv e1;exact zch D s A H _ us Q I r #[a,ys,rfl,.inl #[h,λt ht=>q _ _ C (.upd ht) (rs.upd ht) (.tup_new ht rs l)]]
def zlE:∀{vs:List PV} {m:Bool},IC.allB vs=AA m->∃ns:List Bool,vs=ns.map .bl/\m=ns.all id
 |[],m,h=>by cases h;exact#[[],rfl,rfl]
 |.bl i::r,m,h=>by
  erw[IC.allB]at h;split at h
  .rename_i c e
   cases h
   let#[ns,e1,e2]:=zlE e;exact#[i::ns,by rw[e1];rfl,by rw[e2];rfl]
  .cases h
 |.non::r,m,h=>by cases h
 |.int _::r,m,h=>by cases h
 |.str _::r,m,h=>by cases h
 |.tp _ _::r,m,h=>by cases h
 |.lst _::r,m,h=>by cases h
 |.loc _::r,m,h=>by cases h
 |.exn _::r,m,h=>by cases h
 |.scr _::r,m,h=>by cases h
def zlh:∀{vs:List PV} {m:Int},ycN vs=AA m->∃ns:List Int,vs=ns.map .int/\m=ns.sum
 |[],m,h=>by cases h;exact#[[],rfl,rfl]
 |.int i::r,m,h=>by
  erw[ycN]at h;split at h
  .rename_i c e
   cases h
   let#[ns,e1,e2]:=zlh e;exact#[i::ns,by rw[e1];rfl,by rw[e2,HM]]
  .cases h
 |.non::r,m,h=>by cases h
 |.bl _::r,m,h=>by cases h
 |.str _::r,m,h=>by cases h
 |.tp _ _::r,m,h=>by cases h
 |.lst _::r,m,h=>by cases h
 |.loc _::r,m,h=>by cases h
 |.exn _::r,m,h=>by cases h
 |.scr _::r,m,h=>by cases h
def znG(hc:X.calm=AC):yat X (.builtin "all") (rB S X .all):=by
 rintro D s A H xs us Q I r ⟨B,C,st,vs,z,rs,l,e,q⟩
 let#[v,rfl]:=zdU e λ_ _=>rfl;let#[x,rfl,rv]:=l.one;erw[yaE]at e
 cases e1:yan st v with
 |none=>rw[e1]at e;cases e
 |some ws=>
  rw[e1]at e;erw[Bb]at e
  cases e2:IC.allB ws with
  |none=>rw[e2]at e;cases e
  |some m=>
   rw[e2]at e
   cases e
   let#[ns,rfl,rfl]:=zlE e2;let#[a,ys,rfl,h,l]:=zdt rs rv e1;rw[l.bls]at h;exact zkU hc D s A H _ us Q I r #[a,ns,rfl,h,q _ H C .rfl rs (by erw[yh])]
def zpT(hc:X.calm=AC):yat X (.builtin "sum") (rB S X .sum):=by
 rintro D s A H xs us Q I r ⟨B,C,st,vs,z,rs,l,e,q⟩
 let#[v,rfl]:=zdU e λ_ _=>rfl;let#[x,rfl,rv]:=l.one;erw[yaE]at e
 cases e1:yan st v with
 |none=>rw[e1]at e;cases e
 |some ws=>
  rw[e1]at e;erw[Bb]at e
  cases e2:ycN ws with
  |none=>rw[e2]at e;cases e
  |some m=>
   rw[e2]at e
   cases e
   let#[ns,rfl,rfl]:=zlh e2;let#[a,ys,rfl,h,l]:=zdt rs rv e1;rw[l.ints]at h;exact zk6 hc D s A H _ us Q I r #[a,ns,rfl,h,q _ H C .rfl rs (by erw[yh])]
variable {x:AQ}{id T:String}{k:Blt}
def zpc(hc:yat X (.builtin id) (rB S X k))(hg:Gl X x)(hm:X.mg x=AD)(hv:bootBuiltins x=AA (.builtin id))(ha:PA X (a::es) (tAs S X ces))(hn:x ≠ "__name__":=by decide)(hdb:(x==("__debug__":AQ))=false:=by decide)
  (he:starEach (a::es) X.env=(AB,eval a X.env)::starEach es X.env:=by rfl) (hpl:(backTo pos (starEach es X.env)).any (·.1)=false:=by rfl):PE X (.Call (.Name x p) (a::es) [] pos) (tE S X (.blt k ces)):=
 (zgz hc hg hm hv ha hn hdb he hpl).imp λA H Q #[B,C,st,U,rs,re,h]=>by erw[ev]at h;refine tAs.bind rs re h λxs H1 vs st1 C1 s1 rs1 re1 rv h1=>?_;let#[z,e,q]:=zaJ h1 rs1;exact#[B,C1,st1,vs,z,rs1,rv,e,q]
def zl8(hc:yat X (.type T) (rB S X k))(hg:Gl X x)(hm:X.mg x=AD)(hv:bootBuiltins x=AA (.type T))(ha:PA X (a::es) (tAs S X ces))(hn:x ≠ "__name__":=by decide)(hdb:(x==("__debug__":AQ))=false:=by decide)
  (he:starEach (a::es) X.env=(AB,eval a X.env)::starEach es X.env:=by rfl) (hpl:(backTo pos (starEach es X.env)).any (·.1)=false:=by rfl):PE X (.Call (.Name x p) (a::es) [] pos) (tE S X (.blt k ces)):=
 (ziY hc hg hm hv ha hn hdb he hpl).imp λA H Q #[B,C,st,U,rs,re,h]=>by erw[ev]at h;refine tAs.bind rs re h λxs H1 vs st1 C1 s1 rs1 re1 rv h1=>?_;let#[z,e,q]:=zaJ h1 rs1;exact#[B,C1,st1,vs,z,rs1,rv,e,q]
end
section
variable {S:Se}{X:Cx}{C:St}{B:AI->Prop}{A A1:Ph}{H H1:Hp}{st:SO}{U:IC.Env}{p pos p2 apos:C6}{a b c d:AV}{ca cb cc:Ce}{es:List AV}{ces:Ces}{K:AE}{cl:Nat->AI}
theorem Step.put{l:AI}{u:HO}(hl:AA l∈A):Step A H A (L2.upd H l u):=
 #[λb o n e=>by rw[zm (show b≠l from λz=>n (by rw[z];exact hl))];exact e,AT _,λ_ _ _ e=>e,λ_ h=>.inl h]
theorem yH.put{n:Nat}{l:AI}{u:HO}{o:Ob}(rs:yH K cl B A H st)(hn:A[n]?=AA (AA l))(ho:ycw K cl B A (L2.upd H l u) o l):yH K cl B A (L2.upd H l u) (st.set n o):=by
 have hm:AA l∈A:=A6 hn;have s:Step A H A (L2.upd H l u):=.put hm;have hlt:n<st.length:=by rw[<-rs.len];exact(BY.mp hn).1
 refine#[by rw[CN];exact rs.len,rs.inj,λm a e=>?_,λm o' e ho'=>?_,rs.nb,λa h=>?_]
 .by_cases hmn:m=n
  .subst hmn;rw[hn]at e;cases e;exact#[o,by rw[Ag hlt],ho]
  .let#[o',q,r]:=rs.obj m a e;refine#[o',by rw[AO (B0 hmn)];exact q,r.step s ?_];rw[zm]
   rintro rfl
   exact hmn (rs.inj m n a e hn)
 .by_cases hmn:m=n
  .subst hmn;exact#[l,hn]
  .rw[AO (B0 hmn)]at e;exact rs.liv m o' e ho'
 .let#[w,e]:=rs.dom a h
  by_cases z:a=l
  .subst z;exact#[u,zu]
  .exact#[w,by rw[zm z];exact e]
def zrg:1000000<=sizeLine:=by rw[Dq];decide
def zjw{m:Mth}{v:PV}{st:SO}{D E:Type}{Rel:Ph->Hp->D->E->Prop}{k:Bool->R D}{Q:E->Hp->Prop}(h:Run S X C B A H Rel (onO (yaX m st v) k) Q):∃b,yaX m st v=AA b/\Run S X C B A H Rel (k b) Q:=by
 cases e:yaX m st v with
 |none=>rw[e]at h;exact h.elim
 |some z=>rw[e]at h;exact#[z,rfl,h]
def zh7(ha:PE X a (tE S X ca))(hb:PE X b (tE S X cb))(hs:starEach [b] X.env=[(AB,eval b X.env)]:=by rfl)(hbase:attributeBase a "append" X.env (eval a X.env)=eval a X.env:=by rfl)(hline:(apos.endLine==pos.line)=true:=by rfl)
  (hfew:((backTo pos (starEach [b] X.env)).all (λx=>!x.1)&&(backToKw pos (keywordEach [] X.env)).all (λx=>x.1.isSome)&&decide (([b]:List AV).length+([]:List Cc).length+(if ([]:List Cc).isEmpty then 0 else 1)<30))=true:=by rfl):
  PE X (.Call (.Attribute a "append" apos) [b] [] pos) (tE S X (.mth .append ca (.cons cb .nil))):=
 (zqp PySem.F.plainAttrs_list FK PySem.F.type_list_append zfP ha (zeZ (S:=S) hb zh0 hs) hbase hfew hline hs rfl).imp λC H Q #[B,A,st,U,rs,re,h]=>by
  erw[ev]at h;refine tE.bind rs re h λx H1 v st1 A1 s1 rs1 re1 rv h1=>?_;let#[_,e1,h1]:=zjw h1;have t1:∃ws,yan st1 v=AA ws:=by
   erw[yaX]at e1
   cases q:yan st1 v with
   |none=>rw[q]at e1;cases e1
   |some ws=>exact#[ws,rfl]
  let#[ws,t1]:=t1;let#[l,xs,rfl,hl,_]:=zdt rs1 rv t1;refine#[.inl #[rfl,xs,hl],tAs.bind rs1 re1 h1 λys H2 vs st2 A2 s2 rs2 re2 rvs h2=>?_];have rv2:=rv.step s2;rcases vs with _|⟨w,_|⟨w',t⟩⟩
  .exact h2.elim
  .let#[y,rfl,rw]:=rvs.one;unfold ycy at h2;erw[yec]at h2;split at h2
   .rename_i n;split at h2
    .rename_i zs hz;split at h2
     .rename_i c;let#[l',xs',e,hn,hx,lr]:=rs2.list rv2 hz
      cases e
      refine#[l,xs',y,rfl,rfl,hx,by have:=zrg;have:=lr.length;lia,?_];exact h2 _ _ A2 (.put (A6 hn)) (rs2.put hn #[_,zu,(lr.append (by erw[yp];exact#[y,[],rfl,rw,rfl])).step (.put (A6 hn))]) (by erw[yh])
     .exact h2.elim
    .exact h2.elim
   .exact h2.elim
  .exact h2.elim
def zpd(ha:PE X a (tE S X ca)):PE X a (tE S X (.frz ca)):=
 ha.imp λC H Q #[B,A,st,U,rs,re,h]=>by
  erw[ev]at h;refine tE.bind rs re h λx H1 v st1 A1 s1 rs1 re1 rv h1=>?_;unfold ydN at h1;split at h1
  .rename_i n;split at h1
   .rename_i vs hv;let#[l,xs,rfl,hn,hx,lr]:=rs1.list rv hv;have hm:AA l∈A1:=A6 hn;have hlt:n<A1.length:=(BY.mp hn).1;have nl:AA l∉A1.set n none:=λz=>by
     let#[m,e]:=D9.mp z
     by_cases hmn:m=n
     .subst hmn;rw[Ag hlt]at e;cases e
     .rw[AO (B0 hmn)]at e;exact hmn (rs1.inj m n l e hn)
    have sb:∀b,AA b∈A1.set n AD->AA b∈A1:=λb z=>by
     let#[m,e]:=D9.mp z
     by_cases hmn:m=n
     .subst hmn;rw[Ag hlt]at e;cases e
     .rw[AO (B0 hmn)]at e;exact A6 e
    have s:Step A1 H1 (A1.set n AD) H1:=#[λ_ _ _ e=>e,by simp,λm a hm' e=>by
     by_cases hmn:m=n
     .subst hmn;rw[Ag hlt]at e;cases e
     .rw[AO (B0 hmn)]at e;exact e,λb z=>.inl (sb b z)]
    refine h1 _ H1 (A1.set n AD) s #[by simp[rs1.len],λm k a e1 e2=>?_,λm a e=>?_,λm o e ho=>?_,λa z=>rs1.nb a (sb a z),rs1.dom] ?_
    .by_cases h1':m=n
     .subst h1';rw[Ag hlt]at e1;cases e1
     .by_cases h2':k=n
      .subst h2';rw[Ag hlt]at e2;cases e2
      .rw[AO (B0 h1')]at e1;rw[AO (B0 h2')]at e2;exact rs1.inj m k a e1 e2
    .by_cases hmn:m=n
     .subst hmn;rw[Ag hlt]at e;cases e
     .rw[AO (B0 hmn)]at e;let#[o,q,r]:=rs1.obj m a e;exact#[o,by rw[AO (B0 hmn)];exact q,r.step s rfl]
    .by_cases hmn:m=n
     .subst hmn;rw[Ag (by rw[<-rs1.len];exact hlt)]at e;cases e;exact absurd rfl ho
     .rw[AO (B0 hmn)]at e ⊢;exact rs1.liv m o e ho
    .simp only[yh];exact#[l,xs,rfl,#[hx,rs1.nb l hm,nl],lr.step s]
   .exact h1.elim
  .exact h1.ok rs1 rv
end
section
variable (S:Se)(X:Cx)
def yaU(B:AI->Prop)(A:Ph)(H:Hp)(f:Fl)(D:Ends):Prop:=
 match f with
 |.nx U' st'=>∀C' H' A',Step A H A' H'->yH X.K S.cl B A' H' st'->yZ X.K S.cl B A' H' U' C'->D.nx C' H'
 |.rt v st'=>∀x H' A',Step A H A' H'->yH X.K S.cl B A' H' st'->yh X.K S.cl B A' H' v x->D.rt x H'
 |.bk U' st'=>∀C' H' A',Step A H A' H'->yH X.K S.cl B A' H' st'->yZ X.K S.cl B A' H' U' C'->D.bk C' H'
 |.ct U' st'=>∀C' H' A',Step A H A' H'->yH X.K S.cl B A' H' st'->yZ X.K S.cl B A' H' U' C'->D.ct C' H'
 |.exc k U' st'=>∀C' A1 H1 e s',Step A H A1 H1->yZ X.K S.cl B A1 H1 U' C'->ExcAt S X C' B A1 H1 k st' e s'->X.xe e s'
 |.bad=>False
def tS(c:Cs):TS:=λD C H=>∃B A st U,yH X.K S.cl B A H st/\yZ X.K S.cl B A H U C/\yaU S X B A H (ex S.call U st c) D
def tSs(c:Css):TS:=λD C H=>∃B A st U,yH X.K S.cl B A H st/\yZ X.K S.cl B A H U C/\yaU S X B A H (exs S.call U st c) D
end
section
variable {S:Se}{X:Cx}{C:St}{B:AI->Prop}{A A1:Ph}{H H1:Hp}{st:SO}{U:IC.Env}{D:Ends}{pos p2 px:C6}{a b c o:AV}{ca cb cc:Ce}{s1:CH}{ss ss':List CH}{c1:Cs}{cs cs':Css}
theorem yaU.on{f:Fl}(s:Step A H A1 H1)(h:yaU S X B A H f D):yaU S X B A1 H1 f D:=by
 cases f with
 |nx U st=>exact λC' H' A' t=>h C' H' A' (s.trans t)
 |rt U st=>exact λC' H' A' t=>h C' H' A' (s.trans t)
 |bk U st=>exact λC' H' A' t=>h C' H' A' (s.trans t)
 |ct U st=>exact λC' H' A' t=>h C' H' A' (s.trans t)
 |exc k U st=>exact λC' A2 H2 e s' t=>h C' A2 H2 e s' (s.trans t)
 |bad=>exact h
theorem tE.fl{k:PV->SO->Fl}{P:V->Hp->Prop}(rs:yH X.K S.cl B A H st)(re:yZ X.K S.cl B A H U C)(h:yaU S X B A H ((ev S.call U st ca).fl U k) D)
  (n:∀x H1 v st1 A1,Step A H A1 H1->yH X.K S.cl B A1 H1 st1->yZ X.K S.cl B A1 H1 U C->yh X.K S.cl B A1 H1 v x->yaU S X B A1 H1 (k v st1) D->P x H1):tE S X ca C H P:=by
 refine#[B,A,st,U,rs,re,?_]
 cases e:ev S.call U st ca with
 |ok v st'=>
  rw[e]at h;exact λx H' A' s rs' rv=>n x H' v st' A' s rs' (re.step s) rv (h.on s)
 |exc k st'=>
  rw[e]at h;exact λe s' x=>h C A H e s' .rfl re x
 |bad=>rw[e]at h;exact h
theorem PS.imp{t t':TS}(h:PS X s1 t')(k:∀D C H,t D C H->t' D C H):PS X s1 t:=λE s C H D I q=>h E s C H D I (k D C H q)
theorem PSs.imp{t t':TS}(h:PSs X ss t')(k:∀D C H,t D C H->t' D C H):PSs X ss t:=λE s C H D I q=>h E s C H D I (k D C H q)
theorem yZ.set{K:AE}{cl:Nat->AI}(r:yZ K cl B A H U C)(i:Nat){v:PV}{x:V}(rv:yh K cl B A H v x):yZ K cl B A H (U.set i (AA v)) (C.set i (AA x)):=by
 refine#[by rw[CN,CN];exact r.len,λj w e=>?_]
 by_cases h:j=i
 .subst h
  by_cases hl:j<U.length
  .rw[Ag hl]at e
   cases e
   exact#[x,by rw[Ag (by rw[<-r.len];exact hl)],rv]
  .rw[Bd (by rw[CN];lia)]at e
   cases e
 .rw[AO (B0 h)]at e ⊢;exact r.get j w e
def zpF:PSs X [] (tSs S X .nil):=zrt.imp λD C H #[B,A,st,U,rs,re,h]=>by erw[IC.xq0,IC.xq1]at h;exact h C H A .rfl rs re
def zny(h1:PS X s1 (tS S X c1))(h2:PSs X ss (tSs S X cs)):PSs X (s1::ss) (tSs S X (.cons c1 cs)):=
 (zgG h1 h2).imp λD C H #[B,A,st,U,rs,re,h]=>by
  erw[IC.xq0,IC.xq1]at h;refine#[B,A,st,U,rs,re,?_]
  cases e:ex S.call U st c1 with
  |nx U1 st1=>
   rw[e]at h;exact λC' H' A' s rs' re'=>#[B,A',st1,U1,rs',re',h.on s]
  |rt v st1=>rw[e]at h;exact h
  |bk U1 st1=>rw[e]at h;exact h
  |ct U1 st1=>rw[e]at h;exact h
  |exc k U1 st1=>rw[e]at h;exact h
  |bad=>rw[e]at h;exact h
def zmc(he:PE X a (tE S X ca))(hs:swapsWith a AD pos.line X.env=pure false:=by rfl):PS X (.Expr a pos) (tS S X (.expr ca)):=
 (znb he hs).imp λD C H #[B,A,st,U,rs,re,h]=>by erw[ex]at h;exact tE.fl rs re h λx H1 v st1 A1 s rs1 re1 rv h1=>h1 C H1 A1 .rfl rs1 re1
def zol(he:PE X a (tE S X ca)):PS X (.Return (AA a) pos) (tS S X (.ret ca)):=
 (zlt he).imp λD C H #[B,A,st,U,rs,re,h]=>by erw[ex]at h;exact tE.fl rs re h λx H1 v st1 A1 s rs1 re1 rv h1=>h1 x H1 A1 .rfl rs1 rv
def zmV:PS X (.Return AD pos) (tS S X (.ret (.cst .non))):=
 zru.imp λD C H #[B,A,st,U,rs,re,h]=>by erw[ex,ev,R.fl]at h;exact h .non H A .rfl rs (by erw[yh])
def znH{i:Nat}{x:AQ}(hN:X.N.Nodup)(hi:X.N[i]?=AA x)(hx:Loc X.env.scope x)(he:PE X a (tE S X ca))(hs:swapsWith a (AA (.Name x px)) pos.line X.env=pure false:=by rfl)
  (hf:X.fn x=AC \/ X.env.scope.names.lookup x=AA .local:=by first|exact .inl rfl|exact .inr rfl|assumption):PS X (.Assign [.Name x px] a pos) (tS S X (.asg (.n i) ca)):=
 (zle hN hi hx he hs hf).imp λD C H #[B,A,st,U,rs,re,h]=>by erw[ex]at h;exact tE.fl rs re h λx H1 v st1 A1 s rs1 re1 rv h1=>h1 _ H1 A1 .rfl rs1 (re1.set i rv)
theorem flT(r:R PV)(f:Bool->SO->Fl):(r.fl U λx st1=>onF (yaY st1 x) λk=>f k st1)=(ybf r).fl U f:=by
 cases r with
 |ok v s=>
  erw[R.fl,ybf,R.bind]
  cases yaY s v<;>rfl
 |exc c s=>rfl
 |bad=>rfl
theorem tTs.fl{k:Bool->SO->Fl}{P:Bool->Hp->Prop}(rs:yH X.K S.cl B A H st)(re:yZ X.K S.cl B A H U C)(h:yaU S X B A H ((ybf (ev S.call U st ca)).fl U k) D)
  (n:∀b H1 st1 A1,Step A H A1 H1->yH X.K S.cl B A1 H1 st1->yZ X.K S.cl B A1 H1 U C->yaU S X B A1 H1 (k b st1) D->P b H1):tTs S X ca C H P:=by
 refine#[B,A,st,U,rs,re,?_]
 cases e:ybf (ev S.call U st ca)with
 |ok v st'=>
  rw[e]at h;exact λx H' A' s rs' rv=>by subst rv;exact n v H' st' A' s rs' (re.step s) (h.on s)
 |exc k st'=>
  rw[e]at h;exact λe s' x=>h C A H e s' .rfl re x
 |bad=>rw[e]at h;exact h
def zqi(hc:PT X c (tTs S X cc))(ha:PSs X ss (tSs S X cs))(hb:PSs X ss' (tSs S X cs')):PS X (.If c ss ss' pos) (tS S X (.ite cc cs cs')):=
 (zqs hc ha hb).imp λD C H #[B,A,st,U,rs,re,h]=>by
  erw[ex]at h;rw[flT _ λk st1=>cond k (exs S.call U st1 cs) (exs S.call U st1 cs')]at h;refine tTs.fl rs re h λk H1 st1 A1 s rs1 re1 h1=>?_
  cases k with
  |true=>exact#[B,A1,st1,U,rs1,re1,h1]
  |false=>exact#[B,A1,st1,U,rs1,re1,h1]
def zo1{i:Nat}{x:AQ}{op:Dp}{bo:BOp}(hN:X.N.Nodup)(hi:X.N[i]?=AA x)(hx:Loc X.env.scope x)(he:PE X a (tE S X ca))(ho:PIp X op (rT2 S X (ybZ bo)))
  (hf:X.fn x=AC \/ X.env.scope.names.lookup x=AA .local:=by first|exact .inl rfl|exact .inr rfl|assumption) (hd:(x==("__debug__":AQ))=false:=by decide) (hcd:(x==("__classdict__":AQ))=false:=by decide):PS X (.AugAssign (.Name x px) op a pos) (tS S X (.aug i bo ca)):=
 (zoe hN hi hx he ho hf).imp λD C H #[B,A,st,U,rs,re,h]=>by
  erw[ex]at h
  cases q:U[i]? with
  |none=>rw[q]at h;exact h.elim
  |some w=>
   cases w with
   |none=>rw[q]at h;exact h.elim
   |some w=>
    rw[q]at h;let#[y,hy,rw]:=re.get i w q;refine#[y,hy,tE.fl rs re h λz H1 v st1 A1 s rs1 re1 rv h1=>?_]
    cases e:ybZ bo w v with
    |none=>rw[e]at h1;exact h1.elim
    |some u=>
     rw[e]at h1;exact#[B,A1,st1,w,v,u,rs1,rw.step s,rv,e,λz' H' A' s' rs' rz=>h1 _ H' A' s' rs' ((re1.step s').set i rz)]
end
section
variable (S:Se)(X:Cx)
structure Drw(B:AI->Prop)(A0:Ph)(H0:Hp)(xs:List PV)(J:It):Prop where
 stop:∀A H,Step A0 H0 A H->J.stop xs.length H
 go:∀(i:Nat) A H,Step A0 H0 A H->i<xs.length->J.go i H
 yld:∀(i:Nat) A H st x H' (B':AI->Prop),(∀y,B' y->B y \/ H0 y=AD)->Step A0 H0 A H->yH X.K S.cl B' A H st->i<xs.length->J.yld i H x H'->∃v,xs[i]?=AA v/\yh X.K S.cl B' A H' v x/\∀b o,H b=AA o->H' b=AA o
abbrev RD(B:AI->Prop):Ph->Hp->List PV->It->Prop:=λA H=>Drw S X B A H
def tI(c:Cit):TI:=λC H R=>∃B A st U,yH X.K S.cl B A H st/\yZ X.K S.cl B A H U C/\Run S X C B A H (RD S X B) (evi S.call U st c) R
end
section
variable {S:Se}{X:Cx}{F:St}{B:AI->Prop}{E E1:Ph}{H H1:Hp}{st:SO}{U:IC.Env}{D:Ends}{pos p p2 px:C6}{a b c o tg l:AV}{ca cb cc:Ce}{es:List AV}{ces:Ces}{ss:List CH}{cs:Css}{ci:Cit}{ct:Tg}
def znB:PE X a (tE S X .nope):=λC s F H Q I #[B,E,st,U,rs,re,h]=>by erw[ev]at h;exact h.elim
def zm3{s1:CH}:PS X s1 (tS S X .nope):=λC s F H D I #[B,E,st,U,rs,re,h]=>by erw[ex]at h;exact h.elim
theorem PI.imp{t t':TI}(h:PI X tg l t')(k:∀F H R,t F H R->t' F H R):PI X tg l t:=λC s F H R I q=>h C s F H R I (k F H R q)
def zoi{tl:TE}(hl:PE X l tl):PI X tg l (λF H R=>tl F H λx H1=>∃a,x=.ref a/\(((∃xs,SqL X.K H1 a xs)/\R (Itl X.K a) H1) \/ ((∃xs,SqT X.K H1 a xs)/\R (Itt X.K a) H1))):=by
 intro C s F H R I h;refine thn (hl C s F H _ I h) λv s1 kq=>?_;let#[x,H1,I1,r1,q1]:=kq;let#[a,e,q1]:=q1;subst e
 cases r1
 rcases q1 with⟨⟨xs,hq⟩,q⟩|⟨⟨xs,hq⟩,q⟩
 .let#[its,rv,p,hz]:=I1.list hq;refine GM p.isList ?_;refine#[s1.heap.objs.size,[s1.heap.objs.size],_,_,H1,rfl,I1.kept (t':=s1.toks) λb o e=>AR _ e,zio a _,#[_,Ac _ rfl,rfl,rfl],λb hb=>?_,q];have e:b=s1.heap.objs.size:=by simpa using hb
  subst e;exact I1.fpOk (AT _) (I1.hok.fresh (AT _))
 .let#[its,rv,p,hz]:=I1.tuple hq;refine C2 (show s1.heap.IsTuple a its.toArray from p) ?_;refine#[s1.heap.objs.size,[s1.heap.objs.size],_,_,H1,rfl,I1.kept (t':=s1.toks) λb o e=>AR _ e,zhz a _,#[_,Ac _ rfl,rfl,rfl],λb hb=>?_,q];have e:b=s1.heap.objs.size:=by simpa using hb
  subst e;exact I1.fpOk (AT _) (I1.hok.fresh (AT _))
def zmS{k:Bool}{vs:List PV}{xs:List V}{y:AI}(rt:ybV X.K B E H k y xs)(l:yp X.K S.cl B E H vs xs):Drw S X B E H vs (Itt X.K y):=by
 have hl:=l.length;refine#[λE' H' s=>#[xs,(rt.step s).sq,by lia],λi E' H' s hi=>#[xs,xs[i]'(),(rt.step s).sq,by simp[show i<xs.length by lia]],λi E' H' st x H2 B' hB s rs hi q=>?_];let#[rfl,q]:=q;obtain⟨v,hv⟩:∃v,vs[i]?=AA v:=#[vs[i],by simp[hi]];let#[x',hx',rv]:=l.get i hv;have:=q xs (rt.step s).sq;rw[this]at hx'
 cases hx'
 exact#[v,hv,(rv.moreB hB).step s,λ_ _ e=>e]
def zmH{vs:List PV}{xs:List V}{y:AI}(rt:ycV B E H y xs)(l:yp X.K S.cl B E H vs xs):Drw S X B E H vs (Itl X.K y):=by
 have hl:=l.length;refine#[λE' H' s=>#[xs,(rt.step s).sq,by lia],λi E' H' s hi=>#[xs,xs[i]'(),(rt.step s).sq,by simp[show i<xs.length by lia]],λi E' H' st x H2 B' hB s rs hi q=>?_];let#[rfl,q]:=q;obtain⟨v,hv⟩:∃v,vs[i]?=AA v:=#[vs[i],by simp[hi]];let#[x',hx',rv]:=l.get i hv;have:=q xs (rt.step s).sq;rw[this]at hx'
 cases hx'
 exact#[v,hv,(rv.moreB hB).step s,λ_ _ e=>e]
def znO(hl:PE X l (tE S X ca)):PI X tg l (tI S X (.seq ca)):=
 (zoi hl).imp λF H R #[B,E,st,U,rs,re,h]=>by
  erw[IC.vi0,IC.vi1,IC.vi2,IC.vi3,IC.vi4,IC.vi5,IC.vi6,IC.vi7,IC.vi8]at h;refine tE.bind rs re h λx H1 v st1 E1 s1 rs1 re1 rv h1=>?_
  cases v with
  |tp k vs=>
   erw[yh]at rv;let#[y,xs,rfl,rt,l]:=rv;exact#[y,rfl,.inr #[#[xs,rt.sq],h1.ok rs1 (zmS rt l)]]
  |lst vs=>
   erw[yh]at rv;let#[y,xs,rfl,rt,l]:=rv;exact#[y,rfl,.inl #[#[xs,rt.sq],h1.ok rs1 (zmH rt l)]]
  |_=>exact h1.elim
def zeb:∀(n:Nat) (lo d:Int) (i:Nat),(yx n lo d)[i]?=if i<n then AA (.int (lo+i*d))else AD
 |0,lo,d,i=>by simp[yx]
 |n+1,lo,d,0=>by simp[yx]
 |n+1,lo,d,i+1=>by
  erw[yx,Ai];rw[zeb n (lo+d) d i]
  by_cases h:i<n
  .rw[if_pos h,if_pos (),Int.natCast_succ,Ay,Az,HN,Cz d]
  .rw[if_neg h,if_neg ()]
def zbA:∀(n:Nat) (lo d:Int),(yx n lo d).length=n
 |0,lo,d=>rfl
 |n+1,lo,d=>by simp[yx,zbA n]
def zi2{lo:Int}{n:Nat}:Drw S X B E H (yx n lo 1) (Itr lo n):=by refine#[λE' H' s=>by rw[zbA];exact AT _,λi E' H' s hi=>by rw[zbA]at hi;exact hi,λi E' H' st x H2 B' hB s rs hi q=>?_];rw[zbA]at hi;let#[rfl,rfl]:=q;refine#[.int (lo+i),?_,by erw[yh],λ_ _ e=>e];rw[zeb,if_pos hi,CT]
def zis{o:Option (List PV)}{st:SO}{Q:It->Hp->Prop}(h:Run S X F B E H (RD S X B) (toL o st) Q):∃xs,o=AA xs/\Run S X F B E H (RD S X B) (.ok xs st) Q:=by
 cases o with
 |none=>exact h.elim
 |some z=>exact#[z,rfl,h]
def zjF(hg:Gl X "range")(hm:X.mg "range"=AD)(ha:PE X a (tE S X ca))(hs:starEach [a] X.env=[(AB,eval a X.env)]:=by rfl):PI X tg (.Call (.Name "range" p) [a] [] pos) (tI S X (.range1 ca)):=
 (zhS hg hm (zbS ha zq2 hs) hs).imp λF H R #[B,E,st,U,rs,re,h]=>by
  erw[IC.vi0,IC.vi1,IC.vi2,IC.vi3,IC.vi4,IC.vi5,IC.vi6,IC.vi7,IC.vi8]at h;refine tE.bind rs re h λx H1 v st1 E1 s1 rs1 re1 rv h1=>?_;let#[xs,e,h1]:=zis h1
  cases v with
  |int j=>
   erw[yb8]at e;split at e
   .cases e
    erw[yh]at rv;subst rv;exact#[j,rfl,by lia,by lia,h1.ok rs1 zi2]
   .cases e
  |_=>cases e
def zdh:∀(xs:List PV) (k i:Nat),(yJ k xs)[i]?=(xs[i]?).map λx=>.tup [.int ((k+i:Nat):Int),x]
 |[],k,i=>by simp[yJ]
 |x::xs,k,0=>by simp[yJ]
 |x::xs,k,i+1=>by
  erw[yJ,Ai];rw[zdh xs (k+1) i];have:k+1+i=k+(i+1):=by lia
  rw[this]
def zdQ:∀(xs:List PV) (k:Nat),(yJ k xs).length=xs.length
 |[],k=>rfl
 |x::xs,k=>by simp[yJ,zdQ xs]
def zkF{k:Bool}{vs:List PV}{xs:List V}{y:AI}(rt:ybV X.K B E H k y xs)(l:yp X.K S.cl B E H vs xs):Drw S X B E H (yJ 0 vs) (Ite X.K y):=by
 have hl:=l.length;have hp:=zdQ vs 0;refine#[λE' H' s=>#[xs,(rt.step s).sq,by lia],λi E' H' s hi=>#[xs,xs[i]'(),(rt.step s).sq,by simp[show i<xs.length by lia]],λi E' H' st x H2 B' hB s rs hi q=>?_];let#[T,hT,rfl,q]:=q;obtain⟨v,hv⟩:∃v,vs[i]?=AA v:=#[vs[i]'(),by simp[show i<vs.length by lia]];let#[x',hx',rv]:=l.get i hv;have e:=q xs x' (rt.step s).sq hx';subst e;refine#[.tup [.int i,v],?_,.tup_new hT rs ?_,λb o e=>by rw[zm (zq e hT)];exact e]
 .rw[zdh,hv];simp
 .simp only[yp,yh];exact#[_,_,rfl,rfl,x',[],rfl,(rv.moreB hB).step s,rfl]
def zlU{es:List AV}{kk:Nat}{tp:C6}(hg:Gl X "enumerate")(hm:X.mg "enumerate"=AD)(ha:PE X a (tE S X ca))(hs:starEach [a] X.env=[(AB,eval a X.env)]:=by rfl):
  PI X (.Tuple es kk tp) (.Call (.Name "enumerate" p) [a] [] pos) (tI S X (.enum ca)):=
 (zkG hg hm (zbS ha zq2 hs) hs).imp λF H R #[B,E,st,U,rs,re,h]=>by
  erw[IC.vi0,IC.vi1,IC.vi2,IC.vi3,IC.vi4,IC.vi5,IC.vi6,IC.vi7,IC.vi8]at h;refine tE.bind rs re h λx H1 v st1 E1 s1 rs1 re1 rv h1=>?_
  cases v with
  |tp k vs=>
   erw[yh]at rv;let#[y,xs,rfl,rt,l]:=rv;exact#[y,rfl,#[xs,rt.sq],h1.ok rs1 (zkF rt l)]
  |_=>exact h1.elim
def tG(S:Se)(X:Cx)(t:Tg):TG:=λv F H Q=>∃B E st U w U',yH X.K S.cl B E H st/\yZ X.K S.cl B E H U F/\yh X.K S.cl B E H w v/\yU t w U=AA U'/\∀F',yZ X.K S.cl B E H U' F'->Q F' H
theorem PG.imp{t t':TG}(h:PG X tg t')(k:∀v F H Q,t v F H Q->t' v F H Q):PG X tg t:=λC s F H v u Q I rv q=>h C s F H v u Q I rv (k v F H Q q)
def znt{i:Nat}{x:AQ}(hN:X.N.Nodup)(hi:X.N[i]?=AA x)(hx:Loc X.env.scope x)(hf:X.fn x=AC \/ X.env.scope.names.lookup x=AA .local:=by first|exact .inl rfl|exact .inr rfl|assumption):PG X (.Name x pos) (tG S X (.n i)):=
 (zix hN hi hx hf).imp λv F H Q #[B,E,st,U,w,U',rs,re,rv,e,q]=>by
  cases e
  exact q _ (re.set i rv)
def gNs(l:List Nat):TGs:=λvs F H Q=>vs.length=l.length/\Q ((l.zip vs).foldl (λF p=>F.set p.1 (AA p.2)) F) H
theorem PGs.imp{es:List AV}{t t':TGs}(h:PGs X es t')(k:∀v F H Q,t v F H Q->t' v F H Q):PGs X es t:=λC s F H vs us Q I rv q=>h C s F H vs us Q I rv (k vs F H Q q)
def znc:PGs X [] (gNs []):=zrv.imp λvs F H Q #[h,q]=>by
 cases vs with
 |nil=>exact#[rfl,q]
 |cons _ _=>cases h
def zjU{es:List AV}{l:List Nat}{i:Nat}{x:AQ}(hN:X.N.Nodup)(hi:X.N[i]?=AA x)(hx:Loc X.env.scope x)(h2:PGs X es (gNs l))(hf:X.fn x=AC \/ X.env.scope.names.lookup x=AA .local:=by first|exact .inl rfl|exact .inr rfl|assumption):PGs X (.Name x pos::es) (gNs (i::l)):=
 (zla (zix hN hi hx hf) h2).imp λvs F H Q #[h,q]=>by
  cases vs with
  |nil=>cases h
  |cons v vs=>exact#[v,vs,rfl,by simpa using h,q]
theorem yZ.sets{K:AE}{cl:Nat->AI}:∀(l:List Nat) {vs:List PV} {xs:List V} {U:IC.Env} {F:St},yZ K cl B E H U F->yp K cl B E H vs xs ->
  yZ K cl B E H ((l.zip vs).foldl (λU p=>U.set p.1 (AA p.2)) U) ((l.zip xs).foldl (λF p=>F.set p.1 (AA p.2)) F)
 |[],vs,xs,U,F,re,l=>by simpa using re
 |i::is,[],xs,U,F,re,l=>by erw[yp]at l;subst l;simpa using re
 |i::is,v::vs,xs,U,F,re,l=>by erw[yp]at l;let#[y,ys,rfl,r,l]:=l;erw[ET,Dx];exact yZ.sets is (re.set i r) l
def znY{es:List AV}{l:List Nat}{k:Nat}(hc:X.calm=AC)(h:PGs X es (gNs l))(hn:(assignEach es X.env).length=l.length:=by rfl)(hst:(assignEach es X.env).findIdx? (·.1)=none:=by rfl):PG X (.Tuple es k pos) (tG S X (.t l)):=
 (zp4 hc h hn hst).imp λv F H Q #[B,E,st,U,w,U',rs,re,rv,e,q]=>by
  cases w with
  |tp kk vs=>
   erw[yU]at e;split at e
   .rename_i c
    cases e
    erw[yh]at rv;let#[y,xs,rfl,rt,lr]:=rv;have hl:=lr.length;exact#[y,xs,rfl,rt.sq,by lia,by lia,q _ (yZ.sets l re lr)]
   .cases e
  |_=>cases e
def zmq{es:List AV}{l:List Nat}{k:Nat}(he:PE X a (tE S X ca))(hg:PG X (.Tuple es k p2) (tG S X (.t l)))(hs:swapsWithSole [.Tuple es k p2] a pos.line X.env=pure false:=by rfl)(hw:swappedStores [.Tuple es k p2] a X.env=pure none:=by rfl):
  PS X (.Assign [.Tuple es k p2] a pos) (tS S X (.asg (.t l) ca)):=
 (zlk he hg hs hw).imp λD F H #[B,E,st,U,rs,re,h]=>by
  erw[ex]at h;refine tE.fl rs re h λx H1 v st1 E1 s rs1 re1 rv h1=>?_
  cases e:yU (.t l) v U with
  |none=>rw[e]at h1;exact h1.elim
  |some U'=>
   rw[e]at h1;exact#[B,E1,st1,U,v,U',rs1,re1,rv,e,λF' re'=>h1 F' H1 E1 .rfl rs1 re']
theorem tI.fl{k:List PV->SO->Fl}{P:It->Hp->Prop}(rs:yH X.K S.cl B E H st)(re:yZ X.K S.cl B E H U F)(h:yaU S X B E H ((evi S.call U st ci).fl U k) D)
  (n:∀x H1 v st1 E1,Step E H E1 H1->yH X.K S.cl B E1 H1 st1->yZ X.K S.cl B E1 H1 U F->Drw S X B E1 H1 v x->yaU S X B E1 H1 (k v st1) D->P x H1):tI S X ci F H P:=by
 refine#[B,E,st,U,rs,re,?_]
 cases e:evi S.call U st ci with
 |ok v st'=>
  rw[e]at h;exact λx H' E' s rs' rv=>n x H' v st' E' s rs' (re.step s) rv (h.on s)
 |exc k st'=>
  rw[e]at h;exact λe s' x=>h F E H e s' .rfl re x
 |bad=>rw[e]at h;exact h
def zn0(hp:Ei (model X.prog X.w) X.A X.env X.xe)(hc:X.calm=AC)(hi:PI X tg l (tI S X ci))(hg:PG X tg (tG S X ct))(hb:PSs X ss (tSs S X cs))(hs:∀x,foldedSetIterable l X.env x=pure x:=by intro _;rfl):
  PS X (.For tg l ss [] pos) (tS S X (.for ct ci cs)):=
 (zps hp hc hi hg hb hs).imp λD F H #[B,E,st,U,rs,re,h]=>by
  erw[ex]at h;refine tI.fl rs re h λJ H1 xs st1 E1 s1 rs1 re1 dr h1=>?_;refine#[λi m F H=>∃E st U,i+m=xs.length/\Step E1 H1 E H/\yH X.K S.cl B E H st/\yZ X.K S.cl B E H U F/\yaU S X B E H (forL ct (λU2 st2=>exs S.call U2 st2 cs) (xs.drop i) U st) D,
   #[xs.length,E1,st1,U,by lia,.rfl,rs1,re1,by simpa using h1],?_]
  rintro i m F2 H2 ⟨E2,st2,U2,hm,s2,rs2,re2,h2⟩
  by_cases hi:i<xs.length
  .refine .inr #[dr.go i E2 H2 s2 hi,λF' H'=>∃E st U,Step E1 H1 E H'/\yH X.K S.cl B E H' st/\yZ X.K S.cl B E H' U F'/\yaU S X B E H' (forL ct (λU2 st2=>exs S.call U2 st2 cs) (xs.drop (i+1)) U st) D,
    λF' H' #[E,st,U,s,q]=>#[m-1,by lia,E,st,U,by lia,s,q],λx H3 hy=>?_]
   let#[v,hv,rv,kk]:=dr.yld i E2 H2 st2 x H3 B (λ_ z=>.inl z) s2 rs2 hi hy;have e:xs.drop i=v::xs.drop (i+1):=by rw[EY hi];rw[Ef hi]at hv;rw[A1 hv]
   have s3:Step E2 H2 E2 H3:=#[λb o _ e=>kk b o e,AT _,λ_ _ _ e=>e,λ_ h=>.inl h];have rs3:yH X.K S.cl B E2 H3 st2:=rs2.same kk;rw[e,forL]at h2
   cases eb:yU ct v U2 with
   |none=>rw[eb]at h2;exact h2.elim
   |some U3=>
    rw[eb]at h2;refine#[B,E2,st2,U2,v,U3,rs3,re2.step s3,rv,eb,λF' re'=>#[B,E2,st2,U3,rs3,re',?_]];have h3:=yaU.on s3 h2;dsimp only at h3
    cases ee:exs S.call U3 st2 cs with
    |nx U4 st4=>
     rw[ee]at h3;exact λF4 H4 E4 s4 rs4 re4=>#[E4,st4,U4,s2.trans (s3.trans s4),rs4,re4,yaU.on s4 h3]
    |ct U4 st4=>
     rw[ee]at h3;exact λF4 H4 E4 s4 rs4 re4=>#[E4,st4,U4,s2.trans (s3.trans s4),rs4,re4,yaU.on s4 h3]
    |bk U4 st4=>rw[ee]at h3;exact h3
    |rt v4 st4=>rw[ee]at h3;exact h3
    |exc k U4 st4=>rw[ee]at h3;exact h3
    |bad=>rw[ee]at h3;exact h3
  .have e:i=xs.length:=by lia
   subst e;rw[G4,forL]at h2;exact .inl #[dr.stop E2 H2 s2,h2 F2 H2 E2 .rfl rs2 re2]
def zkQ(hp:Ei (model X.prog X.w) X.A X.env X.xe)(hc:PT X c (tTs S X cc))(hb:PSs X ss (tSs S X cs)):PS X (.While c ss [] pos) (tS S X (.while cc cs)):=
 (zj3 hp hc hb).imp λD F H #[B,E,st,U,rs,re,h]=>by
  erw[ex]at h;refine#[λm F H=>∃E st U,yH X.K S.cl B E H st/\yZ X.K S.cl B E H U F/\yaU S X B E H (yaH (λU2 st2=>ev S.call U2 st2 cc) (λU2 st2=>exs S.call U2 st2 cs) m U st) D,#[100000,E,st,U,rs,re,h],?_]
  rintro m F2 H2 ⟨E2,st2,U2,rs2,re2,h2⟩
  cases m with
  |zero=>exact h2.elim
  |succ m=>
   rw[yaH]at h2;rw[flT _ λk st1=>cond k (yaN (exs S.call U2 st1 cs) λU2 st2=>yaH (λU2 st2=>ev S.call U2 st2 cc) (λU2 st2=>exs S.call U2 st2 cs) m U2 st2) (.nx U2 st1)]at h2;refine tTs.fl rs2 re2 h2 λk H3 st3 E3 s3 rs3 re3 h3=>?_
   cases k with
   |false=>exact h3 F2 H3 E3 .rfl rs3 re3
   |true=>
    refine#[λF' H'=>∃E st U,yH X.K S.cl B E H' st/\yZ X.K S.cl B E H' U F'/\yaU S X B E H' (yaH (λU2 st2=>ev S.call U2 st2 cc) (λU2 st2=>exs S.call U2 st2 cs) m U st) D,
     λF' H' q=>#[m,by lia,q],B,E3,st3,U2,rs3,re3,?_]
    erw[cond_true]at h3
    cases ee:exs S.call U2 st3 cs with
    |nx U4 st4=>
     rw[ee]at h3;exact λF4 H4 E4 s4 rs4 re4=>#[E4,st4,U4,rs4,re4,yaU.on s4 h3]
    |ct U4 st4=>
     rw[ee]at h3;exact λF4 H4 E4 s4 rs4 re4=>#[E4,st4,U4,rs4,re4,yaU.on s4 h3]
    |bk U4 st4=>rw[ee]at h3;exact h3
    |rt v4 st4=>rw[ee]at h3;exact h3
    |exc k U4 st4=>rw[ee]at h3;exact h3
    |bad=>rw[ee]at h3;exact h3
end
end L2
namespace IC
open PySem
def RLe{A:Type}(r q:R A):Prop:=r=.bad \/ r=q
def FLe(f g:Fl):Prop:=f=.bad \/ f=g
abbrev Cl:=Nat->List PV->SO->R PV
def CLe(c d:Cl):Prop:=∀f a s,RLe (c f a s) (d f a s)
theorem RLe.rfl{A:Type}{r:R A}:RLe r r:=.inr (DW _)
theorem FLe.rfl{f:Fl}:FLe f f:=.inr (DW _)
theorem RLe.bind{A B:Type}{r q:R A}{k l:A->SO->R B}(h:RLe r q)(hk:∀a s,RLe (k a s) (l a s)):RLe (r.bind k) (q.bind l):=by
 rcases h with h|h
 .subst h;exact .inl (DW _)
 .subst h
  cases r with
  |ok a s=>exact hk a s
  |exc c s=>exact .rfl
  |bad=>exact .rfl
theorem RLe.fl{A:Type}{r q:R A}{U:Env}{k l:A->SO->Fl}(h:RLe r q)(hk:∀a s,FLe (k a s) (l a s)):FLe (r.fl U k) (q.fl U l):=by
 rcases h with h|h
 .subst h;exact .inl (DW _)
 .subst h
  cases r with
  |ok a s=>exact hk a s
  |exc c s=>exact .rfl
  |bad=>exact .rfl
theorem RLe.comp{r q:R (List PV)}(h:RLe r q):RLe (yb5 r) (yb5 q):=by
 rcases h with h|h
 .subst h;exact .inl (DW _)
 .subst h;exact .rfl
def zi3{A:Type}{x:PV}{k l:Bool->R A}(h:∀b,RLe (k b) (l b)):RLe (onBl x k) (onBl x l):=by
 cases x with
 |bl b=>exact h b
 |_=>exact .rfl
def zfq{A:Type}{x:Option Bool}{k l:Bool->R A}(h:∀b,RLe (k b) (l b)):RLe (onO x k) (onO x l):=by
 cases x with
 |some b=>exact h b
 |none=>exact .rfl
def zlL{x:Option Bool}{k l:Bool->Fl}(h:∀b,FLe (k b) (l b)):FLe (onF x k) (onF x l):=by
 cases x with
 |some b=>exact h b
 |none=>exact .rfl
def znE{A:Type}{x:Option (Option Int)}{k l:Option Int->R A}(h:∀b,RLe (k b) (l b)):RLe (onP x k) (onP x l):=by
 cases x with
 |some b=>exact h b
 |none=>exact .rfl
def zdv{A:Type}{b:Bool}{r q r' q':R A}(h:RLe r q)(h':RLe r' q'):RLe (cond b r r') (cond b q q'):=by
 cases b
 .exact h'
 .exact h
def zgP{b:Bool}{r q r' q':Fl}(h:FLe r q)(h':FLe r' q'):FLe (cond b r r') (cond b q q'):=by
 cases b
 .exact h'
 .exact h
def zc5{f g:PV->SO->R (Option PV)}(h:∀x s,RLe (f x s) (g x s)):∀xs s,RLe (ybU f xs s) (ybU g xs s)
 |[],s=>.rfl
 |x::xs,s=>(h x s).bind λo s1=>(zc5 h xs s1).bind λys s2=>.rfl
def zdS{f g:Fl}{k l:Env->SO->Fl}(h:FLe f g)(hk:∀U s,FLe (k U s) (l U s)):FLe (yaN f k) (yaN g l):=by
 rcases h with h|h
 .subst h;exact .inl (DW _)
 .subst h
  cases f with
  |nx U s=>exact hk U s
  |ct U s=>exact hk U s
  |_=>exact .rfl
def zeF{t:Tg}{f g:Env->SO->Fl}(h:∀U s,FLe (f U s) (g U s)):∀xs U s,FLe (forL t f xs U s) (forL t g xs U s)
 |[],U,s=>.rfl
 |x::xs,U,s=>by
  unfold forL
  cases yU t x U with
  |none=>exact .rfl
  |some U1=>exact zdS (h U1 s) λU2 s2=>zeF h xs U2 s2
def zfk{t u:Env->SO->R PV}{f g:Env->SO->Fl}(ht:∀U s,RLe (t U s) (u U s))(h:∀U s,FLe (f U s) (g U s)):∀n U s,FLe (yaH t f n U s) (yaH u g n U s)
 |0,U,s=>.rfl
 |n+1,U,s=>by unfold yaH;exact(ht U s).fl λx s1=>zlL λb=>zgP (zdS (h U s1) λU2 s2=>zfk ht h n U2 s2) .rfl
mutual
theorem zk{c d:Cl}(h:CLe c d):∀(e:Ce) (U:Env) (s:SO),RLe (ev c U s e) (ev d U s e)
 |.cst v,U,s=>by exact .rfl
 |.var i,U,s=>by exact .rfl
 |.bin o a b,U,s=>by exact(zk h a U s).bind λx s1=>(zk h b U s1).bind λy s2=>.rfl
 |.neg a,U,s=>by exact(zk h a U s).bind λx s1=>.rfl
 |.not a,U,s=>by exact(zk h a U s).bind λx s1=>.rfl
 |.and a b,U,s=>by refine(zk h a U s).bind λx s1=>?_;exact zi3 λk=>zdv (zk h b U s1) .rfl
 |.or a b,U,s=>by refine(zk h a U s).bind λx s1=>?_;exact zi3 λk=>zdv .rfl (zk h b U s1)
 |.cmp o a b,U,s=>by exact(zk h a U s).bind λx s1=>(zk h b U s1).bind λy s2=>.rfl
 |.chain o p a b k,U,s=>by refine(zk h a U s).bind λx s1=>(zk h b U s1).bind λy s2=>?_;exact zfq λq=>zdv ((zk h k U s2).bind λz s3=>.rfl) .rfl
 |.ite k a b,U,s=>by exact(zk h k U s).bind λx s1=>zfq λq=>zdv (zk h a U s1) (zk h b U s1)
 |.tup es,U,s=>by exact(zaY h es U s).bind λx s1=>.rfl
 |.lst es,U,s=>by exact(zaY h es U s).bind λx s1=>.rfl
 |.newl es,U,s=>by exact(zaY h es U s).bind λx s1=>.rfl
 |.dict0 t,U,s=>by exact .rfl
 |.idx a i,U,s=>by exact(zk h a U s).bind λx s1=>(zk h i U s1).bind λy s2=>.rfl
 |.slc a l u,U,s=>by exact(zk h a U s).bind λx s1=>(zk h l U s1).bind λy s2=>znE λo=>(zk h u U s2).bind λz s3=>.rfl
 |.call f es,U,s=>by exact(zaY h es U s).bind λx s1=>h f x s1
 |.blt b es,U,s=>by exact(zaY h es U s).bind λx s1=>.rfl
 |.mth m o es,U,s=>by exact(zk h o U s).bind λx s1=>zfq λ_=>(zaY h es U s1).bind λy s2=>.rfl
 |.isi a ts,U,s=>by exact(zk h a U s).bind λx s1=>.rfl
 |.comp sl tg it k e,U,s=>by
  refine(ziy h it U s).bind λxs s1=>?_;have q:=λ(f g:PV->SO->R (Option PV)) (hfg:∀x s,RLe (f x s) (g x s))=>zc5 hfg xs s1;refine RLe.comp (zc5 (λx s2=>?_) xs s1)
  cases yU tg x _ with
  |none=>exact .rfl
  |some U1=>
   dsimp only;exact(zk h k U1 s2).bind λb s3=>zfq λq=>zdv ((zk h e U1 s3).bind λy s4=>.rfl) .rfl
 |.nope,U,s=>by exact .rfl
 |.frz a,U,s=>by exact(zk h a U s).bind λx s1=>.rfl
 |.dix D a,U,s=>by exact(zk h a U s).bind λx s1=>.rfl
 |.din a D,U,s=>by exact(zk h a U s).bind λx s1=>.rfl
 |.fld q a f,U,s=>by exact(zk h a U s).bind λx s1=>.rfl
 |.new q i es,U,s=>by
  refine(zaY h es U s).bind λx s1=>RLe.bind ?_ λv s2=>.rfl;rcases h i (.loc s1.length::x) (s1++[.ins q []])with e|e
  .rw[e];exact .inl (DW _)
  .rw[e];exact .rfl
 |.mcl q i m o es,U,s=>by exact(zk h o U s).bind λx s1=>zfq λ_=>(zaY h es U s1).bind λy s2=>h i (x::y) s2
theorem zaY{c d:Cl}(h:CLe c d):∀(e:Ces) (U:Env) (s:SO),RLe (evs c U s e) (evs d U s e)
 |.nil,U,s=>by exact .rfl
 |.cons e es,U,s=>by exact(zk h e U s).bind λx s1=>(zaY h es U s1).bind λy s2=>.rfl
theorem ziy{c d:Cl}(h:CLe c d):∀(e:Cit) (U:Env) (s:SO),RLe (evi c U s e) (evi d U s e)
 |.seq e,U,s=>by exact(zk h e U s).bind λx s1=>.rfl
 |.range1 a,U,s=>by exact(zk h a U s).bind λx s1=>.rfl
 |.range2 a b,U,s=>by exact(zk h a U s).bind λx s1=>(zk h b U s1).bind λy s2=>.rfl
 |.rangeD a b,U,s=>by exact(zk h a U s).bind λx s1=>(zk h b U s1).bind λy s2=>.rfl
 |.enum e,U,s=>by exact(zk h e U s).bind λx s1=>.rfl
 |.zip a b,U,s=>by exact(zk h a U s).bind λx s1=>(zk h b U s1).bind λy s2=>.rfl
 |.revl e,U,s=>by exact(zk h e U s).bind λx s1=>.rfl
 |.revr e,U,s=>by exact(zk h e U s).bind λx s1=>.rfl
 |.chars e,U,s=>by exact(zk h e U s).bind λx s1=>.rfl
end
mutual
theorem zqt{c d:Cl}(h:CLe c d):∀(x:Cs) (U:Env) (s:SO),FLe (ex c U s x) (ex d U s x)
 |.expr e,U,s=>by exact(zk h e U s).fl λx s1=>.rfl
 |.asg t e,U,s=>by exact(zk h e U s).fl λx s1=>.rfl
 |.six o i e,U,s=>by exact(zk h e U s).fl λx s1=>(zk h o U s1).fl λy s2=>(zk h i U s2).fl λz s3=>.rfl
 |.dput o i e,U,s=>by exact(zk h e U s).fl λx s1=>(zk h o U s1).fl λy s2=>(zk h i U s2).fl λz s3=>.rfl
 |.aug i o e,U,s=>by
  erw[ex,IC.xq0,IC.xq1]
  split
  .exact(zk h e U s).fl λx s1=>.rfl
  .exact .rfl
 |.ret e,U,s=>by exact(zk h e U s).fl λx s1=>.rfl
 |.ite k a b,U,s=>by exact(zk h k U s).fl λx s1=>zlL λq=>zgP (za9 h a U s1) (za9 h b U s1)
 |.for t it b,U,s=>by exact(ziy h it U s).fl λxs s1=>zeF (λU2 s2=>za9 h b U2 s2) xs U s1
 |.while k b,U,s=>by exact zfk (λU2 s2=>zk h k U2 s2) (λU2 s2=>za9 h b U2 s2) _ U s
 |.nope,U,s=>by exact .rfl
 |.mkr i D n es,U,s=>by
  refine(zk h n U s).fl λx s1=>?_;split
  .exact((zaY h es _ s1).bind λvs s2=>h _ vs s2).fl λv s3=>.rfl
  .exact .rfl
 |.sfl q o f e,U,s=>by exact(zk h e U s).fl λx s1=>(zk h o U s1).fl λy s2=>.rfl
theorem za9{c d:Cl}(h:CLe c d):∀(x:Css) (U:Env) (s:SO),FLe (exs c U s x) (exs d U s x)
 |.nil,U,s=>by exact .rfl
 |.cons x xs,U,s=>by
  erw[ex,IC.xq0,IC.xq1]
  rcases zqt h x U s with e|e
  .rw[e];exact .inl (DW _)
  .rw[e]
   cases ex d U s x with
   |nx U1 s1=>exact za9 h xs U1 s1
   |_=>exact .rfl
end
def zfd(T:Nat->Option Fn):∀k,CLe (yd T k) (yd T (k+1))
 |0,f,a,s=>.inl (DW _)
 |k+1,f,a,s=>by
  have h:=zfd T k;rw[yd,yd]
  cases T f with
  |none=>exact .rfl
  |some fn=>
   dsimp only;split
   .split
    .split
     .rcases za9 h fn.body (a.map AA++BI (fn.ns-fn.np) AD) []with e|e
      .rw[e];exact .inl (DW _)
      .rw[e];exact .rfl
     .exact .rfl
    .rcases za9 h fn.body (a.map AA++BI (fn.ns-fn.np) AD) s with e|e
     .rw[e];exact .inl (DW _)
     .rw[e];exact .rfl
   .exact .rfl
def zaH{T:Nat->Option Fn}{k:Nat}{f:Nat}{a:List PV}{s s':SO}{v:PV}(h:yd T k f a s=.ok v s'):∀j,yd T (k+j) f a s=.ok v s'
 |0=>h
 |j+1=>by
  have q:=zaH h j;rcases zfd T (k+j) f a s with e|e
  .rw[q]at e;cases e
  .rw[Dj]at e;rw[<-e];exact q
def ybj(call:Cl)(t:Tg)(b:Css)(xs:List PV)(U:Env)(st:SO):Fl:=forL t (λU2 st2=>exs call U2 st2 b) xs U st
def ya2(call:Cl)(c:Ce)(b:Css)(n:Nat)(U:Env)(st:SO):Fl:=yaH (λU2 st2=>ev call U2 st2 c) (λU2 st2=>exs call U2 st2 b) n U st
def ybp(call:Cl)(U0:Env)(t:Tg)(c e:Ce)(x:PV)(st2:SO):R (Option PV):=match yU t x U0 with
 |none=>.bad
 |some U1=>(ev call U1 st2 c).bind λb st3=>onO (yaY st3 b) λk=>cond k ((ev call U1 st3 e).bind λy st4=>.ok (AA y) st4) (.ok AD st3)
def yak(call:Cl)(U0:Env)(t:Tg)(c e:Ce)(xs:List PV)(st:SO):R (List PV):=ybU (ybp call U0 t c e) xs st
def yaT(f:Fl)(k:Env->SO->Fl):Fl:=
 match f with
 |.nx U st=>k U st
 |f=>f
def nxO(o:Option Env)(st:SO):Fl:=
 match o with
 |some U=>.nx U st
 |none=>.bad
def stO(U:Env)(o:Option SO):Fl:=
 match o with
 |some st=>.nx U st
 |none=>.bad
section
variable {call:Cl}{U:Env}{st:SO}
theorem x_for{t:Tg}{it:Cit}{b:Css}:ex call U st (.for t it b)=(evi call U st it).fl U λxs st1=>ybj call t b xs U st1:=rfl
def zmr{c:Ce}{b:Css}:ex call U st (.while c b)=ya2 call c b 100000 U st:=rfl
theorem v_comp{sl:List (Option Nat)}{t:Tg}{it:Cit}{c e:Ce}:ev call U st (.comp sl t it c e)=(evi call U st it).bind λxs st1=>yb5 (yak call (sl.map λo=>o.bind λj=>(U[j]?).join) t c e xs st1):=rfl
def zL{t:Tg}{b:Css}:ybj call t b [] U st=.nx U st:=rfl
def zF{t:Tg}{b:Css}{x:PV}{xs:List PV}{U1:Env}(h:yU t x U=AA U1):ybj call t b (x::xs) U st=yaN (exs call U1 st b) λU2 st2=>ybj call t b xs U2 st2:=by rw[ybj,forL,h];rfl
def zeJ{t:Tg}{b:Css}(P:Nat->Env->SO->Prop):∀(xs:List PV) (i:Nat) (U:Env) (st:SO),P i U st ->
  (∀(j:Nat) (x:PV) (U:Env) (st:SO),xs[j]?=AA x->P (i+j) U st->∃U1 U2 st2,yU t x U=AA U1/\exs call U1 st b=.nx U2 st2/\P (i+j+1) U2 st2) ->
  ∃U' st',ybj call t b xs U st=.nx U' st'/\P (i+xs.length) U' st'
 |[],i,U,st,h,_=>#[U,st,zL,h]
 |x::xs,i,U,st,h,k=>by
  let#[U1,U2,st2,e1,e2,h2]:=k 0 x U st rfl h;let#[U',st',e3,h3]:=zeJ P xs (i+1) U2 st2 h2 λj y U st hy hp=>by have:=k (j+1) y U st (by simpa using hy) (by rw[show i+(j+1)=i+1+j by lia];exact hp);rw[show i+(j+1)+1=i+1+j+1 by lia]at this;exact this
  refine#[U',st',?_,by rw[A4,show i+(xs.length+1)=i+1+xs.length by lia];exact h3];rw[zF e1,e2];exact e3
def ziG{c:Ce}{b:Css}{n:Nat}{x:PV}{st1 st2:SO}{U2:Env}(h:ev call U st c=.ok x st1)(ht:yaY st1 x=AA AC)(hb:exs call U st1 b=.nx U2 st2):ya2 call c b (n+1) U st=ya2 call c b n U2 st2:=by rw[ya2,yaH,h];erw[R.fl,ht,onF,cond_true,hb,yaN];rfl
def zga{c:Ce}{b:Css}{n:Nat}{x:PV}{st1:SO}(h:ev call U st c=.ok x st1)(ht:yaY st1 x=AA AB):ya2 call c b (n+1) U st=.nx U st1:=by rw[ya2,yaH,h];erw[R.fl,ht,onF,cond_false]
def zb0{U0:Env}{t:Tg}{c e:Ce}:yak call U0 t c e [] st=.ok [] st:=rfl
def zaq{U0:Env}{t:Tg}{c e:Ce}{x:PV}{xs:List PV}:yak call U0 t c e (x::xs) st=(ybp call U0 t c e x st).bind λo st1=>(yak call U0 t c e xs st1).bind λys st2=>.ok (yc8 o ys) st2:=rfl
def zaZ{U0:Env}{t:Tg}{c e:Ce}{f:PV->PV}:∀(xs:List PV),(∀x∈xs,ybp call U0 t c e x st=.ok (AA (f x)) st)->yak call U0 t c e xs st=.ok (xs.map f) st
 |[],_=>zb0
 |x::xs,h=>by rw[zaq,h x Aw];erw[R.bind];rw[zaZ xs λy hy=>h y (AS _ hy)];rfl
theorem xs_nil:exs call U st .nil=.nx U st:=rfl
theorem xs_cons{s:Cs}{ss:Css}:exs call U st (.cons s ss)=yaT (ex call U st s) λU1 st1=>exs call U1 st1 ss:=rfl
theorem x_asg{t:Tg}{e:Ce}:ex call U st (.asg t e)=(ev call U st e).fl U λv st1=>nxO (yU t v U) st1:=rfl
theorem x_expr{e:Ce}:ex call U st (.expr e)=(ev call U st e).fl U λ_ st1=>.nx U st1:=rfl
theorem x_ret{e:Ce}:ex call U st (.ret e)=(ev call U st e).fl U λv st1=>.rt v st1:=rfl
theorem x_ite{c:Ce}{a b:Css}:ex call U st (.ite c a b)=(ev call U st c).fl U λx st1=>onF (yaY st1 x) λk=>cond k (exs call U st1 a) (exs call U st1 b):=rfl
theorem x_six{o i e:Ce}:ex call U st (.six o i e)=(ev call U st e).fl U λv st1=>(ev call U st1 o).fl U λx st2=>(ev call U st2 i).fl U λy st3=>stO U (ybG st3 x y v):=rfl
def yfG(o:Option Nat)(k:Nat->Fl):Fl:=match o with
 |some j=>k j
 |none=>.bad
def zqC{i:Nat}{D:List (AQ×Nat)}{n:Ce}{es:Ces}:ex call U st (.mkr i D n es)=(ev call U st n).fl U λx st1=>yfG (mkV D (decide (i<U.length)) x) λj=>((evs call (U.set i AD) st1 es).bind λvs st2=>call j vs st2).fl (U.set i AD) λv st3=>.rt v st3:=rfl
def zf6{c:Nat}{o e:Ce}{f:AQ}:ex call U st (.sfl c o f e)=(ev call U st e).fl U λv st1=>(ev call U st1 o).fl U λx st2=>stO U (ybd c st2 x f v):=rfl
def zgu{o i e:Ce}:ex call U st (.dput o i e)=(ev call U st e).fl U λv st1=>(ev call U st1 o).fl U λx st2=>(ev call U st2 i).fl U λy st3=>stO U (ybs st3 x y v):=rfl
def zqM{i:Nat}{o:BOp}{e:Ce}{x:PV}(h:U[i]?=AA (AA x)):ex call U st (.aug i o e)=(ev call U st e).fl U λy st1=>nxO ((ybZ o x y).map λz=>U.set i (AA z)) st1:=by
 rw[IC.xr4,h];show (ev call U st e).fl U _=_;refine congrArg _ (funext λy=>funext λst1=>?_)
 cases ybZ o x y<;>rfl
end
end IC
namespace L2
open PySem PySem.Spec PyProof.Rows IC
section
variable (S:Se)(K:AE)
def yfr{D E:Type}(B:AI->Prop)(A:Ph)(H:Hp)(Rel:Ph->Hp->D->E->Prop)(r:R D)(Q:E->Hp->Prop):Prop:=
 match r with
 |.ok v st'=>∀x H' A',Step A H A' H'->yH K S.cl B A' H' st'->Rel A' H' v x->Q x H'
 |_=>False
def tE0(c:Ce):TE:=λC H Q=>∃B A st U,yH K S.cl B A H st/\yZ K S.cl B A H U C/\yfr S K B A H (λA H=>yh K S.cl B A H) (ev S.call U st c) Q
def tT0(c:Ce):TT:=λC H Q=>∃B A st U,yH K S.cl B A H st/\yZ K S.cl B A H U C/\yfr S K B A H RB (ybf (ev S.call U st c)) Q
def tG0(t:Tg):TG:=λv C H Q=>∃B A st U w U',yH K S.cl B A H st/\yZ K S.cl B A H U C/\yh K S.cl B A H w v/\yU t w U=AA U'/\∀C',yZ K S.cl B A H U' C'->Q C' H
end
section
variable {S:Se}{X:Cx}{K:AE}{cl:Nat->AI}{A:St}{B:AI->Prop}{E E1:Ph}{H H1:Hp}{st:SO}{U:IC.Env}{pos p p2 px:C6}{a b c o tg l elt iter:AV}{ca cb cc ce:Ce}{ci:Cit}{ct:Tg}
def zm6(hK:X.K=K)(h:PE X a (tE S X ca)):PE X a (tE0 S K ca):=by
 subst hK;refine h.imp λA H Q kq=>?_;let#[B,E,st,U,rs,re,q]:=kq;refine #[B,E,st,U,rs,re,?_]
 cases e:ev S.call U st ca with
 |ok v st'=>rw[e]at q;exact q
 |exc k st'=>rw[e]at q;exact q.elim
 |bad=>rw[e]at q;exact q
def zl7(hK:X.K=K)(h:PT X a (tTs S X ca)):PTs X [a] (tT0 S K ca):=by
 subst hK;refine znq (h.imp λA H Q kq=>?_);let#[B,E,st,U,rs,re,q]:=kq;refine #[B,E,st,U,rs,re,?_]
 cases e:ybf (ev S.call U st ca)with
 |ok v st'=>rw[e]at q;exact q
 |exc k st'=>rw[e]at q;exact q.elim
 |bad=>rw[e]at q;exact q
def zkD:PTs X [] (tT0 S K (.cst (.bl AC))):=λC s A H Q I #[B,E,st,U,rs,re,q]=>by refine zm8 C s A H Q I ?_;erw[ev,ybf,R.bind,yaY,onO]at q;exact q AC H E .rfl rs rfl
def zmN(hK:X.K=K)(h:PG X tg (tG S X ct)):PG X tg (tG0 S K ct):=by subst hK;exact h
theorem ybV.skip{k:Bool}{D y:AI}{u:HO}{xs:List V}(hD:B D)(r:ybV K B E H k y xs):ybV K B E (L2.upd H D u) k y xs:=by
 rcases r with⟨r,b,n⟩|r
 .exact .inl #[by rw[zm (show y≠D from λz=>b (z ▸ hD))];exact r,b,n]
 .exact .inr r
mutual
theorem yh.skip{D:AI}{u:HO}(hD:B D):∀(v:PV) (x:V),yh K cl B E H v x->yh K cl B E (L2.upd H D u) v x
 |.non,x,h=>by erw[yh]at h ⊢;exact h
 |.bl b,x,h=>by erw[yh]at h ⊢;exact h
 |.int i,x,h=>by erw[yh]at h ⊢;exact h
 |.str y,x,h=>by erw[yh]at h ⊢;exact h
 |.tp k vs,x,h=>by erw[yh]at h ⊢;let#[y,xs,e,r,l]:=h;exact#[y,xs,e,r.skip hD,yp.skip hD vs xs l]
 |.lst vs,x,h=>by erw[yh]at h ⊢;let#[y,xs,e,#[r,b,n],l]:=h;exact#[y,xs,e,#[by rw[zm (show y≠D from λz=>b (z ▸ hD))];exact r,b,n],yp.skip hD vs xs l]
 |.loc n,x,h=>by erw[yh]at h ⊢;exact h
 |.exn c,x,h=>by erw[yh]at h ⊢;let#[y,e,r,b,n]:=h;exact#[y,e,by rw[zm (show y≠D from λz=>b (z ▸ hD))];exact r,b,n]
 |.scr vs,x,h=>by
  erw[yh]at h ⊢;let#[y,xs,e,r,l]:=h;refine#[y,xs,e,?_,yp.skip hD vs xs l];rcases r with⟨r,b,n⟩|r
  .refine .inl #[?_,b,n];have ne:y≠D:=λz=>b (z ▸ hD);rcases r with r|⟨o,r⟩
   .exact .inl (by rw[zm ne];exact r)
   .exact .inr #[o,by rw[zm ne];exact r]
  .exact .inr r
theorem yp.skip{D:AI}{u:HO}(hD:B D):∀(v:List PV) (x:List V),yp K cl B E H v x->yp K cl B E (L2.upd H D u) v x
 |[],x,h=>by erw[yp]at h ⊢;exact h
 |v::vs,x,h=>by erw[yp]at h ⊢;let#[y,ys,e,r,l]:=h;exact#[y,ys,e,yh.skip hD v y r,yp.skip hD vs ys l]
end
theorem DK.skip{D:AI}{u:HO}(hD:B D):∀{kvs:List (PV×PV)} {ks:List (Key×V)},DK K cl B E H kvs ks->DK K cl B E (L2.upd H D u) kvs ks
 |[],ks,h=>h
 |(k,v)::r,ks,h=>by let#[q,x,t,e,m,rv,l]:=h;exact#[q,x,t,e,m,rv.skip hD,DK.skip hD l]
theorem DT.skip{D:AI}{u:HO}(hD:B D):∀{kvs:List (PV×PV)} {ks:List (List Key×V)},DT K cl B E H kvs ks->DT K cl B E (L2.upd H D u) kvs ks
 |[],ks,h=>h
 |(k,v)::r,ks,h=>by let#[q,x,t,e,m,rv,l]:=h;exact#[q,x,t,e,m,rv.skip hD,DT.skip hD l]
theorem FS.skip{D:AI}{u:HO}(hD:B D):∀{kvs:List (AQ×PV)} {ks:List (AQ×V)},FS K cl B E H kvs ks->FS K cl B E (L2.upd H D u) kvs ks
 |[],ks,h=>h
 |(k,v)::r,ks,h=>by let#[x,t,e,rv,l]:=h;exact#[x,t,e,rv.skip hD,FS.skip hD l]
theorem yH.skip{D:AI}{u:HO}(hD:B D)(rs:yH K cl B E H st):yH K cl B E (L2.upd H D u) st:=by
 refine#[rs.len,rs.inj,λn y e=>?_,rs.liv,rs.nb,λy h=>?_]
 .let#[o,q,r]:=rs.obj n y e;have ne:y≠D:=λz=>rs.nb y (A6 e) (z ▸ hD);refine#[o,q,?_]
  cases o with
  |lst vs=>
   let#[xs,hx,l]:=r;exact#[xs,by rw[zm ne];exact hx,l.skip hD]
  |dct t kvs=>
   cases t with
   |false=>
    let#[xs,hx,l]:=r;exact#[xs,by rw[zm ne];exact hx,l.skip hD]
   |true=>
    let#[xs,hx,l]:=r;exact#[xs,by rw[zm ne];exact hx,l.skip hD]
  |ins c fs=>
   let#[ks,#[dx,hx],l]:=r;exact#[ks,#[dx,by rw[zm ne];exact hx],l.skip hD]
  |dead=>exact r.elim
 .by_cases z:y=D
  .subst z;exact#[u,zu]
  .let#[w,e]:=rs.dom y h;exact#[w,by rw[zm z];exact e]
theorem yZ.skip{D:AI}{u:HO}(hD:B D)(re:yZ K cl B E H U A):yZ K cl B E (L2.upd H D u) U A:=#[re.len,λi v e=>by let#[x,h,q]:=re.get i v e;exact#[x,h,q.skip hD]]
def Bx(B:AI->Prop)(D:AI):AI->Prop:=λy=>B y \/ y=D
def zjg{D:AI}(hn:H D=AD):∀y,Bx B D y->B y \/ H y=none:=λy z=>z.elim .inl λq=>.inr (q ▸ hn)
theorem yh.more{D:AI}(hn:H D=AD){v:PV}{x:V}(h:yh K cl B E H v x):yh K cl (Bx B D) E H v x:=h.moreB (zjg hn)
theorem yp.more{D:AI}(hn:H D=AD){v:List PV}{x:List V}(h:yp K cl B E H v x):yp K cl (Bx B D) E H v x:=h.moreB (zjg hn)
mutual
theorem yh.less{D:AI}:∀(v:PV) (x:V),yh K cl (Bx B D) E H v x->yh K cl B E H v x
 |.non,x,h=>by erw[yh]at h ⊢;exact h
 |.bl b,x,h=>by erw[yh]at h ⊢;exact h
 |.int i,x,h=>by erw[yh]at h ⊢;exact h
 |.str y,x,h=>by erw[yh]at h ⊢;exact h
 |.tp k vs,x,h=>by
  erw[yh]at h ⊢;let#[y,xs,e,r,l]:=h;refine#[y,xs,e,?_,yp.less vs xs l];rcases r with⟨r,b,n⟩|r
  .exact .inl #[r,λz=>b (.inl z),n]
  .exact .inr r
 |.lst vs,x,h=>by erw[yh]at h ⊢;let#[y,xs,e,#[r,b,n],l]:=h;exact#[y,xs,e,#[r,λz=>b (.inl z),n],yp.less vs xs l]
 |.loc n,x,h=>by erw[yh]at h ⊢;exact h
 |.exn c,x,h=>by erw[yh]at h ⊢;let#[y,e,r,b,n]:=h;exact#[y,e,r,λz=>b (.inl z),n]
 |.scr vs,x,h=>by
  erw[yh]at h ⊢;let#[y,xs,e,r,l]:=h;refine#[y,xs,e,?_,yp.less vs xs l];rcases r with⟨r,b,n⟩|r
  .exact .inl #[r,λz=>b (.inl z),n]
  .exact .inr r
theorem yp.less{D:AI}:∀(v:List PV) (x:List V),yp K cl (Bx B D) E H v x->yp K cl B E H v x
 |[],x,h=>by erw[yp]at h ⊢;exact h
 |v::vs,x,h=>by erw[yp]at h ⊢;let#[y,ys,e,r,l]:=h;exact#[y,ys,e,yh.less v y r,yp.less vs ys l]
end
theorem DK.more{D:AI}(hn:H D=AD):∀{kvs:List (PV×PV)} {ks:List (Key×V)},DK K cl B E H kvs ks->DK K cl (Bx B D) E H kvs ks
 |[],ks,h=>h
 |(k,v)::r,ks,h=>by let#[q,x,t,e,m,rv,l]:=h;exact#[q,x,t,e,m,rv.more hn,DK.more hn l]
theorem DT.more{D:AI}(hn:H D=AD):∀{kvs:List (PV×PV)} {ks:List (List Key×V)},DT K cl B E H kvs ks->DT K cl (Bx B D) E H kvs ks
 |[],ks,h=>h
 |(k,v)::r,ks,h=>by let#[q,x,t,e,m,rv,l]:=h;exact#[q,x,t,e,m,rv.more hn,DT.more hn l]
theorem FS.more{D:AI}(hn:H D=AD):∀{kvs:List (AQ×PV)} {ks:List (AQ×V)},FS K cl B E H kvs ks->FS K cl (Bx B D) E H kvs ks
 |[],ks,h=>h
 |(k,v)::r,ks,h=>by let#[x,t,e,rv,l]:=h;exact#[x,t,e,rv.more hn,FS.more hn l]
theorem DK.less{D:AI}:∀{kvs:List (PV×PV)} {ks:List (Key×V)},DK K cl (Bx B D) E H kvs ks->DK K cl B E H kvs ks
 |[],ks,h=>h
 |(k,v)::r,ks,h=>by let#[q,x,t,e,m,rv,l]:=h;exact#[q,x,t,e,m,rv.less,DK.less l]
theorem DT.less{D:AI}:∀{kvs:List (PV×PV)} {ks:List (List Key×V)},DT K cl (Bx B D) E H kvs ks->DT K cl B E H kvs ks
 |[],ks,h=>h
 |(k,v)::r,ks,h=>by let#[q,x,t,e,m,rv,l]:=h;exact#[q,x,t,e,m,rv.less,DT.less l]
theorem FS.less{D:AI}:∀{kvs:List (AQ×PV)} {ks:List (AQ×V)},FS K cl (Bx B D) E H kvs ks->FS K cl B E H kvs ks
 |[],ks,h=>h
 |(k,v)::r,ks,h=>by let#[x,t,e,rv,l]:=h;exact#[x,t,e,rv.less,FS.less l]
theorem yH.less{D:AI}(rs:yH K cl (Bx B D) E H st):yH K cl B E H st:=by
 refine#[rs.len,rs.inj,λn y e=>?_,rs.liv,λy h z=>rs.nb y h (.inl z),λy h=>rs.dom y (.inl h)];let#[o,q,r]:=rs.obj n y e;refine#[o,q,?_]
 cases o with
 |lst vs=>let#[xs,hx,l]:=r;exact#[xs,hx,l.less]
 |dct t kvs=>cases t<;>(let#[xs,hx,l]:=r;exact#[xs,hx,l.less])
 |ins c fs=>let#[ks,hx,l]:=r;exact#[ks,hx,l.less]
 |dead=>exact r.elim
theorem yH.more{D:AI}{u:HO}(hn:H D=AD)(rs:yH K cl B E H st):yH K cl (Bx B D) E (L2.upd H D u) st:=by
 have nD:AA D∉E:=λz=>by let#[w,e]:=rs.there z;rw[hn]at e;cases e
 have s:Step E H E (L2.upd H D u):=.upd hn;have rs':=rs.upd (o:=u) hn;refine#[rs.len,rs.inj,λn y e=>?_,rs.liv,λy h z=>z.elim (rs.nb y h) λq=>nD (q ▸ h),λy h=>?_]
 .let#[o,q,r]:=rs.obj n y e;have ne:y≠D:=λz=>nD (z ▸ A6 e);have hD:Bx B D D:=.inr rfl;refine#[o,q,?_]
  cases o with
  |lst vs=>let#[xs,hx,l]:=r;exact#[xs,by rw[zm ne];exact hx,(l.more hn).skip hD]
  |dct t kvs=>
   cases t with
   |false=>let#[xs,hx,l]:=r;exact#[xs,by rw[zm ne];exact hx,(l.more hn).skip hD]
   |true=>let#[xs,hx,l]:=r;exact#[xs,by rw[zm ne];exact hx,(l.more hn).skip hD]
  |ins c fs=>let#[ks,#[dx,hx],l]:=r;exact#[ks,#[dx,by rw[zm ne];exact hx],(l.more hn).skip hD]
  |dead=>exact r.elim
 .rcases h with h|h
  .exact rs'.dom y h
  .subst h;exact#[u,zu]
theorem yZ.more{D:AI}{u:HO}(hn:H D=AD)(re:yZ K cl B E H U A):yZ K cl (Bx B D) E (L2.upd H D u) U A:=#[re.len,λi v e=>by let#[x,h,q]:=re.get i v e;exact#[x,h,(q.more hn).skip (.inr rfl)]]
def yaz:Tg->List (Option Nat)->Bool
 |.n i,sl=>decide (sl[i]?=AA AD)
 |.t l,sl=>l.all λi=>decide (sl[i]?=AA AD)
def zgr:∀(l:List Nat) (vs:List PV) (U:IC.Env) (j:Nat),j∉l->((l.zip vs).foldl (λU p=>U.set p.1 (AA p.2)) U)[j]?=U[j]?
 |[],vs,U,j,h=>by simp
 |i::is,[],U,j,h=>by simp
 |i::is,v::vs,U,j,h=>by
  erw[ET,Dx];rw[zgr is vs _ j λz=>h (AS _ z),AO]
  rintro rfl
  exact h Aw
def zgJ:∀(l:List Nat) (vs:List PV) (U:IC.Env),((l.zip vs).foldl (λU p=>U.set p.1 (AA p.2)) U).length=U.length
 |[],vs,U=>by simp
 |i::is,[],U=>by simp
 |i::is,v::vs,U=>by erw[ET,Dx];rw[zgJ is vs,CN]
theorem yZ.untgt{sl:List (Option Nat)}{U0 U1:IC.Env}{v:PV}(hf:yaz ct sl=AC)(h0:∀(i:Nat),sl[i]?=AA AD->U0[i]?=AA AD)(hb:yU ct v U0=AA U1)(re:yZ K cl B E H U1 A):yZ K cl B E H U0 A:=by
 cases ct with
 |n i=>
  cases hb
  erw[yaz,decide_eq_true_eq]at hf;refine#[by rw[<-re.len,CN],λj w e=>re.get j w ?_];rw[AO]
  .exact e
  .rintro rfl
   rw[h0 _ hf]at e;cases e
 |t l=>
  cases v with
  |tp k vs=>
   erw[yU]at hb;split at hb
   .cases hb
    erw[yaz,Bp,decide_eq_true_eq]at hf;refine#[by rw[<-re.len,zgJ],λj w e=>re.get j w ?_];rw[zgr]
    .exact e
    .intro z;rw[h0 _ (hf j z)]at e;cases e
   .cases hb
  |_=>cases hb
theorem yZ.inn{sl:List (Option Nat)}(re:yZ K cl B E H U A):yZ K cl B E H (sl.map λo=>o.bind λj=>(U[j]?).join) (L2.inn sl A):=by
 unfold L2.inn;refine#[by simp,λi v e=>?_];rw[CK]at e ⊢
 cases q:sl[i]? with
 |none=>rw[q]at e;cases e
 |some o=>
  rw[q]at e
  cases o with
  |none=>cases e
  |some j=>
   erw[DI,Bb,Option.some.injEq]at e ⊢
   cases q2:U[j]? with
   |none=>rw[q2]at e;cases e
   |some w=>
    rw[q2]at e;erw[G5]at e;subst e;let#[x,hx,rv]:=re.get j v q2;exact#[x,by rw[hx];rfl,rv]
def zrE:1000000<sizeLine:=by rw[Dq];decide
def zob{F:Type}{o:Option Bool}{k:Bool->R F}{z:F}{s:SO}(h:onO o k=.ok z s):∃b,o=AA b/\k b=.ok z s:=by
 cases o with
 |none=>cases h
 |some b=>exact#[b,rfl,h]
def zbn{F G:Type}{r:R F}{k:F->SO->R G}{z:G}{s:SO}(h:r.bind k=.ok z s):∃a s1,r=.ok a s1/\k a s1=.ok z s:=by
 cases r with
 |ok a s1=>exact#[a,s1,rfl,h]
 |exc c s=>cases h
 |bad=>cases h
def zjR{Rel:Ph->Hp->PV->V->Prop}{r:R (List PV)}{Q:VK}(h:Run S X A B E H Rel (yb5 r) Q):∃zs st5,r=.ok zs st5/\zs.length<=1000000/\∀x H' E',Step E H E' H'->yH X.K S.cl B E' H' st5->Rel E' H' (.lst zs) x->Q x H':=by
 cases r with
 |ok zs st5=>
  by_cases hz:zs.length<=1000000
  .simp only[yb5,if_pos hz]at h;exact#[zs,st5,rfl,hz,h]
  .simp only[yb5,if_neg hz]at h;exact h.elim
 |exc k s=>exact h.elim
 |bad=>exact h.elim
def zhm{call:Nat->List PV->SO->R PV}{U0:IC.Env}{xs rest:List PV}{i:Nat}{v:PV}{st2 st5:SO}(hv:xs[i]?=AA v)(ec:yak call U0 ct cc ce (xs.drop i) st2=.ok rest st5):
  ∃U1 k st6,yU ct v U0=AA U1/\ybf (ev call U1 st2 cc)=.ok k st6/\((k=AB/\yak call U0 ct cc ce (xs.drop (i+1)) st6=.ok rest st5) \/
   (k=AC/\∃y st7 rest',ev call U1 st6 ce=.ok y st7/\yak call U0 ct cc ce (xs.drop (i+1)) st7=.ok rest' st5/\rest=y::rest')):=by
 let#[hi,e]:=BY.1 hv;rw[EY hi,e,zaq]at ec;let#[o,st3,e1,ec]:=zbn ec;let#[rest',st4,e2,ec]:=zbn ec;injection ec with q1 q2;subst q1 q2;unfold ybp at e1
 cases eb:yU ct v U0 with
 |none=>rw[eb]at e1;cases e1
 |some U1=>
  rw[eb]at e1;let#[bv,st6,e3,e1]:=zbn e1;let#[k,e4,e1]:=zob e1;refine#[U1,k,st6,rfl,by rw[e3];erw[ybf,R.bind,e4,onO],?_]
  cases k with
  |false=>cases e1;exact .inl #[rfl,e2]
  |true=>
   let#[y,st7,e5,e1]:=zbn e1
   cases e1
   exact .inr #[rfl,y,_,rest',e5,e2,rfl]
def ycF(S:Se)(K:AE)(B:AI->Prop)(D:AI)(E1:Ph)(H1:Hp)(U0:IC.Env)(cB:List PV->SO->R (List PV))(zs:List PV)(st5:SO)(xs:List PV)(Ac:St)(ys:List V)(H2:Hp):Prop:=
 ∃E2 st2 vs rest,Step E1 H1 E2 H2/\H2 D=AA (.lst ys)/\AA D∉E2/\yH K S.cl (Bx B D) E2 H2 st2/\yZ K S.cl (Bx B D) E2 H2 U0 Ac/\yp K S.cl (Bx B D) E2 H2 vs ys/\cB xs st2=.ok rest st5/\vs++rest=zs
theorem stays{D:AI}{E5:Ph}{H5:Hp}{u:HO}(s:Step E H E5 H5)(n:AA D∉E)(e:H D=AA u):AA D∉E5/\H5 D=AA u:=by
 refine#[λz=>?_,s.keep D _ n e];rcases s.new D z with q|q
 .exact n q
 .rw[e]at q;cases q
theorem ycF.skip{D:AI}{cB:List PV->SO->R (List PV)}{zs:List PV}{st5:SO}{xs:List PV}{E2 E5:Ph}{H2 H5:Hp}{U0 U1:IC.Env}{A4:St}{st6:SO}{vs rest:List PV}{ys:List V}{v:PV}(s2:Step E1 H1 E2 H2)(s5:Step E2 H2 E5 H5)(nD:AA D∉E2)(hD:H2 D=AA (.lst ys))
  (rs:yH K S.cl (Bx B D) E5 H5 st6) (hf:yaz ct (sl:List (Option Nat))=AC) (h0:∀(i:Nat),sl[i]?=AA AD->U0[i]?=AA AD) (hb:yU ct v U0=AA U1) (re:yZ K S.cl (Bx B D) E2 H2 U1 A4) (l:yp K S.cl (Bx B D) E2 H2 vs ys) (ec:cB xs st6=.ok rest st5) (ez:vs++rest=zs):
  ycF S K B D E1 H1 U0 cB zs st5 xs A4 ys H5:=#[E5,st6,vs,rest,s2.trans s5,(stays s5 nD hD).2,(stays s5 nD hD).1,rs,yZ.untgt hf h0 hb (re.step s5),l.step s5,ec,ez]
theorem ycF.put{D:AI}{cB:List PV->SO->R (List PV)}{zs:List PV}{st5:SO}{xs:List PV}{E2 E5:Ph}{H2 H5:Hp}{U0 U1:IC.Env}{A4:St}{st7:SO}{vs rest:List PV}{ys:List V}{v y:PV}{y':V}(hn:H1 D=AD)(s2:Step E1 H1 E2 H2)(s5:Step E2 H2 E5 H5)(nD:AA D∉E2)(hD:H2 D=AA (.lst ys))
  (rs:yH K S.cl (Bx B D) E5 H5 st7) (ry:yh K S.cl (Bx B D) E5 H5 y y') (hf:yaz ct (sl:List (Option Nat))=AC) (h0:∀(i:Nat),sl[i]?=AA AD->U0[i]?=AA AD) (hb:yU ct v U0=AA U1) (re:yZ K S.cl (Bx B D) E2 H2 U1 A4) (l:yp K S.cl (Bx B D) E2 H2 vs ys) (ec:cB xs st7=.ok rest st5) (ez:vs++y::rest=zs):
  H5 D=AA (.lst ys)/\ycF S K B D E1 H1 U0 cB zs st5 xs A4 (ys++[y']) (L2.upd H5 D (.lst (ys++[y']))):=by
 let#[n5,h5]:=stays s5 nD hD;have hBD:Bx B D D:=.inr rfl;have s16:=s2.trans s5;exact#[h5,E5,st7,vs++[y],rest,#[λb o n q=>by rw[zm (zq q hn)];exact s16.keep b o n q,s16.len,s16.pre,s16.new],zu,n5,rs.skip hBD,(yZ.untgt hf h0 hb (re.step s5)).skip hBD,
  ((l.step s5).append (by erw[yp];exact#[y',[],rfl,ry,rfl])).skip hBD,ec,by rw[BJ];exact ez]
def zhY{sl:List (Option Nat)}(i:Nat)(q:sl[i]?=AA AD):(sl.map λo=>o.bind λj=>(U[j]?).join)[i]?=AA none:=by rw[CK,q];rfl
def zha{sl:List (Option Nat)}(hf:yaz ct sl=AC){J:It}{xs zs:List PV}{st1 st5:SO}{Q:VK}(rs1:yH X.K S.cl B E H st1)(re1:yZ X.K S.cl B E H U A)(dr:RD S X B E H xs J){D:AI}(hD:H D=AD)
  (e:yak S.call (sl.map λo=>o.bind λj=>(U[j]?).join) ct cc ce xs st1=.ok zs st5) (hz:zs.length<=1000000) (h1:∀x H' E',Step E H E' H'->yH X.K S.cl B E' H' st5->RV S X B E' H' (.lst zs) x->Q x H'):
  ∃W:Nat->Nat->St->List V->Hp->Prop,(∃m,W 0 m (inn sl A) [] (L2.upd H D (.lst [])))/\ycB J D (tG0 S X.K ct) (tT0 S X.K cc) (tE0 S X.K ce) W (Q (.ref D)):=by
 have nB:¬B D:=rs1.nB hD;have nD:AA D∉E:=λz=>by let#[w,e]:=rs1.there z;rw[hD]at e;cases e
 have r0:yZ X.K S.cl (Bx B D) E (L2.upd H D (.lst [])) (sl.map λo=>o.bind λj=>(U[j]?).join) (inn sl A):=(yZ.inn re1).more hD;have h0:=zhY (U:=U) (sl:=sl);generalize (sl.map λo=>o.bind λj=>(U[j]?).join)=U0 at *;refine#[λi m Ac ys H2=>i+m=xs.length/\ycF S X.K B D E H U0 (yak S.call U0 ct cc ce) zs st5 (xs.drop i) Ac ys H2,
  #[xs.length,by lia,E,st1,[],zs,.upd hD,zu,nD,rs1.more hD,r0,by erw[yp],by simpa using e,rfl],?_]
 rintro i m Ac ys H2 ⟨hm,E2,st2,vs,rest,s2,hD2,nD2,rs2,re2,l2,ec,ez⟩
 refine#[hD2,?_]
 by_cases hi:i<xs.length
 .have hzl:=congrArg Ch ez;rw[Al,l2.length]at hzl;refine .inr #[dr.go i E2 H2 s2 hi,ER () zrE,λA' ys' H'=>ycF S X.K B D E H U0 (yak S.call U0 ct cc ce) zs st5 (xs.drop (i+1)) A' ys' H',λA' ys' H' q=>#[m-1,by lia,by lia,q],λx H3 hy=>?_];let#[v,hv,rv,kk]:=dr.yld i E2 H2 st2 x H3 (Bx B D) (λy z=>z.elim .inl λq=>.inr (q ▸ hD)) s2 rs2 hi hy;have s3:Step E2 H2 E2 H3:=#[λb o _ e=>kk b o e,AT _,λ_ _ _ e=>e,λ_ h=>.inl h];let#[U1,k,st6,eb,et,q]:=zhm hv ec;refine#[Bx B D,E2,st2,_,v,U1,rs2.same kk,re2.step s3,rv,eb,λA4 re4=>#[Bx B D,E2,st2,U1,rs2.same kk,re4,?_]];rw[et]
  rintro k' H5 E5 s5 rs5 rfl
  rcases q with⟨rfl,e2⟩|⟨rfl,y,st7,rest',e5,e2,rfl⟩
  .exact ycF.skip (s2.trans s3) s5 nD2 (kk D _ hD2) rs5 hf h0 eb re4 (l2.step s3) e2 ez
  .refine#[Bx B D,E5,st6,U1,rs5,re4.step s5,?_];rw[e5];intro y' H6 E6 s6 rs6 ry;exact ycF.put hD (s2.trans s3) (s5.trans s6) nD2 (kk D _ hD2) rs6 ry hf h0 eb re4 (l2.step s3) e2 ez
 .have ei:i=xs.length:=by lia
  subst ei;rw[G4]at ec
  cases ec
  refine .inl #[dr.stop E2 H2 s2,h1 (.ref D) H2 E2 s2 rs2.less ?_];erw[yh];exact#[D,ys,rfl,#[hD2,nB,nD2],by rw[<-ez,Aj];exact l2.less]
def zjb{sl:List (Option Nat)}(hf:yaz ct sl=AC){H:Hp}{Q:VK}(h:tE S X (.comp sl ct ci cc ce) A H Q):yds sl (tI S X ci) (tG0 S X.K ct) (tT0 S X.K cc) (tE0 S X.K ce) A H Q:=by let#[B,E,st,U,rs,re,h]:=h;rw[v_comp]at h;refine#[B,E,st,U,rs,re,(Run.bind h).mono λJ H1 kq=>?_];let#[xs,st1,E1,s1,rs1,dr,h1]:=kq;refine λD hD=>?_;let#[zs,st5,e,hz,h1]:=zjR h1;exact zha hf rs1 (re.step s1) dr hD e hz h1
def zlS{sc:Bq}{NC:List AQ}{sl:List (Option Nat)}{ifs:List AV}(hc:X.calm=AC)(O:yaA X sc NC sl)(hf:yaz ct sl=AC)(hi:PI X tg iter (tI S X ci))(hg:∀j,PG (cxC X sc NC j) tg (tG0 S X.K ct))
  (ht:∀j,PTs (cxC X sc NC j) ifs (tT0 S X.K cc)) (he:∀j,PE (cxC X sc NC j) elt (tE0 S X.K ce)) (hs:∀x,foldedSetIterable iter X.env x=pure x:=by intro _;rfl):
  PE X (.ListComp elt [#[tg,iter,ifs,0]] sc pos) (tE S X (.comp sl ct ci cc ce)):=
 (zmi hc O hi hg ht he hs).imp λA H Q h=>zjb hf h
end
def spI(K:AE)(cl:Nat->AI)(call:Nat->List PV->SO->R PV)(f:Nat):Sp:=λvs H Q E=>∃B A st args,yH K cl B A H st/\yp K cl B A H args vs/\match call f args st with
 |.ok v st'=>∀x H' A',Step A H A' H'->yH K cl B A' H' st'->yh K cl B A' H' v x->Q x H'
 |.exc c st'=>∀H' A',Step A H A' H'->yH K cl B A' H' st'->E (.ref (cl c)) AD H'
 |.bad=>False
section
variable {S:Se}{X:Cx}{k:Nat}{f:AI}{fd:BQ}{ps ks:List AQ}{sp:Sp}{dvs:List V}{ds:List AG}{x:AQ}{p pos:C6}{e:AV}{es:List AV}{t tk:TA}{CX:CXT}{D:St}{H:Hp}
def zdl{G:List (AI×CP)}{s:AJ}{Q:VK}{us:List AG}{vs:List V}{E:XK}(F:yaW X.prog X.w X.K X.mg X.base CX k f fd ps sp)(hr:yaI k X.A)(hb:Binds X.K fd ps ds)(hd:Vals dvs ds)
  (I:Inv X G D H s) (r:Vals vs us) (h:sp (vs++dvs) H Q E) (hx:∀e s',CX X.stack H s E e s'->X.xe e s'):A8 (model X.prog X.w) X.A (call (.ref f) us) (EP X G D Q) X.xe s:=by
 have r2:Vals (vs++dvs) (us++ds):=r.append hd;have hl:(us++ds).length=ps.length:=by rw[<-r2.length];exact F.len _ _ _ _ h
 refine Gy (EB (F.run X.A X.stack s H #[us,[]] (us++ds) (vs++dvs) Q E hr I.env0 (hb s us I.kIn hl) r2 h) λr s' hq=>?_)
 cases r with
 |error e=>exact hx e s' hq
 |ok fl=>
  cases fl with
  |ret u=>exact I.after hq
  |next=>exact Bt hq
  |brk=>exact Bt hq
  |cont=>exact Bt hq
def ycO(CX:CXT)(X:Cx)(sp:Sp)(dvs:List V)(t:TA):TE:=λD H Q=>t D H λvs H1=>∃E:XK,sp (vs++dvs) H1 Q E/\∀G s e s',Inv X G D H1 s->CX X.stack H1 s E e s'->X.xe e s'
def zk0(F:yaW X.prog X.w X.K X.mg X.base CX k f fd ps sp)(hr:yaI k X.A)(hg:Gl X x)(hm:X.mg x=AA (.ref f))(hk:BH X.K (.ref f)=AC)(hb:Binds X.K fd ps ds)(hd:Vals dvs ds)
  (ha:PA X (e::es) t) (hdb:(x==("__debug__":AQ))=false:=by decide) (he:starEach (e::es) X.env=(AB,eval e X.env)::starEach es X.env:=by rfl) (hpl:(backTo pos (starEach es X.env)).any (·.1)=false:=by rfl):
  PE X (.Call (.Name x p) (e::es) [] pos) (ycO CX X sp dvs t):=by intro G s D H Q I h;refine Bf (zdN I hg hm ?_ hdb);refine DJ (h₀:=X.base) I.ok.mod.kin hk (thn (ha pos G s D H _ I h) λus s1 kq=>?_) he hpl;let#[vs,H1,I1,r,E,q,hx]:=kq;refine #[I1.kIn,?_];exact zdl F hr hb hd I1 r q λe s' c=>hx G s1 e s' I1 c
def zhN(F:yaW X.prog X.w X.K X.mg X.base CX k f fd ps sp)(hr:yaI k X.A)(hg:Gl X x)(hm:X.mg x=AA (.ref f))(hk:BH X.K (.ref f)=AC)(hb:Binds X.K fd ps ds)(hd:Vals dvs ds)
  (hdb:(x==("__debug__":AQ))=false:=by decide):PE X (.Call (.Name x p) [] [] pos) (ycO CX X sp dvs ydD):=by intro G s D H Q I h;let#[E,q,hx]:=h;refine Bf (zdN I hg hm ?_ hdb);exact F8 I.kIn hk (zdl F hr hb hd I .nil q λe s' c=>hx G s e s' I c)
variable {B:AI->Prop}{C:Ph}{st:SO}{ces:Ces}{fi:Nat}
def zbc{vs:List PV}{xs:List V}{Q:VK}(rs:yH X.K S.cl B C H st)(l:yp X.K S.cl B C H vs xs)(h:Run S X D B C H (RV S X B) (S.call fi vs st) Q):
  ∃E:XK,spI X.K S.cl S.call fi xs H Q E/\∀G s e s',Inv X G D H s->CX1 X.prog X.w X.stack H s E e s'->X.xe e s':=by
 cases c:S.call fi vs st with
 |ok v st'=>
  rw[c]at h;refine#[λ_ _ _=>False,#[B,C,st,vs,rs,l,by rw[c];exact h],λG s e s' _ z=>?_];let#[_,_,_,_,_,_,_,_,_,_,_,_,_,_,z]:=z;exact z.elim
 |exc k st'=>
  rw[c]at h;refine#[λcls _ H'=>cls=.ref (S.cl k)/\∃C',Step C H C' H'/\yH X.K S.cl B C' H' st',#[B,C,st,vs,rs,l,by rw[c];exact λH' C' s r=>#[rfl,C',s,r]],λG s e s' I z=>h e s' (.inl #[G,H,s,C,I,.rfl,z])]
 |bad=>rw[c]at h;exact h.elim
def zmD(F:yaW X.prog X.w X.K X.mg X.base (CX1 X.prog X.w) k f fd ps (spI X.K S.cl S.call fi))(hr:yaI k X.A)(hg:Gl X x)(hm:X.mg x=AA (.ref f))(hk:BH X.K (.ref f)=AC)(hb:Binds X.K fd ps [])
  (ha:PA X (e::es) (tAs S X ces)) (hdb:(x==("__debug__":AQ))=false:=by decide) (he:starEach (e::es) X.env=(AB,eval e X.env)::starEach es X.env:=by rfl) (hpl:(backTo pos (starEach es X.env)).any (·.1)=false:=by rfl):
  PE X (.Call (.Name x p) (e::es) [] pos) (tE S X (.call fi ces)):=
 (zk0 F hr hg hm hk hb .nil ha hdb he hpl).imp λD H Q #[B,C,st,U,rs,re,h]=>by erw[ev]at h;refine tAs.bind rs re h λxs H1 vs st1 C1 s1 rs1 re1 rv h1=>?_;rw[Aj];exact zbc rs1 rv h1
def zjV(F:yaW X.prog X.w X.K X.mg X.base (CX1 X.prog X.w) k f fd ps (spI X.K S.cl S.call fi))(hr:yaI k X.A)(hg:Gl X x)(hm:X.mg x=AA (.ref f))(hk:BH X.K (.ref f)=AC)(hb:Binds X.K fd ps [])
  (hdb:(x==("__debug__":AQ))=false:=by decide):PE X (.Call (.Name x p) [] [] pos) (tE S X (.call fi .nil)):=
 (zhN F hr hg hm hk hb .nil hdb).imp λD H Q #[B,C,st,U,rs,re,h]=>by erw[ev,IC.vs0,IC.vs1,R.bind]at h;exact zbc rs (by erw[yp];rfl) h
end
section
variable {P:Af}{w:Au}{K:AE}{mg:AQ->Option AG}{base:BR}{cl:Nat->AI}{T:Nat->Option IC.Fn}{fi:Nat}{fn:IC.Fn}{x qual:AQ}{stm:CH}{f:AI}{fd:BQ}{N ps:List AQ}{k:Nat}
theorem CX1.mono{outer:List Be}{H:Hp}{s:AJ}{E E':XK}{e:AG}{s':AJ}(h:CX1 P w outer H s E e s')(n:∀cls H',E cls AD H'->E' cls AD H'):CX1 P w outer H s E' e s':=by let#[a,cls,a0,H',Bh,r1,r2,r3,r4,r5,r6,r7,r8,r9,r10]:=h;exact#[a,cls,a0,H',Bh,r1,r2,r3,r4,r5,r6,r7,r8,r9,n _ _ r10]
theorem yZ.start{B:AI->Prop}{C:Ph}{H:Hp}{args:List PV}{vs:List V}(l:yp K cl B C H args vs)(n:Nat)(hn:N.length-vs.length=n):yZ K cl B C H (args.map AA++BI n AD) (L2.start N vs):=by
 have hl:=l.length;unfold L2.start;refine#[by simp[hl,hn],λi v e=>?_]
 by_cases hi:i<args.length
 .rw[An (by simpa using hi),CK]at e
  cases q:args[i]? with
  |none=>rw[q]at e;cases e
  |some v'=>
   rw[q]at e
   cases e
   let#[y,hy,rv]:=l.get i q;exact#[y,by rw[An (by simp;lia),CK,hy];rfl,rv]
 .rw[BD (by simp;lia),El]at e;split at e<;>cases e
theorem leave{N:List AQ}{scope:Bq}{cd:AG}{A:BK}{outer:List Be}{s₀:AJ}{H₀:Hp}{E:XK}{call:Nat->List PV->SO->R PV}{D:St}{B:AI->Prop}{C:Ph}{H:Hp}{c:Nat}{st':SO}{e:AG}{s':AJ}
  (h:ExcAt #[cl,call,AC] (ya8 (CX1 P w) P w K mg base N qual scope f cd A outer s₀ H₀ E) D B C H c st' e s') (n:∀C' H',Step C H C' H'->yH K cl B C' H' st'->E (.ref (cl c)) AD H'):
  (ya8 (CX1 P w) P w K mg base N qual scope f cd A outer s₀ H₀ E).xe e s':=by
 rcases h with⟨F,H1,s,C1,I,s1,q⟩|⟨_,F,H1,s,C1,h',e0,vs,I,s1,rs,mk,rfl,rfl⟩|⟨_,F,H1,s,I,q⟩
 .exact zrA F D H1 s e s' I (q.mono λcls H' #[e1,C',s2,r]=>by subst e1;exact n C' H' (s1.trans s2) r)
 .exact ziV I mk (n C1 H1 s1 rs)
 .exact zrC I (q.mono λcls H' #[e1,C',s2,r]=>by subst e1;exact n C' H' s2 r)
def zlG(hT:T fi=AA fn):∀(args:List PV) (st:SO),yd T (k+1) fi args st ≠ .bad->args.length=fn.np:=λargs st hne=>by apply Classical.byContradiction;intro c;apply hne;rw[yd,hT];exact if_neg c
def zop(hT:T fi=AA fn)(hnp:ps.length=fn.np){vs:List V}{H:Hp}{Q:VK}{E:XK}(h:spI K cl (yd T (k+1)) fi vs H Q E):vs.length=ps.length:=by let#[B,C,st,args,rs,l,h]:=h;rw[hnp,<-l.length];refine zlG (k:=k) hT args st λz=>?_;rw[z]at h;exact h
def zl5(hT:T fi=AA fn)(hns:N.length=fn.ns){scope:Bq}{cdv:AG}{A:BK}{outer:List Be}{s:AJ}{vs:List V}{H:Hp}{Q:VK}{E:XK}(h:spI K cl (yd T (k+1)) fi vs H Q E):
  tSs #[cl,yd T k,AC] (ya8 (CX1 P w) P w K mg base N qual scope f cdv A outer s H E) fn.body {nx:=λ_ H'=>Q .non H',rt:=Q} (L2.start N vs) H:=by
 let#[B,C,st,args,rs,l,h]:=h;have hl:args.length=fn.np:=zlG (k:=k) hT args st λz=>by rw[z]at h;exact h
 have hlen:=l.length;rw[yd,hT]at h;dsimp only at h;rw[if_pos hl]at h
 by_cases hp:fn.pure=AC
 .rw[if_pos hp]at h
  by_cases hz:nLs args=AC
  .rw[if_pos hz]at h;have rs0:yH K cl (λa=>B a \/ AA a∈C) [] H []:=#[rfl,λm n a e=>by simp at e,λn a e=>by simp at e,λn o e=>by simp at e,λa z=>by simp at z,λa z=>z.elim (rs.dom a) rs.there];have back:∀{C':Ph} {H':Hp},Step [] H C' H'->Step C H C H'/\yH K cl B C H' st:=λ{C' H'} s'=>
    have kk:∀b o,H b=AA o->H' b=AA o:=λb o e=>s'.keep b o (by simp) e
    #[#[λb o _ e=>kk b o e,AT _,λ_ _ _ e=>e,λ_ h=>.inl h],rs.same kk]
   refine#[_,[],[],_,rs0,yZ.start (yp.inn rs.nb args vs hz l) (fn.ns-fn.np) (),?_];show yaU _ _ _ _ _ (exs (yd T k) (args.map AA++BI (fn.ns-fn.np) AD) [] fn.body) _
   cases e:exs (yd T k) (args.map AA++BI (fn.ns-fn.np) AD) [] fn.body with
   |nx U' st'=>
    rw[e]at h;intro D' H' C' s' rs' re';let#[s2,r2]:=back s';exact h .non H' C s2 r2 (by erw[yh])
   |rt v st'=>
    rw[e]at h;dsimp only at h
    by_cases hv:nL v=AC
    .rw[if_pos hv]at h;intro y H' C' s' rs' rv;let#[s2,r2]:=back s';exact h y H' C s2 r2 (yh.out v y hv rv)
    .rw[if_neg hv]at h;exact h.elim
   |exc c U' st'=>
    rw[e]at h;intro D' C1 H1 ev s' s1 _ ex;refine leave ex λC2 H2 s2 _=>?_;let#[s3,r3]:=back (s1.trans s2);exact h H2 C s3 r3
   |bk U' st'=>rw[e]at h;exact h.elim
   |ct U' st'=>rw[e]at h;exact h.elim
   |bad=>rw[e]at h;exact h.elim
  .rw[if_neg hz]at h;exact h.elim
 .rw[if_neg hp]at h;refine#[B,C,st,_,rs,yZ.start l (fn.ns-fn.np) (),?_];show yaU _ _ _ _ _ (exs (yd T k) (args.map AA++BI (fn.ns-fn.np) AD) st fn.body) _
  cases e:exs (yd T k) (args.map AA++BI (fn.ns-fn.np) AD) st fn.body with
  |nx U' st'=>
   rw[e]at h;intro D' H' C' s' rs' re';exact h .non H' C' s' rs' (by erw[yh])
  |rt v st'=>
   rw[e]at h;intro y H' C' s' rs' rv;exact h y H' C' s' rs' rv
  |exc c U' st'=>
   rw[e]at h;intro D' C1 H1 ev s' s1 _ ex;exact leave ex λC2 H2 s2 r2=>h H2 C2 (s1.trans s2) r2
  |bk U' st'=>rw[e]at h;exact h.elim
  |ct U' st'=>rw[e]at h;exact h.elim
  |bad=>rw[e]at h;exact h.elim
end
def tyN:Ty->String
 |.int=>"int" | .bool=>"bool" | .str=>"str" | .tuple=>"tuple" | .list=>"list" | _=>""
structure yfa(K:AE)(t:Ty):Prop where
 n:Bg K (.type "NoneType") (.type (tyN t))=AA (ybN .non t)
 b:Bg K (.type "bool") (.type (tyN t))=AA (ybN (.bl AC) t)
 i:Bg K (.type "int") (.type (tyN t))=AA (ybN (.int 0) t)
 s:Bg K (.type "str") (.type (tyN t))=AA (ybN (.str GY) t)
 p:Bg K (.type "tuple") (.type (tyN t))=AA (ybN (.tp AC []) t)
 l:Bg K (.type "list") (.type (tyN t))=AA (ybN (.lst []) t)
section
variable {S:Se}{X:Cx}{A:St}{B:AI->Prop}{C:Ph}{H:Hp}{st:SO}{p pos p2 px:C6}{a b c d o:AV}{ca cb cc:Ce}{t:Ty}
def ygU(S:Se)(X:Cx)(t:Ty):List V->Hp->VK->Prop:=λxs H Q=>∃B C st v x z,xs=[x,.ty (tyN t)]/\yH X.K S.cl B C H st/\yh X.K S.cl B C H v x/\ya6 v [t]=AA z/\ydR t=AC /\
 ∀z' H' C',Step C H C' H'->yH X.K S.cl B C' H' st->yh X.K S.cl B C' H' z z'->Q z' H'
def zp1(Z:yfa X.K t):yat X (.builtin "isinstance") (ygU S X t):=by
 rintro E s A H xs us Q I r ⟨B,C,st,v,x,z,rfl,rs,rv,e,hb,q⟩
 let#[u,c',rfl,ru,rc]:=vals2 r
 cases (show c'=Fi (tyN t)from rc)
 have fin:∀(k:Bool) (tk:Nat),z=.bl k->EP X E A Q (.bool k) {s with toks:=tk}:=λk tk ez=>#[.bl k,H,I.tok tk,rfl,q _ H C .rfl rs (by subst ez;erw[yh])]
 cases v with
 |non=>
  erw[yh]at rv;subst rv
  cases (show u=CZ from ru)
  erw[ya6,hb,if_true]at e;exact Ck PySem.W.kitx_none I.kIn Ci Z.n (λz=>nomatch z) λtk=>fin _ tk (by cases e;cases t<;>rfl)
 |bl k=>
  erw[yh]at rv;subst rv
  cases (show u=EF k from ru)
  erw[ya6,hb,if_true]at e;exact Ck PySem.W.kitx_bool I.kIn Ci Z.b (λz=>nomatch z) λtk=>fin _ tk (by cases e;cases t<;>rfl)
 |int k=>
  erw[yh]at rv;subst rv;let#[tk,rfl]:=ru;erw[ya6,hb,if_true]at e;exact Ck PySem.W.kitx_int I.kIn Ci Z.i (λz=>nomatch z) λtk=>fin _ tk (by cases e;cases t<;>rfl)
 |str k=>
  erw[yh]at rv;subst rv;let#[tk,rfl]:=ru;erw[ya6,hb,if_true]at e;exact Ck PySem.W.kitx_str I.kIn Ci Z.s (λz=>nomatch z) λtk=>fin _ tk (by cases e;cases t<;>rfl)
 |tp k vs=>
  erw[yh]at rv;let#[y,ys,rfl,rt,l]:=rv
  cases (show u=Ar y from ru)
  erw[ya6,hb,if_true]at e;let#[its,_,#[o,g,c,_,_],_]:=I.tuple rt.sq;exact Ck PySem.W.kitx_tuple I.kIn #[o,g,c] Z.p (λz=>nomatch z) λtk=>fin _ tk (by cases e;cases t<;>rfl)
 |lst vs=>
  erw[yh]at rv;let#[y,ys,rfl,rt,l]:=rv
  cases (show u=Ar y from ru)
  erw[ya6,hb,if_true]at e;let#[_,_,n,_,h1]:=(show yal X.prog X.w H s.heap y (.lst ys)from I.hok y _ rt.1);exact Ck PySem.W.kitx_list I.kIn #[_,h1,rfl] Z.l (λz=>nomatch z) λtk=>fin _ tk (by cases e;cases t<;>rfl)
 |loc n=>cases e
 |scr n=>cases e
 |exn n=>erw[ya6,Bl,List.all_nil,hb,Dl,if_true]at e;cases e
def zou{T:AQ}(Z:yfa X.K t)(ht:ydR t=AC)(hg:Gl X "isinstance")(hm:X.mg "isinstance"=AD)(hgT:Gl X T)(hmT:X.mg T=AD)(hT:bootBuiltins T=AA (.type (tyN t)))(ha:PE X a (tE S X ca))(hnT:T ≠ "__name__":=by decide)(hdT:(T==("__debug__":AQ))=false:=by decide)
  (he:starEach [a,.Name T p2] X.env=(AB,eval a X.env)::starEach [.Name T p2] X.env:=by rfl) (hpl:(backTo pos (starEach [.Name T p2] X.env)).any (·.1)=false:=by rfl):
  PE X (.Call (.Name "isinstance" p) [a,.Name T p2] [] pos) (tE S X (.isi ca [t])):=
 (zgz (zp1 Z) hg hm Gn (zbS ha (zbS (zm2 (v:=.ty (tyN t)) hgT hmT hT rfl hnT hdT) zq2) he) ⋯ ⋯ he hpl).imp λA H Q #[B,C,st,U,rs,re,h]=>by erw[ev]at h;refine tE.bind rs re h λx H1 v st1 C1 s1 rs1 re1 rv h1=>?_;let#[z,e,q]:=zaJ h1 rs1;exact#[B,C1,st1,v,x,z,rfl,rs1,rv,e,ht,q]
def zj1{st4:SO}{x y v:PV}(h:ybG st x y v=AA st4):∃n xs k j,x=.loc n/\st[n]?=AA (.lst xs)/\y=.int k/\ixI xs.length k=AA j/\st4=st.set n (.lst (xs.set j v)):=by
 cases x with
 |loc n=>
  erw[ybG]at h
  cases q:st[n]? with
  |none=>rw[q]at h;cases h
  |some o=>
   rw[q]at h
   cases o with
   |lst xs=>
    cases y with
    |int k=>
     dsimp only at h
     cases q2:ixI xs.length k with
     |none=>rw[q2]at h;cases h
     |some j=>rw[q2]at h;exact#[n,xs,k,j,rfl,q,rfl,q2,(A1 h).symm]
    |_=>cases h
   |_=>cases h
 |_=>cases h
theorem yp.put{K:AE}{cl:Nat->AI}:∀{vs:List PV} {xs:List V} (j:Nat) {v:PV} {x:V},yp K cl B C H vs xs->yh K cl B C H v x->yp K cl B C H (vs.set j v) (xs.set j x)
 |[],xs,j,v,x,l,r=>by erw[yp]at l;subst l;simp[yp]
 |w::vs,xs,0,v,x,l,r=>by erw[yp]at l;let#[y,ys,rfl,_,l]:=l;erw[BS,yp];exact#[x,ys,rfl,r,l]
 |w::vs,xs,j+1,v,x,l,r=>by erw[yp]at l;let#[y,ys,rfl,ry,l]:=l;erw[BU,yp];exact#[y,ys.set j x,rfl,ry,yp.put j l r]
def zpk(he:PE X a (tE S X ca))(ho:PE X b (tE S X cb))(hi:PE X c (tE S X cc))(hs:swapsWithSole [.Subscript b c px] a pos.line X.env=pure false:=by rfl)(hw:swappedStores [.Subscript b c px] a X.env=pure none:=by rfl)
  (hg:PG X (.Subscript b c px) (yfK (tE S X cb) (tE S X cc) ydF):=by exact zlH ‹_› ‹_› zgQ):PS X (.Assign [.Subscript b c px] a pos) (tS S X (.six cb cc ca)):=
 (zlk he hg hs hw).imp λD A H #[B,C,st,U,rs,re,h]=>by
  erw[ex]at h;refine tE.fl rs re h λv' H1 v st1 C1 s1 rs1 re1 rv h1=>tE.fl rs1 re1 h1 λx' H2 x st2 C2 s2 rs2 re2 rx h2=>tE.fl rs2 re2 h2 λy' H3 y st3 C3 s3 rs3 re3 ry h3=>?_
  cases e:ybG st3 x y v with
  |none=>rw[e]at h3;exact h3.elim
  |some st4=>
   rw[e]at h3;let#[n,xs,k,j,rfl,hn,rfl,hj,rfl]:=zj1 e;erw[yh]at ry;subst ry;let#[l,ys,rfl,hp,hx,lr]:=rs3.list (rx.step s3) hn;refine#[l,ys,k,j,rfl,rfl,hx,by rw[<-lr.length];exact hj,?_];have s4:Step C3 H3 C3 (L2.upd H3 l (.lst (ys.set j v'))):=.put (A6 hp);exact h3 A _ C3 s4 (rs3.put hp #[_,zu,(lr.put j ((rv.step s2).step s3)).step s4]) (re3.step s4)
end
section
variable {S:Se}{X:Cx}{C:St}{B:AI->Prop}{A:Ph}{H:Hp}{st:SO}{p pos p2 px py pt pt2 apos:C6}{a b c d o:AV}{ca cb cc:Ce}{kt k2:Nat}
def zn6{i j:Nat}{x y:AQ}(hc:X.calm=AC)(hN:X.N.Nodup)(hi:X.N[i]?=AA x)(hj:X.N[j]?=AA y)(hij:i≠j)(h:PS X (.Assign [.Tuple [.Name x px,.Name y py] kt pt] (.Tuple [a,b] k2 pt2) pos) (yfm i j (tAs S X (.cons ca (.cons cb .nil))))):
  PS X (.Assign [.Tuple [.Name x px,.Name y py] kt pt] (.Tuple [a,b] k2 pt2) pos) (tS S X (.asg (.t [i,j]) (.tup (.cons ca (.cons cb .nil))))):=
 h.imp λD C H #[B,A,st,U,rs,re,h]=>by
  erw[ex,ev]at h;refine#[B,A,st,U,rs,re,?_]
  cases e:evs S.call U st (.cons ca (.cons cb .nil))with
  |bad=>rw[e]at h;exact h
  |exc k st'=>rw[e]at h;exact λe s' x=>h C A H e s' .rfl re x
  |ok vs st'=>
   rw[e]at h;intro xs H' A' s rs' l;erw[R.bind]at h;split at h
   .rcases vs with _|⟨v,_|⟨w,_|⟨u,t⟩⟩⟩
    .exact h.elim
    .exact h.elim
    .let#[v',w',rfl,rv,rw]:=l.two;refine#[v',w',rfl,?_];exact h _ H' A' s rs' (((re.step s).set i rv).set j rw)
    .exact h.elim
   .exact h.elim
def zmJ{bo:BOp}{v w z:PV}(h:ybZ bo v w=AA z):∃i j,v=.int i/\w=.int j/\IC.binI bo i j=AA z:=by
 unfold ybZ at h;split at h
 .exact#[_,_,rfl,rfl,h]
 .cases h
def zmM:PIp X .Add (rT2 S X (ybZ .add)):=by
 rintro E s C H x y v u Q I rx ry ⟨B,A,st,a,b,z,rs,ra,rb,e,q⟩
 let#[i,j,rfl,rfl,e]:=zmJ e
 cases e
 erw[yh]at ra rb;subst ra rb;exact zoO E s C H _ _ v u Q I rx ry #[i,j,rfl,rfl,q _ H A .rfl rs (by erw[yh])]
end
end L2
namespace WK
open PySem L2 IC
def GC(K:AE)(mg:AQ->Option AG)(cl:Nat->AI)(x:AQ)(v:PV):Prop:=∃y:AI,mg x=AA (.ref y)/\∀B A H,yh K cl B A H v (.ref y)
def zqF{S:Se}{X:Cx}{x:AQ}{v:PV}{pos:C6}(hg:Gl X x)(h:GC X.K X.mg S.cl x v)(hd:(x==("__debug__":AQ))=false:=by decide):PE X (.Name x pos) (tE S X (.cst v)):=by let#[y,hm,hk]:=h;exact zns hg hm hk hd
def zlo:bootBuiltins "int"=AA (.type "int"):=by decide +kernel
def zmX:bootBuiltins "bool"=AA (.type "bool"):=by decide +kernel
def zpK:bootBuiltins "str"=AA (.type "str"):=by decide +kernel
def zgm:bootBuiltins "tuple"=AA (.type "tuple"):=by decide +kernel
def zn9:bootBuiltins "len"=AA (.builtin "len"):=by decide +kernel
def zp2:bootBuiltins "min"=AA (.builtin "min"):=by decide +kernel
def zoD:bootBuiltins "max"=AA (.builtin "max"):=by decide +kernel
def znW:bootBuiltins "all"=AA (.builtin "all"):=by decide +kernel
def zoz:bootBuiltins "sum"=AA (.builtin "sum"):=by decide +kernel
def zni{k:Nat}{A:BK}(r:yaI k A):A.units+1<cLine:=by have:=r.units;lia
end WK
namespace L2
open PySem PySem.Spec PyProof.Rows IC
def shC:Sum Ce Int->Option Int
 |.inl _=>AD
 |.inr i=>AA i
def ya3:List (Option Int)->List V->List V
 |[],_=>[]
 |some i::r,zs=>.int i::ya3 r zs
 |none::r,z::zs=>z::ya3 r zs
 |none::_,[]=>[]
def pick:List (Option Int)->List V->List V
 |none::r,v::vs=>v::pick r vs
 |some _::r,_::vs=>pick r vs
 |_,_=>[]
def nKw:List (Option Int)->Nat
 |[]=>0
 |none::r=>nKw r+1
 |some _::r=>nKw r
def ydk:Ces->Nat
 |.nil=>0
 |.cons _ r=>ydk r+1
def gK(np:Nat)(sh:List (Option Int))(vs zs:List V):List V:=if vs.length=np/\zs.length=nKw sh then vs++ya3 sh zs else []
def zhR{call:Nat->List PV->SO->R PV}{U:IC.Env}:∀(a:Ces) {st st':SO} {vs:List PV},evs call U st a=.ok vs st'->vs.length=ydk a
 |.nil,st,st',vs,h=>by erw[IC.vs0,IC.vs1]at h;cases h;rfl
 |.cons e r,st,st',vs,h=>by
  erw[IC.vs0,IC.vs1]at h
  cases q:ev call U st e with
  |ok v s1=>
   rw[q]at h;erw[R.bind]at h
   cases q2:evs call U s1 r with
   |ok ws s2=>
    rw[q2]at h
    cases h
    simp[ydk,zhR r q2]
   |exc c s=>rw[q2]at h;cases h
   |bad=>rw[q2]at h;cases h
  |exc c s=>rw[q]at h;cases h
  |bad=>rw[q]at h;cases h
def zi9{call:Nat->List PV->SO->R PV}{U:IC.Env}:∀(a b:Ces) (st:SO),evs call U st (yL a b)=(evs call U st a).bind λvs st1=>(evs call U st1 b).bind λws st2=>.ok (vs++ws) st2
 |.nil,b,st=>by
  erw[yL,IC.vs0,IC.vs1,R.bind,BF]
  cases evs call U st b<;>rfl
 |.cons e r,b,st=>by
  erw[yL,IC.vs0,IC.vs1]
  cases ev call U st e with
  |ok v st1=>
   erw[R.bind];rw[zi9 r b st1]
   cases evs call U st1 r with
   |ok vs st2=>
    erw[R.bind]
    cases evs call U st2 b<;>rfl
   |exc c s=>rfl
   |bad=>rfl
  |exc c s=>rfl
  |bad=>rfl
section
variable {S:Se}{X:Cx}{k:Nat}{f:AI}{fd:BQ}{ps ks:List AQ}{sp:Sp}{x:AQ}{p pos kpos:C6}{e:AV}{es:List AV}{kws:List Cc}{nm:Option AQ}{t tk:TA}{CX:CXT}{ca:Ce}{ces:Ces}{items:List (Sum Ce Int)}{g:List AG->List AG->List AG}{gV:List V->List V->List V}
def zcG{K:AE}{cl:Nat->AI}{B:AI->Prop}{C:Ph}{H:Hp}{call:Nat->List PV->SO->R PV}{U:IC.Env}:∀(items:List (Sum Ce Int)) {st st':SO} {vs:List PV} {xs:List V},evs call U st (yj items)=.ok vs st'->yp K cl B C H vs xs->ya3 (items.map shC) (pick (items.map shC) xs)=xs/\(pick (items.map shC) xs).length=nKw (items.map shC)
 |[],st,st',vs,xs,h,l=>by
  erw[yj,IC.vs0,IC.vs1]at h
  cases h
  erw[yp]at l;subst l;exact#[rfl,rfl]
 |.inl c::r,st,st',vs,xs,h,l=>by
  erw[yj,IC.vs0,IC.vs1]at h;let#[v,s1,e1,h]:=zbn h;let#[ws,s2,e2,h]:=zbn h
  cases h
  erw[yp]at l;let#[y,ys,rfl,_,l]:=l;let#[q1,q2]:=zcG r e2 l;erw[AL,shC,pick,ya3,nKw,A4,q1,q2];exact#[trivial,trivial]
 |.inr i::r,st,st',vs,xs,h,l=>by
  erw[yj,IC.vs0,IC.vs1,ev]at h;let#[v,s1,e1,h]:=zbn h;let#[ws,s2,e2,h]:=zbn h
  cases h
  cases e1
  erw[yp,yh]at l;let#[y,ys,rfl,rfl,l]:=l;let#[q1,q2]:=zcG r e2 l;erw[AL,shC,pick,ya3,nKw,q1,q2];exact#[trivial,trivial]
def tK(S:Se)(X:Cx)(items:List (Sum Ce Int)):TA:=λD H Q=>∃B C st U,yH X.K S.cl B C H st/\yZ X.K S.cl B C H U D/\Run S X D B C H (RL S X B) (evs S.call U st (yj items)) λxs H'=>Q (pick (items.map shC) xs) H'
theorem PK.imp{t t':TA}(h:PK X kws t')(k:∀D H Q,t D H Q->t' D H Q):PK X kws t:=λpos G s D H Q I q=>h pos G s D H Q I (k D H Q q)
def zoH:PK X [] (tK S X []):=zrw.imp λD H Q #[B,C,st,U,rs,re,h]=>by erw[yj,IC.vs0,IC.vs1]at h;exact h.ok rs (x:=[]) (by erw[yp])
def zqN{i:Int}(h:PK X kws (tK S X items)):PK X kws (tK S X (.inr i::items)):=h.imp λD H Q #[B,C,st,U,rs,re,h]=>by
 erw[yj,IC.vs0,IC.vs1,ev,R.bind]at h;refine#[B,C,st,U,rs,re,?_]
 cases e:evs S.call U st (yj items)with
 |ok vs st'=>
  rw[e]at h;intro xs H' C' s rs' l;exact h (.int i::xs) H' C' s rs' (by erw[yp,yh];exact#[_,_,rfl,rfl,l])
 |exc c s=>rw[e]at h;exact h
 |bad=>rw[e]at h;exact h
def zp6(ha:PE X e (tE S X ca))(h:PK X kws (tK S X items)):PK X (#[nm,e,kpos] :: kws) (tK S X (.inl ca::items)):=(zlX ha h).imp λD H Q #[B,C,st,U,rs,re,h]=>by erw[yj,IC.vs0,IC.vs1]at h;refine tE.bind rs re h λx H1 v st1 C1 s1 rs1 re1 rv h1=>#[B,C1,st1,U,rs1,re1,?_];refine(Run.bind (Rel:=RL S X B) h1).mono λxs H2 kq=>?_;let#[ws,st2,C2,s2,rs2,l,h2]:=kq;exact h2.ok rs2 (x:=x::xs) (by erw[yp];exact#[x,xs,rfl,rv.step s2,l])
def zkj{fi:Nat}(F:yaW X.prog X.w X.K X.mg X.base (CX1 X.prog X.w) k f fd ps (spI X.K S.cl S.call fi))(hr:yaI k X.A)(hg:Gl X x)(hm:X.mg x=AA (.ref f))(hk:BH X.K (.ref f)=AC){np:Nat}(hb:∃g,ybT X.K fd ps ks g (gK np (items.map shC)))(hnp:ydk ces=np)
  (ha:PA X (e::es) (tAs S X ces)) (hkw:PK X kws (tK S X items)) (hall:(backToKw pos (keywordEach kws X.env)).all (·.1.isSome)=true:=by rfl) (hks:(backToKw pos (keywordEach kws X.env)).filterMap (·.1)=ks:=by rfl)
  (hdb:(x==("__debug__":AQ))=false:=by decide) (he:starEach (e::es) X.env=(AB,eval e X.env)::starEach es X.env:=by rfl)
  (hpl:((backTo pos (starEach (e::es) X.env)).any (·.1) || (backToKw pos (keywordEach kws X.env)).any (·.1.isNone))=false:=by rfl):
  PE X (.Call (.Name x p) (e::es) kws pos) (tE S X (.call fi (yL ces (yj items)))):=by
 intro G s D H Q I #[B,C,st,U,rs,re,h];erw[ev]at h;rw[zi9,R.bind_assoc]at h;refine Bf (zdN I hg hm ?_ hdb);have h0:tAs S X ces D H λvs H1=>tK S X items D H1 λzs H2=>∃E:XK,spI X.K S.cl S.call fi (gK np (items.map shC) vs zs) H2 Q E/\∀G s e s',Inv X G D H2 s->CX1 X.prog X.w X.stack H2 s E e s'->X.xe e s':=by
  have hlen:∀vs st',evs S.call U st ces=.ok vs st'->vs.length=np:=λvs st' q=>(zhR ces q).trans hnp;refine#[B,C,st,U,rs,re,?_]
  cases q:evs S.call U st ces with
  |exc c s=>rw[q]at h;exact h
  |bad=>rw[q]at h;exact h
  |ok vs st1=>
  rw[q]at h;intro xs H1 C1 s1 rs1 rv;have h1:=Run.on s1 h;have re1:=re.step s1;have hv:=hlen vs st1 q;refine#[B,C1,st1,U,rs1,re1,?_];have h1:Run S X D B C1 H1 (RV S X B) (((evs S.call U st1 (yj items)).bind λa st=>(R.ok (vs++a) st:R (List PV))).bind λvs st1=>S.call fi vs st1) Q:=h1;rw[R.bind_assoc]at h1
  cases e:evs S.call U st1 (yj items)with
  |ok ws st2=>
   rw[e]at h1;intro ys H2 C2 s2 rs2 l2;let#[m1,m2]:=zcG items e l2;have eg:gK np (items.map shC) xs (pick (items.map shC) ys)=xs++ys:=by unfold gK;rw[if_pos #[by rw[<-rv.length];exact hv,m2],m1]
   show ∃E:XK,spI X.K S.cl S.call fi (gK np (items.map shC) xs (pick (items.map shC) ys)) H2 Q E/\_;rw[eg];exact zbc rs2 ((rv.step s2).append l2) (Run.on s2 h1)
  |exc c s=>rw[e]at h1;exact h1
  |bad=>rw[e]at h1;exact h1
 refine PySem.W.callWith_KW (h₀:=X.base) I.ok.mod.kin hk hall (thn (ha pos G s D H _ I h0) λus s1 kq=>?_) hpl he;let#[vs,H1,I1,r,q]:=kq;refine thn (hkw pos G s1 D H1 _ I1 q) λws s2 kq=>?_;let#[zs,H2,I2,rz,E,q2,hx]:=kq;refine #[I2.kIn,?_];rw[hks];let#[g,hb]:=hb;have r2:=hb.rel r rz;have hl:(g us ws).length=ps.length:=by rw[<-r2.length];exact F.len _ _ _ _ q2
 refine Gy (EB (F.run X.A X.stack s2 H2 #[us,ks.zip ws] (g us ws) (gK np (items.map shC) vs zs) Q E hr I2.env0 (hb.to s2 us ws I2.kIn hl) r2 q2) λr s' hq=>?_)
 cases r with
 |error e=>exact hx G s2 e s' I2 hq
 |ok fl=>
  cases fl with
  |ret u=>exact I2.after hq
  |next=>exact Bt hq
  |brk=>exact Bt hq
  |cont=>exact Bt hq
end
def ybh:List (Option Int)->List AG->List AG->List AG
 |[],_,_=>[]
 |some _::r,ws,d::ds=>d::ybh r ws ds
 |none::r,w::ws,_::ds=>w::ybh r ws ds
 |_,_,_=>[]
def zdT:∀(sh:List (Option Int)) (ds:List Int) {zs:List V} {ws us:List AG},Vals (ds.map V.int) us->Vals zs ws->sh.length=ds.length->(∀p∈sh.zip ds,∀i,p.1=AA i->i=p.2)->Vals (ya3 sh zs) (ybh sh ws us)
 |[],ds,zs,ws,us,r,q,hl,h=>.nil
 |some i::r,[],zs,ws,us,rr,q,hl,h=>by simp at hl
 |some i::r,d::ds,zs,ws,_,.cons a b,q,hl,h=>by have:i=d:=h (AA i,d) (by simp) i rfl;subst this;exact .cons a (zdT r ds b q (by simpa using hl) λp hp=>h p (by simp[hp]))
 |none::r,[],zs,ws,us,rr,q,hl,h=>by simp at hl
 |none::r,d::ds,_,_,_,.cons a b,.nil,hl,h=>.nil
 |none::r,d::ds,_,_,_,.cons a b,.cons c q,hl,h=>.cons c (zdT r ds b q (by simpa using hl) λp hp=>h p (by simp[hp]))
structure FnD(K:AE)(mg:AQ->Option AG)(x:AQ)(st:CH)(ps:List AQ)(ds:List Int)(f:AI)(fd:BQ):Prop where
 ex:∃(oc:AG) (od:Option AI) (dT:AI) (kV doc pm:AG) (an:Option AI) (cdv ct:AG) (osl:Array (Option AG)) (o:CP) (its:Array AG) (n:Nat),
  fd=Bi x x (yaq st) (yam st) (yN st) (.ref dT) kV doc pm an cdv ct/\K.lookup f=AA #[oc,od,.func fd,osl]/\C0 K cdv x=AC/\K.lookup dT=AA o/\o.data=.seq its n/\Vals (ds.map V.int) its.toList
 kp:BH K (.ref f)=AC
 m:mg x=AA (.ref f)
theorem kbD{K:AE}{mg:AQ->Option AG}{x:AQ}{st:CH}{ps ks:List AQ}{ds:List Int}{f:AI}{fd:BQ}{np off:Nat}{sh:List (Option Int)}(D:FnD K mg x st ps ds f fd)(hnk:ks.length=nKw sh)(hsh:sh.length=(ds.drop off).length)(hd':((sh.zip (ds.drop off)).all λp=>p.1.all λi=>decide (i=p.2))=AC)
  (h:∀(dT:AI) (kV doc pm:AG) (an:Option AI) (cdv ct:AG) (us ws its:List AG),us.length=np->ws.length=ks.length->its.length=ds.length ->
   ∃k,bindArgs (Bi x x (yaq st) (yam st) (yN st) (.ref dT) kV doc pm an cdv ct) #[us,ks.zip ws]=seqItems? (.ref dT) >>= k/\k (AA its.toArray)=pure (ps.zip (us++ybh sh ws (its.drop off)))) (hps:0<ps.length):
  ∃g,ybT K fd ps ks g (gK np sh):=by
 have hd:∀p∈sh.zip (ds.drop off),∀i,p.1=AA i->i=p.2:=λp hp i hi=>by have:=Bp.mp hd' p hp;rw[hi]at this;simpa using this
 let#[oc,od,dT,kV,doc,pm,an,cdv,ct,osl,o,its,n,rfl,lk,hcd,lo,hs,r]:=D.ex;refine#[λus ws=>if us.length=np/\ws.length=nKw sh then us++ybh sh ws (its.toList.drop off)else [],#[λs us ws KX hl=>?_,λ{vs us zs ws} rv rz=>?_]]
 .by_cases c:us.length=np/\ws.length=nKw sh
  .rw[if_pos c]at hl ⊢;let#[k,h1,h2]:=h dT kV doc pm an cdv ct us ws its.toList c.1 (by rw[hnk];exact c.2) (by rw[<-r.length,Ax]);exact BindsTo.of_defaults rfl (KX _ _ lo) hs h1 (by simpa using h2)
  .rw[if_neg c]at hl;simp at hl;lia
 .unfold gK;have e1:=rv.length;have e2:=rz.length
  by_cases c:us.length=np/\ws.length=nKw sh
  .rw[if_pos c,if_pos ()];refine rv.append (zdT sh (ds.drop off) ?_ rz hsh hd);rw[List.map_drop];exact r.drop off
  .rw[if_neg c,if_neg ()];exact .nil
section
variable {P:Af}{w:Au}{K:AE}{mg:AQ->Option AG}{base:BR}{cl:Nat->AI}{T:Nat->Option IC.Fn}{fi:Nat}{fn:IC.Fn}{x:AQ}{stm:CH}{f:AI}{fd:BQ}{N ps:List AQ}{ds:List Int}{k:Nat}
end
def zeT(a b:Key):peq (yaS a) (yaS b)=decide (a=b):=by
 rw[DH]
 cases a with
 |inl i=>cases b with
  |inl j=>show (i==j)=AC ↔ _;simp
  |inr y=>show AB=AC ↔ _;simp
 |inr x=>cases b with
  |inl j=>show AB=AC ↔ _;simp
  |inr y=>show (x==y)=AC ↔ _;simp
def zgx:∀(a b:List Key),ybX (a.map yaS) (b.map yaS)=decide (a=b)
 |[],[]=>rfl
 |[],y::ys=>rfl
 |x::xs,[]=>rfl
 |x::xs,y::ys=>by show (peq (yaS x) (yaS y)&&ybX (xs.map yaS) (ys.map yaS))=_;rw[zeT,zgx xs ys];rw[DH];simp
def zeA(a b:List Key):peq (.tup (a.map yaS)) (.tup (b.map yaS))=decide (a=b):=by exact zgx a b
def zjG{k:PV}(h:ybR k=AC):∃q,k=yaS q:=by
 cases k with
 |int i=>exact#[.inl i,rfl]
 |str i=>exact#[.inr i,rfl]
 |_=>cases h
def zhZ:∀{ks:List PV},ks.all ybR=AC->∃qs:List Key,ks=qs.map yaS
 |[],_=>#[[],rfl]
 |k::ks,h=>by rw[Bl,AK]at h;let#[q,rfl]:=zjG h.1;let#[qs,rfl]:=zhZ h.2;exact#[q::qs,rfl]
section
variable {S:Se}{X:Cx}{K:AE}{cl:Nat->AI}{E:St}{B:AI->Prop}{C:Ph}{H:Hp}{st:SO}{p pos p2 px apos:C6}{a b c d o:AV}{ca cb cc:Ce}
def zrb{q:Key}{x:V}:yh K cl B C H (yaS q) x ↔ x=kV q:=by cases q<;>simp[yaS,yh,kV]
def ze3:∀{qs:List Key} {xs:List V},yp K cl B C H (qs.map yaS) xs->xs=qs.map kV
 |[],xs,l=>by simpa only[Ah,yp] using l
 |q::qs,xs,l=>by erw[AL,yp]at l;let#[y,ys,rfl,r,l]:=l;rw[zrb.mp r,ze3 l];rfl
theorem DK.look{q:Key}:∀{kvs:List (PV×PV)} {ks:List (Key×V)},DK K cl B C H kvs ks->∀{v:PV} {x:V},yh K cl B C H v x->yh K cl B C H ((IC.look (yaS q) kvs).getD v) ((ybO ks q).getD x)
 |[],ks,h,v,x,r=>by cases h;exact r
 |(k,w)::t,ks,h,v,x,r=>by
  let#[q',y,s,rfl,rfl,rv,l]:=h;erw[IC.look,zeT]
  by_cases e:q'=q
  .rw[zcr (p:=(q',y)) e];simp[e,rv]
  .rw[zcu (p:=(q',y)) e];erw[decide_eq_true_eq,e,if_false];exact DK.look l r
theorem DT.look{q:List Key}:∀{kvs:List (PV×PV)} {ks:List (List Key×V)},DT K cl B C H kvs ks->∀{v:PV} {x:V},yh K cl B C H v x->yh K cl B C H ((IC.look (.tup (q.map yaS)) kvs).getD v) ((ybO ks q).getD x)
 |[],ks,h,v,x,r=>by cases h;exact r
 |(k,w)::t,ks,h,v,x,r=>by
  let#[q',y,s,rfl,rfl,rv,l]:=h;erw[IC.look,zeA]
  by_cases e:q'=q
  .rw[zcr (p:=(q',y)) e];simp[e,rv]
  .rw[zcu (p:=(q',y)) e];erw[decide_eq_true_eq,e,if_false];exact DT.look l r
theorem DK.any{q:Key}:∀{kvs:List (PV×PV)} {ks:List (Key×V)},DK K cl B C H kvs ks->(kvs.any λp=>peq p.1 (yaS q))=ks.any λkv=>decide (kv.1=q)
 |[],ks,h=>by cases h;rfl
 |(k,w)::t,ks,h=>by let#[q',y,s,rfl,rfl,rv,l]:=h;erw[Br,zeT,DK.any l]
theorem DT.any{q:List Key}:∀{kvs:List (PV×PV)} {ks:List (List Key×V)},DT K cl B C H kvs ks->(kvs.any λp=>peq p.1 (.tup (q.map yaS)))=ks.any λkv=>decide (kv.1=q)
 |[],ks,h=>by cases h;rfl
 |(k,w)::t,ks,h=>by let#[q',y,s,rfl,rfl,rv,l]:=h;erw[Br,zeA,DT.any l]
theorem DK.map{q:Key}{v:PV}{x:V}(r:yh K cl B C H v x):∀{kvs:List (PV×PV)} {ks:List (Key×V)},DK K cl B C H kvs ks->DK K cl B C H (kvs.map λp=>if peq p.1 (yaS q)=AC then(p.1,v)else p) (ks.map λkv=>if kv.1=q then(kv.1,x)else kv)
 |[],ks,h=>by cases h;exact rfl
 |(k,w)::t,ks,h=>by
  let#[q',y,s,rfl,rfl,rv,l]:=h;erw[AL,zeT,decide_eq_true_eq]
  by_cases e:q'=q
  .simp only[e,if_true];exact#[q,x,_,rfl,rfl,r,DK.map r l]
  .simp only[e,if_false];exact#[q',y,_,rfl,rfl,rv,DK.map r l]
theorem DT.map{q:List Key}{v:PV}{x:V}(r:yh K cl B C H v x):∀{kvs:List (PV×PV)} {ks:List (List Key×V)},DT K cl B C H kvs ks->DT K cl B C H (kvs.map λp=>if peq p.1 (.tup (q.map yaS))=AC then(p.1,v)else p) (ks.map λkv=>if kv.1=q then(kv.1,x)else kv)
 |[],ks,h=>by cases h;exact rfl
 |(k,w)::t,ks,h=>by
  let#[q',y,s,rfl,rfl,rv,l]:=h;erw[AL,zeA,decide_eq_true_eq]
  by_cases e:q'=q
  .simp only[e,if_true];exact#[q,x,_,rfl,rfl,r,DT.map r l]
  .simp only[e,if_false];exact#[q',y,_,rfl,rfl,rv,DT.map r l]
theorem DK.snoc{q:Key}{v:PV}{x:V}(r:yh K cl B C H v x):∀{kvs:List (PV×PV)} {ks:List (Key×V)},DK K cl B C H kvs ks->DK K cl B C H (kvs++[(yaS q,v)]) (ks++[(q,x)])
 |[],ks,h=>by cases h;exact#[q,x,[],rfl,rfl,r,rfl]
 |(k,w)::t,ks,h=>by let#[q',y,s,rfl,rfl,rv,l]:=h;exact#[q',y,_,rfl,rfl,rv,DK.snoc r l]
theorem DT.snoc{q:List Key}{v:PV}{x:V}(r:yh K cl B C H v x):∀{kvs:List (PV×PV)} {ks:List (List Key×V)},DT K cl B C H kvs ks->DT K cl B C H (kvs++[(.tup (q.map yaS),v)]) (ks++[(q,x)])
 |[],ks,h=>by cases h;exact#[q,x,[],rfl,rfl,r,rfl]
 |(k,w)::t,ks,h=>by let#[q',y,s,rfl,rfl,rv,l]:=h;exact#[q',y,_,rfl,rfl,rv,DT.snoc r l]
theorem DK.put{q:Key}{v:PV}{x:V}{kvs:List (PV×PV)}{ks:List (Key×V)}(l:DK K cl B C H kvs ks)(r:yh K cl B C H v x):DK K cl B C H (IC.put (yaS q) v kvs) (putK ks q x):=by
 unfold IC.put putK;rw[DK.any l];split
 .exact DK.map r l
 .exact DK.snoc r l
theorem DT.put{q:List Key}{v:PV}{x:V}{kvs:List (PV×PV)}{ks:List (List Key×V)}(l:DT K cl B C H kvs ks)(r:yh K cl B C H v x):DT K cl B C H (IC.put (.tup (q.map yaS)) v kvs) (putK ks q x):=by
 unfold IC.put putK;rw[DT.any l];split
 .exact DT.map r l
 .exact DT.snoc r l
theorem DK.len:∀{kvs:List (PV×PV)} {ks:List (Key×V)},DK K cl B C H kvs ks->kvs.length=ks.length
 |[],ks,h=>by cases h;rfl
 |(k,w)::t,ks,h=>by let#[q',y,s,rfl,rfl,rv,l]:=h;simp[DK.len l]
theorem DT.len:∀{kvs:List (PV×PV)} {ks:List (List Key×V)},DT K cl B C H kvs ks->kvs.length=ks.length
 |[],ks,h=>by cases h;rfl
 |(k,w)::t,ks,h=>by let#[q',y,s,rfl,rfl,rv,l]:=h;simp[DT.len l]
theorem yH.dct{n:Nat}{t:Bool}{kvs:List (PV×PV)}{x:V}(rs:yH K cl B C H st)(r:yh K cl B C H (.loc n) x)(h:st[n]?=AA (.dct t kvs)):∃y,x=.ref y/\C[n]?=AA (AA y)/\ycw K cl B C H (.dct t kvs) y:=by erw[yh]at r;let#[hn,y,rfl,ha]:=r;let#[z,hz]:=rs.liv n _ h (by intro z;cases z);obtain rfl:=ha z hz;let#[o,ho,ro]:=rs.obj n z hz;rw[h]at ho;cases ho;exact#[z,rfl,hz,ro]
def zfe{v:PV}{t:Bool}{kvs:List (PV×PV)}(h:ybl st v=AA (t,kvs)):∃n,v=.loc n/\st[n]?=AA (.dct t kvs):=by
 cases v with
 |loc n=>
  erw[ybl]at h;split at h
  .rename_i t' xs q
   cases h
   exact#[n,rfl,q]
  .cases h
 |_=>cases h
def zjq{k:PV}(h:isKey AB k=AC):∃q,k=yaS q:=zjG h
def ziM{k:PV}(h:isKey AC k=AC):∃q:List Key,k=.tup (q.map yaS):=by
 cases k with
 |tp b xs=>
  cases b with
  |false=>
   let#[qs,rfl]:=zhZ h;exact#[qs,rfl]
  |true=>cases h
 |_=>cases h
def ziv{q:List Key}{x:V}(r:yh K cl B C H (.tup (q.map yaS)) x):∃y,x=.ref y/\H y=AA (.tup (q.map kV)):=by
 erw[yh]at r;let#[y,xs,rfl,rt,l]:=r;rcases rt with⟨rt,_⟩|⟨z,_⟩
 .exact#[y,rfl,by rw[rt,ze3 l]]
 .cases z
def zhV:PE X (.Dict [] [] pos) (tE S X (.dict0 AC)):=zrB.imp λE H Q #[B,C,st,U,rs,re,h]=>by erw[ev]at h;exact λp hp=>h _ _ (C++[AA p]) (.push hp) (rs.push hp (rs.nB hp) #[[],zu,rfl]) (.loc_new rs)
def zph(hu:X.A.units+1<cLine)(ha:PE X a (tE S X ca))(hb:PE X b (tE S X cb))(hc:PE X c (tE S X cc))(m:M2 X a "get" apos b c pos:=by exact#[rfl,rfl,rfl,rfl]):PE X (.Call (.Attribute a "get" apos) [b,c] [] pos) (tE S X (.mth .get ca (.cons cb (.cons cc .nil)))):=
 (zkl hu ha hb hc m).imp λE H Q #[B,C,st,U,rs,re,h]=>by
  erw[ev]at h;refine tE.bind rs re h λx H1 v st1 C1 s1 rs1 re1 rv h1=>?_;let#[_,e1,h1]:=zjw h1;erw[yaX]at e1
  cases q:ybl st1 v with
  |none=>rw[q]at e1;cases e1
  |some tk=>
   let#[t,kvs]:=tk;let#[n,rfl,hn]:=zfe q;let#[y,rfl,hy,ro]:=rs1.dct rv hn;refine#[y,rfl,?_,?_]
   .cases t with
    |false=>let#[ks,hk,_]:=ro;exact .inl #[ks,.inl hk]
    |true=>let#[ks,hk,_]:=ro;exact .inr #[ks,.inl hk]
   .simp only[evs,R.bind_assoc]at h1;refine tE.bind rs1 re1 h1 λkx H2 kv st2 C2 s2 rs2 re2 rk h2=>tE.bind rs2 re2 h2 λdx H3 dv st3 C3 s3 rs3 re3 rd h3=>?_;erw[R.bind]at h3;unfold ycy at h3;erw[yd4]at h3
    cases q3:ybl st3 (.loc n)with
    |none=>rw[q3]at h3;exact h3.elim
    |some tk3=>
     let#[t3,kvs3]:=tk3;rw[q3]at h3;dsimp only at h3;split at h3
     .rename_i hk;let#[n',e',hn3]:=zfe q3
      cases e'
      let#[y3,ey,hy3,ro3]:=rs3.dct ((rv.step s2).step s3) hn3
      cases ey
      have rk3:=rk.step s3
      cases t3 with
      |false=>
       let#[q,rfl]:=zjq hk;let#[ks,hks,l]:=ro3;refine#[ybO ks q,.inl #[ks,q,.inl hks,zrb.mp rk3,rfl],h3.ok rs3 (DK.look l rd)]
      |true=>
       let#[q,rfl]:=ziM hk;let#[ks,hks,l]:=ro3;let#[b',rfl,hb']:=ziv rk3;exact#[ybO ks q,.inr #[ks,q,b',.inl hks,rfl,hb',rfl],h3.ok rs3 (DT.look l rd)]
     .exact h3.elim
def zhQ{st4:SO}{x y v:PV}(h:ybs st x y v=AA st4):∃n t kvs,x=.loc n/\st[n]?=AA (.dct t kvs)/\isKey t y=AC/\kvs.length<1000000/\st4=st.set n (.dct t (IC.put y v kvs)):=by
 cases x with
 |loc n=>
  erw[ybs]at h;split at h
  .rename_i t kvs q;split at h
   .rename_i c;exact#[n,t,kvs,rfl,q,c.1,c.2,(A1 h).symm]
   .cases h
  .cases h
 |_=>cases h
def zne(hu:X.A.units+1<cLine)(ho:PE X b (tE S X cb))(hi:PE X c (tE S X cc))(hv:PE X a (tE S X ca))(hs:swapsWith a (AA (.Subscript b c px)) pos.line X.env=pure false:=by rfl):PS X (.Assign [.Subscript b c px] a pos) (tS S X (.dput cb cc ca)):=
 (znx hu ho hi hv hs).imp λD E H #[B,C,st,U,rs,re,h]=>by
  erw[ex]at h;refine tE.fl rs re h λv' H1 v st1 C1 s1 rs1 re1 rv h1=>tE.fl rs1 re1 h1 λx' H2 x st2 C2 s2 rs2 re2 rx h2=>tE.fl rs2 re2 h2 λy' H3 y st3 C3 s3 rs3 re3 ry h3=>?_
  cases e:ybs st3 x y v with
  |none=>rw[e]at h3;exact h3.elim
  |some st4=>
   rw[e]at h3;let#[n,t,kvs,rfl,hn,hk,hl,rfl]:=zhQ e;let#[l,rfl,hp,ro]:=rs3.dct (rx.step s3) hn;have rv3:=(rv.step s2).step s3;have hm:=zrg
   cases t with
   |false=>
    let#[q,rfl]:=zjq hk;let#[ks,hks,ld]:=ro;have s4:Step C3 H3 C3 (L2.upd H3 l (.dK (putK ks q v'))):=.put (A6 hp);refine#[l,_,rfl,.inl #[ks,q,hks,zrb.mp ry,by have:=ld.len;lia,rfl],h3 E _ C3 s4 (rs3.put hp #[_,zu,(ld.put rv3).step s4]) (re3.step s4)]
   |true=>
    let#[q,rfl]:=ziM hk;let#[ks,hks,ld]:=ro;let#[b',rfl,hb']:=ziv ry;have s4:Step C3 H3 C3 (L2.upd H3 l (.dT (putK ks q v'))):=.put (A6 hp);refine#[l,_,rfl,.inr #[ks,q,b',hks,rfl,hb',by have:=ld.len;lia,rfl],h3 E _ C3 s4 (rs3.put hp #[_,zu,(ld.put rv3).step s4]) (re3.step s4)]
end
section
variable {S:Se}{X:Cx}{C:St}{B:AI->Prop}{A:Ph}{H:Hp}{p pos p3 p4:C6}{a b tg:AV}{ca cb:Ce}
end
end L2
namespace WK
open PySem L2 IC
section
variable {K:AE}{cl:Nat->AI}{B:AI->Prop}{A:Ph}{H:Hp}
def zlN:yp K cl B A H [] []:=by erw[yp]
def ziz{v:PV}{x:V}{vs:List PV}{xs:List V}(h:yh K cl B A H v x)(l:yp K cl B A H vs xs):yp K cl B A H (v::vs) (x::xs):=by erw[yp];exact#[x,xs,rfl,h,l]
end
def zp5{P:Af}{w:Au}{outer:List Be}{H:Hp}{s:AJ}{e:AG}{s':AJ}(h:CX1 P w outer H s (λ_ _ _=>False) e s'):False:=by let#[_,_,_,_,_,_,_,_,_,_,_,_,_,_,z]:=h;exact z
def zi5{K:AE}{cl:Nat->AI}{B:AI->Prop}{A:Ph}{H:Hp}:∀ns:List Int,yp K cl B A H (ns.map .int) (ns.map V.int)
 |[]=>zlN
 |n::ns=>ziz (by erw[yh]) (zi5 ns)
def spX(K:AE)(call:Nat->List PV->SO->R PV)(fi:Nat):Sp:=λvs H Q E=>∀cl,spI K cl call fi vs H Q E
def ziD{K:AE}{call:Nat->List PV->SO->R PV}{fi:Nat}{H:Hp}{a:AI}{ns:List Int}(ht:∀ns:List Int,ns.length<=63->call fi [.scr (ns.map .int)] []=.ok (.bl AC) [])(hl:ns.length<=63)(hS:SqL K H a (ns.map V.int)):
  spX K call fi [.ref a] H (λv _=>v=.bl AC) λ_ _ _=>False:=by
 intro cl;refine#[λ_=>False,[],[],[.scr (ns.map .int)],#[rfl,λm n a e=>by simp at e,λn a e=>by simp at e,λn o e=>by simp at e,λa z=>by simp at z,λa z=>z.elim],ziz ?_ zlN,?_]
 .simp only[yh];refine#[a,_,rfl,?_,zi5 ns];rcases hS with hS|hS
  .exact .inl #[hS,λz=>z,by simp]
  .exact .inr hS
 .rw[ht ns hl];intro x H' A' _ _ r;simpa only[yh] using r
end WK
namespace L2
open PySem PySem.Spec PyProof.Rows IC
section
variable {X:Cx}{B:List (AI×CP)}{A:St}{H:Hp}{s:AJ}
end
section
variable {X:Cx}{body suite:List CH}{b₀:CH}{x n:AQ}{np hpos pos:C6}{W:AI}{i:Nat}
end
section
variable {S:Se}{X:Cx}{E:St}{B:AI->Prop}{A A1:Ph}{H H1:Hp}{st:SO}{U:IC.Env}{D:Ends}{body suite:List CH}{b₀:CH}{x n:AQ}{p p2 np hpos pos cpos:C6}{W:AI}{i:Nat}{cb ch:Css}{a e:AV}{es:List AV}{ca ce:Ce}{ces:Ces}
theorem all_nil{P:Nat->Prop}:∀c∈([]:List Nat),P c:=λ_ h=>by cases h
theorem all_cons{P:Nat->Prop}{c:Nat}{cs:List Nat}(h:P c)(t:∀d∈cs,P d):∀d∈c::cs,P d:=λd hd=>by
 rcases AN.mp hd with e|e
 .exact e ▸ h
 .exact t d e
structure ydG(K:AE)(mg:AQ->Option AG)(C:AI)(x:AQ):Prop where
 m:mg x=AA (.ref C)
 q:Fe K C [.type "ValueError",.type "Exception",.type "BaseException",.type "object"] "ValueError.__new__"=AC
end
section
variable {S:Se}{X:Cx}{p pos p2 px apos:C6}{a b:AV}{ca cb:Ce}
def GCI(mg:AQ->Option AG)(x:AQ)(i:Int):Prop:=∃t,mg x=AA (.int i t)
def zpf{x:AQ}{i:Int}(hg:Gl X x)(h:GCI X.mg x i)(hd:(x==("__debug__":AQ))=false:=by decide):PE X (.Name x pos) (tE S X (.cst (.int i))):=by
 let#[t,hm]:=h;exact(zdk hg hm (show RelV (.int i) (.int i t)from #[t,rfl]) hd).imp λC H Q #[B,A,st,U,rs,re,h]=>by erw[ev]at h;exact h.ok rs (by erw[yh])
end
end L2
namespace WE
open PySem PySem.Spec PyProof.Rows
section
variable {prog:Af}{w:Au}{A:BK}{E:AG->AJ->Prop}{s:AJ}
end
end WE
namespace L2
open PySem PySem.Spec PyProof.Rows
end L2
namespace L2
open PySem PySem.Spec PyProof.Rows IC
open Classical in
section
variable {S:Se}{X:Cx}{C:St}{B:AI->Prop}{A A1:Ph}{H H1:Hp}{st:SO}{U:IC.Env}{p pos p2 px py pt pt2:C6}{a b c d o a' b' c' d':AV}{ca cb cc cd ce cf:Ce}{D:List (AI×CP)}{s:AJ}{kt k2:Nat}{es:List AV}{ces:Ces}{x:AQ}
end
end L2
namespace IC
open PySem
end IC
namespace L2
open PySem PySem.Spec PyProof.Rows IC
section
variable {S:Se}{X:Cx}{C:St}{B:AI->Prop}{A:Ph}{H:Hp}{p p2 pos pos2 apos:C6}{a b tg:AV}{ca cb:Ce}
end
end L2
namespace WE
open PySem PySem.Spec PyProof.Rows
section
variable {pg:Af}{wd:Au}{A:BK}{Er:AG->AJ->Prop}{s:AJ}
theorem tit_keep{h h':BR}{i t:AI}{j:Nat}(u:h.IsTupleIter i t j)(k:∀o,h.get? i=AA o->h'.get? i=AA o):h'.IsTupleIter i t j:=let #[o,g,r]:=u;#[o,k o g,r]
def zc7{h h':BR}{t:AI}{xs:Array AG}(u:h.IsTuple t xs)(k:∀o,h.get? t=AA o->h'.get? t=AA o):h'.IsTuple t xs:=let #[o,g,r]:=u;#[o,k o g,r]
def Kz(z TO i1 i2:AI)(h h':BR):Prop:=∀c o,c≠z->c≠TO->c≠i1->c≠i2->h.get? c=AA o->h'.get? c=AA o
def zjB{z TI TO i1 i2 l1 l2:AI}{j:Nat}{xs ys:Array AG}{x y a b:AG}{Q:AG->AJ->Prop}(D:GP z TI TO i1 i2 l1 l2)
  (gz:E8 s.heap z TI TO .none) (gI:C9 s.heap TI (.ref i1) (.ref i2)) (gO:C9 s.heap TO a b) (u1:s.heap.IsTupleIter i1 l1 j) (u2:s.heap.IsTupleIter i2 l2 j) (t1:s.heap.IsTuple l1 xs) (t2:s.heap.IsTuple l2 ys) (ex:xs[j]?=AA x) (ey:ys[j]?=AA y)
  (k:∀h',E8 h' z TI TO (rawInt s.heap.objs.size)->C9 h' TO x y->h'.IsTupleIter i1 l1 (j+1)->h'.IsTupleIter i2 l2 (j+1)->C9 h' s.heap.objs.size x y->h'.objs.size=s.heap.objs.size+1->Kz z TO i1 i2 s.heap h'->Q (.ref s.heap.objs.size) {s with heap:=h'}):
  A8 (model pg wd) A (HX.«zip.__next__» #[[.ref z],[]]) (λf s'=>∃v,f=.done (.ret v)/\Q v s') Er s:=by
 show A8 _ _ (field (.ref z) 2 >>= _) _ _ _;refine AH (Bc gz rfl (x:=.bool AB) rfl ?_);show A8 _ _ (field (.ref z) 3 >>= _) _ _ _;refine AH (Bc gz rfl (x:=.ref TI) rfl ?_);refine AH (Cg gI rfl ?_);show A8 _ _ (Bm (.ref z) >>= _) _ _ _;refine AH ?_;unfold Bm;refine AH (Bc gz rfl (x:=.none) rfl (AW ?_));erw[if_true];refine AH (Et ?_);refine AH (Bc gz rfl (x:=.ref TO) rfl ?_);refine AH (Cj gz (by simp) λha za sa=>?_)
 replace za:E8 ha z TI TO .ellipsis:=za
 refine AH ?_;erw[G6,Go,FG,HE];refine AH (AH (Ff ?_));show A8 _ _ (B7 (.ref i1) >>= _) _ _ _;refine AH (zcJ (tit_keep u1 λo e=>sa.extBut _ _ D.i1z e) (zc7 t1 λo e=>sa.extBut _ _ D.l1z e) ex λhb ub sb=>AW ?_);have ob:C9 hb TO a b:=sb.extBut _ _ D.TOi1 (sa.extBut _ _ D.TOz gO);refine AH (Cg ob rfl ?_);refine AH (FR ob λhc oc sc=>?_)
 replace oc:C9 hc TO x b:=oc
 refine AH (wpAny_letGo (AW ?_));refine AH (AH (Ff ?_));show A8 _ _ (B7 (.ref i2) >>= _) _ _ _;refine AH (zcJ (tit_keep u2 λo e=>sc.extBut _ _ D.TOi2.symm (sb.extBut _ _ D.i12.symm (sa.extBut _ _ D.i2z e))) (zc7 t2 λo e=>sc.extBut _ _ D.l2TO (sb.extBut _ _ D.l2i1 (sa.extBut _ _ D.l2z e))) ey λhd ud sd=>AW ?_);have od:C9 hd TO x b:=sd.extBut _ _ D.TOi2 oc;refine AH (Cg od rfl ?_);refine AH (FR od λhe oe se=>?_)
 replace oe:C9 he TO x y:=oe
 refine AH (wpAny_letGo (AW (AW ?_)));refine AH (Cg oe rfl ?_);refine AH (wpAny_newTuple ?_);have sz:he.objs.size=s.heap.objs.size:=by rw[se.1,sd.1,sc.1,sb.1,sa.1]
 have ze:E8 he z TI TO .ellipsis:=se.extBut _ _ D.TOz.symm (sd.extBut _ _ D.i2z.symm (sc.extBut _ _ D.TOz.symm (sb.extBut _ _ D.i1z.symm za)));have ke:Kz z TO i1 i2 s.heap he:=λc o p1 p2 p3 p4 e=>se.extBut _ _ p2 (sd.extBut _ _ p4 (sc.extBut _ _ p2 (sb.extBut _ _ p3 (sa.extBut _ _ p1 e))));have v1:he.IsTupleIter i1 l1 (j+1):=tit_keep ub λo e=>se.extBut _ _ D.TOi1.symm (sd.extBut _ _ D.i12 (sc.extBut _ _ D.TOi1.symm e));have v2:he.IsTupleIter i2 l2 (j+1):=tit_keep ud λo e=>se.extBut _ _ D.TOi2.symm e;have lz:z<he.objs.size:=A2 ze;show A8 _ _ (DC (.ref z) (.ref he.objs.size) >>= _) _ _ _;refine AH ?_;unfold DC;have zf:E8 (he.push {cls:=.type "tuple",data:=.seq (List.toArray [x,y])}) z TI TO .ellipsis:=AR _ ze;refine AH (Cj zf (by simp) λhg zg sg=>?_)
 replace zg:E8 hg z TI TO (rawInt he.objs.size):=zg
 refine Cj zg (by simp) λhi zi si=>?_
 replace zi:E8 hi z TI TO (rawInt he.objs.size):=zi
 have up:∀c o,c≠z->he.get? c=AA o->hi.get? c=AA o:=λc o p e=>si.extBut _ _ p (sg.extBut _ _ p (AR _ e));have pn:C9 hi he.objs.size x y:=si.extBut _ _ (Eu lz) (sg.extBut _ _ (Eu lz) (Ac _ rfl));have si8:hi.objs.size=he.objs.size+1:=by rw[si.1,sg.1,CD]
 rw[sz]at zi pn si8;refine AW #[_,rfl,?_];show Q (.ref he.objs.size) _;rw[sz];exact k hi zi (up _ _ D.TOz oe) (tit_keep v1 λo e=>up _ o D.i1z e) (tit_keep v2 λo e=>up _ o D.i2z e) pn si8 λc o p1 p2 p3 p4 e=>up c o p1 (ke c o p1 p2 p3 p4 e)
def zko{z TI TO i1 i2 l1 l2:AI}{j:Nat}{xs:Array AG}{a b:AG}{Q:Fin->AJ->Prop}(hh:A.handled=AD)(D:GP z TI TO i1 i2 l1 l2)
  (gz:E8 s.heap z TI TO .none) (gI:C9 s.heap TI (.ref i1) (.ref i2)) (gO:C9 s.heap TO a b) (u1:s.heap.IsTupleIter i1 l1 j) (t1:s.heap.IsTuple l1 xs) (ex:xs[j]?=AD)
  (k:∀h' e,Kz z TO i1 i2 s.heap h'->(∃o,h'.get? e=AA o/\o.cls=.type "StopIteration")->Er (.ref e) {s with heap:=h'}):
  A8 (model pg wd) A (HX.«zip.__next__» #[[.ref z],[]]) Q Er s:=by
 show A8 _ _ (field (.ref z) 2 >>= _) _ _ _;refine AH (Bc gz rfl (x:=.bool AB) rfl ?_);show A8 _ _ (field (.ref z) 3 >>= _) _ _ _;refine AH (Bc gz rfl (x:=.ref TI) rfl ?_);refine AH (Cg gI rfl ?_);show A8 _ _ (Bm (.ref z) >>= _) _ _ _;refine AH ?_;unfold Bm;refine AH (Bc gz rfl (x:=.none) rfl (AW ?_));erw[if_true];refine AH (Et ?_);refine AH (Bc gz rfl (x:=.ref TO) rfl ?_);refine AH (Cj gz (by simp) λha za sa=>?_)
 replace za:E8 ha z TI TO .ellipsis:=za
 refine AH ?_;erw[G6,Go,FG,HE];refine AH (AH (Ff ?_));show A8 _ _ (B7 (.ref i1) >>= _) _ _ _;refine AH (zfl hh (tit_keep u1 λo e=>sa.extBut _ _ D.i1z e) (zc7 t1 λo e=>sa.extBut _ _ D.l1z e) ex λhb e sb he=>?_);let#[oe,ge,ce]:=he;have zb:E8 hb z TI TO .ellipsis:=sb _ _ D.i1z.symm za;have ne:e≠z:=λq=>by subst q;rw[zb]at ge;cases ge;simp at ce
 exact Cj zb (by simp) λhc _ sc=>k hc e (λc o p1 _ p3 _ q=>sc.extBut _ _ p1 (sb _ _ p3 (sa.extBut _ _ p1 q))) #[oe,sc.extBut _ _ ne ge,ce]
theorem pyNext_zipT{z TI TO i1 i2 l1 l2:AI}{j:Nat}{xs ys:Array AG}{x y a b:AG}{Q:Option AG->AJ->Prop}(D:GP z TI TO i1 i2 l1 l2)
  (gz:E8 s.heap z TI TO .none) (gI:C9 s.heap TI (.ref i1) (.ref i2)) (gO:C9 s.heap TO a b) (u1:s.heap.IsTupleIter i1 l1 j) (u2:s.heap.IsTupleIter i2 l2 j) (t1:s.heap.IsTuple l1 xs) (t2:s.heap.IsTuple l2 ys) (ex:xs[j]?=AA x) (ey:ys[j]?=AA y)
  (k:∀h',E8 h' z TI TO (rawInt s.heap.objs.size)->C9 h' TO x y->h'.IsTupleIter i1 l1 (j+1)->h'.IsTupleIter i2 l2 (j+1)->C9 h' s.heap.objs.size x y->h'.objs.size=s.heap.objs.size+1->Kz z TO i1 i2 s.heap h'->Q (AA (.ref s.heap.objs.size)) {s with heap:=h'}):
  A8 (model pg wd) A (pyNext (.ref z)) Q Er s:=by have ty:s.TypeIs (.ref z) "zip":=#[_,gz,rfl];unfold pyNext;exact AH (wpAny_attempt (Bn (name:=AF "__next__") ty Dy (Cf Dy ty G7 (zjB D gz gI gO u1 u2 t1 t2 ex ey λh' a1 a2 a3 a4 a5 a6 a7=>AW (k h' a1 a2 a3 a4 a5 a6 a7)) (GQ _))))
theorem pyNext_zipE{z TI TO i1 i2 l1 l2:AI}{j:Nat}{xs:Array AG}{a b:AG}{Q:Option AG->AJ->Prop}(hh:A.handled=AD)(D:GP z TI TO i1 i2 l1 l2)
  (gz:E8 s.heap z TI TO .none) (gI:C9 s.heap TI (.ref i1) (.ref i2)) (gO:C9 s.heap TO a b) (u1:s.heap.IsTupleIter i1 l1 j) (t1:s.heap.IsTuple l1 xs) (ex:xs[j]?=AD)
  (k:∀h',Kz z TO i1 i2 s.heap h'->Q AD {s with heap:=h'}):A8 (model pg wd) A (pyNext (.ref z)) Q Er s:=by have ty:s.TypeIs (.ref z) "zip":=#[_,gz,rfl];unfold pyNext;refine AH (wpAny_attempt (Bn (name:=AF "__next__") ty Dy (Cf Dy ty G7 (zko hh D gz gI gO u1 t1 ex λh' e kk he=>?_) (GQ _))));let#[o,ho,hc]:=he;exact AH (wpAny_isInstance (T:="StopIteration") (b:=AC) #[o,ho,hc] isSubtype_stop (AW (k _ kk)))
end
abbrev ti(l:AI):Obj:={cls:=.type "tuple_iterator",data:=.fields (List.toArray [.ref l,.int 0 0])}
abbrev yhR(h:BR)(l1:AI):Heap:=h.push (ti l1)
abbrev yhS(h:BR)(l1 l2:AI):Heap:=(yhR h l1).push (ti l2)
abbrev yhT(h:BR)(l1 l2:AI):Heap:=(yhS h l1 l2).push {cls:=.type "tuple",data:=.seq (List.toArray [.ref h.objs.size,.ref (yhR h l1).objs.size])}
abbrev yhU(h:BR)(l1 l2:AI):Heap:=(yhT h l1 l2).push {cls:=.type "tuple",data:=.seq (List.toArray [.none,.none])}
abbrev yfw(h:BR)(l1 l2:AI):Heap:=(yhU h l1 l2).push {cls:=.type "zip",data:=.fields (List.toArray [.none,.bool AB,.bool AB,.ref (yhS h l1 l2).objs.size,.ref (yhT h l1 l2).objs.size])}
def zhC(l1 l2:AI)(xs ys:Array AG):
  Meets (HX.«zip.__new__» #[[.type "zip",.ref l1,.ref l2],[]]) (λ_ R s=>s.heap.IsTuple l1 xs/\s.heap.IsTuple l2 ys/\R (.ok (.ret (.ref (yhU s.heap l1 l2).objs.size))) {s with heap:=yfw s.heap l1 l2}):=
 .of_wp λprog w A R s h=>by
  let#[hp,g,d,tk,os]:=s;let#[q1,q2,h]:=h;have hsub:=sub_zip;have T1:GI (Gf #[hp,g,d,tk,os]) l1 xs:=q1;have T2:GI (Gf #[hp.push (ti l1),g,d,tk,os]) l2 ys:=zc7 q2 λo e=>AR _ e
  wp_walk using C2 T1,C2 T2
  exact#[_,rfl,h]
theorem call_zipT{pg:Af}{wd:Au}{A:BK}{Er:AG->AJ->Prop}{s:AJ}{l1 l2:AI}{xs ys:Array AG}{Q:AG->AJ->Prop}(t1:s.heap.IsTuple l1 xs)(t2:s.heap.IsTuple l2 ys)
  (k:∀h',E8 h' (s.heap.objs.size+4) (s.heap.objs.size+2) (s.heap.objs.size+3) .none->C9 h' (s.heap.objs.size+2) (.ref s.heap.objs.size) (.ref (s.heap.objs.size+1))->C9 h' (s.heap.objs.size+3) .none .none->h'.IsTupleIter s.heap.objs.size l1 0->h'.IsTupleIter (s.heap.objs.size+1) l2 0 ->
   (∀b o,s.heap.get? b=AA o->h'.get? b=AA o)->Q (.ref (s.heap.objs.size+4)) {s with heap:=h'}):A8 (model pg wd) A (call (.type "zip") [.ref l1,.ref l2]) Q Er s:=by
 refine callType_new F.called_zip ⋯ (F.typeCall_zip_2 _ _) (F.newCall_zip_2 _ _) (λobj=>F.args_object_init_3 obj _ _) F.entry_zip_new (zhC l1 l2 xs ys) #[t1,t2,?_];have n1:(yhR s.heap l1).objs.size=s.heap.objs.size+1:=CD ..;have n2:(yhS s.heap l1 l2).objs.size=s.heap.objs.size+2:=by rw[CD,n1]
 have n3:(yhT s.heap l1 l2).objs.size=s.heap.objs.size+3:=by rw[CD,n2]
 have n4:(yhU s.heap l1 l2).objs.size=s.heap.objs.size+4:=by rw[CD,n3]
 have kp:∀{h:BR} {o:CP} {b:AI} {u:CP},h.get? b=AA u->(h.push o).get? b=AA u:=λe=>AR _ e;have m5:(yfw s.heap l1 l2).get? (yhU s.heap l1 l2).objs.size=AA _:=Ac _ rfl;have m4:(yfw s.heap l1 l2).get? (yhT s.heap l1 l2).objs.size=AA _:=kp (Ac _ rfl);have m3:(yfw s.heap l1 l2).get? (yhS s.heap l1 l2).objs.size=AA _:=kp (kp (Ac _ rfl));have m2:(yfw s.heap l1 l2).get? (yhR s.heap l1).objs.size=AA _:=kp (kp (kp (Ac _ rfl)));have m1:(yfw s.heap l1 l2).get? s.heap.objs.size=AA _:=kp (kp (kp (kp (Ac _ rfl))));rw[n2,n3,n4]at m5;rw[n1,n2]at m3;rw[n3]at m4;rw[n1]at m2;show _/\_;rw[n4];exact#[#[_,m5,rfl],k _ m5 m3 m4 #[_,m1,rfl,rfl] #[_,m2,rfl,rfl] λb o e=>kp (kp (kp (kp (kp e))))]
end WE
namespace L2
open PySem PySem.Spec PyProof.Rows
def Itz(K:AE)(a b:AI):It:=
 #[λi H=>∃xs ys x y,SqT K H a xs/\SqT K H b ys/\xs[i]?=AA x/\ys[i]?=AA y,λi H v H'=>∃T,H T=AD/\v=.ref T/\∀xs ys x y,SqT K H a xs->SqT K H b ys->xs[i]?=AA x->ys[i]?=AA y->H'=upd H T (.tup [x,y]),λi H=>∃xs,SqT K H a xs/\xs.length=i]
def zhP{P:Af}{w:Au}{K:AE}{es:List AV}{kk:Nat}{pos:C6}(z TI TO i1 i2 a b:AI)(D:GP z TI TO i1 i2 a b):
  Turn P w K (.Tuple es kk pos) (Itz K a b) [z,TI,TO,i1,i2] z (λi h=>E8 h z TI TO .none/\C9 h TI (.ref i1) (.ref i2)/\(∃p q,C9 h TO p q)/\h.IsTupleIter i1 a i/\h.IsTupleIter i2 b i) where
 mem:=by simp
 obj:=λi h st c hc=>by
  let#[g0,g1,#[p,q,g2],#[o3,g3,_,d3],#[o4,g4,_,d4]]:=st;erw[AN,AU,or_false]at hc;rcases hc with rfl|rfl|rfl|rfl|rfl
  .exact#[_,g0,λv y=>nomatch y]
  .exact#[_,g1,λv y=>nomatch y]
  .exact#[_,g2,λv y=>nomatch y]
  .exact#[o3,g3,λv y=>by rw[d3]at y;cases y]
  .exact#[o4,g4,λv y=>by rw[d4]at y;cases y]
 keep:=λi h h' st k=>by let#[g0,g1,#[p,q,g2],g3,g4]:=st;exact#[k z (by simp) _ g0,k TI (by simp) _ g1,#[p,q,k TO (by simp) _ g2],WE.tit_keep g3 λo e=>k i1 (by simp) o e,WE.tit_keep g4 λo e=>k i2 (by simp) o e]
 item:=by
  intro X hP hw hK hc i B s A H E I hf st hg;subst hP hw hK;let#[xs,ys,x,y,hq1,hq2,hx,hy]:=hg;let#[its,rv,p1,_]:=I.tuple hq1;let#[jts,rw',p2,_]:=I.tuple hq2;let#[g0,g1,#[p,q,g2],g3,g4]:=st;let#[u,hu,ru]:=rv.get hx;let#[v,hv,rv2]:=rw'.get hy;refine WE.pyNext_zipT D g0 g1 g2 g3 g4 p1 p2 (by simpa using hu) (by simpa using hv) λh1 a1 a2 a3 a4 a5 a6 a7=>#[_,rfl,?_];refine wpAny_letOwnedTupleGo_zip a1 λh2 b1 b2=>?_;have lt:∀{c o},s.heap.get? c=AA o->s.heap.objs.size≠c:=λe=>Eu (A2 e);have hTz:s.heap.objs.size≠z:=lt g0;have hch:∀c o,c∉[z,TI,TO,i1,i2]->s.heap.get? c=AA o->h2.get? c=AA o:=λc o hn e=>b2.extBut _ _ (λz'=>hn (by simp[z'])) (a7 c o (λz'=>hn (by simp[z'])) (λz'=>hn (by simp[z'])) (λz'=>hn (by simp[z'])) (λz'=>hn (by simp[z'])) e);have new:yal X.prog X.w (upd H s.heap.objs.size (.tup [x,y])) h2 s.heap.objs.size (.tup [x,y]):=#[by show 2<=sizeLine;decide,[u,v],.cons ru (.cons rv2 .nil),_,b2.extBut _ _ hTz a5,rfl,_,rfl];have I2:=I.turnLaid (t':=s.toks) hf hch (AT _) new;have gI:C9 h1 TI (.ref i1) (.ref i2):=a7 _ _ D.TIz D.TITO D.TIi1 D.TIi2 g1;refine#[.ref s.heap.objs.size,_,I2,rfl,#[s.heap.objs.size,I.hok.fresh (AT _),rfl,λxs' ys' x' y' hx1 hy1 hx2 hy2=>?_],#[b1,b2.extBut _ _ D.TIz gI,#[_,_,b2.extBut _ _ D.TOz a2],WE.tit_keep a3 λo e=>b2.extBut _ _ D.i1z e,WE.tit_keep a4 λo e=>b2.extBut _ _ D.i2z e],λc hc=>?_]
  .rw[I.tuple_inj hx1 hq1,hx]at hx2;rw[I.tuple_inj hy1 hq2,hy]at hy2
   cases hx2
   cases hy2
   rfl
  .have hne:c≠s.heap.objs.size:=λz'=>by
    subst z';let#[o3,e3,_]:=g3;let#[o4,e4,_]:=g4;erw[AN,AU,or_false]at hc;rcases hc with z' | z' | z' | z' | z'
    .exact lt g0 z'
    .exact lt g1 z'
    .exact lt g2 z'
    .exact lt e3 z'
    .exact lt e4 z'
   rw[zm hne];exact(hf c hc).1
 done:=by intro X hP hw hK hc i B s A H E I hf st hg;subst hP hw hK;let#[xs,hq1,hx]:=hg;let#[its,rv,p1,_]:=I.tuple hq1;let#[g0,g1,#[p,q,g2],g3,g4]:=st;have hl:=rv.length;refine WE.pyNext_zipE (I.ok.hd hc) D g0 g1 g2 g3 p1 (by simp;lia) λh' kz=>#[rfl,I.turnedL (t':=s.toks) hf λc o hn e=>kz c o (λz'=>hn (by simp[z'])) (λz'=>hn (by simp[z'])) (λz'=>hn (by simp[z'])) (λz'=>hn (by simp[z'])) e]
 self:=λ_ _ _ _ _ st q=>G8 st.1 q
def yfP(K:AE)(ta:TA):TI:=λA H R=>ta A H λvs H1=>∃a b,vs=[.ref a,.ref b]/\(∃xs,SqT K H1 a xs)/\(∃ys,SqT K H1 b ys)/\R (Itz K a b) H1
def znj{X:Cx}{a b:AV}{es:List AV}{kk:Nat}{tp:C6}{ta:TA}{p pos:C6}(hg:Gl X "zip")(hm:X.mg "zip"=AD)(ha:PA X [a,b] ta)(hs:starEach [a,b] X.env=[(AB,eval a X.env),(AB,eval b X.env)]:=by rfl)(hs2:starEach [b] X.env=[(AB,eval b X.env)]:=by rfl):
  PI X (.Tuple es kk tp) (.Call (.Name "zip" p) [a,b] [] pos) (yfP X.K ta):=by
 intro B s A H R I h;refine Bf (zeg I hg hm boot_zip ?_);refine CS (thn (ha pos B s A H _ I h) λus s1 kq=>?_) (by rw[hs,hs2]) (by rw[hs2];rfl);let#[vs,H1,I1,r1,q1]:=kq;let#[l1,l2,rfl,#[xs,hq1],#[ys,hq2],q]:=q1
 cases r1 with
 |cons r rr=>
  cases rr with
  |cons r2 r3=>
   cases r3
   cases (show _=Ar l1 from r)
   cases (show _=Ar l2 from r2)
   let#[its,rv,pt1,_]:=I1.tuple hq1;let#[jts,rv2,pt2,_]:=I1.tuple hq2;have b1:l1<s1.heap.objs.size:=by let#[_,e,_]:=pt1;exact A2 e
   have b2:l2<s1.heap.objs.size:=by let#[_,e,_]:=pt2;exact A2 e
   refine WE.call_zipT pt1 pt2 λh1 g0 g1 g2 g3 g4 kp=>?_;refine G8 g0 ?_;refine#[_,[s1.heap.objs.size+4,s1.heap.objs.size+2,s1.heap.objs.size+3,s1.heap.objs.size,s1.heap.objs.size+1],_,_,H1,rfl,I1.kept (t':=s1.toks) kp,zhP _ _ _ _ _ l1 l2 (zipApart_new b1 b2),#[g0,g1,#[_,_,g2],g3,g4],λc hc=>?_,q];have hb2:s1.heap.objs.size<=c:=by
    erw[AN,AU,or_false]at hc;rcases hc with z' | z' | z' | z' | z'<;>subst z'
    .exact Db _ 4
    .exact Db _ 2
    .exact Db _ 3
    .exact AT _
    .exact Db _ 1
   exact I1.fpOk hb2 (I1.hok.fresh hb2)
end L2
namespace L2
open PySem PySem.Spec PyProof.Rows IC
inductive ycr(K:AE)(cl:Nat->AI)(w:Au):List (AQ×PV)->List CV->Prop
 |nil:ycr K cl w [] []
 |cons {k:AQ} {v:PV} {t:Hv} {u:AG} {x:V} {D:List (AQ×PV)} {es:List CV} (hr:RelV x u) (hv:∀B A H,yh K cl B A H v x) (h:ycr K cl w D es):ycr K cl w ((k,v)::D) (#[EU w.params k,.str k t,u] :: es)
def GD(K:AE)(w:Au)(mg:AQ->Option AG)(cl:Nat->AI)(x:AQ)(D:List (AQ×PV)):Prop:=
 ∃(y:AI) (es:Array CV) (ep:Nat),mg x=AA (.ref y)/\K.lookup y=AA #[.type "dict",AD,.dict es ep,(List.toArray [])]/\(y==sysModules)=AB/\ycr K cl w D es.toList/\(D.map (·.1)).Nodup
theorem ycr.pairs{K:AE}{cl:Nat->AI}{P:Af}{w:Au}{D:List (AQ×PV)}{es:List CV}(h:ycr K cl w D es):
  ∃vs:List (AQ×AG),Pairs (strKind P w) es vs/\(∀e∈es,∃k,(strKind P w).is k e.key=AC/\e.hash=(strKind P w).hash k)/\vs.map (·.1)=D.map (·.1) /\
   (∀s,(valueAt vs s).isSome=(ya7 s D).isSome)/\∀s v,ya7 s D=AA v->∃u x,valueAt vs s=AA u/\RelV x u/\∀B A H,yh K cl B A H v x:=by
 induction h with
 |nil=>exact#[[],.nil,λe he=>(by cases he),rfl,λs=>rfl,λs v e=>by cases e]
 |@cons k v t u x D es hr hv h ih=>
  let#[vs,h1,h2,h3,h4,h5]:=ih;have hat:∀s,valueAt ((k,u)::vs) s=if k=s then AA u else valueAt vs s:=λs=>by
   unfold valueAt;rw[CO]
   by_cases e:k=s
   .simp[e]
   .simp[e]
  refine#[(k,u)::vs,.cons (Dd P w k t) rfl h1,λe he=>?_,by rw[AL,AL,h3],λs=>?_,λs v' e=>?_]
  .rcases AN.1 he with rfl|he
   .exact#[k,Dd P w k t,rfl]
   .exact h2 e he
  .rw[hat,ya7]
   by_cases e:k=s
   .rw[if_pos e,if_pos (by simpa using e)];rfl
   .rw[if_neg e,if_neg (by simpa using e),h4]
  .rw[ya7]at e;rw[hat]
   by_cases q:k=s
   .rw[if_pos (by simpa using q)]at e
    cases e
    exact#[u,x,by rw[if_pos q],hr,hv]
   .rw[if_neg (by simpa using q)]at e;let#[u',x',e1,e2,e3]:=h5 s v' e;exact#[u',x',by rw[if_neg q];exact e1,e2,e3]
section
variable {S:Se}{X:Cx}{C:St}{B:AI->Prop}{A:Ph}{H:Hp}{st:SO}{pos p:C6}{a b i:AV}{ca cb:Ce}{x:AQ}{D:List (AQ×PV)}{ty:TE}
def ziK{y:AI}{es:Array CV}{ep:Nat}{E:List (AI×CP)}{s:AJ}(I:Inv X E C H s)(hk:X.K.lookup y=AA #[.type "dict",AD,.dict es ep,(List.toArray [])])(hn:(D.map (·.1)).Nodup){vs:List (AQ×AG)}(h1:Pairs (strKind X.prog X.w) es.toList vs)
  (h2:∀e∈es.toList,∃k,(strKind X.prog X.w).is k e.key=AC/\e.hash=(strKind X.prog X.w).hash k) (h3:vs.map (·.1)=D.map (·.1)):s.heap.DictOf (strKind X.prog X.w) y vs:=
 #[_,es,ep,I.kIn y _ hk,#[rfl,rfl,rfl],rfl,λe he=>h2 e (by simpa using he),h1,by rw[h3];exact hn]
def yer(S:Se)(X:Cx)(D:List (AQ×PV))(ty:TE):TE:=λC H Q=>ty C H λz H2=>∃s v,z=.str s/\ya7 s D=AA v/\∀x',(∀B A H,yh X.K S.cl B A H v x')->Q x' H2
def zmW(hg:Gl X x)(h:GD X.K X.w X.mg S.cl x D)(hi:PE X i ty)(hs:ydj i)(hd:(x==("__debug__":AQ))=false:=by decide):PE X (.Subscript (.Name x p) i pos) (yer S X D ty):=by let#[y,es,ep,hm,hk,hsy,hr,hn]:=h;let#[vs,h1,h2,h3,h4,h5]:=hr.pairs (P:=X.prog);intro E s C H Q I q0;refine ziT EZ.lookup hs (thn (zdk (v:=.ref y) hg hm rfl hd E s C H (λz H1=>z=.ref y/\ty C H1 λz H2=>∃s v,z=.str s/\ya7 s D=AA v/\∀x',(∀B A H,yh X.K S.cl B A H v x')->Q x' H2) I #[rfl,q0]) λu s1 kq=>?_);let#[z,H1,I1,rz,ez,q1]:=kq;refine thn (hi E s1 C H1 _ I1 q1) λiv s2 kq=>?_;let#[z2,H2,I2,rz2,sx,v,ez2,e,q2]:=kq;subst ez;subst ez2;obtain rfl:u=Ar y:=rz;let#[t,rfl]:=rz2;have dd:=ziK I2 hk hn h1 h2 h3;let#[u',x',e1,e2,e3]:=h5 sx v e;exact#[dd.typeIs,G9 (Dd X.prog X.w sx t) dd.mapOf e1 #[x',H2,I2.tok _,e2,q2 x' e3]]
def znT(hg:Gl X x)(h:GD X.K X.w X.mg S.cl x D)(hb:PE X b (tE S X cb))(hs:ydj b:=by exact λ_ _=>rfl)(hd:(x==("__debug__":AQ))=false:=by decide):PE X (.Subscript (.Name x p) b pos) (tE S X (.dix D cb)):=
 (zmW hg h hb hs hd).imp λC H Q #[B,A,st,U,rs,re,h]=>by
  erw[ev]at h;refine tE.bind rs re h λz H1 v st1 A1 s1 rs1 re1 rv h1=>?_;let#[w,e,q]:=zaJ h1 rs1
  cases v with
  |str sx=>
   erw[yh]at rv;exact#[sx,w,rv,e,λx' hx=>q x' H1 A1 .rfl rs1 (hx _ _ _)]
  |_=>cases e
def ygk(y:AI)(D:List (AQ×PV)):R2:=λx z H Q=>z=.ref y/\∃s,x=.str s/\Q (.bl (ya7 s D).isSome) H
def zok(hg:Gl X x)(h:GD X.K X.w X.mg S.cl x D)(ha:PE X a (tE S X ca))(hm:behindInMarks .In (.Name x p)=false:=by ac_rfl)(hd:(x==("__debug__":AQ))=false:=by decide):PE X (.Compare a [.In] [.Name x p] pos) (tE S X (.din ca D)):=by
 let#[y,es,ep,hmg,hk,hsy,hr,hn]:=h;let#[vs,h1,h2,h3,h4,h5]:=hr.pairs (P:=X.prog);have op:OpR X (compareOp .In) (ygk y D):=by intro E s C H z1 z2 v u Q I r1 r2 #[ez,sx,ex,q];subst ez;subst ex;obtain rfl:u=Ar y:=r2;let#[t,rfl]:=r1;have dd:=ziK I hk hn h1 h2 h3;refine wpAny_in_of (Dd X.prog X.w sx t) hsy dd.mapOf #[.bl (ya7 sx D).isSome,H,I.tok _,?_,q];rw[h4];rfl
 refine(zim op ha (zdk (v:=.ref y) hg hmg rfl hd) hm).imp λC H Q kq=>?_;let#[B,A,st,U,rs,re,h]:=kq;erw[ev]at h;refine tE.bind rs re h λz H1 v st1 A1 s1 rs1 re1 rv h1=>?_;let#[w,e,q]:=zaJ h1 rs1
 cases v with
 |str sx=>
  erw[yh]at rv
  cases e
  exact#[rfl,sx,rv,q _ H1 A1 .rfl rs1 (by erw[yh])]
 |_=>cases e
def zfu:∀(xs ys:List PV) (i:Nat) {x y:PV},xs[i]?=AA x->ys[i]?=AA y->(ya4 xs ys)[i]?=AA (.tup [x,y])
 |[],_,i,_,_,h,_=>by simp at h
 |_::_,[],i,_,_,_,h=>by simp at h
 |x::xs,y::ys,0,_,_,h1,h2=>by simp at h1 h2;simp[ya4,h1,h2]
 |x::xs,y::ys,i+1,_,_,h1,h2=>by erw[Ai]at h1 h2;erw[ya4,Ai];exact zfu xs ys i h1 h2
def zfm:∀(xs ys:List PV),xs.length<=ys.length->(ya4 xs ys).length=xs.length
 |[],_,_=>by simp[ya4]
 |_::_,[],h=>by simp at h
 |x::xs,y::ys,h=>by erw[ya4,A4,zfm xs ys (by simpa using h)]
def zmw{k j:Bool}{vs ws:List PV}{xs ys:List V}{y z:AI}(rt:ybV X.K B A H k y xs)(l:yp X.K S.cl B A H vs xs)(rt2:ybV X.K B A H j z ys)(l2:yp X.K S.cl B A H ws ys)(hle:vs.length<=ws.length):Drw S X B A H (ya4 vs ws) (Itz X.K y z):=by have hl:=l.length;have hl2:=l2.length;have hp:=zfm vs ws hle;refine#[λA' H' s=>#[xs,(rt.step s).sq,by lia],λi A' H' s hi=>#[xs,ys,xs[i]'(),ys[i]'(),(rt.step s).sq,(rt2.step s).sq,by simp[show i<xs.length by lia],by simp[show i<ys.length by lia]],λi A' H' st x H2 B' hB s rs hi q=>?_];let#[T,hT,rfl,q]:=q;obtain⟨v,hv⟩:∃v,vs[i]?=AA v:=#[vs[i]'(),by simp[show i<vs.length by lia]];obtain⟨w,hw⟩:∃w,ws[i]?=AA w:=#[ws[i]'(),by simp[show i<ws.length by lia]];let#[x',hx',rv]:=l.get i hv;let#[y',hy',rw']:=l2.get i hw;have e:=q xs ys x' y' (rt.step s).sq (rt2.step s).sq hx' hy';subst e;refine#[.tup [v,w],zfu vs ws i hv hw,.tup_new hT rs ?_,λb o e=>by rw[zm (zq e hT)];exact e];erw[yp];exact#[x',[y'],rfl,(rv.moreB hB).step s,y',[],rfl,(rw'.moreB hB).step s,rfl]
def zpj{es:List AV}{kk:Nat}{tp:C6}(hg:Gl X "zip")(hm:X.mg "zip"=AD)(ha:PE X a (tE S X ca))(hb:PE X b (tE S X cb))(hs:starEach [a,b] X.env=[(AB,eval a X.env),(AB,eval b X.env)]:=by rfl)(hs2:starEach [b] X.env=[(AB,eval b X.env)]:=by rfl):
  PI X (.Tuple es kk tp) (.Call (.Name "zip" p) [a,b] [] pos) (tI S X (.zip ca cb)):=
 (znj hg hm (zbS ha (zbS hb zq2 hs2) (by rw[hs,hs2])) hs hs2).imp λC H R #[B,A,st,U,rs,re,h]=>by
  erw[IC.vi0,IC.vi1,IC.vi2,IC.vi3,IC.vi4,IC.vi5,IC.vi6,IC.vi7,IC.vi8]at h;refine tE.bind rs re h λx H1 v st1 A1 s1 rs1 re1 rv h1=>tE.bind rs1 re1 h1 λy H2 w st2 A2 s2 rs2 re2 rw h2=>?_;let#[zs,e,h2]:=zis h2
  cases v with
  |tp k vs=>
   cases w with
   |tp j ws=>
    erw[yd6]at e
    by_cases hle:vs.length<=ws.length
    .rw[if_pos hle]at e
     cases e
     erw[yh]at rv rw;let#[a1,xs,rfl,rt,l]:=rv;let#[a2,ys,rfl,rt2,l2]:=rw;exact#[a1,a2,rfl,#[xs,(rt.step s2).sq],#[ys,rt2.sq],h2.ok rs2 (zmw (rt.step s2) (l.step s2) rt2 l2 hle)]
    .rw[if_neg hle]at e
     cases e
   |_=>cases e
  |_=>cases e
end
section
variable {K:AE}{cl:Nat->AI}{B:AI->Prop}{A:Ph}{H:Hp}{st:SO}
end
section
variable {S:Se}{X:Cx}{K:AE}{cl:Nat->AI}{C:St}{B:AI->Prop}{A A1:Ph}{H H1:Hp}{st:SO}{U:IC.Env}{pos p p2 px:C6}{a b c o tg l elt iter:AV}{ca cb cc ce:Ce}{ci:Cit}{ct:Tg}
end
section
variable {K:AE}{cl:Nat->AI}{B:AI->Prop}{A:Ph}{H:Hp}{st:SO}
theorem FS.lookup{f:AQ}:∀{fs:List (AQ×PV)} {ks:List (AQ×V)},FS K cl B A H fs ks->(∀v,fs.lookup f=AA v->∃x,ks.lookup f=AA x/\yh K cl B A H v x)/\(fs.lookup f=AD->ks.lookup f=AD)
 |[],ks,h=>by
  cases (show ks=[]from h)
  exact#[nofun,λ_=>rfl]
 |(k,v)::r,ks,h=>by
  let#[x,s,rfl,rv,l]:=h;let#[q1,q2]:=FS.lookup (f:=f) l;erw[CC]
  cases e:f==k with
  |true=>exact#[λw z=>by cases z;exact#[x,rfl,rv],λz=>by cases z]
  |false=>exact#[q1,q2]
theorem FS.put{f:AQ}{v:PV}{x:V}(r:yh K cl B A H v x):∀{fs:List (AQ×PV)} {ks:List (AQ×V)},FS K cl B A H fs ks->FS K cl B A H (yb4 f v fs) (ybc f x ks)
 |[],ks,h=>by
  cases (show ks=[]from h)
  exact#[x,[],rfl,r,rfl]
 |(k,w)::q,ks,h=>by
  let#[y,s,rfl,ry,l]:=h;erw[yb4,ybc]
  by_cases c:k=f
  .rw[if_pos c,if_pos c];exact#[x,s,rfl,r,l]
  .rw[if_neg c,if_neg c];exact#[y,_,rfl,ry,FS.put r l]
theorem FS.len:∀{fs:List (AQ×PV)} {ks:List (AQ×V)},FS K cl B A H fs ks->fs.length=ks.length
 |[],ks,h=>by cases (show ks=[]from h);rfl
 |(k,w)::q,ks,h=>by let#[y,s,rfl,ry,l]:=h;simp[FS.len l]
theorem yH.ins{n c:Nat}{fs:List (AQ×PV)}{x:V}(rs:yH K cl B A H st)(r:yh K cl B A H (.loc n) x)(h:st[n]?=AA (.ins c fs)):∃y ks dx,x=.ref y/\A[n]?=AA (AA y)/\H y=AA (.ins (cl c) dx ks)/\FS K cl B A H fs ks:=by
 erw[yh]at r;let#[hn,y,rfl,hy]:=r;let#[a,ha]:=rs.liv n _ h (by intro z;cases z);let#[o,ho,ro]:=rs.obj n a ha;have e:=hy a ha;subst e;rw[h]at ho
 cases ho
 let#[ks,#[dx,q],l]:=ro;exact#[a,ks,dx,rfl,ha,q,l]
end
section
variable {S:Se}{X:Cx}{J:St}{B:AI->Prop}{G G1:Ph}{H H1:Hp}{st:SO}{U:IC.Env}{p pos pos' p2 apos:C6}{a b d o e:AV}{ca cb cc:Ce}{es:List AV}{ces:Ces}{c i k:Nat}{f m x:AQ}{fa:AI}{fd:BQ}{ps:List AQ}
def zg4{st:SO}{x v:PV}(h:ybb c st x f=AA v):∃n fs,x=.loc n/\st[n]?=AA (.ins c fs)/\fs.lookup f=AA v:=by
 cases x with
 |loc n=>
  erw[ybb]at h;split at h
  .rename_i dd fs e;split at h
   .rename_i q;subst q;exact#[n,fs,rfl,e,h]
   .cases h
  .cases h
 |_=>cases h
def zgI{st st4:SO}{x v:PV}(h:ybd c st x f v=AA st4):∃n fs,x=.loc n/\st[n]?=AA (.ins c fs)/\fs.length<1000/\st4=st.set n (.ins c (yb4 f v fs)):=by
 cases x with
 |loc n=>
  erw[ybd]at h;split at h
  .rename_i dd fs e;split at h
   .rename_i q;let#[q,q2]:=q;subst q
    cases h
    exact#[n,fs,rfl,e,q2,rfl]
   .cases h
  .cases h
 |_=>cases h
def zkS{st:SO}{x:PV}{t:Bool}(h:ycn c m st x=AA t):∃n fs,x=.loc n/\st[n]?=AA (.ins c fs)/\fs.lookup m=none:=by
 cases x with
 |loc n=>
  erw[ycn]at h;split at h
  .rename_i dd fs e;split at h
   .rename_i q;let#[q,q2]:=q;subst q;exact#[n,fs,rfl,e,q2]
   .cases h
  .cases h
 |_=>cases h
def zpw(hc:Cls X.K (S.cl c))(hn:yaF X.K (S.cl c) f)(ha:PE X a (tE S X ca))(hb:attributeBase a f X.env (eval a X.env)=eval a X.env:=by rfl):PE X (.Attribute a f pos) (tE S X (.fld c ca f)):=
 (zpJ ha hb).imp λJ H Q #[B,G,st,U,rs,re,h]=>by erw[ev]at h;refine tE.bind rs re h λx H1 v st1 G1 s1 rs1 re1 rv h1=>?_;let#[z,e,q]:=zaJ h1 rs1;let#[n,fs,rfl,hn',l]:=zg4 e;let#[y,ks,dx,rfl,_,hy,lr]:=rs1.ins rv hn';let#[x,hx,rx]:=lr.lookup.1 z l;exact#[y,S.cl c,dx,ks,x,rfl,hy,hc,hn,hx,q x H1 G1 .rfl rs1 rx]
def zpb(hc:Cls X.K (S.cl c))(hn:yaF X.K (S.cl c) f)(ha:PE X a (tE S X ca))(hv:PE X b (tE S X cb))(hs:swapsWith b (AA (.Attribute a f pos')) pos.line X.env=pure false:=by rfl):PS X (.Assign [.Attribute a f pos'] b pos) (tS S X (.sfl c ca f cb)):=
 (zot ha hv hs).imp λD J H #[B,G,st,U,rs,re,h]=>by
  erw[ex]at h;refine tE.fl rs re h λv' H1 v st1 G1 s1 rs1 re1 rv h1=>tE.fl rs1 re1 h1 λx' H2 x st2 G2 s2 rs2 re2 rx h2=>?_
  cases e:ybd c st2 x f v with
  |none=>rw[e]at h2;exact h2.elim
  |some st4=>
   rw[e]at h2;let#[n,fs,rfl,hn',hl,rfl]:=zgI e;let#[y,ks,dx,rfl,hp,hy,lr]:=rs2.ins rx hn';refine#[y,S.cl c,dx,ks,rfl,hy,hc,hn,by rw[<-lr.len];exact hl,?_];have s4:Step G2 H2 G2 (L2.upd H2 y (.ins (S.cl c) dx (ybc f v' ks))):=.put (A6 hp);exact h2 J _ G2 s4 (rs2.put (o:=.ins c (yb4 f v fs)) hp #[_,#[dx,zu],(FS.put (rv.step s2) lr).step s4]) (re2.step s4)
theorem noX:ybS (CX1 X.prog X.w) X (λ_ _ _=>False):=λL J H s e s' _ z=>by let#[_,_,_,_,_,_,_,_,_,_,_,_,_,_,z]:=z;exact z.elim
def zjd{vs:List PV}{xs:List V}{Q:VK}{rs:yH X.K S.cl B G H st}(l:yp X.K S.cl B G H vs xs)(h:Run S X J B G H (RV S X B) ((ybM (S.call i (.loc st.length::vs) (st++[.ins c []]))).bind λv st2=>newV st.length v st2) Q):
  ∀x dx,H x=AD->H dx=AD->dx≠x->spI X.K S.cl S.call i (.ref x::xs) (L2.upd (L2.upd H dx (.own x)) x (.ins (S.cl c) dx [])) (λv H2=>v=.non/\Q (.ref x) H2) (λ_ _ _=>False):=by
 intro x dx hx hdx ne;have hx':L2.upd H dx (.own x) x=none:=by rw[zm (B0 ne)];exact hx
 have t1:Step G H G (L2.upd H dx (.own x)):=.upd hdx;have rs1:=rs.upd (o:=.own x) hdx;have t2:Step G (L2.upd H dx (.own x)) (G++[AA x]) (L2.upd (L2.upd H dx (.own x)) x (.ins (S.cl c) dx [])):=.push hx';have rs2:=rs1.push hx' (rs1.nB hx') (o:=.ins c []) #[[],#[dx,zu],rfl];have ll:yh X.K S.cl B (G++[AA x]) (L2.upd (L2.upd H dx (.own x)) x (.ins (S.cl c) dx [])) (.loc st.length) (.ref x):=.loc_new rs1;refine#[B,G++[AA x],st++[.ins c []],.loc st.length::vs,rs2,?_,?_]
 .simp only[yp];exact#[.ref x,xs,rfl,ll,(l.step t1).step t2]
 .cases e:S.call i (.loc st.length::vs) (st++[.ins c []])with
  |ok v st'=>
   rw[e]at h;erw[ybM,R.bind]at h
   cases v with
   |non=>
    intro z H' G' s rs' rz;erw[yh]at rz;exact#[rz,h (.ref x) H' G' ((t1.trans t2).trans s) rs' (ll.step s)]
   |_=>exact h.elim
  |exc k s=>rw[e]at h;exact h.elim
  |bad=>rw[e]at h;exact h.elim
def zpQ(M:Mk X.K (S.cl c) fa)(F:yaW X.prog X.w X.K X.mg X.base (CX1 X.prog X.w) k fa fd ps (spI X.K S.cl S.call i))(hr:yaI (k+1) X.A)(hg:Gl X x)(hm:X.mg x=AA (.ref (S.cl c)))(hb:Binds X.K fd ps [])
  (ha:PA X (e::es) (tAs S X ces)) (hdb:(x==("__debug__":AQ))=false:=by decide) (he:starEach (e::es) X.env=(AB,eval e X.env)::starEach es X.env:=by rfl) (hpl:(backTo pos (starEach es X.env)).any (·.1)=false:=by rfl):
  PE X (.Call (.Name x p) (e::es) [] pos) (tE S X (.new c i ces)):=
 (zmm M F hr hg hm hb .nil noX ha hdb he hpl).imp λJ H Q #[B,G,st,U,rs,re,h]=>by erw[ev]at h;refine tAs.bind rs re h λxs H1 vs st1 G1 s1 rs1 re1 rv h1=>?_;rw[Aj];exact zjd (rs:=rs1) rv h1
def ycf(CX:CXT)(X:Cx)(C:AI)(m:AQ)(sp:Sp)(ta:TE)(t:TA):TE:=λJ H Q=>ta J H λx H1=>∃y dx fs,x=.ref y/\H1 y=AA (.ins C dx fs)/\fs.lookup m=AD/\t J H1 λvs H2=>∃E:XK,sp (.ref y::vs) H2 Q E/\∀L s e s',Inv X L J H2 s->CX X.stack H2 s E e s'->X.xe e s'
def zkJ{CX:CXT}{sp:Sp}{C:AI}{ta:TE}{t:TA}{pl:HQ Bool}(he:PE X o ta)(c:Cls X.K C)(hm:Meth X.K C m fa)(F:yaW X.prog X.w X.K X.mg X.base CX k fa fd ps sp)(hr:yaI k X.A)(hb:Binds X.K fd ps [])(ha:PA X (e::es) t)
  (hst:starEach (e::es) X.env=(AB,eval e X.env)::starEach es X.env:=by rfl) (hpl:(backTo pos (starEach es X.env)).any (·.1)=false:=by rfl)
  (ht:eval (.Call (.Attribute o m apos) (e::es) [] pos) X.env=(do
   let ov <-eval o X.env
   standAt apos.atName
   let (f,first) <-holding [ov] (getMethod ov m pl)
   callWith pos f first (backTo pos (starEach (e::es) X.env)) (backToKw pos (keywordEach [] X.env))):=by rfl):
  PE X (.Call (.Attribute o m apos) (e::es) [] pos) (ycf CX X C m sp ta t):=by intro L s J H Q I h;refine FL (pl:=pl) (thn (he L s J H _ I h) λu s1 kq=>?_) ht;let#[x,H1,I1,rx,y,dx,fs,ex,ea,l,q]:=kq;subst ex;obtain rfl:u=Ar y:=rx;refine zei I1 ea c hm l ?_;refine DJ (first:=[.ref y]) (h₀:=X.base) I.ok.mod.kin hm.kp (thn (ha pos L s1 J H1 _ I1 q) λus s2 kq=>?_) hst hpl;let#[vs,H2,I2,r,E,q2,hx]:=kq;refine #[I2.kIn,?_];exact zdl (us:=.ref y::us) (vs:=.ref y::vs) F hr hb .nil I2 (.cons rfl r) (by rw[Aj];exact q2) λe s' z=>hx L s2 e s' I2 z
def zij{CX:CXT}{sp:Sp}{C:AI}{ta:TE}{pl:HQ Bool}(he:PE X o ta)(c:Cls X.K C)(hm:Meth X.K C m fa)(F:yaW X.prog X.w X.K X.mg X.base CX k fa fd ps sp)(hr:yaI k X.A)(hb:Binds X.K fd ps [])
  (ht:eval (.Call (.Attribute o m apos) [] [] pos) X.env=(do
   let ov <-eval o X.env
   standAt apos.atName
   let (f,first) <-holding [ov] (getMethod ov m pl)
   callWith pos f first (backTo pos (starEach [] X.env)) (backToKw pos (keywordEach [] X.env))):=by rfl):
  PE X (.Call (.Attribute o m apos) [] [] pos) (ycf CX X C m sp ta ydD):=by intro L s J H Q I h;refine FL (pl:=pl) (thn (he L s J H _ I h) λu s1 kq=>?_) ht;let#[x,H1,I1,rx,y,dx,fs,ex,ea,l,E,q2,hx]:=kq;subst ex;obtain rfl:u=Ar y:=rx;refine zei I1 ea c hm l ?_;exact F8 (first:=[.ref y]) I1.kIn hm.kp (zdl (us:=[.ref y]) (vs:=[.ref y]) F hr hb .nil I1 (.cons rfl .nil) q2 λe s' z=>hx L s1 e s' I1 z)
def ze4{Q:VK}{t:TA}(hq:∀{H1:Hp} {G1:Ph} {st1:SO} {P:List V->Hp->Prop} {kk:List PV->SO->R PV},yH X.K S.cl B G1 H1 st1->yZ X.K S.cl B G1 H1 U J->Run S X J B G1 H1 (RV S X B) ((evs S.call U st1 ces).bind kk) Q ->
   (∀xs H2 vs st2 G2,Step G1 H1 G2 H2->yH X.K S.cl B G2 H2 st2->yZ X.K S.cl B G2 H2 U J->yp X.K S.cl B G2 H2 vs xs->Run S X J B G2 H2 (RV S X B) (kk vs st2) Q->P xs H2)->t J H1 P)
  (rs:yH X.K S.cl B G H st) (re:yZ X.K S.cl B G H U J) (h:Run S X J B G H (RV S X B) ((ev S.call U st ca).bind λx st1=>onO (ycn c m st1 x) λ_=>(evs S.call U st1 ces).bind λvs st2=>S.call i (x::vs) st2) Q):
  ycf (CX1 X.prog X.w) X (S.cl c) m (spI X.K S.cl S.call i) (tE S X ca) t J H Q:=by
 refine tE.bind rs re h λx H1 v st1 G1 s1 rs1 re1 rv h1=>?_
 cases q:ycn c m st1 v with
 |none=>rw[q]at h1;exact h1.elim
 |some b=>
  rw[q]at h1;erw[onO]at h1;let#[n,fs,rfl,hn,hl]:=zkS q;let#[y,ks,dx,rfl,_,hy,lr]:=rs1.ins rv hn;refine#[y,dx,ks,rfl,hy,lr.lookup.2 hl,hq rs1 re1 h1 λxs H2 vs st2 G2 s2 rs2 re2 rl h2=>?_];exact zbc rs2 (by erw[yp];exact#[.ref y,xs,rfl,rv.step s2,rl]) h2
def zoh{pl:HQ Bool}(hc:Cls X.K (S.cl c))(hm:Meth X.K (S.cl c) m fa)(F:yaW X.prog X.w X.K X.mg X.base (CX1 X.prog X.w) k fa fd ps (spI X.K S.cl S.call i))(hr:yaI k X.A)(hb:Binds X.K fd ps [])
  (ho:PE X o (tE S X ca)) (ha:PA X (e::es) (tAs S X ces))
  (hst:starEach (e::es) X.env=(AB,eval e X.env)::starEach es X.env:=by rfl) (hpl:(backTo pos (starEach es X.env)).any (·.1)=false:=by rfl)
  (ht:eval (.Call (.Attribute o m apos) (e::es) [] pos) X.env=(do
   let ov <-eval o X.env
   standAt apos.atName
   let (f,first) <-holding [ov] (getMethod ov m pl)
   callWith pos f first (backTo pos (starEach (e::es) X.env)) (backToKw pos (keywordEach [] X.env))):=by rfl):
  PE X (.Call (.Attribute o m apos) (e::es) [] pos) (tE S X (.mcl c i m ca ces)):=
 (zkJ ho hc hm F hr hb ha hst hpl ht).imp λJ H Q #[B,G,st,U,rs,re,h]=>by erw[ev]at h;exact ze4 (λrs1 re1 h1 n=>tAs.bind rs1 re1 h1 n) rs re h
def zmG{pl:HQ Bool}(hc:Cls X.K (S.cl c))(hm:Meth X.K (S.cl c) m fa)(F:yaW X.prog X.w X.K X.mg X.base (CX1 X.prog X.w) k fa fd ps (spI X.K S.cl S.call i))(hr:yaI k X.A)(hb:Binds X.K fd ps [])
  (ho:PE X o (tE S X ca))
  (ht:eval (.Call (.Attribute o m apos) [] [] pos) X.env=(do
   let ov <-eval o X.env
   standAt apos.atName
   let (f,first) <-holding [ov] (getMethod ov m pl)
   callWith pos f first (backTo pos (starEach [] X.env)) (backToKw pos (keywordEach [] X.env))):=by rfl):
  PE X (.Call (.Attribute o m apos) [] [] pos) (tE S X (.mcl c i m ca .nil)):=
 (zij ho hc hm F hr hb ht).imp λJ H Q #[B,G,st,U,rs,re,h]=>by erw[ev]at h;refine ze4 (t:=ydD) (λ{H1 G1 st1 P kk} rs1 re1 h1 n=>?_) rs re h;erw[IC.vs0,IC.vs1,R.bind]at h1;exact n [] H1 [] st1 G1 .rfl rs1 re1 (by erw[yp]) h1
end
inductive ycs(w:Au)(fa:Nat->AI):List (AQ×Nat)->List CV->Prop
 |nil:ycs w fa [] []
 |cons {k:AQ} {i:Nat} {t:Hv} {D:List (AQ×Nat)} {es:List CV} (h:ycs w fa D es):ycs w fa ((k,i)::D) (#[EU w.params k,.str k t,.ref (fa i)] :: es)
def GDF(K:AE)(w:Au)(mg:AQ->Option AG)(fa:Nat->AI)(x:AQ)(D:List (AQ×Nat)):Prop:=
 ∃(y:AI) (es:Array CV) (ep:Nat),mg x=AA (.ref y)/\K.lookup y=AA #[.type "dict",AD,.dict es ep,(List.toArray [])]/\ycs w fa D es.toList/\(D.map (·.1)).Nodup
theorem ycs.pairs{P:Af}{w:Au}{fa:Nat->AI}{D:List (AQ×Nat)}{es:List CV}(h:ycs w fa D es):
  ∃vs:List (AQ×AG),Pairs (strKind P w) es vs/\(∀e∈es,∃k,(strKind P w).is k e.key=AC/\e.hash=(strKind P w).hash k)/\vs.map (·.1)=D.map (·.1) /\
   ∀s i,D.lookup s=AA i->valueAt vs s=AA (.ref (fa i)):=by
 induction h with
 |nil=>exact#[[],.nil,λe he=>(by cases he),rfl,λs v e=>by cases e]
 |@cons k i t D es h ih=>
  let#[vs,h1,h2,h3,h5]:=ih;have hat:∀s,valueAt ((k,Ar (fa i))::vs) s=if k=s then AA (.ref (fa i))else valueAt vs s:=λs=>by
   unfold valueAt;rw[CO]
   by_cases e:k=s
   .simp[e]
   .simp[e]
  refine#[(k,.ref (fa i))::vs,.cons (Dd P w k t) rfl h1,λe he=>?_,by rw[AL,AL,h3],λs j e=>?_]
  .rcases AN.1 he with rfl|he
   .exact#[k,Dd P w k t,rfl]
   .exact h2 e he
  .rw[hat];erw[CC]at e
   by_cases q:k=s
   .subst q;rw[beq_self_eq_true]at e
    cases e
    rw[if_pos rfl]
   .rw[beq_eq_false_iff_ne.2 (B0 q)]at e;rw[if_neg q];exact h5 s j e
section
variable {S:Se}{X:Cx}{G:St}{B:AI->Prop}{C:Ph}{H:Hp}{st:SO}{U:IC.Env}{pos p p1 p2 p3 p4 p5 p6 p7:C6}{a b i e n:AV}{es:List AV}{ca cn:Ce}{ces:Ces}{x y:AQ}{D:List (AQ×Nat)}{ty:TE}{t:TA}{fa:Nat->AI}{fdd:Nat->BQ}{ps:Nat->List AQ}{k ix:Nat}
def ydK(D:List (AQ×Nat))(fa:Nat->AI)(ty:TE):TE:=λG H Q=>ty G H λz H2=>∃s j,z=.str s/\D.lookup s=AA j/\Q (.ref (fa j)) H2
def zks(hg:Gl X x)(h:GDF X.K X.w X.mg fa x D)(hi:PE X i ty)(hs:ydj i)(hd:(x==("__debug__":AQ))=false:=by decide):PE X (.Subscript (.Name x p) i pos) (ydK D fa ty):=by let#[y,es,ep,hm,hk,hr,hn]:=h;let#[vs,h1,h2,h3,h5]:=hr.pairs (P:=X.prog);intro J s G H Q I q0;refine ziT EZ.lookup hs (thn (zdk (v:=.ref y) hg hm rfl hd J s G H (λz H1=>z=.ref y/\ty G H1 λz H2=>∃s j,z=.str s/\D.lookup s=AA j/\Q (.ref (fa j)) H2) I #[rfl,q0]) λu s1 kq=>?_);let#[z,H1,I1,rz,ez,q1]:=kq;refine thn (hi J s1 G H1 _ I1 q1) λiv s2 kq=>?_;let#[z2,H2,I2,rz2,sx,j,ez2,e,q2]:=kq;subst ez;subst ez2;obtain rfl:u=Ar y:=rz;let#[t,rfl]:=rz2;have dd:s2.heap.DictOf (strKind X.prog X.w) y vs:=#[_,es,ep,I2.kIn y _ hk,#[rfl,rfl,rfl],rfl,λe he=>h2 e (by simpa using he),h1,by rw[h3];exact hn];exact#[dd.typeIs,G9 (Dd X.prog X.w sx t) dd.mapOf (h5 sx j e) #[.ref (fa j),H2,I2.tok _,rfl,q2]]
structure Makers(S:Se)(X:Cx)(k:Nat)(D:List (AQ×Nat))(fa:Nat->AI)(fdd:Nat->BQ)(ps:Nat->List AQ):Prop where
 F:∀s j,D.lookup s=AA j->yaW X.prog X.w X.K X.mg X.base (CX1 X.prog X.w) k (fa j) (fdd j) (ps j) (spI X.K S.cl S.call j)
 kp:∀s j,D.lookup s=AA j->BH X.K (.ref (fa j))=AC
 b:∀s j,D.lookup s=AA j->Binds X.K (fdd j) (ps j) []
def ydU(S:Se)(X:Cx)(D:List (AQ×Nat))(fa:Nat->AI)(ix:Nat)(t:TA):TE:=λG H Q=>∃s j,D.lookup s=AA j/\G[ix]?=AA (AA (.ref (fa j)))/\t G H λvs H1=>∃E:XK,spI X.K S.cl S.call j vs H1 Q E/\∀J s e s',Inv X J G H1 s->CX1 X.prog X.w X.stack H1 s E e s'->X.xe e s'
def zk7(M:Makers S X k D fa fdd ps)(hr:yaI k X.A)(hN:X.N[ix]?=AA x)(hv:Vis X.env.scope x)(ha:PA X (e::es) t)
  (hd:(x==("__debug__":AQ))=false:=by decide) (hcd:(x==("__classdict__":AQ))=false:=by decide) (he:starEach (e::es) X.env=(AB,eval e X.env)::starEach es X.env:=by rfl) (hpl:(backTo pos (starEach es X.env)).any (·.1)=false:=by rfl):
  PE X (.Call (.Name x p) (e::es) [] pos) (ydU S X D fa ix t):=by intro J s G H Q I #[sx,j,hl,hs,h];refine Bf (thn (zlP hN hv hd hcd J s G H (λz H1=>z=.ref (fa j)/\t G H1 λvs H1=>∃E:XK,spI X.K S.cl S.call j vs H1 Q E/\∀J s e s',Inv X J G H1 s->CX1 X.prog X.w X.stack H1 s E e s'->X.xe e s') I #[_,hs,rfl,h]) λu s1 kq=>?_);let#[z,H1,I1,rz,ez,q1]:=kq;subst ez;obtain rfl:u=Ar (fa j):=rz;refine DJ (h₀:=X.base) I.ok.mod.kin (M.kp sx j hl) (thn (ha pos J s1 G H1 _ I1 q1) λus s2 kq=>?_) he hpl;let#[vs,H2,I2,r,E,q,hx]:=kq;refine #[I2.kIn,?_];exact zdl (M.F sx j hl) hr (M.b sx j hl) .nil I2 r (by rw[Aj];exact q) λe s' c=>hx J s2 e s' I2 c
theorem yZ.hole{K:AE}{cl:Nat->AI}{v:V}(re:yZ K cl B C H U G):yZ K cl B C H (U.set ix AD) (G.set ix (AA v)):=by
 refine#[by simp[re.len],λj w e=>?_]
 by_cases q:ix=j
 .subst q
  by_cases hj:ix<U.length
  .rw[Ag hj]at e;cases e
  .rw[Bd (by simp;lia)]at e;cases e
 .rw[AO q]at e ⊢;exact re.get j w e
def zjS{v:PV}{j:Nat}{b:Bool}(h:mkV D b v=AA j):∃s,v=.str s/\D.lookup s=AA j/\b=true:=by
 cases v with
 |str s=>
  cases b with
  |true=>exact#[s,rfl,h,rfl]
  |false=>cases h
 |_=>cases h
def zpi(M:Makers S X k D fa fdd ps)(hr:yaI k X.A)(hN:X.N.Nodup)(hi:X.N[ix]?=AA x)(hx:Loc X.env.scope x)(hv:Vis X.env.scope x)(hg:Gl X y)(hd:GDF X.K X.w X.mg fa y D)(hn:PE X n (tE S X cn))(ha:PA X (e::es) (tAs S X ces))
  (hs:ydj n:=by exact λ_ _=>rfl) (hsw:swapsWith (.Subscript (.Name y p2) n p3) (AA (.Name x p1)) p4.line X.env=pure false:=by rfl) (hf:X.fn x=AC \/ X.env.scope.names.lookup x=AA .local:=by first|exact .inl rfl|exact .inr rfl|assumption)
  (hyd:(y==("__debug__":AQ))=false:=by decide) (hxd:(x==("__debug__":AQ))=false:=by decide) (hcd:(x==("__classdict__":AQ))=false:=by decide) (he:starEach (e::es) X.env=(AB,eval e X.env)::starEach es X.env:=by rfl) (hpl:(backTo p6 (starEach es X.env)).any (·.1)=false:=by rfl):
  PSs X [.Assign [.Name x p1] (.Subscript (.Name y p2) n p3) p4,.Return (AA (.Call (.Name x p5) (e::es) [] p6)) p7] (tSs S X (.cons (.mkr ix D cn ces) .nil)):=
 (zgG (zle hN hi hx (zks hg hd hn hs hyd) hsw hf) (zm4 (zlt (zk7 M hr hi hv ha hxd hcd he hpl)))).imp λD' G H #[B,C,st,U,rs,re,h]=>by
  have h:yaU S X B C H (ex S.call U st (.mkr ix D cn ces)) D':=by
   erw[IC.xq0,IC.xq1]at h
   cases q:ex S.call U st (.mkr ix D cn ces)with
   |nx U' s'=>
    exfalso;erw[ex]at q
    cases q1:ev S.call U st cn with
    |ok v1 s1=>
     rw[q1]at q;erw[R.fl]at q;split at q
     .rename_i j _
      cases q2:(evs S.call (U.set ix AD) s1 ces).bind λvs st2=>S.call j vs st2 with
      |ok v2 s2=>rw[q2]at q;cases q
      |exc c s2=>rw[q2]at q;cases q
      |bad=>rw[q2]at q;cases q
     .cases q
    |exc c s1=>rw[q1]at q;cases q
    |bad=>rw[q1]at q;cases q
   |rt v s'=>rw[q]at h;exact h
   |bk U' s'=>rw[q]at h;exact h
   |ct U' s'=>rw[q]at h;exact h
   |exc c U' s'=>rw[q]at h;exact h
   |bad=>rw[q]at h;exact h
  erw[ex]at h;refine tE.fl rs re h λx' H1 v st1 C1 s1 rs1 re1 rv h1=>?_
  cases q:mkV D (decide (ix<U.length)) v with
  |none=>rw[q]at h1;exact h1.elim
  |some j=>
   rw[q]at h1;let#[sx,rfl,hl,hb]:=zjS q;erw[yh]at rv;subst rv;have hlen:ix<G.length:=by rw[<-re1.len];exact of_decide_eq_true hb
   refine#[sx,j,rfl,hl,sx,j,hl,by rw[Ag hlen],B,C1,st1,U.set ix AD,rs1,re1.hole,?_];dsimp only at h1
   cases q2:evs S.call (U.set ix AD) st1 ces with
   |bad=>rw[q2]at h1;exact h1
   |exc c s2=>rw[q2]at h1;exact λe s' z=>h1 _ C1 H1 e s' .rfl re1.hole z
   |ok vs st2=>
    rw[q2]at h1;intro xs H2 C2 s2 rs2 rl;have h2:yaU S X B C1 H1 ((S.call j vs st2).fl (U.set ix AD) λv st3=>.rt v st3) D':=h1;refine zbc rs2 rl ?_
    cases q3:S.call j vs st2 with
    |bad=>rw[q3]at h2;exact h2
    |ok v st3=>rw[q3]at h2;exact λx H' C' s' rs' rv=>h2 x H' C' (s2.trans s') rs' rv
    |exc c st3=>rw[q3]at h2;exact λe s' z=>h2 _ C2 H2 e s' s2 (re1.hole.step s2) z
end
section
variable {P:Af}{w:Au}{K:AE}{mg:AQ->Option AG}{base:BR}{cl:Nat->AI}{T:Nat->Option IC.Fn}{fi:Nat}{fn:IC.Fn}{x qual:AQ}{stm:CH}{f:AI}{fd:BQ}{N ps:List AQ}{k m:Nat}
def zkd:yaW P w K mg base (CX1 P w) m f fd ps (spI K cl (yd T 0) fi):=
 #[λvs H Q E #[_,_,_,_,_,_,h]=>by rw[yd]at h;exact h.elim,λA outer s H args us vs Q E _ _ _ _ #[_,_,_,_,_,_,h]=>by rw[yd]at h;exact h.elim]
end
section
variable {P:Af}{w:Au}{K:AE}{mg:AQ->Option AG}{base:BR}{cl:Nat->AI}{T:Nat->Option IC.Fn}{fi:Nat}{fn:IC.Fn}{x qual:AQ}{stm:CH}{f:AI}{fd:BQ}{N ps:List AQ}{k m:Nat}
end
section
variable {S:Se}{X:Cx}{C:St}{B:AI->Prop}{A:Ph}{H:Hp}{st:SO}{U:IC.Env}{p pos:C6}{e:AV}{es:List AV}{ces:Ces}{fi k:Nat}{x:AQ}{f:AI}{fd:BQ}{ps:List AQ}
end
end L2
namespace L2
open PySem IC
section
variable {S:Se}{X:Cx}{C:St}{B:AI->Prop}{A A1:Ph}{H H1:Hp}{st:SO}{U:IC.Env}{p pos p2 px py pt pt2:C6}{a b c d o a' b' c' d':AV}{ca cb cc cd ce cf:Ce}{D:List (AI×CP)}{s:AJ}{kt k2:Nat}{es:List AV}{ces:Ces}{x:AQ}
end
end L2
namespace L2
open PySem PySem.Spec PyProof.Rows
section
variable {X:Cx}
end
end L2
namespace L2
open PySem PySem.Spec PyProof.Rows IC
section
variable {S:Se}{X:Cx}{C:St}{B:AI->Prop}{A A1:Ph}{H H1:Hp}{st:SO}{U:IC.Env}{p pos p2 apos:C6}{a b c d:AV}{ca cb cc:Ce}{es:List AV}{ces:Ces}{K:AE}{cl:Nat->AI}
end
section
variable {S:Se}{X:Cx}{a b:AV}{c i:Nat}{j:Int}{f:AQ}{pos tpos:C6}
def zoG(hc:Cls X.K (S.cl c))(hn:yaF X.K (S.cl c) f)(ha:PE X a (tE S X (.var i)))(hv:PE X b (tE S X (.cst (.int j)))):
  PS X (.AugAssign (.Attribute a f tpos) .Add b pos) (tS S X (.sfl c (.var i) f (.bin .add (.fld c (.var i) f) (.cst (.int j))))):=
 (zjI ha hv zoN).imp λD C H #[B,A,st,U,rs,re,h]=>by
  erw[ex,ev]at h
  cases q:U[i]? with
  |none=>rw[q]at h;exact h.elim
  |some o=>
   cases o with
   |none=>rw[q]at h;exact h.elim
   |some x=>
    rw[q]at h;dsimp only[R.bind]at h;refine#[B,A,st,U,rs,re,?_];erw[ev,q];intro x' H1 A1 s1 rs1 rx;have re1:=re.step s1;have h:=yaU.on s1 h
    cases e:ybb c st x f with
    |none=>rw[e]at h;exact h.elim
    |some v=>
     rw[e]at h;let#[n,fs,rfl,hn',l]:=zg4 e;let#[y,ks,dx,rfl,hp,hy,lr]:=rs1.ins rx hn';let#[x,hx,rxv]:=lr.lookup.1 v l;refine#[y,S.cl c,dx,ks,x,rfl,hy,hc,hn,hx,#[B,A1,st,U,rs1,re1,?_]];erw[ev];intro y' H2 A2 s2 rs2 ry;erw[yh]at ry;subst ry
     cases v with
     |int k=>
      erw[yh]at rxv;subst rxv;refine#[k,j,rfl,rfl,?_];have h:yaU S X B A1 H1 (match ybd c st (.loc n) f (.int (k+j))with|some st3=>Fl.nx U st3|none=>Fl.bad) D:=h;have h:=yaU.on s2 h;have rx2:=rx.step s2;let#[y2,ks2,dx2,e2,hp2,hy2,lr2]:=rs2.ins rx2 hn'
      cases e2
      cases e3:ybd c st (.loc n) f (.int (k+j))with
      |none=>rw[e3]at h;exact h.elim
      |some st4=>
       rw[e3]at h;let#[n',fs',z,hn2,hl,rfl]:=zgI e3
       cases z
       rw[hn']at hn2
       cases hn2
       refine#[dx2,ks2,hy2,by rw[<-lr2.len];exact hl,?_];have s4:Step A2 H2 A2 (L2.upd H2 y (.ins (S.cl c) dx2 (ybc f (.int (k+j)) ks2))):=.put (A6 hp2);exact h C _ A2 s4 (rs2.put (o:=.ins c (yb4 f (.int (k+j)) fs)) hp2 #[_,#[dx2,zu],(FS.put (by erw[yh]) lr2).step s4]) ((re1.step s2).step s4)
     |_=>exact h.elim
end
end L2
namespace HT
open PySem PySem.Spec PyProof.Rows
section
variable {prog:Af}{w:Au}{A:BK}{E:AG->AJ->Prop}{s:AJ}
end
end HT
namespace L2
open PySem PySem.Spec PyProof.Rows IC
section
variable {S:Se}{X:Cx}{pos p2:C6}{e e3:AV}{te t3:TE}{a:AV}{ca c3:Ce}
end
section
variable {X:Cx}{prog:Af}{w:Au}{A:BK}{E:AG->AJ->Prop}{s:AJ}
end
section
variable {S:Se}{X:Cx}{pos px:C6}{a:AV}{ca:Ce}
end
end L2
namespace L2
open PySem PySem.Spec PyProof.Rows IC WK
inductive GK where
 |fn (i:Nat)|fnD (i:Nat)|cst (v:PV)|dct (D:List (AQ×PV))|exc (c:Nat)|cls (c i:Nat)
structure Gs where
 g:AQ->Option GK
 b:AQ->Bool
 t:Ty->Bool
 fl:Nat->AQ->Bool
 me:Nat->AQ->Option Nat
 kb:Nat->Nat->List AQ->Option (List (Option Int))
 mr:AQ->Option (List (AQ×Nat))
structure Kx where
 N:List AQ
 sc:Bq
 own:Bool
def Fo(m:Nat)(S:Se)(X:Cx)(i:Nat)(f:AI)(fd:BQ)(ps:List AQ):Prop:=yaW X.prog X.w X.K X.mg X.base (CX1 X.prog X.w) m f fd ps (spI X.K S.cl S.call i)
structure Glo(J:Gs)(m:Nat)(S:Se)(X:Cx):Prop where
 F:∀x i,J.g x=AA (.fn i)->∃f fd ps,Fo m S X i f fd ps/\X.mg x=AA (.ref f)/\BH X.K (.ref f)=AC/\Binds X.K fd ps []
 Q:∀x i np ks sh,J.g x=AA (.fnD i)->J.kb i np ks=AA sh->∃f fd ps,Fo m S X i f fd ps/\X.mg x=AA (.ref f)/\BH X.K (.ref f)=AC/\∃g,ybT X.K fd ps ks g (gK np sh)
 C:∀x v,J.g x=AA (.cst v)->GC X.K X.mg S.cl x v \/ ∃i,v=.int i/\GCI X.mg x i
 D:∀x d,J.g x=AA (.dct d)->GD X.K X.w X.mg S.cl x d
 E:∀x c,J.g x=AA (.exc c)->ydG X.K X.mg (S.cl c) x
 N:∀x c i,J.g x=AA (.cls c i)->X.mg x=AA (.ref (S.cl c))/\∃f fd ps,Mk X.K (S.cl c) f/\Fo m S X i f fd ps/\Binds X.K fd ps []
 B:∀x,J.b x=AC->X.mg x=AD
 T:∀t,J.t t=AC->yfa X.K t
 A:∀c f,J.fl c f=AC->Cls X.K (S.cl c)/\yaF X.K (S.cl c) f
 M:∀c n i,J.me c n=AA i->Cls X.K (S.cl c)/\∃f fd ps,Meth X.K (S.cl c) n f/\Fo m S X i f fd ps/\Binds X.K fd ps []
 K:∀y D,J.mr y=AA D->∃fa fdd ps,Makers S X m D fa fdd ps/\GDF X.K X.w X.mg fa y D
structure Good(J:Gs)(L:Kx)(m:Nat)(S:Se)(X:Cx):Prop where
 n:X.N=L.N
 sc:X.env.scope=L.sc
 calm:X.calm=AC
 room:yaI (m+1) X.A
 own:L.own=AC->Ei (model X.prog X.w) X.A X.env X.xe/\(∀x,X.fn x=AC)/\S.may=AC
 glo:Glo J m S X
abbrev Pr(P:Prop):Type:=Option (PLift P)
abbrev YE(J:Gs)(L:Kx)(e:AV)(c:Ce):Prop:=∀m S X,Good J L m S X->PE X e (tE S X c)
abbrev YT(J:Gs)(L:Kx)(e:AV)(c:Ce):Prop:=∀m S X,Good J L m S X->PT X e (tTs S X c)
abbrev YW(J:Gs)(L:Kx)(e:AV)(c:Ce):Prop:=∀m S X,Good J L m S X->PW X e (tTs S X c)
abbrev YA(J:Gs)(L:Kx)(e:List AV)(c:Ces):Prop:=∀m S X,Good J L m S X->PA X e (tAs S X c)
abbrev YO(J:Gs)(L:Kx)(e:Option AV)(c:Ce):Prop:=∀m S X,Good J L m S X->PO X e (tO S X c)
abbrev YS(J:Gs)(L:Kx)(s:CH)(c:Cs):Prop:=∀m S X,Good J L m S X->PS X s (tS S X c)
abbrev YSs(J:Gs)(L:Kx)(s:List CH)(c:Css):Prop:=∀m S X,Good J L m S X->PSs X s (tSs S X c)
def an{P Q:Prop}(a:Pr P)(k:P->Pr Q):Pr Q:=match a with
 |some h=>k h.down
 |none=>AD
def ok{P:Prop}(h:P):Pr P:=AA #[h]
def ask(p:Prop)[Decidable p]:Pr p:=if h:p then AA #[h]else AD
def nst:AV->Bool
 |.Starred _ _=>AB
 |_=>AC
def zgH{a:AV}{es:List AV}{env:Be}(h:nst a=AC):starEach (a::es) env=(AB,eval a env)::starEach es env:=by cases a<;>first|rfl|cases h
def ycb(es:List AV):Bool:=es.all nst
theorem stars{pos:C6}{env:Be}:∀{es:List AV},ycb es=AC->(backTo pos (starEach es env)).any (·.1)=AB
 |[],_=>rfl
 |a::es,h=>by erw[ycb,Bl,AK]at h;rw[zgH h.1];have:=stars (pos:=pos) (env:=env) (es:=es) h.2;simpa [backTo] using this
def nco:AV->Bool
 |.ListComp ..=>AB
 |.SetComp ..=>AB
 |.DictComp ..=>AB
 |_=>AC
theorem swp{a:AV}{t:Option AV}{l:Nat}{env:Be}(h:nco a=AC):swapsWith a t l env=pure false:=by cases a<;>first|rfl|cases h
def nse:AV->Bool
 |.Set ..=>AB
 |_=>AC
theorem fse{a:AV}{env:Be}(h:nse a=AC):∀x,foldedSetIterable a env x=pure x:=by cases a<;>first|exact λ_=>rfl|cases h
theorem nmk{op:Fa}{a:AV}(h:nse a=AC):behindInMarks op a=false:=by cases a<;>first|rfl|cases h
def nsl:AV->Bool
 |.Slice ..=>AB
 |_=>AC
theorem pix{a:AV}(h:nsl a=AC):ybL a:=by cases a<;>first|exact λ_ _=>rfl|cases h
theorem nos{a:AV}(h:nsl a=AC):ydj a:=pix h
def ntu:AV->Bool
 |.Tuple ..=>AB
 |_=>AC
def nte:AV->Bool
 |.UnaryOp ..=>AB
 |.BoolOp ..=>AB
 |.IfExp ..=>AB
 |.Compare ..=>AB
 |_=>AC
theorem itr{a:AV}{env:Be}(h:nte a=AC):∀whole,isTrue a env whole=(do let v <-whole;standAt a.pos;holding [v] (truthy v)):=by cases a<;>first|exact λ_=>rfl|cases h
def nca:AV->Bool
 |.Call ..=>AB
 |_=>AC
def zq7{a:AV}{f:AQ}{env:Be}{w:HQ AG}(h:nca a=AC):attributeBase a f env w=w:=by cases a<;>first|rfl|cases h
def mOp(op:Dp)(o:BOp):Pr (∀S X,OpR X (binaryOp op) (rT2 S X (yI o))):=
 match op,o with
 |.Add,.add=>ok (λ_ _=>zoJ)
 |.Sub,.sub=>ok (λ_ _=>zpW)
 |.Mult,.mul=>ok (λ_ _=>zo0)
 |.FloorDiv,.fdiv=>ok (λ_ _=>zmR)
 |.Mod,.mod=>ok (λ_ _=>znZ)
 |.Pow,.pow=>ok (λ_ _=>zn8)
 |.LShift,.shl=>ok (λ_ _=>zn5)
 |.RShift,.shr=>ok (λ_ _=>zoY)
 |.BitAnd,.band=>ok (λ_ _=>zmh)
 |.BitOr,.bor=>ok (λ_ _=>zoP)
 |.BitXor,.bxor=>ok (λ_ _=>znu)
 |_,_=>AD
def mCm(op:Fa)(o:COp):Pr (∀m S X,yaI m X.A->OpR X (compareOp op) (rT2 S X (yP o))):=
 match op,o with
 |.Eq,.eq=>ok (λ_ _ _ r=>zqW r.units)
 |.NotEq,.ne=>ok (λ_ _ _ r=>zqU r.units)
 |.Lt,.lt=>ok (λ_ _ _ _=>zqo)
 |.LtE,.le=>ok (λ_ _ _ _=>zqh)
 |.Gt,.gt=>ok (λ_ _ _ _=>zqk)
 |.GtE,.ge=>ok (λ_ _ _ _=>zqI)
 |.In,.isin=>ok (λ_ _ _ _=>zqx)
 |_,_=>AD
def yd7(sc:Bq)(x:AQ):Bool:=match sc.names.lookup x with
 |some .local=>AC
 |some .cell=>AC
 |some .free=>AC
 |_=>AB
def zjP{sc:Bq}{x:AQ}(h:yd7 sc x=AC):Vis sc x:=by
 unfold yd7 at h;split at h
 .exact .inl ‹_›
 .exact .inr (.inl ‹_›)
 .exact .inr (.inr ‹_›)
 .cases h
def yed(sc:Bq)(x:AQ):Bool:=match sc.names.lookup x with
 |some .local=>AC
 |some .cell=>AC
 |_=>AB
def zjM{sc:Bq}{x:AQ}(h:yed sc x=AC):Loc sc x:=by
 unfold yed at h;split at h
 .exact .inl ‹_›
 .exact .inr ‹_›
 .cases h
def pln(x:AQ):Bool:=!(x==("__debug__":AQ))&&!(x==("__classdict__":AQ))&&!(x==("__name__":AQ))
def zhM{x:AQ}(h:pln x=AC):(x==("__debug__":AQ))=false:=by erw[pln,AK,Cp]at h;exact h.1.1
def zrc{x:AQ}(h:pln x=AC):(x==("__classdict__":AQ))=false:=by erw[pln,AK,Cp]at h;exact h.1.2
def zrd{x:AQ}(h:pln x=AC):x ≠ "__name__":=by erw[pln,AK,Cp]at h;intro e;rw[e]at h;exact absurd h.2 ⋯
def glB(L:Kx)(x:AQ):Bool:=decide (L.sc.names.lookup x=AA .globalImplicit)&&pln x
def zaC{J:Gs}{L:Kx}{m:Nat}{S:Se}{X:Cx}(G:Good J L m S X){x:AQ}(h:glB L x=AC):Gl X x:=by erw[glB,AK,decide_eq_true_eq]at h;show X.env.scope.names.lookup x=_;rw[G.sc];exact h.1
def zbW{L:Kx}{x:AQ}(h:glB L x=AC):pln x=true:=by erw[glB,AK]at h;exact h.2
def setB(L:Kx)(i:Nat)(x:AQ):Bool:=decide (L.N[i]?=AA x)&&decide L.N.Nodup&&yed L.sc x&&(L.own || decide (L.sc.names.lookup x=AA .local))&&pln x
structure yex(X:Cx)(i:Nat)(x:AQ):Prop where
 d:X.N.Nodup
 i:X.N[i]?=AA x
 l:Loc X.env.scope x
 f:X.fn x=AC \/ X.env.scope.names.lookup x=AA .local
 p:pln x=AC
def zbX{J:Gs}{L:Kx}{m:Nat}{S:Se}{X:Cx}(G:Good J L m S X){i:Nat}{x:AQ}(h:setB L i x=AC):yex X i x:=by
 erw[setB,AK,DG,decide_eq_true_eq]at h;let#[#[#[#[h1,h2],h3],h4],h5]:=h;refine#[by rw[G.n];exact h2,by rw[G.n];exact h1,by rw[G.sc];exact zjM h3,?_,h5];rcases h4 with h4|h4
 .exact .inl ((G.own h4).2.1 x)
 .exact .inr (by rw[G.sc];exact h4)
def gFn(J:Gs)(x:AQ)(i:Nat):Pr (J.g x=AA (.fn i)):=match h:J.g x with
 |some (.fn j)=>if e:j=i then AA #[by subst e;rfl]else AD
 |_=>AD
section
variable {J:Gs}{L:Kx}{ca cb cc:Ce}{ces:Ces}
def yfj(v:PV)(e:AV):Pr (YE J L e (.cst v)):=
 match e with
 |.Constant (.int i) _ _=>match v with
  |.int j=>an (ask (i=j)) λh=>ok (λ_ _ _ _=>by cases h;exact zpL)
  |_=>AD
 |.Constant (.bool i) _ _=>match v with
  |.bl j=>an (ask (i=j)) λh=>ok (λ_ _ _ _=>by cases h;exact zqd)
  |_=>AD
 |.Constant .none _ _=>match v with
  |.non=>ok (λ_ _ _ _=>zpV)
  |_=>AD
 |.Constant (.str i) _ _=>match v with
  |.str j=>an (ask (i=j)) λh=>ok (λ_ _ _ _=>by cases h;exact zpo)
  |_=>AD
 |_=>AD
def yfy(i:Nat)(e:AV):Pr (YE J L e (.var i)):=
 match e with
 |.Name x _=>an (ask (L.N[i]?=AA x/\yd7 L.sc x=AC/\pln x=AC)) λh=>ok (λ_ _ _ G=>zoV (by rw[G.n];exact h.1) (by rw[G.sc];exact zjP h.2.1) (zhM h.2.2) (zrc h.2.2))
 |_=>AD
def ygV(o:BOp)(e:AV)(fa:∀x,Pr (YE J L x ca))(fb:∀x,Pr (YE J L x cb)):Pr (YE J L e (.bin o ca cb)):=
 match e with
 |.BinOp a op b _=>
  an (mOp op o) λho=>an (fa a) λha=>an (fb b) λhb=>ok (λm S X G=>zpS (ho S X) (ha m S X G) (hb m S X G))
 |_=>AD
def ygh(e:AV)(fa:∀x,Pr (YE J L x ca)):Pr (YE J L e (.neg ca)):=
 match e with
 |.UnaryOp .USub a _=>
  an (fa a) λha=>ok (λm S X G=>zpp (ha m S X G))
 |_=>AD
def ygQ(e:AV)(fa:∀x,Pr (YE J L x ca)):Pr (YE J L e (.not ca)):=
 match e with
 |.UnaryOp .Not a _=>
  an (fa a) λha=>ok (λm S X G=>znJ (ha m S X G))
 |_=>AD
def yhe(o:COp)(e:AV)(fa:∀x,Pr (YE J L x ca))(fb:∀x,Pr (YE J L x cb)):Pr (YE J L e (.cmp o ca cb)):=
 match e with
 |.Compare a [op] [b] _=>
  an (mCm op o) λho=>an (ask (nse b=AC)) λhs=>an (fa a) λha=>an (fb b) λhb=>ok (λm S X G=>zo2 (ho _ S X G.room) (ha m S X G) (hb m S X G) (nmk hs))
 |_=>AD
def yee(o:COp)(e:AV)(fa:∀x,Pr (YE J L x ca))(fb:∀x,Pr (YE J L x cb)):Pr (YT J L e (.cmp o ca cb)):=
 match e with
 |.Compare a [op] [b] _=>
  an (mCm op o) λho=>an (ask (nse b=AC)) λhs=>an (fa a) λha=>an (fb b) λhb=>ok (λm S X G=>zpt (ho _ S X G.room) (ha m S X G) (hb m S X G) (nmk hs))
 |_=>AD
theorem lmk{op op':Fa}{b c:AV}(h:nse c=AC):lastMarks [op,op'] [b,c]=false:=nmk h
def yfZ(o p:COp)(e:AV)(fa:∀x,Pr (YE J L x ca))(fb:∀x,Pr (YE J L x cb))(fc:∀x,Pr (YE J L x cc)):Pr (YE J L e (.chain o p ca cb cc)):=
 match e with
 |.Compare a [op,op'] [b,c] _=>
  an (mCm op o) λho=>an (mCm op' p) λhp=>an (ask (nse c=AC)) λhs=>an (fa a) λha=>an (fb b) λhb=>an (fc c) λhc=>ok (λm S X G=>zke (ho _ S X G.room) (hp _ S X G.room) (ha m S X G) (hb m S X G) (hc m S X G) (lmk hs))
 |_=>AD
def ye5(o p:COp)(e:AV)(fa:∀x,Pr (YE J L x ca))(fb:∀x,Pr (YE J L x cb))(fc:∀x,Pr (YE J L x cc)):Pr (YT J L e (.chain o p ca cb cc)):=
 match e with
 |.Compare a [op,op'] [b,c] _=>
  an (mCm op o) λho=>an (mCm op' p) λhp=>an (ask (nse c=AC)) λhs=>an (fa a) λha=>an (fb b) λhb=>an (fc c) λhc=>ok (λm S X G=>zkh (ho _ S X G.room) (hp _ S X G.room) (ha m S X G) (hb m S X G) (hc m S X G) (lmk hs))
 |_=>AD
def ygi(e:AV)(fc:∀x,Pr (YT J L x cc))(fa:∀x,Pr (YE J L x ca))(fb:∀x,Pr (YE J L x cb)):Pr (YE J L e (.ite cc ca cb)):=
 match e with
 |.IfExp c a b _=>
  an (fc c) λhc=>an (fa a) λha=>an (fb b) λhb=>ok (λm S X G=>zon (hc m S X G) (ha m S X G) (hb m S X G))
 |_=>AD
def yfR(e:AV)(fa:∀x,Pr (YA J L x ces)):Pr (YE J L e (.tup ces)):=
 match e with
 |.Tuple es _ _=>
  an (fa es) λha=>ok (λm S X G=>zoo (ha m S X G))
 |_=>AD
def yhg(e:AV)(fa:∀x,Pr (YA J L x ces)):Pr (YE J L e (.lst ces)):=
 match e with
 |.List es _=>
  an (fa es) λha=>ok (λm S X G=>zpr (ha m S X G))
 |_=>AD
def yeR(e:AV)(fa:∀x,Pr (YA J L x ces)):Pr (YE J L e (.newl ces)):=
 match e with
 |.List es _=>
  an (fa es) λha=>ok (λm S X G=>znk (ha m S X G))
 |_=>AD
def yeM(t:Bool)(e:AV):Pr (YE J L e (.dict0 t)):=
 match t,e with
 |true,.Dict [] [] _=>ok (λ_ _ _ _=>zhV)
 |_,_=>AD
def mIdx(e:AV)(fa:∀x,Pr (YE J L x ca))(fb:∀x,Pr (YE J L x cb)):Pr (YE J L e (.idx ca cb)):=
 match e with
 |.Subscript a b _=>
  an (ask (nsl b=AC)) λhs=>an (fa a) λha=>an (fb b) λhb=>ok (λm S X G=>zpE (ha m S X G) (hb m S X G) (pix hs))
 |_=>AD
def yho(e:AV)(fa:∀x,Pr (YE J L x ca))(fb:∀x,Pr (YO J L x cb))(fc:∀x,Pr (YO J L x cc)):Pr (YE J L e (.slc ca cb cc)):=
 match e with
 |.Subscript a (.Slice l h AD _) _=>
  an (fa a) λha=>an (fb l) λhb=>an (fc h) λhc=>ok (λm S X G=>zof (ha m S X G) (hb m S X G) (hc m S X G))
 |_=>AD
def yfF(c:Ce)(e:Option AV)(fa:∀x,Pr (YE J L x c)):Pr (YO J L e c):=
 match e with
 |none=>match c with
  |.cst .non=>ok (λ_ _ _ _=>zmz)
  |_=>AD
 |some a=>
  an (fa a) λha=>ok (λm S X G=>zmO (ha m S X G))
inductive Fs(J:Gs)(L:Kx):Ces->Type where
 |nil:Fs J L .nil
 |cons {c:Ce} {cs:Ces} (f:∀x,Pr (YE J L x c)) (r:Fs J L cs):Fs J L (.cons c cs)
def ya9:{ces:Ces}->Fs J L ces->(es:List AV)->Pr (YA J L es ces)
 |_,.nil,[]=>ok λ_ _ _ _=>zh0
 |_,.cons f r,a::es=>an (ask (nst a=AC)) λhs=>an (f a) λha=>an (ya9 r es) λhr=>ok λm S X G=>zeZ (ha m S X G) (hr m S X G) (zgH hs)
 |_,_,_=>AD
structure Sp2(J:Gs)(L:Kx)(ces:Ces)(np:Nat) where
 c1:Ces
 c2:Ces
 f1:Fs J L c1
 f2:Fs J L c2
 h:yL c1 c2=ces
 l:ydk c1=np
def ycG:(np:Nat)->{ces:Ces}->Fs J L ces->Option (Sp2 J L ces np)
 |0,ces,F=>AA #[.nil,ces,.nil,F,rfl,rfl]
 |n+1,_,.cons f r=>match ycG n r with
  |some s=>AA #[.cons _ s.c1,s.c2,.cons f s.f1,s.f2,by rw[yL,s.h],by rw[ydk,s.l]]
  |none=>AD
 |_,_,_=>AD
structure It2(J:Gs)(L:Kx)(ces:Ces)(sh:List (Option Int))(kws:List Cc) where
 it:List (Sum Ce Int)
 h:yj it=ces
 s:it.map shC=sh
 k:∀m S X,Good J L m S X->PK X kws (tK S X it)
def ych:(sh:List (Option Int))->{ces:Ces}->Fs J L ces->(kws:List Cc)->Option (It2 J L ces sh kws)
 |[],_,.nil,[]=>AA #[[],rfl,rfl,λ_ _ _ _=>zoH]
 |none::sh,.cons c _,.cons f r,#[_,e,_] :: kws=>match f e,ych sh r kws with
  |some h,AA q=>AA #[.inl c::q.it,by rw[yj,q.h],by rw[AL,q.s];rfl,λm S X G=>zp6 (h.down m S X G) (q.k m S X G)]
  |_,_=>AD
 |some i::sh,.cons (.cst (.int j)) _,.cons _ r,kws=>if e:i=j then match ych sh r kws with
  |some q=>AA #[.inr i::q.it,by rw[yj,q.h,e],by rw[AL,q.s];rfl,λm S X G=>zqN (q.k m S X G)]
  |none=>AD
  else AD
 |_,_,_,_=>AD
def kwN:List Cc->List AQ
 |[]=>[]
 |#[AA x,_,_] :: r=>x::kwN r
 |_::r=>kwN r
def kwB:List Cc->Bool
 |[]=>AC
 |#[AA _,_,_] :: r=>kwB r
 |_=>AB
def znS{pos:C6}{env:Be}:∀{kws:List Cc},kwB kws=AC->(backToKw pos (keywordEach kws env)).all (·.1.isSome)=AC/\(backToKw pos (keywordEach kws env)).filterMap (·.1)=kwN kws/\(backToKw pos (keywordEach kws env)).any (·.1.isNone)=AB
 |[],_=>#[rfl,rfl,rfl]
 |#[AA x,e,_] :: r,h=>by let#[h1,h2,h3]:=znS (pos:=pos) (env:=env) (kws:=r) h;erw[backToKw]at h1 h2 h3 ⊢;erw[keywordEach,AL,Bl,Cb,Br,h1,h2,h3,kwN];simp
def yhr(i:Nat)(F:Fs J L ces)(e:AV):Pr (YE J L e (.call i ces)):=
 match e with
 |.Call (.Name x _) [] [] _=>match F with
  |.nil=>an (ask (glB L x=AC)) λhg=>an (gFn J x i) λhf=>ok λm S X G=>by let#[f,fd,ps,h1,h2,h3,h4]:=G.glo.F x i hf;exact zjV h1 (G.room.mono (Cq m)) (zaC G hg) h2 h3 h4 (zhM (zbW hg))
  |_=>AD
 |.Call (.Name x _) (a::es) kws _=>an (ask (glB L x=AC/\nst a=AC/\ycb es=AC)) λhg=>
  match hx:J.g x with
  |some (.fn j)=>match kws with
   |[]=>an (ask (j=i)) λhj=>an (ya9 F (a::es)) λha=>ok λm S X G=>by subst hj;let#[f,fd,ps,h1,h2,h3,h4]:=G.glo.F x j hx;exact zmD h1 (G.room.mono (Cq m)) (zaC G hg.1) h2 h3 h4 (ha m S X G) (zhM (zbW hg.1)) (zgH hg.2.1) (stars hg.2.2)
   |_=>AD
  |some (.fnD j)=>match hk:J.kb j (es.length+1) (kwN kws)with
   |none=>AD
   |some sh=>match ycG (es.length+1) F with
    |none=>AD
    |some s=>match ych sh s.f2 kws with
     |none=>AD
     |some q=>an (ask (kwB kws=AC/\j=i)) λhw=>an (ya9 s.f1 (a::es)) λha=>ok λm S X G=>by
      let#[hw,rfl]:=hw;let#[f,fd,ps,h1,h2,h3,h4]:=G.glo.Q x j _ _ sh hx hk;rw[<-s.h,<-q.h];rw[<-q.s]at h4;have w:=λ{pos}=>znS (pos:=pos) (env:=X.env) hw;exact zkj h1 (G.room.mono (Cq m)) (zaC G hg.1) h2 h3 h4 s.l (ha m S X G) (q.k m S X G) w.1 w.2.1 (zhM (zbW hg.1)) (zgH hg.2.1) (by rw[w.2.2,HK];exact stars (es:=a::es) (by erw[ycb,Bl,hg.2.1,Di];exact hg.2.2))
  |_=>AD
 |_=>AD
abbrev yej(b:Blt)(x:AQ):Prop:=∀S X,X.calm=AC->(∃id,yat X (.builtin id) (rB S X b)/\bootBuiltins x=AA (.builtin id)) \/ ∃T,yat X (.type T) (rB S X b)/\bootBuiltins x=AA (.type T)
def ygz(b:Blt)(x:AQ):Pr (yej b x):=
 match b with
 |.len=>an (ask (x="len")) λh=>ok λ_ _ _=>.inl #[_,znF,h ▸ zn9]
 |.int=>an (ask (x="int")) λh=>ok λ_ _ _=>.inr #[_,znX,h ▸ zlo]
 |.min=>an (ask (x="min")) λh=>ok λ_ _ c=>.inl #[_,zom c,h ▸ zp2]
 |.max=>an (ask (x="max")) λh=>ok λ_ _ c=>.inl #[_,zoI c,h ▸ zoD]
 |.tuple=>an (ask (x="tuple")) λh=>ok λ_ _ _=>.inr #[_,zkZ,h ▸ zgm]
 |.all=>an (ask (x="all")) λh=>ok λ_ _ c=>.inl #[_,znG c,h ▸ znW]
 |.sum=>an (ask (x="sum")) λh=>ok λ_ _ c=>.inl #[_,zpT c,h ▸ zoz]
 |_=>AD
def yfU(b:Blt)(F:Fs J L ces)(e:AV):Pr (YE J L e (.blt b ces)):=
 match e with
 |.Call (.Name x _) (a::es) [] _=>an (ask (glB L x=AC/\nst a=AC/\ycb es=AC/\J.b x=AC)) λhg=>an (ygz b x) λhb=>an (ya9 F (a::es)) λha=>ok λm S X G=>by
  rcases hb S X G.calm with⟨id,h1,h2⟩|⟨T,h1,h2⟩
  .exact zpc h1 (zaC G hg.1) (G.glo.B x hg.2.2.2) h2 (ha m S X G) (zrd (zbW hg.1)) (zhM (zbW hg.1)) (zgH hg.2.1) (stars hg.2.2.1)
  .exact zl8 h1 (zaC G hg.1) (G.glo.B x hg.2.2.2) h2 (ha m S X G) (zrd (zbW hg.1)) (zhM (zbW hg.1)) (zgH hg.2.1) (stars hg.2.2.1)
 |_=>AD
def yhj(b:Blt)(F:Fs J L ces)(e:AV):Pr (YE J L e (.blt b ces)):=
 match b with
 |b=>yfU b F e
def tyB(t:Ty)(x:AQ):Pr (ydR t=AC/\bootBuiltins x=AA (.type (tyN t))):=
 match t with
 |.int=>an (ask (x="int")) λh=>ok #[rfl,h ▸ zlo]
 |.bool=>an (ask (x="bool")) λh=>ok #[rfl,h ▸ zmX]
 |.str=>an (ask (x="str")) λh=>ok #[rfl,h ▸ zpK]
 |.tuple=>an (ask (x="tuple")) λh=>ok #[rfl,h ▸ zgm]
 |_=>AD
def ygy(ts:List Ty)(e:AV)(fa:∀x,Pr (YE J L x ca)):Pr (YE J L e (.isi ca ts)):=
 match ts,e with
 |[t],.Call (.Name n _) [a,.Name x _] [] _=>an (ask (n="isinstance"/\glB L n=AC/\J.b n=AC/\glB L x=AC/\J.b x=AC/\J.t t=AC/\nst a=AC)) λh=>an (tyB t x) λht=>an (fa a) λha=>ok λm S X G=>by let#[rfl,h1,h2,h3,h4,h5,h6]:=h;exact zou (G.glo.T t h5) ht.1 (zaC G h1) (G.glo.B _ h2) (zaC G h3) (G.glo.B _ h4) ht.2 (ha m S X G) (zrd (zbW h3)) (zhM (zbW h3)) (zgH h6) rfl
 |_,_=>AD
mutual
noncomputable def yeA:(a b:PV)->Pr (a=b)
 |.non,.non=>ok rfl
 |.bl a,.bl b=>an (ask (a=b)) λh=>ok (by rw[h])
 |.int a,.int b=>an (ask (a=b)) λh=>ok (by rw[h])
 |.str a,.str b=>an (ask (a=b)) λh=>ok (by rw[h])
 |.tp k a,.tp j b=>an (ask (k=j)) λh=>an (yc9 a b) λg=>ok (by rw[h,g])
 |.lst a,.lst b=>an (yc9 a b) λg=>ok (by rw[g])
 |_,_=>AD
noncomputable def yc9:(a b:List PV)->Pr (a=b)
 |[],[]=>ok rfl
 |a::x,b::y=>an (yeA a b) λh=>an (yc9 x y) λg=>ok (by rw[h,g])
 |_,_=>AD
end
def eqD:(a b:List (AQ×PV))->Pr (a=b)
 |[],[]=>ok rfl
 |(k,a)::x,(j,b)::y=>an (ask (k=j)) λe=>an (yeA a b) λh=>an (eqD x y) λg=>ok (by rw[e,h,g])
 |_,_=>AD
def yhy(v:PV)(e:AV):Pr (YE J L e (.cst v)):=
 match e with
 |.Name x _=>match h:J.g x with
  |some (.cst u)=>an (ask (glB L x=AC)) λhg=>an (yeA u v) λhv=>ok λm S X G=>by
   subst hv;rcases G.glo.C x u h with q|⟨i,rfl,q⟩
   .exact zqF (zaC G hg) q (zhM (zbW hg))
   .exact zpf (zaC G hg) q (zhM (zbW hg))
  |_=>AD
 |e=>yfj v e
def yf3(D:List (AQ×PV))(e:AV)(fb:∀x,Pr (YE J L x cb)):Pr (YE J L e (.dix D cb)):=
 match e with
 |.Subscript (.Name x _) b _=>match h:J.g x with
  |some (.dct E)=>an (ask (glB L x=AC/\nsl b=AC)) λhg=>an (eqD E D) λhv=>an (fb b) λhb=>ok λm S X G=>by subst hv;exact znT (zaC G hg.1) (G.glo.D x E h) (hb m S X G) (nos hg.2) (zhM (zbW hg.1))
  |_=>AD
 |_=>AD
def ygp(D:List (AQ×PV))(e:AV)(fa:∀x,Pr (YE J L x ca)):Pr (YE J L e (.din ca D)):=
 match e with
 |.Compare a [.In] [.Name x _] _=>match h:J.g x with
  |some (.dct E)=>an (ask (glB L x=AC)) λhg=>an (eqD E D) λhv=>an (fa a) λha=>ok λm S X G=>by subst hv;exact zok (zaC G hg) (G.glo.D x E h) (ha m S X G) rfl (zhM (zbW hg))
  |_=>AD
 |_=>AD
def zq8{pos:C6}{env:Be}:∀{es:List AV},ycb es=AC->((backTo pos (starEach es env)).all λx=>!x.1)=AC
 |[],_=>rfl
 |a::es,h=>by erw[ycb,Bl,AK]at h;have:=zq8 (pos:=pos) (env:=env) (es:=es) h.2;erw[backTo]at this ⊢;rw[zgH h.1,AL,Bl,this];rfl
def zlO{o:AV}{n:AQ}{ap pos:C6}{es:List AV}{env:Be}(hb:nca o=AC)(hs:ycb es=AC)(hn:es.length<30)(hl:(ap.endLine==pos.line)=AC):
  eval (.Call (.Attribute o n ap) es [] pos) env=(do
   let ov <-eval o env
   standAt ap.atName
   let (f,first) <-holding [ov] (getMethod ov n (do return (<-importBound o env).getD AC))
   callWith pos f first (backTo pos (starEach es env)) (backToKw pos (keywordEach [] env))):=by
 have hf:methodCallForm (es.length+([]:List Cc).length) (backTo pos (starEach es env)) (backToKw pos (keywordEach [] env))=true:=by erw[methodCallForm,zq8 hs,Di];simp[backToKw,keywordEach,hn]
 rw[arm_eval_Call,zq7 hb];erw[methodCall,calleeOf,methodCallPos,hf,hl,if_true,HP,Bool.or_true,pure_bind]
def yg6(c:Nat)(f:AQ)(e:AV)(fa:∀x,Pr (YE J L x ca)):Pr (YE J L e (.fld c ca f)):=
 match e with
 |.Attribute a g _=>an (ask (g=f/\J.fl c f=AC/\nca a=AC)) λh=>an (fa a) λha=>ok λm S X G=>by let#[rfl,h1,h2]:=h;exact zpw (G.glo.A c g h1).1 (G.glo.A c g h1).2 (ha m S X G) (zq7 h2)
 |_=>AD
def ygP(c i:Nat)(F:Fs J L ces)(e:AV):Pr (YE J L e (.new c i ces)):=
 match e with
 |.Call (.Name x _) (a::es) [] _=>match h:J.g x with
  |some (.cls c' i')=>an (ask (c'=c/\i'=i/\glB L x=AC/\nst a=AC/\ycb es=AC)) λhg=>an (ya9 F (a::es)) λha=>ok λm S X G=>by let#[rfl,rfl,h1,h2,h3]:=hg;let#[q,f,fd,ps,q1,q2,q3]:=G.glo.N x c' i' h;exact zpQ q1 q2 G.room (zaC G h1) q q3 (ha m S X G) (zhM (zbW h1)) (zgH h2) (stars h3)
  |_=>AD
 |_=>AD
def ygm(c i:Nat)(n:AQ)(F:Fs J L ces)(e:AV)(fa:∀x,Pr (YE J L x ca)):Pr (YE J L e (.mcl c i n ca ces)):=
 match e with
 |.Call (.Attribute (.Name x p) n' ap) [] [] pos=>match F with
  |.nil=>an (ask (n'=n/\J.me c n=AA i/\(ap.endLine==pos.line)=AC)) λh=>an (fa (.Name x p)) λho=>ok λm S X G=>by let#[rfl,h1,h4]:=h;let#[q,f,fd,ps,q1,q2,q3]:=G.glo.M c n' i h1;exact zmG q q1 q2 (G.room.mono (Cq m)) q3 (ho m S X G) (zlO rfl rfl (Nat.zero_lt_succ _) h4)
  |_=>AD
 |.Call (.Attribute (.Name x p) n' ap) (a::es) [] pos=>an (ask (n'=n/\J.me c n=AA i/\nst a=AC/\ycb es=AC/\(ap.endLine==pos.line)=AC/\(a::es).length<30)) λh=>an (fa (.Name x p)) λho=>an (ya9 F (a::es)) λha=>ok λm S X G=>by let#[rfl,h1,h2,h3,h4,h5]:=h;let#[q,f,fd,ps,q1,q2,q3]:=G.glo.M c n' i h1;exact zoh q q1 q2 (G.room.mono (Cq m)) q3 (ho m S X G) (ha m S X G) (zgH h2) (stars h3) (zlO rfl (by erw[ycb,Bl,h2,Di];exact h3) h5 h4)
 |_=>AD
def zrF{pos:C6}{env:Be}{b:AV}(h:nst b=AC):((backTo pos (starEach [b] env)).all (λx=>!x.1)&&(backToKw pos (keywordEach [] env)).all (λx=>x.1.isSome)&&decide (([b]:List AV).length+([]:List Cc).length+(if ([]:List Cc).isEmpty then 0 else 1)<30))=true:=by rw[zgH h];rfl
def ygC(k:Mth)(F:Fs J L ces)(e:AV)(fa:∀x,Pr (YE J L x ca)):Pr (YE J L e (.mth k ca ces)):=
 match k,e,F with
 |.append,.Call (.Attribute a n ap) [b] [] pos,.cons fb .nil=>an (ask (n="append"/\nca a=AC/\nst b=AC/\(ap.endLine==pos.line)=AC)) λh=>an (fa a) λha=>an (fb b) λhb=>ok λm S X G=>by let#[rfl,h1,h2,h3]:=h;exact zh7 (ha m S X G) (hb m S X G) (zgH h2) (zq7 h1) h3 (zrF h2)
 |.get,.Call (.Attribute a n ap) [b,c] [] pos,.cons fb (.cons fc .nil)=>an (ask (n="get"/\nca a=AC/\nst b=AC/\nst c=AC/\(ap.endLine==pos.line)=AC)) λh=>an (fa a) λha=>an (fb b) λhb=>an (fc c) λhc=>ok λm S X G=>by let#[rfl,h1,h2,h4,h3]:=h;exact zph (zni G.room) (ha m S X G) (hb m S X G) (hc m S X G) #[zq7 h1,by rw[zgH h2,zgH h4];rfl,h3,by rw[zgH h2,zgH h4];rfl]
 |_,_,_=>AD
end
structure Ev(J:Gs)(c:Ce) where
 e:∀L x,Pr (YE J L x c)
 t:∀L x,Pr (YT J L x c)
 w:∀L op l pos,Pr (YW J L (.BoolOp op l pos) c)
section
variable {J:Gs}{ca cb cc:Ce}
def w1{c:Ce}(t:∀L x,Pr (YT J L x c))(L:Kx)(op:Hb)(l:List AV)(pos:C6):Pr (YW J L (.BoolOp op l pos) c):=
 match op,l with
 |.And,[a]=>an (t L a) λh=>ok λm S X G=>zm7 (h m S X G)
 |.Or,[a]=>an (t L a) λh=>ok λm S X G=>zo9 (h m S X G)
 |_,_=>AD
def plT{c:Ce}(e:∀L x,Pr (YE J L x c))(L:Kx)(x:AV):Pr (YT J L x c):=an (ask (nte x=AC)) λh=>an (e L x) λhe=>ok λm S X G=>zo7 (he m S X G) (itr h)
def plain{c:Ce}(e:∀L x,Pr (YE J L x c)):Ev J c:=#[e,plT e,w1 (plT e)]
def yc5{c:Ce}(e:∀L x,Pr (YE J L x c))(t:∀L x,Pr (YT J L x c)):Ev J c:=#[e,t,w1 t]
def ygO(A:Ev J ca)(L:Kx)(e:AV):Pr (YT J L e (.not ca)):=
 match e with
 |.UnaryOp .Not a _=>an (A.t L a) λh=>ok λm S X G=>zpD (h m S X G)
 |_=>AD
def ygM(A:Ev J ca)(B:Ev J cb)(L:Kx)(e:AV):Pr (YE J L e (.and ca cb)):=
 match e with
 |.BoolOp .And (a::b::[]) _=>an (A.e L a) λha=>an (B.e L b) λhb=>ok λm S X G=>zlq (ha m S X G) (zlC (hb m S X G))
 |.BoolOp .And (a::b::c::r) p=>an (A.e L a) λha=>an (B.e L (.BoolOp .And (b::c::r) p)) λhb=>ok λm S X G=>zlq (ha m S X G) (hb m S X G)
 |_=>AD
def orE(A:Ev J ca)(B:Ev J cb)(L:Kx)(e:AV):Pr (YE J L e (.or ca cb)):=
 match e with
 |.BoolOp .Or (a::b::[]) _=>an (A.e L a) λha=>an (B.e L b) λhb=>ok λm S X G=>zoE (ha m S X G) (zlC (hb m S X G))
 |.BoolOp .Or (a::b::c::r) p=>an (A.e L a) λha=>an (B.e L (.BoolOp .Or (b::c::r) p)) λhb=>ok λm S X G=>zoE (ha m S X G) (hb m S X G)
 |_=>AD
def ye6(A:Ev J ca)(B:Ev J cb)(L:Kx)(op:Hb)(l:List AV)(pos:C6):Pr (YW J L (.BoolOp op l pos) (.and ca cb)):=
 match op,l with
 |.And,a::b::r=>an (A.t L a) λha=>an (B.w L .And (b::r) pos) λhb=>ok λm S X G=>zoF (ha m S X G) (hb m S X G)
 |_,_=>AD
def orW(A:Ev J ca)(B:Ev J cb)(L:Kx)(op:Hb)(l:List AV)(pos:C6):Pr (YW J L (.BoolOp op l pos) (.or ca cb)):=
 match op,l with
 |.Or,a::b::r=>an (A.t L a) λha=>an (B.w L .Or (b::r) pos) λhb=>ok λm S X G=>zqT (ha m S X G) (hb m S X G)
 |_,_=>AD
def ptW{c:Ce}(w:∀L op l pos,Pr (YW J L (.BoolOp op l pos) c))(L:Kx)(e:AV):Pr (YT J L e c):=
 match e with
 |.BoolOp op l p=>an (w L op l p) λh=>ok λm S X G=>PW.pt (h m S X G)
 |_=>AD
def yfp{c:Ce}(t:∀L x,Pr (YT J L x c))(w:∀L op l pos,Pr (YW J L (.BoolOp op l pos) c))(L:Kx)(op:Hb)(l:List AV)(pos:C6):Pr (YW J L (.BoolOp op l pos) c):=
 match l with
 |[a]=>w1 t L op [a] pos
 |l=>w L op l pos
def yeN(A:Ev J ca)(B:Ev J cb):Ev J (.and ca cb):=#[ygM A B,ptW (ye6 A B),yfp (ptW (ye6 A B)) (ye6 A B)]
def ygI(A:Ev J ca)(B:Ev J cb):Ev J (.or ca cb):=#[orE A B,ptW (orW A B),yfp (ptW (orW A B)) (orW A B)]
end
abbrev YI(J:Gs)(L:Kx)(tg l:AV)(c:Cit):Prop:=∀m S X,Good J L m S X->PI X tg l (tI S X c)
abbrev YG(J:Gs)(L:Kx)(tg:AV)(c:Tg):Prop:=∀m S X,Good J L m S X->PG X tg (tG S X c)
section
variable {J:Gs}{L:Kx}{ca cb cc ce:Ce}{ci:Cit}
def ygA(e:∀x,Pr (YE J L x ca))(tg l:AV):Pr (YI J L tg l (.seq ca)):=an (e l) λh=>ok λm S X G=>znO (h m S X G)
def iR1(fa:∀x,Pr (YE J L x ca))(tg l:AV):Pr (YI J L tg l (.range1 ca)):=
 match l with
 |.Call (.Name x _) [a] [] _=>an (ask (x="range"/\glB L x=AC/\J.b x=AC/\nst a=AC)) λh=>an (fa a) λha=>ok λm S X G=>by let#[rfl,h1,h2,h3]:=h;exact zjF (zaC G h1) (G.glo.B _ h2) (ha m S X G) (zgH h3)
 |_=>AD
def yeI(fa:∀x,Pr (YE J L x ca))(tg l:AV):Pr (YI J L tg l (.enum ca)):=
 match tg,l with
 |.Tuple _ _ _,.Call (.Name x _) [a] [] _=>an (ask (x="enumerate"/\glB L x=AC/\J.b x=AC/\nst a=AC)) λh=>an (fa a) λha=>ok λm S X G=>by let#[rfl,h1,h2,h3]:=h;exact zlU (zaC G h1) (G.glo.B _ h2) (ha m S X G) (zgH h3)
 |_,_=>AD
def ygE(fa:∀x,Pr (YE J L x ca))(fb:∀x,Pr (YE J L x cb))(tg l:AV):Pr (YI J L tg l (.zip ca cb)):=
 match tg,l with
 |.Tuple _ _ _,.Call (.Name x _) [a,b] [] _=>an (ask (x="zip"/\glB L x=AC/\J.b x=AC/\nst a=AC/\nst b=AC)) λh=>an (fa a) λha=>an (fb b) λhb=>ok λm S X G=>by let#[rfl,h1,h2,h3,h4]:=h;exact zpj (zaC G h1) (G.glo.B _ h2) (ha m S X G) (hb m S X G) (by rw[zgH h3,zgH h4];rfl) (zgH h4)
 |_,_=>AD
def gNm(L:Kx):(l:List Nat)->(es:List AV)->Pr (∀m S X,Good J L m S X->PGs X es (gNs l)/\(assignEach es X.env).length=l.length/\(assignEach es X.env).findIdx? (·.1)=AD)
 |[],[]=>ok λ_ _ _ _=>#[znc,rfl,rfl]
 |i::l,.Name x _::es=>an (ask (setB L i x=AC)) λh=>an (gNm L l es) λhr=>ok λm S X G=>by
  have s:=zbX G h;let#[h1,h2,h3]:=hr m S X G;refine#[zjU s.d s.i s.l h1 s.f,?_,?_]
  .simp only[assignEach,A4,h2]
  .simp only[assignEach,List.findIdx?_cons,h3];rfl
 |_,_=>AD
def mTg(ct:Tg)(tg:AV):Pr (YG J L tg ct):=
 match ct,tg with
 |.n i,.Name x _=>an (ask (setB L i x=AC)) λh=>ok λm S X G=>let s:=zbX G h;znt s.d s.i s.l s.f
 |.t l,.Tuple es _ _=>an (gNm L l es) λh=>ok λm S X G=>znY G.calm (h m S X G).1 (h m S X G).2.1 (h m S X G).2.2
 |_,_=>AD
def tgN:AV->List AQ
 |.Name x _=>[x]
 |.Tuple es _ _=>es.filterMap fun
  |.Name x _=>AA x
  |_=>AD
 |_=>[]
def ydo(N:List AQ)(sl:List (Option Nat))(tg:AV):List Str:=tgN tg++(sl.drop (tgN tg).length).filterMap λo=>o.bind λj=>N[j]?
def ycq(sc so:Bq):Scope:={sc with names:=sc.names.map λ(n,k)=>if (k==Cm&&so.kind==.function&&so.names.lookup n==AA .cell)then(n,Fc)else(n,k)}
def yak(N:List AQ)(so sc:Bq)(NC:List AQ)(sl:List (Option Nat)):Bool:=
 decide (sc.kind=.function)&&(sc.names.all λy=>y.2 != .local || decide (sc.names.lookup y.1=AA .local))&&(sc.names.all λy=>y.2 != .cell)&&(sc.names.all λy=>y.2 != .free || decide (so.names.lookup y.1=AA .cell)) &&
  ((NC.zip sl).all λp=>p.2.all λj=>decide (N[j]?=AA p.1/\sc.names.lookup p.1=AA .free))&&decide (sl.length=NC.length)
def zjZ{X:Cx}{sc:Bq}{NC:List AQ}{sl:List (Option Nat)}(h:yak X.N X.env.scope sc NC sl=AC):yaA X sc NC sl:=by erw[yak,AK,decide_eq_true_eq,Bp,DG,bne_iff_ne,ne_eq]at h;let#[#[#[#[#[h1,h2],h3],h4],h5],h6]:=h;exact zrz _ _ rfl rfl h1 (λy hy e=>(h2 y hy).resolve_left λz=>z e) h3 (λy hy e=>(h4 y hy).resolve_left λz=>z e) (λp hp=>by simpa using h5 p hp) h6
theorem Good.comp{m:Nat}{S:Se}{X:Cx}(G:Good J L m S X)(sc:Bq)(NC:List AQ)(j:CI):Good J #[NC,ycq sc L.sc,AB] m S (cxC X sc NC j):=by refine#[rfl,?_,G.calm,G.room,(λh=>nomatch h),#[G.glo.F,G.glo.Q,G.glo.C,G.glo.D,G.glo.E,G.glo.N,G.glo.B,G.glo.T,G.glo.A,G.glo.M,λy D h=>let #[fa,fdd,ps,M,d]:=G.glo.K y D h;#[fa,fdd,ps,#[M.F,M.kp,M.b],d]]];show relabel sc X.env=_;rw[<-G.sc];rfl
def ygn(c:Ce)(f:∀x,Pr (YT J L x c))(ifs:List AV):Pr (∀m S X,Good J L m S X->PTs X ifs (tT0 S X.K c)):=
 match ifs with
 |[]=>match c with
  |.cst (.bl AC)=>ok λ_ _ _ _=>zkD
  |_=>AD
 |[a]=>an (f a) λh=>ok λm S X G=>zl7 rfl (h m S X G)
 |_=>AD
structure ycQ(J:Gs)(L:Kx)(sl:List (Option Nat))(ct:Tg)(ci:Cit)(cc ce:Ce)(elt tg it:AV)(ifs:List AV)(sc:Bq):Prop where
 q:∀m S X,Good J L m S X->∃NC,yaA X sc NC sl/\PI X tg it (tI S X ci)/\(∀j,PG (cxC X sc NC j) tg (tG0 S X.K ct))/\(∀j,PTs (cxC X sc NC j) ifs (tT0 S X.K cc))/\∀j,PE (cxC X sc NC j) elt (tE0 S X.K ce)
 f:yaz ct sl=AC
 s:nse it=AC
def mCo(sl:List (Option Nat))(ct:Tg)(fi:∀tg l,Pr (YI J L tg l ci))(C:Ev J cc)(E:Ev J ce)(elt tg it:AV)(ifs:List AV)(sc:Bq):Pr (ycQ J L sl ct ci cc ce elt tg it ifs sc):=
 an (ask (yak L.N L.sc sc (ydo L.N sl tg) sl=AC/\yaz ct sl=AC/\nse it=AC)) λh=>an (fi tg it) λhi=>an (mTg (J:=J) (L:=#[ydo L.N sl tg,ycq sc L.sc,AB]) ct tg) λhg=>
  an (ygn (J:=J) (L:=#[ydo L.N sl tg,ycq sc L.sc,AB]) cc (C.t _) ifs) λht=>an (E.e #[ydo L.N sl tg,ycq sc L.sc,AB] elt) λhe=>ok #[λm S X G=>#[ydo L.N sl tg,by rw[<-G.n,<-G.sc]at h;rw[<-G.n];exact zjZ h.1,hi m S X G,λj=>zmN rfl (hg m S _ (G.comp sc _ j)),λj=>ht m S _ (G.comp sc _ j),λj=>zm6 rfl (he m S _ (G.comp sc _ j))],h.2.1,h.2.2]
def yfc(sl:List (Option Nat))(ct:Tg)(fi:∀tg l,Pr (YI J L tg l ci))(C:Ev J cc)(E:Ev J ce)(e:AV):Pr (YE J L e (.comp sl ct ci cc ce)):=
 match e with
 |.ListComp elt [#[tg,it,ifs,0]] sc _=>an (mCo sl ct fi C E elt tg it ifs sc) λh=>ok λm S X G=>by let#[NC,h1,h2,h3,h4,h5]:=h.q m S X G;exact zlS G.calm h1 h.f h2 h3 h4 h5 (fse h.s)
 |_=>AD
end
section
variable {J:Gs}{L:Kx}
end
mutual
noncomputable def ch(J:Gs):(c:Ce)->Ev J c
 |.cst v=>plain λL x=>yhy v x
 |.var i=>plain λL x=>yfy i x
 |.bin o a b=>plain λL x=>ygV o x ((ch J a).e L) ((ch J b).e L)
 |.neg a=>plain λL x=>ygh x ((ch J a).e L)
 |.not a=>yc5 (λL x=>ygQ x ((ch J a).e L)) (ygO (ch J a))
 |.and a b=>yeN (ch J a) (ch J b)
 |.or a b=>ygI (ch J a) (ch J b)
 |.cmp o a b=>yc5 (λL x=>yhe o x ((ch J a).e L) ((ch J b).e L)) (λL x=>yee o x ((ch J a).e L) ((ch J b).e L))
 |.chain o p a b c=>yc5 (λL x=>yfZ o p x ((ch J a).e L) ((ch J b).e L) ((ch J c).e L)) (λL x=>ye5 o p x ((ch J a).e L) ((ch J b).e L) ((ch J c).e L))
 |.ite c a b=>plain λL x=>ygi x ((ch J c).t L) ((ch J a).e L) ((ch J b).e L)
 |.tup es=>plain λL x=>yfR x (ya9 (chs J es L))
 |.lst es=>plain λL x=>yhg x (ya9 (chs J es L))
 |.newl es=>plain λL x=>yeR x (ya9 (chs J es L))
 |.dict0 t=>plain λL x=>yeM t x
 |.idx a i=>plain λL x=>mIdx x ((ch J a).e L) ((ch J i).e L)
 |.slc a l h=>plain λL x=>yho x ((ch J a).e L) (λo=>yfF l o ((ch J l).e L)) (λo=>yfF h o ((ch J h).e L))
 |.call f es=>plain λL x=>yhr f (chs J es L) x
 |.blt b es=>plain λL x=>yhj b (chs J es L) x
 |.mth k o es=>plain λL x=>ygC k (chs J es L) x ((ch J o).e L)
 |.isi a ts=>plain λL x=>ygy ts x ((ch J a).e L)
 |.comp sl tg it c e=>plain λL x=>yfc sl tg (chi J it L) (ch J c) (ch J e) x
 |.frz a=>plain λL x=>an ((ch J a).e L x) λh=>ok λm S X G=>zpd (h m S X G)
 |.nope=>plain λL x=>ok λ_ _ _ _=>znB
 |.dix D a=>plain λL x=>yf3 D x ((ch J a).e L)
 |.din a D=>plain λL x=>ygp D x ((ch J a).e L)
 |.fld c a f=>plain λL x=>yg6 c f x ((ch J a).e L)
 |.new c i es=>plain λL x=>ygP c i (chs J es L) x
 |.mcl c i n o es=>plain λL x=>ygm c i n (chs J es L) x ((ch J o).e L)
noncomputable def chs(J:Gs):(cs:Ces)->(L:Kx)->Fs J L cs
 |.nil,_=>.nil
 |.cons c cs,L=>.cons (λx=>(ch J c).e L x) (chs J cs L)
noncomputable def chi(J:Gs):(c:Cit)->(L:Kx)->∀tg l,Pr (YI J L tg l c)
 |.seq a,L=>ygA ((ch J a).e L)
 |.range1 a,L=>iR1 ((ch J a).e L)
 |.enum a,L=>yeI ((ch J a).e L)
 |.zip a b,L=>ygE ((ch J a).e L) ((ch J b).e L)
 |_,_=>λ_ _=>AD
end
section
variable {J:Gs}{L:Kx}{ca cb cc ce:Ce}{ci:Cit}{ct:Tg}{cs cs':Css}{ces:Ces}
def yeD(f:∀x,Pr (YE J L x ca))(s:CH):Pr (YS J L s (.expr ca)):=
 match s with
 |.Expr a _=>an (ask (nco a=AC)) λhs=>an (f a) λh=>ok λm S X G=>zmc (h m S X G) (swp hs)
 |_=>AD
def yhi(i:Nat)(f:∀x,Pr (YE J L x ca))(s:CH):Pr (YS J L s (.asg (.n i) ca)):=
 match s with
 |.Assign [.Name x _] a _=>an (ask (nco a=AC/\setB L i x=AC)) λhs=>an (f a) λh=>ok λm S X G=>let q:=zbX G hs.2;znH q.d q.i q.l (h m S X G) (swp hs.1) q.f
 |_=>AD
def zrh{a:AV}(h:nst a=AC):(match (generalizing:=false) a with | .Starred _ _=>AC|_=>AB)=false:=by revert h;cases a<;>intro h<;>first|rfl|cases h
def swD(so:Bq)(x y:AQ)(px py:C6)(a b:AV):Bool:=(if so.kind.isAnnotationScope then Fq else so.kind)==.function&&so.names.lookup x==AA .local&&so.names.lookup y==AA .local&&py.line==px.line&&nst a&&nst b&&!(x==y)&&!(foldedForSure 8 a&&foldedForSure 8 b)&&!(constantsAlone 8 a&&constantsAlone 8 b)
def zrG{x y:AQ}{px py pt pt2:C6}{kt k2:Nat}{a b:AV}{env:Be}(h:swD env.scope x y px py a b=AC):
  swappedStores [.Tuple [.Name x px,.Name y py] kt pt] (.Tuple [a,b] k2 pt2) env=pure (AA [x,y]):=by
 erw[swD,AK,Cp]at h;let#[#[#[#[#[#[#[#[h1,h2],h3],h4],h5],h6],h7],h8],h9]:=h;have k1:(env.blockKind != .function)=false:=by show (!((if env.scope.kind.isAnnotationScope then Fq else env.scope.kind)==.function))=AB;rw[h1];rfl
 have k2:env.kindOf x=AA .local:=eq_of_beq h2;have k3:env.kindOf y=AA .local:=eq_of_beq h3;have k4:py.line=px.line:=eq_of_beq h4;have k7:¬y=x:=λz=>by subst z;simp at h7
 have m1:=zrh h5;have m2:=zrh h6;have c8:¬(foldedForSure 8 a=AC/\foldedForSure 8 b=AC):=λz=>by rw[z.1,z.2]at h8;cases h8
 have c9:¬(constantsAlone 8 a=AC/\constantsAlone 8 b=AC):=λz=>by rw[z.1,z.2]at h9;cases h9
 have x1:(Expr.Name x px).pos=px:=rfl;have x2:(Expr.Name y py).pos=py:=rfl;unfold swappedStores;simp[k1,m1,m2,k2,k3,k4,List.eraseDups_cons,k7,x1,x2,c8,c9,Cb];intro z;exfalso;rcases z with z|z
 .exact Aa (m1.symm.trans z)
 .exact Aa (m2.symm.trans z)
def yf1(i j:Nat)(fa:∀x,Pr (YE J L x ca))(fb:∀x,Pr (YE J L x cb))(s:CH):Pr (YS J L s (.asg (.t [i,j]) (.tup (.cons ca (.cons cb .nil))))):=
 match s with
 |.Assign [.Tuple [.Name x px,.Name y py] _ _] (.Tuple [a,b] _ _) _=>an (ask (setB L i x=AC/\setB L j y=AC/\i≠j/\swD L.sc x y px py a b=AC)) λh=>an (fa a) λha=>an (fb b) λhb=>ok λm S X G=>by
  let#[h1,h2,h3,h4]:=h;have q:=zbX G h1;have r:=zbX G h2;have h5:=h4;erw[swD,AK]at h5;have e1:X.env.scope.names.lookup x=AA .local:=by rw[G.sc];exact eq_of_beq h5.1.1.1.1.1.1.1.2
  have e2:X.env.scope.names.lookup y=AA .local:=by rw[G.sc];exact eq_of_beq h5.1.1.1.1.1.1.2
  exact zn6 G.calm q.d q.i r.i h3 (znL G.calm q.d q.i r.i h3 e1 e2 (zeZ (ha m S X G) (zeZ (hb m S X G) zh0 (zgH h5.1.1.1.2)) (zgH h5.1.1.1.1.2)) (zrG (by rw[G.sc];exact h4)))
 |_=>AD
theorem sw0{es:List AV}{k:Nat}{p:C6}{a:AV}{env:Be}(h:ntu a=AC):swappedStores [.Tuple es k p] a env=pure none:=by cases a<;>first|rfl|cases h
theorem sw1{b c:AV}{p:C6}{a:AV}{env:Be}:swappedStores [.Subscript b c p] a env=pure none:=by cases a<;>rfl
def zri{t a:AV}{l:Nat}{env:Be}(h:nco a=AC):swapsWithSole [t] a l env=pure false:=by show swapsWith a (AA t) l env=_;exact swp h
theorem asS{b c:AV}{pos:C6}{env:Be}(h:nsl c=AC):∀v,assign (.Subscript b c pos) env v=(do
   let ov <-holding [v] (eval b env)
   let iv <-holding [v,ov] (eval c env)
   standAt pos
   holding [v,ov,iv] (setItem ov iv v)
   release [v,ov,iv] []):=by cases c<;>first|exact λ_=>rfl|cases h
def yg5(l:List Nat)(f:∀x,Pr (YE J L x ca))(s:CH):Pr (YS J L s (.asg (.t l) ca)):=
 match s with
 |.Assign [.Tuple es k p] a _=>an (ask (nco a=AC/\ntu a=AC)) λhs=>an (mTg (J:=J) (L:=L) (.t l) (.Tuple es k p)) λhg=>an (f a) λh=>ok λm S X G=>zmq (h m S X G) (hg m S X G) (zri hs.1) (sw0 hs.2)
 |_=>AD
def yf6(f:∀x,Pr (YE J L x cc))(fo:∀x,Pr (YE J L x ca))(fi:∀x,Pr (YE J L x cb))(s:CH):Pr (YS J L s (.six ca cb cc)):=
 match s with
 |.Assign [.Subscript b c _] a _=>an (ask (nco a=AC/\nsl c=AC)) λhs=>an (f a) λh=>an (fo b) λho=>an (fi c) λhi=>ok λm S X G=>zpk (h m S X G) (ho m S X G) (hi m S X G) (zri hs.1) sw1 (zlH (ho m S X G) (hi m S X G) zgQ (asS hs.2))
 |_=>AD
def ye3(f:∀x,Pr (YE J L x cc))(fo:∀x,Pr (YE J L x ca))(fi:∀x,Pr (YE J L x cb))(s:CH):Pr (YS J L s (.dput ca cb cc)):=
 match s with
 |.Assign [.Subscript b c _] a _=>an (ask (nco a=AC)) λhs=>an (f a) λh=>an (fo b) λho=>an (fi c) λhi=>ok λm S X G=>zne (zni G.room) (ho m S X G) (hi m S X G) (h m S X G) (swp hs)
 |_=>AD
def yg7(op:Dp)(o:BOp):Pr (∀S X,PIp X op (rT2 S X (ybZ o))):=
 match op,o with
 |.Add,.add=>ok λ_ _=>zmM
 |_,_=>AD
def ygW(i:Nat)(o:BOp)(f:∀x,Pr (YE J L x ca))(s:CH):Pr (YS J L s (.aug i o ca)):=
 match s with
 |.AugAssign (.Name x _) op a _=>an (ask (setB L i x=AC)) λh=>an (yg7 op o) λhp=>an (f a) λha=>ok λm S X G=>let q:=zbX G h;zo1 q.d q.i q.l (ha m S X G) (hp S X) q.f (zhM q.p) (zrc q.p)
 |_=>AD
def yha(c:Ce)(f:∀x,Pr (YE J L x c))(s:CH):Pr (YS J L s (.ret c)):=
 match s with
 |.Return (AA a) _=>an (f a) λh=>ok λm S X G=>zol (h m S X G)
 |.Return AD _=>match c with
  |.cst .non=>ok λ_ _ _ _=>zmV
  |_=>AD
 |_=>AD
def sIf(fc:∀x,Pr (YT J L x cc))(fa:∀x,Pr (YSs J L x cs))(fb:∀x,Pr (YSs J L x cs'))(s:CH):Pr (YS J L s (.ite cc cs cs')):=
 match s with
 |.If c a b _=>an (fc c) λhc=>an (fa a) λha=>an (fb b) λhb=>ok λm S X G=>zqi (hc m S X G) (ha m S X G) (hb m S X G)
 |_=>AD
def yfX(ct:Tg)(fi:∀tg l,Pr (YI J L tg l ci))(fb:∀x,Pr (YSs J L x cs))(s:CH):Pr (YS J L s (.for ct ci cs)):=
 match s with
 |.For tg l b [] _=>an (ask (L.own=AC/\nse l=AC)) λho=>an (fi tg l) λhi=>an (mTg (J:=J) (L:=L) ct tg) λhg=>an (fb b) λhb=>ok λm S X G=>zn0 (G.own ho.1).1 G.calm (hi m S X G) (hg m S X G) (hb m S X G) (fse ho.2)
 |_=>AD
def sWh(fc:∀x,Pr (YT J L x cc))(fb:∀x,Pr (YSs J L x cs))(s:CH):Pr (YS J L s (.while cc cs)):=
 match s with
 |.While c b [] _=>an (ask (L.own=AC)) λho=>an (fc c) λhc=>an (fb b) λhb=>ok λm S X G=>zkQ (G.own ho).1 (hc m S X G) (hb m S X G)
 |_=>AD
def ygS(c:Nat)(f:AQ)(fo:∀x,Pr (YE J L x ca))(fv:∀x,Pr (YE J L x cb))(s:CH):Pr (YS J L s (.sfl c ca f cb)):=
 match s with
 |.Assign [.Attribute a g _] b _=>an (ask (g=f/\J.fl c f=AC/\nco b=AC)) λh=>an (fo a) λha=>an (fv b) λhb=>ok λm S X G=>by let#[rfl,h1,h2]:=h;exact zpb (G.glo.A c g h1).1 (G.glo.A c g h1).2 (ha m S X G) (hb m S X G) (swp h2)
 |_=>AD
def yfO(c i:Nat)(f:AQ)(j:Int)(fo:∀x,Pr (YE J L x (.var i)))(fv:∀x,Pr (YE J L x (.cst (.int j))))(s:CH):Pr (YS J L s (.sfl c (.var i) f (.bin .add (.fld c (.var i) f) (.cst (.int j))))):=
 match s with
 |.AugAssign (.Attribute a g _) .Add b _=>an (ask (g=f/\J.fl c f=AC)) λh=>an (fo a) λha=>an (fv b) λhb=>ok λm S X G=>by let#[rfl,h1]:=h;exact zoG (G.glo.A c g h1).1 (G.glo.A c g h1).2 (ha m S X G) (hb m S X G)
 |_=>AD
def ygj(c:Nat)(o:Ce)(f:AQ)(e:Ce)(O:Ev J o)(E:Ev J e)(s:CH):Pr (YS J L s (.sfl c o f e)):=
 match s with
 |.AugAssign t op b p=>match o,e with
  | .var i,.bin .add (.fld c' (.var i') f') (.cst (.int j))=>an (ask (c'=c/\i'=i/\f'=f)) λh=>an (yfO (J:=J) (L:=L) c i f j (λx=>yfy i x) (λx=>yfj (.int j) x) (.AugAssign t op b p)) λq=>ok (by let#[rfl,rfl,rfl]:=h;exact q)
  |_,_=>AD
 |s=>ygS c f (O.e L) (E.e L) s
def ygd(ix:Nat)(D:List (AQ×Nat)){cn:Ce}{ces:Ces}(fn:∀x,Pr (YE J L x cn))(F:Fs J L ces)(ss:List CH):Pr (YSs J L ss (.cons (.mkr ix D cn ces) .nil)):=
 match ss with
 |[.Assign [.Name x _] (.Subscript (.Name y _) n _) _,.Return (AA (.Call (.Name x' _) (e::es) [] _)) _]=>match hy:J.mr y with
  |some E=>an (ask (E=D/\x'=x/\setB L ix x=AC/\yd7 L.sc x=AC/\glB L y=AC/\nsl n=AC/\nst e=AC/\ycb es=AC)) λh=>an (fn n) λhn=>an (ya9 F (e::es)) λha=>ok λm S X G=>by let#[rfl,rfl,h1,h2,h3,h4,h5,h6]:=h;have q:=zbX G h1;let#[fa,fdd,ps,M,d]:=G.glo.K y E hy;exact zpi M (G.room.mono (Cq m)) q.d q.i q.l (by rw[G.sc];exact zjP h2) (zaC G h3) d (hn m S X G) (ha m S X G) (nos h4) (swp rfl) q.f (zhM (zbW h3)) (zhM q.p) (zrc q.p) (zgH h5) (stars h6)
  |none=>AD
 |_=>AD
end
mutual
noncomputable def chS(J:Gs):(c:Cs)->(L:Kx)->∀s,Pr (YS J L s c)
 |.expr e,L=>yeD ((ch J e).e L)
 |.asg (.n i) c,L=>yhi i ((ch J c).e L)
 |.asg (.t [i,j]) (.tup (.cons a (.cons b .nil))),L=>yf1 i j ((ch J a).e L) ((ch J b).e L)
 |.asg (.t l) c,L=>yg5 l ((ch J c).e L)
 |.six o i e,L=>yf6 ((ch J e).e L) ((ch J o).e L) ((ch J i).e L)
 |.dput o i e,L=>ye3 ((ch J e).e L) ((ch J o).e L) ((ch J i).e L)
 |.aug i o e,L=>ygW i o ((ch J e).e L)
 |.ret e,L=>yha e ((ch J e).e L)
 |.ite c a b,L=>sIf ((ch J c).t L) (ydi J a L) (ydi J b L)
 |.for t it b,L=>yfX t (chi J it L) (ydi J b L)
 |.while c b,L=>sWh ((ch J c).t L) (ydi J b L)
 |.nope,_=>λ_=>ok λ_ _ _ _=>zm3
 |.sfl c o f e,L=>ygj c o f e (ch J o) (ch J e)
 |_,_=>λ_=>AD
noncomputable def ydi(J:Gs):(c:Css)->(L:Kx)->∀s,Pr (YSs J L s c)
 |.nil,_,[]=>ok λ_ _ _ _=>zpF
 |.cons (.mkr ix D cn ces) .nil,L,ss=>ygd ix D ((ch J cn).e L) (chs J ces L) ss
 |.cons c cs,L,s::ss=>an (chS J c L s) λh=>an (ydi J cs L ss) λhr=>ok λm S X G=>zny (h m S X G) (hr m S X G)
 |_,_,_=>AD
end
inductive Dk where
 |fn|fd (ds:List Int)|me (c:Nat)|ini (c:Nat)
structure Df where
 gn:AQ
 nm:AQ
 q:AQ
 st:CH
 N:List AQ
 ps:List AQ
 fn:IC.Fn
 k:Dk
def scB(N P:List AQ)(sc:Bq):Bool:=decide (sc.kind=.function)&&!sc.isCoroutine&&!sc.isGenerator&&decide N.Nodup&&decide (N.take P.length=P)&&P.all (yed sc)&&sc.names.all λy=>y.2 != .free
def zpC{N P:List AQ}{sc:Bq}(h:scB N P sc=AC):ybo N P sc:=by erw[scB,AK,decide_eq_true_eq,Cp,Bp,bne_iff_ne,ne_eq]at h;let#[#[#[#[#[#[h1,h2],h3],h4],h5],h6],h7]:=h;exact#[h1,h2,h3,h4,h5,λx hx=>zjM (h6 x hx),h7]
def okD(J:Gs)(d:Df):Bool:=scB d.N d.ps (yN d.st)&&decide (d.ps.length=d.fn.np)&&decide (d.N.length=d.fn.ns)&&(ydi J d.fn.body #[d.N,yN d.st,AC] (yam d.st)).isSome
def ycc{A:Type}(P:A->Prop):List A->Prop
 |[]=>True
 |d::r=>P d/\ycc P r
theorem ycc.get{A:Type}{P:A->Prop}:∀{l:List A},ycc P l->∀d∈l,P d
 |_::_,h,d,hd=>by
  rcases AN.1 hd with rfl|hd
  .exact h.1
  .exact h.2.get d hd
def ybQ:List AQ->(List AG->Prop)->Prop
 |[],P=>P []
 |_::r,P=>∀a,ybQ r λus=>P (a::us)
theorem ybQ.get:∀{ps:List AQ} {P:List AG->Prop},ybQ ps P->∀us,us.length=ps.length->P us
 |[],P,h,[],_=>h
 |_::r,P,h,a::us,e=>(h a).get us (by simpa using e)
def ybq(d:Df):Prop:=∀(kV doc pm:AG) (an:Option AI) (cdv ct:AG),ybQ d.ps λus=>bindArgs (Bi d.nm d.q (yaq d.st) (yam d.st) (yN d.st) .none kV doc pm an cdv ct) #[us,[]]=pure (d.ps.zip us)
structure ycI(K:AE)(d:Df)(dv:AG)(f:AI)(fd:BQ):Prop where
 ex:∃(oc:AG) (od:Option AI) (kV doc pm:AG) (an:Option AI) (cdv ct:AG) (osl:Array (Option AG)),
  fd=Bi d.nm d.q (yaq d.st) (yam d.st) (yN d.st) dv kV doc pm an cdv ct/\K.lookup f=AA #[oc,od,.func fd,osl]/\C0 K cdv d.q=AC
 kp:BH K (.ref f)=AC
def At(K:AE)(cn:Nat->AQ)(d:Df)(f:AI):Prop:=
 match d.k with
 |.fn=>B1 K mainGlobals d.gn=AA (AA (.ref f))/\ybq d
 |.fd _=>B1 K mainGlobals d.gn=AA (AA (.ref f))
 |.me c=>ybq d/\∃q,B1 K mainGlobals (cn c)=AA (AA (.ref q))/\BP K (.ref q) d.nm=AA (AA (.ref f))/\Cy K (.ref f)=AC
 |.ini c=>ybq d/\∃q,B1 K mainGlobals (cn c)=AA (AA (.ref q))/\BP K (.ref q) d.nm=AA (AA (.ref f))/\Cy K (.ref f)=AC/\Dt K q=AC/\BH K (.ref q)=AC
def DvP(K:AE)(d:Df)(dv:AG):Prop:=
 match d.k with
 |.fd ds=>∃dT o its n,dv=.ref dT/\K.lookup dT=AA o/\o.data=.seq its n/\Vals (ds.map V.int) its.toList
 |_=>dv=.none
def yde(K:AE)(cn:Nat->AQ)(d:Df):Prop:=∃dv f fd,ycI K d dv f fd/\At K cn d f/\DvP K d dv
section
variable {K:AE}{cn:Nat->AQ}{gn nm:AQ}{st:CH}{N ps:List AQ}{fn:IC.Fn}{f:AI}{oc:AG}{od:Option AI}{kV doc pm:AG}{an:Option AI}{cdv ct:AG}{osl:Array (Option AG)}
theorem rowFn(a:B1 K mainGlobals gn=AA (AA (.ref f)))(l:K.lookup f=AA #[oc,od,.func (Bi nm nm (yaq st) (yam st) (yN st) .none kV doc pm an cdv ct),osl])
  (c:C0 K cdv nm=AC) (p:BH K (.ref f)=AC) (b:ybq #[gn,nm,nm,st,N,ps,fn,.fn]):yde K cn #[gn,nm,nm,st,N,ps,fn,.fn]:=
 #[.none,f,_,#[#[oc,od,kV,doc,pm,an,cdv,ct,osl,rfl,l,c],p],#[a,b],rfl]
theorem rowFd{ds:List Int}{dT:AI}{o:CP}{its:Array AG}{n:Nat}(a:B1 K mainGlobals gn=AA (AA (.ref f)))(l:K.lookup f=AA #[oc,od,.func (Bi nm nm (yaq st) (yam st) (yN st) (.ref dT) kV doc pm an cdv ct),osl])
  (c:C0 K cdv nm=AC) (p:BH K (.ref f)=AC) (d:K.lookup dT=AA o) (e:o.data=.seq its n) (v:Vals (ds.map V.int) its.toList):yde K cn #[gn,nm,nm,st,N,ps,fn,.fd ds]:=
 #[.ref dT,f,_,#[#[oc,od,kV,doc,pm,an,cdv,ct,osl,rfl,l,c],p],a,dT,o,its,n,rfl,d,e,v]
theorem rowMe{qn:AQ}{cc:Nat}{q:AI}(z:B1 K mainGlobals (cn cc)=AA (AA (.ref q)))(a:BP K (.ref q) nm=AA (AA (.ref f)))(i:Cy K (.ref f)=AC)(l:K.lookup f=AA #[oc,od,.func (Bi nm qn (yaq st) (yam st) (yN st) .none kV doc pm an cdv ct),osl])
  (c:C0 K cdv qn=AC) (p:BH K (.ref f)=AC) (b:ybq #[gn,nm,qn,st,N,ps,fn,.me cc]):yde K cn #[gn,nm,qn,st,N,ps,fn,.me cc]:=
 #[.none,f,_,#[#[oc,od,kV,doc,pm,an,cdv,ct,osl,rfl,l,c],p],#[b,q,z,a,i],rfl]
theorem rowIni{qn:AQ}{cc:Nat}{q:AI}(z:B1 K mainGlobals (cn cc)=AA (AA (.ref q)))(a:BP K (.ref q) nm=AA (AA (.ref f)))(i:Cy K (.ref f)=AC)(l:K.lookup f=AA #[oc,od,.func (Bi nm qn (yaq st) (yam st) (yN st) .none kV doc pm an cdv ct),osl])
  (c:C0 K cdv qn=AC) (p:BH K (.ref f)=AC) (b:ybq #[gn,nm,qn,st,N,ps,fn,.ini cc]) (mk:Dt K q=AC) (kq:BH K (.ref q)=AC):yde K cn #[gn,nm,qn,st,N,ps,fn,.ini cc]:=
 #[.none,f,_,#[#[oc,od,kV,doc,pm,an,cdv,ct,osl,rfl,l,c],p],#[b,q,z,a,i,mk,kq],rfl]
theorem gdf_mk{w:Au}{h:BR}{mg:AQ->Option AG}{x:AQ}{D:List (AQ×Nat)}{fa:Nat->AI}{y:AI}{es:Array CV}{ep:Nat}(X:K.In h)(G:h.Ns mainGlobals mg)(a:B1 K mainGlobals x=AA (AA (.ref y)))(l:K.lookup y=AA #[.type "dict",AD,.dict es ep,(List.toArray [])])
  (r:ycs w fa D es.toList) (n:(D.map (·.1)).Nodup):GDF K w mg fa x D:=#[y,es,ep,Eg X G a,l,r,n]
theorem gd_mk{w:Au}{h:BR}{mg:AQ->Option AG}{x:AQ}{D:List (AQ×PV)}{cl:Nat->AI}{y:AI}{es:Array CV}{ep:Nat}(X:K.In h)(G:h.Ns mainGlobals mg)(a:B1 K mainGlobals x=AA (AA (.ref y)))(l:K.lookup y=AA #[.type "dict",AD,.dict es ep,(List.toArray [])])
  (s:(y==sysModules)=AB) (r:ycr K cl w D es.toList) (n:(D.map (·.1)).Nodup):GD K w mg cl x D:=#[y,es,ep,Eg X G a,l,s,r,n]
end
abbrev KoV(K:AE)(v:PV)(u:AG):Prop:=∃x:V,RelV x u/\∀cl B A H,yh K cl B A H v x
abbrev KoL(K:AE)(vs:List PV)(us:List AG):Prop:=∃xs:List V,Vals xs us/\∀cl B A H,yp K cl B A H vs xs
mutual
noncomputable def yeK(K:AE):(v:PV)->(u:AG)->Pr (KoV K v u)
 |.int i,.int j t=>an (ask (i=j)) λh=>ok #[.int i,#[t,by rw[h]],λ_ _ _ _=>by erw[yh]]
 |.str i,.str j t=>an (ask (i=j)) λh=>ok #[.str i,#[t,by rw[h]],λ_ _ _ _=>by erw[yh]]
 |.tp AC vs,.ref a=>match h:K.lookup a with
  |some #[c,_,.seq its n,_]=>an (ask (c=.type "tuple"/\its.size<=sizeLine)) λq=>an (ydZ K vs its.toList) λr=>ok (by let#[xs,r1,r2]:=r;refine#[.ref a,rfl,λcl B A H=>?_];erw[yh];exact#[a,xs,rfl,.inr #[rfl,_,its,n,h,q.1,rfl,q.2,r1],r2 cl B A H])
  |_=>AD
 |_,_=>AD
noncomputable def ydZ(K:AE):(vs:List PV)->(us:List AG)->Pr (KoL K vs us)
 |[],[]=>ok #[[],.nil,λ_ _ _ _=>by erw[yp]]
 |v::vs,u::us=>an (yeK K v u) λh=>an (ydZ K vs us) λr=>ok (by let#[x,h1,h2]:=h;let#[xs,r1,r2]:=r;refine#[x::xs,.cons h1 r1,λcl B A H=>?_];erw[yp];exact#[x,xs,rfl,h2 cl B A H,r2 cl B A H])
 |_,_=>AD
end
theorem con_row{K:AE}{cl:Nat->AI}{w:Au}{k:AQ}{v:PV}{tk:Hv}{u:AG}{D:List (AQ×PV)}{es:List CV}(c:(yeK K v u).isSome=AC)(h:ycr K cl w D es):ycr K cl w ((k,v)::D) (#[EU w.params k,.str k tk,u] :: es):=by let#[#[x,r,q],_]:=BM.1 c;exact .cons r (q cl) h
theorem frow_cons{w:Au}{fa:Nat->AI}{k:AQ}{i:Nat}{tk:Hv}{a:AI}{D:List (AQ×Nat)}{es:List CV}(e:fa i=a)(h:ycs w fa D es):ycs w fa ((k,i)::D) (#[EU w.params k,.str k tk,.ref a] :: es):=by subst e;exact .cons h
structure Tb where
 tbl:List Df
 al:List (AQ×GK)
 bs:List AQ
 ts:List Ty
 fl:List (Nat×AQ)
 me:List ((Nat×AQ)×Nat)
 kb:List ((Nat×Nat×List AQ)×List (Option Int))
 cn:List (Nat×AQ)
 dd:List (AQ×List (AQ×PV))
 ml:List (AQ×List (AQ×Nat))
abbrev eF(x:AQ)(i:Nat):AQ×GK:=(x,.fn i)
abbrev eD(x:AQ)(i:Nat):AQ×GK:=(x,.fnD i)
abbrev eC(x:AQ)(v:PV):AQ×GK:=(x,.cst v)
abbrev eG(x:AQ)(g:GK):AQ×GK:=(x,g)
abbrev eN(c:Nat)(x:AQ):Nat×Str:=(c,x)
abbrev eM(c:Nat)(x:AQ)(i:Nat):(Nat×AQ)×Nat:=((c,x),i)
abbrev eK(i n:Nat)(ks:List AQ)(sh:List (Option Int)):(Nat×Nat×List AQ)×List (Option Int):=((i,n,ks),sh)
abbrev eL(x:AQ)(d:List (AQ×Nat)):AQ×List (AQ×Nat):=(x,d)
abbrev eB(x:AQ)(d:List (AQ×PV)):AQ×List (AQ×PV):=(x,d)
def tyE:Ty->Ty->Bool
 |.int,.int=>AC
 |.bool,.bool=>AC
 |.str,.str=>AC
 |.tuple,.tuple=>AC
 |.list,.list=>AC
 |_,_=>AB
def zoU{a b:Ty}(h:tyE a b=AC):a=b:=by cases a<;>cases b<;>first|rfl|cases h
def Tb.gs(t:Tb):Gs:=#[λx=>t.al.lookup x,λx=>t.bs.contains x,λy=>t.ts.any (tyE y),λc f=>t.fl.contains (c,f),λc n=>t.me.lookup (c,n),λi n ks=>t.kb.lookup (i,n,ks),λx=>t.ml.lookup x]
def nmA(K:AE)(x:AQ):Option Addr:=match B1 K mainGlobals x with
 |some (AA (.ref q))=>AA q
 |_=>AD
def clA(K:AE)(t:Tb)(c:Nat):Addr:=((t.cn.lookup c).bind (nmA K)).getD 0
def cnm(t:Tb)(c:Nat):Str:=(t.cn.lookup c).getD ""
def faA(K:AE)(t:Tb)(i:Nat):Addr:=match t.tbl[i]? with
 |some d=>match d.k with
  |.fn=>(nmA K d.gn).getD 0
  |.fd _=>(nmA K d.gn).getD 0
  |.me c=>match BP K (.ref (clA K t c)) d.nm with
   |some (AA (.ref f))=>f
   |_=>0
  |.ini c=>match BP K (.ref (clA K t c)) d.nm with
   |some (AA (.ref f))=>f
   |_=>0
 |none=>0
def ydx:Dk->Bool
 |.fn=>AC
 |_=>AB
def yeS:Dk->Bool
 |.fd _=>AC
 |_=>AB
def yfS:PV->Bool
 |.int _=>AC
 |.tp _ _=>AC
 |_=>AB
def alB(K:AE)(t:Tb):AQ×GK->Bool
 |(x,.fn i)=>match t.tbl[i]? with
  |some d=>ydx d.k&&(decide (x=d.gn) || decide (nmA K x=nmA K d.gn))
  |none=>AB
 |(x,.fnD i)=>match t.tbl[i]? with
  |some d=>yeS d.k&&(decide (x=d.gn) || decide (nmA K x=nmA K d.gn))
  |none=>AB
 |(x,.cst v)=>yfS v&&match B1 K mainGlobals x with
  |some (AA u)=>(yeK K v u).isSome
  |_=>AB
 |(x,.dct d)=>t.dd.any λp=>decide (p.1=x)&&(eqD p.2 d).isSome
 |(x,.exc c)=>decide (t.cn.lookup c=AA x)&&(nmA K x).any λq=>Fe K q [.type "ValueError",.type "Exception",.type "BaseException",.type "object"] "ValueError.__new__"
 |(x,.cls c i)=>decide (t.cn.lookup c=AA x)&&(nmA K x).isSome&&match t.tbl[i]? with
  |some d=>match d.k with
   |.ini c'=>decide (c'=c)&&decide (d.nm="__init__")
   |_=>AB
  |none=>AB
def yfn(K:AE)(t:Ty):Bool:=
 decide (Bg K (.type "NoneType") (.type (tyN t))=AA (ybN .non t))&&decide (Bg K (.type "bool") (.type (tyN t))=AA (ybN (.bl AC) t))&&decide (Bg K (.type "int") (.type (tyN t))=AA (ybN (.int 0) t))&&decide (Bg K (.type "str") (.type (tyN t))=AA (ybN (.str GY) t))&&decide (Bg K (.type "tuple") (.type (tyN t))=AA (ybN (.tp AC []) t))&&decide (Bg K (.type "list") (.type (tyN t))=AA (ybN (.lst []) t))
def yd9(K:AE)(q:AI):Bool:=Cw K q GY&&DP K q&&E6 K q&&decide (BP K (.ref q) "__setattr__"=AA (AA (.builtin "object.__setattr__")))
def zi4{K:AE}{q:AI}(h:yd9 K q=AC):Cls K q:=by erw[yd9,AK,decide_eq_true_eq]at h;exact#[h.1.1.1,h.1.1.2,h.1.2,h.2]
def yeT(K:AE)(t:Tb):Bool:=
 t.al.all (alB K t)&&t.bs.all (λx=>decide (B1 K mainGlobals x=AA AD))&&t.ts.all (yfn K) &&
  t.fl.all (λp=>(t.cn.lookup p.1).isSome&&(nmA K (cnm t p.1)).any λq=>yd9 K q&&decide (BP K (.ref q) p.2=AA AD)) &&
  t.me.all (λp=>(t.cn.lookup p.1.1).isSome&&(nmA K (cnm t p.1.1)).any λq=>yd9 K q&&match t.tbl[p.2]? with
   |some d=>(match d.k with
    |.me c=>decide (c=p.1.1)
    |_=>AB)&&decide (d.nm=p.1.2)
   |none=>AB) &&
  t.ml.all λp=>p.2.all λq=>match t.tbl[q.2]? with
   |some d=>ydx d.k
   |none=>AB
def fd0:FuncData:=Bi "" "" (yaq (.Pass #[0,0,0,0])) [] (yN (.Pass #[0,0,0,0])) .none .none .none .none AD .none .none
def fdA(K:AE)(t:Tb)(i:Nat):FuncData:=match K.lookup (faA K t i)with
 |some #[_,_,.func fd,_]=>fd
 |_=>fd0
def psA(t:Tb)(i:Nat):List Str:=match t.tbl[i]? with
 |some d=>d.ps
 |none=>[]
theorem lkm{A B:Type}[BEq A][LawfulBEq A]{x:A}{k:B}:∀{l:List (A×B)},l.lookup x=AA k->(x,k)∈l
 |[],h=>nomatch h
 |y::l,h=>by
  rw[Bo]at h
  cases hx:x==y.1 with
  |true=>rw[hx]at h;cases h;rw[eq_of_beq hx];exact Aw
  |false=>rw[hx]at h;exact AS _ (lkm h)
def KbP(t:Tb)(p:(Nat×Nat×List AQ)×List (Option Int)):Prop:=∀d ds,t.tbl[p.1.1]?=AA d->d.k=.fd ds->∀(K:AE) (mg:AQ->Option AG) (f:AI) (fd:BQ),FnD K mg d.nm d.st d.ps ds f fd->∃g,ybT K fd d.ps p.1.2.2 g (gK p.1.2.1 p.2)
structure Fact(t:Tb)(w:Au)(K:AE)(mg:AQ->Option AG):Prop where
 X:∀x u,B1 K mainGlobals x=AA u->mg x=u
 R:ycc (yde K (cnm t)) t.tbl
 B:yeT K t=AC
 D:ycc (λp=>∀cl,GD K w mg cl p.1 p.2) t.dd
 Kb:ycc (KbP t) t.kb
 Ml:ycc (λp=>GDF K w mg (faA K t) p.1 p.2) t.ml
def zoC{K:AE}{x:AQ}{q:AI}(h:nmA K x=AA q):B1 K mainGlobals x=AA (AA (.ref q)):=by
 unfold nmA at h;split at h
 .cases h;assumption
 .cases h
def zcT{K:AE}{x:AQ}{q:AI}(h:B1 K mainGlobals x=AA (AA (.ref q))):nmA K x=AA q:=by erw[nmA,h]
def zgw{K:AE}{t:Tb}{c:Nat}{q:AI}(h:nmA K (cnm t c)=AA q)(hc:(t.cn.lookup c).isSome=AC):clA K t c=q:=by let#[x,e]:=BM.1 hc;erw[clA,e,Bb];erw[cnm,e,CW]at h;rw[h];rfl
def okT(t:Tb)(d:Df):Bool:=okD t.gs d&&match d.k with
 |.fn=>AC
 |.fd _=>decide (d.q=d.nm)
 |.me c=>(t.cn.lookup c).isSome
 |.ini c=>(t.cn.lookup c).isSome&&decide (d.nm="__init__")
section
variable {t:Tb}{w:Au}{K:AE}{mg:AQ->Option AG}{T:Nat->Option IC.Fn}{P:Af}{base:BR}{k:Nat}
def zd3(F:Fact t w K mg)(O:∀d∈t.tbl,okT t d=AC){i:Nat}{d:Df}(h:t.tbl[i]?=AA d):∃dv fd,ycI K d dv (faA K t i) fd/\At K (cnm t) d (faA K t i)/\DvP K d dv:=by
 have hm:=A6 h;let#[dv,f,fd,h1,h2,h3]:=F.R.get d hm;have e:f=faA K t i:=by
  have o:=O d hm;erw[okT,AK]at o;have o:=o.2;erw[faA,h];unfold At at h2
  cases q:d.k with
  |fn=>
   rw[q]at h2;erw[zcT h2.1,CW]
  |fd ds=>
   rw[q]at h2;have h2:B1 K mainGlobals d.gn=AA (AA (.ref f)):=h2;erw[zcT h2,CW]
  |me c=>
   rw[q]at h2 o;let#[_,q',e1,e2,_]:=h2;erw[zgw (zcT e1) o,e2]
  |ini c=>
   rw[q]at h2 o;let#[_,q',e1,e2,_]:=h2;erw[AK]at o;erw[zgw (zcT e1) o.1,e2]
 subst e;exact#[dv,fd,h1,h2,h3]
theorem ycI.binds{d:Df}{f:AI}{fd:BQ}(R:ycI K d .none f fd)(b:ybq d):Binds K fd d.ps []:=
 Fun.binds #[R.ex,R.kp] λkV doc pm an cdv ct us hl=>(b kV doc pm an cdv ct).get us hl
theorem ycI.ok{d:Df}{dv:AG}{f:AI}{fd:BQ}{fi m:Nat}{cl:Nat->AI}(R:ycI K d dv f fd)(hT:T fi=AA d.fn)(Sc:ybo d.N d.ps (yN d.st))(hnp:d.ps.length=d.fn.np)(hns:d.N.length=d.fn.ns)
  (body:∀(cdv:AG) (A:BK) (outer:List Be) (s:AJ) (H:Hp) (E:XK),yaI m (A.deeper (envOfC d.q (yN d.st) s.heap.objs.size f cdv)) ->
   PSs (ya8 (CX1 P w) P w K mg base d.N d.q (yN d.st) f cdv A outer s H E) (yam d.st) (tSs #[cl,yd T k,AC] (ya8 (CX1 P w) P w K mg base d.N d.q (yN d.st) f cdv A outer s H E) d.fn.body)):
  yaW P w K mg base (CX1 P w) (m+1) f fd d.ps (spI K cl (yd T (k+1)) fi):=by let#[oc,od,kV,doc,pm,an,cdv,ct,osl,rfl,lk,hcd]:=R.ex;exact zqR lk hcd Sc (λvs H Q E h=>zop hT hnp h) λA outer s H vs Q E hr h=>#[_,body cdv A outer s H E hr,zl5 hT hns h]
def Fn2(t:Tb)(P:Af)(w:Au)(K:AE)(mg:AQ->Option AG)(base:BR)(T:Nat->Option IC.Fn)(k:Nat):Prop:=
 ∀i d dv fd,t.tbl[i]?=AA d->ycI K d dv (faA K t i) fd->yaW P w K mg base (CX1 P w) (2*k) (faA K t i) fd d.ps (spI K (clA K t) (yd T k) i)
def zj2(F:Fact t w K mg)(O:∀d∈t.tbl,okT t d=AC)(C:Fn2 t P w K mg base T k){N:List AQ}{q:AQ}{sc:Bq}{f:AI}{cdv:AG}{A:BK}{outer:List Be}{s:AJ}{H:Hp}{E:XK}:
  Glo t.gs (2*k) #[clA K t,yd T k,AC] (ya8 (CX1 P w) P w K mg base N q sc f cdv A outer s H E):=by
 have B:=F.B;erw[yeT,AK,Bp]at B;let#[#[#[#[#[b1,b2],b3],b4],b5],b6]:=B;have mgr:∀{x:AQ} {a:AI},nmA K x=AA a->mg x=AA (.ref a):=λh=>F.X _ _ (zoC h);have same:∀{x y:AQ} {a:AI},(decide (x=y) || decide (nmA K x=nmA K y))=AC->nmA K y=AA a->nmA K x=AA a:=λ{x y a} h e=>by
  erw[DG,decide_eq_true_eq]at h;rcases h with rfl|h
  .exact e
  .rw[h];exact e
 refine#[λx i h=>?_,λx i np ks sh h hk=>?_,λx v h=>?_,λx d h=>?_,λx c h=>?_,λx c i h=>?_,λx h=>?_,λy h=>?_,λc n h=>?_,λc n i h=>?_,λy D h=>?_]
 .have q:=b1 _ (lkm h);erw[alB]at q;split at q
  .rename_i d hd;erw[AK]at q;let#[dv,fd,r1,r2,r3]:=zd3 F O hd;have hk:d.k=.fn:=by cases e:d.k<;>rw[e]at q<;>first|rfl|cases q.1
   erw[At,hk]at r2;erw[DvP,hk]at r3;subst r3;exact#[_,fd,d.ps,C i d _ fd hd r1,mgr (same q.2 (zcT r2.1)),r1.kp,r1.binds r2.2]
  .cases q
 .have q:=b1 _ (lkm h);erw[alB]at q;split at q
  .rename_i d hd;erw[AK]at q;let#[dv,fd,r1,r2,r3]:=zd3 F O hd;obtain⟨ds,hk'⟩:∃ds,d.k=.fd ds:=by cases e:d.k<;>rw[e]at q<;>first|exact#[_,rfl]|cases q.1
   erw[At,hk']at r2;erw[DvP,hk']at r3;let#[dT,o,its,n,rfl,e1,e2,e3]:=r3;have oo:=O d (A6 hd);erw[okT,hk',AK,decide_eq_true_eq]at oo;have D:FnD K (λ_=>AA (.ref (faA K t i))) d.nm d.st d.ps ds (faA K t i) fd:=by let#[oc,od,kV,doc,pm,an,cdv,ct,osl,z1,z2,z3]:=r1.ex;rw[oo.2]at z1 z3;exact#[#[oc,od,dT,kV,doc,pm,an,cdv,ct,osl,o,its,n,z1,z2,z3,e1,e2,e3],r1.kp,rfl]
   exact#[_,fd,d.ps,C i d _ fd hd r1,mgr (same q.2 (zcT r2)),r1.kp,F.Kb.get _ (lkm hk) d ds hd hk' K _ _ _ D]
  .cases q
 .have q:=b1 _ (lkm h);erw[alB,AK]at q;let#[q0,q]:=q;split at q
  .rename_i u hu;let#[#[y,r,z],_]:=BM.1 q;have hm:=F.X _ _ hu
   cases v with
   |int i=>
    have z:=z (λ_=>0) (λ_=>False) [] (λ_=>AD);erw[yh]at z;subst z;let#[tk,rfl]:=r;exact .inr #[i,rfl,tk,hm]
   |tp b vs=>
    have z0:=z (λ_=>0) (λ_=>False) [] (λ_=>AD);erw[yh]at z0;let#[a,xs,rfl,_]:=z0;have r:u=.ref a:=r;subst r;exact .inl #[a,hm,λB I H=>z _ B I H]
   |_=>cases q0
  .cases q
 .have q:=b1 _ (lkm h);erw[alB,Eo,AK,decide_eq_true_eq]at q;let#[p,hp,rfl,q]:=q;let#[#[e],_]:=BM.1 q;rw[<-e];exact F.D.get p hp _
 .have q:=b1 _ (lkm h);erw[alB,AK,decide_eq_true_eq,Cu]at q;let#[q1,q2,q3]:=q;let#[a,ha]:=BM.1 q2;have e:clA K t c=a:=by erw[clA,q1,Bb,ha,CW]
  erw[ha,FI]at q3;exact#[by show mg x=AA (.ref (clA K t c));rw[e];exact mgr ha,by show Fe K (clA K t c) _ _=AC;rw[e];exact q3]
 .have q:=b1 _ (lkm h);erw[alB,AK,decide_eq_true_eq]at q;let#[#[q1,q2],q3]:=q;let#[a,ha]:=BM.1 q2;have e:clA K t c=a:=by erw[clA,q1,Bb,ha,CW]
  split at q3
  .rename_i d hd
   cases hk:d.k with
   |ini c'=>
    rw[hk]at q3;erw[AK,decide_eq_true_eq]at q3;let#[rfl,hn]:=q3;let#[dv,fd,r1,r2,r3]:=zd3 F O hd;erw[At,hk]at r2;erw[DvP,hk]at r3;subst r3;let#[r0,q',r4,r5,r6,r7,r8]:=r2;have e2:q'=a:=by have:nmA K (cnm t c')=AA q':=zcT r4;erw[cnm,q1,CW,ha]at this;exact(A1 this).symm
    subst e2;rw[hn]at r5;refine#[by show mg x=AA (.ref (clA K t c'));rw[e];exact mgr ha,_,fd,d.ps,?_,C i d _ fd hd r1,r1.binds r0];show Mk K (clA K t c') _;rw[e];exact#[r7,r5,r6,r8]
   |_=>rw[hk]at q3;cases q3
  .cases q3
 .have q:x∈t.bs:=by simpa [Tb.gs] using h
  have:=b2 x q;erw[decide_eq_true_eq]at this;exact F.X _ _ this
 .simp only[Tb.gs,Eo]at h;let#[y',hy,e]:=h;have:=zoU e;subst this;have q:=b3 y hy;erw[yfn,AK,decide_eq_true_eq]at q;exact#[q.1.1.1.1.1,q.1.1.1.1.2,q.1.1.1.2,q.1.1.2,q.1.2,q.2]
 .have q:(c,n)∈t.fl:=by simpa [Tb.gs] using h
  have q:=b4 _ q;erw[AK,Cu,decide_eq_true_eq]at q;let#[q1,q2,q3]:=q;let#[a,ha]:=BM.1 q2;erw[ha,FI]at q3;have e:clA K t c=a:=zgw ha q1;show Cls K (clA K t c)/\yaF K (clA K t c) n;rw[e];exact#[zi4 q3.1,q3.2]
 .have q:=b5 _ (lkm h);erw[AK,Cu,decide_eq_true_eq]at q;let#[q1,q2,q3,q4]:=q;let#[a,ha]:=BM.1 q2;erw[ha,FI]at q3;have e:clA K t c=a:=zgw ha q1;split at q4
  .rename_i d hd;erw[AK,decide_eq_true_eq]at q4;let#[q4,hn]:=q4
   cases hk:d.k with
   |me c'=>
    rw[hk]at q4;have q4:c'=c:=by simpa using q4
    subst q4;let#[dv,fd,r1,r2,r3]:=zd3 F O hd;erw[At,hk]at r2;erw[DvP,hk]at r3;subst r3;let#[r0,q',r4,r5,r6]:=r2;have e2:q'=a:=A1 ((zcT r4).symm.trans ha);subst e2;refine#[by show Cls K (clA K t c');rw[e];exact zi4 q3,_,fd,d.ps,?_,C i d _ fd hd r1,r1.binds r0];show Meth K (clA K t c') n _;rw[e,<-hn];exact#[r5,r6,r1.kp]
   |_=>rw[hk]at q4;cases q4
  .cases q4
 .have q:=b6 _ (lkm h);have g:∀s j,D.lookup s=AA j->∃d dv fd,t.tbl[j]?=AA d/\ycI K d dv (faA K t j) fd/\dv=.none/\ybq d/\fd=fdA K t j/\d.ps=psA t j:=λs j hj=>by
   have q:=q _ (lkm hj);split at q
   .rename_i d hd;let#[dv,fd,r1,r2,r3]:=zd3 F O hd;have hk:d.k=.fn:=by cases e:d.k<;>rw[e]at q<;>first|rfl|cases q
    erw[At,hk]at r2;erw[DvP,hk]at r3;let#[oc,od,kV,doc,pm,an,cdv,ct,osl,_,lk,_]:=r1.ex;exact#[d,dv,fd,hd,r1,r3,r2.2,by erw[fdA,lk],by erw[psA,hd]]
   .cases q
  refine#[faA K t,fdA K t,psA t,#[λs j hj=>?_,λs j hj=>?_,λs j hj=>?_],F.Ml.get _ (lkm h)]
  .let#[d,dv,fd,h1,h2,h3,h4,h5,h6]:=g s j hj;rw[<-h5,<-h6];exact C j d dv fd h1 h2
  .let#[d,dv,fd,h1,h2,h3,h4,h5,h6]:=g s j hj;exact h2.kp
  .let#[d,dv,fd,h1,h2,h3,h4,h5,h6]:=g s j hj;subst h3;rw[<-h5,<-h6];exact h2.binds h4
def zik(F:Fact t w K mg)(O:∀d∈t.tbl,okT t d=AC)(hT:∀i d,t.tbl[i]?=AA d->T i=AA d.fn):∀k,Fn2 t P w K mg base T k
 |0=>λi d dv fd _ _=>zkd
 |k+1=>λi d dv fd h R=>by have o:=O d (A6 h);erw[okT,okD,AK,decide_eq_true_eq]at o;let#[#[#[#[o1,o2],o3],o4],_]:=o;let#[#[y],_]:=BM.1 o4;exact R.ok (m:=2*k+1) (hT i d h) (zpC o1) o2 o3 λ_ _ _ _ _ _ hr=>y (2*k) _ _ #[rfl,rfl,rfl,hr,λ_=>#[own1,λ_=>rfl,rfl],zj2 F O (zik F O hT k)]
def ydg:Nat->(List AG->Prop)->Prop
 |0,P=>P []
 |n+1,P=>∀a,ydg n λus=>P (a::us)
theorem ydg.get:∀{n:Nat} {P:List AG->Prop},ydg n P->∀us,us.length=n->P us
 |0,P,h,[],_=>h
 |n+1,P,h,a::us,e=>(h a).get us (by simpa using e)
theorem kbP{i np:Nat}{ks:List AQ}{sh:List (Option Int)}{d:Df}{ds:List Int}(hd:t.tbl[i]?=AA d)(hk:d.k=.fd ds)(h1:ks.length=nKw sh)(h2:sh.length=(ds.drop (ds.length-sh.length)).length)
  (h3:((sh.zip (ds.drop (ds.length-sh.length))).all λp=>p.1.all λi=>decide (i=p.2))=AC) (hp:0<d.ps.length)
  (h:∀(dT:AI) (kV doc pm:AG) (an:Option AI) (cdv ct:AG),ydg np λus=>ydg ks.length λws=>ydg ds.length λits=>
   ∃k,bindArgs (Bi d.nm d.nm (yaq d.st) (yam d.st) (yN d.st) (.ref dT) kV doc pm an cdv ct) #[us,ks.zip ws]=seqItems? (.ref dT) >>= k/\k (AA its.toArray)=pure (d.ps.zip (us++ybh sh ws (its.drop (ds.length-sh.length))))):KbP t ((i,np,ks),sh):=by
 intro d' ds' e1 e2 K mg f fd D;have e1:t.tbl[i]?=AA d':=e1;rw[hd]at e1
 cases e1
 rw[hk]at e2
 cases e2
 exact kbD D h1 h2 h3 (λdT kV doc pm an cdv ct us ws its z1 z2 z3=>(((h dT kV doc pm an cdv ct).get us z1).get ws z2).get its z3) hp
theorem all_mk2{h:BR}{fx:AI}(X:K.In h)(G:h.Ns mainGlobals mg)(hfa:mg "law"=AA (.ref fx))(R:ycc (yde K (cnm t)) t.tbl)(B:yeT K t=AC)(D:ycc (λp=>∀cl,GD K w mg cl p.1 p.2) t.dd)(Kb:ycc (KbP t) t.kb)(Ml:ycc (λp=>GDF K w mg (faA K t) p.1 p.2) t.ml)
  (O:t.tbl.all (okT t)=AC) (hT:∀i d,t.tbl[i]?=AA d->T i=AA d.fn) {L:Nat} {st:CH} {N:List AQ} {fn:IC.Fn} (hL:t.tbl[L]?=AA #["law","law","law",st,N,["_law_script"],fn,.fn]) (lvl:Nat):
  ∃fd:BQ,(∀(s:AJ) (v:AG),F0 s fd #[[v],[]] [("_law_script",v)])/\∀base:BR,K.In base->base.Ns mainGlobals mg->yaW P w K mg base (CX1 P w) (2*lvl) fx fd ["_law_script"] (spX K (yd T lvl) L):=by
 have F:Fact t w K mg:=#[λx u e=>by
  cases u with
  |none=>exact PySem.W.mg_none_of X G e
  |some v=>exact Eg X G e,R,B,D,Kb,Ml]
 have O':=Bp.1 O;let#[dv,fd,r1,r2,r3]:=zd3 F O' hL;have r3:dv=.none:=r3;subst r3;have r2:B1 K mainGlobals "law"=AA (AA (.ref (faA K t L)))/\ybq _:=r2;have e:=Value.ref.inj (A1 (hfa.symm.trans (Eg X G r2.1)));subst e;refine#[fd,λs v=>?_,λbase _ _=>(zik F O' hT lvl L _ _ fd hL r1).imp λ_ _ _ _ h=>h _];let#[oc,od,kV,doc,pm,an,cdv,ct,osl,rfl,_]:=r1.ex;exact .of_eq (r2.2 kV doc pm an cdv ct v)
end
end L2
namespace IC
open PySem
def yi:List (AQ×Nat):=[(AF "move",78),(AF "bare",79),(AF "sum",80),(AF "less",81),(AF "both",82),(AF "any",83),(AF "odd",84),(AF "twice",85),(AF "half",86)]
def yfx:PV:=(.tp AC [(.str "f"),(.tp AC [(.int 0),(.int 0),(.int 0),(.int 0)])])
def yiz:PV:=(.tp AC [(.str "p"),(.tp AC [(.int 0),(.int 0),(.int 0),(.int 0)])])
def yjd:PV:=(.tp AC [(.int 0),(.int 0),(.int 1)])
def ym:PV:=(.tp AC [(.int 0),(.int 1),(.int 0)])
def yje:PV:=(.int 10000000000000000000000000000000000000000)
def yhB:PV:=(.tp AC [(.str "g"),(.tp AC [(.int 0),(.int 0),(.int 0),(.int 0)])])
def yfN:PV:=(.tp AC [(.str "h"),(.tp AC [(.int 0),(.int 0),(.int 0),(.int 0)])])
def yjf:PV:=(.tp AC [(.str "turned"),(.str "bare")])
def yiA:PV:=(.tp AC [(.str "w"),(.tp AC [(.int 0),(.int 0),(.int 0),(.int 0)])])
def yeW:PV:=(.tp AC [(.str "l"),(.tp AC [(.int 0),(.int 0),(.int 0),(.int 0)])])
def yn:PV:=(.tp AC [(.tp AC [(.str "m"),(.tp AC [(.int 0),(.int 0),(.int 0),(.int 0)])]),(.tp AC [(.str "m"),(.tp AC [(.int 1),(.int 0),(.int 0),(.int 0)])]),(.tp AC [(.str "m"),(.tp AC [(.int 2),(.int 0),(.int 0),(.int 0)])]),(.tp AC [(.str "m"),(.tp AC [(.int 3),(.int 0),(.int 0),(.int 0)])])])
def yjg:PV:=(.int 4)
def yko:PV:=(.int 2)
def yjh:PV:=(.int 4000)
def yji:PV:=(.int 4000)
def ykp:PV:=(.int 20)
def ykq:PV:=(.int 2)
def yjj:PV:=(.int 200)
def ydu:PV:=(.tp AC [(.str "z"),(.tp AC [(.int 0),(.int 0),(.int 0),(.int 0)])])
def yhC:PV:=(.tp AC [(.str "o"),(.tp AC [(.int 0),(.int 0),(.int 0),(.int 0)])])
def yiB:PV:=(.tp AC [(.str "sum"),(.str "difference"),(.str "compare"),(.str "both"),(.str "any"),(.str "odd"),(.str "product"),(.str "signed product"),(.str "quotient"),(.str "signed quotient")])
def yjk:PV:=(.tp AC [(.str "both"),(.str "any"),(.str "odd")])
def yiC:PV:=(.tp AC [(.str "product"),(.str "signed product")])
def yfV:PV:=(.tp AC [(.str "quotient"),(.str "signed quotient")])
def yfg:PV:=(.tp AC [(.str "s"),(.tp AC [(.int 0),(.int 0),(.int 0),(.int 0)])])
def yiD:PV:=(.tp AC [(.str "left"),(.str "right"),(.str "down"),(.str "roll")])
def yhD:PV:=(.tp AC [(.str "k"),(.tp AC [(.int 0),(.int 0),(.int 0),(.int 0)])])
def yen:PV:=(.tp AC [(.str "i"),(.tp AC [(.int 0),(.int 0),(.int 0),(.int 0)])])
def yfh:PV:=(.tp AC [(.str "j"),(.tp AC [(.int 0),(.int 0),(.int 0),(.int 0)])])
def yf:PV:=(.tp AC [(.str "t"),(.tp AC [(.int 0),(.int 0),(.int 0),(.int 0)])])
def ybW:List (AQ×PV):=[(AF "set",(.tp AC [(.str "cell"),(.str "figure")])),(AF "move",(.tp AC [(.str "cell"),(.str "cell")])),(AF "bare",(.tp AC [(.str "cell"),(.str "cell")])),(AF "sum",(.tp AC [(.str "cell"),(.str "cell"),(.str "cell")])),(AF "less",(.tp AC [(.str "cell"),(.str "cell"),(.str "cell")])),(AF "both",(.tp AC [(.str "cell"),(.str "cell"),(.str "cell")])),(AF "any",(.tp AC [(.str "cell"),(.str "cell"),(.str "cell")])),(AF "odd",(.tp AC [(.str "cell"),(.str "cell"),(.str "cell")])),(AF "twice",(.tp AC [(.str "cell"),(.str "cell")])),(AF "half",(.tp AC [(.str "cell"),(.str "cell")])),(AF "times",(.tp AC [(.str "cell"),(.str "cell"),(.str "cell"),(.str "cell")])),(AF "mark",(.tp AC [(.str "figure")])),(AF "ask",(.tp AC [(.str "cell")]))]
section zq
local macro_rules|`(#[$x,*])=>do
 let mut a←`(.e)
 for y in x.getElems.reverse do a←`(.k $y $a)
 pure a
def yjl:Fn:=⟨5,5,AC,#[.ret (.tup #[.v 0,.tup #[.v 1,.v 2,.v 3,.v 4]])]⟩
def yjm:Fn:=⟨1,1,AC,#[.ret (.call 0 (yL #[.v 0,.neg (.i 1)] (yj [.inr 0,.inr 0,.inl (.i 1)])))]⟩
def yjn:Fn:=⟨1,1,AC,#[.ret (.blt .tuple #[.comp [AD] (.n 0) (.seq (.v 0)) (.cst (.bl AC)) (.tup #[.s "row",.v 0])])]⟩
def yjo:Fn:=⟨3,3,AC,#[.ret (.tup #[.tup #[.s "rounds",.v 0,.v 1,.v 2]])]⟩
def yjp:Fn:=⟨5,5,AC,#[.ret (.tup #[.s "slice",.v 0,.tup #[.i 0,.i 0,.i 0,.i 0],.tup #[.v 1,.v 2,.v 3,.v 4]])]⟩
def yjq:Fn:=⟨6,6,AC,#[.ret (.tup #[.v 0,.tup #[.i 0,.v 2,.i 0,.v 3,.v 4,.v 5],.v 1])]⟩
def yjr:Fn:=⟨3,4,AC,#[.asg (.n 3) (.tup #[.call 5 (yL #[.i 1,.tup #[.call 4 (yL #[.v 1] (yj [.inr 0,.inl (.i 1),.inr 0,.inr 0]))]] (yj [.inr 0,.inr 0,.inr 0,.inr 0])),.call 5 (yL #[.neg (.i 1),.tup #[.call 4 (yL #[.v 0] (yj [.inr 0,.inl (.i 1),.inr 0,.inr 0]))]] (yj [.inr 0,.inr 0,.inr 0,.inr 0]))]),.ret (.call 3 #[.tup #[.v 2,.i 1,.i 0],.v 3,.call 2 #[.lst #[.tup #[.s "move",.call 0 (yL #[.v 0] (yj [.inr 0,.inl (.i 1),.inr 0,.inr 0])),.call 0 (yL #[.v 1] (yj [.inr 0,.inl (.i 1),.inr 0,.inr 0]))]]]])]⟩
def yjs:Fn:=⟨2,2,AC,#[.ret (.call 3 #[.v 1,.tup .e,.call 2 #[.lst #[.tup #[.s "twice",.call 0 (yL #[.v 0] (yj [.inr 0,.inr 0,.inl (.i 1),.inr 0])),.call 0 (yL #[.v 0] (yj [.inr 0,.inr 0,.inl (.i 1),.inr 0]))]]]])]⟩
def yjt:Fn:=⟨1,1,AC,#[.ret (.tup #[.s "sum",.v 0,.cst ydu,.cst ydu])]⟩
def yju:Fn:=⟨1,1,AC,#[.ret (.lst #[.tup #[.s "set",.v 0,.i 1],.tup #[.s "less",.v 0,.v 0,.cst ydu]])]⟩
def yjv:Fn:=⟨2,2,AC,#[.ret (.lst #[.tup #[.s "twice",.cst yf,.v 1],.tup #[.s "less",.v 0,.cst ydu,.cst ydu]])]⟩
def yjw:Fn:=⟨4,4,AC,#[.ret (.call 3 #[.v 3,.tup .e,.call 2 #[.lst #[.tup #[.s "odd",.cst yf,.v 1,.v 2],.tup #[.s "any",.v 0,.v 0,.cst yf]]]])]⟩
def yjx:Fn:=⟨3,4,AC,#[.asg (.n 3) (.tup #[.s "any",.cst yfg,.cst yfg,.call 0 (yL #[.v 0] (yj [.inr 0,.inl (.i 1),.inr 0,.inl (.v 1)]))]),.ret (.bin .add (.bin .add (.call 2 #[.lst #[.tup #[.s "set",.cst yfg,.i 0]]]) (.call 3 #[.v 2,.tup .e,.call 2 #[.lst #[.v 3]]])) (.call 2 #[.lst #[.tup #[.s "ask",.cst yfg]]]))]⟩
def yjy:Fn:=⟨2,3,AC,#[.asg (.n 2) (.lst #[.tup #[.s "twice",.cst yf,.call 0 (yL #[.s "c",.bin .sub (.v 0) (.i 1)] (yj [.inr 0,.inr 0,.inl (.v 1)]))],.call 8 #[.idx (.cst yn) (.i 3)]]),.ret (.bin .add (.call 12 #[.s "c",.i 0,.tup #[.v 0,.v 1,.i 0]]) (.call 2 #[.bin .add (.call 9 #[.idx (.cst yn) (.i 2)]) (.v 2)]))]⟩
def yjz:Fn:=⟨0,3,AC,#[.asg (.n 0) (.tup #[.call 5 (yL #[.i 1,.tup #[.call 4 (yL #[.s "c"] (yj [.inr 0,.inl (.i 1),.inr 0,.inl (.i 1)]))]] (yj [.inr 0,.inr 0,.inr 0,.inr 0])),.call 5 (yL #[.neg (.i 1),.tup #[.call 4 (yL #[.s "a"] (yj [.inr 0,.inr 0,.inr 0,.inl (.i 1)])),.call 4 (yL #[.s "b"] (yj [.inr 0,.inl (.i 1),.inr 0,.inr 0]))]] (yj [.inr 0,.inr 0,.inr 0,.inr 0]))]),.asg (.n 1) (.call 2 #[.lst #[.tup #[.s "mark",.i 0],.tup #[.s "set",.cst yhC,.i 0]]]),.asg (.n 2) (.call 2 #[.lst #[.tup #[.s "move",.call 0 (yL #[.s "c"] (yj [.inr 0,.inl (.i 1),.inr 0,.inl (.i 1)])),.cst yhC]]]),.ret (.call 3 #[.cst ym,.v 0,.bin .add (.bin .add (.v 1) (.call 15 .e)) (.v 2)])]⟩
def yjA:Fn:=⟨0,3,AC,#[.asg (.n 0) (.call 0 (yL #[.s "c"] (yj [.inr 0,.inl (.i 1),.inl (.i 1),.inr 0]))),.asg (.n 1) (.tup #[.s "slice",.s "b",.tup #[.i 0,.i 1,.i 0,.i 0],.tup #[.i 1,.i 1,.i 0,.i 0]]),.asg (.n 2) (.tup #[.call 5 (yL #[.i 1,.tup #[.call 4 (yL #[.s "c"] (yj [.inr 0,.inl (.i 1),.inr 0,.inl (.i 1)]))]] (yj [.inr 0,.inr 0,.inr 0,.inr 0])),.call 5 (yL #[.i 1,.tup #[.call 4 (yL #[.s "o",.i 1] (yj [.inr 0,.inr 0,.inr 0]))]] (yj [.inr 0,.inl (.i 1),.inl (.i 1),.inr 0])),.call 5 (yL #[.neg (.i 1),.tup #[.call 4 (yL #[.s "a"] (yj [.inr 0,.inr 0,.inr 0,.inl (.i 1)])),.call 4 (yL #[.s "b"] (yj [.inr 0,.inl (.i 1),.inr 0,.inr 0]))]] (yj [.inr 0,.inr 0,.inr 0,.inr 0])),.call 5 (yL #[.neg (.i 1),.tup #[.call 4 (yL #[.s "a"] (yj [.inr 0,.inr 0,.inl (.i 1),.inr 0])),.v 1]] (yj [.inr 0,.inl (.i 1),.inr 0,.inr 0]))]),.ret (.call 3 #[.cst ym,.v 2,.call 2 #[.lst #[.tup #[.s "times",.cst yeW,.cst yfN,.call 0 (yL #[.s "a"] (yj [.inr 0,.inr 0,.inl (.i 1),.inr 0])),.call 0 (yL #[.s "b"] (yj [.inr 0,.inl (.i 1),.inr 0,.inr 0]))],.tup #[.s "sum",.cst yeW,.cst yeW,.cst yhC],.tup #[.s "sum",.cst yfN,.cst yfN,.cst ydu],.tup #[.s "sum",.v 0,.v 0,.cst yeW],.tup #[.s "sum",.cst yhC,.cst yfN,.cst ydu]]]])]⟩
def yjB:Fn:=⟨0,0,AC,#[.ret (.bin .add (.bin .add (.call 18 #[.s "a",.s "b",.s "c",.s "d"]) (.call 17 .e)) (.call 13 #[.i 0,.i 1]))]⟩
def yjC:Fn:=⟨0,0,AC,#[.ret (.bin .add (.call 12 #[.s "b",.i 0,.cst ym]) (.call 2 #[.call 9 #[.idx (.cst yn) (.i 0)]]))]⟩
def yjD:Fn:=⟨4,6,AC,#[.asg (.n 4) (.tup #[.call 5 (yL #[.i 1,.tup #[.call 4 (yL #[.v 0] (yj [.inr 0,.inr 0,.inr 0,.inl (.i 1)]))]] (yj [.inl (.i 1),.inr 0,.inr 0,.inr 0])),.call 5 (yL #[.neg (.i 1),.tup #[.call 4 (yL #[.v 2] (yj [.inr 0,.inr 0,.inr 0,.inl (.i 1)])),.call 4 (yL #[.v 1] (yj [.inr 0,.inr 0,.inr 0,.inl (.i 1)]))]] (yj [.inr 0,.inr 0,.inr 0,.inl (.i 1)])),.call 5 (yL #[.neg (.i 1),.tup #[.call 4 (yL #[.v 3,.i 1] (yj [.inr 0,.inr 0,.inl (.i 1)]))]] (yj [.inr 0,.inr 0,.inr 0,.inl (.i 1)])),.call 5 (yL #[.neg (.i 1),.tup #[.call 4 (yL #[.s "e"] (yj [.inr 0,.inr 0,.inr 0,.inl (.i 1)]))]] (yj [.inr 0,.inr 0,.inr 0,.inr 0]))]),.asg (.n 5) (.bin .add (.bin .add (.bin .add (.call 19 #[.v 3]) (.call 20 #[.v 3,.v 1])) (.call 21 #[.v 3,.v 1])) (.call 22 #[.v 2])),.ret (.bin .add (.call 6 (yL #[.s "e",.v 0] (yj [.inr 0]))) (.call 3 #[.cst yjd,.v 4,.v 5]))]⟩
def yjE:Fn:=⟨1,1,AC,#[.ret (.bin .add (.bin .add (.call 2 #[.lst #[.tup #[.s "mark",.i 0]]]) (.call 7 #[.s "e",.cst ym])) (.call 7 #[.v 0,.tup #[.i 1,.i 1,.i 0]]))]⟩
def yjF:Fn:=⟨2,4,AC,#[.asg (.n 2) (.tup #[.s "less",.call 0 (yL #[.v 0] (yj [.inr 0,.inr 0,.inl (.i 1),.inr 0])),.call 0 (yL #[.v 0] (yj [.inr 0,.inr 0,.inl (.i 1),.inr 0])),.call 0 (yL #[.v 1] (yj [.inr 0,.inr 0,.inl (.i 1),.inr 0]))]),.asg (.n 3) (.call 0 (yL #[.v 0] (yj [.inr 0,.inr 0,.inr 0,.inl (.i 1)]))),.ret (.bin .add (.call 3 #[.cst ym,.tup .e,.call 2 #[.lst #[.v 2]]]) (.call 2 #[.lst #[.tup #[.s "less",.v 3,.v 3,.cst ydu]]]))]⟩
def yjG:Fn:=⟨2,5,AC,#[.asg (.n 2) (.lst #[.tup #[.s "both",.cst yf,.call 0 (yL #[.v 1] (yj [.inr 0,.inr 0,.inl (.i 1),.inr 0])),.cst yfx],.tup #[.s "sum",.call 0 (yL #[.v 0] (yj [.inr 0,.inr 0,.inl (.i 1),.inr 0])),.call 0 (yL #[.v 0] (yj [.inr 0,.inr 0,.inl (.i 1),.inr 0])),.cst yf]]),.asg (.n 3) (.call 0 (yL #[.v 0] (yj [.inr 0,.inr 0,.inr 0,.inl (.i 1)]))),.asg (.n 4) (.call 2 #[.lst #[.tup #[.s "less",.cst yfx,.cst ydu,.cst ydu],.tup #[.s "mark",.i 0]]]),.ret (.bin .add (.bin .add (.v 4) (.call 3 #[.cst ym,.tup .e,.call 2 #[.v 2]])) (.call 2 #[.lst #[.tup #[.s "sum",.v 3,.v 3,.cst ydu]]]))]⟩
def yjH:Fn:=⟨1,1,AC,#[.ret (.bin .add (.call 2 #[.lst #[.tup #[.s "bare",.cst yfx,.cst yfx],.tup #[.s "ask",.cst yfx]]]) (.call 7 #[.v 0,.cst ym]))]⟩
def yga:Fn:=⟨3,3,AC,#[.ret (.and (.isi (.v 0) [.int]) (.and (.not (.isi (.v 0) [.bool])) (.chain .le .le (.v 1) (.v 0) (.v 2))))]⟩
def yiE:Fn:=⟨1,1,AC,#[.ret (.and (.isi (.v 0) [.str]) (.and (.cmp .eq (.blt .len #[.v 0]) (.i 1)) (.chain .le .le (.s "a") (.v 0) (.s "z"))))]⟩
def yjI:Fn:=⟨2,2,AC,#[.ite (.or (.not (.isi (.v 0) [.tuple])) (.cmp .ne (.blt .len #[.v 0]) (.v 1))) #[.nope] .e,.ret (.blt .all #[.comp [AD] (.n 0) (.seq (.v 0)) (.cst (.bl AC)) (.call 23 #[.v 0,.neg (.cst yjj),.cst yjj])])]⟩
def yjJ:Fn:=⟨0,1,AC,#[.asg (.n 0) (.bin .add (.call 28 #[.cst yen,.s "a"]) (.call 28 #[.cst yfh,.s "b"])),.ret (.bin .add (.bin .add (.bin .add (.bin .add (.bin .add (.v 0) (.call 14 .e)) (.call 30 .e)) (.call 31 .e)) (.call 35 .e)) (.call 13 #[.i 0,.i 2]))]⟩
def yjK:Fn:=⟨0,3,AC,#[.asg (.n 0) (.bin .add (.bin .add (.call 28 #[.cst yen,.s "a"]) (.call 28 #[.cst yfh,.s "b"])) (.call 2 #[.lst #[.tup #[.s "odd",.cst yhD,.cst yen,.cst yfh]]])),.asg (.n 1) (.bin .add (.call 36 #[.cst yen,.s "u",.s "a"]) (.call 36 #[.cst yfh,.s "v",.s "b"])),.asg (.n 2) (.bin .add (.call 36 #[.cst yhD,.s "c",.s "q"]) (.call 36 #[.cst yen,.s "d",.s "r"])),.ret (.bin .add (.bin .add (.bin .add (.bin .add (.bin .add (.bin .add (.v 0) (.v 1)) (.call 18 #[.s "u",.s "v",.s "q",.s "r"])) (.v 2)) (.call 17 .e)) (.call 37 .e)) (.call 13 #[.i 0,.i 1]))]⟩
def yjL:Fn:=⟨2,2,AC,#[.ret (.call 2 #[.lst #[.tup #[.s "twice",.cst yf,.call 1 #[.v 1]],.call 8 #[.v 0]]])]⟩
def yjM:Fn:=⟨1,1,AC,#[.ret (.call 4 (yL #[.idx (.v 0) (.i 0),.i 1] (yj [.inr 0,.inr 0,.inr 0])))]⟩
def yjN:Fn:=⟨0,0,AC,#[.ret (.bin .add (.call 34 #[.cst yen,.s "b",.bin .add (.call 32 .e) (.call 33 #[.cst yen,.s "b"])]) (.call 2 #[.lst #[.call 8 #[.cst yiz]]]))]⟩
def yjO:Fn:=⟨0,1,AC,#[.asg (.n 0) (.tup #[.call 5 (yL #[.i 1,.tup #[.call 29 #[.cst yen],.call 4 (yL #[.s "b"] (yj [.inr 0,.inr 0,.inr 0,.inl (.i 1)]))]] (yj [.inr 0,.inr 0,.inr 0,.inl (.i 1)])),.call 5 (yL #[.neg (.i 1),.tup #[.call 29 #[.cst yiz]]] (yj [.inr 0,.inr 0,.inr 0,.inl (.i 2)]))]),.ret (.call 34 #[.cst yfh,.s "a",.bin .add (.bin .add (.call 32 .e) (.v 0)) (.call 33 #[.cst yfh,.s "a"])])]⟩
def yjP:Fn:=⟨0,0,AC,#[.ret (.tup #[.call 5 (yL #[.i 1,.tup #[.call 4 (yL #[.s "c"] (yj [.inr 0,.inr 0,.inr 0,.inl (.i 2)]))]] (yj [.inr 0,.inr 0,.inr 0,.inr 0])),.call 5 (yL #[.neg (.i 1),.tup #[.call 4 (yL #[.s "a"] (yj [.inr 0,.inr 0,.inr 0,.inl (.i 1)])),.call 4 (yL #[.s "b"] (yj [.inr 0,.inr 0,.inr 0,.inl (.i 1)]))]] (yj [.inr 0,.inr 0,.inr 0,.inr 0]))])]⟩
def yjQ:Fn:=⟨2,2,AC,#[.ret (.tup #[.call 5 (yL #[.i 1,.tup #[.call 29 #[.v 0],.call 4 (yL #[.v 1] (yj [.inr 0,.inl (.i 1),.inr 0,.inr 0]))]] (yj [.inr 0,.inr 0,.inr 0,.inl (.i 1)])),.call 5 (yL #[.neg (.i 1),.tup #[.tup #[.s "mark"]]] (yj [.inr 0,.inl (.i 1),.inr 0,.inl (.i 1)]))])]⟩
def yjR:Fn:=⟨3,4,AC,#[.asg (.n 3) (.call 0 (yL #[.s "c"] (yj [.inr 0,.inl (.i 1),.inr 0,.inl (.i 1)]))),.ret (.call 3 #[.cst ym,.v 2,.call 2 #[.lst #[.tup #[.s "times",.cst yeW,.cst yfN,.call 0 (yL #[.v 1] (yj [.inr 0,.inl (.i 1),.inr 0,.inr 0])),.v 0],.tup #[.s "less",.v 3,.v 3,.cst yeW]]]])]⟩
def yjS:Fn:=⟨0,1,AC,#[.asg (.n 0) (.call 11 #[.cst yiA,.call 0 (yL #[.s "c"] (yj [.inr 0,.inl (.i 1),.inr 0,.inl (.i 1)])),.cst yhB,.cst ym]),.ret (.bin .add (.bin .add (.call 2 #[.call 10 #[.cst yhB,.call 1 #[.s "c"]]]) (.v 0)) (.call 2 #[.lst #[.tup #[.s "ask",.cst yiA],.call 8 #[.idx (.cst yn) (.i 1)]]]))]⟩
def yjT:Fn:=⟨3,4,AC,#[.asg (.n 3) (.tup #[.call 5 (yL #[.i 1,.tup #[.call 4 (yL #[.v 1] (yj [.inr 0,.inl (.i 1),.inr 0,.inr 0]))]] (yj [.inr 0,.inr 0,.inr 0,.inr 0])),.call 5 (yL #[.i 1,.tup #[.tup #[.s "mark"]]] (yj [.inr 0,.inl (.i 1),.inr 0,.inr 0])),.call 5 (yL #[.neg (.i 1),.tup #[.call 4 (yL #[.v 2] (yj [.inr 0,.inl (.i 1),.inr 0,.inr 0]))]] (yj [.inr 0,.inr 0,.inr 0,.inr 0])),.call 5 (yL #[.i 2,.tup #[.call 29 #[.v 0],.call 4 (yL #[.v 2] (yj [.inr 0,.inl (.i 1),.inr 0,.inr 0]))]] (yj [.inr 0,.inr 0,.inr 0,.inr 0])),.call 5 (yL #[.neg (.i 1),.tup #[.call 29 #[.v 0]]] (yj [.inr 0,.inl (.i 1),.inr 0,.inr 0]))]),.ret (.bin .add (.call 2 #[.lst #[.tup #[.s "ask",.v 0],.tup #[.s "less",.cst yhB,.cst ydu,.cst ydu]]]) (.call 3 #[.cst ym,.v 3,.call 2 #[.lst #[.tup #[.s "odd",.cst yf,.call 0 (yL #[.v 2] (yj [.inr 0,.inl (.i 1),.inr 0,.inr 0])),.cst yhB],.tup #[.s "sum",.call 0 (yL #[.v 1] (yj [.inr 0,.inl (.i 1),.inr 0,.inr 0])),.cst yf,.cst ydu]]]]))]⟩
def yjU:Fn:=⟨0,0,AC,#[.ret (.call 2 #[.lst #[.tup #[.s "twice",.cst yf,.call 1 #[.s "q"]],.call 8 #[.idx (.cst yn) (.i 1)],.tup #[.s "any",.idx (.cst yn) (.i 1),.idx (.cst yn) (.i 1),.cst yhD],.tup #[.s "odd",.idx (.cst yn) (.i 1),.idx (.cst yn) (.i 1),.cst yhD]]])]⟩
def yjV:Fn:=⟨0,3,AC,#[.asg (.n 0) (.tup #[.s "sum",.call 0 (yL #[.s "c"] (yj [.inr 0,.inl (.i 1),.inr 0,.inr 0])),.call 0 (yL #[.s "a"] (yj [.inr 0,.inl (.i 1),.inr 0,.inr 0])),.call 0 (yL #[.s "b"] (yj [.inr 0,.inl (.i 1),.inr 0,.inr 0]))]),.asg (.n 1) (.tup #[.call 5 (yL #[.i 1,.tup #[.call 4 (yL #[.s "a"] (yj [.inr 0,.inl (.i 1),.inr 0,.inr 0]))]] (yj [.inr 0,.inr 0,.inr 0,.inr 0])),.call 5 (yL #[.i 1,.tup #[.call 4 (yL #[.s "b"] (yj [.inr 0,.inl (.i 1),.inr 0,.inr 0]))]] (yj [.inr 0,.inr 0,.inr 0,.inr 0])),.call 5 (yL #[.neg (.i 1),.tup #[.call 4 (yL #[.s "c"] (yj [.inr 0,.inl (.i 1),.inr 0,.inr 0]))]] (yj [.inr 0,.inr 0,.inr 0,.inr 0])),.call 5 (yL #[.neg (.i 1),.tup #[.tup #[.s "mark"]]] (yj [.inr 0,.inl (.i 1),.inr 0,.inr 0]))]),.asg (.n 2) (.call 41 #[.call 1 #[.s "c"],.call 1 #[.s "a"],.call 1 #[.s "b"]]),.ret (.bin .add (.bin .add (.call 40 #[.v 0,.v 1]) (.v 2)) (.call 13 #[.i 0,.i 1]))]⟩
def yjW:Fn:=⟨0,3,AC,#[.asg (.n 0) (.tup #[.s "less",.call 0 (yL #[.s "c"] (yj [.inr 0,.inl (.i 1),.inr 0,.inr 0])),.cst ydu,.call 0 (yL #[.s "a"] (yj [.inr 0,.inl (.i 1),.inr 0,.inr 0]))]),.asg (.n 1) (.tup #[.call 5 (yL #[.i 1,.tup #[.call 4 (yL #[.s "a"] (yj [.inr 0,.inl (.i 1),.inr 0,.inr 0]))]] (yj [.inr 0,.inr 0,.inr 0,.inr 0])),.call 5 (yL #[.i 1,.tup #[.call 4 (yL #[.s "c"] (yj [.inr 0,.inl (.i 1),.inr 0,.inr 0]))]] (yj [.inr 0,.inr 0,.inr 0,.inr 0])),.call 5 (yL #[.neg (.i 1),.tup #[.tup #[.s "mark"]]] (yj [.inr 0,.inl (.i 1),.inr 0,.inr 0]))]),.asg (.n 2) (.call 41 #[.cst ydu,.call 1 #[.s "a"],.call 1 #[.s "c"]]),.ret (.bin .add (.bin .add (.call 40 #[.v 0,.v 1]) (.v 2)) (.call 13 #[.i 0,.i 1]))]⟩
def yjX:Fn:=⟨2,2,AC,#[.ret (.bin .add (.bin .add (.call 2 #[.lst #[.tup #[.s "mark",.i 0]]]) (.call 3 #[.cst ym,.v 1,.call 2 #[.lst #[.v 0]]])) (.call 2 #[.lst #[.call 8 #[.idx (.cst yn) (.i 0)]]]))]⟩
def yjY:Fn:=⟨3,3,AC,#[.ret (.call 2 #[.lst #[.tup #[.s "odd",.cst yf,.v 0,.v 1],.tup #[.s "odd",.cst yfg,.v 0,.v 2],.tup #[.s "both",.cst yf,.cst yf,.cst yfg],.tup #[.s "twice",.cst yf,.cst yf],.call 8 #[.idx (.cst yn) (.i 1)]]])]⟩
def yhV:Fn:=⟨1,1,AC,#[.ret (.call 44 #[.v 0,.cst (.bl AB)])]⟩
def yjZ:Fn:=⟨1,1,AC,#[.ret (.call 44 #[.v 0,.cst (.bl AC)])]⟩
def yV:Fn:=⟨2,4,AC,#[.ite (.or (.not (.call 45 #[.v 0])) (.cmp .ne (.blt .len #[.v 0]) (.bin .add (.blt .len #[.dix ybW (.idx (.v 0) (.i 0))]) (.i 1)))) #[.ret (.cst (.bl AB))] .e,.for (.t [2,3]) (.zip (.dix ybW (.idx (.v 0) (.i 0))) (.slc (.v 0) (.i 1) (.cst .non))) #[.ite (.not (.call 46 #[.v 2,.v 3,.v 1])) #[.ret (.cst (.bl AB))] .e],.ret (.or (.cmp .ne (.idx (.v 0) (.i 0)) (.s "times")) (.cmp .ne (.idx (.v 0) (.i 1)) (.idx (.v 0) (.i 2))))]⟩
def yhW:Fn:=⟨1,1,AC,#[.ret (.and (.isi (.v 0) [.tuple]) (.and (.cmp .gt (.blt .len #[.v 0]) (.i 0)) (.and (.isi (.idx (.v 0) (.i 0)) [.str]) (.din (.idx (.v 0) (.i 0)) ybW))))]⟩
def ygq:Fn:=⟨3,3,AC,#[.ite (.cmp .eq (.v 0) (.s "figure")) #[.ret (.call 23 #[.v 1,.i 0,.i 1])] .e,.ret (.ite (.v 2) (.call 48 #[.v 1]) (.call 47 #[.v 1]))]⟩
def yhX:Fn:=⟨1,1,AC,#[.ret (.and (.call 49 #[.v 0]) (.call 23 #[.idx (.v 0) (.i 1),.i 0,.i 99]))]⟩
def yj0:Fn:=⟨1,1,AC,#[.ret (.and (.call 49 #[.v 0]) (.call 25 #[.idx (.v 0) (.i 1),.i 4]))]⟩
def yhY:Fn:=⟨1,1,AC,#[.ret (.and (.isi (.v 0) [.tuple]) (.and (.cmp .eq (.blt .len #[.v 0]) (.i 2)) (.call 24 #[.idx (.v 0) (.i 0)])))]⟩
def yj1:Fn:=⟨1,1,AC,#[.ret (.and (.isi (.v 0) [.tuple]) (.and (.cmp .le (.blt .len #[.v 0]) (.cst ykp)) (.blt .all #[.comp [AD] (.n 0) (.seq (.v 0)) (.cst (.bl AC)) (.call 52 #[.v 0])])))]⟩
def yhZ:Fn:=⟨4,4,AC,#[.ret (.bin .add (.bin .add (.bin .add (.idx (.v 0) (.i 0)) (.bin .mul (.idx (.v 0) (.i 1)) (.v 2))) (.bin .mul (.idx (.v 0) (.i 2)) (.v 3))) (.bin .mul (.idx (.v 0) (.i 3)) (.v 1)))]⟩
def yj2:Fn:=⟨1,4,AC,#[.ite (.or (.not (.isi (.v 0) [.tuple])) (.cmp .ne (.blt .len #[.v 0]) (.i 3))) #[.ret (.cst (.bl AB))] .e,.asg (.t [1,2,3]) (.v 0),.ret (.and (.call 23 #[.v 1,.bin .sub (.i 1) (.cst yje),.bin .sub (.cst yje) (.i 1)]) (.and (.call 25 #[.v 2,.i 6]) (.call 53 #[.v 3])))]⟩
def yj3:Fn:=⟨1,1,AC,#[.ret (.and (.isi (.v 0) [.tuple]) (.and (.cmp .le (.blt .len #[.v 0]) (.cst ykq)) (.blt .all #[.comp [AD] (.n 0) (.seq (.v 0)) (.cst (.bl AC)) (.call 54 #[.v 0])])))]⟩
def yj4:Fn:=⟨1,1,AC,#[.ite (.or (.not (.isi (.v 0) [.tuple])) (.cmp .eq (.blt .len #[.v 0]) (.i 0))) #[.ret (.cst (.bl AB))] .e,.ite (.cmp .eq (.idx (.v 0) (.i 0)) (.s "mark")) #[.ret (.cmp .eq (.blt .len #[.v 0]) (.i 1))] .e,.ite (.or (.cmp .ne (.idx (.v 0) (.i 0)) (.s "slice")) (.or (.cmp .ne (.blt .len #[.v 0]) (.i 4)) (.not (.call 24 #[.idx (.v 0) (.i 1)])))) #[.ret (.cst (.bl AB))] .e,.ret (.and (.call 25 #[.idx (.v 0) (.i 2),.i 4]) (.call 25 #[.idx (.v 0) (.i 3),.i 4]))]⟩
def yiF:Fn:=⟨3,3,AB,#[.sfl 20 (.v 0) (AF "w") (.v 1),.sfl 20 (.v 0) (AF "n") (.v 2),.sfl 20 (.v 0) (AF "steps") (.newl .e),.sfl 20 (.v 0) (AF "rows") (.i 0),.sfl 20 (.v 0) (AF "rounds") (.i 0)]⟩
def yu:Fn:=⟨3,4,AB,#[.for (.n 3) (.seq (.v 1)) #[.ite (.cmp .eq (.idx (.v 3) (.i 0)) (.s "row")) #[.expr (.mcl 20 59 (AF "add_row") (.v 0) #[.idx (.v 3) (.i 1),.v 2])] #[.expr (.mcl 20 57 (AF "go_rounds") (.v 0) #[.v 3,.v 2])]]]⟩
def yw:Fn:=⟨3,5,AB,#[.asg (.n 3) (.blt .max #[.i 0,.mcl 20 58 (AF "count_of") (.v 0) #[.idx (.v 1) (.i 1)]]),.for (.n 4) (.range1 (.v 3)) #[.expr (.mcl 20 61 (AF "add_asked") (.v 0) #[.idx (.v 1) (.i 2),.bin .add (.v 2) (.tup #[.v 4])]),.expr (.mcl 20 60 (AF "add_round") (.v 0) .e),.expr (.mcl 20 56 (AF "go_parts") (.v 0) #[.idx (.v 1) (.i 3),.bin .add (.v 2) (.tup #[.v 4])])],.expr (.mcl 20 61 (AF "add_asked") (.v 0) #[.idx (.v 1) (.i 2),.bin .add (.v 2) (.tup #[.v 3])])]⟩
def y6:Fn:=⟨2,5,AB,#[.asg (.t [2,3,4]) (.v 1),.ret (.bin .add (.bin .add (.v 2) (.bin .mul (.v 3) (.fld 20 (.v 0) (AF "n")))) (.bin .mul (.bin .mul (.v 4) (.fld 20 (.v 0) (AF "w"))) (.fld 20 (.v 0) (AF "n"))))]⟩
def y7:Fn:=⟨3,6,AB,#[.asg (.t [3,4]) (.call 67 #[.v 2]),.asg (.n 5) (.blt .tuple #[.comp [AD,AA 3,AA 4,AA 0] (.n 0) (.seq (.v 1)) (.cst (.bl AC)) (.call 68 #[.v 0,.fld 20 (.v 3) (AF "n"),.v 1,.v 2])]),.sfl 20 (.v 0) (AF "rows") (.bin .add (.fld 20 (.v 0) (AF "rows")) (.i 1)),.ite (.or (.not (.call 42 #[.v 5])) (.cmp .gt (.fld 20 (.v 0) (AF "rows")) (.cst yji))) #[.nope] .e,.expr (.mth .append (.fld 20 (.v 0) (AF "steps")) #[.tup #[.s "row",.v 5]])]⟩
def y8:Fn:=⟨1,1,AB,#[.sfl 20 (.v 0) (AF "rounds") (.bin .add (.fld 20 (.v 0) (AF "rounds")) (.i 1)),.ite (.cmp .gt (.fld 20 (.v 0) (AF "rounds")) (.cst yjh)) #[.nope] .e]⟩
def y9:Fn:=⟨3,5,AB,#[.asg (.t [3,4]) (.call 67 #[.v 2]),.expr (.mth .append (.fld 20 (.v 0) (AF "steps")) #[.tup #[.s "asked",.v 1,.v 3,.v 4]])]⟩
def yiG:Fn:=⟨1,1,AC,#[.ret (.call 65 #[.v 0,.cst yko])]⟩
def yh0:Fn:=⟨3,3,AC,#[.ret (.blt .tuple #[.comp [AD] (.n 0) (.seq (.call 64 #[.v 0,.v 1,.v 2])) (.cmp .eq (.idx (.v 0) (.i 0)) (.s "row")) (.idx (.v 0) (.i 1))])]⟩
def yh1:Fn:=⟨3,4,AC,#[.ite (.not (.call 62 #[.v 0])) #[.nope] .e,.asg (.n 3) (.new 20 55 #[.v 1,.v 2]),.expr (.mcl 20 56 (AF "go_parts") (.v 3) #[.v 0,.tup .e]),.ret (.frz (.fld 20 (.v 3) (AF "steps")))]⟩
def yj5:Fn:=⟨2,2,AC,#[.ret (.and (.isi (.v 0) [.tuple]) (.blt .all #[.comp [AD,AA 1] (.n 0) (.seq (.v 0)) (.cst (.bl AC)) (.call 66 #[.v 0,.v 1])]))]⟩
def yj6:Fn:=⟨2,2,AC,#[.ite (.or (.not (.isi (.v 0) [.tuple])) (.cmp .eq (.blt .len #[.v 0]) (.i 0))) #[.ret (.cst (.bl AB))] .e,.ite (.cmp .eq (.idx (.v 0) (.i 0)) (.s "row")) #[.ret (.and (.cmp .eq (.blt .len #[.v 0]) (.i 2)) (.call 43 #[.idx (.v 0) (.i 1)]))] .e,.ite (.or (.cmp .ne (.idx (.v 0) (.i 0)) (.s "rounds")) (.or (.cmp .ne (.blt .len #[.v 0]) (.i 4)) (.cmp .eq (.v 1) (.i 0)))) #[.ret (.cst (.bl AB))] .e,.ret (.and (.call 25 #[.idx (.v 0) (.i 1),.i 3]) (.and (.call 50 #[.idx (.v 0) (.i 2)]) (.call 65 #[.idx (.v 0) (.i 3),.bin .sub (.v 1) (.i 1)])))]⟩
def yhE:Fn:=⟨1,1,AC,#[.ret (.slc (.bin .add (.v 0) (.tup #[.i 0,.i 0])) (.cst .non) (.i 2))]⟩
def yfk:Fn:=⟨4,4,AC,#[.ite (.not (.isi (.v 0) [.tuple])) #[.ret (.v 0)] .e,.ret (.tup #[.idx (.v 0) (.i 0),.call 51 #[.idx (.v 0) (.i 1),.v 1,.v 2,.v 3]])]⟩
def yiH:Fn:=⟨1,1,AC,#[.ite (.not (.call 71 #[.v 0])) #[.nope] .e,.ite (.cmp .eq (.idx (.v 0) (.i 0)) (.s "led")) #[.nope] .e,.ite (.cmp .isin (.idx (.v 0) (.i 0)) (.cst yiD)) #[.nope] .e,.ite (.cmp .isin (.idx (.v 0) (.i 0)) (.cst yjk)) #[.nope] .e,.ret (.call 75 #[.idx (.v 0) (.i 0)])]⟩
def yhF:Fn:=⟨3,3,AC,#[.ret (.call 63 #[.call 69 #[.v 0],.v 1,.v 2])]⟩
def yj7:Fn:=⟨1,1,AC,#[.ite (.or (.not (.isi (.v 0) [.tuple])) (.cmp .eq (.blt .len #[.v 0]) (.i 0))) #[.nope] .e,.ite (.cmp .eq (.idx (.v 0) (.i 0)) (.s "led")) #[.nope] .e,.ite (.cmp .isin (.idx (.v 0) (.i 0)) (.cst yiD)) #[.nope] .e,.ret (.and (.cmp .eq (.blt .len #[.v 0]) (.i 1)) (.or (.cmp .isin (.idx (.v 0) (.i 0)) (.cst yiB)) (.cmp .isin (.idx (.v 0) (.i 0)) (.cst yjf))))]⟩
def yj8:Fn:=⟨1,1,AC,#[.ret (.cmp .isin (.idx (.v 0) (.i 0)) (.cst yiB))]⟩
def yhG:Fn:=⟨2,2,AC,#[.ite (.cmp .eq (.idx (.v 0) (.i 0)) (.s "compare")) #[.nope] .e,.ite (.cmp .eq (.idx (.v 0) (.i 0)) (.s "led")) #[.nope] .e,.ret (.ite (.cmp .isin (.idx (.v 0) (.i 0)) (.cst yiC)) (.bin .mul (.i 2) (.v 1)) (.v 1))]⟩
def yhH:Fn:=⟨2,2,AC,#[.ret (.ite (.cmp .isin (.idx (.v 0) (.i 0)) (.cst yfV)) (.v 1) (.i 0))]⟩
def yj9:Fn:=⟨1,1,AC,#[.ite (.cmp .eq (.v 0) (.s "sum")) #[.ret (.call 38 .e)] .e,.ite (.cmp .eq (.v 0) (.s "difference")) #[.nope] .e,.ite (.cmp .eq (.v 0) (.s "turned")) #[.ret (.call 39 .e)] .e,.ite (.cmp .eq (.v 0) (.s "compare")) #[.nope] .e,.ite (.cmp .eq (.v 0) (.s "bare")) #[.nope] .e,.ite (.cmp .eq (.v 0) (.s "product")) #[.nope] .e,.ite (.cmp .eq (.v 0) (.s "signed product")) #[.ret (.call 26 .e)] .e,.ite (.cmp .eq (.v 0) (.s "quotient")) #[.ret (.call 16 .e)] .e,.ret (.call 27 .e)]⟩
def yh2:Fn:=⟨5,6,AC,#[.mkr 5 yi (.v 0) #[.v 1,.v 2,.v 3,.v 4]]⟩
def yh3:Fn:=⟨1,1,AC,#[.ret (.bin .sub (.bin .shl (.i 1) (.v 0)) (.i 1))]⟩
def yh4:Fn:=⟨4,4,AC,#[.ret (.tup #[.v 1,.v 3])]⟩
def yh5:Fn:=⟨4,4,AC,#[.ret (.tup #[.bin .sub (.call 77 #[.v 0]) (.v 1),.v 3])]⟩
def yh6:Fn:=⟨4,5,AC,#[.asg (.n 4) (.bin .add (.bin .add (.v 1) (.v 2)) (.v 3)),.ret (.tup #[.bin .band (.v 4) (.call 77 #[.v 0]),.bin .shr (.v 4) (.v 0)])]⟩
def yhI:Fn:=⟨4,5,AC,#[.asg (.n 4) (.bin .sub (.bin .sub (.v 1) (.v 2)) (.v 3)),.ret (.tup #[.bin .band (.v 4) (.call 77 #[.v 0]),.ite (.cmp .lt (.v 4) (.i 0)) (.i 1) (.i 0)])]⟩
def yh7:Fn:=⟨4,4,AC,#[.ret (.tup #[.bin .band (.v 1) (.v 2),.v 3])]⟩
def yh8:Fn:=⟨4,4,AC,#[.ret (.tup #[.bin .bor (.v 1) (.v 2),.v 3])]⟩
def yh9:Fn:=⟨4,4,AC,#[.ret (.tup #[.bin .bxor (.v 1) (.v 2),.v 3])]⟩
def yia:Fn:=⟨4,4,AC,#[.ret (.call 80 #[.v 0,.v 1,.v 1,.v 3])]⟩
def yib:Fn:=⟨4,4,AC,#[.ret (.tup #[.bin .bor (.bin .shr (.v 1) (.i 1)) (.bin .shl (.v 3) (.bin .sub (.v 0) (.i 1))),.bin .band (.v 1) (.i 1)])]⟩
def yic:Fn:=⟨2,2,AB,#[.sfl 21 (.v 0) (AF "w") (.v 1),.sfl 21 (.v 0) (AF "words") (.dict0 AC),.sfl 21 (.v 0) (AF "marked") (.i 0)]⟩
def yid:Fn:=⟨4,5,AB,#[.asg (.n 4) (.call 95 #[.v 1,.v 2]),.ite (.not (.call 23 #[.v 3,.i 0,.call 77 #[.fld 21 (.v 0) (AF "w")]])) #[.nope] .e,.dput (.fld 21 (.v 0) (AF "words")) (.v 4) (.v 3)]⟩
def yie:Fn:=⟨3,3,AB,#[.ret (.mcl 21 91 (AF "held_in") (.v 0) #[.call 95 #[.v 1,.v 2]])]⟩
def yK:Fn:=⟨2,3,AB,#[.for (.n 2) (.seq (.v 1)) #[.expr (.call 96 #[.v 2])],.for (.n 2) (.seq (.v 1)) #[.expr (.mcl 21 92 (AF "go_row") (.v 0) #[.v 2])]]⟩
def yif:Fn:=⟨2,2,AB,#[.ret (.mth .get (.fld 21 (.v 0) (AF "words")) #[.v 1,.i 0])]⟩
def yk:Fn:=⟨2,2,AB,#[.ite (.cmp .eq (.idx (.v 1) (.i 0)) (.s "mark")) #[.sfl 21 (.v 0) (AF "marked") (.idx (.v 1) (.i 1))] #[.ite (.cmp .eq (.idx (.v 1) (.i 0)) (.s "ask")) #[.sfl 21 (.v 0) (AF "marked") (.ite (.cmp .eq (.mcl 21 91 (AF "held_in") (.v 0) #[.idx (.v 1) (.i 1)]) (.i 0)) (.i 0) (.i 1))] #[.ite (.cmp .eq (.idx (.v 1) (.i 0)) (.s "set")) #[.dput (.fld 21 (.v 0) (AF "words")) (.idx (.v 1) (.i 1)) (.idx (.v 1) (.i 2))] #[.ite (.cmp .eq (.idx (.v 1) (.i 0)) (.s "times")) #[.expr (.mcl 21 93 (AF "go_times") (.v 0) #[.v 1])] #[.expr (.mcl 21 94 (AF "go_made") (.v 0) #[.v 1])]]]]]⟩
def yig:Fn:=⟨2,3,AB,#[.asg (.n 2) (.bin .mul (.mcl 21 91 (AF "held_in") (.v 0) #[.idx (.v 1) (.i 3)]) (.mcl 21 91 (AF "held_in") (.v 0) #[.idx (.v 1) (.i 4)])),.dput (.fld 21 (.v 0) (AF "words")) (.idx (.v 1) (.i 1)) (.bin .band (.v 2) (.call 77 #[.fld 21 (.v 0) (AF "w")])),.dput (.fld 21 (.v 0) (AF "words")) (.idx (.v 1) (.i 2)) (.bin .shr (.v 2) (.fld 21 (.v 0) (AF "w")))]⟩
def yih:Fn:=⟨2,6,AB,#[.asg (.t [2,3]) (.tup #[.mcl 21 91 (AF "held_in") (.v 0) #[.idx (.v 1) (.i 2)],.mcl 21 91 (AF "held_in") (.v 0) #[.idx (.v 1) (.neg (.i 1))]]),.asg (.t [4,5]) (.call 76 #[.idx (.v 1) (.i 0),.fld 21 (.v 0) (AF "w"),.v 2,.v 3,.fld 21 (.v 0) (AF "marked")]),.dput (.fld 21 (.v 0) (AF "words")) (.idx (.v 1) (.i 1)) (.v 4),.sfl 21 (.v 0) (AF "marked") (.v 5)]⟩
def yiI:Fn:=⟨2,2,AC,#[.ite (.not (.call 47 #[.tup #[.v 0,.v 1]])) #[.nope] .e,.ret (.tup #[.v 0,.v 1])]⟩
def yhJ:Fn:=⟨1,1,AC,#[.ite (.not (.call 42 #[.v 0])) #[.nope] .e]⟩
def yii:Fn:=⟨3,3,AC,#[.ite (.or (.cmp .lt (.v 0) (.i 0)) (.cmp .ge (.v 0) (.bin .shl (.i 1) (.bin .mul (.v 1) (.v 2))))) #[.nope] .e,.ret (.call 100 #[.v 0,.v 1,.v 2])]⟩
def yij:Fn:=⟨2,2,AC,#[.ret (.blt .sum #[.comp [AD,AD,AA 1] (.t [0,1]) (.enum (.v 0)) (.cst (.bl AC)) (.bin .shl (.v 1) (.bin .mul (.v 2) (.v 0)))])]⟩
def yik:Fn:=⟨2,2,AC,#[.ret (.bin .shr (.idx (.v 0) (.neg (.i 1))) (.bin .sub (.v 1) (.i 1)))]⟩
def yil:Fn:=⟨3,4,AC,#[.asg (.n 3) (.bin .sub (.bin .shl (.i 1) (.v 1)) (.i 1)),.ret (.blt .tuple #[.comp [AD,AA 3,AA 0,AA 1] (.n 0) (.range1 (.v 2)) (.cst (.bl AC)) (.bin .band (.bin .shr (.v 2) (.bin .mul (.v 3) (.v 0))) (.v 1))])]⟩
def yhK:Fn:=⟨5,5,AC,#[.ite (.not (.call 71 #[.v 0])) #[.nope] .e,.expr (.call 97 #[.v 3,.v 1,.v 2]),.expr (.call 97 #[.v 4,.v 1,.v 2]),.ite (.and (.cmp .ne (.v 4) (.i 0)) (.not (.call 72 #[.v 0]))) #[.nope] .e,.ite (.and (.cmp .eq (.v 4) (.i 0)) (.cmp .isin (.idx (.v 0) (.i 0)) (.cst yfV))) #[.nope] .e]⟩
def ycz:Fn:=⟨5,7,AC,#[.expr (.call 101 #[.v 0,.v 1,.v 2,.v 3,.v 4]),.asg (.n 5) (.call 103 #[.v 1,.v 2,.v 3,.v 4]),.expr (.mcl 21 90 (AF "run") (.v 5) #[.call 70 #[.v 0,.v 1,.v 2]]),.asg (.n 6) (.call 104 #[.v 5,.s "c",.call 73 #[.v 0,.v 2]]),.ret (.tup #[.v 6,.call 104 #[.v 5,.s "d",.call 74 #[.v 0,.v 2]],.call 104 #[.v 5,.s "m",.cst yjg]])]⟩
def yF:Fn:=⟨4,9,AB,#[.asg (.n 4) (.new 21 87 #[.v 0]),.for (.t [5,6]) (.seq (.tup #[.tup #[.s "a",.v 2],.tup #[.s "b",.v 3]])) #[.for (.t [7,8]) (.enum (.call 100 #[.v 6,.v 0,.v 1])) #[.expr (.mcl 21 88 (AF "put") (.v 4) #[.v 5,.v 7,.v 8])]],.ret (.v 4)]⟩
def yaC:Fn:=⟨3,3,AB,#[.ret (.blt .tuple #[.comp [AD,AA 1,AA 0] (.n 0) (.range1 (.v 2)) (.cst (.bl AC)) (.mcl 21 89 (AF "word") (.v 2) #[.v 1,.v 0])])]⟩
def yim:Fn:=⟨1,1,AB,#[.ret (.newl #[.slc (.v 0) (.cst .non) (.i 63),.i 0,.i 0,.cst (.bl AB)])]⟩
def yaK:Fn:=⟨1,8,AC,#[.asg (.n 1) (.tup #[.i 2147483647,.i 2147483629,.i 2147483587,.i 2147483579,.i 2147483563]),.asg (.n 2) (.i 0),.for (.t [3,4]) (.enum (.v 1)) #[.asg (.n 5) (.bin .add (.v 0) (.idx (.tup #[.i 11,.i 101,.i 1009,.i 10007,.i 100003]) (.v 3))),.asg (.n 5) (.bin .mod (.bin .mul (.v 5) (.bin .add (.i 48271) (.bin .mul (.i 2) (.v 3)))) (.v 4)),.asg (.n 6) (.bin .mod (.bin .mul (.v 5) (.v 5)) (.v 4)),.asg (.n 7) (.bin .mod (.bin .mul (.bin .mod (.bin .mul (.v 6) (.v 6)) (.v 4)) (.v 5)) (.v 4)),.asg (.n 2) (.bin .add (.bin .mul (.v 2) (.v 4)) (.v 7))],.ret (.v 2)]⟩
def yas:Fn:=⟨1,4,AB,#[.asg (.t [1,2]) (.tup #[.idx (.v 0) (.i 0),.idx (.v 0) (.i 1)]),.asg (.n 3) (.bin .add (.bin .mul (.i 31) (.v 2)) (.i 7)),.ite (.cmp .gt (.blt .len #[.v 1]) (.i 0)) #[.asg (.n 3) (.bin .mul (.i 104729) (.bin .fdiv (.v 2) (.blt .len #[.v 1]))),.asg (.n 3) (.bin .add (.v 3) (.idx (.v 1) (.bin .mod (.v 2) (.blt .len #[.v 1]))))] .e,.six (.v 0) (.i 1) (.bin .add (.v 2) (.i 1)),.six (.v 0) (.i 3) (.or (.cmp .ge (.v 2) (.blt .len #[.v 1])) (.cmp .lt (.v 3) (.bin .pow (.i 10) (.i 18)))),.ite (.idx (.v 0) (.i 3)) #[.six (.v 0) (.i 2) (.call 106 #[.v 3])] #[.six (.v 0) (.i 2) (.bin .sub (.v 3) (.bin .pow (.i 10) (.i 18)))]]⟩
def yao:Fn:=⟨2,4,AB,#[.asg (.n 2) (.i 0),.while (.and (.cmp .lt (.v 2) (.i 64)) (.or (.cmp .eq (.idx (.v 0) (.i 2)) (.i 0)) (.and (.idx (.v 0) (.i 3)) (.cmp .lt (.idx (.v 0) (.i 2)) (.bin .mul (.v 1) (.i 4096)))))) #[.expr (.call 107 #[.v 0]),.aug 2 .add (.i 1),.ite (.and (.idx (.v 0) (.i 3)) (.cmp .lt (.idx (.v 0) (.i 2)) (.bin .mul (.v 1) (.i 4096)))) #[.six (.v 0) (.i 2) (.bin .add (.idx (.v 0) (.i 2)) (.bin .mul (.bin .mul (.v 1) (.i 4096)) (.bin .add (.i 1) (.bin .mod (.idx (.v 0) (.i 2)) (.i 4093)))))] .e],.asg (.n 3) (.bin .mod (.idx (.v 0) (.i 2)) (.v 1)),.six (.v 0) (.i 2) (.bin .fdiv (.idx (.v 0) (.i 2)) (.v 1)),.ret (.v 3)]⟩
def yae:Fn:=⟨3,13,AB,#[.asg (.n 3) (.call 108 #[.v 0,.i 12]),.asg (.n 4) (.i 1),.for (.n 5) (.range1 (.bin .mul (.v 1) (.v 2))) #[.asg (.n 4) (.bin .mul (.i 2) (.v 4))],.asg (.n 6) (.tup #[.i 0,.i 1,.bin .sub (.v 4) (.i 1),.bin .fdiv (.v 4) (.i 2),.bin .sub (.bin .fdiv (.v 4) (.i 2)) (.i 1),.bin .sub (.v 4) (.i 2)]),.ite (.cmp .lt (.v 3) (.i 6)) #[.ret (.idx (.v 6) (.v 3))] .e,.asg (.n 7) (.call 108 #[.v 0,.v 4]),.ite (.cmp .eq (.v 3) (.i 6)) #[.asg (.n 8) (.i 1),.for (.n 5) (.range1 (.call 108 #[.v 0,.bin .mul (.v 1) (.v 2)])) #[.asg (.n 8) (.bin .mul (.i 2) (.v 8))],.ret (.bin .mul (.bin .fdiv (.v 7) (.v 8)) (.v 8))] .e,.ite (.cmp .eq (.v 3) (.i 7)) #[.asg (.n 8) (.i 1),.for (.n 5) (.range1 (.call 108 #[.v 0,.bin .mul (.v 1) (.v 2)])) #[.asg (.n 8) (.bin .mul (.i 2) (.v 8))],.ret (.bin .sub (.v 4) (.v 8))] .e,.ite (.cmp .gt (.v 3) (.i 9)) #[.ret (.v 7)] .e,.asg (.n 9) (.i 1),.for (.n 5) (.range1 (.v 1)) #[.asg (.n 9) (.bin .mul (.i 2) (.v 9))],.asg (.n 10) (.i 0),.for (.n 5) (.range1 (.v 2)) #[.asg (.n 11) (.bin .mod (.bin .fdiv (.v 7) (.bin .add (.v 5) (.i 1))) (.v 9)),.asg (.n 12) (.tup #[.i 0,.i 1,.bin .sub (.v 9) (.i 1),.bin .fdiv (.v 9) (.i 2),.v 11]),.asg (.n 10) (.bin .add (.bin .mul (.v 10) (.v 9)) (.idx (.v 12) (.call 108 #[.v 0,.i 5])))],.ret (.v 10)]⟩
def yin:Fn:=⟨1,3,AC,#[.asg (.n 1) (.i 1),.for (.n 2) (.range1 (.v 0)) #[.asg (.n 1) (.bin .mul (.i 2) (.v 1))],.ret (.v 1)]⟩
def yio:Fn:=⟨3,6,AC,#[.asg (.n 3) (.call 110 #[.v 1]),.asg (.n 4) (.newl .e),.for (.n 5) (.range1 (.v 2)) #[.expr (.mth .append (.v 4) #[.bin .mod (.v 0) (.v 3)]),.asg (.n 0) (.bin .fdiv (.v 0) (.v 3))],.ret (.blt .tuple #[.v 4])]⟩
def yip:Fn:=⟨1,1,AC,#[.ret (.and (.isi (.v 0) [.int]) (.not (.isi (.v 0) [.bool])))]⟩
def yiq:Fn:=⟨3,3,AC,#[.ite (.or (.not (.isi (.v 0) [.tuple])) (.cmp .ne (.blt .len #[.v 0]) (.v 1))) #[.nope] .e,.ret (.blt .all #[.comp [AD,AA 2] (.n 0) (.seq (.v 0)) (.cst (.bl AC)) (.and (.call 112 #[.v 0]) (.chain .le .le (.bin .sub (.i 0) (.v 1)) (.v 0) (.v 1)))])]⟩
def yir:Fn:=⟨3,3,AC,#[.ite (.or (.not (.isi (.v 0) [.tuple])) (.or (.cmp .ne (.blt .len #[.v 0]) (.v 2)) (.not (.blt .all #[.comp [AD] (.n 0) (.seq (.v 0)) (.cst (.bl AC)) (.call 112 #[.v 0])])))) #[.nope] .e,.ret (.blt .all #[.comp [AD,AA 1] (.n 0) (.seq (.v 0)) (.cst (.bl AC)) (.chain .le .lt (.i 0) (.v 0) (.call 110 #[.v 1]))])]⟩
def yX:Fn:=⟨3,7,AB,#[.asg (.n 3) (.call 109 #[.v 0,.v 1,.v 2]),.asg (.n 4) (.call 109 #[.v 0,.v 1,.v 2]),.asg (.n 5) (.call 108 #[.v 0,.i 7]),.asg (.n 6) (.call 110 #[.call 108 #[.v 0,.bin .mul (.v 1) (.v 2)]]),.ite (.or (.cmp .eq (.v 5) (.i 0)) (.cmp .eq (.v 5) (.i 5))) #[.asg (.n 4) (.bin .fdiv (.v 4) (.v 6))] .e,.ite (.cmp .eq (.v 5) (.i 1)) #[.asg (.n 4) (.bin .add (.i 1) (.call 108 #[.v 0,.i 9]))] .e,.ite (.cmp .eq (.v 5) (.i 2)) #[.asg (.n 4) (.v 6)] .e,.ite (.and (.or (.cmp .eq (.v 5) (.i 4)) (.cmp .eq (.v 5) (.i 5))) (.cmp .gt (.v 4) (.i 0))) #[.asg (.n 3) (.blt .max #[.i 0,.blt .min #[.bin .sub (.call 110 #[.bin .mul (.v 1) (.v 2)]) (.i 1),.bin .sub (.bin .add (.bin .mul (.bin .fdiv (.v 3) (.v 4)) (.v 4)) (.call 108 #[.v 0,.i 3])) (.i 1)]])] .e,.ite (.cmp .eq (.v 5) (.i 6)) #[.asg (.n 4) (.v 3)] .e,.ret (.tup #[.v 3,.v 4])]⟩
def yis:Fn:=⟨5,6,AC,#[.asg (.n 5) (.call 102 #[.v 0,.v 1,.v 2,.v 3,.v 4]),.ite (.or (.not (.isi (.v 5) [.tuple])) (.or (.cmp .ne (.blt .len #[.v 5]) (.i 3)) (.not (.call 113 #[.idx (.v 5) (.i 2),.i 4,.i 1])))) #[.nope] .e,.ret (.v 5)]⟩
def yhL:Fn:=⟨5,7,AC,#[.ite (.cmp .eq (.bin .mul (.i 2) (.v 3)) (.call 110 #[.bin .mul (.v 0) (.v 1)])) #[.ret (.cst (.bl AC))] .e,.asg (.n 5) (.call 116 #[.tup #[.s "signed quotient"],.v 0,.v 1,.v 2,.bin .mod (.bin .sub (.i 0) (.v 3)) (.call 110 #[.bin .mul (.v 0) (.v 1)])]),.asg (.n 6) (.idx (.call 116 #[.tup #[.s "turned"],.v 0,.v 1,.call 98 #[.idx (.v 4) (.i 0),.v 0],.i 0]) (.i 0)),.ret (.and (.cmp .eq (.idx (.v 5) (.i 0)) (.v 6)) (.cmp .eq (.idx (.v 5) (.i 1)) (.idx (.v 4) (.i 1))))]⟩
def yaB:Fn:=⟨1,10,AC,#[.asg (.n 1) (.call 105 #[.v 0]),.asg (.n 2) (.bin .add (.i 1) (.call 108 #[.v 1,.i 4])),.asg (.n 3) (.bin .add (.i 4) (.call 108 #[.v 1,.blt .min #[.i 13,.bin .sub (.bin .fdiv (.i 32) (.v 2)) (.i 3)]])),.asg (.t [4,5]) (.call 115 #[.v 1,.v 3,.v 2]),.ite (.cmp .eq (.call 108 #[.v 1,.i 2]) (.i 1)) #[.asg (.n 4) (.bin .mod (.bin .sub (.i 0) (.v 4)) (.call 110 #[.bin .mul (.v 3) (.v 2)]))] .e,.ite (.cmp .eq (.call 108 #[.v 1,.i 12]) (.i 5)) #[.asg (.n 4) (.bin .fdiv (.call 110 #[.bin .mul (.v 3) (.v 2)]) (.i 2)),.asg (.n 5) (.bin .sub (.bin .sub (.call 110 #[.bin .mul (.v 3) (.v 2)]) (.i 1)) (.call 108 #[.v 1,.i 2]))] .e,.asg (.n 5) (.blt .max #[.i 1,.v 5]),.asg (.n 6) (.call 116 #[.tup #[.s "signed quotient"],.v 3,.v 2,.v 4,.v 5]),.ite (.or (.not (.call 114 #[.idx (.v 6) (.i 0),.v 3,.v 2])) (.not (.call 114 #[.idx (.v 6) (.i 1),.v 3,.v 2]))) #[.nope] .e,.asg (.n 7) (.slc (.idx (.call 116 #[.tup #[.s "signed product"],.v 3,.v 2,.call 98 #[.idx (.v 6) (.i 0),.v 3],.v 5]) (.i 0)) (.cst .non) (.v 2)),.ite (.not (.call 114 #[.v 7,.v 3,.v 2])) #[.nope] .e,.ite (.cmp .ne (.idx (.call 116 #[.tup #[.s "sum"],.v 3,.v 2,.call 98 #[.v 7,.v 3],.call 98 #[.idx (.v 6) (.i 1),.v 3]]) (.i 0)) (.call 111 #[.v 4,.v 3,.v 2])) #[.nope] .e,.asg (.n 8) (.tup #[.call 99 #[.call 111 #[.v 4,.v 3,.v 2],.v 3],.call 99 #[.call 111 #[.v 5,.v 3,.v 2],.v 3]]),.ite (.and (.cmp .ne (.call 98 #[.idx (.v 6) (.i 1),.v 3]) (.i 0)) (.cmp .ne (.call 99 #[.idx (.v 6) (.i 1),.v 3]) (.idx (.v 8) (.i 0)))) #[.nope] .e,.ite (.and (.cmp .eq (.v 8) (.tup #[.i 0,.i 0])) (.cmp .ne (.slc (.call 116 #[.tup #[.s "quotient"],.v 3,.v 2,.v 4,.v 5]) (.cst .non) (.i 2)) (.slc (.v 6) (.cst .non) (.i 2)))) #[.nope] .e,.asg (.n 9) (.and (.cmp .eq (.v 8) (.tup #[.i 1,.i 1])) (.cmp .eq (.call 99 #[.idx (.v 6) (.i 0),.v 3]) (.i 1))),.ret (.and (.cmp .eq (.idx (.idx (.v 6) (.i 2)) (.i 1)) (.blt .int #[.v 9])) (.call 117 #[.v 3,.v 2,.v 4,.v 5,.v 6]))]⟩
end zq
def Tl:List Fn:=[yjl,yjm,yjn,yjo,yjp,yjq,yjr,yjs,yjt,yju,yjv,yjw,yjx,yjy,yjz,yjA,yjB,yjC,yjD,yjE,yjF,yjG,yjH,yga,yiE,yjI,yjJ,yjK,yjL,yjM,yjN,yjO,yjP,yjQ,yjR,yjS,yjT,yjU,yjV,yjW,yjX,yjY,yhV,yjZ,yV,yhW,ygq,yhX,yj0,yhY,yj1,yhZ,yj2,yj3,yj4,yiF,yu,yw,y6,y7,y8,y9,yiG,yh0,yh1,yj5,yj6,yhE,yfk,yiH,yhF,yj7,yj8,yhG,yhH,yj9,yh2,yh3,yh4,yh5,yh6,yhI,yh7,yh8,yh9,yia,yib,yic,yid,yie,yK,yif,yk,yig,yih,yiI,yhJ,yii,yij,yik,yil,yhK,ycz,yF,yaC,yim,yaK,yas,yao,yae,yin,yio,yip,yiq,yir,yX,yis,yhL,yaB]
def T(i:Nat):Option Fn:=Tl[i]?
abbrev yhM:Nat:=23
abbrev yiJ:Nat:=24
abbrev ygx:Nat:=42
abbrev yiK:Nat:=44
abbrev yiL:Nat:=45
abbrev yz:Nat:=46
abbrev yka:Nat:=47
abbrev ykb:Nat:=49
abbrev ykc:Nat:=51
abbrev ykd:Nat:=55
abbrev yiM:Nat:=56
abbrev yY:Nat:=57
abbrev yiN:Nat:=58
abbrev yke:Nat:=59
abbrev yiO:Nat:=60
abbrev yiP:Nat:=61
abbrev yA:Nat:=62
abbrev ykf:Nat:=63
abbrev ykg:Nat:=64
abbrev yit:Nat:=67
abbrev ygB:Nat:=68
abbrev yhN:Nat:=69
abbrev yiu:Nat:=70
abbrev yiQ:Nat:=71
abbrev yy:Nat:=72
abbrev yB:Nat:=73
abbrev yiR:Nat:=74
abbrev yiS:Nat:=76
abbrev yiT:Nat:=77
abbrev yiU:Nat:=78
abbrev yiV:Nat:=79
abbrev yiW:Nat:=80
abbrev yiX:Nat:=81
abbrev yiY:Nat:=82
abbrev yiZ:Nat:=83
abbrev yi0:Nat:=84
abbrev yi1:Nat:=85
abbrev yi2:Nat:=86
abbrev yi3:Nat:=87
abbrev ykh:Nat:=88
abbrev yhO:Nat:=89
abbrev yi4:Nat:=90
abbrev yT:Nat:=91
abbrev yv:Nat:=92
abbrev yki:Nat:=93
abbrev yi5:Nat:=94
abbrev yi6:Nat:=95
abbrev yhk:Nat:=96
abbrev yiv:Nat:=97
abbrev yes:Nat:=98
abbrev yiw:Nat:=99
abbrev yhP:Nat:=100
abbrev ykj:Nat:=101
abbrev ykk:Nat:=102
abbrev yi7:Nat:=103
abbrev yhQ:Nat:=104
abbrev yi8:Nat:=105
abbrev yi9:Nat:=106
abbrev ykl:Nat:=107
abbrev yet:Nat:=108
abbrev ykm:Nat:=109
abbrev yhx:Nat:=110
abbrev yix:Nat:=111
abbrev yhA:Nat:=112
abbrev yja:Nat:=113
abbrev yjb:Nat:=114
abbrev yjc:Nat:=115
abbrev yl:Nat:=116
abbrev ykn:Nat:=117
abbrev yiy:Nat:=118
end IC
namespace WK
open PySem L2 IC
def top(i:Nat):Stmt:=Dr.main.body.getD i (.Pass #[0,0,0,0])
def tbQ:Tb where
 tbl:=[#["word","word","word",top 15,["letter","c","i","j","m"],["letter","c","i","j","m"],yjl,.fd [0,0,0,0]],#["last_word","last_word","last_word",top 16,["letter"],["letter"],yjm,.fn],#["rows","rows","rows",top 17,["told"],["told"],yjn,.fn],#["rounds","rounds","rounds",top 18,["count","sentence","inner"],["count","sentence","inner"],yjo,.fn],#["lowest","lowest","lowest",top 19,["letter","c","i","j","m"],["letter","c","i","j","m"],yjp,.fd [0,0,0,0]],#["term","term","term",top 20,["f","things","i","p","q","r"],["f","things","i","p","q","r"],yjq,.fd [0,0,0,0]],#["moved_parts","moved","moved",top 21,["to","source","c","sentence"],["to","source","c"],yjr,.fd [0]],#["doubled_parts","doubled","doubled",top 23,["letter","count"],["letter","count"],yjs,.fn],#["kept_mark","kept_mark","kept_mark",top 25,["to"],["to"],yjt,.fn],#["kept_contrary","kept_contrary","kept_contrary",top 26,["to"],["to"],yju,.fn],#["sign_filled","sign_filled","sign_filled",top 27,["to","last"],["to","last"],yjv,.fn],#["gathered_unlike","gathered_unlike","gathered_unlike",top 28,["to","here","fill","count"],["to","here","fill","count"],yjw,.fn],#["asked_words","asked_words","asked_words",top 29,["letter","m","count","gathered"],["letter","m","count"],yjx,.fn],#["answer_marks","answer_marks","answer_marks",top 30,["c","m","sign"],["c","m"],yjy,.fn],#["multiplied","multiplied","multiplied",top 44,["sentence","begun","ended"],[],yjz,.fn],#["by_one_word","by_one_word","by_one_word",top 45,["here","this_word","sentence"],[],yjA,.fn],#["quotient_telling","quotient_telling","quotient_telling",top 49,[],[],yjB,.fn],#["by_nought","by_nought","by_nought",top 50,[],[],yjC,.fn],#["divided","divided","divided",top 51,["x","y","answer","rest","sentence","one_place"],["x","y","answer","rest"],yjD,.fn],#["next_place","next_place","next_place",top 52,["rest"],["rest"],yjE,.fn],#["less_divisor","less_divisor","less_divisor",top 53,["rest","y","taken","top"],["rest","y"],yjF,.fn],#["put_back","put_back","put_back",top 54,["rest","y","added","top","begun"],["rest","y"],yjG,.fn],#["next_figure","next_figure","next_figure",top 55,["answer"],["answer"],yjH,.fn],#["is_whole","is_whole","is_whole",top 58,["thing","low","high"],["thing","low","high"],yga,.fn],#["is_letter","is_letter","is_letter",top 59,["thing"],["thing"],yiE,.fn],#["are_told","are_told","are_told",top 60,["thing","many"],["thing","many"],yjI,.fn],#["signed_product_telling","signed_product_telling","signed_product_telling",top 78,["signs"],[],yjJ,.fn],#["signed_quotient_telling","signed_quotient_telling","signed_quotient_telling",top 79,["signs","begun","ended"],[],yjK,.fn],#["kept_sign","kept_sign","kept_sign",top 80,["to","letter"],["to","letter"],yjL,.fn],#["worth_of","worth_of","worth_of",top 81,["cell"],["cell"],yjM,.fn],#["less_for_x","less_for_x","less_for_x",top 82,[],[],yjN,.fn],#["less_for_y","less_for_y","less_for_y",top 83,["before"],[],yjO,.fn],#["product_terms","product_terms","product_terms",top 84,[],[],yjP,.fn],#["less_terms","less_terms","less_terms",top 85,["sign","letter"],["sign","letter"],yjQ,.fn],#["less_where","less_where","less_where",top 86,["sign","letter","sentence","upper"],["sign","letter","sentence"],yjR,.fn],#["unfit_product","unfit_product","unfit_product",top 87,["looked"],[],yjS,.fn],#["turned_where","turned_where","turned_where",top 88,["sign","to","source","sentence"],["sign","to","source"],yjT,.fn],#["unfit_quotient","unfit_quotient","unfit_quotient",top 89,[],[],yjU,.fn],#["sum_telling","sum_telling","sum_telling",top 91,["added","sentence","lone"],[],yjV,.fn],#["turned_telling","turned_telling","turned_telling",top 93,["taken","sentence","lone"],[],yjW,.fn],#["carried","carried","carried",top 97,["row","sentence"],["row","sentence"],yjX,.fn],#["lone_sign","lone_sign","lone_sign",top 98,["lone","one","other"],["lone","one","other"],yjY,.fn],#["is_row","is_row","is_row",top 101,["thing"],["thing"],yhV,.fn],#["is_told_row","is_told_row","is_told_row",top 102,["thing"],["thing"],yjZ,.fn],#["has_form","has_form","has_form",top 103,["thing","told","kind","operand"],["thing","told"],yV,.fn],#["is_named","is_named","is_named",top 104,["thing"],["thing"],yhW,.fn],#["is_operand","is_operand","is_operand",top 105,["kind","thing","told"],["kind","thing","told"],ygq,.fn],#["is_cell","is_cell","is_cell",top 106,["thing"],["thing"],yhX,.fn],#["is_told_cell","is_told_cell","is_told_cell",top 107,["thing"],["thing"],yj0,.fn],#["is_lettered","is_lettered","is_lettered",top 108,["thing"],["thing"],yhY,.fn],#["is_sentence","is_sentence","is_sentence",top 113,["thing"],["thing"],yj1,.fn],#["place_of","place_of","place_of",top 114,["told","n","i","j"],["told","n","i","j"],yhZ,.fn],#["is_term","is_term","is_term",top 115,["thing","f","exponent","things"],["thing"],yj2,.fn],#["are_things","are_things","are_things",top 116,["thing"],["thing"],yj3,.fn],#["is_thing","is_thing","is_thing",top 117,["thing"],["thing"],yj4,.fn],#["","__init__","Unrolling.__init__",inClass (top 122) 0,["self","w","n"],["self","w","n"],yiF,.ini 20],#["","go_parts","Unrolling.go_parts",inClass (top 122) 1,["self","parts","gone","part"],["self","parts","gone"],yu,.me 20],#["","go_rounds","Unrolling.go_rounds",inClass (top 122) 2,["self","part","gone","count","at"],["self","part","gone"],yw,.me 20],#["","count_of","Unrolling.count_of",inClass (top 122) 3,["self","told","c","m","t"],["self","told"],y6,.me 20],#["","add_row","Unrolling.add_row",inClass (top 122) 4,["self","told","gone","i","j","row"],["self","told","gone"],y7,.me 20],#["","add_round","Unrolling.add_round",inClass (top 122) 5,["self"],["self"],y8,.me 20],#["","add_asked","Unrolling.add_asked",inClass (top 122) 6,["self","sentence","gone","i","j"],["self","sentence","gone"],y9,.me 20],#["is_telling","is_telling","is_telling",top 123,["thing"],["thing"],yiG,.fn],#["unrolled","unrolled","unrolled",top 124,["telling","w","n"],["telling","w","n"],yh0,.fn],#["steps_of","steps_of","steps_of",top 125,["telling","w","n","unrolling"],["telling","w","n"],yh1,.fn],#["are_parts","are_parts","are_parts",top 126,["thing","nests"],["thing","nests"],yj5,.fn],#["is_part","is_part","is_part",top 127,["thing","nests"],["thing","nests"],yj6,.fn],#["both_gone","both_gone","both_gone",top 128,["gone"],["gone"],yhE,.fn],#["placed","placed","placed",top 129,["thing","n","i","j"],["thing","n","i","j"],yfk,.fn],#["telling","telling","telling",top 138,["deed"],["deed"],yiH,.fn],#["deed_rows","deed_rows","deed_rows",top 139,["deed","w","n"],["deed","w","n"],yhF,.fn],#["is_deed","is_deed","is_deed",top 140,["thing"],["thing"],yj7,.fn],#["is_paired","is_paired","is_paired",top 141,["deed"],["deed"],yj8,.fn],#["answer_words","answer_words","answer_words",top 142,["deed","n"],["deed","n"],yhG,.fn],#["rest_words","rest_words","rest_words",top 143,["deed","n"],["deed","n"],yhH,.fn],#["named_telling","named_telling","named_telling",top 145,["name"],["name"],yj9,.fn],#["made","made","made",top 147,["name","w","x","y","k","make"],["name","w","x","y","k"],yh2,.fn],#["highest","highest","highest",top 148,["w"],["w"],yh3,.fn],#["moved","moved","moved",top 149,["w","x","y","k"],["w","x","y","k"],yh4,.fn],#["bared","bared","bared",top 151,["w","x","y","k"],["w","x","y","k"],yh5,.fn],#["summed","summed","summed",top 152,["w","x","y","k","total"],["w","x","y","k"],yh6,.fn],#["taken_away","taken_away","taken_away",top 153,["w","x","y","k","total"],["w","x","y","k"],yhI,.fn],#["in_both","in_both","in_both",top 154,["w","x","y","k"],["w","x","y","k"],yh7,.fn],#["in_any","in_any","in_any",top 155,["w","x","y","k"],["w","x","y","k"],yh8,.fn],#["in_one","in_one","in_one",top 156,["w","x","y","k"],["w","x","y","k"],yh9,.fn],#["doubled","doubled","doubled",top 157,["w","x","y","k"],["w","x","y","k"],yia,.fn],#["halved","halved","halved",top 159,["w","x","y","k"],["w","x","y","k"],yib,.fn],#["","__init__","Machine.__init__",inClass (top 163) 0,["self","w"],["self","w"],yic,.ini 21],#["","put","Machine.put",inClass (top 163) 1,["self","letter","at","word","cell"],["self","letter","at","word"],yid,.me 21],#["","word","Machine.word",inClass (top 163) 2,["self","letter","at"],["self","letter","at"],yie,.me 21],#["","run","Machine.run",inClass (top 163) 5,["self","rows","row"],["self","rows"],yK,.me 21],#["","held_in","Machine.held_in",inClass (top 163) 6,["self","cell"],["self","cell"],yif,.me 21],#["","go_row","Machine.go_row",inClass (top 163) 7,["self","row"],["self","row"],yk,.me 21],#["","go_times","Machine.go_times",inClass (top 163) 8,["self","row","product"],["self","row"],yig,.me 21],#["","go_made","Machine.go_made",inClass (top 163) 9,["self","row","x","y","word","mark"],["self","row"],yih,.me 21],#["known_cell","known_cell","known_cell",top 164,["letter","at"],["letter","at"],yiI,.fn],#["refuse_row","refuse_row","refuse_row",top 165,["thing"],["thing"],yhJ,.fn],#["words_of","words_of","words_of",top 167,["worth","w","n"],["worth","w","n"],yii,.fn],#["plain","plain","plain",top 168,["number","w"],["number","w"],yij,.fn],#["sign_of","sign_of","sign_of",top 169,["number","w"],["number","w"],yik,.fn],#["lowest_words","lowest_words","lowest_words",top 170,["worth","w","n","highest"],["worth","w","n"],yil,.fn],#["refuse_deed","refuse_deed","refuse_deed",top 172,["deed","w","n","x","y"],["deed","w","n","x","y"],yhK,.fn],#["ran","ran","ran",top 175,["deed","w","n","x","y","machine","answer"],["deed","w","n","x","y"],ycz,.fn],#["machine_with","machine_with","machine_with",top 176,["w","n","x","y","machine","letter","worth","at","word"],["w","n","x","y"],yF,.fn],#["number_in","number_in","number_in",top 177,["machine","letter","many"],["machine","letter","many"],yaC,.fn],#["_law_fresh","_law_fresh","_law_fresh",top 179,["_law_script"],["_law_script"],yim,.fn],#["_law_mixed","_law_mixed","_law_mixed",top 180,["_law_seed","_law_primes","_law_number_here","_law_k","_law_prime","_law_far","_law_square","_law_power"],["_law_seed"],yaK,.fn],#["_law_fill","_law_fill","_law_fill",top 181,["_law_state","_law_cells","_law_at","_law_seed"],["_law_state"],yas,.fn],#["_law_take","_law_take","_law_take",top 182,["_law_state","_law_many","_law_turns","_law_digit"],["_law_state","_law_many"],yao,.fn],#["_law_worth","_law_worth","_law_worth",top 183,["_law_state","_law_w","_law_n","_law_way","_law_top","_law_k","_law_edges","_law_any_one","_law_low","_law_wide","_law_worth_here","_law_some","_law_words_here"],["_law_state","_law_w","_law_n"],yae,.fn],#["_law_two_to","_law_two_to","_law_two_to",top 184,["_law_many","_law_found","_law_k"],["_law_many"],yin,.fn],#["_law_words","_law_words","_law_words",top 185,["_law_worth_here","_law_w","_law_n","_law_wide","_law_words_here","_law_k"],["_law_worth_here","_law_w","_law_n"],yio,.fn],#["_law_whole","_law_whole","_law_whole",top 186,["_law_thing"],["_law_thing"],yip,.fn],#["_law_wholes","_law_wholes","_law_wholes",top 187,["_law_thing","_law_many","_law_most"],["_law_thing","_law_many","_law_most"],yiq,.fn],#["_law_number","_law_number","_law_number",top 188,["_law_thing","_law_w","_law_n"],["_law_thing","_law_w","_law_n"],yir,.fn],#["_law_two","_law_two","_law_two",top 189,["_law_state","_law_w","_law_n","_law_x","_law_y","_law_way","_law_low"],["_law_state","_law_w","_law_n"],yX,.fn],#["_law_parts","_law_parts","_law_parts",top 190,["_law_deed","_law_w","_law_n","_law_x","_law_y","_law_found"],["_law_deed","_law_w","_law_n","_law_x","_law_y"],yis,.fn],#["_law_turned_too","_law_turned_too","_law_turned_too",top 191,["_law_w","_law_n","_law_x","_law_y","_law_found","_law_other","_law_turned"],["_law_w","_law_n","_law_x","_law_y","_law_found"],yhL,.fn],#["law","law","law",top 192,["_law_script","_law_state","_law_n","_law_w","_law_x","_law_y","_law_found","_law_back","_law_signs","_law_over"],["_law_script"],yaB,.fn]]
 al:=[eD "word" 0,eF "last_word" 1,eF "rows" 2,eF "rounds" 3,eD "lowest" 4,eD "term" 5,eD "moved_parts" 6,eF "doubled_parts" 7,eF "kept_mark" 8,eF "kept_contrary" 9,eF "sign_filled" 10,eF "gathered_unlike" 11,eF "asked_words" 12,eF "answer_marks" 13,eF "multiplied" 14,eF "by_one_word" 15,eF "quotient_telling" 16,eF "by_nought" 17,eF "divided" 18,eF "next_place" 19,eF "less_divisor" 20,eF "put_back" 21,eF "next_figure" 22,eF "is_whole" 23,eF "is_letter" 24,eF "are_told" 25,eF "signed_product_telling" 26,eF "signed_quotient_telling" 27,eF "kept_sign" 28,eF "worth_of" 29,eF "less_for_x" 30,eF "less_for_y" 31,eF "product_terms" 32,eF "less_terms" 33,eF "less_where" 34,eF "unfit_product" 35,eF "turned_where" 36,eF "unfit_quotient" 37,eF "sum_telling" 38,eF "turned_telling" 39,eF "carried" 40,eF "lone_sign" 41,eF "is_row" 42,eF "is_told_row" 43,eF "has_form" 44,eF "is_named" 45,eF "is_operand" 46,eF "is_cell" 47,eF "is_told_cell" 48,eF "is_lettered" 49,eF "is_sentence" 50,eF "place_of" 51,eF "is_term" 52,eF "are_things" 53,eF "is_thing" 54,eF "is_telling" 62,eF "unrolled" 63,eF "steps_of" 64,eF "are_parts" 65,eF "is_part" 66,eF "both_gone" 67,eF "placed" 68,eF "telling" 69,eF "deed_rows" 70,eF "is_deed" 71,eF "is_paired" 72,eF "answer_words" 73,eF "rest_words" 74,eF "named_telling" 75,eF "made" 76,eF "highest" 77,eF "moved" 78,eF "bared" 79,eF "summed" 80,eF "taken_away" 81,eF "in_both" 82,eF "in_any" 83,eF "in_one" 84,eF "doubled" 85,eF "halved" 86,eF "known_cell" 95,eF "refuse_row" 96,eF "words_of" 97,eF "plain" 98,eF "sign_of" 99,eF "lowest_words" 100,eF "refuse_deed" 101,eF "ran" 102,eF "machine_with" 103,eF "number_in" 104,eF "_law_fresh" 105,eF "_law_mixed" 106,eF "_law_fill" 107,eF "_law_take" 108,eF "_law_worth" 109,eF "_law_two_to" 110,eF "_law_words" 111,eF "_law_whole" 112,eF "_law_wholes" 113,eF "_law_number" 114,eF "_law_two" 115,eF "_law_parts" 116,eF "_law_turned_too" 117,eF "law" 118,eF "doubled_made" 85,eF "halved_made" 86,eF "moved_made" 78,eC "BACK" yfx,eC "BORROWED" yiz,eC "EACH_PLACE" yjd,eC "EACH_WORD" ym,eC "FACTOR_LIMIT" (.int (10000000000000000000000000000000000000000)),eC "FILL_signed" yhB,eC "HIGH" yfN,eC "LONE" yjf,eC "LOST_signed" yiA,eC "LOW" yeW,eC "MARKS_parts" yn,eC "MARKS_runs" (.int (4)),eC "MOST_NESTS" (.int (2)),eC "MOST_ROUNDS" (.int (4000)),eC "MOST_ROWS" (.int (4000)),eC "MOST_TERMS" (.int (20)),eC "MOST_THINGS" (.int (2)),eC "MOST_TOLD" (.int (200)),eC "NIL" ydu,eC "OVER" yhC,eC "PAIRED" yiB,eC "PAIRWISE" yjk,eC "PRODUCTS" yiC,eC "QUOTIENTS" yfV,eC "SEEN" yfg,eC "SHIFTS" yiD,eC "SIGN_OF_BOTH" yhD,eC "SIGN_X" yen,eC "SIGN_Y" yfh,eC "SPARE" yf,eG "ROWS" (.dct ybW),eG "Machine" (.cls 21 87),eG "Unrolling" (.cls 20 55)]
 bs:=["all","bool","enumerate","int","isinstance","len","max","min","range","str","sum","tuple","zip"]
 ts:=[.bool,.int,.str,.tuple]
 fl:=[eN 20 "n",eN 20 "rounds",eN 20 "rows",eN 20 "steps",eN 20 "w",eN 21 "marked",eN 21 "w",eN 21 "words"]
 me:=[eM 20 "go_parts" 56,eM 20 "go_rounds" 57,eM 20 "count_of" 58,eM 20 "add_row" 59,eM 20 "add_round" 60,eM 20 "add_asked" 61,eM 21 "put" 88,eM 21 "word" 89,eM 21 "run" 90,eM 21 "held_in" 91,eM 21 "go_row" 92,eM 21 "go_times" 93,eM 21 "go_made" 94]
 kb:=[eK 0 1 ["i"] [AA 0,AD,AA 0,AA 0],eK 0 1 ["i","j"] [AA 0,AD,AD,AA 0],eK 0 1 ["i","m"] [AA 0,AD,AA 0,AD],eK 0 1 ["j"] [AA 0,AA 0,AD,AA 0],eK 0 1 ["m"] [AA 0,AA 0,AA 0,AD],eK 0 2 ["m"] [AA 0,AA 0,AD],eK 4 1 ["i"] [AA 0,AD,AA 0,AA 0],eK 4 1 ["i","m"] [AA 0,AD,AA 0,AD],eK 4 1 ["j"] [AA 0,AA 0,AD,AA 0],eK 4 1 ["m"] [AA 0,AA 0,AA 0,AD],eK 4 2 [] [AA 0,AA 0,AA 0],eK 4 2 ["m"] [AA 0,AA 0,AD],eK 5 2 [] [AA 0,AA 0,AA 0,AA 0],eK 5 2 ["i"] [AD,AA 0,AA 0,AA 0],eK 5 2 ["p"] [AA 0,AD,AA 0,AA 0],eK 5 2 ["p","q"] [AA 0,AD,AD,AA 0],eK 5 2 ["p","r"] [AA 0,AD,AA 0,AD],eK 5 2 ["r"] [AA 0,AA 0,AA 0,AD],eK 6 2 [] [AA 0]]
 cn:=[eN 21 "Machine",eN 20 "Unrolling"]
 dd:=[eB "ROWS" ybW]
 ml:=[eL "MAKERS" yi]
theorem ok_all:tbQ.tbl.all (okT tbQ)=true:=by decide +kernel
theorem T_ok:∀i d,tbQ.tbl[i]?=AA d->T i=AA d.fn:=λi d h=>by have e:Tl=tbQ.tbl.map (·.fn):=rfl;rw[T,e,CK,h];rfl
theorem kb_all:ycc (KbP tbQ) tbQ.kb:=by repeat' (first|exact trivial|(refine#[kbP rfl rfl rfl rfl rfl ⋯ ?_,?_];((repeat intro _);exact#[_,rfl,rfl])))
theorem cn_20:cnm tbQ 20="Unrolling":=rfl
theorem cn_21:cnm tbQ 21="Machine":=rfl
mutual
noncomputable def pvq:PV->PV->Bool
 |.non,.non=>AC
 |.bl a,.bl b=>a==b
 |.int i,.int j=>decide (i=j)
 |.str x,.str y=>decide (x=y)
 |.tp k xs,.tp l ys=>(k==l)&&ycZ xs ys
 |.lst xs,.lst ys=>ycZ xs ys
 |_,_=>AB
noncomputable def ycZ:List PV->List PV->Bool
 |[],[]=>AC
 |x::xs,y::ys=>pvq x y&&ycZ xs ys
 |_,_=>AB
end
mutual
theorem zlr:∀(a b:PV),pvq a b=AC->a=b
 |.non,b,h=>by cases b<;>simp[pvq]at h ⊢
 |.bl a,b,h=>by cases b<;>simp[pvq]at h ⊢;exact h
 |.int a,b,h=>by cases b<;>simp[pvq]at h ⊢;exact h
 |.str a,b,h=>by cases b<;>simp[pvq]at h ⊢;exact h
 |.tp k xs,b,h=>by
  cases b<;>simp[pvq]at h ⊢
  exact#[h.1,zfV _ _ h.2]
 |.lst xs,b,h=>by
  cases b<;>simp[pvq]at h ⊢
  exact zfV _ _ h
 |.loc _,b,h=>by cases b<;>simp[pvq]at h
 |.exn _,b,h=>by cases b<;>simp[pvq]at h
 |.scr _,b,h=>by cases b<;>simp[pvq]at h
theorem zfV:∀(a b:List PV),ycZ a b=AC->a=b
 |[],b,h=>by cases b<;>simp[ycZ]at h ⊢
 |x::xs,b,h=>by
  cases b with
  |nil=>simp[ycZ]at h
  |cons y ys=>
   simp[ycZ]at h;rw[zlr x y h.1,zfV xs ys h.2]
end
def isOk(r:R PV)(v:PV):Bool:=match r with
 |.ok w []=>pvq w v
 |_=>AB
def zdr{r:R PV}{v:PV}(h:isOk r v=AC):r=.ok v []:=by
 match r with
 |.ok w []=>rw[zlr w v h]
 |.ok w (_::_)=>simp[isOk]at h
 |.exc _ _=>simp[isOk]at h
 |.bad=>simp[isOk]at h
def chS(c:Nat):Str:=#[(List.toArray [c])]
def yaj(c:Nat)(i:Int):PV:=.tup [.str (chS c),.int i]
def zmt{c d:Nat}(h:chS c=chS d):c=d:=by have:=congrArg (λx=>x.cps) h;simpa [chS] using this
def zbE(c d:Nat)(i j:Int):peq (yaj c i) (yaj d j)=decide (c=d/\i=j):=by
 have h:(chS c==chS d)=decide (c=d):=by rw[DH];simp;exact#[zmt,λe=>by rw[e]]
 show ((chS c==chS d)&&((i==j)&&AC))=_;rw[h,Cn,Bool.decide_and];exact congrArg _ (by rw[DH];simp)
abbrev Mem:=Nat->Int->Int
def upd(M:Mem)(c:Nat)(i v:Int):Mem:=λd j=>if d=c/\j=i then v else M d j
def yc4(kvs:List (PV×PV)):Prop:=∀p∈kvs,∃c i,p.1=yaj c i
def Rel(kvs:List (PV×PV))(M:Mem):Prop:=∀c i,(look (yaj c i) kvs).getD (.int 0)=.int (M c i)
def zgV(c:Nat)(i:Int)(v:PV)(d:Nat)(j:Int):∀kvs,yc4 kvs->look (yaj d j) (kvs.map λp=>if peq p.1 (yaj c i)=AC then(p.1,v)else p)=if d=c/\j=i then(if (kvs.any λp=>peq p.1 (yaj c i))=AC then AA v else AD)else look (yaj d j) kvs
 |[],_=>by simp[look]
 |p::kvs,h=>by
  let#[e,g,hp]:=h p Aw;let#[p1,p2]:=p;simp only at hp;subst hp;have ih:=zgV c i v d j kvs λq hq=>h q (AS _ hq);rw[AL,Br];erw[zbE]
  by_cases h1:e=c/\g=i
  .let#[rfl,rfl]:=h1;erw[and_self,decide_true,if_true,look,zbE,GN]
   by_cases h2:e=d/\g=j
   .let#[rfl,rfl]:=h2;simp
   .have h3:¬(d=e/\j=g):=λz=>h2 #[z.1.symm,z.2.symm];erw[h2,h3,decide_false,if_false,B8];rw[ih,if_neg h3]
  .simp only[h1,decide_false,Fd,B8,if_false];rw[look,look];erw[zbE]
   by_cases h2:e=d/\g=j
   .let#[rfl,rfl]:=h2;simp[h1]
   .simp only[h2,decide_false,B8,if_false];exact ih
def zgZ(c:Nat)(i:Int)(v:PV)(d:Nat)(j:Int):∀kvs,yc4 kvs->(kvs.any λp=>peq p.1 (yaj c i))=AB->look (yaj d j) (kvs++[(yaj c i,v)])=if d=c/\j=i then AA v else look (yaj d j) kvs
 |[],_,_=>by
  erw[BF,look,zbE]
  by_cases h2:c=d/\i=j
  .let#[rfl,rfl]:=h2;simp
  .have h3:¬(d=c/\j=i):=λz=>h2 #[z.1.symm,z.2.symm];simp[h2,h3]
 |p::kvs,h,hn=>by
  let#[e,g,hp]:=h p Aw;let#[p1,p2]:=p;simp only at hp;subst hp;rw[Br,Bool.or_eq_false_iff]at hn;have ih:=zgZ c i v d j kvs (λq hq=>h q (AS _ hq)) hn.2;have h1:¬(e=c/\g=i):=by simpa [zbE] using hn.1
  rw[Ak,look,look];erw[zbE]
  by_cases h2:e=d/\g=j
  .let#[rfl,rfl]:=h2;simp[h1]
  .simp only[h2,decide_false,B8,if_false];exact ih
def zki(c:Nat)(i:Int)(v:PV)(d:Nat)(j:Int)(kvs:List (PV×PV))(h:yc4 kvs):look (yaj d j) (put (yaj c i) v kvs)=if d=c/\j=i then AA v else look (yaj d j) kvs:=by
 unfold put;split
 .rename_i z;rw[zgV _ _ _ _ _ _ h,z,if_pos rfl]
 .rename_i z;exact zgZ _ _ _ _ _ _ h (by simpa using z)
def zkf{c:Nat}{i:Int}{v:PV}{kvs:List (PV×PV)}(h:yc4 kvs):yc4 (put (yaj c i) v kvs):=by
 unfold put;split
 .intro p hp;let#[q,hq,rfl]:=DY.1 hp;let#[e,g,he]:=h q hq;refine#[e,g,?_];split
  .exact he
  .exact he
 .intro p hp;rcases BE.1 hp with hp|hp
  .exact h p hp
  .simp at hp;exact#[c,i,by rw[hp]]
def zmE{c:Nat}{i v:Int}{kvs:List (PV×PV)}{M:Mem}(h:yc4 kvs)(r:Rel kvs M):Rel (put (yaj c i) (.int v) kvs) (upd M c i v):=by
 intro d j;rw[zki _ _ _ _ _ _ h];unfold upd;split
 .rfl
 .exact r d j
def zmF{k v:PV}{kvs:List (PV×PV)}:(put k v kvs).length<=kvs.length+1:=by
 unfold put;split
 .simp
 .simp
def zg6(c:Nat)(i:Int):isKey AC (yaj c i)=true:=rfl
structure Dc(st:SO)(n:Nat)(M:Mem)(L:Nat):Prop where
 ex:∃kvs,st[n]?=AA (.dct AC kvs)/\yc4 kvs/\Rel kvs M/\kvs.length<=L
def zkW{st:SO}{n L:Nat}{M:Mem}(h:Dc st n M L)(c:Nat)(i:Int):yd4 st (.loc n) (yaj c i) (.int 0)=.ok (.int (M c i)) st:=by let#[kvs,h1,h2,h3,h4]:=h;erw[yd4,ybl,h1,zg6,if_true,h3 c i]
def zkc{st:SO}{n L:Nat}{M:Mem}(h:Dc st n M L)(hL:L<999999)(c:Nat)(i v:Int):∃kvs,ybs st (.loc n) (yaj c i) (.int v)=AA (st.set n (.dct AC kvs))/\Dc (st.set n (.dct AC kvs)) n (upd M c i v) (L+1):=by
 let#[kvs,h1,h2,h3,h4]:=h;have hn:n<st.length:=by
  rcases CA n st.length with z|z
  .exact z
  .rw[Bd z]at h1;cases h1
 refine#[put (yaj c i) (.int v) kvs,?_,#[_,Ag hn,zkf h2,zmE h2 h3,BZ zmF ()]];have h5:kvs.length<1000000:=by lia
 erw[ybs,h1,zg6,h5,and_self,if_true]
abbrev Cel:=Nat×Int
def yC(x:Cel):PV:=yaj x.1 x.2
inductive Rw where
 |mark (d:Int)|ask (x:Cel)|set (t:Cel) (d:Int)|move (t x:Cel)|bare (t x:Cel)|twice (t x:Cel)|half (t x:Cel)
 |sum (t x y:Cel)|less (t x y:Cel)|both (t x y:Cel)|any (t x y:Cel)|odd (t x y:Cel)|times (l h x y:Cel)
def yM:Rw->PV
 |.mark d=>.tup [.str "mark",.int d]
 |.ask x=>.tup [.str "ask",yC x]
 |.set t d=>.tup [.str "set",yC t,.int d]
 |.move t x=>.tup [.str "move",yC t,yC x]
 |.bare t x=>.tup [.str "bare",yC t,yC x]
 |.twice t x=>.tup [.str "twice",yC t,yC x]
 |.half t x=>.tup [.str "half",yC t,yC x]
 |.sum t x y=>.tup [.str "sum",yC t,yC x,yC y]
 |.less t x y=>.tup [.str "less",yC t,yC x,yC y]
 |.both t x y=>.tup [.str "both",yC t,yC x,yC y]
 |.any t x y=>.tup [.str "any",yC t,yC x,yC y]
 |.odd t x y=>.tup [.str "odd",yC t,yC x,yC y]
 |.times l h x y=>.tup [.str "times",yC l,yC h,yC x,yC y]
def rd(M:Mem)(x:Cel):Int:=M x.1 x.2
def wr(M:Mem)(x:Cel)(v:Int):Mem:=upd M x.1 x.2 v
def stepM(W:Int)(M:Mem)(k:Int):Rw->Mem×Int
 |.mark d=>(M,d)
 |.ask x=>(M,bi (!(rd M x==0)))
 |.set t d=>(wr M t d,k)
 |.move t x=>(wr M t (rd M x),k)
 |.bare t x=>(wr M t (W-1-rd M x),k)
 |.twice t x=>(wr M t ((2*rd M x+k)%W),(2*rd M x+k)/W)
 |.half t x=>(wr M t (rd M x/2+k*(W/2)),rd M x%2)
 |.sum t x y=>(wr M t ((rd M x+rd M y+k)%W),(rd M x+rd M y+k)/W)
 |.less t x y=>(wr M t ((rd M x-rd M y-k)%W),bi (decide (rd M x-rd M y-k<0)))
 |.both t x y=>(wr M t (BC (rd M x) (rd M y)),k)
 |.any t x y=>(wr M t (BB (rd M x) (rd M y)),k)
 |.odd t x y=>(wr M t (BO (rd M x) (rd M y)),k)
 |.times l h x y=>(wr (wr M l (rd M x*rd M y%W)) h (rd M x*rd M y/W),k)
def yt(W:Int):List Rw->Mem->Int->Mem×Int
 |[],M,k=>(M,k)
 |r::rs,M,k=>yt W rs (stepM W M k r).1 (stepM W M k r).2
def zh(W:Int):∀(a b:List Rw) (M:Mem) (k:Int),yt W (a++b) M k=yt W b (yt W a M k).1 (yt W a M k).2
 |[],b,M,k=>rfl
 |r::a,b,M,k=>by rw[Ak,yt,zh W a b,yt]
def zk4{st:SO}{n:Nat}{o:Ob}(h:st[n]?=AA o):st=st.set n o:=by
 refine E9 λi=>?_;rw[Ea];split
 .rename_i e;subst e;split
  .exact h
  .rename_i z;rw[Bd ()]at h
   cases h
 .rfl
def zgc(i:Int):shp (.int i)=true:=rfl
section
variable {st:SO}{k:Bool}{a b c d e:PV}{r:List PV}{i j:Int}
theorem ix0:idxV st (.tp k (a::r)) (.int 0)=AA a:=by simp[idxV,yba,at?,ixI]
theorem ix1:idxV st (.tp k (a::b::r)) (.int 1)=AA b:=by
 have:(1:Int)<(r.length:Int)+1+1:=by lia
 simp[idxV,yba,at?,ixI,this]
theorem ix2:idxV st (.tp k (a::b::c::r)) (.int 2)=AA c:=by
 have:(2:Int)<(r.length:Int)+1+1+1:=by lia
 simp[idxV,yba,at?,ixI,this]
theorem ix3:idxV st (.tp k (a::b::c::d::r)) (.int 3)=AA d:=by
 have:(3:Int)<(r.length:Int)+1+1+1+1:=by lia
 simp[idxV,yba,at?,ixI,this]
theorem b_add:yI .add (.int i) (.int j)=AA (.int (i+j)):=rfl
theorem b_sub:yI .sub (.int i) (.int j)=AA (.int (i-j)):=rfl
def zkg(h:i.natAbs<18446744073709551616 \/ j.natAbs<18446744073709551616):yI .mul (.int i) (.int j)=AA (.int (i*j)):=by
 have:yaQ i j=true:=by simpa [yaQ] using h
 simp[yI,binI,this]
def zaD(h:i.natAbs<18446744073709551616):yI .mul (.int i) (.int j)=AA (.int (i*j)):=zkg (.inl h)
def zcV(h:j.natAbs<18446744073709551616):yI .mul (.int i) (.int j)=AA (.int (i*j)):=zkg (.inr h)
theorem b_mul2:yI .mul (.int 2) (.int j)=AA (.int (2*j)):=zkg (.inl ⋯)
def zgh(h:0<j)(h2:j<18446744073709551616*18446744073709551616):yI .fdiv (.int i) (.int j)=AA (.int (i/j)):=by
 have h3:j<10000000000000000000000000000000000000000000000000000000000000000000000:=by lia
 simp[yI,binI,h,h3]
theorem b_div2:yI .fdiv (.int i) (.int 2)=AA (.int (i/2)):=rfl
def zhD(h:0<j):yI .mod (.int i) (.int j)=AA (.int (i%j)):=if_pos h
def zqn:yI .band (.int i) (.int j)=AA (.int (BC i j)):=rfl
def zrj:yI .bor (.int i) (.int j)=AA (.int (BB i j)):=rfl
def zqz:yI .bxor (.int i) (.int j)=AA (.int (BO i j)):=rfl
theorem toR_some{v:PV}:toR (AA v) st=.ok v st:=rfl
def znd:peq (.int i) (.int j)=(i==j):=rfl
theorem c_ne:yP .ne (.int i) (.int j)=AA (.bl (!(i==j))):=rfl
theorem c_eq:yP .eq (.int i) (.int j)=AA (.bl (i==j)):=rfl
theorem c_lt:yP .lt (.int i) (.int j)=AA (.bl (decide (i<j))):=rfl
theorem c_le:yP .le (.int i) (.int j)=AA (.bl (decide (i<=j))):=rfl
theorem c_gt:yP .gt (.int i) (.int j)=AA (.bl (decide (j<i))):=rfl
theorem c_ge:yP .ge (.int i) (.int j)=AA (.bl (decide (j<=i))):=rfl
theorem t_bl{b:Bool}:yaY st (.bl b)=AA b:=rfl
theorem on_t{f:Bool->Fl}{b:Bool}:onF (AA b) f=f b:=rfl
theorem ono{A:Type}{f:Bool->R A}{b:Bool}:onO (AA b) f=f b:=rfl
def zaw{U:IC.Env}:stO U (AA st)=.nx U st:=rfl
theorem nxO_some{U:IC.Env}:nxO (AA U) st=.nx U st:=rfl
theorem fl_ok{A:Type}{a:A}{U:IC.Env}{k:A->SO->Fl}:(R.ok a st).fl U k=k a st:=rfl
theorem bd_ok{A B:Type}{a:A}{k:A->SO->R B}:(R.ok a st).bind k=k a st:=rfl
theorem th_nx{U:IC.Env}{k:IC.Env->SO->Fl}:yaT (.nx U st) k=k U st:=rfl
theorem th_rt{v:PV}{k:IC.Env->SO->Fl}:yaT (.rt v st) k=.rt v st:=rfl
theorem fl_exc{A:Type}{c:Nat}{U:IC.Env}{k:A->SO->Fl}:(R.exc c st:R A).fl U k=.exc c U st:=rfl
theorem bd_exc{A B:Type}{c:Nat}{k:A->SO->R B}:(R.exc c st:R A).bind k=.exc c st:=rfl
theorem th_exc{c:Nat}{U:IC.Env}{k:IC.Env->SO->Fl}:yaT (.exc c U st) k=.exc c U st:=rfl
theorem noLocs_ints:∀(l:List Int),nLs (l.map PV.int)=AC
 |[]=>rfl
 |_::l=>by simp[nLs,nL,noLocs_ints l]
theorem bT_n{i:Nat}{v:PV}{U:IC.Env}:yU (.n i) v U=AA (U.set i (AA v)):=rfl
end
def zoA:∀(n x y:Nat),x<=n->(x ^^^ y)+(x &&& y)=x ||| y
 |n,x,y,h=>by
  by_cases hx:x=0
  .subst hx;simp
  .have ih:=zoA (n-1) (x/2) (y/2) ();rw[<-Nat.xor_div_two,<-Nat.and_div_two,<-Nat.or_div_two]at ih;have m1:(x ^^^ y)%2=((x%2) ^^^ (y%2)):=by have:=Nat.xor_mod_two_pow (a:=x) (b:=y) (n:=1);simpa using this
   have m2:(x &&& y)%2=((x%2) &&& (y%2)):=by have:=Nat.and_mod_two_pow (a:=x) (b:=y) (n:=1);simpa using this
   have m3:(x ||| y)%2=((x%2) ||| (y%2)):=by have:=Nat.or_mod_two_pow (a:=x) (b:=y) (n:=1);simpa using this
   rcases EV x with a|a<;>rcases EV y with b|b<;>rw[a,b]at m1 m2 m3<;>erw[Nat.reduceXor,Nat.reduceAnd,Nat.reduceOr]at m1 m2 m3<;>lia
def zd8(x y:Nat):BC (x:Int) (y:Int)=((x &&& y:Nat):Int):=by simp[BC]
def zcQ(x y:Nat):BB (x:Int) (y:Int)=((x ||| y:Nat):Int):=by
 have h1:¬(0:Int)<=-(x:Int)-1:=by lia
 have h2:¬(0:Int)<=-(y:Int)-1:=by lia
 have h3:(-(-(x:Int)-1)-1).toNat=x:=by lia
 have h4:(-(-(y:Int)-1)-1).toNat=y:=by lia
 erw[BB,BC,FT,h1,h2,decide_false,h3,h4];lia
def zgN(x y:Nat):BO (x:Int) (y:Int)=((x ^^^ y:Nat):Int):=by have:=zoA x x y (AT x);rw[BO,zcQ,zd8];lia
theorem pw(w:Nat):((2^w:Nat):Int)=2^w:=by simp
def zox{w:Nat}{a b:Int}(a0:0<=a)(b0:0<=b)(b1:b<2^w):0<=BC a b/\BC a b<2^w:=by obtain⟨x,rfl⟩:∃n:Nat,a=n:=#[a.toNat,by lia];obtain⟨y,rfl⟩:∃n:Nat,b=n:=#[b.toNat,by lia];rw[zd8];rw[<-pw]at b1 ⊢;exact#[by lia,by exact_mod_cast Ft x (by lia:y<2^w)]
def ziF{w:Nat}{a b:Int}(a0:0<=a)(a1:a<2^w)(b0:0<=b)(b1:b<2^w):0<=BO a b/\BO a b<2^w:=by obtain⟨x,rfl⟩:∃n:Nat,a=n:=#[a.toNat,by lia];obtain⟨y,rfl⟩:∃n:Nat,b=n:=#[b.toNat,by lia];rw[zgN];rw[<-pw]at a1 b1 ⊢;exact#[by lia,by exact_mod_cast Fu (by lia:x<2^w) (by lia:y<2^w)]
def zpn{w:Nat}{a b:Int}(a0:0<=a)(a1:a<2^w)(b0:0<=b)(b1:b<2^w):0<=BB a b/\BB a b<2^w:=by obtain⟨x,rfl⟩:∃n:Nat,a=n:=#[a.toNat,by lia];obtain⟨y,rfl⟩:∃n:Nat,b=n:=#[b.toNat,by lia];rw[zcQ];rw[<-pw]at a1 b1 ⊢;exact#[by lia,by exact_mod_cast Nat.or_lt_two_pow (by lia:x<2^w) (by lia:y<2^w)]
def zfZ{a b:Int}(a0:0<=a)(b0:0<=b):BB a b=0 ↔ a=0/\b=0:=by obtain⟨x,rfl⟩:∃n:Nat,a=n:=#[a.toNat,by lia];obtain⟨y,rfl⟩:∃n:Nat,b=n:=#[b.toNat,by lia];rw[zcQ];have:=Nat.or_eq_zero_iff (n:=x) (m:=y);lia
def zcD{w x:Nat}(h:x<2^(w+1)):(2*(x:Int))/2^(w+1)=((x/2^w:Nat):Int)/\(x/2^w=0 \/ x/2^w=1):=by
 have hp:0<2^w:=Gg ();constructor
 .rw[<-pw];have:(2*x)/2^(w+1)=x/2^w:=by rw[Hc,Nat.mul_comm 2 x,Nat.mul_div_mul_right _ _ ()]
  rw[<-this];rfl
 .have:x/2^w<2:=Nat.div_lt_of_lt_mul (by rw[Hc]at h;lia);generalize x/2^w=q at this;lia
def tb(w:Nat)(a:Int):Int:=(2*a)/2^w
def zpI{w:Nat}(hw:0<w){a b:Int}(a0:0<=a)(a1:a<2^w)(b0:0<=b)(b1:b<2^w):tb w (BC a b)=tb w a*tb w b:=by obtain⟨x,rfl⟩:∃n:Nat,a=n:=#[a.toNat,by lia];obtain⟨y,rfl⟩:∃n:Nat,b=n:=#[b.toNat,by lia];obtain⟨w,rfl⟩:∃v,w=v+1:=#[w-1,by lia];rw[<-pw]at a1 b1;have hx:=zcD (show x<2^(w+1)by lia);have hy:=zcD (show y<2^(w+1)by lia);have hz:=zcD (Ft x (show y<2^(w+1)by lia));rw[zd8,tb,tb,tb,hx.1,hy.1,hz.1,Nat.and_div_two_pow];rcases hx.2 with e|e<;>rcases hy.2 with f|f<;>rw[e,f]<;>rfl
def zlp{w:Nat}(hw:0<w){a b:Int}(a0:0<=a)(a1:a<2^w)(b0:0<=b)(b1:b<2^w):tb w (BO a b)=(tb w a+tb w b)%2:=by obtain⟨x,rfl⟩:∃n:Nat,a=n:=#[a.toNat,by lia];obtain⟨y,rfl⟩:∃n:Nat,b=n:=#[b.toNat,by lia];obtain⟨w,rfl⟩:∃v,w=v+1:=#[w-1,by lia];rw[<-pw]at a1 b1;have hx:=zcD (show x<2^(w+1)by lia);have hy:=zcD (show y<2^(w+1)by lia);have hz:=zcD (Fu (show x<2^(w+1)by lia) (show y<2^(w+1)by lia));rw[zgN,tb,tb,tb,hx.1,hy.1,hz.1,Nat.xor_div_two_pow];rcases hx.2 with e|e<;>rcases hy.2 with f|f<;>rw[e,f]<;>rfl
def zhH{w:Nat}(hw:0<w){a:Int}(a0:0<=a)(a1:a<2^w):tb w a=if 2^w<=2*a then 1 else 0:=by
 have h1:(0:Int)<2^w:=AY ();unfold tb;split
 .rename_i h;exact Int.le_antisymm (Int.le_of_lt_add_one (BX h1 ())) (FM h1 ())
 .exact BN () ()
def zcA(ys:List PV)(h:ys.length<=1000000)(st:SO):yb5 (.ok ys st)=.ok (.lst ys) st:=by simp[yb5,h]
def zbJ(n:Nat)(h:n<1000):yb8 (.int (n:Int))=AA (yx n 0 1):=by simp[yb8];lia
def zdK{z:Int}(h:0<=z):∃n:Nat,z=n:=#[z.toNat,by lia]
def ybK(st:SO)(f:Fl):R PV:=
 match f with
 |.rt v _=>if nL v then .ok v st else .bad
 |.nx _ _=>.ok .non st
 |.exc c _ _=>.exc c st
 |_=>.bad
def zd{T:Nat->Option IC.Fn}{k f:Nat}{fn:IC.Fn}{args:List PV}{st:SO}(hT:T f=AA fn)(hp:fn.pure=AC)(hl:args.length=fn.np)(hn:nLs args=AC):
  yd T (k+1) f args st=ybK st (exs (yd T k) (args.map AA++BI (fn.ns-fn.np) AD) [] fn.body):=by rw[yd,hT];dsimp only;rw[if_pos hl,if_pos hp,if_pos hn];rfl
def outI(f:Fl):R PV:=
 match f with
 |.rt v st1=>.ok v st1
 |.nx _ st1=>.ok .non st1
 |.exc c _ st1=>.exc c st1
 |_=>.bad
def zr{T:Nat->Option IC.Fn}{k f:Nat}{fn:IC.Fn}{args:List PV}{st:SO}(hT:T f=AA fn)(hp:fn.pure=AB)(hl:args.length=fn.np):
  yd T (k+1) f args st=outI (exs (yd T k) (args.map AA++BI (fn.ns-fn.np) AD) st fn.body):=by rw[yd,hT];dsimp only;rw[if_pos hl,hp,if_neg (by simp)];rfl
def zbM{st:SO}{v:PV}:outI (.rt v st)=.ok v st:=rfl
def zpM{st s:SO}{b:Bool}:ybK st (.rt (.bl b) s)=.ok (.bl b) st:=rfl
def zlY{st s:SO}{b:Int}:ybK st (.rt (.int b) s)=.ok (.int b) st:=rfl
set_option backward.eqns.nonrecursive true
local macro_rules | `(tactic| simp! [$xs,*])=>do
 let l<-("IC.xs_cons IC.xs_nil IC.x_asg IC.x_ite IC.x_ret IC.x_expr IC.x_for IC.x_six IC.evs IC.evi IC.ve1 IC.ve2 IC.ve3 IC.ve4 IC.ve5 IC.ve6 IC.ve7 IC.ve8 IC.ve9 IC.ve10 IC.ve11 IC.ve12 IC.ve13 IC.ve15 IC.ve16 IC.ve17 IC.ve18 IC.ve19 IC.ve20 IC.ve21 IC.ve24 IC.ve25 IC.ve28 IC.v_comp List.getElem?_cons_zero List.getElem?_cons_succ WK.bd_ok WK.fl_ok WK.bd_exc WK.fl_exc WK.toR_some IC.toL WK.bT_n WK.nxO_some WK.th_nx WK.th_rt WK.th_exc List.set_cons_zero List.set_cons_succ WK.on_t WK.t_bl WK.ono IC.onBl cond_true cond_false List.length_cons List.length_nil Nat.zero_add Nat.reduceAdd Nat.reduceSub Nat.reduceLeDiff if_true IC.nL IC.nLs WK.noLocs_ints Bool.and_self Bool.not_true Bool.not_false List.map_cons List.map_nil List.replicate List.cons_append List.nil_append List.append_nil Option.bind_none Option.bind_some Option.join_some WK.b_add WK.b_sub WK.b_mul2 WK.b_div2 WK.c_lt WK.c_le WK.c_gt WK.c_ge WK.c_eq WK.c_ne IC.PV.tup IC.sizeMax".splitOn " ").toArray.mapM λs=>`(Lean.Parser.Tactic.simpLemma| $(Lean.mkIdent s.toName):term)
 `(tactic| simp only[$l,*,$xs,*])
def yaJ:PV:=.tup [.int 2147483647,.int 2147483629,.int 2147483587,.int 2147483579,.int 2147483563]
def ydl:Css:=match yaK.body with
 |.cons _ (.cons _ (.cons (.for _ _ b) _))=>b
 |_=>.nil
def zdX{c:Cl}{s num g p:Int}{i:Nat}{u5 u6 u7:Option PV}(hg:∀st,idxV st (.tup [.int 11,.int 101,.int 1009,.int 10007,.int 100003]) (.int i)=AA (.int g))(hi:i<5)(hp:0<p)(hp2:p<18446744073709551616):
  ∃num' v5 v6 v7,exs c [AA (.int s),AA yaJ,AA (.int num),AA (.int i),AA (.int p),u5,u6,u7] [] ydl=.nx [AA (.int s),AA yaJ,AA (.int num'),AA (.int i),AA (.int p),v5,v6,v7] []:=by
 have h1:∀z:Int,yI .mul (.int z) (.int (48271+2*(i:Int)))=AA (.int (z*(48271+2*(i:Int)))):=λz=>zcV ();have h2:∀z y:Int,yI .mul (.int z) (.int (y%p))=AA (.int (z*(y%p))):=λz y=>zcV (by have a:=Ab y (show p≠0 by lia);have b:=AX y hp;lia)
 have h3:∀z:Int,yI .mul (.int z) (.int p)=AA (.int (z*p)):=λz=>zcV ();simp! [ydl,yaK,hg,h1,h2,h3,zhD hp];exact#[_,_,_,_,rfl]
def zk8{c:Cl}{s num:Int}{u5 u6 u7:Option PV}(i:Nat)(p:Int)(h:(i,p)∈[(0,(2147483647:Int)),(1,2147483629),(2,2147483587),(3,2147483579),(4,2147483563)]):
  ∃num' v5 v6 v7,exs c [AA (.int s),AA yaJ,AA (.int num),AA (.int i),AA (.int p),u5,u6,u7] [] ydl=.nx [AA (.int s),AA yaJ,AA (.int num'),AA (.int i),AA (.int p),v5,v6,v7] []:=by
 erw[AN,Dm,AU,or_false]at h;rcases h with⟨rfl,rfl⟩|⟨rfl,rfl⟩|⟨rfl,rfl⟩|⟨rfl,rfl⟩|⟨rfl,rfl⟩
 .exact zdX (λ_=>rfl) ⋯ ⋯ ⋯
 .exact zdX (λ_=>rfl) ⋯ ⋯ ⋯
 .exact zdX (λ_=>rfl) ⋯ ⋯ ⋯
 .exact zdX (λ_=>rfl) ⋯ ⋯ ⋯
 .exact zdX (λ_=>rfl) ⋯ ⋯ ⋯
def yeb:List PV:=[.tup [.int 0,.int 2147483647],.tup [.int 1,.int 2147483629],.tup [.int 2,.int 2147483587],.tup [.int 3,.int 2147483579],.tup [.int 4,.int 2147483563]]
theorem mixed(k:Nat)(s:Int)(st:SO):∃num,yd T (k+1) yi9 [.int s] st=.ok (.int num) st:=by
 let#[U',st',h,num,a,b,c,d,e,e1,e2]:=zeJ (call:=yd T k) (t:=.t [3,4]) (b:=ydl) (λ_ U st=>∃num a b c d e,U=[AA (.int s),AA yaJ,AA (.int num),a,b,c,d,e]/\st=[]) yeb 0 [AA (.int s),AA yaJ,AA (.int 0),AD,AD,AD,AD,AD] [] #[_,_,_,_,_,_,rfl,rfl] (by
  rintro j x U st hx ⟨num,a,b,c,d,e,rfl,rfl⟩
  have hx:=A6 hx;have hx:∃i p,x=.tup [.int ((i:Nat):Int),.int p]/\(i,p)∈[(0,(2147483647:Int)),(1,2147483629),(2,2147483587),(3,2147483579),(4,2147483563)]:=by
   erw[yeb,AN,AU,or_false]at hx;rcases hx with rfl|rfl|rfl|rfl|rfl
   .exact#[0,_,rfl,by simp]
   .exact#[1,_,rfl,by simp]
   .exact#[2,_,rfl,by simp]
   .exact#[3,_,rfl,by simp]
   .exact#[4,_,rfl,by simp]
  let#[i,p,rfl,hm]:=hx;let#[num',v5,v6,v7,hh]:=zk8 (c:=yd T k) (s:=s) (num:=num) (u5:=c) (u6:=d) (u7:=e) i p hm;exact#[_,_,_,rfl,hh,_,_,_,_,_,_,rfl,rfl])
 subst e1 e2;refine#[num,?_];rw[yd];have hb:yaK.body=.cons (.asg (.n 1) (.tup (.cons (.cst (.int 2147483647)) (.cons (.cst (.int 2147483629)) (.cons (.cst (.int 2147483587)) (.cons (.cst (.int 2147483579)) (.cons (.cst (.int 2147483563)) .nil))))))) (.cons (.asg (.n 2) (.cst (.int 0))) (.cons (.for (.t [3,4]) (.enum (.var 1)) ydl) (.cons (.ret (.var 2)) .nil))):=rfl;have hT:T yi9=AA #[1,8,AC,yaK.body]:=rfl;have hp:PV.tup [.int 2147483647,.int 2147483629,.int 2147483587,.int 2147483579,.int 2147483563]=yaJ:=rfl;rw[hT,hb];have h5:ev (yd T k) [AA (.int s),AD,AD,AD,AD,AD,AD,AD] [] (.tup (.cons (.cst (.int 2147483647)) (.cons (.cst (.int 2147483629)) (.cons (.cst (.int 2147483587)) (.cons (.cst (.int 2147483579)) (.cons (.cst (.int 2147483563)) .nil))))))=.ok yaJ []:=by simp[IC.ve1,IC.ve11,IC.vs0,IC.vs1,R.bind,sizeMax,yaJ]
 have he:evi (yd T k) [AA (.int s),AA yaJ,AA (.int 0),AD,AD,AD,AD,AD] [] (.enum (.var 1))=.ok yeb []:=by simp[IC.vi0,IC.vi1,IC.vi2,IC.vi3,IC.vi4,IC.vi5,IC.vi6,IC.vi7,IC.vi8,IC.ve2,R.bind,yaJ,yJ,yeb]
 erw[A4,Bw,if_true,nLs,nL,Dl,AL,Ah,Co,BI,Ak,BF,xs_cons,xs_nil,x_asg,x_for,x_ret,h5,R.fl,yU,nxO,yaT,BS,BU,IC.ve1,he,h,IC.ve2,Ao,Ai]
theorem rdS{st:SO}{n:Nat}{o x:Ob}(h:st[n]?=AA o):(st.set n x)[n]?=AA x:=by
 have:n<st.length:=by
  rcases CA n st.length with h1|h1
  .exact h1
  .rw[Bd h1]at h;cases h
 rw[Ag this]
def zo3(ns:List Int)(a:Int)(h:ns≠[]):∃v,yba (ns.map PV.int) (.int (a%(ns.length:Int)))=AA (.int v):=by
 have h0:0<ns.length:=F9.2 h;have h1:=Ab a (show (ns.length:Int)≠0 by lia);have h2:=AX a (show (0:Int)<ns.length by lia);have h3:(a%(ns.length:Int)).toNat<ns.length:=by lia
 refine#[ns[(a%(ns.length:Int)).toNat],?_];simp[yba,at?,ixI,h1,h2,h3]
def flT:Css:=match yas.body with
 |.cons _ (.cons _ (.cons _ t))=>t
 |x=>x
abbrev flS(l:PV)(a p:Int)(f:Bool):Ob:=.lst [l,.int a,.int p,.bl f]
def zqf{st:SO}{n:Nat}{l:PV}{a p v:Int}{f:Bool}(h:st[n]?=AA (flS l a p f)):ybG st (.loc n) (.int 1) (.int v)=AA (st.set n (flS l v p f)):=by erw[ybG,h];rfl
def zqj{st:SO}{n:Nat}{l:PV}{a p v:Int}{f:Bool}(h:st[n]?=AA (flS l a p f)):ybG st (.loc n) (.int 2) (.int v)=AA (st.set n (flS l a v f)):=by erw[ybG,h];rfl
def zqc{st:SO}{n:Nat}{l:PV}{a p:Int}{f g:Bool}(h:st[n]?=AA (flS l a p f)):ybG st (.loc n) (.int 3) (.bl g)=AA (st.set n (flS l a p g)):=by erw[ybG,h];rfl
def zrH{st:SO}{n:Nat}{l:PV}{a p:Int}{f:Bool}(h:st[n]?=AA (flS l a p f)):idxV st (.loc n) (.int 0)=AA l:=by erw[idxV,h];rfl
def zrI{st:SO}{n:Nat}{l:PV}{a p:Int}{f:Bool}(h:st[n]?=AA (flS l a p f)):idxV st (.loc n) (.int 1)=AA (.int a):=by erw[idxV,h];rfl
def zrJ{st:SO}{n:Nat}{l:PV}{a p:Int}{f:Bool}(h:st[n]?=AA (flS l a p f)):idxV st (.loc n) (.int 3)=AA (.bl f):=by erw[idxV,h];rfl
theorem p18:yI .pow (.int 10) (.int 18)=AA (.int 1000000000000000000):=by ac_rfl
def zgO(k n:Nat){l:PV}{m a v p q:Int}{f g:Bool}{st:SO}(h:st[n]?=AA (flS l a p f))(hl:∀st,yaE .len st [l]=AA (.int m))(hg:(decide (a ≥ m) || decide (v<1000000000000000000))=g)
  (h1:g=AC->yd T (k+1) yi9 [.int v] (st.set n (flS l (a+1) p AC))=.ok (.int q) (st.set n (flS l (a+1) p AC))) (h2:g=AB->q=v-1000000000000000000):
  exs (yd T (k+1)) [AA (.loc n),AA l,AA (.int a),AA (.int v)] st flT=.nx [AA (.loc n),AA l,AA (.int a),AA (.int v)] (st.set n (flS l (a+1) q g)):=by
 have s1:=zqf h (v:=a+1);have r1:=rdS h (x:=flS l (a+1) p f);have s2:=zqc r1 (g:=g);have r2:=rdS r1 (x:=flS l (a+1) p g);have s3:=zqj r2 (v:=q);have i3:=zrJ r2;rw[DZ]at s2 s3 i3 r2;rw[DZ]at s3
 have hb:flT=(match flT with
  |.cons a (.cons (.six x y _) r)=>.cons a (.cons (.six x y (.or (.cmp .ge (.var 2) (.blt .len (.cons (.var 1) .nil))) (.cmp .lt (.var 3) (.bin .pow (.cst (.int 10)) (.cst (.int 18)))))) r)
  |x=>x):=rfl
 have hor:∀st,ev (yd T (k+1)) [AA (.loc n),AA l,AA (.int a),AA (.int v)] st (.or (.cmp .ge (.var 2) (.blt .len (.cons (.var 1) .nil))) (.cmp .lt (.var 3) (.bin .pow (.cst (.int 10)) (.cst (.int 18)))))=.ok (.bl g) st:=λst=>by
  cases c:decide (a ≥ m)
  .rw[c,Fd]at hg;simp! [hl,c,p18,hg]
  .rw[c,GN]at hg;subst hg;simp! [hl,c]
 generalize hE:(Ce.or (.cmp .ge (.var 2) (.blt .len (.cons (.var 1) .nil))) (.cmp .lt (.var 3) (.bin .pow (.cst (.int 10)) (.cst (.int 18)))))=E at *
 cases g with
 |true=>
  have h1:=h1 rfl;rw[hb];simp! [flT,yas,stO,s1,hor,s2,i3,h1,s3]
 |false=>
  have h2:=h2 rfl;subst h2;rw[hb];simp! [flT,yas,stO,s1,hor,s2,i3,p18,s3]
theorem fill(k n:Nat)(ns:List Int)(hns:ns.length<=1000)(a p:Int)(ha:0<=a)(f:Bool)(st:SO)(h:st[n]?=AA (.lst [.lst (ns.map .int),.int a,.int p,.bl f])):
  ∃p' f',yd T (k+2) ykl [.loc n] st=.ok .non (st.set n (.lst [.lst (ns.map .int),.int (a+1),.int p',.bl f'])):=by
 have hT:T ykl=AA #[1,4,AB,yas.body]:=rfl;have hl:∀st,yaE .len st [.lst (ns.map .int)]=AA (.int (ns.length:Int)):=λst=>by show AA (PV.int (((ns.map PV.int).length:Nat):Int))=_;simp
 have i0:=zrH h;have i1:=zrI h;have bt:∀(a b:PV) (U:IC.Env),yU (.t [1,2]) (.tp AB [a,b]) U=AA ((U.set 1 (AA a)).set 2 (AA b)):=λ_ _ _=>rfl
 have hb:yas.body=(match yas.body with
  |.cons a (.cons b (.cons c _))=>.cons a (.cons b (.cons c flT))
  |x=>x):=rfl
 have m31:yI .mul (.int 31) (.int a)=AA (.int (31*a)):=zaD ⋯;obtain⟨v,hv⟩:∃v,exs (yd T (k+1)) [AA (.loc n),AD,AD,AD] st yas.body=exs (yd T (k+1)) [AA (.loc n),AA (.lst (ns.map .int)),AA (.int a),AA (.int v)] st flT:=by
  by_cases hn:ns=[]
  .have c0:decide ((ns.length:Int) > 0)=false:=by subst hn;rfl
   refine#[31*a+7,?_];rw[hb];generalize flT=F,ns.map PV.int=L at *;simp! [yas,i0,i1,bt,m31,hl,c0]
  .have h0:0<ns.length:=F9.2 hn;let#[v,hv]:=zo3 ns a hn;have c0:decide ((ns.length:Int) > 0)=true:=decide_eq_true ();have d1:=zgh (i:=a) (j:=(ns.length:Int)) () ();have d2:=zhD (i:=a) (j:=(ns.length:Int)) ();have m1:yI .mul (.int 104729) (.int (a/(ns.length:Int)))=AA (.int (104729*(a/(ns.length:Int)))):=zaD ⋯;have ix:∀st,idxV st (.lst (ns.map .int)) (.int (a%(ns.length:Int)))=AA (.int v):=λ_=>hv;refine#[104729*(a/(ns.length:Int))+v,?_];rw[hb];generalize flT=F,ns.map PV.int=L at *;simp! [yas,i0,i1,bt,m31,hl,c0,d1,d2,m1,ix]
 cases c:(decide (a ≥ (ns.length:Int)) || decide (v<1000000000000000000))with
 |true=>
  let#[q,hq]:=mixed k v (st.set n (flS (.lst (ns.map .int)) (a+1) p AC));refine#[q,AC,?_];rw[zr hT rfl rfl];have e:=zgO k n h hl c (λ_=>hq) (λh=>nomatch h);rw[<-hv]at e;exact(congrArg _ e).trans rfl
 |false=>
  refine#[v-1000000000000000000,AB,?_];rw[zr hT rfl rfl];have e:=zgO k n h hl c (λh=>nomatch h) (λ_=>rfl);rw[<-hv]at e;exact(congrArg _ e).trans rfl
abbrev cM:Nat:=21
abbrev sw:Str:=AF "w"
abbrev sws:Str:=AF "words"
abbrev smk:Str:=AF "marked"
def mob(w:Int)(L:Nat)(mk:Int):Ob:=.ins cM [(sw,.int w),(sws,.loc L),(smk,.int mk)]
structure MM(st:SO)(m l:Nat)(w:Int)(M:Mem)(mk:Int)(L:Nat):Prop where
 o:st[m]?=AA (mob w l mk)
 d:Dc st l M L
 ne:m≠l
def zrK{w mk:Int}{L:Nat}:([(sw,PV.int w),(sws,.loc L),(smk,.int mk)]:List (AQ×PV)).lookup sw=AA (.int w):=by ac_rfl
def zrL{w mk:Int}{L:Nat}:([(sw,PV.int w),(sws,.loc L),(smk,.int mk)]:List (AQ×PV)).lookup sws=AA (.loc L):=by ac_rfl
def zrM{w mk:Int}{L:Nat}:([(sw,PV.int w),(sws,.loc L),(smk,.int mk)]:List (AQ×PV)).lookup smk=AA (.int mk):=by ac_rfl
section
variable {st:SO}{m l L:Nat}{w mk:Int}{M:Mem}
theorem MM.fw(h:MM st m l w M mk L):ybb cM st (.loc m) sw=AA (.int w):=by erw[ybb,h.o,mob,if_true];exact zrK
theorem MM.fd(h:MM st m l w M mk L):ybb cM st (.loc m) sws=AA (.loc l):=by erw[ybb,h.o,mob,if_true];exact zrL
theorem MM.fm(h:MM st m l w M mk L):ybb cM st (.loc m) smk=AA (.int mk):=by erw[ybb,h.o,mob,if_true];exact zrM
theorem MM.ins(h:MM st m l w M mk L)(n:AQ)(hm:(([(sw,PV.non),(sws,.non),(smk,.non)]:List (AQ×PV)).lookup n).isNone=true:=by decide +kernel):ycn cM n st (.loc m)=AA true:=by
 have e:([(sw,PV.int w),(sws,.loc l),(smk,.int mk)]:List (AQ×PV)).lookup n=none:=by
  erw[CC]at hm ⊢
  cases h1:n==sw with
  |true=>rw[h1]at hm;cases hm
  |false=>
   rw[h1]at hm
   cases h2:n==sws with
   |true=>rw[h2]at hm;cases hm
   |false=>
    rw[h2]at hm
    cases h3:n==smk with
    |true=>rw[h3]at hm;cases hm
    |false=>rfl
 erw[ycn,h.o,mob];rw[if_pos #[trivial,e]]
def zpm{v:Int}:yb4 smk (.int v) [(sw,PV.int w),(sws,.loc L),(smk,.int mk)]=[(sw,.int w),(sws,.loc L),(smk,.int v)]:=by ac_rfl
theorem Dc.set_ne{n:Nat}(h:Dc st l M L)(hn:n≠l)(o:Ob):Dc (st.set n o) l M L:=by let#[kvs,h1,h2]:=h.ex;exact#[kvs,by rw[AO hn];exact h1,h2]
theorem Dc.le{L':Nat}(h:Dc st l M L)(hL:L<=L'):Dc st l M L':=by let#[kvs,h1,h2,h3,h4]:=h.ex;exact#[kvs,h1,h2,h3,BZ h4 hL]
theorem MM.sm(h:MM st m l w M mk L)(v:Int):ybd cM st (.loc m) smk (.int v)=AA (st.set m (mob w l v))/\MM (st.set m (mob w l v)) m l w M v L:=by refine#[?_,#[rdS h.o,h.d.set_ne h.ne _,h.ne]];erw[ybd,h.o,mob];rw[if_pos #[trivial,by simp],zpm]
theorem MM.sd(h:MM st m l w M mk L)(hL:L<999999)(c:Cel)(v:Int):∃st',ybs st (.loc l) (yC c) (.int v)=AA st'/\(∃o,st'=st.set l o)/\MM st' m l w (wr M c v) mk (L+1):=by let#[kvs,e,d]:=zkc h.d hL c.1 c.2 v;exact#[_,e,#[_,rfl],by rw[AO (B0 h.ne)];exact h.o,d,h.ne]
def zcH(k:Nat)(h:MM st m l w M mk L)(c:Cel):yd T (k+1) yT [.loc m,yC c] st=.ok (.int (rd M c)) st:=by
 have hT:T yT=AA yif:=rfl;have g:ycy .get st (.loc l) [yC c,.int 0]=.ok (.int (rd M c)) st:=zkW h.d c.1 c.2;have o:yaX .get st (.loc l)=AA true:=by let#[kvs,h1,_]:=h.d.ex;simp[yaX,ybl,h1]
 rw[zr hT rfl rfl];generalize yC c=q at *;simp! [yif,h.fd,o,g,zbM,IC.ve32]
end
theorem highest(k n:Nat)(hn:n<=100)(s:SO):yd T (k+1) yiT [.int n] s=.ok (.int (2^n-1)) s:=by
 have hT:T yiT=AA yh3:=rfl;have hs:yI .shl (.int 1) (.int (n:Int))=AA (.int (2^n)):=by erw[yI,binI];rw[if_pos #[by lia,by lia,by decide]];simp
 rw[zd hT rfl rfl rfl];simp! [yh3,zlY,hs]
def zaN{st s:SO}{a b:Int}:ybK st (.rt (.tp AB [.int a,.int b]) s)=.ok (.tp AB [.int a,.int b]) st:=rfl
section
variable {x y m:Int}{n:Nat}(hn:n<=100)(hn1:1<=n)(k:Nat)(st:SO)
def znv:yI .shr (.int x) (.int (n:Int))=AA (.int (x/2^n)):=by erw[yI,binI];rw[if_pos ()];simp
theorem band(a b:Int):yI .band (.int a) (.int b)=AA (.int (BC a b)):=rfl
def zoL{x y:Int}(hx:0<=x)(hy:0<=y):BC x y=((x.toNat &&& y.toNat:Nat):Int):=by simp[BC,hx,hy]
def zoT{x y:Int}(hx:¬0<=x)(hy:0<=y):BC x y=y-((y.toNat &&& (FT x).toNat:Nat):Int):=by simp[BC,hx,hy]
def zes(a:Int):BC a (2^n-1)=a%2^n:=by
 have hp:(0:Int)<2^n:=AY ⋯;have hc:((2^n:Nat):Int)=2^n:=by simp
 have ht:((2:Int)^n-1).toNat=2^n-1:=by lia
 by_cases h:0<=a
 .rw[zoL h (),ht,Bz,Ga,hc,EA h]
 .have hb:FT a=-a-1:=rfl;rw[zoT h (),ht,Nat.and_comm,Bz,Ga,hc,hb,EA ()];have e:=As (-a-1) (2^n);have r0:=Ab (-a-1) (show (2:Int)^n≠0 by lia);have r1:=AX (-a-1) hp;generalize (-a-1)%2^n=r,(-a-1)/2^n=q at *;generalize (2:Int)^n=P at *;have m:P*(-q-1)=-(P*q)-P:=by rw[CG,Gh,CT]
  rw[show a=(P-1-r)+P*(-q-1)by lia,B5,AM () ()]
include hn
def zl6:yd T (k+1) yiU [.int n,.int x,.int y,.int m] st=.ok (.tp AB [.int x,.int m]) st:=by have hT:T yiU=AA yh4:=rfl;rw[zd hT rfl rfl rfl];simp! [yh4,zaN]
def zmv:yd T (k+2) yiV [.int n,.int x,.int y,.int m] st=.ok (.tp AB [.int (2^n-1-x),.int m]) st:=by have hT:T yiV=AA yh5:=rfl;have e:=highest k n hn;rw[zd hT rfl rfl rfl];simp! [yh5,zaN,e]
def zgp:yd T (k+2) yiW [.int n,.int x,.int y,.int m] st=.ok (.tp AB [.int ((x+y+m)%2^n),.int ((x+y+m)/2^n)]) st:=by have hT:T yiW=AA yh6:=rfl;have e:=highest k n hn;rw[zd hT rfl rfl rfl];simp! [yh6,zaN,e,band,znv,zes]
def znp:yd T (k+2) yiX [.int n,.int x,.int y,.int m] st=.ok (.tp AB [.int ((x-y-m)%2^n),.int (if x-y-m<0 then 1 else 0)]) st:=by
 have hT:T yiX=AA yhI:=rfl;have e:=highest k n hn;rw[zd hT rfl rfl rfl]
 by_cases c:x-y-m<0
 .have hc:yP .lt (.int (x-y-m)) (.int 0)=AA (.bl AC):=by simp[yP,yb9,c]
  rw[if_pos c];have hd:decide (x-y-m<0)=true:=decide_eq_true c;simp! [yhI,zaN,e,band,zes,hd]
 .rw[if_neg c];have hd:decide (x-y-m<0)=false:=decide_eq_false c;simp! [yhI,zaN,e,band,zes,hd]
def zpG:yd T (k+1) yiY [.int n,.int x,.int y,.int m] st=.ok (.tp AB [.int (BC x y),.int m]) st:=by have hT:T yiY=AA yh7:=rfl;rw[zd hT rfl rfl rfl];simp! [yh7,zaN,zqn]
def zqq:yd T (k+1) yiZ [.int n,.int x,.int y,.int m] st=.ok (.tp AB [.int (BB x y),.int m]) st:=by have hT:T yiZ=AA yh8:=rfl;rw[zd hT rfl rfl rfl];simp! [yh8,zaN,zrj]
def zqQ:yd T (k+1) yi0 [.int n,.int x,.int y,.int m] st=.ok (.tp AB [.int (BO x y),.int m]) st:=by have hT:T yi0=AA yh9:=rfl;rw[zd hT rfl rfl rfl];simp! [yh9,zaN,zqz]
def zji:yd T (k+3) yi1 [.int n,.int x,.int y,.int m] st=.ok (.tp AB [.int ((x+x+m)%2^n),.int ((x+x+m)/2^n)]) st:=by have hT:T yi1=AA yia:=rfl;have e:=zgp (x:=x) (y:=x) (m:=m) hn k;rw[zd hT rfl rfl rfl];simp! [yia,zaN,e]
include hn1
def zmY(x0:0<=x)(x1:x<2^n)(m0:0<=m)(m1:m<2):BB (x/2) (m*2^(n-1))=x/2+m*(2^n/2):=by
 obtain⟨n',rfl⟩:∃n',n=n'+1:=#[n-1,by lia];let#[a,rfl]:=zdK x0;let#[b,rfl]:=zdK m0;have e1:((a:Int)/2)=((a/2:Nat):Int):=by lia
 have e2:((b:Int)*2^(n'+1-1))=((2^n' * b:Nat):Int):=by rw[show n'+1-1=n' from rfl,A3];simp
 have hp:(2:Int)^(n'+1)=2*2^n':=by rw[A5,A3]
 have ha:a/2<2^n':=by
  have:(a:Int)<2*2^n':=by rw[<-hp];exact x1
  have h3:((2^n':Nat):Int)=2^n':=by simp
  lia
 rw[e1,e2,zcQ,Nat.or_comm,<-Nat.two_pow_add_eq_or_of_lt ha,hp,Int.mul_ediv_cancel_left _ ⋯];have h3:((2^n' * b:Nat):Int)=b*2^n':=by rw[A3];simp
 rw[Int.natCast_add,h3,Cz]
def zkq(x0:0<=x)(x1:x<2^n)(m0:0<=m)(m1:m<2):yd T (k+1) yi2 [.int n,.int x,.int y,.int m] st=.ok (.tp AB [.int (x/2+m*(2^n/2)),.int (x%2)]) st:=by
 have hT:T yi2=AA yib:=rfl;have h1:yI .shr (.int x) (.int 1)=AA (.int (x/2)):=by have:=znv (x:=x) (n:=1);simpa using this
 have h2:yI .shl (.int m) (.int ((n:Int)-1))=AA (.int (m*2^(n-1))):=by
  erw[yI,binI];rw[if_pos #[by lia,by lia,by lia]]
  congr 3
  congr 1
  lia
 have h3:BC x 1=x%2:=zes (n:=1) x;rw[zd hT rfl rfl rfl];simp! [yib,zaN,h1,h2,zrj,zmY hn hn1 x0 x1 m0 m1,band,h3]
end
def zjT{j:Nat}{k:Nat->Fl}:yfG (AA j) k=k j:=rfl
theorem made{s:AQ}{j:Nat}(hj:mkV yi AC (.str s)=AA j)(k:Nat)(st:SO){n x y m a b:Int}(e:yd T k j [.int n,.int x,.int y,.int m] []=.ok (.tp AB [.int a,.int b]) []):
  yd T (k+1) yiS [.str s,.int n,.int x,.int y,.int m] st=.ok (.tp AB [.int a,.int b]) st:=by have hT:T yiS=AA yh2:=rfl;have hd:decide (5<6)=true:=rfl;rw[zd hT rfl rfl rfl];erw[yh2,AL,Ah,Co,BI,Ak,BF,xs_cons,zqC,IC.ve2,Ao,fl_ok];simp! [hd,hj,zjT,e,zaN]
def zkv:mkV yi AC (.str "move")=AA yiU/\mkV yi AC (.str "bare")=AA yiV/\mkV yi AC (.str "sum")=AA yiW/\mkV yi AC (.str "less")=AA yiX/\mkV yi AC (.str "both")=AA yiY /\
  mkV yi AC (.str "any")=AA yiZ/\mkV yi AC (.str "odd")=AA yi0/\mkV yi AC (.str "twice")=AA yi1/\mkV yi AC (.str "half")=AA yi2:=by refine#[?_,?_,?_,?_,?_,?_,?_,?_,?_]<;>decide +kernel
def zrN{i j:Nat}{k:Bool}{a b:PV}{U:IC.Env}:yU (.t [i,j]) (.tp k [a,b]) U=AA ((U.set i (AA a)).set j (AA b)):=rfl
def zrO{call:Cl}{U:IC.Env}{st:SO}:ev call U st (.neg (.cst (.int 1)))=.ok (.int (-1)) st:=by erw[ev,R.bind]
def okM(r:R PV)(st:SO)(m l:Nat)(w:Int)(M':Mem)(mk':Int)(L':Nat):Prop:=∃st',MM st' m l w M' mk' L'/\(∀n,n≠m->n≠l->st'[n]?=st[n]?)/\st'.length=st.length/\r=.ok .non st'
section
variable {st:SO}{m l L n:Nat}{mk:Int}{M:Mem}
def za4(k:Nat)(h:MM st m l n M mk L)(hL:L<999999){s:AQ}{j:Nat}(hj:mkV yi AC (.str s)=AA j){t x z:Cel}{r:List PV}
  (hlast:∀st,idxV st (.tp AB (.str s::yC t::yC x::r)) (.int (-1))=AA (yC z)) {v m':Int} (e:yd T (k+3) j [.int n,.int (rd M x),.int (rd M z),.int mk] []=.ok (.tp AB [.int v,.int m']) []):
  okM (yd T (k+5) yi5 [.loc m,.tp AB (.str s::yC t::yC x::r)] st) st m l n (wr M t v) m' (L+1):=by
 have hT:T yi5=AA yih:=rfl;have e1:yd T (k+4) yT [.loc m,yC x] st=.ok (.int (rd M x)) st:=zcH (k+3) h x;have e2:yd T (k+4) yT [.loc m,yC z] st=.ok (.int (rd M z)) st:=zcH (k+3) h z;have e3:yd T (k+4) yiS [.str s,.int n,.int (rd M x),.int (rd M z),.int mk] st=_:=made hj (k+3) st e;have ih:=h.ins (AF "held_in");let#[s1,d1,#[o,ho],h1]:=h.sd hL t v;let#[d2,h2]:=h1.sm m';refine#[_,h2,λq a b=>?_,by simp[ho],?_]
 .rw[AO (B0 a),ho,AO (B0 b)]
 rw[zr hT rfl rfl];generalize yC t=ct,yC x=cx,yC z=cz at *;simp! [yih,ih,ix0,ix1,ix2,e1,zrO,hlast,e2,zrN,h.fw,h.fm,e3,h.fd,zgu,d1,zaw,zf6,d2,DN,IC.ve32,IC.ve37];rfl
end
section
variable {st:SO}{m l L n:Nat}{mk:Int}{M:Mem}
def zb8(k:Nat){s:AQ}{r:List PV}{M':Mem}{mk':Int}{L':Nat}(h:MM st m l n M mk L)(q1:yP .eq (.str s) (.str "mark")=AA (.bl AB))(q2:yP .eq (.str s) (.str "ask")=AA (.bl AB))(q3:yP .eq (.str s) (.str "set")=AA (.bl AB))(q4:yP .eq (.str s) (.str "times")=AA (.bl AB))
  (g:okM (yd T (k+5) yi5 [.loc m,.tp AB (.str s::r)] st) st m l n M' mk' L'):okM (yd T (k+6) yv [.loc m,.tp AB (.str s::r)] st) st m l n M' mk' L':=by have hT:T yv=AA yk:=rfl;let#[st',g1,g2,g3,e]:=g;refine#[st',g1,g2,g3,?_];have ih:=h.ins (AF "go_made");rw[zr hT rfl rfl];simp! [yk,ix0,q1,q2,q3,q4,ih,e,IC.ve37];rfl
theorem MM.le{L':Nat}{w:Int}(h:MM st m l w M mk L)(hL:L<=L'):MM st m l w M mk L':=#[h.o,h.d.le hL,h.ne]
def zmk(k:Nat)(h:MM st m l n M mk L)(d:Int):okM (yd T (k+6) yv [.loc m,yM (.mark d)] st) st m l n M d (L+1):=by
 have hT:T yv=AA yk:=rfl;let#[d2,h2]:=h.sm d;refine#[_,h2.le (),λq a b=>by rw[AO (B0 a)],by simp,?_];have q:yP .eq (.str "mark") (.str "mark")=AA (.bl AC):=by ac_rfl
 rw[zr hT rfl rfl];simp! [yk,yM,ix0,ix1,q,zf6,d2,zaw];rfl
def zn1(k:Nat)(h:MM st m l n M mk L)(x:Cel):okM (yd T (k+6) yv [.loc m,yM (.ask x)] st) st m l n M (bi (!(rd M x==0))) (L+1):=by
 have hT:T yv=AA yk:=rfl;let#[d2,h2]:=h.sm (bi (!(rd M x==0)));refine#[_,h2.le (),λq a b=>by rw[AO (B0 a)],by simp,?_];have q:yP .eq (.str "ask") (.str "mark")=AA (.bl AB):=by ac_rfl
 have q2:yP .eq (.str "ask") (.str "ask")=AA (.bl AC):=by ac_rfl
 have e1:yd T (k+5) yT [.loc m,yC x] st=.ok (.int (rd M x)) st:=zcH (k+4) h x;have ih:=h.ins (AF "held_in");rw[zr hT rfl rfl];erw[yM];generalize yC x=cx at *
 cases e:(rd M x==0)with
 |true=>
  rw[e]at d2;have d2:ybd cM st (.loc m) smk (.int 0)=_:=d2;simp! [yk,ix0,ix1,q,q2,ih,e1,e,zf6,d2,zaw,IC.ve37];rfl
 |false=>
  rw[e]at d2;have d2:ybd cM st (.loc m) smk (.int 1)=_:=d2;simp! [yk,ix0,ix1,q,q2,ih,e1,e,zf6,d2,zaw,IC.ve37];rfl
def zoc(k:Nat)(h:MM st m l n M mk L)(hL:L<999999)(t:Cel)(d:Int):okM (yd T (k+6) yv [.loc m,yM (.set t d)] st) st m l n (wr M t d) mk (L+1):=by
 have hT:T yv=AA yk:=rfl;let#[s1,d1,#[o,ho],h1]:=h.sd hL t d;refine#[_,h1,λq a b=>by rw[ho,AO (B0 b)],by simp[ho],?_];have q:yP .eq (.str "set") (.str "mark")=AA (.bl AB):=by ac_rfl
 have q2:yP .eq (.str "set") (.str "ask")=AA (.bl AB):=by ac_rfl
 have q3:yP .eq (.str "set") (.str "set")=AA (.bl AC):=by ac_rfl
 rw[zr hT rfl rfl];erw[yM];generalize yC t=ct at *;simp! [yk,ix0,ix1,ix2,q,q2,q3,h.fd,zgu,d1,zaw,IC.ve32];rfl
def zq9{s a b:PV}:∀st,idxV st (.tp AB [s,a,b]) (.int (-1))=AA b:=λst=>rfl
def zq3{s a b c:PV}:∀st,idxV st (.tp AB [s,a,b,c]) (.int (-1))=AA c:=λst=>rfl
def znf(a:Int):(if a<0 then(1:Int)else 0)=bi (decide (a<0)):=by by_cases h:a<0<;>simp[h,bi]
theorem okM.le{R:R PV}{w:Int}{L':Nat}(h:okM R st m l w M mk L)(hL:L<=L'):okM R st m l w M mk L':=by let#[s,a,b,c,d]:=h;exact#[s,a.le hL,b,c,d]
def zkn(k:Nat)(h:MM st m l n M mk L)(hL:L+1<999999)(hn:n<=100)(a b x y:Cel)(hx:(rd M x).natAbs<18446744073709551616):okM (yd T (k+6) yv [.loc m,yM (.times a b x y)] st) st m l n (wr (wr M a (rd M x*rd M y%2^n)) b (rd M x*rd M y/2^n)) mk (L+2):=by
 have hT:T yv=AA yk:=rfl;have hT2:T yki=AA yig:=rfl;let#[s1,d1,#[o1,ho1],h1]:=h.sd () a (rd M x*rd M y%2^n);let#[s2,d2,#[o2,ho2],h2]:=h1.sd () b (rd M x*rd M y/2^n);refine#[s2,h2,λq _ c=>by rw[ho2,AO (B0 c),ho1,AO (B0 c)],by simp[ho1,ho2],?_];have q1:yP .eq (.str "times") (.str "mark")=AA (.bl AB):=by ac_rfl
 have q2:yP .eq (.str "times") (.str "ask")=AA (.bl AB):=by ac_rfl
 have q3:yP .eq (.str "times") (.str "set")=AA (.bl AB):=by ac_rfl
 have q4:yP .eq (.str "times") (.str "times")=AA (.bl AC):=by ac_rfl
 have ix:∀(st:SO) (a b c d e:PV),idxV st (.tp AB [a,b,c,d,e]) (.int 1)=AA b/\idxV st (.tp AB [a,b,c,d,e]) (.int 2)=AA c/\idxV st (.tp AB [a,b,c,d,e]) (.int 3)=AA d/\idxV st (.tp AB [a,b,c,d,e]) (.int 4)=AA e:=λ_ _ _ _ _ _=>#[rfl,rfl,rfl,rfl];have ih:=h.ins (AF "go_times");have ih2:=h.ins (AF "held_in");have e1:=zcH (k+3) h x;have e2:=zcH (k+3) h y;have e3:=λs=>highest (k+3) n hn s;have bm:=zaD (i:=rd M x) (j:=rd M y) hx;have f1:=h.fw;have f2:=h.fd;have f3:=h1.fw;have f4:=h1.fd;have g:yd T (k+5) yki [.loc m,yM (.times a b x y)] st=.ok .non s2:=by rw[zr hT2 rfl rfl];erw[yM];generalize rd M x*rd M y=p,yC a=ca,yC b=cb,yC x=cx,yC y=cy at *;simp! [yig,ih2,e1,e2,e3,ix,bm,f1,f2,f3,f4,band,zes,znv,zgu,d1,d2,zaw,IC.ve32,IC.ve37];rfl
 rw[zr hT rfl rfl];erw[yM]at g ⊢;simp! [yk,ix0,q1,q2,q3,q4,ih,g,IC.ve37];rfl
def zpO(k:Nat)(h:MM st m l n M mk L)(hL:L+1<999999)(hn:n<=100)(hn1:1<=n)(r:Rw)(hh:∀t x,r=.half t x->0<=rd M x/\rd M x<2^n/\0<=mk/\mk<2)(ht:∀a b x y,r=.times a b x y->(rd M x).natAbs<18446744073709551616):
  okM (yd T (k+6) yv [.loc m,yM r] st) st m l n (stepM (2^n) M mk r).1 (stepM (2^n) M mk r).2 (L+2):=by
 have hL':L<999999:=by lia
 have up:=λ{R:R PV} {M':Mem} {mk':Int} (h:okM R st m l n M' mk' (L+1))=>h.le (show L+1<=L+2 by lia);let#[j1,j2,j3,j4,j5,j6,j7,j8,j9]:=zkv
 cases r with
 |mark d=>exact up (zmk k h d)
 |ask x=>exact up (zn1 k h x)
 |set t d=>exact up (zoc k h hL' t d)
 |move t x=>exact up (zb8 k h (by ac_rfl) (by ac_rfl) (by ac_rfl) (by ac_rfl) (za4 k h hL' j1 zq9 (zl6 hn (k+2) [])))
 |bare t x=>exact up (zb8 k h (by ac_rfl) (by ac_rfl) (by ac_rfl) (by ac_rfl) (za4 k h hL' j2 zq9 (zmv hn (k+1) [])))
 |twice t x=>
  have e:=zji (x:=rd M x) (y:=rd M x) (m:=mk) hn k [];rw[show rd M x+rd M x+mk=2*rd M x+mk by lia]at e;exact up (zb8 k h (by ac_rfl) (by ac_rfl) (by ac_rfl) (by ac_rfl) (za4 k h hL' j8 zq9 e))
 |half t x=>
  let#[a,b,c,d]:=hh t x rfl;exact up (zb8 k h (by ac_rfl) (by ac_rfl) (by ac_rfl) (by ac_rfl) (za4 k h hL' j9 zq9 (zkq hn hn1 (k+2) [] a b c d)))
 |sum t x y=>exact up (zb8 k h (by ac_rfl) (by ac_rfl) (by ac_rfl) (by ac_rfl) (za4 k h hL' j3 zq3 (zgp hn (k+1) [])))
 |less t x y=>
  have e:=znp (x:=rd M x) (y:=rd M y) (m:=mk) hn (k+1) [];rw[znf]at e;exact up (zb8 k h (by ac_rfl) (by ac_rfl) (by ac_rfl) (by ac_rfl) (za4 k h hL' j4 zq3 e))
 |both t x y=>exact up (zb8 k h (by ac_rfl) (by ac_rfl) (by ac_rfl) (by ac_rfl) (za4 k h hL' j5 zq3 (zpG hn (k+2) [])))
 |any t x y=>exact up (zb8 k h (by ac_rfl) (by ac_rfl) (by ac_rfl) (by ac_rfl) (za4 k h hL' j6 zq3 (zqq hn (k+2) [])))
 |odd t x y=>exact up (zb8 k h (by ac_rfl) (by ac_rfl) (by ac_rfl) (by ac_rfl) (za4 k h hL' j7 zq3 (zqQ hn (k+2) [])))
 |times a b x y=>exact zkn k h hL hn a b x y (ht a b x y rfl)
end
abbrev cZ:Cel:=(122,0)
abbrev cS:Cel:=(115,0)
abbrev cT:Cel:=(116,0)
def yG(f:Int->Rw):Nat->List Rw
 |0=>[]
 |n+1=>yG f n++[f n]
def yR(n:Nat)(f:Cel->Cel->Cel->Rw):List Rw:=yG (λi=>f (99,i) (97,i) (98,i)) n
def yE(n:Nat):List Rw:=[.set cS 0]++yG (λi=>Rw.any cS cS (99,i)) n++[.ask cS,.set (109,2) 1,.less (109,2) (109,2) cZ,.twice cT (99,(n:Int)-1),.sum (109,3) cZ cZ]
def yQ(a b c:Cel):List Rw:=[.odd cT a b,.odd cS a c,.both cT cT cS,.twice cT cT,.sum (109,1) cZ cZ]
def yai(n:Nat):List Rw:=[.mark 0]++yR n .sum++[.sum (109,0) cZ cZ]++yQ (99,(n:Int)-1) (97,(n:Int)-1) (98,(n:Int)-1)++yE n
def yaa(n:Nat):List Rw:=[.mark 0]++yG (λi=>.less (99,i) cZ (97,i)) n++[.sum (109,0) cZ cZ]++yQ cZ (97,(n:Int)-1) (99,(n:Int)-1)++yE n
def yg(W:Int):Nat->Int->List Int
 |0,_=>[]
 |n+1,x=>x%W::yg W n (x/W)
def zE(W:Int):∀n x,(yg W n x).length=n
 |0,_=>rfl
 |n+1,x=>by rw[yg,A4,zE]
def yaL(c:Nat):Nat->List Int->Mem->Mem
 |_,[],M=>M
 |i,v::vs,M=>yaL c (i+1) vs (upd M c i v)
def M0:Mem:=λ_ _=>0
def yac(W:Int)(n:Nat)(x y:Int):Mem:=yaL 98 0 (yg W n y) (yaL 97 0 (yg W n x) M0)
def yo(W:Int)(M:Mem)(c:Nat):Nat->Int
 |0=>0
 |n+1=>yo W M c n+M c n*W^n
structure Cx where
 l:Nat
 c:Int
 i:Int
 j:Int
 m:Int
deriving DecidableEq
inductive Op where
 |fig (d:Int)|cel (x:Cx)
deriving DecidableEq
structure Rs where
 nm:AQ
 ops:List Op
deriving DecidableEq
inductive T2 where
 |row (r:Rs)|rounds (c m t:Int) (rs:List Rs)
deriving DecidableEq
inductive T1 where
 |row (r:Rs)|rounds (c m t:Int) (ps:List T2)
deriving DecidableEq
def Cx.at(x:Cx)(I J n:Int):Int:=x.c+x.i*I+x.j*J+x.m*n
def Op.pv(I J n:Int):Op->PV
 |.fig d=>.int d
 |.cel x=>yaj x.l (x.at I J n)
def Rs.pv(r:Rs)(I J n:Int):PV:=.tup (.str r.nm::r.ops.map (Op.pv I J n))
def cnt(c m t w n:Int):Nat:=(c+m*n+t*w*n).toNat
def upTo{A:Type}(f:Nat->List A):Nat->List A
 |0=>[]
 |n+1=>upTo f n++f n
def T2.rows(w n:Int)(I:Nat):T2->List PV
 |.row r=>[r.pv I 0 n]
 |.rounds c m t rs=>upTo (λJ=>rs.map λr=>r.pv I J n) (cnt c m t w n)
def T2.rnd(w n:Int):T2->Nat
 |.row _=>0
 |.rounds c m t _=>cnt c m t w n
def yad(w n:Int)(I:Nat)(ps:List T2):List PV:=ps.flatMap (T2.rows w n I)
def ybr(w n:Int)(ps:List T2):Nat:=(ps.map (T2.rnd w n)).sum
def T1.rows(w n:Int):T1->List PV
 |.row r=>[r.pv 0 0 n]
 |.rounds c m t ps=>upTo (λI=>yad w n I ps) (cnt c m t w n)
def T1.rnd(w n:Int):T1->Nat
 |.row _=>0
 |.rounds c m t ps=>cnt c m t w n*(1+ybr w n ps)
def yD(w n:Int)(ps:List T1):List PV:=ps.flatMap (T1.rows w n)
def yaG(w n:Int)(ps:List T1):Nat:=(ps.map (T1.rnd w n)).sum
def sm(i:Int):Bool:=decide (i.natAbs<=200)
def intOf:PV->Option Int
 |.int i=>AA i
 |_=>AD
def strOf:PV->Option AQ
 |.str s=>AA s
 |_=>AD
def ydh:PV->Option (Bool×List PV)
 |.tp k l=>AA (k,l)
 |_=>AD
def yfe:List PV->Option (PV×PV×PV×PV)
 |[a,b,c,d]=>AA (a,b,c,d)
 |_=>AD
def yeh(l:List PV):Option (Int×Int×Int×Int):=(yfe l).bind λp=>(intOf p.1).bind λi=>(intOf p.2.1).bind λj=>(intOf p.2.2.1).bind λk=>(intOf p.2.2.2).bind λm=>AA (i,j,k,m)
def yfA(l:List PV):Option (Int×Int×Int):=(yeh (l++[.int 0])).bind λz=>AA (z.1,z.2.1,z.2.2.1)
def opC(x y:PV):Option Op:=(strOf x).bind λs=>(ydh y).bind λq=>(yeh q.2).bind λz=>if s=chS (s.cps.getD 0 0)/\(sm z.1&&sm z.2.1&&sm z.2.2.1&&sm z.2.2.2)=AC then AA (.cel #[s.cps.getD 0 0,z.1,z.2.1,z.2.2.1,z.2.2.2])else AD
def yft:List PV->Option (PV×PV)
 |[a,b]=>AA (a,b)
 |_=>AD
def yea(v:PV):Option Op:=match intOf v with
 |some d=>AA (.fig d)
 |none=>(ydh v).bind λp=>(yft p.2).bind λq=>opC q.1 q.2
def ybI:List PV->Option (List Op)
 |[]=>AA []
 |v::vs=>match yea v,ybI vs with
  |some a,AA b=>AA (a::b)
  |_,_=>AD
def rowOf:PV->Option Rs
 |.tp _ (.str nm::vs)=>match ybI vs with
  |some ops=>if vs.length<100 then AA #[nm,ops]else AD
  |none=>AD
 |_=>AD
def ydP(s:AQ):Bool:=decide (s=AF "row")
def yco:PV->Option Rs
 |.tp _ [.str s,v]=>if ydP s then rowOf v else AD
 |_=>AD
def deepOf:List PV->Option (List Rs)
 |[]=>AA []
 |v::vs=>match yco v,deepOf vs with
  |some a,AA b=>AA (a::b)
  |_,_=>AD
def yc6(s:AQ):Bool:=decide (s=AF "rounds")
def ydO(v:PV):Option (Int×Int×Int×List PV):=(ydh v).bind λp=>(yfe p.2).bind λq=>(strOf q.1).bind λs=>(ydh q.2.1).bind λy=>(yfA y.2).bind λc=>(ydh q.2.2.2).bind λu=>if (yc6 s&&(sm c.1&&sm c.2.1&&sm c.2.2))=AC then AA (c.1,c.2.1,c.2.2,u.2)else AD
def part2(v:PV):Option T2:=match ydO v with
 |some z=>(deepOf z.2.2.2).map (.rounds z.1 z.2.1 z.2.2.1)
 |none=>(yco v).map .row
def yaZ:List PV->Option (List T2)
 |[]=>AA []
 |v::vs=>match part2 v,yaZ vs with
  |some a,AA b=>AA (a::b)
  |_,_=>AD
def part1(v:PV):Option T1:=match ydO v with
 |some z=>(yaZ z.2.2.2).map (.rounds z.1 z.2.1 z.2.2.1)
 |none=>(yco v).map .row
def yaV:List PV->Option (List T1)
 |[]=>AA []
 |v::vs=>match part1 v,yaV vs with
  |some a,AA b=>AA (a::b)
  |_,_=>AD
theorem bnd{A B:Type}{o:Option A}{f:A->Option B}{b:B}(h:o.bind f=AA b):∃a,o=AA a/\f a=AA b:=by
 cases o with
 |none=>exact nomatch h
 |some a=>exact#[a,rfl,h]
theorem mpd{A B:Type}{o:Option A}{f:A->B}{b:B}(h:o.map f=AA b):∃a,o=AA a/\b=f a:=by
 cases o with
 |none=>exact nomatch h
 |some a=>have h:AA (f a)=AA b:=h;cases h;exact#[a,rfl,rfl]
def zb5{v:PV}{i:Int}(h:intOf v=AA i):v=.int i:=by
 cases v with
 |int j=>have h:AA j=AA i:=h;cases h;rfl
 |_=>exact nomatch (show AD=AA i from h)
def zgK{v:PV}{i:AQ}(h:strOf v=AA i):v=.str i:=by
 cases v with
 |str j=>have h:AA j=AA i:=h;cases h;rfl
 |_=>exact nomatch (show AD=AA i from h)
def zd1{v:PV}{p:Bool×List PV}(h:ydh v=AA p):v=.tp p.1 p.2:=by
 cases v with
 |tp k l=>have h:AA (k,l)=AA p:=h;cases h;rfl
 |_=>exact nomatch (show AD=AA p from h)
def zil{l:List PV}{p:PV×PV×PV×PV}(h:yfe l=AA p):l=[p.1,p.2.1,p.2.2.1,p.2.2.2]:=by
 rcases l with _|⟨a,_|⟨b,_|⟨c,_|⟨d,_|⟨e,l⟩⟩⟩⟩⟩
 case cons.cons.cons.cons.nil=>have h:AA (a,b,c,d)=AA p:=h;cases h;rfl
 all_goals exact nomatch (show AD=AA p from h)
def zl9{l:List PV}{p:PV×PV}(h:yft l=AA p):l=[p.1,p.2]:=by
 rcases l with _|⟨a,_|⟨b,_|⟨c,l⟩⟩⟩
 case cons.cons.nil=>have h:AA (a,b)=AA p:=h;cases h;rfl
 all_goals exact nomatch (show AD=AA p from h)
def ziq{l:List PV}{z:Int×Int×Int×Int}(h:yeh l=AA z):l=[.int z.1,.int z.2.1,.int z.2.2.1,.int z.2.2.2]:=by
 let#[p,e,h]:=bnd h;let#[i,e1,h]:=bnd h;let#[j,e2,h]:=bnd h;let#[k,e3,h]:=bnd h;let#[m,e4,h]:=bnd h;have h:AA (i,j,k,m)=AA z:=h
 cases h
 rw[zil e,zb5 e1,zb5 e2,zb5 e3,zb5 e4]
def zml{l:List PV}{z:Int×Int×Int}(h:yfA l=AA z):l=[.int z.1,.int z.2.1,.int z.2.2]:=by
 let#[p,e,h]:=bnd h;have e:=ziq e;have h:AA (p.1,p.2.1,p.2.2.1)=AA z:=h
 cases h
 have e:l++[.int 0]=[.int p.1,.int p.2.1,.int p.2.2.1]++[.int p.2.2.2]:=e;exact(List.append_inj' e rfl).1
def zmA{v:PV}{o:Op}(h:yea v=AA o):(∃d,o=.fig d/\v=.int d) \/ ∃a b x,o=.cel x/\v=.tp a [.str (chS x.l),.tp b [.int x.c,.int x.i,.int x.j,.int x.m]]/\x.i.natAbs<=200/\x.j.natAbs<=200/\x.m.natAbs<=200:=by
 unfold yea at h
 cases e:intOf v with
 |some d=>rw[e]at h;have h:AA (Op.fig d)=AA o:=h;cases h;exact .inl #[d,rfl,zb5 e]
 |none=>
  rw[e]at h;let#[p,e1,h]:=bnd h;let#[q,e2,h]:=bnd h;let#[s,e3,h]:=bnd h;let#[y,e4,h]:=bnd h;let#[z,e5,h]:=bnd h
  by_cases c:s=chS (s.cps.getD 0 0)/\(sm z.1&&sm z.2.1&&sm z.2.2.1&&sm z.2.2.2)=AC
  .rw[if_pos c]at h;have q2:=c.2;erw[sm,AK,decide_eq_true_eq]at q2
   cases h
   refine .inr #[p.1,y.1,_,rfl,?_,q2.1.1.2,q2.1.2,q2.2];rw[zd1 e1,zl9 e2,zgK e3,zd1 e4,ziq e5];simp only;rw[<-c.1]
  .rw[if_neg c]at h;cases h
def ziC{v:PV}{z:Int×Int×Int×List PV}(h:ydO v=AA z):∃a b sn d,v=.tp a [.str "rounds",.tp b [.int z.1,.int z.2.1,.int z.2.2.1],sn,.tp d z.2.2.2]/\z.1.natAbs<=200/\z.2.1.natAbs<=200/\z.2.2.1.natAbs<=200:=by
 let#[p,e1,h]:=bnd h;let#[q,e2,h]:=bnd h;let#[s,e3,h]:=bnd h;let#[y,e4,h]:=bnd h;let#[c,e5,h]:=bnd h;let#[u,e6,h]:=bnd h
 by_cases k:(yc6 s&&(sm c.1&&sm c.2.1&&sm c.2.2))=AC
 .rw[if_pos k]at h;erw[yc6,sm,AK,decide_eq_true_eq]at k
  cases h
  refine#[p.1,y.1,q.2.2.1,u.1,?_,k.2.1.1,k.2.1.2,k.2.2];rw[zd1 e1,zil e2,zgK e3,zd1 e4,zml e5,zd1 e6,k.1]
 .rw[if_neg k]at h;cases h
def zkL{v:PV}{r:Rs}(h:rowOf v=AA r):∃a vs,v=.tp a (.str r.nm::vs)/\ybI vs=AA r.ops/\vs.length<100:=by
 unfold rowOf at h;split at h
 .rename_i a nm vs;split at h
  .rename_i ops q;split at h
   .rename_i z
    cases h;exact#[a,vs,rfl,q,z]
   .cases h
  .cases h
 .cases h
def zmL{v:PV}{r:Rs}(h:yco v=AA r):∃a v1,v=.tp a [.str "row",v1]/\rowOf v1=AA r:=by
 unfold yco at h;split at h
 .rename_i a s v1;split at h
  .rename_i q;have q:s=AF "row":=by simpa [ydP] using q
   exact#[a,v1,by rw[q],h]
  .cases h
 .cases h
def zjW{v:PV}{p:T2}(h:part2 v=AA p):(∃r,p=.row r/\yco v=AA r) \/ ∃a b sn d vs c m t rs,p=.rounds c m t rs/\v=.tp a [.str "rounds",.tp b [.int c,.int m,.int t],sn,.tp d vs]/\deepOf vs=AA rs/\c.natAbs<=200/\m.natAbs<=200/\t.natAbs<=200:=by
 unfold part2 at h
 cases e:ydO v with
 |some z=>
  rw[e]at h;let#[a,b,sn,d,hv,hc,hm,ht]:=ziC e;let#[rs,e2,hp]:=mpd (f:=T2.rounds z.1 z.2.1 z.2.2.1) (o:=deepOf z.2.2.2) h;exact .inr #[a,b,sn,d,_,_,_,_,rs,hp,hv,e2,hc,hm,ht]
 |none=>
  rw[e]at h;let#[r,e2,hp]:=mpd (f:=T2.row) (o:=yco v) h;exact .inl #[r,hp,e2]
def zk9{v:PV}{p:T1}(h:part1 v=AA p):(∃r,p=.row r/\yco v=AA r) \/ ∃a b sn d vs c m t ps,p=.rounds c m t ps/\v=.tp a [.str "rounds",.tp b [.int c,.int m,.int t],sn,.tp d vs]/\yaZ vs=AA ps/\c.natAbs<=200/\m.natAbs<=200/\t.natAbs<=200:=by
 unfold part1 at h
 cases e:ydO v with
 |some z=>
  rw[e]at h;let#[a,b,sn,d,hv,hc,hm,ht]:=ziC e;let#[rs,e2,hp]:=mpd (f:=T1.rounds z.1 z.2.1 z.2.2.1) (o:=yaZ z.2.2.2) h;exact .inr #[a,b,sn,d,_,_,_,_,rs,hp,hv,e2,hc,hm,ht]
 |none=>
  rw[e]at h;let#[r,e2,hp]:=mpd (f:=T1.row) (o:=yco v) h;exact .inl #[r,hp,e2]
abbrev cU:Nat:=20
abbrev sn:Str:=AF "n"
abbrev sst:Str:=AF "steps"
abbrev srw:Str:=AF "rows"
abbrev srd:Str:=AF "rounds"
abbrev ufs(w n:Int)(l:Nat)(r q:Int):List (AQ×PV):=[(sw,.int w),(sn,.int n),(sst,.loc l),(srw,.int r),(srd,.int q)]
def uob(w n:Int)(l:Nat)(r q:Int):Ob:=.ins cU (ufs w n l r q)
structure UM(st:SO)(u l:Nat)(w n r q:Int)(xs:List PV):Prop where
 o:st[u]?=AA (uob w n l r q)
 d:st[l]?=AA (.lst xs)
 ne:u≠l
section
variable {st:SO}{u l:Nat}{w n r q:Int}{xs:List PV}
theorem UM.fw(h:UM st u l w n r q xs):ybb cU st (.loc u) sw=AA (.int w):=by erw[ybb,h.o,uob,if_true];ac_rfl
theorem UM.fn(h:UM st u l w n r q xs):ybb cU st (.loc u) sn=AA (.int n):=by erw[ybb,h.o,uob,if_true];ac_rfl
theorem UM.fs(h:UM st u l w n r q xs):ybb cU st (.loc u) sst=AA (.loc l):=by erw[ybb,h.o,uob,if_true];ac_rfl
theorem UM.fr(h:UM st u l w n r q xs):ybb cU st (.loc u) srw=AA (.int r):=by erw[ybb,h.o,uob,if_true];ac_rfl
theorem UM.fq(h:UM st u l w n r q xs):ybb cU st (.loc u) srd=AA (.int q):=by erw[ybb,h.o,uob,if_true];ac_rfl
theorem UM.sr(h:UM st u l w n r q xs)(v:Int):ybd cU st (.loc u) srw (.int v)=AA (st.set u (uob w n l v q))/\UM (st.set u (uob w n l v q)) u l w n v q xs:=by refine#[?_,rdS h.o,by rw[AO h.ne];exact h.d,h.ne];erw[ybd,h.o,uob];rw[if_pos #[trivial,by simp],show yb4 srw (.int v) (ufs w n l r q)=ufs w n l v q by ac_rfl]
theorem UM.sq(h:UM st u l w n r q xs)(v:Int):ybd cU st (.loc u) srd (.int v)=AA (st.set u (uob w n l r v))/\UM (st.set u (uob w n l r v)) u l w n r v xs:=by refine#[?_,rdS h.o,by rw[AO h.ne];exact h.d,h.ne];erw[ybd,h.o,uob];rw[if_pos #[trivial,by simp],show yb4 srd (.int v) (ufs w n l r q)=ufs w n l r v by ac_rfl]
theorem UM.ap(h:UM st u l w n r q xs)(hx:xs.length<1000000)(v:PV):ycy .append st (.loc l) [v]=.ok .non (st.set l (.lst (xs++[v])))/\UM (st.set l (.lst (xs++[v]))) u l w n r q (xs++[v]):=by refine#[?_,by rw[AO (B0 h.ne)];exact h.o,rdS h.d,h.ne];unfold ycy;erw[yec,h.d];rw[if_pos hx]
theorem UM.ok(h:UM st u l w n r q xs):yaX .append st (.loc l)=AA true:=by simp[yaX,yan,h.d]
theorem UM.ins(h:UM st u l w n r q xs)(x:AQ)(hx:((ufs 0 0 0 0 0).lookup x).isNone=true:=by decide +kernel):ycn cU x st (.loc u)=AA true:=by
 have e:(ufs w n l r q).lookup x=none:=by
  erw[ufs,CC]at hx ⊢
  cases h1:x==sw<;>rw[h1]at hx<;>simp only at hx ⊢<;>try cases hx
  cases h2:x==sn<;>rw[h2]at hx<;>simp only at hx ⊢<;>try cases hx
  cases h3:x==sst<;>rw[h3]at hx<;>simp only at hx ⊢<;>try cases hx
  cases h4:x==srw<;>rw[h4]at hx<;>simp only at hx ⊢<;>try cases hx
  cases h5:x==srd<;>rw[h5]at hx<;>simp only at hx ⊢<;>try cases hx
 erw[ycn,h.o,uob];rw[if_pos #[trivial,e]]
def ziO(k:Nat)(h:UM st u l w n r q xs)(hq:q+1<=4000):∃s,yd T (k+1) yiO [.loc u] st=.ok .non s/\UM s u l w n r (q+1) xs:=by have hT:T yiO=AA y8:=rfl;let#[d,h2]:=h.sq (q+1);have c:decide (q+1 > 4000)=false:=decide_eq_false ();have vM:yjh=.int 4000:=rfl;refine#[_,?_,h2];rw[zr hT rfl rfl];have f1:=h.fq;have f2:=h2.fq;simp! [y8,f1,zf6,d,zaw,f2,vM,c,IC.ve32,zbM];rfl
def zfG(k:Nat):∀(G:List Int),G.length<=2->∀s:SO,yd T (k+1) yit [.tp AB (G.map .int)] s=.ok (.tp AB [.int (G.headD 0),.int (G.tail.headD 0)]) s
 |[],_,s=>by have hT:T yit=AA yhE:=rfl;rw[zd hT rfl rfl rfl];rfl
 |[a],_,s=>by have hT:T yit=AA yhE:=rfl;rw[zd hT rfl rfl rfl];rfl
 |[a,b],_,s=>by have hT:T yit=AA yhE:=rfl;rw[zd hT rfl rfl rfl];rfl
def zhT(k:Nat)(h:UM st u l w n r q xs)(hx:xs.length<1000000)(sen:PV)(G:List Int)(hG:G.length<=2):∃s,yd T (k+2) yiP [.loc u,sen,.tp AB (G.map .int)] st=.ok .non s/\UM s u l w n r q (xs++[.tp AB [.str "asked",sen,.int (G.headD 0),.int (G.tail.headD 0)]]):=by have hT:T yiP=AA y9:=rfl;have e1:=zfG k G hG st;let#[a,h2]:=h.ap hx (.tp AB [.str "asked",sen,.int (G.headD 0),.int (G.tail.headD 0)]);have bt:∀(i j:Nat) (a b:PV) (U:IC.Env),yU (.t [i,j]) (.tp AB [a,b]) U=AA ((U.set i (AA a)).set j (AA b)):=λ_ _ _ _ _=>rfl;refine#[_,?_,h2];rw[zr hT rfl rfl];have f1:=h.fs;have o:=h.ok;generalize PV.tp AB (G.map .int)=gv at *;simp! [y9,e1,bt,f1,o,a,IC.ve32,zbM];rfl
def zkp(k:Nat)(h:UM st u l w n r q xs)(bb:Bool)(c m t:Int)(b1:yI .mul (.int m) (.int n)=AA (.int (m*n)))(b2:yI .mul (.int t) (.int w)=AA (.int (t*w)))(b3:yI .mul (.int (t*w)) (.int n)=AA (.int (t*w*n))):
  yd T (k+1) yiN [.loc u,.tp bb [.int c,.int m,.int t]] st=.ok (.int (c+m*n+t*w*n)) st:=by have hT:T yiN=AA y6:=rfl;have bt:∀(i j k:Nat) (a b c:PV) (U:IC.Env),yU (.t [i,j,k]) (.tp bb [a,b,c]) U=AA (((U.set i (AA a)).set j (AA b)).set k (AA c)):=λ_ _ _ _ _ _ _=>rfl;rw[zr hT rfl rfl];have f1:=h.fw;have f2:=h.fn;simp! [y6,bt,f1,f2,b1,b2,b3,IC.ve32,zbM]
def zkE(k:Nat){b:Bool}{c i j m I J n:Int}(hi:i.natAbs<=200)(hj:j.natAbs<=200)(hm:m.natAbs<=200)(s:SO):yd T (k+1) ykc [.tp b [.int c,.int i,.int j,.int m],.int n,.int I,.int J] s=.ok (.int (c+i*I+j*J+m*n)) s:=by
 have hT:T ykc=AA yhZ:=rfl;have h1:i.natAbs<18446744073709551616:=by lia
 have h2:j.natAbs<18446744073709551616:=by lia
 have h3:m.natAbs<18446744073709551616:=by lia
 have j2:∀st,idxV st (.tp b [.int c,.int i,.int j,.int m]) (.int 2)=AA (.int j):=λ_=>rfl;have j3:∀st,idxV st (.tp b [.int c,.int i,.int j,.int m]) (.int 3)=AA (.int m):=λ_=>rfl;rw[zd hT rfl rfl rfl];simp! [yhZ,ix0,ix1,j2,j3,zaD h1,zaD h2,zaD h3];rfl
theorem placed(k:Nat){v:PV}{o:Op}(h:yea v=AA o)(I J n:Int)(s:SO):yd T (k+2) ygB [v,.int n,.int I,.int J] s=.ok (o.pv I J n) s:=by
 have hT:T ygB=AA yfk:=rfl;rcases zmA h with⟨d,rfl,rfl⟩|⟨f1,f2,x,rfl,rfl,q1,q2,q3⟩
 .rw[zd hT rfl rfl rfl];have hi:ya6 (.int d) [.tuple]=AA (.bl AB):=rfl;simp! [yfk,hi];rfl
 .have hi:ya6 (.tp f1 [.str (chS x.l),.tp f2 [.int x.c,.int x.i,.int x.j,.int x.m]]) [.tuple]=AA (.bl AC):=rfl;have e:=λs=>zkE k (b:=f2) (c:=x.c) (I:=I) (J:=J) (n:=n) q1 q2 q3 s;rw[zd hT rfl rfl rfl];simp! [yfk,hi,ix0,ix1,e];rfl
def zhb(k:Nat)(x:AQ)(I J n:Int)(s:SO):yd T (k+2) ygB [.str x,.int n,.int I,.int J] s=.ok (.str x) s:=by have hT:T ygB=AA yfk:=rfl;rw[zd hT rfl rfl rfl];have hi:ya6 (.str x) [.tuple]=AA (.bl AB):=rfl;simp! [yfk,hi];rfl
def arC:Ce:=.call ygB (.cons (.var 0) (.cons (.fld cU (.var 3) sn) (.cons (.var 1) (.cons (.var 2) .nil))))
def zgE(k:Nat)(h:UM st u l w n r q xs)(I J:Int):∀(vs:List PV) (ops:List Op),ybI vs=AA ops->yak (yd T (k+2)) [AD,AA (.int I),AA (.int J),AA (.loc u)] (.n 0) (.cst (.bl AC)) arC vs st=.ok (ops.map (Op.pv I J n)) st
 |[],ops,e=>by cases e;exact zb0
 |v::vs,ops,e=>by
  unfold ybI at e;split at e
  .rename_i a b ha hb
   cases e
   have hp:=placed k ha I J n st;have f1:=h.fn;have ih:=zgE k h I J vs b hb;have one:ybp (yd T (k+2)) [AD,AA (.int I),AA (.int J),AA (.loc u)] (.n 0) (.cst (.bl AC)) arC v st=.ok (AA (a.pv I J n)) st:=by simp! [ybp,arC,f1,hp,IC.ve32]
   rw[zaq,one,bd_ok,ih,bd_ok];rfl
  .cases e
def ziw:∀{vs:List PV} {ops:List Op},ybI vs=AA ops->ops.length=vs.length
 |[],ops,e=>by cases e;rfl
 |v::vs,ops,e=>by
  unfold ybI at e;split at e
  .rename_i a b ha hb
   cases e
   rw[A4,A4,ziw hb]
  .cases e
def znn(k:Nat)(h:UM st u l w n r q xs)(hx:xs.length<1000000)(hr:r+1<=4000){v:PV}{rs:Rs}(hv:rowOf v=AA rs)(G:List Int)(hG:G.length<=2)
  (hrow:∀s,yd T (k+2) ygx [rs.pv (G.headD 0) (G.tail.headD 0) n] s=.ok (.bl AC) s):
  ∃s,yd T (k+3) yke [.loc u,v,.tp AB (G.map .int)] st=.ok .non s/\UM s u l w n (r+1) q (xs++[.tp AB [.str "row",rs.pv (G.headD 0) (G.tail.headD 0) n]]):=by
 have hT:T yke=AA y7:=rfl;let#[a,vs,rfl,ho,hl]:=zkL hv;have e1:=zfG (k+1) G hG st;generalize G.headD 0=I,G.tail.headD 0=J at *;have hl2:=ziw ho;have e2:yak (yd T (k+2)) [AD,AA (.int I),AA (.int J),AA (.loc u)] (.n 0) (.cst (.bl AC)) arC (.str rs.nm::vs) st=.ok (.str rs.nm::rs.ops.map (Op.pv I J n)) st:=by
  have hp:=zhb k rs.nm I J n st;have f1:=h.fn;have one:ybp (yd T (k+2)) [AD,AA (.int I),AA (.int J),AA (.loc u)] (.n 0) (.cst (.bl AC)) arC (.str rs.nm) st=.ok (AA (.str rs.nm)) st:=by simp! [ybp,arC,f1,hp,IC.ve32]
  rw[zaq,one,bd_ok,zgE k h I J vs rs.ops ho,bd_ok];rfl
 have e2:yak (yd T (k+2)) [AD,AA (.int I),AA (.int J),AA (.loc u)] (.n 0) (.cst (.bl AC)) (.call ygB (.cons (.var 0) (.cons (.fld cU (.var 3) sn) (.cons (.var 1) (.cons (.var 2) .nil))))) (.str rs.nm::vs) st=_:=e2;let#[d,h2]:=h.sr (r+1);have ht:∀st,yaE .tuple st [.lst (.str rs.nm::rs.ops.map (Op.pv I J n))]=AA (rs.pv I J n):=λ_=>rfl;let#[b,h3]:=h2.ap hx (.tp AB [.str "row",rs.pv I J n]);have bt:∀(i j:Nat) (a b:PV) (U:IC.Env),yU (.t [i,j]) (.tp AB [a,b]) U=AA ((U.set i (AA a)).set j (AA b)):=λ_ _ _ _ _=>rfl;have c:decide (r+1 > 4000)=false:=decide_eq_false ();have vM:yji=.int 4000:=rfl;have f1:=h.fr;have f2:=h2.fr;have f3:=h2.fs;have o:=h2.ok;have lr:=λst=>zcA (.str rs.nm::rs.ops.map (Op.pv I J n)) (by simp[hl2];lia) st;refine#[_,?_,h3];rw[zr hT rfl rfl];generalize PV.tp AB (G.map .int)=gv,PV.str rs.nm::rs.ops.map (Op.pv I J n)=row,rs.pv I J n=rowv at *;simp! [y7,e1,bt,e2,lr,ht,f1,zf6,d,zaw,hrow,f2,vM,c,f3,o,b,IC.ve32,zbM];rfl
end
inductive StR:List PV->List PV->Prop
 |nil:StR [] []
 |row {xs rs v}:nL v=AC->StR xs rs->StR (xs++[.tp AB [.str "row",v]]) (rs++[v])
 |ask {xs rs a b c}:nLs [a,b,c]=AC->StR xs rs->StR (xs++[.tp AB [.str "asked",a,b,c]]) rs
def US(st:SO)(u l:Nat)(w n:Int)(R:List PV)(q:Int)(a:Nat):Prop:=∃xs,UM st u l w n R.length q xs/\StR xs R/\xs.length<=R.length+a
section
variable {st:SO}{u l:Nat}{w n q:Int}{R:List PV}{a:Nat}
def gpB:Css:=match yu.body with
 |.cons (.for _ _ b) _=>b
 |x=>x
def zd9:yP .eq (.str "row") (.str "row")=AA (.bl AC):=by ac_rfl
def zhA:yP .eq (.str "rounds") (.str "row")=AA (.bl AB):=by ac_rfl
def zj0(I J n:Int)(o:Op):nL (o.pv I J n)=true:=by cases o<;>rfl
def zfa(I J n:Int):∀ops:List Op,nLs (ops.map (Op.pv I J n))=AC
 |[]=>rfl
 |o::os=>by rw[AL,nLs,zj0,zfa I J n os];rfl
def zcn(r:Rs)(I J n:Int):nL (r.pv I J n)=true:=by show nLs (PV.str r.nm::r.ops.map (Op.pv I J n))=AC;rw[nLs,zfa];rfl
def zjH(k:Nat)(H:US st u l w n R q a)(hR:R.length+1<=4000)(ha:a<=500000){v:PV}{r:Rs}(hv:yco v=AA r)(G:List Int)(hG:G.length<=2)
  (hrow:∀s,yd T (k+2) ygx [r.pv (G.headD 0) (G.tail.headD 0) n] s=.ok (.bl AC) s) (p1:Option PV):
  ∃s,exs (yd T (k+3)) [AA (.loc u),p1,AA (.tp AB (G.map .int)),AA v] st gpB=.nx [AA (.loc u),p1,AA (.tp AB (G.map .int)),AA v] s/\US s u l w n (R++[r.pv (G.headD 0) (G.tail.headD 0) n]) q a:=by
 let#[xs,h,hs,hx]:=H;let#[b,v1,rfl,h1]:=zmL hv;let#[s,e,h2]:=znn k h () () h1 G hG hrow;have ih:=h.ins (AF "add_row");refine#[s,?_,_,?_,.row (zcn _ _ _ _) hs,by simp;lia]
 .generalize PV.tp AB (G.map .int)=gv at *;simp! [gpB,yu,ix0,ix1,zd9,ih,e,IC.ve37]
 .rw[Al,D6];exact h2
def zia(k:Nat)(I J:Int)(p1:Option PV)(ha:a<=500000):∀(vs:List PV) (rs:List Rs) (st:SO) (R:List PV) (p3:Option PV),deepOf vs=AA rs->US st u l w n R q a->R.length+rs.length<=4000 ->
  (∀r∈rs,∀s,yd T (k+2) ygx [r.pv I J n] s=.ok (.bl AC) s) ->
  ∃s p3',ybj (yd T (k+3)) (.n 3) gpB vs [AA (.loc u),p1,AA (.tp AB [.int I,.int J]),p3] st=.nx [AA (.loc u),p1,AA (.tp AB [.int I,.int J]),p3'] s/\US s u l w n (R++rs.map λr=>r.pv I J n) q a
 |[],rs,st,R,p3,hd,H,_,_=>by
  cases hd
  exact#[st,p3,zL,by simpa using H]
 |v::vs,rs,st,R,p3,hd,H,hl,hrow=>by
  unfold deepOf at hd;split at hd
  .rename_i x y hx hy
   cases hd
   erw[A4]at hl;let#[s1,e1,H1]:=zjH k H () ha hx [I,J] (by simp) (hrow x (by simp)) p1;have e1:exs (yd T (k+3)) [AA (.loc u),p1,AA (.tp AB [.int I,.int J]),AA v] st gpB=.nx [AA (.loc u),p1,AA (.tp AB [.int I,.int J]),AA v] s1:=e1;let#[s2,p3',e2,H2]:=zia k I J p1 ha vs y s1 _ (AA v) hy H1 (by simp;lia) (λr hr=>hrow r (by simp[hr]));refine#[s2,p3',?_,by simpa using H2];rw[zF (U1:=[AA (.loc u),p1,AA (.tp AB [.int I,.int J]),AA v]) rfl,e1];exact e2
  .cases hd
def zjK{A:Type}(f:Nat->List A){i:Nat}:∀n,i<=n->(upTo f i).length<=(upTo f n).length
 |0,h=>by rw[show i=0 by lia];exact AT _
 |n+1,h=>by
  rcases CA i (n+1)with h1|h1
  .have:=zjK f (i:=i) n ();rw[upTo,Al];lia
  .have:i=n+1:=by lia
   rw[this];exact AT _
theorem US.ask(H:US st u l w n R q a)(k:Nat)(ha:a+1<=500000)(hR:R.length<=4000)(sen:PV)(hsn:nL sen=AC)(G:List Int)(hG:G.length<=2):∃s,yd T (k+2) yiP [.loc u,sen,.tp AB (G.map .int)] st=.ok .non s/\US s u l w n R q (a+1):=by let#[xs,h,hs,hx]:=H;let#[s,e,h2]:=zhT k h () sen G hG;exact#[s,e,_,h2,.ask (by simp[nLs,nL,hsn]) hs,by simp;lia]
theorem US.rnd(H:US st u l w n R q a)(k:Nat)(hq:q+1<=4000):∃s,yd T (k+1) yiO [.loc u] st=.ok .non s/\US s u l w n R (q+1) a:=by let#[xs,h,hs,hx]:=H;let#[s,e,h2]:=ziO k h hq;exact#[s,e,_,h2,hs,hx]
theorem US.ins(H:US st u l w n R q a)(x:AQ)(hx:((ufs 0 0 0 0 0).lookup x).isNone=true:=by decide +kernel):ycn cU x st (.loc u)=AA true:=by let#[xs,h,_]:=H;exact h.ins x hx
def grB:Css:=match yw.body with
 |.cons _ (.cons (.for _ _ b) _)=>b
 |x=>x
def zrk:∀(G:List Int),G.length<=1->∀J:Int,yI .add (.tp AB (G.map .int)) (.tp AB [.int J])=AA (.tp AB ((G++[J]).map .int))
 |[],_,J=>rfl
 |[a],_,J=>rfl
def BodyOk(k u l:Nat)(w n:Int)(d:Bool)(vs:List PV)(G:List Int)(f:Nat->List PV)(qn an J:Nat):Prop:=
 ∀(st:SO) (R:List PV) (q:Int) (a:Nat),US st u l w n R q a->R.length+(f J).length<=4000->q+qn<=4000->a+an<=500000 ->
  ∃s,yd T k yiM [.loc u,.tp d vs,.tp AB ((G++[(J:Int)]).map .int)] st=.ok .non s/\US s u l w n (R++f J) (q+qn) (a+an)
def zja(k:Nat){a1 d:Bool}{s0 cn sn:PV}(hsn:nL sn=AC){vs:List PV}{G:List Int}(hG:G.length<=1){f:Nat->List PV}{qn an N:Nat}(hb:∀J<N,BodyOk (k+2) u l w n d vs G f qn an J)
  (hR:R.length+(upTo f N).length<=4000) (hq:q+(N*(1+qn):Nat)<=4000) (ha:a+N*(1+an)<=500000):∀(M j:Nat) (st:SO) (p4:Option PV),j+M=N->US st u l w n (R++upTo f j) (q+(j*(1+qn):Nat)) (a+j*(1+an)) ->
  ∃s p4',ybj (yd T (k+2)) (.n 4) grB (yx M (j:Int) 1) [AA (.loc u),AA (.tp a1 [s0,cn,sn,.tp d vs]),AA (.tp AB (G.map .int)),AA (.int N),p4] st=.nx [AA (.loc u),AA (.tp a1 [s0,cn,sn,.tp d vs]),AA (.tp AB (G.map .int)),AA (.int N),p4'] s/\US s u l w n (R++upTo f N) (q+(N*(1+qn):Nat)) (a+N*(1+an))
 |0,j,st,p4,hj,H=>by
  have:j=N:=by lia
  subst this;exact#[st,p4,by rw[yx];exact zL,H]
 |M+1,j,st,p4,hj,H=>by
  have l1:(upTo f (j+1)).length<=(upTo f N).length:=zjK f N ();rw[upTo,Al]at l1;have m1:(j+1)*(1+qn)<=N*(1+qn):=FU _ ();have m2:(j+1)*(1+an)<=N*(1+an):=FU _ ();have n1:(j+1)*(1+qn)=j*(1+qn)+(1+qn):=GR _ _;have n2:(j+1)*(1+an)=j*(1+an)+(1+an):=GR _ _;let#[s1,e1,H1]:=H.ask k () (by rw[Al];lia) sn hsn (G++[(j:Int)]) (by simp;lia);let#[s2,e2,H2]:=H1.rnd (k+1) ();let#[s3,e3,H3]:=hb j () s2 _ _ _ H2 (by rw[Al];lia) () ();have H3:US s3 u l w n (R++upTo f (j+1)) (q+((j+1)*(1+qn):Nat)) (a+(j+1)*(1+an)):=by
   rw[upTo,<-BJ,n1,n2];have x1:q+((j*(1+qn)+(1+qn):Nat):Int)=q+((j*(1+qn):Nat):Int)+1+(qn:Int):=by lia
   have x2:a+(j*(1+an)+(1+an))=a+j*(1+an)+1+an:=by lia
   rw[x1,x2];exact H3
  let#[s4,p4',e4,H4]:=zja k (a1:=a1) (s0:=s0) (cn:=cn) (sn:=sn) hsn hG hb hR hq ha M (j+1) s3 (AA (.int j)) () H3;refine#[s4,p4',?_,H4];have i1:=H.ins (AF "add_asked");have i2:=H1.ins (AF "add_round");have i3:=H2.ins (AF "go_parts");have c1:=zrk G hG (j:Int);have one:exs (yd T (k+2)) [AA (.loc u),AA (.tp a1 [s0,cn,sn,.tp d vs]),AA (.tp AB (G.map .int)),AA (.int N),AA (.int (j:Int))] st grB=.nx [AA (.loc u),AA (.tp a1 [s0,cn,sn,.tp d vs]),AA (.tp AB (G.map .int)),AA (.int N),AA (.int (j:Int))] s3:=by generalize PV.tp AB (G.map .int)=gv,PV.tp AB ((G++[(j:Int)]).map .int)=gw,PV.tp d vs=pv at *;simp! [grB,yw,ix0,ix1,ix2,ix3,c1,i1,i2,i3,e1,e2,e3,IC.ve37]
  rw[yx,zF (U1:=[AA (.loc u),AA (.tp a1 [s0,cn,sn,.tp d vs]),AA (.tp AB (G.map .int)),AA (.int N),AA (.int (j:Int))]) rfl,one];exact e4
theorem US.cnt(H:US st u l w n R q a)(k:Nat)(bb:Bool){c m t:Int}(hm:m.natAbs<=200)(ht:t.natAbs<=200)(n0:0<=n)(n1:n<=8):yd T (k+1) yiN [.loc u,.tp bb [.int c,.int m,.int t]] st=.ok (.int (c+m*n+t*w*n)) st:=by let#[xs,h,_]:=H;have zcV:∀{i j:Int},j.natAbs<18446744073709551616->yI .mul (.int i) (.int j)=AA (.int (i*j)):=λh=>zkg (.inr h);exact zkp k h bb c m t (zaD ()) (zaD ()) (zcV ())
def zma(z:Int)(s:SO):yaE .max s [.int 0,.int z]=AA (.int ((z.toNat:Nat):Int)):=by
 show AA (PV.int (if 0<z then z else 0))=_;split
 .rw[EA ()]
 .rw[show z.toNat=0 by lia];rfl
def zfB(k:Nat){a1 b d:Bool}{s0 sn:PV}(hsn:nL sn=AC){vs:List PV}{c m t:Int}{G:List Int}(hG:G.length<=1){f:Nat->List PV}{qn an N:Nat}(hN:N=cnt c m t w n)(hm:m.natAbs<=200)(ht:t.natAbs<=200)(n0:0<=n)(n1:n<=8)(hN2:N<1000000)
  (hb:∀J<N,BodyOk (k+2) u l w n d vs G f qn an J) (hR:R.length+(upTo f N).length<=4000) (hq:q+(N*(1+qn):Nat)<=4000) (ha:a+N*(1+an)+1<=500000) (H:US st u l w n R q a):
  ∃s,yd T (k+3) yY [.loc u,.tp a1 [s0,.tp b [.int c,.int m,.int t],sn,.tp d vs],.tp AB (G.map .int)] st=.ok .non s/\US s u l w n (R++upTo f N) (q+(N*(1+qn):Nat)) (a+N*(1+an)+1):=by
 have hT:T yY=AA #[3,5,AB,yw.body]:=rfl;have e1:=H.cnt (k+1) b (c:=c) hm ht n0 n1;have i1:=H.ins (AF "count_of");let#[s1,p4,e2,H2]:=zja k (a1:=a1) (s0:=s0) (cn:=.tp b [.int c,.int m,.int t]) (sn:=sn) (a:=a) (q:=q) (R:=R) hsn hG hb hR hq () N 0 st AD () (by simpa [upTo] using H);let#[s2,e3,H3]:=H2.ask k () (by rw[Al];lia) sn hsn (G++[(N:Int)]) (by simp;lia);have i2:=H2.ins (AF "add_asked");have c1:=zrk G hG (N:Int);have hx:=zma (c+m*n+t*w*n) st;have hz:((c+m*n+t*w*n).toNat:Int)=(N:Int):=by rw[hN];rfl
 rw[hz]at hx;have hr:yb8 (.int (N:Int))=AA (yx N 0 1):=by erw[yb8];rw[if_pos ()];rfl
 have hbd:yw.body=(match yw.body with
  |.cons x (.cons (.for t i _) r)=>.cons x (.cons (.for t i grB) r)
  |x=>x):=rfl
 refine#[s2,?_,H3];rw[zr hT rfl rfl];dsimp only;rw[hbd];have e2:ybj (yd T (k+2)) (.n 4) grB (yx N 0 1) _ st=_:=e2;generalize PV.tp AB (G.map .int)=gv,PV.tp AB ((G++[(N:Int)]).map .int)=gw,PV.tp d vs=pv,PV.tp b [.int c,.int m,.int t]=cv,c+m*n+t*w*n=z at *;simp! [yw,ix0,ix1,ix2,ix3,i1,e1,hx,hr,e2,c1,i2,e3,IC.ve37,zbM];rfl
def zgb(k:Nat){b:Bool}{vs:List PV}{gv:PV}{s:SO}{p3:Option PV}(e:ybj (yd T k) (.n 3) gpB vs [AA (.loc u),AA (.tp b vs),AA gv,AD] st=.nx [AA (.loc u),AA (.tp b vs),AA gv,p3] s):
  yd T (k+1) yiM [.loc u,.tp b vs,gv] st=.ok .non s:=by
 have hT:T yiM=AA #[3,4,AB,yu.body]:=rfl
 have hbd:yu.body=(match yu.body with
  |.cons (.for t i _) r=>.cons (.for t i gpB) r
  |x=>x):=rfl
 rw[zr hT rfl rfl];dsimp only;rw[hbd];simp! [yu,e,zbM];rfl
def zhO(k:Nat){d:Bool}{vs:List PV}{rs:List Rs}(hd:deepOf vs=AA rs)(I:Int)(J:Nat)(hrow:∀r∈rs,∀s,yd T (k+2) ygx [r.pv I J n] s=.ok (.bl AC) s):BodyOk (k+4) u l w n d vs [I] (λJ=>rs.map λr=>r.pv I J n) 0 0 J:=by intro st R q a H h1 h2 h3;let#[s,p3,e,H2]:=zia k (a:=a) (q:=q) I J (AA (.tp d vs)) () vs rs st R AD hd H (by simpa using h1) hrow;exact#[s,zgb (k+3) e,by simpa using H2]
def zlu(k:Nat)(H:US st u l w n R q a){a1:Bool}{r:List PV}{gv:PV}{p1:Option PV}{s:SO}(e:yd T k yY [.loc u,.tp a1 (.str "rounds" :: r),gv] st=.ok .non s):
  exs (yd T k) [AA (.loc u),p1,AA gv,AA (.tp a1 (.str "rounds" :: r))] st gpB=.nx [AA (.loc u),p1,AA gv,AA (.tp a1 (.str "rounds" :: r))] s:=by have ih:=H.ins (AF "go_rounds");simp! [gpB,yu,ix0,zhA,ih,e,IC.ve37]
def ybE(v:PV):Prop:=∀(k:Nat) (s:SO),yd T (10+k) ygx [v] s=.ok (.bl AC) s
def T2.ak(w n:Int):T2->Nat
 |.row _=>0
 |.rounds c m t _=>cnt c m t w n+1
def ak2(w n:Int)(ps:List T2):Nat:=(ps.map (T2.ak w n)).sum
def zfr{c m t w n:Int}(hc:c.natAbs<=200)(hm:m.natAbs<=200)(ht:t.natAbs<=200)(w0:0<=w)(w1:w<=16)(n0:0<=n)(n1:n<=8):(c+m*n+t*w*n).natAbs<1000000:=by
 have h1:(m*n).natAbs<=200*8:=by rw[D1];exact Ad hm ()
 have h2:(t*w*n).natAbs<=200*16*8:=by rw[D1,D1];exact Ad (Ad ht ()) ()
 have h3:=BZ (GS (c+m*n) (t*w*n)) (HF (GS c (m*n)) h2);have h4:c.natAbs+(m*n).natAbs+200*16*8<=200+200*8+200*16*8:=Nat.add_le_add_right (HF hc h1) _;exact ER (BZ h3 h4) ⋯
def zjn{A:Type}{f:Nat->List A}{x:A}:∀{N J:Nat},J<N->x∈f J->x∈upTo f N
 |0,_,h,_=>absurd h ()
 |N+1,J,h,hx=>by
  rw[upTo,BE];rcases CA J N with h1|h1
  .exact .inl (zjn h1 hx)
  .have:J=N:=by lia
   exact .inr (this ▸ hx)
def zpa{a b d:Bool}{x c m t sn:PV}{vs:List PV}(h:nL (.tp a [x,.tp b [c,m,t],sn,.tp d vs])=AC):nL sn=true:=by erw[nL,nLs,AK]at h;exact h.2.2.1
def zqG{a b d:Bool}{x c m t sn:PV}{vs:List PV}(h:nL (.tp a [x,.tp b [c,m,t],sn,.tp d vs])=AC):nLs vs=true:=by erw[nL,nLs,AK]at h;exact h.2.2.2.1
def zbR{v:PV}{vs:List PV}(h:nLs (v::vs)=AC):nL v=AC/\nLs vs=true:=by simpa only[nLs,AK] using h
def zmg(k:Nat)(w0:0<=w)(w1:w<=16)(n0:0<=n)(n1:n<=8)(I:Nat)(p1:Option PV){v:PV}{p:T2}(hv:nL v=AC)(hp:part2 v=AA p)(H:US st u l w n R q a)(hR:R.length+(p.rows w n I).length<=4000)(hq:q+(p.rnd w n:Nat)<=4000)(ha:a+p.ak w n<=500000)(hrow:∀x∈p.rows w n I,ybE x):
  ∃s,exs (yd T (k+13)) [AA (.loc u),p1,AA (.tp AB [.int I]),AA v] st gpB=.nx [AA (.loc u),p1,AA (.tp AB [.int I]),AA v] s/\US s u l w n (R++p.rows w n I) (q+(p.rnd w n:Nat)) (a+p.ak w n):=by
 rcases zjW hp with⟨r,rfl,h1⟩|⟨a1,b,sn,d,vs,c,m,t,rs,rfl,rfl,hd,hc,hm,ht⟩
 .let#[s,e,H2]:=zjH (k+10) H (by simpa [T2.rows] using hR) () h1 [(I:Int)] (by simp) (λs=>by have:=hrow (r.pv I 0 n) (by simp[T2.rows]) (k+2) s;rw[show 10+(k+2)=k+10+2 by lia]at this;exact this) p1
  exact#[s,e,by simpa [T2.rows,T2.rnd,T2.ak] using H2]
 .have hN:cnt c m t w n<1000000:=by have:=zfr hc hm ht w0 w1 n0 n1;erw[cnt];lia
  erw[T2.rows,T2.rnd,T2.ak]at hR hq ha hrow ⊢;let#[s,e,H2]:=zfB (k+10) (a1:=a1) (b:=b) (d:=d) (s0:=.str "rounds") (sn:=sn) (zpa hv) (vs:=vs) (G:=[(I:Int)]) (by simp) (f:=λJ=>rs.map λr=>r.pv I J n) (qn:=0) (an:=0) rfl hm ht n0 n1 hN
   (λJ hJ=>zhO (k+8) hd I J (λr hr s=>by have:=hrow (r.pv I J n) (zjn hJ (DY.2 #[r,hr,rfl])) k s;rw[show 10+k=k+8+2 by lia]at this;exact this)) hR (by simpa using hq) () H
  have e:yd T (k+13) yY [.loc u,.tp a1 [.str "rounds",.tp b [.int c,.int m,.int t],sn,.tp d vs],.tp AB [.int I]] st=.ok .non s:=e;exact#[s,zlu (k+13) H e,by simpa [Dj] using H2]
def zlx(k:Nat)(w0:0<=w)(w1:w<=16)(n0:0<=n)(n1:n<=8)(I:Nat)(p1:Option PV):∀(vs:List PV) (ps:List T2) (st:SO) (R:List PV) (q:Int) (a:Nat) (p3:Option PV),nLs vs=AC->yaZ vs=AA ps->US st u l w n R q a->R.length+(yad w n I ps).length<=4000->q+(ybr w n ps:Nat)<=4000->a+ak2 w n ps<=500000->(∀x∈yad w n I ps,ybE x) ->
  ∃s p3',ybj (yd T (k+13)) (.n 3) gpB vs [AA (.loc u),p1,AA (.tp AB [.int I]),p3] st=.nx [AA (.loc u),p1,AA (.tp AB [.int I]),p3'] s/\US s u l w n (R++yad w n I ps) (q+(ybr w n ps:Nat)) (a+ak2 w n ps)
 |[],ps,st,R,q,a,p3,_,hp,H,_,_,_,_=>by
  cases hp
  exact#[st,p3,zL,by simpa [yad,ybr,ak2] using H]
 |v::vs,ps,st,R,q,a,p3,hv,hp,H,hR,hq,ha,hrow=>by
  unfold yaZ at hp;split at hp
  .rename_i x y hx hy
   cases hp
   have r1:yad w n I (x::y)=x.rows w n I++yad w n I y:=by simp[yad]
   have r2:ybr w n (x::y)=x.rnd w n+ybr w n y:=by simp[ybr]
   have r3:ak2 w n (x::y)=x.ak w n+ak2 w n y:=by simp[ak2]
   rw[r1,Al]at hR;rw[r2]at hq;rw[r3]at ha;rw[r1]at hrow;rw[r1,r2,r3];let#[s1,e1,H1]:=zmg k w0 w1 n0 n1 I p1 (zbR hv).1 hx H () () () (λz hz=>hrow z (by simp[hz]));let#[s2,p3',e2,H2]:=zlx k w0 w1 n0 n1 I p1 vs y s1 _ _ _ (AA v) (zbR hv).2 hy H1 (by rw[Al];lia) () () (λz hz=>hrow z (by simp[hz]));refine#[s2,p3',?_,?_]
   .rw[zF (U1:=[AA (.loc u),p1,AA (.tp AB [.int I]),AA v]) rfl,e1];exact e2
   .rw[<-BJ,<-Dj,show q+((x.rnd w n+ybr w n y:Nat):Int)=q+(x.rnd w n:Nat)+(ybr w n y:Nat)by lia];exact H2
  .cases hp
def zkY(k:Nat)(w0:0<=w)(w1:w<=16)(n0:0<=n)(n1:n<=8){d:Bool}{vs:List PV}{ps:List T2}(hv:nLs vs=AC)(hp:yaZ vs=AA ps)(I:Nat)(hrow:∀x∈yad w n I ps,ybE x):BodyOk (k+14) u l w n d vs [] (λI=>yad w n I ps) (ybr w n ps) (ak2 w n ps) I:=by intro st R q a H h1 h2 h3;let#[s,p3,e,H2]:=zlx k w0 w1 n0 n1 I (AA (.tp d vs)) vs ps st R q a AD hv hp H h1 h2 h3 hrow;exact#[s,zgb (k+13) e,H2]
def T1.ak(w n:Int):T1->Nat
 |.row _=>0
 |.rounds c m t ps=>cnt c m t w n*(1+ak2 w n ps)+1
def ak1(w n:Int)(ps:List T1):Nat:=(ps.map (T1.ak w n)).sum
def znz(k:Nat)(w0:0<=w)(w1:w<=16)(n0:0<=n)(n1:n<=8)(p1:Option PV){v:PV}{p:T1}(hv:nL v=AC)(hp:part1 v=AA p)(H:US st u l w n R q a)(hR:R.length+(p.rows w n).length<=4000)(hq:q+(p.rnd w n:Nat)<=4000)(ha:a+p.ak w n<=500000)(hrow:∀x∈p.rows w n,ybE x):
  ∃s,exs (yd T (k+15)) [AA (.loc u),p1,AA (.tp AB []),AA v] st gpB=.nx [AA (.loc u),p1,AA (.tp AB []),AA v] s/\US s u l w n (R++p.rows w n) (q+(p.rnd w n:Nat)) (a+p.ak w n):=by
 rcases zk9 hp with⟨r,rfl,h1⟩|⟨a1,b,sn,d,vs,c,m,t,ps,rfl,rfl,hd,hc,hm,ht⟩
 .let#[s,e,H2]:=zjH (k+12) H (by simpa [T1.rows] using hR) () h1 [] (by simp) (λs=>by have:=hrow (r.pv 0 0 n) (by simp[T1.rows]) (k+4) s;rw[show 10+(k+4)=k+12+2 by lia]at this;exact this) p1
  exact#[s,e,by simpa [T1.rows,T1.rnd,T1.ak] using H2]
 .have hN:cnt c m t w n<1000000:=by have:=zfr hc hm ht w0 w1 n0 n1;erw[cnt];lia
  erw[T1.rows,T1.rnd,T1.ak]at hR hq ha hrow ⊢;let#[s,e,H2]:=zfB (k+12) (a1:=a1) (b:=b) (d:=d) (s0:=.str "rounds") (sn:=sn) (zpa hv) (vs:=vs) (G:=[]) (by simp) (f:=λI=>yad w n I ps) (qn:=ybr w n ps) (an:=ak2 w n ps) rfl hm ht n0 n1 hN
   (λJ hJ=>zkY k w0 w1 n0 n1 (zqG hv) hd J (λz hz=>hrow z (zjn hJ hz))) hR hq () H
  have e:yd T (k+15) yY [.loc u,.tp a1 [.str "rounds",.tp b [.int c,.int m,.int t],sn,.tp d vs],.tp AB []] st=.ok .non s:=e;exact#[s,zlu (k+15) H e,by rw[<-Dj];exact H2]
def zlB(k:Nat)(w0:0<=w)(w1:w<=16)(n0:0<=n)(n1:n<=8)(p1:Option PV):∀(vs:List PV) (ps:List T1) (st:SO) (R:List PV) (q:Int) (a:Nat) (p3:Option PV),nLs vs=AC->yaV vs=AA ps->US st u l w n R q a->R.length+(yD w n ps).length<=4000->q+(yaG w n ps:Nat)<=4000->a+ak1 w n ps<=500000->(∀x∈yD w n ps,ybE x) ->
  ∃s p3',ybj (yd T (k+15)) (.n 3) gpB vs [AA (.loc u),p1,AA (.tp AB []),p3] st=.nx [AA (.loc u),p1,AA (.tp AB []),p3'] s/\US s u l w n (R++yD w n ps) (q+(yaG w n ps:Nat)) (a+ak1 w n ps)
 |[],ps,st,R,q,a,p3,_,hp,H,_,_,_,_=>by
  cases hp
  exact#[st,p3,zL,by simpa [yD,yaG,ak1] using H]
 |v::vs,ps,st,R,q,a,p3,hv,hp,H,hR,hq,ha,hrow=>by
  unfold yaV at hp;split at hp
  .rename_i x y hx hy
   cases hp
   have r1:yD w n (x::y)=x.rows w n++yD w n y:=by simp[yD]
   have r2:yaG w n (x::y)=x.rnd w n+yaG w n y:=by simp[yaG]
   have r3:ak1 w n (x::y)=x.ak w n+ak1 w n y:=by simp[ak1]
   rw[r1,Al]at hR;rw[r2]at hq;rw[r3]at ha;rw[r1]at hrow;rw[r1,r2,r3];let#[s1,e1,H1]:=znz k w0 w1 n0 n1 p1 (zbR hv).1 hx H () () () (λz hz=>hrow z (by simp[hz]));let#[s2,p3',e2,H2]:=zlB k w0 w1 n0 n1 p1 vs y s1 _ _ _ (AA v) (zbR hv).2 hy H1 (by rw[Al];lia) () () (λz hz=>hrow z (by simp[hz]));refine#[s2,p3',?_,?_]
   .rw[zF (U1:=[AA (.loc u),p1,AA (.tp AB []),AA v]) rfl,e1];exact e2
   .rw[<-BJ,<-Dj,show q+((x.rnd w n+yaG w n y:Nat):Int)=q+(x.rnd w n:Nat)+(yaG w n y:Nat)by lia];exact H2
  .cases hp
end
def zrP(k:Nat)(w n:Int):yd T (k+1) ykd [.loc 0,.int w,.int n] [.ins cU []]=.ok .non [uob w n 1 0 0,.lst []]:=by have hT:T ykd=AA yiF:=rfl;rw[zr hT rfl rfl];ac_rfl
def zln(w n:Int):US [uob w n 1 0 0,.lst []] 0 1 w n [] 0 0:=#[[],#[rfl,rfl,by decide],.nil,by simp]
theorem StR.nl{xs rs:List PV}(h:StR xs rs):nLs xs=true:=by
 have ap:∀(a b:List PV),nLs a=AC->nLs b=AC->nLs (a++b)=true:=by
  intro a
  induction a with
  |nil=>intro b _ h;exact h
  |cons x a ih=>
   intro b h1 h2;let#[p,q]:=zbR h1;rw[Ak,nLs,p,ih b q h2];rfl
 induction h with
 |nil=>rfl
 |row hv _ ih=>exact ap _ _ ih (by simp[nLs,nL,hv])
 |ask hv _ ih=>exact ap _ _ ih (by erw[nLs,nL,Cn,Di]at hv ⊢;simpa using hv)
def zho:yP .eq (.str "asked") (.str "row")=AA (.bl AB):=by ac_rfl
def zkw(k:Nat){b:Bool}{vs:List PV}{ps:List T1}{w n:Int}(hv:nLs vs=AC)(hp:yaV vs=AA ps)(w0:0<=w)(w1:w<=16)(n0:0<=n)(n1:n<=8)(hR:(yD w n ps).length<=4000)(hq:yaG w n ps<=4000)(ha:ak1 w n ps<=500000)(hrow:∀x∈yD w n ps,ybE x)
  (hit:∀s,yd T (k+16) yA [.tp b vs] s=.ok (.bl AC) s) (st:SO):∃xs,yd T (k+17) ykg [.tp b vs,.int w,.int n] st=.ok (.lst xs) st/\StR xs (yD w n ps):=by
 have hT:T ykg=AA yh1:=rfl;have hnl:nLs [.tp b vs,.int w,.int n]=true:=by simp[nLs,nL,hv]
 let#[s,p3,e,xs,h,hs,_]:=zlB k w0 w1 n0 n1 (AA (.tp b vs)) vs ps [uob w n 1 0 0,.lst []] [] 0 0 AD hv hp (zln w n) (by simpa using hR) () () hrow;have e:=zgb (k+15) e;have i0:=zrP (k+15) w n;have ih:=(zln w n).ins (AF "go_parts");have f1:=h.fs;have fz:ydN (.loc 1) s=.ok (.lst xs) (s.set 1 .dead):=by simp[ydN,h.d]
 refine#[xs,?_,by simpa using hs];have nl:=hs.nl;rw[zd hT rfl rfl hnl];generalize PV.tp b vs=tv at *;simp! [yh1,hit,i0,ih,e,f1,fz,IC.ve32,IC.ve33,IC.ve37,ybM,newV];simp[ybK,nL,nl]
def unT:Ce:=.cmp .eq (.idx (.var 0) (.cst (.int 0))) (.cst (.str "row"))
def unE:Ce:=.idx (.var 0) (.cst (.int 1))
def zkM(k:Nat){st:SO}{xs rs:List PV}(h:StR xs rs):∀(ys b:List PV),yak (yd T k) [AD] (.n 0) unT unE ys st=.ok b st->yak (yd T k) [AD] (.n 0) unT unE (xs++ys) st=.ok (rs++b) st:=by
 induction h with
 |nil=>intro ys b e;exact e
 |@row xs rs v hv _ ih=>
  intro ys b e;have one:ybp (yd T k) [AD] (.n 0) unT unE (.tp AB [.str "row",v]) st=.ok (AA v) st:=by simp! [ybp,unT,unE,ix0,ix1,zd9]
  have:=ih (.tp AB [.str "row",v]::ys) (v::b) (by rw[zaq,one,bd_ok,e,bd_ok];rfl);rw[BJ,BJ];exact this
 |@ask xs rs x y z hv _ ih=>
  intro ys b e;have one:ybp (yd T k) [AD] (.n 0) unT unE (.tp AB [.str "asked",x,y,z]) st=.ok AD st:=by simp! [ybp,unT,unE,ix0,ix1,zho]
  have:=ih (.tp AB [.str "asked",x,y,z]::ys) b (by rw[zaq,one,bd_ok,e,bd_ok];rfl);rw[BJ];exact this
theorem StR.nl2{xs rs:List PV}(h:StR xs rs):nLs rs=true:=by
 have ap:∀(a b:List PV),nLs a=AC->nLs b=AC->nLs (a++b)=true:=by
  intro a
  induction a with
  |nil=>intro b _ h;exact h
  |cons x a ih=>
   intro b h1 h2;let#[p,q]:=zbR h1;rw[Ak,nLs,p,ih b q h2];rfl
 induction h with
 |nil=>rfl
 |row hv _ ih=>exact ap _ _ ih (by simp[nLs,hv])
 |ask _ _ ih=>exact ih
theorem unrolled(k:Nat){b:Bool}{vs:List PV}{ps:List T1}{w n:Int}(hv:nLs vs=AC)(hp:yaV vs=AA ps)(w0:0<=w)(w1:w<=16)(n0:0<=n)(n1:n<=8)(hR:(yD w n ps).length<=4000)(hq:yaG w n ps<=4000)(ha:ak1 w n ps<=500000)(hrow:∀x∈yD w n ps,ybE x)
  (hit:∀s,yd T (k+16) yA [.tp b vs] s=.ok (.bl AC) s) (st:SO):yd T (k+18) ykf [.tp b vs,.int w,.int n] st=.ok (.tp AB (yD w n ps)) st:=by
 have hT:T ykf=AA yh0:=rfl;have hnl:nLs [.tp b vs,.int w,.int n]=true:=by simp[nLs,nL,hv]
 let#[xs,e,hs]:=zkw k hv hp w0 w1 n0 n1 hR hq ha hrow hit [];have ec:=zkM (k+17) (st:=[]) hs [] [] zb0;rw[Aj,Aj]at ec;have ec:yak (yd T (k+17)) [AD] (.n 0) (.cmp .eq (.idx (.var 0) (.cst (.int 0))) (.cst (.str "row"))) (.idx (.var 0) (.cst (.int 1))) xs []=_:=ec;have nl:=hs.nl2;have lr:=λst=>zcA (yD w n ps) () st;have ht:∀st,yaE .tuple st [.lst (yD w n ps)]=AA (.tp AB (yD w n ps)):=λ_=>rfl;rw[zd hT rfl rfl hnl];generalize PV.tp b vs=tv,yD w n ps=rows at *;simp! [yh0,e,ec,lr,ht];simp[ybK,nL,nl]
def zhp(w n:Int):∀ps:List T1,nLs (yD w n ps)=true:=by
 have ap:∀(a b:List PV),nLs a=AC->nLs b=AC->nLs (a++b)=true:=by
  intro a
  induction a with
  |nil=>intro b _ h;exact h
  |cons x a ih=>
   intro b h1 h2;let#[p,q]:=zbR h1;rw[Ak,nLs,p,ih b q h2];rfl
 have up:∀(f:Nat->List PV) (N:Nat),(∀i,nLs (f i)=AC)->nLs (upTo f N)=true:=by
  intro f N h
  induction N with
  |zero=>rfl
  |succ N ih=>exact ap _ _ ih (h N)
 have mp:∀(rs:List Rs) (I J:Int),nLs (rs.map λr=>r.pv I J n)=true:=by
  intro rs I J
  induction rs with
  |nil=>rfl
  |cons r rs ih=>rw[AL,nLs,zcn,ih];rfl
 have two:∀(I:Nat) (ps:List T2),nLs (yad w n I ps)=true:=by
  intro I ps
  induction ps with
  |nil=>rfl
  |cons p ps ih=>
   rw[yad,Ap];refine ap _ _ ?_ ih
   cases p with
   |row r=>simp[T2.rows,nLs,zcn]
   |rounds c m t rs=>exact up _ _ λJ=>mp rs _ _
 intro ps
 induction ps with
 |nil=>rfl
 |cons p ps ih=>
  rw[yD,Ap];refine ap _ _ ?_ ih
  cases p with
  |row r=>simp[T1.rows,nLs,zcn]
  |rounds c m t ps=>exact up _ _ λI=>two I ps
def zjx(k:Nat){deed:PV}(hd:nL deed=AC){b:Bool}{vs:List PV}{ps:List T1}{w n:Int}(ht:∀s,yd T (k+18) yhN [deed] s=.ok (.tp b vs) s)(hv:nLs vs=AC)(hp:yaV vs=AA ps)(w0:0<=w)(w1:w<=16)(n0:0<=n)(n1:n<=8)(hR:(yD w n ps).length<=4000)(hq:yaG w n ps<=4000)(ha:ak1 w n ps<=500000)(hrow:∀x∈yD w n ps,ybE x)
  (hit:∀s,yd T (k+16) yA [.tp b vs] s=.ok (.bl AC) s) (st:SO):yd T (k+19) yiu [deed,.int w,.int n] st=.ok (.tp AB (yD w n ps)) st:=by
 have hT:T yiu=AA yhF:=rfl;have hnl:nLs [deed,.int w,.int n]=true:=by simp[nLs,nL,hd]
 have e:=unrolled k hv hp w0 w1 n0 n1 hR hq ha hrow hit [];have nl:=zhp w n ps;rw[zd hT rfl rfl hnl];generalize PV.tp b vs=tv,yD w n ps=rows at *;simp! [yhF,ht,e];simp[ybK,nL,nl]
def Dg(W:Int)(M:Mem)(c n:Nat):Prop:=∀i:Nat,i<n->0<=M c i/\M c i<W
theorem Dg.mono{W:Int}{M:Mem}{c n:Nat}(h:Dg W M c (n+1)):Dg W M c n:=λi hi=>h i ()
def zc{W:Int}{M M':Mem}{c c':Nat}:∀n,(∀i:Nat,i<n->M c i=M' c' i)->yo W M c n=yo W M' c' n
 |0,_=>rfl
 |n+1,h=>by rw[yo,yo,zc n λi hi=>h i (),h n ()]
def zw{W:Int}(hW:0<W){M:Mem}{c:Nat}:∀n,Dg W M c n->0<=yo W M c n/\yo W M c n<W^n
 |0,_=>by simp[yo]
 |n+1,h=>by let#[a,b]:=zw hW n h.mono;let#[c0,c1]:=h n ();have hp:0<W^n:=AY hW;have h1:0<=M c n*W^n:=Bu c0 ();have h2:M c n*W^n<=(W-1)*W^n:=Am () ();rw[BA,Az]at h2;rw[yo,A5,A3 (W^n) W];lia
def zaP{W:Int}(hW:0<W){M:Mem}{c:Nat}:∀n,Dg W M c n->(yo W M c n=0 ↔ ∀i:Nat,i<n->M c i=0)
 |0,_=>by simp[yo]
 |n+1,h=>by
  have ih:=zaP hW n h.mono;let#[a,b]:=zw hW n h.mono;let#[c0,c1]:=h n ();have hp:0<W^n:=AY hW;have h1:0<=M c n*W^n:=Bu c0 ();rw[yo];constructor
  .intro h2 i hi;have h3:M c n*W^n=0:=by omega
   rcases CA i n with z|z
   .exact ih.1 () i z
   .rw[show i=n by lia];rcases Gp.1 h3 with e|e
    .exact e
    .lia
  .intro h2;rw[h2 n (),ih.2 λi hi=>h2 i ()];simp
def zaU{w:Nat}(hw:0<w){M:Mem}{c n:Nat}(h:Dg (2^w) M c (n+1)):tb w (M c n)=if (2^w:Int)^(n+1)<=2*yo (2^w) M c (n+1)then 1 else 0:=by
 let#[c0,c1]:=h n ();let#[a,b]:=zw (AY ()) n h.mono;rw[zhH hw c0 c1,yo];obtain⟨v,rfl⟩:∃v,w=v+1:=#[w-1,by lia];have hp:0<((2:Int)^(v+1))^n:=AY (AY ());rw[A5 ((2:Int)^(v+1)) n];generalize ((2:Int)^(v+1))^n=P,hV:yo (2^(v+1)) M c n=V at *;rw[A5]at *;generalize (2:Int)^v=H,M c (n:Int)=d at *
 by_cases hd:H<=d
 .have h1:=Am hd (show 0<=P by lia);have h2:P*(H*2)=2*(H*P):=by rw[A3 P,Ae,A3 2 P,<-Ae,A3 2]
  rw[if_pos (),if_pos (by rw[h2];lia)]
 .have h1:=Am (show d<=H-1 by lia) (show 0<=P by lia);rw[BA,Az]at h1;have h2:P*(H*2)=2*(H*P):=by rw[A3 P,Ae,A3 2 P,<-Ae,A3 2]
  rw[if_neg (),if_neg (by rw[h2];lia)]
def zgY{W:Int}(hW:0<W)(hW2:2<=W)(M:Mem)(k:Int)(k0:0<=k)(k1:k<=1):∀n,Dg W M 97 n->Dg W M 98 n ->
  (∀d j,(d≠99 \/ (n:Int)<=j)->(yt W (yR n .sum) M k).1 d j=M d j)/\Dg W (yt W (yR n .sum) M k).1 99 n/\0<=(yt W (yR n .sum) M k).2/\(yt W (yR n .sum) M k).2<=1/\yo W (yt W (yR n .sum) M k).1 99 n+(yt W (yR n .sum) M k).2*W^n=yo W M 97 n+yo W M 98 n+k
 |0,_,_=>#[λ_ _ _=>rfl,λi hi=>by lia,k0,k1,by simp[yo,yR,yG,yt]]
 |n+1,ha,hb=>by
  let#[h1,h2,h3,h4,h5]:=zgY hW hW2 M k k0 k1 n ha.mono hb.mono;have e:yR (n+1) .sum=yR n .sum++[.sum (99,n) (97,n) (98,n)]:=rfl;rw[e,zh];generalize yt W (yR n .sum) M k=R at *;let#[M1,k']:=R;simp only at *;let#[a0,a1]:=ha n ();let#[b0,b1]:=hb n ();erw[yt,stepM,rd,wr,h1 97 n (.inl ⋯),h1 98 n (.inl ⋯)];generalize hA:M 97 (n:Int)=A,hB:M 98 (n:Int)=B at *;have d1:=Ab (A+B+k') (show W≠0 by lia);have d2:=AX (A+B+k') hW;have d3:=As (A+B+k') W;have d4:0<=(A+B+k')/W:=B4 () ();have d5:(A+B+k')/W<2:=BX hW ();refine#[λd j hd=>?_,λi hi=>?_,d4,by lia,?_]
  .unfold upd;rw[if_neg (),h1 d j ()]
  .unfold upd
   by_cases hin:i=n
   .subst hin;rw[if_pos #[rfl,rfl]];exact#[d1,d2]
   .rw[if_neg ()];exact h2 i ()
  .have hv:yo W (upd M1 99 (n:Int) ((A+B+k')%W)) 99 (n+1)=yo W M1 99 n+(A+B+k')%W*W^n:=by rw[yo,zc (M':=M1) (c':=99) n λi hi=>by unfold upd;rw[if_neg ()]];unfold upd;rw[if_pos #[rfl,rfl]]
   rw[hv,yo,yo,hA,hB,A5];generalize W^n=P,(A+B+k')%W=r,(A+B+k')/W=q at *;have e2:r=A+B+k'-W*q:=by lia
   subst e2;have e3:(A+B+k'-W*q)*P+q*(P*W)=A*P+B*P+k' * P:=by rw[BA,Ay,Ay,A3 W q,Ae q W P,A3 W P];lia
   generalize (A+B+k'-W*q)*P=X1,q*(P*W)=X2 at *;lia
def zgW{W:Int}(M:Mem)(k:Int)(hS:0<=M 115 0):∀n,(∀i:Nat,i<n->0<=M 99 i) ->
  (yt W (yG (λi=>Rw.any cS cS (99,i)) n) M k).2=k/\(∀d j,d≠115->(yt W (yG (λi=>Rw.any cS cS (99,i)) n) M k).1 d j=M d j)/\0<=(yt W (yG (λi=>Rw.any cS cS (99,i)) n) M k).1 115 0/\((yt W (yG (λi=>Rw.any cS cS (99,i)) n) M k).1 115 0=0 ↔ M 115 0=0/\∀i:Nat,i<n->M 99 i=0)
 |0,_=>#[rfl,λ_ _ _=>rfl,hS,by simp[yG,yt]]
 |n+1,h=>by
  let#[h1,h2,h3,h4]:=zgW (W:=W) M k hS n λi hi=>h i ();rw[yG,zh];generalize yt W (yG (λi=>Rw.any cS cS (99,i)) n) M k=R at *;let#[M1,k']:=R;simp only at *;have hb:=h n ();erw[yt,stepM,rd,wr,cS,h2 99 n ⋯];have hz:=zfZ h3 hb;refine#[h1,λd j hd=>?_,?_,?_]
  .unfold upd;rw[if_neg (),h2 d j hd]
  .unfold upd;rw[if_pos #[rfl,rfl]];obtain⟨x,hx⟩:∃x:Nat,M1 115 0=x:=#[(M1 115 0).toNat,by lia];obtain⟨y,hy⟩:∃y:Nat,M 99 n=y:=#[(M 99 n).toNat,by lia];rw[hx,hy,zcQ];lia
  .unfold upd;rw[if_pos #[rfl,rfl],hz,h4];constructor
   .rintro⟨⟨a,b⟩,c⟩
    refine#[a,λi hi=>?_];rcases CA i n with z|z
    .exact b i z
    .rw[show i=n by lia];exact c
   .rintro⟨a,b⟩
    exact#[#[a,λi hi=>b i ()],b n ()]
def zl{W:Int}{r:Rw}{rs:List Rw}{M:Mem}{k:Int}:yt W (r::rs) M k=yt W rs (stepM W M k r).1 (stepM W M k r).2:=rfl
def zQ(b:Bool):0<=bi b/\bi b<=1:=by cases b<;>decide
def zcw{w:Nat}(hw:1<w){n:Nat}(M:Mem)(k:Int)(hc:Dg (2^w) M 99 (n+1))(hz:M 122 0=0):
  (∀j,(yt (2^w) (yE (n+1)) M k).1 99 j=M 99 j)/\(yt (2^w) (yE (n+1)) M k).1 109 0=M 109 0/\(yt (2^w) (yE (n+1)) M k).1 109 1=M 109 1 /\
  (yt (2^w) (yE (n+1)) M k).1 109 2=bi (yo (2^w) M 99 (n+1)==0)/\(yt (2^w) (yE (n+1)) M k).1 109 3=bi (decide ((2^w:Int)^(n+1)<=2*yo (2^w) M 99 (n+1))):=by
 have hW:(0:Int)<2^w:=AY ();have hW4:(4:Int)<=2^w:=by have h:(2:Nat)^2<=2^w:=AZ () ();have h2:=pw w;lia
 let#[h1,h2,h3,h4]:=zgW (W:=2^w) (wr M cS 0) k (by simp[wr,upd]) (n+1) (λi hi=>by simp[wr,upd];exact(hc i hi).1);have e:yE (n+1)=.set cS 0::(yG (λi=>Rw.any cS cS (99,i)) (n+1)++[.ask cS,.set (109,2) 1,.less (109,2) (109,2) cZ,.twice cT (99,((n+1:Nat):Int)-1),.sum (109,3) cZ cZ]):=rfl;have hst:stepM (2^w) M k (.set cS 0)=(wr M cS 0,k):=rfl;rw[e,zl,hst,zh];generalize yt (2^w) (yG (λi=>Rw.any cS cS (99,i)) (n+1)) (wr M cS 0) k=R at *;let#[M1,k']:=R;simp only at *;subst h1;have g:∀d j,d≠115->M1 d j=M d j:=λd j hd=>by rw[h2 d j hd];erw[wr,upd,cS];rw[if_neg ()]
 have hn:((n+1:Nat):Int)-1=n:=by lia
 have h5:M1 115 0=0 ↔ yo (2^w) M 99 (n+1)=0:=by
  rw[h4,zaP hW (n+1) hc];constructor
  .rintro⟨_,b⟩ i hi
   have:=b i hi;simpa [wr,upd] using this
  .intro b;exact#[by simp[wr,upd],λi hi=>by simpa [wr,upd] using b i hi]
 have ht:=zaU () hc;have hb:bi (!(M1 115 0==0))=1-bi (yo (2^w) M 99 (n+1)==0):=by
  by_cases hv:yo (2^w) M 99 (n+1)=0
  .rw[h5.2 hv,hv];rfl
  .have:¬M1 115 0=0:=λz=>hv (h5.1 z);rw[beq_eq_false_iff_ne.2 this,beq_eq_false_iff_ne.2 hv];rfl
 have hbr:=zQ (yo (2^w) M 99 (n+1)==0);rw[hn];erw[yt,stepM,rd,wr,upd,cS,cT,cZ];rw[hb];generalize bi (yo (2^w) M 99 (n+1)==0)=v at *;have hm:bi (decide ((1:Int)-0-(1-v)<0))=0:=by rw[decide_eq_false ()];rfl
 have hm2:(1-0-(1-v))%(2:Int)^w=v:=by rw[show 1-0-(1-v)=v by lia];exact AM () ()
 have hT:(2*M 99 n+0)/2^w=bi (decide ((2^w:Int)^(n+1)<=2*yo (2^w) M 99 (n+1))):=by
  rw[B2];show tb w (M 99 n)=_;rw[ht]
  by_cases q:(2^w:Int)^(n+1)<=2*yo (2^w) M 99 (n+1)
  .rw[if_pos q,decide_eq_true q];rfl
  .rw[if_neg q,decide_eq_false q];rfl
 have hTr:=zQ (decide ((2^w:Int)^(n+1)<=2*yo (2^w) M 99 (n+1)));erw[CY,false_and,if_false,Int.reduceEq,and_false,and_self,if_true,g _ _ (show (99:Nat)≠115 by decide),g _ _ (show (109:Nat)≠115 by decide),g _ _ (show (122:Nat)≠115 by decide),hz,hm,hm2,hT];refine#[λj=>trivial,trivial,trivial,trivial,?_];rw[show (0:Int)+0+bi (decide ((2^w:Int)^(n+1)<=2*yo (2^w) M 99 (n+1)))=bi (decide ((2^w:Int)^(n+1)<=2*yo (2^w) M 99 (n+1)))by lia];exact AM () ()
def zb9{c d:Nat}(h:d≠c)(j:Int):∀(vs:List Int) (i:Nat) (M:Mem),yaL c i vs M d j=M d j
 |[],_,_=>rfl
 |v::vs,i,M=>by rw[yaL,zb9 h j vs,upd,if_neg ()]
def zdn{c:Nat}(j:Int):∀(vs:List Int) (i:Nat) (M:Mem),j<i->yaL c i vs M c j=M c j
 |[],_,_,_=>rfl
 |v::vs,i,M,h=>by rw[yaL,zdn j vs (i+1) _ (),upd,if_neg ()]
def zez{c:Nat}:∀(vs:List Int) (i:Nat) (M:Mem) (k:Nat),k<vs.length->yaL c i vs M c ((i+k:Nat):Int)=vs.getD k 0
 |[],_,_,_,h=>by simp at h
 |v::vs,i,M,0,h=>by rw[yaL,zdn _ vs (i+1) _ (),upd,if_pos #[rfl,by simp]];rfl
 |v::vs,i,M,k+1,h=>by rw[yaL,show i+(k+1)=i+1+k by lia,zez vs (i+1) _ k (by simpa using h)];rfl
def zds{W:Int}(hW:0<W):∀(n:Nat) (x:Int) (k:Nat),k<n->(yg W n x).getD k 0=x/W^k%W
 |0,_,_,h=>by lia
 |n+1,x,0,h=>by simp[yg]
 |n+1,x,k+1,h=>by rw[yg];show (yg W n (x/W)).getD k 0=_;rw[zds hW n (x/W) k (),A5,A3 (W^k),B6 ()]
def ze0{W x:Int}(hW:0<W)(n:Nat):x%W^(n+1)=x%W^n+x/W^n%W*W^n:=by
 have hp:0<W^n:=AY hW;rw[A5];generalize W^n=P at *;have e1:=As x P;have e2:=As (x/P) W;have a0:=Ab x (show P≠0 by lia);have a1:=AX x hp;have b0:=Ab (x/P) (show W≠0 by lia);have b1:=AX (x/P) hW;generalize x%P=r,x/P=q at *;generalize q%W=s,q/W=t at *;subst e2;have e3:x=r+s*P+P*W*t:=by rw[<-e1,By,A3 P s,Ae P W t];lia
 have c1:s*P<=(W-1)*P:=Am () ();have c0:0<=s*P:=Bu b0 ();rw[BA,Az]at c1;rw[e3,B5,AM () (by rw[A3 P W];lia)]
def zeG{W:Int}(hW:0<W){M:Mem}{c:Nat}{x:Int}:∀n,(∀i:Nat,i<n->M c i=x/W^i%W)->yo W M c n=x%W^n
 |0,_=>by simp[yo,Int.emod_one]
 |n+1,h=>by rw[yo,zeG hW n λi hi=>h i (),h n (),ze0 hW]
section
variable {W:Int}(n:Nat)(x y:Int)
def zfh{d:Nat}(h1:d≠97)(h2:d≠98)(j:Int):yac W n x y d j=0:=by rw[yac,zb9 h2,zb9 h1];rfl
variable (hW:0<W)
include hW
def zov{i:Nat}(h:i<n):yac W n x y 97 i=x/W^i%W:=by rw[yac,zb9 ⋯];have:=zez (c:=97) (yg W n x) 0 M0 i (by rw[zE];exact h);rw[CB]at this;rw[this,zds hW n x i h]
def znD{i:Nat}(h:i<n):yac W n x y 98 i=y/W^i%W:=by rw[yac];have:=zez (c:=98) (yg W n y) 0 (yaL 97 0 (yg W n x) M0) i (by rw[zE];exact h);rw[CB]at this;rw[this,zds hW n y i h]
def ze5:Dg W (yac W n x y) 97 n:=λi hi=>by rw[zov n x y hW hi];exact#[Ab _ (),AX _ hW]
def zgy:Dg W (yac W n x y) 98 n:=λi hi=>by rw[znD n x y hW hi];exact#[Ab _ (),AX _ hW]
def zet(h0:0<=x)(h1:x<W^n):yo W (yac W n x y) 97 n=x:=by rw[zeG hW n λi hi=>zov n x y hW hi,AM h0 h1]
def zgF(h0:0<=y)(h1:y<W^n):yo W (yac W n x y) 98 n=y:=by rw[zeG hW n λi hi=>znD n x y hW hi,AM h0 h1]
end
def zfR{w:Nat}(hw:1<w)(M:Mem)(a b c:Cel)(ha:a.1≠115/\a.1≠116)(hb:b.1≠115/\b.1≠116)(hc:c.1≠115/\c.1≠116)(hz:M 122 0=0)
  (a0:0<=rd M a/\rd M a<2^w) (b0:0<=rd M b/\rd M b<2^w) (c0:0<=rd M c/\rd M c<2^w):
  (∀d j,d≠115->d≠116->(d≠109 \/ j≠1)->(yt (2^w) (yQ a b c) M 0).1 d j=M d j)/\(yt (2^w) (yQ a b c) M 0).2=0/\(yt (2^w) (yQ a b c) M 0).1 109 1=(tb w (rd M a)+tb w (rd M b))%2*((tb w (rd M a)+tb w (rd M c))%2):=by
 have hW:(0:Int)<2^w:=AY ();have hW4:(4:Int)<=2^w:=by have h:(2:Nat)^2<=2^w:=AZ () ();have h2:=pw w;lia
 have x1:=ziF a0.1 a0.2 b0.1 b0.2;have x2:=ziF a0.1 a0.2 c0.1 c0.2;have t1:=zpI (by lia:0<w) x1.1 x1.2 x2.1 x2.2;rw[zlp () a0.1 a0.2 b0.1 b0.2,zlp () a0.1 a0.2 c0.1 c0.2]at t1;let#[a1,a2]:=a;let#[b1,b2]:=b;let#[c1,c2]:=c;erw[rd]at *;have m1:=Ab (tb w (M a1 a2)+tb w (M b1 b2)) (show (2:Int)≠0 by decide);have m2:=AX (tb w (M a1 a2)+tb w (M b1 b2)) (show (0:Int)<2 by decide);have m3:=Ab (tb w (M a1 a2)+tb w (M c1 c2)) (show (2:Int)≠0 by decide);have m4:=AX (tb w (M a1 a2)+tb w (M c1 c2)) (show (0:Int)<2 by decide);have hr:0<=(tb w (M a1 a2)+tb w (M b1 b2))%2*((tb w (M a1 a2)+tb w (M c1 c2))%2)/\(tb w (M a1 a2)+tb w (M b1 b2))%2*((tb w (M a1 a2)+tb w (M c1 c2))%2)<=1:=by rcases (by lia:(tb w (M a1 a2)+tb w (M b1 b2))%2=0 \/ (tb w (M a1 a2)+tb w (M b1 b2))%2=1)with e|e<;>rw[e]<;>lia
 generalize (tb w (M a1 a2)+tb w (M b1 b2))%2*((tb w (M a1 a2)+tb w (M c1 c2))%2)=v at *;have n1:¬(c1=116):=hc.2;have n2:¬(a1=116):=ha.2;erw[yQ,yt,stepM,rd,wr,upd,cS,cT,cZ,n1,n2,CY,false_and,if_false,and_self,if_true,hz,B2];unfold tb at t1;rw[t1];refine#[λd j h1 h2 h3=>?_,?_,?_]
 .simp only[h1,h2,false_and,if_false];rw[if_neg ()]
 .exact BN () ()
 .rw[D3];exact AM () ()
def zlQ{X:Fl}{v:PV}{st:SO}(h:ybK [] X=.ok v []):ybK st X=.ok v st:=by
 cases X with
 |rt u s=>
  erw[ybK]at h ⊢
  by_cases c:nL u=AC
  .rw[if_pos c]at h ⊢;cases h;rfl
  .rw[if_neg c]at h;cases h
 |nx U s=>erw[ybK]at h ⊢;cases h;rfl
 |_=>cases h
def zcB{k f:Nat}{fn:IC.Fn}{args:List PV}{v:PV}(hT:T f=AA fn)(hp:fn.pure=AC)(hl:args.length=fn.np)(hn:nLs args=AC)(h:yd T (k+1) f args []=.ok v [])(st:SO):yd T (k+1) f args st=.ok v st:=by rw[zd hT hp hl hn]at h ⊢;exact zlQ h
def ybw(W:Int):List Rw->Mem->Int->Prop
 |[],_,_=>True
 |r::rs,M,k=>((∀t x,r=.half t x->0<=rd M x/\rd M x<W/\0<=k/\k<2)/\∀a b x y,r=.times a b x y->(rd M x).natAbs<18446744073709551616)/\ybw W rs (stepM W M k r).1 (stepM W M k r).2
def rnA:Css:=match yK.body with
 |.cons (.for _ _ b) _=>b
 |x=>x
def rnB:Css:=match yK.body with
 |.cons _ (.cons (.for _ _ b) _)=>b
 |x=>x
theorem rnS:yK.body=.cons (.for (.n 2) (.seq (.var 1)) rnA) (.cons (.for (.n 2) (.seq (.var 1)) rnB) .nil):=rfl
def zk1(r:Rw):nLs [yM r]=true:=by cases r<;>rfl
section
variable {m l n:Nat}
def zdj(k:Nat){v:Option PV}(st:SO):∀(rs:List Rw),(∀r∈rs,yd T (k+1) yhk [yM r] []=.ok .non [])->∀p2,∃q2,ybj (yd T (k+1)) (.n 2) rnA (rs.map yM) [AA (.loc m),v,p2] st=.nx [AA (.loc m),v,q2] st
 |[],h,p2=>#[p2,by rw[Ah,zL]]
 |r::rs,h,p2=>by
  let#[q2,e]:=zdj k (v:=v) st rs (λq hq=>h q (AS _ hq)) (AA (yM r));have e1:=zcB (f:=yhk) (fn:=yhJ) rfl rfl rfl (zk1 r) (h r (by simp)) st;refine#[q2,?_];rw[AL,zF (U1:=[AA (.loc m),v,AA (yM r)]) rfl];generalize yM r=row at *;have hb:exs (yd T (k+1)) [AA (.loc m),v,AA row] st rnA=.nx [AA (.loc m),v,AA row] st:=by simp! [rnA,yK,e1]
  rw[hb];exact e
def zjv(k:Nat)(hn:n<=100)(hn1:1<=n){v:Option PV}:∀(rs:List Rw) (M:Mem) (mk:Int) (st:SO) (L:Nat) (p2:Option PV),MM st m l n M mk L->L+2*rs.length<999999->ybw (2^n) rs M mk ->
  ∃st' q2,MM st' m l n (yt (2^n) rs M mk).1 (yt (2^n) rs M mk).2 (L+2*rs.length)/\(∀q,q≠m->q≠l->st'[q]?=st[q]?)/\st'.length=st.length/\ybj (yd T (k+6)) (.n 2) rnB (rs.map yM) [AA (.loc m),v,p2] st=.nx [AA (.loc m),v,q2] st'
 |[],M,mk,st,L,p2,h,hL,hh=>#[st,p2,h,λ_ _ _=>rfl,rfl,by rw[Ah,zL]]
 |r::rs,M,mk,st,L,p2,h,hL,hh=>by
  erw[A4]at hL;let#[s1,h1,o1,l1,e1]:=zpO k h () hn hn1 r hh.1.1 hh.1.2;let#[s2,q2,h2,o2,l2,e2]:=zjv k hn hn1 (v:=v) rs _ _ s1 (L+2) (AA (yM r)) h1 () hh.2;refine#[s2,q2,?_,λq a b=>(o2 q a b).trans (o1 q a b),l2.trans l1,?_]
  .rw[yt,A4,show L+2*(rs.length+1)=L+2+2*rs.length by lia];exact h2
  .have ih:=h.ins (AF "go_row");rw[AL,zF (U1:=[AA (.loc m),v,AA (yM r)]) rfl];generalize yM r=row at *;have hb:exs (yd T (k+6)) [AA (.loc m),v,AA row] st rnB=.nx [AA (.loc m),v,AA row] s1:=by simp! [rnB,yK,ih,e1,IC.ve37]
   rw[hb];exact e2
def zj9(k:Nat)(hn:n<=100)(hn1:1<=n){rs:List Rw}{M:Mem}{mk:Int}{st:SO}{L:Nat}(h:MM st m l n M mk L)(hL:L+2*rs.length<999999)(hh:ybw (2^n) rs M mk)(hA:∀r∈rs,yd T (k+6) yhk [yM r] []=.ok .non []):
  okM (yd T (k+7) yi4 [.loc m,.tp AB (rs.map yM)] st) st m l n (yt (2^n) rs M mk).1 (yt (2^n) rs M mk).2 (L+2*rs.length):=by have hT:T yi4=AA #[2,3,AB,yK.body]:=rfl;let#[q2,e1]:=zdj (m:=m) (k+5) (v:=AA (.tp AB (rs.map yM))) st rs hA AD;let#[s2,q3,h2,o2,l2,e2]:=zjv k hn hn1 (v:=AA (.tp AB (rs.map yM))) rs M mk st L q2 h hL hh;refine#[s2,h2,o2,l2,?_];rw[zr hT rfl rfl];show outI (exs (yd T (k+6)) [AA (.loc m),AA (.tp AB (rs.map yM)),AD] st yK.body)=_;rw[rnS,xs_cons,x_for];generalize rs.map yM=rows at *;simp! [e1,e2];rfl
def zjD:([97,98,99,100,109].all λc=>(EG 9).all λi=>isOk (yd T 8 yi6 [.str #[(List.toArray [c])],.int (i:Nat)] []) (yaj c (i:Nat)))=true:=by decide +kernel
theorem known(k:Nat){c i:Nat}(hc:c∈[97,98,99,100,109])(hi:i<9)(st:SO):yd T (8+k) yi6 [.str #[(List.toArray [c])],.int (i:Int)] st=.ok (yaj c i) st:=by have h:=Bp.1 zjD c hc;have h:=Bp.1 h i (by simpa using hi);have h:=zaH (zdr h) k;rw[show 8+k=7+k+1 by lia]at h ⊢;exact zcB (f:=yi6) (fn:=yiI) rfl rfl rfl rfl h st
def zrQ(k:Nat){st:SO}{L:Nat}{w mk:Int}{M:Mem}(h:MM st m l w M mk L){c i:Nat}(hc:c∈[97,98,99,100,109])(hi:i<9):yd T (9+k) yhO [.loc m,.str #[(List.toArray [c])],.int (i:Int)] st=.ok (.int (M c i)) st:=by
 have hT:T yhO=AA yie:=rfl;have e1:=known k hc hi st;have e2:yd T (8+k) yT [.loc m,yaj c i] st=.ok (.int (M c i)) st:=by rw[show 8+k=7+k+1 by lia];exact zcH (7+k) h (c,(i:Int))
 have ih:=h.ins (AF "held_in");rw[show 9+k=8+k+1 by lia,zr hT rfl rfl];generalize yaj c i=q at *;simp! [yie,ih,e1,e2,zbM,IC.ve37]
def zfg(k:Nat)(v lo hi:Int)(h1:lo<=v)(h2:v<=hi)(st:SO):yd T (k+1) yhM [.int v,.int lo,.int hi] st=.ok (.bl AC) st:=by have hT:T yhM=AA yga:=rfl;rw[zd hT rfl rfl rfl];have e1:ya6 (.int v) [.int]=AA (.bl AC):=rfl;have e2:ya6 (.int v) [.bool]=AA (.bl AB):=rfl;simp! [yga,e1,e2,decide_eq_true h1,decide_eq_true h2];rfl
def zrR(k:Nat)(hn:n<=100){st:SO}{L:Nat}{mk:Int}{M:Mem}(h:MM st m l n M mk L)(hL:L<999999){c i:Nat}(hc:c∈[97,98,99,100,109])(hi:i<9){v:Int}(v0:0<=v)(v1:v<2^n):
  okM (yd T (9+k) ykh [.loc m,.str #[(List.toArray [c])],.int (i:Int),.int v] st) st m l n (upd M c i v) mk (L+1):=by
 have hT:T ykh=AA yid:=rfl;have e1:=known k hc hi st;have e2:yd T (8+k) yiT [.int n] st=.ok (.int (2^n-1)) st:=by rw[show 8+k=7+k+1 by lia];exact highest (7+k) n hn st
 have e3:yd T (8+k) yhM [.int v,.int 0,.int (2^n-1)] st=.ok (.bl AC) st:=by rw[show 8+k=7+k+1 by lia];exact zfg (7+k) v 0 (2^n-1) v0 () st
 let#[s1,d1,#[o,ho],h1]:=h.sd hL (c,(i:Int)) v;refine#[s1,h1,λq a b=>by rw[ho,AO (B0 b)],by simp[ho],?_];have d1:ybs st (.loc l) (yaj c i) (.int v)=AA s1:=d1;rw[show 9+k=8+k+1 by lia,zr hT rfl rfl];generalize yaj c i=q at *;simp! [yid,e1,h.fw,e2,e3,h.fd,zgu,d1,zaw,IC.ve32];rfl
end
def zrS{v:PV}:yb4 sw v []=[(sw,v)]:=rfl
def zrT{a v:PV}:yb4 sws v [(sw,a)]=[(sw,a),(sws,v)]:=by ac_rfl
def zrU{a b v:PV}:yb4 smk v [(sw,a),(sws,b)]=[(sw,a),(sws,b),(smk,v)]:=by ac_rfl
def zrV(k:Nat)(w:Int)(st:SO):yd T (k+1) yi3 [.loc st.length,.int w] (st++[.ins cM []])=.ok .non (st++[mob w (st.length+1) 0]++[.dct AC []]):=by
 have hT:T yi3=AA yic:=rfl;have g0:(st++[Ob.ins cM []])[st.length]?=AA (.ins cM []):=by simp
 have s1:ybd cM (st++[Ob.ins cM []]) (.loc st.length) sw (.int w)=AA (st++[.ins cM [(sw,.int w)]]):=by erw[ybd,g0];rw[if_pos #[trivial,by simp],zrS];simp
 have g1:(st++[Ob.ins cM [(sw,.int w)]]++[Ob.dct AC []])[st.length]?=AA (.ins cM [(sw,.int w)]):=by simp
 have s2:ybd cM (st++[Ob.ins cM [(sw,.int w)]]++[Ob.dct AC []]) (.loc st.length) sws (.loc (st.length+1))=AA (st++[.ins cM [(sw,.int w),(sws,.loc (st.length+1))]]++[.dct AC []]):=by erw[ybd,g1];rw[if_pos #[trivial,by simp],zrT];simp
 have g2:(st++[Ob.ins cM [(sw,.int w),(sws,.loc (st.length+1))]]++[Ob.dct AC []])[st.length]?=AA (.ins cM [(sw,.int w),(sws,.loc (st.length+1))]):=by simp
 have s3:ybd cM (st++[Ob.ins cM [(sw,.int w),(sws,.loc (st.length+1))]]++[Ob.dct AC []]) (.loc st.length) smk (.int 0)=AA (st++[mob w (st.length+1) 0]++[.dct AC []]):=by erw[ybd,g2];rw[if_pos #[trivial,by simp],zrU];simp[mob]
 have hd:∀(U:IC.Env),ev (yd T k) U (st++[Ob.ins cM [(sw,.int w)]]) (.dict0 AC)=.ok (.loc (st.length+1)) (st++[Ob.ins cM [(sw,.int w)]]++[.dct AC []]):=λU=>by erw[ev,Al,D6]
 rw[zr hT rfl rfl];erw[yic,xs_cons,zf6,hd];have hlen:(st++[Ob.ins cM [(sw,.int w)]]).length=st.length+1:=by simp
 simp! [s1,zaw,hlen,s2,s3];rfl
def zfT(W:Int)(hW:0<W)(x:Int):∀(n a:Nat),(yx n (a:Int) 1).map (λp=>match p with | .int j=>PV.int (x/W^j.toNat%W)|q=>q)=(yg W n (x/W^a)).map .int
 |0,a=>rfl
 |n+1,a=>by
  have h:=zfT W hW x n (a+1);rw[yx,AL,yg,AL]
  congr 1
  .rw[show ((a:Int)+1)=((a+1:Nat):Int)by lia,h,A5,B6 (Bv (AY hW))]
def zoQ(n:Nat)(hn:n<=1000):yI .shl (.int 1) (.int (n:Int))=AA (.int (2^n)):=by erw[yI,binI];rw[if_pos #[by lia,by lia,by decide]];simp
def zfC(a b:Nat)(ha:a<=1000):yI .mul (.int (a:Int)) (.int (b:Int))=AA (.int ((a*b:Nat):Int)):=by
 have h:yaQ (a:Int) (b:Int)=true:=by erw[yaQ,DG,decide_eq_true_eq];exact .inl (by simp;lia)
 erw[yI,binI,h,if_true];simp
theorem lowest(k:Nat)(x:Int)(w n:Nat)(hw:w<=16)(hn:n<=8)(st:SO):yd T (k+1) yhP [.int x,.int w,.int n] st=.ok (.tp AB ((yg (2^w) n x).map .int)) st:=by
 have hT:T yhP=AA yil:=rfl;have e1:=zoQ w ();have hr:=zbJ n ();have hc:yak (yd T k) [AD,AA (.int (2^w-1)),AA (.int x),AA (.int w)] (.n 0) (.cst (.bl AC)) (.bin .band (.bin .shr (.var 2) (.bin .mul (.var 3) (.var 0))) (.var 1)) (yx n 0 1) []=.ok ((yg (2^w) n x).map .int) []:=by
  have h:=zfT (2^w) (AY ⋯) x n 0;rw[DA,GE]at h;rw[<-h];refine zaZ _ λp hp=>?_;obtain⟨j,hj,rfl⟩:∃j:Nat,j<n/\p=.int (j:Int):=by
   have:∀(n a:Nat) (p:PV),p∈yx n (a:Int) 1->∃j:Nat,a<=j/\j<a+n/\p=.int (j:Int):=by
    intro n
    induction n with
    |zero=>intro a p h;cases h
    |succ n ih=>
     intro a p h;rw[yx]at h;rcases AN.1 h with rfl|h
     .exact#[a,AT _,by lia,rfl]
     .let#[j,h1,h2,h3]:=ih (a+1) p (by rw[show ((a+1:Nat):Int)=(a:Int)+1 by lia];exact h);exact#[j,by lia,by lia,h3]
   let#[j,_,h2,h3]:=this n 0 p hp;exact#[j,by lia,h3]
  have m1:=zfC w j ();have s1:yI .shr (.int x) (.int ((w*j:Nat):Int))=AA (.int (x/2^(w*j))):=by erw[yI,binI];rw[if_pos (),CL]
  have b1:=band (x/2^(w*j)) (2^w-1);rw[zes (n:=w) (x/2^(w*j))]at b1;simp! [ybp,m1,s1,b1];rw[CL,<-CU]
 rw[zd hT rfl rfl rfl];simp! [yil,e1,hr,hc];rw[zcA _ (by simp[zE];lia)];have ht:yaE .tuple [] [.lst ((yg (2^w) n x).map .int)]=AA (.tp AB ((yg (2^w) n x).map .int)):=rfl;simp! [ht];simp[ybK,nL,noLocs_ints]
def zbK{W:Int}(hW:0<W):∀(n:Nat) (x:Int),∀v∈yg W n x,0<=v/\v<W
 |0,x,v,h=>by cases h
 |n+1,x,v,h=>by
  rw[yg]at h;rcases AN.1 h with rfl|h
  .exact#[Ab _ (),AX _ hW]
  .exact zbK hW n _ v h
def mwB:Css:=match yF.body with
 |.cons _ (.cons (.for _ _ b) _)=>b
 |x=>x
def mwC:Css:=match mwB with
 |.cons (.for _ _ b) _=>b
 |x=>x
section
variable {m l n:Nat}
def zf4(k:Nat)(hn:n<=100){c:Nat}(hc:c∈[97,98,99,100,109]){p0 p1 p2 p3 p6:Option PV}:∀(ws:List Int) (i:Nat) (M:Mem) (st:SO) (L:Nat) (p7 p8:Option PV),(∀v∈ws,0<=v/\v<2^n)->i+ws.length<=9->MM st m l n M 0 L->L+ws.length<999999 ->
  ∃st' q7 q8,MM st' m l n (yaL c i ws M) 0 (L+ws.length)/\(∀q,q≠m->q≠l->st'[q]?=st[q]?)/\st'.length=st.length /\
   ybj (yd T (9+k)) (.t [7,8]) mwC (yJ i (ws.map .int)) [p0,p1,p2,p3,AA (.loc m),AA (.str #[(List.toArray [c])]),p6,p7,p8] st=.nx [p0,p1,p2,p3,AA (.loc m),AA (.str #[(List.toArray [c])]),p6,q7,q8] st'
 |[],i,M,st,L,p7,p8,hv,hi,h,hL=>#[st,p7,p8,h,λ_ _ _=>rfl,rfl,by rw[Ah,yJ,zL]]
 |v::ws,i,M,st,L,p7,p8,hv,hi,h,hL=>by
  erw[A4]at hi hL;let#[v0,v1]:=hv v (by simp);let#[s1,h1,o1,l1,e1]:=zrR k hn h () hc (i:=i) () v0 v1;let#[s2,q7,q8,h2,o2,l2,e2]:=zf4 k hn hc (p0:=p0) (p1:=p1) (p2:=p2) (p3:=p3) (p6:=p6) ws (i+1) (upd M c i v) s1 (L+1) (AA (.int i)) (AA (.int v)) (λu hu=>hv u (AS _ hu)) () h1 ();refine#[s2,q7,q8,?_,λq a b=>(o2 q a b).trans (o1 q a b),l2.trans l1,?_]
  .rw[yaL,A4,show L+(ws.length+1)=L+1+ws.length by lia];exact h2
  .have ih:=h.ins (AF "put");have bt:yU (.t [7,8]) (.tup [.int (i:Int),.int v]) [p0,p1,p2,p3,AA (.loc m),AA (.str #[(List.toArray [c])]),p6,p7,p8]=AA [p0,p1,p2,p3,AA (.loc m),AA (.str #[(List.toArray [c])]),p6,AA (.int i),AA (.int v)]:=rfl;rw[AL,yJ,zF bt];have hb:exs (yd T (9+k)) [p0,p1,p2,p3,AA (.loc m),AA (.str #[(List.toArray [c])]),p6,AA (.int i),AA (.int v)] st mwC=.nx [p0,p1,p2,p3,AA (.loc m),AA (.str #[(List.toArray [c])]),p6,AA (.int i),AA (.int v)] s1:=by simp! [mwC,mwB,yF,ih,e1,IC.ve37]
   rw[hb];exact e2
end
def zfj(k:Nat)(w n:Nat)(hw:w<=16)(hn:n<=8)(x y:Int)(st:SO):
  ∃st' m l,st.length<=m/\st.length<=l/\MM st' m l w (yac (2^w) n x y) 0 (2*n)/\(∀q,q<st.length->st'[q]?=st[q]?)/\yd T (10+k) yi7 [.int w,.int n,.int x,.int y] st=.ok (.loc m) st':=by
 have hT:T yi7=AA #[4,9,AB,yF.body]:=rfl;have e1:yd T (9+k) yi3 [.loc st.length,.int w] (st++[.ins cM []])=.ok .non (st++[mob w (st.length+1) 0]++[.dct AC []]):=by rw[show 9+k=8+k+1 by lia];exact zrV (8+k) w st
 obtain⟨s1,hs1⟩:∃s1,s1=st++[mob w (st.length+1) 0]++[.dct AC []]:=#[_,rfl];rw[<-hs1]at e1;have h1:MM s1 st.length (st.length+1) w M0 0 0:=by rw[hs1];exact#[by simp,#[[],by simp,λp hp=>(by cases hp),λc i=>rfl,by simp],by lia]
 have eA:∀s,yd T (9+k) yhP [.int x,.int w,.int n] s=.ok (.tp AB ((yg (2^w) n x).map .int)) s:=λs=>by rw[show 9+k=8+k+1 by lia];exact lowest (8+k) x w n hw hn s
 have eB:∀s,yd T (9+k) yhP [.int y,.int w,.int n] s=.ok (.tp AB ((yg (2^w) n y).map .int)) s:=λs=>by rw[show 9+k=8+k+1 by lia];exact lowest (8+k) y w n hw hn s
 have lA:=zE (2^w) n x;have lB:=zE (2^w) n y;let#[s2,q7,q8,h2,o2,l2,f2]:=zf4 k () (c:=97) (by simp) (p0:=AA (.int w)) (p1:=AA (.int n)) (p2:=AA (.int x)) (p3:=AA (.int y)) (p6:=AA (.int x)) (yg (2^w) n x) 0 M0 s1 0 AD AD (zbK (AY ⋯) n x) () h1 ();let#[s3,r7,r8,h3,o3,l3,f3]:=zf4 k () (c:=98) (by simp) (p0:=AA (.int w)) (p1:=AA (.int n)) (p2:=AA (.int x)) (p3:=AA (.int y)) (p6:=AA (.int y)) (yg (2^w) n y) 0 _ s2 _ q7 q8 (zbK (AY ⋯) n y) () h2 ();refine#[s3,st.length,st.length+1,AT _,by lia,?_,λq hq=>?_,?_]
 .rw[show 2*n=0+(yg (2^w) n x).length+(yg (2^w) n y).length by lia];exact h3
 .rw[o3 q () (),o2 q () (),hs1,BJ,An hq]
 .have hb:yF.body=(match yF.body with
   |.cons a (.cons (.for t i _) r)=>.cons a (.cons (.for t i mwB) r)
   |x=>x):=rfl
  have hc:mwB=(match mwB with
   |.cons (.for t i _) r=>.cons (.for t i mwC) r
   |x=>x):=rfl
  have bt:∀(a b:PV) (p4 p5 p6 p7 p8:Option PV),yU (.t [5,6]) (.tp AB [a,b]) [AA (.int w),AA (.int n),AA (.int x),AA (.int y),p4,p5,p6,p7,p8]=AA [AA (.int w),AA (.int n),AA (.int x),AA (.int y),p4,AA a,AA b,p7,p8]:=λ_ _ _ _ _ _ _=>rfl;have cA:(AF "a")=#[(List.toArray [97])]:=by ac_rfl
  have cB:(AF "b")=#[(List.toArray [98])]:=by ac_rfl
  have g1:exs (yd T (9+k)) [AA (.int w),AA (.int n),AA (.int x),AA (.int y),AA (.loc st.length),AA (.str #[(List.toArray [97])]),AA (.int x),AD,AD] s1 mwB=.nx [AA (.int w),AA (.int n),AA (.int x),AA (.int y),AA (.loc st.length),AA (.str #[(List.toArray [97])]),AA (.int x),q7,q8] s2:=by rw[hc];simp! [mwB,yF,eA,f2]
  have g2:exs (yd T (9+k)) [AA (.int w),AA (.int n),AA (.int x),AA (.int y),AA (.loc st.length),AA (.str #[(List.toArray [98])]),AA (.int y),q7,q8] s2 mwB=.nx [AA (.int w),AA (.int n),AA (.int x),AA (.int y),AA (.loc st.length),AA (.str #[(List.toArray [98])]),AA (.int y),r7,r8] s3:=by rw[hc];simp! [mwB,yF,eB,f3]
  have ag:∀(U:IC.Env) (s:SO) (k:IC.Env->SO->Fl),yaN (.nx U s) k=k U s:=λ_ _ _=>rfl;rw[show 10+k=9+k+1 by lia,zr hT rfl rfl];dsimp only;rw[hb];simp! [yF,e1,ybM,newV,hs1.symm,cA,cB,zF (bt _ _ _ _ _ _ _),zL,g1,g2,ag,zbM,IC.ve33]
def getM(M:Mem)(c:Nat):Nat->Nat->List Int
 |_,0=>[]
 |a,n+1=>M c a::getM M c (a+1) n
def zdp(k:Nat){m l L:Nat}{w mk:Int}{M:Mem}{st:SO}(h:MM st m l w M mk L){c:Nat}(hc:c∈[97,98,99,100,109])(n:Nat)(hn:n<=8):
  yd T (10+k) yhQ [.loc m,.str #[(List.toArray [c])],.int n] st=.ok (.tp AB ((getM M c 0 n).map .int)) st:=by
 have hT:T yhQ=AA #[3,3,AB,yaC.body]:=rfl;have hr:=zbJ n ();have ih:=h.ins (AF "word");have hl:∀(n a:Nat),(getM M c a n).length=n:=by
  intro n
  induction n with
  |zero=>intro a;rfl
  |succ n ihn=>intro a;simp[getM,ihn]
 have hcm:∀(n a:Nat),a+n<=9->yak (yd T (9+k)) [AD,AA (.str #[(List.toArray [c])]),AA (.loc m)] (.n 0) (.cst (.bl AC)) (.mcl cM yhO (AF "word") (.var 2) (.cons (.var 1) (.cons (.var 0) .nil))) (yx n (a:Int) 1) st=.ok ((getM M c a n).map .int) st:=by
  intro n
  induction n with
  |zero=>intro a _;rw[yx,zb0];rfl
  |succ n ihn=>
   intro a ha;have e:=zrQ k h hc (i:=a) ();have one:ybp (yd T (9+k)) [AD,AA (.str #[(List.toArray [c])]),AA (.loc m)] (.n 0) (.cst (.bl AC)) (.mcl cM yhO (AF "word") (.var 2) (.cons (.var 1) (.cons (.var 0) .nil))) (.int (a:Int)) st=.ok (AA (.int (M c a))) st:=by simp! [ybp,ih,e,IC.ve37]
   have q:=ihn (a+1) ();rw[yx,zaq,one,bd_ok,show ((a:Int)+1)=((a+1:Nat):Int)by lia,q,bd_ok];rfl
 have hcm:=hcm n 0 ();have ht:yaE .tuple st [.lst ((getM M c 0 n).map .int)]=AA (.tp AB ((getM M c 0 n).map .int)):=rfl;rw[show 10+k=9+k+1 by lia,zr hT rfl rfl];have hcm:yak (yd T (9+k)) [AD,AA (.str #[(List.toArray [c])]),AA (.loc m)] (.n 0) (.cst (.bl AC)) (.mcl cM yhO (AF "word") (.var 2) (.cons (.var 1) (.cons (.var 0) .nil))) (yx n 0 1) st=_:=hcm;simp! [yaC,hr,hcm];rw[zcA _ (by simp[hl];lia)];simp! [ht,zbM]
def zgs(k:Nat)(x:Int)(w n:Nat)(hw:w<=16)(hn:n<=8)(x0:0<=x)(x1:x<2^(w*n))(st:SO):yd T (k+2) yiv [.int x,.int w,.int n] st=.ok (.tp AB ((yg (2^w) n x).map .int)) st:=by
 have hT:T yiv=AA yii:=rfl;have hwn:w*n<=1000:=by have:w*n<=16*8:=Ad hw hn;lia
 have m1:=zfC w n ();have s1:=zoQ (w*n) hwn;have e1:∀s,yd T (k+1) yhP [.int x,.int w,.int n] s=_:=λs=>lowest k x w n hw hn s;have c1:decide (x<0)=false:=decide_eq_false ();have c2:decide ((2:Int)^(w*n)<=x)=false:=decide_eq_false ();rw[zd hT rfl rfl rfl];generalize hL:yg (2^w) n x=ws at *;simp! [yii,c1,m1,s1,c2,e1];simp[ybK,nL,noLocs_ints]
structure ycp(pr:Prop)(qb:Bool)(deed:PV)(w n na:Nat)(rs:List Rw):Prop where
 nl:nL deed=AC
 isd:yd T 20 yiQ [deed] []=.ok (.bl AC) []
 isp:pr->yd T 20 yy [deed] []=.ok (.bl AC) []
 quo:∀st,(idxV st deed (.int 0)).bind (λv=>yP .isin v yfV)=AA (.bl qb)
 rows:yd T 20 yiu [deed,.int w,.int n] []=.ok (.tp AB (rs.map yM)) []
 ref:∀r∈rs,yd T 20 yhk [yM r] []=.ok .non []
 ans:yd T 20 yB [deed,.int n] []=.ok (.int na) []
 rest:yd T 20 yiR [deed,.int n] []=.ok (.int (if qb=AC then n else 0:Nat)) []
def zf7(k:Nat){pr:Prop}{qb:Bool}{deed:PV}{w n na:Nat}{rs:List Rw}(D:ycp pr qb deed w n na rs)(hw:w<=16)(hn:n<=8){x y:Int}(x0:0<=x)(x1:x<2^(w*n))(y0:0<=y)(y1:y<2^(w*n))(hp:y≠0->pr)(hq:y=0->qb=AB)(st:SO):
  yd T (21+k) ykj [deed,.int w,.int n,.int x,.int y] st=.ok .non st:=by
 have hT:T ykj=AA yhK:=rfl;have hnl:nLs [deed,.int w,.int n,.int x,.int y]=true:=by simp[nLs,D.nl,nL]
 have e1:=zaH D.isd k;have e3:∀s,yd T (20+k) yiv [.int x,.int w,.int n] s=.ok (.tp AB ((yg (2^w) n x).map .int)) s:=λs=>by rw[show 20+k=18+k+2 by lia];exact zgs (18+k) x w n hw hn x0 x1 s
 have e4:∀s,yd T (20+k) yiv [.int y,.int w,.int n] s=.ok (.tp AB ((yg (2^w) n y).map .int)) s:=λs=>by rw[show 20+k=18+k+2 by lia];exact zgs (18+k) y w n hw hn y0 y1 s
 rw[show 21+k=20+k+1 by lia,zd hT rfl rfl hnl];have q:=D.quo []
 cases hi:idxV [] deed (.int 0)with
 |none=>rw[hi]at q;cases q
 |some v=>
  rw[hi,Bb]at q;generalize yg (2^w) n x=xs,yg (2^w) n y=ys at *
  cases hy:(y==0)with
  |true=>
   rw[hq (by simpa using hy)]at q;simp! [yhK,e1,e3,e4,hy,hi,q];rfl
  |false=>
   have e2:=zaH (D.isp (hp (by intro h;rw[h]at hy;exact absurd hy ⋯))) k;simp! [yhK,e1,e2,e3,e4,hy];rfl
theorem ran(k:Nat){pr:Prop}{qb:Bool}{deed:PV}{w n na:Nat}{rs:List Rw}(D:ycp pr qb deed w n na rs)(hw:w<=16)(hw1:1<=w)(hn:n<=4)(hna:na<=8)(hrs:rs.length<5000){x y:Int}(x0:0<=x)(x1:x<2^(w*n))(y0:0<=y)(y1:y<2^(w*n))(hp:y≠0->pr)(hq:y=0->qb=AB)(hh:ybw (2^w) rs (yac (2^w) n x y) 0)(st:SO):
  yd T (22+k) ykk [deed,.int w,.int n,.int x,.int y] st=.ok (.tp AB [.tp AB ((getM (yt (2^w) rs (yac (2^w) n x y) 0).1 99 0 na).map .int),.tp AB ((getM (yt (2^w) rs (yac (2^w) n x y) 0).1 100 0 (if qb=AC then n else 0)).map .int),.tp AB ((getM (yt (2^w) rs (yac (2^w) n x y) 0).1 109 0 4).map .int)]) st:=by
 have hT:T ykk=AA #[5,7,AC,ycz.body]:=rfl;have hnl:nLs [deed,.int w,.int n,.int x,.int y]=true:=by simp[nLs,D.nl,nL]
 have e1:=zf7 k D hw () x0 x1 y0 y1 hp hq [];let#[s2,m,l,_,_,h2,_,e2]:=zfj (11+k) w n hw () x y [];have e2:yd T (21+k) yi7 [.int w,.int n,.int x,.int y] []=.ok (.loc m) s2:=by rw[show 21+k=10+(11+k)by lia];exact e2
 have nl3:nLs [deed,.int w,.int n]=true:=by simp[nLs,D.nl,nL]
 have nl2:nLs [deed,.int n]=true:=by simp[nLs,D.nl,nL]
 have up:∀{f:Nat} {fn:IC.Fn} {args:List PV} {v:PV},T f=AA fn->fn.pure=AC->args.length=fn.np->nLs args=AC->yd T 20 f args []=.ok v []->∀s,yd T (21+k) f args s=.ok v s:=λ{f fn args v} a b c d e s=>by have:=zaH e (1+k);rw[show 20+(1+k)=20+k+1 by lia]at this;rw[show 21+k=20+k+1 by lia];exact zcB a b c d this s
 have e3:=up (f:=yiu) (fn:=yhF) rfl rfl rfl nl3 D.rows s2;let#[s4,h4,_,_,e4]:=zj9 (14+k) (n:=w) () hw1 h2 (rs:=rs) () hh (λr hr=>by have:=zaH (D.ref r hr) k;rw[show 20+k=14+k+6 by lia]at this;exact this)
 have e4:yd T (21+k) yi4 [.loc m,.tp AB (rs.map yM)] s2=.ok .non s4:=by rw[show 21+k=14+k+7 by lia];exact e4
 have e5:=up (f:=yB) (fn:=yhG) rfl rfl rfl nl2 D.ans s4;have e6:=up (f:=yiR) (fn:=yhH) rfl rfl rfl nl2 D.rest s4;have n1:yd T (21+k) yhQ [.loc m,.str #[(List.toArray [99])],.int na] s4=.ok (.tp AB ((getM (yt (2^w) rs (yac (2^w) n x y) 0).1 99 0 na).map .int)) s4:=by have:=zdp (11+k) h4 (c:=99) (by simp) na hna;rw[show 10+(11+k)=21+k by lia]at this;exact this
 have n2:yd T (21+k) yhQ [.loc m,.str #[(List.toArray [100])],.int (if qb=AC then n else 0:Nat)] s4=.ok (.tp AB ((getM (yt (2^w) rs (yac (2^w) n x y) 0).1 100 0 (if qb=AC then n else 0)).map .int)) s4:=by have:=zdp (11+k) h4 (c:=100) (by simp) (if qb=AC then n else 0) (by split<;>lia);rw[show 10+(11+k)=21+k by lia]at this;exact this
 have n3:yd T (21+k) yhQ [.loc m,.str #[(List.toArray [109])],.int 4] s4=.ok (.tp AB ((getM (yt (2^w) rs (yac (2^w) n x y) 0).1 109 0 4).map .int)) s4:=by have:=zdp (11+k) h4 (c:=109) (by simp) 4 ();rw[show 10+(11+k)=21+k by lia]at this;exact this
 have ih:=h2.ins (AF "run");have cC:(AF "c")=#[(List.toArray [99])]:=by ac_rfl
 have cD:(AF "d")=#[(List.toArray [100])]:=by ac_rfl
 have cE:(AF "m")=#[(List.toArray [109])]:=by ac_rfl
 have vM:yjg=.int 4:=rfl;rw[show 22+k=21+k+1 by lia,zd hT rfl rfl hnl];dsimp only;generalize rs.map yM=rows,getM (yt (2^w) rs (yac (2^w) n x y) 0).1 99 0 na=A,getM (yt (2^w) rs (yac (2^w) n x y) 0).1 109 0 4=B,getM (yt (2^w) rs (yac (2^w) n x y) 0).1 100 0 (if qb=AC then n else 0)=C at *;generalize (if qb=AC then n else 0)=nr at *;simp! [ycz,e1,e2,ih,e3,e4,e5,e6,cC,cD,cE,vM,n1,n2,n3,IC.ve37];simp[ybK,nL,nLs,noLocs_ints]
theorem letters:((EG 26).all λj=>isOk (yd T 2 yiJ [.str (chS (97+j))] []) (.bl AC))=true:=by decide +kernel
def zhd(k:Nat){c:Nat}(h1:97<=c)(h2:c<=122)(s:SO):yd T (k+2) yiJ [.str (chS c)] s=.ok (.bl AC) s:=by have h:=Bp.1 letters (c-97) (by simp;lia);rw[show 97+(c-97)=c by lia]at h;have h:=zaH (zdr h) k;rw[show 2+k=k+1+1 by lia]at h;exact zcB (f:=yiJ) (fn:=yiE) rfl rfl rfl rfl h s
def zfF(k:Nat){i a b:Int}(h1:a<=i)(h2:i<=b)(s:SO):yd T (k+1) yhM [.int i,.int a,.int b] s=.ok (.bl AC) s:=by have hT:T yhM=AA yga:=rfl;have e1:ya6 (.int i) [.int]=AA (.bl AC):=rfl;have e2:ya6 (.int i) [.bool]=AA (.bl AB):=rfl;have c1:decide (a<=i)=true:=decide_eq_true h1;have c2:decide (i<=b)=true:=decide_eq_true h2;rw[zd hT rfl rfl rfl];simp! [yga,e1,e2,c1,c2,IC.ve9];rfl
def zkT(k:Nat){x:Cel}(h1:97<=x.1)(h2:x.1<=122)(h3:0<=x.2)(h4:x.2<=99)(s:SO):yd T (k+4) yka [yC x] s=.ok (.bl AC) s:=by
 have hT:T yka=AA yhX:=rfl;have hT2:T ykb=AA yhY:=rfl;have el:∀s,yd T (k+3) ykb [yC x] s=.ok (.bl AC) s:=λs=>by have e:=λs=>zhd k h1 h2 s;rw[zd hT2 rfl rfl rfl];have e1:ya6 (yC x) [.tuple]=AA (.bl AC):=rfl;have e2:∀st,yaE .len st [yC x]=AA (.int 2):=λ_=>rfl;have e3:∀st,idxV st (yC x) (.int 0)=AA (.str (chS x.1)):=λ_=>rfl;generalize yC x=v at *;simp! [yhY,e1,e2,e3,e];rfl
 have ew:=λs=>zfF (k+2) h3 h4 s;have e3:∀st,idxV st (yC x) (.int 1)=AA (.int x.2):=λ_=>rfl;rw[zd hT rfl rfl rfl];generalize yC x=v at *;simp! [yhX,el,e3,ew];rfl
abbrev kC:PV:=.str "cell"
abbrev kF:PV:=.str "figure"
def zm0(k:Nat){x:Cel}(h1:97<=x.1)(h2:x.1<=122)(h3:0<=x.2)(h4:x.2<=99)(s:SO):yd T (k+5) yz [kC,yC x,.bl AB] s=.ok (.bl AC) s:=by
 have hT:T yz=AA ygq:=rfl;have e:=λs=>zkT k h1 h2 h3 h4 s;have c:yP .eq kC kF=AA (.bl AB):=by ac_rfl
 have hnl:nLs [kC,yC x,.bl AB]=true:=rfl;rw[zd hT rfl rfl hnl];generalize yC x=v at *;simp! [ygq,c,e];rfl
def zlf(k:Nat){d:Int}(h1:0<=d)(h2:d<=1)(s:SO):yd T (k+5) yz [kF,.int d,.bl AB] s=.ok (.bl AC) s:=by
 have hT:T yz=AA ygq:=rfl;have e:=λs=>zfF (k+3) h1 h2 s;have c:yP .eq kF kF=AA (.bl AC):=by ac_rfl
 rw[zd hT rfl rfl rfl];simp! [ygq,c,e];rfl
def hfB:Css:=match yV.body with
 |.cons _ (.cons (.for _ _ b) _)=>b
 |x=>x
def zh6(k:Nat){p0 p1:PV}(hp1:p1=.bl AB){st:SO}:∀(l:List (PV×PV)) (p2 p3:Option PV),(∀x∈l,∀s,yd T k yz [x.1,x.2,.bl AB] s=.ok (.bl AC) s) ->
  ∃q2 q3,ybj (yd T k) (.t [2,3]) hfB (l.map λx=>.tp AB [x.1,x.2]) [AA p0,AA p1,p2,p3] st=.nx [AA p0,AA p1,q2,q3] st
 |[],p2,p3,_=>#[p2,p3,zL]
 |(a,b)::l,p2,p3,h=>by
  subst hp1;let#[q2,q3,e]:=zh6 k (p0:=p0) rfl (st:=st) l (AA a) (AA b) (λx hx=>h x (by simp[hx]));refine#[q2,q3,?_];have e1:=h (a,b) (by simp) st;have one:exs (yd T k) [AA p0,AA (.bl AB),AA a,AA b] st hfB=.nx [AA p0,AA (.bl AB),AA a,AA b] st:=by simp only at e1;simp! [hfB,yV,e1]
  rw[AL,zF (U1:=[AA p0,AA (.bl AB),AA a,AA b]) rfl,one];exact e
def zjp(k:Nat){nm:AQ}{ops:List PV}(ho:nLs ops=AC)(hl:0<(.str nm::ops:List PV).length)(hd:ycA ybW (.str nm)=AA (.bl AC))(s:SO):yd T (k+1) yiL [.tp AB (.str nm::ops)] s=.ok (.bl AC) s:=by
 have hT:T yiL=AA yhW:=rfl;have hnl:nLs [.tp AB (.str nm::ops)]=true:=by simp[nLs,nL,ho]
 have e1:ya6 (.tp AB (.str nm::ops)) [.tuple]=AA (.bl AC):=rfl;have e2:∀st,yaE .len st [.tp AB (.str nm::ops)]=AA (.int ((.str nm::ops:List PV).length:Nat)):=λ_=>rfl;have e3:∀st,idxV st (.tp AB (.str nm::ops)) (.int 0)=AA (.str nm):=λ_=>ix0;have e4:ya6 (.str nm) [.str]=AA (.bl AC):=rfl;have c:decide (((.str nm::ops:List PV).length:Int) > 0)=true:=decide_eq_true ();rw[zd hT rfl rfl hnl];generalize (PV.str nm::ops).length=L,PV.tp AB (.str nm::ops)=v at *;simp! [yhW,e1,e2,e3,e4,c,hd,IC.ve29];rfl
def zgL:∀l:List (PV×PV),ya4 (l.map (·.1)) (l.map (·.2))=l.map λx=>.tp AB [x.1,x.2]
 |[]=>rfl
 |(a,b)::l=>by erw[AL,ya4,zgL l,PV.tup]
def hfE:Ce:=match yV.body with
 |.cons _ (.cons _ (.cons (.ret e) _))=>e
 |_=>.nope
def zjE(k:Nat){nm:AQ}(l:List (PV×PV))(hd:ycA ybW (.str nm)=AA (.bl AC))(hr:ycL ybW (.str nm)=AA (.tp AC (l.map (·.1))))(ho:∀x∈l,∀s,yd T (k+1) yz [x.1,x.2,.bl AB] s=.ok (.bl AC) s)(hnl:nLs (l.map (·.2))=AC)
  (ht:∀q2 q3 st,ev (yd T (k+1)) [AA (.tp AB (.str nm::l.map (·.2))),AA (.bl AB),q2,q3] st hfE=.ok (.bl AC) st) (s:SO):yd T (k+2) yiK [.tp AB (.str nm::l.map (·.2)),.bl AB] s=.ok (.bl AC) s:=by
 have hT:T yiK=AA yV:=rfl;have hn2:nLs [.tp AB (.str nm::l.map (·.2)),.bl AB]=true:=by simp[nLs,nL,hnl]
 have e0:∀st,yd T (k+1) yiL [.tp AB (.str nm::l.map (·.2))] st=.ok (.bl AC) st:=λst=>zjp k hnl (by simp) hd st;have e1:∀st,yaE .len st [.tp AB (.str nm::l.map (·.2))]=AA (.int ((l.length+1:Nat):Int)):=λst=>by show AA (PV.int (((PV.str nm::l.map (·.2)).length:Nat):Int))=_;simp
 have e2:∀st,idxV st (.tp AB (.str nm::l.map (·.2))) (.int 0)=AA (.str nm):=λ_=>ix0;have e3:∀st,yaE .len st [.tp AC (l.map (·.1))]=AA (.int (l.length:Nat)):=λst=>by show AA (PV.int (((l.map (·.1)).length:Nat):Int))=_;simp
 have c1:((((l.length+1:Nat):Int)==(l.length:Int)+1):Bool)=true:=by simp
 have o1:ycd (.int 1)=AA (AA 1):=rfl;have e5:ycE (.tp AB (.str nm::l.map (·.2))) (AA 1) .non=AA (.tp AB (l.map (·.2))):=by
  have hc:ybu (l.length+1) 1=1:=by simp[ybu]
  erw[ycE,ycd,ycM,cut,yc3,ydf,A4,Ax,hc,List.drop_succ_cons,HD]
  first
  |(rw[DV (by simp)];done)
  |(simp;done)
  |(simp[DV])
 have e6:yd6 (.tp AC (l.map (·.1))) (.tp AB (l.map (·.2)))=AA (l.map λx=>.tp AB [x.1,x.2]):=by simp[yd6,zgL]
 let#[q2,q3,e7]:=zh6 (k+1) (p0:=.tp AB (.str nm::l.map (·.2))) (p1:=.bl AB) rfl (st:=[]) l AD AD ho
 have hb:yV.body=(match yV.body with
  |.cons a (.cons (.for t i _) (.cons _ r))=>.cons a (.cons (.for t i hfB) (.cons (.ret hfE) r))
  |x=>x):=rfl
 rw[zd hT rfl rfl hn2];rw[hb];generalize hfE=E,hv:PV.tp AB (.str nm::l.map (·.2))=v,hz:(l.map λx=>PV.tp AB [x.1,x.2])=zs,PV.tp AC (l.map (·.1))=ks at *;simp! [yV,e0,e1,e2,hr,e3,c1,e5,e6,e7,ht,o1,onP];rfl
def yO(x:Cel):Prop:=97<=x.1/\x.1<=122/\0<=x.2/\x.2<=99
def yay:Rw->Prop
 |.mark d=>0<=d/\d<=1
 |.ask x=>yO x
 |.set t d=>yO t/\0<=d/\d<=1
 |.move t x | .bare t x | .twice t x | .half t x=>yO t/\yO x
 |.sum t x y | .less t x y | .both t x y | .any t x y | .odd t x y=>yO t/\yO x/\yO y
 |.times a b x y=>yO a/\yO b/\yO x/\yO y/\yP .ne (yC a) (yC b)=AA (.bl AC)
def zfQ{r:PV}{nm:AQ}(l:List (PV×PV))(hr:r=.tp AB (.str nm::l.map (·.2)))(hd:ycA ybW (.str nm)=AA (.bl AC))(hx:ycL ybW (.str nm)=AA (.tp AC (l.map (·.1))))(ho:∀x∈l,∀k s,yd T (k+5) yz [x.1,x.2,.bl AB] s=.ok (.bl AC) s)(hnl:nLs (l.map (·.2))=AC)
  (ht:∀k q2 q3 st,ev (yd T k) [AA r,AA (.bl AB),q2,q3] st hfE=.ok (.bl AC) st):ybE r:=λk s=>by
 have hT:T ygx=AA yhV:=rfl;have e:∀s,yd T (9+k) yiK [r,.bl AB] s=.ok (.bl AC) s:=λs=>by subst hr;rw[show 9+k=7+k+2 by lia];exact zjE (7+k) l hd hx (λx hx s=>by rw[show 7+k+1=3+k+5 by lia];exact ho x hx (3+k) s) hnl (ht _) s
 have hn2:nLs [r]=true:=by subst hr;simp[nLs,nL,hnl]
 rw[show 10+k=9+k+1 by lia,zd hT rfl rfl hn2];simp! [yhV,e];rfl
def zcg{r:PV}{nm:AQ}(l:List (PV×PV))(hr:r=.tp AB (.str nm::l.map (·.2)))(hd:ycA ybW (.str nm)=AA (.bl AC))(hx:ycL ybW (.str nm)=AA (.tp AC (l.map (·.1))))(ho:∀x∈l,∀k s,yd T (k+5) yz [x.1,x.2,.bl AB] s=.ok (.bl AC) s)(hnl:nLs (l.map (·.2))=AC)
  (ht:yP .ne (.str nm) (.str "times")=AA (.bl AC)):ybE r:=zfQ l hr hd hx ho hnl λk q2 q3 st=>by subst hr;have e2:∀st,idxV st (.tp AB (.str nm::l.map (·.2))) (.int 0)=AA (.str nm):=λ_=>ix0;simp! [hfE,yV,e2,ht]
theorem oC{x:Cel}(h:yO x)(k:Nat)(s:SO):yd T (k+5) yz [kC,yC x,.bl AB] s=.ok (.bl AC) s:=zm0 k h.1 h.2.1 h.2.2.1 h.2.2.2 s
def zrW{nm:AQ}{x:Cel}(h:yO x)(hd:ycA ybW (.str nm)=AA (.bl AC))(hx:ycL ybW (.str nm)=AA (.tp AC [kC]))(ht:yP .ne (.str nm) (.str "times")=AA (.bl AC)):ybE (.tp AB [.str nm,yC x]):=
 zcg [(kC,yC x)] rfl hd hx (λa ha=>by erw[AN,AU,or_false]at ha;subst ha;exact oC h) rfl ht
theorem row2{nm:AQ}{t x:Cel}(h0:yO t)(h:yO x)(hd:ycA ybW (.str nm)=AA (.bl AC))(hx:ycL ybW (.str nm)=AA (.tp AC [kC,kC]))(ht:yP .ne (.str nm) (.str "times")=AA (.bl AC)):ybE (.tp AB [.str nm,yC t,yC x]):=
 zcg [(kC,yC t),(kC,yC x)] rfl hd hx (λa ha=>by erw[AN,AU,or_false]at ha;rcases ha with rfl|rfl;exact oC h0;exact oC h) rfl ht
def zq4{nm:AQ}{t x y:Cel}(h0:yO t)(h:yO x)(h2:yO y)(hd:ycA ybW (.str nm)=AA (.bl AC))(hx:ycL ybW (.str nm)=AA (.tp AC [kC,kC,kC]))(ht:yP .ne (.str nm) (.str "times")=AA (.bl AC)):ybE (.tp AB [.str nm,yC t,yC x,yC y]):=
 zcg [(kC,yC t),(kC,yC x),(kC,yC y)] rfl hd hx (λa ha=>by erw[AN,AU,or_false]at ha;rcases ha with rfl|rfl|rfl;exact oC h0;exact oC h;exact oC h2) rfl ht
def zgA:∀r,yay r->ybE (yM r)
 |.mark d,h=>zcg [(kF,.int d)] rfl (by ac_rfl) (by ac_rfl) (λa ha=>by erw[AN,AU,or_false]at ha;subst ha;exact λk s=>zlf k h.1 h.2 s) rfl (by ac_rfl)
 |.ask x,h=>zrW h (by ac_rfl) (by ac_rfl) (by ac_rfl)
 |.set t d,h=>zcg [(kC,yC t),(kF,.int d)] rfl (by ac_rfl) (by ac_rfl) (λa ha=>by erw[AN,AU,or_false]at ha;rcases ha with rfl|rfl;exact oC h.1;exact λk s=>zlf k h.2.1 h.2.2 s) rfl (by ac_rfl)
 |.move t x,h=>row2 h.1 h.2 (by ac_rfl) (by ac_rfl) (by ac_rfl)
 |.bare t x,h=>row2 h.1 h.2 (by ac_rfl) (by ac_rfl) (by ac_rfl)
 |.twice t x,h=>row2 h.1 h.2 (by ac_rfl) (by ac_rfl) (by ac_rfl)
 |.half t x,h=>row2 h.1 h.2 (by ac_rfl) (by ac_rfl) (by ac_rfl)
 |.sum t x y,h=>zq4 h.1 h.2.1 h.2.2 (by ac_rfl) (by ac_rfl) (by ac_rfl)
 |.less t x y,h=>zq4 h.1 h.2.1 h.2.2 (by ac_rfl) (by ac_rfl) (by ac_rfl)
 |.both t x y,h=>zq4 h.1 h.2.1 h.2.2 (by ac_rfl) (by ac_rfl) (by ac_rfl)
 |.any t x y,h=>zq4 h.1 h.2.1 h.2.2 (by ac_rfl) (by ac_rfl) (by ac_rfl)
 |.odd t x y,h=>zq4 h.1 h.2.1 h.2.2 (by ac_rfl) (by ac_rfl) (by ac_rfl)
 |.times a b x y,h=>zfQ [(kC,yC a),(kC,yC b),(kC,yC x),(kC,yC y)] rfl (by ac_rfl) (by ac_rfl) (λz hz=>by erw[AN,AU,or_false]at hz;rcases hz with rfl|rfl|rfl|rfl;exact oC h.1;exact oC h.2.1;exact oC h.2.2.1;exact oC h.2.2.2.1) rfl λk q2 q3 st=>by
  have q:yP .ne (.str "times") (.str "times")=AA (.bl AB):=by ac_rfl
  have h:=h.2.2.2.2;erw[yM];generalize yC a=ca,yC b=cb at *;simp! [hfE,yV,ix0,ix1,ix2,q,h]
def zmb{v:PV}(hn:nL v=AC)(h:ybE v)(k:Nat)(s:SO):yd T (11+k) yhk [v] s=.ok .non s:=by have hT:T yhk=AA yhJ:=rfl;have e:=λs=>h k s;rw[show 11+k=10+k+1 by lia,zd hT rfl rfl (by simp[nLs,hn])];simp! [yhJ,e];rfl
def Good(w:Nat)(M:Mem)(k:Int):Prop:=(∀c i,0<=M c i/\M c i<2^w)/\0<=k/\k<=1
def okD:Rw->Prop
 |.mark d=>0<=d/\d<=1
 |.set _ d=>0<=d/\d<=1
 |_=>True
def zah{w:Nat}{M:Mem}(h:∀c i,0<=M c i/\M c i<2^w)(t:Cel){v:Int}(v0:0<=v)(v1:v<2^w):∀c i,0<=wr M t v c i/\wr M t v c i<2^w:=by
 intro c i;unfold wr upd;split
 .exact#[v0,v1]
 .exact h c i
def zfb{w:Nat}(hw:1<=w){M:Mem}{k:Int}(h:Good w M k){r:Rw}(hd:okD r):Good w (stepM (2^w) M k r).1 (stepM (2^w) M k r).2:=by
 let#[g,k0,k1]:=h;have hW2:(2:Int)<=2^w:=by have h:(2:Nat)^1<=2^w:=AZ () hw;have h2:=pw w;lia
 have hW0:(2:Int)^w≠0:=by lia
 have hWp:(0:Int)<2^w:=by lia
 have md:∀z:Int,0<=z%2^w/\z%2^w<2^w:=λz=>#[Ab _ hW0,AX _ hWp];have dv:∀z:Int,0<=z->z<2*2^w->0<=z/2^w/\z/2^w<=1:=λz z0 z1=>#[B4 z0 (),by have:=BX hWp (a:=z) (b:=2) ();lia]
 cases r with
 |mark d=>exact#[g,hd]
 |ask x=>exact#[g,zQ _]
 |set t d=>exact#[zah g t hd.1 (by have:=hd.2;lia),k0,k1]
 |move t x=>exact#[zah g t (g _ _).1 (g _ _).2,k0,k1]
 |bare t x=>
  have:=g x.1 x.2;exact#[zah g t (by erw[rd];lia) (by erw[rd];lia),k0,k1]
 |twice t x=>
  have:=g x.1 x.2;exact#[zah g t (md _).1 (md _).2,dv _ (by erw[rd];lia) (by erw[rd];lia)]
 |half t x=>
  have:=g x.1 x.2;have hH:(2:Int)^w=2*(2^w/2):=by obtain⟨v,rfl⟩:∃v,w=v+1:=#[w-1,by lia];rw[A5];lia
  have hk:k*(2^w/2)=0 \/ k*((2:Int)^w/2)=2^w/2:=by
   rcases (by lia:k=0 \/ k=1)with rfl|rfl
   .left;lia
   .right;lia
  refine#[zah g t ?_ ?_,?_,?_]
  .simp only[rd];lia
  .simp only[rd];lia
  .simp only[stepM,rd];lia
  .simp only[stepM,rd];lia
 |sum t x y=>
  have:=g x.1 x.2;have:=g y.1 y.2;exact#[zah g t (md _).1 (md _).2,dv _ (by erw[rd];lia) (by erw[rd];lia)]
 |less t x y=>exact#[zah g t (md _).1 (md _).2,zQ _]
 |both t x y=>
  have h:=zox (w:=w) (g x.1 x.2).1 (g y.1 y.2).1 (g y.1 y.2).2;exact#[zah g t h.1 h.2,k0,k1]
 |any t x y=>
  have h:=zpn (w:=w) (g x.1 x.2).1 (g x.1 x.2).2 (g y.1 y.2).1 (g y.1 y.2).2;exact#[zah g t h.1 h.2,k0,k1]
 |odd t x y=>
  have h:=ziF (w:=w) (g x.1 x.2).1 (g x.1 x.2).2 (g y.1 y.2).1 (g y.1 y.2).2;exact#[zah g t h.1 h.2,k0,k1]
 |times l t x y=>
  have a:=g x.1 x.2;have b:=g y.1 y.2;have p0:0<=M x.1 x.2*M y.1 y.2:=Bu a.1 b.1;have p1:M x.1 x.2*M y.1 y.2<2^w*2^w:=by
   rcases (by lia:M x.1 x.2=0 \/ 0<M x.1 x.2)with z|z
   .rw[z,Av];exact Gi hWp hWp
   .exact DL (Int.mul_lt_mul_of_pos_left b.2 z) (Am () ())
  refine#[zah (zah g l (md _).1 (md _).2) t ?_ ?_,k0,k1]
  .exact B4 p0 ()
  .exact BX hWp p1
def zcl{w:Nat}(hw:1<=w):∀(rs:List Rw) {M:Mem} {k:Int},Good w M k->(∀r∈rs,okD r)->Good w (yt (2^w) rs M k).1 (yt (2^w) rs M k).2
 |[],_,_,h,_=>h
 |r::rs,_,_,h,hd=>zcl hw rs (zfb hw h (hd r Aw)) λq hq=>hd q (AS _ hq)
def zdG{w:Nat}{c:Nat}:∀(vs:List Int) (i:Nat) (M:Mem),(∀c i,0<=M c i/\M c i<2^w)->(∀v∈vs,0<=v/\v<2^w)->∀d j,0<=yaL c i vs M d j/\yaL c i vs M d j<2^w
 |[],_,_,h,_=>h
 |v::vs,i,M,h,hv=>by
  rw[yaL];refine zdG vs (i+1) _ (λc' j=>?_) λu hu=>hv u (AS _ hu);unfold upd;split
  .exact hv v Aw
  .exact h c' j
def zcP{w:Nat}:∀(n:Nat) (x:Int),∀v∈yg (2^w) n x,0<=v/\v<2^w
 |0,_,v,h=>by cases h
 |n+1,x,v,h=>by
  have hWp:(0:Int)<2^w:=AY ();rw[yg,AN]at h;rcases h with rfl|h
  .exact#[Ab _ (),AX _ hWp]
  .exact zcP n _ v h
def zeP{w:Nat}(hw:1<=w)(n:Nat)(x y:Int):Good w (yac (2^w) n x y) 0:=by have hWp:(0:Int)<2^w:=AY ();exact#[zdG _ _ _ (zdG _ _ _ (λc i=>#[Eb _,hWp]) (zcP n x)) (zcP n y),by lia,by lia]
def yeu(W:Int)(M:Mem):Prop:=∀c i,0<=M c i/\M c i<W
def zg2{w:Nat}(hw:1<=w)(hw2:w<=16):∀(rs:List Rw) (M:Mem) (k:Int),(∀r∈rs,okD r)->Good w M k->ybw (2^w) rs M k
 |[],M,k,_,_=>trivial
 |r::rs,M,k,hr,g=>by
  let#[h,k0,k1]:=g;exact#[#[λt x _=>#[(h x.1 x.2).1,(h x.1 x.2).2,k0,by lia],λ_ _ x _ _=>by have:=h x.1 x.2;have p:(2:Nat)^w<=2^16:=AZ () hw2;have q:=pw w;show (M x.1 x.2).natAbs<_;have:(2:Nat)^16=65536:=rfl;lia],zg2 hw hw2 rs _ _ (λx hx=>hr x (by simp[hx])) (zfb hw #[h,k0,k1] (hr r (by simp)))]
def sgd(T x:Int):Int:=if T<=2*x then x-T else x
def ybD(T s:Int):Bool:=decide (0-T<=2*s)&&decide (2*s<T)
def yb7(W:Int)(f:Nat->Int):Nat->Int
 |0=>0
 |n+1=>yb7 W f n+f n*W^n
def zli(W:Int)(M:Mem)(c:Nat):∀n,yb7 W (λi=>M c i) n=yo W M c n
 |0=>rfl
 |n+1=>by rw[yb7,yo,zli W M c n]
def zlm(W:Int):∀n,yb7 W (λ_=>0) n=0
 |0=>rfl
 |n+1=>by rw[yb7,zlm W n];simp
def zfM{W:Int}(hW:0<W)(M:Mem)(k:Int)(k0:0<=k)(k1:k<=1)(X Y:Int->Cel)(hX:∀i,(X i).1≠99)(hY:∀i,(Y i).1≠99):∀n:Nat,(∀i:Nat,i<n->0<=rd M (X i)/\rd M (X i)<W)->(∀i:Nat,i<n->0<=rd M (Y i)/\rd M (Y i)<W) ->
  (∀d j,(d≠99 \/ (n:Int)<=j)->(yt W (yG (λi=>.less (99,i) (X i) (Y i)) n) M k).1 d j=M d j)/\Dg W (yt W (yG (λi=>.less (99,i) (X i) (Y i)) n) M k).1 99 n/\0<=(yt W (yG (λi=>.less (99,i) (X i) (Y i)) n) M k).2/\(yt W (yG (λi=>.less (99,i) (X i) (Y i)) n) M k).2<=1/\yo W (yt W (yG (λi=>.less (99,i) (X i) (Y i)) n) M k).1 99 n-(yt W (yG (λi=>.less (99,i) (X i) (Y i)) n) M k).2*W^n=yb7 W (λi=>rd M (X i)) n-yb7 W (λi=>rd M (Y i)) n-k
 |0,_,_=>#[λ_ _ _=>rfl,λi hi=>by lia,k0,k1,by simp[yo,yb7,yG,yt]]
 |n+1,ha,hb=>by
  let#[h1,h2,h3,h4,h5]:=zfM hW M k k0 k1 X Y hX hY n (λi hi=>ha i ()) (λi hi=>hb i ());rw[yG,zh];generalize yt W (yG (λi=>.less (99,i) (X i) (Y i)) n) M k=R at *;let#[M1,k']:=R;simp only at *;let#[a0,a1]:=ha n ();let#[b0,b1]:=hb n ();have rx:rd M1 (X n)=rd M (X n):=h1 _ _ (.inl (hX _));have ry:rd M1 (Y n)=rd M (Y n):=h1 _ _ (.inl (hY _));erw[yt,stepM,wr,rx,ry];rw[yb7,yb7];generalize rd M (X n)=A,rd M (Y n)=B at *;have hq:∃q,0<=q/\q<=1/\bi (decide (A-B-k' < 0))=q/\(A-B-k')%W=A-B-k'+q*W:=by
   by_cases hl:A-B-k' < 0
   .refine#[1,by lia,by lia,by rw[decide_eq_true hl];rfl,?_];rw[Az,<-B9];exact AM () ()
   .refine#[0,by lia,by lia,by rw[decide_eq_false hl];rfl,?_];rw[Av,B2];exact AM () ()
  let#[q,q0,q1,e1,e2]:=hq;have d1:=Ab (A-B-k') (show W≠0 by lia);have d2:=AX (A-B-k') hW;rw[e1];refine#[λd j hd=>?_,λi hi=>?_,q0,q1,?_]
  .unfold upd;rw[if_neg (),h1 d j ()]
  .unfold upd
   by_cases hin:i=n
   .subst hin;rw[if_pos #[rfl,rfl]];exact#[d1,d2]
   .rw[if_neg ()];exact h2 i ()
  .have hv:yo W (upd M1 99 (n:Int) ((A-B-k')%W)) 99 (n+1)=yo W M1 99 n+(A-B-k')%W*W^n:=by rw[yo,zc (M':=M1) (c':=99) n λi hi=>by unfold upd;rw[if_neg ()]];unfold upd;rw[if_pos #[rfl,rfl]]
   rw[hv,e2,A5];generalize W^n=P at *;have e3:(A-B-k'+q*W)*P-q*(P*W)=A*P-B*P-k' * P:=by rw[Ay,BA,BA,Ae q W P,A3 W P];lia
   generalize (A-B-k'+q*W)*P=X1,q*(P*W)=X2 at *;lia
def ziZ{w:Nat}(hw:1<w){n:Nat}(M:Mem)(X Y:Int->Cel)(L0 L1:Cel)(hX:∀i,(X i).1≠99)(hY:∀i,(Y i).1≠99)
  (ha:∀i:Nat,i<n+1->0<=rd M (X i)/\rd M (X i)<2^w) (hb:∀i:Nat,i<n+1->0<=rd M (Y i)/\rd M (Y i)<2^w) (zo:M 122 0=0)
  (hL0:L0=X n) (hL1:L1=Y n) (l0:L0.1≠115/\L0.1≠116/\L0.1≠109) (l1:L1.1≠115/\L1.1≠116/\L1.1≠109):
  ∃z k1,0<=z/\z<(2^w:Int)^(n+1)/\(k1=0 \/ k1=1)/\z-k1*(2^w:Int)^(n+1)=yb7 (2^w) (λi=>rd M (X i)) (n+1)-yb7 (2^w) (λi=>rd M (Y i)) (n+1) /\
   ∃M4 k4,yt (2^w) (.mark 0::(yG (λi=>.less (99,i) (X i) (Y i)) (n+1)++(.sum (109,0) cZ cZ::(yQ L0 L1 (99,n)++yE (n+1))))) M 0=(M4,k4) /\
    yo (2^w) M4 99 (n+1)=z/\M4 109 0=k1/\M4 109 1=(tb w (rd M L0)+tb w (rd M L1))%2*((tb w (rd M L0)+if (2^w:Int)^(n+1)<=2*z then 1 else 0)%2)/\M4 109 2=bi (z==0)/\M4 109 3=bi (decide ((2^w:Int)^(n+1)<=2*z)):=by
 have hW:(0:Int)<2^w:=AY ();have hW4:(4:Int)<=2^w:=by have h:(2:Nat)^2<=2^w:=AZ () ();have h2:=pw w;lia
 let#[s1,s2,s3,s4,s5]:=zfM hW M 0 () () X Y hX hY (n+1) ha hb;have hs0:stepM (2^w) M 0 (.mark 0)=(M,0):=rfl;rw[zl,hs0,zh,zl];generalize yt (2^w) (yG (λi=>.less (99,i) (X i) (Y i)) (n+1)) M 0=R at *;let#[M1,k1]:=R;simp only at *;have z1:M1 122 0=0:=by rw[s1 122 0 (.inl ⋯),zo]
 have hs:stepM (2^w) M1 k1 (.sum (109,0) cZ cZ)=(wr M1 (109,0) k1,0):=by erw[stepM,rd,cZ,z1];rw[show (0:Int)+0+k1=k1 by lia,AM s3 (),BN s3 ()]
 rw[hs,zh];simp only;have g2:∀d j,(d≠109 \/ j≠0)->wr M1 (109,0) k1 d j=M1 d j:=λd j h=>by erw[wr,upd];rw[if_neg ()]
 have g3:wr M1 (109,0) k1 109 0=k1:=by simp[wr,upd]
 generalize wr M1 (109,0) k1=M2 at *;have gc:∀j,M2 99 j=M1 99 j:=λj=>g2 99 j (.inl ⋯);have dc2:Dg (2^w) M2 99 (n+1):=λi hi=>by rw[gc];exact s2 i hi
 have tc:=zaU () dc2;let#[r0,r1]:=zw hW (n+1) dc2;have vc:yo (2^w) M2 99 (n+1)=yo (2^w) M1 99 (n+1):=zc _ λi hi=>gc i;rw[<-vc]at s5;have n0:L0.1≠99:=by rw[hL0];exact hX _
 have n1:L1.1≠99:=by rw[hL1];exact hY _
 have q0:rd M2 L0=rd M L0:=by show M2 L0.1 L0.2=M L0.1 L0.2;rw[g2 _ _ (.inl l0.2.2),s1 _ _ (.inl n0)]
 have q1:rd M2 L1=rd M L1:=by show M2 L1.1 L1.2=M L1.1 L1.2;rw[g2 _ _ (.inl l1.2.2),s1 _ _ (.inl n1)]
 have a0:=ha n ();have b0:=hb n ();rw[<-hL0,<-q0]at a0;rw[<-hL1,<-q1]at b0;let#[e1,e2,e3]:=zfR hw M2 L0 L1 (99,n) #[l0.1,l0.2.1] #[l1.1,l1.2.1] #[by simp,by simp] (by rw[g2 122 0 (.inl ⋯),z1]) a0 b0 (dc2 n ());rw[q0,q1,show rd M2 (99,(n:Int))=M2 99 n from rfl,tc]at e3;generalize yt (2^w) (yQ L0 L1 (99,(n:Int))) M2 0=R at *;let#[M3,k3]:=R;simp only at *;have gc3:∀j,M3 99 j=M2 99 j:=λj=>e1 99 j ⋯ ⋯ (.inl ⋯);have dc3:Dg (2^w) M3 99 (n+1):=λi hi=>by rw[gc3];exact dc2 i hi
 have vc3:yo (2^w) M3 99 (n+1)=yo (2^w) M2 99 (n+1):=zc _ λi hi=>gc3 i;let#[f1,f2,f3,f4,f5]:=zcw hw M3 k3 dc3 (by rw[e1 122 0 ⋯ ⋯ (.inl ⋯),g2 122 0 (.inl ⋯),z1]);refine#[yo (2^w) M2 99 (n+1),k1,r0,r1,by lia,by lia,(yt (2^w) (yE (n+1)) M3 k3).1,(yt (2^w) (yE (n+1)) M3 k3).2,rfl,?_,?_,?_,?_,?_]
 .rw[zc (M':=M3) (c':=99) _ λi hi=>f1 i,vc3]
 .rw[f2,e1 109 0 ⋯ ⋯ (.inr ⋯),g3]
 .rw[f3,e3]
 .rw[f4,vc3]
 .rw[f5,vc3]
def zhU{w:Nat}(hw:1<w){n:Nat}{x y:Int}(x0:0<=x)(x1:x<(2^w:Int)^(n+1)):
  yo (2^w) (yt (2^w) (yaa (n+1)) (yac (2^w) (n+1) x y) 0).1 99 (n+1)=(0-x)%(2^w:Int)^(n+1) /\
  (yt (2^w) (yaa (n+1)) (yac (2^w) (n+1) x y) 0).1 109 0=bi (!(x==0)) /\
  (yt (2^w) (yaa (n+1)) (yac (2^w) (n+1) x y) 0).1 109 1=bi (2*x==(2^w:Int)^(n+1)) /\
  (yt (2^w) (yaa (n+1)) (yac (2^w) (n+1) x y) 0).1 109 2=bi ((0-x)%(2^w:Int)^(n+1)==0) /\
  (yt (2^w) (yaa (n+1)) (yac (2^w) (n+1) x y) 0).1 109 3=bi (decide ((2^w:Int)^(n+1)<=2*((0-x)%(2^w:Int)^(n+1)))):=by
 have hW:(0:Int)<2^w:=AY ();have hn:((n+1:Nat):Int)-1=n:=by lia
 have e:yaa (n+1)=.mark 0::(yG (λi=>.less (99,i) ((λ_=>cZ) i) ((λi=>(97,i)) i)) (n+1)++(.sum (109,0) cZ cZ::(yQ cZ (97,n) (99,n)++yE (n+1)))):=by erw[yaa,hn,BJ,Ak,BF]
 have da:=ze5 (n+1) x y hW;have zo:yac (2^w) (n+1) x y 122 0=0:=zfh _ _ _ ⋯ ⋯ _;let#[z,k1,r0,r1,hk,s5,M4,k4,e0,v1,v2,v3,v4,v5]:=ziZ hw (n:=n) (yac (2^w) (n+1) x y) (λ_=>cZ) (λi=>(97,i)) cZ (97,n) (λ_=>by simp) (λ_=>by simp) (λi hi=>by erw[rd,cZ,zo];lia) (λi hi=>da i hi) zo rfl rfl #[by simp,by simp,by simp] #[by simp,by simp,by simp];rw[e,e0];erw[rd,cZ,zo]at v3 s5;rw[zlm,zli (2^w) (yac (2^w) (n+1) x y) 97,zet (n+1) x y hW x0 x1]at s5;rw[zaU () da,zet (n+1) x y hW x0 x1,show tb w 0=0 by simp[tb]]at v3;generalize (2^w:Int)^(n+1)=T at *;have hz:(0-x)%T=z:=by rw[show 0-x=z+(-k1)*T by rw[FV];lia,B3,AM r0 r1]
 erw[v1,v2,v3,v4,v5,hz];refine#[trivial,?_,?_,trivial,trivial]
 .rcases hk with rfl|rfl
  .rw[show x=0 by lia];rfl
  .rw[beq_eq_false_iff_ne.2 ()];rfl
 .rcases hk with rfl|rfl<;>by_cases q1:T<=2*x<;>by_cases q3:T<=2*z<;>erw[q1,q3,if_true,if_false]
  all_goals first
   |(exfalso;lia)
   |(rw[beq_eq_false_iff_ne.2 ()];rfl)
   |(rw[beq_iff_eq.2 ()];rfl)
def cx(l:Nat)(c i j m:Int):Op:=.cel #[l,c,i,j,m]
def rS(nm:String)(ops:List Op):Rs:=#[AF nm,ops]
def oZ:Op:=cx 122 0 0 0 0
def oS:Op:=cx 115 0 0 0 0
def oT:Op:=cx 116 0 0 0 0
def oM(i:Int):Op:=cx 109 i 0 0 0
def ybk(c m:Int):List T1:=[.row (rS "set" [oS,.fig 0]),.rounds c m 0 [.row (rS "any" [oS,oS,cx 99 0 1 0 0])],.row (rS "ask" [oS]),.row (rS "set" [oM 2,.fig 1]),.row (rS "less" [oM 2,oM 2,oZ]),.row (rS "twice" [oT,cx 99 (c-1) 0 0 m]),.row (rS "sum" [oM 3,oZ,oZ])]
def ybn:T1:=.row (rS "sum" [oM 0,oZ,oZ])
def zbB{g:Nat->List PV}{f:Int->Rw}(h:∀I:Nat,g I=[yM (f I)]):∀n,upTo g n=(yG f n).map yM
 |0=>rfl
 |n+1=>by rw[upTo,yG,zbB h n,h n,Ba];rfl
def zaA(w:Int)(n:Nat):cnt 0 1 0 w n=n:=by simp[cnt]
def zlK(I:Nat)(n:Int):(rS "any" [oS,oS,cx 99 0 1 0 0]).pv I 0 n=yM (.any cS cS (99,I)):=by simp[Rs.pv,rS,Op.pv,oS,cx,Cx.at,yM,yC]
def zg1(w:Int)(n:Nat):yD w n (ybk 0 1)=(yE n).map yM:=by have h:=zbB (g:=λI=>yad w n I [.row (rS "any" [oS,oS,cx 99 0 1 0 0])]) (f:=λi=>.any cS cS (99,i)) (λI=>by simp[yad,T2.rows,zlK]) n;erw[yD,ybk,Ap,BL,T1.rows,zaA,h,yE,Ba,AL,Ah,Aj];simp[Rs.pv,rS,Op.pv,oS,oT,oZ,oM,cx,Cx.at,yM,yC,Int.sub_eq_add_neg,Cz]
def ziQ(w:Int)(n:Nat):T1.rows w n ybn=[yM (.sum (109,0) cZ cZ)]:=by simp[ybn,T1.rows,Rs.pv,rS,Op.pv,oM,oZ,cx,Cx.at,yM,yC]
def zG(w n:Int)(a b:List T1):yD w n (a++b)=yD w n a++yD w n b:=by simp[yD]
def zaR(w n:Int)(a b:List T1):yaG w n (a++b)=yaG w n a+yaG w n b:=by simp[yaG]
def zaM(f:Int->Rw)(m:Nat):(yG f m).length=m:=by
 induction m with
 |zero=>rfl
 |succ m ih=>simp[yG,ih]
abbrev cL:Cel:=(108,0)
abbrev cHi:Cel:=(104,0)
abbrev cO:Cel:=(111,0)
def inR(I J:Nat):List Rw:=[.times cL cHi (97,J) (98,I),.sum cL cL cO,.sum cHi cHi cZ,.sum (99,(I:Int)+J) (99,(I:Int)+J) cL,.sum cO cHi cZ]
def yaR(n I:Nat):List Rw:=.mark 0 :: .set cO 0::(upTo (inR I) n++[.move (99,(I:Int)+n) cO])
def yaD(n:Nat):List Rw:=upTo (yaR n) n
def zhy{w:Nat}(hw:1<=w):(2:Int)<=2^w:=by have h:(2:Nat)^1<=2^w:=AZ () hw;have h2:=pw w;lia
def zkk{W A B o c:Int}(hW:2<=W)(a0:0<=A)(a1:A<W)(b0:0<=B)(b1:B<W)(o0:0<=o)(o1:o<W)(c0:0<=c)(c1:c<W):
  (A*B/W+0+(A*B%W+o+0)/W)/W=0/\((A*B/W+0+(A*B%W+o+0)/W)%W+0+(c+(A*B%W+o+0)%W+0)/W)/W=0 /\
  (c+(A*B%W+o+0)%W+0)%W+W*(((A*B/W+0+(A*B%W+o+0)/W)%W+0+(c+(A*B%W+o+0)%W+0)/W)%W)=A*B+o+c:=by
 have hW0:W≠0:=by lia
 have hWp:0<W:=by lia
 have hP:A*B<=(W-1)*(W-1):=EW () () b0 ();have hP0:0<=A*B:=Bu a0 b0;have hE:(W-1)*(W-1)=W*W-2*W+1:=by rw[BA,CG];lia
 have hE2:(W-1)*W=W*W-W:=by rw[BA];lia
 generalize A*B=P at *;have h1:P/W<W-1:=BX hWp ();have h0:0<=P/W:=B4 hP0 ();have e1:=As P W;have l0:=Ab P hW0;have l1:=AX P hWp;generalize P/W=h,P%W=l at *;erw[B2];have e2:=As (l+o) W;have k0:0<=(l+o)/W:=B4 () ();have k1:(l+o)/W<2:=BX hWp ();have m0:=Ab (l+o) hW0;have m1:=AX (l+o) hWp;generalize (l+o)/W=k,(l+o)%W=l2 at *;have q1:(h+k)/W=0:=BN () ();have q2:(h+k)%W=h+k:=AM () ();rw[q2];have e3:=As (c+l2) W;have j0:0<=(c+l2)/W:=B4 () ();have n0:=Ab (c+l2) hW0;have n1:=AX (c+l2) hWp;generalize (c+l2)/W=k3,(c+l2)%W=c2 at *;have hT:c2+W*(h+k+k3)=P+o+c:=by rw[By,By];lia
 have hlt:W*(h+k+k3)<W*W:=by lia
 have hlt2:h+k+k3<W:=Int.lt_of_mul_lt_mul_left hlt ();refine#[q1,BN () hlt2,?_];rw[AM () hlt2];exact hT
def znQ{I J:Nat}:∀r∈inR I J,okD r:=by intro r hr;erw[inR,AN,AU,or_false]at hr;rcases hr with rfl|rfl|rfl|rfl|rfl<;>trivial
def zl2{w:Nat}(hw:1<=w){M:Mem}{I J:Nat}(hg:Good w M 0)(hz:M 122 0=0):
  ∃M',yt (2^w) (inR I J) M 0=(M',0)/\Good w M' 0/\M' 99 ((I+J:Nat):Int)+2^w*M' 111 0=M 97 J*M 98 I+M 111 0+M 99 ((I+J:Nat):Int)/\∀d j,d≠108->d≠104->d≠111->(d≠99 \/ j≠((I+J:Nat):Int))->M' d j=M d j:=by
 have hgg:=zcl hw (inR I J) hg znQ;have hc:(I:Int)+(J:Int)=((I+J:Nat):Int):=by lia
 let#[s1,s2,s3]:=zkk (zhy hw) (hg.1 97 J).1 (hg.1 97 J).2 (hg.1 98 I).1 (hg.1 98 I).2 (hg.1 111 0).1 (hg.1 111 0).2 (hg.1 99 ((I+J:Nat):Int)).1 (hg.1 99 ((I+J:Nat):Int)).2;have hr:(yt (2^w) (inR I J) M 0).2=0:=by erw[inR,yt,stepM,rd,wr,upd,cL,cHi,cO,cZ,hc,CY,false_and,if_false,and_self,if_true,hz,s1,s2]
 refine#[_,Hj rfl hr,by rw[hr]at hgg;exact hgg,?_,λd j h1 h2 h3 h4=>?_]
 .simp only[inR,yt,stepM,rd,wr,upd,cL,cHi,cO,cZ,hc,CY,false_and,if_false,and_self,if_true,hz,s1,s2];exact s3
 .simp only[inR,yt,stepM,rd,wr,upd,cL,cHi,cO,cZ,hc,h1,h2,h3,false_and,if_false];rw[if_neg ()]
def sh(o:Nat)(M:Mem):Mem:=λd i=>M d ((o:Int)+i)
def zbh(W:Int)(M:Mem)(c I:Nat):∀n,yo W M c (I+n)=yo W M c I+W^I*yo W (sh I M) c n
 |0=>by simp[yo]
 |n+1=>by
  rw[show I+(n+1)=I+n+1 by lia,yo,zbh W M c I n,yo,By,FW];have:M c ((I+n:Nat):Int)=sh I M c n:=by unfold sh;congr 1
  rw[this,D4 (sh I M c n)];rw[HN]
def zcx{M:Mem}{o c:Nat}(n:Nat):sh o M c n=M c ((o+n:Nat):Int):=by unfold sh;congr 1
def ziu{w:Nat}(hw:1<=w){M:Mem}{I:Nat}(hg:Good w M 0)(hz:M 122 0=0):∀j:Nat,∃M',yt (2^w) (upTo (inR I) j) M 0=(M',0)/\Good w M' 0/\(∀d (i:Int),d≠108->d≠104->d≠111->(d≠99 \/ i<I \/ (I:Int)+j<=i)->M' d i=M d i) /\
  yo (2^w) (sh I M') 99 j+M' 111 0*(2^w)^j=yo (2^w) (sh I M) 99 j+yo (2^w) M 97 j*M 98 I+M 111 0
 |0=>#[M,rfl,hg,λ_ _ _ _ _ _=>rfl,by simp[yo]]
 |j+1=>by
  let#[M1,e1,g1,o1,v1]:=ziu hw hg hz j;let#[M2,e2,g2,s2,o2]:=zl2 hw (I:=I) (J:=j) g1 (by rw[o1 122 0 ⋯ ⋯ ⋯ (.inl ⋯)];exact hz);refine#[M2,?_,g2,λd i h1 h2 h3 h4=>?_,?_]
  .rw[upTo,zh,e1];exact e2
  .rw[o2 d i h1 h2 h3 (),o1 d i h1 h2 h3 ()]
  .rw[o1 97 j ⋯ ⋯ ⋯ (.inl ⋯),o1 98 I ⋯ ⋯ ⋯ (.inl ⋯),o1 99 ((I+j:Nat):Int) ⋯ ⋯ ⋯ (.inr (.inr ()))]at s2;have hv:yo (2^w) (sh I M2) 99 j=yo (2^w) (sh I M1) 99 j:=zc j λt ht=>by rw[zcx,zcx,o2 99 _ ⋯ ⋯ ⋯ (.inr ())]
   rw[yo,yo,yo,zcx,zcx,hv,A5];generalize ((2:Int)^w)^j=P at *;generalize (2:Int)^w=W at *;have e3:M2 99 ((I+j:Nat):Int)*P+M2 111 0*(P*W)=(M 97 j*M 98 I+M1 111 0+M 99 ((I+j:Nat):Int))*P:=by rw[<-s2,Ay,A3 P W,<-Ae,A3 (M2 111 0) W]
   rw[Ay,Ay]at e3;have e4:(yo W M 97 j+M 97 j*P)*M 98 I=yo W M 97 j*M 98 I+M 97 j*M 98 I*P:=by rw[Ay,Fv]
   rw[e4];generalize M2 99 ((I+j:Nat):Int)*P=x1,M2 111 0*(P*W)=x2,M 97 j*M 98 I*P=x3,M1 111 0*P=x4,M 99 ((I+j:Nat):Int)*P=x5,yo W M 97 j*M 98 I=x6 at *;lia
def zpA{w:Nat}(hw:1<=w){M:Mem}{k:Int}{n I:Nat}(hg:Good w M k)(hz:M 122 0=0):∃M',yt (2^w) (yaR n I) M k=(M',0)/\Good w M' 0/\(∀d (i:Int),d≠108->d≠104->d≠111->d≠99->M' d i=M d i) /\
  yo (2^w) M' 99 (n+I+1)=yo (2^w) M 99 (n+I)+yo (2^w) M 97 n*(M 98 I*(2^w)^I):=by
 have hW0:=zhy hw;have g1:Good w (wr M cO 0) 0:=#[zah hg.1 cO () (),by lia,by lia];have q1:∀d j,d≠111->wr M cO 0 d j=M d j:=λd j h=>by erw[wr,upd,cO,h,false_and,if_false]
 have q2:wr M cO 0 111 0=0:=by simp[wr,upd]
 have hst:yt (2^w) (yaR n I) M k=yt (2^w) (upTo (inR I) n++[.move (99,(I:Int)+n) cO]) (wr M cO 0) 0:=rfl;generalize wr M cO 0=M1 at *;let#[M2,e2,g2,o2,v2]:=ziu hw (I:=I) g1 (by rw[q1 122 0 ⋯];exact hz) n;have hmv:yt (2^w) [.move (99,(I:Int)+n) cO] M2 0=(wr M2 (99,(I:Int)+n) (M2 111 0),0):=rfl;rw[hst,zh,e2];refine#[_,hmv,#[zah g2.1 _ (g2.1 _ _).1 (g2.1 _ _).2,by lia,by lia],λd i h1 h2 h3 h4=>?_,?_]
 .simp only[wr,upd,h4,false_and,if_false];rw[o2 d i h1 h2 h3 (.inl h4),q1 d i h3]
 .have hlow:∀i:Nat,i<n+I->wr M2 (99,(I:Int)+n) (M2 111 0) 99 i=M2 99 i:=λi hi=>by erw[wr,upd];rw[if_neg ()]
  have htop:wr M2 (99,(I:Int)+n) (M2 111 0) 99 ((n+I:Nat):Int)=M2 111 0:=by erw[wr,upd];rw[if_pos #[trivial,by lia]]
  rw[yo,zc (M':=M2) (c':=99) _ hlow,htop,Nat.add_comm n I,zbh,zbh (2^w) M,FW];have hv1:yo (2^w) M2 99 I=yo (2^w) M 99 I:=zc I λi hi=>by rw[o2 99 i ⋯ ⋯ ⋯ (.inr (.inl ())),q1 99 i ⋯]
  have hv2:yo (2^w) (sh I M1) 99 n=yo (2^w) (sh I M) 99 n:=zc n λi hi=>by rw[zcx,zcx,q1 99 _ ⋯]
  have hv3:yo (2^w) M1 97 n=yo (2^w) M 97 n:=zc n λi hi=>q1 97 i ⋯;rw[hv2,hv3,q1 98 I ⋯,q2,B2]at v2;rw[hv1];generalize ((2:Int)^w)^I=P,((2:Int)^w)^n=N,yo (2^w) (sh I M2) 99 n=x1,yo (2^w) (sh I M) 99 n=x2,yo (2^w) M 97 n=A at *;have e:P*x1+M2 111 0*(P*N)=P*(x2+A*M 98 I):=by rw[<-v2,By,D4 (M2 111 0) P N]
  rw[By,D4 P A,A3 P (M 98 I)]at e;lia
def ziJ{w:Nat}(hw:1<=w){M:Mem}{n:Nat}(hg:Good w M 0)(hz:M 122 0=0)(hc:yo (2^w) M 99 n=0):∀I:Nat,∃M',yt (2^w) (upTo (yaR n) I) M 0=(M',0)/\Good w M' 0/\(∀d (i:Int),d≠108->d≠104->d≠111->d≠99->M' d i=M d i) /\
  yo (2^w) M' 99 (n+I)=yo (2^w) M 97 n*yo (2^w) M 98 I
 |0=>#[M,rfl,hg,λ_ _ _ _ _ _=>rfl,by simp[yo,hc]]
 |I+1=>by
  let#[M1,e1,g1,o1,v1]:=ziJ hw hg hz hc I;let#[M2,e2,g2,o2,v2]:=zpA hw (n:=n) (I:=I) g1 (by rw[o1 122 0 ⋯ ⋯ ⋯ ⋯];exact hz);refine#[M2,?_,g2,λd i h1 h2 h3 h4=>by rw[o2 d i h1 h2 h3 h4,o1 d i h1 h2 h3 h4],?_]
  .rw[upTo,zh,e1];exact e2
  .rw[show n+(I+1)=n+I+1 by lia,v2,v1,zc (M:=M1) (M':=M) (c:=97) (c':=97) n λi hi=>o1 97 i ⋯ ⋯ ⋯ ⋯,o1 98 I ⋯ ⋯ ⋯ ⋯,yo,By]
def oL:Op:=cx 108 0 0 0 0
def oHi:Op:=cx 104 0 0 0 0
def oO:Op:=cx 111 0 0 0 0
def inT:List Rs:=[rS "times" [oL,oHi,cx 97 0 0 1 0,cx 98 0 1 0 0],rS "sum" [oL,oL,oO],rS "sum" [oHi,oHi,oZ],rS "sum" [cx 99 0 1 1 0,cx 99 0 1 1 0,oL],rS "sum" [oO,oHi,oZ]]
def ybz:T1:=.rounds 0 1 0 [.row (rS "mark" [.fig 0]),.row (rS "set" [oO,.fig 0]),.rounds 0 1 0 inT,.row (rS "move" [cx 99 0 1 0 1,oO])]
def zag{g:Nat->List PV}{f:Nat->List Rw}(h:∀I:Nat,g I=(f I).map yM):∀n,upTo g n=(upTo f n).map yM
 |0=>rfl
 |n+1=>by rw[upTo,upTo,zag h n,h n,Ba]
def zll(w:Int)(n:Nat):cnt 0 2 0 w n=2*n:=by simp[cnt];lia
def zlV(w:Int)(n:Nat):yD w n (ybk 0 2)=(yE (2*n)).map yM:=by
 have hh:=zbB (g:=λI=>yad w n I [.row (rS "any" [oS,oS,cx 99 0 1 0 0])]) (f:=λi=>.any cS cS (99,i)) (λI=>by simp[yad,T2.rows,zlK]) (2*n);have hl:(0:Int)-1+2*(n:Int)=((2*n:Nat):Int)-1:=by lia
 erw[yD,ybk,Ap,BL,T1.rows,zll,hh,yE,Ba,AL,Ah,Aj];erw[Rs.pv,rS,Op.pv,oS,oT,oZ,oM,cx,Cx.at,yM,yC,hl,AL,Ah,Ak,BF,Av,B2]
def zqE(n:Int)(I J:Nat):(inT.map λr=>r.pv I J n)=(inR I J).map yM:=by simp[inT,inR,Rs.pv,rS,Op.pv,oL,oHi,oO,oZ,cx,Cx.at,yM,yC]
def zmx(w:Int)(n:Nat):T1.rows w n ybz=(yaD n).map yM:=by
 unfold ybz yaD;rw[T1.rows,zaA];refine zag (λI=>?_) n;have h:=zag (g:=λJ=>inT.map λr=>r.pv I J n) (f:=inR I) (zqE n I) n;have hm:(0:Int)+1*(I:Int)+1*(n:Int)=(I:Int)+n:=by lia
 erw[yad,Ap,BL,Aj,T2.rows,zaA,h,yaR,AL,Ba,Ah,Ak,BF];erw[Rs.pv,rS,Op.pv,oO,cx,Cx.at,yM,yC,AL,Ah,Av,B2,hm]
def zkV(w:Int)(n:Nat):T1.rnd w n ybz=n*(1+n):=by simp[ybz,T1.rnd,ybr,T2.rnd,zaA]
def zkx(w:Int)(n:Nat):yaG w n (ybk 0 2)=2*n:=by simp[yaG,ybk,T1.rnd,zll,ybr,T2.rnd]
def zW{f:Nat->List Rw}{c:Nat}(h:∀i,(f i).length=c):∀k,(upTo f k).length=k*c
 |0=>by simp[upTo]
 |k+1=>by rw[upTo,Al,zW h k,h,GR]
def zfn(n:Nat):(yaD n).length=n*(n*5+3):=zW (λI=>by simp[yaR,zW (f:=inR I) (c:=5) (λ_=>rfl)]) n
def zar{f:Int->Rw}{r:Rw}:∀{n:Nat},r∈yG f n->∃i:Nat,i<n/\r=f i
 |0,h=>by simp[yG]at h
 |n+1,h=>by
  rw[yG,BE]at h;rcases h with h|h
  .let#[i,hi,e]:=zar h;exact#[i,by lia,e]
  .simp at h;exact#[n,by lia,h]
def zN{f:Nat->List Rw}{r:Rw}:∀{n:Nat},r∈upTo f n->∃i:Nat,i<n/\r∈f i
 |0,h=>by simp[upTo]at h
 |n+1,h=>by
  rw[upTo,BE]at h;rcases h with h|h
  .let#[i,hi,e]:=zN h;exact#[i,by lia,e]
  .exact#[n,by lia,h]
def zfD{n:Nat}(hn:1<=n)(hn2:n<=8):∀r∈yE n,yay r:=by
 intro r hr;erw[yE,BE,AN,AU,or_false]at hr;rcases hr with (rfl|hr)|rfl|rfl|rfl|rfl|rfl
 case inl.inr=>let#[i,hi,rfl]:=zar hr;erw[yay,yO];lia
 all_goals erw[yay,yO];lia
def zn3:∀r,yay r->okD r
 |.mark _,h=>h
 |.set _ _,h=>h.2
 |.times _ _ _ _,_ | .ask _,_ | .move _ _,_ | .bare _ _,_ | .twice _ _,_ | .half _ _,_ | .sum _ _ _,_ | .less _ _ _,_ | .both _ _ _,_ | .any _ _ _,_ | .odd _ _ _,_=>trivial
def zrX{pr:Prop}{nm:AQ}{xs:List PV}{b:Bool}{vs:List PV}{ps:List T1}{rs:List Rw}{w n na:Nat}(hw:w<=16)(hn2:n<=4)(nl:nLs xs=AC)(i0:∀st,idxV st (.tp AB (.str nm::xs)) (.int 0)=AA (.str nm))
  (e0:yd T 18 yhN [.tp AB (.str nm::xs)] []=.ok (.tp b vs) []) (c1:yaV vs=AA ps) (c2:nLs vs=AC) (c3:isOk (yd T 16 yA [.tp b vs] []) (.bl AC)=AC) (c4:isOk (yd T 20 yiQ [.tp AB (.str nm::xs)] []) (.bl AC)=AC)
  (hp:pr->yd T 20 yy [.tp AB (.str nm::xs)] []=.ok (.bl AC) []) (pv:yD w n ps=rs.map yM) (ok:∀r∈rs,yay r) (hl:rs.length<=4000) (hr:yaG w n ps<=4000) (ha:ak1 w n ps<=500000)
  {qb:Bool} (q3:yP .isin (.str nm) yfV=AA (.bl qb)) (hA:yd T 20 yB [.tp AB (.str nm::xs),.int n] []=.ok (.int na) []):ycp pr qb (.tp AB (.str nm::xs)) w n na rs:=by
 have nl:nL (.tp AB (.str nm::xs))=true:=by simp[nL,nLs,nl]
 generalize PV.tp AB (.str nm::xs)=d at *;have nl1:nLs [d]=true:=by simp[nLs,nl]
 have rw':∀x∈yD w n ps,ybE x:=λx hx=>by rw[pv,DY]at hx;let#[r,hr,rfl]:=hx;exact zgA r (ok r hr)
 have ht:∀st,yd T (1+18) yhN [d] st=.ok (.tp b vs) st:=λst=>by have:=zaH e0 1;rw[show 18+1=18+0+1 by lia]at this;exact zcB (f:=yhN) (fn:=yiH) rfl rfl rfl nl1 this st
 have hit:∀st,yd T (1+16) yA [.tp b vs] st=.ok (.bl AC) st:=λst=>by have:=zaH (zdr c3) 1;exact zcB (f:=yA) (fn:=yiG) rfl rfl rfl (by simp[nLs,nL,c2]) this st
 have rows:=zjx 1 (w:=w) (n:=n) nl ht c2 c1 () () () () (by rw[pv,Ax];exact hl) hr ha rw' hit [];rw[pv]at rows;have hT2:T yiR=AA yhH:=rfl;have nl2:nLs [d,.int n]=true:=by simp[nLs,nl,nL]
 refine#[nl,zdr c4,hp,λst=>by rw[i0,Bb,q3],rows,λr hr=>?_,hA,?_]
 .have hv:nL (yM r)=true:=by cases r<;>rfl
  exact zmb hv (zgA r (ok r hr)) 9 []
 .rw[show (20:Nat)=19+1 from rfl,zd hT2 rfl rfl nl2]
  cases qb<;>simp! [yhH,i0,q3,IC.ve9]<;>rfl
theorem aw{pb:Bool}{nm:AQ}{xs:List PV}{n:Nat}(nl:nLs xs=AC)(i0:∀st,idxV st (.tp AB (.str nm::xs)) (.int 0)=AA (.str nm))(q1:yP .eq (.str nm) (.str "compare")=AA (.bl AB))(q2:yP .eq (.str nm) (.str "led")=AA (.bl AB))(q4:yP .isin (.str nm) yiC=AA (.bl pb)):yd T 20 yB [.tp AB (.str nm::xs),.int n] []=.ok (.int (if pb=AC then 2*n else n:Nat)) []:=by
 have nl:nL (.tp AB (.str nm::xs))=true:=by simp[nL,nLs,nl]
 generalize PV.tp AB (.str nm::xs)=d at *;have hT1:T yB=AA yhG:=rfl;have nl2:nLs [d,.int n]=true:=by simp[nLs,nl,nL]
 rw[show (20:Nat)=19+1 from rfl,zd hT1 rfl rfl nl2]
 cases pb<;>simp! [yhG,i0,q1,q2,q4]<;>rfl
def yfI(nm:String)(ps:List T1):Bool:=match yd T 18 yhN [.tp AB [.str (AF nm)]] []with
 |.ok (.tp b vs) []=>decide (yaV vs=AA ps)&&nLs vs&&isOk (yd T 16 yA [.tp b vs] []) (.bl AC)&&isOk (yd T 20 yiQ [.tp AB [.str (AF nm)]] []) (.bl AC)
 |_=>AB
def zq5{nm:String}{qb:Bool}{ps:List T1}{rs:List Rw}{w n na:Nat}(hc:yfI nm ps=AC)(hw:w<=16)(hn2:n<=4)(pv:yD w n ps=rs.map yM)(ok:∀r∈rs,yay r)(hl:rs.length<=4000)(hr:yaG w n ps<=4000)(ha:ak1 w n ps<=500000)(q3:yP .isin (.str (AF nm)) yfV=AA (.bl qb))
  (hA:yd T 20 yB [.tp AB [.str (AF nm)],.int n] []=.ok (.int na) []):ycp (yd T 20 yy [.tp AB [.str (AF nm)]] []=.ok (.bl AC) []) qb (.tp AB [.str (AF nm)]) w n na rs:=by
 unfold yfI at hc;split at hc
 .rename_i b vs e0;erw[AK,decide_eq_true_eq]at hc;let#[#[#[c1,c2],c3],c4]:=hc;exact zrX hw hn2 rfl (λ_=>rfl) e0 c1 c2 c3 c4 id pv ok hl hr ha q3 hA
 .cases hc
def zkI{T x y z k:Int}(x0:0<=x)(x1:x<T)(y0:0<=y)(y1:y<T)(r0:0<=z)(r1:z<T)(hk:k=0 \/ k=1)(s:z+k*T=x+y):k=bi (decide (T<=x+y))/\((if T<=2*z then 1 else 0)+if T<=2*x then(1:Int)else 0)%2*(((if T<=2*z then 1 else 0)+if T<=2*y then 1 else 0)%2)=bi (!ybD T (sgd T x+sgd T y)):=by
 constructor
 .rcases hk with rfl|rfl
  .rw[decide_eq_false ()];rfl
  .rw[decide_eq_true ()];rfl
 .unfold sgd ybD
  by_cases q1:T<=2*x<;>by_cases q2:T<=2*y<;>by_cases q3:T<=2*z<;>erw[q1,q2,q3,if_true,if_false]
  all_goals (rcases hk with rfl|rfl)
  all_goals first
   |(exfalso;lia)
   |(rw[decide_eq_true (),decide_eq_true ()];rfl)
   |(rw[decide_eq_false ()];rfl)
   |(rw[decide_eq_true (),decide_eq_false ()];rfl)
def zkC{w:Nat}(hw:1<w){n:Nat}{x y:Int}(x0:0<=x)(x1:x<(2^w:Int)^(n+1))(y0:0<=y)(y1:y<(2^w:Int)^(n+1)):
  yo (2^w) (yt (2^w) (yai (n+1)) (yac (2^w) (n+1) x y) 0).1 99 (n+1)=(x+y)%(2^w:Int)^(n+1) /\
  (yt (2^w) (yai (n+1)) (yac (2^w) (n+1) x y) 0).1 109 0=bi (decide ((2^w:Int)^(n+1)<=x+y)) /\
  (yt (2^w) (yai (n+1)) (yac (2^w) (n+1) x y) 0).1 109 1=bi (!ybD ((2^w:Int)^(n+1)) (sgd ((2^w:Int)^(n+1)) x+sgd ((2^w:Int)^(n+1)) y)) /\
  (yt (2^w) (yai (n+1)) (yac (2^w) (n+1) x y) 0).1 109 2=bi ((x+y)%(2^w:Int)^(n+1)==0) /\
  (yt (2^w) (yai (n+1)) (yac (2^w) (n+1) x y) 0).1 109 3=bi (decide ((2^w:Int)^(n+1)<=2*((x+y)%(2^w:Int)^(n+1)))):=by
 have hW:(0:Int)<2^w:=AY ();have hW4:(4:Int)<=2^w:=by have h:(2:Nat)^2<=2^w:=AZ () ();have h2:=pw w;lia
 have e:yai (n+1)=.mark 0::(yR (n+1) .sum++(.sum (109,0) cZ cZ::(yQ (99,((n+1:Nat):Int)-1) (97,((n+1:Nat):Int)-1) (98,((n+1:Nat):Int)-1)++yE (n+1)))):=by simp[yai,BJ]
 have hn:((n+1:Nat):Int)-1=n:=by lia
 have da:=ze5 (n+1) x y hW;have db:=zgy (n+1) x y hW;have va:=zet (n+1) x y hW x0 x1;have vb:=zgF (n+1) x y hW y0 y1;have zo:yac (2^w) (n+1) x y 122 0=0:=zfh _ _ _ ⋯ ⋯ _;generalize yac (2^w) (n+1) x y=M at *;let#[s1,s2,s3,s4,s5]:=zgY hW () M 0 () () (n+1) da db;have hs0:stepM (2^w) M 0 (.mark 0)=(M,0):=rfl;rw[e,zl,hs0,zh,zl,hn];generalize yt (2^w) (yR (n+1) .sum) M 0=R at *;let#[M1,k1]:=R;simp only at *;have z1:M1 122 0=0:=by rw[s1 122 0 (.inl ⋯),zo]
 have hs:stepM (2^w) M1 k1 (.sum (109,0) cZ cZ)=(wr M1 (109,0) k1,0):=by erw[stepM,rd,cZ,z1];rw[show (0:Int)+0+k1=k1 by lia,AM s3 (),BN s3 ()]
 rw[hs,zh];simp only;have g2:∀d j,(d≠109 \/ j≠0)->wr M1 (109,0) k1 d j=M1 d j:=λd j h=>by erw[wr,upd];rw[if_neg ()]
 have g3:wr M1 (109,0) k1 109 0=k1:=by simp[wr,upd]
 generalize wr M1 (109,0) k1=M2 at *;have ga:∀j,M2 97 j=M 97 j:=λj=>by rw[g2 97 j (.inl ⋯),s1 97 j (.inl ⋯)]
 have gb:∀j,M2 98 j=M 98 j:=λj=>by rw[g2 98 j (.inl ⋯),s1 98 j (.inl ⋯)]
 have gc:∀j,M2 99 j=M1 99 j:=λj=>g2 99 j (.inl ⋯);have da2:Dg (2^w) M2 97 (n+1):=λi hi=>by rw[ga];exact da i hi
 have db2:Dg (2^w) M2 98 (n+1):=λi hi=>by rw[gb];exact db i hi
 have dc2:Dg (2^w) M2 99 (n+1):=λi hi=>by rw[gc];exact s2 i hi
 have ta:=zaU () da2;have tb':=zaU () db2;have tc:=zaU () dc2;rw[zc (M':=M) (c':=97) _ λi hi=>ga i,va]at ta;rw[zc (M':=M) (c':=98) _ λi hi=>gb i,vb]at tb';let#[r0,r1]:=zw hW (n+1) dc2;have vc:yo (2^w) M2 99 (n+1)=yo (2^w) M1 99 (n+1):=zc _ λi hi=>gc i;rw[<-vc,va,vb]at s5;let#[l1,l2,l3]:=zfR hw M2 (99,n) (97,n) (98,n) #[by simp,by simp] #[by simp,by simp] #[by simp,by simp] (by rw[g2 122 0 (.inl ⋯),z1]) (dc2 n ()) (da2 n ()) (db2 n ());generalize yt (2^w) (yQ (99,(n:Int)) (97,(n:Int)) (98,(n:Int))) M2 0=R at *;let#[M3,k3]:=R;simp only at *;have gc3:∀j,M3 99 j=M2 99 j:=λj=>l1 99 j ⋯ ⋯ (.inl ⋯);have dc3:Dg (2^w) M3 99 (n+1):=λi hi=>by rw[gc3];exact dc2 i hi
 have vc3:yo (2^w) M3 99 (n+1)=yo (2^w) M2 99 (n+1):=zc _ λi hi=>gc3 i;let#[e1,e2,e3,e4,e5]:=zcw hw M3 k3 dc3 (by rw[l1 122 0 ⋯ ⋯ (.inl ⋯),g2 122 0 (.inl ⋯),z1]);rw[zc (M':=M3) (c':=99) _ λi hi=>e1 i,e2,e3,e4,e5,vc3,l1 109 0 ⋯ ⋯ (.inr ⋯),g3,l3];erw[rd];rw[tc,ta,tb'];generalize yo (2^w) M2 99 (n+1)=z,(2^w:Int)^(n+1)=T at *;have hz:(x+y)%T=z:=by rw[show x+y=z+k1*T by lia,B3,AM r0 r1]
 have hk:k1=0 \/ k1=1:=by lia
 rw[hz];let#[o1,o2]:=zkI x0 x1 y0 y1 r0 r1 hk ();exact#[rfl,o1,o2,rfl,rfl]
abbrev cG:Cel:=(103,0)
def ybv(to last:Cel)(sg:Bool):List Rw:=[if sg=AC then .twice cT last else .mark 0,.less to cZ cZ]
def zkH{P C t kG:Int}{sm:Bool}(c0:0<=C)(c1:C<P)(hk:kG=if sm=AC/\P<=2*C then 1 else 0):(if sm=AC then ybD P (C+P*t)else decide (0<=C+P*t)&&decide (C+P*t<P))=decide (t=-kG):=by
 have hP:0<P:=by lia
 rcases (by lia:t<=-2 \/ t=-1 \/ t=0 \/ 1<=t)with h|rfl|rfl|h
 .have h1:P*t<=P*(-2):=Aq h ();rw[decide_eq_false (by split at hk<;>lia:¬t=-kG)];generalize P*t=Q at *
  cases sm<;>simp[ybD]<;>lia
 .cases sm
  .rw[if_neg (by simp)]at hk ⊢;subst hk;simp;lia
  .by_cases q:P<=2*C
   .rw[if_pos #[rfl,q]]at hk;subst hk;simp[ybD];lia
   .rw[if_neg (by simp[q])]at hk;subst hk;simp[ybD];lia
 .cases sm
  .rw[if_neg (by simp)]at hk ⊢;subst hk;simp;lia
  .by_cases q:P<=2*C
   .rw[if_pos #[rfl,q]]at hk;subst hk;simp[ybD];lia
   .rw[if_neg (by simp[q])]at hk;subst hk;simp[ybD];lia
 .have h1:P*1<=P*t:=Aq h ();rw[decide_eq_false (by split at hk<;>lia:¬t=-kG)];generalize P*t=Q at *
  cases sm<;>simp[ybD]<;>lia
def ziR{w:Nat}(hw:1<w)(M:Mem){k:Int}(k0:0<=k)(k1:k<=1)(to last:Cel)(sg:Bool)(ht:to.1≠116)(hl:last.1≠116)(hz:M 122 0=0)(l0:0<=rd M last)(l1:rd M last<2^w):
  ∃M' k',yt (2^w) (ybv to last sg) M k=(M',k')/\0<=k'/\k'<=1/\k'=(if sg=AC then tb w (rd M last)else 0)/\M' to.1 to.2=k' * (2^w-1)/\∀d j,d≠116->(d≠to.1 \/ j≠to.2)->M' d j=M d j:=by
 have hW4:(4:Int)<=2^w:=by have h:(2:Nat)^2<=2^w:=AZ () ();have h2:=pw w;lia
 have hv:∀q:Int,0<=q->q<=1->(0-0-q)%(2:Int)^w=q*(2^w-1)/\bi (decide (0-0-q<0))=q:=λq q0 q1=>by
  rcases (by lia:q=0 \/ q=1)with rfl|rfl
  .simp;rfl
  .refine#[?_,rfl];rw[show (0:Int)-0-1=(2^w-1)+2^w*(-1)by lia,B5,AM () (),Az]
 cases sg
 .simp only[ybv,yt,stepM,B8,if_false,rd,cZ,hz];let#[a,b]:=hv 0 () ();refine#[_,_,rfl,?_,?_,?_,?_,λd j h1 h2=>?_]
  .rw[b];lia
  .rw[b];lia
  .rw[b]
  .rw[b];simp[wr,upd]
  .simp only[wr,upd];rw[if_neg ()]
 .have hm:(2*rd M last+k)/2^w=tb w (rd M last):=by
   have hH:(2:Int)^w=2*2^(w-1):=by obtain⟨v,rfl⟩:∃v,w=v+1:=#[w-1,by lia];rw[show v+1-1=v by lia,A5,A3]
   unfold tb;rw[hH,<-B6 (),<-B6 (),show (2*rd M last+k)/2=rd M last by lia,show 2*rd M last/2=rd M last by lia]
  have hq:0<=tb w (rd M last)/\tb w (rd M last)<=1:=by rw[zhH () l0 l1];split<;>lia
  let#[a,b]:=hv _ hq.1 hq.2;have hz2:∀v:Int,wr M cT v 122 0=0:=λv=>by simp[wr,upd,hz]
  erw[ybv,yt,stepM,if_true,hm];refine#[_,_,rfl,?_,?_,?_,?_,λd j h1 h2=>?_]<;>erw[rd,cZ,hz2]
  .rw[show bi (decide (0-0-tb w (M last.1 last.2)<0))=tb w (M last.1 last.2)from b];exact hq.1
  .rw[show bi (decide (0-0-tb w (M last.1 last.2)<0))=tb w (M last.1 last.2)from b];exact hq.2
  .exact b
  .rw[show bi (decide (0-0-tb w (M last.1 last.2)<0))=tb w (M last.1 last.2)from b,show (0-0-tb w (M last.1 last.2))%2^w=tb w (M last.1 last.2)*(2^w-1)from a];simp[wr,upd]
  .simp only[wr,upd,cT];rw[if_neg (),if_neg ()]
def zmQ{a b:Int}(a0:0<=a)(b0:0<=b):0<=BO a b/\(BO a b=0 ↔ a=b):=by
 obtain⟨x,rfl⟩:∃x:Nat,a=x:=#[a.toNat,by lia];obtain⟨y,rfl⟩:∃y:Nat,b=y:=#[b.toNat,by lia];rw[zgN];refine#[by lia,?_];have:x ^^^ y=0 ↔ x=y:=#[λh=>by
  have e:(x ^^^ y) ^^^ y=x:=by rw[Nat.xor_assoc,Hd,Nat.xor_zero]
  rw[h,Nat.zero_xor]at e;exact e.symm,λh=>by rw[h,Hd]]
 lia
def zqa{a b:Int}(a0:0<=a)(b0:0<=b):0<=BB a b:=by obtain⟨x,rfl⟩:∃x:Nat,a=x:=#[a.toNat,by lia];obtain⟨y,rfl⟩:∃y:Nat,b=y:=#[b.toNat,by lia];rw[zcQ];lia
abbrev cI:Cel:=(105,0)
abbrev cJ:Cel:=(106,0)
abbrev cP:Cel:=(112,0)
abbrev cW:Cel:=(119,0)
def yag(c2:Nat)(sg:Cel)(n I:Nat):List Rw:=[.times cL cHi (c2,I) sg,.less (99,(n:Int)+I) (99,(n:Int)+I) cL]
def yav(c2:Nat)(sg:Cel)(n:Nat):List Rw:=upTo (yag c2 sg n) n
def yap(n:Nat):List Rw:=upTo (λi=>[.odd cT (99,(n:Int)+i) cG,.any cW cW cT]) n
def yaf(n:Nat):List Rw:=[.twice cT (97,(n:Int)-1),.sum cI cZ cZ,.twice cT (98,(n:Int)-1),.sum cJ cZ cZ]
def yS(n:Nat):List Rw:=yaf n++(yaD n++(yav 98 cI n++(.sum cP cZ cZ::(yav 97 cJ n++(ybv cG (99,(n:Int)-1) AC++(yap n++(.ask cW :: .sum (109,1) cZ cZ::yE (2*n))))))))
def zcz{w:Nat}(hw:1<=w){c2:Nat}{sg:Cel}{n:Nat}(hc:c2=97 \/ c2=98)(hsg:sg=cI \/ sg=cJ){M:Mem}(hg:Good w M 0)(s:Int)(hs:rd M sg=s)(s01:s=0 \/ s=1):∀j:Nat,∃M' k',yt (2^w) (upTo (yag c2 sg n) j) M 0=(M',k')/\Good w M' k'/\(∀d (i:Int),d≠108->d≠104->(d≠99 \/ i<n \/ (n:Int)+j<=i)->M' d i=M d i) /\
  yo (2^w) (sh n M') 99 j=yo (2^w) (sh n M) 99 j-s*yo (2^w) M c2 j+k' * (2^w)^j
 |0=>#[M,0,rfl,hg,λ_ _ _ _ _=>rfl,by simp[yo]]
 |j+1=>by
  let#[M1,k1,e1,g1,o1,v1]:=zcz hw (n:=n) hc hsg hg s hs s01 j;have hW2:=zhy hw;have hc2:c2≠108/\c2≠104/\c2≠99:=by rcases hc with rfl|rfl<;>decide
  have hA:M1 c2 j=M c2 j:=o1 c2 j hc2.1 hc2.2.1 (.inl hc2.2.2);have hS:rd M1 sg=s:=by
   rw[<-hs];rcases hsg with rfl|rfl
   .exact o1 105 0 ⋯ ⋯ (.inl ⋯)
   .exact o1 106 0 ⋯ ⋯ (.inl ⋯)
  have hC:M1 99 ((n+j:Nat):Int)=M 99 ((n+j:Nat):Int):=o1 99 _ ⋯ ⋯ (.inr (.inr ()));have hcc:(n:Int)+(j:Int)=((n+j:Nat):Int):=by lia
  let#[a0,a1]:=hg.1 c2 j;let#[c0,c1]:=hg.1 99 ((n+j:Nat):Int);let#[_,k0,k1']:=id g1;have hp:M c2 j*s%2^w=M c2 j*s:=by
   rcases s01 with rfl|rfl
   .simp
   .rw[CT];exact AM a0 a1
  have hpr:0<=M c2 j*s/\M c2 j*s<2^w:=by
   rcases s01 with rfl|rfl
   .rw[FD];lia
   .rw[CT];exact#[a0,a1]
  have hgg:=zcl hw (yag c2 sg n j) g1 (λr hr=>by erw[yag,AN,AU,or_false]at hr;rcases hr with rfl|rfl<;>trivial)
  have hrun:yt (2^w) (yag c2 sg n j) M1 k1=(wr (wr (wr M1 cL (M c2 j*s)) cHi (M c2 j*s/2^w)) (99,((n+j:Nat):Int)) ((M 99 ((n+j:Nat):Int)-M c2 j*s-k1)%2^w),bi (decide (M 99 ((n+j:Nat):Int)-M c2 j*s-k1<0))):=by
   erw[yag,yt,stepM,hS,hcc];have r1:rd M1 (c2,(j:Int))=M c2 j:=hA;rw[r1,hp];have r2:rd (wr (wr M1 cL (M c2 j*s)) cHi (M c2 j*s/2^w)) (99,((n+j:Nat):Int))=M 99 ((n+j:Nat):Int):=by erw[rd,wr,upd,cL,cHi];simp;exact hC
   have r3:rd (wr (wr M1 cL (M c2 j*s)) cHi (M c2 j*s/2^w)) cL=M c2 j*s:=by simp[rd,wr,upd]
   rw[r2,r3]
  rw[hrun]at hgg;refine#[_,_,by rw[upTo,zh,e1];exact hrun,hgg,λd i h1 h2 h3=>?_,?_]
  .simp only[wr,upd,cL,cHi,h1,h2,false_and,if_false];rw[if_neg (),o1 d i h1 h2 ()]
  .have hv:yo (2^w) (sh n (wr (wr (wr M1 cL (M c2 j*s)) cHi (M c2 j*s/2^w)) (99,((n+j:Nat):Int)) ((M 99 ((n+j:Nat):Int)-M c2 j*s-k1)%2^w))) 99 j=yo (2^w) (sh n M1) 99 j:=zc j λt ht=>by rw[zcx,zcx];erw[wr,upd,cL,cHi];simp;lia
   have ht:sh n (wr (wr (wr M1 cL (M c2 j*s)) cHi (M c2 j*s/2^w)) (99,((n+j:Nat):Int)) ((M 99 ((n+j:Nat):Int)-M c2 j*s-k1)%2^w)) 99 j=(M 99 ((n+j:Nat):Int)-M c2 j*s-k1)%2^w:=by rw[zcx];simp[wr,upd]
   rw[yo,hv,ht,v1,yo,zcx,yo,A5];generalize hx:M c2 j*s=x at *;have hb:(M 99 ((n+j:Nat):Int)-x-k1)%2^w=M 99 ((n+j:Nat):Int)-x-k1+bi (decide (M 99 ((n+j:Nat):Int)-x-k1<0))*2^w:=by
    by_cases q:M 99 ((n+j:Nat):Int)-x-k1<0
    .rw[decide_eq_true q,show bi AC=1 from rfl,Az,<-B9,AM () ()]
    .rw[decide_eq_false q,show bi AB=0 from rfl,Av,B2,AM () ()]
   rw[hb,By s,<-Ae s,A3 s (M c2 j),hx];generalize bi (decide (M 99 ((n+j:Nat):Int)-x-k1<0))=k2;generalize ((2:Int)^w)^j=P;generalize (2:Int)^w=W;rw[Ay,BA,BA,Ae k2 W P,A3 W P];generalize M 99 ((n+j:Nat):Int)*P=y1;generalize x*P=y2;generalize k1*P=y3;generalize k2*(P*W)=y4;generalize s*yo W M c2 j=y5;lia
def zdE{W:Int}(M:Mem)(k:Int)(n:Nat)(hH:0<=M 119 0)(hG:0<=M 103 0):∀e:Nat,(∀i:Nat,i<e->0<=M 99 ((n+i:Nat):Int)) ->
  (yt W (upTo (λi=>[.odd cT (99,(n:Int)+i) cG,.any cW cW cT]) e) M k).2=k/\(∀d j,d≠116->d≠119->(yt W (upTo (λi=>[.odd cT (99,(n:Int)+i) cG,.any cW cW cT]) e) M k).1 d j=M d j)/\0<=(yt W (upTo (λi=>[.odd cT (99,(n:Int)+i) cG,.any cW cW cT]) e) M k).1 119 0/\((yt W (upTo (λi=>[.odd cT (99,(n:Int)+i) cG,.any cW cW cT]) e) M k).1 119 0=0 ↔ M 119 0=0/\∀i:Nat,i<e->M 99 ((n+i:Nat):Int)=M 103 0)
 |0,_=>#[rfl,λ_ _ _ _=>rfl,hH,by simp[upTo,yt]]
 |e+1,h=>by
  let#[h1,h2,h3,h4]:=zdE (W:=W) M k n hH hG e λi hi=>h i ();rw[upTo,zh];generalize yt W (upTo (λi=>[.odd cT (99,(n:Int)+i) cG,.any cW cW cT]) e) M k=R at *;let#[M1,k']:=R;simp only at *;subst h1;have hb:=h e ();let#[x0,x1]:=zmQ hb hG;have z0:=zqa h3 x0;have z1:=zfZ h3 x0;have hc:(n:Int)+(e:Int)=((n+e:Nat):Int):=by lia
  erw[yt,stepM,wr,rd,cT,cG,cW,hc,h2 99 _ ⋯ ⋯,h2 103 _ ⋯ ⋯];erw[upd,CY,false_and,if_false,and_self,if_true];refine#[trivial,λd j a b=>?_,z0,?_]
  .rw[if_neg (),if_neg (),h2 d j a b]
  .rw[z1,h4,x1];constructor
   .rintro⟨⟨a,b⟩,c⟩
    refine#[a,λi hi=>?_];rcases CA i e with z|z
    .exact b i z
    .rw[show i=e by lia];exact c
   .rintro⟨a,b⟩
    exact#[#[a,λi hi=>b i ()],b e ()]
def zgC{W:Int}(hW:0<W){M:Mem}{c:Nat}{q:Int}(hq:q=0 \/ q=1):∀n,Dg W M c n->((∀i:Nat,i<n->M c i=q*(W-1)) ↔ yo W M c n=q*(W^n-1))
 |0,_=>by simp[yo]
 |n+1,h=>by
  have ih:=zgC hW hq n h.mono;let#[a,b]:=zw hW n h.mono;let#[c0,c1]:=h n ();have hp:0<W^n:=AY hW;rw[yo,A5];constructor
  .intro h2;rw[ih.1 λi hi=>h2 i (),h2 n ()];rcases hq with rfl|rfl
   .simp
   .rw[Az,Az,Az,BA,Az,A3 W];lia
  .intro h2;have hd:M c n=q*(W-1):=by
    rcases hq with rfl|rfl
    .rw[Av]at h2 ⊢;have h1:0<=M c n*W^n:=Bu c0 (by omega);have h3:M c n*W^n=0:=by omega
     rcases Gp.1 h3 with z|z
     .exact z
     .lia
    .rw[Az]at h2 ⊢;rcases (by lia:M c n=W-1 \/ M c n<=W-2)with z|z
     .exact z
     .have h1:M c n*W^n<=(W-2)*W^n:=Am z ();rw[BA,A3 W]at h1;generalize W^n*W=y at *;lia
   have hv:yo W M c n=q*(W^n-1):=by
    rw[hd]at h2;rcases hq with rfl|rfl
    .rw[Av,Av,Av]at h2;rw[Av];lia
    .rw[Az,Az,BA,Az,A3 W]at h2;rw[Az];lia
   intro i hi;rcases CA i n with z|z
   .exact(ih.2 hv) i z
   .rw[show i=n by lia];exact hd
def zjC{T X Y L H H1 H2 k1 k2 sx sy kG:Int}(hT:2<=T)(x0:0<=X)(x1:X<T)(y0:0<=Y)(y1:Y<T)(hsx:sx=if T<=2*X then 1 else 0)(hsy:sy=if T<=2*Y then 1 else 0)
  (hxy:X*Y=L+T*H) (l0:0<=L) (l1:L<T) (h1:H1=H-sx*Y+k1*T) (h2:H2=H1-sy*X+k2*T) (a0:0<=H2) (a1:H2<T) (hkG:kG=if T<=2*L then 1 else 0):
  (sgd T X*sgd T Y)%(T*T)=L+T*H2/\ybD T (sgd T X*sgd T Y)=decide (H2=kG*(T-1)):=by
 have hX:sgd T X=X-sx*T:=by unfold sgd;rw[hsx];split<;>lia
 have hY:sgd T Y=Y-sy*T:=by unfold sgd;rw[hsy];split<;>lia
 have bx:-T<=2*sgd T X/\2*sgd T X<T:=by unfold sgd;split<;>lia
 have bw:-T<=2*sgd T Y/\2*sgd T Y<T:=by unfold sgd;split<;>lia
 have hP:sgd T X*sgd T Y=L+T*H2+T*T*(sx*sy-k1-k2):=by
  rw[hX,hY,h2,h1];have e1:(X-sx*T)*(Y-sy*T)=X*Y-T*(sx*Y)-T*(sy*X)+T*T*(sx*sy):=by
   rw[BA,CG,CG];have z1:X*(sy*T)=T*(sy*X):=by ac_rfl
   have z2:sx*T*Y=T*(sx*Y):=by ac_rfl
   have z3:sx*T*(sy*T)=T*T*(sx*sy):=by ac_rfl
   lia
  have e2:T*(H-sx*Y+k1*T-sy*X+k2*T)=T*H-T*(sx*Y)-T*(sy*X)+T*T*k1+T*T*k2:=by
   rw[By,CG,By,CG];have z1:T*(k1*T)=T*T*k1:=by ac_rfl
   have z2:T*(k2*T)=T*T*k2:=by ac_rfl
   lia
  rw[e1,e2,hxy,CG,CG];lia
 have hTT:0<T*T:=Gi () ();have hC0:0<=T*H2:=Bu () a0;have hC1:T*H2<=T*(T-1):=Aq () ();rw[CG]at hC1;have hab:∀a b:Int,-T<=a->a<=T->-T<=b->b<=T->-(T*T)<=a*b/\a*b<=T*T:=λa b p1 p2 p3 p4=>by
  have n1:a.natAbs<=T.natAbs:=by lia
  have n2:b.natAbs<=T.natAbs:=by lia
  have n3:=Ad n1 n2;rw[<-D1,<-D1]at n3;lia
 have hb:=hab (2*sgd T X) (2*sgd T Y) bx.1 () bw.1 ();rw[show 2*sgd T X*(2*sgd T Y)=4*(sgd T X*sgd T Y)by rw[Ae,D4 (sgd T X)];lia]at hb;generalize sx*sy-k1-k2=e,sgd T X*sgd T Y=P at *;refine#[by rw[hP,B5];exact AM () (),?_];have hfit:=zkH (P:=T) (C:=L) (t:=H2+T*e) (kG:=kG) (sm:=AC) l0 l1 (by rw[hkG];simp);rw[if_pos rfl,show L+T*(H2+T*e)=P by rw[hP,By,Ae];lia]at hfit;rw[hfit];have he:e=0 \/ e=-1:=by
  rcases (by lia:e<=-2 \/ e=-1 \/ e=0 \/ 1<=e)with z|z|z|z
  .have:=Aq z (show 0<=T*T by lia);lia
  .exact .inr z
  .exact .inl z
  .have:=Aq z (show 0<=T*T by lia);lia
 have hTL:T*2<=T*T:=Aq hT ()
 congr 1
 apply propext;rcases (show kG=0 \/ kG=1 by rw[hkG];split<;>simp)with z|z<;>subst z
 .rw[Av];rcases he with rfl|rfl
  .rw[FD];lia
  .constructor
   .intro q;lia
   .intro q;subst q;rw[FD]at hP;lia
 .rw[Az];rcases he with rfl|rfl
  .constructor
   .intro q;lia
   .intro q;subst q;rw[CG]at hP;lia
  .lia
def zdb{w:Nat}(hw:1<=w){M:Mem}{k:Int}(c:Cel)(hz:M 122 0=0)(k0:0<=k)(k1:k<=1):stepM (2^w) M k (.sum c cZ cZ)=(wr M c k,0):=by have hW2:=zhy hw;erw[stepM,rd,cZ,hz];rw[show (0:Int)+0+k=k by lia,AM k0 (),BN k0 ()]
def zjl{w:Nat}(hw:1<w){n:Nat}{M:Mem}(hg:Good w M 0)(hz:M 122 0=0):∃M',yt (2^w) (yaf (n+1)) M 0=(M',0)/\Good w M' 0/\M' 105 0=tb w (M 97 n)/\M' 106 0=tb w (M 98 n)/\∀d j,d≠116->d≠105->d≠106->M' d j=M d j:=by
 have hgg:=zcl (by lia:1<=w) (yaf (n+1)) hg (λr hr=>by erw[yaf,AN,AU,or_false]at hr;rcases hr with rfl|rfl|rfl|rfl<;>trivial)
 have hn:((n+1:Nat):Int)-1=n:=by lia
 have q:∀a:Int,0<=a->a<2^w->0<=tb w a/\tb w a<=1:=λa a0 a1=>by rw[zhH () a0 a1];split<;>lia
 have qa:=q _ (hg.1 97 n).1 (hg.1 97 n).2;have qb:=q _ (hg.1 98 n).1 (hg.1 98 n).2;have hrun:yt (2^w) (yaf (n+1)) M 0=(wr (wr (wr (wr M cT ((2*M 97 n+0)%2^w)) cI (tb w (M 97 n))) cT ((2*M 98 n+0)%2^w)) cJ (tb w (M 98 n)),0):=by
  have e:yaf (n+1)=[.twice cT (97,(n:Int)),.sum cI cZ cZ,.twice cT (98,(n:Int)),.sum cJ cZ cZ]:=by rw[yaf,hn]
  rw[e,zl,zl,zl,zl,yt];have s1:stepM (2^w) M 0 (.twice cT (97,(n:Int)))=(wr M cT ((2*M 97 n+0)%2^w),tb w (M 97 n)):=by erw[stepM,rd,tb,B2]
  rw[s1];simp only;rw[zdb () cI (by simp[wr,upd,hz]) qa.1 qa.2];simp only;have s3:stepM (2^w) (wr (wr M cT ((2*M 97 n+0)%2^w)) cI (tb w (M 97 n))) 0 (.twice cT (98,(n:Int)))=(wr (wr (wr M cT ((2*M 97 n+0)%2^w)) cI (tb w (M 97 n))) cT ((2*M 98 n+0)%2^w),tb w (M 98 n)):=by
   have:rd (wr (wr M cT ((2*M 97 n+0)%2^w)) cI (tb w (M 97 n))) (98,(n:Int))=M 98 n:=by simp[rd,wr,upd]
   refine Hj ?_ ?_
   .simp only[stepM];rw[this]
   .simp only[stepM];rw[this,B2];rfl
  rw[s3];simp only;rw[zdb () cJ (by simp[wr,upd,hz]) qb.1 qb.2]
 rw[hrun]at hgg;refine#[_,hrun,hgg,by simp[wr,upd],by simp[wr,upd],λd j h1 h2 h3=>?_];erw[wr,upd,cT,cI,cJ,h1,h2,h3,false_and,if_false]
def zg9{w:Nat}(hw:1<w){n:Nat}{x y:Int}(x0:0<=x)(x1:x<(2^w:Int)^(n+1))(y0:0<=y)(y1:y<(2^w:Int)^(n+1)){P:Int}(hP:P=sgd ((2^w:Int)^(n+1)) x*sgd ((2^w:Int)^(n+1)) y):
  yo (2^w) (yt (2^w) (yS (n+1)) (yac (2^w) (n+1) x y) 0).1 99 (2*(n+1))=P%(2^w:Int)^(2*(n+1)) /\
  (yt (2^w) (yS (n+1)) (yac (2^w) (n+1) x y) 0).1 109 0=0 /\
  (yt (2^w) (yS (n+1)) (yac (2^w) (n+1) x y) 0).1 109 1=bi (!ybD ((2^w:Int)^(n+1)) P) /\
  (yt (2^w) (yS (n+1)) (yac (2^w) (n+1) x y) 0).1 109 2=bi (P%(2^w:Int)^(2*(n+1))==0) /\
  (yt (2^w) (yS (n+1)) (yac (2^w) (n+1) x y) 0).1 109 3=bi (decide ((2^w:Int)^(2*(n+1))<=2*(P%(2^w:Int)^(2*(n+1))))):=by
 have hW:(0:Int)<2^w:=AY ();have hw1:1<=w:=by lia
 have hg:=zeP (w:=w) hw1 (n+1) x y;have hZ0:yac (2^w) (n+1) x y 122 0=0:=zfh _ _ _ ⋯ ⋯ _;have hM0:∀i,yac (2^w) (n+1) x y 109 i=0:=λi=>zfh _ _ _ ⋯ ⋯ _;have hL0:yac (2^w) (n+1) x y 119 0=0:=zfh _ _ _ ⋯ ⋯ _;have hc0:∀i:Int,yac (2^w) (n+1) x y 99 i=0:=λi=>zfh _ _ _ ⋯ ⋯ _;have hva:=zet (n+1) x y hW x0 x1;have hvb:=zgF (n+1) x y hW y0 y1;have hta:=zaU (w:=w) () (ze5 (n+1) x y hW);have htb:=zaU (w:=w) () (zgy (n+1) x y hW);rw[hva]at hta;rw[hvb]at htb;generalize yac (2^w) (n+1) x y=A at *;let#[M1,e1,g1,i1,j1,o1]:=zjl hw (n:=n) hg hZ0;have ha1:yo (2^w) M1 97 (n+1)=x:=(zc _ λi _=>o1 97 i ⋯ ⋯ ⋯).trans hva;have hb1:yo (2^w) M1 98 (n+1)=y:=(zc _ λi _=>o1 98 i ⋯ ⋯ ⋯).trans hvb;have hc1:yo (2^w) M1 99 (n+1)=0:=(zaP hW (n+1) λi hi=>g1.1 99 i).2 λi hi=>by rw[o1 99 i ⋯ ⋯ ⋯];exact hc0 i
 have hz1:M1 122 0=0:=by rw[o1 122 0 ⋯ ⋯ ⋯];exact hZ0
 let#[M2,e2,g2,o2,v2]:=ziJ hw1 g1 hz1 hc1 (n+1);rw[ha1,hb1]at v2;have hs2:=zbh (2^w) M2 99 (n+1) (n+1);rw[v2]at hs2;have hLr:=zw hW (n+1) (λi hi=>g2.1 99 i:Dg (2^w) M2 99 (n+1));have q2:∀d j,d≠116->d≠105->d≠106->d≠108->d≠104->d≠111->d≠99->M2 d j=A d j:=λd j a b c e f g h=>by rw[o2 d j e f g h,o1 d j a b c]
 have sx01:tb w (A 97 n)=0 \/ tb w (A 97 n)=1:=by rw[hta];split<;>simp
 have sy01:tb w (A 98 n)=0 \/ tb w (A 98 n)=1:=by rw[htb];split<;>simp
 let#[M3,k1,e3,g3,o3,v3]:=zcz hw1 (c2:=98) (sg:=cI) (n:=n+1) (.inr rfl) (.inl rfl) g2 (tb w (A 97 n)) (by show M2 105 0=_;rw[o2 105 0 ⋯ ⋯ ⋯ ⋯];exact i1) sx01 (n+1);rw[show yo (2^w) M2 98 (n+1)=y from (zc _ λi _=>o2 98 i ⋯ ⋯ ⋯ ⋯).trans hb1]at v3;have z3:M3 122 0=0:=by rw[o3 122 0 ⋯ ⋯ (.inl ⋯),o2 122 0 ⋯ ⋯ ⋯ ⋯];exact hz1
 have hsum:=zdb hw1 cP z3 g3.2.1 g3.2.2;have g4:Good w (wr M3 cP k1) 0:=#[zah g3.1 cP g3.2.1 (by have:=zhy hw1;have:=g3.2.2;lia),by lia,by lia];have o4:∀d j,d≠112->wr M3 cP k1 d j=M3 d j:=λd j h=>by erw[wr,upd,cP,h,false_and,if_false]
 let#[M5,k2,e5,g5,o5,v5]:=zcz hw1 (c2:=97) (sg:=cJ) (n:=n+1) (.inl rfl) (.inr rfl) g4 (tb w (A 98 n)) (by show wr M3 cP k1 106 0=_;rw[o4 106 0 ⋯,o3 106 0 ⋯ ⋯ (.inl ⋯),o2 106 0 ⋯ ⋯ ⋯ ⋯];exact j1) sy01 (n+1);have ha4:yo (2^w) (wr M3 cP k1) 97 (n+1)=x:=(zc _ λi _=>by rw[o4 97 i ⋯,o3 97 i ⋯ ⋯ (.inl ⋯),o2 97 i ⋯ ⋯ ⋯ ⋯]).trans ha1;have hc4:yo (2^w) (sh (n+1) (wr M3 cP k1)) 99 (n+1)=yo (2^w) (sh (n+1) M3) 99 (n+1):=zc _ λi _=>by rw[zcx,zcx,o4 99 _ ⋯]
 rw[ha4,hc4]at v5;have d5:Dg (2^w) (sh (n+1) M5) 99 (n+1):=λi hi=>g5.1 _ _;have hHr:=zw hW (n+1) d5;have c5:∀i:Nat,i<n+1->M5 99 i=M2 99 i:=λi hi=>by rw[o5 99 i ⋯ ⋯ (.inr (.inl ())),o4 99 i ⋯,o3 99 i ⋯ ⋯ (.inr (.inl ()))]
 have hL5:yo (2^w) M5 99 (n+1)=yo (2^w) M2 99 (n+1):=zc _ c5;have z5:M5 122 0=0:=by rw[o5 122 0 ⋯ ⋯ (.inl ⋯),o4 122 0 ⋯];exact z3
 let#[M6,kG,e6,f0,f1,f2,f3,f4]:=ziR hw M5 (k:=k2) g5.2.1 g5.2.2 cG (99,n) AC ⋯ (by simp) z5 (g5.1 _ _).1 (g5.1 _ _).2;have hkG:kG=if (2^w:Int)^(n+1)<=2*yo (2^w) M2 99 (n+1)then 1 else 0:=by rw[f2,if_pos rfl,<-hL5];exact zaU () (λi hi=>g5.1 99 i)
 have hkk:kG=0 \/ kG=1:=by lia
 have hT2:(2:Int)<=(2^w)^(n+1):=by
  have h1:=zhy hw1;have h2:(1:Int)<=(2^w)^n:=by have:(0:Int)<(2^w)^n:=AY hW;lia
  rw[A5];have:=EW h2 h1 () (show (0:Int)<=(2^w)^n by lia);lia
 let#[N1,N2]:=zjC hT2 x0 x1 y0 y1 hta htb hs2 hLr.1 hLr.2 v3 v5 hHr.1 hHr.2 hkG;rw[<-hP]at N1 N2;have hTT:(2^w:Int)^(n+1)*(2^w)^(n+1)=(2^w)^(2*(n+1)):=by rw[<-FW];congr 1;lia
 rw[hTT]at N1;have hv5:yo (2^w) M5 99 (2*(n+1))=P%(2^w)^(2*(n+1)):=by rw[N1,show 2*(n+1)=n+1+(n+1)by lia,zbh,hL5]
 have hG6:M6 103 0=kG*(2^w-1):=f3;have hGr:0<=kG*((2:Int)^w-1):=by rcases hkk with z|z<;>rw[z]<;>lia
 have o6:∀d j,d≠116->d≠103->M6 d j=M5 d j:=λd j a b=>f4 d j a (.inl b);have l6:M6 119 0=0:=by rw[o6 119 0 ⋯ ⋯,o5 119 0 ⋯ ⋯ (.inl ⋯),o4 119 0 ⋯,o3 119 0 ⋯ ⋯ (.inl ⋯),q2 119 0 ⋯ ⋯ ⋯ ⋯ ⋯ ⋯ ⋯];exact hL0
 let#[u1,u2,u3,u4]:=zdE (W:=2^w) M6 kG (n+1) (by rw[l6];lia) (by rw[hG6];exact hGr) (n+1) (λi hi=>by rw[o6 99 _ ⋯ ⋯];exact(g5.1 _ _).1);have hH:(yt (2^w) (yap (n+1)) M6 kG).1 119 0=0 ↔ yo (2^w) (sh (n+1) M5) 99 (n+1)=kG*((2^w)^(n+1)-1):=by
  rw[<-zgC hW hkk (n+1) d5];show (yt (2^w) (upTo (λi=>[.odd cT (99,((n+1:Nat):Int)+i) cG,.any cW cW cT]) (n+1)) M6 kG).1 119 0=0 ↔ _;rw[u4,l6,hG6];constructor
  .rintro⟨_,b⟩ i hi
   have:=b i hi;rw[o6 99 _ ⋯ ⋯]at this;rw[zcx];exact this
  .intro b;exact#[rfl,λi hi=>by have:=b i hi;rw[zcx]at this;rw[o6 99 _ ⋯ ⋯];exact this]
 have U1:(yt (2^w) (yap (n+1)) M6 kG).2=kG:=u1;have U2:∀d j,d≠116->d≠119->(yt (2^w) (yap (n+1)) M6 kG).1 d j=M6 d j:=u2
 clear u1 u2 u3 u4
 have hn1:((n+1:Nat):Int)-1=n:=by lia
 rw[yS,zh,e1,yaD,zh,e2,zh,show yav 98 cI (n+1)=upTo (yag 98 cI (n+1)) (n+1)from rfl,e3,zl,hsum,zh,show yav 97 cJ (n+1)=upTo (yag 97 cJ (n+1)) (n+1)from rfl,e5,zh,hn1,e6,zh];generalize yt (2^w) (yap (n+1)) M6 kG=R7 at *;let#[M7,k7]:=R7;simp only at U1 U2 hH ⊢;subst U1;have hb:bi (!(M7 119 0==0))=bi (!ybD ((2^w:Int)^(n+1)) P):=by
  rw[N2]
  by_cases z:yo (2^w) (sh (n+1) M5) 99 (n+1)=k7*((2^w)^(n+1)-1)
  .rw[hH.2 z,decide_eq_true z];rfl
  .rw[decide_eq_false z,beq_eq_false_iff_ne.2 λq=>z (hH.1 q)]
 have hs1:stepM (2^w) M7 k7 (.ask cW)=(M7,bi (!ybD ((2^w:Int)^(n+1)) P)):=by erw[stepM,rd];rw[hb]
 have z7:M7 122 0=0:=by rw[U2 122 0 ⋯ ⋯,o6 122 0 ⋯ ⋯];exact z5
 have hbr:=zQ (!ybD ((2^w:Int)^(n+1)) P);rw[zl,hs1];simp only;rw[zl,zdb hw1 (109,1) z7 hbr.1 hbr.2];simp only;generalize bi (!ybD ((2^w:Int)^(n+1)) P)=v at *;have p1:∀d j,(d≠109 \/ j≠1)->wr M7 (109,1) v d j=M7 d j:=λd j h=>by erw[wr,upd];rw[if_neg ()]
 have p2:wr M7 (109,1) v 109 1=v:=by simp[wr,upd]
 generalize wr M7 (109,1) v=M8 at *;have c8:∀i,M8 99 i=M5 99 i:=λi=>by rw[p1 99 i (.inl ⋯),U2 99 i ⋯ ⋯,o6 99 i ⋯ ⋯]
 have d8:Dg (2^w) M8 99 (2*(n+1)):=λi hi=>by rw[c8];exact g5.1 _ _
 have hv8:yo (2^w) M8 99 (2*(n+1))=P%(2^w)^(2*(n+1)):=(zc _ λi _=>c8 i).trans hv5;have m8:M8 109 0=0:=by rw[p1 109 0 (.inr ⋯),U2 109 0 ⋯ ⋯,o6 109 0 ⋯ ⋯,o5 109 0 ⋯ ⋯ (.inl ⋯),o4 109 0 ⋯,o3 109 0 ⋯ ⋯ (.inl ⋯),q2 109 0 ⋯ ⋯ ⋯ ⋯ ⋯ ⋯ ⋯];exact hM0 0
 have hN:2*(n+1)=(2*n+1)+1:=by lia
 rw[hN]at d8 hv8 ⊢;let#[r1,r2,r3,r4,r5]:=zcw hw M8 0 d8 (by rw[p1 122 0 (.inl ⋯),z7]);rw[zc (M':=M8) (c':=99) _ λi hi=>r1 i,r2,r3,r4,r5,hv8,p2,m8];exact#[rfl,rfl,rfl,rfl,rfl]
def oI:Op:=cx 105 0 0 0 0
def oJ:Op:=cx 106 0 0 0 0
def oP:Op:=cx 112 0 0 0 0
def oG':Op:=cx 103 0 0 0 0
def oW:Op:=cx 119 0 0 0 0
def ybx(l:Nat)(sg:Op):T1:=.rounds 0 1 0 [.row (rS "times" [oL,oHi,cx l 0 1 0 0,sg]),.row (rS "less" [cx 99 0 1 0 1,cx 99 0 1 0 1,oL])]
def yaO:T1:=.rounds 0 1 0 [.row (rS "odd" [oT,cx 99 0 1 0 1,oG']),.row (rS "any" [oW,oW,oT])]
def yb3:List T1:=[.row (rS "twice" [oT,cx 97 (-1) 0 0 1]),.row (rS "sum" [oI,oZ,oZ]),.row (rS "twice" [oT,cx 98 (-1) 0 0 1]),.row (rS "sum" [oJ,oZ,oZ])]
def ybg:List T1:=[.row (rS "twice" [oT,cx 99 (-1) 0 0 1]),.row (rS "less" [oG',oZ,oZ])]
def ybi:List T1:=yb3++([ybz]++([ybx 98 oI]++([.row (rS "sum" [oP,oZ,oZ])]++([ybx 97 oJ]++(ybg++([yaO]++([.row (rS "ask" [oW]),.row (rS "sum" [oM 1,oZ,oZ])]++ybk 0 2)))))))
def ziI(w:Int)(n:Nat)(l:Nat)(sg:Op)(c:Cel)(h:∀I:Int,Op.pv I 0 n sg=yC c):yD w n [ybx l sg]=(yav l c n).map yM:=by
 have e:yD w n [ybx l sg]=upTo (λI=>yad w n I [.row (rS "times" [oL,oHi,cx l 0 1 0 0,sg]),.row (rS "less" [cx 99 0 1 0 1,cx 99 0 1 0 1,oL])]) n:=by erw[yD,Ap,BL,Aj,ybx,T1.rows,zaA]
 rw[e];refine zag (λI=>?_) n;have hm:(0:Int)+1*(I:Int)+1*(n:Int)=(n:Int)+I:=by lia
 have hi:(0:Int)+1*(I:Int)=I:=by lia
 have hm2:(I:Int)+1*(n:Int)=(n:Int)+I:=by lia
 erw[yad,Ap,BL,Aj,T2.rows,Rs.pv,rS,AL,Ah,h,yag,yM,Ak,BF];erw[Op.pv,oL,oHi,cx,Cx.at,yC,Av,B2,hi,hm2]
def zjk(w:Int)(n:Nat):yD w n [yaO]=(yap n).map yM:=by
 have e:yD w n [yaO]=upTo (λI=>yad w n I [.row (rS "odd" [oT,cx 99 0 1 0 1,oG']),.row (rS "any" [oW,oW,oT])]) n:=by erw[yD,Ap,BL,Aj,yaO,T1.rows,zaA]
 rw[e];refine zag (λI=>?_) n;have hm:(0:Int)+1*(I:Int)+1*(n:Int)=(n:Int)+I:=by lia
 erw[yad,Ap,BL,Aj,T2.rows,Rs.pv,rS,AL,Ah,yM,Ak,BF,Op.pv,oT,oG',oW,cx,Cx.at,yC,Av,B2,hm]
def zj8(w:Int)(n:Nat):yD w n ybi=(yS n).map yM:=by
 have hl:(-1:Int)+1*(n:Int)=(n:Int)-1:=by lia
 have p1:yD w n yb3=(yaf n).map yM:=by erw[yb3,yaf,yD,Ap,BL,Aj,T1.rows,Rs.pv,rS,AL,Ah,yM,Ak,BF,Op.pv,oT,oZ,oI,oJ,cx,Cx.at,yC,Av,B2,hl]
 have p2:yD w n [ybz]=(yaD n).map yM:=by erw[yD,Ap,BL,Aj];exact zmx w n
 have p3:=ziI w n 98 oI cI (λI=>by simp[Op.pv,oI,cx,Cx.at,yC]);have p5:=ziI w n 97 oJ cJ (λI=>by simp[Op.pv,oJ,cx,Cx.at,yC]);have p4:yD w n [.row (rS "sum" [oP,oZ,oZ])]=[yM (.sum cP cZ cZ)]:=by simp[yD,T1.rows,Rs.pv,rS,oP,oZ,Op.pv,cx,Cx.at,yM,yC]
 have p6:yD w n ybg=(ybv cG (99,(n:Int)-1) AC).map yM:=by erw[ybg,ybv,if_true,yD,Ap,BL,Aj,T1.rows,Rs.pv,rS,AL,Ah,yM,Ak,BF,Op.pv,oT,oZ,oG',cx,Cx.at,yC,Av,B2,hl]
 have p8:yD w n [.row (rS "ask" [oW]),.row (rS "sum" [oM 1,oZ,oZ])]=[yM (.ask cW),yM (.sum (109,1) cZ cZ)]:=by simp[yD,T1.rows,Rs.pv,rS,oW,oM,oZ,Op.pv,cx,Cx.at,yM,yC]
 rw[ybi,zG,zG,zG,zG,zG,zG,zG,zG,p1,p2,p3,p4,p5,p6,zjk,p8,zlV];erw[yS,Ba,AL,BJ,Ak,BF]
def zif(w:Int)(n:Nat):yaG w n ybi=n*(1+n)+5*n:=by
 have h1:yaG w n yb3=0:=by simp[yb3,yaG,T1.rnd]
 have h2:yaG w n [ybz]=n*(1+n):=by erw[yaG,AL,Ah,HM,List.sum_nil,zkV];lia
 have h3:∀l s,yaG w n [ybx l s]=n:=λl s=>by simp[ybx,yaG,T1.rnd,ybr,T2.rnd,zaA]
 have h4:yaG w n [yaO]=n:=by simp[yaO,yaG,T1.rnd,ybr,T2.rnd,zaA]
 have h5:yaG w n ybg=0:=by simp[ybg,yaG,T1.rnd]
 have h6:yaG w n [.row (rS "sum" [oP,oZ,oZ])]=0:=by simp[yaG,T1.rnd]
 have h7:yaG w n [.row (rS "ask" [oW]),.row (rS "sum" [oM 1,oZ,oZ])]=0:=by simp[yaG,T1.rnd]
 rw[ybi,zaR,zaR,zaR,zaR,zaR,zaR,zaR,zaR,h1,h2,h3,h3,h4,h5,h6,h7,zkx];lia
def zfw{n:Nat}(hn:n<=4):(yS n).length<=4000:=by have:n*(n*5+3)<=4*23:=Ad hn ();have h1:∀l s,(yav l s n).length=n*2:=λl s=>zW (f:=yag l s n) (c:=2) (λ_=>rfl) _;have h2:(yap n).length=n*2:=zW (f:=λi=>[.odd cT (99,(n:Int)+i) cG,.any cW cW cT]) (c:=2) (λ_=>rfl) _;simp[yS,zfn,yaf,ybv,h1,h2,yE,zaM];lia
def zp3{W:Int}(M:Mem)(k:Int)(hS:0<=M 115 0):∀n,(∀i:Nat,i<n->0<=M 98 i) ->
  (yt W (upTo (λi=>[Rw.any cS cS (98,i)]) n) M k).2=k/\(∀d j,d≠115->(yt W (upTo (λi=>[Rw.any cS cS (98,i)]) n) M k).1 d j=M d j)/\0<=(yt W (upTo (λi=>[Rw.any cS cS (98,i)]) n) M k).1 115 0/\((yt W (upTo (λi=>[Rw.any cS cS (98,i)]) n) M k).1 115 0=0 ↔ M 115 0=0/\∀i:Nat,i<n->M 98 i=0)
 |0,_=>#[rfl,λ_ _ _=>rfl,hS,by simp[upTo,yt]]
 |n+1,h=>by
  let#[h1,h2,h3,h4]:=zp3 (W:=W) M k hS n λi hi=>h i ();rw[upTo,zh];generalize yt W (upTo (λi=>[Rw.any cS cS (98,i)]) n) M k=R at *;let#[M1,k']:=R;simp only at *;have hb:=h n ();erw[yt,stepM,rd,wr,cS,h2 98 n ⋯];have hz:=zfZ h3 hb;refine#[h1,λd j hd=>?_,?_,?_]
  .unfold upd;rw[if_neg (),h2 d j hd]
  .unfold upd;rw[if_pos #[rfl,rfl]];obtain⟨x,hx⟩:∃x:Nat,M1 115 0=x:=#[(M1 115 0).toNat,by lia];obtain⟨y,hy⟩:∃y:Nat,M 98 n=y:=#[(M 98 n).toNat,by lia];rw[hx,hy,zcQ];lia
  .unfold upd;rw[if_pos #[rfl,rfl],hz,h4];constructor
   .rintro⟨⟨a,b⟩,c⟩
    refine#[a,λi hi=>?_];rcases CA i n with z|z
    .exact b i z
    .rw[show i=n by lia];exact c
   .rintro⟨a,b⟩
    exact#[#[a,λi hi=>b i ()],b n ()]
def nR(n:Nat):List Rw:=[.set cS 0]++upTo (λi=>[Rw.any cS cS (98,i)]) n++[.ask cS,.set (109,0) 1,.less (109,0) (109,0) cZ]
def zlg{w:Nat}(hw:1<w)(n:Nat)(M:Mem)(k:Int)(hz:M 122 0=0)(hb:∀i:Nat,i<n->0<=M 98 i):
  ((∀i:Nat,i<n->M 98 i=0)->(yt (2^w) (nR n) M k).1 109 0=1)/\((¬ ∀i:Nat,i<n->M 98 i=0)->(yt (2^w) (nR n) M k).1 109 0=0):=by
 have hW4:(4:Int)<=2^w:=by have h:(2:Nat)^2<=2^w:=AZ () ();have h2:=pw w;lia
 have hst:stepM (2^w) M k (.set cS 0)=(wr M cS 0,k):=rfl;have e:nR n=.set cS 0::(upTo (λi=>[Rw.any cS cS (98,i)]) n++[.ask cS,.set (109,0) 1,.less (109,0) (109,0) cZ]):=by simp[nR]
 have u1:wr M cS 0 115 0=0:=by simp[wr,upd]
 have u2:∀(d:Nat) (j:Int),d≠115->wr M cS 0 d j=M d j:=λd j hd=>by erw[wr,upd];rw[if_neg (λz=>hd z.1)]
 let#[h1,h2,h3,h4]:=zp3 (W:=2^w) (wr M cS 0) k (by rw[u1];lia) n (λi hi=>by rw[u2 _ _ ⋯];exact hb i hi);rw[e,zl,hst,zh];simp only at h1 h2 h3 h4 ⊢;generalize yt (2^w) (upTo (λi=>[Rw.any cS cS (98,i)]) n) (wr M cS 0) k=R at *;let#[M1,k']:=R;simp only at *;have hz1:M1 122 0=0:=by rw[h2 _ _ ⋯,u2 _ _ ⋯,hz]
 have h5:M1 115 0=0 ↔ ∀i:Nat,i<n->M 98 i=0:=by
  rw[h4,u1];constructor
  .rintro⟨_,a⟩ i hi
   rw[<-u2 98 i ⋯];exact a i hi
  .intro a;exact#[rfl,λi hi=>by rw[u2 _ _ ⋯];exact a i hi]
 rw[<-h5];erw[yt,stepM,rd,wr,upd,cS,cZ,CY,false_and,if_false,and_self,if_true,hz1];constructor
 .intro a;rw[a];show (1-0-0)%(2^w:Int)=1;exact AM () ()
 .intro a;have:(M1 115 0==0)=false:=by simpa using a
  rw[this];show (1-0-1)%(2^w:Int)=0;rfl
def zbG{W:Int}(hW:0<W){s:Int}(s0:0<=s)(s1:s<2*W):0<=s%W/\s%W<W/\0<=s/W/\s/W<=1/\s%W+s/W*W=s:=by have d1:=Ab s (show W≠0 by lia);have d2:=AX s hW;have d3:=As s W;have d4:0<=s/W:=B4 s0 ();have d5:s/W<2:=BX hW ();rw[A3]at d3;exact#[d1,d2,d4,by lia,d3]
def zcI{W:Int}{M:Mem}{c n:Nat}{v:Int}:yo W (upd M c n v) c (n+1)=yo W M c n+v*W^n:=by rw[yo,zc (M':=M) (c':=c) n λi hi=>by unfold upd;rw[if_neg ()]];unfold upd;rw[if_pos #[rfl,rfl]]
def zeo{W:Int}{M:Mem}{c n:Nat}{v:Int}(h:Dg W M c n)(v0:0<=v)(v1:v<W):Dg W (upd M c n v) c (n+1):=λi hi=>by
 unfold upd
 by_cases hin:i=n
 .subst hin;rw[if_pos #[rfl,rfl]];exact#[v0,v1]
 .rw[if_neg ()];exact h i ()
def twR(c n:Nat):List Rw:=upTo (λJ=>[Rw.twice (c,(J:Int)) (c,(J:Int))]) n
def zeD{W:Int}(hW:2<=W)(c:Nat)(M:Mem)(k:Int)(k0:0<=k)(k1:k<=1):∀n,Dg W M c n->∃M' k',yt W (twR c n) M k=(M',k')/\(∀d j,(d≠c \/ (n:Int)<=j)->M' d j=M d j)/\Dg W M' c n/\0<=k'/\k'<=1/\yo W M' c n+k' * W^n=2*yo W M c n+k
 |0,_=>#[M,k,rfl,λ_ _ _=>rfl,λi hi=>by lia,k0,k1,by simp[yo]]
 |n+1,ha=>by
  let#[M1,k',e1,h1,h2,h3,h4,h5]:=zeD hW c M k k0 k1 n ha.mono;let#[a0,a1]:=ha n ();let#[d1,d2,d3,d4,d5]:=zbG (W:=W) () (s:=2*M c n+k') () ();refine#[upd M1 c n ((2*M c n+k')%W),(2*M c n+k')/W,?_,λd j hd=>?_,zeo h2 d1 d2,d3,d4,?_]
  .rw[twR,upTo,zh];show yt W [Rw.twice (c,(n:Int)) (c,(n:Int))] (yt W (twR c n) M k).1 (yt W (twR c n) M k).2=_;rw[e1];erw[yt,stepM,rd,wr,h1 c n (.inr ())]
  .unfold upd;rw[if_neg (),h1 d j ()]
  .rw[zcI,yo,A5];generalize W^n=P,(2*M c n+k')%W=u,(2*M c n+k')/W=t at *;generalize M c (n:Int)=A at *;have e3:(u+t*W)*P=(2*A+k')*P:=by rw[d5]
   rw[Ay,Ay,Ae t W P,A3 W P,Ae 2 A P]at e3;generalize u*P=x1,t*(P*W)=x2,A*P=x3,k' * P=x4 at *;lia
def lsR(r y n:Nat):List Rw:=upTo (λJ=>[Rw.less (r,(J:Int)) (r,(J:Int)) (y,(J:Int))]) n
def zdz{W:Int}(hW:0<W){s:Int}(s0:-W<=s)(s1:s<W):0<=s%W/\s%W<W/\0<=bi (decide (s<0))/\bi (decide (s<0))<=1/\s%W-bi (decide (s<0))*W=s:=by
 have d1:=Ab s (show W≠0 by lia);have d2:=AX s hW;refine#[d1,d2,(zQ _).1,(zQ _).2,?_]
 by_cases hl:s<0
 .rw[decide_eq_true hl,<-B9];rw[AM () ()];show s+W-1*W=s;lia
 .rw[decide_eq_false hl,AM () ()];show s-0*W=s;lia
def ziU{W:Int}(hW:0<W){r y:Nat}(hry:y≠r)(M:Mem)(k:Int)(k0:0<=k)(k1:k<=1):∀n,Dg W M r n->Dg W M y n->∃M' k',yt W (lsR r y n) M k=(M',k')/\(∀d j,(d≠r \/ (n:Int)<=j)->M' d j=M d j)/\Dg W M' r n/\0<=k'/\k'<=1/\yo W M' r n-k' * W^n=yo W M r n-yo W M y n-k
 |0,_,_=>#[M,k,rfl,λ_ _ _=>rfl,λi hi=>by lia,k0,k1,by simp[yo]]
 |n+1,ha,hb=>by
  let#[M1,k',e1,h1,h2,h3,h4,h5]:=ziU hW hry M k k0 k1 n ha.mono hb.mono;let#[a0,a1]:=ha n ();let#[b0,b1]:=hb n ();let#[d1,d2,d3,d4,d5]:=zdz (W:=W) hW (s:=M r n-M y n-k') () ();refine#[upd M1 r n ((M r n-M y n-k')%W),bi (decide (M r n-M y n-k' < 0)),?_,λd j hd=>?_,zeo h2 d1 d2,d3,d4,?_]
  .rw[lsR,upTo,zh];show yt W [Rw.less (r,(n:Int)) (r,(n:Int)) (y,(n:Int))] (yt W (lsR r y n) M k).1 (yt W (lsR r y n) M k).2=_;rw[e1];erw[yt,stepM,rd,wr,h1 r n (.inr ()),h1 y n (.inl hry)]
  .unfold upd;rw[if_neg (),h1 d j ()]
  .rw[zcI,yo,yo,A5];generalize W^n=P,(M r n-M y n-k')%W=u,bi (decide (M r n-M y n-k' < 0))=t at *;generalize M r (n:Int)=A,M y (n:Int)=B at *;have e3:(u-t*W)*P=(A-B-k')*P:=by rw[d5]
   rw[BA,BA,BA,Ae t W P,A3 W P]at e3;generalize u*P=x1,t*(P*W)=x2,A*P=x3,B*P=x5,k' * P=x4 at *;lia
abbrev cFd:Cel:=(102,0)
def adR(r y n:Nat):List Rw:=upTo (λJ=>[Rw.both cT (y,(J:Int)) cFd,Rw.sum (r,(J:Int)) (r,(J:Int)) cT]) n
def ziW{w:Nat}{A b:Int}(a0:0<=A)(a1:A<2^w)(hb:b=0 \/ b=1):BC A (b*(2^w-1))=b*A:=by
 obtain⟨x,rfl⟩:∃n:Nat,A=n:=#[A.toNat,by lia];rcases hb with rfl|rfl
 .rw[Av,Av];have:=zd8 x 0;simpa using this
 .rw[Az,Az];have hp:=pw w;have h1:(0:Nat)<2^w:=Gg ();have h2:((2:Int)^w-1)=((2^w-1:Nat):Int):=by lia
  rw[h2,zd8,Bz,Gb ()]
def zii{w:Nat}(hw:1<=w){r y:Nat}(hry:y≠r)(hr:r≠116/\r≠102)(hy:y≠116)(M:Mem)(k b:Int)(k0:0<=k)(k1:k<=1)(hb:b=0 \/ b=1)(hf:M 102 0=b*(2^w-1)):∀n,Dg (2^w) M r n->Dg (2^w) M y n->∃M' k',yt (2^w) (adR r y n) M k=(M',k')/\(∀d j,d≠116->(d≠r \/ (n:Int)<=j)->M' d j=M d j)/\Dg (2^w) M' r n/\0<=k'/\k'<=1/\yo (2^w) M' r n+k' * (2^w)^n=yo (2^w) M r n+b*yo (2^w) M y n+k
 |0,_,_=>#[M,k,rfl,λ_ _ _ _=>rfl,λi hi=>by lia,k0,k1,by simp[yo]]
 |n+1,ha,hd=>by
  have hW:(0:Int)<2^w:=AY ();let#[M1,k',e1,h1,h2,h3,h4,h5]:=zii hw hry hr hy M k b k0 k1 hb hf n ha.mono hd.mono;let#[a0,a1]:=ha n ();let#[b0,b1]:=hd n ();have bB:0<=b*M y n/\b*M y n<2^w:=by rcases hb with rfl|rfl<;>lia
  let#[d1,d2,d3,d4,d5]:=zbG (W:=2^w) hW (s:=M r n+b*M y n+k') () ();have hT:∀d j,d≠116->upd M1 116 0 (b*M y n) d j=M1 d j:=λd j h=>by unfold upd;rw[if_neg ()]
  have hv:∀i:Nat,i<n->upd M1 116 0 (b*M y n) r i=M1 r i:=λi _=>hT r i hr.1;refine#[upd (upd M1 116 0 (b*M y n)) r n ((M r n+b*M y n+k')%2^w),(M r n+b*M y n+k')/2^w,?_,λd j h6 h7=>?_,zeo (λi hi=>by rw[hv i hi];exact h2 i hi) d1 d2,d3,d4,?_]
  .rw[adR,upTo,zh];show yt (2^w) [Rw.both cT (y,(n:Int)) cFd,Rw.sum (r,(n:Int)) (r,(n:Int)) cT] (yt (2^w) (adR r y n) M k).1 (yt (2^w) (adR r y n) M k).2=_;rw[e1];have hff:M1 102 0=b*(2^w-1):=by rw[h1 102 0 ⋯ (.inl (λz=>hr.2 z.symm)),hf]
   have hyy:M1 y n=M y n:=h1 y n hy (.inl hry);have hrr:upd M1 116 0 (b*M y n) r n=M r n:=by rw[hT r n hr.1,h1 r n hr.1 (.inr ())]
   have htt:upd M1 116 0 (b*M y n) 116 0=b*M y n:=by unfold upd;rw[if_pos #[rfl,rfl]]
   erw[yt,stepM,rd,wr,cT,cFd,hff,hyy,ziW b0 b1 hb,hrr,htt]
  .unfold upd;rw[if_neg (),if_neg (),h1 d j h6 ()]
  .rw[zcI,zc (M':=M1) (c':=r) n hv,yo,yo,A5];generalize ((2:Int)^w)^n=P,(M r n+b*M y n+k')%2^w=u,(M r n+b*M y n+k')/2^w=t at *;generalize M r (n:Int)=A,M y (n:Int)=B,(2:Int)^w=W at *;have e3:(u+t*W)*P=(A+b*B+k')*P:=by rw[d5]
   rw[Ay,Ay,Ay,Ae t W P,A3 W P,Ae b B P]at e3;rw[By];generalize u*P=x1,t*(P*W)=x2,A*P=x3,b*(B*P)=x5,k' * P=x4,b*yo W M y n=x6 at *;lia
def yaM(y q r n:Nat):List Rw:=.mark 0::(twR 101 n++(twR r (n+1)++(lsR r y n++(.less (r,(n:Int)) (r,(n:Int)) cZ :: .less cFd cZ cZ :: .mark 0::(adR r y n++(.sum (r,(n:Int)) (r,(n:Int)) cZ :: .bare cFd cFd :: .ask cFd::twR q n))))))
structure Dv(w n y q r:Nat)(M0 M:Mem)(x Y:Int)(I:Nat):Prop where
 de:Dg (2^w) M 101 n
 dr:Dg (2^w) M r (n+1)
 dq:Dg (2^w) M q n
 keep:∀d j,d≠101->d≠r->d≠q->d≠116->d≠102->M d j=M0 d j
 rest:yo (2^w) M r (n+1)<Y
 sent:yo (2^w) M q n*Y*(2^w)^n+yo (2^w) M r (n+1)*(2^w)^n+yo (2^w) M 101 n=x*2^I
def zoy{w n:Nat}:((2:Int)^w)^n=2^(w*n):=by rw[CU]
structure Lt(y q r:Nat):Prop where
 yr:y≠r
 yq:y≠q
 qr:q≠r
 hy:y≠101/\y≠116/\y≠102/\y≠122
 hq:q≠101/\q≠116/\q≠102/\q≠122
 hr:r≠101/\r≠116/\r≠102/\r≠122
def zhs{W R Y P:Int}(hW:2<=W)(hP:0<P)(hR:R<Y)(hY:Y<=P):2*R+1<P*W:=by have:=Aq hW (show 0<=P by lia);lia
def zq0{A:Mem}{c d:Nat}{i v j:Int}(h:d≠c):upd A c i v d j=A d j:=if_neg λe=>h e.1
def zqY{A:Mem}{c:Nat}{i v:Int}:upd A c i v c i=v:=if_pos #[rfl,rfl]
def z01{b:Int}(h:0<=b)(g:b<=1):b=0 \/ b=1:=by lia
def z02{b:Int}(h:b=0 \/ b=1):0<=1-b/\1-b<=1:=by lia
def z03{W t k:Int}(t0:0<=t)(t1:t<W)(k0:0<=k)(k1:k<=1)(h:4<=W):-W<=t-0-k/\t-0-k<W/\0<=t+0+k/\t+0+k<2*W:=by lia
def znU{W P u b m k A B Y:Int}(d5:u-b*W=m-0-k)(v3:A-k*P=B-Y-0):A+u*P-b*(P*W)=B+m*P-Y:=by
 have e9:(u-b*W)*P=(m-0-k)*P:=by rw[d5]
 rw[BA,BA,BA,Av,Ae b W P,A3 W P]at e9;lia
def zoX{W P u c m k A B Y b:Int}(c5:u+c*W=m+0+k)(v6:A+k*P=B+b*Y+0):A+u*P+c*(P*W)=B+m*P+b*Y:=by
 have e9:(u+c*W)*P=(m+0+k)*P:=by rw[c5]
 rw[Ay,Ay,Ay,Av,Ae c W P,A3 W P]at e9;lia
def zos{b c Q Y P V7 V4 V2 V k1:Int}(hb:b=0 \/ b=1)(c0:0<=c)(c1:c<=1)(v2:V2=2*V+k1)(v4:V4-b*Q=V2-Y)(v7:V7+c*Q=V4+b*Y)(r0:0<=V)(k0:0<=k1)(k1':k1<=1)(r40:0<=V4)(r41:V4<Q)(r70:0<=V7)(r71:V7<Q)(hr:V<Y)(hY:Y<P)(hP:P<=Q):
  V7=2*V+k1-(1-b)*Y/\V7<Y:=by rcases hb with rfl|rfl<;>rcases (by lia:c=0 \/ c=1)with rfl|rfl<;>lia
def zoK{A B Y P E E1 k1 b Z:Int}(hs:A*Y*P+B*P+E=Z)(v1:E1+k1*P=2*E):(2*A+(1-b))*Y*P+(2*B+k1-(1-b)*Y)*P+E1=Z*2:=by
 have f1:(2*A+(1-b))*Y*P=2*(A*Y*P)+(1-b)*Y*P:=by rw[Ay,Ay,Ae 2 A Y,Ae 2 (A*Y) P]
 have f2:(2*B+k1-(1-b)*Y)*P=2*(B*P)+k1*P-(1-b)*Y*P:=by rw[BA,Ay,Ae 2 B P]
 rw[f1,f2];lia
def zo5{A Y P V E x T:Int}(hYp:1<=Y)(hP:0<P)(A0:0<=A)(V0:0<=V)(E0:0<=E)(x1:x<P)(T0:0<T)(hle:T<=P)(key:(A+1*P)*Y*P+V*P+E=x*T):False:=by
 have a1:P*P<=(A+1*P)*Y*P:=by
  have b1:P<=(A+1*P)*Y:=by have:=Aq hYp (show 0<=A+1*P by lia);lia
  exact Am b1 ()
 have a2:0<=V*P:=Bu V0 ();have a3:x*T<=(P-1)*T:=Am () ();have a4:(P-1)*T<=(P-1)*P:=Aq hle ();have a5:(P-1)*P=P*P-P:=by rw[BA,Az]
 lia
def zlc{W b:Int}(hW:1<W)(hb:b=0 \/ b=1):((0-0-b)%W,bi (decide ((0:Int)-0-b<0)))=(b*(W-1),b):=by
 rcases hb with rfl|rfl
 .simp[bi]
 .have:((0:Int)-0-1)%W=1*(W-1):=by rw[<-B9,AM () ()];lia
  rw[this];rfl
def znI{W b:Int}(hW:1<W)(hb:b=0 \/ b=1):bi (!((1-b)*(W-1)==0))=1-b:=by
 rcases hb with rfl|rfl
 .have:¬((1-0)*(W-1)=0):=by lia
  rw[beq_eq_false_iff_ne.2 this];rfl
 .simp[bi]
def zpH{W b:Int}(hb:b=0 \/ b=1):W-1-b*(W-1)=(1-b)*(W-1):=by rcases hb with rfl|rfl<;>lia
def zpU{W P R R2 k1 k2 Y:Int}(hW:2<=W)(hP:0<P)(r0:0<=R)(hR:R<Y)(hY:Y<P)(k10:0<=k1)(k11:k1<=1)(p:0<=k2)(p':k2<=1)(v2:R2+k2*(P*W)=2*R+k1)(r2:0<=R2):k2=0:=by
 have hlt:=zhs hW hP hR (Bv hY);rcases (by lia:k2=0 \/ k2=1)with z|z
 .exact z
 .subst z;lia
def zjL{w n y q r:Nat}(hw:1<w)(L:Lt y q r){M0 M:Mem}{x Y k:Int}{I:Nat}(hz:M0 122 0=0)(hD:Dg (2^w) M0 y n)(hY:yo (2^w) M0 y n=Y)(x1:x<(2^w:Int)^n)(hI:I<w*n)(h:Dv w n y q r M0 M x Y I):
  ∃M' k',yt (2^w) (yaM y q r n) M k=(M',k')/\Dv w n y q r M0 M' x Y (I+1):=by
 have hW4:(4:Int)<=2^w:=by have h:(2:Nat)^2<=2^w:=AZ () ();have h2:=pw w;lia
 have hW:(0:Int)<2^w:=DL ⋯ hW4;have hW2:(2:Int)<=2^w:=Int.le_trans ⋯ hW4;have hW1:(1:Int)<2^w:=DL ⋯ hW4;have hP:(0:Int)<(2^w)^n:=AY hW;let#[y0,y1]:=zw hW n hD;rw[hY]at y0 y1;let#[r0,r1]:=zw hW (n+1) h.dr;have hzM:M 122 0=0:=by rw[h.keep 122 0 ⋯ (λe=>L.hr.2.2.2 e.symm) (λe=>L.hq.2.2.2 e.symm) ⋯ ⋯,hz]
 have hyM:∀j,M y j=M0 y j:=λj=>h.keep y j L.hy.1 L.yr L.yq L.hy.2.1 L.hy.2.2.1;let#[M1,k1,e1,o1,g1,p1,p1',v1]:=zeD (W:=2^w) hW2 101 M 0 ⋯ ⋯ n h.de;have q1:∀j,M1 r j=M r j:=λj=>o1 r j (.inl L.hr.1);let#[M2,k2,e2,o2,g2,p2,p2',v2]:=zeD (W:=2^w) hW2 r M1 k1 p1 p1' (n+1) (λi hi=>by rw[q1];exact h.dr i hi);rw[zc (M:=M1) (M':=M) (c:=r) (c':=r) (n+1) λi _=>q1 i]at v2;let#[r20,r21]:=zw hW (n+1) g2;have hk2:k2=0:=zpU hW2 hP r0 h.rest y1 p1 p1' p2 p2' (by rw[<-A5];exact v2) r20;subst hk2;rw[Av,B2]at v2;have q2:∀j,M2 y j=M0 y j:=λj=>by rw[o2 y j (.inl L.yr),o1 y j (.inl L.hy.1),hyM]
 have z2:M2 122 0=0:=by rw[o2 122 0 (.inl (λe=>L.hr.2.2.2 e.symm)),o1 122 0 (.inl ⋯),hzM]
 let#[M3,k3,e3,o3,g3,p3,p3',v3]:=ziU (W:=2^w) hW L.yr M2 0 ⋯ ⋯ n g2.mono (λi hi=>by rw[q2];exact hD i hi);rw[zc (M:=M2) (M':=M0) (c:=y) (c':=y) n λi _=>q2 i,hY]at v3;have t3:M3 r n=M2 r n:=o3 r n (.inr (Eb _));let#[t0,t1]:=g2 n (Da n);let#[d1,d2,d3,d4,d5]:=zdz (W:=2^w) hW (s:=M2 r n-0-k3) (z03 t0 t1 p3 p3' hW4).1 (z03 t0 t1 p3 p3' hW4).2.1;have z3:M3 122 0=0:=by rw[o3 122 0 (.inl (λe=>L.hr.2.2.2 e.symm)),z2]
 have e4:stepM (2^w) M3 k3 (.less (r,(n:Int)) (r,(n:Int)) cZ)=(upd M3 r n ((M2 r n-0-k3)%2^w),bi (decide (M2 r n-0-k3<0))):=by erw[stepM,rd,wr,cZ,t3,z3]
 generalize hb:bi (decide (M2 r n-0-k3<0))=b at d3 d4 d5 e4;generalize hu:(M2 r n-0-k3)%2^w=u at d1 d2 d5 e4;have g4:Dg (2^w) (upd M3 r n u) r (n+1):=zeo g3 d1 d2;have v4:yo (2^w) (upd M3 r n u) r (n+1)-b*(2^w)^(n+1)=yo (2^w) M2 r (n+1)-Y:=by rw[zcI,yo,A5];exact znU d5 v3
 have o4:∀d j,d≠r->upd M3 r n u d j=M2 d j:=λd j hd=>by rw[zq0 hd,o3 d j (.inl hd)]
 generalize upd M3 r n u=M4 at e4 g4 v4 o4;let#[r40,r41]:=zw hW (n+1) g4;have hb01:b=0 \/ b=1:=z01 d3 d4;have z4:M4 122 0=0:=by rw[o4 122 0 (λe=>L.hr.2.2.2 e.symm),z2]
 have e5:stepM (2^w) M4 b (.less cFd cZ cZ)=(upd M4 102 0 (b*(2^w-1)),b):=by erw[stepM,rd,wr,cFd,cZ,z4];rw[(Hl (zlc hW1 hb01)).1,(Hl (zlc hW1 hb01)).2]
 have o5:∀d j,d≠102->upd M4 102 0 (b*(2^w-1)) d j=M4 d j:=λd j hd=>zq0 hd;have f5:upd M4 102 0 (b*(2^w-1)) 102 0=b*(2^w-1):=zqY;generalize upd M4 102 0 (b*(2^w-1))=M5 at e5 o5 f5;have q5:∀j,M5 r j=M4 r j:=λj=>o5 r j L.hr.2.2.1;have y5:∀j,M5 y j=M0 y j:=λj=>by rw[o5 y j L.hy.2.2.1,o4 y j L.yr,q2]
 let#[M6,k6,e6,o6,g6,p6,p6',v6]:=zii (w:=w) (Es hw) L.yr #[L.hr.2.1,L.hr.2.2.1] L.hy.2.1 M5 0 b ⋯ ⋯ hb01 f5 n (λi hi=>by rw[q5];exact g4 i (Nat.lt_succ_of_lt hi)) (λi hi=>by rw[y5];exact hD i hi);rw[zc (M:=M5) (M':=M4) (c:=r) (c':=r) n λi _=>q5 i,zc (M:=M5) (M':=M0) (c:=y) (c':=y) n λi _=>y5 i,hY]at v6;have t6:M6 r n=M4 r n:=by rw[o6 r n L.hr.2.1 (.inr (Eb _)),q5]
 let#[s0,s1]:=g4 n (Da n);let#[c1,c2,c3,c4,c5]:=zbG (W:=2^w) hW (s:=M4 r n+0+k6) (z03 s0 s1 p6 p6' hW4).2.2.1 (z03 s0 s1 p6 p6' hW4).2.2.2;have z6:M6 122 0=0:=by rw[o6 122 0 ⋯ (.inl (λe=>L.hr.2.2.2 e.symm)),o5 122 0 ⋯,z4]
 have e7:stepM (2^w) M6 k6 (.sum (r,(n:Int)) (r,(n:Int)) cZ)=(upd M6 r n ((M4 r n+0+k6)%2^w),(M4 r n+0+k6)/2^w):=by erw[stepM,rd,wr,cZ,t6,z6]
 generalize (M4 r n+0+k6)/2^w=c at c3 c4 c5 e7;generalize (M4 r n+0+k6)%2^w=u7 at c1 c2 c5 e7;have g7:Dg (2^w) (upd M6 r n u7) r (n+1):=zeo g6 c1 c2;have v7:yo (2^w) (upd M6 r n u7) r (n+1)+c*(2^w)^(n+1)=yo (2^w) M4 r (n+1)+b*Y:=by rw[zcI,yo,A5];exact zoX c5 v6
 have o7:∀d j,d≠r->d≠116->d≠102->upd M6 r n u7 d j=M2 d j:=λd j hd h1 h2=>by rw[zq0 hd,o6 d j h1 (.inl hd),o5 d j h2,o4 d j hd]
 have f7:upd M6 r n u7 102 0=b*(2^w-1):=by rw[zq0 (λz=>L.hr.2.2.1 z.symm),o6 102 0 ⋯ (.inl (λe=>L.hr.2.2.1 e.symm)),f5]
 generalize upd M6 r n u7=M7 at e7 g7 v7 o7 f7;let#[r70,r71]:=zw hW (n+1) g7;have hv2:yo (2^w) M2 r (n+1)=2*yo (2^w) M r (n+1)+k1:=v2;have hPW:(2^w:Int)^n<=(2^w)^(n+1):=by
  rw[A5];have:=Aq (Bv hW1) (Bv hP)
  rwa [CT]at this
 have hrest:yo (2^w) M7 r (n+1)=2*yo (2^w) M r (n+1)+k1-(1-b)*Y/\yo (2^w) M7 r (n+1)<Y:=zos hb01 c3 c4 hv2 v4 v7 r0 p1 p1' r40 r41 r70 r71 h.rest y1 hPW;have e8:stepM (2^w) M7 c (.bare cFd cFd)=(upd M7 102 0 ((1-b)*(2^w-1)),c):=by erw[stepM,rd,wr,cFd,f7];rw[zpH hb01]
 have o8:∀d j,d≠102->upd M7 102 0 ((1-b)*(2^w-1)) d j=M7 d j:=λd j hd=>zq0 hd;have f8:upd M7 102 0 ((1-b)*(2^w-1)) 102 0=(1-b)*(2^w-1):=zqY;generalize upd M7 102 0 ((1-b)*(2^w-1))=M8 at e8 o8 f8;have e9:stepM (2^w) M8 c (.ask cFd)=(M8,1-b):=by erw[stepM,rd,cFd,f8];rw[znI hW1 hb01]
 have q8:∀j,M8 q j=M q j:=λj=>by rw[o8 q j L.hq.2.2.1,o7 q j L.qr L.hq.2.1 L.hq.2.2.1,o2 q j (.inl L.qr),o1 q j (.inl L.hq.1)]
 let#[M9,k9,ea,o9,g9,p9,p9',v9]:=zeD (W:=2^w) hW2 q M8 (1-b) (z02 hb01).1 (z02 hb01).2 n (λi hi=>by rw[q8];exact h.dq i hi);rw[zc (M:=M8) (M':=M) (c:=q) (c':=q) n λi _=>q8 i]at v9;let#[u0,u1]:=zw hW n g9;let#[w0,w1]:=zw hW n h.dq;let#[ee0,ee1]:=zw hW n g1;have hs:=h.sent;have ve:yo (2^w) M9 101 n=yo (2^w) M1 101 n:=zc n λi _=>by rw[o9 101 i (.inl (λe=>L.hq.1 e.symm)),o8 101 i ⋯,o7 101 i (λe=>L.hr.1 e.symm) ⋯ ⋯,o2 101 i (.inl (λe=>L.hr.1 e.symm))]
 have vr:yo (2^w) M9 r (n+1)=yo (2^w) M7 r (n+1):=zc (n+1) λi _=>by rw[o9 r i (.inl (λe=>L.qr e.symm)),o8 r i L.hr.2.2.1]
 have v1':yo (2^w) M1 101 n+k1*(2^w)^n=2*yo (2^w) M 101 n:=by rw[v1,B2]
 have key:(2*yo (2^w) M q n+(1-b))*Y*(2^w)^n+yo (2^w) M7 r (n+1)*(2^w)^n+yo (2^w) M1 101 n=x*2^(I+1):=by rw[hrest.1,A5,<-Ae];exact zoK hs v1'
 have hk9:k9=0:=by
  rcases z01 p9 p9' with z|z
  .exact z
  .exfalso;subst z;have hle:(2:Int)^(I+1)<=(2^w)^n:=by
    rw[zoy]
    exact_mod_cast AZ (n:=2) ⋯ hI
   rw[<-v9]at key;exact zo5 (DM r0 h.rest) hP u0 r70 ee0 x1 (AY ⋯) hle key
 subst hk9;rw[Av,B2]at v9;rw[<-v9]at key;refine#[M9,0,?_,#[λi hi=>?_,λi hi=>?_,g9,λd j h1 h2 h3 h4 h5=>?_,?_,?_]]
 .have em:stepM (2^w) M k (.mark 0)=(M,0):=rfl;have em2:stepM (2^w) M5 b (.mark 0)=(M5,0):=rfl;rw[yaM,zl,em];simp only;rw[zh,e1,zh];simp only;rw[e2,zh];simp only;rw[e3,zl,e4,zl];simp only;rw[e5,zl,em2,zh];simp only;rw[e6,zl,e7,zl];simp only;rw[e8,zl,e9];simp only;rw[ea]
 .rw[o9 101 i (.inl (λe=>L.hq.1 e.symm)),o8 101 i ⋯,o7 101 i (λe=>L.hr.1 e.symm) ⋯ ⋯,o2 101 i (.inl (λe=>L.hr.1 e.symm))];exact g1 i hi
 .rw[o9 r i (.inl (λe=>L.qr e.symm)),o8 r i L.hr.2.2.1];exact g7 i hi
 .rw[o9 d j (.inl h3),o8 d j h5,o7 d j h2 h4 h5,o2 d j (.inl h2),o1 d j (.inl h1)];exact h.keep d j h1 h2 h3 h4 h5
 .rw[vr];exact hrest.2
 .rw[ve,vr];exact key
def zcK{w n y q r:Nat}(hw:1<w)(L:Lt y q r){M0 M:Mem}{x Y k:Int}(hz:M0 122 0=0)(hD:Dg (2^w) M0 y n)(hY:yo (2^w) M0 y n=Y)(x1:x<(2^w:Int)^n)(h:Dv w n y q r M0 M x Y 0):
  ∀I:Nat,I<=w*n->∃M' k',yt (2^w) (upTo (λ_=>yaM y q r n) I) M k=(M',k')/\Dv w n y q r M0 M' x Y I
 |0,_=>#[M,k,rfl,h]
 |I+1,hI=>by let#[M1,k1,e1,h1]:=zcK hw L hz hD hY x1 h I ();let#[M2,k2,e2,h2]:=zjL hw L (k:=k1) hz hD hY x1 () h1;refine#[M2,k2,?_,h2];rw[upTo,zh,e1];exact e2
def zgB{w n y q r:Nat}(hw:1<w){M0 M:Mem}{x Y:Int}(x0:0<=x)(h:Dv w n y q r M0 M x Y (w*n))(hYP:Y<=(2^w:Int)^n):yo (2^w) M q n=x/Y/\yo (2^w) M r n=x%Y/\M r n=0:=by
 have hW:(0:Int)<2^w:=AY ();have hP:(0:Int)<(2^w)^n:=AY hW;let#[r0,r1]:=zw hW (n+1) h.dr;let#[a0,a1]:=zw hW n h.de;let#[b0,b1]:=zw hW n h.dr.mono;let#[t0,t1]:=h.dr n ();have hs:=h.sent;have hr:=h.rest;rw[<-zoy]at hs;have htop:M r n=0:=by
  rw[yo]at hr;rcases (by lia:M r n=0 \/ 1<=M r n)with z|z
  .exact z
  .have:=Am z (show (0:Int)<=(2^w)^n by lia);lia
 have hv:yo (2^w) M r (n+1)=yo (2^w) M r n:=by rw[yo,htop];lia
 rw[hv]at hs hr;generalize ((2:Int)^w)^n=P,yo (2^w) M q n=A,yo (2^w) M r n=B,yo (2^w) M 101 n=E at *;have e0:E=0:=by
  have h1:E=(x-A*Y-B)*P:=by rw[BA,BA];lia
  have h2:E%P=E:=AM a0 a1;rw[<-h2,h1,Int.mul_emod_left]
 subst e0;have hx:A*Y+B=x:=by
  have h1:(A*Y+B)*P=x*P:=by rw[Ay];lia
  exact Int.eq_of_mul_eq_mul_right () h1
 have hYp:0<Y:=by lia
 refine#[?_,?_,htop]
 .rw[<-hx,Cz,D5 _ _ (),BN b0 hr,D3]
 .rw[<-hx,Cz,B3,AM b0 hr]
abbrev cGd:Cel:=(103,0)
def zkA{w:Nat}{A b:Int}(a0:0<=A)(a1:A<2^w)(hb:b=0 \/ b=1):BO A (b*(2^w-1))=A+b*(2^w-1-2*A):=by
 obtain⟨x,rfl⟩:∃n:Nat,A=n:=#[A.toNat,by lia];rcases hb with rfl|rfl
 .rw[Av,Av];have:=zgN x 0;simpa using this
 .rw[Az,Az];have hp:=pw w;have h1:(0:Nat)<2^w:=Gg ();have h2:((2:Int)^w-1)=((2^w-1:Nat):Int):=by lia
  have h3:=zd8 x (2^w-1);have h4:=zcQ x (2^w-1);have h6:x ||| (2^w-1)=2^w-1:=by
   apply Nat.eq_of_testBit_eq;intro i;rw[Nat.testBit_or,Nat.testBit_two_pow_sub_one]
   by_cases hi:i<w
   .simp[hi]
   .have:x<2^i:=A9 () (AZ () (show w<=i by lia));rw[Nat.testBit_lt_two_pow this];simp[hi]
  rw[BO,h2,h3,h4,h6,Bz,Gb ()];lia
def trL(src to n:Nat):List Rw:=upTo (λi=>[Rw.odd cT (src,(i:Int)) cGd,Rw.sum (to,(i:Int)) cT cZ]) n
def zin{w:Nat}(hw:1<=w){src to:Nat}(h1:src≠to)(h2:src≠116)(h3:to≠116/\to≠103/\to≠122)(M:Mem)(b:Int)(hb:b=0 \/ b=1)(hg:M 103 0=b*(2^w-1))(hz:M 122 0=0):∀n,Dg (2^w) M src n->∃M' k',yt (2^w) (trL src to n) M b=(M',k')/\(∀d j,d≠116->(d≠to \/ (n:Int)<=j)->M' d j=M d j)/\Dg (2^w) M' to n/\0<=k'/\k'<=1/\yo (2^w) M' to n+k' * (2^w)^n=yo (2^w) M src n+b*((2^w)^n-2*yo (2^w) M src n)
 |0,_=>#[M,b,rfl,λ_ _ _ _=>rfl,λi hi=>by lia,by lia,by lia,by simp[yo]]
 |n+1,hd=>by
  have hW:(0:Int)<2^w:=AY ();let#[M1,k',e1,o1,g1,p1,p2,v1]:=zin hw h1 h2 h3 M b hb hg hz n hd.mono;let#[a0,a1]:=hd n ();have hX:0<=M src n+b*(2^w-1-2*M src n)/\M src n+b*(2^w-1-2*M src n)<2^w:=by rcases hb with rfl|rfl<;>lia
  generalize hXX:M src n+b*(2^w-1-2*M src n)=X at *;let#[d1,d2,d3,d4,d5]:=zbG (W:=2^w) hW (s:=X+0+k') () ();have hT:∀d j,d≠116->upd M1 116 0 X d j=M1 d j:=λd j h=>by unfold upd;rw[if_neg ()]
  have hv:∀i:Nat,i<n->upd M1 116 0 X to i=M1 to i:=λi _=>hT to i h3.1;refine#[upd (upd M1 116 0 X) to n ((X+0+k')%2^w),(X+0+k')/2^w,?_,λd j h6 h7=>?_,zeo (λi hi=>by rw[hv i hi];exact g1 i hi) d1 d2,d3,d4,?_]
  .rw[trL,upTo,zh];show yt (2^w) [Rw.odd cT (src,(n:Int)) cGd,Rw.sum (to,(n:Int)) cT cZ] (yt (2^w) (trL src to n) M b).1 (yt (2^w) (trL src to n) M b).2=_;rw[e1];have hgg:M1 103 0=b*(2^w-1):=by rw[o1 103 0 ⋯ (.inl (λz=>h3.2.1 z.symm)),hg]
   have hss:M1 src n=M src n:=o1 src n h2 (.inl h1);have htt:upd M1 116 0 X 116 0=X:=by unfold upd;rw[if_pos #[rfl,rfl]]
   have hzz:upd M1 116 0 X 122 0=0:=by rw[hT 122 0 ⋯,o1 122 0 ⋯ (.inl (λz=>h3.2.2 z.symm)),hz]
   erw[yt,stepM,rd,wr,cT,cGd,cZ,hgg,hss,zkA a0 a1 hb,hXX,htt,hzz]
  .unfold upd;rw[if_neg (),if_neg (),o1 d j h6 ()]
  .rw[zcI,zc (M':=M1) (c':=to) n hv,yo,A5];generalize ((2:Int)^w)^n=P,(X+0+k')%2^w=u,(X+0+k')/2^w=t,M src (n:Int)=A at *;generalize (2:Int)^w=W at *;generalize yo W M src n=V,yo W M1 to n=Z at *;have e3:(u+t*W)*P=(X+0+k')*P:=by rw[d5]
   rw[Ay,Ay,Ay,Av,Ae t W P,A3 W P,<-hXX,Ay,Ae b,BA,BA,Az,Ae 2 A P,A3 W P]at e3;generalize u*P=x1,t*(P*W)=x2,A*P=x3,k' * P=x4 at *;generalize P*W=x7 at *;rcases hb with rfl|rfl<;>lia
def trn(s src to n:Nat):List Rw:=.ask (s,0) :: .less cGd cZ cZ::trL src to n
def zeY{w:Nat}(hw:1<w){s src to:Nat}(h1:src≠to)(h2:src≠116/\src≠103)(h3:to≠116/\to≠103/\to≠122){M:Mem}{k:Int}{b:Int}(hb:b=0 \/ b=1)(hs:M s 0=b)(hz:M 122 0=0){n:Nat}(hd:Dg (2^w) M src n):
  ∃M' k',yt (2^w) (trn s src to n) M k=(M',k')/\(∀d j,d≠116->d≠103->d≠to->M' d j=M d j)/\Dg (2^w) M' to n/\yo (2^w) M' to n=(if b=1 then 0-yo (2^w) M src n else yo (2^w) M src n)%(2^w)^n:=by
 have hW:(0:Int)<2^w:=AY ();have hW4:(4:Int)<=2^w:=by have h:(2:Nat)^2<=2^w:=AZ () ();have h2:=pw w;lia
 have e1:stepM (2^w) M k (.ask (s,0))=(M,b):=by erw[stepM,rd,hs];rcases hb with rfl|rfl<;>rfl
 have e2:stepM (2^w) M b (.less cGd cZ cZ)=(upd M 103 0 (b*(2^w-1)),b):=by
  erw[stepM,rd,wr,cGd,cZ,hz];rcases hb with rfl|rfl
  .simp[bi]
  .have:((0:Int)-0-1)%2^w=1*(2^w-1):=by rw[<-B9,AM () ()];lia
   rw[this];rfl
 have o2:∀d j,d≠103->upd M 103 0 (b*(2^w-1)) d j=M d j:=λd j hd=>by unfold upd;rw[if_neg ()]
 have f2:upd M 103 0 (b*(2^w-1)) 103 0=b*(2^w-1):=by unfold upd;rw[if_pos #[rfl,rfl]]
 generalize upd M 103 0 (b*(2^w-1))=M1 at *;let#[M2,k2,e3,o3,g3,p3,p4,v3]:=zin (w:=w) () h1 h2.1 h3 M1 b hb f2 (by rw[o2 122 0 ⋯,hz]) n (λi hi=>by rw[o2 src i h2.2];exact hd i hi);rw[zc (M:=M1) (M':=M) (c:=src) (c':=src) n λi _=>o2 src i h2.2]at v3;let#[r0,r1]:=zw hW n g3;refine#[M2,k2,?_,λd j h4 h5 h6=>by rw[o3 d j h4 (.inl h6),o2 d j h5],g3,?_]
 .rw[trn,zl,e1,zl,e2];exact e3
 .generalize ((2:Int)^w)^n=P,yo (2^w) M src n=V,yo (2^w) M2 to n=Z at *;rcases hb with rfl|rfl
  .rw[if_neg (),show V=Z+k2*P by lia,B3,AM r0 r1]
  .have e:Z+k2*P=0-V+1*P:=by lia
   rw[if_pos rfl,<-B3 (0-V) 1 P,<-e,B3,AM r0 r1]
def zeB{w:Nat}(hw:1<w){s c:Nat}(hs:s≠116)(hc:c≠116){M:Mem}{k:Int}(k0:k=0)(hz:M 122 0=0){n:Nat}(hd:Dg (2^w) M c (n+1))(j:Int):
  yt (2^w) [.twice cT (c,((n+1:Nat):Int)-1),.sum (s,j) cZ cZ] M k=(upd (upd M 116 0 (2*M c n%2^w)) s j (if (2^w:Int)^(n+1)<=2*yo (2^w) M c (n+1)then 1 else 0),0):=by
 have hW4:(4:Int)<=2^w:=by have h:(2:Nat)^2<=2^w:=AZ () ();have h2:=pw w;lia
 subst k0;have ht:=zaU () hd;have hn:((n+1:Nat):Int)-1=n:=by lia
 have hz2:upd M 116 0 (2*M c n%2^w) 122 0=0:=by unfold upd;rw[if_neg (),hz]
 have hT:2*M c n/2^w=if (2^w:Int)^(n+1)<=2*yo (2^w) M c (n+1)then 1 else 0:=ht;rw[hn];erw[yt,stepM,rd,wr,cT,cZ,B2,hT,hz2];generalize hb:(if (2^w:Int)^(n+1)<=2*yo (2^w) M c (n+1)then(1:Int)else 0)=b;have hb2:0<=b/\b<=1:=by split at hb<;>lia
 rw[D3,AM hb2.1 (),BN hb2.1 ()]
def mvR(x n:Nat):List Rw:=yG (λi=>.move (101,i) (x,i)) n
def ydb(y q r w n:Nat):List Rw:=upTo (λ_=>yaM y q r n) (w*n)
def yah(w n:Nat):List Rw:=mvR 97 n++ydb 98 99 100 w n++nR n++yE n
def dvT(y q r:Nat):List T2:=[.row (rS "mark" [.fig 0]),.rounds 0 1 0 [rS "twice" [cx 101 0 0 1 0,cx 101 0 0 1 0]],.rounds 1 1 0 [rS "twice" [cx r 0 0 1 0,cx r 0 0 1 0]],.rounds 0 1 0 [rS "less" [cx r 0 0 1 0,cx r 0 0 1 0,cx y 0 0 1 0]],.row (rS "less" [cx r 0 0 0 1,cx r 0 0 0 1,oZ]),.row (rS "less" [cx 102 0 0 0 0,oZ,oZ]),.row (rS "mark" [.fig 0]),
 .rounds 0 1 0 [rS "both" [oT,cx y 0 0 1 0,cx 102 0 0 0 0],rS "sum" [cx r 0 0 1 0,cx r 0 0 1 0,oT]],.row (rS "sum" [cx r 0 0 0 1,cx r 0 0 0 1,oZ]),.row (rS "bare" [cx 102 0 0 0 0,cx 102 0 0 0 0]),.row (rS "ask" [cx 102 0 0 0 0]),.rounds 0 1 0 [rS "twice" [cx q 0 0 1 0,cx q 0 0 1 0]]]
def nT:List T1:=[.row (rS "set" [oS,.fig 0]),.rounds 0 1 0 [.row (rS "any" [oS,oS,cx 98 0 1 0 0])],.row (rS "ask" [oS]),.row (rS "set" [oM 0,.fig 1]),.row (rS "less" [oM 0,oM 0,oZ])]
def mvT(x:Nat):T1:=.rounds 0 1 0 [.row (rS "move" [cx 101 0 1 0 0,cx x 0 1 0 0])]
def ydt:List T1:=[mvT 97,.rounds 0 0 1 (dvT 98 99 100)]++(nT++ybk 0 1)
def ziE(w n:Nat):cnt 0 0 1 w n=w*n:=by unfold cnt;rw[show (0:Int)+0*n+1*w*n=((w*n:Nat):Int)by simp];rfl
def zfN(w:Int)(n:Nat):cnt 1 1 0 w n=n+1:=by simp[cnt];lia
def zqB(y q r:Nat)(w:Int)(n I:Nat):yad w n I (dvT y q r)=(yaM y q r n).map yM:=by
 have tw:∀c:Nat,T2.rows w n I (.rounds 0 1 0 [rS "twice" [cx c 0 0 1 0,cx c 0 0 1 0]])=(twR c n).map yM:=λc=>by rw[T2.rows,zaA];exact zag (λJ=>by simp[Rs.pv,rS,Op.pv,cx,Cx.at,yM,yC]) n
 have t1:T2.rows w n I (.rounds 1 1 0 [rS "twice" [cx r 0 0 1 0,cx r 0 0 1 0]])=(twR r (n+1)).map yM:=by rw[T2.rows,zfN];exact zag (λJ=>by simp[Rs.pv,rS,Op.pv,cx,Cx.at,yM,yC]) (n+1)
 have ls:T2.rows w n I (.rounds 0 1 0 [rS "less" [cx r 0 0 1 0,cx r 0 0 1 0,cx y 0 0 1 0]])=(lsR r y n).map yM:=by rw[T2.rows,zaA];exact zag (λJ=>by simp[Rs.pv,rS,Op.pv,cx,Cx.at,yM,yC]) n
 have ad:T2.rows w n I (.rounds 0 1 0 [rS "both" [oT,cx y 0 0 1 0,cx 102 0 0 0 0],rS "sum" [cx r 0 0 1 0,cx r 0 0 1 0,oT]])=(adR r y n).map yM:=by rw[T2.rows,zaA];exact zag (λJ=>by simp[Rs.pv,rS,Op.pv,oT,cx,Cx.at,yM,yC]) n
 erw[yad,dvT,Ap,BL,tw,t1,ls,ad,yaM,AL,Ba,Aj];simp[T2.rows,Rs.pv,rS,Op.pv,oZ,cx,Cx.at,yM,yC]
def zrl(w:Int)(n:Nat):yD w n nT=(nR n).map yM:=by have h:=zag (g:=λI=>yad w n I [.row (rS "any" [oS,oS,cx 98 0 1 0 0])]) (f:=λi=>[Rw.any cS cS (98,i)]) (λI=>by simp[yad,T2.rows,Rs.pv,rS,Op.pv,oS,cx,Cx.at,yM,yC]) n;erw[yD,nT,Ap,BL,T1.rows,zaA,h,nR,Ba,AL,Ah];simp[Rs.pv,rS,Op.pv,oZ,oS,oM,cx,Cx.at,yM,yC]
def zoj(x:Nat)(w:Int)(n:Nat):T1.rows w n (mvT x)=(mvR x n).map yM:=by rw[mvT,T1.rows,zaA];exact zbB (λI=>by simp[yad,T2.rows,Rs.pv,rS,Op.pv,cx,Cx.at,yM,yC]) n
def zlb(y q r w n:Nat):T1.rows w n (.rounds 0 0 1 (dvT y q r))=(ydb y q r w n).map yM:=by rw[T1.rows,ziE];exact zag (λI=>zqB y q r w n I) (w*n)
def zpu(w n:Nat):yD w n ydt=(yah w n).map yM:=by rw[ydt,zG,zG,zrl,zg1];erw[yD,Ap,BL,zoj,zlb,Aj,yah,Ba,BJ]
def tgN(d:Nat)(j:Int):Rw->Prop
 |.mark _ | .ask _=>True
 |.set t _ | .move t _ | .bare t _ | .twice t _ | .half t _ | .sum t _ _ | .less t _ _ | .both t _ _ | .any t _ _ | .odd t _ _=>t≠(d,j)
 |.times a b _ _=>a≠(d,j)/\b≠(d,j)
def zi1{M:Mem}{t:Cel}{v:Int}{d:Nat}{j:Int}(h:t≠(d,j)):wr M t v d j=M d j:=by
 let#[a,b]:=t;erw[wr,upd];rw[if_neg]
 rintro⟨rfl,rfl⟩
 exact h rfl
def zcE(W:Int){d:Nat}{j:Int}:∀(rs:List Rw) (M:Mem) (k:Int),(∀r∈rs,tgN d j r)->(yt W rs M k).1 d j=M d j
 |[],_,_,_=>rfl
 |r::rs,M,k,h=>by
  rw[zl,zcE W rs _ _ λq hq=>h q (AS _ hq)];have hr:=h r Aw
  cases r<;>first|rfl|exact zi1 hr|exact(zi1 hr.2).trans (zi1 hr.1)
def zgg{W:Int}{x:Nat}(hx:x≠101)(M:Mem)(k:Int):∀n:Nat,∃M',yt W (mvR x n) M k=(M',k)/\(∀d j,d≠101->M' d j=M d j)/\∀i:Nat,i<n->M' 101 i=M x i
 |0=>#[M,rfl,λ_ _ _=>rfl,λi hi=>by lia]
 |n+1=>by
  let#[M1,e1,h1,h2]:=zgg (W:=W) hx M k n;refine#[upd M1 101 n (M x n),?_,λd j hd=>?_,λi hi=>?_]
  .rw[mvR,yG,zh];show yt W _ (yt W (mvR x n) M k).1 (yt W (mvR x n) M k).2=_;rw[e1];erw[yt,stepM,rd,wr,h1 x n hx]
  .unfold upd;rw[if_neg (),h1 d j ()]
  .unfold upd
   by_cases hin:i=n
   .subst hin;rw[if_pos #[rfl,rfl]]
   .rw[if_neg ()];exact h2 i ()
def zme{n:Nat}{d:Nat}{j:Int}(h1:d≠115)(h2:d≠109 \/ j≠0):∀r∈nR n,tgN d j r:=by
 intro r hr;erw[nR,BE,AN,AU,or_false]at hr;rcases hr with (rfl|hr)|rfl|rfl|rfl
 case inl.inr=>
  let#[i,hi,hr]:=zN hr;erw[AN,AU,or_false]at hr;subst hr;erw[tgN,cS,ne_eq,Dm];omega
 all_goals erw[tgN,cS,ne_eq,Dm];try lia
def zlJ{n:Nat}{d:Nat}{j:Int}(h1:d≠115)(h2:d≠109)(h3:d≠116):∀r∈yE n,tgN d j r:=by
 intro r hr;erw[yE,BE,AN,AU,or_false]at hr;rcases hr with (rfl|hr)|rfl|rfl|rfl|rfl|rfl
 case inl.inr=>let#[i,hi,rfl]:=zar hr;erw[tgN,cS,ne_eq,Dm];lia
 all_goals erw[tgN,cS,cT,ne_eq,Dm];try lia
def zrY:Lt 98 99 100:=#[by decide,by decide,by decide,by decide,by decide,by decide]
def ziS{w:Nat}(hw:1<w){n:Nat}{x y:Int}(x0:0<=x)(x1:x<(2^w:Int)^(n+1))(y0:0<y)(y1:y<(2^w:Int)^(n+1)):
  yo (2^w) (yt (2^w) (yah w (n+1)) (yac (2^w) (n+1) x y) 0).1 99 (n+1)=x/y/\yo (2^w) (yt (2^w) (yah w (n+1)) (yac (2^w) (n+1) x y) 0).1 100 (n+1)=x%y /\
  (yt (2^w) (yah w (n+1)) (yac (2^w) (n+1) x y) 0).1 109 0=0/\(yt (2^w) (yah w (n+1)) (yac (2^w) (n+1) x y) 0).1 109 1=0 /\
  (yt (2^w) (yah w (n+1)) (yac (2^w) (n+1) x y) 0).1 109 2=bi (x/y==0)/\(yt (2^w) (yah w (n+1)) (yac (2^w) (n+1) x y) 0).1 109 3=bi (decide ((2^w:Int)^(n+1)<=2*(x/y))):=by
 have hW:(0:Int)<2^w:=AY ();have hb0:∀d j,d≠97->d≠98->yac (2^w) (n+1) x y d j=0:=λd j h1 h2=>zfh _ _ _ h1 h2 _;have da:=ze5 (n+1) x y hW;have db:=zgy (n+1) x y hW;have va:=zet (n+1) x y hW x0 x1;have vb:=zgF (n+1) x y hW () y1;rw[yah];generalize yac (2^w) (n+1) x y=A at *;let#[M1,e1,o1,v1]:=zgg (W:=2^w) (x:=97) ⋯ A 0 (n+1);have z0:∀(d m:Nat),d≠97->d≠98->d≠101->yo (2^w) M1 d m=0/\Dg (2^w) M1 d m:=λd m h1 h2 h3=>by
  have hz:∀i:Nat,M1 d i=0:=λi=>by rw[o1 d i h3,hb0 d i h1 h2]
  have hd:Dg (2^w) M1 d m:=λi _=>by rw[hz];lia
  exact#[(zaP hW m hd).2 λi _=>hz i,hd]
 have D0:Dv w (n+1) 98 99 100 A M1 x y 0:={
  de:=λi hi=>by rw[v1 i hi];exact da i hi
  dr:=(z0 100 _ ⋯ ⋯ ⋯).2
  dq:=(z0 99 _ ⋯ ⋯ ⋯).2
  keep:=λd j h1 _ _ _ _=>o1 d j h1
  rest:=by rw[(z0 100 _ ⋯ ⋯ ⋯).1];exact y0
  sent:=by rw[(z0 100 _ ⋯ ⋯ ⋯).1,(z0 99 _ ⋯ ⋯ ⋯).1,zc (M':=A) (c':=97) (n+1) v1,va];simp}
 let#[M2,k2,e2,D2]:=zcK hw zrY (k:=0) (hb0 122 0 ⋯ ⋯) db vb x1 D0 (w*(n+1)) (AT _);let#[q1,q2,q3]:=zgB hw x0 D2 ();rw[zh,zh,zh,e1];simp only;rw[ydb,e2];simp only;have kz:M2 122 0=0:=by rw[D2.keep 122 0 ⋯ ⋯ ⋯ ⋯ ⋯,hb0 122 0 ⋯ ⋯]
 have kb:∀j,M2 98 j=A 98 j:=λj=>D2.keep 98 j ⋯ ⋯ ⋯ ⋯ ⋯;have nn:=zlg hw (n+1) M2 k2 kz (λi hi=>by rw[kb];exact(db i hi).1);have hnz:¬ ∀i:Nat,i<n+1->M2 98 i=0:=λz=>by
  have:yo (2^w) A 98 (n+1)=0:=(zaP hW (n+1) db).2 λi hi=>by rw[<-kb];exact z i hi
  lia
 have n0:=nn.2 hnz;have no:∀d j,d≠115->(d≠109 \/ j≠0)->(yt (2^w) (nR (n+1)) M2 k2).1 d j=M2 d j:=λd j h1 h2=>zcE _ _ _ _ (zme h1 h2);generalize yt (2^w) (nR (n+1)) M2 k2=R at *;let#[M3,k3]:=R;simp only at *;have dc:Dg (2^w) M3 99 (n+1):=λi hi=>by rw[no 99 i ⋯ (.inl ⋯)];exact D2.dq i hi
 have vc:yo (2^w) M3 99 (n+1)=x/y:=by rw[<-q1];exact zc _ λi _=>no 99 i ⋯ (.inl ⋯)
 let#[f1,f2,f3,f4,f5]:=zcw hw M3 k3 dc (by rw[no 122 0 ⋯ (.inl ⋯),kz]);have f6:∀j,(yt (2^w) (yE (n+1)) M3 k3).1 100 j=M3 100 j:=λj=>zcE _ _ _ _ (zlJ ⋯ ⋯ ⋯);rw[vc]at f4 f5;refine#[?_,?_,?_,?_,f4,f5]
 .rw[<-vc];exact zc _ λi _=>f1 i
 .rw[<-q2];exact zc _ λi _=>by rw[f6,no 100 i ⋯ (.inl ⋯)]
 .rw[f2,n0]
 .rw[f3,no 109 1 ⋯ (.inr ⋯),D2.keep 109 1 ⋯ ⋯ ⋯ ⋯ ⋯,hb0 109 1 ⋯ ⋯]
def sqA(w n:Nat):List Rw:=[.twice cT (97,(n:Int)-1),.sum (105,0) cZ cZ]++([.twice cT (98,(n:Int)-1),.sum (106,0) cZ cZ]++(.odd (107,0) (105,0) (106,0)::(trn 105 97 117 n++(trn 106 98 118 n++(mvR 117 n++(ydb 118 113 114 w n++(trn 107 113 99 n++trn 105 114 100 n)))))))
def sqB(n:Nat):List Rw:=[.twice cT (113,(n:Int)-1),.sum (109,1) cZ cZ]++(.any (109,1) (109,1) (107,0) :: .odd (109,1) (109,1) (107,0)::yE n)
def yaw(w n:Nat):List Rw:=sqA w n++nR n++sqB n
def o0(c:Nat):Op:=cx c 0 0 0 0
def lO(c:Nat):Op:=cx c (-1) 0 0 1
def trT(s src to:Nat):List T1:=[.row (rS "ask" [o0 s]),.row (rS "less" [o0 103,oZ,oZ]),.rounds 0 1 0 [.row (rS "odd" [oT,cx src 0 1 0 0,o0 103]),.row (rS "sum" [cx to 0 1 0 0,oT,oZ])]]
def sgT(s c:Nat):List T1:=[.row (rS "twice" [oT,lO c]),.row (rS "sum" [o0 s,oZ,oZ])]
def sqT:List T1:=sgT 105 97++(sgT 106 98++(.row (rS "odd" [o0 107,o0 105,o0 106])::(trT 105 97 117++(trT 106 98 118++(mvT 117 :: .rounds 0 0 1 (dvT 118 113 114)::(trT 107 113 99++(trT 105 114 100++(nT++(.row (rS "twice" [oT,lO 113]) :: .row (rS "sum" [oM 1,oZ,oZ]) :: .row (rS "any" [oM 1,oM 1,o0 107]) :: .row (rS "odd" [oM 1,oM 1,o0 107])::ybk 0 1)))))))))
def zqV(s src to:Nat)(w:Int)(n:Nat):yD w n (trT s src to)=(trn s src to n).map yM:=by have h:=zag (g:=λI=>yad w n I [.row (rS "odd" [oT,cx src 0 1 0 0,o0 103]),.row (rS "sum" [cx to 0 1 0 0,oT,oZ])]) (f:=λi=>[Rw.odd cT (src,(i:Int)) cGd,Rw.sum (to,(i:Int)) cT cZ]) (λI=>by simp[yad,T2.rows,Rs.pv,rS,Op.pv,oT,oZ,o0,cx,Cx.at,yM,yC]) n;erw[yD,trT,Ap,BL,T1.rows,zaA,h,trn,trL,AL,Aj];simp[Rs.pv,rS,Op.pv,oZ,o0,cx,Cx.at,yM,yC]
def zqS(c n:Nat):(lO c).pv 0 0 n=yC (c,(n:Int)-1):=by
 have:(-1:Int)+0*0+0*0+1*(n:Int)=(n:Int)-1:=by lia
 erw[lO,Op.pv,cx,Cx.at,this,yC]
def zir(w n:Int)(p:T1)(ps:List T1):yD w n (p::ps)=T1.rows w n p++yD w n ps:=by simp[yD]
def zqg(w n:Nat):yD w n sqT=(yaw w n).map yM:=by
 have m0:(oM 1).pv 0 0 n=yC (109,1):=by simp[oM,Op.pv,cx,Cx.at,yC]
 have z0:oZ.pv 0 0 n=yC cZ:=by simp[oZ,Op.pv,cx,Cx.at,yC]
 have t0:oT.pv 0 0 n=yC cT:=by simp[oT,Op.pv,cx,Cx.at,yC]
 have c0:∀c:Nat,(o0 c).pv 0 0 n=yC (c,0):=λc=>by simp[o0,Op.pv,cx,Cx.at,yC]
 erw[sqT,sgT,zG,zir,zqV,zoj,zlb,zrl,zg1,yaw,sqA,sqB,Ba,AL,Ah,Ak,BF,BJ];erw[T1.rows,Rs.pv,rS,AL,Ah,Ak,BF,zqS,m0,z0,t0,c0];rfl
def zrZ:Lt 118 113 114:=#[by decide,by decide,by decide,by decide,by decide,by decide]
def zm9{W:Int}(n:Nat)(M:Mem)(k:Int)(hz:M 122 0=0):(yt W (nR n) M k).2=0:=by
 have e:nR n=([.set cS 0]++upTo (λi=>[Rw.any cS cS (98,i)]) n)++[.ask cS,.set (109,0) 1,.less (109,0) (109,0) cZ]:=rfl;have hm:∀r∈[.set cS 0]++upTo (λi=>[Rw.any cS cS (98,i)]) n,tgN 122 0 r:=λr hr=>zme (n:=n) ⋯ (.inl ⋯) r (by rw[e];exact Do _ hr);rw[e,zh];have hz1:=zcE W (d:=122) (j:=0) _ M k hm;generalize yt W ([.set cS 0]++upTo (λi=>[Rw.any cS cS (98,i)]) n) M k=R at *;let#[M1,k1]:=R;simp only at *;rw[hz]at hz1;erw[yt,stepM,rd,wr,upd,cS,cZ,CY,false_and,if_false,and_self,if_true,hz1]
 cases (M1 115 0==0)<;>rfl
def yau(x:Int):Int:=if x<0 then -x else x
def yca(X Y:Int):Int:=if (decide (X<0) != decide (Y<0))=AC then 0-yau X/yau Y else yau X/yau Y
def zrm{a b:Int}(ha:a=0 \/ a=1)(hb:b=0 \/ b=1):BO a b=(if a=b then 0 else 1)/\BO (BB a b) b=(if a=1/\b=0 then 1 else 0):=by rcases ha with rfl|rfl<;>rcases hb with rfl|rfl<;>decide
def zjz{P x:Int}(x0:0<=x)(x1:x<P):(if (if P<=2*x then(1:Int)else 0)=1 then 0-x else x)%P=yau (sgd P x)/\(sgd P x<0 ↔ P<=2*x)/\yau (sgd P x)<P/\0<=yau (sgd P x)/\(0<x->0<yau (sgd P x)):=by
 unfold yau sgd
 by_cases h:P<=2*x
 .simp only[h,if_true];have e:(0-x)%P=P-x:=by rw[<-B9];rw[AM () ()];lia
  rw[if_pos (),e];exact#[by lia,#[λ_=>trivial,λ_=>by lia],by lia,by lia,λ_=>by lia]
 .have h0:¬x<0:=by lia
  erw[h,if_false,h0];rw[if_neg (),AM x0 x1];exact#[rfl,trivial,x1,x0,λz=>z]
def zer(x:Int):x<0/\yau x=-x \/ ¬x<0/\yau x=x:=by
 unfold yau
 by_cases h:x<0
 .rw[if_pos h];exact .inl #[h,rfl]
 .rw[if_neg h];exact .inr #[h,rfl]
def zmo(X Y:Int):X-Y*yca X Y=if X<0 then 0-yau X%yau Y else yau X%yau Y:=by have hd:=Int.emod_def (yau X) (yau Y);unfold yca;rcases zer X with⟨a,ea⟩|⟨a,ea⟩<;>rcases zer Y with⟨b,eb⟩|⟨b,eb⟩<;>erw[a,b,decide_true,decide_false,bne_self_eq_false,B8,if_false,if_true,Bool.true_bne,Bool.false_bne,Bool.not_false,HP]<;>rw[hd]<;>generalize yau X/yau Y=q at *<;>rw[ea,eb]<;>(have e1:Y*(0-q)=-(Y*q):=by rw[CG,FD,GT])<;>(have e2:-Y*q=-(Y*q):=FV ..)<;>(try rw[e1])<;>(try rw[e2])<;>generalize Y*q=z at *<;>lia
def zpq{p:Prop}[Decidable p]:(if p then(1:Int)else 0)=bi (decide p):=by
 by_cases h:p
 .rw[if_pos h,decide_eq_true h];rfl
 .rw[if_neg h,decide_eq_false h];rfl
def zre{A:Mem}{c d e:Nat}{i v j k u:Int}(h:d≠c)(g:d≠e \/ j≠k):upd (upd A c i v) e k u d j=A d j:=by unfold upd;rw[if_neg λz=>g.elim (λa=>a z.1) λa=>a z.2,if_neg λe=>h e.1]
def zr0{A:Mem}{c d:Nat}{j k u v:Int}(g:d≠c \/ j≠k):upd (upd A c k v) c k u d j=A d j:=by have h:¬(d=c/\j=k):=λz=>g.elim (λa=>a z.1) λa=>a z.2;unfold upd;rw[if_neg h,if_neg h]
def zrf{p:Prop}[Decidable p]{s:Int}(h:(if p then(1:Int)else 0)=s):s=0 \/ s=1:=by subst h;split<;>decide
def zr1{p:Prop}[Decidable p]{s:Int}(h:(if p then(0:Int)else 1)=s):s=0 \/ s=1:=by subst h;split<;>decide
theorem if1{p:Prop}[Decidable p]{s:Int}(h:(if p then(1:Int)else 0)=s):s=1 ↔ p:=by
 subst h;by_cases g:p
 .rw[if_pos g];exact#[λ_=>g,λ_=>rfl]
 .rw[if_neg g];exact#[λz=>absurd z ⋯,λz=>absurd z g]
def zqO{sx sy sk X Y:Int}(hx:sx=0 \/ sx=1)(hy:sy=0 \/ sy=1)(h1:sx=1 ↔ X<0)(h2:sy=1 ↔ Y<0)(hsk:(if sx=sy then(0:Int)else 1)=sk):sk=1 ↔ (decide (X<0) != decide (Y<0))=true:=by by_cases a:X<0<;>by_cases b:Y<0<;>rcases hx with rfl|rfl<;>rcases hy with rfl|rfl<;>simp[a,b]at h1 h2 hsk ⊢<;>lia
def zoZ{P D t sk:Int}(hP:0<P)(hD:0<=D)(ht:(if P<=2*D then(1:Int)else 0)=t)(h:sk=0 \/ sk=1):(t=1/\sk=0) ↔ P<=2*(if sk=1 then 0-D else D):=by
 rw[if1 ht];rcases h with rfl|rfl
 .rw[if_neg ⋯];exact#[λz=>z.1,λz=>#[z,rfl]]
 .rw[if_pos rfl];lia
def zhi{w:Nat}(hw:1<w){n:Nat}{x y:Int}(x0:0<=x)(x1:x<(2^w:Int)^(n+1))(y0:0<y)(y1:y<(2^w:Int)^(n+1)){P X Y Q:Int}(hP:P=(2^w:Int)^(n+1))(hX:X=sgd P x)(hY:Y=sgd P y)(hQ:Q=yca X Y):
  yo (2^w) (yt (2^w) (yaw w (n+1)) (yac (2^w) (n+1) x y) 0).1 99 (n+1)=Q%P/\yo (2^w) (yt (2^w) (yaw w (n+1)) (yac (2^w) (n+1) x y) 0).1 100 (n+1)=(X-Y*Q)%P /\
  (yt (2^w) (yaw w (n+1)) (yac (2^w) (n+1) x y) 0).1 109 0=0/\(yt (2^w) (yaw w (n+1)) (yac (2^w) (n+1) x y) 0).1 109 1=bi (decide (P<=2*Q)) /\
  (yt (2^w) (yaw w (n+1)) (yac (2^w) (n+1) x y) 0).1 109 2=bi (Q%P==0)/\(yt (2^w) (yaw w (n+1)) (yac (2^w) (n+1) x y) 0).1 109 3=bi (decide (P<=2*(Q%P))):=by
 have hW:(0:Int)<2^w:=AY ⋯;have hb0:∀d j,d≠97->d≠98->yac (2^w) (n+1) x y d j=0:=λd j h1 h2=>zfh _ _ _ h1 h2 _;have da:=ze5 (n+1) x y hW;have db:=zgy (n+1) x y hW;have va:=zet (n+1) x y hW x0 x1;have vb:=zgF (n+1) x y hW (Bv y0) y1;rw[yaw,sqB];generalize yac (2^w) (n+1) x y=A at hb0 da db va vb ⊢;have e1:=zeB hw (s:=105) (c:=97) (M:=A) (k:=0) ⋯ ⋯ rfl (hb0 122 0 ⋯ ⋯) da 0;rw[va,<-hP]at e1;generalize hsx:(if P<=2*x then(1:Int)else 0)=sx at e1;have o1:∀d j,d≠116->d≠105->upd (upd A 116 0 (2*A 97 n%2^w)) 105 0 sx d j=A d j:=λd j h1 h2=>zre h1 (.inl h2);have f1:upd (upd A 116 0 (2*A 97 n%2^w)) 105 0 sx 105 0=sx:=zqY;generalize upd (upd A 116 0 (2*A 97 n%2^w)) 105 0 sx=M1 at e1 o1 f1;have e2:=zeB hw (s:=106) (c:=98) (M:=M1) (k:=0) ⋯ ⋯ rfl (by rw[o1 122 0 ⋯ ⋯];exact hb0 122 0 ⋯ ⋯) (n:=n) (λi hi=>by rw[o1 98 i ⋯ ⋯];exact db i hi) 0;rw[zc (M:=M1) (M':=A) (c:=98) (c':=98) (n+1) λi _=>o1 98 i ⋯ ⋯,vb,<-hP]at e2;generalize hsy:(if P<=2*y then(1:Int)else 0)=sy at e2;have o2:∀d j,d≠116->d≠106->upd (upd M1 116 0 (2*M1 98 n%2^w)) 106 0 sy d j=M1 d j:=λd j h1 h2=>zre h1 (.inl h2);have f2:upd (upd M1 116 0 (2*M1 98 n%2^w)) 106 0 sy 106 0=sy:=zqY;generalize upd (upd M1 116 0 (2*M1 98 n%2^w)) 106 0 sy=M2 at e2 o2 f2;have hsx01:sx=0 \/ sx=1:=zrf hsx;have hsy01:sy=0 \/ sy=1:=zrf hsy;have f2x:M2 105 0=sx:=by rw[o2 105 0 ⋯ ⋯,f1]
 have e3:stepM (2^w) M2 0 (.odd (107,0) (105,0) (106,0))=(upd M2 107 0 (if sx=sy then 0 else 1),0):=by erw[stepM,rd,wr,f2x,f2,(zrm hsx01 hsy01).1]
 generalize hsk:(if sx=sy then(0:Int)else 1)=sk at e3;have hsk01:sk=0 \/ sk=1:=zr1 hsk;have o3:∀d j,d≠107->upd M2 107 0 sk d j=M2 d j:=λd j h1=>zq0 h1;have f3:upd M2 107 0 sk 107 0=sk:=zqY;generalize upd M2 107 0 sk=M3 at e3 o3 f3;have oA:∀d j,d≠116->d≠105->d≠106->d≠107->M3 d j=A d j:=λd j h1 h2 h3 h4=>by rw[o3 d j h4,o2 d j h1 h3,o1 d j h1 h2]
 let#[M4,k4,e4,o4,g4,v4]:=zeY hw (s:=105) (src:=97) (to:=117) ⋯ ⋯ ⋯ (M:=M3) (k:=0) hsx01 (by rw[o3 105 0 ⋯,f2x]) (by rw[oA 122 0 ⋯ ⋯ ⋯ ⋯];exact hb0 122 0 ⋯ ⋯) (n:=n+1) (λi hi=>by rw[oA 97 i ⋯ ⋯ ⋯ ⋯];exact da i hi);rw[zc (M:=M3) (M':=A) (c:=97) (c':=97) (n+1) λi _=>oA 97 i ⋯ ⋯ ⋯ ⋯,va]at v4;have p4:∀d j,d≠116->d≠103->d≠117->d≠105->d≠106->d≠107->M4 d j=A d j:=λd j h1 h2 h3 h4 h5 h6=>by rw[o4 d j h1 h2 h3,oA d j h1 h4 h5 h6]
 let#[M5,k5,e5,o5,g5,v5]:=zeY hw (s:=106) (src:=98) (to:=118) ⋯ ⋯ ⋯ (M:=M4) (k:=k4) hsy01 (by rw[o4 106 0 ⋯ ⋯ ⋯,o3 106 0 ⋯,f2]) (by rw[p4 122 0 ⋯ ⋯ ⋯ ⋯ ⋯ ⋯];exact hb0 122 0 ⋯ ⋯) (n:=n+1) (λi hi=>by rw[p4 98 i ⋯ ⋯ ⋯ ⋯ ⋯ ⋯];exact db i hi);rw[zc (M:=M4) (M':=A) (c:=98) (c':=98) (n+1) λi _=>p4 98 i ⋯ ⋯ ⋯ ⋯ ⋯ ⋯,vb]at v5;let#[ax,bx,cx,dx,_]:=zjz x0 x1;let#[ay,by',cy,dy,fy]:=zjz (x:=y) (Bv y0) y1;rw[<-hP]at ax bx cx dx ay by' cy dy fy v4 v5
 rw[hsx,<-hX]at ax;rw[hsy,<-hY]at ay;rw[<-hX]at bx cx dx;rw[<-hY]at by' cy dy fy
 rw[ax]at v4;rw[ay]at v5;have fy:=fy y0;let#[M6,e6,o6,v6]:=zgg (W:=2^w) (x:=117) ⋯ M5 k5 (n+1);have z5:∀d j,d≠116->d≠103->d≠117->d≠118->d≠105->d≠106->d≠107->M5 d j=A d j:=λd j h1 h2 h3 h4 h5 h6 h7=>by rw[o5 d j h1 h2 h4,p4 d j h1 h2 h3 h5 h6 h7]
 have z0:∀(d m:Nat),(d=113 \/ d=114)->yo (2^w) M6 d m=0/\Dg (2^w) M6 d m:=λd m h=>by
  have hz:∀i:Nat,M6 d i=0:=λi=>by
   rcases h with rfl|rfl
   .rw[o6 _ i ⋯,z5 _ i ⋯ ⋯ ⋯ ⋯ ⋯ ⋯ ⋯,hb0 _ i ⋯ ⋯]
   .rw[o6 _ i ⋯,z5 _ i ⋯ ⋯ ⋯ ⋯ ⋯ ⋯ ⋯,hb0 _ i ⋯ ⋯]
  have hd:Dg (2^w) M6 d m:=λi _=>by rw[hz];exact#[Eb 0,hW]
  exact#[(zaP hW m hd).2 λi _=>hz i,hd]
 have u5:∀j,M5 117 j=M4 117 j:=λj=>o5 117 j ⋯ ⋯ ⋯;have D0:Dv w (n+1) 118 113 114 M5 M6 (yau X) (yau Y) 0:={
  de:=λi hi=>by rw[v6 i hi,u5];exact g4 i hi
  dr:=(z0 114 _ (.inr rfl)).2
  dq:=(z0 113 _ (.inl rfl)).2
  keep:=λd j h1 _ _ _ _=>o6 d j h1
  rest:=by rw[(z0 114 _ (.inr rfl)).1];exact fy
  sent:=by rw[(z0 114 _ (.inr rfl)).1,(z0 113 _ (.inl rfl)).1,zc (M':=M4) (c':=117) (n+1) λi hi=>by rw[v6 i hi,u5],v4];rw[Av,Av,D3,D3,DA,CT]}
 have z122:M5 122 0=0:=by rw[z5 122 0 ⋯ ⋯ ⋯ ⋯ ⋯ ⋯ ⋯];exact hb0 122 0 ⋯ ⋯
 let#[M7,k7,e7,D7]:=zcK hw zrZ (k:=k5) z122 g5 v5 (by rw[<-hP];exact cx) D0 (w*(n+1)) (AT _);let#[q1,q2,q3]:=zgB hw dx D7 (by rw[<-hP];exact Bv cy);have k7':∀d j,d≠101->d≠114->d≠113->d≠116->d≠102->M7 d j=M5 d j:=D7.keep;have s7:M7 107 0=sk:=by rw[k7' 107 0 ⋯ ⋯ ⋯ ⋯ ⋯,o5 107 0 ⋯ ⋯ ⋯,o4 107 0 ⋯ ⋯ ⋯,f3]
 have x7:M7 105 0=sx:=by rw[k7' 105 0 ⋯ ⋯ ⋯ ⋯ ⋯,o5 105 0 ⋯ ⋯ ⋯,o4 105 0 ⋯ ⋯ ⋯,o3 105 0 ⋯,f2x]
 have z7:M7 122 0=0:=by rw[k7' 122 0 ⋯ ⋯ ⋯ ⋯ ⋯,z122]
 let#[M8,k8,e8,o8,g8,v8]:=zeY hw (s:=107) (src:=113) (to:=99) ⋯ ⋯ ⋯ (M:=M7) (k:=k7) hsk01 s7 z7 D7.dq;let#[M9,k9,e9,o9,g9,v9]:=zeY hw (s:=105) (src:=114) (to:=100) ⋯ ⋯ ⋯ (M:=M8) (k:=k8) hsx01 (by rw[o8 105 0 ⋯ ⋯ ⋯,x7]) (by rw[o8 122 0 ⋯ ⋯ ⋯,z7]) (n:=n+1) (λi hi=>by rw[o8 114 i ⋯ ⋯ ⋯];exact D7.dr.mono i hi);rw[zc (M:=M8) (M':=M7) (c:=114) (c':=114) (n+1) λi _=>o8 114 i ⋯ ⋯ ⋯,q2]at v9;rw[q1]at v8;have p9:∀d j,d≠116->d≠103->d≠99->d≠100->M9 d j=M7 d j:=λd j h1 h2 h3 h4=>by rw[o9 d j h1 h2 h4,o8 d j h1 h2 h3]
 have kb:∀j,M9 98 j=A 98 j:=λj=>by rw[p9 98 j ⋯ ⋯ ⋯ ⋯,k7' 98 j ⋯ ⋯ ⋯ ⋯ ⋯,z5 98 j ⋯ ⋯ ⋯ ⋯ ⋯ ⋯ ⋯]
 have z9:M9 122 0=0:=by rw[p9 122 0 ⋯ ⋯ ⋯ ⋯,z7]
 have n0:=(zlg hw (n+1) M9 k9 z9 (λi hi=>by rw[kb];exact(db i hi).1)).2 (λz=>by
  have:yo (2^w) A 98 (n+1)=0:=(zaP hW (n+1) db).2 λi hi=>by rw[<-kb];exact z i hi
  rw[vb]at this;exact absurd this (Int.ne_of_gt y0))
 have no:∀d j,d≠115->(d≠109 \/ j≠0)->(yt (2^w) (nR (n+1)) M9 k9).1 d j=M9 d j:=λd j h1 h2=>zcE _ _ _ _ (zme h1 h2);have nm:=zm9 (W:=2^w) (n+1) M9 k9 z9;have eA:yt (2^w) (sqA w (n+1)) A 0=(M9,k9):=by rw[sqA,zh,e1,zh];simp only;rw[e2,zl,e3,zh];simp only;rw[e4,zh];simp only;rw[e5,zh];simp only;rw[e6,zh];simp only;rw[ydb,e7,zh];simp only;rw[e8];exact e9
 rw[zh,zh,zh,eA];simp only;generalize yt (2^w) (nR (n+1)) M9 k9=R at n0 no nm ⊢;let#[M10,k10]:=R;simp only at n0 no nm ⊢;have q10:∀j,M10 113 j=M7 113 j:=λj=>by rw[no 113 j ⋯ (.inl ⋯),p9 113 j ⋯ ⋯ ⋯ ⋯]
 have z10:M10 122 0=0:=by rw[no 122 0 ⋯ (.inl ⋯),z9]
 have ea:=zeB hw (s:=109) (c:=113) (M:=M10) (k:=k10) ⋯ ⋯ nm z10 (n:=n) (λi hi=>by rw[q10];exact D7.dq i hi) 1;rw[zc (M:=M10) (M':=M7) (c:=113) (c':=113) (n+1) λi _=>q10 i,q1,<-hP]at ea;rw[ea];generalize ht:(if P<=2*(yau X/yau Y)then(1:Int)else 0)=t at ea ⊢;have ht01:t=0 \/ t=1:=zrf ht;have ob:∀d j,d≠116->(d≠109 \/ j≠1)->upd (upd M10 116 0 (2*M10 113 n%2^w)) 109 1 t d j=M10 d j:=λd j h1 h2=>zre h1 h2;have fb:upd (upd M10 116 0 (2*M10 113 n%2^w)) 109 1 t 109 1=t:=zqY;generalize upd (upd M10 116 0 (2*M10 113 n%2^w)) 109 1 t=Mb at ob fb ⊢;have sb:Mb 107 0=sk:=by rw[ob 107 0 ⋯ (.inl ⋯),no 107 0 ⋯ (.inl ⋯),p9 107 0 ⋯ ⋯ ⋯ ⋯,s7]
 have ec:∀rs:List Rw,yt (2^w) (.any (109,1) (109,1) (107,0) :: .odd (109,1) (109,1) (107,0)::rs) Mb 0=yt (2^w) rs (upd (upd Mb 109 1 (BB t sk)) 109 1 (if t=1/\sk=0 then 1 else 0)) 0:=λrs=>by
  have h1:stepM (2^w) Mb 0 (.any (109,1) (109,1) (107,0))=(upd Mb 109 1 (BB t sk),0):=by erw[stepM,rd,wr,fb,sb]
  have g1:upd Mb 109 1 (BB t sk) 109 1=BB t sk:=zqY;have g2:upd Mb 109 1 (BB t sk) 107 0=sk:=by rw[zq0 ⋯,sb]
  rw[zl,h1,zl];erw[stepM,rd,wr,g1,g2,(zrm ht01 hsk01).2]
 simp only;rw[ec];have od:∀d j,(d≠109 \/ j≠1)->upd (upd Mb 109 1 (BB t sk)) 109 1 (if t=1/\sk=0 then 1 else 0) d j=Mb d j:=λd j h2=>zr0 h2;have fd:upd (upd Mb 109 1 (BB t sk)) 109 1 (if t=1/\sk=0 then 1 else 0) 109 1=(if t=1/\sk=0 then 1 else 0):=zqY;generalize upd (upd Mb 109 1 (BB t sk)) 109 1 (if t=1/\sk=0 then 1 else 0)=Md at od fd ⊢;have cc:∀j,Md 99 j=M8 99 j:=λj=>by rw[od 99 j (.inl ⋯),ob 99 j ⋯ (.inl ⋯),no 99 j ⋯ (.inl ⋯),o9 99 j ⋯ ⋯ ⋯]
 have cd:∀j,Md 100 j=M9 100 j:=λj=>by rw[od 100 j (.inl ⋯),ob 100 j ⋯ (.inl ⋯),no 100 j ⋯ (.inl ⋯)]
 have hqq:(if sk=1 then 0-yau X/yau Y else yau X/yau Y)=Q:=by
  rw[hQ];unfold yca
  congr 1
  rw[eq_iff_iff];exact zqO hsx01 hsy01 ((if1 hsx).trans bx.symm) ((if1 hsy).trans by'.symm) hsk
 have hrr:(if sx=1 then 0-yau X%yau Y else yau X%yau Y)=X-Y*Q:=by
  rw[hQ,zmo]
  congr 1
  rw[eq_iff_iff];exact(if1 hsx).trans bx.symm
 rw[hqq,<-hP]at v8;rw[hrr,<-hP]at v9;have dc:Dg (2^w) Md 99 (n+1):=λi hi=>by rw[cc];exact g8 i hi
 have vc:yo (2^w) Md 99 (n+1)=Q%P:=by rw[<-v8];exact zc _ λi _=>cc i
 let#[f1',f2',f3',f4',f5']:=zcw hw Md 0 dc (by rw[od 122 0 (.inl ⋯),ob 122 0 ⋯ (.inl ⋯),z10]);have f6:∀j,(yt (2^w) (yE (n+1)) Md 0).1 100 j=Md 100 j:=λj=>zcE _ _ _ _ (zlJ ⋯ ⋯ ⋯);rw[vc,<-hP]at f5';rw[vc]at f4';refine#[?_,?_,?_,?_,f4',f5']
 .rw[<-vc];exact zc _ λi _=>f1' i
 .rw[<-v9];exact zc _ λi _=>by rw[f6,cd]
 .rw[f2',od 109 0 (.inr ⋯),ob 109 0 ⋯ (.inr ⋯),n0]
 .rw[f3',fd,zpq]
  congr 1
  rw[decide_eq_decide];rw[<-hqq];exact zoZ (by rw[hP];exact AY hW) (B4 dx (Bv fy)) ht hsk01
def zf0{n:Nat}(hn:1<=n)(hn2:n<=4):∀r∈yaD n,yay r:=by
 intro r hr;let#[I,hI,hr]:=zN hr;erw[yaR,AN,BE,AU,or_false]at hr;rcases hr with rfl|rfl|hr|rfl
 .simp[yay]
 .simp only[yay,yO];lia
 .let#[J,hJ,hr]:=zN hr;erw[inR,AN,AU,or_false]at hr;have hc:yP .ne (yC cL) (yC cHi)=AA (.bl AC):=by ac_rfl
  rcases hr with rfl|rfl|rfl|rfl|rfl<;>erw[yay,yO,hc,and_true]<;>lia
 .simp only[yay,yO];lia
def zgM{n:Nat}(hn2:n<=4){c2:Nat}{sg:Cel}(hc2:c2=97 \/ c2=98)(hs:sg=cI \/ sg=cJ):∀r∈yav c2 sg n,yay r:=by
 intro r hr;let#[I,hI,hr]:=zN hr;erw[yag,AN,AU,or_false]at hr;have hc:yP .ne (yC cL) (yC cHi)=AA (.bl AC):=by ac_rfl
 rcases hs with rfl|rfl<;>rcases hc2 with rfl|rfl<;>rcases hr with rfl|rfl<;>erw[yay,yO,hc,and_true]<;>lia
def zgt{n:Nat}(hn:1<=n)(hn2:n<=4):∀r∈yS n,yay r:=by
 intro r hr;erw[yS,yaf,ybv,if_true,BE,AN,AU,or_false]at hr;rcases hr with (h|h|h|h)|hr|hr|h|hr|(h|h)|hr|h|h|hr
 any_goals (subst h;erw[yay,yO];lia)
 .exact zf0 hn hn2 r hr
 .exact zgM hn2 (.inr rfl) (.inl rfl) r hr
 .exact zgM hn2 (.inl rfl) (.inr rfl) r hr
 .let#[I,hI,hr]:=zN hr;erw[AN,AU,or_false]at hr;rcases hr with rfl|rfl<;>erw[yay,yO]<;>lia
 .exact zfD () () r hr
def zr2{w n:Nat}(hw:w<=16)(hn:1<=n)(hn2:n<=4):ycp (yd T 20 yy [.tp AB [.str "signed product"]] []=.ok (.bl AC) []) AB (.tp AB [.str "signed product"]) w n (2*n) (yS n):=by have hm:n*(1+n)<=4*5:=Ad hn2 ();have hm2:n*n<=4*4:=Ad hn2 hn2;refine zq5 (ps:=ybi) (by decide +kernel) hw hn2 (zj8 w n) (zgt hn hn2) (zfw hn2) (by rw[zif];lia) ?_ (by ac_rfl) (aw (pb:=AC) rfl (λ_=>rfl) (by ac_rfl) (by ac_rfl) (by ac_rfl));simp[ybi,yb3,ybz,ybx,ybg,yaO,ak1,ybk,T1.ak,zaA,ak2,T2.ak,cnt,Ec];lia
def turnT:List T1:=[.row (rS "mark" [.fig 0]),.rounds 0 1 0 [.row (rS "less" [cx 99 0 1 0 0,oZ,cx 97 0 1 0 0])],ybn,.row (rS "odd" [oT,oZ,cx 97 (-1) 0 0 1]),.row (rS "odd" [oS,oZ,cx 99 (-1) 0 0 1]),.row (rS "both" [oT,oT,oS]),.row (rS "twice" [oT,oT]),.row (rS "sum" [oM 1,oZ,oZ])]++ybk 0 1
def zms(w:Int)(n:Nat):yD w n turnT=(yaa n).map yM:=by
 have hl:(-1:Int)+0*0+0*0+1*(n:Int)=(n:Int)-1:=by lia
 have h:=zbB (g:=λI=>yad w n I [.row (rS "less" [cx 99 0 1 0 0,oZ,cx 97 0 1 0 0])]) (f:=λi=>.less (99,i) cZ (97,i)) (λI=>by simp[yad,T2.rows,Rs.pv,rS,Op.pv,oZ,cx,Cx.at,yM,yC]) n;rw[turnT,zG,zg1];erw[yD,Ap,BL,Aj,T1.rows,zaA,h,ziQ,yaa,yQ,Ba,AL,Ah,BJ];erw[Rs.pv,rS,AL,Ah,Op.pv,cx,Cx.at,hl];simp[ybn,rS,Op.pv,oM,oZ,oT,oS,cx,Cx.at,yM,yC]
def zih{n:Nat}(hn:1<=n)(hn2:n<=4):∀r∈yaa n,yay r:=by
 intro r hr;erw[yaa,yQ,BE,AN,AU,or_false]at hr;rcases hr with (((h|h)|h)|(h|h|h|h|h))|h
 any_goals (subst h;erw[yay,yO];lia)
 .let#[i,hi,rfl]:=zar h;erw[yay,yO];lia
 .exact zfD hn () r h
def zgT{n:Nat}(hn2:n<=4):(yaa n).length<=4000:=by simp[yaa,yQ,yE,zaM];lia
def zr3{w n:Nat}(hw:w<=16)(hn:1<=n)(hn2:n<=4):ycp (yd T 20 yy [.tp AB [.str "turned"]] []=.ok (.bl AC) []) AB (.tp AB [.str "turned"]) w n n (yaa n):=by
 refine zq5 (ps:=turnT) (by decide +kernel) hw hn2 (zms w n) (zih hn hn2) (zgT hn2) ?_ ?_ (by ac_rfl) (aw (pb:=AB) rfl (λ_=>rfl) (by ac_rfl) (by ac_rfl) (by ac_rfl))
 .simp[turnT,yaG,ybn,ybk,T1.rnd,zaA,ybr,T2.rnd];lia
 .simp[turnT,ak1,ybn,ybk,T1.ak,zaA,ak2,T2.ak];lia
def ycm(nm:String):T1:=.rounds 0 1 0 [.row (rS nm [cx 99 0 1 0 0,cx 97 0 1 0 0,cx 98 0 1 0 0])]
def lC(c:Nat):Op:=cx c (-1) 0 0 1
def ydM:List T1:=[.row (rS "mark" [.fig 0]),ycm "sum",ybn,.row (rS "odd" [oT,lC 99,lC 97]),.row (rS "odd" [oS,lC 99,lC 98]),.row (rS "both" [oT,oT,oS]),.row (rS "twice" [oT,oT]),.row (rS "sum" [oM 1,oZ,oZ])]++ybk 0 1
def zng(w:Int)(n:Nat){nm:String}{f:Cel->Cel->Cel->Rw}(h:∀a b c,yM (f a b c)=.tp AB [.str (AF nm),yC a,yC b,yC c]):T1.rows w n (ycm nm)=(yR n f).map yM:=by unfold ycm yR;rw[T1.rows,zaA];exact zbB (λI=>by simp[yad,T2.rows,Rs.pv,rS,Op.pv,cx,Cx.at,h,yC]) n
def zp0(w:Int)(n:Nat):yD w n ydM=(yai n).map yM:=by
 have hl:∀c:Nat,(lC c).pv 0 0 n=yC (c,(n:Int)-1):=λc=>by
  have:(-1:Int)+0*0+0*0+1*(n:Int)=(n:Int)-1:=by lia
  erw[lC,Op.pv,cx,Cx.at,this,yC]
 rw[ydM,zG,zg1];erw[yD,Ap,BL,Aj,zng w n (nm:="sum") (f:=.sum) (λ_ _ _=>rfl),ziQ,yai,yQ,Ba,AL,Ah,BJ];erw[T1.rows,Rs.pv,rS,AL,Ah,hl];simp[Op.pv,oM,oZ,oT,oS,cx,Cx.at,yM,yC]
def zmp{n:Nat}(hn:n<=8){f:Cel->Cel->Cel->Rw}(hf:∀a b c,yO a->yO b->yO c->yay (f a b c)):∀r∈yR n f,yay r:=by intro r hr;let#[i,hi,rfl]:=zar hr;refine hf _ _ _ ?_ ?_ ?_<;>erw[yO]<;>lia
def zlv{n:Nat}(hn:1<=n)(hn2:n<=4):∀r∈yai n,yay r:=by
 intro r hr;erw[yai,yQ,BE,AN,AU,or_false]at hr;rcases hr with (((h|h)|h)|(h|h|h|h|h))|h
 any_goals (subst h;erw[yay,yO];lia)
 .exact zmp (f:=.sum) () (λ_ _ _ a b c=>#[a,b,c]) r h
 .exact zfD hn () r h
def zhW{n:Nat}(hn2:n<=4):(yai n).length<=4000:=by simp[yai,yR,yQ,yE,zaM];lia
def zr4{w n:Nat}(hw:w<=16)(hn:1<=n)(hn2:n<=4):ycp (yd T 20 yy [.tp AB [.str "sum"]] []=.ok (.bl AC) []) AB (.tp AB [.str "sum"]) w n n (yai n):=by
 refine zq5 (ps:=ydM) (by decide +kernel) hw hn2 (zp0 w n) (zlv hn hn2) (zhW hn2) ?_ ?_ (by ac_rfl) (aw (pb:=AB) rfl (λ_=>rfl) (by ac_rfl) (by ac_rfl) (by ac_rfl))
 .simp[ydM,yaG,ycm,ybn,ybk,T1.rnd,zaA,ybr,T2.rnd];lia
 .simp[ydM,ak1,ycm,ybn,ybk,T1.ak,zaA,ak2,T2.ak];lia
def zjO(y q r n:Nat):(yaM y q r n).length=6*n+8:=by have t:∀c m,(twR c m).length=m:=λc m=>(zW (f:=λJ=>[Rw.twice (c,(J:Int)) (c,(J:Int))]) (c:=1) (λ_=>rfl) m).trans (Hm m);have l:(lsR r y n).length=n:=(zW (f:=λJ=>[Rw.less (r,(J:Int)) (r,(J:Int)) (y,(J:Int))]) (c:=1) (λ_=>rfl) n).trans (Hm n);have a:(adR r y n).length=n*2:=zW (f:=λJ=>[Rw.both cT (y,(J:Int)) cFd,Rw.sum (r,(J:Int)) (r,(J:Int)) cT]) (c:=2) (λ_=>rfl) n;simp[yaM,t,l,a];lia
def zjy{w n:Nat}(hw:w<=16)(hn2:n<=4):(yah w n).length<=4000:=by have h:w*n*(6*n+8)<=64*32:=Ad (Ad hw hn2) ();simp[yah,mvR,ydb,nR,yE,zaM,zW (λ_=>zjO 98 99 100 n),zW (f:=λi=>[Rw.any cS cS (98,(i:Int))]) (c:=1) (λ_=>rfl)];lia
def zmP{c n:Nat}(hc:97<=c/\c<=122)(hn:n<=8):∀r∈twR c n,yay r:=by intro r hr;let#[i,hi,hr]:=zN hr;erw[AN,AU,or_false]at hr;subst hr;erw[yay,yO];omega
def zld{y q z:Nat}(hy:97<=y/\y<=122)(hq:97<=q/\q<=122)(hz:97<=z/\z<=122){n:Nat}(hn2:n<=4):∀r∈yaM y q z n,yay r:=by
 intro r hr;erw[yaM,BE,AN]at hr;rcases hr with h|hr|hr|hr|h|h|h|hr|h|h|h|hr
 any_goals (subst h;erw[yay,yO];lia)
 .exact zmP () () r hr
 .exact zmP () () r hr
 .let#[i,hi,hr]:=zN hr;erw[AN,AU,or_false]at hr;subst hr;erw[yay,yO];omega
 .let#[i,hi,hr]:=zN hr;erw[AN,AU,or_false]at hr;rcases hr with rfl|rfl<;>erw[yay,yO]<;>lia
 .exact zmP () () r hr
def zlM{w n:Nat}(hn:1<=n)(hn2:n<=4):∀r∈yah w n,yay r:=by
 intro r hr;erw[yah,nR,BE,AN,AU,or_false]at hr;rcases hr with ((hr|hr)|((h|hr)|h|h|h))|hr
 any_goals (subst h;erw[yay,yO];lia)
 .let#[i,hi,rfl]:=zar hr;erw[yay,yO];lia
 .let#[i,hi,hr]:=zN hr;exact zld () () () hn2 r hr
 .let#[i,hi,hr]:=zN hr;erw[AN,AU,or_false]at hr;subst hr;erw[yay,yO];omega
 .exact zfD hn () r hr
def zr5{w n:Nat}(hw:w<=16)(hn:1<=n)(hn2:n<=4):ycp (yd T 20 yy [.tp AB [.str "quotient"]] []=.ok (.bl AC) []) AC (.tp AB [.str "quotient"]) w n n (yah w n):=by
 have h0:w*n<=64:=Ad hw hn2;have h1:w*n*n<=64*4:=Ad h0 hn2;refine zq5 (ps:=ydt) (by decide +kernel) hw hn2 (zpu w n) (zlM hn hn2) (zjy hw hn2) ?_ ?_ (by ac_rfl) (aw (pb:=AB) rfl (λ_=>rfl) (by ac_rfl) (by ac_rfl) (by ac_rfl))
 .simp[ydt,mvT,dvT,nT,yaG,ybk,T1.rnd,zaA,ziE,zfN,ybr,T2.rnd,Ec];lia
 .simp[ydt,mvT,dvT,nT,ak1,ybk,T1.ak,zaA,ziE,zfN,ak2,T2.ak,Ec];lia
def zmT(s a b n:Nat):(trn s a b n).length=n*2+2:=by simp[trn,trL,zW (f:=λi=>[Rw.odd cT (a,(i:Int)) cGd,Rw.sum (b,(i:Int)) cT cZ]) (c:=2) (λ_=>rfl)]
def zlz{w n:Nat}(hw:w<=16)(hn2:n<=4):(yaw w n).length<=4000:=by have h:w*n*(6*n+8)<=64*32:=Ad (Ad hw hn2) ();simp[yaw,sqA,sqB,mvR,ydb,nR,yE,zmT,zaM,zW (λ_=>zjO 118 113 114 n),zW (f:=λi=>[Rw.any cS cS (98,(i:Int))]) (c:=1) (λ_=>rfl)];lia
def zg5{s a b n:Nat}(hs:97<=s/\s<=122)(ha:97<=a/\a<=122)(hb:97<=b/\b<=122)(hn:n<=8):∀r∈trn s a b n,yay r:=by
 intro r hr;erw[trn,AN]at hr;rcases hr with rfl|rfl|hr
 .simp only[yay,yO];lia
 .simp only[yay,yO];lia
 .let#[i,hi,hr]:=zN hr;erw[AN,AU,or_false]at hr;rcases hr with rfl|rfl<;>erw[yay,yO]<;>lia
def znN{w n:Nat}(hn:1<=n)(hn2:n<=4):∀r∈yaw w n,yay r:=by
 intro r hr;erw[yaw,sqA,sqB,nR,BE,AN,AU,or_false]at hr;rcases hr with (((h|h)|(h|h)|h|hr|hr|hr|hr|hr|hr)|((h|hr)|h|h|h))|(h|h)|h|h|hr
 any_goals (subst h;erw[yay,yO];lia)
 .exact zg5 () () () () r hr
 .exact zg5 () () () () r hr
 .let#[i,hi,rfl]:=zar hr;erw[yay,yO];lia
 .let#[i,hi,hr]:=zN hr;exact zld () () () hn2 r hr
 .exact zg5 () () () () r hr
 .exact zg5 () () () () r hr
 .let#[i,hi,hr]:=zN hr;erw[AN,AU,or_false]at hr;subst hr;erw[yay,yO];omega
 .exact zfD hn () r hr
def zr6{w n:Nat}(hw:w<=16)(hn:1<=n)(hn2:n<=4):ycp (yd T 20 yy [.tp AB [.str "signed quotient"]] []=.ok (.bl AC) []) AC (.tp AB [.str "signed quotient"]) w n n (yaw w n):=by
 have h0:w*n<=64:=Ad hw hn2;have h1:w*n*n<=64*4:=Ad h0 hn2;refine zq5 (ps:=sqT) (by decide +kernel) hw hn2 (zqg w n) (znN hn hn2) (zlz hw hn2) ?_ ?_ (by ac_rfl) (aw (pb:=AB) rfl (λ_=>rfl) (by ac_rfl) (by ac_rfl) (by ac_rfl))
 .simp[sqT,sgT,trT,mvT,dvT,nT,yaG,ybk,T1.rnd,zaA,ziE,zfN,ybr,T2.rnd,Ec];lia
 .simp[sqT,sgT,trT,mvT,dvT,nT,ak1,ybk,T1.ak,zaA,ziE,zfN,ak2,T2.ak,Ec];lia
def dv(W:Int):List Int->Int
 |[]=>0
 |d::ds=>d+W*dv W ds
def inW(W:Int)(ds:List Int):Prop:=∀d∈ds,0<=d/\d<W
def zkb{c:Cl}{N acc lo:Int}{st:SO}:exs c [AA (.int N),AA (.int acc),AA (.int lo)] st (.cons (.asg (.n 1) (.bin .mul (.cst (.int 2)) (.var 1))) .nil)=.nx [AA (.int N),AA (.int (2*acc)),AA (.int lo)] st:=by erw[xs_nil,xs_cons,x_asg,yaT,nxO,IC.ve1,IC.ve2,IC.ve3,R.bind,R.fl,yU,yI,binI,yaQ,toR,BS,BU,Ao,Ai];simp
def zdx(k n:Nat)(hn:n<1000)(st:SO):yd T (k+1) yhx [.int n] st=.ok (.int (2^n)) st:=by
 let#[U',st',h,u,e1,e2]:=zeJ (call:=yd T k) (t:=.n 2) (b:=.cons (.asg (.n 1) (.bin .mul (.cst (.int 2)) (.var 1))) .nil) (λi U st=>∃u,U=[AA (.int n),AA (.int (2^i)),u]/\st=[]) (yx n 0 1) 0 [AA (.int n),AA (.int 1),AD] [] #[_,rfl,rfl] (by
  rintro j x U st hx ⟨u,rfl,rfl⟩
  have hx:∃i,x=.int i:=by
   have:∀(n:Nat) (a d:Int) (j:Nat) x,(yx n a d)[j]?=AA x->∃i,x=.int i:=by
    intro n
    induction n with
    |zero=>intro a d j x h;simp[yx]at h
    |succ n ih=>
     intro a d j x h
     cases j with
     |zero=>simp[yx]at h;exact#[a,h.symm]
     |succ j=>simp[yx]at h;exact ih _ _ _ _ h
   exact this _ _ _ _ _ hx
  let#[i,rfl]:=hx;exact#[_,_,_,rfl,zkb,_,by rw[A5,A3],rfl])
 have hl:(yx n 0 1).length=n:=by
  have:∀(n:Nat) (a d:Int),(yx n a d).length=n:=by
   intro n
   induction n with
   |zero=>intro a d;rfl
   |succ n ih=>intro a d;simp[yx,ih]
  exact this _ _ _
 rw[hl,CB]at e1;subst e1 e2;rw[yd,show T yhx=AA yin from rfl];erw[yin,A4,Bw,if_true,nLs,nL,Dl,AL,Ah,Co,BI,Ak,BF,xs_cons,xs_nil,x_asg,x_for,x_ret,yaT,nxO,IC.ve1,IC.ve2,R.fl,yU,BS,BU,IC.vi0,IC.vi1,IC.vi2,IC.vi3,IC.vi4,IC.vi5,IC.vi6,IC.vi7,IC.vi8,R.bind,Ao,yb8,toL];erw[show (n:Int).natAbs<1000000000 by lia,if_true,CL,h];simp[nL]
def yb6(W:Int)(M:Mem)(c:Nat):Nat->Nat->Int
 |_,0=>0
 |a,n+1=>yb6 W M c (a+1) n*W+M c a
def zgo(W:Int)(M:Mem)(c:Nat):∀(n a:Nat),yb6 W M c a (n+1)=yb6 W M c a n+M c ((a+n:Nat):Int)*W^n
 |0,a=>by simp[yb6]
 |n+1,a=>by have h:=zgo W M c n (a+1);rw[yb6,h,yb6,show a+1+n=a+(n+1)by lia,A5,Ay,Ae];lia
def zlI(W:Int)(M:Mem)(c:Nat):∀n,yb6 W M c 0 n=yo W M c n
 |0=>rfl
 |n+1=>by rw[zgo,zlI W M c n,yo,CB]
def zjr{W:Int}(hW:0<W){M:Mem}(h:yeu W M)(c:Nat):∀n a,yg W n (yb6 W M c a n)=getM M c a n
 |0,a=>rfl
 |n+1,a=>by
  let#[h0,h1]:=h c a;have e1:(yb6 W M c (a+1) n*W+M c a)%W=M c a:=by rw[Cz,B3];exact AM h0 h1
  have e2:(yb6 W M c (a+1) n*W+M c a)/W=yb6 W M c (a+1) n:=by rw[Cz,D5 _ _ (),BN h0 h1,D3]
  rw[yb6,yg,e1,e2,zjr hW h c n (a+1),getM]
def zhK{W:Int}(hW:0<W){M:Mem}(h:yeu W M)(c n:Nat){v:Int}(hv:yo W M c n=v):getM M c 0 n=yg W n v:=by rw[<-zjr hW h c n 0,zlI,hv]
def zp8{i:Int}{j:Nat}(h:i.natAbs<18446744073709551616)(hj:j<=1000000):yI .shl (.int i) (.int j)=AA (.int (i*2^j)):=by simp[yI,binI,h];lia
def zqD{w:Nat}(hw:w<=16):(2:Int)^w<=65536:=by
 have h:(2:Nat)^w<=2^16:=AZ () hw;have h2:((2^w:Nat):Int)=2^w:=by simp
 lia
def zft{w:Nat}:∀(ds:List Int) (k:Nat),ycN (((yJ k (ds.map .int))).map λp=>match p with
  |.tp _ [.int i,.int d]=>.int (d*2^(w*i.toNat))
  |_=>.non)=AA ((2^w)^k*dv (2^w) ds)
 |[],k=>by simp[yJ,ycN,dv]
 |d::ds,k=>by
  have ih:=zft (w:=w) ds (k+1);erw[AL,yJ,ycN];erw[CL];rw[ih];erw[dv]
  congr 1
  rw[A5,CU,By,A3 d,Ae]
def zkR(k:Nat)(ds:List Int)(w:Nat)(hw:w<=16)(h:inW (2^w) ds)(hl:ds.length<=8)(st:SO):yd T (k+1) yes [.tup (ds.map .int),.int w] st=.ok (.int (dv (2^w) ds)) st:=by
 have hT:T yes=AA yij:=rfl;have hW:=zqD hw
 have hc:yak (yd T k) [AD,AD,AA (.int w)] (.t [0,1]) (.cst (.bl AC)) (.bin .shl (.var 1) (.bin .mul (.var 2) (.var 0))) (yJ 0 (ds.map .int)) []=.ok (((yJ 0 (ds.map .int))).map λp=>match p with
  |.tp _ [.int i,.int d]=>.int (d*2^(w*i.toNat))
  |_=>.non) []:=by
  refine zaZ _ λp hp=>?_;have hx:∀(ds:List Int) (j:Nat),inW (2^w) ds->j+ds.length<=8->∀p∈yJ j (ds.map .int),∃(i:Nat) (d:Int),p=.tup [.int i,.int d]/\0<=d/\d<2^w/\i<=8:=by
   intro ds
   induction ds with
   |nil=>intro j _ _ p hp;simp[yJ]at hp
   |cons d ds ih=>
    intro j hd hj p hp;erw[AL,yJ,AN]at hp;rcases hp with rfl|hp
    .have:=hd d Aw;erw[A4]at hj;exact#[j,d,rfl,this.1,this.2,by lia]
    .exact ih (j+1) (λx hx=>hd x (AS _ hx)) (by erw[A4]at hj;lia) p hp
  let#[i,d,rfl,d0,d1,hi]:=hx ds 0 h () p hp;have hwa:(w:Int).natAbs<18446744073709551616:=by lia
  have hm:(w:Int)*(i:Int)=((w*i:Nat):Int):=by simp
  have hwi:w*i<=16*8:=Ad hw hi;have hbt:yU (.t [0,1]) (.tup [.int i,.int d]) [AD,AD,AA (.int w)]=AA [AA (.int i),AA (.int d),AA (.int w)]:=rfl;simp only[ybp,hbt,IC.ve1,IC.ve2,IC.ve3,Ao,Ai,bd_ok,t_bl,ono,cond_true,zaD hwa,hm,toR_some,zp8 (show d.natAbs<18446744073709551616 by lia) (show w*i<=1000000 by lia)];rfl
 have hs:=zft (w:=w) ds 0;have hlr:∀ys:List PV,ys.length<=1000000->∀st,yb5 (.ok ys st)=.ok (.lst ys) st:=λys h st=>by simp[yb5,h]
 have hpl:(yJ 0 (ds.map .int)).length=ds.length:=by
  have:∀(xs:List PV) (j:Nat),(yJ j xs).length=xs.length:=by
   intro xs
   induction xs with
   |nil=>intro j;rfl
   |cons x xs ih=>intro j;simp[yJ,ih]
  rw[this,Ax]
 rw[yd,hT];erw[yij,A4,Bw,CB,Dn,if_true,nLs,nL,noLocs_ints,Dl,AL,Ah,Co,BI,Aj,xs_cons,xs_nil,x_ret,IC.ve19,IC.vs0,IC.vs1,v_comp,IC.vi0,IC.vi1,IC.vi2,IC.vi3,IC.vi4,IC.vi5,IC.vi6,IC.vi7,IC.vi8,IC.ve2,Ao,Ai,bd_ok,fl_ok,PV.tup,Option.bind_none,Bb,G5,hc];rw[hlr _ (by rw[Ax,hpl];lia)];erw[bd_ok,yaE,yan,Bb,hs,DI,toR_some,fl_ok,th_rt,nL,if_true,DA,Az]
def zgR{W:Int}(hW:0<W):∀(n:Nat) (x:Int),0<=x->x<W^n->dv W (yg W n x)=x
 |0,x,h0,h1=>by rw[DA]at h1;erw[yg,dv];lia
 |n+1,x,h0,h1=>by have q0:0<=x/W:=B4 h0 ();have q1:x/W<W^n:=BX hW (by rw[A5]at h1;exact h1);rw[yg,dv,zgR hW n _ q0 q1];have:=As x W;lia
def zbj:∀ds:List Int,ybX (ds.map .int) (ds.map .int)=AC
 |[]=>rfl
 |d::ds=>by show ((d==d)&&ybX (ds.map .int) (ds.map .int))=AC;rw[zbj ds,beq_self_eq_true];rfl
def zbt(n:Nat):∀ds:List Int,ybt n (ds.map .int)=AC
 |[]=>rfl
 |d::ds=>zbt n ds
def zlW(ds:List Int):yP .ne (.tp AB (ds.map .int)) (.tp AB (ds.map .int))=AA (.bl AB):=by show (if (ybt 59 (ds.map .int)&&ybt 59 (ds.map .int))=AC then AA (PV.bl (!ybX (ds.map .int) (ds.map .int)))else AD)=_;rw[zbt,zbj];rfl
def zjJ(ds:List Int):yP .eq (.tp AB (ds.map .int)) (.tp AB (ds.map .int))=AA (.bl AC):=by show (if (ybt 59 (ds.map .int)&&ybt 59 (ds.map .int))=AC then AA (PV.bl (ybX (ds.map .int) (ds.map .int)))else AD)=_;rw[zbt,zbj];rfl
def zn4(st:SO)(xs:List PV):yaE .all st [.lst (xs.map λ_=>.bl AC)]=AA (.bl AC):=by
 have h:∀xs:List PV,allB (xs.map λ_=>PV.bl AC)=AA true:=λxs=>by
  induction xs with
  |nil=>rfl
  |cons x xs ih=>simp[allB,ih]
 simp[yaE,yan,h]
theorem number(k:Nat)(ws:List Int){w N:Nat}(hw:w<=16)(h:inW (2^w) ws)(hN:ws.length=N)(hN2:N<=8)(st:SO):yd T (k+3) yjb [.tp AB (ws.map .int),.int w,.int N] st=.ok (.bl AC) st:=by
 have hT:T yjb=AA yir:=rfl;have hnl:nLs [.tp AB (ws.map .int),.int w,.int N]=true:=by simp[nLs,nL,noLocs_ints]
 have ln:∀st,yaE .len st [.tp AB (ws.map .int)]=AA (.int N):=λst=>by show AA (PV.int (((ws.map PV.int).length:Nat):Int))=_;rw[Ax,hN]
 have hi:ya6 (.tp AB (ws.map .int)) [.tuple]=AA (.bl AC):=rfl;have wh:∀(v:Int) st,yd T (k+2) yhA [.int v] st=.ok (.bl AC) st:=λv st=>by have hT:T yhA=AA yip:=rfl;rw[zd hT rfl rfl rfl];ac_rfl
 have c1:yak (yd T (k+2)) [AD] (.n 0) (.cst (.bl AC)) (.call yhA (.cons (.var 0) .nil)) (ws.map .int) []=.ok ((ws.map PV.int).map λ_=>.bl AC) []:=by refine zaZ _ λp hp=>?_;let#[v,_,rfl]:=DY.1 hp;simp! [ybp,wh]
 have ht:=zdx (k+1) w () [];have c2:yak (yd T (k+2)) [AD,AA (.int w)] (.n 0) (.cst (.bl AC)) (.chain .le .lt (.cst (.int 0)) (.var 0) (.call yhx (.cons (.var 1) .nil))) (ws.map .int) []=.ok ((ws.map PV.int).map λ_=>.bl AC) []:=by refine zaZ _ λp hp=>?_;let#[v,hv,rfl]:=DY.1 hp;have d1:decide (0<=v)=true:=decide_eq_true (h v hv).1;have d2:decide (v<2^w)=true:=decide_eq_true (h v hv).2;simp! [ybp,ht,d1,d2,blO]
 have lr:=λst=>zcA ((ws.map PV.int).map λ_=>PV.bl AC) (by simp[hN];lia) st;have al:=λst=>zn4 st (ws.map .int);rw[show k+3=k+2+1 by lia,zd hT rfl rfl hnl];generalize (ws.map PV.int).map (λ_=>PV.bl AC)=L at *;generalize ws.map PV.int=W at *;simp! [yir,hi,ln,c1,c2,lr,al,beq_self_eq_true];rfl
def zff{W:Int}(hW:0<W)(n:Nat)(x:Int):inW W (yg W n x):=λv hv=>zbK hW n x v hv
theorem wholes(k:Nat)(ms:List Int)(hN:ms.length=4)(h:∀v∈ms,-1<=v/\v<=1)(st:SO):yd T (k+3) yja [.tp AB (ms.map .int),.int 4,.int 1] st=.ok (.bl AC) st:=by
 have hT:T yja=AA yiq:=rfl;have hnl:nLs [.tp AB (ms.map .int),.int 4,.int 1]=true:=by simp[nLs,nL,noLocs_ints]
 have ln:∀st,yaE .len st [.tp AB (ms.map .int)]=AA (.int 4):=λst=>by show AA (PV.int (((ms.map PV.int).length:Nat):Int))=_;rw[Ax,hN];rfl
 have hi:ya6 (.tp AB (ms.map .int)) [.tuple]=AA (.bl AC):=rfl;have wh:∀(v:Int) st,yd T (k+2) yhA [.int v] st=.ok (.bl AC) st:=λv st=>by have hT:T yhA=AA yip:=rfl;rw[zd hT rfl rfl rfl];ac_rfl
 have c2:yak (yd T (k+2)) [AD,AA (.int 1)] (.n 0) (.cst (.bl AC)) (.and (.call yhA (.cons (.var 0) .nil)) (.chain .le .le (.bin .sub (.cst (.int 0)) (.var 1)) (.var 0) (.var 1))) (ms.map .int) []=.ok ((ms.map PV.int).map λ_=>.bl AC) []:=by refine zaZ _ λp hp=>?_;let#[v,hv,rfl]:=DY.1 hp;have d1:decide (0-1<=v)=true:=decide_eq_true (by have:=(h v hv).1;lia);have d2:decide (v<=1)=true:=decide_eq_true (h v hv).2;simp! [ybp,wh,d1,d2,blO]
 have lr:=λst=>zcA ((ms.map PV.int).map λ_=>PV.bl AC) (by simp[hN]) st;have al:=λst=>zn4 st (ms.map .int);rw[show k+3=k+2+1 by lia,zd hT rfl rfl hnl];generalize (ms.map PV.int).map (λ_=>PV.bl AC)=L at *;generalize ms.map PV.int=W at *;simp! [yiq,hi,ln,c2,lr,al,beq_self_eq_true];rfl
theorem parts(k:Nat){pr:Prop}{qb:Bool}{deed:PV}{w n na:Nat}{rs:List Rw}(D:ycp pr qb deed w n na rs)(ok:∀r∈rs,yay r)(hw:w<=16)(hw1:1<=w)(hn:n<=4)(hna:na<=8)(hrs:rs.length<=4000){x y V R:Int}{ms:List Int}(x0:0<=x)(x1:x<2^(w*n))(y0:0<=y)(y1:y<2^(w*n))(hp:y≠0->pr)(hq:y=0->qb=AB)
  (hv:yo (2^w) (yt (2^w) rs (yac (2^w) n x y) 0).1 99 na=V) (hr:yo (2^w) (yt (2^w) rs (yac (2^w) n x y) 0).1 100 (if qb=AC then n else 0)=R) (hm:getM (yt (2^w) rs (yac (2^w) n x y) 0).1 109 0 4=ms) (hms:∀v∈ms,-1<=v/\v<=1) (st:SO):
  yd T (23+k) yl [deed,.int w,.int n,.int x,.int y] st=.ok (.tp AB [.tp AB ((yg (2^w) na V).map .int),.tp AB ((yg (2^w) (if qb=AC then n else 0) R).map .int),.tp AB (ms.map .int)]) st:=by
 have hW:(0:Int)<2^w:=AY ();have rd:=λr hr=>zn3 r (ok r hr);have e:=ran k D hw hw1 hn hna () x0 x1 y0 y1 hp hq (zg2 hw1 hw _ _ _ rd (zeP hw1 n x y)) [];have al:yeu (2^w) _:=(zcl hw1 rs (zeP hw1 n x y) rd).1;have hl:ms.length=4:=by rw[<-hm];rfl
 rw[zhK hW al 99 na hv,zhK hW al 100 _ hr,hm]at e;have wh:∀s,yd T (22+k) yja [.tp AB (ms.map .int),.int 4,.int 1] s=.ok (.bl AC) s:=λs=>by rw[show 22+k=19+k+3 by lia];exact wholes (19+k) ms hl hms s
 have hT:T yl=AA yis:=rfl;have hnl:nLs [deed,.int w,.int n,.int x,.int y]=true:=by simp[nLs,D.nl,nL]
 have ln:∀(st:SO) (a b c:PV),yaE .len st [.tp AB [a,b,c]]=AA (.int 3):=λ_ _ _ _=>rfl;have hi:∀(a:List PV),ya6 (.tp AB a) [.tuple]=AA (.bl AC):=λ_=>rfl;have i2:∀(st:SO) (a b c:PV),idxV st (.tp AB [a,b,c]) (.int 2)=AA c:=λ_ _ _ _=>rfl;rw[show 23+k=22+k+1 by lia,zd hT rfl rfl hnl];generalize yg (2^w) na V=ws,yg (2^w) (if qb=AC then n else 0) R=us at *;simp! [yis,e,ln,hi,i2,wh,beq_self_eq_true];simp[ybK,nL,nLs,noLocs_ints]
def zew{call:Cl}{W:Int}(hW:0<W)(hW2:W<18446744073709551616){p1 p2:Option PV}:∀(n:Nat) (a x:Int) (acc:List PV) (u:Option PV),acc.length+n<1000000 ->
  ∃x' u',ybj call (.n 5) (.cons (.expr (.mth .append (.var 4) (.cons (.bin .mod (.var 0) (.var 3)) .nil))) (.cons (.asg (.n 0) (.bin .fdiv (.var 0) (.var 3))) .nil)) (yx n a 1) [AA (.int x),p1,p2,AA (.int W),AA (.loc 0),u] [.lst acc]=.nx [AA (.int x'),p1,p2,AA (.int W),AA (.loc 0),u'] [.lst (acc++(yg W n x).map .int)]
 |0,a,x,acc,u,_=>#[x,u,by rw[yx,zL];simp[yg]]
 |n+1,a,x,acc,u,h=>by
  let#[x',u',e]:=zew (call:=call) hW hW2 (p1:=p1) (p2:=p2) n (a+1) (x/W) (acc++[.int (x%W)]) (AA (.int a)) (by simp;lia);refine#[x',u',?_];have hW3:W<18446744073709551616*18446744073709551616:=by lia
  have hl:acc.length<1000000:=by lia
  rw[yx,zF (U1:=[AA (.int x),p1,p2,AA (.int W),AA (.loc 0),AA (.int a)]) rfl];have hm:yaX .append [Ob.lst acc] (.loc 0)=AA true:=rfl;have hap:ycy .append [Ob.lst acc] (.loc 0) [.int (x%W)]=.ok .non [.lst (acc++[.int (x%W)])]:=by unfold ycy;simp[yec,hl]
  erw[xs_cons,xs_nil,x_asg,x_expr,IC.ve20,IC.ve2,IC.ve3,IC.vs0,IC.vs1,Ao,Ai,bd_ok,fl_ok,hm,ono,zhD hW,zgh hW hW3,toR_some,hap,bT_n,nxO_some,th_nx,BS,BU,yaN];rw[e];simp[yg]
theorem words(k:Nat)(x:Int)(w n:Nat)(hw:w<=16)(hn:n<1000)(st:SO):yd T (k+2) yix [.int x,.int w,.int n] st=.ok (.tup ((yg (2^w) n x).map .int)) st:=by
 have hW:(0:Int)<2^w:=AY ();have hW2:(2:Int)^w<18446744073709551616:=by
  have h:(2:Nat)^w<=2^16:=AZ () hw;have h2:((2^w:Nat):Int)=2^w:=by simp
  lia
 let#[x',u',e]:=zew (call:=yd T (k+1)) hW hW2 (p1:=AA (.int w)) (p2:=AA (.int n)) n 0 x [] AD (by simp;lia);have ht:=zdx k w () [];have hT:T yix=AA yio:=rfl;rw[yd,hT];erw[yio,A4,Bw,CB,Dn,if_true,nLs,nL,Dl,AL,Ah,Co,BI,Ak,BF,xs_cons,xs_nil,x_asg,x_for,x_ret,IC.ve18,IC.ve2,IC.ve13,IC.ve19,IC.vs0,IC.vs1,IC.vi0,IC.vi1,IC.vi2,IC.vi3,IC.vi4,IC.vi5,IC.vi6,IC.vi7,IC.vi8,Ao,Ai,bd_ok,fl_ok,ht,bT_n,nxO_some,th_nx,BS,BU,zbJ n hn,toL,DN,sizeMax,e];simp[yaE,yeP,yan,toR,fl_ok,nL,noLocs_ints,R.fl,yaT]
def zco{M:Mem}{a b c d:Int}(h0:M 109 0=a)(h1:M 109 1=b)(h2:M 109 2=c)(h3:M 109 3=d):getM M 109 0 4=[a,b,c,d]:=by show [M 109 0,M 109 1,M 109 2,M 109 3]=_;rw[h0,h1,h2,h3]
theorem bi4{p q r s:Int}(hp:0<=p/\p<=1)(hq:0<=q/\q<=1)(hr:0<=r/\r<=1)(hs:0<=s/\s<=1):∀v∈[p,q,r,s],-1<=v/\v<=1:=λv hv=>by erw[AN,AU,or_false]at hv;lia
def zqe{i:Int}{j:Nat}:yI .shr (.int i) (.int (j:Int))=AA (.int (i/2^j)):=by erw[yI,binI];rw[if_pos ()];simp
def zex{W:Int}(hW:0<W):∀(n:Nat) (v:Int),(yg W (n+1) v)[n]?=AA (v/W^n%W)
 |0,v=>by simp[yg]
 |n+1,v=>by rw[yg,Ai,zex hW n,B6 (),A5,A3 W]
def zmn(k:Nat){ws:List Int}{w b l r:Int}(hs:w-1=b)(hi:∀st,idxV st (.tp AB (ws.map .int)) (.int (-1))=AA (.int l))(q:yI .shr (.int l) (.int b)=AA (.int r))(st:SO):yd T (k+1) yiw [.tp AB (ws.map .int),.int w] st=.ok (.int r) st:=by have hT:T yiw=AA yik:=rfl;rw[zd hT rfl rfl (by simp[nLs,nL,noLocs_ints])];generalize PV.tp AB (ws.map .int)=v at *;simp! [yik,hi,hs,q];rfl
def zhx(k:Nat){w n:Nat}(hw:1<=w){v:Int}(v0:0<=v)(v1:v<(2^w:Int)^(n+1))(st:SO):yd T (k+1) yiw [.tp AB ((yg (2^w) (n+1) v).map .int),.int w] st=.ok (.int (bi (decide ((2^w:Int)^(n+1)<=2*v)))) st:=by
 obtain⟨j,rfl⟩:∃j,w=j+1:=#[w-1,by lia];have hW:(0:Int)<2^(j+1):=AY ();have hp:(0:Int)<(2^(j+1):Int)^n:=AY hW;have hj:(0:Int)<2^j:=AY ();have e:(2:Int)^(j+1)=2^j*2:=A5 2 j;have hl:=zex hW n v;have hd1:v/(2^(j+1):Int)^n<2^(j+1):=BX hp (by rw[A5,A3]at v1;exact v1);have hdA:=B4 v0 (Bv hp);rw[AM hdA hd1]at hl;have hi:∀st,idxV st (.tp AB ((yg (2^(j+1)) (n+1) v).map .int)) (.int (-1))=AA (.int (v/(2^(j+1):Int)^n)):=λst=>by have hlen:=zE (2^(j+1)) (n+1) v;erw[idxV,yba,at?,ixI,Ax,hlen];rw[if_neg (),if_pos ()];rw[show ((-1:Int)+((n+1:Nat):Int)).toNat=n by lia];simp[hl]
 refine zmn k (b:=(j:Int)) () hi ?_ st;rw[zqe]
 congr 2
 have P:(2^(j+1):Int)^(n+1)=(2^(j+1):Int)^n*2^j*2:=by rw[A5,Ae,<-e]
 rw[B6 (Bv hp)];have hq:0<(2^(j+1):Int)^n*2^j:=Gi hp hj;rw[P]at v1 ⊢;generalize (2^(j+1):Int)^n*2^j=H at *
 by_cases h:H*2<=2*v
 .have h1:1<=v/H:=FM hq ();have h2:v/H<2:=BX hq ();rw[decide_eq_true h];show _=(1:Int);lia
 .rw[decide_eq_false h];exact BN v0 ()
theorem isP(nm:String)(h:isOk (yd T 20 yy [.tp AB [.str (AF nm)]] []) (.bl AC)=AC):yd T 20 yy [.tp AB [.str (AF nm)]] []=.ok (.bl AC) []:=zdr h
section
variable (k:Nat){w n:Nat}(hw:4<=w)(hw2:w<=16)(hn:1<=n)(hn2:n<=4){x y:Int}(x0:0<=x)(x1:x<2^(w*n))(st:SO)
include hw hw2 hn hn2 x0 x1
def zqP(y0:0<=y)(y1:y<2^(w*n)):∃ms,yd T (23+k) yl [.tp AB [.str "sum"],.int w,.int n,.int x,.int y] st=.ok (.tp AB [.tp AB ((yg (2^w) n ((x+y)%2^(w*n))).map .int),.tp AB [],ms]) st:=by have hp:(2:Int)^(w*n)=(2^w:Int)^n:=CU;obtain⟨m,rfl⟩:∃m,n=m+1:=#[n-1,by lia];let#[q1,q2,q3,q4,q5]:=zkC (w:=w) () x0 (by rw[<-hp];exact x1) y0 (by rw[<-hp];exact y1);rw[<-hp]at q1;exact#[_,parts k (zr4 hw2 hn hn2) (zlv hn hn2) hw2 () hn2 () (zhW hn2) x0 x1 y0 y1 (λ_=>isP _ (by decide +kernel)) (λ_=>rfl) q1 rfl (zco q2 q3 q4 q5) (bi4 (zQ _) (zQ _) (zQ _) (zQ _)) st]
def zqb(y0:0<y)(y1:y<2^(w*n)):∃ms,yd T (23+k) yl [.tp AB [.str "quotient"],.int w,.int n,.int x,.int y] st=.ok (.tp AB [.tp AB ((yg (2^w) n (x/y)).map .int),.tp AB ((yg (2^w) n (x%y)).map .int),ms]) st:=by have hp:(2:Int)^(w*n)=(2^w:Int)^n:=CU;obtain⟨m,rfl⟩:∃m,n=m+1:=#[n-1,by lia];let#[q0,q1,q2,q3,q4,q5]:=ziS (w:=w) () x0 (by rw[<-hp];exact x1) y0 (by rw[<-hp];exact y1);exact#[_,parts k (zr5 hw2 hn hn2) (zlM hn hn2) hw2 () hn2 () (zjy hw2 hn2) x0 x1 () y1 (λ_=>isP _ (by decide +kernel)) (λh=>by lia) q0 q1 (zco q2 q3 q4 q5) (bi4 () () (zQ _) (zQ _)) st]
def zrn(y0:0<y)(y1:y<2^(w*n)){X Y Q:Int}(hX:X=sgd (2^(w*n)) x)(hY:Y=sgd (2^(w*n)) y)(hQ:Q=yca X Y):∃a b:Int,yd T (23+k) yl [.tp AB [.str "signed quotient"],.int w,.int n,.int x,.int y] st=.ok (.tp AB [.tp AB ((yg (2^w) n (Q%2^(w*n))).map .int),.tp AB ((yg (2^w) n ((X-Y*Q)%2^(w*n))).map .int),.tp AB (([0,bi (decide (2^(w*n)<=2*Q)),a,b]:List Int).map .int)]) st:=by have hp:(2:Int)^(w*n)=(2^w:Int)^n:=CU;obtain⟨m,rfl⟩:∃m,n=m+1:=#[n-1,by lia];let#[q0,q1,q2,q3,q4,q5]:=zhi (w:=w) () x0 (by rw[<-hp];exact x1) y0 (by rw[<-hp];exact y1) hp hX hY hQ;exact#[_,_,parts k (zr6 hw2 hn hn2) (znN hn hn2) hw2 () hn2 () (zlz hw2 hn2) x0 x1 () y1 (λ_=>isP _ (by decide +kernel)) (λh=>by lia) q0 q1 (zco q2 q3 q4 q5) (bi4 () (zQ _) (zQ _) (zQ _)) st]
def zr7(y0:0<=y)(y1:y<2^(w*n)){V:Int}(hV:V=sgd (2^(w*n)) x*sgd (2^(w*n)) y):∃ms,yd T (23+k) yl [.tp AB [.str "signed product"],.int w,.int n,.int x,.int y] st=.ok (.tp AB [.tp AB ((yg (2^w) (2*n) (V%(2^w:Int)^(2*n))).map .int),.tp AB [],ms]) st:=by have hp:(2:Int)^(w*n)=(2^w:Int)^n:=CU;rw[hp]at hV;obtain⟨m,rfl⟩:∃m,n=m+1:=#[n-1,by lia];let#[q1,q2,q3,q4,q5]:=zg9 (w:=w) () x0 (by rw[<-hp];exact x1) y0 (by rw[<-hp];exact y1) hV;exact#[_,parts k (zr2 hw2 hn hn2) (zgt hn hn2) hw2 () hn2 () (zfw hn2) x0 x1 y0 y1 (λ_=>isP _ (by decide +kernel)) (λ_=>rfl) q1 rfl (zco q2 q3 q4 q5) (bi4 () (zQ _) (zQ _) (zQ _)) st]
def zoM:∃ms,yd T (23+k) yl [.tp AB [.str "turned"],.int w,.int n,.int x,.int 0] st=.ok (.tp AB [.tp AB ((yg (2^w) n ((0-x)%2^(w*n))).map .int),.tp AB [],ms]) st:=by have hp:(2:Int)^(w*n)=(2^w:Int)^n:=CU;have hP0:(0:Int)<2^(w*n):=AY ();obtain⟨m,rfl⟩:∃m,n=m+1:=#[n-1,by lia];let#[q1,q2,q3,q4,q5]:=zhU (w:=w) () (y:=0) x0 (by rw[<-hp];exact x1);rw[<-hp]at q1;exact#[_,parts k (zr3 hw2 hn hn2) (zih hn hn2) hw2 () hn2 () (zgT hn2) x0 x1 (Eb 0) hP0 (λh=>absurd rfl h) (λ_=>rfl) q1 rfl (zco q2 q3 q4 q5) (bi4 (zQ _) (zQ _) (zQ _) (zQ _)) st]
end
def ze9{W:Int}(hW:0<W)(m:Nat):∀(n:Nat) (V:Int),yg W (n+m) V=yg W n V++yg W m (V/W^n)
 |0,V=>by rw[CB,DA,GE];rfl
 |n+1,V=>by rw[show n+1+m=(n+m)+1 by lia,yg,ze9 hW m n,yg,Ak,A5,A3,B6 ()]
def zfO{W:Int}(hW:0<W):∀(n:Nat) (V:Int),yg W n (V%W^n)=yg W n V
 |0,V=>rfl
 |n+1,V=>by
  have h1:V%W^(n+1)%W=V%W:=by rw[A5];exact FX V #[W^n,A3 _ _]
  have h2:V%W^(n+1)/W=V/W%W^n:=by
   have e:=As V (W^(n+1));have e1:=As (V/W) (W^n);have e2:V/W/W^n=V/W^(n+1):=by rw[B6 (),A5,A3]
   rw[e2]at e1;have e3:V=V%W^(n+1)+W^n*(V/W^(n+1))*W:=by rw[A5]at e ⊢;rw[Fv];lia
   have e4:V/W=V%W^(n+1)/W+W^n*(V/W^(n+1)):=by
    conv=>lhs;rw[e3]
    rw[D5 _ _ ()]
   lia
  rw[yg,yg,h1,h2,zfO hW n]
def zjf{T x:Int}(x0:0<=x)(x1:x<T):-T<=2*sgd T x/\2*sgd T x<T/\∃q,sgd T x=x+T*q:=by
 unfold sgd;split
 .exact#[by lia,by lia,-1,by lia]
 .exact#[by lia,by lia,0,by lia]
def znw{T y:Int}(y0:0<=y)(y1:y<T)(h:2*y≠T):sgd T ((0-y)%T)=- sgd T y:=by
 by_cases z:y=0
 .subst z;unfold sgd;simp;lia
 .have e:(0-y)%T=T-y:=by rw[<-B9];exact(AM () ()).trans ()
  rw[e];unfold sgd;split<;>split<;>lia
def ybH:Ce:=match yao.body with
 |.cons _ (.cons (.while c _) _)=>c
 |_=>.nope
def ybY:Css:=match yao.body with
 |.cons _ (.cons (.while _ b) _)=>b
 |_=>.nil
def zjo{c:Cl}{n:Nat}{ns:List Int}{a p m t:Int}{f:Bool}{u:Option PV}{st:SO}(h:st[n]?=AA (.lst [.lst (ns.map .int),.int a,.int p,.bl f])):
  ∃B,ev c [AA (.loc n),AA (.int m),AA (.int t),u] st ybH=.ok (.bl B) st/\(B=AC->t<64):=by
 by_cases h1:t<64
 .by_cases h2:p=0
  .refine#[AC,?_,λ_=>h1];simp! [ybH,yao,R.bind,h,idxV,yba,at?,ixI,yI,binI,yaQ,toR,yP,yb9];simp[h1,h2,zgc,znd]
  .have h2:(p==0)=false:=by simp[h2]
   cases f
   .refine#[AB,?_,λ_=>h1];simp! [ybH,yao,R.bind,h,idxV,yba,at?,ixI,yI,binI,yaQ,toR,yP,yb9];simp[h,h1,h2,zgc,znd]
   .refine#[decide (p<m*4096),?_,λ_=>h1];simp! [ybH,yao,R.bind,h,idxV,yba,at?,ixI,yI,binI,yaQ,toR,yP,yb9];simp[h,h1,h2,zgc,znd]
 .refine#[AB,?_,λz=>by cases z];simp! [ybH,yao,R.bind,h,idxV,yba,at?,ixI,yI,binI,yaQ,toR,yP,yb9];simp[h1]
def ziA(k:Nat){n:Nat}{ns:List Int}(hns:ns.length<=1000){a p m t:Int}(ha:0<=a){f:Bool}{u:Option PV}{st:SO}(h:st[n]?=AA (.lst [.lst (ns.map .int),.int a,.int p,.bl f])):
  ∃p' f',exs (yd T (k+2)) [AA (.loc n),AA (.int m),AA (.int t),u] st ybY=.nx [AA (.loc n),AA (.int m),AA (.int (t+1)),u] (st.set n (.lst [.lst (ns.map .int),.int (a+1),.int p',.bl f'])):=by
 let#[q,g,hq]:=fill k n ns hns a p ha f st h;have hm:(1+q%4093).natAbs<18446744073709551616:=by lia
 have hau:∀st,ex (yd T (k+2)) [AA (.loc n),AA (.int m),AA (.int t),u] st (.aug 2 .add (.cst (.int 1)))=.nx [AA (.loc n),AA (.int m),AA (.int (t+1)),u] st:=λst=>by rw[zqM (x:=.int t) rfl];simp[IC.ve1,R.fl,ybZ,yI,binI,nxO]
 cases g
 .refine#[q,AB,?_];simp! [ybY,yao,hau,yaT,nxO,R.fl,R.bind,hq,ybZ,yI,binI,DI,rdS h,idxV,yba,at?,ixI,yaQ,toR,yP,yb9,onF,yaY];simp[rdS h]
 .by_cases hl:q<m*4096
  .refine#[q+m*4096*(1+q%4093),AC,?_];simp! [ybY,yao,hau,yaT,nxO,R.fl,R.bind,hq,ybZ,yI,binI,DI,rdS h,idxV,yba,at?,ixI,yaQ,toR,yP,yb9,onF,yaY,stO,ybG];simp[rdS h,hl,hm]
  .refine#[q,AC,?_];simp! [ybY,yao,hau,yaT,nxO,R.fl,R.bind,hq,ybZ,yI,binI,DI,rdS h,idxV,yba,at?,ixI,yaQ,toR,yP,yb9,onF,yaY];simp[rdS h,hl]
def zfE(k:Nat){n:Nat}{ns:List Int}(hns:ns.length<=1000){m:Int}{u:Option PV}:∀(r N:Nat) (t a p:Int) (f:Bool) (st:SO),r<=N->64-t<=r->0<=a->st[n]?=AA (.lst [.lst (ns.map .int),.int a,.int p,.bl f]) ->
  ∃t' a' p' f',0<=a'/\ya2 (yd T (k+2)) ybH ybY (N+1) [AA (.loc n),AA (.int m),AA (.int t),u] st=.nx [AA (.loc n),AA (.int m),AA (.int t'),u] (st.set n (.lst [.lst (ns.map .int),.int a',.int p',.bl f']))
 |r,N,t,a,p,f,st,hN,ht,ha,h=>by
  let#[B,hB,hb]:=zjo (c:=yd T (k+2)) (m:=m) (t:=t) (u:=u) h;have hs:st.set n (.lst [.lst (ns.map .int),.int a,.int p,.bl f])=st:=by
   refine E9 λi=>?_;rw[Ea];split
   .rename_i e;subst e;split
    .exact h.symm
    .rename_i z;rw[Bd ()]at h
     cases h
   .rfl
  cases B with
  |false=>exact#[t,a,p,f,ha,by rw[zga hB rfl,hs]]
  |true=>
   have h64:=hb rfl
   match r,N with
   |0,_=>exact absurd ht ()
   |r+1,N+1=>
    let#[p1,f1,hx]:=ziA k hns (m:=m) (t:=t) ha (u:=u) h;let#[t',a',p',f',h0,h2]:=zfE k hns (m:=m) (u:=u) r N (t+1) (a+1) p1 f1 _ () () () (rdS h);refine#[t',a',p',f',h0,?_];rw[ziG hB rfl hx,h2,DZ]
theorem take(k n:Nat)(ns:List Int)(hns:ns.length<=1000)(a p m:Int)(ha:0<=a)(hm:0<m)(hm2:m<10000000000000000000000000000000000000000000000000000000000000000000000)(f:Bool)(st:SO)(h:st[n]?=AA (.lst [.lst (ns.map .int),.int a,.int p,.bl f])):
  ∃d a' p' f',0<=d/\d<m/\0<=a'/\yd T (k+3) yet [.loc n,.int m] st=.ok (.int d) (st.set n (.lst [.lst (ns.map .int),.int a',.int p',.bl f'])):=by let#[t',a',p',f',h0,h2]:=zfE k hns (m:=m) (u:=AD) 64 99999 0 a p f st () () ha h;refine#[p'%m,a',p'/m,f',Ab _ (),AX _ hm,h0,?_];have hb:yao.body=.cons (.asg (.n 2) (.cst (.int 0))) (.cons (.while ybH ybY) (.cons (.asg (.n 3) (.bin .mod (.idx (.var 0) (.cst (.int 2))) (.var 1))) (.cons (.six (.var 0) (.cst (.int 2)) (.bin .fdiv (.idx (.var 0) (.cst (.int 2))) (.var 1))) (.cons (.ret (.var 3)) .nil)))):=rfl;have hT:T yet=AA #[2,4,AB,yao.body]:=rfl;rw[yd,hT,hb];simp! [zmr,yaT,nxO,stO,R.fl,R.bind,yU,h2,rdS h,idxV,yba,at?,ixI,yI,binI,hm,hm2,and_self,toR,ybG];simp[rdS h,hm,hm2]
def Drw(ns:List Int)(n:Nat)(st:SO):Prop:=∃a p f,0<=a/\st[n]?=AA (.lst [.lst (ns.map .int),.int a,.int p,.bl f])
def Onl(ns:List Int)(n:Nat)(st st':SO):Prop:=∃a p f,0<=a/\st'=st.set n (.lst [.lst (ns.map .int),.int a,.int p,.bl f])
theorem Onl.drw{ns:List Int}{n:Nat}{st st':SO}(h:Drw ns n st)(o:Onl ns n st st'):Drw ns n st':=by let#[a,p,f,ha,h]:=h;let#[b,q,g,hb,rfl]:=o;exact#[b,q,g,hb,rdS h]
theorem Onl.trans{ns:List Int}{n:Nat}{st st1 st2:SO}(o:Onl ns n st st1)(o2:Onl ns n st1 st2):Onl ns n st st2:=by let#[b,q,g,hb,rfl]:=o;let#[c,r,j,hc,rfl]:=o2;exact#[c,r,j,hc,by rw[DZ]]
def zqX(k:Nat){n:Nat}{ns:List Int}(hns:ns.length<=1000){m:Int}(hm:0<m)(hm2:m<10000000000000000000000000000000000000000000000000000000000000000000000){st:SO}(h:Drw ns n st):
  ∃d st',0<=d/\d<m/\Onl ns n st st'/\yd T (k+3) yet [.loc n,.int m] st=.ok (.int d) st':=by let#[a,p,f,ha,h]:=h;let#[d,a',p',f',h1,h2,h3,h4]:=take k n ns hns a p m ha hm hm2 f st h;exact#[d,_,h1,h2,#[_,_,_,h3,rfl],h4]
theorem fresh(k:Nat)(ns:List Int)(h:ns.length<=63)(st:SO):∃v,yd T (k+1) yi8 [.scr (ns.map .int)] st=.ok (.loc st.length) (st++[v])/\v=.lst [.lst (ns.map .int),.int 0,.int 0,.bl AB]:=by
 have hT:T yi8=AA yim:=rfl;refine#[_,?_,rfl];rw[yd,hT];erw[yim,A4,Bw,if_true,AL,Ah,Co,BI,Ak,BF,xs_cons,xs_nil,x_ret,yaT,ev,IC.vs0,IC.vs1,R.fl,R.bind,Ao,toR];have hc:ycE (.scr (ns.map PV.int)) AD (.int 63)=AA (.lst (ns.map .int)):=by
  have hk:ybu ns.length 63=ns.length:=by show min 63 ns.length=ns.length;lia
  simp[ycE,ycd,ycM,cut,yc3,ydf,hk]
  try rw[<-Ax (f:=PV.int),G3]
 simp[ycd,onP,hc,sizeMax]
theorem dbl{call:Cl}{i j:Nat}(hij:i≠j):∀(N:Nat) (a:Int) (U:IC.Env) (v:Int) (st:SO),U[i]?=AA (AA (.int v)) ->
  ∃u,ybj call (.n j) (.cons (.asg (.n i) (.bin .mul (.cst (.int 2)) (.var i))) .nil) (yx N a 1) U st=.nx ((U.set i (AA (.int (2^N*v)))).set j u) st/\(N=0->U[j]?=AA u \/ U.length<=j)
 |0,a,U,v,st,h=>by
  have hi:U.set i (AA (.int v))=U:=by
   refine E9 λz=>?_;rw[Ea];split
   .rename_i e;subst e;split
    .exact h.symm
    .rw[Bd ()]at h
     cases h
   .rfl
  rcases CA j U.length with hj|hj
  .refine#[U[j],?_,λ_=>.inl (Ef hj)];rw[yx,zL,DA,Az,hi,FN]
  .refine#[AD,?_,λ_=>.inr hj];rw[yx,zL,DA,Az,hi,List.set_eq_of_length_le hj]
 |N+1,a,U,v,st,h=>by
  have h1:(U.set j (AA (.int a)))[i]?=AA (AA (.int v)):=by rw[AO (B0 hij)];exact h
  have hil:i<U.length:=by
   rcases CA i U.length with z|z
   .exact z
   .rw[Bd z]at h;cases h
  have h2:exs call (U.set j (AA (.int a))) st (.cons (.asg (.n i) (.bin .mul (.cst (.int 2)) (.var i))) .nil)=.nx ((U.set j (AA (.int a))).set i (AA (.int (2*v)))) st:=by erw[xs_nil,xs_cons,x_asg,yaT,nxO,IC.ve1,IC.ve2,IC.ve3,R.bind,R.fl,h1,yU,yI,binI,yaQ,toR];simp
  let#[u,h3,_]:=dbl (call:=call) hij N (a+1) ((U.set j (AA (.int a))).set i (AA (.int (2*v)))) (2*v) st (by rw[Ag (by rw[CN];exact hil)]);refine#[u,?_,λz=>by cases z];rw[yx,zF (U1:=U.set j (AA (.int a))) rfl,h2];show ybj call _ _ _ _ _=_;rw[h3,DZ,HJ _ _ (B0 hij),DZ,A5,Ae]
def ze2(K:Nat):(0:Int)<2^K:=AY ()
def yW:Css:=match yae.body with
 |.cons _ (.cons _ (.cons _ r))=>r
 |_=>.nil
def wT2:Css:=match yW with
 |.cons _ (.cons _ (r))=>r
 |_=>.nil
theorem wE2:yW=(match yW with
 |.cons q0 (.cons q1 (_))=>.cons q0 (.cons q1 (wT2))
 |_=>.nil):=rfl
def wT4:Css:=match yW with
 |.cons _ (.cons _ (.cons _ (.cons _ (r))))=>r
 |_=>.nil
theorem wE4:yW=(match yW with
 |.cons q0 (.cons q1 (.cons q2 (.cons q3 (_))))=>.cons q0 (.cons q1 (.cons q2 (.cons q3 (wT4))))
 |_=>.nil):=rfl
def wT5:Css:=match yW with
 |.cons _ (.cons _ (.cons _ (.cons _ (.cons _ (r)))))=>r
 |_=>.nil
theorem wE5:yW=(match yW with
 |.cons q0 (.cons q1 (.cons q2 (.cons q3 (.cons q4 (_)))))=>.cons q0 (.cons q1 (.cons q2 (.cons q3 (.cons q4 (wT5)))))
 |_=>.nil):=rfl
def wT6:Css:=match yW with
 |.cons _ (.cons _ (.cons _ (.cons _ (.cons _ (.cons _ (r))))))=>r
 |_=>.nil
theorem wE6:yW=(match yW with
 |.cons q0 (.cons q1 (.cons q2 (.cons q3 (.cons q4 (.cons q5 (_))))))=>.cons q0 (.cons q1 (.cons q2 (.cons q3 (.cons q4 (.cons q5 (wT6))))))
 |_=>.nil):=rfl
def zhn{c:Cl}{n:Nat}{w z kd m:Int}{u5 u6 u7 u8 u9 u10 u11 u12:Option PV}{st:SO}(h0:0<=kd)(h6:kd<6)(hm:16<=m):
  ∃x,0<=x/\x<m/\exs c [AA (.loc n),AA (.int w),AA (.int z),AA (.int kd),AA (.int m),u5,u6,u7,u8,u9,u10,u11,u12] st yW=.rt (.int x) st:=by
 obtain⟨x,x0,x1,hv⟩:∃x:Int,0<=x/\x<m/\∀st,idxV st (.tup [.int 0,.int 1,.int (m-1),.int (m/2),.int (m/2-1),.int (m-2)]) (.int kd)=AA (.int x):=by
  rcases (by lia:kd=0 \/ kd=1 \/ kd=2 \/ kd=3 \/ kd=4 \/ kd=5)with rfl|rfl|rfl|rfl|rfl|rfl
  .exact#[0,by lia,by lia,λ_=>rfl]
  .exact#[1,by lia,by lia,λ_=>rfl]
  .exact#[m-1,by lia,by lia,λ_=>rfl]
  .exact#[m/2,by lia,by lia,λ_=>rfl]
  .exact#[m/2-1,by lia,by lia,λ_=>rfl]
  .exact#[m-2,by lia,by lia,λ_=>rfl]
 refine#[x,x0,x1,?_];rw[wE2];erw[yW,yae,A4,Bw,CB,Dn,if_true,xs_cons,xs_nil,x_asg,x_ite,x_ret,IC.ve1,IC.ve2,IC.ve3,IC.ve8,IC.ve11,IC.ve16,IC.ve18,IC.vs0,IC.vs1,Ao,Ai,bd_ok,fl_ok,toR_some,bT_n,nxO_some,th_nx,th_rt,BS,BU,t_bl,on_t,sizeMax,Gc,b_sub,b_div2,c_lt,c_eq,c_gt,cond_true,cond_false,hv,h6,decide_true]
def zh8(k:Nat){n:Nat}{ns:List Int}(hns:ns.length<=1000){w z kd m:Int}{u5 u6 u7 u8 u9 u10 u11 u12:Option PV}{st:SO}(h:Drw ns n st)(h9:9<kd)(hm:16<=m)(hm2:m<=18446744073709551616):
  ∃x st',0<=x/\x<m/\Onl ns n st st'/\exs (yd T (k+3)) [AA (.loc n),AA (.int w),AA (.int z),AA (.int kd),AA (.int m),u5,u6,u7,u8,u9,u10,u11,u12] st yW=.rt (.int x) st':=by let#[d,s1,d1,d2,o1,e1]:=zqX k hns (m:=m) () () h;refine#[d,s1,d1,d2,o1,?_];have k1:decide (kd<6)=false:=decide_eq_false ();have k2:(kd==6)=false:=beq_eq_false_iff_ne.2 ();have k3:(kd==7)=false:=beq_eq_false_iff_ne.2 ();rw[wE6];erw[yW,yae,A4,Bw,CB,Dn,if_true,xs_cons,xs_nil,x_asg,x_ite,x_ret,IC.ve1,IC.ve2,IC.ve3,IC.ve8,IC.ve11,IC.ve16,IC.ve18,IC.vs0,IC.vs1,Ao,Ai,bd_ok,fl_ok,toR_some,bT_n,nxO_some,th_nx,th_rt,BS,BU,t_bl,on_t,sizeMax,Gc,b_sub,b_div2,c_lt,c_eq,c_gt,cond_true,cond_false,e1,h9,decide_true,k1,k2,k3]
def zhl(k:Nat){n:Nat}{ns:List Int}(hns:ns.length<=1000){w z kd m:Int}{u5 u6 u7 u8 u9 u10 u11 u12:Option PV}{st:SO}(h:Drw ns n st)(hk:kd=6 \/ kd=7)(hw:4<=w)(hw2:w<=16)(hz:1<=z)(hz2:z<=4)(hm:m=2^(w*z).toNat):
  ∃x st',0<=x/\x<m/\Onl ns n st st'/\exs (yd T (k+3)) [AA (.loc n),AA (.int w),AA (.int z),AA (.int kd),AA (.int m),u5,u6,u7,u8,u9,u10,u11,u12] st yW=.rt (.int x) st':=by
 have hwz:4<=w*z:=by have:=EW hw hz () ();lia
 have hwz2:w*z<=64:=by have:=EW hw2 hz2 () ();lia
 have hm1:0<m:=hm ▸ ze2 _;have hm2:m<=18446744073709551616:=by
  have h64:(2:Nat)^(w*z).toNat<=2^64:=AZ () ();have h65:((2^(w*z).toNat:Nat):Int)=2^(w*z).toNat:=by simp
  rw[hm,<-h65];lia
 let#[d,s1,d1,d2,o1,e1]:=zqX k hns (m:=m) () () h;let#[e,s2,d3,d4,o2,e2]:=zqX k hns (m:=w*z) () () (o1.drw h);have hj:(2:Int)^e.toNat<m:=by rw[hm];exact Int.pow_lt_pow_of_lt () ()
 have hj1:=ze2 e.toNat;have hj2:(2:Int)^e.toNat<10000000000000000000000000000000000000000000000000000000000000000000000:=by lia
 have hj3:((2:Int)^e.toNat).natAbs<18446744073709551616:=by lia
 have hj4:(2:Nat)^e.toNat<18446744073709551616:=by
  have h65:((2^e.toNat:Nat):Int)=2^e.toNat:=by simp
  lia
 have hwa:w.natAbs<18446744073709551616:=by lia
 have hea:e.natAbs<1000000000:=by lia
 have hr:yb8 (.int e)=AA (yx e.toNat 0 1):=by erw[yb8,hea,if_true]
 have q1:=zgh (i:=d) hj1 ();have q2:yI .mul (.int (d/2^e.toNat)) (.int (2^e.toNat))=AA (.int (d/2^e.toNat*2^e.toNat)):=zcV hj3;have q3:yI .mul (.int w) (.int z)=AA (.int (w*z)):=zaD hwa
 clear hj2 hj4 hea hwa hj3 hwz hwz2
 rcases hk with rfl|rfl
 .let#[u,hd,_]:=dbl (call:=yd T (k+3)) (i:=8) (j:=5) () e.toNat 0 [AA (.loc n),AA (.int w),AA (.int z),AA (.int 6),AA (.int m),u5,AA (.tup [.int 0,.int 1,.int (m-1),.int (m/2),.int (m/2-1),.int (m-2)]),AA (.int d),AA (.int 1),u9,u10,u11,u12] 1 s2 rfl;refine#[d/2^e.toNat*2^e.toNat,s2,Bu (B4 d1 ()) (),DM (Int.ediv_mul_le d ()) d2,o1.trans o2,?_];have k1:decide ((6:Int)<6)=false:=rfl;have k2:((6:Int)==6)=true:=rfl;rw[CT]at hd;rw[wE4];generalize wT4=F,(2:Int)^e.toNat=P at *;erw[IC.PV.tup]at hd;simp! [yW,yae,e1,k1,k2,q3,e2,hr,hd,q1,q2]
 .let#[u,hd,_]:=dbl (call:=yd T (k+3)) (i:=8) (j:=5) () e.toNat 0 [AA (.loc n),AA (.int w),AA (.int z),AA (.int 7),AA (.int m),u5,AA (.tup [.int 0,.int 1,.int (m-1),.int (m/2),.int (m/2-1),.int (m-2)]),AA (.int d),AA (.int 1),u9,u10,u11,u12] 1 s2 rfl;refine#[m-2^e.toNat,s2,by lia,by lia,o1.trans o2,?_];have k1:decide ((7:Int)<6)=false:=rfl;have k2:((7:Int)==6)=false:=rfl;have k3:((7:Int)==7)=true:=rfl;rw[CT]at hd;rw[wE5];generalize wT5=F,(2:Int)^e.toNat=P at *;erw[IC.PV.tup]at hd;simp! [yW,yae,e1,k1,k2,k3,q3,e2,hr,hd]
theorem Drw.refl{ns:List Int}{n:Nat}{st:SO}(h:Drw ns n st):Onl ns n st st:=by let#[a,p,f,ha,h]:=h;exact#[a,p,f,ha,zk4 h]
def ybP:Css:=match yW with
 |.cons _ (.cons _ (.cons _ (.cons _ (.cons _ (.cons _ (.cons _ (.cons _ (.cons _ (.cons (.for _ _ b) _)))))))))=>b
 |_=>.nil
def zhq(k:Nat){n:Nat}{ns:List Int}(hns:ns.length<=1000){p1 p2 p3 p4 p6 p8 u11 u12:Option PV}{d W acc a:Int}{st:SO}(h:Drw ns n st)(ha:0<=a)(ha2:a<1000)(hW:4<=W)(hW2:W<18446744073709551616):
  ∃e st' v11 v12,0<=e/\e<W/\Onl ns n st st'/\exs (yd T (k+3)) [AA (.loc n),p1,p2,p3,p4,AA (.int a),p6,AA (.int d),p8,AA (.int W),AA (.int acc),u11,u12] st ybP=.nx [AA (.loc n),p1,p2,p3,p4,AA (.int a),p6,AA (.int d),p8,AA (.int W),AA (.int (acc*W+e)),v11,v12] st':=by
 let#[t,s1,d1,d2,o1,e1]:=zqX k hns (m:=5) () () h;have hW0:0<W:=by lia
 have hWm:W.natAbs<18446744073709551616:=by lia
 have ha3:0<a+1:=by lia
 have ha4:a+1<18446744073709551616*18446744073709551616:=by lia
 have q0:=Ab (d/(a+1)) (show W≠0 by lia);have q1:=AX (d/(a+1)) hW0;obtain⟨e,x0,x1,hv⟩:∃e:Int,0<=e/\e<W/\∀st,idxV st (.tp AB [.int 0,.int 1,.int (W-1),.int (W/2),.int (d/(a+1)%W)]) (.int t)=AA (.int e):=by
  rcases (by lia:t=0 \/ t=1 \/ t=2 \/ t=3 \/ t=4)with rfl|rfl|rfl|rfl|rfl
  .exact#[0,by lia,by lia,λ_=>rfl]
  .exact#[1,by lia,by lia,λ_=>rfl]
  .exact#[W-1,by lia,by lia,λ_=>rfl]
  .exact#[W/2,by lia,by lia,λ_=>rfl]
  .exact#[d/(a+1)%W,q0,q1,λ_=>rfl]
 refine#[e,s1,AA (.int (d/(a+1)%W)),AA (.tp AB [.int 0,.int 1,.int (W-1),.int (W/2),.int (d/(a+1)%W)]),x0,x1,o1,?_];simp! [ybP,yW,yae,zgh ha3 ha4,zhD hW0,zcV hWm,e1,hv]
def zd7(k:Nat){n:Nat}{ns:List Int}(hns:ns.length<=1000){p1 p2 p3 p4 p6 p8:Option PV}{d W:Int}(hW:4<=W)(hW2:W<18446744073709551616):∀(r i:Nat) (a acc:Int) (u5 u11 u12:Option PV) (st:SO),0<=a->a+r<1000->0<=acc->acc<W^i->Drw ns n st ->
  ∃acc' st' v5 v11 v12,0<=acc'/\acc' < W^(i+r)/\Onl ns n st st'/\ybj (yd T (k+3)) (.n 5) ybP (yx r a 1) [AA (.loc n),p1,p2,p3,p4,u5,p6,AA (.int d),p8,AA (.int W),AA (.int acc),u11,u12] st=.nx [AA (.loc n),p1,p2,p3,p4,v5,p6,AA (.int d),p8,AA (.int W),AA (.int acc'),v11,v12] st'
 |0,i,a,acc,u5,u11,u12,st,_,_,h0,h1,h=>#[acc,st,u5,u11,u12,h0,h1,h.refl,by rw[yx,zL]]
 |r+1,i,a,acc,u5,u11,u12,st,ha,hr,h0,h1,h=>by
  let#[e,s1,v11,v12,e0,e1,o1,hs]:=zhq k hns (p1:=p1) (p2:=p2) (p3:=p3) (p4:=p4) (p6:=p6) (p8:=p8) (u11:=u11) (u12:=u12) (d:=d) (acc:=acc) h ha () hW hW2;have hb:acc*W+e<W^(i+1):=by have:=Am (show acc<=W^i-1 by lia) (show 0<=W by lia);rw[BA,Az]at this;rw[A5];lia
  have hb0:0<=acc*W:=Bu h0 ();let#[acc',s2,w5,w11,w12,f0,f1,o2,hf]:=zd7 k hns (p1:=p1) (p2:=p2) (p3:=p3) (p4:=p4) (p6:=p6) (p8:=p8) (d:=d) hW hW2 r (i+1) (a+1) (acc*W+e) (AA (.int a)) v11 v12 s1 () () () hb (o1.drw h);refine#[acc',s2,w5,w11,w12,f0,by rw[show i+(r+1)=i+1+r by lia];exact f1,o1.trans o2,?_];rw[yx,zF (U1:=[AA (.loc n),p1,p2,p3,p4,AA (.int a),p6,AA (.int d),p8,AA (.int W),AA (.int acc),u11,u12]) rfl,hs];exact hf
def zfX(k:Nat){n:Nat}{ns:List Int}(hns:ns.length<=1000){w z:Nat}{kd m:Int}{u5 u6 u7 u8 u9 u10 u11 u12:Option PV}{st:SO}(h:Drw ns n st)(hk:kd=8 \/ kd=9)(hw:4<=w)(hw2:w<=16)(hz:1<=z)(hz2:z<=4)(hm:m=2^(w*z)):
  ∃x st',0<=x/\x<m/\Onl ns n st st'/\exs (yd T (k+3)) [AA (.loc n),AA (.int w),AA (.int z),AA (.int kd),AA (.int m),u5,u6,u7,u8,u9,u10,u11,u12] st yW=.rt (.int x) st':=by
 have hwz2:w*z<=64:=Ad hw2 hz2;have hm1:0<m:=hm ▸ ze2 _;have hm2:m<=18446744073709551616:=by have h64:(2:Nat)^(w*z)<=2^64:=AZ () hwz2;rw[hm,<-pw];lia
 let#[d,s1,d1,d2,o1,e1]:=zqX k hns (m:=m) () () h;have hW4:(4:Int)<=2^w:=by have h:(2:Nat)^2<=2^w:=AZ () ();have h2:=pw w;lia
 have hWl:(2:Int)^w<18446744073709551616:=by have h:(2:Nat)^w<=2^16:=AZ () hw2;have h2:=pw w;lia
 have r1:yb8 (.int (w:Int))=AA (yx w 0 1):=zbJ w ();have r2:yb8 (.int (z:Int))=AA (yx z 0 1):=zbJ z ();have k1:¬kd<6:=by lia
 have k2:(kd==6)=false:=by simp;lia
 have k3:(kd==7)=false:=by simp;lia
 have k4:¬9<kd:=by lia
 let#[u,hd,_]:=dbl (call:=yd T (k+3)) (i:=9) (j:=5) () w 0 [AA (.loc n),AA (.int w),AA (.int z),AA (.int kd),AA (.int m),u5,AA (.tup [.int 0,.int 1,.int (m-1),.int (m/2),.int (m/2-1),.int (m-2)]),AA (.int d),u8,AA (.int 1),u10,u11,u12] 1 s1 rfl;erw[BS,BU,CT]at hd;let#[acc',s2,w5,w11,w12,f0,f1,o2,hf]:=zd7 k hns (p1:=AA (.int w)) (p2:=AA (.int z)) (p3:=AA (.int kd)) (p4:=AA (.int m)) (p6:=AA (.tup [.int 0,.int 1,.int (m-1),.int (m/2),.int (m/2-1),.int (m-2)])) (p8:=u8) (d:=d) (W:=2^w) hW4 hWl z 0 0 0 u u11 u12 s1 () () () (by simp) (o1.drw h);rw[CB,<-CU,<-hm]at f1;refine#[acc',s2,f0,f1,o1.trans o2,?_]
 have hR:yW=.cons (.asg (.n 6) (.tup (.cons (.cst (.int 0)) (.cons (.cst (.int 1)) (.cons (.bin .sub (.var 4) (.cst (.int 1))) (.cons (.bin .fdiv (.var 4) (.cst (.int 2))) (.cons (.bin .sub (.bin .fdiv (.var 4) (.cst (.int 2))) (.cst (.int 1))) (.cons (.bin .sub (.var 4) (.cst (.int 2))) .nil)))))))) (match yW with
  |.cons _ (.cons a (.cons b (.cons c (.cons d (.cons e (.cons f (.cons g (.cons h (.cons (.for t i _) r)))))))))=>.cons a (.cons b (.cons c (.cons d (.cons e (.cons f (.cons g (.cons h (.cons (.for t i ybP) r))))))))
  |_=>.nil):=rfl
 rw[hR];simp! [yW,yae,r1,r2,k1,k2,k3,k4,decide_false,e1,hd,hf]
theorem worth(k:Nat){n:Nat}{ns:List Int}(hns:ns.length<=1000)(w z:Nat)(hw:4<=w)(hw2:w<=16)(hz:1<=z)(hz2:z<=4){st:SO}(h:Drw ns n st):
  ∃x st',0<=x/\x<2^(w*z)/\Onl ns n st st'/\yd T (k+4) ykm [.loc n,.int w,.int z] st=.ok (.int x) st':=by
 let#[kd,s1,d1,d2,o1,e1]:=zqX k hns (m:=12) () () h;have h1:=o1.drw h;have hwz2:w*z<=64:=Ad hw2 hz2;have hwz:4<=w*z:=Ad hw hz;have hm:(16:Int)<=2^(w*z):=by have h:(2:Nat)^4<=2^(w*z):=AZ () hwz;have h2:=pw (w*z);lia
 have hm2:(2:Int)^(w*z)<=18446744073709551616:=by have h:(2:Nat)^(w*z)<=2^64:=AZ () hwz2;have h2:=pw (w*z);lia
 have hwa:(w:Int).natAbs<18446744073709551616:=by lia
 have hwm:(w:Int)*(z:Int)=((w*z:Nat):Int):=by simp
 have r1:yb8 (.int ((w*z:Nat):Int))=AA (yx (w*z) 0 1):=zbJ _ ();let#[u,hd,_]:=dbl (call:=yd T (k+3)) (i:=4) (j:=5) () (w*z) 0 [AA (.loc n),AA (.int w),AA (.int z),AA (.int kd),AA (.int 1),AD,AD,AD,AD,AD,AD,AD,AD] 1 s1 rfl;erw[BS,BU,CT]at hd;have key:∃x st',0<=x/\x<2^(w*z)/\Onl ns n s1 st'/\exs (yd T (k+3)) [AA (.loc n),AA (.int w),AA (.int z),AA (.int kd),AA (.int (2^(w*z))),u,AD,AD,AD,AD,AD,AD,AD] s1 yW=.rt (.int x) st':=by
  rcases (by lia:kd<6 \/ (kd=6 \/ kd=7) \/ (kd=8 \/ kd=9) \/ 9<kd)with q|q|q|q
  .let#[x,a,b,e]:=zhn (c:=yd T (k+3)) (n:=n) (w:=w) (z:=z) (st:=s1) (u5:=u) (u6:=AD) (u7:=AD) (u8:=AD) (u9:=AD) (u10:=AD) (u11:=AD) (u12:=AD) d1 q hm;exact#[x,s1,a,b,h1.refl,e]
  .exact zhl k hns h1 q () () () () (by rw[hwm,CL])
  .exact zfX k hns h1 q hw hw2 hz hz2 rfl
  .exact zh8 k hns h1 q hm hm2
 let#[x,s2,a,b,o2,e2]:=key;refine#[x,s2,a,b,o1.trans o2,?_];have hT:T ykm=AA #[3,13,AB,yae.body]:=rfl;have hb:yae.body=.cons (.asg (.n 3) (.call 108 (.cons (.var 0) (.cons (.cst (.int 12)) .nil)))) (.cons (.asg (.n 4) (.cst (.int 1))) (.cons (.for (.n 5) (.range1 (.bin .mul (.var 1) (.var 2))) (.cons (.asg (.n 4) (.bin .mul (.cst (.int 2)) (.var 4))) .nil)) yW)):=rfl;rw[yd,hT,hb];erw[A4,Bw,CB,Dn,if_true,B8,if_false,AL,Ah,Co,BI,Ak,BF];rw[xs_cons,x_asg];erw[IC.ve18,IC.ve1,IC.ve2,IC.vs0,IC.vs1,Ao,Ai,bd_ok,fl_ok,e1,bT_n,nxO_some,th_nx,BS,BU];rw[xs_cons,x_asg];erw[IC.ve1,bd_ok,fl_ok,bT_n,nxO_some,th_nx,BS,BU];rw[xs_cons,x_for];erw[IC.vi0,IC.vi1,IC.vi2,IC.vi3,IC.vi4,IC.vi5,IC.vi6,IC.vi7,IC.vi8,IC.ve2,IC.ve3,Ao,Ai,bd_ok,fl_ok,zaD hwa,hwm,r1,toL,toR_some,hd,th_nx,e2]
def zro{a b:Int}(st:SO):yaE .max st [.int a,.int b]=AA (.int (if a<b then b else a)):=by erw[yaE,maxV]
theorem min1{a b:Int}(st:SO):yaE .min st [.int a,.int b]=AA (.int (if b<a then b else a)):=by erw[yaE,yfb]
def lt4:Cs:=match yX.body with
 |.cons _ (.cons _ (.cons _ (.cons _ (.cons s _))))=>s
 |_=>.nope
def lt5:Cs:=match yX.body with
 |.cons _ (.cons _ (.cons _ (.cons _ (.cons _ (.cons s _)))))=>s
 |_=>.nope
def lt6:Cs:=match yX.body with
 |.cons _ (.cons _ (.cons _ (.cons _ (.cons _ (.cons _ (.cons s _))))))=>s
 |_=>.nope
def lt7:Cs:=match yX.body with
 |.cons _ (.cons _ (.cons _ (.cons _ (.cons _ (.cons _ (.cons _ (.cons s _)))))))=>s
 |_=>.nope
def lt8:Cs:=match yX.body with
 |.cons _ (.cons _ (.cons _ (.cons _ (.cons _ (.cons _ (.cons _ (.cons _ (.cons s _))))))))=>s
 |_=>.nope
def ltU:Css:=.cons lt4 (.cons lt5 (.cons lt6 (.cons lt7 (.cons lt8 (.cons (.ret (.tup (.cons (.var 3) (.cons (.var 4) .nil)))) .nil)))))
def zeM{ns:List Int}{n:Nat}{st:SO}(h:Drw ns n st):Onl ns n st st:=by let#[a,p,f,ha,e]:=h;refine#[a,p,f,ha,?_];let#[hl,hg]:=BY.1 e;rw[<-hg,FN]
def zgf{m:Nat}(h4:4<=m)(h64:m<=64):(2:Int)^m<=18446744073709551616/\(16:Int)<=2^m:=by have h2:=pw m;have a:(2:Nat)^m<=2^64:=AZ ⋯ h64;have b:(2:Nat)^4<=2^m:=AZ ⋯ h4;lia
def zqy{m:Nat}(h4:4<=m)(h64:m<=64):0<(m:Int)/\(m:Int)<10000000000000000000000000000000000000000000000000000000000000000000000:=by lia
abbrev e7(p:Option PV)(w n:Nat)(x y t q:Int):IC.Env:=[p,AA (.int w),AA (.int n),AA (.int x),AA (.int y),AA (.int t),AA (.int q)]
section
variable {p0:Option PV}{w n:Nat}{x y t q P:Int}
theorem tw4{c:Cl}{st:SO}(q0:0<q)(q1:q<2^64)(y0:0<=y)(y1:y<P):∃y',0<=y'/\y' < P/\ex c (e7 p0 w n x y t q) st lt4=.nx (e7 p0 w n x y' t q) st:=by
 have hdv:yI .fdiv (.int y) (.int q)=AA (.int (y/q)):=zgh q0 ();have h0:=B4 y0 (Bv q0);have h1:=DM (Gd q y0) y1
 cases ha:(t==0)
 .cases hb:(t==5)
  .exact#[y,y0,y1,by simp! [lt4,yX,e7,ha,hb]]
  .exact#[y/q,h0,h1,by simp! [lt4,yX,e7,ha,hb,hdv]]
 .exact#[y/q,h0,h1,by simp! [lt4,yX,e7,ha,hdv]]
theorem tw5(k:Nat){n0:Nat}{ns:List Int}(hns:ns.length<=1000){st:SO}(h:Drw ns n0 st)(hp:p0=AA (.loc n0))(hP:16<=P)(y0:0<=y)(y1:y<P):∃y' s',0<=y'/\y' < P/\Onl ns n0 st s'/\ex (yd T (k+4)) (e7 p0 w n x y t q) st lt5=.nx (e7 p0 w n x y' t q) s':=by
 subst hp
 cases ha:(t==1)
 .exact#[y,st,y0,y1,zeM h,by simp! [lt5,yX,e7,ha]]
 .let#[d,s5,d0,d1,o5,f5]:=zqX (k+1) hns (m:=9) ⋯ ⋯ h;exact#[1+d,s5,by lia,by lia,o5,by simp! [lt5,yX,e7,ha,f5,b_add]]
theorem tw6{c:Cl}{st:SO}(q0:0<q)(q1:q<P)(y0:0<=y)(y1:y<P):∃y',0<=y'/\y' < P/\ex c (e7 p0 w n x y t q) st lt6=.nx (e7 p0 w n x y' t q) st:=by
 cases ha:(t==2)
 .exact#[y,y0,y1,by simp! [lt6,yX,e7,ha]]
 .exact#[q,Bv q0,q1,by simp! [lt6,yX,e7,ha]]
theorem tw8{c:Cl}{st:SO}(x0:0<=x)(x1:x<P)(y0:0<=y)(y1:y<P):∃y',0<=y'/\y' < P/\ex c (e7 p0 w n x y t q) st lt8=.nx (e7 p0 w n x y' t q) st:=by
 cases ha:(t==6)
 .exact#[y,y0,y1,by simp! [lt8,yX,e7,ha]]
 .exact#[x,x0,x1,by simp! [lt8,yX,e7,ha]]
def zkB{a P:Int}(hP:0<P):0<=(if 0<(if a<P-1 then a else P-1)then(if a<P-1 then a else P-1)else 0)/\(if 0<(if a<P-1 then a else P-1)then(if a<P-1 then a else P-1)else 0)<P:=by split<;>split<;>lia
theorem tw7a(k:Nat){n0:Nat}{ns:List Int}(hns:ns.length<=1000){st:SO}(h:Drw ns n0 st)(hP:P=2^(w*n))(hK:w*n<=64)(hwa:(w:Int).natAbs<18446744073709551616)(x0:0<=x)(x1:x<P)(y0:0<y)(y1:y<P)(hb:P<=18446744073709551616):
  ∃x' s',0<=x'/\x' < P/\Onl ns n0 st s'/\∀e,e=4 \/ e=5->t=e->p0=AA (.loc n0)->ex (yd T (k+4)) (e7 p0 w n x y t q) st lt7=.nx (e7 p0 w n x' y t q) s':=by
 let#[d,s5,d0,d1,o5,f5]:=zqX (k+1) hns (m:=3) ⋯ ⋯ h;have hr:=zkB (a:=x/y*y+d-1) (P:=P) (DM x0 x1);refine#[_,s5,hr.1,hr.2,o5,?_];have hwm:(w:Int)*(n:Int)=((w*n:Nat):Int):=by simp
 have ht:=λst=>zdx (k+3) (w*n) () st;rw[<-hP]at ht;have hd:yI .fdiv (.int x) (.int y)=AA (.int (x/y)):=zgh y0 ();have hm:yI .mul (.int (x/y)) (.int y)=AA (.int (x/y*y)):=zcV ();have hmn:=λst=>min1 (a:=P-1) (b:=x/y*y+d-1) st;have hmx:=λst b=>zro (a:=0) (b:=b) st;intro e he te hp;subst te;subst hp;rcases he with rfl|rfl
 .simp! [lt7,yX,e7,Ca,y0,decide_true,zaD hwa,hwm,ht,b_sub,b_add,f5,hd,hm,hmn,hmx]
 .simp! [lt7,yX,e7,Ca,y0,decide_true,zaD hwa,hwm,ht,b_sub,b_add,f5,hd,hm,hmn,hmx]
theorem tw7(k:Nat){n0:Nat}{ns:List Int}(hns:ns.length<=1000){st:SO}(h:Drw ns n0 st)(hp:p0=AA (.loc n0))(hP:P=2^(w*n))(hK:w*n<=64)(hwa:(w:Int).natAbs<18446744073709551616)(x0:0<=x)(x1:x<P)(y0:0<=y)(y1:y<P)(hb:P<=18446744073709551616):
  ∃x' s',0<=x'/\x' < P/\Onl ns n0 st s'/\ex (yd T (k+4)) (e7 p0 w n x y t q) st lt7=.nx (e7 p0 w n x' y t q) s':=by
 by_cases hy:0<y
 .by_cases ha:t=4
  .let#[x',s',a,b,c,d]:=tw7a (p0:=p0) (q:=q) (t:=t) k hns h hP hK hwa x0 x1 hy y1 hb;exact#[x',s',a,b,c,d 4 (.inl rfl) ha hp]
  .by_cases hc:t=5
   .let#[x',s',a,b,c,d]:=tw7a (p0:=p0) (q:=q) (t:=t) k hns h hP hK hwa x0 x1 hy y1 hb;exact#[x',s',a,b,c,d 5 (.inr rfl) hc hp]
   .have ha:=beq_eq_false_iff_ne.2 ha;have hc:=beq_eq_false_iff_ne.2 hc;exact#[x,st,x0,x1,zeM h,by simp! [lt7,yX,e7,ha,hc]]
 .refine#[x,st,x0,x1,zeM h,?_]
  cases ha:(t==4)<;>cases hc:(t==5)<;>simp! [lt7,yX,e7,ha,hc,hy,decide_false]
end
theorem two(k:Nat){n0:Nat}{ns:List Int}(hns:ns.length<=1000)(w n:Nat)(hw:4<=w)(hw2:w<=16)(hn:1<=n)(hn2:n<=4){st:SO}(h:Drw ns n0 st):
  ∃x y st',0<=x/\x<2^(w*n)/\0<=y/\y<2^(w*n)/\Onl ns n0 st st'/\yd T (k+5) yjc [.loc n0,.int w,.int n] st=.ok (.tup [.int x,.int y]) st':=by
 have hK:4<=w*n:=Ad hw hn;have hK64:w*n<=64:=Ad hw2 hn2;have hwm:(w:Int)*(n:Int)=((w*n:Nat):Int):=by simp
 have hwa:(w:Int).natAbs<18446744073709551616:=by lia
 let#[hpow,h16]:=zgf hK hK64;let#[m0,m1]:=zqy hK hK64;let#[x,s1,x0,x1,o1,f1]:=worth k hns w n hw hw2 hn hn2 h;have h1:=o1.drw h;let#[y,s2,y0,y1,o2,f2]:=worth k hns w n hw hw2 hn hn2 h1;have h2:=o2.drw h1;let#[t,s3,t0,t1,o3,f3]:=zqX (k+1) hns (m:=7) ⋯ ⋯ h2;have h3:=o3.drw h2;let#[p,s4,p0,p1,o4,f4]:=zqX (k+1) hns (m:=((w*n:Nat):Int)) m0 m1 h3;have h4:=o4.drw h3;let#[p,rfl]:=zdK p0;have hlt:p<w*n:=Int.ofNat_lt.1 p1;have ht:=zdx (k+3) p (A9 hlt (BZ hK64 ⋯)) s4;have hpK:(2:Int)^p<2^(w*n):=by exact_mod_cast Nat.pow_lt_pow_right (a:=2) ⋯ hlt
 have hp0:(0:Int)<2^p:=AY ⋯;let#[ya,ya0,ya1,g4]:=tw4 (p0:=AA (.loc n0)) (w:=w) (n:=n) (x:=x) (t:=t) (c:=yd T (k+4)) (st:=s4) hp0 (DL hpK hpow) y0 y1;let#[yb,s5,yb0,yb1,o5,g5]:=tw5 (w:=w) (n:=n) (x:=x) (t:=t) (q:=2^p) k hns h4 rfl h16 ya0 ya1;have h5:=o5.drw h4;let#[yc,yc0,yc1,g6]:=tw6 (p0:=AA (.loc n0)) (w:=w) (n:=n) (x:=x) (t:=t) (c:=yd T (k+4)) (st:=s5) hp0 hpK yb0 yb1;let#[xd,s6,xd0,xd1,o6,g7]:=tw7 (t:=t) (q:=2^p) k hns h5 rfl rfl hK64 hwa x0 x1 yc0 yc1 hpow;let#[ye,ye0,ye1,g8]:=tw8 (p0:=AA (.loc n0)) (w:=w) (n:=n) (t:=t) (q:=2^p) (c:=yd T (k+4)) (st:=s6) xd0 xd1 yc0 yc1;refine#[xd,ye,s6,xd0,xd1,ye0,ye1,((((o1.trans o2).trans o3).trans o4).trans o5).trans o6,?_];have hT:T yjc=AA #[3,7,AB,yX.body]:=rfl
 have hb:yX.body=(match yX.body with
  |.cons q0 (.cons q1 (.cons q2 (.cons q3 _)))=>.cons q0 (.cons q1 (.cons q2 (.cons q3 ltU)))
  |_=>.nil):=rfl
 rw[yd,hT,hb];simp! [B8,if_false,yX,ltU,f1,f2,f3,zaD hwa,hwm,f4,ht,g4,g5,g6,g7,g8]
def zlZ(X Y:Int)(hY:Y≠0):yca X (-Y)=- yca X Y:=by
 have ha:yau (-Y)=yau Y:=by unfold yau;split<;>split<;>lia
 unfold yca;rw[ha]
 by_cases h1:X<0<;>by_cases h2:Y<0
 .rw[decide_eq_true h1,decide_eq_true h2,decide_eq_false (show ¬ -Y<0 by lia)];simp
 .rw[decide_eq_true h1,decide_eq_false h2,decide_eq_true (show -Y<0 by lia)];simp
 .rw[decide_eq_false h1,decide_eq_true h2,decide_eq_false (show ¬ -Y<0 by lia)];simp
 .rw[decide_eq_false h1,decide_eq_false h2,decide_eq_true (show -Y<0 by lia)];simp
def zgv{P x y Q:Int}(x0:0<=x)(x1:x<P)(y0:0<y)(y1:y<P)(hQ:Q=yca (sgd P x) (sgd P y)):
  ((sgd P x-sgd P y*Q)%P≠0->decide (P<=2*((sgd P x-sgd P y*Q)%P))=decide (P<=2*x)) /\
  (¬P<=2*x->¬P<=2*y->Q%P=x/y/\(sgd P x-sgd P y*Q)%P=x%y) /\
  (P<=2*x->P<=2*y->Q%P=Q)/\(P<=2*Q->P<=2*x/\P<=2*y):=by
 obtain⟨A,hA⟩:∃A,A=yau (sgd P x):=#[_,rfl];obtain⟨B,hB⟩:∃B,B=yau (sgd P y):=#[_,rfl];have e:=As A B;have hB0:0<B:=by rw[hB];unfold yau sgd;split<;>split<;>lia
 have r0:=Ab A (show B≠0 by lia);have r1:=AX A hB0;have hA0:0<=A:=by rw[hA];unfold yau sgd;split<;>split<;>lia
 have q0:=B4 hA0 (show 0<=B by lia);have q1:=Gd B hA0;unfold yca at hQ;rw[<-hA,<-hB]at hQ;generalize hq:A/B=q,hr:A%B=r at *;obtain⟨m,hm⟩:∃m,m=B*q:=#[_,rfl];rw[<-hm]at e
 by_cases h1:P<=2*x<;>by_cases h2:P<=2*y
 .have sx:sgd P x=x-P:=by unfold sgd;rw[if_pos h1]
  have sy:sgd P y=y-P:=by unfold sgd;rw[if_pos h2]
  have a:A=P-x:=by rw[hA,sx];unfold yau;rw[if_pos ()];lia
  have b:B=P-y:=by rw[hB,sy];unfold yau;rw[if_pos ()];lia
  rw[sx,sy,decide_eq_true (show x-P<0 by lia),decide_eq_true (show y-P<0 by lia)]at hQ;have hQ:Q=q:=hQ;have hp:(y-P)*Q=- m:=by rw[hQ,hm,b,<-FV];congr 1;lia
  rw[sx,sy,hp];have qm:Q%P=Q:=AM () ();refine#[λhn=>?_,λh=>absurd h1 h,λ_ _=>qm,λ_=>#[h1,h2]];have hr':(x-P - -m)%P=if r=0 then 0 else P-r:=by
   split
   .rename_i z;rw[show x-P - -m=0 by lia];simp
   .rw[<-B9];exact(AM () ()).trans ()
  rw[hr']at hn ⊢;split at hn
  .exact absurd rfl hn
  .rename_i z;rw[if_neg z,decide_eq_true (show P<=2*(P-r)by lia),decide_eq_true h1]
 .have sx:sgd P x=x-P:=by unfold sgd;rw[if_pos h1]
  have sy:sgd P y=y:=by unfold sgd;rw[if_neg h2]
  have a:A=P-x:=by rw[hA,sx];unfold yau;rw[if_pos ()];lia
  have b:B=y:=by rw[hB,sy];unfold yau;rw[if_neg ()]
  rw[sx,sy,decide_eq_true (show x-P<0 by lia),decide_eq_false (show ¬y<0 by lia)]at hQ;have hQ:Q=0-q:=hQ;have hp:y*Q=- m:=by rw[hQ,hm,b,GT,Gh]
  rw[sx,sy,hp];refine#[λhn=>?_,λh=>absurd h1 h,λ_ h=>absurd h h2,λh=>by lia];have hr':(x-P - -m)%P=if r=0 then 0 else P-r:=by
   split
   .rename_i z;rw[show x-P - -m=0 by lia];simp
   .rw[<-B9];exact(AM () ()).trans ()
  rw[hr']at hn ⊢;split at hn
  .exact absurd rfl hn
  .rename_i z;rw[if_neg z,decide_eq_true (show P<=2*(P-r)by lia),decide_eq_true h1]
 .have sx:sgd P x=x:=by unfold sgd;rw[if_neg h1]
  have sy:sgd P y=y-P:=by unfold sgd;rw[if_pos h2]
  have a:A=x:=by rw[hA,sx];unfold yau;rw[if_neg ()]
  have b:B=P-y:=by rw[hB,sy];unfold yau;rw[if_pos ()];lia
  rw[sx,sy,decide_eq_false (show ¬x<0 by lia),decide_eq_true (show y-P<0 by lia)]at hQ;have hQ:Q=0-q:=hQ;have hp:(y-P)*Q=m:=by rw[hQ,hm,b,GT,Gh,<-FV];congr 1;lia
  rw[sx,sy,hp];have hr':(x-m)%P=r:=by rw[show x-m=r by lia];exact AM () ()
  refine#[λhn=>?_,λ_ h=>absurd h2 h,λh=>absurd h h1,λh=>by lia];rw[hr',decide_eq_false (show ¬P<=2*r by lia),decide_eq_false h1]
 .have sx:sgd P x=x:=by unfold sgd;rw[if_neg h1]
  have sy:sgd P y=y:=by unfold sgd;rw[if_neg h2]
  have a:A=x:=by rw[hA,sx];unfold yau;rw[if_neg ()]
  have b:B=y:=by rw[hB,sy];unfold yau;rw[if_neg ()]
  rw[sx,sy,decide_eq_false (show ¬x<0 by lia),decide_eq_false (show ¬y<0 by lia)]at hQ;have hQ:Q=q:=hQ;have hp:y*Q=m:=by rw[hQ,hm,b]
  rw[sx,sy,hp];have hr':(x-m)%P=r:=by rw[show x-m=r by lia];exact AM () ()
  refine#[λhn=>?_,λ_ _=>#[?_,?_],λh=>absurd h h1,λh=>by lia]
  .rw[hr',decide_eq_false (show ¬P<=2*r by lia),decide_eq_false h1]
  .rw[hQ,AM () (),<-hq,a,b]
  .rw[hr',<-hr,a,b]
def s5:Cs:=match yaB.body with
 |.cons _ (.cons _ (.cons _ (.cons _ (.cons s _))))=>s
 |_=>.nope
def s6:Cs:=match yaB.body with
 |.cons _ (.cons _ (.cons _ (.cons _ (.cons _ (.cons s _)))))=>s
 |_=>.nope
def tC:Css:=match yaB.body with
 |.cons _ (.cons _ (.cons _ (.cons _ (.cons _ (.cons _ (.cons _ t))))))=>t
 |x=>x
def tD:Css:=match tC with
 |.cons _ (.cons _ (.cons _ (.cons _ (.cons _ t))))=>t
 |x=>x
def tE:Css:=match tD with
 |.cons _ (.cons _ t)=>t
 |x=>x
theorem bt2(i j:Nat)(a b:PV)(U:IC.Env):yU (.t [i,j]) (.tp AB [a,b]) U=AA ((U.set i (AA a)).set j (AA b)):=rfl
def zkX(ds es:List Int):yP .ne (.tp AB [.tp AB (ds.map .int),.tp AB (es.map .int)]) (.tp AB [.tp AB (ds.map .int),.tp AB (es.map .int)])=AA (.bl AB):=by
 have h:∀ds es:List Int,shp (.tp AB [.tp AB (ds.map .int),.tp AB (es.map .int)])=true:=λds es=>by show (ybt 58 (ds.map .int)&&(ybt 58 (es.map .int)&&AC))=AC;rw[zbt,zbt];rfl
 show (if (shp _&&shp _)=AC then AA (PV.bl (!(ybX (ds.map .int) (ds.map .int)&&(ybX (es.map .int) (es.map .int)&&AC))))else AD)=_;rw[h,zbj,zbj];rfl
def zo4{A B:List Int}{m:Nat}(ha:A.length=m)(hb:B.length=m)(h:m=1 \/ m=2 \/ m=3 \/ m=4):ycE (.tp AB ((A++B).map .int)) AD (.int m)=AA (.tp AB (A.map .int)):=by
 rcases h with rfl|rfl|rfl|rfl
 .match A,B,ha,hb with
  |[a],[b],_,_=>exact rfl
 .match A,B,ha,hb with
  |[a,a2],[b,b2],_,_=>exact rfl
 .match A,B,ha,hb with
  |[a,a2,a3],[b,b2,b3],_,_=>exact rfl
 .match A,B,ha,hb with
  |[a,a2,a3,a4],[b,b2,b3,b4],_,_=>exact rfl
section
variable {w n:Nat}(hw:4<=w)(hw2:w<=16)(hn:1<=n)(hn2:n<=4){x y:Int}(x0:0<=x)(x1:x<2^(w*n))(st:SO)
include hw hw2 hn hn2
theorem nums(V:Int):yd T 24 yjb [.tp AB ((yg (2^w) n V).map .int),.int w,.int n] st=.ok (.bl AC) st/\(0<=V->V<2^(w*n)->(∀k s,yd T (k+1) yes [.tp AB ((yg (2^w) n V).map .int),.int w] s=.ok (.int V) s)/\yd T 24 yiw [.tp AB ((yg (2^w) n V).map .int),.int w] st=.ok (.int (bi (decide (2^(w*n)<=2*V)))) st):=by
 have hW:(0:Int)<2^w:=AY ();have hp:(2:Int)^(w*n)=(2^w:Int)^n:=CU;refine#[number 21 _ hw2 (zff hW _ _) (zE _ _ _) () st,λa b=>#[λk s=>?_,?_]]
 .have f:yd T (k+1) yes [.tp AB ((yg (2^w) n V).map .int),.int w] s=_:=zkR k _ w hw2 (zff hW _ _) (by rw[zE];lia) s;rw[zgR hW _ _ a (by rw[<-hp];exact b)]at f;exact f
 .obtain⟨m,rfl⟩:∃m,n=m+1:=#[n-1,by lia];rw[hp]at b ⊢;exact zhx 23 () a b st
def zr8{n0:Nat}{ns:List Int}(hns:ns.length<=1000)(h:Drw ns n0 st)(x0:0<=x)(x1:x<2^(w*n)){p0 a b c d e:Option PV}:∃x' s',0<=x'/\x' < 2^(w*n)/\Drw ns n0 s'/\ex (yd T 24) [p0,AA (.loc n0),AA (.int n),AA (.int w),AA (.int x),a,b,c,d,e] st s5=.nx [p0,AA (.loc n0),AA (.int n),AA (.int w),AA (.int x'),a,b,c,d,e] s':=by
 have hP0:(0:Int)<2^(w*n):=AY ⋯;let#[t,s1,t0,t1,o1,e1]:=zqX 21 hns (m:=2) () () h;have h1:=o1.drw h;have e1:yd T 24 yet [.loc n0,.int 2] st=.ok (.int t) s1:=e1
 by_cases ht:t=1
 .subst ht;have e2:yd T 24 yhx [.int ((w*n:Nat):Int)] s1=_:=zdx 23 (w*n) (by have:=Ad hw2 hn2;lia) s1;have m1:=zfC w n ();have m2:yI .mod (.int (0-x)) (.int (2^(w*n)))=AA (.int ((0-x)%2^(w*n))):=zhD hP0;refine#[(0-x)%2^(w*n),s1,Ab _ (),AX _ hP0,h1,?_];generalize ((w*n:Nat):Int)=K,(2:Int)^(w*n)=P at *;simp! [s5,yaB,e1,e2,m1,m2,Ca,beq_self_eq_true]
 .have hb:(t==1)=false:=beq_eq_false_iff_ne.2 ht;refine#[x,s1,x0,x1,h1,?_];simp! [s5,yaB,e1,hb]
def zr9{n0:Nat}{ns:List Int}(hns:ns.length<=1000)(h:Drw ns n0 st)(x0:0<=x)(x1:x<2^(w*n))(y0:0<=y)(y1:y<2^(w*n)){p0 b c d e:Option PV}:∃x' y' s',0<=x'/\x' < 2^(w*n)/\0<=y'/\y' < 2^(w*n)/\ex (yd T 24) [p0,AA (.loc n0),AA (.int n),AA (.int w),AA (.int x),AA (.int y),b,c,d,e] st s6=.nx [p0,AA (.loc n0),AA (.int n),AA (.int w),AA (.int x'),AA (.int y'),b,c,d,e] s':=by
 let#[t,s1,t0,t1,o1,e1]:=zqX 21 hns (m:=12) () () h;have h1:=o1.drw h;have h16:=(zgf (Ad hw hn:4*1<=w*n) (Ad hw2 hn2)).2;have e1:yd T 24 yet [.loc n0,.int 12] st=.ok (.int t) s1:=e1
 by_cases ht:t=5
 .subst ht;have e2:yd T 24 yhx [.int ((w*n:Nat):Int)] s1=_:=zdx 23 (w*n) (by have:=Ad hw2 hn2;lia) s1;let#[u,s2,u0,u1,o2,e3]:=zqX 21 hns (m:=2) () () h1;have e3:yd T 24 yet [.loc n0,.int 2] s1=.ok (.int u) s2:=e3;have m1:=zfC w n ();refine#[2^(w*n)/2,2^(w*n)-1-u,s2,by lia,by lia,by lia,by lia,?_];generalize ((w*n:Nat):Int)=K,(2:Int)^(w*n)=P at *;simp! [s6,yaB,e1,e2,e3,m1,Ca,beq_self_eq_true]
 .have hb:(t==5)=false:=beq_eq_false_iff_ne.2 ht;refine#[x,y,s1,x0,x1,y0,y1,?_];simp! [s6,yaB,e1,hb]
variable (y0:0<y)(y1:y<2^(w*n)){X Y Q:Int}(hX:X=sgd (2^(w*n)) x)(hY:Y=sgd (2^(w*n)) y)(hQ:Q=yca X Y){a b:Int}
include x0 x1 y0 y1 hX hY hQ
def zhc:yd T 24 ykn [.int w,.int n,.int x,.int y,.tp AB [.tp AB ((yg (2^w) n (Q%2^(w*n))).map .int),.tp AB ((yg (2^w) n ((X-Y*Q)%2^(w*n))).map .int),.tp AB (([0,bi (decide (2^(w*n)<=2*Q)),a,b]:List Int).map .int)]] st=.ok (.bl AC) st:=by
 have hP0:(0:Int)<2^(w*n):=AY ⋯;have rng:∀v:Int,0<=v%2^(w*n)/\v%2^(w*n)<2^(w*n):=λv=>#[Ab _ (),AX _ hP0];have e2:∀s,yd T 23 yhx [.int ((w*n:Nat):Int)] s=_:=λs=>zdx 22 (w*n) (by have:=Ad hw2 hn2;lia) s;have m1:=zfC w n ();have hT:T ykn=AA yhL:=rfl;have i0:∀(st:SO) (a b c:PV),idxV st (.tp AB [a,b,c]) (.int 0)=AA a:=λ_ _ _ _=>rfl;have i1:∀(st:SO) (a b c:PV),idxV st (.tp AB [a,b,c]) (.int 1)=AA b:=λ_ _ _ _=>rfl;have hnl:nLs [.int w,.int n,.int x,.int y,.tp AB [.tp AB ((yg (2^w) n (Q%2^(w*n))).map .int),.tp AB ((yg (2^w) n ((X-Y*Q)%2^(w*n))).map .int),.tp AB (([0,bi (decide (2^(w*n)<=2*Q)),a,b]:List Int).map .int)]]=true:=by simp[nLs,nL,noLocs_ints]
 rw[show (24:Nat)=23+1 from rfl,zd hT rfl rfl hnl]
 by_cases h2:2*y=2^(w*n)
 .have hb:(2*y==2^(w*n))=true:=beq_iff_eq.2 h2;have m3:yI .mul (.int 2) (.int y)=AA (.int (2*y)):=zaD ();generalize ((w*n:Nat):Int)=K,PV.tp AB ((yg (2^w) n (Q%2^(w*n))).map .int)=A,PV.tp AB ((yg (2^w) n ((X-Y*Q)%2^(w*n))).map .int)=B at *;generalize (2:Int)^(w*n)=P at *;simp! [yhL,e2,m1,m3,hb];rfl
 .have hb:(2*y==2^(w*n))=false:=beq_eq_false_iff_ne.2 h2;have m3:yI .mul (.int 2) (.int y)=AA (.int (2*y)):=zaD ();have m2:yI .mod (.int (0-y)) (.int (2^(w*n)))=AA (.int ((0-y)%2^(w*n))):=zhD hP0;have ey:(0-y)%2^(w*n)=2^(w*n)-y:=by rw[<-B9];exact(AM () ()).trans ()
  have hY':-Y=sgd (2^(w*n)) ((0-y)%2^(w*n)):=by rw[znw () y1 h2,hY]
  have hY0:Y≠0:=by rw[hY];unfold sgd;split<;>lia
  have hQ':-Q=yca X (-Y):=by rw[zlZ X Y hY0,hQ]
  let#[c,d,e3]:=zrn 0 hw hw2 hn hn2 x0 x1 [] (y:=(0-y)%2^(w*n)) () () hX hY' hQ';let#[ms,e4]:=zoM 0 hw hw2 hn hn2 (x:=Q%2^(w*n)) (rng Q).1 (rng Q).2 []
  replace e3:yd T 23 yl _ []=_:=e3
  replace e4:yd T 23 yl _ []=_:=e4
  have hm:(0-Q%2^(w*n))%2^(w*n)=-Q%2^(w*n):=by have e:=As Q (2^(w*n));rw[show 0-Q%2^(w*n)=-Q+2^(w*n)*(Q/2^(w*n))by lia,B5]
  have hr:X - -Y * -Q=X-Y*Q:=by rw[Int.neg_mul_neg]
  rw[hm]at e4;rw[hr]at e3;have f1:=((nums hw hw2 hn hn2 [] (Q%2^(w*n))).2 (rng Q).1 (rng Q).2).1 22 []
  replace f1:yd T 23 yes _ []=_:=f1
  have q1:=zjJ (yg (2^w) n (-Q%2^(w*n)));have q2:=zjJ (yg (2^w) n ((X-Y*Q)%2^(w*n)));generalize ((w*n:Nat):Int)=K,PV.tp AB ((yg (2^w) n (Q%2^(w*n))).map .int)=A,PV.tp AB ((yg (2^w) n ((X-Y*Q)%2^(w*n))).map .int)=B,PV.tp AB ((yg (2^w) n (-Q%2^(w*n))).map .int)=C,(0-y)%(2:Int)^(w*n)=y' at *;generalize Q%(2:Int)^(w*n)=Q',PV.tp AB (([0,bi (decide (2^(w*n)<=2*Q)),a,b]:List Int).map .int)=M at *;generalize (2:Int)^(w*n)=P at *;simp! [yhL,e2,m1,m2,m3,hb,e3,e4,f1,i0,i1,q1,q2];rfl
def zq8:yg (2^w) (2*n) (sgd (2^(w*n)) (Q%2^(w*n))*sgd (2^(w*n)) y%(2^w:Int)^(2*n))=yg (2^w) n (Q*Y%2^(w*n))++yg (2^w) n (sgd (2^(w*n)) (Q%2^(w*n))*sgd (2^(w*n)) y%(2^w:Int)^(2*n)/(2^w:Int)^n)/\(Q*Y%2^(w*n)+(X-Y*Q)%2^(w*n))%2^(w*n)=x:=by
 have hW:(0:Int)<2^w:=AY ();have hp:(2:Int)^(w*n)=(2^w:Int)^n:=CU;have hP0:(0:Int)<2^(w*n):=AY ⋯;let#[_,_,q,hq]:=zjf (T:=2^(w*n)) (x:=Q%2^(w*n)) (Ab _ ()) (AX _ hP0);let#[_,_,r,hr]:=zjf (T:=2^(w*n)) x0 x1;have e:=As Q (2^(w*n));constructor
 .have h1:sgd (2^(w*n)) (Q%2^(w*n))*sgd (2^(w*n)) y%2^(w*n)=Q*Y%2^(w*n):=by rw[<-hY,hq,show Q%2^(w*n)+2^(w*n)*q=Q+2^(w*n)*(q-Q/2^(w*n))by rw[CG];lia,Ay,Ae,B5]
  have h2:sgd (2^(w*n)) (Q%2^(w*n))*sgd (2^(w*n)) y%(2^w:Int)^(2*n)%(2^w:Int)^n=Q*Y%2^(w*n):=by rw[FX _ #[(2^w:Int)^n,by rw[show 2*n=n+n by lia,FW]],<-hp,h1]
  rw[show 2*n=n+n by lia]at h2 ⊢;rw[ze9 hW,<-zfO hW n (_%(2^w:Int)^(n+n)),h2]
 .rw[<-Int.add_emod,show Q*Y+(X-Y*Q)=X by rw[A3 Q Y];lia,hX,hr,B5];exact AM x0 x1
def zsa{p0 p1:Option PV}:∃a b:Int,∃bk,exs (yd T 24) [p0,p1,AA (.int n),AA (.int w),AA (.int x),AA (.int y),AD,AD,AD,AD] st tC=exs (yd T 24) [p0,p1,AA (.int n),AA (.int w),AA (.int x),AA (.int y),AA (.tp AB [.tp AB ((yg (2^w) n (Q%2^(w*n))).map .int),.tp AB ((yg (2^w) n ((X-Y*Q)%2^(w*n))).map .int),.tp AB (([0,bi (decide (2^(w*n)<=2*Q)),a,b]:List Int).map .int)]),bk,AD,AD] st tD:=by
 have hP0:(0:Int)<2^(w*n):=AY ⋯;have rng:∀v:Int,0<=v%2^(w*n)/\v%2^(w*n)<2^(w*n):=λv=>#[Ab _ (),AX _ hP0];let#[w1,w2]:=zq8 hw hw2 hn hn2 x0 x1 y0 y1 hX hY hQ;let#[a,b,e1]:=zrn 1 hw hw2 hn hn2 x0 x1 st y0 y1 hX hY hQ;let#[m2,e2]:=zr7 1 hw hw2 hn hn2 (rng Q).1 (rng Q).2 st (show 0<=y by lia) y1 rfl;let#[m3,e3]:=zqP 1 hw hw2 hn hn2 (rng (Q*Y)).1 (rng (Q*Y)).2 st (rng (X-Y*Q)).1 (rng (X-Y*Q)).2
 replace e1:yd T 24 yl _ st=_:=e1
 replace e2:yd T 24 yl _ st=_:=e2
 replace e3:yd T 24 yl _ st=_:=e3
 rw[w2]at e3;have c1:=zo4 (m:=n) (zE (2^w:Int) n (Q*Y%2^(w*n))) (zE (2^w:Int) n (sgd (2^(w*n)) (Q%2^(w*n))*sgd (2^(w*n)) y%(2^w:Int)^(2*n)/(2^w:Int)^n)) ();rw[<-w1]at c1;let#[n1,f1]:=nums hw hw2 hn hn2 st (Q%2^(w*n));let#[n2,f2]:=nums hw hw2 hn hn2 st ((X-Y*Q)%2^(w*n));let#[n3,f3]:=nums hw hw2 hn hn2 st (Q*Y%2^(w*n));have f1:yd T 24 yes _ st=_:=(f1 (rng _).1 (rng _).2).1 23 st;have f2:yd T 24 yes _ st=_:=(f2 (rng _).1 (rng _).2).1 23 st;have f3:yd T 24 yes _ st=_:=(f3 (rng _).1 (rng _).2).1 23 st;have wd:yd T 24 yix [.int x,.int w,.int n] st=.ok (.tp AB ((yg (2^w) n x).map .int)) st:=words 22 x w n hw2 () st;have i0:∀(st:SO) (a b c:PV),idxV st (.tp AB [a,b,c]) (.int 0)=AA a:=λ_ _ _ _=>rfl;have i1:∀(st:SO) (a b c:PV),idxV st (.tp AB [a,b,c]) (.int 1)=AA b:=λ_ _ _ _=>rfl;have o0:ycd .non=AA none:=rfl;have q1:=zlW (yg (2^w) n x)
 have hb:tC=(match tC with
  |.cons a (.cons b (.cons c (.cons d (.cons e _))))=>.cons a (.cons b (.cons c (.cons d (.cons e tD))))
  |x=>x):=rfl
 refine#[a,b,AA (.tp AB ((yg (2^w) n (Q*Y%2^(w*n))).map .int)),?_];rw[hb];generalize tD=F,PV.tp AB (([0,bi (decide (2^(w*n)<=2*Q)),a,b]:List Int).map .int)=M,PV.tp AB ((yg (2^w) (2*n) (sgd (2^(w*n)) (Q%2^(w*n))*sgd (2^(w*n)) y%(2^w:Int)^(2*n))).map .int)=v0,PV.tp AB ((yg (2^w) n (Q%2^(w*n))).map .int)=v1,PV.tp AB ((yg (2^w) n ((X-Y*Q)%2^(w*n))).map .int)=v2,PV.tp AB ((yg (2^w) n (Q*Y%2^(w*n))).map .int)=v3,PV.tp AB ((yg (2^w) n x).map .int)=v4 at *;simp! [tC,yaB,e1,e2,e3,n1,n2,n3,f1,f2,f3,wd,i0,i1,o0,onP,c1,q1]
def zsb{p0 p1 bk:Option PV}:exs (yd T 24) [p0,p1,AA (.int n),AA (.int w),AA (.int x),AA (.int y),AA (.tp AB [.tp AB ((yg (2^w) n (Q%2^(w*n))).map .int),.tp AB ((yg (2^w) n ((X-Y*Q)%2^(w*n))).map .int),.tp AB (([0,bi (decide (2^(w*n)<=2*Q)),a,b]:List Int).map .int)]),bk,AD,AD] st tD=exs (yd T 24) [p0,p1,AA (.int n),AA (.int w),AA (.int x),AA (.int y),AA (.tp AB [.tp AB ((yg (2^w) n (Q%2^(w*n))).map .int),.tp AB ((yg (2^w) n ((X-Y*Q)%2^(w*n))).map .int),.tp AB (([0,bi (decide (2^(w*n)<=2*Q)),a,b]:List Int).map .int)]),bk,AA (.tp AB [.int (bi (decide (2^(w*n)<=2*x))),.int (bi (decide (2^(w*n)<=2*y)))]),AD] st tE:=by
 have hP0:(0:Int)<2^(w*n):=AY ⋯;have rng:∀v:Int,0<=v%2^(w*n)/\v%2^(w*n)<2^(w*n):=λv=>#[Ab _ (),AX _ hP0];let#[g1,_]:=zgv (Q:=Q) x0 x1 y0 y1 (by rw[hQ,hX,hY]);rw[<-hX,<-hY]at g1;let#[f2,f3]:=(nums hw hw2 hn hn2 st ((X-Y*Q)%2^(w*n))).2 (rng _).1 (rng _).2;have f2:yd T 24 yes _ st=_:=f2 23 st;have f6:=((nums hw hw2 hn hn2 st x).2 x0 x1).2;have f7:=((nums hw hw2 hn hn2 st y).2 () y1).2;have wd:∀v,yd T 24 yix [.int v,.int w,.int n] st=.ok (.tp AB ((yg (2^w) n v).map .int)) st:=λv=>words 22 v w n hw2 () st;have w1:=wd x;have w2:=wd y;have i1:∀(st:SO) (a b c:PV),idxV st (.tp AB [a,b,c]) (.int 1)=AA b:=λ_ _ _ _=>rfl;have j0:∀(st:SO) (a b:PV),idxV st (.tp AB [a,b]) (.int 0)=AA a:=λ_ _ _=>rfl
 have hb:tD=(match tD with
  |.cons a (.cons b _)=>.cons a (.cons b tE)
  |x=>x):=rfl
 rw[hb]
 clear wd hb
 generalize tE=F,PV.tp AB (([0,bi (decide (2^(w*n)<=2*Q)),a,b]:List Int).map .int)=M,PV.tp AB ((yg (2^w) n (Q%2^(w*n))).map .int)=v1,PV.tp AB ((yg (2^w) n ((X-Y*Q)%2^(w*n))).map .int)=v2,PV.tp AB ((yg (2^w) n x).map .int)=v4,PV.tp AB ((yg (2^w) n y).map .int)=v5 at *;generalize (X-Y*Q)%2^(w*n)=R at *
 by_cases hR:R=0
 .have b1:(R==0)=true:=beq_iff_eq.2 hR;simp! [tD,tC,yaB,w1,w2,f6,f7,i1,f2,b1]
 .have b1:(R==0)=false:=beq_eq_false_iff_ne.2 hR;rw[g1 hR]at f3;simp! [tD,tC,yaB,w1,w2,f6,f7,i1,f2,b1,f3,j0,beq_self_eq_true]
def zsc{p0 p1 bk:Option PV}:exs (yd T 24) [p0,p1,AA (.int n),AA (.int w),AA (.int x),AA (.int y),AA (.tp AB [.tp AB ((yg (2^w) n (Q%2^(w*n))).map .int),.tp AB ((yg (2^w) n ((X-Y*Q)%2^(w*n))).map .int),.tp AB (([0,bi (decide (2^(w*n)<=2*Q)),a,b]:List Int).map .int)]),bk,AA (.tp AB [.int (bi (decide (2^(w*n)<=2*x))),.int (bi (decide (2^(w*n)<=2*y)))]),AD] st tE=.rt (.bl AC) st:=by
 have hP0:(0:Int)<2^(w*n):=AY ⋯;have rng:∀v:Int,0<=v%2^(w*n)/\v%2^(w*n)<2^(w*n):=λv=>#[Ab _ (),AX _ hP0];let#[_,g2,g3,g4]:=zgv (Q:=Q) x0 x1 y0 y1 (by rw[hQ,hX,hY]);rw[<-hX,<-hY]at g2;have tt:=zhc hw hw2 hn hn2 x0 x1 st y0 y1 hX hY hQ (a:=a) (b:=b);have f1:=((nums hw hw2 hn hn2 st (Q%2^(w*n))).2 (rng _).1 (rng _).2).2;let#[m4,e4]:=zqb 1 hw hw2 hn hn2 x0 x1 st y0 y1
 replace e4:yd T 24 yl _ st=_:=e4
 have cc:∀a b c d:Int,yP .eq (.tp AB [.int a,.int b]) (.tp AB [.int c,.int d])=AA (.bl ((a==c)&&(b==d))):=λa b c d=>congrArg (λx=>AA (PV.bl ((a==c)&&x))) (Cn _);have i0:∀(st:SO) (a b c:PV),idxV st (.tp AB [a,b,c]) (.int 0)=AA a:=λ_ _ _ _=>rfl;have i2:∀(st:SO) (a b c:PV),idxV st (.tp AB [a,b,c]) (.int 2)=AA c:=λ_ _ _ _=>rfl;have k1:∀(st:SO) (m:Int),idxV st (.tp AB (([0,m,a,b]:List Int).map .int)) (.int 1)=AA (.int m):=λ_ _=>rfl;have c2:∀a b c:PV,ycE (.tp AB [a,b,c]) AD (.int 2)=AA (.tp AB [a,b]):=λ_ _ _=>rfl;have o0:ycd .non=AA none:=rfl;have ib:∀(st:SO) (b:Bool),yaE .int st [.bl b]=AA (.int (bi b)):=λ_ b=>by cases b<;>rfl
 have q1:=zkX (yg (2^w) n (x/y)) (yg (2^w) n (x%y));have z0:bi AB=0:=rfl;have z1:bi AC=1:=rfl;have k1:=k1 st (bi (decide (2^(w*n)<=2*Q)))
 by_cases h1:(2:Int)^(w*n)<=2*x<;>by_cases h2:(2:Int)^(w*n)<=2*y
 .rw[g3 h1 h2]at f1 tt ⊢;rw[decide_eq_true h1,decide_eq_true h2]
  cases hq:decide ((2:Int)^(w*n)<=2*Q)
  all_goals
   rw[hq]at f1 tt k1;generalize PV.tp AB ((yg (2^w) n Q).map .int)=v1,PV.tp AB ((yg (2^w) n ((X-Y*Q)%2^(w*n))).map .int)=v2,PV.tp AB (HG _ [0,bi _,a,b])=M at *;simp! [tE,tD,tC,yaB,z0,z1,cc,Ca,Cn,EX,f1,i0,i2,k1,ib,tt,beq_self_eq_true]
 .have hq:¬(2:Int)^(w*n)<=2*Q:=λh=>h2 (g4 h).2;rw[decide_eq_true h1,decide_eq_false h2];rw[decide_eq_false hq]at tt k1 ⊢;generalize PV.tp AB ((yg (2^w) n (Q%2^(w*n))).map .int)=v1,PV.tp AB ((yg (2^w) n ((X-Y*Q)%2^(w*n))).map .int)=v2,PV.tp AB (HG _ [0,bi _,a,b])=M at *;simp! [tE,tD,tC,yaB,z0,z1,cc,Ca,Cn,EX,i0,i2,k1,ib,tt,beq_self_eq_true]
 .have hq:¬(2:Int)^(w*n)<=2*Q:=λh=>h1 (g4 h).1;rw[decide_eq_false h1,decide_eq_true h2];rw[decide_eq_false hq]at tt k1 ⊢;generalize PV.tp AB ((yg (2^w) n (Q%2^(w*n))).map .int)=v1,PV.tp AB ((yg (2^w) n ((X-Y*Q)%2^(w*n))).map .int)=v2,PV.tp AB (HG _ [0,bi _,a,b])=M at *;simp! [tE,tD,tC,yaB,z0,z1,cc,Ca,Cn,EX,i0,i2,k1,ib,tt,beq_self_eq_true]
 .have hq:¬(2:Int)^(w*n)<=2*Q:=λh=>h1 (g4 h).1;let#[a1,a2]:=g2 h1 h2;rw[decide_eq_false h1,decide_eq_false h2];rw[decide_eq_false hq]at tt k1 ⊢;rw[<-a1,<-a2]at e4 q1;generalize PV.tp AB ((yg (2^w) n (Q%2^(w*n))).map .int)=v1,PV.tp AB ((yg (2^w) n ((X-Y*Q)%2^(w*n))).map .int)=v2,PV.tp AB (HG _ [0,bi _,a,b])=M at *;simp! [tE,tD,tC,yaB,z0,z1,cc,Ca,Cn,EX,i0,i2,k1,ib,tt,e4,c2,o0,onP,q1,beq_self_eq_true]
end
def zhr(l:List Int):nLs [PV.scr (l.map .int)]=true:=by simp[nLs,nL,noLocs_ints]
def zjY(ns:List Int)(hns:ns.length<=63):yd T 25 yiy [.scr (ns.map .int)] []=.ok (.bl AC) []:=by
 let#[o,e1,ho]:=fresh 23 ns hns [];have h0:Drw ns 0 [o]:=#[0,0,AB,by lia,by rw[ho];rfl];have hl:ns.length<=1000:=by lia
 let#[d,s1,d0,d1,o1,e2]:=zqX 21 hl (m:=4) () () h0;have h1:=o1.drw h0;let#[n,hn]:=zdK (show 0<=1+d by lia);have hn1:1<=n:=by lia
 have hn2:n<=4:=by lia
 have hq:=zgh (i:=32) (j:=(n:Int)) () ();obtain⟨q,hqq⟩:∃q:Int,(32:Int)/n=q:=#[_,rfl];have hq1:n=1/\q=32 \/ n=2/\q=16 \/ n=3/\q=10 \/ n=4/\q=8:=by rcases (by lia:n=1 \/ n=2 \/ n=3 \/ n=4)with z|z|z|z<;>subst z<;>simp at hqq<;>lia
 rw[hqq]at hq;have hm:=min1 (a:=13) (b:=q-3) s1;obtain⟨m,hmm⟩:∃m:Int,(if q-3<13 then q-3 else 13)=m:=#[_,rfl];rw[hmm]at hm;have hm1:0<m/\m<=13:=by split at hmm<;>lia
 let#[t,s2,t0,t1,o2,e3]:=zqX 21 hl (m:=m) () () h1;have h2:=o2.drw h1;let#[w,hw]:=zdK (show 0<=4+t by lia);have hw1:4<=w:=by lia
 have hw2:w<=16:=by lia
 let#[x,y,s3,x0,x1,y0,y1,o3,e4]:=two 19 hl w n hw1 hw2 hn1 hn2 h2;have h3:=o3.drw h2;have h16:=(zgf (Ad hw1 hn1:4*1<=w*n) (Ad hw2 hn2)).2;let#[x',s4,x0,x1,h4,e5]:=zr8 hw1 hw2 hn1 hn2 s3 hl h3 x0 x1 (p0:=AA (.scr (ns.map .int))) (a:=AA (.int y)) (b:=AD) (c:=AD) (d:=AD) (e:=AD);let#[x'',y',s5',x0,x1,y0,y1,e6]:=zr9 hw1 hw2 hn1 hn2 s4 hl h4 x0 x1 y0 y1 (p0:=AA (.scr (ns.map .int))) (b:=AD) (c:=AD) (d:=AD) (e:=AD);have hmx:=zro (a:=1) (b:=y') s5';obtain⟨z,hz,z0,z1⟩:∃z:Int,(if 1<y' then y' else 1)=z/\0<z/\z<2^(w*n):=#[_,rfl,by split<;>lia,by split<;>lia];rw[hz]at hmx;let#[a,b,bk,g1]:=zsa hw1 hw2 hn1 hn2 x0 x1 s5' z0 z1 rfl rfl rfl (p0:=AA (.scr (ns.map .int))) (p1:=AA (.loc 0));have g2:=zsb hw1 hw2 hn1 hn2 x0 x1 s5' z0 z1 rfl rfl rfl (a:=a) (b:=b) (p0:=AA (.scr (ns.map .int))) (p1:=AA (.loc 0)) (bk:=bk);have g3:=zsc hw1 hw2 hn1 hn2 x0 x1 s5' z0 z1 rfl rfl rfl (a:=a) (b:=b) (p0:=AA (.scr (ns.map .int))) (p1:=AA (.loc 0)) (bk:=bk);rw[g2,g3]at g1;have hT:T yiy=AA #[1,10,AC,yaB.body]:=rfl
 have hb:yaB.body=(match yaB.body with
  |.cons a (.cons b (.cons c (.cons d (.cons _ (.cons _ (.cons e _))))))=>.cons a (.cons b (.cons c (.cons d (.cons s5 (.cons s6 (.cons e tC))))))
  |x=>x):=rfl
 rw[zd hT rfl rfl (zhr ns)];dsimp only;rw[hb];have e1:yd T 24 yi8 [.scr (ns.map .int)] []=.ok (.loc 0) [o]:=e1;have E2:yd T 24 yet [.loc 0,.int 4] [o]=_:=e2;have E3:yd T 24 yet [.loc 0,.int m] s1=_:=e3;have E4:yd T 24 yjc [.loc 0,.int w,.int n] s2=.ok (.tp AB [.int x,.int y]) s3:=e4
 clear g2 g3 hb
 generalize tC=F,s5=F5,s6=F6 at *;simp! [yaB,e1,E2,hn,hq,hm,E3,hw,bt2,E4,e5,e6,hmx,g1,zpM]
theorem walk{l:Ep}{q:Af}{loose:List AQ}{XP:(AQ->Option AG)->BR->Prop}{YP:Au->BR->Prop}{d:DefRec}{K:Params->AE}(hn:l.most=AA 63)(hdf:d.params.defaults=[])
  (hY:∀(w:Au) (h:BR),YP w h->(K w.params).In h)
  (F:∀(w:Au) (mg:AQ->Option AG) (fa:AI) (h:BR),(K w.params).In h->h.Ns mainGlobals mg->mg d.name=AA (.ref fa) ->
   ∃fd:BQ,(∀(s:AJ) (u:AG),F0 s fd #[[u],[]] [("_law_script",u)])/\∀base:BR,(K w.params).In base->base.Ns mainGlobals mg->yaW l.prog w (K w.params) mg base (CX1 l.prog w) (2*25) fa fd ["_law_script"] (spX (K w.params) (yd T 25) yiy)):
  Gr q loose XP YP l.row.toRowW d [] (λf vs=>HB f vs):=
 L2.walk_of (n:=63) (k:=2*25) (x:="_law_script") (CX:=λw=>CX1 l.prog w) (sp:=λw=>spX (K w.params) (yd T 25) yiy) hn ⋯ hdf #[rfl,by decide,by decide] hY F (λw H a ns hl _ hS=>ziD zjY hl hS) λ_ _ _ _ _ z=>zp5 z
end WK
end
open PySem PySem.W PyProof.Rows
theorem PySem.Challenge.cw_widewords_k46_whole_signed_quotients_holds : PySem.Challenge.rw_widewords_k46_whole_signed_quotients.Holds := by
 refine hh.hd (by rfl) (by rfl) (by rfl) ?_
 k_fill
 refine WK.walk (l:=PySem.Challenge.rw_widewords_k46_whole_signed_quotients) rfl rfl (λw h Y=>Y) ?F
 case F =>
  intro w mg fa h KX G hmg
  refine' L2.all_mk2 (t:=WK.tbQ) KX G hmg ?R ?B ?D WK.kb_all ?Ml WK.ok_all WK.T_ok (L:=118) rfl 25
  case R =>
   repeat' (first|exact trivial|apply And.intro|(refine' L2.rowFn ?a9 ?l9 ?c9 ?p9 ?b9;(case a9|l9|c9|p9=>k_is);(case b9=>((repeat intro _);first|rfl|kernel_rfl)))|(refine' L2.rowMe ?z9 ?a9 ?i9 ?l9 ?c9 ?p9 ?b9;(case z9=>((first|rw[WK.cn_20]|rw[WK.cn_21]);k_is));(case a9|i9|l9|c9|p9=>k_is);(case b9=>((repeat intro _);first|rfl|kernel_rfl)))|(refine' L2.rowIni ?z9 ?a9 ?i9 ?l9 ?c9 ?p9 ?b9 ?m9 ?k9;(case z9=>((first|rw[WK.cn_20]|rw[WK.cn_21]);k_is));(case a9|i9|l9|c9|p9=>k_is);(case b9=>((repeat intro _);first|rfl|kernel_rfl));(case m9|k9=>k_is))|(refine' L2.rowFd ?a9 ?l9 ?c9 ?p9 ?d9 ?e9 ?v9;(case a9|l9|c9|p9|d9=>k_is);(case e9=>rfl);(case v9=>(repeat first|exact .nil|refine .cons ⟨_,rfl⟩ ?_))))
  case B=>kernel_rfl
  case D =>
   repeat' (first|exact trivial|apply And.intro|intro _|(refine' L2.gd_mk KX G ?a9 ?l9 ?s9 ?r9 ?n9;(case a9|l9=>k_is);(case s9=>rfl);(case r9=>(repeat first|exact .nil|refine L2.con_row (by kernel_rfl) ?_));(case n9=>decide +kernel)))
  case Ml =>
   repeat' (first|exact trivial|apply And.intro|(refine' L2.gdf_mk KX G ?a9 ?l9 ?r9 ?n9;(case a9|l9=>k_is);(case r9=>(repeat first|exact .nil|refine L2.frow_cons (by kernel_rfl) ?_));(case n9=>decide +kernel)))
