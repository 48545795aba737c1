import PyProof.Rows.All
import OpenK.KLine
import Open.Tops
import Wide.FinOn
import KE.KRevSl
import KE.KItem
import KE.KxWritten
import KE.KFromBytes
import KE.LcSums
import KE.KBits
import KE.KTryMore
import PySem.Challenge.RW_widewords_k43_quotients_reckoned
set_option Elab.async false
set_option linter.all false
set_option maxRecDepth 100000
set_option maxHeartbeats 0
local macro_rules
 | `(#print $s:str)=>do
  let n:=fun (x:Lean.Name)=>Lean.mkIdent (.mkSimple s!"tw{x.hash}")
  let mut a:=#[n `PySem.Challenge.pw_widewords_k43_quotients_reckoned]
  for e in s.getString.splitOn "|" do
   let f:=e.splitOn " "
   let mut p:=0
   for r in f.tail! do
    let g:=(r.splitOn ".").map String.toNat!
    p:=p+g[0]!
    for j in [0:g.getD 1 0+1] do a:=a.push (n (.mkStr2 "sh" (f[0]!++toString (p+j))))
    p:=p+g.getD 1 0
  `(structure $(Lean.mkIdent `PySem.W.Fast):declId:Prop where ($a*:True))
set_option genSizeOf false
set_option genInjectivity false
#print "o_ 3 2 4 3.1 2.2 4 2 3 3.1 2.1 4 2 3 3.1 2.1 4 2 3 3.1 2.1 4 2 3 3.1 2.1 4 2 3 3.1 2.1 4 2 3 3.1 2.1 4 2 3 3.1 2.1 22 2.2 5.2 2 4.2 3 2.2 4 2.2 4 2.2 4 2.2 3 2.2 5.2 5.2 5.2 3 2.2 3 2.2 2 4 2.2 9 2.2 3 2.2 5.2 5.2 11.2 3 2.2 3 2.2 3 8.2 5.2 3 2.2 5.2 3 2.2 3 2.2 5.2 3 2.2 5.2 3.2 5.2 2 6.2 5.2 5.2 3 2.2 5.2 5.2 5.2 17.2 3 2.2 2 6.2 5.2 5.2 5.2 5.2 3 2.2 3 2.2 5.2 3 2.2 5.2 3 2.2 3 2.2 3 2.2 2 6.2 3 2.2 3 2.2 3 2.2 3 2.2 2 2.1 17.2 5.2 3 2.2 5.2 3 2.2 4 6.2 5.2 5.2 3.2 3 2.2 3 2.2 3.2 5.2 2 4 3.1 3 2.2 3 2.2 3 2.2 3 2.2 3.2 5.2 3 2.6 5 6.2 3.2 3 2.2 3.2 3 2.2 5.2 3 2.9 5.2 3 2.2 5.2 2 6.2 5.2 5.2 5.2 5.2 3 2.2 5.2 3 2.2 3 2.2 3 2.2 3 2.2 2 4 2.2 3 2.2 3 2.2 3 2.2 3 2.3 4 4 3.1 5.2 3 2.2 3 2.2 5.2 5.2 3 2.2 5.2 5.2 3 2.2 3 2.5 6 6.2 5.2 3 2.2 5.2 3.2 3 2.2 3 2.2 3 2.2 5.2 3 2.2 5.2 5.2 2 6.2 5.2 5.2 5.2 5.2 5.2 5.2 5.2 5.2 3 2.2 2 6.2 3 2.2 5.2 3 2.2 3 2.2 2 2 3 2.2 3 2.2 3.2 4 6.2 3 2.2 3 2.2 3 2.2 3 2.2 3 2.2 3 2.2 3 2.2 3 2.2 5.2 3.2 3.2 2 4 2.2 3 2.2 3 2.2 3 2.2 3 2.2 3 2.2 3 2.2|sts_ 4 17 16 16 16 16 16 16 47 81 72 80 78 94 38 54 55 64 76 80 41 87 85 73 38 25 83|tree_ 19 16 16 16 16 16 16 47 81 72 80 78 94 38 52 57 64 76 80 39 89 85 73 38 23 85 52"
set_option genSizeOf true
set_option genInjectivity true
open_shared sh for PySem.Challenge.pw_widewords_k43_quotients_reckoned leaving 0
namespace hh
open PySem PySem.W PySem.Calls PyProof.Rows
noncomputable abbrev p:=PySem.Challenge.pw_widewords_k43_quotients_reckoned
abbrev z:Pos:=⟨0,0,0,0⟩
abbrev an:Option Value:=some (.ref 6)
noncomputable abbrev bE:=behindTheImports p
noncomputable abbrev cE:Code:=.body bE sh.env_1
noncomputable abbrev H1(P:Params):Heap:=absHeap (sh.tree_1418 P) 1336 {}
noncomputable abbrev S0(w:World)(os:OsState):Shared:=⟨boot_heap w.params,⟨[]⟩,boot_drawn,boot_toks,os⟩
noncomputable abbrev Sb(w:World)(os:OsState):Shared:=SharedT.abs ⟨sh.tree_4 w.params,15,{},⟨[]⟩,{},187,os⟩
noncomputable abbrev Sk(w:World)(os:OsState):Shared:=SharedT.abs ⟨sh.tree_1418 w.params,1336,{},⟨[]⟩,{},2170,os⟩
theorem pre(w os):topGo treeTable p w 11 an 12 (S0 w os) (topStub p)=some (Sb w os,⟨denote treeTable cE,cE,z,[topFrame z]⟩):=by kernel_rfl
theorem blk(w os):segRun treeTable p w 11 an 1 1 (Sb w os) (blockOf bE sh.env_1 cE z [topFrame z])=some (.next,Sb w os,cE,z):=by kernel_rfl
theorem fin(w os):topRun treeTable p w 11 an 2 (Sk w os) (restOf [] sh.env_1 cE ⟨742,0,760,15⟩ [topFrame z])=some (Sk w os):=by kernel_rfl
theorem bod:bE=sh.sts_4++(sh.sts_21++(sh.sts_37++(sh.sts_53++(sh.sts_69++(sh.sts_85++(sh.sts_101++(sh.sts_117++(sh.sts_164++(sh.sts_245++(sh.sts_317++(sh.sts_397++(sh.sts_475++(sh.sts_569++(sh.sts_607++(sh.sts_661++(sh.sts_716++(sh.sts_780++(sh.sts_856++(sh.sts_936++(sh.sts_977++(sh.sts_1064++(sh.sts_1149++(sh.sts_1222++(sh.sts_1260++(sh.sts_1285++(sh.sts_1368++[])))))))))))))))))))))))))):=by kernel_rfl
theorem run(w os):topRun treeTable p w 11 an (12+(1+(196+(214+(214+(214+(214+(214+(214+(400+(371+(397+(383+(385+(398+(160+(400+(311+(426+(398+(391+(374+(522+(393+(372+(183+(376+(378+(239+2))))))))))))))))))))))))))))) (S0 w os) (topStub p)=some (Sk w os):=by
 refine go_top (pre w os) (piece_block (blk w os) ?_)
 have h:=sh.chain p bE w os [] 2 (Sk w os) (fin w os)
 rw[<-bod] at h
 exact h
noncomputable def q:Program:=view p [234]
noncomputable abbrev lo:List Str:=p.boundNames
theorem look(w:World):(fun os=>((staticsOk (importedModules p.main.body) (boot_heap w.params) (H1 w.params) && namesBound p (H1 w.params) && gensDone (Sk w os) && laidKept (boot_heap w.params) (H1 w.params)),openSeen q lo (importedModules p.main.body) (fun _=>true) true (Sk w os),(Sk w os).heap))=fun _=>(true,openGood q lo,H1 w.params):=by kernel_rfl
theorem left:LeftO p q lo (fun _=>true) Shared.heap (fun w=>H1 w.params) 17546:=.of_pieces (boot_open (by kernel_rfl) (by kernel_rfl) fun s=>by kernel_rfl) (fun w=>by kernel_rfl) run (by kernel_rfl) look
theorem inA{t:BT}{n:Nat}{f:Life}{K:Frag}(h1:K.all (fun x=>Nat.blt x.1 n)=true)(h2:K.map (fun x=>t.get x.1)=K.map fun x=>some x.2)(h3:K.map (fun x=>alive x.2)=K.map fun x=>some x.2):K.In (absHeap t n f):=by
 intro a o e
 induction K with
 | nil=>cases e
 | cons x r ih=>
  obtain ⟨b,y⟩:=x
  simp only[List.map_cons,List.cons.injEq,List.all_cons,Bool.and_eq_true] at h1 h2 h3
  by_cases hb:(a==b)=true
  · rw[List.lookup_cons,hb] at e
    cases e
    have:=beq_iff_eq.mp hb
    subst this
    rw[abs_get (Nat.le_of_ble_eq_true h1.1) h2.1]
    exact h3.1
  · rw[List.lookup_cons,eq_false_of_ne_true hb] at e
    exact ih h1.2 h2.2 h3.2 e
local macro_rules
 | `(panic! $s:str)=>do
  let mut v:=#[]
  let mut p:=0
  let mut q:=0
  for r in s.getString.splitOn " " do
   if let g::l::m:=(r.splitOn ",").map String.toNat! then
    let i:=m.headD (q+g)
    p:=p+g
    for j in [0:l] do v:=v.push (p+j,if i==0 then .str `PySem.W s!"boot_o_{p+j}" else .str `sh s!"o_{i+j}")
    p:=p+l
    q:=i+l
  let mut a ← `(List.nil)
  for (x,o) in v.reverse do a ← `(List.cons (nat_lit $(Lean.Syntax.mkNumLit (toString x)),$(Lean.mkIdent o) P) $a)
  `(fun P=>$a)
noncomputable def KK:Params->Frag:=panic! "2,1,0 0,1,1368 11,1,7 6,2 0,1,119 0,1,17 2,1,24 6,3 2,1,40 6,3 2,1,56 6,3 2,1,72 6,3 2,1,88 6,3 2,1,104 6,3 2,1,120 6,3 2,18 1,2 1,3 1,2 1,2 0,1,166 2,3 1,2 1,4 1,2 1,4 1,2 1,4 1,2 1,3 1,2 1,3 1,2 1,3 1,2 1,3 1,2 1,3 1,2 1,3 1,2 1,2 0,1,247 1,2 1,9 1,2 1,3 1,2 1,3 1,2 1,3 1,2 1,9 1,2 1,3 1,2 1,3 1,2 1,3 0,3,319 1,2 1,3 1,2 1,3 1,2 1,3 1,2 1,3 1,2 1,3 1,2 1,3 1,2 1,3 1,2 1,3 1,2 1,3 2,3 1,2 1,2 0,1,399 1,2 1,3 1,2 1,3 1,2 1,3 1,2 1,3 1,2 1,3 1,2 1,3 1,2 1,15 1,2 1,3 1,2 1,2 0,1,477 1,2 1,3 1,2 1,3 1,2 1,3 1,2 1,3 1,2 1,3 1,2 1,3 1,2 1,3 1,2 1,3 1,2 1,3 1,2 1,3 1,2 1,3 1,2 1,3 1,2 1,2 0,1,571 1,2 1,3 1,2 1,3 1,2 1,3 1,2 1,3 1,2 1,2 0,15,609 1,2 1,3 1,2 1,3 1,2 1,3 1,2 1,3 1,2 1,2 0,1,663 1,2 1,3 1,2 1,3 1,2 1,3 2,3 1,2 1,3 1,2 1,3 2,3 1,2 1,2 7,1,725 1,2 1,3 1,2 1,3 1,2 1,3 1,2 1,3 2,3 1,2 1,3 1,2 1,7 2,1,782 1,2 1,3 2,3 1,2 1,3 2,3 1,2 1,3 1,2 1,3 1,2 1,10 1,2 1,3 1,2 1,3 1,2 1,2 0,1,858 1,2 1,3 1,2 1,3 1,2 1,3 1,2 1,3 1,2 1,3 1,2 1,3 1,2 1,3 1,2 1,3 1,2 1,3 1,2 1,3 1,2 1,2 0,1,938 1,2 1,3 1,2 1,3 1,2 1,3 1,2 1,3 1,2 1,3 7,1,986 1,2 1,3 1,2 1,3 1,2 1,3 1,2 1,3 1,2 1,3 1,2 1,3 1,2 1,3 1,2 1,3 1,2 1,3 1,2 1,7 2,1,1066 1,2 1,3 1,2 1,3 1,2 1,3 1,2 1,3 2,3 1,2 1,3 1,2 1,3 1,2 1,3 1,2 1,3 1,2 1,3 1,2 1,3 1,2 1,2 0,1,1151 1,2 1,3 1,2 1,3 1,2 1,3 1,2 1,3 1,2 1,3 1,2 1,3 1,2 1,3 1,2 1,3 1,2 1,3 1,2 1,2 0,1,1224 1,2 1,3 1,2 1,3 1,2 1,3 1,2 1,3 1,2 1,2 0,2,1262 1,2 1,3 1,2 1,3 2,2 0,1,1287 1,2 1,3 1,2 1,3 1,2 1,3 1,2 1,3 1,2 1,3 1,2 1,3 1,2 1,3 1,2 1,3 1,2 1,3 1,2 1,3 2,3 2,2 0,1,1370 1,2 1,3 1,2 1,3 1,2 1,3 1,2 1,3 1,2 1,3 1,2 1,3 1,2 1,2"
theorem inK(w:World):InK KK w (H1 w.params):=inA (K:=KK w.params) (by kernel_rfl) (by kernel_rfl) (by kernel_rfl)
theorem hd{d:DefRec}{k:List (Str×Expr)}(a:defOf q "law"=some (d,k))(b:p.theDef "law"=some (d.params,d.body,d.scope))(c:kwWritten? d.params.kwonlyargs d.params.kw_defaults=some k)(h:WalkO q lo (fun _ _=>True) (InK KK) PySem.Challenge.rw_widewords_k43_quotients_reckoned.row.toRowW d k fun f vs=>PySem.call f vs):PySem.Challenge.rw_widewords_k43_quotients_reckoned.Holds:=by
 w_on;o_law
 refine holds_open left (YP:=InK KK) (XP:=fun _ _=>True) (fun w s e=>e ▸ inK w) InK.keeps (fun _ _=>trivial) (fun _ _ _ _ _=>trivial) a b c (fun s _=>recFacts_nil rfl) (by rfl) (by assumption) (by decide +kernel) ⟨rfl,rfl,rfl,rfl,rfl,by decide +kernel⟩ ?hw h
 w_witness2
end hh
local macro_rules|`(⋯)=>`((by decide))
local macro_rules|`(∅)=>`((by lia))
set_option compiler.extract_closed false
set_option bootstrap.genMatcherCode false
set_option genSizeOf false
local macro_rules | `(tactic| ac_rfl)=>`(tactic| with_unfolding_all rfl)
open Option renaming some->AA,none->AD,isSome_iff_exists->Az,getD_some->Bi,bind_some->Bj,any_eq_true_iff_get->Cp,map_some->Dp,get_some->FH,getD_none->GT
open Bool renaming true->AB,false->AC,and_eq_true->AK,false_ne_true->BC,false_eq_true->BJ,and_self->Ci,not_eq_true'->Ck,true_and->DB,or_eq_true->DE,eq_iff_iff->Do,true_or->Ey,not_false->FV,false_or->Fc,not_true->Ff,false_and->Gh,or_false->Gy,or_true->HM
open PySem.Str renaming ofString->AE,empty->GQ
open PySem.W renaming Frag->AF,keepIn->Ax,findIn->BA,nsIn->BO,kitOne->B2,fnOf->B5,emptyDict->B8,instObj->CC,codeIn->CM,kia_one->Cg,plainGet->Cq,isFn->Cr,hideAll->DD,callWith_K->DF,hasDictIn->DJ,makesIn->Dj,plainGet_of->Dr,lookIn->EH,methodObj->EV,plainOver->EW,mg_of->Ec,OpenLaw->Em,cellsFrom_some->Es,takerIn->FD,methodCall_KW->FK,hideAll_get->F2,callWith_K0->F6,excIn->Fd,of_hideAll->Fj,handedIn->GP,WalkO->Gd,Rel2->HI
open PySem renaming Value->AG,wpAny_bind->AH,Addr->AI,Shared->AJ,Str->AQ,Expr->AV,wpAny_pure->AX,wpAny->A4,Program->A8,World->An,Around->Au,Heap->BF,FuncData->BG,wpAny_field->BV,wpAny_truthy_bool->BY,Env->B0,wpAny_Call_Name_kw->B1,wpAny_callSpecial?_slot->Bf,Scope->Bn,wpAny_newObj_type->Bp,wpAny_pyIter_tuple->Bs,Stmt->Bz,Obj->CF,DictEntry->CJ,wpAny_passesOwn->CT,Pos->CV,wpAny_mono->C0,IsPair->C2,Keyword->C4,mem_of_lookup->C5,wpAny_call_entry->C6,wpAny_seqItems->C7,wpAny_setField_rec->Cf,NameKind->DL,strKind_is->D4,wpAny_holding->D8,Operator->De,sizeLine_eq->Dh,wpAny_execs_nil->Di,codeAny_mono->Dt,wpAny_pyIter_list->EX,IsZip->EZ,wpAny_standAt->Eb,PassesOwn->Ee,noFill_tuple_add->Ei,wpAny_rule->Eo,IsPart->Et,wpAny_loadName_local->FM,wpAny_setField->FO,wpAny_updateSeq_pair->FP,BindsTo->FZ,wpAny_loadName_cell->F3,CmpOp->F8,seq_tuple_add->F9,wpAny_onRaise->Fe,tupleKind_room_in1->Fp,Within->Fr,concat_meets->Fx,wpAny_sequenceKey->Fy,wpAny_typeOf->Fz,slot_list_getitem->GA,wpAny_pyIter_enum->GF,ZipApart->GH,wpAny_execs_cons->GN,wpAny_pyIter_zip->GZ,wpAny_getItem_of->G0,seqIndex_of->G3,Paired->Ge,wpAny_Name->Gg,Result->Gi,wpAny_call->Gj,typeIs_str->Gm,call->Gn,Sem->Gw,Builtin->HG,BoolOp->HK,Tok->Hf
open List renaming map_cons->AL,getElem?_cons_succ->AM,getElem?_cons_zero->AN,getElem?_set_ne->AO,length_cons->AS,mem_cons->AT,mem_cons_of_mem->AW,size_toArray->A1,mem_of_getElem?->A5,getElem?_set_self->A9,set_cons_zero->Aa,set_cons_succ->Ab,not_mem_nil->Ad,length_append->Ah,replicate->Aj,getElem?_append_left->Ak,cons_append->Ap,getElem?_append_right->Aq,map_nil->Ar,mem_cons_self->BB,length_nil->BD,getElem?_eq_some_iff->BE,length_map->BH,nil_append->BI,mem_append_right->BK,mem_append->BM,any_cons->BP,append_nil->BR,getElem?_eq_none->BW,length_set->B4,append_assoc->B9,all_cons->Bc,lookup_cons->Bg,all_eq_true->Bl,lookup->Bw,getElem?_map->CA,flatMap_cons->CB,find?_cons->CD,map_append->CU,filterMap_cons->C3,length->Ca,range->Cb,getElem?_set->Cj,flatMap_nil->Cv,getElem?_eq_getElem->DC,reverse_cons->DO,filterMap->DP,set_set->DS,length_singleton->DV,mem_iff_getElem?->DX,mem_append_left->Dd,nodup_cons->Dl,foldl_cons->Dn,mem_filterMap->EF,zip_cons_cons->EM,getElem?_eq_none_iff->ER,drop_eq_getElem_cons->ES,pairwise_iff_getElem->ET,ext_getElem?->E8,length_take->Eg,getElem?_replicate->Eh,any_eq_true->Ek,range_succ_eq_map->FA,take_of_length_le->FB,of_mem_zip->FE,forIn_cons->FF,set_getElem_self->FL,length_pos_iff->F7,isEmpty_cons->GG,mem_map->GJ,length_drop->GS,isEmpty_nil->GU,take_length->GV,drop_length->GW,zipIdx_cons->GX,mem_filter->G7,zipIdx_nil->Gb,mem_range->Gf,drop_zero->Gp,forIn_nil->Gq,set_comm->Gx,any_map->HL
open PySem.Heap renaming get?_push_of_some->AR,lt_size->AY,get?_push_size->A2,size_push->By,SameBut->Cc,get?_update_other->DN,get?_update_self->FI,IsTuple->GB,MadeExcOf->Go,FlyingW->HH
open Nat renaming le_refl->AU,lt_of_lt_of_le->A3,pow_le_pow_right->Ac,mul_le_mul->Ag,ne_of_lt->Ao,le_trans->BU,zero_add->BZ,reduceSub->Bo,and_two_pow_sub_one_eq_mod->Bt,reduceAdd->Bu,lt_or_ge->CZ,le_succ->Cm,reduceLeDiff->Cu,lt_irrefl->Cz,zero_le->DH,lt_succ_self->DZ,le_add_right->D3,add_assoc->Da,mod_two_eq_zero_or_one->EO,reduceEqDiff->El,le_of_lt->En,ne_of_gt->Ep,mul_le_mul_right->FT,mul_add->FW,succ_mul->GL,mod_eq_of_lt->G2,le_of_eq->HE,pow_pos->HV,mul_one->HX
open Option.some renaming inj->AZ
open Int renaming emod_eq_of_lt->A6,pow_pos->A7,pow_succ->Ae,mul_comm->Af,emod_lt_of_pos->Ai,mul_assoc->Am,emod_nonneg->As,mul_le_mul_of_nonneg_right->Ay,add_mul->BQ,emod_add_mul_ediv->BX,sub_mul->B3,ediv_eq_zero_of_lt->B6,mul_le_mul_of_nonneg_left->Ba,ediv_lt_of_lt_mul->Bb,ediv_nonneg->Be,one_mul->Bk,add_mul_emod_self_right->Bm,le_of_lt->Br,zero_mul->Bv,add_mul_emod_self_left->CP,lt_of_le_of_lt->CQ,mul_one->CW,toNat_natCast->CY,mul_nonneg->C8,ediv_ediv_of_nonneg->C9,add_comm->Ct,add_emod_right->DG,zero_add->DU,le_ediv_of_mul_le->DY,ediv_le_self->D5,toNat_of_nonneg->Ds,add_zero->Dx,pow_zero->Dy,fdiv_eq_ediv_of_nonneg->EG,lt_of_lt_of_le->EQ,pow_mul->E9,add_mul_ediv_right->FC,mul_sub->FR,natAbs_mul->FU,natCast_emod->G1,mul_add->G5,le_refl->G6,mul_le_mul->Gr,reduceBEq->Gz,ediv_one->HF
open PySem.Value renaming ref->Al,none->CL,bool->EA,int->Ed,type->Fi,str->GM,isStrOf->Gv,isInt->HN,bytes->HP,float->HQ
open PySem.Builtin renaming bitOr->Av,bitAnd->Aw,bitXor->BS,bitNot->FQ
open PyProof.Rows renaming slot_tuple_getitem->BL,callWith_type1->CH,AllBare->D6,assignInOrder_cons->ED,subscriptTail_builtinR->Eu,tupleItemsOf_->F0,IntsAre->F1,entry_tuple_getitem->F4,args_tuple_getitem->Fk,assignInOrder_nil->Ft,callWith_builtin1->GR,boot_isinstance->Ga,iadd_int->Gc,Subscript_->Gk,IsTup->HR
open Ne renaming symm->BN
open PySem.Builtin.SmallTypes renaming nextOf->BT,ownedTupleIsFree->Bd,ownedTupleHandOut->Cy
open PySem.PyData renaming eqv->B7,canLay0->Co,depth->DR,eqvAll->D9,keyHash->EN,canLayAll0->EY,depthAll->FG
open False renaming elim->Bq
open Array renaming length_toList->CG,append_assoc->EB,getElem?_eq_some_iff->EL,toList->HD
open PySem.Challenge renaming rw_widewords_k43_quotients_reckoned->CK,pw_widewords_k43_quotients_reckoned->Dz
open PySem.F renaming slot_tuple_iterator_next->CN,args_tuple_add_2->DA,entry_tuple_add->DI,slot_tuple_add->DM,slot_dict_get->DW,args_tuple_iterator_next_1->Dm,slot_zip_next->Dq,entry_tuple_iterator_next->Du,slot_dict_getitem->EU,args_dict_get_3->Ej,entry_dict_get->Ez,slot_list_append->FJ,args_zip_next_1->GI,entry_zip_next->GY
open PySem.Heap.FunFrames renaming mem->CO
open PySem.Builtin.Slice renaming slicePlaces->CS,sliceAdjust->Cw,sliceApplied->EJ,slicePartIndex->G8,sliceFields->Gu
open PySem.Builtin.Tuple renaming tupleExact->C1,tupleItemsOf->EK
open True renaming intro->Cd
open PySem.NameKind renaming free->Ch,cell->Fa
open PySem.Value.type renaming inj->Cn
open Eq renaming refl->DQ
open Prod.mk renaming injEq->Db,inj->HW
open PySem.Builtin.Str renaming strSliceIndices->Dw,occurrences->Ef
open PySem.Calls renaming Name_function_global->EC,spliced_cons->EI,callWith_builtin->Ex,evalArgs_plain->FN,spliced_nil->Fw
open PySem.Paired renaming length->Ea,snoc->HU
open PySem.Obj renaming mapSeq->Ew,data_mapFields->Fm
open Sum renaming inl->FX,inr->FY
open PySem.Heap.SameBut renaming update->F5
open PyProof.Rows.LSm renaming kept_iter->Fb
open PySem.SeqAt.EqAt renaming int_str->Fg,str_int->Fh
open PySem.ScopeKind renaming function->Fq
open PySem.Around renaming under->Fu
open PySem.Code renaming isFrame->Fv,frames->HS
open PySem.WalksT renaming enumerateD->GE
open PyProof.Rows.IsTup renaming new->GO
open PySem.Shared renaming heap->G4
open ForInStep renaming yield->G9
open PySem.Builtin.Range renaming rangeSize->HA
open PySem.Heap.UpToSlots renaming of_keeps->HB
open And renaming intro->HC
open PySem.SeqAt renaming shaped->HJ,EqAt->Ha
open PySem.W.Looks renaming here->HY
open PySem.Heap.IsSliceOf renaming new->HZ
open PySem.W.WShape renaming has->Hb
open PySem.Walks renaming list->Hc
open PySem.Within renaming cons->Hd
open List.Pairwise renaming nil->He
open PySem.W.WData renaming int->Hg
noncomputable section
open Lean in
def cnvP:Nat->Syntax->MacroM (TSyntax `rcasesPat)
 |0,_=>Macro.throwUnsupported
 |n+1,s=>do
  if s.isOfKind ``Lean.Parser.Term.anonymousCtor then `(rcasesPat| ⟨$[$(← s[1].getSepArgs.mapM (cnvP n)):rcasesPat],*⟩)
  else if s.isIdent then `(rcasesPat| $(⟨s⟩):ident)
  else if s.isOfKind ``Lean.Parser.Term.hole then `(rcasesPat| _)
  else Macro.throwUnsupported
local macro_rules | `(tactic| let $p:term := $e)=>do `(tactic| obtain $(← cnvP 9 p):rcasesPat := $e)
local macro_rules | `(tactic| erw [$rs,*] $(l)?)=>do
 let t<-rs.getElems.mapM λ|`(Lean.Parser.Tactic.rwRule| $t:term)=>`(Lean.Parser.Tactic.simpLemma| $t:term)|_=>Lean.Macro.throwUnsupported
 `(tactic| simp only[$t,*] $(l)?)
local macro_rules | `(fun $bs* => $b)=>do
 if !(bs.any λx=>x.raw.isOfKind ``Lean.Parser.Term.anonymousCtor)||(b.raw.find? λx=>x.isOfKind ``Lean.Parser.Term.syntheticHole).isSome then Lean.Macro.throwUnsupported
 `(by rintro $[$(← bs.mapM λx=>cnvP 9 x.raw):rcasesPat]*;exact $b)
set_option backward.eqns.nonrecursive false
local macro_rules (kind:=Lean.Parser.Command.declaration)
 |s=>do
  let k:=s[1].getKind
  unless (k==``Lean.Parser.Command.definition||k==``Lean.Parser.Command.abbrev)&&s[0].getArgs.all (·.isNone) do Lean.Macro.throwUnsupported
  if k==``Lean.Parser.Command.definition&&(toString s[1][1][0].getId).startsWith "z" then
   let m←`(theorem x:True:=trivial)
   return s.setArg 1 (((m.raw[1].setArg 1 s[1][1]).setArg 2 (Lean.mkNode ``Lean.Parser.Command.declSig #[s[1][2][0],s[1][2][1][0]])).setArg 3 s[1][3])
  let m←`(noncomputable def x:=0)
  return s.setArg 0 m.raw[0]
namespace L2
open PySem PySem.Spec PyProof.Rows
abbrev Key:=Sum Int AQ
def ybM:Key->AG->Bool
 |.inl k,v=>HN k v
 |.inr x,v=>Gv x v
def yf2(w:An):Key->Int
 |.inl k=>hashInt k
 |.inr x=>hashStr w x
def zH:∀{k:Key} {v:AG},ybM k v=AB->(∃i t,k=FX i/\v=Ed i t) \/ (∃x t,k=FY x/\v=GM x t)
 |.inl i,v,h=>by
  let⟨t,e⟩:=Value.isInt_shape (k:=i) (v:=v) h;exact .inl ⟨i,t,rfl,e⟩
 |.inr x,v,h=>by
  let⟨t,e⟩:=Value.isStrOf_shape (x:=x) (v:=v) h;exact .inr ⟨x,t,rfl,e⟩
def zhN(i:Int)(t:Hf):ybM (.inl i) (.int i t)=true:=by simp[ybM,HN]
def zik(x:AQ)(t:Hf):ybM (.inr x) (.str x t)=true:=by simp[ybM,Gv]
def znB(a b:Int):decide ((FX a:Key)=FX b)=(a==b):=by
 by_cases e:a=b
 .subst e;simp
 .have h:¬(FX a:Key)=FX b:=λq=>e (Sum.inl.inj q);rw[decide_eq_false h];exact(beq_eq_false_iff_ne.mpr e).symm
def zno(a b:AQ):decide ((FY a:Key)=FY b)=decide (a=b):=by
 by_cases e:a=b
 .subst e;simp
 .have h:¬(FY a:Key)=FY b:=λq=>e (Sum.inr.inj q);rw[decide_eq_false h,decide_eq_false e]
def zpq(a:Int)(b:AQ):decide ((FX a:Key)=FY b)=false:=decide_eq_false (λq=>nomatch q)
def zpd(a:AQ)(b:Int):decide ((FY a:Key)=FX b)=false:=decide_eq_false (λq=>nomatch q)
def yP(prog:A8)(w:An):PySem.KeyKind prog w Key where
 is:=ybM
 hash:=yf2 w
 inj:=λv a b ha hb=>by
  rcases zH ha with⟨i,t,rfl,rfl⟩|⟨x,t,rfl,rfl⟩
  .rcases zH hb with⟨j,u,rfl,e⟩|⟨y,u,rfl,e⟩
   .injection e with e1 _;rw[e1]
   .exact nomatch e
  .rcases zH hb with⟨j,u,rfl,e⟩|⟨y,u,rfl,e⟩
   .exact nomatch e
   .injection e with e1 _;rw[e1]
 byValue:=λk v h=>by
  rcases zH h with⟨i,t,rfl,rfl⟩|⟨x,t,rfl,rfl⟩<;>rfl
 pyHash:=λhv h=>by
  rcases zH hv with⟨i,t,rfl,rfl⟩|⟨x,t,rfl,rfl⟩
  .exact wpAny_pyHash_int h
  .exact wpAny_pyHash_str h
 eqBool:=λhu hv h=>by
  rcases zH hu with⟨i,t,rfl,rfl⟩|⟨x,t,rfl,rfl⟩
  .rcases zH hv with⟨j,u,rfl,rfl⟩|⟨y,u,rfl,rfl⟩
   .rw[znB]at h;exact wpAny_eqBool_int h
   .rw[zpq]at h;exact Fg i t y u _ _ _ _ h
  .rcases zH hv with⟨j,u,rfl,rfl⟩|⟨y,u,rfl,rfl⟩
   .rw[zpd]at h;exact Fh x t j u _ _ _ _ h
   .rw[zno]at h;exact wpAny_eqBool_str h
 «strs»:=λk x t v h=>by
  rcases zH h with⟨i,u,rfl,e⟩|⟨y,u,rfl,e⟩
  .exact nomatch e
  .injection e with e1 _;subst e1
   cases v<;>rfl
def zfP(prog:A8)(w:An)(i:Int)(t:Hf):(yP prog w).is (.inl i) (.int i t)=true:=zhN i t
def zfL(prog:A8)(w:An)(x:AQ)(t:Hf):(yP prog w).is (.inr x) (.str x t)=true:=zik x t
inductive V where
 |non|bl (b:Bool)|int (i:Int)|str (x:AQ)|byt (b:Array UInt8)|flt (b:UInt64)|ref (a:AI)|ty (n:String)
 deriving DecidableEq
def RelV:V->AG->Prop
 |.non,u=>u=CL
 |.bl b,u=>u=EA b
 |.int i,u=>∃t,u=Ed i t
 |.str x,u=>∃t,u=GM x t
 |.byt b,u=>∃t,u=HP b t
 |.flt b,u=>∃t,u=HQ b t
 |.ref a,u=>u=Al a
 |.ty n,u=>u=Fi n
abbrev Vals:List V->List AG->Prop:=Ge RelV
theorem Vals.length{xs:List V}{us:List AG}(r:Vals xs us):xs.length=us.length:=Ea r
theorem Vals.get:∀{xs:List V} {us:List AG} {i:Nat} {x:V},Vals xs us->xs[i]?=AA x->∃u,us[i]?=AA u/\RelV x u
 |_,_,_,_,.nil,e=>by simp at e
 |_,_,0,_,.cons r _,e=>by simp at e;subst e;exact⟨_,rfl,r⟩
 |_,_,i+1,x,.cons _ t,e=>by
  let⟨u,h1,h2⟩:=Vals.get (i:=i) (x:=x) t (by simpa using e);exact⟨u,by simpa using h1,h2⟩
theorem Vals.set{x:V}{u:AG}(r:RelV x u):∀{xs:List V} {us:List AG} (i:Nat),Vals xs us->Vals (xs.set i x) (us.set i u)
 |_,_,_,.nil=>.nil
 |_,_,0,.cons _ t=>.cons r t
 |_,_,i+1,.cons q t=>.cons q (Vals.set r i t)
theorem Vals.append:∀{xs ys:List V} {us ws:List AG},Vals xs us->Vals ys ws->Vals (xs++ys) (us++ws)
 |_,_,_,_,.nil,s=>s
 |_,_,_,_,.cons r t,s=>.cons r (Vals.append t s)
theorem Vals.take:∀{xs:List V} {us:List AG} (n:Nat),Vals xs us->Vals (xs.take n) (us.take n)
 |_,_,0,_=>.nil
 |_,_,_+1,.nil=>.nil
 |_,_,n+1,.cons r t=>.cons r (Vals.take n t)
theorem Vals.drop:∀{xs:List V} {us:List AG} (n:Nat),Vals xs us->Vals (xs.drop n) (us.drop n)
 |_,_,0,r=>r
 |_,_,_+1,.nil=>.nil
 |_,_,n+1,.cons _ t=>Vals.drop n t
theorem Vals.none_of:∀{xs:List V} {us:List AG} {i:Nat},Vals xs us->xs[i]?=AD->us[i]?=none:=λ{xs us i} r e=>by
 have h1:=r.length;have h2:xs.length<=i:=ER.mp e;exact ER.mpr ∅
def ybn:Option V->Option AG->Prop
 |some v,AA u=>RelV v u
 |none,AD=>True
 |_,_=>False
def KV{κ:Type}:List (κ×V)->List (κ×AG)->Prop:=Ge λ(p:κ×V) (q:κ×AG)=>p.1=q.1/\RelV p.2 q.2
def kV:Key->V
 |.inl i=>.int i
 |.inr x=>.str x
inductive HO where
 |lst (xs:List V)
 |tup (xs:List V)
 |dK (kvs:List (Key×V))|dT (kvs:List (List Key×V))
 |set (S:Int->Bool) (n:Nat)
 |ins (C dx:AI) (fs:List (AQ×V))
 |own (x:AI)
 |xd (fs:List (AQ×V))
 |met (f x:AI)
 |rng (lo hi:Int)
 |frz (o:CF) (u:HO)
 |tbl (ps:Array AG)
 |ext (φ:BF->Prop)
abbrev Hp:=AI->Option HO
def upd(H:Hp)(a:AI)(o:HO):Hp:=λb=>if b=a then AA o else H b
def zq{H:Hp}{a:AI}{o:HO}:upd H a o a=AA o:=by unfold upd;rw[if_pos rfl]
def zj{H:Hp}{a b:AI}{o:HO}(h:b≠a):upd H a o b=H b:=by unfold upd;rw[if_neg h]
def zp8{H:Hp}{a b:AI}{o u:HO}(h:H a=AA o)(h':H b=AA u)(d:o≠u):a≠b:=by
 intro e;subst e;rw[h]at h';exact d (AZ h')
def zn{H:Hp}{a b:AI}{o:HO}(h:H a=AA o)(h':H b=AD):a≠b:=by
 intro e;subst e;rw[h]at h';cases h'
section
variable (P:A8)(w:An)
def yZ(H:Hp)(h:BF)(a:AI):HO->Prop
 |.lst xs=>xs.length<=sizeLine/\∃(its:List AG) (n:Nat),Vals xs its/\h.get? a=AA {cls:=.type "list",data:=.seq its.toArray n}
 |.tup xs=>xs.length<=sizeLine/\∃its:List AG,Vals xs its/\HR h a its.toArray
 |.dK kvs=>kvs.length<=sizeLine/\(a==sysModules)=AC/\∃vs,KV kvs vs/\h.DictOf (yP P w) a vs
 |.dT kvs=>kvs.length<=sizeLine/\(a==sysModules)=AC/\∃xs:List (List Key×AI×AG),
   Ge (λ(p:List Key×V) (q:List Key×AI×AG)=>p.1=q.1/\H q.2.1=AA (.tup (p.1.map kV))/\RelV p.2 q.2.2) kvs xs /\
   ∃o es ep,h.get? a=AA o/\o.ExactDict/\o.data=.dict es ep/\es.toList=xs.map (entryOfKey (tupleKind (yP P w)))/\(xs.map (·.1)).Nodup
 |.set S n=>h.SetOf (intKind P w) a S n
 |.ins C dx fs=>H dx=AA (.own a)/\fs.length<=1000/\dx≠a/\h.get? a=AA (CC C dx) /\
   ∃mA,h.Ns1 dx mA/\(∀f,ybn (fs.lookup f) (mA f))/\Fr mA (fs.map (·.1))
 |.own _=>∃o,h.get? a=AA o
 |.xd fs=>∃mA,h.Ns1 a mA/\∀f,ybn (fs.lookup f) (mA f)
 |.rng lo hi=>∃t u v,h.get? a=AA {cls:=.type "range",data:=.fields #[.int lo t,.int hi u,.int 1 v]}
 |.frz o u=>h.get? a=AA o/\yZ H h a u
 |.tbl ps=>h.get? a=AA {cls:=.none,data:=.fields ps}
 |.met f x=>h.get? a=AA (EV (.ref f) (.ref x))
 |.ext φ=>φ h/\(∃o,h.get? a=AA o)/\∀h1 h2:BF,φ h1->(∀o,h1.get? a=AA o->h2.get? a=AA o)->φ h2
def HOk(H:Hp)(h:BF):Prop:=∀a o,H a=AA o->yZ P w H h a o
end
section
variable {P:A8}{w:An}{H H':Hp}{h h':BF}{a:AI}{o:HO}
theorem yZ.lt(x:yZ P w H h a o):a<h.objs.size:=by
 cases o with
 |lst xs=>let⟨_,_,_,_,e⟩:=x;exact AY e
 |tup xs=>let⟨_,_,_,p⟩:=x;exact p.lt
 |dK kvs=>let⟨_,_,_,_,o,_,_,e,_⟩:=x;exact AY e
 |dT kvs=>let⟨_,_,_,_,o,_,_,e,_⟩:=x;exact AY e
 |set S n=>let⟨o,_,_,_,e,_⟩:=x;exact AY e
 |ins C dx fs=>let⟨_,_,_,e,_⟩:=x;exact AY e
 |own y=>let⟨_,e⟩:=x;exact AY e
 |xd fs=>let⟨_,⟨_,_,_,e,_⟩,_⟩:=x;exact AY e
 |rng lo hi=>let⟨_,_,_,e⟩:=x;exact AY e
 |frz ob u=>let⟨e,_⟩:=x;exact AY e
 |tbl ps=>exact AY (show h.get? a=AA _ from x)
 |met f y=>exact AY (show h.get? a=AA _ from x)
 |ext φ=>let⟨_,⟨_,e⟩,_⟩:=x;exact AY e
theorem Paired.mapP{α β:Type}{F G:α->β->Prop}:∀{l₁:List α} {l₂:List β},Ge F l₁ l₂->(∀a b,F a b->G a b)->Ge G l₁ l₂
 |_,_,.nil,_=>.nil
 |_,_,.cons r t,f=>.cons (f _ _ r) (Paired.mapP t f)
theorem yZ.stay(x:yZ P w H h a o)(k:∀b u,(b=a \/ H b=AA (.own a))->h.get? b=AA u->h'.get? b=AA u)
  (ho:∀b,H b=AA (.own a)->H' b=AA (.own a)) (ht:∀b xs,H b=AA (.tup xs)->H' b=AA (.tup xs)):yZ P w H' h' a o:=by
 induction o with
 |lst xs=>let⟨z,its,n,r,e⟩:=x;exact⟨z,its,n,r,k _ _ (.inl rfl) e⟩
 |tup xs=>let⟨z,its,r,ob,e,c⟩:=x;exact⟨z,its,r,ob,k _ _ (.inl rfl) e,c⟩
 |dK kvs=>let⟨z,y,vs,r,ob,es,ep,e,c⟩:=x;exact⟨z,y,vs,r,ob,es,ep,k _ _ (.inl rfl) e,c⟩
 |dT kvs=>
  let⟨z,y,xs,r,ob,es,ep,e,c⟩:=x;exact⟨z,y,xs,Paired.mapP r λp q z=>⟨z.1,ht _ _ z.2.1,z.2.2⟩,ob,es,ep,k _ _ (.inl rfl) e,c⟩
 |set S n=>let⟨ob,es,ep,t,e,c⟩:=x;exact⟨ob,es,ep,t,k _ _ (.inl rfl) e,c⟩
 |ins C dx fs=>
  let⟨d,z,ne,e,mA,⟨od,es,ep,e2,c⟩,r⟩:=x;exact⟨ho _ d,z,ne,k _ _ (.inl rfl) e,mA,⟨od,es,ep,k _ _ (.inr d) e2,c⟩,r⟩
 |own y=>let⟨ob,e⟩:=x;exact⟨ob,k _ _ (.inl rfl) e⟩
 |xd fs=>let⟨mA,⟨od,es,ep,e,c⟩,r⟩:=x;exact⟨mA,⟨od,es,ep,k _ _ (.inl rfl) e,c⟩,r⟩
 |rng lo hi=>let⟨t,u,v,e⟩:=x;exact⟨t,u,v,k _ _ (.inl rfl) e⟩
 |frz ob u ih=>let⟨e,q⟩:=x;exact⟨k _ _ (.inl rfl) e,ih q⟩
 |tbl ps=>
  have e:h.get? a=AA {cls:=.none,data:=.fields ps}:=x;show h'.get? a=AA {cls:=.none,data:=.fields ps};exact k a _ (.inl rfl) e
 |met f y=>
  have e:h.get? a=AA (EV (.ref f) (.ref y)):=x;show h'.get? a=AA (EV (.ref f) (.ref y));exact k a _ (.inl rfl) e
 |ext φ=>let⟨p,⟨o,e⟩,st⟩:=x;exact⟨st _ _ p λo q=>k _ _ (.inl rfl) q,⟨o,k _ _ (.inl rfl) e⟩,st⟩
theorem HOk.lt(x:HOk P w H h)(e:H a=AA o):a<h.objs.size:=(x a o e).lt
theorem HOk.fresh(x:HOk P w H h)(e:h.objs.size<=a):H a=none:=by
 cases q:H a with
 |none=>rfl
 |some u=>exact absurd (A3 (x.lt q) e) (Cz _)
theorem HOk.kept(x:HOk P w H h)(k:∀b u,h.get? b=AA u->h'.get? b=AA u):HOk P w H h':=λa o e=>
 (x a o e).stay (λb u _ q=>k b u q) (λ_ q=>q) λ_ _ q=>q
theorem HOk.laid(x:HOk P w H h)(k:∀b u,h.get? b=AA u->h'.get? b=AA u)(hp:h.objs.size<=a)(new:yZ P w (upd H a o) h' a o):HOk P w (upd H a o) h':=λb u e=>by
 have hn:=x.fresh hp
 by_cases hb:b=a
 .subst hb;rw[zq]at e;cases e;exact new
 .rw[zj hb]at e;exact(x b u e).stay (λc v _ q=>k c v q) (λc q=>by rw[zj (zn q hn)];exact q) λc xs q=>by rw[zj (zn q hn)];exact q
end
def Rd(H:Hp)(a:AI)(u:HO):Prop:=H a=AA u \/ ∃o,H a=AA (.frz o u)
theorem Rd.of{H:Hp}{a:AI}{u:HO}(h:H a=AA u):Rd H a u:=.inl h
theorem Rd.ok{P:A8}{w:An}{H:Hp}{h:BF}{a:AI}{u:HO}(r:Rd H a u)(x:HOk P w H h):yZ P w H h a u:=by
 rcases r with r|⟨o,r⟩
 .exact x a u r
 .let⟨_,q⟩:=x a _ r;exact q
def Mut:Option HO->Prop
 |some (.lst _)=>True
 |some (.dK _)=>True
 |some (.dT _)=>True
 |some (.set _ _)=>True
 |some (.ins _ _ _)=>True
 |some (.ext _)=>True
 |_=>False
section
variable {P:A8}{w:An}{H:Hp}{h h':BF}{x e:AI}{o':HO}
theorem HOk.write(ok:HOk P w H h)(mu:Mut (H x))(he:e=x \/ H e=AA (.own x))(k:∀b u,b≠e->h.get? b=AA u->h'.get? b=AA u)(heo:∃u,h'.get? e=AA u)
  (new:yZ P w (upd H x o') h' x o'):HOk P w (upd H x o') h':=λb u q=>by
 have nown:∀c y,H c=AA (.own y)->c≠x:=λc y r z=>by subst z;rw[r]at mu;exact mu
 have ntup:∀c xs,H c=AA (.tup xs)->c≠x:=λc xs r z=>by subst z;rw[r]at mu;exact mu
 by_cases hb:b=x
 .subst hb;rw[zq]at q;cases q;exact new
 .rw[zj hb]at q
  by_cases hbe:b=e
  .have q':H b=AA (.own x):=by
    rcases he with z|z
    .exact absurd (hbe.trans z) hb
    .rw[hbe];exact z
   rw[q]at q';cases q';let⟨v,hv⟩:=heo;exact⟨v,by rw[hbe];exact hv⟩
  .refine(ok b u q).stay (λc v hc r=>k c v ?_ r) (λc r=>by rw[zj (nown c b r)];exact r) λc xs r=>by rw[zj (ntup c xs r)];exact r
   rcases hc with rfl|hc
   .exact hbe
   .rintro rfl
    rcases he with z|z
    .exact nown c b hc z
    .rw[hc]at z;cases z;exact hb rfl
end
structure Un(fs ex:List AI)(H H':Hp)(h h':BF):Prop where
 keep:∀b o,h.get? b=AA o->H b=AD->b∉fs->b∉ex->h'.get? b=AA o
 slot:∀b o,h.get? b=AA o->H b=AD->b∈fs->b∉ex->∃sl,h'.get? b=AA {o with slots:=sl}
 free:∀b o,h.get? b=AA o->H b=AD->b∉ex->H' b=AD
 there:∀b o,h.get? b=AA o->b∉ex->∃o',h'.get? b=AA o'
 tups:∀b xs,H b=AA (.tup xs)->H' b=AA (.tup xs)
 frzs:∀b o u,H b=AA (.frz o u)->H' b=AA (.frz o u)
 tbls:∀b ps,H b=AA (.tbl ps)->∃more,H' b=AA (.tbl (ps++more))
section
variable {fs fs' ex ex':List AI}{H H1 H2:Hp}{h h1 h2 h':BF}{a x e:AI}{o:HO}
theorem Un.any(u:Un fs ex H H1 h h1){b:AI}{ob:CF}(q:h.get? b=AA ob)(n:H b=AD)(hx:b∉ex):∃sl,h1.get? b=AA {ob with slots:=sl}:=by
 by_cases hb:b∈fs
 .exact u.slot b ob q n hb hx
 .exact⟨ob.slots,u.keep b ob q n hb hx⟩
theorem Un.kept(k:∀b u,h.get? b=AA u->h'.get? b=AA u):Un fs ex H H h h':=
 ⟨λb ob q _ _ _=>k b ob q,λb ob q _ _ _=>⟨ob.slots,k b ob q⟩,λ_ _ _ n _=>n,λb ob q _=>⟨ob,k b ob q⟩,λ_ _ q=>q,λ_ _ _ q=>q,λ_ ps q=>⟨#[],by rw[q];simp⟩⟩
theorem Un.refl:Un fs ex H H h h:=Un.kept λ_ _ q=>q
theorem Un.laid(k:∀b u,h.get? b=AA u->h'.get? b=AA u)(hp:h.objs.size<=a)(hn:H a=AD):Un fs ex H (upd H a o) h h' where
 keep:=λb u q _ _ _=>k b u q
 slot:=λb u q _ _ _=>⟨u.slots,k b u q⟩
 free:=λb u q n _=>by rw[zj (Ao (A3 (AY q) hp))];exact n
 there:=λb u q _=>⟨u,k b u q⟩
 tups:=λb xs q=>by rw[zj (zn q hn)];exact q
 frzs:=λb u xs q=>by rw[zj (zn q hn)];exact q
 tbls:=λb ps q=>⟨#[],by rw[zj (zn q hn),q];simp⟩
theorem Un.write(mu:Mut (H x))(he:e=x \/ H e=AA (.own x))(k:∀b u,b≠e->h.get? b=AA u->h'.get? b=AA u)(heo:∃u,h'.get? e=AA u):Un fs ex H (upd H x o) h h':=by
 have hx:∀b,H b=AD->b≠x:=λb n z=>by subst z;rw[n]at mu;exact mu
 have hb:∀b,H b=AD->b≠e:=λb n z=>by
  subst z;rcases he with r|r
  .exact hx b n r
  .rw[n]at r;cases r
 have hm:∀b u,H b=AA u->¬Mut (AA u)->b≠x:=λb u q nm z=>by subst z;rw[q]at mu;exact nm mu
 refine⟨λb u q n _ _=>k b u (hb b n) q,λb u q n _ _=>⟨u.slots,k b u (hb b n) q⟩,λb u q n _=>by rw[zj (hx b n)];exact n,λb u q _=>?_,
  λb xs q=>by rw[zj (hm b _ q λz=>z)];exact q,λb u xs q=>by rw[zj (hm b _ q λz=>z)];exact q,λb ps q=>⟨#[],by rw[zj (hm b _ q λz=>z),q];simp⟩⟩
 by_cases hbe:b=e
 .subst hbe;exact heo
 .exact⟨u,k b u hbe q⟩
end
def trk(h:BF)(H:Hp):List Addr:=(Cb h.objs.size).filter λa=>(H a).isSome
def ycb(h:BF)(H:Hp):Heap:=DD h (trk h H)
def ziA(h:BF)(H:Hp):(ycb h H).objs.size=h.objs.size:=PySem.W.hideAll_size _ _
def zkp{h:BF}{H:Hp}{b:AI}{o:CF}(e:h.get? b=AA o)(n:H b=AD):(ycb h H).get? b=AA o:=
 F2 _ e λhm=>by
  have q:(H b).isSome=true:=(G7.mp hm).2;rw[n]at q;simp at q
def zmE{h:BF}{H:Hp}{b:AI}{o:CF}(e:(ycb h H).get? b=AA o):h.get? b=AA o/\H b=none:=by
 have e':h.get? b=AA o:=Fj (trk h H) e;refine⟨e',?_⟩
 cases q:H b with
 |none=>rfl
 |some x=>
  have hm:b∈trk h H:=G7.mpr ⟨Gf.mpr (AY e'),by simp[q]⟩;have z:(ycb h H).get? b=none:=PySem.W.hideAll_none (trk h H) hm;rw[z]at e;cases e
structure Mod(K:AF)(mg:AQ->Option AG)(base:BF):Prop where
 kin:K.In base
 glob:base.Ns mainGlobals mg
 blt:∃mb,base.Ns builtinsNs mb/\∀x:AQ,x ≠ "__name__"->mb x=bootBuiltins x
 nolimit:base.NoLimit
structure Cx where
 prog:A8
 w:An
 K:AF
 mg:AQ->Option AG
 base:BF
 A:Au
 N:List AQ
 s₀:AJ
 H₀:Hp
 env:Env
 outer:List Env
 stack:List Env
 ex:List AI
 fn:AQ->Bool
 calm:Bool
 pn:List (AI×CF)
 xe:AG->AJ->Prop
def frs(l:List Env):List Addr:=l.filterMap (·.frame)
abbrev Cx.fs(X:Cx):List Addr:=frs X.outer
def Vis(sc:Bn)(x:AQ):Prop:=sc.names.lookup x=AA .local \/ sc.names.lookup x=AA .cell \/ sc.names.lookup x=AA .free
def Loc(sc:Bn)(x:AQ):Prop:=sc.names.lookup x=AA .local \/ sc.names.lookup x=AA .cell
def Look(env:Env)(h:BF)(m:AQ->Option AG)(x:AQ)(u:AG):Prop:=
 (env.kindOf x=AA .local/\m x=AA u) \/ ((env.kindOf x=AA .cell \/ env.kindOf x=AA .free)/\∃c,env.cells.lookup x=AA c/\h.IsCell c (AA u))
structure Cx.Ok(X:Cx):Prop where
 mod:Mod X.K X.mg X.base
 kind:X.env.scope.kind=.function
 glob:X.env.globals=mainGlobals
 blt:X.env.builtins=builtinsNs
 above:X.s₀.heap.objs.size<=X.env.locals
 inj:∀x y c,X.env.cells.lookup x=AA c->X.env.cells.lookup y=AA c->x=y
 has:∀x,(X.env.kindOf x=AA .cell \/ X.env.kindOf x=AA .free)->∃c,X.env.cells.lookup x=AA c
 cab:∀x c,X.fn x=AB->X.env.cells.lookup x=AA c->X.s₀.heap.objs.size<=c
 hd:X.calm=AB->X.A.handled=AD
 frames:X.A.frames=AA X.stack
 stk:X.stack=X.outer \/ (X.stack=X.env::X.outer/\X.env.frame=AA X.env.locals)
 exf:∀b∈X.ex,b≠X.env.locals/\∀x c,X.env.cells.lookup x=AA c->c≠b
 bs:∀b o,X.base.get? b=AA o->X.s₀.heap.get? b=AA o/\X.H₀ b=AD
 bsz:X.base.objs.size<=X.s₀.heap.objs.size
 noex:∀b o,X.base.get? b=AA o->b∉X.ex
 exfs:∀b∈X.ex,b∉X.fs
 funs:X.s₀.heap.FunFrames X.base X.outer
 frf:∀b∈X.fs,X.H₀ b=AD
structure Inv(X:Cx)(π:List (AI×CF))(σ:List (Option V))(H:Hp)(s:AJ):Prop where
 ok:X.Ok
 os:s.os=X.s₀.os
 bare:D6 s.gens
 base:Un X.fs X.ex X.H₀ H X.s₀.heap s.heap
 loc:∃m,s.heap.Ns X.env.locals m/\∀(i:Nat) (x:AQ) (v:V),X.N[i]?=AA x->σ[i]?=AA (AA v)->Vis X.env.scope x->∃u,RelV v u/\Look X.env s.heap m x u
 cell:∀x c,X.env.cells.lookup x=AA c->∃v,s.heap.IsCell c v
 free:H X.env.locals=AD
 freeC:∀x c,X.env.cells.lookup x=AA c->H c=AD
 pin:∀p∈X.pn++π,s.heap.get? p.1=AA p.2/\H p.1=AD/\p.1≠X.env.locals/\p.1∉X.fs/\∀v,p.2.data ≠ .cell v
 hok:HOk X.prog X.w H s.heap
 len:σ.length=X.N.length
section
variable {X:Cx}{π:List (AI×CF)}{σ:List (Option V)}{H H':Hp}{s:AJ}{h':BF}
theorem Cx.Ok.nofr(ok:X.Ok){b:AI}{o:CF}(e:X.base.get? b=AA o):b∉X.fs:=λhb=>by
 have:=(ok.funs.mem hb).1;rw[e]at this;cases this
theorem Inv.bs(I:Inv X π σ H s):∀b o,X.base.get? b=AA o->s.heap.get? b=AA o/\H b=none:=λb o e=>
 ⟨I.base.keep b o (I.ok.bs b o e).1 (I.ok.bs b o e).2 (I.ok.nofr e) (I.ok.noex b o e),I.base.free b o (I.ok.bs b o e).1 (I.ok.bs b o e).2 (I.ok.noex b o e)⟩
theorem Inv.bk(I:Inv X π σ H s):∀b o,X.base.get? b=AA o->s.heap.get? b=AA o:=λb o e=>(I.bs b o e).1
theorem Inv.mod(I:Inv X π σ H s):Mod X.K X.mg X.base:=I.ok.mod
theorem Inv.kIn(I:Inv X π σ H s):X.K.In s.heap:=I.ok.mod.kin.keeps I.bk
theorem Inv.lt(I:Inv X π σ H s):X.env.locals<s.heap.objs.size:=let ⟨_,hn,_⟩:=I.loc;hn.lt
theorem Inv.sz(I:Inv X π σ H s):X.s₀.heap.objs.size<=s.heap.objs.size:=BU I.ok.above (En I.lt)
theorem Inv.nofs(I:Inv X π σ H s){a:AI}(h:s.heap.objs.size<=a):a∉X.fs:=λhb=>by
 let⟨_,o,ho,_⟩:=I.ok.funs.mem hb;exact absurd (A3 (AY ho) (BU I.sz h)) (Cz _)
theorem Inv.cne(I:Inv X π σ H s):∀x c,X.env.cells.lookup x=AA c->c≠X.env.locals:=λx c e z=>by
 let⟨v,o,ho,hd⟩:=I.cell x c e;let⟨m,⟨o',es,ep,ho',hd',_⟩,_⟩:=I.loc;rw[z,ho']at ho;cases ho;rw[hd']at hd;cases hd
theorem Inv.funs(I:Inv X π σ H s):s.heap.FunFrames X.base X.outer:=by
 have all:∀(l:List Env),(∀b∈frs l,b∈X.fs)->X.s₀.heap.FunFrames X.base l->s.heap.FunFrames X.base l:=by
  intro l
  induction l with
  |nil=>intro _ _;trivial
  |cons env r ih=>
   intro hs hl;let⟨hk,⟨L,o,hf,hn,ho,hd⟩,hr⟩:=hl;have hL:L∈X.fs:=hs L (by unfold frs;rw[C3,hf];exact BB);let⟨sl,e⟩:=I.base.slot L o ho (I.ok.frf L hL) hL λz=>I.ok.exfs L z hL;exact⟨hk,⟨L,_,hf,hn,e,hd⟩,ih (λb hb=>hs b (by unfold frs;rw[C3,hf];exact AW _ hb)) hr⟩
 exact all X.outer (λ_ hb=>hb) I.ok.funs
theorem Inv.stack(I:Inv X π σ H s):s.heap.FunFrames X.base X.stack:=by
 rcases I.ok.stk with e|⟨e,hf⟩
 .rw[e];exact I.funs
 .rw[e];let⟨m,hn,_⟩:=I.loc;refine .cons (by rw[I.ok.kind];decide) hf hn ?_ I.funs;exact Heap.get?_none_of_le (BU I.ok.bsz I.ok.above)
theorem Inv.stkSub(I:Inv X π σ H s):∀b∈frs X.stack,b∈X.env.locals::X.fs:=λb hb=>by
 rcases I.ok.stk with e|⟨e,hf⟩
 .rw[e]at hb;exact AW _ hb
 .rw[e]at hb;unfold frs at hb;rw[C3,hf]at hb;exact hb
theorem Inv.stkFree(I:Inv X π σ H s):∀b∈frs X.stack,H b=none:=λb hb=>by
 rcases AT.mp (I.stkSub b hb)with e|hb
 .rw[e];exact I.free
 .let⟨_,o,ho,_⟩:=I.ok.funs.mem hb;exact I.base.free b o ho (I.ok.frf b hb) λz=>I.ok.exfs b z hb
theorem Inv.step{g':Array GenState}{t':Nat}{d':Drawn}{ch:List AI}(I:Inv X π σ H s)
  (hch:∀b∈ch,(b∈X.ex \/ X.s₀.heap.objs.size<=b)/\b≠X.env.locals/\(∀x c,X.env.cells.lookup x=AA c->c≠b)/\∀p∈X.pn++π,p.1≠b)
  (keep:∀b o,b≠X.env.locals->b∉X.fs->b∉ch->s.heap.get? b=AA o->H b=AD->h'.get? b=AA o)
  (slot:∀b o,b≠X.env.locals->b∈X.fs->b∉ch->s.heap.get? b=AA o->H b=AD->∃sl,h'.get? b=AA {o with slots:=sl}) (free:∀b o,b∉ch->s.heap.get? b=AA o->H b=AD->H' b=AD)
  (there:∀b o,b∉ch->s.heap.get? b=AA o->∃o',h'.get? b=AA o')
  (tups:∀b xs,H b=AA (.tup xs)->H' b=AA (.tup xs)) (frzs:∀b o u,H b=AA (.frz o u)->H' b=AA (.frz o u)) (tbls:∀b ps,H b=AA (.tbl ps)->∃more,H' b=AA (.tbl (ps++more)))
  (ns:∀m,s.heap.Ns X.env.locals m->h'.Ns X.env.locals m) (hok:HOk X.prog X.w H' h') (hg:D6 g'):
  Inv X π σ H' {s with heap:=h',gens:=g',drawn:=d',toks:=t'}:=by
 have neL:∀b o,X.s₀.heap.get? b=AA o->b≠X.env.locals:=λb o e=>Ao (A3 (AY e) I.ok.above);have neC:∀b o,X.s₀.heap.get? b=AA o->b∉X.ex->b∉ch:=λb o e hx hb=>by
  rcases (hch b hb).1 with z|z
  .exact hx z
  .exact absurd (A3 (AY e) z) (Cz _)
 have cellK:∀x c,X.env.cells.lookup x=AA c->∀v,s.heap.IsCell c v->h'.IsCell c v:=λx c e v ⟨o,ho,hd⟩=>by
  have nch:c∉ch:=λz=>(hch c z).2.2.1 x c e rfl
  by_cases hc:c∈X.fs
  .let⟨sl,q⟩:=slot c o (I.cne x c e) hc nch ho (I.freeC x c e);exact⟨_,q,hd⟩
  .exact⟨o,keep c o (I.cne x c e) hc nch ho (I.freeC x c e),hd⟩
 refine⟨I.ok,I.os,hg,⟨λb o e n hb hx=>?_,λb o e n hb hx=>?_,λb o e n hx=>?_,λb o e hx=>?_,λb xs e=>tups b xs (I.base.tups b xs e),λb o xs e=>frzs b o xs (I.base.frzs b o xs e),λb ps e=>?_⟩,?_,λx c e=>?_,?_,λx c e=>?_,λp hp=>?_,hok,I.len⟩
 .exact keep b o (neL b o e) hb (neC b o e hx) (I.base.keep b o e n hb hx) (I.base.free b o e n hx)
 .let⟨sl,e1⟩:=I.base.slot b o e n hb hx;let⟨sl',e2⟩:=slot b _ (neL b o e) hb (neC b o e hx) e1 (I.base.free b o e n hx);exact⟨sl',e2⟩
 .let⟨o',e1⟩:=I.base.there b o e hx;exact free b o' (neC b o e hx) e1 (I.base.free b o e n hx)
 .let⟨o',e1⟩:=I.base.there b o e hx;exact there b o' (neC b o e hx) e1
 .let⟨m1,e1⟩:=I.base.tbls b ps e;let⟨m2,e2⟩:=tbls b _ e1;exact⟨m1++m2,by rw[e2,EB]⟩
 .let⟨m,hn,hl⟩:=I.loc;refine⟨m,ns m hn,λi x v e1 e2 e3=>?_⟩;let⟨u,r,l⟩:=hl i x v e1 e2 e3;refine⟨u,r,?_⟩;rcases l with l|⟨k,c,e,z⟩
  .exact .inl l
  .exact .inr ⟨k,c,e,cellK x c e _ z⟩
 .let⟨v,z⟩:=I.cell x c e;exact⟨v,cellK x c e v z⟩
 .let⟨m,⟨o,_,_,ho,_⟩,_⟩:=I.loc;exact free _ o (λz=>(hch _ z).2.1 rfl) ho I.free
 .let⟨v,o,ho,hd⟩:=I.cell x c e;exact free c o (λz=>(hch c z).2.2.1 x c e rfl) ho (I.freeC x c e)
 .let⟨e,n,ne,nf,d⟩:=I.pin p hp;have nch:p.1∉ch:=λz=>(hch p.1 z).2.2.2 p hp rfl;exact⟨keep p.1 p.2 ne nf nch e n,free p.1 p.2 nch e n,ne,nf,d⟩
theorem Inv.un{t':Nat}(I:Inv X π σ H s)(u:Un X.fs [] H H' s.heap h')(hok:HOk X.prog X.w H' h'):Inv X π σ H' {s with heap:=h',toks:=t'}:=by
 let⟨m,⟨o,es,ep,ho,r⟩,_⟩:=id I.loc;let⟨sl,hL⟩:=u.any ho I.free (by simp);exact I.step (g':=s.gens) (d':=s.drawn) (ch:=[]) (λ_ z=>nomatch z) (λb o _ hb _ e n=>u.keep b o e n hb (by simp)) (λb o _ hb _ e n=>u.slot b o e n hb (by simp)) (λb o _ e n=>u.free b o e n (by simp)) (λb o _ e=>u.there b o e (by simp)) u.tups u.frzs u.tbls (λm' hm=>by
  let⟨o',es',ep',ho',r'⟩:=hm;rw[ho]at ho';cases ho';exact⟨_,es',ep',hL,r'⟩) hok I.bare
theorem Inv.call{g':Array GenState}{t':Nat}{d':Drawn}{ch:List AI}(I:Inv X π σ H s)(u:Un (frs X.stack) ch H H' s.heap h')(hok:HOk X.prog X.w H' h')(hg:D6 g')
  (hch:∀b∈ch,(b∈X.ex \/ X.s₀.heap.objs.size<=b)/\b≠X.env.locals/\(∀x c,X.env.cells.lookup x=AA c->c≠b)/\∀p∈X.pn++π,p.1≠b):
  Inv X π σ H' {s with heap:=h',gens:=g',drawn:=d',toks:=t'}:=by
 let⟨m,⟨o,es,ep,ho,r⟩,_⟩:=id I.loc;let⟨sl,hL⟩:=u.any ho I.free λz=>(hch _ z).2.1 rfl;exact I.step (ch:=ch) hch (λb o hL hb hc e n=>u.keep b o e n (λz=>(AT.mp (I.stkSub b z)).elim hL hb) hc) (λb o _ _ hc e n=>u.any e n hc) (λb o hc e n=>u.free b o e n hc) (λb o hc e=>u.there b o e hc) u.tups u.frzs u.tbls (λm' hm=>by
  let⟨o',es',ep',ho',r'⟩:=hm;rw[ho]at ho';cases ho';exact⟨_,es',ep',hL,r'⟩) hok hg
theorem Inv.turned{t':Nat}{it:AI}(I:Inv X π σ H s)(k:∀b o,b≠it->s.heap.get? b=AA o->h'.get? b=AA o)(hn:H it=AD)(hL:it≠X.env.locals)
  (h1:it∈X.ex \/ X.s₀.heap.objs.size<=it) (h2:∀x c,X.env.cells.lookup x=AA c->c≠it) (h3:∀p∈X.pn++π,p.1≠it):Inv X π σ H {s with heap:=h',toks:=t'}:=by
 have nit:∀b u,H b=AA u->b≠it:=λb u e z=>by rw[z,hn]at e;cases e
 refine I.step (g':=s.gens) (d':=s.drawn) (ch:=[it]) (λb hb=>?_) (λb o _ _ hc e _=>k b o (λz=>hc (by simp[z])) e) (λb o _ _ hc e _=>⟨o.slots,k b o (λz=>hc (by simp[z])) e⟩) (λ_ _ _ _ n=>n)
  (λb o hc e=>⟨o,k b o (λz=>hc (by simp[z])) e⟩) (λ_ _ e=>e) (λ_ _ _ e=>e) (λb ps e=>⟨#[],by rw[e];simp⟩) (λm hm=>?_) (λb u e=>?_) I.bare
 .have e:b=it:=by simpa using hb
  subst e;exact⟨h1,hL,h2,h3⟩
 .let⟨o,es,ep,ho,r⟩:=hm;exact⟨o,es,ep,k _ o (BN hL) ho,r⟩
 .refine(I.hok b u e).stay (λc v hc q=>k c v ?_ q) (λ_ q=>q) λ_ _ q=>q;rcases hc with z|z
  .rw[z];exact nit b u e
  .exact nit c _ z
theorem Inv.tok(I:Inv X π σ H s)(t:Nat):Inv X π σ H {s with toks:=t}:=I.un (h':=s.heap) (t':=t) Un.refl I.hok
theorem Inv.kept{t':Nat}(I:Inv X π σ H s)(k:∀b u,s.heap.get? b=AA u->h'.get? b=AA u):Inv X π σ H {s with heap:=h',toks:=t'}:=I.un (Un.kept k) (I.hok.kept k)
theorem Inv.laid{a:AI}{o:HO}{t':Nat}(I:Inv X π σ H s)(k:∀b u,s.heap.get? b=AA u->h'.get? b=AA u)(hp:s.heap.objs.size<=a)(new:yZ X.prog X.w (upd H a o) h' a o):
  Inv X π σ (upd H a o) {s with heap:=h',toks:=t'}:=I.un (Un.laid k hp (I.hok.fresh hp)) (I.hok.laid k hp new)
theorem Inv.write{x e:AI}{o:HO}{t':Nat}(I:Inv X π σ H s)(mu:Mut (H x))(he:e=x \/ H e=AA (.own x))(k:∀b u,b≠e->s.heap.get? b=AA u->h'.get? b=AA u)(heo:∃u,h'.get? e=AA u)
  (new:yZ X.prog X.w (upd H x o) h' x o):Inv X π σ (upd H x o) {s with heap:=h',toks:=t'}:=I.un (Un.write mu he k heo) (I.hok.write mu he k heo new)
theorem Inv.pins_of{pins':List (AI×CF)}(I:Inv X π σ H s)(h:∀p∈pins',s.heap.get? p.1=AA p.2/\H p.1=AD/\p.1≠X.env.locals/\p.1∉X.fs/\∀v,p.2.data ≠ .cell v):Inv X pins' σ H s:=
 ⟨I.ok,I.os,I.bare,I.base,I.loc,I.cell,I.free,I.freeC,λp hp=>(BM.mp hp).elim (λz=>I.pin p (Dd _ z)) (h p),I.hok,I.len⟩
def zf1{N:List AQ}(hN:N.Nodup){i j:Nat}{x:AQ}(a:N[i]?=AA x)(b:N[j]?=AA x):i=j:=by
 let⟨h1,e1⟩:=BE.mp a;let⟨h2,e2⟩:=BE.mp b;exact(List.getElem_inj hN).mp (e1.trans e2.symm)
def zhR{M:Model}{A:Au}{E:AG->AJ->Prop}{i:Nat}{x:AQ}{v:V}{u:AG}{Q:Unit->AJ->Prop}(I:Inv X π σ H s)(hN:X.N.Nodup)(hi:X.N[i]?=AA x)(hx:Loc X.env.scope x)(r:RelV v u)
  (h:∀s',Inv X π (σ.set i (AA v)) H s'->(∃a,Cc a s.heap s'.heap/\(a=X.env.locals \/ X.env.cells.lookup x=AA a))->Q () s') (hf:X.fn x=AB \/ X.env.scope.names.lookup x=AA .local:=by first|exact .inl rfl|exact .inr rfl|assumption):A4 M A (storeName X.env x u) Q E s:=by
 let⟨m,hn,hl⟩:=id I.loc;have hcls:(X.env.scope.kind==.class || (X.env.scope.kind==.module&&X.env.locals != X.env.globals))=false:=by rw[I.ok.kind];rfl
 have hiσ:i<σ.length:=by rw[I.len];exact(BE.mp hi).1
 have cne:=I.cne;have tracked:∀{a:AI} {h':BF},(∃o,s.heap.get? a=AA o/\H a=AD)->Cc a s.heap h'->HOk X.prog X.w H h':=λ{a h'} ha hs b ob e=>by
  let⟨_,_,hfree⟩:=ha;refine(I.hok b ob e).stay (λc w' hc q=>(hs.2 c ?_).trans q) (λ_ q=>q) λ_ _ q=>q
  rintro rfl
  rcases hc with rfl|hc
  .rw[hfree]at e;cases e
  .rw[hfree]at hc;cases hc
 rcases hx with hk|hk
 .refine wpAny_storeName_local hk hn (λh' hn' hs=>?_) hcls;let⟨oL,_,_,hoL,_⟩:=id hn;refine h _ ⟨I.ok,I.os,I.bare,⟨λb o e n hb hx=>?_,λb o e n hb hx=>?_,I.base.free,λb o e hx=>?_,I.base.tups,I.base.frzs,I.base.tbls⟩,⟨_,hn',λj y v' e1 e2 e3=>?_⟩,λy c e=>?_,I.free,I.freeC,λp hp=>?_,tracked ⟨oL,hoL,I.free⟩ hs,by simpa using I.len⟩ ⟨_,hs,.inl rfl⟩
  .exact(hs.2 b (Ao (A3 (AY e) I.ok.above))).trans (I.base.keep b o e n hb hx)
  .let⟨sl,e1⟩:=I.base.slot b o e n hb hx;exact⟨sl,(hs.2 b (Ao (A3 (AY e) I.ok.above))).trans e1⟩
  .let⟨o',e1⟩:=I.base.there b o e hx;exact⟨o',(hs.2 b (Ao (A3 (AY e) I.ok.above))).trans e1⟩
  .by_cases hj:j=i
   .subst hj;rw[hi]at e1;cases e1;rw[A9 hiσ]at e2
    cases e2
    exact⟨u,r,.inl ⟨hk,by simp⟩⟩
   .rw[AO (BN hj)]at e2;let⟨u',r',q⟩:=hl j y v' e1 e2 e3;refine⟨u',r',?_⟩;rcases q with⟨k,e⟩|⟨k,c,e,z⟩
    .refine .inl ⟨k,?_⟩;have:y≠x:=λe=>hj (zf1 hN e1 (e ▸ hi));simp[this,e]
    .exact .inr ⟨k,c,e,z.sameBut hs (cne y c e)⟩
  .let⟨w',z⟩:=I.cell y c e;exact⟨w',z.sameBut hs (cne y c e)⟩
  .let⟨e,n,ne,nf,d⟩:=I.pin p hp;exact⟨(hs.2 p.1 ne).trans e,n,ne,nf,d⟩
 .have hfn:X.fn x=true:=by
   rcases hf with z|z
   .exact z
   .rw[z]at hk;cases hk
  let⟨c,hc⟩:=I.ok.has x (.inl hk);let⟨w',z⟩:=I.cell x c hc;refine wpAny_storeName_cell I.ok.kind hk hc z (λh' hc' hs=>?_);let⟨oc,hoc,hocd⟩:=id z;refine h {s with heap:=h'} ⟨I.ok,I.os,I.bare,⟨λb o e n hb hx=>?_,λb o e n hb hx=>?_,I.base.free,λb o e hx=>?_,I.base.tups,I.base.frzs,I.base.tbls⟩,⟨m,hn.sameBut hs (BN (cne x c hc)),λj y v' e1 e2 e3=>?_⟩,λy c' e=>?_,I.free,I.freeC,λp hp=>?_,tracked ⟨oc,hoc,I.freeC x c hc⟩ hs,by simpa using I.len⟩ ⟨c,hs,.inr hc⟩
  .exact(hs.2 b (Ao (A3 (AY e) (I.ok.cab x c hfn hc)))).trans (I.base.keep b o e n hb hx)
  .let⟨sl,e1⟩:=I.base.slot b o e n hb hx;exact⟨sl,(hs.2 b (Ao (A3 (AY e) (I.ok.cab x c hfn hc)))).trans e1⟩
  .let⟨o',e1⟩:=I.base.there b o e hx;exact⟨o',(hs.2 b (Ao (A3 (AY e) (I.ok.cab x c hfn hc)))).trans e1⟩
  .by_cases hj:j=i
   .subst hj;rw[hi]at e1;cases e1;rw[A9 hiσ]at e2
    cases e2
    exact⟨u,r,.inr ⟨.inl hk,c,hc,hc'⟩⟩
   .rw[AO (BN hj)]at e2;let⟨u',r',q⟩:=hl j y v' e1 e2 e3;refine⟨u',r',?_⟩;rcases q with q|⟨k,c',e,z'⟩
    .exact .inl q
    .refine .inr ⟨k,c',e,z'.sameBut hs ?_⟩
     rintro rfl
     exact hj (zf1 hN e1 (I.ok.inj _ _ _ e hc ▸ hi))
  .by_cases hcc:c'=c
   .subst hcc;exact⟨_,hc'⟩
   .let⟨w2,z2⟩:=I.cell y c' e;exact⟨w2,z2.sameBut hs hcc⟩
  .let⟨e,n,ne,nf,d⟩:=I.pin p hp;refine⟨(hs.2 p.1 ?_).trans e,n,ne,nf,d⟩;intro q;rw[q,hoc]at e;have q':oc=p.2:=AZ e;exact d w' (by rw[<-q'];exact hocd)
def zb9{M:Model}{A:Au}{E:AG->AJ->Prop}{i:Nat}{x:AQ}{v:V}{u:AG}{Q:Unit->AJ->Prop}(I:Inv X π σ H s)(hN:X.N.Nodup)(hi:X.N[i]?=AA x)(hx:Loc X.env.scope x)(r:RelV v u)
  (h:∀s',Inv X π (σ.set i (AA v)) H s'->Q () s') (hf:X.fn x=AB \/ X.env.scope.names.lookup x=AA .local:=by first|exact .inl rfl|exact .inr rfl|assumption):A4 M A (storeName X.env x u) Q E s:=
 zhR I hN hi hx r (λs' I' _=>h s' I') hf
theorem Inv.call'{s':AJ}{ch:List AI}(I:Inv X π σ H s)(ho:s'.os=s.os)(u:Un (frs X.stack) ch H H' s.heap s'.heap)(hok:HOk X.prog X.w H' s'.heap)(hg:D6 s'.gens)
  (hch:∀b∈ch,(b∈X.ex \/ X.s₀.heap.objs.size<=b)/\b≠X.env.locals/\(∀x c,X.env.cells.lookup x=AA c->c≠b)/\∀p∈X.pn++π,p.1≠b):Inv X π σ H' s':=by
 let⟨h',g',d',t',o'⟩:=s';have e:o'=s.os:=ho;subst e;exact I.call (g':=g') (t':=t') (d':=d') u hok hg hch
end
abbrev XK:=AG->Option AI->Hp->Prop
abbrev St:=List (Option V)
abbrev VK:=V->Hp->Prop
abbrev TE:=St->Hp->VK->Prop
abbrev TT:=St->Hp->(Bool->Hp->Prop)->Prop
abbrev TA:=St->Hp->(List V->Hp->Prop)->Prop
structure Ends where
 nx:St->Hp->Prop
 rt:VK
 bk:St->Hp->Prop:=λ_ _=>False
 ct:St->Hp->Prop:=λ_ _=>False
abbrev TS:=Ends->St->Hp->Prop
def EP(X:Cx)(π:List (AI×CF))(σ:St)(Q:VK)(u:AG)(s':AJ):Prop:=∃v H',Inv X π σ H' s'/\RelV v u/\Q v H'
def TP(X:Cx)(π:List (AI×CF))(σ:St)(Q:Bool->Hp->Prop)(b:Bool)(s':AJ):Prop:=∃H',Inv X π σ H' s'/\Q b H'
def AP(X:Cx)(π:List (AI×CF))(σ:St)(Q:List V->Hp->Prop)(us:List AG)(s':AJ):Prop:=∃vs H',Inv X π σ H' s'/\Vals vs us/\Q vs H'
def SP(X:Cx)(π:List (AI×CF))(D:Ends)(f:Flow)(s':AJ):Prop:=
 match f with
 |.next=>∃σ' H',Inv X π σ' H' s'/\D.nx σ' H'
 |.brk=>∃σ' H',Inv X π σ' H' s'/\D.bk σ' H'
 |.cont=>∃σ' H',Inv X π σ' H' s'/\D.ct σ' H'
 |.ret u=>∃v σ' H',Inv X π σ' H' s'/\RelV v u/\D.rt v H'
def PE(X:Cx)(e:AV)(t:TE):Prop:=
 ∀(π:List (AI×CF)) (s:AJ) (σ:St) (H:Hp) (Q:VK),Inv X π σ H s->t σ H Q->A4 (model X.prog X.w) X.A (eval e X.env) (EP X π σ Q) X.xe s
def PT(X:Cx)(e:AV)(t:TT):Prop:=
 ∀(π:List (AI×CF)) (s:AJ) (σ:St) (H:Hp) (Q:Bool->Hp->Prop),Inv X π σ H s->t σ H Q->A4 (model X.prog X.w) X.A (isTrue e X.env (eval e X.env)) (TP X π σ Q) X.xe s
def PW(X:Cx)(e:AV)(t:TT):Prop:=
 ∀(whole:Gw AG) (π:List (AI×CF)) (s:AJ) (σ:St) (H:Hp) (Q:Bool->Hp->Prop),Inv X π σ H s->t σ H Q->A4 (model X.prog X.w) X.A (isTrue e X.env whole) (TP X π σ Q) X.xe s
theorem PW.pt{X:Cx}{e:AV}{t:TT}(h:PW X e t):PT X e t:=h _
def PA(X:Cx)(es:List AV)(t:TA):Prop:=
 ∀(pos:CV) (π:List (AI×CF)) (s:AJ) (σ:St) (H:Hp) (Q:List V->Hp->Prop),Inv X π σ H s->t σ H Q->A4 (model X.prog X.w) X.A (spliced (backTo pos (starEach es X.env))) (AP X π σ Q) X.xe s
def PS(X:Cx)(st:Bz)(t:TS):Prop:=
 ∀(π:List (AI×CF)) (s:AJ) (σ:St) (H:Hp) (D:Ends),Inv X π σ H s->t D σ H->A4 (model X.prog X.w) X.A (exec st X.env) (SP X π D) X.xe s
def PSs(X:Cx)(st:List Bz)(t:TS):Prop:=
 ∀(π:List (AI×CF)) (s:AJ) (σ:St) (H:Hp) (D:Ends),Inv X π σ H s->t D σ H->A4 (model X.prog X.w) X.A (execs st X.env) (SP X π D) X.xe s
theorem thn{α:Type}{t:Gw α}{Q Q':α->AJ->Prop}{M:Model}{A:Au}{E:AG->AJ->Prop}{s:AJ}(h:A4 M A t Q E s)(hQ:∀a s,Q a s->Q' a s):A4 M A t Q' E s:=C0 h hQ λ_ _ x=>x
section
variable {X:Cx}
theorem bin{a b:AV}{ta tb:TE}(ha:PE X a ta)(hb:PE X b tb){π:List (AI×CF)}{s:AJ}{σ:St}{H:Hp}{R:V->V->Hp->Prop}(I:Inv X π σ H s)(h:ta σ H λx H1=>tb σ H1 λy H2=>R x y H2)
  {α:Type} {Q:α->AJ->Prop} {f:AG->AG->Gw α}
  (hf:∀v u s2 x y H2,Inv X π σ H2 s2->RelV x v->RelV y u->R x y H2->A4 (model X.prog X.w) X.A (f v u) Q X.xe s2):
  A4 (model X.prog X.w) X.A (eval a X.env) (λv s₁=>A4 (model X.prog X.w) X.A (eval b X.env) (λu s₂=>A4 (model X.prog X.w) X.A (f v u) Q X.xe s₂) X.xe s₁) X.xe s:=by
 refine thn (ha π s σ H _ I h) λv s1 kq=>?_;let⟨x,H1,I1,r1,q1⟩:=kq;refine thn (hb π s1 σ H1 _ I1 q1) λu s2 kq=>?_;let⟨y,H2,I2,r2,q2⟩:=kq;exact hf v u s2 x y H2 I2 r1 r2 q2
def ygD(i:Nat):TE:=λσ H Q=>∃v,σ[i]?=AA (AA v)/\Q v H
def tC(v:V):TE:=λ_ H Q=>Q v H
def zlb{i:Nat}{x:AQ}{pos:CV}(hN:X.N[i]?=AA x)(hv:Vis X.env.scope x)(hd:(x==("__debug__":AQ))=false:=by decide)(hcd:(x==("__classdict__":AQ))=false:=by decide):PE X (.Name x pos) (ygD i):=by
 intro π s σ H Q I h;let⟨v,e,h⟩:=h;let⟨m,hn,hl⟩:=I.loc;let⟨u,r,l⟩:=hl i x v hN e hv;have fin:EP X π σ Q u s:=⟨v,H,I,r,h⟩;rcases l with⟨hk,hm⟩|⟨hk,c,hc,hcell⟩
 .exact Gg (FM I.ok.kind hk hn hm fin) hd
 .rcases hk with hk|hk
  .exact Gg (F3 I.ok.kind hk hc hcell fin) hd
  .exact Gg (wpAny_loadName_free I.ok.kind hk hc hcell fin hcd) hd
def zqw{i j pos}:PE X (.Constant (.int i) j pos) (tC (.int i)):=λ_ _ _ H _ I h=>wpAny_Constant_int ⟨.int i,H,I.tok _,⟨_,rfl⟩,h⟩
def zqx{b j pos}:PE X (.Constant (.bool b) j pos) (tC (.bl b)):=λ_ _ _ H _ I h=>Constant_bool ⟨.bl b,H,I,rfl,h⟩
def zqy{j pos}:PE X (.Constant .none j pos) (tC .non):=λ_ _ _ H _ I h=>Constant_none ⟨.non,H,I,rfl,h⟩
def zqz{x j pos}:PE X (.Constant (.str x) j pos) (tC (.str x)):=λ_ _ _ H _ I h=>Calls.Constant_str ⟨.str x,H,I.tok _,⟨_,rfl⟩,h⟩
def Gl(X:Cx)(x:AQ):Prop:=X.env.kindOf x=AA .globalImplicit
def zdO{E:AG->AJ->Prop}{π:List (AI×CF)}{s:AJ}{σ:St}{H:Hp}{x:AQ}{u:AG}{pos:CV}{Q:AG->AJ->Prop}(I:Inv X π σ H s)(hg:Gl X x)(hm:X.mg x=AA u)(h:Q u s)
  (hd:(x==("__debug__":AQ))=false:=by decide):A4 (model X.prog X.w) X.A (eval (.Name x pos) X.env) Q E s:=
 EC I.ok.kind hg (Calls.loadGlobal_global (by rw[I.ok.glob];exact I.mod.glob.keeps I.bk) hm h) hd
def zd4{E:AG->AJ->Prop}{π:List (AI×CF)}{s:AJ}{σ:St}{H:Hp}{x:AQ}{u:AG}{pos:CV}{Q:AG->AJ->Prop}(I:Inv X π σ H s)(hg:Gl X x)(hm:X.mg x=AD)(hv:bootBuiltins x=AA u)(h:Q u s)
  (hn:x ≠ "__name__":=by decide) (hd:(x==("__debug__":AQ))=false:=by decide):A4 (model X.prog X.w) X.A (eval (.Name x pos) X.env) Q E s:=by
 let⟨mb,h1,h2⟩:=I.mod.blt;exact EC I.ok.kind hg (Calls.loadGlobal_builtin (by rw[I.ok.glob];exact I.mod.glob.keeps I.bk) hm (by rw[I.ok.blt];exact h1.keeps I.bk) ((h2 x hn).trans hv) h) hd
def zdJ{x:AQ}{v:V}{u:AG}{pos:CV}(hg:Gl X x)(hm:X.mg x=AA u)(r:RelV v u)(hd:(x==("__debug__":AQ))=false:=by decide):PE X (.Name x pos) (tC v):=
 λ_ _ _ H _ I h=>zdO I hg hm ⟨v,H,I,r,h⟩ hd
def zlg{x:AQ}{v:V}{u:AG}{pos:CV}(hg:Gl X x)(hm:X.mg x=AD)(hv:bootBuiltins x=AA u)(r:RelV v u)(hn:x ≠ "__name__":=by decide)(hd:(x==("__debug__":AQ))=false:=by decide):PE X (.Name x pos) (tC v):=
 λ_ _ _ H _ I h=>zd4 I hg hm hv ⟨v,H,I,r,h⟩ hn hd
variable {a b:AV}{ta tb:TE}{pos:CV}
variable {tA tB':TT}{rest:List AV}
def yfO(t u:TT):TT:=λσ H Q=>t σ H λc H1=>if c=AB then u σ H1 Q else Q AC H1
def tOr(t u:TT):TT:=λσ H Q=>t σ H λc H1=>if c=AB then Q AB H1 else u σ H1 Q
def yfH(t:TT):TT:=λσ H Q=>t σ H λc H1=>Q (!c) H1
def zlZ(ha:PT X a tA):PW X (.BoolOp .And [a] pos) tA:=by
 intro wh π s σ H Q I h;refine isTrue_and (thn (ha π s σ H Q I h) λc s1 e=>?_)
 cases c with
 |true=>exact isTrue_and_nil e
 |false=>exact e
def zoB(ha:PT X a tA):PW X (.BoolOp .Or [a] pos) tA:=by
 intro wh π s σ H Q I h;refine isTrue_or (thn (ha π s σ H Q I h) λc s1 e=>?_)
 cases c with
 |false=>exact isTrue_or_nil e
 |true=>exact e
def znv(ha:PT X a tA)(hb:PW X (.BoolOp .And (b::rest) pos) tB'):PW X (.BoolOp .And (a::b::rest) pos) (yfO tA tB'):=by
 intro wh π s σ H Q I h;refine isTrue_and (thn (ha π s σ H _ I h) λc s1 kq=>?_);let⟨H1,I1,q1⟩:=kq
 cases c with
 |true=>exact hb wh π s1 σ H1 Q I1 q1
 |false=>exact⟨H1,I1,q1⟩
def zpO(ha:PT X a tA)(hb:PW X (.BoolOp .Or (b::rest) pos) tB'):PW X (.BoolOp .Or (a::b::rest) pos) (tOr tA tB'):=by
 intro wh π s σ H Q I h;refine isTrue_or (thn (ha π s σ H _ I h) λc s1 kq=>?_);let⟨H1,I1,q1⟩:=kq
 cases c with
 |true=>exact⟨H1,I1,q1⟩
 |false=>exact hb wh π s1 σ H1 Q I1 q1
def znZ(ha:PT X a tA):PT X (.UnaryOp .Not a pos) (yfH tA):=by
 intro π s σ H Q I h;exact isTrue_not (ha π s σ H (λc H1=>Q (!c) H1) I h)
def yeH(ta tb:TE):TE:=λσ H Q=>ta σ H λx H1=>∃c,x=.bl c/\if c=AB then tb σ H1 Q else Q (.bl AC) H1
def yfP(ta tb:TE):TE:=λσ H Q=>ta σ H λx H1=>∃c,x=.bl c/\if c=AB then Q (.bl AB) H1 else tb σ H1 Q
def yd2(ta:TE):TE:=λσ H Q=>ta σ H λx H1=>∃c,x=.bl c/\Q (.bl (!c)) H1
def zoa{op}{t:TE}(h:PE X a t):PE X (.BoolOp op [a] pos) t:=λπ s σ H Q I hw=>BoolOp_one (h π s σ H Q I hw)
def zoM(ha:PE X a ta)(hb:PE X (.BoolOp .And (b::rest) pos) tb):PE X (.BoolOp .And (a::b::rest) pos) (yeH ta tb):=by
 intro π s σ H Q I h;refine BoolOp_and (thn (ha π s σ H _ I h) λv s1 kq=>?_);let⟨x,H1,I1,r1,q1⟩:=kq;let⟨c,rfl,q1⟩:=q1
 cases r1
 refine BY ?_
 cases c with
 |true=>exact hb π s1 σ H1 Q I1 q1
 |false=>exact⟨.bl AC,H1,I1,rfl,q1⟩
def zpV(ha:PE X a ta)(hb:PE X (.BoolOp .Or (b::rest) pos) tb):PE X (.BoolOp .Or (a::b::rest) pos) (yfP ta tb):=by
 intro π s σ H Q I h;refine BoolOp_or (thn (ha π s σ H _ I h) λv s1 kq=>?_);let⟨x,H1,I1,r1,q1⟩:=kq;let⟨c,rfl,q1⟩:=q1
 cases r1
 refine BY ?_
 cases c with
 |false=>exact hb π s1 σ H1 Q I1 q1
 |true=>exact⟨.bl AB,H1,I1,rfl,q1⟩
def zot(ha:PE X a ta):PE X (.UnaryOp .Not a pos) (yd2 ta):=by
 intro π s σ H Q I h;refine UnaryOp_ (thn (ha π s σ H _ I h) λv s1 kq=>?_);let⟨x,H1,I1,r1,q1⟩:=kq;let⟨c,rfl,q1⟩:=q1
 cases r1
 exact not_of (BY ⟨.bl (!c),H1,I1,rfl,q1⟩)
def tIf(t:TT)(ta tb:TE):TE:=λσ H Q=>t σ H λc H1=>if c=AB then ta σ H1 Q else tb σ H1 Q
def zkf{c:AV}(hc:PT X c tA)(ha:PE X a ta)(hb:PE X b tb):PE X (.IfExp c a b pos) (tIf tA ta tb):=by
 intro π s σ H Q I h;refine wpAny_IfExp (thn (hc π s σ H _ I h) λd s1 kq=>?_);let⟨H1,I1,q1⟩:=kq
 cases d with
 |true=>exact ha π s1 σ H1 Q I1 q1
 |false=>exact hb π s1 σ H1 Q I1 q1
end
def SqL(K:AF)(H:Hp)(a:AI)(xs:List V):Prop:=
 Rd H a (.lst xs) \/
  ∃(o:CF) (its:Array AG) (n:Nat),K.lookup a=AA o/\o.cls=.type "list"/\o.dict=AD/\o.data=.seq its n/\its.size<=sizeLine/\Vals xs its.toList
def SqT(K:AF)(H:Hp)(a:AI)(xs:List V):Prop:=
 Rd H a (.tup xs) \/
  ∃(o:CF) (its:Array AG) (n:Nat),K.lookup a=AA o/\o.cls=.type "tuple"/\o.data=.seq its n/\its.size<=sizeLine/\Vals xs its.toList
def ygK:AG->Option V
 |.none=>AA .non
 |.bool b=>AA (.bl b)
 |.int i _=>AA (.int i)
 |.str x _=>AA (.str x)
 |.bytes b _=>AA (.byt b)
 |.float b _=>AA (.flt b)
 |.ref a=>AA (.ref a)
 |.type n=>AA (.ty n)
 |_=>AD
theorem RelV.abs{x:V}{u:AG}(r:RelV x u):ygK u=AA x:=by
 cases x with
 |non=>cases r;rfl
 |bl _=>cases r;rfl
 |int _=>let⟨t,rfl⟩:=r;rfl
 |str _=>let⟨t,rfl⟩:=r;rfl
 |byt _=>let⟨t,rfl⟩:=r;rfl
 |flt _=>let⟨t,rfl⟩:=r;rfl
 |ref _=>cases r;rfl
 |ty _=>cases r;rfl
theorem RelV.inj{x y:V}{u:AG}(r:RelV x u)(q:RelV y u):x=y:=AZ (r.abs.symm.trans q.abs)
theorem Vals.inj:∀{xs ys:List V} {us:List AG},Vals xs us->Vals ys us->xs=ys
 |_,_,_,.nil,.nil=>rfl
 |_,_,_,.cons r t,.cons r' t'=>by rw[r.inj r',Vals.inj t t']
section
variable {X:Cx}{π:List (AI×CF)}{σ:St}{H:Hp}{s:AJ}{a:AI}{xs ys:List V}
theorem SqL.of{K:AF}(h:H a=AA (.lst xs)):SqL K H a xs:=.inl (.inl h)
theorem Inv.list(I:Inv X π σ H s)(h:SqL X.K H a xs):∃its:List AG,Vals xs its/\PlainL s.heap a its.toArray/\xs.length<=sizeLine:=by
 rcases h with h|⟨o,its,n,hk,hc,hd,hs,hz,r⟩
 .let⟨z,its,n,r,e⟩:=h.ok I.hok;exact⟨its,r,⟨_,n,e,rfl,rfl,rfl⟩,z⟩
 .refine⟨its.toList,r,⟨o,n,I.kIn a o hk,hc,hd,by simpa using hs⟩,?_⟩;have e:=r.length;erw[CG]at e;lia
theorem Inv.tuple(I:Inv X π σ H s)(h:SqT X.K H a xs):∃its:List AG,Vals xs its/\HR s.heap a its.toArray/\xs.length<=sizeLine:=by
 rcases h with h|⟨o,its,n,hk,hc,hs,hz,r⟩
 .let⟨z,its,r,p⟩:=h.ok I.hok;exact⟨its,r,p,z⟩
 .refine⟨its.toList,r,⟨o,I.kIn a o hk,hc,n,by simpa using hs⟩,?_⟩;have e:=r.length;erw[CG]at e;lia
theorem Inv.list_inj(I:Inv X π σ H s)(h:SqL X.K H a xs)(h':SqL X.K H a ys):xs=ys:=by
 let⟨its,r,⟨o,n,e,_,_,d⟩,_⟩:=I.list h;let⟨its',r',⟨o',n',e',_,_,d'⟩,_⟩:=I.list h';rw[e]at e';cases e';rw[d]at d';injection d' with d1 _;have:its=its':=by simpa using congrArg HD d1
 subst this;exact r.inj r'
theorem Inv.tuple_inj(I:Inv X π σ H s)(h:SqT X.K H a xs)(h':SqT X.K H a ys):xs=ys:=by
 let⟨its,r,⟨o,e,_,n,d⟩,_⟩:=I.tuple h;let⟨its',r',⟨o',e',_,n',d'⟩,_⟩:=I.tuple h';rw[e]at e';cases e';rw[d]at d';injection d' with d1 _;have:its=its':=by simpa using congrArg HD d1
 subst this;exact r.inj r'
end
section
variable {X:Cx}{π:List (AI×CF)}{σ:St}{H:Hp}{s:AJ}{E:AG->AJ->Prop}
end
section
variable {X:Cx}{st:Bz}{rest:List Bz}{t u:TS}{e:AV}{te:TE}{pos:CV}
def yec:TS:=λD σ H=>D.nx σ H
def ygm(t u:TS):TS:=λD σ H=>t {D with nx:=u D} σ H
def zqA:PSs X [] yec:=λ_ _ σ H _ I h=>Di ⟨σ,H,I,h⟩
def zgh(h1:PS X st t)(h2:PSs X rest u):PSs X (st::rest) (ygm t u):=by
 intro π s σ H D I h;refine GN (thn (h1 π s σ H {D with nx:=u D} I h) λf s1 q=>?_)
 cases f with
 |next=>
  let⟨σ',H',I',q⟩:=q;exact h2 π s1 σ' H' D I' q
 |ret v=>exact q
 |brk=>exact q
 |cont=>exact q
def zlh(h1:PS X st t):PSs X [st] t:=by
 intro π s σ H D I h;refine GN (thn (h1 π s σ H D I h) λf s1 q=>?_)
 cases f with
 |next=>exact Di q
 |ret v=>exact q
 |brk=>exact q
 |cont=>exact q
theorem Inv.quiet{π:List (AI×CF)}{σ:St}{H:Hp}{s:AJ}(I:Inv X π σ H s):interactive X.env=false:=by simp[interactive,I.ok.kind]
def yeD(te:TE):TS:=λD σ H=>te σ H λ_ H1=>D.nx σ H1
def zlX(he:PE X e te)(hs:swapsWith e AD pos.line X.env=pure false:=by rfl):PS X (.Expr e pos) (yeD te):=by
 intro π s σ H D I h;exact wpAny_Expr_any (thn (he π s σ H _ I h) λv s1 ⟨x,H1,I1,r1,q1⟩=>⟨σ,H1,I1,q1⟩) I.quiet hs
def ygM(te:TE):TS:=λD σ H=>te σ H D.rt
def zku(he:PE X e te):PS X (.Return (AA e) pos) (ygM te):=by
 intro π s σ H D I h;exact wpAny_Return_some (thn (he π s σ H _ I h) λv s1 ⟨x,H1,I1,r1,q1⟩=>⟨x,σ,H1,I1,r1,q1⟩)
def yeM:TS:=λD _ H=>D.rt .non H
def zqB:PS X (.Return AD pos) yeM:=λ_ _ σ H _ I h=>wpAny_Return_none ⟨.non,σ,H,I,rfl,h⟩
def yg5(c:TT)(t u:TS):TS:=λD σ H=>c σ H λb H1=>if b=AB then t D σ H1 else u D σ H1
def zqc{c:AV}{a b:List Bz}{tc:TT}(hc:PT X c tc)(ha:PSs X a t)(hb:PSs X b u):PS X (.If c a b pos) (yg5 tc t u):=by
 intro π s σ H D I h;refine wpAny_If (thn (hc π s σ H _ I h) λd s1 kq=>?_);let⟨H1,I1,q1⟩:=kq
 cases d with
 |true=>exact ha π s1 σ H1 D I1 q1
 |false=>exact hb π s1 σ H1 D I1 q1
end
abbrev TG:=V->St->Hp->(St->Hp->Prop)->Prop
abbrev TGs:=List V->St->Hp->(St->Hp->Prop)->Prop
def PG(X:Cx)(target:AV)(t:TG):Prop:=
 ∀(π:List (AI×CF)) (s:AJ) (σ:St) (H:Hp) (v:V) (u:AG) (Q:St->Hp->Prop),Inv X π σ H s->RelV v u->t v σ H Q ->
  A4 (model X.prog X.w) X.A (assign target X.env u) (λ_ s'=>∃σ' H',Inv X π σ' H' s'/\Q σ' H') X.xe s
def PGs(X:Cx)(ts:List AV)(t:TGs):Prop:=
 ∀(π:List (AI×CF)) (s:AJ) (σ:St) (H:Hp) (vs:List V) (us:List AG) (Q:St->Hp->Prop),Inv X π σ H s->Vals vs us->t vs σ H Q ->
  A4 (model X.prog X.w) X.A (assignInOrder ((assignEach ts X.env).map (·.2)) us) (λ_ s'=>∃σ' H',Inv X π σ' H' s'/\Q σ' H') X.xe s
abbrev yep:=V->V->V->Hp->(Hp->Prop)->Prop
def ye9(X:Cx)(t:yep):Prop:=
 ∀(π:List (AI×CF)) (s:AJ) (σ:St) (H:Hp) (o i v:V) (ov iv u:AG) (Q:Hp->Prop),Inv X π σ H s->RelV o ov->RelV i iv->RelV v u->t o i v H Q ->
  A4 (model X.prog X.w) X.A (setItem ov iv u) (λ_ s'=>∃H',Inv X π σ H' s'/\Q H') X.xe s
abbrev TIp:=V->V->Hp->VK->Prop
def PIp(X:Cx)(op:De)(t:TIp):Prop:=
 ∀(π:List (AI×CF)) (s:AJ) (σ:St) (H:Hp) (x y:V) (v u:AG) (Q:VK),Inv X π σ H s->RelV x v->RelV y u->t x y H Q ->
  A4 (model X.prog X.w) X.A (inplaceOp op v u) (EP X π σ Q) X.xe s
section
variable {X:Cx}{pos:CV}
def yds(i:Nat):TG:=λv σ H Q=>Q (σ.set i (AA v)) H
def zhC{i:Nat}{x:AQ}(hN:X.N.Nodup)(hi:X.N[i]?=AA x)(hx:Loc X.env.scope x)(hf:X.fn x=AB \/ X.env.scope.names.lookup x=AA .local:=by first|exact .inl rfl|exact .inr rfl|assumption):PG X (.Name x pos) (yds i):=by
 intro π s σ H v u Q I r h;exact wpAny_assign_Name (zb9 I hN hi hx r (λs' I'=>⟨_,H,I',h⟩) hf)
def ygI:TGs:=λvs σ H Q=>vs=[]/\Q σ H
def yen(t:TG)(u:TGs):TGs:=λvs σ H Q=>∃v r,vs=v::r/\t v σ H λσ' H'=>u r σ' H' Q
def zqC:PGs X [] ygI:=by
 intro π s σ H vs us Q I r h;let⟨e,h⟩:=h;subst e
 cases r
 exact Ft ⟨σ,H,I,h⟩
def zjv{e:AV}{es:List AV}{t:TG}{u:TGs}(h1:PG X e t)(h2:PGs X es u)
  (hs:(assignEach (e::es) X.env).map (·.2)=assign e X.env::(assignEach es X.env).map (·.2):=by rfl):PGs X (e::es) (yen t u):=by
 intro π s σ H vs us Q I r h;let⟨v,vr,e1,h⟩:=h;subst e1
 cases r with
 |cons r rr=>
  rw[hs];refine ED (thn (h1 π s σ H _ _ _ I r h) λ_ s1 kq=>?_);let⟨σ1,H1,I1,q1⟩:=kq;exact h2 π s1 σ1 H1 _ _ Q I1 rr q1
def yf4(K:AF)(n:Nat)(t:TGs):TG:=λv σ H Q=>∃a xs,v=.ref a/\SqT K H a xs/\xs.length=n/\t xs σ H Q
def zoH{es:List AV}{k:Nat}{t:TGs}{n:Nat}(hc:X.calm=AB)(h:PGs X es t)
  (hn:(assignEach es X.env).length=n:=by rfl) (hst:(assignEach es X.env).findIdx? (·.1)=none:=by rfl):PG X (.Tuple es k pos) (yf4 X.K n t):=by
 intro π s σ H v u Q I r hw;let⟨a,xs,e1,hq,hl,hw⟩:=hw;subst e1
 cases r
 let⟨its,rv,ht,hz⟩:=I.tuple hq;refine assign_Tuple_tuple (I.ok.hd hc) ht (by simp[hn,<-hl,rv.length]) hst λh' hx=>?_;have I1:Inv X π σ H {s with heap:=h'}:=I.kept (t':=s.toks) λb o e=>hx b o (Ao (AY e)) e;exact h π _ σ H xs _ Q I1 (by simpa using rv) hw
def ye5(to ti:TE)(t:yep):TG:=λv σ H Q=>to σ H λo H1=>ti σ H1 λi H2=>t o i v H2 λH3=>Q σ H3
def zkF{o i:AV}{to ti:TE}{t:yep}(ho:PE X o to)(hi:PE X i ti)(hs:ye9 X t)
  (ha:∀v,assign (.Subscript o i pos) X.env v=(do
   let ov <-holding [v] (eval o X.env)
   let iv <-holding [v,ov] (eval i X.env)
   standAt pos
   holding [v,ov,iv] (setItem ov iv v)
   release [v,ov,iv] []):=by intro _;rfl):PG X (.Subscript o i pos) (ye5 to ti t):=by
 intro π s σ H v u Q I r h;rw[ha];refine AH (D8 (thn (ho π s σ H _ I h) λov s1 kq=>?_));let⟨x,H1,I1,r1,q1⟩:=kq;refine AH (D8 (thn (hi π s1 σ H1 _ I1 q1) λiv s2 kq=>?_));let⟨y,H2,I2,r2,q2⟩:=kq;refine AH (Eb (AH (D8 (thn (hs π s2 σ H2 x y v ov iv u _ I2 r1 r2 r q2) λ_ s3 kq=>?_))));let⟨H3,I3,q3⟩:=kq;exact wpAny_release ⟨σ,H3,I3,q3⟩
def yfj(te:TE)(g:TG):TS:=λD σ H=>te σ H λx H1=>g x σ H1 D.nx
def zla{tg e:AV}{te:TE}{g:TG}(he:PE X e te)(hg:PG X tg g)(hs:swapsWithSole [tg] e pos.line X.env=pure false:=by rfl)(hw:swappedStores [tg] e X.env=pure none:=by rfl)
  (h1:(assignEach [tg] X.env).map (·.2)=[assign tg X.env]:=by rfl):PS X (.Assign [tg] e pos) (yfj te g):=by
 intro π s σ H D I h;refine wpAny_Assign_stores (thn (he π s σ H _ I h) λv s1 kq=>?_) hs hw;let⟨x,H1,I1,r1,q1⟩:=kq;rw[h1];exact thn (hg π s1 σ H1 x v _ I1 r1 q1) λ_ s2 q=>q
def zkN{i:Nat}{x:AQ}{e:AV}{te:TE}{pos':CV}(hN:X.N.Nodup)(hi:X.N[i]?=AA x)(hx:Loc X.env.scope x)(he:PE X e te)(hs:swapsWith e (AA (.Name x pos')) pos.line X.env=pure false:=by rfl)(hf:X.fn x=AB \/ X.env.scope.names.lookup x=AA .local:=by first|exact .inl rfl|exact .inr rfl|assumption):
  PS X (.Assign [.Name x pos'] e pos) (yfj te (yds i)):=by
 intro π s σ H D I h;refine wpAny_Assign_Name (thn (he π s σ H _ I h) λv s1 kq=>?_) hs;let⟨y,H1,I1,r1,q1⟩:=kq;exact zb9 I1 hN hi hx r1 (λs2 I2=>⟨_,H1,I2,q1⟩) hf
def yfo(i j:Nat)(ta:TA):TS:=λD σ H=>ta σ H λvs H1=>∃v w,vs=[v,w]/\D.nx ((σ.set i (AA v)).set j (AA w)) H1
def znp{i j:Nat}{x y:AQ}{a b:AV}{ta:TA}{px py pt:CV}{kt k2 pt2}(hc:X.calm=AB)(hN:X.N.Nodup)(hi:X.N[i]?=AA x)(hj:X.N[j]?=AA y)(hij:i≠j)
  (hx:X.env.scope.names.lookup x=AA .local) (hy:X.env.scope.names.lookup y=AA .local) (ha:PA X [a,b] ta)
  (hw:swappedStores [.Tuple [.Name x px,.Name y py] kt pt] (.Tuple [a,b] k2 pt2) X.env=pure (AA [x,y]))
  (hs:swapsWithSole [.Tuple [.Name x px,.Name y py] kt pt] (.Tuple [a,b] k2 pt2) pos.line X.env=pure false:=by rfl):
  PS X (.Assign [.Tuple [.Name x px,.Name y py] kt pt] (.Tuple [a,b] k2 pt2) pos) (yfo i j ta):=by
 intro π s σ H D I h;rw[exec_Assign_arm];refine AH (Eb ?_);rw[hs];refine AH (AX ?_);rw[if_neg ⋯];refine AH (Tuple_ (thn (ha _ π s σ H _ I h) λus s1 kq=>?_));let⟨vs,H1,I1,r1,q1⟩:=kq;let⟨v,w,e1,q1⟩:=q1;subst e1;obtain⟨u1,u2,rfl,rv,rw'⟩:∃u1 u2,us=[u1,u2]/\RelV v u1/\RelV w u2:=by
  cases r1 with
  |cons p q=>
   cases q with
   |cons p' q'=>
    cases q'
    exact⟨_,_,rfl,p,p'⟩
 refine Bp ?_ (by show 2<=sizeLine;decide);have I2:Inv X π σ H1 {s1 with heap:=s1.heap.push {cls:=.type "tuple",data:=.seq [u1,u2].toArray} }:=I1.kept (t':=s1.toks) λb o e=>AR _ e;rw[hw];refine AH (AX ?_);show A4 (model X.prog X.w) X.A (do rule "assign.swapped-stores";let items <-unpackItems (.ref s1.heap.objs.size) 2 AD;assignInOrder [λv=>bindName X.env y v,λv=>bindName X.env x v] items.reverse;pure Flow.next) _ _ _;refine AH (Eo (AH (unpackItems_tuple (items:=#[u1,u2]) (I.ok.hd hc) (GO s1.heap _) λh' hx'=>?_)));have I3:=I2.kept (h':=h') (t':=s1.toks) λb o e=>hx' b o (Ao (AY e)) e;show A4 _ _ (assignInOrder [λv=>bindName X.env y v,λv=>bindName X.env x v] [u2,u1] >>= λ_=>pure Flow.next) _ _ _;refine AH (ED (wpAny_bindName (zb9 I3 hN hj (.inl hy) rw' (λs2 I4=>?_) (.inr hy))));refine ED (wpAny_bindName (zb9 I4 hN hi (.inl hx) rv (λs3 I5=>Ft (AX ?_)) (.inr hx)));rw[Gx _ _ (BN hij)]at I5;exact⟨_,H1,I5,q1⟩
def yfV(i:Nat)(te:TE)(ti:TIp):TS:=λD σ H=>∃x,σ[i]?=AA (AA x)/\te σ H λy H1=>ti x y H1 λz H2=>D.nx (σ.set i (AA z)) H2
def zkw{i:Nat}{x:AQ}{e:AV}{te:TE}{op:De}{ti:TIp}{pos':CV}(hN:X.N.Nodup)(hi:X.N[i]?=AA x)(hx:Loc X.env.scope x)(he:PE X e te)(ho:PIp X op ti)(hf:X.fn x=AB \/ X.env.scope.names.lookup x=AA .local:=by first|exact .inl rfl|exact .inr rfl|assumption):
  PS X (.AugAssign (.Name x pos') op e pos) (yfV i te ti):=by
 intro π s σ H D I h;let⟨v,e1,h⟩:=h;let⟨m,hn,hl⟩:=I.loc;have vis:Vis X.env.scope x:=by rcases hx with k|k;exact .inl k;exact .inr (.inl k)
 let⟨u,r,l⟩:=hl i x v hi e1 vis;refine wpAny_AugAssign_Name ?_;have go:A4 (model X.prog X.w) X.A (eval e X.env) (λw s₂=>A4 (model X.prog X.w) X.A (inplaceOp op u w) (λr s₃=>A4 (model X.prog X.w) X.A (storeName X.env x r) (λ_=>SP X π D .next) X.xe s₃) X.xe s₂) X.xe s:=by
  refine thn (he π s σ H _ I h) λw s1 kq=>?_;let⟨y,H1,I1,r1,q1⟩:=kq;refine thn (ho π s1 σ H1 v y u w _ I1 r r1 q1) λz s2 kq=>?_;let⟨zv,H2,I2,r2,q2⟩:=kq;exact zb9 I2 hN hi hx r2 (λs3 I3=>⟨_,H2,I3,q2⟩) hf
 rcases l with⟨hk,hm⟩|⟨hk,c,hc,hcell⟩
 .exact FM I.ok.kind hk hn hm go
 .rcases hk with hk|hk
  .exact F3 I.ok.kind hk hc hcell go
  .rcases hx with k|k
   .have:X.env.scope.names.lookup x=AA .free:=hk;rw[k]at this;cases this
   .have:X.env.scope.names.lookup x=AA .free:=hk;rw[k]at this;cases this
def ipI(f:Int->Int->Int):TIp:=λx y H Q=>∃i j,x=.int i/\y=.int j/\Q (.int (f i j)) H
def znE:PIp X .Add (ipI λi j=>i+j):=by
 intro π s σ H x y v u Q I r1 r2 h;let⟨i,j,e1,e2,q⟩:=h;subst e1;subst e2;let⟨t,rfl⟩:=r1;let⟨t',rfl⟩:=r2;exact Gc ⟨.int _,H,I.tok _,⟨_,rfl⟩,q⟩
end
section
variable {X:Cx}{pos:CV}
def ydq(c:TT)(tb:TS):TS:=λD σ H=>∃W:Nat->St->Hp->Prop,(∃m,W m σ H)/\∀m σ H,W m σ H ->
 c σ H λb H1=>if b=AB then ∃N:St->Hp->Prop,(∀σ' H',N σ' H'->∃m',m' < m/\W m' σ' H')/\tb {D with nx:=N,ct:=N,bk:=D.nx} σ H1 else D.nx σ H1
def zjO{c:AV}{body:List Bz}{tc:TT}{tb:TS}(hp:Ee (model X.prog X.w) X.A X.env X.xe)(hc:PT X c tc)(hb:PSs X body tb):PS X (.While c body [] pos) (ydq tc tb):=by
 intro π s σ H D I h;let⟨W,⟨m0,w0⟩,turn⟩:=h;refine wpAny_While (codeAny_whileLoop (λn s'=>∃σ' H',Inv X π σ' H' s'/\W n σ' H') ?_ m0 ⟨σ,H,I,w0⟩)
 rintro n s1 ⟨σ1,H1,I1,w1⟩
 refine CT hp (thn (hc π s1 σ1 H1 _ I1 (turn n σ1 H1 w1)) λb s2 kq=>?_);let⟨H2,I2,q2⟩:=kq
 cases b with
 |true=>
  let⟨N,hN,q2⟩:=q2;rw[if_pos rfl];refine CT hp (thn (hb π s2 σ1 H2 _ I2 q2) λf s3 q3=>?_)
  cases f with
  |next=>
   let⟨σ3,H3,I3,n3⟩:=q3;let⟨m',hm,w3⟩:=hN σ3 H3 n3;exact⟨m',hm,σ3,H3,I3,w3⟩
  |cont=>
   let⟨σ3,H3,I3,n3⟩:=q3;let⟨m',hm,w3⟩:=hN σ3 H3 n3;exact⟨m',hm,σ3,H3,I3,w3⟩
  |brk=>exact q3
  |ret v=>exact q3
 |false=>
  rw[if_neg BC];exact Di ⟨σ1,H2,I2,q2⟩
end
structure It where
 go:Nat->Hp->Prop
 yld:Nat->Hp->V->Hp->Prop
 stop:Nat->Hp->Prop
def ybp(X:Cx)(π:List (AI×CF))(H:Hp)(b:AI):Prop:=
 H b=AD/\b≠X.env.locals/\b∉X.fs/\(b∈X.ex \/ X.s₀.heap.objs.size<=b)/\(∀x c,X.env.cells.lookup x=AA c->c≠b)/\∀p∈X.pn++π,p.1≠b
theorem Inv.fpOk{X:Cx}{π:List (AI×CF)}{σ:St}{H H':Hp}{s:AJ}{b:AI}(I:Inv X π σ H s)(hb:s.heap.objs.size<=b)(hn:H' b=AD):ybp X π H' b:=by
 refine⟨hn,Ep (A3 I.lt hb),I.nofs hb,.inr (BU I.sz hb),λx c e z=>?_,λp hp z=>?_⟩
 .let⟨v,q⟩:=I.cell x c e;exact absurd (A3 q.lt (by rw[z];exact hb)) (Cz _)
 .exact absurd (A3 (AY (I.pin p hp).1) (by rw[z];exact hb)) (Cz _)
structure Turn(P:A8)(w:An)(K:AF)(tg:AV)(J:It)(fp:List AI)(it:AI)(tn:Nat->BF->Prop):Prop where
 mem:it∈fp
 obj:∀i h,tn i h->∀b∈fp,∃o,h.get? b=AA o/\∀v,o.data ≠ .cell v
 keep:∀i h h',tn i h->(∀b∈fp,∀o,h.get? b=AA o->h'.get? b=AA o)->tn i h'
 item:∀(X:Cx),X.prog=P->X.w=w->X.K=K->X.calm=AB->∀(i:Nat) (π:List (AI×CF)) (s:AJ) (σ:St) (H:Hp) (E:AG->AJ->Prop),Inv X π σ H s->(∀b∈fp,ybp X π H b)->tn i s.heap->J.go i H ->
  A4 (model P w) X.A (pyNext (.ref it)) (λr s1=>∃u,r=AA u /\
   A4 (model P w) X.A (letOwnedTupleGo tg (.ref it) u) (λ_ s2=>∃x H',Inv X π σ H' s2/\RelV x u/\J.yld i H x H'/\tn (i+1) s2.heap/\∀b∈fp,H' b=AD) E s1) E s
 done:∀(X:Cx),X.prog=P->X.w=w->X.K=K->X.calm=AB->∀(i:Nat) (π:List (AI×CF)) (s:AJ) (σ:St) (H:Hp) (E:AG->AJ->Prop),Inv X π σ H s->(∀b∈fp,ybp X π H b)->tn i s.heap->J.stop i H ->
  A4 (model P w) X.A (pyNext (.ref it)) (λr s1=>r=AD/\Inv X π σ H s1) E s
 self:∀(A:Au) (i:Nat) (s:AJ) (Q:AG->AJ->Prop) (E:AG->AJ->Prop),tn i s.heap->Q (.ref it) s->A4 (model P w) A (pyIter (.ref it)) Q E s
abbrev TI:=St->Hp->(It->Hp->Prop)->Prop
def PIE(X:Cx)(π:List (AI×CF))(σ:St)(tg:AV)(R:It->Hp->Prop)(itv:AG)(s2:AJ):Prop:=
 ∃(it:AI) (fp:List AI) (tn:Nat->BF->Prop) (J:It) (H':Hp),itv=.ref it/\Inv X π σ H' s2/\Turn X.prog X.w X.K tg J fp it tn/\tn 0 s2.heap/\(∀b∈fp,ybp X π H' b)/\R J H'
def PI(X:Cx)(tg iter:AV)(wi:TI):Prop:=
 ∀(π:List (AI×CF)) (s:AJ) (σ:St) (H:Hp) (R:It->Hp->Prop),Inv X π σ H s->wi σ H R ->
  A4 (model X.prog X.w) X.A (eval iter X.env) (λv s1=>A4 (model X.prog X.w) X.A (pyIter v) (PIE X π σ tg R) X.xe s1) X.xe s
def zlt{M:Model}{A:Au}{E:AG->AJ->Prop}{s:AJ}{tg:AV}{it:AI}{u:AG}{o:CF}{n:String}{vs:Array AG}{Q:Unit->AJ->Prop}(ho:s.heap.get? it=AA o)(hc:o.cls=.type n)(hd:o.data=.fields vs)
  (hn:["enumerate","zip","dict_itemiterator","dict_reverseitemiterator","odict_iterator","itertools.zip_longest","itertools.pairwise"].contains n=AC) (hQ:Q () s):A4 M A (letOwnedTupleGo tg (.ref it) u) Q E s:=by
 unfold letOwnedTupleGo
 cases tg<;>first
  |exact AX hQ
  | (cases u<;>first
    |exact AX hQ
    | (refine AH (wpAny_load ho ?_)
       rw[hc,hd];show A4 M A (if (["enumerate","zip","dict_itemiterator","dict_reverseitemiterator","odict_iterator","itertools.zip_longest","itertools.pairwise"].contains n&&vs[0]? == AA (rawInt _))=AB then _ else _) Q E s;rw[if_neg (by intro h;rw[hn,Gh]at h;cases h)];exact AX hQ))
def Itl(K:AF)(a:AI):It:=
 ⟨λi H=>∃xs x,SqL K H a xs/\xs[i]?=AA x,λi H x H'=>H'=H/\∀xs,SqL K H a xs->xs[i]?=AA x,λi H=>∃xs,SqL K H a xs/\xs.length<=i⟩
def Itt(K:AF)(a:AI):It:=
 ⟨λi H=>∃xs x,SqT K H a xs/\xs[i]?=AA x,λi H x H'=>H'=H/\∀xs,SqT K H a xs->xs[i]?=AA x,λi H=>∃xs,SqT K H a xs/\xs.length<=i⟩
def Itr(lo:Int)(n:Nat):It:=⟨λi _=>i<n,λi H x H'=>H'=H/\x=.int (lo+i),λi _=>n<=i⟩
def zhM{P:A8}{w:An}{K:AF}{tg:AV}(a it:AI):Turn P w K tg (Itl K a) [it] it (λi h=>h.IsListIter it a i) where
 mem:=by simp
 obj:=λi h st b hb=>by
  have e:b=it:=by simpa using hb
  subst e;let⟨o,e,c,d⟩:=st;exact⟨o,e,λv z=>by rw[d]at z;cases z⟩
 keep:=λi h h' st k=>st.at λo e=>k it (by simp) o e
 item:=by
  intro X hP hw hK hc i π s σ H E I hf st hg;subst hP hw hK;let⟨xs,x,hq,hx⟩:=hg;let⟨its,rv,p,hz⟩:=I.list hq;let⟨u,hu,ru⟩:=rv.get hx;let⟨f0,f1,f2,f3,f4,f5⟩:=hf it (by simp);refine wpAny_pyNext_list_item st p.isList (x:=u) (by simpa using hu) λh' st' sb=>?_;have I1:Inv X π σ H {s with heap:=h'}:=I.turned (t':=s.toks) (λb o hb e=>(sb.2 b hb).trans e) f0 f1 f3 f4 f5;let⟨o,e,c,d⟩:=id st';exact⟨u,rfl,zlt (s:={s with heap:=h'}) e c d ⋯ ⟨x,H,I1,ru,⟨rfl,λys hy=>by rw[I.list_inj hy hq];exact hx⟩,st',λb hb=>(hf b hb).1⟩⟩
 done:=by
  intro X hP hw hK hc i π s σ H E I hf st hg;subst hP hw hK;let⟨xs,hq,hx⟩:=hg;let⟨its,rv,p,hz⟩:=I.list hq;let⟨f0,f1,f2,f3,f4,f5⟩:=hf it (by simp);have hl:=rv.length;exact wpAny_pyNext_list_end (I.ok.hd hc) st p.isList (by simp;lia) λh' eb=>⟨rfl,I.turned (t':=s.toks) (λb o hb e=>eb b o hb e) f0 f1 f3 f4 f5⟩
 self:=λ_ _ _ _ _ st h=>wpAny_pyIter_listiter st h
def zgP{P:A8}{w:An}{K:AF}{tg:AV}(a it:AI):Turn P w K tg (Itt K a) [it] it (λi h=>h.IsTupleIter it a i) where
 mem:=by simp
 obj:=λi h st b hb=>by
  have e:b=it:=by simpa using hb
  subst e;let⟨o,e,c,d⟩:=st;exact⟨o,e,λv z=>by rw[d]at z;cases z⟩
 keep:=λi h h' st k=>st.at λo e=>k it (by simp) o e
 item:=by
  intro X hP hw hK hc i π s σ H E I hf st hg;subst hP hw hK;let⟨xs,x,hq,hx⟩:=hg;let⟨its,rv,p,hz⟩:=I.tuple hq;let⟨u,hu,ru⟩:=rv.get hx;let⟨f0,f1,f2,f3,f4,f5⟩:=hf it (by simp);refine wpAny_pyNext_tuple_item st (show s.heap.IsTuple a its.toArray from p) (x:=u) (by simpa using hu) λh' st' sb=>?_;have I1:Inv X π σ H {s with heap:=h'}:=I.turned (t':=s.toks) (λb o hb e=>(sb.2 b hb).trans e) f0 f1 f3 f4 f5;let⟨o,e,c,d⟩:=id st';exact⟨u,rfl,zlt (s:={s with heap:=h'}) e c d ⋯ ⟨x,H,I1,ru,⟨rfl,λys hy=>by rw[I.tuple_inj hy hq];exact hx⟩,st',λb hb=>(hf b hb).1⟩⟩
 done:=by
  intro X hP hw hK hc i π s σ H E I hf st hg;subst hP hw hK;let⟨xs,hq,hx⟩:=hg;let⟨its,rv,p,hz⟩:=I.tuple hq;let⟨f0,f1,f2,f3,f4,f5⟩:=hf it (by simp);have hl:=rv.length;exact wpAny_pyNext_tuple_end (I.ok.hd hc) st (show s.heap.IsTuple a its.toArray from p) (by simp;lia) λh' eb=>⟨rfl,I.turned (t':=s.toks) (λb o hb e=>eb b o hb e) f0 f1 f3 f4 f5⟩
 self:=λ_ _ _ _ _ st h=>wpAny_pyIter_tupleiter st h
def zgR{P:A8}{w:An}{K:AF}{tg:AV}(it:AI)(lo:Int)(n:Nat):Turn P w K tg (Itr lo n) [it] it (λi h=>IsRangeIter h it (lo+(i:Nat)*1) ((n:Int)-(i:Nat)) 1) where
 mem:=by simp
 obj:=λi h st b hb=>by
  have e:b=it:=by simpa using hb
  subst e;exact⟨_,st,λv z=>by
   have z':Data.fields _=Data.cell v:=z
   cases z'⟩
 keep:=λi h h' st k=>k it (by simp) _ st
 item:=by
  intro X hP hw hK hc i π s σ H E I hf st hg;subst hP hw hK;let⟨f0,f1,f2,f3,f4,f5⟩:=hf it (by simp);have W:=Walks.range (prog:=X.prog) (w:=X.w) (I.ok.hd hc) it lo 1 n;refine W.item i s _ _ hg st λv h' tk hv st' kk=>?_;let⟨t,rfl⟩:=hv;have I1:Inv X π σ H {s with heap:=h',toks:=tk}:=I.turned (λb o hb e=>kk b o (by simpa using hb) e) f0 f1 f3 f4 f5;refine⟨_,rfl,zlt (s:={s with heap:=h',toks:=tk}) (n:="range_iterator") st' rfl rfl ⋯ ⟨.int (lo+i),H,I1,⟨t,?_⟩,⟨rfl,rfl⟩,st',λb hb=>(hf b hb).1⟩⟩;rw[CW]
 done:=by
  intro X hP hw hK hc i π s σ H E I hf st hg;subst hP hw hK;let⟨f0,f1,f2,f3,f4,f5⟩:=hf it (by simp);exact wpAny_pyNext_range_end (I.ok.hd hc) st (by have:n<=i:=hg;lia) λh' eb=>⟨rfl,I.turned (t':=s.toks) (λb o hb e=>eb b o hb e) f0 f1 f3 f4 f5⟩
 self:=λ_ _ _ _ _ st h=>wpAny_pyIter_rangeiter st h
section
variable {X:Cx}{tg:AV}
def zjL{π:List (AI×CF)}{σ:St}{H:Hp}{s:AJ}{R:It->Hp->Prop}{E:AG->AJ->Prop}{lo hi:Int}{t u v:Hf}{tk:Nat}(I:Inv X π σ H s)(h1:-(2^62)<=lo)(h2:lo<2^62)(h3:-(2^62)<=hi)(h4:hi<2^62)
  (q:R (Itr lo (hi-lo).toNat) H):A4 (model X.prog X.w) X.A (pyIter (.ref s.heap.objs.size)) (PIE X π σ tg R) E {s with heap:=s.heap.push {cls:=.type "range",data:=.fields #[.int lo t,.int hi u,.int 1 v]},toks:=tk}:=by
 refine wpAny_pyIter_range (IsRange.new ..) (small_one h1 h2 h3 h4) ?_;have I1:Inv X π σ H {s with heap:=s.heap.push {cls:=.type "range",data:=.fields #[.int lo t,.int hi u,.int 1 v]},toks:=tk}:=I.kept λb o e=>AR _ e;refine⟨(s.heap.push {cls:=.type "range",data:=.fields #[.int lo t,.int hi u,.int 1 v]}).objs.size,[(s.heap.push {cls:=.type "range",data:=.fields #[.int lo t,.int hi u,.int 1 v]}).objs.size],_,_,H,rfl,
  I1.kept (t':=tk) λb o e=>AR _ e,zgR _ lo (hi-lo).toNat,?_,λb hb=>?_,q⟩
 .have e1:lo+((0:Nat):Int)*1=lo:=by simp
  have e2:(((hi-lo).toNat:Nat):Int)-((0:Nat):Int)=HA lo hi 1:=by rw[rangeSize_one];split<;>lia
  show IsRangeIter _ _ (lo+((0:Nat):Int)*1) ((((hi-lo).toNat:Nat):Int)-((0:Nat):Int)) 1;rw[e1,e2];exact A2 _ rfl
 .have e:b=(s.heap.push {cls:=.type "range",data:=.fields #[.int lo t,.int hi u,.int 1 v]}).objs.size:=by simpa using hb
  subst e;exact I1.fpOk (AU _) (I1.hok.fresh (AU _))
def yed(ta:TA):TI:=λσ H R=>ta σ H λvs H1=>∃j:Int,vs=[.int j]/\-(2^62)<=j/\j<2^62/\R (Itr 0 j.toNat) H1
def ziM{a:AV}{ta:TA}{p pos:CV}(hg:Gl X "range")(hm:X.mg "range"=AD)(ha:PA X [a] ta)(hs:starEach [a] X.env=[(AC,eval a X.env)]:=by rfl):PI X tg (.Call (.Name "range" p) [a] [] pos) (yed ta):=by
 intro π s σ H R I h;refine Call_ (zd4 I hg hm boot_range (CH (thn (ha pos π s σ H _ I h) λus s1 kq=>?_) hs rfl));let⟨vs,H1,I1,r1,q1⟩:=kq;let⟨j,e,q1,q2,q⟩:=q1;subst e
 cases r1 with
 |cons r rr=>
  cases rr
  let⟨t,rfl⟩:=r;exact call_range_1 (zjL I1 ∅ ∅ q1 q2 (by simpa using q))
def ygZ(wi:TI)(g:TG)(tb:TS):TS:=λD σ H=>wi σ H λJ H1=>∃W:Nat->Nat->St->Hp->Prop,(∃m,W 0 m σ H1)/\∀i m σ H,W i m σ H ->
 (J.stop i H/\D.nx σ H) \/ (J.go i H/\∃N:St->Hp->Prop,(∀σ' H',N σ' H'->∃m',m' < m/\W (i+1) m' σ' H')/\∀x H',J.yld i H x H'->g x σ H' λσ2 H2=>tb {D with nx:=N,ct:=N,bk:=D.nx} σ2 H2)
def ybh(fp:List AI)(h:BF):List (AI×CF):=fp.filterMap λb=>(h.get? b).map λo=>(b,o)
def zby{fp:List AI}{h:BF}{b:AI}{o:CF}(hb:b∈fp)(e:h.get? b=AA o):(b,o)∈ybh fp h:=EF.mpr ⟨b,hb,by rw[e];rfl⟩
def zhq{fp:List AI}{h:BF}{p:AI×CF}(hp:p∈ybh fp h):p.1∈fp/\h.get? p.1=AA p.2:=by
 let⟨b,hb,e⟩:=EF.mp hp
 cases q:h.get? b with
 |none=>rw[q]at e;cases e
 |some o=>
  rw[q]at e;have e':(b,o)=p:=AZ e;subst e';exact⟨hb,q⟩
theorem Inv.pinned{π:List (AI×CF)}{σ:St}{H:Hp}{s:AJ}{fp:List AI}(I:Inv X π σ H s)(hf:∀b∈fp,ybp X π H b)(ho:∀b∈fp,∃o,s.heap.get? b=AA o/\∀v,o.data ≠ .cell v):Inv X (π++ybh fp s.heap) σ H s:=
 I.pins_of λp hp=>(BM.mp hp).elim (λz=>I.pin p (BK _ z)) λz=>by
  let⟨hb,e⟩:=zhq z;let⟨f0,f1,f2,_⟩:=hf p.1 hb;let⟨o,e',d⟩:=ho p.1 hb;rw[e]at e';cases e';exact⟨e,f0,f1,f2,d⟩
theorem Inv.unpinned{π pl:List (AI×CF)}{σ:St}{H:Hp}{s:AJ}(I:Inv X (π++pl) σ H s):Inv X π σ H s:=I.pins_of λp hp=>I.pin p (BK _ (Dd _ hp))
def zoX{iter:AV}{body:List Bz}{wi:TI}{g:TG}{tb:TS}{pos:CV}(hp:Ee (model X.prog X.w) X.A X.env X.xe)(hc:X.calm=AB)(hi:PI X tg iter wi)(hg:PG X tg g)(hb:PSs X body tb)
  (hs:∀x,foldedSetIterable iter X.env x=pure x:=by intro _;rfl):PS X (.For tg iter body [] pos) (ygZ wi g tb):=by
 intro π s σ H D I h;refine wpAny_For (thn (hi π s σ H _ I h) λv s1 h1=>thn h1 λitv s2 h2=>?_) hs;let⟨it,fp,tn,J,H2,e,I2,T,st2,f2,W,⟨m0,w0⟩,turn⟩:=h2;subst e;have stat:∀{H':Hp},(∀b∈fp,H' b=AD)->∀b∈fp,ybp X π H' b:=λhn b hb=>⟨hn b hb,(f2 b hb).2⟩;refine codeAny_forLoop_any (λn s'=>∃i σ' H',Inv X π σ' H' s'/\tn i s'.heap/\(∀b∈fp,H' b=AD)/\W i n σ' H') ?_ m0 ⟨0,σ,H2,I2,st2,λb hb=>(f2 b hb).1,w0⟩
 rintro n s3 ⟨i,σ3,H3,I3,st3,fr3,w3⟩
 rcases turn i n σ3 H3 w3 with⟨stop,qn⟩|⟨go,N,hN,step⟩
 .refine CT hp (thn (T.done X rfl rfl rfl hc i π s3 σ3 H3 X.xe I3 (stat fr3) st3 stop) λr s4 kq=>?_);let⟨hr,I4⟩:=kq;subst hr;exact Di ⟨σ3,H3,I4,qn⟩
 .refine CT hp (thn (T.item X rfl rfl rfl hc i π s3 σ3 H3 X.xe I3 (stat fr3) st3 go) λr s4 kq=>?_);let⟨u,hr,h4⟩:=kq;subst hr;refine CT hp (thn h4 λ_ s5 kq=>?_);let⟨x,H5,I5,r5,y5,st5,fr5⟩:=kq;have I5':=I5.pinned (stat fr5) (T.obj _ _ st5);refine CT hp (thn (hg _ s5 σ3 H5 x u _ I5' r5 (step x H5 y5)) λ_ s6 kq=>?_);let⟨σ6,H6,I6,q6⟩:=kq;refine CT hp (thn (hb _ s6 σ6 H6 _ I6 q6) λf s7 q7=>?_);have again:∀{σ7:St} {H7:Hp},Inv X (π++ybh fp s5.heap) σ7 H7 s7->N σ7 H7->∃m,m<n/\∃i σ' H',Inv X π σ' H' s7/\tn i s7.heap/\(∀b∈fp,H' b=AD)/\W i m σ' H':=λ{σ7 H7} I7 n7=>by
   let⟨m',hm,w7⟩:=hN σ7 H7 n7;refine⟨m',hm,i+1,σ7,H7,I7.unpinned,T.keep _ _ _ st5 λb hb o e=>(I7.pin (b,o) (BK _ (BK _ (zby hb e)))).1,λb hb=>?_,w7⟩;let⟨o,e,d⟩:=T.obj _ _ st5 b hb;exact(I7.pin (b,o) (BK _ (BK _ (zby hb e)))).2.1
  cases f with
  |next=>let⟨σ7,H7,I7,n7⟩:=q7;exact again I7 n7
  |cont=>let⟨σ7,H7,I7,n7⟩:=q7;exact again I7 n7
  |brk=>let⟨σ7,H7,I7,q7⟩:=q7;exact⟨σ7,H7,I7.unpinned,q7⟩
  |ret v=>let⟨x7,σ7,H7,I7,r7,q7⟩:=q7;exact⟨x7,σ7,H7,I7.unpinned,r7,q7⟩
end
abbrev R2:=V->V->Hp->VK->Prop
def OpR(X:Cx)(f:AG->AG->Gw AG)(r:R2):Prop:=
 ∀(π:List (AI×CF)) (s:AJ) (σ:St) (H:Hp) (x y:V) (v u:AG) (Q:VK),Inv X π σ H s->RelV x v->RelV y u->r x y H Q ->
  A4 (model X.prog X.w) X.A (f v u) (EP X π σ Q) X.xe s
def UnR(X:Cx)(f:AG->Gw AG)(r:V->Hp->VK->Prop):Prop:=
 ∀(π:List (AI×CF)) (s:AJ) (σ:St) (H:Hp) (x:V) (v:AG) (Q:VK),Inv X π σ H s->RelV x v->r x H Q ->
  A4 (model X.prog X.w) X.A (f v) (EP X π σ Q) X.xe s
def yad(X:Cx)(f:AG)(r:List V->Hp->VK->Prop):Prop:=
 ∀(π:List (AI×CF)) (s:AJ) (σ:St) (H:Hp) (xs:List V) (us:List AG) (Q:VK),Inv X π σ H s->Vals xs us->r xs H Q ->
  A4 (model X.prog X.w) X.A (call f us) (EP X π σ Q) X.xe s
def ygV(X:Cx)(r:V->Hp->(Bool->Hp->Prop)->Prop):Prop:=
 ∀(π:List (AI×CF)) (s:AJ) (σ:St) (H:Hp) (x:V) (v:AG) (Q:Bool->Hp->Prop),Inv X π σ H s->RelV x v->r x H Q ->
  A4 (model X.prog X.w) X.A (truthy v) (TP X π σ Q) X.xe s
def tOp(r:R2)(ta tb:TE):TE:=λσ H Q=>ta σ H λx H1=>tb σ H1 λy H2=>r x y H2 Q
def tUn(r:V->Hp->VK->Prop)(ta:TE):TE:=λσ H Q=>ta σ H λx H1=>r x H1 Q
def rI(C:Int->Int->Prop)(g:Int->Int->V):R2:=λx y H Q=>∃i j,x=.int i/\y=.int j/\C i j/\Q (g i j) H
def rI0(g:Int->Int->V):R2:=λx y H Q=>∃i j,x=.int i/\y=.int j/\Q (g i j) H
def rU(g:Int->V):V->Hp->VK->Prop:=λx H Q=>∃i,x=.int i/\Q (g i) H
section
variable {X:Cx}{a b c:AV}{ta tb tc:TE}{pos:CV}
def znA(ha:PE X a ta)(hb:PE X b tb){π:List (AI×CF)}{s:AJ}{σ:St}{H:Hp}{R:V->V->Hp->Prop}(I:Inv X π σ H s)
  (h:ta σ H λx H1=>tb σ H1 λy H2=>R x y H2) {Q:AG->AJ->Prop} {f:AG->AG->Gw AG}
  (hf:∀v u s2 x y H2,Inv X π σ H2 s2->RelV x v->RelV y u->R x y H2->A4 (model X.prog X.w) X.A (f v u) Q X.xe s2):
  A4 (model X.prog X.w) X.A (eval a X.env) (λv s₁=>A4 (model X.prog X.w) X.A (eval b X.env) (λu s₂=>A4 (model X.prog X.w) X.A (f v u) Q X.xe s₂) X.xe s₁) X.xe s:=by
 refine thn (ha π s σ H _ I h) λv s1 kq=>?_;let⟨x,H1,I1,r1,q1⟩:=kq;refine thn (hb π s1 σ H1 _ I1 q1) λu s2 kq=>?_;let⟨y,H2,I2,r2,q2⟩:=kq;exact hf v u s2 x y H2 I2 r1 r2 q2
def zpQ{op:De}{r:R2}(ho:OpR X (binaryOp op) r)(ha:PE X a ta)(hb:PE X b tb):PE X (.BinOp a op b pos) (tOp r ta tb):=by
 intro π s σ H Q I h;exact wpAny_BinOp (znA ha hb I h λv u s2 x y H2 I2 rx ry q=>ho π s2 σ H2 x y v u Q I2 rx ry q)
def zpR{op:UnaryOp}{r:V->Hp->VK->Prop}(ho:UnR X (unaryOp op) r)(ha:PE X a ta):PE X (.UnaryOp op a pos) (tUn r ta):=by
 intro π s σ H Q I h;exact UnaryOp_ (thn (ha π s σ H _ I h) λv s1 ⟨x,H1,I1,r1,q1⟩=>ho π s1 σ H1 x v Q I1 r1 q1)
theorem opI{f:AG->AG->Gw AG}{C:Int->Int->Prop}{g:Int->Int->Int}
  (rule:∀(i j:Int) (t u:Hf) (s:AJ) (Q:AG->AJ->Prop) (E:AG->AJ->Prop),C i j->Q (.int (g i j) s.toks) {s with toks:=s.toks+1}->A4 (model X.prog X.w) X.A (f (.int i t) (.int j u)) Q E s):
  OpR X f (rI C λi j=>.int (g i j)):=by
 intro π s σ H x y v u Q I rx ry h;let⟨i,j,rfl,rfl,hc,q⟩:=h;let⟨t,rfl⟩:=rx;let⟨t',rfl⟩:=ry;exact rule i j t t' s _ _ hc ⟨.int (g i j),H,I.tok _,⟨_,rfl⟩,q⟩
def ziJ{f:AG->AG->Gw AG}{g:Int->Int->Int}
  (rule:∀(i j:Int) (t u:Hf) (s:AJ) (Q:AG->AJ->Prop) (E:AG->AJ->Prop),Q (.int (g i j) s.toks) {s with toks:=s.toks+1}->A4 (model X.prog X.w) X.A (f (.int i t) (.int j u)) Q E s):
  OpR X f (rI0 λi j=>.int (g i j)):=by
 intro π s σ H x y v u Q I rx ry h;let⟨i,j,rfl,rfl,q⟩:=h;let⟨t,rfl⟩:=rx;let⟨t',rfl⟩:=ry;exact rule i j t t' s _ _ ⟨.int (g i j),H,I.tok _,⟨_,rfl⟩,q⟩
def zmh{f:AG->AG->Gw AG}{g:Int->Int->Bool}
  (rule:∀(i j:Int) (t u:Hf) (s:AJ) (Q:AG->AJ->Prop) (E:AG->AJ->Prop),Q (.bool (g i j)) s->A4 (model X.prog X.w) X.A (f (.int i t) (.int j u)) Q E s):
  OpR X f (rI0 λi j=>.bl (g i j)):=by
 intro π s σ H x y v u Q I rx ry h;let⟨i,j,rfl,rfl,q⟩:=h;let⟨t,rfl⟩:=rx;let⟨t',rfl⟩:=ry;exact rule i j t t' s _ _ ⟨.bl (g i j),H,I,rfl,q⟩
def ydL(i j:Int):Prop:=0<=j/\j<=1000000/\i.natAbs<2^64
def ydt(i j:Int):Prop:=(-(2^64)<i/\i<2^64) \/ (-(2^64)<j/\j<2^64)
theorem ydt.ok{i j:Int}(h:ydt i j):IntMulOk i j:=by
 rcases h with⟨h1,h2⟩|⟨h1,h2⟩
 .exact .of_left (intBits_le_64 h1 h2)
 .exact .of_right (intBits_le_64 h1 h2)
def zhd(k:Nat):(0:Int)<=2^k:=by
 rw[two_pow_cast];exact Int.natCast_nonneg _
def zoP:OpR X (binaryOp .Add) (rI0 λi j=>.int (i+j)):=ziJ λ_ _ _ _ _ _ _ q=>add_int q
def zm8:OpR X (binaryOp .Sub) (rI0 λi j=>.int (i-j)):=ziJ λ_ _ _ _ _ _ _ q=>sub_int q
def zm1:OpR X (binaryOp .Mult) (rI ydt λi j=>.int (i*j)):=opI λ_ _ _ _ _ _ _ hc q=>mul_int q hc.ok
def zox:OpR X (binaryOp .Mod) (rI (λ_ j=>0<j) λi j=>.int (i%j)):=opI λi j _ _ _ _ _ hc q=>by
 have h1:(0:Int)<j:=hc;exact mod_int' ∅ (by rw[Int.fmod_eq_emod_of_nonneg i ∅];exact q)
def zmZ:OpR X (binaryOp .Pow) (rI ydL λi j=>.int (i^j.toNat)):=opI λ_ _ _ _ _ _ _ hc q=>pow_int_small hc.1 hc.2.1 hc.2.2 q
def znl:OpR X (binaryOp .LShift) (rI ydL λi j=>.int (i*2^j.toNat)):=opI λ_ _ _ _ _ _ _ hc q=>lshift_int_small hc.1 hc.2.1 hc.2.2 q
def zpm:OpR X (binaryOp .RShift) (rI (λ_ j=>0<=j) λi j=>.int (i/2^j.toNat)):=opI λi j _ _ _ _ _ hc q=>
 rshift_int hc (by rw[EG i (zhd _)];exact q)
def zmX:OpR X (binaryOp .BitAnd) (rI0 λi j=>.int (Aw i j)):=ziJ λ_ _ _ _ _ _ _ q=>and_int q
def zpZ:OpR X (binaryOp .BitOr) (rI0 λi j=>.int (Av i j)):=ziJ λ_ _ _ _ _ _ _ q=>or_int q
def zoF:OpR X (binaryOp .BitXor) (rI0 λi j=>.int (BS i j)):=ziJ λ_ _ _ _ _ _ _ q=>xor_int q
theorem unI{f:AG->Gw AG}{g:Int->Int}
  (rule:∀(i:Int) (t:Hf) (s:AJ) (Q:AG->AJ->Prop) (E:AG->AJ->Prop),Q (.int (g i) s.toks) {s with toks:=s.toks+1}->A4 (model X.prog X.w) X.A (f (.int i t)) Q E s):
  UnR X f (rU λi=>.int (g i)):=by
 intro π s σ H x v Q I rx h;let⟨i,rfl,q⟩:=h;let⟨t,rfl⟩:=rx;exact rule i t s _ _ ⟨.int (g i),H,I.tok _,⟨_,rfl⟩,q⟩
def zn2:UnR X (unaryOp .USub) (rU λi=>.int (-i)):=unI λ_ _ _ _ _ q=>neg_int q
def ziP:OpR X (binaryOp .Add) (λx y H Q=>∃i k,x=.int i/\y=.bl k/\Q (.int (i+b2i k)) H):=by
 intro π s σ H x y v u Q I rx ry h;let⟨i,k,rfl,rfl,q⟩:=h;let⟨t,rfl⟩:=rx
 cases ry
 exact add_int_bool ⟨.int (i+b2i k),H,I.tok _,⟨_,rfl⟩,q⟩
end
section
variable {X:Cx}{a b c:AV}{ta tb tc:TE}{pos:CV}
def ziH{π:List (AI×CF)}{σ:St}{H:Hp}{s:AJ}{Q:VK}{k k':Bool}(I:Inv X π σ H s)(q:Q (.bl k) H)(e:k=k'):EP X π σ Q (.bool k') s:=by
 subst e;exact⟨.bl k,H,I,rfl,q⟩
def zpu:OpR X (compareOp .Lt) (rI0 λi j=>.bl (decide (i<j))):=zmh λ_ _ _ _ _ _ _ q=>lt_int q
def zp2:OpR X (compareOp .LtE) (rI0 λi j=>.bl (decide (i<=j))):=zmh λ_ _ _ _ _ _ _ q=>le_int q
def zpK:OpR X (compareOp .Gt) (rI0 λi j=>.bl (decide (j<i))):=zmh λ_ _ _ _ _ _ _ q=>gt_int q
def zpE:OpR X (compareOp .GtE) (rI0 λi j=>.bl (decide (j<=i))):=zmh λ_ _ _ _ _ _ _ q=>ge_int q
def zid:OpR X (compareOp .Lt) (λx y H Q=>∃i j,x=.str i/\y=.str j/\Q (.bl (decide (i.cps.toList<j.cps.toList))) H):=by
 intro π s σ H x y v u Q I rx ry h;let⟨i,j,rfl,rfl,q⟩:=h;let⟨t,rfl⟩:=rx;let⟨t',rfl⟩:=ry;exact lt_str (ziH I q rfl)
def zhn:OpR X (compareOp .In) (λx y H Q=>∃i j,x=.str i/\y=.str j/\Q (.bl (!(Ef j i 0 j.length 1).isEmpty)) H):=by
 intro π s σ H x y v u Q I rx ry h;let⟨i,j,rfl,rfl,q⟩:=h;let⟨t,rfl⟩:=rx;let⟨t',rfl⟩:=ry;exact in_str (ziH I q rfl)
def zhf{op:F8}{r:R2}(ho:OpR X (compareOp op) r)(ha:PE X a ta)(hb:PE X b tb)(hm:behindInMarks op b=AC):PE X (.Compare a [op] [b] pos) (tOp r ta tb):=by
 intro π s σ H Q I h;exact wpAny_Compare1 (znA ha hb I h λv u s2 x y H2 I2 rx ry q=>ho π s2 σ H2 x y v u Q I2 rx ry q) hm
def ydl(t:TE):TT:=λσ H Q=>t σ H λx H'=>∃k,x=.bl k/\Q k H'
def zlY{op:F8}{r:R2}(ho:OpR X (compareOp op) r)(ha:PE X a ta)(hb:PE X b tb)(hm:behindInMarks op b=AC):PT X (.Compare a [op] [b] pos) (ydl (tOp r ta tb)):=by
 intro π s σ H Q I h;refine wpAny_isTrue_Compare1 (thn (ha π s σ H _ I h) λv s1 ⟨x,H1,I1,r1,q1⟩=>thn (hb π s1 σ H1 _ I1 q1) λu s2 ⟨y,H2,I2,r2,q2⟩=>
  thn (ho π s2 σ H2 x y v u _ I2 r1 r2 q2) λc s3 ⟨z,H3,I3,r3,k,e,q3⟩=>?_) hm
 subst e
 cases r3
 exact BY ⟨H3,I3,q3⟩
def ycq(r r':R2)(ta tb tc:TE):TE:=λσ H Q=>ta σ H λx H1=>tb σ H1 λy H2=>r x y H2 λz H3=>∃k,z=.bl k /\
 (if k=AB then tc σ H3 λw' H4=>r' y w' H4 Q else Q (.bl AC) H3)
def zjS{op op':F8}{r r':R2}(ho:OpR X (compareOp op) r)(ho':OpR X (compareOp op') r')(ha:PE X a ta)(hb:PE X b tb)(hc:PE X c tc)
  (hm:lastMarks [op,op'] [b,c]=false:=by ac_rfl):PE X (.Compare a [op,op'] [b,c] pos) (ycq r r' ta tb tc):=by
 intro π s σ H Q I h;refine Compare_chain (thn (ha π s σ H _ I h) λv s1 ⟨x,H1,I1,r1,q1⟩=>chain_link (thn (hb π s1 σ H1 _ I1 q1) λu s2 ⟨y,H2,I2,r2,q2⟩=>
  thn (ho π s2 σ H2 x y v u _ I2 r1 r2 q2) λd s3 ⟨z,H3,I3,r3,k,e,q3⟩=>?_)) hm
 subst e
 cases r3
 refine BY ?_
 cases k with
 |false=>exact ite_ff ⟨.bl AC,H3,I3,rfl,q3⟩
 |true=>exact ite_tt (chain_last (thn (hc π s3 σ H3 _ I3 q3) λw' s4 ⟨z',H4,I4,r4,q4⟩=>ho' π s4 σ H4 y z' u w' Q I4 r2 r4 q4))
def zjB{op op':F8}{r r':R2}(ho:OpR X (compareOp op) r)(ho':OpR X (compareOp op') r')(ha:PE X a ta)(hb:PE X b tb)(hc:PE X c tc)
  (hm:lastMarks [op,op'] [b,c]=false:=by ac_rfl):PT X (.Compare a [op,op'] [b,c] pos) (ydl (ycq r r' ta tb tc)):=by
 intro π s σ H Q I h;refine isTrue_chain (thn (ha π s σ H _ I h) λv s1 ⟨x,H1,I1,r1,q1⟩=>test_link (thn (hb π s1 σ H1 _ I1 q1) λu s2 ⟨y,H2,I2,r2,q2⟩=>
  thn (ho π s2 σ H2 x y v u _ I2 r1 r2 q2) λd s3 ⟨z,H3,I3,r3,k,e,q3⟩=>?_)) hm
 subst e
 cases r3
 refine BY ?_
 cases k with
 |false=>
  let⟨k',e',q'⟩:=q3
  cases e'
  exact ite_ff ⟨H3,I3,q'⟩
 |true=>
  refine ite_tt (test_last (thn (hc π s3 σ H3 _ I3 q3) λw' s4 kq=>?_));let⟨z',H4,I4,r4,q4⟩:=kq;refine thn (ho' π s4 σ H4 y z' u w' _ I4 r2 r4 q4) λd' s5 kq=>?_;let⟨z2,H5,I5,r5,k2,e2,q5⟩:=kq;subst e2
  cases r5
  exact BY ⟨H5,I5,q5⟩
def yeA(K:AF)(x:V)(H:Hp)(k:Bool):Prop:=
 match x with
 |.non=>k=AC
 |.bl b=>k=b
 |.int i=>k=(i != 0)
 |.str y=>y.length<=sizeLine/\k=((y.length:Int) != 0)
 |.byt y=>y.size<=sizeLine/\k=((y.size:Int) != 0)
 |.ref p=>(∃xs,SqL K H p xs/\k=!xs.isEmpty) \/ (∃xs,SqT K H p xs/\k=!xs.isEmpty) \/ ∃kvs,H p=AA (.dK kvs)/\k=!kvs.isEmpty
 |_=>False
def zg0{κ:Type}{kvs:List (κ×V)}{vs:List (κ×AG)}(r:KV kvs vs):(!vs.isEmpty)=!kvs.isEmpty:=by
 cases r<;>rfl
def zef{xs:List V}{its:List AG}(r:Vals xs its):(!its.toArray.isEmpty)=!xs.isEmpty:=by
 cases r<;>simp
def zhc:(sizeLine:Nat)<2^63:=by rw[Dh];decide
def znw:ygV X (λx H Q=>∃k,yeA X.K x H k/\Q k H):=by
 intro π s σ H x v Q I rx h;let⟨k,e,q⟩:=h;have hl:=zhc;have hs:sizeLine=16777216:=Dh
 cases x with
 |non=>
  cases rx
  have e':k=false:=e;subst e';exact truthy_none ⟨H,I,q⟩
 |bl b=>
  cases rx
  have e':k=b:=e;subst e';exact BY ⟨H,I,q⟩
 |int i=>
  let⟨t,rfl⟩:=rx;have e':k=(i != 0):=e;subst e';exact PySem.P.truthy_int ⟨H,I,q⟩
 |str y=>
  let⟨t,rfl⟩:=rx;obtain⟨hy,e'⟩:y.length<=sizeLine/\k=((y.length:Int) != 0):=e;subst e';exact PySem.P.truthy_str ∅ ⟨H,I.tok _,q⟩
 |byt y=>
  let⟨t,rfl⟩:=rx;obtain⟨hy,e'⟩:y.size<=sizeLine/\k=((y.size:Int) != 0):=e;subst e';exact PySem.W.truthy_bytes ∅ ⟨H,I.tok _,q⟩
 |ref p=>
  cases rx
  have e':(∃xs,SqL X.K H p xs/\k=!xs.isEmpty) \/ (∃xs,SqT X.K H p xs/\k=!xs.isEmpty) \/ ∃kvs,H p=AA (.dK kvs)/\k=!kvs.isEmpty:=e;rcases e' with⟨xs,hx,e'⟩|⟨xs,hx,e'⟩|⟨kvs,hx,e'⟩
  .subst e';let⟨its,r,pl,hz⟩:=I.list hx;have hlen:=r.length;exact wpAny_truthy_list pl.isList (by erw[A1];lia) ⟨H,I.tok _,by rw[zef r];exact q⟩
  .subst e';let⟨its,r,pl,hz⟩:=I.tuple hx;have hlen:=r.length;exact truthy_tuple pl (by erw[A1];lia) ⟨H,I.tok _,by rw[zef r];exact q⟩
  .subst e';obtain⟨hz,hS,vs,r,m⟩:kvs.length<=sizeLine/\(p==sysModules)=AC/\∃vs,KV kvs vs/\s.heap.DictOf (yP X.prog X.w) p vs:=I.hok p _ hx;have hlen:kvs.length=vs.length:=Ea r;exact wpAny_truthy_dict hS m ∅ ⟨H,I.tok _,by rw[zg0 r];exact q⟩
 |_=>exact(show False from e).elim
def zjX(ha:PE X a ta)(he:∀whole,isTrue a X.env whole=(do let v <-whole;standAt a.pos;holding [v] (truthy v))):
  PT X a (λσ H Q=>ta σ H λx H'=>∃k,yeA X.K x H' k/\Q k H'):=by
 intro π s σ H Q I h;exact isTrue_plain (thn (ha π s σ H _ I h) λv s1 ⟨x,H1,I1,r1,q1⟩=>znw π s1 σ H1 x v Q I1 r1 q1) (he _)
def zg4:OpR X (binaryOp .Add) (λx y H Q=>∃i j,x=.str i/\y=.str j/\i.length+j.length<=sizeLine/\Q (.str (i++j)) H):=by
 intro π s σ H x y v u Q I rx ry h;let⟨i,j,rfl,rfl,hz,q⟩:=h;let⟨t,rfl⟩:=rx;let⟨t',rfl⟩:=ry;exact add_str (λt' tk=>⟨.str (i++j),H,I.tok _,⟨_,rfl⟩,q⟩) hz
theorem vals1{x:V}{us:List AG}(r:Vals [x] us):∃u,us=[u]/\RelV x u:=by
 cases r with
 |cons r1 r2=>cases r2;exact⟨_,rfl,r1⟩
theorem vals2{x y:V}{us:List AG}(r:Vals [x,y] us):∃u w',us=[u,w']/\RelV x u/\RelV y w':=by
 cases r with
 |cons r1 r2=>
  cases r2 with
  |cons r3 r4=>cases r4;exact⟨_,_,rfl,r1,r3⟩
def zjh:yad X (.builtin "abs") (λxs H Q=>∃i,xs=[.int i]/\Q (.int (if i<0 then -i else i)) H):=by
 intro π s σ H xs us Q I r h;let⟨i,rfl,q⟩:=h;let⟨u,rfl,t,rfl⟩:=vals1 r;exact call_abs_int λu tk=>⟨.int (if i<0 then -i else i),H,I.tok _,⟨_,rfl⟩,q⟩
def ziv(hc:X.calm=AB):yad X (.builtin "max") (λxs H Q=>∃i j,xs=[.int i,.int j]/\Q (.int (if j > i then j else i)) H):=by
 intro π s σ H xs us Q I r h;let⟨i,j,rfl,q⟩:=h;let⟨u,w',rfl,⟨t,rfl⟩,⟨t',rfl⟩⟩:=vals2 r;refine max_two_ints (I.ok.hd hc) λh' tk k=>⟨_,H,I.kept k,?_,q⟩
 by_cases hj:j > i
 .rw[if_pos hj,if_pos hj];exact⟨_,rfl⟩
 .rw[if_neg hj,if_neg hj];exact⟨_,rfl⟩
def zja(hc:X.calm=AB):yad X (.builtin "min") (λxs H Q=>∃i j,xs=[.int i,.int j]/\Q (.int (if j<i then j else i)) H):=by
 intro π s σ H xs us Q I r h;let⟨i,j,rfl,q⟩:=h;let⟨u,w',rfl,⟨t,rfl⟩,⟨t',rfl⟩⟩:=vals2 r;refine min_two_ints (I.ok.hd hc) λh' tk k=>⟨_,H,I.kept k,?_,q⟩
 by_cases hj:j<i
 .rw[if_pos hj,if_pos hj];exact⟨_,rfl⟩
 .rw[if_neg hj,if_neg hj];exact⟨_,rfl⟩
def zeY:yad X (.type "int") (λxs H Q=>(∃i,xs=[.int i]/\Q (.int i) H) \/ ∃k,xs=[.bl k]/\Q (.int (if k then 1 else 0)) H):=by
 intro π s σ H xs us Q I r h;rcases h with⟨i,rfl,q⟩|⟨k,rfl,q⟩
 .let⟨u,rfl,t,rfl⟩:=vals1 r;exact call_int_int ⟨.int i,H,I,⟨_,rfl⟩,q⟩
 .let⟨u,rfl,r1⟩:=vals1 r
  cases r1
  exact call_int_bool ⟨.int (if k then 1 else 0),H,I.tok _,⟨_,rfl⟩,q⟩
end
structure ycP(h:BF)(x dx C:AI)(mA:AQ->Option AG):Prop where
 obj:h.get? x=AA (CC C dx)
 ns:h.Ns1 dx mA
 ne:dx≠x
def zin{h:BF}{dx:AI}{mA:AQ->Option AG}(n:h.Ns1 dx mA):∃od,h.get? dx=AA od/\∀name,EH name od=AA (mA name):=by
 let⟨o,es,ep,ho,hd,hk,_,hm⟩:=n;refine⟨o,ho,λname=>?_⟩;have e:=hm name;unfold nsFind findBy at e;rw[<-Array.find?_toList]at e;unfold EH;rw[hd];dsimp only;split
 .rename_i y q;rw[q]at e;exact congrArg AA e
 .rename_i q;rw[q]at e;have a:es.toList.any (·.refKey)=false:=by
   rw[List.any_eq_false];intro y hy;let⟨z,t,hkey⟩:=hk y (Array.mem_toList_iff.mp hy);simp[DictEntry.refKey,hkey]
  have a':¬es.toList.any (·.refKey)=true:=by rw[a];exact BC
  rw[if_neg a'];exact congrArg AA e
theorem ycP.look{h:BF}{x dx C:AI}{mA:AQ->Option AG}(I:ycP h x dx C mA):∃od,PySem.W.InstAt h x (CC C dx) C (AA od)/\∀name,EH name od=AA (mA name):=
 let ⟨od,ho,hl⟩:=zin I.ns
 ⟨od,⟨I.obj,rfl,rfl,ho⟩,hl⟩
section
variable {prog:A8}{w:An}{A:Au}{E:AG->AJ->Prop}{s:AJ}{K:AF}{x dx C f:AI}{mA:AQ->Option AG}{name:AQ}{v:AG}
def zmn{expr:Bool}{Q:AG->AJ->Prop}(X:K.In s.heap)(I:ycP s.heap x dx C mA)(hg:Cq K C name=AB)(hh:DJ K C=AB)
  (ha:BA K (.ref C) name=AA AD) (hv:mA name=AA v) (hv':GP v=AB) (h:Q v {s with toks:=s.toks+1}):
  A4 (model prog w) A (getAttr (.ref x) name expr) Q E s:=by
 let⟨od,J,hl⟩:=I.look;exact PySem.W.get_value X J (Dr hg).1 (PySem.W.findObj_own hh ha rfl (by rw[hl,hv])) hv' h
def zjn{pl:Gw Bool}{Q:AG×List AG->AJ->Prop}(X:K.In s.heap)(I:ycP s.heap x dx C mA)(hg:Cq K C name=AB)
  (hf:BA K (.ref C) name=AA (AA (.ref f))) (ht:Cr K (.ref f)=AB) (hv:mA name=AD) (h:Q (.ref f,[.ref x]) s):
  A4 (model prog w) A (getMethod (.ref x) name pl) Q E s:=by
 let⟨od,J,hl⟩:=I.look;exact PySem.W.method_fn X J (Dr hg).1 (Dr hg).2 hf (beq_iff_eq.mp ht) (by show (EH name od).map (·.isSome)=AA AC;rw[hl,hv];rfl) h
def zlT{ns:List AQ}{Q:Unit->AJ->Prop}(X:K.In s.heap)(I:ycP s.heap x dx C mA)
  (hs:BA K (.ref C) "__setattr__"=AA (AA (.builtin "object.__setattr__"))) (hp:EW K C=AB) (ht:FD K C name=AA AD) (hh:DJ K C=AB)
  (hw:Fr mA ns) (hsz:ns.length<=sizeLine)
  (h:∀h',ycP h' x dx C (λy=>if y=name then AA v else mA y)->Cc dx s.heap h'->Q () {s with heap:=h',toks:=s.toks+2}):
  A4 (model prog w) A (setAttr (.ref x) name v) Q E s:=by
 let⟨od,J,hl⟩:=I.look;refine PySem.W.set_plain X J hs (PySem.W.osa_open (s:={s with toks:=s.toks+1}) (r:=AD) X J hp ht λb=>?_);let⟨cd,hc,hd'⟩:=PySem.W.any_some hh;have hx:s.heap.get? x=AA ⟨.ref C,AA dx,.plain,#[]⟩:=I.obj;refine AH (AX (AH (AH (wpAny_loadPart hx (AH (HY (s:={s with toks:=s.toks+1}) (PySem.W.looks_clsIn X hc) ?_))))));rw[hd'];refine AX (a:=AA dx) (AH (AX (AH ?_)));refine wpAny_nsSet1 (s:={s with toks:=s.toks+1}) I.ns λh' hn2 hs2=>?_;let⟨oD,esD,epD,hoD,hdD,hcD⟩:=hn2.count (Hd name v hw);refine AH (wpAny_lookBehind hoD (by rw[hdD];exact pastItsLine_dict (BU hcD (by rw[AS];lia))) ?_);exact AX (h _ ⟨(hs2.2 _ (BN I.ne)).trans I.obj,hn2,I.ne⟩ hs2)
def zjg{R:Gi->AJ->Prop}{vs:List AG}{kw:List (AQ×AG)}(X:K.In s.heap)(hm:Dj K C=AB)
  (hi:BA K (.ref C) "__init__"=AA (AA (.ref f))) (hf:PySem.W.typeIn K (.ref f)=AA (.type "function"))
  (h:codeAny (model prog w) (A.under (.builtin "type.__call__" ⟨.ref C::vs,kw⟩)) (.call (.ref f) ⟨.ref (s.heap.objs.size+1)::vs,kw⟩) (PySem.W.InitBack (s.heap.objs.size+1) R)
   {s with heap:=(s.heap.push B8).push (CC C s.heap.objs.size)}):
  codeAny (model prog w) A (.call (.ref C) ⟨vs,kw⟩) R s:=by
 let⟨hh,g,d,t,os⟩:=s;exact PySem.W.make_core (PySem.W.makes_of X hm) (PySem.W.looks_findIn X hi) (λself=>PySem.W.bind_fn X self hf) (.inl rfl) h
end
def yaY(f:AQ)(v:V):List (AQ×V)->List (AQ×V)
 |[]=>[(f,v)]
 |(g,x)::r=>if g=f then(g,v)::r else(g,x)::yaY f v r
def zdK(f g:AQ)(v:V):∀fs:List (AQ×V),(yaY f v fs).lookup g=if g=f then AA v else fs.lookup g
 |[]=>by
  show Bw g [(f,v)]=_
  by_cases h:g=f
  .have hb:(g==f)=true:=beq_iff_eq.mpr h;erw[Bw,hb,if_pos h]
  .have hb:(g==f)=false:=beq_eq_false_iff_ne.mpr h;erw[Bw,hb,if_neg h]
 |(k,x)::r=>by
  have ih:=zdK f g v r;rw[show yaY f v ((k,x)::r)=(if k=f then(k,v)::r else(k,x)::yaY f v r)from rfl]
  by_cases hk:k=f
  .rw[if_pos hk]
   by_cases h:g=k
   .have hb:(g==k)=true:=beq_iff_eq.mpr h;erw[Bw,hb,if_pos (h.trans hk)]
   .have hb:(g==k)=false:=beq_eq_false_iff_ne.mpr h;erw[Bw,hb,if_neg (λe:g=f=>h (e.trans hk.symm))]
  .rw[if_neg hk]
   by_cases h:g=k
   .have hb:(g==k)=true:=beq_iff_eq.mpr h;erw[Bw,hb,if_neg (λe:g=f=>hk (h.symm.trans e))]
   .have hb:(g==k)=false:=beq_eq_false_iff_ne.mpr h;erw[Bw,hb];exact ih
def zds(f:AQ)(v:V):∀fs:List (AQ×V),f∈(yaY f v fs).map (·.1)/\∀g,g∈fs.map (·.1)->g∈(yaY f v fs).map (·.1)
 |[]=>⟨by simp[yaY],λg h=>by simp at h⟩
 |(k,x)::r=>by
  let⟨i1,i2⟩:=zds f v r;rw[show yaY f v ((k,x)::r)=(if k=f then(k,v)::r else(k,x)::yaY f v r)from rfl]
  by_cases hk:k=f
  .rw[if_pos hk];subst hk;exact⟨by simp,λg h=>by simpa using h⟩
  .rw[if_neg hk];refine⟨?_,λg h=>?_⟩
   .rw[AL];exact AW _ i1
   .rw[AL]at h ⊢;rcases AT.mp h with e|e
    .exact AT.mpr (.inl e)
    .exact AW _ (i2 g e)
def zdF(f:AQ)(v:V):∀fs:List (AQ×V),(yaY f v fs).length<=fs.length+1
 |[]=>by simp[yaY]
 |(k,x)::r=>by
  have ih:=zdF f v r;rw[show yaY f v ((k,x)::r)=(if k=f then(k,v)::r else(k,x)::yaY f v r)from rfl]
  by_cases hk:k=f
  .rw[if_pos hk,AS,AS];lia
  .rw[if_neg hk,AS,AS];lia
theorem ybn.some_of{v:V}{o:Option AG}(r:ybn (AA v) o):∃u,o=AA u/\RelV v u:=by
 cases o with
 |none=>exact(show False from r).elim
 |some u=>exact⟨u,rfl,r⟩
theorem ybn.none_of{o:Option AG}(r:ybn AD o):o=none:=by
 cases o with
 |none=>rfl
 |some u=>exact(show False from r).elim
def zhm{v:V}{u:AG}(r:RelV v u):GP u=true:=by
 cases v with
 |non=>cases (show u=CL from r);rfl
 |bl b=>cases (show u=EA b from r);rfl
 |int i=>let⟨t,e⟩:=(show ∃t,u=Ed i t from r);cases e;rfl
 |str x=>let⟨t,e⟩:=(show ∃t,u=GM x t from r);cases e;rfl
 |byt b=>let⟨t,e⟩:=(show ∃t,u=HP b t from r);cases e;rfl
 |flt b=>let⟨t,e⟩:=(show ∃t,u=HQ b t from r);cases e;rfl
 |ref a=>cases (show u=Al a from r);rfl
 |ty n=>cases (show u=Fi n from r);rfl
section
variable {P:A8}{w:An}{H H':Hp}{h h':BF}{a C dx:AI}{fs fs':List (AQ×V)}
def zfH(hok:HOk P w H h)(e:H a=AA (.ins C dx fs)):∃mA,ycP h a dx C mA/\(∀f,ybn (fs.lookup f) (mA f))/\Fr mA (fs.map (·.1))/\fs.length<=1000/\H dx=AA (.own a):=by
 let⟨d,z,ne,ob,mA,n,r,q⟩:=(show yZ P w H h a (.ins C dx fs)from hok a _ e);exact⟨mA,⟨ob,n,ne⟩,r,q,z,d⟩
end
structure Cls(K:AF)(C:AI):Prop where
 pg:Cq K C GQ=AB
 hd:DJ K C=AB
 po:EW K C=AB
 sa:BA K (.ref C) "__setattr__"=AA (AA (.builtin "object.__setattr__"))
theorem Cls.get{K:AF}{C:AI}(c:Cls K C)(f:AQ):Cq K C f=true:=c.pg
def yat(K:AF)(C:AI)(f:AQ):Prop:=BA K (.ref C) f=AA AD
theorem yat.taker{K:AF}{C:AI}{f:AQ}(n:yat K C f):FD K C f=AA none:=by
 unfold FD;rw[show BA K (.ref C) f=AA AD from n];rfl
structure Con(K:AF)(C:AI)(f:AQ)(v:V)(u:AG):Prop where
 at_:BA K (.ref C) f=AA (AA u)
 rel:RelV v u
 get:PySem.W.specialIn K u "__get__"=AA AD
 cp:PySem.W.copiedNames.contains f=AC
structure Meth(K:AF)(C:AI)(m:AQ)(f:AI):Prop where
 at_:BA K (.ref C) m=AA (AA (.ref f))
 fn:Cr K (.ref f)=AB
 kp:Ax K (.ref f)=AB
section
variable {X:Cx}{π:List (AI×CF)}{σ:St}{H:Hp}{s:AJ}{a C dx:AI}{fs:List (AQ×V)}{f:AQ}{v:V}{A:Au}{E:AG->AJ->Prop}
def zec{b:Bool}{Q:AG->AJ->Prop}(I:Inv X π σ H s)(e:H a=AA (.ins C dx fs))(c:Cls X.K C)(n:yat X.K C f)(l:fs.lookup f=AA v)
  (h:∀u s',Inv X π σ H s'->RelV v u->Q u s'):A4 (model X.prog X.w) A (getAttr (.ref a) f b) Q E s:=by
 let⟨mA,O,r,_,_,_⟩:=zfH I.hok e;let⟨u,hu,ru⟩:=ybn.some_of (v:=v) (o:=mA f) (by rw[<-l];exact r f);exact zmn I.kIn O (c.get f) c.hd n hu (zhm ru) (h u _ (I.tok _) ru)
def zdY{m:AQ}{g:AI}{pl:Gw Bool}{Q:AG×List AG->AJ->Prop}(I:Inv X π σ H s)(e:H a=AA (.ins C dx fs))(c:Cls X.K C)(k:Meth X.K C m g)(l:fs.lookup m=AD)
  (h:Q (.ref g,[.ref a]) s):A4 (model X.prog X.w) A (getMethod (.ref a) m pl) Q E s:=by
 let⟨mA,O,r,_,_,_⟩:=zfH I.hok e;have hn:mA m=none:=ybn.none_of (by rw[<-l];exact r m);exact zjn I.kIn O (c.get m) k.at_ k.fn hn h
def zd6{y:V}{u:AG}{Q:Unit->AJ->Prop}(I:Inv X π σ H s)(e:H a=AA (.ins C dx fs))(c:Cls X.K C)(n:yat X.K C f)(hl:fs.length<1000)(ry:RelV y u)
  (h:∀s',Inv X π σ (upd H a (.ins C dx (yaY f y fs))) s'->Q () s'):A4 (model X.prog X.w) A (setAttr (.ref a) f u) Q E s:=by
 let⟨mA,O,r,wi,_,ho⟩:=zfH I.hok e;have hz:(fs.map (·.1)).length<=sizeLine:=by rw[BH,Dh];lia
 refine zlT I.kIn O c.sa c.po n.taker c.hd wi hz λh' O' sb=>h _ ?_;have hd:∃o,h'.get? dx=AA o:=let ⟨o,_,_,e',_⟩:=O'.ns;⟨o,e'⟩
 refine I.write (x:=a) (e:=dx) (by rw[e];exact Cd) (.inr ho) (λb q hb z=>(sb.2 b hb).trans z) hd ?_;refine⟨by rw[zj O.ne];exact ho,?_,O.ne,O'.obj,_,O'.ns,λg=>?_,λg hg=>?_⟩
 .have:=zdF f y fs;lia
 .show ybn ((yaY f y fs).lookup g) (if g=f then AA u else mA g);rw[zdK]
  by_cases q:g=f
  .rw[if_pos q,if_pos q];exact ry
  .rw[if_neg q,if_neg q];exact r g
 .by_cases q:g=f
  .rw[q];exact(zds f y fs).1
  .refine(zds f y fs).2 g (wi g λz=>hg ?_);show (if g=f then AA u else mA g)=AD;rw[if_neg q];exact z
theorem Inv.made(I:Inv X π σ H s):Inv X π σ (upd (upd H s.heap.objs.size (.own (s.heap.objs.size+1))) (s.heap.objs.size+1) (.ins C s.heap.objs.size []))
  {s with heap:=(s.heap.push B8).push (CC C s.heap.objs.size)}:=by
 have e1:(s.heap.push B8).get? s.heap.objs.size=AA B8:=A2 s.heap rfl;have e2:((s.heap.push B8).push (CC C s.heap.objs.size)).get? (s.heap.objs.size+1)=AA (CC C s.heap.objs.size):=by
  have:=A2 (s.heap.push B8) (o:=CC C s.heap.objs.size) rfl
  rwa [By]at this
 have e3:(s.heap.push B8).Ns s.heap.objs.size (λ_=>AD):=⟨B8,#[],_,e1,rfl,(λe he=>absurd he (by simp)),λ_=>rfl⟩;have I1:=I.laid (a:=s.heap.objs.size) (o:=.own (s.heap.objs.size+1)) (h':=s.heap.push B8) (t':=s.toks) (λb u q=>AR _ q) (AU _) ⟨_,e1⟩;refine I1.laid (a:=s.heap.objs.size+1) (o:=.ins C s.heap.objs.size []) (t':=s.toks) (λb u q=>AR _ q) (HE (By _ _)) ?_;have ne:s.heap.objs.size≠s.heap.objs.size+1:=Ao (DZ _);refine⟨by rw[zj ne,zq],DH _,ne,e2,λ_=>AD,(Heap.Ns1.of_empty e3).at λo q=>AR _ q,λ_=>Cd,λy hy=>absurd rfl hy⟩
def zml{prog:A8}{w:An}{env:Env}{e:AV}{f:AQ}{pos:CV}{s:AJ}{Q:AG->AJ->Prop}(hb:attributeBase e f env (eval e env)=eval e env)
  (h:A4 (model prog w) A (eval e env) (λo s₁=>A4 (model prog w) A (getAttr o f AB) Q E s₁) E s):A4 (model prog w) A (eval (.Attribute e f pos) env) Q E s:=
 Attribute_any_ h (by rw[arm_eval_Attribute,hb])
end
def ygW(K:AF)(ta:TE)(f:AQ):TE:=λσ H Q=>ta σ H λx H1=>∃a C dx fs v,x=.ref a/\H1 a=AA (.ins C dx fs)/\Cls K C/\yat K C f/\fs.lookup f=AA v/\Q v H1
def yfy(K:AF)(ta tv:TE)(f:AQ):TS:=λD σ H=>tv σ H λy H1=>ta σ H1 λx H2=>∃a C dx fs,x=.ref a/\H2 a=AA (.ins C dx fs)/\Cls K C/\yat K C f/\fs.length<1000 /\
 D.nx σ (upd H2 a (.ins C dx (yaY f y fs)))
def yfm(X:Cx)(op:De)(rd:V->V->Hp->VK->Prop):Prop:=
 ∀(π:List (AI×CF)) (s:AJ) (σ:St) (H:Hp) (x y:V) (u v:AG) (Q:VK),Inv X π σ H s->RelV x u->RelV y v->rd x y H Q->A4 (model X.prog X.w) X.A (inplaceOp op u v) (EP X π σ Q) X.xe s
def ycE(K:AF)(ta tv:TE)(rd:V->V->Hp->VK->Prop)(f:AQ):TS:=λD σ H=>ta σ H λx H1=>∃a C dx fs v,x=.ref a/\H1 a=AA (.ins C dx fs)/\Cls K C/\yat K C f/\fs.lookup f=AA v /\
 tv σ H1 λy H2=>rd v y H2 λz H3=>∃dx' fs',H3 a=AA (.ins C dx' fs')/\fs'.length<1000/\D.nx σ (upd H3 a (.ins C dx' (yaY f z fs')))
section
variable {X:Cx}{o e value:AV}{f:AQ}{pos pos' tpos:CV}{ta tv:TE}
def zns(he:PE X e ta)(hb:attributeBase e f X.env (eval e X.env)=eval e X.env):PE X (.Attribute e f pos) (ygW X.K ta f):=by
 intro π s σ H Q I h;refine zml hb (thn (he π s σ H _ I h) λu s1 kq=>?_);let⟨x,H1,I1,rx,a,C,dx,fs,v,ex,ea,c,n,l,q⟩:=kq;subst ex;obtain rfl:u=Al a:=rx;exact zec I1 ea c n l λu' s2 I2 ru=>⟨v,H1,I2,ru,q⟩
def zoZ(ha:PE X o ta)(hv:PE X value tv)(hs:swapsWith value (AA (.Attribute o f pos')) pos.line X.env=pure AC):PS X (.Assign [.Attribute o f pos'] value pos) (yfy X.K ta tv f):=by
 intro π s σ H D I h;refine plainObj_wpAny_Assign_Attribute (thn (hv π s σ H _ I h) λu s1 kq=>?_) hs;let⟨y,H1,I1,ry,q⟩:=kq;refine thn (ha π s1 σ H1 _ I1 q) λov s2 kq=>?_;let⟨x,H2,I2,rx,a,C,dx,fs,ex,ea,c,n,l,q2⟩:=kq;subst ex;obtain rfl:ov=Al a:=rx;exact zd6 I2 ea c n l ry λs3 I3=>⟨σ,_,I3,q2⟩
def zhv{op:De}{rd:V->V->Hp->VK->Prop}(ha:PE X o ta)(hv:PE X value tv)(hop:yfm X op rd):PS X (.AugAssign (.Attribute o f tpos) op value pos) (ycE X.K ta tv rd f):=by
 intro π s σ H D I h;refine wpAny_AugAssign_AttributeAny (thn (ha π s σ H _ I h) λov s1 kq=>?_);let⟨x,H1,I1,rx,a,C,dx,fs,v,ex,ea,c,n,l,q⟩:=kq;subst ex;obtain rfl:ov=Al a:=rx;refine zec I1 ea c n l λu s2 I2 ru=>thn (hv π s2 σ H1 _ I2 q) λw3 s3 kq=>?_;let⟨y,H2,I3,ry,q3⟩:=kq;refine thn (hop π s3 σ H2 v y u w3 _ I3 ru ry q3) λw4 s4 kq=>?_;let⟨z,H3,I4,rz,dx',fs',ea',l',q4⟩:=kq;exact zd6 I4 ea' c n l' rz λs5 I5=>⟨σ,_,I5,q4⟩
def yhb:V->V->Hp->VK->Prop:=λx y H Q=>∃i j,x=.int i/\y=.int j/\Q (.int (i+j)) H
def znk:yfm X .Add yhb:=by
 rintro π s σ H x y u v Q I rx ry ⟨i,j,rfl,rfl,q⟩
 let⟨t,rfl⟩:=(show ∃t,u=Ed i t from rx);let⟨t',rfl⟩:=(show ∃t',v=Ed j t' from ry);exact Gc ⟨.int (i+j),H,I.tok _,⟨_,rfl⟩,q⟩
end
section
variable {X:Cx}{π:List (AI×CF)}{σ:St}{H:Hp}{s:AJ}{A:Au}{E:AG->AJ->Prop}{Q:AG->AJ->Prop}{c:AG}{b:Bool}
end
structure yav(k:Nat)(A:Au):Prop where
 hd:A.handled=AD
 dp:A.depth+3*k+5<recursionLimit
 un:A.units+16*k+200<cLine
theorem yav.mono{j k:Nat}{A:Au}(r:yav k A)(h:j<=k):yav j A:=⟨r.hd,by have:=r.dp;lia,by have:=r.un;lia⟩
theorem yav.deeper{k:Nat}{A:Au}(r:yav (k+1) A)(env:Env):yav k (A.deeper env):=
 ⟨r.hd,by have:=r.dp;show A.depth+1+3*k+5<_;lia,by have:=r.un;show A.units+3+16*k+200<_;lia⟩
def zgL{A:Au}{C:AI}{us:List AG}{kw:List (AQ×AG)}:(A.under (.builtin "type.__call__" ⟨.ref C::us,kw⟩)).depth=A.depth+1:=by
 first|rfl|simp[Fu,Code.weight,Code.isCreation,Code.isGuard,Code.isCaller,HS,Fv,guardIds]
def zgS{A:Au}{C:AI}{us:List AG}{kw:List (AQ×AG)}:(A.under (.builtin "type.__call__" ⟨.ref C::us,kw⟩)).units=A.units+1:=by
 first|rfl|simp[Fu,Code.cUnits,HS,Fv]
theorem yav.make{k:Nat}{A:Au}(r:yav (k+1) A)(C:AI)(us:List AG)(kw:List (AQ×AG)):yav k (A.under (.builtin "type.__call__" ⟨.ref C::us,kw⟩)):=
 ⟨r.hd,by have:=r.dp;rw[zgL];lia,by have:=r.un;rw[zgS];lia⟩
theorem yav.depth{k:Nat}{A:Au}(r:yav k A):A.depth<recursionLimit:=by have:=r.dp;lia
theorem yav.units{k:Nat}{A:Au}(r:yav k A):A.units+64<cLine:=by have:=r.un;lia
def yda:TA:=λ_ H Q=>Q [] H
def ydI(ta:TE)(tr:TA):TA:=λσ H Q=>ta σ H λx H1=>tr σ H1 λxs H2=>Q (x::xs) H2
section
variable {X:Cx}{e:AV}{es:List AV}{te:TE}{t:TA}{pos:CV}
def zj5:PA X [] yda:=λ_ _ _ _ H Q I h=>Fw ⟨[],H,I,.nil,h⟩
def zbS(ha:PE X e te)(hr:PA X es t)(hs:starEach (e::es) X.env=(AC,eval e X.env)::starEach es X.env:=by rfl):PA X (e::es) (ydI te t):=by
 intro pos π s σ H Q I h;rw[hs];show A4 _ _ (spliced ((AC,eval e X.env)::backTo pos (starEach es X.env))) _ _ s;refine EI (thn (ha π s σ H _ I h) λu s1 kq=>?_);let⟨x,H1,I1,r1,q1⟩:=kq;exact thn (hr pos π s1 σ H1 _ I1 q1) λus s2 ⟨xs,H2,I2,r2,q2⟩=>⟨x::xs,H2,I2,.cons r1 r2,q2⟩
def ygk(t:TA):TE:=λσ H Q=>t σ H λxs H1=>xs.length<=sizeLine/\∀p,H1 p=AD->Q (.ref p) (upd H1 p (.tup xs))
def yfR(t:TA):TE:=λσ H Q=>t σ H λxs H1=>xs.length<=sizeLine/\∀p,H1 p=AD->Q (.ref p) (upd H1 p (.lst xs))
def znT{x1}(h:PA X es t):PE X (.Tuple es x1 pos) (ygk t):=by
 intro π s σ H Q I hq;refine wpAny_Tuple_spliced (thn (h pos π s σ H _ I hq) λus s1 kq=>?_);let⟨xs,H1,I1,r,z,q⟩:=kq;refine ⟨by rw[<-r.length];exact z,?_⟩;have hf:H1 s1.heap.objs.size=none:=I1.hok.fresh (AU _);refine⟨.ref s1.heap.objs.size,upd H1 s1.heap.objs.size (.tup xs),I1.laid (t':=s1.toks) (λb u e=>AR _ e) (AU _) ?_,rfl,q _ hf⟩;exact⟨z,us,r,⟨_,A2 _ rfl,rfl,_,rfl⟩⟩
def zkL(h:PA X es t):PE X (.List es pos) (yfR t):=by
 intro π s σ H Q I hq;refine wpAny_List_spliced (thn (h pos π s σ H _ I hq) λus s1 kq=>?_);let⟨xs,H1,I1,r,z,q⟩:=kq;refine ⟨by rw[<-r.length];exact z,?_⟩;have hf:H1 s1.heap.objs.size=none:=I1.hok.fresh (AU _);refine⟨.ref s1.heap.objs.size,upd H1 s1.heap.objs.size (.lst xs),I1.laid (t':=s1.toks) (λb u e=>AR _ e) (AU _) ?_,rfl,q _ hf⟩;exact⟨z,us,0,r,A2 _ rfl⟩
end
abbrev Sp:=List V->Hp->VK->XK->Prop
abbrev CXT:=List Env->Hp->AJ->XK->AG->AJ->Prop
structure ycF(P:A8)(w:An)(K:AF)(mg:AQ->Option AG)(base:BF)(A:Au)(outer:List Env)(s:AJ)(H:Hp):Prop where
 frames:A.frames=AA outer
 mod:Mod K mg base
 bs:∀b o,base.get? b=AA o->s.heap.get? b=AA o/\H b=AD
 bsz:base.objs.size<=s.heap.objs.size
 funs:s.heap.FunFrames base outer
 frf:∀b∈frs outer,H b=AD
 hok:HOk P w H s.heap
 bare:D6 s.gens
def CE(outer:List Env)(P:A8)(w:An)(H:Hp)(s:AJ)(Q:VK)(u:AG)(s':AJ):Prop:=
 ∃v H',s'.os=s.os/\D6 s'.gens/\Un (frs outer) [] H H' s.heap s'.heap/\HOk P w H' s'.heap/\RelV v u/\Q v H'
def CR(CX:CXT)(outer:List Env)(P:A8)(w:An)(H:Hp)(s:AJ)(Q:VK)(E:XK)(r:Gi)(s':AJ):Prop:=
 match r with
 |.ok (.ret u)=>CE outer P w H s Q u s'
 |.ok _=>False
 |.error e=>CX outer H s E e s'
structure yaJ(P:A8)(w:An)(K:AF)(mg:AQ->Option AG)(base:BF)(CX:CXT)(k:Nat)(f:AI)(fd:BG)(ps:List AQ)(sp:Sp):Prop where
 len:∀vs H Q E,sp vs H Q E->vs.length=ps.length
 run:∀(A:Au) (outer:List Env) (s:AJ) (H:Hp) (args:Args) (us:List AG) (vs:List V) (Q:VK) (E:XK),yav k A->ycF P w K mg base A outer s H->FZ s fd args (ps.zip us)->Vals vs us->sp vs H Q E ->
  codeAny (model P w) A (.call (.ref f) args) (CR CX outer P w H s Q E) s
theorem yaJ.imp{P:A8}{w:An}{K:AF}{mg:AQ->Option AG}{base:BF}{CX:CXT}{k:Nat}{f:AI}{fd:BG}{ps:List AQ}{sp sp':Sp}(F:yaJ P w K mg base CX k f fd ps sp)
  (h:∀vs H Q E,sp' vs H Q E->sp vs H Q E):yaJ P w K mg base CX k f fd ps sp':=
 ⟨λvs H Q E q=>F.len vs H Q E (h _ _ _ _ q),λA outer s H args us vs Q E hr he hb hv hs=>F.run A outer s H args us vs Q E hr he hb hv (h _ _ _ _ hs)⟩
theorem ycF.make{P:A8}{w:An}{K:AF}{mg:AQ->Option AG}{base:BF}{A:Au}{outer:List Env}{s:AJ}{H:Hp}(e:ycF P w K mg base A outer s H)(C:AI)(us:List AG)(kw:List (AQ×AG)):
  ycF P w K mg base (A.under (.builtin "type.__call__" ⟨.ref C::us,kw⟩)) outer s H:=⟨by first|exact e.frames|(simpa [Fu,Code.envs,Fv,pushEnvs] using e.frames),e.mod,e.bs,e.bsz,e.funs,e.frf,e.hok,e.bare⟩
section
variable {X:Cx}{π:List (AI×CF)}{σ:St}{H:Hp}{s s':AJ}
theorem Inv.env0(I:Inv X π σ H s):ycF X.prog X.w X.K X.mg X.base X.A X.stack s H:=
 ⟨I.ok.frames,I.ok.mod,I.bs,BU I.ok.bsz I.sz,I.stack,I.stkFree,I.hok,I.bare⟩
theorem Inv.after{Q:VK}{u:AG}(I:Inv X π σ H s)(h:CE X.stack X.prog X.w H s Q u s'):EP X π σ Q u s':=by
 let⟨v,H',os,bare,un,hok,r,q⟩:=h;let⟨hh,g,d,t,os'⟩:=s';obtain rfl:os'=s.os:=os;exact⟨v,H',I.call (h':=hh) (g':=g) (d':=d) (t':=t) (ch:=[]) un hok bare (λb z=>absurd z (by simp)),r,q⟩
end
def yej(C:AI)(sp:Sp)(dvs:List V)(E:XK)(t:TA):TE:=λσ H Q=>t σ H λvs H1=>∀x dx,H1 x=AD->H1 dx=AD->dx≠x ->
 sp (.ref x::(vs++dvs)) (upd (upd H1 dx (.own x)) x (.ins C dx [])) (λv H2=>v=.non/\Q (.ref x) H2) E
def Binds(K:AF)(fd:BG)(ps:List AQ)(ds:List AG):Prop:=
 ∀(s:AJ) (us:List AG),K.In s.heap->(us++ds).length=ps.length->FZ s fd ⟨us,[]⟩ (ps.zip (us++ds))
theorem Binds.all{K:AF}{fd:BG}{ps:List AQ}(h:∀us:List AG,us.length=ps.length->bindArgs fd ⟨us,[]⟩=pure (ps.zip us)):Binds K fd ps []:=λs us _ hl=>by
 rw[BR]at hl ⊢;exact .of_eq (h us hl)
def ybF(CX:CXT)(X:Cx)(E:XK):Prop:=∀(π:List (AI×CF)) (σ:St) (H:Hp) (s:AJ) (e:AG) (s':AJ),Inv X π σ H s->CX X.stack H s E e s'->X.xe e s'
section
variable {X:Cx}{CX:CXT}{k:Nat}{f C:AI}{fd:BG}{ps:List AQ}{sp:Sp}{dvs:List V}{ds:List AG}{E:XK}{x m:AQ}{p pos apos:CV}{e o:AV}{es:List AV}{ta:TE}{t:TA}
structure Mk(K:AF)(C f:AI):Prop where
 makes:Dj K C=AB
 init:BA K (.ref C) "__init__"=AA (AA (.ref f))
 fn:Cr K (.ref f)=AB
 kp:Ax K (.ref C)=AB
def zjF{π:List (AI×CF)}{σ:St}{H:Hp}{s:AJ}{Q:VK}{us:List AG}{vs:List V}(M:Mk X.K C f)(F:yaJ X.prog X.w X.K X.mg X.base CX k f fd ps sp)(hr:yav (k+1) X.A)(hb:Binds X.K fd ps ds)(hd:Vals dvs ds)
  (hx:ybF CX X E) (I:Inv X π σ H s) (r:Vals vs us)
  (h:∀x dx,H x=AD->H dx=AD->dx≠x->sp (.ref x::(vs++dvs)) (upd (upd H dx (.own x)) x (.ins C dx [])) (λv H2=>v=.non/\Q (.ref x) H2) E):
  A4 (model X.prog X.w) X.A (call (.ref C) us) (EP X π σ Q) X.xe s:=by
 have hq:=h (s.heap.objs.size+1) s.heap.objs.size (I.hok.fresh (Cm _)) (I.hok.fresh (AU _)) (Ao (DZ _));have I2:=Inv.made (C:=C) I;have r2:Vals (V.ref (s.heap.objs.size+1)::(vs++dvs)) (Al (s.heap.objs.size+1)::(us++ds)):=.cons rfl (r.append hd);have hl:(Al (s.heap.objs.size+1)::us++ds).length=ps.length:=by
  have e:=r2.length;rw[F.len _ _ _ _ hq]at e;exact e.symm
 refine Gj (zjg (f:=f) I.kIn M.makes M.init (beq_iff_eq.mp M.fn) (Dt (F.run _ X.stack _ _ ⟨Al (s.heap.objs.size+1)::us,[]⟩ (Al (s.heap.objs.size+1)::(us++ds)) _ _ E (hr.make C us [])
  (I2.env0.make C us []) (hb _ (Al (s.heap.objs.size+1)::us) I2.kIn hl) r2 hq) λr s' hq'=>?_))
 cases r with
 |error e=>exact hx π σ _ _ e s' I2 hq'
 |ok fl=>
  cases fl with
  |ret u=>
   let⟨v,H',I3,rv,ev,q3⟩:=I2.after hq';subst ev;exact⟨rv,⟨V.ref (s.heap.objs.size+1),H',I3,rfl,q3⟩⟩
  |next=>exact Bq hq'
  |brk=>exact Bq hq'
  |cont=>exact Bq hq'
def zmT(M:Mk X.K C f)(F:yaJ X.prog X.w X.K X.mg X.base CX k f fd ps sp)(hr:yav (k+1) X.A)(hg:Gl X x)(hm:X.mg x=AA (.ref C))(hb:Binds X.K fd ps ds)(hd:Vals dvs ds)(hx:ybF CX X E)
  (ha:PA X (e::es) t) (hdb:(x==("__debug__":AQ))=false:=by decide) (he:starEach (e::es) X.env=(AC,eval e X.env)::starEach es X.env:=by rfl) (hpl:(backTo pos (starEach es X.env)).any (·.1)=false:=by rfl):
  PE X (.Call (.Name x p) (e::es) [] pos) (yej C sp dvs E t):=by
 intro π s σ H Q I h;refine B1 (zdO I hg hm ?_ hdb);refine DF (h₀:=X.base) I.ok.mod.kin M.kp (thn (ha pos π s σ H _ I h) λus s1 kq=>?_) he hpl;let⟨vs,H1,I1,r,q⟩:=kq;refine ⟨I1.kIn,?_⟩;exact zjF M F hr hb hd hx I1 r q
end
def PK(X:Cx)(kws:List C4)(t:TA):Prop:=
 ∀(pos:CV) (π:List (AI×CF)) (s:AJ) (σ:St) (H:Hp) (Q:List V->Hp->Prop),Inv X π σ H s->t σ H Q->A4 (model X.prog X.w) X.A (evalAll ((backToKw pos (keywordEach kws X.env)).map (·.2))) (AP X π σ Q) X.xe s
section
variable {X:Cx}{CX:CXT}{k:Nat}{f C:AI}{fd:BG}{ps ks:List AQ}{sp:Sp}{E:XK}{x m:AQ}{p pos apos kpos:CV}{e o:AV}{es:List AV}{kws:List C4}{te ta:TE}{t tk:TA}{nm:Option AQ}
def zqD:PK X [] yda:=λ_ _ _ _ H Q I h=>wpAny_evalAll_nil ⟨[],H,I,.nil,h⟩
def zlx(ha:PE X e te)(hr:PK X kws t):PK X (⟨nm,e,kpos⟩ :: kws) (ydI te t):=by
 intro pos π s σ H Q I h;show A4 _ _ (evalAll ((do let v <-eval e X.env;standAt pos;pure v)::(backToKw pos (keywordEach kws X.env)).map (·.2))) _ _ s;refine wpAny_evalAll_cons (AH (thn (ha π s σ H _ I h) λu s1 kq=>?_));let⟨x,H1,I1,r1,q1⟩:=kq;refine AH (Eb (AX ?_));exact thn (hr pos π s1 σ H1 _ I1 q1) λus s2 ⟨xs,H2,I2,r2,q2⟩=>⟨x::xs,H2,I2,.cons r1 r2,q2⟩
structure ybG(K:AF)(fd:BG)(ps ks:List AQ)(g:List AG->List AG->List AG)(gV:List V->List V->List V):Prop where
 to:∀(s:AJ) (us ws:List AG),K.In s.heap->(g us ws).length=ps.length->FZ s fd ⟨us,ks.zip ws⟩ (ps.zip (g us ws))
 rel:∀{vs:List V} {us:List AG} {zs:List V} {ws:List AG},Vals vs us->Vals zs ws->Vals (gV vs zs) (g us ws)
variable {g:List AG->List AG->List AG}{gV:List V->List V->List V}
end
structure yba(N P:List AQ)(sc:Bn):Prop where
 kind:sc.kind=.function
 co:sc.isCoroutine=AC
 gen:sc.isGenerator=AC
 nd:N.Nodup
 pre:N.take P.length=P
 par:∀x∈P,sc.names.lookup x=AA .local \/ sc.names.lookup x=AA .cell
 nofree:∀y∈sc.names,y.2 ≠ .free
def zfm{kindOf:AQ->Option DL}{x:AQ}:∀{binds:List (AQ×AG)} {m:AQ->Option AG},(∀v,(x,v)∉binds)->bindL kindOf binds m x=m x
 |[],_,_=>rfl
 |(n,v)::r,m,h=>by
  unfold bindL;rw[zfm λw hw=>h w (AW _ hw)];split
  .have:x≠n:=by rintro rfl;exact h v BB
   simp[this]
  .rfl
def zfs{kindOf:AQ->Option DL}{x:AQ}:∀{binds:List (AQ×AG)} {m:AQ->Option AG},(∀v,(x,v)∉binds)->bindC kindOf binds m x=m x
 |[],_,_=>rfl
 |(n,v)::r,m,h=>by
  unfold bindC;rw[zfs λw hw=>h w (AW _ hw)];split
  .rfl
  .have:x≠n:=by rintro rfl;exact h v BB
   simp[this]
def zfw{kindOf:AQ->Option DL}{x:AQ}{v:AG}:∀{P:List AQ} {vs:List AG} {i:Nat} {m:AQ->Option AG},P.Nodup->P[i]?=AA x->vs[i]?=AA v->kindOf x=AA .local ->
  bindL kindOf (P.zip vs) m x=AA v
 |[],_,_,_,_,h,_,_=>by simp at h
 |_::_,[],_,_,_,_,h,_=>by simp at h
 |p::P,w::vs,0,m,nd,h1,h2,hk=>by
  simp at h1 h2;subst h1;subst h2;show bindL kindOf ((p,w)::P.zip vs) m p=_;unfold bindL;rw[zfm λv hv=>(Dl.mp nd).1 (FE hv).1,if_pos hk];simp
 |p::P,w::vs,i+1,m,nd,h1,h2,hk=>by
  show bindL kindOf ((p,w)::P.zip vs) m x=_;unfold bindL;exact zfw (i:=i) (Dl.mp nd).2 (by simpa using h1) (by simpa using h2) hk
def zfu{kindOf:AQ->Option DL}{x:AQ}{v:AG}:∀{P:List AQ} {vs:List AG} {i:Nat} {m:AQ->Option AG},P.Nodup->P[i]?=AA x->vs[i]?=AA v->kindOf x≠AA .local ->
  bindC kindOf (P.zip vs) m x=AA v
 |[],_,_,_,_,h,_,_=>by simp at h
 |_::_,[],_,_,_,_,h,_=>by simp at h
 |p::P,w::vs,0,m,nd,h1,h2,hk=>by
  simp at h1 h2;subst h1;subst h2;show bindC kindOf ((p,w)::P.zip vs) m p=_;unfold bindC;rw[zfs λv hv=>(Dl.mp nd).1 (FE hv).1,if_neg hk];simp
 |p::P,w::vs,i+1,m,nd,h1,h2,hk=>by
  show bindC kindOf ((p,w)::P.zip vs) m x=_;unfold bindC;exact zfu (i:=i) (Dl.mp nd).2 (by simpa using h1) (by simpa using h2) hk
def start(N:List AQ)(vs:List V):St:=vs.map AA++Aj (N.length-vs.length) AD
def yaW(CX:CXT)(P:A8)(w:An)(K:AF)(mg:AQ->Option AG)(base:BF)(N:List AQ)(qual:AQ)(scope:Bn)(f:AI)(cd:AG)(A:Au)(outer:List Env)(s:AJ)(H:Hp)(E:XK):Cx where
 prog:=P
 w:=w
 K:=K
 mg:=mg
 base:=base
 A:=A.deeper (envOfC qual scope s.heap.objs.size f cd)
 N:=N
 s₀:=s
 H₀:=H
 env:=envOfC qual scope s.heap.objs.size f cd
 outer:=outer
 stack:=envOfC qual scope s.heap.objs.size f cd::outer
 ex:=[]
 calm:=AB
 fn:=λ_=>AB
 pn:=[]
 xe:=λe s'=>A4 (model P w) (A.deeper (envOfC qual scope s.heap.objs.size f cd)) («leaving» (envOfC qual scope s.heap.objs.size f cd) e) (λ_ s''=>CX outer H s E e s'') (λe' s''=>CX outer H s E e' s'') s'
def zgF{sc:Bn}{n:Nat}{x:AQ}(h:sc.names.lookup x=AA .cell):∃c,(cellsFrom n sc.names []).lookup x=AA c:=by
 have q:=Es sc.names n [] (.inl h);exact Az.mp q
def ziI{CX:CXT}{P:A8}{w:An}{K:AF}{mg:AQ->Option AG}{base:BF}{N ps:List AQ}{qual:AQ}{scope:Bn}{f:AI}{cd:AG}{A:Au}{outer:List Env}{s s1:AJ}{H:Hp}{E:XK}{us:List AG}{vs:List V}
  (S:yba N ps scope) (hd:A.handled=AD) (e0:ycF P w K mg base A outer s H) (hl:vs.length=ps.length) (r:Vals vs us)
  (x:InCallC s s.heap.objs.size (bindL (envOfC qual scope s.heap.objs.size f cd).kindOf (ps.zip us) λ_=>AD) (cellsFrom (s.heap.objs.size+1) scope.names []) (bindC (envOfC qual scope s.heap.objs.size f cd).kindOf (ps.zip us) λ_=>AD) s1):
  Inv (yaW CX P w K mg base N qual scope f cd A outer s H E) [] (start N vs) H s1:=by
 have hpl:ps.length<=N.length:=by have:=congrArg Ca S.pre;rw[Eg]at this;lia
 let⟨h1,tk,rfl,hk⟩:=x.done;have noA:∀b:AI,b∉(yaW CX P w K mg base N qual scope f cd A outer s H E).ex:=λb z=>absurd (show b∈([]:List AI)from z) (by simp);refine⟨⟨e0.mod,S.kind,rfl,rfl,AU _,λy z c h1 h2=>?_,λy hy=>?_,λy c _ h=>?_,λ_=>hd,Around.frames_deeper e0.frames,.inr ⟨rfl,rfl⟩,λb z=>absurd z (noA b),e0.bs,e0.bsz,λb _ _=>noA b,λb z=>absurd z (noA b),e0.funs,e0.frf⟩,
  rfl,e0.bare,Un.kept hk,⟨_,x.toInCall.ns,λi y v h1 h2 h3=>?_⟩,λy c h=>⟨_,x.cell y c h⟩,e0.hok.fresh (AU _),λy c h=>?_,λp hp=>absurd (show p∈([]:List (AI×CF))from hp) (by simp),e0.hok.kept hk,?_⟩
 .exact name_of_addr x.apart (C5 h1) (C5 h2)
 .have hy:scope.names.lookup y=AA .cell \/ scope.names.lookup y=AA .free:=hy;rcases hy with hy|hy
  .exact zgF hy
  .exact absurd rfl (S.nofree _ (C5 hy))
 .exact En (x.above y c (C5 h))
 .have hi:i<vs.length:=by
   unfold start at h2
   by_cases hi:i<vs.length
   .exact hi
   .rw[Aq (by simpa using hi)]at h2;rw[Eh]at h2;split at h2<;>cases h2
  have ha:vs[i]?=AA v:=by
   unfold start at h2;rw[Ak (by simpa using hi),CA]at h2
   cases e:vs[i]? with
   |none=>rw[e]at h2;cases h2
   |some a=>rw[e]at h2;cases h2;rfl
  let⟨u,hu,rv⟩:=r.get ha;have hp:ps[i]?=AA y:=by
   rw[<-S.pre,List.getElem?_take_of_lt ∅];exact h1
  have ndP:ps.Nodup:=by rw[<-S.pre];exact S.nd.sublist (List.take_sublist _ _)
  refine⟨u,rv,?_⟩;rcases S.par y (A5 hp)with k|k
  .exact .inl ⟨k,zfw ndP hp hu k⟩
  .let⟨c,e⟩:=zgF (n:=s.heap.objs.size+1) k;refine .inr ⟨.inl k,c,e,?_⟩;have q:=x.cell y c e;rw[zfu ndP hp hu (by show scope.names.lookup y≠_;rw[k];decide)]at q;exact q
 .exact e0.hok.fresh (En (x.above y c (C5 h)))
 .unfold start;show _=N.length;rw[Ah,BH,List.length_replicate];lia
def zpM{CX:CXT}{P:A8}{w:An}{K:AF}{mg:AQ->Option AG}{base:BF}{k:Nat}{f:AI}{name qual:AQ}{params:Arguments}{body:List Bz}{scope:Bn}{dV kV doc pm cdv ct oc:AG}{an od:Option AI}
  {osl:Array (Option AG)} {N ps:List AQ} {sp:Sp} (lk:K.lookup f=AA ⟨oc,od,.func (B5 name qual params body scope dV kV doc pm an cdv ct),osl⟩) (hcd:CM K cdv qual=AB) (S:yba N ps scope)
  (len:∀vs H Q E,sp vs H Q E->vs.length=ps.length)
  (hbody:∀(A:Au) (outer:List Env) (s:AJ) (H:Hp) (vs:List V) (Q:VK) (E:XK),yav k (A.deeper (envOfC qual scope s.heap.objs.size f cdv))->sp vs H Q E ->
   ∃t,PSs (yaW CX P w K mg base N qual scope f cdv A outer s H E) body t/\t {nx:=λ_ H'=>Q .non H',rt:=Q} (start N vs) H):
  yaJ P w K mg base CX (k+1) f (B5 name qual params body scope dV kV doc pm an cdv ct) ps sp:=by
 refine⟨len,λA outer s H args us vs Q E hr e0 hb r hsp=>?_⟩;have hl:=len _ _ _ _ hsp;have KX:K.In s.heap:=e0.mod.kin.keeps λb o e=>(e0.bs b o e).1;have lim:s.heap.NoLimit:=e0.mod.nolimit.keeps λb o e=>(e0.bs b o e).1;have hkind:∀y∈ps.zip us,scope.names.lookup y.1=AA .local \/ (scope.names.lookup y.1=AA .cell/\((cellsFrom (s.heap.objs.size+1) scope.names []).lookup y.1).isSome=AB):=λ⟨n,v⟩ hy=>by
  rcases S.par n (FE hy).1 with q|q
  .exact .inl q
  .exact .inr ⟨q,Es _ _ _ (.inl q)⟩
 refine codeAny_call_function hr.depth (KX _ _ lk) rfl S.co S.gen rfl (PySem.W.codeRec_of KX hcd) (hb _ _ _ _ ?_);refine wpAny_newFunctionEnv_cells S.kind hkind λenv he s1 x=>?_;subst he;refine⟨lim.keeps x.toInCall.keep,codeAny_func ?_⟩;let⟨t,ht,hq⟩:=hbody A outer s H vs Q E (hr.deeper _) hsp;have I:Inv (yaW CX P w K mg base N qual scope f cdv A outer s H E) [] (start N vs) H s1:=ziI S hr.hd e0 hl r x;refine C0 (ht [] s1 (start N vs) H _ I hq) (λfl s' hs=>?_) λe s' hs=>hs;have fin:∀{σ':St} {H':Hp} {v:V} {u:AG},Inv (yaW CX P w K mg base N qual scope f cdv A outer s H E) [] σ' H' s'->RelV v u->Q v H'->CE outer P w H s Q u s':=
  λ{σ' H' v u} J rv q=>⟨v,H',J.os,J.bare,J.base,J.hok,rv,q⟩
 cases fl with
 |ret u=>
  let⟨v,σ',H',J,rv,q⟩:=hs;exact fin J rv q
 |next=>
  let⟨σ',H',J,q⟩:=hs;exact fin (v:=V.non) (u:=CL) J rfl q
 |brk=>
  let⟨_,_,_,q⟩:=hs;exact Bq q
 |cont=>
  let⟨_,_,_,q⟩:=hs;exact Bq q
section
variable {X:Cx}{x:AQ}{p pos:CV}{e:AV}{es:List AV}{t:TA}{id T:String}{r:List V->Hp->VK->Prop}
def tCB(r:List V->Hp->VK->Prop)(t:TA):TE:=λσ H Q=>t σ H λvs H1=>r vs H1 Q
def zgC(hc:yad X (.builtin id) r)(hg:Gl X x)(hm:X.mg x=AD)(hv:bootBuiltins x=AA (.builtin id))(ha:PA X (e::es) t)(hn:x ≠ "__name__":=by decide)(hdb:(x==("__debug__":AQ))=false:=by decide)
  (he:starEach (e::es) X.env=(AC,eval e X.env)::starEach es X.env:=by rfl) (hpl:(backTo pos (starEach es X.env)).any (·.1)=false:=by rfl):PE X (.Call (.Name x p) (e::es) [] pos) (tCB r t):=by
 intro π s σ H Q I h;refine B1 (zd4 I hg hm hv ?_ hn hdb);exact GR (thn (ha pos π s σ H _ I h) λus s1 ⟨vs,H1,I1,r1,q1⟩=>hc π s1 σ H1 vs us Q I1 r1 q1) he hpl
def zhZ(hc:yad X (.type T) r)(hg:Gl X x)(hm:X.mg x=AD)(hv:bootBuiltins x=AA (.type T))(ha:PA X (e::es) t)(hn:x ≠ "__name__":=by decide)(hdb:(x==("__debug__":AQ))=false:=by decide)
  (he:starEach (e::es) X.env=(AC,eval e X.env)::starEach es X.env:=by rfl) (hpl:(backTo pos (starEach es X.env)).any (·.1)=false:=by rfl):PE X (.Call (.Name x p) (e::es) [] pos) (tCB r t):=by
 intro π s σ H Q I h;refine B1 (zd4 I hg hm hv ?_ hn hdb);exact CH (thn (ha pos π s σ H _ I h) λus s1 ⟨vs,H1,I1,r1,q1⟩=>hc π s1 σ H1 vs us Q I1 r1 q1) he hpl
end
end L2
namespace HT
open PySem PyProof.Rows
section
open PySem.SeqAt
open PySem.AutoSeq1 (wpAny_loadPart')
open PySem.MeetsSeq PySem.MeetsSeq2 PySem.MeetsSeq3
end
section
variable {prog:A8}{w:An}{A:Au}{E:AG->AJ->Prop}{s:AJ}
theorem cat_tup{t b:AI}{vs ws:List AG}{Q:AG->AJ->Prop}(ht:HR s.heap t vs.toArray)(hb:HR s.heap b ws.toArray)(hv:vs≠[])
  (h1:ws=[]->Q (.ref t) s) (h2:ws≠[]->Q (.ref s.heap.objs.size) {s with heap:=s.heap.push {cls:=.type "tuple",data:=.seq (vs++ws).toArray} })
  (hsz:vs.length+ws.length<=sizeLine):A4 (model prog w) A (binaryOp .Add (.ref t) (.ref b)) Q E s:=by
 let⟨⟨cls,dd,data,sl⟩,ho,hc,n,hd⟩:=id ht;let⟨⟨cls2,dd2,data2,sl2⟩,ho2,hc2,n2,hd2⟩:=id hb;simp only at hc hd hc2 hd2;subst hc hd hc2 hd2;have e:vs.toArray++ws.toArray=(vs++ws).toArray:=by simp
 by_cases hw:ws=[]
 .exact Fx ⟨_,ho,rfl⟩ ⟨_,ho2,rfl⟩ Ei F9 DM DI (DA _ _)
   (tuple_addW1 t b vs.toArray ws.toArray n n2 dd dd2 sl sl2 (by simpa using hv) (by simp[hw])) ⟨ho,ho2,h1 hw⟩
 .refine Fx ⟨_,ho,rfl⟩ ⟨_,ho2,rfl⟩ Ei F9 DM DI (DA _ _)
   (tuple_addW2 t b vs.toArray ws.toArray n n2 dd dd2 sl sl2 (by simpa using hv) (by simpa using hw) (by rw[A1,A1];exact hsz)) ⟨ho,ho2,?_⟩
  rw[e];exact h2 hw
def sIx(n d:Nat):Option Int->Nat
 |none=>d
 |some v=>if v<0 then(v+(n:Int)).toNat else min v.toNat n
theorem sIx_le(n d:Nat)(hd:d<=n)(o:Option Int):sIx n d o<=n:=by
 cases o with
 |none=>exact hd
 |some v=>
  show (if v<0 then(v+(n:Int)).toNat else min v.toNat n)<=n
  by_cases hv:v<0
  .rw[if_pos hv];lia
  .rw[if_neg hv];exact Nat.min_le_right _ _
def zhQ(v:Int)(n d:Nat):(if v<0 then max (v+(n:Int)) 0 else min v (n:Int))=((sIx n d (AA v):Nat):Int):=by
 show (if v<0 then max (v+(n:Int)) 0 else min v (n:Int))=(((if v<0 then(v+(n:Int)).toNat else min v.toNat n):Nat):Int)
 by_cases hv:v<0
 .simp only[if_pos hv];lia
 .simp only[if_neg hv];lia
def zgT(lo hi:Option Int)(n:Nat):Cw lo hi 1 (n:Int)=(((sIx n 0 lo:Nat):Int),((sIx n n hi:Nat):Int)):=by
 have h1:¬((1:Int)<0):=by lia
 unfold Cw;erw[h1,if_false];refine Prod.ext ?_ ?_
 .cases lo with
  |none=>rfl
  |some v=>exact zhQ v n 0
 .cases hi with
  |none=>rfl
  |some v=>exact zhQ v n n
def zgM(i j:Nat):CS (i:Int) (j:Int) 1=j-i:=by
 unfold CS;have h1:(1:Int) > 0:=by lia
 erw[h1,if_true,HF];split<;>lia
def zdS{v:AG}{o:Option Int}{Q:Option Int->AJ->Prop}(p:Et v o)(h:Q o s):A4 (model prog w) A (G8 v) Q E s:=by
 cases p with
 |none=>exact slicePart_none h
 |int i t=>exact slicePart_int h
theorem sliceApplied_gen{sl:AI}{vl vu:AG}{lo hi:Option Int}{n:Nat}{Q:Int×Int×Nat->AJ->Prop}(hs:s.heap.IsSliceOf sl vl vu .none)(pl:Et vl lo)(pu:Et vu hi)
  (h:Q (((sIx n 0 lo:Nat):Int),1,sIx n n hi-sIx n 0 lo) s):A4 (model prog w) A (EJ (.ref sl) (pure (n:Int))) Q E s:=by
 let⟨os,hos,hcs,hds⟩:=id hs;unfold EJ Gu;refine AH (AH (BV hos hds (x:=vl) rfl (AH (BV hos hds (x:=vu) rfl (AH (BV hos hds (x:=.none) rfl (AX ?_)))))));refine AH (slicePart_none ?_);show A4 _ _ (if ((1:Int)==0)=AB then _ else _) _ _ s;rw[if_neg ⋯];refine AH (zdS pl (AH (zdS pu (AH (AX ?_)))));show A4 _ _ (match Cw lo hi 1 (n:Int)with|(lo,hi)=>pure (lo,(1:Int),CS lo hi 1)) _ _ s;rw[zgT lo hi n];show A4 _ _ (pure (((sIx n 0 lo:Nat):Int),(1:Int),CS ((sIx n 0 lo:Nat):Int) ((sIx n n hi:Nat):Int) 1)) _ _ s;rw[zgM];exact AX h
def zjf(xs:Array AG)(i k:Nat):((Cb k).filterMap λ(m:Nat)=>xs[((i:Int)+(m:Int)*1).toNat]?).toArray=((xs.toList.drop i).take k).toArray:=by
 have e:(λ(m:Nat)=>xs[((i:Int)+(m:Int)*1).toNat]?)=λm=>xs[i+m]?:=by
  funext m
  have:((i:Int)+(m:Int)*1).toNat=i+m:=by lia
  rw[this]
 rw[e];have:=pick_run xs i k;rw[List.filterMap_map]at this;have e2:((λx=>xs[x]?) ∘ λx=>i+x)=λm=>xs[i+m]?:=rfl;rw[e2]at this;rw[this]
theorem getItem_tuple_cut{t sl:AI}{items:Array AG}{vl vu:AG}{lo hi:Option Int}{Q:AG->AJ->Prop}(ht:HR s.heap t items)(hs:s.heap.IsSliceOf sl vl vu .none)(pl:Et vl lo)(pu:Et vu hi)
  (hw:¬(sIx items.size 0 lo=0/\sIx items.size items.size hi=items.size))
  (h:Q (.ref s.heap.objs.size) {s with heap:=s.heap.push {cls:=.type "tuple",data:=.seq ((items.toList.drop (sIx items.size 0 lo)).take (sIx items.size items.size hi-sIx items.size 0 lo)).toArray} })
  (hsz:items.size<=sizeLine):A4 (model prog w) A (getItem (.ref t) (.ref sl)) Q E s:=by
 have htake:sizeOk (.seq ((items.toList.drop (sIx items.size 0 lo)).take (sIx items.size items.size hi-sIx items.size 0 lo)).toArray):=by
  show ((items.toList.drop (sIx items.size 0 lo)).take (sIx items.size items.size hi-sIx items.size 0 lo)).toArray.size<=sizeLine;rw[A1,Eg,GS,CG];lia
 have hj:sIx items.size items.size hi<=items.size:=sIx_le _ _ (AU _) hi;let⟨os,hos,hcs,hds⟩:=id hs;have hTs:s.TypeIs (.ref sl) "slice":=⟨os,hos,hcs⟩;unfold getItem
 try with_reducible refine D8 ?_
 first|refine AH (AX ?_)|skip
 refine AH (Fy ht.typeIs ⋯ ?_);refine AH (Bf (name:=AE "__getitem__") ht.typeIs BL
  (C6 BL ht.typeIs F4 ?_ (Fk _ _)))
 show A4 _ _ (EK (.ref t) >>= _) _ _ s;refine AH (F0 ht ?_);refine AH (Fz hTs ?_);rw[if_pos ⋯];refine AH (sliceApplied_gen hs pl pu ?_);have hno:¬((((sIx items.size 0 lo:Nat):Int)==0&&(1:Int)==1&&(sIx items.size items.size hi-sIx items.size 0 lo)==items.size)=AB):=by
  intro q;rw[AK,AK]at q;have q1:((sIx items.size 0 lo:Nat):Int)=0:=eq_of_beq q.1.1;have q2:sIx items.size items.size hi-sIx items.size 0 lo=items.size:=eq_of_beq q.2;exact hw ⟨by lia,by lia⟩
 show A4 _ _ (if (((sIx items.size 0 lo:Nat):Int)==0&&(1:Int)==1&&(sIx items.size items.size hi-sIx items.size 0 lo)==items.size)=AB then _ else _) _ _ s;rw[if_neg hno,zjf]
 first
  |exact AH (m:=C1 _) (Bp (AX ⟨_,rfl,AX h⟩) htake)
  |exact AH (m:=C1 _) (Bp (AH (AX (AX ⟨_,rfl,AX h⟩))) htake)
  |exact AH (AH (m:=C1 _) (Bp (AX (AX ⟨_,rfl,AX h⟩)) htake))
  |exact AH (AH (m:=C1 _) (Bp (AX ⟨_,rfl,AX h⟩) htake))
end
end HT
namespace L2
open PySem PySem.Spec PyProof.Rows
abbrev TO:=St->Hp->(Option Int->Hp->Prop)->Prop
def PO(X:Cx)(e:Option AV)(t:TO):Prop:=
 ∀(π:List (AI×CF)) (s:AJ) (σ:St) (H:Hp) (Q:Option Int->Hp->Prop),Inv X π σ H s->t σ H Q ->
  A4 (model X.prog X.w) X.A (evalPart e X.env) (λu s'=>∃o H',Inv X π σ H' s'/\Et u o/\Q o H') X.xe s
def ycV:TO:=λ_ H Q=>Q AD H
def zg8{ns:List Int}:∀{us:List AG},Vals (ns.map V.int) us->F1 us ns:=by
 induction ns with
 |nil=>intro us r;rw[Ar]at r;cases r;exact .nil
 |cons n ns ih=>
  intro us r;rw[AL]at r
  cases r with
  |cons r1 r2=>
   let⟨t,e⟩:=r1;subst e;exact .cons n t (ih r2)
section
variable {X:Cx}{e:AV}{te:TE}{lo hi:Option AV}{tl th:TO}{pos p2:CV}
def zmJ:PO X AD ycV:=by
 intro π s σ H Q I h;rw[evalPart_none];exact AX ⟨AD,H,I,.none,h⟩
def SlR(X:Cx)(r:V->Option Int->Option Int->Hp->VK->Prop):Prop:=
 ∀(π:List (AI×CF)) (s:AJ) (σ:St) (H:Hp) (x:V) (v vl vu:AG) (lo hi:Option Int) (sl:AI) (Q:VK),Inv X π σ H s->RelV x v->s.heap.IsSliceOf sl vl vu .none->Et vl lo->Et vu hi->r x lo hi H Q ->
  ∃T id,typeLookup (.type T) "__getitem__"=pure (AA (.builtin id))/\s.TypeIs v T/\A4 (model X.prog X.w) X.A (getItem v (.ref sl)) (EP X π σ Q) X.xe s
def tSl(r:V->Option Int->Option Int->Hp->VK->Prop)(te:TE)(tl th:TO):TE:=λσ H Q=>te σ H λx H1=>tl σ H1 λl H2=>th σ H2 λu H3=>r x l u H3 Q
def zjr{r:V->Option Int->Option Int->Hp->VK->Prop}(hr:SlR X r)(he:PE X e te)(hl:PO X lo tl)(hu:PO X hi th):PE X (.Subscript e (.Slice lo hi AD p2) pos) (tSl r te tl th):=by
 intro π s σ H Q I h;refine Gk (thn (he π s σ H _ I h) λv s1 kq=>?_);let⟨x,H1,I1,r1,q1⟩:=kq;refine wpAny_Slice (thn (hl π s1 σ H1 _ I1 q1) λvl s2 kq=>?_);let⟨l,H2,I2,pl,q2⟩:=kq;refine thn (hu π s2 σ H2 _ I2 q2) λvu s3 kq=>?_;let⟨u,H3,I3,pu,q3⟩:=kq;rw[evalPart_none];refine AX ?_;have I4:Inv X π σ H3 {s3 with heap:=s3.heap.push {cls:=.type "slice",data:=.fields #[vl,vu,.none]} }:=I3.kept (t':=s3.toks) λb ob q=>AR _ q;let⟨T,id,hT,ht,hg⟩:=hr π {s3 with heap:=s3.heap.push {cls:=.type "slice",data:=.fields #[vl,vu,.none]} } σ H3 x v vl vu l u s3.heap.objs.size Q I4 r1 (HZ ..) pl pu q3;show A4 (model X.prog X.w) X.A (subscriptTail e (.Slice lo hi AD p2) v (.ref s3.heap.objs.size)) (EP X π σ Q) X.xe {s3 with heap:=s3.heap.push {cls:=.type "slice",data:=.fields #[vl,vu,.none]} };exact tail_any (ops:=[.ref s3.heap.objs.size,v]) ht hT hg (by ac_rfl)
def yck(xs:List V)(lo hi:Option Int):List V:=(xs.drop (HT.sIx xs.length 0 lo)).take (HT.sIx xs.length xs.length hi-HT.sIx xs.length 0 lo)
def zdl(xs:List V)(lo hi:Option Int):(yck xs lo hi).length<=xs.length:=by
 unfold yck;rw[Eg,GS];lia
def yfM(K:AF):V->Option Int->Option Int->Hp->VK->Prop:=λx lo hi H Q=>∃a xs,x=.ref a/\SqT K H a xs /\
 ¬(HT.sIx xs.length 0 lo=0/\HT.sIx xs.length xs.length hi=xs.length)/\∀p,H p=AD->Q (.ref p) (upd H p (.tup (yck xs lo hi)))
def znY:SlR X (yfM X.K):=by
 intro π s σ H x v vl vu lo hi sl Q I rx hs pl pu h;let⟨a,xs,rfl,hx,hw,q⟩:=h
 cases rx
 let⟨its,r,ht,hz⟩:=I.tuple hx;have hlen:its.toArray.size=xs.length:=by rw[A1];exact r.length.symm
 refine⟨"tuple",_,BL.lookup,ht.typeIs,?_⟩;refine HT.getItem_tuple_cut ht hs pl pu (by rw[hlen];exact hw) ?_ (by rw[hlen];exact hz);rw[hlen];refine⟨.ref s.heap.objs.size,_,I.laid (t':=s.toks) (o:=.tup (yck xs lo hi)) (λb ob q=>AR _ q) (AU _) ?_,rfl,q _ (I.hok.fresh (AU _))⟩;exact⟨BU (zdl xs lo hi) hz,_,(r.drop (HT.sIx xs.length 0 lo)).take (HT.sIx xs.length xs.length hi-HT.sIx xs.length 0 lo),GO _ _⟩
def yeO(K:AF):R2:=λx y H Q=>∃a b xs ys,x=.ref a/\y=.ref b/\SqT K H a xs/\SqT K H b ys/\xs≠[]/\xs.length+ys.length<=sizeLine /\
 (ys=[]->Q (.ref a) H)/\(ys≠[]->∀p,H p=AD->Q (.ref p) (upd H p (.tup (xs++ys))))
theorem Vals.nil_iff{xs:List V}{us:List AG}(r:Vals xs us):us=[] ↔ xs=[]:=by
 cases r with
 |nil=>simp
 |cons _ _=>simp
def zlO:OpR X (binaryOp .Add) (yeO X.K):=by
 intro π s σ H x y v u Q I rx ry h;let⟨a,b,xs,ys,rfl,rfl,ha,hb,hx,hz,q1,q2⟩:=h
 cases rx
 cases ry
 let⟨its,r1,p1,_⟩:=I.tuple ha;let⟨its2,r2,p2,_⟩:=I.tuple hb;refine HT.cat_tup p1 p2 (λz=>hx (r1.nil_iff.mp z)) (λz=>⟨.ref a,H,I,rfl,q1 (r2.nil_iff.mp z)⟩) (λz=>?_) (by rw[<-r1.length,<-r2.length];exact hz);refine⟨.ref s.heap.objs.size,_,I.laid (t':=s.toks) (o:=.tup (xs++ys)) (λb ob q=>AR _ q) (AU _) ?_,rfl,q2 (λw=>z (r2.nil_iff.mpr w)) _ (I.hok.fresh (AU _))⟩;exact⟨by rw[Ah];exact hz,_,r1.append r2,GO _ _⟩
end
def ixN(n:Nat)(i:Int):Option Nat:=if 0<=i then(if i<n then AA i.toNat else AD)else if -(n:Int)<=i then AA (i+n).toNat else AD
def atI{α:Type}(xs:List α)(i:Int):Option α:=(ixN xs.length i).bind λj=>xs[j]?
def zhL{n:Nat}{i:Int}{j:Nat}(h:ixN n i=AA j):seqIndex? i n=AA j/\j<n/\-(n:Int)<=i/\i<n:=by
 unfold ixN at h
 by_cases h0:0<=i
 .rw[if_pos h0]at h
  by_cases h1:i<n
  .rw[if_pos h1]at h;have e:i.toNat=j:=AZ h;exact⟨by rw[G3 h0 h1,e],by lia,by lia,h1⟩
  .rw[if_neg h1]at h;cases h
 .rw[if_neg h0]at h
  by_cases h1:-(n:Int)<=i
  .rw[if_pos h1]at h;have e:(i+n).toNat=j:=AZ h;exact⟨by rw[seqIndex_neg ∅ h1,e],by lia,h1,by lia⟩
  .rw[if_neg h1]at h;cases h
def zfF{α:Type}{xs:List α}{i:Int}{v:α}(h:atI xs i=AA v):∃j,seqIndex? i xs.length=AA j/\xs[j]?=AA v/\j<xs.length/\-(xs.length:Int)<=i/\i<xs.length:=by
 unfold atI at h
 cases e:ixN xs.length i with
 |none=>rw[e]at h;cases h
 |some j=>
  rw[e]at h;let⟨h1,h2,h3,h4⟩:=zhL e;exact⟨j,h1,h,h2,h3,h4⟩
def ybx(b:AV):Prop:=∀o i,subscripted b AC o i=operate [o,i] (getItem o i)
def IxR(X:Cx)(r:R2):Prop:=
 ∀(value slice:AV) (π:List (AI×CF)) (s:AJ) (σ:St) (H:Hp) (x y:V) (v u:AG) (Q:VK),Inv X π σ H s->RelV x v->RelV y u->r x y H Q ->
  subscripted slice AC v u=operate [v,u] (getItem v u)->A4 (model X.prog X.w) X.A (subscriptTail value slice v u) (EP X π σ Q) X.xe s
def MtR(X:Cx)(id:String)(r:V->List V->Hp->VK->Prop):Prop:=
 ∀(π:List (AI×CF)) (s:AJ) (σ:St) (H:Hp) (x:V) (xs:List V) (v:AG) (us:List AG) (Q:VK),Inv X π σ H s->RelV x v->Vals xs us->r x xs H Q ->
  A4 (model X.prog X.w) X.A (call (.builtin id) (v::us)) (EP X π σ Q) X.xe s
section
variable {X:Cx}{a b:AV}{ta tb:TE}{pos:CV}
theorem IxR.or{r r':R2}(h:IxR X r)(h':IxR X r'):IxR X (λx y H Q=>r x y H Q \/ r' x y H Q):=by
 intro value slice π s σ H x y v u Q I rx ry q hs;rcases q with q|q
 .exact h value slice π s σ H x y v u Q I rx ry q hs
 .exact h' value slice π s σ H x y v u Q I rx ry q hs
def zpY{r:R2}(hr:IxR X r)(ha:PE X a ta)(hb:PE X b tb)(hs:ybx b):PE X (.Subscript a b pos) (tOp r ta tb):=by
 intro π s σ H Q I h;exact Gk (znA ha hb I h λv u s2 x y H2 I2 rx ry q=>hr a b π s2 σ H2 x y v u Q I2 rx ry q (hs _ _))
def yeZ(K:AF):R2:=λx y H Q=>∃p xs i v,x=.ref p/\y=.int i/\SqL K H p xs/\atI xs i=AA v/\Q v H
def ye8(K:AF):R2:=λx y H Q=>∃p xs i v,x=.ref p/\y=.int i/\SqT K H p xs/\atI xs i=AA v/\Q v H
def yeY:R2:=λx y H Q=>∃z i c,x=.str z/\y=.int i/\z.length<=sizeLine/\atI z.cps.toList i=AA c/\Q (.str ⟨#[c]⟩) H
def zqE:IxR X (yeZ X.K):=by
 intro value slice π s σ H x y v u Q I rx ry h hs;let⟨p,xs,i,z,rfl,rfl,hq,he,q⟩:=h
 cases rx
 let⟨t,rfl⟩:=ry;let⟨its,r,pl,hz⟩:=I.list hq;let⟨j,h1,h2,h3,h4,h5⟩:=zfF he;let⟨w,ew,rw'⟩:=r.get h2;have hl:=r.length;have hn:=zhc;have fin:EP X π σ Q w s:=⟨z,H,I,rw',q⟩
 by_cases h0:0<=i
 .have hj:i.toNat=j:=by
   rw[G3 h0 h5]at h1;exact AZ h1
  exact item_listR pl.isList h0 ∅ (by rw[hj];simpa using ew) fin hs
 .have hj:(i+(its.toArray.size:Int)).toNat=j:=by
   rw[seqIndex_neg ∅ h4]at h1;rw[A1,<-hl];exact AZ h1
  exact Eu (x:=w) pl.isList.typeIs GA.lookup
   (wpAny_getItem_list_neg (Q:=λr s'=>r=w/\EP X π σ Q r s') pl.isList ∅ (by rw[A1]<;>lia) ∅ (by rw[hj];simpa using ew) ⟨rfl,fin⟩) hs
def zqF:IxR X (ye8 X.K):=by
 intro value slice π s σ H x y v u Q I rx ry h hs;let⟨p,xs,i,z,rfl,rfl,hq,he,q⟩:=h
 cases rx
 let⟨t,rfl⟩:=ry;let⟨its,r,pl,hz⟩:=I.tuple hq;let⟨j,h1,h2,h3,h4,h5⟩:=zfF he;let⟨w,ew,rw'⟩:=r.get h2;have hl:=r.length;have hn:=zhc;have fin:EP X π σ Q w s:=⟨z,H,I,rw',q⟩;exact Eu (x:=w) pl.typeIs BL.lookup
  (getItem_tuple (j:=j) (Q:=λr s'=>r=w/\EP X π σ Q r s') pl ∅ ∅ (by rw[A1,<-hl];exact h1) (by simpa using ew) ⟨rfl,fin⟩) hs
def zoY:IxR X yeY:=by
 intro value slice π s σ H x y v u Q I rx ry h hs;let⟨z,i,c,rfl,rfl,hz,he,q⟩:=h;let⟨t,rfl⟩:=rx;let⟨t',rfl⟩:=ry;let⟨j,h1,h2,h3,h4,h5⟩:=zfF he;have hl:z.cps.toList.length=z.length:=by simp[Str.length]
 rw[hl]at h1 h4 h5;have hn:=zhc;exact tail_any (Gm s z t) slot_str_getitem.lookup (getItem_str (c:=c) (by
  have e1:decide (i < -(2^63:Int))=false:=decide_eq_false ∅;have e2:decide (i ≥ 2^63)=false:=decide_eq_false ∅;rw[e1,e2,Gy]) (by rw[h1];simpa using h2) ⟨.str ⟨#[c]⟩,H,I.tok _,⟨_,rfl⟩,q⟩) hs
def rIx(K:AF):R2:=λx y H Q=>yeZ K x y H Q \/ ye8 K x y H Q \/ yeY x y H Q
def zge:IxR X (rIx X.K):=zqE.or (zqF.or zoY)
def zgN(its:List AG)(n j:Nat)(u:AG):Ew (·.setIfInBounds j u) {cls:=.type "list",data:=.seq its.toArray n}={cls:=.type "list",data:=.seq (its.set j u).toArray n}:=by
 simp[Ew]
theorem Inv.lst{π:List (AI×CF)}{σ:St}{H:Hp}{s:AJ}{p:AI}{xs:List V}(I:Inv X π σ H s)(h:H p=AA (.lst xs)):
  ∃(its:List AG) (n:Nat),Vals xs its/\s.heap.get? p=AA {cls:=.type "list",data:=.seq its.toArray n}/\xs.length<=sizeLine:=by
 let⟨z,its,n,r,e⟩:=I.hok p _ h;exact⟨its,n,r,e,z⟩
theorem Inv.lstUpd{π:List (AI×CF)}{σ:St}{H:Hp}{s:AJ}{p:AI}{xs ys:List V}{its its':List AG}{n n':Nat}{f:CF->CF}(I:Inv X π σ H s)(h:H p=AA (.lst xs))
  (ho:s.heap.get? p=AA {cls:=.type "list",data:=.seq its.toArray n}) (hf:f {cls:=.type "list",data:=.seq its.toArray n}={cls:=.type "list",data:=.seq its'.toArray n'}) (r:Vals ys its') (hz:ys.length<=sizeLine) (t:Nat):
  Inv X π σ (upd H p (.lst ys)) {s with heap:=s.heap.update p f,toks:=t}:=by
 have e:(s.heap.update p f).get? p=AA {cls:=.type "list",data:=.seq its'.toArray n'}:=by
  rw[FI f ho (by rw[hf]<;>rfl),hf]
 refine I.write (x:=p) (e:=p) (by rw[h];trivial) (.inl rfl) (λb u hb q=>(DN _ _ (BN hb)).trans q) ⟨_,e⟩ ?_;exact⟨hz,its',n',r,e⟩
def ydD:V->V->V->Hp->(Hp->Prop)->Prop:=λo i v H Q=>∃p xs k j,o=.ref p/\i=.int k/\H p=AA (.lst xs)/\ixN xs.length k=AA j/\Q (upd H p (.lst (xs.set j v)))
def zgB:ye9 X ydD:=by
 intro π s σ H o i v ov iv u Q I ro ri rv h;let⟨p,xs,k,j,rfl,rfl,hp,hj,q⟩:=h
 cases ro
 let⟨t,rfl⟩:=ri;let⟨its,n,r,ho,hz⟩:=I.lst hp;let⟨h1,h2,h3,h4⟩:=zhL hj;have hl:=r.length;have hn:=zhc;have I':Inv X π σ (upd H p (.lst (xs.set j v))) {s with heap:=s.heap.update p (Ew (·.setIfInBounds j u))}:=
  I.lstUpd hp ho (zgN its n j u) (r.set rv j) (by rw[B4];exact hz) s.toks
 by_cases h0:0<=k
 .have hk:k.toNat=j:=by
   rw[G3 h0 h4]at h1;exact AZ h1
  exact PySem.W.ki_setAt ho h0 ∅ (by rw[A1,<-hl];exact h4) (by rw[hk];exact⟨_,I',q⟩)
 .have hk:(k+(its.toArray.size:Int)).toNat=j:=by
   rw[seqIndex_neg ∅ h3]at h1;rw[A1,<-hl];exact AZ h1
  exact PySem.W.ki_setBack ho ∅ (by rw[A1,<-hl];exact h3) ∅ (by rw[hk];exact⟨_,I',q⟩)
def zfq(lo hi:Option Int)(n:Nat):(sliceBounds lo hi AD n).1=((HT.sIx n 0 lo:Nat):Int)/\(sliceBounds lo hi AD n).2.1=((HT.sIx n n hi:Nat):Int)/\(sliceBounds lo hi AD n).2.2=1:=by
 refine⟨?_,?_,rfl⟩
 .cases lo with
  |none=>simp[sliceBounds,HT.sIx]
  |some i=>
   erw[sliceBounds,HT.sIx,GT,show (1:Int) > 0 by decide,if_true]
   by_cases h:i<0
   .simp only[h,if_true]<;>lia
   .simp only[h,if_false]<;>lia
 .cases hi with
  |none=>simp[sliceBounds,HT.sIx]
  |some i=>
   erw[sliceBounds,HT.sIx,GT,show (1:Int) > 0 by decide,if_true]
   by_cases h:i<0
   .simp only[h,if_true]<;>lia
   .simp only[h,if_false]<;>lia
def zeF(its:List AG)(lo hi:Option Int):slicePick its.toArray lo hi AD=((its.drop (HT.sIx its.length 0 lo)).take (HT.sIx its.length its.length hi-HT.sIx its.length 0 lo)).toArray:=by
 let⟨h1,h2,h3⟩:=zfq lo hi its.toArray.size;unfold slicePick;rw[h1,h2,h3];erw[sliceRange_one,pick_run,A1]<;>rfl
def yg0(K:AF):V->Option Int->Option Int->Hp->VK->Prop:=λx lo hi H Q=>∃a xs,x=.ref a/\SqL K H a xs/\∀p,H p=AD->Q (.ref p) (upd H p (.lst (yck xs lo hi)))
def zib:SlR X (yg0 X.K):=by
 intro π s σ H x v vl vu lo hi sl Q I rx hs pl pu h;let⟨a,xs,rfl,hx,q⟩:=h
 cases rx
 let⟨its,r,ht,hz⟩:=I.list hx;have hlen:=r.length;refine⟨"list",_,GA.lookup,ht.isList.typeIs,?_⟩;refine wpAny_getItem_list_slice ht.isList hs pl pu .none (by simp) ?_ (by rw[A1]<;>lia);rw[zeF,<-hlen];refine⟨.ref s.heap.objs.size,_,I.laid (t':=s.toks) (o:=.lst (yck xs lo hi)) (λb ob q=>AR _ q) (AU _) ?_,rfl,q _ (I.hok.fresh (AU _))⟩;exact⟨BU (zdl xs lo hi) hz,_,0,(r.drop (HT.sIx xs.length 0 lo)).take (HT.sIx xs.length xs.length hi-HT.sIx xs.length 0 lo),A2 _ rfl⟩
def ya3:V->Bool
 |.non=>AB
 |.bl _=>AB
 |.int _=>AB
 |.str _=>AB
 |_=>AC
def eqV:V->V->Bool
 |.non,.non=>AB
 |.bl a,.bl b=>a==b
 |.bl a,.int b=>(if a then 1 else 0)==b
 |.int a,.bl b=>a==(if b then 1 else 0)
 |.int a,.int b=>a==b
 |.str a,.str b=>a==b
 |_,_=>AC
def zmV{A:Au}{s:AJ}{y x:V}{u v:AG}(ry:RelV y u)(rx:RelV x v)(fy:ya3 y=AB)(fx:ya3 x=AB):Ha A s u v (eqV y x):=by
 cases y with
 |non=>
  cases ry
  cases x with
  |non=>cases rx;exact SeqAt.EqAt.same _
  |bl b=>cases rx;exact SeqAt.EqAt.none_bool b
  |int b=>let⟨t,rfl⟩:=rx;exact SeqAt.EqAt.none_int b t
  |str b=>let⟨t,rfl⟩:=rx;exact SeqAt.EqAt.none_str b t
  |_=>exact absurd (show AC=AB from fx) BC
 |bl a=>
  cases ry
  cases x with
  |non=>cases rx;exact SeqAt.EqAt.bool_none a
  |bl b=>cases rx;exact SeqAt.EqAt.bool_bool a b
  |int b=>let⟨t,rfl⟩:=rx;exact SeqAt.EqAt.bool_int a b t
  |str b=>let⟨t,rfl⟩:=rx;exact SeqAt.EqAt.bool_str a b t
  |_=>exact absurd (show AC=AB from fx) BC
 |int a=>
  let⟨t',rfl⟩:=ry
  cases x with
  |non=>cases rx;exact SeqAt.EqAt.int_none a t'
  |bl b=>cases rx;exact SeqAt.EqAt.int_bool a t' b
  |int b=>let⟨t,rfl⟩:=rx;exact SeqAt.EqAt.int_int a t' b t
  |str b=>let⟨t,rfl⟩:=rx;exact Fg a t' b t
  |_=>exact absurd (show AC=AB from fx) BC
 |str a=>
  let⟨t',rfl⟩:=ry
  cases x with
  |non=>cases rx;exact SeqAt.EqAt.str_none a t'
  |bl b=>cases rx;exact SeqAt.EqAt.str_bool a t' b
  |int b=>let⟨t,rfl⟩:=rx;exact Fh a t' b t
  |str b=>let⟨t,rfl⟩:=rx;exact SeqAt.EqAt.str_str a t' b t
  |_=>exact absurd (show AC=AB from fx) BC
 |_=>exact absurd (show AC=AB from fy) BC
def eqU(x:V)(u:AG):Bool:=match u with
 |.none=>eqV .non x
 |.bool b=>eqV (.bl b) x
 |.int i _=>eqV (.int i) x
 |.str z _=>eqV (.str z) x
 |_=>AC
def zkt{x y:V}{u:AG}(r:RelV y u)(f:ya3 y=AB):eqU x u=eqV y x:=by
 cases y with
 |non=>cases r;rfl
 |bl b=>cases r;rfl
 |int i=>let⟨t,rfl⟩:=r;rfl
 |str z=>let⟨t,rfl⟩:=r;rfl
 |_=>exact absurd (show AC=AB from f) BC
def zfU{x:V}:∀{xs:List V} {us:List AG},Vals xs us->xs.all ya3=AB->us.any (eqU x)=xs.any λy=>eqV y x
 |_,_,.nil,_=>rfl
 |y::xs,u::us,.cons r t,f=>by
  rw[Bc,AK]at f;rw[BP,BP,zkt r f.1,zfU t f.2]
def zeM{A:Au}{s:AJ}{x:V}{v:AG}(rx:RelV x v)(fx:ya3 x=AB):∀{xs:List V} {us:List AG},Vals xs us->xs.all ya3=AB->∀u∈us,Ha A s u v (eqU x u)
 |_,_,.nil,_=>λu hu=>by cases hu
 |y::xs,u::us,.cons r t,f=>λu' hu=>by
  rw[Bc,AK]at f;rcases AT.mp hu with rfl|hu
  .rw[zkt r f.1];exact zmV r rx f.1 fx
  .exact zeM rx fx t f.2 u' hu
def inV(x:V)(xs:List V):Bool:=xs.any λy=>eqV y x
def rIn(K:AF)(neg:Bool):R2:=λx y H Q=>∃p xs,y=.ref p/\(SqL K H p xs \/ SqT K H p xs)/\ya3 x=AB/\xs.all ya3=AB/\Q (.bl (if neg then !inV x xs else inV x xs)) H
def zfk:OpR X (compareOp .In) (rIn X.K AC):=by
 intro π s σ H x y v u Q I rx ry h;let⟨p,xs,rfl,hq,fx,fs,q⟩:=h
 cases ry
 rcases hq with hq|hq
 .let⟨its,r,pl,hz⟩:=I.list hq;refine SeqAt.in_listAt (eqU x) pl.isList (λw hw=>zeM rx fx r fs w (by simpa using hw)) ⟨.bl _,H,I,rfl,?_⟩;rw[show its.toArray.any (eqU x)=its.any (eqU x)by simp,zfU r fs];exact q
 .let⟨its,r,pl,hz⟩:=I.tuple hq;refine SeqAt.in_tupleAt (eqU x) pl (λw hw=>zeM rx fx r fs w (by simpa using hw)) ⟨.bl _,H,I,rfl,?_⟩;rw[show its.toArray.any (eqU x)=its.any (eqU x)by simp,zfU r fs];exact q
def zfb:yad X (.builtin "len") (λxs H Q=>∃p ys,xs=[.ref p]/\(SqL X.K H p ys \/ SqT X.K H p ys)/\Q (.int ys.length) H):=by
 intro π s σ H xs us Q I r h;let⟨p,ys,rfl,hq,q⟩:=h;let⟨u,rfl,rx⟩:=vals1 r
 cases rx
 have hn:=zhc;rcases hq with hq|hq
 .let⟨its,r',pl,hz⟩:=I.list hq;have hlen:=r'.length;exact Calls.call_len_list pl.isList (by erw[A1]<;>lia) ⟨.int ys.length,H,I.tok _,⟨s.toks+1,by rw[A1,hlen]⟩,q⟩
 .let⟨its,r',pl,hz⟩:=I.tuple hq;have hlen:=r'.length;exact len_tuple pl (by erw[A1]<;>lia) ⟨.int ys.length,H,I.tok _,⟨s.toks+1,by rw[A1,hlen]⟩,q⟩
def zfx:yad X (.builtin "len") (λxs H Q=>∃z,xs=[.str z]/\z.length<=sizeLine/\Q (.int z.length) H):=by
 intro π s σ H xs us Q I r h;let⟨z,rfl,hz,q⟩:=h;let⟨u,rfl,t,rfl⟩:=vals1 r;have hn:=zhc;exact len_str ∅ ⟨.int z.length,H,I.tok _,⟨_,rfl⟩,q⟩
def zcn:yad X (.type "tuple") (λxs H Q=>∃p ys,xs=[.ref p]/\((SqL X.K H p ys/\∀l,H l=AD->Q (.ref l) (upd H l (.tup ys))) \/ (SqT X.K H p ys/\Q (.ref p) H))):=by
 intro π s σ H xs us Q I r h;let⟨p,ys,rfl,h⟩:=h;let⟨u,rfl,rx⟩:=vals1 r
 cases rx
 rcases h with⟨hq,q⟩|⟨hq,q⟩
 .let⟨its,r',pl,hz⟩:=I.list hq;have hlen:=r'.length;refine call_tuple_list pl.isList (λh' kp=>?_) (by erw[A1]<;>lia);have I1:Inv X π σ H {s with heap:=h'}:=I.kept (t':=s.toks) kp;have I2:Inv X π σ (upd H h'.objs.size (.tup ys)) {s with heap:=h'.push {cls:=.type "tuple",data:=.seq its.toArray} }:=
   I1.laid (t':=s.toks) (λb o e=>AR _ e) (AU _) (show yZ X.prog X.w _ _ _ (.tup ys)from ⟨hz,its,r',GO _ _⟩)
  exact⟨.ref h'.objs.size,_,I2,rfl,q _ (I1.hok.fresh (AU _))⟩
 .let⟨its,r',pl,hz⟩:=I.tuple hq;exact call_tuple_same pl ⟨.ref p,H,I,rfl,q⟩
def tyV(K:AF)(T:String)(x:V)(H:Hp):Prop:=match x with
 |.str _=>T="str"
 |.int _=>T="int"
 |.ref p=>(T="list"/\∃xs,SqL K H p xs) \/ (T="tuple"/\∃o,K.lookup p=AA o/\o.cls=.type "tuple"/\o.dict=AD) \/
   (T="dict"/\((∃kvs,H p=AA (.dK kvs)) \/ ∃kvs,H p=AA (.dT kvs))) \/ (T="set"/\∃S n,H p=AA (.set S n))
 |_=>False
def zow{π:List (AI×CF)}{σ:St}{H:Hp}{s:AJ}{T:String}{x:V}{v:AG}(I:Inv X π σ H s)(r:RelV x v)(ty:tyV X.K T x H):
  s.TypeIs v T/\∀a,v=.ref a->∃ob,s.heap.get? a=AA ob/\ob.dict=none:=by
 cases x with
 |str z=>
  let⟨t,rfl⟩:=r
  cases (show T="str" from ty)
  exact⟨Gm s z t,λ_ e=>nomatch e⟩
 |int i=>
  let⟨t,rfl⟩:=r
  cases (show T="int" from ty)
  exact⟨typeIs_int s i t,λ_ e=>nomatch e⟩
 |ref p=>
  cases r
  rcases ty with⟨rfl,xs,hq⟩|⟨rfl,o,hk,hc,hd⟩|⟨rfl,hk⟩|⟨rfl,S,n,hk⟩
  .let⟨its,_,pl,_⟩:=I.list hq;refine⟨pl.isList.typeIs,λa e=>?_⟩
   cases e
   let⟨o,n,e,c,hd,_⟩:=pl;exact⟨o,e,hd⟩
  .refine⟨⟨o,I.kIn p o hk,hc⟩,λa e=>?_⟩
   cases e
   exact⟨o,I.kIn _ o hk,hd⟩
  .have z:∃o,s.heap.get? p=AA o/\o.ExactDict:=by
    rcases hk with⟨kvs,hk⟩|⟨kvs,hk⟩
    .let⟨_,_,_,_,o,_,_,e,ex,_⟩:=I.hok p _ hk;exact⟨o,e,ex⟩
    .let⟨_,_,_,_,o,_,_,e,ex,_⟩:=I.hok p _ hk;exact⟨o,e,ex⟩
   let⟨o,e,ex⟩:=z;refine⟨⟨o,e,ex.1⟩,λa e2=>?_⟩
   cases e2
   exact⟨o,e,ex.2.1⟩
  .let⟨o,_,_,_,e,ex,_⟩:=I.hok p _ hk;refine⟨⟨o,e,ex.1⟩,λa e2=>?_⟩
   cases e2
   exact⟨o,e,ex.2.1⟩
 |_=>exact Bq ty
def tBM(K:AF)(T:String)(r:V->List V->Hp->VK->Prop)(to:TE)(t:TA):TE:=λσ H Q=>to σ H λx H1=>tyV K T x H1/\t σ H1 λxs H2=>r x xs H2 Q
variable {o e:AV}{es:List AV}{to:TE}{t:TA}{name:AQ}{apos cpos:CV}{T id:String}{r:V->List V->Hp->VK->Prop}
def zqa(pa:PlainAttrs T)(slot:Slot T name id)(hty:typeOf (.builtin id)=pure (.type "method_descriptor"))(hm:MtR X id r)(ho:PE X o to)(ha:PA X (e::es) t)
  (hbase:attributeBase o name X.env (eval o X.env)=eval o X.env:=by rfl)
  (hfew:((backTo cpos (starEach (e::es) X.env)).all (λx=>!x.1)&&(backToKw cpos (keywordEach [] X.env)).all (λx=>x.1.isSome)
   && decide ((e::es).length+([]:List C4).length+(if ([]:List C4).isEmpty then 0 else 1)<30))=true:=by rfl)
  (hline:(apos.endLine==cpos.line)=true:=by rfl) (hs:starEach (e::es) X.env=(AC,eval e X.env)::starEach es X.env:=by rfl) (hplain:(backTo cpos (starEach es X.env)).any (·.1)=false:=by rfl):
  PE X (.Call (.Attribute o name apos) (e::es) [] cpos) (tBM X.K T r to t):=by
 intro π s σ H Q I h;refine wpAny_Call_method_late hbase hfew hline rfl (thn (ho π s σ H _ I h) λv s1 kq=>?_);let⟨x,H1,I1,r1,ty,q1⟩:=kq;let⟨h1,h2⟩:=zow I1 r1 ty;refine⟨T,id,pa,slot,hty,h1,h2,?_⟩;have hA:=ha cpos π s1 σ H1 _ I1 q1;rw[hs]at hA ⊢;refine Ex (by show (AC || (backTo cpos (starEach es X.env)).any (·.1))=AC;rw[hplain]<;>rfl) (FN ?_);exact thn hA λus s2 ⟨vs,H2,I2,r2,q2⟩=>hm π s2 σ H2 x vs v us Q I2 r1 r2 q2
/- xs.append(e),list.index on a module's tuple .. are MtR facts of 06m -/
end
def MtM(X:Cx)(id:String)(r:V->List V->Hp->VK->Prop):Prop:=
 ∀(π:List (AI×CF)) (s:AJ) (σ:St) (H:Hp) (x:V) (xs:List V) (v:AG) (us:List AG) (Q:VK),Inv X π σ H s->RelV x v->Vals xs us->r x xs H Q ->
  A4 (model X.prog X.w) X.A (call (.builtin id) (v::us)) (EP X π σ Q) X.xe s
theorem Vals.one:∀{x:V} {us:List AG},Vals [x] us->∃u,us=[u]/\RelV x u
 |_,_,.cons r .nil=>⟨_,rfl,r⟩
theorem Vals.reverse{xs:List V}{us:List AG}(h:Vals xs us):Vals xs.reverse us.reverse:=by
 induction h with
 |nil=>exact .nil
 |cons r t ih=>rw[DO,DO];exact Vals.append ih (.cons r .nil)
section
variable {X:Cx}{π:List (AI×CF)}{σ:St}{H:Hp}{s:AJ}{l b:AI}{xs ys zs:List V}
theorem Inv.lset{its its':List AG}{n:Nat}{f:Array AG->Array AG}{t':Nat}(I:Inv X π σ H s)(hH:H l=AA (.lst xs))
  (e:s.heap.get? l=AA {cls:=.type "list",data:=.seq its.toArray n}) (hf:f its.toArray=its'.toArray) (hv:Vals ys its') (hz:ys.length<=sizeLine):
  Inv X π σ (upd H l (.lst ys)) {s with heap:=s.heap.update l (Ew f),toks:=t'}:=by
 have q:=PySem.IsL.update e f;rw[hf]at q;refine I.write (x:=l) (e:=l) (by rw[hH];exact trivial) (.inl rfl) (λb' u hb hu=>(DN s.heap (Ew f) (BN hb)).trans hu) ⟨_,q⟩ ?_;exact⟨hz,its',_,hv,q⟩
theorem Inv.lnew{its:List AG}{t':Nat}(I:Inv X π σ H s)(hv:Vals ys its)(hz:ys.length<=sizeLine):
  Inv X π σ (upd H s.heap.objs.size (.lst ys)) {s with heap:=s.heap.push {cls:=.type "list",data:=.seq its.toArray},toks:=t'}:=
 I.laid (λ_ _ q=>AR _ q) (AU _) ⟨hz,its,0,hv,A2 _ rfl⟩
theorem Inv.fresh(I:Inv X π σ H s):H s.heap.objs.size=none:=I.hok.fresh (AU _)
theorem Inv.lstM(I:Inv X π σ H s)(hH:H l=AA (.lst xs)):xs.length<=sizeLine/\∃(its:List AG) (n:Nat),Vals xs its/\xs.length=its.length/\s.heap.get? l=AA {cls:=.type "list",data:=.seq its.toArray n}:=by
 let⟨z,its,n,r,e⟩:=I.hok l _ hH;exact⟨z,its,n,r,r.length,e⟩
end
section
variable {X:Cx}
def ycO:V->List V->Hp->VK->Prop:=λx vs H Q=>∃l xs y,x=.ref l/\vs=[y]/\H l=AA (.lst xs)/\xs.length<sizeLine/\Q .non (upd H l (.lst (xs++[y])))
def zfz:MtM X "list.append" ycO:=by
 intro π s σ H x vs v us Q I rx rv h;let⟨l,xs,y,rfl,rfl,hH,hz,q⟩:=h
 cases rx
 let⟨u,rfl,ru⟩:=rv.one;let⟨z,its,n,r,hl,e⟩:=I.lstM hH;refine call_meets FJ ⟨_,e,rfl⟩ F.entry_list_append (F.args_list_append_2 _ _) (PySem.list_append l its.toArray n u (by rw[A1];lia)) ⟨e,?_⟩;refine⟨.non,_,I.lset (its':=its++[u]) hH e (by simp) (r.append (.cons ru .nil)) ?_,rfl,q⟩;rw[Ah,DV];lia
def ygj:R2:=λx y H Q=>∃l b xs zs,x=.ref l/\y=.ref b/\H l=AA (.lst xs)/\H b=AA (.lst zs)/\xs.length+zs.length<=sizeLine/\∀p,H p=AD->Q (.ref p) (upd H p (.lst (xs++zs)))
def znM:OpR X (binaryOp .Add) ygj:=by
 intro π s σ H x y v u Q I rx ry h;let⟨l,b,xs,zs,rfl,rfl,hH,hB,hz,q⟩:=h
 cases rx
 cases ry
 let⟨z,its,n,r,hl,e⟩:=I.lstM hH;let⟨z2,its2,n2,r2,hl2,e2⟩:=I.lstM hB;refine PySem.P.add_list e e2 ?_ (by rw[A1,A1];lia);have ea:its.toArray++its2.toArray=(its++its2).toArray:=by simp
 rw[ea];exact⟨.ref _,_,I.lnew (t':=s.toks) (r.append r2) (by rw[Ah];lia),rfl,q _ I.fresh⟩
end
section
variable {prog:A8}{w:An}{A:Au}{E:AG->AJ->Prop}{s:AJ}
end
section
variable {X:Cx}
end
end L2
namespace Att
open PySem PySem.W PySem.Calls PyProof.Rows
def zdA{P:Params}{h:BF}:∀(ns:List Int) (vs:List AG),WellAll P h vs (ns.map Hg)->F1 vs ns:=by
 intro ns
 induction ns with
 |nil=>
  intro vs w;rw[Ar]at w
  cases w
  exact .nil
 |cons n ns ih=>
  intro vs w;rw[AL]at w
  cases w with
  |cons a b=>
   cases a
   exact .cons _ _ (ih _ b)
def zim{l:Em}{n:Nat}(hn:l.most=AA n){P:Params}{h:BF}{args:List WData}{vals:List AG}
  (hpre:l.row.toRowW.claim.pre args=AB) (hwl:WellAll P h vals args):
  ∃a vs ns,vals=[Al a]/\args=[WData.list (ns.map Hg)]/\h.get? a=AA {cls:=.type "list",data:=.seq vs.toArray}/\F1 vs ns/\ns.length<=n:=by
 have hsh:WShape.hasAll [] args [.list .int]=true:=(pre_splitW hpre).1;have hc:l.pre.holds [] {args:=args}=true:=(pre_splitW hpre).2;let⟨d,r,rfl,h1,h2⟩:=hasAllW_cons hsh;obtain rfl:=hasAllW_nil h2;let⟨xs,rfl,h3⟩:=hasW_list h1;let⟨ns,rfl⟩:=items_int h3;have hlen:ns.length<=n:=by
  unfold OpenLaw.pre at hc;have h4:(WTm.not (.lt (.lit (.int (n:Int))) (.len (.arg 0)))).holds [] {args:=[.list (ns.map .int)]}=true:=by
   have h4:=(holds_andW hc).1;rw[hn]at h4;exact h4
  have h5:=condW_of h4 (w_not (w_lt w_lit (w_len_list (w_arg rfl))));rw[BH]at h5;refine Nat.le_of_not_lt λq=>?_;have q':(n:Int)<((ns.length:Nat):Int):=by lia
  first
   |(rw[decide_eq_true q']at h5;exact absurd h5 ⋯)
   |(simp at h5;lia)
 cases hwl with
 |cons w1 w2=>
  cases w2
  cases w1 with
  |list ho hall=>exact⟨_,_,ns,rfl,rfl,ho,zdA ns _ hall,hlen⟩
def zi4(l:Em)(args:List WData):l.row.toRowW.claim.post args (.bool AB) args=true:=
 postW_of (r:=l.row.toRowW) (X:=(AB==AB))
  (show Hb [] (.bool AB) .bool=AB by first|rfl|decide|simp[Hb,WShape.arms,WShape.armsAll])
  (show (WTm.eq .res (.lit (.bool AB))).value [] {args:=args,res:=AA (.bool AB),after:=args}=AA (.bool (AB==AB))from w_eq_bool (w_res rfl) w_lit) rfl
theorem attach_call{l:Em}{n:Nat}{q:A8}{loose:List AQ}{XP:(AQ->Option AG)->BF->Prop}{YP:An->BF->Prop}{d:DefRec}
  (hn:l.most=AA n) (hdf:d.params.defaults=[])
  (call:∀(w:An) (s₀ s₁:AJ) (mg mb:AQ->Option AG) (fa:AI) (o:CF) (pm cd doc:AG) (a:AI) (vs:List AG) (ns:List Int),
   Ground q loose [] XP w s₀ mg mb s₁.heap->YP w s₁.heap ->
   s₁.heap.get? fa=AA o->o.data=.func (docDef d.name d.params d.body d.scope pm cd doc)->s₁.heap.CodeRec cd d.name->mg d.name=AA (.ref fa) ->
   s₁.heap.get? a=AA {cls:=.type "list",data:=.seq vs.toArray}->F1 vs ns->ns.length<=n->s₁.gens=#[] ->
   codeAny (model l.prog w) callerA (.call (.ref fa) ⟨[.ref a],[]⟩) (λr s'=>r=.ok (.ret (.bool AB))/\OldK s₁.heap s'.heap/\s'.os=s₁.os/\D6 s'.gens) s₁):
  Gd q loose XP YP l.row.toRowW d [] (λf vs=>Gn f vs):=by
 intro w s₀ s₁ mg mb G Y fa o pm cd doc dV kV ho hd hcd hD hmg hg args vals as hpre hlay hrd hwl hlo;obtain rfl:dV=.none:=Dflts.none hD hdf;obtain rfl:kV=.none:=Dflts.noKw hD;let⟨a,vs,ns,rfl,rfl,hobj,hints,hlen⟩:=zim hn hpre hwl;refine enter_call (Dt (call w s₀ s₁ mg mb fa o pm cd doc a vs ns G Y ho (fd_plain hd) hcd hmg hobj hints hlen hg) λr s' hq=>?_);let⟨rfl,h2,h3,h4⟩:=hq;exact⟨.inl ⟨.bool AB,.bool AB,[],rfl,λ_=>rfl,.bool AB,zi4 l _,λ_=>⟨He,λ_ hm=>(nomatch hm)⟩⟩,h2,h3,h4⟩
section
variable {prog:A8}{w:An}{A:Au}{E:AG->AJ->Prop}{s:AJ}{K:AF}
end
end Att
namespace L2
open PySem PySem.Spec PyProof.Rows
def zfv:∀{vs:List AG} {ns:List Int},F1 vs ns->Vals (ns.map V.int) vs
 |_,_,.nil=>.nil
 |_,_,.cons n t h=>.cons ⟨t,rfl⟩ (zfv h)
def Only(H:Hp):Prop:=∀b,H b=AD \/ ∃o xs,H b=AA (.frz o (.lst xs))
def zj2{P:A8}{w:An}{K:AF}{mg mb:AQ->Option AG}{CX:CXT}{k:Nat}{fa a:AI}{fd:BG}{x:AQ}{sp:Sp}{s₁:AJ}{vs:List AG}{ns:List Int}
  (KX:K.In s₁.heap) (hns:s₁.heap.Ns mainGlobals mg) (hb:s₁.heap.Ns builtinsNs mb) (hbb:∀x:AQ,x ≠ "__name__"->mb x=bootBuiltins x) (hlim:s₁.heap.NoLimit) (hg:s₁.gens=#[])
  (ha:s₁.heap.get? a=AA {cls:=.type "list",data:=.seq vs.toArray}) (hi:F1 vs ns) (hl:ns.length<=sizeLine) (hr:yav k callerA)
  (F:∀base:BF,K.In base->base.Ns mainGlobals mg->yaJ P w K mg base CX k fa fd [x] sp) (hbind:∀(s:AJ) (u:AG),FZ s fd ⟨[u],[]⟩ [(x,u)])
  (hsp:∀H:Hp,Only H->SqL K H a (ns.map V.int)->sp [.ref a] H (λv _=>v=.bl AB) λ_ _ _=>False)
  (hCX:∀H e s',CX [] H s₁ (λ_ _ _=>False) e s'->False):
  codeAny (model P w) callerA (.call (.ref fa) ⟨[.ref a],[]⟩) (λr s'=>r=.ok (.ret (.bool AB))/\OldK s₁.heap s'.heap/\s'.os=s₁.os/\D6 s'.gens) s₁:=by
 have rv:=zfv hi;have lenV:=hi.length;have core:∀H:Hp,Only H->SqL K H a (ns.map V.int)->HOk P w H s₁.heap->(∀b,H b≠AD->b=a)->(H a≠AD->K.lookup a=AD) ->
   codeAny (model P w) callerA (.call (.ref fa) ⟨[.ref a],[]⟩) (λr s'=>r=.ok (.ret (.bool AB))/\OldK s₁.heap s'.heap/\s'.os=s₁.os/\D6 s'.gens) s₁:=by
  intro H hO hS hok hA hK;have base_of:∀{b:AI} {o:CF},s₁.heap.get? b=AA o->H b=AD->(ycb s₁.heap H).get? b=AA o:=λe n=>zkp e n;have noA:∀{b:AI} {o:CF} {es:Array CJ} {ep:Nat},s₁.heap.get? b=AA o->o.data=.dict es ep->H b=none:=λ{b o es ep} e d=>by
   cases q:H b with
   |none=>rfl
   |some u=>
    have e':b=a:=hA b (by rw[q];simp);subst e';rw[ha]at e;cases e;have d':Data.seq vs.toArray _=Data.dict es ep:=d
    cases d'
  have nsK:∀{b:AI} {m:AQ->Option AG},s₁.heap.Ns b m->(ycb s₁.heap H).Ns b m:=λ{b m} ⟨o,es,ep,e,d,r⟩=>⟨o,es,ep,base_of e (noA e d),d,r⟩;have hKb:K.In (ycb s₁.heap H):=λb o e=>base_of (KX b o e) (by
   cases q:H b with
   |none=>rfl
   |some u=>
    have e':b=a:=hA b (by rw[q];simp);subst e';rw[hK (by rw[q];simp)]at e;cases e)
  have hM:Mod K mg (ycb s₁.heap H):=⟨hKb,nsK hns,⟨mb,nsK hb,hbb⟩,let ⟨mc,h1,h2⟩:=hlim;⟨mc,nsK h1,h2⟩⟩;have e0:ycF P w K mg (ycb s₁.heap H) callerA [] s₁ H:=⟨rfl,hM,λb o e=>zmE e,HE (ziA _ _),trivial,λb hb=>absurd (show b∈([]:List AI)from hb) (by simp),hok,.of_eq hg⟩;refine Dt ((F _ hKb (nsK hns)).run callerA [] s₁ H ⟨[.ref a],[]⟩ [.ref a] [.ref a] _ _ hr e0 (hbind s₁ (.ref a)) (.cons rfl .nil) (hsp H hO hS)) λr s' h=>?_
  cases r with
  |error e=>exact(hCX H e s' h).elim
  |ok fl=>
   cases fl with
   |next=>exact Bq h
   |brk=>exact Bq h
   |cont=>exact Bq h
   |ret u=>
    let⟨v,H',os,bare,un,hok',r',q⟩:=h;have q':v=.bl true:=q;subst q';obtain rfl:u=EA true:=r';refine⟨rfl,OldK.of_keep λb o e=>?_,os,bare⟩
    cases q:H b with
    |none=>exact un.keep b o e q (by intro z;exact absurd (show b∈([]:List AI)from z) (by simp)) (by simp)
    |some u=>
     rcases hO b with z|⟨ob,xs,z⟩
     .rw[q]at z;cases z
     .have z2:=un.frzs b ob _ z;let⟨e1,_⟩:=hok b _ z;let⟨e2,_⟩:=hok' b _ z2;rw[e]at e1;cases e1;exact e2
 cases hk:K.lookup a with
 |some o=>
  have e:=KX a o hk;rw[ha]at e
  cases e
  refine core (λ_=>AD) (λ_=>.inl rfl) (.inr ⟨_,vs.toArray,_,hk,rfl,rfl,rfl,by rw[A1,lenV];exact hl,by simpa using rv⟩) (λb u z=>by have z':(AD:Option HO)=AA u:=z;cases z') (λb z=>absurd rfl z) λz=>absurd rfl z
 |none=>
  refine core (λb=>if b=a then AA (.frz {cls:=.type "list",data:=.seq vs.toArray} (.lst (ns.map V.int)))else AD) (λb=>?_) (.inl (.inr ⟨{cls:=.type "list",data:=.seq vs.toArray},if_pos rfl⟩)) (λb u z=>?_) (λb z=>?_) λ_=>hk
  .by_cases hb:b=a
   .exact .inr ⟨_,_,if_pos hb⟩
   .exact .inl (if_neg hb)
  .by_cases hb:b=a
   .have z':=(if_pos hb).symm.trans z
    cases z'
    subst hb;exact⟨ha,by rw[BH];exact hl,vs,_,rv,ha⟩
   .have z':=(if_neg hb).symm.trans z
    cases z'
  .by_cases hb:b=a
   .exact hb
   .exact absurd (if_neg hb) z
theorem walk_of{l:Em}{n k:Nat}{q:A8}{loose:List AQ}{XP:(AQ->Option AG)->BF->Prop}{YP:An->BF->Prop}{d:DefRec}{K:Params->AF}{CX:An->CXT}{sp:An->Sp}{x:AQ}
  (hn:l.most=AA n) (hn2:n<=sizeLine) (hdf:d.params.defaults=[]) (hr:yav k callerA)
  (hY:∀(w:An) (h:BF),YP w h->(K w.params).In h)
  (F:∀(w:An) (mg:AQ->Option AG) (fa:AI) (h:BF),(K w.params).In h->h.Ns mainGlobals mg->mg d.name=AA (.ref fa) ->
   ∃fd:BG,(∀(s:AJ) (u:AG),FZ s fd ⟨[u],[]⟩ [(x,u)]) /\
    ∀base:BF,(K w.params).In base->base.Ns mainGlobals mg->yaJ l.prog w (K w.params) mg base (CX w) k fa fd [x] (sp w))
  (hsp:∀(w:An) (H:Hp) (a:AI) (ns:List Int),ns.length<=n->Only H->SqL (K w.params) H a (ns.map V.int)->sp w [.ref a] H (λv _=>v=.bl AB) λ_ _ _=>False)
  (hCX:∀(w:An) (H:Hp) (s:AJ) (e:AG) (s':AJ),CX w [] H s (λ_ _ _=>False) e s'->False):
  Gd q loose XP YP l.row.toRowW d [] (λf vs=>Gn f vs):=by
 refine Att.attach_call hn hdf λw s₀ s₁ mg mb fa o pm cd doc a vs ns G Y ho hd hcd hmg hobj hints hlen hg=>?_;have KX:=hY w _ Y;let⟨fd,hb,hF⟩:=F w mg fa _ KX G.T.g hmg;exact zj2 KX G.T.g G.T.b G.T.builtins G.T.nolimit hg hobj hints (BU hlen hn2) hr hF hb (λH hO hS=>hsp w H a ns hlen hO hS) λH e s'=>hCX w H s₁ e s'
def inClass(s:Bz)(j:Nat):Stmt:=match s with
 |.ClassDef _ _ _ body _ _ _ _ _ _ _=>body.getD j (.Pass ⟨0,0,0,0⟩)
 |_=>.Pass ⟨0,0,0,0⟩
def yaf(s:Bz):Arguments:=match s with
 |.FunctionDef _ a _ _ _ _ _ _ _ _=>a
 |_=>{posonlyargs:=[],args:=[],vararg:=AD,kwonlyargs:=[],kw_defaults:=[],kwarg:=AD,defaults:=[]}
def yac(s:Bz):List Stmt:=match s with
 |.FunctionDef _ _ b _ _ _ _ _ _ _=>b
 |_=>[]
def yH(s:Bz):Scope:=match s with
 |.FunctionDef _ _ _ _ _ _ sc _ _ _=>sc
 |_=>{kind:=.function,names:=[],isGenerator:=AC,isCoroutine:=AC}
structure Fun(K:AF)(x qual:AQ)(st:Bz)(f:AI)(fd:BG):Prop where
 ex:∃(oc:AG) (od:Option AI) (kV doc pm:AG) (an:Option AI) (cdv ct:AG) (osl:Array (Option AG)),
  fd=B5 x qual (yaf st) (yac st) (yH st) .none kV doc pm an cdv ct/\K.lookup f=AA ⟨oc,od,.func fd,osl⟩/\CM K cdv qual=AB
 kp:Ax K (.ref f)=AB
section
variable {P:A8}{w:An}{K:AF}{mg:AQ->Option AG}{base:BF}
theorem Fun.binds{x qual:AQ}{st:Bz}{f:AI}{fd:BG}{ps:List AQ}(F:Fun K x qual st f fd)
  (h:∀(kV doc pm:AG) (an:Option AI) (cdv ct:AG) (us:List AG),us.length=ps.length->bindArgs (B5 x qual (yaf st) (yac st) (yH st) .none kV doc pm an cdv ct) ⟨us,[]⟩=pure (ps.zip us)):Binds K fd ps []:=by
 let⟨oc,od,kV,doc,pm,an,cdv,ct,osl,rfl,lk,hcd⟩:=F.ex;exact .all (h kV doc pm an cdv ct)
end
def zll{A:Au}{k:Nat}(hr:yav k A):A.units+1<cLine:=Nat.lt_of_le_of_lt (Nat.add_le_add_left (by decide:1<=64) _) hr.units
section
variable {X:Cx}
end
end L2
namespace WE
open PySem PySem.Spec PyProof.Rows
open AutoSeq1 (wpAny_loadPart')
section
variable {pg:A8}{wd:An}{A:Au}{Er:AG->AJ->Prop}{s:AJ}
def zcs{it t:AI}{i:Nat}{xs:Array AG}{x:AG}{Q:AG->AJ->Prop}(hi:s.heap.IsTupleIter it t i)(ht:s.heap.IsTuple t xs)(hx:xs[i]?=AA x)
  (k:∀h',h'.IsTupleIter it t (i+1)->Cc it s.heap h'->Q x {s with heap:=h'}):A4 (model pg wd) A (BT (.ref it)) Q Er s:=by
 let⟨oi,gi,ci,di⟩:=id hi;let⟨ot,gt,_,nt,dt⟩:=ht;unfold BT;refine AH (Bf (name:=AE "__next__") hi.typeIs CN (C6 CN hi.typeIs Du ?_ (Dm _)));show A4 _ _ (field (.ref it) 0 >>= _) _ _ _;refine AH (BV gi di (x:=.ref t) rfl ?_);show A4 _ _ (if (Al t==CL)=AB then _ else _) _ _ _;rw[if_neg (show ¬((Al t==CL)=AB)from λz=>BC z)];show A4 _ _ (field (.ref it) 1 >>= _) _ _ _;refine AH (BV gi di (x:=.int i 0) rfl ?_);show A4 _ _ (seqItems? (.ref t) >>= _) _ _ _;refine AH (C7 gt dt ?_);erw[CY,hx];refine AH (FO gi di (by simp) (AX ⟨x,rfl,AX (k _ ?_ (F5 ..))⟩));refine⟨_,FI _ gi (Obj.isFreed_of_fields (Fm di _)),(Obj.cls_mapFields ..).trans ci,?_⟩;rw[Fm di];simp[rawInt]
def zeU{it t:AI}{i:Nat}{xs:Array AG}{Q:AG->AJ->Prop}(hh:A.handled=AD)(hi:s.heap.IsTupleIter it t i)(ht:s.heap.IsTuple t xs)(hx:xs[i]?=AD)
  (k:∀h' e,Heap.ExtBut it s.heap h'->(∃o,h'.get? e=AA o/\o.cls=.type "StopIteration")->Er (.ref e) {s with heap:=h'}):A4 (model pg wd) A (BT (.ref it)) Q Er s:=by
 let⟨oi,gi,ci,di⟩:=id hi;let⟨ot,gt,_,nt,dt⟩:=ht;unfold BT;refine AH (Bf (name:=AE "__next__") hi.typeIs CN (C6 CN hi.typeIs Du ?_ (Dm _)));show A4 _ _ (field (.ref it) 0 >>= _) _ _ _;refine AH (BV gi di (x:=.ref t) rfl ?_);show A4 _ _ (if (Al t==CL)=AB then _ else _) _ _ _;rw[if_neg (show ¬((Al t==CL)=AB)from λz=>BC z)];show A4 _ _ (field (.ref it) 1 >>= _) _ _ _;refine AH (BV gi di (x:=.int i 0) rfl ?_);show A4 _ _ (seqItems? (.ref t) >>= _) _ _ _;refine AH (C7 gt dt ?_);erw[CY,hx];refine AH (Eo (AH (FO gi di (by simp) ?_)));show A4 _ _ (newExc (.type "StopIteration") [] >>= _) _ _ _;refine AH ?_;erw[newExc,newTuple];refine AH (Bp ?_ (by size_fits));refine AH (m:=firstArgMember _ _) (wpAny_of_eq (a:=CL) (by first|rfl|(erw[firstArgMember];rfl)) ?_);refine Bp ?_ (by size_fits);erw[raiseNew];refine AH (wpAny_handled ?_);first|rw[show A.in1.handled=AD from hh]|rw[hh]
 refine AH (AX (wpAny_throw ?_));exact k _ _ (((F5 ..).extBut.push _).push _) ⟨_,A2 _ rfl,rfl⟩
end
theorem draws_tuple{pg:A8}{wd:An}{A:Au}(hh:A.handled=AD)(it t:AI)(hne:t≠it)(xs:Array AG):
  Draws pg wd A it [it,t] xs.size (λi v=>xs[i]?=AA v) (λi h=>h.IsTupleIter it t i/\h.IsTuple t xs) where
 live:=λ_ _ st=>let ⟨o,g,_⟩:=st.1;⟨o,g⟩
 frame:=λ_ _ _ st kp=>⟨let ⟨o,g,r⟩:=st.1;⟨o,kp it (by simp) o g,r⟩,let ⟨o,g,r⟩:=st.2;⟨o,kp t (by simp) o g,r⟩⟩
 item:=λi s Q E hi st hQ=>zcs st.1 st.2 (x:=xs[i]) (by simp[hi]) λh' hit' hs'=>hQ _ h' s.toks (by simp[hi]) ⟨hit',st.2.extBut hs'.extBut hne⟩ hs'
 done:=λs Q E st hE=>zeU hh st.1 st.2 (by simp) hE
def zfV(l:AI)(xs:Array AG)(n:Nat)(dc:Option AI)(sl:Array (Option AG)):
  Meets (HG.«enumerate.__new__» ⟨[.type "enumerate",.ref l],[]⟩) (λ_ R s=>s.heap.get? l=AA {cls:=.type "tuple",dict:=dc,data:=.seq xs n,slots:=sl} /\
   R (.ok (.ret (.ref (s.heap.push {cls:=.type "tuple_iterator",data:=.fields #[.ref l,.int 0 0]}).objs.size)))
    {s with heap:=(s.heap.push {cls:=.type "tuple_iterator",data:=.fields #[.ref l,.int 0 0]}).push {cls:=.type "enumerate",data:=.fields #[.none,.bool AC,.ref s.heap.objs.size,rawInt 0,.none,.none]} }):=
 .of_wp λprog w A R s h=>by
  let⟨hp,g,d,tk,os⟩:=s;let⟨gl,h⟩:=h;have hsub:=sub_enumerate;have hT:GB (G4 ⟨hp,g,d,tk,os⟩) l xs:=⟨_,gl,rfl,n,rfl⟩
  wp_walk using wpAny_loadPart' gl
  refine wpAny_stack_any λst=>AX ?_;split
  .rename_i c _ _ _ _ _
   cases (c==Fi "enumerate")
   .wp_walk using wpAny_loadPart' gl,Bs hT
    exact⟨_,rfl,h⟩
   .wp_walk using wpAny_loadPart' gl,Bs hT
    exact⟨_,rfl,h⟩
  .wp_walk using wpAny_loadPart' gl,Bs hT
   exact⟨_,rfl,h⟩
theorem call_enumT{pg:A8}{wd:An}{A:Au}{Er:AG->AJ->Prop}{s:AJ}{l:AI}{xs:Array AG}{Q:AG->AJ->Prop}(hT:s.heap.IsTuple l xs)
  (k:∀h',IsEnum h' (s.heap.objs.size+1) s.heap.objs.size 0 .none->h'.IsTupleIter s.heap.objs.size l 0->h'.objs.size=s.heap.objs.size+2 ->
   (∀b o,s.heap.get? b=AA o->h'.get? b=AA o)->Q (.ref (s.heap.objs.size+1)) {s with heap:=h'}):A4 (model pg wd) A (call (.type "enumerate") [.ref l]) Q Er s:=by
 let⟨⟨c,dct,dt,sl⟩,gl,hc,n,hd⟩:=hT
 cases (show c=.type "tuple" from hc)
 cases (show dt=.seq xs n from hd)
 refine callType_new F.called_enumerate ⋯ (F.typeCall_enumerate_1 _) (F.newCall_enumerate_1 _) (λobj=>F.args_object_init_2 obj _) F.entry_enumerate_new (zfV l xs n dct sl) ⟨gl,?_⟩;have hz:(s.heap.push {cls:=.type "tuple_iterator",data:=.fields #[.ref l,.int 0 0]}).objs.size=s.heap.objs.size+1:=By ..;show _/\_;rw[hz];have he:IsEnum ((s.heap.push {cls:=.type "tuple_iterator",data:=.fields #[.ref l,.int 0 0]}).push {cls:=.type "enumerate",data:=.fields #[.none,.bool AC,.ref s.heap.objs.size,rawInt 0,.none,.none]}) (s.heap.objs.size+1) s.heap.objs.size 0 .none:=by
  have q:=A2 (s.heap.push {cls:=.type "tuple_iterator",data:=.fields #[.ref l,.int 0 0]}) (o:={cls:=.type "enumerate",data:=.fields #[.none,.bool AC,.ref s.heap.objs.size,rawInt 0,.none,.none]}) rfl;rw[hz]at q;exact q
 exact⟨⟨_,he,rfl⟩,k _ he ⟨_,AR _ (A2 _ rfl),rfl,rfl⟩ (by rw[By,hz]) λb o y=>AR _ (AR _ y)⟩
end WE
namespace L2
open PySem PySem.Spec PyProof.Rows
section
variable {X:Cx}
def ydu(i j:Int):Prop:=0<j/\j<10000000000000000000000000000000000000000000000000000000000000000000000
def zjC:OpR X (binaryOp .FloorDiv) (rI ydu λi j=>.int (i/j)):=opI λi j _ _ _ _ _ hc q=>by
 let⟨h1,h2⟩:=hc;refine floordiv_int ∅ (by rw[EG i ∅];exact q) (.inl (PyProof.noPylong_of_log2 ?_));have h0:j.natAbs≠0:=by lia
 refine A3 ((Nat.log2_lt h0).mpr (?_:j.natAbs<2^250)) ⋯;have e:(10000000000000000000000000000000000000000000000000000000000000000000000:Nat)<2^250:=by decide
 lia
end
section
variable {X:Cx}{π:List (AI×CF)}{σ:St}{H:Hp}{s:AJ}{h':BF}
theorem Inv.turnLaid{t':Nat}{ch:List AI}{T:AI}{o:HO}(I:Inv X π σ H s)(hf:∀b∈ch,ybp X π H b)(k:∀b u,b∉ch->s.heap.get? b=AA u->h'.get? b=AA u)
  (hp:s.heap.objs.size<=T) (new:yZ X.prog X.w (upd H T o) h' T o):Inv X π σ (upd H T o) {s with heap:=h',toks:=t'}:=by
 have hn:H T=none:=I.hok.fresh hp;have nch:∀b u,H b=AA u->b∉ch:=λb u e z=>by
  have q:=(hf b z).1;rw[e]at q
  cases q
 refine I.step (g':=s.gens) (d':=s.drawn) (ch:=ch) (λb hb=>?_) (λb u _ _ hc e _=>k b u hc e) (λb u _ _ hc e _=>⟨u.slots,k b u hc e⟩) (λb u _ e n=>?_) (λb u hc e=>⟨u,k b u hc e⟩) (λb xs e=>?_) (λb u v e=>?_) (λb ps e=>⟨#[],?_⟩) (λm hm=>?_) (λb u e=>?_) I.bare
 .let⟨f0,f1,f2,f3,f4,f5⟩:=hf b hb;exact⟨f3,f1,f4,f5⟩
 .rw[zj (Ao (A3 (AY e) hp))];exact n
 .rw[zj (zn e hn)];exact e
 .rw[zj (zn e hn)];exact e
 .rw[zj (zn e hn),e];simp
 .let⟨ob,es,ep,ho,r⟩:=hm;exact⟨ob,es,ep,k _ ob (λz=>(hf _ z).2.1 rfl) ho,r⟩
 .by_cases hb:b=T
  .subst hb;rw[zq]at e
   cases e
   exact new
  .rw[zj hb]at e;refine(I.hok b u e).stay (λc v hc q=>k c v ?_ q) (λc q=>by rw[zj (zn q hn)];exact q) λc xs q=>by rw[zj (zn q hn)];exact q
   rcases hc with z|z
   .rw[z];exact nch b u e
   .exact nch c _ z
theorem Inv.turnedL{t':Nat}{ch:List AI}(I:Inv X π σ H s)(hf:∀b∈ch,ybp X π H b)(k:∀b u,b∉ch->s.heap.get? b=AA u->h'.get? b=AA u):Inv X π σ H {s with heap:=h',toks:=t'}:=by
 have nch:∀b u,H b=AA u->b∉ch:=λb u e z=>by
  have q:=(hf b z).1;rw[e]at q
  cases q
 refine I.step (g':=s.gens) (d':=s.drawn) (ch:=ch) (λb hb=>?_) (λb u _ _ hc e _=>k b u hc e) (λb u _ _ hc e _=>⟨u.slots,k b u hc e⟩) (λ_ _ _ _ n=>n) (λb u hc e=>⟨u,k b u hc e⟩) (λ_ _ e=>e) (λ_ _ _ e=>e) (λb ps e=>⟨#[],by rw[e];simp⟩) (λm hm=>?_) (λb u e=>?_) I.bare
 .let⟨f0,f1,f2,f3,f4,f5⟩:=hf b hb;exact⟨f3,f1,f4,f5⟩
 .let⟨ob,es,ep,ho,r⟩:=hm;exact⟨ob,es,ep,k _ ob (λz=>(hf _ z).2.1 rfl) ho,r⟩
 .refine(I.hok b u e).stay (λc v hc q=>k c v ?_ q) (λ_ q=>q) λ_ _ q=>q;rcases hc with z|z
  .rw[z];exact nch b u e
  .exact nch c _ z
end
def Ite(K:AF)(a:AI):It:=
 ⟨λi H=>∃xs x,SqT K H a xs/\xs[i]?=AA x,λi H x H'=>∃T,H T=AD/\x=.ref T/\∀xs y,SqT K H a xs->xs[i]?=AA y->H'=upd H T (.tup [.int i,y]),λi H=>∃xs,SqT K H a xs/\xs.length=i⟩
def zd0{h:BF}{a b:AI}{o u:CF}(x:h.get? a=AA o)(y:h.get? b=AA u)(z:o.cls≠u.cls):a≠b:=λe=>by
 subst e;rw[x]at y
 cases y
 exact z rfl
def zgX{P:A8}{w:An}{K:AF}{es:List AV}{kk:Nat}{pos:CV}(a e it:AI):
  Turn P w K (.Tuple es kk pos) (Ite K a) [e,it] e (λi h=>(∃old,IsEnum h e it i old)/\h.IsTupleIter it a i) where
 mem:=by simp
 obj:=λi h st b hb=>by
  let⟨⟨old,he⟩,oi,gi,ci,di⟩:=st;rcases AT.mp hb with z|z
  .subst z;exact⟨_,he,λv y=>nomatch y⟩
  .have z:b=it:=by simpa using z
   subst z;exact⟨oi,gi,λv y=>by rw[di]at y;cases y⟩
 keep:=λi h h' st k=>by
  let⟨⟨old,he⟩,oi,gi,r⟩:=st;exact⟨⟨old,k e (by simp) _ he⟩,oi,k it (by simp) _ gi,r⟩
 item:=by
  intro X hP hw hK hc i π s σ H E I hf st hg;subst hP hw hK;let⟨xs,x,hq,hx⟩:=hg;let⟨its,rv,p,hz⟩:=I.tuple hq;let⟨⟨old,he⟩,hi⟩:=st;let⟨oi,gi,ci,di⟩:=id hi;let⟨oa,ga,ca,na,da⟩:=id p;have nai:a≠it:=zd0 ga gi (by rw[ca,ci];exact λz=>absurd (Cn z) ⋯);have nei:e≠it:=zd0 he gi (by rw[ci];exact λz=>absurd (Cn z) ⋯);have nea:e≠a:=zd0 he ga (by rw[ca];exact λz=>absurd (Cn z) ⋯);have hl:=rv.length;have hil:i<its.toArray.size:=by
   have:=(BE.mp hx).1;simpa using (by lia:i<its.length)
  have W:=GE (prog:=X.prog) (w:=X.w) (A:=X.A) (WE.draws_tuple (pg:=X.prog) (wd:=X.w) (A:=X.A.in1) (I.ok.hd hc) it a nai its.toArray) e nei (by simp[nei,nea]) (by simp);refine W.item i s _ E hil ⟨⟨old,he⟩,hi,p⟩ λT vals h1 tk hP hsz hT mid kp=>⟨.ref T,rfl,?_⟩;refine W.go es kk pos i T _ _ E mid λh2 st2 kp2=>?_;let⟨t,y,hy,rfl⟩:=hP;let⟨u,hu,ru⟩:=rv.get hx;have ey:y=u:=AZ (hy.symm.trans (by simpa using hu));subst ey;have hch:∀b o,b∉[e,it]->s.heap.get? b=AA o->h2.get? b=AA o:=λb o hb q=>kp2 b o hb (kp b o hb q);have hTw:=W.apart i T h1 mid;have new:yZ X.prog X.w (upd H T (.tup [.int i,x])) h2 T (.tup [.int i,x]):=by
   let⟨o,g,r⟩:=hT;exact⟨by show 2<=sizeLine;decide,[.int i t,y],.cons ⟨t,rfl⟩ (.cons ru .nil),o,kp2 T o hTw g,r⟩
  have I2:=I.turnLaid (t':=tk) hf hch hsz new;refine⟨.ref T,_,I2,rfl,⟨T,I.hok.fresh hsz,rfl,λys z hy' hz'=>?_⟩,⟨st2.1,st2.2.1⟩,λb hb=>?_⟩
  .rw[I.tuple_inj hy' hq]at hz';rw[hx]at hz'
   cases hz'
   rfl
  .rw[zj (λz:b=T=>hTw (z ▸ hb))];exact(hf b hb).1
 done:=by
  intro X hP hw hK hc i π s σ H E I hf st hg;subst hP hw hK;let⟨xs,hq,hx⟩:=hg;let⟨its,rv,p,hz⟩:=I.tuple hq;let⟨⟨old,he⟩,hi⟩:=st;let⟨oi,gi,ci,di⟩:=id hi;let⟨oa,ga,ca,na,da⟩:=id p;have nai:a≠it:=zd0 ga gi (by rw[ca,ci];exact λz=>absurd (Cn z) ⋯);have nei:e≠it:=zd0 he gi (by rw[ci];exact λz=>absurd (Cn z) ⋯);have nea:e≠a:=zd0 he ga (by rw[ca];exact λz=>absurd (Cn z) ⋯);have hl:=rv.length;have W:=GE (prog:=X.prog) (w:=X.w) (A:=X.A) (WE.draws_tuple (pg:=X.prog) (wd:=X.w) (A:=X.A.in1) (I.ok.hd hc) it a nai its.toArray) e nei (by simp[nei,nea]) (by simp);have en:its.toArray.size=i:=by simp;lia
  refine W.done s _ E (by rw[en];exact⟨⟨old,he⟩,hi,p⟩) λh2 tk kp=>⟨rfl,I.turnedL (t':=tk) hf kp⟩
 self:=λ_ _ _ _ _ st q=>by
  let⟨⟨old,he⟩,_⟩:=st;exact GF he q
def ygU(K:AF)(ta:TA):TI:=λσ H R=>ta σ H λvs H1=>∃a,vs=[.ref a]/\(∃xs,SqT K H1 a xs)/\R (Ite K a) H1
def zj3{X:Cx}{a:AV}{es:List AV}{kk:Nat}{tp:CV}{ta:TA}{p pos:CV}(hg:Gl X "enumerate")(hm:X.mg "enumerate"=AD)(ha:PA X [a] ta)(hs:starEach [a] X.env=[(AC,eval a X.env)]:=by rfl):
  PI X (.Tuple es kk tp) (.Call (.Name "enumerate" p) [a] [] pos) (ygU X.K ta):=by
 intro π s σ H R I h;refine B1 (zd4 I hg hm boot_enumerate ?_);refine CH (thn (ha pos π s σ H _ I h) λus s1 kq=>?_) hs rfl;let⟨vs,H1,I1,r1,q1⟩:=kq;let⟨l,rfl,⟨xs,hq⟩,q⟩:=q1;let⟨u,rfl,ru⟩:=Vals.one r1
 cases (show u=Al l from ru)
 let⟨its,rv,pt,hz⟩:=I1.tuple hq;refine WE.call_enumT (show s1.heap.IsTuple l its.toArray from pt) λh1 he hi hsz kp=>?_;refine GF he ?_;refine⟨_,[s1.heap.objs.size+1,s1.heap.objs.size],_,_,H1,rfl,I1.kept (t':=s1.toks) kp,zgX l _ s1.heap.objs.size,⟨⟨_,he⟩,hi⟩,λb hb=>?_,q⟩;have hb2:s1.heap.objs.size<=b:=by
  rcases AT.mp hb with z|z
  .subst z;exact Cm _
  .have z:b=s1.heap.objs.size:=by simpa using z
   subst z;exact AU _
 exact I1.fpOk hb2 (I1.hok.fresh hb2)
abbrev No:AG->AJ->Prop:=λ_ _=>False
abbrev ydw(ifs:List AV)(env:Env):Gw Bool:=forIn ifs AB λc r=>if r=AB then do let ok <-isTrue c env (eval c env);pure (G9 ok)else pure (G9 r)
section
variable {pg:A8}{wd:An}{A:Au}{R:Gi->AJ->Prop}{s:AJ}
def zif{elt tg iter:AV}{ifs:List AV}{sc:Bn}{pos:CV}{it acc:AG}{env:Env}(I:Nat->AJ->Prop)
  (turn:∀n s,I n s->A4 (model pg wd) A (pyNext it) (λr s1=>match r with
   |none=>R (.ok .next) s1
   |some v=>A4 (model pg wd) A (letOwnedTupleGo tg it v) (λ_ s2=>A4 (model pg wd) A (assign tg env v) (λ_ s3=>A4 (model pg wd) A (ydw ifs env) (λok s4=>
     if ok=AB then A4 (model pg wd) A (eval elt env) (λx s5=>A4 (model pg wd) A (call (.builtin "list.append") [acc,x]) (λ_ s6=>∃m,m<n/\I m s6) No s5) No s4
     else ∃m,m<n/\I m s4) No s3) No s2) No s1) No s)
  (n:Nat) (h:I n s):codeAny (model pg wd) A (.compLoop (.ListComp elt [⟨tg,iter,ifs,0⟩] sc pos) 0 it acc env) R s:=by
 refine codeAny_loop rfl I (λn s hI=>?_) n h;show A4 _ A ((compTurn (.ListComp elt [⟨tg,iter,ifs,0⟩] sc pos) 0 it acc env).onRaise (λx=>do noteFrame x env;theTreesLotGoes x)) _ _ s;refine wpAny_noted ?_;rw[compTurn_list];refine AH (Eb (AH (C0 (turn n s hI) (λr s1 h1=>?_) λ_ _ f=>f.elim)))
 cases r with
 |none=>exact AX h1
 |some v=>
  refine AH (C0 h1 (λ_ s2 h2=>AH (C0 h2 (λ_ s3 h3=>AH (C0 h3 (λok s4 h4=>?_) λ_ _ f=>f.elim)) λ_ _ f=>f.elim)) λ_ _ f=>f.elim)
  cases ok with
  |false=>exact AX ⟨rfl,h4⟩
  |true=>exact AH (AH (C0 h4 (λx s5 h5=>AH (C0 h5 (λ_ s6 h6=>AX (AX ⟨rfl,h6⟩)) λ_ _ f=>f.elim)) λ_ _ f=>f.elim))
end
def yao(env:Env)(r:List (AQ×AI))(x:AQ×DL):List (AQ×AI):=if x.2=.free then(x.1,(env.cells.lookup x.1).getD 0)::r else r
def ydE(sc:Bn)(env:Env):List (AQ×AI):=sc.names.foldl (yao env) []
def zgQ{α β:Type}{l:List α}{f:α->β->Gw (ForInStep β)}{g:β->α->β}(h:∀x∈l,∀c,f x c=pure (.yield (g c x))):∀c:β,forIn l c f=pure (l.foldl g c):=by
 induction l with
 |nil=>exact λ_=>rfl
 |cons x l ih=>
  intro c;rw[FF,h x BB,pure_bind,Dn];exact ih (λy hy=>h y (AW _ hy)) (g c x)
def zdi{sc:Bn}{env:Env}(hf:∀y∈sc.names,y.2=.free->∃c,env.cells.lookup y.1=AA c):closureFor sc env=pure (ydE sc env):=by
 erw[closureFor];rw[zgQ (g:=yao env) (λx hx c=>?_)]
 .rfl
 .let⟨n,k⟩:=x
  by_cases hk:k=.free
  .subst hk;let⟨a,ha⟩:=hf _ hx rfl;have ha':env.cells.lookup n=AA a:=ha;simp[yao,cellOf,ha']
  .have hb:(k==Ch)=false:=by simpa using hk
   simp[yao,hk,hb]
def zd9{env:Env}:∀(l:List (AQ×DL)) (r:List (AQ×AI)),(∀y∈l,y.2=.free->∃c,env.cells.lookup y.1=AA c)->(∀x c,r.lookup x=AA c->env.cells.lookup x=AA c) ->
  ∀x c,(l.foldl (yao env) r).lookup x=AA c->env.cells.lookup x=AA c
 |[],r,_,h=>h
 |y::l,r,hf,h=>by
  refine zd9 l (yao env r y) (λz hz=>hf z (AW _ hz)) λx c e=>?_;unfold yao at e
  by_cases hk:y.2=.free
  .let⟨a,ha⟩:=hf y BB hk;rw[if_pos hk,Bg]at e
   cases hx:x==y.1 with
   |true=>
    rw[hx,ha]at e;rw[eq_of_beq hx,ha];exact e
   |false=>
    rw[hx]at e;exact h x c e
  .rw[if_neg hk]at e;exact h x c e
def zdn{env:Env}{x:AQ}:∀(l:List (AQ×DL)) (r:List (AQ×AI)),(∃c,r.lookup x=AA c)->∃c,(l.foldl (yao env) r).lookup x=AA c
 |[],r,h=>h
 |y::l,r,h=>by
  refine zdn l (yao env r y) ?_;unfold yao
  by_cases hk:y.2=.free
  .rw[if_pos hk,Bg]
   cases hx:x==y.1 with
   |true=>exact⟨_,rfl⟩
   |false=>exact h
  .rw[if_neg hk];exact h
def zct{env:Env}:∀(l:List (AQ×DL)) (r:List (AQ×AI)),∀y∈l,y.2=.free->∃c,(l.foldl (yao env) r).lookup y.1=AA c
 |[],_,y,hy,_=>nomatch hy
 |z::l,r,y,hy,hk=>by
  rcases AT.mp hy with e|e
  .subst e;refine zdn l (yao env r y) ?_;unfold yao;rw[if_pos hk,Bg,beq_self_eq_true];exact⟨_,rfl⟩
  .exact zct l (yao env r z) y e hk
theorem mem_of_lookup{β:Type}{x:AQ}{k:β}:∀{l:List (AQ×β)},l.lookup x=AA k->(x,k)∈l
 |[],h=>nomatch h
 |y::l,h=>by
  rw[Bg]at h
  cases hx:x==y.1 with
  |true=>
   rw[hx]at h
   cases h
   rw[eq_of_beq hx];exact BB
  |false=>
   rw[hx]at h;exact AW _ (mem_of_lookup h)
def yc3(env:Env)(x:AQ)(k:DL):NameKind:=if (k==.free&&env.scope.kind==.function&&env.kindOf x==AA .cell)=AB then .cell else k
def zdX{sc:Bn}{env:Env}(x:AQ):(relabel sc env).names.lookup x=(sc.names.lookup x).map (yc3 env x):=by
 unfold relabel;show (sc.names.map λ(n,k)=>if (k==Ch&&env.scope.kind==.function&&env.kindOf n==AA .cell)then(n,Fa)else(n,k)).lookup x=_
 induction sc.names with
 |nil=>rfl
 |cons y l ih=>
  let⟨n,k⟩:=y;rw[AL];show Bw x ((if (k==Ch&&env.scope.kind==.function&&env.kindOf n==AA .cell)=AB then(n,Fa)else(n,k))::_)=_
  cases hx:x==n with
  |true=>
   have e:=eq_of_beq hx;subst e
   by_cases hc:(k==Ch&&env.scope.kind==.function&&env.kindOf x==AA .cell)=AB
   .rw[if_pos hc,Bg,beq_self_eq_true];simp[yc3,hc]
   .rw[if_neg hc,Bg,beq_self_eq_true];simp[yc3,hc]
  |false=>
   by_cases hc:(k==Ch&&env.scope.kind==.function&&env.kindOf n==AA .cell)=AB
   .rw[if_pos hc];erw[Bg,hx];exact ih
   .rw[if_neg hc];erw[Bg,hx];exact ih
structure CI where
 C:AI
 s:AJ
 H:Hp
 fp:List AI
def cxC(X:Cx)(sc:Bn)(NC:List AQ)(j:CI):Cx where
 prog:=X.prog
 w:=X.w
 K:=X.K
 mg:=X.mg
 base:=X.base
 A:=X.A
 N:=NC
 s₀:=j.s
 H₀:=j.H
 env:=compEnvC sc (ydE sc X.env) j.C X.env
 outer:=X.stack
 stack:=X.stack
 ex:=j.fp
 fn:=λ_=>AC
 calm:=X.calm
 pn:=[]
 xe:=No
def inn(slots:List (Option Nat))(σ:St):St:=slots.map λo=>o.bind λj=>(σ[j]?).join
structure yap(X:Cx)(sc:Bn)(NC:List AQ)(slots:List (Option Nat)):Prop where
 kind:sc.kind=.function
 names:∀y∈sc.names,y.2=.local->sc.names.lookup y.1=AA .local
 nocell:∀y∈sc.names,y.2 ≠ .cell
 free:∀y∈sc.names,y.2=.free->X.env.scope.names.lookup y.1=AA .cell
 slot:∀(i:Nat) (x:AQ) (j:Nat),NC[i]?=AA x->slots[i]?=AA (AA j)->X.N[j]?=AA x/\sc.names.lookup x=AA .free
 len:slots.length=NC.length
def zqG{X:Cx}{sc:Bn}{NC:List AQ}{slots:List (Option Nat)}(N:List AQ)(so:Bn)(hN:X.N=N)(hs:X.env.scope=so)(kind:sc.kind=.function)
  (names:∀y∈sc.names,y.2=.local->sc.names.lookup y.1=AA .local) (nocell:∀y∈sc.names,y.2 ≠ .cell) (free:∀y∈sc.names,y.2=.free->so.names.lookup y.1=AA .cell)
  (slot:∀p∈NC.zip slots,(p.2.all λj=>decide (N[j]?=AA p.1/\sc.names.lookup p.1=AA .free))=AB) (len:slots.length=NC.length):yap X sc NC slots:=by
 subst hN hs;refine⟨kind,names,nocell,free,λi x j e1 e2=>?_,len⟩;have hm:(x,AA j)∈NC.zip slots:=A5 (i:=i) (by rw[List.getElem?_zip_eq_some];exact⟨e1,e2⟩);have:=slot _ hm;simpa using this
section
variable {X:Cx}{sc:Bn}{NC:List AQ}{slots:List (Option Nat)}{π:List (AI×CF)}{σ:St}{H:Hp}{s:AJ}
theorem yap.cells(O:yap X sc NC slots)(ok:X.Ok):∀y∈sc.names,y.2=.free->∃c,X.env.cells.lookup y.1=AA c:=λy hy hk=>ok.has y.1 (.inl (O.free y hy hk))
theorem yap.sub(O:yap X sc NC slots)(ok:X.Ok):∀x c,(ydE sc X.env).lookup x=AA c->X.env.cells.lookup x=AA c:=zd9 sc.names [] (O.cells ok) λ_ _ e=>nomatch e
theorem yap.rel(O:yap X sc NC slots)(ok:X.Ok){x:AQ}(h:sc.names.lookup x=AA .free):(relabel sc X.env).names.lookup x=AA .cell:=by
 rw[zdX,h];have e:X.env.kindOf x=AA .cell:=O.free _ (mem_of_lookup h) rfl;simp[yc3,ok.kind,e]
def zhe(I:Inv X π σ H s)(O:yap X sc NC slots){fp:List AI}(hf:∀b∈fp,ybp X π H b)(hob:∀b∈fp,∃o,s.heap.get? b=AA o){h1:BF}{t':Nat}{m:AQ->Option AG}(hns:h1.Ns s.heap.objs.size m)
  (hk:∀b o,s.heap.get? b=AA o->h1.get? b=AA o):Inv (cxC X sc NC ⟨s.heap.objs.size,s,H,fp⟩) [] (inn slots σ) H {s with heap:=h1,toks:=t'}:=by
 have sub:=O.sub I.ok;have fss:∀b,b≠X.env.locals->b∉X.fs->b∉frs X.stack:=λb h1 h2 hb=>(AT.mp (I.stkSub b hb)).elim h1 h2;have ltC:∀x c,(ydE sc X.env).lookup x=AA c->c<s.heap.objs.size:=λx c e=>by
  let⟨v,q⟩:=I.cell x c (sub x c e);exact q.lt
 refine⟨⟨I.ok.mod,O.kind,I.ok.glob,I.ok.blt,AU _,λx y c e1 e2=>I.ok.inj x y c (sub x c e1) (sub y c e2),λx hx=>?_,λ_ _ z=>(nomatch z),I.ok.hd,I.ok.frames,.inl rfl,λb hb=>⟨?_,λx c e=>(hf b hb).2.2.2.2.1 x c (sub x c e)⟩,I.bs,BU I.ok.bsz I.sz,λb o e hb=>?_,λb hb=>fss b (hf b hb).2.1 (hf b hb).2.2.1,I.stack,I.stkFree⟩,
  rfl,I.bare,Un.kept hk,⟨m,hns,λi x v e1 e2 e3=>?_⟩,λx c e=>?_,I.hok.fresh (AU _),λx c e=>I.freeC x c (sub x c e),λp hp=>(nomatch hp),I.hok.kept hk,?_⟩
 .have hx':(relabel sc X.env).names.lookup x=AA .cell \/ (relabel sc X.env).names.lookup x=AA .free:=hx;rw[zdX]at hx'
  cases q:sc.names.lookup x with
  |none=>
   rw[q]at hx';rcases hx' with z|z<;>cases z
  |some k=>
   have hm:=mem_of_lookup q;have hkf:k=.free:=by
    rw[q]at hx';have nc:=O.nocell _ hm
    by_cases hk:k=.free
    .exact hk
    .exfalso;have hb:(k==Ch)=false:=by simpa using hk
     rcases hx' with z|z
     .simp[yc3,hb]at z;exact nc z
     .simp[yc3,hb]at z;exact hk z
   subst hkf;exact zct sc.names [] _ hm rfl
 .let⟨o,e⟩:=hob b hb;exact Ao (AY e)
 .rcases (hf b hb).2.2.2.1 with z|z
  .exact I.ok.noex b o e z
  .exact absurd (A3 (AY e) (BU I.ok.bsz z)) (Cz _)
 .obtain⟨j,e4,e5⟩:∃j,slots[i]?=AA (AA j)/\σ[j]?=AA (AA v):=by
   have e2':(slots.map λo=>o.bind λj=>(σ[j]?).join)[i]?=AA (AA v):=e2;rw[CA]at e2'
   cases q:slots[i]? with
   |none=>
    rw[q]at e2'
    cases e2'
   |some o=>
    rw[q]at e2'
    cases o with
    |none=>cases e2'
    |some j=>
     refine⟨j,rfl,?_⟩;have e6:(σ[j]?).join=AA v:=AZ e2'
     cases q2:σ[j]? with
     |none=>
      rw[q2]at e6
      cases e6
     |some w=>
      rw[q2]at e6;have e7:w=AA v:=e6;rw[e7]
  let⟨e6,e7⟩:=O.slot i x j e1 e4;have kc:X.env.scope.names.lookup x=AA .cell:=O.free _ (mem_of_lookup e7) rfl;let⟨m0,hn0,hl⟩:=I.loc;let⟨u,r,lk⟩:=hl j x v e6 e5 (.inr (.inl kc));refine⟨u,r,.inr ⟨.inl (O.rel I.ok e7),?_⟩⟩;rcases lk with⟨z,_⟩|⟨_,c,hc,o,ho,hd⟩
  .rw[show X.env.kindOf x=AA .cell from kc]at z
   cases z
  .let⟨c',hc'⟩:=zct (env:=X.env) sc.names [] _ (mem_of_lookup e7) rfl;have e8:c'=c:=AZ ((sub x c' hc').symm.trans hc);subst e8;exact⟨c',hc',o,hk _ _ ho,hd⟩
 .let⟨v,o,ho,hd⟩:=I.cell x c (sub x c e);exact⟨v,o,hk _ _ ho,hd⟩
 .show (slots.map λo=>o.bind λj=>(σ[j]?).join).length=NC.length;rw[BH,O.len]
def zg1(I:Inv X π σ H s){fp:List AI}(hf:∀b∈fp,ybp X π H b){C:AI}(hC:s.heap.objs.size<=C){pl:List (AI×CF)}{σ':St}{H':Hp}{s':AJ}(J:Inv (cxC X sc NC ⟨C,s,H,fp⟩) pl σ' H' s')
  {h2:BF} (hb:Cc C s'.heap h2):Inv X π σ H' {s' with heap:=h2}:=by
 have nC:∀b o,s.heap.get? b=AA o->b≠C:=λb o e=>Ao (A3 (AY e) hC);have B:Un (frs X.stack) fp H H' s.heap s'.heap:=J.base;have fC:H' C=none:=J.free;refine I.call' (ch:=fp) J.os ⟨λb o e n h3 h4=>(hb.2 b (nC b o e)).trans (B.keep b o e n h3 h4),λb o e n h3 h4=>?_,B.free,λb o e h4=>?_,B.tups,B.frzs,B.tbls⟩ (λb u e=>?_) J.bare λb h3=>⟨(hf b h3).2.2.2.1,(hf b h3).2.1,(hf b h3).2.2.2.2.1,(hf b h3).2.2.2.2.2⟩
 .let⟨sl,q⟩:=B.slot b o e n h3 h4;exact⟨sl,(hb.2 b (nC b o e)).trans q⟩
 .let⟨o',q⟩:=B.there b o e h4;exact⟨o',(hb.2 b (nC b o e)).trans q⟩
 .refine(J.hok b u e).stay (λc v hc q=>(hb.2 c λz=>?_).trans q) (λ_ q=>q) λ_ _ q=>q;subst z;rcases hc with z|z
  .rw[z,e]at fC
   cases fC
  .rw[z]at fC
   cases fC
end
def PTs(X:Cx)(ifs:List AV)(t:TT):Prop:=
 ∀(π:List (AI×CF)) (s:AJ) (σ:St) (H:Hp) (Q:Bool->Hp->Prop),Inv X π σ H s->t σ H Q->A4 (model X.prog X.w) X.A (ydw ifs X.env) (TP X π σ Q) X.xe s
def yfv:TT:=λ_ H Q=>Q AB H
def zmb{X:Cx}:PTs X [] yfv:=λ_ _ _ H _ I h=>wpAny_tests_nil ⟨H,I,h⟩
def zlo{X:Cx}{c:AV}{t:TT}(h:PT X c t):PTs X [c] t:=λπ s σ H Q I q=>wpAny_tests_one (h π s σ H Q I q)
def ycU(J:It)(D:AI)(g:TG)(ti:TT)(te:TE)(W:Nat->Nat->St->List V->Hp->Prop)(Q:Hp->Prop):Prop:=
 ∀i m σc ys H2,W i m σc ys H2->H2 D=AA (.lst ys)/\((J.stop i H2/\Q H2) \/ (J.go i H2/\ys.length<sizeLine/\∃N:St->List V->Hp->Prop,(∀σ' ys' H',N σ' ys' H'->∃m',m' < m/\W (i+1) m' σ' ys' H') /\
  ∀x H3,J.yld i H2 x H3->g x σc H3 λσ4 H4=>ti σ4 H4 λb H5=>if b=AB then te σ4 H5 λy H6=>H6 D=AA (.lst ys)/\N σ4 (ys++[y]) (upd H6 D (.lst (ys++[y])))else N σ4 ys H5))
def ydx(slots:List (Option Nat))(wi:TI)(g:TG)(ti:TT)(te:TE):TE:=λσ H Q=>wi σ H λJ H1=>∀D,H1 D=AD->∃W:Nat->Nat->St->List V->Hp->Prop,(∃m,W 0 m (inn slots σ) [] (upd H1 D (.lst [])))/\ycU J D g ti te W (Q (.ref D))
section
variable {X:Cx}{sc:Bn}{NC:List AQ}{slots:List (Option Nat)}{elt tg iter:AV}{ifs:List AV}{pos:CV}{g:TG}{ti:TT}{te:TE}
def zjD(hc:X.calm=AB)(hg:∀j,PG (cxC X sc NC j) tg g)(ht:∀j,PTs (cxC X sc NC j) ifs ti)(he:∀j,PE (cxC X sc NC j) elt te){cj:CI}{it D:AI}{tn:Nat->BF->Prop}{J:It}
  {W:Nat->Nat->St->List V->Hp->Prop} {Q:Hp->Prop} {R:Gi->AJ->Prop} {s:AJ} {σc:St} {ys:List V} {H:Hp} (T:Turn X.prog X.w X.K tg J cj.fp it tn)
  (I:Inv (cxC X sc NC cj) [] σc H s) (hf:∀b∈cj.fp,ybp (cxC X sc NC cj) [] H b) (st:tn 0 s.heap) {m:Nat} (w0:W 0 m σc ys H) (step:ycU J D g ti te W Q)
  (fin:∀σ' H' s',Inv (cxC X sc NC cj) [] σ' H' s'->Q H'->R (.ok .next) s'):
  codeAny (model X.prog X.w) X.A (.compLoop (.ListComp elt [⟨tg,iter,ifs,0⟩] sc pos) 0 (.ref it) (.ref D) (cxC X sc NC cj).env) R s:=by
 have stat:∀{H':Hp},(∀b∈cj.fp,H' b=AD)->∀b∈cj.fp,ybp (cxC X sc NC cj) [] H' b:=λhn b hb=>⟨hn b hb,(hf b hb).2⟩;refine zif (λn s'=>∃i σ' ys' H',Inv (cxC X sc NC cj) [] σ' H' s'/\tn i s'.heap/\(∀b∈cj.fp,H' b=AD)/\W i n σ' ys' H') ?_ m ⟨0,σc,ys,H,I,st,λb hb=>(hf b hb).1,w0⟩
 rintro n s3 ⟨i,σ3,ys3,H3,I3,st3,fr3,w3⟩
 let⟨hD,q⟩:=step i n σ3 ys3 H3 w3;rcases q with⟨stop,qn⟩|⟨go,hz,N,hN,turn⟩
 .refine thn (T.done (cxC X sc NC cj) rfl rfl rfl hc i [] s3 σ3 H3 No I3 (stat fr3) st3 stop) λr s4 kq=>?_;let⟨hr,I4⟩:=kq;subst hr;exact fin σ3 H3 s4 I4 qn
 .refine thn (T.item (cxC X sc NC cj) rfl rfl rfl hc i [] s3 σ3 H3 No I3 (stat fr3) st3 go) λr s4 kq=>?_;let⟨u,hr,h4⟩:=kq;subst hr;refine thn h4 λ_ s5 kq=>?_;let⟨x,H5,I5,r5,y5,st5,fr5⟩:=kq;have I5':=I5.pinned (stat fr5) (T.obj _ _ st5);refine thn (hg cj _ s5 σ3 H5 x u _ I5' r5 (turn x H5 y5)) λ_ s6 kq=>?_;let⟨σ6,H6,I6,q6⟩:=kq;refine thn (ht cj _ s6 σ6 H6 _ I6 q6) λok s7 kq=>?_;let⟨H7,I7,q7⟩:=kq;have again:∀{σ8:St} {ys8:List V} {H8:Hp} {s8:AJ},Inv (cxC X sc NC cj) ([]++ybh cj.fp s5.heap) σ8 H8 s8->N σ8 ys8 H8->∃m,m<n/\∃i σ' ys' H',Inv (cxC X sc NC cj) [] σ' H' s8/\tn i s8.heap/\(∀b∈cj.fp,H' b=AD)/\W i m σ' ys' H':=λ{σ8 ys8 H8 s8} I8 n8=>by
   let⟨m',hm,w8⟩:=hN σ8 ys8 H8 n8;refine⟨m',hm,i+1,σ8,ys8,H8,I8.unpinned,T.keep _ _ _ st5 λb hb o e=>(I8.pin (b,o) (BK _ (BK _ (zby hb e)))).1,λb hb=>?_,w8⟩;let⟨o,e,d⟩:=T.obj _ _ st5 b hb;exact(I8.pin (b,o) (BK _ (BK _ (zby hb e)))).2.1
  cases ok with
  |false=>
   rw[if_neg BC]at q7 ⊢;exact again I7 q7
  |true=>
   rw[if_pos rfl]at q7 ⊢;refine thn (he cj _ s7 σ6 H7 _ I7 q7) λy s8 kq=>?_;let⟨v,H8,I8,r8,hD8,q8⟩:=kq;refine thn (zfz (X:=cxC X sc NC cj) _ s8 σ6 H8 (.ref D) [v] (.ref D) [y] (λz H'=>z=.non/\H'=upd H8 D (.lst (ys3++[v]))) I8 rfl (.cons r8 .nil) ⟨D,ys3,v,rfl,rfl,hD8,hz,rfl,rfl⟩) λz s9 kq=>?_;let⟨zv,H9,I9,r9,e1,e2⟩:=kq;subst e2;exact again I9 q8
def zgZ(hc:X.calm=AB)(O:yap X sc NC slots)(hg:∀j,PG (cxC X sc NC j) tg g)(ht:∀j,PTs (cxC X sc NC j) ifs ti)(he:∀j,PE (cxC X sc NC j) elt te){π:List (AI×CF)}{s:AJ}{σ:St}{H:Hp}(I:Inv X π σ H s)
  {it:AI} {fp:List AI} {tn:Nat->BF->Prop} {J:It} (T:Turn X.prog X.w X.K tg J fp it tn) (st:tn 0 s.heap) (hf:∀b∈fp,ybp X π H b) {Q:VK}
  (h:∀D,H D=AD->∃W:Nat->Nat->St->List V->Hp->Prop,(∃m,W 0 m (inn slots σ) [] (upd H D (.lst [])))/\ycU J D g ti te W (Q (.ref D))) {RR:AG->AI->Gi->AJ->Prop}
  (fin:∀D C s' H',Q (.ref D) H'->(∃o m,s'.heap.get? C=AA o/\s'.heap.Ns C m/\∀v,o.data ≠ .cell v)->ybp X π H' C->(∀h2,Cc C s'.heap h2->Inv X π σ H' {s' with heap:=h2})->RR (.ref D) C (.ok .next) s'):
  A4 (model X.prog X.w) X.A (newList []) (λacc s3=>A4 (model X.prog X.w) X.A (newFunctionEnv sc X.env.globals (ydE sc X.env) [] X.env.qual AD .none (AA X.env)) (λcenv s4=>
   codeAny (model X.prog X.w) X.A (.compStart (.ListComp elt [⟨tg,iter,ifs,0⟩] sc pos) 0 (.ref it) acc {cenv with scope:=relabel sc X.env}) (RR acc cenv.locals) s4) X.xe s3) X.xe s:=by
 refine Bp (wpAny_newFunctionEnv O.nocell (by intro y hy;simp at hy) (λh1 hns1 hsb1=>?_) O.kind);dsimp only at hns1 hsb1 ⊢;have hDn:H s.heap.objs.size=none:=I.hok.fresh (AU _);let⟨W,⟨m,w0⟩,step⟩:=h s.heap.objs.size hDn;obtain⟨s3,hs3⟩:∃x:AJ,x=({s with heap:=s.heap.push {cls:=.type "list",dict:=AD,data:=.seq ([]:List AG).toArray} }:AJ):=⟨_,rfl⟩;have e3:s3.heap=s.heap.push {cls:=.type "list",dict:=AD,data:=.seq ([]:List AG).toArray}:=by rw[hs3]
 rw[<-e3]at hns1 hsb1;have hp3:∀b o,s.heap.get? b=AA o->s3.heap.get? b=AA o:=λb o e=>by
  rw[e3];exact AR _ e
 have I3:Inv X π σ (upd H s.heap.objs.size (.lst [])) s3:=by
  have q:=I.laid (a:=s.heap.objs.size) (o:=.lst []) (h':=s3.heap) (t':=s.toks) hp3 (AU _) ⟨DH _,[],_,.nil,by rw[e3];exact A2 _ rfl⟩;rw[hs3]at q ⊢;exact q
 have hf3:∀b∈fp,ybp X π (upd H s.heap.objs.size (.lst [])) b:=λb hb=>by
  let⟨o,e,_⟩:=T.obj _ _ st b hb;refine⟨?_,(hf b hb).2⟩;rw[zj (Ao (AY e))];exact(hf b hb).1
 have st3:tn 0 s3.heap:=T.keep _ _ _ st λb _ o e=>hp3 b o e;have hob:∀b∈fp,∃o,s3.heap.get? b=AA o:=λb hb=>by
  let⟨o,e,_⟩:=T.obj _ _ st3 b hb;exact⟨o,e⟩
 have hk1:∀b o,s3.heap.get? b=AA o->h1.get? b=AA o:=λb o e=>hsb1.extBut b o (Ao (AY e)) (AR _ e);have J1:=zhe (t':=s3.toks+([]:List (AQ×AG)).length) I3 O hf3 hob hns1 hk1;have hfc:∀b∈fp,ybp (cxC X sc NC ⟨s3.heap.objs.size,s3,upd H s.heap.objs.size (.lst []),fp⟩) [] (upd H s.heap.objs.size (.lst [])) b:=λb hb=>
  ⟨(hf3 b hb).1,(J1.ok.exf b hb).1,J1.ok.exfs b hb,.inl hb,(J1.ok.exf b hb).2,λp hp=>nomatch hp⟩
 have loop:codeAny (model X.prog X.w) X.A (.compLoop (.ListComp elt [⟨tg,iter,ifs,0⟩] sc pos) 0 (.ref it) (.ref s.heap.objs.size) (cxC X sc NC ⟨s3.heap.objs.size,s3,upd H s.heap.objs.size (.lst []),fp⟩).env) (RR (.ref s.heap.objs.size) s3.heap.objs.size)
   {s3 with heap:=h1,toks:=s3.toks+([]:List (AQ×AG)).length}:=by
  refine zjD (D:=s.heap.objs.size) (Q:=Q (.ref s.heap.objs.size)) hc hg ht he T J1 hfc (T.keep _ _ _ st3 λb _ o e=>hk1 b o e) w0 step λσ' H' s' J' q'=>?_;have fC:H' s3.heap.objs.size=none:=J'.free;refine fin _ _ s' H' q' ?_ (I3.fpOk (AU _) fC) λh2 hb=>zg1 I3 hf3 (AU _) J' hb;let⟨m',hn',_⟩:=J'.loc;let⟨o,es,ep,ho,hd,r⟩:=id hn';exact⟨o,m',ho,hn',λv z=>by rw[hd]at z;cases z⟩
 have self:=λ(RQ:AG->AJ->Prop) (EE:AG->AJ->Prop)=>T.self X.A 0 {s3 with heap:=h1,toks:=s3.toks+([]:List (AQ×AG)).length} RQ EE (T.keep _ _ _ st3 λb _ o e=>hk1 b o e);subst hs3;exact codeAny_compStart_list loop (self _ _ loop)
variable {wi:TI}
def zmQ(hc:X.calm=AB)(O:yap X sc NC slots)(hi:PI X tg iter wi)(hg:∀j,PG (cxC X sc NC j) tg g)(ht:∀j,PTs (cxC X sc NC j) ifs ti)(he:∀j,PE (cxC X sc NC j) elt te)
  (hs:∀x,foldedSetIterable iter X.env x=pure x:=by intro _;rfl):PE X (.ListComp elt [⟨tg,iter,ifs,0⟩] sc pos) (ydx slots wi g ti te):=by
 intro π s σ H Q I h;rw[eval_ListComp];refine wpAny_comprehension_free (use:=AD) rfl hs (zdi (O.cells I.ok)) O.kind O.names (thn (hi π s σ H _ I h) λv s1 h1=>thn h1 λitv s2 h2=>?_);let⟨it,fp,tn,J,H2,rfl,I2,T,st2,f2,q2⟩:=h2;refine zgZ hc O hg ht he I2 T st2 f2 q2 λD C s' H' q' ⟨o,m,ho,hn,_⟩ _ out=>⟨m,hn,λh2 hb=>⟨.ref D,H',out h2 hb,rfl,q'⟩⟩
end
def zeo:∀{bs:List Bool} {us:List AG},Vals (bs.map V.bl) us->LSm.BoolsAre us bs
 |[],_,.nil=>.nil
 |b::bs,_,.cons r q=>by
  cases (show _=EA b from r)
  exact .cons b (zeo q)
section
variable {X:Cx}
def yfD(K:AF):List V->Hp->VK->Prop:=λxs H Q=>∃(l:AI) (bs:List Bool),xs=[.ref l]/\SqL K H l (bs.map V.bl)/\Q (.bl (bs.all id)) H
def zj1(hc:X.calm=AB):yad X (.builtin "all") (yfD X.K):=by
 intro π s σ H xs us Q I r h;let⟨l,bs,rfl,hq,q⟩:=h;let⟨u,rfl,ru⟩:=Vals.one r
 cases (show u=Al l from ru)
 let⟨its,rv,pl,hz⟩:=I.list hq;have hb:=zeo rv;have hl:=pl.isList;have hlt:l<s.heap.objs.size:=by
  let⟨_,e,_⟩:=hl;exact AY e
 refine call_all_walk (EX hl ?_);refine⟨s.heap.objs.size,[s.heap.objs.size,l],[s.heap.objs.size],its.toArray.size,_,_,λi=>(bs[i]?).getD AB,rfl,Hc (A:=X.A.in1) (I.ok.hd hc) _ l (Ao hlt) its.toArray,⟨⟨_,A2 _ rfl,rfl,rfl⟩,hl.push _⟩,λi v s' Q' E' hP hQ=>?_,λh' tk hk=>?_⟩
 .let⟨b,e,rfl⟩:=hb.get i v (by simpa using hP);erw[e,Bi]at hQ;exact BY hQ
 .have e:((Cb its.toArray.size).all λi=>(bs[i]?).getD AB)=bs.all id:=by
   rw[A1,hb.length];exact LSm.range_all bs
  rw[e];exact⟨.bl _,H,I.kept (t':=tk) (Fb hk),rfl,q⟩
end
section
variable {X:Cx}{π:List (AI×CF)}{σ:St}{H:Hp}{s:AJ}
end
section
variable {X:Cx}{a:AV}{ta:TE}{K:AF}
end
end L2
namespace L2
end L2
namespace L2
open PySem PySem.Spec PyProof.Rows
def CX1(P:A8)(w:An):CXT:=λouter H s E e s'=>∃(a:AI) (cls a0:AG) (H':Hp) (B:BF),e=.ref a/\s'.os=s.os/\D6 s'.gens/\HH B outer a cls a0 s'.heap/\HOk P w H' s'.heap/\Un (frs outer) [] H H' s.heap s'.heap /\
 (∀b o,s.heap.get? b=AA o->H b=AD->b∉frs outer->B.get? b=AA o)/\(∀b u,H' b=AA u->∃o,B.get? b=AA o)/\(∀b o,s.heap.get? b=AA o->b∉frs outer->∃o',B.get? b=AA o')/\E cls AD H'
theorem yZ.there{P:A8}{w:An}{H:Hp}{h:BF}{a:AI}{o:HO}(x:yZ P w H h a o):∃ob,h.get? a=AA ob:=by
 induction o with
 |lst xs=>let⟨_,_,_,_,e⟩:=x;exact⟨_,e⟩
 |tup xs=>let⟨_,_,_,ob,e,_⟩:=x;exact⟨ob,e⟩
 |dK kvs=>let⟨_,_,_,_,ob,_,_,e,_⟩:=x;exact⟨ob,e⟩
 |dT kvs=>let⟨_,_,_,_,ob,_,_,e,_⟩:=x;exact⟨ob,e⟩
 |set S n=>let⟨ob,_,_,_,e,_⟩:=x;exact⟨ob,e⟩
 |ins C dx fs=>let⟨_,_,_,e,_⟩:=x;exact⟨_,e⟩
 |own y=>exact x
 |xd fs=>let⟨_,⟨ob,_,_,e,_⟩,_⟩:=x;exact⟨ob,e⟩
 |rng lo hi=>let⟨_,_,_,e⟩:=x;exact⟨_,e⟩
 |frz ob u ih=>exact⟨ob,x.1⟩
 |tbl ps=>exact⟨_,x⟩
 |met f y=>exact⟨_,x⟩
 |ext φ=>exact x.2.1
theorem HOk.inB{P:A8}{w:An}{H:Hp}{h h' B:BF}(ok:HOk P w H h)(hB:B.StaysIn h)(hB':B.StaysIn h')(tr:∀b u,H b=AA u->∃o,B.get? b=AA o):HOk P w H h':=λa o e=>
 (ok a o e).stay (λb u hb q=>by
  have hb':∃o,B.get? b=AA o:=by
   rcases hb with z|z
   .rw[z];exact tr a o e
   .exact tr b _ z
  let⟨o',q'⟩:=hb';have:=hB b o' q';rw[q]at this
  cases this
  exact hB' b u q') (λ_ q=>q) λ_ _ q=>q
section
variable {P:A8}{w:An}{K:AF}{mg:AQ->Option AG}{base:BF}{N:List AQ}{qual:AQ}{scope:Bn}{f:AI}{cd:AG}{A:Au}{outer:List Env}{s₀:AJ}{H₀:Hp}{E:XK}
 {π:List (AI×CF)} {σ:St} {H:Hp} {s:AJ}
def ziF{h':BF}{e:AI}{cls:AG}{vs:List AG}(I:Inv (yaW (CX1 P w) P w K mg base N qual scope f cd A outer s₀ H₀ E) π σ H s)(hx:Go s.heap h' e cls vs)(hE:E cls AD H):
  (yaW (CX1 P w) P w K mg base N qual scope f cd A outer s₀ H₀ E).xe (.ref e) {s with heap:=h'}:=by
 have stk:s.heap.FunFrames base (envOfC qual scope s₀.heap.objs.size f cd::outer):=I.stack;have hst:∀b,b∈frs (envOfC qual scope s₀.heap.objs.size f cd::outer)->b=s₀.heap.objs.size \/ b∈frs outer:=λb hb=>by
  have hb':b∈s₀.heap.objs.size::frs outer:=hb;exact AT.mp hb'
 have inB:∀b o,s.heap.get? b=AA o->b∉frs (envOfC qual scope s₀.heap.objs.size f cd::outer)->(DD s.heap (frs (envOfC qual scope s₀.heap.objs.size f cd::outer))).get? b=AA o:=λb o q n=>F2 _ q n;have hB:(DD s.heap (frs (envOfC qual scope s₀.heap.objs.size f cd::outer))).StaysIn s.heap:=λb o q=>Fj _ q;have bse:Un (frs outer) [] H₀ H s₀.heap s.heap:=I.base;have lt:∀b o,s₀.heap.get? b=AA o->b≠s₀.heap.objs.size:=λb o q=>Ao (AY q);have tr:∀b u,H b=AA u->∃o,(DD s.heap (frs (envOfC qual scope s₀.heap.objs.size f cd::outer))).get? b=AA o:=λb u q=>by
  let⟨o,ho⟩:=yZ.there (I.hok b u q);exact⟨o,inB b o ho λhb=>by
   have:=I.stkFree b hb;rw[q]at this
   cases this⟩
 refine wpAny_leaves_madeW (base:=DD s.heap (frs (envOfC qual scope s₀.heap.objs.size f cd::outer))) (h:=s.heap) I.ok.frames rfl hB (PySem.W.funFrames_hide stk λenv he a ha=>EF.mpr ⟨env,he,ha⟩) hx λh'' t fl tu tn up=>?_;have up':s.heap.UpToSlots h'':=(HB hx.keeps).trans up;refine⟨e,cls,_,H,_,rfl,I.os,I.bare,fl,HOk.inB I.hok hB fl.1 tr,⟨λb o q n hb _=>?_,λb o q n hb _=>?_,bse.free,λb o q _=>?_,bse.tups,bse.frzs,bse.tbls⟩,λb o q n hb=>?_,tr,λb o q hb=>?_,hE⟩
 .refine fl.1 b o (inB b o (bse.keep b o q n hb (by simp)) λz=>?_);rcases hst b z with z|z
  .exact lt b o q z
  .exact hb z
 .let⟨sl,q1⟩:=bse.slot b o q n hb (by simp);let⟨_,o',ho',hd⟩:=CO stk (show b∈DP (λ(z:Env)=>z.frame) _ from AW _ hb);let⟨sl',q2⟩:=up' b _ q1 (by rw[ho']at q1;cases q1;exact hd);exact⟨sl',q2⟩
 .let⟨o',q1⟩:=bse.there b o q (by simp)
  by_cases hb:b∈frs (envOfC qual scope s₀.heap.objs.size f cd::outer)
  .let⟨_,o2,ho',hd⟩:=CO stk hb;let⟨sl',q2⟩:=up' b _ ho' hd;exact⟨_,q2⟩
  .exact⟨o',fl.1 b o' (inB b o' q1 hb)⟩
 .refine inB b o (bse.keep b o q n hb (by simp)) λz=>?_;rcases hst b z with z|z
  .exact lt b o q z
  .exact hb z
 .let⟨o',q1⟩:=bse.there b o q (by simp);refine⟨o',inB b o' q1 λz=>?_⟩;rcases hst b z with z|z
  .exact lt b o q z
  .exact hb z
def zqH:ybF (CX1 P w) (yaW (CX1 P w) P w K mg base N qual scope f cd A outer s₀ H₀ E) E:=by
 intro π σ H s e s' I h;let⟨a,cls,a0,H',B,rfl,os,bare,fl,hok,un,hB,tr,hT,hE⟩:=h;have bse:Un (frs outer) [] H₀ H s₀.heap s.heap:=I.base;have lt:∀b o,s₀.heap.get? b=AA o->b≠s₀.heap.objs.size:=λb o q=>Ao (AY q);have hst:∀b,b∈frs (envOfC qual scope s₀.heap.objs.size f cd::outer)->b=s₀.heap.objs.size \/ b∈frs outer:=λb hb=>by
  have hb':b∈s₀.heap.objs.size::frs outer:=hb;exact AT.mp hb'
 have un':Un (frs (envOfC qual scope s₀.heap.objs.size f cd::outer)) [] H H' s.heap s'.heap:=un;have kB:∀b o,s₀.heap.get? b=AA o->H₀ b=AD->b∉frs outer->B.get? b=AA o:=λb o q n hb=>hB b o (bse.keep b o q n hb (by simp)) (bse.free b o q n (by simp)) λz=>by
  rcases hst b z with z|z
  .exact lt b o q z
  .exact hb z
 have kT:∀b o,s₀.heap.get? b=AA o->b∉frs outer->∃o',B.get? b=AA o':=λb o q hb=>by
  let⟨o',q1⟩:=bse.there b o q (by simp);refine hT b o' q1 λz=>?_;rcases hst b z with z|z
  .exact lt b o q z
  .exact hb z
 refine wpAny_leaves_onW I.ok.frames rfl fl λh'' fl' up=>?_;refine⟨a,cls,a0,H',B,rfl,os.trans I.os,bare,fl',HOk.inB hok fl.1 fl'.1 tr,⟨λb o q n hb _=>fl'.1 b o (kB b o q n hb),λb o q n hb _=>?_,λb o q n _=>?_,λb o q _=>?_,λb xs q=>un'.tups b xs (bse.tups b xs q),λb o u q=>un'.frzs b o u (bse.frzs b o u q),λb ps q=>?_⟩,kB,tr,kT,hE⟩
 .let⟨sl,q1⟩:=bse.slot b o q n hb (by simp);have n1:=bse.free b o q n (by simp);let⟨sl1,q2⟩:=un'.slot b _ q1 n1 (AW _ hb) (by simp);let⟨_,o',ho',hd⟩:=CO fl.2.2.1 (show b∈DP (λ(z:Env)=>z.frame) _ from AW _ hb);let⟨sl',q3⟩:=up b _ q2 (by rw[ho']at q2;cases q2;exact hd);exact⟨sl',q3⟩
 .let⟨o',q1⟩:=bse.there b o q (by simp);exact un'.free b o' q1 (bse.free b o q n (by simp)) (by simp)
 .let⟨o',q1⟩:=bse.there b o q (by simp);let⟨o2,q2⟩:=un'.there b o' q1 (by simp)
  by_cases hb:b∈frs outer
  .let⟨_,o3,ho3,hd⟩:=CO fl.2.2.1 (show b∈DP (λ(z:Env)=>z.frame) _ from AW _ hb);let⟨sl',q3⟩:=up b _ ho3 hd;exact⟨_,q3⟩
  .let⟨o4,q4⟩:=kT b o q hb;exact⟨o4,fl'.1 b o4 q4⟩
 .let⟨m1,e1⟩:=bse.tbls b ps q;let⟨m2,e2⟩:=un'.tbls b _ e1;exact⟨m1++m2,by rw[e2,EB]⟩
end
section
variable {X:Cx}{e:AV}{es:List AV}{te:TE}
end
section
variable {X:Cx}{e:AV}{es:List AV}{t:TA}{E:XK}
end
section
variable {pg:A8}{wd:An}{A:Au}{E:AG->AJ->Prop}{h:BF}{g:Array GenState}{d:Drawn}{t:Nat}{os:OsState}{a C:AI}{o:CF}{K:AF}
end
def ygH(a C:AI):BF->Prop:=λh=>∃o,h.get? a=AA o/\o.cls=.ref C
section
variable {X:Cx}
end
section
variable {X:Cx}{π:List (AI×CF)}{σ:St}{H:Hp}{s:AJ}
end
section
variable {X:Cx}{π:List (AI×CF)}{σ:St}{H:Hp}{s:AJ}
end
section
variable {X:Cx}{body suite:List Bz}{b₀:Bz}{x n:AQ}{np hpos pos:CV}{tb:XK->TS}{ts:TS}{W:AI}{i:Nat}
end
structure ydj(k:Nat)(A:Au):Prop where
 dp:A.depth+3*k+5<recursionLimit
 un:A.units+16*k+200<cLine
section
variable {P:A8}{w:An}{K:AF}{mg:AQ->Option AG}{base:BF}
end
section
variable {X:Cx}{k:Nat}{f:AI}{fd:BG}{ps:List AQ}{sp:Sp}{x:AQ}{p pos:CV}{e:AV}{es:List AV}{t:TA}
end
section
variable {P:A8}{w:An}{K:AF}{mg:AQ->Option AG}{base:BF}
theorem own1{N:List AQ}{qual:AQ}{scope:Bn}{f:AI}{cd:AG}{A:Au}{outer:List Env}{s:AJ}{H:Hp}{E:XK}{CX:CXT}:
  Ee (model (yaW CX P w K mg base N qual scope f cd A outer s H E).prog (yaW CX P w K mg base N qual scope f cd A outer s H E).w) (yaW CX P w K mg base N qual scope f cd A outer s H E).A (yaW CX P w K mg base N qual scope f cd A outer s H E).env (yaW CX P w K mg base N qual scope f cd A outer s H E).xe:=
 PassesOwn.leaving
end
section
variable {X:Cx}
end
section
variable {X:Cx}
def yg7(K:AF):List V->Hp->VK->Prop:=λxs H Q=>∃(l:AI) (ns:List Int),xs=[.ref l]/\SqL K H l (ns.map V.int)/\0<ns.length/\∀M,M∈ns->(∀a,a∈ns->a<=M)->Q (.int M) H
def zht(hc:X.calm=AB):yad X (.builtin "max") (yg7 X.K):=by
 intro π s σ H xs us Q I r h;let⟨l,ns,rfl,hq,hne,q⟩:=h;let⟨u,rfl,ru⟩:=Vals.one r
 cases (show u=Al l from ru)
 let⟨its,rv,pl,hz⟩:=I.list hq;have hi:F1 its ns:=zg8 rv;let⟨ys,e⟩:=hi.allInts.items;have hns:ns=ys.toList.map (·.1):=by rw[<-hi.numsOf,<-nums_intItems,<-e]
 have hsz:0<ys.size:=by
  rw[hns,BH,CG]at hne;exact hne
 have hl:=pl.isList;rw[e]at hl;refine max_intList (I.ok.hd hc) hl hsz λv h' tk hv hk=>?_;let⟨t,rfl⟩:=intItems_at hv;let⟨h1,h2⟩:=argBest_gt (numAt ys) (ys.size-1);refine⟨.int _,H,I.kept (t':=tk) hk,⟨t,rfl⟩,q _ ?_ λa ha=>?_⟩
 .rw[hns,numAt_eq];exact getD_mem (by rw[BH,CG];lia)
 .rw[hns]at ha;let⟨j,hj,rfl⟩:=mem_getD ha;rw[BH,CG]at hj;rw[<-numAt_eq];exact h2 j ∅
end
section
variable {κ:Type}[DecidableEq κ]
def ybD(kvs:List (κ×V))(k:κ):Option V:=(kvs.find? λkv=>decide (kv.1=k)).map (·.2)
def putK(kvs:List (κ×V))(k:κ)(v:V):List (κ×V):=
 if (kvs.any λkv=>decide (kv.1=k))=AB then kvs.map (λkv=>if kv.1=k then(kv.1,v)else kv)else kvs++[(k,v)]
def zck{p:κ×V}{r:List (κ×V)}{k:κ}(e:p.1=k):ybD (p::r) k=AA p.2:=by simp[ybD,CD,e]
def zci{p:κ×V}{r:List (κ×V)}{k:κ}(e:¬p.1=k):ybD (p::r) k=ybD r k:=by simp[ybD,CD,e]
def zgs(k:κ):∀kvs:List (κ×V),(kvs.any λkv=>decide (kv.1=k))=(ybD kvs k).isSome
 |[]=>rfl
 |p::r=>by
  rw[BP]
  by_cases e:p.1=k
  .simp only[zck e,decide_eq_true e,Ey,Option.isSome_some]
  .rw[zci e,decide_eq_false e,Fc];exact zgs k r
def zdj(kvs:List (κ×V))(k:κ)(v:V):(putK kvs k v).length<=kvs.length+1:=by
 unfold putK;split
 .rw[BH];lia
 .rw[Ah,AS,BD];lia
theorem ybn.isSome_eq{o:Option V}{u:Option AG}(r:ybn o u):o.isSome=u.isSome:=by
 cases o with
 |none=>cases u with
  |none=>rfl
  |some _=>exact(show False from r).elim
 |some _=>cases u with
  |none=>exact(show False from r).elim
  |some _=>rfl
theorem ybn.getD{o:Option V}{u:Option AG}{d:V}{d':AG}(r:ybn o u)(rd:RelV d d'):RelV (o.getD d) (u.getD d'):=by
 cases o with
 |none=>cases u with
  |none=>exact rd
  |some _=>exact(show False from r).elim
 |some _=>cases u with
  |none=>exact(show False from r).elim
  |some _=>exact r
theorem KV.val{kvs:List (κ×V)}{vs:List (κ×AG)}(r:KV kvs vs)(k:κ):ybn (ybD kvs k) (valueAt vs k):=by
 unfold KV at r
 induction r with
 |nil=>exact Cd
 |@cons p q ps qs h t ih=>
  let⟨h1,h2⟩:=h
  by_cases e:p.1=k
  .have e':q.1=k:=h1.symm.trans e;have b:valueAt (q::qs) k=AA q.2:=by simp[valueAt,CD,e']
   rw[zck e,b];exact h2
  .have e':¬q.1=k:=λz=>e (h1.trans z);have b:valueAt (q::qs) k=valueAt qs k:=by simp[valueAt,CD,e']
   rw[zci e,b];exact ih
theorem KV.any{kvs:List (κ×V)}{vs:List (κ×AG)}(r:KV kvs vs)(k:κ):(kvs.any λkv=>decide (kv.1=k))=vs.any λkv=>decide (kv.1=k):=by
 unfold KV at r
 induction r with
 |nil=>rfl
 |cons h t ih=>rw[BP,BP,ih,h.1]
theorem KV.repl{kvs:List (κ×V)}{vs:List (κ×AG)}(r:KV kvs vs)(k:κ){y:V}{u:AG}(ry:RelV y u):
  KV (kvs.map λkv=>if kv.1=k then(kv.1,y)else kv) (vs.map λkv=>if kv.1=k then(kv.1,u)else kv):=by
 unfold KV at r ⊢
 induction r with
 |nil=>exact .nil
 |@cons p q ps qs h t ih=>
  rw[AL,AL];refine .cons ?_ ih;let⟨h1,h2⟩:=h
  by_cases e:p.1=k
  .rw[if_pos e,if_pos (h1.symm.trans e)];exact⟨h1,ry⟩
  .rw[if_neg e,if_neg (λz=>e (h1.trans z))];exact⟨h1,h2⟩
theorem KV.put{kvs:List (κ×V)}{vs:List (κ×AG)}(r:KV kvs vs)(k:κ){y:V}{u:AG}(ry:RelV y u):KV (putK kvs k y) (stored vs k u):=by
 unfold putK stored;rw[r.any k]
 by_cases e:(vs.any λkv=>decide (kv.1=k))=AB
 .rw[if_pos e,if_pos e];exact r.repl k ry
 .rw[if_neg e,if_neg e];exact HU r ⟨rfl,ry⟩
theorem KV.length{kvs:List (κ×V)}{vs:List (κ×AG)}(r:KV kvs vs):kvs.length=vs.length:=Ea r
end
def zl5{P:A8}{w:An}{k:Key}{u:AG}(r:RelV (kV k) u):(yP P w).is k u=true:=by
 cases k with
 |inl i=>let⟨t,e⟩:=(show ∃t,u=Ed i t from r);subst e;exact zfP P w i t
 |inr x=>let⟨t,e⟩:=(show ∃t,u=GM x t from r);subst e;exact zfL P w x t
def zfy{P:A8}{w:An}:∀{ks:List Key} {us:List AG},Vals (ks.map kV) us->ItemsAre (yP P w) ks us
 |[],_,r=>by rw[Ar]at r;cases r;exact .nil
 |k::ks,_,r=>by
  rw[AL]at r
  cases r with
  |cons h t=>exact .cons (zl5 h) (zfy t)
abbrev KT(H:Hp):List (List Key×V)->List (List Key×AI×AG)->Prop:=Ge λp q=>p.1=q.1/\H q.2.1=AA (.tup (p.1.map kV))/\RelV p.2 q.2.2
theorem KT.val{H:Hp}{kvs:List (List Key×V)}{xs:List (List Key×AI×AG)}(r:KT H kvs xs)(k:List Key):ybn (ybD kvs k) ((atKey xs k).map (·.2)):=by
 induction r with
 |nil=>exact Cd
 |@cons p q ps qs h t ih=>
  let⟨h1,_,h2⟩:=h
  by_cases e:p.1=k
  .have e':q.1=k:=h1.symm.trans e;have b:atKey (q::qs) k=AA q.2:=by simp[atKey,CD,e']
   rw[zck e,b];exact h2
  .have e':¬q.1=k:=λz=>e (h1.trans z);have b:atKey (q::qs) k=atKey qs k:=by simp[atKey,CD,e']
   rw[zci e,b];exact ih
theorem KT.repl{H:Hp}{kvs:List (List Key×V)}{xs:List (List Key×AI×AG)}(r:KT H kvs xs)(k:List Key){y:V}{u:AG}(ry:RelV y u):
  KT H (kvs.map λkv=>if kv.1=k then(kv.1,y)else kv) (xs.map (putAt k u)):=by
 induction r with
 |nil=>exact .nil
 |@cons p q ps qs h t ih=>
  rw[AL,AL];refine .cons ?_ ih;let⟨h1,h2,h3⟩:=h;unfold putAt
  by_cases e:p.1=k
  .rw[if_pos e,if_pos (h1.symm.trans e)];exact⟨h1,h2,ry⟩
  .rw[if_neg e,if_neg (λz=>e (h1.trans z))];exact⟨h1,h2,h3⟩
theorem KT.put{H:Hp}{kvs:List (List Key×V)}{xs:List (List Key×AI×AG)}(r:KT H kvs xs)(k:List Key){b:AI}{y:V}{u:AG}(hb:H b=AA (.tup (k.map kV)))(ry:RelV y u):
  KT H (putK kvs k y) (storedH xs k b u):=by
 have e:(kvs.any λkv=>decide (kv.1=k))=(atKey xs k).isSome:=by
  rw[zgs,(r.val k).isSome_eq,Option.isSome_map]
 unfold putK storedH;rw[e]
 by_cases q:(atKey xs k).isSome=AB
 .rw[if_pos q,if_pos q];exact r.repl k ry
 .rw[if_neg q,if_neg q];exact HU r ⟨rfl,hb,ry⟩
theorem KT.keeps{H H':Hp}{kvs:List (List Key×V)}{xs:List (List Key×AI×AG)}(r:KT H kvs xs)(ht:∀b ys,H b=AA (.tup ys)->H' b=AA (.tup ys)):KT H' kvs xs:=
 Paired.mapP r λ_ _ z=>⟨z.1,ht _ _ z.2.1,z.2.2⟩
section
variable {P:A8}{w:An}{H:Hp}{h:BF}{a:AI}
def zo9{u:HO}(ok:HOk P w H h)(e:Rd H a u):yZ P w H h a u:=e.ok ok
def zl7{kvs:List (Key×V)}(ok:HOk P w H h)(e:Rd H a (.dK kvs)):kvs.length<=sizeLine/\(a==sysModules)=AC/\∃vs,KV kvs vs/\h.DictOf (yP P w) a vs:=
 show yZ P w H h a (.dK kvs)from zo9 ok e
def zpC{kvs:List (Key×V)}(ok:HOk P w H h)(e:H a=AA (.dK kvs)):kvs.length<=sizeLine/\(a==sysModules)=AC/\∃vs,KV kvs vs/\h.DictOf (yP P w) a vs:=zl7 ok (.inl e)
def zii{ks:List Key}(ok:HOk P w H h)(e:H a=AA (.tup (ks.map kV))):(tupleKind (yP P w)).is h ks a:=by
 let⟨_,its,r,o,h1,h2,n,h3⟩:=(show yZ P w H h a (.tup (ks.map kV))from ok a _ e);exact⟨o,its.toArray,n,h1,h2,h3,by simpa using zfy r⟩
def zmO{kvs:List (List Key×V)}(ok:HOk P w H h)(e:Rd H a (.dT kvs)):kvs.length<=sizeLine/\(a==sysModules)=AC /\
  ∃xs,KT H kvs xs/\h.DictOfH (tupleKind (yP P w)) a xs:=by
 let⟨z,y,xs,r,o,es,ep,h1,h2,h3,h4,h5⟩:=(show yZ P w H h a (.dT kvs)from zo9 ok e);refine⟨z,y,xs,r,o,es,ep,h1,h2,h3,h4,λx hx=>?_,h5⟩;have all:∀{l:List (List Key×V)} {m:List (List Key×AI×AG)},KT H l m->∀x∈m,(tupleKind (yP P w)).is h x.1 x.2.1:=by
  intro l m q
  induction q with
  |nil=>intro x hx;exact nomatch hx
  |@cons p q ps qs hq t ih=>
   intro x hx;rcases AT.mp hx with e|hx
   .subst e;exact zii ok (by rw[<-hq.1];exact hq.2.1)
   .exact ih x hx
 exact all r x hx
def zpJ{kvs:List (List Key×V)}(ok:HOk P w H h)(e:H a=AA (.dT kvs)):kvs.length<=sizeLine/\(a==sysModules)=AC /\
  ∃xs,KT H kvs xs/\h.DictOfH (tupleKind (yP P w)) a xs:=zmO ok (.inl e)
end
def yfp(H:Hp)(a:AI)(y:V)(r:Option V):Prop:=
 (∃kvs k,Rd H a (.dK kvs)/\y=kV k/\r=ybD kvs k) \/ ∃kvs k b,Rd H a (.dT kvs)/\y=.ref b/\H b=AA (.tup (k.map kV))/\r=ybD kvs k
def yfh(H:Hp)(a:AI)(y v:V)(H':Hp):Prop:=
 (∃kvs k,H a=AA (.dK kvs)/\y=kV k/\kvs.length<sizeLine/\H'=upd H a (.dK (putK kvs k v))) \/
 ∃kvs k b,H a=AA (.dT kvs)/\y=.ref b/\H b=AA (.tup (k.map kV))/\kvs.length<sizeLine/\H'=upd H a (.dT (putK kvs k v))
section
variable {X:Cx}{π:List (AI×CF)}{σ:St}{H:Hp}{s:AJ}{a:AI}{y v:V}{u r:AG}{o:Option V}{A:Au}{E:AG->AJ->Prop}
theorem Inv.big(I:Inv X π σ H s):sysModules<s.heap.objs.size:=by
 have h:mainGlobals<s.heap.objs.size:=(I.mod.glob.keeps I.bk).lt;exact Nat.lt_trans ⋯ h
def zhV{h':BF}{t':Nat}{ob:HO}(I:Inv X π σ H s)(mu:Mut (H a))(hs:Cc a s.heap h')(he:∃q,h'.get? a=AA q)(new:yZ X.prog X.w (upd H a ob) h' a ob):
  Inv X π σ (upd H a ob) {s with heap:=h',toks:=t'}:=
 I.write (x:=a) (e:=a) mu (.inl rfl) (λb q hb z=>(hs.2 b hb).trans z) he new
def zny{P:A8}{w:An}{H':Hp}{h':BF}{kvs:List (Key×V)}{vs:List (Key×AG)}(z:kvs.length<=sizeLine)(hd:(a==sysModules)=AC)(rel:KV kvs vs)(dd:h'.DictOf (yP P w) a vs):
  yZ P w H' h' a (.dK kvs):=⟨z,hd,vs,rel,dd⟩
def zhI{H':Hp}{Q:Unit->AJ->Prop}(hu:A.units+1<cLine)(I:Inv X π σ H s)(g:yfh H a y v H')(ry:RelV y u)(rv:RelV v r)(h:∀s',Inv X π σ H' s'->Q () s'):
  A4 (model X.prog X.w) A (setItem (.ref a) u r) Q E s:=by
 rcases g with⟨kvs,k,e,ey,l,eH⟩|⟨kvs,k,b,e,ey,eb,l,eH⟩
 .subst ey eH;let⟨z,hd,vs,rel,dd⟩:=zpC I.hok e;have hz:vs.length<=sizeLine:=by rw[<-rel.length];exact z
  have hl:(putK kvs k v).length<=sizeLine:=by have:=zdj kvs k v;lia
  refine wpAny_setItem_pairs (hsz:=hz) (zl5 ry) dd λh' dd' hs=>h _ ?_;have he:∃q,h'.get? a=AA q:=let ⟨q,_,_,hq,_⟩:=dd';⟨q,hq⟩
  exact zhV I (by rw[e];exact Cd) hs he (zny hl hd (rel.put k rv) dd')
 .subst ey eH
  cases (show u=Al b from ry)
  let⟨z,hd,xs,rel,dd⟩:=zpJ I.hok e;have hz:xs.length<=sizeLine:=by rw[<-Ea rel];exact z
  have hl:(putK kvs k v).length<=sizeLine:=by have:=zdj kvs k v;lia
  refine wpAny_setItem_heap (hsz:=hz) (Fp hu) (zii I.hok eb) dd λh' dd' hs=>h _ ?_;let⟨q,es,ep,hq,h2,h3,h4,_,h5⟩:=dd';refine zhV I (by rw[e];exact Cd) hs ⟨q,hq⟩ ⟨hl,hd,_,(rel.put k eb rv).keeps λc ys ec=>?_,q,es,ep,hq,h2,h3,h4,h5⟩;rw[zj (zp8 ec e (λz=>nomatch z))];exact ec
end
section
variable {X:Cx}{π:List (AI×CF)}{σ:St}{H:Hp}{s:AJ}{a:AI}{kvs:List (Key×V)}{k:Key}{u:AG}{A:Au}{E:AG->AJ->Prop}
end
def ycW(i:AV):Prop:=∀ov iv,subscripted i AC ov iv=operate [ov,iv] (getItem ov iv)
def zhT{prog:A8}{w:An}{A:Au}{E:AG->AJ->Prop}{s:AJ}{env:Env}{value slice:AV}{pos:CV}{T id:String}{Q:AG->AJ->Prop}
  (hl:typeLookup (.type T) "__getitem__"=pure (AA (.builtin id))) (hs:ycW slice)
  (h:A4 (model prog w) A (eval value env) (λo s₁=>A4 (model prog w) A (eval slice env) (λi s₂=>s₂.TypeIs o T/\A4 (model prog w) A (getItem o i) Q E s₂) E s₁) E s):
  A4 (model prog w) A (eval (.Subscript value slice pos) env) Q E s:=by
 refine Gk (C0 h (λo s₁ h₁=>C0 h₁ (λi s₂ h₂=>?_) λ_ _ x=>x) λ_ _ x=>x);let⟨hT,h₂⟩:=h₂;unfold subscriptTail;refine AH ?_;rw[getitemInPython_of_ne hT.not_modules];refine AH (wpAny_specialOf hT hl ?_);have fin:A4 (model prog w) A (subscripted slice AC o i) (λr s₃=>A4 (model prog w) A (letTemporaryGo value o r >>= λ_=>pure r) Q E s₃) E s₂:=by
  rw[hs o i];exact wpAny_operating (C0 h₂ (λr s₃ h₃=>AH (wpAny_letTemporaryGo (AX h₃))) λ_ _ x=>x)
 first
  |exact AX (AH fin)
  |exact AH (AX (AH fin))
  |exact AH fin
def yeP(td ty tv:TE):TS:=λD σ H=>tv σ H λv H1=>td σ H1 λx H2=>ty σ H2 λy H3=>∃a H4,x=.ref a/\yfh H3 a y v H4/\D.nx σ H4
section
variable {X:Cx}{o i e value:AV}{pos pos' tpos:CV}{td ty tv:TE}
def zlV(hu:X.A.units+1<cLine)(ho:PE X o td)(hi:PE X i ty)(hv:PE X value tv)(hs:swapsWith value (AA (.Subscript o i pos')) pos.line X.env=pure AC):
  PS X (.Assign [.Subscript o i pos'] value pos) (yeP td ty tv):=by
 intro π s σ H D I h;refine wpAny_Assign_Subscript (thn (hv π s σ H _ I h) λr s1 kq=>?_) hs;let⟨v,H1,I1,rv,q1⟩:=kq;refine thn (ho π s1 σ H1 _ I1 q1) λu s2 kq=>?_;let⟨x,H2,I2,rx,q2⟩:=kq;refine thn (hi π s2 σ H2 _ I2 q2) λiv s3 kq=>?_;let⟨y,H3,I3,ry,a,H4,ex,g,q3⟩:=kq;subst ex;obtain rfl:u=Al a:=rx;exact zhI hu I3 g ry rv λs4 I4=>⟨σ,H4,I4,q3⟩
end
def zjP{P:A8}{w:An}{H:Hp}(h:BF)(hb:sysModules<h.objs.size):yZ P w H (h.push {cls:=.type "dict",data:=.dict #[]}) h.objs.size (.dT []):=
 ⟨DH _,beq_eq_false_iff_ne.mpr (BN (Ao hb)),[],.nil,_,#[],0,A2 _ rfl,⟨rfl,rfl,rfl⟩,rfl,rfl,List.nodup_nil⟩
def ydB:TE:=λ_ H Q=>∀p,H p=AD->Q (.ref p) (upd H p (.dT []))
section
variable {X:Cx}{pos:CV}
def zqI:PE X (.Dict [] [] pos) ydB:=λπ s σ H Q I h=>
 wpAny_Dict_empty ⟨.ref s.heap.objs.size,_,I.laid (a:=s.heap.objs.size) (o:=.dT []) (t':=s.toks) (λ_ _ q=>AR _ q) (AU _) (zjP s.heap I.big),rfl,h _ (I.hok.fresh (AU _))⟩
end
structure M2(X:Cx)(o:AV)(m:AQ)(apos:CV)(e f:AV)(cpos:CV):Prop where
 base:attributeBase o m X.env (eval o X.env)=eval o X.env
 few:((backTo cpos (starEach [e,f] X.env)).all (λx=>!x.1)&&(backToKw cpos (keywordEach [] X.env)).all (λx=>x.1.isSome)
  && decide (([e,f]:List AV).length+([]:List C4).length+(if ([]:List C4).isEmpty then 0 else 1)<30))=AB
 line:(apos.endLine==cpos.line)=AB
 trees:backTo cpos (starEach [e,f] X.env)=[(AC,eval e X.env),(AC,eval f X.env)]
def IsD(H:Hp)(a:AI):Prop:=(∃kvs,Rd H a (.dK kvs)) \/ ∃kvs,Rd H a (.dT kvs)
def zo3{X:Cx}{π:List (AI×CF)}{σ:St}{H:Hp}{s:AJ}{a:AI}(I:Inv X π σ H s)(d:IsD H a):
  s.TypeIs (.ref a) "dict"/\(∀b,Al a=.ref b->∃ob,s.heap.get? b=AA ob/\ob.dict=AD)/\(a==sysModules)=false:=by
 rcases d with⟨kvs,e⟩|⟨kvs,e⟩
 .let⟨_,hd,vs,_,dd⟩:=zl7 I.hok e;refine⟨dd.typeIs,λb q=>?_,hd⟩
  cases q
  let⟨ob,_,_,h1,h2,_⟩:=dd;exact⟨ob,h1,h2.2.1⟩
 .let⟨_,hd,xs,_,dd⟩:=zmO I.hok e;refine⟨dd.typeIs,λb q=>?_,hd⟩
  cases q
  let⟨ob,_,_,h1,h2,_⟩:=dd;exact⟨ob,h1,h2.2.1⟩
section
variable {X:Cx}{π:List (AI×CF)}{σ:St}{H:Hp}{s:AJ}{a:AI}{y d:V}{u r:AG}{o:Option V}{A:Au}{E:AG->AJ->Prop}
def znn{Q:AG->AJ->Prop}(hu:A.units+1<cLine)(I:Inv X π σ H s)(g:yfp H a y o)(ry:RelV y u)(rd:RelV d r)(h:∀w' s',Inv X π σ H s'->RelV (o.getD d) w'->Q w' s'):
  A4 (model X.prog X.w) A (call (.builtin "dict.get") [.ref a,u,r]) Q E s:=by
 rcases g with⟨kvs,k,e,ey,l⟩|⟨kvs,k,b,e,ey,eb,l⟩
 .subst ey;let⟨z,hd,vs,rel,dd⟩:=zl7 I.hok e;refine call_meetsIn DW dd.typeIs Ez (Ej _ _ _) (meets_dict_get_default (yP X.prog X.w) a (zl5 ry) hd r) ⟨_,dd.mapOf,h _ _ (I.tok _) ?_⟩;rw[l];exact(rel.val k).getD rd
 .subst ey
  cases (show u=Al b from ry)
  let⟨z,hd,xs,rel,dd⟩:=zmO I.hok e;refine call_meetsIn DW dd.typeIs Ez (Ej _ _ _) (meetsH_dict_get_default (tupleKind (yP X.prog X.w)) a b hd r) ⟨Fp hu,k,xs,zii I.hok eb,dd,h _ _ (I.tok _) ?_⟩;rw[l];exact(rel.val k).getD rd
end
def yc9(td ty tx:TE):TE:=λσ H Q=>td σ H λx H1=>∃a,x=.ref a/\IsD H1 a/\ty σ H1 λy H2=>tx σ H2 λz H3=>∃o,yfp H3 a y o/\Q (o.getD z) H3
section
variable {X:Cx}{o e f:AV}{apos cpos:CV}{td ty tx:TE}
def zkl(hu:X.A.units+1<cLine)(ho:PE X o td)(he:PE X e ty)(hf:PE X f tx)(m:M2 X o "get" apos e f cpos):PE X (.Call (.Attribute o "get" apos) [e,f] [] cpos) (yc9 td ty tx):=by
 intro π s σ H Q I h;refine wpAny_Call_method m.base m.few m.line PySem.F.plainAttrs_dict DW PySem.F.type_dict_get (thn (ho π s σ H _ I h) λu s1 kq=>?_);let⟨x,H1,I1,rx,a,ex,d,q1⟩:=kq;subst ex;obtain rfl:u=Al a:=rx;let⟨t1,t2,_⟩:=zo3 I1 d;refine⟨t1,t2,?_⟩;rw[m.trees];refine Ex rfl (FN (EI (thn (he π s1 σ H1 _ I1 q1) λiv s2 ⟨y,H2,I2,ry,q2⟩=>
  EI (thn (hf π s2 σ H2 _ I2 q2) λfv s3 ⟨z,H3,I3,rz,ov,g,q3⟩=>Fw ?_))))
 exact znn hu I3 g ry rz λw' s4 I4 rw'=>⟨_,H3,I4,rw',q3⟩
end
section
variable {X:Cx}{π:List (AI×CF)}{σ:St}{H:Hp}{s:AJ}{a:AI}{kvs:List (Key×V)}{A:Au}{E:AG->AJ->Prop}
end
section
variable {X:Cx}{π:List (AI×CF)}{σ:St}{H:Hp}{s:AJ}{a:AI}{y:V}{u:AG}{A:Au}{E:AG->AJ->Prop}
end
end L2
namespace IC
open PySem
inductive PV where
 |non|bl (b:Bool)|int (i:Int)|str (x:AQ)|tp (k:Bool) (xs:List PV)|lst (xs:List PV)|loc (n:Nat)|exn (c:Nat)|scr (xs:List PV)
deriving Inhabited
abbrev PV.tup(xs:List PV):PV:=.tp AC xs
mutual
noncomputable def nL:PV->Bool
 |.loc _=>AC
 |.exn _=>AC
 |.tp _ xs=>nLs xs
 |.lst xs=>nLs xs
 |.scr xs=>nLs xs
 |_=>AB
noncomputable def nLs:List PV->Bool
 |[]=>AB
 |x::xs=>nL x&&nLs xs
end
mutual
noncomputable def shd(n:Nat):PV->Bool
 |.non=>AB
 |.bl _=>AB
 |.int _=>AB
 |.str x=>x.cps.all (· < 0x110000)
 |.tp _ xs=>decide (0<n)&&ybq (n-1) xs
 |.lst xs=>decide (0<n)&&ybq (n-1) xs
 |_=>AC
noncomputable def ybq(n:Nat):List PV->Bool
 |[]=>AB
 |x::xs=>shd n x&&ybq n xs
end
abbrev shp(v:PV):Bool:=shd 60 v
def flat:PV->Bool
 |.non=>AB
 |.bl _=>AB
 |.int _=>AB
 |.str _=>AB
 |_=>AC
def bi(b:Bool):Int:=if b then 1 else 0
mutual
noncomputable def peq:PV->PV->Bool
 |.non,.non=>AB
 |.bl a,.bl b=>a==b
 |.bl a,.int j=>bi a==j
 |.int i,.bl b=>i==bi b
 |.int i,.int j=>i==j
 |.str x,.str y=>x==y
 |.tp _ xs,.tp _ ys=>ybg xs ys
 |.lst xs,.lst ys=>ybg xs ys
 |_,_=>AC
noncomputable def ybg:List PV->List PV->Bool
 |[],[]=>AB
 |x::xs,y::ys=>peq x y&&ybg xs ys
 |_,_=>AC
end
inductive Ob where
 |lst (xs:List PV)|dct (t:Bool) (kvs:List (PV×PV))|dead|ins (c:Nat) (fs:List (AQ×PV))
abbrev Env:=List (Option PV)
abbrev SO:=List Ob
inductive R(α:Type) where
 |ok (a:α) (st:SO)|exc (c:Nat) (st:SO)|bad
def R.bind{α β:Type}(r:R α)(k:α->SO->R β):R β:=
 match r with
 |.ok a st=>k a st
 |.exc c st=>.exc c st
 |.bad=>.bad
inductive BOp where
 |add|sub|mul|fdiv|mod|pow|shl|shr|band|bor|bxor
inductive COp where
 |eq|ne|lt|le|gt|ge|is|isnot|isin|notin
inductive Ty where
 |int|bool|str|tuple|list|cls (c:Nat)|val
inductive Blt where
 |len|int|abs|min|max|tuple|list|all|sum|dict|rev|str|any
inductive Mth where
 |append|extend|get|bits|upper|insert|count|index|join|split|sidx|clear
inductive Tg where
 |n (i:Nat)|t (l:List Nat)
set_option genInjectivity false
mutual
inductive Ce where
 |cst (v:PV)
 |var (i:Nat)
 |bin (o:BOp) (a b:Ce)
 |neg (a:Ce)
 |not (a:Ce)
 |and (a b:Ce)
 |or (a b:Ce)
 |cmp (o:COp) (a b:Ce)
 |chain (o p:COp) (a b c:Ce)
 |ite (c a b:Ce)
 |tup (es:Ces)
 |lst (es:Ces)
 |newl (es:Ces)
 |dict0 (t:Bool)
 |idx (a i:Ce)
 |slc (a:Ce) (lo hi:Ce)
 |call (f:Nat) (args:Ces)
 |blt (b:Blt) (args:Ces)
 |mth (m:Mth) (o:Ce) (args:Ces)
 |isi (a:Ce) (t:List Ty)
 |comp (sl:List (Option Nat)) (tg:Tg) (it:Cit) (c:Ce) (e:Ce)
 |frz (a:Ce)
 |nope
 |dix (D:List (AQ×PV)) (a:Ce)
 |din (a:Ce) (D:List (AQ×PV))
 |fld (c:Nat) (a:Ce) (f:AQ)
 |new (c i:Nat) (es:Ces)
 |mcl (c i:Nat) (m:AQ) (o:Ce) (es:Ces)
inductive Ces where
 |nil
 |cons (e:Ce) (es:Ces)
inductive Cit where
 |seq (e:Ce)
 |range1 (a:Ce)
 |range2 (a b:Ce)
 |rangeD (a b:Ce)
 |enum (e:Ce)
 |zip (a b:Ce)
 |revl (e:Ce)
 |revr (a:Ce)
 |chars (e:Ce)
end
set_option genInjectivity true
abbrev Ce.i(n:Int):Ce:=.cst (.int n)
abbrev Ce.s(x:AQ):Ce:=.cst (.str x)
abbrev Ce.v:=Ce.var
abbrev Ces.k:=Ces.cons
abbrev Ces.e:=Ces.nil
mutual
inductive Cs where
 |expr (e:Ce)
 |asg (t:Tg) (e:Ce)
 |six (o i e:Ce)
 |dput (o i e:Ce)
 |aug (i:Nat) (o:BOp) (e:Ce)
 |ret (e:Ce)
 |ite (c:Ce) (a b:Css)
 |for (t:Tg) (it:Cit) (b:Css)
 |while (c:Ce) (b:Css)
 |nope
 |sfl (c:Nat) (o:Ce) (f:AQ) (e:Ce)
 |mkr (i:Nat) (D:List (AQ×Nat)) (n:Ce) (es:Ces)
inductive Css where
 |nil
 |cons (s:Cs) (ss:Css)
end
abbrev Css.k:=Css.cons
abbrev Css.e:=Css.nil
def yaC(i j:Int):Bool:=(decide (i.natAbs<18446744073709551616)) || (decide (j.natAbs<18446744073709551616))
def binI(o:BOp)(i j:Int):Option PV:=
 match o with
 |.add=>AA (.int (i+j))
 |.sub=>AA (.int (i-j))
 |.mul=>if yaC i j then AA (.int (i*j))else AD
 |.fdiv=>if 0<j/\j<10000000000000000000000000000000000000000000000000000000000000000000000 then AA (.int (i/j))else AD
 |.mod=>if 0<j then AA (.int (i%j))else AD
 |.pow=>if 0<=j/\j<=1000000/\i.natAbs<18446744073709551616 then AA (.int (i^j.toNat))else AD
 |.shl=>if 0<=j/\j<=1000000/\i.natAbs<18446744073709551616 then AA (.int (i*2^j.toNat))else AD
 |.shr=>if 0<=j then AA (.int (i/2^j.toNat))else AD
 |.band=>AA (.int (Aw i j))
 |.bor=>AA (.int (Av i j))
 |.bxor=>AA (.int (BS i j))
def sizeMax:Nat:=16777216
def yd1(k:Bool)(a:List PV)(j:Bool)(b:List PV):PV:=if a.isEmpty then .tp j b else if b.isEmpty then .tp k a else .tup (a++b)
def yw(o:BOp)(x y:PV):Option PV:=
 match x,y with
 |.int i,.int j=>binI o i j
 |.int i,.bl b=>match o with
  |.add=>AA (.int (i+bi b))
  |_=>AD
 |.str a,.str b=>match o with
  |.add=>if a.length+b.length<=sizeMax then AA (.str (a++b))else AD
  |_=>AD
 |.tp k a,.tp j b=>match o with
  |.add=>if a.length+b.length<=sizeMax then AA (yd1 k a j b)else AD
  |_=>AD
 |.lst a,.lst b=>match o with
  |.add=>if a.length+b.length<=sizeMax then AA (.lst (a++b))else AD
  |_=>AD
 |_,_=>AD
def ybO(o:BOp)(x y:PV):Option PV:=
 match x,y with
 |.int i,.int j=>binI o i j
 |_,_=>AD
def isNon:PV->Bool
 |.non=>AB
 |_=>AC
def inL(x:PV):List PV->Bool
 |[]=>AC
 |y::ys=>peq y x || inL x ys
def inS(a b:AQ):Bool:=(Cb (b.length+1)).any λi=>decide (i+a.length<=b.length)&&(b.cps.extract i (i+a.length)==a.cps)
def ybH(o:COp)(i j:Int):Option PV:=
 match o with
 |.lt=>AA (.bl (decide (i<j)))
 |.le=>AA (.bl (decide (i<=j)))
 |.gt=>AA (.bl (decide (j<i)))
 |.ge=>AA (.bl (decide (j<=i)))
 |_=>AD
def yeV(o:COp)(a b:AQ):Option PV:=
 match o with
 |.lt=>AA (.bl (decide (a.cps.toList<b.cps.toList)))
 |.le=>AA (.bl (!decide (b.cps.toList<a.cps.toList)))
 |_=>AD
def yG(o:COp)(x y:PV):Option PV:=
 match o with
 |.eq=>if shp x&&shp y then AA (.bl (peq x y))else AD
 |.ne=>if shp x&&shp y then AA (.bl (!peq x y))else AD
 |.is=>match y with
  |.non=>AA (.bl (isNon x))
  |.bl b=>match x with
   |.bl a=>AA (.bl (a==b))
   |_=>AD
  |_=>AD
 |.isnot=>match y with
  |.non=>AA (.bl (!isNon x))
  |.bl b=>match x with
   |.bl a=>AA (.bl (!(a==b)))
   |_=>AD
  |_=>AD
 |.isin=>match x,y with
  |.str a,.str b=>AA (.bl (inS a b))
  |x,.tp _ l=>if flat x&&l.all flat then AA (.bl (inL x l))else AD
  |x,.lst l=>if flat x&&l.all flat then AA (.bl (inL x l))else AD
  |_,_=>AD
 |.notin=>match x,y with
  |.str a,.str b=>AA (.bl (!inS a b))
  |x,.tp _ l=>if flat x&&l.all flat then AA (.bl (!inL x l))else AD
  |x,.lst l=>if flat x&&l.all flat then AA (.bl (!inL x l))else AD
  |_,_=>AD
 |o=>match x,y with
  |.int i,.int j=>ybH o i j
  |.str a,.str b=>yeV o a b
  |_,_=>AD
def yaL(st:SO)(x:PV):Option Bool:=
 match x with
 |.non=>AA AC
 |.bl b=>AA b
 |.int i=>AA (i != 0)
 |.str y=>if y.length<=sizeMax then AA ((y.length:Int) != 0)else AD
 |.tp _ xs=>AA (!xs.isEmpty)
 |.lst xs=>AA (!xs.isEmpty)
 |.loc n=>match st[n]? with
  |some (.lst xs)=>AA (!xs.isEmpty)
  |_=>AD
 |_=>AD
def ixI(n:Nat)(i:Int):Option Nat:=if 0<=i then(if i<n then AA i.toNat else AD)else if -(n:Int)<=i then AA (i+n).toNat else AD
def at?{α:Type}(xs:List α)(i:Int):Option α:=(ixI xs.length i).bind λj=>xs[j]?
def look(k:PV):List (PV×PV)->Option PV
 |[]=>AD
 |(a,b)::r=>if peq a k then AA b else look k r
def put(k v:PV)(kvs:List (PV×PV)):List (PV×PV):=
 if (kvs.any λp=>peq p.1 k)=AB then kvs.map (λp=>if peq p.1 k=AB then(p.1,v)else p)else kvs++[(k,v)]
def ybA:PV->Bool
 |.int _=>AB
 |.str _=>AB
 |_=>AC
def isKey(t:Bool)(k:PV):Bool:=
 match t with
 |false=>ybA k
 |true=>match k with
  |.tp AC xs=>xs.all ybA
  |_=>AC
def yaZ{α:Type}(xs:List α)(i:PV):Option α:=
 match i with
 |.int k=>at? xs k
 |_=>AD
def idxV(st:SO)(x i:PV):Option PV:=
 match x with
 |.tp _ xs=>yaZ xs i
 |.lst xs=>yaZ xs i
 |.str s=>if s.length<=sizeMax then(yaZ s.cps.toList i).map λc=>.str ⟨#[c]⟩else AD
 |.loc n=>match st[n]? with
  |some (.lst xs)=>yaZ xs i
  |_=>AD
 |_=>AD
def ybj(n:Nat)(v:Int):Nat:=if v<0 then(v+(n:Int)).toNat else min v.toNat n
def ycI(n:Nat)(lo:Option Int):Nat:=
 match lo with
 |none=>0
 |some i=>ybj n i
def yc4(n:Nat)(hi:Option Int):Nat:=
 match hi with
 |none=>n
 |some i=>ybj n i
def cut{α:Type}(xs:List α)(lo hi:Option Int):List α:=(xs.drop (ycI xs.length lo)).take (yc4 xs.length hi-ycI xs.length lo)
def yb5:PV->Option (Option Int)
 |.non=>AA AD
 |.int i=>AA (AA i)
 |_=>AD
def ycu(x:PV)(a b:Option Int):Option PV:=
 match x with
 |.tp k xs=>if ycI xs.length a=0/\yc4 xs.length b=xs.length then AA (.tp k xs)else AA (.tup (cut xs a b))
 |.str s=>if s.length<=sizeMax then AA (.str ⟨(cut s.cps.toList a b).toArray⟩)else AD
 |.lst xs=>AA (.lst (cut xs a b))
 |.scr xs=>AA (.lst (cut xs a b))
 |_=>AD
def ycS(x:PV)(a:Option Int)(hi:PV):Option PV:=
 match yb5 hi with
 |some b=>ycu x a b
 |none=>AD
def yby(x:PV)(t:Ty):Bool:=
 match x,t with
 |.int _,.int=>AB
 |.bl _,.int=>AB
 |.bl _,.bool=>AB
 |.str _,.str=>AB
 |.tp _ _,.tuple=>AB
 |.lst _,.list=>AB
 |.exn c,.cls d=>c==d
 |.exn _,.val=>AB
 |_,_=>AC
def ydi:Ty->Bool
 |.cls _=>AC
 |.val=>AC
 |_=>AB
def yaM(x:PV)(ts:List Ty):Option PV:=
 match x with
 |.loc _=>AD
 |.scr _=>AD
 |.exn c=>if ts.all ydi then AD else AA (.bl (ts.any (yby (.exn c))))
 |x=>match ts with
  |[t]=>if ydi t then AA (.bl (yby x t))else AD
  |_=>AD
def allB:List PV->Option Bool
 |[]=>AA AB
 |.bl b::r=>match allB r with
  |some c=>AA (b&&c)
  |none=>AD
 |_::_=>AD
def yfa:List PV->Option Int
 |[]=>AA 0
 |.int i::r=>match yfa r with
  |some c=>AA (i+c)
  |none=>AD
 |_::_=>AD
def ydc:List PV->Option Int
 |[]=>AD
 |[.int i]=>AA i
 |.int i::r=>match ydc r with
  |some c=>AA (if i<c then c else i)
  |none=>AD
 |_::_=>AD
def ybU(st:SO):PV->Option (List PV)
 |.tp _ xs=>AA xs
 |.lst xs=>AA xs
 |.loc n=>match st[n]? with
  |some (.lst xs)=>AA xs
  |_=>AD
 |_=>AD
def yae(st:SO):PV->Option (List PV)
 |.lst xs=>AA xs
 |.loc n=>match st[n]? with
  |some (.lst xs)=>AA xs
  |_=>AD
 |_=>AD
def lenV(st:SO)(x:PV):Option PV:=
 match x with
 |.str s=>if s.length<=sizeMax then AA (.int s.length)else AD
 |x=>(ybU st x).map λxs=>.int xs.length
def yeR(x:PV):Option PV:=
 match x with
 |.int i=>AA (.int i)
 |.bl k=>AA (.int (bi k))
 |_=>AD
def yeh(x:PV):Option PV:=
 match x with
 |.int i=>AA (.int (if i<0 then -i else i))
 |_=>AD
def yd9(x y:PV):Option PV:=
 match x,y with
 |.int i,.int j=>AA (.int (if j<i then j else i))
 |_,_=>AD
def maxV(x y:PV):Option PV:=
 match x,y with
 |.int i,.int j=>AA (.int (if i<j then j else i))
 |_,_=>AD
def yeE(st:SO)(x:PV):Option PV:=
 match x with
 |.tp k xs=>AA (.tp k xs)
 |x=>(yae st x).map .tup
def yex:PV->Option PV
 |.tp _ xs=>if xs.isEmpty then AD else AA (.tup xs.reverse)
 |.lst xs=>AA (.lst xs.reverse)
 |_=>AD
def anyB:List PV->Option Bool
 |[]=>AA AC
 |.bl b::r=>match anyB r with
  |some c=>AA (b || c)
  |none=>AD
 |_=>AD
def anyI:List PV->Option Bool
 |[]=>AA AC
 |.int i::r=>match anyI r with
  |some c=>AA ((i != 0) || c)
  |none=>AD
 |_=>AD
def ygy:PV->Option PV
 |.int i=>if i=0 then AA (.str "0")else if i=1 then AA (.str "1")else AD
 |_=>AD
def yaj(b:Blt)(st:SO)(vs:List PV):Option PV:=
 match vs with
 |[x]=>match b with
  |.len=>lenV st x
  |.int=>yeR x
  |.abs=>yeh x
  |.max=>(yae st x).bind λxs=>(ydc xs).map .int
  |.tuple=>yeE st x
  |.list=>(ybU st x).map .lst
  |.all=>(yae st x).bind λxs=>(allB xs).map .bl
  |.sum=>(yae st x).bind λxs=>(yfa xs).map .int
  |.rev=>yex x
  |.str=>ygy x
  |.any=>match x with
   |.tp _ xs=>(anyI xs).map .bl
   |x=>(yae st x).bind λxs=>(anyB xs).map .bl
  |_=>AD
 |[x,y]=>match b with
  |.min=>yd9 x y
  |.max=>maxV x y
  |_=>AD
 |_=>AD
def ybe(st:SO):PV->Option (Bool×List (PV×PV))
 |.loc n=>match st[n]? with
  |some (.dct t xs)=>AA (t,xs)
  |_=>AD
 |_=>AD
def yaO(m:Mth)(st:SO)(x:PV):Option Bool:=
 match m with
 |.append=>(yae st x).map λ_=>AB
 |.extend=>(yae st x).map λ_=>AB
 |.insert=>(yae st x).map λ_=>AB
 |.count=>(yae st x).map λ_=>AB
 |.index=>(yae st x).map λ_=>AB
 |.get=>(ybe st x).map λ_=>AB
 |.bits=>match x with
  |.int _=>AA AB
  |_=>AD
 |.upper=>match x with
  |.str _=>AA AB
  |_=>AD
 |.join=>match x with
  |.str _=>AA AB
  |_=>AD
 |.split=>match x with
  |.str _=>AA AB
  |_=>AD
 |.sidx=>match x with
  |.str _=>AA AB
  |_=>AD
 |.clear=>match x with
  |.loc n=>(yae st (.loc n)).map λ_=>AB
  |_=>AD
def ydX(st:SO)(o v:PV):R PV:=
 match o with
 |.loc n=>match st[n]? with
  |some (.lst xs)=>if xs.length<1000000 then .ok .non (st.set n (.lst (xs++[v])))else .bad
  |_=>.bad
 |_=>.bad
def yfW(st:SO)(o v:PV):R PV:=
 match o with
 |.loc n=>match st[n]? with
  |some (.lst xs)=>match v with
   |.lst ys=>if xs.length+ys.length<=1000000 then .ok .non (st.set n (.lst (xs++ys)))else .bad
   |_=>.bad
  |_=>.bad
 |_=>.bad
def yfK(st:SO)(o i v:PV):R PV:=
 match o with
 |.loc n=>match st[n]? with
  |some (.lst xs)=>match i with
   |.int k=>if 0<=k/\k<=xs.length/\xs.length<1000000 then .ok .non (st.set n (.lst (xs.take k.toNat++v::xs.drop k.toNat)))else .bad
   |_=>.bad
  |_=>.bad
 |_=>.bad
def ydP(st:SO)(o k d:PV):R PV:=
 match ybe st o with
 |some (t,kvs)=>if isKey t k then .ok ((look k kvs).getD d) st else .bad
 |none=>.bad
def ygf(st:SO)(o v:PV):R PV:=
 match yae st o with
 |some xs=>if flat v&&xs.all flat then .ok (.int (xs.countP λy=>peq y v)) st else .bad
 |none=>.bad
def ydH(v:PV):List PV->Option Nat
 |[]=>AD
 |y::ys=>if peq y v then AA 0 else(ydH v ys).map (·+1)
def ygC(st:SO)(o v:PV):R PV:=
 match yae st o with
 |some xs=>if flat v&&xs.all flat then(match ydH v xs with
  |some j=>.ok (.int j) st
  |none=>.bad)else .bad
 |none=>.bad
def upC(c:Nat):Nat:=if 97<=c/\c<=122 then c-32 else c
def upS(s:AQ):Str:=⟨(s.cps.toList.map upC).toArray⟩
def ybX(c:Nat):List Nat->List (List Nat)
 |[]=>[[]]
 |x::xs=>if x=c then []::ybX c xs else match ybX c xs with
  |[]=>[[x]]
  |p::ps=>(x::p)::ps
def strsOf:List PV->Option (List AQ)
 |[]=>AA []
 |.str s::r=>(strsOf r).map (s :: ·)
 |_=>AD
def yeg(st:SO)(o v:PV):R PV:=
 match o,yae st v with
 |.str s,AA xs=>match strsOf xs with
  |some ys=>if s.length<=10/\xs.length<=1000/\(ys.all λy=>decide (y.length<=1000))=AB then .ok (.str (Str.join s ys)) st else .bad
  |none=>.bad
 |_,_=>.bad
def yg3(st:SO)(o:PV):R PV:=
 match o with
 |.loc n=>match st[n]? with
  |some (.lst _)=>.ok .non (st.set n (.lst []))
  |_=>.bad
 |_=>.bad
def yd3(st:SO)(o v:PV):R PV:=
 match o,v with
 |.str s,.str y=>if s=AE "01" then(if y=AE "0" then .ok (.int 0) st else if y=AE "1" then .ok (.int 1) st else .bad)else .bad
 |_,_=>.bad
def yde(st:SO)(o v:PV):R PV:=
 match o,v with
 |.str s,.str y=>match y.cps.toList with
  |[c]=>if s.length<=100000 then .ok (.lst ((ybX c s.cps.toList).map λl=>.str ⟨l.toArray⟩)) st else .bad
  |_=>.bad
 |_,_=>.bad
def ych(m:Mth)(st:SO)(o:PV)(vs:List PV):R PV:=
 match m,vs with
 |.append,[v]=>ydX st o v
 |.extend,[v]=>yfW st o v
 |.insert,[i,v]=>yfK st o i v
 |.get,[k,d]=>ydP st o k d
 |.count,[v]=>ygf st o v
 |.index,[v]=>ygC st o v
 |.join,[v]=>yeg st o v
 |.split,[v]=>yde st o v
 |.sidx,[v]=>yd3 st o v
 |.clear,[]=>yg3 st o
 |.bits,[]=>match o with
  |.int i=>.ok (.int (Builtin.Int.intBits i)) st
  |_=>.bad
 |.upper,[]=>match o with
  |.str s=>if s.cps.toList.all (· < 128)/\s.length<=1000000 then .ok (.str (upS s)) st else .bad
  |_=>.bad
 |_,_=>.bad
def toR(o:Option PV)(st:SO):R PV:=
 match o with
 |some v=>.ok v st
 |none=>.bad
def yJ(t:Tg)(v:PV)(ρ:Env):Option Env:=
 match t,v with
 |.n i,v=>AA (ρ.set i (AA v))
 |.t l,.tp _ xs=>if l.length=xs.length then AA ((l.zip xs).foldl (λρ p=>ρ.set p.1 (AA p.2)) ρ)else AD
 |_,_=>AD
def yab:Nat->List PV->List PV
 |_,[]=>[]
 |k,x::xs=>.tup [.int k,x]::yab (k+1) xs
def yaQ:List PV->List PV->List PV
 |x::xs,y::ys=>.tup [x,y]::yaQ xs ys
 |_,_=>[]
def yfx:PV->Option (List PV)
 |.tp _ xs=>AA xs.reverse
 |.lst xs=>AA xs.reverse
 |_=>AD
def ydg:PV->Option (List PV)
 |.str s=>if s.length<=1000000 then AA (s.cps.toList.map λc=>.str ⟨#[c]⟩)else AD
 |_=>AD
def ydV(x y:PV):Option (List PV):=
 match x,y with
 |.tp _ xs,.tp _ ys=>if xs.length<=ys.length then AA (yaQ xs ys)else AD
 |_,_=>AD
def yaU(s:AQ):List (AQ×PV)->Option PV
 |[]=>AD
 |(a,b)::r=>if decide (a=s)then AA b else yaU s r
def ycx(D:List (AQ×PV))(x:PV):Option PV:=
 match x with
 |.str s=>yaU s D
 |_=>AD
def yco(D:List (AQ×PV))(x:PV):Option PV:=
 match x with
 |.str s=>AA (.bl (yaU s D).isSome)
 |_=>AD
def yt:Nat->Int->Int->List PV
 |0,_,_=>[]
 |n+1,a,d=>.int a::yt n (a+d) d
def ybQ(x:PV):Option (List PV):=
 match x with
 |.int j=>if j.natAbs<1000000000 then AA (yt j.toNat 0 1)else AD
 |_=>AD
def yf7(x:PV):Option (List PV):=
 match x with
 |.int j=>if 0<=j/\j<1000000000 then AA (yt j.toNat (j-1) (-1))else AD
 |_=>AD
def ygQ(x y:PV):Option (List PV):=
 match x,y with
 |.int i,.int j=>if i.natAbs<1000000000/\j.natAbs<1000000000 then AA (yt (j-i).toNat i 1)else AD
 |_,_=>AD
def ygu(x y:PV):Option (List PV):=
 match x,y with
 |.int i,.int j=>if i.natAbs<1000000000/\j.natAbs<1000000000 then AA (yt (i-j).toNat i (-1))else AD
 |_,_=>AD
def toL(o:Option (List PV))(st:SO):R (List PV):=
 match o with
 |some v=>.ok v st
 |none=>.bad
def ydh(v:PV)(st:SO):R PV:=
 match v with
 |.loc n=>match st[n]? with
  |some (.lst xs)=>.ok (.lst xs) (st.set n .dead)
  |_=>.bad
 |v=>.ok v st
def mkV(D:List (AQ×Nat))(b:Bool)(x:PV):Option Nat:=
 match x with
 |.str s=>if b then D.lookup s else AD
 |_=>AD
def ya5(c:Nat)(st:SO)(x:PV)(f:AQ):Option PV:=
 match x with
 |.loc n=>match st[n]? with
  |some (.ins d fs)=>if d=c then fs.lookup f else AD
  |_=>AD
 |_=>AD
def ybI(f:AQ)(v:PV):List (AQ×PV)->List (AQ×PV)
 |[]=>[(f,v)]
 |(g,x)::r=>if g=f then(g,v)::r else(g,x)::ybI f v r
def ya4(c:Nat)(st:SO)(x:PV)(f:AQ)(v:PV):Option SO:=
 match x with
 |.loc n=>match st[n]? with
  |some (.ins d fs)=>if d=c/\fs.length<1000 then AA (st.set n (.ins c (ybI f v fs)))else AD
  |_=>AD
 |_=>AD
def ybV(c:Nat)(m:AQ)(st:SO)(x:PV):Option Bool:=
 match x with
 |.loc n=>match st[n]? with
  |some (.ins d fs)=>if d=c/\fs.lookup m=AD then AA AB else AD
  |_=>AD
 |_=>AD
def newV(n:Nat)(v:PV)(st:SO):R PV:=
 match v with
 |.non=>.ok (.loc n) st
 |_=>.bad
def ybv(r:R PV):R PV:=
 match r with
 |.ok v st=>.ok v st
 |_=>.bad
inductive Fl where
 |nx (ρ:Env) (st:SO)|rt (v:PV) (st:SO)|bk (ρ:Env) (st:SO)|ct (ρ:Env) (st:SO)|exc (c:Nat) (ρ:Env) (st:SO)|bad
def onBl{α:Type}(x:PV)(k:Bool->R α):R α:=
 match x with
 |.bl b=>k b
 |_=>.bad
def onO{α:Type}(o:Option Bool)(k:Bool->R α):R α:=
 match o with
 |some b=>k b
 |none=>.bad
def onF(o:Option Bool)(k:Bool->Fl):Fl:=
 match o with
 |some b=>k b
 |none=>.bad
def onP{α:Type}(o:Option (Option Int))(k:Option Int->R α):R α:=
 match o with
 |some b=>k b
 |none=>.bad
def blO(o:Option PV):Option Bool:=
 match o with
 |some (.bl b)=>AA b
 |_=>AD
def yb3(o:Option PV)(ys:List PV):List PV:=
 match o with
 |some y=>y::ys
 |none=>ys
def yaP(one:PV->SO->R (Option PV)):List PV->SO->R (List PV)
 |[],st=>.ok [] st
 |x::xs,st=>(one x st).bind λo st1=>(yaP one xs st1).bind λys st2=>.ok (yb3 o ys) st2
def ycf(r:R (List PV)):R PV:=
 match r with
 |.ok ys st=>if ys.length<=1000000 then .ok (.lst ys) st else .bad
 |_=>.bad
mutual
noncomputable def ev(call:Nat->List PV->SO->R PV)(ρ:Env)(st:SO):Ce->R PV
 |.cst v=>.ok v st
 |.var i=>match ρ[i]? with
  |some (AA v)=>.ok v st
  |_=>.bad
 |.bin o a b=>(ev call ρ st a).bind λx st1=>(ev call ρ st1 b).bind λy st2=>toR (yw o x y) st2
 |.neg a=>(ev call ρ st a).bind λx st1=>match x with
  |.int i=>.ok (.int (-i)) st1
  |_=>.bad
 |.not a=>(ev call ρ st a).bind λx st1=>onBl x λk=>.ok (.bl (!k)) st1
 |.and a b=>(ev call ρ st a).bind λx st1=>onBl x λk=>cond k (ev call ρ st1 b) (.ok (.bl AC) st1)
 |.or a b=>(ev call ρ st a).bind λx st1=>onBl x λk=>cond k (.ok (.bl AB) st1) (ev call ρ st1 b)
 |.cmp o a b=>(ev call ρ st a).bind λx st1=>(ev call ρ st1 b).bind λy st2=>toR (yG o x y) st2
 |.chain o p a b c=>(ev call ρ st a).bind λx st1=>(ev call ρ st1 b).bind λy st2=>onO (blO (yG o x y)) λk=>cond k ((ev call ρ st2 c).bind λz st3=>toR (yG p y z) st3) (.ok (.bl AC) st2)
 |.ite c a b=>(ev call ρ st c).bind λx st1=>onO (yaL st1 x) λk=>cond k (ev call ρ st1 a) (ev call ρ st1 b)
 |.tup es=>(evs call ρ st es).bind λvs st1=>if vs.length<=sizeMax then .ok (.tup vs) st1 else .bad
 |.lst es=>(evs call ρ st es).bind λvs st1=>if vs.length<=sizeMax then .ok (.lst vs) st1 else .bad
 |.newl es=>(evs call ρ st es).bind λvs st1=>if vs.length<=sizeMax then .ok (.loc st1.length) (st1++[.lst vs])else .bad
 |.dict0 t=>.ok (.loc st.length) (st++[.dct t []])
 |.idx a i=>(ev call ρ st a).bind λx st1=>(ev call ρ st1 i).bind λy st2=>toR (idxV st2 x y) st2
 |.slc a l h=>(ev call ρ st a).bind λx st1=>(ev call ρ st1 l).bind λy st2=>onP (yb5 y) λo=>(ev call ρ st2 h).bind λz st3=>toR (ycS x o z) st3
 |.call f es=>(evs call ρ st es).bind λvs st1=>call f vs st1
 |.blt b es=>(evs call ρ st es).bind λvs st1=>toR (yaj b st1 vs) st1
 |.mth m o es=>(ev call ρ st o).bind λx st1=>onO (yaO m st1 x) λ_=>(evs call ρ st1 es).bind λvs st2=>ych m st2 x vs
 |.isi a ts=>(ev call ρ st a).bind λx st1=>toR (yaM x ts) st1
 |.comp sl tg it c e=>(evi call ρ st it).bind λxs st1=>
  let ρ0:Env:=sl.map λo=>o.bind λj=>(ρ[j]?).join
  ycf (yaP (λx st2=>match yJ tg x ρ0 with
   |none=>.bad
   |some ρ1=>(ev call ρ1 st2 c).bind λb st3=>onO (yaL st3 b) λk=>cond k ((ev call ρ1 st3 e).bind λy st4=>.ok (AA y) st4) (.ok AD st3)) xs st1)
 |.nope=>.bad
 |.frz a=>(ev call ρ st a).bind λx st1=>ydh x st1
 |.dix D a=>(ev call ρ st a).bind λx st1=>toR (ycx D x) st1
 |.din a D=>(ev call ρ st a).bind λx st1=>toR (yco D x) st1
 |.fld c a f=>(ev call ρ st a).bind λx st1=>toR (ya5 c st1 x f) st1
 |.new c i es=>(evs call ρ st es).bind λvs st1=>(ybv (call i (.loc st1.length::vs) (st1++[.ins c []]))).bind λv st2=>newV st1.length v st2
 |.mcl c i m o es=>(ev call ρ st o).bind λx st1=>onO (ybV c m st1 x) λ_=>(evs call ρ st1 es).bind λvs st2=>call i (x::vs) st2
noncomputable def evs(call:Nat->List PV->SO->R PV)(ρ:Env)(st:SO):Ces->R (List PV)
 |.nil=>.ok [] st
 |.cons e es=>(ev call ρ st e).bind λv st1=>(evs call ρ st1 es).bind λvs st2=>.ok (v::vs) st2
noncomputable def evi(call:Nat->List PV->SO->R PV)(ρ:Env)(st:SO):Cit->R (List PV)
 |.seq e=>(ev call ρ st e).bind λv st1=>match v with
  |.tp _ xs=>.ok xs st1
  |.lst xs=>.ok xs st1
  |_=>.bad
 |.range1 a=>(ev call ρ st a).bind λx st1=>toL (ybQ x) st1
 |.range2 a b=>(ev call ρ st a).bind λx st1=>(ev call ρ st1 b).bind λy st2=>toL (ygQ x y) st2
 |.rangeD a b=>(ev call ρ st a).bind λx st1=>(ev call ρ st1 b).bind λy st2=>toL (ygu x y) st2
 |.enum e=>(ev call ρ st e).bind λv st1=>match v with
  |.tp _ xs=>.ok (yab 0 xs) st1
  |_=>.bad
 |.zip a b=>(ev call ρ st a).bind λx st1=>(ev call ρ st1 b).bind λy st2=>toL (ydV x y) st2
 |.revl e=>(ev call ρ st e).bind λv st1=>toL (yfx v) st1
 |.revr a=>(ev call ρ st a).bind λx st1=>toL (yf7 x) st1
 |.chars e=>(ev call ρ st e).bind λv st1=>toL (ydg v) st1
end
def R.fl{α:Type}(r:R α)(ρ:Env)(k:α->SO->Fl):Fl:=
 match r with
 |.ok a st=>k a st
 |.exc c st=>.exc c ρ st
 |.bad=>.bad
def yax(f:Fl)(k:Env->SO->Fl):Fl:=
 match f with
 |.nx ρ st=>k ρ st
 |.ct ρ st=>k ρ st
 |.bk ρ st=>.nx ρ st
 |f=>f
def forL(t:Tg)(body:Env->SO->Fl):List PV->Env->SO->Fl
 |[],ρ,st=>.nx ρ st
 |x::xs,ρ,st=>match yJ t x ρ with
  |none=>.bad
  |some ρ1=>yax (body ρ1 st) λρ2 st2=>forL t body xs ρ2 st2
def yas(test:Env->SO->R PV)(body:Env->SO->Fl):Nat->Env->SO->Fl
 |0,_,_=>.bad
 |n+1,ρ,st=>(test ρ st).fl ρ λx st1=>onF (yaL st1 x) λk=>cond k (yax (body ρ st1) λρ2 st2=>yas test body n ρ2 st2) (.nx ρ st1)
def ybs(st:SO)(o i v:PV):Option SO:=
 match o with
 |.loc n=>match st[n]? with
  |some (.lst xs)=>match i with
   |.int k=>match ixI xs.length k with
    |some j=>AA (st.set n (.lst (xs.set j v)))
    |none=>AD
   |_=>AD
  |_=>AD
 |_=>AD
def ybd(st:SO)(o i v:PV):Option SO:=
 match o with
 |.loc n=>match st[n]? with
  |some (.dct t kvs)=>if isKey t i/\kvs.length<1000000 then AA (st.set n (.dct t (put i v kvs)))else AD
  |_=>AD
 |_=>AD
mutual
noncomputable def ex(call:Nat->List PV->SO->R PV)(ρ:Env)(st:SO):Cs->Fl
 |.expr e=>(ev call ρ st e).fl ρ λ_ st1=>.nx ρ st1
 |.asg t e=>(ev call ρ st e).fl ρ λv st1=>match yJ t v ρ with
  |some ρ1=>.nx ρ1 st1
  |none=>.bad
 |.six o i e=>(ev call ρ st e).fl ρ λv st1=>(ev call ρ st1 o).fl ρ λx st2=>(ev call ρ st2 i).fl ρ λy st3=>match ybs st3 x y v with
  |some st4=>.nx ρ st4
  |none=>.bad
 |.dput o i e=>(ev call ρ st e).fl ρ λv st1=>(ev call ρ st1 o).fl ρ λx st2=>(ev call ρ st2 i).fl ρ λy st3=>match ybd st3 x y v with
  |some st4=>.nx ρ st4
  |none=>.bad
 |.aug i o e=>match ρ[i]? with
  |some (AA x)=>(ev call ρ st e).fl ρ λy st1=>match ybO o x y with
   |some z=>.nx (ρ.set i (AA z)) st1
   |none=>.bad
  |_=>.bad
 |.ret e=>(ev call ρ st e).fl ρ λv st1=>.rt v st1
 |.ite c a b=>(ev call ρ st c).fl ρ λx st1=>onF (yaL st1 x) λk=>cond k (exs call ρ st1 a) (exs call ρ st1 b)
 |.for t it b=>(evi call ρ st it).fl ρ λxs st1=>forL t (λρ2 st2=>exs call ρ2 st2 b) xs ρ st1
 |.while c b=>yas (λρ2 st2=>ev call ρ2 st2 c) (λρ2 st2=>exs call ρ2 st2 b) 100000 ρ st
 |.nope=>.bad
 |.mkr i D n es=>(ev call ρ st n).fl ρ λx st1=>match mkV D (decide (i<ρ.length)) x with
  |some j=>((evs call (ρ.set i AD) st1 es).bind λvs st2=>call j vs st2).fl (ρ.set i AD) λv st3=>.rt v st3
  |none=>.bad
 |.sfl c o f e=>(ev call ρ st e).fl ρ λv st1=>(ev call ρ st1 o).fl ρ λx st2=>match ya4 c st2 x f v with
  |some st3=>.nx ρ st3
  |none=>.bad
noncomputable def exs(call:Nat->List PV->SO->R PV)(ρ:Env)(st:SO):Css->Fl
 |.nil=>.nx ρ st
 |.cons s ss=>match ex call ρ st s with
  |.nx ρ1 st1=>exs call ρ1 st1 ss
  |f=>f
end
structure Fn where
 np:Nat
 ns:Nat
 pure:Bool
 body:Css
def yd(T:Nat->Option Fn):Nat->Nat->List PV->SO->R PV
 |0,_,_,_=>.bad
 |k+1,f,args,st=>match T f with
  |none=>.bad
  |some fn=>if args.length=fn.np then
    if fn.pure then
     if nLs args then match exs (yd T k) (args.map AA++Aj (fn.ns-fn.np) AD) [] fn.body with
      |.rt v _=>if nL v then .ok v st else .bad
      |.nx _ _=>.ok .non st
      |.exc c _ _=>.exc c st
      |_=>.bad
     else .bad
    else match exs (yd T k) (args.map AA++Aj (fn.ns-fn.np) AD) st fn.body with
     |.rt v st1=>.ok v st1
     |.nx _ st1=>.ok .non st1
     |.exc c _ st1=>.exc c st1
     |_=>.bad
   else .bad
def yC:List (Sum Ce Int)->Ces
 |[]=>.nil
 |.inl c::r=>.cons c (yC r)
 |.inr i::r=>.cons (.cst (.int i)) (yC r)
def yam:Ces->Ces->Ces
 |.nil,b=>b
 |.cons e r,b=>.cons e (yam r b)
end IC
namespace L2
open PySem PySem.Spec PyProof.Rows IC
abbrev Ph:=List (Option AI)
section
variable (K:AF)(cl:Nat->AI)(B:AI->Prop)(φ:Ph)(H:Hp)
def ybN(k:Bool)(a:AI)(xs:List V):Prop:=(H a=AA (.tup xs)/\¬B a/\AA a∉φ) \/
 k=AB/\∃(o:CF) (its:Array AG) (n:Nat),K.lookup a=AA o/\o.cls=.type "tuple"/\o.data=.seq its n/\its.size<=sizeLine/\Vals xs its.toList
def ycQ(a:AI)(xs:List V):Prop:=H a=AA (.lst xs)/\¬B a/\AA a∉φ
def ydU(a:AI)(xs:List V):Prop:=(Rd H a (.lst xs)/\¬B a/\AA a∉φ) \/
 ∃(o:CF) (its:Array AG) (n:Nat),K.lookup a=AA o/\o.cls=.type "list"/\o.dict=AD/\o.data=.seq its n/\its.size<=sizeLine/\Vals xs its.toList
mutual
noncomputable def yg:PV->V->Prop
 |.non,x=>x=.non
 |.bl b,x=>x=.bl b
 |.int i,x=>x=.int i
 |.str s,x=>x=.str s
 |.tp k vs,x=>∃a xs,x=.ref a/\ybN K B φ H k a xs/\yj vs xs
 |.lst vs,x=>∃a xs,x=.ref a/\ycQ B φ H a xs/\yj vs xs
 |.loc n,x=>n<φ.length/\∃a,x=.ref a/\∀b,φ[n]?=AA (AA b)->b=a
 |.exn c,x=>∃a,x=.ref a/\H a=AA (.ext (ygH a (cl c)))/\¬B a/\AA a∉φ
 |.scr vs,x=>∃a xs,x=.ref a/\ydU K B φ H a xs/\yj vs xs
noncomputable def yj:List PV->List V->Prop
 |[],xs=>xs=[]
 |v::vs,xs=>∃y ys,xs=y::ys/\yg v y/\yj vs ys
end
def yaI:Key->PV
 |.inl i=>.int i
 |.inr y=>.str y
def DK:List (PV×PV)->List (Key×V)->Prop
 |[],ks=>ks=[]
 |(k,v)::r,ks=>∃q x s,ks=(q,x)::s/\k=yaI q/\yg K cl B φ H v x/\DK r s
def DT:List (PV×PV)->List (List Key×V)->Prop
 |[],ks=>ks=[]
 |(k,v)::r,ks=>∃q x s,ks=(q,x)::s/\k=.tup (q.map yaI)/\yg K cl B φ H v x/\DT r s
def FS:List (AQ×PV)->List (AQ×V)->Prop
 |[],ks=>ks=[]
 |(k,v)::r,ks=>∃x s,ks=(k,x)::s/\yg K cl B φ H v x/\FS r s
def ycg:Ob->AI->Prop
 |.lst vs,a=>∃xs,H a=AA (.lst xs)/\yj K cl B φ H vs xs
 |.dct AC kvs,a=>∃ks,H a=AA (.dK ks)/\DK K cl B φ H kvs ks
 |.dct AB kvs,a=>∃ks,H a=AA (.dT ks)/\DT K cl B φ H kvs ks
 |.dead,_=>False
 |.ins c fs,a=>∃ks,(∃dx,H a=AA (.ins (cl c) dx ks))/\FS K cl B φ H fs ks
structure yE(st:SO):Prop where
 len:φ.length=st.length
 inj:∀(m n:Nat) (a:AI),φ[m]?=AA (AA a)->φ[n]?=AA (AA a)->m=n
 obj:∀(n:Nat) (a:AI),φ[n]?=AA (AA a)->∃o,st[n]?=AA o/\ycg K cl B φ H o a
 liv:∀(n:Nat) (o:Ob),st[n]?=AA o->o ≠ .dead->∃a,φ[n]?=AA (AA a)
 nb:∀a,AA a∈φ->¬B a
 dom:∀a,B a->∃o,H a=AA o
structure yM(ρ:IC.Env)(σ:St):Prop where
 len:ρ.length=σ.length
 get:∀(i:Nat) (v:PV),ρ[i]?=AA (AA v)->∃x,σ[i]?=AA (AA x)/\yg K cl B φ H v x
end
structure Step(φ:Ph)(H:Hp)(φ':Ph)(H':Hp):Prop where
 keep:∀b o,AA b∉φ->H b=AA o->H' b=AA o
 len:φ.length<=φ'.length
 pre:∀(n:Nat) (a:AI),n<φ.length->φ'[n]?=AA (AA a)->φ[n]?=AA (AA a)
 new:∀b,AA b∈φ'->AA b∈φ \/ H b=AD
theorem Step.rfl{φ:Ph}{H:Hp}:Step φ H φ H:=⟨λ_ _ _ e=>e,AU _,λ_ _ _ e=>e,λ_ h=>.inl h⟩
theorem Step.trans{φ φ1 φ2:Ph}{H H1 H2:Hp}(s:Step φ H φ1 H1)(t:Step φ1 H1 φ2 H2):Step φ H φ2 H2:=by
 refine⟨λb o n e=>?_,BU s.len t.len,λn a hn e=>s.pre n a hn (t.pre n a (A3 hn s.len) e),λb hb=>?_⟩
 .refine t.keep b o (λh=>?_) (s.keep b o n e);rcases s.new b h with q|q
  .exact n q
  .rw[e]at q;cases q
 .rcases t.new b hb with q|q
  .exact s.new b q
  .by_cases h:AA b∈φ
   .exact .inl h
   .refine .inr ?_
    cases e:H b with
    |none=>exact DQ _
    |some o=>rw[s.keep b o h e]at q;cases q
section
variable {K:AF}{cl:Nat->AI}{B:AI->Prop}{φ φ':Ph}{H H':Hp}{st:SO}{ρ:IC.Env}{σ:St}
theorem Rd.step(s:Step φ H φ' H'){a:AI}{u:HO}(n:AA a∉φ)(r:Rd H a u):Rd H' a u/\AA a∉φ':=by
 have h:∃o,H a=AA o:=by
  rcases r with r|⟨o,r⟩<;>exact⟨_,r⟩
 refine⟨?_,λz=>?_⟩
 .rcases r with r|⟨o,r⟩
  .exact .inl (s.keep _ _ n r)
  .exact .inr ⟨o,s.keep _ _ n r⟩
 .let⟨o,e⟩:=h;rcases s.new a z with q|q
  .exact n q
  .rw[e]at q;cases q
theorem ybN.step(s:Step φ H φ' H'){k:Bool}{a:AI}{xs:List V}(r:ybN K B φ H k a xs):ybN K B φ' H' k a xs:=by
 rcases r with⟨r,b,n⟩|r
 .let⟨_,n'⟩:=(Rd.of r).step s n;exact .inl ⟨s.keep _ _ n r,b,n'⟩
 .exact .inr r
theorem ycQ.step(s:Step φ H φ' H'){a:AI}{xs:List V}(r:ycQ B φ H a xs):ycQ B φ' H' a xs:=by
 let⟨r,b,n⟩:=r;let⟨_,n'⟩:=(Rd.of r).step s n;exact⟨s.keep _ _ n r,b,n'⟩
theorem ydU.step(s:Step φ H φ' H'){a:AI}{xs:List V}(r:ydU K B φ H a xs):ydU K B φ' H' a xs:=by
 rcases r with⟨r,b,n⟩|r
 .let⟨r',n'⟩:=r.step s n;exact .inl ⟨r',b,n'⟩
 .exact .inr r
mutual
theorem yg.step(s:Step φ H φ' H'):∀(v:PV) (x:V),yg K cl B φ H v x->yg K cl B φ' H' v x
 |.non,x,h=>by erw[yg]at h ⊢;exact h
 |.bl b,x,h=>by erw[yg]at h ⊢;exact h
 |.int i,x,h=>by erw[yg]at h ⊢;exact h
 |.str y,x,h=>by erw[yg]at h ⊢;exact h
 |.tp k vs,x,h=>by
  erw[yg]at h ⊢;let⟨a,xs,e,r,l⟩:=h;exact⟨a,xs,e,r.step s,yj.step s vs xs l⟩
 |.lst vs,x,h=>by
  erw[yg]at h ⊢;let⟨a,xs,e,r,l⟩:=h;exact⟨a,xs,e,r.step s,yj.step s vs xs l⟩
 |.loc n,x,h=>by
  erw[yg]at h ⊢;let⟨h1,a,e,h2⟩:=h;exact⟨A3 h1 s.len,a,e,λb q=>h2 b (s.pre n b h1 q)⟩
 |.exn c,x,h=>by
  erw[yg]at h ⊢;let⟨a,e,r,b,n⟩:=h;let⟨_,n'⟩:=(Rd.of r).step s n;exact⟨a,e,s.keep _ _ n r,b,n'⟩
 |.scr vs,x,h=>by
  erw[yg]at h ⊢;let⟨a,xs,e,r,l⟩:=h;exact⟨a,xs,e,r.step s,yj.step s vs xs l⟩
theorem yj.step(s:Step φ H φ' H'):∀(v:List PV) (x:List V),yj K cl B φ H v x->yj K cl B φ' H' v x
 |[],x,h=>by erw[yj]at h ⊢;exact h
 |v::vs,x,h=>by
  erw[yj]at h ⊢;let⟨y,ys,e,r,l⟩:=h;exact⟨y,ys,e,yg.step s v y r,yj.step s vs ys l⟩
end
theorem yM.step(s:Step φ H φ' H')(r:yM K cl B φ H ρ σ):yM K cl B φ' H' ρ σ:=⟨r.len,λi v e=>by
 let⟨x,h,q⟩:=r.get i v e;exact⟨x,h,q.step s⟩⟩
mutual
theorem yg.inn(hn:∀a,AA a∈φ->¬B a):∀(v:PV) (x:V),nL v=AB->yg K cl B φ H v x->yg K cl (λa=>B a \/ AA a∈φ) [] H v x
 |.non,x,_,h=>by erw[yg]at h ⊢;exact h
 |.bl b,x,_,h=>by erw[yg]at h ⊢;exact h
 |.int i,x,_,h=>by erw[yg]at h ⊢;exact h
 |.str y,x,_,h=>by erw[yg]at h ⊢;exact h
 |.tp k vs,x,q,h=>by
  erw[yg]at h ⊢;let⟨a,xs,e,r,l⟩:=h;refine⟨a,xs,e,?_,yj.inn hn vs xs (by simpa only[nL] using q) l⟩;rcases r with⟨r,b,n⟩|r
  .exact .inl ⟨r,λz=>z.elim b n,by simp⟩
  .exact .inr r
 |.lst vs,x,q,h=>by
  erw[yg]at h ⊢;let⟨a,xs,e,⟨r,b,n⟩,l⟩:=h;exact⟨a,xs,e,⟨r,λz=>z.elim b n,by simp⟩,yj.inn hn vs xs (by simpa only[nL] using q) l⟩
 |.loc n,x,q,h=>by simp[nL]at q
 |.exn c,x,q,h=>by simp[nL]at q
 |.scr vs,x,q,h=>by
  erw[yg]at h ⊢;let⟨a,xs,e,r,l⟩:=h;refine⟨a,xs,e,?_,yj.inn hn vs xs (by simpa only[nL] using q) l⟩;rcases r with⟨r,b,n⟩|r
  .exact .inl ⟨r,λz=>z.elim b n,by simp⟩
  .exact .inr r
theorem yj.inn(hn:∀a,AA a∈φ->¬B a):∀(v:List PV) (x:List V),nLs v=AB->yj K cl B φ H v x->yj K cl (λa=>B a \/ AA a∈φ) [] H v x
 |[],x,_,h=>by erw[yj]at h ⊢;exact h
 |v::vs,x,q,h=>by
  erw[yj]at h ⊢;erw[nLs,AK]at q;let⟨y,ys,e,r,l⟩:=h;exact⟨y,ys,e,yg.inn hn v y q.1 r,yj.inn hn vs ys q.2 l⟩
end
mutual
theorem yg.out{ψ:Ph}:∀(v:PV) (x:V),nL v=AB->yg K cl (λa=>B a \/ AA a∈φ) ψ H v x->yg K cl B φ H v x
 |.non,x,_,h=>by erw[yg]at h ⊢;exact h
 |.bl b,x,_,h=>by erw[yg]at h ⊢;exact h
 |.int i,x,_,h=>by erw[yg]at h ⊢;exact h
 |.str y,x,_,h=>by erw[yg]at h ⊢;exact h
 |.tp k vs,x,q,h=>by
  erw[yg]at h ⊢;let⟨a,xs,e,r,l⟩:=h;refine⟨a,xs,e,?_,yj.out vs xs (by simpa only[nL] using q) l⟩;rcases r with⟨r,b,n⟩|r
  .exact .inl ⟨r,λz=>b (.inl z),λz=>b (.inr z)⟩
  .exact .inr r
 |.lst vs,x,q,h=>by
  erw[yg]at h ⊢;let⟨a,xs,e,⟨r,b,n⟩,l⟩:=h;exact⟨a,xs,e,⟨r,λz=>b (.inl z),λz=>b (.inr z)⟩,yj.out vs xs (by simpa only[nL] using q) l⟩
 |.loc n,x,q,h=>by simp[nL]at q
 |.exn c,x,q,h=>by simp[nL]at q
 |.scr vs,x,q,h=>by
  erw[yg]at h ⊢;let⟨a,xs,e,r,l⟩:=h;refine⟨a,xs,e,?_,yj.out vs xs (by simpa only[nL] using q) l⟩;rcases r with⟨r,b,n⟩|r
  .exact .inl ⟨r,λz=>b (.inl z),λz=>b (.inr z)⟩
  .exact .inr r
theorem yj.out{ψ:Ph}:∀(v:List PV) (x:List V),nLs v=AB->yj K cl (λa=>B a \/ AA a∈φ) ψ H v x->yj K cl B φ H v x
 |[],x,_,h=>by erw[yj]at h ⊢;exact h
 |v::vs,x,q,h=>by
  erw[yj]at h ⊢;erw[nLs,AK]at q;let⟨y,ys,e,r,l⟩:=h;exact⟨y,ys,e,yg.out v y q.1 r,yj.out vs ys q.2 l⟩
end
theorem yj.length:∀{v:List PV} {x:List V},yj K cl B φ H v x->v.length=x.length
 |[],x,h=>by erw[yj]at h;subst h;rfl
 |v::vs,x,h=>by
  erw[yj]at h;let⟨y,ys,rfl,_,l⟩:=h;simp[yj.length l]
theorem DK.step(s:Step φ H φ' H'):∀{kvs:List (PV×PV)} {ks:List (Key×V)},DK K cl B φ H kvs ks->DK K cl B φ' H' kvs ks
 |[],ks,h=>h
 |(k,v)::r,ks,h=>by
  let⟨q,x,t,e,m,rv,l⟩:=h;exact⟨q,x,t,e,m,rv.step s,DK.step s l⟩
theorem DT.step(s:Step φ H φ' H'):∀{kvs:List (PV×PV)} {ks:List (List Key×V)},DT K cl B φ H kvs ks->DT K cl B φ' H' kvs ks
 |[],ks,h=>h
 |(k,v)::r,ks,h=>by
  let⟨q,x,t,e,m,rv,l⟩:=h;exact⟨q,x,t,e,m,rv.step s,DT.step s l⟩
theorem FS.step(s:Step φ H φ' H'):∀{kvs:List (AQ×PV)} {ks:List (AQ×V)},FS K cl B φ H kvs ks->FS K cl B φ' H' kvs ks
 |[],ks,h=>h
 |(k,v)::r,ks,h=>by
  let⟨x,t,e,rv,l⟩:=h;exact⟨x,t,e,rv.step s,FS.step s l⟩
theorem ycg.step(s:Step φ H φ' H'){o:Ob}{a:AI}(e:H' a=H a)(r:ycg K cl B φ H o a):ycg K cl B φ' H' o a:=by
 cases o with
 |lst vs=>
  let⟨xs,q,l⟩:=r;exact⟨xs,e.trans q,l.step s⟩
 |dct t kvs=>
  cases t with
  |false=>let⟨ks,q,l⟩:=r;exact⟨ks,e.trans q,l.step s⟩
  |true=>let⟨ks,q,l⟩:=r;exact⟨ks,e.trans q,l.step s⟩
 |dead=>exact r
 |ins c fs=>let⟨ks,⟨dx,q⟩,l⟩:=r;exact⟨ks,⟨dx,e.trans q⟩,l.step s⟩
theorem ycg.there{o:Ob}{a:AI}(r:ycg K cl B φ H o a):∃u,H a=AA u:=by
 cases o with
 |lst vs=>let⟨xs,q,l⟩:=r;exact⟨_,q⟩
 |dct t kvs=>cases t<;>(let⟨ks,q,l⟩:=r;exact⟨_,q⟩)
 |dead=>exact r.elim
 |ins c fs=>let⟨ks,⟨dx,q⟩,l⟩:=r;exact⟨_,q⟩
theorem yE.there(S:yE K cl B φ H st){a:AI}(h:AA a∈φ):∃u,H a=AA u:=by
 let⟨n,e⟩:=DX.mp h;let⟨o,_,r⟩:=S.obj n a e;exact r.there
theorem Step.upd{p:AI}{o:HO}(hp:H p=AD):Step φ H φ (upd H p o):=
 ⟨λb u n e=>by rw[zj (zn e hp)];exact e,AU _,λ_ _ _ e=>e,λ_ h=>.inl h⟩
theorem yE.same(S:yE K cl B φ H st)(k:∀b o,H b=AA o->H' b=AA o):yE K cl B φ H' st:=by
 have s:Step φ H φ H':=⟨λb o _ e=>k b o e,AU _,λ_ _ _ e=>e,λ_ h=>.inl h⟩;refine⟨S.len,S.inj,λn a e=>?_,S.liv,S.nb,λa h=>?_⟩
 .let⟨o,q,r⟩:=S.obj n a e;let⟨u,z⟩:=r.there;exact⟨o,q,r.step s ((k a u z).trans z.symm)⟩
 .let⟨o,q⟩:=S.dom a h;exact⟨o,k a o q⟩
theorem yE.upd{p:AI}{o:HO}(S:yE K cl B φ H st)(hp:H p=AD):yE K cl B φ (upd H p o) st:=S.same λb u e=>by rw[zj (zn e hp)];exact e
mutual
theorem yg.moreB{B':AI->Prop}(hn:∀y,B' y->B y \/ H y=AD):∀(v:PV) (x:V),yg K cl B φ H v x->yg K cl B' φ H v x
 |.non,x,h=>by erw[yg]at h ⊢;exact h
 |.bl b,x,h=>by erw[yg]at h ⊢;exact h
 |.int i,x,h=>by erw[yg]at h ⊢;exact h
 |.str y,x,h=>by erw[yg]at h ⊢;exact h
 |.tp k vs,x,h=>by
  erw[yg]at h ⊢;let⟨y,xs,e,r,l⟩:=h;refine⟨y,xs,e,?_,yj.moreB hn vs xs l⟩;rcases r with⟨r,b,n⟩|r
  .exact .inl ⟨r,λz=>(hn y z).elim b λq=>(by rw[q]at r;cases r),n⟩
  .exact .inr r
 |.lst vs,x,h=>by
  erw[yg]at h ⊢;let⟨y,xs,e,⟨r,b,n⟩,l⟩:=h;exact⟨y,xs,e,⟨r,λz=>(hn y z).elim b λq=>(by rw[q]at r;cases r),n⟩,yj.moreB hn vs xs l⟩
 |.loc n,x,h=>by erw[yg]at h ⊢;exact h
 |.exn c,x,h=>by
  erw[yg]at h ⊢;let⟨y,e,r,b,n⟩:=h;exact⟨y,e,r,λz=>(hn y z).elim b λq=>(by rw[q]at r;cases r),n⟩
 |.scr vs,x,h=>by
  erw[yg]at h ⊢;let⟨y,xs,e,r,l⟩:=h;refine⟨y,xs,e,?_,yj.moreB hn vs xs l⟩;rcases r with⟨r,b,n⟩|r
  .refine .inl ⟨r,λz=>(hn y z).elim b λq=>?_,n⟩;rcases r with r|⟨o,r⟩<;>(rw[q]at r;cases r)
  .exact .inr r
theorem yj.moreB{B':AI->Prop}(hn:∀y,B' y->B y \/ H y=AD):∀(v:List PV) (x:List V),yj K cl B φ H v x->yj K cl B' φ H v x
 |[],x,h=>by erw[yj]at h ⊢;exact h
 |v::vs,x,h=>by
  erw[yj]at h ⊢;let⟨y,ys,e,r,l⟩:=h;exact⟨y,ys,e,yg.moreB hn v y r,yj.moreB hn vs ys l⟩
end
end
end L2
namespace L2
open PySem PySem.Spec PyProof.Rows
def CXH(X:Cx)(H:Hp)(s:AJ)(E:XK)(e:AG)(s':AJ):Prop:=
 ∃(C a:AI) (cls a0 fl:AG) (H':Hp) (B:BF),X.s₀.heap.objs.size<=C/\e=.ref a/\s'.os=s.os/\D6 s'.gens /\
  (B.StaysIn s'.heap/\B.get? a=AD/\s'.heap.FunFrames B X.stack/\s'.heap.TracedAtW B a cls a0 fl)/\HOk X.prog X.w H' s'.heap/\Un (frs X.stack) [C] H H' s.heap s'.heap /\
  (∀b o,s.heap.get? b=AA o->H b=AD->b∉frs X.stack->b≠C->B.get? b=AA o)/\(∀b u,H' b=AA u->∃o,B.get? b=AA o)/\(∀b o,s.heap.get? b=AA o->b∉frs X.stack->b≠C->∃o',B.get? b=AA o')/\E cls AD H'
theorem CXH.mono{X:Cx}{H:Hp}{s:AJ}{E E':XK}{e:AG}{s':AJ}(h:CXH X H s E e s')(n:∀cls H',E cls AD H'->E' cls AD H'):CXH X H s E' e s':=by
 let⟨C,a,cls,a0,fl,H',B,r1,r2,r3,r4,r5,r6,r7,r8,r9,r10,r11⟩:=h;exact⟨C,a,cls,a0,fl,H',B,r1,r2,r3,r4,r5,r6,r7,r8,r9,r10,n _ _ r11⟩
section
variable {M:Model}{A:Au}{E:AG->AJ->Prop}{s:AJ}
def zfW{base:BF}{env:Env}{outer:List Env}{L e:AI}{cls a0 fl:AG}{Q:Unit->AJ->Prop}
  (hfr:A.frames=AA (env::outer)) (hf:env.frame=AA L) (f1:base.StaysIn s.heap) (f2:base.get? e=AD) (f3:s.heap.FunFrames base (env::outer)) (f4:s.heap.TracedAtW base e cls a0 fl)
  (hQ:∀h',HH base outer e cls a0 h'->s.heap.UpToSlots h'->Q () {s with heap:=h'}):A4 M A («leaving» env (.ref e)) Q E s:=by
 by_cases hfl:fl=rawInt L
 .subst hfl;unfold «leaving»;refine AH (wpAny_noteFrame_againW hf f4 ?_);refine wpAny_landsW ⟨f1,f2,f3,f4⟩ λh' hfl up=>?_;let⟨k1,k2,⟨_,_,k3⟩,k4⟩:=hfl;exact hQ h' ⟨k1,k2,k3,k4⟩ up
 .let⟨oe,vs,T,oT,ts,he,⟨hcls,h0⟩,hd,h1,hnT,hTe,hT,hdT,h3⟩:=f4;subst hcls;unfold «leaving» noteFrame;erw[hf];refine AH (AH (BV he hd h1 ?_));rw[if_pos (show (Al T != CL)=AB from by simp)];refine AH (BV hT hdT h3 ?_);rw[if_neg (show ¬((fl==rawInt L)=AB)from λz=>hfl (eq_of_beq z))];refine AH (FO hT hdT (EL.mp h3).1 ?_);have other:∀b,b≠T->(s.heap.update T (Obj.mapFields (·.setIfInBounds 3 CL))).get? b=s.heap.get? b:=λb hb=>DN _ _ (BN hb);have noRecord:∀b o,s.heap.get? b=AA o->(∀vs,o.data ≠ .fields vs)->b≠T:=λb o hb hnf q=>by
   rw[q,hT]at hb;injection hb with hb;subst hb;exact hnf ts hdT
  refine wpAny_newEntryW hfr (f3.of_keeps λb o hb hnf=>⟨o,(other b (noRecord b o hb hnf)).trans hb,rfl⟩) hf ((other e (BN hTe)).trans he)
   (λb o hbo=>(other b λq=>by rw[q,hnT]at hbo;cases hbo).trans (f1 b o hbo)) f2 hd (EL.mp h1).1 h0
   λh' ⟨x1,⟨_,_,x2⟩,x3,x4⟩=>hQ h' ⟨x1,f2,x2,x3⟩ λb o hb hnf=>x4 b o ((other b (noRecord b o hb hnf)).trans hb) hnf
end
section
variable {P:A8}{w:An}{K:AF}{mg:AQ->Option AG}{base:BF}{N:List AQ}{qual:AQ}{scope:Bn}{f:AI}{cd:AG}{A:Au}{outer:List Env}{s₀:AJ}{H₀:Hp}{E:XK}
def zqJ{π:List (AI×CF)}{σ:St}{H:Hp}{s:AJ}{e:AG}{s':AJ}(I:Inv (yaW (CX1 P w) P w K mg base N qual scope f cd A outer s₀ H₀ E) π σ H s)(h:CXH (yaW (CX1 P w) P w K mg base N qual scope f cd A outer s₀ H₀ E) H s E e s'):
  (yaW (CX1 P w) P w K mg base N qual scope f cd A outer s₀ H₀ E).xe e s':=by
 let⟨C,a,cls,a0,fl,H',B,hC,rfl,os,bare,⟨f1,f2,f3,f4⟩,hok,un,hB,tr,hT,hE⟩:=h;have bse:Un (frs outer) [] H₀ H s₀.heap s.heap:=I.base;have lt:∀b o,s₀.heap.get? b=AA o->b≠s₀.heap.objs.size:=λb o q=>Ao (AY q);have neC:∀b o,s₀.heap.get? b=AA o->b≠C:=λb o q=>Ao (A3 (AY q) hC);have niC:∀b o,s₀.heap.get? b=AA o->b∉[C]:=λb o q z=>neC b o q (by simpa using z);have hst:∀b,b∈frs (envOfC qual scope s₀.heap.objs.size f cd::outer)->b=s₀.heap.objs.size \/ b∈frs outer:=λb hb=>by
  have hb':b∈s₀.heap.objs.size::frs outer:=hb;exact AT.mp hb'
 have un':Un (frs (envOfC qual scope s₀.heap.objs.size f cd::outer)) [C] H H' s.heap s'.heap:=un;have kB:∀b o,s₀.heap.get? b=AA o->H₀ b=AD->b∉frs outer->B.get? b=AA o:=λb o q n hb=>hB b o (bse.keep b o q n hb (by simp)) (bse.free b o q n (by simp)) (λz=>by
  rcases hst b z with z|z
  .exact lt b o q z
  .exact hb z) (neC b o q)
 have kT:∀b o,s₀.heap.get? b=AA o->b∉frs outer->∃o',B.get? b=AA o':=λb o q hb=>by
  let⟨o',q1⟩:=bse.there b o q (by simp);refine hT b o' q1 (λz=>?_) (neC b o q);rcases hst b z with z|z
  .exact lt b o q z
  .exact hb z
 refine zfW I.ok.frames rfl f1 f2 f3 f4 λh'' fl' up=>?_;refine⟨a,cls,a0,H',B,rfl,os.trans I.os,bare,fl',HOk.inB hok f1 fl'.1 tr,⟨λb o q n hb _=>fl'.1 b o (kB b o q n hb),λb o q n hb _=>?_,λb o q n _=>?_,λb o q _=>?_,λb xs q=>un'.tups b xs (bse.tups b xs q),λb o u q=>un'.frzs b o u (bse.frzs b o u q),λb ps q=>?_⟩,kB,tr,kT,hE⟩
 .let⟨sl,q1⟩:=bse.slot b o q n hb (by simp);have n1:=bse.free b o q n (by simp);let⟨sl1,q2⟩:=un'.slot b _ q1 n1 (AW _ hb) (niC b o q);let⟨_,o',ho',hd⟩:=CO f3 (show b∈DP (λ(z:Env)=>z.frame) _ from AW _ hb);let⟨sl',q3⟩:=up b _ q2 (by rw[ho']at q2;cases q2;exact hd);exact⟨sl',q3⟩
 .let⟨o',q1⟩:=bse.there b o q (by simp);exact un'.free b o' q1 (bse.free b o q n (by simp)) (niC b o q)
 .let⟨o',q1⟩:=bse.there b o q (by simp);let⟨o2,q2⟩:=un'.there b o' q1 (niC b o q)
  by_cases hb:b∈frs outer
  .let⟨_,o3,ho3,hd⟩:=CO f3 (show b∈DP (λ(z:Env)=>z.frame) _ from AW _ hb);let⟨sl',q3⟩:=up b _ ho3 hd;exact⟨_,q3⟩
  .let⟨o4,q4⟩:=kT b o q hb;exact⟨o4,fl'.1 b o4 q4⟩
 .let⟨m1,e1⟩:=bse.tbls b ps q;let⟨m2,e2⟩:=un'.tbls b _ e1;exact⟨m1++m2,by rw[e2,EB]⟩
end
section
variable {pg:A8}{wd:An}{A:Au}{R:Gi->AJ->Prop}{s:AJ}
end
section
variable {X:Cx}{sc:Bn}{NC:List AQ}{slots:List (Option Nat)}{elt tg iter:AV}{ifs:List AV}{pos:CV}{g:TG}{ti:TT}{te:CI->TE}{E:XK}
end
end L2
namespace L2
open PySem PySem.Spec PyProof.Rows IC
structure Se where
 cl:Nat->AI
 call:Nat->List PV->SO->R PV
 may:Bool
section
variable (S:Se)(X:Cx)
def ExcAt(σ:St)(B:AI->Prop)(φ:Ph)(H:Hp)(k:Nat)(st':SO)(e:AG)(s':AJ):Prop:=
 (∃π H1 s φ1,Inv X π σ H1 s/\Step φ H φ1 H1/\CX1 X.prog X.w X.stack H1 s (λcls _ H'=>cls=.ref (S.cl k)/\∃φ',Step φ1 H1 φ' H'/\yE X.K S.cl B φ' H' st') e s') \/
 (S.may=AB/\∃π H1 s φ1 h' e0 vs,Inv X π σ H1 s/\Step φ H φ1 H1/\yE X.K S.cl B φ1 H1 st'/\Go s.heap h' e0 (.ref (S.cl k)) vs/\e=.ref e0/\s'={s with heap:=h'}) \/
 (S.may=AB/\∃π H1 s,Inv X π σ H1 s/\CXH X H1 s (λcls _ H'=>cls=.ref (S.cl k)/\∃φ',Step φ H φ' H'/\yE X.K S.cl B φ' H' st') e s')
def Run{α β:Type}(σ:St)(B:AI->Prop)(φ:Ph)(H:Hp)(Rel:Ph->Hp->α->β->Prop)(r:R α)(Q:β->Hp->Prop):Prop:=
 match r with
 |.ok v st'=>∀x H' φ',Step φ H φ' H'->yE X.K S.cl B φ' H' st'->Rel φ' H' v x->Q x H'
 |.exc k st'=>∀e s',ExcAt S X σ B φ H k st' e s'->X.xe e s'
 |.bad=>False
abbrev RV(B:AI->Prop):Ph->Hp->PV->V->Prop:=λφ H=>yg X.K S.cl B φ H
abbrev RL(B:AI->Prop):Ph->Hp->List PV->List V->Prop:=λφ H=>yj X.K S.cl B φ H
abbrev RB:Ph->Hp->Bool->Bool->Prop:=λ_ _ b c=>b=c
def tE(c:Ce):TE:=λσ H Q=>∃B φ st ρ,yE X.K S.cl B φ H st/\yM X.K S.cl B φ H ρ σ/\Run S X σ B φ H (RV S X B) (ev S.call ρ st c) Q
def tAs(c:Ces):TA:=λσ H Q=>∃B φ st ρ,yE X.K S.cl B φ H st/\yM X.K S.cl B φ H ρ σ/\Run S X σ B φ H (RL S X B) (evs S.call ρ st c) Q
def ya7(r:R PV):R Bool:=r.bind λx st=>onO (yaL st x) λb=>.ok b st
def tTs(c:Ce):TT:=λσ H Q=>∃B φ st ρ,yE X.K S.cl B φ H st/\yM X.K S.cl B φ H ρ σ/\Run S X σ B φ H RB (ya7 (ev S.call ρ st c)) Q
end
section
variable {S:Se}{X:Cx}{σ:St}{B:AI->Prop}{φ φ1:Ph}{H H1:Hp}
theorem ExcAt.back{k:Nat}{st':SO}{e:AG}{s':AJ}(s:Step φ H φ1 H1)(h:ExcAt S X σ B φ1 H1 k st' e s'):ExcAt S X σ B φ H k st' e s':=by
 rcases h with⟨π,H2,t,φ2,I,q,c⟩|⟨m,π,H2,t,φ2,h',e0,vs,I,q,c⟩|⟨m,π,H2,t,I,c⟩
 .exact .inl ⟨π,H2,t,φ2,I,s.trans q,c⟩
 .exact .inr (.inl ⟨m,π,H2,t,φ2,h',e0,vs,I,s.trans q,c⟩)
 .exact .inr (.inr ⟨m,π,H2,t,I,c.mono λcls H' ⟨e1,φ',s2,r⟩=>⟨e1,φ',s.trans s2,r⟩⟩)
variable {α β γ δ:Type}{Rel:Ph->Hp->α->β->Prop}{HI:Ph->Hp->γ->δ->Prop}
theorem Run.on{r:R α}{Q:β->Hp->Prop}(s:Step φ H φ1 H1)(h:Run S X σ B φ H Rel r Q):Run S X σ B φ1 H1 Rel r Q:=by
 cases r with
 |ok v st'=>exact λx H' φ' t=>h x H' φ' (s.trans t)
 |exc k st'=>exact λe s' x=>h e s' (x.back s)
 |bad=>exact h
theorem Run.mono{r:R α}{Q Q':β->Hp->Prop}(h:Run S X σ B φ H Rel r Q)(k:∀x H',Q x H'->Q' x H'):Run S X σ B φ H Rel r Q':=by
 cases r with
 |ok v st'=>exact λx H' φ' t rs rv=>k x H' (h x H' φ' t rs rv)
 |exc c st'=>exact h
 |bad=>exact h
theorem Run.bind{r:R α}{k:α->SO->R γ}{Q:δ->Hp->Prop}(h:Run S X σ B φ H HI (r.bind k) Q):
  Run S X σ B φ H Rel r λx H1=>∃v st1 φ1,Step φ H φ1 H1/\yE X.K S.cl B φ1 H1 st1/\Rel φ1 H1 v x/\Run S X σ B φ1 H1 HI (k v st1) Q:=by
 cases r with
 |ok v st'=>exact λx H' φ' t rs rv=>⟨v,st',φ',t,rs,rv,Run.on t h⟩
 |exc c st'=>exact h
 |bad=>exact h
theorem Run.ok{v:α}{st:SO}{Q:β->Hp->Prop}(h:Run S X σ B φ H Rel (.ok v st) Q)(rs:yE X.K S.cl B φ H st){x:β}(rv:Rel φ H v x):Q x H:=h x H φ .rfl rs rv
theorem PE.imp{e:AV}{t t':TE}(h:PE X e t')(k:∀σ H Q,t σ H Q->t' σ H Q):PE X e t:=λπ s σ H Q I q=>h π s σ H Q I (k σ H Q q)
theorem PT.imp{e:AV}{t t':TT}(h:PT X e t')(k:∀σ H Q,t σ H Q->t' σ H Q):PT X e t:=λπ s σ H Q I q=>h π s σ H Q I (k σ H Q q)
theorem PW.imp{e:AV}{t t':TT}(h:PW X e t')(k:∀σ H Q,t σ H Q->t' σ H Q):PW X e t:=λwh π s σ H Q I q=>h wh π s σ H Q I (k σ H Q q)
theorem PA.imp{e:List AV}{t t':TA}(h:PA X e t')(k:∀σ H Q,t σ H Q->t' σ H Q):PA X e t:=λpos π s σ H Q I q=>h pos π s σ H Q I (k σ H Q q)
theorem tE.bind{c:Ce}{ρ:IC.Env}{st:SO}{k:PV->SO->R γ}{Q:δ->Hp->Prop}{P:V->Hp->Prop}(rs:yE X.K S.cl B φ H st)(re:yM X.K S.cl B φ H ρ σ)(h:Run S X σ B φ H HI ((ev S.call ρ st c).bind k) Q)
  (n:∀x H1 v st1 φ1,Step φ H φ1 H1->yE X.K S.cl B φ1 H1 st1->yM X.K S.cl B φ1 H1 ρ σ->yg X.K S.cl B φ1 H1 v x->Run S X σ B φ1 H1 HI (k v st1) Q->P x H1):tE S X c σ H P:=
 ⟨B,φ,st,ρ,rs,re,(Run.bind h).mono λx H1 ⟨v,st1,φ1,s,rs1,rv,h1⟩=>n x H1 v st1 φ1 s rs1 (re.step s) rv h1⟩
theorem tAs.bind{c:Ces}{ρ:IC.Env}{st:SO}{k:List PV->SO->R γ}{Q:δ->Hp->Prop}{P:List V->Hp->Prop}(rs:yE X.K S.cl B φ H st)(re:yM X.K S.cl B φ H ρ σ)(h:Run S X σ B φ H HI ((evs S.call ρ st c).bind k) Q)
  (n:∀x H1 v st1 φ1,Step φ H φ1 H1->yE X.K S.cl B φ1 H1 st1->yM X.K S.cl B φ1 H1 ρ σ->yj X.K S.cl B φ1 H1 v x->Run S X σ B φ1 H1 HI (k v st1) Q->P x H1):tAs S X c σ H P:=
 ⟨B,φ,st,ρ,rs,re,(Run.bind h).mono λx H1 ⟨v,st1,φ1,s,rs1,rv,h1⟩=>n x H1 v st1 φ1 s rs1 (re.step s) rv h1⟩
variable {i:Int}{b:Bool}{x:AQ}{j:Nat}{pos:CV}{e a a':AV}{c ca cb cc:Ce}
def zkv:PE X (.Constant (.int i) j pos) (tE S X (.cst (.int i))):=zqw.imp λσ H Q ⟨B,φ,st,ρ,rs,re,h⟩=>by
 erw[ev]at h;exact h.ok rs (by erw[yg])
def zpA:PE X (.Constant (.bool b) j pos) (tE S X (.cst (.bl b))):=zqx.imp λσ H Q ⟨B,φ,st,ρ,rs,re,h⟩=>by
 erw[ev]at h;exact h.ok rs (by erw[yg])
def znD:PE X (.Constant .none j pos) (tE S X (.cst .non)):=zqy.imp λσ H Q ⟨B,φ,st,ρ,rs,re,h⟩=>by
 erw[ev]at h;exact h.ok rs (by erw[yg])
def zpb:PE X (.Constant (.str x) j pos) (tE S X (.cst (.str x))):=zqz.imp λσ H Q ⟨B,φ,st,ρ,rs,re,h⟩=>by
 erw[ev]at h;exact h.ok rs (by erw[yg])
def znb{i:Nat}(hN:X.N[i]?=AA x)(hv:Vis X.env.scope x)(hd:(x==("__debug__":AQ))=false:=by decide)(hcd:(x==("__classdict__":AQ))=false:=by decide):PE X (.Name x pos) (tE S X (.var i)):=
 (zlb hN hv hd hcd).imp λσ H Q ⟨B,φ,st,ρ,rs,re,h⟩=>by
  erw[ev]at h
  cases q:ρ[i]? with
  |none=>rw[q]at h;exact h.elim
  |some o=>
   cases o with
   |none=>rw[q]at h;exact h.elim
   |some v=>
    rw[q]at h;let⟨y,hy,rv⟩:=re.get i v q;exact⟨y,hy,h.ok rs rv⟩
def zlA{v:PV}{y:AI}(hg:Gl X x)(hm:X.mg x=AA (.ref y))(hk:∀B φ H,yg X.K S.cl B φ H v (.ref y))(hd:(x==("__debug__":AQ))=false:=by decide):PE X (.Name x pos) (tE S X (.cst v)):=
 (zdJ hg hm (show RelV (.ref y) (.ref y)from rfl) hd).imp λσ H Q ⟨B,φ,st,ρ,rs,re,h⟩=>by
  erw[ev]at h;exact h.ok rs (hk B φ H)
def zas{o:Option PV}{st:SO}{Q:VK}(h:Run S X σ B φ H (RV S X B) (toR o st) Q)(rs:yE X.K S.cl B φ H st):∃z,o=AA z/\∀z' H' φ',Step φ H φ' H'->yE X.K S.cl B φ' H' st->yg X.K S.cl B φ' H' z z'->Q z' H':=by
 cases o with
 |none=>exact h.elim
 |some z=>exact⟨z,rfl,h⟩
def rT2(S:Se)(X:Cx)(f:PV->PV->Option PV):R2:=λx y H Q=>∃B φ st v w z,yE X.K S.cl B φ H st/\yg X.K S.cl B φ H v x/\yg X.K S.cl B φ H w y/\f v w=AA z /\
 ∀z' H' φ',Step φ H φ' H'->yE X.K S.cl B φ' H' st->yg X.K S.cl B φ' H' z z'->Q z' H'
def znU{op:De}{o:BOp}(ho:OpR X (binaryOp op) (rT2 S X (yw o)))(ha:PE X a (tE S X ca))(hb:PE X a' (tE S X cb)):PE X (.BinOp a op a' pos) (tE S X (.bin o ca cb)):=
 (zpQ ho ha hb).imp λσ H Q ⟨B,φ,st,ρ,rs,re,h⟩=>by
  erw[ev]at h;refine tE.bind rs re h λx H1 v st1 φ1 s1 rs1 re1 rv h1=>tE.bind rs1 re1 h1 λy H2 w st2 φ2 s2 rs2 re2 rw h2=>?_;let⟨z,e,q⟩:=zas h2 rs2;exact⟨B,φ2,st2,v,w,z,rs2,rv.step s2,rw,e,q⟩
def zn1{op:F8}{o:COp}(ho:OpR X (compareOp op) (rT2 S X (yG o)))(ha:PE X a (tE S X ca))(hb:PE X a' (tE S X cb))(hm:behindInMarks op a'=AC):PE X (.Compare a [op] [a'] pos) (tE S X (.cmp o ca cb)):=
 (zhf ho ha hb hm).imp λσ H Q ⟨B,φ,st,ρ,rs,re,h⟩=>by
  erw[ev]at h;refine tE.bind rs re h λx H1 v st1 φ1 s1 rs1 re1 rv h1=>tE.bind rs1 re1 h1 λy H2 w st2 φ2 s2 rs2 re2 rw h2=>?_;let⟨z,e,q⟩:=zas h2 rs2;exact⟨B,φ2,st2,v,w,z,rs2,rv.step s2,rw,e,q⟩
end
section
variable {S:Se}{X:Cx}{σ:St}{B:AI->Prop}{φ φ1:Ph}{H H1:Hp}{K:AF}{cl:Nat->AI}{st:SO}
theorem ybN.sq{k:Bool}{a:AI}{xs:List V}(r:ybN K B φ H k a xs):SqT K H a xs:=by
 rcases r with⟨r,_⟩|r
 .exact .inl (.inl r)
 .exact .inr r.2
theorem ycQ.sq{a:AI}{xs:List V}(r:ycQ B φ H a xs):SqL K H a xs:=.inl (.inl r.1)
theorem yg.tup_new{vs:List PV}{xs:List V}{p:AI}(hp:H p=AD)(rs:yE K cl B φ H st)(r:yj K cl B φ H vs xs):yg K cl B φ (upd H p (.tup xs)) (.tup vs) (.ref p):=by
 erw[yg];refine⟨p,xs,rfl,.inl ⟨zq,λz=>?_,λz=>?_⟩,r.step (.upd hp)⟩
 .let⟨o,e⟩:=rs.dom p z;rw[hp]at e;cases e
 .let⟨o,e⟩:=rs.there z;rw[hp]at e;cases e
theorem yg.lst_new{vs:List PV}{xs:List V}{p:AI}(hp:H p=AD)(rs:yE K cl B φ H st)(r:yj K cl B φ H vs xs):yg K cl B φ (upd H p (.lst xs)) (.lst vs) (.ref p):=by
 erw[yg];refine⟨p,xs,rfl,⟨zq,λz=>?_,λz=>?_⟩,r.step (.upd hp)⟩
 .let⟨o,e⟩:=rs.dom p z;rw[hp]at e;cases e
 .let⟨o,e⟩:=rs.there z;rw[hp]at e;cases e
theorem yj.append:∀{vs ws:List PV} {xs ys:List V},yj K cl B φ H vs xs->yj K cl B φ H ws ys->yj K cl B φ H (vs++ws) (xs++ys)
 |[],ws,xs,ys,h,q=>by erw[yj]at h;subst h;exact q
 |v::vs,ws,xs,ys,h,q=>by
  erw[yj]at h;let⟨y,zs,rfl,r,l⟩:=h;show yj K cl B φ H (v::(vs++ws)) (y::(zs++ys));erw[yj];exact⟨y,zs++ys,rfl,r,yj.append l q⟩
theorem yj.get:∀{vs:List PV} {xs:List V} (j:Nat) {v:PV},yj K cl B φ H vs xs->vs[j]?=AA v->∃x,xs[j]?=AA x/\yg K cl B φ H v x
 |[],xs,j,v,h,e=>by simp at e
 |w::vs,xs,0,v,h,e=>by
  erw[yj]at h;let⟨y,zs,rfl,r,l⟩:=h;simp at e;subst e;exact⟨y,rfl,r⟩
 |w::vs,xs,j+1,v,h,e=>by
  erw[yj]at h;let⟨y,zs,rfl,r,l⟩:=h;let⟨x,q1,q2⟩:=yj.get j l (by simpa using e);exact⟨x,by simpa using q1,q2⟩
theorem yj.drop:∀{vs:List PV} {xs:List V} (n:Nat),yj K cl B φ H vs xs->yj K cl B φ H (vs.drop n) (xs.drop n)
 |vs,xs,0,h=>by simpa using h
 |[],xs,n+1,h=>by erw[yj]at h;subst h;simp[yj]
 |v::vs,xs,n+1,h=>by
  erw[yj]at h;let⟨y,ys,rfl,_,l⟩:=h;simpa using yj.drop n l
theorem yj.take:∀{vs:List PV} {xs:List V} (n:Nat),yj K cl B φ H vs xs->yj K cl B φ H (vs.take n) (xs.take n)
 |vs,xs,0,h=>by simp[yj]
 |[],xs,n+1,h=>by erw[yj]at h;subst h;simp[yj]
 |v::vs,xs,n+1,h=>by
  erw[yj]at h;let⟨y,ys,rfl,r,l⟩:=h;erw[List.take_succ_cons,yj];exact⟨y,ys.take n,rfl,r,yj.take n l⟩
def zcu{f:AG->AG->Gw AG}{o:BOp}{C:Int->Int->Prop}{g:Int->Int->Int}(h:OpR X f (rI C λi j=>.int (g i j)))
  (hb:∀v w z,yw o v w=AA z->∃i j,v=.int i/\w=.int j/\C i j/\z=.int (g i j)):OpR X f (rT2 S X (yw o)):=by
 rintro π s σ H x y v u Q I rx ry ⟨B,φ,st,a,b,z,rs,ra,rb,e,q⟩
 let⟨i,j,rfl,rfl,hc,rfl⟩:=hb a b z e;erw[yg]at ra rb;subst ra rb;exact h π s σ H _ _ v u Q I rx ry ⟨i,j,rfl,rfl,hc,q _ H φ .rfl rs (by erw[yg])⟩
def zcX{f:AG->AG->Gw AG}{o:BOp}{g:Int->Int->Int}(h:OpR X f (rI0 λi j=>.int (g i j)))
  (hb:∀v w z,yw o v w=AA z->∃i j,v=.int i/\w=.int j/\z=.int (g i j)):OpR X f (rT2 S X (yw o)):=by
 rintro π s σ H x y v u Q I rx ry ⟨B,φ,st,a,b,z,rs,ra,rb,e,q⟩
 let⟨i,j,rfl,rfl,rfl⟩:=hb a b z e;erw[yg]at ra rb;subst ra rb;exact h π s σ H _ _ v u Q I rx ry ⟨i,j,rfl,rfl,q _ H φ .rfl rs (by erw[yg])⟩
def zmH(v w z:PV)(h:yw .sub v w=AA z):∃i j,v=.int i/\w=.int j/\z=.int (i-j):=by
 unfold yw at h;split at h<;>first|(cases h;done)|skip
 exact⟨_,_,rfl,rfl,(AZ h).symm⟩
def zlS(v w z:PV)(h:yw .mul v w=AA z):∃i j,v=.int i/\w=.int j/\ydt i j/\z=.int (i*j):=by
 unfold yw at h;split at h<;>first|(cases h;done)|skip
 rename_i i j;erw[IC.binI]at h;split at h
 .rename_i c;refine⟨i,j,rfl,rfl,?_,(AZ h).symm⟩;erw[yaC,DE,decide_eq_true_eq]at c;unfold ydt;rcases c with c|c
  .left;constructor<;>lia
  .right;constructor<;>lia
 .cases h
def zjW(v w z:PV)(h:yw .fdiv v w=AA z):∃i j,v=.int i/\w=.int j/\ydu i j/\z=.int (i/j):=by
 unfold yw at h;split at h<;>first|(cases h;done)|skip
 rename_i i j;erw[IC.binI]at h;split at h
 .rename_i c;exact⟨i,j,rfl,rfl,c,(AZ h).symm⟩
 .cases h
def zmv(v w z:PV)(h:yw .mod v w=AA z):∃i j,v=.int i/\w=.int j/\0<j/\z=.int (i%j):=by
 unfold yw at h;split at h<;>first|(cases h;done)|skip
 rename_i i j;erw[IC.binI]at h;split at h
 .rename_i c;exact⟨i,j,rfl,rfl,c,(AZ h).symm⟩
 .cases h
def zlU(v w z:PV)(h:yw .pow v w=AA z):∃i j,v=.int i/\w=.int j/\ydL i j/\z=.int (i^j.toNat):=by
 unfold yw at h;split at h<;>first|(cases h;done)|skip
 rename_i i j;erw[IC.binI]at h;split at h
 .rename_i c;exact⟨i,j,rfl,rfl,⟨c.1,c.2.1,by have:=c.2.2;lia⟩,(AZ h).symm⟩
 .cases h
def zl8(v w z:PV)(h:yw .shl v w=AA z):∃i j,v=.int i/\w=.int j/\ydL i j/\z=.int (i*2^j.toNat):=by
 unfold yw at h;split at h<;>first|(cases h;done)|skip
 rename_i i j;erw[IC.binI]at h;split at h
 .rename_i c;exact⟨i,j,rfl,rfl,⟨c.1,c.2.1,by have:=c.2.2;lia⟩,(AZ h).symm⟩
 .cases h
def zlr(v w z:PV)(h:yw .shr v w=AA z):∃i j,v=.int i/\w=.int j/\0<=j/\z=.int (i/2^j.toNat):=by
 unfold yw at h;split at h<;>first|(cases h;done)|skip
 rename_i i j;erw[IC.binI]at h;split at h
 .rename_i c;exact⟨i,j,rfl,rfl,c,(AZ h).symm⟩
 .cases h
def zjM(v w z:PV)(h:yw .band v w=AA z):∃i j,v=.int i/\w=.int j/\z=.int (Aw i j):=by
 unfold yw at h;split at h<;>first|(cases h;done)|skip
 exact⟨_,_,rfl,rfl,(AZ h).symm⟩
def zlz(v w z:PV)(h:yw .bor v w=AA z):∃i j,v=.int i/\w=.int j/\z=.int (Av i j):=by
 unfold yw at h;split at h<;>first|(cases h;done)|skip
 exact⟨_,_,rfl,rfl,(AZ h).symm⟩
def zj4(v w z:PV)(h:yw .bxor v w=AA z):∃i j,v=.int i/\w=.int j/\z=.int (BS i j):=by
 unfold yw at h;split at h<;>first|(cases h;done)|skip
 exact⟨_,_,rfl,rfl,(AZ h).symm⟩
def zo6:OpR X (binaryOp .Sub) (rT2 S X (yw .sub)):=zcX zm8 zmH
def znV:OpR X (binaryOp .Mult) (rT2 S X (yw .mul)):=zcu zm1 zlS
def zlL:OpR X (binaryOp .FloorDiv) (rT2 S X (yw .fdiv)):=zcu zjC zjW
def zoi:OpR X (binaryOp .Mod) (rT2 S X (yw .mod)):=zcu zox zmv
def zm5:OpR X (binaryOp .Pow) (rT2 S X (yw .pow)):=zcu zmZ zlU
def zoy:OpR X (binaryOp .LShift) (rT2 S X (yw .shl)):=zcu znl zl8
def zou:OpR X (binaryOp .RShift) (rT2 S X (yw .shr)):=zcu zpm zlr
def zmp:OpR X (binaryOp .BitAnd) (rT2 S X (yw .band)):=zcX zmX zjM
def zm9:OpR X (binaryOp .BitOr) (rT2 S X (yw .bor)):=zcX zpZ zlz
def zmS:OpR X (binaryOp .BitXor) (rT2 S X (yw .bxor)):=zcX zoF zj4
def zD:sizeMax=sizeLine:=by rw[Dh];rfl
def zl6:OpR X (binaryOp .Add) (λx y H Q=>∃a b ys,x=.ref a/\y=.ref b/\SqT X.K H a []/\SqT X.K H b ys/\Q (.ref b) H):=by
 intro π s σ H x y v u Q I rx ry h;let⟨a,b,ys,rfl,rfl,ha,hb,q⟩:=h
 cases rx
 cases ry
 let⟨its,r1,p1,_⟩:=I.tuple ha;let⟨its2,r2,p2,_⟩:=I.tuple hb;have:its=[]:=r1.nil_iff.mpr rfl;subst this;let⟨⟨cls,dd,data,sl⟩,ho,hc,n,hd⟩:=id p1;let⟨⟨cls2,dd2,data2,sl2⟩,ho2,hc2,n2,hd2⟩:=id p2;simp only at hc hd hc2 hd2;subst hc hd hc2 hd2;exact Fx ⟨_,ho,rfl⟩ ⟨_,ho2,rfl⟩ Ei F9 DM DI (DA _ _)
   (tuple_addW0 a b [].toArray its2.toArray n n2 dd dd2 sl sl2 (by simp)) ⟨ho,ho2,⟨.ref b,H,I,rfl,q⟩⟩
def znr:OpR X (binaryOp .Add) (rT2 S X (yw .add)):=by
 rintro π s σ H x y v u Q I rx ry ⟨B,φ,st,a,b,z,rs,ra,rb,e,q⟩
 unfold yw at e;split at e
 .rename_i i j;erw[yg]at ra rb;subst ra rb
  cases e
  exact zoP π s σ H _ _ v u Q I rx ry ⟨i,j,rfl,rfl,q _ H φ .rfl rs (by erw[yg])⟩
 .rename_i i k;erw[yg]at ra rb;subst ra rb
  cases e
  exact ziP π s σ H _ _ v u Q I rx ry ⟨i,k,rfl,rfl,q _ H φ .rfl rs (by erw[yg];cases k<;>rfl)⟩
 .rename_i i j;erw[yg]at ra rb;subst ra rb;dsimp only at e;split at e
  .rename_i c
   cases e
   exact zg4 π s σ H _ _ v u Q I rx ry ⟨i,j,rfl,rfl,by rw[<-zD];exact c,q _ H φ .rfl rs (by erw[yg])⟩
  .cases e
 .rename_i k1 vs k2 ws;erw[yg]at ra rb;let⟨p,xs,rfl,r1,l1⟩:=ra;let⟨p',ys,rfl,r2,l2⟩:=rb;dsimp only at e;split at e
  .rename_i c
   cases e
   have n1:=l1.length;have n2:=l2.length;unfold yd1 at q
   cases vs with
   |nil=>
    have:xs=[]:=by cases xs with|nil=>rfl|cons _ _=>simp at n1
    subst this;refine zl6 π s σ H _ _ v u Q I rx ry ⟨p,p',ys,rfl,rfl,r1.sq,r2.sq,q _ H φ .rfl rs ?_⟩;erw[GU,if_true,yg];exact⟨p',ys,rfl,r2,l2⟩
   |cons v1 vr=>
    erw[GG,BJ,if_false]at q;refine zlO π s σ H _ _ v u Q I rx ry ⟨p,p',xs,ys,rfl,rfl,r1.sq,r2.sq,?_,by rw[<-zD];lia,λz=>?_,λz t ht=>?_⟩
    .rintro rfl
     simp at n1
    .subst z;have:ws=[]:=by cases ws with|nil=>rfl|cons _ _=>simp at n2
     subst this;erw[GU,if_true]at q;refine q _ H φ .rfl rs ?_;erw[yg];exact⟨p,xs,rfl,r1,l1⟩
    .cases ws with
     |nil=>exact absurd (List.length_eq_zero_iff.mp n2.symm) z
     |cons w1 wr=>
      erw[GG,BJ,if_false]at q;exact q _ _ φ (.upd ht) (rs.upd ht) (.tup_new ht rs (l1.append l2))
  .cases e
 .rename_i vs ws;erw[yg]at ra rb;let⟨p,xs,rfl,r1,l1⟩:=ra;let⟨p',ys,rfl,r2,l2⟩:=rb;dsimp only at e;split at e
  .rename_i c
   cases e
   have n1:=l1.length;have n2:=l2.length;exact znM π s σ H _ _ v u Q I rx ry ⟨p,p',xs,ys,rfl,rfl,r1.1,r2.1,by rw[<-zD];lia,λt ht=>q _ _ φ (.upd ht) (rs.upd ht) (.lst_new ht rs (l1.append l2))⟩
  .cases e
 .cases e
end
mutual
noncomputable def toD:PV->PyData
 |.non=>.none
 |.bl b=>.bool b
 |.int i=>.int i
 |.str x=>.str x
 |.tp _ xs=>.tuple (ybC xs)
 |.lst xs=>.list (ybC xs)
 |_=>.none
noncomputable def ybC:List PV->List PyData
 |[]=>[]
 |x::xs=>toD x::ybC xs
end
mutual
theorem zh8:∀(v:PV) (n:Nat),shd n v=AB->(toD v).canLay0=AB/\(toD v).depth<=n
 |.non,n,h=>by simp[toD,Co,DR]
 |.bl b,n,h=>by simp[toD,Co,DR]
 |.int i,n,h=>by simp[toD,Co,DR]
 |.str x,n,h=>by
  erw[shd]at h;erw[toD,Co,DR,DH,and_true];exact h
 |.tp _ xs,n,h=>by
  erw[shd,AK,decide_eq_true_eq]at h;let⟨q1,q2⟩:=zes xs (n-1) h.2;erw[toD,Co,DR];exact⟨q1,by lia⟩
 |.lst xs,n,h=>by
  erw[shd,AK,decide_eq_true_eq]at h;let⟨q1,q2⟩:=zes xs (n-1) h.2;erw[toD,Co,DR];exact⟨q1,by lia⟩
 |.loc k,n,h=>by simp[shd]at h
 |.exn k,n,h=>by simp[shd]at h
 |.scr xs,n,h=>by simp[shd]at h
theorem zes:∀(v:List PV) (n:Nat),ybq n v=AB->EY (ybC v)=AB/\FG (ybC v)<=n
 |[],n,h=>by simp[ybC,EY,FG]
 |v::vs,n,h=>by
  erw[ybq,AK]at h;let⟨q1,q2⟩:=zh8 v n h.1;let⟨q3,q4⟩:=zes vs n h.2;erw[ybC,EY,FG,AK];exact⟨⟨q1,q3⟩,by lia⟩
end
def zbC{v:PV}(h:shp v=AB):HJ (toD v)=true:=by
 let⟨q1,q2⟩:=zh8 v 60 h;unfold HJ;rw[q1,DB,decide_eq_true_eq];lia
mutual
theorem zfS:∀(v w:PV) (n m:Nat),shd n v=AB->shd m w=AB->B7 (toD v) (toD w)=peq v w
 |.non,w,n,m,h,q=>by cases w<;>simp_all[toD,B7,peq,shd]
 |.bl b,w,n,m,h,q=>by cases w<;>simp_all[toD,B7,peq,shd,bi]
 |.int i,w,n,m,h,q=>by cases w<;>simp_all[toD,B7,peq,shd,bi]
 |.str x,w,n,m,h,q=>by cases w<;>simp_all[toD,B7,peq,shd]
 |.tp _ xs,.tp _ ys,n,m,h,q=>by
  erw[shd,AK]at h q;erw[toD,B7,peq];exact zep xs ys (n-1) (m-1) h.2 q.2
 |.lst xs,.lst ys,n,m,h,q=>by
  erw[shd,AK]at h q;erw[toD,B7,peq];exact zep xs ys (n-1) (m-1) h.2 q.2
 |.tp _ xs,.non,n,m,h,q=>by simp[toD,B7,peq]
 |.tp _ xs,.bl _,n,m,h,q=>by simp[toD,B7,peq]
 |.tp _ xs,.int _,n,m,h,q=>by simp[toD,B7,peq]
 |.tp _ xs,.str _,n,m,h,q=>by simp[toD,B7,peq]
 |.tp _ xs,.lst _,n,m,h,q=>by simp[toD,B7,peq]
 |.lst xs,.non,n,m,h,q=>by simp[toD,B7,peq]
 |.lst xs,.bl _,n,m,h,q=>by simp[toD,B7,peq]
 |.lst xs,.int _,n,m,h,q=>by simp[toD,B7,peq]
 |.lst xs,.str _,n,m,h,q=>by simp[toD,B7,peq]
 |.lst xs,.tp _ _,n,m,h,q=>by simp[toD,B7,peq]
 |.loc k,w,n,m,h,q=>by simp[shd]at h
 |.exn k,w,n,m,h,q=>by simp[shd]at h
 |.scr k,w,n,m,h,q=>by simp[shd]at h
 |v,.loc k,n,m,h,q=>by simp[shd]at q
 |v,.exn k,n,m,h,q=>by simp[shd]at q
 |v,.scr k,n,m,h,q=>by simp[shd]at q
theorem zep:∀(v w:List PV) (n m:Nat),ybq n v=AB->ybq m w=AB->D9 (ybC v) (ybC w)=ybg v w
 |[],[],n,m,h,q=>by simp[ybC,D9,ybg]
 |[],y::ys,n,m,h,q=>by simp[ybC,D9,ybg]
 |x::xs,[],n,m,h,q=>by simp[ybC,D9,ybg]
 |x::xs,y::ys,n,m,h,q=>by
  erw[ybq,AK]at h q;erw[ybC,D9,ybg];rw[zfS x y n m h.1 q.1,zep xs ys n m h.2 q.2]
end
section
variable {S:Se}{X:Cx}{σ:St}{B:AI->Prop}{φ φ1:Ph}{H H1:Hp}{st:SO}{π:List (AI×CF)}{s:AJ}
mutual
theorem zb6(I:Inv X π σ H s):∀(v:PV) (n:Nat) (x:V) (u:AG),shd n v=AB->yg X.K S.cl B φ H v x->RelV x u->∃as,Reads s.heap u (toD v) as
 |.non,n,x,u,h,r,q=>by
  erw[yg]at r;subst r;cases (show u=CL from q);exact⟨_,.none⟩
 |.bl b,n,x,u,h,r,q=>by
  erw[yg]at r;subst r;cases (show u=EA b from q);exact⟨_,.bool b⟩
 |.int i,n,x,u,h,r,q=>by
  erw[yg]at r;subst r;let⟨t,rfl⟩:=q;exact⟨_,.int i t⟩
 |.str y,n,x,u,h,r,q=>by
  erw[yg]at r;subst r;let⟨t,rfl⟩:=q;exact⟨_,.str y t⟩
 |.tp _ vs,n,x,u,h,r,q=>by
  erw[yg]at r;let⟨a,xs,rfl,rt,l⟩:=r
  cases (show u=Al a from q)
  erw[shd,AK]at h;let⟨its,rv,⟨o,g,c,k,d⟩,_⟩:=I.tuple rt.sq;let⟨as,z⟩:=zc6 I vs (n-1) xs its h.2 l rv;exact⟨as,.tuple g c d (by simpa using z)⟩
 |.lst vs,n,x,u,h,r,q=>by
  erw[yg]at r;let⟨a,xs,rfl,rt,l⟩:=r
  cases (show u=Al a from q)
  erw[shd,AK]at h;let⟨its,rv,⟨o,k,g,c,_,d⟩,_⟩:=I.list (rt.sq (K:=X.K));let⟨as,z⟩:=zc6 I vs (n-1) xs its h.2 l rv;exact⟨_,.list g c d (by simpa using z)⟩
 |.loc k,n,x,u,h,r,q=>by simp[shd]at h
 |.exn k,n,x,u,h,r,q=>by simp[shd]at h
 |.scr k,n,x,u,h,r,q=>by simp[shd]at h
theorem zc6(I:Inv X π σ H s):∀(v:List PV) (n:Nat) (x:List V) (u:List AG),ybq n v=AB->yj X.K S.cl B φ H v x->Vals x u->∃as,ReadsAll s.heap u (ybC v) as
 |[],n,x,u,h,r,q=>by
  erw[yj]at r;subst r;cases q;exact⟨_,.nil⟩
 |v::vs,n,x,u,h,r,q=>by
  erw[yj]at r;let⟨y,ys,rfl,rv,l⟩:=r;erw[ybq,AK]at h
  cases q with
  |cons q1 q2=>
   let⟨as,z1⟩:=zb6 I v n y _ h.1 rv q1;let⟨bs,z2⟩:=zc6 I vs n ys _ h.2 l q2;exact⟨_,.cons z1 z2⟩
end
def zpH(hu:X.A.units+64<cLine):OpR X (compareOp .Eq) (rT2 S X (yG .eq)):=by
 rintro π s σ H x y v u Q I rx ry ⟨B,φ,st,a,b,z,rs,ra,rb,e,q⟩
 erw[yG]at e;split at e
 .rename_i c;rw[AK]at c
  cases e
  let⟨as,z1⟩:=zb6 (S:=S) I a 60 x v c.1 ra rx;let⟨bs,z2⟩:=zb6 (S:=S) I b 60 y u c.2 rb ry;refine eq_dataH z1 z2 (zbC c.1) (zbC c.2) hu ⟨.bl _,H,I,rfl,?_⟩;rw[zfS a b 60 60 c.1 c.2];exact q _ H φ .rfl rs (by erw[yg])
 .cases e
def zp9(hu:X.A.units+64<cLine):OpR X (compareOp .NotEq) (rT2 S X (yG .ne)):=by
 rintro π s σ H x y v u Q I rx ry ⟨B,φ,st,a,b,z,rs,ra,rb,e,q⟩
 erw[yG]at e;split at e
 .rename_i c;rw[AK]at c
  cases e
  let⟨as,z1⟩:=zb6 (S:=S) I a 60 x v c.1 ra rx;let⟨bs,z2⟩:=zb6 (S:=S) I b 60 y u c.2 rb ry;refine ne_dataH z1 z2 (zbC c.1) (zbC c.2) hu ⟨.bl _,H,I,rfl,?_⟩;rw[zfS a b 60 60 c.1 c.2];exact q _ H φ .rfl rs (by erw[yg])
 .cases e
def zh9{f:AG->AG->Gw AG}{o:COp}{g:Int->Int->Bool}(h:OpR X f (rI0 λi j=>.bl (g i j)))
  (hb:∀v w z,yG o v w=AA z->∃i j,v=.int i/\w=.int j/\z=.bl (g i j)):OpR X f (rT2 S X (yG o)):=by
 rintro π s σ H x y v u Q I rx ry ⟨B,φ,st,a,b,z,rs,ra,rb,e,q⟩
 let⟨i,j,rfl,rfl,rfl⟩:=hb a b z e;erw[yg]at ra rb;subst ra rb;exact h π s σ H _ _ v u Q I rx ry ⟨i,j,rfl,rfl,q _ H φ .rfl rs (by erw[yg])⟩
def ziB:OpR X (compareOp .LtE) (λx y H Q=>∃i j,x=.str i/\y=.str j/\Q (.bl (!decide (j.cps.toList<i.cps.toList))) H):=by
 intro π s σ H x y v u Q I rx ry h;let⟨i,j,rfl,rfl,q⟩:=h;let⟨t,rfl⟩:=rx;let⟨t',rfl⟩:=ry;exact PySem.P.le_str (ziH I q rfl)
def zpB:OpR X (compareOp .Lt) (rT2 S X (yG .lt)):=by
 rintro π s σ H x y v u Q I rx ry ⟨B,φ,st,a,b,z,rs,ra,rb,e,q⟩
 erw[yG]at e;split at e
 .rename_i i j;erw[yg]at ra rb;subst ra rb
  cases e
  exact zpu π s σ H _ _ v u Q I rx ry ⟨i,j,rfl,rfl,q _ H φ .rfl rs (by erw[yg])⟩
 .rename_i i j;erw[yg]at ra rb;subst ra rb
  cases e
  exact zid π s σ H _ _ v u Q I rx ry ⟨i,j,rfl,rfl,q _ H φ .rfl rs (by erw[yg])⟩
 .cases e
def zps:OpR X (compareOp .LtE) (rT2 S X (yG .le)):=by
 rintro π s σ H x y v u Q I rx ry ⟨B,φ,st,a,b,z,rs,ra,rb,e,q⟩
 erw[yG]at e;split at e
 .rename_i i j;erw[yg]at ra rb;subst ra rb
  cases e
  exact zp2 π s σ H _ _ v u Q I rx ry ⟨i,j,rfl,rfl,q _ H φ .rfl rs (by erw[yg])⟩
 .rename_i i j;erw[yg]at ra rb;subst ra rb
  cases e
  exact ziB π s σ H _ _ v u Q I rx ry ⟨i,j,rfl,rfl,q _ H φ .rfl rs (by erw[yg])⟩
 .cases e
def zf9{o:COp}{g:Int->Int->Bool}(ho:∀v w,yG o v w=match v,w with
   |.int i,.int j=>ybH o i j
   |.str a,.str b=>yeV o a b
   |_,_=>AD) (hs:∀a b,yeV o a b=AD) (hg:∀i j,ybH o i j=AA (.bl (g i j))) (v w z:PV) (h:yG o v w=AA z):∃i j,v=.int i/\w=.int j/\z=.bl (g i j):=by
 rw[ho]at h;split at h
 .rename_i i j;rw[hg]at h;exact⟨i,j,rfl,rfl,(AZ h).symm⟩
 .rw[hs]at h;cases h
 .cases h
def zp4:OpR X (compareOp .Gt) (rT2 S X (yG .gt)):=zh9 zpK (zf9 (λ_ _=>rfl) (λ_ _=>rfl) λ_ _=>rfl)
def zp0:OpR X (compareOp .GtE) (rT2 S X (yG .ge)):=zh9 zpE (zf9 (λ_ _=>rfl) (λ_ _=>rfl) λ_ _=>rfl)
theorem yg.isNon{K:AF}{cl:Nat->AI}{v:PV}{x:V}(r:yg K cl B φ H v x):decide (x=.non)=IC.isNon v:=by
 cases v with
 |loc n=>erw[yg]at r;let⟨_,a,rfl,_⟩:=r;rfl
 |non=>erw[yg]at r;subst r;rfl
 |bl b=>erw[yg]at r;subst r;rfl
 |int b=>erw[yg]at r;subst r;rfl
 |str b=>erw[yg]at r;subst r;rfl
 |tp k vs=>erw[yg]at r;let⟨a,xs,rfl,_⟩:=r;rfl
 |lst vs=>erw[yg]at r;let⟨a,xs,rfl,_⟩:=r;rfl
 |exn vs=>erw[yg]at r;let⟨a,rfl,_⟩:=r;rfl
 |scr vs=>erw[yg]at r;let⟨a,xs,rfl,_⟩:=r;rfl
theorem yg.flat{K:AF}{cl:Nat->AI}{v:PV}{x:V}(r:yg K cl B φ H v x)(h:IC.flat v=AB):ya3 x=AB/\∀(w:PV) (y:V),IC.flat w=AB->yg K cl B φ H w y->eqV x y=peq v w:=by
 cases v with
 |non=>
  erw[yg]at r;subst r;refine⟨rfl,λw y hw rw=>?_⟩
  cases w<;>first|(simp[IC.flat]at hw;done)|(erw[yg]at rw;subst rw;simp[eqV,peq,bi])
 |bl b=>
  erw[yg]at r;subst r;refine⟨rfl,λw y hw rw=>?_⟩
  cases w<;>first|(simp[IC.flat]at hw;done)|(erw[yg]at rw;subst rw;simp[eqV,peq,bi])
 |int b=>
  erw[yg]at r;subst r;refine⟨rfl,λw y hw rw=>?_⟩
  cases w<;>first|(simp[IC.flat]at hw;done)|(erw[yg]at rw;subst rw;simp[eqV,peq,bi])
 |str b=>
  erw[yg]at r;subst r;refine⟨rfl,λw y hw rw=>?_⟩
  cases w<;>first|(simp[IC.flat]at hw;done)|(erw[yg]at rw;subst rw;simp[eqV,peq,bi])
 |_=>simp[IC.flat]at h
def zfG{K:AF}{cl:Nat->AI}{v:PV}{x:V}(r:yg K cl B φ H v x)(h:IC.flat v=AB):∀{vs:List PV} {xs:List V},yj K cl B φ H vs xs->vs.all IC.flat=AB->xs.all ya3=AB/\inV x xs=inL v vs
 |[],xs,l,_=>by erw[yj]at l;subst l;exact⟨rfl,rfl⟩
 |w::vs,xs,l,f=>by
  erw[yj]at l;let⟨y,ys,rfl,rw,l⟩:=l;rw[Bc,AK]at f;let⟨q1,q2⟩:=zfG r h l f.2;let⟨q3,q4⟩:=rw.flat f.1;refine⟨by rw[Bc,q3,q1];rfl,?_⟩;unfold inV at q2 ⊢;rw[BP,q2,q4 v x h r];rfl
end
def zlK(a b:AQ):(!(Ef b a 0 b.length 1).isEmpty)=inS a b:=by
 rw[Do,StrLaws.found_iff];unfold inS;rw[Ek];constructor
 .rintro⟨i,h1,h2⟩
  exact⟨i,by rw[Gf];lia,by rw[AK,decide_eq_true_eq];exact⟨h1,h2⟩⟩
 .rintro⟨i,_,h⟩
  rw[AK,decide_eq_true_eq]at h;exact⟨i,h.1,h.2⟩
section
variable {S:Se}{X:Cx}{σ:St}{B:AI->Prop}{φ φ1:Ph}{H H1:Hp}{st:SO}
def zpX:OpR X (compareOp .In) (rT2 S X (yG .isin)):=by
 rintro π s σ H x y v u Q I rx ry ⟨B,φ,st,a,b,z,rs,ra,rb,e,q⟩
 erw[yG]at e;split at e
 .rename_i i j;erw[yg]at ra rb;subst ra rb
  cases e
  exact zhn π s σ H _ _ v u Q I rx ry ⟨i,j,rfl,rfl,by rw[zlK];exact q _ H φ .rfl rs (by erw[yg])⟩
 .rename_i l;split at e
  .rename_i c;rw[AK]at c
   cases e
   erw[yg]at rb;let⟨p,xs,rfl,r,l'⟩:=rb;let⟨q1,q2⟩:=zfG ra c.1 l' c.2;exact zfk π s σ H _ _ v u Q I rx ry ⟨p,xs,rfl,.inr r.sq,(ra.flat c.1).1,q1,q _ H φ .rfl rs (by erw[yg];rw[<-q2];rfl)⟩
  .cases e
 .rename_i l;split at e
  .rename_i c;rw[AK]at c
   cases e
   erw[yg]at rb;let⟨p,xs,rfl,r,l'⟩:=rb;let⟨q1,q2⟩:=zfG ra c.1 l' c.2;exact zfk π s σ H _ _ v u Q I rx ry ⟨p,xs,rfl,.inl r.sq,(ra.flat c.1).1,q1,q _ H φ .rfl rs (by erw[yg];rw[<-q2];rfl)⟩
  .cases e
 .cases e
theorem yj.empty{K:AF}{cl:Nat->AI}{vs:List PV}{xs:List V}(l:yj K cl B φ H vs xs):vs.isEmpty=xs.isEmpty:=by
 have:=l.length
 cases vs<;>cases xs<;>simp_all
def zlR{K:AF}{cl:Nat->AI}{v:PV}{x:V}{k:Bool}(rs:yE K cl B φ H st)(r:yg K cl B φ H v x)(h:yaL st v=AA k):yeA K x H k:=by
 cases v with
 |non=>erw[yg]at r;subst r;cases h;rfl
 |bl b=>erw[yg]at r;subst r;cases h;rfl
 |int b=>erw[yg]at r;subst r;cases h;rfl
 |str b=>
  erw[yg]at r;subst r;erw[yaL]at h;split at h
  .rename_i c
   cases h
   exact⟨by rw[<-zD];exact c,rfl⟩
  .cases h
 |tp k vs=>
  erw[yg]at r;let⟨a,xs,rfl,rt,l⟩:=r
  cases h
  exact .inr (.inl ⟨xs,rt.sq,by rw[l.empty]⟩)
 |lst vs=>
  erw[yg]at r;let⟨a,xs,rfl,rt,l⟩:=r
  cases h
  exact .inl ⟨xs,rt.sq,by rw[l.empty]⟩
 |loc n=>
  erw[yg]at r;let⟨hn,a,rfl,ha⟩:=r;erw[yaL]at h;split at h
  .rename_i vs hv
   cases h
   let⟨b,hb⟩:=rs.liv n _ hv (by intro z;cases z);obtain rfl:=ha b hb;let⟨o,ho,ro⟩:=rs.obj n b hb;rw[hv]at ho;cases ho;let⟨xs,hx,l⟩:=ro;exact .inl ⟨xs,.of hx,by rw[l.empty]⟩
  .cases h
 |exn c=>cases h
 |scr c=>cases h
end
theorem R.bind_assoc{α β γ:Type}{r:R α}{k:α->SO->R β}{l:β->SO->R γ}:(r.bind k).bind l=r.bind λa s=>(k a s).bind l:=by
 cases r<;>rfl
section
variable {S:Se}{X:Cx}{σ:St}{B:AI->Prop}{φ φ1:Ph}{H H1:Hp}{st:SO}{ρ:IC.Env}{pos:CV}{a b c d:AV}{ca cb cc:Ce}{es:List AV}{ces:Ces}
def zem{o:COp}{v w z:PV}(h:yG o v w=AA z):∃k,z=.bl k:=by
 cases o<;>erw[yG]at h
 all_goals (repeat' split at h)<;>first|(cases h;done)|(cases h;exact⟨_,rfl⟩)|skip
 all_goals (erw[ybH]at h;cases h;exact⟨_,rfl⟩)
def zn9{op:F8}{o:COp}(ho:OpR X (compareOp op) (rT2 S X (yG o)))(ha:PE X a (tE S X ca))(hb:PE X b (tE S X cb))(hm:behindInMarks op b=AC):PT X (.Compare a [op] [b] pos) (tTs S X (.cmp o ca cb)):=
 (zlY ho ha hb hm).imp λσ H Q ⟨B,φ,st,ρ,rs,re,h⟩=>by
  erw[ev,ya7,R.bind_assoc]at h;refine tE.bind rs re h λx H1 v st1 φ1 s1 rs1 re1 rv h1=>tE.bind rs1 re1 h1 λy H2 w st2 φ2 s2 rs2 re2 rw h2=>?_
  cases e:yG o v w with
  |none=>rw[e]at h2;exact h2.elim
  |some z=>
   let⟨k,rfl⟩:=zem e;rw[e]at h2;refine⟨B,φ2,st2,v,w,.bl k,rs2,rv.step s2,rw,e,λz' H' φ' s' rs' rz=>?_⟩;erw[yg]at rz;exact⟨k,rz,h2 k H' φ' s' rs' rfl⟩
def zob(ha:PE X a (tE S X ca))(he:∀whole,isTrue a X.env whole=(do let v <-whole;standAt a.pos;holding [v] (truthy v)):=by intro _;rfl):PT X a (tTs S X ca):=
 (zjX ha he).imp λσ H Q ⟨B,φ,st,ρ,rs,re,h⟩=>by
  erw[ya7]at h;refine tE.bind rs re h λx H1 v st1 φ1 s1 rs1 re1 rv h1=>?_
  cases e:yaL st1 v with
  |none=>rw[e]at h1;exact h1.elim
  |some k=>
   rw[e]at h1;exact⟨k,zlR rs1 rv e,h1.ok rs1 rfl⟩
theorem tTs.bind{γ δ:Type}{HI:Ph->Hp->γ->δ->Prop}{k:Bool->SO->R γ}{Q:δ->Hp->Prop}{P:Bool->Hp->Prop}(rs:yE X.K S.cl B φ H st)(re:yM X.K S.cl B φ H ρ σ)(h:Run S X σ B φ H HI ((ya7 (ev S.call ρ st ca)).bind k) Q)
  (n:∀b H1 st1 φ1,Step φ H φ1 H1->yE X.K S.cl B φ1 H1 st1->yM X.K S.cl B φ1 H1 ρ σ->Run S X σ B φ1 H1 HI (k b st1) Q->P b H1):tTs S X ca σ H P:=
 ⟨B,φ,st,ρ,rs,re,(Run.bind h).mono λx H1 ⟨v,st1,φ1,s,rs1,rv,h1⟩=>by
  subst rv;exact n v H1 st1 φ1 s rs1 (re.step s) h1⟩
def zfY(r:R PV)(f:Bool->SO->R PV):ya7 (r.bind λx st1=>onBl x λb=>f b st1)=r.bind λx st1=>onBl x λb=>ya7 (f b st1):=by
 unfold ya7;rw[R.bind_assoc]
 congr 1
 funext x st1
 cases x<;>rfl
theorem Run.bl_tru{r:R PV}{k:Bool->SO->R Bool}{Q:Bool->Hp->Prop}(h:Run S X σ B φ H RB (r.bind λx st1=>onBl x λb=>k b st1) Q):Run S X σ B φ H RB ((ya7 r).bind k) Q:=by
 cases r with
 |bad=>exact h
 |exc c s=>exact h
 |ok v s=>
  cases v with
  |bl b=>exact h
  |_=>exact h.elim
def zmW(ha:PT X a (tTs S X ca)):PT X (.UnaryOp .Not a pos) (tTs S X (.not ca)):=
 (znZ ha).imp λσ H Q ⟨B,φ,st,ρ,rs,re,h⟩=>by
  erw[ev]at h;rw[zfY _ λk st1=>.ok (.bl (!k)) st1]at h;exact tTs.bind rs re (Run.bl_tru (k:=λb st1=>.ok (!b) st1) h) λb H1 st1 φ1 s1 rs1 re1 h1=>h1.ok rs1 rfl
variable {rest:List AV}
def zld(ha:PT X a (tTs S X ca)):PW X (.BoolOp .And [a] pos) (tTs S X ca):=zlZ ha
def zpg(ha:PT X a (tTs S X ca)):PW X (.BoolOp .Or [a] pos) (tTs S X ca):=zoB ha
def zon(ha:PT X a (tTs S X ca))(hb:PW X (.BoolOp .And (b::rest) pos) (tTs S X cb)):PW X (.BoolOp .And (a::b::rest) pos) (tTs S X (.and ca cb)):=
 (znv ha hb).imp λσ H Q ⟨B,φ,st,ρ,rs,re,h⟩=>by
  erw[ev]at h;rw[zfY _ λk st1=>cond k (ev S.call ρ st1 cb) (.ok (.bl AC) st1)]at h;refine tTs.bind rs re (Run.bl_tru h) λk H1 st1 φ1 s1 rs1 re1 h1=>?_
  cases k with
  |false=>exact h1.ok rs1 rfl
  |true=>exact⟨B,φ1,st1,ρ,rs1,re1,h1⟩
def zpw(ha:PT X a (tTs S X ca))(hb:PW X (.BoolOp .Or (b::rest) pos) (tTs S X cb)):PW X (.BoolOp .Or (a::b::rest) pos) (tTs S X (.or ca cb)):=
 (zpO ha hb).imp λσ H Q ⟨B,φ,st,ρ,rs,re,h⟩=>by
  erw[ev]at h;rw[zfY _ λk st1=>cond k (.ok (.bl AB) st1) (ev S.call ρ st1 cb)]at h;refine tTs.bind rs re (Run.bl_tru h) λk H1 st1 φ1 s1 rs1 re1 h1=>?_
  cases k with
  |true=>exact h1.ok rs1 rfl
  |false=>exact⟨B,φ1,st1,ρ,rs1,re1,h1⟩
def zkU{op:HK}(h:PE X a (tE S X ca)):PE X (.BoolOp op [a] pos) (tE S X ca):=zoa h
def zkS(ha:PE X a (tE S X ca))(hb:PE X (.BoolOp .And (b::rest) pos) (tE S X cb)):PE X (.BoolOp .And (a::b::rest) pos) (tE S X (.and ca cb)):=
 (zoM ha hb).imp λσ H Q ⟨B,φ,st,ρ,rs,re,h⟩=>by
  erw[ev]at h;refine tE.bind rs re h λx H1 v st1 φ1 s1 rs1 re1 rv h1=>?_
  cases v with
  |bl k=>
   erw[yg]at rv;refine⟨k,rv,?_⟩
   cases k with
   |true=>exact⟨B,φ1,st1,ρ,rs1,re1,h1⟩
   |false=>exact h1.ok rs1 (by erw[yg])
  |_=>exact h1.elim
def zoj(ha:PE X a (tE S X ca))(hb:PE X (.BoolOp .Or (b::rest) pos) (tE S X cb)):PE X (.BoolOp .Or (a::b::rest) pos) (tE S X (.or ca cb)):=
 (zpV ha hb).imp λσ H Q ⟨B,φ,st,ρ,rs,re,h⟩=>by
  erw[ev]at h;refine tE.bind rs re h λx H1 v st1 φ1 s1 rs1 re1 rv h1=>?_
  cases v with
  |bl k=>
   erw[yg]at rv;refine⟨k,rv,?_⟩
   cases k with
   |false=>exact⟨B,φ1,st1,ρ,rs1,re1,h1⟩
   |true=>exact h1.ok rs1 (by erw[yg])
  |_=>exact h1.elim
def zod(ha:PE X a (tE S X ca)):PE X (.UnaryOp .Not a pos) (tE S X (.not ca)):=
 (zot ha).imp λσ H Q ⟨B,φ,st,ρ,rs,re,h⟩=>by
  erw[ev]at h;refine tE.bind rs re h λx H1 v st1 φ1 s1 rs1 re1 rv h1=>?_
  cases v with
  |bl k=>
   erw[yg]at rv;exact⟨k,rv,h1.ok rs1 (by erw[yg])⟩
  |_=>exact h1.elim
def zk3(ha:PE X a (tE S X ca)):PE X (.UnaryOp .USub a pos) (tE S X (.neg ca)):=
 (zpR zn2 ha).imp λσ H Q ⟨B,φ,st,ρ,rs,re,h⟩=>by
  erw[ev]at h;refine tE.bind rs re h λx H1 v st1 φ1 s1 rs1 re1 rv h1=>?_;split at h1
  .simp only[yg]at rv;exact⟨_,rv,h1.ok rs1 (by erw[yg])⟩
  .exact h1.elim
def zo7(hc:PT X c (tTs S X cc))(ha:PE X a (tE S X ca))(hb:PE X b (tE S X cb)):PE X (.IfExp c a b pos) (tE S X (.ite cc ca cb)):=
 (zkf hc ha hb).imp λσ H Q ⟨B,φ,st,ρ,rs,re,h⟩=>by
  erw[ev]at h;have e:((ev S.call ρ st cc).bind λx st1=>onO (yaL st1 x) λk=>cond k (ev S.call ρ st1 ca) (ev S.call ρ st1 cb))=(ya7 (ev S.call ρ st cc)).bind λk st1=>cond k (ev S.call ρ st1 ca) (ev S.call ρ st1 cb):=by
   unfold ya7;rw[R.bind_assoc]
   congr 1
   funext x st1
   cases yaL st1 x<;>rfl
  rw[e]at h;refine tTs.bind rs re h λk H1 st1 φ1 s1 rs1 re1 h1=>?_
  cases k with
  |true=>exact⟨B,φ1,st1,ρ,rs1,re1,h1⟩
  |false=>exact⟨B,φ1,st1,ρ,rs1,re1,h1⟩
def zhX:PA X [] (tAs S X .nil):=zj5.imp λσ H Q ⟨B,φ,st,ρ,rs,re,h⟩=>by
 erw[evs]at h;exact h.ok rs (by erw[yj])
def zeR(ha:PE X a (tE S X ca))(hr:PA X es (tAs S X ces))(hs:starEach (a::es) X.env=(AC,eval a X.env)::starEach es X.env:=by rfl):PA X (a::es) (tAs S X (.cons ca ces)):=
 (zbS ha hr hs).imp λσ H Q ⟨B,φ,st,ρ,rs,re,h⟩=>by
  erw[evs]at h;refine tE.bind rs re h λx H1 v st1 φ1 s1 rs1 re1 rv h1=>tAs.bind rs1 re1 h1 λxs H2 vs st2 φ2 s2 rs2 re2 rvs h2=>?_;refine h2.ok rs2 ?_;erw[yj];exact⟨x,xs,rfl,rv.step s2,rvs⟩
def zoh{k:Nat}(h:PA X es (tAs S X ces)):PE X (.Tuple es k pos) (tE S X (.tup ces)):=
 (znT h).imp λσ H Q ⟨B,φ,st,ρ,rs,re,h⟩=>by
  erw[ev]at h;refine tAs.bind rs re h λxs H1 vs st1 φ1 s1 rs1 re1 rv h1=>?_;split at h1
  .rename_i c;refine⟨by rw[<-zD,<-rv.length];exact c,λp hp=>h1 _ _ φ1 (.upd hp) (rs1.upd hp) (.tup_new hp rs1 rv)⟩
  .exact h1.elim
def zoA(h:PA X es (tAs S X ces)):PE X (.List es pos) (tE S X (.lst ces)):=
 (zkL h).imp λσ H Q ⟨B,φ,st,ρ,rs,re,h⟩=>by
  erw[ev]at h;refine tAs.bind rs re h λxs H1 vs st1 φ1 s1 rs1 re1 rv h1=>?_;split at h1
  .rename_i c;refine⟨by rw[<-zD,<-rv.length];exact c,λp hp=>h1 _ _ φ1 (.upd hp) (rs1.upd hp) (.lst_new hp rs1 rv)⟩
  .exact h1.elim
theorem Step.push{p:AI}{o:HO}(hp:H p=AD):Step φ H (φ++[AA p]) (L2.upd H p o):=by
 refine⟨λb u n e=>by rw[zj (zn e hp)];exact e,by simp,λn a hn e=>?_,λb h=>?_⟩
 .rw[Ak hn]at e;exact e
 .rw[BM]at h;rcases h with h|h
  .exact .inl h
  .have:b=p:=by simpa using h
   subst this;exact .inr hp
theorem yE.push{K:AF}{cl:Nat->AI}{p:AI}{u:HO}{o:Ob}(rs:yE K cl B φ H st)(hp:H p=AD)(hb:¬B p)(ho:ycg K cl B (φ++[AA p]) (L2.upd H p u) o p):yE K cl B (φ++[AA p]) (L2.upd H p u) (st++[o]):=by
 have s:Step φ H (φ++[AA p]) (L2.upd H p u):=.push hp;have np:AA p∉φ:=λz=>by
  let⟨w,e⟩:=rs.there z;rw[hp]at e;cases e
 have hl:φ.length=st.length:=rs.len;refine⟨by simp[hl],λm n a e1 e2=>?_,λn a e=>?_,λn o' e ho'=>?_,λa h=>?_,λa h=>?_⟩
 .by_cases hm:m<φ.length
  .rw[Ak hm]at e1
   by_cases hn:n<φ.length
   .rw[Ak hn]at e2;exact rs.inj m n a e1 e2
   .rw[Aq ∅]at e2;have:a=p:=by
     cases q:n-φ.length with
     |zero=>rw[q]at e2;simpa using e2.symm
     |succ k=>rw[q]at e2;simp at e2
    subst this;exact absurd (A5 e1) np
  .rw[Aq ∅]at e1;have:m-φ.length=0/\a=p:=by
    cases q:m-φ.length with
    |zero=>rw[q]at e1;exact⟨rfl,by simpa using e1.symm⟩
    |succ k=>rw[q]at e1;simp at e1
   let⟨q1,rfl⟩:=this
   by_cases hn:n<φ.length
   .rw[Ak hn]at e2;exact absurd (A5 e2) np
   .rw[Aq ∅]at e2;have:n-φ.length=0:=by
     cases q:n-φ.length with
     |zero=>rfl
     |succ k=>rw[q]at e2;simp at e2
    lia
 .by_cases hn:n<φ.length
  .rw[Ak hn]at e;let⟨o',q,r⟩:=rs.obj n a e;refine⟨o',by rw[Ak ∅];exact q,r.step s ?_⟩;rw[zj]
   rintro rfl
   exact np (A5 e)
  .rw[Aq ∅]at e;have:n-φ.length=0/\a=p:=by
    cases q:n-φ.length with
    |zero=>rw[q]at e;exact⟨rfl,by simpa using e.symm⟩
    |succ k=>rw[q]at e;simp at e
   let⟨q1,rfl⟩:=this;refine⟨o,?_,ho⟩;rw[Aq ∅];have:n-st.length=0:=by lia
   rw[this];rfl
 .by_cases hn:n<φ.length
  .rw[Ak ∅]at e;let⟨a,q⟩:=rs.liv n o' e ho';exact⟨a,by rw[Ak hn];exact q⟩
  .rw[Aq ∅]at e;have:n-st.length=0:=by
    cases q:n-st.length with
    |zero=>rfl
    |succ k=>rw[q]at e;simp at e
   refine⟨p,?_⟩;rw[Aq ∅];have:n-φ.length=0:=by lia
   rw[this];rfl
 .rw[BM]at h;rcases h with h|h
  .exact rs.nb a h
  .have:a=p:=by simpa using h
   subst this;exact hb
 .let⟨w,e⟩:=rs.dom a h;exact⟨w,by rw[zj (zn e hp)];exact e⟩
theorem yE.nB{K:AF}{cl:Nat->AI}{p:AI}(rs:yE K cl B φ H st)(hp:H p=AD):¬B p:=λz=>by
 let⟨o,e⟩:=rs.dom p z;rw[hp]at e;cases e
theorem yg.loc_new{K:AF}{cl:Nat->AI}{p:AI}(rs:yE K cl B φ H st):yg K cl B (φ++[AA p]) H1 (.loc st.length) (.ref p):=by
 erw[yg];have hl:=rs.len;refine⟨by simp[hl],p,rfl,λb e=>?_⟩;rw[Aq ∅]at e;have:st.length-φ.length=0:=by lia
 rw[this]at e;simpa using e.symm
def zl0(h:PA X es (tAs S X ces)):PE X (.List es pos) (tE S X (.newl ces)):=
 (zkL h).imp λσ H Q ⟨B,φ,st,ρ,rs,re,h⟩=>by
  erw[ev]at h;refine tAs.bind rs re h λxs H1 vs st1 φ1 s1 rs1 re1 rv h1=>?_;split at h1
  .rename_i c;refine⟨by rw[<-zD,<-rv.length];exact c,λp hp=>h1 _ _ (φ1++[AA p]) (.push hp) (rs1.push hp (rs1.nB hp) ⟨xs,zq,rv.step (.push hp)⟩) (.loc_new rs1)⟩
  .exact h1.elim
end
section
variable {S:Se}{X:Cx}{σ:St}{B:AI->Prop}{φ φ1:Ph}{H H1:Hp}{st:SO}{ρ:IC.Env}{pos p2:CV}{a b c d:AV}{ca cb cc:Ce}{es:List AV}{ces:Ces}{K:AF}{cl:Nat->AI}
def zi2{o:COp}{v w:PV}{α β:Type}{Rel:Ph->Hp->α->β->Prop}{k:Bool->R α}{Q:β->Hp->Prop}(h:Run S X σ B φ H Rel (onO (blO (yG o v w)) k) Q):∃b,yG o v w=AA (.bl b)/\Run S X σ B φ H Rel (k b) Q:=by
 cases e:yG o v w with
 |none=>rw[e]at h;exact h.elim
 |some z=>
  let⟨b,rfl⟩:=zem e;rw[e]at h;exact⟨b,rfl,h⟩
def zjy{op op':F8}{o p:COp}(ho:OpR X (compareOp op) (rT2 S X (yG o)))(ho':OpR X (compareOp op') (rT2 S X (yG p)))(ha:PE X a (tE S X ca))(hb:PE X b (tE S X cb))(hc:PE X c (tE S X cc))
  (hm:lastMarks [op,op'] [b,c]=false:=by ac_rfl):PE X (.Compare a [op,op'] [b,c] pos) (tE S X (.chain o p ca cb cc)):=
 (zjS ho ho' ha hb hc hm).imp λσ H Q ⟨B,φ,st,ρ,rs,re,h⟩=>by
  erw[ev]at h;refine tE.bind rs re h λx H1 v st1 φ1 s1 rs1 re1 rv h1=>tE.bind rs1 re1 h1 λy H2 w st2 φ2 s2 rs2 re2 rw h2=>?_;let⟨k,e,h2⟩:=zi2 h2;refine⟨B,φ2,st2,v,w,.bl k,rs2,rv.step s2,rw,e,λz' H' φ' s' rs' rz=>?_⟩;erw[yg]at rz;refine⟨k,rz,?_⟩
  cases k with
  |false=>exact h2 _ H' φ' s' rs' (by erw[yg])
  |true=>
   refine tE.bind rs' (re2.step s') (Run.on s' h2) λz H3 v3 st3 φ3 s3 rs3 re3 rv3 h3=>?_;let⟨q,eq,hq⟩:=zas h3 rs3;exact⟨B,φ3,st3,w,v3,q,rs3,(rw.step s').step s3,rv3,eq,hq⟩
def zje{op op':F8}{o p:COp}(ho:OpR X (compareOp op) (rT2 S X (yG o)))(ho':OpR X (compareOp op') (rT2 S X (yG p)))(ha:PE X a (tE S X ca))(hb:PE X b (tE S X cb))(hc:PE X c (tE S X cc))
  (hm:lastMarks [op,op'] [b,c]=false:=by ac_rfl):PT X (.Compare a [op,op'] [b,c] pos) (tTs S X (.chain o p ca cb cc)):=
 (zjB ho ho' ha hb hc hm).imp λσ H Q ⟨B,φ,st,ρ,rs,re,h⟩=>by
  erw[ev,ya7,R.bind_assoc]at h;refine tE.bind rs re h λx H1 v st1 φ1 s1 rs1 re1 rv h1=>tE.bind rs1 re1 h1 λy H2 w st2 φ2 s2 rs2 re2 rw h2=>?_;have h2':Run S X σ B φ2 H2 RB (onO (blO (yG o v w)) λk=>cond k ((ev S.call ρ st2 cc).bind λz st3=>(toR (yG p w z) st3).bind λx st=>onO (yaL st x) λb=>.ok b st) (.ok AC st2)) Q:=by
   cases e:yG o v w with
   |none=>rw[e]at h2;exact h2
   |some z=>
    let⟨b,rfl⟩:=zem e;rw[e]at h2
    cases b with
    |false=>exact h2
    |true=>
     erw[blO,onO,cond_true,R.bind_assoc]at h2 ⊢;exact h2
  let⟨k,e,h2⟩:=zi2 h2';refine⟨B,φ2,st2,v,w,.bl k,rs2,rv.step s2,rw,e,λz' H' φ' s' rs' rz=>?_⟩;erw[yg]at rz;refine⟨k,rz,?_⟩
  cases k with
  |false=>exact⟨AC,rfl,h2 _ H' φ' s' rs' rfl⟩
  |true=>
   refine tE.bind rs' (re2.step s') (Run.on s' h2) λz H3 v3 st3 φ3 s3 rs3 re3 rv3 h3=>?_
   cases eq:yG p w v3 with
   |none=>rw[eq]at h3;exact h3.elim
   |some q=>
    let⟨b,rfl⟩:=zem eq;rw[eq]at h3;refine⟨B,φ3,st3,w,v3,.bl b,rs3,(rw.step s').step s3,rv3,eq,λz2 H4 φ4 s4 rs4 rz4=>?_⟩;erw[yg]at rz4;exact⟨b,rz4,h3 b H4 φ4 s4 rs4 rfl⟩
theorem yj.at{vs:List PV}{xs:List V}{i:Int}{v:PV}(l:yj K cl B φ H vs xs)(h:at? vs i=AA v):∃x,atI xs i=AA x/\yg K cl B φ H v x:=by
 unfold at? at h;rw[l.length]at h;unfold atI
 cases e:ixI xs.length i with
 |none=>rw[e]at h;cases h
 |some j=>
  rw[e]at h;have e':ixN xs.length i=AA j:=e;rw[e'];exact l.get j h
theorem yE.list{n:Nat}{vs:List PV}{x:V}(rs:yE K cl B φ H st)(r:yg K cl B φ H (.loc n) x)(h:st[n]?=AA (.lst vs)):∃a xs,x=.ref a/\φ[n]?=AA (AA a)/\H a=AA (.lst xs)/\yj K cl B φ H vs xs:=by
 erw[yg]at r;let⟨hn,a,rfl,ha⟩:=r;let⟨b,hb⟩:=rs.liv n _ h (by intro z;cases z);obtain rfl:=ha b hb;let⟨o,ho,ro⟩:=rs.obj n b hb;rw[h]at ho;cases ho;let⟨xs,hx,l⟩:=ro;exact⟨b,xs,rfl,hb,hx,l⟩
def rTS(S:Se)(X:Cx)(f:SO->PV->PV->Option PV):R2:=λx y H Q=>∃B φ st v w z,yE X.K S.cl B φ H st/\yg X.K S.cl B φ H v x/\yg X.K S.cl B φ H w y/\f st v w=AA z /\
 ∀z' H' φ',Step φ H φ' H'->yE X.K S.cl B φ' H' st->yg X.K S.cl B φ' H' z z'->Q z' H'
def zcW{α:Type}{xs:List α}{i:PV}{z:α}(h:yaZ xs i=AA z):∃k,i=.int k/\at? xs k=AA z:=by
 cases i with
 |int k=>exact⟨k,rfl,h⟩
 |_=>cases h
def zl4:IxR X (rTS S X idxV):=by
 rintro value slice π s σ H x y v u Q I rx ry ⟨B,φ,st,a,i,z,rs,ra,ri,e,q⟩ hs
 cases a with
 |tp k vs=>
  let⟨k,rfl,e⟩:=zcW e;erw[yg]at ra ri;subst ri;let⟨p,xs,rfl,rt,l⟩:=ra;let⟨w,e1,rw⟩:=l.at e;exact zge value slice π s σ H _ _ v u Q I rx ry (.inr (.inl ⟨p,xs,k,w,rfl,rfl,rt.sq,e1,q w H φ .rfl rs rw⟩)) hs
 |lst vs=>
  let⟨k,rfl,e⟩:=zcW e;erw[yg]at ra ri;subst ri;let⟨p,xs,rfl,rt,l⟩:=ra;let⟨w,e1,rw⟩:=l.at e;exact zge value slice π s σ H _ _ v u Q I rx ry (.inl ⟨p,xs,k,w,rfl,rfl,rt.sq,e1,q w H φ .rfl rs rw⟩) hs
 |loc n=>
  erw[idxV]at e;split at e
  .rename_i vs h1;let⟨k,rfl,e⟩:=zcW e;erw[yg]at ri;subst ri;let⟨p,xs,rfl,_,hx,l⟩:=rs.list ra h1;let⟨w,e1,rw⟩:=l.at e;exact zge value slice π s σ H _ _ v u Q I rx ry (.inl ⟨p,xs,k,w,rfl,rfl,.of hx,e1,q w H φ .rfl rs rw⟩) hs
  .cases e
 |str t=>
  erw[idxV]at e;split at e
  .rename_i hl
   cases e1:yaZ t.cps.toList i with
   |none=>rw[e1]at e;cases e
   |some c=>
    rw[e1]at e
    cases e
    let⟨k,rfl,e1⟩:=zcW e1;erw[yg]at ra ri;subst ra ri;exact zge value slice π s σ H _ _ v u Q I rx ry (.inr (.inr ⟨t,k,c,rfl,rfl,by rw[<-zD];exact hl,e1,q _ H φ .rfl rs (by erw[yg])⟩)) hs
  .cases e
 |_=>cases e
def zpn(ha:PE X a (tE S X ca))(hb:PE X b (tE S X cb))(hs:ybx b:=by exact λ_ _=>rfl):PE X (.Subscript a b pos) (tE S X (.idx ca cb)):=
 (zpY zl4 ha hb hs).imp λσ H Q ⟨B,φ,st,ρ,rs,re,h⟩=>by
  erw[ev]at h;refine tE.bind rs re h λx H1 v st1 φ1 s1 rs1 re1 rv h1=>tE.bind rs1 re1 h1 λy H2 w st2 φ2 s2 rs2 re2 rw h2=>?_;let⟨z,e,q⟩:=zas h2 rs2;exact⟨B,φ2,st2,v,w,z,rs2,rv.step s2,rw,e,q⟩
theorem yj.cut{vs:List PV}{xs:List V}(lo hi:Option Int)(l:yj K cl B φ H vs xs):yj K cl B φ H (IC.cut vs lo hi) (yck xs lo hi):=by
 have e1:∀n o,ycI n o=HT.sIx n 0 o:=λn o=>by cases o<;>rfl
 have e2:∀n o,yc4 n o=HT.sIx n n o:=λn o=>by cases o<;>rfl
 unfold IC.cut yck;rw[l.length,e1,e2];exact(l.drop _).take _
def tO(S:Se)(X:Cx)(c:Ce):TO:=λσ H Q=>tE S X c σ H λx H1=>(x=.non/\Q AD H1) \/ ∃i,x=.int i/\Q (AA i) H1
def zli:PO X AD (tO S X (.cst .non)):=λπ s σ H Q I h=>by
 refine zmJ π s σ H Q I ?_;let⟨B,φ,st,ρ,rs,re,h⟩:=h;erw[ev]at h;rcases h.ok rs (x:=V.non) (by erw[yg])with q|⟨i,z,_⟩
 .exact q.2
 .cases z
def zmC(ha:PE X a (tE S X ca)):PO X (AA a) (tO S X ca):=by
 intro π s σ H Q I hw;rw[evalPart_some];refine thn (ha π s σ H _ I hw) λu s1 kq=>?_;let⟨x,H1,I1,r1,q1⟩:=kq;rcases q1 with⟨rfl,q⟩|⟨i,rfl,q⟩
 .cases r1
  exact⟨AD,H1,I1,.none,q⟩
 .let⟨t,rfl⟩:=r1;exact⟨AA i,H1,I1,.int i t,q⟩
def rSl(S:Se)(X:Cx):V->Option Int->Option Int->Hp->VK->Prop:=λx lo hi H Q=>∃B φ st v z,yE X.K S.cl B φ H st/\yg X.K S.cl B φ H v x/\ycu v lo hi=AA z /\
 ∀z' H' φ',Step φ H φ' H'->yE X.K S.cl B φ' H' st->yg X.K S.cl B φ' H' z z'->Q z' H'
def zbO{prog:A8}{w:An}{A:Au}{E:AG->AJ->Prop}{s:AJ}{t sl:AI}{items:Array AG}{vl vu:AG}{lo hi:Option Int}{Q:AG->AJ->Prop}(ht:HR s.heap t items)(hs:s.heap.IsSliceOf sl vl vu .none)(pl:Et vl lo)(pu:Et vu hi)
  (hw:HT.sIx items.size 0 lo=0/\HT.sIx items.size items.size hi=items.size)
  (h:Q (.ref t) s):A4 (model prog w) A (getItem (.ref t) (.ref sl)) Q E s:=by
 let⟨os,hos,hcs,hds⟩:=id hs;have hTs:s.TypeIs (.ref sl) "slice":=⟨os,hos,hcs⟩;unfold getItem
 try with_reducible refine D8 ?_
 first|refine AH (AX ?_)|skip
 refine AH (Fy ht.typeIs ⋯ ?_);refine AH (Bf (name:=AE "__getitem__") ht.typeIs BL
  (C6 BL ht.typeIs F4 ?_ (Fk _ _)))
 show A4 _ _ (EK (.ref t) >>= _) _ _ s;refine AH (F0 ht ?_);refine AH (Fz hTs ?_);rw[if_pos ⋯];refine AH (HT.sliceApplied_gen hs pl pu ?_);have hyes:(((HT.sIx items.size 0 lo:Nat):Int)==0&&(1:Int)==1&&(HT.sIx items.size items.size hi-HT.sIx items.size 0 lo)==items.size)=true:=by
  rw[hw.1,hw.2];simp
 show A4 _ _ (if (((HT.sIx items.size 0 lo:Nat):Int)==0&&(1:Int)==1&&(HT.sIx items.size items.size hi-HT.sIx items.size 0 lo)==items.size)=AB then _ else _) _ _ s;rw[if_pos hyes];refine AH (AH (Fz ht.typeIs (AX ?_)));rw[if_pos ⋯]
 first
  |exact AH (AX (AX ⟨_,rfl,AX h⟩))
  |exact AH (Eo (AX ⟨_,rfl,AX h⟩))
  |(wp_step;wp_step;exact⟨_,rfl,AX h⟩)
def ygd(K:AF):V->Option Int->Option Int->Hp->VK->Prop:=λx lo hi H Q=>∃a xs,x=.ref a/\SqT K H a xs /\
 (HT.sIx xs.length 0 lo=0/\HT.sIx xs.length xs.length hi=xs.length)/\Q (.ref a) H
def zjw:SlR X (ygd X.K):=by
 intro π s σ H x v vl vu lo hi sl Q I rx hs pl pu h;let⟨a,xs,rfl,hx,hw,q⟩:=h
 cases rx
 let⟨its,r,ht,hz⟩:=I.tuple hx;have hlen:its.toArray.size=xs.length:=by rw[A1];exact r.length.symm
 refine⟨"tuple",_,BL.lookup,ht.typeIs,?_⟩;exact zbO ht hs pl pu (by rw[hlen];exact hw) ⟨.ref a,H,I,rfl,q⟩
def yfF:V->Option Int->Option Int->Hp->VK->Prop:=λx lo hi H Q=>∃y:AQ,x=.str y/\y.length<=sizeLine/\Q (.str ⟨((y.cps.toList.drop (HT.sIx y.cps.toList.length 0 lo)).take (HT.sIx y.cps.toList.length y.cps.toList.length hi-HT.sIx y.cps.toList.length 0 lo)).toArray⟩) H
def zqK(lo hi:Option Int)(n:Nat):Dw lo hi 1 n=sliceRange ((HT.sIx n 0 lo:Nat):Int) ((HT.sIx n n hi:Nat):Int) 1:=by
 unfold Dw;erw[show (1:Int) > 0 by decide,if_true]
 congr 1
 .cases lo with
  |none=>simp[HT.sIx]
  |some i=>
   erw[HT.sIx]
   by_cases h:i<0
   .simp only[h,if_true]<;>lia
   .simp only[h,if_false]<;>lia
 .cases hi with
  |none=>simp[HT.sIx]
  |some i=>
   erw[HT.sIx]
   by_cases h:i<0
   .simp only[h,if_true]<;>lia
   .simp only[h,if_false]<;>lia
def ziz(y:AQ)(lo hi:Option Int):Txt.slice y lo hi=⟨((y.cps.toList.drop (HT.sIx y.cps.toList.length 0 lo)).take (HT.sIx y.cps.toList.length y.cps.toList.length hi-HT.sIx y.cps.toList.length 0 lo)).toArray⟩:=by
 have hn:y.length=y.cps.toList.length:=by simp[Str.length]
 unfold Txt.slice;rw[zqK,hn,sliceRange_one];have ha:=HT.sIx_le y.cps.toList.length 0 (DH _) lo;have hb:=HT.sIx_le y.cps.toList.length y.cps.toList.length (AU _) hi;generalize HT.sIx y.cps.toList.length 0 lo=a,HT.sIx y.cps.toList.length y.cps.toList.length hi=b at *;split
 .rename_i c;erw[BH,List.length_range,AK,beq_iff_eq]at c;obtain⟨rfl,rfl⟩:a=0/\b=y.cps.toList.length:=by lia
  rw[Gp,Nat.sub_zero,GV]
 .rw[pick_run]
def zlF:SlR X yfF:=by
 intro π s σ H x v vl vu lo hi sl Q I rx hs pl pu h;let⟨y,rfl,hz,q⟩:=h;let⟨t,rfl⟩:=rx;rw[<-ziz]at q;refine⟨"str",_,PySem.F.slot_str_getitem.lookup,Gm _ _ _,?_⟩;have go:∀l u:Option (Int×Hf),vl=partValue l->vu=partValue u->lo=l.map (·.1)->hi=u.map (·.1)->A4 (model X.prog X.w) X.A (getItem (.str y t) (.ref sl)) (EP X π σ Q) X.xe s:=by
  rintro l u rfl rfl rfl rfl
  refine wpAny_getItem_str_slice (l:=l) (u:=u) (st:=AD) hs rfl ?_;exact post_val_or_str ⟨BU (Txt.slice_le y _ _) hz,λt' k=>⟨.str _,H,I.tok k,⟨_,rfl⟩,q⟩⟩
 cases pl with
 |none=>
  cases pu with
  |none=>exact go AD AD rfl rfl rfl rfl
  |int j u=>exact go AD (AA (j,u)) rfl rfl rfl rfl
 |int i t1=>
  cases pu with
  |none=>exact go (AA (i,t1)) AD rfl rfl rfl rfl
  |int j u=>exact go (AA (i,t1)) (AA (j,u)) rfl rfl rfl rfl
def zlB:SlR X (rSl S X):=by
 rintro π s σ H x v vl vu lo hi sl Q I rx hs pl pu ⟨B,φ,st,w,z,rs,rw,e,q⟩
 have e1:∀n o,ycI n o=HT.sIx n 0 o:=λn o=>by cases o<;>rfl
 have e2:∀n o,yc4 n o=HT.sIx n n o:=λn o=>by cases o<;>rfl
 cases w with
 |tp k vs=>
  erw[ycu]at e;split at e
  .rename_i c
   cases e
   have rw':=rw;erw[yg]at rw;let⟨p,xs,rfl,rt,l⟩:=rw;refine zjw π s σ H _ v vl vu lo hi sl Q I rx hs pl pu ⟨p,xs,rfl,rt.sq,?_,q _ H φ .rfl rs rw'⟩;rw[l.length,e1,e2]at c;exact c
  .rename_i c
   cases e
   erw[yg]at rw;let⟨p,xs,rfl,rt,l⟩:=rw;refine znY π s σ H _ v vl vu lo hi sl Q I rx hs pl pu ⟨p,xs,rfl,rt.sq,?_,λt ht=>q _ _ φ (.upd ht) (rs.upd ht) (.tup_new ht rs (l.cut lo hi))⟩;rw[l.length,e1,e2]at c;exact c
 |str y=>
  erw[ycu]at e;split at e
  .rename_i c
   cases e
   erw[yg]at rw;subst rw;refine zlF π s σ H _ v vl vu lo hi sl Q I rx hs pl pu ⟨y,rfl,by rw[<-zD];exact c,?_⟩;have:=q (.str ⟨(cut y.cps.toList lo hi).toArray⟩) H φ .rfl rs (by erw[yg]);rw[cut,e1,e2]at this;exact this
  .cases e
 |lst vs=>
  erw[ycu]at e
  cases e
  erw[yg]at rw;let⟨p,xs,rfl,rt,l⟩:=rw;exact zib π s σ H _ v vl vu lo hi sl Q I rx hs pl pu ⟨p,xs,rfl,rt.sq,λt ht=>q _ _ φ (.upd ht) (rs.upd ht) (.lst_new ht rs (l.cut lo hi))⟩
 |scr vs=>
  erw[ycu]at e
  cases e
  erw[yg]at rw;let⟨p,xs,rfl,rt,l⟩:=rw;exact zib π s σ H _ v vl vu lo hi sl Q I rx hs pl pu ⟨p,xs,rfl,(by rcases rt with rt|rt;exact .inl rt.1;exact .inr rt),λt ht=>q _ _ φ (.upd ht) (rs.upd ht) (.lst_new ht rs (l.cut lo hi))⟩
 |_=>cases e
def zoJ{lo hi:Option AV}(ha:PE X a (tE S X ca))(hl:PO X lo (tO S X cb))(hh:PO X hi (tO S X cc)):PE X (.Subscript a (.Slice lo hi AD p2) pos) (tE S X (.slc ca cb cc)):=
 (zjr zlB ha hl hh).imp λσ H Q ⟨B,φ,st,ρ,rs,re,h⟩=>by
  erw[ev]at h;have oi:∀{v:PV} {x:V} {o:Option Int} {B φ H},yg X.K S.cl B φ H v x->yb5 v=AA o->(x=.non/\o=AD) \/ ∃i,x=.int i/\o=AA i:=λ{v x o B φ H} r e=>by
   cases v with
   |non=>erw[yg]at r;cases e;exact .inl ⟨r,rfl⟩
   |int i=>erw[yg]at r;cases e;exact .inr ⟨i,r,rfl⟩
   |_=>cases e
  refine tE.bind rs re h λx H1 v st1 φ1 s1 rs1 re1 rv h1=>tE.bind rs1 re1 h1 λy H2 w st2 φ2 s2 rs2 re2 rw h2=>?_
  cases eo:yb5 w with
  |none=>rw[eo]at h2;exact h2.elim
  |some o1=>
   rw[eo]at h2;have key:tO S X cc σ H2 λu H3=>rSl S X x o1 u H3 Q:=by
    refine tE.bind rs2 re2 h2 λy' H3 w' st3 φ3 s3 rs3 re3 rw' h3=>?_;let⟨z,e,q⟩:=zas h3 rs3;unfold ycS at e
    cases eo':yb5 w' with
    |none=>rw[eo']at e;cases e
    |some o2=>
     rw[eo']at e;have fin:rSl S X x o1 o2 H3 Q:=⟨B,φ3,st3,v,z,rs3,(rv.step s2).step s3,e,q⟩;rcases oi rw' eo' with⟨rfl,rfl⟩|⟨i,rfl,rfl⟩
     .exact .inl ⟨rfl,fin⟩
     .exact .inr ⟨i,rfl,fin⟩
   rcases oi rw eo with⟨rfl,rfl⟩|⟨i,rfl,rfl⟩
   .exact .inl ⟨rfl,key⟩
   .exact .inr ⟨i,rfl,key⟩
end
section
variable {S:Se}{X:Cx}{σ:St}{B:AI->Prop}{φ φ1:Ph}{H H1:Hp}{st:SO}{ρ:IC.Env}{p pos p2:CV}{a b c d:AV}{ca cb cc:Ce}{es:List AV}{ces:Ces}{K:AF}{cl:Nat->AI}
def rB(S:Se)(X:Cx)(k:Blt):List V->Hp->VK->Prop:=λxs H Q=>∃B φ st vs z,yE X.K S.cl B φ H st/\yj X.K S.cl B φ H vs xs/\yaj k st vs=AA z /\
 ∀z' H' φ',Step φ H φ' H'->yE X.K S.cl B φ' H' st->yg X.K S.cl B φ' H' z z'->Q z' H'
theorem yj.one{v:PV}{xs:List V}(l:yj K cl B φ H [v] xs):∃x,xs=[x]/\yg K cl B φ H v x:=by
 erw[yj]at l;let⟨y,ys,rfl,r,rfl⟩:=l;exact⟨y,rfl,r⟩
theorem yj.two{v w:PV}{xs:List V}(l:yj K cl B φ H [v,w] xs):∃x y,xs=[x,y]/\yg K cl B φ H v x/\yg K cl B φ H w y:=by
 erw[yj]at l;let⟨y,ys,rfl,r,z,zs,rfl,r2,rfl⟩:=l;exact⟨y,z,rfl,r,r2⟩
def zcx{k:Blt}{st:SO}{vs:List PV}{z:PV}(h:yaj k st vs=AA z)(h2:∀x y,yaj k st [x,y]=AD):∃x,vs=[x]:=by
 match vs,h with
 |[x],_=>exact⟨x,rfl⟩
 |[x,y],h=>rw[h2]at h;cases h
def zdq{v:PV}{x:V}{vs:List PV}(rs:yE K cl B φ H st)(r:yg K cl B φ H v x)(h:yae st v=AA vs):∃a xs,x=.ref a/\SqL K H a xs/\yj K cl B φ H vs xs:=by
 cases v with
 |lst ws=>
  cases h
  erw[yg]at r;let⟨a,xs,rfl,rt,l⟩:=r;exact⟨a,xs,rfl,rt.sq,l⟩
 |loc n=>
  erw[yae]at h;split at h
  .rename_i ws hw
   cases h
   let⟨a,xs,rfl,_,hx,l⟩:=rs.list r hw;exact⟨a,xs,rfl,.of hx,l⟩
  .cases h
 |_=>cases h
def znj{v:PV}{x:V}{vs:List PV}(rs:yE K cl B φ H st)(r:yg K cl B φ H v x)(h:ybU st v=AA vs):∃a xs,x=.ref a/\(SqL K H a xs \/ SqT K H a xs)/\yj K cl B φ H vs xs:=by
 cases v with
 |tp k ws=>
  cases h
  erw[yg]at r;let⟨a,xs,rfl,rt,l⟩:=r;exact⟨a,xs,rfl,.inr rt.sq,l⟩
 |lst ws=>
  let⟨a,xs,e,q,l⟩:=zdq rs r (vs:=vs) h;exact⟨a,xs,e,.inl q,l⟩
 |loc n=>
  let⟨a,xs,e,q,l⟩:=zdq rs r (vs:=vs) h;exact⟨a,xs,e,.inl q,l⟩
 |_=>cases h
def zmY:yad X (.builtin "len") (rB S X .len):=by
 rintro π s σ H xs us Q I r ⟨B,φ,st,vs,z,rs,l,e,q⟩
 let⟨v,rfl⟩:=zcx e λ_ _=>rfl;let⟨x,rfl,rv⟩:=l.one;erw[yaj,lenV]at e;split at e
 .rename_i t;split at e
  .rename_i c
   cases e
   erw[yg]at rv;subst rv;exact zfx π s σ H _ us Q I r ⟨t,rfl,by rw[<-zD];exact c,q _ H φ .rfl rs (by erw[yg])⟩
  .cases e
 .cases e1:ybU st v with
  |none=>rw[e1]at e;cases e
  |some ws=>
   rw[e1]at e
   cases e
   let⟨a,ys,rfl,h,l⟩:=znj rs rv e1;refine zfb π s σ H _ us Q I r ⟨a,ys,rfl,?_,q _ H φ .rfl rs (by erw[yg];rw[l.length])⟩;exact h
def zoU:yad X (.type "int") (rB S X .int):=by
 rintro π s σ H xs us Q I r ⟨B,φ,st,vs,z,rs,l,e,q⟩
 let⟨v,rfl⟩:=zcx e λ_ _=>rfl;let⟨x,rfl,rv⟩:=l.one;erw[yaj]at e
 cases v with
 |int i=>
  cases e
  erw[yg]at rv;subst rv;exact zeY π s σ H _ us Q I r (.inl ⟨i,rfl,q _ H φ .rfl rs (by erw[yg])⟩)
 |bl k=>
  cases e
  erw[yg]at rv;subst rv;exact zeY π s σ H _ us Q I r (.inr ⟨k,rfl,q _ H φ .rfl rs (by erw[yg,bi])⟩)
 |_=>cases e
def znX:yad X (.builtin "abs") (rB S X .abs):=by
 rintro π s σ H xs us Q I r ⟨B,φ,st,vs,z,rs,l,e,q⟩
 let⟨v,rfl⟩:=zcx e λ_ _=>rfl;let⟨x,rfl,rv⟩:=l.one;erw[yaj]at e
 cases v with
 |int i=>
  cases e
  erw[yg]at rv;subst rv;exact zjh π s σ H _ us Q I r ⟨i,rfl,q _ H φ .rfl rs (by erw[yg])⟩
 |_=>cases e
def zls{k:Blt}{st:SO}{vs:List PV}{z:PV}(h:yaj k st vs=AA z)(h2:∀x,yaj k st [x]=AD):∃x y,vs=[x,y]:=by
 match vs,h with
 |[x,y],_=>exact⟨x,y,rfl⟩
 |[x],h=>rw[h2]at h;cases h
def zog(hc:X.calm=AB):yad X (.builtin "min") (rB S X .min):=by
 rintro π s σ H xs us Q I r ⟨B,φ,st,vs,z,rs,l,e,q⟩
 let⟨v,w,rfl⟩:=zls e λ_=>rfl;let⟨x,y,rfl,rv,rw⟩:=l.two;erw[yaj,yd9]at e;split at e
 .cases e
  erw[yg]at rv rw;subst rv rw;exact zja hc π s σ H _ us Q I r ⟨_,_,rfl,q _ H φ .rfl rs (by erw[yg])⟩
 .cases e
def zkH:∀{vs:List PV} {m:Int},ydc vs=AA m->∃ns:List Int,vs=ns.map .int/\m∈ns/\∀a∈ns,a<=m
 |[],m,h=>by cases h
 |[.int i],m,h=>by cases h;exact⟨[i],rfl,by simp,by simp⟩
 |.int i::w::r,m,h=>by
  erw[ydc]at h;split at h
  .rename_i c e
   cases h
   let⟨ns,e1,e2,e3⟩:=zkH e;refine⟨i::ns,by rw[e1];rfl,?_,λa ha=>?_⟩
   .split
    .exact AW _ e2
    .exact BB
   .rcases AT.mp ha with rfl|ha
    .split<;>lia
    .have:=e3 a ha;split<;>lia
  .cases h
 |.non::r,m,h=>by cases r<;>cases h
 |.bl _::r,m,h=>by cases r<;>cases h
 |.str _::r,m,h=>by cases r<;>cases h
 |.tp _ _::r,m,h=>by cases r<;>cases h
 |.lst _::r,m,h=>by cases r<;>cases h
 |.loc _::r,m,h=>by cases r<;>cases h
 |.exn _::r,m,h=>by cases r<;>cases h
 |.scr _::r,m,h=>by cases r<;>cases h
theorem yj.ints:∀{ns:List Int} {xs:List V},yj K cl B φ H (ns.map .int) xs->xs=ns.map V.int
 |[],xs,h=>by simpa only[Ar,yj] using h
 |n::ns,xs,h=>by
  erw[AL,yj]at h;let⟨y,ys,rfl,r,l⟩:=h;erw[yg]at r;rw[r,yj.ints l];rfl
theorem yj.bls:∀{ns:List Bool} {xs:List V},yj K cl B φ H (ns.map .bl) xs->xs=ns.map V.bl
 |[],xs,h=>by simpa only[Ar,yj] using h
 |n::ns,xs,h=>by
  erw[AL,yj]at h;let⟨y,ys,rfl,r,l⟩:=h;erw[yg]at r;rw[r,yj.bls l];rfl
def zmw{v w z:PV}(e:maxV v w=AA z):∃i j,v=.int i/\w=.int j/\z=.int (if i<j then j else i):=by
 unfold maxV at e;split at e
 .exact⟨_,_,rfl,rfl,(AZ e).symm⟩
 .cases e
def zok(hc:X.calm=AB):yad X (.builtin "max") (rB S X .max):=by
 rintro π s σ H xs us Q I r ⟨B,φ,st,vs,z,rs,l,e,q⟩
 rcases vs with _|⟨v,_|⟨w,_|⟨u',t⟩⟩⟩
 .simp[yaj]at e
 .let⟨x,rfl,rv⟩:=l.one;erw[yaj]at e
  cases e1:yae st v with
  |none=>rw[e1]at e;cases e
  |some ws=>
   rw[e1]at e;erw[Bj]at e
   cases e2:ydc ws with
   |none=>rw[e2]at e;cases e
   |some m=>
    rw[e2]at e;obtain rfl:=AZ e;let⟨ns,rfl,hm,hb⟩:=zkH e2;let⟨a,ys,rfl,h,l⟩:=zdq rs rv e1;rw[l.ints]at h;refine zht hc π s σ H _ us Q I r ⟨a,ns,rfl,h,List.length_pos_of_mem hm,λM h1 h2=>?_⟩;have:M=m:=by
     have:=hb M h1;have:=h2 m hm;lia
    subst this;exact q _ H φ .rfl rs (by erw[yg])
 .let⟨x,y,rfl,rv,rw⟩:=l.two;have e:maxV v w=AA z:=e;let⟨i,j,rfl,rfl,rfl⟩:=zmw e;erw[yg]at rv rw;subst rv rw;exact ziv hc π s σ H _ us Q I r ⟨i,j,rfl,q (.int (if i<j then j else i)) H φ .rfl rs (by erw[yg])⟩
 .simp[yaj]at e
def zj6:yad X (.type "tuple") (rB S X .tuple):=by
 rintro π s σ H xs us Q I r ⟨B,φ,st,vs,z,rs,l,e,q⟩
 let⟨v,rfl⟩:=zcx e λ_ _=>rfl;let⟨x,rfl,rv⟩:=l.one;erw[yaj,yeE]at e;split at e
 .cases e
  erw[yg]at rv;let⟨a,ys,rfl,rt,l⟩:=rv;exact zcn π s σ H _ us Q I r ⟨a,ys,rfl,.inr ⟨rt.sq,q _ H φ .rfl rs (by erw[yg];exact⟨a,ys,rfl,rt,l⟩)⟩⟩
 .cases e1:yae st v with
  |none=>rw[e1]at e;cases e
  |some ws=>
   rw[e1]at e
   cases e
   let⟨a,ys,rfl,h,l⟩:=zdq rs rv e1;exact zcn π s σ H _ us Q I r ⟨a,ys,rfl,.inl ⟨h,λt ht=>q _ _ φ (.upd ht) (rs.upd ht) (.tup_new ht rs l)⟩⟩
def zkC:∀{vs:List PV} {m:Bool},IC.allB vs=AA m->∃ns:List Bool,vs=ns.map .bl/\m=ns.all id
 |[],m,h=>by cases h;exact⟨[],rfl,rfl⟩
 |.bl i::r,m,h=>by
  erw[IC.allB]at h;split at h
  .rename_i c e
   cases h
   let⟨ns,e1,e2⟩:=zkC e;exact⟨i::ns,by rw[e1];rfl,by rw[e2];rfl⟩
  .cases h
 |.non::r,m,h=>by cases h
 |.int _::r,m,h=>by cases h
 |.str _::r,m,h=>by cases h
 |.tp _ _::r,m,h=>by cases h
 |.lst _::r,m,h=>by cases h
 |.loc _::r,m,h=>by cases h
 |.exn _::r,m,h=>by cases h
 |.scr _::r,m,h=>by cases h
def zni(hc:X.calm=AB):yad X (.builtin "all") (rB S X .all):=by
 rintro π s σ H xs us Q I r ⟨B,φ,st,vs,z,rs,l,e,q⟩
 let⟨v,rfl⟩:=zcx e λ_ _=>rfl;let⟨x,rfl,rv⟩:=l.one;erw[yaj]at e
 cases e1:yae st v with
 |none=>rw[e1]at e;cases e
 |some ws=>
  rw[e1]at e;erw[Bj]at e
  cases e2:IC.allB ws with
  |none=>rw[e2]at e;cases e
  |some m=>
   rw[e2]at e
   cases e
   let⟨ns,rfl,rfl⟩:=zkC e2;let⟨a,ys,rfl,h,l⟩:=zdq rs rv e1;rw[l.bls]at h;exact zj1 hc π s σ H _ us Q I r ⟨a,ns,rfl,h,q _ H φ .rfl rs (by erw[yg])⟩
variable {x:AQ}{id T:String}{k:Blt}
def zop(hc:yad X (.builtin id) (rB S X k))(hg:Gl X x)(hm:X.mg x=AD)(hv:bootBuiltins x=AA (.builtin id))(ha:PA X (a::es) (tAs S X ces))(hn:x ≠ "__name__":=by decide)(hdb:(x==("__debug__":AQ))=false:=by decide)
  (he:starEach (a::es) X.env=(AC,eval a X.env)::starEach es X.env:=by rfl) (hpl:(backTo pos (starEach es X.env)).any (·.1)=false:=by rfl):PE X (.Call (.Name x p) (a::es) [] pos) (tE S X (.blt k ces)):=
 (zgC hc hg hm hv ha hn hdb he hpl).imp λσ H Q ⟨B,φ,st,ρ,rs,re,h⟩=>by
  erw[ev]at h;refine tAs.bind rs re h λxs H1 vs st1 φ1 s1 rs1 re1 rv h1=>?_;let⟨z,e,q⟩:=zas h1 rs1;exact⟨B,φ1,st1,vs,z,rs1,rv,e,q⟩
def zlf(hc:yad X (.type T) (rB S X k))(hg:Gl X x)(hm:X.mg x=AD)(hv:bootBuiltins x=AA (.type T))(ha:PA X (a::es) (tAs S X ces))(hn:x ≠ "__name__":=by decide)(hdb:(x==("__debug__":AQ))=false:=by decide)
  (he:starEach (a::es) X.env=(AC,eval a X.env)::starEach es X.env:=by rfl) (hpl:(backTo pos (starEach es X.env)).any (·.1)=false:=by rfl):PE X (.Call (.Name x p) (a::es) [] pos) (tE S X (.blt k ces)):=
 (zhZ hc hg hm hv ha hn hdb he hpl).imp λσ H Q ⟨B,φ,st,ρ,rs,re,h⟩=>by
  erw[ev]at h;refine tAs.bind rs re h λxs H1 vs st1 φ1 s1 rs1 re1 rv h1=>?_;let⟨z,e,q⟩:=zas h1 rs1;exact⟨B,φ1,st1,vs,z,rs1,rv,e,q⟩
end
section
variable {S:Se}{X:Cx}{σ:St}{B:AI->Prop}{φ φ1:Ph}{H H1:Hp}{st:SO}{ρ:IC.Env}{p pos p2 apos:CV}{a b c d:AV}{ca cb cc:Ce}{es:List AV}{ces:Ces}{K:AF}{cl:Nat->AI}
theorem Step.put{l:AI}{u:HO}(hl:AA l∈φ):Step φ H φ (L2.upd H l u):=
 ⟨λb o n e=>by rw[zj (show b≠l from λz=>n (by rw[z];exact hl))];exact e,AU _,λ_ _ _ e=>e,λ_ h=>.inl h⟩
theorem yE.put{n:Nat}{l:AI}{u:HO}{o:Ob}(rs:yE K cl B φ H st)(hn:φ[n]?=AA (AA l))(ho:ycg K cl B φ (L2.upd H l u) o l):yE K cl B φ (L2.upd H l u) (st.set n o):=by
 have hm:AA l∈φ:=A5 hn;have s:Step φ H φ (L2.upd H l u):=.put hm;have hlt:n<st.length:=by rw[<-rs.len];exact(BE.mp hn).1
 refine⟨by rw[B4];exact rs.len,rs.inj,λm a e=>?_,λm o' e ho'=>?_,rs.nb,λa h=>?_⟩
 .by_cases hmn:m=n
  .subst hmn;rw[hn]at e;cases e;exact⟨o,by rw[A9 hlt],ho⟩
  .let⟨o',q,r⟩:=rs.obj m a e;refine⟨o',by rw[AO (BN hmn)];exact q,r.step s ?_⟩;rw[zj]
   rintro rfl
   exact hmn (rs.inj m n a e hn)
 .by_cases hmn:m=n
  .subst hmn;exact⟨l,hn⟩
  .rw[AO (BN hmn)]at e;exact rs.liv m o' e ho'
 .let⟨w,e⟩:=rs.dom a h
  by_cases z:a=l
  .subst z;exact⟨u,zq⟩
  .exact⟨w,by rw[zj z];exact e⟩
def zqj:1000000<=sizeLine:=by rw[Dh];decide
def zix{m:Mth}{v:PV}{st:SO}{α β:Type}{Rel:Ph->Hp->α->β->Prop}{k:Bool->R α}{Q:β->Hp->Prop}(h:Run S X σ B φ H Rel (onO (yaO m st v) k) Q):∃b,yaO m st v=AA b/\Run S X σ B φ H Rel (k b) Q:=by
 cases e:yaO m st v with
 |none=>rw[e]at h;exact h.elim
 |some z=>rw[e]at h;exact⟨z,rfl,h⟩
def zis(ha:PE X a (tE S X ca))(hb:PE X b (tE S X cb))(hs:starEach [b] X.env=[(AC,eval b X.env)]:=by rfl)(hbase:attributeBase a "append" X.env (eval a X.env)=eval a X.env:=by rfl)(hline:(apos.endLine==pos.line)=true:=by rfl)
  (hfew:((backTo pos (starEach [b] X.env)).all (λx=>!x.1)&&(backToKw pos (keywordEach [] X.env)).all (λx=>x.1.isSome)&&decide (([b]:List AV).length+([]:List C4).length+(if ([]:List C4).isEmpty then 0 else 1)<30))=true:=by rfl):
  PE X (.Call (.Attribute a "append" apos) [b] [] pos) (tE S X (.mth .append ca (.cons cb .nil))):=
 (zqa PySem.F.plainAttrs_list FJ PySem.F.type_list_append zfz ha (zeR (S:=S) hb zhX hs) hbase hfew hline hs rfl).imp λσ H Q ⟨B,φ,st,ρ,rs,re,h⟩=>by
  erw[ev]at h;refine tE.bind rs re h λx H1 v st1 φ1 s1 rs1 re1 rv h1=>?_;let⟨_,e1,h1⟩:=zix h1;have t1:∃ws,yae st1 v=AA ws:=by
   erw[yaO]at e1
   cases q:yae st1 v with
   |none=>rw[q]at e1;cases e1
   |some ws=>exact⟨ws,rfl⟩
  let⟨ws,t1⟩:=t1;let⟨l,xs,rfl,hl,_⟩:=zdq rs1 rv t1;refine⟨.inl ⟨rfl,xs,hl⟩,tAs.bind rs1 re1 h1 λys H2 vs st2 φ2 s2 rs2 re2 rvs h2=>?_⟩;have rv2:=rv.step s2;rcases vs with _|⟨w,_|⟨w',t⟩⟩
  .exact h2.elim
  .let⟨y,rfl,rw⟩:=rvs.one;unfold ych at h2;erw[ydX]at h2;split at h2
   .rename_i n;split at h2
    .rename_i zs hz;split at h2
     .rename_i c;let⟨l',xs',e,hn,hx,lr⟩:=rs2.list rv2 hz
      cases e
      refine⟨l,xs',y,rfl,rfl,hx,by have:=zqj;have:=lr.length;lia,?_⟩;exact h2 _ _ φ2 (.put (A5 hn)) (rs2.put hn ⟨_,zq,(lr.append (by erw[yj];exact⟨y,[],rfl,rw,rfl⟩)).step (.put (A5 hn))⟩) (by erw[yg])
     .exact h2.elim
    .exact h2.elim
   .exact h2.elim
  .exact h2.elim
def zn6(ha:PE X a (tE S X ca)):PE X a (tE S X (.frz ca)):=
 ha.imp λσ H Q ⟨B,φ,st,ρ,rs,re,h⟩=>by
  erw[ev]at h;refine tE.bind rs re h λx H1 v st1 φ1 s1 rs1 re1 rv h1=>?_;unfold ydh at h1;split at h1
  .rename_i n;split at h1
   .rename_i vs hv;let⟨l,xs,rfl,hn,hx,lr⟩:=rs1.list rv hv;have hm:AA l∈φ1:=A5 hn;have hlt:n<φ1.length:=(BE.mp hn).1;have nl:AA l∉φ1.set n none:=λz=>by
     let⟨m,e⟩:=DX.mp z
     by_cases hmn:m=n
     .subst hmn;rw[A9 hlt]at e;cases e
     .rw[AO (BN hmn)]at e;exact hmn (rs1.inj m n l e hn)
    have sb:∀b,AA b∈φ1.set n AD->AA b∈φ1:=λb z=>by
     let⟨m,e⟩:=DX.mp z
     by_cases hmn:m=n
     .subst hmn;rw[A9 hlt]at e;cases e
     .rw[AO (BN hmn)]at e;exact A5 e
    have s:Step φ1 H1 (φ1.set n AD) H1:=⟨λ_ _ _ e=>e,by simp,λm a hm' e=>by
     by_cases hmn:m=n
     .subst hmn;rw[A9 hlt]at e;cases e
     .rw[AO (BN hmn)]at e;exact e,λb z=>.inl (sb b z)⟩
    refine h1 _ H1 (φ1.set n AD) s ⟨by simp[rs1.len],λm k a e1 e2=>?_,λm a e=>?_,λm o e ho=>?_,λa z=>rs1.nb a (sb a z),rs1.dom⟩ ?_
    .by_cases h1':m=n
     .subst h1';rw[A9 hlt]at e1;cases e1
     .by_cases h2':k=n
      .subst h2';rw[A9 hlt]at e2;cases e2
      .rw[AO (BN h1')]at e1;rw[AO (BN h2')]at e2;exact rs1.inj m k a e1 e2
    .by_cases hmn:m=n
     .subst hmn;rw[A9 hlt]at e;cases e
     .rw[AO (BN hmn)]at e;let⟨o,q,r⟩:=rs1.obj m a e;exact⟨o,by rw[AO (BN hmn)];exact q,r.step s rfl⟩
    .by_cases hmn:m=n
     .subst hmn;rw[A9 (by rw[<-rs1.len];exact hlt)]at e;cases e;exact absurd rfl ho
     .rw[AO (BN hmn)]at e ⊢;exact rs1.liv m o e ho
    .simp only[yg];exact⟨l,xs,rfl,⟨hx,rs1.nb l hm,nl⟩,lr.step s⟩
   .exact h1.elim
  .exact h1.ok rs1 rv
end
section
variable (S:Se)(X:Cx)
def yaH(B:AI->Prop)(φ:Ph)(H:Hp)(f:Fl)(D:Ends):Prop:=
 match f with
 |.nx ρ' st'=>∀σ' H' φ',Step φ H φ' H'->yE X.K S.cl B φ' H' st'->yM X.K S.cl B φ' H' ρ' σ'->D.nx σ' H'
 |.rt v st'=>∀x H' φ',Step φ H φ' H'->yE X.K S.cl B φ' H' st'->yg X.K S.cl B φ' H' v x->D.rt x H'
 |.bk ρ' st'=>∀σ' H' φ',Step φ H φ' H'->yE X.K S.cl B φ' H' st'->yM X.K S.cl B φ' H' ρ' σ'->D.bk σ' H'
 |.ct ρ' st'=>∀σ' H' φ',Step φ H φ' H'->yE X.K S.cl B φ' H' st'->yM X.K S.cl B φ' H' ρ' σ'->D.ct σ' H'
 |.exc k ρ' st'=>∀σ' φ1 H1 e s',Step φ H φ1 H1->yM X.K S.cl B φ1 H1 ρ' σ'->ExcAt S X σ' B φ1 H1 k st' e s'->X.xe e s'
 |.bad=>False
def tS(c:Cs):TS:=λD σ H=>∃B φ st ρ,yE X.K S.cl B φ H st/\yM X.K S.cl B φ H ρ σ/\yaH S X B φ H (ex S.call ρ st c) D
def tSs(c:Css):TS:=λD σ H=>∃B φ st ρ,yE X.K S.cl B φ H st/\yM X.K S.cl B φ H ρ σ/\yaH S X B φ H (exs S.call ρ st c) D
end
section
variable {S:Se}{X:Cx}{σ:St}{B:AI->Prop}{φ φ1:Ph}{H H1:Hp}{st:SO}{ρ:IC.Env}{D:Ends}{pos p2 px:CV}{a b c o:AV}{ca cb cc:Ce}{s1:Bz}{ss ss':List Bz}{c1:Cs}{cs cs':Css}
theorem yaH.on{f:Fl}(s:Step φ H φ1 H1)(h:yaH S X B φ H f D):yaH S X B φ1 H1 f D:=by
 cases f with
 |nx ρ st=>exact λσ' H' φ' t=>h σ' H' φ' (s.trans t)
 |rt ρ st=>exact λσ' H' φ' t=>h σ' H' φ' (s.trans t)
 |bk ρ st=>exact λσ' H' φ' t=>h σ' H' φ' (s.trans t)
 |ct ρ st=>exact λσ' H' φ' t=>h σ' H' φ' (s.trans t)
 |exc k ρ st=>exact λσ' φ2 H2 e s' t=>h σ' φ2 H2 e s' (s.trans t)
 |bad=>exact h
theorem tE.fl{k:PV->SO->Fl}{P:V->Hp->Prop}(rs:yE X.K S.cl B φ H st)(re:yM X.K S.cl B φ H ρ σ)(h:yaH S X B φ H ((ev S.call ρ st ca).fl ρ k) D)
  (n:∀x H1 v st1 φ1,Step φ H φ1 H1->yE X.K S.cl B φ1 H1 st1->yM X.K S.cl B φ1 H1 ρ σ->yg X.K S.cl B φ1 H1 v x->yaH S X B φ1 H1 (k v st1) D->P x H1):tE S X ca σ H P:=by
 refine⟨B,φ,st,ρ,rs,re,?_⟩
 cases e:ev S.call ρ st ca with
 |ok v st'=>
  rw[e]at h;exact λx H' φ' s rs' rv=>n x H' v st' φ' s rs' (re.step s) rv (h.on s)
 |exc k st'=>
  rw[e]at h;exact λe s' x=>h σ φ H e s' .rfl re x
 |bad=>rw[e]at h;exact h
theorem PS.imp{t t':TS}(h:PS X s1 t')(k:∀D σ H,t D σ H->t' D σ H):PS X s1 t:=λπ s σ H D I q=>h π s σ H D I (k D σ H q)
theorem PSs.imp{t t':TS}(h:PSs X ss t')(k:∀D σ H,t D σ H->t' D σ H):PSs X ss t:=λπ s σ H D I q=>h π s σ H D I (k D σ H q)
theorem yM.set{K:AF}{cl:Nat->AI}(r:yM K cl B φ H ρ σ)(i:Nat){v:PV}{x:V}(rv:yg K cl B φ H v x):yM K cl B φ H (ρ.set i (AA v)) (σ.set i (AA x)):=by
 refine⟨by rw[B4,B4];exact r.len,λj w e=>?_⟩
 by_cases h:j=i
 .subst h
  by_cases hl:j<ρ.length
  .rw[A9 hl]at e
   cases e
   exact⟨x,by rw[A9 (by rw[<-r.len];exact hl)],rv⟩
  .rw[BW (by rw[B4];lia)]at e
   cases e
 .rw[AO (BN h)]at e ⊢;exact r.get j w e
def zn7:PSs X [] (tSs S X .nil):=zqA.imp λD σ H ⟨B,φ,st,ρ,rs,re,h⟩=>by
 erw[exs]at h;exact h σ H φ .rfl rs re
def zlm(h1:PS X s1 (tS S X c1))(h2:PSs X ss (tSs S X cs)):PSs X (s1::ss) (tSs S X (.cons c1 cs)):=
 (zgh h1 h2).imp λD σ H ⟨B,φ,st,ρ,rs,re,h⟩=>by
  erw[exs]at h;refine⟨B,φ,st,ρ,rs,re,?_⟩
  cases e:ex S.call ρ st c1 with
  |nx ρ1 st1=>
   rw[e]at h;exact λσ' H' φ' s rs' re'=>⟨B,φ',st1,ρ1,rs',re',h.on s⟩
  |rt v st1=>rw[e]at h;exact h
  |bk ρ1 st1=>rw[e]at h;exact h
  |ct ρ1 st1=>rw[e]at h;exact h
  |exc k ρ1 st1=>rw[e]at h;exact h
  |bad=>rw[e]at h;exact h
def zmu(he:PE X a (tE S X ca))(hs:swapsWith a AD pos.line X.env=pure false:=by rfl):PS X (.Expr a pos) (tS S X (.expr ca)):=
 (zlX he hs).imp λD σ H ⟨B,φ,st,ρ,rs,re,h⟩=>by
  erw[ex]at h;exact tE.fl rs re h λx H1 v st1 φ1 s rs1 re1 rv h1=>h1 σ H1 φ1 .rfl rs1 re1
def zm3(he:PE X a (tE S X ca)):PS X (.Return (AA a) pos) (tS S X (.ret ca)):=
 (zku he).imp λD σ H ⟨B,φ,st,ρ,rs,re,h⟩=>by
  erw[ex]at h;exact tE.fl rs re h λx H1 v st1 φ1 s rs1 re1 rv h1=>h1 x H1 φ1 .rfl rs1 rv
def zl2:PS X (.Return AD pos) (tS S X (.ret (.cst .non))):=
 zqB.imp λD σ H ⟨B,φ,st,ρ,rs,re,h⟩=>by
  erw[ex,ev,R.fl]at h;exact h .non H φ .rfl rs (by erw[yg])
def zom{i:Nat}{x:AQ}(hN:X.N.Nodup)(hi:X.N[i]?=AA x)(hx:Loc X.env.scope x)(he:PE X a (tE S X ca))(hs:swapsWith a (AA (.Name x px)) pos.line X.env=pure false:=by rfl)
  (hf:X.fn x=AB \/ X.env.scope.names.lookup x=AA .local:=by first|exact .inl rfl|exact .inr rfl|assumption):PS X (.Assign [.Name x px] a pos) (tS S X (.asg (.n i) ca)):=
 (zkN hN hi hx he hs hf).imp λD σ H ⟨B,φ,st,ρ,rs,re,h⟩=>by
  erw[ex]at h;exact tE.fl rs re h λx H1 v st1 φ1 s rs1 re1 rv h1=>h1 _ H1 φ1 .rfl rs1 (re1.set i rv)
theorem flT(r:R PV)(f:Bool->SO->Fl):(r.fl ρ λx st1=>onF (yaL st1 x) λk=>f k st1)=(ya7 r).fl ρ f:=by
 cases r with
 |ok v s=>
  erw[R.fl,ya7,R.bind]
  cases yaL s v<;>rfl
 |exc c s=>rfl
 |bad=>rfl
theorem tTs.fl{k:Bool->SO->Fl}{P:Bool->Hp->Prop}(rs:yE X.K S.cl B φ H st)(re:yM X.K S.cl B φ H ρ σ)(h:yaH S X B φ H ((ya7 (ev S.call ρ st ca)).fl ρ k) D)
  (n:∀b H1 st1 φ1,Step φ H φ1 H1->yE X.K S.cl B φ1 H1 st1->yM X.K S.cl B φ1 H1 ρ σ->yaH S X B φ1 H1 (k b st1) D->P b H1):tTs S X ca σ H P:=by
 refine⟨B,φ,st,ρ,rs,re,?_⟩
 cases e:ya7 (ev S.call ρ st ca)with
 |ok v st'=>
  rw[e]at h;exact λx H' φ' s rs' rv=>by
   subst rv;exact n v H' st' φ' s rs' (re.step s) (h.on s)
 |exc k st'=>
  rw[e]at h;exact λe s' x=>h σ φ H e s' .rfl re x
 |bad=>rw[e]at h;exact h
def zp3(hc:PT X c (tTs S X cc))(ha:PSs X ss (tSs S X cs))(hb:PSs X ss' (tSs S X cs')):PS X (.If c ss ss' pos) (tS S X (.ite cc cs cs')):=
 (zqc hc ha hb).imp λD σ H ⟨B,φ,st,ρ,rs,re,h⟩=>by
  erw[ex]at h;rw[flT _ λk st1=>cond k (exs S.call ρ st1 cs) (exs S.call ρ st1 cs')]at h;refine tTs.fl rs re h λk H1 st1 φ1 s rs1 re1 h1=>?_
  cases k with
  |true=>exact⟨B,φ1,st1,ρ,rs1,re1,h1⟩
  |false=>exact⟨B,φ1,st1,ρ,rs1,re1,h1⟩
def zm0{i:Nat}{x:AQ}{op:De}{bo:BOp}(hN:X.N.Nodup)(hi:X.N[i]?=AA x)(hx:Loc X.env.scope x)(he:PE X a (tE S X ca))(ho:PIp X op (rT2 S X (ybO bo)))
  (hf:X.fn x=AB \/ X.env.scope.names.lookup x=AA .local:=by first|exact .inl rfl|exact .inr rfl|assumption) (hd:(x==("__debug__":AQ))=false:=by decide) (hcd:(x==("__classdict__":AQ))=false:=by decide):PS X (.AugAssign (.Name x px) op a pos) (tS S X (.aug i bo ca)):=
 (zkw hN hi hx he ho hf).imp λD σ H ⟨B,φ,st,ρ,rs,re,h⟩=>by
  erw[ex]at h
  cases q:ρ[i]? with
  |none=>rw[q]at h;exact h.elim
  |some w=>
   cases w with
   |none=>rw[q]at h;exact h.elim
   |some w=>
    rw[q]at h;let⟨y,hy,rw⟩:=re.get i w q;refine⟨y,hy,tE.fl rs re h λz H1 v st1 φ1 s rs1 re1 rv h1=>?_⟩
    cases e:ybO bo w v with
    |none=>rw[e]at h1;exact h1.elim
    |some u=>
     rw[e]at h1;exact⟨B,φ1,st1,w,v,u,rs1,rw.step s,rv,e,λz' H' φ' s' rs' rz=>h1 _ H' φ' s' rs' ((re1.step s').set i rz)⟩
end
section
variable (S:Se)(X:Cx)
structure Drw(B:AI->Prop)(φ0:Ph)(H0:Hp)(xs:List PV)(J:It):Prop where
 stop:∀φ H,Step φ0 H0 φ H->J.stop xs.length H
 go:∀(i:Nat) φ H,Step φ0 H0 φ H->i<xs.length->J.go i H
 yld:∀(i:Nat) φ H st x H' (B':AI->Prop),(∀y,B' y->B y \/ H0 y=AD)->Step φ0 H0 φ H->yE X.K S.cl B' φ H st->i<xs.length->J.yld i H x H'->∃v,xs[i]?=AA v/\yg X.K S.cl B' φ H' v x/\∀b o,H b=AA o->H' b=AA o
abbrev RD(B:AI->Prop):Ph->Hp->List PV->It->Prop:=λφ H=>Drw S X B φ H
def tI(c:Cit):TI:=λσ H R=>∃B φ st ρ,yE X.K S.cl B φ H st/\yM X.K S.cl B φ H ρ σ/\Run S X σ B φ H (RD S X B) (evi S.call ρ st c) R
end
section
variable {S:Se}{X:Cx}{σ:St}{B:AI->Prop}{φ φ1:Ph}{H H1:Hp}{st:SO}{ρ:IC.Env}{D:Ends}{pos p p2 px:CV}{a b c o tg l:AV}{ca cb cc:Ce}{es:List AV}{ces:Ces}{ss:List Bz}{cs:Css}{ci:Cit}{ct:Tg}
def zms:PE X a (tE S X .nope):=λπ s σ H Q I ⟨B,φ,st,ρ,rs,re,h⟩=>by
 erw[ev]at h;exact h.elim
def zlQ{s1:Bz}:PS X s1 (tS S X .nope):=λπ s σ H D I ⟨B,φ,st,ρ,rs,re,h⟩=>by
 erw[ex]at h;exact h.elim
theorem PI.imp{t t':TI}(h:PI X tg l t')(k:∀σ H R,t σ H R->t' σ H R):PI X tg l t:=λπ s σ H R I q=>h π s σ H R I (k σ H R q)
def znL{tl:TE}(hl:PE X l tl):PI X tg l (λσ H R=>tl σ H λx H1=>∃a,x=.ref a/\(((∃xs,SqL X.K H1 a xs)/\R (Itl X.K a) H1) \/ ((∃xs,SqT X.K H1 a xs)/\R (Itt X.K a) H1))):=by
 intro π s σ H R I h;refine thn (hl π s σ H _ I h) λv s1 kq=>?_;let⟨x,H1,I1,r1,q1⟩:=kq;let⟨a,e,q1⟩:=q1;subst e
 cases r1
 rcases q1 with⟨⟨xs,hq⟩,q⟩|⟨⟨xs,hq⟩,q⟩
 .let⟨its,rv,p,hz⟩:=I1.list hq;refine EX p.isList ?_;refine⟨s1.heap.objs.size,[s1.heap.objs.size],_,_,H1,rfl,I1.kept (t':=s1.toks) λb o e=>AR _ e,zhM a _,⟨_,A2 _ rfl,rfl,rfl⟩,λb hb=>?_,q⟩;have e:b=s1.heap.objs.size:=by simpa using hb
  subst e;exact I1.fpOk (AU _) (I1.hok.fresh (AU _))
 .let⟨its,rv,p,hz⟩:=I1.tuple hq;refine Bs (show s1.heap.IsTuple a its.toArray from p) ?_;refine⟨s1.heap.objs.size,[s1.heap.objs.size],_,_,H1,rfl,I1.kept (t':=s1.toks) λb o e=>AR _ e,zgP a _,⟨_,A2 _ rfl,rfl,rfl⟩,λb hb=>?_,q⟩;have e:b=s1.heap.objs.size:=by simpa using hb
  subst e;exact I1.fpOk (AU _) (I1.hok.fresh (AU _))
def zmF{k:Bool}{vs:List PV}{xs:List V}{y:AI}(rt:ybN X.K B φ H k y xs)(l:yj X.K S.cl B φ H vs xs):Drw S X B φ H vs (Itt X.K y):=by
 have hl:=l.length;refine⟨λφ' H' s=>⟨xs,(rt.step s).sq,by lia⟩,λi φ' H' s hi=>⟨xs,xs[i]'∅,(rt.step s).sq,by simp[show i<xs.length by lia]⟩,λi φ' H' st x H2 B' hB s rs hi q=>?_⟩;let⟨rfl,q⟩:=q;obtain⟨v,hv⟩:∃v,vs[i]?=AA v:=⟨vs[i],by simp[hi]⟩;let⟨x',hx',rv⟩:=l.get i hv;have:=q xs (rt.step s).sq;rw[this]at hx'
 cases hx'
 exact⟨v,hv,(rv.moreB hB).step s,λ_ _ e=>e⟩
def zlj{vs:List PV}{xs:List V}{y:AI}(rt:ycQ B φ H y xs)(l:yj X.K S.cl B φ H vs xs):Drw S X B φ H vs (Itl X.K y):=by
 have hl:=l.length;refine⟨λφ' H' s=>⟨xs,(rt.step s).sq,by lia⟩,λi φ' H' s hi=>⟨xs,xs[i]'∅,(rt.step s).sq,by simp[show i<xs.length by lia]⟩,λi φ' H' st x H2 B' hB s rs hi q=>?_⟩;let⟨rfl,q⟩:=q;obtain⟨v,hv⟩:∃v,vs[i]?=AA v:=⟨vs[i],by simp[hi]⟩;let⟨x',hx',rv⟩:=l.get i hv;have:=q xs (rt.step s).sq;rw[this]at hx'
 cases hx'
 exact⟨v,hv,(rv.moreB hB).step s,λ_ _ e=>e⟩
def zoE(hl:PE X l (tE S X ca)):PI X tg l (tI S X (.seq ca)):=
 (znL hl).imp λσ H R ⟨B,φ,st,ρ,rs,re,h⟩=>by
  erw[evi]at h;refine tE.bind rs re h λx H1 v st1 φ1 s1 rs1 re1 rv h1=>?_
  cases v with
  |tp k vs=>
   erw[yg]at rv;let⟨y,xs,rfl,rt,l⟩:=rv;exact⟨y,rfl,.inr ⟨⟨xs,rt.sq⟩,h1.ok rs1 (zmF rt l)⟩⟩
  |lst vs=>
   erw[yg]at rv;let⟨y,xs,rfl,rt,l⟩:=rv;exact⟨y,rfl,.inl ⟨⟨xs,rt.sq⟩,h1.ok rs1 (zlj rt l)⟩⟩
  |_=>exact h1.elim
def zdZ:∀(n:Nat) (lo d:Int) (i:Nat),(yt n lo d)[i]?=if i<n then AA (.int (lo+i*d))else AD
 |0,lo,d,i=>by simp[yt]
 |n+1,lo,d,0=>by simp[yt]
 |n+1,lo,d,i+1=>by
  erw[yt,AM];rw[zdZ n (lo+d) d i]
  by_cases h:i<n
  .rw[if_pos h,if_pos ∅,Int.natCast_succ,BQ,Bk,Int.add_assoc,Ct d]
  .rw[if_neg h,if_neg ∅]
def zbB:∀(n:Nat) (lo d:Int),(yt n lo d).length=n
 |0,lo,d=>rfl
 |n+1,lo,d=>by simp[yt,zbB n]
def zi9{lo:Int}{n:Nat}:Drw S X B φ H (yt n lo 1) (Itr lo n):=by
 refine⟨λφ' H' s=>by rw[zbB];exact AU _,λi φ' H' s hi=>by rw[zbB]at hi;exact hi,λi φ' H' st x H2 B' hB s rs hi q=>?_⟩;rw[zbB]at hi;let⟨rfl,rfl⟩:=q;refine⟨.int (lo+i),?_,by erw[yg],λ_ _ e=>e⟩;rw[zdZ,if_pos hi,CW]
def ziq{o:Option (List PV)}{st:SO}{Q:It->Hp->Prop}(h:Run S X σ B φ H (RD S X B) (toL o st) Q):∃xs,o=AA xs/\Run S X σ B φ H (RD S X B) (.ok xs st) Q:=by
 cases o with
 |none=>exact h.elim
 |some z=>exact⟨z,rfl,h⟩
def ziV(hg:Gl X "range")(hm:X.mg "range"=AD)(ha:PE X a (tE S X ca))(hs:starEach [a] X.env=[(AC,eval a X.env)]:=by rfl):PI X tg (.Call (.Name "range" p) [a] [] pos) (tI S X (.range1 ca)):=
 (ziM hg hm (zbS ha zj5 hs) hs).imp λσ H R ⟨B,φ,st,ρ,rs,re,h⟩=>by
  erw[evi]at h;refine tE.bind rs re h λx H1 v st1 φ1 s1 rs1 re1 rv h1=>?_;let⟨xs,e,h1⟩:=ziq h1
  cases v with
  |int j=>
   erw[ybQ]at e;split at e
   .cases e
    erw[yg]at rv;subst rv;exact⟨j,rfl,by lia,by lia,h1.ok rs1 zi9⟩
   .cases e
  |_=>cases e
def zdv:∀(xs:List PV) (k i:Nat),(yab k xs)[i]?=(xs[i]?).map λx=>.tup [.int ((k+i:Nat):Int),x]
 |[],k,i=>by simp[yab]
 |x::xs,k,0=>by simp[yab]
 |x::xs,k,i+1=>by
  erw[yab,AM];rw[zdv xs (k+1) i];have:k+1+i=k+(i+1):=by lia
  rw[this]
def zdI:∀(xs:List PV) (k:Nat),(yab k xs).length=xs.length
 |[],k=>rfl
 |x::xs,k=>by simp[yab,zdI xs]
def zjj{k:Bool}{vs:List PV}{xs:List V}{y:AI}(rt:ybN X.K B φ H k y xs)(l:yj X.K S.cl B φ H vs xs):Drw S X B φ H (yab 0 vs) (Ite X.K y):=by
 have hl:=l.length;have hp:=zdI vs 0;refine⟨λφ' H' s=>⟨xs,(rt.step s).sq,by lia⟩,λi φ' H' s hi=>⟨xs,xs[i]'∅,(rt.step s).sq,by simp[show i<xs.length by lia]⟩,λi φ' H' st x H2 B' hB s rs hi q=>?_⟩;let⟨T,hT,rfl,q⟩:=q;obtain⟨v,hv⟩:∃v,vs[i]?=AA v:=⟨vs[i]'∅,by simp[show i<vs.length by lia]⟩;let⟨x',hx',rv⟩:=l.get i hv;have e:=q xs x' (rt.step s).sq hx';subst e;refine⟨.tup [.int i,v],?_,.tup_new hT rs ?_,λb o e=>by rw[zj (zn e hT)];exact e⟩
 .rw[zdv,hv];simp
 .simp only[yj,yg];exact⟨_,_,rfl,rfl,x',[],rfl,(rv.moreB hB).step s,rfl⟩
def zlN{es:List AV}{kk:Nat}{tp:CV}(hg:Gl X "enumerate")(hm:X.mg "enumerate"=AD)(ha:PE X a (tE S X ca))(hs:starEach [a] X.env=[(AC,eval a X.env)]:=by rfl):
  PI X (.Tuple es kk tp) (.Call (.Name "enumerate" p) [a] [] pos) (tI S X (.enum ca)):=
 (zj3 hg hm (zbS ha zj5 hs) hs).imp λσ H R ⟨B,φ,st,ρ,rs,re,h⟩=>by
  erw[evi]at h;refine tE.bind rs re h λx H1 v st1 φ1 s1 rs1 re1 rv h1=>?_
  cases v with
  |tp k vs=>
   erw[yg]at rv;let⟨y,xs,rfl,rt,l⟩:=rv;exact⟨y,rfl,⟨xs,rt.sq⟩,h1.ok rs1 (zjj rt l)⟩
  |_=>exact h1.elim
def tG(S:Se)(X:Cx)(t:Tg):TG:=λv σ H Q=>∃B φ st ρ w ρ',yE X.K S.cl B φ H st/\yM X.K S.cl B φ H ρ σ/\yg X.K S.cl B φ H w v/\yJ t w ρ=AA ρ'/\∀σ',yM X.K S.cl B φ H ρ' σ'->Q σ' H
theorem PG.imp{t t':TG}(h:PG X tg t')(k:∀v σ H Q,t v σ H Q->t' v σ H Q):PG X tg t:=λπ s σ H v u Q I rv q=>h π s σ H v u Q I rv (k v σ H Q q)
def zmf{i:Nat}{x:AQ}(hN:X.N.Nodup)(hi:X.N[i]?=AA x)(hx:Loc X.env.scope x)(hf:X.fn x=AB \/ X.env.scope.names.lookup x=AA .local:=by first|exact .inl rfl|exact .inr rfl|assumption):PG X (.Name x pos) (tG S X (.n i)):=
 (zhC hN hi hx hf).imp λv σ H Q ⟨B,φ,st,ρ,w,ρ',rs,re,rv,e,q⟩=>by
  cases e
  exact q _ (re.set i rv)
def gNs(l:List Nat):TGs:=λvs σ H Q=>vs.length=l.length/\Q ((l.zip vs).foldl (λσ p=>σ.set p.1 (AA p.2)) σ) H
theorem PGs.imp{es:List AV}{t t':TGs}(h:PGs X es t')(k:∀v σ H Q,t v σ H Q->t' v σ H Q):PGs X es t:=λπ s σ H vs us Q I rv q=>h π s σ H vs us Q I rv (k vs σ H Q q)
def zlH:PGs X [] (gNs []):=zqC.imp λvs σ H Q ⟨h,q⟩=>by
 cases vs with
 |nil=>exact⟨rfl,q⟩
 |cons _ _=>cases h
def zjs{es:List AV}{l:List Nat}{i:Nat}{x:AQ}(hN:X.N.Nodup)(hi:X.N[i]?=AA x)(hx:Loc X.env.scope x)(h2:PGs X es (gNs l))(hf:X.fn x=AB \/ X.env.scope.names.lookup x=AA .local:=by first|exact .inl rfl|exact .inr rfl|assumption):PGs X (.Name x pos::es) (gNs (i::l)):=
 (zjv (zhC hN hi hx hf) h2).imp λvs σ H Q ⟨h,q⟩=>by
  cases vs with
  |nil=>cases h
  |cons v vs=>exact⟨v,vs,rfl,by simpa using h,q⟩
theorem yM.sets{K:AF}{cl:Nat->AI}:∀(l:List Nat) {vs:List PV} {xs:List V} {ρ:IC.Env} {σ:St},yM K cl B φ H ρ σ->yj K cl B φ H vs xs ->
  yM K cl B φ H ((l.zip vs).foldl (λρ p=>ρ.set p.1 (AA p.2)) ρ) ((l.zip xs).foldl (λσ p=>σ.set p.1 (AA p.2)) σ)
 |[],vs,xs,ρ,σ,re,l=>by simpa using re
 |i::is,[],xs,ρ,σ,re,l=>by
  erw[yj]at l;subst l;simpa using re
 |i::is,v::vs,xs,ρ,σ,re,l=>by
  erw[yj]at l;let⟨y,ys,rfl,r,l⟩:=l;erw[EM,Dn];exact yM.sets is (re.set i r) l
def zpe{es:List AV}{l:List Nat}{k:Nat}(hc:X.calm=AB)(h:PGs X es (gNs l))(hn:(assignEach es X.env).length=l.length:=by rfl)(hst:(assignEach es X.env).findIdx? (·.1)=none:=by rfl):PG X (.Tuple es k pos) (tG S X (.t l)):=
 (zoH hc h hn hst).imp λv σ H Q ⟨B,φ,st,ρ,w,ρ',rs,re,rv,e,q⟩=>by
  cases w with
  |tp kk vs=>
   erw[yJ]at e;split at e
   .rename_i c
    cases e
    erw[yg]at rv;let⟨y,xs,rfl,rt,lr⟩:=rv;have hl:=lr.length;exact⟨y,xs,rfl,rt.sq,by lia,by lia,q _ (yM.sets l re lr)⟩
   .cases e
  |_=>cases e
def zmI{es:List AV}{l:List Nat}{k:Nat}(he:PE X a (tE S X ca))(hg:PG X (.Tuple es k p2) (tG S X (.t l)))(hs:swapsWithSole [.Tuple es k p2] a pos.line X.env=pure false:=by rfl)(hw:swappedStores [.Tuple es k p2] a X.env=pure none:=by rfl):
  PS X (.Assign [.Tuple es k p2] a pos) (tS S X (.asg (.t l) ca)):=
 (zla he hg hs hw).imp λD σ H ⟨B,φ,st,ρ,rs,re,h⟩=>by
  erw[ex]at h;refine tE.fl rs re h λx H1 v st1 φ1 s rs1 re1 rv h1=>?_
  cases e:yJ (.t l) v ρ with
  |none=>rw[e]at h1;exact h1.elim
  |some ρ'=>
   rw[e]at h1;exact⟨B,φ1,st1,ρ,v,ρ',rs1,re1,rv,e,λσ' re'=>h1 σ' H1 φ1 .rfl rs1 re'⟩
theorem tI.fl{k:List PV->SO->Fl}{P:It->Hp->Prop}(rs:yE X.K S.cl B φ H st)(re:yM X.K S.cl B φ H ρ σ)(h:yaH S X B φ H ((evi S.call ρ st ci).fl ρ k) D)
  (n:∀x H1 v st1 φ1,Step φ H φ1 H1->yE X.K S.cl B φ1 H1 st1->yM X.K S.cl B φ1 H1 ρ σ->Drw S X B φ1 H1 v x->yaH S X B φ1 H1 (k v st1) D->P x H1):tI S X ci σ H P:=by
 refine⟨B,φ,st,ρ,rs,re,?_⟩
 cases e:evi S.call ρ st ci with
 |ok v st'=>
  rw[e]at h;exact λx H' φ' s rs' rv=>n x H' v st' φ' s rs' (re.step s) rv (h.on s)
 |exc k st'=>
  rw[e]at h;exact λe s' x=>h σ φ H e s' .rfl re x
 |bad=>rw[e]at h;exact h
def zoW(hp:Ee (model X.prog X.w) X.A X.env X.xe)(hc:X.calm=AB)(hi:PI X tg l (tI S X ci))(hg:PG X tg (tG S X ct))(hb:PSs X ss (tSs S X cs))(hs:∀x,foldedSetIterable l X.env x=pure x:=by intro _;rfl):
  PS X (.For tg l ss [] pos) (tS S X (.for ct ci cs)):=
 (zoX hp hc hi hg hb hs).imp λD σ H ⟨B,φ,st,ρ,rs,re,h⟩=>by
  erw[ex]at h;refine tI.fl rs re h λJ H1 xs st1 φ1 s1 rs1 re1 dr h1=>?_;refine⟨λi m σ H=>∃φ st ρ,i+m=xs.length/\Step φ1 H1 φ H/\yE X.K S.cl B φ H st/\yM X.K S.cl B φ H ρ σ/\yaH S X B φ H (forL ct (λρ2 st2=>exs S.call ρ2 st2 cs) (xs.drop i) ρ st) D,
   ⟨xs.length,φ1,st1,ρ,by lia,.rfl,rs1,re1,by simpa using h1⟩,?_⟩
  rintro i m σ2 H2 ⟨φ2,st2,ρ2,hm,s2,rs2,re2,h2⟩
  by_cases hi:i<xs.length
  .refine .inr ⟨dr.go i φ2 H2 s2 hi,λσ' H'=>∃φ st ρ,Step φ1 H1 φ H'/\yE X.K S.cl B φ H' st/\yM X.K S.cl B φ H' ρ σ'/\yaH S X B φ H' (forL ct (λρ2 st2=>exs S.call ρ2 st2 cs) (xs.drop (i+1)) ρ st) D,
    λσ' H' ⟨φ,st,ρ,s,q⟩=>⟨m-1,by lia,φ,st,ρ,by lia,s,q⟩,λx H3 hy=>?_⟩
   let⟨v,hv,rv,kk⟩:=dr.yld i φ2 H2 st2 x H3 B (λ_ z=>.inl z) s2 rs2 hi hy;have e:xs.drop i=v::xs.drop (i+1):=by
    rw[ES hi];rw[DC hi]at hv;rw[AZ hv]
   have s3:Step φ2 H2 φ2 H3:=⟨λb o _ e=>kk b o e,AU _,λ_ _ _ e=>e,λ_ h=>.inl h⟩;have rs3:yE X.K S.cl B φ2 H3 st2:=rs2.same kk;rw[e,forL]at h2
   cases eb:yJ ct v ρ2 with
   |none=>rw[eb]at h2;exact h2.elim
   |some ρ3=>
    rw[eb]at h2;refine⟨B,φ2,st2,ρ2,v,ρ3,rs3,re2.step s3,rv,eb,λσ' re'=>⟨B,φ2,st2,ρ3,rs3,re',?_⟩⟩;have h3:=yaH.on s3 h2;dsimp only at h3
    cases ee:exs S.call ρ3 st2 cs with
    |nx ρ4 st4=>
     rw[ee]at h3;exact λσ4 H4 φ4 s4 rs4 re4=>⟨φ4,st4,ρ4,s2.trans (s3.trans s4),rs4,re4,yaH.on s4 h3⟩
    |ct ρ4 st4=>
     rw[ee]at h3;exact λσ4 H4 φ4 s4 rs4 re4=>⟨φ4,st4,ρ4,s2.trans (s3.trans s4),rs4,re4,yaH.on s4 h3⟩
    |bk ρ4 st4=>rw[ee]at h3;exact h3
    |rt v4 st4=>rw[ee]at h3;exact h3
    |exc k ρ4 st4=>rw[ee]at h3;exact h3
    |bad=>rw[ee]at h3;exact h3
  .have e:i=xs.length:=by lia
   subst e;rw[GW,forL]at h2;exact .inl ⟨dr.stop φ2 H2 s2,h2 σ2 H2 φ2 .rfl rs2 re2⟩
def zjx(hp:Ee (model X.prog X.w) X.A X.env X.xe)(hc:PT X c (tTs S X cc))(hb:PSs X ss (tSs S X cs)):PS X (.While c ss [] pos) (tS S X (.while cc cs)):=
 (zjO hp hc hb).imp λD σ H ⟨B,φ,st,ρ,rs,re,h⟩=>by
  erw[ex]at h;refine⟨λm σ H=>∃φ st ρ,yE X.K S.cl B φ H st/\yM X.K S.cl B φ H ρ σ/\yaH S X B φ H (yas (λρ2 st2=>ev S.call ρ2 st2 cc) (λρ2 st2=>exs S.call ρ2 st2 cs) m ρ st) D,⟨100000,φ,st,ρ,rs,re,h⟩,?_⟩
  rintro m σ2 H2 ⟨φ2,st2,ρ2,rs2,re2,h2⟩
  cases m with
  |zero=>exact h2.elim
  |succ m=>
   rw[yas]at h2;rw[flT _ λk st1=>cond k (yax (exs S.call ρ2 st1 cs) λρ2 st2=>yas (λρ2 st2=>ev S.call ρ2 st2 cc) (λρ2 st2=>exs S.call ρ2 st2 cs) m ρ2 st2) (.nx ρ2 st1)]at h2;refine tTs.fl rs2 re2 h2 λk H3 st3 φ3 s3 rs3 re3 h3=>?_
   cases k with
   |false=>exact h3 σ2 H3 φ3 .rfl rs3 re3
   |true=>
    refine⟨λσ' H'=>∃φ st ρ,yE X.K S.cl B φ H' st/\yM X.K S.cl B φ H' ρ σ'/\yaH S X B φ H' (yas (λρ2 st2=>ev S.call ρ2 st2 cc) (λρ2 st2=>exs S.call ρ2 st2 cs) m ρ st) D,
     λσ' H' q=>⟨m,by lia,q⟩,B,φ3,st3,ρ2,rs3,re3,?_⟩
    erw[cond_true]at h3
    cases ee:exs S.call ρ2 st3 cs with
    |nx ρ4 st4=>
     rw[ee]at h3;exact λσ4 H4 φ4 s4 rs4 re4=>⟨φ4,st4,ρ4,rs4,re4,yaH.on s4 h3⟩
    |ct ρ4 st4=>
     rw[ee]at h3;exact λσ4 H4 φ4 s4 rs4 re4=>⟨φ4,st4,ρ4,rs4,re4,yaH.on s4 h3⟩
    |bk ρ4 st4=>rw[ee]at h3;exact h3
    |rt v4 st4=>rw[ee]at h3;exact h3
    |exc k ρ4 st4=>rw[ee]at h3;exact h3
    |bad=>rw[ee]at h3;exact h3
end
section
variable (S:Se)(K:AF)
def yfs{α β:Type}(B:AI->Prop)(φ:Ph)(H:Hp)(Rel:Ph->Hp->α->β->Prop)(r:R α)(Q:β->Hp->Prop):Prop:=
 match r with
 |.ok v st'=>∀x H' φ',Step φ H φ' H'->yE K S.cl B φ' H' st'->Rel φ' H' v x->Q x H'
 |_=>False
def tE0(c:Ce):TE:=λσ H Q=>∃B φ st ρ,yE K S.cl B φ H st/\yM K S.cl B φ H ρ σ/\yfs S K B φ H (λφ H=>yg K S.cl B φ H) (ev S.call ρ st c) Q
def tT0(c:Ce):TT:=λσ H Q=>∃B φ st ρ,yE K S.cl B φ H st/\yM K S.cl B φ H ρ σ/\yfs S K B φ H RB (ya7 (ev S.call ρ st c)) Q
def tG0(t:Tg):TG:=λv σ H Q=>∃B φ st ρ w ρ',yE K S.cl B φ H st/\yM K S.cl B φ H ρ σ/\yg K S.cl B φ H w v/\yJ t w ρ=AA ρ'/\∀σ',yM K S.cl B φ H ρ' σ'->Q σ' H
end
section
variable {S:Se}{X:Cx}{K:AF}{cl:Nat->AI}{σ:St}{B:AI->Prop}{φ φ1:Ph}{H H1:Hp}{st:SO}{ρ:IC.Env}{pos p p2 px:CV}{a b c o tg l elt iter:AV}{ca cb cc ce:Ce}{ci:Cit}{ct:Tg}
def zlJ(hK:X.K=K)(h:PE X a (tE S X ca)):PE X a (tE0 S K ca):=by
 subst hK;refine h.imp λσ H Q kq=>?_;let⟨B,φ,st,ρ,rs,re,q⟩:=kq;refine ⟨B,φ,st,ρ,rs,re,?_⟩
 cases e:ev S.call ρ st ca with
 |ok v st'=>rw[e]at q;exact q
 |exc k st'=>rw[e]at q;exact q.elim
 |bad=>rw[e]at q;exact q
def zlu(hK:X.K=K)(h:PT X a (tTs S X ca)):PTs X [a] (tT0 S K ca):=by
 subst hK;refine zlo (h.imp λσ H Q kq=>?_);let⟨B,φ,st,ρ,rs,re,q⟩:=kq;refine ⟨B,φ,st,ρ,rs,re,?_⟩
 cases e:ya7 (ev S.call ρ st ca)with
 |ok v st'=>rw[e]at q;exact q
 |exc k st'=>rw[e]at q;exact q.elim
 |bad=>rw[e]at q;exact q
def zke:PTs X [] (tT0 S K (.cst (.bl AB))):=λπ s σ H Q I ⟨B,φ,st,ρ,rs,re,q⟩=>by
 refine zmb π s σ H Q I ?_;erw[ev,ya7,R.bind,yaL,onO]at q;exact q AB H φ .rfl rs rfl
def zlw(hK:X.K=K)(h:PG X tg (tG S X ct)):PG X tg (tG0 S K ct):=by
 subst hK;exact h
theorem ybN.skip{k:Bool}{D y:AI}{u:HO}{xs:List V}(hD:B D)(r:ybN K B φ H k y xs):ybN K B φ (L2.upd H D u) k y xs:=by
 rcases r with⟨r,b,n⟩|r
 .exact .inl ⟨by rw[zj (show y≠D from λz=>b (z ▸ hD))];exact r,b,n⟩
 .exact .inr r
mutual
theorem yg.skip{D:AI}{u:HO}(hD:B D):∀(v:PV) (x:V),yg K cl B φ H v x->yg K cl B φ (L2.upd H D u) v x
 |.non,x,h=>by erw[yg]at h ⊢;exact h
 |.bl b,x,h=>by erw[yg]at h ⊢;exact h
 |.int i,x,h=>by erw[yg]at h ⊢;exact h
 |.str y,x,h=>by erw[yg]at h ⊢;exact h
 |.tp k vs,x,h=>by
  erw[yg]at h ⊢;let⟨y,xs,e,r,l⟩:=h;exact⟨y,xs,e,r.skip hD,yj.skip hD vs xs l⟩
 |.lst vs,x,h=>by
  erw[yg]at h ⊢;let⟨y,xs,e,⟨r,b,n⟩,l⟩:=h;exact⟨y,xs,e,⟨by rw[zj (show y≠D from λz=>b (z ▸ hD))];exact r,b,n⟩,yj.skip hD vs xs l⟩
 |.loc n,x,h=>by erw[yg]at h ⊢;exact h
 |.exn c,x,h=>by
  erw[yg]at h ⊢;let⟨y,e,r,b,n⟩:=h;exact⟨y,e,by rw[zj (show y≠D from λz=>b (z ▸ hD))];exact r,b,n⟩
 |.scr vs,x,h=>by
  erw[yg]at h ⊢;let⟨y,xs,e,r,l⟩:=h;refine⟨y,xs,e,?_,yj.skip hD vs xs l⟩;rcases r with⟨r,b,n⟩|r
  .refine .inl ⟨?_,b,n⟩;have ne:y≠D:=λz=>b (z ▸ hD);rcases r with r|⟨o,r⟩
   .exact .inl (by rw[zj ne];exact r)
   .exact .inr ⟨o,by rw[zj ne];exact r⟩
  .exact .inr r
theorem yj.skip{D:AI}{u:HO}(hD:B D):∀(v:List PV) (x:List V),yj K cl B φ H v x->yj K cl B φ (L2.upd H D u) v x
 |[],x,h=>by erw[yj]at h ⊢;exact h
 |v::vs,x,h=>by
  erw[yj]at h ⊢;let⟨y,ys,e,r,l⟩:=h;exact⟨y,ys,e,yg.skip hD v y r,yj.skip hD vs ys l⟩
end
theorem DK.skip{D:AI}{u:HO}(hD:B D):∀{kvs:List (PV×PV)} {ks:List (Key×V)},DK K cl B φ H kvs ks->DK K cl B φ (L2.upd H D u) kvs ks
 |[],ks,h=>h
 |(k,v)::r,ks,h=>by
  let⟨q,x,t,e,m,rv,l⟩:=h;exact⟨q,x,t,e,m,rv.skip hD,DK.skip hD l⟩
theorem DT.skip{D:AI}{u:HO}(hD:B D):∀{kvs:List (PV×PV)} {ks:List (List Key×V)},DT K cl B φ H kvs ks->DT K cl B φ (L2.upd H D u) kvs ks
 |[],ks,h=>h
 |(k,v)::r,ks,h=>by
  let⟨q,x,t,e,m,rv,l⟩:=h;exact⟨q,x,t,e,m,rv.skip hD,DT.skip hD l⟩
theorem FS.skip{D:AI}{u:HO}(hD:B D):∀{kvs:List (AQ×PV)} {ks:List (AQ×V)},FS K cl B φ H kvs ks->FS K cl B φ (L2.upd H D u) kvs ks
 |[],ks,h=>h
 |(k,v)::r,ks,h=>by
  let⟨x,t,e,rv,l⟩:=h;exact⟨x,t,e,rv.skip hD,FS.skip hD l⟩
theorem yE.skip{D:AI}{u:HO}(hD:B D)(rs:yE K cl B φ H st):yE K cl B φ (L2.upd H D u) st:=by
 refine⟨rs.len,rs.inj,λn y e=>?_,rs.liv,rs.nb,λy h=>?_⟩
 .let⟨o,q,r⟩:=rs.obj n y e;have ne:y≠D:=λz=>rs.nb y (A5 e) (z ▸ hD);refine⟨o,q,?_⟩
  cases o with
  |lst vs=>
   let⟨xs,hx,l⟩:=r;exact⟨xs,by rw[zj ne];exact hx,l.skip hD⟩
  |dct t kvs=>
   cases t with
   |false=>
    let⟨xs,hx,l⟩:=r;exact⟨xs,by rw[zj ne];exact hx,l.skip hD⟩
   |true=>
    let⟨xs,hx,l⟩:=r;exact⟨xs,by rw[zj ne];exact hx,l.skip hD⟩
  |ins c fs=>
   let⟨ks,⟨dx,hx⟩,l⟩:=r;exact⟨ks,⟨dx,by rw[zj ne];exact hx⟩,l.skip hD⟩
  |dead=>exact r.elim
 .by_cases z:y=D
  .subst z;exact⟨u,zq⟩
  .let⟨w,e⟩:=rs.dom y h;exact⟨w,by rw[zj z];exact e⟩
theorem yM.skip{D:AI}{u:HO}(hD:B D)(re:yM K cl B φ H ρ σ):yM K cl B φ (L2.upd H D u) ρ σ:=⟨re.len,λi v e=>by
 let⟨x,h,q⟩:=re.get i v e;exact⟨x,h,q.skip hD⟩⟩
def Bx(B:AI->Prop)(D:AI):AI->Prop:=λy=>B y \/ y=D
def zh7{D:AI}(hn:H D=AD):∀y,Bx B D y->B y \/ H y=none:=λy z=>z.elim .inl λq=>.inr (q ▸ hn)
theorem yg.more{D:AI}(hn:H D=AD){v:PV}{x:V}(h:yg K cl B φ H v x):yg K cl (Bx B D) φ H v x:=h.moreB (zh7 hn)
theorem yj.more{D:AI}(hn:H D=AD){v:List PV}{x:List V}(h:yj K cl B φ H v x):yj K cl (Bx B D) φ H v x:=h.moreB (zh7 hn)
mutual
theorem yg.less{D:AI}:∀(v:PV) (x:V),yg K cl (Bx B D) φ H v x->yg K cl B φ H v x
 |.non,x,h=>by erw[yg]at h ⊢;exact h
 |.bl b,x,h=>by erw[yg]at h ⊢;exact h
 |.int i,x,h=>by erw[yg]at h ⊢;exact h
 |.str y,x,h=>by erw[yg]at h ⊢;exact h
 |.tp k vs,x,h=>by
  erw[yg]at h ⊢;let⟨y,xs,e,r,l⟩:=h;refine⟨y,xs,e,?_,yj.less vs xs l⟩;rcases r with⟨r,b,n⟩|r
  .exact .inl ⟨r,λz=>b (.inl z),n⟩
  .exact .inr r
 |.lst vs,x,h=>by
  erw[yg]at h ⊢;let⟨y,xs,e,⟨r,b,n⟩,l⟩:=h;exact⟨y,xs,e,⟨r,λz=>b (.inl z),n⟩,yj.less vs xs l⟩
 |.loc n,x,h=>by erw[yg]at h ⊢;exact h
 |.exn c,x,h=>by
  erw[yg]at h ⊢;let⟨y,e,r,b,n⟩:=h;exact⟨y,e,r,λz=>b (.inl z),n⟩
 |.scr vs,x,h=>by
  erw[yg]at h ⊢;let⟨y,xs,e,r,l⟩:=h;refine⟨y,xs,e,?_,yj.less vs xs l⟩;rcases r with⟨r,b,n⟩|r
  .exact .inl ⟨r,λz=>b (.inl z),n⟩
  .exact .inr r
theorem yj.less{D:AI}:∀(v:List PV) (x:List V),yj K cl (Bx B D) φ H v x->yj K cl B φ H v x
 |[],x,h=>by erw[yj]at h ⊢;exact h
 |v::vs,x,h=>by
  erw[yj]at h ⊢;let⟨y,ys,e,r,l⟩:=h;exact⟨y,ys,e,yg.less v y r,yj.less vs ys l⟩
end
theorem DK.more{D:AI}(hn:H D=AD):∀{kvs:List (PV×PV)} {ks:List (Key×V)},DK K cl B φ H kvs ks->DK K cl (Bx B D) φ H kvs ks
 |[],ks,h=>h
 |(k,v)::r,ks,h=>by
  let⟨q,x,t,e,m,rv,l⟩:=h;exact⟨q,x,t,e,m,rv.more hn,DK.more hn l⟩
theorem DT.more{D:AI}(hn:H D=AD):∀{kvs:List (PV×PV)} {ks:List (List Key×V)},DT K cl B φ H kvs ks->DT K cl (Bx B D) φ H kvs ks
 |[],ks,h=>h
 |(k,v)::r,ks,h=>by
  let⟨q,x,t,e,m,rv,l⟩:=h;exact⟨q,x,t,e,m,rv.more hn,DT.more hn l⟩
theorem FS.more{D:AI}(hn:H D=AD):∀{kvs:List (AQ×PV)} {ks:List (AQ×V)},FS K cl B φ H kvs ks->FS K cl (Bx B D) φ H kvs ks
 |[],ks,h=>h
 |(k,v)::r,ks,h=>by
  let⟨x,t,e,rv,l⟩:=h;exact⟨x,t,e,rv.more hn,FS.more hn l⟩
theorem DK.less{D:AI}:∀{kvs:List (PV×PV)} {ks:List (Key×V)},DK K cl (Bx B D) φ H kvs ks->DK K cl B φ H kvs ks
 |[],ks,h=>h
 |(k,v)::r,ks,h=>by
  let⟨q,x,t,e,m,rv,l⟩:=h;exact⟨q,x,t,e,m,rv.less,DK.less l⟩
theorem DT.less{D:AI}:∀{kvs:List (PV×PV)} {ks:List (List Key×V)},DT K cl (Bx B D) φ H kvs ks->DT K cl B φ H kvs ks
 |[],ks,h=>h
 |(k,v)::r,ks,h=>by
  let⟨q,x,t,e,m,rv,l⟩:=h;exact⟨q,x,t,e,m,rv.less,DT.less l⟩
theorem FS.less{D:AI}:∀{kvs:List (AQ×PV)} {ks:List (AQ×V)},FS K cl (Bx B D) φ H kvs ks->FS K cl B φ H kvs ks
 |[],ks,h=>h
 |(k,v)::r,ks,h=>by
  let⟨x,t,e,rv,l⟩:=h;exact⟨x,t,e,rv.less,FS.less l⟩
theorem yE.less{D:AI}(rs:yE K cl (Bx B D) φ H st):yE K cl B φ H st:=by
 refine⟨rs.len,rs.inj,λn y e=>?_,rs.liv,λy h z=>rs.nb y h (.inl z),λy h=>rs.dom y (.inl h)⟩;let⟨o,q,r⟩:=rs.obj n y e;refine⟨o,q,?_⟩
 cases o with
 |lst vs=>let⟨xs,hx,l⟩:=r;exact⟨xs,hx,l.less⟩
 |dct t kvs=>cases t<;>(let⟨xs,hx,l⟩:=r;exact⟨xs,hx,l.less⟩)
 |ins c fs=>let⟨ks,hx,l⟩:=r;exact⟨ks,hx,l.less⟩
 |dead=>exact r.elim
theorem yE.more{D:AI}{u:HO}(hn:H D=AD)(rs:yE K cl B φ H st):yE K cl (Bx B D) φ (L2.upd H D u) st:=by
 have nD:AA D∉φ:=λz=>by
  let⟨w,e⟩:=rs.there z;rw[hn]at e;cases e
 have s:Step φ H φ (L2.upd H D u):=.upd hn;have rs':=rs.upd (o:=u) hn;refine⟨rs.len,rs.inj,λn y e=>?_,rs.liv,λy h z=>z.elim (rs.nb y h) λq=>nD (q ▸ h),λy h=>?_⟩
 .let⟨o,q,r⟩:=rs.obj n y e;have ne:y≠D:=λz=>nD (z ▸ A5 e);have hD:Bx B D D:=.inr rfl;refine⟨o,q,?_⟩
  cases o with
  |lst vs=>let⟨xs,hx,l⟩:=r;exact⟨xs,by rw[zj ne];exact hx,(l.more hn).skip hD⟩
  |dct t kvs=>
   cases t with
   |false=>let⟨xs,hx,l⟩:=r;exact⟨xs,by rw[zj ne];exact hx,(l.more hn).skip hD⟩
   |true=>let⟨xs,hx,l⟩:=r;exact⟨xs,by rw[zj ne];exact hx,(l.more hn).skip hD⟩
  |ins c fs=>let⟨ks,⟨dx,hx⟩,l⟩:=r;exact⟨ks,⟨dx,by rw[zj ne];exact hx⟩,(l.more hn).skip hD⟩
  |dead=>exact r.elim
 .rcases h with h|h
  .exact rs'.dom y h
  .subst h;exact⟨u,zq⟩
theorem yM.more{D:AI}{u:HO}(hn:H D=AD)(re:yM K cl B φ H ρ σ):yM K cl (Bx B D) φ (L2.upd H D u) ρ σ:=⟨re.len,λi v e=>by
 let⟨x,h,q⟩:=re.get i v e;exact⟨x,h,(q.more hn).skip (.inr rfl)⟩⟩
def yaD:Tg->List (Option Nat)->Bool
 |.n i,sl=>decide (sl[i]?=AA AD)
 |.t l,sl=>l.all λi=>decide (sl[i]?=AA AD)
def zgd:∀(l:List Nat) (vs:List PV) (ρ:IC.Env) (j:Nat),j∉l->((l.zip vs).foldl (λρ p=>ρ.set p.1 (AA p.2)) ρ)[j]?=ρ[j]?
 |[],vs,ρ,j,h=>by simp
 |i::is,[],ρ,j,h=>by simp
 |i::is,v::vs,ρ,j,h=>by
  erw[EM,Dn];rw[zgd is vs _ j λz=>h (AW _ z),AO]
  rintro rfl
  exact h BB
def zgi:∀(l:List Nat) (vs:List PV) (ρ:IC.Env),((l.zip vs).foldl (λρ p=>ρ.set p.1 (AA p.2)) ρ).length=ρ.length
 |[],vs,ρ=>by simp
 |i::is,[],ρ=>by simp
 |i::is,v::vs,ρ=>by
  erw[EM,Dn];rw[zgi is vs,B4]
theorem yM.untgt{sl:List (Option Nat)}{ρ0 ρ1:IC.Env}{v:PV}(hf:yaD ct sl=AB)(h0:∀(i:Nat),sl[i]?=AA AD->ρ0[i]?=AA AD)(hb:yJ ct v ρ0=AA ρ1)(re:yM K cl B φ H ρ1 σ):yM K cl B φ H ρ0 σ:=by
 cases ct with
 |n i=>
  cases hb
  erw[yaD,decide_eq_true_eq]at hf;refine⟨by rw[<-re.len,B4],λj w e=>re.get j w ?_⟩;rw[AO]
  .exact e
  .rintro rfl
   rw[h0 _ hf]at e;cases e
 |t l=>
  cases v with
  |tp k vs=>
   erw[yJ]at hb;split at hb
   .cases hb
    erw[yaD,Bl,decide_eq_true_eq]at hf;refine⟨by rw[<-re.len,zgi],λj w e=>re.get j w ?_⟩;rw[zgd]
    .exact e
    .intro z;rw[h0 _ (hf j z)]at e;cases e
   .cases hb
  |_=>cases hb
theorem yM.inn{sl:List (Option Nat)}(re:yM K cl B φ H ρ σ):yM K cl B φ H (sl.map λo=>o.bind λj=>(ρ[j]?).join) (L2.inn sl σ):=by
 unfold L2.inn;refine⟨by simp,λi v e=>?_⟩;rw[CA]at e ⊢
 cases q:sl[i]? with
 |none=>rw[q]at e;cases e
 |some o=>
  rw[q]at e
  cases o with
  |none=>cases e
  |some j=>
   erw[Dp,Bj,Option.some.injEq]at e ⊢
   cases q2:ρ[j]? with
   |none=>rw[q2]at e;cases e
   |some w=>
    rw[q2]at e;erw[Option.join_some]at e;subst e;let⟨x,hx,rv⟩:=re.get j v q2;exact⟨x,by rw[hx];rfl,rv⟩
def zqL:1000000<sizeLine:=by rw[Dh];decide
def zov{α:Type}{o:Option Bool}{k:Bool->R α}{z:α}{s:SO}(h:onO o k=.ok z s):∃b,o=AA b/\k b=.ok z s:=by
 cases o with
 |none=>cases h
 |some b=>exact⟨b,rfl,h⟩
def zbk{α β:Type}{r:R α}{k:α->SO->R β}{z:β}{s:SO}(h:r.bind k=.ok z s):∃a s1,r=.ok a s1/\k a s1=.ok z s:=by
 cases r with
 |ok a s1=>exact⟨a,s1,rfl,h⟩
 |exc c s=>cases h
 |bad=>cases h
def zhj{sl:List (Option Nat)}(hf:yaD ct sl=AB){H:Hp}{Q:VK}(h:tE S X (.comp sl ct ci cc ce) σ H Q):ydx sl (tI S X ci) (tG0 S X.K ct) (tT0 S X.K cc) (tE0 S X.K ce) σ H Q:=by
  let⟨B,φ,st,ρ,rs,re,h⟩:=h;erw[ev]at h;refine⟨B,φ,st,ρ,rs,re,(Run.bind h).mono λJ H1 kq=>?_⟩;let⟨xs,st1,φ1,s1,rs1,dr,h1⟩:=kq;refine λD hD=>?_
  generalize hone:(λ(x:PV) (st2:SO)=>match yJ ct x (sl.map λo=>o.bind λj=>(ρ[j]?).join)with
   |none=>(R.bad:R (Option PV))
   |some ρ1=>(ev S.call ρ1 st2 cc).bind λb st3=>onO (yaL st3 b) λk=>cond k ((ev S.call ρ1 st3 ce).bind λy st4=>.ok (AA y) st4) (.ok AD st3))=one at h1
  cases e:yaP one xs st1 with
  |exc k s=>rw[e]at h1;exact h1.elim
  |bad=>rw[e]at h1;exact h1.elim
  |ok zs st5=>
   rw[e]at h1;erw[ycf]at h1;split at h1
   case isFalse=>exact h1.elim
   rename_i hz;have nB:¬B D:=rs1.nB hD;have nD:AA D∉φ1:=λz=>by
    let⟨w,e⟩:=rs1.there z;rw[hD]at e;cases e
   refine⟨λi m σc ys H2=>∃φ2 st2 vs rest,i+m=xs.length/\Step φ1 H1 φ2 H2/\H2 D=AA (.lst ys)/\AA D∉φ2/\yE X.K S.cl (Bx B D) φ2 H2 st2/\yM X.K S.cl (Bx B D) φ2 H2 (sl.map λo=>o.bind λj=>(ρ[j]?).join) σc /\
     yj X.K S.cl (Bx B D) φ2 H2 vs ys/\yaP one (xs.drop i) st2=.ok rest st5/\vs++rest=zs,
    ⟨xs.length,φ1,st1,[],zs,by lia,.upd hD,zq,nD,rs1.more hD,(yM.inn (re.step s1)).more hD,by erw[yj],by simpa using e,rfl⟩,?_⟩
   rintro i m σc ys H2 ⟨φ2,st2,vs,rest,hm,s2,hD2,nD2,rs2,re2,l2,ec,ez⟩
   refine⟨hD2,?_⟩
   by_cases hi:i<xs.length
   .have hl2:=l2.length;have hml:=zqL;have hzl:=congrArg Ca ez;rw[Ah]at hzl;refine .inr ⟨dr.go i φ2 H2 s2 hi,by lia,λσ' ys' H'=>∃φ2 st2 vs rest,Step φ1 H1 φ2 H'/\H' D=AA (.lst ys')/\AA D∉φ2/\yE X.K S.cl (Bx B D) φ2 H' st2/\yM X.K S.cl (Bx B D) φ2 H' (sl.map λo=>o.bind λj=>(ρ[j]?).join) σ' /\
     yj X.K S.cl (Bx B D) φ2 H' vs ys'/\yaP one (xs.drop (i+1)) st2=.ok rest st5/\vs++rest=zs,λσ' ys' H' ⟨φ2,st2,vs,rest,q⟩=>⟨m-1,by lia,φ2,st2,vs,rest,by lia,q⟩,λx H3 hy=>?_⟩
    let⟨v,hv,rv,kk⟩:=dr.yld i φ2 H2 st2 x H3 (Bx B D) (λy z=>z.elim .inl λq=>.inr (q ▸ hD)) s2 rs2 hi hy;have s3:Step φ2 H2 φ2 H3:=⟨λb o _ e=>kk b o e,AU _,λ_ _ _ e=>e,λ_ h=>.inl h⟩;have rs3:yE X.K S.cl (Bx B D) φ2 H3 st2:=rs2.same kk;have ed:xs.drop i=v::xs.drop (i+1):=by
     rw[ES hi];rw[DC hi]at hv;rw[AZ hv]
    rw[ed,yaP]at ec;let⟨o,st3,e1,ec⟩:=zbk ec;let⟨rest',st4,e2,ec⟩:=zbk ec;rw[<-hone]at e1;dsimp only at e1
    cases eb:yJ ct v (sl.map λo=>o.bind λj=>(ρ[j]?).join)with
    |none=>rw[eb]at e1;cases e1
    |some ρ1=>
     rw[eb]at e1;dsimp only at e1;let⟨bv,st6,e3,e1⟩:=zbk e1;let⟨k,e4,e1⟩:=zov e1;have er:st4=st5/\yb3 o rest'=rest:=by
      injection ec with q1 q2;exact⟨q2,q1⟩
     let⟨rfl,rfl⟩:=er;refine⟨Bx B D,φ2,st2,_,v,ρ1,rs3,re2.step s3,rv,eb,λσ4 re4=>⟨Bx B D,φ2,st2,ρ1,rs3,re4,?_⟩⟩;have et:ya7 (ev S.call ρ1 st2 cc)=.ok k st6:=by
      rw[e3];erw[ya7,R.bind,e4,onO]
     rw[et]
     rintro k' H5 φ5 s5 rs5 rfl
     have nD5:AA D∉φ5:=λz=>by
      rcases s5.new D z with q|q
      .exact nD2 q
      .rw[kk D _ hD2]at q;cases q
     have hD5:H5 D=AA (.lst ys):=s5.keep D _ nD2 (kk D _ hD2);have s25:Step φ1 H1 φ5 H5:=s2.trans (s3.trans s5);have l5:=(l2.step s3).step s5;have re5:yM X.K S.cl (Bx B D) φ5 H5 ρ1 σ4:=re4.step s5;have h0:∀(i:Nat),sl[i]?=AA AD->(sl.map λo=>o.bind λj=>(ρ[j]?).join)[i]?=AA none:=λi q=>by
      rw[CA,q];rfl
     cases k with
     |false=>
      erw[cond_false]at e1
      cases e1
      exact⟨φ5,_,vs,rest',s25,hD5,nD5,rs5,yM.untgt hf h0 eb re5,l5,e2,ez⟩
     |true=>
      erw[cond_true]at e1;let⟨y,st7,e5,e1⟩:=zbk e1
      cases e1
      refine⟨Bx B D,φ5,st6,ρ1,rs5,re5,?_⟩;rw[e5];intro y' H6 φ6 s6 rs6 ry;have nD6:AA D∉φ6:=λz=>by
       rcases s6.new D z with q|q
       .exact nD5 q
       .rw[hD5]at q;cases q
      have hD6:H6 D=AA (.lst ys):=s6.keep D _ nD5 hD5;have hBD:Bx B D D:=.inr rfl;refine⟨hD6,φ6,_,vs++[y],rest',?_,zq,nD6,rs6.skip hBD,(yM.untgt hf h0 eb (re5.step s6)).skip hBD,((l5.step s6).append (by erw[yj];exact⟨y',[],rfl,ry,rfl⟩)).skip hBD,e2,?_⟩
      .have s16:=s25.trans s6;exact⟨λb o n q=>by rw[zj (zn q hD)];exact s16.keep b o n q,s16.len,s16.pre,s16.new⟩
      .simpa [yb3] using ez
   .have ei:i=xs.length:=by lia
    subst ei;rw[GW,yaP]at ec
    cases ec
    refine .inl ⟨dr.stop φ2 H2 s2,h1 (.ref D) H2 φ2 s2 rs2.less ?_⟩;erw[yg];exact⟨D,ys,rfl,⟨hD2,nB,nD2⟩,by rw[<-ez,BR];exact l2.less⟩
def zlI{sc:Bn}{NC:List AQ}{sl:List (Option Nat)}{ifs:List AV}(hc:X.calm=AB)(O:yap X sc NC sl)(hf:yaD ct sl=AB)(hi:PI X tg iter (tI S X ci))(hg:∀j,PG (cxC X sc NC j) tg (tG0 S X.K ct))
  (ht:∀j,PTs (cxC X sc NC j) ifs (tT0 S X.K cc)) (he:∀j,PE (cxC X sc NC j) elt (tE0 S X.K ce)) (hs:∀x,foldedSetIterable iter X.env x=pure x:=by intro _;rfl):
  PE X (.ListComp elt [⟨tg,iter,ifs,0⟩] sc pos) (tE S X (.comp sl ct ci cc ce)):=
 (zmQ hc O hi hg ht he hs).imp λσ H Q h=>zhj hf h
end
end L2
namespace IC
open PySem
def RLe{α:Type}(r q:R α):Prop:=r=.bad \/ r=q
def FLe(f g:Fl):Prop:=f=.bad \/ f=g
abbrev Cl:=Nat->List PV->SO->R PV
def CLe(c d:Cl):Prop:=∀f a s,RLe (c f a s) (d f a s)
theorem RLe.rfl{α:Type}{r:R α}:RLe r r:=.inr (DQ _)
theorem FLe.rfl{f:Fl}:FLe f f:=.inr (DQ _)
theorem RLe.bind{α β:Type}{r q:R α}{k l:α->SO->R β}(h:RLe r q)(hk:∀a s,RLe (k a s) (l a s)):RLe (r.bind k) (q.bind l):=by
 rcases h with h|h
 .subst h;exact .inl (DQ _)
 .subst h
  cases r with
  |ok a s=>exact hk a s
  |exc c s=>exact .rfl
  |bad=>exact .rfl
theorem RLe.fl{α:Type}{r q:R α}{ρ:Env}{k l:α->SO->Fl}(h:RLe r q)(hk:∀a s,FLe (k a s) (l a s)):FLe (r.fl ρ k) (q.fl ρ l):=by
 rcases h with h|h
 .subst h;exact .inl (DQ _)
 .subst h
  cases r with
  |ok a s=>exact hk a s
  |exc c s=>exact .rfl
  |bad=>exact .rfl
theorem RLe.comp{r q:R (List PV)}(h:RLe r q):RLe (ycf r) (ycf q):=by
 rcases h with h|h
 .subst h;exact .inl (DQ _)
 .subst h;exact .rfl
def zhD{α:Type}{x:PV}{k l:Bool->R α}(h:∀b,RLe (k b) (l b)):RLe (onBl x k) (onBl x l):=by
 cases x with
 |bl b=>exact h b
 |_=>exact .rfl
def zfC{α:Type}{x:Option Bool}{k l:Bool->R α}(h:∀b,RLe (k b) (l b)):RLe (onO x k) (onO x l):=by
 cases x with
 |some b=>exact h b
 |none=>exact .rfl
def zk0{x:Option Bool}{k l:Bool->Fl}(h:∀b,FLe (k b) (l b)):FLe (onF x k) (onF x l):=by
 cases x with
 |some b=>exact h b
 |none=>exact .rfl
def zn3{α:Type}{x:Option (Option Int)}{k l:Option Int->R α}(h:∀b,RLe (k b) (l b)):RLe (onP x k) (onP x l):=by
 cases x with
 |some b=>exact h b
 |none=>exact .rfl
def zde{α:Type}{b:Bool}{r q r' q':R α}(h:RLe r q)(h':RLe r' q'):RLe (cond b r r') (cond b q q'):=by
 cases b
 .exact h'
 .exact h
def zgr{b:Bool}{r q r' q':Fl}(h:FLe r q)(h':FLe r' q'):FLe (cond b r r') (cond b q q'):=by
 cases b
 .exact h'
 .exact h
def zcR{f g:PV->SO->R (Option PV)}(h:∀x s,RLe (f x s) (g x s)):∀xs s,RLe (yaP f xs s) (yaP g xs s)
 |[],s=>.rfl
 |x::xs,s=>(h x s).bind λo s1=>(zcR h xs s1).bind λys s2=>.rfl
def zdN{f g:Fl}{k l:Env->SO->Fl}(h:FLe f g)(hk:∀ρ s,FLe (k ρ s) (l ρ s)):FLe (yax f k) (yax g l):=by
 rcases h with h|h
 .subst h;exact .inl (DQ _)
 .subst h
  cases f with
  |nx ρ s=>exact hk ρ s
  |ct ρ s=>exact hk ρ s
  |_=>exact .rfl
def zek{t:Tg}{f g:Env->SO->Fl}(h:∀ρ s,FLe (f ρ s) (g ρ s)):∀xs ρ s,FLe (forL t f xs ρ s) (forL t g xs ρ s)
 |[],ρ,s=>.rfl
 |x::xs,ρ,s=>by
  unfold forL
  cases yJ t x ρ with
  |none=>exact .rfl
  |some ρ1=>exact zdN (h ρ1 s) λρ2 s2=>zek h xs ρ2 s2
def zeT{t u:Env->SO->R PV}{f g:Env->SO->Fl}(ht:∀ρ s,RLe (t ρ s) (u ρ s))(h:∀ρ s,FLe (f ρ s) (g ρ s)):∀n ρ s,FLe (yas t f n ρ s) (yas u g n ρ s)
 |0,ρ,s=>.rfl
 |n+1,ρ,s=>by
  unfold yas;exact(ht ρ s).fl λx s1=>zk0 λb=>zgr (zdN (h ρ s1) λρ2 s2=>zeT ht h n ρ2 s2) .rfl
mutual
theorem zh{c d:Cl}(h:CLe c d):∀(e:Ce) (ρ:Env) (s:SO),RLe (ev c ρ s e) (ev d ρ s e)
 |.cst v,ρ,s=>by exact .rfl
 |.var i,ρ,s=>by exact .rfl
 |.bin o a b,ρ,s=>by
  exact(zh h a ρ s).bind λx s1=>(zh h b ρ s1).bind λy s2=>.rfl
 |.neg a,ρ,s=>by
  exact(zh h a ρ s).bind λx s1=>.rfl
 |.not a,ρ,s=>by
  exact(zh h a ρ s).bind λx s1=>.rfl
 |.and a b,ρ,s=>by
  refine(zh h a ρ s).bind λx s1=>?_;exact zhD λk=>zde (zh h b ρ s1) .rfl
 |.or a b,ρ,s=>by
  refine(zh h a ρ s).bind λx s1=>?_;exact zhD λk=>zde .rfl (zh h b ρ s1)
 |.cmp o a b,ρ,s=>by
  exact(zh h a ρ s).bind λx s1=>(zh h b ρ s1).bind λy s2=>.rfl
 |.chain o p a b k,ρ,s=>by
  refine(zh h a ρ s).bind λx s1=>(zh h b ρ s1).bind λy s2=>?_;exact zfC λq=>zde ((zh h k ρ s2).bind λz s3=>.rfl) .rfl
 |.ite k a b,ρ,s=>by
  exact(zh h k ρ s).bind λx s1=>zfC λq=>zde (zh h a ρ s1) (zh h b ρ s1)
 |.tup es,ρ,s=>by
  exact(zaX h es ρ s).bind λx s1=>.rfl
 |.lst es,ρ,s=>by
  exact(zaX h es ρ s).bind λx s1=>.rfl
 |.newl es,ρ,s=>by
  exact(zaX h es ρ s).bind λx s1=>.rfl
 |.dict0 t,ρ,s=>by exact .rfl
 |.idx a i,ρ,s=>by
  exact(zh h a ρ s).bind λx s1=>(zh h i ρ s1).bind λy s2=>.rfl
 |.slc a l u,ρ,s=>by
  exact(zh h a ρ s).bind λx s1=>(zh h l ρ s1).bind λy s2=>zn3 λo=>(zh h u ρ s2).bind λz s3=>.rfl
 |.call f es,ρ,s=>by
  exact(zaX h es ρ s).bind λx s1=>h f x s1
 |.blt b es,ρ,s=>by
  exact(zaX h es ρ s).bind λx s1=>.rfl
 |.mth m o es,ρ,s=>by
  exact(zh h o ρ s).bind λx s1=>zfC λ_=>(zaX h es ρ s1).bind λy s2=>.rfl
 |.isi a ts,ρ,s=>by
  exact(zh h a ρ s).bind λx s1=>.rfl
 |.comp sl tg it k e,ρ,s=>by
  refine(zh6 h it ρ s).bind λxs s1=>?_;have q:=λ(f g:PV->SO->R (Option PV)) (hfg:∀x s,RLe (f x s) (g x s))=>zcR hfg xs s1;refine RLe.comp (zcR (λx s2=>?_) xs s1)
  cases yJ tg x _ with
  |none=>exact .rfl
  |some ρ1=>
   dsimp only;exact(zh h k ρ1 s2).bind λb s3=>zfC λq=>zde ((zh h e ρ1 s3).bind λy s4=>.rfl) .rfl
 |.nope,ρ,s=>by exact .rfl
 |.frz a,ρ,s=>by
  exact(zh h a ρ s).bind λx s1=>.rfl
 |.dix D a,ρ,s=>by
  exact(zh h a ρ s).bind λx s1=>.rfl
 |.din a D,ρ,s=>by
  exact(zh h a ρ s).bind λx s1=>.rfl
 |.fld q a f,ρ,s=>by
  exact(zh h a ρ s).bind λx s1=>.rfl
 |.new q i es,ρ,s=>by
  refine(zaX h es ρ s).bind λx s1=>RLe.bind ?_ λv s2=>.rfl;rcases h i (.loc s1.length::x) (s1++[.ins q []])with e|e
  .rw[e];exact .inl (DQ _)
  .rw[e];exact .rfl
 |.mcl q i m o es,ρ,s=>by
  exact(zh h o ρ s).bind λx s1=>zfC λ_=>(zaX h es ρ s1).bind λy s2=>h i (x::y) s2
theorem zaX{c d:Cl}(h:CLe c d):∀(e:Ces) (ρ:Env) (s:SO),RLe (evs c ρ s e) (evs d ρ s e)
 |.nil,ρ,s=>by exact .rfl
 |.cons e es,ρ,s=>by
  exact(zh h e ρ s).bind λx s1=>(zaX h es ρ s1).bind λy s2=>.rfl
theorem zh6{c d:Cl}(h:CLe c d):∀(e:Cit) (ρ:Env) (s:SO),RLe (evi c ρ s e) (evi d ρ s e)
 |.seq e,ρ,s=>by
  exact(zh h e ρ s).bind λx s1=>.rfl
 |.range1 a,ρ,s=>by
  exact(zh h a ρ s).bind λx s1=>.rfl
 |.range2 a b,ρ,s=>by
  exact(zh h a ρ s).bind λx s1=>(zh h b ρ s1).bind λy s2=>.rfl
 |.rangeD a b,ρ,s=>by
  exact(zh h a ρ s).bind λx s1=>(zh h b ρ s1).bind λy s2=>.rfl
 |.enum e,ρ,s=>by
  exact(zh h e ρ s).bind λx s1=>.rfl
 |.zip a b,ρ,s=>by
  exact(zh h a ρ s).bind λx s1=>(zh h b ρ s1).bind λy s2=>.rfl
 |.revl e,ρ,s=>by
  exact(zh h e ρ s).bind λx s1=>.rfl
 |.revr e,ρ,s=>by
  exact(zh h e ρ s).bind λx s1=>.rfl
 |.chars e,ρ,s=>by
  exact(zh h e ρ s).bind λx s1=>.rfl
end
mutual
theorem zpL{c d:Cl}(h:CLe c d):∀(x:Cs) (ρ:Env) (s:SO),FLe (ex c ρ s x) (ex d ρ s x)
 |.expr e,ρ,s=>by
  exact(zh h e ρ s).fl λx s1=>.rfl
 |.asg t e,ρ,s=>by
  exact(zh h e ρ s).fl λx s1=>.rfl
 |.six o i e,ρ,s=>by
  exact(zh h e ρ s).fl λx s1=>(zh h o ρ s1).fl λy s2=>(zh h i ρ s2).fl λz s3=>.rfl
 |.dput o i e,ρ,s=>by
  exact(zh h e ρ s).fl λx s1=>(zh h o ρ s1).fl λy s2=>(zh h i ρ s2).fl λz s3=>.rfl
 |.aug i o e,ρ,s=>by
  first|unfold ev|unfold ex|unfold evs|unfold evi|unfold exs
  split
  .exact(zh h e ρ s).fl λx s1=>.rfl
  .exact .rfl
 |.ret e,ρ,s=>by
  exact(zh h e ρ s).fl λx s1=>.rfl
 |.ite k a b,ρ,s=>by
  exact(zh h k ρ s).fl λx s1=>zk0 λq=>zgr (zba h a ρ s1) (zba h b ρ s1)
 |.for t it b,ρ,s=>by
  exact(zh6 h it ρ s).fl λxs s1=>zek (λρ2 s2=>zba h b ρ2 s2) xs ρ s1
 |.while k b,ρ,s=>by
  exact zeT (λρ2 s2=>zh h k ρ2 s2) (λρ2 s2=>zba h b ρ2 s2) _ ρ s
 |.nope,ρ,s=>by exact .rfl
 |.mkr i D n es,ρ,s=>by
  refine(zh h n ρ s).fl λx s1=>?_;split
  .exact((zaX h es _ s1).bind λvs s2=>h _ vs s2).fl λv s3=>.rfl
  .exact .rfl
 |.sfl q o f e,ρ,s=>by
  exact(zh h e ρ s).fl λx s1=>(zh h o ρ s1).fl λy s2=>.rfl
theorem zba{c d:Cl}(h:CLe c d):∀(x:Css) (ρ:Env) (s:SO),FLe (exs c ρ s x) (exs d ρ s x)
 |.nil,ρ,s=>by exact .rfl
 |.cons x xs,ρ,s=>by
  first|unfold ev|unfold ex|unfold evs|unfold evi|unfold exs
  rcases zpL h x ρ s with e|e
  .rw[e];exact .inl (DQ _)
  .rw[e]
   cases ex d ρ s x with
   |nx ρ1 s1=>exact zba h xs ρ1 s1
   |_=>exact .rfl
end
def ze7(T:Nat->Option Fn):∀k,CLe (yd T k) (yd T (k+1))
 |0,f,a,s=>.inl (DQ _)
 |k+1,f,a,s=>by
  have h:=ze7 T k;rw[yd,yd]
  cases T f with
  |none=>exact .rfl
  |some fn=>
   dsimp only;split
   .split
    .split
     .rcases zba h fn.body (a.map AA++Aj (fn.ns-fn.np) AD) []with e|e
      .rw[e];exact .inl (DQ _)
      .rw[e];exact .rfl
     .exact .rfl
    .rcases zba h fn.body (a.map AA++Aj (fn.ns-fn.np) AD) s with e|e
     .rw[e];exact .inl (DQ _)
     .rw[e];exact .rfl
   .exact .rfl
def zap{T:Nat->Option Fn}{k:Nat}{f:Nat}{a:List PV}{s s':SO}{v:PV}(h:yd T k f a s=.ok v s'):∀j,yd T (k+j) f a s=.ok v s'
 |0=>h
 |j+1=>by
  have q:=zap h j;rcases ze7 T (k+j) f a s with e|e
  .rw[q]at e;cases e
  .rw[Da]at e;rw[<-e];exact q
end IC
namespace L2
open PySem PySem.Spec PyProof.Rows IC
def spI(K:AF)(cl:Nat->AI)(call:Nat->List PV->SO->R PV)(f:Nat):Sp:=λvs H Q E=>∃B φ st args,yE K cl B φ H st/\yj K cl B φ H args vs/\match call f args st with
 |.ok v st'=>∀x H' φ',Step φ H φ' H'->yE K cl B φ' H' st'->yg K cl B φ' H' v x->Q x H'
 |.exc c st'=>∀H' φ',Step φ H φ' H'->yE K cl B φ' H' st'->E (.ref (cl c)) AD H'
 |.bad=>False
section
variable {S:Se}{X:Cx}{k:Nat}{f:AI}{fd:BG}{ps ks:List AQ}{sp:Sp}{dvs:List V}{ds:List AG}{x:AQ}{p pos:CV}{e:AV}{es:List AV}{t tk:TA}{CX:CXT}{σ:St}{H:Hp}
def zdt{π:List (AI×CF)}{s:AJ}{Q:VK}{us:List AG}{vs:List V}{E:XK}(F:yaJ X.prog X.w X.K X.mg X.base CX k f fd ps sp)(hr:yav k X.A)(hb:Binds X.K fd ps ds)(hd:Vals dvs ds)
  (I:Inv X π σ H s) (r:Vals vs us) (h:sp (vs++dvs) H Q E) (hx:∀e s',CX X.stack H s E e s'->X.xe e s'):A4 (model X.prog X.w) X.A (call (.ref f) us) (EP X π σ Q) X.xe s:=by
 have r2:Vals (vs++dvs) (us++ds):=r.append hd;have hl:(us++ds).length=ps.length:=by rw[<-r2.length];exact F.len _ _ _ _ h
 refine Gj (Dt (F.run X.A X.stack s H ⟨us,[]⟩ (us++ds) (vs++dvs) Q E hr I.env0 (hb s us I.kIn hl) r2 h) λr s' hq=>?_)
 cases r with
 |error e=>exact hx e s' hq
 |ok fl=>
  cases fl with
  |ret u=>exact I.after hq
  |next=>exact Bq hq
  |brk=>exact Bq hq
  |cont=>exact Bq hq
def ycp(CX:CXT)(X:Cx)(sp:Sp)(dvs:List V)(t:TA):TE:=λσ H Q=>t σ H λvs H1=>∃E:XK,sp (vs++dvs) H1 Q E/\∀π s e s',Inv X π σ H1 s->CX X.stack H1 s E e s'->X.xe e s'
def zki(F:yaJ X.prog X.w X.K X.mg X.base CX k f fd ps sp)(hr:yav k X.A)(hg:Gl X x)(hm:X.mg x=AA (.ref f))(hk:Ax X.K (.ref f)=AB)(hb:Binds X.K fd ps ds)(hd:Vals dvs ds)
  (ha:PA X (e::es) t) (hdb:(x==("__debug__":AQ))=false:=by decide) (he:starEach (e::es) X.env=(AC,eval e X.env)::starEach es X.env:=by rfl) (hpl:(backTo pos (starEach es X.env)).any (·.1)=false:=by rfl):
  PE X (.Call (.Name x p) (e::es) [] pos) (ycp CX X sp dvs t):=by
 intro π s σ H Q I h;refine B1 (zdO I hg hm ?_ hdb);refine DF (h₀:=X.base) I.ok.mod.kin hk (thn (ha pos π s σ H _ I h) λus s1 kq=>?_) he hpl;let⟨vs,H1,I1,r,E,q,hx⟩:=kq;refine ⟨I1.kIn,?_⟩;exact zdt F hr hb hd I1 r q λe s' c=>hx π s1 e s' I1 c
def zi1(F:yaJ X.prog X.w X.K X.mg X.base CX k f fd ps sp)(hr:yav k X.A)(hg:Gl X x)(hm:X.mg x=AA (.ref f))(hk:Ax X.K (.ref f)=AB)(hb:Binds X.K fd ps ds)(hd:Vals dvs ds)
  (hdb:(x==("__debug__":AQ))=false:=by decide):PE X (.Call (.Name x p) [] [] pos) (ycp CX X sp dvs yda):=by
 intro π s σ H Q I h;let⟨E,q,hx⟩:=h;refine B1 (zdO I hg hm ?_ hdb);exact F6 I.kIn hk (zdt F hr hb hd I .nil q λe s' c=>hx π s e s' I c)
variable {B:AI->Prop}{φ:Ph}{st:SO}{ces:Ces}{fi:Nat}
def zbc{vs:List PV}{xs:List V}{Q:VK}(rs:yE X.K S.cl B φ H st)(l:yj X.K S.cl B φ H vs xs)(h:Run S X σ B φ H (RV S X B) (S.call fi vs st) Q):
  ∃E:XK,spI X.K S.cl S.call fi xs H Q E/\∀π s e s',Inv X π σ H s->CX1 X.prog X.w X.stack H s E e s'->X.xe e s':=by
 cases c:S.call fi vs st with
 |ok v st'=>
  rw[c]at h;refine⟨λ_ _ _=>False,⟨B,φ,st,vs,rs,l,by rw[c];exact h⟩,λπ s e s' _ z=>?_⟩;let⟨_,_,_,_,_,_,_,_,_,_,_,_,_,_,z⟩:=z;exact z.elim
 |exc k st'=>
  rw[c]at h;refine⟨λcls _ H'=>cls=.ref (S.cl k)/\∃φ',Step φ H φ' H'/\yE X.K S.cl B φ' H' st',⟨B,φ,st,vs,rs,l,by rw[c];exact λH' φ' s r=>⟨rfl,φ',s,r⟩⟩,λπ s e s' I z=>h e s' (.inl ⟨π,H,s,φ,I,.rfl,z⟩)⟩
 |bad=>rw[c]at h;exact h.elim
def zmB(F:yaJ X.prog X.w X.K X.mg X.base (CX1 X.prog X.w) k f fd ps (spI X.K S.cl S.call fi))(hr:yav k X.A)(hg:Gl X x)(hm:X.mg x=AA (.ref f))(hk:Ax X.K (.ref f)=AB)(hb:Binds X.K fd ps [])
  (ha:PA X (e::es) (tAs S X ces)) (hdb:(x==("__debug__":AQ))=false:=by decide) (he:starEach (e::es) X.env=(AC,eval e X.env)::starEach es X.env:=by rfl) (hpl:(backTo pos (starEach es X.env)).any (·.1)=false:=by rfl):
  PE X (.Call (.Name x p) (e::es) [] pos) (tE S X (.call fi ces)):=
 (zki F hr hg hm hk hb .nil ha hdb he hpl).imp λσ H Q ⟨B,φ,st,ρ,rs,re,h⟩=>by
  erw[ev]at h;refine tAs.bind rs re h λxs H1 vs st1 φ1 s1 rs1 re1 rv h1=>?_;rw[BR];exact zbc rs1 rv h1
def zjV(F:yaJ X.prog X.w X.K X.mg X.base (CX1 X.prog X.w) k f fd ps (spI X.K S.cl S.call fi))(hr:yav k X.A)(hg:Gl X x)(hm:X.mg x=AA (.ref f))(hk:Ax X.K (.ref f)=AB)(hb:Binds X.K fd ps [])
  (hdb:(x==("__debug__":AQ))=false:=by decide):PE X (.Call (.Name x p) [] [] pos) (tE S X (.call fi .nil)):=
 (zi1 F hr hg hm hk hb .nil hdb).imp λσ H Q ⟨B,φ,st,ρ,rs,re,h⟩=>by
  erw[ev,evs,R.bind]at h;exact zbc rs (by erw[yj];rfl) h
end
section
variable {P:A8}{w:An}{K:AF}{mg:AQ->Option AG}{base:BF}{cl:Nat->AI}{T:Nat->Option IC.Fn}{fi:Nat}{fn:IC.Fn}{x qual:AQ}{stm:Bz}{f:AI}{fd:BG}{N ps:List AQ}{k:Nat}
theorem CX1.mono{outer:List B0}{H:Hp}{s:AJ}{E E':XK}{e:AG}{s':AJ}(h:CX1 P w outer H s E e s')(n:∀cls H',E cls AD H'->E' cls AD H'):CX1 P w outer H s E' e s':=by
 let⟨a,cls,a0,H',Bh,r1,r2,r3,r4,r5,r6,r7,r8,r9,r10⟩:=h;exact⟨a,cls,a0,H',Bh,r1,r2,r3,r4,r5,r6,r7,r8,r9,n _ _ r10⟩
theorem yM.start{B:AI->Prop}{φ:Ph}{H:Hp}{args:List PV}{vs:List V}(l:yj K cl B φ H args vs)(n:Nat)(hn:N.length-vs.length=n):yM K cl B φ H (args.map AA++Aj n AD) (L2.start N vs):=by
 have hl:=l.length;unfold L2.start;refine⟨by simp[hl,hn],λi v e=>?_⟩
 by_cases hi:i<args.length
 .rw[Ak (by simpa using hi),CA]at e
  cases q:args[i]? with
  |none=>rw[q]at e;cases e
  |some v'=>
   rw[q]at e
   cases e
   let⟨y,hy,rv⟩:=l.get i q;exact⟨y,by rw[Ak (by simp;lia),CA,hy];rfl,rv⟩
 .rw[Aq (by simp;lia),Eh]at e;split at e<;>cases e
theorem leave{N:List AQ}{scope:Bn}{cd:AG}{A:Au}{outer:List B0}{s₀:AJ}{H₀:Hp}{E:XK}{call:Nat->List PV->SO->R PV}{σ:St}{B:AI->Prop}{φ:Ph}{H:Hp}{c:Nat}{st':SO}{e:AG}{s':AJ}
  (h:ExcAt ⟨cl,call,AB⟩ (yaW (CX1 P w) P w K mg base N qual scope f cd A outer s₀ H₀ E) σ B φ H c st' e s') (n:∀φ' H',Step φ H φ' H'->yE K cl B φ' H' st'->E (.ref (cl c)) AD H'):
  (yaW (CX1 P w) P w K mg base N qual scope f cd A outer s₀ H₀ E).xe e s':=by
 rcases h with⟨π,H1,s,φ1,I,s1,q⟩|⟨_,π,H1,s,φ1,h',e0,vs,I,s1,rs,mk,rfl,rfl⟩|⟨_,π,H1,s,I,q⟩
 .exact zqH π σ H1 s e s' I (q.mono λcls H' ⟨e1,φ',s2,r⟩=>by subst e1;exact n φ' H' (s1.trans s2) r)
 .exact ziF I mk (n φ1 H1 s1 rs)
 .exact zqJ I (q.mono λcls H' ⟨e1,φ',s2,r⟩=>by subst e1;exact n φ' H' s2 r)
def zkA(hT:T fi=AA fn):∀(args:List PV) (st:SO),yd T (k+1) fi args st ≠ .bad->args.length=fn.np:=λargs st hne=>by
 apply Classical.byContradiction;intro c;apply hne;rw[yd,hT];exact if_neg c
def zm7(hT:T fi=AA fn)(hnp:ps.length=fn.np){vs:List V}{H:Hp}{Q:VK}{E:XK}(h:spI K cl (yd T (k+1)) fi vs H Q E):vs.length=ps.length:=by
 let⟨B,φ,st,args,rs,l,h⟩:=h;rw[hnp,<-l.length];refine zkA (k:=k) hT args st λz=>?_;rw[z]at h;exact h
def zlE(hT:T fi=AA fn)(hns:N.length=fn.ns){scope:Bn}{cdv:AG}{A:Au}{outer:List B0}{s:AJ}{vs:List V}{H:Hp}{Q:VK}{E:XK}(h:spI K cl (yd T (k+1)) fi vs H Q E):
  tSs ⟨cl,yd T k,AB⟩ (yaW (CX1 P w) P w K mg base N qual scope f cdv A outer s H E) fn.body {nx:=λ_ H'=>Q .non H',rt:=Q} (L2.start N vs) H:=by
 let⟨B,φ,st,args,rs,l,h⟩:=h;have hl:args.length=fn.np:=zkA (k:=k) hT args st λz=>by rw[z]at h;exact h
 have hlen:=l.length;rw[yd,hT]at h;dsimp only at h;rw[if_pos hl]at h
 by_cases hp:fn.pure=AB
 .rw[if_pos hp]at h
  by_cases hz:nLs args=AB
  .rw[if_pos hz]at h;have rs0:yE K cl (λa=>B a \/ AA a∈φ) [] H []:=⟨rfl,λm n a e=>by simp at e,λn a e=>by simp at e,λn o e=>by simp at e,λa z=>by simp at z,λa z=>z.elim (rs.dom a) rs.there⟩;have back:∀{φ':Ph} {H':Hp},Step [] H φ' H'->Step φ H φ H'/\yE K cl B φ H' st:=λ{φ' H'} s'=>
    have kk:∀b o,H b=AA o->H' b=AA o:=λb o e=>s'.keep b o (by simp) e
    ⟨⟨λb o _ e=>kk b o e,AU _,λ_ _ _ e=>e,λ_ h=>.inl h⟩,rs.same kk⟩
   refine⟨_,[],[],_,rs0,yM.start (yj.inn rs.nb args vs hz l) (fn.ns-fn.np) ∅,?_⟩;show yaH _ _ _ _ _ (exs (yd T k) (args.map AA++Aj (fn.ns-fn.np) AD) [] fn.body) _
   cases e:exs (yd T k) (args.map AA++Aj (fn.ns-fn.np) AD) [] fn.body with
   |nx ρ' st'=>
    rw[e]at h;intro σ' H' φ' s' rs' re';let⟨s2,r2⟩:=back s';exact h .non H' φ s2 r2 (by erw[yg])
   |rt v st'=>
    rw[e]at h;dsimp only at h
    by_cases hv:nL v=AB
    .rw[if_pos hv]at h;intro y H' φ' s' rs' rv;let⟨s2,r2⟩:=back s';exact h y H' φ s2 r2 (yg.out v y hv rv)
    .rw[if_neg hv]at h;exact h.elim
   |exc c ρ' st'=>
    rw[e]at h;intro σ' φ1 H1 ev s' s1 _ ex;refine leave ex λφ2 H2 s2 _=>?_;let⟨s3,r3⟩:=back (s1.trans s2);exact h H2 φ s3 r3
   |bk ρ' st'=>rw[e]at h;exact h.elim
   |ct ρ' st'=>rw[e]at h;exact h.elim
   |bad=>rw[e]at h;exact h.elim
  .rw[if_neg hz]at h;exact h.elim
 .rw[if_neg hp]at h;refine⟨B,φ,st,_,rs,yM.start l (fn.ns-fn.np) ∅,?_⟩;show yaH _ _ _ _ _ (exs (yd T k) (args.map AA++Aj (fn.ns-fn.np) AD) st fn.body) _
  cases e:exs (yd T k) (args.map AA++Aj (fn.ns-fn.np) AD) st fn.body with
  |nx ρ' st'=>
   rw[e]at h;intro σ' H' φ' s' rs' re';exact h .non H' φ' s' rs' (by erw[yg])
  |rt v st'=>
   rw[e]at h;intro y H' φ' s' rs' rv;exact h y H' φ' s' rs' rv
  |exc c ρ' st'=>
   rw[e]at h;intro σ' φ1 H1 ev s' s1 _ ex;exact leave ex λφ2 H2 s2 r2=>h H2 φ2 (s1.trans s2) r2
  |bk ρ' st'=>rw[e]at h;exact h.elim
  |ct ρ' st'=>rw[e]at h;exact h.elim
  |bad=>rw[e]at h;exact h.elim
end
def tyN:Ty->String
 |.int=>"int" | .bool=>"bool" | .str=>"str" | .tuple=>"tuple" | .list=>"list" | _=>""
structure yd0(K:AF)(t:Ty):Prop where
 n:B2 K (.type "NoneType") (.type (tyN t))=AA (yby .non t)
 b:B2 K (.type "bool") (.type (tyN t))=AA (yby (.bl AB) t)
 i:B2 K (.type "int") (.type (tyN t))=AA (yby (.int 0) t)
 s:B2 K (.type "str") (.type (tyN t))=AA (yby (.str GQ) t)
 p:B2 K (.type "tuple") (.type (tyN t))=AA (yby (.tp AB []) t)
 l:B2 K (.type "list") (.type (tyN t))=AA (yby (.lst []) t)
section
variable {S:Se}{X:Cx}{σ:St}{B:AI->Prop}{φ:Ph}{H:Hp}{st:SO}{p pos p2 px:CV}{a b c d o:AV}{ca cb cc:Ce}{t:Ty}
def yfS(S:Se)(X:Cx)(t:Ty):List V->Hp->VK->Prop:=λxs H Q=>∃B φ st v x z,xs=[x,.ty (tyN t)]/\yE X.K S.cl B φ H st/\yg X.K S.cl B φ H v x/\yaM v [t]=AA z/\ydi t=AB /\
 ∀z' H' φ',Step φ H φ' H'->yE X.K S.cl B φ' H' st->yg X.K S.cl B φ' H' z z'->Q z' H'
def znN(Z:yd0 X.K t):yad X (.builtin "isinstance") (yfS S X t):=by
 rintro π s σ H xs us Q I r ⟨B,φ,st,v,x,z,rfl,rs,rv,e,hb,q⟩
 let⟨u,c',rfl,ru,rc⟩:=vals2 r
 cases (show c'=Fi (tyN t)from rc)
 have fin:∀(k:Bool) (tk:Nat),z=.bl k->EP X π σ Q (.bool k) {s with toks:=tk}:=λk tk ez=>⟨.bl k,H,I.tok tk,rfl,q _ H φ .rfl rs (by subst ez;erw[yg])⟩
 cases v with
 |non=>
  erw[yg]at rv;subst rv
  cases (show u=CL from ru)
  erw[yaM,hb,if_true]at e;exact Cg PySem.W.kitx_none I.kIn Cd Z.n (λz=>nomatch z) λtk=>fin _ tk (by cases e;cases t<;>rfl)
 |bl k=>
  erw[yg]at rv;subst rv
  cases (show u=EA k from ru)
  erw[yaM,hb,if_true]at e;exact Cg PySem.W.kitx_bool I.kIn Cd Z.b (λz=>nomatch z) λtk=>fin _ tk (by cases e;cases t<;>rfl)
 |int k=>
  erw[yg]at rv;subst rv;let⟨tk,rfl⟩:=ru;erw[yaM,hb,if_true]at e;exact Cg PySem.W.kitx_int I.kIn Cd Z.i (λz=>nomatch z) λtk=>fin _ tk (by cases e;cases t<;>rfl)
 |str k=>
  erw[yg]at rv;subst rv;let⟨tk,rfl⟩:=ru;erw[yaM,hb,if_true]at e;exact Cg PySem.W.kitx_str I.kIn Cd Z.s (λz=>nomatch z) λtk=>fin _ tk (by cases e;cases t<;>rfl)
 |tp k vs=>
  erw[yg]at rv;let⟨y,ys,rfl,rt,l⟩:=rv
  cases (show u=Al y from ru)
  erw[yaM,hb,if_true]at e;let⟨its,_,⟨o,g,c,_,_⟩,_⟩:=I.tuple rt.sq;exact Cg PySem.W.kitx_tuple I.kIn ⟨o,g,c⟩ Z.p (λz=>nomatch z) λtk=>fin _ tk (by cases e;cases t<;>rfl)
 |lst vs=>
  erw[yg]at rv;let⟨y,ys,rfl,rt,l⟩:=rv
  cases (show u=Al y from ru)
  erw[yaM,hb,if_true]at e;let⟨_,_,n,_,h1⟩:=(show yZ X.prog X.w H s.heap y (.lst ys)from I.hok y _ rt.1);exact Cg PySem.W.kitx_list I.kIn ⟨_,h1,rfl⟩ Z.l (λz=>nomatch z) λtk=>fin _ tk (by cases e;cases t<;>rfl)
 |loc n=>cases e
 |scr n=>cases e
 |exn n=>erw[yaM,Bc,List.all_nil,hb,Ci,if_true]at e;cases e
def znu{T:AQ}(Z:yd0 X.K t)(ht:ydi t=AB)(hg:Gl X "isinstance")(hm:X.mg "isinstance"=AD)(hgT:Gl X T)(hmT:X.mg T=AD)(hT:bootBuiltins T=AA (.type (tyN t)))(ha:PE X a (tE S X ca))(hnT:T ≠ "__name__":=by decide)(hdT:(T==("__debug__":AQ))=false:=by decide)
  (he:starEach [a,.Name T p2] X.env=(AC,eval a X.env)::starEach [.Name T p2] X.env:=by rfl) (hpl:(backTo pos (starEach [.Name T p2] X.env)).any (·.1)=false:=by rfl):
  PE X (.Call (.Name "isinstance" p) [a,.Name T p2] [] pos) (tE S X (.isi ca [t])):=
 (zgC (znN Z) hg hm Ga (zbS ha (zbS (zlg (v:=.ty (tyN t)) hgT hmT hT rfl hnT hdT) zj5) he) ⋯ ⋯ he hpl).imp λσ H Q ⟨B,φ,st,ρ,rs,re,h⟩=>by
  erw[ev]at h;refine tE.bind rs re h λx H1 v st1 φ1 s1 rs1 re1 rv h1=>?_;let⟨z,e,q⟩:=zas h1 rs1;exact⟨B,φ1,st1,v,x,z,rfl,rs1,rv,e,ht,q⟩
def zjG{st4:SO}{x y v:PV}(h:ybs st x y v=AA st4):∃n xs k j,x=.loc n/\st[n]?=AA (.lst xs)/\y=.int k/\ixI xs.length k=AA j/\st4=st.set n (.lst (xs.set j v)):=by
 cases x with
 |loc n=>
  erw[ybs]at h
  cases q:st[n]? with
  |none=>rw[q]at h;cases h
  |some o=>
   rw[q]at h
   cases o with
   |lst xs=>
    cases y with
    |int k=>
     dsimp only at h
     cases q2:ixI xs.length k with
     |none=>rw[q2]at h;cases h
     |some j=>rw[q2]at h;exact⟨n,xs,k,j,rfl,q,rfl,q2,(AZ h).symm⟩
    |_=>cases h
   |_=>cases h
 |_=>cases h
theorem yj.put{K:AF}{cl:Nat->AI}:∀{vs:List PV} {xs:List V} (j:Nat) {v:PV} {x:V},yj K cl B φ H vs xs->yg K cl B φ H v x->yj K cl B φ H (vs.set j v) (xs.set j x)
 |[],xs,j,v,x,l,r=>by erw[yj]at l;subst l;simp[yj]
 |w::vs,xs,0,v,x,l,r=>by
  erw[yj]at l;let⟨y,ys,rfl,_,l⟩:=l;erw[Aa,yj];exact⟨x,ys,rfl,r,l⟩
 |w::vs,xs,j+1,v,x,l,r=>by
  erw[yj]at l;let⟨y,ys,rfl,ry,l⟩:=l;erw[Ab,yj];exact⟨y,ys.set j x,rfl,ry,yj.put j l r⟩
def zo1(he:PE X a (tE S X ca))(ho:PE X b (tE S X cb))(hi:PE X c (tE S X cc))(hs:swapsWithSole [.Subscript b c px] a pos.line X.env=pure false:=by rfl)(hw:swappedStores [.Subscript b c px] a X.env=pure none:=by rfl)
  (hg:PG X (.Subscript b c px) (ye5 (tE S X cb) (tE S X cc) ydD):=by exact zkF ‹_› ‹_› zgB):PS X (.Assign [.Subscript b c px] a pos) (tS S X (.six cb cc ca)):=
 (zla he hg hs hw).imp λD σ H ⟨B,φ,st,ρ,rs,re,h⟩=>by
  erw[ex]at h;refine tE.fl rs re h λv' H1 v st1 φ1 s1 rs1 re1 rv h1=>tE.fl rs1 re1 h1 λx' H2 x st2 φ2 s2 rs2 re2 rx h2=>tE.fl rs2 re2 h2 λy' H3 y st3 φ3 s3 rs3 re3 ry h3=>?_
  cases e:ybs st3 x y v with
  |none=>rw[e]at h3;exact h3.elim
  |some st4=>
   rw[e]at h3;let⟨n,xs,k,j,rfl,hn,rfl,hj,rfl⟩:=zjG e;erw[yg]at ry;subst ry;let⟨l,ys,rfl,hp,hx,lr⟩:=rs3.list (rx.step s3) hn;refine⟨l,ys,k,j,rfl,rfl,hx,by rw[<-lr.length];exact hj,?_⟩;have s4:Step φ3 H3 φ3 (L2.upd H3 l (.lst (ys.set j v'))):=.put (A5 hp);exact h3 σ _ φ3 s4 (rs3.put hp ⟨_,zq,(lr.put j ((rv.step s2).step s3)).step s4⟩) (re3.step s4)
end
section
variable {S:Se}{X:Cx}{σ:St}{B:AI->Prop}{φ:Ph}{H:Hp}{st:SO}{p pos p2 px py pt pt2 apos:CV}{a b c d o:AV}{ca cb cc:Ce}{kt k2:Nat}
def zpp{i j:Nat}{x y:AQ}(hc:X.calm=AB)(hN:X.N.Nodup)(hi:X.N[i]?=AA x)(hj:X.N[j]?=AA y)(hij:i≠j)(h:PS X (.Assign [.Tuple [.Name x px,.Name y py] kt pt] (.Tuple [a,b] k2 pt2) pos) (yfo i j (tAs S X (.cons ca (.cons cb .nil))))):
  PS X (.Assign [.Tuple [.Name x px,.Name y py] kt pt] (.Tuple [a,b] k2 pt2) pos) (tS S X (.asg (.t [i,j]) (.tup (.cons ca (.cons cb .nil))))):=
 h.imp λD σ H ⟨B,φ,st,ρ,rs,re,h⟩=>by
  erw[ex,ev]at h;refine⟨B,φ,st,ρ,rs,re,?_⟩
  cases e:evs S.call ρ st (.cons ca (.cons cb .nil))with
  |bad=>rw[e]at h;exact h
  |exc k st'=>rw[e]at h;exact λe s' x=>h σ φ H e s' .rfl re x
  |ok vs st'=>
   rw[e]at h;intro xs H' φ' s rs' l;erw[R.bind]at h;split at h
   .rcases vs with _|⟨v,_|⟨w,_|⟨u,t⟩⟩⟩
    .exact h.elim
    .exact h.elim
    .let⟨v',w',rfl,rv,rw⟩:=l.two;refine⟨v',w',rfl,?_⟩;exact h _ H' φ' s rs' (((re.step s).set i rv).set j rw)
    .exact h.elim
   .exact h.elim
def zmm{bo:BOp}{v w z:PV}(h:ybO bo v w=AA z):∃i j,v=.int i/\w=.int j/\IC.binI bo i j=AA z:=by
 unfold ybO at h;split at h
 .exact⟨_,_,rfl,rfl,h⟩
 .cases h
def zlM:PIp X .Add (rT2 S X (ybO .add)):=by
 rintro π s σ H x y v u Q I rx ry ⟨B,φ,st,a,b,z,rs,ra,rb,e,q⟩
 let⟨i,j,rfl,rfl,e⟩:=zmm e
 cases e
 erw[yg]at ra rb;subst ra rb;exact znE π s σ H _ _ v u Q I rx ry ⟨i,j,rfl,rfl,q _ H φ .rfl rs (by erw[yg])⟩
end
end L2
namespace WK
open PySem L2 IC
def GC(K:AF)(mg:AQ->Option AG)(cl:Nat->AI)(x:AQ)(v:PV):Prop:=∃y:AI,mg x=AA (.ref y)/\∀B φ H,yg K cl B φ H v (.ref y)
def zp6{S:Se}{X:Cx}{x:AQ}{v:PV}{pos:CV}(hg:Gl X x)(h:GC X.K X.mg S.cl x v)(hd:(x==("__debug__":AQ))=false:=by decide):PE X (.Name x pos) (tE S X (.cst v)):=by
 let⟨y,hm,hk⟩:=h;exact zlA hg hm hk hd
def zkG:bootBuiltins "int"=AA (.type "int"):=by decide +kernel
def zl9:bootBuiltins "bool"=AA (.type "bool"):=by decide +kernel
def zn4:bootBuiltins "str"=AA (.type "str"):=by decide +kernel
def zgn:bootBuiltins "tuple"=AA (.type "tuple"):=by decide +kernel
def zoz:bootBuiltins "len"=AA (.builtin "len"):=by decide +kernel
def znx:bootBuiltins "abs"=AA (.builtin "abs"):=by decide +kernel
def znC:bootBuiltins "min"=AA (.builtin "min"):=by decide +kernel
def znc:bootBuiltins "max"=AA (.builtin "max"):=by decide +kernel
def zn5:bootBuiltins "all"=AA (.builtin "all"):=by decide +kernel
def zll{k:Nat}{A:Au}(r:yav k A):A.units+1<cLine:=by have:=r.units;lia
end WK
namespace L2
open PySem PySem.Spec PyProof.Rows IC
def shC:Sum Ce Int->Option Int
 |.inl _=>AD
 |.inr i=>AA i
def yaT:List (Option Int)->List V->List V
 |[],_=>[]
 |some i::r,zs=>.int i::yaT r zs
 |none::r,z::zs=>z::yaT r zs
 |none::_,[]=>[]
def pick:List (Option Int)->List V->List V
 |none::r,v::vs=>v::pick r vs
 |some _::r,_::vs=>pick r vs
 |_,_=>[]
def nKw:List (Option Int)->Nat
 |[]=>0
 |none::r=>nKw r+1
 |some _::r=>nKw r
def yc2:Ces->Nat
 |.nil=>0
 |.cons _ r=>yc2 r+1
def gK(np:Nat)(sh:List (Option Int))(vs zs:List V):List V:=if vs.length=np/\zs.length=nKw sh then vs++yaT sh zs else []
def zio{call:Nat->List PV->SO->R PV}{ρ:IC.Env}:∀(a:Ces) {st st':SO} {vs:List PV},evs call ρ st a=.ok vs st'->vs.length=yc2 a
 |.nil,st,st',vs,h=>by erw[evs]at h;cases h;rfl
 |.cons e r,st,st',vs,h=>by
  erw[evs]at h
  cases q:ev call ρ st e with
  |ok v s1=>
   rw[q]at h;erw[R.bind]at h
   cases q2:evs call ρ s1 r with
   |ok ws s2=>
    rw[q2]at h
    cases h
    simp[yc2,zio r q2]
   |exc c s=>rw[q2]at h;cases h
   |bad=>rw[q2]at h;cases h
  |exc c s=>rw[q]at h;cases h
  |bad=>rw[q]at h;cases h
def zhO{call:Nat->List PV->SO->R PV}{ρ:IC.Env}:∀(a b:Ces) (st:SO),evs call ρ st (yam a b)=(evs call ρ st a).bind λvs st1=>(evs call ρ st1 b).bind λws st2=>.ok (vs++ws) st2
 |.nil,b,st=>by
  erw[yam,evs,R.bind,BI]
  cases evs call ρ st b<;>rfl
 |.cons e r,b,st=>by
  erw[yam,evs]
  cases ev call ρ st e with
  |ok v st1=>
   erw[R.bind];rw[zhO r b st1]
   cases evs call ρ st1 r with
   |ok vs st2=>
    erw[R.bind]
    cases evs call ρ st2 b<;>rfl
   |exc c s=>rfl
   |bad=>rfl
  |exc c s=>rfl
  |bad=>rfl
section
variable {S:Se}{X:Cx}{k:Nat}{f:AI}{fd:BG}{ps ks:List AQ}{sp:Sp}{x:AQ}{p pos kpos:CV}{e:AV}{es:List AV}{kws:List C4}{nm:Option AQ}{t tk:TA}{CX:CXT}{ca:Ce}{ces:Ces}{items:List (Sum Ce Int)}{g:List AG->List AG->List AG}{gV:List V->List V->List V}
def zcv{K:AF}{cl:Nat->AI}{B:AI->Prop}{φ:Ph}{H:Hp}{call:Nat->List PV->SO->R PV}{ρ:IC.Env}:∀(items:List (Sum Ce Int)) {st st':SO} {vs:List PV} {xs:List V},evs call ρ st (yC items)=.ok vs st'->yj K cl B φ H vs xs->yaT (items.map shC) (pick (items.map shC) xs)=xs/\(pick (items.map shC) xs).length=nKw (items.map shC)
 |[],st,st',vs,xs,h,l=>by
  erw[yC,evs]at h
  cases h
  erw[yj]at l;subst l;exact⟨rfl,rfl⟩
 |.inl c::r,st,st',vs,xs,h,l=>by
  erw[yC,evs]at h;let⟨v,s1,e1,h⟩:=zbk h;let⟨ws,s2,e2,h⟩:=zbk h
  cases h
  erw[yj]at l;let⟨y,ys,rfl,_,l⟩:=l;let⟨q1,q2⟩:=zcv r e2 l;erw[AL,shC,pick,yaT,nKw,AS,q1,q2];exact⟨trivial,trivial⟩
 |.inr i::r,st,st',vs,xs,h,l=>by
  erw[yC,evs,ev]at h;let⟨v,s1,e1,h⟩:=zbk h;let⟨ws,s2,e2,h⟩:=zbk h
  cases h
  cases e1
  erw[yj,yg]at l;let⟨y,ys,rfl,rfl,l⟩:=l;let⟨q1,q2⟩:=zcv r e2 l;erw[AL,shC,pick,yaT,nKw,q1,q2];exact⟨trivial,trivial⟩
def tK(S:Se)(X:Cx)(items:List (Sum Ce Int)):TA:=λσ H Q=>∃B φ st ρ,yE X.K S.cl B φ H st/\yM X.K S.cl B φ H ρ σ/\Run S X σ B φ H (RL S X B) (evs S.call ρ st (yC items)) λxs H'=>Q (pick (items.map shC) xs) H'
theorem PK.imp{t t':TA}(h:PK X kws t')(k:∀σ H Q,t σ H Q->t' σ H Q):PK X kws t:=λpos π s σ H Q I q=>h pos π s σ H Q I (k σ H Q q)
def zpa:PK X [] (tK S X []):=zqD.imp λσ H Q ⟨B,φ,st,ρ,rs,re,h⟩=>by
 erw[yC,evs]at h;exact h.ok rs (x:=[]) (by erw[yj])
def zpW{i:Int}(h:PK X kws (tK S X items)):PK X kws (tK S X (.inr i::items)):=h.imp λσ H Q ⟨B,φ,st,ρ,rs,re,h⟩=>by
 erw[yC,evs,ev,R.bind]at h;refine⟨B,φ,st,ρ,rs,re,?_⟩
 cases e:evs S.call ρ st (yC items)with
 |ok vs st'=>
  rw[e]at h;intro xs H' φ' s rs' l;exact h (.int i::xs) H' φ' s rs' (by erw[yj,yg];exact⟨_,_,rfl,rfl,l⟩)
 |exc c s=>rw[e]at h;exact h
 |bad=>rw[e]at h;exact h
def zpD(ha:PE X e (tE S X ca))(h:PK X kws (tK S X items)):PK X (⟨nm,e,kpos⟩ :: kws) (tK S X (.inl ca::items)):=(zlx ha h).imp λσ H Q ⟨B,φ,st,ρ,rs,re,h⟩=>by
 erw[yC,evs]at h;refine tE.bind rs re h λx H1 v st1 φ1 s1 rs1 re1 rv h1=>⟨B,φ1,st1,ρ,rs1,re1,?_⟩;refine(Run.bind (Rel:=RL S X B) h1).mono λxs H2 kq=>?_;let⟨ws,st2,φ2,s2,rs2,l,h2⟩:=kq;exact h2.ok rs2 (x:=x::xs) (by erw[yj];exact⟨x,xs,rfl,rv.step s2,l⟩)
def zjZ{fi:Nat}(F:yaJ X.prog X.w X.K X.mg X.base (CX1 X.prog X.w) k f fd ps (spI X.K S.cl S.call fi))(hr:yav k X.A)(hg:Gl X x)(hm:X.mg x=AA (.ref f))(hk:Ax X.K (.ref f)=AB){np:Nat}(hb:∃g,ybG X.K fd ps ks g (gK np (items.map shC)))(hnp:yc2 ces=np)
  (ha:PA X (e::es) (tAs S X ces)) (hkw:PK X kws (tK S X items)) (hall:(backToKw pos (keywordEach kws X.env)).all (·.1.isSome)=true:=by rfl) (hks:(backToKw pos (keywordEach kws X.env)).filterMap (·.1)=ks:=by rfl)
  (hdb:(x==("__debug__":AQ))=false:=by decide) (he:starEach (e::es) X.env=(AC,eval e X.env)::starEach es X.env:=by rfl)
  (hpl:((backTo pos (starEach (e::es) X.env)).any (·.1) || (backToKw pos (keywordEach kws X.env)).any (·.1.isNone))=false:=by rfl):
  PE X (.Call (.Name x p) (e::es) kws pos) (tE S X (.call fi (yam ces (yC items)))):=by
 intro π s σ H Q I ⟨B,φ,st,ρ,rs,re,h⟩;erw[ev]at h;rw[zhO,R.bind_assoc]at h;refine B1 (zdO I hg hm ?_ hdb);have h0:tAs S X ces σ H λvs H1=>tK S X items σ H1 λzs H2=>∃E:XK,spI X.K S.cl S.call fi (gK np (items.map shC) vs zs) H2 Q E/\∀π s e s',Inv X π σ H2 s->CX1 X.prog X.w X.stack H2 s E e s'->X.xe e s':=by
  have hlen:∀vs st',evs S.call ρ st ces=.ok vs st'->vs.length=np:=λvs st' q=>(zio ces q).trans hnp;refine⟨B,φ,st,ρ,rs,re,?_⟩
  cases q:evs S.call ρ st ces with
  |exc c s=>rw[q]at h;exact h
  |bad=>rw[q]at h;exact h
  |ok vs st1=>
  rw[q]at h;intro xs H1 φ1 s1 rs1 rv;have h1:=Run.on s1 h;have re1:=re.step s1;have hv:=hlen vs st1 q;refine⟨B,φ1,st1,ρ,rs1,re1,?_⟩;have h1:Run S X σ B φ1 H1 (RV S X B) (((evs S.call ρ st1 (yC items)).bind λa st=>(R.ok (vs++a) st:R (List PV))).bind λvs st1=>S.call fi vs st1) Q:=h1;rw[R.bind_assoc]at h1
  cases e:evs S.call ρ st1 (yC items)with
  |ok ws st2=>
   rw[e]at h1;intro ys H2 φ2 s2 rs2 l2;let⟨m1,m2⟩:=zcv items e l2;have eg:gK np (items.map shC) xs (pick (items.map shC) ys)=xs++ys:=by
    unfold gK;rw[if_pos ⟨by rw[<-rv.length];exact hv,m2⟩,m1]
   show ∃E:XK,spI X.K S.cl S.call fi (gK np (items.map shC) xs (pick (items.map shC) ys)) H2 Q E/\_;rw[eg];exact zbc rs2 ((rv.step s2).append l2) (Run.on s2 h1)
  |exc c s=>rw[e]at h1;exact h1
  |bad=>rw[e]at h1;exact h1
 refine PySem.W.callWith_KW (h₀:=X.base) I.ok.mod.kin hk hall (thn (ha pos π s σ H _ I h0) λus s1 kq=>?_) hpl he;let⟨vs,H1,I1,r,q⟩:=kq;refine thn (hkw pos π s1 σ H1 _ I1 q) λws s2 kq=>?_;let⟨zs,H2,I2,rz,E,q2,hx⟩:=kq;refine ⟨I2.kIn,?_⟩;rw[hks];let⟨g,hb⟩:=hb;have r2:=hb.rel r rz;have hl:(g us ws).length=ps.length:=by rw[<-r2.length];exact F.len _ _ _ _ q2
 refine Gj (Dt (F.run X.A X.stack s2 H2 ⟨us,ks.zip ws⟩ (g us ws) (gK np (items.map shC) vs zs) Q E hr I2.env0 (hb.to s2 us ws I2.kIn hl) r2 q2) λr s' hq=>?_)
 cases r with
 |error e=>exact hx π s2 e s' I2 hq
 |ok fl=>
  cases fl with
  |ret u=>exact I2.after hq
  |next=>exact Bq hq
  |brk=>exact Bq hq
  |cont=>exact Bq hq
end
def ya6:List (Option Int)->List AG->List AG->List AG
 |[],_,_=>[]
 |some _::r,ws,d::ds=>d::ya6 r ws ds
 |none::r,w::ws,_::ds=>w::ya6 r ws ds
 |_,_,_=>[]
def zdE:∀(sh:List (Option Int)) (ds:List Int) {zs:List V} {ws us:List AG},Vals (ds.map V.int) us->Vals zs ws->sh.length=ds.length->(∀p∈sh.zip ds,∀i,p.1=AA i->i=p.2)->Vals (yaT sh zs) (ya6 sh ws us)
 |[],ds,zs,ws,us,r,q,hl,h=>.nil
 |some i::r,[],zs,ws,us,rr,q,hl,h=>by simp at hl
 |some i::r,d::ds,zs,ws,_,.cons a b,q,hl,h=>by
  have:i=d:=h (AA i,d) (by simp) i rfl;subst this;exact .cons a (zdE r ds b q (by simpa using hl) λp hp=>h p (by simp[hp]))
 |none::r,[],zs,ws,us,rr,q,hl,h=>by simp at hl
 |none::r,d::ds,_,_,_,.cons a b,.nil,hl,h=>.nil
 |none::r,d::ds,_,_,_,.cons a b,.cons c q,hl,h=>.cons c (zdE r ds b q (by simpa using hl) λp hp=>h p (by simp[hp]))
structure FnD(K:AF)(mg:AQ->Option AG)(x:AQ)(st:Bz)(ps:List AQ)(ds:List Int)(f:AI)(fd:BG):Prop where
 ex:∃(oc:AG) (od:Option AI) (dT:AI) (kV doc pm:AG) (an:Option AI) (cdv ct:AG) (osl:Array (Option AG)) (o:CF) (its:Array AG) (n:Nat),
  fd=B5 x x (yaf st) (yac st) (yH st) (.ref dT) kV doc pm an cdv ct/\K.lookup f=AA ⟨oc,od,.func fd,osl⟩/\CM K cdv x=AB/\K.lookup dT=AA o/\o.data=.seq its n/\Vals (ds.map V.int) its.toList
 kp:Ax K (.ref f)=AB
 m:mg x=AA (.ref f)
theorem kbD{K:AF}{mg:AQ->Option AG}{x:AQ}{st:Bz}{ps ks:List AQ}{ds:List Int}{f:AI}{fd:BG}{np off:Nat}{sh:List (Option Int)}(D:FnD K mg x st ps ds f fd)(hnk:ks.length=nKw sh)(hsh:sh.length=(ds.drop off).length)(hd':((sh.zip (ds.drop off)).all λp=>p.1.all λi=>decide (i=p.2))=AB)
  (h:∀(dT:AI) (kV doc pm:AG) (an:Option AI) (cdv ct:AG) (us ws its:List AG),us.length=np->ws.length=ks.length->its.length=ds.length ->
   ∃k,bindArgs (B5 x x (yaf st) (yac st) (yH st) (.ref dT) kV doc pm an cdv ct) ⟨us,ks.zip ws⟩=seqItems? (.ref dT) >>= k/\k (AA its.toArray)=pure (ps.zip (us++ya6 sh ws (its.drop off)))) (hps:0<ps.length):
  ∃g,ybG K fd ps ks g (gK np sh):=by
 have hd:∀p∈sh.zip (ds.drop off),∀i,p.1=AA i->i=p.2:=λp hp i hi=>by
  have:=Bl.mp hd' p hp;rw[hi]at this;simpa using this
 let⟨oc,od,dT,kV,doc,pm,an,cdv,ct,osl,o,its,n,rfl,lk,hcd,lo,hs,r⟩:=D.ex;refine⟨λus ws=>if us.length=np/\ws.length=nKw sh then us++ya6 sh ws (its.toList.drop off)else [],⟨λs us ws KX hl=>?_,λ{vs us zs ws} rv rz=>?_⟩⟩
 .by_cases c:us.length=np/\ws.length=nKw sh
  .rw[if_pos c]at hl ⊢;let⟨k,h1,h2⟩:=h dT kV doc pm an cdv ct us ws its.toList c.1 (by rw[hnk];exact c.2) (by rw[<-r.length,BH]);exact BindsTo.of_defaults rfl (KX _ _ lo) hs h1 (by simpa using h2)
  .rw[if_neg c]at hl;simp at hl;lia
 .unfold gK;have e1:=rv.length;have e2:=rz.length
  by_cases c:us.length=np/\ws.length=nKw sh
  .rw[if_pos c,if_pos ∅];refine rv.append (zdE sh (ds.drop off) ?_ rz hsh hd);rw[List.map_drop];exact r.drop off
  .rw[if_neg c,if_neg ∅];exact .nil
section
variable {P:A8}{w:An}{K:AF}{mg:AQ->Option AG}{base:BF}{cl:Nat->AI}{T:Nat->Option IC.Fn}{fi:Nat}{fn:IC.Fn}{x:AQ}{stm:Bz}{f:AI}{fd:BG}{N ps:List AQ}{ds:List Int}{k:Nat}
end
def zeK(a b:Key):peq (yaI a) (yaI b)=decide (a=b):=by
 rw[Do]
 cases a<;>cases b<;>simp[yaI,peq]
def zgJ:∀(a b:List Key),ybg (a.map yaI) (b.map yaI)=decide (a=b)
 |[],[]=>by simp[ybg]
 |[],y::ys=>by simp[ybg]
 |x::xs,[]=>by simp[ybg]
 |x::xs,y::ys=>by
  erw[AL,ybg,zeK,zgJ xs ys];rw[Do];simp
def zeG(a b:List Key):peq (.tup (a.map yaI)) (.tup (b.map yaI))=decide (a=b):=by
 erw[peq,zgJ]
def zhE{k:PV}(h:ybA k=AB):∃q,k=yaI q:=by
 cases k with
 |int i=>exact⟨.inl i,rfl⟩
 |str i=>exact⟨.inr i,rfl⟩
 |_=>cases h
def zhS:∀{ks:List PV},ks.all ybA=AB->∃qs:List Key,ks=qs.map yaI
 |[],_=>⟨[],rfl⟩
 |k::ks,h=>by
  rw[Bc,AK]at h;let⟨q,rfl⟩:=zhE h.1;let⟨qs,rfl⟩:=zhS h.2;exact⟨q::qs,rfl⟩
section
variable {S:Se}{X:Cx}{K:AF}{cl:Nat->AI}{σ:St}{B:AI->Prop}{φ:Ph}{H:Hp}{st:SO}{p pos p2 px apos:CV}{a b c d o:AV}{ca cb cc:Ce}
def zoO{q:Key}{x:V}:yg K cl B φ H (yaI q) x ↔ x=kV q:=by
 cases q<;>simp[yaI,yg,kV]
def zfD:∀{qs:List Key} {xs:List V},yj K cl B φ H (qs.map yaI) xs->xs=qs.map kV
 |[],xs,l=>by simpa only[Ar,yj] using l
 |q::qs,xs,l=>by
  erw[AL,yj]at l;let⟨y,ys,rfl,r,l⟩:=l;rw[zoO.mp r,zfD l];rfl
theorem DK.look{q:Key}:∀{kvs:List (PV×PV)} {ks:List (Key×V)},DK K cl B φ H kvs ks->∀{v:PV} {x:V},yg K cl B φ H v x->yg K cl B φ H ((IC.look (yaI q) kvs).getD v) ((ybD ks q).getD x)
 |[],ks,h,v,x,r=>by cases h;exact r
 |(k,w)::t,ks,h,v,x,r=>by
  let⟨q',y,s,rfl,rfl,rv,l⟩:=h;erw[IC.look,zeK]
  by_cases e:q'=q
  .rw[zck (p:=(q',y)) e];simp[e,rv]
  .rw[zci (p:=(q',y)) e];erw[decide_eq_true_eq,e,if_false];exact DK.look l r
theorem DT.look{q:List Key}:∀{kvs:List (PV×PV)} {ks:List (List Key×V)},DT K cl B φ H kvs ks->∀{v:PV} {x:V},yg K cl B φ H v x->yg K cl B φ H ((IC.look (.tup (q.map yaI)) kvs).getD v) ((ybD ks q).getD x)
 |[],ks,h,v,x,r=>by cases h;exact r
 |(k,w)::t,ks,h,v,x,r=>by
  let⟨q',y,s,rfl,rfl,rv,l⟩:=h;erw[IC.look,zeG]
  by_cases e:q'=q
  .rw[zck (p:=(q',y)) e];simp[e,rv]
  .rw[zci (p:=(q',y)) e];erw[decide_eq_true_eq,e,if_false];exact DT.look l r
theorem DK.any{q:Key}:∀{kvs:List (PV×PV)} {ks:List (Key×V)},DK K cl B φ H kvs ks->(kvs.any λp=>peq p.1 (yaI q))=ks.any λkv=>decide (kv.1=q)
 |[],ks,h=>by cases h;rfl
 |(k,w)::t,ks,h=>by
  let⟨q',y,s,rfl,rfl,rv,l⟩:=h;erw[BP,zeK,DK.any l]
theorem DT.any{q:List Key}:∀{kvs:List (PV×PV)} {ks:List (List Key×V)},DT K cl B φ H kvs ks->(kvs.any λp=>peq p.1 (.tup (q.map yaI)))=ks.any λkv=>decide (kv.1=q)
 |[],ks,h=>by cases h;rfl
 |(k,w)::t,ks,h=>by
  let⟨q',y,s,rfl,rfl,rv,l⟩:=h;erw[BP,zeG,DT.any l]
theorem DK.map{q:Key}{v:PV}{x:V}(r:yg K cl B φ H v x):∀{kvs:List (PV×PV)} {ks:List (Key×V)},DK K cl B φ H kvs ks->DK K cl B φ H (kvs.map λp=>if peq p.1 (yaI q)=AB then(p.1,v)else p) (ks.map λkv=>if kv.1=q then(kv.1,x)else kv)
 |[],ks,h=>by cases h;exact rfl
 |(k,w)::t,ks,h=>by
  let⟨q',y,s,rfl,rfl,rv,l⟩:=h;erw[AL,zeK,decide_eq_true_eq]
  by_cases e:q'=q
  .simp only[e,if_true];exact⟨q,x,_,rfl,rfl,r,DK.map r l⟩
  .simp only[e,if_false];exact⟨q',y,_,rfl,rfl,rv,DK.map r l⟩
theorem DT.map{q:List Key}{v:PV}{x:V}(r:yg K cl B φ H v x):∀{kvs:List (PV×PV)} {ks:List (List Key×V)},DT K cl B φ H kvs ks->DT K cl B φ H (kvs.map λp=>if peq p.1 (.tup (q.map yaI))=AB then(p.1,v)else p) (ks.map λkv=>if kv.1=q then(kv.1,x)else kv)
 |[],ks,h=>by cases h;exact rfl
 |(k,w)::t,ks,h=>by
  let⟨q',y,s,rfl,rfl,rv,l⟩:=h;erw[AL,zeG,decide_eq_true_eq]
  by_cases e:q'=q
  .simp only[e,if_true];exact⟨q,x,_,rfl,rfl,r,DT.map r l⟩
  .simp only[e,if_false];exact⟨q',y,_,rfl,rfl,rv,DT.map r l⟩
theorem DK.snoc{q:Key}{v:PV}{x:V}(r:yg K cl B φ H v x):∀{kvs:List (PV×PV)} {ks:List (Key×V)},DK K cl B φ H kvs ks->DK K cl B φ H (kvs++[(yaI q,v)]) (ks++[(q,x)])
 |[],ks,h=>by cases h;exact⟨q,x,[],rfl,rfl,r,rfl⟩
 |(k,w)::t,ks,h=>by
  let⟨q',y,s,rfl,rfl,rv,l⟩:=h;exact⟨q',y,_,rfl,rfl,rv,DK.snoc r l⟩
theorem DT.snoc{q:List Key}{v:PV}{x:V}(r:yg K cl B φ H v x):∀{kvs:List (PV×PV)} {ks:List (List Key×V)},DT K cl B φ H kvs ks->DT K cl B φ H (kvs++[(.tup (q.map yaI),v)]) (ks++[(q,x)])
 |[],ks,h=>by cases h;exact⟨q,x,[],rfl,rfl,r,rfl⟩
 |(k,w)::t,ks,h=>by
  let⟨q',y,s,rfl,rfl,rv,l⟩:=h;exact⟨q',y,_,rfl,rfl,rv,DT.snoc r l⟩
theorem DK.put{q:Key}{v:PV}{x:V}{kvs:List (PV×PV)}{ks:List (Key×V)}(l:DK K cl B φ H kvs ks)(r:yg K cl B φ H v x):DK K cl B φ H (IC.put (yaI q) v kvs) (putK ks q x):=by
 unfold IC.put putK;rw[DK.any l];split
 .exact DK.map r l
 .exact DK.snoc r l
theorem DT.put{q:List Key}{v:PV}{x:V}{kvs:List (PV×PV)}{ks:List (List Key×V)}(l:DT K cl B φ H kvs ks)(r:yg K cl B φ H v x):DT K cl B φ H (IC.put (.tup (q.map yaI)) v kvs) (putK ks q x):=by
 unfold IC.put putK;rw[DT.any l];split
 .exact DT.map r l
 .exact DT.snoc r l
theorem DK.len:∀{kvs:List (PV×PV)} {ks:List (Key×V)},DK K cl B φ H kvs ks->kvs.length=ks.length
 |[],ks,h=>by cases h;rfl
 |(k,w)::t,ks,h=>by
  let⟨q',y,s,rfl,rfl,rv,l⟩:=h;simp[DK.len l]
theorem DT.len:∀{kvs:List (PV×PV)} {ks:List (List Key×V)},DT K cl B φ H kvs ks->kvs.length=ks.length
 |[],ks,h=>by cases h;rfl
 |(k,w)::t,ks,h=>by
  let⟨q',y,s,rfl,rfl,rv,l⟩:=h;simp[DT.len l]
theorem yE.dct{n:Nat}{t:Bool}{kvs:List (PV×PV)}{x:V}(rs:yE K cl B φ H st)(r:yg K cl B φ H (.loc n) x)(h:st[n]?=AA (.dct t kvs)):∃y,x=.ref y/\φ[n]?=AA (AA y)/\ycg K cl B φ H (.dct t kvs) y:=by
 erw[yg]at r;let⟨hn,y,rfl,ha⟩:=r;let⟨z,hz⟩:=rs.liv n _ h (by intro z;cases z);obtain rfl:=ha z hz;let⟨o,ho,ro⟩:=rs.obj n z hz;rw[h]at ho;cases ho;exact⟨z,rfl,hz,ro⟩
def zeX{v:PV}{t:Bool}{kvs:List (PV×PV)}(h:ybe st v=AA (t,kvs)):∃n,v=.loc n/\st[n]?=AA (.dct t kvs):=by
 cases v with
 |loc n=>
  erw[ybe]at h;split at h
  .rename_i t' xs q
   cases h
   exact⟨n,rfl,q⟩
  .cases h
 |_=>cases h
def zhh{k:PV}(h:isKey AC k=AB):∃q,k=yaI q:=zhE h
def ziL{k:PV}(h:isKey AB k=AB):∃q:List Key,k=.tup (q.map yaI):=by
 cases k with
 |tp b xs=>
  cases b with
  |false=>
   let⟨qs,rfl⟩:=zhS h;exact⟨qs,rfl⟩
  |true=>cases h
 |_=>cases h
def ziC{q:List Key}{x:V}(r:yg K cl B φ H (.tup (q.map yaI)) x):∃y,x=.ref y/\H y=AA (.tup (q.map kV)):=by
 erw[yg]at r;let⟨y,xs,rfl,rt,l⟩:=r;rcases rt with⟨rt,_⟩|⟨z,_⟩
 .exact⟨y,rfl,by rw[rt,zfD l]⟩
 .cases z
def zi3:PE X (.Dict [] [] pos) (tE S X (.dict0 AB)):=zqI.imp λσ H Q ⟨B,φ,st,ρ,rs,re,h⟩=>by
 erw[ev]at h;exact λp hp=>h _ _ (φ++[AA p]) (.push hp) (rs.push hp (rs.nB hp) ⟨[],zq,rfl⟩) (.loc_new rs)
def zoI(hu:X.A.units+1<cLine)(ha:PE X a (tE S X ca))(hb:PE X b (tE S X cb))(hc:PE X c (tE S X cc))(m:M2 X a "get" apos b c pos:=by exact⟨rfl,rfl,rfl,rfl⟩):PE X (.Call (.Attribute a "get" apos) [b,c] [] pos) (tE S X (.mth .get ca (.cons cb (.cons cc .nil)))):=
 (zkl hu ha hb hc m).imp λσ H Q ⟨B,φ,st,ρ,rs,re,h⟩=>by
  erw[ev]at h;refine tE.bind rs re h λx H1 v st1 φ1 s1 rs1 re1 rv h1=>?_;let⟨_,e1,h1⟩:=zix h1;erw[yaO]at e1
  cases q:ybe st1 v with
  |none=>rw[q]at e1;cases e1
  |some tk=>
   let⟨t,kvs⟩:=tk;let⟨n,rfl,hn⟩:=zeX q;let⟨y,rfl,hy,ro⟩:=rs1.dct rv hn;refine⟨y,rfl,?_,?_⟩
   .cases t with
    |false=>let⟨ks,hk,_⟩:=ro;exact .inl ⟨ks,.inl hk⟩
    |true=>let⟨ks,hk,_⟩:=ro;exact .inr ⟨ks,.inl hk⟩
   .simp only[evs,R.bind_assoc]at h1;refine tE.bind rs1 re1 h1 λkx H2 kv st2 φ2 s2 rs2 re2 rk h2=>tE.bind rs2 re2 h2 λdx H3 dv st3 φ3 s3 rs3 re3 rd h3=>?_;erw[R.bind]at h3;unfold ych at h3;erw[ydP]at h3
    cases q3:ybe st3 (.loc n)with
    |none=>rw[q3]at h3;exact h3.elim
    |some tk3=>
     let⟨t3,kvs3⟩:=tk3;rw[q3]at h3;dsimp only at h3;split at h3
     .rename_i hk;let⟨n',e',hn3⟩:=zeX q3
      cases e'
      let⟨y3,ey,hy3,ro3⟩:=rs3.dct ((rv.step s2).step s3) hn3
      cases ey
      have rk3:=rk.step s3
      cases t3 with
      |false=>
       let⟨q,rfl⟩:=zhh hk;let⟨ks,hks,l⟩:=ro3;refine⟨ybD ks q,.inl ⟨ks,q,.inl hks,zoO.mp rk3,rfl⟩,h3.ok rs3 (DK.look l rd)⟩
      |true=>
       let⟨q,rfl⟩:=ziL hk;let⟨ks,hks,l⟩:=ro3;let⟨b',rfl,hb'⟩:=ziC rk3;exact⟨ybD ks q,.inr ⟨ks,q,b',.inl hks,rfl,hb',rfl⟩,h3.ok rs3 (DT.look l rd)⟩
     .exact h3.elim
def zhp{st4:SO}{x y v:PV}(h:ybd st x y v=AA st4):∃n t kvs,x=.loc n/\st[n]?=AA (.dct t kvs)/\isKey t y=AB/\kvs.length<1000000/\st4=st.set n (.dct t (IC.put y v kvs)):=by
 cases x with
 |loc n=>
  erw[ybd]at h;split at h
  .rename_i t kvs q;split at h
   .rename_i c;exact⟨n,t,kvs,rfl,q,c.1,c.2,(AZ h).symm⟩
   .cases h
  .cases h
 |_=>cases h
def zmG(hu:X.A.units+1<cLine)(ho:PE X b (tE S X cb))(hi:PE X c (tE S X cc))(hv:PE X a (tE S X ca))(hs:swapsWith a (AA (.Subscript b c px)) pos.line X.env=pure false:=by rfl):PS X (.Assign [.Subscript b c px] a pos) (tS S X (.dput cb cc ca)):=
 (zlV hu ho hi hv hs).imp λD σ H ⟨B,φ,st,ρ,rs,re,h⟩=>by
  erw[ex]at h;refine tE.fl rs re h λv' H1 v st1 φ1 s1 rs1 re1 rv h1=>tE.fl rs1 re1 h1 λx' H2 x st2 φ2 s2 rs2 re2 rx h2=>tE.fl rs2 re2 h2 λy' H3 y st3 φ3 s3 rs3 re3 ry h3=>?_
  cases e:ybd st3 x y v with
  |none=>rw[e]at h3;exact h3.elim
  |some st4=>
   rw[e]at h3;let⟨n,t,kvs,rfl,hn,hk,hl,rfl⟩:=zhp e;let⟨l,rfl,hp,ro⟩:=rs3.dct (rx.step s3) hn;have rv3:=(rv.step s2).step s3;have hm:=zqj
   cases t with
   |false=>
    let⟨q,rfl⟩:=zhh hk;let⟨ks,hks,ld⟩:=ro;have s4:Step φ3 H3 φ3 (L2.upd H3 l (.dK (putK ks q v'))):=.put (A5 hp);refine⟨l,_,rfl,.inl ⟨ks,q,hks,zoO.mp ry,by have:=ld.len;lia,rfl⟩,h3 σ _ φ3 s4 (rs3.put hp ⟨_,zq,(ld.put rv3).step s4⟩) (re3.step s4)⟩
   |true=>
    let⟨q,rfl⟩:=ziL hk;let⟨ks,hks,ld⟩:=ro;let⟨b',rfl,hb'⟩:=ziC ry;have s4:Step φ3 H3 φ3 (L2.upd H3 l (.dT (putK ks q v'))):=.put (A5 hp);refine⟨l,_,rfl,.inr ⟨ks,q,b',hks,rfl,hb',by have:=ld.len;lia,rfl⟩,h3 σ _ φ3 s4 (rs3.put hp ⟨_,zq,(ld.put rv3).step s4⟩) (re3.step s4)⟩
end
section
variable {S:Se}{X:Cx}{σ:St}{B:AI->Prop}{φ:Ph}{H:Hp}{p pos p3 p4:CV}{a b tg:AV}{ca cb:Ce}
end
end L2
namespace WK
open PySem L2 IC
section
variable {K:AF}{cl:Nat->AI}{B:AI->Prop}{φ:Ph}{H:Hp}
def zk2:yj K cl B φ H [] []:=by erw[yj]
def zhW{v:PV}{x:V}{vs:List PV}{xs:List V}(h:yg K cl B φ H v x)(l:yj K cl B φ H vs xs):yj K cl B φ H (v::vs) (x::xs):=by
 erw[yj];exact⟨x,xs,rfl,h,l⟩
end
def znf{P:A8}{w:An}{outer:List B0}{H:Hp}{s:AJ}{e:AG}{s':AJ}(h:CX1 P w outer H s (λ_ _ _=>False) e s'):False:=by
 let⟨_,_,_,_,_,_,_,_,_,_,_,_,_,_,z⟩:=h;exact z
def zi8{K:AF}{cl:Nat->AI}{B:AI->Prop}{φ:Ph}{H:Hp}:∀ns:List Int,yj K cl B φ H (ns.map .int) (ns.map V.int)
 |[]=>zk2
 |n::ns=>zhW (by erw[yg]) (zi8 ns)
def spX(K:AF)(call:Nat->List PV->SO->R PV)(fi:Nat):Sp:=λvs H Q E=>∀cl,spI K cl call fi vs H Q E
def zhz{K:AF}{call:Nat->List PV->SO->R PV}{fi:Nat}{H:Hp}{a:AI}{ns:List Int}(ht:∀ns:List Int,ns.length<=63->call fi [.scr (ns.map .int)] []=.ok (.bl AB) [])(hl:ns.length<=63)(hS:SqL K H a (ns.map V.int)):
  spX K call fi [.ref a] H (λv _=>v=.bl AB) λ_ _ _=>False:=by
 intro cl;refine⟨λ_=>False,[],[],[.scr (ns.map .int)],⟨rfl,λm n a e=>by simp at e,λn a e=>by simp at e,λn o e=>by simp at e,λa z=>by simp at z,λa z=>z.elim⟩,zhW ?_ zk2,?_⟩
 .simp only[yg];refine⟨a,_,rfl,?_,zi8 ns⟩;rcases hS with hS|hS
  .exact .inl ⟨hS,λz=>z,by simp⟩
  .exact .inr hS
 .rw[ht ns hl];intro x H' φ' _ _ r;simpa only[yg] using r
end WK
namespace L2
open PySem PySem.Spec PyProof.Rows IC
def ziD{l:List AQ}(h:l.Nodup){i j:Nat}(hi:i<l.length)(hj:j<l.length)(e:l[i]=l[j]):i=j:=by
 rcases Nat.lt_trichotomy i j with q|q|q
 .exact absurd e (ET.mp h i j hi hj q)
 .exact q
 .exact absurd e.symm (ET.mp h j i hj hi q)
section
variable {X:Cx}{π:List (AI×CF)}{σ:St}{H:Hp}{s:AJ}
theorem Inv.drop{h':BF}{m:AQ->Option AG}{v:Option AG}{i:Nat}{n:AQ}(I:Inv X π σ H s)(hN:X.N.Nodup)(hi:X.N[i]?=AA n)(hm:s.heap.Ns X.env.locals m)(look:∀(i:Nat) (x:AQ) (v:V),X.N[i]?=AA x->σ[i]?=AA (AA v)->Vis X.env.scope x->∃u,RelV v u/\Look X.env s.heap m x u)(hs:Cc X.env.locals s.heap h')(hn:h'.Ns X.env.locals (λx=>if x=n then v else m x)):Inv X π (σ.set i AD) H {s with heap:=h'}:=by
 have k:∀b u,b≠X.env.locals->s.heap.get? b=AA u->h'.get? b=AA u:=λb u hb q=>(hs.2 b hb).trans q;have nl:∀b o,X.s₀.heap.get? b=AA o->b≠X.env.locals:=λb o e=>Ao (A3 (AY e) I.ok.above);refine⟨I.ok,I.os,I.bare,⟨λb o q n hb hx=>k b o (nl b o q) (I.base.keep b o q n hb hx),λb o q n hb hx=>?_,I.base.free,λb o q hx=>?_,I.base.tups,I.base.frzs,I.base.tbls⟩,⟨_,hn,λj x v e1 e2 hv=>?_⟩,λx c e=>?_,I.free,I.freeC,λp hp=>?_,λb u e=>?_,?_⟩
 .let⟨sl,q1⟩:=I.base.slot b o q n hb hx;exact⟨sl,k b _ (nl b o q) q1⟩
 .let⟨o',q1⟩:=I.base.there b o q hx;exact⟨o',k b o' (nl b o q) q1⟩
 .have hj:j≠i:=λz=>by
   subst z;rw[Cj]at e2;erw[if_true]at e2;split at e2<;>cases e2
  rw[AO (BN hj)]at e2;have hx:x≠n:=λz=>by
   subst z;let⟨l1,g1⟩:=BE.mp e1;let⟨l2,g2⟩:=BE.mp hi;exact hj (ziD hN l1 l2 (g1.trans g2.symm))
  let⟨u,r,lk⟩:=look j x v e1 e2 hv;refine⟨u,r,?_⟩;rcases lk with⟨q1,q2⟩|⟨q1,c,q2,o,q3,q4⟩
  .exact .inl ⟨q1,by dsimp only;rw[if_neg hx];exact q2⟩
  .exact .inr ⟨q1,c,q2,o,k c o (I.cne x c q2) q3,q4⟩
 .let⟨v,o,ho,hd⟩:=I.cell x c e;exact⟨v,o,k c o (I.cne x c e) ho,hd⟩
 .let⟨q1,q2,q3,q4⟩:=I.pin p hp;exact⟨k _ _ q3 q1,q2,q3,q4⟩
 .refine(I.hok b u e).stay (λc v hc q=>k c v (λz=>?_) q) (λ_ q=>q) λ_ _ q=>q;have fr:=I.free;subst z;rcases hc with z|z
  .rw[z,e]at fr
   cases fr
  .rw[z]at fr
   cases fr
 .rw[B4];exact I.len
end
section
variable {X:Cx}{body suite:List Bz}{b₀:Bz}{x n:AQ}{np hpos pos:CV}{W:AI}{i:Nat}
end
section
variable {S:Se}{X:Cx}{σ:St}{B:AI->Prop}{φ φ1:Ph}{H H1:Hp}{st:SO}{ρ:IC.Env}{D:Ends}{body suite:List Bz}{b₀:Bz}{x n:AQ}{p p2 np hpos pos cpos:CV}{W:AI}{i:Nat}{cb ch:Css}{a e:AV}{es:List AV}{ca ce:Ce}{ces:Ces}
theorem yM.drop{K:AF}{cl:Nat->AI}(r:yM K cl B φ H ρ σ)(i:Nat):yM K cl B φ H (ρ.set i AD) (σ.set i AD):=by
 refine⟨by rw[B4,B4];exact r.len,λj w e=>?_⟩
 by_cases h:j=i
 .subst h;rw[Cj]at e;erw[if_true]at e;split at e<;>cases e
 .rw[AO (BN h)]at e ⊢;exact r.get j w e
abbrev Se.quiet(S:Se):Se:={S with may:=AC}
theorem all_nil{P:Nat->Prop}:∀c∈([]:List Nat),P c:=λ_ h=>by cases h
theorem all_cons{P:Nat->Prop}{c:Nat}{cs:List Nat}(h:P c)(t:∀d∈cs,P d):∀d∈c::cs,P d:=λd hd=>by
 rcases AT.mp hd with e|e
 .exact e ▸ h
 .exact t d e
structure ydn(K:AF)(mg:AQ->Option AG)(C:AI)(x:AQ):Prop where
 m:mg x=AA (.ref C)
 q:Fd K C [.type "ValueError",.type "Exception",.type "BaseException",.type "object"] "ValueError.__new__"=AB
end
section
variable {S:Se}{X:Cx}{p pos p2 px apos:CV}{a b:AV}{ca cb:Ce}
def GCI(mg:AQ->Option AG)(x:AQ)(i:Int):Prop:=∃t,mg x=AA (.int i t)
def zne{x:AQ}{i:Int}(hg:Gl X x)(h:GCI X.mg x i)(hd:(x==("__debug__":AQ))=false:=by decide):PE X (.Name x pos) (tE S X (.cst (.int i))):=by
 let⟨t,hm⟩:=h;exact(zdJ hg hm (show RelV (.int i) (.int i t)from ⟨t,rfl⟩) hd).imp λσ H Q ⟨B,φ,st,ρ,rs,re,h⟩=>by
  erw[ev]at h;exact h.ok rs (by erw[yg])
end
end L2
namespace WE
open PySem PySem.Spec PyProof.Rows
section
variable {prog:A8}{w:An}{A:Au}{E:AG->AJ->Prop}{s:AJ}
def ydG(h:BF)(a t:AI)(i:Int):Prop:=∃o,h.get? a=AA o/\o.cls=.type "reversed"/\o.data=.fields #[.ref t,rawInt i]
theorem ydG.typeIs{a t:AI}{i:Int}(x:ydG s.heap a t i):s.TypeIs (.ref a) "reversed":=let ⟨o,ho,hc,_⟩:=x;⟨o,ho,hc⟩
end
end WE
namespace L2
open PySem PySem.Spec PyProof.Rows
end L2
namespace L2
open PySem PySem.Spec PyProof.Rows IC
open Classical in
section
variable {S:Se}{X:Cx}{σ:St}{B:AI->Prop}{φ φ1:Ph}{H H1:Hp}{st:SO}{ρ:IC.Env}{p pos p2 px py pt pt2:CV}{a b c d o a' b' c' d':AV}{ca cb cc cd ce cf:Ce}{π:List (AI×CF)}{s:AJ}{kt k2:Nat}{es:List AV}{ces:Ces}{x:AQ}
end
end L2
namespace IC
open PySem
end IC
namespace L2
open PySem PySem.Spec PyProof.Rows IC
section
variable {S:Se}{X:Cx}{σ:St}{B:AI->Prop}{φ:Ph}{H:Hp}{p p2 pos pos2 apos:CV}{a b tg:AV}{ca cb:Ce}
def zd5:∀bs:List Bool,((Cb bs.length).any λi=>(bs[i]?).getD AB)=bs.any id
 |[]=>rfl
 |b::bs=>by
  rw[AS,FA,BP,HL,BP,<-zd5 bs];rfl
def zkk(hc:X.calm=AB):yad X (.builtin "any") (λxs H Q=>∃(l:AI) (bs:List Bool),xs=[.ref l]/\SqL X.K H l (bs.map V.bl)/\Q (.bl (bs.any id)) H):=by
 intro π s σ H xs us Q I r h;let⟨l,bs,rfl,hq,q⟩:=h;let⟨u,rfl,ru⟩:=Vals.one r
 cases (show u=Al l from ru)
 let⟨its,rv,pl,hz⟩:=I.list hq;have hb:=zeo rv;have hl:=pl.isList;have hlt:l<s.heap.objs.size:=by
  let⟨_,e,_⟩:=hl;exact AY e
 refine call_any_walk (EX hl ?_);refine⟨s.heap.objs.size,[s.heap.objs.size,l],[s.heap.objs.size],its.toArray.size,_,_,λi=>(bs[i]?).getD AB,rfl,Hc (A:=X.A.in1) (I.ok.hd hc) _ l (Ao hlt) its.toArray,⟨⟨_,A2 _ rfl,rfl,rfl⟩,hl.push _⟩,λi v s' Q' E' hP hQ=>?_,λh' tk hk=>?_⟩
 .let⟨b,e,rfl⟩:=hb.get i v (by simpa using hP);erw[e,Bi]at hQ;exact BY hQ
 .have e:((Cb its.toArray.size).any λi=>(bs[i]?).getD AB)=bs.any id:=by
   rw[A1,hb.length];exact zd5 bs
  rw[e];exact⟨.bl _,H,I.kept (t':=tk) (Fb hk),rfl,q⟩
def zkO:∀{vs:List PV} {m:Bool},IC.anyB vs=AA m->∃ns:List Bool,vs=ns.map .bl/\m=ns.any id
 |[],m,h=>by cases h;exact⟨[],rfl,rfl⟩
 |.bl i::r,m,h=>by
  erw[IC.anyB]at h;split at h
  .rename_i c e
   cases h
   let⟨ns,e1,e2⟩:=zkO e;exact⟨i::ns,by rw[e1];rfl,by rw[e2];rfl⟩
  .cases h
 |.non::r,m,h=>by cases h
 |.int _::r,m,h=>by cases h
 |.str _::r,m,h=>by cases h
 |.tp _ _::r,m,h=>by cases h
 |.lst _::r,m,h=>by cases h
 |.loc _::r,m,h=>by cases h
 |.exn _::r,m,h=>by cases h
 |.scr _::r,m,h=>by cases h
def zpo:bootBuiltins "any"=AA (.builtin "any"):=by decide +kernel
def zgz:∀{ns:List Int} {us:List AG},Vals (ns.map V.int) us->us.length=ns.length/\∀(i:Nat) (v:AG),us[i]?=AA v->∃n t,ns[i]?=AA n/\v=.int n t
 |[],_,.nil=>⟨rfl,λi v h=>by simp at h⟩
 |n::ns,_,.cons r q=>by
  let⟨h1,h2⟩:=zgz q;let⟨t,rfl⟩:=r;refine⟨by simp[h1],λi v h=>?_⟩
  cases i with
  |zero=>simp at h;exact⟨n,t,rfl,h.symm⟩
  |succ i=>simp at h;simpa using h2 i v h
def zed:∀ns:List Int,((Cb ns.length).any λi=>((ns[i]?).getD 1) != 0)=ns.any (· != 0)
 |[]=>rfl
 |b::bs=>by
  rw[AS,FA,BP,HL,BP,<-zed bs];rfl
def zia(hc:X.calm=AB):yad X (.builtin "any") (λxs H Q=>∃(l:AI) (ns:List Int),xs=[.ref l]/\SqT X.K H l (ns.map V.int)/\Q (.bl (ns.any (· != 0))) H):=by
 intro π s σ H xs us Q I r h;let⟨l,ns,rfl,hq,q⟩:=h;let⟨u,rfl,ru⟩:=Vals.one r
 cases (show u=Al l from ru)
 let⟨its,rv,p,hz⟩:=I.tuple hq;let⟨hn,hb⟩:=zgz rv;have hl:s.heap.IsTuple l its.toArray:=p;have hlt:l<s.heap.objs.size:=by
  let⟨_,e,_⟩:=hl;exact AY e
 refine call_any_walk (Bs hl ?_);refine⟨s.heap.objs.size,[s.heap.objs.size,l],[s.heap.objs.size],its.toArray.size,_,_,λi=>((ns[i]?).getD 1) != 0,rfl,Walks.tuple (A:=X.A.in1) (I.ok.hd hc) _ l (Ao hlt) its.toArray,⟨⟨_,A2 _ rfl,rfl,rfl⟩,hl.push _⟩,λi v s' Q' E' hP hQ=>?_,λh' tk hk=>?_⟩
 .let⟨b,t,e,rfl⟩:=hb i v (by simpa using hP);erw[e,Bi]at hQ;exact truthy_int hQ
 .have e:((Cb its.toArray.size).any λi=>((ns[i]?).getD 1) != 0)=ns.any (· != 0):=by
   rw[A1,hn];exact zed ns
  rw[e];exact⟨.bl _,H,I.kept (t':=tk) (Fb hk),rfl,q⟩
def ziU:∀{vs:List PV} {m:Bool},IC.anyI vs=AA m->∃ns:List Int,vs=ns.map .int/\m=ns.any (· != 0)
 |[],m,h=>by cases h;exact⟨[],rfl,rfl⟩
 |.int i::r,m,h=>by
  erw[IC.anyI]at h;split at h
  .rename_i c e
   cases h
   let⟨ns,e1,e2⟩:=ziU e;exact⟨i::ns,by rw[e1];rfl,by rw[e2];rfl⟩
  .cases h
 |.non::r,m,h=>by cases h
 |.bl _::r,m,h=>by cases h
 |.str _::r,m,h=>by cases h
 |.tp _ _::r,m,h=>by cases h
 |.lst _::r,m,h=>by cases h
 |.loc _::r,m,h=>by cases h
 |.exn _::r,m,h=>by cases h
 |.scr _::r,m,h=>by cases h
def zlk(st:SO)(v:PV):(∃k xs,v=.tp k xs) \/ yaj .any st [v]=(yae st v).bind λxs=>(anyB xs).map .bl:=by
 cases v<;>first|exact .inl ⟨_,_,rfl⟩|exact .inr rfl
def zol(hc:X.calm=AB):yad X (.builtin "any") (rB S X .any):=by
 rintro π s σ H xs us Q I r ⟨B,φ,st,vs,z,rs,l,e,q⟩
 let⟨v,rfl⟩:=zcx e λ_ _=>rfl;let⟨x,rfl,rv⟩:=l.one;rcases zlk st v with⟨k,ws,rfl⟩|ev
 .have e:(IC.anyI ws).map PV.bl=AA z:=e
  cases e2:IC.anyI ws with
  |none=>rw[e2]at e;cases e
  |some m=>
   rw[e2]at e
   cases e
   let⟨ns,rfl,rfl⟩:=ziU e2;erw[yg]at rv;let⟨a,ys,rfl,h,l⟩:=rv;have h:=h.sq;rw[l.ints]at h;exact zia hc π s σ H _ us Q I r ⟨a,ns,rfl,h,q _ H φ .rfl rs (by erw[yg])⟩
 .rw[ev]at e
  cases e1:yae st v with
  |none=>rw[e1]at e;cases e
  |some ws=>
   rw[e1]at e;erw[Bj]at e
   cases e2:IC.anyB ws with
   |none=>rw[e2]at e;cases e
   |some m=>
    rw[e2]at e
    cases e
    let⟨ns,rfl,rfl⟩:=zkO e2;let⟨a,ys,rfl,h,l⟩:=zdq rs rv e1;rw[l.bls]at h;exact zkk hc π s σ H _ us Q I r ⟨a,ns,rfl,h,q _ H φ .rfl rs (by erw[yg])⟩
end
end L2
namespace WE
open PySem PySem.Spec PyProof.Rows
section
variable {pg:A8}{wd:An}{A:Au}{Er:AG->AJ->Prop}{s:AJ}
theorem tit_keep{h h':BF}{i t:AI}{j:Nat}(u:h.IsTupleIter i t j)(k:∀o,h.get? i=AA o->h'.get? i=AA o):h'.IsTupleIter i t j:=let ⟨o,g,r⟩:=u;⟨o,k o g,r⟩
def zcV{h h':BF}{t:AI}{xs:Array AG}(u:h.IsTuple t xs)(k:∀o,h.get? t=AA o->h'.get? t=AA o):h'.IsTuple t xs:=let ⟨o,g,r⟩:=u;⟨o,k o g,r⟩
def Kz(z TO i1 i2:AI)(h h':BF):Prop:=∀c o,c≠z->c≠TO->c≠i1->c≠i2->h.get? c=AA o->h'.get? c=AA o
def zhB{z TI TO i1 i2 l1 l2:AI}{j:Nat}{xs ys:Array AG}{x y a b:AG}{Q:AG->AJ->Prop}(D:GH z TI TO i1 i2 l1 l2)
  (gz:EZ s.heap z TI TO .none) (gI:C2 s.heap TI (.ref i1) (.ref i2)) (gO:C2 s.heap TO a b) (u1:s.heap.IsTupleIter i1 l1 j) (u2:s.heap.IsTupleIter i2 l2 j) (t1:s.heap.IsTuple l1 xs) (t2:s.heap.IsTuple l2 ys) (ex:xs[j]?=AA x) (ey:ys[j]?=AA y)
  (k:∀h',EZ h' z TI TO (rawInt s.heap.objs.size)->C2 h' TO x y->h'.IsTupleIter i1 l1 (j+1)->h'.IsTupleIter i2 l2 (j+1)->C2 h' s.heap.objs.size x y->h'.objs.size=s.heap.objs.size+1->Kz z TO i1 i2 s.heap h'->Q (.ref s.heap.objs.size) {s with heap:=h'}):
  A4 (model pg wd) A (HG.«zip.__next__» ⟨[.ref z],[]⟩) (λf s'=>∃v,f=.done (.ret v)/\Q v s') Er s:=by
 show A4 _ _ (field (.ref z) 2 >>= _) _ _ _;refine AH (BV gz rfl (x:=.bool AC) rfl ?_);show A4 _ _ (field (.ref z) 3 >>= _) _ _ _;refine AH (BV gz rfl (x:=.ref TI) rfl ?_);refine AH (C7 gI rfl ?_);show A4 _ _ (Bd (.ref z) >>= _) _ _ _;refine AH ?_;unfold Bd;refine AH (BV gz rfl (x:=.none) rfl (AX ?_));erw[if_true];refine AH (Eo ?_);refine AH (BV gz rfl (x:=.ref TO) rfl ?_);refine AH (Cf gz (by simp) λha za sa=>?_)
 replace za:EZ ha z TI TO .ellipsis:=za
 refine AH ?_;erw[GX,Gb,FF,Gq];refine AH (AH (Fe ?_));show A4 _ _ (BT (.ref i1) >>= _) _ _ _;refine AH (zcs (tit_keep u1 λo e=>sa.extBut _ _ D.i1z e) (zcV t1 λo e=>sa.extBut _ _ D.l1z e) ex λhb ub sb=>AX ?_);have ob:C2 hb TO a b:=sb.extBut _ _ D.TOi1 (sa.extBut _ _ D.TOz gO);refine AH (C7 ob rfl ?_);refine AH (FP ob λhc oc sc=>?_)
 replace oc:C2 hc TO x b:=oc
 refine AH (wpAny_letGo (AX ?_));refine AH (AH (Fe ?_));show A4 _ _ (BT (.ref i2) >>= _) _ _ _;refine AH (zcs (tit_keep u2 λo e=>sc.extBut _ _ D.TOi2.symm (sb.extBut _ _ D.i12.symm (sa.extBut _ _ D.i2z e))) (zcV t2 λo e=>sc.extBut _ _ D.l2TO (sb.extBut _ _ D.l2i1 (sa.extBut _ _ D.l2z e))) ey λhd ud sd=>AX ?_);have od:C2 hd TO x b:=sd.extBut _ _ D.TOi2 oc;refine AH (C7 od rfl ?_);refine AH (FP od λhe oe se=>?_)
 replace oe:C2 he TO x y:=oe
 refine AH (wpAny_letGo (AX (AX ?_)));refine AH (C7 oe rfl ?_);refine AH (wpAny_newTuple ?_);have sz:he.objs.size=s.heap.objs.size:=by rw[se.1,sd.1,sc.1,sb.1,sa.1]
 have ze:EZ he z TI TO .ellipsis:=se.extBut _ _ D.TOz.symm (sd.extBut _ _ D.i2z.symm (sc.extBut _ _ D.TOz.symm (sb.extBut _ _ D.i1z.symm za)));have ke:Kz z TO i1 i2 s.heap he:=λc o p1 p2 p3 p4 e=>se.extBut _ _ p2 (sd.extBut _ _ p4 (sc.extBut _ _ p2 (sb.extBut _ _ p3 (sa.extBut _ _ p1 e))));have v1:he.IsTupleIter i1 l1 (j+1):=tit_keep ub λo e=>se.extBut _ _ D.TOi1.symm (sd.extBut _ _ D.i12 (sc.extBut _ _ D.TOi1.symm e));have v2:he.IsTupleIter i2 l2 (j+1):=tit_keep ud λo e=>se.extBut _ _ D.TOi2.symm e;have lz:z<he.objs.size:=AY ze;show A4 _ _ (Cy (.ref z) (.ref he.objs.size) >>= _) _ _ _;refine AH ?_;unfold Cy;have zf:EZ (he.push {cls:=.type "tuple",data:=.seq #[x,y]}) z TI TO .ellipsis:=AR _ ze;refine AH (Cf zf (by simp) λhg zg sg=>?_)
 replace zg:EZ hg z TI TO (rawInt he.objs.size):=zg
 refine Cf zg (by simp) λhi zi si=>?_
 replace zi:EZ hi z TI TO (rawInt he.objs.size):=zi
 have up:∀c o,c≠z->he.get? c=AA o->hi.get? c=AA o:=λc o p e=>si.extBut _ _ p (sg.extBut _ _ p (AR _ e));have pn:C2 hi he.objs.size x y:=si.extBut _ _ (Ep lz) (sg.extBut _ _ (Ep lz) (A2 _ rfl));have si8:hi.objs.size=he.objs.size+1:=by rw[si.1,sg.1,By]
 rw[sz]at zi pn si8;refine AX ⟨_,rfl,?_⟩;show Q (.ref he.objs.size) _;rw[sz];exact k hi zi (up _ _ D.TOz oe) (tit_keep v1 λo e=>up _ o D.i1z e) (tit_keep v2 λo e=>up _ o D.i2z e) pn si8 λc o p1 p2 p3 p4 e=>up c o p1 (ke c o p1 p2 p3 p4 e)
def zj9{z TI TO i1 i2 l1 l2:AI}{j:Nat}{xs:Array AG}{a b:AG}{Q:Fin->AJ->Prop}(hh:A.handled=AD)(D:GH z TI TO i1 i2 l1 l2)
  (gz:EZ s.heap z TI TO .none) (gI:C2 s.heap TI (.ref i1) (.ref i2)) (gO:C2 s.heap TO a b) (u1:s.heap.IsTupleIter i1 l1 j) (t1:s.heap.IsTuple l1 xs) (ex:xs[j]?=AD)
  (k:∀h' e,Kz z TO i1 i2 s.heap h'->(∃o,h'.get? e=AA o/\o.cls=.type "StopIteration")->Er (.ref e) {s with heap:=h'}):
  A4 (model pg wd) A (HG.«zip.__next__» ⟨[.ref z],[]⟩) Q Er s:=by
 show A4 _ _ (field (.ref z) 2 >>= _) _ _ _;refine AH (BV gz rfl (x:=.bool AC) rfl ?_);show A4 _ _ (field (.ref z) 3 >>= _) _ _ _;refine AH (BV gz rfl (x:=.ref TI) rfl ?_);refine AH (C7 gI rfl ?_);show A4 _ _ (Bd (.ref z) >>= _) _ _ _;refine AH ?_;unfold Bd;refine AH (BV gz rfl (x:=.none) rfl (AX ?_));erw[if_true];refine AH (Eo ?_);refine AH (BV gz rfl (x:=.ref TO) rfl ?_);refine AH (Cf gz (by simp) λha za sa=>?_)
 replace za:EZ ha z TI TO .ellipsis:=za
 refine AH ?_;erw[GX,Gb,FF,Gq];refine AH (AH (Fe ?_));show A4 _ _ (BT (.ref i1) >>= _) _ _ _;refine AH (zeU hh (tit_keep u1 λo e=>sa.extBut _ _ D.i1z e) (zcV t1 λo e=>sa.extBut _ _ D.l1z e) ex λhb e sb he=>?_);let⟨oe,ge,ce⟩:=he;have zb:EZ hb z TI TO .ellipsis:=sb _ _ D.i1z.symm za;have ne:e≠z:=λq=>by subst q;rw[zb]at ge;cases ge;simp at ce
 exact Cf zb (by simp) λhc _ sc=>k hc e (λc o p1 _ p3 _ q=>sc.extBut _ _ p1 (sb _ _ p3 (sa.extBut _ _ p1 q))) ⟨oe,sc.extBut _ _ ne ge,ce⟩
theorem pyNext_zipT{z TI TO i1 i2 l1 l2:AI}{j:Nat}{xs ys:Array AG}{x y a b:AG}{Q:Option AG->AJ->Prop}(D:GH z TI TO i1 i2 l1 l2)
  (gz:EZ s.heap z TI TO .none) (gI:C2 s.heap TI (.ref i1) (.ref i2)) (gO:C2 s.heap TO a b) (u1:s.heap.IsTupleIter i1 l1 j) (u2:s.heap.IsTupleIter i2 l2 j) (t1:s.heap.IsTuple l1 xs) (t2:s.heap.IsTuple l2 ys) (ex:xs[j]?=AA x) (ey:ys[j]?=AA y)
  (k:∀h',EZ h' z TI TO (rawInt s.heap.objs.size)->C2 h' TO x y->h'.IsTupleIter i1 l1 (j+1)->h'.IsTupleIter i2 l2 (j+1)->C2 h' s.heap.objs.size x y->h'.objs.size=s.heap.objs.size+1->Kz z TO i1 i2 s.heap h'->Q (AA (.ref s.heap.objs.size)) {s with heap:=h'}):
  A4 (model pg wd) A (pyNext (.ref z)) Q Er s:=by
 have ty:s.TypeIs (.ref z) "zip":=⟨_,gz,rfl⟩;unfold pyNext;exact AH (wpAny_attempt (Bf (name:=AE "__next__") ty Dq (C6 Dq ty GY (zhB D gz gI gO u1 u2 t1 t2 ex ey λh' a1 a2 a3 a4 a5 a6 a7=>AX (k h' a1 a2 a3 a4 a5 a6 a7)) (GI _))))
theorem pyNext_zipE{z TI TO i1 i2 l1 l2:AI}{j:Nat}{xs:Array AG}{a b:AG}{Q:Option AG->AJ->Prop}(hh:A.handled=AD)(D:GH z TI TO i1 i2 l1 l2)
  (gz:EZ s.heap z TI TO .none) (gI:C2 s.heap TI (.ref i1) (.ref i2)) (gO:C2 s.heap TO a b) (u1:s.heap.IsTupleIter i1 l1 j) (t1:s.heap.IsTuple l1 xs) (ex:xs[j]?=AD)
  (k:∀h',Kz z TO i1 i2 s.heap h'->Q AD {s with heap:=h'}):A4 (model pg wd) A (pyNext (.ref z)) Q Er s:=by
 have ty:s.TypeIs (.ref z) "zip":=⟨_,gz,rfl⟩;unfold pyNext;refine AH (wpAny_attempt (Bf (name:=AE "__next__") ty Dq (C6 Dq ty GY (zj9 hh D gz gI gO u1 t1 ex λh' e kk he=>?_) (GI _))));let⟨o,ho,hc⟩:=he;exact AH (wpAny_isInstance (T:="StopIteration") (b:=AB) ⟨o,ho,hc⟩ isSubtype_stop (AX (k _ kk)))
end
abbrev ti(l:AI):Obj:={cls:=.type "tuple_iterator",data:=.fields #[.ref l,.int 0 0]}
abbrev yhk(h:BF)(l1:AI):Heap:=h.push (ti l1)
abbrev yhl(h:BF)(l1 l2:AI):Heap:=(yhk h l1).push (ti l2)
abbrev yhm(h:BF)(l1 l2:AI):Heap:=(yhl h l1 l2).push {cls:=.type "tuple",data:=.seq #[.ref h.objs.size,.ref (yhk h l1).objs.size]}
abbrev yhn(h:BF)(l1 l2:AI):Heap:=(yhm h l1 l2).push {cls:=.type "tuple",data:=.seq #[.none,.none]}
abbrev yd8(h:BF)(l1 l2:AI):Heap:=(yhn h l1 l2).push {cls:=.type "zip",data:=.fields #[.none,.bool AC,.bool AC,.ref (yhl h l1 l2).objs.size,.ref (yhm h l1 l2).objs.size]}
def zgV(l1 l2:AI)(xs ys:Array AG):
  Meets (HG.«zip.__new__» ⟨[.type "zip",.ref l1,.ref l2],[]⟩) (λ_ R s=>s.heap.IsTuple l1 xs/\s.heap.IsTuple l2 ys/\R (.ok (.ret (.ref (yhn s.heap l1 l2).objs.size))) {s with heap:=yd8 s.heap l1 l2}):=
 .of_wp λprog w A R s h=>by
  let⟨hp,g,d,tk,os⟩:=s;let⟨q1,q2,h⟩:=h;have hsub:=sub_zip;have T1:GB (G4 ⟨hp,g,d,tk,os⟩) l1 xs:=q1;have T2:GB (G4 ⟨hp.push (ti l1),g,d,tk,os⟩) l2 ys:=zcV q2 λo e=>AR _ e
  wp_walk using Bs T1,Bs T2
  exact⟨_,rfl,h⟩
theorem call_zipT{pg:A8}{wd:An}{A:Au}{Er:AG->AJ->Prop}{s:AJ}{l1 l2:AI}{xs ys:Array AG}{Q:AG->AJ->Prop}(t1:s.heap.IsTuple l1 xs)(t2:s.heap.IsTuple l2 ys)
  (k:∀h',EZ h' (s.heap.objs.size+4) (s.heap.objs.size+2) (s.heap.objs.size+3) .none->C2 h' (s.heap.objs.size+2) (.ref s.heap.objs.size) (.ref (s.heap.objs.size+1))->C2 h' (s.heap.objs.size+3) .none .none->h'.IsTupleIter s.heap.objs.size l1 0->h'.IsTupleIter (s.heap.objs.size+1) l2 0 ->
   (∀b o,s.heap.get? b=AA o->h'.get? b=AA o)->Q (.ref (s.heap.objs.size+4)) {s with heap:=h'}):A4 (model pg wd) A (call (.type "zip") [.ref l1,.ref l2]) Q Er s:=by
 refine callType_new F.called_zip ⋯ (F.typeCall_zip_2 _ _) (F.newCall_zip_2 _ _) (λobj=>F.args_object_init_3 obj _ _) F.entry_zip_new (zgV l1 l2 xs ys) ⟨t1,t2,?_⟩;have n1:(yhk s.heap l1).objs.size=s.heap.objs.size+1:=By ..;have n2:(yhl s.heap l1 l2).objs.size=s.heap.objs.size+2:=by rw[By,n1]
 have n3:(yhm s.heap l1 l2).objs.size=s.heap.objs.size+3:=by rw[By,n2]
 have n4:(yhn s.heap l1 l2).objs.size=s.heap.objs.size+4:=by rw[By,n3]
 have kp:∀{h:BF} {o:CF} {b:AI} {u:CF},h.get? b=AA u->(h.push o).get? b=AA u:=λe=>AR _ e;have m5:(yd8 s.heap l1 l2).get? (yhn s.heap l1 l2).objs.size=AA _:=A2 _ rfl;have m4:(yd8 s.heap l1 l2).get? (yhm s.heap l1 l2).objs.size=AA _:=kp (A2 _ rfl);have m3:(yd8 s.heap l1 l2).get? (yhl s.heap l1 l2).objs.size=AA _:=kp (kp (A2 _ rfl));have m2:(yd8 s.heap l1 l2).get? (yhk s.heap l1).objs.size=AA _:=kp (kp (kp (A2 _ rfl)));have m1:(yd8 s.heap l1 l2).get? s.heap.objs.size=AA _:=kp (kp (kp (kp (A2 _ rfl))));rw[n2,n3,n4]at m5;rw[n1,n2]at m3;rw[n3]at m4;rw[n1]at m2;show _/\_;rw[n4];exact⟨⟨_,m5,rfl⟩,k _ m5 m3 m4 ⟨_,m1,rfl,rfl⟩ ⟨_,m2,rfl,rfl⟩ λb o e=>kp (kp (kp (kp (kp e))))⟩
end WE
namespace L2
open PySem PySem.Spec PyProof.Rows
def Itz(K:AF)(a b:AI):It:=
 ⟨λi H=>∃xs ys x y,SqT K H a xs/\SqT K H b ys/\xs[i]?=AA x/\ys[i]?=AA y,λi H v H'=>∃T,H T=AD/\v=.ref T/\∀xs ys x y,SqT K H a xs->SqT K H b ys->xs[i]?=AA x->ys[i]?=AA y->H'=upd H T (.tup [x,y]),λi H=>∃xs,SqT K H a xs/\xs.length=i⟩
def zi0{P:A8}{w:An}{K:AF}{es:List AV}{kk:Nat}{pos:CV}(z TI TO i1 i2 a b:AI)(D:GH z TI TO i1 i2 a b):
  Turn P w K (.Tuple es kk pos) (Itz K a b) [z,TI,TO,i1,i2] z (λi h=>EZ h z TI TO .none/\C2 h TI (.ref i1) (.ref i2)/\(∃p q,C2 h TO p q)/\h.IsTupleIter i1 a i/\h.IsTupleIter i2 b i) where
 mem:=by simp
 obj:=λi h st c hc=>by
  let⟨g0,g1,⟨p,q,g2⟩,⟨o3,g3,_,d3⟩,⟨o4,g4,_,d4⟩⟩:=st;erw[AT,Ad,or_false]at hc;rcases hc with rfl|rfl|rfl|rfl|rfl
  .exact⟨_,g0,λv y=>nomatch y⟩
  .exact⟨_,g1,λv y=>nomatch y⟩
  .exact⟨_,g2,λv y=>nomatch y⟩
  .exact⟨o3,g3,λv y=>by rw[d3]at y;cases y⟩
  .exact⟨o4,g4,λv y=>by rw[d4]at y;cases y⟩
 keep:=λi h h' st k=>by
  let⟨g0,g1,⟨p,q,g2⟩,g3,g4⟩:=st;exact⟨k z (by simp) _ g0,k TI (by simp) _ g1,⟨p,q,k TO (by simp) _ g2⟩,WE.tit_keep g3 λo e=>k i1 (by simp) o e,WE.tit_keep g4 λo e=>k i2 (by simp) o e⟩
 item:=by
  intro X hP hw hK hc i π s σ H E I hf st hg;subst hP hw hK;let⟨xs,ys,x,y,hq1,hq2,hx,hy⟩:=hg;let⟨its,rv,p1,_⟩:=I.tuple hq1;let⟨jts,rw',p2,_⟩:=I.tuple hq2;let⟨g0,g1,⟨p,q,g2⟩,g3,g4⟩:=st;let⟨u,hu,ru⟩:=rv.get hx;let⟨v,hv,rv2⟩:=rw'.get hy;refine WE.pyNext_zipT D g0 g1 g2 g3 g4 p1 p2 (by simpa using hu) (by simpa using hv) λh1 a1 a2 a3 a4 a5 a6 a7=>⟨_,rfl,?_⟩;refine wpAny_letOwnedTupleGo_zip a1 λh2 b1 b2=>?_;have lt:∀{c o},s.heap.get? c=AA o->s.heap.objs.size≠c:=λe=>Ep (AY e);have hTz:s.heap.objs.size≠z:=lt g0;have hch:∀c o,c∉[z,TI,TO,i1,i2]->s.heap.get? c=AA o->h2.get? c=AA o:=λc o hn e=>b2.extBut _ _ (λz'=>hn (by simp[z'])) (a7 c o (λz'=>hn (by simp[z'])) (λz'=>hn (by simp[z'])) (λz'=>hn (by simp[z'])) (λz'=>hn (by simp[z'])) e);have new:yZ X.prog X.w (upd H s.heap.objs.size (.tup [x,y])) h2 s.heap.objs.size (.tup [x,y]):=⟨by show 2<=sizeLine;decide,[u,v],.cons ru (.cons rv2 .nil),_,b2.extBut _ _ hTz a5,rfl,_,rfl⟩;have I2:=I.turnLaid (t':=s.toks) hf hch (AU _) new;have gI:C2 h1 TI (.ref i1) (.ref i2):=a7 _ _ D.TIz D.TITO D.TIi1 D.TIi2 g1;refine⟨.ref s.heap.objs.size,_,I2,rfl,⟨s.heap.objs.size,I.hok.fresh (AU _),rfl,λxs' ys' x' y' hx1 hy1 hx2 hy2=>?_⟩,⟨b1,b2.extBut _ _ D.TIz gI,⟨_,_,b2.extBut _ _ D.TOz a2⟩,WE.tit_keep a3 λo e=>b2.extBut _ _ D.i1z e,WE.tit_keep a4 λo e=>b2.extBut _ _ D.i2z e⟩,λc hc=>?_⟩
  .rw[I.tuple_inj hx1 hq1,hx]at hx2;rw[I.tuple_inj hy1 hq2,hy]at hy2
   cases hx2
   cases hy2
   rfl
  .have hne:c≠s.heap.objs.size:=λz'=>by
    subst z';let⟨o3,e3,_⟩:=g3;let⟨o4,e4,_⟩:=g4;erw[AT,Ad,or_false]at hc;rcases hc with z' | z' | z' | z' | z'
    .exact lt g0 z'
    .exact lt g1 z'
    .exact lt g2 z'
    .exact lt e3 z'
    .exact lt e4 z'
   rw[zj hne];exact(hf c hc).1
 done:=by
  intro X hP hw hK hc i π s σ H E I hf st hg;subst hP hw hK;let⟨xs,hq1,hx⟩:=hg;let⟨its,rv,p1,_⟩:=I.tuple hq1;let⟨g0,g1,⟨p,q,g2⟩,g3,g4⟩:=st;have hl:=rv.length;refine WE.pyNext_zipE (I.ok.hd hc) D g0 g1 g2 g3 p1 (by simp;lia) λh' kz=>⟨rfl,I.turnedL (t':=s.toks) hf λc o hn e=>kz c o (λz'=>hn (by simp[z'])) (λz'=>hn (by simp[z'])) (λz'=>hn (by simp[z'])) (λz'=>hn (by simp[z'])) e⟩
 self:=λ_ _ _ _ _ st q=>GZ st.1 q
def ygz(K:AF)(ta:TA):TI:=λσ H R=>ta σ H λvs H1=>∃a b,vs=[.ref a,.ref b]/\(∃xs,SqT K H1 a xs)/\(∃ys,SqT K H1 b ys)/\R (Itz K a b) H1
def zmd{X:Cx}{a b:AV}{es:List AV}{kk:Nat}{tp:CV}{ta:TA}{p pos:CV}(hg:Gl X "zip")(hm:X.mg "zip"=AD)(ha:PA X [a,b] ta)(hs:starEach [a,b] X.env=[(AC,eval a X.env),(AC,eval b X.env)]:=by rfl)(hs2:starEach [b] X.env=[(AC,eval b X.env)]:=by rfl):
  PI X (.Tuple es kk tp) (.Call (.Name "zip" p) [a,b] [] pos) (ygz X.K ta):=by
 intro π s σ H R I h;refine B1 (zd4 I hg hm boot_zip ?_);refine CH (thn (ha pos π s σ H _ I h) λus s1 kq=>?_) (by rw[hs,hs2]) (by rw[hs2];rfl);let⟨vs,H1,I1,r1,q1⟩:=kq;let⟨l1,l2,rfl,⟨xs,hq1⟩,⟨ys,hq2⟩,q⟩:=q1
 cases r1 with
 |cons r rr=>
  cases rr with
  |cons r2 r3=>
   cases r3
   cases (show _=Al l1 from r)
   cases (show _=Al l2 from r2)
   let⟨its,rv,pt1,_⟩:=I1.tuple hq1;let⟨jts,rv2,pt2,_⟩:=I1.tuple hq2;have b1:l1<s1.heap.objs.size:=by let⟨_,e,_⟩:=pt1;exact AY e
   have b2:l2<s1.heap.objs.size:=by let⟨_,e,_⟩:=pt2;exact AY e
   refine WE.call_zipT pt1 pt2 λh1 g0 g1 g2 g3 g4 kp=>?_;refine GZ g0 ?_;refine⟨_,[s1.heap.objs.size+4,s1.heap.objs.size+2,s1.heap.objs.size+3,s1.heap.objs.size,s1.heap.objs.size+1],_,_,H1,rfl,I1.kept (t':=s1.toks) kp,zi0 _ _ _ _ _ l1 l2 (zipApart_new b1 b2),⟨g0,g1,⟨_,_,g2⟩,g3,g4⟩,λc hc=>?_,q⟩;have hb2:s1.heap.objs.size<=c:=by
    erw[AT,Ad,or_false]at hc;rcases hc with z' | z' | z' | z' | z'<;>subst z'
    .exact D3 _ 4
    .exact D3 _ 2
    .exact D3 _ 3
    .exact AU _
    .exact D3 _ 1
   exact I1.fpOk hb2 (I1.hok.fresh hb2)
end L2
namespace L2
open PySem PySem.Spec PyProof.Rows IC
inductive yci(K:AF)(cl:Nat->AI)(w:An):List (AQ×PV)->List CJ->Prop
 |nil:yci K cl w [] []
 |cons {k:AQ} {v:PV} {t:Hf} {u:AG} {x:V} {D:List (AQ×PV)} {es:List CJ} (hr:RelV x u) (hv:∀B φ H,yg K cl B φ H v x) (h:yci K cl w D es):yci K cl w ((k,v)::D) (⟨EN w.params k,.str k t,u⟩ :: es)
def GD(K:AF)(w:An)(mg:AQ->Option AG)(cl:Nat->AI)(x:AQ)(D:List (AQ×PV)):Prop:=
 ∃(y:AI) (es:Array CJ) (ep:Nat),mg x=AA (.ref y)/\K.lookup y=AA ⟨.type "dict",AD,.dict es ep,#[]⟩/\(y==sysModules)=AC/\yci K cl w D es.toList/\(D.map (·.1)).Nodup
theorem yci.pairs{K:AF}{cl:Nat->AI}{P:A8}{w:An}{D:List (AQ×PV)}{es:List CJ}(h:yci K cl w D es):
  ∃vs:List (AQ×AG),Pairs (strKind P w) es vs/\(∀e∈es,∃k,(strKind P w).is k e.key=AB/\e.hash=(strKind P w).hash k)/\vs.map (·.1)=D.map (·.1) /\
   (∀s,(valueAt vs s).isSome=(yaU s D).isSome)/\∀s v,yaU s D=AA v->∃u x,valueAt vs s=AA u/\RelV x u/\∀B φ H,yg K cl B φ H v x:=by
 induction h with
 |nil=>exact⟨[],.nil,λe he=>(by cases he),rfl,λs=>rfl,λs v e=>by cases e⟩
 |@cons k v t u x D es hr hv h ih=>
  let⟨vs,h1,h2,h3,h4,h5⟩:=ih;have hat:∀s,valueAt ((k,u)::vs) s=if k=s then AA u else valueAt vs s:=λs=>by
   unfold valueAt;rw[CD]
   by_cases e:k=s
   .simp[e]
   .simp[e]
  refine⟨(k,u)::vs,.cons (D4 P w k t) rfl h1,λe he=>?_,by rw[AL,AL,h3],λs=>?_,λs v' e=>?_⟩
  .rcases AT.1 he with rfl|he
   .exact⟨k,D4 P w k t,rfl⟩
   .exact h2 e he
  .rw[hat,yaU]
   by_cases e:k=s
   .rw[if_pos e,if_pos (by simpa using e)];rfl
   .rw[if_neg e,if_neg (by simpa using e),h4]
  .rw[yaU]at e;rw[hat]
   by_cases q:k=s
   .rw[if_pos (by simpa using q)]at e
    cases e
    exact⟨u,x,by rw[if_pos q],hr,hv⟩
   .rw[if_neg (by simpa using q)]at e;let⟨u',x',e1,e2,e3⟩:=h5 s v' e;exact⟨u',x',by rw[if_neg q];exact e1,e2,e3⟩
section
variable {S:Se}{X:Cx}{σ:St}{B:AI->Prop}{φ:Ph}{H:Hp}{st:SO}{pos p:CV}{a b i:AV}{ca cb:Ce}{x:AQ}{D:List (AQ×PV)}{ty:TE}
def ziR{y:AI}{es:Array CJ}{ep:Nat}{π:List (AI×CF)}{s:AJ}(I:Inv X π σ H s)(hk:X.K.lookup y=AA ⟨.type "dict",AD,.dict es ep,#[]⟩)(hn:(D.map (·.1)).Nodup){vs:List (AQ×AG)}(h1:Pairs (strKind X.prog X.w) es.toList vs)
  (h2:∀e∈es.toList,∃k,(strKind X.prog X.w).is k e.key=AB/\e.hash=(strKind X.prog X.w).hash k) (h3:vs.map (·.1)=D.map (·.1)):s.heap.DictOf (strKind X.prog X.w) y vs:=
 ⟨_,es,ep,I.kIn y _ hk,⟨rfl,rfl,rfl⟩,rfl,λe he=>h2 e (by simpa using he),h1,by rw[h3];exact hn⟩
def yd4(S:Se)(X:Cx)(D:List (AQ×PV))(ty:TE):TE:=λσ H Q=>ty σ H λz H2=>∃s v,z=.str s/\yaU s D=AA v/\∀x',(∀B φ H,yg X.K S.cl B φ H v x')->Q x' H2
def zmR(hg:Gl X x)(h:GD X.K X.w X.mg S.cl x D)(hi:PE X i ty)(hs:ycW i)(hd:(x==("__debug__":AQ))=false:=by decide):PE X (.Subscript (.Name x p) i pos) (yd4 S X D ty):=by
 let⟨y,es,ep,hm,hk,hsy,hr,hn⟩:=h;let⟨vs,h1,h2,h3,h4,h5⟩:=hr.pairs (P:=X.prog);intro π s σ H Q I q0;refine zhT EU.lookup hs (thn (zdJ (v:=.ref y) hg hm rfl hd π s σ H (λz H1=>z=.ref y/\ty σ H1 λz H2=>∃s v,z=.str s/\yaU s D=AA v/\∀x',(∀B φ H,yg X.K S.cl B φ H v x')->Q x' H2) I ⟨rfl,q0⟩) λu s1 kq=>?_);let⟨z,H1,I1,rz,ez,q1⟩:=kq;refine thn (hi π s1 σ H1 _ I1 q1) λiv s2 kq=>?_;let⟨z2,H2,I2,rz2,sx,v,ez2,e,q2⟩:=kq;subst ez;subst ez2;obtain rfl:u=Al y:=rz;let⟨t,rfl⟩:=rz2;have dd:=ziR I2 hk hn h1 h2 h3;let⟨u',x',e1,e2,e3⟩:=h5 sx v e;exact⟨dd.typeIs,G0 (D4 X.prog X.w sx t) dd.mapOf e1 ⟨x',H2,I2.tok _,e2,q2 x' e3⟩⟩
def zna(hg:Gl X x)(h:GD X.K X.w X.mg S.cl x D)(hb:PE X b (tE S X cb))(hs:ycW b:=by exact λ_ _=>rfl)(hd:(x==("__debug__":AQ))=false:=by decide):PE X (.Subscript (.Name x p) b pos) (tE S X (.dix D cb)):=
 (zmR hg h hb hs hd).imp λσ H Q ⟨B,φ,st,ρ,rs,re,h⟩=>by
  erw[ev]at h;refine tE.bind rs re h λz H1 v st1 φ1 s1 rs1 re1 rv h1=>?_;let⟨w,e,q⟩:=zas h1 rs1
  cases v with
  |str sx=>
   erw[yg]at rv;exact⟨sx,w,rv,e,λx' hx=>q x' H1 φ1 .rfl rs1 (hx _ _ _)⟩
  |_=>cases e
def yfC(y:AI)(D:List (AQ×PV)):R2:=λx z H Q=>z=.ref y/\∃s,x=.str s/\Q (.bl (yaU s D).isSome) H
def zn0(hg:Gl X x)(h:GD X.K X.w X.mg S.cl x D)(ha:PE X a (tE S X ca))(hm:behindInMarks .In (.Name x p)=false:=by ac_rfl)(hd:(x==("__debug__":AQ))=false:=by decide):PE X (.Compare a [.In] [.Name x p] pos) (tE S X (.din ca D)):=by
 let⟨y,es,ep,hmg,hk,hsy,hr,hn⟩:=h;let⟨vs,h1,h2,h3,h4,h5⟩:=hr.pairs (P:=X.prog);have op:OpR X (compareOp .In) (yfC y D):=by
  intro π s σ H z1 z2 v u Q I r1 r2 ⟨ez,sx,ex,q⟩;subst ez;subst ex;obtain rfl:u=Al y:=r2;let⟨t,rfl⟩:=r1;have dd:=ziR I hk hn h1 h2 h3;refine wpAny_in_of (D4 X.prog X.w sx t) hsy dd.mapOf ⟨.bl (yaU sx D).isSome,H,I.tok _,?_,q⟩;rw[h4];rfl
 refine(zhf op ha (zdJ (v:=.ref y) hg hmg rfl hd) hm).imp λσ H Q kq=>?_;let⟨B,φ,st,ρ,rs,re,h⟩:=kq;erw[ev]at h;refine tE.bind rs re h λz H1 v st1 φ1 s1 rs1 re1 rv h1=>?_;let⟨w,e,q⟩:=zas h1 rs1
 cases v with
 |str sx=>
  erw[yg]at rv
  cases e
  exact⟨rfl,sx,rv,q _ H1 φ1 .rfl rs1 (by erw[yg])⟩
 |_=>cases e
def ze8:∀(xs ys:List PV) (i:Nat) {x y:PV},xs[i]?=AA x->ys[i]?=AA y->(yaQ xs ys)[i]?=AA (.tup [x,y])
 |[],_,i,_,_,h,_=>by simp at h
 |_::_,[],i,_,_,_,h=>by simp at h
 |x::xs,y::ys,0,_,_,h1,h2=>by simp at h1 h2;simp[yaQ,h1,h2]
 |x::xs,y::ys,i+1,_,_,h1,h2=>by
  erw[AM]at h1 h2;erw[yaQ,AM];exact ze8 xs ys i h1 h2
def zfl:∀(xs ys:List PV),xs.length<=ys.length->(yaQ xs ys).length=xs.length
 |[],_,_=>by simp[yaQ]
 |_::_,[],h=>by simp at h
 |x::xs,y::ys,h=>by erw[yaQ,AS,zfl xs ys (by simpa using h)]
def zmt{k j:Bool}{vs ws:List PV}{xs ys:List V}{y z:AI}(rt:ybN X.K B φ H k y xs)(l:yj X.K S.cl B φ H vs xs)(rt2:ybN X.K B φ H j z ys)(l2:yj X.K S.cl B φ H ws ys)(hle:vs.length<=ws.length):Drw S X B φ H (yaQ vs ws) (Itz X.K y z):=by
 have hl:=l.length;have hl2:=l2.length;have hp:=zfl vs ws hle;refine⟨λφ' H' s=>⟨xs,(rt.step s).sq,by lia⟩,λi φ' H' s hi=>⟨xs,ys,xs[i]'∅,ys[i]'∅,(rt.step s).sq,(rt2.step s).sq,by simp[show i<xs.length by lia],by simp[show i<ys.length by lia]⟩,λi φ' H' st x H2 B' hB s rs hi q=>?_⟩;let⟨T,hT,rfl,q⟩:=q;obtain⟨v,hv⟩:∃v,vs[i]?=AA v:=⟨vs[i]'∅,by simp[show i<vs.length by lia]⟩;obtain⟨w,hw⟩:∃w,ws[i]?=AA w:=⟨ws[i]'∅,by simp[show i<ws.length by lia]⟩;let⟨x',hx',rv⟩:=l.get i hv;let⟨y',hy',rw'⟩:=l2.get i hw;have e:=q xs ys x' y' (rt.step s).sq (rt2.step s).sq hx' hy';subst e;refine⟨.tup [v,w],ze8 vs ws i hv hw,.tup_new hT rs ?_,λb o e=>by rw[zj (zn e hT)];exact e⟩;erw[yj];exact⟨x',[y'],rfl,(rv.moreB hB).step s,y',[],rfl,(rw'.moreB hB).step s,rfl⟩
def znz{es:List AV}{kk:Nat}{tp:CV}(hg:Gl X "zip")(hm:X.mg "zip"=AD)(ha:PE X a (tE S X ca))(hb:PE X b (tE S X cb))(hs:starEach [a,b] X.env=[(AC,eval a X.env),(AC,eval b X.env)]:=by rfl)(hs2:starEach [b] X.env=[(AC,eval b X.env)]:=by rfl):
  PI X (.Tuple es kk tp) (.Call (.Name "zip" p) [a,b] [] pos) (tI S X (.zip ca cb)):=
 (zmd hg hm (zbS ha (zbS hb zj5 hs2) (by rw[hs,hs2])) hs hs2).imp λσ H R ⟨B,φ,st,ρ,rs,re,h⟩=>by
  erw[evi]at h;refine tE.bind rs re h λx H1 v st1 φ1 s1 rs1 re1 rv h1=>tE.bind rs1 re1 h1 λy H2 w st2 φ2 s2 rs2 re2 rw h2=>?_;let⟨zs,e,h2⟩:=ziq h2
  cases v with
  |tp k vs=>
   cases w with
   |tp j ws=>
    erw[ydV]at e
    by_cases hle:vs.length<=ws.length
    .rw[if_pos hle]at e
     cases e
     erw[yg]at rv rw;let⟨a1,xs,rfl,rt,l⟩:=rv;let⟨a2,ys,rfl,rt2,l2⟩:=rw;exact⟨a1,a2,rfl,⟨xs,(rt.step s2).sq⟩,⟨ys,rt2.sq⟩,h2.ok rs2 (zmt (rt.step s2) (l.step s2) rt2 l2 hle)⟩
    .rw[if_neg hle]at e
     cases e
   |_=>cases e
  |_=>cases e
end
section
variable {K:AF}{cl:Nat->AI}{B:AI->Prop}{φ:Ph}{H:Hp}{st:SO}
end
section
variable {S:Se}{X:Cx}{K:AF}{cl:Nat->AI}{σ:St}{B:AI->Prop}{φ φ1:Ph}{H H1:Hp}{st:SO}{ρ:IC.Env}{pos p p2 px:CV}{a b c o tg l elt iter:AV}{ca cb cc ce:Ce}{ci:Cit}{ct:Tg}
end
section
variable {K:AF}{cl:Nat->AI}{B:AI->Prop}{φ:Ph}{H:Hp}{st:SO}
theorem FS.lookup{f:AQ}:∀{fs:List (AQ×PV)} {ks:List (AQ×V)},FS K cl B φ H fs ks->(∀v,fs.lookup f=AA v->∃x,ks.lookup f=AA x/\yg K cl B φ H v x)/\(fs.lookup f=AD->ks.lookup f=AD)
 |[],ks,h=>by
  cases (show ks=[]from h)
  exact⟨nofun,λ_=>rfl⟩
 |(k,v)::r,ks,h=>by
  let⟨x,s,rfl,rv,l⟩:=h;let⟨q1,q2⟩:=FS.lookup (f:=f) l;erw[Bw]
  cases e:f==k with
  |true=>exact⟨λw z=>by cases z;exact⟨x,rfl,rv⟩,λz=>by cases z⟩
  |false=>exact⟨q1,q2⟩
theorem FS.put{f:AQ}{v:PV}{x:V}(r:yg K cl B φ H v x):∀{fs:List (AQ×PV)} {ks:List (AQ×V)},FS K cl B φ H fs ks->FS K cl B φ H (ybI f v fs) (yaY f x ks)
 |[],ks,h=>by
  cases (show ks=[]from h)
  exact⟨x,[],rfl,r,rfl⟩
 |(k,w)::q,ks,h=>by
  let⟨y,s,rfl,ry,l⟩:=h;erw[ybI,yaY]
  by_cases c:k=f
  .rw[if_pos c,if_pos c];exact⟨x,s,rfl,r,l⟩
  .rw[if_neg c,if_neg c];exact⟨y,_,rfl,ry,FS.put r l⟩
theorem FS.len:∀{fs:List (AQ×PV)} {ks:List (AQ×V)},FS K cl B φ H fs ks->fs.length=ks.length
 |[],ks,h=>by cases (show ks=[]from h);rfl
 |(k,w)::q,ks,h=>by
  let⟨y,s,rfl,ry,l⟩:=h;simp[FS.len l]
theorem yE.ins{n c:Nat}{fs:List (AQ×PV)}{x:V}(rs:yE K cl B φ H st)(r:yg K cl B φ H (.loc n) x)(h:st[n]?=AA (.ins c fs)):∃y ks dx,x=.ref y/\φ[n]?=AA (AA y)/\H y=AA (.ins (cl c) dx ks)/\FS K cl B φ H fs ks:=by
 erw[yg]at r;let⟨hn,y,rfl,hy⟩:=r;let⟨a,ha⟩:=rs.liv n _ h (by intro z;cases z);let⟨o,ho,ro⟩:=rs.obj n a ha;have e:=hy a ha;subst e;rw[h]at ho
 cases ho
 let⟨ks,⟨dx,q⟩,l⟩:=ro;exact⟨a,ks,dx,rfl,ha,q,l⟩
end
section
variable {S:Se}{X:Cx}{σ:St}{B:AI->Prop}{φ φ1:Ph}{H H1:Hp}{st:SO}{ρ:IC.Env}{p pos pos' p2 apos:CV}{a b d o e:AV}{ca cb cc:Ce}{es:List AV}{ces:Ces}{c i k:Nat}{f m x:AQ}{fa:AI}{fd:BG}{ps:List AQ}
def zga{st:SO}{x v:PV}(h:ya5 c st x f=AA v):∃n fs,x=.loc n/\st[n]?=AA (.ins c fs)/\fs.lookup f=AA v:=by
 cases x with
 |loc n=>
  erw[ya5]at h;split at h
  .rename_i dd fs e;split at h
   .rename_i q;subst q;exact⟨n,fs,rfl,e,h⟩
   .cases h
  .cases h
 |_=>cases h
def zgl{st st4:SO}{x v:PV}(h:ya4 c st x f v=AA st4):∃n fs,x=.loc n/\st[n]?=AA (.ins c fs)/\fs.length<1000/\st4=st.set n (.ins c (ybI f v fs)):=by
 cases x with
 |loc n=>
  erw[ya4]at h;split at h
  .rename_i dd fs e;split at h
   .rename_i q;let⟨q,q2⟩:=q;subst q
    cases h
    exact⟨n,fs,rfl,e,q2,rfl⟩
   .cases h
  .cases h
 |_=>cases h
def zkg{st:SO}{x:PV}{t:Bool}(h:ybV c m st x=AA t):∃n fs,x=.loc n/\st[n]?=AA (.ins c fs)/\fs.lookup m=none:=by
 cases x with
 |loc n=>
  erw[ybV]at h;split at h
  .rename_i dd fs e;split at h
   .rename_i q;let⟨q,q2⟩:=q;subst q;exact⟨n,fs,rfl,e,q2⟩
   .cases h
  .cases h
 |_=>cases h
def zm4(hc:Cls X.K (S.cl c))(hn:yat X.K (S.cl c) f)(ha:PE X a (tE S X ca))(hb:attributeBase a f X.env (eval a X.env)=eval a X.env:=by rfl):PE X (.Attribute a f pos) (tE S X (.fld c ca f)):=
 (zns ha hb).imp λσ H Q ⟨B,φ,st,ρ,rs,re,h⟩=>by
  erw[ev]at h;refine tE.bind rs re h λx H1 v st1 φ1 s1 rs1 re1 rv h1=>?_;let⟨z,e,q⟩:=zas h1 rs1;let⟨n,fs,rfl,hn',l⟩:=zga e;let⟨y,ks,dx,rfl,_,hy,lr⟩:=rs1.ins rv hn';let⟨x,hx,rx⟩:=lr.lookup.1 z l;exact⟨y,S.cl c,dx,ks,x,rfl,hy,hc,hn,hx,q x H1 φ1 .rfl rs1 rx⟩
def znm(hc:Cls X.K (S.cl c))(hn:yat X.K (S.cl c) f)(ha:PE X a (tE S X ca))(hv:PE X b (tE S X cb))(hs:swapsWith b (AA (.Attribute a f pos')) pos.line X.env=pure false:=by rfl):PS X (.Assign [.Attribute a f pos'] b pos) (tS S X (.sfl c ca f cb)):=
 (zoZ ha hv hs).imp λD σ H ⟨B,φ,st,ρ,rs,re,h⟩=>by
  erw[ex]at h;refine tE.fl rs re h λv' H1 v st1 φ1 s1 rs1 re1 rv h1=>tE.fl rs1 re1 h1 λx' H2 x st2 φ2 s2 rs2 re2 rx h2=>?_
  cases e:ya4 c st2 x f v with
  |none=>rw[e]at h2;exact h2.elim
  |some st4=>
   rw[e]at h2;let⟨n,fs,rfl,hn',hl,rfl⟩:=zgl e;let⟨y,ks,dx,rfl,hp,hy,lr⟩:=rs2.ins rx hn';refine⟨y,S.cl c,dx,ks,rfl,hy,hc,hn,by rw[<-lr.len];exact hl,?_⟩;have s4:Step φ2 H2 φ2 (L2.upd H2 y (.ins (S.cl c) dx (yaY f v' ks))):=.put (A5 hp);exact h2 σ _ φ2 s4 (rs2.put (o:=.ins c (ybI f v fs)) hp ⟨_,⟨dx,zq⟩,(FS.put (rv.step s2) lr).step s4⟩) (re2.step s4)
theorem noX:ybF (CX1 X.prog X.w) X (λ_ _ _=>False):=λπ σ H s e s' _ z=>by
 let⟨_,_,_,_,_,_,_,_,_,_,_,_,_,_,z⟩:=z;exact z.elim
def zho{vs:List PV}{xs:List V}{Q:VK}{rs:yE X.K S.cl B φ H st}(l:yj X.K S.cl B φ H vs xs)(h:Run S X σ B φ H (RV S X B) ((ybv (S.call i (.loc st.length::vs) (st++[.ins c []]))).bind λv st2=>newV st.length v st2) Q):
  ∀x dx,H x=AD->H dx=AD->dx≠x->spI X.K S.cl S.call i (.ref x::xs) (L2.upd (L2.upd H dx (.own x)) x (.ins (S.cl c) dx [])) (λv H2=>v=.non/\Q (.ref x) H2) (λ_ _ _=>False):=by
 intro x dx hx hdx ne;have hx':L2.upd H dx (.own x) x=none:=by rw[zj (BN ne)];exact hx
 have t1:Step φ H φ (L2.upd H dx (.own x)):=.upd hdx;have rs1:=rs.upd (o:=.own x) hdx;have t2:Step φ (L2.upd H dx (.own x)) (φ++[AA x]) (L2.upd (L2.upd H dx (.own x)) x (.ins (S.cl c) dx [])):=.push hx';have rs2:=rs1.push hx' (rs1.nB hx') (o:=.ins c []) ⟨[],⟨dx,zq⟩,rfl⟩;have ll:yg X.K S.cl B (φ++[AA x]) (L2.upd (L2.upd H dx (.own x)) x (.ins (S.cl c) dx [])) (.loc st.length) (.ref x):=.loc_new rs1;refine⟨B,φ++[AA x],st++[.ins c []],.loc st.length::vs,rs2,?_,?_⟩
 .simp only[yj];exact⟨.ref x,xs,rfl,ll,(l.step t1).step t2⟩
 .cases e:S.call i (.loc st.length::vs) (st++[.ins c []])with
  |ok v st'=>
   rw[e]at h;erw[ybv,R.bind]at h
   cases v with
   |non=>
    intro z H' φ' s rs' rz;erw[yg]at rz;exact⟨rz,h (.ref x) H' φ' ((t1.trans t2).trans s) rs' (ll.step s)⟩
   |_=>exact h.elim
  |exc k s=>rw[e]at h;exact h.elim
  |bad=>rw[e]at h;exact h.elim
def zo8(M:Mk X.K (S.cl c) fa)(F:yaJ X.prog X.w X.K X.mg X.base (CX1 X.prog X.w) k fa fd ps (spI X.K S.cl S.call i))(hr:yav (k+1) X.A)(hg:Gl X x)(hm:X.mg x=AA (.ref (S.cl c)))(hb:Binds X.K fd ps [])
  (ha:PA X (e::es) (tAs S X ces)) (hdb:(x==("__debug__":AQ))=false:=by decide) (he:starEach (e::es) X.env=(AC,eval e X.env)::starEach es X.env:=by rfl) (hpl:(backTo pos (starEach es X.env)).any (·.1)=false:=by rfl):
  PE X (.Call (.Name x p) (e::es) [] pos) (tE S X (.new c i ces)):=
 (zmT M F hr hg hm hb .nil noX ha hdb he hpl).imp λσ H Q ⟨B,φ,st,ρ,rs,re,h⟩=>by
  erw[ev]at h;refine tAs.bind rs re h λxs H1 vs st1 φ1 s1 rs1 re1 rv h1=>?_;rw[BR];exact zho (rs:=rs1) rv h1
def ybZ(CX:CXT)(X:Cx)(C:AI)(m:AQ)(sp:Sp)(ta:TE)(t:TA):TE:=λσ H Q=>ta σ H λx H1=>∃y dx fs,x=.ref y/\H1 y=AA (.ins C dx fs)/\fs.lookup m=AD/\t σ H1 λvs H2=>∃E:XK,sp (.ref y::vs) H2 Q E/\∀π s e s',Inv X π σ H2 s->CX X.stack H2 s E e s'->X.xe e s'
def zjl{CX:CXT}{sp:Sp}{C:AI}{ta:TE}{t:TA}{pl:Gw Bool}(he:PE X o ta)(c:Cls X.K C)(hm:Meth X.K C m fa)(F:yaJ X.prog X.w X.K X.mg X.base CX k fa fd ps sp)(hr:yav k X.A)(hb:Binds X.K fd ps [])(ha:PA X (e::es) t)
  (hst:starEach (e::es) X.env=(AC,eval e X.env)::starEach es X.env:=by rfl) (hpl:(backTo pos (starEach es X.env)).any (·.1)=false:=by rfl)
  (ht:eval (.Call (.Attribute o m apos) (e::es) [] pos) X.env=(do
   let ov <-eval o X.env
   standAt apos.atName
   let (f,first) <-holding [ov] (getMethod ov m pl)
   callWith pos f first (backTo pos (starEach (e::es) X.env)) (backToKw pos (keywordEach [] X.env))):=by rfl):
  PE X (.Call (.Attribute o m apos) (e::es) [] pos) (ybZ CX X C m sp ta t):=by
 intro π s σ H Q I h;refine FK (pl:=pl) (thn (he π s σ H _ I h) λu s1 kq=>?_) ht;let⟨x,H1,I1,rx,y,dx,fs,ex,ea,l,q⟩:=kq;subst ex;obtain rfl:u=Al y:=rx;refine zdY I1 ea c hm l ?_;refine DF (first:=[.ref y]) (h₀:=X.base) I.ok.mod.kin hm.kp (thn (ha pos π s1 σ H1 _ I1 q) λus s2 kq=>?_) hst hpl;let⟨vs,H2,I2,r,E,q2,hx⟩:=kq;refine ⟨I2.kIn,?_⟩;exact zdt (us:=.ref y::us) (vs:=.ref y::vs) F hr hb .nil I2 (.cons rfl r) (by rw[BR];exact q2) λe s' z=>hx π s2 e s' I2 z
def zie{CX:CXT}{sp:Sp}{C:AI}{ta:TE}{pl:Gw Bool}(he:PE X o ta)(c:Cls X.K C)(hm:Meth X.K C m fa)(F:yaJ X.prog X.w X.K X.mg X.base CX k fa fd ps sp)(hr:yav k X.A)(hb:Binds X.K fd ps [])
  (ht:eval (.Call (.Attribute o m apos) [] [] pos) X.env=(do
   let ov <-eval o X.env
   standAt apos.atName
   let (f,first) <-holding [ov] (getMethod ov m pl)
   callWith pos f first (backTo pos (starEach [] X.env)) (backToKw pos (keywordEach [] X.env))):=by rfl):
  PE X (.Call (.Attribute o m apos) [] [] pos) (ybZ CX X C m sp ta yda):=by
 intro π s σ H Q I h;refine FK (pl:=pl) (thn (he π s σ H _ I h) λu s1 kq=>?_) ht;let⟨x,H1,I1,rx,y,dx,fs,ex,ea,l,E,q2,hx⟩:=kq;subst ex;obtain rfl:u=Al y:=rx;refine zdY I1 ea c hm l ?_;exact F6 (first:=[.ref y]) I1.kIn hm.kp (zdt (us:=[.ref y]) (vs:=[.ref y]) F hr hb .nil I1 (.cons rfl .nil) q2 λe s' z=>hx π s1 e s' I1 z)
def zeZ{Q:VK}{t:TA}(hq:∀{H1:Hp} {φ1:Ph} {st1:SO} {P:List V->Hp->Prop} {kk:List PV->SO->R PV},yE X.K S.cl B φ1 H1 st1->yM X.K S.cl B φ1 H1 ρ σ->Run S X σ B φ1 H1 (RV S X B) ((evs S.call ρ st1 ces).bind kk) Q ->
   (∀xs H2 vs st2 φ2,Step φ1 H1 φ2 H2->yE X.K S.cl B φ2 H2 st2->yM X.K S.cl B φ2 H2 ρ σ->yj X.K S.cl B φ2 H2 vs xs->Run S X σ B φ2 H2 (RV S X B) (kk vs st2) Q->P xs H2)->t σ H1 P)
  (rs:yE X.K S.cl B φ H st) (re:yM X.K S.cl B φ H ρ σ) (h:Run S X σ B φ H (RV S X B) ((ev S.call ρ st ca).bind λx st1=>onO (ybV c m st1 x) λ_=>(evs S.call ρ st1 ces).bind λvs st2=>S.call i (x::vs) st2) Q):
  ybZ (CX1 X.prog X.w) X (S.cl c) m (spI X.K S.cl S.call i) (tE S X ca) t σ H Q:=by
 refine tE.bind rs re h λx H1 v st1 φ1 s1 rs1 re1 rv h1=>?_
 cases q:ybV c m st1 v with
 |none=>rw[q]at h1;exact h1.elim
 |some b=>
  rw[q]at h1;erw[onO]at h1;let⟨n,fs,rfl,hn,hl⟩:=zkg q;let⟨y,ks,dx,rfl,_,hy,lr⟩:=rs1.ins rv hn;refine⟨y,dx,ks,rfl,hy,lr.lookup.2 hl,hq rs1 re1 h1 λxs H2 vs st2 φ2 s2 rs2 re2 rl h2=>?_⟩;exact zbc rs2 (by erw[yj];exact⟨.ref y,xs,rfl,rv.step s2,rl⟩) h2
def zpi{pl:Gw Bool}(hc:Cls X.K (S.cl c))(hm:Meth X.K (S.cl c) m fa)(F:yaJ X.prog X.w X.K X.mg X.base (CX1 X.prog X.w) k fa fd ps (spI X.K S.cl S.call i))(hr:yav k X.A)(hb:Binds X.K fd ps [])
  (ho:PE X o (tE S X ca)) (ha:PA X (e::es) (tAs S X ces))
  (hst:starEach (e::es) X.env=(AC,eval e X.env)::starEach es X.env:=by rfl) (hpl:(backTo pos (starEach es X.env)).any (·.1)=false:=by rfl)
  (ht:eval (.Call (.Attribute o m apos) (e::es) [] pos) X.env=(do
   let ov <-eval o X.env
   standAt apos.atName
   let (f,first) <-holding [ov] (getMethod ov m pl)
   callWith pos f first (backTo pos (starEach (e::es) X.env)) (backToKw pos (keywordEach [] X.env))):=by rfl):
  PE X (.Call (.Attribute o m apos) (e::es) [] pos) (tE S X (.mcl c i m ca ces)):=
 (zjl ho hc hm F hr hb ha hst hpl ht).imp λσ H Q ⟨B,φ,st,ρ,rs,re,h⟩=>by
  erw[ev]at h;exact zeZ (λrs1 re1 h1 n=>tAs.bind rs1 re1 h1 n) rs re h
def zl3{pl:Gw Bool}(hc:Cls X.K (S.cl c))(hm:Meth X.K (S.cl c) m fa)(F:yaJ X.prog X.w X.K X.mg X.base (CX1 X.prog X.w) k fa fd ps (spI X.K S.cl S.call i))(hr:yav k X.A)(hb:Binds X.K fd ps [])
  (ho:PE X o (tE S X ca))
  (ht:eval (.Call (.Attribute o m apos) [] [] pos) X.env=(do
   let ov <-eval o X.env
   standAt apos.atName
   let (f,first) <-holding [ov] (getMethod ov m pl)
   callWith pos f first (backTo pos (starEach [] X.env)) (backToKw pos (keywordEach [] X.env))):=by rfl):
  PE X (.Call (.Attribute o m apos) [] [] pos) (tE S X (.mcl c i m ca .nil)):=
 (zie ho hc hm F hr hb ht).imp λσ H Q ⟨B,φ,st,ρ,rs,re,h⟩=>by
  erw[ev]at h;refine zeZ (t:=yda) (λ{H1 φ1 st1 P kk} rs1 re1 h1 n=>?_) rs re h;erw[evs,R.bind]at h1;exact n [] H1 [] st1 φ1 .rfl rs1 re1 (by erw[yj]) h1
end
inductive ycc(w:An)(fa:Nat->AI):List (AQ×Nat)->List CJ->Prop
 |nil:ycc w fa [] []
 |cons {k:AQ} {i:Nat} {t:Hf} {D:List (AQ×Nat)} {es:List CJ} (h:ycc w fa D es):ycc w fa ((k,i)::D) (⟨EN w.params k,.str k t,.ref (fa i)⟩ :: es)
def GDF(K:AF)(w:An)(mg:AQ->Option AG)(fa:Nat->AI)(x:AQ)(D:List (AQ×Nat)):Prop:=
 ∃(y:AI) (es:Array CJ) (ep:Nat),mg x=AA (.ref y)/\K.lookup y=AA ⟨.type "dict",AD,.dict es ep,#[]⟩/\ycc w fa D es.toList/\(D.map (·.1)).Nodup
theorem ycc.pairs{P:A8}{w:An}{fa:Nat->AI}{D:List (AQ×Nat)}{es:List CJ}(h:ycc w fa D es):
  ∃vs:List (AQ×AG),Pairs (strKind P w) es vs/\(∀e∈es,∃k,(strKind P w).is k e.key=AB/\e.hash=(strKind P w).hash k)/\vs.map (·.1)=D.map (·.1) /\
   ∀s i,D.lookup s=AA i->valueAt vs s=AA (.ref (fa i)):=by
 induction h with
 |nil=>exact⟨[],.nil,λe he=>(by cases he),rfl,λs v e=>by cases e⟩
 |@cons k i t D es h ih=>
  let⟨vs,h1,h2,h3,h5⟩:=ih;have hat:∀s,valueAt ((k,Al (fa i))::vs) s=if k=s then AA (.ref (fa i))else valueAt vs s:=λs=>by
   unfold valueAt;rw[CD]
   by_cases e:k=s
   .simp[e]
   .simp[e]
  refine⟨(k,.ref (fa i))::vs,.cons (D4 P w k t) rfl h1,λe he=>?_,by rw[AL,AL,h3],λs j e=>?_⟩
  .rcases AT.1 he with rfl|he
   .exact⟨k,D4 P w k t,rfl⟩
   .exact h2 e he
  .rw[hat];erw[Bw]at e
   by_cases q:k=s
   .subst q;rw[beq_self_eq_true]at e
    cases e
    rw[if_pos rfl]
   .rw[beq_eq_false_iff_ne.2 (BN q)]at e;rw[if_neg q];exact h5 s j e
section
variable {S:Se}{X:Cx}{σ:St}{B:AI->Prop}{φ:Ph}{H:Hp}{st:SO}{ρ:IC.Env}{pos p p1 p2 p3 p4 p5 p6 p7:CV}{a b i e n:AV}{es:List AV}{ca cn:Ce}{ces:Ces}{x y:AQ}{D:List (AQ×Nat)}{ty:TE}{t:TA}{fa:Nat->AI}{fdd:Nat->BG}{ps:Nat->List AQ}{k ix:Nat}
def ydr(D:List (AQ×Nat))(fa:Nat->AI)(ty:TE):TE:=λσ H Q=>ty σ H λz H2=>∃s j,z=.str s/\D.lookup s=AA j/\Q (.ref (fa j)) H2
def zjz(hg:Gl X x)(h:GDF X.K X.w X.mg fa x D)(hi:PE X i ty)(hs:ycW i)(hd:(x==("__debug__":AQ))=false:=by decide):PE X (.Subscript (.Name x p) i pos) (ydr D fa ty):=by
 let⟨y,es,ep,hm,hk,hr,hn⟩:=h;let⟨vs,h1,h2,h3,h5⟩:=hr.pairs (P:=X.prog);intro π s σ H Q I q0;refine zhT EU.lookup hs (thn (zdJ (v:=.ref y) hg hm rfl hd π s σ H (λz H1=>z=.ref y/\ty σ H1 λz H2=>∃s j,z=.str s/\D.lookup s=AA j/\Q (.ref (fa j)) H2) I ⟨rfl,q0⟩) λu s1 kq=>?_);let⟨z,H1,I1,rz,ez,q1⟩:=kq;refine thn (hi π s1 σ H1 _ I1 q1) λiv s2 kq=>?_;let⟨z2,H2,I2,rz2,sx,j,ez2,e,q2⟩:=kq;subst ez;subst ez2;obtain rfl:u=Al y:=rz;let⟨t,rfl⟩:=rz2;have dd:s2.heap.DictOf (strKind X.prog X.w) y vs:=⟨_,es,ep,I2.kIn y _ hk,⟨rfl,rfl,rfl⟩,rfl,λe he=>h2 e (by simpa using he),h1,by rw[h3];exact hn⟩;exact⟨dd.typeIs,G0 (D4 X.prog X.w sx t) dd.mapOf (h5 sx j e) ⟨.ref (fa j),H2,I2.tok _,rfl,q2⟩⟩
structure Makers(S:Se)(X:Cx)(k:Nat)(D:List (AQ×Nat))(fa:Nat->AI)(fdd:Nat->BG)(ps:Nat->List AQ):Prop where
 F:∀s j,D.lookup s=AA j->yaJ X.prog X.w X.K X.mg X.base (CX1 X.prog X.w) k (fa j) (fdd j) (ps j) (spI X.K S.cl S.call j)
 kp:∀s j,D.lookup s=AA j->Ax X.K (.ref (fa j))=AB
 b:∀s j,D.lookup s=AA j->Binds X.K (fdd j) (ps j) []
def ydJ(S:Se)(X:Cx)(D:List (AQ×Nat))(fa:Nat->AI)(ix:Nat)(t:TA):TE:=λσ H Q=>∃s j,D.lookup s=AA j/\σ[ix]?=AA (AA (.ref (fa j)))/\t σ H λvs H1=>∃E:XK,spI X.K S.cl S.call j vs H1 Q E/\∀π s e s',Inv X π σ H1 s->CX1 X.prog X.w X.stack H1 s E e s'->X.xe e s'
def zj7(M:Makers S X k D fa fdd ps)(hr:yav k X.A)(hN:X.N[ix]?=AA x)(hv:Vis X.env.scope x)(ha:PA X (e::es) t)
  (hd:(x==("__debug__":AQ))=false:=by decide) (hcd:(x==("__classdict__":AQ))=false:=by decide) (he:starEach (e::es) X.env=(AC,eval e X.env)::starEach es X.env:=by rfl) (hpl:(backTo pos (starEach es X.env)).any (·.1)=false:=by rfl):
  PE X (.Call (.Name x p) (e::es) [] pos) (ydJ S X D fa ix t):=by
 intro π s σ H Q I ⟨sx,j,hl,hs,h⟩;refine B1 (thn (zlb hN hv hd hcd π s σ H (λz H1=>z=.ref (fa j)/\t σ H1 λvs H1=>∃E:XK,spI X.K S.cl S.call j vs H1 Q E/\∀π s e s',Inv X π σ H1 s->CX1 X.prog X.w X.stack H1 s E e s'->X.xe e s') I ⟨_,hs,rfl,h⟩) λu s1 kq=>?_);let⟨z,H1,I1,rz,ez,q1⟩:=kq;subst ez;obtain rfl:u=Al (fa j):=rz;refine DF (h₀:=X.base) I.ok.mod.kin (M.kp sx j hl) (thn (ha pos π s1 σ H1 _ I1 q1) λus s2 kq=>?_) he hpl;let⟨vs,H2,I2,r,E,q,hx⟩:=kq;refine ⟨I2.kIn,?_⟩;exact zdt (M.F sx j hl) hr (M.b sx j hl) .nil I2 r (by rw[BR];exact q) λe s' c=>hx π s2 e s' I2 c
theorem yM.hole{K:AF}{cl:Nat->AI}{v:V}(re:yM K cl B φ H ρ σ):yM K cl B φ H (ρ.set ix AD) (σ.set ix (AA v)):=by
 refine⟨by simp[re.len],λj w e=>?_⟩
 by_cases q:ix=j
 .subst q
  by_cases hj:ix<ρ.length
  .rw[A9 hj]at e;cases e
  .rw[BW (by simp;lia)]at e;cases e
 .rw[AO q]at e ⊢;exact re.get j w e
def zjJ{v:PV}{j:Nat}{b:Bool}(h:mkV D b v=AA j):∃s,v=.str s/\D.lookup s=AA j/\b=true:=by
 cases v with
 |str s=>
  cases b with
  |true=>exact⟨s,rfl,h,rfl⟩
  |false=>cases h
 |_=>cases h
def zpf(M:Makers S X k D fa fdd ps)(hr:yav k X.A)(hN:X.N.Nodup)(hi:X.N[ix]?=AA x)(hx:Loc X.env.scope x)(hv:Vis X.env.scope x)(hg:Gl X y)(hd:GDF X.K X.w X.mg fa y D)(hn:PE X n (tE S X cn))(ha:PA X (e::es) (tAs S X ces))
  (hs:ycW n:=by exact λ_ _=>rfl) (hsw:swapsWith (.Subscript (.Name y p2) n p3) (AA (.Name x p1)) p4.line X.env=pure false:=by rfl) (hf:X.fn x=AB \/ X.env.scope.names.lookup x=AA .local:=by first|exact .inl rfl|exact .inr rfl|assumption)
  (hyd:(y==("__debug__":AQ))=false:=by decide) (hxd:(x==("__debug__":AQ))=false:=by decide) (hcd:(x==("__classdict__":AQ))=false:=by decide) (he:starEach (e::es) X.env=(AC,eval e X.env)::starEach es X.env:=by rfl) (hpl:(backTo p6 (starEach es X.env)).any (·.1)=false:=by rfl):
  PSs X [.Assign [.Name x p1] (.Subscript (.Name y p2) n p3) p4,.Return (AA (.Call (.Name x p5) (e::es) [] p6)) p7] (tSs S X (.cons (.mkr ix D cn ces) .nil)):=
 (zgh (zkN hN hi hx (zjz hg hd hn hs hyd) hsw hf) (zlh (zku (zj7 M hr hi hv ha hxd hcd he hpl)))).imp λD' σ H ⟨B,φ,st,ρ,rs,re,h⟩=>by
  have h:yaH S X B φ H (ex S.call ρ st (.mkr ix D cn ces)) D':=by
   erw[exs]at h
   cases q:ex S.call ρ st (.mkr ix D cn ces)with
   |nx ρ' s'=>
    exfalso;erw[ex]at q
    cases q1:ev S.call ρ st cn with
    |ok v1 s1=>
     rw[q1]at q;erw[R.fl]at q;split at q
     .rename_i j _
      cases q2:(evs S.call (ρ.set ix AD) s1 ces).bind λvs st2=>S.call j vs st2 with
      |ok v2 s2=>rw[q2]at q;cases q
      |exc c s2=>rw[q2]at q;cases q
      |bad=>rw[q2]at q;cases q
     .cases q
    |exc c s1=>rw[q1]at q;cases q
    |bad=>rw[q1]at q;cases q
   |rt v s'=>rw[q]at h;exact h
   |bk ρ' s'=>rw[q]at h;exact h
   |ct ρ' s'=>rw[q]at h;exact h
   |exc c ρ' s'=>rw[q]at h;exact h
   |bad=>rw[q]at h;exact h
  erw[ex]at h;refine tE.fl rs re h λx' H1 v st1 φ1 s1 rs1 re1 rv h1=>?_
  cases q:mkV D (decide (ix<ρ.length)) v with
  |none=>rw[q]at h1;exact h1.elim
  |some j=>
   rw[q]at h1;let⟨sx,rfl,hl,hb⟩:=zjJ q;erw[yg]at rv;subst rv;have hlen:ix<σ.length:=by
    rw[<-re1.len];exact of_decide_eq_true hb
   refine⟨sx,j,rfl,hl,sx,j,hl,by rw[A9 hlen],B,φ1,st1,ρ.set ix AD,rs1,re1.hole,?_⟩;dsimp only at h1
   cases q2:evs S.call (ρ.set ix AD) st1 ces with
   |bad=>rw[q2]at h1;exact h1
   |exc c s2=>rw[q2]at h1;exact λe s' z=>h1 _ φ1 H1 e s' .rfl re1.hole z
   |ok vs st2=>
    rw[q2]at h1;intro xs H2 φ2 s2 rs2 rl;have h2:yaH S X B φ1 H1 ((S.call j vs st2).fl (ρ.set ix AD) λv st3=>.rt v st3) D':=h1;refine zbc rs2 rl ?_
    cases q3:S.call j vs st2 with
    |bad=>rw[q3]at h2;exact h2
    |ok v st3=>rw[q3]at h2;exact λx H' φ' s' rs' rv=>h2 x H' φ' (s2.trans s') rs' rv
    |exc c st3=>rw[q3]at h2;exact λe s' z=>h2 _ φ2 H2 e s' s2 (re1.hole.step s2) z
end
section
variable {P:A8}{w:An}{K:AF}{mg:AQ->Option AG}{base:BF}{cl:Nat->AI}{T:Nat->Option IC.Fn}{fi:Nat}{fn:IC.Fn}{x qual:AQ}{stm:Bz}{f:AI}{fd:BG}{N ps:List AQ}{k m:Nat}
def zjk:yaJ P w K mg base (CX1 P w) m f fd ps (spI K cl (yd T 0) fi):=
 ⟨λvs H Q E ⟨_,_,_,_,_,_,h⟩=>by rw[yd]at h;exact h.elim,λA outer s H args us vs Q E _ _ _ _ ⟨_,_,_,_,_,_,h⟩=>by rw[yd]at h;exact h.elim⟩
end
theorem ydj.units{k:Nat}{A:Au}(r:ydj k A):A.units+64<cLine:=by have:=r.un;lia
section
variable {P:A8}{w:An}{K:AF}{mg:AQ->Option AG}{base:BF}{cl:Nat->AI}{T:Nat->Option IC.Fn}{fi:Nat}{fn:IC.Fn}{x qual:AQ}{stm:Bz}{f:AI}{fd:BG}{N ps:List AQ}{k m:Nat}
end
section
variable {S:Se}{X:Cx}{σ:St}{B:AI->Prop}{φ:Ph}{H:Hp}{st:SO}{ρ:IC.Env}{p pos:CV}{e:AV}{es:List AV}{ces:Ces}{fi k:Nat}{x:AQ}{f:AI}{fd:BG}{ps:List AQ}
end
end L2
namespace L2
open PySem IC
section
variable {S:Se}{X:Cx}{σ:St}{B:AI->Prop}{φ φ1:Ph}{H H1:Hp}{st:SO}{ρ:IC.Env}{p pos p2 px py pt pt2:CV}{a b c d o a' b' c' d':AV}{ca cb cc cd ce cf:Ce}{π:List (AI×CF)}{s:AJ}{kt k2:Nat}{es:List AV}{ces:Ces}{x:AQ}
end
end L2
namespace L2
open PySem PySem.Spec PyProof.Rows
section
variable {X:Cx}
end
end L2
namespace L2
open PySem PySem.Spec PyProof.Rows IC
section
variable {S:Se}{X:Cx}{σ:St}{B:AI->Prop}{φ φ1:Ph}{H H1:Hp}{st:SO}{ρ:IC.Env}{p pos p2 apos:CV}{a b c d:AV}{ca cb cc:Ce}{es:List AV}{ces:Ces}{K:AF}{cl:Nat->AI}
end
section
variable {S:Se}{X:Cx}{a b:AV}{c i:Nat}{j:Int}{f:AQ}{pos tpos:CV}
def zph(hc:Cls X.K (S.cl c))(hn:yat X.K (S.cl c) f)(ha:PE X a (tE S X (.var i)))(hv:PE X b (tE S X (.cst (.int j)))):
  PS X (.AugAssign (.Attribute a f tpos) .Add b pos) (tS S X (.sfl c (.var i) f (.bin .add (.fld c (.var i) f) (.cst (.int j))))):=
 (zhv ha hv znk).imp λD σ H ⟨B,φ,st,ρ,rs,re,h⟩=>by
  erw[ex,ev]at h
  cases q:ρ[i]? with
  |none=>rw[q]at h;exact h.elim
  |some o=>
   cases o with
   |none=>rw[q]at h;exact h.elim
   |some x=>
    rw[q]at h;dsimp only[R.bind]at h;refine⟨B,φ,st,ρ,rs,re,?_⟩;erw[ev,q];intro x' H1 φ1 s1 rs1 rx;have re1:=re.step s1;have h:=yaH.on s1 h
    cases e:ya5 c st x f with
    |none=>rw[e]at h;exact h.elim
    |some v=>
     rw[e]at h;let⟨n,fs,rfl,hn',l⟩:=zga e;let⟨y,ks,dx,rfl,hp,hy,lr⟩:=rs1.ins rx hn';let⟨x,hx,rxv⟩:=lr.lookup.1 v l;refine⟨y,S.cl c,dx,ks,x,rfl,hy,hc,hn,hx,⟨B,φ1,st,ρ,rs1,re1,?_⟩⟩;erw[ev];intro y' H2 φ2 s2 rs2 ry;erw[yg]at ry;subst ry
     cases v with
     |int k=>
      erw[yg]at rxv;subst rxv;refine⟨k,j,rfl,rfl,?_⟩;have h:yaH S X B φ1 H1 (match ya4 c st (.loc n) f (.int (k+j))with|some st3=>Fl.nx ρ st3|none=>Fl.bad) D:=h;have h:=yaH.on s2 h;have rx2:=rx.step s2;let⟨y2,ks2,dx2,e2,hp2,hy2,lr2⟩:=rs2.ins rx2 hn'
      cases e2
      cases e3:ya4 c st (.loc n) f (.int (k+j))with
      |none=>rw[e3]at h;exact h.elim
      |some st4=>
       rw[e3]at h;let⟨n',fs',z,hn2,hl,rfl⟩:=zgl e3
       cases z
       rw[hn']at hn2
       cases hn2
       refine⟨dx2,ks2,hy2,by rw[<-lr2.len];exact hl,?_⟩;have s4:Step φ2 H2 φ2 (L2.upd H2 y (.ins (S.cl c) dx2 (yaY f (.int (k+j)) ks2))):=.put (A5 hp2);exact h σ _ φ2 s4 (rs2.put (o:=.ins c (ybI f (.int (k+j)) fs)) hp2 ⟨_,⟨dx2,zq⟩,(FS.put (by erw[yg]) lr2).step s4⟩) ((re1.step s2).step s4)
     |_=>exact h.elim
end
end L2
namespace HT
open PySem PySem.Spec PyProof.Rows
section
variable {prog:A8}{w:An}{A:Au}{E:AG->AJ->Prop}{s:AJ}
end
end HT
namespace L2
open PySem PySem.Spec PyProof.Rows IC
section
variable {S:Se}{X:Cx}{pos p2:CV}{e e3:AV}{te t3:TE}{a:AV}{ca c3:Ce}
theorem yj.reverse{K:AF}{cl:Nat->AI}{B:AI->Prop}{φ:Ph}{H:Hp}:∀{vs:List PV} {xs:List V},yj K cl B φ H vs xs->yj K cl B φ H vs.reverse xs.reverse
 |[],xs,h=>by
  erw[yj]at h;subst h;erw[List.reverse_nil,yj]
 |v::vs,xs,h=>by
  erw[yj]at h;let⟨y,ys,rfl,r,l⟩:=h;rw[DO,DO];exact(yj.reverse l).append (by erw[yj];exact⟨y,[],rfl,r,rfl⟩)
end
section
variable {X:Cx}{prog:A8}{w:An}{A:Au}{E:AG->AJ->Prop}{s:AJ}
end
section
variable {S:Se}{X:Cx}{pos px:CV}{a:AV}{ca:Ce}
end
end L2
namespace L2
open PySem PySem.Spec PyProof.Rows IC WK
inductive GK where
 |fn (i:Nat)|fnD (i:Nat)|cst (v:PV)|dct (D:List (AQ×PV))|exc (c:Nat)|cls (c i:Nat)
structure Gs where
 g:AQ->Option GK
 b:AQ->Bool
 t:Ty->Bool
 fl:Nat->AQ->Bool
 me:Nat->AQ->Option Nat
 kb:Nat->Nat->List AQ->Option (List (Option Int))
 mr:AQ->Option (List (AQ×Nat))
structure Kx where
 N:List AQ
 sc:Bn
 own:Bool
def Fo(m:Nat)(S:Se)(X:Cx)(i:Nat)(f:AI)(fd:BG)(ps:List AQ):Prop:=yaJ X.prog X.w X.K X.mg X.base (CX1 X.prog X.w) m f fd ps (spI X.K S.cl S.call i)
structure Glo(γ:Gs)(m:Nat)(S:Se)(X:Cx):Prop where
 F:∀x i,γ.g x=AA (.fn i)->∃f fd ps,Fo m S X i f fd ps/\X.mg x=AA (.ref f)/\Ax X.K (.ref f)=AB/\Binds X.K fd ps []
 Q:∀x i np ks sh,γ.g x=AA (.fnD i)->γ.kb i np ks=AA sh->∃f fd ps,Fo m S X i f fd ps/\X.mg x=AA (.ref f)/\Ax X.K (.ref f)=AB/\∃g,ybG X.K fd ps ks g (gK np sh)
 C:∀x v,γ.g x=AA (.cst v)->GC X.K X.mg S.cl x v \/ ∃i,v=.int i/\GCI X.mg x i
 D:∀x d,γ.g x=AA (.dct d)->GD X.K X.w X.mg S.cl x d
 E:∀x c,γ.g x=AA (.exc c)->ydn X.K X.mg (S.cl c) x
 N:∀x c i,γ.g x=AA (.cls c i)->X.mg x=AA (.ref (S.cl c))/\∃f fd ps,Mk X.K (S.cl c) f/\Fo m S X i f fd ps/\Binds X.K fd ps []
 B:∀x,γ.b x=AB->X.mg x=AD
 T:∀t,γ.t t=AB->yd0 X.K t
 A:∀c f,γ.fl c f=AB->Cls X.K (S.cl c)/\yat X.K (S.cl c) f
 M:∀c n i,γ.me c n=AA i->Cls X.K (S.cl c)/\∃f fd ps,Meth X.K (S.cl c) n f/\Fo m S X i f fd ps/\Binds X.K fd ps []
 K:∀y D,γ.mr y=AA D->∃fa fdd ps,Makers S X m D fa fdd ps/\GDF X.K X.w X.mg fa y D
structure Good(γ:Gs)(κ:Kx)(m:Nat)(S:Se)(X:Cx):Prop where
 n:X.N=κ.N
 sc:X.env.scope=κ.sc
 calm:X.calm=AB
 room:yav (m+1) X.A
 own:κ.own=AB->Ee (model X.prog X.w) X.A X.env X.xe/\(∀x,X.fn x=AB)/\S.may=AB
 glo:Glo γ m S X
abbrev Pr(P:Prop):Type:=Option (PLift P)
abbrev YE(γ:Gs)(κ:Kx)(e:AV)(c:Ce):Prop:=∀m S X,Good γ κ m S X->PE X e (tE S X c)
abbrev YT(γ:Gs)(κ:Kx)(e:AV)(c:Ce):Prop:=∀m S X,Good γ κ m S X->PT X e (tTs S X c)
abbrev YW(γ:Gs)(κ:Kx)(e:AV)(c:Ce):Prop:=∀m S X,Good γ κ m S X->PW X e (tTs S X c)
abbrev YA(γ:Gs)(κ:Kx)(e:List AV)(c:Ces):Prop:=∀m S X,Good γ κ m S X->PA X e (tAs S X c)
abbrev YO(γ:Gs)(κ:Kx)(e:Option AV)(c:Ce):Prop:=∀m S X,Good γ κ m S X->PO X e (tO S X c)
abbrev YS(γ:Gs)(κ:Kx)(s:Bz)(c:Cs):Prop:=∀m S X,Good γ κ m S X->PS X s (tS S X c)
abbrev YSs(γ:Gs)(κ:Kx)(s:List Bz)(c:Css):Prop:=∀m S X,Good γ κ m S X->PSs X s (tSs S X c)
def an{P Q:Prop}(a:Pr P)(k:P->Pr Q):Pr Q:=match a with
 |some h=>k h.down
 |none=>AD
def ok{P:Prop}(h:P):Pr P:=AA ⟨h⟩
def ask(p:Prop)[Decidable p]:Pr p:=if h:p then AA ⟨h⟩else AD
def nst:AV->Bool
 |.Starred _ _=>AC
 |_=>AB
def zaZ{a:AV}{es:List AV}{env:B0}(h:nst a=AB):starEach (a::es) env=(AC,eval a env)::starEach es env:=by
 cases a<;>first|rfl|cases h
def ybT(es:List AV):Bool:=es.all nst
theorem stars{pos:CV}{env:B0}:∀{es:List AV},ybT es=AB->(backTo pos (starEach es env)).any (·.1)=AC
 |[],_=>rfl
 |a::es,h=>by
  erw[ybT,Bc,AK]at h;rw[zaZ h.1];have:=stars (pos:=pos) (env:=env) (es:=es) h.2;simpa [backTo] using this
def nco:AV->Bool
 |.ListComp ..=>AC
 |.SetComp ..=>AC
 |.DictComp ..=>AC
 |_=>AB
theorem swp{a:AV}{t:Option AV}{l:Nat}{env:B0}(h:nco a=AB):swapsWith a t l env=pure false:=by
 cases a<;>first|rfl|cases h
def nse:AV->Bool
 |.Set ..=>AC
 |_=>AB
theorem fse{a:AV}{env:B0}(h:nse a=AB):∀x,foldedSetIterable a env x=pure x:=by
 cases a<;>first|exact λ_=>rfl|cases h
theorem nmk{op:F8}{a:AV}(h:nse a=AB):behindInMarks op a=false:=by
 cases a<;>first|rfl|cases h
def nsl:AV->Bool
 |.Slice ..=>AC
 |_=>AB
theorem pix{a:AV}(h:nsl a=AB):ybx a:=by
 cases a<;>first|exact λ_ _=>rfl|cases h
theorem nos{a:AV}(h:nsl a=AB):ycW a:=pix h
def ntu:AV->Bool
 |.Tuple ..=>AC
 |_=>AB
def nte:AV->Bool
 |.UnaryOp ..=>AC
 |.BoolOp ..=>AC
 |.IfExp ..=>AC
 |.Compare ..=>AC
 |_=>AB
theorem itr{a:AV}{env:B0}(h:nte a=AB):∀whole,isTrue a env whole=(do let v <-whole;standAt a.pos;holding [v] (truthy v)):=by
 cases a<;>first|exact λ_=>rfl|cases h
def nca:AV->Bool
 |.Call ..=>AC
 |_=>AB
def zmr{a:AV}{f:AQ}{env:B0}{w:Gw AG}(h:nca a=AB):attributeBase a f env w=w:=by
 cases a<;>first|rfl|cases h
def mOp(op:De)(o:BOp):Pr (∀S X,OpR X (binaryOp op) (rT2 S X (yw o))):=
 match op,o with
 |.Add,.add=>ok (λ_ _=>znr)
 |.Sub,.sub=>ok (λ_ _=>zo6)
 |.Mult,.mul=>ok (λ_ _=>znV)
 |.FloorDiv,.fdiv=>ok (λ_ _=>zlL)
 |.Mod,.mod=>ok (λ_ _=>zoi)
 |.Pow,.pow=>ok (λ_ _=>zm5)
 |.LShift,.shl=>ok (λ_ _=>zoy)
 |.RShift,.shr=>ok (λ_ _=>zou)
 |.BitAnd,.band=>ok (λ_ _=>zmp)
 |.BitOr,.bor=>ok (λ_ _=>zm9)
 |.BitXor,.bxor=>ok (λ_ _=>zmS)
 |_,_=>AD
def mCm(op:F8)(o:COp):Pr (∀m S X,yav m X.A->OpR X (compareOp op) (rT2 S X (yG o))):=
 match op,o with
 |.Eq,.eq=>ok (λ_ _ _ r=>zpH r.units)
 |.NotEq,.ne=>ok (λ_ _ _ r=>zp9 r.units)
 |.Lt,.lt=>ok (λ_ _ _ _=>zpB)
 |.LtE,.le=>ok (λ_ _ _ _=>zps)
 |.Gt,.gt=>ok (λ_ _ _ _=>zp4)
 |.GtE,.ge=>ok (λ_ _ _ _=>zp0)
 |.In,.isin=>ok (λ_ _ _ _=>zpX)
 |_,_=>AD
def ydM(sc:Bn)(x:AQ):Bool:=match sc.names.lookup x with
 |some .local=>AB
 |some .cell=>AB
 |some .free=>AB
 |_=>AC
def zit{sc:Bn}{x:AQ}(h:ydM sc x=AB):Vis sc x:=by
 unfold ydM at h;split at h
 .exact .inl ‹_›
 .exact .inr (.inl ‹_›)
 .exact .inr (.inr ‹_›)
 .cases h
def ydQ(sc:Bn)(x:AQ):Bool:=match sc.names.lookup x with
 |some .local=>AB
 |some .cell=>AB
 |_=>AC
def ziN{sc:Bn}{x:AQ}(h:ydQ sc x=AB):Loc sc x:=by
 unfold ydQ at h;split at h
 .exact .inl ‹_›
 .exact .inr ‹_›
 .cases h
def pln(x:AQ):Bool:=!(x==("__debug__":AQ))&&!(x==("__classdict__":AQ))&&!(x==("__name__":AQ))
def zcQ{x:AQ}(h:pln x=AB):(x==("__debug__":AQ))=false:=by
 erw[pln,AK,Ck]at h;exact h.1.1
def zqd{x:AQ}(h:pln x=AB):(x==("__classdict__":AQ))=false:=by
 erw[pln,AK,Ck]at h;exact h.1.2
def zqe{x:AQ}(h:pln x=AB):x ≠ "__name__":=by
 erw[pln,AK,Ck]at h;intro e;rw[e]at h;exact absurd h.2 ⋯
def glB(κ:Kx)(x:AQ):Bool:=decide (κ.sc.names.lookup x=AA .globalImplicit)&&pln x
def zau{γ:Gs}{κ:Kx}{m:Nat}{S:Se}{X:Cx}(G:Good γ κ m S X){x:AQ}(h:glB κ x=AB):Gl X x:=by
 erw[glB,AK,decide_eq_true_eq]at h;show X.env.scope.names.lookup x=_;rw[G.sc];exact h.1
def zbN{κ:Kx}{x:AQ}(h:glB κ x=AB):pln x=true:=by
 erw[glB,AK]at h;exact h.2
def setB(κ:Kx)(i:Nat)(x:AQ):Bool:=decide (κ.N[i]?=AA x)&&decide κ.N.Nodup&&ydQ κ.sc x&&(κ.own || decide (κ.sc.names.lookup x=AA .local))&&pln x
structure yeb(X:Cx)(i:Nat)(x:AQ):Prop where
 d:X.N.Nodup
 i:X.N[i]?=AA x
 l:Loc X.env.scope x
 f:X.fn x=AB \/ X.env.scope.names.lookup x=AA .local
 p:pln x=AB
def zbb{γ:Gs}{κ:Kx}{m:Nat}{S:Se}{X:Cx}(G:Good γ κ m S X){i:Nat}{x:AQ}(h:setB κ i x=AB):yeb X i x:=by
 erw[setB,AK,DE,decide_eq_true_eq]at h;let⟨⟨⟨⟨h1,h2⟩,h3⟩,h4⟩,h5⟩:=h;refine⟨by rw[G.n];exact h2,by rw[G.n];exact h1,by rw[G.sc];exact ziN h3,?_,h5⟩;rcases h4 with h4|h4
 .exact .inl ((G.own h4).2.1 x)
 .exact .inr (by rw[G.sc];exact h4)
def gFn(γ:Gs)(x:AQ)(i:Nat):Pr (γ.g x=AA (.fn i)):=match h:γ.g x with
 |some (.fn j)=>if e:j=i then AA ⟨by subst e;rfl⟩else AD
 |_=>AD
section
variable {γ:Gs}{κ:Kx}{ca cb cc:Ce}{ces:Ces}
def yfl(v:PV)(e:AV):Pr (YE γ κ e (.cst v)):=
 match e with
 |.Constant (.int i) _ _=>match v with
  |.int j=>an (ask (i=j)) λh=>ok (λ_ _ _ _=>by cases h;exact zkv)
  |_=>AD
 |.Constant (.bool i) _ _=>match v with
  |.bl j=>an (ask (i=j)) λh=>ok (λ_ _ _ _=>by cases h;exact zpA)
  |_=>AD
 |.Constant .none _ _=>match v with
  |.non=>ok (λ_ _ _ _=>znD)
  |_=>AD
 |.Constant (.str i) _ _=>match v with
  |.str j=>an (ask (i=j)) λh=>ok (λ_ _ _ _=>by cases h;exact zpb)
  |_=>AD
 |_=>AD
def yff(i:Nat)(e:AV):Pr (YE γ κ e (.var i)):=
 match e with
 |.Name x _=>an (ask (κ.N[i]?=AA x/\ydM κ.sc x=AB/\pln x=AB)) λh=>ok (λ_ _ _ G=>znb (by rw[G.n];exact h.1) (by rw[G.sc];exact zit h.2.1) (zcQ h.2.2) (zqd h.2.2))
 |_=>AD
def yg8(o:BOp)(e:AV)(fa:∀x,Pr (YE γ κ x ca))(fb:∀x,Pr (YE γ κ x cb)):Pr (YE γ κ e (.bin o ca cb)):=
 match e with
 |.BinOp a op b _=>
  an (mOp op o) λho=>an (fa a) λha=>an (fb b) λhb=>ok (λm S X G=>znU (ho S X) (ha m S X G) (hb m S X G))
 |_=>AD
def yf8(e:AV)(fa:∀x,Pr (YE γ κ x ca)):Pr (YE γ κ e (.neg ca)):=
 match e with
 |.UnaryOp .USub a _=>
  an (fa a) λha=>ok (λm S X G=>zk3 (ha m S X G))
 |_=>AD
def ygG(e:AV)(fa:∀x,Pr (YE γ κ x ca)):Pr (YE γ κ e (.not ca)):=
 match e with
 |.UnaryOp .Not a _=>
  an (fa a) λha=>ok (λm S X G=>zod (ha m S X G))
 |_=>AD
def yfG(o:COp)(e:AV)(fa:∀x,Pr (YE γ κ x ca))(fb:∀x,Pr (YE γ κ x cb)):Pr (YE γ κ e (.cmp o ca cb)):=
 match e with
 |.Compare a [op] [b] _=>
  an (mCm op o) λho=>an (ask (nse b=AB)) λhs=>an (fa a) λha=>an (fb b) λhb=>ok (λm S X G=>zn1 (ho _ S X G.room) (ha m S X G) (hb m S X G) (nmk hs))
 |_=>AD
def yeC(o:COp)(e:AV)(fa:∀x,Pr (YE γ κ x ca))(fb:∀x,Pr (YE γ κ x cb)):Pr (YT γ κ e (.cmp o ca cb)):=
 match e with
 |.Compare a [op] [b] _=>
  an (mCm op o) λho=>an (ask (nse b=AB)) λhs=>an (fa a) λha=>an (fb b) λhb=>ok (λm S X G=>zn9 (ho _ S X G.room) (ha m S X G) (hb m S X G) (nmk hs))
 |_=>AD
theorem lmk{op op':F8}{b c:AV}(h:nse c=AB):lastMarks [op,op'] [b,c]=false:=nmk h
def yf3(o p:COp)(e:AV)(fa:∀x,Pr (YE γ κ x ca))(fb:∀x,Pr (YE γ κ x cb))(fc:∀x,Pr (YE γ κ x cc)):Pr (YE γ κ e (.chain o p ca cb cc)):=
 match e with
 |.Compare a [op,op'] [b,c] _=>
  an (mCm op o) λho=>an (mCm op' p) λhp=>an (ask (nse c=AB)) λhs=>an (fa a) λha=>an (fb b) λhb=>an (fc c) λhc=>ok (λm S X G=>zjy (ho _ S X G.room) (hp _ S X G.room) (ha m S X G) (hb m S X G) (hc m S X G) (lmk hs))
 |_=>AD
def yeu(o p:COp)(e:AV)(fa:∀x,Pr (YE γ κ x ca))(fb:∀x,Pr (YE γ κ x cb))(fc:∀x,Pr (YE γ κ x cc)):Pr (YT γ κ e (.chain o p ca cb cc)):=
 match e with
 |.Compare a [op,op'] [b,c] _=>
  an (mCm op o) λho=>an (mCm op' p) λhp=>an (ask (nse c=AB)) λhs=>an (fa a) λha=>an (fb b) λhb=>an (fc c) λhc=>ok (λm S X G=>zje (ho _ S X G.room) (hp _ S X G.room) (ha m S X G) (hb m S X G) (hc m S X G) (lmk hs))
 |_=>AD
def ygE(e:AV)(fc:∀x,Pr (YT γ κ x cc))(fa:∀x,Pr (YE γ κ x ca))(fb:∀x,Pr (YE γ κ x cb)):Pr (YE γ κ e (.ite cc ca cb)):=
 match e with
 |.IfExp c a b _=>
  an (fc c) λhc=>an (fa a) λha=>an (fb b) λhb=>ok (λm S X G=>zo7 (hc m S X G) (ha m S X G) (hb m S X G))
 |_=>AD
def yfI(e:AV)(fa:∀x,Pr (YA γ κ x ces)):Pr (YE γ κ e (.tup ces)):=
 match e with
 |.Tuple es _ _=>
  an (fa es) λha=>ok (λm S X G=>zoh (ha m S X G))
 |_=>AD
def yfQ(e:AV)(fa:∀x,Pr (YA γ κ x ces)):Pr (YE γ κ e (.lst ces)):=
 match e with
 |.List es _=>
  an (fa es) λha=>ok (λm S X G=>zoA (ha m S X G))
 |_=>AD
def yer(e:AV)(fa:∀x,Pr (YA γ κ x ces)):Pr (YE γ κ e (.newl ces)):=
 match e with
 |.List es _=>
  an (fa es) λha=>ok (λm S X G=>zl0 (ha m S X G))
 |_=>AD
def yeF(t:Bool)(e:AV):Pr (YE γ κ e (.dict0 t)):=
 match t,e with
 |true,.Dict [] [] _=>ok (λ_ _ _ _=>zi3)
 |_,_=>AD
def mIdx(e:AV)(fa:∀x,Pr (YE γ κ x ca))(fb:∀x,Pr (YE γ κ x cb)):Pr (YE γ κ e (.idx ca cb)):=
 match e with
 |.Subscript a b _=>
  an (ask (nsl b=AB)) λhs=>an (fa a) λha=>an (fb b) λhb=>ok (λm S X G=>zpn (ha m S X G) (hb m S X G) (pix hs))
 |_=>AD
def yfZ(e:AV)(fa:∀x,Pr (YE γ κ x ca))(fb:∀x,Pr (YO γ κ x cb))(fc:∀x,Pr (YO γ κ x cc)):Pr (YE γ κ e (.slc ca cb cc)):=
 match e with
 |.Subscript a (.Slice l h AD _) _=>
  an (fa a) λha=>an (fb l) λhb=>an (fc h) λhc=>ok (λm S X G=>zoJ (ha m S X G) (hb m S X G) (hc m S X G))
 |_=>AD
def yfe(c:Ce)(e:Option AV)(fa:∀x,Pr (YE γ κ x c)):Pr (YO γ κ e c):=
 match e with
 |none=>match c with
  |.cst .non=>ok (λ_ _ _ _=>zli)
  |_=>AD
 |some a=>
  an (fa a) λha=>ok (λm S X G=>zmC (ha m S X G))
inductive Fs(γ:Gs)(κ:Kx):Ces->Type where
 |nil:Fs γ κ .nil
 |cons {c:Ce} {cs:Ces} (f:∀x,Pr (YE γ κ x c)) (r:Fs γ κ cs):Fs γ κ (.cons c cs)
def ya2:{ces:Ces}->Fs γ κ ces->(es:List AV)->Pr (YA γ κ es ces)
 |_,.nil,[]=>ok λ_ _ _ _=>zhX
 |_,.cons f r,a::es=>an (ask (nst a=AB)) λhs=>an (f a) λha=>an (ya2 r es) λhr=>ok λm S X G=>zeR (ha m S X G) (hr m S X G) (zaZ hs)
 |_,_,_=>AD
structure Sp2(γ:Gs)(κ:Kx)(ces:Ces)(np:Nat) where
 c1:Ces
 c2:Ces
 f1:Fs γ κ c1
 f2:Fs γ κ c2
 h:yam c1 c2=ces
 l:yc2 c1=np
def ycm:(np:Nat)->{ces:Ces}->Fs γ κ ces->Option (Sp2 γ κ ces np)
 |0,ces,F=>AA ⟨.nil,ces,.nil,F,rfl,rfl⟩
 |n+1,_,.cons f r=>match ycm n r with
  |some s=>AA ⟨.cons _ s.c1,s.c2,.cons f s.f1,s.f2,by rw[yam,s.h],by rw[yc2,s.l]⟩
  |none=>AD
 |_,_,_=>AD
structure It2(γ:Gs)(κ:Kx)(ces:Ces)(sh:List (Option Int))(kws:List C4) where
 it:List (Sum Ce Int)
 h:yC it=ces
 s:it.map shC=sh
 k:∀m S X,Good γ κ m S X->PK X kws (tK S X it)
def ybW:(sh:List (Option Int))->{ces:Ces}->Fs γ κ ces->(kws:List C4)->Option (It2 γ κ ces sh kws)
 |[],_,.nil,[]=>AA ⟨[],rfl,rfl,λ_ _ _ _=>zpa⟩
 |none::sh,.cons c _,.cons f r,⟨_,e,_⟩ :: kws=>match f e,ybW sh r kws with
  |some h,AA q=>AA ⟨.inl c::q.it,by rw[yC,q.h],by rw[AL,q.s];rfl,λm S X G=>zpD (h.down m S X G) (q.k m S X G)⟩
  |_,_=>AD
 |some i::sh,.cons (.cst (.int j)) _,.cons _ r,kws=>if e:i=j then match ybW sh r kws with
  |some q=>AA ⟨.inr i::q.it,by rw[yC,q.h,e],by rw[AL,q.s];rfl,λm S X G=>zpW (q.k m S X G)⟩
  |none=>AD
  else AD
 |_,_,_,_=>AD
def kwN:List C4->List AQ
 |[]=>[]
 |⟨AA x,_,_⟩ :: r=>x::kwN r
 |_::r=>kwN r
def kwB:List C4->Bool
 |[]=>AB
 |⟨AA _,_,_⟩ :: r=>kwB r
 |_=>AC
def zos{pos:CV}{env:B0}:∀{kws:List C4},kwB kws=AB->(backToKw pos (keywordEach kws env)).all (·.1.isSome)=AB/\(backToKw pos (keywordEach kws env)).filterMap (·.1)=kwN kws/\(backToKw pos (keywordEach kws env)).any (·.1.isNone)=AC
 |[],_=>⟨rfl,rfl,rfl⟩
 |⟨AA x,e,_⟩ :: r,h=>by
  let⟨h1,h2,h3⟩:=zos (pos:=pos) (env:=env) (kws:=r) h;erw[backToKw]at h1 h2 h3 ⊢;erw[keywordEach,AL,Bc,C3,BP,h1,h2,h3,kwN];simp
def ygF(i:Nat)(F:Fs γ κ ces)(e:AV):Pr (YE γ κ e (.call i ces)):=
 match e with
 |.Call (.Name x _) [] [] _=>match F with
  |.nil=>an (ask (glB κ x=AB)) λhg=>an (gFn γ x i) λhf=>ok λm S X G=>by
   let⟨f,fd,ps,h1,h2,h3,h4⟩:=G.glo.F x i hf;exact zjV h1 (G.room.mono (Cm m)) (zau G hg) h2 h3 h4 (zcQ (zbN hg))
  |_=>AD
 |.Call (.Name x _) (a::es) kws _=>an (ask (glB κ x=AB/\nst a=AB/\ybT es=AB)) λhg=>
  match hx:γ.g x with
  |some (.fn j)=>match kws with
   |[]=>an (ask (j=i)) λhj=>an (ya2 F (a::es)) λha=>ok λm S X G=>by
    subst hj;let⟨f,fd,ps,h1,h2,h3,h4⟩:=G.glo.F x j hx;exact zmB h1 (G.room.mono (Cm m)) (zau G hg.1) h2 h3 h4 (ha m S X G) (zcQ (zbN hg.1)) (zaZ hg.2.1) (stars hg.2.2)
   |_=>AD
  |some (.fnD j)=>match hk:γ.kb j (es.length+1) (kwN kws)with
   |none=>AD
   |some sh=>match ycm (es.length+1) F with
    |none=>AD
    |some s=>match ybW sh s.f2 kws with
     |none=>AD
     |some q=>an (ask (kwB kws=AB/\j=i)) λhw=>an (ya2 s.f1 (a::es)) λha=>ok λm S X G=>by
      let⟨hw,rfl⟩:=hw;let⟨f,fd,ps,h1,h2,h3,h4⟩:=G.glo.Q x j _ _ sh hx hk;rw[<-s.h,<-q.h];rw[<-q.s]at h4;have w:=λ{pos}=>zos (pos:=pos) (env:=X.env) hw;exact zjZ h1 (G.room.mono (Cm m)) (zau G hg.1) h2 h3 h4 s.l (ha m S X G) (q.k m S X G) w.1 w.2.1 (zcQ (zbN hg.1)) (zaZ hg.2.1) (by
       rw[w.2.2,Gy];exact stars (es:=a::es) (by erw[ybT,Bc,hg.2.1,DB];exact hg.2.2))
  |_=>AD
 |_=>AD
abbrev ydZ(b:Blt)(x:AQ):Prop:=∀S X,X.calm=AB->(∃id,yad X (.builtin id) (rB S X b)/\bootBuiltins x=AA (.builtin id)) \/ ∃T,yad X (.type T) (rB S X b)/\bootBuiltins x=AA (.type T)
def ygY(b:Blt)(x:AQ):Pr (ydZ b x):=
 match b with
 |.len=>an (ask (x="len")) λh=>ok λ_ _ _=>.inl ⟨_,zmY,h ▸ zoz⟩
 |.int=>an (ask (x="int")) λh=>ok λ_ _ _=>.inr ⟨_,zoU,h ▸ zkG⟩
 |.abs=>an (ask (x="abs")) λh=>ok λ_ _ _=>.inl ⟨_,znX,h ▸ znx⟩
 |.min=>an (ask (x="min")) λh=>ok λ_ _ c=>.inl ⟨_,zog c,h ▸ znC⟩
 |.max=>an (ask (x="max")) λh=>ok λ_ _ c=>.inl ⟨_,zok c,h ▸ znc⟩
 |.tuple=>an (ask (x="tuple")) λh=>ok λ_ _ _=>.inr ⟨_,zj6,h ▸ zgn⟩
 |.all=>an (ask (x="all")) λh=>ok λ_ _ c=>.inl ⟨_,zni c,h ▸ zn5⟩
 |.any=>an (ask (x="any")) λh=>ok λ_ _ c=>.inl ⟨_,zol c,h ▸ zpo⟩
 |_=>AD
def yf1(b:Blt)(F:Fs γ κ ces)(e:AV):Pr (YE γ κ e (.blt b ces)):=
 match e with
 |.Call (.Name x _) (a::es) [] _=>an (ask (glB κ x=AB/\nst a=AB/\ybT es=AB/\γ.b x=AB)) λhg=>an (ygY b x) λhb=>an (ya2 F (a::es)) λha=>ok λm S X G=>by
  rcases hb S X G.calm with⟨id,h1,h2⟩|⟨T,h1,h2⟩
  .exact zop h1 (zau G hg.1) (G.glo.B x hg.2.2.2) h2 (ha m S X G) (zqe (zbN hg.1)) (zcQ (zbN hg.1)) (zaZ hg.2.1) (stars hg.2.2.1)
  .exact zlf h1 (zau G hg.1) (G.glo.B x hg.2.2.2) h2 (ha m S X G) (zqe (zbN hg.1)) (zcQ (zbN hg.1)) (zaZ hg.2.1) (stars hg.2.2.1)
 |_=>AD
def ygt(b:Blt)(F:Fs γ κ ces)(e:AV):Pr (YE γ κ e (.blt b ces)):=
 match b with
 |b=>yf1 b F e
def tyB(t:Ty)(x:AQ):Pr (ydi t=AB/\bootBuiltins x=AA (.type (tyN t))):=
 match t with
 |.int=>an (ask (x="int")) λh=>ok ⟨rfl,h ▸ zkG⟩
 |.bool=>an (ask (x="bool")) λh=>ok ⟨rfl,h ▸ zl9⟩
 |.str=>an (ask (x="str")) λh=>ok ⟨rfl,h ▸ zn4⟩
 |.tuple=>an (ask (x="tuple")) λh=>ok ⟨rfl,h ▸ zgn⟩
 |_=>AD
def ygc(ts:List Ty)(e:AV)(fa:∀x,Pr (YE γ κ x ca)):Pr (YE γ κ e (.isi ca ts)):=
 match ts,e with
 |[t],.Call (.Name n _) [a,.Name x _] [] _=>an (ask (n="isinstance"/\glB κ n=AB/\γ.b n=AB/\glB κ x=AB/\γ.b x=AB/\γ.t t=AB/\nst a=AB)) λh=>an (tyB t x) λht=>an (fa a) λha=>ok λm S X G=>by
  let⟨rfl,h1,h2,h3,h4,h5,h6⟩:=h;exact znu (G.glo.T t h5) ht.1 (zau G h1) (G.glo.B _ h2) (zau G h3) (G.glo.B _ h4) ht.2 (ha m S X G) (zqe (zbN h3)) (zcQ (zbN h3)) (zaZ h6) rfl
 |_,_=>AD
mutual
noncomputable def yd7:(a b:PV)->Pr (a=b)
 |.non,.non=>ok rfl
 |.bl a,.bl b=>an (ask (a=b)) λh=>ok (by rw[h])
 |.int a,.int b=>an (ask (a=b)) λh=>ok (by rw[h])
 |.str a,.str b=>an (ask (a=b)) λh=>ok (by rw[h])
 |.tp k a,.tp j b=>an (ask (k=j)) λh=>an (ycD a b) λg=>ok (by rw[h,g])
 |.lst a,.lst b=>an (ycD a b) λg=>ok (by rw[g])
 |_,_=>AD
noncomputable def ycD:(a b:List PV)->Pr (a=b)
 |[],[]=>ok rfl
 |a::x,b::y=>an (yd7 a b) λh=>an (ycD x y) λg=>ok (by rw[h,g])
 |_,_=>AD
end
def eqD:(a b:List (AQ×PV))->Pr (a=b)
 |[],[]=>ok rfl
 |(k,a)::x,(j,b)::y=>an (ask (k=j)) λe=>an (yd7 a b) λh=>an (eqD x y) λg=>ok (by rw[e,h,g])
 |_,_=>AD
def yfz(v:PV)(e:AV):Pr (YE γ κ e (.cst v)):=
 match e with
 |.Name x _=>match h:γ.g x with
  |some (.cst u)=>an (ask (glB κ x=AB)) λhg=>an (yd7 u v) λhv=>ok λm S X G=>by
   subst hv;rcases G.glo.C x u h with q|⟨i,rfl,q⟩
   .exact zp6 (zau G hg) q (zcQ (zbN hg))
   .exact zne (zau G hg) q (zcQ (zbN hg))
  |_=>AD
 |e=>yfl v e
def yfB(D:List (AQ×PV))(e:AV)(fb:∀x,Pr (YE γ κ x cb)):Pr (YE γ κ e (.dix D cb)):=
 match e with
 |.Subscript (.Name x _) b _=>match h:γ.g x with
  |some (.dct E)=>an (ask (glB κ x=AB/\nsl b=AB)) λhg=>an (eqD E D) λhv=>an (fb b) λhb=>ok λm S X G=>by
   subst hv;exact zna (zau G hg.1) (G.glo.D x E h) (hb m S X G) (nos hg.2) (zcQ (zbN hg.1))
  |_=>AD
 |_=>AD
def yfU(D:List (AQ×PV))(e:AV)(fa:∀x,Pr (YE γ κ x ca)):Pr (YE γ κ e (.din ca D)):=
 match e with
 |.Compare a [.In] [.Name x _] _=>match h:γ.g x with
  |some (.dct E)=>an (ask (glB κ x=AB)) λhg=>an (eqD E D) λhv=>an (fa a) λha=>ok λm S X G=>by
   subst hv;exact zn0 (zau G hg) (G.glo.D x E h) (ha m S X G) rfl (zcQ (zbN hg))
  |_=>AD
 |_=>AD
def zqk{pos:CV}{env:B0}:∀{es:List AV},ybT es=AB->((backTo pos (starEach es env)).all λx=>!x.1)=AB
 |[],_=>rfl
 |a::es,h=>by
  erw[ybT,Bc,AK]at h;have:=zqk (pos:=pos) (env:=env) (es:=es) h.2;erw[backTo]at this ⊢;rw[zaZ h.1,AL,Bc,this];rfl
def zkY{o:AV}{n:AQ}{ap pos:CV}{es:List AV}{env:B0}(hb:nca o=AB)(hs:ybT es=AB)(hn:es.length<30)(hl:(ap.endLine==pos.line)=AB):
  eval (.Call (.Attribute o n ap) es [] pos) env=(do
   let ov <-eval o env
   standAt ap.atName
   let (f,first) <-holding [ov] (getMethod ov n (do return (<-importBound o env).getD AB))
   callWith pos f first (backTo pos (starEach es env)) (backToKw pos (keywordEach [] env))):=by
 have hf:methodCallForm (es.length+([]:List C4).length) (backTo pos (starEach es env)) (backToKw pos (keywordEach [] env))=true:=by
  erw[methodCallForm,zqk hs,DB];simp[backToKw,keywordEach,hn]
 rw[arm_eval_Call,zmr hb];erw[methodCall,calleeOf,methodCallPos,hf,hl,if_true,Ff,HM,pure_bind]
def ygn(c:Nat)(f:AQ)(e:AV)(fa:∀x,Pr (YE γ κ x ca)):Pr (YE γ κ e (.fld c ca f)):=
 match e with
 |.Attribute a g _=>an (ask (g=f/\γ.fl c f=AB/\nca a=AB)) λh=>an (fa a) λha=>ok λm S X G=>by
  let⟨rfl,h1,h2⟩:=h;exact zm4 (G.glo.A c g h1).1 (G.glo.A c g h1).2 (ha m S X G) (zmr h2)
 |_=>AD
def yfY(c i:Nat)(F:Fs γ κ ces)(e:AV):Pr (YE γ κ e (.new c i ces)):=
 match e with
 |.Call (.Name x _) (a::es) [] _=>match h:γ.g x with
  |some (.cls c' i')=>an (ask (c'=c/\i'=i/\glB κ x=AB/\nst a=AB/\ybT es=AB)) λhg=>an (ya2 F (a::es)) λha=>ok λm S X G=>by
   let⟨rfl,rfl,h1,h2,h3⟩:=hg;let⟨q,f,fd,ps,q1,q2,q3⟩:=G.glo.N x c' i' h;exact zo8 q1 q2 G.room (zau G h1) q q3 (ha m S X G) (zcQ (zbN h1)) (zaZ h2) (stars h3)
  |_=>AD
 |_=>AD
def yf0(c i:Nat)(n:AQ)(F:Fs γ κ ces)(e:AV)(fa:∀x,Pr (YE γ κ x ca)):Pr (YE γ κ e (.mcl c i n ca ces)):=
 match e with
 |.Call (.Attribute (.Name x p) n' ap) [] [] pos=>match F with
  |.nil=>an (ask (n'=n/\γ.me c n=AA i/\(ap.endLine==pos.line)=AB)) λh=>an (fa (.Name x p)) λho=>ok λm S X G=>by
   let⟨rfl,h1,h4⟩:=h;let⟨q,f,fd,ps,q1,q2,q3⟩:=G.glo.M c n' i h1;exact zl3 q q1 q2 (G.room.mono (Cm m)) q3 (ho m S X G) (zkY rfl rfl (Nat.zero_lt_succ _) h4)
  |_=>AD
 |.Call (.Attribute (.Name x p) n' ap) (a::es) [] pos=>an (ask (n'=n/\γ.me c n=AA i/\nst a=AB/\ybT es=AB/\(ap.endLine==pos.line)=AB/\(a::es).length<30)) λh=>an (fa (.Name x p)) λho=>an (ya2 F (a::es)) λha=>ok λm S X G=>by
  let⟨rfl,h1,h2,h3,h4,h5⟩:=h;let⟨q,f,fd,ps,q1,q2,q3⟩:=G.glo.M c n' i h1;exact zpi q q1 q2 (G.room.mono (Cm m)) q3 (ho m S X G) (ha m S X G) (zaZ h2) (stars h3) (zkY rfl (by erw[ybT,Bc,h2,DB];exact h3) h5 h4)
 |_=>AD
def zqM{pos:CV}{env:B0}{b:AV}(h:nst b=AB):((backTo pos (starEach [b] env)).all (λx=>!x.1)&&(backToKw pos (keywordEach [] env)).all (λx=>x.1.isSome)&&decide (([b]:List AV).length+([]:List C4).length+(if ([]:List C4).isEmpty then 0 else 1)<30))=true:=by
 rw[zaZ h];rfl
def yfu(k:Mth)(F:Fs γ κ ces)(e:AV)(fa:∀x,Pr (YE γ κ x ca)):Pr (YE γ κ e (.mth k ca ces)):=
 match k,e,F with
 |.append,.Call (.Attribute a n ap) [b] [] pos,.cons fb .nil=>an (ask (n="append"/\nca a=AB/\nst b=AB/\(ap.endLine==pos.line)=AB)) λh=>an (fa a) λha=>an (fb b) λhb=>ok λm S X G=>by
  let⟨rfl,h1,h2,h3⟩:=h;exact zis (ha m S X G) (hb m S X G) (zaZ h2) (zmr h1) h3 (zqM h2)
 |.get,.Call (.Attribute a n ap) [b,c] [] pos,.cons fb (.cons fc .nil)=>an (ask (n="get"/\nca a=AB/\nst b=AB/\nst c=AB/\(ap.endLine==pos.line)=AB)) λh=>an (fa a) λha=>an (fb b) λhb=>an (fc c) λhc=>ok λm S X G=>by
  let⟨rfl,h1,h2,h4,h3⟩:=h;exact zoI (zll G.room) (ha m S X G) (hb m S X G) (hc m S X G) ⟨zmr h1,by rw[zaZ h2,zaZ h4];rfl,h3,by rw[zaZ h2,zaZ h4];rfl⟩
 |_,_,_=>AD
end
structure Ev(γ:Gs)(c:Ce) where
 e:∀κ x,Pr (YE γ κ x c)
 t:∀κ x,Pr (YT γ κ x c)
 w:∀κ op l pos,Pr (YW γ κ (.BoolOp op l pos) c)
section
variable {γ:Gs}{ca cb cc:Ce}
def w1{c:Ce}(t:∀κ x,Pr (YT γ κ x c))(κ:Kx)(op:HK)(l:List AV)(pos:CV):Pr (YW γ κ (.BoolOp op l pos) c):=
 match op,l with
 |.And,[a]=>an (t κ a) λh=>ok λm S X G=>zld (h m S X G)
 |.Or,[a]=>an (t κ a) λh=>ok λm S X G=>zpg (h m S X G)
 |_,_=>AD
def plT{c:Ce}(e:∀κ x,Pr (YE γ κ x c))(κ:Kx)(x:AV):Pr (YT γ κ x c):=an (ask (nte x=AB)) λh=>an (e κ x) λhe=>ok λm S X G=>zob (he m S X G) (itr h)
def plain{c:Ce}(e:∀κ x,Pr (YE γ κ x c)):Ev γ c:=⟨e,plT e,w1 (plT e)⟩
def ycH{c:Ce}(e:∀κ x,Pr (YE γ κ x c))(t:∀κ x,Pr (YT γ κ x c)):Ev γ c:=⟨e,t,w1 t⟩
def ygh(A:Ev γ ca)(κ:Kx)(e:AV):Pr (YT γ κ e (.not ca)):=
 match e with
 |.UnaryOp .Not a _=>an (A.t κ a) λh=>ok λm S X G=>zmW (h m S X G)
 |_=>AD
def yfX(A:Ev γ ca)(B:Ev γ cb)(κ:Kx)(e:AV):Pr (YE γ κ e (.and ca cb)):=
 match e with
 |.BoolOp .And (a::b::[]) _=>an (A.e κ a) λha=>an (B.e κ b) λhb=>ok λm S X G=>zkS (ha m S X G) (zkU (hb m S X G))
 |.BoolOp .And (a::b::c::r) p=>an (A.e κ a) λha=>an (B.e κ (.BoolOp .And (b::c::r) p)) λhb=>ok λm S X G=>zkS (ha m S X G) (hb m S X G)
 |_=>AD
def orE(A:Ev γ ca)(B:Ev γ cb)(κ:Kx)(e:AV):Pr (YE γ κ e (.or ca cb)):=
 match e with
 |.BoolOp .Or (a::b::[]) _=>an (A.e κ a) λha=>an (B.e κ b) λhb=>ok λm S X G=>zoj (ha m S X G) (zkU (hb m S X G))
 |.BoolOp .Or (a::b::c::r) p=>an (A.e κ a) λha=>an (B.e κ (.BoolOp .Or (b::c::r) p)) λhb=>ok λm S X G=>zoj (ha m S X G) (hb m S X G)
 |_=>AD
def yeG(A:Ev γ ca)(B:Ev γ cb)(κ:Kx)(op:HK)(l:List AV)(pos:CV):Pr (YW γ κ (.BoolOp op l pos) (.and ca cb)):=
 match op,l with
 |.And,a::b::r=>an (A.t κ a) λha=>an (B.w κ .And (b::r) pos) λhb=>ok λm S X G=>zon (ha m S X G) (hb m S X G)
 |_,_=>AD
def orW(A:Ev γ ca)(B:Ev γ cb)(κ:Kx)(op:HK)(l:List AV)(pos:CV):Pr (YW γ κ (.BoolOp op l pos) (.or ca cb)):=
 match op,l with
 |.Or,a::b::r=>an (A.t κ a) λha=>an (B.w κ .Or (b::r) pos) λhb=>ok λm S X G=>zpw (ha m S X G) (hb m S X G)
 |_,_=>AD
def ptW{c:Ce}(w:∀κ op l pos,Pr (YW γ κ (.BoolOp op l pos) c))(κ:Kx)(e:AV):Pr (YT γ κ e c):=
 match e with
 |.BoolOp op l p=>an (w κ op l p) λh=>ok λm S X G=>PW.pt (h m S X G)
 |_=>AD
def ye4{c:Ce}(t:∀κ x,Pr (YT γ κ x c))(w:∀κ op l pos,Pr (YW γ κ (.BoolOp op l pos) c))(κ:Kx)(op:HK)(l:List AV)(pos:CV):Pr (YW γ κ (.BoolOp op l pos) c):=
 match l with
 |[a]=>w1 t κ op [a] pos
 |l=>w κ op l pos
def yeX(A:Ev γ ca)(B:Ev γ cb):Ev γ (.and ca cb):=⟨yfX A B,ptW (yeG A B),ye4 (ptW (yeG A B)) (yeG A B)⟩
def ygw(A:Ev γ ca)(B:Ev γ cb):Ev γ (.or ca cb):=⟨orE A B,ptW (orW A B),ye4 (ptW (orW A B)) (orW A B)⟩
end
abbrev YI(γ:Gs)(κ:Kx)(tg l:AV)(c:Cit):Prop:=∀m S X,Good γ κ m S X->PI X tg l (tI S X c)
abbrev YG(γ:Gs)(κ:Kx)(tg:AV)(c:Tg):Prop:=∀m S X,Good γ κ m S X->PG X tg (tG S X c)
section
variable {γ:Gs}{κ:Kx}{ca cb cc ce:Ce}{ci:Cit}
def ygq(e:∀x,Pr (YE γ κ x ca))(tg l:AV):Pr (YI γ κ tg l (.seq ca)):=an (e l) λh=>ok λm S X G=>zoE (h m S X G)
def iR1(fa:∀x,Pr (YE γ κ x ca))(tg l:AV):Pr (YI γ κ tg l (.range1 ca)):=
 match l with
 |.Call (.Name x _) [a] [] _=>an (ask (x="range"/\glB κ x=AB/\γ.b x=AB/\nst a=AB)) λh=>an (fa a) λha=>ok λm S X G=>by
  let⟨rfl,h1,h2,h3⟩:=h;exact ziV (zau G h1) (G.glo.B _ h2) (ha m S X G) (zaZ h3)
 |_=>AD
def yeS(fa:∀x,Pr (YE γ κ x ca))(tg l:AV):Pr (YI γ κ tg l (.enum ca)):=
 match tg,l with
 |.Tuple _ _ _,.Call (.Name x _) [a] [] _=>an (ask (x="enumerate"/\glB κ x=AB/\γ.b x=AB/\nst a=AB)) λh=>an (fa a) λha=>ok λm S X G=>by
  let⟨rfl,h1,h2,h3⟩:=h;exact zlN (zau G h1) (G.glo.B _ h2) (ha m S X G) (zaZ h3)
 |_,_=>AD
def yg9(fa:∀x,Pr (YE γ κ x ca))(fb:∀x,Pr (YE γ κ x cb))(tg l:AV):Pr (YI γ κ tg l (.zip ca cb)):=
 match tg,l with
 |.Tuple _ _ _,.Call (.Name x _) [a,b] [] _=>an (ask (x="zip"/\glB κ x=AB/\γ.b x=AB/\nst a=AB/\nst b=AB)) λh=>an (fa a) λha=>an (fb b) λhb=>ok λm S X G=>by
  let⟨rfl,h1,h2,h3,h4⟩:=h;exact znz (zau G h1) (G.glo.B _ h2) (ha m S X G) (hb m S X G) (by rw[zaZ h3,zaZ h4];rfl) (zaZ h4)
 |_,_=>AD
def gNm(κ:Kx):(l:List Nat)->(es:List AV)->Pr (∀m S X,Good γ κ m S X->PGs X es (gNs l)/\(assignEach es X.env).length=l.length/\(assignEach es X.env).findIdx? (·.1)=AD)
 |[],[]=>ok λ_ _ _ _=>⟨zlH,rfl,rfl⟩
 |i::l,.Name x _::es=>an (ask (setB κ i x=AB)) λh=>an (gNm κ l es) λhr=>ok λm S X G=>by
  have s:=zbb G h;let⟨h1,h2,h3⟩:=hr m S X G;refine⟨zjs s.d s.i s.l h1 s.f,?_,?_⟩
  .simp only[assignEach,AS,h2]
  .simp only[assignEach,List.findIdx?_cons,h3];rfl
 |_,_=>AD
def mTg(ct:Tg)(tg:AV):Pr (YG γ κ tg ct):=
 match ct,tg with
 |.n i,.Name x _=>an (ask (setB κ i x=AB)) λh=>ok λm S X G=>let s:=zbb G h;zmf s.d s.i s.l s.f
 |.t l,.Tuple es _ _=>an (gNm κ l es) λh=>ok λm S X G=>zpe G.calm (h m S X G).1 (h m S X G).2.1 (h m S X G).2.2
 |_,_=>AD
def tgN:AV->List AQ
 |.Name x _=>[x]
 |.Tuple es _ _=>es.filterMap fun
  |.Name x _=>AA x
  |_=>AD
 |_=>[]
def yc6(N:List AQ)(sl:List (Option Nat))(tg:AV):List Str:=tgN tg++(sl.drop (tgN tg).length).filterMap λo=>o.bind λj=>N[j]?
def ycd(sc so:Bn):Scope:={sc with names:=sc.names.map λ(n,k)=>if (k==Ch&&so.kind==.function&&so.names.lookup n==AA .cell)then(n,Fa)else(n,k)}
def yal(N:List AQ)(so sc:Bn)(NC:List AQ)(sl:List (Option Nat)):Bool:=
 decide (sc.kind=.function)&&(sc.names.all λy=>y.2 != .local || decide (sc.names.lookup y.1=AA .local))&&(sc.names.all λy=>y.2 != .cell)&&(sc.names.all λy=>y.2 != .free || decide (so.names.lookup y.1=AA .cell)) &&
  ((NC.zip sl).all λp=>p.2.all λj=>decide (N[j]?=AA p.1/\sc.names.lookup p.1=AA .free))&&decide (sl.length=NC.length)
def zkr{X:Cx}{sc:Bn}{NC:List AQ}{sl:List (Option Nat)}(h:yal X.N X.env.scope sc NC sl=AB):yap X sc NC sl:=by
 erw[yal,AK,decide_eq_true_eq,Bl,DE,bne_iff_ne,ne_eq]at h;let⟨⟨⟨⟨⟨h1,h2⟩,h3⟩,h4⟩,h5⟩,h6⟩:=h;exact zqG _ _ rfl rfl h1 (λy hy e=>(h2 y hy).resolve_left λz=>z e) h3 (λy hy e=>(h4 y hy).resolve_left λz=>z e) (λp hp=>by simpa using h5 p hp) h6
theorem Good.comp{m:Nat}{S:Se}{X:Cx}(G:Good γ κ m S X)(sc:Bn)(NC:List AQ)(j:CI):Good γ ⟨NC,ycd sc κ.sc,AC⟩ m S (cxC X sc NC j):=by
 refine⟨rfl,?_,G.calm,G.room,(λh=>nomatch h),⟨G.glo.F,G.glo.Q,G.glo.C,G.glo.D,G.glo.E,G.glo.N,G.glo.B,G.glo.T,G.glo.A,G.glo.M,λy D h=>let ⟨fa,fdd,ps,M,d⟩:=G.glo.K y D h;⟨fa,fdd,ps,⟨M.F,M.kp,M.b⟩,d⟩⟩⟩;show relabel sc X.env=_;rw[<-G.sc];rfl
def ygg(c:Ce)(f:∀x,Pr (YT γ κ x c))(ifs:List AV):Pr (∀m S X,Good γ κ m S X->PTs X ifs (tT0 S X.K c)):=
 match ifs with
 |[]=>match c with
  |.cst (.bl AB)=>ok λ_ _ _ _=>zke
  |_=>AD
 |[a]=>an (f a) λh=>ok λm S X G=>zlu rfl (h m S X G)
 |_=>AD
structure ycL(γ:Gs)(κ:Kx)(sl:List (Option Nat))(ct:Tg)(ci:Cit)(cc ce:Ce)(elt tg it:AV)(ifs:List AV)(sc:Bn):Prop where
 q:∀m S X,Good γ κ m S X->∃NC,yap X sc NC sl/\PI X tg it (tI S X ci)/\(∀j,PG (cxC X sc NC j) tg (tG0 S X.K ct))/\(∀j,PTs (cxC X sc NC j) ifs (tT0 S X.K cc))/\∀j,PE (cxC X sc NC j) elt (tE0 S X.K ce)
 f:yaD ct sl=AB
 s:nse it=AB
def mCo(sl:List (Option Nat))(ct:Tg)(fi:∀tg l,Pr (YI γ κ tg l ci))(C:Ev γ cc)(E:Ev γ ce)(elt tg it:AV)(ifs:List AV)(sc:Bn):Pr (ycL γ κ sl ct ci cc ce elt tg it ifs sc):=
 an (ask (yal κ.N κ.sc sc (yc6 κ.N sl tg) sl=AB/\yaD ct sl=AB/\nse it=AB)) λh=>an (fi tg it) λhi=>an (mTg (γ:=γ) (κ:=⟨yc6 κ.N sl tg,ycd sc κ.sc,AC⟩) ct tg) λhg=>
  an (ygg (γ:=γ) (κ:=⟨yc6 κ.N sl tg,ycd sc κ.sc,AC⟩) cc (C.t _) ifs) λht=>an (E.e ⟨yc6 κ.N sl tg,ycd sc κ.sc,AC⟩ elt) λhe=>ok ⟨λm S X G=>⟨yc6 κ.N sl tg,by
   rw[<-G.n,<-G.sc]at h;rw[<-G.n];exact zkr h.1,hi m S X G,λj=>zlw rfl (hg m S _ (G.comp sc _ j)),λj=>ht m S _ (G.comp sc _ j),λj=>zlJ rfl (he m S _ (G.comp sc _ j))⟩,h.2.1,h.2.2⟩
def yeJ(sl:List (Option Nat))(ct:Tg)(fi:∀tg l,Pr (YI γ κ tg l ci))(C:Ev γ cc)(E:Ev γ ce)(e:AV):Pr (YE γ κ e (.comp sl ct ci cc ce)):=
 match e with
 |.ListComp elt [⟨tg,it,ifs,0⟩] sc _=>an (mCo sl ct fi C E elt tg it ifs sc) λh=>ok λm S X G=>by
  let⟨NC,h1,h2,h3,h4,h5⟩:=h.q m S X G;exact zlI G.calm h1 h.f h2 h3 h4 h5 (fse h.s)
 |_=>AD
end
section
variable {γ:Gs}{κ:Kx}
end
mutual
noncomputable def ch(γ:Gs):(c:Ce)->Ev γ c
 |.cst v=>plain λκ x=>yfz v x
 |.var i=>plain λκ x=>yff i x
 |.bin o a b=>plain λκ x=>yg8 o x ((ch γ a).e κ) ((ch γ b).e κ)
 |.neg a=>plain λκ x=>yf8 x ((ch γ a).e κ)
 |.not a=>ycH (λκ x=>ygG x ((ch γ a).e κ)) (ygh (ch γ a))
 |.and a b=>yeX (ch γ a) (ch γ b)
 |.or a b=>ygw (ch γ a) (ch γ b)
 |.cmp o a b=>ycH (λκ x=>yfG o x ((ch γ a).e κ) ((ch γ b).e κ)) (λκ x=>yeC o x ((ch γ a).e κ) ((ch γ b).e κ))
 |.chain o p a b c=>ycH (λκ x=>yf3 o p x ((ch γ a).e κ) ((ch γ b).e κ) ((ch γ c).e κ)) (λκ x=>yeu o p x ((ch γ a).e κ) ((ch γ b).e κ) ((ch γ c).e κ))
 |.ite c a b=>plain λκ x=>ygE x ((ch γ c).t κ) ((ch γ a).e κ) ((ch γ b).e κ)
 |.tup es=>plain λκ x=>yfI x (ya2 (chs γ es κ))
 |.lst es=>plain λκ x=>yfQ x (ya2 (chs γ es κ))
 |.newl es=>plain λκ x=>yer x (ya2 (chs γ es κ))
 |.dict0 t=>plain λκ x=>yeF t x
 |.idx a i=>plain λκ x=>mIdx x ((ch γ a).e κ) ((ch γ i).e κ)
 |.slc a l h=>plain λκ x=>yfZ x ((ch γ a).e κ) (λo=>yfe l o ((ch γ l).e κ)) (λo=>yfe h o ((ch γ h).e κ))
 |.call f es=>plain λκ x=>ygF f (chs γ es κ) x
 |.blt b es=>plain λκ x=>ygt b (chs γ es κ) x
 |.mth k o es=>plain λκ x=>yfu k (chs γ es κ) x ((ch γ o).e κ)
 |.isi a ts=>plain λκ x=>ygc ts x ((ch γ a).e κ)
 |.comp sl tg it c e=>plain λκ x=>yeJ sl tg (chi γ it κ) (ch γ c) (ch γ e) x
 |.frz a=>plain λκ x=>an ((ch γ a).e κ x) λh=>ok λm S X G=>zn6 (h m S X G)
 |.nope=>plain λκ x=>ok λ_ _ _ _=>zms
 |.dix D a=>plain λκ x=>yfB D x ((ch γ a).e κ)
 |.din a D=>plain λκ x=>yfU D x ((ch γ a).e κ)
 |.fld c a f=>plain λκ x=>ygn c f x ((ch γ a).e κ)
 |.new c i es=>plain λκ x=>yfY c i (chs γ es κ) x
 |.mcl c i n o es=>plain λκ x=>yf0 c i n (chs γ es κ) x ((ch γ o).e κ)
noncomputable def chs(γ:Gs):(cs:Ces)->(κ:Kx)->Fs γ κ cs
 |.nil,_=>.nil
 |.cons c cs,κ=>.cons (λx=>(ch γ c).e κ x) (chs γ cs κ)
noncomputable def chi(γ:Gs):(c:Cit)->(κ:Kx)->∀tg l,Pr (YI γ κ tg l c)
 |.seq a,κ=>ygq ((ch γ a).e κ)
 |.range1 a,κ=>iR1 ((ch γ a).e κ)
 |.enum a,κ=>yeS ((ch γ a).e κ)
 |.zip a b,κ=>yg9 ((ch γ a).e κ) ((ch γ b).e κ)
 |_,_=>λ_ _=>AD
end
section
variable {γ:Gs}{κ:Kx}{ca cb cc ce:Ce}{ci:Cit}{ct:Tg}{cs cs':Css}{ces:Ces}
def yeK(f:∀x,Pr (YE γ κ x ca))(s:Bz):Pr (YS γ κ s (.expr ca)):=
 match s with
 |.Expr a _=>an (ask (nco a=AB)) λhs=>an (f a) λh=>ok λm S X G=>zmu (h m S X G) (swp hs)
 |_=>AD
def yft(i:Nat)(f:∀x,Pr (YE γ κ x ca))(s:Bz):Pr (YS γ κ s (.asg (.n i) ca)):=
 match s with
 |.Assign [.Name x _] a _=>an (ask (nco a=AB/\setB κ i x=AB)) λhs=>an (f a) λh=>ok λm S X G=>let q:=zbb G hs.2;zom q.d q.i q.l (h m S X G) (swp hs.1) q.f
 |_=>AD
def zql{a:AV}(h:nst a=AB):(match (generalizing:=false) a with | .Starred _ _=>AB|_=>AC)=false:=by
 revert h;cases a<;>intro h<;>first|rfl|cases h
def swD(so:Bn)(x y:AQ)(px py:CV)(a b:AV):Bool:=(if so.kind.isAnnotationScope then Fq else so.kind)==.function&&so.names.lookup x==AA .local&&so.names.lookup y==AA .local&&py.line==px.line&&nst a&&nst b&&!(x==y)&&!(foldedForSure 8 a&&foldedForSure 8 b)&&!(constantsAlone 8 a&&constantsAlone 8 b)
def zqN{x y:AQ}{px py pt pt2:CV}{kt k2:Nat}{a b:AV}{env:B0}(h:swD env.scope x y px py a b=AB):
  swappedStores [.Tuple [.Name x px,.Name y py] kt pt] (.Tuple [a,b] k2 pt2) env=pure (AA [x,y]):=by
 erw[swD,AK,Ck]at h;let⟨⟨⟨⟨⟨⟨⟨⟨h1,h2⟩,h3⟩,h4⟩,h5⟩,h6⟩,h7⟩,h8⟩,h9⟩:=h;have k1:(env.blockKind != .function)=false:=by
  show (!((if env.scope.kind.isAnnotationScope then Fq else env.scope.kind)==.function))=AC;rw[h1];rfl
 have k2:env.kindOf x=AA .local:=eq_of_beq h2;have k3:env.kindOf y=AA .local:=eq_of_beq h3;have k4:py.line=px.line:=eq_of_beq h4;have k7:¬y=x:=λz=>by subst z;simp at h7
 have m1:=zql h5;have m2:=zql h6;have c8:¬(foldedForSure 8 a=AB/\foldedForSure 8 b=AB):=λz=>by rw[z.1,z.2]at h8;cases h8
 have c9:¬(constantsAlone 8 a=AB/\constantsAlone 8 b=AB):=λz=>by rw[z.1,z.2]at h9;cases h9
 have x1:(Expr.Name x px).pos=px:=rfl;have x2:(Expr.Name y py).pos=py:=rfl;unfold swappedStores;simp[k1,m1,m2,k2,k3,k4,List.eraseDups_cons,k7,x1,x2,c8,c9,C3];intro z;exfalso;rcases z with z|z
 .exact BC (m1.symm.trans z)
 .exact BC (m2.symm.trans z)
def ygR(i j:Nat)(fa:∀x,Pr (YE γ κ x ca))(fb:∀x,Pr (YE γ κ x cb))(s:Bz):Pr (YS γ κ s (.asg (.t [i,j]) (.tup (.cons ca (.cons cb .nil))))):=
 match s with
 |.Assign [.Tuple [.Name x px,.Name y py] _ _] (.Tuple [a,b] _ _) _=>an (ask (setB κ i x=AB/\setB κ j y=AB/\i≠j/\swD κ.sc x y px py a b=AB)) λh=>an (fa a) λha=>an (fb b) λhb=>ok λm S X G=>by
  let⟨h1,h2,h3,h4⟩:=h;have q:=zbb G h1;have r:=zbb G h2;have h5:=h4;erw[swD,AK]at h5;have e1:X.env.scope.names.lookup x=AA .local:=by rw[G.sc];exact eq_of_beq h5.1.1.1.1.1.1.1.2
  have e2:X.env.scope.names.lookup y=AA .local:=by rw[G.sc];exact eq_of_beq h5.1.1.1.1.1.1.2
  exact zpp G.calm q.d q.i r.i h3 (znp G.calm q.d q.i r.i h3 e1 e2 (zeR (ha m S X G) (zeR (hb m S X G) zhX (zaZ h5.1.1.1.2)) (zaZ h5.1.1.1.1.2)) (zqN (by rw[G.sc];exact h4)))
 |_=>AD
theorem sw0{es:List AV}{k:Nat}{p:CV}{a:AV}{env:B0}(h:ntu a=AB):swappedStores [.Tuple es k p] a env=pure none:=by
 cases a<;>first|rfl|cases h
theorem sw1{b c:AV}{p:CV}{a:AV}{env:B0}:swappedStores [.Subscript b c p] a env=pure none:=by
 cases a<;>rfl
def zqm{t a:AV}{l:Nat}{env:B0}(h:nco a=AB):swapsWithSole [t] a l env=pure false:=by
 show swapsWith a (AA t) l env=_;exact swp h
theorem asS{b c:AV}{pos:CV}{env:B0}(h:nsl c=AB):∀v,assign (.Subscript b c pos) env v=(do
   let ov <-holding [v] (eval b env)
   let iv <-holding [v,ov] (eval c env)
   standAt pos
   holding [v,ov,iv] (setItem ov iv v)
   release [v,ov,iv] []):=by
 cases c<;>first|exact λ_=>rfl|cases h
def yfA(l:List Nat)(f:∀x,Pr (YE γ κ x ca))(s:Bz):Pr (YS γ κ s (.asg (.t l) ca)):=
 match s with
 |.Assign [.Tuple es k p] a _=>an (ask (nco a=AB/\ntu a=AB)) λhs=>an (mTg (γ:=γ) (κ:=κ) (.t l) (.Tuple es k p)) λhg=>an (f a) λh=>ok λm S X G=>zmI (h m S X G) (hg m S X G) (zqm hs.1) (sw0 hs.2)
 |_=>AD
def ygb(f:∀x,Pr (YE γ κ x cc))(fo:∀x,Pr (YE γ κ x ca))(fi:∀x,Pr (YE γ κ x cb))(s:Bz):Pr (YS γ κ s (.six ca cb cc)):=
 match s with
 |.Assign [.Subscript b c _] a _=>an (ask (nco a=AB/\nsl c=AB)) λhs=>an (f a) λh=>an (fo b) λho=>an (fi c) λhi=>ok λm S X G=>zo1 (h m S X G) (ho m S X G) (hi m S X G) (zqm hs.1) sw1 (zkF (ho m S X G) (hi m S X G) zgB (asS hs.2))
 |_=>AD
def yeN(f:∀x,Pr (YE γ κ x cc))(fo:∀x,Pr (YE γ κ x ca))(fi:∀x,Pr (YE γ κ x cb))(s:Bz):Pr (YS γ κ s (.dput ca cb cc)):=
 match s with
 |.Assign [.Subscript b c _] a _=>an (ask (nco a=AB)) λhs=>an (f a) λh=>an (fo b) λho=>an (fi c) λhi=>ok λm S X G=>zmG (zll G.room) (ho m S X G) (hi m S X G) (h m S X G) (swp hs)
 |_=>AD
def yfT(op:De)(o:BOp):Pr (∀S X,PIp X op (rT2 S X (ybO o))):=
 match op,o with
 |.Add,.add=>ok λ_ _=>zlM
 |_,_=>AD
def ygp(i:Nat)(o:BOp)(f:∀x,Pr (YE γ κ x ca))(s:Bz):Pr (YS γ κ s (.aug i o ca)):=
 match s with
 |.AugAssign (.Name x _) op a _=>an (ask (setB κ i x=AB)) λh=>an (yfT op o) λhp=>an (f a) λha=>ok λm S X G=>let q:=zbb G h;zm0 q.d q.i q.l (ha m S X G) (hp S X) q.f (zcQ q.p) (zqd q.p)
 |_=>AD
def ygN(c:Ce)(f:∀x,Pr (YE γ κ x c))(s:Bz):Pr (YS γ κ s (.ret c)):=
 match s with
 |.Return (AA a) _=>an (f a) λh=>ok λm S X G=>zm3 (h m S X G)
 |.Return AD _=>match c with
  |.cst .non=>ok λ_ _ _ _=>zl2
  |_=>AD
 |_=>AD
def sIf(fc:∀x,Pr (YT γ κ x cc))(fa:∀x,Pr (YSs γ κ x cs))(fb:∀x,Pr (YSs γ κ x cs'))(s:Bz):Pr (YS γ κ s (.ite cc cs cs')):=
 match s with
 |.If c a b _=>an (fc c) λhc=>an (fa a) λha=>an (fb b) λhb=>ok λm S X G=>zp3 (hc m S X G) (ha m S X G) (hb m S X G)
 |_=>AD
def yge(ct:Tg)(fi:∀tg l,Pr (YI γ κ tg l ci))(fb:∀x,Pr (YSs γ κ x cs))(s:Bz):Pr (YS γ κ s (.for ct ci cs)):=
 match s with
 |.For tg l b [] _=>an (ask (κ.own=AB/\nse l=AB)) λho=>an (fi tg l) λhi=>an (mTg (γ:=γ) (κ:=κ) ct tg) λhg=>an (fb b) λhb=>ok λm S X G=>zoW (G.own ho.1).1 G.calm (hi m S X G) (hg m S X G) (hb m S X G) (fse ho.2)
 |_=>AD
def sWh(fc:∀x,Pr (YT γ κ x cc))(fb:∀x,Pr (YSs γ κ x cs))(s:Bz):Pr (YS γ κ s (.while cc cs)):=
 match s with
 |.While c b [] _=>an (ask (κ.own=AB)) λho=>an (fc c) λhc=>an (fb b) λhb=>ok λm S X G=>zjx (G.own ho).1 (hc m S X G) (hb m S X G)
 |_=>AD
def ygL(c:Nat)(f:AQ)(fo:∀x,Pr (YE γ κ x ca))(fv:∀x,Pr (YE γ κ x cb))(s:Bz):Pr (YS γ κ s (.sfl c ca f cb)):=
 match s with
 |.Assign [.Attribute a g _] b _=>an (ask (g=f/\γ.fl c f=AB/\nco b=AB)) λh=>an (fo a) λha=>an (fv b) λhb=>ok λm S X G=>by
  let⟨rfl,h1,h2⟩:=h;exact znm (G.glo.A c g h1).1 (G.glo.A c g h1).2 (ha m S X G) (hb m S X G) (swp h2)
 |_=>AD
def yfL(c i:Nat)(f:AQ)(j:Int)(fo:∀x,Pr (YE γ κ x (.var i)))(fv:∀x,Pr (YE γ κ x (.cst (.int j))))(s:Bz):Pr (YS γ κ s (.sfl c (.var i) f (.bin .add (.fld c (.var i) f) (.cst (.int j))))):=
 match s with
 |.AugAssign (.Attribute a g _) .Add b _=>an (ask (g=f/\γ.fl c f=AB)) λh=>an (fo a) λha=>an (fv b) λhb=>ok λm S X G=>by
  let⟨rfl,h1⟩:=h;exact zph (G.glo.A c g h1).1 (G.glo.A c g h1).2 (ha m S X G) (hb m S X G)
 |_=>AD
def yg6(c:Nat)(o:Ce)(f:AQ)(e:Ce)(O:Ev γ o)(E:Ev γ e)(s:Bz):Pr (YS γ κ s (.sfl c o f e)):=
 match s with
 |.AugAssign t op b p=>match o,e with
  | .var i,.bin .add (.fld c' (.var i') f') (.cst (.int j))=>an (ask (c'=c/\i'=i/\f'=f)) λh=>an (yfL (γ:=γ) (κ:=κ) c i f j (λx=>yff i x) (λx=>yfl (.int j) x) (.AugAssign t op b p)) λq=>ok (by
    let⟨rfl,rfl,rfl⟩:=h;exact q)
  |_,_=>AD
 |s=>ygL c f (O.e κ) (E.e κ) s
def ygB(ix:Nat)(D:List (AQ×Nat)){cn:Ce}{ces:Ces}(fn:∀x,Pr (YE γ κ x cn))(F:Fs γ κ ces)(ss:List Bz):Pr (YSs γ κ ss (.cons (.mkr ix D cn ces) .nil)):=
 match ss with
 |[.Assign [.Name x _] (.Subscript (.Name y _) n _) _,.Return (AA (.Call (.Name x' _) (e::es) [] _)) _]=>match hy:γ.mr y with
  |some E=>an (ask (E=D/\x'=x/\setB κ ix x=AB/\ydM κ.sc x=AB/\glB κ y=AB/\nsl n=AB/\nst e=AB/\ybT es=AB)) λh=>an (fn n) λhn=>an (ya2 F (e::es)) λha=>ok λm S X G=>by
   let⟨rfl,rfl,h1,h2,h3,h4,h5,h6⟩:=h;have q:=zbb G h1;let⟨fa,fdd,ps,M,d⟩:=G.glo.K y E hy;exact zpf M (G.room.mono (Cm m)) q.d q.i q.l (by rw[G.sc];exact zit h2) (zau G h3) d (hn m S X G) (ha m S X G) (nos h4) (swp rfl) q.f (zcQ (zbN h3)) (zcQ q.p) (zqd q.p) (zaZ h5) (stars h6)
  |none=>AD
 |_=>AD
end
mutual
noncomputable def chS(γ:Gs):(c:Cs)->(κ:Kx)->∀s,Pr (YS γ κ s c)
 |.expr e,κ=>yeK ((ch γ e).e κ)
 |.asg (.n i) c,κ=>yft i ((ch γ c).e κ)
 |.asg (.t [i,j]) (.tup (.cons a (.cons b .nil))),κ=>ygR i j ((ch γ a).e κ) ((ch γ b).e κ)
 |.asg (.t l) c,κ=>yfA l ((ch γ c).e κ)
 |.six o i e,κ=>ygb ((ch γ e).e κ) ((ch γ o).e κ) ((ch γ i).e κ)
 |.dput o i e,κ=>yeN ((ch γ e).e κ) ((ch γ o).e κ) ((ch γ i).e κ)
 |.aug i o e,κ=>ygp i o ((ch γ e).e κ)
 |.ret e,κ=>ygN e ((ch γ e).e κ)
 |.ite c a b,κ=>sIf ((ch γ c).t κ) (ycX γ a κ) (ycX γ b κ)
 |.for t it b,κ=>yge t (chi γ it κ) (ycX γ b κ)
 |.while c b,κ=>sWh ((ch γ c).t κ) (ycX γ b κ)
 |.nope,_=>λ_=>ok λ_ _ _ _=>zlQ
 |.sfl c o f e,κ=>yg6 c o f e (ch γ o) (ch γ e)
 |_,_=>λ_=>AD
noncomputable def ycX(γ:Gs):(c:Css)->(κ:Kx)->∀s,Pr (YSs γ κ s c)
 |.nil,_,[]=>ok λ_ _ _ _=>zn7
 |.cons (.mkr ix D cn ces) .nil,κ,ss=>ygB ix D ((ch γ cn).e κ) (chs γ ces κ) ss
 |.cons c cs,κ,s::ss=>an (chS γ c κ s) λh=>an (ycX γ cs κ ss) λhr=>ok λm S X G=>zlm (h m S X G) (hr m S X G)
 |_,_,_=>AD
end
inductive Dk where
 |fn|fd (ds:List Int)|me (c:Nat)|ini (c:Nat)
structure Df where
 gn:AQ
 nm:AQ
 q:AQ
 st:Bz
 N:List AQ
 ps:List AQ
 fn:IC.Fn
 k:Dk
def scB(N P:List AQ)(sc:Bn):Bool:=decide (sc.kind=.function)&&!sc.isCoroutine&&!sc.isGenerator&&decide N.Nodup&&decide (N.take P.length=P)&&P.all (ydQ sc)&&sc.names.all λy=>y.2 != .free
def znH{N P:List AQ}{sc:Bn}(h:scB N P sc=AB):yba N P sc:=by
 erw[scB,AK,decide_eq_true_eq,Ck,Bl,bne_iff_ne,ne_eq]at h;let⟨⟨⟨⟨⟨⟨h1,h2⟩,h3⟩,h4⟩,h5⟩,h6⟩,h7⟩:=h;exact⟨h1,h2,h3,h4,h5,λx hx=>ziN (h6 x hx),h7⟩
def okD(γ:Gs)(d:Df):Bool:=scB d.N d.ps (yH d.st)&&decide (d.ps.length=d.fn.np)&&decide (d.N.length=d.fn.ns)&&(ycX γ d.fn.body ⟨d.N,yH d.st,AB⟩ (yac d.st)).isSome
def ybS{α:Type}(P:α->Prop):List α->Prop
 |[]=>True
 |d::r=>P d/\ybS P r
theorem ybS.get{α:Type}{P:α->Prop}:∀{l:List α},ybS P l->∀d∈l,P d
 |_::_,h,d,hd=>by
  rcases AT.1 hd with rfl|hd
  .exact h.1
  .exact h.2.get d hd
def ybE:List AQ->(List AG->Prop)->Prop
 |[],P=>P []
 |_::r,P=>∀a,ybE r λus=>P (a::us)
theorem ybE.get:∀{ps:List AQ} {P:List AG->Prop},ybE ps P->∀us,us.length=ps.length->P us
 |[],P,h,[],_=>h
 |_::r,P,h,a::us,e=>(h a).get us (by simpa using e)
def ybb(d:Df):Prop:=∀(kV doc pm:AG) (an:Option AI) (cdv ct:AG),ybE d.ps λus=>bindArgs (B5 d.nm d.q (yaf d.st) (yac d.st) (yH d.st) .none kV doc pm an cdv ct) ⟨us,[]⟩=pure (d.ps.zip us)
structure ycv(K:AF)(d:Df)(dv:AG)(f:AI)(fd:BG):Prop where
 ex:∃(oc:AG) (od:Option AI) (kV doc pm:AG) (an:Option AI) (cdv ct:AG) (osl:Array (Option AG)),
  fd=B5 d.nm d.q (yaf d.st) (yac d.st) (yH d.st) dv kV doc pm an cdv ct/\K.lookup f=AA ⟨oc,od,.func fd,osl⟩/\CM K cdv d.q=AB
 kp:Ax K (.ref f)=AB
def At(K:AF)(cn:Nat->AQ)(d:Df)(f:AI):Prop:=
 match d.k with
 |.fn=>BO K mainGlobals d.gn=AA (AA (.ref f))/\ybb d
 |.fd _=>BO K mainGlobals d.gn=AA (AA (.ref f))
 |.me c=>ybb d/\∃q,BO K mainGlobals (cn c)=AA (AA (.ref q))/\BA K (.ref q) d.nm=AA (AA (.ref f))/\Cr K (.ref f)=AB
 |.ini c=>ybb d/\∃q,BO K mainGlobals (cn c)=AA (AA (.ref q))/\BA K (.ref q) d.nm=AA (AA (.ref f))/\Cr K (.ref f)=AB/\Dj K q=AB/\Ax K (.ref q)=AB
def DvP(K:AF)(d:Df)(dv:AG):Prop:=
 match d.k with
 |.fd ds=>∃dT o its n,dv=.ref dT/\K.lookup dT=AA o/\o.data=.seq its n/\Vals (ds.map V.int) its.toList
 |_=>dv=.none
def ycZ(K:AF)(cn:Nat->AQ)(d:Df):Prop:=∃dv f fd,ycv K d dv f fd/\At K cn d f/\DvP K d dv
section
variable {K:AF}{cn:Nat->AQ}{gn nm:AQ}{st:Bz}{N ps:List AQ}{fn:IC.Fn}{f:AI}{oc:AG}{od:Option AI}{kV doc pm:AG}{an:Option AI}{cdv ct:AG}{osl:Array (Option AG)}
theorem rowFn(a:BO K mainGlobals gn=AA (AA (.ref f)))(l:K.lookup f=AA ⟨oc,od,.func (B5 nm nm (yaf st) (yac st) (yH st) .none kV doc pm an cdv ct),osl⟩)
  (c:CM K cdv nm=AB) (p:Ax K (.ref f)=AB) (b:ybb ⟨gn,nm,nm,st,N,ps,fn,.fn⟩):ycZ K cn ⟨gn,nm,nm,st,N,ps,fn,.fn⟩:=
 ⟨.none,f,_,⟨⟨oc,od,kV,doc,pm,an,cdv,ct,osl,rfl,l,c⟩,p⟩,⟨a,b⟩,rfl⟩
theorem rowFd{ds:List Int}{dT:AI}{o:CF}{its:Array AG}{n:Nat}(a:BO K mainGlobals gn=AA (AA (.ref f)))(l:K.lookup f=AA ⟨oc,od,.func (B5 nm nm (yaf st) (yac st) (yH st) (.ref dT) kV doc pm an cdv ct),osl⟩)
  (c:CM K cdv nm=AB) (p:Ax K (.ref f)=AB) (d:K.lookup dT=AA o) (e:o.data=.seq its n) (v:Vals (ds.map V.int) its.toList):ycZ K cn ⟨gn,nm,nm,st,N,ps,fn,.fd ds⟩:=
 ⟨.ref dT,f,_,⟨⟨oc,od,kV,doc,pm,an,cdv,ct,osl,rfl,l,c⟩,p⟩,a,dT,o,its,n,rfl,d,e,v⟩
theorem rowMe{qn:AQ}{cc:Nat}{q:AI}(z:BO K mainGlobals (cn cc)=AA (AA (.ref q)))(a:BA K (.ref q) nm=AA (AA (.ref f)))(i:Cr K (.ref f)=AB)(l:K.lookup f=AA ⟨oc,od,.func (B5 nm qn (yaf st) (yac st) (yH st) .none kV doc pm an cdv ct),osl⟩)
  (c:CM K cdv qn=AB) (p:Ax K (.ref f)=AB) (b:ybb ⟨gn,nm,qn,st,N,ps,fn,.me cc⟩):ycZ K cn ⟨gn,nm,qn,st,N,ps,fn,.me cc⟩:=
 ⟨.none,f,_,⟨⟨oc,od,kV,doc,pm,an,cdv,ct,osl,rfl,l,c⟩,p⟩,⟨b,q,z,a,i⟩,rfl⟩
theorem rowIni{qn:AQ}{cc:Nat}{q:AI}(z:BO K mainGlobals (cn cc)=AA (AA (.ref q)))(a:BA K (.ref q) nm=AA (AA (.ref f)))(i:Cr K (.ref f)=AB)(l:K.lookup f=AA ⟨oc,od,.func (B5 nm qn (yaf st) (yac st) (yH st) .none kV doc pm an cdv ct),osl⟩)
  (c:CM K cdv qn=AB) (p:Ax K (.ref f)=AB) (b:ybb ⟨gn,nm,qn,st,N,ps,fn,.ini cc⟩) (mk:Dj K q=AB) (kq:Ax K (.ref q)=AB):ycZ K cn ⟨gn,nm,qn,st,N,ps,fn,.ini cc⟩:=
 ⟨.none,f,_,⟨⟨oc,od,kV,doc,pm,an,cdv,ct,osl,rfl,l,c⟩,p⟩,⟨b,q,z,a,i,mk,kq⟩,rfl⟩
theorem gdf_mk{w:An}{h:BF}{mg:AQ->Option AG}{x:AQ}{D:List (AQ×Nat)}{fa:Nat->AI}{y:AI}{es:Array CJ}{ep:Nat}(X:K.In h)(G:h.Ns mainGlobals mg)(a:BO K mainGlobals x=AA (AA (.ref y)))(l:K.lookup y=AA ⟨.type "dict",AD,.dict es ep,#[]⟩)
  (r:ycc w fa D es.toList) (n:(D.map (·.1)).Nodup):GDF K w mg fa x D:=⟨y,es,ep,Ec X G a,l,r,n⟩
theorem gd_mk{w:An}{h:BF}{mg:AQ->Option AG}{x:AQ}{D:List (AQ×PV)}{cl:Nat->AI}{y:AI}{es:Array CJ}{ep:Nat}(X:K.In h)(G:h.Ns mainGlobals mg)(a:BO K mainGlobals x=AA (AA (.ref y)))(l:K.lookup y=AA ⟨.type "dict",AD,.dict es ep,#[]⟩)
  (s:(y==sysModules)=AC) (r:yci K cl w D es.toList) (n:(D.map (·.1)).Nodup):GD K w mg cl x D:=⟨y,es,ep,Ec X G a,l,s,r,n⟩
end
abbrev KoV(K:AF)(v:PV)(u:AG):Prop:=∃x:V,RelV x u/\∀cl B φ H,yg K cl B φ H v x
abbrev KoL(K:AF)(vs:List PV)(us:List AG):Prop:=∃xs:List V,Vals xs us/\∀cl B φ H,yj K cl B φ H vs xs
mutual
noncomputable def yez(K:AF):(v:PV)->(u:AG)->Pr (KoV K v u)
 |.int i,.int j t=>an (ask (i=j)) λh=>ok ⟨.int i,⟨t,by rw[h]⟩,λ_ _ _ _=>by erw[yg]⟩
 |.str i,.str j t=>an (ask (i=j)) λh=>ok ⟨.str i,⟨t,by rw[h]⟩,λ_ _ _ _=>by erw[yg]⟩
 |.tp AB vs,.ref a=>match h:K.lookup a with
  |some ⟨c,_,.seq its n,_⟩=>an (ask (c=.type "tuple"/\its.size<=sizeLine)) λq=>an (ydv K vs its.toList) λr=>ok (by
    let⟨xs,r1,r2⟩:=r;refine⟨.ref a,rfl,λcl B φ H=>?_⟩;erw[yg];exact⟨a,xs,rfl,.inr ⟨rfl,_,its,n,h,q.1,rfl,q.2,r1⟩,r2 cl B φ H⟩)
  |_=>AD
 |_,_=>AD
noncomputable def ydv(K:AF):(vs:List PV)->(us:List AG)->Pr (KoL K vs us)
 |[],[]=>ok ⟨[],.nil,λ_ _ _ _=>by erw[yj]⟩
 |v::vs,u::us=>an (yez K v u) λh=>an (ydv K vs us) λr=>ok (by
   let⟨x,h1,h2⟩:=h;let⟨xs,r1,r2⟩:=r;refine⟨x::xs,.cons h1 r1,λcl B φ H=>?_⟩;erw[yj];exact⟨x,xs,rfl,h2 cl B φ H,r2 cl B φ H⟩)
 |_,_=>AD
end
theorem con_row{K:AF}{cl:Nat->AI}{w:An}{k:AQ}{v:PV}{tk:Hf}{u:AG}{D:List (AQ×PV)}{es:List CJ}(c:(yez K v u).isSome=AB)(h:yci K cl w D es):yci K cl w ((k,v)::D) (⟨EN w.params k,.str k tk,u⟩ :: es):=by
 let⟨⟨x,r,q⟩,_⟩:=Az.1 c;exact .cons r (q cl) h
theorem frow_cons{w:An}{fa:Nat->AI}{k:AQ}{i:Nat}{tk:Hf}{a:AI}{D:List (AQ×Nat)}{es:List CJ}(e:fa i=a)(h:ycc w fa D es):ycc w fa ((k,i)::D) (⟨EN w.params k,.str k tk,.ref a⟩ :: es):=by
 subst e;exact .cons h
structure Tb where
 tbl:List Df
 al:List (AQ×GK)
 bs:List AQ
 ts:List Ty
 fl:List (Nat×AQ)
 me:List ((Nat×AQ)×Nat)
 kb:List ((Nat×Nat×List AQ)×List (Option Int))
 cn:List (Nat×AQ)
 dd:List (AQ×List (AQ×PV))
 ml:List (AQ×List (AQ×Nat))
abbrev eF(x:AQ)(i:Nat):AQ×GK:=(x,.fn i)
abbrev eD(x:AQ)(i:Nat):AQ×GK:=(x,.fnD i)
abbrev eC(x:AQ)(v:PV):AQ×GK:=(x,.cst v)
abbrev eG(x:AQ)(g:GK):AQ×GK:=(x,g)
abbrev eN(c:Nat)(x:AQ):Nat×Str:=(c,x)
abbrev eM(c:Nat)(x:AQ)(i:Nat):(Nat×AQ)×Nat:=((c,x),i)
abbrev eK(i n:Nat)(ks:List AQ)(sh:List (Option Int)):(Nat×Nat×List AQ)×List (Option Int):=((i,n,ks),sh)
abbrev eL(x:AQ)(d:List (AQ×Nat)):AQ×List (AQ×Nat):=(x,d)
abbrev eB(x:AQ)(d:List (AQ×PV)):AQ×List (AQ×PV):=(x,d)
def tyE:Ty->Ty->Bool
 |.int,.int=>AB
 |.bool,.bool=>AB
 |.str,.str=>AB
 |.tuple,.tuple=>AB
 |.list,.list=>AB
 |_,_=>AC
def zoe{a b:Ty}(h:tyE a b=AB):a=b:=by
 cases a<;>cases b<;>first|rfl|cases h
def Tb.gs(t:Tb):Gs:=⟨λx=>t.al.lookup x,λx=>t.bs.contains x,λy=>t.ts.any (tyE y),λc f=>t.fl.contains (c,f),λc n=>t.me.lookup (c,n),λi n ks=>t.kb.lookup (i,n,ks),λx=>t.ml.lookup x⟩
def nmA(K:AF)(x:AQ):Option Addr:=match BO K mainGlobals x with
 |some (AA (.ref q))=>AA q
 |_=>AD
def clA(K:AF)(t:Tb)(c:Nat):Addr:=((t.cn.lookup c).bind (nmA K)).getD 0
def cnm(t:Tb)(c:Nat):Str:=(t.cn.lookup c).getD ""
def faA(K:AF)(t:Tb)(i:Nat):Addr:=match t.tbl[i]? with
 |some d=>match d.k with
  |.fn=>(nmA K d.gn).getD 0
  |.fd _=>(nmA K d.gn).getD 0
  |.me c=>match BA K (.ref (clA K t c)) d.nm with
   |some (AA (.ref f))=>f
   |_=>0
  |.ini c=>match BA K (.ref (clA K t c)) d.nm with
   |some (AA (.ref f))=>f
   |_=>0
 |none=>0
def yc5:Dk->Bool
 |.fn=>AB
 |_=>AC
def yd5:Dk->Bool
 |.fd _=>AB
 |_=>AC
def ygS:PV->Bool
 |.int _=>AB
 |.tp _ _=>AB
 |_=>AC
def alB(K:AF)(t:Tb):AQ×GK->Bool
 |(x,.fn i)=>match t.tbl[i]? with
  |some d=>yc5 d.k&&(decide (x=d.gn) || decide (nmA K x=nmA K d.gn))
  |none=>AC
 |(x,.fnD i)=>match t.tbl[i]? with
  |some d=>yd5 d.k&&(decide (x=d.gn) || decide (nmA K x=nmA K d.gn))
  |none=>AC
 |(x,.cst v)=>ygS v&&match BO K mainGlobals x with
  |some (AA u)=>(yez K v u).isSome
  |_=>AC
 |(x,.dct d)=>t.dd.any λp=>decide (p.1=x)&&(eqD p.2 d).isSome
 |(x,.exc c)=>decide (t.cn.lookup c=AA x)&&(nmA K x).any λq=>Fd K q [.type "ValueError",.type "Exception",.type "BaseException",.type "object"] "ValueError.__new__"
 |(x,.cls c i)=>decide (t.cn.lookup c=AA x)&&(nmA K x).isSome&&match t.tbl[i]? with
  |some d=>match d.k with
   |.ini c'=>decide (c'=c)&&decide (d.nm="__init__")
   |_=>AC
  |none=>AC
def ye6(K:AF)(t:Ty):Bool:=
 decide (B2 K (.type "NoneType") (.type (tyN t))=AA (yby .non t))&&decide (B2 K (.type "bool") (.type (tyN t))=AA (yby (.bl AB) t))&&decide (B2 K (.type "int") (.type (tyN t))=AA (yby (.int 0) t))&&decide (B2 K (.type "str") (.type (tyN t))=AA (yby (.str GQ) t))&&decide (B2 K (.type "tuple") (.type (tyN t))=AA (yby (.tp AB []) t))&&decide (B2 K (.type "list") (.type (tyN t))=AA (yby (.lst []) t))
def ydT(K:AF)(q:AI):Bool:=Cq K q GQ&&DJ K q&&EW K q&&decide (BA K (.ref q) "__setattr__"=AA (AA (.builtin "object.__setattr__")))
def zhs{K:AF}{q:AI}(h:ydT K q=AB):Cls K q:=by
 erw[ydT,AK,decide_eq_true_eq]at h;exact⟨h.1.1.1,h.1.1.2,h.1.2,h.2⟩
def yeo(K:AF)(t:Tb):Bool:=
 t.al.all (alB K t)&&t.bs.all (λx=>decide (BO K mainGlobals x=AA AD))&&t.ts.all (ye6 K) &&
  t.fl.all (λp=>(t.cn.lookup p.1).isSome&&(nmA K (cnm t p.1)).any λq=>ydT K q&&decide (BA K (.ref q) p.2=AA AD)) &&
  t.me.all (λp=>(t.cn.lookup p.1.1).isSome&&(nmA K (cnm t p.1.1)).any λq=>ydT K q&&match t.tbl[p.2]? with
   |some d=>(match d.k with
    |.me c=>decide (c=p.1.1)
    |_=>AC)&&decide (d.nm=p.1.2)
   |none=>AC) &&
  t.ml.all λp=>p.2.all λq=>match t.tbl[q.2]? with
   |some d=>yc5 d.k
   |none=>AC
def fd0:FuncData:=B5 "" "" (yaf (.Pass ⟨0,0,0,0⟩)) [] (yH (.Pass ⟨0,0,0,0⟩)) .none .none .none .none AD .none .none
def fdA(K:AF)(t:Tb)(i:Nat):FuncData:=match K.lookup (faA K t i)with
 |some ⟨_,_,.func fd,_⟩=>fd
 |_=>fd0
def psA(t:Tb)(i:Nat):List Str:=match t.tbl[i]? with
 |some d=>d.ps
 |none=>[]
theorem lkm{α β:Type}[BEq α][LawfulBEq α]{x:α}{k:β}:∀{l:List (α×β)},l.lookup x=AA k->(x,k)∈l
 |[],h=>nomatch h
 |y::l,h=>by
  rw[Bg]at h
  cases hx:x==y.1 with
  |true=>rw[hx]at h;cases h;rw[eq_of_beq hx];exact BB
  |false=>rw[hx]at h;exact AW _ (lkm h)
def KbP(t:Tb)(p:(Nat×Nat×List AQ)×List (Option Int)):Prop:=∀d ds,t.tbl[p.1.1]?=AA d->d.k=.fd ds->∀(K:AF) (mg:AQ->Option AG) (f:AI) (fd:BG),FnD K mg d.nm d.st d.ps ds f fd->∃g,ybG K fd d.ps p.1.2.2 g (gK p.1.2.1 p.2)
structure Fact(t:Tb)(w:An)(K:AF)(mg:AQ->Option AG):Prop where
 X:∀x u,BO K mainGlobals x=AA u->mg x=u
 R:ybS (ycZ K (cnm t)) t.tbl
 B:yeo K t=AB
 D:ybS (λp=>∀cl,GD K w mg cl p.1 p.2) t.dd
 Kb:ybS (KbP t) t.kb
 Ml:ybS (λp=>GDF K w mg (faA K t) p.1 p.2) t.ml
def zoq{K:AF}{x:AQ}{q:AI}(h:nmA K x=AA q):BO K mainGlobals x=AA (AA (.ref q)):=by
 unfold nmA at h;split at h
 .cases h;assumption
 .cases h
def zcN{K:AF}{x:AQ}{q:AI}(h:BO K mainGlobals x=AA (AA (.ref q))):nmA K x=AA q:=by
 erw[nmA,h]
def zgE{K:AF}{t:Tb}{c:Nat}{q:AI}(h:nmA K (cnm t c)=AA q)(hc:(t.cn.lookup c).isSome=AB):clA K t c=q:=by
 let⟨x,e⟩:=Az.1 hc;erw[clA,e,Bj];erw[cnm,e,Bi]at h;rw[h];rfl
def okT(t:Tb)(d:Df):Bool:=okD t.gs d&&match d.k with
 |.fn=>AB
 |.fd _=>decide (d.q=d.nm)
 |.me c=>(t.cn.lookup c).isSome
 |.ini c=>(t.cn.lookup c).isSome&&decide (d.nm="__init__")
section
variable {t:Tb}{w:An}{K:AF}{mg:AQ->Option AG}{T:Nat->Option IC.Fn}{P:A8}{base:BF}{k:Nat}
def zd7(F:Fact t w K mg)(O:∀d∈t.tbl,okT t d=AB){i:Nat}{d:Df}(h:t.tbl[i]?=AA d):∃dv fd,ycv K d dv (faA K t i) fd/\At K (cnm t) d (faA K t i)/\DvP K d dv:=by
 have hm:=A5 h;let⟨dv,f,fd,h1,h2,h3⟩:=F.R.get d hm;have e:f=faA K t i:=by
  have o:=O d hm;erw[okT,AK]at o;have o:=o.2;erw[faA,h];unfold At at h2
  cases q:d.k with
  |fn=>
   rw[q]at h2;erw[zcN h2.1,Bi]
  |fd ds=>
   rw[q]at h2;have h2:BO K mainGlobals d.gn=AA (AA (.ref f)):=h2;erw[zcN h2,Bi]
  |me c=>
   rw[q]at h2 o;let⟨_,q',e1,e2,_⟩:=h2;erw[zgE (zcN e1) o,e2]
  |ini c=>
   rw[q]at h2 o;let⟨_,q',e1,e2,_⟩:=h2;erw[AK]at o;erw[zgE (zcN e1) o.1,e2]
 subst e;exact⟨dv,fd,h1,h2,h3⟩
theorem ycv.binds{d:Df}{f:AI}{fd:BG}(R:ycv K d .none f fd)(b:ybb d):Binds K fd d.ps []:=
 Fun.binds ⟨R.ex,R.kp⟩ λkV doc pm an cdv ct us hl=>(b kV doc pm an cdv ct).get us hl
theorem ycv.ok{d:Df}{dv:AG}{f:AI}{fd:BG}{fi m:Nat}{cl:Nat->AI}(R:ycv K d dv f fd)(hT:T fi=AA d.fn)(Sc:yba d.N d.ps (yH d.st))(hnp:d.ps.length=d.fn.np)(hns:d.N.length=d.fn.ns)
  (body:∀(cdv:AG) (A:Au) (outer:List B0) (s:AJ) (H:Hp) (E:XK),yav m (A.deeper (envOfC d.q (yH d.st) s.heap.objs.size f cdv)) ->
   PSs (yaW (CX1 P w) P w K mg base d.N d.q (yH d.st) f cdv A outer s H E) (yac d.st) (tSs ⟨cl,yd T k,AB⟩ (yaW (CX1 P w) P w K mg base d.N d.q (yH d.st) f cdv A outer s H E) d.fn.body)):
  yaJ P w K mg base (CX1 P w) (m+1) f fd d.ps (spI K cl (yd T (k+1)) fi):=by
 let⟨oc,od,kV,doc,pm,an,cdv,ct,osl,rfl,lk,hcd⟩:=R.ex;exact zpM lk hcd Sc (λvs H Q E h=>zm7 hT hnp h) λA outer s H vs Q E hr h=>⟨_,body cdv A outer s H E hr,zlE hT hns h⟩
def Fn2(t:Tb)(P:A8)(w:An)(K:AF)(mg:AQ->Option AG)(base:BF)(T:Nat->Option IC.Fn)(k:Nat):Prop:=
 ∀i d dv fd,t.tbl[i]?=AA d->ycv K d dv (faA K t i) fd->yaJ P w K mg base (CX1 P w) (2*k) (faA K t i) fd d.ps (spI K (clA K t) (yd T k) i)
def zjK(F:Fact t w K mg)(O:∀d∈t.tbl,okT t d=AB)(C:Fn2 t P w K mg base T k){N:List AQ}{q:AQ}{sc:Bn}{f:AI}{cdv:AG}{A:Au}{outer:List B0}{s:AJ}{H:Hp}{E:XK}:
  Glo t.gs (2*k) ⟨clA K t,yd T k,AB⟩ (yaW (CX1 P w) P w K mg base N q sc f cdv A outer s H E):=by
 have B:=F.B;erw[yeo,AK,Bl]at B;let⟨⟨⟨⟨⟨b1,b2⟩,b3⟩,b4⟩,b5⟩,b6⟩:=B;have mgr:∀{x:AQ} {a:AI},nmA K x=AA a->mg x=AA (.ref a):=λh=>F.X _ _ (zoq h);have same:∀{x y:AQ} {a:AI},(decide (x=y) || decide (nmA K x=nmA K y))=AB->nmA K y=AA a->nmA K x=AA a:=λ{x y a} h e=>by
  erw[DE,decide_eq_true_eq]at h;rcases h with rfl|h
  .exact e
  .rw[h];exact e
 refine⟨λx i h=>?_,λx i np ks sh h hk=>?_,λx v h=>?_,λx d h=>?_,λx c h=>?_,λx c i h=>?_,λx h=>?_,λy h=>?_,λc n h=>?_,λc n i h=>?_,λy D h=>?_⟩
 .have q:=b1 _ (lkm h);erw[alB]at q;split at q
  .rename_i d hd;erw[AK]at q;let⟨dv,fd,r1,r2,r3⟩:=zd7 F O hd;have hk:d.k=.fn:=by cases e:d.k<;>rw[e]at q<;>first|rfl|cases q.1
   erw[At,hk]at r2;erw[DvP,hk]at r3;subst r3;exact⟨_,fd,d.ps,C i d _ fd hd r1,mgr (same q.2 (zcN r2.1)),r1.kp,r1.binds r2.2⟩
  .cases q
 .have q:=b1 _ (lkm h);erw[alB]at q;split at q
  .rename_i d hd;erw[AK]at q;let⟨dv,fd,r1,r2,r3⟩:=zd7 F O hd;obtain⟨ds,hk'⟩:∃ds,d.k=.fd ds:=by cases e:d.k<;>rw[e]at q<;>first|exact⟨_,rfl⟩|cases q.1
   erw[At,hk']at r2;erw[DvP,hk']at r3;let⟨dT,o,its,n,rfl,e1,e2,e3⟩:=r3;have oo:=O d (A5 hd);erw[okT,hk',AK,decide_eq_true_eq]at oo;have D:FnD K (λ_=>AA (.ref (faA K t i))) d.nm d.st d.ps ds (faA K t i) fd:=by
    let⟨oc,od,kV,doc,pm,an,cdv,ct,osl,z1,z2,z3⟩:=r1.ex;rw[oo.2]at z1 z3;exact⟨⟨oc,od,dT,kV,doc,pm,an,cdv,ct,osl,o,its,n,z1,z2,z3,e1,e2,e3⟩,r1.kp,rfl⟩
   exact⟨_,fd,d.ps,C i d _ fd hd r1,mgr (same q.2 (zcN r2)),r1.kp,F.Kb.get _ (lkm hk) d ds hd hk' K _ _ _ D⟩
  .cases q
 .have q:=b1 _ (lkm h);erw[alB,AK]at q;let⟨q0,q⟩:=q;split at q
  .rename_i u hu;let⟨⟨y,r,z⟩,_⟩:=Az.1 q;have hm:=F.X _ _ hu
   cases v with
   |int i=>
    have z:=z (λ_=>0) (λ_=>False) [] (λ_=>AD);erw[yg]at z;subst z;let⟨tk,rfl⟩:=r;exact .inr ⟨i,rfl,tk,hm⟩
   |tp b vs=>
    have z0:=z (λ_=>0) (λ_=>False) [] (λ_=>AD);erw[yg]at z0;let⟨a,xs,rfl,_⟩:=z0;have r:u=.ref a:=r;subst r;exact .inl ⟨a,hm,λB φ H=>z _ B φ H⟩
   |_=>cases q0
  .cases q
 .have q:=b1 _ (lkm h);erw[alB,Ek,AK,decide_eq_true_eq]at q;let⟨p,hp,rfl,q⟩:=q;let⟨⟨e⟩,_⟩:=Az.1 q;rw[<-e];exact F.D.get p hp _
 .have q:=b1 _ (lkm h);erw[alB,AK,decide_eq_true_eq,Cp]at q;let⟨q1,q2,q3⟩:=q;let⟨a,ha⟩:=Az.1 q2;have e:clA K t c=a:=by erw[clA,q1,Bj,ha,Bi]
  erw[ha,FH]at q3;exact⟨by show mg x=AA (.ref (clA K t c));rw[e];exact mgr ha,by show Fd K (clA K t c) _ _=AB;rw[e];exact q3⟩
 .have q:=b1 _ (lkm h);erw[alB,AK,decide_eq_true_eq]at q;let⟨⟨q1,q2⟩,q3⟩:=q;let⟨a,ha⟩:=Az.1 q2;have e:clA K t c=a:=by erw[clA,q1,Bj,ha,Bi]
  split at q3
  .rename_i d hd
   cases hk:d.k with
   |ini c'=>
    rw[hk]at q3;erw[AK,decide_eq_true_eq]at q3;let⟨rfl,hn⟩:=q3;let⟨dv,fd,r1,r2,r3⟩:=zd7 F O hd;erw[At,hk]at r2;erw[DvP,hk]at r3;subst r3;let⟨r0,q',r4,r5,r6,r7,r8⟩:=r2;have e2:q'=a:=by
     have:nmA K (cnm t c')=AA q':=zcN r4;erw[cnm,q1,Bi,ha]at this;exact(AZ this).symm
    subst e2;rw[hn]at r5;refine⟨by show mg x=AA (.ref (clA K t c'));rw[e];exact mgr ha,_,fd,d.ps,?_,C i d _ fd hd r1,r1.binds r0⟩;show Mk K (clA K t c') _;rw[e];exact⟨r7,r5,r6,r8⟩
   |_=>rw[hk]at q3;cases q3
  .cases q3
 .have q:x∈t.bs:=by simpa [Tb.gs] using h
  have:=b2 x q;erw[decide_eq_true_eq]at this;exact F.X _ _ this
 .simp only[Tb.gs,Ek]at h;let⟨y',hy,e⟩:=h;have:=zoe e;subst this;have q:=b3 y hy;erw[ye6,AK,decide_eq_true_eq]at q;exact⟨q.1.1.1.1.1,q.1.1.1.1.2,q.1.1.1.2,q.1.1.2,q.1.2,q.2⟩
 .have q:(c,n)∈t.fl:=by simpa [Tb.gs] using h
  have q:=b4 _ q;erw[AK,Cp,decide_eq_true_eq]at q;let⟨q1,q2,q3⟩:=q;let⟨a,ha⟩:=Az.1 q2;erw[ha,FH]at q3;have e:clA K t c=a:=zgE ha q1;show Cls K (clA K t c)/\yat K (clA K t c) n;rw[e];exact⟨zhs q3.1,q3.2⟩
 .have q:=b5 _ (lkm h);erw[AK,Cp,decide_eq_true_eq]at q;let⟨q1,q2,q3,q4⟩:=q;let⟨a,ha⟩:=Az.1 q2;erw[ha,FH]at q3;have e:clA K t c=a:=zgE ha q1;split at q4
  .rename_i d hd;erw[AK,decide_eq_true_eq]at q4;let⟨q4,hn⟩:=q4
   cases hk:d.k with
   |me c'=>
    rw[hk]at q4;have q4:c'=c:=by simpa using q4
    subst q4;let⟨dv,fd,r1,r2,r3⟩:=zd7 F O hd;erw[At,hk]at r2;erw[DvP,hk]at r3;subst r3;let⟨r0,q',r4,r5,r6⟩:=r2;have e2:q'=a:=AZ ((zcN r4).symm.trans ha);subst e2;refine⟨by show Cls K (clA K t c');rw[e];exact zhs q3,_,fd,d.ps,?_,C i d _ fd hd r1,r1.binds r0⟩;show Meth K (clA K t c') n _;rw[e,<-hn];exact⟨r5,r6,r1.kp⟩
   |_=>rw[hk]at q4;cases q4
  .cases q4
 .have q:=b6 _ (lkm h);have g:∀s j,D.lookup s=AA j->∃d dv fd,t.tbl[j]?=AA d/\ycv K d dv (faA K t j) fd/\dv=.none/\ybb d/\fd=fdA K t j/\d.ps=psA t j:=λs j hj=>by
   have q:=q _ (lkm hj);split at q
   .rename_i d hd;let⟨dv,fd,r1,r2,r3⟩:=zd7 F O hd;have hk:d.k=.fn:=by cases e:d.k<;>rw[e]at q<;>first|rfl|cases q
    erw[At,hk]at r2;erw[DvP,hk]at r3;let⟨oc,od,kV,doc,pm,an,cdv,ct,osl,_,lk,_⟩:=r1.ex;exact⟨d,dv,fd,hd,r1,r3,r2.2,by erw[fdA,lk],by erw[psA,hd]⟩
   .cases q
  refine⟨faA K t,fdA K t,psA t,⟨λs j hj=>?_,λs j hj=>?_,λs j hj=>?_⟩,F.Ml.get _ (lkm h)⟩
  .let⟨d,dv,fd,h1,h2,h3,h4,h5,h6⟩:=g s j hj;rw[<-h5,<-h6];exact C j d dv fd h1 h2
  .let⟨d,dv,fd,h1,h2,h3,h4,h5,h6⟩:=g s j hj;exact h2.kp
  .let⟨d,dv,fd,h1,h2,h3,h4,h5,h6⟩:=g s j hj;subst h3;rw[<-h5,<-h6];exact h2.binds h4
def zhU(F:Fact t w K mg)(O:∀d∈t.tbl,okT t d=AB)(hT:∀i d,t.tbl[i]?=AA d->T i=AA d.fn):∀k,Fn2 t P w K mg base T k
 |0=>λi d dv fd _ _=>zjk
 |k+1=>λi d dv fd h R=>by
  have o:=O d (A5 h);erw[okT,okD,AK,decide_eq_true_eq]at o;let⟨⟨⟨⟨o1,o2⟩,o3⟩,o4⟩,_⟩:=o;let⟨⟨y⟩,_⟩:=Az.1 o4;exact R.ok (m:=2*k+1) (hT i d h) (znH o1) o2 o3 λ_ _ _ _ _ _ hr=>y (2*k) _ _ ⟨rfl,rfl,rfl,hr,λ_=>⟨own1,λ_=>rfl,rfl⟩,zjK F O (zhU F O hT k)⟩
def ycY:Nat->(List AG->Prop)->Prop
 |0,P=>P []
 |n+1,P=>∀a,ycY n λus=>P (a::us)
theorem ycY.get:∀{n:Nat} {P:List AG->Prop},ycY n P->∀us,us.length=n->P us
 |0,P,h,[],_=>h
 |n+1,P,h,a::us,e=>(h a).get us (by simpa using e)
theorem kbP{i np:Nat}{ks:List AQ}{sh:List (Option Int)}{d:Df}{ds:List Int}(hd:t.tbl[i]?=AA d)(hk:d.k=.fd ds)(h1:ks.length=nKw sh)(h2:sh.length=(ds.drop (ds.length-sh.length)).length)
  (h3:((sh.zip (ds.drop (ds.length-sh.length))).all λp=>p.1.all λi=>decide (i=p.2))=AB) (hp:0<d.ps.length)
  (h:∀(dT:AI) (kV doc pm:AG) (an:Option AI) (cdv ct:AG),ycY np λus=>ycY ks.length λws=>ycY ds.length λits=>
   ∃k,bindArgs (B5 d.nm d.nm (yaf d.st) (yac d.st) (yH d.st) (.ref dT) kV doc pm an cdv ct) ⟨us,ks.zip ws⟩=seqItems? (.ref dT) >>= k/\k (AA its.toArray)=pure (d.ps.zip (us++ya6 sh ws (its.drop (ds.length-sh.length))))):KbP t ((i,np,ks),sh):=by
 intro d' ds' e1 e2 K mg f fd D;have e1:t.tbl[i]?=AA d':=e1;rw[hd]at e1
 cases e1
 rw[hk]at e2
 cases e2
 exact kbD D h1 h2 h3 (λdT kV doc pm an cdv ct us ws its z1 z2 z3=>(((h dT kV doc pm an cdv ct).get us z1).get ws z2).get its z3) hp
theorem all_mk2{h:BF}{fx:AI}(X:K.In h)(G:h.Ns mainGlobals mg)(hfa:mg "law"=AA (.ref fx))(R:ybS (ycZ K (cnm t)) t.tbl)(B:yeo K t=AB)(D:ybS (λp=>∀cl,GD K w mg cl p.1 p.2) t.dd)(Kb:ybS (KbP t) t.kb)(Ml:ybS (λp=>GDF K w mg (faA K t) p.1 p.2) t.ml)
  (O:t.tbl.all (okT t)=AB) (hT:∀i d,t.tbl[i]?=AA d->T i=AA d.fn) {L:Nat} {st:Bz} {N:List AQ} {fn:IC.Fn} (hL:t.tbl[L]?=AA ⟨"law","law","law",st,N,["_law_script"],fn,.fn⟩) (lvl:Nat):
  ∃fd:BG,(∀(s:AJ) (v:AG),FZ s fd ⟨[v],[]⟩ [("_law_script",v)])/\∀base:BF,K.In base->base.Ns mainGlobals mg->yaJ P w K mg base (CX1 P w) (2*lvl) fx fd ["_law_script"] (spX K (yd T lvl) L):=by
 have F:Fact t w K mg:=⟨λx u e=>by
  cases u with
  |none=>exact PySem.W.mg_none_of X G e
  |some v=>exact Ec X G e,R,B,D,Kb,Ml⟩
 have O':=Bl.1 O;let⟨dv,fd,r1,r2,r3⟩:=zd7 F O' hL;have r3:dv=.none:=r3;subst r3;have r2:BO K mainGlobals "law"=AA (AA (.ref (faA K t L)))/\ybb _:=r2;have e:=Value.ref.inj (AZ (hfa.symm.trans (Ec X G r2.1)));subst e;refine⟨fd,λs v=>?_,λbase _ _=>(zhU F O' hT lvl L _ _ fd hL r1).imp λ_ _ _ _ h=>h _⟩;let⟨oc,od,kV,doc,pm,an,cdv,ct,osl,rfl,_⟩:=r1.ex;exact .of_eq (r2.2 kV doc pm an cdv ct v)
end
end L2
namespace IC
open PySem
def yif:List (AQ×Nat):=[(AE "sum",89),(AE "difference",90),(AE "turned",91),(AE "both",92),(AE "any",93),(AE "odd",94),(AE "bare",95),(AE "left",96),(AE "right",97),(AE "down",98),(AE "roll",99),(AE "product",100),(AE "signed product",101),(AE "quotient",102),(AE "signed quotient",103)]
def yf:List (AQ×Nat):=[(AE "move",63),(AE "bare",64),(AE "sum",65),(AE "less",66),(AE "both",67),(AE "any",68),(AE "odd",69),(AE "twice",70),(AE "half",71)]
def yes:PV:=(.tp AB [(.str "f"),(.tp AB [(.int 0),(.int 0),(.int 0),(.int 0)])])
def yiW:PV:=(.tp AB [(.int 0),(.int 0),(.int 1)])
def yy:PV:=(.tp AB [(.int 0),(.int 1),(.int 0)])
def yiX:PV:=(.int 10000000000000000000000000000000000000000)
def yig:PV:=(.tp AB [(.str "g"),(.tp AB [(.int 0),(.int 0),(.int 0),(.int 0)])])
def yiY:PV:=(.tp AB [(.str "turned"),(.str "bare")])
def yk:PV:=(.tp AB [(.tp AB [(.str "m"),(.tp AB [(.int 0),(.int 0),(.int 0),(.int 0)])]),(.tp AB [(.str "m"),(.tp AB [(.int 1),(.int 0),(.int 0),(.int 0)])]),(.tp AB [(.str "m"),(.tp AB [(.int 2),(.int 0),(.int 0),(.int 0)])]),(.tp AB [(.str "m"),(.tp AB [(.int 3),(.int 0),(.int 0),(.int 0)])])])
def yiZ:PV:=(.int 4)
def yj4:PV:=(.int 2)
def yi0:PV:=(.int 4000)
def yi1:PV:=(.int 4000)
def yj5:PV:=(.int 20)
def yj6:PV:=(.int 2)
def yi2:PV:=(.int 200)
def yb8:PV:=(.tp AB [(.str "z"),(.tp AB [(.int 0),(.int 0),(.int 0),(.int 0)])])
def yih:PV:=(.tp AB [(.str "sum"),(.str "difference"),(.str "compare"),(.str "both"),(.str "any"),(.str "odd"),(.str "product"),(.str "signed product"),(.str "quotient"),(.str "signed quotient")])
def yi3:PV:=(.tp AB [(.str "both"),(.str "any"),(.str "odd")])
def yii:PV:=(.tp AB [(.str "product"),(.str "signed product")])
def yet:PV:=(.tp AB [(.str "quotient"),(.str "signed quotient")])
def ygi:PV:=(.tp AB [(.str "s"),(.tp AB [(.int 0),(.int 0),(.int 0),(.int 0)])])
def ygo:PV:=(.tp AB [(.str "left"),(.str "right"),(.str "down"),(.str "roll")])
def yT:PV:=(.tp AB [(.str "k"),(.tp AB [(.int 0),(.int 0),(.int 0),(.int 0)])])
def ygr:PV:=(.tp AB [(.str "i"),(.tp AB [(.int 0),(.int 0),(.int 0),(.int 0)])])
def yho:PV:=(.tp AB [(.str "j"),(.tp AB [(.int 0),(.int 0),(.int 0),(.int 0)])])
def ycM:PV:=(.tp AB [(.str "t"),(.tp AB [(.int 0),(.int 0),(.int 0),(.int 0)])])
def ybK:List (AQ×PV):=[(AE "set",(.tp AB [(.str "cell"),(.str "figure")])),(AE "move",(.tp AB [(.str "cell"),(.str "cell")])),(AE "bare",(.tp AB [(.str "cell"),(.str "cell")])),(AE "sum",(.tp AB [(.str "cell"),(.str "cell"),(.str "cell")])),(AE "less",(.tp AB [(.str "cell"),(.str "cell"),(.str "cell")])),(AE "both",(.tp AB [(.str "cell"),(.str "cell"),(.str "cell")])),(AE "any",(.tp AB [(.str "cell"),(.str "cell"),(.str "cell")])),(AE "odd",(.tp AB [(.str "cell"),(.str "cell"),(.str "cell")])),(AE "twice",(.tp AB [(.str "cell"),(.str "cell")])),(AE "half",(.tp AB [(.str "cell"),(.str "cell")])),(AE "times",(.tp AB [(.str "cell"),(.str "cell"),(.str "cell"),(.str "cell")])),(AE "mark",(.tp AB [(.str "figure")])),(AE "ask",(.tp AB [(.str "cell")]))]
section zq
local macro_rules|`(#[$x,*])=>do
 let mut a←`(.e)
 for y in x.getElems.reverse do a←`(.k $y $a)
 pure a
def yi4:Fn:=⟨5,5,AB,#[.ret (.tup #[.v 0,.tup #[.v 1,.v 2,.v 3,.v 4]])]⟩
def yi5:Fn:=⟨1,1,AB,#[.ret (.call 0 (yam #[.v 0,.neg (.i 1)] (yC [.inr 0,.inr 0,.inl (.i 1)])))]⟩
def yi6:Fn:=⟨1,1,AB,#[.ret (.blt .tuple #[.comp [AD] (.n 0) (.seq (.v 0)) (.cst (.bl AB)) (.tup #[.s "row",.v 0])])]⟩
def yi7:Fn:=⟨3,3,AB,#[.ret (.tup #[.tup #[.s "rounds",.v 0,.v 1,.v 2]])]⟩
def yi8:Fn:=⟨5,5,AB,#[.ret (.tup #[.s "slice",.v 0,.tup #[.i 0,.i 0,.i 0,.i 0],.tup #[.v 1,.v 2,.v 3,.v 4]])]⟩
def yi9:Fn:=⟨6,6,AB,#[.ret (.tup #[.v 0,.tup #[.i 0,.v 2,.i 0,.v 3,.v 4,.v 5],.v 1])]⟩
def yja:Fn:=⟨3,4,AB,#[.asg (.n 3) (.tup #[.call 5 (yam #[.i 1,.tup #[.call 4 (yam #[.v 1] (yC [.inr 0,.inl (.i 1),.inr 0,.inr 0]))]] (yC [.inr 0,.inr 0,.inr 0,.inr 0])),.call 5 (yam #[.neg (.i 1),.tup #[.call 4 (yam #[.v 0] (yC [.inr 0,.inl (.i 1),.inr 0,.inr 0]))]] (yC [.inr 0,.inr 0,.inr 0,.inr 0]))]),.ret (.call 3 #[.tup #[.v 2,.i 1,.i 0],.v 3,.call 2 #[.lst #[.tup #[.s "move",.call 0 (yam #[.v 0] (yC [.inr 0,.inl (.i 1),.inr 0,.inr 0])),.call 0 (yam #[.v 1] (yC [.inr 0,.inl (.i 1),.inr 0,.inr 0]))]]]])]⟩
def yjb:Fn:=⟨2,2,AB,#[.ret (.call 3 #[.v 1,.tup .e,.call 2 #[.lst #[.tup #[.s "twice",.call 0 (yam #[.v 0] (yC [.inr 0,.inr 0,.inl (.i 1),.inr 0])),.call 0 (yam #[.v 0] (yC [.inr 0,.inr 0,.inl (.i 1),.inr 0]))]]]])]⟩
def yjc:Fn:=⟨1,1,AB,#[.ret (.tup #[.s "sum",.v 0,.cst yb8,.cst yb8])]⟩
def yjd:Fn:=⟨1,1,AB,#[.ret (.lst #[.tup #[.s "set",.v 0,.i 1],.tup #[.s "less",.v 0,.v 0,.cst yb8]])]⟩
def yje:Fn:=⟨3,4,AB,#[.asg (.n 3) (.tup #[.s "any",.cst ygi,.cst ygi,.call 0 (yam #[.v 0] (yC [.inr 0,.inl (.i 1),.inr 0,.inl (.v 1)]))]),.ret (.bin .add (.bin .add (.call 2 #[.lst #[.tup #[.s "set",.cst ygi,.i 0]]]) (.call 3 #[.v 2,.tup .e,.call 2 #[.lst #[.v 3]]])) (.call 2 #[.lst #[.tup #[.s "ask",.cst ygi]]]))]⟩
def yjf:Fn:=⟨2,3,AB,#[.asg (.n 2) (.lst #[.tup #[.s "twice",.cst ycM,.call 0 (yam #[.s "c",.bin .sub (.v 0) (.i 1)] (yC [.inr 0,.inr 0,.inl (.v 1)]))],.call 8 #[.idx (.cst yk) (.i 3)]]),.ret (.bin .add (.call 10 #[.s "c",.i 0,.tup #[.v 0,.v 1,.i 0]]) (.call 2 #[.bin .add (.call 9 #[.idx (.cst yk) (.i 2)]) (.v 2)]))]⟩
def yjg:Fn:=⟨0,0,AB,#[.ret (.bin .add (.bin .add (.call 14 #[.s "a",.s "b",.s "c",.s "d"]) (.call 13 .e)) (.call 11 #[.i 0,.i 1]))]⟩
def yjh:Fn:=⟨0,0,AB,#[.ret (.bin .add (.call 10 #[.s "b",.i 0,.cst yy]) (.call 2 #[.call 9 #[.idx (.cst yk) (.i 0)]]))]⟩
def yji:Fn:=⟨4,6,AB,#[.asg (.n 4) (.tup #[.call 5 (yam #[.i 1,.tup #[.call 4 (yam #[.v 0] (yC [.inr 0,.inr 0,.inr 0,.inl (.i 1)]))]] (yC [.inl (.i 1),.inr 0,.inr 0,.inr 0])),.call 5 (yam #[.neg (.i 1),.tup #[.call 4 (yam #[.v 2] (yC [.inr 0,.inr 0,.inr 0,.inl (.i 1)])),.call 4 (yam #[.v 1] (yC [.inr 0,.inr 0,.inr 0,.inl (.i 1)]))]] (yC [.inr 0,.inr 0,.inr 0,.inl (.i 1)])),.call 5 (yam #[.neg (.i 1),.tup #[.call 4 (yam #[.v 3,.i 1] (yC [.inr 0,.inr 0,.inl (.i 1)]))]] (yC [.inr 0,.inr 0,.inr 0,.inl (.i 1)])),.call 5 (yam #[.neg (.i 1),.tup #[.call 4 (yam #[.s "e"] (yC [.inr 0,.inr 0,.inr 0,.inl (.i 1)]))]] (yC [.inr 0,.inr 0,.inr 0,.inr 0]))]),.asg (.n 5) (.bin .add (.bin .add (.bin .add (.call 15 #[.v 3]) (.call 16 #[.v 3,.v 1])) (.call 17 #[.v 3,.v 1])) (.call 18 #[.v 2])),.ret (.bin .add (.call 6 (yam #[.s "e",.v 0] (yC [.inr 0]))) (.call 3 #[.cst yiW,.v 4,.v 5]))]⟩
def yjj:Fn:=⟨1,1,AB,#[.ret (.bin .add (.bin .add (.call 2 #[.lst #[.tup #[.s "mark",.i 0]]]) (.call 7 #[.s "e",.cst yy])) (.call 7 #[.v 0,.tup #[.i 1,.i 1,.i 0]]))]⟩
def yjk:Fn:=⟨2,4,AB,#[.asg (.n 2) (.tup #[.s "less",.call 0 (yam #[.v 0] (yC [.inr 0,.inr 0,.inl (.i 1),.inr 0])),.call 0 (yam #[.v 0] (yC [.inr 0,.inr 0,.inl (.i 1),.inr 0])),.call 0 (yam #[.v 1] (yC [.inr 0,.inr 0,.inl (.i 1),.inr 0]))]),.asg (.n 3) (.call 0 (yam #[.v 0] (yC [.inr 0,.inr 0,.inr 0,.inl (.i 1)]))),.ret (.bin .add (.call 3 #[.cst yy,.tup .e,.call 2 #[.lst #[.v 2]]]) (.call 2 #[.lst #[.tup #[.s "less",.v 3,.v 3,.cst yb8]]]))]⟩
def yjl:Fn:=⟨2,5,AB,#[.asg (.n 2) (.lst #[.tup #[.s "both",.cst ycM,.call 0 (yam #[.v 1] (yC [.inr 0,.inr 0,.inl (.i 1),.inr 0])),.cst yes],.tup #[.s "sum",.call 0 (yam #[.v 0] (yC [.inr 0,.inr 0,.inl (.i 1),.inr 0])),.call 0 (yam #[.v 0] (yC [.inr 0,.inr 0,.inl (.i 1),.inr 0])),.cst ycM]]),.asg (.n 3) (.call 0 (yam #[.v 0] (yC [.inr 0,.inr 0,.inr 0,.inl (.i 1)]))),.asg (.n 4) (.call 2 #[.lst #[.tup #[.s "less",.cst yes,.cst yb8,.cst yb8],.tup #[.s "mark",.i 0]]]),.ret (.bin .add (.bin .add (.v 4) (.call 3 #[.cst yy,.tup .e,.call 2 #[.v 2]])) (.call 2 #[.lst #[.tup #[.s "sum",.v 3,.v 3,.cst yb8]]]))]⟩
def yjm:Fn:=⟨1,1,AB,#[.ret (.bin .add (.call 2 #[.lst #[.tup #[.s "bare",.cst yes,.cst yes],.tup #[.s "ask",.cst yes]]]) (.call 7 #[.v 0,.cst yy]))]⟩
def yey:Fn:=⟨3,3,AB,#[.ret (.and (.isi (.v 0) [.int]) (.and (.not (.isi (.v 0) [.bool])) (.chain .le .le (.v 1) (.v 0) (.v 2))))]⟩
def yij:Fn:=⟨1,1,AB,#[.ret (.and (.isi (.v 0) [.str]) (.and (.cmp .eq (.blt .len #[.v 0]) (.i 1)) (.chain .le .le (.s "a") (.v 0) (.s "z"))))]⟩
def yjn:Fn:=⟨2,2,AB,#[.ite (.or (.not (.isi (.v 0) [.tuple])) (.cmp .ne (.blt .len #[.v 0]) (.v 1))) #[.nope] .e,.ret (.blt .all #[.comp [AD] (.n 0) (.seq (.v 0)) (.cst (.bl AB)) (.call 19 #[.v 0,.neg (.cst yi2),.cst yi2])])]⟩
def yjo:Fn:=⟨0,3,AB,#[.asg (.n 0) (.bin .add (.bin .add (.call 23 #[.cst ygr,.s "a"]) (.call 23 #[.cst yho,.s "b"])) (.call 2 #[.lst #[.tup #[.s "odd",.cst yT,.cst ygr,.cst yho]]])),.asg (.n 1) (.bin .add (.call 25 #[.cst ygr,.s "u",.s "a"]) (.call 25 #[.cst yho,.s "v",.s "b"])),.asg (.n 2) (.bin .add (.call 25 #[.cst yT,.s "c",.s "q"]) (.call 25 #[.cst ygr,.s "d",.s "r"])),.ret (.bin .add (.bin .add (.bin .add (.bin .add (.bin .add (.bin .add (.v 0) (.v 1)) (.call 14 #[.s "u",.s "v",.s "q",.s "r"])) (.v 2)) (.call 13 .e)) (.call 26 .e)) (.call 11 #[.i 0,.i 1]))]⟩
def yjp:Fn:=⟨2,2,AB,#[.ret (.call 2 #[.lst #[.tup #[.s "twice",.cst ycM,.call 1 #[.v 1]],.call 8 #[.v 0]]])]⟩
def yjq:Fn:=⟨1,1,AB,#[.ret (.call 4 (yam #[.idx (.v 0) (.i 0),.i 1] (yC [.inr 0,.inr 0,.inr 0])))]⟩
def yjr:Fn:=⟨3,4,AB,#[.asg (.n 3) (.tup #[.call 5 (yam #[.i 1,.tup #[.call 4 (yam #[.v 1] (yC [.inr 0,.inl (.i 1),.inr 0,.inr 0]))]] (yC [.inr 0,.inr 0,.inr 0,.inr 0])),.call 5 (yam #[.i 1,.tup #[.tup #[.s "mark"]]] (yC [.inr 0,.inl (.i 1),.inr 0,.inr 0])),.call 5 (yam #[.neg (.i 1),.tup #[.call 4 (yam #[.v 2] (yC [.inr 0,.inl (.i 1),.inr 0,.inr 0]))]] (yC [.inr 0,.inr 0,.inr 0,.inr 0])),.call 5 (yam #[.i 2,.tup #[.call 24 #[.v 0],.call 4 (yam #[.v 2] (yC [.inr 0,.inl (.i 1),.inr 0,.inr 0]))]] (yC [.inr 0,.inr 0,.inr 0,.inr 0])),.call 5 (yam #[.neg (.i 1),.tup #[.call 24 #[.v 0]]] (yC [.inr 0,.inl (.i 1),.inr 0,.inr 0]))]),.ret (.bin .add (.call 2 #[.lst #[.tup #[.s "ask",.v 0],.tup #[.s "less",.cst yig,.cst yb8,.cst yb8]]]) (.call 3 #[.cst yy,.v 3,.call 2 #[.lst #[.tup #[.s "odd",.cst ycM,.call 0 (yam #[.v 2] (yC [.inr 0,.inl (.i 1),.inr 0,.inr 0])),.cst yig],.tup #[.s "sum",.call 0 (yam #[.v 1] (yC [.inr 0,.inl (.i 1),.inr 0,.inr 0])),.cst ycM,.cst yb8]]]]))]⟩
def yjs:Fn:=⟨0,0,AB,#[.ret (.call 2 #[.lst #[.tup #[.s "twice",.cst ycM,.call 1 #[.s "q"]],.call 8 #[.idx (.cst yk) (.i 1)],.tup #[.s "any",.idx (.cst yk) (.i 1),.idx (.cst yk) (.i 1),.cst yT],.tup #[.s "odd",.idx (.cst yk) (.i 1),.idx (.cst yk) (.i 1),.cst yT]]])]⟩
def yhp:Fn:=⟨1,1,AB,#[.ret (.call 29 #[.v 0,.cst (.bl AC)])]⟩
def yjt:Fn:=⟨1,1,AB,#[.ret (.call 29 #[.v 0,.cst (.bl AB)])]⟩
def yR:Fn:=⟨2,4,AB,#[.ite (.or (.not (.call 30 #[.v 0])) (.cmp .ne (.blt .len #[.v 0]) (.bin .add (.blt .len #[.dix ybK (.idx (.v 0) (.i 0))]) (.i 1)))) #[.ret (.cst (.bl AC))] .e,.for (.t [2,3]) (.zip (.dix ybK (.idx (.v 0) (.i 0))) (.slc (.v 0) (.i 1) (.cst .non))) #[.ite (.not (.call 31 #[.v 2,.v 3,.v 1])) #[.ret (.cst (.bl AC))] .e],.ret (.or (.cmp .ne (.idx (.v 0) (.i 0)) (.s "times")) (.cmp .ne (.idx (.v 0) (.i 1)) (.idx (.v 0) (.i 2))))]⟩
def yhq:Fn:=⟨1,1,AB,#[.ret (.and (.isi (.v 0) [.tuple]) (.and (.cmp .gt (.blt .len #[.v 0]) (.i 0)) (.and (.isi (.idx (.v 0) (.i 0)) [.str]) (.din (.idx (.v 0) (.i 0)) ybK))))]⟩
def ye2:Fn:=⟨3,3,AB,#[.ite (.cmp .eq (.v 0) (.s "figure")) #[.ret (.call 19 #[.v 1,.i 0,.i 1])] .e,.ret (.ite (.v 2) (.call 33 #[.v 1]) (.call 32 #[.v 1]))]⟩
def yhr:Fn:=⟨1,1,AB,#[.ret (.and (.call 34 #[.v 0]) (.call 19 #[.idx (.v 0) (.i 1),.i 0,.i 99]))]⟩
def yju:Fn:=⟨1,1,AB,#[.ret (.and (.call 34 #[.v 0]) (.call 21 #[.idx (.v 0) (.i 1),.i 4]))]⟩
def yhs:Fn:=⟨1,1,AB,#[.ret (.and (.isi (.v 0) [.tuple]) (.and (.cmp .eq (.blt .len #[.v 0]) (.i 2)) (.call 20 #[.idx (.v 0) (.i 0)])))]⟩
def yjv:Fn:=⟨1,1,AB,#[.ret (.and (.isi (.v 0) [.tuple]) (.and (.cmp .le (.blt .len #[.v 0]) (.cst yj5)) (.blt .all #[.comp [AD] (.n 0) (.seq (.v 0)) (.cst (.bl AB)) (.call 37 #[.v 0])])))]⟩
def yht:Fn:=⟨4,4,AB,#[.ret (.bin .add (.bin .add (.bin .add (.idx (.v 0) (.i 0)) (.bin .mul (.idx (.v 0) (.i 1)) (.v 2))) (.bin .mul (.idx (.v 0) (.i 2)) (.v 3))) (.bin .mul (.idx (.v 0) (.i 3)) (.v 1)))]⟩
def yjw:Fn:=⟨1,4,AB,#[.ite (.or (.not (.isi (.v 0) [.tuple])) (.cmp .ne (.blt .len #[.v 0]) (.i 3))) #[.ret (.cst (.bl AC))] .e,.asg (.t [1,2,3]) (.v 0),.ret (.and (.call 19 #[.v 1,.bin .sub (.i 1) (.cst yiX),.bin .sub (.cst yiX) (.i 1)]) (.and (.call 21 #[.v 2,.i 6]) (.call 38 #[.v 3])))]⟩
def yjx:Fn:=⟨1,1,AB,#[.ret (.and (.isi (.v 0) [.tuple]) (.and (.cmp .le (.blt .len #[.v 0]) (.cst yj6)) (.blt .all #[.comp [AD] (.n 0) (.seq (.v 0)) (.cst (.bl AB)) (.call 39 #[.v 0])])))]⟩
def yjy:Fn:=⟨1,1,AB,#[.ite (.or (.not (.isi (.v 0) [.tuple])) (.cmp .eq (.blt .len #[.v 0]) (.i 0))) #[.ret (.cst (.bl AC))] .e,.ite (.cmp .eq (.idx (.v 0) (.i 0)) (.s "mark")) #[.ret (.cmp .eq (.blt .len #[.v 0]) (.i 1))] .e,.ite (.or (.cmp .ne (.idx (.v 0) (.i 0)) (.s "slice")) (.or (.cmp .ne (.blt .len #[.v 0]) (.i 4)) (.not (.call 20 #[.idx (.v 0) (.i 1)])))) #[.ret (.cst (.bl AC))] .e,.ret (.and (.call 21 #[.idx (.v 0) (.i 2),.i 4]) (.call 21 #[.idx (.v 0) (.i 3),.i 4]))]⟩
def yik:Fn:=⟨3,3,AC,#[.sfl 20 (.v 0) (AE "w") (.v 1),.sfl 20 (.v 0) (AE "n") (.v 2),.sfl 20 (.v 0) (AE "steps") (.newl .e),.sfl 20 (.v 0) (AE "rows") (.i 0),.sfl 20 (.v 0) (AE "rounds") (.i 0)]⟩
def yo:Fn:=⟨3,4,AC,#[.for (.n 3) (.seq (.v 1)) #[.ite (.cmp .eq (.idx (.v 3) (.i 0)) (.s "row")) #[.expr (.mcl 20 44 (AE "add_row") (.v 0) #[.idx (.v 3) (.i 1),.v 2])] #[.expr (.mcl 20 42 (AE "go_rounds") (.v 0) #[.v 3,.v 2])]]]⟩
def yp:Fn:=⟨3,5,AC,#[.asg (.n 3) (.blt .max #[.i 0,.mcl 20 43 (AE "count_of") (.v 0) #[.idx (.v 1) (.i 1)]]),.for (.n 4) (.range1 (.v 3)) #[.expr (.mcl 20 46 (AE "add_asked") (.v 0) #[.idx (.v 1) (.i 2),.bin .add (.v 2) (.tup #[.v 4])]),.expr (.mcl 20 45 (AE "add_round") (.v 0) .e),.expr (.mcl 20 41 (AE "go_parts") (.v 0) #[.idx (.v 1) (.i 3),.bin .add (.v 2) (.tup #[.v 4])])],.expr (.mcl 20 46 (AE "add_asked") (.v 0) #[.idx (.v 1) (.i 2),.bin .add (.v 2) (.tup #[.v 3])])]⟩
def y9:Fn:=⟨2,5,AC,#[.asg (.t [2,3,4]) (.v 1),.ret (.bin .add (.bin .add (.v 2) (.bin .mul (.v 3) (.fld 20 (.v 0) (AE "n")))) (.bin .mul (.bin .mul (.v 4) (.fld 20 (.v 0) (AE "w"))) (.fld 20 (.v 0) (AE "n"))))]⟩
def yhu:Fn:=⟨3,6,AC,#[.asg (.t [3,4]) (.call 52 #[.v 2]),.asg (.n 5) (.blt .tuple #[.comp [AD,AA 3,AA 4,AA 0] (.n 0) (.seq (.v 1)) (.cst (.bl AB)) (.call 53 #[.v 0,.fld 20 (.v 3) (AE "n"),.v 1,.v 2])]),.sfl 20 (.v 0) (AE "rows") (.bin .add (.fld 20 (.v 0) (AE "rows")) (.i 1)),.ite (.or (.not (.call 27 #[.v 5])) (.cmp .gt (.fld 20 (.v 0) (AE "rows")) (.cst yi1))) #[.nope] .e,.expr (.mth .append (.fld 20 (.v 0) (AE "steps")) #[.tup #[.s "row",.v 5]])]⟩
def yhv:Fn:=⟨1,1,AC,#[.sfl 20 (.v 0) (AE "rounds") (.bin .add (.fld 20 (.v 0) (AE "rounds")) (.i 1)),.ite (.cmp .gt (.fld 20 (.v 0) (AE "rounds")) (.cst yi0)) #[.nope] .e]⟩
def yhw:Fn:=⟨3,5,AC,#[.asg (.t [3,4]) (.call 52 #[.v 2]),.expr (.mth .append (.fld 20 (.v 0) (AE "steps")) #[.tup #[.s "asked",.v 1,.v 3,.v 4]])]⟩
def yil:Fn:=⟨1,1,AB,#[.ret (.call 50 #[.v 0,.cst yj4])]⟩
def yhx:Fn:=⟨3,3,AB,#[.ret (.blt .tuple #[.comp [AD] (.n 0) (.seq (.call 49 #[.v 0,.v 1,.v 2])) (.cmp .eq (.idx (.v 0) (.i 0)) (.s "row")) (.idx (.v 0) (.i 1))])]⟩
def yhy:Fn:=⟨3,4,AB,#[.ite (.not (.call 47 #[.v 0])) #[.nope] .e,.asg (.n 3) (.new 20 40 #[.v 1,.v 2]),.expr (.mcl 20 41 (AE "go_parts") (.v 3) #[.v 0,.tup .e]),.ret (.frz (.fld 20 (.v 3) (AE "steps")))]⟩
def yjz:Fn:=⟨2,2,AB,#[.ret (.and (.isi (.v 0) [.tuple]) (.blt .all #[.comp [AD,AA 1] (.n 0) (.seq (.v 0)) (.cst (.bl AB)) (.call 51 #[.v 0,.v 1])]))]⟩
def yjA:Fn:=⟨2,2,AB,#[.ite (.or (.not (.isi (.v 0) [.tuple])) (.cmp .eq (.blt .len #[.v 0]) (.i 0))) #[.ret (.cst (.bl AC))] .e,.ite (.cmp .eq (.idx (.v 0) (.i 0)) (.s "row")) #[.ret (.and (.cmp .eq (.blt .len #[.v 0]) (.i 2)) (.call 28 #[.idx (.v 0) (.i 1)]))] .e,.ite (.or (.cmp .ne (.idx (.v 0) (.i 0)) (.s "rounds")) (.or (.cmp .ne (.blt .len #[.v 0]) (.i 4)) (.cmp .eq (.v 1) (.i 0)))) #[.ret (.cst (.bl AC))] .e,.ret (.and (.call 21 #[.idx (.v 0) (.i 1),.i 3]) (.and (.call 35 #[.idx (.v 0) (.i 2)]) (.call 50 #[.idx (.v 0) (.i 3),.bin .sub (.v 1) (.i 1)])))]⟩
def ygs:Fn:=⟨1,1,AB,#[.ret (.slc (.bin .add (.v 0) (.tup #[.i 0,.i 0])) (.cst .non) (.i 2))]⟩
def ydb:Fn:=⟨4,4,AB,#[.ite (.not (.isi (.v 0) [.tuple])) #[.ret (.v 0)] .e,.ret (.tup #[.idx (.v 0) (.i 0),.call 36 #[.idx (.v 0) (.i 1),.v 1,.v 2,.v 3]])]⟩
def yim:Fn:=⟨1,1,AB,#[.ite (.not (.call 56 #[.v 0])) #[.nope] .e,.ite (.cmp .eq (.idx (.v 0) (.i 0)) (.s "led")) #[.nope] .e,.ite (.cmp .isin (.idx (.v 0) (.i 0)) (.cst ygo)) #[.nope] .e,.ite (.cmp .isin (.idx (.v 0) (.i 0)) (.cst yi3)) #[.nope] .e,.ret (.call 60 #[.idx (.v 0) (.i 0)])]⟩
def ygx:Fn:=⟨3,3,AB,#[.ret (.call 48 #[.call 54 #[.v 0],.v 1,.v 2])]⟩
def yjB:Fn:=⟨1,1,AB,#[.ite (.or (.not (.isi (.v 0) [.tuple])) (.cmp .eq (.blt .len #[.v 0]) (.i 0))) #[.nope] .e,.ite (.cmp .eq (.idx (.v 0) (.i 0)) (.s "led")) #[.nope] .e,.ite (.cmp .isin (.idx (.v 0) (.i 0)) (.cst ygo)) #[.nope] .e,.ret (.and (.cmp .eq (.blt .len #[.v 0]) (.i 1)) (.or (.cmp .isin (.idx (.v 0) (.i 0)) (.cst yih)) (.cmp .isin (.idx (.v 0) (.i 0)) (.cst yiY))))]⟩
def yjC:Fn:=⟨1,1,AB,#[.ret (.cmp .isin (.idx (.v 0) (.i 0)) (.cst yih))]⟩
def yA:Fn:=⟨2,2,AB,#[.ite (.cmp .eq (.idx (.v 0) (.i 0)) (.s "compare")) #[.nope] .e,.ite (.cmp .eq (.idx (.v 0) (.i 0)) (.s "led")) #[.nope] .e,.ret (.ite (.cmp .isin (.idx (.v 0) (.i 0)) (.cst yii)) (.bin .mul (.i 2) (.v 1)) (.v 1))]⟩
def ye3:Fn:=⟨2,2,AB,#[.ret (.ite (.cmp .isin (.idx (.v 0) (.i 0)) (.cst yet)) (.v 1) (.i 0))]⟩
def yjD:Fn:=⟨1,1,AB,#[.ite (.cmp .eq (.v 0) (.s "sum")) #[.nope] .e,.ite (.cmp .eq (.v 0) (.s "difference")) #[.nope] .e,.ite (.cmp .eq (.v 0) (.s "turned")) #[.nope] .e,.ite (.cmp .eq (.v 0) (.s "compare")) #[.nope] .e,.ite (.cmp .eq (.v 0) (.s "bare")) #[.nope] .e,.ite (.cmp .eq (.v 0) (.s "product")) #[.nope] .e,.ite (.cmp .eq (.v 0) (.s "signed product")) #[.nope] .e,.ite (.cmp .eq (.v 0) (.s "quotient")) #[.ret (.call 12 .e)] .e,.ret (.call 22 .e)]⟩
def yhz:Fn:=⟨5,6,AB,#[.mkr 5 yf (.v 0) #[.v 1,.v 2,.v 3,.v 4]]⟩
def yhA:Fn:=⟨1,1,AB,#[.ret (.bin .sub (.bin .shl (.i 1) (.v 0)) (.i 1))]⟩
def yhB:Fn:=⟨4,4,AB,#[.ret (.tup #[.v 1,.v 3])]⟩
def yhC:Fn:=⟨4,4,AB,#[.ret (.tup #[.bin .sub (.call 62 #[.v 0]) (.v 1),.v 3])]⟩
def yhD:Fn:=⟨4,5,AB,#[.asg (.n 4) (.bin .add (.bin .add (.v 1) (.v 2)) (.v 3)),.ret (.tup #[.bin .band (.v 4) (.call 62 #[.v 0]),.bin .shr (.v 4) (.v 0)])]⟩
def yY:Fn:=⟨4,5,AB,#[.asg (.n 4) (.bin .sub (.bin .sub (.v 1) (.v 2)) (.v 3)),.ret (.tup #[.bin .band (.v 4) (.call 62 #[.v 0]),.ite (.cmp .lt (.v 4) (.i 0)) (.i 1) (.i 0)])]⟩
def yhE:Fn:=⟨4,4,AB,#[.ret (.tup #[.bin .band (.v 1) (.v 2),.v 3])]⟩
def yhF:Fn:=⟨4,4,AB,#[.ret (.tup #[.bin .bor (.v 1) (.v 2),.v 3])]⟩
def yhG:Fn:=⟨4,4,AB,#[.ret (.tup #[.bin .bxor (.v 1) (.v 2),.v 3])]⟩
def yhH:Fn:=⟨4,4,AB,#[.ret (.call 65 #[.v 0,.v 1,.v 1,.v 3])]⟩
def yhI:Fn:=⟨4,4,AB,#[.ret (.tup #[.bin .bor (.bin .shr (.v 1) (.i 1)) (.bin .shl (.v 3) (.bin .sub (.v 0) (.i 1))),.bin .band (.v 1) (.i 1)])]⟩
def yhJ:Fn:=⟨2,2,AC,#[.sfl 21 (.v 0) (AE "w") (.v 1),.sfl 21 (.v 0) (AE "words") (.dict0 AB),.sfl 21 (.v 0) (AE "marked") (.i 0)]⟩
def yhK:Fn:=⟨4,5,AC,#[.asg (.n 4) (.call 79 #[.v 1,.v 2]),.ite (.not (.call 19 #[.v 3,.i 0,.call 62 #[.fld 21 (.v 0) (AE "w")]])) #[.nope] .e,.dput (.fld 21 (.v 0) (AE "words")) (.v 4) (.v 3)]⟩
def yhL:Fn:=⟨3,3,AC,#[.ret (.mcl 21 76 (AE "held_in") (.v 0) #[.call 79 #[.v 1,.v 2]])]⟩
def yF:Fn:=⟨2,3,AC,#[.for (.n 2) (.seq (.v 1)) #[.expr (.call 80 #[.v 2])],.for (.n 2) (.seq (.v 1)) #[.expr (.mcl 21 77 (AE "go_row") (.v 0) #[.v 2])]]⟩
def yhM:Fn:=⟨2,2,AC,#[.ret (.mth .get (.fld 21 (.v 0) (AE "words")) #[.v 1,.i 0])]⟩
def yi:Fn:=⟨2,2,AC,#[.ite (.cmp .eq (.idx (.v 1) (.i 0)) (.s "mark")) #[.sfl 21 (.v 0) (AE "marked") (.idx (.v 1) (.i 1))] #[.ite (.cmp .eq (.idx (.v 1) (.i 0)) (.s "ask")) #[.sfl 21 (.v 0) (AE "marked") (.ite (.cmp .eq (.mcl 21 76 (AE "held_in") (.v 0) #[.idx (.v 1) (.i 1)]) (.i 0)) (.i 0) (.i 1))] #[.ite (.cmp .eq (.idx (.v 1) (.i 0)) (.s "set")) #[.dput (.fld 21 (.v 0) (AE "words")) (.idx (.v 1) (.i 1)) (.idx (.v 1) (.i 2))] #[.ite (.cmp .eq (.idx (.v 1) (.i 0)) (.s "times")) #[.nope] #[.expr (.mcl 21 78 (AE "go_made") (.v 0) #[.v 1])]]]]]⟩
def yhN:Fn:=⟨2,6,AC,#[.asg (.t [2,3]) (.tup #[.mcl 21 76 (AE "held_in") (.v 0) #[.idx (.v 1) (.i 2)],.mcl 21 76 (AE "held_in") (.v 0) #[.idx (.v 1) (.neg (.i 1))]]),.asg (.t [4,5]) (.call 61 #[.idx (.v 1) (.i 0),.fld 21 (.v 0) (AE "w"),.v 2,.v 3,.fld 21 (.v 0) (AE "marked")]),.dput (.fld 21 (.v 0) (AE "words")) (.idx (.v 1) (.i 1)) (.v 4),.sfl 21 (.v 0) (AE "marked") (.v 5)]⟩
def yin:Fn:=⟨2,2,AB,#[.ite (.not (.call 32 #[.tup #[.v 0,.v 1]])) #[.nope] .e,.ret (.tup #[.v 0,.v 1])]⟩
def ygO:Fn:=⟨1,1,AB,#[.ite (.not (.call 27 #[.v 0])) #[.nope] .e]⟩
def yhO:Fn:=⟨3,3,AB,#[.ite (.or (.cmp .lt (.v 0) (.i 0)) (.cmp .ge (.v 0) (.bin .shl (.i 1) (.bin .mul (.v 1) (.v 2))))) #[.nope] .e,.ret (.call 83 #[.v 0,.v 1,.v 2])]⟩
def yhP:Fn:=⟨2,2,AB,#[.ret (.bin .shr (.idx (.v 0) (.neg (.i 1))) (.bin .sub (.v 1) (.i 1)))]⟩
def yhQ:Fn:=⟨3,4,AB,#[.asg (.n 3) (.bin .sub (.bin .shl (.i 1) (.v 1)) (.i 1)),.ret (.blt .tuple #[.comp [AD,AA 3,AA 0,AA 1] (.n 0) (.range1 (.v 2)) (.cst (.bl AB)) (.bin .band (.bin .shr (.v 2) (.bin .mul (.v 3) (.v 0))) (.v 1))])]⟩
def ya8:Fn:=⟨5,10,AB,#[.expr (.call 85 #[.v 0,.v 1,.v 2,.v 3,.v 4]),.ite (.cmp .eq (.idx (.v 0) (.i 0)) (.s "compare")) #[.nope] .e,.asg (.t [5,6,7]) (.call 86 #[.v 0,.v 1,.v 2,.v 3,.v 4]),.asg (.n 8) (.call 83 #[.v 5,.v 1,.call 58 #[.v 0,.v 2]]),.asg (.n 9) (.call 83 #[.bin .sub (.v 3) (.bin .mul (.v 4) (.v 5)),.v 1,.call 59 #[.v 0,.v 2]]),.ret (.tup #[.v 8,.v 9,.tup #[.v 6,.v 7,.ite (.blt .any #[.v 8]) (.i 0) (.i 1),.call 82 #[.v 8,.v 1]]])]⟩
def ygX:Fn:=⟨5,5,AB,#[.ite (.not (.call 56 #[.v 0])) #[.nope] .e,.expr (.call 81 #[.v 3,.v 1,.v 2]),.expr (.call 81 #[.v 4,.v 1,.v 2]),.ite (.and (.cmp .ne (.v 4) (.i 0)) (.not (.call 57 #[.v 0]))) #[.nope] .e,.ite (.and (.cmp .eq (.v 4) (.i 0)) (.cmp .isin (.idx (.v 0) (.i 0)) (.cst yet))) #[.nope] .e]⟩
def yaz:Fn:=⟨5,6,AB,#[.ite (.cmp .eq (.idx (.v 0) (.i 0)) (.s "led")) #[.nope] .e,.mkr 5 yif (.idx (.v 0) (.i 0)) #[.v 3,.ite (.cmp .isin (.idx (.v 0) (.i 0)) (.cst ygo)) (.idx (.v 0) (.i 1)) (.v 4),.bin .mul (.v 1) (.v 2)]]⟩
def yhR:Fn:=⟨2,2,AB,#[.ret (.bin .sub (.v 0) (.bin .shl (.bin .shr (.v 0) (.bin .sub (.v 1) (.i 1))) (.v 1)))]⟩
def yg2:Fn:=⟨2,3,AB,#[.asg (.n 2) (.bin .shl (.i 1) (.bin .sub (.v 1) (.i 1))),.ret (.ite (.chain .le .lt (.neg (.v 2)) (.v 0) (.v 2)) (.i 0) (.i 1))]⟩
def yjE:Fn:=⟨3,3,AB,#[.ret (.tup #[.bin .add (.v 0) (.v 1),.bin .shr (.bin .add (.v 0) (.v 1)) (.v 2),.call 88 #[.bin .add (.call 87 #[.v 0,.v 2]) (.call 87 #[.v 1,.v 2]),.v 2]])]⟩
def yjF:Fn:=⟨3,3,AB,#[.ret (.tup #[.bin .sub (.v 0) (.v 1),.blt .int #[.cmp .lt (.v 0) (.v 1)],.call 88 #[.bin .sub (.call 87 #[.v 0,.v 2]) (.call 87 #[.v 1,.v 2]),.v 2]])]⟩
def yjG:Fn:=⟨3,3,AB,#[.ret (.call 90 #[.i 0,.v 0,.v 2])]⟩
def yjH:Fn:=⟨3,3,AB,#[.ret (.tup #[.bin .band (.v 0) (.v 1),.i 0,.i 0])]⟩
def yjI:Fn:=⟨3,3,AB,#[.ret (.tup #[.bin .bor (.v 0) (.v 1),.i 0,.i 0])]⟩
def yjJ:Fn:=⟨3,3,AB,#[.ret (.tup #[.bin .bxor (.v 0) (.v 1),.i 0,.i 0])]⟩
def yjK:Fn:=⟨3,3,AB,#[.ret (.tup #[.bin .sub (.neg (.i 1)) (.v 0),.i 0,.i 0])]⟩
def yjL:Fn:=⟨3,3,AB,#[.ret (.tup #[.bin .shl (.v 0) (.v 1),.bin .band (.bin .shr (.bin .shl (.v 0) (.v 1)) (.v 2)) (.i 1),.i 0])]⟩
def yjM:Fn:=⟨3,3,AB,#[.ret (.tup #[.bin .shr (.v 0) (.v 1),.bin .band (.bin .shr (.bin .mul (.i 2) (.v 0)) (.v 1)) (.i 1),.i 0])]⟩
def yjN:Fn:=⟨3,3,AB,#[.ret (.call 97 #[.call 87 #[.v 0,.v 2],.v 1,.v 2])]⟩
def yjO:Fn:=⟨3,4,AB,#[.asg (.n 3) (.bin .mod (.v 1) (.v 2)),.ret (.tup #[.bin .bor (.bin .shl (.v 0) (.v 3)) (.bin .shr (.v 0) (.bin .sub (.v 2) (.v 3))),.i 0,.i 0])]⟩
def yjP:Fn:=⟨3,3,AB,#[.ret (.tup #[.bin .mul (.v 0) (.v 1),.i 0,.ite (.cmp .eq (.bin .shr (.bin .mul (.v 0) (.v 1)) (.v 2)) (.i 0)) (.i 0) (.i 1)])]⟩
def yjQ:Fn:=⟨3,4,AB,#[.asg (.n 3) (.bin .mul (.call 87 #[.v 0,.v 2]) (.call 87 #[.v 1,.v 2])),.ret (.tup #[.v 3,.i 0,.call 88 #[.v 3,.v 2]])]⟩
def yhS:Fn:=⟨3,3,AB,#[.ret (.tup #[.bin .fdiv (.v 0) (.v 1),.i 0,.i 0])]⟩
def y4:Fn:=⟨3,6,AB,#[.asg (.t [3,4]) (.tup #[.call 87 #[.v 0,.v 2],.call 87 #[.v 1,.v 2]]),.asg (.n 5) (.bin .fdiv (.blt .abs #[.v 3]) (.blt .abs #[.v 4])),.ite (.cmp .ne (.cmp .lt (.v 3) (.i 0)) (.cmp .lt (.v 4) (.i 0))) #[.asg (.n 5) (.neg (.v 5))] .e,.ret (.tup #[.v 5,.i 0,.call 88 #[.v 5,.v 2]])]⟩
def yb7:Fn:=⟨5,7,AB,#[.expr (.call 85 #[.v 0,.v 1,.v 2,.v 3,.v 4]),.asg (.n 5) (.call 105 #[.v 1,.v 2,.v 3,.v 4]),.expr (.mcl 21 75 (AE "run") (.v 5) #[.call 55 #[.v 0,.v 1,.v 2]]),.asg (.n 6) (.call 106 #[.v 5,.s "c",.call 58 #[.v 0,.v 2]]),.ret (.tup #[.v 6,.call 106 #[.v 5,.s "d",.call 59 #[.v 0,.v 2]],.call 106 #[.v 5,.s "m",.cst yiZ]])]⟩
def yu:Fn:=⟨4,9,AC,#[.asg (.n 4) (.new 21 72 #[.v 0]),.for (.t [5,6]) (.seq (.tup #[.tup #[.s "a",.v 2],.tup #[.s "b",.v 3]])) #[.for (.t [7,8]) (.enum (.call 83 #[.v 6,.v 0,.v 1])) #[.expr (.mcl 21 73 (AE "put") (.v 4) #[.v 5,.v 7,.v 8])]],.ret (.v 4)]⟩
def yar:Fn:=⟨3,3,AC,#[.ret (.blt .tuple #[.comp [AD,AA 1,AA 0] (.n 0) (.range1 (.v 2)) (.cst (.bl AB)) (.mcl 21 74 (AE "word") (.v 2) #[.v 1,.v 0])])]⟩
def yhT:Fn:=⟨1,1,AC,#[.ret (.newl #[.slc (.v 0) (.cst .non) (.i 63),.i 0,.i 0,.cst (.bl AC)])]⟩
def yay:Fn:=⟨1,8,AB,#[.asg (.n 1) (.tup #[.i 2147483647,.i 2147483629,.i 2147483587,.i 2147483579,.i 2147483563]),.asg (.n 2) (.i 0),.for (.t [3,4]) (.enum (.v 1)) #[.asg (.n 5) (.bin .add (.v 0) (.idx (.tup #[.i 11,.i 101,.i 1009,.i 10007,.i 100003]) (.v 3))),.asg (.n 5) (.bin .mod (.bin .mul (.v 5) (.bin .add (.i 48271) (.bin .mul (.i 2) (.v 3)))) (.v 4)),.asg (.n 6) (.bin .mod (.bin .mul (.v 5) (.v 5)) (.v 4)),.asg (.n 7) (.bin .mod (.bin .mul (.bin .mod (.bin .mul (.v 6) (.v 6)) (.v 4)) (.v 5)) (.v 4)),.asg (.n 2) (.bin .add (.bin .mul (.v 2) (.v 4)) (.v 7))],.ret (.v 2)]⟩
def yai:Fn:=⟨1,4,AC,#[.asg (.t [1,2]) (.tup #[.idx (.v 0) (.i 0),.idx (.v 0) (.i 1)]),.asg (.n 3) (.bin .add (.bin .mul (.i 31) (.v 2)) (.i 7)),.ite (.cmp .gt (.blt .len #[.v 1]) (.i 0)) #[.asg (.n 3) (.bin .mul (.i 104729) (.bin .fdiv (.v 2) (.blt .len #[.v 1]))),.asg (.n 3) (.bin .add (.v 3) (.idx (.v 1) (.bin .mod (.v 2) (.blt .len #[.v 1]))))] .e,.six (.v 0) (.i 1) (.bin .add (.v 2) (.i 1)),.six (.v 0) (.i 3) (.or (.cmp .ge (.v 2) (.blt .len #[.v 1])) (.cmp .lt (.v 3) (.bin .pow (.i 10) (.i 18)))),.ite (.idx (.v 0) (.i 3)) #[.six (.v 0) (.i 2) (.call 108 #[.v 3])] #[.six (.v 0) (.i 2) (.bin .sub (.v 3) (.bin .pow (.i 10) (.i 18)))]]⟩
def yaa:Fn:=⟨2,4,AC,#[.asg (.n 2) (.i 0),.while (.and (.cmp .lt (.v 2) (.i 64)) (.or (.cmp .eq (.idx (.v 0) (.i 2)) (.i 0)) (.and (.idx (.v 0) (.i 3)) (.cmp .lt (.idx (.v 0) (.i 2)) (.bin .mul (.v 1) (.i 4096)))))) #[.expr (.call 109 #[.v 0]),.aug 2 .add (.i 1),.ite (.and (.idx (.v 0) (.i 3)) (.cmp .lt (.idx (.v 0) (.i 2)) (.bin .mul (.v 1) (.i 4096)))) #[.six (.v 0) (.i 2) (.bin .add (.idx (.v 0) (.i 2)) (.bin .mul (.bin .mul (.v 1) (.i 4096)) (.bin .add (.i 1) (.bin .mod (.idx (.v 0) (.i 2)) (.i 4093)))))] .e],.asg (.n 3) (.bin .mod (.idx (.v 0) (.i 2)) (.v 1)),.six (.v 0) (.i 2) (.bin .fdiv (.idx (.v 0) (.i 2)) (.v 1)),.ret (.v 3)]⟩
def yhU:Fn:=⟨2,2,AC,#[.ret (.tup #[.bin .add (.i 4) (.call 110 #[.v 0,.i 13]),.bin .add (.i 1) (.call 110 #[.v 0,.v 1])])]⟩
def yW:Fn:=⟨3,13,AC,#[.asg (.n 3) (.call 110 #[.v 0,.i 12]),.asg (.n 4) (.i 1),.for (.n 5) (.range1 (.bin .mul (.v 1) (.v 2))) #[.asg (.n 4) (.bin .mul (.i 2) (.v 4))],.asg (.n 6) (.tup #[.i 0,.i 1,.bin .sub (.v 4) (.i 1),.bin .fdiv (.v 4) (.i 2),.bin .sub (.bin .fdiv (.v 4) (.i 2)) (.i 1),.bin .sub (.v 4) (.i 2)]),.ite (.cmp .lt (.v 3) (.i 6)) #[.ret (.idx (.v 6) (.v 3))] .e,.asg (.n 7) (.call 110 #[.v 0,.v 4]),.ite (.cmp .eq (.v 3) (.i 6)) #[.asg (.n 8) (.i 1),.for (.n 5) (.range1 (.call 110 #[.v 0,.bin .mul (.v 1) (.v 2)])) #[.asg (.n 8) (.bin .mul (.i 2) (.v 8))],.ret (.bin .mul (.bin .fdiv (.v 7) (.v 8)) (.v 8))] .e,.ite (.cmp .eq (.v 3) (.i 7)) #[.asg (.n 8) (.i 1),.for (.n 5) (.range1 (.call 110 #[.v 0,.bin .mul (.v 1) (.v 2)])) #[.asg (.n 8) (.bin .mul (.i 2) (.v 8))],.ret (.bin .sub (.v 4) (.v 8))] .e,.ite (.cmp .gt (.v 3) (.i 9)) #[.ret (.v 7)] .e,.asg (.n 9) (.i 1),.for (.n 5) (.range1 (.v 1)) #[.asg (.n 9) (.bin .mul (.i 2) (.v 9))],.asg (.n 10) (.i 0),.for (.n 5) (.range1 (.v 2)) #[.asg (.n 11) (.bin .mod (.bin .fdiv (.v 7) (.bin .add (.v 5) (.i 1))) (.v 9)),.asg (.n 12) (.tup #[.i 0,.i 1,.bin .sub (.v 9) (.i 1),.bin .fdiv (.v 9) (.i 2),.v 11]),.asg (.n 10) (.bin .add (.bin .mul (.v 10) (.v 9)) (.idx (.v 12) (.call 110 #[.v 0,.i 5])))],.ret (.v 10)]⟩
def yhV:Fn:=⟨1,3,AB,#[.asg (.n 1) (.i 1),.for (.n 2) (.range1 (.v 0)) #[.asg (.n 1) (.bin .mul (.i 2) (.v 1))],.ret (.v 1)]⟩
def yhW:Fn:=⟨3,6,AB,#[.asg (.n 3) (.call 113 #[.v 1]),.asg (.n 4) (.newl .e),.for (.n 5) (.range1 (.v 2)) #[.expr (.mth .append (.v 4) #[.bin .mod (.v 0) (.v 3)]),.asg (.n 0) (.bin .fdiv (.v 0) (.v 3))],.ret (.blt .tuple #[.v 4])]⟩
def yhX:Fn:=⟨2,3,AB,#[.asg (.n 2) (.call 113 #[.v 1]),.ite (.cmp .ge (.bin .mul (.i 2) (.v 0)) (.v 2)) #[.ret (.bin .sub (.v 0) (.v 2))] .e,.ret (.v 0)]⟩
def yhY:Fn:=⟨1,1,AB,#[.ret (.and (.isi (.v 0) [.int]) (.not (.isi (.v 0) [.bool])))]⟩
def yhZ:Fn:=⟨3,3,AB,#[.ite (.or (.not (.isi (.v 0) [.tuple])) (.cmp .ne (.blt .len #[.v 0]) (.v 1))) #[.nope] .e,.ret (.blt .all #[.comp [AD,AA 2] (.n 0) (.seq (.v 0)) (.cst (.bl AB)) (.and (.call 116 #[.v 0]) (.chain .le .le (.bin .sub (.i 0) (.v 1)) (.v 0) (.v 1)))])]⟩
def yh0:Fn:=⟨3,3,AB,#[.ite (.or (.not (.isi (.v 0) [.tuple])) (.or (.cmp .ne (.blt .len #[.v 0]) (.v 2)) (.not (.blt .all #[.comp [AD] (.n 0) (.seq (.v 0)) (.cst (.bl AB)) (.call 116 #[.v 0])])))) #[.nope] .e,.ret (.blt .all #[.comp [AD,AA 1] (.n 0) (.seq (.v 0)) (.cst (.bl AB)) (.chain .le .lt (.i 0) (.v 0) (.call 113 #[.v 1]))])]⟩
def yh1:Fn:=⟨2,3,AB,#[.asg (.n 2) (.call 113 #[.v 1]),.ret (.chain .le .lt (.bin .sub (.i 0) (.v 2)) (.bin .mul (.i 2) (.v 0)) (.v 2))]⟩
def yh2:Fn:=⟨2,2,AB,#[.ret (.tup #[.blt .int #[.cmp .eq (.v 0) (.i 0)],.blt .int #[.cmp .ge (.bin .mul (.i 2) (.v 0)) (.call 113 #[.v 1])]])]⟩
def yg4:Fn:=⟨2,3,AB,#[.asg (.n 2) (.bin .fdiv (.blt .abs #[.v 0]) (.blt .abs #[.v 1])),.ite (.cmp .ne (.cmp .lt (.v 0) (.i 0)) (.cmp .lt (.v 1) (.i 0))) #[.asg (.n 2) (.bin .sub (.i 0) (.v 2))] .e,.ret (.tup #[.v 2,.bin .sub (.v 0) (.bin .mul (.v 1) (.v 2))])]⟩
def yO:Fn:=⟨3,7,AC,#[.asg (.n 3) (.call 112 #[.v 0,.v 1,.v 2]),.asg (.n 4) (.call 112 #[.v 0,.v 1,.v 2]),.asg (.n 5) (.call 110 #[.v 0,.i 7]),.asg (.n 6) (.call 113 #[.call 110 #[.v 0,.bin .mul (.v 1) (.v 2)]]),.ite (.or (.cmp .eq (.v 5) (.i 0)) (.cmp .eq (.v 5) (.i 5))) #[.asg (.n 4) (.bin .fdiv (.v 4) (.v 6))] .e,.ite (.cmp .eq (.v 5) (.i 1)) #[.asg (.n 4) (.bin .add (.i 1) (.call 110 #[.v 0,.i 9]))] .e,.ite (.cmp .eq (.v 5) (.i 2)) #[.asg (.n 4) (.v 6)] .e,.ite (.and (.or (.cmp .eq (.v 5) (.i 4)) (.cmp .eq (.v 5) (.i 5))) (.cmp .gt (.v 4) (.i 0))) #[.asg (.n 3) (.blt .max #[.i 0,.blt .min #[.bin .sub (.call 113 #[.bin .mul (.v 1) (.v 2)]) (.i 1),.bin .sub (.bin .add (.bin .mul (.bin .fdiv (.v 3) (.v 4)) (.v 4)) (.call 110 #[.v 0,.i 3])) (.i 1)]])] .e,.ite (.cmp .eq (.v 5) (.i 6)) #[.asg (.n 4) (.v 3)] .e,.ret (.tup #[.v 3,.v 4])]⟩
def yaF:Fn:=⟨5,10,AB,#[.asg (.n 5) (.bin .mul (.v 1) (.v 2)),.asg (.n 6) (.call 113 #[.v 5]),.ite (.cmp .eq (.v 0) (.tup #[.s "quotient"])) #[.asg (.t [7,8]) (.tup #[.bin .fdiv (.v 3) (.v 4),.bin .mod (.v 3) (.v 4)]),.asg (.n 9) (.bin .add (.tup #[.i 0,.i 0]) (.call 120 #[.v 7,.v 5]))] #[.asg (.t [7,8]) (.call 121 #[.call 115 #[.v 3,.v 5],.call 115 #[.v 4,.v 5]]),.asg (.n 9) (.bin .add (.tup #[.i 0,.blt .int #[.not (.call 119 #[.v 7,.v 5])]]) (.call 120 #[.bin .mod (.v 7) (.v 6),.v 5]))],.ret (.tup #[.call 114 #[.bin .mod (.v 7) (.v 6),.v 1,.v 2],.call 114 #[.bin .mod (.v 8) (.v 6),.v 1,.v 2],.v 9])]⟩
def yh3:Fn:=⟨4,4,AB,#[.ite (.or (.not (.isi (.v 0) [.tuple])) (.or (.cmp .ne (.blt .len #[.v 0]) (.i 3)) (.cmp .ne (.v 0) (.v 1)))) #[.nope] .e,.ret (.and (.call 118 #[.idx (.v 0) (.i 0),.v 2,.v 3]) (.and (.call 118 #[.idx (.v 0) (.i 1),.v 2,.v 3]) (.call 117 #[.idx (.v 0) (.i 2),.i 4,.i 1])))]⟩
def ybm:Fn:=⟨1,13,AB,#[.asg (.n 1) (.call 107 #[.v 0]),.asg (.n 2) (.bin .add (.i 1) (.call 110 #[.v 1,.i 4])),.asg (.n 3) (.bin .add (.i 4) (.call 110 #[.v 1,.blt .min #[.i 13,.bin .sub (.bin .fdiv (.i 40) (.v 2)) (.i 3)]])),.asg (.t [4,5]) (.call 122 #[.v 1,.v 3,.v 2]),.asg (.n 5) (.blt .max #[.i 1,.v 5]),.asg (.t [6,7]) (.call 111 #[.v 1,.i 4]),.asg (.n 8) (.call 122 #[.v 1,.v 6,.v 7]),.for (.n 9) (.seq (.tup #[.tup #[.s "quotient"],.tup #[.s "signed quotient"]])) #[.asg (.n 10) (.call 123 #[.v 9,.v 3,.v 2,.v 4,.v 5]),.ite (.or (.not (.call 124 #[.call 84 #[.v 9,.v 3,.v 2,.v 4,.v 5],.v 10,.v 3,.v 2])) (.not (.call 124 #[.call 104 #[.v 9,.v 3,.v 2,.v 4,.v 5],.v 10,.v 3,.v 2]))) #[.nope] .e,.asg (.n 11) (.blt .max #[.i 1,.idx (.v 8) (.i 1)]),.asg (.n 12) (.call 84 #[.v 9,.v 6,.v 7,.idx (.v 8) (.i 0),.v 11]),.ite (.not (.call 124 #[.v 12,.call 123 #[.v 9,.v 6,.v 7,.idx (.v 8) (.i 0),.v 11],.v 6,.v 7])) #[.nope] .e,.ite (.not (.call 124 #[.call 84 #[.v 9,.v 3,.v 2,.v 4,.v 5],.v 10,.v 3,.v 2])) #[.nope] .e],.ret (.cst (.bl AB))]⟩
end zq
def Tl:List Fn:=[yi4,yi5,yi6,yi7,yi8,yi9,yja,yjb,yjc,yjd,yje,yjf,yjg,yjh,yji,yjj,yjk,yjl,yjm,yey,yij,yjn,yjo,yjp,yjq,yjr,yjs,yhp,yjt,yR,yhq,ye2,yhr,yju,yhs,yjv,yht,yjw,yjx,yjy,yik,yo,yp,y9,yhu,yhv,yhw,yil,yhx,yhy,yjz,yjA,ygs,ydb,yim,ygx,yjB,yjC,yA,ye3,yjD,yhz,yhA,yhB,yhC,yhD,yY,yhE,yhF,yhG,yhH,yhI,yhJ,yhK,yhL,yF,yhM,yi,yhN,yin,ygO,yhO,yhP,yhQ,ya8,ygX,yaz,yhR,yg2,yjE,yjF,yjG,yjH,yjI,yjJ,yjK,yjL,yjM,yjN,yjO,yjP,yjQ,yhS,y4,yb7,yu,yar,yhT,yay,yai,yaa,yhU,yW,yhV,yhW,yhX,yhY,yhZ,yh0,yh1,yh2,yg4,yO,yaF,yh3,ybm]
def T(i:Nat):Option Fn:=Tl[i]?
abbrev yhc:Nat:=19
abbrev yio:Nat:=20
abbrev ye7:Nat:=27
abbrev yip:Nat:=29
abbrev yiq:Nat:=30
abbrev ym:Nat:=31
abbrev yjR:Nat:=32
abbrev yjS:Nat:=34
abbrev yjT:Nat:=36
abbrev yjU:Nat:=40
abbrev yir:Nat:=41
abbrev y6:Nat:=42
abbrev yis:Nat:=43
abbrev yjV:Nat:=44
abbrev yit:Nat:=45
abbrev yiu:Nat:=46
abbrev yz:Nat:=47
abbrev yjW:Nat:=48
abbrev yjX:Nat:=49
abbrev yh4:Nat:=52
abbrev yfd:Nat:=53
abbrev yhd:Nat:=54
abbrev yh5:Nat:=55
abbrev yiv:Nat:=56
abbrev yfg:Nat:=57
abbrev yn:Nat:=58
abbrev yhe:Nat:=59
abbrev yiw:Nat:=61
abbrev yix:Nat:=62
abbrev yiy:Nat:=63
abbrev yiz:Nat:=64
abbrev yiA:Nat:=65
abbrev yiB:Nat:=66
abbrev yiC:Nat:=67
abbrev yiD:Nat:=68
abbrev yiE:Nat:=69
abbrev yiF:Nat:=70
abbrev yiG:Nat:=71
abbrev yiH:Nat:=72
abbrev yjY:Nat:=73
abbrev y7:Nat:=74
abbrev yiI:Nat:=75
abbrev yB:Nat:=76
abbrev yl:Nat:=77
abbrev yiJ:Nat:=78
abbrev yiK:Nat:=79
abbrev yfi:Nat:=80
abbrev yh6:Nat:=81
abbrev yhf:Nat:=82
abbrev yv:Nat:=83
abbrev yhg:Nat:=84
abbrev yiL:Nat:=85
abbrev yiM:Nat:=86
abbrev y8:Nat:=87
abbrev yh7:Nat:=88
abbrev yjZ:Nat:=102
abbrev yiN:Nat:=103
abbrev yh8:Nat:=104
abbrev yiO:Nat:=105
abbrev yhh:Nat:=106
abbrev yiP:Nat:=107
abbrev yiQ:Nat:=108
abbrev yj0:Nat:=109
abbrev yhi:Nat:=110
abbrev yiR:Nat:=111
abbrev yj1:Nat:=112
abbrev yh9:Nat:=113
abbrev yiS:Nat:=114
abbrev yia:Nat:=115
abbrev yhj:Nat:=116
abbrev yj2:Nat:=117
abbrev yiT:Nat:=118
abbrev yj3:Nat:=119
abbrev yiU:Nat:=120
abbrev yiV:Nat:=121
abbrev yib:Nat:=122
abbrev yic:Nat:=123
abbrev yid:Nat:=124
abbrev yie:Nat:=125
end IC
namespace WK
open PySem L2 IC
def top(i:Nat):Stmt:=Dz.main.body.getD i (.Pass ⟨0,0,0,0⟩)
local macro_rules|`(panic! $s:str)=>do
 let q:=fun (x:String)=>Lean.Syntax.mkStrLit x
 let n:=fun (x:String)=>Lean.Syntax.mkNumLit x
 let w:=fun (x:String)=>(x.splitOn ",").filter (·!="")
 let mut a:=#[]
 for e in s.getString.splitOn "|" do
  let f:=(e.splitOn " ").toArray
  let g:=f[0]!.splitOn ":"
  let b:=(f[1]!.splitOn ".").toArray
  let N:=w f[2]!
  let p:=(N.take f[3]!.toNat!).toArray.map q
  let N:=N.toArray.map q
  let k:=f.getD 5 ""
  let d:=(w (k.drop 1).toString).toArray
  let u←if b.size<2 then `(top $(n b[0]!)) else `(inClass (top $(n b[0]!)) $(n b[1]!))
  let z:=n (d.getD 0 "0")
  let v:=d.map n
  let y←if k=="" then `(.fn) else if k.startsWith "d" then `(.fd [$v,*]) else if k.startsWith "m" then `(.me $z) else `(.ini $z)
  a:=a.push (←`(⟨$(q g[0]!),$(q (g.getD 1 g[0]!)),$(q (g.getD 2 g[0]!)),$u,[$N,*],[$p,*],$(Lean.mkIdent (.mkSimple f[4]!)),$y⟩))
 `([$a,*])
def tb0:List Df:=panic! "word 15 letter,c,i,j,m 5 yi4 d0,0,0,0|last_word 16 letter 1 yi5|rows 17 told 1 yi6|rounds 18 count,sentence,inner 3 yi7|lowest 19 letter,c,i,j,m 5 yi8 d0,0,0,0|term 20 f,things,i,p,q,r 6 yi9 d0,0,0,0|moved_parts:moved:moved 21 to,source,c,sentence 3 yja d0|doubled_parts:doubled:doubled 23 letter,count 2 yjb|kept_mark 25 to 1 yjc|kept_contrary 26 to 1 yjd|asked_words 29 letter,m,count,gathered 3 yje|answer_marks 30 c,m,sign 2 yjf|quotient_telling 50  0 yjg|by_nought 51  0 yjh|divided_quotients:divided:divided 52 x,y,answer,rest,sentence,one_place 4 yji|next_place 54 rest 1 yjj|less_divisor 55 rest,y,taken,top 2 yjk|put_back 56 rest,y,added,top,begun 2 yjl|next_figure 57 answer 1 yjm|is_whole 60 thing,low,high 3 yey|is_letter 61 thing 1 yij|are_told 62 thing,many 2 yjn|signed_quotient_telling 81 signs,begun,ended 0 yjo|kept_sign 82 to,letter 2 yjp|worth_of 83 cell 1 yjq|turned_where 90 sign,to,source,sentence 3 yjr|unfit_quotient 91  0 yjs|is_row 103 thing 1 yhp|is_told_row 104 thing 1 yjt|has_form 105 thing,told,kind,operand 2 yR|is_named 106 thing 1 yhq|is_operand 107 kind,thing,told 3 ye2|is_cell 108 thing 1 yhr|is_told_cell 109 thing 1 yju|is_lettered 110 thing 1 yhs|is_sentence 115 thing 1 yjv|place_of 116 told,n,i,j 4 yht|is_term 117 thing,f,exponent,things 1 yjw|are_things 118 thing 1 yjx|is_thing 119 thing 1 yjy|:__init__:Unrolling.__init__ 124.0 self,w,n 3 yik i20|:go_parts:Unrolling.go_parts 124.1 self,parts,gone,part 3 yo m20|:go_rounds:Unrolling.go_rounds 124.2 self,part,gone,count,at 3 yp m20|:count_of:Unrolling.count_of 124.3 self,told,c,m,t 2 y9 m20|:add_row:Unrolling.add_row 124.4 self,told,gone,i,j,row 3 yhu m20|:add_round:Unrolling.add_round 124.5 self 1 yhv m20|:add_asked:Unrolling.add_asked 124.6 self,sentence,gone,i,j 3 yhw m20|is_telling 125 thing 1 yil|unrolled 126 telling,w,n 3 yhx|steps_of 127 telling,w,n,unrolling 3 yhy|are_parts 128 thing,nests 2 yjz|is_part 129 thing,nests 2 yjA|both_gone 130 gone 1 ygs|placed 131 thing,n,i,j 4 ydb|telling 140 deed 1 yim|deed_rows 141 deed,w,n 3 ygx|is_deed 142 thing 1 yjB|is_paired 143 deed 1 yjC|answer_words 144 deed,n 2 yA|rest_words 145 deed,n 2 ye3|named_telling 147 name 1 yjD|made 149 name,w,x,y,k,make 5 yhz|highest 150 w 1 yhA|moved 151 w,x,y,k 4 yhB|bared_made:bared:bared 153 w,x,y,k 4 yhC|summed_made:summed:summed 155 w,x,y,k,total 4 yhD|taken_away_made:taken_away:taken_away 157 w,x,y,k,total 4 yY|in_both_made:in_both:in_both 159 w,x,y,k 4 yhE|in_any_made:in_any:in_any 161 w,x,y,k 4 yhF|in_one_made:in_one:in_one 163 w,x,y,k 4 yhG|doubled 165 w,x,y,k 4 yhH|halved 167 w,x,y,k 4 yhI|:__init__:Machine.__init__ 171.0 self,w 2 yhJ i21|:put:Machine.put 171.1 self,letter,at,word,cell 4 yhK m21|:word:Machine.word 171.2 self,letter,at 3 yhL m21|:run:Machine.run 171.5 self,rows,row 2 yF m21|:held_in:Machine.held_in 171.6 self,cell 2 yhM m21|:go_row:Machine.go_row 171.7 self,row 2 yi m21|:go_made:Machine.go_made 171.9 self,row,x,y,word,mark 2 yhN m21|known_cell 172 letter,at 2 yin|refuse_row 173 thing 1 ygO|words_of 175 worth,w,n 3 yhO|sign_of 176 number,w 2 yhP|lowest_words 177 worth,w,n,highest 3 yhQ|comes 179 deed,w,n,x,y,worth,first,second,answer,rest 5 ya8|refuse_deed 180 deed,w,n,x,y 5 ygX|reckoned 181 deed,w,n,x,y,reckon 5 yaz|signed_worth 182 x,k 2 yhR|unfit 183 worth,k,half 2 yg2|summed 185 x,y,k 3 yjE|taken_away 187 x,y,k 3 yjF|turned 189 x,y,k 3 yjG|in_both 190 x,y,k 3 yjH|in_any 192 x,y,k 3 yjI|in_one 194 x,y,k 3 yjJ|bared 196 x,y,k 3 yjK|moved_left 198 x,s,k 3 yjL|moved_right 199 x,s,k 3 yjM|moved_down 200 x,s,k 3 yjN|rolled 201 x,s,k,places 3 yjO|multiplied 202 x,y,k 3 yjP|signed_multiplied 204 x,y,k,worth 3 yjQ|divided 205 x,y,k 3 yhS|signed_divided 207 x,y,k,above,below,worth 3 y4|ran 212 deed,w,n,x,y,machine,answer 5 yb7|machine_with 213 w,n,x,y,machine,letter,worth,at,word 4 yu|number_in 214 machine,letter,many 3 yar|_law_fresh 216 _law_script 1 yhT|_law_mixed 217 _law_seed,_law_primes,_law_number_here,_law_k,_law_prime,_law_far,_law_square,_law_power 1 yay|_law_fill 218 _law_state,_law_cells,_law_at,_law_seed 1 yai|_law_take 219 _law_state,_law_many,_law_turns,_law_digit 2 yaa|_law_sizes 220 _law_state,_law_most 2 yhU|_law_worth 221 _law_state,_law_w,_law_n,_law_way,_law_top,_law_k,_law_edges,_law_any_one,_law_low,_law_wide,_law_worth_here,_law_some,_law_words_here 3 yW|_law_two_to 222 _law_many,_law_found,_law_k 1 yhV|_law_words 223 _law_worth_here,_law_w,_law_n,_law_wide,_law_words_here,_law_k 3 yhW|_law_signed 224 _law_worth_here,_law_many,_law_top 2 yhX|_law_whole 225 _law_thing 1 yhY|_law_wholes 226 _law_thing,_law_many,_law_most 3 yhZ|_law_number 227 _law_thing,_law_w,_law_n 3 yh0|_law_fits 228 _law_signed_worth,_law_many,_law_top 2 yh1|_law_ends 229 _law_worth_here,_law_many 2 yh2|_law_towards 230 _law_x,_law_y,_law_found 2 yg4|_law_two 231 _law_state,_law_w,_law_n,_law_x,_law_y,_law_way,_law_low 3 yO|_law_due 232 _law_deed,_law_w,_law_n,_law_x,_law_y,_law_many,_law_top,_law_quotient,_law_rest,_law_marks 5 yaF|_law_told 233 _law_found,_law_due_here,_law_w,_law_n 4 yh3|law 234 _law_script,_law_state,_law_n,_law_w,_law_x,_law_y,_law_wide,_law_many,_law_other,_law_deed,_law_due_here,_law_under,_law_found 1 ybm"
def tb1:Nat->List Df->List (AQ×GK)
 |_,[]=>[]
 |i,d::l=>if d.gn="" then tb1 (i+1) l else (match d.k with
  |.fd _=>eD d.gn i
  |_=>eF d.gn i)::tb1 (i+1) l
def tbQ:Tb where
 tbl:=tb0
 al:=tb1 0 tb0++[eF "bared_worths" 95,eF "divided_worths" 102,eF "doubled_made" 70,eF "halved_made" 71,eF "in_any_worths" 93,eF "in_both_worths" 92,eF "in_one_worths" 94,eF "moved_made" 63,eF "multiplied_worths" 100,eF "summed_worths" 89,eF "taken_away_worths" 90,eC "BACK" yes,eC "EACH_PLACE" yiW,eC "EACH_WORD" yy,eC "FACTOR_LIMIT" (.int (10000000000000000000000000000000000000000)),eC "FILL_signed" yig,eC "LONE" yiY,eC "MARKS_parts" yk,eC "MARKS_runs" (.int (4)),eC "MOST_NESTS" (.int (2)),eC "MOST_ROUNDS" (.int (4000)),eC "MOST_ROWS" (.int (4000)),eC "MOST_TERMS" (.int (20)),eC "MOST_THINGS" (.int (2)),eC "MOST_TOLD" (.int (200)),eC "NIL" yb8,eC "PAIRED" yih,eC "PAIRWISE" yi3,eC "PRODUCTS" yii,eC "QUOTIENTS" yet,eC "SEEN" ygi,eC "SHIFTS" ygo,eC "SIGN_OF_BOTH" yT,eC "SIGN_X" ygr,eC "SIGN_Y" yho,eC "SPARE" ycM,eG "ROWS" (.dct ybK),eG "Machine" (.cls 21 72),eG "Unrolling" (.cls 20 40)]
 bs:=["abs","all","any","bool","enumerate","int","isinstance","len","max","min","range","str","tuple","zip"]
 ts:=[.bool,.int,.str,.tuple]
 fl:=[eN 20 "n",eN 20 "rounds",eN 20 "rows",eN 20 "steps",eN 20 "w",eN 21 "marked",eN 21 "w",eN 21 "words"]
 me:=[eM 20 "go_parts" 41,eM 20 "go_rounds" 42,eM 20 "count_of" 43,eM 20 "add_row" 44,eM 20 "add_round" 45,eM 20 "add_asked" 46,eM 21 "put" 73,eM 21 "word" 74,eM 21 "run" 75,eM 21 "held_in" 76,eM 21 "go_row" 77,eM 21 "go_made" 78]
 kb:=[eK 0 1 ["i"] [AA 0,AD,AA 0,AA 0],eK 0 1 ["i","m"] [AA 0,AD,AA 0,AD],eK 0 1 ["j"] [AA 0,AA 0,AD,AA 0],eK 0 1 ["m"] [AA 0,AA 0,AA 0,AD],eK 0 2 ["m"] [AA 0,AA 0,AD],eK 4 1 ["i"] [AA 0,AD,AA 0,AA 0],eK 4 1 ["m"] [AA 0,AA 0,AA 0,AD],eK 4 2 [] [AA 0,AA 0,AA 0],eK 4 2 ["m"] [AA 0,AA 0,AD],eK 5 2 [] [AA 0,AA 0,AA 0,AA 0],eK 5 2 ["i"] [AD,AA 0,AA 0,AA 0],eK 5 2 ["p"] [AA 0,AD,AA 0,AA 0],eK 5 2 ["r"] [AA 0,AA 0,AA 0,AD],eK 6 2 [] [AA 0]]
 cn:=[eN 21 "Machine",eN 20 "Unrolling"]
 dd:=[eB "ROWS" ybK]
 ml:=[eL "MAKERS" yf,eL "RECKONED" yif]
theorem ok_all:tbQ.tbl.all (okT tbQ)=true:=by decide +kernel
theorem T_ok:∀i d,tbQ.tbl[i]?=AA d->T i=AA d.fn:=λi d h=>by
 have e:Tl=tbQ.tbl.map (·.fn):=rfl;rw[T,e,CA,h];rfl
theorem kb_all:ybS (KbP tbQ) tbQ.kb:=by
 repeat' (first|exact trivial|(refine⟨kbP rfl rfl rfl rfl rfl ⋯ ?_,?_⟩;((repeat intro _);exact⟨_,rfl,rfl⟩)))
theorem cn_20:cnm tbQ 20="Unrolling":=rfl
theorem cn_21:cnm tbQ 21="Machine":=rfl
end WK
namespace IC
open PySem
def yaX(call:Cl)(t:Tg)(b:Css)(xs:List PV)(ρ:Env)(st:SO):Fl:=forL t (λρ2 st2=>exs call ρ2 st2 b) xs ρ st
def yaS(call:Cl)(c:Ce)(b:Css)(n:Nat)(ρ:Env)(st:SO):Fl:=yas (λρ2 st2=>ev call ρ2 st2 c) (λρ2 st2=>exs call ρ2 st2 b) n ρ st
def ybf(call:Cl)(ρ0:Env)(t:Tg)(c e:Ce)(x:PV)(st2:SO):R (Option PV):=match yJ t x ρ0 with
 |none=>.bad
 |some ρ1=>(ev call ρ1 st2 c).bind λb st3=>onO (yaL st3 b) λk=>cond k ((ev call ρ1 st3 e).bind λy st4=>.ok (AA y) st4) (.ok AD st3)
def yal(call:Cl)(ρ0:Env)(t:Tg)(c e:Ce)(xs:List PV)(st:SO):R (List PV):=yaP (ybf call ρ0 t c e) xs st
def yau(f:Fl)(k:Env->SO->Fl):Fl:=
 match f with
 |.nx ρ st=>k ρ st
 |f=>f
def nxO(o:Option Env)(st:SO):Fl:=
 match o with
 |some ρ=>.nx ρ st
 |none=>.bad
def stO(ρ:Env)(o:Option SO):Fl:=
 match o with
 |some st=>.nx ρ st
 |none=>.bad
section
variable {call:Cl}{ρ:Env}{st:SO}
theorem x_for{t:Tg}{it:Cit}{b:Css}:ex call ρ st (.for t it b)=(evi call ρ st it).fl ρ λxs st1=>yaX call t b xs ρ st1:=rfl
def zmP{c:Ce}{b:Css}:ex call ρ st (.while c b)=yaS call c b 100000 ρ st:=rfl
theorem v_comp{sl:List (Option Nat)}{t:Tg}{it:Cit}{c e:Ce}:ev call ρ st (.comp sl t it c e)=(evi call ρ st it).bind λxs st1=>ycf (yal call (sl.map λo=>o.bind λj=>(ρ[j]?).join) t c e xs st1):=rfl
def zF{t:Tg}{b:Css}:yaX call t b [] ρ st=.nx ρ st:=rfl
def zx{t:Tg}{b:Css}{x:PV}{xs:List PV}{ρ1:Env}(h:yJ t x ρ=AA ρ1):yaX call t b (x::xs) ρ st=yax (exs call ρ1 st b) λρ2 st2=>yaX call t b xs ρ2 st2:=by
 rw[yaX,forL,h];rfl
def zeD{t:Tg}{b:Css}(P:Nat->Env->SO->Prop):∀(xs:List PV) (i:Nat) (ρ:Env) (st:SO),P i ρ st ->
  (∀(j:Nat) (x:PV) (ρ:Env) (st:SO),xs[j]?=AA x->P (i+j) ρ st->∃ρ1 ρ2 st2,yJ t x ρ=AA ρ1/\exs call ρ1 st b=.nx ρ2 st2/\P (i+j+1) ρ2 st2) ->
  ∃ρ' st',yaX call t b xs ρ st=.nx ρ' st'/\P (i+xs.length) ρ' st'
 |[],i,ρ,st,h,_=>⟨ρ,st,zF,h⟩
 |x::xs,i,ρ,st,h,k=>by
  let⟨ρ1,ρ2,st2,e1,e2,h2⟩:=k 0 x ρ st rfl h;let⟨ρ',st',e3,h3⟩:=zeD P xs (i+1) ρ2 st2 h2 λj y ρ st hy hp=>by
   have:=k (j+1) y ρ st (by simpa using hy) (by rw[show i+(j+1)=i+1+j by lia];exact hp);rw[show i+(j+1)+1=i+1+j+1 by lia]at this;exact this
  refine⟨ρ',st',?_,by rw[AS,show i+(xs.length+1)=i+1+xs.length by lia];exact h3⟩;rw[zx e1,e2];exact e3
def ziZ{c:Ce}{b:Css}{n:Nat}{x:PV}{st1 st2:SO}{ρ2:Env}(h:ev call ρ st c=.ok x st1)(ht:yaL st1 x=AA AB)(hb:exs call ρ st1 b=.nx ρ2 st2):yaS call c b (n+1) ρ st=yaS call c b n ρ2 st2:=by
 rw[yaS,yas,h];erw[R.fl,ht,onF,cond_true,hb,yax];rfl
def zfK{c:Ce}{b:Css}{n:Nat}{x:PV}{st1:SO}(h:ev call ρ st c=.ok x st1)(ht:yaL st1 x=AA AC):yaS call c b (n+1) ρ st=.nx ρ st1:=by
 rw[yaS,yas,h];erw[R.fl,ht,onF,cond_false]
def zbe{ρ0:Env}{t:Tg}{c e:Ce}:yal call ρ0 t c e [] st=.ok [] st:=rfl
def zai{ρ0:Env}{t:Tg}{c e:Ce}{x:PV}{xs:List PV}:yal call ρ0 t c e (x::xs) st=(ybf call ρ0 t c e x st).bind λo st1=>(yal call ρ0 t c e xs st1).bind λys st2=>.ok (yb3 o ys) st2:=rfl
def zfp{ρ0:Env}{t:Tg}{c e:Ce}{f:PV->PV}:∀(xs:List PV),(∀x∈xs,ybf call ρ0 t c e x st=.ok (AA (f x)) st)->yal call ρ0 t c e xs st=.ok (xs.map f) st
 |[],_=>zbe
 |x::xs,h=>by
  rw[zai,h x BB];erw[R.bind];rw[zfp xs λy hy=>h y (AW _ hy)];rfl
theorem xs_nil:exs call ρ st .nil=.nx ρ st:=rfl
theorem xs_cons{s:Cs}{ss:Css}:exs call ρ st (.cons s ss)=yau (ex call ρ st s) λρ1 st1=>exs call ρ1 st1 ss:=rfl
theorem x_asg{t:Tg}{e:Ce}:ex call ρ st (.asg t e)=(ev call ρ st e).fl ρ λv st1=>nxO (yJ t v ρ) st1:=rfl
theorem x_expr{e:Ce}:ex call ρ st (.expr e)=(ev call ρ st e).fl ρ λ_ st1=>.nx ρ st1:=rfl
theorem x_ret{e:Ce}:ex call ρ st (.ret e)=(ev call ρ st e).fl ρ λv st1=>.rt v st1:=rfl
theorem x_ite{c:Ce}{a b:Css}:ex call ρ st (.ite c a b)=(ev call ρ st c).fl ρ λx st1=>onF (yaL st1 x) λk=>cond k (exs call ρ st1 a) (exs call ρ st1 b):=rfl
theorem x_six{o i e:Ce}:ex call ρ st (.six o i e)=(ev call ρ st e).fl ρ λv st1=>(ev call ρ st1 o).fl ρ λx st2=>(ev call ρ st2 i).fl ρ λy st3=>stO ρ (ybs st3 x y v):=rfl
def yeW(o:Option Nat)(k:Nat->Fl):Fl:=match o with
 |some j=>k j
 |none=>.bad
def zpc{i:Nat}{D:List (AQ×Nat)}{n:Ce}{es:Ces}:ex call ρ st (.mkr i D n es)=(ev call ρ st n).fl ρ λx st1=>yeW (mkV D (decide (i<ρ.length)) x) λj=>((evs call (ρ.set i AD) st1 es).bind λvs st2=>call j vs st2).fl (ρ.set i AD) λv st3=>.rt v st3:=rfl
def zfM{c:Nat}{o e:Ce}{f:AQ}:ex call ρ st (.sfl c o f e)=(ev call ρ st e).fl ρ λv st1=>(ev call ρ st1 o).fl ρ λx st2=>stO ρ (ya4 c st2 x f v):=rfl
def zi6{o i e:Ce}:ex call ρ st (.dput o i e)=(ev call ρ st e).fl ρ λv st1=>(ev call ρ st1 o).fl ρ λx st2=>(ev call ρ st2 i).fl ρ λy st3=>stO ρ (ybd st3 x y v):=rfl
def zpx{i:Nat}{o:BOp}{e:Ce}{x:PV}(h:ρ[i]?=AA (AA x)):ex call ρ st (.aug i o e)=(ev call ρ st e).fl ρ λy st1=>nxO ((ybO o x y).map λz=>ρ.set i (AA z)) st1:=by
 rw[ex,h];show (ev call ρ st e).fl ρ _=_;refine congrArg _ (funext λy=>funext λst1=>?_)
 cases ybO o x y<;>rfl
end
theorem ve1(call:Nat->List PV->SO->R PV)(ρ:Env)(st:SO)(v:PV):
  ev call ρ st (Ce.cst v)=R.ok v st:=rfl
theorem ve2(call:Nat->List PV->SO->R PV)(ρ:Env)(st:SO)(i:Nat):
  ev call ρ st (Ce.var i) =
  match ρ[i]? with
  |some (AA v)=>R.ok v st
  |x=>R.bad:=rfl
theorem ve3(call:Nat->List PV->SO->R PV)(ρ:Env)(st:SO)(o:BOp)(a b:Ce):
  ev call ρ st (Ce.bin o a b)=R.bind (ev call ρ st a) λx st1=>R.bind (ev call ρ st1 b) λy st2=>toR (yw o x y) st2:=rfl
theorem ve4(call:Nat->List PV->SO->R PV)(ρ:Env)(st:SO)(a:Ce):
  ev call ρ st (Ce.neg a) =
  R.bind (ev call ρ st a) λx st1=>
   match x with
   |PV.int i=>R.ok (PV.int (-i)) st1
   |x=>R.bad:=rfl
theorem ve5(call:Nat->List PV->SO->R PV)(ρ:Env)(st:SO)(a:Ce):
  ev call ρ st (Ce.not a)=R.bind (ev call ρ st a) λx st1=>onBl x λk=>R.ok (PV.bl !k) st1:=rfl
theorem ve6(call:Nat->List PV->SO->R PV)(ρ:Env)(st:SO)(a b:Ce):
  ev call ρ st (Ce.and a b)=R.bind (ev call ρ st a) λx st1=>onBl x λk=>bif k then ev call ρ st1 b else R.ok (PV.bl AC) st1:=rfl
theorem ve7(call:Nat->List PV->SO->R PV)(ρ:Env)(st:SO)(a b:Ce):
  ev call ρ st (Ce.or a b)=R.bind (ev call ρ st a) λx st1=>onBl x λk=>bif k then R.ok (PV.bl AB) st1 else ev call ρ st1 b:=rfl
theorem ve8(call:Nat->List PV->SO->R PV)(ρ:Env)(st:SO)(o:COp)(a b:Ce):
  ev call ρ st (Ce.cmp o a b)=R.bind (ev call ρ st a) λx st1=>R.bind (ev call ρ st1 b) λy st2=>toR (yG o x y) st2:=rfl
theorem ve9(call:Nat->List PV->SO->R PV)(ρ:Env)(st:SO)(o p:COp)(a b c:Ce):
  ev call ρ st (Ce.chain o p a b c)=R.bind (ev call ρ st a) λx st1=>R.bind (ev call ρ st1 b) λy st2=>onO (blO (yG o x y)) λk=>bif k then R.bind (ev call ρ st2 c) λz st3=>toR (yG p y z) st3 else R.ok (PV.bl AC) st2:=rfl
theorem ve10(call:Nat->List PV->SO->R PV)(ρ:Env)(st:SO)(c a b:Ce):
  ev call ρ st (Ce.ite c a b)=R.bind (ev call ρ st c) λx st1=>onO (yaL st1 x) λk=>bif k then ev call ρ st1 a else ev call ρ st1 b:=rfl
theorem ve11(call:Nat->List PV->SO->R PV)(ρ:Env)(st:SO)(es:Ces):
  ev call ρ st (Ce.tup es)=R.bind (evs call ρ st es) λvs st1=>if Ca vs<=sizeMax then R.ok (PV.tup vs) st1 else R.bad:=rfl
theorem ve12(call:Nat->List PV->SO->R PV)(ρ:Env)(st:SO)(es:Ces):
  ev call ρ st (Ce.lst es)=R.bind (evs call ρ st es) λvs st1=>if Ca vs<=sizeMax then R.ok (PV.lst vs) st1 else R.bad:=rfl
theorem ve13(call:Nat->List PV->SO->R PV)(ρ:Env)(st:SO)(es:Ces):
  ev call ρ st (Ce.newl es)=R.bind (evs call ρ st es) λvs st1=>if Ca vs<=sizeMax then R.ok (PV.loc (Ca st1)) (st1++[Ob.lst vs])else R.bad:=rfl
theorem ve15(call:Nat->List PV->SO->R PV)(ρ:Env)(st:SO)(t:Bool):
  ev call ρ st (Ce.dict0 t)=R.ok (PV.loc (Ca st)) (st++[Ob.dct t []]):=rfl
theorem ve16(call:Nat->List PV->SO->R PV)(ρ:Env)(st:SO)(a i:Ce):
  ev call ρ st (Ce.idx a i)=R.bind (ev call ρ st a) λx st1=>R.bind (ev call ρ st1 i) λy st2=>toR (idxV st2 x y) st2:=rfl
theorem ve17(call:Nat->List PV->SO->R PV)(ρ:Env)(st:SO)(a l h:Ce):
  ev call ρ st (Ce.slc a l h)=R.bind (ev call ρ st a) λx st1=>R.bind (ev call ρ st1 l) λy st2=>onP (yb5 y) λo=>R.bind (ev call ρ st2 h) λz st3=>toR (ycS x o z) st3:=rfl
theorem ve18(call:Nat->List PV->SO->R PV)(ρ:Env)(st:SO)(f:Nat)(es:Ces):
  ev call ρ st (Ce.call f es)=R.bind (evs call ρ st es) λvs st1=>call f vs st1:=rfl
theorem ve19(call:Nat->List PV->SO->R PV)(ρ:Env)(st:SO)(b:Blt)(es:Ces):
  ev call ρ st (Ce.blt b es)=R.bind (evs call ρ st es) λvs st1=>toR (yaj b st1 vs) st1:=rfl
theorem ve20(call:Nat->List PV->SO->R PV)(ρ:Env)(st:SO)(m:Mth)(o:Ce)(es:Ces):
  ev call ρ st (Ce.mth m o es)=R.bind (ev call ρ st o) λx st1=>onO (yaO m st1 x) λx_1=>R.bind (evs call ρ st1 es) λvs st2=>ych m st2 x vs:=rfl
theorem ve21(call:Nat->List PV->SO->R PV)(ρ:Env)(st:SO)(a:Ce)(ts:List Ty):
  ev call ρ st (Ce.isi a ts)=R.bind (ev call ρ st a) λx st1=>toR (yaM x ts) st1:=rfl
theorem ve24(call:Nat->List PV->SO->R PV)(ρ:Env)(st:SO):
  ev call ρ st Ce.nope=R.bad:=rfl
theorem ve25(call:Nat->List PV->SO->R PV)(ρ:Env)(st:SO)(a:Ce):
  ev call ρ st (Ce.frz a)=R.bind (ev call ρ st a) λx st1=>ydh x st1:=rfl
theorem ve28(call:Nat->List PV->SO->R PV)(ρ:Env)(st:SO)(D:List (AQ×PV))(a:Ce):
  ev call ρ st (Ce.dix D a)=R.bind (ev call ρ st a) λx st1=>toR (ycx D x) st1:=rfl
theorem ve29(call:Nat->List PV->SO->R PV)(ρ:Env)(st:SO)(a:Ce)(D:List (AQ×PV)):
  ev call ρ st (Ce.din a D)=R.bind (ev call ρ st a) λx st1=>toR (yco D x) st1:=rfl
theorem ve32(call:Nat->List PV->SO->R PV)(ρ:Env)(st:SO)(c:Nat)(a:Ce)(f:AQ):
  ev call ρ st (Ce.fld c a f)=R.bind (ev call ρ st a) λx st1=>toR (ya5 c st1 x f) st1:=rfl
theorem ve33(call:Nat->List PV->SO->R PV)(ρ:Env)(st:SO)(c i:Nat)(es:Ces):
  ev call ρ st (Ce.new c i es)=R.bind (evs call ρ st es) λvs st1=>R.bind (ybv (call i (PV.loc (Ca st1)::vs) (st1++[Ob.ins c []]))) λv st2=>newV (Ca st1) v st2:=rfl
theorem ve37(call:Nat->List PV->SO->R PV)(ρ:Env)(st:SO)(c i:Nat)(m:AQ)(o:Ce)
 (es:Ces):
  ev call ρ st (Ce.mcl c i m o es)=R.bind (ev call ρ st o) λx st1=>onO (ybV c m st1 x) λx_1=>R.bind (evs call ρ st1 es) λvs st2=>call i (x::vs) st2:=rfl
end IC
namespace WK
open IC PySem
mutual
noncomputable def pvq:PV->PV->Bool
 |.non,.non=>AB
 |.bl a,.bl b=>a==b
 |.int i,.int j=>decide (i=j)
 |.str x,.str y=>decide (x=y)
 |.tp k xs,.tp l ys=>(k==l)&&ycz xs ys
 |.lst xs,.lst ys=>ycz xs ys
 |_,_=>AC
noncomputable def ycz:List PV->List PV->Bool
 |[],[]=>AB
 |x::xs,y::ys=>pvq x y&&ycz xs ys
 |_,_=>AC
end
mutual
theorem zk5:∀(a b:PV),pvq a b=AB->a=b
 |.non,b,h=>by cases b<;>simp[pvq]at h ⊢
 |.bl a,b,h=>by cases b<;>simp[pvq]at h ⊢;exact h
 |.int a,b,h=>by cases b<;>simp[pvq]at h ⊢;exact h
 |.str a,b,h=>by cases b<;>simp[pvq]at h ⊢;exact h
 |.tp k xs,b,h=>by
  cases b<;>simp[pvq]at h ⊢
  exact⟨h.1,zfQ _ _ h.2⟩
 |.lst xs,b,h=>by
  cases b<;>simp[pvq]at h ⊢
  exact zfQ _ _ h
 |.loc _,b,h=>by cases b<;>simp[pvq]at h
 |.exn _,b,h=>by cases b<;>simp[pvq]at h
 |.scr _,b,h=>by cases b<;>simp[pvq]at h
theorem zfQ:∀(a b:List PV),ycz a b=AB->a=b
 |[],b,h=>by cases b<;>simp[ycz]at h ⊢
 |x::xs,b,h=>by
  cases b with
  |nil=>simp[ycz]at h
  |cons y ys=>
   simp[ycz]at h;rw[zk5 x y h.1,zfQ xs ys h.2]
end
def isOk(r:R PV)(v:PV):Bool:=match r with
 |.ok w []=>pvq w v
 |_=>AC
def zbK{r:R PV}{v:PV}(h:isOk r v=AB):r=.ok v []:=by
 match r with
 |.ok w []=>rw[zk5 w v h]
 |.ok w (_::_)=>simp[isOk]at h
 |.exc _ _=>simp[isOk]at h
 |.bad=>simp[isOk]at h
def chS(c:Nat):Str:=⟨#[c]⟩
def yU(c:Nat)(i:Int):PV:=.tup [.str (chS c),.int i]
def zlp{c d:Nat}(h:chS c=chS d):c=d:=by
 have:=congrArg (λx=>x.cps) h;simpa [chS] using this
def zbs(c d:Nat)(i j:Int):peq (yU c i) (yU d j)=decide (c=d/\i=j):=by
 have h:(chS c==chS d)=decide (c=d):=by
  rw[Do];simp;exact⟨zlp,λe=>by rw[e]⟩
 simp[yU,peq,ybg,h,Bool.decide_and]
 try rfl
abbrev Mem:=Nat->Int->Int
def upd(M:Mem)(c:Nat)(i v:Int):Mem:=λd j=>if d=c/\j=i then v else M d j
def ycG(kvs:List (PV×PV)):Prop:=∀p∈kvs,∃c i,p.1=yU c i
def Rel(kvs:List (PV×PV))(M:Mem):Prop:=∀c i,(look (yU c i) kvs).getD (.int 0)=.int (M c i)
def zgG(c:Nat)(i:Int)(v:PV)(d:Nat)(j:Int):∀kvs,ycG kvs->look (yU d j) (kvs.map λp=>if peq p.1 (yU c i)=AB then(p.1,v)else p)=if d=c/\j=i then(if (kvs.any λp=>peq p.1 (yU c i))=AB then AA v else AD)else look (yU d j) kvs
 |[],_=>by simp[look]
 |p::kvs,h=>by
  let⟨e,g,hp⟩:=h p BB;let⟨p1,p2⟩:=p;simp only at hp;subst hp;have ih:=zgG c i v d j kvs λq hq=>h q (AW _ hq);rw[AL,BP];erw[zbs]
  by_cases h1:e=c/\g=i
  .let⟨rfl,rfl⟩:=h1;erw[and_self,decide_true,if_true,look,zbs,Ey]
   by_cases h2:e=d/\g=j
   .let⟨rfl,rfl⟩:=h2;simp
   .have h3:¬(d=e/\j=g):=λz=>h2 ⟨z.1.symm,z.2.symm⟩;erw[h2,h3,decide_false,if_false,BJ];rw[ih,if_neg h3]
  .simp only[h1,decide_false,Fc,BJ,if_false];rw[look,look];erw[zbs]
   by_cases h2:e=d/\g=j
   .let⟨rfl,rfl⟩:=h2;simp[h1]
   .simp only[h2,decide_false,BJ,if_false];exact ih
def zf7(c:Nat)(i:Int)(v:PV)(d:Nat)(j:Int):∀kvs,ycG kvs->(kvs.any λp=>peq p.1 (yU c i))=AC->look (yU d j) (kvs++[(yU c i,v)])=if d=c/\j=i then AA v else look (yU d j) kvs
 |[],_,_=>by
  erw[BI,look,zbs]
  by_cases h2:c=d/\i=j
  .let⟨rfl,rfl⟩:=h2;simp
  .have h3:¬(d=c/\j=i):=λz=>h2 ⟨z.1.symm,z.2.symm⟩;simp[h2,h3]
 |p::kvs,h,hn=>by
  let⟨e,g,hp⟩:=h p BB;let⟨p1,p2⟩:=p;simp only at hp;subst hp;rw[BP,Bool.or_eq_false_iff]at hn;have ih:=zf7 c i v d j kvs (λq hq=>h q (AW _ hq)) hn.2;have h1:¬(e=c/\g=i):=by simpa [zbs] using hn.1
  rw[Ap,look,look];erw[zbs]
  by_cases h2:e=d/\g=j
  .let⟨rfl,rfl⟩:=h2;simp[h1]
  .simp only[h2,decide_false,BJ,if_false];exact ih
def zkc(c:Nat)(i:Int)(v:PV)(d:Nat)(j:Int)(kvs:List (PV×PV))(h:ycG kvs):look (yU d j) (put (yU c i) v kvs)=if d=c/\j=i then AA v else look (yU d j) kvs:=by
 unfold put;split
 .rename_i z;rw[zgG _ _ _ _ _ _ h,z,if_pos rfl]
 .rename_i z;exact zf7 _ _ _ _ _ _ h (by simpa using z)
def zkm{c:Nat}{i:Int}{v:PV}{kvs:List (PV×PV)}(h:ycG kvs):ycG (put (yU c i) v kvs):=by
 unfold put;split
 .intro p hp;let⟨q,hq,rfl⟩:=GJ.1 hp;let⟨e,g,he⟩:=h q hq;refine⟨e,g,?_⟩;split
  .exact he
  .exact he
 .intro p hp;rcases BM.1 hp with hp|hp
  .exact h p hp
  .simp at hp;exact⟨c,i,by rw[hp]⟩
def zln{c:Nat}{i v:Int}{kvs:List (PV×PV)}{M:Mem}(h:ycG kvs)(r:Rel kvs M):Rel (put (yU c i) (.int v) kvs) (upd M c i v):=by
 intro d j;rw[zkc _ _ _ _ _ _ h];unfold upd;split
 .rfl
 .exact r d j
def zl1{k v:PV}{kvs:List (PV×PV)}:(put k v kvs).length<=kvs.length+1:=by
 unfold put;split
 .simp
 .simp
def zgu(c:Nat)(i:Int):isKey AB (yU c i)=true:=rfl
structure Dc(st:SO)(n:Nat)(M:Mem)(L:Nat):Prop where
 ex:∃kvs,st[n]?=AA (.dct AB kvs)/\ycG kvs/\Rel kvs M/\kvs.length<=L
def zjo{st:SO}{n L:Nat}{M:Mem}(h:Dc st n M L)(c:Nat)(i:Int):ydP st (.loc n) (yU c i) (.int 0)=.ok (.int (M c i)) st:=by
 let⟨kvs,h1,h2,h3,h4⟩:=h;erw[ydP,ybe,h1,zgu,if_true,h3 c i]
def zjI{st:SO}{n L:Nat}{M:Mem}(h:Dc st n M L)(hL:L<999999)(c:Nat)(i v:Int):∃kvs,ybd st (.loc n) (yU c i) (.int v)=AA (st.set n (.dct AB kvs))/\Dc (st.set n (.dct AB kvs)) n (upd M c i v) (L+1):=by
 let⟨kvs,h1,h2,h3,h4⟩:=h;have hn:n<st.length:=by
  rcases CZ n st.length with z|z
  .exact z
  .rw[BW z]at h1;cases h1
 refine⟨put (yU c i) (.int v) kvs,?_,⟨_,A9 hn,zkm h2,zln h2 h3,BU zl1 ∅⟩⟩;have h5:kvs.length<1000000:=by lia
 erw[ybd,h1,zgu,h5,and_self,if_true]
abbrev Cel:=Nat×Int
def yI(x:Cel):PV:=yU x.1 x.2
inductive Rw where
 |mark (d:Int)|ask (x:Cel)|set (t:Cel) (d:Int)|move (t x:Cel)|bare (t x:Cel)|twice (t x:Cel)|half (t x:Cel)
 |sum (t x y:Cel)|less (t x y:Cel)|both (t x y:Cel)|any (t x y:Cel)|odd (t x y:Cel)
def yV:Rw->PV
 |.mark d=>.tup [.str "mark",.int d]
 |.ask x=>.tup [.str "ask",yI x]
 |.set t d=>.tup [.str "set",yI t,.int d]
 |.move t x=>.tup [.str "move",yI t,yI x]
 |.bare t x=>.tup [.str "bare",yI t,yI x]
 |.twice t x=>.tup [.str "twice",yI t,yI x]
 |.half t x=>.tup [.str "half",yI t,yI x]
 |.sum t x y=>.tup [.str "sum",yI t,yI x,yI y]
 |.less t x y=>.tup [.str "less",yI t,yI x,yI y]
 |.both t x y=>.tup [.str "both",yI t,yI x,yI y]
 |.any t x y=>.tup [.str "any",yI t,yI x,yI y]
 |.odd t x y=>.tup [.str "odd",yI t,yI x,yI y]
def rd(M:Mem)(x:Cel):Int:=M x.1 x.2
def wr(M:Mem)(x:Cel)(v:Int):Mem:=upd M x.1 x.2 v
def stepM(W:Int)(M:Mem)(k:Int):Rw->Mem×Int
 |.mark d=>(M,d)
 |.ask x=>(M,bi (!(rd M x==0)))
 |.set t d=>(wr M t d,k)
 |.move t x=>(wr M t (rd M x),k)
 |.bare t x=>(wr M t (W-1-rd M x),k)
 |.twice t x=>(wr M t ((2*rd M x+k)%W),(2*rd M x+k)/W)
 |.half t x=>(wr M t (rd M x/2+k*(W/2)),rd M x%2)
 |.sum t x y=>(wr M t ((rd M x+rd M y+k)%W),(rd M x+rd M y+k)/W)
 |.less t x y=>(wr M t ((rd M x-rd M y-k)%W),bi (decide (rd M x-rd M y-k<0)))
 |.both t x y=>(wr M t (Aw (rd M x) (rd M y)),k)
 |.any t x y=>(wr M t (Av (rd M x) (rd M y)),k)
 |.odd t x y=>(wr M t (BS (rd M x) (rd M y)),k)
def yD(W:Int):List Rw->Mem->Int->Mem×Int
 |[],M,k=>(M,k)
 |r::rs,M,k=>yD W rs (stepM W M k r).1 (stepM W M k r).2
def zl(W:Int):∀(a b:List Rw) (M:Mem) (k:Int),yD W (a++b) M k=yD W b (yD W a M k).1 (yD W a M k).2
 |[],b,M,k=>rfl
 |r::a,b,M,k=>by rw[Ap,yD,zl W a b,yD]
def zjR{st:SO}{n:Nat}{o:Ob}(h:st[n]?=AA o):st=st.set n o:=by
 refine E8 λi=>?_;rw[Cj];split
 .rename_i e;subst e;split
  .exact h
  .rename_i z;rw[BW ∅]at h
   cases h
 .rfl
def zc4(i:Int):shp (.int i)=true:=rfl
section
variable {st:SO}{k:Bool}{a b c d e:PV}{r:List PV}{i j:Int}
theorem ix0:idxV st (.tp k (a::r)) (.int 0)=AA a:=by simp[idxV,yaZ,at?,ixI]
theorem ix1:idxV st (.tp k (a::b::r)) (.int 1)=AA b:=by
 have:(1:Int)<(r.length:Int)+1+1:=by lia
 simp[idxV,yaZ,at?,ixI,this]
theorem ix2:idxV st (.tp k (a::b::c::r)) (.int 2)=AA c:=by
 have:(2:Int)<(r.length:Int)+1+1+1:=by lia
 simp[idxV,yaZ,at?,ixI,this]
theorem ix3:idxV st (.tp k (a::b::c::d::r)) (.int 3)=AA d:=by
 have:(3:Int)<(r.length:Int)+1+1+1+1:=by lia
 simp[idxV,yaZ,at?,ixI,this]
theorem b_add:yw .add (.int i) (.int j)=AA (.int (i+j)):=rfl
theorem b_sub:yw .sub (.int i) (.int j)=AA (.int (i-j)):=rfl
def zjE(h:i.natAbs<18446744073709551616 \/ j.natAbs<18446744073709551616):yw .mul (.int i) (.int j)=AA (.int (i*j)):=by
 have:yaC i j=true:=by simpa [yaC] using h
 simp[yw,binI,this]
def zaO(h:i.natAbs<18446744073709551616):yw .mul (.int i) (.int j)=AA (.int (i*j)):=zjE (.inl h)
def zcE(h:j.natAbs<18446744073709551616):yw .mul (.int i) (.int j)=AA (.int (i*j)):=zjE (.inr h)
theorem b_mul2:yw .mul (.int 2) (.int j)=AA (.int (2*j)):=zjE (.inl ⋯)
def zdx(h:0<j)(h2:j<18446744073709551616*18446744073709551616):yw .fdiv (.int i) (.int j)=AA (.int (i/j)):=by
 have h3:j<10000000000000000000000000000000000000000000000000000000000000000000000:=by lia
 simp[yw,binI,h,h3]
theorem b_div2:yw .fdiv (.int i) (.int 2)=AA (.int (i/2)):=rfl
def zg2(h:0<j):yw .mod (.int i) (.int j)=AA (.int (i%j)):=by simp[yw,binI,h]
def zpv:yw .band (.int i) (.int j)=AA (.int (Aw i j)):=rfl
def zqn:yw .bor (.int i) (.int j)=AA (.int (Av i j)):=rfl
def zqb:yw .bxor (.int i) (.int j)=AA (.int (BS i j)):=rfl
theorem toR_some{v:PV}:toR (AA v) st=.ok v st:=rfl
theorem c_ne:yG .ne (.int i) (.int j)=AA (.bl (!(i==j))):=by simp[yG,zc4,peq]
theorem c_eq:yG .eq (.int i) (.int j)=AA (.bl (i==j)):=by simp[yG,zc4,peq]
theorem c_lt:yG .lt (.int i) (.int j)=AA (.bl (decide (i<j))):=rfl
theorem c_le:yG .le (.int i) (.int j)=AA (.bl (decide (i<=j))):=rfl
theorem c_gt:yG .gt (.int i) (.int j)=AA (.bl (decide (j<i))):=rfl
theorem c_ge:yG .ge (.int i) (.int j)=AA (.bl (decide (j<=i))):=rfl
theorem t_bl{b:Bool}:yaL st (.bl b)=AA b:=rfl
theorem on_t{f:Bool->Fl}{b:Bool}:onF (AA b) f=f b:=rfl
theorem ono{α:Type}{f:Bool->R α}{b:Bool}:onO (AA b) f=f b:=rfl
def zay{ρ:IC.Env}:stO ρ (AA st)=.nx ρ st:=rfl
theorem nxO_some{ρ:IC.Env}:nxO (AA ρ) st=.nx ρ st:=rfl
theorem fl_ok{α:Type}{a:α}{ρ:IC.Env}{k:α->SO->Fl}:(R.ok a st).fl ρ k=k a st:=rfl
theorem bd_ok{α β:Type}{a:α}{k:α->SO->R β}:(R.ok a st).bind k=k a st:=rfl
theorem th_nx{ρ:IC.Env}{k:IC.Env->SO->Fl}:yau (.nx ρ st) k=k ρ st:=rfl
theorem th_rt{v:PV}{k:IC.Env->SO->Fl}:yau (.rt v st) k=.rt v st:=rfl
theorem fl_exc{α:Type}{c:Nat}{ρ:IC.Env}{k:α->SO->Fl}:(R.exc c st:R α).fl ρ k=.exc c ρ st:=rfl
theorem bd_exc{α β:Type}{c:Nat}{k:α->SO->R β}:(R.exc c st:R α).bind k=.exc c st:=rfl
theorem th_exc{c:Nat}{ρ:IC.Env}{k:IC.Env->SO->Fl}:yau (.exc c ρ st) k=.exc c ρ st:=rfl
theorem noLocs_ints:∀(l:List Int),nLs (l.map PV.int)=AB
 |[]=>rfl
 |_::l=>by simp[nLs,nL,noLocs_ints l]
def zmU{x:PV}:yaj .int st [x]=yeR x:=rfl
def znO{b:Bool}:yeR (.bl b)=AA (.int (bi b)):=rfl
theorem bT_n{i:Nat}{v:PV}{ρ:IC.Env}:yJ (.n i) v ρ=AA (ρ.set i (AA v)):=rfl
end
def znI:∀(n x y:Nat),x<=n->(x ^^^ y)+(x &&& y)=x ||| y
 |n,x,y,h=>by
  by_cases hx:x=0
  .subst hx;simp
  .have ih:=znI (n-1) (x/2) (y/2) ∅;rw[<-Nat.xor_div_two,<-Nat.and_div_two,<-Nat.or_div_two]at ih;have m1:(x ^^^ y)%2=((x%2) ^^^ (y%2)):=by
    have:=Nat.xor_mod_two_pow (a:=x) (b:=y) (n:=1);simpa using this
   have m2:(x &&& y)%2=((x%2) &&& (y%2)):=by
    have:=Nat.and_mod_two_pow (a:=x) (b:=y) (n:=1);simpa using this
   have m3:(x ||| y)%2=((x%2) ||| (y%2)):=by
    have:=Nat.or_mod_two_pow (a:=x) (b:=y) (n:=1);simpa using this
   rcases EO x with a|a<;>rcases EO y with b|b<;>rw[a,b]at m1 m2 m3<;>erw[Nat.reduceXor,Nat.reduceAnd,Nat.reduceOr]at m1 m2 m3<;>lia
def zfo(x y:Nat):Aw (x:Int) (y:Int)=((x &&& y:Nat):Int):=by
 simp[Aw]
def zc8(x y:Nat):Av (x:Int) (y:Int)=((x ||| y:Nat):Int):=by
 have h1:¬(0:Int)<=-(x:Int)-1:=by lia
 have h2:¬(0:Int)<=-(y:Int)-1:=by lia
 have h3:(-(-(x:Int)-1)-1).toNat=x:=by lia
 have h4:(-(-(y:Int)-1)-1).toNat=y:=by lia
 erw[Av,Aw,FQ,h1,h2,decide_false,h3,h4];lia
def zkx(x y:Nat):BS (x:Int) (y:Int)=((x ^^^ y:Nat):Int):=by
 have:=znI x x y (AU x);rw[BS,zc8,zfo];lia
theorem pw(w:Nat):((2^w:Nat):Int)=2^w:=by simp
def zm6{w:Nat}{a b:Int}(a0:0<=a)(b0:0<=b)(b1:b<2^w):0<=Aw a b/\Aw a b<2^w:=by
 obtain⟨x,rfl⟩:∃n:Nat,a=n:=⟨a.toNat,by lia⟩;obtain⟨y,rfl⟩:∃n:Nat,b=n:=⟨b.toNat,by lia⟩;rw[zfo];rw[<-pw]at b1 ⊢;exact⟨by lia,by exact_mod_cast Nat.and_lt_two_pow x (by lia:y<2^w)⟩
def zoC{w:Nat}{a b:Int}(a0:0<=a)(a1:a<2^w)(b0:0<=b)(b1:b<2^w):0<=BS a b/\BS a b<2^w:=by
 obtain⟨x,rfl⟩:∃n:Nat,a=n:=⟨a.toNat,by lia⟩;obtain⟨y,rfl⟩:∃n:Nat,b=n:=⟨b.toNat,by lia⟩;rw[zkx];rw[<-pw]at a1 b1 ⊢;exact⟨by lia,by exact_mod_cast Nat.xor_lt_two_pow (by lia:x<2^w) (by lia:y<2^w)⟩
def zpj{w:Nat}{a b:Int}(a0:0<=a)(a1:a<2^w)(b0:0<=b)(b1:b<2^w):0<=Av a b/\Av a b<2^w:=by
 obtain⟨x,rfl⟩:∃n:Nat,a=n:=⟨a.toNat,by lia⟩;obtain⟨y,rfl⟩:∃n:Nat,b=n:=⟨b.toNat,by lia⟩;rw[zc8];rw[<-pw]at a1 b1 ⊢;exact⟨by lia,by exact_mod_cast Nat.or_lt_two_pow (by lia:x<2^w) (by lia:y<2^w)⟩
def zhF{a b:Int}(a0:0<=a)(b0:0<=b):Av a b=0 ↔ a=0/\b=0:=by
 obtain⟨x,rfl⟩:∃n:Nat,a=n:=⟨a.toNat,by lia⟩;obtain⟨y,rfl⟩:∃n:Nat,b=n:=⟨b.toNat,by lia⟩;rw[zc8];have:=Nat.or_eq_zero_iff (n:=x) (m:=y);lia
def tb(w:Nat)(a:Int):Int:=(2*a)/2^w
def zoQ{w:Nat}(hw:0<w){a:Int}(a0:0<=a)(a1:a<2^w):tb w a=if 2^w<=2*a then 1 else 0:=by
 have h1:(0:Int)<2^w:=A7 ∅;unfold tb;split
 .rename_i h;exact Int.le_antisymm (Int.le_of_lt_add_one (Bb h1 ∅)) (DY h1 ∅)
 .exact B6 ∅ ∅
def zcy(ys:List PV)(h:ys.length<=1000000)(st:SO):ycf (.ok ys st)=.ok (.lst ys) st:=by simp[ycf,h]
def zbt(n:Nat)(h:n<1000):ybQ (.int (n:Int))=AA (yt n 0 1):=by
 simp[ybQ];lia
def zbQ{z:Int}(h:0<=z):∃n:Nat,z=n:=⟨z.toNat,by lia⟩
def ybk(st:SO)(f:Fl):R PV:=
 match f with
 |.rt v _=>if nL v then .ok v st else .bad
 |.nx _ _=>.ok .non st
 |.exc c _ _=>.exc c st
 |_=>.bad
def zc{T:Nat->Option IC.Fn}{k f:Nat}{fn:IC.Fn}{args:List PV}{st:SO}(hT:T f=AA fn)(hp:fn.pure=AB)(hl:args.length=fn.np)(hn:nLs args=AB):
  yd T (k+1) f args st=ybk st (exs (yd T k) (args.map AA++Aj (fn.ns-fn.np) AD) [] fn.body):=by
 rw[yd,hT];dsimp only;rw[if_pos hl,if_pos hp,if_pos hn];rfl
def outI(f:Fl):R PV:=
 match f with
 |.rt v st1=>.ok v st1
 |.nx _ st1=>.ok .non st1
 |.exc c _ st1=>.exc c st1
 |_=>.bad
def zo{T:Nat->Option IC.Fn}{k f:Nat}{fn:IC.Fn}{args:List PV}{st:SO}(hT:T f=AA fn)(hp:fn.pure=AC)(hl:args.length=fn.np):
  yd T (k+1) f args st=outI (exs (yd T k) (args.map AA++Aj (fn.ns-fn.np) AD) st fn.body):=by
 rw[yd,hT];dsimp only;rw[if_pos hl,hp,if_neg (by simp)];rfl
def zbE{st:SO}{v:PV}:outI (.rt v st)=.ok v st:=rfl
def zpr{st s:SO}{b:Bool}:ybk st (.rt (.bl b) s)=.ok (.bl b) st:=rfl
def zmx{st s:SO}{b:Int}:ybk st (.rt (.int b) s)=.ok (.int b) st:=rfl
def yaw:PV:=.tup [.int 2147483647,.int 2147483629,.int 2147483587,.int 2147483579,.int 2147483563]
def yc7:Css:=match yay.body with
 |.cons _ (.cons _ (.cons (.for _ _ b) _))=>b
 |_=>.nil
def zdB{c:Cl}{s num g p:Int}{i:Nat}{u5 u6 u7:Option PV}(hg:∀st,idxV st (.tup [.int 11,.int 101,.int 1009,.int 10007,.int 100003]) (.int i)=AA (.int g))(hi:i<5)(hp:0<p)(hp2:p<18446744073709551616):
  ∃num' v5 v6 v7,exs c [AA (.int s),AA yaw,AA (.int num),AA (.int i),AA (.int p),u5,u6,u7] [] yc7=.nx [AA (.int s),AA yaw,AA (.int num'),AA (.int i),AA (.int p),v5,v6,v7] []:=by
 have h1:∀z:Int,yw .mul (.int z) (.int (48271+2*(i:Int)))=AA (.int (z*(48271+2*(i:Int)))):=λz=>zcE ∅;have h2:∀z y:Int,yw .mul (.int z) (.int (y%p))=AA (.int (z*(y%p))):=λz y=>zcE (by
  have a:=As y (show p≠0 by lia);have b:=Ai y hp;lia)
 have h3:∀z:Int,yw .mul (.int z) (.int p)=AA (.int (z*p)):=λz=>zcE ∅;erw[yc7,yay,AS,BD,BZ,Bu,if_true,xs_cons,xs_nil,x_asg,IC.ve1,IC.ve2,IC.ve3,IC.ve11,IC.ve16,evs,AN,AM,bd_ok,fl_ok,toR_some,bT_n,nxO_some,th_nx,Aa,Ab,sizeMax,Cu,b_add,b_mul2,hg,h1,h2,h3,zg2 hp];exact⟨_,_,_,_,rfl⟩
def zju{c:Cl}{s num:Int}{u5 u6 u7:Option PV}(i:Nat)(p:Int)(h:(i,p)∈[(0,(2147483647:Int)),(1,2147483629),(2,2147483587),(3,2147483579),(4,2147483563)]):
  ∃num' v5 v6 v7,exs c [AA (.int s),AA yaw,AA (.int num),AA (.int i),AA (.int p),u5,u6,u7] [] yc7=.nx [AA (.int s),AA yaw,AA (.int num'),AA (.int i),AA (.int p),v5,v6,v7] []:=by
 erw[AT,Db,Ad,or_false]at h;rcases h with⟨rfl,rfl⟩|⟨rfl,rfl⟩|⟨rfl,rfl⟩|⟨rfl,rfl⟩|⟨rfl,rfl⟩
 .exact zdB (λ_=>rfl) ⋯ ⋯ ⋯
 .exact zdB (λ_=>rfl) ⋯ ⋯ ⋯
 .exact zdB (λ_=>rfl) ⋯ ⋯ ⋯
 .exact zdB (λ_=>rfl) ⋯ ⋯ ⋯
 .exact zdB (λ_=>rfl) ⋯ ⋯ ⋯
def ydN:List PV:=[.tup [.int 0,.int 2147483647],.tup [.int 1,.int 2147483629],.tup [.int 2,.int 2147483587],.tup [.int 3,.int 2147483579],.tup [.int 4,.int 2147483563]]
theorem mixed(k:Nat)(s:Int)(st:SO):∃num,yd T (k+1) yiQ [.int s] st=.ok (.int num) st:=by
 let⟨ρ',st',h,num,a,b,c,d,e,e1,e2⟩:=zeD (call:=yd T k) (t:=.t [3,4]) (b:=yc7) (λ_ ρ st=>∃num a b c d e,ρ=[AA (.int s),AA yaw,AA (.int num),a,b,c,d,e]/\st=[]) ydN 0 [AA (.int s),AA yaw,AA (.int 0),AD,AD,AD,AD,AD] [] ⟨_,_,_,_,_,_,rfl,rfl⟩ (by
  rintro j x ρ st hx ⟨num,a,b,c,d,e,rfl,rfl⟩
  have hx:=A5 hx;have hx:∃i p,x=.tup [.int ((i:Nat):Int),.int p]/\(i,p)∈[(0,(2147483647:Int)),(1,2147483629),(2,2147483587),(3,2147483579),(4,2147483563)]:=by
   erw[ydN,AT,Ad,or_false]at hx;rcases hx with rfl|rfl|rfl|rfl|rfl
   .exact⟨0,_,rfl,by simp⟩
   .exact⟨1,_,rfl,by simp⟩
   .exact⟨2,_,rfl,by simp⟩
   .exact⟨3,_,rfl,by simp⟩
   .exact⟨4,_,rfl,by simp⟩
  let⟨i,p,rfl,hm⟩:=hx;let⟨num',v5,v6,v7,hh⟩:=zju (c:=yd T k) (s:=s) (num:=num) (u5:=c) (u6:=d) (u7:=e) i p hm;exact⟨_,_,_,rfl,hh,_,_,_,_,_,_,rfl,rfl⟩)
 subst e1 e2;refine⟨num,?_⟩;rw[yd];have hb:yay.body=.cons (.asg (.n 1) (.tup (.cons (.cst (.int 2147483647)) (.cons (.cst (.int 2147483629)) (.cons (.cst (.int 2147483587)) (.cons (.cst (.int 2147483579)) (.cons (.cst (.int 2147483563)) .nil))))))) (.cons (.asg (.n 2) (.cst (.int 0))) (.cons (.for (.t [3,4]) (.enum (.var 1)) yc7) (.cons (.ret (.var 2)) .nil))):=rfl;have hT:T yiQ=AA ⟨1,8,AB,yay.body⟩:=rfl;have hp:PV.tup [.int 2147483647,.int 2147483629,.int 2147483587,.int 2147483579,.int 2147483563]=yaw:=rfl;rw[hT,hb];have h5:ev (yd T k) [AA (.int s),AD,AD,AD,AD,AD,AD,AD] [] (.tup (.cons (.cst (.int 2147483647)) (.cons (.cst (.int 2147483629)) (.cons (.cst (.int 2147483587)) (.cons (.cst (.int 2147483579)) (.cons (.cst (.int 2147483563)) .nil))))))=.ok yaw []:=by
  simp[IC.ve1,IC.ve11,evs,R.bind,sizeMax,yaw]
 have he:evi (yd T k) [AA (.int s),AA yaw,AA (.int 0),AD,AD,AD,AD,AD] [] (.enum (.var 1))=.ok ydN []:=by
  simp[evi,IC.ve2,R.bind,yaw,yab,ydN]
 erw[AS,BD,if_true,nLs,nL,Ci,AL,Ar,Bo,Aj,Ap,BI,xs_cons,xs_nil,x_asg,x_for,x_ret,h5,R.fl,yJ,nxO,yau,Aa,Ab,IC.ve1,he,h,IC.ve2,AN,AM]
set_option backward.eqns.nonrecursive true
local macro_rules | `(tactic| simp! [$xs,*])=>do
 let l<-("IC.xs_cons IC.xs_nil IC.x_asg IC.x_ite IC.x_ret IC.x_expr IC.x_for IC.x_six IC.evs IC.evi IC.ve1 IC.ve2 IC.ve3 IC.ve4 IC.ve5 IC.ve6 IC.ve7 IC.ve8 IC.ve9 IC.ve10 IC.ve11 IC.ve12 IC.ve13 IC.ve15 IC.ve16 IC.ve17 IC.ve18 IC.ve19 IC.ve20 IC.ve21 IC.ve24 IC.ve25 IC.ve28 IC.v_comp List.getElem?_cons_zero List.getElem?_cons_succ WK.bd_ok WK.fl_ok WK.bd_exc WK.fl_exc WK.toR_some IC.toL WK.bT_n WK.nxO_some WK.th_nx WK.th_rt WK.th_exc List.set_cons_zero List.set_cons_succ WK.on_t WK.t_bl WK.ono IC.onBl cond_true cond_false List.length_cons List.length_nil Nat.zero_add Nat.reduceAdd Nat.reduceSub Nat.reduceLeDiff if_true IC.nL IC.nLs WK.noLocs_ints Bool.and_self Bool.not_true Bool.not_false List.map_cons List.map_nil List.replicate List.cons_append List.nil_append List.append_nil Option.bind_none Option.bind_some Option.join_some WK.b_add WK.b_sub WK.b_mul2 WK.b_div2 WK.c_lt WK.c_le WK.c_gt WK.c_ge WK.c_eq WK.c_ne IC.PV.tup IC.sizeMax".splitOn " ").toArray.mapM λs=>`(Lean.Parser.Tactic.simpLemma| $(Lean.mkIdent s.toName):term)
 `(tactic| simp only[$l,*,$xs,*])
theorem rdS{st:SO}{n:Nat}{o x:Ob}(h:st[n]?=AA o):(st.set n x)[n]?=AA x:=by
 have:n<st.length:=by
  rcases CZ n st.length with h1|h1
  .exact h1
  .rw[BW h1]at h;cases h
 rw[A9 this]
def znJ(ns:List Int)(a:Int)(h:ns≠[]):∃v,yaZ (ns.map PV.int) (.int (a%(ns.length:Int)))=AA (.int v):=by
 have h0:0<ns.length:=F7.2 h;have h1:=As a (show (ns.length:Int)≠0 by lia);have h2:=Ai a (show (0:Int)<ns.length by lia);have h3:(a%(ns.length:Int)).toNat<ns.length:=by lia
 refine⟨ns[(a%(ns.length:Int)).toNat],?_⟩;simp[yaZ,at?,ixI,h1,h2,h3]
def flT:Css:=match yai.body with
 |.cons _ (.cons _ (.cons _ t))=>t
 |x=>x
abbrev flS(l:PV)(a p:Int)(f:Bool):Ob:=.lst [l,.int a,.int p,.bl f]
def zpy{st:SO}{n:Nat}{l:PV}{a p v:Int}{f:Bool}(h:st[n]?=AA (flS l a p f)):ybs st (.loc n) (.int 1) (.int v)=AA (st.set n (flS l v p f)):=by erw[ybs,h];rfl
def zp1{st:SO}{n:Nat}{l:PV}{a p v:Int}{f:Bool}(h:st[n]?=AA (flS l a p f)):ybs st (.loc n) (.int 2) (.int v)=AA (st.set n (flS l a v f)):=by erw[ybs,h];rfl
def zpN{st:SO}{n:Nat}{l:PV}{a p:Int}{f g:Bool}(h:st[n]?=AA (flS l a p f)):ybs st (.loc n) (.int 3) (.bl g)=AA (st.set n (flS l a p g)):=by erw[ybs,h];rfl
def zqO{st:SO}{n:Nat}{l:PV}{a p:Int}{f:Bool}(h:st[n]?=AA (flS l a p f)):idxV st (.loc n) (.int 0)=AA l:=by erw[idxV,h];rfl
def zqP{st:SO}{n:Nat}{l:PV}{a p:Int}{f:Bool}(h:st[n]?=AA (flS l a p f)):idxV st (.loc n) (.int 1)=AA (.int a):=by erw[idxV,h];rfl
def zqQ{st:SO}{n:Nat}{l:PV}{a p:Int}{f:Bool}(h:st[n]?=AA (flS l a p f)):idxV st (.loc n) (.int 3)=AA (.bl f):=by erw[idxV,h];rfl
theorem p18:yw .pow (.int 10) (.int 18)=AA (.int 1000000000000000000):=by ac_rfl
def zf4(k n:Nat){l:PV}{m a v p q:Int}{f g:Bool}{st:SO}(h:st[n]?=AA (flS l a p f))(hl:∀st,yaj .len st [l]=AA (.int m))(hg:(decide (a ≥ m) || decide (v<1000000000000000000))=g)
  (h1:g=AB->yd T (k+1) yiQ [.int v] (st.set n (flS l (a+1) p AB))=.ok (.int q) (st.set n (flS l (a+1) p AB))) (h2:g=AC->q=v-1000000000000000000):
  exs (yd T (k+1)) [AA (.loc n),AA l,AA (.int a),AA (.int v)] st flT=.nx [AA (.loc n),AA l,AA (.int a),AA (.int v)] (st.set n (flS l (a+1) q g)):=by
 have s1:=zpy h (v:=a+1);have r1:=rdS h (x:=flS l (a+1) p f);have s2:=zpN r1 (g:=g);have r2:=rdS r1 (x:=flS l (a+1) p g);have s3:=zp1 r2 (v:=q);have i3:=zqQ r2;rw[DS]at s2 s3 i3 r2;rw[DS]at s3
 have hb:flT=(match flT with
  |.cons a (.cons (.six x y _) r)=>.cons a (.cons (.six x y (.or (.cmp .ge (.var 2) (.blt .len (.cons (.var 1) .nil))) (.cmp .lt (.var 3) (.bin .pow (.cst (.int 10)) (.cst (.int 18)))))) r)
  |x=>x):=rfl
 have hor:∀st,ev (yd T (k+1)) [AA (.loc n),AA l,AA (.int a),AA (.int v)] st (.or (.cmp .ge (.var 2) (.blt .len (.cons (.var 1) .nil))) (.cmp .lt (.var 3) (.bin .pow (.cst (.int 10)) (.cst (.int 18)))))=.ok (.bl g) st:=λst=>by
  cases c:decide (a ≥ m)
  .rw[c,Fc]at hg;simp! [hl,c,p18,hg]
  .rw[c,Ey]at hg;subst hg;simp! [hl,c]
 generalize hE:(Ce.or (.cmp .ge (.var 2) (.blt .len (.cons (.var 1) .nil))) (.cmp .lt (.var 3) (.bin .pow (.cst (.int 10)) (.cst (.int 18)))))=E at *
 cases g with
 |true=>
  have h1:=h1 rfl;rw[hb];simp! [flT,yai,stO,s1,hor,s2,i3,h1,s3]
 |false=>
  have h2:=h2 rfl;subst h2;rw[hb];simp! [flT,yai,stO,s1,hor,s2,i3,p18,s3]
theorem fill(k n:Nat)(ns:List Int)(hns:ns.length<=1000)(a p:Int)(ha:0<=a)(f:Bool)(st:SO)(h:st[n]?=AA (.lst [.lst (ns.map .int),.int a,.int p,.bl f])):
  ∃p' f',yd T (k+2) yj0 [.loc n] st=.ok .non (st.set n (.lst [.lst (ns.map .int),.int (a+1),.int p',.bl f'])):=by
 have hT:T yj0=AA ⟨1,4,AC,yai.body⟩:=rfl;have hl:∀st,yaj .len st [.lst (ns.map .int)]=AA (.int (ns.length:Int)):=λst=>by
  show AA (PV.int (((ns.map PV.int).length:Nat):Int))=_;simp
 have i0:=zqO h;have i1:=zqP h;have bt:∀(a b:PV) (ρ:IC.Env),yJ (.t [1,2]) (.tp AC [a,b]) ρ=AA ((ρ.set 1 (AA a)).set 2 (AA b)):=λ_ _ _=>rfl
 have hb:yai.body=(match yai.body with
  |.cons a (.cons b (.cons c _))=>.cons a (.cons b (.cons c flT))
  |x=>x):=rfl
 have m31:yw .mul (.int 31) (.int a)=AA (.int (31*a)):=zaO ⋯;obtain⟨v,hv⟩:∃v,exs (yd T (k+1)) [AA (.loc n),AD,AD,AD] st yai.body=exs (yd T (k+1)) [AA (.loc n),AA (.lst (ns.map .int)),AA (.int a),AA (.int v)] st flT:=by
  by_cases hn:ns=[]
  .have c0:decide ((ns.length:Int) > 0)=false:=by subst hn;rfl
   refine⟨31*a+7,?_⟩;rw[hb];generalize flT=F,ns.map PV.int=L at *;simp! [yai,i0,i1,bt,m31,hl,c0]
  .have h0:0<ns.length:=F7.2 hn;let⟨v,hv⟩:=znJ ns a hn;have c0:decide ((ns.length:Int) > 0)=true:=decide_eq_true ∅;have d1:=zdx (i:=a) (j:=(ns.length:Int)) ∅ ∅;have d2:=zg2 (i:=a) (j:=(ns.length:Int)) ∅;have m1:yw .mul (.int 104729) (.int (a/(ns.length:Int)))=AA (.int (104729*(a/(ns.length:Int)))):=zaO ⋯;have ix:∀st,idxV st (.lst (ns.map .int)) (.int (a%(ns.length:Int)))=AA (.int v):=λ_=>hv;refine⟨104729*(a/(ns.length:Int))+v,?_⟩;rw[hb];generalize flT=F,ns.map PV.int=L at *;simp! [yai,i0,i1,bt,m31,hl,c0,d1,d2,m1,ix]
 cases c:(decide (a ≥ (ns.length:Int)) || decide (v<1000000000000000000))with
 |true=>
  let⟨q,hq⟩:=mixed k v (st.set n (flS (.lst (ns.map .int)) (a+1) p AB));refine⟨q,AB,?_⟩;rw[zo hT rfl rfl];have e:=zf4 k n h hl c (λ_=>hq) (λh=>nomatch h);rw[<-hv]at e;exact(congrArg _ e).trans rfl
 |false=>
  refine⟨v-1000000000000000000,AC,?_⟩;rw[zo hT rfl rfl];have e:=zf4 k n h hl c (λh=>nomatch h) (λ_=>rfl);rw[<-hv]at e;exact(congrArg _ e).trans rfl
abbrev cM:Nat:=21
abbrev sw:Str:=AE "w"
abbrev sws:Str:=AE "words"
abbrev smk:Str:=AE "marked"
def mob(w:Int)(L:Nat)(mk:Int):Ob:=.ins cM [(sw,.int w),(sws,.loc L),(smk,.int mk)]
structure MM(st:SO)(m l:Nat)(w:Int)(M:Mem)(mk:Int)(L:Nat):Prop where
 o:st[m]?=AA (mob w l mk)
 d:Dc st l M L
 ne:m≠l
def zqR{w mk:Int}{L:Nat}:([(sw,PV.int w),(sws,.loc L),(smk,.int mk)]:List (AQ×PV)).lookup sw=AA (.int w):=by ac_rfl
def zqS{w mk:Int}{L:Nat}:([(sw,PV.int w),(sws,.loc L),(smk,.int mk)]:List (AQ×PV)).lookup sws=AA (.loc L):=by ac_rfl
def zqT{w mk:Int}{L:Nat}:([(sw,PV.int w),(sws,.loc L),(smk,.int mk)]:List (AQ×PV)).lookup smk=AA (.int mk):=by ac_rfl
section
variable {st:SO}{m l L:Nat}{w mk:Int}{M:Mem}
theorem MM.fw(h:MM st m l w M mk L):ya5 cM st (.loc m) sw=AA (.int w):=by erw[ya5,h.o,mob,if_true];exact zqR
theorem MM.fd(h:MM st m l w M mk L):ya5 cM st (.loc m) sws=AA (.loc l):=by erw[ya5,h.o,mob,if_true];exact zqS
theorem MM.fm(h:MM st m l w M mk L):ya5 cM st (.loc m) smk=AA (.int mk):=by erw[ya5,h.o,mob,if_true];exact zqT
theorem MM.ins(h:MM st m l w M mk L)(n:AQ)(hm:(([(sw,PV.non),(sws,.non),(smk,.non)]:List (AQ×PV)).lookup n).isNone=true:=by decide +kernel):ybV cM n st (.loc m)=AA true:=by
 have e:([(sw,PV.int w),(sws,.loc l),(smk,.int mk)]:List (AQ×PV)).lookup n=none:=by
  erw[Bw]at hm ⊢
  cases h1:n==sw with
  |true=>rw[h1]at hm;cases hm
  |false=>
   rw[h1]at hm
   cases h2:n==sws with
   |true=>rw[h2]at hm;cases hm
   |false=>
    rw[h2]at hm
    cases h3:n==smk with
    |true=>rw[h3]at hm;cases hm
    |false=>rfl
 erw[ybV,h.o,mob];rw[if_pos ⟨trivial,e⟩]
def znG{v:Int}:ybI smk (.int v) [(sw,PV.int w),(sws,.loc L),(smk,.int mk)]=[(sw,.int w),(sws,.loc L),(smk,.int v)]:=by ac_rfl
theorem Dc.set_ne{n:Nat}(h:Dc st l M L)(hn:n≠l)(o:Ob):Dc (st.set n o) l M L:=by
 let⟨kvs,h1,h2⟩:=h.ex;exact⟨kvs,by rw[AO hn];exact h1,h2⟩
theorem Dc.le{L':Nat}(h:Dc st l M L)(hL:L<=L'):Dc st l M L':=by
 let⟨kvs,h1,h2,h3,h4⟩:=h.ex;exact⟨kvs,h1,h2,h3,BU h4 hL⟩
theorem MM.sm(h:MM st m l w M mk L)(v:Int):ya4 cM st (.loc m) smk (.int v)=AA (st.set m (mob w l v))/\MM (st.set m (mob w l v)) m l w M v L:=by
 refine⟨?_,⟨rdS h.o,h.d.set_ne h.ne _,h.ne⟩⟩;erw[ya4,h.o,mob];rw[if_pos ⟨trivial,by simp⟩,znG]
theorem MM.sd(h:MM st m l w M mk L)(hL:L<999999)(c:Cel)(v:Int):∃st',ybd st (.loc l) (yI c) (.int v)=AA st'/\(∃o,st'=st.set l o)/\MM st' m l w (wr M c v) mk (L+1):=by
 let⟨kvs,e,d⟩:=zjI h.d hL c.1 c.2 v;exact⟨_,e,⟨_,rfl⟩,by rw[AO (BN h.ne)];exact h.o,d,h.ne⟩
def zeO(k:Nat)(h:MM st m l w M mk L)(c:Cel):yd T (k+1) yB [.loc m,yI c] st=.ok (.int (rd M c)) st:=by
 have hT:T yB=AA yhM:=rfl;have g:ych .get st (.loc l) [yI c,.int 0]=.ok (.int (rd M c)) st:=zjo h.d c.1 c.2;have o:yaO .get st (.loc l)=AA true:=by
  let⟨kvs,h1,_⟩:=h.d.ex;simp[yaO,ybe,h1]
 rw[zo hT rfl rfl];generalize yI c=q at *;simp! [yhM,h.fd,o,g,zbE,IC.ve32]
end
theorem highest(k n:Nat)(hn:n<=100)(s:SO):yd T (k+1) yix [.int n] s=.ok (.int (2^n-1)) s:=by
 have hT:T yix=AA yhA:=rfl;have hs:yw .shl (.int 1) (.int (n:Int))=AA (.int (2^n)):=by
  erw[yw,binI];rw[if_pos ⟨by lia,by lia,by decide⟩];simp
 rw[zc hT rfl rfl rfl];simp! [yhA,zmx,hs]
def zaK{st s:SO}{a b:Int}:ybk st (.rt (.tp AC [.int a,.int b]) s)=.ok (.tp AC [.int a,.int b]) st:=rfl
section
variable {x y m:Int}{n:Nat}(hn:n<=100)(hn1:1<=n)(k:Nat)(st:SO)
def zo0:yw .shr (.int x) (.int (n:Int))=AA (.int (x/2^n)):=by
 erw[yw,binI];rw[if_pos ∅];simp
theorem band(a b:Int):yw .band (.int a) (.int b)=AA (.int (Aw a b)):=rfl
def zo5{x y:Int}(hx:0<=x)(hy:0<=y):Aw x y=((x.toNat &&& y.toNat:Nat):Int):=by simp[Aw,hx,hy]
def zof{x y:Int}(hx:¬0<=x)(hy:0<=y):Aw x y=y-((y.toNat &&& (FQ x).toNat:Nat):Int):=by simp[Aw,hx,hy]
def zfi(a:Int):Aw a (2^n-1)=a%2^n:=by
 have hp:(0:Int)<2^n:=A7 ⋯;have hc:((2^n:Nat):Int)=2^n:=by simp
 have ht:((2:Int)^n-1).toNat=2^n-1:=by lia
 by_cases h:0<=a
 .rw[zo5 h ∅,ht,Bt,G1,hc,Ds h]
 .have hb:FQ a=-a-1:=rfl;rw[zof h ∅,ht,Nat.and_comm,Bt,G1,hc,hb,Ds ∅];have e:=BX (-a-1) (2^n);have r0:=As (-a-1) (show (2:Int)^n≠0 by lia);have r1:=Ai (-a-1) hp;generalize (-a-1)%2^n=r,(-a-1)/2^n=q at *;generalize (2:Int)^n=P at *;have m:P*(-q-1)=-(P*q)-P:=by rw[FR,Int.mul_neg,CW]
  rw[show a=(P-1-r)+P*(-q-1)by lia,CP,A6 ∅ ∅]
include hn
def zmi:yd T (k+1) yiy [.int n,.int x,.int y,.int m] st=.ok (.tp AC [.int x,.int m]) st:=by
 have hT:T yiy=AA yhB:=rfl;rw[zc hT rfl rfl rfl];simp! [yhB,zaK]
def zlC:yd T (k+2) yiz [.int n,.int x,.int y,.int m] st=.ok (.tp AC [.int (2^n-1-x),.int m]) st:=by
 have hT:T yiz=AA yhC:=rfl;have e:=highest k n hn;rw[zc hT rfl rfl rfl];simp! [yhC,zaK,e]
def zgb:yd T (k+2) yiA [.int n,.int x,.int y,.int m] st=.ok (.tp AC [.int ((x+y+m)%2^n),.int ((x+y+m)/2^n)]) st:=by
 have hT:T yiA=AA yhD:=rfl;have e:=highest k n hn;rw[zc hT rfl rfl rfl];simp! [yhD,zaK,e,band,zo0,zfi]
def zmD:yd T (k+2) yiB [.int n,.int x,.int y,.int m] st=.ok (.tp AC [.int ((x-y-m)%2^n),.int (if x-y-m<0 then 1 else 0)]) st:=by
 have hT:T yiB=AA yY:=rfl;have e:=highest k n hn;rw[zc hT rfl rfl rfl]
 by_cases c:x-y-m<0
 .have hc:yG .lt (.int (x-y-m)) (.int 0)=AA (.bl AB):=by simp[yG,ybH,c]
  rw[if_pos c];have hd:decide (x-y-m<0)=true:=decide_eq_true c;simp! [yY,zaK,e,band,zfi,hd]
 .rw[if_neg c];have hd:decide (x-y-m<0)=false:=decide_eq_false c;simp! [yY,zaK,e,band,zfi,hd]
def znd:yd T (k+1) yiC [.int n,.int x,.int y,.int m] st=.ok (.tp AC [.int (Aw x y),.int m]) st:=by
 have hT:T yiC=AA yhE:=rfl;rw[zc hT rfl rfl rfl];simp! [yhE,zaK,zpv]
def zpS:yd T (k+1) yiD [.int n,.int x,.int y,.int m] st=.ok (.tp AC [.int (Av x y),.int m]) st:=by
 have hT:T yiD=AA yhF:=rfl;rw[zc hT rfl rfl rfl];simp! [yhF,zaK,zqn]
def zpP:yd T (k+1) yiE [.int n,.int x,.int y,.int m] st=.ok (.tp AC [.int (BS x y),.int m]) st:=by
 have hT:T yiE=AA yhG:=rfl;rw[zc hT rfl rfl rfl];simp! [yhG,zaK,zqb]
def ziO:yd T (k+3) yiF [.int n,.int x,.int y,.int m] st=.ok (.tp AC [.int ((x+x+m)%2^n),.int ((x+x+m)/2^n)]) st:=by
 have hT:T yiF=AA yhH:=rfl;have e:=zgb (x:=x) (y:=x) (m:=m) hn k;rw[zc hT rfl rfl rfl];simp! [yhH,zaK,e]
include hn1
def zmo(x0:0<=x)(x1:x<2^n)(m0:0<=m)(m1:m<2):Av (x/2) (m*2^(n-1))=x/2+m*(2^n/2):=by
 obtain⟨n',rfl⟩:∃n',n=n'+1:=⟨n-1,by lia⟩;let⟨a,rfl⟩:=zbQ x0;let⟨b,rfl⟩:=zbQ m0;have e1:((a:Int)/2)=((a/2:Nat):Int):=by lia
 have e2:((b:Int)*2^(n'+1-1))=((2^n' * b:Nat):Int):=by
  rw[show n'+1-1=n' from rfl,Af];simp
 have hp:(2:Int)^(n'+1)=2*2^n':=by rw[Ae,Af]
 have ha:a/2<2^n':=by
  have:(a:Int)<2*2^n':=by rw[<-hp];exact x1
  have h3:((2^n':Nat):Int)=2^n':=by simp
  lia
 rw[e1,e2,zc8,Nat.or_comm,<-Nat.two_pow_add_eq_or_of_lt ha,hp,Int.mul_ediv_cancel_left _ ⋯];have h3:((2^n' * b:Nat):Int)=b*2^n':=by rw[Af];simp
 rw[Int.natCast_add,h3,Ct]
def zjN(x0:0<=x)(x1:x<2^n)(m0:0<=m)(m1:m<2):yd T (k+1) yiG [.int n,.int x,.int y,.int m] st=.ok (.tp AC [.int (x/2+m*(2^n/2)),.int (x%2)]) st:=by
 have hT:T yiG=AA yhI:=rfl;have h1:yw .shr (.int x) (.int 1)=AA (.int (x/2)):=by
  have:=zo0 (x:=x) (n:=1);simpa using this
 have h2:yw .shl (.int m) (.int ((n:Int)-1))=AA (.int (m*2^(n-1))):=by
  erw[yw,binI];rw[if_pos ⟨by lia,by lia,by lia⟩]
  congr 3
  congr 1
  lia
 have h3:Aw x 1=x%2:=zfi (n:=1) x;rw[zc hT rfl rfl rfl];simp! [yhI,zaK,h1,h2,zqn,zmo hn hn1 x0 x1 m0 m1,band,h3]
end
def zkn{j:Nat}{k:Nat->Fl}:yeW (AA j) k=k j:=rfl
theorem made{s:AQ}{j:Nat}(hj:mkV yf AB (.str s)=AA j)(k:Nat)(st:SO){n x y m a b:Int}(e:yd T k j [.int n,.int x,.int y,.int m] []=.ok (.tp AC [.int a,.int b]) []):
  yd T (k+1) yiw [.str s,.int n,.int x,.int y,.int m] st=.ok (.tp AC [.int a,.int b]) st:=by
 have hT:T yiw=AA yhz:=rfl;have hd:decide (5<6)=true:=rfl;rw[zc hT rfl rfl rfl];erw[yhz,AL,Ar,Bo,Aj,Ap,BI,xs_cons,zpc,IC.ve2,AN,fl_ok];simp! [hd,hj,zkn,e,zaK]
def zjT:mkV yf AB (.str "move")=AA yiy/\mkV yf AB (.str "bare")=AA yiz/\mkV yf AB (.str "sum")=AA yiA/\mkV yf AB (.str "less")=AA yiB/\mkV yf AB (.str "both")=AA yiC /\
  mkV yf AB (.str "any")=AA yiD/\mkV yf AB (.str "odd")=AA yiE/\mkV yf AB (.str "twice")=AA yiF/\mkV yf AB (.str "half")=AA yiG:=by
 refine⟨?_,?_,?_,?_,?_,?_,?_,?_,?_⟩<;>decide +kernel
def zqU{i j:Nat}{k:Bool}{a b:PV}{ρ:IC.Env}:yJ (.t [i,j]) (.tp k [a,b]) ρ=AA ((ρ.set i (AA a)).set j (AA b)):=rfl
def zqV{call:Cl}{ρ:IC.Env}{st:SO}:ev call ρ st (.neg (.cst (.int 1)))=.ok (.int (-1)) st:=by erw[ev,R.bind]
def okM(r:R PV)(st:SO)(m l:Nat)(w:Int)(M':Mem)(mk':Int)(L':Nat):Prop:=∃st',MM st' m l w M' mk' L'/\(∀n,n≠m->n≠l->st'[n]?=st[n]?)/\st'.length=st.length/\r=.ok .non st'
section
variable {st:SO}{m l L n:Nat}{mk:Int}{M:Mem}
def za1(k:Nat)(h:MM st m l n M mk L)(hL:L<999999){s:AQ}{j:Nat}(hj:mkV yf AB (.str s)=AA j){t x z:Cel}{r:List PV}
  (hlast:∀st,idxV st (.tp AC (.str s::yI t::yI x::r)) (.int (-1))=AA (yI z)) {v m':Int} (e:yd T (k+3) j [.int n,.int (rd M x),.int (rd M z),.int mk] []=.ok (.tp AC [.int v,.int m']) []):
  okM (yd T (k+5) yiJ [.loc m,.tp AC (.str s::yI t::yI x::r)] st) st m l n (wr M t v) m' (L+1):=by
 have hT:T yiJ=AA yhN:=rfl;have e1:yd T (k+4) yB [.loc m,yI x] st=.ok (.int (rd M x)) st:=zeO (k+3) h x;have e2:yd T (k+4) yB [.loc m,yI z] st=.ok (.int (rd M z)) st:=zeO (k+3) h z;have e3:yd T (k+4) yiw [.str s,.int n,.int (rd M x),.int (rd M z),.int mk] st=_:=made hj (k+3) st e;have ih:=h.ins (AE "held_in");let⟨s1,d1,⟨o,ho⟩,h1⟩:=h.sd hL t v;let⟨d2,h2⟩:=h1.sm m';refine⟨_,h2,λq a b=>?_,by simp[ho],?_⟩
 .rw[AO (BN a),ho,AO (BN b)]
 rw[zo hT rfl rfl];generalize yI t=ct,yI x=cx,yI z=cz at *;simp! [yhN,ih,ix0,ix1,ix2,e1,zqV,hlast,e2,zqU,h.fw,h.fm,e3,h.fd,zi6,d1,zay,zfM,d2,DH,IC.ve32,IC.ve37];rfl
end
section
variable {st:SO}{m l L n:Nat}{mk:Int}{M:Mem}
def zb0(k:Nat){s:AQ}{r:List PV}{M':Mem}{mk':Int}{L':Nat}(h:MM st m l n M mk L)(q1:yG .eq (.str s) (.str "mark")=AA (.bl AC))(q2:yG .eq (.str s) (.str "ask")=AA (.bl AC))(q3:yG .eq (.str s) (.str "set")=AA (.bl AC))(q4:yG .eq (.str s) (.str "times")=AA (.bl AC))
  (g:okM (yd T (k+5) yiJ [.loc m,.tp AC (.str s::r)] st) st m l n M' mk' L'):okM (yd T (k+6) yl [.loc m,.tp AC (.str s::r)] st) st m l n M' mk' L':=by
 have hT:T yl=AA yi:=rfl;let⟨st',g1,g2,g3,e⟩:=g;refine⟨st',g1,g2,g3,?_⟩;have ih:=h.ins (AE "go_made");rw[zo hT rfl rfl];simp! [yi,ix0,q1,q2,q3,q4,ih,e,IC.ve37];rfl
theorem MM.le{L':Nat}{w:Int}(h:MM st m l w M mk L)(hL:L<=L'):MM st m l w M mk L':=⟨h.o,h.d.le hL,h.ne⟩
def zlG(k:Nat)(h:MM st m l n M mk L)(d:Int):okM (yd T (k+6) yl [.loc m,yV (.mark d)] st) st m l n M d (L+1):=by
 have hT:T yl=AA yi:=rfl;let⟨d2,h2⟩:=h.sm d;refine⟨_,h2.le ∅,λq a b=>by rw[AO (BN a)],by simp,?_⟩;have q:yG .eq (.str "mark") (.str "mark")=AA (.bl AB):=by ac_rfl
 rw[zo hT rfl rfl];simp! [yi,yV,ix0,ix1,q,zfM,d2,zay];rfl
def zm2(k:Nat)(h:MM st m l n M mk L)(x:Cel):okM (yd T (k+6) yl [.loc m,yV (.ask x)] st) st m l n M (bi (!(rd M x==0))) (L+1):=by
 have hT:T yl=AA yi:=rfl;let⟨d2,h2⟩:=h.sm (bi (!(rd M x==0)));refine⟨_,h2.le ∅,λq a b=>by rw[AO (BN a)],by simp,?_⟩;have q:yG .eq (.str "ask") (.str "mark")=AA (.bl AC):=by ac_rfl
 have q2:yG .eq (.str "ask") (.str "ask")=AA (.bl AB):=by ac_rfl
 have e1:yd T (k+5) yB [.loc m,yI x] st=.ok (.int (rd M x)) st:=zeO (k+4) h x;have ih:=h.ins (AE "held_in");rw[zo hT rfl rfl];erw[yV];generalize yI x=cx at *
 cases e:(rd M x==0)with
 |true=>
  rw[e]at d2;have d2:ya4 cM st (.loc m) smk (.int 0)=_:=d2;simp! [yi,ix0,ix1,q,q2,ih,e1,e,zfM,d2,zay,IC.ve37];rfl
 |false=>
  rw[e]at d2;have d2:ya4 cM st (.loc m) smk (.int 1)=_:=d2;simp! [yi,ix0,ix1,q,q2,ih,e1,e,zfM,d2,zay,IC.ve37];rfl
def zoV(k:Nat)(h:MM st m l n M mk L)(hL:L<999999)(t:Cel)(d:Int):okM (yd T (k+6) yl [.loc m,yV (.set t d)] st) st m l n (wr M t d) mk (L+1):=by
 have hT:T yl=AA yi:=rfl;let⟨s1,d1,⟨o,ho⟩,h1⟩:=h.sd hL t d;refine⟨_,h1,λq a b=>by rw[ho,AO (BN b)],by simp[ho],?_⟩;have q:yG .eq (.str "set") (.str "mark")=AA (.bl AC):=by ac_rfl
 have q2:yG .eq (.str "set") (.str "ask")=AA (.bl AC):=by ac_rfl
 have q3:yG .eq (.str "set") (.str "set")=AA (.bl AB):=by ac_rfl
 rw[zo hT rfl rfl];erw[yV];generalize yI t=ct at *;simp! [yi,ix0,ix1,ix2,q,q2,q3,h.fd,zi6,d1,zay,IC.ve32];rfl
def znh{s a b:PV}:∀st,idxV st (.tp AC [s,a,b]) (.int (-1))=AA b:=λst=>rfl
def zko{s a b c:PV}:∀st,idxV st (.tp AC [s,a,b,c]) (.int (-1))=AA c:=λst=>rfl
def zmy(a:Int):(if a<0 then(1:Int)else 0)=bi (decide (a<0)):=by
 by_cases h:a<0<;>simp[h,bi]
def zor(k:Nat)(h:MM st m l n M mk L)(hL:L<999999)(hn:n<=100)(hn1:1<=n)(r:Rw)(hh:∀t x,r=.half t x->0<=rd M x/\rd M x<2^n/\0<=mk/\mk<2):
  okM (yd T (k+6) yl [.loc m,yV r] st) st m l n (stepM (2^n) M mk r).1 (stepM (2^n) M mk r).2 (L+1):=by
 let⟨j1,j2,j3,j4,j5,j6,j7,j8,j9⟩:=zjT
 cases r with
 |mark d=>exact zlG k h d
 |ask x=>exact zm2 k h x
 |set t d=>exact zoV k h hL t d
 |move t x=>exact zb0 k h (by ac_rfl) (by ac_rfl) (by ac_rfl) (by ac_rfl) (za1 k h hL j1 znh (zmi hn (k+2) []))
 |bare t x=>exact zb0 k h (by ac_rfl) (by ac_rfl) (by ac_rfl) (by ac_rfl) (za1 k h hL j2 znh (zlC hn (k+1) []))
 |twice t x=>
  have e:=ziO (x:=rd M x) (y:=rd M x) (m:=mk) hn k [];rw[show rd M x+rd M x+mk=2*rd M x+mk by lia]at e;exact zb0 k h (by ac_rfl) (by ac_rfl) (by ac_rfl) (by ac_rfl) (za1 k h hL j8 znh e)
 |half t x=>
  let⟨a,b,c,d⟩:=hh t x rfl;exact zb0 k h (by ac_rfl) (by ac_rfl) (by ac_rfl) (by ac_rfl) (za1 k h hL j9 znh (zjN hn hn1 (k+2) [] a b c d))
 |sum t x y=>exact zb0 k h (by ac_rfl) (by ac_rfl) (by ac_rfl) (by ac_rfl) (za1 k h hL j3 zko (zgb hn (k+1) []))
 |less t x y=>
  have e:=zmD (x:=rd M x) (y:=rd M y) (m:=mk) hn (k+1) [];rw[zmy]at e;exact zb0 k h (by ac_rfl) (by ac_rfl) (by ac_rfl) (by ac_rfl) (za1 k h hL j4 zko e)
 |both t x y=>exact zb0 k h (by ac_rfl) (by ac_rfl) (by ac_rfl) (by ac_rfl) (za1 k h hL j5 zko (znd hn (k+2) []))
 |any t x y=>exact zb0 k h (by ac_rfl) (by ac_rfl) (by ac_rfl) (by ac_rfl) (za1 k h hL j6 zko (zpS hn (k+2) []))
 |odd t x y=>exact zb0 k h (by ac_rfl) (by ac_rfl) (by ac_rfl) (by ac_rfl) (za1 k h hL j7 zko (zpP hn (k+2) []))
end
abbrev cZ:Cel:=(122,0)
abbrev cS:Cel:=(115,0)
abbrev cT:Cel:=(116,0)
def yS(f:Int->Rw):Nat->List Rw
 |0=>[]
 |n+1=>yS f n++[f n]
def yN(n:Nat):List Rw:=[.set cS 0]++yS (λi=>Rw.any cS cS (99,i)) n++[.ask cS,.set (109,2) 1,.less (109,2) (109,2) cZ,.twice cT (99,(n:Int)-1),.sum (109,3) cZ cZ]
def yh(W:Int):Nat->Int->List Int
 |0,_=>[]
 |n+1,x=>x%W::yh W n (x/W)
def zQ(W:Int):∀n x,(yh W n x).length=n
 |0,_=>rfl
 |n+1,x=>by rw[yh,AS,zQ]
def yaG(c:Nat):Nat->List Int->Mem->Mem
 |_,[],M=>M
 |i,v::vs,M=>yaG c (i+1) vs (upd M c i v)
def M0:Mem:=λ_ _=>0
def yaq(W:Int)(n:Nat)(x y:Int):Mem:=yaG 98 0 (yh W n y) (yaG 97 0 (yh W n x) M0)
def yx(W:Int)(M:Mem)(c:Nat):Nat->Int
 |0=>0
 |n+1=>yx W M c n+M c n*W^n
structure Cx where
 l:Nat
 c:Int
 i:Int
 j:Int
 m:Int
deriving DecidableEq
inductive Op where
 |fig (d:Int)|cel (x:Cx)
deriving DecidableEq
structure Rs where
 nm:AQ
 ops:List Op
deriving DecidableEq
inductive T2 where
 |row (r:Rs)|rounds (c m t:Int) (rs:List Rs)
deriving DecidableEq
inductive T1 where
 |row (r:Rs)|rounds (c m t:Int) (ps:List T2)
deriving DecidableEq
def Cx.at(x:Cx)(I J n:Int):Int:=x.c+x.i*I+x.j*J+x.m*n
def Op.pv(I J n:Int):Op->PV
 |.fig d=>.int d
 |.cel x=>yU x.l (x.at I J n)
def Rs.pv(r:Rs)(I J n:Int):PV:=.tup (.str r.nm::r.ops.map (Op.pv I J n))
def cnt(c m t w n:Int):Nat:=(c+m*n+t*w*n).toNat
def upTo{α:Type}(f:Nat->List α):Nat->List α
 |0=>[]
 |n+1=>upTo f n++f n
def T2.rows(w n:Int)(I:Nat):T2->List PV
 |.row r=>[r.pv I 0 n]
 |.rounds c m t rs=>upTo (λJ=>rs.map λr=>r.pv I J n) (cnt c m t w n)
def T2.rnd(w n:Int):T2->Nat
 |.row _=>0
 |.rounds c m t _=>cnt c m t w n
def yan(w n:Int)(I:Nat)(ps:List T2):List PV:=ps.flatMap (T2.rows w n I)
def ybL(w n:Int)(ps:List T2):Nat:=(ps.map (T2.rnd w n)).sum
def T1.rows(w n:Int):T1->List PV
 |.row r=>[r.pv 0 0 n]
 |.rounds c m t ps=>upTo (λI=>yan w n I ps) (cnt c m t w n)
def T1.rnd(w n:Int):T1->Nat
 |.row _=>0
 |.rounds c m t ps=>cnt c m t w n*(1+ybL w n ps)
def yK(w n:Int)(ps:List T1):List PV:=ps.flatMap (T1.rows w n)
def ybu(w n:Int)(ps:List T1):Nat:=(ps.map (T1.rnd w n)).sum
def sm(i:Int):Bool:=decide (i.natAbs<=200)
def ydW:PV->Option Op
 |.int d=>AA (.fig d)
 |.tp _ [.str s,.tp _ [.int c,.int i,.int j,.int m]]=>if s=chS (s.cps.getD 0 0)/\(sm c&&sm i&&sm j&&sm m)=AB then AA (.cel ⟨s.cps.getD 0 0,c,i,j,m⟩)else AD
 |_=>AD
def ybw:List PV->Option (List Op)
 |[]=>AA []
 |v::vs=>match ydW v,ybw vs with
  |some a,AA b=>AA (a::b)
  |_,_=>AD
def rowOf:PV->Option Rs
 |.tp _ (.str nm::vs)=>match ybw vs with
  |some ops=>if vs.length<100 then AA ⟨nm,ops⟩else AD
  |none=>AD
 |_=>AD
def ydd(s:AQ):Bool:=decide (s=AE "row")
def yb6:PV->Option Rs
 |.tp _ [.str s,v]=>if ydd s then rowOf v else AD
 |_=>AD
def deepOf:List PV->Option (List Rs)
 |[]=>AA []
 |v::vs=>match yb6 v,deepOf vs with
  |some a,AA b=>AA (a::b)
  |_,_=>AD
def yca(s:AQ):Bool:=decide (s=AE "rounds")
def part2(v:PV):Option T2:=
 match v with
 |.tp _ [.str s,.tp _ [.int c,.int m,.int t],_,.tp _ vs]=>if yca s&&(sm c&&sm m&&sm t)then(deepOf vs).map (.rounds c m t)else AD
 |v=>(yb6 v).map .row
def yaR:List PV->Option (List T2)
 |[]=>AA []
 |v::vs=>match part2 v,yaR vs with
  |some a,AA b=>AA (a::b)
  |_,_=>AD
def part1(v:PV):Option T1:=
 match v with
 |.tp _ [.str s,.tp _ [.int c,.int m,.int t],_,.tp _ vs]=>if yca s&&(sm c&&sm m&&sm t)then(yaR vs).map (.rounds c m t)else AD
 |v=>(yb6 v).map .row
def yaK:List PV->Option (List T1)
 |[]=>AA []
 |v::vs=>match part1 v,yaK vs with
  |some a,AA b=>AA (a::b)
  |_,_=>AD
def zmL{v:PV}{o:Op}(h:ydW v=AA o):(∃d,o=.fig d/\v=.int d) \/ ∃a b x,o=.cel x/\v=.tp a [.str (chS x.l),.tp b [.int x.c,.int x.i,.int x.j,.int x.m]]/\x.i.natAbs<=200/\x.j.natAbs<=200/\x.m.natAbs<=200:=by
 unfold ydW at h;split at h
 .left;cases h;exact⟨_,rfl,rfl⟩
 .right;rename_i a s b c i j m;split at h
  .rename_i q
   cases h
   have q2:=q.2;erw[sm,AK,decide_eq_true_eq]at q2;refine⟨a,b,_,rfl,?_,q2.1.1.2,q2.1.2,q2.2⟩;simp only;rw[<-q.1]
  .cases h
 .cases h
def zjA{v:PV}{r:Rs}(h:rowOf v=AA r):∃a vs,v=.tp a (.str r.nm::vs)/\ybw vs=AA r.ops/\vs.length<100:=by
 unfold rowOf at h;split at h
 .rename_i a nm vs;split at h
  .rename_i ops q;split at h
   .rename_i z
    cases h;exact⟨a,vs,rfl,q,z⟩
   .cases h
  .cases h
 .cases h
def zlW{v:PV}{r:Rs}(h:yb6 v=AA r):∃a v1,v=.tp a [.str "row",v1]/\rowOf v1=AA r:=by
 unfold yb6 at h;split at h
 .rename_i a s v1;split at h
  .rename_i q;have q:s=AE "row":=by simpa [ydd] using q
   exact⟨a,v1,by rw[q],h⟩
  .cases h
 .cases h
def zjY{v:PV}{p:T2}(h:part2 v=AA p):(∃r,p=.row r/\yb6 v=AA r) \/ ∃a b sn d vs c m t rs,p=.rounds c m t rs/\v=.tp a [.str "rounds",.tp b [.int c,.int m,.int t],sn,.tp d vs]/\deepOf vs=AA rs/\c.natAbs<=200/\m.natAbs<=200/\t.natAbs<=200:=by
 unfold part2 at h;split at h
 .right;rename_i a s b c m t sn d vs;split at h
  .rename_i q;erw[yca,sm,AK,decide_eq_true_eq]at q
   cases e:deepOf vs with
   |none=>rw[e]at h;cases h
   |some rs=>
    rw[e]at h
    cases h
    exact⟨a,b,sn,d,vs,c,m,t,rs,rfl,by rw[q.1],e,q.2.1.1,q.2.1.2,q.2.2⟩
  .cases h
 .left
  cases e:yb6 v with
  |none=>rw[e]at h;cases h
  |some r=>rw[e]at h;cases h;exact⟨r,rfl,rfl⟩
def zjp{v:PV}{p:T1}(h:part1 v=AA p):(∃r,p=.row r/\yb6 v=AA r) \/ ∃a b sn d vs c m t ps,p=.rounds c m t ps/\v=.tp a [.str "rounds",.tp b [.int c,.int m,.int t],sn,.tp d vs]/\yaR vs=AA ps/\c.natAbs<=200/\m.natAbs<=200/\t.natAbs<=200:=by
 unfold part1 at h;split at h
 .right;rename_i a s b c m t sn d vs;split at h
  .rename_i q;erw[yca,sm,AK,decide_eq_true_eq]at q
   cases e:yaR vs with
   |none=>rw[e]at h;cases h
   |some rs=>
    rw[e]at h
    cases h
    exact⟨a,b,sn,d,vs,c,m,t,rs,rfl,by rw[q.1],e,q.2.1.1,q.2.1.2,q.2.2⟩
  .cases h
 .left
  cases e:yb6 v with
  |none=>rw[e]at h;cases h
  |some r=>rw[e]at h;cases h;exact⟨r,rfl,rfl⟩
abbrev cU:Nat:=20
abbrev sn:Str:=AE "n"
abbrev sst:Str:=AE "steps"
abbrev srw:Str:=AE "rows"
abbrev srd:Str:=AE "rounds"
abbrev ufs(w n:Int)(l:Nat)(r q:Int):List (AQ×PV):=[(sw,.int w),(sn,.int n),(sst,.loc l),(srw,.int r),(srd,.int q)]
def uob(w n:Int)(l:Nat)(r q:Int):Ob:=.ins cU (ufs w n l r q)
structure UM(st:SO)(u l:Nat)(w n r q:Int)(xs:List PV):Prop where
 o:st[u]?=AA (uob w n l r q)
 d:st[l]?=AA (.lst xs)
 ne:u≠l
section
variable {st:SO}{u l:Nat}{w n r q:Int}{xs:List PV}
theorem UM.fw(h:UM st u l w n r q xs):ya5 cU st (.loc u) sw=AA (.int w):=by erw[ya5,h.o,uob,if_true];ac_rfl
theorem UM.fn(h:UM st u l w n r q xs):ya5 cU st (.loc u) sn=AA (.int n):=by erw[ya5,h.o,uob,if_true];ac_rfl
theorem UM.fs(h:UM st u l w n r q xs):ya5 cU st (.loc u) sst=AA (.loc l):=by erw[ya5,h.o,uob,if_true];ac_rfl
theorem UM.fr(h:UM st u l w n r q xs):ya5 cU st (.loc u) srw=AA (.int r):=by erw[ya5,h.o,uob,if_true];ac_rfl
theorem UM.fq(h:UM st u l w n r q xs):ya5 cU st (.loc u) srd=AA (.int q):=by erw[ya5,h.o,uob,if_true];ac_rfl
theorem UM.sr(h:UM st u l w n r q xs)(v:Int):ya4 cU st (.loc u) srw (.int v)=AA (st.set u (uob w n l v q))/\UM (st.set u (uob w n l v q)) u l w n v q xs:=by
 refine⟨?_,rdS h.o,by rw[AO h.ne];exact h.d,h.ne⟩;erw[ya4,h.o,uob];rw[if_pos ⟨trivial,by simp⟩,show ybI srw (.int v) (ufs w n l r q)=ufs w n l v q by ac_rfl]
theorem UM.sq(h:UM st u l w n r q xs)(v:Int):ya4 cU st (.loc u) srd (.int v)=AA (st.set u (uob w n l r v))/\UM (st.set u (uob w n l r v)) u l w n r v xs:=by
 refine⟨?_,rdS h.o,by rw[AO h.ne];exact h.d,h.ne⟩;erw[ya4,h.o,uob];rw[if_pos ⟨trivial,by simp⟩,show ybI srd (.int v) (ufs w n l r q)=ufs w n l r v by ac_rfl]
theorem UM.ap(h:UM st u l w n r q xs)(hx:xs.length<1000000)(v:PV):ych .append st (.loc l) [v]=.ok .non (st.set l (.lst (xs++[v])))/\UM (st.set l (.lst (xs++[v]))) u l w n r q (xs++[v]):=by
 refine⟨?_,by rw[AO (BN h.ne)];exact h.o,rdS h.d,h.ne⟩;unfold ych;erw[ydX,h.d];rw[if_pos hx]
theorem UM.ok(h:UM st u l w n r q xs):yaO .append st (.loc l)=AA true:=by simp[yaO,yae,h.d]
theorem UM.ins(h:UM st u l w n r q xs)(x:AQ)(hx:((ufs 0 0 0 0 0).lookup x).isNone=true:=by decide +kernel):ybV cU x st (.loc u)=AA true:=by
 have e:(ufs w n l r q).lookup x=none:=by
  erw[ufs,Bw]at hx ⊢
  cases h1:x==sw<;>rw[h1]at hx<;>simp only at hx ⊢<;>try cases hx
  cases h2:x==sn<;>rw[h2]at hx<;>simp only at hx ⊢<;>try cases hx
  cases h3:x==sst<;>rw[h3]at hx<;>simp only at hx ⊢<;>try cases hx
  cases h4:x==srw<;>rw[h4]at hx<;>simp only at hx ⊢<;>try cases hx
  cases h5:x==srd<;>rw[h5]at hx<;>simp only at hx ⊢<;>try cases hx
 erw[ybV,h.o,uob];rw[if_pos ⟨trivial,e⟩]
def zjd(k:Nat)(h:UM st u l w n r q xs)(hq:q+1<=4000):∃s,yd T (k+1) yit [.loc u] st=.ok .non s/\UM s u l w n r (q+1) xs:=by
 have hT:T yit=AA yhv:=rfl;let⟨d,h2⟩:=h.sq (q+1);have c:decide (q+1 > 4000)=false:=decide_eq_false ∅;have vM:yi0=.int 4000:=rfl;refine⟨_,?_,h2⟩;rw[zo hT rfl rfl];have f1:=h.fq;have f2:=h2.fq;simp! [yhv,f1,zfM,d,zay,f2,vM,c,IC.ve32,zbE];rfl
def zfe(k:Nat):∀(G:List Int),G.length<=2->∀s:SO,yd T (k+1) yh4 [.tp AC (G.map .int)] s=.ok (.tp AC [.int (G.headD 0),.int (G.tail.headD 0)]) s
 |[],_,s=>by
  have hT:T yh4=AA ygs:=rfl;rw[zc hT rfl rfl rfl];rfl
 |[a],_,s=>by
  have hT:T yh4=AA ygs:=rfl;rw[zc hT rfl rfl rfl];rfl
 |[a,b],_,s=>by
  have hT:T yh4=AA ygs:=rfl;rw[zc hT rfl rfl rfl];rfl
def zhk(k:Nat)(h:UM st u l w n r q xs)(hx:xs.length<1000000)(sen:PV)(G:List Int)(hG:G.length<=2):∃s,yd T (k+2) yiu [.loc u,sen,.tp AC (G.map .int)] st=.ok .non s/\UM s u l w n r q (xs++[.tp AC [.str "asked",sen,.int (G.headD 0),.int (G.tail.headD 0)]]):=by
 have hT:T yiu=AA yhw:=rfl;have e1:=zfe k G hG st;let⟨a,h2⟩:=h.ap hx (.tp AC [.str "asked",sen,.int (G.headD 0),.int (G.tail.headD 0)]);have bt:∀(i j:Nat) (a b:PV) (ρ:IC.Env),yJ (.t [i,j]) (.tp AC [a,b]) ρ=AA ((ρ.set i (AA a)).set j (AA b)):=λ_ _ _ _ _=>rfl;refine⟨_,?_,h2⟩;rw[zo hT rfl rfl];have f1:=h.fs;have o:=h.ok;generalize PV.tp AC (G.map .int)=gv at *;simp! [yhw,e1,bt,f1,o,a,IC.ve32,zbE];rfl
def zkd(k:Nat)(h:UM st u l w n r q xs)(bb:Bool)(c m t:Int)(b1:yw .mul (.int m) (.int n)=AA (.int (m*n)))(b2:yw .mul (.int t) (.int w)=AA (.int (t*w)))(b3:yw .mul (.int (t*w)) (.int n)=AA (.int (t*w*n))):
  yd T (k+1) yis [.loc u,.tp bb [.int c,.int m,.int t]] st=.ok (.int (c+m*n+t*w*n)) st:=by
 have hT:T yis=AA y9:=rfl;have bt:∀(i j k:Nat) (a b c:PV) (ρ:IC.Env),yJ (.t [i,j,k]) (.tp bb [a,b,c]) ρ=AA (((ρ.set i (AA a)).set j (AA b)).set k (AA c)):=λ_ _ _ _ _ _ _=>rfl;rw[zo hT rfl rfl];have f1:=h.fw;have f2:=h.fn;simp! [y9,bt,f1,f2,b1,b2,b3,IC.ve32,zbE]
def zjm(k:Nat){b:Bool}{c i j m I J n:Int}(hi:i.natAbs<=200)(hj:j.natAbs<=200)(hm:m.natAbs<=200)(s:SO):yd T (k+1) yjT [.tp b [.int c,.int i,.int j,.int m],.int n,.int I,.int J] s=.ok (.int (c+i*I+j*J+m*n)) s:=by
 have hT:T yjT=AA yht:=rfl;have h1:i.natAbs<18446744073709551616:=by lia
 have h2:j.natAbs<18446744073709551616:=by lia
 have h3:m.natAbs<18446744073709551616:=by lia
 have j2:∀st,idxV st (.tp b [.int c,.int i,.int j,.int m]) (.int 2)=AA (.int j):=λ_=>rfl;have j3:∀st,idxV st (.tp b [.int c,.int i,.int j,.int m]) (.int 3)=AA (.int m):=λ_=>rfl;rw[zc hT rfl rfl rfl];simp! [yht,ix0,ix1,j2,j3,zaO h1,zaO h2,zaO h3];rfl
theorem placed(k:Nat){v:PV}{o:Op}(h:ydW v=AA o)(I J n:Int)(s:SO):yd T (k+2) yfd [v,.int n,.int I,.int J] s=.ok (o.pv I J n) s:=by
 have hT:T yfd=AA ydb:=rfl;rcases zmL h with⟨d,rfl,rfl⟩|⟨f1,f2,x,rfl,rfl,q1,q2,q3⟩
 .rw[zc hT rfl rfl rfl];have hi:yaM (.int d) [.tuple]=AA (.bl AC):=rfl;simp! [ydb,hi];rfl
 .have hi:yaM (.tp f1 [.str (chS x.l),.tp f2 [.int x.c,.int x.i,.int x.j,.int x.m]]) [.tuple]=AA (.bl AB):=rfl;have e:=λs=>zjm k (b:=f2) (c:=x.c) (I:=I) (J:=J) (n:=n) q1 q2 q3 s;rw[zc hT rfl rfl rfl];simp! [ydb,hi,ix0,ix1,e];rfl
def zg7(k:Nat)(x:AQ)(I J n:Int)(s:SO):yd T (k+2) yfd [.str x,.int n,.int I,.int J] s=.ok (.str x) s:=by
 have hT:T yfd=AA ydb:=rfl;rw[zc hT rfl rfl rfl];have hi:yaM (.str x) [.tuple]=AA (.bl AC):=rfl;simp! [ydb,hi];rfl
def arC:Ce:=.call yfd (.cons (.var 0) (.cons (.fld cU (.var 3) sn) (.cons (.var 1) (.cons (.var 2) .nil))))
def zgw(k:Nat)(h:UM st u l w n r q xs)(I J:Int):∀(vs:List PV) (ops:List Op),ybw vs=AA ops->yal (yd T (k+2)) [AD,AA (.int I),AA (.int J),AA (.loc u)] (.n 0) (.cst (.bl AB)) arC vs st=.ok (ops.map (Op.pv I J n)) st
 |[],ops,e=>by cases e;exact zbe
 |v::vs,ops,e=>by
  unfold ybw at e;split at e
  .rename_i a b ha hb
   cases e
   have hp:=placed k ha I J n st;have f1:=h.fn;have ih:=zgw k h I J vs b hb;have one:ybf (yd T (k+2)) [AD,AA (.int I),AA (.int J),AA (.loc u)] (.n 0) (.cst (.bl AB)) arC v st=.ok (AA (a.pv I J n)) st:=by
    simp! [ybf,arC,f1,hp,IC.ve32]
   rw[zai,one,bd_ok,ih,bd_ok];rfl
  .cases e
def ziW:∀{vs:List PV} {ops:List Op},ybw vs=AA ops->ops.length=vs.length
 |[],ops,e=>by cases e;rfl
 |v::vs,ops,e=>by
  unfold ybw at e;split at e
  .rename_i a b ha hb
   cases e
   rw[AS,AS,ziW hb]
  .cases e
def zmk(k:Nat)(h:UM st u l w n r q xs)(hx:xs.length<1000000)(hr:r+1<=4000){v:PV}{rs:Rs}(hv:rowOf v=AA rs)(G:List Int)(hG:G.length<=2)
  (hrow:∀s,yd T (k+2) ye7 [rs.pv (G.headD 0) (G.tail.headD 0) n] s=.ok (.bl AB) s):
  ∃s,yd T (k+3) yjV [.loc u,v,.tp AC (G.map .int)] st=.ok .non s/\UM s u l w n (r+1) q (xs++[.tp AC [.str "row",rs.pv (G.headD 0) (G.tail.headD 0) n]]):=by
 have hT:T yjV=AA yhu:=rfl;let⟨a,vs,rfl,ho,hl⟩:=zjA hv;have e1:=zfe (k+1) G hG st;generalize G.headD 0=I,G.tail.headD 0=J at *;have hl2:=ziW ho;have e2:yal (yd T (k+2)) [AD,AA (.int I),AA (.int J),AA (.loc u)] (.n 0) (.cst (.bl AB)) arC (.str rs.nm::vs) st=.ok (.str rs.nm::rs.ops.map (Op.pv I J n)) st:=by
  have hp:=zg7 k rs.nm I J n st;have f1:=h.fn;have one:ybf (yd T (k+2)) [AD,AA (.int I),AA (.int J),AA (.loc u)] (.n 0) (.cst (.bl AB)) arC (.str rs.nm) st=.ok (AA (.str rs.nm)) st:=by
   simp! [ybf,arC,f1,hp,IC.ve32]
  rw[zai,one,bd_ok,zgw k h I J vs rs.ops ho,bd_ok];rfl
 have e2:yal (yd T (k+2)) [AD,AA (.int I),AA (.int J),AA (.loc u)] (.n 0) (.cst (.bl AB)) (.call yfd (.cons (.var 0) (.cons (.fld cU (.var 3) sn) (.cons (.var 1) (.cons (.var 2) .nil))))) (.str rs.nm::vs) st=_:=e2;let⟨d,h2⟩:=h.sr (r+1);have ht:∀st,yaj .tuple st [.lst (.str rs.nm::rs.ops.map (Op.pv I J n))]=AA (rs.pv I J n):=λ_=>rfl;let⟨b,h3⟩:=h2.ap hx (.tp AC [.str "row",rs.pv I J n]);have bt:∀(i j:Nat) (a b:PV) (ρ:IC.Env),yJ (.t [i,j]) (.tp AC [a,b]) ρ=AA ((ρ.set i (AA a)).set j (AA b)):=λ_ _ _ _ _=>rfl;have c:decide (r+1 > 4000)=false:=decide_eq_false ∅;have vM:yi1=.int 4000:=rfl;have f1:=h.fr;have f2:=h2.fr;have f3:=h2.fs;have o:=h2.ok;have lr:=λst=>zcy (.str rs.nm::rs.ops.map (Op.pv I J n)) (by simp[hl2];lia) st;refine⟨_,?_,h3⟩;rw[zo hT rfl rfl];generalize PV.tp AC (G.map .int)=gv,PV.str rs.nm::rs.ops.map (Op.pv I J n)=row,rs.pv I J n=rowv at *;simp! [yhu,e1,bt,e2,lr,ht,f1,zfM,d,zay,hrow,f2,vM,c,f3,o,b,IC.ve32,zbE];rfl
end
inductive StR:List PV->List PV->Prop
 |nil:StR [] []
 |row {xs rs v}:nL v=AB->StR xs rs->StR (xs++[.tp AC [.str "row",v]]) (rs++[v])
 |ask {xs rs a b c}:nLs [a,b,c]=AB->StR xs rs->StR (xs++[.tp AC [.str "asked",a,b,c]]) rs
def US(st:SO)(u l:Nat)(w n:Int)(R:List PV)(q:Int)(a:Nat):Prop:=∃xs,UM st u l w n R.length q xs/\StR xs R/\xs.length<=R.length+a
section
variable {st:SO}{u l:Nat}{w n q:Int}{R:List PV}{a:Nat}
def gpB:Css:=match yo.body with
 |.cons (.for _ _ b) _=>b
 |x=>x
def zdR:yG .eq (.str "row") (.str "row")=AA (.bl AB):=by ac_rfl
def zg9:yG .eq (.str "rounds") (.str "row")=AA (.bl AC):=by ac_rfl
def zjQ(I J n:Int)(o:Op):nL (o.pv I J n)=true:=by cases o<;>rfl
def zfg(I J n:Int):∀ops:List Op,nLs (ops.map (Op.pv I J n))=AB
 |[]=>rfl
 |o::os=>by rw[AL,nLs,zjQ,zfg I J n os];rfl
def zce(r:Rs)(I J n:Int):nL (r.pv I J n)=true:=by
 show nLs (PV.str r.nm::r.ops.map (Op.pv I J n))=AB;rw[nLs,zfg];rfl
def zhg(k:Nat)(H:US st u l w n R q a)(hR:R.length+1<=4000)(ha:a<=500000){v:PV}{r:Rs}(hv:yb6 v=AA r)(G:List Int)(hG:G.length<=2)
  (hrow:∀s,yd T (k+2) ye7 [r.pv (G.headD 0) (G.tail.headD 0) n] s=.ok (.bl AB) s) (p1:Option PV):
  ∃s,exs (yd T (k+3)) [AA (.loc u),p1,AA (.tp AC (G.map .int)),AA v] st gpB=.nx [AA (.loc u),p1,AA (.tp AC (G.map .int)),AA v] s/\US s u l w n (R++[r.pv (G.headD 0) (G.tail.headD 0) n]) q a:=by
 let⟨xs,h,hs,hx⟩:=H;let⟨b,v1,rfl,h1⟩:=zlW hv;let⟨s,e,h2⟩:=zmk k h ∅ ∅ h1 G hG hrow;have ih:=h.ins (AE "add_row");refine⟨s,?_,_,?_,.row (zce _ _ _ _) hs,by simp;lia⟩
 .generalize PV.tp AC (G.map .int)=gv at *;simp! [gpB,yo,ix0,ix1,zdR,ih,e,IC.ve37]
 .rw[Ah,DV];exact h2
def zhA(k:Nat)(I J:Int)(p1:Option PV)(ha:a<=500000):∀(vs:List PV) (rs:List Rs) (st:SO) (R:List PV) (p3:Option PV),deepOf vs=AA rs->US st u l w n R q a->R.length+rs.length<=4000 ->
  (∀r∈rs,∀s,yd T (k+2) ye7 [r.pv I J n] s=.ok (.bl AB) s) ->
  ∃s p3',yaX (yd T (k+3)) (.n 3) gpB vs [AA (.loc u),p1,AA (.tp AC [.int I,.int J]),p3] st=.nx [AA (.loc u),p1,AA (.tp AC [.int I,.int J]),p3'] s/\US s u l w n (R++rs.map λr=>r.pv I J n) q a
 |[],rs,st,R,p3,hd,H,_,_=>by
  cases hd
  exact⟨st,p3,zF,by simpa using H⟩
 |v::vs,rs,st,R,p3,hd,H,hl,hrow=>by
  unfold deepOf at hd;split at hd
  .rename_i x y hx hy
   cases hd
   erw[AS]at hl;let⟨s1,e1,H1⟩:=zhg k H ∅ ha hx [I,J] (by simp) (hrow x (by simp)) p1;have e1:exs (yd T (k+3)) [AA (.loc u),p1,AA (.tp AC [.int I,.int J]),AA v] st gpB=.nx [AA (.loc u),p1,AA (.tp AC [.int I,.int J]),AA v] s1:=e1;let⟨s2,p3',e2,H2⟩:=zhA k I J p1 ha vs y s1 _ (AA v) hy H1 (by simp;lia) (λr hr=>hrow r (by simp[hr]));refine⟨s2,p3',?_,by simpa using H2⟩;rw[zx (ρ1:=[AA (.loc u),p1,AA (.tp AC [.int I,.int J]),AA v]) rfl,e1];exact e2
  .cases hd
def ziE{α:Type}(f:Nat->List α){i:Nat}:∀n,i<=n->(upTo f i).length<=(upTo f n).length
 |0,h=>by
  rw[show i=0 by lia];exact AU _
 |n+1,h=>by
  rcases CZ i (n+1)with h1|h1
  .have:=ziE f (i:=i) n ∅;rw[upTo,Ah];lia
  .have:i=n+1:=by lia
   rw[this];exact AU _
theorem US.ask(H:US st u l w n R q a)(k:Nat)(ha:a+1<=500000)(hR:R.length<=4000)(sen:PV)(hsn:nL sen=AB)(G:List Int)(hG:G.length<=2):∃s,yd T (k+2) yiu [.loc u,sen,.tp AC (G.map .int)] st=.ok .non s/\US s u l w n R q (a+1):=by
 let⟨xs,h,hs,hx⟩:=H;let⟨s,e,h2⟩:=zhk k h ∅ sen G hG;exact⟨s,e,_,h2,.ask (by simp[nLs,nL,hsn]) hs,by simp;lia⟩
theorem US.rnd(H:US st u l w n R q a)(k:Nat)(hq:q+1<=4000):∃s,yd T (k+1) yit [.loc u] st=.ok .non s/\US s u l w n R (q+1) a:=by
 let⟨xs,h,hs,hx⟩:=H;let⟨s,e,h2⟩:=zjd k h hq;exact⟨s,e,_,h2,hs,hx⟩
theorem US.ins(H:US st u l w n R q a)(x:AQ)(hx:((ufs 0 0 0 0 0).lookup x).isNone=true:=by decide +kernel):ybV cU x st (.loc u)=AA true:=by
 let⟨xs,h,_⟩:=H;exact h.ins x hx
def grB:Css:=match yp.body with
 |.cons _ (.cons (.for _ _ b) _)=>b
 |x=>x
def zqo:∀(G:List Int),G.length<=1->∀J:Int,yw .add (.tp AC (G.map .int)) (.tp AC [.int J])=AA (.tp AC ((G++[J]).map .int))
 |[],_,J=>rfl
 |[a],_,J=>rfl
def BodyOk(k u l:Nat)(w n:Int)(d:Bool)(vs:List PV)(G:List Int)(f:Nat->List PV)(qn an J:Nat):Prop:=
 ∀(st:SO) (R:List PV) (q:Int) (a:Nat),US st u l w n R q a->R.length+(f J).length<=4000->q+qn<=4000->a+an<=500000 ->
  ∃s,yd T k yir [.loc u,.tp d vs,.tp AC ((G++[(J:Int)]).map .int)] st=.ok .non s/\US s u l w n (R++f J) (q+qn) (a+an)
def zhP(k:Nat){a1 d:Bool}{s0 cn sn:PV}(hsn:nL sn=AB){vs:List PV}{G:List Int}(hG:G.length<=1){f:Nat->List PV}{qn an N:Nat}(hb:∀J<N,BodyOk (k+2) u l w n d vs G f qn an J)
  (hR:R.length+(upTo f N).length<=4000) (hq:q+(N*(1+qn):Nat)<=4000) (ha:a+N*(1+an)<=500000):∀(M j:Nat) (st:SO) (p4:Option PV),j+M=N->US st u l w n (R++upTo f j) (q+(j*(1+qn):Nat)) (a+j*(1+an)) ->
  ∃s p4',yaX (yd T (k+2)) (.n 4) grB (yt M (j:Int) 1) [AA (.loc u),AA (.tp a1 [s0,cn,sn,.tp d vs]),AA (.tp AC (G.map .int)),AA (.int N),p4] st=.nx [AA (.loc u),AA (.tp a1 [s0,cn,sn,.tp d vs]),AA (.tp AC (G.map .int)),AA (.int N),p4'] s/\US s u l w n (R++upTo f N) (q+(N*(1+qn):Nat)) (a+N*(1+an))
 |0,j,st,p4,hj,H=>by
  have:j=N:=by lia
  subst this;exact⟨st,p4,by rw[yt];exact zF,H⟩
 |M+1,j,st,p4,hj,H=>by
  have l1:(upTo f (j+1)).length<=(upTo f N).length:=ziE f N ∅;rw[upTo,Ah]at l1;have m1:(j+1)*(1+qn)<=N*(1+qn):=FT _ ∅;have m2:(j+1)*(1+an)<=N*(1+an):=FT _ ∅;have n1:(j+1)*(1+qn)=j*(1+qn)+(1+qn):=GL _ _;have n2:(j+1)*(1+an)=j*(1+an)+(1+an):=GL _ _;let⟨s1,e1,H1⟩:=H.ask k ∅ (by rw[Ah];lia) sn hsn (G++[(j:Int)]) (by simp;lia);let⟨s2,e2,H2⟩:=H1.rnd (k+1) ∅;let⟨s3,e3,H3⟩:=hb j ∅ s2 _ _ _ H2 (by rw[Ah];lia) ∅ ∅;have H3:US s3 u l w n (R++upTo f (j+1)) (q+((j+1)*(1+qn):Nat)) (a+(j+1)*(1+an)):=by
   rw[upTo,<-B9,n1,n2];have x1:q+((j*(1+qn)+(1+qn):Nat):Int)=q+((j*(1+qn):Nat):Int)+1+(qn:Int):=by lia
   have x2:a+(j*(1+an)+(1+an))=a+j*(1+an)+1+an:=by lia
   rw[x1,x2];exact H3
  let⟨s4,p4',e4,H4⟩:=zhP k (a1:=a1) (s0:=s0) (cn:=cn) (sn:=sn) hsn hG hb hR hq ha M (j+1) s3 (AA (.int j)) ∅ H3;refine⟨s4,p4',?_,H4⟩;have i1:=H.ins (AE "add_asked");have i2:=H1.ins (AE "add_round");have i3:=H2.ins (AE "go_parts");have c1:=zqo G hG (j:Int);have one:exs (yd T (k+2)) [AA (.loc u),AA (.tp a1 [s0,cn,sn,.tp d vs]),AA (.tp AC (G.map .int)),AA (.int N),AA (.int (j:Int))] st grB=.nx [AA (.loc u),AA (.tp a1 [s0,cn,sn,.tp d vs]),AA (.tp AC (G.map .int)),AA (.int N),AA (.int (j:Int))] s3:=by
   generalize PV.tp AC (G.map .int)=gv,PV.tp AC ((G++[(j:Int)]).map .int)=gw,PV.tp d vs=pv at *;simp! [grB,yp,ix0,ix1,ix2,ix3,c1,i1,i2,i3,e1,e2,e3,IC.ve37]
  rw[yt,zx (ρ1:=[AA (.loc u),AA (.tp a1 [s0,cn,sn,.tp d vs]),AA (.tp AC (G.map .int)),AA (.int N),AA (.int (j:Int))]) rfl,one];exact e4
theorem US.cnt(H:US st u l w n R q a)(k:Nat)(bb:Bool){c m t:Int}(hm:m.natAbs<=200)(ht:t.natAbs<=200)(n0:0<=n)(n1:n<=8):yd T (k+1) yis [.loc u,.tp bb [.int c,.int m,.int t]] st=.ok (.int (c+m*n+t*w*n)) st:=by
 let⟨xs,h,_⟩:=H;have zcE:∀{i j:Int},j.natAbs<18446744073709551616->yw .mul (.int i) (.int j)=AA (.int (i*j)):=λh=>zjE (.inr h);exact zkd k h bb c m t (zaO ∅) (zaO ∅) (zcE ∅)
def zmK(z:Int)(s:SO):yaj .max s [.int 0,.int z]=AA (.int ((z.toNat:Nat):Int)):=by
 show AA (PV.int (if 0<z then z else 0))=_;split
 .rw[Ds ∅]
 .rw[show z.toNat=0 by lia];rfl
def zeV(k:Nat){a1 b d:Bool}{s0 sn:PV}(hsn:nL sn=AB){vs:List PV}{c m t:Int}{G:List Int}(hG:G.length<=1){f:Nat->List PV}{qn an N:Nat}(hN:N=cnt c m t w n)(hm:m.natAbs<=200)(ht:t.natAbs<=200)(n0:0<=n)(n1:n<=8)(hN2:N<1000000)
  (hb:∀J<N,BodyOk (k+2) u l w n d vs G f qn an J) (hR:R.length+(upTo f N).length<=4000) (hq:q+(N*(1+qn):Nat)<=4000) (ha:a+N*(1+an)+1<=500000) (H:US st u l w n R q a):
  ∃s,yd T (k+3) y6 [.loc u,.tp a1 [s0,.tp b [.int c,.int m,.int t],sn,.tp d vs],.tp AC (G.map .int)] st=.ok .non s/\US s u l w n (R++upTo f N) (q+(N*(1+qn):Nat)) (a+N*(1+an)+1):=by
 have hT:T y6=AA ⟨3,5,AC,yp.body⟩:=rfl;have e1:=H.cnt (k+1) b (c:=c) hm ht n0 n1;have i1:=H.ins (AE "count_of");let⟨s1,p4,e2,H2⟩:=zhP k (a1:=a1) (s0:=s0) (cn:=.tp b [.int c,.int m,.int t]) (sn:=sn) (a:=a) (q:=q) (R:=R) hsn hG hb hR hq ∅ N 0 st AD ∅ (by simpa [upTo] using H);let⟨s2,e3,H3⟩:=H2.ask k ∅ (by rw[Ah];lia) sn hsn (G++[(N:Int)]) (by simp;lia);have i2:=H2.ins (AE "add_asked");have c1:=zqo G hG (N:Int);have hx:=zmK (c+m*n+t*w*n) st;have hz:((c+m*n+t*w*n).toNat:Int)=(N:Int):=by rw[hN];rfl
 rw[hz]at hx;have hr:ybQ (.int (N:Int))=AA (yt N 0 1):=by
  erw[ybQ];rw[if_pos ∅];rfl
 have hbd:yp.body=(match yp.body with
  |.cons x (.cons (.for t i _) r)=>.cons x (.cons (.for t i grB) r)
  |x=>x):=rfl
 refine⟨s2,?_,H3⟩;rw[zo hT rfl rfl];dsimp only;rw[hbd];have e2:yaX (yd T (k+2)) (.n 4) grB (yt N 0 1) _ st=_:=e2;generalize PV.tp AC (G.map .int)=gv,PV.tp AC ((G++[(N:Int)]).map .int)=gw,PV.tp d vs=pv,PV.tp b [.int c,.int m,.int t]=cv,c+m*n+t*w*n=z at *;simp! [yp,ix0,ix1,ix2,ix3,i1,e1,hx,hr,e2,c1,i2,e3,IC.ve37,zbE];rfl
def zfN(k:Nat){b:Bool}{vs:List PV}{gv:PV}{s:SO}{p3:Option PV}(e:yaX (yd T k) (.n 3) gpB vs [AA (.loc u),AA (.tp b vs),AA gv,AD] st=.nx [AA (.loc u),AA (.tp b vs),AA gv,p3] s):
  yd T (k+1) yir [.loc u,.tp b vs,gv] st=.ok .non s:=by
 have hT:T yir=AA ⟨3,4,AC,yo.body⟩:=rfl
 have hbd:yo.body=(match yo.body with
  |.cons (.for t i _) r=>.cons (.for t i gpB) r
  |x=>x):=rfl
 rw[zo hT rfl rfl];dsimp only;rw[hbd];simp! [yo,e,zbE];rfl
def zhK(k:Nat){d:Bool}{vs:List PV}{rs:List Rs}(hd:deepOf vs=AA rs)(I:Int)(J:Nat)(hrow:∀r∈rs,∀s,yd T (k+2) ye7 [r.pv I J n] s=.ok (.bl AB) s):BodyOk (k+4) u l w n d vs [I] (λJ=>rs.map λr=>r.pv I J n) 0 0 J:=by
 intro st R q a H h1 h2 h3;let⟨s,p3,e,H2⟩:=zhA k (a:=a) (q:=q) I J (AA (.tp d vs)) ∅ vs rs st R AD hd H (by simpa using h1) hrow;exact⟨s,zfN (k+3) e,by simpa using H2⟩
def zkZ(k:Nat)(H:US st u l w n R q a){a1:Bool}{r:List PV}{gv:PV}{p1:Option PV}{s:SO}(e:yd T k y6 [.loc u,.tp a1 (.str "rounds" :: r),gv] st=.ok .non s):
  exs (yd T k) [AA (.loc u),p1,AA gv,AA (.tp a1 (.str "rounds" :: r))] st gpB=.nx [AA (.loc u),p1,AA gv,AA (.tp a1 (.str "rounds" :: r))] s:=by
 have ih:=H.ins (AE "go_rounds");simp! [gpB,yo,ix0,zg9,ih,e,IC.ve37]
def ybt(v:PV):Prop:=∀(k:Nat) (s:SO),yd T (10+k) ye7 [v] s=.ok (.bl AB) s
def T2.ak(w n:Int):T2->Nat
 |.row _=>0
 |.rounds c m t _=>cnt c m t w n+1
def ak2(w n:Int)(ps:List T2):Nat:=(ps.map (T2.ak w n)).sum
def zfj{c m t w n:Int}(hc:c.natAbs<=200)(hm:m.natAbs<=200)(ht:t.natAbs<=200)(w0:0<=w)(w1:w<=16)(n0:0<=n)(n1:n<=8):(c+m*n+t*w*n).natAbs<1000000:=by
 have h1:(m*n).natAbs<=200*8:=by rw[FU];exact Ag hm ∅
 have h2:(t*w*n).natAbs<=200*16*8:=by rw[FU,FU];exact Ag (Ag ht ∅) ∅
 generalize m*n=A,t*w*n=B at *;lia
def zir{α:Type}{f:Nat->List α}{x:α}:∀{N J:Nat},J<N->x∈f J->x∈upTo f N
 |0,_,h,_=>absurd h ∅
 |N+1,J,h,hx=>by
  rw[upTo,BM];rcases CZ J N with h1|h1
  .exact .inl (zir h1 hx)
  .have:J=N:=by lia
   exact .inr (this ▸ hx)
def znF{a b d:Bool}{x c m t sn:PV}{vs:List PV}(h:nL (.tp a [x,.tp b [c,m,t],sn,.tp d vs])=AB):nL sn=true:=by
 erw[nL,nLs,AK]at h;exact h.2.2.1
def zpI{a b d:Bool}{x c m t sn:PV}{vs:List PV}(h:nL (.tp a [x,.tp b [c,m,t],sn,.tp d vs])=AB):nLs vs=true:=by
 erw[nL,nLs,AK]at h;exact h.2.2.2.1
def zbR{v:PV}{vs:List PV}(h:nLs (v::vs)=AB):nL v=AB/\nLs vs=true:=by
 simpa only[nLs,AK] using h
def zlP(k:Nat)(w0:0<=w)(w1:w<=16)(n0:0<=n)(n1:n<=8)(I:Nat)(p1:Option PV){v:PV}{p:T2}(hv:nL v=AB)(hp:part2 v=AA p)(H:US st u l w n R q a)(hR:R.length+(p.rows w n I).length<=4000)(hq:q+(p.rnd w n:Nat)<=4000)(ha:a+p.ak w n<=500000)(hrow:∀x∈p.rows w n I,ybt x):
  ∃s,exs (yd T (k+13)) [AA (.loc u),p1,AA (.tp AC [.int I]),AA v] st gpB=.nx [AA (.loc u),p1,AA (.tp AC [.int I]),AA v] s/\US s u l w n (R++p.rows w n I) (q+(p.rnd w n:Nat)) (a+p.ak w n):=by
 rcases zjY hp with⟨r,rfl,h1⟩|⟨a1,b,sn,d,vs,c,m,t,rs,rfl,rfl,hd,hc,hm,ht⟩
 .let⟨s,e,H2⟩:=zhg (k+10) H (by simpa [T2.rows] using hR) ∅ h1 [(I:Int)] (by simp) (λs=>by
   have:=hrow (r.pv I 0 n) (by simp[T2.rows]) (k+2) s;rw[show 10+(k+2)=k+10+2 by lia]at this;exact this) p1
  exact⟨s,e,by simpa [T2.rows,T2.rnd,T2.ak] using H2⟩
 .have hN:cnt c m t w n<1000000:=by
   have:=zfj hc hm ht w0 w1 n0 n1;erw[cnt];lia
  erw[T2.rows,T2.rnd,T2.ak]at hR hq ha hrow ⊢;let⟨s,e,H2⟩:=zeV (k+10) (a1:=a1) (b:=b) (d:=d) (s0:=.str "rounds") (sn:=sn) (znF hv) (vs:=vs) (G:=[(I:Int)]) (by simp) (f:=λJ=>rs.map λr=>r.pv I J n) (qn:=0) (an:=0) rfl hm ht n0 n1 hN
   (λJ hJ=>zhK (k+8) hd I J (λr hr s=>by
    have:=hrow (r.pv I J n) (zir hJ (GJ.2 ⟨r,hr,rfl⟩)) k s;rw[show 10+k=k+8+2 by lia]at this;exact this)) hR (by simpa using hq) ∅ H
  have e:yd T (k+13) y6 [.loc u,.tp a1 [.str "rounds",.tp b [.int c,.int m,.int t],sn,.tp d vs],.tp AC [.int I]] st=.ok .non s:=e;exact⟨s,zkZ (k+13) H e,by simpa [Da] using H2⟩
def zkV(k:Nat)(w0:0<=w)(w1:w<=16)(n0:0<=n)(n1:n<=8)(I:Nat)(p1:Option PV):∀(vs:List PV) (ps:List T2) (st:SO) (R:List PV) (q:Int) (a:Nat) (p3:Option PV),nLs vs=AB->yaR vs=AA ps->US st u l w n R q a->R.length+(yan w n I ps).length<=4000->q+(ybL w n ps:Nat)<=4000->a+ak2 w n ps<=500000->(∀x∈yan w n I ps,ybt x) ->
  ∃s p3',yaX (yd T (k+13)) (.n 3) gpB vs [AA (.loc u),p1,AA (.tp AC [.int I]),p3] st=.nx [AA (.loc u),p1,AA (.tp AC [.int I]),p3'] s/\US s u l w n (R++yan w n I ps) (q+(ybL w n ps:Nat)) (a+ak2 w n ps)
 |[],ps,st,R,q,a,p3,_,hp,H,_,_,_,_=>by
  cases hp
  exact⟨st,p3,zF,by simpa [yan,ybL,ak2] using H⟩
 |v::vs,ps,st,R,q,a,p3,hv,hp,H,hR,hq,ha,hrow=>by
  unfold yaR at hp;split at hp
  .rename_i x y hx hy
   cases hp
   have r1:yan w n I (x::y)=x.rows w n I++yan w n I y:=by simp[yan]
   have r2:ybL w n (x::y)=x.rnd w n+ybL w n y:=by simp[ybL]
   have r3:ak2 w n (x::y)=x.ak w n+ak2 w n y:=by simp[ak2]
   rw[r1,Ah]at hR;rw[r2]at hq;rw[r3]at ha;rw[r1]at hrow;rw[r1,r2,r3];let⟨s1,e1,H1⟩:=zlP k w0 w1 n0 n1 I p1 (zbR hv).1 hx H ∅ ∅ ∅ (λz hz=>hrow z (by simp[hz]));let⟨s2,p3',e2,H2⟩:=zkV k w0 w1 n0 n1 I p1 vs y s1 _ _ _ (AA v) (zbR hv).2 hy H1 (by rw[Ah];lia) ∅ ∅ (λz hz=>hrow z (by simp[hz]));refine⟨s2,p3',?_,?_⟩
   .rw[zx (ρ1:=[AA (.loc u),p1,AA (.tp AC [.int I]),AA v]) rfl,e1];exact e2
   .rw[<-B9,<-Da,show q+((x.rnd w n+ybL w n y:Nat):Int)=q+(x.rnd w n:Nat)+(ybL w n y:Nat)by lia];exact H2
  .cases hp
def zkh(k:Nat)(w0:0<=w)(w1:w<=16)(n0:0<=n)(n1:n<=8){d:Bool}{vs:List PV}{ps:List T2}(hv:nLs vs=AB)(hp:yaR vs=AA ps)(I:Nat)(hrow:∀x∈yan w n I ps,ybt x):BodyOk (k+14) u l w n d vs [] (λI=>yan w n I ps) (ybL w n ps) (ak2 w n ps) I:=by
 intro st R q a H h1 h2 h3;let⟨s,p3,e,H2⟩:=zkV k w0 w1 n0 n1 I (AA (.tp d vs)) vs ps st R q a AD hv hp H h1 h2 h3 hrow;exact⟨s,zfN (k+13) e,H2⟩
def T1.ak(w n:Int):T1->Nat
 |.row _=>0
 |.rounds c m t ps=>cnt c m t w n*(1+ak2 w n ps)+1
def ak1(w n:Int)(ps:List T1):Nat:=(ps.map (T1.ak w n)).sum
def zmM(k:Nat)(w0:0<=w)(w1:w<=16)(n0:0<=n)(n1:n<=8)(p1:Option PV){v:PV}{p:T1}(hv:nL v=AB)(hp:part1 v=AA p)(H:US st u l w n R q a)(hR:R.length+(p.rows w n).length<=4000)(hq:q+(p.rnd w n:Nat)<=4000)(ha:a+p.ak w n<=500000)(hrow:∀x∈p.rows w n,ybt x):
  ∃s,exs (yd T (k+15)) [AA (.loc u),p1,AA (.tp AC []),AA v] st gpB=.nx [AA (.loc u),p1,AA (.tp AC []),AA v] s/\US s u l w n (R++p.rows w n) (q+(p.rnd w n:Nat)) (a+p.ak w n):=by
 rcases zjp hp with⟨r,rfl,h1⟩|⟨a1,b,sn,d,vs,c,m,t,ps,rfl,rfl,hd,hc,hm,ht⟩
 .let⟨s,e,H2⟩:=zhg (k+12) H (by simpa [T1.rows] using hR) ∅ h1 [] (by simp) (λs=>by
   have:=hrow (r.pv 0 0 n) (by simp[T1.rows]) (k+4) s;rw[show 10+(k+4)=k+12+2 by lia]at this;exact this) p1
  exact⟨s,e,by simpa [T1.rows,T1.rnd,T1.ak] using H2⟩
 .have hN:cnt c m t w n<1000000:=by
   have:=zfj hc hm ht w0 w1 n0 n1;erw[cnt];lia
  erw[T1.rows,T1.rnd,T1.ak]at hR hq ha hrow ⊢;let⟨s,e,H2⟩:=zeV (k+12) (a1:=a1) (b:=b) (d:=d) (s0:=.str "rounds") (sn:=sn) (znF hv) (vs:=vs) (G:=[]) (by simp) (f:=λI=>yan w n I ps) (qn:=ybL w n ps) (an:=ak2 w n ps) rfl hm ht n0 n1 hN
   (λJ hJ=>zkh k w0 w1 n0 n1 (zpI hv) hd J (λz hz=>hrow z (zir hJ hz))) hR hq ∅ H
  have e:yd T (k+15) y6 [.loc u,.tp a1 [.str "rounds",.tp b [.int c,.int m,.int t],sn,.tp d vs],.tp AC []] st=.ok .non s:=e;exact⟨s,zkZ (k+15) H e,by rw[<-Da];exact H2⟩
def zkJ(k:Nat)(w0:0<=w)(w1:w<=16)(n0:0<=n)(n1:n<=8)(p1:Option PV):∀(vs:List PV) (ps:List T1) (st:SO) (R:List PV) (q:Int) (a:Nat) (p3:Option PV),nLs vs=AB->yaK vs=AA ps->US st u l w n R q a->R.length+(yK w n ps).length<=4000->q+(ybu w n ps:Nat)<=4000->a+ak1 w n ps<=500000->(∀x∈yK w n ps,ybt x) ->
  ∃s p3',yaX (yd T (k+15)) (.n 3) gpB vs [AA (.loc u),p1,AA (.tp AC []),p3] st=.nx [AA (.loc u),p1,AA (.tp AC []),p3'] s/\US s u l w n (R++yK w n ps) (q+(ybu w n ps:Nat)) (a+ak1 w n ps)
 |[],ps,st,R,q,a,p3,_,hp,H,_,_,_,_=>by
  cases hp
  exact⟨st,p3,zF,by simpa [yK,ybu,ak1] using H⟩
 |v::vs,ps,st,R,q,a,p3,hv,hp,H,hR,hq,ha,hrow=>by
  unfold yaK at hp;split at hp
  .rename_i x y hx hy
   cases hp
   have r1:yK w n (x::y)=x.rows w n++yK w n y:=by simp[yK]
   have r2:ybu w n (x::y)=x.rnd w n+ybu w n y:=by simp[ybu]
   have r3:ak1 w n (x::y)=x.ak w n+ak1 w n y:=by simp[ak1]
   rw[r1,Ah]at hR;rw[r2]at hq;rw[r3]at ha;rw[r1]at hrow;rw[r1,r2,r3];let⟨s1,e1,H1⟩:=zmM k w0 w1 n0 n1 p1 (zbR hv).1 hx H ∅ ∅ ∅ (λz hz=>hrow z (by simp[hz]));let⟨s2,p3',e2,H2⟩:=zkJ k w0 w1 n0 n1 p1 vs y s1 _ _ _ (AA v) (zbR hv).2 hy H1 (by rw[Ah];lia) ∅ ∅ (λz hz=>hrow z (by simp[hz]));refine⟨s2,p3',?_,?_⟩
   .rw[zx (ρ1:=[AA (.loc u),p1,AA (.tp AC []),AA v]) rfl,e1];exact e2
   .rw[<-B9,<-Da,show q+((x.rnd w n+ybu w n y:Nat):Int)=q+(x.rnd w n:Nat)+(ybu w n y:Nat)by lia];exact H2
  .cases hp
end
def zqW(k:Nat)(w n:Int):yd T (k+1) yjU [.loc 0,.int w,.int n] [.ins cU []]=.ok .non [uob w n 1 0 0,.lst []]:=by
 have hT:T yjU=AA yik:=rfl;rw[zo hT rfl rfl];ac_rfl
def zlc(w n:Int):US [uob w n 1 0 0,.lst []] 0 1 w n [] 0 0:=⟨[],⟨rfl,rfl,by decide⟩,.nil,by simp⟩
theorem StR.nl{xs rs:List PV}(h:StR xs rs):nLs xs=true:=by
 have ap:∀(a b:List PV),nLs a=AB->nLs b=AB->nLs (a++b)=true:=by
  intro a
  induction a with
  |nil=>intro b _ h;exact h
  |cons x a ih=>
   intro b h1 h2;let⟨p,q⟩:=zbR h1;rw[Ap,nLs,p,ih b q h2];rfl
 induction h with
 |nil=>rfl
 |row hv _ ih=>exact ap _ _ ih (by simp[nLs,nL,hv])
 |ask hv _ ih=>exact ap _ _ ih (by erw[nLs,nL,Bool.and_true,DB]at hv ⊢;simpa using hv)
def zhb:yG .eq (.str "asked") (.str "row")=AA (.bl AC):=by ac_rfl
def zji(k:Nat){b:Bool}{vs:List PV}{ps:List T1}{w n:Int}(hv:nLs vs=AB)(hp:yaK vs=AA ps)(w0:0<=w)(w1:w<=16)(n0:0<=n)(n1:n<=8)(hR:(yK w n ps).length<=4000)(hq:ybu w n ps<=4000)(ha:ak1 w n ps<=500000)(hrow:∀x∈yK w n ps,ybt x)
  (hit:∀s,yd T (k+16) yz [.tp b vs] s=.ok (.bl AB) s) (st:SO):∃xs,yd T (k+17) yjX [.tp b vs,.int w,.int n] st=.ok (.lst xs) st/\StR xs (yK w n ps):=by
 have hT:T yjX=AA yhy:=rfl;have hnl:nLs [.tp b vs,.int w,.int n]=true:=by simp[nLs,nL,hv]
 let⟨s,p3,e,xs,h,hs,_⟩:=zkJ k w0 w1 n0 n1 (AA (.tp b vs)) vs ps [uob w n 1 0 0,.lst []] [] 0 0 AD hv hp (zlc w n) (by simpa using hR) ∅ ∅ hrow;have e:=zfN (k+15) e;have i0:=zqW (k+15) w n;have ih:=(zlc w n).ins (AE "go_parts");have f1:=h.fs;have fz:ydh (.loc 1) s=.ok (.lst xs) (s.set 1 .dead):=by simp[ydh,h.d]
 refine⟨xs,?_,by simpa using hs⟩;have nl:=hs.nl;rw[zc hT rfl rfl hnl];generalize PV.tp b vs=tv at *;simp! [yhy,hit,i0,ih,e,f1,fz,IC.ve32,IC.ve33,IC.ve37,ybv,newV];simp[ybk,nL,nl]
def unT:Ce:=.cmp .eq (.idx (.var 0) (.cst (.int 0))) (.cst (.str "row"))
def unE:Ce:=.idx (.var 0) (.cst (.int 1))
def zkq(k:Nat){st:SO}{xs rs:List PV}(h:StR xs rs):∀(ys b:List PV),yal (yd T k) [AD] (.n 0) unT unE ys st=.ok b st->yal (yd T k) [AD] (.n 0) unT unE (xs++ys) st=.ok (rs++b) st:=by
 induction h with
 |nil=>intro ys b e;exact e
 |@row xs rs v hv _ ih=>
  intro ys b e;have one:ybf (yd T k) [AD] (.n 0) unT unE (.tp AC [.str "row",v]) st=.ok (AA v) st:=by
   simp! [ybf,unT,unE,ix0,ix1,zdR]
  have:=ih (.tp AC [.str "row",v]::ys) (v::b) (by rw[zai,one,bd_ok,e,bd_ok];rfl);rw[B9,B9];exact this
 |@ask xs rs x y z hv _ ih=>
  intro ys b e;have one:ybf (yd T k) [AD] (.n 0) unT unE (.tp AC [.str "asked",x,y,z]) st=.ok AD st:=by
   simp! [ybf,unT,unE,ix0,ix1,zhb]
  have:=ih (.tp AC [.str "asked",x,y,z]::ys) b (by rw[zai,one,bd_ok,e,bd_ok];rfl);rw[B9];exact this
theorem StR.nl2{xs rs:List PV}(h:StR xs rs):nLs rs=true:=by
 have ap:∀(a b:List PV),nLs a=AB->nLs b=AB->nLs (a++b)=true:=by
  intro a
  induction a with
  |nil=>intro b _ h;exact h
  |cons x a ih=>
   intro b h1 h2;let⟨p,q⟩:=zbR h1;rw[Ap,nLs,p,ih b q h2];rfl
 induction h with
 |nil=>rfl
 |row hv _ ih=>exact ap _ _ ih (by simp[nLs,hv])
 |ask _ _ ih=>exact ih
theorem unrolled(k:Nat){b:Bool}{vs:List PV}{ps:List T1}{w n:Int}(hv:nLs vs=AB)(hp:yaK vs=AA ps)(w0:0<=w)(w1:w<=16)(n0:0<=n)(n1:n<=8)(hR:(yK w n ps).length<=4000)(hq:ybu w n ps<=4000)(ha:ak1 w n ps<=500000)(hrow:∀x∈yK w n ps,ybt x)
  (hit:∀s,yd T (k+16) yz [.tp b vs] s=.ok (.bl AB) s) (st:SO):yd T (k+18) yjW [.tp b vs,.int w,.int n] st=.ok (.tp AC (yK w n ps)) st:=by
 have hT:T yjW=AA yhx:=rfl;have hnl:nLs [.tp b vs,.int w,.int n]=true:=by simp[nLs,nL,hv]
 let⟨xs,e,hs⟩:=zji k hv hp w0 w1 n0 n1 hR hq ha hrow hit [];have ec:=zkq (k+17) (st:=[]) hs [] [] zbe;rw[BR,BR]at ec;have ec:yal (yd T (k+17)) [AD] (.n 0) (.cmp .eq (.idx (.var 0) (.cst (.int 0))) (.cst (.str "row"))) (.idx (.var 0) (.cst (.int 1))) xs []=_:=ec;have nl:=hs.nl2;have lr:=λst=>zcy (yK w n ps) ∅ st;have ht:∀st,yaj .tuple st [.lst (yK w n ps)]=AA (.tp AC (yK w n ps)):=λ_=>rfl;rw[zc hT rfl rfl hnl];generalize PV.tp b vs=tv,yK w n ps=rows at *;simp! [yhx,e,ec,lr,ht];simp[ybk,nL,nl]
def zha(w n:Int):∀ps:List T1,nLs (yK w n ps)=true:=by
 have ap:∀(a b:List PV),nLs a=AB->nLs b=AB->nLs (a++b)=true:=by
  intro a
  induction a with
  |nil=>intro b _ h;exact h
  |cons x a ih=>
   intro b h1 h2;let⟨p,q⟩:=zbR h1;rw[Ap,nLs,p,ih b q h2];rfl
 have up:∀(f:Nat->List PV) (N:Nat),(∀i,nLs (f i)=AB)->nLs (upTo f N)=true:=by
  intro f N h
  induction N with
  |zero=>rfl
  |succ N ih=>exact ap _ _ ih (h N)
 have mp:∀(rs:List Rs) (I J:Int),nLs (rs.map λr=>r.pv I J n)=true:=by
  intro rs I J
  induction rs with
  |nil=>rfl
  |cons r rs ih=>rw[AL,nLs,zce,ih];rfl
 have two:∀(I:Nat) (ps:List T2),nLs (yan w n I ps)=true:=by
  intro I ps
  induction ps with
  |nil=>rfl
  |cons p ps ih=>
   rw[yan,CB];refine ap _ _ ?_ ih
   cases p with
   |row r=>simp[T2.rows,nLs,zce]
   |rounds c m t rs=>exact up _ _ λJ=>mp rs _ _
 intro ps
 induction ps with
 |nil=>rfl
 |cons p ps ih=>
  rw[yK,CB];refine ap _ _ ?_ ih
  cases p with
  |row r=>simp[T1.rows,nLs,zce]
  |rounds c m t ps=>exact up _ _ λI=>two I ps
def zhy(k:Nat){deed:PV}(hd:nL deed=AB){b:Bool}{vs:List PV}{ps:List T1}{w n:Int}(ht:∀s,yd T (k+18) yhd [deed] s=.ok (.tp b vs) s)(hv:nLs vs=AB)(hp:yaK vs=AA ps)(w0:0<=w)(w1:w<=16)(n0:0<=n)(n1:n<=8)(hR:(yK w n ps).length<=4000)(hq:ybu w n ps<=4000)(ha:ak1 w n ps<=500000)(hrow:∀x∈yK w n ps,ybt x)
  (hit:∀s,yd T (k+16) yz [.tp b vs] s=.ok (.bl AB) s) (st:SO):yd T (k+19) yh5 [deed,.int w,.int n] st=.ok (.tp AC (yK w n ps)) st:=by
 have hT:T yh5=AA ygx:=rfl;have hnl:nLs [deed,.int w,.int n]=true:=by simp[nLs,nL,hd]
 have e:=unrolled k hv hp w0 w1 n0 n1 hR hq ha hrow hit [];have nl:=zha w n ps;rw[zc hT rfl rfl hnl];generalize PV.tp b vs=tv,yK w n ps=rows at *;simp! [ygx,ht,e];simp[ybk,nL,nl]
def Dg(W:Int)(M:Mem)(c n:Nat):Prop:=∀i:Nat,i<n->0<=M c i/\M c i<W
theorem Dg.mono{W:Int}{M:Mem}{c n:Nat}(h:Dg W M c (n+1)):Dg W M c n:=λi hi=>h i ∅
def zd{W:Int}{M M':Mem}{c c':Nat}:∀n,(∀i:Nat,i<n->M c i=M' c' i)->yx W M c n=yx W M' c' n
 |0,_=>rfl
 |n+1,h=>by rw[yx,yx,zd n λi hi=>h i ∅,h n ∅]
def zG{W:Int}(hW:0<W){M:Mem}{c:Nat}:∀n,Dg W M c n->0<=yx W M c n/\yx W M c n<W^n
 |0,_=>by simp[yx]
 |n+1,h=>by
  let⟨a,b⟩:=zG hW n h.mono;let⟨c0,c1⟩:=h n ∅;have hp:0<W^n:=A7 hW;have h1:0<=M c n*W^n:=C8 c0 ∅;have h2:M c n*W^n<=(W-1)*W^n:=Ay ∅ ∅;rw[B3,Bk]at h2;rw[yx,Ae,Af (W^n) W];lia
def zaW{W:Int}(hW:0<W){M:Mem}{c:Nat}:∀n,Dg W M c n->(yx W M c n=0 ↔ ∀i:Nat,i<n->M c i=0)
 |0,_=>by simp[yx]
 |n+1,h=>by
  have ih:=zaW hW n h.mono;let⟨a,b⟩:=zG hW n h.mono;let⟨c0,c1⟩:=h n ∅;have hp:0<W^n:=A7 hW;have h1:0<=M c n*W^n:=C8 c0 ∅;rw[yx];constructor
  .intro h2 i hi;have h3:M c n*W^n=0:=by omega
   rcases CZ i n with z|z
   .exact ih.1 ∅ i z
   .rw[show i=n by lia];rcases Int.mul_eq_zero.1 h3 with e|e
    .exact e
    .lia
  .intro h2;rw[h2 n ∅,ih.2 λi hi=>h2 i ∅];simp
def zil{w:Nat}(hw:0<w){M:Mem}{c n:Nat}(h:Dg (2^w) M c (n+1)):tb w (M c n)=if (2^w:Int)^(n+1)<=2*yx (2^w) M c (n+1)then 1 else 0:=by
 let⟨c0,c1⟩:=h n ∅;let⟨a,b⟩:=zG (A7 ∅) n h.mono;rw[zoQ hw c0 c1,yx];obtain⟨v,rfl⟩:∃v,w=v+1:=⟨w-1,by lia⟩;have hp:0<((2:Int)^(v+1))^n:=A7 (A7 ∅);rw[Ae ((2:Int)^(v+1)) n];generalize ((2:Int)^(v+1))^n=P,hV:yx (2^(v+1)) M c n=V at *;rw[Ae]at *;generalize (2:Int)^v=H,M c (n:Int)=d at *
 by_cases hd:H<=d
 .have h1:=Ay hd (show 0<=P by lia);have h2:P*(H*2)=2*(H*P):=by rw[Af P,Am,Af 2 P,<-Am,Af 2]
  rw[if_pos ∅,if_pos (by rw[h2];lia)]
 .have h1:=Ay (show d<=H-1 by lia) (show 0<=P by lia);rw[B3,Bk]at h1;have h2:P*(H*2)=2*(H*P):=by rw[Af P,Am,Af 2 P,<-Am,Af 2]
  rw[if_neg ∅,if_neg (by rw[h2];lia)]
def zgf{W:Int}(M:Mem)(k:Int)(hS:0<=M 115 0):∀n,(∀i:Nat,i<n->0<=M 99 i) ->
  (yD W (yS (λi=>Rw.any cS cS (99,i)) n) M k).2=k/\(∀d j,d≠115->(yD W (yS (λi=>Rw.any cS cS (99,i)) n) M k).1 d j=M d j)/\0<=(yD W (yS (λi=>Rw.any cS cS (99,i)) n) M k).1 115 0/\((yD W (yS (λi=>Rw.any cS cS (99,i)) n) M k).1 115 0=0 ↔ M 115 0=0/\∀i:Nat,i<n->M 99 i=0)
 |0,_=>⟨rfl,λ_ _ _=>rfl,hS,by simp[yS,yD]⟩
 |n+1,h=>by
  let⟨h1,h2,h3,h4⟩:=zgf (W:=W) M k hS n λi hi=>h i ∅;rw[yS,zl];generalize yD W (yS (λi=>Rw.any cS cS (99,i)) n) M k=R at *;let⟨M1,k'⟩:=R;simp only at *;have hb:=h n ∅;erw[yD,stepM,rd,wr,cS,h2 99 n ⋯];have hz:=zhF h3 hb;refine⟨h1,λd j hd=>?_,?_,?_⟩
  .unfold upd;rw[if_neg ∅,h2 d j hd]
  .unfold upd;rw[if_pos ⟨rfl,rfl⟩];obtain⟨x,hx⟩:∃x:Nat,M1 115 0=x:=⟨(M1 115 0).toNat,by lia⟩;obtain⟨y,hy⟩:∃y:Nat,M 99 n=y:=⟨(M 99 n).toNat,by lia⟩;rw[hx,hy,zc8];lia
  .unfold upd;rw[if_pos ⟨rfl,rfl⟩,hz,h4];constructor
   .rintro⟨⟨a,b⟩,c⟩
    refine⟨a,λi hi=>?_⟩;rcases CZ i n with z|z
    .exact b i z
    .rw[show i=n by lia];exact c
   .rintro⟨a,b⟩
    exact⟨⟨a,λi hi=>b i ∅⟩,b n ∅⟩
def zy{W:Int}{r:Rw}{rs:List Rw}{M:Mem}{k:Int}:yD W (r::rs) M k=yD W rs (stepM W M k r).1 (stepM W M k r).2:=rfl
def zdP(b:Bool):0<=bi b/\bi b<=1:=by cases b<;>decide
def zfZ{w:Nat}(hw:1<w){n:Nat}(M:Mem)(k:Int)(hc:Dg (2^w) M 99 (n+1))(hz:M 122 0=0):
  (∀j,(yD (2^w) (yN (n+1)) M k).1 99 j=M 99 j)/\(yD (2^w) (yN (n+1)) M k).1 109 0=M 109 0/\(yD (2^w) (yN (n+1)) M k).1 109 1=M 109 1 /\
  (yD (2^w) (yN (n+1)) M k).1 109 2=bi (yx (2^w) M 99 (n+1)==0)/\(yD (2^w) (yN (n+1)) M k).1 109 3=bi (decide ((2^w:Int)^(n+1)<=2*yx (2^w) M 99 (n+1))):=by
 have hW:(0:Int)<2^w:=A7 ∅;have hW4:(4:Int)<=2^w:=by
  have h:(2:Nat)^2<=2^w:=Ac ∅ ∅;have h2:=pw w;lia
 let⟨h1,h2,h3,h4⟩:=zgf (W:=2^w) (wr M cS 0) k (by simp[wr,upd]) (n+1) (λi hi=>by simp[wr,upd];exact(hc i hi).1);have e:yN (n+1)=.set cS 0::(yS (λi=>Rw.any cS cS (99,i)) (n+1)++[.ask cS,.set (109,2) 1,.less (109,2) (109,2) cZ,.twice cT (99,((n+1:Nat):Int)-1),.sum (109,3) cZ cZ]):=rfl;have hst:stepM (2^w) M k (.set cS 0)=(wr M cS 0,k):=rfl;rw[e,zy,hst,zl];generalize yD (2^w) (yS (λi=>Rw.any cS cS (99,i)) (n+1)) (wr M cS 0) k=R at *;let⟨M1,k'⟩:=R;simp only at *;subst h1;have g:∀d j,d≠115->M1 d j=M d j:=λd j hd=>by
  rw[h2 d j hd];erw[wr,upd,cS];rw[if_neg ∅]
 have hn:((n+1:Nat):Int)-1=n:=by lia
 have h5:M1 115 0=0 ↔ yx (2^w) M 99 (n+1)=0:=by
  rw[h4,zaW hW (n+1) hc];constructor
  .rintro⟨_,b⟩ i hi
   have:=b i hi;simpa [wr,upd] using this
  .intro b;exact⟨by simp[wr,upd],λi hi=>by simpa [wr,upd] using b i hi⟩
 have ht:=zil ∅ hc;have hb:bi (!(M1 115 0==0))=1-bi (yx (2^w) M 99 (n+1)==0):=by
  by_cases hv:yx (2^w) M 99 (n+1)=0
  .rw[h5.2 hv,hv];rfl
  .have:¬M1 115 0=0:=λz=>hv (h5.1 z);rw[beq_eq_false_iff_ne.2 this,beq_eq_false_iff_ne.2 hv];rfl
 have hbr:=zdP (yx (2^w) M 99 (n+1)==0);rw[hn];erw[yD,stepM,rd,wr,upd,cS,cT,cZ];rw[hb];generalize bi (yx (2^w) M 99 (n+1)==0)=v at *;have hm:bi (decide ((1:Int)-0-(1-v)<0))=0:=by
  rw[decide_eq_false ∅];rfl
 have hm2:(1-0-(1-v))%(2:Int)^w=v:=by
  rw[show 1-0-(1-v)=v by lia];exact A6 ∅ ∅
 have hT:(2*M 99 n+0)/2^w=bi (decide ((2^w:Int)^(n+1)<=2*yx (2^w) M 99 (n+1))):=by
  rw[Dx];show tb w (M 99 n)=_;rw[ht]
  by_cases q:(2^w:Int)^(n+1)<=2*yx (2^w) M 99 (n+1)
  .rw[if_pos q,decide_eq_true q];rfl
  .rw[if_neg q,decide_eq_false q];rfl
 have hTr:=zdP (decide ((2^w:Int)^(n+1)<=2*yx (2^w) M 99 (n+1)));erw[El,false_and,if_false,Int.reduceEq,and_false,and_self,if_true,g _ _ (show (99:Nat)≠115 by decide),g _ _ (show (109:Nat)≠115 by decide),g _ _ (show (122:Nat)≠115 by decide),hz,hm,hm2,hT];refine⟨λj=>trivial,trivial,trivial,trivial,?_⟩;rw[show (0:Int)+0+bi (decide ((2^w:Int)^(n+1)<=2*yx (2^w) M 99 (n+1)))=bi (decide ((2^w:Int)^(n+1)<=2*yx (2^w) M 99 (n+1)))by lia];exact A6 ∅ ∅
def zbX{c d:Nat}(h:d≠c)(j:Int):∀(vs:List Int) (i:Nat) (M:Mem),yaG c i vs M d j=M d j
 |[],_,_=>rfl
 |v::vs,i,M=>by
  rw[yaG,zbX h j vs,upd,if_neg ∅]
def zdd{c:Nat}(j:Int):∀(vs:List Int) (i:Nat) (M:Mem),j<i->yaG c i vs M c j=M c j
 |[],_,_,_=>rfl
 |v::vs,i,M,h=>by
  rw[yaG,zdd j vs (i+1) _ ∅,upd,if_neg ∅]
def zeI{c:Nat}:∀(vs:List Int) (i:Nat) (M:Mem) (k:Nat),k<vs.length->yaG c i vs M c ((i+k:Nat):Int)=vs.getD k 0
 |[],_,_,_,h=>by simp at h
 |v::vs,i,M,0,h=>by
  rw[yaG,zdd _ vs (i+1) _ ∅,upd,if_pos ⟨rfl,by simp⟩];rfl
 |v::vs,i,M,k+1,h=>by
  rw[yaG,show i+(k+1)=i+1+k by lia,zeI vs (i+1) _ k (by simpa using h)];rfl
def zdw{W:Int}(hW:0<W):∀(n:Nat) (x:Int) (k:Nat),k<n->(yh W n x).getD k 0=x/W^k%W
 |0,_,_,h=>by lia
 |n+1,x,0,h=>by simp[yh]
 |n+1,x,k+1,h=>by
  rw[yh];show (yh W n (x/W)).getD k 0=_;rw[zdw hW n (x/W) k ∅,Ae,Af (W^k),C9 ∅]
def zex{W x:Int}(hW:0<W)(n:Nat):x%W^(n+1)=x%W^n+x/W^n%W*W^n:=by
 have hp:0<W^n:=A7 hW;rw[Ae];generalize W^n=P at *;have e1:=BX x P;have e2:=BX (x/P) W;have a0:=As x (show P≠0 by lia);have a1:=Ai x hp;have b0:=As (x/P) (show W≠0 by lia);have b1:=Ai (x/P) hW;generalize x%P=r,x/P=q at *;generalize q%W=s,q/W=t at *;subst e2;have e3:x=r+s*P+P*W*t:=by
  rw[<-e1,G5,Af P s,Am P W t];lia
 have c1:s*P<=(W-1)*P:=Ay ∅ ∅;have c0:0<=s*P:=C8 b0 ∅;rw[B3,Bk]at c1;rw[e3,CP,A6 ∅ (by rw[Af P W];lia)]
def zer{W:Int}(hW:0<W){M:Mem}{c:Nat}{x:Int}:∀n,(∀i:Nat,i<n->M c i=x/W^i%W)->yx W M c n=x%W^n
 |0,_=>by simp[yx,Int.emod_one]
 |n+1,h=>by rw[yx,zer hW n λi hi=>h i ∅,h n ∅,zex hW]
section
variable {W:Int}(n:Nat)(x y:Int)
def zoc{d:Nat}(h1:d≠97)(h2:d≠98)(j:Int):yaq W n x y d j=0:=by
 rw[yaq,zbX h2,zbX h1];rfl
variable (hW:0<W)
include hW
def zpk{i:Nat}(h:i<n):yaq W n x y 97 i=x/W^i%W:=by
 rw[yaq,zbX ⋯];have:=zeI (c:=97) (yh W n x) 0 M0 i (by rw[zQ];exact h);rw[BZ]at this;rw[this,zdw hW n x i h]
def zpl{i:Nat}(h:i<n):yaq W n x y 98 i=y/W^i%W:=by
 rw[yaq];have:=zeI (c:=98) (yh W n y) 0 (yaG 97 0 (yh W n x) M0) i (by rw[zQ];exact h);rw[BZ]at this;rw[this,zdw hW n y i h]
def zkz:Dg W (yaq W n x y) 97 n:=λi hi=>by
 rw[zpk n x y hW hi];exact⟨As _ ∅,Ai _ hW⟩
def zkX:Dg W (yaq W n x y) 98 n:=λi hi=>by
 rw[zpl n x y hW hi];exact⟨As _ ∅,Ai _ hW⟩
def zkD(h0:0<=x)(h1:x<W^n):yx W (yaq W n x y) 97 n=x:=by
 rw[zer hW n λi hi=>zpk n x y hW hi,A6 h0 h1]
def zkE(h0:0<=y)(h1:y<W^n):yx W (yaq W n x y) 98 n=y:=by
 rw[zer hW n λi hi=>zpl n x y hW hi,A6 h0 h1]
end
def zmA{X:Fl}{v:PV}{st:SO}(h:ybk [] X=.ok v []):ybk st X=.ok v st:=by
 cases X with
 |rt u s=>
  erw[ybk]at h ⊢
  by_cases c:nL u=AB
  .rw[if_pos c]at h ⊢;cases h;rfl
  .rw[if_neg c]at h;cases h
 |nx ρ s=>erw[ybk]at h ⊢;cases h;rfl
 |_=>cases h
def zbL{k f:Nat}{fn:IC.Fn}{args:List PV}{v:PV}(hT:T f=AA fn)(hp:fn.pure=AB)(hl:args.length=fn.np)(hn:nLs args=AB)(h:yd T (k+1) f args []=.ok v [])(st:SO):yd T (k+1) f args st=.ok v st:=by
 rw[zc hT hp hl hn]at h ⊢;exact zmA h
def ybi(W:Int):List Rw->Mem->Int->Prop
 |[],_,_=>True
 |r::rs,M,k=>(∀t x,r=.half t x->0<=rd M x/\rd M x<W/\0<=k/\k<2)/\ybi W rs (stepM W M k r).1 (stepM W M k r).2
def rnA:Css:=match yF.body with
 |.cons (.for _ _ b) _=>b
 |x=>x
def rnB:Css:=match yF.body with
 |.cons _ (.cons (.for _ _ b) _)=>b
 |x=>x
theorem rnS:yF.body=.cons (.for (.n 2) (.seq (.var 1)) rnA) (.cons (.for (.n 2) (.seq (.var 1)) rnB) .nil):=rfl
def zjH(r:Rw):nLs [yV r]=true:=by cases r<;>rfl
section
variable {m l n:Nat}
def zdH(k:Nat){v:Option PV}(st:SO):∀(rs:List Rw),(∀r∈rs,yd T (k+1) yfi [yV r] []=.ok .non [])->∀p2,∃q2,yaX (yd T (k+1)) (.n 2) rnA (rs.map yV) [AA (.loc m),v,p2] st=.nx [AA (.loc m),v,q2] st
 |[],h,p2=>⟨p2,by rw[Ar,zF]⟩
 |r::rs,h,p2=>by
  let⟨q2,e⟩:=zdH k (v:=v) st rs (λq hq=>h q (AW _ hq)) (AA (yV r));have e1:=zbL (f:=yfi) (fn:=ygO) rfl rfl rfl (zjH r) (h r (by simp)) st;refine⟨q2,?_⟩;rw[AL,zx (ρ1:=[AA (.loc m),v,AA (yV r)]) rfl];generalize yV r=row at *;have hb:exs (yd T (k+1)) [AA (.loc m),v,AA row] st rnA=.nx [AA (.loc m),v,AA row] st:=by
   simp! [rnA,yF,e1]
  rw[hb];exact e
def zh0(k:Nat)(hn:n<=100)(hn1:1<=n){v:Option PV}:∀(rs:List Rw) (M:Mem) (mk:Int) (st:SO) (L:Nat) (p2:Option PV),MM st m l n M mk L->L+rs.length<999999->ybi (2^n) rs M mk ->
  ∃st' q2,MM st' m l n (yD (2^n) rs M mk).1 (yD (2^n) rs M mk).2 (L+rs.length)/\(∀q,q≠m->q≠l->st'[q]?=st[q]?)/\st'.length=st.length/\yaX (yd T (k+6)) (.n 2) rnB (rs.map yV) [AA (.loc m),v,p2] st=.nx [AA (.loc m),v,q2] st'
 |[],M,mk,st,L,p2,h,hL,hh=>⟨st,p2,h,λ_ _ _=>rfl,rfl,by rw[Ar,zF]⟩
 |r::rs,M,mk,st,L,p2,h,hL,hh=>by
  erw[AS]at hL;let⟨s1,h1,o1,l1,e1⟩:=zor k h ∅ hn hn1 r hh.1;let⟨s2,q2,h2,o2,l2,e2⟩:=zh0 k hn hn1 (v:=v) rs _ _ s1 (L+1) (AA (yV r)) h1 ∅ hh.2;refine⟨s2,q2,?_,λq a b=>(o2 q a b).trans (o1 q a b),l2.trans l1,?_⟩
  .rw[yD,AS,show L+(rs.length+1)=L+1+rs.length by lia];exact h2
  .have ih:=h.ins (AE "go_row");rw[AL,zx (ρ1:=[AA (.loc m),v,AA (yV r)]) rfl];generalize yV r=row at *;have hb:exs (yd T (k+6)) [AA (.loc m),v,AA row] st rnB=.nx [AA (.loc m),v,AA row] s1:=by
    simp! [rnB,yF,ih,e1,IC.ve37]
   rw[hb];exact e2
def zkb(k:Nat)(hn:n<=100)(hn1:1<=n){rs:List Rw}{M:Mem}{mk:Int}{st:SO}{L:Nat}(h:MM st m l n M mk L)(hL:L+rs.length<999999)(hh:ybi (2^n) rs M mk)(hA:∀r∈rs,yd T (k+6) yfi [yV r] []=.ok .non []):
  okM (yd T (k+7) yiI [.loc m,.tp AC (rs.map yV)] st) st m l n (yD (2^n) rs M mk).1 (yD (2^n) rs M mk).2 (L+rs.length):=by
 have hT:T yiI=AA ⟨2,3,AC,yF.body⟩:=rfl;let⟨q2,e1⟩:=zdH (m:=m) (k+5) (v:=AA (.tp AC (rs.map yV))) st rs hA AD;let⟨s2,q3,h2,o2,l2,e2⟩:=zh0 k hn hn1 (v:=AA (.tp AC (rs.map yV))) rs M mk st L q2 h hL hh;refine⟨s2,h2,o2,l2,?_⟩;rw[zo hT rfl rfl];show outI (exs (yd T (k+6)) [AA (.loc m),AA (.tp AC (rs.map yV)),AD] st yF.body)=_;rw[rnS,xs_cons,x_for];generalize rs.map yV=rows at *;simp! [e1,e2];rfl
def zhl:([97,98,99,100,109].all λc=>(Cb 9).all λi=>isOk (yd T 8 yiK [.str ⟨#[c]⟩,.int (i:Nat)] []) (yU c (i:Nat)))=true:=by decide +kernel
theorem known(k:Nat){c i:Nat}(hc:c∈[97,98,99,100,109])(hi:i<9)(st:SO):yd T (8+k) yiK [.str ⟨#[c]⟩,.int (i:Int)] st=.ok (yU c i) st:=by
 have h:=Bl.1 zhl c hc;have h:=Bl.1 h i (by simpa using hi);have h:=zap (zbK h) k;rw[show 8+k=7+k+1 by lia]at h ⊢;exact zbL (f:=yiK) (fn:=yin) rfl rfl rfl rfl h st
def zqX(k:Nat){st:SO}{L:Nat}{w mk:Int}{M:Mem}(h:MM st m l w M mk L){c i:Nat}(hc:c∈[97,98,99,100,109])(hi:i<9):yd T (9+k) y7 [.loc m,.str ⟨#[c]⟩,.int (i:Int)] st=.ok (.int (M c i)) st:=by
 have hT:T y7=AA yhL:=rfl;have e1:=known k hc hi st;have e2:yd T (8+k) yB [.loc m,yU c i] st=.ok (.int (M c i)) st:=by
  rw[show 8+k=7+k+1 by lia];exact zeO (7+k) h (c,(i:Int))
 have ih:=h.ins (AE "held_in");rw[show 9+k=8+k+1 by lia,zo hT rfl rfl];generalize yU c i=q at *;simp! [yhL,ih,e1,e2,zbE,IC.ve37]
def zfd(k:Nat)(v lo hi:Int)(h1:lo<=v)(h2:v<=hi)(st:SO):yd T (k+1) yhc [.int v,.int lo,.int hi] st=.ok (.bl AB) st:=by
 have hT:T yhc=AA yey:=rfl;rw[zc hT rfl rfl rfl];have e1:yaM (.int v) [.int]=AA (.bl AB):=rfl;have e2:yaM (.int v) [.bool]=AA (.bl AC):=rfl;simp! [yey,e1,e2,decide_eq_true h1,decide_eq_true h2];rfl
def zqY(k:Nat)(hn:n<=100){st:SO}{L:Nat}{mk:Int}{M:Mem}(h:MM st m l n M mk L)(hL:L<999999){c i:Nat}(hc:c∈[97,98,99,100,109])(hi:i<9){v:Int}(v0:0<=v)(v1:v<2^n):
  okM (yd T (9+k) yjY [.loc m,.str ⟨#[c]⟩,.int (i:Int),.int v] st) st m l n (upd M c i v) mk (L+1):=by
 have hT:T yjY=AA yhK:=rfl;have e1:=known k hc hi st;have e2:yd T (8+k) yix [.int n] st=.ok (.int (2^n-1)) st:=by rw[show 8+k=7+k+1 by lia];exact highest (7+k) n hn st
 have e3:yd T (8+k) yhc [.int v,.int 0,.int (2^n-1)] st=.ok (.bl AB) st:=by rw[show 8+k=7+k+1 by lia];exact zfd (7+k) v 0 (2^n-1) v0 ∅ st
 let⟨s1,d1,⟨o,ho⟩,h1⟩:=h.sd hL (c,(i:Int)) v;refine⟨s1,h1,λq a b=>by rw[ho,AO (BN b)],by simp[ho],?_⟩;have d1:ybd st (.loc l) (yU c i) (.int v)=AA s1:=d1;rw[show 9+k=8+k+1 by lia,zo hT rfl rfl];generalize yU c i=q at *;simp! [yhK,e1,h.fw,e2,e3,h.fd,zi6,d1,zay,IC.ve32];rfl
end
def zqZ{v:PV}:ybI sw v []=[(sw,v)]:=rfl
def zq0{a v:PV}:ybI sws v [(sw,a)]=[(sw,a),(sws,v)]:=by ac_rfl
def zq1{a b v:PV}:ybI smk v [(sw,a),(sws,b)]=[(sw,a),(sws,b),(smk,v)]:=by ac_rfl
def zq2(k:Nat)(w:Int)(st:SO):yd T (k+1) yiH [.loc st.length,.int w] (st++[.ins cM []])=.ok .non (st++[mob w (st.length+1) 0]++[.dct AB []]):=by
 have hT:T yiH=AA yhJ:=rfl;have g0:(st++[Ob.ins cM []])[st.length]?=AA (.ins cM []):=by simp
 have s1:ya4 cM (st++[Ob.ins cM []]) (.loc st.length) sw (.int w)=AA (st++[.ins cM [(sw,.int w)]]):=by
  erw[ya4,g0];rw[if_pos ⟨trivial,by simp⟩,zqZ];simp
 have g1:(st++[Ob.ins cM [(sw,.int w)]]++[Ob.dct AB []])[st.length]?=AA (.ins cM [(sw,.int w)]):=by simp
 have s2:ya4 cM (st++[Ob.ins cM [(sw,.int w)]]++[Ob.dct AB []]) (.loc st.length) sws (.loc (st.length+1))=AA (st++[.ins cM [(sw,.int w),(sws,.loc (st.length+1))]]++[.dct AB []]):=by
  erw[ya4,g1];rw[if_pos ⟨trivial,by simp⟩,zq0];simp
 have g2:(st++[Ob.ins cM [(sw,.int w),(sws,.loc (st.length+1))]]++[Ob.dct AB []])[st.length]?=AA (.ins cM [(sw,.int w),(sws,.loc (st.length+1))]):=by simp
 have s3:ya4 cM (st++[Ob.ins cM [(sw,.int w),(sws,.loc (st.length+1))]]++[Ob.dct AB []]) (.loc st.length) smk (.int 0)=AA (st++[mob w (st.length+1) 0]++[.dct AB []]):=by
  erw[ya4,g2];rw[if_pos ⟨trivial,by simp⟩,zq1];simp[mob]
 have hd:∀(ρ:IC.Env),ev (yd T k) ρ (st++[Ob.ins cM [(sw,.int w)]]) (.dict0 AB)=.ok (.loc (st.length+1)) (st++[Ob.ins cM [(sw,.int w)]]++[.dct AB []]):=λρ=>by
  erw[ev,Ah,DV]
 rw[zo hT rfl rfl];erw[yhJ,xs_cons,zfM,hd];have hlen:(st++[Ob.ins cM [(sw,.int w)]]).length=st.length+1:=by simp
 simp! [s1,zay,hlen,s2,s3];rfl
def zfa(W:Int)(hW:0<W)(x:Int):∀(n a:Nat),(yt n (a:Int) 1).map (λp=>match p with | .int j=>PV.int (x/W^j.toNat%W)|q=>q)=(yh W n (x/W^a)).map .int
 |0,a=>rfl
 |n+1,a=>by
  have h:=zfa W hW x n (a+1);rw[yt,AL,yh,AL]
  congr 1
  .rw[show ((a:Int)+1)=((a+1:Nat):Int)by lia,h,Ae,C9 (Br (A7 hW))]
def zmc(n:Nat)(hn:n<=1000):yw .shl (.int 1) (.int (n:Int))=AA (.int (2^n)):=by
 erw[yw,binI];rw[if_pos ⟨by lia,by lia,by decide⟩];simp
def zgg(a b:Nat)(ha:a<=1000):yw .mul (.int (a:Int)) (.int (b:Int))=AA (.int ((a*b:Nat):Int)):=by
 have h:yaC (a:Int) (b:Int)=true:=by
  erw[yaC,DE,decide_eq_true_eq];exact .inl (by simp;lia)
 erw[yw,binI,h,if_true];simp
theorem lowest(k:Nat)(x:Int)(w n:Nat)(hw:w<=16)(hn:n<=8)(st:SO):yd T (k+1) yv [.int x,.int w,.int n] st=.ok (.tp AC ((yh (2^w) n x).map .int)) st:=by
 have hT:T yv=AA yhQ:=rfl;have e1:=zmc w ∅;have hr:=zbt n ∅;have hc:yal (yd T k) [AD,AA (.int (2^w-1)),AA (.int x),AA (.int w)] (.n 0) (.cst (.bl AB)) (.bin .band (.bin .shr (.var 2) (.bin .mul (.var 3) (.var 0))) (.var 1)) (yt n 0 1) []=.ok ((yh (2^w) n x).map .int) []:=by
  have h:=zfa (2^w) (A7 ⋯) x n 0;rw[Dy,HF]at h;rw[<-h];refine zfp _ λp hp=>?_;obtain⟨j,hj,rfl⟩:∃j:Nat,j<n/\p=.int (j:Int):=by
   have:∀(n a:Nat) (p:PV),p∈yt n (a:Int) 1->∃j:Nat,a<=j/\j<a+n/\p=.int (j:Int):=by
    intro n
    induction n with
    |zero=>intro a p h;cases h
    |succ n ih=>
     intro a p h;rw[yt]at h;rcases AT.1 h with rfl|h
     .exact⟨a,AU _,by lia,rfl⟩
     .let⟨j,h1,h2,h3⟩:=ih (a+1) p (by rw[show ((a+1:Nat):Int)=(a:Int)+1 by lia];exact h);exact⟨j,by lia,by lia,h3⟩
   let⟨j,_,h2,h3⟩:=this n 0 p hp;exact⟨j,by lia,h3⟩
  have m1:=zgg w j ∅;have s1:yw .shr (.int x) (.int ((w*j:Nat):Int))=AA (.int (x/2^(w*j))):=by
   erw[yw,binI];rw[if_pos ∅,CY]
  have b1:=band (x/2^(w*j)) (2^w-1);rw[zfi (n:=w) (x/2^(w*j))]at b1;simp! [ybf,m1,s1,b1];rw[CY,<-E9]
 rw[zc hT rfl rfl rfl];simp! [yhQ,e1,hr,hc];rw[zcy _ (by simp[zQ];lia)];have ht:yaj .tuple [] [.lst ((yh (2^w) n x).map .int)]=AA (.tp AC ((yh (2^w) n x).map .int)):=rfl;simp! [ht];simp[ybk,nL,noLocs_ints]
def zaF{W:Int}(hW:0<W):∀(n:Nat) (x:Int),∀v∈yh W n x,0<=v/\v<W
 |0,x,v,h=>by cases h
 |n+1,x,v,h=>by
  rw[yh]at h;rcases AT.1 h with rfl|h
  .exact⟨As _ ∅,Ai _ hW⟩
  .exact zaF hW n _ v h
def mwB:Css:=match yu.body with
 |.cons _ (.cons (.for _ _ b) _)=>b
 |x=>x
def mwC:Css:=match mwB with
 |.cons (.for _ _ b) _=>b
 |x=>x
section
variable {m l n:Nat}
def zfR(k:Nat)(hn:n<=100){c:Nat}(hc:c∈[97,98,99,100,109]){p0 p1 p2 p3 p6:Option PV}:∀(ws:List Int) (i:Nat) (M:Mem) (st:SO) (L:Nat) (p7 p8:Option PV),(∀v∈ws,0<=v/\v<2^n)->i+ws.length<=9->MM st m l n M 0 L->L+ws.length<999999 ->
  ∃st' q7 q8,MM st' m l n (yaG c i ws M) 0 (L+ws.length)/\(∀q,q≠m->q≠l->st'[q]?=st[q]?)/\st'.length=st.length /\
   yaX (yd T (9+k)) (.t [7,8]) mwC (yab i (ws.map .int)) [p0,p1,p2,p3,AA (.loc m),AA (.str ⟨#[c]⟩),p6,p7,p8] st=.nx [p0,p1,p2,p3,AA (.loc m),AA (.str ⟨#[c]⟩),p6,q7,q8] st'
 |[],i,M,st,L,p7,p8,hv,hi,h,hL=>⟨st,p7,p8,h,λ_ _ _=>rfl,rfl,by rw[Ar,yab,zF]⟩
 |v::ws,i,M,st,L,p7,p8,hv,hi,h,hL=>by
  erw[AS]at hi hL;let⟨v0,v1⟩:=hv v (by simp);let⟨s1,h1,o1,l1,e1⟩:=zqY k hn h ∅ hc (i:=i) ∅ v0 v1;let⟨s2,q7,q8,h2,o2,l2,e2⟩:=zfR k hn hc (p0:=p0) (p1:=p1) (p2:=p2) (p3:=p3) (p6:=p6) ws (i+1) (upd M c i v) s1 (L+1) (AA (.int i)) (AA (.int v)) (λu hu=>hv u (AW _ hu)) ∅ h1 ∅;refine⟨s2,q7,q8,?_,λq a b=>(o2 q a b).trans (o1 q a b),l2.trans l1,?_⟩
  .rw[yaG,AS,show L+(ws.length+1)=L+1+ws.length by lia];exact h2
  .have ih:=h.ins (AE "put");have bt:yJ (.t [7,8]) (.tup [.int (i:Int),.int v]) [p0,p1,p2,p3,AA (.loc m),AA (.str ⟨#[c]⟩),p6,p7,p8]=AA [p0,p1,p2,p3,AA (.loc m),AA (.str ⟨#[c]⟩),p6,AA (.int i),AA (.int v)]:=rfl;rw[AL,yab,zx bt];have hb:exs (yd T (9+k)) [p0,p1,p2,p3,AA (.loc m),AA (.str ⟨#[c]⟩),p6,AA (.int i),AA (.int v)] st mwC=.nx [p0,p1,p2,p3,AA (.loc m),AA (.str ⟨#[c]⟩),p6,AA (.int i),AA (.int v)] s1:=by
    simp! [mwC,mwB,yu,ih,e1,IC.ve37]
   rw[hb];exact e2
end
def ze6(k:Nat)(w n:Nat)(hw:w<=16)(hn:n<=8)(x y:Int)(st:SO):
  ∃st' m l,st.length<=m/\st.length<=l/\MM st' m l w (yaq (2^w) n x y) 0 (2*n)/\(∀q,q<st.length->st'[q]?=st[q]?)/\yd T (10+k) yiO [.int w,.int n,.int x,.int y] st=.ok (.loc m) st':=by
 have hT:T yiO=AA ⟨4,9,AC,yu.body⟩:=rfl;have e1:yd T (9+k) yiH [.loc st.length,.int w] (st++[.ins cM []])=.ok .non (st++[mob w (st.length+1) 0]++[.dct AB []]):=by rw[show 9+k=8+k+1 by lia];exact zq2 (8+k) w st
 obtain⟨s1,hs1⟩:∃s1,s1=st++[mob w (st.length+1) 0]++[.dct AB []]:=⟨_,rfl⟩;rw[<-hs1]at e1;have h1:MM s1 st.length (st.length+1) w M0 0 0:=by
  rw[hs1];exact⟨by simp,⟨[],by simp,λp hp=>(by cases hp),λc i=>rfl,by simp⟩,by lia⟩
 have eA:∀s,yd T (9+k) yv [.int x,.int w,.int n] s=.ok (.tp AC ((yh (2^w) n x).map .int)) s:=λs=>by rw[show 9+k=8+k+1 by lia];exact lowest (8+k) x w n hw hn s
 have eB:∀s,yd T (9+k) yv [.int y,.int w,.int n] s=.ok (.tp AC ((yh (2^w) n y).map .int)) s:=λs=>by rw[show 9+k=8+k+1 by lia];exact lowest (8+k) y w n hw hn s
 have lA:=zQ (2^w) n x;have lB:=zQ (2^w) n y;let⟨s2,q7,q8,h2,o2,l2,f2⟩:=zfR k ∅ (c:=97) (by simp) (p0:=AA (.int w)) (p1:=AA (.int n)) (p2:=AA (.int x)) (p3:=AA (.int y)) (p6:=AA (.int x)) (yh (2^w) n x) 0 M0 s1 0 AD AD (zaF (A7 ⋯) n x) ∅ h1 ∅;let⟨s3,r7,r8,h3,o3,l3,f3⟩:=zfR k ∅ (c:=98) (by simp) (p0:=AA (.int w)) (p1:=AA (.int n)) (p2:=AA (.int x)) (p3:=AA (.int y)) (p6:=AA (.int y)) (yh (2^w) n y) 0 _ s2 _ q7 q8 (zaF (A7 ⋯) n y) ∅ h2 ∅;refine⟨s3,st.length,st.length+1,AU _,by lia,?_,λq hq=>?_,?_⟩
 .rw[show 2*n=0+(yh (2^w) n x).length+(yh (2^w) n y).length by lia];exact h3
 .rw[o3 q ∅ ∅,o2 q ∅ ∅,hs1,B9,Ak hq]
 .have hb:yu.body=(match yu.body with
   |.cons a (.cons (.for t i _) r)=>.cons a (.cons (.for t i mwB) r)
   |x=>x):=rfl
  have hc:mwB=(match mwB with
   |.cons (.for t i _) r=>.cons (.for t i mwC) r
   |x=>x):=rfl
  have bt:∀(a b:PV) (p4 p5 p6 p7 p8:Option PV),yJ (.t [5,6]) (.tp AC [a,b]) [AA (.int w),AA (.int n),AA (.int x),AA (.int y),p4,p5,p6,p7,p8]=AA [AA (.int w),AA (.int n),AA (.int x),AA (.int y),p4,AA a,AA b,p7,p8]:=λ_ _ _ _ _ _ _=>rfl;have cA:(AE "a")=⟨#[97]⟩:=by ac_rfl
  have cB:(AE "b")=⟨#[98]⟩:=by ac_rfl
  have g1:exs (yd T (9+k)) [AA (.int w),AA (.int n),AA (.int x),AA (.int y),AA (.loc st.length),AA (.str ⟨#[97]⟩),AA (.int x),AD,AD] s1 mwB=.nx [AA (.int w),AA (.int n),AA (.int x),AA (.int y),AA (.loc st.length),AA (.str ⟨#[97]⟩),AA (.int x),q7,q8] s2:=by
   rw[hc];simp! [mwB,yu,eA,f2]
  have g2:exs (yd T (9+k)) [AA (.int w),AA (.int n),AA (.int x),AA (.int y),AA (.loc st.length),AA (.str ⟨#[98]⟩),AA (.int y),q7,q8] s2 mwB=.nx [AA (.int w),AA (.int n),AA (.int x),AA (.int y),AA (.loc st.length),AA (.str ⟨#[98]⟩),AA (.int y),r7,r8] s3:=by
   rw[hc];simp! [mwB,yu,eB,f3]
  have ag:∀(ρ:IC.Env) (s:SO) (k:IC.Env->SO->Fl),yax (.nx ρ s) k=k ρ s:=λ_ _ _=>rfl;rw[show 10+k=9+k+1 by lia,zo hT rfl rfl];dsimp only;rw[hb];simp! [yu,e1,ybv,newV,hs1.symm,cA,cB,zx (bt _ _ _ _ _ _ _),zF,g1,g2,ag,zbE,IC.ve33]
def getM(M:Mem)(c:Nat):Nat->Nat->List Int
 |_,0=>[]
 |a,n+1=>M c a::getM M c (a+1) n
def zdf(k:Nat){m l L:Nat}{w mk:Int}{M:Mem}{st:SO}(h:MM st m l w M mk L){c:Nat}(hc:c∈[97,98,99,100,109])(n:Nat)(hn:n<=8):
  yd T (10+k) yhh [.loc m,.str ⟨#[c]⟩,.int n] st=.ok (.tp AC ((getM M c 0 n).map .int)) st:=by
 have hT:T yhh=AA ⟨3,3,AC,yar.body⟩:=rfl;have hr:=zbt n ∅;have ih:=h.ins (AE "word");have hl:∀(n a:Nat),(getM M c a n).length=n:=by
  intro n
  induction n with
  |zero=>intro a;rfl
  |succ n ihn=>intro a;simp[getM,ihn]
 have hcm:∀(n a:Nat),a+n<=9->yal (yd T (9+k)) [AD,AA (.str ⟨#[c]⟩),AA (.loc m)] (.n 0) (.cst (.bl AB)) (.mcl cM y7 (AE "word") (.var 2) (.cons (.var 1) (.cons (.var 0) .nil))) (yt n (a:Int) 1) st=.ok ((getM M c a n).map .int) st:=by
  intro n
  induction n with
  |zero=>intro a _;rw[yt,zbe];rfl
  |succ n ihn=>
   intro a ha;have e:=zqX k h hc (i:=a) ∅;have one:ybf (yd T (9+k)) [AD,AA (.str ⟨#[c]⟩),AA (.loc m)] (.n 0) (.cst (.bl AB)) (.mcl cM y7 (AE "word") (.var 2) (.cons (.var 1) (.cons (.var 0) .nil))) (.int (a:Int)) st=.ok (AA (.int (M c a))) st:=by
    simp! [ybf,ih,e,IC.ve37]
   have q:=ihn (a+1) ∅;rw[yt,zai,one,bd_ok,show ((a:Int)+1)=((a+1:Nat):Int)by lia,q,bd_ok];rfl
 have hcm:=hcm n 0 ∅;have ht:yaj .tuple st [.lst ((getM M c 0 n).map .int)]=AA (.tp AC ((getM M c 0 n).map .int)):=rfl;rw[show 10+k=9+k+1 by lia,zo hT rfl rfl];have hcm:yal (yd T (9+k)) [AD,AA (.str ⟨#[c]⟩),AA (.loc m)] (.n 0) (.cst (.bl AB)) (.mcl cM y7 (AE "word") (.var 2) (.cons (.var 1) (.cons (.var 0) .nil))) (yt n 0 1) st=_:=hcm;simp! [yar,hr,hcm];rw[zcy _ (by simp[hl];lia)];simp! [ht,zbE]
def zgc(k:Nat)(x:Int)(w n:Nat)(hw:w<=16)(hn:n<=8)(x0:0<=x)(x1:x<2^(w*n))(st:SO):yd T (k+2) yh6 [.int x,.int w,.int n] st=.ok (.tp AC ((yh (2^w) n x).map .int)) st:=by
 have hT:T yh6=AA yhO:=rfl;have hwn:w*n<=1000:=by
  have:w*n<=16*8:=Ag hw hn;lia
 have m1:=zgg w n ∅;have s1:=zmc (w*n) hwn;have e1:∀s,yd T (k+1) yv [.int x,.int w,.int n] s=_:=λs=>lowest k x w n hw hn s;have c1:decide (x<0)=false:=decide_eq_false ∅;have c2:decide ((2:Int)^(w*n)<=x)=false:=decide_eq_false ∅;rw[zc hT rfl rfl rfl];generalize hL:yh (2^w) n x=ws at *;simp! [yhO,c1,m1,s1,c2,e1];simp[ybk,nL,noLocs_ints]
structure ycy(pr:Prop)(qb:Bool)(deed:PV)(w n na:Nat)(rs:List Rw):Prop where
 nl:nL deed=AB
 isd:yd T 20 yiv [deed] []=.ok (.bl AB) []
 isp:pr->yd T 20 yfg [deed] []=.ok (.bl AB) []
 quo:∀st,(idxV st deed (.int 0)).bind (λv=>yG .isin v yet)=AA (.bl qb)
 rows:yd T 20 yh5 [deed,.int w,.int n] []=.ok (.tp AC (rs.map yV)) []
 ref:∀r∈rs,yd T 20 yfi [yV r] []=.ok .non []
 ans:yd T 20 yn [deed,.int n] []=.ok (.int na) []
 rest:yd T 20 yhe [deed,.int n] []=.ok (.int (if qb=AB then n else 0:Nat)) []
def zdz(k:Nat){pr:Prop}{qb:Bool}{deed:PV}{w n na:Nat}{rs:List Rw}(D:ycy pr qb deed w n na rs)(hw:w<=16)(hn:n<=8){x y:Int}(x0:0<=x)(x1:x<2^(w*n))(y0:0<=y)(y1:y<2^(w*n))(hp:y≠0->pr)(hq:y=0->qb=AC)(st:SO):
  yd T (21+k) yiL [deed,.int w,.int n,.int x,.int y] st=.ok .non st:=by
 have hT:T yiL=AA ygX:=rfl;have hnl:nLs [deed,.int w,.int n,.int x,.int y]=true:=by simp[nLs,D.nl,nL]
 have e1:=zap D.isd k;have e3:∀s,yd T (20+k) yh6 [.int x,.int w,.int n] s=.ok (.tp AC ((yh (2^w) n x).map .int)) s:=λs=>by rw[show 20+k=18+k+2 by lia];exact zgc (18+k) x w n hw hn x0 x1 s
 have e4:∀s,yd T (20+k) yh6 [.int y,.int w,.int n] s=.ok (.tp AC ((yh (2^w) n y).map .int)) s:=λs=>by rw[show 20+k=18+k+2 by lia];exact zgc (18+k) y w n hw hn y0 y1 s
 rw[show 21+k=20+k+1 by lia,zc hT rfl rfl hnl];have q:=D.quo []
 cases hi:idxV [] deed (.int 0)with
 |none=>rw[hi]at q;cases q
 |some v=>
  rw[hi,Bj]at q;generalize yh (2^w) n x=xs,yh (2^w) n y=ys at *
  cases hy:(y==0)with
  |true=>
   rw[hq (by simpa using hy)]at q;simp! [ygX,e1,e3,e4,hy,hi,q];rfl
  |false=>
   have e2:=zap (D.isp (hp (by intro h;rw[h]at hy;exact absurd hy ⋯))) k;simp! [ygX,e1,e2,e3,e4,hy];rfl
theorem ran(k:Nat){pr:Prop}{qb:Bool}{deed:PV}{w n na:Nat}{rs:List Rw}(D:ycy pr qb deed w n na rs)(hw:w<=16)(hw1:1<=w)(hn:n<=4)(hna:na<=8)(hrs:rs.length<5000){x y:Int}(x0:0<=x)(x1:x<2^(w*n))(y0:0<=y)(y1:y<2^(w*n))(hp:y≠0->pr)(hq:y=0->qb=AC)(hh:ybi (2^w) rs (yaq (2^w) n x y) 0)(st:SO):
  yd T (22+k) yh8 [deed,.int w,.int n,.int x,.int y] st=.ok (.tp AC [.tp AC ((getM (yD (2^w) rs (yaq (2^w) n x y) 0).1 99 0 na).map .int),.tp AC ((getM (yD (2^w) rs (yaq (2^w) n x y) 0).1 100 0 (if qb=AB then n else 0)).map .int),.tp AC ((getM (yD (2^w) rs (yaq (2^w) n x y) 0).1 109 0 4).map .int)]) st:=by
 have hT:T yh8=AA ⟨5,7,AB,yb7.body⟩:=rfl;have hnl:nLs [deed,.int w,.int n,.int x,.int y]=true:=by simp[nLs,D.nl,nL]
 have e1:=zdz k D hw ∅ x0 x1 y0 y1 hp hq [];let⟨s2,m,l,_,_,h2,_,e2⟩:=ze6 (11+k) w n hw ∅ x y [];have e2:yd T (21+k) yiO [.int w,.int n,.int x,.int y] []=.ok (.loc m) s2:=by rw[show 21+k=10+(11+k)by lia];exact e2
 have nl3:nLs [deed,.int w,.int n]=true:=by simp[nLs,D.nl,nL]
 have nl2:nLs [deed,.int n]=true:=by simp[nLs,D.nl,nL]
 have up:∀{f:Nat} {fn:IC.Fn} {args:List PV} {v:PV},T f=AA fn->fn.pure=AB->args.length=fn.np->nLs args=AB->yd T 20 f args []=.ok v []->∀s,yd T (21+k) f args s=.ok v s:=λ{f fn args v} a b c d e s=>by
  have:=zap e (1+k);rw[show 20+(1+k)=20+k+1 by lia]at this;rw[show 21+k=20+k+1 by lia];exact zbL a b c d this s
 have e3:=up (f:=yh5) (fn:=ygx) rfl rfl rfl nl3 D.rows s2;let⟨s4,h4,_,_,e4⟩:=zkb (14+k) (n:=w) ∅ hw1 h2 (rs:=rs) ∅ hh (λr hr=>by
  have:=zap (D.ref r hr) k;rw[show 20+k=14+k+6 by lia]at this;exact this)
 have e4:yd T (21+k) yiI [.loc m,.tp AC (rs.map yV)] s2=.ok .non s4:=by rw[show 21+k=14+k+7 by lia];exact e4
 have e5:=up (f:=yn) (fn:=yA) rfl rfl rfl nl2 D.ans s4;have e6:=up (f:=yhe) (fn:=ye3) rfl rfl rfl nl2 D.rest s4;have n1:yd T (21+k) yhh [.loc m,.str ⟨#[99]⟩,.int na] s4=.ok (.tp AC ((getM (yD (2^w) rs (yaq (2^w) n x y) 0).1 99 0 na).map .int)) s4:=by
  have:=zdf (11+k) h4 (c:=99) (by simp) na hna;rw[show 10+(11+k)=21+k by lia]at this;exact this
 have n2:yd T (21+k) yhh [.loc m,.str ⟨#[100]⟩,.int (if qb=AB then n else 0:Nat)] s4=.ok (.tp AC ((getM (yD (2^w) rs (yaq (2^w) n x y) 0).1 100 0 (if qb=AB then n else 0)).map .int)) s4:=by
  have:=zdf (11+k) h4 (c:=100) (by simp) (if qb=AB then n else 0) (by split<;>lia);rw[show 10+(11+k)=21+k by lia]at this;exact this
 have n3:yd T (21+k) yhh [.loc m,.str ⟨#[109]⟩,.int 4] s4=.ok (.tp AC ((getM (yD (2^w) rs (yaq (2^w) n x y) 0).1 109 0 4).map .int)) s4:=by
  have:=zdf (11+k) h4 (c:=109) (by simp) 4 ∅;rw[show 10+(11+k)=21+k by lia]at this;exact this
 have ih:=h2.ins (AE "run");have cC:(AE "c")=⟨#[99]⟩:=by ac_rfl
 have cD:(AE "d")=⟨#[100]⟩:=by ac_rfl
 have cE:(AE "m")=⟨#[109]⟩:=by ac_rfl
 have vM:yiZ=.int 4:=rfl;rw[show 22+k=21+k+1 by lia,zc hT rfl rfl hnl];dsimp only;generalize rs.map yV=rows,getM (yD (2^w) rs (yaq (2^w) n x y) 0).1 99 0 na=A,getM (yD (2^w) rs (yaq (2^w) n x y) 0).1 109 0 4=B,getM (yD (2^w) rs (yaq (2^w) n x y) 0).1 100 0 (if qb=AB then n else 0)=C at *;generalize (if qb=AB then n else 0)=nr at *;simp! [yb7,e1,e2,ih,e3,e4,e5,e6,cC,cD,cE,vM,n1,n2,n3,IC.ve37];simp[ybk,nL,nLs,noLocs_ints]
theorem letters:((Cb 26).all λj=>isOk (yd T 2 yio [.str (chS (97+j))] []) (.bl AB))=true:=by decide +kernel
def zgO(k:Nat){c:Nat}(h1:97<=c)(h2:c<=122)(s:SO):yd T (k+2) yio [.str (chS c)] s=.ok (.bl AB) s:=by
 have h:=Bl.1 letters (c-97) (by simp;lia);rw[show 97+(c-97)=c by lia]at h;have h:=zap (zbK h) k;rw[show 2+k=k+1+1 by lia]at h;exact zbL (f:=yio) (fn:=yij) rfl rfl rfl rfl h s
def zff(k:Nat){i a b:Int}(h1:a<=i)(h2:i<=b)(s:SO):yd T (k+1) yhc [.int i,.int a,.int b] s=.ok (.bl AB) s:=by
 have hT:T yhc=AA yey:=rfl;have e1:yaM (.int i) [.int]=AA (.bl AB):=rfl;have e2:yaM (.int i) [.bool]=AA (.bl AC):=rfl;have c1:decide (a<=i)=true:=decide_eq_true h1;have c2:decide (i<=b)=true:=decide_eq_true h2;rw[zc hT rfl rfl rfl];simp! [yey,e1,e2,c1,c2,IC.ve9];rfl
def zjU(k:Nat){x:Cel}(h1:97<=x.1)(h2:x.1<=122)(h3:0<=x.2)(h4:x.2<=99)(s:SO):yd T (k+4) yjR [yI x] s=.ok (.bl AB) s:=by
 have hT:T yjR=AA yhr:=rfl;have hT2:T yjS=AA yhs:=rfl;have el:∀s,yd T (k+3) yjS [yI x] s=.ok (.bl AB) s:=λs=>by
  have e:=λs=>zgO k h1 h2 s;rw[zc hT2 rfl rfl rfl];have e1:yaM (yI x) [.tuple]=AA (.bl AB):=rfl;have e2:∀st,yaj .len st [yI x]=AA (.int 2):=λ_=>rfl;have e3:∀st,idxV st (yI x) (.int 0)=AA (.str (chS x.1)):=λ_=>rfl;generalize yI x=v at *;simp! [yhs,e1,e2,e3,e];rfl
 have ew:=λs=>zff (k+2) h3 h4 s;have e3:∀st,idxV st (yI x) (.int 1)=AA (.int x.2):=λ_=>rfl;rw[zc hT rfl rfl rfl];generalize yI x=v at *;simp! [yhr,el,e3,ew];rfl
abbrev kC:PV:=.str "cell"
abbrev kF:PV:=.str "figure"
def zlq(k:Nat){x:Cel}(h1:97<=x.1)(h2:x.1<=122)(h3:0<=x.2)(h4:x.2<=99)(s:SO):yd T (k+5) ym [kC,yI x,.bl AC] s=.ok (.bl AB) s:=by
 have hT:T ym=AA ye2:=rfl;have e:=λs=>zjU k h1 h2 h3 h4 s;have c:yG .eq kC kF=AA (.bl AC):=by ac_rfl
 have hnl:nLs [kC,yI x,.bl AC]=true:=rfl;rw[zc hT rfl rfl hnl];generalize yI x=v at *;simp! [ye2,c,e];rfl
def zk4(k:Nat){d:Int}(h1:0<=d)(h2:d<=1)(s:SO):yd T (k+5) ym [kF,.int d,.bl AC] s=.ok (.bl AB) s:=by
 have hT:T ym=AA ye2:=rfl;have e:=λs=>zff (k+3) h1 h2 s;have c:yG .eq kF kF=AA (.bl AB):=by ac_rfl
 rw[zc hT rfl rfl rfl];simp! [ye2,c,e];rfl
def hfB:Css:=match yR.body with
 |.cons _ (.cons (.for _ _ b) _)=>b
 |x=>x
def ziG(k:Nat){p0 p1:PV}(hp1:p1=.bl AC){st:SO}:∀(l:List (PV×PV)) (p2 p3:Option PV),(∀x∈l,∀s,yd T k ym [x.1,x.2,.bl AC] s=.ok (.bl AB) s) ->
  ∃q2 q3,yaX (yd T k) (.t [2,3]) hfB (l.map λx=>.tp AC [x.1,x.2]) [AA p0,AA p1,p2,p3] st=.nx [AA p0,AA p1,q2,q3] st
 |[],p2,p3,_=>⟨p2,p3,zF⟩
 |(a,b)::l,p2,p3,h=>by
  subst hp1;let⟨q2,q3,e⟩:=ziG k (p0:=p0) rfl (st:=st) l (AA a) (AA b) (λx hx=>h x (by simp[hx]));refine⟨q2,q3,?_⟩;have e1:=h (a,b) (by simp) st;have one:exs (yd T k) [AA p0,AA (.bl AC),AA a,AA b] st hfB=.nx [AA p0,AA (.bl AC),AA a,AA b] st:=by
   simp only at e1;simp! [hfB,yR,e1]
  rw[AL,zx (ρ1:=[AA p0,AA (.bl AC),AA a,AA b]) rfl,one];exact e
def ziY(k:Nat){nm:AQ}{ops:List PV}(ho:nLs ops=AB)(hl:0<(.str nm::ops:List PV).length)(hd:yco ybK (.str nm)=AA (.bl AB))(s:SO):yd T (k+1) yiq [.tp AC (.str nm::ops)] s=.ok (.bl AB) s:=by
 have hT:T yiq=AA yhq:=rfl;have hnl:nLs [.tp AC (.str nm::ops)]=true:=by simp[nLs,nL,ho]
 have e1:yaM (.tp AC (.str nm::ops)) [.tuple]=AA (.bl AB):=rfl;have e2:∀st,yaj .len st [.tp AC (.str nm::ops)]=AA (.int ((.str nm::ops:List PV).length:Nat)):=λ_=>rfl;have e3:∀st,idxV st (.tp AC (.str nm::ops)) (.int 0)=AA (.str nm):=λ_=>ix0;have e4:yaM (.str nm) [.str]=AA (.bl AB):=rfl;have c:decide (((.str nm::ops:List PV).length:Int) > 0)=true:=decide_eq_true ∅;rw[zc hT rfl rfl hnl];generalize (PV.str nm::ops).length=L,PV.tp AC (.str nm::ops)=v at *;simp! [yhq,e1,e2,e3,e4,c,hd,IC.ve29];rfl
def zgA:∀l:List (PV×PV),yaQ (l.map (·.1)) (l.map (·.2))=l.map λx=>.tp AC [x.1,x.2]
 |[]=>rfl
 |(a,b)::l=>by erw[AL,yaQ,zgA l,PV.tup]
def ziQ(k:Nat){nm:AQ}(l:List (PV×PV))(hd:yco ybK (.str nm)=AA (.bl AB))(hr:ycx ybK (.str nm)=AA (.tp AB (l.map (·.1))))(ho:∀x∈l,∀s,yd T (k+1) ym [x.1,x.2,.bl AC] s=.ok (.bl AB) s)(hnl:nLs (l.map (·.2))=AB)
  (ht:yG .ne (.str nm) (.str "times")=AA (.bl AB)) (s:SO):yd T (k+2) yip [.tp AC (.str nm::l.map (·.2)),.bl AC] s=.ok (.bl AB) s:=by
 have hT:T yip=AA yR:=rfl;have hn2:nLs [.tp AC (.str nm::l.map (·.2)),.bl AC]=true:=by simp[nLs,nL,hnl]
 have e0:∀st,yd T (k+1) yiq [.tp AC (.str nm::l.map (·.2))] st=.ok (.bl AB) st:=λst=>ziY k hnl (by simp) hd st;have e1:∀st,yaj .len st [.tp AC (.str nm::l.map (·.2))]=AA (.int ((l.length+1:Nat):Int)):=λst=>by
  show AA (PV.int (((PV.str nm::l.map (·.2)).length:Nat):Int))=_;simp
 have e2:∀st,idxV st (.tp AC (.str nm::l.map (·.2))) (.int 0)=AA (.str nm):=λ_=>ix0;have e3:∀st,yaj .len st [.tp AB (l.map (·.1))]=AA (.int (l.length:Nat)):=λst=>by
  show AA (PV.int (((l.map (·.1)).length:Nat):Int))=_;simp
 have c1:((((l.length+1:Nat):Int)==(l.length:Int)+1):Bool)=true:=by simp
 have o1:yb5 (.int 1)=AA (AA 1):=rfl;have e5:ycS (.tp AC (.str nm::l.map (·.2))) (AA 1) .non=AA (.tp AC (l.map (·.2))):=by
  have hc:ybj (l.length+1) 1=1:=by simp[ybj]
  erw[ycS,yb5,ycu,cut,ycI,yc4,AS,BH,hc,List.drop_succ_cons,Gp]
  first
  |(rw[FB (by simp)];done)
  |(simp;done)
  |(simp[FB])
 have e6:ydV (.tp AB (l.map (·.1))) (.tp AC (l.map (·.2)))=AA (l.map λx=>.tp AC [x.1,x.2]):=by
  simp[ydV,zgA]
 let⟨q2,q3,e7⟩:=ziG (k+1) (p0:=.tp AC (.str nm::l.map (·.2))) (p1:=.bl AC) rfl (st:=[]) l AD AD ho
 have hb:yR.body=(match yR.body with
  |.cons a (.cons (.for t i _) r)=>.cons a (.cons (.for t i hfB) r)
  |x=>x):=rfl
 rw[zc hT rfl rfl hn2];rw[hb];generalize hv:PV.tp AC (.str nm::l.map (·.2))=v,hz:(l.map λx=>PV.tp AC [x.1,x.2])=zs,PV.tp AB (l.map (·.1))=ks at *;simp! [yR,e0,e1,e2,hr,e3,c1,e5,e6,e7,ht,o1,onP];rfl
def yX(x:Cel):Prop:=97<=x.1/\x.1<=122/\0<=x.2/\x.2<=99
def yaN:Rw->Prop
 |.mark d=>0<=d/\d<=1
 |.ask x=>yX x
 |.set t d=>yX t/\0<=d/\d<=1
 |.move t x | .bare t x | .twice t x | .half t x=>yX t/\yX x
 |.sum t x y | .less t x y | .both t x y | .any t x y | .odd t x y=>yX t/\yX x/\yX y
def zbV{r:PV}{nm:AQ}(l:List (PV×PV))(hr:r=.tp AC (.str nm::l.map (·.2)))(hd:yco ybK (.str nm)=AA (.bl AB))(hx:ycx ybK (.str nm)=AA (.tp AB (l.map (·.1))))(ho:∀x∈l,∀k s,yd T (k+5) ym [x.1,x.2,.bl AC] s=.ok (.bl AB) s)(hnl:nLs (l.map (·.2))=AB)
  (ht:yG .ne (.str nm) (.str "times")=AA (.bl AB)):ybt r:=λk s=>by
 have hT:T ye7=AA yhp:=rfl;have e:∀s,yd T (9+k) yip [r,.bl AC] s=.ok (.bl AB) s:=λs=>by
  subst hr;rw[show 9+k=7+k+2 by lia];exact ziQ (7+k) l hd hx (λx hx s=>by rw[show 7+k+1=3+k+5 by lia];exact ho x hx (3+k) s) hnl ht s
 have hn2:nLs [r]=true:=by subst hr;simp[nLs,nL,hnl]
 rw[show 10+k=9+k+1 by lia,zc hT rfl rfl hn2];simp! [yhp,e];rfl
theorem oC{x:Cel}(h:yX x)(k:Nat)(s:SO):yd T (k+5) ym [kC,yI x,.bl AC] s=.ok (.bl AB) s:=zlq k h.1 h.2.1 h.2.2.1 h.2.2.2 s
def zq3{nm:AQ}{x:Cel}(h:yX x)(hd:yco ybK (.str nm)=AA (.bl AB))(hx:ycx ybK (.str nm)=AA (.tp AB [kC]))(ht:yG .ne (.str nm) (.str "times")=AA (.bl AB)):ybt (.tp AC [.str nm,yI x]):=
 zbV [(kC,yI x)] rfl hd hx (λa ha=>by erw[AT,Ad,or_false]at ha;subst ha;exact oC h) rfl ht
theorem row2{nm:AQ}{t x:Cel}(h0:yX t)(h:yX x)(hd:yco ybK (.str nm)=AA (.bl AB))(hx:ycx ybK (.str nm)=AA (.tp AB [kC,kC]))(ht:yG .ne (.str nm) (.str "times")=AA (.bl AB)):ybt (.tp AC [.str nm,yI t,yI x]):=
 zbV [(kC,yI t),(kC,yI x)] rfl hd hx (λa ha=>by erw[AT,Ad,or_false]at ha;rcases ha with rfl|rfl;exact oC h0;exact oC h) rfl ht
def zlD{nm:AQ}{t x y:Cel}(h0:yX t)(h:yX x)(h2:yX y)(hd:yco ybK (.str nm)=AA (.bl AB))(hx:ycx ybK (.str nm)=AA (.tp AB [kC,kC,kC]))(ht:yG .ne (.str nm) (.str "times")=AA (.bl AB)):ybt (.tp AC [.str nm,yI t,yI x,yI y]):=
 zbV [(kC,yI t),(kC,yI x),(kC,yI y)] rfl hd hx (λa ha=>by erw[AT,Ad,or_false]at ha;rcases ha with rfl|rfl|rfl;exact oC h0;exact oC h;exact oC h2) rfl ht
def zgy:∀r,yaN r->ybt (yV r)
 |.mark d,h=>zbV [(kF,.int d)] rfl (by ac_rfl) (by ac_rfl) (λa ha=>by erw[AT,Ad,or_false]at ha;subst ha;exact λk s=>zk4 k h.1 h.2 s) rfl (by ac_rfl)
 |.ask x,h=>zq3 h (by ac_rfl) (by ac_rfl) (by ac_rfl)
 |.set t d,h=>zbV [(kC,yI t),(kF,.int d)] rfl (by ac_rfl) (by ac_rfl) (λa ha=>by erw[AT,Ad,or_false]at ha;rcases ha with rfl|rfl;exact oC h.1;exact λk s=>zk4 k h.2.1 h.2.2 s) rfl (by ac_rfl)
 |.move t x,h=>row2 h.1 h.2 (by ac_rfl) (by ac_rfl) (by ac_rfl)
 |.bare t x,h=>row2 h.1 h.2 (by ac_rfl) (by ac_rfl) (by ac_rfl)
 |.twice t x,h=>row2 h.1 h.2 (by ac_rfl) (by ac_rfl) (by ac_rfl)
 |.half t x,h=>row2 h.1 h.2 (by ac_rfl) (by ac_rfl) (by ac_rfl)
 |.sum t x y,h=>zlD h.1 h.2.1 h.2.2 (by ac_rfl) (by ac_rfl) (by ac_rfl)
 |.less t x y,h=>zlD h.1 h.2.1 h.2.2 (by ac_rfl) (by ac_rfl) (by ac_rfl)
 |.both t x y,h=>zlD h.1 h.2.1 h.2.2 (by ac_rfl) (by ac_rfl) (by ac_rfl)
 |.any t x y,h=>zlD h.1 h.2.1 h.2.2 (by ac_rfl) (by ac_rfl) (by ac_rfl)
 |.odd t x y,h=>zlD h.1 h.2.1 h.2.2 (by ac_rfl) (by ac_rfl) (by ac_rfl)
def zmj{v:PV}(hn:nL v=AB)(h:ybt v)(k:Nat)(s:SO):yd T (11+k) yfi [v] s=.ok .non s:=by
 have hT:T yfi=AA ygO:=rfl;have e:=λs=>h k s;rw[show 11+k=10+k+1 by lia,zc hT rfl rfl (by simp[nLs,hn])];simp! [ygO,e];rfl
def ybR(W:Int)(M:Mem):Prop:=∀c i,0<=M c i/\M c i<W
def rwD:Rw->Prop
 |.mark d | .set _ d=>0<=d/\d<=1
 |_=>True
def zbg{W:Int}{M:Mem}(h:ybR W M){t:Cel}{v:Int}(h0:0<=v)(h1:v<W):ybR W (wr M t v):=λc i=>by
 erw[wr,upd];split
 .exact⟨h0,h1⟩
 .exact h c i
def zjb{W s:Int}(hW:0<W)(h0:0<=s)(h1:s<2*W):(0<=s%W/\s%W<W)/\0<=s/W/\s/W<=1:=
 ⟨⟨As _ ∅,Ai _ hW⟩,Be h0 ∅,by have:=Bb hW (show s<2*W from h1);lia⟩
def zf2{w:Nat}(hw:1<=w){M:Mem}{k:Int}(h:ybR (2^w) M)(k0:0<=k)(k1:k<=1):∀r,rwD r->ybR (2^w) (stepM (2^w) M k r).1/\0<=(stepM (2^w) M k r).2/\(stepM (2^w) M k r).2<=1:=by
 obtain⟨H,hH⟩:∃H:Int,(2:Int)^w=2*H:=⟨2^(w-1),by obtain⟨v,rfl⟩:∃v,w=v+1:=⟨w-1,by lia⟩;rw[Ae,Af];rfl⟩;have hW:(0:Int)<2^w:=A7 ∅;have R:∀x:Cel,0<=rd M x/\rd M x<2^w:=λx=>h x.1 x.2;intro r hr
 cases r with
 |mark d=>exact⟨h,hr⟩
 |ask x=>exact⟨h,zdP _⟩
 |set t d=>exact⟨zbg h hr.1 (by have:=hr.2;lia),k0,k1⟩
 |move t x=>exact⟨zbg h (R x).1 (R x).2,k0,k1⟩
 |bare t x=>exact⟨zbg h (by have:=(R x).2;lia) (by have:=(R x).1;lia),k0,k1⟩
 |twice t x=>
  let⟨a,b⟩:=zjb hW (s:=2*rd M x+k) (by have:=(R x).1;lia) (by have:=(R x).2;lia);exact⟨zbg h a.1 a.2,b⟩
 |half t x=>
  let⟨a,b⟩:=R x;have e:(2:Int)^w/2=H:=by lia
  refine⟨zbg h ?_ ?_,by show 0<=rd M x%2;lia,by show rd M x%2<=1;lia⟩
  .rw[e];rcases (by lia:k=0 \/ k=1)with rfl|rfl<;>lia
  .rw[e];rcases (by lia:k=0 \/ k=1)with rfl|rfl<;>lia
 |sum t x y=>
  let⟨a,b⟩:=zjb hW (s:=rd M x+rd M y+k) (by have:=(R x).1;have:=(R y).1;lia) (by have:=(R x).2;have:=(R y).2;lia);exact⟨zbg h a.1 a.2,b⟩
 |less t x y=>exact⟨zbg h (As _ ∅) (Ai _ hW),zdP _⟩
 |both t x y=>
  let⟨a,b⟩:=zm6 (w:=w) (R x).1 (R y).1 (R y).2;exact⟨zbg h a b,k0,k1⟩
 |any t x y=>
  let⟨a,b⟩:=zpj (w:=w) (R x).1 (R x).2 (R y).1 (R y).2;exact⟨zbg h a b,k0,k1⟩
 |odd t x y=>
  let⟨a,b⟩:=zoC (w:=w) (R x).1 (R x).2 (R y).1 (R y).2;exact⟨zbg h a b,k0,k1⟩
def zew{w:Nat}(hw:1<=w):∀(rs:List Rw) (M:Mem) (k:Int),(∀r∈rs,rwD r)->ybR (2^w) M->0<=k->k<=1->ybi (2^w) rs M k
 |[],M,k,_,h,_,_=>trivial
 |r::rs,M,k,hr,h,k0,k1=>by
  let⟨a,b,c⟩:=zf2 hw h k0 k1 r (hr r (by simp));exact⟨λt x _=>⟨(h x.1 x.2).1,(h x.1 x.2).2,k0,by lia⟩,zew hw rs _ _ (λx hx=>hr x (by simp[hx])) a b c⟩
def zez{W:Int}(c:Nat):∀(ws:List Int) (i:Nat) (M:Mem),(∀v∈ws,0<=v/\v<W)->ybR W M->ybR W (yaG c i ws M)
 |[],i,M,_,h=>h
 |v::ws,i,M,hv,h=>zez c ws (i+1) _ (λu hu=>hv u (by simp[hu])) (zbg (t:=(c,(i:Int))) h (hv v (by simp)).1 (hv v (by simp)).2)
def zfJ{w:Nat}(hw:1<=w):∀(rs:List Rw) (M:Mem) (k:Int),(∀r∈rs,rwD r)->ybR (2^w) M->0<=k->k<=1->ybR (2^w) (yD (2^w) rs M k).1
 |[],M,k,_,h,_,_=>h
 |r::rs,M,k,hr,h,k0,k1=>by
  let⟨a,b,c⟩:=zf2 hw h k0 k1 r (hr r (by simp));exact zfJ hw rs _ _ (λx hx=>hr x (by simp[hx])) a b c
def zme{W:Int}(hW:0<W)(n:Nat)(x y:Int):ybR W (yaq W n x y):=
 zez 98 _ _ _ (zaF hW n y) (zez 97 _ _ _ (zaF hW n x) λ_ _=>⟨by simp[M0],by simpa [M0] using hW⟩)
def sgd(T x:Int):Int:=if T<=2*x then x-T else x
def ya9(T s:Int):Bool:=decide (0-T<=2*s)&&decide (2*s<T)
structure Shf(W:Int)(n:Nat)(M0 M:Mem)(v:Int):Prop where
 dg:Dg W M 99 n
 val:yx W M 99 n=v
 keep:∀d j,d≠99->d≠116->M d j=M0 d j
def cx(l:Nat)(c i j m:Int):Op:=.cel ⟨l,c,i,j,m⟩
def rS(nm:String)(ops:List Op):Rs:=⟨AE nm,ops⟩
def oZ:Op:=cx 122 0 0 0 0
def oS:Op:=cx 115 0 0 0 0
def oT:Op:=cx 116 0 0 0 0
def oM(i:Int):Op:=cx 109 i 0 0 0
def ycs(c m:Int):List T1:=[.row (rS "set" [oS,.fig 0]),.rounds c m 0 [.row (rS "any" [oS,oS,cx 99 0 1 0 0])],.row (rS "ask" [oS]),.row (rS "set" [oM 2,.fig 1]),.row (rS "less" [oM 2,oM 2,oZ]),.row (rS "twice" [oT,cx 99 (c-1) 0 0 m]),.row (rS "sum" [oM 3,oZ,oZ])]
def zej{g:Nat->List PV}{f:Int->Rw}(h:∀I:Nat,g I=[yV (f I)]):∀n,upTo g n=(yS f n).map yV
 |0=>rfl
 |n+1=>by rw[upTo,yS,zej h n,h n,CU];rfl
def zdh(w:Int)(n:Nat):cnt 0 1 0 w n=n:=by simp[cnt]
def znQ(I:Nat)(n:Int):(rS "any" [oS,oS,cx 99 0 1 0 0]).pv I 0 n=yV (.any cS cS (99,I)):=by simp[Rs.pv,rS,Op.pv,oS,cx,Cx.at,yV,yI]
def zkK(w:Int)(n:Nat):yK w n (ycs 0 1)=(yN n).map yV:=by
 have h:=zej (g:=λI=>yan w n I [.row (rS "any" [oS,oS,cx 99 0 1 0 0])]) (f:=λi=>.any cS cS (99,i)) (λI=>by simp[yan,T2.rows,znQ]) n;erw[yK,ycs,CB,Cv,T1.rows,zdh,h,yN,CU,AL,Ar,BR];simp[Rs.pv,rS,Op.pv,oS,oT,oZ,oM,cx,Cx.at,yV,yI,Int.sub_eq_add_neg,Ct]
def zdy(w n:Int)(a b:List T1):yK w n (a++b)=yK w n a++yK w n b:=by simp[yK]
def zc7(f:Int->Rw)(m:Nat):(yS f m).length=m:=by
 induction m with
 |zero=>rfl
 |succ m ih=>simp[yS,ih]
def znt{W:Int}(M:Mem)(k:Int)(hS:0<=M 115 0):∀n,(∀i:Nat,i<n->0<=M 98 i) ->
  (yD W (upTo (λi=>[Rw.any cS cS (98,i)]) n) M k).2=k/\(∀d j,d≠115->(yD W (upTo (λi=>[Rw.any cS cS (98,i)]) n) M k).1 d j=M d j)/\0<=(yD W (upTo (λi=>[Rw.any cS cS (98,i)]) n) M k).1 115 0/\((yD W (upTo (λi=>[Rw.any cS cS (98,i)]) n) M k).1 115 0=0 ↔ M 115 0=0/\∀i:Nat,i<n->M 98 i=0)
 |0,_=>⟨rfl,λ_ _ _=>rfl,hS,by simp[upTo,yD]⟩
 |n+1,h=>by
  let⟨h1,h2,h3,h4⟩:=znt (W:=W) M k hS n λi hi=>h i ∅;rw[upTo,zl];generalize yD W (upTo (λi=>[Rw.any cS cS (98,i)]) n) M k=R at *;let⟨M1,k'⟩:=R;simp only at *;have hb:=h n ∅;erw[yD,stepM,rd,wr,cS,h2 98 n ⋯];have hz:=zhF h3 hb;refine⟨h1,λd j hd=>?_,?_,?_⟩
  .unfold upd;rw[if_neg ∅,h2 d j hd]
  .unfold upd;rw[if_pos ⟨rfl,rfl⟩];obtain⟨x,hx⟩:∃x:Nat,M1 115 0=x:=⟨(M1 115 0).toNat,by lia⟩;obtain⟨y,hy⟩:∃y:Nat,M 98 n=y:=⟨(M 98 n).toNat,by lia⟩;rw[hx,hy,zc8];lia
  .unfold upd;rw[if_pos ⟨rfl,rfl⟩,hz,h4];constructor
   .rintro⟨⟨a,b⟩,c⟩
    refine⟨a,λi hi=>?_⟩;rcases CZ i n with z|z
    .exact b i z
    .rw[show i=n by lia];exact c
   .rintro⟨a,b⟩
    exact⟨⟨a,λi hi=>b i ∅⟩,b n ∅⟩
def nR(n:Nat):List Rw:=[.set cS 0]++upTo (λi=>[Rw.any cS cS (98,i)]) n++[.ask cS,.set (109,0) 1,.less (109,0) (109,0) cZ]
def zkT{w:Nat}(hw:1<w)(n:Nat)(M:Mem)(k:Int)(hz:M 122 0=0)(hb:∀i:Nat,i<n->0<=M 98 i):
  ((∀i:Nat,i<n->M 98 i=0)->(yD (2^w) (nR n) M k).1 109 0=1)/\((¬ ∀i:Nat,i<n->M 98 i=0)->(yD (2^w) (nR n) M k).1 109 0=0):=by
 have hW4:(4:Int)<=2^w:=by
  have h:(2:Nat)^2<=2^w:=Ac ∅ ∅;have h2:=pw w;lia
 have hst:stepM (2^w) M k (.set cS 0)=(wr M cS 0,k):=rfl;have e:nR n=.set cS 0::(upTo (λi=>[Rw.any cS cS (98,i)]) n++[.ask cS,.set (109,0) 1,.less (109,0) (109,0) cZ]):=by simp[nR]
 have u1:wr M cS 0 115 0=0:=by simp[wr,upd]
 have u2:∀(d:Nat) (j:Int),d≠115->wr M cS 0 d j=M d j:=λd j hd=>by
  erw[wr,upd];rw[if_neg (λz=>hd z.1)]
 let⟨h1,h2,h3,h4⟩:=znt (W:=2^w) (wr M cS 0) k (by rw[u1];lia) n (λi hi=>by rw[u2 _ _ ⋯];exact hb i hi);rw[e,zy,hst,zl];simp only at h1 h2 h3 h4 ⊢;generalize yD (2^w) (upTo (λi=>[Rw.any cS cS (98,i)]) n) (wr M cS 0) k=R at *;let⟨M1,k'⟩:=R;simp only at *;have hz1:M1 122 0=0:=by rw[h2 _ _ ⋯,u2 _ _ ⋯,hz]
 have h5:M1 115 0=0 ↔ ∀i:Nat,i<n->M 98 i=0:=by
  rw[h4,u1];constructor
  .rintro⟨_,a⟩ i hi
   rw[<-u2 98 i ⋯];exact a i hi
  .intro a;exact⟨rfl,λi hi=>by rw[u2 _ _ ⋯];exact a i hi⟩
 rw[<-h5];erw[yD,stepM,rd,wr,upd,cS,cZ,El,false_and,if_false,and_self,if_true,hz1];constructor
 .intro a;rw[a];show (1-0-0)%(2^w:Int)=1;exact A6 ∅ ∅
 .intro a;have:(M1 115 0==0)=false:=by simpa using a
  rw[this];show (1-0-1)%(2^w:Int)=0;rfl
def zbw{W:Int}(hW:0<W){s:Int}(s0:0<=s)(s1:s<2*W):0<=s%W/\s%W<W/\0<=s/W/\s/W<=1/\s%W+s/W*W=s:=by
 have d1:=As s (show W≠0 by lia);have d2:=Ai s hW;have d3:=BX s W;have d4:0<=s/W:=Be s0 ∅;have d5:s/W<2:=Bb hW ∅;rw[Af]at d3;exact⟨d1,d2,d4,by lia,d3⟩
def zcp{W:Int}{M:Mem}{c n:Nat}{v:Int}:yx W (upd M c n v) c (n+1)=yx W M c n+v*W^n:=by
 rw[yx,zd (M':=M) (c':=c) n λi hi=>by unfold upd;rw[if_neg ∅]];unfold upd;rw[if_pos ⟨rfl,rfl⟩]
def zdQ{W:Int}{M:Mem}{c n:Nat}{v:Int}(h:Dg W M c n)(v0:0<=v)(v1:v<W):Dg W (upd M c n v) c (n+1):=λi hi=>by
 unfold upd
 by_cases hin:i=n
 .subst hin;rw[if_pos ⟨rfl,rfl⟩];exact⟨v0,v1⟩
 .rw[if_neg ∅];exact h i ∅
def twR(c n:Nat):List Rw:=upTo (λJ=>[Rw.twice (c,(J:Int)) (c,(J:Int))]) n
def zeH{W:Int}(hW:2<=W)(c:Nat)(M:Mem)(k:Int)(k0:0<=k)(k1:k<=1):∀n,Dg W M c n->∃M' k',yD W (twR c n) M k=(M',k')/\(∀d j,(d≠c \/ (n:Int)<=j)->M' d j=M d j)/\Dg W M' c n/\0<=k'/\k'<=1/\yx W M' c n+k' * W^n=2*yx W M c n+k
 |0,_=>⟨M,k,rfl,λ_ _ _=>rfl,λi hi=>by lia,k0,k1,by simp[yx]⟩
 |n+1,ha=>by
  let⟨M1,k',e1,h1,h2,h3,h4,h5⟩:=zeH hW c M k k0 k1 n ha.mono;let⟨a0,a1⟩:=ha n ∅;let⟨d1,d2,d3,d4,d5⟩:=zbw (W:=W) ∅ (s:=2*M c n+k') ∅ ∅;refine⟨upd M1 c n ((2*M c n+k')%W),(2*M c n+k')/W,?_,λd j hd=>?_,zdQ h2 d1 d2,d3,d4,?_⟩
  .rw[twR,upTo,zl];show yD W [Rw.twice (c,(n:Int)) (c,(n:Int))] (yD W (twR c n) M k).1 (yD W (twR c n) M k).2=_;rw[e1];erw[yD,stepM,rd,wr,h1 c n (.inr ∅)]
  .unfold upd;rw[if_neg ∅,h1 d j ∅]
  .rw[zcp,yx,Ae];generalize W^n=P,(2*M c n+k')%W=u,(2*M c n+k')/W=t at *;generalize M c (n:Int)=A at *;have e3:(u+t*W)*P=(2*A+k')*P:=by rw[d5]
   rw[BQ,BQ,Am t W P,Af W P,Am 2 A P]at e3;generalize u*P=x1,t*(P*W)=x2,A*P=x3,k' * P=x4 at *;lia
def lsR(r y n:Nat):List Rw:=upTo (λJ=>[Rw.less (r,(J:Int)) (r,(J:Int)) (y,(J:Int))]) n
def zdk{W:Int}(hW:0<W){s:Int}(s0:-W<=s)(s1:s<W):0<=s%W/\s%W<W/\0<=bi (decide (s<0))/\bi (decide (s<0))<=1/\s%W-bi (decide (s<0))*W=s:=by
 have d1:=As s (show W≠0 by lia);have d2:=Ai s hW;refine⟨d1,d2,(zdP _).1,(zdP _).2,?_⟩
 by_cases hl:s<0
 .rw[decide_eq_true hl,<-DG];rw[A6 ∅ ∅];show s+W-1*W=s;lia
 .rw[decide_eq_false hl,A6 ∅ ∅];show s-0*W=s;lia
def zhH{W:Int}(hW:0<W){r y:Nat}(hry:y≠r)(M:Mem)(k:Int)(k0:0<=k)(k1:k<=1):∀n,Dg W M r n->Dg W M y n->∃M' k',yD W (lsR r y n) M k=(M',k')/\(∀d j,(d≠r \/ (n:Int)<=j)->M' d j=M d j)/\Dg W M' r n/\0<=k'/\k'<=1/\yx W M' r n-k' * W^n=yx W M r n-yx W M y n-k
 |0,_,_=>⟨M,k,rfl,λ_ _ _=>rfl,λi hi=>by lia,k0,k1,by simp[yx]⟩
 |n+1,ha,hb=>by
  let⟨M1,k',e1,h1,h2,h3,h4,h5⟩:=zhH hW hry M k k0 k1 n ha.mono hb.mono;let⟨a0,a1⟩:=ha n ∅;let⟨b0,b1⟩:=hb n ∅;let⟨d1,d2,d3,d4,d5⟩:=zdk (W:=W) hW (s:=M r n-M y n-k') ∅ ∅;refine⟨upd M1 r n ((M r n-M y n-k')%W),bi (decide (M r n-M y n-k' < 0)),?_,λd j hd=>?_,zdQ h2 d1 d2,d3,d4,?_⟩
  .rw[lsR,upTo,zl];show yD W [Rw.less (r,(n:Int)) (r,(n:Int)) (y,(n:Int))] (yD W (lsR r y n) M k).1 (yD W (lsR r y n) M k).2=_;rw[e1];erw[yD,stepM,rd,wr,h1 r n (.inr ∅),h1 y n (.inl hry)]
  .unfold upd;rw[if_neg ∅,h1 d j ∅]
  .rw[zcp,yx,yx,Ae];generalize W^n=P,(M r n-M y n-k')%W=u,bi (decide (M r n-M y n-k' < 0))=t at *;generalize M r (n:Int)=A,M y (n:Int)=B at *;have e3:(u-t*W)*P=(A-B-k')*P:=by rw[d5]
   rw[B3,B3,B3,Am t W P,Af W P]at e3;generalize u*P=x1,t*(P*W)=x2,A*P=x3,B*P=x5,k' * P=x4 at *;lia
abbrev cF:Cel:=(102,0)
def adR(r y n:Nat):List Rw:=upTo (λJ=>[Rw.both cT (y,(J:Int)) cF,Rw.sum (r,(J:Int)) (r,(J:Int)) cT]) n
def zhY{w:Nat}{A b:Int}(a0:0<=A)(a1:A<2^w)(hb:b=0 \/ b=1):Aw A (b*(2^w-1))=b*A:=by
 obtain⟨x,rfl⟩:∃n:Nat,A=n:=⟨A.toNat,by lia⟩;rcases hb with rfl|rfl
 .rw[Bv,Bv];have:=zfo x 0;simpa using this
 .rw[Bk,Bk];have hp:=pw w;have h1:(0:Nat)<2^w:=HV ∅;have h2:((2:Int)^w-1)=((2^w-1:Nat):Int):=by lia
  rw[h2,zfo,Bt,G2 ∅]
def zhG{w:Nat}(hw:1<=w){r y:Nat}(hry:y≠r)(hr:r≠116/\r≠102)(hy:y≠116)(M:Mem)(k b:Int)(k0:0<=k)(k1:k<=1)(hb:b=0 \/ b=1)(hf:M 102 0=b*(2^w-1)):∀n,Dg (2^w) M r n->Dg (2^w) M y n->∃M' k',yD (2^w) (adR r y n) M k=(M',k')/\(∀d j,d≠116->(d≠r \/ (n:Int)<=j)->M' d j=M d j)/\Dg (2^w) M' r n/\0<=k'/\k'<=1/\yx (2^w) M' r n+k' * (2^w)^n=yx (2^w) M r n+b*yx (2^w) M y n+k
 |0,_,_=>⟨M,k,rfl,λ_ _ _ _=>rfl,λi hi=>by lia,k0,k1,by simp[yx]⟩
 |n+1,ha,hd=>by
  have hW:(0:Int)<2^w:=A7 ∅;let⟨M1,k',e1,h1,h2,h3,h4,h5⟩:=zhG hw hry hr hy M k b k0 k1 hb hf n ha.mono hd.mono;let⟨a0,a1⟩:=ha n ∅;let⟨b0,b1⟩:=hd n ∅;have bB:0<=b*M y n/\b*M y n<2^w:=by rcases hb with rfl|rfl<;>lia
  let⟨d1,d2,d3,d4,d5⟩:=zbw (W:=2^w) hW (s:=M r n+b*M y n+k') ∅ ∅;have hT:∀d j,d≠116->upd M1 116 0 (b*M y n) d j=M1 d j:=λd j h=>by unfold upd;rw[if_neg ∅]
  have hv:∀i:Nat,i<n->upd M1 116 0 (b*M y n) r i=M1 r i:=λi _=>hT r i hr.1;refine⟨upd (upd M1 116 0 (b*M y n)) r n ((M r n+b*M y n+k')%2^w),(M r n+b*M y n+k')/2^w,?_,λd j h6 h7=>?_,zdQ (λi hi=>by rw[hv i hi];exact h2 i hi) d1 d2,d3,d4,?_⟩
  .rw[adR,upTo,zl];show yD (2^w) [Rw.both cT (y,(n:Int)) cF,Rw.sum (r,(n:Int)) (r,(n:Int)) cT] (yD (2^w) (adR r y n) M k).1 (yD (2^w) (adR r y n) M k).2=_;rw[e1];have hff:M1 102 0=b*(2^w-1):=by rw[h1 102 0 ⋯ (.inl (λz=>hr.2 z.symm)),hf]
   have hyy:M1 y n=M y n:=h1 y n hy (.inl hry);have hrr:upd M1 116 0 (b*M y n) r n=M r n:=by rw[hT r n hr.1,h1 r n hr.1 (.inr ∅)]
   have htt:upd M1 116 0 (b*M y n) 116 0=b*M y n:=by unfold upd;rw[if_pos ⟨rfl,rfl⟩]
   erw[yD,stepM,rd,wr,cT,cF,hff,hyy,zhY b0 b1 hb,hrr,htt]
  .unfold upd;rw[if_neg ∅,if_neg ∅,h1 d j h6 ∅]
  .rw[zcp,zd (M':=M1) (c':=r) n hv,yx,yx,Ae];generalize ((2:Int)^w)^n=P,(M r n+b*M y n+k')%2^w=u,(M r n+b*M y n+k')/2^w=t at *;generalize M r (n:Int)=A,M y (n:Int)=B,(2:Int)^w=W at *;have e3:(u+t*W)*P=(A+b*B+k')*P:=by rw[d5]
   rw[BQ,BQ,BQ,Am t W P,Af W P,Am b B P]at e3;rw[G5];generalize u*P=x1,t*(P*W)=x2,A*P=x3,b*(B*P)=x5,k' * P=x4,b*yx W M y n=x6 at *;lia
def yaB(y q r n:Nat):List Rw:=.mark 0::(twR 101 n++(twR r (n+1)++(lsR r y n++(.less (r,(n:Int)) (r,(n:Int)) cZ :: .less cF cZ cZ :: .mark 0::(adR r y n++(.sum (r,(n:Int)) (r,(n:Int)) cZ :: .bare cF cF :: .ask cF::twR q n))))))
structure Dv(w n y q r:Nat)(M0 M:Mem)(x Y:Int)(I:Nat):Prop where
 de:Dg (2^w) M 101 n
 dr:Dg (2^w) M r (n+1)
 dq:Dg (2^w) M q n
 keep:∀d j,d≠101->d≠r->d≠q->d≠116->d≠102->M d j=M0 d j
 rest:yx (2^w) M r (n+1)<Y
 sent:yx (2^w) M q n*Y*(2^w)^n+yx (2^w) M r (n+1)*(2^w)^n+yx (2^w) M 101 n=x*2^I
def znK{w n:Nat}:((2:Int)^w)^n=2^(w*n):=by rw[E9]
structure Lt(y q r:Nat):Prop where
 yr:y≠r
 yq:y≠q
 qr:q≠r
 hy:y≠101/\y≠116/\y≠102/\y≠122
 hq:q≠101/\q≠116/\q≠102/\q≠122
 hr:r≠101/\r≠116/\r≠102/\r≠122
def zgW{W R Y P:Int}(hW:2<=W)(hP:0<P)(hR:R<Y)(hY:Y<=P):2*R+1<P*W:=by
 have:=Ba hW (show 0<=P by lia);lia
def zhi{A:Mem}{c d:Nat}{i v j:Int}(h:d≠c):upd A c i v d j=A d j:=if_neg λe=>h e.1
def zf5{A:Mem}{c:Nat}{i v:Int}:upd A c i v c i=v:=if_pos ⟨rfl,rfl⟩
def z01{b:Int}(h:0<=b)(g:b<=1):b=0 \/ b=1:=by lia
def z02{b:Int}(h:b=0 \/ b=1):0<=1-b/\1-b<=1:=by lia
def z03{W t k:Int}(t0:0<=t)(t1:t<W)(k0:0<=k)(k1:k<=1)(h:4<=W):-W<=t-0-k/\t-0-k<W/\0<=t+0+k/\t+0+k<2*W:=by lia
def zo4{W P u b m k A B Y:Int}(d5:u-b*W=m-0-k)(v3:A-k*P=B-Y-0):A+u*P-b*(P*W)=B+m*P-Y:=by
 have e9:(u-b*W)*P=(m-0-k)*P:=by rw[d5]
 rw[B3,B3,B3,Bv,Am b W P,Af W P]at e9;lia
def zoN{W P u c m k A B Y b:Int}(c5:u+c*W=m+0+k)(v6:A+k*P=B+b*Y+0):A+u*P+c*(P*W)=B+m*P+b*Y:=by
 have e9:(u+c*W)*P=(m+0+k)*P:=by rw[c5]
 rw[BQ,BQ,BQ,Bv,Am c W P,Af W P]at e9;lia
def zoR{b c Q Y P V7 V4 V2 V k1:Int}(hb:b=0 \/ b=1)(c0:0<=c)(c1:c<=1)(v2:V2=2*V+k1)(v4:V4-b*Q=V2-Y)(v7:V7+c*Q=V4+b*Y)(r0:0<=V)(k0:0<=k1)(k1':k1<=1)(r40:0<=V4)(r41:V4<Q)(r70:0<=V7)(r71:V7<Q)(hr:V<Y)(hY:Y<P)(hP:P<=Q):
  V7=2*V+k1-(1-b)*Y/\V7<Y:=by
 rcases hb with rfl|rfl<;>rcases (by lia:c=0 \/ c=1)with rfl|rfl<;>lia
def zoL{A B Y P E E1 k1 b Z:Int}(hs:A*Y*P+B*P+E=Z)(v1:E1+k1*P=2*E):(2*A+(1-b))*Y*P+(2*B+k1-(1-b)*Y)*P+E1=Z*2:=by
 have f1:(2*A+(1-b))*Y*P=2*(A*Y*P)+(1-b)*Y*P:=by
  rw[BQ,BQ,Am 2 A Y,Am 2 (A*Y) P]
 have f2:(2*B+k1-(1-b)*Y)*P=2*(B*P)+k1*P-(1-b)*Y*P:=by
  rw[B3,BQ,Am 2 B P]
 rw[f1,f2];lia
def znq{A Y P V E x T:Int}(hYp:1<=Y)(hP:0<P)(A0:0<=A)(V0:0<=V)(E0:0<=E)(x1:x<P)(T0:0<T)(hle:T<=P)(key:(A+1*P)*Y*P+V*P+E=x*T):False:=by
 have a1:P*P<=(A+1*P)*Y*P:=by
  have b1:P<=(A+1*P)*Y:=by
   have:=Ba hYp (show 0<=A+1*P by lia);lia
  exact Ay b1 ∅
 have a2:0<=V*P:=C8 V0 ∅;have a3:x*T<=(P-1)*T:=Ay ∅ ∅;have a4:(P-1)*T<=(P-1)*P:=Ba hle ∅;have a5:(P-1)*P=P*P-P:=by rw[B3,Bk]
 lia
def zkI{W b:Int}(hW:1<W)(hb:b=0 \/ b=1):((0-0-b)%W,bi (decide ((0:Int)-0-b<0)))=(b*(W-1),b):=by
 rcases hb with rfl|rfl
 .simp[bi]
 .have:((0:Int)-0-1)%W=1*(W-1):=by
   rw[<-DG,A6 ∅ ∅];lia
  rw[this];rfl
def zn8{W b:Int}(hW:1<W)(hb:b=0 \/ b=1):bi (!((1-b)*(W-1)==0))=1-b:=by
 rcases hb with rfl|rfl
 .have:¬((1-0)*(W-1)=0):=by lia
  rw[beq_eq_false_iff_ne.2 this];rfl
 .simp[bi]
def zoo{W b:Int}(hb:b=0 \/ b=1):W-1-b*(W-1)=(1-b)*(W-1):=by
 rcases hb with rfl|rfl<;>lia
def znW{W P R R2 k1 k2 Y:Int}(hW:2<=W)(hP:0<P)(r0:0<=R)(hR:R<Y)(hY:Y<P)(k10:0<=k1)(k11:k1<=1)(p:0<=k2)(p':k2<=1)(v2:R2+k2*(P*W)=2*R+k1)(r2:0<=R2):k2=0:=by
 have hlt:=zgW hW hP hR (Br hY);rcases (by lia:k2=0 \/ k2=1)with z|z
 .exact z
 .subst z;lia
def zig{w n y q r:Nat}(hw:1<w)(L:Lt y q r){M0 M:Mem}{x Y k:Int}{I:Nat}(hz:M0 122 0=0)(hD:Dg (2^w) M0 y n)(hY:yx (2^w) M0 y n=Y)(x1:x<(2^w:Int)^n)(hI:I<w*n)(h:Dv w n y q r M0 M x Y I):
  ∃M' k',yD (2^w) (yaB y q r n) M k=(M',k')/\Dv w n y q r M0 M' x Y (I+1):=by
 have hW4:(4:Int)<=2^w:=by
  have h:(2:Nat)^2<=2^w:=Ac ∅ ∅;have h2:=pw w;lia
 have hW:(0:Int)<2^w:=EQ ⋯ hW4;have hW2:(2:Int)<=2^w:=Int.le_trans ⋯ hW4;have hW1:(1:Int)<2^w:=EQ ⋯ hW4;have hP:(0:Int)<(2^w)^n:=A7 hW;let⟨y0,y1⟩:=zG hW n hD;rw[hY]at y0 y1;let⟨r0,r1⟩:=zG hW (n+1) h.dr;have hzM:M 122 0=0:=by rw[h.keep 122 0 ⋯ (λe=>L.hr.2.2.2 e.symm) (λe=>L.hq.2.2.2 e.symm) ⋯ ⋯,hz]
 have hyM:∀j,M y j=M0 y j:=λj=>h.keep y j L.hy.1 L.yr L.yq L.hy.2.1 L.hy.2.2.1;let⟨M1,k1,e1,o1,g1,p1,p1',v1⟩:=zeH (W:=2^w) hW2 101 M 0 ⋯ ⋯ n h.de;have q1:∀j,M1 r j=M r j:=λj=>o1 r j (.inl L.hr.1);let⟨M2,k2,e2,o2,g2,p2,p2',v2⟩:=zeH (W:=2^w) hW2 r M1 k1 p1 p1' (n+1) (λi hi=>by rw[q1];exact h.dr i hi);rw[zd (M:=M1) (M':=M) (c:=r) (c':=r) (n+1) λi _=>q1 i]at v2;let⟨r20,r21⟩:=zG hW (n+1) g2;have hk2:k2=0:=znW hW2 hP r0 h.rest y1 p1 p1' p2 p2' (by rw[<-Ae];exact v2) r20;subst hk2;rw[Bv,Dx]at v2;have q2:∀j,M2 y j=M0 y j:=λj=>by rw[o2 y j (.inl L.yr),o1 y j (.inl L.hy.1),hyM]
 have z2:M2 122 0=0:=by rw[o2 122 0 (.inl (λe=>L.hr.2.2.2 e.symm)),o1 122 0 (.inl ⋯),hzM]
 let⟨M3,k3,e3,o3,g3,p3,p3',v3⟩:=zhH (W:=2^w) hW L.yr M2 0 ⋯ ⋯ n g2.mono (λi hi=>by rw[q2];exact hD i hi);rw[zd (M:=M2) (M':=M0) (c:=y) (c':=y) n λi _=>q2 i,hY]at v3;have t3:M3 r n=M2 r n:=o3 r n (.inr (G6 _));let⟨t0,t1⟩:=g2 n (DZ n);let⟨d1,d2,d3,d4,d5⟩:=zdk (W:=2^w) hW (s:=M2 r n-0-k3) (z03 t0 t1 p3 p3' hW4).1 (z03 t0 t1 p3 p3' hW4).2.1;have z3:M3 122 0=0:=by rw[o3 122 0 (.inl (λe=>L.hr.2.2.2 e.symm)),z2]
 have e4:stepM (2^w) M3 k3 (.less (r,(n:Int)) (r,(n:Int)) cZ)=(upd M3 r n ((M2 r n-0-k3)%2^w),bi (decide (M2 r n-0-k3<0))):=by
  erw[stepM,rd,wr,cZ,t3,z3]
 generalize hb:bi (decide (M2 r n-0-k3<0))=b at d3 d4 d5 e4;generalize hu:(M2 r n-0-k3)%2^w=u at d1 d2 d5 e4;have g4:Dg (2^w) (upd M3 r n u) r (n+1):=zdQ g3 d1 d2;have v4:yx (2^w) (upd M3 r n u) r (n+1)-b*(2^w)^(n+1)=yx (2^w) M2 r (n+1)-Y:=by
  rw[zcp,yx,Ae];exact zo4 d5 v3
 have o4:∀d j,d≠r->upd M3 r n u d j=M2 d j:=λd j hd=>by rw[zhi hd,o3 d j (.inl hd)]
 generalize upd M3 r n u=M4 at e4 g4 v4 o4;let⟨r40,r41⟩:=zG hW (n+1) g4;have hb01:b=0 \/ b=1:=z01 d3 d4;have z4:M4 122 0=0:=by rw[o4 122 0 (λe=>L.hr.2.2.2 e.symm),z2]
 have e5:stepM (2^w) M4 b (.less cF cZ cZ)=(upd M4 102 0 (b*(2^w-1)),b):=by
  erw[stepM,rd,wr,cF,cZ,z4];rw[(HW (zkI hW1 hb01)).1,(HW (zkI hW1 hb01)).2]
 have o5:∀d j,d≠102->upd M4 102 0 (b*(2^w-1)) d j=M4 d j:=λd j hd=>zhi hd;have f5:upd M4 102 0 (b*(2^w-1)) 102 0=b*(2^w-1):=zf5;generalize upd M4 102 0 (b*(2^w-1))=M5 at e5 o5 f5;have q5:∀j,M5 r j=M4 r j:=λj=>o5 r j L.hr.2.2.1;have y5:∀j,M5 y j=M0 y j:=λj=>by rw[o5 y j L.hy.2.2.1,o4 y j L.yr,q2]
 let⟨M6,k6,e6,o6,g6,p6,p6',v6⟩:=zhG (w:=w) (En hw) L.yr ⟨L.hr.2.1,L.hr.2.2.1⟩ L.hy.2.1 M5 0 b ⋯ ⋯ hb01 f5 n (λi hi=>by rw[q5];exact g4 i (Nat.lt_succ_of_lt hi)) (λi hi=>by rw[y5];exact hD i hi);rw[zd (M:=M5) (M':=M4) (c:=r) (c':=r) n λi _=>q5 i,zd (M:=M5) (M':=M0) (c:=y) (c':=y) n λi _=>y5 i,hY]at v6;have t6:M6 r n=M4 r n:=by rw[o6 r n L.hr.2.1 (.inr (G6 _)),q5]
 let⟨s0,s1⟩:=g4 n (DZ n);let⟨c1,c2,c3,c4,c5⟩:=zbw (W:=2^w) hW (s:=M4 r n+0+k6) (z03 s0 s1 p6 p6' hW4).2.2.1 (z03 s0 s1 p6 p6' hW4).2.2.2;have z6:M6 122 0=0:=by rw[o6 122 0 ⋯ (.inl (λe=>L.hr.2.2.2 e.symm)),o5 122 0 ⋯,z4]
 have e7:stepM (2^w) M6 k6 (.sum (r,(n:Int)) (r,(n:Int)) cZ)=(upd M6 r n ((M4 r n+0+k6)%2^w),(M4 r n+0+k6)/2^w):=by
  erw[stepM,rd,wr,cZ,t6,z6]
 generalize (M4 r n+0+k6)/2^w=c at c3 c4 c5 e7;generalize (M4 r n+0+k6)%2^w=u7 at c1 c2 c5 e7;have g7:Dg (2^w) (upd M6 r n u7) r (n+1):=zdQ g6 c1 c2;have v7:yx (2^w) (upd M6 r n u7) r (n+1)+c*(2^w)^(n+1)=yx (2^w) M4 r (n+1)+b*Y:=by
  rw[zcp,yx,Ae];exact zoN c5 v6
 have o7:∀d j,d≠r->d≠116->d≠102->upd M6 r n u7 d j=M2 d j:=λd j hd h1 h2=>by
  rw[zhi hd,o6 d j h1 (.inl hd),o5 d j h2,o4 d j hd]
 have f7:upd M6 r n u7 102 0=b*(2^w-1):=by
  rw[zhi (λz=>L.hr.2.2.1 z.symm),o6 102 0 ⋯ (.inl (λe=>L.hr.2.2.1 e.symm)),f5]
 generalize upd M6 r n u7=M7 at e7 g7 v7 o7 f7;let⟨r70,r71⟩:=zG hW (n+1) g7;have hv2:yx (2^w) M2 r (n+1)=2*yx (2^w) M r (n+1)+k1:=v2;have hPW:(2^w:Int)^n<=(2^w)^(n+1):=by
  rw[Ae];have:=Ba (Br hW1) (Br hP)
  rwa [CW]at this
 have hrest:yx (2^w) M7 r (n+1)=2*yx (2^w) M r (n+1)+k1-(1-b)*Y/\yx (2^w) M7 r (n+1)<Y:=zoR hb01 c3 c4 hv2 v4 v7 r0 p1 p1' r40 r41 r70 r71 h.rest y1 hPW;have e8:stepM (2^w) M7 c (.bare cF cF)=(upd M7 102 0 ((1-b)*(2^w-1)),c):=by
  erw[stepM,rd,wr,cF,f7];rw[zoo hb01]
 have o8:∀d j,d≠102->upd M7 102 0 ((1-b)*(2^w-1)) d j=M7 d j:=λd j hd=>zhi hd;have f8:upd M7 102 0 ((1-b)*(2^w-1)) 102 0=(1-b)*(2^w-1):=zf5;generalize upd M7 102 0 ((1-b)*(2^w-1))=M8 at e8 o8 f8;have e9:stepM (2^w) M8 c (.ask cF)=(M8,1-b):=by
  erw[stepM,rd,cF,f8];rw[zn8 hW1 hb01]
 have q8:∀j,M8 q j=M q j:=λj=>by
  rw[o8 q j L.hq.2.2.1,o7 q j L.qr L.hq.2.1 L.hq.2.2.1,o2 q j (.inl L.qr),o1 q j (.inl L.hq.1)]
 let⟨M9,k9,ea,o9,g9,p9,p9',v9⟩:=zeH (W:=2^w) hW2 q M8 (1-b) (z02 hb01).1 (z02 hb01).2 n (λi hi=>by rw[q8];exact h.dq i hi);rw[zd (M:=M8) (M':=M) (c:=q) (c':=q) n λi _=>q8 i]at v9;let⟨u0,u1⟩:=zG hW n g9;let⟨w0,w1⟩:=zG hW n h.dq;let⟨ee0,ee1⟩:=zG hW n g1;have hs:=h.sent;have ve:yx (2^w) M9 101 n=yx (2^w) M1 101 n:=zd n λi _=>by
  rw[o9 101 i (.inl (λe=>L.hq.1 e.symm)),o8 101 i ⋯,o7 101 i (λe=>L.hr.1 e.symm) ⋯ ⋯,o2 101 i (.inl (λe=>L.hr.1 e.symm))]
 have vr:yx (2^w) M9 r (n+1)=yx (2^w) M7 r (n+1):=zd (n+1) λi _=>by
  rw[o9 r i (.inl (λe=>L.qr e.symm)),o8 r i L.hr.2.2.1]
 have v1':yx (2^w) M1 101 n+k1*(2^w)^n=2*yx (2^w) M 101 n:=by rw[v1,Dx]
 have key:(2*yx (2^w) M q n+(1-b))*Y*(2^w)^n+yx (2^w) M7 r (n+1)*(2^w)^n+yx (2^w) M1 101 n=x*2^(I+1):=by
  rw[hrest.1,Ae,<-Am];exact zoL hs v1'
 have hk9:k9=0:=by
  rcases z01 p9 p9' with z|z
  .exact z
  .exfalso;subst z;have hle:(2:Int)^(I+1)<=(2^w)^n:=by
    rw[znK]
    exact_mod_cast Ac (n:=2) ⋯ hI
   rw[<-v9]at key;exact znq (CQ r0 h.rest) hP u0 r70 ee0 x1 (A7 ⋯) hle key
 subst hk9;rw[Bv,Dx]at v9;rw[<-v9]at key;refine⟨M9,0,?_,⟨λi hi=>?_,λi hi=>?_,g9,λd j h1 h2 h3 h4 h5=>?_,?_,?_⟩⟩
 .have em:stepM (2^w) M k (.mark 0)=(M,0):=rfl;have em2:stepM (2^w) M5 b (.mark 0)=(M5,0):=rfl;rw[yaB,zy,em];simp only;rw[zl,e1,zl];simp only;rw[e2,zl];simp only;rw[e3,zy,e4,zy];simp only;rw[e5,zy,em2,zl];simp only;rw[e6,zy,e7,zy];simp only;rw[e8,zy,e9];simp only;rw[ea]
 .rw[o9 101 i (.inl (λe=>L.hq.1 e.symm)),o8 101 i ⋯,o7 101 i (λe=>L.hr.1 e.symm) ⋯ ⋯,o2 101 i (.inl (λe=>L.hr.1 e.symm))];exact g1 i hi
 .rw[o9 r i (.inl (λe=>L.qr e.symm)),o8 r i L.hr.2.2.1];exact g7 i hi
 .rw[o9 d j (.inl h3),o8 d j h5,o7 d j h2 h4 h5,o2 d j (.inl h2),o1 d j (.inl h1)];exact h.keep d j h1 h2 h3 h4 h5
 .rw[vr];exact hrest.2
 .rw[ve,vr];exact key
def zcC{w n y q r:Nat}(hw:1<w)(L:Lt y q r){M0 M:Mem}{x Y k:Int}(hz:M0 122 0=0)(hD:Dg (2^w) M0 y n)(hY:yx (2^w) M0 y n=Y)(x1:x<(2^w:Int)^n)(h:Dv w n y q r M0 M x Y 0):
  ∀I:Nat,I<=w*n->∃M' k',yD (2^w) (upTo (λ_=>yaB y q r n) I) M k=(M',k')/\Dv w n y q r M0 M' x Y I
 |0,_=>⟨M,k,rfl,h⟩
 |I+1,hI=>by
  let⟨M1,k1,e1,h1⟩:=zcC hw L hz hD hY x1 h I ∅;let⟨M2,k2,e2,h2⟩:=zig hw L (k:=k1) hz hD hY x1 ∅ h1;refine⟨M2,k2,?_,h2⟩;rw[upTo,zl,e1];exact e2
def zgo{w n y q r:Nat}(hw:1<w){M0 M:Mem}{x Y:Int}(x0:0<=x)(h:Dv w n y q r M0 M x Y (w*n))(hYP:Y<=(2^w:Int)^n):yx (2^w) M q n=x/Y/\yx (2^w) M r n=x%Y/\M r n=0:=by
 have hW:(0:Int)<2^w:=A7 ∅;have hP:(0:Int)<(2^w)^n:=A7 hW;let⟨r0,r1⟩:=zG hW (n+1) h.dr;let⟨a0,a1⟩:=zG hW n h.de;let⟨b0,b1⟩:=zG hW n h.dr.mono;let⟨t0,t1⟩:=h.dr n ∅;have hs:=h.sent;have hr:=h.rest;rw[<-znK]at hs;have htop:M r n=0:=by
  rw[yx]at hr;rcases (by lia:M r n=0 \/ 1<=M r n)with z|z
  .exact z
  .have:=Ay z (show (0:Int)<=(2^w)^n by lia);lia
 have hv:yx (2^w) M r (n+1)=yx (2^w) M r n:=by rw[yx,htop];lia
 rw[hv]at hs hr;generalize ((2:Int)^w)^n=P,yx (2^w) M q n=A,yx (2^w) M r n=B,yx (2^w) M 101 n=E at *;have e0:E=0:=by
  have h1:E=(x-A*Y-B)*P:=by
   rw[B3,B3];lia
  have h2:E%P=E:=A6 a0 a1;rw[<-h2,h1,Int.mul_emod_left]
 subst e0;have hx:A*Y+B=x:=by
  have h1:(A*Y+B)*P=x*P:=by rw[BQ];lia
  exact Int.eq_of_mul_eq_mul_right ∅ h1
 have hYp:0<Y:=by lia
 refine⟨?_,?_,htop⟩
 .rw[<-hx,Ct,FC _ _ ∅,B6 b0 hr,DU]
 .rw[<-hx,Ct,Bm,A6 b0 hr]
def zaQ{g:Nat->List PV}{f:Nat->List Rw}(h:∀I:Nat,g I=(f I).map yV):∀n,upTo g n=(upTo f n).map yV
 |0=>rfl
 |n+1=>by rw[upTo,upTo,zaQ h n,h n,CU]
def zaC{f:Nat->List Rw}{c:Nat}(h:∀i,(f i).length=c):∀k,(upTo f k).length=k*c
 |0=>by simp[upTo]
 |k+1=>by rw[upTo,Ah,zaC h k,h,GL]
def zaT{f:Int->Rw}{r:Rw}:∀{n:Nat},r∈yS f n->∃i:Nat,i<n/\r=f i
 |0,h=>by simp[yS]at h
 |n+1,h=>by
  rw[yS,BM]at h;rcases h with h|h
  .let⟨i,hi,e⟩:=zaT h;exact⟨i,by lia,e⟩
  .simp at h;exact⟨n,by lia,h⟩
def zao{f:Nat->List Rw}{r:Rw}:∀{n:Nat},r∈upTo f n->∃i:Nat,i<n/\r∈f i
 |0,h=>by simp[upTo]at h
 |n+1,h=>by
  rw[upTo,BM]at h;rcases h with h|h
  .let⟨i,hi,e⟩:=zao h;exact⟨i,by lia,e⟩
  .exact⟨n,by lia,h⟩
def mvR(x n:Nat):List Rw:=yS (λi=>.move (101,i) (x,i)) n
def ycN(y q r w n:Nat):List Rw:=upTo (λ_=>yaB y q r n) (w*n)
def yQ(w n:Nat):List Rw:=mvR 97 n++ycN 98 99 100 w n++nR n++yN n
def dvT(y q r:Nat):List T2:=[.row (rS "mark" [.fig 0]),.rounds 0 1 0 [rS "twice" [cx 101 0 0 1 0,cx 101 0 0 1 0]],.rounds 1 1 0 [rS "twice" [cx r 0 0 1 0,cx r 0 0 1 0]],.rounds 0 1 0 [rS "less" [cx r 0 0 1 0,cx r 0 0 1 0,cx y 0 0 1 0]],.row (rS "less" [cx r 0 0 0 1,cx r 0 0 0 1,oZ]),.row (rS "less" [cx 102 0 0 0 0,oZ,oZ]),.row (rS "mark" [.fig 0]),
 .rounds 0 1 0 [rS "both" [oT,cx y 0 0 1 0,cx 102 0 0 0 0],rS "sum" [cx r 0 0 1 0,cx r 0 0 1 0,oT]],.row (rS "sum" [cx r 0 0 0 1,cx r 0 0 0 1,oZ]),.row (rS "bare" [cx 102 0 0 0 0,cx 102 0 0 0 0]),.row (rS "ask" [cx 102 0 0 0 0]),.rounds 0 1 0 [rS "twice" [cx q 0 0 1 0,cx q 0 0 1 0]]]
def nT:List T1:=[.row (rS "set" [oS,.fig 0]),.rounds 0 1 0 [.row (rS "any" [oS,oS,cx 98 0 1 0 0])],.row (rS "ask" [oS]),.row (rS "set" [oM 0,.fig 1]),.row (rS "less" [oM 0,oM 0,oZ])]
def mvT(x:Nat):T1:=.rounds 0 1 0 [.row (rS "move" [cx 101 0 1 0 0,cx x 0 1 0 0])]
def ydf:List T1:=[mvT 97,.rounds 0 0 1 (dvT 98 99 100)]++(nT++ycs 0 1)
def zic(w n:Nat):cnt 0 0 1 w n=w*n:=by
 unfold cnt;rw[show (0:Int)+0*n+1*w*n=((w*n:Nat):Int)by simp];rfl
def ze5(w:Int)(n:Nat):cnt 1 1 0 w n=n+1:=by simp[cnt];lia
def zpG(y q r:Nat)(w:Int)(n I:Nat):yan w n I (dvT y q r)=(yaB y q r n).map yV:=by
 have tw:∀c:Nat,T2.rows w n I (.rounds 0 1 0 [rS "twice" [cx c 0 0 1 0,cx c 0 0 1 0]])=(twR c n).map yV:=λc=>by
  rw[T2.rows,zdh];exact zaQ (λJ=>by simp[Rs.pv,rS,Op.pv,cx,Cx.at,yV,yI]) n
 have t1:T2.rows w n I (.rounds 1 1 0 [rS "twice" [cx r 0 0 1 0,cx r 0 0 1 0]])=(twR r (n+1)).map yV:=by
  rw[T2.rows,ze5];exact zaQ (λJ=>by simp[Rs.pv,rS,Op.pv,cx,Cx.at,yV,yI]) (n+1)
 have ls:T2.rows w n I (.rounds 0 1 0 [rS "less" [cx r 0 0 1 0,cx r 0 0 1 0,cx y 0 0 1 0]])=(lsR r y n).map yV:=by
  rw[T2.rows,zdh];exact zaQ (λJ=>by simp[Rs.pv,rS,Op.pv,cx,Cx.at,yV,yI]) n
 have ad:T2.rows w n I (.rounds 0 1 0 [rS "both" [oT,cx y 0 0 1 0,cx 102 0 0 0 0],rS "sum" [cx r 0 0 1 0,cx r 0 0 1 0,oT]])=(adR r y n).map yV:=by
  rw[T2.rows,zdh];exact zaQ (λJ=>by simp[Rs.pv,rS,Op.pv,oT,cx,Cx.at,yV,yI]) n
 erw[yan,dvT,CB,Cv,tw,t1,ls,ad,yaB,AL,CU,BR];simp[T2.rows,Rs.pv,rS,Op.pv,oZ,cx,Cx.at,yV,yI]
def zqp(w:Int)(n:Nat):yK w n nT=(nR n).map yV:=by
 have h:=zaQ (g:=λI=>yan w n I [.row (rS "any" [oS,oS,cx 98 0 1 0 0])]) (f:=λi=>[Rw.any cS cS (98,i)]) (λI=>by simp[yan,T2.rows,Rs.pv,rS,Op.pv,oS,cx,Cx.at,yV,yI]) n;erw[yK,nT,CB,Cv,T1.rows,zdh,h,nR,CU,AL,Ar];simp[Rs.pv,rS,Op.pv,oZ,oS,oM,cx,Cx.at,yV,yI]
def zo2(x:Nat)(w:Int)(n:Nat):T1.rows w n (mvT x)=(mvR x n).map yV:=by
 rw[mvT,T1.rows,zdh];exact zej (λI=>by simp[yan,T2.rows,Rs.pv,rS,Op.pv,cx,Cx.at,yV,yI]) n
def zkW(y q r w n:Nat):T1.rows w n (.rounds 0 0 1 (dvT y q r))=(ycN y q r w n).map yV:=by
 rw[T1.rows,zic];exact zaQ (λI=>zpG y q r w n I) (w*n)
def zoT(w n:Nat):yK w n ydf=(yQ w n).map yV:=by
 rw[ydf,zdy,zdy,zqp,zkK];erw[yK,CB,Cv,zo2,zkW,BR,yQ,CU,B9]
def tgN(d:Nat)(j:Int):Rw->Prop
 |.mark _ | .ask _=>True
 |.set t _ | .move t _ | .bare t _ | .twice t _ | .half t _ | .sum t _ _ | .less t _ _ | .both t _ _ | .any t _ _ | .odd t _ _=>t≠(d,j)
def zoG{M:Mem}{t:Cel}{v:Int}{d:Nat}{j:Int}(h:t≠(d,j)):wr M t v d j=M d j:=by
 let⟨a,b⟩:=t;erw[wr,upd];rw[if_neg]
 rintro⟨rfl,rfl⟩
 exact h rfl
def zcD(W:Int){d:Nat}{j:Int}:∀(rs:List Rw) (M:Mem) (k:Int),(∀r∈rs,tgN d j r)->(yD W rs M k).1 d j=M d j
 |[],_,_,_=>rfl
 |r::rs,M,k,h=>by
  rw[zy,zcD W rs _ _ λq hq=>h q (AW _ hq)];have hr:=h r BB
  cases r<;>first|rfl|exact zoG hr
def zfT{W:Int}{x:Nat}(hx:x≠101)(M:Mem)(k:Int):∀n:Nat,∃M',yD W (mvR x n) M k=(M',k)/\(∀d j,d≠101->M' d j=M d j)/\∀i:Nat,i<n->M' 101 i=M x i
 |0=>⟨M,rfl,λ_ _ _=>rfl,λi hi=>by lia⟩
 |n+1=>by
  let⟨M1,e1,h1,h2⟩:=zfT (W:=W) hx M k n;refine⟨upd M1 101 n (M x n),?_,λd j hd=>?_,λi hi=>?_⟩
  .rw[mvR,yS,zl];show yD W _ (yD W (mvR x n) M k).1 (yD W (mvR x n) M k).2=_;rw[e1];erw[yD,stepM,rd,wr,h1 x n hx]
  .unfold upd;rw[if_neg ∅,h1 d j ∅]
  .unfold upd
   by_cases hin:i=n
   .subst hin;rw[if_pos ⟨rfl,rfl⟩]
   .rw[if_neg ∅];exact h2 i ∅
def zly{n:Nat}{d:Nat}{j:Int}(h1:d≠115)(h2:d≠109 \/ j≠0):∀r∈nR n,tgN d j r:=by
 intro r hr;erw[nR,BM,AT,Ad,or_false]at hr;rcases hr with (rfl|hr)|rfl|rfl|rfl
 case inl.inr=>
  let⟨i,hi,hr⟩:=zao hr;erw[AT,Ad,or_false]at hr;subst hr;erw[tgN,cS,ne_eq,Db];omega
 all_goals erw[tgN,cS,ne_eq,Db];try lia
def zkM{n:Nat}{d:Nat}{j:Int}(h1:d≠115)(h2:d≠109)(h3:d≠116):∀r∈yN n,tgN d j r:=by
 intro r hr;erw[yN,BM,AT,Ad,or_false]at hr;rcases hr with (rfl|hr)|rfl|rfl|rfl|rfl|rfl
 case inl.inr=>let⟨i,hi,rfl⟩:=zaT hr;erw[tgN,cS,ne_eq,Db];lia
 all_goals erw[tgN,cS,cT,ne_eq,Db];try lia
def zq4:Lt 98 99 100:=⟨by decide,by decide,by decide,by decide,by decide,by decide⟩
def zjc{w:Nat}(hw:1<w){n:Nat}{x y:Int}(x0:0<=x)(x1:x<(2^w:Int)^(n+1))(y0:0<y)(y1:y<(2^w:Int)^(n+1)):
  yx (2^w) (yD (2^w) (yQ w (n+1)) (yaq (2^w) (n+1) x y) 0).1 99 (n+1)=x/y/\yx (2^w) (yD (2^w) (yQ w (n+1)) (yaq (2^w) (n+1) x y) 0).1 100 (n+1)=x%y /\
  (yD (2^w) (yQ w (n+1)) (yaq (2^w) (n+1) x y) 0).1 109 0=0/\(yD (2^w) (yQ w (n+1)) (yaq (2^w) (n+1) x y) 0).1 109 1=0 /\
  (yD (2^w) (yQ w (n+1)) (yaq (2^w) (n+1) x y) 0).1 109 2=bi (x/y==0)/\(yD (2^w) (yQ w (n+1)) (yaq (2^w) (n+1) x y) 0).1 109 3=bi (decide ((2^w:Int)^(n+1)<=2*(x/y))):=by
 have hW:(0:Int)<2^w:=A7 ∅;have hb0:∀d j,d≠97->d≠98->yaq (2^w) (n+1) x y d j=0:=λd j h1 h2=>zoc _ _ _ h1 h2 _;have da:=zkz (n+1) x y hW;have db:=zkX (n+1) x y hW;have va:=zkD (n+1) x y hW x0 x1;have vb:=zkE (n+1) x y hW ∅ y1;rw[yQ];generalize yaq (2^w) (n+1) x y=A at *;let⟨M1,e1,o1,v1⟩:=zfT (W:=2^w) (x:=97) ⋯ A 0 (n+1);have z0:∀(d m:Nat),d≠97->d≠98->d≠101->yx (2^w) M1 d m=0/\Dg (2^w) M1 d m:=λd m h1 h2 h3=>by
  have hz:∀i:Nat,M1 d i=0:=λi=>by rw[o1 d i h3,hb0 d i h1 h2]
  have hd:Dg (2^w) M1 d m:=λi _=>by rw[hz];lia
  exact⟨(zaW hW m hd).2 λi _=>hz i,hd⟩
 have D0:Dv w (n+1) 98 99 100 A M1 x y 0:={
  de:=λi hi=>by rw[v1 i hi];exact da i hi
  dr:=(z0 100 _ ⋯ ⋯ ⋯).2
  dq:=(z0 99 _ ⋯ ⋯ ⋯).2
  keep:=λd j h1 _ _ _ _=>o1 d j h1
  rest:=by rw[(z0 100 _ ⋯ ⋯ ⋯).1];exact y0
  sent:=by
   rw[(z0 100 _ ⋯ ⋯ ⋯).1,(z0 99 _ ⋯ ⋯ ⋯).1,zd (M':=A) (c':=97) (n+1) v1,va];simp}
 let⟨M2,k2,e2,D2⟩:=zcC hw zq4 (k:=0) (hb0 122 0 ⋯ ⋯) db vb x1 D0 (w*(n+1)) (AU _);let⟨q1,q2,q3⟩:=zgo hw x0 D2 ∅;rw[zl,zl,zl,e1];simp only;rw[ycN,e2];simp only;have kz:M2 122 0=0:=by rw[D2.keep 122 0 ⋯ ⋯ ⋯ ⋯ ⋯,hb0 122 0 ⋯ ⋯]
 have kb:∀j,M2 98 j=A 98 j:=λj=>D2.keep 98 j ⋯ ⋯ ⋯ ⋯ ⋯;have nn:=zkT hw (n+1) M2 k2 kz (λi hi=>by rw[kb];exact(db i hi).1);have hnz:¬ ∀i:Nat,i<n+1->M2 98 i=0:=λz=>by
  have:yx (2^w) A 98 (n+1)=0:=(zaW hW (n+1) db).2 λi hi=>by rw[<-kb];exact z i hi
  lia
 have n0:=nn.2 hnz;have no:∀d j,d≠115->(d≠109 \/ j≠0)->(yD (2^w) (nR (n+1)) M2 k2).1 d j=M2 d j:=λd j h1 h2=>zcD _ _ _ _ (zly h1 h2);generalize yD (2^w) (nR (n+1)) M2 k2=R at *;let⟨M3,k3⟩:=R;simp only at *;have dc:Dg (2^w) M3 99 (n+1):=λi hi=>by rw[no 99 i ⋯ (.inl ⋯)];exact D2.dq i hi
 have vc:yx (2^w) M3 99 (n+1)=x/y:=by rw[<-q1];exact zd _ λi _=>no 99 i ⋯ (.inl ⋯)
 let⟨f1,f2,f3,f4,f5⟩:=zfZ hw M3 k3 dc (by rw[no 122 0 ⋯ (.inl ⋯),kz]);have f6:∀j,(yD (2^w) (yN (n+1)) M3 k3).1 100 j=M3 100 j:=λj=>zcD _ _ _ _ (zkM ⋯ ⋯ ⋯);rw[vc]at f4 f5;refine⟨?_,?_,?_,?_,f4,f5⟩
 .rw[<-vc];exact zd _ λi _=>f1 i
 .rw[<-q2];exact zd _ λi _=>by rw[f6,no 100 i ⋯ (.inl ⋯)]
 .rw[f2,n0]
 .rw[f3,no 109 1 ⋯ (.inr ⋯),D2.keep 109 1 ⋯ ⋯ ⋯ ⋯ ⋯,hb0 109 1 ⋯ ⋯]
def zkR{n:Nat}(hn:1<=n)(hn2:n<=8):∀r∈yN n,yaN r:=by
 intro r hr;erw[yN,BM,AT,Ad,or_false]at hr;rcases hr with (rfl|hr)|rfl|rfl|rfl|rfl|rfl
 case inl.inr=>let⟨i,hi,rfl⟩:=zaT hr;erw[yaN,yX];lia
 all_goals erw[yaN,yX];lia
def zk1:∀r,yaN r->rwD r
 |.mark _,h=>h
 |.set _ _,h=>h.2
 |.ask _,_ | .move _ _,_ | .bare _ _,_ | .twice _ _,_ | .half _ _,_ | .sum _ _ _,_ | .less _ _ _,_ | .both _ _ _,_ | .any _ _ _,_ | .odd _ _ _,_=>trivial
def zq5{pr:Prop}{nm:AQ}{xs:List PV}{b:Bool}{vs:List PV}{ps:List T1}{rs:List Rw}{w n na:Nat}(hw:w<=16)(hn2:n<=4)(nl:nLs xs=AB)(i0:∀st,idxV st (.tp AC (.str nm::xs)) (.int 0)=AA (.str nm))
  (e0:yd T 18 yhd [.tp AC (.str nm::xs)] []=.ok (.tp b vs) []) (c1:yaK vs=AA ps) (c2:nLs vs=AB) (c3:isOk (yd T 16 yz [.tp b vs] []) (.bl AB)=AB) (c4:isOk (yd T 20 yiv [.tp AC (.str nm::xs)] []) (.bl AB)=AB)
  (hp:pr->yd T 20 yfg [.tp AC (.str nm::xs)] []=.ok (.bl AB) []) (pv:yK w n ps=rs.map yV) (ok:∀r∈rs,yaN r) (hl:rs.length<=4000) (hr:ybu w n ps<=4000) (ha:ak1 w n ps<=500000)
  {qb:Bool} (q3:yG .isin (.str nm) yet=AA (.bl qb)) (hA:yd T 20 yn [.tp AC (.str nm::xs),.int n] []=.ok (.int na) []):ycy pr qb (.tp AC (.str nm::xs)) w n na rs:=by
 have nl:nL (.tp AC (.str nm::xs))=true:=by simp[nL,nLs,nl]
 generalize PV.tp AC (.str nm::xs)=d at *;have nl1:nLs [d]=true:=by simp[nLs,nl]
 have rw':∀x∈yK w n ps,ybt x:=λx hx=>by
  rw[pv,GJ]at hx;let⟨r,hr,rfl⟩:=hx;exact zgy r (ok r hr)
 have ht:∀st,yd T (1+18) yhd [d] st=.ok (.tp b vs) st:=λst=>by
  have:=zap e0 1;rw[show 18+1=18+0+1 by lia]at this;exact zbL (f:=yhd) (fn:=yim) rfl rfl rfl nl1 this st
 have hit:∀st,yd T (1+16) yz [.tp b vs] st=.ok (.bl AB) st:=λst=>by
  have:=zap (zbK c3) 1;exact zbL (f:=yz) (fn:=yil) rfl rfl rfl (by simp[nLs,nL,c2]) this st
 have rows:=zhy 1 (w:=w) (n:=n) nl ht c2 c1 ∅ ∅ ∅ ∅ (by rw[pv,BH];exact hl) hr ha rw' hit [];rw[pv]at rows;have hT2:T yhe=AA ye3:=rfl;have nl2:nLs [d,.int n]=true:=by simp[nLs,nl,nL]
 refine⟨nl,zbK c4,hp,λst=>by rw[i0,Bj,q3],rows,λr hr=>?_,hA,?_⟩
 .have hv:nL (yV r)=true:=by cases r<;>rfl
  exact zmj hv (zgy r (ok r hr)) 9 []
 .rw[show (20:Nat)=19+1 from rfl,zc hT2 rfl rfl nl2]
  cases qb<;>simp! [ye3,i0,q3,IC.ve9]<;>rfl
theorem aw{pb:Bool}{nm:AQ}{xs:List PV}{n:Nat}(nl:nLs xs=AB)(i0:∀st,idxV st (.tp AC (.str nm::xs)) (.int 0)=AA (.str nm))(q1:yG .eq (.str nm) (.str "compare")=AA (.bl AC))(q2:yG .eq (.str nm) (.str "led")=AA (.bl AC))(q4:yG .isin (.str nm) yii=AA (.bl pb)):yd T 20 yn [.tp AC (.str nm::xs),.int n] []=.ok (.int (if pb=AB then 2*n else n:Nat)) []:=by
 have nl:nL (.tp AC (.str nm::xs))=true:=by simp[nL,nLs,nl]
 generalize PV.tp AC (.str nm::xs)=d at *;have hT1:T yn=AA yA:=rfl;have nl2:nLs [d,.int n]=true:=by simp[nLs,nl,nL]
 rw[show (20:Nat)=19+1 from rfl,zc hT1 rfl rfl nl2]
 cases pb<;>simp! [yA,i0,q1,q2,q4]<;>rfl
def yfc(nm:String)(ps:List T1):Bool:=match yd T 18 yhd [.tp AC [.str (AE nm)]] []with
 |.ok (.tp b vs) []=>decide (yaK vs=AA ps)&&nLs vs&&isOk (yd T 16 yz [.tp b vs] []) (.bl AB)&&isOk (yd T 20 yiv [.tp AC [.str (AE nm)]] []) (.bl AB)
 |_=>AC
def zqq{nm:String}{qb:Bool}{ps:List T1}{rs:List Rw}{w n na:Nat}(hc:yfc nm ps=AB)(hw:w<=16)(hn2:n<=4)(pv:yK w n ps=rs.map yV)(ok:∀r∈rs,yaN r)(hl:rs.length<=4000)(hr:ybu w n ps<=4000)(ha:ak1 w n ps<=500000)(q3:yG .isin (.str (AE nm)) yet=AA (.bl qb))
  (hA:yd T 20 yn [.tp AC [.str (AE nm)],.int n] []=.ok (.int na) []):ycy (yd T 20 yfg [.tp AC [.str (AE nm)]] []=.ok (.bl AB) []) qb (.tp AC [.str (AE nm)]) w n na rs:=by
 unfold yfc at hc;split at hc
 .rename_i b vs e0;erw[AK,decide_eq_true_eq]at hc;let⟨⟨⟨c1,c2⟩,c3⟩,c4⟩:=hc;exact zq5 hw hn2 rfl (λ_=>rfl) e0 c1 c2 c3 c4 id pv ok hl hr ha q3 hA
 .cases hc
abbrev cG:Cel:=(103,0)
def zj0{w:Nat}{A b:Int}(a0:0<=A)(a1:A<2^w)(hb:b=0 \/ b=1):BS A (b*(2^w-1))=A+b*(2^w-1-2*A):=by
 obtain⟨x,rfl⟩:∃n:Nat,A=n:=⟨A.toNat,by lia⟩;rcases hb with rfl|rfl
 .rw[Bv,Bv];have:=zkx x 0;simpa using this
 .rw[Bk,Bk];have hp:=pw w;have h1:(0:Nat)<2^w:=HV ∅;have h2:((2:Int)^w-1)=((2^w-1:Nat):Int):=by lia
  have h3:=zfo x (2^w-1);have h4:=zc8 x (2^w-1);have h6:x ||| (2^w-1)=2^w-1:=by
   apply Nat.eq_of_testBit_eq;intro i;rw[Nat.testBit_or,Nat.testBit_two_pow_sub_one]
   by_cases hi:i<w
   .simp[hi]
   .have:x<2^i:=A3 ∅ (Ac ∅ (show w<=i by lia));rw[Nat.testBit_lt_two_pow this];simp[hi]
  rw[BS,h2,h3,h4,h6,Bt,G2 ∅];lia
def trL(src to n:Nat):List Rw:=upTo (λi=>[Rw.odd cT (src,(i:Int)) cG,Rw.sum (to,(i:Int)) cT cZ]) n
def ziT{w:Nat}(hw:1<=w){src to:Nat}(h1:src≠to)(h2:src≠116)(h3:to≠116/\to≠103/\to≠122)(M:Mem)(b:Int)(hb:b=0 \/ b=1)(hg:M 103 0=b*(2^w-1))(hz:M 122 0=0):∀n,Dg (2^w) M src n->∃M' k',yD (2^w) (trL src to n) M b=(M',k')/\(∀d j,d≠116->(d≠to \/ (n:Int)<=j)->M' d j=M d j)/\Dg (2^w) M' to n/\0<=k'/\k'<=1/\yx (2^w) M' to n+k' * (2^w)^n=yx (2^w) M src n+b*((2^w)^n-2*yx (2^w) M src n)
 |0,_=>⟨M,b,rfl,λ_ _ _ _=>rfl,λi hi=>by lia,by lia,by lia,by simp[yx]⟩
 |n+1,hd=>by
  have hW:(0:Int)<2^w:=A7 ∅;let⟨M1,k',e1,o1,g1,p1,p2,v1⟩:=ziT hw h1 h2 h3 M b hb hg hz n hd.mono;let⟨a0,a1⟩:=hd n ∅;have hX:0<=M src n+b*(2^w-1-2*M src n)/\M src n+b*(2^w-1-2*M src n)<2^w:=by rcases hb with rfl|rfl<;>lia
  generalize hXX:M src n+b*(2^w-1-2*M src n)=X at *;let⟨d1,d2,d3,d4,d5⟩:=zbw (W:=2^w) hW (s:=X+0+k') ∅ ∅;have hT:∀d j,d≠116->upd M1 116 0 X d j=M1 d j:=λd j h=>by unfold upd;rw[if_neg ∅]
  have hv:∀i:Nat,i<n->upd M1 116 0 X to i=M1 to i:=λi _=>hT to i h3.1;refine⟨upd (upd M1 116 0 X) to n ((X+0+k')%2^w),(X+0+k')/2^w,?_,λd j h6 h7=>?_,zdQ (λi hi=>by rw[hv i hi];exact g1 i hi) d1 d2,d3,d4,?_⟩
  .rw[trL,upTo,zl];show yD (2^w) [Rw.odd cT (src,(n:Int)) cG,Rw.sum (to,(n:Int)) cT cZ] (yD (2^w) (trL src to n) M b).1 (yD (2^w) (trL src to n) M b).2=_;rw[e1];have hgg:M1 103 0=b*(2^w-1):=by rw[o1 103 0 ⋯ (.inl (λz=>h3.2.1 z.symm)),hg]
   have hss:M1 src n=M src n:=o1 src n h2 (.inl h1);have htt:upd M1 116 0 X 116 0=X:=by unfold upd;rw[if_pos ⟨rfl,rfl⟩]
   have hzz:upd M1 116 0 X 122 0=0:=by rw[hT 122 0 ⋯,o1 122 0 ⋯ (.inl (λz=>h3.2.2 z.symm)),hz]
   erw[yD,stepM,rd,wr,cT,cG,cZ,hgg,hss,zj0 a0 a1 hb,hXX,htt,hzz]
  .unfold upd;rw[if_neg ∅,if_neg ∅,o1 d j h6 ∅]
  .rw[zcp,zd (M':=M1) (c':=to) n hv,yx,Ae];generalize ((2:Int)^w)^n=P,(X+0+k')%2^w=u,(X+0+k')/2^w=t,M src (n:Int)=A at *;generalize (2:Int)^w=W at *;generalize yx W M src n=V,yx W M1 to n=Z at *;have e3:(u+t*W)*P=(X+0+k')*P:=by rw[d5]
   rw[BQ,BQ,BQ,Bv,Am t W P,Af W P,<-hXX,BQ,Am b,B3,B3,Bk,Am 2 A P,Af W P]at e3;generalize u*P=x1,t*(P*W)=x2,A*P=x3,k' * P=x4 at *;generalize P*W=x7 at *;rcases hb with rfl|rfl<;>lia
def trn(s src to n:Nat):List Rw:=.ask (s,0) :: .less cG cZ cZ::trL src to n
def zeS{w:Nat}(hw:1<w){s src to:Nat}(h1:src≠to)(h2:src≠116/\src≠103)(h3:to≠116/\to≠103/\to≠122){M:Mem}{k:Int}{b:Int}(hb:b=0 \/ b=1)(hs:M s 0=b)(hz:M 122 0=0){n:Nat}(hd:Dg (2^w) M src n):
  ∃M' k',yD (2^w) (trn s src to n) M k=(M',k')/\(∀d j,d≠116->d≠103->d≠to->M' d j=M d j)/\Dg (2^w) M' to n/\yx (2^w) M' to n=(if b=1 then 0-yx (2^w) M src n else yx (2^w) M src n)%(2^w)^n:=by
 have hW:(0:Int)<2^w:=A7 ∅;have hW4:(4:Int)<=2^w:=by
  have h:(2:Nat)^2<=2^w:=Ac ∅ ∅;have h2:=pw w;lia
 have e1:stepM (2^w) M k (.ask (s,0))=(M,b):=by
  erw[stepM,rd,hs];rcases hb with rfl|rfl<;>rfl
 have e2:stepM (2^w) M b (.less cG cZ cZ)=(upd M 103 0 (b*(2^w-1)),b):=by
  erw[stepM,rd,wr,cG,cZ,hz];rcases hb with rfl|rfl
  .simp[bi]
  .have:((0:Int)-0-1)%2^w=1*(2^w-1):=by
    rw[<-DG,A6 ∅ ∅];lia
   rw[this];rfl
 have o2:∀d j,d≠103->upd M 103 0 (b*(2^w-1)) d j=M d j:=λd j hd=>by unfold upd;rw[if_neg ∅]
 have f2:upd M 103 0 (b*(2^w-1)) 103 0=b*(2^w-1):=by unfold upd;rw[if_pos ⟨rfl,rfl⟩]
 generalize upd M 103 0 (b*(2^w-1))=M1 at *;let⟨M2,k2,e3,o3,g3,p3,p4,v3⟩:=ziT (w:=w) ∅ h1 h2.1 h3 M1 b hb f2 (by rw[o2 122 0 ⋯,hz]) n (λi hi=>by rw[o2 src i h2.2];exact hd i hi);rw[zd (M:=M1) (M':=M) (c:=src) (c':=src) n λi _=>o2 src i h2.2]at v3;let⟨r0,r1⟩:=zG hW n g3;refine⟨M2,k2,?_,λd j h4 h5 h6=>by rw[o3 d j h4 (.inl h6),o2 d j h5],g3,?_⟩
 .rw[trn,zy,e1,zy,e2];exact e3
 .generalize ((2:Int)^w)^n=P,yx (2^w) M src n=V,yx (2^w) M2 to n=Z at *;rcases hb with rfl|rfl
  .rw[if_neg ∅,show V=Z+k2*P by lia,Bm,A6 r0 r1]
  .have e:Z+k2*P=0-V+1*P:=by lia
   rw[if_pos rfl,<-Bm (0-V) 1 P,<-e,Bm,A6 r0 r1]
def zeP{w:Nat}(hw:1<w){s c:Nat}(hs:s≠116)(hc:c≠116){M:Mem}{k:Int}(k0:k=0)(hz:M 122 0=0){n:Nat}(hd:Dg (2^w) M c (n+1))(j:Int):
  yD (2^w) [.twice cT (c,((n+1:Nat):Int)-1),.sum (s,j) cZ cZ] M k=(upd (upd M 116 0 (2*M c n%2^w)) s j (if (2^w:Int)^(n+1)<=2*yx (2^w) M c (n+1)then 1 else 0),0):=by
 have hW4:(4:Int)<=2^w:=by
  have h:(2:Nat)^2<=2^w:=Ac ∅ ∅;have h2:=pw w;lia
 subst k0;have ht:=zil ∅ hd;have hn:((n+1:Nat):Int)-1=n:=by lia
 have hz2:upd M 116 0 (2*M c n%2^w) 122 0=0:=by unfold upd;rw[if_neg ∅,hz]
 have hT:2*M c n/2^w=if (2^w:Int)^(n+1)<=2*yx (2^w) M c (n+1)then 1 else 0:=ht;rw[hn];erw[yD,stepM,rd,wr,cT,cZ,Dx,hT,hz2];generalize hb:(if (2^w:Int)^(n+1)<=2*yx (2^w) M c (n+1)then(1:Int)else 0)=b;have hb2:0<=b/\b<=1:=by split at hb<;>lia
 rw[DU,A6 hb2.1 ∅,B6 hb2.1 ∅]
def sqA(w n:Nat):List Rw:=[.twice cT (97,(n:Int)-1),.sum (105,0) cZ cZ]++([.twice cT (98,(n:Int)-1),.sum (106,0) cZ cZ]++(.odd (107,0) (105,0) (106,0)::(trn 105 97 117 n++(trn 106 98 118 n++(mvR 117 n++(ycN 118 113 114 w n++(trn 107 113 99 n++trn 105 114 100 n)))))))
def sqB(n:Nat):List Rw:=[.twice cT (113,(n:Int)-1),.sum (109,1) cZ cZ]++(.any (109,1) (109,1) (107,0) :: .odd (109,1) (109,1) (107,0)::yN n)
def yak(w n:Nat):List Rw:=sqA w n++nR n++sqB n
def o0(c:Nat):Op:=cx c 0 0 0 0
def lO(c:Nat):Op:=cx c (-1) 0 0 1
def trT(s src to:Nat):List T1:=[.row (rS "ask" [o0 s]),.row (rS "less" [o0 103,oZ,oZ]),.rounds 0 1 0 [.row (rS "odd" [oT,cx src 0 1 0 0,o0 103]),.row (rS "sum" [cx to 0 1 0 0,oT,oZ])]]
def sgT(s c:Nat):List T1:=[.row (rS "twice" [oT,lO c]),.row (rS "sum" [o0 s,oZ,oZ])]
def sqT:List T1:=sgT 105 97++(sgT 106 98++(.row (rS "odd" [o0 107,o0 105,o0 106])::(trT 105 97 117++(trT 106 98 118++(mvT 117 :: .rounds 0 0 1 (dvT 118 113 114)::(trT 107 113 99++(trT 105 114 100++(nT++(.row (rS "twice" [oT,lO 113]) :: .row (rS "sum" [oM 1,oZ,oZ]) :: .row (rS "any" [oM 1,oM 1,o0 107]) :: .row (rS "odd" [oM 1,oM 1,o0 107])::ycs 0 1)))))))))
def zpT(s src to:Nat)(w:Int)(n:Nat):yK w n (trT s src to)=(trn s src to n).map yV:=by
 have h:=zaQ (g:=λI=>yan w n I [.row (rS "odd" [oT,cx src 0 1 0 0,o0 103]),.row (rS "sum" [cx to 0 1 0 0,oT,oZ])]) (f:=λi=>[Rw.odd cT (src,(i:Int)) cG,Rw.sum (to,(i:Int)) cT cZ]) (λI=>by simp[yan,T2.rows,Rs.pv,rS,Op.pv,oT,oZ,o0,cx,Cx.at,yV,yI]) n;erw[yK,trT,CB,Cv,T1.rows,zdh,h,trn,trL,AL,BR];simp[Rs.pv,rS,Op.pv,oZ,o0,cx,Cx.at,yV,yI]
def zp7(c n:Nat):(lO c).pv 0 0 n=yI (c,(n:Int)-1):=by
 have:(-1:Int)+0*0+0*0+1*(n:Int)=(n:Int)-1:=by lia
 erw[lO,Op.pv,cx,Cx.at,this,yI]
def zhJ(w n:Int)(p:T1)(ps:List T1):yK w n (p::ps)=T1.rows w n p++yK w n ps:=by simp[yK]
def zpF(w n:Nat):yK w n sqT=(yak w n).map yV:=by
 have m0:(oM 1).pv 0 0 n=yI (109,1):=by simp[oM,Op.pv,cx,Cx.at,yI]
 have z0:oZ.pv 0 0 n=yI cZ:=by simp[oZ,Op.pv,cx,Cx.at,yI]
 have t0:oT.pv 0 0 n=yI cT:=by simp[oT,Op.pv,cx,Cx.at,yI]
 have c0:∀c:Nat,(o0 c).pv 0 0 n=yI (c,0):=λc=>by simp[o0,Op.pv,cx,Cx.at,yI]
 erw[sqT,sgT,zdy,zhJ,zpT,zo2,zkW,zqp,zkK,yak,sqA,sqB,CU,AL,Ar,Ap,BI,B9];erw[T1.rows,Rs.pv,rS,AL,Ar,Ap,BI,zp7,m0,z0,t0,c0];rfl
def zq6:Lt 118 113 114:=⟨by decide,by decide,by decide,by decide,by decide,by decide⟩
def zle{W:Int}(n:Nat)(M:Mem)(k:Int)(hz:M 122 0=0):(yD W (nR n) M k).2=0:=by
 have e:nR n=([.set cS 0]++upTo (λi=>[Rw.any cS cS (98,i)]) n)++[.ask cS,.set (109,0) 1,.less (109,0) (109,0) cZ]:=rfl;have hm:∀r∈[.set cS 0]++upTo (λi=>[Rw.any cS cS (98,i)]) n,tgN 122 0 r:=λr hr=>zly (n:=n) ⋯ (.inl ⋯) r (by rw[e];exact Dd _ hr);rw[e,zl];have hz1:=zcD W (d:=122) (j:=0) _ M k hm;generalize yD W ([.set cS 0]++upTo (λi=>[Rw.any cS cS (98,i)]) n) M k=R at *;let⟨M1,k1⟩:=R;simp only at *;rw[hz]at hz1;erw[yD,stepM,rd,wr,upd,cS,cZ,El,false_and,if_false,and_self,if_true,hz1]
 cases (M1 115 0==0)<;>rfl
def yah(x:Int):Int:=if x<0 then -x else x
def ybB(X Y:Int):Int:=if (decide (X<0) != decide (Y<0))=AB then 0-yah X/yah Y else yah X/yah Y
def zqr{a b:Int}(ha:a=0 \/ a=1)(hb:b=0 \/ b=1):BS a b=(if a=b then 0 else 1)/\BS (Av a b) b=(if a=1/\b=0 then 1 else 0):=by
 rcases ha with rfl|rfl<;>rcases hb with rfl|rfl<;>decide
def zhw{P x:Int}(x0:0<=x)(x1:x<P):(if (if P<=2*x then(1:Int)else 0)=1 then 0-x else x)%P=yah (sgd P x)/\(sgd P x<0 ↔ P<=2*x)/\yah (sgd P x)<P/\0<=yah (sgd P x)/\(0<x->0<yah (sgd P x)):=by
 unfold yah sgd
 by_cases h:P<=2*x
 .simp only[h,if_true];have e:(0-x)%P=P-x:=by
   rw[<-DG];rw[A6 ∅ ∅];lia
  rw[if_pos ∅,e];exact⟨by lia,⟨λ_=>trivial,λ_=>by lia⟩,by lia,by lia,λ_=>by lia⟩
 .have h0:¬x<0:=by lia
  erw[h,if_false,h0];rw[if_neg ∅,A6 x0 x1];exact⟨rfl,trivial,x1,x0,λz=>z⟩
def zeb(x:Int):x<0/\yah x=-x \/ ¬x<0/\yah x=x:=by
 unfold yah
 by_cases h:x<0
 .rw[if_pos h];exact .inl ⟨h,rfl⟩
 .rw[if_neg h];exact .inr ⟨h,rfl⟩
def zmz(X Y:Int):X-Y*ybB X Y=if X<0 then 0-yah X%yah Y else yah X%yah Y:=by
 have hd:=Int.emod_def (yah X) (yah Y);unfold ybB;rcases zeb X with⟨a,ea⟩|⟨a,ea⟩<;>rcases zeb Y with⟨b,eb⟩|⟨b,eb⟩<;>erw[a,b,decide_true,decide_false,bne_self_eq_false,BJ,if_false,if_true,Bool.true_bne,Bool.false_bne,FV,Ff]<;>rw[hd]<;>generalize yah X/yah Y=q at *<;>rw[ea,eb]<;>(have e1:Y*(0-q)=-(Y*q):=by rw[FR,Int.mul_zero,Int.zero_sub])<;>(have e2:-Y*q=-(Y*q):=Int.neg_mul ..)<;>(try rw[e1])<;>(try rw[e2])<;>generalize Y*q=z at *<;>lia
def znR{p:Prop}[Decidable p]:(if p then(1:Int)else 0)=bi (decide p):=by
 by_cases h:p
 .rw[if_pos h,decide_eq_true h];rfl
 .rw[if_neg h,decide_eq_false h];rfl
def zqf{A:Mem}{c d e:Nat}{i v j k u:Int}(h:d≠c)(g:d≠e \/ j≠k):upd (upd A c i v) e k u d j=A d j:=by
 unfold upd;rw[if_neg λz=>g.elim (λa=>a z.1) λa=>a z.2,if_neg λe=>h e.1]
def zq7{A:Mem}{c d:Nat}{j k u v:Int}(g:d≠c \/ j≠k):upd (upd A c k v) c k u d j=A d j:=by
 have h:¬(d=c/\j=k):=λz=>g.elim (λa=>a z.1) λa=>a z.2;unfold upd;rw[if_neg h,if_neg h]
def zqg{p:Prop}[Decidable p]{s:Int}(h:(if p then(1:Int)else 0)=s):s=0 \/ s=1:=by subst h;split<;>decide
def zq8{p:Prop}[Decidable p]{s:Int}(h:(if p then(0:Int)else 1)=s):s=0 \/ s=1:=by subst h;split<;>decide
theorem if1{p:Prop}[Decidable p]{s:Int}(h:(if p then(1:Int)else 0)=s):s=1 ↔ p:=by
 subst h;by_cases g:p
 .rw[if_pos g];exact⟨λ_=>g,λ_=>rfl⟩
 .rw[if_neg g];exact⟨λz=>absurd z ⋯,λz=>absurd z g⟩
def zp5{sx sy sk X Y:Int}(hx:sx=0 \/ sx=1)(hy:sy=0 \/ sy=1)(h1:sx=1 ↔ X<0)(h2:sy=1 ↔ Y<0)(hsk:(if sx=sy then(0:Int)else 1)=sk):sk=1 ↔ (decide (X<0) != decide (Y<0))=true:=by
 by_cases a:X<0<;>by_cases b:Y<0<;>rcases hx with rfl|rfl<;>rcases hy with rfl|rfl<;>simp[a,b]at h1 h2 hsk ⊢<;>lia
def zng{P D t sk:Int}(hP:0<P)(hD:0<=D)(ht:(if P<=2*D then(1:Int)else 0)=t)(h:sk=0 \/ sk=1):(t=1/\sk=0) ↔ P<=2*(if sk=1 then 0-D else D):=by
 rw[if1 ht];rcases h with rfl|rfl
 .rw[if_neg ⋯];exact⟨λz=>z.1,λz=>⟨z,rfl⟩⟩
 .rw[if_pos rfl];lia
def zg5{w:Nat}(hw:1<w){n:Nat}{x y:Int}(x0:0<=x)(x1:x<(2^w:Int)^(n+1))(y0:0<y)(y1:y<(2^w:Int)^(n+1)){P X Y Q:Int}(hP:P=(2^w:Int)^(n+1))(hX:X=sgd P x)(hY:Y=sgd P y)(hQ:Q=ybB X Y):
  yx (2^w) (yD (2^w) (yak w (n+1)) (yaq (2^w) (n+1) x y) 0).1 99 (n+1)=Q%P/\yx (2^w) (yD (2^w) (yak w (n+1)) (yaq (2^w) (n+1) x y) 0).1 100 (n+1)=(X-Y*Q)%P /\
  (yD (2^w) (yak w (n+1)) (yaq (2^w) (n+1) x y) 0).1 109 0=0/\(yD (2^w) (yak w (n+1)) (yaq (2^w) (n+1) x y) 0).1 109 1=bi (decide (P<=2*Q)) /\
  (yD (2^w) (yak w (n+1)) (yaq (2^w) (n+1) x y) 0).1 109 2=bi (Q%P==0)/\(yD (2^w) (yak w (n+1)) (yaq (2^w) (n+1) x y) 0).1 109 3=bi (decide (P<=2*(Q%P))):=by
 have hW:(0:Int)<2^w:=A7 ⋯;have hb0:∀d j,d≠97->d≠98->yaq (2^w) (n+1) x y d j=0:=λd j h1 h2=>zoc _ _ _ h1 h2 _;have da:=zkz (n+1) x y hW;have db:=zkX (n+1) x y hW;have va:=zkD (n+1) x y hW x0 x1;have vb:=zkE (n+1) x y hW (Br y0) y1;rw[yak,sqB];generalize yaq (2^w) (n+1) x y=A at hb0 da db va vb ⊢;have e1:=zeP hw (s:=105) (c:=97) (M:=A) (k:=0) ⋯ ⋯ rfl (hb0 122 0 ⋯ ⋯) da 0;rw[va,<-hP]at e1;generalize hsx:(if P<=2*x then(1:Int)else 0)=sx at e1;have o1:∀d j,d≠116->d≠105->upd (upd A 116 0 (2*A 97 n%2^w)) 105 0 sx d j=A d j:=λd j h1 h2=>zqf h1 (.inl h2);have f1:upd (upd A 116 0 (2*A 97 n%2^w)) 105 0 sx 105 0=sx:=zf5;generalize upd (upd A 116 0 (2*A 97 n%2^w)) 105 0 sx=M1 at e1 o1 f1;have e2:=zeP hw (s:=106) (c:=98) (M:=M1) (k:=0) ⋯ ⋯ rfl (by rw[o1 122 0 ⋯ ⋯];exact hb0 122 0 ⋯ ⋯) (n:=n) (λi hi=>by rw[o1 98 i ⋯ ⋯];exact db i hi) 0;rw[zd (M:=M1) (M':=A) (c:=98) (c':=98) (n+1) λi _=>o1 98 i ⋯ ⋯,vb,<-hP]at e2;generalize hsy:(if P<=2*y then(1:Int)else 0)=sy at e2;have o2:∀d j,d≠116->d≠106->upd (upd M1 116 0 (2*M1 98 n%2^w)) 106 0 sy d j=M1 d j:=λd j h1 h2=>zqf h1 (.inl h2);have f2:upd (upd M1 116 0 (2*M1 98 n%2^w)) 106 0 sy 106 0=sy:=zf5;generalize upd (upd M1 116 0 (2*M1 98 n%2^w)) 106 0 sy=M2 at e2 o2 f2;have hsx01:sx=0 \/ sx=1:=zqg hsx;have hsy01:sy=0 \/ sy=1:=zqg hsy;have f2x:M2 105 0=sx:=by rw[o2 105 0 ⋯ ⋯,f1]
 have e3:stepM (2^w) M2 0 (.odd (107,0) (105,0) (106,0))=(upd M2 107 0 (if sx=sy then 0 else 1),0):=by
  erw[stepM,rd,wr,f2x,f2,(zqr hsx01 hsy01).1]
 generalize hsk:(if sx=sy then(0:Int)else 1)=sk at e3;have hsk01:sk=0 \/ sk=1:=zq8 hsk;have o3:∀d j,d≠107->upd M2 107 0 sk d j=M2 d j:=λd j h1=>zhi h1;have f3:upd M2 107 0 sk 107 0=sk:=zf5;generalize upd M2 107 0 sk=M3 at e3 o3 f3;have oA:∀d j,d≠116->d≠105->d≠106->d≠107->M3 d j=A d j:=λd j h1 h2 h3 h4=>by rw[o3 d j h4,o2 d j h1 h3,o1 d j h1 h2]
 let⟨M4,k4,e4,o4,g4,v4⟩:=zeS hw (s:=105) (src:=97) (to:=117) ⋯ ⋯ ⋯ (M:=M3) (k:=0) hsx01 (by rw[o3 105 0 ⋯,f2x]) (by rw[oA 122 0 ⋯ ⋯ ⋯ ⋯];exact hb0 122 0 ⋯ ⋯) (n:=n+1) (λi hi=>by rw[oA 97 i ⋯ ⋯ ⋯ ⋯];exact da i hi);rw[zd (M:=M3) (M':=A) (c:=97) (c':=97) (n+1) λi _=>oA 97 i ⋯ ⋯ ⋯ ⋯,va]at v4;have p4:∀d j,d≠116->d≠103->d≠117->d≠105->d≠106->d≠107->M4 d j=A d j:=λd j h1 h2 h3 h4 h5 h6=>by rw[o4 d j h1 h2 h3,oA d j h1 h4 h5 h6]
 let⟨M5,k5,e5,o5,g5,v5⟩:=zeS hw (s:=106) (src:=98) (to:=118) ⋯ ⋯ ⋯ (M:=M4) (k:=k4) hsy01 (by rw[o4 106 0 ⋯ ⋯ ⋯,o3 106 0 ⋯,f2]) (by rw[p4 122 0 ⋯ ⋯ ⋯ ⋯ ⋯ ⋯];exact hb0 122 0 ⋯ ⋯) (n:=n+1) (λi hi=>by rw[p4 98 i ⋯ ⋯ ⋯ ⋯ ⋯ ⋯];exact db i hi);rw[zd (M:=M4) (M':=A) (c:=98) (c':=98) (n+1) λi _=>p4 98 i ⋯ ⋯ ⋯ ⋯ ⋯ ⋯,vb]at v5;let⟨ax,bx,cx,dx,_⟩:=zhw x0 x1;let⟨ay,by',cy,dy,fy⟩:=zhw (x:=y) (Br y0) y1;rw[<-hP]at ax bx cx dx ay by' cy dy fy v4 v5
 rw[hsx,<-hX]at ax;rw[hsy,<-hY]at ay;rw[<-hX]at bx cx dx;rw[<-hY]at by' cy dy fy
 rw[ax]at v4;rw[ay]at v5;have fy:=fy y0;let⟨M6,e6,o6,v6⟩:=zfT (W:=2^w) (x:=117) ⋯ M5 k5 (n+1);have z5:∀d j,d≠116->d≠103->d≠117->d≠118->d≠105->d≠106->d≠107->M5 d j=A d j:=λd j h1 h2 h3 h4 h5 h6 h7=>by rw[o5 d j h1 h2 h4,p4 d j h1 h2 h3 h5 h6 h7]
 have z0:∀(d m:Nat),(d=113 \/ d=114)->yx (2^w) M6 d m=0/\Dg (2^w) M6 d m:=λd m h=>by
  have hz:∀i:Nat,M6 d i=0:=λi=>by
   rcases h with rfl|rfl
   .rw[o6 _ i ⋯,z5 _ i ⋯ ⋯ ⋯ ⋯ ⋯ ⋯ ⋯,hb0 _ i ⋯ ⋯]
   .rw[o6 _ i ⋯,z5 _ i ⋯ ⋯ ⋯ ⋯ ⋯ ⋯ ⋯,hb0 _ i ⋯ ⋯]
  have hd:Dg (2^w) M6 d m:=λi _=>by rw[hz];exact⟨G6 0,hW⟩
  exact⟨(zaW hW m hd).2 λi _=>hz i,hd⟩
 have u5:∀j,M5 117 j=M4 117 j:=λj=>o5 117 j ⋯ ⋯ ⋯;have D0:Dv w (n+1) 118 113 114 M5 M6 (yah X) (yah Y) 0:={
  de:=λi hi=>by rw[v6 i hi,u5];exact g4 i hi
  dr:=(z0 114 _ (.inr rfl)).2
  dq:=(z0 113 _ (.inl rfl)).2
  keep:=λd j h1 _ _ _ _=>o6 d j h1
  rest:=by rw[(z0 114 _ (.inr rfl)).1];exact fy
  sent:=by
   rw[(z0 114 _ (.inr rfl)).1,(z0 113 _ (.inl rfl)).1,zd (M':=M4) (c':=117) (n+1) λi hi=>by rw[v6 i hi,u5],v4];rw[Bv,Bv,DU,DU,Dy,CW]}
 have z122:M5 122 0=0:=by rw[z5 122 0 ⋯ ⋯ ⋯ ⋯ ⋯ ⋯ ⋯];exact hb0 122 0 ⋯ ⋯
 let⟨M7,k7,e7,D7⟩:=zcC hw zq6 (k:=k5) z122 g5 v5 (by rw[<-hP];exact cx) D0 (w*(n+1)) (AU _);let⟨q1,q2,q3⟩:=zgo hw dx D7 (by rw[<-hP];exact Br cy);have k7':∀d j,d≠101->d≠114->d≠113->d≠116->d≠102->M7 d j=M5 d j:=D7.keep;have s7:M7 107 0=sk:=by rw[k7' 107 0 ⋯ ⋯ ⋯ ⋯ ⋯,o5 107 0 ⋯ ⋯ ⋯,o4 107 0 ⋯ ⋯ ⋯,f3]
 have x7:M7 105 0=sx:=by rw[k7' 105 0 ⋯ ⋯ ⋯ ⋯ ⋯,o5 105 0 ⋯ ⋯ ⋯,o4 105 0 ⋯ ⋯ ⋯,o3 105 0 ⋯,f2x]
 have z7:M7 122 0=0:=by rw[k7' 122 0 ⋯ ⋯ ⋯ ⋯ ⋯,z122]
 let⟨M8,k8,e8,o8,g8,v8⟩:=zeS hw (s:=107) (src:=113) (to:=99) ⋯ ⋯ ⋯ (M:=M7) (k:=k7) hsk01 s7 z7 D7.dq;let⟨M9,k9,e9,o9,g9,v9⟩:=zeS hw (s:=105) (src:=114) (to:=100) ⋯ ⋯ ⋯ (M:=M8) (k:=k8) hsx01 (by rw[o8 105 0 ⋯ ⋯ ⋯,x7]) (by rw[o8 122 0 ⋯ ⋯ ⋯,z7]) (n:=n+1) (λi hi=>by rw[o8 114 i ⋯ ⋯ ⋯];exact D7.dr.mono i hi);rw[zd (M:=M8) (M':=M7) (c:=114) (c':=114) (n+1) λi _=>o8 114 i ⋯ ⋯ ⋯,q2]at v9;rw[q1]at v8;have p9:∀d j,d≠116->d≠103->d≠99->d≠100->M9 d j=M7 d j:=λd j h1 h2 h3 h4=>by rw[o9 d j h1 h2 h4,o8 d j h1 h2 h3]
 have kb:∀j,M9 98 j=A 98 j:=λj=>by rw[p9 98 j ⋯ ⋯ ⋯ ⋯,k7' 98 j ⋯ ⋯ ⋯ ⋯ ⋯,z5 98 j ⋯ ⋯ ⋯ ⋯ ⋯ ⋯ ⋯]
 have z9:M9 122 0=0:=by rw[p9 122 0 ⋯ ⋯ ⋯ ⋯,z7]
 have n0:=(zkT hw (n+1) M9 k9 z9 (λi hi=>by rw[kb];exact(db i hi).1)).2 (λz=>by
  have:yx (2^w) A 98 (n+1)=0:=(zaW hW (n+1) db).2 λi hi=>by rw[<-kb];exact z i hi
  rw[vb]at this;exact absurd this (Int.ne_of_gt y0))
 have no:∀d j,d≠115->(d≠109 \/ j≠0)->(yD (2^w) (nR (n+1)) M9 k9).1 d j=M9 d j:=λd j h1 h2=>zcD _ _ _ _ (zly h1 h2);have nm:=zle (W:=2^w) (n+1) M9 k9 z9;have eA:yD (2^w) (sqA w (n+1)) A 0=(M9,k9):=by
  rw[sqA,zl,e1,zl];simp only;rw[e2,zy,e3,zl];simp only;rw[e4,zl];simp only;rw[e5,zl];simp only;rw[e6,zl];simp only;rw[ycN,e7,zl];simp only;rw[e8];exact e9
 rw[zl,zl,zl,eA];simp only;generalize yD (2^w) (nR (n+1)) M9 k9=R at n0 no nm ⊢;let⟨M10,k10⟩:=R;simp only at n0 no nm ⊢;have q10:∀j,M10 113 j=M7 113 j:=λj=>by rw[no 113 j ⋯ (.inl ⋯),p9 113 j ⋯ ⋯ ⋯ ⋯]
 have z10:M10 122 0=0:=by rw[no 122 0 ⋯ (.inl ⋯),z9]
 have ea:=zeP hw (s:=109) (c:=113) (M:=M10) (k:=k10) ⋯ ⋯ nm z10 (n:=n) (λi hi=>by rw[q10];exact D7.dq i hi) 1;rw[zd (M:=M10) (M':=M7) (c:=113) (c':=113) (n+1) λi _=>q10 i,q1,<-hP]at ea;rw[ea];generalize ht:(if P<=2*(yah X/yah Y)then(1:Int)else 0)=t at ea ⊢;have ht01:t=0 \/ t=1:=zqg ht;have ob:∀d j,d≠116->(d≠109 \/ j≠1)->upd (upd M10 116 0 (2*M10 113 n%2^w)) 109 1 t d j=M10 d j:=λd j h1 h2=>zqf h1 h2;have fb:upd (upd M10 116 0 (2*M10 113 n%2^w)) 109 1 t 109 1=t:=zf5;generalize upd (upd M10 116 0 (2*M10 113 n%2^w)) 109 1 t=Mb at ob fb ⊢;have sb:Mb 107 0=sk:=by rw[ob 107 0 ⋯ (.inl ⋯),no 107 0 ⋯ (.inl ⋯),p9 107 0 ⋯ ⋯ ⋯ ⋯,s7]
 have ec:∀rs:List Rw,yD (2^w) (.any (109,1) (109,1) (107,0) :: .odd (109,1) (109,1) (107,0)::rs) Mb 0=yD (2^w) rs (upd (upd Mb 109 1 (Av t sk)) 109 1 (if t=1/\sk=0 then 1 else 0)) 0:=λrs=>by
  have h1:stepM (2^w) Mb 0 (.any (109,1) (109,1) (107,0))=(upd Mb 109 1 (Av t sk),0):=by erw[stepM,rd,wr,fb,sb]
  have g1:upd Mb 109 1 (Av t sk) 109 1=Av t sk:=zf5;have g2:upd Mb 109 1 (Av t sk) 107 0=sk:=by rw[zhi ⋯,sb]
  rw[zy,h1,zy];erw[stepM,rd,wr,g1,g2,(zqr ht01 hsk01).2]
 simp only;rw[ec];have od:∀d j,(d≠109 \/ j≠1)->upd (upd Mb 109 1 (Av t sk)) 109 1 (if t=1/\sk=0 then 1 else 0) d j=Mb d j:=λd j h2=>zq7 h2;have fd:upd (upd Mb 109 1 (Av t sk)) 109 1 (if t=1/\sk=0 then 1 else 0) 109 1=(if t=1/\sk=0 then 1 else 0):=zf5;generalize upd (upd Mb 109 1 (Av t sk)) 109 1 (if t=1/\sk=0 then 1 else 0)=Md at od fd ⊢;have cc:∀j,Md 99 j=M8 99 j:=λj=>by rw[od 99 j (.inl ⋯),ob 99 j ⋯ (.inl ⋯),no 99 j ⋯ (.inl ⋯),o9 99 j ⋯ ⋯ ⋯]
 have cd:∀j,Md 100 j=M9 100 j:=λj=>by rw[od 100 j (.inl ⋯),ob 100 j ⋯ (.inl ⋯),no 100 j ⋯ (.inl ⋯)]
 have hqq:(if sk=1 then 0-yah X/yah Y else yah X/yah Y)=Q:=by
  rw[hQ];unfold ybB
  congr 1
  rw[eq_iff_iff];exact zp5 hsx01 hsy01 ((if1 hsx).trans bx.symm) ((if1 hsy).trans by'.symm) hsk
 have hrr:(if sx=1 then 0-yah X%yah Y else yah X%yah Y)=X-Y*Q:=by
  rw[hQ,zmz]
  congr 1
  rw[eq_iff_iff];exact(if1 hsx).trans bx.symm
 rw[hqq,<-hP]at v8;rw[hrr,<-hP]at v9;have dc:Dg (2^w) Md 99 (n+1):=λi hi=>by rw[cc];exact g8 i hi
 have vc:yx (2^w) Md 99 (n+1)=Q%P:=by rw[<-v8];exact zd _ λi _=>cc i
 let⟨f1',f2',f3',f4',f5'⟩:=zfZ hw Md 0 dc (by rw[od 122 0 (.inl ⋯),ob 122 0 ⋯ (.inl ⋯),z10]);have f6:∀j,(yD (2^w) (yN (n+1)) Md 0).1 100 j=Md 100 j:=λj=>zcD _ _ _ _ (zkM ⋯ ⋯ ⋯);rw[vc,<-hP]at f5';rw[vc]at f4';refine⟨?_,?_,?_,?_,f4',f5'⟩
 .rw[<-vc];exact zd _ λi _=>f1' i
 .rw[<-v9];exact zd _ λi _=>by rw[f6,cd]
 .rw[f2',od 109 0 (.inr ⋯),ob 109 0 ⋯ (.inr ⋯),n0]
 .rw[f3',fd,znR]
  congr 1
  rw[decide_eq_decide];rw[<-hqq];exact zng (by rw[hP];exact A7 hW) (Be dx (Br fy)) ht hsk01
def zi7(y q r n:Nat):(yaB y q r n).length=6*n+8:=by
 have t:∀c m,(twR c m).length=m:=λc m=>(zaC (f:=λJ=>[Rw.twice (c,(J:Int)) (c,(J:Int))]) (c:=1) (λ_=>rfl) m).trans (HX m);have l:(lsR r y n).length=n:=(zaC (f:=λJ=>[Rw.less (r,(J:Int)) (r,(J:Int)) (y,(J:Int))]) (c:=1) (λ_=>rfl) n).trans (HX n);have a:(adR r y n).length=n*2:=zaC (f:=λJ=>[Rw.both cT (y,(J:Int)) cF,Rw.sum (r,(J:Int)) (r,(J:Int)) cT]) (c:=2) (λ_=>rfl) n;simp[yaB,t,l,a];lia
def ziX{w n:Nat}(hw:w<=16)(hn2:n<=4):(yQ w n).length<=4000:=by
 have h:w*n*(6*n+8)<=64*32:=Ag (Ag hw hn2) ∅;simp[yQ,mvR,ycN,nR,yN,zc7,zaC (λ_=>zi7 98 99 100 n),zaC (f:=λi=>[Rw.any cS cS (98,(i:Int))]) (c:=1) (λ_=>rfl)];lia
def zlv{c n:Nat}(hc:97<=c/\c<=122)(hn:n<=8):∀r∈twR c n,yaN r:=by
 intro r hr;let⟨i,hi,hr⟩:=zao hr;erw[AT,Ad,or_false]at hr;subst hr;erw[yaN,yX];omega
def zk8{y q z:Nat}(hy:97<=y/\y<=122)(hq:97<=q/\q<=122)(hz:97<=z/\z<=122){n:Nat}(hn2:n<=4):∀r∈yaB y q z n,yaN r:=by
 intro r hr;erw[yaB,BM,AT]at hr;rcases hr with h|hr|hr|hr|h|h|h|hr|h|h|h|hr
 any_goals (subst h;erw[yaN,yX];lia)
 .exact zlv ∅ ∅ r hr
 .exact zlv ∅ ∅ r hr
 .let⟨i,hi,hr⟩:=zao hr;erw[AT,Ad,or_false]at hr;subst hr;erw[yaN,yX];omega
 .let⟨i,hi,hr⟩:=zao hr;erw[AT,Ad,or_false]at hr;rcases hr with rfl|rfl<;>erw[yaN,yX]<;>lia
 .exact zlv ∅ ∅ r hr
def zk6{w n:Nat}(hn:1<=n)(hn2:n<=4):∀r∈yQ w n,yaN r:=by
 intro r hr;erw[yQ,nR,BM,AT,Ad,or_false]at hr;rcases hr with ((hr|hr)|((h|hr)|h|h|h))|hr
 any_goals (subst h;erw[yaN,yX];lia)
 .let⟨i,hi,rfl⟩:=zaT hr;erw[yaN,yX];lia
 .let⟨i,hi,hr⟩:=zao hr;exact zk8 ∅ ∅ ∅ hn2 r hr
 .let⟨i,hi,hr⟩:=zao hr;erw[AT,Ad,or_false]at hr;subst hr;erw[yaN,yX];omega
 .exact zkR hn ∅ r hr
def zqs{w n:Nat}(hw:w<=16)(hn:1<=n)(hn2:n<=4):ycy (yd T 20 yfg [.tp AC [.str "quotient"]] []=.ok (.bl AB) []) AB (.tp AC [.str "quotient"]) w n n (yQ w n):=by
 have h0:w*n<=64:=Ag hw hn2;have h1:w*n*n<=64*4:=Ag h0 hn2;refine zqq (ps:=ydf) (by decide +kernel) hw hn2 (zoT w n) (zk6 hn hn2) (ziX hw hn2) ?_ ?_ (by ac_rfl) (aw (pb:=AC) rfl (λ_=>rfl) (by ac_rfl) (by ac_rfl) (by ac_rfl))
 .simp[ydf,mvT,dvT,nT,ybu,ycs,T1.rnd,zdh,zic,ze5,ybL,T2.rnd,FW];lia
 .simp[ydf,mvT,dvT,nT,ak1,ycs,T1.ak,zdh,zic,ze5,ak2,T2.ak,FW];lia
def zmq(s a b n:Nat):(trn s a b n).length=n*2+2:=by
 simp[trn,trL,zaC (f:=λi=>[Rw.odd cT (a,(i:Int)) cG,Rw.sum (b,(i:Int)) cT cZ]) (c:=2) (λ_=>rfl)]
def zk7{w n:Nat}(hw:w<=16)(hn2:n<=4):(yak w n).length<=4000:=by
 have h:w*n*(6*n+8)<=64*32:=Ag (Ag hw hn2) ∅;simp[yak,sqA,sqB,mvR,ycN,nR,yN,zmq,zc7,zaC (λ_=>zi7 118 113 114 n),zaC (f:=λi=>[Rw.any cS cS (98,(i:Int))]) (c:=1) (λ_=>rfl)];lia
def zgD{s a b n:Nat}(hs:97<=s/\s<=122)(ha:97<=a/\a<=122)(hb:97<=b/\b<=122)(hn:n<=8):∀r∈trn s a b n,yaN r:=by
 intro r hr;erw[trn,AT]at hr;rcases hr with rfl|rfl|hr
 .simp only[yaN,yX];lia
 .simp only[yaN,yX];lia
 .let⟨i,hi,hr⟩:=zao hr;erw[AT,Ad,or_false]at hr;rcases hr with rfl|rfl<;>erw[yaN,yX]<;>lia
def znP{w n:Nat}(hn:1<=n)(hn2:n<=4):∀r∈yak w n,yaN r:=by
 intro r hr;erw[yak,sqA,sqB,nR,BM,AT,Ad,or_false]at hr;rcases hr with (((h|h)|(h|h)|h|hr|hr|hr|hr|hr|hr)|((h|hr)|h|h|h))|(h|h)|h|h|hr
 any_goals (subst h;erw[yaN,yX];lia)
 .exact zgD ∅ ∅ ∅ ∅ r hr
 .exact zgD ∅ ∅ ∅ ∅ r hr
 .let⟨i,hi,rfl⟩:=zaT hr;erw[yaN,yX];lia
 .let⟨i,hi,hr⟩:=zao hr;exact zk8 ∅ ∅ ∅ hn2 r hr
 .exact zgD ∅ ∅ ∅ ∅ r hr
 .exact zgD ∅ ∅ ∅ ∅ r hr
 .let⟨i,hi,hr⟩:=zao hr;erw[AT,Ad,or_false]at hr;subst hr;erw[yaN,yX];omega
 .exact zkR hn ∅ r hr
def zqt{w n:Nat}(hw:w<=16)(hn:1<=n)(hn2:n<=4):ycy (yd T 20 yfg [.tp AC [.str "signed quotient"]] []=.ok (.bl AB) []) AB (.tp AC [.str "signed quotient"]) w n n (yak w n):=by
 have h0:w*n<=64:=Ag hw hn2;have h1:w*n*n<=64*4:=Ag h0 hn2;refine zqq (ps:=sqT) (by decide +kernel) hw hn2 (zpF w n) (znP hn hn2) (zk7 hw hn2) ?_ ?_ (by ac_rfl) (aw (pb:=AC) rfl (λ_=>rfl) (by ac_rfl) (by ac_rfl) (by ac_rfl))
 .simp[sqT,sgT,trT,mvT,dvT,nT,ybu,ycs,T1.rnd,zdh,zic,ze5,ybL,T2.rnd,FW];lia
 .simp[sqT,sgT,trT,mvT,dvT,nT,ak1,ycs,T1.ak,zdh,zic,ze5,ak2,T2.ak,FW];lia
def zka{c:Cl}{N acc lo:Int}{st:SO}:exs c [AA (.int N),AA (.int acc),AA (.int lo)] st (.cons (.asg (.n 1) (.bin .mul (.cst (.int 2)) (.var 1))) .nil)=.nx [AA (.int N),AA (.int (2*acc)),AA (.int lo)] st:=by
 erw[xs_nil,xs_cons,x_asg,yau,nxO,IC.ve1,IC.ve2,IC.ve3,R.bind,R.fl,yJ,yw,binI,yaC,toR,Aa,Ab,AN,AM];simp
def zcM(k n:Nat)(hn:n<1000)(st:SO):yd T (k+1) yh9 [.int n] st=.ok (.int (2^n)) st:=by
 let⟨ρ',st',h,u,e1,e2⟩:=zeD (call:=yd T k) (t:=.n 2) (b:=.cons (.asg (.n 1) (.bin .mul (.cst (.int 2)) (.var 1))) .nil) (λi ρ st=>∃u,ρ=[AA (.int n),AA (.int (2^i)),u]/\st=[]) (yt n 0 1) 0 [AA (.int n),AA (.int 1),AD] [] ⟨_,rfl,rfl⟩ (by
  rintro j x ρ st hx ⟨u,rfl,rfl⟩
  have hx:∃i,x=.int i:=by
   have:∀(n:Nat) (a d:Int) (j:Nat) x,(yt n a d)[j]?=AA x->∃i,x=.int i:=by
    intro n
    induction n with
    |zero=>intro a d j x h;simp[yt]at h
    |succ n ih=>
     intro a d j x h
     cases j with
     |zero=>simp[yt]at h;exact⟨a,h.symm⟩
     |succ j=>simp[yt]at h;exact ih _ _ _ _ h
   exact this _ _ _ _ _ hx
  let⟨i,rfl⟩:=hx;exact⟨_,_,_,rfl,zka,_,by rw[Ae,Af],rfl⟩)
 have hl:(yt n 0 1).length=n:=by
  have:∀(n:Nat) (a d:Int),(yt n a d).length=n:=by
   intro n
   induction n with
   |zero=>intro a d;rfl
   |succ n ih=>intro a d;simp[yt,ih]
  exact this _ _ _
 rw[hl,BZ]at e1;subst e1 e2;rw[yd,show T yh9=AA yhV from rfl];erw[yhV,AS,BD,if_true,nLs,nL,Ci,AL,Ar,Bo,Aj,Ap,BI,xs_cons,xs_nil,x_asg,x_for,x_ret,yau,nxO,IC.ve1,IC.ve2,R.fl,yJ,Aa,Ab,evi,R.bind,AN,ybQ,toL];erw[show (n:Int).natAbs<1000000000 by lia,if_true,CY,h];simp[nL]
def znS{i:Int}{j:Nat}:yw .shr (.int i) (.int (j:Int))=AA (.int (i/2^j)):=by
 erw[yw,binI];rw[if_pos ∅];simp
def zpU{i:Int}{j:Nat}(h:i.natAbs<18446744073709551616)(hj:j<=1000):yw .shl (.int i) (.int (j:Int))=AA (.int (i*2^j)):=by
 have hc:(0:Int)<=j/\(j:Int)<=1000000/\i.natAbs<18446744073709551616:=⟨by lia,by lia,h⟩;show (if (0:Int)<=j/\(j:Int)<=1000000/\i.natAbs<18446744073709551616 then AA (PV.int (i*2^(j:Int).toNat))else AD)=_;rw[if_pos hc];rfl
def zoD(k:Nat){x a b u v r:Int}(hs:a-1=b)(q1:yw .shr (.int x) (.int b)=AA (.int u))(q2:yw .shl (.int u) (.int a)=AA (.int v))(q3:x-v=r)(st:SO):yd T (k+1) y8 [.int x,.int a] st=.ok (.int r) st:=by
 have hT:T y8=AA yhR:=rfl;rw[zc hT rfl rfl rfl];simp! [yhR,hs,q1,q2,q3];rfl
def zoK(k:Nat){s a b h:Int}{f:Bool}(hs:a-1=b)(q1:yw .shl (.int 1) (.int b)=AA (.int h))(q2:(decide (-h<=s)&&decide (s<h))=f)(st:SO):yd T (k+1) yh7 [.int s,.int a] st=.ok (.int (bi (!f))) st:=by
 have hT:T yh7=AA yg2:=rfl;rw[zc hT rfl rfl rfl]
 cases e1:decide (-h<=s)with
 |false=>
  rw[e1,Gh]at q2;subst q2;simp! [yg2,hs,q1,e1,blO];rfl
 |true=>
  rw[e1,DB]at q2;subst q2
  cases e2:decide (s<h)<;>simp! [yg2,hs,q1,e1,e2,blO]<;>rfl
def zcG(k:Nat){K:Nat}(hK:1<=K)(hK2:K<=64){x:Int}(x0:0<=x)(x1:x<2^K)(st:SO):yd T (k+1) y8 [.int x,.int K] st=.ok (.int (sgd (2^K) x)) st:=by
 obtain⟨j,rfl⟩:∃j,K=j+1:=⟨K-1,by lia⟩;have p:(0:Int)<2^j:=A7 ∅;have e:(2:Int)^(j+1)=2*2^j:=by rw[Ae,Af]
 have hd:x/2^j=if 2*2^j<=2*x then 1 else 0:=by
  rw[e]at x1;split
  .have h1:1<=x/2^j:=DY p ∅;have h2:x/2^j<2:=Bb p ∅;lia
  .exact B6 x0 ∅
 refine zoD k (b:=(j:Int)) ∅ znS (zpU (by rw[hd];split<;>lia) ∅) ?_ st;rw[hd,e];unfold sgd;split
 .rw[Bk]
 .lia
def zq9(k:Nat){K:Nat}(hK:1<=K)(hK2:K<=64)(s:Int)(st:SO):yd T (k+1) yh7 [.int s,.int K] st=.ok (.int (bi (!ya9 (2^K) s))) st:=by
 obtain⟨j,rfl⟩:∃j,K=j+1:=⟨K-1,by lia⟩;have e:(2:Int)^(j+1)=2*2^j:=by rw[Ae,Af]
 refine zoK k (b:=(j:Int)) ∅ (zmc j ∅) ?_ st;unfold ya9;rw[e]
 congr 1
 .exact decide_eq_decide.2 ∅
 .exact decide_eq_decide.2 ∅
def zeW{W:Int}(hW:0<W):∀(n:Nat) (v:Int),yh W n (v%W^n)=yh W n v
 |0,v=>rfl
 |n+1,v=>by
  have hp:0<W^n:=A7 hW;have e1:v%W^(n+1)%W=v%W:=Int.emod_emod_of_dvd v ⟨W^n,by rw[Ae,Af]⟩;have e2:v%W^(n+1)/W=v/W%W^n:=by
   have h1:=BX v W;have h2:=BX (v/W) (W^n);have r0:=As v (show W≠0 by lia);have r1:=Ai v hW;have s0:=As (v/W) (show W^n≠0 by lia);have s1:=Ai (v/W) hp;have e:v=v%W+W*(v/W%W^n)+W^(n+1)*(v/W/W^n):=by
    have:W^(n+1)*(v/W/W^n)=W*(W^n*(v/W/W^n)):=by rw[Ae,Af (W^n) W,Am]
    rw[this];have h3:W*(v/W)=W*(v/W%W^n)+W*(W^n*(v/W/W^n)):=by rw[<-G5,h2]
    lia
   have hb:v%W+W*(v/W%W^n)<W^(n+1):=by
    have:=Ba (show v/W%W^n<=W^n-1 by lia) (show 0<=W by lia);rw[FR,CW]at this;rw[Ae,Af (W^n) W];lia
   have hb0:0<=W*(v/W%W^n):=C8 ∅ s0;have q:v%W^(n+1)=v%W+W*(v/W%W^n):=by
    rw[e,CP];rw[<-e];exact A6 ∅ hb
   rw[q,Int.add_mul_ediv_left _ _ ∅,B6 r0 r1,DU]
  rw[yh,yh,e1,e2,zeW hW n]
def zfr{W:Int}(hW:0<W):∀(n:Nat) (v:Int),0<=v->v<W^n->(yh W n v).any (· != 0)=!(v==0)
 |0,v,h0,h1=>by
  have:v=0:=by rw[Dy]at h1;lia
  subst this;rfl
 |n+1,v,h0,h1=>by
  have h2:=Be h0 (show 0<=W by lia);have h3:v/W<W^n:=Bb hW (by rw[Ae]at h1;exact h1);have h4:=BX v W;rw[yh,BP,zfr hW n _ h2 h3]
  by_cases q:v=0
  .subst q;simp
  .rw[beq_eq_false_iff_ne.2 q]
   by_cases a:v%W=0
   .have b:v/W≠0:=λz=>q (by rw[a,z]at h4;lia);rw[beq_eq_false_iff_ne.2 b,FV,HM]
   .rw[bne_iff_ne.2 a,Ey];rfl
def zdT{W:Int}(hW:0<W):∀(n:Nat) (v:Int),(yh W (n+1) v)[n]?=AA (v/W^n%W)
 |0,v=>by simp[yh]
 |n+1,v=>by
  rw[yh,AM,zdT hW n,C9 ∅,Ae,Af W]
def ziK(ws:List Int):anyI (ws.map .int)=AA (ws.any (· != 0)):=by
 induction ws with
 |nil=>rfl
 |cons a ws ih=>rw[AL,anyI,ih];rfl
def zmN(k:Nat){ws:List Int}{w b l r:Int}(hs:w-1=b)(hi:∀st,idxV st (.tp AC (ws.map .int)) (.int (-1))=AA (.int l))(q:yw .shr (.int l) (.int b)=AA (.int r))(st:SO):yd T (k+1) yhf [.tp AC (ws.map .int),.int w] st=.ok (.int r) st:=by
 have hT:T yhf=AA yhP:=rfl;rw[zc hT rfl rfl (by simp[nLs,nL,noLocs_ints])];generalize PV.tp AC (ws.map .int)=v at *;simp! [yhP,hi,hs,q];rfl
def zgY(k:Nat){w n:Nat}(hw:1<=w){v:Int}(v0:0<=v)(v1:v<(2^w:Int)^(n+1))(st:SO):yd T (k+1) yhf [.tp AC ((yh (2^w) (n+1) v).map .int),.int w] st=.ok (.int (bi (decide ((2^w:Int)^(n+1)<=2*v)))) st:=by
 obtain⟨j,rfl⟩:∃j,w=j+1:=⟨w-1,by lia⟩;have hW:(0:Int)<2^(j+1):=A7 ∅;have hp:(0:Int)<(2^(j+1):Int)^n:=A7 hW;have hj:(0:Int)<2^j:=A7 ∅;have e:(2:Int)^(j+1)=2^j*2:=Ae 2 j;have hl:=zdT hW n v;have hd1:v/(2^(j+1):Int)^n<2^(j+1):=Bb hp (by rw[Ae,Af]at v1;exact v1);have hdA:=Be v0 (Br hp);rw[A6 hdA hd1]at hl;have hi:∀st,idxV st (.tp AC ((yh (2^(j+1)) (n+1) v).map .int)) (.int (-1))=AA (.int (v/(2^(j+1):Int)^n)):=λst=>by
  have hlen:=zQ (2^(j+1)) (n+1) v;erw[idxV,yaZ,at?,ixI,BH,hlen];rw[if_neg ∅,if_pos ∅];rw[show ((-1:Int)+((n+1:Nat):Int)).toNat=n by lia];simp[hl]
 refine zmN k (b:=(j:Int)) ∅ hi ?_ st;rw[znS]
 congr 2
 have P:(2^(j+1):Int)^(n+1)=(2^(j+1):Int)^n*2^j*2:=by rw[Ae,Am,<-e]
 rw[C9 (Br hp)];have hq:0<(2^(j+1):Int)^n*2^j:=Int.mul_pos hp hj;rw[P]at v1 ⊢;generalize (2^(j+1):Int)^n*2^j=H at *
 by_cases h:H*2<=2*v
 .have h1:1<=v/H:=DY hq ∅;have h2:v/H<2:=Bb hq ∅;rw[decide_eq_true h];show _=(1:Int);lia
 .rw[decide_eq_false h];exact B6 v0 ∅
def ybP(W:Int)(M:Mem)(c:Nat):Nat->Nat->Int
 |_,0=>0
 |a,n+1=>ybP W M c (a+1) n*W+M c a
def zgH(W:Int)(M:Mem)(c:Nat):∀(n a:Nat),ybP W M c a (n+1)=ybP W M c a n+M c ((a+n:Nat):Int)*W^n
 |0,a=>by simp[ybP]
 |n+1,a=>by
  have h:=zgH W M c n (a+1);rw[ybP,h,ybP,show a+1+n=a+(n+1)by lia,Ae,BQ,Am];lia
def zkB(W:Int)(M:Mem)(c:Nat):∀n,ybP W M c 0 n=yx W M c n
 |0=>rfl
 |n+1=>by rw[zgH,zkB W M c n,yx,BZ]
def zih{W:Int}(hW:0<W){M:Mem}(h:ybR W M)(c:Nat):∀n a,yh W n (ybP W M c a n)=getM M c a n
 |0,a=>rfl
 |n+1,a=>by
  let⟨h0,h1⟩:=h c a;have e1:(ybP W M c (a+1) n*W+M c a)%W=M c a:=by
   rw[Ct,Bm];exact A6 h0 h1
  have e2:(ybP W M c (a+1) n*W+M c a)/W=ybP W M c (a+1) n:=by
   rw[Ct,FC _ _ ∅,B6 h0 h1,DU]
  rw[ybP,yh,e1,e2,zih hW h c n (a+1),getM]
def zeq{W:Int}(hW:0<W){M:Mem}(h:ybR W M)(c n:Nat){v:Int}(hv:yx W M c n=v):getM M c 0 n=yh W n v:=by
 rw[<-zih hW h c n 0,zkB,hv]
abbrev dv(ws us:List Int)(a b c d:Int):PV:=.tp AC [.tp AC (ws.map .int),.tp AC (us.map .int),.tp AC [.int a,.int b,.int c,.int d]]
def zma(k:Nat){d:PV}(hd:nL d=AB){s:AQ}{w n x y a b c t r z:Int}{ws us:List Int}{g:Bool}(i0:∀st,idxV st d (.int 0)=AA (.str s))(c0:yG .eq (.str s) (.str "compare")=AA (.bl AC))(E0:∀st,yd T k yiL [d,.int w,.int n,.int x,.int y] st=.ok .non st)(E1:∀st,yd T k yiM [d,.int w,.int n,.int x,.int y] st=.ok (.tp AC [.int a,.int b,.int c]) st)
  (E2:∀st,yd T k yn [d,.int n] st=.ok (.int n) st) (E3:∀st,yd T k yv [.int a,.int w,.int n] st=.ok (.tp AC (ws.map .int)) st) (m1:yw .mul (.int y) (.int a)=AA (.int t)) (E4:∀st,yd T k yhe [d,.int n] st=.ok (.int n) st) (E5:∀st,yd T k yv [.int (x-t),.int w,.int n] st=.ok (.tp AC (us.map .int)) st)
  (E6:∀st,yaj .any st [.tp AC (ws.map .int)]=AA (.bl g)) (hz:(bif g then(0:Int)else 1)=z) (E7:∀st,yd T k yhf [.tp AC (ws.map .int),.int w] st=.ok (.int r) st) (st:SO):
  yd T (k+1) yhg [d,.int w,.int n,.int x,.int y] st=.ok (dv ws us b c z r) st:=by
 have hT:T yhg=AA ⟨5,10,AB,ya8.body⟩:=rfl;have bt:∀(a b c:PV) (ρ:IC.Env),yJ (.t [5,6,7]) (.tp AC [a,b,c]) ρ=AA (((ρ.set 5 (AA a)).set 6 (AA b)).set 7 (AA c)):=λ_ _ _ _=>rfl;rw[zc hT rfl rfl (by simp[nLs,nL,hd])];dsimp only;have nl:nL (.tp AC (ws.map .int))=true:=by simp[nL,noLocs_ints]
 have nl2:nL (.tp AC (us.map .int))=true:=by simp[nL,noLocs_ints]
 unfold dv;generalize PV.tp AC (ws.map .int)=A,PV.tp AC (us.map .int)=B at *
 cases g<;>subst hz<;>simp! [ya8,E0,i0,c0,E1,bt,E2,E3,m1,E4,E5,E6,E7]<;>simp[ybk,nL,nLs,nl,nl2]
def qn(s:Bool):Str:=if s=AB then AE "signed quotient" else AE "quotient"
def qQ(s:Bool)(P x y:Int):Int:=if s=AB then ybB (sgd P x) (sgd P y)else x/y
def qR(s:Bool)(P x y:Int):Int:=if s=AB then sgd P x-sgd P y*ybB (sgd P x) (sgd P y)else x%y
def yaA(s:Bool)(w n:Nat)(x y:Int):PV:=dv (yh (2^w) n (qQ s (2^(w*n)) x y%2^(w*n))) (yh (2^w) n (qR s (2^(w*n)) x y%2^(w*n))) 0 (bi (!ya9 (2^(w*n)) (if s=AB then qQ s (2^(w*n)) x y else 0))) (bi (qQ s (2^(w*n)) x y%2^(w*n)==0)) (bi (decide ((2:Int)^(w*n)<=2*(qQ s (2^(w*n)) x y%2^(w*n)))))
def zmg{P x y:Int}(x0:0<=x)(x1:x<P)(y0:0<y)(y1:y<P):-P<=2*ybB (sgd P x) (sgd P y):=by
 have hA:0<=yah (sgd P x)/\2*yah (sgd P x)<=P:=by unfold yah sgd;split<;>split<;>lia
 have hB:0<=yah (sgd P y):=by unfold yah;split<;>lia
 have h1:=Be hA.1 hB;have h2:=D5 (yah (sgd P y)) hA.1;unfold ybB;split<;>lia
section
variable (k:Nat)(s:Bool){w n:Nat}(hw:4<=w)(hw2:w<=16)(hn:1<=n)(hn2:n<=4){x y:Int}(x0:0<=x)(x1:x<2^(w*n))(y0:0<y)(y1:y<2^(w*n))(st:SO)
include hw hw2 hn hn2 x0 x1 y0 y1
def zra:yd T (22+k) yh8 [.tp AC [.str (qn s)],.int w,.int n,.int x,.int y] st=.ok (yaA s w n x y) st:=by
 obtain⟨n,rfl⟩:∃m,n=m+1:=⟨n-1,by lia⟩;have hp:(2:Int)^(w*(n+1))=(2^w:Int)^(n+1):=E9;have hW:(0:Int)<2^w:=A7 ∅;have hP0:(0:Int)<2^(w*(n+1)):=A7 ⋯;have bg:=zme hW (n+1) x y;have hm:∀M:Mem,(getM M 109 0 4).map PV.int=[.int (M 109 0),.int (M 109 1),.int (M 109 2),.int (M 109 3)]:=λ_=>rfl
 cases s
 .have rd:=λr hr=>zk1 r (zk6 (w:=w) hn hn2 r hr);have q:=ran k (zqs (w:=w) hw2 hn hn2) hw2 ∅ hn2 ∅ (by have:=ziX (w:=w) (n:=n+1) hw2 hn2;lia) x0 x1 ∅ y1 (λ_=>zbK (by decide +kernel)) (λh=>by lia) (zew ∅ _ _ _ rd bg ∅ ∅) st;have R:=zfJ (w:=w) ∅ (yQ w (n+1)) (yaq (2^w) (n+1) x y) 0 rd bg ∅ ∅;let⟨q0,q1,q2,q3,q4,q5⟩:=zjc (w:=w) ∅ x0 (by rw[<-hp];exact x1) y0 (by rw[<-hp];exact y1);rw[<-hp]at q5;have e1:x/y%2^(w*(n+1))=x/y:=A6 (Be x0 ∅) (CQ (D5 y x0) x1);have r1:=Ai x y0;have e2:x%y%2^(w*(n+1))=x%y:=A6 (As x ∅) ∅;have f0:ya9 (2^(w*(n+1))) 0=true:=by unfold ya9;rw[decide_eq_true ∅,decide_eq_true ∅];rfl
  have hD:yaA AC w (n+1) x y=dv (yh (2^w) (n+1) (x/y)) (yh (2^w) (n+1) (x%y)) 0 0 (bi (x/y==0)) (bi (decide ((2:Int)^(w*(n+1))<=2*(x/y)))):=by
   erw[yaA,qQ,qR,BJ,if_false,e1,e2,f0];rfl
  rw[hD];refine q.trans ?_;rw[hm,zeq hW R 99 (n+1) q0,q2,q3,q4,q5];erw[if_true];rw[zeq hW R 100 (n+1) q1]
 .have rd:=λr hr=>zk1 r (znP (w:=w) hn hn2 r hr);have q:=ran k (zqt (w:=w) hw2 hn hn2) hw2 ∅ hn2 ∅ (by have:=zk7 (w:=w) (n:=n+1) hw2 hn2;lia) x0 x1 ∅ y1 (λ_=>zbK (by decide +kernel)) (λh=>by lia) (zew ∅ _ _ _ rd bg ∅ ∅) st;have R:=zfJ (w:=w) ∅ (yak w (n+1)) (yaq (2^w) (n+1) x y) 0 rd bg ∅ ∅;let⟨q0,q1,q2,q3,q4,q5⟩:=zg5 (w:=w) ∅ x0 (by rw[<-hp];exact x1) y0 (by rw[<-hp];exact y1) hp rfl rfl rfl;have lo:=zmg x0 x1 y0 y1;have hf:decide ((2:Int)^(w*(n+1))<=2*ybB (sgd (2^(w*(n+1))) x) (sgd (2^(w*(n+1))) y))=!ya9 (2^(w*(n+1))) (ybB (sgd (2^(w*(n+1))) x) (sgd (2^(w*(n+1))) y)):=by
   generalize ybB (sgd (2^(w*(n+1))) x) (sgd (2^(w*(n+1))) y)=Q at *;unfold ya9
   by_cases h:(2:Int)^(w*(n+1))<=2*Q
   .rw[decide_eq_true h,decide_eq_true ∅,decide_eq_false ∅];rfl
   .rw[decide_eq_false h,decide_eq_true ∅,decide_eq_true ∅];rfl
  rw[hf]at q3;refine q.trans ?_;rw[hm,zeq hW R 99 (n+1) q0,q2,q3,q4,q5];erw[if_true];rw[zeq hW R 100 (n+1) q1];rfl
def zoS{K X Y A B q Q o:Int}{b:Bool}(e1:∀st,yd T k y8 [.int x,.int K] st=.ok (.int X) st)(e2:∀st,yd T k y8 [.int y,.int K] st=.ok (.int Y) st)(hA:yah X=A)(hB:yah Y=B)(q1:yw .fdiv (.int A) (.int B)=AA (.int q))(hb:(decide (X<0) != decide (Y<0))=b)(hQ:(if b=AB then 0-q else q)=Q)(e3:∀st,yd T k yh7 [.int Q,.int K] st=.ok (.int o) st):yd T (k+1) yiN [.int x,.int y,.int K] st=.ok (.tp AC [.int Q,.int 0,.int o]) st:=by
 have hT:T yiN=AA y4:=rfl;have a1:∀st,yaj .abs st [.int X]=AA (.int A):=λst=>by rw[<-hA];rfl
 have a2:∀st,yaj .abs st [.int Y]=AA (.int B):=λst=>by rw[<-hB];rfl
 have c1:yG .ne (.bl (decide (X<0))) (.bl (decide (Y<0)))=AA (.bl b):=by
  rw[<-hb];cases decide (X<0)<;>cases decide (Y<0)<;>rfl
 have bt:∀(a b:PV) (ρ:IC.Env),yJ (.t [3,4]) (.tp AC [a,b]) ρ=AA ((ρ.set 3 (AA a)).set 4 (AA b)):=λ_ _ _=>rfl;rw[zc hT rfl rfl rfl]
 cases b
 .have hQ:q=Q:=hQ;subst hQ;simp! [y4,e1,e2,bt,a1,a2,q1,c1,e3];rfl
 .have hQ:0-q=Q:=hQ;have n1:-q=Q:=by lia
  simp! [y4,e1,e2,bt,a1,a2,q1,c1,n1,e3];rfl
def zqu:yd T (22+k) yhg [.tp AC [.str (qn s)],.int w,.int n,.int x,.int y] st=.ok (yaA s w n x y) st:=by
 have hW:(0:Int)<2^w:=A7 ∅;have hP0:(0:Int)<2^(w*n):=A7 ⋯;have hp:(2:Int)^(w*n)=(2^w:Int)^n:=E9;have hK:1<=w*n:=by have:=Ag hw hn;lia
 have hK2:w*n<=64:=Ag hw2 hn2;have hp64:(2:Int)^(w*n)<=2^64:=by
  have hh:(2:Nat)^(w*n)<=2^64:=Ac ∅ hK2;have h2:=pw (w*n);lia
 obtain⟨rs,D⟩:∃rs,ycy (yd T 20 yfg [.tp AC [.str (qn s)]] []=.ok (.bl AB) []) AB (.tp AC [.str (qn s)]) w n n rs:=by
  cases s
  .exact⟨_,zqs hw2 hn hn2⟩
  .exact⟨_,zqt hw2 hn hn2⟩
 have E0:=λt=>zdz k D hw2 ∅ x0 x1 ∅ y1 (λ_=>by cases s<;>exact zbK (by decide +kernel)) (λh=>by lia) t;obtain⟨Q,hQ⟩:∃Q,qQ s (2^(w*n)) x y=Q:=⟨_,rfl⟩;obtain⟨o,ho⟩:∃o,bi (!ya9 (2^(w*n)) (if s=AB then Q else 0))=o:=⟨_,rfl⟩;obtain⟨f,hf,ef⟩:∃f,mkV yif AB (.str (qn s))=AA f/\∀t,yd T (20+k) f [.int x,.int y,.int ((w*n:Nat):Int)] t=.ok (.tp AC [.int Q,.int 0,.int o]) t:=by
  cases s
  .refine⟨yjZ,by ac_rfl,λt=>?_⟩;have hT:T yjZ=AA yhS:=rfl;have d1:yw .fdiv (.int x) (.int y)=AA (.int Q):=by rw[<-hQ];exact zdx y0 ∅
   have f0:ya9 (2^(w*n)) 0=true:=by unfold ya9;rw[decide_eq_true ∅,decide_eq_true ∅];rfl
   have ho:o=0:=by rw[<-ho];erw[BJ,if_false,f0];rfl
   subst ho;rw[show 20+k=19+k+1 by lia,zc hT rfl rfl rfl];generalize ((w*n:Nat):Int)=K at *;simp! [yhS,d1];rfl
  .refine⟨yiN,by ac_rfl,λt=>?_⟩;rw[show 20+k=19+k+1 by lia];have hb0:0<yah (sgd (2^(w*n)) y)/\yah (sgd (2^(w*n)) y)<=2^(w*n):=by unfold yah sgd;split<;>split<;>lia
   refine zoS (19+k) hw hw2 hn hn2 x0 x1 y0 y1 t (λt=>?_) (λt=>?_) rfl rfl (zdx hb0.1 ∅) rfl hQ (λt=>?_)
   .rw[show 19+k=18+k+1 by lia];exact zcG (18+k) hK hK2 x0 x1 t
   .rw[show 19+k=18+k+1 by lia];exact zcG (18+k) hK hK2 ∅ y1 t
   .rw[<-ho,show 19+k=18+k+1 by lia];exact zq9 (18+k) hK hK2 Q t
 have E1:∀t,yd T (21+k) yiM [.tp AC [.str (qn s)],.int w,.int n,.int x,.int y] t=.ok (.tp AC [.int Q,.int 0,.int o]) t:=λt=>by
  have hT:T yiM=AA ⟨5,6,AB,yaz.body⟩:=rfl;have i0:∀st,idxV st (.tp AC [.str (qn s)]) (.int 0)=AA (.str (qn s)):=λ_=>ix0;have hl:decide (5<6)=true:=rfl;have c1:yG .eq (.str (qn s)) (.str "led")=AA (.bl AC):=by cases s<;>ac_rfl
  have c2:yG .isin (.str (qn s)) ygo=AA (.bl AC):=by cases s<;>ac_rfl
  have m1:=zgg w n ∅;rw[show 21+k=20+k+1 by lia,zc hT rfl rfl rfl];dsimp only;generalize PV.tp AC [.str (qn s)]=d at *;simp! [yaz,i0,c1,c2,zpc,hl,hf,yeW,m1,ef];rfl
 have up':∀{f:Nat} {fn:IC.Fn} {args:List PV} {v:PV},T f=AA fn->fn.pure=AB->args.length=fn.np->nLs args=AB->yd T 20 f args []=.ok v []->∀s,yd T (21+k) f args s=.ok v s:=λ{f fn args v} a b c d e s=>by
  have:=zap e (1+k);rw[show 20+(1+k)=20+k+1 by lia]at this;rw[show 21+k=20+k+1 by lia];exact zbL a b c d this s
 have nl2:nLs [.tp AC [.str (qn s)],.int (n:Int)]=true:=rfl;have E2:=up' (f:=yn) (fn:=yA) rfl rfl rfl nl2 D.ans;have E4:=up' (f:=yhe) (fn:=ye3) rfl rfl rfl nl2 D.rest;have lw:∀(V:Int) t,yd T (21+k) yv [.int V,.int w,.int (n:Int)] t=.ok (.tp AC ((yh (2^w) n (V%2^(w*n))).map .int)) t:=λV t=>by
  rw[hp,zeW hW,show 21+k=20+k+1 by lia];exact lowest (20+k) _ w n hw2 ∅ t
 have r2:=As Q (show (2:Int)^(w*n)≠0 by lia);have r3:=Ai Q hP0;have m1:yw .mul (.int y) (.int Q)=AA (.int (y*Q)):=zaO ∅;have hR:(x-y*Q)%2^(w*n)=qR s (2^(w*n)) x y%2^(w*n):=by
  cases s
  .have e:=BX x y;have hQ:x/y=Q:=hQ;rw[hQ]at e;show _=x%y%2^(w*n);rw[show x-y*Q=x%y by lia]
  .have hQ:ybB (sgd (2^(w*n)) x) (sgd (2^(w*n)) y)=Q:=hQ;show _=(sgd (2^(w*n)) x-sgd (2^(w*n)) y*ybB (sgd (2^(w*n)) x) (sgd (2^(w*n)) y))%2^(w*n);rw[hQ];generalize (2:Int)^(w*n)=P at *;have g:∀z:Int,∃q,sgd P z=z+P*q:=λz=>by
    unfold sgd;split
    .exact⟨-1,by lia⟩
    .exact⟨0,by lia⟩
   let⟨a,ha⟩:=g x;let⟨b,hb⟩:=g y;rw[ha,hb,show x+P*a-(y+P*b)*Q=x-y*Q+P*(a-b*Q)by rw[BQ,FR,Am P b Q];lia,CP]
 have E6:∀t,yaj .any t [.tp AC ((yh (2^w) n (Q%2^(w*n))).map .int)]=AA (.bl (!(Q%2^(w*n)==0))):=λt=>by
  show (anyI _).map PV.bl=_;rw[ziK,zfr hW _ _ r2 (by rw[<-hp];exact r3)];rfl
 have E7:∀t,yd T (21+k) yhf [.tp AC ((yh (2^w) n (Q%2^(w*n))).map .int),.int w] t=.ok (.int (bi (decide ((2:Int)^(w*n)<=2*(Q%2^(w*n)))))) t:=λt=>by
  obtain⟨m,rfl⟩:∃m,n=m+1:=⟨n-1,by lia⟩;rw[hp]at r3 ⊢;rw[hp]at r2;rw[show 21+k=20+k+1 by lia];exact zgY (20+k) (w:=w) (n:=m) ∅ r2 r3 t
 have c0:yG .eq (.str (qn s)) (.str "compare")=AA (.bl AC):=by cases s<;>ac_rfl
 rw[show 22+k=21+k+1 by lia];have h:=zma (21+k) (d:=.tp AC [.str (qn s)]) rfl (s:=qn s) (λ_=>ix0) c0 E0 E1 E2 (λt=>lw Q t) m1 E4 (λt=>lw _ t) E6 (z:=bi (Q%2^(w*n)==0)) (by cases (Q%2^(w*n)==0)<;>rfl) E7 st;rw[hR]at h;unfold yaA;rw[hQ,ho];exact h
end
def zeg{call:Cl}{W:Int}(hW:0<W)(hW2:W<18446744073709551616){p1 p2:Option PV}:∀(n:Nat) (a x:Int) (acc:List PV) (u:Option PV),acc.length+n<1000000 ->
  ∃x' u',yaX call (.n 5) (.cons (.expr (.mth .append (.var 4) (.cons (.bin .mod (.var 0) (.var 3)) .nil))) (.cons (.asg (.n 0) (.bin .fdiv (.var 0) (.var 3))) .nil)) (yt n a 1) [AA (.int x),p1,p2,AA (.int W),AA (.loc 0),u] [.lst acc]=.nx [AA (.int x'),p1,p2,AA (.int W),AA (.loc 0),u'] [.lst (acc++(yh W n x).map .int)]
 |0,a,x,acc,u,_=>⟨x,u,by rw[yt,zF];simp[yh]⟩
 |n+1,a,x,acc,u,h=>by
  let⟨x',u',e⟩:=zeg (call:=call) hW hW2 (p1:=p1) (p2:=p2) n (a+1) (x/W) (acc++[.int (x%W)]) (AA (.int a)) (by simp;lia);refine⟨x',u',?_⟩;have hW3:W<18446744073709551616*18446744073709551616:=by lia
  have hl:acc.length<1000000:=by lia
  rw[yt,zx (ρ1:=[AA (.int x),p1,p2,AA (.int W),AA (.loc 0),AA (.int a)]) rfl];have hm:yaO .append [Ob.lst acc] (.loc 0)=AA true:=rfl;have hap:ych .append [Ob.lst acc] (.loc 0) [.int (x%W)]=.ok .non [.lst (acc++[.int (x%W)])]:=by
   simp[ych,ydX,hl]
  erw[xs_cons,xs_nil,x_asg,x_expr,IC.ve20,IC.ve2,IC.ve3,evs,AN,AM,bd_ok,fl_ok,hm,ono,zg2 hW,zdx hW hW3,toR_some,hap,bT_n,nxO_some,th_nx,Aa,Ab,yax];rw[e];simp[yh]
theorem words(k:Nat)(x:Int)(w n:Nat)(hw:w<=16)(hn:n<1000)(st:SO):yd T (k+2) yiS [.int x,.int w,.int n] st=.ok (.tup ((yh (2^w) n x).map .int)) st:=by
 have hW:(0:Int)<2^w:=A7 ∅;have hW2:(2:Int)^w<18446744073709551616:=by
  have h:(2:Nat)^w<=2^16:=Ac ∅ hw;have h2:((2^w:Nat):Int)=2^w:=by simp
  lia
 let⟨x',u',e⟩:=zeg (call:=yd T (k+1)) hW hW2 (p1:=AA (.int w)) (p2:=AA (.int n)) n 0 x [] AD (by simp;lia);have ht:=zcM k w ∅ [];have hT:T yiS=AA yhW:=rfl;rw[yd,hT];erw[yhW,AS,BD,BZ,Bu,if_true,nLs,nL,Ci,AL,Ar,Bo,Aj,Ap,BI,xs_cons,xs_nil,x_asg,x_for,x_ret,IC.ve18,IC.ve2,IC.ve13,IC.ve19,evs,evi,AN,AM,bd_ok,fl_ok,ht,bT_n,nxO_some,th_nx,Aa,Ab,zbt n hn,toL,DH,sizeMax,e];simp[yaj,yeE,yae,toR,fl_ok,nL,noLocs_ints,R.fl,yau]
theorem signed(k:Nat)(x:Int)(K:Nat)(hK:K<1000)(st:SO):yd T (k+2) yia [.int x,.int K] st=.ok (.int (if 2^K<=2*x then x-2^K else x)) st:=by
 have ht:=zcM k K hK [];have hT:T yia=AA yhX:=rfl;rw[yd,hT];erw[yhX,AS,BD,BZ,Bu,if_true,nLs,nL,Ci,AL,Ar,Bo,Aj,Ap,BI,xs_cons,xs_nil,x_asg,x_ite,x_ret,IC.ve18,IC.ve1,IC.ve2,IC.ve3,IC.ve8,evs,AN,AM,bd_ok,fl_ok,ht,b_sub,b_mul2,toR_some,bT_n,nxO_some,th_nx,th_rt,Aa,Ab,c_ge,t_bl,on_t]
 by_cases h:2^K<=2*x<;>simp[h,R.fl,yau,nL]
theorem fits(k:Nat)(s:Int)(K:Nat)(hK:K<1000)(st:SO):yd T (k+2) yj3 [.int s,.int K] st=.ok (.bl (decide (0-2^K<=2*s)&&decide (2*s<2^K))) st:=by
 have ht:=zcM k K hK [];have hT:T yj3=AA yh1:=rfl;rw[yd,hT];erw[yh1,AS,BD,BZ,Bu,if_true,nLs,nL,Ci,AL,Ar,Bo,Aj,Ap,BI,xs_cons,xs_nil,x_asg,x_ret,IC.ve18,IC.ve1,IC.ve2,IC.ve3,IC.ve9,evs,AN,AM,bd_ok,fl_ok,ht,b_sub,b_mul2,toR_some,bT_n,nxO_some,th_nx,th_rt,Aa,Ab,c_le,c_lt,blO,ono]
 cases decide (0-2^K<=2*s)<;>simp[R.fl,toR,yau,nL]
theorem ends(k:Nat)(v:Int)(K:Nat)(hK:K<1000)(st:SO):yd T (k+2) yiU [.int v,.int K] st=.ok (.tup [.int (bi (v==0)),.int (bi (decide (2^K<=2*v)))]) st:=by
 have ht:=zcM k K hK [];have hT:T yiU=AA yh2:=rfl;rw[yd,hT];erw[yh2,AS,BD,BZ,Bu,if_true,nLs,nL,Ci,AL,Ar,Bo,Aj,Ap,BR,BI,xs_cons,xs_nil,x_asg,x_ret,IC.ve18,IC.ve1,IC.ve2,IC.ve3,IC.ve8,IC.ve11,IC.ve19,evs,AN,AM,bd_ok,fl_ok,ht,b_sub,b_mul2,toR_some,c_eq,c_ge,zmU,znO];simp[R.fl,yau,nL,nLs,sizeMax]
def zfA:∀l:List Int,allB (l.map λ_=>PV.bl AB)=AA AB
 |[]=>rfl
 |a::l=>by rw[AL,allB,zfA l];rfl
def zj8(l:List Int)(st:SO):yaj .all st [.lst (l.map λ_=>PV.bl AB)]=AA (.bl AB):=by
 show (allB _).map PV.bl=_;rw[zfA];rfl
def zqv(k:Nat)(v:Int)(st:SO):yd T (k+1) yhj [.int v] st=.ok (.bl AB) st:=by
 have hT:T yhj=AA yhY:=rfl;have e1:yaM (.int v) [.int]=AA (.bl AB):=rfl;have e2:yaM (.int v) [.bool]=AA (.bl AC):=rfl;rw[zc hT rfl rfl rfl];simp! [yhY,e1,e2];rfl
def zcS{call:Cl}{ρ0:IC.Env}{t:Tg}{c e:Ce}{st:SO}:∀l:List Int,(∀x∈l,ybf call ρ0 t c e (.int x) st=.ok (AA (.bl AB)) st)->yal call ρ0 t c e (l.map .int) st=.ok (l.map λ_=>.bl AB) st
 |[],_=>zbe
 |a::l,h=>by
  rw[AL,zai,h a (by simp),bd_ok,zcS l (λx hx=>h x (by simp[hx])),bd_ok];rfl
def zrb(k:Nat){ws:List Int}{w:Nat}(hw:w<=16)(hl:ws.length<=1000)(hr:∀v∈ws,0<=v/\v<2^w)(st:SO):yd T (k+2) yiT [.tp AC (ws.map .int),.int w,.int (ws.length:Int)] st=.ok (.bl AB) st:=by
 have hT:T yiT=AA yh0:=rfl;have e1:yaM (.tp AC (ws.map .int)) [.tuple]=AA (.bl AB):=rfl;have e2:∀st,yaj .len st [.tp AC (ws.map .int)]=AA (.int (ws.length:Int)):=λst=>by
  show AA (PV.int (((ws.map PV.int).length:Nat):Int))=_;simp
 have q1:yal (yd T (k+1)) [AD] (.n 0) (.cst (.bl AB)) (.call yhj (.cons (.var 0) .nil)) (ws.map .int) []=.ok (ws.map λ_=>.bl AB) []:=zcS ws λx _=>by
  have e:=zqv k x [];simp! [ybf,e]
 have q2:yal (yd T (k+1)) [AD,AA (.int w)] (.n 0) (.cst (.bl AB)) (.chain .le .lt (.cst (.int 0)) (.var 0) (.call yh9 (.cons (.var 1) .nil))) (ws.map .int) []=.ok (ws.map λ_=>.bl AB) []:=zcS ws λx hx=>by
  have e:=zcM k w ∅ [];have c1:decide (0<=x)=true:=decide_eq_true (hr x hx).1;have c2:decide (x<2^w)=true:=decide_eq_true (hr x hx).2;simp! [ybf,e,c1,c2,blO]
 have lr:=zcy (ws.map λ_=>PV.bl AB) (by simp;lia);have ta:=zj8 ws;rw[zc hT rfl rfl (by simp[nLs,nL,noLocs_ints])];simp! [yh0,e1,e2,beq_self_eq_true,q1,lr,ta,q2];rfl
def zrc(k:Nat){a b c d:Int}(ha:-1<=a/\a<=1)(hb:-1<=b/\b<=1)(hc:-1<=c/\c<=1)(hd:-1<=d/\d<=1)(st:SO):yd T (k+2) yj2 [.tp AC [.int a,.int b,.int c,.int d],.int 4,.int 1] st=.ok (.bl AB) st:=by
 have hT:T yj2=AA yhZ:=rfl;have e1:yaM (.tp AC [.int a,.int b,.int c,.int d]) [.tuple]=AA (.bl AB):=rfl;have e2:∀st,yaj .len st [.tp AC [.int a,.int b,.int c,.int d]]=AA (.int 4):=λ_=>rfl;have q:yal (yd T (k+1)) [AD,AA (.int 1)] (.n 0) (.cst (.bl AB)) (.and (.call yhj (.cons (.var 0) .nil)) (.chain .le .le (.bin .sub (.cst (.int 0)) (.var 1)) (.var 0) (.var 1))) ([a,b,c,d].map .int) []=.ok ([a,b,c,d].map λ_=>.bl AB) []:=zcS [a,b,c,d] λx hx=>by
  have e:=zqv k x [];have hx:-1<=x/\x<=1:=by
   erw[AT,Ad,or_false]at hx;rcases hx with rfl|rfl|rfl|rfl<;>assumption
  have c1:decide ((0:Int)-1<=x)=true:=decide_eq_true ∅;have c2:decide (x<=1)=true:=decide_eq_true hx.2;simp! [ybf,e,c1,c2,blO]
 have q:yal (yd T (k+1)) [AD,AA (.int 1)] (.n 0) (.cst (.bl AB)) (.and (.call yhj (.cons (.var 0) .nil)) (.chain .le .le (.bin .sub (.cst (.int 0)) (.var 1)) (.var 0) (.var 1))) [.int a,.int b,.int c,.int d] []=.ok [.bl AB,.bl AB,.bl AB,.bl AB] []:=q;have lr:∀st,ycf (.ok [PV.bl AB,.bl AB,.bl AB,.bl AB] st)=.ok (.lst [.bl AB,.bl AB,.bl AB,.bl AB]) st:=λst=>zcy _ (by simp) st;have ta:∀st,yaj .all st [.lst [.bl AB,.bl AB,.bl AB,.bl AB]]=AA (.bl AB):=λ_=>rfl;have b4:((4:Int)==4)=true:=rfl;rw[zc hT rfl rfl rfl];simp! [yhZ,e1,e2,b4,q,lr,ta];rfl
def zqh(b:Bool):-1<=bi b/\bi b<=1:=by cases b<;>decide
def ziS(l:List Int):ybg (l.map .int) (l.map .int)=true:=by
 induction l with
 |nil=>simp[ybg]
 |cons a l ih=>simp[ybg,peq,ih]
def zhr(n:Nat)(l:List Int):ybq n (l.map .int)=true:=by
 induction l with
 |nil=>simp[ybq]
 |cons a l ih=>simp[ybq,shd,ih]
def zpz(ws us:List Int)(a b c d:Int):yG .ne (dv ws us a b c d) (dv ws us a b c d)=AA (.bl AC):=by
 simp[yG,shd,ybq,peq,ybg,ziS,zhr]
theorem told(k:Nat)(s:Bool){w n:Nat}(hw2:w<=16)(hn2:n<=4)(x y:Int)(st:SO):yd T (k+3) yid [yaA s w n x y,yaA s w n x y,.int w,.int n] st=.ok (.bl AB) st:=by
 have hW:(0:Int)<2^w:=A7 ∅;have hT:T yid=AA yh3:=rfl;have nl:nL (yaA s w n x y)=true:=by simp[yaA,nL,nLs,noLocs_ints]
 have e1:yaM (yaA s w n x y) [.tuple]=AA (.bl AB):=rfl;have e2:∀st,yaj .len st [yaA s w n x y]=AA (.int 3):=λ_=>rfl;have b3:((3:Int)==3)=true:=rfl;have e3:yG .ne (yaA s w n x y) (yaA s w n x y)=AA (.bl AC):=zpz _ _ _ _ _ _;have i0:∀st,idxV st (yaA s w n x y) (.int 0)=AA (.tp AC ((yh (2^w) n (qQ s (2^(w*n)) x y%2^(w*n))).map .int)):=λ_=>rfl;have i1:∀st,idxV st (yaA s w n x y) (.int 1)=AA (.tp AC ((yh (2^w) n (qR s (2^(w*n)) x y%2^(w*n))).map .int)):=λ_=>rfl;have i2:∀st,idxV st (yaA s w n x y) (.int 2)=AA (.tp AC [.int 0,.int (bi (!ya9 (2^(w*n)) (if s=AB then qQ s (2^(w*n)) x y else 0))),.int (bi (qQ s (2^(w*n)) x y%2^(w*n)==0)),.int (bi (decide ((2:Int)^(w*n)<=2*(qQ s (2^(w*n)) x y%2^(w*n)))))]):=λ_=>rfl;have nu:∀(V:Int) t,yd T (k+2) yiT [.tp AC ((yh (2^w) n V).map .int),.int w,.int n] t=.ok (.bl AB) t:=λV t=>by
  have h:=zrb k (ws:=yh (2^w) n V) hw2 (by rw[zQ];lia) (zaF hW _ _) t;rw[zQ]at h;exact h
 have n1:=λt=>nu (qQ s (2^(w*n)) x y%2^(w*n)) t;have n2:=λt=>nu (qR s (2^(w*n)) x y%2^(w*n)) t;have wh:=λt=>zrc k (a:=0) ⋯ (zqh (!ya9 (2^(w*n)) (if s=AB then qQ s (2^(w*n)) x y else 0))) (zqh (qQ s (2^(w*n)) x y%2^(w*n)==0)) (zqh (decide ((2:Int)^(w*n)<=2*(qQ s (2^(w*n)) x y%2^(w*n))))) t;rw[show k+3=k+2+1 by lia,zc hT rfl rfl (by simp[nLs,nl,nL])]
 clear nu
 generalize yaA s w n x y=V,PV.tp AC ((yh (2^w) n (qQ s (2^(w*n)) x y%2^(w*n))).map .int)=A,PV.tp AC ((yh (2^w) n (qR s (2^(w*n)) x y%2^(w*n))).map .int)=B at *;simp! [yh3,e1,e2,b3,e3,i0,i1,i2,n1,n2,wh];rfl
theorem towards(k:Nat){X Y A B q Q:Int}{b:Bool}(hA:yah X=A)(hB:yah Y=B)(q1:yw .fdiv (.int A) (.int B)=AA (.int q))(hb:(decide (X<0) != decide (Y<0))=b)(hQ:(if b=AB then 0-q else q)=Q)(m1:yw .mul (.int Y) (.int Q)=AA (.int (Y*Q)))(st:SO):yd T (k+1) yiV [.int X,.int Y] st=.ok (.tp AC [.int Q,.int (X-Y*Q)]) st:=by
 have hT:T yiV=AA yg4:=rfl;have a1:∀st,yaj .abs st [.int X]=AA (.int A):=λst=>by rw[<-hA];rfl
 have a2:∀st,yaj .abs st [.int Y]=AA (.int B):=λst=>by rw[<-hB];rfl
 have c1:yG .ne (.bl (decide (X<0))) (.bl (decide (Y<0)))=AA (.bl b):=by
  rw[<-hb];cases decide (X<0)<;>cases decide (Y<0)<;>rfl
 rw[zc hT rfl rfl rfl]
 cases b
 .have hQ:q=Q:=hQ;subst hQ;simp! [yg4,a1,a2,q1,c1,m1];rfl
 .have hQ:0-q=Q:=hQ;simp! [yg4,a1,a2,q1,c1,hQ,m1];rfl
def dT:Css:=match yaF.body with
 |.cons _ (.cons _ (.cons _ t))=>t
 |x=>x
theorem due(k:Nat)(s:Bool){w n:Nat}(hw:4<=w)(hw2:w<=16)(hn:1<=n)(hn2:n<=4){x y:Int}(x0:0<=x)(x1:x<2^(w*n))(y0:0<y)(y1:y<2^(w*n))(st:SO):yd T (k+3) yic [.tp AC [.str (qn s)],.int w,.int n,.int x,.int y] st=.ok (yaA s w n x y) st:=by
 have hP0:(0:Int)<2^(w*n):=A7 ⋯;have hK:w*n<1000:=by have:=Ag hw2 hn2;lia
 have hp64:(2:Int)^(w*n)<=2^64:=by
  have hh:(2:Nat)^(w*n)<=2^64:=Ac ∅ (Ag hw2 hn2);have h2:=pw (w*n);lia
 have hT:T yic=AA ⟨5,10,AB,yaF.body⟩:=rfl
 have hb:yaF.body=(match yaF.body with
  |.cons a (.cons b (.cons c _))=>.cons a (.cons b (.cons c dT))
  |x=>x):=rfl
 have m1:=zgg w n ∅;have e1:∀t,yd T (k+2) yh9 [.int ((w*n:Nat):Int)] t=.ok (.int (2^(w*n))) t:=λt=>zcM (k+1) (w*n) hK t;have md:∀V:Int,yw .mod (.int V) (.int (2^(w*n)))=AA (.int (V%2^(w*n))):=λV=>zg2 hP0;have wd:∀(V:Int) t,yd T (k+2) yiS [.int V,.int w,.int n] t=.ok (.tp AC ((yh (2^w) n V).map .int)) t:=λV t=>words k V w n hw2 ∅ t;have en:∀(V:Int) t,yd T (k+2) yiU [.int V,.int ((w*n:Nat):Int)] t=.ok (.tp AC [.int (bi (V==0)),.int (bi (decide ((2:Int)^(w*n)<=2*V)))]) t:=λV t=>ends k V (w*n) hK t;have bt:∀(a b:PV) (ρ:IC.Env),yJ (.t [7,8]) (.tp AC [a,b]) ρ=AA ((ρ.set 7 (AA a)).set 8 (AA b)):=λ_ _ _=>rfl;have ad:∀a b c d:PV,yw .add (.tp AC [a,b]) (.tp AC [c,d])=AA (.tp AC [a,b,c,d]):=λ_ _ _ _=>rfl;have tl:∀(Q R:Int) (M:PV) (d:Option PV),exs (yd T (k+2)) [d,AA (.int w),AA (.int n),AA (.int x),AA (.int y),AA (.int ((w*n:Nat):Int)),AA (.int (2^(w*n))),AA (.int Q),AA (.int R),AA M] [] dT=.rt (.tp AC [.tp AC ((yh (2^w) n (Q%2^(w*n))).map .int),.tp AC ((yh (2^w) n (R%2^(w*n))).map .int),M]) []:=λQ R M d=>by
  have a1:=md Q;have a2:=md R;have a3:=wd (Q%2^(w*n)) [];have a4:=wd (R%2^(w*n)) []
  clear en m1 e1 md wd
  generalize PV.tp AC ((yh (2^w) n (Q%2^(w*n))).map .int)=A,PV.tp AC ((yh (2^w) n (R%2^(w*n))).map .int)=B at *;generalize Q%(2:Int)^(w*n)=u,R%(2:Int)^(w*n)=v at *;generalize (2:Int)^(w*n)=P at *;simp! [dT,yaF,a1,a2,a3,a4]
 rw[show k+3=k+2+1 by lia,zc hT rfl rfl rfl];dsimp only;rw[hb]
 cases s
 .have c0:yG .eq (.tp AC [.str (qn AC)]) (.tp AC [.str "quotient"])=AA (.bl AB):=by ac_rfl
  have d1:yw .fdiv (.int x) (.int y)=AA (.int (x/y)):=zdx y0 ∅;have d2:yw .mod (.int x) (.int y)=AA (.int (x%y)):=zg2 y0;have e2:=en (x/y) [];have qm:x/y%2^(w*n)=x/y:=A6 (Be x0 ∅) (CQ (D5 y x0) x1);have f0:ya9 (2^(w*n)) 0=true:=by unfold ya9;rw[decide_eq_true ∅,decide_eq_true ∅];rfl
  have hD:yaA AC w n x y=.tp AC [.tp AC ((yh (2^w) n (x/y%2^(w*n))).map .int),.tp AC ((yh (2^w) n (x%y%2^(w*n))).map .int),.tp AC [.int 0,.int 0,.int (bi (x/y==0)),.int (bi (decide ((2:Int)^(w*n)<=2*(x/y))))]]:=by
   erw[yaA,qQ,qR,BJ,if_false,f0,qm];rfl
  have nl:nL (yaA AC w n x y)=true:=by simp[yaA,nL,nLs,noLocs_ints]
  have tl:=tl (x/y) (x%y) (.tp AC [.int 0,.int 0,.int (bi (x/y==0)),.int (bi (decide ((2:Int)^(w*n)<=2*(x/y))))]) (AA (.tp AC [.str (qn AC)]));rw[<-hD]at tl;have e1:=e1 []
  clear md wd en hb hD
  generalize yaA AC w n x y=V,bi (x/y==0)=z1,bi (decide ((2:Int)^(w*n)<=2*(x/y)))=z2 at *;generalize x/y=Q,x%y=R,((w*n:Nat):Int)=K,(2:Int)^(w*n)=P,PV.tp AC [.str (qn AC)]=d,dT=F at *;simp! [yaF,m1,e1,c0,d1,d2,bt,e2,ad,tl];simp[ybk,nl]
 .have c0:yG .eq (.tp AC [.str (qn AB)]) (.tp AC [.str "quotient"])=AA (.bl AC):=by ac_rfl
  have g1:yd T (k+2) yia [.int x,.int ((w*n:Nat):Int)] []=.ok (.int (sgd (2^(w*n)) x)) []:=signed k x (w*n) hK [];have g2:yd T (k+2) yia [.int y,.int ((w*n:Nat):Int)] []=.ok (.int (sgd (2^(w*n)) y)) []:=signed k y (w*n) hK [];have hb0:0<yah (sgd (2^(w*n)) y)/\yah (sgd (2^(w*n)) y)<=2^(w*n):=by unfold yah sgd;split<;>split<;>lia
  have hY:(sgd (2^(w*n)) y).natAbs<18446744073709551616:=by unfold sgd;split<;>lia
  obtain⟨Q,hQ⟩:∃Q,ybB (sgd (2^(w*n)) x) (sgd (2^(w*n)) y)=Q:=⟨_,rfl⟩;have tw:=towards (k+1) (X:=sgd (2^(w*n)) x) (Y:=sgd (2^(w*n)) y) rfl rfl (zdx hb0.1 ∅) rfl hQ (zaO hY) [];have hf:(decide (0-2^(w*n)<=2*Q)&&decide (2*Q<2^(w*n)))=ya9 (2^(w*n)) Q:=by unfold ya9;congr 1
  have ft:=fits k Q (w*n) hK [];rw[hf]at ft;have e2:=en (Q%2^(w*n)) [];have a1:=md Q;have ib:∀(b:Bool) (st:SO),yaj .int st [.bl b]=AA (.int (bi b)):=λb st=>by cases b<;>rfl
  have hD:yaA AB w n x y=.tp AC [.tp AC ((yh (2^w) n (Q%2^(w*n))).map .int),.tp AC ((yh (2^w) n ((sgd (2^(w*n)) x-sgd (2^(w*n)) y*Q)%2^(w*n))).map .int),.tp AC [.int 0,.int (bi (!ya9 (2^(w*n)) Q)),.int (bi (Q%2^(w*n)==0)),.int (bi (decide ((2:Int)^(w*n)<=2*(Q%2^(w*n)))))]]:=by
   erw[yaA,qQ,qR,if_true,hQ]
  have nl:nL (yaA AB w n x y)=true:=by simp[yaA,nL,nLs,noLocs_ints]
  have tl:=tl Q (sgd (2^(w*n)) x-sgd (2^(w*n)) y*Q) (.tp AC [.int 0,.int (bi (!ya9 (2^(w*n)) Q)),.int (bi (Q%2^(w*n)==0)),.int (bi (decide ((2:Int)^(w*n)<=2*(Q%2^(w*n)))))]) (AA (.tp AC [.str (qn AB)]));rw[<-hD]at tl;have e1:=e1 [];have tw:yd T (k+2) yiV _ []=_:=tw
  clear md wd en hb hD hf
  generalize yaA AB w n x y=V,bi (Q%2^(w*n)==0)=z1,bi (decide ((2:Int)^(w*n)<=2*(Q%2^(w*n))))=z2 at *;generalize Q%2^(w*n)=u,ya9 (2^(w*n)) Q=fb,sgd (2^(w*n)) x-sgd (2^(w*n)) y*Q=R at *;generalize sgd (2^(w*n)) x=X,sgd (2^(w*n)) y=Y,((w*n:Nat):Int)=K at *;generalize (2:Int)^(w*n)=P,PV.tp AC [.str (qn AB)]=d,dT=F at *
  cases fb<;>simp! [yaF,m1,e1,c0,g1,g2,tw,bt,ft,ib,a1,e2,ad]<;>erw[Ff,FV]at tl<;>simp! [tl]<;>simp[ybk,nl]
def ybr:Ce:=match yaa.body with
 |.cons _ (.cons (.while c _) _)=>c
 |_=>.nope
def ybJ:Css:=match yaa.body with
 |.cons _ (.cons (.while _ b) _)=>b
 |_=>.nil
def zi5{c:Cl}{n:Nat}{ns:List Int}{a p m t:Int}{f:Bool}{u:Option PV}{st:SO}(h:st[n]?=AA (.lst [.lst (ns.map .int),.int a,.int p,.bl f])):
  ∃B,ev c [AA (.loc n),AA (.int m),AA (.int t),u] st ybr=.ok (.bl B) st/\(B=AB->t<64):=by
 by_cases h1:t<64
 .by_cases h2:p=0
  .refine⟨AB,?_,λ_=>h1⟩;erw[ybr,yaa,IC.ve1,IC.ve2,IC.ve3,IC.ve6,IC.ve7,IC.ve8,IC.ve16,R.bind,AN,AM,h,idxV,yaZ,at?,ixI,yw,binI,yaC,toR,yG,ybH,onBl];simp[h1,h2,zc4,peq]
  .have h2:(p==0)=false:=by simp[h2]
   cases f
   .refine⟨AC,?_,λ_=>h1⟩;erw[ybr,yaa,IC.ve1,IC.ve2,IC.ve3,IC.ve6,IC.ve7,IC.ve8,IC.ve16,R.bind,AN,AM,h,idxV,yaZ,at?,ixI,yw,binI,yaC,toR,yG,ybH,onBl];simp[h,h1,h2,zc4,peq]
   .refine⟨decide (p<m*4096),?_,λ_=>h1⟩;erw[ybr,yaa,IC.ve1,IC.ve2,IC.ve3,IC.ve6,IC.ve7,IC.ve8,IC.ve16,R.bind,AN,AM,h,idxV,yaZ,at?,ixI,yw,binI,yaC,toR,yG,ybH,onBl];simp[h,h1,h2,zc4,peq]
 .refine⟨AC,?_,λz=>by cases z⟩;erw[ybr,yaa,IC.ve1,IC.ve2,IC.ve3,IC.ve6,IC.ve7,IC.ve8,IC.ve16,R.bind,AN,AM,h,idxV,yaZ,at?,ixI,yw,binI,yaC,toR,yG,ybH,onBl];simp[h1]
def ziw(k:Nat){n:Nat}{ns:List Int}(hns:ns.length<=1000){a p m t:Int}(ha:0<=a){f:Bool}{u:Option PV}{st:SO}(h:st[n]?=AA (.lst [.lst (ns.map .int),.int a,.int p,.bl f])):
  ∃p' f',exs (yd T (k+2)) [AA (.loc n),AA (.int m),AA (.int t),u] st ybJ=.nx [AA (.loc n),AA (.int m),AA (.int (t+1)),u] (st.set n (.lst [.lst (ns.map .int),.int (a+1),.int p',.bl f'])):=by
 let⟨q,g,hq⟩:=fill k n ns hns a p ha f st h;have hm:(1+q%4093).natAbs<18446744073709551616:=by lia
 have hau:∀st,ex (yd T (k+2)) [AA (.loc n),AA (.int m),AA (.int t),u] st (.aug 2 .add (.cst (.int 1)))=.nx [AA (.loc n),AA (.int m),AA (.int (t+1)),u] st:=λst=>by
  rw[zpx (x:=.int t) rfl];simp[IC.ve1,R.fl,ybO,yw,binI,nxO]
 cases g
 .refine⟨q,AC,?_⟩;erw[ybJ,yaa,xs_cons,xs_nil,x_expr,x_ite,x_six,hau,yau,nxO,IC.ve1,IC.ve2,IC.ve3,IC.ve6,IC.ve8,IC.ve16,IC.ve18,evs,R.fl,R.bind,hq,ybO,yw,binI,Dp,Aa,Ab,AN,AM,rdS h,idxV,yaZ,at?,ixI,yaC,toR,yG,ybH,onBl,onF,yaL];simp[rdS h]
 .by_cases hl:q<m*4096
  .refine⟨q+m*4096*(1+q%4093),AB,?_⟩;erw[ybJ,yaa,xs_cons,xs_nil,x_expr,x_ite,x_six,hau,yau,nxO,IC.ve1,IC.ve2,IC.ve3,IC.ve6,IC.ve8,IC.ve16,IC.ve18,evs,R.fl,R.bind,hq,ybO,yw,binI,Dp,Aa,Ab,AN,AM,rdS h,idxV,yaZ,at?,ixI,yaC,toR,yG,ybH,onBl,onF,yaL,stO,ybs];simp[rdS h,hl,hm]
  .refine⟨q,AB,?_⟩;erw[ybJ,yaa,xs_cons,xs_nil,x_expr,x_ite,x_six,hau,yau,nxO,IC.ve1,IC.ve2,IC.ve3,IC.ve6,IC.ve8,IC.ve16,IC.ve18,evs,R.fl,R.bind,hq,ybO,yw,binI,Dp,Aa,Ab,AN,AM,rdS h,idxV,yaZ,at?,ixI,yaC,toR,yG,ybH,onBl,onF,yaL];simp[rdS h,hl]
def ze1(k:Nat){n:Nat}{ns:List Int}(hns:ns.length<=1000){m:Int}{u:Option PV}:∀(r N:Nat) (t a p:Int) (f:Bool) (st:SO),r<=N->64-t<=r->0<=a->st[n]?=AA (.lst [.lst (ns.map .int),.int a,.int p,.bl f]) ->
  ∃t' a' p' f',0<=a'/\yaS (yd T (k+2)) ybr ybJ (N+1) [AA (.loc n),AA (.int m),AA (.int t),u] st=.nx [AA (.loc n),AA (.int m),AA (.int t'),u] (st.set n (.lst [.lst (ns.map .int),.int a',.int p',.bl f']))
 |r,N,t,a,p,f,st,hN,ht,ha,h=>by
  let⟨B,hB,hb⟩:=zi5 (c:=yd T (k+2)) (m:=m) (t:=t) (u:=u) h;have hs:st.set n (.lst [.lst (ns.map .int),.int a,.int p,.bl f])=st:=by
   refine E8 λi=>?_;rw[Cj];split
   .rename_i e;subst e;split
    .exact h.symm
    .rename_i z;rw[BW ∅]at h
     cases h
   .rfl
  cases B with
  |false=>exact⟨t,a,p,f,ha,by rw[zfK hB rfl,hs]⟩
  |true=>
   have h64:=hb rfl
   match r,N with
   |0,_=>exact absurd ht ∅
   |r+1,N+1=>
    let⟨p1,f1,hx⟩:=ziw k hns (m:=m) (t:=t) ha (u:=u) h;let⟨t',a',p',f',h0,h2⟩:=ze1 k hns (m:=m) (u:=u) r N (t+1) (a+1) p1 f1 _ ∅ ∅ ∅ (rdS h);refine⟨t',a',p',f',h0,?_⟩;rw[ziZ hB rfl hx,h2,DS]
theorem take(k n:Nat)(ns:List Int)(hns:ns.length<=1000)(a p m:Int)(ha:0<=a)(hm:0<m)(hm2:m<10000000000000000000000000000000000000000000000000000000000000000000000)(f:Bool)(st:SO)(h:st[n]?=AA (.lst [.lst (ns.map .int),.int a,.int p,.bl f])):
  ∃d a' p' f',0<=d/\d<m/\0<=a'/\yd T (k+3) yhi [.loc n,.int m] st=.ok (.int d) (st.set n (.lst [.lst (ns.map .int),.int a',.int p',.bl f'])):=by
 let⟨t',a',p',f',h0,h2⟩:=ze1 k hns (m:=m) (u:=AD) 64 99999 0 a p f st ∅ ∅ ha h;refine⟨p'%m,a',p'/m,f',As _ ∅,Ai _ hm,h0,?_⟩;have hb:yaa.body=.cons (.asg (.n 2) (.cst (.int 0))) (.cons (.while ybr ybJ) (.cons (.asg (.n 3) (.bin .mod (.idx (.var 0) (.cst (.int 2))) (.var 1))) (.cons (.six (.var 0) (.cst (.int 2)) (.bin .fdiv (.idx (.var 0) (.cst (.int 2))) (.var 1))) (.cons (.ret (.var 3)) .nil)))):=rfl;have hT:T yhi=AA ⟨2,4,AC,yaa.body⟩:=rfl;rw[yd,hT,hb];erw[AS,BD,if_true,AL,Ar,Bo,Aj,Ap,BI,xs_cons,xs_nil,x_asg,zmP,x_six,x_ret,yau,nxO,stO,IC.ve1,IC.ve2,IC.ve3,IC.ve16,R.fl,R.bind,yJ,Aa,Ab,AN,AM,h2,rdS h,idxV,yaZ,at?,ixI,yw,binI,hm,hm2,and_self,toR,ybs];simp[rdS h,hm,hm2]
def Drw(ns:List Int)(n:Nat)(st:SO):Prop:=∃a p f,0<=a/\st[n]?=AA (.lst [.lst (ns.map .int),.int a,.int p,.bl f])
def Onl(ns:List Int)(n:Nat)(st st':SO):Prop:=∃a p f,0<=a/\st'=st.set n (.lst [.lst (ns.map .int),.int a,.int p,.bl f])
theorem Onl.drw{ns:List Int}{n:Nat}{st st':SO}(h:Drw ns n st)(o:Onl ns n st st'):Drw ns n st':=by
 let⟨a,p,f,ha,h⟩:=h;let⟨b,q,g,hb,rfl⟩:=o;exact⟨b,q,g,hb,rdS h⟩
theorem Onl.trans{ns:List Int}{n:Nat}{st st1 st2:SO}(o:Onl ns n st st1)(o2:Onl ns n st1 st2):Onl ns n st st2:=by
 let⟨b,q,g,hb,rfl⟩:=o;let⟨c,r,j,hc,rfl⟩:=o2;exact⟨c,r,j,hc,by rw[DS]⟩
def zf0(k:Nat){n:Nat}{ns:List Int}(hns:ns.length<=1000){m:Int}(hm:0<m)(hm2:m<10000000000000000000000000000000000000000000000000000000000000000000000){st:SO}(h:Drw ns n st):
  ∃d st',0<=d/\d<m/\Onl ns n st st'/\yd T (k+3) yhi [.loc n,.int m] st=.ok (.int d) st':=by
 let⟨a,p,f,ha,h⟩:=h;let⟨d,a',p',f',h1,h2,h3,h4⟩:=take k n ns hns a p m ha hm hm2 f st h;exact⟨d,_,h1,h2,⟨_,_,_,h3,rfl⟩,h4⟩
theorem sizes(k:Nat){n:Nat}{ns:List Int}(hns:ns.length<=1000){m:Int}(hm:0<m)(hm2:m<=100){st:SO}(h:Drw ns n st):
  ∃w z st',4<=w/\w<=16/\1<=z/\z<=m/\Onl ns n st st'/\yd T (k+4) yiR [.loc n,.int m] st=.ok (.tup [.int w,.int z]) st':=by
 let⟨d,s1,d1,d2,o1,e1⟩:=zf0 k hns (m:=13) ∅ ∅ h;let⟨e,s2,d3,d4,o2,e2⟩:=zf0 k hns (m:=m) hm ∅ (o1.drw h);refine⟨4+d,1+e,s2,by lia,by lia,by lia,by lia,o1.trans o2,?_⟩;have hT:T yiR=AA yhU:=rfl;rw[yd,hT];erw[yhU,AS,BD,if_true,AL,Ar,Bo,Aj,Ap,BI,xs_cons,xs_nil,x_ret,yau,IC.ve1,IC.ve2,IC.ve3,IC.ve11,IC.ve18,evs,R.fl,R.bind,AN,AM,e1,e2,yw,binI,toR];simp[sizeMax]
theorem fresh(k:Nat)(ns:List Int)(h:ns.length<=63)(st:SO):∃v,yd T (k+1) yiP [.scr (ns.map .int)] st=.ok (.loc st.length) (st++[v])/\v=.lst [.lst (ns.map .int),.int 0,.int 0,.bl AC]:=by
 have hT:T yiP=AA yhT:=rfl;refine⟨_,?_,rfl⟩;rw[yd,hT];erw[yhT,AS,BD,if_true,AL,Ar,Bo,Aj,Ap,BI,xs_cons,xs_nil,x_ret,yau,ev,evs,R.fl,R.bind,AN,toR];have hc:ycS (.scr (ns.map PV.int)) AD (.int 63)=AA (.lst (ns.map .int)):=by
  have hk:ybj ns.length 63=ns.length:=by
   show min 63 ns.length=ns.length;lia
  simp[ycS,yb5,ycu,cut,ycI,yc4,hk]
  try rw[<-BH (f:=PV.int),GV]
 simp[yb5,onP,hc,sizeMax]
theorem dbl{call:Cl}{i j:Nat}(hij:i≠j):∀(N:Nat) (a:Int) (ρ:IC.Env) (v:Int) (st:SO),ρ[i]?=AA (AA (.int v)) ->
  ∃u,yaX call (.n j) (.cons (.asg (.n i) (.bin .mul (.cst (.int 2)) (.var i))) .nil) (yt N a 1) ρ st=.nx ((ρ.set i (AA (.int (2^N*v)))).set j u) st/\(N=0->ρ[j]?=AA u \/ ρ.length<=j)
 |0,a,ρ,v,st,h=>by
  have hi:ρ.set i (AA (.int v))=ρ:=by
   refine E8 λz=>?_;rw[Cj];split
   .rename_i e;subst e;split
    .exact h.symm
    .rw[BW ∅]at h
     cases h
   .rfl
  rcases CZ j ρ.length with hj|hj
  .refine⟨ρ[j],?_,λ_=>.inl (DC hj)⟩;rw[yt,zF,Dy,Bk,hi,FL]
  .refine⟨AD,?_,λ_=>.inr hj⟩;rw[yt,zF,Dy,Bk,hi,List.set_eq_of_length_le hj]
 |N+1,a,ρ,v,st,h=>by
  have h1:(ρ.set j (AA (.int a)))[i]?=AA (AA (.int v)):=by
   rw[AO (BN hij)];exact h
  have hil:i<ρ.length:=by
   rcases CZ i ρ.length with z|z
   .exact z
   .rw[BW z]at h;cases h
  have h2:exs call (ρ.set j (AA (.int a))) st (.cons (.asg (.n i) (.bin .mul (.cst (.int 2)) (.var i))) .nil)=.nx ((ρ.set j (AA (.int a))).set i (AA (.int (2*v)))) st:=by
   erw[xs_nil,xs_cons,x_asg,yau,nxO,IC.ve1,IC.ve2,IC.ve3,R.bind,R.fl,h1,yJ,yw,binI,yaC,toR];simp
  let⟨u,h3,_⟩:=dbl (call:=call) hij N (a+1) ((ρ.set j (AA (.int a))).set i (AA (.int (2*v)))) (2*v) st (by rw[A9 (by rw[B4];exact hil)]);refine⟨u,?_,λz=>by cases z⟩;rw[yt,zx (ρ1:=ρ.set j (AA (.int a))) rfl,h2];show yaX call _ _ _ _ _=_;rw[h3,DS,Gx _ _ (BN hij),DS,Ae,Am]
def zeJ(K:Nat):(0:Int)<2^K:=A7 ∅
def yL:Css:=match yW.body with
 |.cons _ (.cons _ (.cons _ r))=>r
 |_=>.nil
def wT2:Css:=match yL with
 |.cons _ (.cons _ (r))=>r
 |_=>.nil
theorem wE2:yL=(match yL with
 |.cons q0 (.cons q1 (_))=>.cons q0 (.cons q1 (wT2))
 |_=>.nil):=rfl
def wT4:Css:=match yL with
 |.cons _ (.cons _ (.cons _ (.cons _ (r))))=>r
 |_=>.nil
theorem wE4:yL=(match yL with
 |.cons q0 (.cons q1 (.cons q2 (.cons q3 (_))))=>.cons q0 (.cons q1 (.cons q2 (.cons q3 (wT4))))
 |_=>.nil):=rfl
def wT5:Css:=match yL with
 |.cons _ (.cons _ (.cons _ (.cons _ (.cons _ (r)))))=>r
 |_=>.nil
theorem wE5:yL=(match yL with
 |.cons q0 (.cons q1 (.cons q2 (.cons q3 (.cons q4 (_)))))=>.cons q0 (.cons q1 (.cons q2 (.cons q3 (.cons q4 (wT5)))))
 |_=>.nil):=rfl
def wT6:Css:=match yL with
 |.cons _ (.cons _ (.cons _ (.cons _ (.cons _ (.cons _ (r))))))=>r
 |_=>.nil
theorem wE6:yL=(match yL with
 |.cons q0 (.cons q1 (.cons q2 (.cons q3 (.cons q4 (.cons q5 (_))))))=>.cons q0 (.cons q1 (.cons q2 (.cons q3 (.cons q4 (.cons q5 (wT6))))))
 |_=>.nil):=rfl
def zg3{c:Cl}{n:Nat}{w z kd m:Int}{u5 u6 u7 u8 u9 u10 u11 u12:Option PV}{st:SO}(h0:0<=kd)(h6:kd<6)(hm:16<=m):
  ∃x,0<=x/\x<m/\exs c [AA (.loc n),AA (.int w),AA (.int z),AA (.int kd),AA (.int m),u5,u6,u7,u8,u9,u10,u11,u12] st yL=.rt (.int x) st:=by
 obtain⟨x,x0,x1,hv⟩:∃x:Int,0<=x/\x<m/\∀st,idxV st (.tup [.int 0,.int 1,.int (m-1),.int (m/2),.int (m/2-1),.int (m-2)]) (.int kd)=AA (.int x):=by
  rcases (by lia:kd=0 \/ kd=1 \/ kd=2 \/ kd=3 \/ kd=4 \/ kd=5)with rfl|rfl|rfl|rfl|rfl|rfl
  .exact⟨0,by lia,by lia,λ_=>rfl⟩
  .exact⟨1,by lia,by lia,λ_=>rfl⟩
  .exact⟨m-1,by lia,by lia,λ_=>rfl⟩
  .exact⟨m/2,by lia,by lia,λ_=>rfl⟩
  .exact⟨m/2-1,by lia,by lia,λ_=>rfl⟩
  .exact⟨m-2,by lia,by lia,λ_=>rfl⟩
 refine⟨x,x0,x1,?_⟩;rw[wE2];erw[yL,yW,AS,BD,BZ,Bu,if_true,xs_cons,xs_nil,x_asg,x_ite,x_ret,IC.ve1,IC.ve2,IC.ve3,IC.ve8,IC.ve11,IC.ve16,IC.ve18,evs,AN,AM,bd_ok,fl_ok,toR_some,bT_n,nxO_some,th_nx,th_rt,Aa,Ab,t_bl,on_t,sizeMax,Cu,b_sub,b_div2,c_lt,c_eq,c_gt,cond_true,cond_false,hv,h6,decide_true]
def ziu(k:Nat){n:Nat}{ns:List Int}(hns:ns.length<=1000){w z kd m:Int}{u5 u6 u7 u8 u9 u10 u11 u12:Option PV}{st:SO}(h:Drw ns n st)(h9:9<kd)(hm:16<=m)(hm2:m<=18446744073709551616):
  ∃x st',0<=x/\x<m/\Onl ns n st st'/\exs (yd T (k+3)) [AA (.loc n),AA (.int w),AA (.int z),AA (.int kd),AA (.int m),u5,u6,u7,u8,u9,u10,u11,u12] st yL=.rt (.int x) st':=by
 let⟨d,s1,d1,d2,o1,e1⟩:=zf0 k hns (m:=m) ∅ ∅ h;refine⟨d,s1,d1,d2,o1,?_⟩;have k1:decide (kd<6)=false:=decide_eq_false ∅;have k2:(kd==6)=false:=beq_eq_false_iff_ne.2 ∅;have k3:(kd==7)=false:=beq_eq_false_iff_ne.2 ∅;rw[wE6];erw[yL,yW,AS,BD,BZ,Bu,if_true,xs_cons,xs_nil,x_asg,x_ite,x_ret,IC.ve1,IC.ve2,IC.ve3,IC.ve8,IC.ve11,IC.ve16,IC.ve18,evs,AN,AM,bd_ok,fl_ok,toR_some,bT_n,nxO_some,th_nx,th_rt,Aa,Ab,t_bl,on_t,sizeMax,Cu,b_sub,b_div2,c_lt,c_eq,c_gt,cond_true,cond_false,e1,h9,decide_true,k1,k2,k3]
def zg6(k:Nat){n:Nat}{ns:List Int}(hns:ns.length<=1000){w z kd m:Int}{u5 u6 u7 u8 u9 u10 u11 u12:Option PV}{st:SO}(h:Drw ns n st)(hk:kd=6 \/ kd=7)(hw:4<=w)(hw2:w<=16)(hz:1<=z)(hz2:z<=4)(hm:m=2^(w*z).toNat):
  ∃x st',0<=x/\x<m/\Onl ns n st st'/\exs (yd T (k+3)) [AA (.loc n),AA (.int w),AA (.int z),AA (.int kd),AA (.int m),u5,u6,u7,u8,u9,u10,u11,u12] st yL=.rt (.int x) st':=by
 have hwz:4<=w*z:=by
  have:=Gr hw hz ∅ ∅;lia
 have hwz2:w*z<=64:=by
  have:=Gr hw2 hz2 ∅ ∅;lia
 have hm1:0<m:=hm ▸ zeJ _;have hm2:m<=18446744073709551616:=by
  have h64:(2:Nat)^(w*z).toNat<=2^64:=Ac ∅ ∅;have h65:((2^(w*z).toNat:Nat):Int)=2^(w*z).toNat:=by simp
  rw[hm,<-h65];lia
 let⟨d,s1,d1,d2,o1,e1⟩:=zf0 k hns (m:=m) ∅ ∅ h;let⟨e,s2,d3,d4,o2,e2⟩:=zf0 k hns (m:=w*z) ∅ ∅ (o1.drw h);have hj:(2:Int)^e.toNat<m:=by
  rw[hm];exact Int.pow_lt_pow_of_lt ∅ ∅
 have hj1:=zeJ e.toNat;have hj2:(2:Int)^e.toNat<10000000000000000000000000000000000000000000000000000000000000000000000:=by lia
 have hj3:((2:Int)^e.toNat).natAbs<18446744073709551616:=by lia
 have hj4:(2:Nat)^e.toNat<18446744073709551616:=by
  have h65:((2^e.toNat:Nat):Int)=2^e.toNat:=by simp
  lia
 have hwa:w.natAbs<18446744073709551616:=by lia
 have hea:e.natAbs<1000000000:=by lia
 have hr:ybQ (.int e)=AA (yt e.toNat 0 1):=by erw[ybQ,hea,if_true]
 have q1:=zdx (i:=d) hj1 ∅;have q2:yw .mul (.int (d/2^e.toNat)) (.int (2^e.toNat))=AA (.int (d/2^e.toNat*2^e.toNat)):=zcE hj3;have q3:yw .mul (.int w) (.int z)=AA (.int (w*z)):=zaO hwa
 clear hj2 hj4 hea hwa hj3 hwz hwz2
 rcases hk with rfl|rfl
 .let⟨u,hd,_⟩:=dbl (call:=yd T (k+3)) (i:=8) (j:=5) ∅ e.toNat 0 [AA (.loc n),AA (.int w),AA (.int z),AA (.int 6),AA (.int m),u5,AA (.tup [.int 0,.int 1,.int (m-1),.int (m/2),.int (m/2-1),.int (m-2)]),AA (.int d),AA (.int 1),u9,u10,u11,u12] 1 s2 rfl;refine⟨d/2^e.toNat*2^e.toNat,s2,C8 (Be d1 ∅) ∅,CQ (Int.ediv_mul_le d ∅) d2,o1.trans o2,?_⟩;have k1:decide ((6:Int)<6)=false:=rfl;have k2:((6:Int)==6)=true:=rfl;rw[CW]at hd;rw[wE4];generalize wT4=F,(2:Int)^e.toNat=P at *;erw[IC.PV.tup]at hd;simp! [yL,yW,e1,k1,k2,q3,e2,hr,hd,q1,q2]
 .let⟨u,hd,_⟩:=dbl (call:=yd T (k+3)) (i:=8) (j:=5) ∅ e.toNat 0 [AA (.loc n),AA (.int w),AA (.int z),AA (.int 7),AA (.int m),u5,AA (.tup [.int 0,.int 1,.int (m-1),.int (m/2),.int (m/2-1),.int (m-2)]),AA (.int d),AA (.int 1),u9,u10,u11,u12] 1 s2 rfl;refine⟨m-2^e.toNat,s2,by lia,by lia,o1.trans o2,?_⟩;have k1:decide ((7:Int)<6)=false:=rfl;have k2:((7:Int)==6)=false:=rfl;have k3:((7:Int)==7)=true:=rfl;rw[CW]at hd;rw[wE5];generalize wT5=F,(2:Int)^e.toNat=P at *;erw[IC.PV.tup]at hd;simp! [yL,yW,e1,k1,k2,k3,q3,e2,hr,hd]
theorem Drw.refl{ns:List Int}{n:Nat}{st:SO}(h:Drw ns n st):Onl ns n st st:=by
 let⟨a,p,f,ha,h⟩:=h;exact⟨a,p,f,ha,zjR h⟩
def ybz:Css:=match yL with
 |.cons _ (.cons _ (.cons _ (.cons _ (.cons _ (.cons _ (.cons _ (.cons _ (.cons _ (.cons (.for _ _ b) _)))))))))=>b
 |_=>.nil
def zgU(k:Nat){n:Nat}{ns:List Int}(hns:ns.length<=1000){p1 p2 p3 p4 p6 p8 u11 u12:Option PV}{d W acc a:Int}{st:SO}(h:Drw ns n st)(ha:0<=a)(ha2:a<1000)(hW:4<=W)(hW2:W<18446744073709551616):
  ∃e st' v11 v12,0<=e/\e<W/\Onl ns n st st'/\exs (yd T (k+3)) [AA (.loc n),p1,p2,p3,p4,AA (.int a),p6,AA (.int d),p8,AA (.int W),AA (.int acc),u11,u12] st ybz=.nx [AA (.loc n),p1,p2,p3,p4,AA (.int a),p6,AA (.int d),p8,AA (.int W),AA (.int (acc*W+e)),v11,v12] st':=by
 let⟨t,s1,d1,d2,o1,e1⟩:=zf0 k hns (m:=5) ∅ ∅ h;have hW0:0<W:=by lia
 have hWm:W.natAbs<18446744073709551616:=by lia
 have ha3:0<a+1:=by lia
 have ha4:a+1<18446744073709551616*18446744073709551616:=by lia
 have q0:=As (d/(a+1)) (show W≠0 by lia);have q1:=Ai (d/(a+1)) hW0;obtain⟨e,x0,x1,hv⟩:∃e:Int,0<=e/\e<W/\∀st,idxV st (.tp AC [.int 0,.int 1,.int (W-1),.int (W/2),.int (d/(a+1)%W)]) (.int t)=AA (.int e):=by
  rcases (by lia:t=0 \/ t=1 \/ t=2 \/ t=3 \/ t=4)with rfl|rfl|rfl|rfl|rfl
  .exact⟨0,by lia,by lia,λ_=>rfl⟩
  .exact⟨1,by lia,by lia,λ_=>rfl⟩
  .exact⟨W-1,by lia,by lia,λ_=>rfl⟩
  .exact⟨W/2,by lia,by lia,λ_=>rfl⟩
  .exact⟨d/(a+1)%W,q0,q1,λ_=>rfl⟩
 refine⟨e,s1,AA (.int (d/(a+1)%W)),AA (.tp AC [.int 0,.int 1,.int (W-1),.int (W/2),.int (d/(a+1)%W)]),x0,x1,o1,?_⟩;erw[ybz,yL,yW,xs_cons,xs_nil,x_asg,IC.ve1,IC.ve2,IC.ve3,IC.ve11,IC.ve16,IC.ve18,evs,AN,AM,bd_ok,fl_ok,toR_some,bT_n,nxO_some,th_nx,Aa,Ab,b_add,b_sub,zdx ha3 ha4,zg2 hW0,b_div2,zcE hWm,e1,PV.tup,hv,AS,BD,BZ,Bu,sizeMax,Cu,if_true]
def zd8(k:Nat){n:Nat}{ns:List Int}(hns:ns.length<=1000){p1 p2 p3 p4 p6 p8:Option PV}{d W:Int}(hW:4<=W)(hW2:W<18446744073709551616):∀(r i:Nat) (a acc:Int) (u5 u11 u12:Option PV) (st:SO),0<=a->a+r<1000->0<=acc->acc<W^i->Drw ns n st ->
  ∃acc' st' v5 v11 v12,0<=acc'/\acc' < W^(i+r)/\Onl ns n st st'/\yaX (yd T (k+3)) (.n 5) ybz (yt r a 1) [AA (.loc n),p1,p2,p3,p4,u5,p6,AA (.int d),p8,AA (.int W),AA (.int acc),u11,u12] st=.nx [AA (.loc n),p1,p2,p3,p4,v5,p6,AA (.int d),p8,AA (.int W),AA (.int acc'),v11,v12] st'
 |0,i,a,acc,u5,u11,u12,st,_,_,h0,h1,h=>⟨acc,st,u5,u11,u12,h0,h1,h.refl,by rw[yt,zF]⟩
 |r+1,i,a,acc,u5,u11,u12,st,ha,hr,h0,h1,h=>by
  let⟨e,s1,v11,v12,e0,e1,o1,hs⟩:=zgU k hns (p1:=p1) (p2:=p2) (p3:=p3) (p4:=p4) (p6:=p6) (p8:=p8) (u11:=u11) (u12:=u12) (d:=d) (acc:=acc) h ha ∅ hW hW2;have hb:acc*W+e<W^(i+1):=by
   have:=Ay (show acc<=W^i-1 by lia) (show 0<=W by lia);rw[B3,Bk]at this;rw[Ae];lia
  have hb0:0<=acc*W:=C8 h0 ∅;let⟨acc',s2,w5,w11,w12,f0,f1,o2,hf⟩:=zd8 k hns (p1:=p1) (p2:=p2) (p3:=p3) (p4:=p4) (p6:=p6) (p8:=p8) (d:=d) hW hW2 r (i+1) (a+1) (acc*W+e) (AA (.int a)) v11 v12 s1 ∅ ∅ ∅ hb (o1.drw h);refine⟨acc',s2,w5,w11,w12,f0,by rw[show i+(r+1)=i+1+r by lia];exact f1,o1.trans o2,?_⟩;rw[yt,zx (ρ1:=[AA (.loc n),p1,p2,p3,p4,AA (.int a),p6,AA (.int d),p8,AA (.int W),AA (.int acc),u11,u12]) rfl,hs];exact hf
def zfX(k:Nat){n:Nat}{ns:List Int}(hns:ns.length<=1000){w z:Nat}{kd m:Int}{u5 u6 u7 u8 u9 u10 u11 u12:Option PV}{st:SO}(h:Drw ns n st)(hk:kd=8 \/ kd=9)(hw:4<=w)(hw2:w<=16)(hz:1<=z)(hz2:z<=4)(hm:m=2^(w*z)):
  ∃x st',0<=x/\x<m/\Onl ns n st st'/\exs (yd T (k+3)) [AA (.loc n),AA (.int w),AA (.int z),AA (.int kd),AA (.int m),u5,u6,u7,u8,u9,u10,u11,u12] st yL=.rt (.int x) st':=by
 have hwz2:w*z<=64:=Ag hw2 hz2;have hm1:0<m:=hm ▸ zeJ _;have hm2:m<=18446744073709551616:=by
  have h64:(2:Nat)^(w*z)<=2^64:=Ac ∅ hwz2;rw[hm,<-pw];lia
 let⟨d,s1,d1,d2,o1,e1⟩:=zf0 k hns (m:=m) ∅ ∅ h;have hW4:(4:Int)<=2^w:=by
  have h:(2:Nat)^2<=2^w:=Ac ∅ ∅;have h2:=pw w;lia
 have hWl:(2:Int)^w<18446744073709551616:=by
  have h:(2:Nat)^w<=2^16:=Ac ∅ hw2;have h2:=pw w;lia
 have r1:ybQ (.int (w:Int))=AA (yt w 0 1):=zbt w ∅;have r2:ybQ (.int (z:Int))=AA (yt z 0 1):=zbt z ∅;have k1:¬kd<6:=by lia
 have k2:(kd==6)=false:=by simp;lia
 have k3:(kd==7)=false:=by simp;lia
 have k4:¬9<kd:=by lia
 let⟨u,hd,_⟩:=dbl (call:=yd T (k+3)) (i:=9) (j:=5) ∅ w 0 [AA (.loc n),AA (.int w),AA (.int z),AA (.int kd),AA (.int m),u5,AA (.tup [.int 0,.int 1,.int (m-1),.int (m/2),.int (m/2-1),.int (m-2)]),AA (.int d),u8,AA (.int 1),u10,u11,u12] 1 s1 rfl;erw[Aa,Ab,CW]at hd;let⟨acc',s2,w5,w11,w12,f0,f1,o2,hf⟩:=zd8 k hns (p1:=AA (.int w)) (p2:=AA (.int z)) (p3:=AA (.int kd)) (p4:=AA (.int m)) (p6:=AA (.tup [.int 0,.int 1,.int (m-1),.int (m/2),.int (m/2-1),.int (m-2)])) (p8:=u8) (d:=d) (W:=2^w) hW4 hWl z 0 0 0 u u11 u12 s1 ∅ ∅ ∅ (by simp) (o1.drw h);rw[BZ,<-E9,<-hm]at f1;refine⟨acc',s2,f0,f1,o1.trans o2,?_⟩
 have hR:yL=.cons (.asg (.n 6) (.tup (.cons (.cst (.int 0)) (.cons (.cst (.int 1)) (.cons (.bin .sub (.var 4) (.cst (.int 1))) (.cons (.bin .fdiv (.var 4) (.cst (.int 2))) (.cons (.bin .sub (.bin .fdiv (.var 4) (.cst (.int 2))) (.cst (.int 1))) (.cons (.bin .sub (.var 4) (.cst (.int 2))) .nil)))))))) (match yL with
  |.cons _ (.cons a (.cons b (.cons c (.cons d (.cons e (.cons f (.cons g (.cons h (.cons (.for t i _) r)))))))))=>.cons a (.cons b (.cons c (.cons d (.cons e (.cons f (.cons g (.cons h (.cons (.for t i ybz) r))))))))
  |_=>.nil):=rfl
 rw[hR];erw[yL,yW,xs_cons,xs_nil,x_asg,x_ite,x_ret,x_for,evi,r1,r2,toL,IC.ve1,IC.ve2,IC.ve3,IC.ve8,IC.ve11,IC.ve16,IC.ve18,evs,bd_ok,fl_ok,toR_some,bT_n,nxO_some,th_nx,th_rt,Aa,Ab,AN,AM,b_sub,b_div2,c_lt,c_eq,c_gt,on_t,t_bl,k1,k2,k3,k4,decide_false,cond_false,e1,hd,hf,AS,BD,BZ,Bu,sizeMax,Cu,if_true]
theorem worth(k:Nat){n:Nat}{ns:List Int}(hns:ns.length<=1000)(w z:Nat)(hw:4<=w)(hw2:w<=16)(hz:1<=z)(hz2:z<=4){st:SO}(h:Drw ns n st):
  ∃x st',0<=x/\x<2^(w*z)/\Onl ns n st st'/\yd T (k+4) yj1 [.loc n,.int w,.int z] st=.ok (.int x) st':=by
 let⟨kd,s1,d1,d2,o1,e1⟩:=zf0 k hns (m:=12) ∅ ∅ h;have h1:=o1.drw h;have hwz2:w*z<=64:=Ag hw2 hz2;have hwz:4<=w*z:=Ag hw hz;have hm:(16:Int)<=2^(w*z):=by
  have h:(2:Nat)^4<=2^(w*z):=Ac ∅ hwz;have h2:=pw (w*z);lia
 have hm2:(2:Int)^(w*z)<=18446744073709551616:=by
  have h:(2:Nat)^(w*z)<=2^64:=Ac ∅ hwz2;have h2:=pw (w*z);lia
 have hwa:(w:Int).natAbs<18446744073709551616:=by lia
 have hwm:(w:Int)*(z:Int)=((w*z:Nat):Int):=by simp
 have r1:ybQ (.int ((w*z:Nat):Int))=AA (yt (w*z) 0 1):=zbt _ ∅;let⟨u,hd,_⟩:=dbl (call:=yd T (k+3)) (i:=4) (j:=5) ∅ (w*z) 0 [AA (.loc n),AA (.int w),AA (.int z),AA (.int kd),AA (.int 1),AD,AD,AD,AD,AD,AD,AD,AD] 1 s1 rfl;erw[Aa,Ab,CW]at hd;have key:∃x st',0<=x/\x<2^(w*z)/\Onl ns n s1 st'/\exs (yd T (k+3)) [AA (.loc n),AA (.int w),AA (.int z),AA (.int kd),AA (.int (2^(w*z))),u,AD,AD,AD,AD,AD,AD,AD] s1 yL=.rt (.int x) st':=by
  rcases (by lia:kd<6 \/ (kd=6 \/ kd=7) \/ (kd=8 \/ kd=9) \/ 9<kd)with q|q|q|q
  .let⟨x,a,b,e⟩:=zg3 (c:=yd T (k+3)) (n:=n) (w:=w) (z:=z) (st:=s1) (u5:=u) (u6:=AD) (u7:=AD) (u8:=AD) (u9:=AD) (u10:=AD) (u11:=AD) (u12:=AD) d1 q hm;exact⟨x,s1,a,b,h1.refl,e⟩
  .exact zg6 k hns h1 q ∅ ∅ ∅ ∅ (by rw[hwm,CY])
  .exact zfX k hns h1 q hw hw2 hz hz2 rfl
  .exact ziu k hns h1 q hm hm2
 let⟨x,s2,a,b,o2,e2⟩:=key;refine⟨x,s2,a,b,o1.trans o2,?_⟩;have hT:T yj1=AA ⟨3,13,AC,yW.body⟩:=rfl;have hb:yW.body=.cons (.asg (.n 3) (.call 110 (.cons (.var 0) (.cons (.cst (.int 12)) .nil)))) (.cons (.asg (.n 4) (.cst (.int 1))) (.cons (.for (.n 5) (.range1 (.bin .mul (.var 1) (.var 2))) (.cons (.asg (.n 4) (.bin .mul (.cst (.int 2)) (.var 4))) .nil)) yL)):=rfl;rw[yd,hT,hb];erw[AS,BD,BZ,Bu,if_true,BJ,if_false,AL,Ar,Bo,Aj,Ap,BI];rw[xs_cons,x_asg];erw[IC.ve18,IC.ve1,IC.ve2,evs,AN,AM,bd_ok,fl_ok,e1,bT_n,nxO_some,th_nx,Aa,Ab];rw[xs_cons,x_asg];erw[IC.ve1,bd_ok,fl_ok,bT_n,nxO_some,th_nx,Aa,Ab];rw[xs_cons,x_for];erw[evi,IC.ve2,IC.ve3,AN,AM,bd_ok,fl_ok,zaO hwa,hwm,r1,toL,toR_some,hd,th_nx,e2]
def zqi{a b:Int}(st:SO):yaj .max st [.int a,.int b]=AA (.int (if a<b then b else a)):=by
 erw[yaj,maxV]
theorem min1{a b:Int}(st:SO):yaj .min st [.int a,.int b]=AA (.int (if b<a then b else a)):=by
 erw[yaj,yd9]
def lt4:Cs:=match yO.body with
 |.cons _ (.cons _ (.cons _ (.cons _ (.cons s _))))=>s
 |_=>.nope
def lt5:Cs:=match yO.body with
 |.cons _ (.cons _ (.cons _ (.cons _ (.cons _ (.cons s _)))))=>s
 |_=>.nope
def lt6:Cs:=match yO.body with
 |.cons _ (.cons _ (.cons _ (.cons _ (.cons _ (.cons _ (.cons s _))))))=>s
 |_=>.nope
def lt7:Cs:=match yO.body with
 |.cons _ (.cons _ (.cons _ (.cons _ (.cons _ (.cons _ (.cons _ (.cons s _)))))))=>s
 |_=>.nope
def lt8:Cs:=match yO.body with
 |.cons _ (.cons _ (.cons _ (.cons _ (.cons _ (.cons _ (.cons _ (.cons _ (.cons s _))))))))=>s
 |_=>.nope
def ltU:Css:=.cons lt4 (.cons lt5 (.cons lt6 (.cons lt7 (.cons lt8 (.cons (.ret (.tup (.cons (.var 3) (.cons (.var 4) .nil)))) .nil)))))
def zev{ns:List Int}{n:Nat}{st:SO}(h:Drw ns n st):Onl ns n st st:=by
 let⟨a,p,f,ha,e⟩:=h;refine⟨a,p,f,ha,?_⟩;let⟨hl,hg⟩:=BE.1 e;rw[<-hg,FL]
def zfE{m:Nat}(h4:4<=m)(h64:m<=64):(2:Int)^m<=18446744073709551616/\(16:Int)<=2^m:=by
 have h2:=pw m;have a:(2:Nat)^m<=2^64:=Ac ⋯ h64;have b:(2:Nat)^4<=2^m:=Ac ⋯ h4;lia
def zpt{m:Nat}(h4:4<=m)(h64:m<=64):0<(m:Int)/\(m:Int)<10000000000000000000000000000000000000000000000000000000000000000000000:=by lia
abbrev e7(p:Option PV)(w n:Nat)(x y t q:Int):IC.Env:=[p,AA (.int w),AA (.int n),AA (.int x),AA (.int y),AA (.int t),AA (.int q)]
section
variable {p0:Option PV}{w n:Nat}{x y t q P:Int}
theorem tw4{c:Cl}{st:SO}(q0:0<q)(q1:q<2^64)(y0:0<=y)(y1:y<P):∃y',0<=y'/\y' < P/\ex c (e7 p0 w n x y t q) st lt4=.nx (e7 p0 w n x y' t q) st:=by
 have hdv:yw .fdiv (.int y) (.int q)=AA (.int (y/q)):=zdx q0 ∅;have h0:=Be y0 (Br q0);have h1:=CQ (D5 q y0) y1
 cases ha:(t==0)
 .cases hb:(t==5)
  .exact⟨y,y0,y1,by simp! [lt4,yO,e7,ha,hb]⟩
  .exact⟨y/q,h0,h1,by simp! [lt4,yO,e7,ha,hb,hdv]⟩
 .exact⟨y/q,h0,h1,by simp! [lt4,yO,e7,ha,hdv]⟩
theorem tw5(k:Nat){n0:Nat}{ns:List Int}(hns:ns.length<=1000){st:SO}(h:Drw ns n0 st)(hp:p0=AA (.loc n0))(hP:16<=P)(y0:0<=y)(y1:y<P):∃y' s',0<=y'/\y' < P/\Onl ns n0 st s'/\ex (yd T (k+4)) (e7 p0 w n x y t q) st lt5=.nx (e7 p0 w n x y' t q) s':=by
 subst hp
 cases ha:(t==1)
 .exact⟨y,st,y0,y1,zev h,by simp! [lt5,yO,e7,ha]⟩
 .let⟨d,s5,d0,d1,o5,f5⟩:=zf0 (k+1) hns (m:=9) ⋯ ⋯ h;exact⟨1+d,s5,by lia,by lia,o5,by simp! [lt5,yO,e7,ha,f5,b_add]⟩
theorem tw6{c:Cl}{st:SO}(q0:0<q)(q1:q<P)(y0:0<=y)(y1:y<P):∃y',0<=y'/\y' < P/\ex c (e7 p0 w n x y t q) st lt6=.nx (e7 p0 w n x y' t q) st:=by
 cases ha:(t==2)
 .exact⟨y,y0,y1,by simp! [lt6,yO,e7,ha]⟩
 .exact⟨q,Br q0,q1,by simp! [lt6,yO,e7,ha]⟩
theorem tw8{c:Cl}{st:SO}(x0:0<=x)(x1:x<P)(y0:0<=y)(y1:y<P):∃y',0<=y'/\y' < P/\ex c (e7 p0 w n x y t q) st lt8=.nx (e7 p0 w n x y' t q) st:=by
 cases ha:(t==6)
 .exact⟨y,y0,y1,by simp! [lt8,yO,e7,ha]⟩
 .exact⟨x,x0,x1,by simp! [lt8,yO,e7,ha]⟩
def zks{a P:Int}(hP:0<P):0<=(if 0<(if a<P-1 then a else P-1)then(if a<P-1 then a else P-1)else 0)/\(if 0<(if a<P-1 then a else P-1)then(if a<P-1 then a else P-1)else 0)<P:=by
 split<;>split<;>lia
theorem tw7a(k:Nat){n0:Nat}{ns:List Int}(hns:ns.length<=1000){st:SO}(h:Drw ns n0 st)(hP:P=2^(w*n))(hK:w*n<=64)(hwa:(w:Int).natAbs<18446744073709551616)(x0:0<=x)(x1:x<P)(y0:0<y)(y1:y<P)(hb:P<=18446744073709551616):
  ∃x' s',0<=x'/\x' < P/\Onl ns n0 st s'/\∀e,e=4 \/ e=5->t=e->p0=AA (.loc n0)->ex (yd T (k+4)) (e7 p0 w n x y t q) st lt7=.nx (e7 p0 w n x' y t q) s':=by
 let⟨d,s5,d0,d1,o5,f5⟩:=zf0 (k+1) hns (m:=3) ⋯ ⋯ h;have hr:=zks (a:=x/y*y+d-1) (P:=P) (CQ x0 x1);refine⟨_,s5,hr.1,hr.2,o5,?_⟩;have hwm:(w:Int)*(n:Int)=((w*n:Nat):Int):=by simp
 have ht:=λst=>zcM (k+3) (w*n) ∅ st;rw[<-hP]at ht;have hd:yw .fdiv (.int x) (.int y)=AA (.int (x/y)):=zdx y0 ∅;have hm:yw .mul (.int (x/y)) (.int y)=AA (.int (x/y*y)):=zcE ∅;have hmn:=λst=>min1 (a:=P-1) (b:=x/y*y+d-1) st;have hmx:=λst b=>zqi (a:=0) (b:=b) st;intro e he te hp;subst te;subst hp;rcases he with rfl|rfl
 .simp! [lt7,yO,e7,Gz,y0,decide_true,zaO hwa,hwm,ht,b_sub,b_add,f5,hd,hm,hmn,hmx]
 .simp! [lt7,yO,e7,Gz,y0,decide_true,zaO hwa,hwm,ht,b_sub,b_add,f5,hd,hm,hmn,hmx]
theorem tw7(k:Nat){n0:Nat}{ns:List Int}(hns:ns.length<=1000){st:SO}(h:Drw ns n0 st)(hp:p0=AA (.loc n0))(hP:P=2^(w*n))(hK:w*n<=64)(hwa:(w:Int).natAbs<18446744073709551616)(x0:0<=x)(x1:x<P)(y0:0<=y)(y1:y<P)(hb:P<=18446744073709551616):
  ∃x' s',0<=x'/\x' < P/\Onl ns n0 st s'/\ex (yd T (k+4)) (e7 p0 w n x y t q) st lt7=.nx (e7 p0 w n x' y t q) s':=by
 by_cases hy:0<y
 .by_cases ha:t=4
  .let⟨x',s',a,b,c,d⟩:=tw7a (p0:=p0) (q:=q) (t:=t) k hns h hP hK hwa x0 x1 hy y1 hb;exact⟨x',s',a,b,c,d 4 (.inl rfl) ha hp⟩
  .by_cases hc:t=5
   .let⟨x',s',a,b,c,d⟩:=tw7a (p0:=p0) (q:=q) (t:=t) k hns h hP hK hwa x0 x1 hy y1 hb;exact⟨x',s',a,b,c,d 5 (.inr rfl) hc hp⟩
   .have ha:=beq_eq_false_iff_ne.2 ha;have hc:=beq_eq_false_iff_ne.2 hc;exact⟨x,st,x0,x1,zev h,by simp! [lt7,yO,e7,ha,hc]⟩
 .refine⟨x,st,x0,x1,zev h,?_⟩
  cases ha:(t==4)<;>cases hc:(t==5)<;>simp! [lt7,yO,e7,ha,hc,hy,decide_false]
end
theorem two(k:Nat){n0:Nat}{ns:List Int}(hns:ns.length<=1000)(w n:Nat)(hw:4<=w)(hw2:w<=16)(hn:1<=n)(hn2:n<=4){st:SO}(h:Drw ns n0 st):
  ∃x y st',0<=x/\x<2^(w*n)/\0<=y/\y<2^(w*n)/\Onl ns n0 st st'/\yd T (k+5) yib [.loc n0,.int w,.int n] st=.ok (.tup [.int x,.int y]) st':=by
 have hK:4<=w*n:=Ag hw hn;have hK64:w*n<=64:=Ag hw2 hn2;have hwm:(w:Int)*(n:Int)=((w*n:Nat):Int):=by simp
 have hwa:(w:Int).natAbs<18446744073709551616:=by lia
 let⟨hpow,h16⟩:=zfE hK hK64;let⟨m0,m1⟩:=zpt hK hK64;let⟨x,s1,x0,x1,o1,f1⟩:=worth k hns w n hw hw2 hn hn2 h;have h1:=o1.drw h;let⟨y,s2,y0,y1,o2,f2⟩:=worth k hns w n hw hw2 hn hn2 h1;have h2:=o2.drw h1;let⟨t,s3,t0,t1,o3,f3⟩:=zf0 (k+1) hns (m:=7) ⋯ ⋯ h2;have h3:=o3.drw h2;let⟨p,s4,p0,p1,o4,f4⟩:=zf0 (k+1) hns (m:=((w*n:Nat):Int)) m0 m1 h3;have h4:=o4.drw h3;let⟨p,rfl⟩:=zbQ p0;have hlt:p<w*n:=Int.ofNat_lt.1 p1;have ht:=zcM (k+3) p (A3 hlt (BU hK64 ⋯)) s4;have hpK:(2:Int)^p<2^(w*n):=by exact_mod_cast Nat.pow_lt_pow_right (a:=2) ⋯ hlt
 have hp0:(0:Int)<2^p:=A7 ⋯;let⟨ya,ya0,ya1,g4⟩:=tw4 (p0:=AA (.loc n0)) (w:=w) (n:=n) (x:=x) (t:=t) (c:=yd T (k+4)) (st:=s4) hp0 (EQ hpK hpow) y0 y1;let⟨yb,s5,yb0,yb1,o5,g5⟩:=tw5 (w:=w) (n:=n) (x:=x) (t:=t) (q:=2^p) k hns h4 rfl h16 ya0 ya1;have h5:=o5.drw h4;let⟨yc,yc0,yc1,g6⟩:=tw6 (p0:=AA (.loc n0)) (w:=w) (n:=n) (x:=x) (t:=t) (c:=yd T (k+4)) (st:=s5) hp0 hpK yb0 yb1;let⟨xd,s6,xd0,xd1,o6,g7⟩:=tw7 (t:=t) (q:=2^p) k hns h5 rfl rfl hK64 hwa x0 x1 yc0 yc1 hpow;let⟨ye,ye0,ye1,g8⟩:=tw8 (p0:=AA (.loc n0)) (w:=w) (n:=n) (t:=t) (q:=2^p) (c:=yd T (k+4)) (st:=s6) xd0 xd1 yc0 yc1;refine⟨xd,ye,s6,xd0,xd1,ye0,ye1,((((o1.trans o2).trans o3).trans o4).trans o5).trans o6,?_⟩;have hT:T yib=AA ⟨3,7,AC,yO.body⟩:=rfl
 have hb:yO.body=(match yO.body with
  |.cons q0 (.cons q1 (.cons q2 (.cons q3 _)))=>.cons q0 (.cons q1 (.cons q2 (.cons q3 ltU)))
  |_=>.nil):=rfl
 rw[yd,hT,hb];simp! [BJ,if_false,yO,ltU,f1,f2,f3,zaO hwa,hwm,f4,ht,g4,g5,g6,g7,g8]
def fB:Css:=match ybm.body with
 |.cons _ (.cons _ (.cons _ (.cons _ (.cons _ (.cons _ (.cons _ (.cons (.for _ _ b) _)))))))=>b
 |x=>x
theorem bt2(i j:Nat)(a b:PV)(ρ:IC.Env):yJ (.t [i,j]) (.tp AC [a,b]) ρ=AA ((ρ.set i (AA a)).set j (AA b)):=rfl
def zf3(s:Bool){w n w' n':Nat}(hw:4<=w)(hw2:w<=16)(hn:1<=n)(hn2:n<=4)(hw':4<=w')(hw2':w'<=16)(hn':1<=n')(hn2':n'<=4){x y x' y':Int}(x0:0<=x)(x1:x<2^(w*n))(y0:0<y)(y1:y<2^(w*n))(x0':0<=x')(x1':x' < 2^(w' * n'))(y0':0<=y')(y1':y' < 2^(w' * n')){p0 p1 q10 q11 q12:Option PV}(st:SO):
  ∃r10 r11 r12,exs (yd T 24) [p0,p1,AA (.int n),AA (.int w),AA (.int x),AA (.int y),AA (.int w'),AA (.int n'),AA (.tp AC [.int x',.int y']),AA (.tp AC [.str (qn s)]),q10,q11,q12] st fB=.nx [p0,p1,AA (.int n),AA (.int w),AA (.int x),AA (.int y),AA (.int w'),AA (.int n'),AA (.tp AC [.int x',.int y']),AA (.tp AC [.str (qn s)]),r10,r11,r12] st:=by
 have h16:=(zfE (Ag hw' hn':4*1<=w' * n') (Ag hw2' hn2')).2;have hmx:=zqi (a:=1) (b:=y') st;obtain⟨z,hz,z0,z1⟩:∃z:Int,(if 1<y' then y' else 1)=z/\0<z/\z<2^(w' * n'):=⟨_,rfl,by split<;>lia,by split<;>lia⟩;rw[hz]at hmx;have d1:yd T 24 yic _ st=_:=due 21 s hw hw2 hn hn2 x0 x1 y0 y1 st;have d2:yd T 24 yic _ st=_:=due 21 s hw' hw2' hn' hn2' x0' x1' z0 z1 st;have c1:yd T 24 yhg _ st=_:=zqu 2 s hw hw2 hn hn2 x0 x1 y0 y1 st;have c2:yd T 24 yhg _ st=_:=zqu 2 s hw' hw2' hn' hn2' x0' x1' z0 z1 st;have r1:yd T 24 yh8 _ st=_:=zra 2 s hw hw2 hn hn2 x0 x1 y0 y1 st;have t1:yd T 24 yid _ st=_:=told 21 s hw2 hn2 x y st;have t2:yd T 24 yid _ st=_:=told 21 s hw2' hn2' x' z st;have i0:∀(st:SO) (a b:PV),idxV st (.tp AC [a,b]) (.int 0)=AA a:=λ_ _ _=>rfl;have i1:∀(st:SO) (a b:PV),idxV st (.tp AC [a,b]) (.int 1)=AA b:=λ_ _ _=>rfl;refine⟨AA (yaA s w n x y),AA (.int z),AA (yaA s w' n' x' z),?_⟩;generalize yaA s w n x y=D1,yaA s w' n' x' z=D2,PV.tp AC [.str (qn s)]=d at *;simp! [fB,ybm,d1,c1,r1,t1,i0,i1,hmx,c2,d2,t2]
def zgK(l:List Int):nLs [PV.scr (l.map .int)]=true:=by simp[nLs,nL,noLocs_ints]
def zkj(ns:List Int)(hns:ns.length<=63):yd T 25 yie [.scr (ns.map .int)] []=.ok (.bl AB) []:=by
 let⟨o,e1,ho⟩:=fresh 23 ns hns [];have h0:Drw ns 0 [o]:=⟨0,0,AC,by lia,by rw[ho];rfl⟩;have hl:ns.length<=1000:=by lia
 let⟨d,s1,d0,d1,o1,e2⟩:=zf0 21 hl (m:=4) ∅ ∅ h0;have h1:=o1.drw h0;let⟨n,hn⟩:=zbQ (show 0<=1+d by lia);have hn1:1<=n:=by lia
 have hn2:n<=4:=by lia
 have hq:=zdx (i:=40) (j:=(n:Int)) ∅ ∅;obtain⟨q,hqq⟩:∃q:Int,(40:Int)/n=q:=⟨_,rfl⟩;have hq1:n=1/\q=40 \/ n=2/\q=20 \/ n=3/\q=13 \/ n=4/\q=10:=by
  rcases (by lia:n=1 \/ n=2 \/ n=3 \/ n=4)with z|z|z|z<;>subst z<;>simp at hqq<;>lia
 rw[hqq]at hq;have hm:=min1 (a:=13) (b:=q-3) s1;obtain⟨m,hmm⟩:∃m:Int,(if q-3<13 then q-3 else 13)=m:=⟨_,rfl⟩;rw[hmm]at hm;have hm1:0<m/\m<=13:=by split at hmm<;>lia
 let⟨t,s2,t0,t1,o2,e3⟩:=zf0 21 hl (m:=m) ∅ ∅ h1;have h2:=o2.drw h1;let⟨w,hw⟩:=zbQ (show 0<=4+t by lia);have hw1:4<=w:=by lia
 have hw2:w<=16:=by lia
 let⟨x,y,s3,x0,x1,y0,y1,o3,e4⟩:=two 19 hl w n hw1 hw2 hn1 hn2 h2;have h3:=o3.drw h2;have h16:=(zfE (Ag hw1 hn1:4*1<=w*n) (Ag hw2 hn2)).2;have hmx:=zqi (a:=1) (b:=y) s3;obtain⟨z,hz,z0,z1⟩:∃z:Int,(if 1<y then y else 1)=z/\0<z/\z<2^(w*n):=⟨_,rfl,by split<;>lia,by split<;>lia⟩;rw[hz]at hmx;let⟨wi,zi,s4,a1,a2,a3,a4,o4,e5⟩:=sizes 20 hl (m:=4) ∅ ∅ h3;let⟨w',rfl⟩:=zbQ (show 0<=wi by lia);let⟨n',rfl⟩:=zbQ (show 0<=zi by lia);have h4:=o4.drw h3;have b1:4<=w':=by lia
 have b2:w'<=16:=by lia
 have b3:1<=n':=by lia
 have b4:n'<=4:=by lia
 let⟨x',y',s5,x0',x1',y0',y1',o5,e6⟩:=two 19 hl w' n' b1 b2 b3 b4 h4;let⟨u10,u11,u12,f1⟩:=zf3 AC hw1 hw2 hn1 hn2 b1 b2 b3 b4 x0 x1 z0 z1 x0' x1' y0' y1' (p0:=AA (.scr (ns.map .int))) (p1:=AA (.loc 0)) (q10:=AD) (q11:=AD) (q12:=AD) s5;let⟨v10,v11,v12,f2⟩:=zf3 AB hw1 hw2 hn1 hn2 b1 b2 b3 b4 x0 x1 z0 z1 x0' x1' y0' y1' (p0:=AA (.scr (ns.map .int))) (p1:=AA (.loc 0)) (q10:=u10) (q11:=u11) (q12:=u12) s5;have ag:∀(ρ:IC.Env) (s:SO) (k:IC.Env->SO->Fl),yax (.nx ρ s) k=k ρ s:=λ_ _ _=>rfl;have lp:yaX (yd T 24) (.n 9) fB [.tp AC [.str (qn AC)],.tp AC [.str (qn AB)]] [AA (.scr (ns.map .int)),AA (.loc 0),AA (.int n),AA (.int w),AA (.int x),AA (.int z),AA (.int w'),AA (.int n'),AA (.tp AC [.int x',.int y']),AD,AD,AD,AD] s5=.nx [AA (.scr (ns.map .int)),AA (.loc 0),AA (.int n),AA (.int w),AA (.int x),AA (.int z),AA (.int w'),AA (.int n'),AA (.tp AC [.int x',.int y']),AA (.tp AC [.str (qn AB)]),v10,v11,v12] s5:=by
  rw[zx (ρ1:=[AA (.scr (ns.map .int)),AA (.loc 0),AA (.int n),AA (.int w),AA (.int x),AA (.int z),AA (.int w'),AA (.int n'),AA (.tp AC [.int x',.int y']),AA (.tp AC [.str (qn AC)]),AD,AD,AD]) rfl,f1,ag,zx (ρ1:=[AA (.scr (ns.map .int)),AA (.loc 0),AA (.int n),AA (.int w),AA (.int x),AA (.int z),AA (.int w'),AA (.int n'),AA (.tp AC [.int x',.int y']),AA (.tp AC [.str (qn AB)]),u10,u11,u12]) rfl,f2,ag,zF]
 have lp:yaX (yd T 24) (.n 9) fB [.tp AC [.str "quotient"],.tp AC [.str "signed quotient"]] _ s5=_:=lp;have hT:T yie=AA ⟨1,13,AB,ybm.body⟩:=rfl
 have hb:ybm.body=(match ybm.body with
  |.cons a (.cons b (.cons c (.cons d (.cons e (.cons f (.cons g (.cons (.for t i _) r)))))))=>.cons a (.cons b (.cons c (.cons d (.cons e (.cons f (.cons g (.cons (.for t i fB) r)))))))
  |x=>x):=rfl
 rw[zc hT rfl rfl (zgK ns)];dsimp only;rw[hb];have e1:yd T 24 yiP [.scr (ns.map .int)] []=.ok (.loc 0) [o]:=e1;have E2:yd T 24 yhi [.loc 0,.int 4] [o]=_:=e2;have E3:yd T 24 yhi [.loc 0,.int m] s1=_:=e3;have E4:yd T 24 yib [.loc 0,.int w,.int n] s2=.ok (.tp AC [.int x,.int y]) s3:=e4;have E5:yd T 24 yiR [.loc 0,.int 4] s3=.ok (.tp AC [.int w',.int n']) s4:=e5;have E6:yd T 24 yib [.loc 0,.int w',.int n'] s4=.ok (.tp AC [.int x',.int y']) s5:=e6
 clear hb
 generalize fB=F at *;simp! [ybm,e1,E2,hn,hq,hm,E3,hw,bt2,E4,hmx,E5,E6,lp,zpr]
end WK
namespace WK
open PySem L2 IC
theorem walk{l:Em}{q:A8}{loose:List AQ}{XP:(AQ->Option AG)->BF->Prop}{YP:An->BF->Prop}{d:DefRec}{K:Params->AF}(hn:l.most=AA 63)(hdf:d.params.defaults=[])
  (hY:∀(w:An) (h:BF),YP w h->(K w.params).In h)
  (F:∀(w:An) (mg:AQ->Option AG) (fa:AI) (h:BF),(K w.params).In h->h.Ns mainGlobals mg->mg d.name=AA (.ref fa) ->
   ∃fd:BG,(∀(s:AJ) (u:AG),FZ s fd ⟨[u],[]⟩ [("_law_script",u)])/\∀base:BF,(K w.params).In base->base.Ns mainGlobals mg->yaJ l.prog w (K w.params) mg base (CX1 l.prog w) (2*25) fa fd ["_law_script"] (spX (K w.params) (yd T 25) yie)):
  Gd q loose XP YP l.row.toRowW d [] (λf vs=>Gn f vs):=
 L2.walk_of (n:=63) (k:=2*25) (x:="_law_script") (CX:=λw=>CX1 l.prog w) (sp:=λw=>spX (K w.params) (yd T 25) yie) hn ⋯ hdf ⟨rfl,by decide,by decide⟩ hY F (λw H a ns hl _ hS=>zhz zkj hl hS) λ_ _ _ _ _ z=>znf z
end WK
end
open PySem PySem.W PyProof.Rows
theorem PySem.Challenge.cw_widewords_k43_quotients_reckoned_holds : PySem.Challenge.rw_widewords_k43_quotients_reckoned.Holds := by
 refine hh.hd (by rfl) (by rfl) (by rfl) ?_
 k_fill
 refine WK.walk (l:=PySem.Challenge.rw_widewords_k43_quotients_reckoned) rfl rfl (λw h Y=>Y) ?F
 case F =>
  intro w mg fa h KX G hmg
  refine' L2.all_mk2 (t:=WK.tbQ) KX G hmg ?R ?B ?D WK.kb_all ?Ml WK.ok_all WK.T_ok (L:=125) rfl 25
  case R =>
   repeat' (first|exact trivial|apply And.intro|(refine' L2.rowFn ?a9 ?l9 ?c9 ?p9 ?b9;(case a9|l9|c9|p9=>k_is);(case b9=>((repeat intro _);first|rfl|kernel_rfl)))|(refine' L2.rowMe ?z9 ?a9 ?i9 ?l9 ?c9 ?p9 ?b9;(case z9=>((first|rw[WK.cn_20]|rw[WK.cn_21]);k_is));(case a9|i9|l9|c9|p9=>k_is);(case b9=>((repeat intro _);first|rfl|kernel_rfl)))|(refine' L2.rowIni ?z9 ?a9 ?i9 ?l9 ?c9 ?p9 ?b9 ?m9 ?k9;(case z9=>((first|rw[WK.cn_20]|rw[WK.cn_21]);k_is));(case a9|i9|l9|c9|p9=>k_is);(case b9=>((repeat intro _);first|rfl|kernel_rfl));(case m9|k9=>k_is))|(refine' L2.rowFd ?a9 ?l9 ?c9 ?p9 ?d9 ?e9 ?v9;(case a9|l9|c9|p9|d9=>k_is);(case e9=>rfl);(case v9=>(repeat first|exact .nil|refine .cons ⟨_,rfl⟩ ?_))))
  case B=>kernel_rfl
  case D =>
   repeat' (first|exact trivial|apply And.intro|intro _|(refine' L2.gd_mk KX G ?a9 ?l9 ?s9 ?r9 ?n9;(case a9|l9=>k_is);(case s9=>rfl);(case r9=>(repeat first|exact .nil|refine L2.con_row (by kernel_rfl) ?_));(case n9=>decide +kernel)))
  case Ml =>
   repeat' (first|exact trivial|apply And.intro|(refine' L2.gdf_mk KX G ?a9 ?l9 ?r9 ?n9;(case a9|l9=>k_is);(case r9=>(repeat first|exact .nil|refine L2.frow_cons (by kernel_rfl) ?_));(case n9=>decide +kernel)))
