import PyProof.Rows.All
import OpenK.KLine
import Open.Tops
import Wide.FinOn
import KE.KRevSl
import KE.KItem
import KE.KxWritten
import KE.KFromBytes
import KE.LcSums
import KE.KBits
import KE.KTryMore
import PySem.Challenge.RW_widewords_k21_deeds_refused
set_option Elab.async false
set_option linter.all false
set_option maxRecDepth 100000
set_option maxHeartbeats 0
local macro_rules
 | `(#print $s:str)=>do
  let n:=fun (x:Lean.Name)=>Lean.mkIdent (`PySem.W.Fast++.mkSimple s!"tw{x.hash}")
  let mut a:=#[n `PySem.Challenge.pw_widewords_k21_deeds_refused]
  for e in s.getString.splitOn "|" do
   let f:=e.splitOn " "
   let mut p:=0
   for r in f.tail! do
    let g:=(r.splitOn ".").map String.toNat!
    p:=p+g[0]!
    for j in [0:g.getD 1 0+1] do a:=a.push (n (.mkStr2 "sh" (f[0]!++toString (p+j))))
    p:=p+g.getD 1 0
  return Lean.mkNullNode (←a.mapM λx=>return (←`(command|noncomputable def $x:ident:=Nat)).raw)
#print "env_ 1|o_ 1 2.2 2.3 2.7 2 2.4 2.6 2 2.4 2.6 2 2.4 2.6 2 2.4 2.6 2 2.4 2.6 2 2.4 2.6 2 2.4 2.6 2 2.4 2.6 2 2.4 2.6 2 2.4 2.6 2 2.4 2.6 2 2.4 2.6 2 2.4 2.6 2 2.4 2.24 2.5 2.4 2 2 2.3 2.6 2.6 2.6 2.5 2.5 2.5 2.5 2.5 2.5 2.4 2 2 2.11 2.5 2.5 2.5 2.11 2.5 2.5 2.5 2 2.2 2.5 2.5 2.5 2.5 2.5 2.5 2.5 2.5 2.5 2.3 2.4 2 2 2.5 2.5 2.5 2.5 2.5 2.5 2.17 2.5 2.4 2 2 2.5 2.5 2.5 2.5 2.5 2.5 2.5 2.5 2.5 2.5 2.5 2.5 2.4 2 2 2.5 2.5 2.5 2.5 2.4 2 2.14 2.5 2.5 2.5 2.5 2.4 4 2 2.5 2.5 2.5 2.3 2.5 2.5 2.3 2.4 2 2.3 2.2 2.5 2.5 2.5 2.5 2.3 2.5 2.11 2 2 2.5 2.3 2.5 2.3 2.5 2.5 2.12 2.5 2.5 2.4 2 2 2.5 2.5 2.5 2.5 2.5 2.5 2.5 2.5 2.5 2.5 2.4 2 2 2.5 2.5 2.5 2.5 2.5 4 2.3 2.2 2.5 2.5 2.5 2.5 2.5 2.5 2.5 2.5 2.5 2.11 2 2 2.5 2.5 2.5 2.5 2.3 2.5 2.5 2.5 2.5 2.5 2.5 2.4 2 2 2.5 2.5 2.5 2.5 2.5 2.5 2.5 2.5 2.5 2.4 2 2 2.5 2.5 2.5 2.5 2.4 2 2.1 2.5 2.5 2.2 4 2 2.5 2.5 2.5 2.5 2.5 2.5 2.5 2.5 2.5 2.5 2.5 2.4 2 2 2.5 2.5 2.3 2.4|sts_ 4 17 16 16 16 16 16 16 16 16 16 16 16 16 16 47 81 72 80 78 94 38 54 55 64 76 80 41 87 85 73 38 25 87|tree_ 4 15 16 16 16 16 16 16 16 16 16 16 16 16 16 47 81 72 80 78 94 38 52 57 64 76 80 39 89 85 73 38 23 89 29"
open_shared sh for PySem.Challenge.pw_widewords_k21_deeds_refused leaving 0
namespace hh
open PySem PySem.W PySem.Calls PyProof.Rows
noncomputable abbrev p:=PySem.Challenge.pw_widewords_k21_deeds_refused
abbrev z:Pos:=⟨0,0,0,0⟩
abbrev an:Option Value:=some (.ref 6)
noncomputable abbrev bE:=behindTheImports p
noncomputable abbrev cE:Code:=.body bE sh.env_1
noncomputable abbrev H1(P:Params):Heap:=absHeap (sh.tree_1511 P) 1401 {}
noncomputable abbrev S0(w:World)(os:OsState):Shared:=⟨boot_heap w.params,⟨[]⟩,boot_drawn,boot_toks,os⟩
noncomputable abbrev Sb(w:World)(os:OsState):Shared:=SharedT.abs ⟨sh.tree_4 w.params,15,{},⟨[]⟩,{},187,os⟩
noncomputable abbrev Sk(w:World)(os:OsState):Shared:=SharedT.abs ⟨sh.tree_1511 w.params,1401,{},⟨[]⟩,{},2268,os⟩
theorem pre(w os):topGo treeTable p w 11 an 12 (S0 w os) (topStub p)=some (Sb w os,⟨denote treeTable cE,cE,z,[topFrame z]⟩):=by kernel_rfl
theorem blk(w os):segRun treeTable p w 11 an 1 1 (Sb w os) (blockOf bE sh.env_1 cE z [topFrame z])=some (.next,Sb w os,cE,z):=by kernel_rfl
theorem fin(w os):topRun treeTable p w 11 an 2 (Sk w os) (restOf [] sh.env_1 cE ⟨773,0,799,112⟩ [topFrame z])=some (Sk w os):=by kernel_rfl
theorem bod:bE=sh.sts_4++(sh.sts_21++(sh.sts_37++(sh.sts_53++(sh.sts_69++(sh.sts_85++(sh.sts_101++(sh.sts_117++(sh.sts_133++(sh.sts_149++(sh.sts_165++(sh.sts_181++(sh.sts_197++(sh.sts_213++(sh.sts_229++(sh.sts_276++(sh.sts_357++(sh.sts_429++(sh.sts_509++(sh.sts_587++(sh.sts_681++(sh.sts_719++(sh.sts_773++(sh.sts_828++(sh.sts_892++(sh.sts_968++(sh.sts_1048++(sh.sts_1089++(sh.sts_1176++(sh.sts_1261++(sh.sts_1334++(sh.sts_1372++(sh.sts_1397++(sh.sts_1484++[]))))))))))))))))))))))))))))))))):=by kernel_rfl
theorem run(w os):topRun treeTable p w 11 an (12+(1+(196+(214+(214+(214+(214+(214+(214+(214+(214+(214+(214+(214+(214+(214+(400+(371+(397+(383+(385+(398+(160+(400+(311+(426+(398+(391+(374+(522+(393+(372+(183+(376+(397+(142+2)))))))))))))))))))))))))))))))))))) (S0 w os) (topStub p)=some (Sk w os):=by
 refine go_top (pre w os) (piece_block (blk w os) ?_)
 have h:=sh.chain p bE w os [] 2 (Sk w os) (fin w os)
 rw[<-bod] at h
 exact h
noncomputable def q:Program:=view p [238]
noncomputable abbrev lo:List Str:=p.boundNames
theorem look(w:World):(fun os=>((staticsOk (importedModules p.main.body) (boot_heap w.params) (H1 w.params) && namesBound p (H1 w.params) && gensDone (Sk w os) && laidKept (boot_heap w.params) (H1 w.params)),openSeen q lo (importedModules p.main.body) (fun _=>true) true (Sk w os),(Sk w os).heap))=fun _=>(true,openGood q lo,H1 w.params):=by kernel_rfl
theorem left:LeftO p q lo (fun _=>true) Shared.heap (fun w=>H1 w.params) 20372:=.of_pieces (boot_open (by kernel_rfl) (by kernel_rfl) fun s=>by kernel_rfl) (fun w=>by kernel_rfl) run (by kernel_rfl) look
theorem inA{t:BT}{n:Nat}{f:Life}{K:Frag}(h1:K.all (fun x=>Nat.blt x.1 n)=true)(h2:K.map (fun x=>t.get x.1)=K.map fun x=>some x.2)(h3:K.map (fun x=>alive x.2)=K.map fun x=>some x.2):K.In (absHeap t n f):=by
 intro a o e
 induction K with
 | nil=>cases e
 | cons x r ih=>
  obtain ⟨b,y⟩:=x
  simp only[List.map_cons,List.cons.injEq,List.all_cons,Bool.and_eq_true] at h1 h2 h3
  by_cases hb:(a==b)=true
  · rw[List.lookup_cons,hb] at e
    cases e
    have:=beq_iff_eq.mp hb
    subst this
    rw[abs_get (Nat.le_of_ble_eq_true h1.1) h2.1]
    exact h3.1
  · rw[List.lookup_cons,eq_false_of_ne_true hb] at e
    exact ih h1.2 h2.2 h3.2 e
local macro_rules
 | `(panic! $s:str)=>do
  let mut v:=#[]
  let mut p:=0
  let mut q:=0
  for r in s.getString.splitOn " " do
   if let g::l::m:=(r.splitOn ",").map String.toNat! then
    let i:=m.headD (q+g)
    p:=p+g
    for j in [0:l] do v:=v.push (p+j,if i==0 then .str `PySem.W s!"boot_o_{p+j}" else .str `sh s!"o_{i+j}")
    p:=p+l
    q:=i+l
  let mut a ← `(List.nil)
  for (x,o) in v.reverse do a ← `(List.cons (nat_lit $(Lean.Syntax.mkNumLit (toString x)),$(Lean.mkIdent o) P) $a)
  `(fun P=>$a)
noncomputable def KK:Params->Frag:=panic! "2,1,0 0,1,1484 11,1,7 6,2 0,1,231 0,1,17 2,1,24 6,3 2,1,40 6,3 2,1,56 6,3 2,1,72 6,3 2,1,88 6,3 2,1,104 6,3 2,1,120 6,3 2,1,136 6,3 2,1,152 6,3 2,1,168 6,3 2,1,184 6,3 2,1,200 6,3 2,1,216 6,3 2,1,232 6,3 2,18 1,2 1,3 1,2 1,2 0,1,278 2,3 1,2 1,4 1,2 1,4 1,2 1,4 1,2 1,3 1,2 1,3 1,2 1,3 1,2 1,3 1,2 1,3 1,2 1,3 1,2 1,2 0,1,359 1,2 1,9 1,2 1,3 1,2 1,3 1,2 1,3 1,2 1,9 1,2 1,3 1,2 1,3 1,2 1,3 0,3,431 1,2 1,3 1,2 1,3 1,2 1,3 1,2 1,3 1,2 1,3 1,2 1,3 1,2 1,3 1,2 1,3 1,2 1,3 2,3 1,2 1,2 0,1,511 1,2 1,3 1,2 1,3 1,2 1,3 1,2 1,3 1,2 1,3 1,2 1,3 1,2 1,15 1,2 1,3 1,2 1,2 0,1,589 1,2 1,3 1,2 1,3 1,2 1,3 1,2 1,3 1,2 1,3 1,2 1,3 1,2 1,3 1,2 1,3 1,2 1,3 1,2 1,3 1,2 1,3 1,2 1,3 1,2 1,2 0,1,683 1,2 1,3 1,2 1,3 1,2 1,3 1,2 1,3 1,2 1,2 0,15,721 1,2 1,3 1,2 1,3 1,2 1,3 1,2 1,3 1,2 1,2 0,1,775 1,2 1,3 1,2 1,3 1,2 1,3 2,3 1,2 1,3 1,2 1,3 2,3 1,2 1,2 7,1,837 1,2 1,3 1,2 1,3 1,2 1,3 1,2 1,3 2,3 1,2 1,3 1,2 1,7 2,1,894 1,2 1,3 2,3 1,2 1,3 2,3 1,2 1,3 1,2 1,3 1,2 1,10 1,2 1,3 1,2 1,3 1,2 1,2 0,1,970 1,2 1,3 1,2 1,3 1,2 1,3 1,2 1,3 1,2 1,3 1,2 1,3 1,2 1,3 1,2 1,3 1,2 1,3 1,2 1,3 1,2 1,2 0,1,1050 1,2 1,3 1,2 1,3 1,2 1,3 1,2 1,3 1,2 1,3 7,1,1098 1,2 1,3 1,2 1,3 1,2 1,3 1,2 1,3 1,2 1,3 1,2 1,3 1,2 1,3 1,2 1,3 1,2 1,3 1,2 1,7 2,1,1178 1,2 1,3 1,2 1,3 1,2 1,3 1,2 1,3 2,3 1,2 1,3 1,2 1,3 1,2 1,3 1,2 1,3 1,2 1,3 1,2 1,3 1,2 1,2 0,1,1263 1,2 1,3 1,2 1,3 1,2 1,3 1,2 1,3 1,2 1,3 1,2 1,3 1,2 1,3 1,2 1,3 1,2 1,3 1,2 1,2 0,1,1336 1,2 1,3 1,2 1,3 1,2 1,3 1,2 1,3 1,2 1,2 0,2,1374 1,2 1,3 1,2 1,3 2,2 0,1,1399 1,2 1,3 1,2 1,3 1,2 1,3 1,2 1,3 1,2 1,3 1,2 1,3 1,2 1,3 1,2 1,3 1,2 1,3 1,2 1,3 1,2 1,3 1,2 1,2 0,1,1486 1,2 1,3 1,2 1,3 2,3 1,2 1,2"
theorem inK(w:World):InK KK w (H1 w.params):=inA (K:=KK w.params) (by kernel_rfl) (by kernel_rfl) (by kernel_rfl)
theorem hd{d:DefRec}{k:List (Str×Expr)}(a:defOf q "law"=some (d,k))(b:p.theDef "law"=some (d.params,d.body,d.scope))(c:kwWritten? d.params.kwonlyargs d.params.kw_defaults=some k)(h:WalkO q lo (fun _ _=>True) (InK KK) PySem.Challenge.rw_widewords_k21_deeds_refused.row.toRowW d k fun f vs=>PySem.call f vs):PySem.Challenge.rw_widewords_k21_deeds_refused.Holds:=by
 w_on;o_law
 refine holds_open left (YP:=InK KK) (XP:=fun _ _=>True) (fun w s e=>e ▸ inK w) InK.keeps (fun _ _=>trivial) (fun _ _ _ _ _=>trivial) a b c (fun s _=>recFacts_nil rfl) (by rfl) (by assumption) (by decide +kernel) ⟨rfl,rfl,rfl,rfl,rfl,by decide +kernel⟩ ?hw h
 w_witness2
end hh
local macro_rules|`(⋯)=>`((by decide))
local macro_rules|`(∅)=>`((by lia))
set_option compiler.extract_closed false
set_option bootstrap.genMatcherCode false
set_option genSizeOf false
local macro_rules | `(tactic| ac_rfl)=>`(tactic| with_unfolding_all rfl)
open _root_ renaming List->IK,Nat->IL,Int->IM,decide_eq_true_eq->IN,beq_eq_false_iff_ne->IP,Bool->IQ,if_pos->IR,if_neg->IS,decide_eq_false->IT,absurd->IU,if_true->IV,decide_eq_true->IW,or_false->IX,False->IY,beq_self_eq_true->IZ,of_decide_eq_true->Ia,if_false->Ib,congrArg->Ic,Array->Ie,beq_iff_eq->Ig,DecidableEq->Ih,String->Ii,decide_false->Ij,Unit->Ik,cond_true->Il,decide_true->Im,cond_false->Io,True->Iq
open Option renaming some->AA,none->AD,isSome_iff_exists->Ag,bind_some->BH,getD_some->BR,any_eq_true_iff_get->Cj,map_some->Dl,get_some->FQ,getD_none->Ge
open Bool renaming false->AB,true->AC,and_eq_true->AH,false_ne_true->AN,and_eq_true_iff->BA,false_eq_true->B9,or_eq_true->Bz,not_eq_true'->CP,or_eq_false_iff->CQ,and_self->CU,true_and->Cy,eq_iff_iff->Dj,false_or->Fx,true_or->G3,false_and->HD,or_false->HU,not_true->Ha,and_true->Hb
open PySem.Str renaming ofString->AE,empty->DD,length->ED
open PySem.W renaming Frag->AF,findIn->Ah,keepIn->Al,nsIn->BC,kitOne->BJ,fnOf->B0,emptyDict->B4,instObj->Bu,codeIn->CF,kia_one->CL,callWith_K->C8,looks_findIn->Cg,plainGet->Cm,isFn->Cn,hideAll->DA,hasDictIn->DG,cellsFrom_some->DJ,makesIn->Db,plainGet_of->Dn,lookIn->Dy,exmOne->EK,methodObj->ET,plainOver->EU,clsIn->Ee,mg_of->Eh,OpenLaw->Ex,takerIn->FN,methodCall_KW->FX,hideAll_get->Fh,callWith_K0->Fm,of_hideAll->GE,codeRec_of->GH,handedIn->Gb,WalkO->Gy,kitAny->HK,subIn->HV,mroIn->HW,Looks->HX,Rel2->Hl
open PySem renaming Value->AG,wpAny_bind->AI,Addr->AJ,Shared->AK,Str->AL,Expr->AT,wpAny_pure->AV,wpAny->A6,Program->Aa,World->Ai,Around->Ak,Heap->Au,FuncData->Aw,Env->BI,wpAny_Call_Name_kw->BN,wpAny_field->BS,wpAny_truthy_bool->BU,Scope->BZ,wpAny_callSpecial?_slot->Bb,wpAny_newObj_type->Be,Obj->Bi,Stmt->Bj,wpAny_mono->Bl,wpAny_pyIter_tuple->Bm,Keyword->Br,Pos->CB,sizeLine_eq->CC,DictEntry->CD,wpAny_passesOwn->CK,IsPair->CV,mem_of_lookup->CZ,noFill_tuple_add->C0,wpAny_call_entry->C1,wpAny_seqItems->C2,wpAny_setField_rec->Ca,seq_tuple_add->Cw,wpAny_execs_nil->DB,codeAny_mono->DH,NameKind->DI,wpAny_inplaceOp_concat->DO,strKind_is->DY,wpAny_holding->D1,wpAny_standAt->D3,Operator->D5,wpAny_newFunctionEnv_cells->EA,call_meets->EF,BindsTo->EV,wpAny_pyIter_list->EW,wpAny_loadPart_at->EX,IsZip->E9,wpAny_comprehension_free->Ed,wpAny_onRaise->Eg,PassesOwn->El,wpAny_rule->FA,IsPart->FE,codeAny_call_function->FT,wpAny_loadName_local->FZ,wpAny_bindName->F0,wpAny_setField->F1,codeAny_call_builtin->F2,wpAny_updateSeq_pair->F3,Builtin->Ff,wpAny_loadName_cell->Fi,CmpOp->Fu,Result->GF,wpAny_call->GG,tupleKind_room_in1->GN,Within->GO,wpAny_assign_Name->GQ,concat_meets->GW,wpAny_sequenceKey->GX,wpAny_typeOf->GY,slot_list_getitem->GZ,wpAny_pyIter_enum->G2,ZipApart->G5,wpAny_execs_cons->Ga,wpAny_pyIter_zip->Gk,wpAny_getItem_of->Gm,seqIndex_of->Gp,Paired->Gz,wpAny_Name->HC,typeIs_str->HF,call->HH,Model->Hc,Sem->Hd,BoolOp->Hn,Tok->IA
open List renaming getElem?_set_ne->AM,map_cons->AO,mem_cons->AS,mem_cons_of_mem->AU,size_toArray->AW,mem_of_getElem?->AZ,all_eq_true->A3,getElem?_append_left->A5,length_cons->A7,not_mem_nil->A9,length_append->Ab,getElem?_set_self->Ac,getElem?_append_right->Ad,mem_cons_self->Af,getElem?_eq_some_iff->An,mem_append_right->Ap,length_map->Aq,getElem?_cons_succ->Ar,replicate->Av,any_cons->Az,getElem?_eq_none->BD,all_cons->BE,mem_append->BG,getElem?_cons_zero->BK,set_cons_zero->BO,set_cons_succ->BP,map_nil->BV,length_set->BY,lookup_cons->Bc,cons_append->Bd,append_assoc->Bg,range->Bk,lookup->Bo,getElem?_map->Bs,append_nil->Bv,find?_cons->Bw,length_nil->By,nil_append->CM,getElem?_set->CO,filterMap_cons->CY,length->C5,mem_append_left->Cd,set_set->Co,isEmpty_iff->Cp,getElem?_eq_getElem->Cz,filterMap->DM,length_singleton->DQ,mem_iff_getElem?->DS,length_take->DV,any_eq_true->DW,countP_cons->DZ,eq_nil_of_length_eq_zero->D8,nodup_cons->De,of_mem_zip->Dg,foldl_cons->Di,mem_map->Dq,mem_filterMap->Dw,zip_cons_cons->EI,drop_eq_getElem_cons->EQ,pairwise_iff_getElem->ER,ext_getElem?->Ea,flatMap_cons->Eb,getElem?_replicate->Em,length_drop->En,isEmpty_nil->Et,range_succ_eq_map->FK,take_of_length_le->FL,mem_filter->FM,forIn_cons->FO,contains_iff_mem->FY,getElem_toArray->F6,length_pos_iff->Fp,sum_cons->Fy,any_eq_false->GS,isEmpty_cons->G4,take_length->Gg,drop_length->Gh,zipIdx_cons->Gi,mem_flatMap->Gn,zipIdx_nil->Gw,mem_range->HB,drop_zero->HJ,forIn_nil->HL,set_comm->HS,any_map->Hq
open Nat renaming le_refl->AQ,lt_of_lt_of_le->A4,pow_le_pow_right->Aj,ne_of_lt->Am,le_trans->As,mul_le_mul->Ay,le_succ->C4,mul_le_mul_right->Ck,lt_irrefl->Cv,lt_or_ge->DP,le_add_right->DX,and_two_pow_sub_one_eq_mod->D0,add_assoc->D4,zero_le->D6,add_le_add_right->D9,zero_add->Dr,lt_of_le_of_lt->EJ,mod_two_eq_zero_or_one->EN,reduceSub->Ej,ne_of_gt->FD,add_le_add_left->Ft,reduceAdd->Fz,le_of_lt->GP,lt_succ_self->Gc,reduceLeDiff->Go,add_le_add->HM,le_of_eq->Hj,succ_mul->Hr,log2_lt->Hx
open PySem.Heap renaming get?_push_of_some->AR,lt_size->AY,get?_push_size->A8,size_push->Bp,SameBut->C6,get?_update_other->DL,FlyingW->FI,get?_update_self->FU,IsTuple->G0,MadeExcOf->HI
open Option.some renaming inj->AX,injEq->E8
open PySem.Value renaming ref->Ae,none->Bt,bool->Ds,builtin->Ef,int->Ek,type->Ez,str->G9,isStrOf->HR,isInt->Ht,bytes->Hu,float->Hv
open PySem.Builtin renaming bitAnd->Ao,bitOr->BX,bitXor->B5,bitNot->F7
open Ne renaming symm->Ax
open PyProof.Rows renaming slot_tuple_getitem->BB,callWith_type1->CA,boot_isinstance->Cb,AllBare->DF,assignInOrder_cons->Dv,subscriptTail_builtinR->FF,tupleItemsOf_->Fd,IntsAre->Fe,entry_tuple_getitem->Fj,args_tuple_getitem->GI,assignInOrder_nil->GR,callWith_builtin1->Gd,iadd_int->Gx,IsTup->HA,Subscript_->HE
open Array renaming length_toList->BF,append_assoc->Dt,getElem?_eq_some_iff->EG,toList->Hi
open PySem.Builtin.SmallTypes renaming nextOf->BL,ownedTupleIsFree->B7,ownedTupleHandOut->Ct
open False renaming elim->BM
open Int renaming emod_lt_of_pos->BQ,emod_nonneg->B8,pow_pos->Bq,toNat_natCast->CN,pow_succ->CS,mul_le_mul_of_nonneg_right->C3,mul_one->Cf,mul_comm->Cq,toNat_of_nonneg->Cu,ediv_lt_of_lt_mul->DU,mul_le_mul_of_nonneg_left->Da,fdiv_eq_ediv_of_nonneg->Dx,mul_nonneg->EO,one_mul->EZ,natCast_emod->Eu,ediv_ediv_of_nonneg->Ew,ediv_nonneg->FR,natAbs_mul->F8,add_le_add_right->F9,add_le_add_left->Fq,natAbs_add_le->G7,pow_zero->G8,add_le_add->HN,mul_le_mul->HP,ediv_one->Hk,add_comm->Ho,le_trans->Hs,pow_mul->Hz
open PySem.Heap.FunFrames renaming mem->BW
open PySem.F renaming args_tuple_add_2->B6,entry_tuple_add->Ba,slot_tuple_add->Bf,slot_tuple_iterator_next->CG,plainAttrs_list->DE,slot_dict_get->DR,args_tuple_iterator_next_1->Dh,slot_zip_next->Dm,entry_tuple_iterator_next->Do,slot_dict_getitem->ES,args_dict_get_3->Es,entry_dict_get->FJ,slot_list_append->FV,typeOf_object_class->FW,slot_list_count->F4,slot_list_index->F5,args_zip_next_1->G6,entry_zip_next->Gj
open PySem.Builtin.Slice renaming slicePlaces->CJ,sliceAdjust->Cr,sliceApplied->EB,slicePartIndex->Gr,sliceFields->HQ
open PySem.Builtin.Tuple renaming tupleExact->CT,tupleItemsOf->EC
open PySem.Challenge renaming rw_widewords_k21_deeds_refused->CW,pw_widewords_k21_deeds_refused->Ei
open True renaming intro->C7
open Eq renaming refl->C9
open PySem.NameKind renaming free->Cc,cell->Fv
open PySem.Value.type renaming inj->Ch
open PySem.PyData renaming canLay0->Ci,depth->DN,eqv->EH,keyHash->EL,canLayAll0->EY,depthAll->FP,eqvAll->HZ
open PySem.Builtin.Str renaming occurrences->DC,strSliceIndices->Dp
open PySem.Calls renaming evalArgs_plain->D7,Name_function_global->Du,spliced_cons->Dz,callWith_builtin->FH,spliced_nil->GV
open PySem.ScopeKind renaming function->EM
open PySem.Paired renaming length->Ec,snoc->Hy
open PySem.W.Looks renaming ld->Eo,here->IB
open PySem.Builtin.Getset_descriptor renaming descrCheckInstance->Ep,descrNameAndClass->Ey,descrGetter->Fg,descrGet->GM
open PySem.Obj renaming mapSeq->FG,data_mapFields->GJ
open Sum renaming inl->Fa,inr->Fb
open PyProof.Rows.IsTup renaming new->Fc
open PySem.Heap.SameBut renaming update->Fk,refl->II
open PyProof.Rows.LSm renaming kept_iter->Fw
open PySem.SeqAt.EqAt renaming int_str->GA,str_int->GB
open PySem.W.KF renaming slot_gs->GL
open PySem.Around renaming under->GT
open PySem.Code renaming isFrame->GU,frames->Hw
open PySem.WalksT renaming enumerateD->G1
open PySem.SeqAt renaming in_tupleAt->Gf,in_listAt->Gu,EqAt->HG,shaped->Hm
open PySem.Shared renaming heap->Gq
open ForInStep renaming yield->Gv
open PySem.Value.ref renaming inj->HY
open PySem.Flow renaming next->He
open PySem.Builtin.Range renaming rangeSize->Hf
open PySem.Heap.UpToSlots renaming of_keeps->Hg
open And renaming intro->Hh
open PySem.Heap.IsSliceOf renaming new->ID
open PySem.W.WShape renaming has->IE
open PySem.Walks renaming list->IF
open PySem.Within renaming cons->IG
open List.Pairwise renaming nil->IH
open PySem.W.WData renaming int->IJ
noncomputable section
open Lean in
def cnvP:IL->Syntax->MacroM (TSyntax `rcasesPat)
 |0,_=>Macro.throwUnsupported
 |n+1,s=>do
  if s.isOfKind ``Lean.Parser.Term.anonymousCtor||s.isOfKind ``«term#[_,]» then `(rcasesPat| ⟨$[$(← s[1].getSepArgs.mapM (cnvP n)):rcasesPat],*⟩)
  else if s.isIdent then `(rcasesPat| $(⟨s⟩):ident)
  else if s.isOfKind ``Lean.Parser.Term.hole then `(rcasesPat| _)
  else Macro.throwUnsupported
local macro_rules | `(tactic| let $p:term := $e)=>do `(tactic| obtain $(← cnvP 9 p):rcasesPat := $e)
local macro_rules | `(tactic| erw [$rs,*] $(l)?)=>do
 let t<-rs.getElems.flatMapM λ|`(Lean.Parser.Tactic.rwRule| $t:term)=>(if t.raw.isOfKind `ident then (if t.raw.getId== `ev then "ve1 ve2 ve3 ve4 ve5 ve6 ve7 ve8 ve9 ve10 ve11 ve12 ve13 ve15 ve16 ve17 ve18 ve19 ve20 ve21 ve22 vxq21 ve24 ve25 ve26 ve28 ve29 ve30 ve32 ve33 ve35 ve36 ve37" else if t.raw.getId== `ex then "xrq0 xrq1 xrq2 xrq3 xrq4 xrq5 xrq6 xrq7 xrq8 xrq9 xrq10 xrq11 xrq12 xrq13" else "").splitOn " " else [""]).toArray.mapM λs=>if s=="" then `(Lean.Parser.Tactic.simpLemma| $t:term)else `(Lean.Parser.Tactic.simpLemma| $(Lean.mkIdent (`IC++s.toName)):term)|_=>Lean.Macro.throwUnsupported
 `(tactic| simp only[$t,*] $(l)?)
local macro_rules | `(fun $bs* => $b)=>do
 if !(bs.any λx=>x.raw.isOfKind ``Lean.Parser.Term.anonymousCtor||x.raw.isOfKind ``«term#[_,]»)||(b.raw.find? λx=>x.isOfKind ``Lean.Parser.Term.syntheticHole).isSome then Lean.Macro.throwUnsupported
 `(by rintro $[$(← bs.mapM λx=>cnvP 9 x.raw):rcasesPat]*;exact $b)
set_option backward.eqns.nonrecursive false
local macro_rules (kind:=Lean.Parser.Command.declaration)
 |s=>do
  if s.getPos?.isNone then Lean.Macro.throwUnsupported
  let s:=s.rewriteBottomUp fun|.atom _ v=>.atom .none v|.ident _ r v p=>.ident .none r v p|.node _ k a=>.node .none k a|x=>x
  let k:=s[1].getKind
  unless (k==``Lean.Parser.Command.definition||k==``Lean.Parser.Command.abbrev)&&s[0].getArgs.all (·.isNone) do return s
  if k==``Lean.Parser.Command.definition&&(toString s[1][1][0].getId).startsWith "z" then
   let m←`(theorem x:True:=trivial)
   return s.setArg 1 (((m.raw[1].setArg 1 s[1][1]).setArg 2 (Lean.mkNode ``Lean.Parser.Command.declSig #[s[1][2][0],s[1][2][1][0]])).setArg 3 s[1][3])
  let m←`(noncomputable def x:=0)
  return s.setArg 0 m.raw[0]
local macro_rules|`(())=>`((by lia))
local macro_rules|`(#[$x,*])=>`(⟨$x,*⟩)
local macro_rules|`(∅)=>`((by decide +kernel))
namespace L2
open PySem PySem.Spec PyProof.Rows
abbrev Key:=Sum IM AL
def ybI:Key->AG->IQ
 |.inl k,v=>Ht k v
 |.inr x,v=>HR x v
def yhz(w:Ai):Key->IM
 |.inl k=>hashInt k
 |.inr x=>hashStr w x
def zO:∀{k}{v:AG},ybI k v=AC->(∃i t,k=Fa i/\v=Ek i t) \/ (∃x t,k=Fb x/\v=G9 x t)
 |.inl i,v,h=>by let#[t,e]:=Value.isInt_shape (k:=i) (v:=v) h;exact .inl #[i,t,rfl,e]
 |.inr x,v,h=>by let#[t,e]:=Value.isStrOf_shape (x:=x) (v:=v) h;exact .inr #[x,t,rfl,e]
def zij(i:IM)(t):ybI (.inl i) (.int i t)=true:=by simp[ybI,Ht]
def zii(x)(t):ybI (.inr x) (.str x t)=true:=by simp[ybI,HR]
def zpd(a b:IM):decide ((Fa a:Key)=Fa b)=(a==b):=by
 by_cases e:a=b
 .subst e;simp
 .have h:¬(Fa a:Key)=Fa b:=λq=>e (Sum.inl.inj q);rw[IT h];exact(IP.mpr e).symm
def zqV(a b:AL):decide ((Fb a:Key)=Fb b)=decide (a=b):=by
 by_cases e:a=b
 .subst e;simp
 .have h:¬(Fb a:Key)=Fb b:=λq=>e (Sum.inr.inj q);rw[IT h,IT e]
def zp2(a:IM)(b):decide ((Fa a:Key)=Fb b)=false:=IT (λq=>nomatch q)
def zo7(a:AL)(b:IM):decide ((Fb a:Key)=Fa b)=false:=IT (λq=>nomatch q)
def yP(prog:Aa)(w:Ai):PySem.KeyKind prog w Key where
 is:=ybI
 hash:=yhz w
 inj:=λv a b g f=>by
  rcases zO g with⟨i,t,rfl,rfl⟩|⟨x,t,rfl,rfl⟩
  .rcases zO f with⟨j,u,rfl,e⟩|⟨y,u,rfl,e⟩
   .injection e with c _;rw[c]
   .exact nomatch e
  .rcases zO f with⟨j,u,rfl,e⟩|⟨y,u,rfl,e⟩
   .exact nomatch e
   .injection e with c _;rw[c]
 byValue:=λk v h=>by rcases zO h with⟨i,t,rfl,rfl⟩|⟨x,t,rfl,rfl⟩<;>rfl
 pyHash:=λd h=>by
  rcases zO d with⟨i,t,rfl,rfl⟩|⟨x,t,rfl,rfl⟩
  .exact wpAny_pyHash_int h
  .exact wpAny_pyHash_str h
 eqBool:=λl d h=>by
  rcases zO l with⟨i,t,rfl,rfl⟩|⟨x,t,rfl,rfl⟩
  .rcases zO d with⟨j,u,rfl,rfl⟩|⟨y,u,rfl,rfl⟩
   .rw[zpd]at h;exact wpAny_eqBool_int h
   .rw[zp2]at h;exact GA i t y u _ _ _ _ h
  .rcases zO d with⟨j,u,rfl,rfl⟩|⟨y,u,rfl,rfl⟩
   .rw[zo7]at h;exact GB x t j u _ _ _ _ h
   .rw[zqV]at h;exact wpAny_eqBool_str h
 «strs»:=λk x t v h=>by
  rcases zO h with⟨i,u,rfl,e⟩|⟨y,u,rfl,e⟩
  .exact nomatch e
  .injection e with c _;subst c
   cases v<;>rfl
def zgA(prog)(w)(i:IM)(t):(yP prog w).is (.inl i) (.int i t)=true:=zij i t
def zgv(prog)(w x t):(yP prog w).is (.inr x) (.str x t)=true:=zii x t
inductive V where
 |non|bl (b:IQ)|int (i:IM)|str (x:AL)|byt (b:Ie UInt8)|flt (b:UInt64)|ref (a:AJ)|ty (n:Ii)
 deriving Ih
def RelV:V->AG->Prop
 |.non,u=>u=Bt
 |.bl b,u=>u=Ds b
 |.int i,u=>∃t,u=Ek i t
 |.str x,u=>∃t,u=G9 x t
 |.byt b,u=>∃t,u=Hu b t
 |.flt b,u=>∃t,u=Hv b t
 |.ref a,u=>u=Ae a
 |.ty n,u=>u=Ez n
abbrev Vals:IK V->IK AG->Prop:=Gz RelV
theorem Vals.length{xs:IK V}{us:IK AG}(r:Vals xs us):xs.length=us.length:=Ec r
theorem Vals.get:∀{xs:IK V} {us:IK AG} {i:IL} {x:V},Vals xs us->xs[i]?=AA x->∃u,us[i]?=AA u/\RelV x u
 |_,_,_,_,.nil,e=>by simp at e
 |_,_,0,_,.cons r _,e=>by simp at e;subst e;exact#[_,rfl,r]
 |_,_,i+1,x,.cons _ t,e=>by let#[u,a,b]:=Vals.get (i:=i) (x:=x) t (by simpa using e);exact#[u,by simpa using a,b]
theorem Vals.set{x:V}{u:AG}(r:RelV x u):∀{xs:IK V} {us:IK AG} (i:IL),Vals xs us->Vals (xs.set i x) (us.set i u)
 |_,_,_,.nil=>.nil
 |_,_,0,.cons _ t=>.cons r t
 |_,_,i+1,.cons q t=>.cons q (Vals.set r i t)
theorem Vals.append:∀{xs a:IK V} {us b:IK AG},Vals xs us->Vals a b->Vals (xs++a) (us++b)
 |_,_,_,_,.nil,s=>s
 |_,_,_,_,.cons r t,s=>.cons r (Vals.append t s)
theorem Vals.take:∀{xs:IK V} {us:IK AG} (n:IL),Vals xs us->Vals (xs.take n) (us.take n)
 |_,_,0,_=>.nil
 |_,_,_+1,.nil=>.nil
 |_,_,n+1,.cons r t=>.cons r (Vals.take n t)
theorem Vals.drop:∀{xs:IK V} {us:IK AG} (n:IL),Vals xs us->Vals (xs.drop n) (us.drop n)
 |_,_,0,r=>r
 |_,_,_+1,.nil=>.nil
 |_,_,n+1,.cons _ t=>Vals.drop n t
def ybg:Option V->Option AG->Prop
 |some v,AA u=>RelV v u
 |none,AD=>Iq
 |_,_=>IY
def KV{R:Type}:IK (R×V)->IK (R×AG)->Prop:=Gz λ(p:R×V) (q:R×AG)=>p.1=q.1/\RelV p.2 q.2
def kV:Key->V
 |.inl i=>.int i
 |.inr x=>.str x
inductive HO where
 |lst (xs:IK V)
 |tup (xs:IK V)
 |dK (kvs:IK (Key×V))|dT (kvs:IK (IK Key×V))
 |set (S:IM->IQ) (n:IL)
 |ins (C dx:AJ) (fs:IK (AL×V))
 |own (x:AJ)
 |xd (fs:IK (AL×V))
 |met (f x:AJ)
 |rng (lo hi:IM)
 |frz (o:Bi) (u:HO)
 |tbl (ps:Ie AG)
 |ext (A:Au->Prop)
abbrev Hp:=AJ->Option HO
def upd(H:Hp)(a:AJ)(o:HO):Hp:=λb=>if b=a then AA o else H b
def zx{H a o}:upd H a o a=AA o:=by unfold upd;rw[IR rfl]
def zj{H}{a b:AJ}{o}(h:b≠a):upd H a o b=H b:=by unfold upd;rw[IS h]
def zrh{H:Hp}{a b:AJ}{o u}(h:H a=AA o)(h':H b=AA u)(d:o≠u):a≠b:=by intro e;subst e;rw[h]at h';exact d (AX h')
def zo{H:Hp}{a b:AJ}{o}(h:H a=AA o)(h':H b=AD):a≠b:=by intro e;subst e;rw[h]at h';cases h'
section
variable (P:Aa)(w:Ai)
def yQ(H:Hp)(h:Au)(a:AJ):HO->Prop
 |.lst d=>d.length<=sizeLine/\∃(b:IK AG) (n:IL),Vals d b/\h.get? a=AA {cls:=.type "list",data:=.seq b.toArray n}
 |.tup d=>d.length<=sizeLine/\∃b:IK AG,Vals d b/\HA h a b.toArray
 |.dK c=>c.length<=sizeLine/\(a==sysModules)=AB/\∃l,KV c l/\h.DictOf (yP P w) a l
 |.dT c=>c.length<=sizeLine/\(a==sysModules)=AB/\∃d:IK (IK Key×AJ×AG),
   Gz (λ(p:IK Key×V) (q:IK Key×AJ×AG)=>p.1=q.1/\H q.2.1=AA (.tup (p.1.map kV))/\RelV p.2 q.2.2) c d /\
   ∃o m z,h.get? a=AA o/\o.ExactDict/\o.data=.dict m z/\m.toList=d.map (entryOfKey (tupleKind (yP P w)))/\(d.map (·.1)).Nodup
 |.set S n=>h.SetOf (intKind P w) a S n
 |.ins C j fs=>H j=AA (.own a)/\fs.length<=1000/\j≠a/\h.get? a=AA (Bu C j) /\
   ∃g,h.Ns1 j g/\(∀f,ybg (fs.lookup f) (g f))/\GO g (fs.map (·.1))
 |.own _=>∃o,h.get? a=AA o
 |.xd fs=>∃g,h.Ns1 a g/\∀f,ybg (fs.lookup f) (g f)
 |.rng lo B=>∃t u v,h.get? a=AA {cls:=.type "range",data:=.fields (IK.toArray [.int lo t,.int B u,.int 1 v])}
 |.frz o u=>h.get? a=AA o/\yQ H h a u
 |.tbl D=>h.get? a=AA {cls:=.none,data:=.fields D}
 |.met f x=>h.get? a=AA (ET (.ref f) (.ref x))
 |.ext A=>A h/\(∃o,h.get? a=AA o)/\∀r y:Au,A r->(∀o,r.get? a=AA o->y.get? a=AA o)->A y
def HOk(H:Hp)(h:Au):Prop:=∀a o,H a=AA o->yQ P w H h a o
end
section
variable {P:Aa}{w:Ai}{H H':Hp}{h h':Au}{a:AJ}{o:HO}
theorem yQ.lt(x:yQ P w H h a o):a<h.objs.size:=by
 cases o with
 |lst c=>let#[_,_,_,_,e]:=x;exact AY e
 |tup c=>let#[_,_,_,p]:=x;exact p.lt
 |dK b=>let#[_,_,_,_,o,_,_,e,_]:=x;exact AY e
 |dT b=>let#[_,_,_,_,o,_,_,e,_]:=x;exact AY e
 |set S n=>let#[o,_,_,_,e,_]:=x;exact AY e
 |ins C d fs=>let#[_,_,_,e,_]:=x;exact AY e
 |own y=>let#[_,e]:=x;exact AY e
 |xd fs=>let#[_,#[_,_,_,e,_],_]:=x;exact AY e
 |rng lo g=>let#[_,_,_,e]:=x;exact AY e
 |frz j u=>let#[e,_]:=x;exact AY e
 |tbl l=>exact AY (show h.get? a=AA _ from x)
 |met f y=>exact AY (show h.get? a=AA _ from x)
 |ext A=>let#[_,#[_,e],_]:=x;exact AY e
theorem Paired.mapP{B D:Type}{F G:B->D->Prop}:∀{c:IK B} {d:IK D},Gz F c d->(∀a b,F a b->G a b)->Gz G c d
 |_,_,.nil,_=>.nil
 |_,_,.cons r t,f=>.cons (f _ _ r) (Paired.mapP t f)
theorem yQ.stay(x:yQ P w H h a o)(k:∀b u,(b=a \/ H b=AA (.own a))->h.get? b=AA u->h'.get? b=AA u)
  (J:∀b,H b=AA (.own a)->H' b=AA (.own a)) (L:∀b B,H b=AA (.tup B)->H' b=AA (.tup B)):yQ P w H' h' a o:=by
 induction o with
 |lst B=>let#[z,m,n,r,e]:=x;exact#[z,m,n,r,k _ _ (.inl rfl) e]
 |tup B=>let#[z,m,r,g,e,c]:=x;exact#[z,m,r,g,k _ _ (.inl rfl) e,c]
 |dK D=>let#[z,y,M,r,g,j,l,e,c]:=x;exact#[z,y,M,r,g,j,l,k _ _ (.inl rfl) e,c]
 |dT D=>
  let#[z,y,B,r,g,j,l,e,c]:=x;exact#[z,y,B,Paired.mapP r λp q z=>#[z.1,L _ _ z.2.1,z.2.2],g,j,l,k _ _ (.inl rfl) e,c]
 |set S n=>let#[g,j,l,t,e,c]:=x;exact#[g,j,l,t,k _ _ (.inl rfl) e,c]
 |ins C Q fs=>
  let#[d,z,N,e,E,#[G,j,l,O,c],r]:=x;exact#[J _ d,z,N,k _ _ (.inl rfl) e,E,#[G,j,l,k _ _ (.inr d) O,c],r]
 |own y=>let#[g,e]:=x;exact#[g,k _ _ (.inl rfl) e]
 |xd fs=>let#[E,#[G,j,l,e,c],r]:=x;exact#[E,#[G,j,l,k _ _ (.inl rfl) e,c],r]
 |rng lo U=>let#[t,u,v,e]:=x;exact#[t,u,v,k _ _ (.inl rfl) e]
 |frz g u ih=>let#[e,q]:=x;exact#[k _ _ (.inl rfl) e,ih q]
 |tbl I=>
  have e:h.get? a=AA {cls:=.none,data:=.fields I}:=x;show h'.get? a=AA {cls:=.none,data:=.fields I};exact k a _ (.inl rfl) e
 |met f y=>
  have e:h.get? a=AA (ET (.ref f) (.ref y)):=x;show h'.get? a=AA (ET (.ref f) (.ref y));exact k a _ (.inl rfl) e
 |ext A=>let#[p,#[o,e],st]:=x;exact#[st _ _ p λo q=>k _ _ (.inl rfl) q,#[o,k _ _ (.inl rfl) e],st]
theorem HOk.lt(x:HOk P w H h)(e:H a=AA o):a<h.objs.size:=(x a o e).lt
theorem HOk.fresh(x:HOk P w H h)(e:h.objs.size<=a):H a=none:=by
 cases q:H a with
 |none=>rfl
 |some u=>exact IU (A4 (x.lt q) e) (Cv _)
theorem HOk.kept(x:HOk P w H h)(k:∀b u,h.get? b=AA u->h'.get? b=AA u):HOk P w H h':=λa o e=>
 (x a o e).stay (λb u _ q=>k b u q) (λ_ q=>q) λ_ _ q=>q
theorem HOk.laid(x:HOk P w H h)(k:∀b u,h.get? b=AA u->h'.get? b=AA u)(j:h.objs.size<=a)(d:yQ P w (upd H a o) h' a o):HOk P w (upd H a o) h':=λb u e=>by
 have f:=x.fresh j
 by_cases g:b=a
 .subst g;rw[zx]at e;cases e;exact d
 .rw[zj g]at e;exact(x b u e).stay (λc v _ q=>k c v q) (λc q=>by rw[zj (zo q f)];exact q) λc l q=>by rw[zj (zo q f)];exact q
end
def Rd(H:Hp)(a:AJ)(u:HO):Prop:=H a=AA u \/ ∃o,H a=AA (.frz o u)
theorem Rd.of{H:Hp}{a:AJ}{u:HO}(h:H a=AA u):Rd H a u:=.inl h
theorem Rd.ok{P:Aa}{w:Ai}{H:Hp}{h:Au}{a:AJ}{u:HO}(r:Rd H a u)(x:HOk P w H h):yQ P w H h a u:=by
 rcases r with r|⟨o,r⟩
 .exact x a u r
 .let#[_,q]:=x a _ r;exact q
def Mut:Option HO->Prop
 |some (.lst _)=>Iq
 |some (.dK _)=>Iq
 |some (.dT _)=>Iq
 |some (.set _ _)=>Iq
 |some (.ins _ _ _)=>Iq
 |some (.ext _)=>Iq
 |_=>IY
section
variable {P:Aa}{w:Ai}{H:Hp}{h h':Au}{x e:AJ}{o':HO}
theorem HOk.write(ok:HOk P w H h)(g:Mut (H x))(p:e=x \/ H e=AA (.own x))(k:∀b u,b≠e->h.get? b=AA u->h'.get? b=AA u)(n:∃u,h'.get? e=AA u)
  (o:yQ P w (upd H x o') h' x o'):HOk P w (upd H x o') h':=λb u q=>by
 have d:∀c y,H c=AA (.own y)->c≠x:=λc y r z=>by subst z;rw[r]at g;exact g
 have f:∀c j,H c=AA (.tup j)->c≠x:=λc j r z=>by subst z;rw[r]at g;exact g
 by_cases l:b=x
 .subst l;rw[zx]at q;cases q;exact o
 .rw[zj l]at q
  by_cases a:b=e
  .have t:H b=AA (.own x):=by
    rcases p with z|z
    .exact IU (a.trans z) l
    .rw[a];exact z
   rw[q]at t;cases t;let#[v,A]:=n;exact#[v,by rw[a];exact A]
  .refine(ok b u q).stay (λc v m r=>k c v ?_ r) (λc r=>by rw[zj (d c b r)];exact r) λc j r=>by rw[zj (f c j r)];exact r
   rcases m with rfl|m
   .exact a
   .rintro rfl
    rcases p with z|z
    .exact d c b m z
    .rw[m]at z;cases z;exact l rfl
end
structure Un(fs ex:IK AJ)(H H':Hp)(h h':Au):Prop where
 keep:∀b o,h.get? b=AA o->H b=AD->b∉fs->b∉ex->h'.get? b=AA o
 slot:∀b o,h.get? b=AA o->H b=AD->b∈fs->b∉ex->∃sl,h'.get? b=AA {o with slots:=sl}
 free:∀b o,h.get? b=AA o->H b=AD->b∉ex->H' b=AD
 there:∀b o,h.get? b=AA o->b∉ex->∃o',h'.get? b=AA o'
 tups:∀b xs,H b=AA (.tup xs)->H' b=AA (.tup xs)
 frzs:∀b o u,H b=AA (.frz o u)->H' b=AA (.frz o u)
 tbls:∀b ps,H b=AA (.tbl ps)->∃more,H' b=AA (.tbl (ps++more))
section
variable {fs fs' ex ex':IK AJ}{H H1 H2:Hp}{h h1 h2 h':Au}{a x e:AJ}{o:HO}
theorem Un.any(u:Un fs ex H H1 h h1){b:AJ}{a:Bi}(q:h.get? b=AA a)(n:H b=AD)(c:b∉ex):∃f,h1.get? b=AA {a with slots:=f}:=by
 by_cases d:b∈fs
 .exact u.slot b a q n d c
 .exact#[a.slots,u.keep b a q n d c]
theorem Un.kept(k:∀b u,h.get? b=AA u->h'.get? b=AA u):Un fs ex H H h h':=
 #[λb a q _ _ _=>k b a q,λb a q _ _ _=>#[a.slots,k b a q],λ_ _ _ n _=>n,λb a q _=>#[a,k b a q],λ_ _ q=>q,λ_ _ _ q=>q,λ_ c q=>#[(IK.toArray []),by rw[q];simp]]
theorem Un.refl:Un fs ex H H h h:=Un.kept λ_ _ q=>q
theorem Un.laid(k:∀b u,h.get? b=AA u->h'.get? b=AA u)(d:h.objs.size<=a)(c:H a=AD):Un fs ex H (upd H a o) h h' where
 keep:=λb u q _ _ _=>k b u q
 slot:=λb u q _ _ _=>#[u.slots,k b u q]
 free:=λb u q n _=>by rw[zj (Am (A4 (AY q) d))];exact n
 there:=λb u q _=>#[u,k b u q]
 tups:=λb f q=>by rw[zj (zo q c)];exact q
 frzs:=λb u f q=>by rw[zj (zo q c)];exact q
 tbls:=λb g q=>#[(IK.toArray []),by rw[zj (zo q c),q];simp]
theorem Un.write(c:Mut (H x))(l:e=x \/ H e=AA (.own x))(k:∀b u,b≠e->h.get? b=AA u->h'.get? b=AA u)(d:∃u,h'.get? e=AA u):Un fs ex H (upd H x o) h h':=by
 have g:∀b,H b=AD->b≠x:=λb n z=>by subst z;rw[n]at c;exact c
 have j:∀b,H b=AD->b≠e:=λb n z=>by
  subst z;rcases l with r|r
  .exact g b n r
  .rw[n]at r;cases r
 have f:∀b u,H b=AA u->¬Mut (AA u)->b≠x:=λb u q m z=>by subst z;rw[q]at c;exact m c
 refine#[λb u q n _ _=>k b u (j b n) q,λb u q n _ _=>#[u.slots,k b u (j b n) q],λb u q n _=>by rw[zj (g b n)];exact n,λb u q _=>?_,
  λb p q=>by rw[zj (f b _ q λz=>z)];exact q,λb u p q=>by rw[zj (f b _ q λz=>z)];exact q,λb t q=>#[(IK.toArray []),by rw[zj (f b _ q λz=>z),q];simp]]
 by_cases a:b=e
 .subst a;exact d
 .exact#[u,k b u a q]
end
def trk(h:Au)(H:Hp):IK Addr:=(Bk h.objs.size).filter λa=>(H a).isSome
def ycr(h:Au)(H:Hp):Heap:=DA h (trk h H)
def ziV(h)(H):(ycr h H).objs.size=h.objs.size:=PySem.W.hideAll_size _ _
def zlu{h:Au}{H:Hp}{b:AJ}{o}(e:h.get? b=AA o)(n:H b=AD):(ycr h H).get? b=AA o:=
 Fh _ e λa=>by have q:(H b).isSome=true:=(FM.mp a).2;rw[n]at q;simp at q
def zmN{h H}{b:AJ}{o}(e:(ycr h H).get? b=AA o):h.get? b=AA o/\H b=none:=by
 have a:h.get? b=AA o:=GE (trk h H) e;refine#[a,?_]
 cases q:H b with
 |none=>rfl
 |some x=>
  have c:b∈trk h H:=FM.mpr #[HB.mpr (AY a),by simp[q]];have z:(ycr h H).get? b=none:=PySem.W.hideAll_none (trk h H) c;rw[z]at e;cases e
structure Mod(K:AF)(mg:AL->Option AG)(base:Au):Prop where
 kin:K.In base
 glob:base.Ns mainGlobals mg
 blt:∃mb,base.Ns builtinsNs mb/\∀x:AL,x ≠ "__name__"->mb x=bootBuiltins x
 nolimit:base.NoLimit
structure Cx where
 prog:Aa
 w:Ai
 K:AF
 mg:AL->Option AG
 base:Au
 A:Ak
 N:IK AL
 s₀:AK
 H₀:Hp
 env:Env
 outer:IK Env
 stack:IK Env
 ex:IK AJ
 fn:AL->IQ
 calm:IQ
 pn:IK (AJ×Bi)
 xe:AG->AK->Prop
def frs(l:IK Env):IK Addr:=l.filterMap (·.frame)
abbrev Cx.fs(X:Cx):IK Addr:=frs X.outer
def Vis(sc:BZ)(x:AL):Prop:=sc.names.lookup x=AA .local \/ sc.names.lookup x=AA .cell \/ sc.names.lookup x=AA .free
def Loc(sc:BZ)(x:AL):Prop:=sc.names.lookup x=AA .local \/ sc.names.lookup x=AA .cell
def Look(env:Env)(h:Au)(m:AL->Option AG)(x:AL)(u:AG):Prop:=
 (env.kindOf x=AA .local/\m x=AA u) \/ ((env.kindOf x=AA .cell \/ env.kindOf x=AA .free)/\∃c,env.cells.lookup x=AA c/\h.IsCell c (AA u))
structure Cx.Ok(X:Cx):Prop where
 mod:Mod X.K X.mg X.base
 kind:X.env.scope.kind=.function
 glob:X.env.globals=mainGlobals
 blt:X.env.builtins=builtinsNs
 above:X.s₀.heap.objs.size<=X.env.locals
 inj:∀x y c,X.env.cells.lookup x=AA c->X.env.cells.lookup y=AA c->x=y
 has:∀x,(X.env.kindOf x=AA .cell \/ X.env.kindOf x=AA .free)->∃c,X.env.cells.lookup x=AA c
 cab:∀x c,X.fn x=AC->X.env.cells.lookup x=AA c->X.s₀.heap.objs.size<=c
 hd:X.calm=AC->X.A.handled=AD
 frames:X.A.frames=AA X.stack
 stk:X.stack=X.outer \/ (X.stack=X.env::X.outer/\X.env.frame=AA X.env.locals)
 exf:∀b∈X.ex,b≠X.env.locals/\∀x c,X.env.cells.lookup x=AA c->c≠b
 bs:∀b o,X.base.get? b=AA o->X.s₀.heap.get? b=AA o/\X.H₀ b=AD
 bsz:X.base.objs.size<=X.s₀.heap.objs.size
 noex:∀b o,X.base.get? b=AA o->b∉X.ex
 exfs:∀b∈X.ex,b∉X.fs
 funs:X.s₀.heap.FunFrames X.base X.outer
 frf:∀b∈X.fs,X.H₀ b=AD
structure Inv(X:Cx)(B:IK (AJ×Bi))(A:IK (Option V))(H:Hp)(s:AK):Prop where
 ok:X.Ok
 os:s.os=X.s₀.os
 bare:DF s.gens
 base:Un X.fs X.ex X.H₀ H X.s₀.heap s.heap
 loc:∃m,s.heap.Ns X.env.locals m/\∀(i:IL) (x:AL) (v:V),X.N[i]?=AA x->A[i]?=AA (AA v)->Vis X.env.scope x->∃u,RelV v u/\Look X.env s.heap m x u
 cell:∀x c,X.env.cells.lookup x=AA c->∃v,s.heap.IsCell c v
 free:H X.env.locals=AD
 freeC:∀x c,X.env.cells.lookup x=AA c->H c=AD
 pin:∀p∈X.pn++B,s.heap.get? p.1=AA p.2/\H p.1=AD/\p.1≠X.env.locals/\p.1∉X.fs/\∀v,p.2.data ≠ .cell v
 hok:HOk X.prog X.w H s.heap
 len:A.length=X.N.length
section
variable {X:Cx}{C:IK (AJ×Bi)}{B:IK (Option V)}{H H':Hp}{s:AK}{h':Au}
theorem Cx.Ok.nofr(ok:X.Ok){b:AJ}{o:Bi}(e:X.base.get? b=AA o):b∉X.fs:=λa=>by have:=(ok.funs.mem a).1;rw[e]at this;cases this
theorem Inv.bs(I:Inv X C B H s):∀b o,X.base.get? b=AA o->s.heap.get? b=AA o/\H b=none:=λb o e=>
 #[I.base.keep b o (I.ok.bs b o e).1 (I.ok.bs b o e).2 (I.ok.nofr e) (I.ok.noex b o e),I.base.free b o (I.ok.bs b o e).1 (I.ok.bs b o e).2 (I.ok.noex b o e)]
theorem Inv.bk(I:Inv X C B H s):∀b o,X.base.get? b=AA o->s.heap.get? b=AA o:=λb o e=>(I.bs b o e).1
theorem Inv.mod(I:Inv X C B H s):Mod X.K X.mg X.base:=I.ok.mod
theorem Inv.kIn(I:Inv X C B H s):X.K.In s.heap:=I.ok.mod.kin.keeps I.bk
theorem Inv.lt(I:Inv X C B H s):X.env.locals<s.heap.objs.size:=let #[_,a,_]:=I.loc;a.lt
theorem Inv.sz(I:Inv X C B H s):X.s₀.heap.objs.size<=s.heap.objs.size:=As I.ok.above (GP I.lt)
theorem Inv.nofs(I:Inv X C B H s){a:AJ}(h:s.heap.objs.size<=a):a∉X.fs:=λb=>by let#[_,o,c,_]:=I.ok.funs.mem b;exact IU (A4 (AY c) (As I.sz h)) (Cv _)
theorem Inv.cne(I:Inv X C B H s):∀x c,X.env.cells.lookup x=AA c->c≠X.env.locals:=λx c e z=>by let#[v,o,d,f]:=I.cell x c e;let#[m,#[g,j,l,a,b,_],_]:=I.loc;rw[z,a]at d;cases d;rw[b]at f;cases f
theorem Inv.funs(I:Inv X C B H s):s.heap.FunFrames X.base X.outer:=by
 have all:∀(l:IK Env),(∀b∈frs l,b∈X.fs)->X.s₀.heap.FunFrames X.base l->s.heap.FunFrames X.base l:=by
  intro l
  induction l with
  |nil=>intro _ _;trivial
  |cons f r ih=>
   intro d g;let#[j,#[L,o,hf,m,n,p],q]:=g;have a:L∈X.fs:=d L (by unfold frs;rw[CY,hf];exact Af);let#[t,e]:=I.base.slot L o n (I.ok.frf L a) a λz=>I.ok.exfs L z a;exact#[j,#[L,_,hf,m,e,p],ih (λb c=>d b (by unfold frs;rw[CY,hf];exact AU _ c)) q]
 exact all X.outer (λ_ c=>c) I.ok.funs
theorem Inv.stack(I:Inv X C B H s):s.heap.FunFrames X.base X.stack:=by
 rcases I.ok.stk with e|⟨e,hf⟩
 .rw[e];exact I.funs
 .rw[e];let#[m,a,_]:=I.loc;refine .cons (by rw[I.ok.kind];decide) hf a ?_ I.funs;exact Heap.get?_none_of_le (As I.ok.bsz I.ok.above)
theorem Inv.stkSub(I:Inv X C B H s):∀b∈frs X.stack,b∈X.env.locals::X.fs:=λb a=>by
 rcases I.ok.stk with e|⟨e,hf⟩
 .rw[e]at a;exact AU _ a
 .rw[e]at a;unfold frs at a;rw[CY,hf]at a;exact a
theorem Inv.stkFree(I:Inv X C B H s):∀b∈frs X.stack,H b=none:=λb a=>by
 rcases AS.mp (I.stkSub b a)with e|a
 .rw[e];exact I.free
 .let#[_,o,c,_]:=I.ok.funs.mem a;exact I.base.free b o c (I.ok.frf b a) λz=>I.ok.exfs b z a
theorem Inv.step{g':Ie GenState}{t':IL}{d':Drawn}{ch:IK AJ}(I:Inv X C B H s)
  (g:∀b∈ch,(b∈X.ex \/ X.s₀.heap.objs.size<=b)/\b≠X.env.locals/\(∀x c,X.env.cells.lookup x=AA c->c≠b)/\∀p∈X.pn++C,p.1≠b)
  (keep:∀b o,b≠X.env.locals->b∉X.fs->b∉ch->s.heap.get? b=AA o->H b=AD->h'.get? b=AA o)
  (A:∀b o,b≠X.env.locals->b∈X.fs->b∉ch->s.heap.get? b=AA o->H b=AD->∃Y,h'.get? b=AA {o with slots:=Y}) (f:∀b o,b∉ch->s.heap.get? b=AA o->H b=AD->H' b=AD)
  (there:∀b o,b∉ch->s.heap.get? b=AA o->∃J,h'.get? b=AA J)
  (L:∀b D,H b=AA (.tup D)->H' b=AA (.tup D)) (M:∀b o u,H b=AA (.frz o u)->H' b=AA (.frz o u)) (N:∀b U,H b=AA (.tbl U)->∃more,H' b=AA (.tbl (U++more)))
  (ns:∀m,s.heap.Ns X.env.locals m->h'.Ns X.env.locals m) (Z:HOk X.prog X.w H' h') (hg:DF g'):
  Inv X C B H' {s with heap:=h',gens:=g',drawn:=d',toks:=t'}:=by
 have O:∀b o,X.s₀.heap.get? b=AA o->b≠X.env.locals:=λb o e=>Am (A4 (AY e) I.ok.above);have w:∀b o,X.s₀.heap.get? b=AA o->b∉X.ex->b∉ch:=λb o e a E=>by
  rcases (g b E).1 with z|z
  .exact a z
  .exact IU (A4 (AY e) z) (Cv _)
 have j:∀x c,X.env.cells.lookup x=AA c->∀v,s.heap.IsCell c v->h'.IsCell c v:=λx c e v #[o,G,hd]=>by
  have t:c∉ch:=λz=>(g c z).2.2.1 x c e rfl
  by_cases hc:c∈X.fs
  .let#[Y,q]:=A c o (I.cne x c e) hc t G (I.freeC x c e);exact#[_,q,hd]
  .exact#[o,keep c o (I.cne x c e) hc t G (I.freeC x c e),hd]
 refine#[I.ok,I.os,hg,#[λb o e n E a=>?_,λb o e n E a=>?_,λb o e n a=>?_,λb o e a=>?_,λb D e=>L b D (I.base.tups b D e),λb o D e=>M b o D (I.base.frzs b o D e),λb U e=>?_],?_,λx c e=>?_,?_,λx c e=>?_,λp hp=>?_,Z,I.len]
 .exact keep b o (O b o e) E (w b o e a) (I.base.keep b o e n E a) (I.base.free b o e n a)
 .let#[Y,y]:=I.base.slot b o e n E a;let#[sl',Q]:=A b _ (O b o e) E (w b o e a) y (I.base.free b o e n a);exact#[sl',Q]
 .let#[J,y]:=I.base.there b o e a;exact f b J (w b o e a) y (I.base.free b o e n a)
 .let#[J,y]:=I.base.there b o e a;exact there b J (w b o e a) y
 .let#[m1,y]:=I.base.tbls b U e;let#[m2,Q]:=N b _ y;exact#[m1++m2,by rw[Q,Dt]]
 .let#[m,hn,hl]:=I.loc;refine#[m,ns m hn,λi x v y Q e3=>?_];let#[u,r,l]:=hl i x v y Q e3;refine#[u,r,?_];rcases l with l|⟨k,c,e,z⟩
  .exact .inl l
  .exact .inr #[k,c,e,j x c e _ z]
 .let#[v,z]:=I.cell x c e;exact#[v,j x c e v z]
 .let#[m,#[o,_,_,G,_],_]:=I.loc;exact f _ o (λz=>(g _ z).2.1 rfl) G I.free
 .let#[v,o,G,hd]:=I.cell x c e;exact f c o (λz=>(g c z).2.2.1 x c e rfl) G (I.freeC x c e)
 .let#[e,n,ne,nf,d]:=I.pin p hp;have t:p.1∉ch:=λz=>(g p.1 z).2.2.2 p hp rfl;exact#[keep p.1 p.2 ne nf t e n,f p.1 p.2 t e n,ne,nf,d]
theorem Inv.un{t':IL}(I:Inv X C B H s)(u:Un X.fs [] H H' s.heap h')(c:HOk X.prog X.w H' h'):Inv X C B H' {s with heap:=h',toks:=t'}:=by
 let#[m,#[o,t,w,j,r],_]:=id I.loc;let#[x,l]:=u.any j I.free (by simp);exact I.step (g':=s.gens) (d':=s.drawn) (ch:=[]) (λ_ z=>nomatch z) (λb o _ d _ e n=>u.keep b o e n d (by simp)) (λb o _ d _ e n=>u.slot b o e n d (by simp)) (λb o _ e n=>u.free b o e n (by simp)) (λb o _ e=>u.there b o e (by simp)) u.tups u.frzs u.tbls (λy p=>by let#[A,f,g,a,q]:=p;rw[j]at a;cases a;exact#[_,f,g,l,q]) c I.bare
theorem Inv.call{g':Ie GenState}{t':IL}{d':Drawn}{ch:IK AJ}(I:Inv X C B H s)(u:Un (frs X.stack) ch H H' s.heap h')(g:HOk X.prog X.w H' h')(w:DF g')
  (d:∀b∈ch,(b∈X.ex \/ X.s₀.heap.objs.size<=b)/\b≠X.env.locals/\(∀x c,X.env.cells.lookup x=AA c->c≠b)/\∀p∈X.pn++C,p.1≠b):
  Inv X C B H' {s with heap:=h',gens:=g',drawn:=d',toks:=t'}:=by
 let#[m,#[o,E,G,t,r],_]:=id I.loc;let#[J,j]:=u.any t I.free λz=>(d _ z).2.1 rfl;exact I.step (ch:=ch) d (λb o j y a e n=>u.keep b o e n (λz=>(AS.mp (I.stkSub b z)).elim j y) a) (λb o _ _ a e n=>u.any e n a) (λb o a e n=>u.free b o e n a) (λb o a e=>u.there b o e a) u.tups u.frzs u.tbls (λL A=>by let#[M,l,q,f,D]:=A;rw[t]at f;cases f;exact#[_,l,q,j,D]) g w
theorem Inv.turned{t':IL}{a:AJ}(I:Inv X C B H s)(k:∀b o,b≠a->s.heap.get? b=AA o->h'.get? b=AA o)(j:H a=AD)(g:a≠X.env.locals)
  (l:a∈X.ex \/ X.s₀.heap.objs.size<=a) (t:∀x c,X.env.cells.lookup x=AA c->c≠a) (w:∀p∈X.pn++C,p.1≠a):Inv X C B H {s with heap:=h',toks:=t'}:=by
 have f:∀b u,H b=AA u->b≠a:=λb u e z=>by rw[z,j]at e;cases e
 refine I.step (g':=s.gens) (d':=s.drawn) (ch:=[a]) (λb y=>?_) (λb o _ _ d e _=>k b o (λz=>d (by simp[z])) e) (λb o _ _ d e _=>#[o.slots,k b o (λz=>d (by simp[z])) e]) (λ_ _ _ _ n=>n)
  (λb o d e=>#[o,k b o (λz=>d (by simp[z])) e]) (λ_ _ e=>e) (λ_ _ _ e=>e) (λb J e=>#[(IK.toArray []),by rw[e];simp]) (λm A=>?_) (λb u e=>?_) I.bare
 .have e:b=a:=by simpa using y
  subst e;exact#[l,g,t,w]
 .let#[o,D,E,G,r]:=A;exact#[o,D,E,k _ o (Ax g) G,r]
 .refine(I.hok b u e).stay (λc v d q=>k c v ?_ q) (λ_ q=>q) λ_ _ q=>q;rcases d with z|z
  .rw[z];exact f b u e
  .exact f c _ z
theorem Inv.tok(I:Inv X C B H s)(t:IL):Inv X C B H {s with toks:=t}:=I.un (h':=s.heap) (t':=t) Un.refl I.hok
theorem Inv.kept{t':IL}(I:Inv X C B H s)(k:∀b u,s.heap.get? b=AA u->h'.get? b=AA u):Inv X C B H {s with heap:=h',toks:=t'}:=I.un (Un.kept k) (I.hok.kept k)
theorem Inv.laid{a:AJ}{o:HO}{t':IL}(I:Inv X C B H s)(k:∀b u,s.heap.get? b=AA u->h'.get? b=AA u)(c:s.heap.objs.size<=a)(d:yQ X.prog X.w (upd H a o) h' a o):
  Inv X C B (upd H a o) {s with heap:=h',toks:=t'}:=I.un (Un.laid k c (I.hok.fresh c)) (I.hok.laid k c d)
theorem Inv.write{x e:AJ}{o:HO}{t':IL}(I:Inv X C B H s)(d:Mut (H x))(f:e=x \/ H e=AA (.own x))(k:∀b u,b≠e->s.heap.get? b=AA u->h'.get? b=AA u)(a:∃u,h'.get? e=AA u)
  (c:yQ X.prog X.w (upd H x o) h' x o):Inv X C B (upd H x o) {s with heap:=h',toks:=t'}:=I.un (Un.write d f k a) (I.hok.write d f k a c)
theorem Inv.pins_of{a:IK (AJ×Bi)}(I:Inv X C B H s)(h:∀p∈a,s.heap.get? p.1=AA p.2/\H p.1=AD/\p.1≠X.env.locals/\p.1∉X.fs/\∀v,p.2.data ≠ .cell v):Inv X a B H s:=
 #[I.ok,I.os,I.bare,I.base,I.loc,I.cell,I.free,I.freeC,λp b=>(BG.mp b).elim (λz=>I.pin p (Cd _ z)) (h p),I.hok,I.len]
def zg5{N:IK AL}(c:N.Nodup){i j:IL}{x}(a:N[i]?=AA x)(b:N[j]?=AA x):i=j:=by let#[g,d]:=An.mp a;let#[l,f]:=An.mp b;exact(IK.getElem_inj c).mp (d.trans f.symm)
def zjk{M A E}{i:IL}{x v u}{Q:Ik->AK->Prop}(I:Inv X C B H s)(hN:X.N.Nodup)(Y:X.N[i]?=AA x)(w:Loc X.env.scope x)(r:RelV v u)
  (h:∀s',Inv X C (B.set i (AA v)) H s'->(∃a,C6 a s.heap s'.heap/\(a=X.env.locals \/ X.env.cells.lookup x=AA a))->Q Ik.unit s') (hf:X.fn x=AC \/ X.env.scope.names.lookup x=AA .local:=by first|exact .inl rfl|exact .inr rfl|assumption):A6 M A (storeName X.env x u) Q E s:=by
 let#[m,hn,hl]:=id I.loc;have Z:(X.env.scope.kind==.class || (X.env.scope.kind==.module&&X.env.locals != X.env.globals))=false:=by rw[I.ok.kind];rfl
 have J:i<B.length:=by rw[I.len];exact(An.mp Y).1
 have cne:=I.cne;have g:∀{a:AJ} {h':Au},(∃o,s.heap.get? a=AA o/\H a=AD)->C6 a s.heap h'->HOk X.prog X.w H h':=λ{a h'} ha f b ob e=>by
  let#[_,_,D]:=ha;refine(I.hok b ob e).stay (λc w' t q=>(f.2 c ?_).trans q) (λ_ q=>q) λ_ _ q=>q
  rintro rfl
  rcases t with rfl|t
  .rw[D]at e;cases e
  .rw[D]at t;cases t
 rcases w with L|L
 .refine wpAny_storeName_local L hn (λh' hn' f=>?_) Z;let#[oL,_,_,hoL,_]:=id hn;refine h _ #[I.ok,I.os,I.bare,#[λb o e n N w=>?_,λb o e n N w=>?_,I.base.free,λb o e w=>?_,I.base.tups,I.base.frzs,I.base.tbls],#[_,hn',λj y v' l G e3=>?_],λy c e=>?_,I.free,I.freeC,λp hp=>?_,g #[oL,hoL,I.free] f,by simpa using I.len] #[_,f,.inl rfl]
  .exact(f.2 b (Am (A4 (AY e) I.ok.above))).trans (I.base.keep b o e n N w)
  .let#[sl,l]:=I.base.slot b o e n N w;exact#[sl,(f.2 b (Am (A4 (AY e) I.ok.above))).trans l]
  .let#[o',l]:=I.base.there b o e w;exact#[o',(f.2 b (Am (A4 (AY e) I.ok.above))).trans l]
  .by_cases O:j=i
   .subst O;rw[Y]at l;cases l;rw[Ac J]at G
    cases G
    exact#[u,r,.inl #[L,by simp]]
   .rw[AM (Ax O)]at G;let#[u',r',q]:=hl j y v' l G e3;refine#[u',r',?_];rcases q with⟨k,e⟩|⟨k,c,e,z⟩
    .refine .inl #[k,?_];have:y≠x:=λe=>O (zg5 hN l (e ▸ Y));simp[this,e]
    .exact .inr #[k,c,e,z.sameBut f (cne y c e)]
  .let#[w',z]:=I.cell y c e;exact#[w',z.sameBut f (cne y c e)]
  .let#[e,n,ne,nf,d]:=I.pin p hp;exact#[(f.2 p.1 ne).trans e,n,ne,nf,d]
 .have U:X.fn x=true:=by
   rcases hf with z|z
   .exact z
   .rw[z]at L;cases L
  let#[c,t]:=I.ok.has x (.inl L);let#[w',z]:=I.cell x c t;refine wpAny_storeName_cell I.ok.kind L t z (λh' hc' f=>?_);let#[oc,hoc,hocd]:=id z;refine h {s with heap:=h'} #[I.ok,I.os,I.bare,#[λb o e n N w=>?_,λb o e n N w=>?_,I.base.free,λb o e w=>?_,I.base.tups,I.base.frzs,I.base.tbls],#[m,hn.sameBut f (Ax (cne x c t)),λj y v' l G e3=>?_],λy c' e=>?_,I.free,I.freeC,λp hp=>?_,g #[oc,hoc,I.freeC x c t] f,by simpa using I.len] #[c,f,.inr t]
  .exact(f.2 b (Am (A4 (AY e) (I.ok.cab x c U t)))).trans (I.base.keep b o e n N w)
  .let#[sl,l]:=I.base.slot b o e n N w;exact#[sl,(f.2 b (Am (A4 (AY e) (I.ok.cab x c U t)))).trans l]
  .let#[o',l]:=I.base.there b o e w;exact#[o',(f.2 b (Am (A4 (AY e) (I.ok.cab x c U t)))).trans l]
  .by_cases O:j=i
   .subst O;rw[Y]at l;cases l;rw[Ac J]at G
    cases G
    exact#[u,r,.inr #[.inl L,c,t,hc']]
   .rw[AM (Ax O)]at G;let#[u',r',q]:=hl j y v' l G e3;refine#[u',r',?_];rcases q with q|⟨k,c',e,z'⟩
    .exact .inl q
    .refine .inr #[k,c',e,z'.sameBut f ?_]
     rintro rfl
     exact O (zg5 hN l (I.ok.inj _ _ _ e t ▸ Y))
  .by_cases hcc:c'=c
   .subst hcc;exact#[_,hc']
   .let#[w2,z2]:=I.cell y c' e;exact#[w2,z2.sameBut f hcc]
  .let#[e,n,ne,nf,d]:=I.pin p hp;refine#[(f.2 p.1 ?_).trans e,n,ne,nf,d];intro q;rw[q,hoc]at e;have q':oc=p.2:=AX e;exact d w' (by rw[<-q'];exact hocd)
def zbd{M A E}{i:IL}{x v u}{Q:Ik->AK->Prop}(I:Inv X C B H s)(b:X.N.Nodup)(c:X.N[i]?=AA x)(d:Loc X.env.scope x)(r:RelV v u)
  (h:∀a,Inv X C (B.set i (AA v)) H a->Q Ik.unit a) (hf:X.fn x=AC \/ X.env.scope.names.lookup x=AA .local:=by first|exact .inl rfl|exact .inr rfl|assumption):A6 M A (storeName X.env x u) Q E s:=
 zjk I b c d r (λa f _=>h a f) hf
theorem Inv.call'{s':AK}{ch:IK AJ}(I:Inv X C B H s)(f:s'.os=s.os)(u:Un (frs X.stack) ch H H' s.heap s'.heap)(a:HOk X.prog X.w H' s'.heap)(g:DF s'.gens)
  (d:∀b∈ch,(b∈X.ex \/ X.s₀.heap.objs.size<=b)/\b≠X.env.locals/\(∀x c,X.env.cells.lookup x=AA c->c≠b)/\∀p∈X.pn++C,p.1≠b):Inv X C B H' s':=by let#[h',g',d',t',j]:=s';have e:j=s.os:=f;subst e;exact I.call (g':=g') (t':=t') (d':=d') u a g d
end
abbrev XK:=AG->Option AJ->Hp->Prop
abbrev St:=IK (Option V)
abbrev VK:=V->Hp->Prop
abbrev TE:=St->Hp->VK->Prop
abbrev TT:=St->Hp->(IQ->Hp->Prop)->Prop
abbrev TA:=St->Hp->(IK V->Hp->Prop)->Prop
structure Ends where
 nx:St->Hp->Prop
 rt:VK
 bk:St->Hp->Prop:=λ_ _=>IY
 ct:St->Hp->Prop:=λ_ _=>IY
abbrev TS:=Ends->St->Hp->Prop
def EP(X:Cx)(B:IK (AJ×Bi))(A:St)(Q:VK)(u:AG)(s':AK):Prop:=∃v a,Inv X B A a s'/\RelV v u/\Q v a
def TP(X:Cx)(B:IK (AJ×Bi))(A:St)(Q:IQ->Hp->Prop)(b:IQ)(s':AK):Prop:=∃a,Inv X B A a s'/\Q b a
def AP(X:Cx)(B:IK (AJ×Bi))(A:St)(Q:IK V->Hp->Prop)(us:IK AG)(s':AK):Prop:=∃a b,Inv X B A b s'/\Vals a us/\Q a b
def SP(X:Cx)(A:IK (AJ×Bi))(D:Ends)(f:Flow)(s':AK):Prop:=
 match f with
 |.next=>∃b a,Inv X A b a s'/\D.nx b a
 |.brk=>∃b a,Inv X A b a s'/\D.bk b a
 |.cont=>∃b a,Inv X A b a s'/\D.ct b a
 |.ret u=>∃v b a,Inv X A b a s'/\RelV v u/\D.rt v a
def PE(X:Cx)(e:AT)(t:TE):Prop:=
 ∀(C:IK (AJ×Bi)) (s:AK) (B:St) (H:Hp) (Q:VK),Inv X C B H s->t B H Q->A6 (model X.prog X.w) X.A (eval e X.env) (EP X C B Q) X.xe s
def PT(X:Cx)(e:AT)(t:TT):Prop:=
 ∀(C:IK (AJ×Bi)) (s:AK) (B:St) (H:Hp) (Q:IQ->Hp->Prop),Inv X C B H s->t B H Q->A6 (model X.prog X.w) X.A (isTrue e X.env (eval e X.env)) (TP X C B Q) X.xe s
def PW(X:Cx)(e:AT)(t:TT):Prop:=
 ∀(a:Hd AG) (C:IK (AJ×Bi)) (s:AK) (B:St) (H:Hp) (Q:IQ->Hp->Prop),Inv X C B H s->t B H Q->A6 (model X.prog X.w) X.A (isTrue e X.env a) (TP X C B Q) X.xe s
theorem PW.pt{X:Cx}{e:AT}{t:TT}(h:PW X e t):PT X e t:=h _
def PA(X:Cx)(es:IK AT)(t:TA):Prop:=
 ∀(a:CB) (C:IK (AJ×Bi)) (s:AK) (B:St) (H:Hp) (Q:IK V->Hp->Prop),Inv X C B H s->t B H Q->A6 (model X.prog X.w) X.A (spliced (backTo a (starEach es X.env))) (AP X C B Q) X.xe s
def PS(X:Cx)(st:Bj)(t:TS):Prop:=
 ∀(C:IK (AJ×Bi)) (s:AK) (B:St) (H:Hp) (D:Ends),Inv X C B H s->t D B H->A6 (model X.prog X.w) X.A (exec st X.env) (SP X C D) X.xe s
def PSs(X:Cx)(st:IK Bj)(t:TS):Prop:=
 ∀(C:IK (AJ×Bi)) (s:AK) (B:St) (H:Hp) (D:Ends),Inv X C B H s->t D B H->A6 (model X.prog X.w) X.A (execs st X.env) (SP X C D) X.xe s
theorem thn{B}{t:Hd B}{Q b:B->AK->Prop}{M A E s}(h:A6 M A t Q E s)(c:∀a s,Q a s->b a s):A6 M A t b E s:=Bl h c λ_ _ x=>x
section
variable {X:Cx}
def ygR(i:IL):TE:=λB H Q=>∃v,B[i]?=AA (AA v)/\Q v H
def tC(v:V):TE:=λ_ H Q=>Q v H
def zlU{i:IL}{x pos}(n:X.N[i]?=AA x)(o:Vis X.env.scope x)(f:(x==("__debug__":AL))=false:=by decide)(g:(x==("__classdict__":AL))=false:=by decide):PE X (.Name x pos) (ygR i):=by
 intro C s B H Q I h;let#[v,e,h]:=h;let#[m,p,q]:=I.loc;let#[u,r,l]:=q i x v n e o;have b:EP X C B Q u s:=#[v,H,I,r,h];rcases l with⟨d,t⟩|⟨d,c,j,a⟩
 .exact HC (FZ I.ok.kind d p t b) f
 .rcases d with d|d
  .exact HC (Fi I.ok.kind d j a b) f
  .exact HC (wpAny_loadName_free I.ok.kind d j a b g) f
def zsd{i j pos}:PE X (.Constant (.int i) j pos) (tC (.int i)):=λ_ _ _ H _ I h=>wpAny_Constant_int #[.int i,H,I.tok _,#[_,rfl],h]
def zse{b j pos}:PE X (.Constant (.bool b) j pos) (tC (.bl b)):=λ_ _ _ H _ I h=>Constant_bool #[.bl b,H,I,rfl,h]
def zsf{j pos}:PE X (.Constant .none j pos) (tC .non):=λ_ _ _ H _ I h=>Constant_none #[.non,H,I,rfl,h]
def zr2{x j pos}:PE X (.Constant (.str x) j pos) (tC (.str x)):=λ_ _ _ H _ I h=>Calls.Constant_str #[.str x,H,I.tok _,#[_,rfl],h]
def Gl(X:Cx)(x:AL):Prop:=X.env.kindOf x=AA .globalImplicit
def zb9{E C s B H x u pos}{Q:AG->AK->Prop}(I:Inv X C B H s)(a:Gl X x)(b:X.mg x=AA u)(h:Q u s)
  (c:(x==("__debug__":AL))=false:=by decide):A6 (model X.prog X.w) X.A (eval (.Name x pos) X.env) Q E s:=
 Du I.ok.kind a (Calls.loadGlobal_global (by rw[I.ok.glob];exact I.mod.glob.keeps I.bk) b h) c
def zeC{E C s B H x u pos}{Q:AG->AK->Prop}(I:Inv X C B H s)(a:Gl X x)(b:X.mg x=AD)(c:bootBuiltins x=AA u)(h:Q u s)
  (d:x ≠ "__name__":=by decide) (f:(x==("__debug__":AL))=false:=by decide):A6 (model X.prog X.w) X.A (eval (.Name x pos) X.env) Q E s:=by let#[l,g,j]:=I.mod.blt;exact Du I.ok.kind a (Calls.loadGlobal_builtin (by rw[I.ok.glob];exact I.mod.glob.keeps I.bk) b (by rw[I.ok.blt];exact g.keeps I.bk) ((j x d).trans c) h) f
def zdq{x v u pos}(a:Gl X x)(b:X.mg x=AA u)(r:RelV v u)(c:(x==("__debug__":AL))=false:=by decide):PE X (.Name x pos) (tC v):=
 λ_ _ _ H _ I h=>zb9 I a b #[v,H,I,r,h] c
def zjx{x v u pos}(a:Gl X x)(b:X.mg x=AD)(c:bootBuiltins x=AA u)(r:RelV v u)(d:x ≠ "__name__":=by decide)(f:(x==("__debug__":AL))=false:=by decide):PE X (.Name x pos) (tC v):=
 λ_ _ _ H _ I h=>zeC I a b c #[v,H,I,r,h] d f
variable {a b:AT}{ta tb:TE}{pos:CB}
variable {tA tB':TT}{rest:IK AT}
def yhf(t u:TT):TT:=λB H Q=>t B H λc a=>if c=AC then u B a Q else Q AB a
def tOr(t u:TT):TT:=λB H Q=>t B H λc a=>if c=AC then Q AC a else u B a Q
def yhg(t:TT):TT:=λB H Q=>t B H λc a=>Q (!c) a
def zm6(b:PT X a tA):PW X (.BoolOp .And [a] pos) tA:=by
 intro d C s B H Q I h;refine isTrue_and (thn (b C s B H Q I h) λc f e=>?_)
 cases c with
 |true=>exact isTrue_and_nil e
 |false=>exact e
def zpF(b:PT X a tA):PW X (.BoolOp .Or [a] pos) tA:=by
 intro d C s B H Q I h;refine isTrue_or (thn (b C s B H Q I h) λc f e=>?_)
 cases c with
 |false=>exact isTrue_or_nil e
 |true=>exact e
def zp3(j:PT X a tA)(l:PW X (.BoolOp .And (b::rest) pos) tB'):PW X (.BoolOp .And (a::b::rest) pos) (yhf tA tB'):=by
 intro m C s B H Q I h;refine isTrue_and (thn (j C s B H _ I h) λc n o=>?_);let#[d,f,g]:=o
 cases c with
 |true=>exact l m C n B d Q f g
 |false=>exact#[d,f,g]
def zrs(j:PT X a tA)(l:PW X (.BoolOp .Or (b::rest) pos) tB'):PW X (.BoolOp .Or (a::b::rest) pos) (tOr tA tB'):=by
 intro m C s B H Q I h;refine isTrue_or (thn (j C s B H _ I h) λc n o=>?_);let#[d,f,g]:=o
 cases c with
 |true=>exact#[d,f,g]
 |false=>exact l m C n B d Q f g
def zqA(b:PT X a tA):PT X (.UnaryOp .Not a pos) (yhg tA):=by intro C s B H Q I h;exact isTrue_not (b C s B H (λc d=>Q (!c) d) I h)
def yfi(ta tb:TE):TE:=λB H Q=>ta B H λx a=>∃c,x=.bl c/\if c=AC then tb B a Q else Q (.bl AB) a
def ygs(ta tb:TE):TE:=λB H Q=>ta B H λx a=>∃c,x=.bl c/\if c=AC then Q (.bl AC) a else tb B a Q
def yeG(ta:TE):TE:=λB H Q=>ta B H λx a=>∃c,x=.bl c/\Q (.bl (!c)) a
def zp4{b t}(h:PE X a t):PE X (.BoolOp b [a] pos) t:=λC s B H Q I c=>BoolOp_one (h C s B H Q I c)
def zpg(j:PE X a ta)(l:PE X (.BoolOp .And (b::rest) pos) tb):PE X (.BoolOp .And (a::b::rest) pos) (yfi ta tb):=by
 intro C s B H Q I h;refine BoolOp_and (thn (j C s B H _ I h) λv m n=>?_);let#[x,f,g,o,d]:=n;let#[c,rfl,d]:=d
 cases o
 refine BU ?_
 cases c with
 |true=>exact l C m B f Q g d
 |false=>exact#[.bl AB,f,g,rfl,d]
def zre(j:PE X a ta)(l:PE X (.BoolOp .Or (b::rest) pos) tb):PE X (.BoolOp .Or (a::b::rest) pos) (ygs ta tb):=by
 intro C s B H Q I h;refine BoolOp_or (thn (j C s B H _ I h) λv m n=>?_);let#[x,f,g,o,d]:=n;let#[c,rfl,d]:=d
 cases o
 refine BU ?_
 cases c with
 |false=>exact l C m B f Q g d
 |true=>exact#[.bl AC,f,g,rfl,d]
def zqw(d:PE X a ta):PE X (.UnaryOp .Not a pos) (yeG ta):=by
 intro C s B H Q I h;refine UnaryOp_ (thn (d C s B H _ I h) λv m f=>?_);let#[x,g,j,l,b]:=f;let#[c,rfl,b]:=b
 cases l
 exact not_of (BU #[.bl (!c),g,j,rfl,b])
def tIf(t:TT)(ta tb:TE):TE:=λB H Q=>t B H λc a=>if c=AC then ta B a Q else tb B a Q
def zlC{c}(m:PT X c tA)(n:PE X a ta)(o:PE X b tb):PE X (.IfExp c a b pos) (tIf tA ta tb):=by
 intro C s B H Q I h;refine wpAny_IfExp (thn (m C s B H _ I h) λd f p=>?_);let#[g,j,l]:=p
 cases d with
 |true=>exact n C f B g Q j l
 |false=>exact o C f B g Q j l
end
def SqL(K:AF)(H:Hp)(a:AJ)(xs:IK V):Prop:=
 Rd H a (.lst xs) \/
  ∃(o:Bi) (b:Ie AG) (n:IL),K.lookup a=AA o/\o.cls=.type "list"/\o.dict=AD/\o.data=.seq b n/\b.size<=sizeLine/\Vals xs b.toList
def SqT(K:AF)(H:Hp)(a:AJ)(xs:IK V):Prop:=
 Rd H a (.tup xs) \/
  ∃(o:Bi) (b:Ie AG) (n:IL),K.lookup a=AA o/\o.cls=.type "tuple"/\o.data=.seq b n/\b.size<=sizeLine/\Vals xs b.toList
def yhQ:AG->Option V
 |.none=>AA .non
 |.bool b=>AA (.bl b)
 |.int i _=>AA (.int i)
 |.str x _=>AA (.str x)
 |.bytes b _=>AA (.byt b)
 |.float b _=>AA (.flt b)
 |.ref a=>AA (.ref a)
 |.type n=>AA (.ty n)
 |_=>AD
theorem RelV.abs{x:V}{u:AG}(r:RelV x u):yhQ u=AA x:=by
 cases x with
 |non=>cases r;rfl
 |bl _=>cases r;rfl
 |int _=>let#[t,rfl]:=r;rfl
 |str _=>let#[t,rfl]:=r;rfl
 |byt _=>let#[t,rfl]:=r;rfl
 |flt _=>let#[t,rfl]:=r;rfl
 |ref _=>cases r;rfl
 |ty _=>cases r;rfl
theorem RelV.inj{x y:V}{u:AG}(r:RelV x u)(q:RelV y u):x=y:=AX (r.abs.symm.trans q.abs)
theorem Vals.inj:∀{xs a:IK V} {us:IK AG},Vals xs us->Vals a us->xs=a
 |_,_,_,.nil,.nil=>rfl
 |_,_,_,.cons r t,.cons b c=>by rw[r.inj b,Vals.inj t c]
section
variable {X:Cx}{B:IK (AJ×Bi)}{A:St}{H:Hp}{s:AK}{a:AJ}{xs ys:IK V}
theorem SqL.of{K:AF}(h:H a=AA (.lst xs)):SqL K H a xs:=.inl (.inl h)
theorem Inv.list(I:Inv X B A H s)(h:SqL X.K H a xs):∃b:IK AG,Vals xs b/\PlainL s.heap a b.toArray/\xs.length<=sizeLine:=by
 rcases h with h|⟨o,b,n,c,d,f,g,j,r⟩
 .let#[z,b,n,r,e]:=h.ok I.hok;exact#[b,r,#[_,n,e,rfl,rfl,rfl],z]
 .refine#[b.toList,r,#[o,n,I.kIn a o c,d,f,by simpa using g],?_];have e:=r.length;erw[BF]at e;lia
theorem Inv.tuple(I:Inv X B A H s)(h:SqT X.K H a xs):∃b:IK AG,Vals xs b/\HA s.heap a b.toArray/\xs.length<=sizeLine:=by
 rcases h with h|⟨o,b,n,c,d,f,g,r⟩
 .let#[z,b,r,p]:=h.ok I.hok;exact#[b,r,p,z]
 .refine#[b.toList,r,#[o,I.kIn a o c,d,n,by simpa using f],?_];have e:=r.length;erw[BF]at e;lia
theorem Inv.list_inj(I:Inv X B A H s)(h:SqL X.K H a xs)(h':SqL X.K H a ys):xs=ys:=by
 let#[c,r,#[o,n,e,_,_,d],_]:=I.list h;let#[b,j,#[m,p,f,_,_,g],_]:=I.list h';rw[e]at f;cases f;rw[d]at g;injection g with l _;have:c=b:=by simpa using Ic Hi l
 subst this;exact r.inj j
theorem Inv.tuple_inj(I:Inv X B A H s)(h:SqT X.K H a xs)(h':SqT X.K H a ys):xs=ys:=by
 let#[c,r,#[o,e,_,n,d],_]:=I.tuple h;let#[b,j,#[m,f,_,p,g],_]:=I.tuple h';rw[e]at f;cases f;rw[d]at g;injection g with l _;have:c=b:=by simpa using Ic Hi l
 subst this;exact r.inj j
end
abbrev Cx.wish(X:Cx)(E:AG->AK->Prop):Cx:={X with xe:=E}
theorem Cx.Ok.wish{X:Cx}(ok:X.Ok)(E:AG->AK->Prop):(X.wish E).Ok:=
 #[ok.mod,ok.kind,ok.glob,ok.blt,ok.above,ok.inj,ok.has,ok.cab,ok.hd,ok.frames,ok.stk,ok.exf,ok.bs,ok.bsz,ok.noex,ok.exfs,ok.funs,ok.frf]
theorem Cx.Ok.unwish{X:Cx}{E:AG->AK->Prop}(ok:(X.wish E).Ok):X.Ok:=
 #[ok.mod,ok.kind,ok.glob,ok.blt,ok.above,ok.inj,ok.has,ok.cab,ok.hd,ok.frames,ok.stk,ok.exf,ok.bs,ok.bsz,ok.noex,ok.exfs,ok.funs,ok.frf]
section
variable {X:Cx}{B:IK (AJ×Bi)}{A:St}{H:Hp}{s:AK}{E:AG->AK->Prop}
theorem Inv.wish(I:Inv X B A H s)(E:AG->AK->Prop):Inv (X.wish E) B A H s:=#[I.ok.wish E,I.os,I.bare,I.base,I.loc,I.cell,I.free,I.freeC,I.pin,I.hok,I.len]
theorem Inv.unwish(I:Inv (X.wish E) B A H s):Inv X B A H s:=#[I.ok.unwish,I.os,I.bare,I.base,I.loc,I.cell,I.free,I.freeC,I.pin,I.hok,I.len]
end
section
variable {X:Cx}{st:Bj}{rest:IK Bj}{t u:TS}{e:AT}{te:TE}{pos:CB}
def yfg:TS:=λD A H=>D.nx A H
def ygh(t u:TS):TS:=λD A H=>t {D with nx:=u D} A H
def zsg:PSs X [] yfg:=λ_ _ A H _ I h=>DB #[A,H,I,h]
def zhc(a:PS X st t)(b:PSs X rest u):PSs X (st::rest) (ygh t u):=by
 intro B s A H D I h;refine Ga (thn (a B s A H {D with nx:=u D} I h) λf c q=>?_)
 cases f with
 |next=>
  let#[d,g,j,q]:=q;exact b B c d g D j q
 |ret v=>exact q
 |brk=>exact q
 |cont=>exact q
def zoa(a:PS X st t):PSs X [st] t:=by
 intro B s A H D I h;refine Ga (thn (a B s A H D I h) λf b q=>?_)
 cases f with
 |next=>exact DB q
 |ret v=>exact q
 |brk=>exact q
 |cont=>exact q
theorem Inv.quiet{B:IK (AJ×Bi)}{A:St}{H:Hp}{s:AK}(I:Inv X B A H s):interactive X.env=false:=by simp[interactive,I.ok.kind]
def yeP(te:TE):TS:=λD A H=>te A H λ_ a=>D.nx A a
def zm2(a:PE X e te)(b:swapsWith e AD pos.line X.env=pure false:=by rfl):PS X (.Expr e pos) (yeP te):=by intro B s A H D I h;exact wpAny_Expr_any (thn (a B s A H _ I h) λv g #[x,c,d,j,f]=>#[A,c,d,f]) I.quiet b
def yhp(te:TE):TS:=λD A H=>te A H D.rt
def zmo(a:PE X e te):PS X (.Return (AA e) pos) (yhp te):=by intro B s A H D I h;exact wpAny_Return_some (thn (a B s A H _ I h) λv g #[x,b,c,d,f]=>#[x,A,b,c,d,f])
def yfc:TS:=λD _ H=>D.rt .non H
def zsh:PS X (.Return AD pos) yfc:=λ_ _ A H _ I h=>wpAny_Return_none #[.non,A,H,I,rfl,h]
def yhe(c:TT)(t u:TS):TS:=λD A H=>c A H λb a=>if b=AC then t D A a else u D A a
def zri{c a b f}(n:PT X c f)(o:PSs X a t)(p:PSs X b u):PS X (.If c a b pos) (yhe f t u):=by
 intro B s A H D I h;refine wpAny_If (thn (n B s A H _ I h) λd g q=>?_);let#[j,l,m]:=q
 cases d with
 |true=>exact o B g A j D l m
 |false=>exact p B g A j D l m
end
abbrev TG:=V->St->Hp->(St->Hp->Prop)->Prop
abbrev TGs:=IK V->St->Hp->(St->Hp->Prop)->Prop
def PG(X:Cx)(a:AT)(t:TG):Prop:=
 ∀(C:IK (AJ×Bi)) (s:AK) (B:St) (H:Hp) (v:V) (u:AG) (Q:St->Hp->Prop),Inv X C B H s->RelV v u->t v B H Q ->
  A6 (model X.prog X.w) X.A (assign a X.env u) (λ_ d=>∃b c,Inv X C b c d/\Q b c) X.xe s
def PGs(X:Cx)(ts:IK AT)(t:TGs):Prop:=
 ∀(C:IK (AJ×Bi)) (s:AK) (B:St) (H:Hp) (a:IK V) (b:IK AG) (Q:St->Hp->Prop),Inv X C B H s->Vals a b->t a B H Q ->
  A6 (model X.prog X.w) X.A (assignInOrder ((assignEach ts X.env).map (·.2)) b) (λ_ f=>∃c d,Inv X C c d f/\Q c d) X.xe s
abbrev yeU:=V->V->V->Hp->(Hp->Prop)->Prop
def yfH(X:Cx)(t:yeU):Prop:=
 ∀(C:IK (AJ×Bi)) (s:AK) (B:St) (H:Hp) (o i v:V) (a b u:AG) (Q:Hp->Prop),Inv X C B H s->RelV o a->RelV i b->RelV v u->t o i v H Q ->
  A6 (model X.prog X.w) X.A (setItem a b u) (λ_ d=>∃c,Inv X C B c d/\Q c) X.xe s
abbrev TIp:=V->V->Hp->VK->Prop
def PIp(X:Cx)(a:D5)(t:TIp):Prop:=
 ∀(C:IK (AJ×Bi)) (s:AK) (B:St) (H:Hp) (x y:V) (v u:AG) (Q:VK),Inv X C B H s->RelV x v->RelV y u->t x y H Q ->
  A6 (model X.prog X.w) X.A (inplaceOp a v u) (EP X C B Q) X.xe s
section
variable {X:Cx}{pos:CB}
def ycf(i:IL):TG:=λv B H Q=>Q (B.set i (AA v)) H
def zjC{i:IL}{x}(a:X.N.Nodup)(b:X.N[i]?=AA x)(c:Loc X.env.scope x)(hf:X.fn x=AC \/ X.env.scope.names.lookup x=AA .local:=by first|exact .inl rfl|exact .inr rfl|assumption):PG X (.Name x pos) (ycf i):=by intro C s B H v u Q I r h;exact GQ (zbd I a b c r (λf d=>#[_,H,d,h]) hf)
def yhL:TGs:=λa B H Q=>a=[]/\Q B H
def yer(t:TG)(u:TGs):TGs:=λa B H Q=>∃v r,a=v::r/\t v B H λb c=>u r b c Q
def zsi:PGs X [] yhL:=by
 intro C s B H a b Q I r h;let#[e,h]:=h;subst e
 cases r
 exact GR #[B,H,I,h]
def zkV{e es t u}(a:PG X e t)(b:PGs X es u)
  (c:(assignEach (e::es) X.env).map (·.2)=assign e X.env::(assignEach es X.env).map (·.2):=by rfl):PGs X (e::es) (yer t u):=by
 intro C s B H p q Q I r h;let#[v,w,d,h]:=h;subst d
 cases r with
 |cons r f=>
  rw[c];refine Dv (thn (a C s B H _ _ _ I r h) λ_ g j=>?_);let#[l,m,n,o]:=j;exact b C g l m _ _ Q n f o
def ygP(K:AF)(n:IL)(t:TGs):TG:=λv B H Q=>∃a b,v=.ref a/\SqT K H a b/\b.length=n/\t b B H Q
def zqz{es}{k:IL}{t}{n:IL}(g:X.calm=AC)(h:PGs X es t)
  (j:(assignEach es X.env).length=n:=by rfl) (c:(assignEach es X.env).findIdx? (·.1)=none:=by rfl):PG X (.Tuple es k pos) (ygP X.K n t):=by
 intro C s B H v u Q I r d;let#[a,l,m,p,q,d]:=d;subst m
 cases r
 let#[w,f,x,D]:=I.tuple p;refine assign_Tuple_tuple (I.ok.hd g) x (by simp[j,<-q,f.length]) c λy z=>?_;have A:Inv X C B H {s with heap:=y}:=I.kept (t':=s.toks) λb o e=>z b o (Am (AY e)) e;exact h C _ B H l _ Q A (by simpa using f) d
def yfF(a ti:TE)(t:yeU):TG:=λv B H Q=>a B H λo b=>ti B b λi c=>t o i v c λd=>Q B d
def zmd{o i d ti t}(f:PE X o d)(g:PE X i ti)(j:yfH X t)
  (l:∀v,assign (.Subscript o i pos) X.env v=(do
   let a <-holding [v] (eval o X.env)
   let b <-holding [v,a] (eval i X.env)
   standAt pos
   holding [v,a,b] (setItem a b v)
   release [v,a,b] []):=by intro _;rfl):PG X (.Subscript o i pos) (yfF d ti t):=by intro C s B H v u Q I r h;rw[l];refine AI (D1 (thn (f C s B H _ I h) λa m c=>?_));let#[x,n,p,q,w]:=c;refine AI (D1 (thn (g C m B n _ p w) λb z c=>?_));let#[y,A,D,E,G]:=c;refine AI (D3 (AI (D1 (thn (j C z B A x y v a b u _ D q E r G) λ_ N c=>?_))));let#[J,L,M]:=c;exact wpAny_release #[B,J,L,M]
def yeQ(a:TE)(g:TG):TS:=λD B H=>a B H λx b=>g x B b D.nx
def zl4{a e b g}(c:PE X e b)(d:PG X a g)(f:swapsWithSole [a] e pos.line X.env=pure false:=by rfl)(j:swappedStores [a] e X.env=pure none:=by rfl)
  (l:(assignEach [a] X.env).map (·.2)=[assign a X.env]:=by rfl):PS X (.Assign [a] e pos) (yeQ b g):=by intro C s B H D I h;refine wpAny_Assign_stores (thn (c C s B H _ I h) λv m n=>?_) f j;let#[x,o,p,r,t]:=n;rw[l];exact thn (d C m B o x v _ p r t) λ_ u q=>q
def zmq{i:IL}{x e b a}(c:X.N.Nodup)(d:X.N[i]?=AA x)(f:Loc X.env.scope x)(g:PE X e b)(j:swapsWith e (AA (.Name x a)) pos.line X.env=pure false:=by rfl)(hf:X.fn x=AC \/ X.env.scope.names.lookup x=AA .local:=by first|exact .inl rfl|exact .inr rfl|assumption):
  PS X (.Assign [.Name x a] e pos) (yeQ b (ycf i)):=by intro C s B H D I h;refine wpAny_Assign_Name (thn (g C s B H _ I h) λv r l=>?_) j;let#[y,m,n,o,p]:=l;exact zbd n c d f o (λt q=>#[_,m,q,p]) hf
def yf2(i j:IL)(a:TA):TS:=λD B H=>a B H λb c=>∃v w,b=[v,w]/\D.nx ((B.set i (AA v)).set j (AA w)) c
def zpc{i j:IL}{x y}{a b:AT}{A l m pt n k2 c}(N:X.calm=AC)(E:X.N.Nodup)(O:X.N[i]?=AA x)(Q:X.N[j]?=AA y)(r:i≠j)
  (G:X.env.scope.names.lookup x=AA .local) (J:X.env.scope.names.lookup y=AA .local) (U:PA X [a,b] A)
  (Y:swappedStores [.Tuple [.Name x l,.Name y m] n pt] (.Tuple [a,b] k2 c) X.env=pure (AA [x,y]))
  (Z:swapsWithSole [.Tuple [.Name x l,.Name y m] n pt] (.Tuple [a,b] k2 c) pos.line X.env=pure false:=by rfl):
  PS X (.Assign [.Tuple [.Name x l,.Name y m] n pt] (.Tuple [a,b] k2 c) pos) (yf2 i j A):=by
 intro C s B H D I h;rw[exec_Assign_arm];refine AI (D3 ?_);rw[Z];refine AI (AV ?_);rw[IS ⋯];refine AI (Tuple_ (thn (U _ C s B H _ I h) λus d kq=>?_));let#[vs,L,I1,r1,t]:=kq;let#[v,w,e1,t]:=t;subst e1;obtain⟨f,g,rfl,rv,u⟩:∃f g,us=[f,g]/\RelV v f/\RelV w g:=by
  cases r1 with
  |cons p q=>
   cases q with
   |cons p' q'=>
    cases q'
    exact#[_,_,rfl,p,p']
 refine Be ?_ (by show 2<=sizeLine;decide);have I2:Inv X C B L {d with heap:=d.heap.push {cls:=.type "tuple",data:=.seq [f,g].toArray} }:=I1.kept (t':=d.toks) λb o e=>AR _ e;rw[Y];refine AI (AV ?_);show A6 (model X.prog X.w) X.A (do rule "assign.swapped-stores";let items <-unpackItems (.ref d.heap.objs.size) 2 AD;assignInOrder [λv=>bindName X.env y v,λv=>bindName X.env x v] items.reverse;pure He) _ _ _;refine AI (FA (AI (unpackItems_tuple (items:=(IK.toArray [f,g])) (I.ok.hd N) (Fc d.heap _) λh' z=>?_)));have I3:=I2.kept (h':=h') (t':=d.toks) λb o e=>z b o (Am (AY e)) e;show A6 _ _ (assignInOrder [λv=>bindName X.env y v,λv=>bindName X.env x v] [g,f] >>= λ_=>pure He) _ _ _;refine AI (Dv (F0 (zbd I3 E Q (.inl J) u (λs2 I4=>?_) (.inr J))));refine Dv (F0 (zbd I4 E O (.inl G) rv (λs3 M=>GR (AV ?_)) (.inr G)));rw[HS _ _ (Ax r)]at M;exact#[_,L,M,t]
def yho(i:IL)(a:TE)(ti:TIp):TS:=λD B H=>∃x,B[i]?=AA (AA x)/\a B H λy b=>ti x y b λz c=>D.nx (B.set i (AA z)) c
def zlR{i:IL}{x e q j ti d}(A:X.N.Nodup)(t:X.N[i]?=AA x)(n:Loc X.env.scope x)(E:PE X e q)(G:PIp X j ti)(hf:X.fn x=AC \/ X.env.scope.names.lookup x=AA .local:=by first|exact .inl rfl|exact .inr rfl|assumption):
  PS X (.AugAssign (.Name x d) j e pos) (yho i q ti):=by
 intro C s B H D I h;let#[v,J,h]:=h;let#[m,L,M]:=I.loc;have o:Vis X.env.scope x:=by rcases n with k|k;exact .inl k;exact .inr (.inl k)
 let#[u,r,l]:=M i x v t J o;refine wpAny_AugAssign_Name ?_;have go:A6 (model X.prog X.w) X.A (eval e X.env) (λw f=>A6 (model X.prog X.w) X.A (inplaceOp j u w) (λr g=>A6 (model X.prog X.w) X.A (storeName X.env x r) (λ_=>SP X C D .next) X.xe g) X.xe f) X.xe s:=by refine thn (E C s B H _ I h) λw N p=>?_;let#[y,O,Q,U,Y]:=p;refine thn (G C N B O v y u w _ Q r U Y) λz s2 p=>?_;let#[zv,Z,I2,r2,q2]:=p;exact zbd I2 A t n r2 (λs3 I3=>#[_,Z,I3,q2]) hf
 rcases l with⟨a,hm⟩|⟨a,c,hc,b⟩
 .exact FZ I.ok.kind a L hm go
 .rcases a with a|a
  .exact Fi I.ok.kind a hc b go
  .rcases n with k|k
   .have:X.env.scope.names.lookup x=AA .free:=a;rw[k]at this;cases this
   .have:X.env.scope.names.lookup x=AA .free:=a;rw[k]at this;cases this
def ipI(f:IM->IM->IM):TIp:=λx y H Q=>∃i j,x=.int i/\y=.int j/\Q (.int (f i j)) H
def zpM:PIp X .Add (ipI λi j=>i+j):=by intro C s B H x y v u Q I a b h;let#[i,j,c,d,q]:=h;subst c;subst d;let#[t,rfl]:=a;let#[f,rfl]:=b;exact Gx #[.int _,H,I.tok _,#[_,rfl],q]
end
section
variable {X:Cx}{pos:CB}
def ydA(c:TT)(tb:TS):TS:=λD B H=>∃W:IL->St->Hp->Prop,(∃m,W m B H)/\∀m B H,W m B H ->
 c B H λb a=>if b=AC then ∃N:St->Hp->Prop,(∀d f,N d f->∃g,g < m/\W g d f)/\tb {D with nx:=N,ct:=N,bk:=D.nx} B a else D.nx B a
def zkR{c a w tb}(x:El (model X.prog X.w) X.A X.env X.xe)(L:PT X c w)(M:PSs X a tb):PS X (.While c a [] pos) (ydA w tb):=by
 intro C s B H D I h;let#[W,#[O,Q],d]:=h;refine wpAny_While (codeAny_whileLoop (λn U=>∃y z,Inv X C y z U/\W n y z) ?_ O #[B,H,I,Q])
 rintro n Y ⟨l,A,Z,w1⟩
 refine CK x (thn (L C Y l A _ Z (d n l A w1)) λb s2 kq=>?_);let#[E,G,m]:=kq
 cases b with
 |true=>
  let#[N,J,m]:=m;rw[IR rfl];refine CK x (thn (M C s2 l E _ G m) λf s3 o=>?_)
  cases f with
  |next=>
   let#[g,j,p,q]:=o;let#[r,t,u]:=J g j q;exact#[r,t,g,j,p,u]
  |cont=>
   let#[g,j,p,q]:=o;let#[r,t,u]:=J g j q;exact#[r,t,g,j,p,u]
  |brk=>exact o
  |ret v=>exact o
 |false=>
  rw[IS AN];exact DB #[l,E,G,m]
end
structure It where
 go:IL->Hp->Prop
 yld:IL->Hp->V->Hp->Prop
 stop:IL->Hp->Prop
def ybi(X:Cx)(A:IK (AJ×Bi))(H:Hp)(b:AJ):Prop:=
 H b=AD/\b≠X.env.locals/\b∉X.fs/\(b∈X.ex \/ X.s₀.heap.objs.size<=b)/\(∀x c,X.env.cells.lookup x=AA c->c≠b)/\∀p∈X.pn++A,p.1≠b
theorem Inv.fpOk{X:Cx}{B:IK (AJ×Bi)}{A:St}{H d:Hp}{s:AK}{b:AJ}(I:Inv X B A H s)(a:s.heap.objs.size<=b)(f:d b=AD):ybi X B d b:=by
 refine#[f,FD (A4 I.lt a),I.nofs a,.inr (As I.sz a),λx c e z=>?_,λp g z=>?_]
 .let#[v,q]:=I.cell x c e;exact IU (A4 q.lt (by rw[z];exact a)) (Cv _)
 .exact IU (A4 (AY (I.pin p g).1) (by rw[z];exact a)) (Cv _)
structure Turn(P:Aa)(w:Ai)(K:AF)(tg:AT)(J:It)(fp:IK AJ)(it:AJ)(tn:IL->Au->Prop):Prop where
 mem:it∈fp
 obj:∀i h,tn i h->∀b∈fp,∃o,h.get? b=AA o/\∀v,o.data ≠ .cell v
 keep:∀i h h',tn i h->(∀b∈fp,∀o,h.get? b=AA o->h'.get? b=AA o)->tn i h'
 item:∀(X:Cx),X.prog=P->X.w=w->X.K=K->X.calm=AC->∀(i:IL) (C:IK (AJ×Bi)) (s:AK) (B:St) (H:Hp) (E:AG->AK->Prop),Inv X C B H s->(∀b∈fp,ybi X C H b)->tn i s.heap->J.go i H ->
  A6 (model P w) X.A (pyNext (.ref it)) (λr s1=>∃u,r=AA u /\
   A6 (model P w) X.A (letOwnedTupleGo tg (.ref it) u) (λ_ s2=>∃x H',Inv X C B H' s2/\RelV x u/\J.yld i H x H'/\tn (i+1) s2.heap/\∀b∈fp,H' b=AD) E s1) E s
 done:∀(X:Cx),X.prog=P->X.w=w->X.K=K->X.calm=AC->∀(i:IL) (C:IK (AJ×Bi)) (s:AK) (B:St) (H:Hp) (E:AG->AK->Prop),Inv X C B H s->(∀b∈fp,ybi X C H b)->tn i s.heap->J.stop i H ->
  A6 (model P w) X.A (pyNext (.ref it)) (λr s1=>r=AD/\Inv X C B H s1) E s
 self:∀(A:Ak) (i:IL) (s:AK) (Q:AG->AK->Prop) (E:AG->AK->Prop),tn i s.heap->Q (.ref it) s->A6 (model P w) A (pyIter (.ref it)) Q E s
abbrev TI:=St->Hp->(It->Hp->Prop)->Prop
def PIE(X:Cx)(B:IK (AJ×Bi))(A:St)(l:AT)(R:It->Hp->Prop)(a:AG)(d:AK):Prop:=
 ∃(f:AJ) (g:IK AJ) (j:IL->Au->Prop) (J:It) (c:Hp),a=.ref f/\Inv X B A c d/\Turn X.prog X.w X.K l J g f j/\j 0 d.heap/\(∀b∈g,ybi X B c b)/\R J c
def PI(X:Cx)(b a:AT)(c:TI):Prop:=
 ∀(C:IK (AJ×Bi)) (s:AK) (B:St) (H:Hp) (R:It->Hp->Prop),Inv X C B H s->c B H R ->
  A6 (model X.prog X.w) X.A (eval a X.env) (λv d=>A6 (model X.prog X.w) X.A (pyIter v) (PIE X C B b R) X.xe d) X.xe s
def zmU{M A E}{s:AK}{b}{c:AJ}{u o n vs}{Q:Ik->AK->Prop}(d:s.heap.get? c=AA o)(f:o.cls=.type n)(g:o.data=.fields vs)
  (j:["enumerate","zip","dict_itemiterator","dict_reverseitemiterator","odict_iterator","itertools.zip_longest","itertools.pairwise"].contains n=AB) (a:Q Ik.unit s):A6 M A (letOwnedTupleGo b (.ref c) u) Q E s:=by
 unfold letOwnedTupleGo
 cases b<;>first
  |exact AV a
  | (cases u<;>first
    |exact AV a
    | (refine AI (wpAny_load d ?_)
       rw[f,g];show A6 M A (if (["enumerate","zip","dict_itemiterator","dict_reverseitemiterator","odict_iterator","itertools.zip_longest","itertools.pairwise"].contains n&&vs[0]? == AA (rawInt _))=AC then _ else _) Q E s;rw[IS (by intro h;rw[j,HD]at h;cases h)];exact AV a))
def Itl(K:AF)(a:AJ):It:=
 #[λi H=>∃b x,SqL K H a b/\b[i]?=AA x,λi H x c=>c=H/\∀b,SqL K H a b->b[i]?=AA x,λi H=>∃b,SqL K H a b/\b.length<=i]
def Itt(K:AF)(a:AJ):It:=
 #[λi H=>∃b x,SqT K H a b/\b[i]?=AA x,λi H x c=>c=H/\∀b,SqT K H a b->b[i]?=AA x,λi H=>∃b,SqT K H a b/\b.length<=i]
def Itr(lo:IM)(n:IL):It:=#[λi _=>i<n,λi H x a=>a=H/\x=.int (lo+i),λi _=>n<=i]
def ziQ{P w K Q}(a f:AJ):Turn P w K Q (Itl K a) [f] f (λi h=>h.IsListIter f a i) where
 mem:=by simp
 obj:=λi h st b g=>by
  have e:b=f:=by simpa using g
  subst e;let#[o,e,c,d]:=st;exact#[o,e,λv z=>by rw[d]at z;cases z]
 keep:=λi h l st k=>st.at λo e=>k f (by simp) o e
 item:=by intro X n q r O i B s A H E I hf st t;subst n q r;let#[U,x,m,y]:=t;let#[C,D,p,Y]:=I.list m;let#[u,Z,ru]:=D.get y;let#[G,J,f2,L,M,N]:=hf f (by simp);refine wpAny_pyNext_list_item st p.isList (x:=u) (by simpa using Z) λl j sb=>?_;have I1:Inv X B A H {s with heap:=l}:=I.turned (t':=s.toks) (λb o g e=>(sb.2 b g).trans e) G J L M N;let#[o,e,c,d]:=id j;exact#[u,rfl,zmU (s:={s with heap:=l}) e c d ⋯ #[x,H,I1,ru,#[rfl,λys hy=>by rw[I.list_inj hy m];exact y],j,λb g=>(hf b g).1]]
 done:=by intro X n q r O i B s A H E I hf st t;subst n q r;let#[U,m,y]:=t;let#[C,D,p,Y]:=I.list m;let#[G,J,f2,L,M,N]:=hf f (by simp);have hl:=D.length;exact wpAny_pyNext_list_end (I.ok.hd O) st p.isList (by simp;lia) λl eb=>#[rfl,I.turned (t':=s.toks) (λb o g e=>eb b o g e) G J L M N]
 self:=λ_ _ _ _ _ st h=>wpAny_pyIter_listiter st h
def zhN{P w K Q}(a f:AJ):Turn P w K Q (Itt K a) [f] f (λi h=>h.IsTupleIter f a i) where
 mem:=by simp
 obj:=λi h st b g=>by
  have e:b=f:=by simpa using g
  subst e;let#[o,e,c,d]:=st;exact#[o,e,λv z=>by rw[d]at z;cases z]
 keep:=λi h m st k=>st.at λo e=>k f (by simp) o e
 item:=by intro X q r t O i B s A H E I hf st y;subst q r t;let#[U,x,n,C]:=y;let#[j,D,p,Y]:=I.tuple n;let#[u,Z,ru]:=D.get C;let#[G,J,f2,L,M,N]:=hf f (by simp);refine wpAny_pyNext_tuple_item st (show s.heap.IsTuple a j.toArray from p) (x:=u) (by simpa using Z) λm l sb=>?_;have I1:Inv X B A H {s with heap:=m}:=I.turned (t':=s.toks) (λb o g e=>(sb.2 b g).trans e) G J L M N;let#[o,e,c,d]:=id l;exact#[u,rfl,zmU (s:={s with heap:=m}) e c d ⋯ #[x,H,I1,ru,#[rfl,λys hy=>by rw[I.tuple_inj hy n];exact C],l,λb g=>(hf b g).1]]
 done:=by intro X q r t O i B s A H E I hf st y;subst q r t;let#[U,n,C]:=y;let#[j,D,p,Y]:=I.tuple n;let#[G,J,f2,L,M,N]:=hf f (by simp);have hl:=D.length;exact wpAny_pyNext_tuple_end (I.ok.hd O) st (show s.heap.IsTuple a j.toArray from p) (by simp;lia) λm eb=>#[rfl,I.turned (t':=s.toks) (λb o g e=>eb b o g e) G J L M N]
 self:=λ_ _ _ _ _ st h=>wpAny_pyIter_tupleiter st h
def zic{P w K D}(a:AJ)(lo:IM)(n:IL):Turn P w K D (Itr lo n) [a] a (λi h=>IsRangeIter h a (lo+(i:IL)*1) ((n:IM)-(i:IL)) 1) where
 mem:=by simp
 obj:=λi h st b c=>by
  have e:b=a:=by simpa using c
  subst e;exact#[_,st,λv z=>by
   have G:Data.fields _=Data.cell v:=z
   cases G]
 keep:=λi h f st k=>k a (by simp) _ st
 item:=by intro X g j l m i B s A H E I hf st p;subst g j l;let#[q,r,J,u,x,y]:=hf a (by simp);have W:=Walks.range (prog:=X.prog) (w:=X.w) (I.ok.hd m) a lo 1 n;refine W.item i s _ _ p st λv f C L d kk=>?_;let#[t,rfl]:=L;have M:Inv X B A H {s with heap:=f,toks:=C}:=I.turned (λb o c e=>kk b o (by simpa using c) e) q r u x y;refine#[_,rfl,zmU (s:={s with heap:=f,toks:=C}) (n:="range_iterator") d rfl rfl ⋯ #[.int (lo+i),H,M,#[t,?_],#[rfl,rfl],d,λb c=>(hf b c).1]];rw[Cf]
 done:=by intro X g j l m i B s A H E I hf st p;subst g j l;let#[q,r,J,u,x,y]:=hf a (by simp);exact wpAny_pyNext_range_end (I.ok.hd m) st (by have:n<=i:=p;lia) λf N=>#[rfl,I.turned (t':=s.toks) (λb o c e=>N b o c e) q r u x y]
 self:=λ_ _ _ _ _ st h=>wpAny_pyIter_rangeiter st h
section
variable {X:Cx}{tg:AT}
def zlB{C B H s}{R:It->Hp->Prop}{E}{lo a:IM}{t u v}{c:IL}(I:Inv X C B H s)(f:-(2^62)<=lo)(g:lo<2^62)(j:-(2^62)<=a)(l:a<2^62)
  (q:R (Itr lo (a-lo).toNat) H):A6 (model X.prog X.w) X.A (pyIter (.ref s.heap.objs.size)) (PIE X C B tg R) E {s with heap:=s.heap.push {cls:=.type "range",data:=.fields (IK.toArray [.int lo t,.int a u,.int 1 v])},toks:=c}:=by
 refine wpAny_pyIter_range (IsRange.new ..) (small_one f g j l) ?_;have d:Inv X C B H {s with heap:=s.heap.push {cls:=.type "range",data:=.fields (IK.toArray [.int lo t,.int a u,.int 1 v])},toks:=c}:=I.kept λb o e=>AR _ e;refine#[(s.heap.push {cls:=.type "range",data:=.fields (IK.toArray [.int lo t,.int a u,.int 1 v])}).objs.size,[(s.heap.push {cls:=.type "range",data:=.fields (IK.toArray [.int lo t,.int a u,.int 1 v])}).objs.size],_,_,H,rfl,
  d.kept (t':=c) λb o e=>AR _ e,zic _ lo (a-lo).toNat,?_,λb m=>?_,q]
 .have n:lo+((0:IL):IM)*1=lo:=by simp
  have p:(((a-lo).toNat:IL):IM)-((0:IL):IM)=Hf lo a 1:=by rw[rangeSize_one];split<;>lia
  show IsRangeIter _ _ (lo+((0:IL):IM)*1) ((((a-lo).toNat:IL):IM)-((0:IL):IM)) 1;rw[n,p];exact A8 _ rfl
 .have e:b=(s.heap.push {cls:=.type "range",data:=.fields (IK.toArray [.int lo t,.int a u,.int 1 v])}).objs.size:=by simpa using m
  subst e;exact d.fpOk (AQ _) (d.hok.fresh (AQ _))
def ye7(a:TA):TI:=λB H R=>a B H λb c=>∃j:IM,b=[.int j]/\-(2^62)<=j/\j<2^62/\R (Itr 0 j.toNat) c
def ziN{a:AT}{c}{p pos:CB}(d:Gl X "range")(f:X.mg "range"=AD)(g:PA X [a] c)(l:starEach [a] X.env=[(AB,eval a X.env)]:=by rfl):PI X tg (.Call (.Name "range" p) [a] [] pos) (ye7 c):=by
 intro C s B H R I h;refine Call_ (zeC I d f boot_range (CA (thn (g pos C s B H _ I h) λx y m=>?_) l rfl));let#[z,A,n,o,b]:=m;let#[j,e,b,u,q]:=b;subst e
 cases o with
 |cons r w=>
  cases w
  let#[t,rfl]:=r;exact call_range_1 (zlB n () () b u (by simpa using q))
def yhR(d:TI)(g:TG)(tb:TS):TS:=λD B H=>d B H λJ f=>∃W:IL->IL->St->Hp->Prop,(∃m,W 0 m B f)/\∀i m B H,W i m B H ->
 (J.stop i H/\D.nx B H) \/ (J.go i H/\∃N:St->Hp->Prop,(∀b a,N b a->∃c,c < m/\W (i+1) c b a)/\∀x a,J.yld i H x a->g x B a λj l=>tb {D with nx:=N,ct:=N,bk:=D.nx} j l)
def ya8(a:IK AJ)(h:Au):IK (AJ×Bi):=a.filterMap λb=>(h.get? b).map λo=>(b,o)
def zce{a:IK AJ}{h:Au}{b:AJ}{o}(c:b∈a)(e:h.get? b=AA o):(b,o)∈ya8 a h:=Dw.mpr #[b,c,by rw[e];rfl]
def zjO{a h}{p:AJ×Bi}(c:p∈ya8 a h):p.1∈a/\h.get? p.1=AA p.2:=by
 let#[b,d,e]:=Dw.mp c
 cases q:h.get? b with
 |none=>rw[q]at e;cases e
 |some o=>
  rw[q]at e;have f:(b,o)=p:=AX e;subst f;exact#[d,q]
theorem Inv.pinned{C:IK (AJ×Bi)}{B:St}{H:Hp}{s:AK}{a:IK AJ}(I:Inv X C B H s)(hf:∀b∈a,ybi X C H b)(g:∀b∈a,∃o,s.heap.get? b=AA o/\∀v,o.data ≠ .cell v):Inv X (C++ya8 a s.heap) B H s:=
 I.pins_of λp j=>(BG.mp j).elim (λz=>I.pin p (Ap _ z)) λz=>by let#[c,e]:=zjO z;let#[l,m,n,_]:=hf p.1 c;let#[o,f,d]:=g p.1 c;rw[e]at f;cases f;exact#[e,l,m,n,d]
theorem Inv.unpinned{C pl:IK (AJ×Bi)}{B:St}{H:Hp}{s:AK}(I:Inv X (C++pl) B H s):Inv X C B H s:=I.pins_of λp a=>I.pin p (Ap _ (Cd _ a))
def zoE{a t wi g tb pos}(A:El (model X.prog X.w) X.A X.env X.xe)(hc:X.calm=AC)(hi:PI X tg a wi)(hg:PG X tg g)(c:PSs X t tb)
  (hs:∀x,foldedSetIterable a X.env x=pure x:=by intro _;rfl):PS X (.For tg a t [] pos) (yhR wi g tb):=by
 intro C s B H D I h;refine wpAny_For (thn (hi C s B H _ I h) λv s1 h1=>thn h1 λitv s2 h2=>?_) hs;let#[it,E,tn,J,H2,e,I2,T,Z,f2,W,#[m0,w0],G]:=h2;subst e;have j:∀{q:Hp},(∀b∈E,q b=AD)->∀b∈E,ybi X C q b:=λhn b c=>#[hn b c,(f2 b c).2];refine codeAny_forLoop_any (λn s'=>∃i L q,Inv X C L q s'/\tn i s'.heap/\(∀b∈E,q b=AD)/\W i n L q) ?_ m0 #[0,B,H2,I2,Z,λb c=>(f2 b c).1,w0]
 rintro n s3 ⟨i,M,Y,I3,O,Q,w3⟩
 rcases G i n M Y w3 with⟨stop,qn⟩|⟨go,N,hN,step⟩
 .refine CK A (thn (T.done X rfl rfl rfl hc i C s3 M Y X.xe I3 (j Q) O stop) λr s4 y=>?_);let#[hr,I4]:=y;subst hr;exact DB #[M,Y,I4,qn]
 .refine CK A (thn (T.item X rfl rfl rfl hc i C s3 M Y X.xe I3 (j Q) O go) λr s4 y=>?_);let#[u,hr,h4]:=y;subst hr;refine CK A (thn h4 λ_ s5 y=>?_);let#[x,H5,I5,r5,y5,z,fr5]:=y;have I5':=I5.pinned (j fr5) (T.obj _ _ z);refine CK A (thn (hg _ s5 M H5 x u _ I5' r5 (step x H5 y5)) λ_ s6 y=>?_);let#[B6,H6,I6,q6]:=y;refine CK A (thn (c _ s6 B6 H6 _ I6 q6) λf s7 w=>?_);have again:∀{B7:St} {l:Hp},Inv X (C++ya8 E s5.heap) B7 l s7->N B7 l->∃m,m<n/\∃i L q,Inv X C L q s7/\tn i s7.heap/\(∀b∈E,q b=AD)/\W i m L q:=λ{B7 l} p U=>by let#[m',hm,w7]:=hN B7 l U;refine#[m',hm,i+1,B7,l,p.unpinned,T.keep _ _ _ z λb c o e=>(p.pin (b,o) (Ap _ (Ap _ (zce c e)))).1,λb c=>?_,w7];let#[o,e,d]:=T.obj _ _ z b c;exact(p.pin (b,o) (Ap _ (Ap _ (zce c e)))).2.1
  cases f with
  |next=>let#[B7,l,p,U]:=w;exact again p U
  |cont=>let#[B7,l,p,U]:=w;exact again p U
  |brk=>let#[B7,l,p,w]:=w;exact#[B7,l,p.unpinned,w]
  |ret v=>let#[x7,B7,l,p,r7,w]:=w;exact#[x7,B7,l,p.unpinned,r7,w]
end
abbrev R2:=V->V->Hp->VK->Prop
def OpR(X:Cx)(f:AG->AG->Hd AG)(r:R2):Prop:=
 ∀(C:IK (AJ×Bi)) (s:AK) (B:St) (H:Hp) (x y:V) (v u:AG) (Q:VK),Inv X C B H s->RelV x v->RelV y u->r x y H Q ->
  A6 (model X.prog X.w) X.A (f v u) (EP X C B Q) X.xe s
def UnR(X:Cx)(f:AG->Hd AG)(r:V->Hp->VK->Prop):Prop:=
 ∀(C:IK (AJ×Bi)) (s:AK) (B:St) (H:Hp) (x:V) (v:AG) (Q:VK),Inv X C B H s->RelV x v->r x H Q ->
  A6 (model X.prog X.w) X.A (f v) (EP X C B Q) X.xe s
def yU(X:Cx)(f:AG)(r:IK V->Hp->VK->Prop):Prop:=
 ∀(C:IK (AJ×Bi)) (s:AK) (B:St) (H:Hp) (a:IK V) (b:IK AG) (Q:VK),Inv X C B H s->Vals a b->r a H Q ->
  A6 (model X.prog X.w) X.A (call f b) (EP X C B Q) X.xe s
def ygG(X:Cx)(r:V->Hp->(IQ->Hp->Prop)->Prop):Prop:=
 ∀(C:IK (AJ×Bi)) (s:AK) (B:St) (H:Hp) (x:V) (v:AG) (Q:IQ->Hp->Prop),Inv X C B H s->RelV x v->r x H Q ->
  A6 (model X.prog X.w) X.A (truthy v) (TP X C B Q) X.xe s
def tOp(r:R2)(a tb:TE):TE:=λA H Q=>a A H λx b=>tb A b λy c=>r x y c Q
def tUn(r:V->Hp->VK->Prop)(a:TE):TE:=λA H Q=>a A H λx b=>r x b Q
def rI(C:IM->IM->Prop)(g:IM->IM->V):R2:=λx y H Q=>∃i j,x=.int i/\y=.int j/\C i j/\Q (g i j) H
def rI0(g:IM->IM->V):R2:=λx y H Q=>∃i j,x=.int i/\y=.int j/\Q (g i j) H
def rU(g:IM->V):V->Hp->VK->Prop:=λx H Q=>∃i,x=.int i/\Q (g i) H
section
variable {X:Cx}{a b c:AT}{ta tb tc:TE}{pos:CB}
def zrT(n:PE X a ta)(o:PE X b tb){D s B H}{R:V->V->Hp->Prop}(I:Inv X D B H s)
  (h:ta B H λx l=>tb B l λy c=>R x y c) {Q} {f:AG->AG->Hd AG}
  (hf:∀v u j x y c,Inv X D B c j->RelV x v->RelV y u->R x y c->A6 (model X.prog X.w) X.A (f v u) Q X.xe j):
  A6 (model X.prog X.w) X.A (eval a X.env) (λv d=>A6 (model X.prog X.w) X.A (eval b X.env) (λu g=>A6 (model X.prog X.w) X.A (f v u) Q X.xe g) X.xe d) X.xe s:=by refine thn (n D s B H _ I h) λv p m=>?_;let#[x,l,q,r,t]:=m;refine thn (o D p B l _ q t) λu j m=>?_;let#[y,c,w,z,A]:=m;exact hf v u j x y c w r z A
def zqi{c r}(d:OpR X (binaryOp c) r)(f:PE X a ta)(g:PE X b tb):PE X (.BinOp a c b pos) (tOp r ta tb):=by intro D s B H Q I h;exact wpAny_BinOp (zrT f g I h λv u j x y l m n o q=>d D j B l x y v u Q m n o q)
def zrp{b r}(c:UnR X (unaryOp b) r)(d:PE X a ta):PE X (.UnaryOp b a pos) (tUn r ta):=by intro D s B H Q I h;exact UnaryOp_ (thn (d D s B H _ I h) λv f #[x,g,j,l,m]=>c D f B g x v Q j l m)
theorem opI{f:AG->AG->Hd AG}{C:IM->IM->Prop}{g:IM->IM->IM}
  (rule:∀(i j:IM)t u(s:AK)(Q:AG->AK->Prop)E,C i j->Q (.int (g i j) s.toks) {s with toks:=s.toks+1}->A6 (model X.prog X.w) X.A (f (.int i t) (.int j u)) Q E s):
  OpR X f (rI C λi j=>.int (g i j)):=by intro D s B H x y v u Q I a b h;let#[i,j,rfl,rfl,c,q]:=h;let#[t,rfl]:=a;let#[d,rfl]:=b;exact rule i j t d s _ _ c #[.int (g i j),H,I.tok _,#[_,rfl],q]
def zrK{f:AG->AG->Hd AG}{g:IM->IM->IM}
  (rule:∀(i j:IM)t u(s:AK)(Q:AG->AK->Prop)E,Q (.int (g i j) s.toks) {s with toks:=s.toks+1}->A6 (model X.prog X.w) X.A (f (.int i t) (.int j u)) Q E s):
  OpR X f (rI0 λi j=>.int (g i j)):=by intro D s B H x y v u Q I a b h;let#[i,j,rfl,rfl,q]:=h;let#[t,rfl]:=a;let#[c,rfl]:=b;exact rule i j t c s _ _ #[.int (g i j),H,I.tok _,#[_,rfl],q]
def zrO{f:AG->AG->Hd AG}{g:IM->IM->IQ}
  (rule:∀(i j:IM)t u(s:AK)(Q:AG->AK->Prop)E,Q (.bool (g i j)) s->A6 (model X.prog X.w) X.A (f (.int i t) (.int j u)) Q E s):
  OpR X f (rI0 λi j=>.bl (g i j)):=by intro D s B H x y v u Q I a b h;let#[i,j,rfl,rfl,q]:=h;let#[t,rfl]:=a;let#[c,rfl]:=b;exact rule i j t c s _ _ #[.bl (g i j),H,I,rfl,q]
def yej(i j:IM):Prop:=0<=j/\j<=1000000/\i.natAbs<2^64
def yd0(i j:IM):Prop:=(-(2^64)<i/\i<2^64) \/ (-(2^64)<j/\j<2^64)
theorem yd0.ok{i j:IM}(h:yd0 i j):IntMulOk i j:=by
 rcases h with⟨a,b⟩|⟨a,b⟩
 .exact .of_left (intBits_le_64 a b)
 .exact .of_right (intBits_le_64 a b)
def zh9(k:IL):(0:IM)<=2^k:=by rw[two_pow_cast];exact IM.natCast_nonneg _
def zqR:OpR X (binaryOp .Add) (rI0 λi j=>.int (i+j)):=zrK λ_ _ _ _ _ _ _ q=>add_int q
def zpx:OpR X (binaryOp .Sub) (rI0 λi j=>.int (i-j)):=zrK λ_ _ _ _ _ _ _ q=>sub_int q
def zpn:OpR X (binaryOp .Mult) (rI yd0 λi j=>.int (i*j)):=opI λ_ _ _ _ _ _ _ a q=>mul_int q a.ok
def zqM:OpR X (binaryOp .Mod) (rI (λ_ j=>0<j) λi j=>.int (i%j)):=opI λi j _ _ _ _ _ a q=>by have b:(0:IM)<j:=a;exact mod_int' () (by rw[IM.fmod_eq_emod_of_nonneg i ()];exact q)
def zo8:OpR X (binaryOp .Pow) (rI yej λi j=>.int (i^j.toNat)):=opI λ_ _ _ _ _ _ _ a q=>pow_int_small a.1 a.2.1 a.2.2 q
def zoL:OpR X (binaryOp .LShift) (rI yej λi j=>.int (i*2^j.toNat)):=opI λ_ _ _ _ _ _ _ a q=>lshift_int_small a.1 a.2.1 a.2.2 q
def zoM:OpR X (binaryOp .RShift) (rI (λ_ j=>0<=j) λi j=>.int (i/2^j.toNat)):=opI λi j _ _ _ _ _ a q=>
 rshift_int a (by rw[Dx i (zh9 _)];exact q)
def zp9:OpR X (binaryOp .BitAnd) (rI0 λi j=>.int (Ao i j)):=zrK λ_ _ _ _ _ _ _ q=>and_int q
def zro:OpR X (binaryOp .BitOr) (rI0 λi j=>.int (BX i j)):=zrK λ_ _ _ _ _ _ _ q=>or_int q
def zoJ:OpR X (binaryOp .BitXor) (rI0 λi j=>.int (B5 i j)):=zrK λ_ _ _ _ _ _ _ q=>xor_int q
theorem unI{f:AG->Hd AG}{g:IM->IM}
  (rule:∀(i:IM)t(s:AK)(Q:AG->AK->Prop)E,Q (.int (g i) s.toks) {s with toks:=s.toks+1}->A6 (model X.prog X.w) X.A (f (.int i t)) Q E s):
  UnR X f (rU λi=>.int (g i)):=by intro D s B H x v Q I a h;let#[i,rfl,q]:=h;let#[t,rfl]:=a;exact rule i t s _ _ #[.int (g i),H,I.tok _,#[_,rfl],q]
def zpp:UnR X (unaryOp .USub) (rU λi=>.int (-i)):=unI λ_ _ _ _ _ q=>neg_int q
def zju:OpR X (binaryOp .Add) (λx y H Q=>∃i k,x=.int i/\y=.bl k/\Q (.int (i+b2i k)) H):=by
 intro D s B H x y v u Q I a b h;let#[i,k,rfl,rfl,q]:=h;let#[t,rfl]:=a
 cases b
 exact add_int_bool #[.int (i+b2i k),H,I.tok _,#[_,rfl],q]
end
section
variable {X:Cx}{a b c:AT}{ta tb tc:TE}{pos:CB}
def zg7{B A H s}{Q:VK}{k a:IQ}(I:Inv X B A H s)(q:Q (.bl k) H)(e:k=a):EP X B A Q (.bool a) s:=by subst e;exact#[.bl k,H,I,rfl,q]
def zrE:OpR X (compareOp .Lt) (rI0 λi j=>.bl (decide (i<j))):=zrO λ_ _ _ _ _ _ _ q=>lt_int q
def zq8:OpR X (compareOp .LtE) (rI0 λi j=>.bl (decide (i<=j))):=zrO λ_ _ _ _ _ _ _ q=>le_int q
def zrr:OpR X (compareOp .Gt) (rI0 λi j=>.bl (decide (j<i))):=zrO λ_ _ _ _ _ _ _ q=>gt_int q
def zrw:OpR X (compareOp .GtE) (rI0 λi j=>.bl (decide (j<=i))):=zrO λ_ _ _ _ _ _ _ q=>ge_int q
def zjr:OpR X (compareOp .Lt) (λx y H Q=>∃i j,x=.str i/\y=.str j/\Q (.bl (decide (i.cps.toList<j.cps.toList))) H):=by intro B s A H x y v u Q I a b h;let#[i,j,rfl,rfl,q]:=h;let#[t,rfl]:=a;let#[c,rfl]:=b;exact lt_str (zg7 I q rfl)
def zjH:OpR X (compareOp .In) (λx y H Q=>∃i j,x=.str i/\y=.str j/\Q (.bl (!(DC j i 0 j.length 1).isEmpty)) H):=by intro B s A H x y v u Q I a b h;let#[i,j,rfl,rfl,q]:=h;let#[t,rfl]:=a;let#[c,rfl]:=b;exact in_str (zg7 I q rfl)
def zgo:OpR X (compareOp .NotIn) (λx y H Q=>∃i j,x=.str i/\y=.str j/\Q (.bl (!(!(DC j i 0 j.length 1).isEmpty))) H):=by intro B s A H x y v u Q I a b h;let#[i,j,rfl,rfl,q]:=h;let#[t,rfl]:=a;let#[c,rfl]:=b;exact notIn_str (zg7 I q rfl)
def zgw{c r}(d:OpR X (compareOp c) r)(f:PE X a ta)(g:PE X b tb)(j:behindInMarks c b=AB):PE X (.Compare a [c] [b] pos) (tOp r ta tb):=by intro B s A H Q I h;exact wpAny_Compare1 (zrT f g I h λv u l x y m n o p q=>d B l A m x y v u Q n o p q) j
def ydt(t:TE):TT:=λA H Q=>t A H λx a=>∃k,x=.bl k/\Q k a
def zi1{d r}(f:OpR X (compareOp d) r)(g:PE X a ta)(j:PE X b tb)(l:behindInMarks d b=AB):PT X (.Compare a [d] [b] pos) (ydt (tOp r ta tb)):=by
 intro B s A H Q I h;refine wpAny_isTrue_Compare1 (thn (g B s A H _ I h) λv m #[x,n,o,p,q]=>thn (j B m A n _ o q) λu t #[y,w,C,D,E]=>
  thn (f B t A w x y v u _ C p D E) λc N #[z,G,J,L,k,e,M]=>?_) l
 subst e
 cases L
 exact BU #[G,J,M]
def ycz(r b:R2)(ta tb tc:TE):TE:=λA H Q=>ta A H λx c=>tb A c λy d=>r x y d λz a=>∃k,z=.bl k /\
 (if k=AC then tc A a λf g=>b y f g Q else Q (.bl AB) a)
def zlc{g f r l}(q:OpR X (compareOp g) r)(j:OpR X (compareOp f) l)(t:PE X a ta)(w:PE X b tb)(C:PE X c tc)
  (D:lastMarks [g,f] [b,c]=false:=by ac_rfl):PE X (.Compare a [g,f] [b,c] pos) (ycz r l ta tb tc):=by
 intro B s A H Q I h;refine Compare_chain (thn (t B s A H _ I h) λv E #[x,G,J,L,M]=>chain_link (thn (w B E A G _ J M) λu N #[y,O,U,m,Y]=>
  thn (q B N A O x y v u _ U L m Y) λd Z #[z,n,o,r3,k,e,p]=>?_)) D
 subst e
 cases r3
 refine BU ?_
 cases k with
 |false=>exact ite_ff #[.bl AB,n,o,rfl,p]
 |true=>exact ite_tt (chain_last (thn (C B Z A n _ o p) λw' s4 #[z',H4,I4,r4,q4]=>j B s4 A H4 y z' u w' Q I4 m r4 q4))
def zk8{g f r m}(t:OpR X (compareOp g) r)(j:OpR X (compareOp f) m)(w:PE X a ta)(C:PE X b tb)(D:PE X c tc)
  (E:lastMarks [g,f] [b,c]=false:=by ac_rfl):PT X (.Compare a [g,f] [b,c] pos) (ydt (ycz r m ta tb tc)):=by
 intro B s A H Q I h;refine isTrue_chain (thn (w B s A H _ I h) λv G #[x,J,L,M,N]=>test_link (thn (C B G A J _ L N) λu O #[y,U,Y,n,Z]=>
  thn (t B O A U x y v u _ Y M n Z) λd s3 #[z,o,p,r3,k,e,q]=>?_)) E
 subst e
 cases r3
 refine BU ?_
 cases k with
 |false=>
  let#[k',e',q']:=q
  cases e'
  exact ite_ff #[o,p,q']
 |true=>
  refine ite_tt (test_last (thn (D B s3 A o _ p q) λw' s4 l=>?_));let#[z',H4,I4,r4,q4]:=l;refine thn (j B s4 A H4 y z' u w' _ I4 n r4 q4) λd' s5 l=>?_;let#[z2,H5,I5,r5,k2,e2,q5]:=l;subst e2
  cases r5
  exact BU #[H5,I5,q5]
def yeq(K:AF)(x:V)(H:Hp)(k:IQ):Prop:=
 match x with
 |.non=>k=AB
 |.bl b=>k=b
 |.int i=>k=(i != 0)
 |.str y=>y.length<=sizeLine/\k=((y.length:IM) != 0)
 |.byt y=>y.size<=sizeLine/\k=((y.size:IM) != 0)
 |.ref p=>(∃a,SqL K H p a/\k=!a.isEmpty) \/ (∃a,SqT K H p a/\k=!a.isEmpty) \/ ∃c,H p=AA (.dK c)/\k=!c.isEmpty
 |_=>IY
def zhK{R:Type}{a:IK (R×V)}{vs:IK (R×AG)}(r:KV a vs):(!vs.isEmpty)=!a.isEmpty:=by cases r<;>rfl
def zeO{xs a}(r:Vals xs a):(!a.toArray.isEmpty)=!xs.isEmpty:=by cases r<;>simp
def zrI:(sizeLine:IL)<2^63:=by rw[CC];decide
def zqJ:ygG X (λx H Q=>∃k,yeq X.K x H k/\Q k H):=by
 intro B s A H x v Q I g h;let#[k,e,q]:=h;have C:=zrI;have D:sizeLine=16777216:=CC
 cases x with
 |non=>
  cases g
  have a:k=false:=e;subst a;exact truthy_none #[H,I,q]
 |bl b=>
  cases g
  have a:k=b:=e;subst a;exact BU #[H,I,q]
 |int i=>
  let#[t,rfl]:=g;have a:k=(i != 0):=e;subst a;exact PySem.P.truthy_int #[H,I,q]
 |str y=>
  let#[t,rfl]:=g;obtain⟨w,a⟩:y.length<=sizeLine/\k=((y.length:IM) != 0):=e;subst a;exact PySem.P.truthy_str () #[H,I.tok _,q]
 |byt y=>
  let#[t,rfl]:=g;obtain⟨w,a⟩:y.size<=sizeLine/\k=((y.size:IM) != 0):=e;subst a;exact PySem.W.truthy_bytes () #[H,I.tok _,q]
 |ref p=>
  cases g
  have a:(∃f,SqL X.K H p f/\k=!f.isEmpty) \/ (∃f,SqT X.K H p f/\k=!f.isEmpty) \/ ∃c,H p=AA (.dK c)/\k=!c.isEmpty:=e;rcases a with⟨f,j,a⟩|⟨f,j,a⟩|⟨c,j,a⟩
  .subst a;let#[n,r,o,u]:=I.list j;have d:=r.length;exact wpAny_truthy_list o.isList (by erw[AW];lia) #[H,I.tok _,by rw[zeO r];exact q]
  .subst a;let#[n,r,o,u]:=I.tuple j;have d:=r.length;exact truthy_tuple o (by erw[AW];lia) #[H,I.tok _,by rw[zeO r];exact q]
  .subst a;obtain⟨u,z,l,r,m⟩:c.length<=sizeLine/\(p==sysModules)=AB/\∃l,KV c l/\s.heap.DictOf (yP X.prog X.w) p l:=I.hok p _ j;have d:c.length=l.length:=Ec r;exact wpAny_truthy_dict z m () #[H,I.tok _,by rw[zhK r];exact q]
 |_=>exact(show IY from e).elim
def zlK(d:PE X a ta)(f:∀b,isTrue a X.env b=(do let v <-b;standAt a.pos;holding [v] (truthy v))):
  PT X a (λA H Q=>ta A H λx c=>∃k,yeq X.K x c k/\Q k c):=by intro B s A H Q I h;exact isTrue_plain (thn (d B s A H _ I h) λv g #[x,j,l,m,n]=>zqJ B g A j x v Q l m n) (f _)
def zh8:OpR X (binaryOp .Add) (λx y H Q=>∃i j,x=.str i/\y=.str j/\i.length+j.length<=sizeLine/\Q (.str (i++j)) H):=by intro B s A H x y v u Q I a b h;let#[i,j,rfl,rfl,c,q]:=h;let#[t,rfl]:=a;let#[d,rfl]:=b;exact add_str (λd f=>#[.str (i++j),H,I.tok _,#[_,rfl],q]) c
theorem vals1{x:V}{us}(r:Vals [x] us):∃u,us=[u]/\RelV x u:=by
 cases r with
 |cons a b=>cases b;exact#[_,rfl,a]
theorem vals2{x y:V}{us}(r:Vals [x,y] us):∃u a,us=[u,a]/\RelV x u/\RelV y a:=by
 cases r with
 |cons b c=>
  cases c with
  |cons d f=>cases f;exact#[_,_,rfl,b,d]
def zkq:yU X (.builtin "abs") (λa H Q=>∃i,a=[.int i]/\Q (.int (if i<0 then -i else i)) H):=by intro B s A H a b Q I r h;let#[i,rfl,q]:=h;let#[u,rfl,t,rfl]:=vals1 r;exact call_abs_int λu c=>#[.int (if i<0 then -i else i),H,I.tok _,#[_,rfl],q]
def ziW(c:X.calm=AC):yU X (.builtin "max") (λb H Q=>∃i j,b=[.int i,.int j]/\Q (.int (if j > i then j else i)) H):=by
 intro B s A H b d Q I r h;let#[i,j,rfl,q]:=h;let#[u,f,rfl,#[t,rfl],#[g,rfl]]:=vals2 r;refine max_two_ints (I.ok.hd c) λl m k=>#[_,H,I.kept k,?_,q]
 by_cases a:j > i
 .rw[IR a,IR a];exact#[_,rfl]
 .rw[IS a,IS a];exact#[_,rfl]
def zir(c:X.calm=AC):yU X (.builtin "min") (λb H Q=>∃i j,b=[.int i,.int j]/\Q (.int (if j<i then j else i)) H):=by
 intro B s A H b d Q I r h;let#[i,j,rfl,q]:=h;let#[u,f,rfl,#[t,rfl],#[g,rfl]]:=vals2 r;refine min_two_ints (I.ok.hd c) λl m k=>#[_,H,I.kept k,?_,q]
 by_cases a:j<i
 .rw[IR a,IR a];exact#[_,rfl]
 .rw[IS a,IS a];exact#[_,rfl]
def zf0:yU X (.type "int") (λa H Q=>(∃i,a=[.int i]/\Q (.int i) H) \/ ∃k,a=[.bl k]/\Q (.int (if k then 1 else 0)) H):=by
 intro B s A H a c Q I r h;rcases h with⟨i,rfl,q⟩|⟨k,rfl,q⟩
 .let#[u,rfl,t,rfl]:=vals1 r;exact call_int_int #[.int i,H,I,#[_,rfl],q]
 .let#[u,rfl,b]:=vals1 r
  cases b
  exact call_int_bool #[.int (if k then 1 else 0),H,I.tok _,#[_,rfl],q]
end
structure ycM(h:Au)(x dx C:AJ)(mA:AL->Option AG):Prop where
 obj:h.get? x=AA (Bu C dx)
 ns:h.Ns1 dx mA
 ne:dx≠x
def zj1{h:Au}{c d}(n:h.Ns1 c d):∃f,h.get? c=AA f/\∀name,Dy name f=AA (d name):=by
 let#[o,g,w,j,l,m,_,p]:=n;refine#[o,j,λname=>?_];have e:=p name;unfold nsFind findBy at e;rw[<-Ie.find?_toList]at e;unfold Dy;rw[l];dsimp only;split
 .rename_i y q;rw[q]at e;exact Ic AA e
 .rename_i q;rw[q]at e;have a:g.toList.any (·.refKey)=false:=by rw[GS];intro y r;let#[z,t,b]:=m y (Ie.mem_toList_iff.mp r);simp[DictEntry.refKey,b]
  have u:¬g.toList.any (·.refKey)=true:=by rw[a];exact AN
  rw[IS u];exact Ic AA e
theorem ycM.look{h:Au}{x b C:AJ}{c:AL->Option AG}(I:ycM h x b C c):∃a,PySem.W.InstAt h x (Bu C b) C (AA a)/\∀name,Dy name a=AA (c name):=
 let #[a,d,f]:=zj1 I.ns
 #[a,#[I.obj,rfl,rfl,d],f]
section
variable {prog:Aa}{w:Ai}{A:Ak}{E:AG->AK->Prop}{s:AK}{K:AF}{x dx C f:AJ}{mA:AL->Option AG}{name:AL}{v:AG}
def znt{a}{Q:AG->AK->Prop}(X:K.In s.heap)(I:ycM s.heap x dx C mA)(c:Cm K C name=AC)(d:DG K C=AC)
  (f:Ah K (.ref C) name=AA AD) (g:mA name=AA v) (b:Gb v=AC) (h:Q v {s with toks:=s.toks+1}):
  A6 (model prog w) A (getAttr (.ref x) name a) Q E s:=by let#[l,J,j]:=I.look;exact PySem.W.get_value X J (Dn c).1 (PySem.W.findObj_own d f rfl (by rw[j,g])) b h
def zla{pl}{Q:AG×IK AG->AK->Prop}(X:K.In s.heap)(I:ycM s.heap x dx C mA)(a:Cm K C name=AC)
  (hf:Ah K (.ref C) name=AA (AA (.ref f))) (b:Cn K (.ref f)=AC) (c:mA name=AD) (h:Q (.ref f,[.ref x]) s):
  A6 (model prog w) A (getMethod (.ref x) name pl) Q E s:=by let#[d,J,g]:=I.look;exact PySem.W.method_fn X J (Dn a).1 (Dn a).2 hf (Ig.mp b) (by show (Dy name d).map (·.isSome)=AA AB;rw[g,c];rfl) h
def zmt{n}{Q:Ik->AK->Prop}(X:K.In s.heap)(I:ycM s.heap x dx C mA)
  (o:Ah K (.ref C) "__setattr__"=AA (AA (.builtin "object.__setattr__"))) (p:EU K C=AC) (q:FN K C name=AA AD) (t:DG K C=AC)
  (u:GO mA n) (hsz:n.length<=sizeLine)
  (h:∀f,ycM f x dx C (λy=>if y=name then AA v else mA y)->C6 dx s.heap f->Q Ik.unit {s with heap:=f,toks:=s.toks+2}):
  A6 (model prog w) A (setAttr (.ref x) name v) Q E s:=by let#[H,J,L]:=I.look;refine PySem.W.set_plain X J o (PySem.W.osa_open (s:={s with toks:=s.toks+1}) (r:=AD) X J p q λb=>?_);let#[M,z,g]:=PySem.W.any_some t;have B:s.heap.get? x=AA #[.ref C,AA dx,.plain,(IK.toArray [])]:=I.obj;refine AI (AV (AI (AI (wpAny_loadPart B (AI (IB (s:={s with toks:=s.toks+1}) (PySem.W.looks_clsIn X z) ?_))))));rw[g];refine AV (a:=AA dx) (AI (AV (AI ?_)));refine wpAny_nsSet1 (s:={s with toks:=s.toks+1}) I.ns λf c d=>?_;let#[N,D,G,j,l,m]:=c.count (IG name v u);refine AI (wpAny_lookBehind j (by rw[l];exact pastItsLine_dict (As m (by rw[A7];lia))) ?_);exact AV (h _ #[(d.2 _ (Ax I.ne)).trans I.obj,c,I.ne] d)
def zki{R}{vs:IK AG}{b:IK (AL×AG)}(X:K.In s.heap)(c:Db K C=AC)
  (j:Ah K (.ref C) "__init__"=AA (AA (.ref f))) (hf:PySem.W.typeIn K (.ref f)=AA (.type "function"))
  (h:codeAny (model prog w) (A.under (.builtin "type.__call__" #[.ref C::vs,b])) (.call (.ref f) #[.ref (s.heap.objs.size+1)::vs,b]) (PySem.W.InitBack (s.heap.objs.size+1) R)
   {s with heap:=(s.heap.push B4).push (Bu C s.heap.objs.size)}):
  codeAny (model prog w) A (.call (.ref C) #[vs,b]) R s:=by let#[l,g,d,t,os]:=s;exact PySem.W.make_core (PySem.W.makes_of X c) (Cg X j) (λa=>PySem.W.bind_fn X a hf) (.inl rfl) h
end
def yaX(f:AL)(v:V):IK (AL×V)->IK (AL×V)
 |[]=>[(f,v)]
 |(g,x)::r=>if g=f then(g,v)::r else(g,x)::yaX f v r
def zdX(f g:AL)(v):∀fs:IK (AL×V),(yaX f v fs).lookup g=if g=f then AA v else fs.lookup g
 |[]=>by
  show Bo g [(f,v)]=_
  by_cases h:g=f
  .have a:(g==f)=true:=Ig.mpr h;erw[Bo,a,IR h]
  .have a:(g==f)=false:=IP.mpr h;erw[Bo,a,IS h]
 |(k,x)::r=>by
  have ih:=zdX f g v r;rw[show yaX f v ((k,x)::r)=(if k=f then(k,v)::r else(k,x)::yaX f v r)from rfl]
  by_cases b:k=f
  .rw[IR b]
   by_cases h:g=k
   .have a:(g==k)=true:=Ig.mpr h;erw[Bo,a,IR (h.trans b)]
   .have a:(g==k)=false:=IP.mpr h;erw[Bo,a,IS (λe:g=f=>h (e.trans b.symm))]
  .rw[IS b]
   by_cases h:g=k
   .have a:(g==k)=true:=Ig.mpr h;erw[Bo,a,IS (λe:g=f=>b (h.symm.trans e))]
   .have a:(g==k)=false:=IP.mpr h;erw[Bo,a];exact ih
def zd7(f:AL)(v):∀fs:IK (AL×V),f∈(yaX f v fs).map (·.1)/\∀g,g∈fs.map (·.1)->g∈(yaX f v fs).map (·.1)
 |[]=>#[by simp[yaX],λg h=>by simp at h]
 |(k,x)::r=>by
  let#[b,c]:=zd7 f v r;rw[show yaX f v ((k,x)::r)=(if k=f then(k,v)::r else(k,x)::yaX f v r)from rfl]
  by_cases a:k=f
  .rw[IR a];subst a;exact#[by simp,λg h=>by simpa using h]
  .rw[IS a];refine#[?_,λg h=>?_]
   .rw[AO];exact AU _ b
   .rw[AO]at h ⊢;rcases AS.mp h with e|e
    .exact AS.mpr (.inl e)
    .exact AU _ (c g e)
def zdZ(f)(v):∀fs:IK (AL×V),(yaX f v fs).length<=fs.length+1
 |[]=>by simp[yaX]
 |(k,x)::r=>by
  have ih:=zdZ f v r;rw[show yaX f v ((k,x)::r)=(if k=f then(k,v)::r else(k,x)::yaX f v r)from rfl]
  by_cases a:k=f
  .rw[IR a,A7,A7];lia
  .rw[IS a,A7,A7];lia
theorem ybg.some_of{v:V}{o:Option AG}(r:ybg (AA v) o):∃u,o=AA u/\RelV v u:=by
 cases o with
 |none=>exact(show IY from r).elim
 |some u=>exact#[u,rfl,r]
theorem ybg.none_of{o:Option AG}(r:ybg AD o):o=none:=by
 cases o with
 |none=>rfl
 |some u=>exact(show IY from r).elim
def ziv{v u}(r:RelV v u):Gb u=true:=by
 cases v with
 |non=>cases (show u=Bt from r);rfl
 |bl b=>cases (show u=Ds b from r);rfl
 |int i=>let#[t,e]:=(show ∃t,u=Ek i t from r);cases e;rfl
 |str x=>let#[t,e]:=(show ∃t,u=G9 x t from r);cases e;rfl
 |byt b=>let#[t,e]:=(show ∃t,u=Hu b t from r);cases e;rfl
 |flt b=>let#[t,e]:=(show ∃t,u=Hv b t from r);cases e;rfl
 |ref a=>cases (show u=Ae a from r);rfl
 |ty n=>cases (show u=Ez n from r);rfl
section
variable {P:Aa}{w:Ai}{H H':Hp}{h h':Au}{a C dx:AJ}{fs fs':IK (AL×V)}
def zgS(c:HOk P w H h)(e:H a=AA (.ins C dx fs)):∃b,ycM h a dx C b/\(∀f,ybg (fs.lookup f) (b f))/\GO b (fs.map (·.1))/\fs.length<=1000/\H dx=AA (.own a):=by let#[d,z,g,j,b,n,r,q]:=(show yQ P w H h a (.ins C dx fs)from c a _ e);exact#[b,#[j,n,g],r,q,z,d]
end
structure Cls(K:AF)(C:AJ):Prop where
 pg:Cm K C DD=AC
 hd:DG K C=AC
 po:EU K C=AC
 sa:Ah K (.ref C) "__setattr__"=AA (AA (.builtin "object.__setattr__"))
theorem Cls.get{K:AF}{C:AJ}(c:Cls K C)(f:AL):Cm K C f=true:=c.pg
def yap(K:AF)(C:AJ)(f:AL):Prop:=Ah K (.ref C) f=AA AD
theorem yap.taker{K:AF}{C:AJ}{f:AL}(n:yap K C f):FN K C f=AA none:=by unfold FN;rw[show Ah K (.ref C) f=AA AD from n];rfl
structure Meth(K:AF)(C:AJ)(m:AL)(f:AJ):Prop where
 at_:Ah K (.ref C) m=AA (AA (.ref f))
 fn:Cn K (.ref f)=AC
 kp:Al K (.ref f)=AC
section
variable {X:Cx}{D:IK (AJ×Bi)}{B:St}{H:Hp}{s:AK}{a C dx:AJ}{fs:IK (AL×V)}{f:AL}{v:V}{A:Ak}{E:AG->AK->Prop}
def ze0{b}{Q:AG->AK->Prop}(I:Inv X D B H s)(e:H a=AA (.ins C dx fs))(c:Cls X.K C)(n:yap X.K C f)(l:fs.lookup f=AA v)
  (h:∀u d,Inv X D B H d->RelV v u->Q u d):A6 (model X.prog X.w) A (getAttr (.ref a) f b) Q E s:=by let#[j,O,r,_,_,_]:=zgS I.hok e;let#[u,m,g]:=ybg.some_of (v:=v) (o:=j f) (by rw[<-l];exact r f);exact znt I.kIn O (c.get f) c.hd n m (ziv g) (h u _ (I.tok _) g)
def ze2{m g pl}{Q:AG×IK AG->AK->Prop}(I:Inv X D B H s)(e:H a=AA (.ins C dx fs))(c:Cls X.K C)(k:Meth X.K C m g)(l:fs.lookup m=AD)
  (h:Q (.ref g,[.ref a]) s):A6 (model X.prog X.w) A (getMethod (.ref a) m pl) Q E s:=by let#[b,O,r,_,_,_]:=zgS I.hok e;have d:b m=none:=ybg.none_of (by rw[<-l];exact r m);exact zla I.kIn O (c.get m) k.at_ k.fn d h
def zeK{y u}{Q:Ik->AK->Prop}(I:Inv X D B H s)(e:H a=AA (.ins C dx fs))(c:Cls X.K C)(n:yap X.K C f)(Y:fs.length<1000)(t:RelV y u)
  (h:∀j,Inv X D B (upd H a (.ins C dx (yaX f y fs))) j->Q Ik.unit j):A6 (model X.prog X.w) A (setAttr (.ref a) f u) Q E s:=by
 let#[l,O,r,m,_,p]:=zgS I.hok e;have w:(fs.map (·.1)).length<=sizeLine:=by rw[Aq,CC];lia
 refine zmt I.kIn O c.sa c.po n.taker c.hd m w λG d J=>h _ ?_;have L:∃o,G.get? dx=AA o:=let #[o,_,_,M,_]:=d.ns;#[o,M]
 refine I.write (x:=a) (e:=dx) (by rw[e];exact C7) (.inr p) (λb q N z=>(J.2 b N).trans z) L ?_;refine#[by rw[zj O.ne];exact p,?_,O.ne,d.obj,_,d.ns,λg=>?_,λg U=>?_]
 .have:=zdZ f y fs;lia
 .show ybg ((yaX f y fs).lookup g) (if g=f then AA u else l g);rw[zdX]
  by_cases q:g=f
  .rw[IR q,IR q];exact t
  .rw[IS q,IS q];exact r g
 .by_cases q:g=f
  .rw[q];exact(zd7 f y fs).1
  .refine(zd7 f y fs).2 g (m g λz=>U ?_);show (if g=f then AA u else l g)=AD;rw[IS q];exact z
theorem Inv.made(I:Inv X D B H s):Inv X D B (upd (upd H s.heap.objs.size (.own (s.heap.objs.size+1))) (s.heap.objs.size+1) (.ins C s.heap.objs.size []))
  {s with heap:=(s.heap.push B4).push (Bu C s.heap.objs.size)}:=by
 have c:(s.heap.push B4).get? s.heap.objs.size=AA B4:=A8 s.heap rfl;have f:((s.heap.push B4).push (Bu C s.heap.objs.size)).get? (s.heap.objs.size+1)=AA (Bu C s.heap.objs.size):=by
  have:=A8 (s.heap.push B4) (o:=Bu C s.heap.objs.size) rfl
  rwa [Bp]at this
 have g:(s.heap.push B4).Ns s.heap.objs.size (λ_=>AD):=#[B4,(IK.toArray []),_,c,rfl,(λe j=>IU j (by simp)),λ_=>rfl];have l:=I.laid (a:=s.heap.objs.size) (o:=.own (s.heap.objs.size+1)) (h':=s.heap.push B4) (t':=s.toks) (λb u q=>AR _ q) (AQ _) #[_,c];refine l.laid (a:=s.heap.objs.size+1) (o:=.ins C s.heap.objs.size []) (t':=s.toks) (λb u q=>AR _ q) (Hj (Bp _ _)) ?_;have d:s.heap.objs.size≠s.heap.objs.size+1:=Am (Gc _);refine#[by rw[zj d,zx],D6 _,d,f,λ_=>AD,(Heap.Ns1.of_empty g).at λo q=>AR _ q,λ_=>C7,λy m=>IU rfl m]
def zms{prog w env e f pos s Q}(b:attributeBase e f env (eval e env)=eval e env)
  (h:A6 (model prog w) A (eval e env) (λo a=>A6 (model prog w) A (getAttr o f AC) Q E a) E s):A6 (model prog w) A (eval (.Attribute e f pos) env) Q E s:=
 Attribute_any_ h (by rw[arm_eval_Attribute,b])
end
def ygB(K:AF)(c:TE)(f:AL):TE:=λA H Q=>c A H λx b=>∃a C d fs v,x=.ref a/\b a=AA (.ins C d fs)/\Cls K C/\yap K C f/\fs.lookup f=AA v/\Q v b
def ygF(K:AF)(d g:TE)(f:AL):TS:=λD A H=>g A H λy j=>d A j λx b=>∃a C c fs,x=.ref a/\b a=AA (.ins C c fs)/\Cls K C/\yap K C f/\fs.length<1000 /\
 D.nx A (upd b a (.ins C c (yaX f y fs)))
def yfT(X:Cx)(a:D5)(rd:V->V->Hp->VK->Prop):Prop:=
 ∀(C:IK (AJ×Bi)) (s:AK) (B:St) (H:Hp) (x y:V) (u v:AG) (Q:VK),Inv X C B H s->RelV x u->RelV y v->rd x y H Q->A6 (model X.prog X.w) X.A (inplaceOp a u v) (EP X C B Q) X.xe s
def ycW(K:AF)(j l:TE)(rd:V->V->Hp->VK->Prop)(f:AL):TS:=λD A H=>j A H λx d=>∃a C m fs v,x=.ref a/\d a=AA (.ins C m fs)/\Cls K C/\yap K C f/\fs.lookup f=AA v /\
 l A d λy n=>rd v y n λz g=>∃c b,g a=AA (.ins C c b)/\b.length<1000/\D.nx A (upd g a (.ins C c (yaX f z b)))
section
variable {X:Cx}{o e value:AT}{f:AL}{pos pos' tpos:CB}{ta tv:TE}
def zpJ(b:PE X e ta)(d:attributeBase e f X.env (eval e X.env)=eval e X.env):PE X (.Attribute e f pos) (ygB X.K ta f):=by intro B s A H Q I h;refine zms d (thn (b B s A H _ I h) λu w g=>?_);let#[x,j,m,o,a,C,y,fs,v,ex,p,c,n,l,q]:=g;subst ex;obtain rfl:u=Ae a:=o;exact ze0 m p c n l λz D r t=>#[v,j,r,t,q]
def zoZ(d:PE X o ta)(g:PE X value tv)(j:swapsWith value (AA (.Attribute o f pos')) pos.line X.env=pure AB):PS X (.Assign [.Attribute o f pos'] value pos) (ygF X.K ta tv f):=by intro B s A H D I h;refine plainObj_wpAny_Assign_Attribute (thn (g B s A H _ I h) λu m b=>?_) j;let#[y,p,r,t,q]:=b;refine thn (d B m A p _ r q) λw M b=>?_;let#[x,N,z,E,a,C,O,fs,ex,G,c,n,l,J]:=b;subst ex;obtain rfl:w=Ae a:=E;exact zeK z G c n l t λQ L=>#[A,_,L,J]
def zjW{j rd}(m:PE X o ta)(p:PE X value tv)(d:yfT X j rd):PS X (.AugAssign (.Attribute o f tpos) j value pos) (ycW X.K ta tv rd f):=by intro B s A H D I h;refine wpAny_AugAssign_AttributeAny (thn (m B s A H _ I h) λr s1 b=>?_);let#[x,t,w,E,a,C,dx,fs,v,ex,G,c,n,l,q]:=b;subst ex;obtain rfl:r=Ae a:=E;refine ze0 w G c n l λu J L M=>thn (p B J A t _ L q) λN O b=>?_;let#[y,Q,U,Y,Z]:=b;refine thn (d B O A Q v y u N _ U M Y Z) λw4 s4 b=>?_;let#[z,H3,I4,rz,dx',fs',g,l',q4]:=b;exact zeK I4 g c n l' rz λs5 I5=>#[A,_,I5,q4]
def yhB:V->V->Hp->VK->Prop:=λx y H Q=>∃i j,x=.int i/\y=.int j/\Q (.int (i+j)) H
def zqS:yfT X .Add yhB:=by
 rintro B s A H x y u v Q I b c ⟨i,j,rfl,rfl,q⟩
 let#[t,rfl]:=(show ∃t,u=Ek i t from b);let#[a,rfl]:=(show ∃a,v=Ek j a from c);exact Gx #[.int (i+j),H,I.tok _,#[_,rfl],q]
end
section
variable {X:Cx}{C:IK (AJ×Bi)}{B:St}{H:Hp}{s:AK}{A:Ak}{E:AG->AK->Prop}{Q:AG->AK->Prop}{c:AG}{b:IQ}
end
structure yav(k:IL)(A:Ak):Prop where
 hd:A.handled=AD
 dp:A.depth+3*k+5<recursionLimit
 un:A.units+16*k+200<cLine
theorem yav.mono{j k:IL}{A:Ak}(r:yav k A)(h:j<=k):yav j A:=#[r.hd,by have:=r.dp;lia,by have:=r.un;lia]
theorem yav.deeper{k:IL}{A:Ak}(r:yav (k+1) A)(env:Env):yav k (A.deeper env):=
 #[r.hd,by have:=r.dp;show A.depth+1+3*k+5<_;lia,by have:=r.un;show A.units+3+16*k+200<_;lia]
def zhL{A:Ak}{C:AJ}{us:IK AG}{a:IK (AL×AG)}:(A.under (.builtin "type.__call__" #[.ref C::us,a])).depth=A.depth+1:=by first|rfl|simp[GT,Code.weight,Code.isCreation,Code.isGuard,Code.isCaller,Hw,GU,guardIds]
def zhM{A:Ak}{C:AJ}{us:IK AG}{a:IK (AL×AG)}:(A.under (.builtin "type.__call__" #[.ref C::us,a])).units=A.units+1:=by first|rfl|simp[GT,Code.cUnits,Hw,GU]
theorem yav.make{k:IL}{A:Ak}(r:yav (k+1) A)(C:AJ)(us:IK AG)(a:IK (AL×AG)):yav k (A.under (.builtin "type.__call__" #[.ref C::us,a])):=
 #[r.hd,by have:=r.dp;rw[zhL];lia,by have:=r.un;rw[zhM];lia]
theorem yav.depth{k:IL}{A:Ak}(r:yav k A):A.depth<recursionLimit:=by have:=r.dp;lia
def ydn:TA:=λ_ H Q=>Q [] H
def ydM(a:TE)(b:TA):TA:=λA H Q=>a A H λx c=>b A c λd f=>Q (x::d) f
section
variable {X:Cx}{e:AT}{es:IK AT}{te:TE}{t:TA}{pos:CB}
def zrH:PA X [] ydn:=λ_ _ _ _ H Q I h=>GV #[[],H,I,.nil,h]
def zav(a:PE X e te)(b:PA X es t)(c:starEach (e::es) X.env=(AB,eval e X.env)::starEach es X.env:=by rfl):PA X (e::es) (ydM te t):=by intro pos B s A H Q I h;rw[c];show A6 _ _ (spliced ((AB,eval e X.env)::backTo pos (starEach es X.env))) _ _ s;refine Dz (thn (a B s A H _ I h) λu d f=>?_);let#[x,g,j,l,m]:=f;exact thn (b pos B d A g _ j m) λw y #[n,o,p,q,r]=>#[x::n,o,p,.cons l q,r]
def yhc(t:TA):TE:=λA H Q=>t A H λa b=>a.length<=sizeLine/\∀p,b p=AD->Q (.ref p) (upd b p (.tup a))
def yhl(t:TA):TE:=λA H Q=>t A H λa b=>a.length<=sizeLine/\∀p,b p=AD->Q (.ref p) (upd b p (.lst a))
def zmj{f}(h:PA X es t):PE X (.Tuple es f pos) (yhc t):=by intro B s A H Q I g;refine wpAny_Tuple_spliced (thn (h pos B s A H _ I g) λj a l=>?_);let#[m,c,d,r,z,q]:=l;refine #[by rw[<-r.length];exact z,?_];have hf:c a.heap.objs.size=none:=d.hok.fresh (AQ _);refine#[.ref a.heap.objs.size,upd c a.heap.objs.size (.tup m),d.laid (t':=a.toks) (λb u e=>AR _ e) (AQ _) ?_,rfl,q _ hf];exact#[z,j,r,#[_,A8 _ rfl,rfl,_,rfl]]
def zl5(h:PA X es t):PE X (.List es pos) (yhl t):=by intro B s A H Q I f;refine wpAny_List_spliced (thn (h pos B s A H _ I f) λg a j=>?_);let#[l,c,d,r,z,q]:=j;refine #[by rw[<-r.length];exact z,?_];have hf:c a.heap.objs.size=none:=d.hok.fresh (AQ _);refine#[.ref a.heap.objs.size,upd c a.heap.objs.size (.lst l),d.laid (t':=a.toks) (λb u e=>AR _ e) (AQ _) ?_,rfl,q _ hf];exact#[z,g,0,r,A8 _ rfl]
end
abbrev Sp:=IK V->Hp->VK->XK->Prop
abbrev CXT:=IK Env->Hp->AK->XK->AG->AK->Prop
structure ycg(P:Aa)(w:Ai)(K:AF)(mg:AL->Option AG)(base:Au)(A:Ak)(outer:IK Env)(s:AK)(H:Hp):Prop where
 frames:A.frames=AA outer
 mod:Mod K mg base
 bs:∀b o,base.get? b=AA o->s.heap.get? b=AA o/\H b=AD
 bsz:base.objs.size<=s.heap.objs.size
 funs:s.heap.FunFrames base outer
 frf:∀b∈frs outer,H b=AD
 hok:HOk P w H s.heap
 bare:DF s.gens
def CE(outer:IK Env)(P:Aa)(w:Ai)(H:Hp)(s:AK)(Q:VK)(u:AG)(s':AK):Prop:=
 ∃v a,s'.os=s.os/\DF s'.gens/\Un (frs outer) [] H a s.heap s'.heap/\HOk P w a s'.heap/\RelV v u/\Q v a
def CR(CX:CXT)(outer:IK Env)(P:Aa)(w:Ai)(H:Hp)(s:AK)(Q:VK)(E:XK)(r:GF)(s':AK):Prop:=
 match r with
 |.ok (.ret u)=>CE outer P w H s Q u s'
 |.ok _=>IY
 |.error e=>CX outer H s E e s'
structure yaG(P:Aa)(w:Ai)(K:AF)(mg:AL->Option AG)(base:Au)(CX:CXT)(k:IL)(f:AJ)(fd:Aw)(ps:IK AL)(sp:Sp):Prop where
 len:∀vs H Q E,sp vs H Q E->vs.length=ps.length
 run:∀(A:Ak) (outer:IK Env) (s:AK) (H:Hp) (args:Args) (us:IK AG) (vs:IK V) (Q:VK) (E:XK),yav k A->ycg P w K mg base A outer s H->EV s fd args (ps.zip us)->Vals vs us->sp vs H Q E ->
  codeAny (model P w) A (.call (.ref f) args) (CR CX outer P w H s Q E) s
theorem yaG.imp{P:Aa}{w:Ai}{K:AF}{g:AL->Option AG}{base:Au}{CX:CXT}{k:IL}{f:AJ}{fd:Aw}{j:IK AL}{sp c:Sp}(F:yaG P w K g base CX k f fd j sp)
  (h:∀b H Q E,c b H Q E->sp b H Q E):yaG P w K g base CX k f fd j c:=
 #[λb H Q E q=>F.len b H Q E (h _ _ _ _ q),λA a s H d l b Q E m n o p r=>F.run A a s H d l b Q E m n o p (h _ _ _ _ r)]
theorem ycg.make{P:Aa}{w:Ai}{K:AF}{a:AL->Option AG}{base:Au}{A:Ak}{outer:IK Env}{s:AK}{H:Hp}(e:ycg P w K a base A outer s H)(C:AJ)(us:IK AG)(b:IK (AL×AG)):
  ycg P w K a base (A.under (.builtin "type.__call__" #[.ref C::us,b])) outer s H:=#[by first|exact e.frames|(simpa [GT,Code.envs,GU,pushEnvs] using e.frames),e.mod,e.bs,e.bsz,e.funs,e.frf,e.hok,e.bare]
section
variable {X:Cx}{C:IK (AJ×Bi)}{B:St}{H:Hp}{s s':AK}
theorem Inv.env0(I:Inv X C B H s):ycg X.prog X.w X.K X.mg X.base X.A X.stack s H:=
 #[I.ok.frames,I.ok.mod,I.bs,As I.ok.bsz I.sz,I.stack,I.stkFree,I.hok,I.bare]
theorem Inv.after{Q:VK}{u:AG}(I:Inv X C B H s)(h:CE X.stack X.prog X.w H s Q u s'):EP X C B Q u s':=by let#[v,j,os,a,un,c,r,q]:=h;let#[l,g,d,t,f]:=s';obtain rfl:f=s.os:=os;exact#[v,j,I.call (h':=l) (g':=g) (d':=d) (t':=t) (ch:=[]) un c a (λb z=>IU z (by simp)),r,q]
end
def ye6(C:AJ)(sp:Sp)(b:IK V)(E:XK)(t:TA):TE:=λA H Q=>t A H λd c=>∀x a,c x=AD->c a=AD->a≠x ->
 sp (.ref x::(d++b)) (upd (upd c a (.own x)) x (.ins C a [])) (λv f=>v=.non/\Q (.ref x) f) E
def Binds(K:AF)(fd:Aw)(b:IK AL)(c:IK AG):Prop:=
 ∀(s:AK) (a:IK AG),K.In s.heap->(a++c).length=b.length->EV s fd #[a,[]] (b.zip (a++c))
theorem Binds.all{K:AF}{fd:Aw}{b:IK AL}(h:∀a:IK AG,a.length=b.length->bindArgs fd #[a,[]]=pure (b.zip a)):Binds K fd b []:=λs a _ c=>by rw[Bv]at c ⊢;exact .of_eq (h a c)
def ybz(CX:CXT)(X:Cx)(E:XK):Prop:=∀(B:IK (AJ×Bi)) (A:St) (H:Hp) (s:AK) (e:AG) (a:AK),Inv X B A H s->CX X.stack H s E e a->X.xe e a
section
variable {X:Cx}{CX:CXT}{k:IL}{f C:AJ}{fd:Aw}{ps:IK AL}{sp:Sp}{dvs:IK V}{ds:IK AG}{E:XK}{x m:AL}{p pos apos:CB}{e o:AT}{es:IK AT}{ta:TE}{t:TA}
structure Mk(K:AF)(C f:AJ):Prop where
 makes:Db K C=AC
 init:Ah K (.ref C) "__init__"=AA (AA (.ref f))
 fn:Cn K (.ref f)=AC
 kp:Al K (.ref C)=AC
def zk9{D B H s}{Q:VK}{us vs}(M:Mk X.K C f)(F:yaG X.prog X.w X.K X.mg X.base CX k f fd ps sp)(j:yav (k+1) X.A)(l:Binds X.K fd ps ds)(m:Vals dvs ds)
  (n:ybz CX X E) (I:Inv X D B H s) (r:Vals vs us)
  (h:∀x b,H x=AD->H b=AD->b≠x->sp (.ref x::(vs++dvs)) (upd (upd H b (.own x)) x (.ins C b [])) (λv o=>v=.non/\Q (.ref x) o) E):
  A6 (model X.prog X.w) X.A (call (.ref C) us) (EP X D B Q) X.xe s:=by
 have d:=h (s.heap.objs.size+1) s.heap.objs.size (I.hok.fresh (C4 _)) (I.hok.fresh (AQ _)) (Am (Gc _));have c:=Inv.made (C:=C) I;have g:Vals (V.ref (s.heap.objs.size+1)::(vs++dvs)) (Ae (s.heap.objs.size+1)::(us++ds)):=.cons rfl (r.append m);have p:(Ae (s.heap.objs.size+1)::us++ds).length=ps.length:=by have e:=g.length;rw[F.len _ _ _ _ d]at e;exact e.symm
 refine GG (zki (f:=f) I.kIn M.makes M.init (Ig.mp M.fn) (DH (F.run _ X.stack _ _ #[Ae (s.heap.objs.size+1)::us,[]] (Ae (s.heap.objs.size+1)::(us++ds)) _ _ E (j.make C us [])
  (c.env0.make C us []) (l _ (Ae (s.heap.objs.size+1)::us) c.kIn p) g d) λr q a=>?_))
 cases r with
 |error e=>exact n D B _ _ e q c a
 |ok fl=>
  cases fl with
  |ret u=>
   let#[v,t,w,y,ev,z]:=c.after a;subst ev;exact#[y,#[V.ref (s.heap.objs.size+1),t,w,rfl,z]]
  |next=>exact BM a
  |brk=>exact BM a
  |cont=>exact BM a
def znQ(M:Mk X.K C f)(F:yaG X.prog X.w X.K X.mg X.base CX k f fd ps sp)(d:yav (k+1) X.A)(g:Gl X x)(j:X.mg x=AA (.ref C))(l:Binds X.K fd ps ds)(m:Vals dvs ds)(n:ybz CX X E)
  (o:PA X (e::es) t) (a:(x==("__debug__":AL))=false:=by decide) (u:starEach (e::es) X.env=(AB,eval e X.env)::starEach es X.env:=by rfl) (b:(backTo pos (starEach es X.env)).any (·.1)=false:=by rfl):
  PE X (.Call (.Name x p) (e::es) [] pos) (ye6 C sp dvs E t):=by intro D s B H Q I h;refine BN (zb9 I g j ?_ a);refine C8 (h₀:=X.base) I.ok.mod.kin M.kp (thn (o pos D s B H _ I h) λy z w=>?_) u b;let#[A,G,c,r,q]:=w;refine #[c.kIn,?_];exact zk9 M F d l m n c r q
end
def PK(X:Cx)(kws:IK Br)(t:TA):Prop:=
 ∀(a:CB) (C:IK (AJ×Bi)) (s:AK) (B:St) (H:Hp) (Q:IK V->Hp->Prop),Inv X C B H s->t B H Q->A6 (model X.prog X.w) X.A (evalAll ((backToKw a (keywordEach kws X.env)).map (·.2))) (AP X C B Q) X.xe s
section
variable {X:Cx}{CX:CXT}{k:IL}{f C:AJ}{fd:Aw}{ps ks:IK AL}{sp:Sp}{E:XK}{x m:AL}{p pos apos kpos:CB}{e o:AT}{es:IK AT}{kws:IK Br}{te ta:TE}{t tk:TA}{nm:Option AL}
def zsj:PK X [] ydn:=λ_ _ _ _ H Q I h=>wpAny_evalAll_nil #[[],H,I,.nil,h]
def znT(a:PE X e te)(b:PK X kws t):PK X (#[nm,e,kpos] :: kws) (ydM te t):=by intro pos B s A H Q I h;show A6 _ _ (evalAll ((do let v <-eval e X.env;standAt pos;pure v)::(backToKw pos (keywordEach kws X.env)).map (·.2))) _ _ s;refine wpAny_evalAll_cons (AI (thn (a B s A H _ I h) λu c d=>?_));let#[x,f,g,j,l]:=d;refine AI (D3 (AV ?_));exact thn (b pos B c A f _ g l) λr w #[m,n,o,p,q]=>#[x::m,n,o,.cons j p,q]
structure ybs(K:AF)(fd:Aw)(ps ks:IK AL)(g:IK AG->IK AG->IK AG)(gV:IK V->IK V->IK V):Prop where
 to:∀(s:AK) (us ws:IK AG),K.In s.heap->(g us ws).length=ps.length->EV s fd #[us,ks.zip ws] (ps.zip (g us ws))
 rel:∀{vs:IK V} {us:IK AG} {zs:IK V} {ws:IK AG},Vals vs us->Vals zs ws->Vals (gV vs zs) (g us ws)
variable {g:IK AG->IK AG->IK AG}{gV:IK V->IK V->IK V}
end
structure yaF(N P:IK AL)(sc:BZ):Prop where
 kind:sc.kind=.function
 co:sc.isCoroutine=AB
 gen:sc.isGenerator=AB
 nd:N.Nodup
 pre:N.take P.length=P
 par:∀x∈P,sc.names.lookup x=AA .local \/ sc.names.lookup x=AA .cell
 nofree:∀y∈sc.names,y.2 ≠ .free
def zgh{kindOf}{x:AL}:∀{binds:IK (AL×AG)}{m},(∀v,(x,v)∉binds)->bindL kindOf binds m x=m x
 |[],_,_=>rfl
 |(n,v)::r,m,h=>by
  unfold bindL;rw[zgh λw a=>h w (AU _ a)];split
  .have:x≠n:=by rintro rfl;exact h v Af
   simp[this]
  .rfl
def zgq{kindOf}{x:AL}:∀{binds:IK (AL×AG)}{m},(∀v,(x,v)∉binds)->bindC kindOf binds m x=m x
 |[],_,_=>rfl
 |(n,v)::r,m,h=>by
  unfold bindC;rw[zgq λw a=>h w (AU _ a)];split
  .rfl
  .have:x≠n:=by rintro rfl;exact h v Af
   simp[this]
def zga{kindOf:AL->Option DI}{x:AL}{v:AG}:∀{P:IK AL}{vs:IK AG}{i:IL}{m},P.Nodup->P[i]?=AA x->vs[i]?=AA v->kindOf x=AA .local ->
  bindL kindOf (P.zip vs) m x=AA v
 |[],_,_,_,_,h,_,_=>by simp at h
 |_::_,[],_,_,_,_,h,_=>by simp at h
 |p::P,w::vs,0,m,c,a,b,d=>by simp at a b;subst a;subst b;show bindL kindOf ((p,w)::P.zip vs) m p=_;unfold bindL;rw[zgh λv f=>(De.mp c).1 (Dg f).1,IR d];simp
 |p::P,w::vs,i+1,m,c,a,b,d=>by show bindL kindOf ((p,w)::P.zip vs) m x=_;unfold bindL;exact zga (i:=i) (De.mp c).2 (by simpa using a) (by simpa using b) d
def zfK{kindOf:AL->Option DI}{x:AL}{v:AG}:∀{P:IK AL}{vs:IK AG}{i:IL}{m},P.Nodup->P[i]?=AA x->vs[i]?=AA v->kindOf x≠AA .local ->
  bindC kindOf (P.zip vs) m x=AA v
 |[],_,_,_,_,h,_,_=>by simp at h
 |_::_,[],_,_,_,_,h,_=>by simp at h
 |p::P,w::vs,0,m,c,a,b,d=>by simp at a b;subst a;subst b;show bindC kindOf ((p,w)::P.zip vs) m p=_;unfold bindC;rw[zgq λv f=>(De.mp c).1 (Dg f).1,IS d];simp
 |p::P,w::vs,i+1,m,c,a,b,d=>by show bindC kindOf ((p,w)::P.zip vs) m x=_;unfold bindC;exact zfK (i:=i) (De.mp c).2 (by simpa using a) (by simpa using b) d
def start(N:IK AL)(vs:IK V):St:=vs.map AA++Av (N.length-vs.length) AD
def yaK(CX:CXT)(P:Aa)(w:Ai)(K:AF)(mg:AL->Option AG)(base:Au)(N:IK AL)(b:AL)(a:BZ)(f:AJ)(d:AG)(A:Ak)(outer:IK Env)(s:AK)(H:Hp)(E:XK):Cx where
 prog:=P
 w:=w
 K:=K
 mg:=mg
 base:=base
 A:=A.deeper (envOfC b a s.heap.objs.size f d)
 N:=N
 s₀:=s
 H₀:=H
 env:=envOfC b a s.heap.objs.size f d
 outer:=outer
 stack:=envOfC b a s.heap.objs.size f d::outer
 ex:=[]
 calm:=AC
 fn:=λ_=>AC
 pn:=[]
 xe:=λe g=>A6 (model P w) (A.deeper (envOfC b a s.heap.objs.size f d)) («leaving» (envOfC b a s.heap.objs.size f d) e) (λ_ c=>CX outer H s E e c) (λj c=>CX outer H s E j c) g
def zhd{sc:BZ}{n:IL}{x:AL}(h:sc.names.lookup x=AA .cell):∃c,(cellsFrom n sc.names []).lookup x=AA c:=by have q:=DJ sc.names n [] (.inl h);exact Ag.mp q
def zgr{CX P w K I base N l g d f C}{A:Ak}{outer s J H E us}{vs:IK V}
  (S:yaF N l d) (O:A.handled=AD) (e0:ycg P w K I base A outer s H) (Y:vs.length=l.length) (r:Vals vs us)
  (x:InCallC s s.heap.objs.size (bindL (envOfC g d s.heap.objs.size f C).kindOf (l.zip us) λ_=>AD) (cellsFrom (s.heap.objs.size+1) d.names []) (bindC (envOfC g d s.heap.objs.size f C).kindOf (l.zip us) λ_=>AD) J):
  Inv (yaK CX P w K I base N g d f C A outer s H E) [] (start N vs) H J:=by
 have Q:l.length<=N.length:=by have:=Ic C5 S.pre;rw[DV]at this;lia
 let#[D,Z,rfl,L]:=x.done;have m:∀b:AJ,b∉(yaK CX P w K I base N g d f C A outer s H E).ex:=λb z=>IU (show b∈([]:IK AJ)from z) (by simp);refine#[#[e0.mod,S.kind,rfl,rfl,AQ _,λy z c D j=>?_,λy o=>?_,λy c _ h=>?_,λ_=>O,Around.frames_deeper e0.frames,.inr #[rfl,rfl],λb z=>IU z (m b),e0.bs,e0.bsz,λb _ _=>m b,λb z=>IU z (m b),e0.funs,e0.frf],
  rfl,e0.bare,Un.kept L,#[_,x.toInCall.ns,λi y v D j h3=>?_],λy c h=>#[_,x.cell y c h],e0.hok.fresh (AQ _),λy c h=>?_,λp t=>IU (show p∈([]:IK (AJ×Bi))from t) (by simp),e0.hok.kept L,?_]
 .exact name_of_addr x.apart (CZ D) (CZ j)
 .have o:d.names.lookup y=AA .cell \/ d.names.lookup y=AA .free:=o;rcases o with o|o
  .exact zhd o
  .exact IU rfl (S.nofree _ (CZ o))
 .exact GP (x.above y c (CZ h))
 .have G:i<vs.length:=by
   unfold start at j
   by_cases G:i<vs.length
   .exact G
   .rw[Ad (by simpa using G)]at j;rw[Em]at j;split at j<;>cases j
  have U:vs[i]?=AA v:=by
   unfold start at j;rw[A5 (by simpa using G),Bs]at j
   cases e:vs[i]? with
   |none=>rw[e]at j;cases j
   |some a=>rw[e]at j;cases j;rfl
  let#[u,M,X]:=r.get U;have t:l[i]?=AA y:=by rw[<-S.pre,IK.getElem?_take_of_lt ()];exact D
  have B:l.Nodup:=by rw[<-S.pre];exact S.nd.sublist (IK.take_sublist _ _)
  refine#[u,X,?_];rcases S.par y (AZ t)with k|k
  .exact .inl #[k,zga B t M k]
  .let#[c,e]:=zhd (n:=s.heap.objs.size+1) k;refine .inr #[.inl k,c,e,?_];have q:=x.cell y c e;rw[zfK B t M (by show d.names.lookup y≠_;rw[k];decide)]at q;exact q
 .exact e0.hok.fresh (GP (x.above y c (CZ h)))
 .unfold start;show _=N.length;rw[Ab,Aq,IK.length_replicate];lia
def zrF{CX P w}{K:AF}{G base}{k:IL}{f:AJ}{name c d g a}{dV kV doc pm cdv ct oc:AG}{an od:Option AJ}
  {O:Ie (Option AG)} {N L} {sp:Sp} (lk:K.lookup f=AA #[oc,od,.func (B0 name c d g a dV kV doc pm an cdv ct),O]) (U:CF K cdv c=AC) (S:yaF N L a)
  (len:∀j H Q E,sp j H Q E->j.length=L.length)
  (m:∀(A:Ak)outer(s:AK)H j Q(E:XK),yav k (A.deeper (envOfC c a s.heap.objs.size f cdv))->sp j H Q E ->
   ∃t,PSs (yaK CX P w K G base N c a f cdv A outer s H E) g t/\t {nx:=λ_ l=>Q .non l,rt:=Q} (start N j) H):
  yaG P w K G base CX (k+1) f (B0 name c d g a dV kV doc pm an cdv ct) L sp:=by
 refine#[len,λA outer s H args us j Q E X B hb r C=>?_];have hl:=len _ _ _ _ C;have KX:K.In s.heap:=B.mod.kin.keeps λb o e=>(B.bs b o e).1;have Y:s.heap.NoLimit:=B.mod.nolimit.keeps λb o e=>(B.bs b o e).1;have p:∀y∈L.zip us,a.names.lookup y.1=AA .local \/ (a.names.lookup y.1=AA .cell/\((cellsFrom (s.heap.objs.size+1) a.names []).lookup y.1).isSome=AC):=λ#[n,v] hy=>by
  rcases S.par n (Dg hy).1 with q|q
  .exact .inl q
  .exact .inr #[q,DJ _ _ _ (.inl q)]
 refine FT X.depth (KX _ _ lk) rfl S.co S.gen rfl (GH KX U) (hb _ _ _ _ ?_);refine EA S.kind p λenv he s1 x=>?_;subst he;refine#[Y.keeps x.toInCall.keep,codeAny_func ?_];let#[t,ht,hq]:=m A outer s H j Q E (X.deeper _) C;have I:Inv (yaK CX P w K G base N c a f cdv A outer s H E) [] (start N j) H s1:=zgr S X.hd B hl r x;refine Bl (ht [] s1 (start N j) H _ I hq) (λfl Z z=>?_) λe Z z=>z;have D:∀{M:St} {l:Hp} {v:V} {u:AG},Inv (yaK CX P w K G base N c a f cdv A outer s H E) [] M l Z->RelV v u->Q v l->CE outer P w H s Q u Z:=
  λ{M l v u} J rv q=>#[v,l,J.os,J.bare,J.base,J.hok,rv,q]
 cases fl with
 |ret u=>
  let#[v,M,l,J,rv,q]:=z;exact D J rv q
 |next=>
  let#[M,l,J,q]:=z;exact D (v:=V.non) (u:=Bt) J rfl q
 |brk=>
  let#[_,_,_,q]:=z;exact BM q
 |cont=>
  let#[_,_,_,q]:=z;exact BM q
section
variable {X:Cx}{x:AL}{p pos:CB}{e:AT}{es:IK AT}{t:TA}{id T:Ii}{r:IK V->Hp->VK->Prop}
def tCB(r:IK V->Hp->VK->Prop)(t:TA):TE:=λA H Q=>t A H λa b=>r a b Q
def zdK(c:yU X (.builtin id) r)(d:Gl X x)(f:X.mg x=AD)(g:bootBuiltins x=AA (.builtin id))(j:PA X (e::es) t)(l:x ≠ "__name__":=by decide)(a:(x==("__debug__":AL))=false:=by decide)
  (m:starEach (e::es) X.env=(AB,eval e X.env)::starEach es X.env:=by rfl) (b:(backTo pos (starEach es X.env)).any (·.1)=false:=by rfl):PE X (.Call (.Name x p) (e::es) [] pos) (tCB r t):=by intro B s A H Q I h;refine BN (zeC I d f g ?_ l a);exact Gd (thn (j pos B s A H _ I h) λn o #[q,u,w,y,z]=>c B o A u q n Q w y z) m b
def zfE(c:yU X (.type T) r)(d:Gl X x)(f:X.mg x=AD)(g:bootBuiltins x=AA (.type T))(j:PA X (e::es) t)(l:x ≠ "__name__":=by decide)(a:(x==("__debug__":AL))=false:=by decide)
  (m:starEach (e::es) X.env=(AB,eval e X.env)::starEach es X.env:=by rfl) (b:(backTo pos (starEach es X.env)).any (·.1)=false:=by rfl):PE X (.Call (.Name x p) (e::es) [] pos) (tCB r t):=by intro B s A H Q I h;refine BN (zeC I d f g ?_ l a);exact CA (thn (j pos B s A H _ I h) λn o #[q,u,w,y,z]=>c B o A u q n Q w y z) m b
end
end L2
namespace HT
open PySem PyProof.Rows
section
open PySem.SeqAt
open PySem.AutoSeq1 (wpAny_loadPart')
open PySem.MeetsSeq PySem.MeetsSeq2 PySem.MeetsSeq3
end
section
variable {prog:Aa}{w:Ai}{A:Ak}{E:AG->AK->Prop}{s:AK}
theorem cat_tup{t b}{vs a:IK AG}{Q:AG->AK->Prop}(B:HA s.heap t vs.toArray)(C:HA s.heap b a.toArray)(p:vs≠[])
  (D:a=[]->Q (.ref t) s) (G:a≠[]->Q (.ref s.heap.objs.size) {s with heap:=s.heap.push {cls:=.type "tuple",data:=.seq (vs++a).toArray} })
  (o:vs.length+a.length<=sizeLine):A6 (model prog w) A (binaryOp .Add (.ref t) (.ref b)) Q E s:=by
 let#[#[cls,q,data,r],l,u,n,x]:=id B;let#[#[y,d,data2,f],c,g,z,j]:=id C;simp only at u x g j;subst u x g j;have e:vs.toArray++a.toArray=(vs++a).toArray:=by simp
 by_cases m:a=[]
 .exact GW #[_,l,rfl] #[_,c,rfl] C0 Cw Bf Ba (B6 _ _)
   (tuple_addW1 t b vs.toArray a.toArray n z q d r f (by simpa using p) (by simp[m])) #[l,c,D m]
 .refine GW #[_,l,rfl] #[_,c,rfl] C0 Cw Bf Ba (B6 _ _)
   (tuple_addW2 t b vs.toArray a.toArray n z q d r f (by simpa using p) (by simpa using m) (by rw[AW,AW];exact o)) #[l,c,?_]
  rw[e];exact G m
def sIx(n d:IL):Option IM->IL
 |none=>d
 |some v=>if v<0 then(v+(n:IM)).toNat else min v.toNat n
theorem sIx_le(n d:IL)(b:d<=n)(o:Option IM):sIx n d o<=n:=by
 cases o with
 |none=>exact b
 |some v=>
  show (if v<0 then(v+(n:IM)).toNat else min v.toNat n)<=n
  by_cases a:v<0
  .rw[IR a];lia
  .rw[IS a];exact IL.min_le_right _ _
def zi6(v:IM)(n d:IL):(if v<0 then max (v+(n:IM)) 0 else min v (n:IM))=((sIx n d (AA v):IL):IM):=by
 show (if v<0 then max (v+(n:IM)) 0 else min v (n:IM))=(((if v<0 then(v+(n:IM)).toNat else min v.toNat n):IL):IM)
 by_cases a:v<0
 .simp only[IR a];lia
 .simp only[IS a];lia
def zhY(lo a)(n:IL):Cr lo a 1 (n:IM)=(((sIx n 0 lo:IL):IM),((sIx n n a:IL):IM)):=by
 have b:¬((1:IM)<0):=()
 unfold Cr;erw[b,Ib];refine Prod.ext ?_ ?_
 .cases lo with
  |none=>rfl
  |some v=>exact zi6 v n 0
 .cases a with
  |none=>rfl
  |some v=>exact zi6 v n n
def zhJ(i j:IL):CJ (i:IM) (j:IM) 1=j-i:=by
 unfold CJ;have a:(1:IM) > 0:=()
 erw[a,IV,Hk];split<;>lia
def zeJ{v o}{Q:Option IM->AK->Prop}(p:FE v o)(h:Q o s):A6 (model prog w) A (Gr v) Q E s:=by
 cases p with
 |none=>exact slicePart_none h
 |int i t=>exact slicePart_int h
theorem sliceApplied_gen{sl d f lo a}{n:IL}{Q:IM×IM×IL->AK->Prop}(g:s.heap.IsSliceOf sl d f .none)(pl:FE d lo)(j:FE f a)
  (h:Q (((sIx n 0 lo:IL):IM),1,sIx n n a-sIx n 0 lo) s):A6 (model prog w) A (EB (.ref sl) (pure (n:IM))) Q E s:=by let#[os,b,l,c]:=id g;unfold EB HQ;refine AI (AI (BS b c (x:=d) rfl (AI (BS b c (x:=f) rfl (AI (BS b c (x:=.none) rfl (AV ?_)))))));refine AI (slicePart_none ?_);show A6 _ _ (if ((1:IM)==0)=AC then _ else _) _ _ s;rw[IS ⋯];refine AI (zeJ pl (AI (zeJ j (AI (AV ?_)))));show A6 _ _ (match Cr lo a 1 (n:IM)with|(lo,a)=>pure (lo,(1:IM),CJ lo a 1)) _ _ s;rw[zhY lo a n];show A6 _ _ (pure (((sIx n 0 lo:IL):IM),(1:IM),CJ ((sIx n 0 lo:IL):IM) ((sIx n n a:IL):IM) 1)) _ _ s;rw[zhJ];exact AV h
def zkH(xs:Ie AG)(i k:IL):((Bk k).filterMap λ(m:IL)=>xs[((i:IM)+(m:IM)*1).toNat]?).toArray=((xs.toList.drop i).take k).toArray:=by
 have e:(λ(m:IL)=>xs[((i:IM)+(m:IM)*1).toNat]?)=λm=>xs[i+m]?:=by
  funext m
  have:((i:IM)+(m:IM)*1).toNat=i+m:=()
  rw[this]
 rw[e];have:=pick_run xs i k;rw[IK.filterMap_map]at this;have a:((λx=>xs[x]?) ∘ λx=>i+x)=λm=>xs[i+m]?:=rfl;rw[a]at this;rw[this]
theorem getItem_tuple_cut{t sl items l n lo b}{Q:AG->AK->Prop}(c:HA s.heap t items)(o:s.heap.IsSliceOf sl l n .none)(pl:FE l lo)(p:FE n b)
  (r:¬(sIx items.size 0 lo=0/\sIx items.size items.size b=items.size))
  (h:Q (.ref s.heap.objs.size) {s with heap:=s.heap.push {cls:=.type "tuple",data:=.seq ((items.toList.drop (sIx items.size 0 lo)).take (sIx items.size items.size b-sIx items.size 0 lo)).toArray} })
  (u:items.size<=sizeLine):A6 (model prog w) A (getItem (.ref t) (.ref sl)) Q E s:=by
 have a:sizeOk (.seq ((items.toList.drop (sIx items.size 0 lo)).take (sIx items.size items.size b-sIx items.size 0 lo)).toArray):=by show ((items.toList.drop (sIx items.size 0 lo)).take (sIx items.size items.size b-sIx items.size 0 lo)).toArray.size<=sizeLine;rw[AW,DV,En,BF];lia
 have y:sIx items.size items.size b<=items.size:=sIx_le _ _ (AQ _) b;let#[os,d,f,x]:=id o;have g:s.TypeIs (.ref sl) "slice":=#[os,d,f];unfold getItem
 try with_reducible refine D1 ?_
 first|refine AI (AV ?_)|skip
 refine AI (GX c.typeIs ⋯ ?_);refine AI (Bb (name:=AE "__getitem__") c.typeIs BB
  (C1 BB c.typeIs Fj ?_ (GI _ _)))
 show A6 _ _ (EC (.ref t) >>= _) _ _ s;refine AI (Fd c ?_);refine AI (GY g ?_);rw[IR ⋯];refine AI (sliceApplied_gen o pl p ?_);have j:¬((((sIx items.size 0 lo:IL):IM)==0&&(1:IM)==1&&(sIx items.size items.size b-sIx items.size 0 lo)==items.size)=AC):=by intro q;rw[AH,AH]at q;have z:((sIx items.size 0 lo:IL):IM)=0:=eq_of_beq q.1.1;have B:sIx items.size items.size b-sIx items.size 0 lo=items.size:=eq_of_beq q.2;exact r #[(),()]
 show A6 _ _ (if (((sIx items.size 0 lo:IL):IM)==0&&(1:IM)==1&&(sIx items.size items.size b-sIx items.size 0 lo)==items.size)=AC then _ else _) _ _ s;rw[IS j,zkH]
 first
  |exact AI (m:=CT _) (Be (AV #[_,rfl,AV h]) a)
  |exact AI (m:=CT _) (Be (AI (AV (AV #[_,rfl,AV h]))) a)
  |exact AI (AI (m:=CT _) (Be (AV (AV #[_,rfl,AV h])) a))
  |exact AI (AI (m:=CT _) (Be (AV #[_,rfl,AV h]) a))
end
end HT
namespace L2
open PySem PySem.Spec PyProof.Rows
abbrev TO:=St->Hp->(Option IM->Hp->Prop)->Prop
def PO(X:Cx)(e:Option AT)(t:TO):Prop:=
 ∀(C:IK (AJ×Bi)) (s:AK) (B:St) (H:Hp) (Q:Option IM->Hp->Prop),Inv X C B H s->t B H Q ->
  A6 (model X.prog X.w) X.A (evalPart e X.env) (λu b=>∃o a,Inv X C B a b/\FE u o/\Q o a) X.xe s
def ycI:TO:=λ_ H Q=>Q AD H
def zhU{a:IK IM}:∀{us:IK AG},Vals (a.map V.int) us->Fe us a:=by
 induction a with
 |nil=>intro us r;rw[BV]at r;cases r;exact .nil
 |cons n a ih=>
  intro us r;rw[AO]at r
  cases r with
  |cons b c=>
   let#[t,e]:=b;subst e;exact .cons n t (ih c)
section
variable {X:Cx}{e:AT}{te:TE}{lo hi:Option AT}{tl th:TO}{pos p2:CB}
def zm9:PO X AD ycI:=by intro C s B H Q I h;rw[evalPart_none];exact AV #[AD,H,I,.none,h]
def SlR(X:Cx)(r:V->Option IM->Option IM->Hp->VK->Prop):Prop:=
 ∀(C:IK (AJ×Bi)) (s:AK) (B:St) (H:Hp) (x:V) (v a b:AG) (lo hi:Option IM) (c:AJ) (Q:VK),Inv X C B H s->RelV x v->s.heap.IsSliceOf c a b .none->FE a lo->FE b hi->r x lo hi H Q ->
  ∃T id,typeLookup (.type T) "__getitem__"=pure (AA (.builtin id))/\s.TypeIs v T/\A6 (model X.prog X.w) X.A (getItem v (.ref c)) (EP X C B Q) X.xe s
def tSl(r:V->Option IM->Option IM->Hp->VK->Prop)(te:TE)(tl th:TO):TE:=λB H Q=>te B H λx a=>tl B a λl b=>th B b λu c=>r x l u c Q
def zks{r}(j:SlR X r)(m:PE X e te)(n:PO X lo tl)(o:PO X hi th):PE X (.Subscript e (.Slice lo hi AD p2) pos) (tSl r te tl th):=by intro C s B H Q I h;refine HE (thn (m C s B H _ I h) λv p c=>?_);let#[x,t,w,y,z]:=c;refine wpAny_Slice (thn (n C p B t _ w z) λd A c=>?_);let#[l,D,E,G,J]:=c;refine thn (o C A B D _ E J) λf a c=>?_;let#[u,g,L,M,N]:=c;rw[evalPart_none];refine AV ?_;have O:Inv X C B g {a with heap:=a.heap.push {cls:=.type "slice",data:=.fields (IK.toArray [d,f,.none])} }:=L.kept (t':=a.toks) λb ob q=>AR _ q;let#[T,id,U,Y,Z]:=j C {a with heap:=a.heap.push {cls:=.type "slice",data:=.fields (IK.toArray [d,f,.none])} } B g x v d f l u a.heap.objs.size Q O y (ID ..) G M N;show A6 (model X.prog X.w) X.A (subscriptTail e (.Slice lo hi AD p2) v (.ref a.heap.objs.size)) (EP X C B Q) X.xe {a with heap:=a.heap.push {cls:=.type "slice",data:=.fields (IK.toArray [d,f,.none])} };exact tail_any (ops:=[.ref a.heap.objs.size,v]) Y U Z (by ac_rfl)
def ycx(xs:IK V)(lo hi:Option IM):IK V:=(xs.drop (HT.sIx xs.length 0 lo)).take (HT.sIx xs.length xs.length hi-HT.sIx xs.length 0 lo)
def zdW(xs)(lo hi):(ycx xs lo hi).length<=xs.length:=by unfold ycx;rw[DV,En];lia
def ygV(K:AF):V->Option IM->Option IM->Hp->VK->Prop:=λx lo hi H Q=>∃a b,x=.ref a/\SqT K H a b /\
 ¬(HT.sIx b.length 0 lo=0/\HT.sIx b.length b.length hi=b.length)/\∀p,H p=AD->Q (.ref p) (upd H p (.tup (ycx b lo hi)))
def zpH:SlR X (ygV X.K):=by
 intro C s B H x v w y lo hi z Q I l m n p h;let#[a,d,rfl,t,u,q]:=h
 cases l
 let#[f,r,g,j]:=I.tuple t;have c:f.toArray.size=d.length:=by rw[AW];exact r.length.symm
 refine#["tuple",_,BB.lookup,g.typeIs,?_];refine HT.getItem_tuple_cut g m n p (by rw[c];exact u) ?_ (by rw[c];exact j);rw[c];refine#[.ref s.heap.objs.size,_,I.laid (t':=s.toks) (o:=.tup (ycx d lo hi)) (λb A q=>AR _ q) (AQ _) ?_,rfl,q _ (I.hok.fresh (AQ _))];exact#[As (zdW d lo hi) j,_,(r.drop (HT.sIx d.length 0 lo)).take (HT.sIx d.length d.length hi-HT.sIx d.length 0 lo),Fc _ _]
def yfn(K:AF):R2:=λx y H Q=>∃a b d c,x=.ref a/\y=.ref b/\SqT K H a d/\SqT K H b c/\d≠[]/\d.length+c.length<=sizeLine /\
 (c=[]->Q (.ref a) H)/\(c≠[]->∀p,H p=AD->Q (.ref p) (upd H p (.tup (d++c))))
theorem Vals.nil_iff{xs:IK V}{us:IK AG}(r:Vals xs us):us=[] ↔ xs=[]:=by
 cases r with
 |nil=>simp
 |cons _ _=>simp
def zmD:OpR X (binaryOp .Add) (yfn X.K):=by
 intro C s B H x y v u Q I j l h;let#[a,b,m,n,rfl,rfl,p,r,t,f,A,D]:=h
 cases j
 cases l
 let#[E,d,G,_]:=I.tuple p;let#[g,c,p2,_]:=I.tuple r;refine HT.cat_tup G p2 (λz=>t (d.nil_iff.mp z)) (λz=>#[.ref a,H,I,rfl,A (c.nil_iff.mp z)]) (λz=>?_) (by rw[<-d.length,<-c.length];exact f);refine#[.ref s.heap.objs.size,_,I.laid (t':=s.toks) (o:=.tup (m++n)) (λb J q=>AR _ q) (AQ _) ?_,rfl,D (λw=>z (c.nil_iff.mpr w)) _ (I.hok.fresh (AQ _))];exact#[by rw[Ab];exact f,_,d.append c,Fc _ _]
end
def ixN(n:IL)(i:IM):Option IL:=if 0<=i then(if i<n then AA i.toNat else AD)else if -(n:IM)<=i then AA (i+n).toNat else AD
def atI{A:Type}(xs:IK A)(i:IM):Option A:=(ixN xs.length i).bind λj=>xs[j]?
def zjl{n:IL}{i:IM}{j:IL}(h:ixN n i=AA j):seqIndex? i n=AA j/\j<n/\-(n:IM)<=i/\i<n:=by
 unfold ixN at h
 by_cases b:0<=i
 .rw[IR b]at h
  by_cases a:i<n
  .rw[IR a]at h;have e:i.toNat=j:=AX h;exact#[by rw[Gp b a,e],(),(),a]
  .rw[IS a]at h;cases h
 .rw[IS b]at h
  by_cases a:-(n:IM)<=i
  .rw[IR a]at h;have e:(i+n).toNat=j:=AX h;exact#[by rw[seqIndex_neg () a,e],(),a,()]
  .rw[IS a]at h;cases h
def zgV{A}{xs:IK A}{i:IM}{v:A}(h:atI xs i=AA v):∃j,seqIndex? i xs.length=AA j/\xs[j]?=AA v/\j<xs.length/\-(xs.length:IM)<=i/\i<xs.length:=by
 unfold atI at h
 cases e:ixN xs.length i with
 |none=>rw[e]at h;cases h
 |some j=>
  rw[e]at h;let#[a,b,c,d]:=zjl e;exact#[j,a,h,b,c,d]
def ybo(b:AT):Prop:=∀o i,subscripted b AB o i=operate [o,i] (getItem o i)
def IxR(X:Cx)(r:R2):Prop:=
 ∀(b a:AT) (C:IK (AJ×Bi)) (s:AK) (B:St) (H:Hp) (x y:V) (v u:AG) (Q:VK),Inv X C B H s->RelV x v->RelV y u->r x y H Q ->
  subscripted a AB v u=operate [v,u] (getItem v u)->A6 (model X.prog X.w) X.A (subscriptTail b a v u) (EP X C B Q) X.xe s
def MtR(X:Cx)(id:Ii)(r:V->IK V->Hp->VK->Prop):Prop:=
 ∀(C:IK (AJ×Bi)) (s:AK) (B:St) (H:Hp) (x:V) (a:IK V) (v:AG) (b:IK AG) (Q:VK),Inv X C B H s->RelV x v->Vals a b->r x a H Q ->
  A6 (model X.prog X.w) X.A (call (.builtin id) (v::b)) (EP X C B Q) X.xe s
section
variable {X:Cx}{a b:AT}{ta tb:TE}{pos:CB}
theorem IxR.or{r c:R2}(h:IxR X r)(h':IxR X c):IxR X (λx y H Q=>r x y H Q \/ c x y H Q):=by
 intro a b C s B H x y v u Q I d f q g;rcases q with q|q
 .exact h a b C s B H x y v u Q I d f q g
 .exact h' a b C s B H x y v u Q I d f q g
def zrf{r}(c:IxR X r)(d:PE X a ta)(f:PE X b tb)(g:ybo b):PE X (.Subscript a b pos) (tOp r ta tb):=by intro C s B H Q I h;exact HE (zrT d f I h λv u j x y l m n o q=>c a b C j B l x y v u Q m n o q (g _ _))
def yfZ(K:AF):R2:=λx y H Q=>∃p a i v,x=.ref p/\y=.int i/\SqL K H p a/\atI a i=AA v/\Q v H
def yfG(K:AF):R2:=λx y H Q=>∃p a i v,x=.ref p/\y=.int i/\SqT K H p a/\atI a i=AA v/\Q v H
def yfK:R2:=λx y H Q=>∃z i c,x=.str z/\y=.int i/\z.length<=sizeLine/\atI z.cps.toList i=AA c/\Q (.str #[(IK.toArray [c])]) H
def zsk:IxR X (yfZ X.K):=by
 intro c d C s B H x y v u Q I D E h n;let#[p,Y,i,z,rfl,rfl,G,J,q]:=h
 cases D
 let#[t,rfl]:=E;let#[f,r,g,Z]:=I.list G;let#[j,b,L,h3,M,N]:=zgV J;let#[w,o,l]:=r.get L;have O:=r.length;have hn:=zrI;have a:EP X C B Q w s:=#[z,H,I,l,q]
 by_cases A:0<=i
 .have m:i.toNat=j:=by rw[Gp A N]at b;exact AX b
  exact item_listR g.isList A () (by rw[m];simpa using o) a n
 .have m:(i+(f.toArray.size:IM)).toNat=j:=by rw[seqIndex_neg () M]at b;rw[AW,<-O];exact AX b
  exact FF (x:=w) g.isList.typeIs GZ.lookup
   (wpAny_getItem_list_neg (Q:=λr U=>r=w/\EP X C B Q r U) g.isList () (by rw[AW]<;>lia) () (by rw[m];simpa using o) #[rfl,a]) n
def zsl:IxR X (yfG X.K):=by
 intro a b C s B H x y v u Q I g l h m;let#[p,M,i,z,rfl,rfl,n,o,q]:=h
 cases g
 let#[t,rfl]:=l;let#[A,r,f,N]:=I.tuple n;let#[j,D,E,O,U,Y]:=zgV o;let#[w,G,c]:=r.get E;have J:=r.length;have Z:=zrI;have d:EP X C B Q w s:=#[z,H,I,c,q];exact FF (x:=w) f.typeIs BB.lookup
  (getItem_tuple (j:=j) (Q:=λr L=>r=w/\EP X C B Q r L) f () () (by rw[AW,<-J];exact D) (by simpa using G) #[rfl,d]) m
def zq3:IxR X yfK:=by
 intro a b C s B H x y v u Q I f g h l;let#[z,i,c,rfl,rfl,D,m,q]:=h;let#[t,rfl]:=f;let#[E,rfl]:=g;let#[j,d,n,G,o,p]:=zgV m;have r:z.cps.toList.length=z.length:=by simp[ED]
 rw[r]at d o p;have J:=zrI;exact tail_any (HF s z t) slot_str_getitem.lookup (getItem_str (c:=c) (by have w:decide (i < -(2^63:IM))=false:=IT ();have A:decide (i ≥ 2^63)=false:=IT ();rw[w,A,HU]) (by rw[d];simpa using n) #[.str #[(IK.toArray [c])],H,I.tok _,#[_,rfl],q]) l
def rIx(K:AF):R2:=λx y H Q=>yfZ K x y H Q \/ yfG K x y H Q \/ yfK x y H Q
def zhu:IxR X (rIx X.K):=zsk.or (zsl.or zq3)
def zhV(a:IK AG)(n j:IL)(u):FG (·.setIfInBounds j u) {cls:=.type "list",data:=.seq a.toArray n}={cls:=.type "list",data:=.seq (a.set j u).toArray n}:=by simp[FG]
theorem Inv.lst{C:IK (AJ×Bi)}{B:St}{H:Hp}{s:AK}{p:AJ}{xs:IK V}(I:Inv X C B H s)(h:H p=AA (.lst xs)):
  ∃(a:IK AG) (n:IL),Vals xs a/\s.heap.get? p=AA {cls:=.type "list",data:=.seq a.toArray n}/\xs.length<=sizeLine:=by let#[z,a,n,r,e]:=I.hok p _ h;exact#[a,n,r,e,z]
theorem Inv.lstUpd{C:IK (AJ×Bi)}{B:St}{H:Hp}{s:AK}{p:AJ}{xs c:IK V}{a its':IK AG}{n d:IL}{f:Bi->Bi}(I:Inv X C B H s)(h:H p=AA (.lst xs))
  (g:s.heap.get? p=AA {cls:=.type "list",data:=.seq a.toArray n}) (hf:f {cls:=.type "list",data:=.seq a.toArray n}={cls:=.type "list",data:=.seq its'.toArray d}) (r:Vals c its') (j:c.length<=sizeLine) (t:IL):
  Inv X C B (upd H p (.lst c)) {s with heap:=s.heap.update p f,toks:=t}:=by
 have e:(s.heap.update p f).get? p=AA {cls:=.type "list",data:=.seq its'.toArray d}:=by rw[FU f g (by rw[hf]<;>rfl),hf]
 refine I.write (x:=p) (e:=p) (by rw[h];trivial) (.inl rfl) (λb u l q=>(DL _ _ (Ax l)).trans q) #[_,e] ?_;exact#[j,its',d,r,e]
def ydl:V->V->V->Hp->(Hp->Prop)->Prop:=λo i v H Q=>∃p a k j,o=.ref p/\i=.int k/\H p=AA (.lst a)/\ixN a.length k=AA j/\Q (upd H p (.lst (a.set j v)))
def zg8:yfH X ydl:=by
 intro C s B H o i v J L u Q I y z A h;let#[p,D,k,j,rfl,rfl,g,E,q]:=h
 cases y
 let#[t,rfl]:=z;let#[a,n,r,c,G]:=I.lst g;let#[b,M,l,m]:=zjl E;have d:=r.length;have N:=zrI;have w:Inv X C B (upd H p (.lst (D.set j v))) {s with heap:=s.heap.update p (FG (·.setIfInBounds j u))}:=
  I.lstUpd g c (zhV a n j u) (r.set A j) (by rw[BY];exact G) s.toks
 by_cases x:0<=k
 .have f:k.toNat=j:=by rw[Gp x m]at b;exact AX b
  exact PySem.W.ki_setAt c x () (by rw[AW,<-d];exact m) (by rw[f];exact#[_,w,q])
 .have f:(k+(a.toArray.size:IM)).toNat=j:=by rw[seqIndex_neg () l]at b;rw[AW,<-d];exact AX b
  exact PySem.W.ki_setBack c () (by rw[AW,<-d];exact l) () (by rw[f];exact#[_,w,q])
def zfP(lo a)(n:IL):(sliceBounds lo a AD n).1=((HT.sIx n 0 lo:IL):IM)/\(sliceBounds lo a AD n).2.1=((HT.sIx n n a:IL):IM)/\(sliceBounds lo a AD n).2.2=1:=by
 refine#[?_,?_,rfl]
 .cases lo with
  |none=>simp[sliceBounds,HT.sIx]
  |some i=>
   erw[sliceBounds,HT.sIx,Ge,show (1:IM) > 0 by decide,IV]
   by_cases h:i<0
   .simp only[h,IV]<;>lia
   .simp only[h,Ib]<;>lia
 .cases a with
  |none=>simp[sliceBounds,HT.sIx]
  |some i=>
   erw[sliceBounds,HT.sIx,Ge,show (1:IM) > 0 by decide,IV]
   by_cases h:i<0
   .simp only[h,IV]<;>lia
   .simp only[h,Ib]<;>lia
def zfC(a:IK AG)(lo b):slicePick a.toArray lo b AD=((a.drop (HT.sIx a.length 0 lo)).take (HT.sIx a.length a.length b-HT.sIx a.length 0 lo)).toArray:=by let#[c,d,f]:=zfP lo b a.toArray.size;unfold slicePick;rw[c,d,f];erw[sliceRange_one,pick_run,AW]<;>rfl
def yhH(K:AF):V->Option IM->Option IM->Hp->VK->Prop:=λx lo c H Q=>∃a b,x=.ref a/\SqL K H a b/\∀p,H p=AD->Q (.ref p) (upd H p (.lst (ycx b lo c)))
def zit:SlR X (yhH X.K):=by
 intro C s B H x v w y lo f z Q I j l m n h;let#[a,c,rfl,p,q]:=h
 cases j
 let#[t,r,g,u]:=I.list p;have d:=r.length;refine#["list",_,GZ.lookup,g.isList.typeIs,?_];refine wpAny_getItem_list_slice g.isList l m n .none (by simp) ?_ (by rw[AW]<;>lia);rw[zfC,<-d];refine#[.ref s.heap.objs.size,_,I.laid (t':=s.toks) (o:=.lst (ycx c lo f)) (λb A q=>AR _ q) (AQ _) ?_,rfl,q _ (I.hok.fresh (AQ _))];exact#[As (zdW c lo f) u,_,0,(r.drop (HT.sIx c.length 0 lo)).take (HT.sIx c.length c.length f-HT.sIx c.length 0 lo),A8 _ rfl]
def yax:V->IQ
 |.non=>AC
 |.bl _=>AC
 |.int _=>AC
 |.str _=>AC
 |_=>AB
def eqV:V->V->IQ
 |.non,.non=>AC
 |.bl a,.bl b=>a==b
 |.bl a,.int b=>(if a then 1 else 0)==b
 |.int a,.bl b=>a==(if b then 1 else 0)
 |.int a,.int b=>a==b
 |.str a,.str b=>a==b
 |_,_=>AB
def zqr{A s y x u v}(f:RelV y u)(c:RelV x v)(j:yax y=AC)(g:yax x=AC):HG A s u v (eqV y x):=by
 cases y with
 |non=>
  cases f
  cases x with
  |non=>cases c;exact SeqAt.EqAt.same _
  |bl b=>cases c;exact SeqAt.EqAt.none_bool b
  |int b=>let#[t,rfl]:=c;exact SeqAt.EqAt.none_int b t
  |str b=>let#[t,rfl]:=c;exact SeqAt.EqAt.none_str b t
  |_=>exact IU (show AB=AC from g) AN
 |bl a=>
  cases f
  cases x with
  |non=>cases c;exact SeqAt.EqAt.bool_none a
  |bl b=>cases c;exact SeqAt.EqAt.bool_bool a b
  |int b=>let#[t,rfl]:=c;exact SeqAt.EqAt.bool_int a b t
  |str b=>let#[t,rfl]:=c;exact SeqAt.EqAt.bool_str a b t
  |_=>exact IU (show AB=AC from g) AN
 |int a=>
  let#[d,rfl]:=f
  cases x with
  |non=>cases c;exact SeqAt.EqAt.int_none a d
  |bl b=>cases c;exact SeqAt.EqAt.int_bool a d b
  |int b=>let#[t,rfl]:=c;exact SeqAt.EqAt.int_int a d b t
  |str b=>let#[t,rfl]:=c;exact GA a d b t
  |_=>exact IU (show AB=AC from g) AN
 |str a=>
  let#[d,rfl]:=f
  cases x with
  |non=>cases c;exact SeqAt.EqAt.str_none a d
  |bl b=>cases c;exact SeqAt.EqAt.str_bool a d b
  |int b=>let#[t,rfl]:=c;exact GB a d b t
  |str b=>let#[t,rfl]:=c;exact SeqAt.EqAt.str_str a d b t
  |_=>exact IU (show AB=AC from g) AN
 |_=>exact IU (show AB=AC from j) AN
def eqU(x:V)(u:AG):IQ:=match u with
 |.none=>eqV .non x
 |.bool b=>eqV (.bl b) x
 |.int i _=>eqV (.int i) x
 |.str z _=>eqV (.str z) x
 |_=>AB
def zgj{x y u}(r:RelV y u)(f:yax y=AC):eqU x u=eqV y x:=by
 cases y with
 |non=>cases r;rfl
 |bl b=>cases r;rfl
 |int i=>let#[t,rfl]:=r;rfl
 |str z=>let#[t,rfl]:=r;rfl
 |_=>exact IU (show AB=AC from f) AN
def zd4{x}:∀{xs}{us:IK AG},Vals xs us->xs.all yax=AC->us.any (eqU x)=xs.any λy=>eqV y x
 |_,_,.nil,_=>rfl
 |y::xs,u::us,.cons r t,f=>by rw[BE,AH]at f;rw[Az,Az,zgj r f.1,zd4 t f.2]
def zbD{A s x v}(b:RelV x v)(c:yax x=AC):∀{xs}{us:IK AG},Vals xs us->xs.all yax=AC->∀u∈us,HG A s u v (eqU x u)
 |_,_,.nil,_=>λu a=>by cases a
 |y::xs,u::us,.cons r t,f=>λd a=>by
  rw[BE,AH]at f;rcases AS.mp a with rfl|a
  .rw[zgj r f.1];exact zqr r b f.1 c
  .exact zbD b c t f.2 d a
def inV(x:V)(xs:IK V):IQ:=xs.any λy=>eqV y x
def rIn(K:AF)(b:IQ):R2:=λx y H Q=>∃p a,y=.ref p/\(SqL K H p a \/ SqT K H p a)/\yax x=AC/\a.all yax=AC/\Q (.bl (if b then !inV x a else inV x a)) H
def zfX:OpR X (compareOp .In) (rIn X.K AB):=by
 intro C s B H x y v u Q I f j h;let#[p,m,rfl,b,g,fs,q]:=h
 cases j
 rcases b with b|b
 .let#[a,r,c,l]:=I.list b;refine Gu (eqU x) c.isList (λw d=>zbD f g r fs w (by simpa using d)) #[.bl _,H,I,rfl,?_];rw[show a.toArray.any (eqU x)=a.any (eqU x)by simp,zd4 r fs];exact q
 .let#[a,r,c,l]:=I.tuple b;refine Gf (eqU x) c (λw d=>zbD f g r fs w (by simpa using d)) #[.bl _,H,I,rfl,?_];rw[show a.toArray.any (eqU x)=a.any (eqU x)by simp,zd4 r fs];exact q
def zdv:OpR X (compareOp .NotIn) (rIn X.K AC):=by
 intro C s B H x y v u Q I f j h;let#[p,m,rfl,b,g,fs,q]:=h
 cases j
 rcases b with b|b
 .let#[a,r,c,l]:=I.list b;refine SeqAt.notIn_listAt (eqU x) c.isList (λw d=>zbD f g r fs w (by simpa using d)) #[.bl _,H,I,rfl,?_];rw[show a.toArray.any (eqU x)=a.any (eqU x)by simp,zd4 r fs];exact q
 .let#[a,r,c,l]:=I.tuple b;refine SeqAt.notIn_tupleAt (eqU x) c (λw d=>zbD f g r fs w (by simpa using d)) #[.bl _,H,I,rfl,?_];rw[show a.toArray.any (eqU x)=a.any (eqU x)by simp,zd4 r fs];exact q
def zfO:yU X (.builtin "len") (λj H Q=>∃p b,j=[.ref p]/\(SqL X.K H p b \/ SqT X.K H p b)/\Q (.int b.length) H):=by
 intro C s B H j n Q I r h;let#[p,b,rfl,c,q]:=h;let#[u,rfl,l]:=vals1 r
 cases l
 have o:=zrI;rcases c with c|c
 .let#[d,f,g,m]:=I.list c;have a:=f.length;exact Calls.call_len_list g.isList (by erw[AW]<;>lia) #[.int b.length,H,I.tok _,#[s.toks+1,by rw[AW,a]],q]
 .let#[d,f,g,m]:=I.tuple c;have a:=f.length;exact len_tuple g (by erw[AW]<;>lia) #[.int b.length,H,I.tok _,#[s.toks+1,by rw[AW,a]],q]
def zgc:yU X (.builtin "len") (λa H Q=>∃z,a=[.str z]/\z.length<=sizeLine/\Q (.int z.length) H):=by intro C s B H a b Q I r h;let#[z,rfl,c,q]:=h;let#[u,rfl,t,rfl]:=vals1 r;have d:=zrI;exact len_str () #[.int z.length,H,I.tok _,#[_,rfl],q]
def zgi:yU X (.type "list") (λE H Q=>∃p d,E=[.ref p]/\(SqL X.K H p d \/ SqT X.K H p d)/\∀l,H l=AD->Q (.ref l) (upd H l (.lst d))):=by
 intro C s B H E L Q I r h;let#[p,d,rfl,j,q]:=h;let#[u,rfl,J]:=vals1 r
 cases J
 have m:∀(a:IK AG),Vals d a->d.length<=sizeLine->∀(c:Au) (f:IL),(∀b G,s.heap.get? b=AA G->c.get? b=AA G) ->
   c.get? s.heap.objs.size=AA {cls:=.type "list",dict:=AD,data:=.seq a.toArray f,slots:=(IK.toArray [])}->EP X C B Q (.ref s.heap.objs.size) {s with heap:=c}:=λa g t c f w e=>
  #[.ref s.heap.objs.size,_,I.laid (t':=s.toks) w (AQ _) (show yQ X.prog X.w _ c _ (.lst d)from #[t,a,f,g,e]),rfl,q _ (I.hok.fresh (AQ _))]
 rcases j with j|j
 .let#[a,g,y,t]:=I.list j;have x:=g.length;let#[o,z,A,n,D]:=y.isList;exact call_list_seq p (.inl rfl) z A D (λc f w e=>m a g t c f w e) (by erw[AW]<;>lia)
 .let#[a,g,y,t]:=I.tuple j;have x:=g.length;let#[o,z,A,n,D]:=y;exact call_list_seq p (.inr rfl) z A D (λc f w e=>m a g t c f w e) (by erw[AW]<;>lia)
def zc9:yU X (.type "tuple") (λm H Q=>∃p c,m=[.ref p]/\((SqL X.K H p c/\∀l,H l=AD->Q (.ref l) (upd H l (.tup c))) \/ (SqT X.K H p c/\Q (.ref p) H))):=by
 intro C s B H m A Q I r h;let#[p,c,rfl,h]:=h;let#[u,rfl,x]:=vals1 r
 cases x
 rcases h with⟨f,q⟩|⟨f,q⟩
 .let#[a,g,j,n]:=I.list f;have t:=g.length;refine call_tuple_list j.isList (λd y=>?_) (by erw[AW]<;>lia);have w:Inv X C B H {s with heap:=d}:=I.kept (t':=s.toks) y;have z:Inv X C B (upd H d.objs.size (.tup c)) {s with heap:=d.push {cls:=.type "tuple",data:=.seq a.toArray} }:=
   w.laid (t':=s.toks) (λb o e=>AR _ e) (AQ _) (show yQ X.prog X.w _ _ _ (.tup c)from #[n,a,g,Fc _ _])
  exact#[.ref d.objs.size,_,z,rfl,q _ (w.hok.fresh (AQ _))]
 .let#[a,g,j,n]:=I.tuple f;exact call_tuple_same j #[.ref p,H,I,rfl,q]
def tyV(K:AF)(T:Ii)(x:V)(H:Hp):Prop:=match x with
 |.str _=>T="str"
 |.int _=>T="int"
 |.ref p=>(T="list"/\∃b,SqL K H p b) \/ (T="tuple"/\∃o,K.lookup p=AA o/\o.cls=.type "tuple"/\o.dict=AD) \/
   (T="dict"/\((∃a,H p=AA (.dK a)) \/ ∃a,H p=AA (.dT a))) \/ (T="set"/\∃S n,H p=AA (.set S n))
 |_=>IY
def zo9{C B H s T x v}(I:Inv X C B H s)(r:RelV x v)(d:tyV X.K T x H):
  s.TypeIs v T/\∀a,v=.ref a->∃l,s.heap.get? a=AA l/\l.dict=none:=by
 cases x with
 |str z=>
  let#[t,rfl]:=r
  cases (show T="str" from d)
  exact#[HF s z t,λ_ e=>nomatch e]
 |int i=>
  let#[t,rfl]:=r
  cases (show T="int" from d)
  exact#[typeIs_int s i t,λ_ e=>nomatch e]
 |ref p=>
  cases r
  rcases d with⟨rfl,y,q⟩|⟨rfl,o,b,u,f⟩|⟨rfl,b⟩|⟨rfl,S,n,b⟩
  .let#[w,_,m,_]:=I.list q;refine#[m.isList.typeIs,λa e=>?_]
   cases e
   let#[o,n,e,c,f,_]:=m;exact#[o,e,f]
  .refine#[#[o,I.kIn p o b,u],λa e=>?_]
   cases e
   exact#[o,I.kIn _ o b,f]
  .have z:∃o,s.heap.get? p=AA o/\o.ExactDict:=by
    rcases b with⟨g,b⟩|⟨g,b⟩
    .let#[_,_,_,_,o,_,_,e,ex,_]:=I.hok p _ b;exact#[o,e,ex]
    .let#[_,_,_,_,o,_,_,e,ex,_]:=I.hok p _ b;exact#[o,e,ex]
   let#[o,e,ex]:=z;refine#[#[o,e,ex.1],λa j=>?_]
   cases j
   exact#[o,e,ex.2.1]
  .let#[o,_,_,_,e,ex,_]:=I.hok p _ b;refine#[#[o,e,ex.1],λa j=>?_]
   cases j
   exact#[o,e,ex.2.1]
 |_=>exact BM d
def tBM(K:AF)(T:Ii)(r:V->IK V->Hp->VK->Prop)(b:TE)(t:TA):TE:=λB H Q=>b B H λx a=>tyV K T x a/\t B a λc d=>r x c d Q
variable {o e:AT}{es:IK AT}{to:TE}{t:TA}{name:AL}{apos cpos:CB}{T id:Ii}{r:V->IK V->Hp->VK->Prop}
def znM(n:PlainAttrs T)(d:Slot T name id)(g:typeOf (.builtin id)=pure (.type "method_descriptor"))(p:MtR X id r)(q:PE X o to)(u:PA X (e::es) t)
  (b:attributeBase o name X.env (eval o X.env)=eval o X.env:=by rfl)
  (f:((backTo cpos (starEach (e::es) X.env)).all (λx=>!x.1)&&(backToKw cpos (keywordEach [] X.env)).all (λx=>x.1.isSome)
   && decide ((e::es).length+([]:IK Br).length+(if ([]:IK Br).isEmpty then 0 else 1)<30))=true:=by rfl)
  (c:(apos.endLine==cpos.line)=true:=by rfl) (w:starEach (e::es) X.env=(AB,eval e X.env)::starEach es X.env:=by rfl) (a:(backTo cpos (starEach es X.env)).any (·.1)=false:=by rfl):
  PE X (.Call (.Attribute o name apos) (e::es) [] cpos) (tBM X.K T r to t):=by intro C s B H Q I h;refine wpAny_Call_method_late b f c rfl (thn (q C s B H _ I h) λv y z=>?_);let#[x,A,j,l,D,E]:=z;let#[G,J]:=zo9 j l D;refine#[T,id,n,d,g,G,J,?_];have m:=u cpos C y B A _ j E;rw[w]at m ⊢;refine FH (by show (AB || (backTo cpos (starEach es X.env)).any (·.1))=AB;rw[a]<;>rfl) (D7 ?_);exact thn m λL M #[N,O,U,Y,Z]=>p C M B O x N v L Q U l Y Z
/- xs.append(e),list.index on a module's tuple .. are MtR facts of 06m -/
end
def MtM(X:Cx)(id:Ii)(r:V->IK V->Hp->VK->Prop):Prop:=
 ∀(C:IK (AJ×Bi)) (s:AK) (B:St) (H:Hp) (x:V) (a:IK V) (v:AG) (b:IK AG) (Q:VK),Inv X C B H s->RelV x v->Vals a b->r x a H Q ->
  A6 (model X.prog X.w) X.A (call (.builtin id) (v::b)) (EP X C B Q) X.xe s
theorem Vals.one:∀{x:V} {us:IK AG},Vals [x] us->∃u,us=[u]/\RelV x u
  :=by intro x us h;rcases h with _|⟨r,q⟩;cases q;exact#[_,rfl,r]
section
variable {X:Cx}{B:IK (AJ×Bi)}{A:St}{H:Hp}{s:AK}{l b:AJ}{xs ys zs:IK V}
theorem Inv.lset{a its':IK AG}{n:IL}{f:Ie AG->Ie AG}{t':IL}(I:Inv X B A H s)(b:H l=AA (.lst xs))
  (e:s.heap.get? l=AA {cls:=.type "list",data:=.seq a.toArray n}) (hf:f a.toArray=its'.toArray) (c:Vals ys its') (d:ys.length<=sizeLine):
  Inv X B A (upd H l (.lst ys)) {s with heap:=s.heap.update l (FG f),toks:=t'}:=by have q:=PySem.IsL.update e f;rw[hf]at q;refine I.write (x:=l) (e:=l) (by rw[b];exact trivial) (.inl rfl) (λm u g j=>(DL s.heap (FG f) (Ax g)).trans j) #[_,q] ?_;exact#[d,its',_,c,q]
theorem Inv.lnew{a:IK AG}{t':IL}(I:Inv X B A H s)(b:Vals ys a)(c:ys.length<=sizeLine):
  Inv X B A (upd H s.heap.objs.size (.lst ys)) {s with heap:=s.heap.push {cls:=.type "list",data:=.seq a.toArray},toks:=t'}:=
 I.laid (λ_ _ q=>AR _ q) (AQ _) #[c,a,0,b,A8 _ rfl]
theorem Inv.fresh(I:Inv X B A H s):H s.heap.objs.size=none:=I.hok.fresh (AQ _)
theorem Inv.lstM(I:Inv X B A H s)(b:H l=AA (.lst xs)):xs.length<=sizeLine/\∃(a:IK AG) (n:IL),Vals xs a/\xs.length=a.length/\s.heap.get? l=AA {cls:=.type "list",data:=.seq a.toArray n}:=by let#[z,a,n,r,e]:=I.hok l _ b;exact#[z,a,n,r,r.length,e]
end
section
variable {X:Cx}
def yc1:V->IK V->Hp->VK->Prop:=λx b H Q=>∃l a y,x=.ref l/\b=[y]/\H l=AA (.lst a)/\a.length<sizeLine/\Q .non (upd H l (.lst (a++[y])))
def zf3:MtM X "list.append" yc1:=by
 intro B s A H x g v j Q I c d h;let#[l,m,y,rfl,rfl,b,o,q]:=h
 cases c
 let#[u,rfl,f]:=d.one;let#[z,a,n,r,p,e]:=I.lstM b;refine EF FV #[_,e,rfl] F.entry_list_append (F.args_list_append_2 _ _) (PySem.list_append l a.toArray n u (by rw[AW];lia)) #[e,?_];refine#[.non,_,I.lset (its':=a++[u]) b e (by simp) (r.append (.cons f .nil)) ?_,rfl,q];rw[Ab,DQ];lia
def ygO:R2:=λx y H Q=>∃l b a c,x=.ref l/\y=.ref b/\H l=AA (.lst a)/\H b=AA (.lst c)/\a.length+c.length<=sizeLine/\∀p,H p=AD->Q (.ref p) (upd H p (.lst (a++c)))
def zl9:OpR X (binaryOp .Add) ygO:=by
 intro B s A H x y v u Q I d f h;let#[l,b,w,C,rfl,rfl,g,j,D,q]:=h
 cases d
 cases f
 let#[z,c,n,r,E,e]:=I.lstM g;let#[G,a,J,m,o,p]:=I.lstM j;refine PySem.P.add_list e p ?_ (by rw[AW,AW];lia);have t:c.toArray++a.toArray=(c++a).toArray:=by simp
 rw[t];exact#[.ref _,_,I.lnew (t':=s.toks) (r.append m) (by rw[Ab];lia),rfl,q _ I.fresh]
end
section
variable {prog:Aa}{w:Ai}{A:Ak}{E:AG->AK->Prop}{s:AK}
end
section
variable {X:Cx}
end
end L2
namespace Att
open PySem PySem.W PySem.Calls PyProof.Rows
def zer{P h}:∀(c:IK IM)d,WellAll P h d (c.map IJ)->Fe d c:=by
 intro c
 induction c with
 |nil=>
  intro d w;rw[BV]at w
  cases w
  exact .nil
 |cons n c ih=>
  intro d w;rw[AO]at w
  cases w with
  |cons a b=>
   cases a
   exact .cons _ _ (ih _ b)
def zke{l:Ex}{n:IL}(x:l.most=AA n){P h}{args:IK WData}{c}
  (f:l.row.toRowW.claim.pre args=AC) (p:WellAll P h c args):
  ∃a u b,c=[Ae a]/\args=[WData.list (b.map IJ)]/\h.get? a=AA {cls:=.type "list",data:=.seq u.toArray}/\Fe u b/\b.length<=n:=by
 have t:WShape.hasAll [] args [.list .int]=true:=(pre_splitW f).1;have w:l.pre.holds [] {args:=args}=true:=(pre_splitW f).2;let#[d,r,rfl,y,z]:=hasAllW_cons t;obtain rfl:=hasAllW_nil z;let#[E,rfl,A]:=hasW_list y;let#[b,rfl]:=items_int A;have g:b.length<=n:=by
  unfold OpenLaw.pre at w;have m:(WTm.not (.lt (.lit (.int (n:IM))) (.len (.arg 0)))).holds [] {args:=[.list (b.map .int)]}=true:=by have m:=(holds_andW w).1;rw[x]at m;exact m
  have o:=condW_of m (w_not (w_lt w_lit (w_len_list (w_arg rfl))));rw[Aq]at o;refine IL.le_of_not_lt λq=>?_;have B:(n:IM)<((b.length:IL):IM):=()
  first
   |(rw[IW B]at o;exact IU o ⋯)
   |(simp at o;lia)
 cases p with
 |cons w1 C=>
  cases C
  cases w1 with
  |list D j=>exact#[_,_,b,rfl,rfl,D,zer b _ j,g]
def zj8(l:Ex)(args):l.row.toRowW.claim.post args (.bool AC) args=true:=
 postW_of (r:=l.row.toRowW) (X:=(AC==AC))
  (show IE [] (.bool AC) .bool=AC by first|rfl|decide|simp[IE,WShape.arms,WShape.armsAll])
  (show (WTm.eq .res (.lit (.bool AC))).value [] {args:=args,res:=AA (.bool AC),after:=args}=AA (.bool (AC==AC))from w_eq_bool (w_res rfl) w_lit) rfl
theorem attach_call{l:Ex}{n:IL}{q c J}{L:Ai->Au->Prop}{d:DefRec}
  (U:l.most=AA n) (B:d.params.defaults=[])
  (call:∀w(g b:AK)x C(m:AJ)(o:Bi)D y doc(a:AJ)(vs:IK AG)(z:IK IM),
   Ground q c [] J w g x C b.heap->L w b.heap ->
   b.heap.get? m=AA o->o.data=.func (docDef d.name d.params d.body d.scope D y doc)->b.heap.CodeRec y d.name->x d.name=AA (.ref m) ->
   b.heap.get? a=AA {cls:=.type "list",data:=.seq vs.toArray}->Fe vs z->z.length<=n->b.gens=(IK.toArray []) ->
   codeAny (model l.prog w) callerA (.call (.ref m) #[[.ref a],[]]) (λr A=>r=.ok (.ret (.bool AC))/\OldK b.heap A.heap/\A.os=b.os/\DF A.gens) b):
  Gy q c J L l.row.toRowW d [] (λf vs=>HH f vs):=by intro w g b x C G Y m o D y doc X kV Z hd E M H hg N O as p Q hrd I hlo;obtain rfl:X=.none:=Dflts.none M B;obtain rfl:kV=.none:=Dflts.noKw M;let#[a,vs,z,rfl,rfl,t,j,u]:=zke U p I;refine enter_call (DH (call w g b x C m o D y doc a vs z G Y Z (fd_plain hd) E H t j u hg) λr A hq=>?_);let#[rfl,h2,h3,h4]:=hq;exact#[.inl #[.bool AC,.bool AC,[],rfl,λ_=>rfl,.bool AC,zj8 l _,λ_=>#[IH,λ_ hm=>(nomatch hm)]],h2,h3,h4]
section
variable {prog:Aa}{w:Ai}{A:Ak}{E:AG->AK->Prop}{s:AK}{K:AF}
end
end Att
namespace L2
open PySem PySem.Spec PyProof.Rows
def zgk:∀{vs}{a:IK IM},Fe vs a->Vals (a.map V.int) vs
 |_,_,.nil=>.nil
 |_,_,.cons n t h=>.cons #[t,rfl] (zgk h)
def Only(H:Hp):Prop:=∀b,H b=AD \/ ∃o a,H b=AA (.frz o (.lst a))
def zlm{P w}{K:AF}{A Q CX}{k:IL}{U a:AJ}{fd}{x:AL}{sp}{c:AK}{vs:IK AG}{B}
  (KX:K.In c.heap) (C:c.heap.Ns mainGlobals A) (g:c.heap.Ns builtinsNs Q) (X:∀x:AL,x ≠ "__name__"->Q x=bootBuiltins x) (D:c.heap.NoLimit) (hg:c.gens=(IK.toArray []))
  (O:c.heap.get? a=AA {cls:=.type "list",data:=.seq vs.toArray}) (hi:Fe vs B) (hl:B.length<=sizeLine) (hr:yav k callerA)
  (F:∀j:Au,K.In j->j.Ns mainGlobals A->yaG P w K A j CX k U fd [x] sp) (y:∀s(u:AG),EV s fd #[[u],[]] [(x,u)])
  (Y:∀H:Hp,Only H->SqL K H a (B.map V.int)->sp [.ref a] H (λv _=>v=.bl AC) λ_ _ _=>IY)
  (Z:∀H e l,CX [] H c (λ_ _ _=>IY) e l->IY):
  codeAny (model P w) callerA (.call (.ref U) #[[.ref a],[]]) (λr l=>r=.ok (.ret (.bool AC))/\OldK c.heap l.heap/\l.os=c.os/\DF l.gens) c:=by
 have rv:=zgk hi;have lenV:=hi.length;have t:∀H:Hp,Only H->SqL K H a (B.map V.int)->HOk P w H c.heap->(∀b,H b≠AD->b=a)->(H a≠AD->K.lookup a=AD) ->
   codeAny (model P w) callerA (.call (.ref U) #[[.ref a],[]]) (λr l=>r=.ok (.ret (.bool AC))/\OldK c.heap l.heap/\l.os=c.os/\DF l.gens) c:=by
  intro H hO hS E hA hK;have f:∀{b:AJ} {o:Bi},c.heap.get? b=AA o->H b=AD->(ycr c.heap H).get? b=AA o:=λe n=>zlu e n;have noA:∀{b:AJ} {o:Bi} {G:Ie CD} {I:IL},c.heap.get? b=AA o->o.data=.dict G I->H b=none:=λ{b o G I} e d=>by
   cases q:H b with
   |none=>rfl
   |some u=>
    have e':b=a:=hA b (by rw[q];simp);subst e';rw[O]at e;cases e;have d':Data.seq vs.toArray _=Data.dict G I:=d
    cases d'
  have p:∀{b:AJ} {m:AL->Option AG},c.heap.Ns b m->(ycr c.heap H).Ns b m:=λ{b m} #[o,G,I,e,d,r]=>#[o,G,I,f e (noA e d),d,r];have J:K.In (ycr c.heap H):=λb o e=>f (KX b o e) (by
   cases q:H b with
   |none=>rfl
   |some u=>
    have e':b=a:=hA b (by rw[q];simp);subst e';rw[hK (by rw[q];simp)]at e;cases e)
  have hM:Mod K A (ycr c.heap H):=#[J,p C,#[Q,p g,X],let #[mc,h1,h2]:=D;#[mc,p h1,h2]];have e0:ycg P w K A (ycr c.heap H) callerA [] c H:=#[rfl,hM,λb o e=>zmN e,Hj (ziV _ _),trivial,λb g=>IU (show b∈([]:IK AJ)from g) (by simp),E,.of_eq hg];refine DH ((F _ J (p C)).run callerA [] c H #[[.ref a],[]] [.ref a] [.ref a] _ _ hr e0 (y c (.ref a)) (.cons rfl .nil) (Y H hO hS)) λr l h=>?_
  cases r with
  |error e=>exact(Z H e l h).elim
  |ok fl=>
   cases fl with
   |next=>exact BM h
   |brk=>exact BM h
   |cont=>exact BM h
   |ret u=>
    let#[v,H',os,L,un,M,r',q]:=h;have q':v=.bl true:=q;subst q';obtain rfl:u=Ds true:=r';refine#[rfl,OldK.of_keep λb o e=>?_,os,L]
    cases q:H b with
    |none=>exact un.keep b o e q (by intro z;exact IU (show b∈([]:IK AJ)from z) (by simp)) (by simp)
    |some u=>
     rcases hO b with z|⟨ob,xs,z⟩
     .rw[q]at z;cases z
     .have z2:=un.frzs b ob _ z;let#[e1,_]:=E b _ z;let#[e2,_]:=M b _ z2;rw[e]at e1;cases e1;exact e2
 cases hk:K.lookup a with
 |some o=>
  have e:=KX a o hk;rw[O]at e
  cases e
  refine t (λ_=>AD) (λ_=>.inl rfl) (.inr #[_,vs.toArray,_,hk,rfl,rfl,rfl,by rw[AW,lenV];exact hl,by simpa using rv]) (λb u z=>by have N:(AD:Option HO)=AA u:=z;cases N) (λb z=>IU rfl z) λz=>IU rfl z
 |none=>
  refine t (λb=>if b=a then AA (.frz {cls:=.type "list",data:=.seq vs.toArray} (.lst (B.map V.int)))else AD) (λb=>?_) (.inl (.inr #[{cls:=.type "list",data:=.seq vs.toArray},IR rfl])) (λb u z=>?_) (λb z=>?_) λ_=>hk
  .by_cases g:b=a
   .exact .inr #[_,_,IR g]
   .exact .inl (IS g)
  .by_cases g:b=a
   .have N:=(IR g).symm.trans z
    cases N
    subst g;exact#[O,by rw[Aq];exact hl,vs,_,rv,O]
   .have N:=(IS g).symm.trans z
    cases N
  .by_cases g:b=a
   .exact g
   .exact IU (IS g) z
theorem walk_of{l:Ex}{n k:IL}{q g M}{E:Ai->Au->Prop}{d:DefRec}{K:Params->AF}{CX:Ai->CXT}{sp:Ai->Sp}{x:AL}
  (N:l.most=AA n) (z:n<=sizeLine) (A:d.params.defaults=[]) (O:yav k callerA)
  (Q:∀w(h:Au),E w h->(K w.params).In h)
  (F:∀(w:Ai)(m:AL->Option AG)t(h:Au),(K w.params).In h->h.Ns mainGlobals m->m d.name=AA (.ref t) ->
   ∃fd:Aw,(∀s(u:AG),EV s fd #[[u],[]] [(x,u)]) /\
    ∀b:Au,(K w.params).In b->b.Ns mainGlobals m->yaG l.prog w (K w.params) m b (CX w) k t fd [x] (sp w))
  (B:∀(w:Ai)(H:Hp)a(y:IK IM),y.length<=n->Only H->SqL (K w.params) H a (y.map V.int)->sp w [.ref a] H (λv _=>v=.bl AC) λ_ _ _=>IY)
  (C:∀w H s e(s':AK),CX w [] H s (λ_ _ _=>IY) e s'->IY):
  Gy q g M E l.row.toRowW d [] (λf I=>HH f I):=by refine Att.attach_call N A λw J p m mb t o pm cd doc a I y G Y ho hd U D r j c X=>?_;have L:=Q w _ Y;let#[fd,Z,hF]:=F w m t _ L G.T.g D;exact zlm L G.T.g G.T.b G.T.builtins G.T.nolimit X r j (As c z) O hF Z (λH hO hS=>B w H a y c hO hS) λH e s'=>C w H p e s'
def inClass(s:Bj)(j:IL):Stmt:=match s with
 |.ClassDef _ _ _ a _ _ _ _ _ _ _=>a.getD j (.Pass #[0,0,0,0])
 |_=>.Pass #[0,0,0,0]
def yad(s:Bj):Arguments:=match s with
 |.FunctionDef _ a _ _ _ _ _ _ _ _=>a
 |_=>{posonlyargs:=[],args:=[],vararg:=AD,kwonlyargs:=[],kw_defaults:=[],kwarg:=AD,defaults:=[]}
def yN(s:Bj):IK Stmt:=match s with
 |.FunctionDef _ _ b _ _ _ _ _ _ _=>b
 |_=>[]
def yh(s:Bj):Scope:=match s with
 |.FunctionDef _ _ _ _ _ _ a _ _ _=>a
 |_=>{kind:=.function,names:=[],isGenerator:=AB,isCoroutine:=AB}
abbrev CX0:CXT:=λ_ _ _ _ _ _=>IY
abbrev E0:XK:=λ_ _ _=>IY
structure Fun(K:AF)(x qual:AL)(st:Bj)(f:AJ)(fd:Aw):Prop where
 ex:∃(oc:AG) (od:Option AJ) (kV doc pm:AG) (an:Option AJ) (cdv ct:AG) (osl:Ie (Option AG)),
  fd=B0 x qual (yad st) (yN st) (yh st) .none kV doc pm an cdv ct/\K.lookup f=AA #[oc,od,.func fd,osl]/\CF K cdv qual=AC
 kp:Al K (.ref f)=AC
section
variable {P:Aa}{w:Ai}{K:AF}{mg:AL->Option AG}{base:Au}
theorem Fun.binds{x a:AL}{st:Bj}{f:AJ}{fd:Aw}{b:IK AL}(F:Fun K x a st f fd)
  (h:∀(kV doc c:AG) (an:Option AJ) (cdv ct:AG) (us:IK AG),us.length=b.length->bindArgs (B0 x a (yad st) (yN st) (yh st) .none kV doc c an cdv ct) #[us,[]]=pure (b.zip us)):Binds K fd b []:=by let#[j,l,kV,doc,c,an,cdv,ct,d,rfl,lk,g]:=F.ex;exact .all (h kV doc c an cdv ct)
end
section
variable {X:Cx}
end
end L2
namespace WE
open PySem PySem.Spec PyProof.Rows
open AutoSeq1 (wpAny_loadPart')
section
variable {pg:Aa}{wd:Ai}{A:Ak}{Er:AG->AK->Prop}{s:AK}
def zdl{a t}{i:IL}{xs x}{Q:AG->AK->Prop}(d:s.heap.IsTupleIter a t i)(g:s.heap.IsTuple t xs)(j:xs[i]?=AA x)
  (k:∀f,f.IsTupleIter a t (i+1)->C6 a s.heap f->Q x {s with heap:=f}):A6 (model pg wd) A (BL (.ref a)) Q Er s:=by let#[o,c,l,b]:=id d;let#[p,m,_,q,n]:=g;unfold BL;refine AI (Bb (name:=AE "__next__") d.typeIs CG (C1 CG d.typeIs Do ?_ (Dh _)));show A6 _ _ (field (.ref a) 0 >>= _) _ _ _;refine AI (BS c b (x:=.ref t) rfl ?_);show A6 _ _ (if (Ae t==Bt)=AC then _ else _) _ _ _;rw[IS (show ¬((Ae t==Bt)=AC)from λz=>AN z)];show A6 _ _ (field (.ref a) 1 >>= _) _ _ _;refine AI (BS c b (x:=.int i 0) rfl ?_);show A6 _ _ (seqItems? (.ref t) >>= _) _ _ _;refine AI (C2 m n ?_);erw[CN,j];refine AI (F1 c b (by simp) (AV #[x,rfl,AV (k _ ?_ (Fk ..))]));refine#[_,FU _ c (Obj.isFreed_of_fields (GJ b _)),(Obj.cls_mapFields ..).trans l,?_];rw[GJ b];simp[rawInt]
def zf2{b t}{i:IL}{xs Q}(j:A.handled=AD)(c:s.heap.IsTupleIter b t i)(l:s.heap.IsTuple t xs)(n:xs[i]?=AD)
  (k:∀d e,Heap.ExtBut b s.heap d->(∃o,d.get? e=AA o/\o.cls=.type "StopIteration")->Er (.ref e) {s with heap:=d}):A6 (model pg wd) A (BL (.ref b)) Q Er s:=by
 let#[r,f,u,g]:=id c;let#[w,p,_,y,q]:=l;unfold BL;refine AI (Bb (name:=AE "__next__") c.typeIs CG (C1 CG c.typeIs Do ?_ (Dh _)));show A6 _ _ (field (.ref b) 0 >>= _) _ _ _;refine AI (BS f g (x:=.ref t) rfl ?_);show A6 _ _ (if (Ae t==Bt)=AC then _ else _) _ _ _;rw[IS (show ¬((Ae t==Bt)=AC)from λz=>AN z)];show A6 _ _ (field (.ref b) 1 >>= _) _ _ _;refine AI (BS f g (x:=.int i 0) rfl ?_);show A6 _ _ (seqItems? (.ref t) >>= _) _ _ _;refine AI (C2 p q ?_);erw[CN,n];refine AI (FA (AI (F1 f g (by simp) ?_)));show A6 _ _ (newExc (.type "StopIteration") [] >>= _) _ _ _;refine AI ?_;erw[newExc,newTuple];refine AI (Be ?_ (by size_fits));refine AI (m:=firstArgMember _ _) (wpAny_of_eq (a:=Bt) (by first|rfl|(erw[firstArgMember];rfl)) ?_);refine Be ?_ (by size_fits);erw[raiseNew];refine AI (wpAny_handled ?_);first|rw[show A.in1.handled=AD from j]|rw[j]
 refine AI (AV (wpAny_throw ?_));exact k _ _ (((Fk ..).extBut.push _).push _) #[_,A8 _ rfl,rfl]
end
theorem draws_tuple{pg wd}{A:Ak}(l:A.handled=AD)(a t:AJ)(d:t≠a)(xs:Ie AG):
  Draws pg wd A a [a,t] xs.size (λi v=>xs[i]?=AA v) (λi h=>h.IsTupleIter a t i/\h.IsTuple t xs) where
 live:=λ_ _ st=>let #[o,g,_]:=st.1;#[o,g]
 frame:=λ_ _ _ st f=>#[let #[o,g,r]:=st.1;#[o,f a (by simp) o g,r],let #[o,g,r]:=st.2;#[o,f t (by simp) o g,r]]
 item:=λi s Q E j st m=>zdl st.1 st.2 (x:=xs[i]) (by simp[j]) λn b c=>m _ n s.toks (by simp[j]) #[b,st.2.extBut c.extBut d] c
 done:=λs Q E st p=>zf2 l st.1 st.2 (by simp) p
def zgx(l)(xs)(n:IL)(m:Option AJ)(sl:Ie (Option AG)):
  Meets (Ff.«enumerate.__new__» #[[.type "enumerate",.ref l],[]]) (λ_ R s=>s.heap.get? l=AA {cls:=.type "tuple",dict:=m,data:=.seq xs n,slots:=sl} /\
   R (.ok (.ret (.ref (s.heap.push {cls:=.type "tuple_iterator",data:=.fields (IK.toArray [.ref l,.int 0 0])}).objs.size)))
    {s with heap:=(s.heap.push {cls:=.type "tuple_iterator",data:=.fields (IK.toArray [.ref l,.int 0 0])}).push {cls:=.type "enumerate",data:=.fields (IK.toArray [.none,.bool AB,.ref s.heap.objs.size,rawInt 0,.none,.none])} }):=
 .of_wp λf w A R s h=>by
  let#[o,g,d,p,os]:=s;let#[a,h]:=h;have j:=sub_enumerate;have b:G0 (Gq #[o,g,d,p,os]) l xs:=#[_,a,rfl,n,rfl]
  wp_walk using wpAny_loadPart' a
  refine wpAny_stack_any λst=>AV ?_;split
  .rename_i c _ _ _ _ _
   cases (c==Ez "enumerate")
   .wp_walk using wpAny_loadPart' a,Bm b
    exact#[_,rfl,h]
   .wp_walk using wpAny_loadPart' a,Bm b
    exact#[_,rfl,h]
  .wp_walk using wpAny_loadPart' a,Bm b
   exact#[_,rfl,h]
theorem call_enumT{pg wd A j}{s:AK}{l xs}{Q:AG->AK->Prop}(m:s.heap.IsTuple l xs)
  (k:∀a,IsEnum a (s.heap.objs.size+1) s.heap.objs.size 0 .none->a.IsTupleIter s.heap.objs.size l 0->a.objs.size=s.heap.objs.size+2 ->
   (∀b o,s.heap.get? b=AA o->a.get? b=AA o)->Q (.ref (s.heap.objs.size+1)) {s with heap:=a}):A6 (model pg wd) A (call (.type "enumerate") [.ref l]) Q j s:=by
 let#[#[c,dct,p,r],t,u,n,w]:=m
 cases (show c=.type "tuple" from u)
 cases (show p=.seq xs n from w)
 refine callType_new F.called_enumerate ⋯ (F.typeCall_enumerate_1 _) (F.newCall_enumerate_1 _) (λd=>F.args_object_init_2 d _) F.entry_enumerate_new (zgx l xs n dct r) #[t,?_];have f:(s.heap.push {cls:=.type "tuple_iterator",data:=.fields (IK.toArray [.ref l,.int 0 0])}).objs.size=s.heap.objs.size+1:=Bp ..;show _/\_;rw[f];have g:IsEnum ((s.heap.push {cls:=.type "tuple_iterator",data:=.fields (IK.toArray [.ref l,.int 0 0])}).push {cls:=.type "enumerate",data:=.fields (IK.toArray [.none,.bool AB,.ref s.heap.objs.size,rawInt 0,.none,.none])}) (s.heap.objs.size+1) s.heap.objs.size 0 .none:=by have q:=A8 (s.heap.push {cls:=.type "tuple_iterator",data:=.fields (IK.toArray [.ref l,.int 0 0])}) (o:={cls:=.type "enumerate",data:=.fields (IK.toArray [.none,.bool AB,.ref s.heap.objs.size,rawInt 0,.none,.none])}) rfl;rw[f]at q;exact q
 exact#[#[_,g,rfl],k _ g #[_,AR _ (A8 _ rfl),rfl,rfl] (by rw[Bp,f]) λb o y=>AR _ (AR _ y)]
end WE
namespace L2
open PySem PySem.Spec PyProof.Rows
section
variable {X:Cx}
def ydh(i j:IM):Prop:=0<j/\j<10000000000000000000000000000000000000000000000000000000000000000000000
def zkj:OpR X (binaryOp .FloorDiv) (rI ydh λi j=>.int (i/j)):=opI λi j _ _ _ _ _ a q=>by
 let#[c,d]:=a;refine floordiv_int () (by rw[Dx i ()];exact q) (.inl (PyProof.noPylong_of_log2 ?_));have b:j.natAbs≠0:=()
 refine A4 ((Hx b).mpr (?_:j.natAbs<2^250)) ⋯;have e:(10000000000000000000000000000000000000000000000000000000000000000000000:IL)<2^250:=by decide
 lia
end
section
variable {X:Cx}{B:IK (AJ×Bi)}{A:St}{H:Hp}{s:AK}{h':Au}
theorem Inv.turnLaid{t':IL}{ch:IK AJ}{T:AJ}{o:HO}(I:Inv X B A H s)(hf:∀b∈ch,ybi X B H b)(k:∀b u,b∉ch->s.heap.get? b=AA u->h'.get? b=AA u)
  (l:s.heap.objs.size<=T) (j:yQ X.prog X.w (upd H T o) h' T o):Inv X B A (upd H T o) {s with heap:=h',toks:=t'}:=by
 have d:H T=none:=I.hok.fresh l;have f:∀b u,H b=AA u->b∉ch:=λb u e z=>by
  have q:=(hf b z).1;rw[e]at q
  cases q
 refine I.step (g':=s.gens) (d':=s.drawn) (ch:=ch) (λb g=>?_) (λb u _ _ a e _=>k b u a e) (λb u _ _ a e _=>#[u.slots,k b u a e]) (λb u _ e n=>?_) (λb u a e=>#[u,k b u a e]) (λb t e=>?_) (λb u v e=>?_) (λb L e=>#[(IK.toArray []),?_]) (λm w=>?_) (λb u e=>?_) I.bare
 .let#[M,x,N,y,C,D]:=hf b g;exact#[y,x,C,D]
 .rw[zj (Am (A4 (AY e) l))];exact n
 .rw[zj (zo e d)];exact e
 .rw[zj (zo e d)];exact e
 .rw[zj (zo e d),e];simp
 .let#[p,E,G,J,r]:=w;exact#[p,E,G,k _ p (λz=>(hf _ z).2.1 rfl) J,r]
 .by_cases g:b=T
  .subst g;rw[zx]at e
   cases e
   exact j
  .rw[zj g]at e;refine(I.hok b u e).stay (λc v a q=>k c v ?_ q) (λc q=>by rw[zj (zo q d)];exact q) λc t q=>by rw[zj (zo q d)];exact q
   rcases a with z|z
   .rw[z];exact f b u e
   .exact f c _ z
theorem Inv.turnedL{t':IL}{ch:IK AJ}(I:Inv X B A H s)(hf:∀b∈ch,ybi X B H b)(k:∀b u,b∉ch->s.heap.get? b=AA u->h'.get? b=AA u):Inv X B A H {s with heap:=h',toks:=t'}:=by
 have d:∀b u,H b=AA u->b∉ch:=λb u e z=>by
  have q:=(hf b z).1;rw[e]at q
  cases q
 refine I.step (g':=s.gens) (d':=s.drawn) (ch:=ch) (λb g=>?_) (λb u _ _ a e _=>k b u a e) (λb u _ _ a e _=>#[u.slots,k b u a e]) (λ_ _ _ _ n=>n) (λb u a e=>#[u,k b u a e]) (λ_ _ e=>e) (λ_ _ _ e=>e) (λb C e=>#[(IK.toArray []),by rw[e];simp]) (λm j=>?_) (λb u e=>?_) I.bare
 .let#[D,l,E,o,p,t]:=hf b g;exact#[o,l,p,t]
 .let#[f,w,x,y,r]:=j;exact#[f,w,x,k _ f (λz=>(hf _ z).2.1 rfl) y,r]
 .refine(I.hok b u e).stay (λc v a q=>k c v ?_ q) (λ_ q=>q) λ_ _ q=>q;rcases a with z|z
  .rw[z];exact d b u e
  .exact d c _ z
end
def Ite(K:AF)(a:AJ):It:=
 #[λi H=>∃b x,SqT K H a b/\b[i]?=AA x,λi H x c=>∃T,H T=AD/\x=.ref T/\∀b y,SqT K H a b->b[i]?=AA y->c=upd H T (.tup [.int i,y]),λi H=>∃b,SqT K H a b/\b.length=i]
def ze3{h:Au}{a b:AJ}{o u}(x:h.get? a=AA o)(y:h.get? b=AA u)(z:o.cls≠u.cls):a≠b:=λe=>by
 subst e;rw[x]at y
 cases y
 exact z rfl
def zib{P w K es}{kk:IL}{pos}(a e j:AJ):
  Turn P w K (.Tuple es kk pos) (Ite K a) [e,j] e (λi h=>(∃c,IsEnum h e j i c)/\h.IsTupleIter j a i) where
 mem:=by simp
 obj:=λi h st b n=>by
  let#[#[c,d],M,m,L,di]:=st;rcases AS.mp n with z|z
  .subst z;exact#[_,d,λv y=>nomatch y]
  .have z:b=j:=by simpa using z
   subst z;exact#[M,m,λv y=>by rw[di]at y;cases y]
 keep:=λi h h' st k=>by let#[#[c,d],M,m,r]:=st;exact#[#[c,k e (by simp) _ d],M,k j (by simp) _ m,r]
 item:=by
  intro X N hw hK hc i C s B H E I hf st hg;subst N hw hK;let#[xs,x,hq,hx]:=hg;let#[f,rv,p,hz]:=I.tuple hq;let#[#[c,d],O]:=st;let#[M,m,L,di]:=id O;let#[oa,Q,U,na,da]:=id p;have D:a≠j:=ze3 Q m (by rw[U,L];exact λz=>IU (Ch z) ⋯);have l:e≠j:=ze3 d m (by rw[L];exact λz=>IU (Ch z) ⋯);have G:e≠a:=ze3 d Q (by rw[U];exact λz=>IU (Ch z) ⋯);have hl:=rv.length;have hil:i<f.toArray.size:=by have:=(An.mp hx).1;simpa using (by lia:i<f.length)
  have W:=G1 (prog:=X.prog) (w:=X.w) (A:=X.A) (WE.draws_tuple (pg:=X.prog) (wd:=X.w) (A:=X.A.in1) (I.ok.hd hc) j a D f.toArray) e l (by simp[l,G]) (by simp);refine W.item i s _ E hil #[#[c,d],O,p] λT vals h1 tk N Y hT Z kp=>#[.ref T,rfl,?_];refine W.go es kk pos i T _ _ E Z λh2 st2 kp2=>?_;let#[t,y,hy,rfl]:=N;let#[u,hu,ru]:=rv.get hx;have ey:y=u:=AX (hy.symm.trans (by simpa using hu));subst ey;have hch:∀b o,b∉[e,j]->s.heap.get? b=AA o->h2.get? b=AA o:=λb o n q=>kp2 b o n (kp b o n q);have hTw:=W.apart i T h1 Z;have new:yQ X.prog X.w (upd H T (.tup [.int i,x])) h2 T (.tup [.int i,x]):=by let#[o,g,r]:=hT;exact#[by show 2<=sizeLine;decide,[.int i t,y],.cons #[t,rfl] (.cons ru .nil),o,kp2 T o hTw g,r]
  have I2:=I.turnLaid (t':=tk) hf hch Y new;refine#[.ref T,_,I2,rfl,#[T,I.hok.fresh Y,rfl,λys z hy' J=>?_],#[st2.1,st2.2.1],λb n=>?_]
  .rw[I.tuple_inj hy' hq]at J;rw[hx]at J
   cases J
   rfl
  .rw[zj (λz:b=T=>hTw (z ▸ n))];exact(hf b n).1
 done:=by
  intro X N hw hK hc i C s B H E I hf st hg;subst N hw hK;let#[xs,hq,hx]:=hg;let#[f,rv,p,hz]:=I.tuple hq;let#[#[c,d],O]:=st;let#[M,m,L,di]:=id O;let#[oa,Q,U,na,da]:=id p;have D:a≠j:=ze3 Q m (by rw[U,L];exact λz=>IU (Ch z) ⋯);have l:e≠j:=ze3 d m (by rw[L];exact λz=>IU (Ch z) ⋯);have G:e≠a:=ze3 d Q (by rw[U];exact λz=>IU (Ch z) ⋯);have hl:=rv.length;have W:=G1 (prog:=X.prog) (w:=X.w) (A:=X.A) (WE.draws_tuple (pg:=X.prog) (wd:=X.w) (A:=X.A.in1) (I.ok.hd hc) j a D f.toArray) e l (by simp[l,G]) (by simp);have en:f.toArray.size=i:=by simp;lia
  refine W.done s _ E (by rw[en];exact#[#[c,d],O,p]) λh2 tk kp=>#[rfl,I.turnedL (t':=tk) hf kp]
 self:=λ_ _ _ _ _ st q=>by let#[#[c,d],_]:=st;exact G2 d q
def ygx(K:AF)(c:TA):TI:=λA H R=>c A H λd b=>∃a,d=[.ref a]/\(∃f,SqT K b a f)/\R (Ite K a) b
def zlb{X}{a:AT}{es}{kk:IL}{n j}{p pos:CB}(o:Gl X "enumerate")(r:X.mg "enumerate"=AD)(t:PA X [a] j)(w:starEach [a] X.env=[(AB,eval a X.env)]:=by rfl):
  PI X (.Tuple es kk n) (.Call (.Name "enumerate" p) [a] [] pos) (ygx X.K j):=by
 intro B s A H R I h;refine BN (zeC I o r boot_enumerate ?_);refine CA (thn (t pos B s A H _ I h) λO c x=>?_) w rfl;let#[Q,y,f,C,D]:=x;let#[l,rfl,#[U,E],q]:=D;let#[u,rfl,G]:=Vals.one C
 cases (show u=Ae l from G)
 let#[g,Y,pt,Z]:=f.tuple E;refine WE.call_enumT (show c.heap.IsTuple l g.toArray from pt) λh1 m J L M=>?_;refine G2 m ?_;refine#[_,[c.heap.objs.size+1,c.heap.objs.size],_,_,y,rfl,f.kept (t':=c.toks) M,zib l _ c.heap.objs.size,#[#[_,m],J],λb N=>?_,q];have d:c.heap.objs.size<=b:=by
  rcases AS.mp N with z|z
  .subst z;exact C4 _
  .have z:b=c.heap.objs.size:=by simpa using z
   subst z;exact AQ _
 exact f.fpOk d (f.hok.fresh d)
abbrev No:AG->AK->Prop:=λ_ _=>IY
abbrev ydz(a:IK AT)(env:Env):Hd IQ:=forIn a AC λc r=>if r=AC then do let ok <-isTrue c env (eval c env);pure (Gv ok)else pure (Gv r)
section
variable {pg:Aa}{wd:Ai}{A:Ak}{R:GF->AK->Prop}{s:AK}
def zio{b g a:AT}{c:IK AT}{sc:BZ}{pos:CB}{j acc:AG}{env:Env}(I:IL->AK->Prop)
  (d:∀n s,I n s->A6 (model pg wd) A (pyNext j) (λr l=>match r with
   |none=>R (.ok .next) l
   |some v=>A6 (model pg wd) A (letOwnedTupleGo g j v) (λ_ p=>A6 (model pg wd) A (assign g env v) (λ_ q=>A6 (model pg wd) A (ydz c env) (λok o=>
     if ok=AC then A6 (model pg wd) A (eval b env) (λx t=>A6 (model pg wd) A (call (.builtin "list.append") [acc,x]) (λ_ u=>∃m,m<n/\I m u) No t) No o
     else ∃m,m<n/\I m o) No q) No p) No l) No s)
  (n:IL) (h:I n s):codeAny (model pg wd) A (.compLoop (.ListComp b [#[g,a,c,0]] sc pos) 0 j acc env) R s:=by
 refine codeAny_loop rfl I (λn s z=>?_) n h;show A6 _ A ((compTurn (.ListComp b [#[g,a,c,0]] sc pos) 0 j acc env).onRaise (λx=>do noteFrame x env;theTreesLotGoes x)) _ _ s;refine wpAny_noted ?_;rw[compTurn_list];refine AI (D3 (AI (Bl (d n s z) (λr l w=>?_) λ_ _ f=>f.elim)))
 cases r with
 |none=>exact AV w
 |some v=>
  refine AI (Bl w (λ_ p B=>AI (Bl B (λ_ q C=>AI (Bl C (λok o y=>?_) λ_ _ f=>f.elim)) λ_ _ f=>f.elim)) λ_ _ f=>f.elim)
  cases ok with
  |false=>exact AV #[rfl,y]
  |true=>exact AI (AI (Bl y (λx t D=>AI (Bl D (λ_ u E=>AV (AV #[rfl,E])) λ_ _ f=>f.elim)) λ_ _ f=>f.elim))
end
def yak(env:Env)(r:IK (AL×AJ))(x:AL×DI):IK (AL×AJ):=if x.2=.free then(x.1,(env.cells.lookup x.1).getD 0)::r else r
def ydS(sc:BZ)(env:Env):IK (AL×AJ):=sc.names.foldl (yak env) []
def zhH{A B:Type}{l:IK A}{f:A->B->Hd (ForInStep B)}{g:B->A->B}(h:∀x∈l,∀c,f x c=pure (.yield (g c x))):∀c:B,forIn l c f=pure (l.foldl g c):=by
 induction l with
 |nil=>exact λ_=>rfl
 |cons x l ih=>
  intro c;rw[FO,h x Af,pure_bind,Di];exact ih (λy a=>h y (AU _ a)) (g c x)
def zbT{sc:BZ}{env:Env}(hf:∀y∈sc.names,y.2=.free->∃c,env.cells.lookup y.1=AA c):closureFor sc env=pure (ydS sc env):=by
 erw[closureFor];rw[zhH (g:=yak env) (λx f c=>?_)]
 .rfl
 .let#[n,k]:=x
  by_cases b:k=.free
  .subst b;let#[a,j]:=hf _ f rfl;have d:env.cells.lookup n=AA a:=j;simp[yak,cellOf,d]
  .have l:(k==Cc)=false:=by simpa using b
   simp[yak,b,l]
def zey{env:Env}:∀(l:IK (AL×DI)) (r:IK (AL×AJ)),(∀y∈l,y.2=.free->∃c,env.cells.lookup y.1=AA c)->(∀x c,r.lookup x=AA c->env.cells.lookup x=AA c) ->
  ∀x c,(l.foldl (yak env) r).lookup x=AA c->env.cells.lookup x=AA c
 |[],r,_,h=>h
 |y::l,r,hf,h=>by
  refine zey l (yak env r y) (λz g=>hf z (AU _ g)) λx c e=>?_;unfold yak at e
  by_cases b:y.2=.free
  .let#[a,f]:=hf y Af b;rw[IR b,Bc]at e
   cases d:x==y.1 with
   |true=>
    rw[d,f]at e;rw[eq_of_beq d,f];exact e
   |false=>
    rw[d]at e;exact h x c e
  .rw[IS b]at e;exact h x c e
def zeq{env}{x:AL}:∀(l:IK (AL×DI))(r:IK (AL×AJ)),(∃c,r.lookup x=AA c)->∃c,(l.foldl (yak env) r).lookup x=AA c
 |[],r,h=>h
 |y::l,r,h=>by
  refine zeq l (yak env r y) ?_;unfold yak
  by_cases a:y.2=.free
  .rw[IR a,Bc]
   cases b:x==y.1 with
   |true=>exact#[_,rfl]
   |false=>exact h
  .rw[IS a];exact h
def zdo{env}:∀(l:IK (AL×DI))r,∀y∈l,y.2=.free->∃c,(l.foldl (yak env) r).lookup y.1=AA c
 |[],_,y,a,_=>nomatch a
 |z::l,r,y,a,b=>by
  rcases AS.mp a with e|e
  .subst e;refine zeq l (yak env r y) ?_;unfold yak;rw[IR b,Bc,IZ];exact#[_,rfl]
  .exact zdo l (yak env r z) y e b
theorem mem_of_lookup{A:Type}{x:AL}{k:A}:∀{l:IK (AL×A)},l.lookup x=AA k->(x,k)∈l
 |[],h=>nomatch h
 |y::l,h=>by
  rw[Bc]at h
  cases a:x==y.1 with
  |true=>
   rw[a]at h
   cases h
   rw[eq_of_beq a];exact Af
  |false=>
   rw[a]at h;exact AU _ (mem_of_lookup h)
def yc7(env:Env)(x:AL)(k:DI):NameKind:=if (k==.free&&env.scope.kind==.function&&env.kindOf x==AA .cell)=AC then .cell else k
def zeZ{sc env}(x:AL):(relabel sc env).names.lookup x=(sc.names.lookup x).map (yc7 env x):=by
 unfold relabel;show (sc.names.map λ(n,k)=>if (k==Cc&&env.scope.kind==.function&&env.kindOf n==AA .cell)then(n,Fv)else(n,k)).lookup x=_
 induction sc.names with
 |nil=>rfl
 |cons y l ih=>
  let#[n,k]:=y;rw[AO];show Bo x ((if (k==Cc&&env.scope.kind==.function&&env.kindOf n==AA .cell)=AC then(n,Fv)else(n,k))::_)=_
  cases b:x==n with
  |true=>
   have e:=eq_of_beq b;subst e
   by_cases a:(k==Cc&&env.scope.kind==.function&&env.kindOf x==AA .cell)=AC
   .rw[IR a,Bc,IZ];simp[yc7,a]
   .rw[IS a,Bc,IZ];simp[yc7,a]
  |false=>
   by_cases a:(k==Cc&&env.scope.kind==.function&&env.kindOf n==AA .cell)=AC
   .rw[IR a];erw[Bc,b];exact ih
   .rw[IS a];erw[Bc,b];exact ih
structure CI where
 C:AJ
 s:AK
 H:Hp
 fp:IK AJ
def cxC(X:Cx)(sc:BZ)(a:IK AL)(j:CI):Cx where
 prog:=X.prog
 w:=X.w
 K:=X.K
 mg:=X.mg
 base:=X.base
 A:=X.A
 N:=a
 s₀:=j.s
 H₀:=j.H
 env:=compEnvC sc (ydS sc X.env) j.C X.env
 outer:=X.stack
 stack:=X.stack
 ex:=j.fp
 fn:=λ_=>AB
 calm:=X.calm
 pn:=[]
 xe:=No
def inn(slots:IK (Option IL))(A:St):St:=slots.map λo=>o.bind λj=>(A[j]?).join
structure yai(X:Cx)(sc:BZ)(NC:IK AL)(slots:IK (Option IL)):Prop where
 kind:sc.kind=.function
 names:∀y∈sc.names,y.2=.local->sc.names.lookup y.1=AA .local
 nocell:∀y∈sc.names,y.2 ≠ .cell
 free:∀y∈sc.names,y.2=.free->X.env.scope.names.lookup y.1=AA .cell
 slot:∀(i:IL) (x:AL) (j:IL),NC[i]?=AA x->slots[i]?=AA (AA j)->X.N[j]?=AA x/\sc.names.lookup x=AA .free
 len:slots.length=NC.length
def zsm{X:Cx}{sc:BZ}{d:IK AL}{slots}(N:IK AL)(f:BZ)(g:X.N=N)(l:X.env.scope=f)(kind:sc.kind=.function)
  (names:∀y∈sc.names,y.2=.local->sc.names.lookup y.1=AA .local) (a:∀y∈sc.names,y.2 ≠ .cell) (b:∀y∈sc.names,y.2=.free->f.names.lookup y.1=AA .cell)
  (c:∀p∈d.zip slots,(p.2.all λj=>decide (N[j]?=AA p.1/\sc.names.lookup p.1=AA .free))=AC) (len:slots.length=d.length):yai X sc d slots:=by subst g l;refine#[kind,names,a,b,λi x j m n=>?_,len];have o:(x,AA j)∈d.zip slots:=AZ (i:=i) (by rw[IK.getElem?_zip_eq_some];exact#[m,n]);have:=c _ o;simpa using this
section
variable {X:Cx}{sc:BZ}{NC:IK AL}{slots:IK (Option IL)}{D:IK (AJ×Bi)}{A:St}{H:Hp}{s:AK}
theorem yai.cells(O:yai X sc NC slots)(ok:X.Ok):∀y∈sc.names,y.2=.free->∃c,X.env.cells.lookup y.1=AA c:=λy a b=>ok.has y.1 (.inl (O.free y a b))
theorem yai.sub(O:yai X sc NC slots)(ok:X.Ok):∀x c,(ydS sc X.env).lookup x=AA c->X.env.cells.lookup x=AA c:=zey sc.names [] (O.cells ok) λ_ _ e=>nomatch e
theorem yai.rel(O:yai X sc NC slots)(ok:X.Ok){x:AL}(h:sc.names.lookup x=AA .free):(relabel sc X.env).names.lookup x=AA .cell:=by rw[zeZ,h];have e:X.env.kindOf x=AA .cell:=O.free _ (mem_of_lookup h) rfl;simp[yc7,ok.kind,e]
def zhT(I:Inv X D A H s)(O:yai X sc NC slots){C:IK AJ}(hf:∀b∈C,ybi X D H b)(E:∀b∈C,∃o,s.heap.get? b=AA o){n:Au}{t':IL}{m}(G:n.Ns s.heap.objs.size m)
  (g:∀b o,s.heap.get? b=AA o->n.get? b=AA o):Inv (cxC X sc NC #[s.heap.objs.size,s,H,C]) [] (inn slots A) H {s with heap:=n,toks:=t'}:=by
 have sub:=O.sub I.ok;have J:∀b,b≠X.env.locals->b∉X.fs->b∉frs X.stack:=λb n h2 d=>(AS.mp (I.stkSub b d)).elim n h2;have ltC:∀x c,(ydS sc X.env).lookup x=AA c->c<s.heap.objs.size:=λx c e=>by let#[v,q]:=I.cell x c (sub x c e);exact q.lt
 refine#[#[I.ok.mod,O.kind,I.ok.glob,I.ok.blt,AQ _,λx y c L M=>I.ok.inj x y c (sub x c L) (sub y c M),λx hx=>?_,λ_ _ z=>(nomatch z),I.ok.hd,I.ok.frames,.inl rfl,λb d=>#[?_,λx c e=>(hf b d).2.2.2.2.1 x c (sub x c e)],I.bs,As I.ok.bsz I.sz,λb o e d=>?_,λb d=>J b (hf b d).2.1 (hf b d).2.2.1,I.stack,I.stkFree],
  rfl,I.bare,Un.kept g,#[m,G,λi x v L M e3=>?_],λx c e=>?_,I.hok.fresh (AQ _),λx c e=>I.freeC x c (sub x c e),λp hp=>(nomatch hp),I.hok.kept g,?_]
 .have f:(relabel sc X.env).names.lookup x=AA .cell \/ (relabel sc X.env).names.lookup x=AA .free:=hx;rw[zeZ]at f
  cases q:sc.names.lookup x with
  |none=>
   rw[q]at f;rcases f with z|z<;>cases z
  |some k=>
   have Z:=mem_of_lookup q;have N:k=.free:=by
    rw[q]at f;have nc:=O.nocell _ Z
    by_cases g:k=.free
    .exact g
    .exfalso;have d:(k==Cc)=false:=by simpa using g
     rcases f with z|z
     .simp[yc7,d]at z;exact nc z
     .simp[yc7,d]at z;exact g z
   subst N;exact zdo sc.names [] _ Z rfl
 .let#[o,e]:=E b d;exact Am (AY e)
 .rcases (hf b d).2.2.2.1 with z|z
  .exact I.ok.noex b o e z
  .exact IU (A4 (AY e) (As I.ok.bsz z)) (Cv _)
 .obtain⟨j,e4,e5⟩:∃j,slots[i]?=AA (AA j)/\A[j]?=AA (AA v):=by
   have a:(slots.map λo=>o.bind λj=>(A[j]?).join)[i]?=AA (AA v):=M;rw[Bs]at a
   cases q:slots[i]? with
   |none=>
    rw[q]at a
    cases a
   |some o=>
    rw[q]at a
    cases o with
    |none=>cases a
    |some j=>
     refine#[j,rfl,?_];have l:(A[j]?).join=AA v:=AX a
     cases q2:A[j]? with
     |none=>
      rw[q2]at l
      cases l
     |some w=>
      rw[q2]at l;have t:w=AA v:=l;rw[t]
  let#[l,t]:=O.slot i x j L e4;have kc:X.env.scope.names.lookup x=AA .cell:=O.free _ (mem_of_lookup t) rfl;let#[m0,hn0,hl]:=I.loc;let#[u,r,lk]:=hl j x v l e5 (.inr (.inl kc));refine#[u,r,.inr #[.inl (O.rel I.ok t),?_]];rcases lk with⟨z,_⟩|⟨_,c,hc,o,Q,U⟩
  .rw[show X.env.kindOf x=AA .cell from kc]at z
   cases z
  .let#[Y,B]:=zdo (env:=X.env) sc.names [] _ (mem_of_lookup t) rfl;have e8:Y=c:=AX ((sub x Y B).symm.trans hc);subst e8;exact#[Y,B,o,g _ _ Q,U]
 .let#[v,o,Q,U]:=I.cell x c (sub x c e);exact#[v,o,g _ _ Q,U]
 .show (slots.map λo=>o.bind λj=>(A[j]?).join).length=NC.length;rw[Aq,O.len]
def zhI(I:Inv X D A H s){f:IK AJ}(hf:∀b∈f,ybi X D H b){C:AJ}(r:s.heap.objs.size<=C){pl t g s'}(J:Inv (cxC X sc NC #[C,s,H,f]) pl t g s')
  {p} (j:C6 C s'.heap p):Inv X D A g {s' with heap:=p}:=by
 have m:∀b o,s.heap.get? b=AA o->b≠C:=λb o e=>Am (A4 (AY e) r);have B:Un (frs X.stack) f H g s.heap s'.heap:=J.base;have l:g C=none:=J.free;refine I.call' (ch:=f) J.os #[λb o e n a d=>(j.2 b (m b o e)).trans (B.keep b o e n a d),λb o e n a d=>?_,B.free,λb o e d=>?_,B.tups,B.frzs,B.tbls] (λb u e=>?_) J.bare λb a=>#[(hf b a).2.2.2.1,(hf b a).2.1,(hf b a).2.2.2.2.1,(hf b a).2.2.2.2.2]
 .let#[w,q]:=B.slot b o e n a d;exact#[w,(j.2 b (m b o e)).trans q]
 .let#[x,q]:=B.there b o e d;exact#[x,(j.2 b (m b o e)).trans q]
 .refine(J.hok b u e).stay (λc v y q=>(j.2 c λz=>?_).trans q) (λ_ q=>q) λ_ _ q=>q;subst z;rcases y with z|z
  .rw[z,e]at l
   cases l
  .rw[z]at l
   cases l
end
def PTs(X:Cx)(a:IK AT)(t:TT):Prop:=
 ∀(C:IK (AJ×Bi)) (s:AK) (B:St) (H:Hp) (Q:IQ->Hp->Prop),Inv X C B H s->t B H Q->A6 (model X.prog X.w) X.A (ydz a X.env) (TP X C B Q) X.xe s
def yhs:TT:=λ_ H Q=>Q AC H
def znv{X}:PTs X [] yhs:=λ_ _ _ H _ I h=>wpAny_tests_nil #[H,I,h]
def zmx{X c t}(h:PT X c t):PTs X [c] t:=λB s A H Q I q=>wpAny_tests_one (h B s A H Q I q)
def ycs(J:It)(D:AJ)(g:TG)(ti:TT)(q:TE)(W:IL->IL->St->IK V->Hp->Prop)(Q:Hp->Prop):Prop:=
 ∀i m Ac a c,W i m Ac a c->c D=AA (.lst a)/\((J.stop i c/\Q c) \/ (J.go i c/\a.length<sizeLine/\∃N:St->IK V->Hp->Prop,(∀f d j,N f d j->∃l,l < m/\W (i+1) l f d j) /\
  ∀x n,J.yld i c x n->g x Ac n λA4 r=>ti A4 r λb o=>if b=AC then q A4 o λy p=>p D=AA (.lst a)/\N A4 (a++[y]) (upd p D (.lst (a++[y])))else N A4 a o))
def ych(slots:IK (Option IL))(b:TI)(g:TG)(ti:TT)(c:TE):TE:=λA H Q=>b A H λJ a=>∀D,a D=AD->∃W:IL->IL->St->IK V->Hp->Prop,(∃m,W 0 m (inn slots A) [] (upd a D (.lst [])))/\ycs J D g ti c W (Q (.ref D))
section
variable {X:Cx}{sc:BZ}{NC:IK AL}{slots:IK (Option IL)}{elt tg iter:AT}{ifs:IK AT}{pos:CB}{g:TG}{ti:TT}{te:TE}
def zkh(hc:X.calm=AC)(hg:∀j,PG (cxC X sc NC j) tg g)(ht:∀j,PTs (cxC X sc NC j) ifs ti)(he:∀j,PE (cxC X sc NC j) elt te){a:CI}{it D tn J}
  {W:IL->IL->St->IK V->Hp->Prop} {Q} {R:GF->AK->Prop} {s} {Bc} {ys} {H} (T:Turn X.prog X.w X.K tg J a.fp it tn)
  (I:Inv (cxC X sc NC a) [] Bc H s) (hf:∀b∈a.fp,ybi (cxC X sc NC a) [] H b) (st:tn 0 s.heap) {m:IL} (w0:W 0 m Bc ys H) (step:ycs J D g ti te W Q)
  (fin:∀A c L,Inv (cxC X sc NC a) [] A c L->Q c->R (.ok .next) L):
  codeAny (model X.prog X.w) X.A (.compLoop (.ListComp elt [#[tg,iter,ifs,0]] sc pos) 0 (.ref it) (.ref D) (cxC X sc NC a).env) R s:=by
 have l:∀{c:Hp},(∀b∈a.fp,c b=AD)->∀b∈a.fp,ybi (cxC X sc NC a) [] c b:=λhn b p=>#[hn b p,(hf b p).2];refine zio (λn L=>∃i A B c,Inv (cxC X sc NC a) [] A c L/\tn i L.heap/\(∀b∈a.fp,c b=AD)/\W i n A B c) ?_ m #[0,Bc,ys,H,I,st,λb p=>(hf b p).1,w0]
 rintro n s3 ⟨i,M,C,H3,I3,O,U,w3⟩
 let#[hD,q]:=step i n M C H3 w3;rcases q with⟨stop,qn⟩|⟨go,hz,N,hN,Y⟩
 .refine thn (T.done (cxC X sc NC a) rfl rfl rfl hc i [] s3 M H3 No I3 (l U) O stop) λr s4 f=>?_;let#[hr,I4]:=f;subst hr;exact fin M H3 s4 I4 qn
 .refine thn (T.item (cxC X sc NC a) rfl rfl rfl hc i [] s3 M H3 No I3 (l U) O go) λr s4 f=>?_;let#[u,hr,h4]:=f;subst hr;refine thn h4 λ_ s5 f=>?_;let#[x,H5,I5,r5,y5,E,fr5]:=f;have I5':=I5.pinned (l fr5) (T.obj _ _ E);refine thn (hg a _ s5 M H5 x u _ I5' r5 (Y x H5 y5)) λ_ s6 f=>?_;let#[B6,H6,I6,q6]:=f;refine thn (ht a _ s6 B6 H6 _ I6 q6) λok s7 f=>?_;let#[H7,I7,q7]:=f;have again:∀{B8:St} {t:IK V} {w:Hp} {G:AK},Inv (cxC X sc NC a) ([]++ya8 a.fp s5.heap) B8 w G->N B8 t w->∃m,m<n/\∃i A B c,Inv (cxC X sc NC a) [] A c G/\tn i G.heap/\(∀b∈a.fp,c b=AD)/\W i m A B c:=λ{B8 t w G} Z n8=>by let#[m',hm,w8]:=hN B8 t w n8;refine#[m',hm,i+1,B8,t,w,Z.unpinned,T.keep _ _ _ E λb p o e=>(Z.pin (b,o) (Ap _ (Ap _ (zce p e)))).1,λb p=>?_,w8];let#[o,e,d]:=T.obj _ _ E b p;exact(Z.pin (b,o) (Ap _ (Ap _ (zce p e)))).2.1
  cases ok with
  |false=>
   rw[IS AN]at q7 ⊢;exact again I7 q7
  |true=>
   rw[IR rfl]at q7 ⊢;refine thn (he a _ s7 B6 H7 _ I7 q7) λy G f=>?_;let#[v,w,Z,r8,hD8,q8]:=f;refine thn (zf3 (X:=cxC X sc NC a) _ G B6 w (.ref D) [v] (.ref D) [y] (λz c=>z=.non/\c=upd w D (.lst (C++[v]))) Z rfl (.cons r8 .nil) #[D,C,v,rfl,rfl,hD8,hz,rfl,rfl]) λz s9 f=>?_;let#[zv,H9,I9,r9,e1,e2]:=f;subst e2;exact again I9 q8
def zeF(hc:X.calm=AC)(O:yai X sc NC slots)(hg:∀j,PG (cxC X sc NC j) tg g)(ht:∀j,PTs (cxC X sc NC j) ifs ti)(he:∀j,PE (cxC X sc NC j) elt te){E s B H}(I:Inv X E B H s)
  {it} {u} {tn} {J} (T:Turn X.prog X.w X.K tg J u it tn) (st:tn 0 s.heap) (hf:∀b∈u,ybi X E H b) {Q:VK}
  (h:∀D,H D=AD->∃W:IL->IL->St->IK V->Hp->Prop,(∃m,W 0 m (inn slots B) [] (upd H D (.lst [])))/\ycs J D g ti te W (Q (.ref D))) {RR:AG->AJ->GF->AK->Prop}
  (fin:∀D C s' M,Q (.ref D) M->(∃o m,s'.heap.get? C=AA o/\s'.heap.Ns C m/\∀v,o.data ≠ .cell v)->ybi X E M C->(∀h2,C6 C s'.heap h2->Inv X E B M {s' with heap:=h2})->RR (.ref D) C (.ok .next) s'):
  A6 (model X.prog X.w) X.A (newList []) (λN c=>A6 (model X.prog X.w) X.A (newFunctionEnv sc X.env.globals (ydS sc X.env) [] X.env.qual AD .none (AA X.env)) (λn s4=>
   codeAny (model X.prog X.w) X.A (.compStart (.ListComp elt [#[tg,iter,ifs,0]] sc pos) 0 (.ref it) N {n with scope:=relabel sc X.env}) (RR N n.locals) s4) X.xe c) X.xe s:=by
 refine Be (wpAny_newFunctionEnv O.nocell (by intro y hy;simp at hy) (λh1 f l=>?_) O.kind);dsimp only at f l ⊢;have hDn:H s.heap.objs.size=none:=I.hok.fresh (AQ _);let#[W,#[m,w0],step]:=h s.heap.objs.size hDn;obtain⟨c,w⟩:∃x:AK,x=({s with heap:=s.heap.push {cls:=.type "list",dict:=AD,data:=.seq ([]:IK AG).toArray} }:AK):=#[_,rfl];have e3:c.heap=s.heap.push {cls:=.type "list",dict:=AD,data:=.seq ([]:IK AG).toArray}:=by rw[w]
 rw[<-e3]at f l;have U:∀b o,s.heap.get? b=AA o->c.heap.get? b=AA o:=λb o e=>by rw[e3];exact AR _ e
 have I3:Inv X E B (upd H s.heap.objs.size (.lst [])) c:=by have q:=I.laid (a:=s.heap.objs.size) (o:=.lst []) (h':=c.heap) (t':=s.toks) U (AQ _) #[D6 _,[],_,.nil,by rw[e3];exact A8 _ rfl];rw[w]at q ⊢;exact q
 have A:∀b∈u,ybi X E (upd H s.heap.objs.size (.lst [])) b:=λb d=>by let#[o,e,_]:=T.obj _ _ st b d;refine#[?_,(hf b d).2];rw[zj (Am (AY e))];exact(hf b d).1
 have G:tn 0 c.heap:=T.keep _ _ _ st λb _ o e=>U b o e;have hob:∀b∈u,∃o,c.heap.get? b=AA o:=λb d=>by let#[o,e,_]:=T.obj _ _ G b d;exact#[o,e]
 have L:∀b o,c.heap.get? b=AA o->h1.get? b=AA o:=λb o e=>l.extBut b o (Am (AY e)) (AR _ e);have J1:=zhT (t':=c.toks+([]:IK (AL×AG)).length) I3 O A hob f L;have hfc:∀b∈u,ybi (cxC X sc NC #[c.heap.objs.size,c,upd H s.heap.objs.size (.lst []),u]) [] (upd H s.heap.objs.size (.lst [])) b:=λb d=>
  #[(A b d).1,(J1.ok.exf b d).1,J1.ok.exfs b d,.inl d,(J1.ok.exf b d).2,λp hp=>nomatch hp]
 have t:codeAny (model X.prog X.w) X.A (.compLoop (.ListComp elt [#[tg,iter,ifs,0]] sc pos) 0 (.ref it) (.ref s.heap.objs.size) (cxC X sc NC #[c.heap.objs.size,c,upd H s.heap.objs.size (.lst []),u]).env) (RR (.ref s.heap.objs.size) c.heap.objs.size)
   {c with heap:=h1,toks:=c.toks+([]:IK (AL×AG)).length}:=by refine zkh (D:=s.heap.objs.size) (Q:=Q (.ref s.heap.objs.size)) hc hg ht he T J1 hfc (T.keep _ _ _ G λb _ o e=>L b o e) w0 step λB' M s' J' q'=>?_;have fC:M c.heap.objs.size=none:=J'.free;refine fin _ _ s' M q' ?_ (I3.fpOk (AQ _) fC) λh2 d=>zhI I3 A (AQ _) J' d;let#[m',Y,_]:=J'.loc;let#[o,es,ep,ho,hd,r]:=id Y;exact#[o,m',ho,Y,λv z=>by rw[hd]at z;cases z]
 have Z:=λ(RQ:AG->AK->Prop) (EE:AG->AK->Prop)=>T.self X.A 0 {c with heap:=h1,toks:=c.toks+([]:IK (AL×AG)).length} RQ EE (T.keep _ _ _ G λb _ o e=>L b o e);subst w;exact codeAny_compStart_list t (Z _ _ t)
variable {wi:TI}
def znC(c:X.calm=AC)(O:yai X sc NC slots)(d:PI X tg iter wi)(f:∀j,PG (cxC X sc NC j) tg g)(l:∀j,PTs (cxC X sc NC j) ifs ti)(n:∀j,PE (cxC X sc NC j) elt te)
  (p:∀x,foldedSetIterable iter X.env x=pure x:=by intro _;rfl):PE X (.ListComp elt [#[tg,iter,ifs,0]] sc pos) (ych slots wi g ti te):=by intro E s B H Q I h;rw[eval_ListComp];refine Ed (use:=AD) rfl p (zbT (O.cells I.ok)) O.kind O.names (thn (d E s B H _ I h) λv L q=>thn q λr M a=>?_);let#[N,U,Y,J,Z,rfl,t,T,b,u,w]:=a;refine zeF c O f l n t T b u w λD C s' y z #[o,m,ho,A,_] _ out=>#[m,A,λa G=>#[.ref D,y,out a G,rfl,z]]
def znl{i:IL}{x}{l a:CB}(Y:X.N.Nodup)(n:X.N[i]?=AA x)(Z:Loc X.env.scope x)(hc:X.calm=AC)(O:yai X sc NC slots)(hi:PI X tg iter wi)(hg:∀j,PG (cxC X sc NC j) tg g)(ht:∀j,PTs (cxC X sc NC j) ifs ti)(he:∀j,PE (cxC X sc NC j) elt te)
  (q:swapsWith (.ListComp elt [#[tg,iter,ifs,0]] sc pos) (AA (.Name x l)) a.line X.env=pure true:=by rfl) (hs:∀x,foldedSetIterable iter X.env x=pure x:=by intro _;rfl)
  (hf:X.fn x=AC \/ X.env.scope.names.lookup x=AA .local:=by first|exact .inl rfl|exact .inr rfl|assumption):PS X (.Assign [.Name x l] (.ListComp elt [#[tg,iter,ifs,0]] sc pos) a) (yeQ (ych slots wi g ti te) (ycf i)):=by
 intro E s B H G I h;rw[exec_Assign_Name_used _ _ _ _ q,arm_evalThenUse_ListComp];refine AI (D3 (AI (AI ?_)));refine Ed (Q:=λ_ d=>A6 (model X.prog X.w) X.A (pure Ik.unit) (λ_ t=>A6 (model X.prog X.w) X.A (pure He) (SP X E G) X.xe t) X.xe d) rfl hs (zbT (O.cells I.ok)) O.kind O.names (thn (hi E s B H _ I h) λv s1 h1=>thn h1 λitv s2 L=>?_);let#[it,fp,tn,J,H2,rfl,I2,T,w,f2,q2]:=L;refine zeF (Q:=λx H1=>ycf i x B H1 G.nx) hc O hg ht he I2 T w f2 q2 λD C d y q' #[o,m,M,hn,hd] c out=>?_;have N:Inv X E B y d:=out d.heap (II ..);have Ip:Inv X (E++[(C,o)]) B y d:=N.pins_of λp hp=>(BG.mp hp).elim (λz=>N.pin p (Ap _ z)) λz=>by
  have e:p=(C,o):=by simpa using z
  subst e;exact#[M,c.1,c.2.1,c.2.2.1,hd]
 show A6 (model X.prog X.w) X.A (assign (.Name x l) X.env (.ref D)) _ _ d;refine GQ (zbd Ip Y n Z (show RelV (.ref D) (.ref D)from rfl) (λs6 U=>?_) hf);have g6:=(U.pin (C,o) (Ap _ (Ap _ Af))).1;let#[o',es,ep,f,r]:=hn;rw[M]at f
 cases f
 refine#[m,#[o,es,ep,g6,r],λL hb=>AV (AV ?_)];exact#[_,y,U.unpinned.turned (t':=s6.toks) (λb u A e=>(hb.2 b A).trans e) c.1 c.2.1 c.2.2.2.1 c.2.2.2.2.1 c.2.2.2.2.2,q']
end
def zfy:∀{bs:IK IQ} {us:IK AG},Vals (bs.map V.bl) us->LSm.BoolsAre us bs
 |[],_,.nil=>.nil
 |b::bs,_,.cons r q=>by
  cases (show _=Ds b from r)
  exact .cons b (zfy q)
section
variable {X:Cx}
def yhv(K:AF):IK V->Hp->VK->Prop:=λa H Q=>∃(l:AJ) (bs:IK IQ),a=[.ref l]/\SqL K H l (bs.map V.bl)/\Q (.bl (bs.all id)) H
def zkJ(j:X.calm=AC):yU X (.builtin "all") (yhv X.K):=by
 intro C s B H y z Q I r h;let#[l,bs,rfl,m,q]:=h;let#[u,rfl,n]:=Vals.one r
 cases (show u=Ae l from n)
 let#[a,o,p,D]:=I.list m;have f:=zfy o;have c:=p.isList;have d:l<s.heap.objs.size:=by let#[_,e,_]:=c;exact AY e
 refine call_all_walk (EW c ?_);refine#[s.heap.objs.size,[s.heap.objs.size,l],[s.heap.objs.size],a.toArray.size,_,_,λi=>(bs[i]?).getD AC,rfl,IF (A:=X.A.in1) (I.ok.hd j) _ l (Am d) a.toArray,#[#[_,A8 _ rfl,rfl,rfl],c.push _],λi v E G J t g=>?_,λL w x=>?_]
 .let#[b,e,rfl]:=f.get i v (by simpa using t);erw[e,BR]at g;exact BU g
 .have e:((Bk a.toArray.size).all λi=>(bs[i]?).getD AC)=bs.all id:=by rw[AW,f.length];exact LSm.range_all bs
  rw[e];exact#[.bl _,H,I.kept (t':=w) (Fw x),rfl,q]
end
section
variable {X:Cx}{B:IK (AJ×Bi)}{A:St}{H:Hp}{s:AK}
end
section
variable {X:Cx}{a:AT}{ta:TE}{K:AF}
end
end L2
namespace L2
end L2
namespace L2
open PySem PySem.Spec PyProof.Rows
def CX1(P:Aa)(w:Ai):CXT:=λc H s E e d=>∃(a:AJ) (f j:AG) (g:Hp) (B:Au),e=.ref a/\d.os=s.os/\DF d.gens/\FI B c a f j d.heap/\HOk P w g d.heap/\Un (frs c) [] H g s.heap d.heap /\
 (∀b o,s.heap.get? b=AA o->H b=AD->b∉frs c->B.get? b=AA o)/\(∀b u,g b=AA u->∃o,B.get? b=AA o)/\(∀b o,s.heap.get? b=AA o->b∉frs c->∃l,B.get? b=AA l)/\E f AD g
theorem yQ.there{P:Aa}{w:Ai}{H:Hp}{h:Au}{a:AJ}{o:HO}(x:yQ P w H h a o):∃b,h.get? a=AA b:=by
 induction o with
 |lst d=>let#[_,_,_,_,e]:=x;exact#[_,e]
 |tup d=>let#[_,_,_,b,e,_]:=x;exact#[b,e]
 |dK c=>let#[_,_,_,_,b,_,_,e,_]:=x;exact#[b,e]
 |dT c=>let#[_,_,_,_,b,_,_,e,_]:=x;exact#[b,e]
 |set S n=>let#[b,_,_,_,e,_]:=x;exact#[b,e]
 |ins C g fs=>let#[_,_,_,e,_]:=x;exact#[_,e]
 |own y=>exact x
 |xd fs=>let#[_,#[b,_,_,e,_],_]:=x;exact#[b,e]
 |rng lo j=>let#[_,_,_,e]:=x;exact#[_,e]
 |frz b u ih=>exact#[b,x.1]
 |tbl l=>exact#[_,x]
 |met f y=>exact#[_,x]
 |ext A=>exact x.2.1
theorem HOk.inB{P:Aa}{w:Ai}{H:Hp}{h h' B:Au}(ok:HOk P w H h)(j:B.StaysIn h)(c:B.StaysIn h')(f:∀b u,H b=AA u->∃o,B.get? b=AA o):HOk P w H h':=λa o e=>
 (ok a o e).stay (λb u l q=>by
  have d:∃o,B.get? b=AA o:=by
   rcases l with z|z
   .rw[z];exact f a o e
   .exact f b _ z
  let#[m,g]:=d;have:=j b m g;rw[q]at this
  cases this
  exact c b u g) (λ_ q=>q) λ_ _ q=>q
section
variable {P:Aa}{w:Ai}{K:AF}{mg:AL->Option AG}{base:Au}{N:IK AL}{qual:AL}{scope:BZ}{f:AJ}{cd:AG}{A:Ak}{outer:IK Env}{s₀:AK}{H₀:Hp}{E:XK}
 {D:IK (AJ×Bi)} {C:St} {H:Hp} {s:AK}
def zje{h' e cls vs}(I:Inv (yaK (CX1 P w) P w K mg base N qual scope f cd A outer s₀ H₀ E) D C H s)(M:HI s.heap h' e cls vs)(U:E cls AD H):
  (yaK (CX1 P w) P w K mg base N qual scope f cd A outer s₀ H₀ E).xe (.ref e) {s with heap:=h'}:=by
 have g:s.heap.FunFrames base (envOfC qual scope s₀.heap.objs.size f cd::outer):=I.stack;have j:∀b,b∈frs (envOfC qual scope s₀.heap.objs.size f cd::outer)->b=s₀.heap.objs.size \/ b∈frs outer:=λb d=>by have y:b∈s₀.heap.objs.size::frs outer:=d;exact AS.mp y
 have inB:∀b o,s.heap.get? b=AA o->b∉frs (envOfC qual scope s₀.heap.objs.size f cd::outer)->(DA s.heap (frs (envOfC qual scope s₀.heap.objs.size f cd::outer))).get? b=AA o:=λb o q n=>Fh _ q n;have O:(DA s.heap (frs (envOfC qual scope s₀.heap.objs.size f cd::outer))).StaysIn s.heap:=λb o q=>GE _ q;have c:Un (frs outer) [] H₀ H s₀.heap s.heap:=I.base;have lt:∀b o,s₀.heap.get? b=AA o->b≠s₀.heap.objs.size:=λb o q=>Am (AY q);have Q:∀b u,H b=AA u->∃o,(DA s.heap (frs (envOfC qual scope s₀.heap.objs.size f cd::outer))).get? b=AA o:=λb u q=>by
  let#[o,X]:=yQ.there (I.hok b u q);exact#[o,inB b o X λd=>by
   have:=I.stkFree b d;rw[q]at this
   cases this]
 refine wpAny_leaves_madeW (base:=DA s.heap (frs (envOfC qual scope s₀.heap.objs.size f cd::outer))) (h:=s.heap) I.ok.frames rfl O (PySem.W.funFrames_hide g λB Y a Z=>Dw.mpr #[B,Y,Z]) M λG t fl tu tn up=>?_;have r:s.heap.UpToSlots G:=(Hg M.keeps).trans up;refine#[e,cls,_,H,_,rfl,I.os,I.bare,fl,HOk.inB I.hok O fl.1 Q,#[λb o q n d _=>?_,λb o q n d _=>?_,c.free,λb o q _=>?_,c.tups,c.frzs,c.tbls],λb o q n d=>?_,Q,λb o q d=>?_,U]
 .refine fl.1 b o (inB b o (c.keep b o q n d (by simp)) λz=>?_);rcases j b z with z|z
  .exact lt b o q z
  .exact d z
 .let#[sl,l]:=c.slot b o q n d (by simp);let#[_,m,p,J]:=BW g (show b∈DM (λ(z:Env)=>z.frame) _ from AU _ d);let#[x,L]:=r b _ l (by rw[p]at l;cases l;exact J);exact#[x,L]
 .let#[m,l]:=c.there b o q (by simp)
  by_cases d:b∈frs (envOfC qual scope s₀.heap.objs.size f cd::outer)
  .let#[_,o2,p,J]:=BW g d;let#[x,L]:=r b _ p J;exact#[_,L]
  .exact#[m,fl.1 b m (inB b m l d)]
 .refine inB b o (c.keep b o q n d (by simp)) λz=>?_;rcases j b z with z|z
  .exact lt b o q z
  .exact d z
 .let#[m,l]:=c.there b o q (by simp);refine#[m,inB b m l λz=>?_];rcases j b z with z|z
  .exact lt b o q z
  .exact d z
def zsn:ybz (CX1 P w) (yaK (CX1 P w) P w K mg base N qual scope f cd A outer s₀ H₀ E) E:=by
 intro D C H s e s' I h;let#[a,y,a0,U,B,rfl,os,p,fl,G,un,hB,X,hT,hE]:=h;have c:Un (frs outer) [] H₀ H s₀.heap s.heap:=I.base;have lt:∀b o,s₀.heap.get? b=AA o->b≠s₀.heap.objs.size:=λb o q=>Am (AY q);have r:∀b,b∈frs (envOfC qual scope s₀.heap.objs.size f cd::outer)->b=s₀.heap.objs.size \/ b∈frs outer:=λb d=>by have J:b∈s₀.heap.objs.size::frs outer:=d;exact AS.mp J
 have g:Un (frs (envOfC qual scope s₀.heap.objs.size f cd::outer)) [] H U s.heap s'.heap:=un;have kB:∀b o,s₀.heap.get? b=AA o->H₀ b=AD->b∉frs outer->B.get? b=AA o:=λb o q n d=>hB b o (c.keep b o q n d (by simp)) (c.free b o q n (by simp)) λz=>by
  rcases r b z with z|z
  .exact lt b o q z
  .exact d z
 have Y:∀b o,s₀.heap.get? b=AA o->b∉frs outer->∃l,B.get? b=AA l:=λb o q d=>by
  let#[l,m]:=c.there b o q (by simp);refine hT b l m λz=>?_;rcases r b z with z|z
  .exact lt b o q z
  .exact d z
 refine wpAny_leaves_onW I.ok.frames rfl fl λh'' j Z=>?_;refine#[a,y,a0,U,B,rfl,os.trans I.os,p,j,HOk.inB G fl.1 j.1 X,#[λb o q n d _=>j.1 b o (kB b o q n d),λb o q n d _=>?_,λb o q n _=>?_,λb o q _=>?_,λb xs q=>g.tups b xs (c.tups b xs q),λb o u q=>g.frzs b o u (c.frzs b o u q),λb ps q=>?_],kB,X,Y,hE]
 .let#[sl,m]:=c.slot b o q n d (by simp);have n1:=c.free b o q n (by simp);let#[sl1,x]:=g.slot b _ m n1 (AU _ d) (by simp);let#[_,l,L,M]:=BW fl.2.2.1 (show b∈DM (λ(z:Env)=>z.frame) _ from AU _ d);let#[t,O]:=Z b _ x (by rw[L]at x;cases x;exact M);exact#[t,O]
 .let#[l,m]:=c.there b o q (by simp);exact g.free b l m (c.free b o q n (by simp)) (by simp)
 .let#[l,m]:=c.there b o q (by simp);let#[o2,x]:=g.there b l m (by simp)
  by_cases d:b∈frs outer
  .let#[_,o3,Q,M]:=BW fl.2.2.1 (show b∈DM (λ(z:Env)=>z.frame) _ from AU _ d);let#[t,O]:=Z b _ Q M;exact#[_,O]
  .let#[o4,q4]:=Y b o q d;exact#[o4,j.1 b o4 q4]
 .let#[m1,e1]:=c.tbls b ps q;let#[m2,e2]:=g.tbls b _ e1;exact#[m1++m2,by rw[e2,Dt]]
end
section
variable {X:Cx}{e:AT}{es:IK AT}{te:TE}
abbrev TJ:=AL->St->Hp->VK->Prop
def PJ(X:Cx)(es:IK AT)(t:TJ):Prop:=
 ∀(out:AL) (C:IK (AJ×Bi)) (s:AK) (B:St) (H:Hp) (Q:VK),Inv X C B H s->t out B H Q->A6 (model X.prog X.w) X.A (joinParts out (evalEach es X.env)) (EP X C B Q) X.xe s
def ygY:TJ:=λout _ H Q=>out.length<=sizeLine/\Q (.str out) H
def yfh(te:TE)(t:TJ):TJ:=λout B H Q=>te B H λv a=>∃y,v=.str y/\(out++y).length<=sizeLine/\t (out++y) B a Q
def zpS:PJ X [] ygY:=λout _ _ _ H _ I h=>joinParts_nil #[.str out,H,I.tok _,#[_,rfl],h.2] h.1
def znG{t}(a:PE X e te)(b:PJ X es t)(c:evalEach (e::es) X.env=eval e X.env::evalEach es X.env:=by rfl):PJ X (e::es) (yfh te t):=by intro out C s B H Q I h;rw[c];refine joinParts_cons (thn (a C s B H _ I h) λv d f=>?_);let#[x,g,j,l,y,m,n,q]:=f;subst m;let#[o,rfl]:=l;exact#[n,b (out++y) C d B g Q j q]
def yc5(t:TJ):TE:=λB H Q=>t DD B H Q
def ziq{b c:AT}{a:IK AT}{pos t}(h:PJ X (b::c::a) t):PE X (.JoinedStr (b::c::a) pos) (yc5 t):=λC s B H Q I q=>JoinedStr_many (h DD C s B H Q I q)
end
section
variable {X:Cx}{e:AT}{es:IK AT}{t:TA}{E:XK}
end
structure ybt(K:AF)(C:AJ):Prop where
 ga:Ah K (.ref C) "__getattribute__"=AA (AA (.builtin "BaseException.__getattribute__"))
 gh:Ah K (.ref C) "__getattr__"=AA AD
 cl:Ah K (.ref C) "__class__"=AA (AA (.builtin "object.__class__"))
 sb:HV K (.ref C) (.type "BaseException")=AA AC
 mo:HW K C (.type "object")=AA AC
 ct:∃cd,Ee K C=AA cd
section
variable {pg:Aa}{wd:Ai}{A:Ak}{E:AG->AK->Prop}{h:Au}{g:Ie GenState}{d:Drawn}{t:IL}{os:OsState}{a C:AJ}{o:Bi}{K:AF}
def zgK{M}{c:AG}{Q:Ik->AK->Prop}(X:K.In h)(Z:ybt K C)(f:h.get? a=AA o)(j:o.cls=.ref C)(l:Q Ik.unit #[h,g,d,t,os]):A6 M A (checkBuiltinCall "BaseException.__getattribute__" #[[.ref a,c],[]]) Q E #[h,g,d,t,os]:=by
 have m:builtinKind "BaseException.__getattribute__"=AA .slot:=∅
 have b:splitId "BaseException.__getattribute__"=AA ("BaseException","__getattribute__"):=∅
 have p:=F.args_bexc_ga (.ref a) c;have n:=PySem.W.looks_subIn (M:=M) X Z.sb;erw[checkBuiltinCall,m,b];refine AI ?_
 .unfold isInstance
  repeat (first|(with_reducible refine EX f ?_;rw[j])|with_reducible refine n.at ?_|wp_step)
  exact l
def ziY{b:AG}{R:GF->AK->Prop}(X:K.In h)(Z:ybt K C)(c:h.get? a=AA o)(f:o.cls=.ref C)(j:R (.ok (.ret (.ref C))) #[h,g,d,t,os]):
  codeAny (model pg wd) A (.call (.builtin "getset_descriptor.__get__") #[[.builtin "object.__class__",.ref a,b],[]]) R #[h,g,d,t,os]:=by
 have l:HX (model pg wd) h (typeOf (.ref a)) (.ref C):=f ▸ (Eo c).andThen .now;have m:=PySem.W.looks_mroIn (M:=model pg wd) X Z.mo;refine F2 GL.plain PySem.W.KF.entry_gs (GL.check _ _ _ _ _ _ _ _ PySem.W.KF.type_class (PySem.W.KF.args_gs _ _ _) ?_)
 (unfold Ff.«getset_descriptor.__get__» GM);rw[PySem.W.dga_obj]
 refine AI (AV ?_);(unfold Fg Ep Ey isInstance);erw[PySem.W.KF.owner_class];repeat lk
 refine#[Code.quiet_builtin _ ∅,codeAny_builtin PySem.W.KF.entry_class ?_]
 (unfold Ff.«object.__class__» shownTypeOf);repeat lk
 exact j
def zgt{f:IA}{Q:Fin->AK->Prop}(X:K.In h)(Z:ybt K C)(b:h.get? a=AA o)(c:o.cls=.ref C)(m:Q (.done (.ret (.ref C))) #[h,g,d,t,os]):
  A6 (model pg wd) A (Ff.«object.__getattribute__» #[[.ref a,.str "__class__" f],[]]) Q E #[h,g,d,t,os]:=by
 have j:(#[h,g,d,t,os]:AK).TypeIs (.builtin "object.__class__") "getset_descriptor":=FW;have n:=FW;have p:=F.slot_gs_get.lookup;have q:=F.slot_gs_set.lookup;have l:=Cg (M:=model pg wd) X Z.cl
 repeat (any_goals (first|assumption|(with_reducible refine EX b ?_;rw[c])|with_reducible refine l.at ?_|wp_step))
 refine ziY X Z b c ?_
 repeat (any_goals (first|assumption|wp_step))
def zhR{f:IA}{R:GF->AK->Prop}{j}(l:Slot j "__getattribute__" "BaseException.__getattribute__")(X:K.In h)(Z:ybt K C)(b:h.get? a=AA o)(c:o.cls=.ref C)(m:R (.ok (.ret (.ref C))) #[h,g,d,t,os]):
  codeAny (model pg wd) A (.call (.builtin "BaseException.__getattribute__") #[[.ref a,.str "__class__" f],[]]) R #[h,g,d,t,os]:=
 F2 l.plain F.entry_bexc_ga (zgK X Z b c (zgt X Z b c m))
def zkD{l:IA}{Q:AG->AK->Prop}{m}(c:Slot m "__getattribute__" "BaseException.__getattribute__")(X:K.In h)(Z:ybt K C)(f:h.get? a=AA o)(j:o.cls=.ref C)(q:Q (.ref C) #[h,g,d,t,os]):
  A6 (model pg wd) A (getAttrBy (.ref a) (.str "__class__" l) AB) Q E #[h,g,d,t,os]:=by
 have r:=c.bind (.ref a);have b:(Ef "BaseException.__getattribute__" == Ef "object.__getattribute__")=false:=∅
 have n:(onTheHeap (Ae C)&&Ef "BaseException.__getattribute__" == Ef "object.__getattribute__")=false:=by rw[b];rfl
 have p:=Cg (M:=model pg wd) X Z.ga;have L2:=Cg (M:=model pg wd) X Z.gh
 repeat (any_goals (first|assumption|(with_reducible refine EX f ?_;rw[j])|with_reducible refine p.at ?_|with_reducible refine L2.at ?_|wp_step))
 refine zhR c X Z f j ?_
 repeat (any_goals (first|assumption|wp_step))
def zgC{Q:Option AG->AK->Prop}{b}(c:Slot b "__getattribute__" "BaseException.__getattribute__")(X:K.In h)(Z:ybt K C)(f:h.get? a=AA o)(j:o.cls=.ref C)(l:Q (AA (.ref C)) #[h,g,d,t+1,os]):
  A6 (model pg wd) A (getAttr? (.ref a) "__class__") Q E #[h,g,d,t,os]:=by
 unfold getAttr? getAttrBy?
 repeat (any_goals (first|assumption|with_reducible apply zkD c X Z f j|wp_step))
end
def ybT(a C:AJ):Au->Prop:=λh=>∃o,h.get? a=AA o/\o.cls=.ref C
theorem ybT.keep{a C:AJ}{b d:Au}(x:ybT a C b)(k:∀o,b.get? a=AA o->d.get? a=AA o):ybT a C d:=by let#[o,h,c]:=x;exact#[o,k o h,c]
def zhi{K a C}(Z:ybt K C){u}(w:Slot u "__getattribute__" "BaseException.__getattribute__"):PySem.W.KitX K (.ref a) (.ref C) (ybT a C) where
 ty:=λM h X p=>by let#[o,c,f]:=p;exact f ▸ (Eo c).andThen .now
 it:=λM h X p=>by
  let#[x,b]:=Z.ct;unfold Ee at b;split at b
  .rename_i y B j l m;intro H I J L k q;unfold isType loadHead;exact AI (wpAny_loadPart (k _ _ (X _ _ m)) (AV q))
  .cases b
 ne:=λh D N G n O X r=>by
  let#[x,b]:=Z.ct;refine IQ.eq_false_iff.mpr λq=>?_;have e:C=D:=HY (Ig.mp q);subst e;unfold Ee at b;split at b
  .rename_i y B j l m;have z:=(X _ _ m).symm.trans r
   cases z
  .cases b
 ca:=λ{U Y A E Q s} X p k=>by let#[o,c,f]:=p;let#[h,g,d,t,os]:=s;exact zgC w X Z c f k
section
variable {X:Cx}
end
section
variable {X:Cx}{C:IK (AJ×Bi)}{A:St}{H:Hp}{s:AK}
theorem Inv.track{a:AJ}{o:HO}(I:Inv X C A H s)(d:H a=AD)(r:∀t,X.s₀.heap.get? a≠AA t)(w:a≠X.env.locals)(y:∀x c,X.env.cells.lookup x=AA c->c≠a)(B:∀p∈X.pn++C,p.1≠a)
  (f:yQ X.prog X.w (upd H a o) s.heap a o):Inv X C A (upd H a o) s:=by
 refine#[I.ok,I.os,I.bare,#[I.base.keep,I.base.slot,λb u e n D=>?_,I.base.there,λb g e=>?_,λb u v e=>?_,λb E e=>?_],I.loc,I.cell,?_,λx c e=>?_,λp j=>?_,λb u e=>?_,I.len]
 .rw[zj (λz:b=a=>r u (z ▸ e))];exact I.base.free b u e n D
 .have q:=I.base.tups b g e;rw[zj (zo q d)];exact q
 .have q:=I.base.frzs b u v e;rw[zj (zo q d)];exact q
 .let#[m,q]:=I.base.tbls b E e;refine#[m,?_];rw[zj (zo q d)];exact q
 .rw[zj (Ax w)];exact I.free
 .rw[zj (y x c e)];exact I.freeC x c e
 .let#[G,J,L]:=I.pin p j;refine#[G,?_,L];rw[zj (B p j)];exact J
 .by_cases l:b=a
  .subst l;rw[zx]at e
   cases e
   exact f
  .rw[zj l]at e;exact(I.hok b u e).stay (λ_ _ _ q=>q) (λc q=>by rw[zj (zo q d)];exact q) λc g q=>by rw[zj (zo q d)];exact q
theorem Inv.back{c:AK}{h:Au}{p:Hp}{B:Au}{a:AJ}{cls y:AG}{t':IL}(I:Inv X C A H s)(os:c.os=s.os)(j:DF c.gens)(fl:FI B X.stack a cls y c.heap)(r:HOk X.prog X.w p c.heap)(un:Un (frs X.stack) [] H p s.heap c.heap)
  (D:∀b o,s.heap.get? b=AA o->H b=AD->b∉frs X.stack->B.get? b=AA o) (E:∀b u,p b=AA u->∃o,B.get? b=AA o) (G:∀b o,s.heap.get? b=AA o->b∉frs X.stack->∃g,B.get? b=AA g) (st:B.StaysIn h) (x:c.heap.UpToSlots h):
  Inv X C A p {c with heap:=h,toks:=t'}:=by
 refine I.call' (ch:=[]) (s':={c with heap:=h,toks:=t'}) os #[λb o q n d _=>st b o (D b o q n d),λb o q n d _=>?_,un.free,λb o q _=>?_,un.tups,un.frzs,un.tbls] (HOk.inB r fl.1 st E) j (λb z=>IU z (by simp))
 .let#[J,l]:=un.slot b o q n d (by simp);let#[_,g,f,t]:=BW fl.2.2.1 d;let#[m,w]:=x b _ l (by rw[f]at l;cases l;exact t);exact#[m,w]
 .by_cases d:b∈frs X.stack
  .let#[_,g,f,t]:=BW fl.2.2.1 d;let#[m,w]:=x b _ f t;exact#[_,w]
  .let#[g,l]:=G b o q d;exact#[g,st b g l]
end
abbrev cxP(X:Cx)(pn:IK (AJ×Bi)):Cx:={X with pn:=pn}
abbrev cxS(X:Cx)(pn:IK (AJ×Bi))(a:AJ):Cx:={X with A:=X.A.mark (AA (.ref a)),calm:=AB,pn:=pn,xe:=No}
section
variable {X:Cx}{B:IK (AJ×Bi)}{A:St}{H:Hp}{s:AK}
theorem Cx.Ok.pn(ok:X.Ok)(pn:IK (AJ×Bi)):(cxP X pn).Ok:=#[ok.mod,ok.kind,ok.glob,ok.blt,ok.above,ok.inj,ok.has,ok.cab,ok.hd,ok.frames,ok.stk,ok.exf,ok.bs,ok.bsz,ok.noex,ok.exfs,ok.funs,ok.frf]
theorem Cx.Ok.suite(ok:X.Ok)(pn:IK (AJ×Bi))(a:AJ):(cxS X pn a).Ok:=#[ok.mod,ok.kind,ok.glob,ok.blt,ok.above,ok.inj,ok.has,ok.cab,(λz=>nomatch z),ok.frames,ok.stk,ok.exf,ok.bs,ok.bsz,ok.noex,ok.exfs,ok.funs,ok.frf]
theorem Inv.toP(I:Inv X B A H s):Inv (cxP X (X.pn++B)) [] A H s:=#[I.ok.pn _,I.os,I.bare,I.base,I.loc,I.cell,I.free,I.freeC,λp a=>I.pin p (by simpa using a),I.hok,I.len]
theorem Inv.ofP(ok:X.Ok){pl:IK (AJ×Bi)}(I:Inv (cxP X (X.pn++B)) pl A H s):Inv X B A H s:=#[ok,I.os,I.bare,I.base,I.loc,I.cell,I.free,I.freeC,λp a=>I.pin p (Cd _ a),I.hok,I.len]
theorem Inv.toS(I:Inv (cxP X (X.pn++B)) [] A H s)(a:AJ):Inv (cxS X (X.pn++B) a) [] A H s:=#[Cx.Ok.suite (X:=X) #[I.ok.mod,I.ok.kind,I.ok.glob,I.ok.blt,I.ok.above,I.ok.inj,I.ok.has,I.ok.cab,I.ok.hd,I.ok.frames,I.ok.stk,I.ok.exf,I.ok.bs,I.ok.bsz,I.ok.noex,I.ok.exfs,I.ok.funs,I.ok.frf] _ a,I.os,I.bare,I.base,I.loc,I.cell,I.free,I.freeC,I.pin,I.hok,I.len]
theorem Inv.ofS(ok:X.Ok){a:AJ}{pl:IK (AJ×Bi)}(I:Inv (cxS X (X.pn++B) a) pl A H s):Inv X B A H s:=#[ok,I.os,I.bare,I.base,I.loc,I.cell,I.free,I.freeC,λp b=>I.pin p (Cd _ b),I.hok,I.len]
end
section
variable {X:Cx}{body suite:IK Bj}{b₀:Bj}{x n:AL}{np hpos pos:CB}{tb:XK->TS}{ts:TS}{W:AJ}{i:IL}
end
structure yam(k:IL)(A:Ak):Prop where
 dp:A.depth+3*k+5<recursionLimit
 un:A.units+16*k+200<cLine
theorem yav.h{k:IL}{A:Ak}(r:yav k A):yam k A:=#[r.dp,r.un]
theorem yam.mark{k:IL}{A:Ak}{e:Option AG}(r:yam k A):yam k (A.mark e):=#[r.dp,r.un]
theorem yam.deeper{k:IL}{A:Ak}(r:yam (k+1) A)(env:Env):yam k (A.deeper env):=#[by have:=r.dp;show A.depth+1+3*k+5<_;lia,by have:=r.un;show A.units+3+16*k+200<_;lia]
theorem yam.mono{j k:IL}{A:Ak}(r:yam k A)(h:j<=k):yam j A:=#[by have:=r.dp;lia,by have:=r.un;lia]
structure ybp(P:Aa)(w:Ai)(K:AF)(mg:AL->Option AG)(base:Au)(k:IL)(f:AJ)(fd:Aw)(ps:IK AL)(sp:Sp):Prop where
 len:∀vs H Q E,sp vs H Q E->vs.length=ps.length
 run:∀(A:Ak) (outer:IK Env) (s:AK) (H:Hp) (args:Args) (us:IK AG) (vs:IK V) (Q:VK),yam k A->ycg P w K mg base A outer s H->EV s fd args (ps.zip us)->Vals vs us->sp vs H Q E0 ->
  codeAny (model P w) A (.call (.ref f) args) (CR CX0 outer P w H s Q E0) s
abbrev ybF(P:Aa)(w:Ai)(K:AF)(c:AL->Option AG)(base:Au)(N:IK AL)(b:AL)(a:BZ)(f:AJ)(d:AG)(A:Ak)(outer:IK Env)(s:AK)(H:Hp):Cx:=
 {yaK CX0 P w K c base N b a f d A outer s H E0 with calm:=AB,xe:=No}
theorem Inv.calmless{X:Cx}{C:IK (AJ×Bi)}{B:St}{H:Hp}{s:AK}(I:Inv X C B H s)(A:Ak)(E:AG->AK->Prop)(hf:A.frames=X.A.frames):Inv {X with A:=A,calm:=AB,xe:=E} C B H s:=
 #[#[I.ok.mod,I.ok.kind,I.ok.glob,I.ok.blt,I.ok.above,I.ok.inj,I.ok.has,I.ok.cab,(λz=>nomatch z),hf.trans I.ok.frames,I.ok.stk,I.ok.exf,I.ok.bs,I.ok.bsz,I.ok.noex,I.ok.exfs,I.ok.funs,I.ok.frf],I.os,I.bare,I.base,I.loc,I.cell,I.free,I.freeC,I.pin,I.hok,I.len]
section
variable {P:Aa}{w:Ai}{K:AF}{mg:AL->Option AG}{base:Au}
theorem Fun.okH{x a:AL}{st:Bj}{f:AJ}{fd:Aw}{N p:IK AL}{k:IL}{sp:Sp}(F:Fun K x a st f fd)(S:yaF N p (yh st))(len:∀vs H Q E,sp vs H Q E->vs.length=p.length)
  (g:∀(cdv:AG) (A:Ak) (outer:IK Env) (s:AK) (H:Hp) (vs:IK V) (Q:VK),yam k (A.deeper (envOfC a (yh st) s.heap.objs.size f cdv))->sp vs H Q E0 ->
   ∃t,PSs (ybF P w K mg base N a (yh st) f cdv A outer s H) (yN st) t/\t {nx:=λ_ d=>Q .non d,rt:=Q} (start N vs) H):ybp P w K mg base (k+1) f fd p sp:=by
 let#[oc,od,kV,doc,pm,an,cdv,ct,osl,rfl,lk,D]:=F.ex;refine#[len,λA outer s H X us vs Q Y c hb r l=>?_];have hl:=len _ _ _ _ l;have Z:K.In s.heap:=c.mod.kin.keeps λb o e=>(c.bs b o e).1;have G:s.heap.NoLimit:=c.mod.nolimit.keeps λb o e=>(c.bs b o e).1;have j:∀y∈p.zip us,(yh st).names.lookup y.1=AA .local \/ ((yh st).names.lookup y.1=AA .cell/\((cellsFrom (s.heap.objs.size+1) (yh st).names []).lookup y.1).isSome=AC):=λ#[n,v] hy=>by
  rcases S.par n (Dg hy).1 with q|q
  .exact .inl q
  .exact .inr #[q,DJ _ _ _ (.inl q)]
 refine FT (by have:=Y.dp;lia) (Z _ _ lk) rfl S.co S.gen rfl (GH Z D) (hb _ _ _ _ ?_);refine EA S.kind j λenv he L x=>?_;subst he;refine#[G.keeps x.toInCall.keep,codeAny_func ?_];let#[t,ht,hq]:=g cdv A outer s H vs Q (Y.deeper _) l;have M:ycg P w K mg base {A with handled:=AD} outer s H:=#[c.frames,c.mod,c.bs,c.bsz,c.funs,c.frf,c.hok,c.bare];have I0:Inv (yaK CX0 P w K mg base N a (yh st) f cdv {A with handled:=AD} outer s H E0) [] (start N vs) H L:=zgr S rfl M hl r x;have I:Inv (ybF P w K mg base N a (yh st) f cdv A outer s H) [] (start N vs) H L:=I0.calmless (A.deeper (envOfC a (yh st) s.heap.objs.size f cdv)) No rfl;refine Bl (ht [] L (start N vs) H _ I hq) (λfl O B=>?_) λe O z=>z.elim;have m:∀{C:St} {d:Hp} {v:V} {u:AG},Inv (ybF P w K mg base N a (yh st) f cdv A outer s H) [] C d O->RelV v u->Q v d->CE outer P w H s Q u O:=
  λ{C d v u} J U q=>#[v,d,J.os,J.bare,J.base,J.hok,U,q]
 cases fl with
 |ret u=>
  let#[v,C,d,J,U,q]:=B;exact m J U q
 |next=>
  let#[C,d,J,q]:=B;exact m (v:=V.non) (u:=Bt) J rfl q
 |brk=>
  let#[_,_,_,q]:=B;exact BM q
 |cont=>
  let#[_,_,_,q]:=B;exact BM q
end
section
variable {X:Cx}{k:IL}{f:AJ}{fd:Aw}{ps:IK AL}{sp:Sp}{x:AL}{p pos:CB}{e:AT}{es:IK AT}{t:TA}
def ydV(sp:Sp)(t:TA):TE:=λB H Q=>t B H λa b=>sp a b Q E0
def zlx(F:ybp X.prog X.w X.K X.mg X.base k f fd ps sp)(m:yam k X.A)(n:Gl X x)(o:X.mg x=AA (.ref f))(w:Al X.K (.ref f)=AC)(y:Binds X.K fd ps [])(A:PA X (e::es) t)
  (d:(x==("__debug__":AL))=false:=by decide) (D:starEach (e::es) X.env=(AB,eval e X.env)::starEach es X.env:=by rfl) (g:(backTo pos (starEach es X.env)).any (·.1)=false:=by rfl):
  PE X (.Call (.Name x p) (e::es) [] pos) (ydV sp t):=by
 intro C s B H Q I h;refine BN (zb9 I n o ?_ d);refine C8 (h₀:=X.base) I.ok.mod.kin w (thn (A pos C s B H _ I h) λa j E=>?_) D g;let#[G,J,c,r,q]:=E;refine #[c.kIn,?_];have L:a.length=ps.length:=by rw[<-r.length];exact F.len _ _ _ _ q
 have l:EV j fd #[a,[]] (ps.zip a):=by have:=y j a c.kIn (by simpa using L);simpa using this
 refine GG (DH (F.run X.A X.stack j J #[a,[]] a G Q m c.env0 l r q) λM N b=>?_)
 cases M with
 |error z=>exact b.elim
 |ok fl=>
  cases fl with
  |ret u=>exact c.after b
  |next=>exact BM b
  |brk=>exact BM b
  |cont=>exact BM b
end
section
variable {P:Aa}{w:Ai}{K:AF}{mg:AL->Option AG}{base:Au}
theorem own1{N b a f c A outer s H E CX}:
  El (model (yaK CX P w K mg base N b a f c A outer s H E).prog (yaK CX P w K mg base N b a f c A outer s H E).w) (yaK CX P w K mg base N b a f c A outer s H E).A (yaK CX P w K mg base N b a f c A outer s H E).env (yaK CX P w K mg base N b a f c A outer s H E).xe:=
 PassesOwn.leaving
def ydY(p:ClassData->IQ):Data->IQ
 |.cls c=>p c
 |_=>AB
abbrev yeW(a:Ii)(s:IK (Option AG))(k:IL->Option AG):IQ:=s == [k 0,k 1,k 2,k 3,AA (.builtin a),k 5]
def yb8(K:AF)(C:AJ)(ts:IK AG)(a:Ii):IQ:=(K.lookup C).any λo=>o.cls==.type "type" && yeW a o.slots.toList (λi=>o.slots.toList.getD i AD)&&ydY (λc=>c.mro==.ref C::c.mro.tail&&c.hasDel==AB&&PySem.W.tailIn K ts c.mro.tail&&PySem.W.nsOkIn K c.ns&&BC K c.ns "__init__" == AA AD) o.data
def zls{p}{d:Data}(h:ydY p d=AC):∃c,d=.cls c/\p c=true:=by cases d<;>first|exact(AN h).elim|exact#[_,rfl,h]
def zso{o:Bi}{c l m v d}(a:o.cls=v)(b:o.data=.cls c)(f:c.mro=m)(g:c.hasDel=d)(j:o.slots.toList=l):o=#[v,o.dict,.cls #[c.name,c.bases,m,c.ns,c.qualname,c.hasDict,c.slotNames,c.subclasses,c.abstract,c.collection,d],#[l]]:=by subst a f g j;show o=#[o.cls,o.dict,.cls c,o.slots];rw[<-b]
def zsp{x:AL}{C ts}{a:Ii}{h}(X:K.In h)(b:mg x=AA (.ref C))(q:yb8 K C ts a=AC):OwnCls x C ts a mg h:=by
 revert q
 unfold yb8
 cases p:K.lookup C
 .intro q;cases q
 rename_i o;intro q;have G:=X _ _ p
 clear p
 erw[Option.any_some,AH,Ig]at q;let#[#[v,s],e]:=q;let#[c,E,q]:=zls e;erw[AH,Ig]at q;let#[#[#[#[m,d],w],k],i]:=q;exact#[b,_,_,_,_,_,_,_,_,_,_,_,_,_,_,_,_,_,G.trans (Ic _ (zso v E m d s)),.of_isNs (PySem.W.isNs_of_in X k),PySem.W.nsMap_none_of_in X k i,PySem.W.tail_of_in X w]
end
section
variable {X:Cx}
end
section
variable {X:Cx}
def ygt(K:AF):IK V->Hp->VK->Prop:=λc H Q=>∃(l:AJ) (b:IK IM),c=[.ref l]/\SqL K H l (b.map V.int)/\0<b.length/\∀M,M∈b->(∀a,a∈b->a<=M)->Q (.int M) H
def ziK(w:X.calm=AC):yU X (.builtin "max") (ygt X.K):=by
 intro B s A H M N Q I r h;let#[l,m,rfl,x,c,q]:=h;let#[u,rfl,y]:=Vals.one r
 cases (show u=Ae l from y)
 let#[f,z,C,O]:=I.list x;have n:Fe f m:=zhU z;let#[d,e]:=n.allInts.items;have b:m=d.toList.map (·.1):=by rw[<-n.numsOf,<-nums_intItems,<-e]
 have g:0<d.size:=by rw[b,Aq,BF]at c;exact c
 have o:=C.isList;rw[e]at o;refine max_intList (I.ok.hd w) o g λv U D E G=>?_;let#[t,rfl]:=intItems_at E;let#[Y,J]:=argBest_gt (numAt d) (d.size-1);refine#[.int _,H,I.kept (t':=D) G,#[t,rfl],q _ ?_ λa p=>?_]
 .rw[b,numAt_eq];exact getD_mem (by rw[Aq,BF];lia)
 .rw[b]at p;let#[j,L,rfl]:=mem_getD p;rw[Aq,BF]at L;rw[<-numAt_eq];exact J j ()
end
section
variable {R:Type}[Ih R]
def ybu(a:IK (R×V))(k:R):Option V:=(a.find? λb=>decide (b.1=k)).map (·.2)
def putK(a:IK (R×V))(k:R)(v:V):IK (R×V):=
 if (a.any λb=>decide (b.1=k))=AC then a.map (λb=>if b.1=k then(b.1,v)else b)else a++[(k,v)]
def zc5{p:R×V}{r:IK (R×V)}{k:R}(e:p.1=k):ybu (p::r) k=AA p.2:=by simp[ybu,Bw,e]
def zdd{p:R×V}{r:IK (R×V)}{k:R}(e:¬p.1=k):ybu (p::r) k=ybu r k:=by simp[ybu,Bw,e]
def zhy(k:R):∀a:IK (R×V),(a.any λb=>decide (b.1=k))=(ybu a k).isSome
 |[]=>rfl
 |p::r=>by
  rw[Az]
  by_cases e:p.1=k
  .simp only[zc5 e,IW e,G3,Option.isSome_some]
  .rw[zdd e,IT e,Fx];exact zhy k r
def zd5(a:IK (R×V))(k:R)(v:V):(putK a k v).length<=a.length+1:=by
 unfold putK;split
 .rw[Aq];lia
 .rw[Ab,A7,By];lia
theorem ybg.isSome_eq{o:Option V}{u:Option AG}(r:ybg o u):o.isSome=u.isSome:=by
 cases o with
 |none=>cases u with
  |none=>rfl
  |some _=>exact(show IY from r).elim
 |some _=>cases u with
  |none=>exact(show IY from r).elim
  |some _=>rfl
theorem ybg.getD{o:Option V}{u:Option AG}{d:V}{d':AG}(r:ybg o u)(rd:RelV d d'):RelV (o.getD d) (u.getD d'):=by
 cases o with
 |none=>cases u with
  |none=>exact rd
  |some _=>exact(show IY from r).elim
 |some _=>cases u with
  |none=>exact(show IY from r).elim
  |some _=>exact r
theorem KV.val{a:IK (R×V)}{vs:IK (R×AG)}(r:KV a vs)(k:R):ybg (ybu a k) (valueAt vs k):=by
 unfold KV at r
 induction r with
 |nil=>exact C7
 |@cons p q j c h t ih=>
  let#[f,g]:=h
  by_cases e:p.1=k
  .have d:q.1=k:=f.symm.trans e;have b:valueAt (q::c) k=AA q.2:=by simp[valueAt,Bw,d]
   rw[zc5 e,b];exact g
  .have d:¬q.1=k:=λz=>e (f.trans z);have b:valueAt (q::c) k=valueAt c k:=by simp[valueAt,Bw,d]
   rw[zdd e,b];exact ih
theorem KV.any{a:IK (R×V)}{vs:IK (R×AG)}(r:KV a vs)(k:R):(a.any λb=>decide (b.1=k))=vs.any λb=>decide (b.1=k):=by
 unfold KV at r
 induction r with
 |nil=>rfl
 |cons h t ih=>rw[Az,Az,ih,h.1]
theorem KV.repl{b:IK (R×V)}{vs:IK (R×AG)}(r:KV b vs)(k:R){y:V}{u:AG}(d:RelV y u):
  KV (b.map λa=>if a.1=k then(a.1,y)else a) (vs.map λa=>if a.1=k then(a.1,u)else a):=by
 unfold KV at r ⊢
 induction r with
 |nil=>exact .nil
 |@cons p q g j h t ih=>
  rw[AO,AO];refine .cons ?_ ih;let#[c,f]:=h
  by_cases e:p.1=k
  .rw[IR e,IR (c.symm.trans e)];exact#[c,d]
  .rw[IS e,IS (λz=>e (c.trans z))];exact#[c,f]
theorem KV.put{a:IK (R×V)}{vs:IK (R×AG)}(r:KV a vs)(k:R){y:V}{u:AG}(b:RelV y u):KV (putK a k y) (stored vs k u):=by
 unfold putK stored;rw[r.any k]
 by_cases e:(vs.any λc=>decide (c.1=k))=AC
 .rw[IR e,IR e];exact r.repl k b
 .rw[IS e,IS e];exact Hy r #[rfl,b]
theorem KV.length{a:IK (R×V)}{vs:IK (R×AG)}(r:KV a vs):a.length=vs.length:=Ec r
end
def zmQ{P w k u}(r:RelV (kV k) u):(yP P w).is k u=true:=by
 cases k with
 |inl i=>let#[t,e]:=(show ∃t,u=Ek i t from r);subst e;exact zgA P w i t
 |inr x=>let#[t,e]:=(show ∃t,u=G9 x t from r);subst e;exact zgv P w x t
def zgm{P w}:∀{a:IK Key}{us:IK AG},Vals (a.map kV) us->ItemsAre (yP P w) a us
 |[],_,r=>by rw[BV]at r;cases r;exact .nil
 |k::a,_,r=>by
  rw[AO]at r
  cases r with
  |cons h t=>exact .cons (zmQ h) (zgm t)
abbrev KT(H:Hp):IK (IK Key×V)->IK (IK Key×AJ×AG)->Prop:=Gz λp q=>p.1=q.1/\H q.2.1=AA (.tup (p.1.map kV))/\RelV p.2 q.2.2
theorem KT.val{H:Hp}{a:IK (IK Key×V)}{xs:IK (IK Key×AJ×AG)}(r:KT H a xs)(k:IK Key):ybg (ybu a k) ((atKey xs k).map (·.2)):=by
 induction r with
 |nil=>exact C7
 |@cons p q j c h t ih=>
  let#[f,_,g]:=h
  by_cases e:p.1=k
  .have d:q.1=k:=f.symm.trans e;have b:atKey (q::c) k=AA q.2:=by simp[atKey,Bw,d]
   rw[zc5 e,b];exact g
  .have d:¬q.1=k:=λz=>e (f.trans z);have b:atKey (q::c) k=atKey c k:=by simp[atKey,Bw,d]
   rw[zdd e,b];exact ih
theorem KT.repl{H:Hp}{a:IK (IK Key×V)}{xs:IK (IK Key×AJ×AG)}(r:KT H a xs)(k:IK Key){y:V}{u:AG}(f:RelV y u):
  KT H (a.map λc=>if c.1=k then(c.1,y)else c) (xs.map (putAt k u)):=by
 induction r with
 |nil=>exact .nil
 |@cons p q j l h t ih=>
  rw[AO,AO];refine .cons ?_ ih;let#[b,d,g]:=h;unfold putAt
  by_cases e:p.1=k
  .rw[IR e,IR (b.symm.trans e)];exact#[b,d,f]
  .rw[IS e,IS (λz=>e (b.trans z))];exact#[b,d,g]
theorem KT.put{H:Hp}{a:IK (IK Key×V)}{xs:IK (IK Key×AJ×AG)}(r:KT H a xs)(k:IK Key){b:AJ}{y:V}{u:AG}(d:H b=AA (.tup (k.map kV)))(c:RelV y u):
  KT H (putK a k y) (storedH xs k b u):=by
 have e:(a.any λf=>decide (f.1=k))=(atKey xs k).isSome:=by rw[zhy,(r.val k).isSome_eq,Option.isSome_map]
 unfold putK storedH;rw[e]
 by_cases q:(atKey xs k).isSome=AC
 .rw[IR q,IR q];exact r.repl k c
 .rw[IS q,IS q];exact Hy r #[rfl,d,c]
theorem KT.keeps{H c:Hp}{a:IK (IK Key×V)}{xs:IK (IK Key×AJ×AG)}(r:KT H a xs)(f:∀b d,H b=AA (.tup d)->c b=AA (.tup d)):KT c a xs:=
 Paired.mapP r λ_ _ z=>#[z.1,f _ _ z.2.1,z.2.2]
section
variable {P:Aa}{w:Ai}{H:Hp}{h:Au}{a:AJ}
def zpP{u}(ok:HOk P w H h)(e:Rd H a u):yQ P w H h a u:=e.ok ok
def zny{b}(ok:HOk P w H h)(e:Rd H a (.dK b)):b.length<=sizeLine/\(a==sysModules)=AB/\∃c,KV b c/\h.DictOf (yP P w) a c:=
 show yQ P w H h a (.dK b)from zpP ok e
def zrA{b}(ok:HOk P w H h)(e:H a=AA (.dK b)):b.length<=sizeLine/\(a==sysModules)=AB/\∃c,KV b c/\h.DictOf (yP P w) a c:=zny ok (.inl e)
def zjE{b:IK Key}(ok:HOk P w H h)(e:H a=AA (.tup (b.map kV))):(tupleKind (yP P w)).is h b a:=by let#[_,c,r,o,d,f,n,g]:=(show yQ P w H h a (.tup (b.map kV))from ok a _ e);exact#[o,c.toArray,n,d,f,g,by simpa using zgm r]
def zol{b}(ok:HOk P w H h)(e:Rd H a (.dT b)):b.length<=sizeLine/\(a==sysModules)=AB /\
  ∃d,KT H b d/\h.DictOfH (tupleKind (yP P w)) a d:=by
 let#[z,y,d,r,o,g,j,n,u,A,B,C]:=(show yQ P w H h a (.dT b)from zpP ok e);refine#[z,y,d,r,o,g,j,n,u,A,B,λx c=>?_,C];have all:∀{l:IK (IK Key×V)} {m:IK (IK Key×AJ×AG)},KT H l m->∀x∈m,(tupleKind (yP P w)).is h x.1 x.2.1:=by
  intro l m q
  induction q with
  |nil=>intro x c;exact nomatch c
  |@cons p q D E f t ih=>
   intro x c;rcases AS.mp c with e|c
   .subst e;exact zjE ok (by rw[<-f.1];exact f.2.1)
   .exact ih x c
 exact all r x c
def zrt{b}(ok:HOk P w H h)(e:H a=AA (.dT b)):b.length<=sizeLine/\(a==sysModules)=AB /\
  ∃c,KT H b c/\h.DictOfH (tupleKind (yP P w)) a c:=zol ok (.inl e)
end
def yfz(H:Hp)(a:AJ)(y:V)(r:Option V):Prop:=
 (∃c k,Rd H a (.dK c)/\y=kV k/\r=ybu c k) \/ ∃c k b,Rd H a (.dT c)/\y=.ref b/\H b=AA (.tup (k.map kV))/\r=ybu c k
def yfy(H:Hp)(a:AJ)(y v:V)(d:Hp):Prop:=
 (∃c k,H a=AA (.dK c)/\y=kV k/\c.length<sizeLine/\d=upd H a (.dK (putK c k v))) \/
 ∃c k b,H a=AA (.dT c)/\y=.ref b/\H b=AA (.tup (k.map kV))/\c.length<sizeLine/\d=upd H a (.dT (putK c k v))
section
variable {X:Cx}{C:IK (AJ×Bi)}{B:St}{H:Hp}{s:AK}{a:AJ}{y v:V}{u r:AG}{o:Option V}{A:Ak}{E:AG->AK->Prop}
theorem Inv.big(I:Inv X C B H s):sysModules<s.heap.objs.size:=by have h:mainGlobals<s.heap.objs.size:=(I.mod.glob.keeps I.bk).lt;exact IL.lt_trans ⋯ h
def zi9{h'}{t':IL}{c}(I:Inv X C B H s)(f:Mut (H a))(g:C6 a s.heap h')(j:∃q,h'.get? a=AA q)(d:yQ X.prog X.w (upd H a c) h' a c):
  Inv X C B (upd H a c) {s with heap:=h',toks:=t'}:=
 I.write (x:=a) (e:=a) f (.inl rfl) (λb q l z=>(g.2 b l).trans z) j d
def zpO{P w c}{h':Au}{b:IK (Key×V)}{vs}(z:b.length<=sizeLine)(d:(a==sysModules)=AB)(rel:KV b vs)(dd:h'.DictOf (yP P w) a vs):
  yQ P w c h' a (.dK b):=#[z,d,vs,rel,dd]
def zjg{D}{Q:Ik->AK->Prop}(U:A.units+1<cLine)(I:Inv X C B H s)(g:yfy H a y v D)(G:RelV y u)(J:RelV v r)(h:∀L,Inv X C B D L->Q Ik.unit L):
  A6 (model X.prog X.w) A (setItem (.ref a) u r) Q E s:=by
 rcases g with⟨d,k,e,m,l,n⟩|⟨d,k,b,e,m,M,l,n⟩
 .subst m n;let#[z,o,Y,rel,p]:=zrA I.hok e;have t:Y.length<=sizeLine:=by rw[<-rel.length];exact z
  have w:(putK d k v).length<=sizeLine:=by have:=zd5 d k v;lia
  refine wpAny_setItem_pairs (hsz:=t) (zmQ G) p λN f x=>h _ ?_;have Z:∃q,N.get? a=AA q:=let #[q,_,_,j,_]:=f;#[q,j]
  exact zi9 I (by rw[e];exact C7) x Z (zpO w o (rel.put k J) f)
 .subst m n
  cases (show u=Ae b from G)
  let#[z,o,xs,rel,p]:=zrt I.hok e;have t:xs.length<=sizeLine:=by rw[<-Ec rel];exact z
  have w:(putK d k v).length<=sizeLine:=by have:=zd5 d k v;lia
  refine wpAny_setItem_heap (hsz:=t) (GN U) (zjE I.hok M) p λN f x=>h _ ?_;let#[q,es,ep,j,h2,h3,h4,_,h5]:=f;refine zi9 I (by rw[e];exact C7) x #[q,j] #[w,o,_,(rel.put k M J).keeps λc ys O=>?_,q,es,ep,j,h2,h3,h4,h5];rw[zj (zrh O e (λz=>nomatch z))];exact O
end
section
variable {X:Cx}{C:IK (AJ×Bi)}{B:St}{H:Hp}{s:AK}{a:AJ}{kvs:IK (Key×V)}{k:Key}{u:AG}{A:Ak}{E:AG->AK->Prop}
end
def ydb(i:AT):Prop:=∀a b,subscripted i AB a b=operate [a,b] (getItem a b)
def ziO{prog w A E s env b a pos T id Q}
  (p:typeLookup (.type T) "__getitem__"=pure (AA (.builtin id))) (q:ydb a)
  (h:A6 (model prog w) A (eval b env) (λo f=>A6 (model prog w) A (eval a env) (λi c=>c.TypeIs o T/\A6 (model prog w) A (getItem o i) Q E c) E f) E s):
  A6 (model prog w) A (eval (.Subscript b a pos) env) Q E s:=by
 refine HE (Bl h (λo f l=>Bl l (λi c d=>?_) λ_ _ x=>x) λ_ _ x=>x);let#[n,d]:=d;unfold subscriptTail;refine AI ?_;rw[getitemInPython_of_ne n.not_modules];refine AI (wpAny_specialOf n p ?_);have j:A6 (model prog w) A (subscripted a AB o i) (λr g=>A6 (model prog w) A (letTemporaryGo b o r >>= λ_=>pure r) Q E g) E c:=by rw[q o i];exact wpAny_operating (Bl d (λr g m=>AI (wpAny_letTemporaryGo (AV m))) λ_ _ x=>x)
 first
  |exact AV (AI j)
  |exact AI (AV (AI j))
  |exact AI j
def yfa(c d f:TE):TS:=λD A H=>f A H λv g=>c A g λx j=>d A j λy l=>∃a b,x=.ref a/\yfy l a y v b/\D.nx A b
section
variable {X:Cx}{o i e value:AT}{pos pos' tpos:CB}{td ty tv:TE}
def znx(c:X.A.units+1<cLine)(d:PE X o td)(f:PE X i ty)(j:PE X value tv)(l:swapsWith value (AA (.Subscript o i pos')) pos.line X.env=pure AB):
  PS X (.Assign [.Subscript o i pos'] value pos) (yfa td ty tv):=by intro C s B H D I h;refine wpAny_Assign_Subscript (thn (j C s B H _ I h) λr m b=>?_) l;let#[v,n,p,q,t]:=b;refine thn (d C m B n _ p t) λu w b=>?_;let#[x,z,A,E,G]:=b;refine thn (f C w B z _ A G) λQ U b=>?_;let#[y,Y,J,L,a,M,ex,g,N]:=b;subst ex;obtain rfl:u=Ae a:=E;exact zjg c J g L q λZ O=>#[B,M,O,N]
end
def zkS{P w H}(h:Au)(a:sysModules<h.objs.size):yQ P w H (h.push {cls:=.type "dict",data:=.dict (IK.toArray [])}) h.objs.size (.dT []):=
 #[D6 _,IP.mpr (Ax (Am a)),[],.nil,_,(IK.toArray []),0,A8 _ rfl,#[rfl,rfl,rfl],rfl,rfl,IK.nodup_nil]
def ydP:TE:=λ_ H Q=>∀p,H p=AD->Q (.ref p) (upd H p (.dT []))
section
variable {X:Cx}{pos:CB}
def zsq:PE X (.Dict [] [] pos) ydP:=λB s A H Q I h=>
 wpAny_Dict_empty #[.ref s.heap.objs.size,_,I.laid (a:=s.heap.objs.size) (o:=.dT []) (t':=s.toks) (λ_ _ q=>AR _ q) (AQ _) (zkS s.heap I.big),rfl,h _ (I.hok.fresh (AQ _))]
end
structure M2(X:Cx)(o:AT)(m:AL)(apos:CB)(e f:AT)(cpos:CB):Prop where
 base:attributeBase o m X.env (eval o X.env)=eval o X.env
 few:((backTo cpos (starEach [e,f] X.env)).all (λx=>!x.1)&&(backToKw cpos (keywordEach [] X.env)).all (λx=>x.1.isSome)
  && decide (([e,f]:IK AT).length+([]:IK Br).length+(if ([]:IK Br).isEmpty then 0 else 1)<30))=AC
 line:(apos.endLine==cpos.line)=AC
 trees:backTo cpos (starEach [e,f] X.env)=[(AB,eval e X.env),(AB,eval f X.env)]
def IsD(H:Hp)(a:AJ):Prop:=(∃b,Rd H a (.dK b)) \/ ∃b,Rd H a (.dT b)
def zqK{X B A H s a}(I:Inv X B A H s)(d:IsD H a):
  s.TypeIs (.ref a) "dict"/\(∀b,Ae a=.ref b->∃c,s.heap.get? b=AA c/\c.dict=AD)/\(a==sysModules)=false:=by
 rcases d with⟨g,e⟩|⟨g,e⟩
 .let#[_,j,n,_,f]:=zny I.hok e;refine#[f.typeIs,λb q=>?_,j]
  cases q
  let#[c,_,_,l,m,_]:=f;exact#[c,l,m.2.1]
 .let#[_,j,o,_,f]:=zol I.hok e;refine#[f.typeIs,λb q=>?_,j]
  cases q
  let#[c,_,_,l,m,_]:=f;exact#[c,l,m.2.1]
section
variable {X:Cx}{C:IK (AJ×Bi)}{B:St}{H:Hp}{s:AK}{a:AJ}{y d:V}{u r:AG}{o:Option V}{A:Ak}{E:AG->AK->Prop}
def zqy{Q:AG->AK->Prop}(t:A.units+1<cLine)(I:Inv X C B H s)(g:yfz H a y o)(n:RelV y u)(rd:RelV d r)(h:∀p q,Inv X C B H q->RelV (o.getD d) p->Q p q):
  A6 (model X.prog X.w) A (call (.builtin "dict.get") [.ref a,u,r]) Q E s:=by
 rcases g with⟨f,k,e,j,l⟩|⟨f,k,b,e,j,w,l⟩
 .subst j;let#[z,m,D,rel,c]:=zny I.hok e;refine call_meetsIn DR c.typeIs FJ (Es _ _ _) (meets_dict_get_default (yP X.prog X.w) a (zmQ n) m r) #[_,c.mapOf,h _ _ (I.tok _) ?_];rw[l];exact(rel.val k).getD rd
 .subst j
  cases (show u=Ae b from n)
  let#[z,m,x,rel,c]:=zol I.hok e;refine call_meetsIn DR c.typeIs FJ (Es _ _ _) (meetsH_dict_get_default (tupleKind (yP X.prog X.w)) a b m r) #[GN t,k,x,zjE I.hok w,c,h _ _ (I.tok _) ?_];rw[l];exact(rel.val k).getD rd
end
def ydX(d f g:TE):TE:=λA H Q=>d A H λx b=>∃a,x=.ref a/\IsD b a/\f A b λy j=>g A j λz c=>∃o,yfz c a y o/\Q (o.getD z) c
section
variable {X:Cx}{o e f:AT}{apos cpos:CB}{td ty tx:TE}
def zlG(j:X.A.units+1<cLine)(l:PE X o td)(n:PE X e ty)(hf:PE X f tx)(m:M2 X o "get" apos e f cpos):PE X (.Call (.Attribute o "get" apos) [e,f] [] cpos) (ydX td ty tx):=by
 intro C s B H Q I h;refine wpAny_Call_method m.base m.few m.line PySem.F.plainAttrs_dict DR PySem.F.type_dict_get (thn (l C s B H _ I h) λu p q=>?_);let#[x,r,c,t,a,ex,d,w]:=q;subst ex;obtain rfl:u=Ae a:=t;let#[A,D,_]:=zqK c d;refine#[A,D,?_];rw[m.trees];refine FH rfl (D7 (Dz (thn (n C p B r _ c w) λiv E #[y,G,J,L,M]=>
  Dz (thn (hf C E B G _ J M) λfv s3 #[z,N,O,U,ov,g,Y]=>GV ?_))))
 exact zqy j O g L U λw' s4 Z b=>#[_,N,Z,b,Y]
end
section
variable {X:Cx}{C:IK (AJ×Bi)}{B:St}{H:Hp}{s:AK}{a:AJ}{kvs:IK (Key×V)}{A:Ak}{E:AG->AK->Prop}
end
section
variable {X:Cx}{C:IK (AJ×Bi)}{B:St}{H:Hp}{s:AK}{a:AJ}{y:V}{u:AG}{A:Ak}{E:AG->AK->Prop}
end
end L2
namespace IC
open PySem
inductive PV where
 |non|bl (b:IQ)|int (i:IM)|str (x:AL)|tp (k:IQ) (xs:IK PV)|lst (xs:IK PV)|loc (n:IL)|exn (c:IL)|scr (xs:IK PV)|fnc (j:IL)
deriving Inhabited
abbrev PV.tup(xs:IK PV):PV:=.tp AB xs
mutual
noncomputable def nL:PV->IQ
 |.loc _=>AB
 |.exn _=>AB
 |.fnc _=>AC
 |.tp _ a=>nLs a
 |.lst a=>nLs a
 |.scr a=>nLs a
 |_=>AC
noncomputable def nLs:IK PV->IQ
 |[]=>AC
 |x::a=>nL x&&nLs a
end
mutual
noncomputable def shd(n:IL):PV->IQ
 |.non=>AC
 |.bl _=>AC
 |.int _=>AC
 |.str x=>x.cps.all (· < 0x110000)
 |.tp _ a=>decide (0<n)&&yaU (n-1) a
 |.lst a=>decide (0<n)&&yaU (n-1) a
 |_=>AB
noncomputable def yaU(n:IL):IK PV->IQ
 |[]=>AC
 |x::a=>shd n x&&yaU n a
end
abbrev shp(v:PV):IQ:=shd 60 v
def flat:PV->IQ
 |.non=>AC
 |.bl _=>AC
 |.int _=>AC
 |.str _=>AC
 |_=>AB
def bi(b:IQ):IM:=if b then 1 else 0
mutual
noncomputable def peq:PV->PV->IQ
 |.non,.non=>AC
 |.bl a,.bl b=>a==b
 |.bl a,.int j=>bi a==j
 |.int i,.bl b=>i==bi b
 |.int i,.int j=>i==j
 |.str x,.str y=>x==y
 |.tp _ c,.tp _ d=>ybJ c d
 |.lst c,.lst d=>ybJ c d
 |_,_=>AB
noncomputable def ybJ:IK PV->IK PV->IQ
 |[],[]=>AC
 |x::a,y::b=>peq x y&&ybJ a b
 |_,_=>AB
end
inductive Ob where
 |lst (xs:IK PV)|dct (t:IQ) (kvs:IK (PV×PV))|dead|ins (c:IL) (fs:IK (AL×PV))
abbrev Env:=IK (Option PV)
abbrev SO:=IK Ob
inductive R(A:Type) where
 |ok (a:A) (st:SO)|exc (c:IL) (st:SO)|bad
def R.bind{A B:Type}(r:R A)(k:A->SO->R B):R B:=
 match r with
 |.ok a st=>k a st
 |.exc c st=>.exc c st
 |.bad=>.bad
inductive BOp where
 |add|sub|mul|fdiv|mod|pow|shl|shr|band|bor|bxor
inductive COp where
 |eq|ne|lt|le|gt|ge|is|isnot|isin|notin
inductive Ty where
 |int|bool|str|tuple|list|cls (c:IL)|val
inductive Blt where
 |len|int|abs|min|max|tuple|list|all|sum|dict|rev|str|any
inductive Mth where
 |append|extend|get|bits|upper|insert|count|index|join|split|sidx|clear
inductive Tg where
 |n (i:IL)|t (l:IK IL)
set_option genInjectivity false
mutual
inductive Ce where
 |cst (v:PV)
 |var (i:IL)
 |bin (o:BOp) (a b:Ce)
 |neg (a:Ce)
 |not (a:Ce)
 |and (a b:Ce)
 |or (a b:Ce)
 |cmp (o:COp) (a b:Ce)
 |chain (o p:COp) (a b c:Ce)
 |ite (c a b:Ce)
 |tup (es:Ces)
 |lst (es:Ces)
 |newl (es:Ces)
 |dict0 (t:IQ)
 |idx (a i:Ce)
 |slc (a:Ce) (lo hi:Ce)
 |call (f:IL) (args:Ces)
 |blt (b:Blt) (args:Ces)
 |mth (m:Mth) (o:Ce) (args:Ces)
 |isi (a:Ce) (t:IK Ty)
 |isx (a:Ce) (cs:IK IL) (t:IK Ty)
 |comp (sl:IK (Option IL)) (tg:Tg) (it:Cit) (c:Ce) (e:Ce)
 |frz (a:Ce)
 |nope
 |fst (e:Ces)
 |dix (D:IK (AL×PV)) (a:Ce)
 |din (a:Ce) (D:IK (AL×PV))
 |thw (a:Ce)
 |fld (c:IL) (a:Ce) (f:AL)
 |new (c i:IL) (es:Ces)
 |mcl (c i:IL) (m:AL) (o:Ce) (es:Ces)
 |inn (a b:Ce)
 |qcl (i:IL) (es:Ces)
inductive Ces where
 |nil
 |cons (e:Ce) (es:Ces)
inductive Cit where
 |seq (e:Ce)
 |range1 (a:Ce)
 |range2 (a b:Ce)
 |rangeD (a b:Ce)
 |enum (e:Ce)
 |zip (a b:Ce)
 |revl (e:Ce)
 |revr (a:Ce)
 |chars (e:Ce)
end
set_option genInjectivity true
abbrev Ce.i(n:IM):Ce:=.cst (.int n)
abbrev Ce.s(x:AL):Ce:=.cst (.str x)
abbrev Ce.v:=Ce.var
abbrev Ces.k:=Ces.cons
abbrev Ces.e:=Ces.nil
mutual
inductive Cs where
 |expr (e:Ce)
 |asg (t:Tg) (e:Ce)
 |six (o i e:Ce)
 |dput (o i e:Ce)
 |aug (i:IL) (o:BOp) (e:Ce)
 |ret (e:Ce)
 |ite (c:Ce) (a b:Css)
 |for (t:Tg) (it:Cit) (b:Css)
 |while (c:Ce) (b:Css)
 |nope
 |raise (c:IL) (e:Ce)
 |try (b:Css) (cs:IK IL) (i:IL) (h:Css)
 |sfl (c:IL) (o:Ce) (f:AL) (e:Ce)
 |mkr (i:IL) (D:IK (AL×IL)) (n:Ce) (es:Ces)
inductive Css where
 |nil
 |cons (s:Cs) (ss:Css)
end
abbrev Css.k:=Css.cons
abbrev Css.e:=Css.nil
def yaA(i j:IM):IQ:=(decide (i.natAbs<18446744073709551616)) || (decide (j.natAbs<18446744073709551616))
def binI(o:BOp)(i j:IM):Option PV:=
 match o with
 |.add=>AA (.int (i+j))
 |.sub=>AA (.int (i-j))
 |.mul=>if yaA i j then AA (.int (i*j))else AD
 |.fdiv=>if 0<j/\j<10000000000000000000000000000000000000000000000000000000000000000000000 then AA (.int (i/j))else AD
 |.mod=>if 0<j then AA (.int (i%j))else AD
 |.pow=>if 0<=j/\j<=1000000/\i.natAbs<18446744073709551616 then AA (.int (i^j.toNat))else AD
 |.shl=>if 0<=j/\j<=1000000/\i.natAbs<18446744073709551616 then AA (.int (i*2^j.toNat))else AD
 |.shr=>if 0<=j then AA (.int (i/2^j.toNat))else AD
 |.band=>AA (.int (Ao i j))
 |.bor=>AA (.int (BX i j))
 |.bxor=>AA (.int (B5 i j))
def sizeMax:IL:=16777216
def yd8(k:IQ)(a:IK PV)(j:IQ)(b:IK PV):PV:=if a.isEmpty then .tp j b else if b.isEmpty then .tp k a else .tup (a++b)
def yq(o:BOp)(x y:PV):Option PV:=
 match x,y with
 |.int i,.int j=>binI o i j
 |.int i,.bl b=>match o with
  |.add=>AA (.int (i+bi b))
  |_=>AD
 |.str a,.str b=>match o with
  |.add=>if a.length+b.length<=sizeMax then AA (.str (a++b))else AD
  |_=>AD
 |.tp k a,.tp j b=>match o with
  |.add=>if a.length+b.length<=sizeMax then AA (yd8 k a j b)else AD
  |_=>AD
 |.lst a,.lst b=>match o with
  |.add=>if a.length+b.length<=sizeMax then AA (.lst (a++b))else AD
  |_=>AD
 |_,_=>AD
def ybE(o:BOp)(x y:PV):Option PV:=
 match x,y with
 |.int i,.int j=>binI o i j
 |_,_=>AD
def ydF:PV->IQ
 |.non=>AC
 |_=>AB
def inL(x:PV):IK PV->IQ
 |[]=>AB
 |y::a=>peq y x || inL x a
def inS(a b:AL):IQ:=(Bk (b.length+1)).any λi=>decide (i+a.length<=b.length)&&(b.cps.extract i (i+a.length)==a.cps)
def ybQ(o:COp)(i j:IM):Option PV:=
 match o with
 |.lt=>AA (.bl (decide (i<j)))
 |.le=>AA (.bl (decide (i<=j)))
 |.gt=>AA (.bl (decide (j<i)))
 |.ge=>AA (.bl (decide (j<=i)))
 |_=>AD
def yeB(o:COp)(a b:AL):Option PV:=
 match o with
 |.lt=>AA (.bl (decide (a.cps.toList<b.cps.toList)))
 |.le=>AA (.bl (!decide (b.cps.toList<a.cps.toList)))
 |_=>AD
def yp(o:COp)(x y:PV):Option PV:=
 match o with
 |.eq=>if shp x&&shp y then AA (.bl (peq x y))else AD
 |.ne=>if shp x&&shp y then AA (.bl (!peq x y))else AD
 |.is=>match y with
  |.non=>AA (.bl (ydF x))
  |.bl b=>match x with
   |.bl a=>AA (.bl (a==b))
   |_=>AD
  |_=>AD
 |.isnot=>match y with
  |.non=>AA (.bl (!ydF x))
  |.bl b=>match x with
   |.bl a=>AA (.bl (!(a==b)))
   |_=>AD
  |_=>AD
 |.isin=>match x,y with
  |.str a,.str b=>AA (.bl (inS a b))
  |x,.tp _ l=>if flat x&&l.all flat then AA (.bl (inL x l))else AD
  |x,.lst l=>if flat x&&l.all flat then AA (.bl (inL x l))else AD
  |_,_=>AD
 |.notin=>match x,y with
  |.str a,.str b=>AA (.bl (!inS a b))
  |x,.tp _ l=>if flat x&&l.all flat then AA (.bl (!inL x l))else AD
  |x,.lst l=>if flat x&&l.all flat then AA (.bl (!inL x l))else AD
  |_,_=>AD
 |o=>match x,y with
  |.int i,.int j=>ybQ o i j
  |.str a,.str b=>yeB o a b
  |_,_=>AD
def yaE(st:SO)(x:PV):Option IQ:=
 match x with
 |.non=>AA AB
 |.bl b=>AA b
 |.int i=>AA (i != 0)
 |.str y=>if y.length<=sizeMax then AA ((y.length:IM) != 0)else AD
 |.tp _ a=>AA (!a.isEmpty)
 |.lst a=>AA (!a.isEmpty)
 |.loc n=>match st[n]? with
  |some (.lst a)=>AA (!a.isEmpty)
  |_=>AD
 |_=>AD
def ixI(n:IL)(i:IM):Option IL:=if 0<=i then(if i<n then AA i.toNat else AD)else if -(n:IM)<=i then AA (i+n).toNat else AD
def at?{A:Type}(xs:IK A)(i:IM):Option A:=(ixI xs.length i).bind λj=>xs[j]?
def look(k:PV):IK (PV×PV)->Option PV
 |[]=>AD
 |(a,b)::r=>if peq a k then AA b else look k r
def put(k v:PV)(a:IK (PV×PV)):IK (PV×PV):=
 if (a.any λp=>peq p.1 k)=AC then a.map (λp=>if peq p.1 k=AC then(p.1,v)else p)else a++[(k,v)]
def ybw:PV->IQ
 |.int _=>AC
 |.str _=>AC
 |_=>AB
def isKey(t:IQ)(k:PV):IQ:=
 match t with
 |false=>ybw k
 |true=>match k with
  |.tp AB a=>a.all ybw
  |_=>AB
def yaV{A:Type}(xs:IK A)(i:PV):Option A:=
 match i with
 |.int k=>at? xs k
 |_=>AD
def idxV(st:SO)(x i:PV):Option PV:=
 match x with
 |.tp _ a=>yaV a i
 |.lst a=>yaV a i
 |.str s=>if s.length<=sizeMax then(yaV s.cps.toList i).map λc=>.str #[(IK.toArray [c])]else AD
 |.loc n=>match st[n]? with
  |some (.lst a)=>yaV a i
  |_=>AD
 |_=>AD
def ybc(n:IL)(v:IM):IL:=if v<0 then(v+(n:IM)).toNat else min v.toNat n
def ycH(n:IL)(lo:Option IM):IL:=
 match lo with
 |none=>0
 |some i=>ybc n i
def ydd(n:IL)(a:Option IM):IL:=
 match a with
 |none=>n
 |some i=>ybc n i
def cut{A:Type}(xs:IK A)(lo a:Option IM):IK A:=(xs.drop (ycH xs.length lo)).take (ydd xs.length a-ycH xs.length lo)
def ybX:PV->Option (Option IM)
 |.non=>AA AD
 |.int i=>AA (AA i)
 |_=>AD
def ybO(x:PV)(a b:Option IM):Option PV:=
 match x with
 |.tp k c=>if ycH c.length a=0/\ydd c.length b=c.length then AA (.tp k c)else AA (.tup (cut c a b))
 |.str s=>if s.length<=sizeMax then AA (.str #[(cut s.cps.toList a b).toArray])else AD
 |.lst c=>AA (.lst (cut c a b))
 |.scr c=>AA (.lst (cut c a b))
 |_=>AD
def yck(x:PV)(a:Option IM)(c:PV):Option PV:=
 match ybX c with
 |some b=>ybO x a b
 |none=>AD
def ya1(x:PV)(t:Ty):IQ:=
 match x,t with
 |.int _,.int=>AC
 |.bl _,.int=>AC
 |.bl _,.bool=>AC
 |.str _,.str=>AC
 |.tp _ _,.tuple=>AC
 |.lst _,.list=>AC
 |.exn c,.cls d=>c==d
 |.exn _,.val=>AC
 |_,_=>AB
def ydZ:Ty->IQ
 |.cls _=>AB
 |.val=>AB
 |_=>AC
def yaH(x:PV)(ts:IK Ty):Option PV:=
 match x with
 |.loc _=>AD
 |.scr _=>AD
 |.fnc _=>AD
 |.exn c=>if ts.all ydZ then AD else AA (.bl (ts.any (ya1 (.exn c))))
 |x=>match ts with
  |[t]=>if ydZ t then AA (.bl (ya1 x t))else AD
  |_=>AD
def yde(a:IK IL)(x:PV)(ts:IK Ty):Option PV:=
 match x with
 |.exn c=>if a.contains c then AA (.bl (ts.any (ya1 (.exn c))))else AD
 |_=>AD
def ybS:PV->Option AL
 |.int i=>if i.natAbs.log2<1920 then AA (AE (toString i))else AD
 |.str s=>if s.length<=16777216 then AA s else AD
 |_=>AD
def yce:AL->IK PV->Option AL
 |out,[]=>if out.length<=16777216 then AA out else AD
 |out,v::a=>match ybS v with
  |some y=>if (out++y).length<=16777216 then yce (out++y) a else AD
  |none=>AD
def ydy(r:R (IK PV)):R PV:=
 match r with
 |.ok a st=>match yce DD a with
  |some z=>.ok (.str z) st
  |none=>.bad
 |_=>.bad
def allB:IK PV->Option IQ
 |[]=>AA AC
 |.bl b::r=>match allB r with
  |some c=>AA (b&&c)
  |none=>AD
 |_::_=>AD
def yfD:IK PV->Option IM
 |[]=>AA 0
 |.int i::r=>match yfD r with
  |some c=>AA (i+c)
  |none=>AD
 |_::_=>AD
def yd3:IK PV->Option IM
 |[]=>AD
 |[.int i]=>AA i
 |.int i::r=>match yd3 r with
  |some c=>AA (if i<c then c else i)
  |none=>AD
 |_::_=>AD
def ya7(st:SO):PV->Option (IK PV)
 |.tp _ a=>AA a
 |.lst a=>AA a
 |.loc n=>match st[n]? with
  |some (.lst a)=>AA a
  |_=>AD
 |_=>AD
def yM(st:SO):PV->Option (IK PV)
 |.lst a=>AA a
 |.loc n=>match st[n]? with
  |some (.lst a)=>AA a
  |_=>AD
 |_=>AD
def lenV(st:SO)(x:PV):Option PV:=
 match x with
 |.str s=>if s.length<=sizeMax then AA (.int s.length)else AD
 |x=>(ya7 st x).map λa=>.int a.length
def ygi(x:PV):Option PV:=
 match x with
 |.int i=>AA (.int i)
 |.bl k=>AA (.int (bi k))
 |_=>AD
def yfu(x:PV):Option PV:=
 match x with
 |.int i=>AA (.int (if i<0 then -i else i))
 |_=>AD
def yfA(x y:PV):Option PV:=
 match x,y with
 |.int i,.int j=>AA (.int (if j<i then j else i))
 |_,_=>AD
def maxV(x y:PV):Option PV:=
 match x,y with
 |.int i,.int j=>AA (.int (if i<j then j else i))
 |_,_=>AD
def yfO(st:SO)(x:PV):Option PV:=
 match x with
 |.tp k a=>AA (.tp k a)
 |x=>(yM st x).map .tup
def ygu:PV->Option PV
 |.tp _ a=>if a.isEmpty then AD else AA (.tup a.reverse)
 |.lst a=>AA (.lst a.reverse)
 |_=>AD
def anyB:IK PV->Option IQ
 |[]=>AA AB
 |.bl b::r=>match anyB r with
  |some c=>AA (b || c)
  |none=>AD
 |_=>AD
def anyI:IK PV->Option IQ
 |[]=>AA AB
 |.int i::r=>match anyI r with
  |some c=>AA ((i != 0) || c)
  |none=>AD
 |_=>AD
def ygm:PV->Option PV
 |.int i=>if i=0 then AA (.str "0")else if i=1 then AA (.str "1")else AD
 |_=>AD
def yaj(b:Blt)(st:SO)(vs:IK PV):Option PV:=
 match vs with
 |[x]=>match b with
  |.len=>lenV st x
  |.int=>ygi x
  |.abs=>yfu x
  |.max=>(yM st x).bind λa=>(yd3 a).map .int
  |.tuple=>yfO st x
  |.list=>(ya7 st x).map .lst
  |.all=>(yM st x).bind λa=>(allB a).map .bl
  |.sum=>(yM st x).bind λa=>(yfD a).map .int
  |.rev=>ygu x
  |.str=>ygm x
  |.any=>match x with
   |.tp _ a=>(anyI a).map .bl
   |x=>(yM st x).bind λa=>(anyB a).map .bl
  |_=>AD
 |[x,y]=>match b with
  |.min=>yfA x y
  |.max=>maxV x y
  |_=>AD
 |_=>AD
def ya5(st:SO):PV->Option (IQ×IK (PV×PV))
 |.loc n=>match st[n]? with
  |some (.dct t a)=>AA (t,a)
  |_=>AD
 |_=>AD
def yas(m:Mth)(st:SO)(x:PV):Option IQ:=
 match m with
 |.append=>(yM st x).map λ_=>AC
 |.extend=>(yM st x).map λ_=>AC
 |.insert=>(yM st x).map λ_=>AC
 |.count=>(yM st x).map λ_=>AC
 |.index=>(yM st x).map λ_=>AC
 |.get=>(ya5 st x).map λ_=>AC
 |.bits=>match x with
  |.int _=>AA AC
  |_=>AD
 |.upper=>match x with
  |.str _=>AA AC
  |_=>AD
 |.join=>match x with
  |.str _=>AA AC
  |_=>AD
 |.split=>match x with
  |.str _=>AA AC
  |_=>AD
 |.sidx=>match x with
  |.str _=>AA AC
  |_=>AD
 |.clear=>match x with
  |.loc n=>(yM st (.loc n)).map λ_=>AC
  |_=>AD
def yd6(st:SO)(o v:PV):R PV:=
 match o with
 |.loc n=>match st[n]? with
  |some (.lst a)=>if a.length<1000000 then .ok .non (st.set n (.lst (a++[v])))else .bad
  |_=>.bad
 |_=>.bad
def ygc(st:SO)(o v:PV):R PV:=
 match o with
 |.loc n=>match st[n]? with
  |some (.lst a)=>match v with
   |.lst b=>if a.length+b.length<=1000000 then .ok .non (st.set n (.lst (a++b)))else .bad
   |_=>.bad
  |_=>.bad
 |_=>.bad
def yhk(st:SO)(o i v:PV):R PV:=
 match o with
 |.loc n=>match st[n]? with
  |some (.lst a)=>match i with
   |.int k=>if 0<=k/\k<=a.length/\a.length<1000000 then .ok .non (st.set n (.lst (a.take k.toNat++v::a.drop k.toNat)))else .bad
   |_=>.bad
  |_=>.bad
 |_=>.bad
def yd5(st:SO)(o k d:PV):R PV:=
 match ya5 st o with
 |some (t,a)=>if isKey t k then .ok ((look k a).getD d) st else .bad
 |none=>.bad
def yfB(st:SO)(o v:PV):R PV:=
 match yM st o with
 |some a=>if flat v&&a.all flat then .ok (.int (a.countP λy=>peq y v)) st else .bad
 |none=>.bad
def ybY(v:PV):IK PV->Option IL
 |[]=>AD
 |y::a=>if peq y v then AA 0 else(ybY v a).map (·+1)
def yfC(st:SO)(o v:PV):R PV:=
 match yM st o with
 |some a=>if flat v&&a.all flat then(match ybY v a with
  |some j=>.ok (.int j) st
  |none=>.bad)else .bad
 |none=>.bad
def upC(c:IL):IL:=if 97<=c/\c<=122 then c-32 else c
def upS(s:AL):Str:=#[(s.cps.toList.map upC).toArray]
def yb5(c:IL):IK IL->IK (IK IL)
 |[]=>[[]]
 |x::a=>if x=c then []::yb5 c a else match yb5 c a with
  |[]=>[[x]]
  |p::b=>(x::p)::b
def strsOf:IK PV->Option (IK AL)
 |[]=>AA []
 |.str s::r=>(strsOf r).map (s :: ·)
 |_=>AD
def yex(st:SO)(o v:PV):R PV:=
 match o,yM st v with
 |.str s,AA a=>match strsOf a with
  |some b=>if s.length<=10/\a.length<=1000/\(b.all λy=>decide (y.length<=1000))=AC then .ok (.str (Str.join s b)) st else .bad
  |none=>.bad
 |_,_=>.bad
def ygD(st:SO)(o:PV):R PV:=
 match o with
 |.loc n=>match st[n]? with
  |some (.lst _)=>.ok .non (st.set n (.lst []))
  |_=>.bad
 |_=>.bad
def yeX(st:SO)(o v:PV):R PV:=
 match o,v with
 |.str s,.str y=>if s=AE "01" then(if y=AE "0" then .ok (.int 0) st else if y=AE "1" then .ok (.int 1) st else .bad)else .bad
 |_,_=>.bad
def ydr(st:SO)(o v:PV):R PV:=
 match o,v with
 |.str s,.str y=>match y.cps.toList with
  |[c]=>if s.length<=100000 then .ok (.lst ((yb5 c s.cps.toList).map λl=>.str #[l.toArray])) st else .bad
  |_=>.bad
 |_,_=>.bad
def ybD(m:Mth)(st:SO)(o:PV)(vs:IK PV):R PV:=
 match m,vs with
 |.append,[v]=>yd6 st o v
 |.extend,[v]=>ygc st o v
 |.insert,[i,v]=>yhk st o i v
 |.get,[k,d]=>yd5 st o k d
 |.count,[v]=>yfB st o v
 |.index,[v]=>yfC st o v
 |.join,[v]=>yex st o v
 |.split,[v]=>ydr st o v
 |.sidx,[v]=>yeX st o v
 |.clear,[]=>ygD st o
 |.bits,[]=>match o with
  |.int i=>.ok (.int (Builtin.Int.intBits i)) st
  |_=>.bad
 |.upper,[]=>match o with
  |.str s=>if s.cps.toList.all (· < 128)/\s.length<=1000000 then .ok (.str (upS s)) st else .bad
  |_=>.bad
 |_,_=>.bad
def toR(o:Option PV)(st:SO):R PV:=
 match o with
 |some v=>.ok v st
 |none=>.bad
def yH(t:Tg)(v:PV)(U:Env):Option Env:=
 match t,v with
 |.n i,v=>AA (U.set i (AA v))
 |.t l,.tp _ a=>if l.length=a.length then AA ((l.zip a).foldl (λU p=>U.set p.1 (AA p.2)) U)else AD
 |_,_=>AD
def yZ:IL->IK PV->IK PV
 |_,[]=>[]
 |k,x::a=>.tup [.int k,x]::yZ (k+1) a
def yaL:IK PV->IK PV->IK PV
 |x::a,y::b=>.tup [x,y]::yaL a b
 |_,_=>[]
def ygk:PV->Option (IK PV)
 |.tp _ a=>AA a.reverse
 |.lst a=>AA a.reverse
 |_=>AD
def ydO:PV->Option (IK PV)
 |.str s=>if s.length<=1000000 then AA (s.cps.toList.map λc=>.str #[(IK.toArray [c])])else AD
 |_=>AD
def yec(x y:PV):Option (IK PV):=
 match x,y with
 |.tp _ a,.tp _ b=>if a.length<=b.length then AA (yaL a b)else AD
 |_,_=>AD
def yaS(s:AL):IK (AL×PV)->Option PV
 |[]=>AD
 |(a,b)::r=>if decide (a=s)then AA b else yaS s r
def yct(D:IK (AL×PV))(x:PV):Option PV:=
 match x with
 |.str s=>yaS s D
 |_=>AD
def ycn(D:IK (AL×PV))(x:PV):Option PV:=
 match x with
 |.str s=>AA (.bl (yaS s D).isSome)
 |_=>AD
def yr:IL->IM->IM->IK PV
 |0,_,_=>[]
 |n+1,a,d=>.int a::yr n (a+d) d
def yby(x:PV):Option (IK PV):=
 match x with
 |.int j=>if j.natAbs<1000000000 then AA (yr j.toNat 0 1)else AD
 |_=>AD
def ygL(x:PV):Option (IK PV):=
 match x with
 |.int j=>if 0<=j/\j<1000000000 then AA (yr j.toNat (j-1) (-1))else AD
 |_=>AD
def ygI(x y:PV):Option (IK PV):=
 match x,y with
 |.int i,.int j=>if i.natAbs<1000000000/\j.natAbs<1000000000 then AA (yr (j-i).toNat i 1)else AD
 |_,_=>AD
def yhd(x y:PV):Option (IK PV):=
 match x,y with
 |.int i,.int j=>if i.natAbs<1000000000/\j.natAbs<1000000000 then AA (yr (i-j).toNat i (-1))else AD
 |_,_=>AD
def toL(o:Option (IK PV))(st:SO):R (IK PV):=
 match o with
 |some v=>.ok v st
 |none=>.bad
def ycJ(v:PV)(st:SO):R PV:=
 match v with
 |.loc n=>match st[n]? with
  |some (.lst a)=>.ok (.lst a) (st.set n .dead)
  |_=>.bad
 |v=>.ok v st
def ycL(v:PV)(st:SO):R PV:=
 match v with
 |.lst a=>.ok (.loc st.length) (st++[.lst a])
 |_=>.bad
def ybf(st:SO)(x y:PV):Option PV:=
 match ya7 st y with
 |some a=>if shp x&&yaU 60 a then AA (.bl (inL x a))else AD
 |none=>AD
def mkV(D:IK (AL×IL))(b:IQ)(x:PV):Option IL:=
 match x with
 |.str s=>if b then D.lookup s else AD
 |_=>AD
def ya0(c:IL)(st:SO)(x:PV)(f:AL):Option PV:=
 match x with
 |.loc n=>match st[n]? with
  |some (.ins d fs)=>if d=c then fs.lookup f else AD
  |_=>AD
 |_=>AD
def ybH(f:AL)(v:PV):IK (AL×PV)->IK (AL×PV)
 |[]=>[(f,v)]
 |(g,x)::r=>if g=f then(g,v)::r else(g,x)::ybH f v r
def yaY(c:IL)(st:SO)(x:PV)(f:AL)(v:PV):Option SO:=
 match x with
 |.loc n=>match st[n]? with
  |some (.ins d fs)=>if d=c/\fs.length<1000 then AA (st.set n (.ins c (ybH f v fs)))else AD
  |_=>AD
 |_=>AD
def yb4(c:IL)(m:AL)(st:SO)(x:PV):Option IQ:=
 match x with
 |.loc n=>match st[n]? with
  |some (.ins d fs)=>if d=c/\fs.lookup m=AD then AA AC else AD
  |_=>AD
 |_=>AD
def newV(n:IL)(v:PV)(st:SO):R PV:=
 match v with
 |.non=>.ok (.loc n) st
 |_=>.bad
def yaR(r:R PV):R PV:=
 match r with
 |.ok v st=>.ok v st
 |_=>.bad
inductive Fl where
 |nx (U:Env) (st:SO)|rt (v:PV) (st:SO)|bk (U:Env) (st:SO)|ct (U:Env) (st:SO)|exc (c:IL) (U:Env) (st:SO)|bad
def onBl{A:Type}(x:PV)(k:IQ->R A):R A:=
 match x with
 |.bl b=>k b
 |_=>.bad
def onO{A:Type}(o:Option IQ)(k:IQ->R A):R A:=
 match o with
 |some b=>k b
 |none=>.bad
def onF(o:Option IQ)(k:IQ->Fl):Fl:=
 match o with
 |some b=>k b
 |none=>.bad
def onP{A:Type}(o:Option (Option IM))(k:Option IM->R A):R A:=
 match o with
 |some b=>k b
 |none=>.bad
def blO(o:Option PV):Option IQ:=
 match o with
 |some (.bl b)=>AA b
 |_=>AD
def yc6(o:Option PV)(a:IK PV):IK PV:=
 match o with
 |some y=>y::a
 |none=>a
def ybM(one:PV->SO->R (Option PV)):IK PV->SO->R (IK PV)
 |[],st=>.ok [] st
 |x::c,st=>(one x st).bind λo a=>(ybM one c a).bind λd b=>.ok (yc6 o d) b
def ybA(r:R (IK PV)):R PV:=
 match r with
 |.ok a st=>if a.length<=1000000 then .ok (.lst a) st else .bad
 |_=>.bad
mutual
noncomputable def ev(call:IL->IK PV->SO->R PV)(U:Env)(st:SO):Ce->R PV
 |.cst v=>.ok v st
 |.var i=>match U[i]? with
  |some (AA v)=>.ok v st
  |_=>.bad
 |.bin o a b=>(ev call U st a).bind λx d=>(ev call U d b).bind λy g=>toR (yq o x y) g
 |.neg a=>(ev call U st a).bind λx d=>match x with
  |.int i=>.ok (.int (-i)) d
  |_=>.bad
 |.not a=>(ev call U st a).bind λx d=>onBl x λk=>.ok (.bl (!k)) d
 |.and a b=>(ev call U st a).bind λx d=>onBl x λk=>cond k (ev call U d b) (.ok (.bl AB) d)
 |.or a b=>(ev call U st a).bind λx d=>onBl x λk=>cond k (.ok (.bl AC) d) (ev call U d b)
 |.cmp o a b=>(ev call U st a).bind λx d=>(ev call U d b).bind λy g=>toR (yp o x y) g
 |.chain o p a b c=>(ev call U st a).bind λx d=>(ev call U d b).bind λy g=>onO (blO (yp o x y)) λk=>cond k ((ev call U g c).bind λz r=>toR (yp p y z) r) (.ok (.bl AB) g)
 |.ite c a b=>(ev call U st c).bind λx d=>onO (yaE d x) λk=>cond k (ev call U d a) (ev call U d b)
 |.tup q=>(evs call U st q).bind λn d=>if n.length<=sizeMax then .ok (.tup n) d else .bad
 |.lst q=>(evs call U st q).bind λn d=>if n.length<=sizeMax then .ok (.lst n) d else .bad
 |.newl q=>(evs call U st q).bind λn d=>if n.length<=sizeMax then .ok (.loc d.length) (d++[.lst n])else .bad
 |.dict0 t=>.ok (.loc st.length) (st++[.dct t []])
 |.idx a i=>(ev call U st a).bind λx d=>(ev call U d i).bind λy g=>toR (idxV g x y) g
 |.slc a l h=>(ev call U st a).bind λx d=>(ev call U d l).bind λy g=>onP (ybX y) λo=>(ev call U g h).bind λz r=>toR (yck x o z) r
 |.call f q=>(evs call U st q).bind λn d=>call f n d
 |.blt b q=>(evs call U st q).bind λn d=>toR (yaj b d n) d
 |.mth m o q=>(ev call U st o).bind λx d=>onO (yas m d x) λ_=>(evs call U d q).bind λn g=>ybD m g x n
 |.isi a u=>(ev call U st a).bind λx d=>toR (yaH x u) d
 |.isx a B u=>(ev call U st a).bind λx d=>toR (yde B x u) d
 |.comp C E G c e=>(evi call U st G).bind λH d=>
  let I:Env:=C.map λo=>o.bind λj=>(U[j]?).join
  ybA (ybM (λx g=>match yH E x I with
   |none=>.bad
   |some A=>(ev call A g c).bind λb r=>onO (yaE r b) λk=>cond k ((ev call A r e).bind λy w=>.ok (AA y) w) (.ok AD r)) H d)
 |.nope=>.bad
 |.frz a=>(ev call U st a).bind λx d=>ycJ x d
 |.fst q=>ydy (evs call U st q)
 |.dix D a=>(ev call U st a).bind λx d=>toR (yct D x) d
 |.din a D=>(ev call U st a).bind λx d=>toR (ycn D x) d
 |.thw a=>(ev call U st a).bind λx d=>ycL x d
 |.fld c a f=>(ev call U st a).bind λx d=>toR (ya0 c d x f) d
 |.new c i q=>(evs call U st q).bind λn d=>(yaR (call i (.loc d.length::n) (d++[.ins c []]))).bind λv g=>newV d.length v g
 |.qcl i q=>(evs call U st q).bind λn d=>yaR (call i n d)
 |.inn a b=>(ev call U st a).bind λx d=>(ev call U d b).bind λy g=>toR (ybf g x y) g
 |.mcl c i m o q=>(ev call U st o).bind λx d=>onO (yb4 c m d x) λ_=>(evs call U d q).bind λn g=>call i (x::n) g
noncomputable def evs(call:IL->IK PV->SO->R PV)(U:Env)(st:SO):Ces->R (IK PV)
 |.nil=>.ok [] st
 |.cons e c=>(ev call U st e).bind λv a=>(evs call U a c).bind λd b=>.ok (v::d) b
noncomputable def evi(call:IL->IK PV->SO->R PV)(U:Env)(st:SO):Cit->R (IK PV)
 |.seq e=>(ev call U st e).bind λv c=>match v with
  |.tp _ f=>.ok f c
  |.lst f=>.ok f c
  |_=>.bad
 |.range1 a=>(ev call U st a).bind λx c=>toL (yby x) c
 |.range2 a b=>(ev call U st a).bind λx c=>(ev call U c b).bind λy d=>toL (ygI x y) d
 |.rangeD a b=>(ev call U st a).bind λx c=>(ev call U c b).bind λy d=>toL (yhd x y) d
 |.enum e=>(ev call U st e).bind λv c=>match v with
  |.tp _ f=>.ok (yZ 0 f) c
  |_=>.bad
 |.zip a b=>(ev call U st a).bind λx c=>(ev call U c b).bind λy d=>toL (yec x y) d
 |.revl e=>(ev call U st e).bind λv c=>toL (ygk v) c
 |.revr a=>(ev call U st a).bind λx c=>toL (ygL x) c
 |.chars e=>(ev call U st e).bind λv c=>toL (ydO v) c
end
def R.fl{A:Type}(r:R A)(U:Env)(k:A->SO->Fl):Fl:=
 match r with
 |.ok a st=>k a st
 |.exc c st=>.exc c U st
 |.bad=>.bad
def yay(f:Fl)(k:Env->SO->Fl):Fl:=
 match f with
 |.nx U st=>k U st
 |.ct U st=>k U st
 |.bk U st=>.nx U st
 |f=>f
def forL(t:Tg)(a:Env->SO->Fl):IK PV->Env->SO->Fl
 |[],U,st=>.nx U st
 |x::c,U,st=>match yH t x U with
  |none=>.bad
  |some d=>yay (a d st) λf b=>forL t a c f b
def yao(a:Env->SO->R PV)(b:Env->SO->Fl):IL->Env->SO->Fl
 |0,_,_=>.bad
 |n+1,U,st=>(a U st).fl U λx c=>onF (yaE c x) λk=>cond k (yay (b U c) λf d=>yao a b n f d) (.nx U c)
def ybl(st:SO)(o i v:PV):Option SO:=
 match o with
 |.loc n=>match st[n]? with
  |some (.lst a)=>match i with
   |.int k=>match ixI a.length k with
    |some j=>AA (st.set n (.lst (a.set j v)))
    |none=>AD
   |_=>AD
  |_=>AD
 |_=>AD
def ya6(st:SO)(o i v:PV):Option SO:=
 match o with
 |.loc n=>match st[n]? with
  |some (.dct t a)=>if isKey t i/\a.length<1000000 then AA (st.set n (.dct t (put i v a)))else AD
  |_=>AD
 |_=>AD
mutual
noncomputable def ex(call:IL->IK PV->SO->R PV)(U:Env)(st:SO):Cs->Fl
 |.expr e=>(ev call U st e).fl U λ_ g=>.nx U g
 |.asg t e=>(ev call U st e).fl U λv g=>match yH t v U with
  |some r=>.nx r g
  |none=>.bad
 |.six o i e=>(ev call U st e).fl U λv g=>(ev call U g o).fl U λx l=>(ev call U l i).fl U λy m=>match ybl m x y v with
  |some p=>.nx U p
  |none=>.bad
 |.dput o i e=>(ev call U st e).fl U λv g=>(ev call U g o).fl U λx l=>(ev call U l i).fl U λy m=>match ya6 m x y v with
  |some p=>.nx U p
  |none=>.bad
 |.aug i o e=>match U[i]? with
  |some (AA x)=>(ev call U st e).fl U λy g=>match ybE o x y with
   |some z=>.nx (U.set i (AA z)) g
   |none=>.bad
  |_=>.bad
 |.ret e=>(ev call U st e).fl U λv g=>.rt v g
 |.ite c a b=>(ev call U st c).fl U λx g=>onF (yaE g x) λk=>cond k (exs call U g a) (exs call U g b)
 |.for t u b=>(evi call U st u).fl U λw g=>forL t (λq l=>exs call q l b) w U g
 |.while c b=>yao (λq l=>ev call q l c) (λq l=>exs call q l b) 100000 U st
 |.nope=>.bad
 |.raise c e=>(ev call U st e).fl U λ_ g=>.exc c U g
 |.try b A i h=>match exs call U st b with
  | .exc d r g=>if A.contains d then(match exs call (r.set i (AA (.exn d))) g h with
   |.nx q l=>.nx (q.set i AD) l
   |.rt v l=>.rt v l
   |_=>.bad)else .bad
  |f=>f
 |.mkr i D n B=>(ev call U st n).fl U λx g=>match mkV D (decide (i<U.length)) x with
  |some j=>((evs call (U.set i AD) g B).bind λC l=>call j C l).fl (U.set i AD) λv m=>.rt v m
  |none=>.bad
 |.sfl c o f e=>(ev call U st e).fl U λv g=>(ev call U g o).fl U λx l=>match yaY c l x f v with
  |some m=>.nx U m
  |none=>.bad
noncomputable def exs(call:IL->IK PV->SO->R PV)(U:Env)(st:SO):Css->Fl
 |.nil=>.nx U st
 |.cons s b=>match ex call U st s with
  |.nx c a=>exs call c a b
  |f=>f
end
section
variable {call:IL->IK PV->SO->R PV}{U:Env}{st:SO}
theorem ve1{v}:ev call U st (.cst v)=.ok v st:=rfl
theorem ve2{i}:ev call U st (.var i)=(match U[i]? with
    |some (AA v)=>.ok v st
    |_=>.bad):=rfl
theorem ve3{o a b}:ev call U st (.bin o a b)=(ev call U st a).bind λx c=>(ev call U c b).bind λy d=>toR (yq o x y) d:=rfl
theorem ve4{a}:ev call U st (.neg a)=((ev call U st a).bind λx b=>match x with
    |.int i=>.ok (.int (-i)) b
    |_=>.bad):=rfl
theorem ve5{a}:ev call U st (.not a)=(ev call U st a).bind λx b=>onBl x λk=>.ok (.bl (!k)) b:=rfl
theorem ve6{a b}:ev call U st (.and a b)=(ev call U st a).bind λx c=>onBl x λk=>cond k (ev call U c b) (.ok (.bl AB) c):=rfl
theorem ve7{a b}:ev call U st (.or a b)=(ev call U st a).bind λx c=>onBl x λk=>cond k (.ok (.bl AC) c) (ev call U c b):=rfl
theorem ve8{o a b}:ev call U st (.cmp o a b)=(ev call U st a).bind λx c=>(ev call U c b).bind λy d=>toR (yp o x y) d:=rfl
theorem ve9{o p a b c}:ev call U st (.chain o p a b c)=(ev call U st a).bind λx f=>(ev call U f b).bind λy d=>onO (blO (yp o x y)) λk=>cond k ((ev call U d c).bind λz g=>toR (yp p y z) g) (.ok (.bl AB) d):=rfl
theorem ve10{c a b}:ev call U st (.ite c a b)=(ev call U st c).bind λx d=>onO (yaE d x) λk=>cond k (ev call U d a) (ev call U d b):=rfl
theorem ve11{es}:ev call U st (.tup es)=((evs call U st es).bind λb a=>if b.length<=sizeMax then .ok (.tup b) a else .bad):=rfl
theorem ve12{es}:ev call U st (.lst es)=((evs call U st es).bind λb a=>if b.length<=sizeMax then .ok (.lst b) a else .bad):=rfl
theorem ve13{es}:ev call U st (.newl es)=((evs call U st es).bind λb a=>if b.length<=sizeMax then .ok (.loc a.length) (a++[.lst b])else .bad):=rfl
theorem ve15{t}:ev call U st (.dict0 t)=.ok (.loc st.length) (st++[.dct t []]):=rfl
theorem ve16{a i}:ev call U st (.idx a i)=(ev call U st a).bind λx c=>(ev call U c i).bind λy b=>toR (idxV b x y) b:=rfl
theorem ve17{a l h}:ev call U st (.slc a l h)=(ev call U st a).bind λx b=>(ev call U b l).bind λy c=>onP (ybX y) λo=>(ev call U c h).bind λz d=>toR (yck x o z) d:=rfl
theorem ve18{f es}:ev call U st (.call f es)=(evs call U st es).bind λb a=>call f b a:=rfl
theorem ve19{b es}:ev call U st (.blt b es)=(evs call U st es).bind λvs a=>toR (yaj b a vs) a:=rfl
theorem ve20{m o es}:ev call U st (.mth m o es)=(ev call U st o).bind λx a=>onO (yas m a x) λ_=>(evs call U a es).bind λc b=>ybD m b x c:=rfl
theorem ve21{a ts}:ev call U st (.isi a ts)=(ev call U st a).bind λx b=>toR (yaH x ts) b:=rfl
theorem ve22{a c ts}:ev call U st (.isx a c ts)=(ev call U st a).bind λx b=>toR (yde c x ts) b:=rfl
theorem vxq21{sl l m c e}:ev call U st (.comp sl l m c e)=((evi call U st m).bind λp d=>
    let q:Env:=sl.map λo=>o.bind λj=>(U[j]?).join
    ybA (ybM (λx f=>match yH l x q with
     |none=>.bad
     |some n=>(ev call n f c).bind λb a=>onO (yaE a b) λk=>cond k ((ev call n a e).bind λy g=>.ok (AA y) g) (.ok AD a)) p d)):=rfl
theorem ve24:ev call U st .nope=.bad:=rfl
theorem ve25{a}:ev call U st (.frz a)=(ev call U st a).bind λx b=>ycJ x b:=rfl
theorem ve26{es}:ev call U st (.fst es)=ydy (evs call U st es):=rfl
theorem ve28{D a}:ev call U st (.dix D a)=(ev call U st a).bind λx b=>toR (yct D x) b:=rfl
theorem ve29{a D}:ev call U st (.din a D)=(ev call U st a).bind λx b=>toR (ycn D x) b:=rfl
theorem ve30{a}:ev call U st (.thw a)=(ev call U st a).bind λx b=>ycL x b:=rfl
theorem ve32{c a f}:ev call U st (.fld c a f)=(ev call U st a).bind λx b=>toR (ya0 c b x f) b:=rfl
theorem ve33{c i es}:ev call U st (.new c i es)=(evs call U st es).bind λd a=>(yaR (call i (.loc a.length::d) (a++[.ins c []]))).bind λv b=>newV a.length v b:=rfl
theorem ve35{i es}:ev call U st (.qcl i es)=(evs call U st es).bind λvs a=>yaR (call i vs a):=rfl
theorem ve36{a b}:ev call U st (.inn a b)=(ev call U st a).bind λx d=>(ev call U d b).bind λy c=>toR (ybf c x y) c:=rfl
theorem ve37{c i m o es}:ev call U st (.mcl c i m o es)=(ev call U st o).bind λx a=>onO (yb4 c m a x) λ_=>(evs call U a es).bind λd b=>call i (x::d) b:=rfl
theorem vsq0:evs call U st .nil=.ok [] st:=rfl
theorem vsq1{e es}:evs call U st (.cons e es)=(ev call U st e).bind λv a=>(evs call U a es).bind λc b=>.ok (v::c) b:=rfl
theorem vjq0{e}:evi call U st (.seq e)=((ev call U st e).bind λv a=>match v with
    |.tp _ b=>.ok b a
    |.lst b=>.ok b a
    |_=>.bad):=rfl
theorem vjq1{a}:evi call U st (.range1 a)=(ev call U st a).bind λx b=>toL (yby x) b:=rfl
theorem vjq2{a b}:evi call U st (.range2 a b)=(ev call U st a).bind λx c=>(ev call U c b).bind λy d=>toL (ygI x y) d:=rfl
theorem vjq3{a b}:evi call U st (.rangeD a b)=(ev call U st a).bind λx c=>(ev call U c b).bind λy d=>toL (yhd x y) d:=rfl
theorem vjq4{e}:evi call U st (.enum e)=((ev call U st e).bind λv a=>match v with
    |.tp _ b=>.ok (yZ 0 b) a
    |_=>.bad):=rfl
theorem vjq5{a b}:evi call U st (.zip a b)=(ev call U st a).bind λx c=>(ev call U c b).bind λy d=>toL (yec x y) d:=rfl
theorem vjq6{e}:evi call U st (.revl e)=(ev call U st e).bind λv a=>toL (ygk v) a:=rfl
theorem vjq7{a}:evi call U st (.revr a)=(ev call U st a).bind λx b=>toL (ygL x) b:=rfl
theorem vjq8{e}:evi call U st (.chars e)=(ev call U st e).bind λv a=>toL (ydO v) a:=rfl
theorem xrq0{e}:ex call U st (.expr e)=(ev call U st e).fl U λ_ a=>.nx U a:=rfl
theorem xrq1{t e}:ex call U st (.asg t e)=((ev call U st e).fl U λv a=>match yH t v U with
    |some b=>.nx b a
    |none=>.bad):=rfl
theorem xrq2{o i e}:ex call U st (.six o i e)=((ev call U st e).fl U λv a=>(ev call U a o).fl U λx b=>(ev call U b i).fl U λy c=>match ybl c x y v with
    |some d=>.nx U d
    |none=>.bad):=rfl
theorem xrq3{o i e}:ex call U st (.dput o i e)=((ev call U st e).fl U λv a=>(ev call U a o).fl U λx b=>(ev call U b i).fl U λy c=>match ya6 c x y v with
    |some d=>.nx U d
    |none=>.bad):=rfl
theorem xrq4{i o e}:ex call U st (.aug i o e)=(match U[i]? with
    |some (AA x)=>(ev call U st e).fl U λy a=>match ybE o x y with
     |some z=>.nx (U.set i (AA z)) a
     |none=>.bad
    |_=>.bad):=rfl
theorem xrq5{e}:ex call U st (.ret e)=(ev call U st e).fl U λv a=>.rt v a:=rfl
theorem xrq6{c a b}:ex call U st (.ite c a b)=(ev call U st c).fl U λx d=>onF (yaE d x) λk=>cond k (exs call U d a) (exs call U d b):=rfl
theorem xrq7{t d b}:ex call U st (.for t d b)=(evi call U st d).fl U λf a=>forL t (λg c=>exs call g c b) f U a:=rfl
theorem xrq8{c b}:ex call U st (.while c b)=yao (λd a=>ev call d a c) (λd a=>exs call d a b) 100000 U st:=rfl
theorem xrq9:ex call U st .nope=.bad:=rfl
theorem xrq10{c e}:ex call U st (.raise c e)=(ev call U st e).fl U λ_ a=>.exc c U a:=rfl
theorem xrq11{b g i h}:ex call U st (.try b g i h)=(match exs call U st b with
    | .exc d j c=>if g.contains d then(match exs call (j.set i (AA (.exn d))) c h with
     |.nx l a=>.nx (l.set i AD) a
     |.rt v a=>.rt v a
     |_=>.bad)else .bad
    |f=>f):=rfl
theorem xrq12{i D n es}:ex call U st (.mkr i D n es)=((ev call U st n).fl U λx a=>match mkV D (decide (i<U.length)) x with
    |some j=>((evs call (U.set i AD) a es).bind λd b=>call j d b).fl (U.set i AD) λv c=>.rt v c
    |none=>.bad):=rfl
theorem xrq13{c o f e}:ex call U st (.sfl c o f e)=((ev call U st e).fl U λv a=>(ev call U a o).fl U λx b=>match yaY c b x f v with
    |some d=>.nx U d
    |none=>.bad):=rfl
theorem xqq0:exs call U st .nil=.nx U st:=rfl
theorem xqq1{s b}:exs call U st (.cons s b)=(match ex call U st s with
    |.nx c a=>exs call c a b
    |f=>f):=rfl
end
structure Fn where
 np:IL
 ns:IL
 pure:IQ
 body:Css
def yc(T:IL->Option Fn):IL->IL->IK PV->SO->R PV
 |0,_,_,_=>.bad
 |k+1,f,a,st=>match T f with
  |none=>.bad
  |some fn=>if a.length=fn.np then
    if fn.pure then
     if nLs a then match exs (yc T k) (a.map AA++Av (fn.ns-fn.np) AD) [] fn.body with
      |.rt v _=>if nL v then .ok v st else .bad
      |.nx _ _=>.ok .non st
      |.exc c _ _=>.exc c st
      |_=>.bad
     else .bad
    else match exs (yc T k) (a.map AA++Av (fn.ns-fn.np) AD) st fn.body with
     |.rt v b=>.ok v b
     |.nx _ b=>.ok .non b
     |.exc c _ b=>.exc c b
     |_=>.bad
   else .bad
def ye:IK (Sum Ce IM)->Ces
 |[]=>.nil
 |.inl c::r=>.cons c (ye r)
 |.inr i::r=>.cons (.cst (.int i)) (ye r)
def yw:Ces->Ces->Ces
 |.nil,b=>b
 |.cons e r,b=>.cons e (yw r b)
end IC
namespace L2
open PySem PySem.Spec PyProof.Rows IC
abbrev Ph:=IK (Option AJ)
section
variable (K:AF)(cl:IL->AJ)(B:AJ->Prop)(A:Ph)(H:Hp)
def ybP(k:IQ)(a:AJ)(xs:IK V):Prop:=(H a=AA (.tup xs)/\¬B a/\AA a∉A) \/
 k=AC/\∃(o:Bi) (b:Ie AG) (n:IL),K.lookup a=AA o/\o.cls=.type "tuple"/\o.data=.seq b n/\b.size<=sizeLine/\Vals xs b.toList
def ycS(a:AJ)(xs:IK V):Prop:=H a=AA (.lst xs)/\¬B a/\AA a∉A
def yeg(a:AJ)(xs:IK V):Prop:=(Rd H a (.lst xs)/\¬B a/\AA a∉A) \/
 ∃(o:Bi) (b:Ie AG) (n:IL),K.lookup a=AA o/\o.cls=.type "list"/\o.dict=AD/\o.data=.seq b n/\b.size<=sizeLine/\Vals xs b.toList
mutual
noncomputable def yd:PV->V->Prop
 |.non,x=>x=.non
 |.bl b,x=>x=.bl b
 |.int i,x=>x=.int i
 |.str s,x=>x=.str s
 |.tp k f,x=>∃a d,x=.ref a/\ybP K B A H k a d/\yg f d
 |.lst f,x=>∃a d,x=.ref a/\ycS B A H a d/\yg f d
 |.loc n,x=>n<A.length/\∃a,x=.ref a/\∀b,A[n]?=AA (AA b)->b=a
 |.exn c,x=>∃a,x=.ref a/\H a=AA (.ext (ybT a (cl c)))/\¬B a/\AA a∉A
 |.scr f,x=>∃a d,x=.ref a/\yeg K B A H a d/\yg f d
 |.fnc j,x=>x=.ref (cl (1000+j))
noncomputable def yg:IK PV->IK V->Prop
 |[],a=>a=[]
 |v::c,a=>∃y b,a=y::b/\yd v y/\yg c b
end
def yaB:Key->PV
 |.inl i=>.int i
 |.inr y=>.str y
def DK:IK (PV×PV)->IK (Key×V)->Prop
 |[],a=>a=[]
 |(k,v)::r,a=>∃q x s,a=(q,x)::s/\k=yaB q/\yd K cl B A H v x/\DK r s
def DT:IK (PV×PV)->IK (IK Key×V)->Prop
 |[],a=>a=[]
 |(k,v)::r,a=>∃q x s,a=(q,x)::s/\k=.tup (q.map yaB)/\yd K cl B A H v x/\DT r s
def FS:IK (AL×PV)->IK (AL×V)->Prop
 |[],a=>a=[]
 |(k,v)::r,a=>∃x s,a=(k,x)::s/\yd K cl B A H v x/\FS r s
def ycm:Ob->AJ->Prop
 |.lst g,a=>∃f,H a=AA (.lst f)/\yg K cl B A H g f
 |.dct AB d,a=>∃b,H a=AA (.dK b)/\DK K cl B A H d b
 |.dct AC d,a=>∃b,H a=AA (.dT b)/\DT K cl B A H d b
 |.dead,_=>IY
 |.ins c fs,a=>∃b,(∃j,H a=AA (.ins (cl c) j b))/\FS K cl B A H fs b
structure yx(st:SO):Prop where
 len:A.length=st.length
 inj:∀(m n:IL) (a:AJ),A[m]?=AA (AA a)->A[n]?=AA (AA a)->m=n
 obj:∀(n:IL) (a:AJ),A[n]?=AA (AA a)->∃o,st[n]?=AA o/\ycm K cl B A H o a
 liv:∀(n:IL) (o:Ob),st[n]?=AA o->o ≠ .dead->∃a,A[n]?=AA (AA a)
 nb:∀a,AA a∈A->¬B a
 dom:∀a,B a->∃o,H a=AA o
structure yK(U:IC.Env)(C:St):Prop where
 len:U.length=C.length
 get:∀(i:IL) (v:PV),U[i]?=AA (AA v)->∃x,C[i]?=AA (AA x)/\yd K cl B A H v x
end
structure Step(A:Ph)(H:Hp)(A':Ph)(H':Hp):Prop where
 keep:∀b o,AA b∉A->H b=AA o->H' b=AA o
 len:A.length<=A'.length
 pre:∀(n:IL) (a:AJ),n<A.length->A'[n]?=AA (AA a)->A[n]?=AA (AA a)
 new:∀b,AA b∈A'->AA b∈A \/ H b=AD
theorem Step.rfl{A:Ph}{H:Hp}:Step A H A H:=#[λ_ _ _ e=>e,AQ _,λ_ _ _ e=>e,λ_ h=>.inl h]
theorem Step.trans{A c d:Ph}{H f g:Hp}(s:Step A H c f)(t:Step c f d g):Step A H d g:=by
 refine#[λb o n e=>?_,As s.len t.len,λn a j e=>s.pre n a j (t.pre n a (A4 j s.len) e),λb l=>?_]
 .refine t.keep b o (λh=>?_) (s.keep b o n e);rcases s.new b h with q|q
  .exact n q
  .rw[e]at q;cases q
 .rcases t.new b l with q|q
  .exact s.new b q
  .by_cases h:AA b∈A
   .exact .inl h
   .refine .inr ?_
    cases e:H b with
    |none=>exact C9 _
    |some o=>rw[s.keep b o h e]at q;cases q
section
variable {K:AF}{cl:IL->AJ}{B:AJ->Prop}{A A':Ph}{H H':Hp}{st:SO}{U:IC.Env}{C:St}
theorem Rd.step(s:Step A H A' H'){a:AJ}{u:HO}(n:AA a∉A)(r:Rd H a u):Rd H' a u/\AA a∉A':=by
 have h:∃o,H a=AA o:=by rcases r with r|⟨o,r⟩<;>exact#[_,r]
 refine#[?_,λz=>?_]
 .rcases r with r|⟨o,r⟩
  .exact .inl (s.keep _ _ n r)
  .exact .inr #[o,s.keep _ _ n r]
 .let#[o,e]:=h;rcases s.new a z with q|q
  .exact n q
  .rw[e]at q;cases q
theorem ybP.step(s:Step A H A' H'){k:IQ}{a:AJ}{xs:IK V}(r:ybP K B A H k a xs):ybP K B A' H' k a xs:=by
 rcases r with⟨r,b,n⟩|r
 .let#[_,c]:=(Rd.of r).step s n;exact .inl #[s.keep _ _ n r,b,c]
 .exact .inr r
theorem ycS.step(s:Step A H A' H'){a:AJ}{xs:IK V}(r:ycS B A H a xs):ycS B A' H' a xs:=by let#[r,b,n]:=r;let#[_,c]:=(Rd.of r).step s n;exact#[s.keep _ _ n r,b,c]
theorem yeg.step(s:Step A H A' H'){a:AJ}{xs:IK V}(r:yeg K B A H a xs):yeg K B A' H' a xs:=by
 rcases r with⟨r,b,n⟩|r
 .let#[c,d]:=r.step s n;exact .inl #[c,b,d]
 .exact .inr r
mutual
theorem yd.step(s:Step A H A' H'):∀(v:PV) (x:V),yd K cl B A H v x->yd K cl B A' H' v x
 |.non,x,h=>by erw[yd]at h ⊢;exact h
 |.bl b,x,h=>by erw[yd]at h ⊢;exact h
 |.int i,x,h=>by erw[yd]at h ⊢;exact h
 |.str y,x,h=>by erw[yd]at h ⊢;exact h
 |.tp k f,x,h=>by erw[yd]at h ⊢;let#[a,d,e,r,l]:=h;exact#[a,d,e,r.step s,yg.step s f d l]
 |.lst f,x,h=>by erw[yd]at h ⊢;let#[a,d,e,r,l]:=h;exact#[a,d,e,r.step s,yg.step s f d l]
 |.loc n,x,h=>by erw[yd]at h ⊢;let#[g,a,e,m]:=h;exact#[A4 g s.len,a,e,λb q=>m b (s.pre n b g q)]
 |.fnc j,x,h=>by erw[yd]at h ⊢;exact h
 |.exn c,x,h=>by erw[yd]at h ⊢;let#[a,e,r,b,n]:=h;let#[_,o]:=(Rd.of r).step s n;exact#[a,e,s.keep _ _ n r,b,o]
 |.scr f,x,h=>by erw[yd]at h ⊢;let#[a,d,e,r,l]:=h;exact#[a,d,e,r.step s,yg.step s f d l]
theorem yg.step(s:Step A H A' H'):∀(v:IK PV) (x:IK V),yg K cl B A H v x->yg K cl B A' H' v x
 |[],x,h=>by erw[yg]at h ⊢;exact h
 |v::b,x,h=>by erw[yg]at h ⊢;let#[y,a,e,r,l]:=h;exact#[y,a,e,yd.step s v y r,yg.step s b a l]
end
theorem yK.step(s:Step A H A' H')(r:yK K cl B A H U C):yK K cl B A' H' U C:=#[r.len,λi v e=>by let#[x,h,q]:=r.get i v e;exact#[x,h,q.step s]]
mutual
theorem yd.inn(g:∀a,AA a∈A->¬B a):∀(v:PV) (x:V),nL v=AC->yd K cl B A H v x->yd K cl (λa=>B a \/ AA a∈A) [] H v x
 |.non,x,_,h=>by erw[yd]at h ⊢;exact h
 |.bl b,x,_,h=>by erw[yd]at h ⊢;exact h
 |.int i,x,_,h=>by erw[yd]at h ⊢;exact h
 |.str y,x,_,h=>by erw[yd]at h ⊢;exact h
 |.tp k f,x,q,h=>by
  erw[yd]at h ⊢;let#[a,d,e,r,l]:=h;refine#[a,d,e,?_,yg.inn g f d (by simpa only[nL] using q) l];rcases r with⟨r,b,n⟩|r
  .exact .inl #[r,λz=>z.elim b n,by simp]
  .exact .inr r
 |.lst f,x,q,h=>by erw[yd]at h ⊢;let#[a,d,e,#[r,b,n],l]:=h;exact#[a,d,e,#[r,λz=>z.elim b n,by simp],yg.inn g f d (by simpa only[nL] using q) l]
 |.loc n,x,q,h=>by simp[nL]at q
 |.fnc j,x,q,h=>by erw[yd]at h ⊢;exact h
 |.exn c,x,q,h=>by simp[nL]at q
 |.scr f,x,q,h=>by
  erw[yd]at h ⊢;let#[a,d,e,r,l]:=h;refine#[a,d,e,?_,yg.inn g f d (by simpa only[nL] using q) l];rcases r with⟨r,b,n⟩|r
  .exact .inl #[r,λz=>z.elim b n,by simp]
  .exact .inr r
theorem yg.inn(b:∀a,AA a∈A->¬B a):∀(v:IK PV) (x:IK V),nLs v=AC->yg K cl B A H v x->yg K cl (λa=>B a \/ AA a∈A) [] H v x
 |[],x,_,h=>by erw[yg]at h ⊢;exact h
 |v::d,x,q,h=>by erw[yg]at h ⊢;erw[nLs,AH]at q;let#[y,c,e,r,l]:=h;exact#[y,c,e,yd.inn b v y q.1 r,yg.inn b d c q.2 l]
end
mutual
theorem yd.out{D:Ph}:∀(v:PV) (x:V),nL v=AC->yd K cl (λa=>B a \/ AA a∈A) D H v x->yd K cl B A H v x
 |.non,x,_,h=>by erw[yd]at h ⊢;exact h
 |.bl b,x,_,h=>by erw[yd]at h ⊢;exact h
 |.int i,x,_,h=>by erw[yd]at h ⊢;exact h
 |.str y,x,_,h=>by erw[yd]at h ⊢;exact h
 |.tp k f,x,q,h=>by
  erw[yd]at h ⊢;let#[a,d,e,r,l]:=h;refine#[a,d,e,?_,yg.out f d (by simpa only[nL] using q) l];rcases r with⟨r,b,n⟩|r
  .exact .inl #[r,λz=>b (.inl z),λz=>b (.inr z)]
  .exact .inr r
 |.lst f,x,q,h=>by erw[yd]at h ⊢;let#[a,d,e,#[r,b,n],l]:=h;exact#[a,d,e,#[r,λz=>b (.inl z),λz=>b (.inr z)],yg.out f d (by simpa only[nL] using q) l]
 |.loc n,x,q,h=>by simp[nL]at q
 |.fnc j,x,q,h=>by erw[yd]at h ⊢;exact h
 |.exn c,x,q,h=>by simp[nL]at q
 |.scr f,x,q,h=>by
  erw[yd]at h ⊢;let#[a,d,e,r,l]:=h;refine#[a,d,e,?_,yg.out f d (by simpa only[nL] using q) l];rcases r with⟨r,b,n⟩|r
  .exact .inl #[r,λz=>b (.inl z),λz=>b (.inr z)]
  .exact .inr r
theorem yg.out{D:Ph}:∀(v:IK PV) (x:IK V),nLs v=AC->yg K cl (λa=>B a \/ AA a∈A) D H v x->yg K cl B A H v x
 |[],x,_,h=>by erw[yg]at h ⊢;exact h
 |v::c,x,q,h=>by erw[yg]at h ⊢;erw[nLs,AH]at q;let#[y,b,e,r,l]:=h;exact#[y,b,e,yd.out v y q.1 r,yg.out c b q.2 l]
end
theorem yg.length:∀{v:IK PV} {x:IK V},yg K cl B A H v x->v.length=x.length
 |[],x,h=>by erw[yg]at h;subst h;rfl
 |v::a,x,h=>by erw[yg]at h;let#[y,b,rfl,_,l]:=h;simp[yg.length l]
theorem DK.step(s:Step A H A' H'):∀{a:IK (PV×PV)} {b:IK (Key×V)},DK K cl B A H a b->DK K cl B A' H' a b
 |[],b,h=>h
 |(k,v)::r,b,h=>by let#[q,x,t,e,m,c,l]:=h;exact#[q,x,t,e,m,c.step s,DK.step s l]
theorem DT.step(s:Step A H A' H'):∀{a:IK (PV×PV)} {b:IK (IK Key×V)},DT K cl B A H a b->DT K cl B A' H' a b
 |[],b,h=>h
 |(k,v)::r,b,h=>by let#[q,x,t,e,m,c,l]:=h;exact#[q,x,t,e,m,c.step s,DT.step s l]
theorem FS.step(s:Step A H A' H'):∀{a:IK (AL×PV)} {b:IK (AL×V)},FS K cl B A H a b->FS K cl B A' H' a b
 |[],b,h=>h
 |(k,v)::r,b,h=>by let#[x,t,e,c,l]:=h;exact#[x,t,e,c.step s,FS.step s l]
theorem ycm.step(s:Step A H A' H'){o:Ob}{a:AJ}(e:H' a=H a)(r:ycm K cl B A H o a):ycm K cl B A' H' o a:=by
 cases o with
 |lst j=>
  let#[d,q,l]:=r;exact#[d,e.trans q,l.step s]
 |dct t f=>
  cases t with
  |false=>let#[b,q,l]:=r;exact#[b,e.trans q,l.step s]
  |true=>let#[b,q,l]:=r;exact#[b,e.trans q,l.step s]
 |dead=>exact r
 |ins c fs=>let#[b,#[g,q],l]:=r;exact#[b,#[g,e.trans q],l.step s]
theorem ycm.there{o:Ob}{a:AJ}(r:ycm K cl B A H o a):∃u,H a=AA u:=by
 cases o with
 |lst f=>let#[g,q,l]:=r;exact#[_,q]
 |dct t b=>cases t<;>(let#[d,q,l]:=r;exact#[_,q])
 |dead=>exact r.elim
 |ins c fs=>let#[d,#[j,q],l]:=r;exact#[_,q]
theorem yx.there(S:yx K cl B A H st){a:AJ}(h:AA a∈A):∃u,H a=AA u:=by let#[n,e]:=DS.mp h;let#[o,_,r]:=S.obj n a e;exact r.there
theorem Step.upd{p:AJ}{o:HO}(a:H p=AD):Step A H A (upd H p o):=
 #[λb u n e=>by rw[zj (zo e a)];exact e,AQ _,λ_ _ _ e=>e,λ_ h=>.inl h]
theorem yx.same(S:yx K cl B A H st)(k:∀b o,H b=AA o->H' b=AA o):yx K cl B A H' st:=by
 have s:Step A H A H':=#[λb o _ e=>k b o e,AQ _,λ_ _ _ e=>e,λ_ h=>.inl h];refine#[S.len,S.inj,λn a e=>?_,S.liv,S.nb,λa h=>?_]
 .let#[o,q,r]:=S.obj n a e;let#[u,z]:=r.there;exact#[o,q,r.step s ((k a u z).trans z.symm)]
 .let#[o,q]:=S.dom a h;exact#[o,k a o q]
theorem yx.upd{p:AJ}{o:HO}(S:yx K cl B A H st)(a:H p=AD):yx K cl B A (upd H p o) st:=S.same λb u e=>by rw[zj (zo e a)];exact e
mutual
theorem yd.moreB{g:AJ->Prop}(d:∀y,g y->B y \/ H y=AD):∀(v:PV) (x:V),yd K cl B A H v x->yd K cl g A H v x
 |.non,x,h=>by erw[yd]at h ⊢;exact h
 |.bl b,x,h=>by erw[yd]at h ⊢;exact h
 |.int i,x,h=>by erw[yd]at h ⊢;exact h
 |.str y,x,h=>by erw[yd]at h ⊢;exact h
 |.tp k f,x,h=>by
  erw[yd]at h ⊢;let#[y,a,e,r,l]:=h;refine#[y,a,e,?_,yg.moreB d f a l];rcases r with⟨r,b,n⟩|r
  .exact .inl #[r,λz=>(d y z).elim b λq=>(by rw[q]at r;cases r),n]
  .exact .inr r
 |.lst f,x,h=>by erw[yd]at h ⊢;let#[y,a,e,#[r,b,n],l]:=h;exact#[y,a,e,#[r,λz=>(d y z).elim b λq=>(by rw[q]at r;cases r),n],yg.moreB d f a l]
 |.loc n,x,h=>by erw[yd]at h ⊢;exact h
 |.fnc j,x,h=>by erw[yd]at h ⊢;exact h
 |.exn c,x,h=>by erw[yd]at h ⊢;let#[y,e,r,b,n]:=h;exact#[y,e,r,λz=>(d y z).elim b λq=>(by rw[q]at r;cases r),n]
 |.scr f,x,h=>by
  erw[yd]at h ⊢;let#[y,a,e,r,l]:=h;refine#[y,a,e,?_,yg.moreB d f a l];rcases r with⟨r,b,n⟩|r
  .refine .inl #[r,λz=>(d y z).elim b λq=>?_,n];rcases r with r|⟨o,r⟩<;>(rw[q]at r;cases r)
  .exact .inr r
theorem yg.moreB{a:AJ->Prop}(b:∀y,a y->B y \/ H y=AD):∀(v:IK PV) (x:IK V),yg K cl B A H v x->yg K cl a A H v x
 |[],x,h=>by erw[yg]at h ⊢;exact h
 |v::d,x,h=>by erw[yg]at h ⊢;let#[y,c,e,r,l]:=h;exact#[y,c,e,yd.moreB b v y r,yg.moreB b d c l]
end
end
end L2
namespace L2
open PySem PySem.Spec PyProof.Rows
def CXH(X:Cx)(H:Hp)(s:AK)(E:XK)(e:AG)(s':AK):Prop:=
 ∃(C a:AJ) (c f fl:AG) (d:Hp) (B:Au),X.s₀.heap.objs.size<=C/\e=.ref a/\s'.os=s.os/\DF s'.gens /\
  (B.StaysIn s'.heap/\B.get? a=AD/\s'.heap.FunFrames B X.stack/\s'.heap.TracedAtW B a c f fl)/\HOk X.prog X.w d s'.heap/\Un (frs X.stack) [C] H d s.heap s'.heap /\
  (∀b o,s.heap.get? b=AA o->H b=AD->b∉frs X.stack->b≠C->B.get? b=AA o)/\(∀b u,d b=AA u->∃o,B.get? b=AA o)/\(∀b o,s.heap.get? b=AA o->b∉frs X.stack->b≠C->∃g,B.get? b=AA g)/\E c AD d
theorem CXH.mono{X:Cx}{H:Hp}{s:AK}{E g:XK}{e:AG}{s':AK}(h:CXH X H s E e s')(n:∀b c,E b AD c->g b AD c):CXH X H s g e s':=by let#[C,a,b,j,fl,c,B,l,m,o,p,q,r,t,u,r9,d,f]:=h;exact#[C,a,b,j,fl,c,B,l,m,o,p,q,r,t,u,r9,d,n _ _ f]
section
variable {M:Hc}{A:Ak}{E:AG->AK->Prop}{s:AK}
def zgO{base:Au}{env:Env}{outer:IK Env}{L e:AJ}{cls y fl}{Q:Ik->AK->Prop}
  (p:A.frames=AA (env::outer)) (hf:env.frame=AA L) (B:base.StaysIn s.heap) (r:base.get? e=AD) (C:s.heap.FunFrames base (env::outer)) (t:s.heap.TracedAtW base e cls y fl)
  (D:∀j,FI base outer e cls y j->s.heap.UpToSlots j->Q Ik.unit {s with heap:=j}):A6 M A («leaving» env (.ref e)) Q E s:=by
 by_cases g:fl=rawInt L
 .subst g;unfold «leaving»;refine AI (wpAny_noteFrame_againW hf t ?_);refine wpAny_landsW #[B,r,C,t] λj g O=>?_;let#[U,X,#[_,_,Y],Z]:=g;exact D j #[U,X,Y,Z] O
 .let#[oe,G,T,oT,ts,H,#[n,h0],I,J,u,w,x,l,N]:=t;subst n;unfold «leaving» noteFrame;erw[hf];refine AI (AI (BS H I J ?_));rw[IR (show (Ae T != Bt)=AC from by simp)];refine AI (BS x l N ?_);rw[IS (show ¬((fl==rawInt L)=AC)from λz=>g (eq_of_beq z))];refine AI (F1 x l (EG.mp N).1 ?_);have c:∀b,b≠T->(s.heap.update T (Obj.mapFields (·.setIfInBounds 3 Bt))).get? b=s.heap.get? b:=λb f=>DL _ _ (Ax f);have a:∀b o,s.heap.get? b=AA o->(∀G,o.data ≠ .fields G)->b≠T:=λb o f d q=>by rw[q,x]at f;injection f with f;subst f;exact d ts l
  refine wpAny_newEntryW p (C.of_keeps λb o f d=>#[o,(c b (a b o f d)).trans f,rfl]) hf ((c e (Ax w)).trans H)
   (λb o m=>(c b λq=>by rw[q,u]at m;cases m).trans (B b o m)) r I (EG.mp J).1 h0
   λj #[x1,#[_,_,x2],x3,x4]=>D j #[x1,r,x2,x3] λb o f d=>x4 b o ((c b (a b o f d)).trans f) d
end
section
variable {P:Aa}{w:Ai}{K:AF}{mg:AL->Option AG}{base:Au}{N:IK AL}{qual:AL}{scope:BZ}{f:AJ}{cd:AG}{A:Ak}{outer:IK Env}{s₀:AK}{H₀:Hp}{E:XK}
def zsr{F D H s e s'}(I:Inv (yaK (CX1 P w) P w K mg base N qual scope f cd A outer s₀ H₀ E) F D H s)(h:CXH (yaK (CX1 P w) P w K mg base N qual scope f cd A outer s₀ H₀ E) H s E e s'):
  (yaK (CX1 P w) P w K mg base N qual scope f cd A outer s₀ H₀ E).xe e s':=by
 let#[C,a,J,a0,fl,Z,B,hC,rfl,os,t,#[f1,f2,L,f4],M,un,hB,tr,hT,hE]:=h;have c:Un (frs outer) [] H₀ H s₀.heap s.heap:=I.base;have lt:∀b o,s₀.heap.get? b=AA o->b≠s₀.heap.objs.size:=λb o q=>Am (AY q);have m:∀b o,s₀.heap.get? b=AA o->b≠C:=λb o q=>Am (A4 (AY q) hC);have p:∀b o,s₀.heap.get? b=AA o->b∉[C]:=λb o q z=>m b o q (by simpa using z);have x:∀b,b∈frs (envOfC qual scope s₀.heap.objs.size f cd::outer)->b=s₀.heap.objs.size \/ b∈frs outer:=λb d=>by have O:b∈s₀.heap.objs.size::frs outer:=d;exact AS.mp O
 have g:Un (frs (envOfC qual scope s₀.heap.objs.size f cd::outer)) [C] H Z s.heap s'.heap:=un;have kB:∀b o,s₀.heap.get? b=AA o->H₀ b=AD->b∉frs outer->B.get? b=AA o:=λb o q n d=>hB b o (c.keep b o q n d (by simp)) (c.free b o q n (by simp)) (λz=>by
  rcases x b z with z|z
  .exact lt b o q z
  .exact d z) (m b o q)
 have kT:∀b o,s₀.heap.get? b=AA o->b∉frs outer->∃l,B.get? b=AA l:=λb o q d=>by
  let#[l,r]:=c.there b o q (by simp);refine hT b l r (λz=>?_) (m b o q);rcases x b z with z|z
  .exact lt b o q z
  .exact d z
 refine zgO I.ok.frames rfl f1 f2 L f4 λh'' j up=>?_;refine#[a,J,a0,Z,B,rfl,os.trans I.os,t,j,HOk.inB M f1 j.1 tr,#[λb o q n d _=>j.1 b o (kB b o q n d),λb o q n d _=>?_,λb o q n _=>?_,λb o q _=>?_,λb xs q=>g.tups b xs (c.tups b xs q),λb o u q=>g.frzs b o u (c.frzs b o u q),λb ps q=>?_],kB,tr,kT,hE]
 .let#[sl,r]:=c.slot b o q n d (by simp);have n1:=c.free b o q n (by simp);let#[sl1,G]:=g.slot b _ r n1 (AU _ d) (p b o q);let#[_,l,Q,U]:=BW L (show b∈DM (λ(z:Env)=>z.frame) _ from AU _ d);let#[y,X]:=up b _ G (by rw[Q]at G;cases G;exact U);exact#[y,X]
 .let#[l,r]:=c.there b o q (by simp);exact g.free b l r (c.free b o q n (by simp)) (p b o q)
 .let#[l,r]:=c.there b o q (by simp);let#[o2,G]:=g.there b l r (p b o q)
  by_cases d:b∈frs outer
  .let#[_,o3,Y,U]:=BW L (show b∈DM (λ(z:Env)=>z.frame) _ from AU _ d);let#[y,X]:=up b _ Y U;exact#[_,X]
  .let#[o4,q4]:=kT b o q d;exact#[o4,j.1 b o4 q4]
 .let#[m1,e1]:=c.tbls b ps q;let#[m2,e2]:=g.tbls b _ e1;exact#[m1++m2,by rw[e2,Dt]]
end
section
variable {pg:Aa}{wd:Ai}{A:Ak}{R:GF->AK->Prop}{s:AK}
end
section
variable {X:Cx}{sc:BZ}{NC:IK AL}{slots:IK (Option IL)}{elt tg iter:AT}{ifs:IK AT}{pos:CB}{g:TG}{ti:TT}{te:CI->TE}{E:XK}
end
end L2
namespace L2
open PySem PySem.Spec PyProof.Rows IC
structure Se where
 cl:IL->AJ
 call:IL->IK PV->SO->R PV
 may:IQ
section
variable (S:Se)(X:Cx)
def ExcAt(C:St)(B:AJ->Prop)(A:Ph)(H:Hp)(k:IL)(b:SO)(e:AG)(s':AK):Prop:=
 (∃D a s d,Inv X D C a s/\Step A H d a/\CX1 X.prog X.w X.stack a s (λc _ f=>c=.ref (S.cl k)/\∃g,Step d a g f/\yx X.K S.cl B g f b) e s') \/
 (S.may=AC/\∃D a s d j l m,Inv X D C a s/\Step A H d a/\yx X.K S.cl B d a b/\HI s.heap j l (.ref (S.cl k)) m/\e=.ref l/\s'={s with heap:=j}) \/
 (S.may=AC/\∃D a s,Inv X D C a s/\CXH X a s (λc _ f=>c=.ref (S.cl k)/\∃g,Step A H g f/\yx X.K S.cl B g f b) e s')
def Run{E F:Type}(C:St)(B:AJ->Prop)(A:Ph)(H:Hp)(Rel:Ph->Hp->E->F->Prop)(r:R E)(Q:F->Hp->Prop):Prop:=
 match r with
 |.ok v a=>∀x b c,Step A H c b->yx X.K S.cl B c b a->Rel c b v x->Q x b
 |.exc k a=>∀e d,ExcAt S X C B A H k a e d->X.xe e d
 |.bad=>IY
abbrev RV(B:AJ->Prop):Ph->Hp->PV->V->Prop:=λA H=>yd X.K S.cl B A H
abbrev RL(B:AJ->Prop):Ph->Hp->IK PV->IK V->Prop:=λA H=>yg X.K S.cl B A H
abbrev RB:Ph->Hp->IQ->IQ->Prop:=λ_ _ b c=>b=c
def tE(c:Ce):TE:=λC H Q=>∃B A st U,yx X.K S.cl B A H st/\yK X.K S.cl B A H U C/\Run S X C B A H (RV S X B) (ev S.call U st c) Q
def tAs(c:Ces):TA:=λC H Q=>∃B A st U,yx X.K S.cl B A H st/\yK X.K S.cl B A H U C/\Run S X C B A H (RL S X B) (evs S.call U st c) Q
def yaZ(r:R PV):R IQ:=r.bind λx st=>onO (yaE st x) λb=>.ok b st
def tTs(c:Ce):TT:=λC H Q=>∃B A st U,yx X.K S.cl B A H st/\yK X.K S.cl B A H U C/\Run S X C B A H RB (yaZ (ev S.call U st c)) Q
end
section
variable {S:Se}{X:Cx}{C:St}{B:AJ->Prop}{A A1:Ph}{H H1:Hp}
theorem ExcAt.back{k:IL}{a:SO}{e:AG}{s':AK}(s:Step A H A1 H1)(h:ExcAt S X C B A1 H1 k a e s'):ExcAt S X C B A H k a e s':=by
 rcases h with⟨D,b,t,d,I,q,c⟩|⟨m,D,b,t,d,f,g,j,I,q,c⟩|⟨m,D,b,t,I,c⟩
 .exact .inl #[D,b,t,d,I,s.trans q,c]
 .exact .inr (.inl #[m,D,b,t,d,f,g,j,I,s.trans q,c])
 .exact .inr (.inr #[m,D,b,t,I,c.mono λl u #[n,o,p,r]=>#[n,o,s.trans p,r]])
variable {E F J G:Type}{Rel:Ph->Hp->E->F->Prop}{Hl:Ph->Hp->J->G->Prop}
theorem Run.on{r:R E}{Q:F->Hp->Prop}(s:Step A H A1 H1)(h:Run S X C B A H Rel r Q):Run S X C B A1 H1 Rel r Q:=by
 cases r with
 |ok v a=>exact λx b c t=>h x b c (s.trans t)
 |exc k a=>exact λe d x=>h e d (x.back s)
 |bad=>exact h
theorem Run.mono{r:R E}{Q d:F->Hp->Prop}(h:Run S X C B A H Rel r Q)(k:∀x a,Q x a->d x a):Run S X C B A H Rel r d:=by
 cases r with
 |ok v b=>exact λx a f t g j=>k x a (h x a f t g j)
 |exc c b=>exact h
 |bad=>exact h
theorem Run.bind{r:R E}{k:E->SO->R J}{Q:G->Hp->Prop}(h:Run S X C B A H Hl (r.bind k) Q):
  Run S X C B A H Rel r λx H1=>∃v a A1,Step A H A1 H1/\yx X.K S.cl B A1 H1 a/\Rel A1 H1 v x/\Run S X C B A1 H1 Hl (k v a) Q:=by
 cases r with
 |ok v b=>exact λx j d t f g=>#[v,b,d,t,f,g,Run.on t h]
 |exc c b=>exact h
 |bad=>exact h
theorem Run.ok{v:E}{st:SO}{Q:F->Hp->Prop}(h:Run S X C B A H Rel (.ok v st) Q)(rs:yx X.K S.cl B A H st){x:F}(a:Rel A H v x):Q x H:=h x H A .rfl rs a
theorem PE.imp{e:AT}{t t':TE}(h:PE X e t')(k:∀C H Q,t C H Q->t' C H Q):PE X e t:=λD s C H Q I q=>h D s C H Q I (k C H Q q)
theorem PT.imp{e:AT}{t t':TT}(h:PT X e t')(k:∀C H Q,t C H Q->t' C H Q):PT X e t:=λD s C H Q I q=>h D s C H Q I (k C H Q q)
theorem PW.imp{e:AT}{t t':TT}(h:PW X e t')(k:∀C H Q,t C H Q->t' C H Q):PW X e t:=λa D s C H Q I q=>h a D s C H Q I (k C H Q q)
theorem PA.imp{e:IK AT}{t t':TA}(h:PA X e t')(k:∀C H Q,t C H Q->t' C H Q):PA X e t:=λa D s C H Q I q=>h a D s C H Q I (k C H Q q)
theorem tE.bind{c:Ce}{U:IC.Env}{st:SO}{k:PV->SO->R J}{Q:G->Hp->Prop}{P:V->Hp->Prop}(rs:yx X.K S.cl B A H st)(b:yK X.K S.cl B A H U C)(h:Run S X C B A H Hl ((ev S.call U st c).bind k) Q)
  (n:∀x H1 v a A1,Step A H A1 H1->yx X.K S.cl B A1 H1 a->yK X.K S.cl B A1 H1 U C->yd X.K S.cl B A1 H1 v x->Run S X C B A1 H1 Hl (k v a) Q->P x H1):tE S X c C H P:=
 #[B,A,st,U,rs,b,(Run.bind h).mono λx H1 #[v,a,A1,s,rs1,d,f]=>n x H1 v a A1 s rs1 (b.step s) d f]
theorem tAs.bind{c:Ces}{U:IC.Env}{st:SO}{k:IK PV->SO->R J}{Q:G->Hp->Prop}{P:IK V->Hp->Prop}(rs:yx X.K S.cl B A H st)(b:yK X.K S.cl B A H U C)(h:Run S X C B A H Hl ((evs S.call U st c).bind k) Q)
  (n:∀x H1 v a A1,Step A H A1 H1->yx X.K S.cl B A1 H1 a->yK X.K S.cl B A1 H1 U C->yg X.K S.cl B A1 H1 v x->Run S X C B A1 H1 Hl (k v a) Q->P x H1):tAs S X c C H P:=
 #[B,A,st,U,rs,b,(Run.bind h).mono λx H1 #[v,a,A1,s,rs1,d,f]=>n x H1 v a A1 s rs1 (b.step s) d f]
variable {i:IM}{b:IQ}{x:AL}{j:IL}{pos:CB}{e a a':AT}{c ca cb cc:Ce}
def zpz:PE X (.Constant (.int i) j pos) (tE S X (.cst (.int i))):=zsd.imp λC H Q #[B,A,st,U,a,b,h]=>by erw[ev]at h;exact h.ok a (by erw[yd])
def zrz:PE X (.Constant (.bool b) j pos) (tE S X (.cst (.bl b))):=zse.imp λC H Q #[B,A,st,U,a,c,h]=>by erw[ev]at h;exact h.ok a (by erw[yd])
def zoI:PE X (.Constant .none j pos) (tE S X (.cst .non)):=zsf.imp λC H Q #[B,A,st,U,a,b,h]=>by erw[ev]at h;exact h.ok a (by erw[yd])
def zqG:PE X (.Constant (.str x) j pos) (tE S X (.cst (.str x))):=zr2.imp λC H Q #[B,A,st,U,a,b,h]=>by erw[ev]at h;exact h.ok a (by erw[yd])
def zqe{i:IL}(b:X.N[i]?=AA x)(c:Vis X.env.scope x)(d:(x==("__debug__":AL))=false:=by decide)(a:(x==("__classdict__":AL))=false:=by decide):PE X (.Name x pos) (tE S X (.var i)):=
 (zlU b c d a).imp λC H Q #[B,A,st,U,f,g,h]=>by
  erw[ev]at h
  cases q:U[i]? with
  |none=>rw[q]at h;exact h.elim
  |some o=>
   cases o with
   |none=>rw[q]at h;exact h.elim
   |some v=>
    rw[q]at h;let#[y,j,l]:=g.get i v q;exact#[y,j,h.ok f l]
def zmV{v y}(a:Gl X x)(b:X.mg x=AA (.ref y))(c:∀B A H,yd X.K S.cl B A H v (.ref y))(d:(x==("__debug__":AL))=false:=by decide):PE X (.Name x pos) (tE S X (.cst v)):=
 (zdq a b (show RelV (.ref y) (.ref y)from rfl) d).imp λC H Q #[B,A,st,U,f,g,h]=>by erw[ev]at h;exact h.ok f (c B A H)
def zar{o st Q}(h:Run S X C B A H (RV S X B) (toR o st) Q)(rs:yx X.K S.cl B A H st):∃z,o=AA z/\∀c a b,Step A H b a->yx X.K S.cl B b a st->yd X.K S.cl B b a z c->Q c a:=by
 cases o with
 |none=>exact h.elim
 |some z=>exact#[z,rfl,h]
def rT2(S:Se)(X:Cx)(f:PV->PV->Option PV):R2:=λx y H Q=>∃B A st v w z,yx X.K S.cl B A H st/\yd X.K S.cl B A H v x/\yd X.K S.cl B A H w y/\f v w=AA z /\
 ∀c a b,Step A H b a->yx X.K S.cl B b a st->yd X.K S.cl B b a z c->Q c a
def zoS{d o}(f:OpR X (binaryOp d) (rT2 S X (yq o)))(g:PE X a (tE S X ca))(j:PE X a' (tE S X cb)):PE X (.BinOp a d a' pos) (tE S X (.bin o ca cb)):=
 (zqi f g j).imp λC H Q #[B,A,st,U,l,m,h]=>by erw[ev]at h;refine tE.bind l m h λx H1 v n A1 G rs1 b p r=>tE.bind rs1 b r λy I w c t u rs2 D rw E=>?_;let#[z,e,q]:=zar E rs2;exact#[B,t,c,v,w,z,rs2,p.step u,rw,e,q]
def zoG{b o}(f:OpR X (compareOp b) (rT2 S X (yp o)))(g:PE X a (tE S X ca))(j:PE X a' (tE S X cb))(l:behindInMarks b a'=AB):PE X (.Compare a [b] [a'] pos) (tE S X (.cmp o ca cb)):=
 (zgw f g j l).imp λC H Q #[B,A,st,U,m,n,h]=>by erw[ev]at h;refine tE.bind m n h λx H1 v p A1 I rs1 c r t=>tE.bind rs1 c t λy J w d u D rs2 E rw G=>?_;let#[z,e,q]:=zar G rs2;exact#[B,u,d,v,w,z,rs2,r.step D,rw,e,q]
end
section
variable {S:Se}{X:Cx}{D:St}{B:AJ->Prop}{A A1:Ph}{H H1:Hp}{K:AF}{cl:IL->AJ}{st:SO}
theorem ybP.sq{k:IQ}{a:AJ}{xs:IK V}(r:ybP K B A H k a xs):SqT K H a xs:=by
 rcases r with⟨r,_⟩|r
 .exact .inl (.inl r)
 .exact .inr r.2
theorem ycS.sq{a:AJ}{xs:IK V}(r:ycS B A H a xs):SqL K H a xs:=.inl (.inl r.1)
theorem yd.tup_new{vs:IK PV}{xs:IK V}{p:AJ}(a:H p=AD)(rs:yx K cl B A H st)(r:yg K cl B A H vs xs):yd K cl B A (upd H p (.tup xs)) (.tup vs) (.ref p):=by
 erw[yd];refine#[p,xs,rfl,.inl #[zx,λz=>?_,λz=>?_],r.step (.upd a)]
 .let#[o,e]:=rs.dom p z;rw[a]at e;cases e
 .let#[o,e]:=rs.there z;rw[a]at e;cases e
theorem yd.lst_new{vs:IK PV}{xs:IK V}{p:AJ}(a:H p=AD)(rs:yx K cl B A H st)(r:yg K cl B A H vs xs):yd K cl B A (upd H p (.lst xs)) (.lst vs) (.ref p):=by
 erw[yd];refine#[p,xs,rfl,#[zx,λz=>?_,λz=>?_],r.step (.upd a)]
 .let#[o,e]:=rs.dom p z;rw[a]at e;cases e
 .let#[o,e]:=rs.there z;rw[a]at e;cases e
theorem yg.append:∀{vs b:IK PV} {xs a:IK V},yg K cl B A H vs xs->yg K cl B A H b a->yg K cl B A H (vs++b) (xs++a)
 |[],b,xs,a,h,q=>by erw[yg]at h;subst h;exact q
 |v::vs,b,xs,a,h,q=>by erw[yg]at h;let#[y,c,rfl,r,l]:=h;show yg K cl B A H (v::(vs++b)) (y::(c++a));erw[yg];exact#[y,c++a,rfl,r,yg.append l q]
theorem yg.get:∀{vs:IK PV} {xs:IK V} (j:IL) {v:PV},yg K cl B A H vs xs->vs[j]?=AA v->∃x,xs[j]?=AA x/\yd K cl B A H v x
 |[],xs,j,v,h,e=>by simp at e
 |w::vs,xs,0,v,h,e=>by erw[yg]at h;let#[y,a,rfl,r,l]:=h;simp at e;subst e;exact#[y,rfl,r]
 |w::vs,xs,j+1,v,h,e=>by erw[yg]at h;let#[y,a,rfl,r,l]:=h;let#[x,b,c]:=yg.get j l (by simpa using e);exact#[x,by simpa using b,c]
theorem yg.drop:∀{vs:IK PV} {xs:IK V} (n:IL),yg K cl B A H vs xs->yg K cl B A H (vs.drop n) (xs.drop n)
 |vs,xs,0,h=>by simpa using h
 |[],xs,n+1,h=>by erw[yg]at h;subst h;simp[yg]
 |v::vs,xs,n+1,h=>by erw[yg]at h;let#[y,a,rfl,_,l]:=h;simpa using yg.drop n l
theorem yg.take:∀{vs:IK PV} {xs:IK V} (n:IL),yg K cl B A H vs xs->yg K cl B A H (vs.take n) (xs.take n)
 |vs,xs,0,h=>by simp[yg]
 |[],xs,n+1,h=>by erw[yg]at h;subst h;simp[yg]
 |v::vs,xs,n+1,h=>by erw[yg]at h;let#[y,a,rfl,r,l]:=h;erw[IK.take_succ_cons,yg];exact#[y,a.take n,rfl,r,yg.take n l]
def zdj{f o C}{g:IM->IM->IM}(h:OpR X f (rI C λi j=>.int (g i j)))
  (l:∀v w z,yq o v w=AA z->∃i j,v=.int i/\w=.int j/\C i j/\z=.int (g i j)):OpR X f (rT2 S X (yq o)):=by
 rintro E s D H x y v u Q I m n ⟨B,A,st,a,b,z,p,c,d,e,q⟩
 let#[i,j,rfl,rfl,r,rfl]:=l a b z e;erw[yd]at c d;subst c d;exact h E s D H _ _ v u Q I m n #[i,j,rfl,rfl,r,q _ H A .rfl p (by erw[yd])]
def zdG{f o}{g:IM->IM->IM}(h:OpR X f (rI0 λi j=>.int (g i j)))
  (l:∀v w z,yq o v w=AA z->∃i j,v=.int i/\w=.int j/\z=.int (g i j)):OpR X f (rT2 S X (yq o)):=by
 rintro E s D H x y v u Q I m n ⟨B,A,st,a,b,z,p,c,d,e,q⟩
 let#[i,j,rfl,rfl,rfl]:=l a b z e;erw[yd]at c d;subst c d;exact h E s D H _ _ v u Q I m n #[i,j,rfl,rfl,q _ H A .rfl p (by erw[yd])]
def zof(v w z:PV)(h:yq .sub v w=AA z):∃i j,v=.int i/\w=.int j/\z=.int (i-j):=by
 unfold yq at h;split at h<;>first|(cases h;done)|skip
 exact#[_,_,rfl,rfl,(AX h).symm]
def zm7(v w z:PV)(h:yq .mul v w=AA z):∃i j,v=.int i/\w=.int j/\yd0 i j/\z=.int (i*j):=by
 unfold yq at h;split at h<;>first|(cases h;done)|skip
 rename_i i j;erw[IC.binI]at h;split at h
 .rename_i c;refine#[i,j,rfl,rfl,?_,(AX h).symm];erw[yaA,Bz,IN]at c;unfold yd0;rcases c with c|c
  .left;constructor<;>lia
  .right;constructor<;>lia
 .cases h
def zk3(v w z:PV)(h:yq .fdiv v w=AA z):∃i j,v=.int i/\w=.int j/\ydh i j/\z=.int (i/j):=by
 unfold yq at h;split at h<;>first|(cases h;done)|skip
 rename_i i j;erw[IC.binI]at h;split at h
 .rename_i c;exact#[i,j,rfl,rfl,c,(AX h).symm]
 .cases h
def zot(v w z:PV)(h:yq .mod v w=AA z):∃i j,v=.int i/\w=.int j/\0<j/\z=.int (i%j):=by
 unfold yq at h;split at h<;>first|(cases h;done)|skip
 rename_i i j;erw[IC.binI]at h;split at h
 .rename_i c;exact#[i,j,rfl,rfl,c,(AX h).symm]
 .cases h
def znb(v w z:PV)(h:yq .pow v w=AA z):∃i j,v=.int i/\w=.int j/\yej i j/\z=.int (i^j.toNat):=by
 unfold yq at h;split at h<;>first|(cases h;done)|skip
 rename_i i j;erw[IC.binI]at h;split at h
 .rename_i c;exact#[i,j,rfl,rfl,#[c.1,c.2.1,by have:=c.2.2;lia],(AX h).symm]
 .cases h
def zmX(v w z:PV)(h:yq .shl v w=AA z):∃i j,v=.int i/\w=.int j/\yej i j/\z=.int (i*2^j.toNat):=by
 unfold yq at h;split at h<;>first|(cases h;done)|skip
 rename_i i j;erw[IC.binI]at h;split at h
 .rename_i c;exact#[i,j,rfl,rfl,#[c.1,c.2.1,by have:=c.2.2;lia],(AX h).symm]
 .cases h
def zmu(v w z:PV)(h:yq .shr v w=AA z):∃i j,v=.int i/\w=.int j/\0<=j/\z=.int (i/2^j.toNat):=by
 unfold yq at h;split at h<;>first|(cases h;done)|skip
 rename_i i j;erw[IC.binI]at h;split at h
 .rename_i c;exact#[i,j,rfl,rfl,c,(AX h).symm]
 .cases h
def zkv(v w z:PV)(h:yq .band v w=AA z):∃i j,v=.int i/\w=.int j/\z=.int (Ao i j):=by
 unfold yq at h;split at h<;>first|(cases h;done)|skip
 exact#[_,_,rfl,rfl,(AX h).symm]
def zok(v w z:PV)(h:yq .bor v w=AA z):∃i j,v=.int i/\w=.int j/\z=.int (BX i j):=by
 unfold yq at h;split at h<;>first|(cases h;done)|skip
 exact#[_,_,rfl,rfl,(AX h).symm]
def zlj(v w z:PV)(h:yq .bxor v w=AA z):∃i j,v=.int i/\w=.int j/\z=.int (B5 i j):=by
 unfold yq at h;split at h<;>first|(cases h;done)|skip
 exact#[_,_,rfl,rfl,(AX h).symm]
def zpo:OpR X (binaryOp .Sub) (rT2 S X (yq .sub)):=zdG zpx zof
def zoT:OpR X (binaryOp .Mult) (rT2 S X (yq .mul)):=zdj zpn zm7
def zmT:OpR X (binaryOp .FloorDiv) (rT2 S X (yq .fdiv)):=zdj zkj zk3
def zpB:OpR X (binaryOp .Mod) (rT2 S X (yq .mod)):=zdj zqM zot
def zqL:OpR X (binaryOp .Pow) (rT2 S X (yq .pow)):=zdj zo8 znb
def zpy:OpR X (binaryOp .LShift) (rT2 S X (yq .shl)):=zdj zoL zmX
def zqC:OpR X (binaryOp .RShift) (rT2 S X (yq .shr)):=zdj zoM zmu
def znn:OpR X (binaryOp .BitAnd) (rT2 S X (yq .band)):=zdG zp9 zkv
def zoP:OpR X (binaryOp .BitOr) (rT2 S X (yq .bor)):=zdG zro zok
def znB:OpR X (binaryOp .BitXor) (rT2 S X (yq .bxor)):=zdG zoJ zlj
def zF:sizeMax=sizeLine:=by rw[CC];rfl
def zmK:OpR X (binaryOp .Add) (λx y H Q=>∃a b o,x=.ref a/\y=.ref b/\SqT X.K H a []/\SqT X.K H b o/\Q (.ref b) H):=by
 intro E s D H x y v u Q I A B h;let#[a,b,o,rfl,rfl,C,G,q]:=h
 cases A
 cases B
 let#[j,J,L,_]:=I.tuple C;let#[c,Z,M,_]:=I.tuple G;have:j=[]:=J.nil_iff.mpr rfl;subst this;let#[#[N,O,p,U],r,t,n,w]:=id L;let#[#[z,l,data2,m],d,f,Y,g]:=id M;simp only at t w f g;subst t w f g;exact GW #[_,r,rfl] #[_,d,rfl] C0 Cw Bf Ba (B6 _ _)
   (tuple_addW0 a b [].toArray c.toArray n Y O l U m (by simp)) #[r,d,#[.ref b,H,I,rfl,q]]
def zqX:OpR X (binaryOp .Add) (rT2 S X (yq .add)):=by
 rintro E s D H x y v u Q I m n ⟨B,A,st,a,b,z,g,d,f,e,q⟩
 unfold yq at e;split at e
 .rename_i i j;erw[yd]at d f;subst d f
  cases e
  exact zqR E s D H _ _ v u Q I m n #[i,j,rfl,rfl,q _ H A .rfl g (by erw[yd])]
 .rename_i i k;erw[yd]at d f;subst d f
  cases e
  exact zju E s D H _ _ v u Q I m n #[i,k,rfl,rfl,q _ H A .rfl g (by erw[yd];cases k<;>rfl)]
 .rename_i i j;erw[yd]at d f;subst d f;dsimp only at e;split at e
  .rename_i c
   cases e
   exact zh8 E s D H _ _ v u Q I m n #[i,j,rfl,rfl,by rw[<-zF];exact c,q _ H A .rfl g (by erw[yd])]
  .cases e
 .rename_i Y U Z M;erw[yd]at d f;let#[p,o,rfl,C,r]:=d;let#[G,J,rfl,L,w]:=f;dsimp only at e;split at e
  .rename_i c
   cases e
   have N:=r.length;have O:=w.length;unfold yd8 at q
   cases U with
   |nil=>
    have:o=[]:=by cases o with|nil=>rfl|cons _ _=>simp at N
    subst this;refine zmK E s D H _ _ v u Q I m n #[p,G,J,rfl,rfl,C.sq,L.sq,q _ H A .rfl g ?_];erw[Et,IV,yd];exact#[G,J,rfl,L,w]
   |cons v1 vr=>
    erw[G4,B9,Ib]at q;refine zmD E s D H _ _ v u Q I m n #[p,G,o,J,rfl,rfl,C.sq,L.sq,?_,by rw[<-zF];lia,λz=>?_,λz t l=>?_]
    .rintro rfl
     simp at N
    .subst z;have:M=[]:=by cases M with|nil=>rfl|cons _ _=>simp at O
     subst this;erw[Et,IV]at q;refine q _ H A .rfl g ?_;erw[yd];exact#[p,o,rfl,C,r]
    .cases M with
     |nil=>exact IU (IK.length_eq_zero_iff.mp O.symm) z
     |cons w1 wr=>
      erw[G4,B9,Ib]at q;exact q _ _ A (.upd l) (g.upd l) (.tup_new l g (r.append w))
  .cases e
 .rename_i U M;erw[yd]at d f;let#[p,o,rfl,C,r]:=d;let#[G,J,rfl,L,w]:=f;dsimp only at e;split at e
  .rename_i c
   cases e
   have N:=r.length;have O:=w.length;exact zl9 E s D H _ _ v u Q I m n #[p,G,o,J,rfl,rfl,C.1,L.1,by rw[<-zF];lia,λt l=>q _ _ A (.upd l) (g.upd l) (.lst_new l g (r.append w))]
  .cases e
 .cases e
end
mutual
noncomputable def toD:PV->PyData
 |.non=>.none
 |.bl b=>.bool b
 |.int i=>.int i
 |.str x=>.str x
 |.tp _ a=>.tuple (ybW a)
 |.lst a=>.list (ybW a)
 |_=>.none
noncomputable def ybW:IK PV->IK PyData
 |[]=>[]
 |x::a=>toD x::ybW a
end
mutual
theorem zft:∀(v:PV) (n:IL),shd n v=AC->(toD v).canLay0=AC/\(toD v).depth<=n
 |.non,n,h=>by simp[toD,Ci,DN]
 |.bl b,n,h=>by simp[toD,Ci,DN]
 |.int i,n,h=>by simp[toD,Ci,DN]
 |.str x,n,h=>by erw[shd]at h;erw[toD,Ci,DN,D6,and_true];exact h
 |.tp _ a,n,h=>by erw[shd,AH,IN]at h;let#[c,d]:=ze8 a (n-1) h.2;erw[toD,Ci,DN];exact#[c,()]
 |.lst a,n,h=>by erw[shd,AH,IN]at h;let#[c,d]:=ze8 a (n-1) h.2;erw[toD,Ci,DN];exact#[c,()]
 |.loc k,n,h=>by simp[shd]at h
 |.fnc k,n,h=>by simp[shd]at h
 |.exn k,n,h=>by simp[shd]at h
 |.scr a,n,h=>by simp[shd]at h
theorem ze8:∀(v:IK PV) (n:IL),yaU n v=AC->EY (ybW v)=AC/\FP (ybW v)<=n
 |[],n,h=>by simp[ybW,EY,FP]
 |v::a,n,h=>by erw[yaU,AH]at h;let#[b,d]:=zft v n h.1;let#[c,f]:=ze8 a n h.2;erw[ybW,EY,FP,AH];exact#[#[b,c],()]
end
def zcf{v:PV}(h:shp v=AC):Hm (toD v)=true:=by let#[a,b]:=zft v 60 h;unfold Hm;rw[a,Cy,IN];lia
mutual
theorem zfB:∀(v w:PV) (n m:IL),shd n v=AC->shd m w=AC->EH (toD v) (toD w)=peq v w
 |.non,w,n,m,h,q=>by cases w<;>first|rfl|exact IU q AN
 |.bl b,w,n,m,h,q=>by cases w<;>first|rfl|exact IU q AN
 |.int i,w,n,m,h,q=>by cases w<;>first|rfl|exact IU q AN
 |.str x,w,n,m,h,q=>by cases w<;>first|rfl|exact IU q AN
 |.tp _ a,.tp _ c,n,m,h,q=>by have h:=BA.1 h;have q:=BA.1 q;exact zfw a c (n-1) (m-1) h.2 q.2
 |.lst a,.lst c,n,m,h,q=>by have h:=BA.1 h;have q:=BA.1 q;exact zfw a c (n-1) (m-1) h.2 q.2
 |.tp _ a,.non,n,m,h,q=>rfl
 |.tp _ a,.bl _,n,m,h,q=>rfl
 |.tp _ a,.int _,n,m,h,q=>rfl
 |.tp _ a,.str _,n,m,h,q=>rfl
 |.tp _ a,.lst _,n,m,h,q=>rfl
 |.lst a,.non,n,m,h,q=>rfl
 |.lst a,.bl _,n,m,h,q=>rfl
 |.lst a,.int _,n,m,h,q=>rfl
 |.lst a,.str _,n,m,h,q=>rfl
 |.lst a,.tp _ _,n,m,h,q=>rfl
 |.loc k,w,n,m,h,q=>IU h AN
 |.fnc k,w,n,m,h,q=>IU h AN
 |.exn k,w,n,m,h,q=>IU h AN
 |.scr k,w,n,m,h,q=>IU h AN
 |v,.loc k,n,m,h,q=>IU q AN
 |v,.fnc k,n,m,h,q=>IU q AN
 |v,.exn k,n,m,h,q=>IU q AN
 |v,.scr k,n,m,h,q=>IU q AN
theorem zfw:∀(v w:IK PV) (n m:IL),yaU n v=AC->yaU m w=AC->HZ (ybW v) (ybW w)=ybJ v w
 |[],[],n,m,h,q=>rfl
 |[],y::a,n,m,h,q=>rfl
 |x::b,[],n,m,h,q=>rfl
 |x::b,y::a,n,m,h,q=>by have h:=BA.1 h;have q:=BA.1 q;show (EH (toD x) (toD y)&&HZ (ybW b) (ybW a))=(peq x y&&ybJ b a);rw[zfB x y n m h.1 q.1,zfw b a n m h.2 q.2]
end
section
variable {S:Se}{X:Cx}{D:St}{B:AJ->Prop}{C C1:Ph}{H H1:Hp}{st:SO}{E:IK (AJ×Bi)}{s:AK}
mutual
theorem zbf(I:Inv X E D H s):∀(v:PV) (n:IL) (x:V) (u:AG),shd n v=AC->yd X.K S.cl B C H v x->RelV x u->∃j,Reads s.heap u (toD v) j
 |.non,n,x,u,h,r,q=>by erw[yd]at r;subst r;cases (show u=Bt from q);exact#[_,.none]
 |.bl b,n,x,u,h,r,q=>by erw[yd]at r;subst r;cases (show u=Ds b from q);exact#[_,.bool b]
 |.int i,n,x,u,h,r,q=>by erw[yd]at r;subst r;let#[t,rfl]:=q;exact#[_,.int i t]
 |.str y,n,x,u,h,r,q=>by erw[yd]at r;subst r;let#[t,rfl]:=q;exact#[_,.str y t]
 |.tp _ m,n,x,u,h,r,q=>by
  erw[yd]at r;let#[a,p,rfl,w,l]:=r
  cases (show u=Ae a from q)
  erw[shd,AH]at h;let#[f,A,#[o,g,c,k,d],_]:=I.tuple w.sq;let#[j,z]:=zd1 I m (n-1) p f h.2 l A;exact#[j,.tuple g c d (by simpa using z)]
 |.lst m,n,x,u,h,r,q=>by
  erw[yd]at r;let#[a,p,rfl,w,l]:=r
  cases (show u=Ae a from q)
  erw[shd,AH]at h;let#[f,A,#[o,k,g,c,_,d],_]:=I.list (w.sq (K:=X.K));let#[j,z]:=zd1 I m (n-1) p f h.2 l A;exact#[_,.list g c d (by simpa using z)]
 |.loc k,n,x,u,h,r,q=>by simp[shd]at h
 |.fnc k,n,x,u,h,r,q=>by simp[shd]at h
 |.exn k,n,x,u,h,r,q=>by simp[shd]at h
 |.scr k,n,x,u,h,r,q=>by simp[shd]at h
theorem zd1(I:Inv X E D H s):∀(v:IK PV) (n:IL) (x:IK V) (u:IK AG),yaU n v=AC->yg X.K S.cl B C H v x->Vals x u->∃a,ReadsAll s.heap u (ybW v) a
 |[],n,x,u,h,r,q=>by erw[yg]at r;subst r;cases q;exact#[_,.nil]
 |v::b,n,x,u,h,r,q=>by
  erw[yg]at r;let#[y,c,rfl,d,l]:=r;erw[yaU,AH]at h
  cases q with
  |cons f g=>
   let#[a,j]:=zbf I v n y _ h.1 d f;let#[bs,m]:=zd1 I b n c _ h.2 l g;exact#[_,.cons j m]
end
def zrx(d:X.A.units+64<cLine):OpR X (compareOp .Eq) (rT2 S X (yp .eq)):=by
 rintro E s D H x y v u Q I f g ⟨B,C,st,a,b,z,j,l,m,e,q⟩
 erw[yp]at e;split at e
 .rename_i c;rw[AH]at c
  cases e
  let#[p,n]:=zbf (S:=S) I a 60 x v c.1 l f;let#[bs,o]:=zbf (S:=S) I b 60 y u c.2 m g;refine eq_dataH n o (zcf c.1) (zcf c.2) d #[.bl _,H,I,rfl,?_];rw[zfB a b 60 60 c.1 c.2];exact q _ H C .rfl j (by erw[yd])
 .cases e
def zq9(d:X.A.units+64<cLine):OpR X (compareOp .NotEq) (rT2 S X (yp .ne)):=by
 rintro E s D H x y v u Q I f g ⟨B,C,st,a,b,z,j,l,m,e,q⟩
 erw[yp]at e;split at e
 .rename_i c;rw[AH]at c
  cases e
  let#[p,n]:=zbf (S:=S) I a 60 x v c.1 l f;let#[bs,o]:=zbf (S:=S) I b 60 y u c.2 m g;refine ne_dataH n o (zcf c.1) (zcf c.2) d #[.bl _,H,I,rfl,?_];rw[zfB a b 60 60 c.1 c.2];exact q _ H C .rfl j (by erw[yd])
 .cases e
def zig{f o}{g:IM->IM->IQ}(h:OpR X f (rI0 λi j=>.bl (g i j)))
  (l:∀v w z,yp o v w=AA z->∃i j,v=.int i/\w=.int j/\z=.bl (g i j)):OpR X f (rT2 S X (yp o)):=by
 rintro E s D H x y v u Q I m n ⟨B,C,st,a,b,z,p,c,d,e,q⟩
 let#[i,j,rfl,rfl,rfl]:=l a b z e;erw[yd]at c d;subst c d;exact h E s D H _ _ v u Q I m n #[i,j,rfl,rfl,q _ H C .rfl p (by erw[yd])]
def ziZ:OpR X (compareOp .LtE) (λx y H Q=>∃i j,x=.str i/\y=.str j/\Q (.bl (!decide (j.cps.toList<i.cps.toList))) H):=by intro E s D H x y v u Q I a b h;let#[i,j,rfl,rfl,q]:=h;let#[t,rfl]:=a;let#[c,rfl]:=b;exact PySem.P.le_str (zg7 I q rfl)
def zrd:OpR X (compareOp .Lt) (rT2 S X (yp .lt)):=by
 rintro E s D H x y v u Q I f g ⟨B,C,st,a,b,z,l,c,d,e,q⟩
 erw[yp]at e;split at e
 .rename_i i j;erw[yd]at c d;subst c d
  cases e
  exact zrE E s D H _ _ v u Q I f g #[i,j,rfl,rfl,q _ H C .rfl l (by erw[yd])]
 .rename_i i j;erw[yd]at c d;subst c d
  cases e
  exact zjr E s D H _ _ v u Q I f g #[i,j,rfl,rfl,q _ H C .rfl l (by erw[yd])]
 .cases e
def zrn:OpR X (compareOp .LtE) (rT2 S X (yp .le)):=by
 rintro E s D H x y v u Q I f g ⟨B,C,st,a,b,z,l,c,d,e,q⟩
 erw[yp]at e;split at e
 .rename_i i j;erw[yd]at c d;subst c d
  cases e
  exact zq8 E s D H _ _ v u Q I f g #[i,j,rfl,rfl,q _ H C .rfl l (by erw[yd])]
 .rename_i i j;erw[yd]at c d;subst c d
  cases e
  exact ziZ E s D H _ _ v u Q I f g #[i,j,rfl,rfl,q _ H C .rfl l (by erw[yd])]
 .cases e
def zhm{o}{g:IM->IM->IQ}(c:∀v w,yp o v w=match v,w with
   |.int i,.int j=>ybQ o i j
   |.str a,.str b=>yeB o a b
   |_,_=>AD) (d:∀a b,yeB o a b=AD) (f:∀i j,ybQ o i j=AA (.bl (g i j))) (v w z:PV) (h:yp o v w=AA z):∃i j,v=.int i/\w=.int j/\z=.bl (g i j):=by
 rw[c]at h;split at h
 .rename_i i j;rw[f]at h;exact#[i,j,rfl,rfl,(AX h).symm]
 .rw[d]at h;cases h
 .cases h
def zrq:OpR X (compareOp .Gt) (rT2 S X (yp .gt)):=zig zrr (zhm (λ_ _=>rfl) (λ_ _=>rfl) λ_ _=>rfl)
def zrv:OpR X (compareOp .GtE) (rT2 S X (yp .ge)):=zig zrw (zhm (λ_ _=>rfl) (λ_ _=>rfl) λ_ _=>rfl)
theorem yd.flat{K:AF}{c:IL->AJ}{v:PV}{x:V}(r:yd K c B C H v x)(h:IC.flat v=AC):yax x=AC/\∀(w:PV) (y:V),IC.flat w=AC->yd K c B C H w y->eqV x y=peq v w:=by
 cases v with
 |non=>
  erw[yd]at r;subst r;refine#[rfl,λw y a rw=>?_]
  cases w<;>first|(simp[IC.flat]at a;done)|(erw[yd]at rw;subst rw;rfl)
 |bl b=>
  erw[yd]at r;subst r;refine#[rfl,λw y a rw=>?_]
  cases w<;>first|(simp[IC.flat]at a;done)|(erw[yd]at rw;subst rw;rfl)
 |int b=>
  erw[yd]at r;subst r;refine#[rfl,λw y a rw=>?_]
  cases w<;>first|(simp[IC.flat]at a;done)|(erw[yd]at rw;subst rw;rfl)
 |str b=>
  erw[yd]at r;subst r;refine#[rfl,λw y a rw=>?_]
  cases w<;>first|(simp[IC.flat]at a;done)|(erw[yd]at rw;subst rw;rfl)
 |_=>simp[IC.flat]at h
def zbg{K a v x}(r:yd K a B C H v x)(h:IC.flat v=AC):∀{vs}{xs:IK V},yg K a B C H vs xs->vs.all IC.flat=AC->xs.all yax=AC/\inV x xs=inL v vs
 |[],xs,l,_=>by erw[yg]at l;subst l;exact#[rfl,rfl]
 |w::vs,xs,l,f=>by erw[yg]at l;let#[y,j,rfl,rw,l]:=l;rw[BE,AH]at f;let#[c,b]:=zbg r h l f.2;let#[d,g]:=rw.flat f.1;refine#[by rw[BE,d,c];rfl,?_];unfold inV at b ⊢;rw[Az,b,g v x h r];rfl
end
def zil(a b):(!(DC b a 0 b.length 1).isEmpty)=inS a b:=by
 rw[Dj,StrLaws.found_iff];unfold inS;rw[DW];constructor
 .rintro⟨i,c,d⟩
  exact#[i,by rw[HB];lia,by rw[AH,IN];exact#[c,d]]
 .rintro⟨i,_,h⟩
  rw[AH,IN]at h;exact#[i,h.1,h.2]
section
variable {S:Se}{X:Cx}{C:St}{B:AJ->Prop}{A A1:Ph}{H H1:Hp}{st:SO}
def zq7:OpR X (compareOp .In) (rT2 S X (yp .isin)):=by
 rintro D s C H x y v u Q I g m ⟨B,A,st,a,b,z,n,d,f,e,q⟩
 erw[yp]at e;split at e
 .rename_i i j;erw[yd]at d f;subst d f
  cases e
  exact zjH D s C H _ _ v u Q I g m #[i,j,rfl,rfl,by rw[zil];exact q _ H A .rfl n (by erw[yd])]
 .rename_i l;split at e
  .rename_i c;rw[AH]at c
   cases e
   erw[yd]at f;let#[p,o,rfl,r,t]:=f;let#[w,E]:=zbg d c.1 t c.2;exact zfX D s C H _ _ v u Q I g m #[p,o,rfl,.inr r.sq,(d.flat c.1).1,w,q _ H A .rfl n (by erw[yd];rw[<-E];rfl)]
  .cases e
 .rename_i l;split at e
  .rename_i c;rw[AH]at c
   cases e
   erw[yd]at f;let#[p,o,rfl,r,t]:=f;let#[w,E]:=zbg d c.1 t c.2;exact zfX D s C H _ _ v u Q I g m #[p,o,rfl,.inl r.sq,(d.flat c.1).1,w,q _ H A .rfl n (by erw[yd];rw[<-E];rfl)]
  .cases e
 .cases e
def zkZ:OpR X (compareOp .NotIn) (rT2 S X (yp .notin)):=by
 rintro D s C H x y v u Q I g m ⟨B,A,st,a,b,z,n,d,f,e,q⟩
 erw[yp]at e;split at e
 .rename_i i j;erw[yd]at d f;subst d f
  cases e
  exact zgo D s C H _ _ v u Q I g m #[i,j,rfl,rfl,by rw[zil];exact q _ H A .rfl n (by erw[yd])]
 .rename_i l;split at e
  .rename_i c;rw[AH]at c
   cases e
   erw[yd]at f;let#[p,o,rfl,r,t]:=f;let#[w,E]:=zbg d c.1 t c.2;exact zdv D s C H _ _ v u Q I g m #[p,o,rfl,.inr r.sq,(d.flat c.1).1,w,q _ H A .rfl n (by erw[yd];rw[<-E];rfl)]
  .cases e
 .rename_i l;split at e
  .rename_i c;rw[AH]at c
   cases e
   erw[yd]at f;let#[p,o,rfl,r,t]:=f;let#[w,E]:=zbg d c.1 t c.2;exact zdv D s C H _ _ v u Q I g m #[p,o,rfl,.inl r.sq,(d.flat c.1).1,w,q _ H A .rfl n (by erw[yd];rw[<-E];rfl)]
  .cases e
 .cases e
theorem yg.empty{K:AF}{a:IL->AJ}{vs:IK PV}{xs:IK V}(l:yg K a B A H vs xs):vs.isEmpty=xs.isEmpty:=by
 have:=l.length
 cases vs<;>cases xs<;>simp_all
def zoc{K g v x k}(rs:yx K g B A H st)(r:yd K g B A H v x)(h:yaE st v=AA k):yeq K x H k:=by
 cases v with
 |non=>erw[yd]at r;subst r;cases h;rfl
 |bl b=>erw[yd]at r;subst r;cases h;rfl
 |int b=>erw[yd]at r;subst r;cases h;rfl
 |str b=>
  erw[yd]at r;subst r;erw[yaE]at h;split at h
  .rename_i c
   cases h
   exact#[by rw[<-zF];exact c,rfl]
  .cases h
 |tp k j=>
  erw[yd]at r;let#[a,d,rfl,f,l]:=r
  cases h
  exact .inr (.inl #[d,f.sq,by rw[l.empty]])
 |lst j=>
  erw[yd]at r;let#[a,d,rfl,f,l]:=r
  cases h
  exact .inl #[d,f.sq,by rw[l.empty]]
 |loc n=>
  erw[yd]at r;let#[y,a,rfl,t]:=r;erw[yaE]at h;split at h
  .rename_i j m
   cases h
   let#[b,p]:=rs.liv n _ m (by intro z;cases z);obtain rfl:=t b p;let#[o,q,u]:=rs.obj n b p;rw[m]at q;cases q;let#[d,w,l]:=u;exact .inl #[d,.of w,by rw[l.empty]]
  .cases h
 |fnc c=>cases h
 |exn c=>cases h
 |scr c=>cases h
end
theorem R.bind_assoc{A B J:Type}{r:R A}{k:A->SO->R B}{l:B->SO->R J}:(r.bind k).bind l=r.bind λa s=>(k a s).bind l:=by cases r<;>rfl
section
variable {S:Se}{X:Cx}{C:St}{B:AJ->Prop}{A A1:Ph}{H H1:Hp}{st:SO}{U:IC.Env}{pos:CB}{a b c d:AT}{ca cb cc:Ce}{es:IK AT}{ces:Ces}
def zfn{o}{v w z:PV}(h:yp o v w=AA z):∃k,z=.bl k:=by
 cases o<;>erw[yp]at h
 all_goals (repeat' split at h)<;>first|(cases h;done)|(cases h;exact#[_,rfl])|skip
 all_goals (erw[ybQ]at h;cases h;exact#[_,rfl])
def zo4{d o}(m:OpR X (compareOp d) (rT2 S X (yp o)))(n:PE X a (tE S X ca))(p:PE X b (tE S X cb))(q:behindInMarks d b=AB):PT X (.Compare a [d] [b] pos) (tTs S X (.cmp o ca cb)):=
 (zi1 m n p q).imp λC H Q #[B,A,st,U,r,t,h]=>by
  erw[ev,yaZ,R.bind_assoc]at h;refine tE.bind r t h λx H1 v u A1 O rs1 f D E=>tE.bind rs1 f E λy Y w g G I rs2 J rw c=>?_
  cases e:yp o v w with
  |none=>rw[e]at c;exact c.elim
  |some z=>
   let#[k,rfl]:=zfn e;rw[e]at c;refine#[B,G,g,v,w,.bl k,rs2,D.step I,rw,e,λZ L M N j l=>?_];erw[yd]at l;exact#[k,l,c k L M N j rfl]
def zq0(f:PE X a (tE S X ca))(g:∀b,isTrue a X.env b=(do let v <-b;standAt a.pos;holding [v] (truthy v)):=by intro _;rfl):PT X a (tTs S X ca):=
 (zlK f g).imp λC H Q #[B,A,st,U,j,l,h]=>by
  erw[yaZ]at h;refine tE.bind j l h λx H1 v d A1 o rs1 m n c=>?_
  cases e:yaE d v with
  |none=>rw[e]at c;exact c.elim
  |some k=>
   rw[e]at c;exact#[k,zoc rs1 n e,c.ok rs1 rfl]
theorem tTs.bind{J D:Type}{Hl:Ph->Hp->J->D->Prop}{k:IQ->SO->R J}{Q:D->Hp->Prop}{P:IQ->Hp->Prop}(rs:yx X.K S.cl B A H st)(c:yK X.K S.cl B A H U C)(h:Run S X C B A H Hl ((yaZ (ev S.call U st ca)).bind k) Q)
  (n:∀b H1 a A1,Step A H A1 H1->yx X.K S.cl B A1 H1 a->yK X.K S.cl B A1 H1 U C->Run S X C B A1 H1 Hl (k b a) Q->P b H1):tTs S X ca C H P:=
 #[B,A,st,U,rs,c,(Run.bind h).mono λx H1 #[v,a,A1,s,rs1,d,f]=>by subst d;exact n v H1 a A1 s rs1 (c.step s) f]
def zgy(r:R PV)(f:IQ->SO->R PV):yaZ (r.bind λx a=>onBl x λb=>f b a)=r.bind λx a=>onBl x λb=>yaZ (f b a):=by
 unfold yaZ;rw[R.bind_assoc]
 congr 1
 funext x a
 cases x<;>rfl
theorem Run.bl_tru{r:R PV}{k:IQ->SO->R IQ}{Q:IQ->Hp->Prop}(h:Run S X C B A H RB (r.bind λx a=>onBl x λb=>k b a) Q):Run S X C B A H RB ((yaZ r).bind k) Q:=by
 cases r with
 |bad=>exact h
 |exc c s=>exact h
 |ok v s=>
  cases v with
  |bl b=>exact h
  |_=>exact h.elim
def zpb(d:PT X a (tTs S X ca)):PT X (.UnaryOp .Not a pos) (tTs S X (.not ca)):=
 (zqA d).imp λC H Q #[B,A,st,U,f,g,h]=>by erw[ev]at h;rw[zgy _ λk c=>.ok (.bl (!k)) c]at h;exact tTs.bind f g (Run.bl_tru (k:=λb c=>.ok (!b) c) h) λb H1 c A1 m rs1 j l=>l.ok rs1 rfl
variable {rest:IK AT}
def zmE(b:PT X a (tTs S X ca)):PW X (.BoolOp .And [a] pos) (tTs S X ca):=zm6 b
def zqN(b:PT X a (tTs S X ca)):PW X (.BoolOp .Or [a] pos) (tTs S X ca):=zpF b
def zqm(g:PT X a (tTs S X ca))(j:PW X (.BoolOp .And (b::rest) pos) (tTs S X cb)):PW X (.BoolOp .And (a::b::rest) pos) (tTs S X (.and ca cb)):=
 (zp3 g j).imp λC H Q #[B,A,st,U,l,m,h]=>by
  erw[ev]at h;rw[zgy _ λk c=>cond k (ev S.call U c cb) (.ok (.bl AB) c)]at h;refine tTs.bind l m (Run.bl_tru h) λk H1 c A1 n rs1 d f=>?_
  cases k with
  |false=>exact f.ok rs1 rfl
  |true=>exact#[B,A1,c,U,rs1,d,f]
def zrC(g:PT X a (tTs S X ca))(j:PW X (.BoolOp .Or (b::rest) pos) (tTs S X cb)):PW X (.BoolOp .Or (a::b::rest) pos) (tTs S X (.or ca cb)):=
 (zrs g j).imp λC H Q #[B,A,st,U,l,m,h]=>by
  erw[ev]at h;rw[zgy _ λk c=>cond k (.ok (.bl AC) c) (ev S.call U c cb)]at h;refine tTs.bind l m (Run.bl_tru h) λk H1 c A1 n rs1 d f=>?_
  cases k with
  |true=>exact f.ok rs1 rfl
  |false=>exact#[B,A1,c,U,rs1,d,f]
def zma{b}(h:PE X a (tE S X ca)):PE X (.BoolOp b [a] pos) (tE S X ca):=zp4 h
def zmg(j:PE X a (tE S X ca))(l:PE X (.BoolOp .And (b::rest) pos) (tE S X cb)):PE X (.BoolOp .And (a::b::rest) pos) (tE S X (.and ca cb)):=
 (zpg j l).imp λC H Q #[B,A,st,U,m,n,h]=>by
  erw[ev]at h;refine tE.bind m n h λx H1 v c A1 o rs1 d g f=>?_
  cases v with
  |bl k=>
   erw[yd]at g;refine#[k,g,?_]
   cases k with
   |true=>exact#[B,A1,c,U,rs1,d,f]
   |false=>exact f.ok rs1 (by erw[yd])
  |_=>exact f.elim
def zpk(j:PE X a (tE S X ca))(l:PE X (.BoolOp .Or (b::rest) pos) (tE S X cb)):PE X (.BoolOp .Or (a::b::rest) pos) (tE S X (.or ca cb)):=
 (zre j l).imp λC H Q #[B,A,st,U,m,n,h]=>by
  erw[ev]at h;refine tE.bind m n h λx H1 v c A1 o rs1 d g f=>?_
  cases v with
  |bl k=>
   erw[yd]at g;refine#[k,g,?_]
   cases k with
   |false=>exact#[B,A1,c,U,rs1,d,f]
   |true=>exact f.ok rs1 (by erw[yd])
  |_=>exact f.elim
def zqH(d:PE X a (tE S X ca)):PE X (.UnaryOp .Not a pos) (tE S X (.not ca)):=
 (zqw d).imp λC H Q #[B,A,st,U,f,g,h]=>by
  erw[ev]at h;refine tE.bind f g h λx H1 v j A1 m rs1 l b c=>?_
  cases v with
  |bl k=>
   erw[yd]at b;exact#[k,b,c.ok rs1 (by erw[yd])]
  |_=>exact c.elim
def zpe(d:PE X a (tE S X ca)):PE X (.UnaryOp .USub a pos) (tE S X (.neg ca)):=
 (zrp zpp d).imp λC H Q #[B,A,st,U,f,g,h]=>by
  erw[ev]at h;refine tE.bind f g h λx H1 v j A1 m rs1 l c b=>?_;split at b
  .simp only[yd]at c;exact#[_,c,b.ok rs1 (by erw[yd])]
  .exact b.elim
def zph(j:PT X c (tTs S X cc))(l:PE X a (tE S X ca))(m:PE X b (tE S X cb)):PE X (.IfExp c a b pos) (tE S X (.ite cc ca cb)):=
 (zlC j l m).imp λC H Q #[B,A,st,U,n,o,h]=>by
  erw[ev]at h;have e:((ev S.call U st cc).bind λx d=>onO (yaE d x) λk=>cond k (ev S.call U d ca) (ev S.call U d cb))=(yaZ (ev S.call U st cc)).bind λk d=>cond k (ev S.call U d ca) (ev S.call U d cb):=by
   unfold yaZ;rw[R.bind_assoc]
   congr 1
   funext x d
   cases yaE d x<;>rfl
  rw[e]at h;refine tTs.bind n o h λk H1 d A1 p rs1 f g=>?_
  cases k with
  |true=>exact#[B,A1,d,U,rs1,f,g]
  |false=>exact#[B,A1,d,U,rs1,f,g]
def zeI:PA X [] (tAs S X .nil):=zrH.imp λC H Q #[B,A,st,U,a,b,h]=>by erw[IC.vsq0,IC.vsq1]at h;exact h.ok a (by erw[yg])
def zcD(d:PE X a (tE S X ca))(f:PA X es (tAs S X ces))(g:starEach (a::es) X.env=(AB,eval a X.env)::starEach es X.env:=by rfl):PA X (a::es) (tAs S X (.cons ca ces)):=
 (zav d f g).imp λC H Q #[B,A,st,U,j,l,h]=>by erw[IC.vsq0,IC.vsq1]at h;refine tE.bind j l h λx H1 v m A1 w rs1 b n o=>tAs.bind rs1 b o λp y z q D r rs2 t c u=>?_;refine u.ok rs2 ?_;erw[yg];exact#[x,p,rfl,n.step r,c]
def zoU{k:IL}(h:PA X es (tAs S X ces)):PE X (.Tuple es k pos) (tE S X (.tup ces)):=
 (zmj h).imp λC H Q #[B,A,st,U,f,g,h]=>by
  erw[ev]at h;refine tAs.bind f g h λm H1 n j A1 o rs1 l d a=>?_;split at a
  .rename_i c;refine#[by rw[<-zF,<-d.length];exact c,λp b=>a _ _ A1 (.upd b) (rs1.upd b) (.tup_new b rs1 d)]
  .exact a.elim
def zps(h:PA X es (tAs S X ces)):PE X (.List es pos) (tE S X (.lst ces)):=
 (zl5 h).imp λC H Q #[B,A,st,U,f,g,h]=>by
  erw[ev]at h;refine tAs.bind f g h λm H1 n j A1 o rs1 l d a=>?_;split at a
  .rename_i c;refine#[by rw[<-zF,<-d.length];exact c,λp b=>a _ _ A1 (.upd b) (rs1.upd b) (.lst_new b rs1 d)]
  .exact a.elim
theorem Step.push{p:AJ}{o:HO}(c:H p=AD):Step A H (A++[AA p]) (L2.upd H p o):=by
 refine#[λb u n e=>by rw[zj (zo e c)];exact e,by simp,λn a d e=>?_,λb h=>?_]
 .rw[A5 d]at e;exact e
 .rw[BG]at h;rcases h with h|h
  .exact .inl h
  .have:b=p:=by simpa using h
   subst this;exact .inr c
theorem yx.push{K:AF}{f:IL->AJ}{p:AJ}{u:HO}{o:Ob}(rs:yx K f B A H st)(g:H p=AD)(x:¬B p)(y:ycm K f B (A++[AA p]) (L2.upd H p u) o p):yx K f B (A++[AA p]) (L2.upd H p u) (st++[o]):=by
 have s:Step A H (A++[AA p]) (L2.upd H p u):=.push g;have j:AA p∉A:=λz=>by let#[w,e]:=rs.there z;rw[g]at e;cases e
 have C:A.length=st.length:=rs.len;refine#[by simp[C],λm n a c b=>?_,λn a e=>?_,λn l e t=>?_,λa h=>?_,λa h=>?_]
 .by_cases D:m<A.length
  .rw[A5 D]at c
   by_cases d:n<A.length
   .rw[A5 d]at b;exact rs.inj m n a c b
   .rw[Ad ()]at b;have:a=p:=by
     cases q:n-A.length with
     |zero=>rw[q]at b;simpa using b.symm
     |succ k=>rw[q]at b;simp at b
    subst this;exact IU (AZ c) j
  .rw[Ad ()]at c;have:m-A.length=0/\a=p:=by
    cases q:m-A.length with
    |zero=>rw[q]at c;exact#[rfl,by simpa using c.symm]
    |succ k=>rw[q]at c;simp at c
   let#[E,rfl]:=this
   by_cases d:n<A.length
   .rw[A5 d]at b;exact IU (AZ b) j
   .rw[Ad ()]at b;have:n-A.length=0:=by
     cases q:n-A.length with
     |zero=>rfl
     |succ k=>rw[q]at b;simp at b
    lia
 .by_cases d:n<A.length
  .rw[A5 d]at e;let#[l,q,r]:=rs.obj n a e;refine#[l,by rw[A5 ()];exact q,r.step s ?_];rw[zj]
   rintro rfl
   exact j (AZ e)
  .rw[Ad ()]at e;have:n-A.length=0/\a=p:=by
    cases q:n-A.length with
    |zero=>rw[q]at e;exact#[rfl,by simpa using e.symm]
    |succ k=>rw[q]at e;simp at e
   let#[E,rfl]:=this;refine#[o,?_,y];rw[Ad ()];have:n-st.length=0:=()
   rw[this];rfl
 .by_cases d:n<A.length
  .rw[A5 ()]at e;let#[a,q]:=rs.liv n l e t;exact#[a,by rw[A5 d];exact q]
  .rw[Ad ()]at e;have:n-st.length=0:=by
    cases q:n-st.length with
    |zero=>rfl
    |succ k=>rw[q]at e;simp at e
   refine#[p,?_];rw[Ad ()];have:n-A.length=0:=()
   rw[this];rfl
 .rw[BG]at h;rcases h with h|h
  .exact rs.nb a h
  .have:a=p:=by simpa using h
   subst this;exact x
 .let#[w,e]:=rs.dom a h;exact#[w,by rw[zj (zo e g)];exact e]
theorem yx.nB{K:AF}{a:IL->AJ}{p:AJ}(rs:yx K a B A H st)(b:H p=AD):¬B p:=λz=>by let#[o,e]:=rs.dom p z;rw[b]at e;cases e
theorem yd.loc_new{K:AF}{a:IL->AJ}{p:AJ}(rs:yx K a B A H st):yd K a B (A++[AA p]) H1 (.loc st.length) (.ref p):=by
 erw[yd];have c:=rs.len;refine#[by simp[c],p,rfl,λb e=>?_];rw[Ad ()]at e;have:st.length-A.length=0:=()
 rw[this]at e;simpa using e.symm
def zmF(h:PA X es (tAs S X ces)):PE X (.List es pos) (tE S X (.newl ces)):=
 (zl5 h).imp λC H Q #[B,A,st,U,f,g,h]=>by
  erw[ev]at h;refine tAs.bind f g h λj H1 n l A1 o rs1 m d b=>?_;split at b
  .rename_i c;refine#[by rw[<-zF,<-d.length];exact c,λp a=>b _ _ (A1++[AA p]) (.push a) (rs1.push a (rs1.nB a) #[j,zx,d.step (.push a)]) (.loc_new rs1)]
  .exact b.elim
end
section
variable {S:Se}{X:Cx}{C:St}{B:AJ->Prop}{G G1:Ph}{H H1:Hp}{st:SO}{U:IC.Env}{pos p2:CB}{a b c d:AT}{ca cb cc:Ce}{es:IK AT}{ces:Ces}{K:AF}{cl:IL->AJ}
def ziP{o:COp}{v w:PV}{J L:Type}{Rel:Ph->Hp->J->L->Prop}{k:IQ->R J}{Q:L->Hp->Prop}(h:Run S X C B G H Rel (onO (blO (yp o v w)) k) Q):∃b,yp o v w=AA (.bl b)/\Run S X C B G H Rel (k b) Q:=by
 cases e:yp o v w with
 |none=>rw[e]at h;exact h.elim
 |some z=>
  let#[b,rfl]:=zfn e;rw[e]at h;exact#[b,rfl,h]
def zkF{l d o p}(E:OpR X (compareOp l) (rT2 S X (yp o)))(m:OpR X (compareOp d) (rT2 S X (yp p)))(I:PE X a (tE S X ca))(J:PE X b (tE S X cb))(L:PE X c (tE S X cc))
  (M:lastMarks [l,d] [b,c]=false:=by ac_rfl):PE X (.Compare a [l,d] [b,c] pos) (tE S X (.chain o p ca cb cc)):=
 (zlc E m I J L M).imp λC H Q #[B,G,st,U,N,O,h]=>by
  erw[ev]at h;refine tE.bind N O h λx H1 v Y G1 s1 rs1 n Z h1=>tE.bind rs1 n h1 λy H2 w r G2 s2 rs2 t rw g=>?_;let#[k,e,g]:=ziP g;refine#[B,G2,r,v,w,.bl k,rs2,Z.step s2,rw,e,λz' H' G' j f D=>?_];erw[yd]at D;refine#[k,D,?_]
  cases k with
  |false=>exact g _ H' G' j f (by erw[yd])
  |true=>
   refine tE.bind f (t.step j) (Run.on j g) λz H3 v3 u G3 s3 rs3 re3 A h3=>?_;let#[q,eq,hq]:=zar h3 rs3;exact#[B,G3,u,w,v3,q,rs3,(rw.step j).step s3,A,eq,hq]
def zkE{u f o p}(N:OpR X (compareOp u) (rT2 S X (yp o)))(A:OpR X (compareOp f) (rT2 S X (yp p)))(O:PE X a (tE S X ca))(Y:PE X b (tE S X cb))(Z:PE X c (tE S X cc))
  (hm:lastMarks [u,f] [b,c]=false:=by ac_rfl):PT X (.Compare a [u,f] [b,c] pos) (tTs S X (.chain o p ca cb cc)):=
 (zk8 N A O Y Z hm).imp λC H Q #[B,G,st,U,rs,re,h]=>by
  erw[ev,yaZ,R.bind_assoc]at h;refine tE.bind rs re h λx H1 v st1 G1 s1 rs1 D rv h1=>tE.bind rs1 D h1 λy H2 w g G2 s2 rs2 E rw d=>?_;have I:Run S X C B G2 H2 RB (onO (blO (yp o v w)) λk=>cond k ((ev S.call U g cc).bind λz j=>(toR (yp p w z) j).bind λx st=>onO (yaE st x) λb=>.ok b st) (.ok AB g)) Q:=by
   cases e:yp o v w with
   |none=>rw[e]at d;exact d
   |some z=>
    let#[b,rfl]:=zfn e;rw[e]at d
    cases b with
    |false=>exact d
    |true=>
     erw[blO,onO,Il,R.bind_assoc]at d ⊢;exact d
  let#[k,e,d]:=ziP I;refine#[B,G2,g,v,w,.bl k,rs2,rv.step s2,rw,e,λz' H' G' n l L=>?_];erw[yd]at L;refine#[k,L,?_]
  cases k with
  |false=>exact#[AB,rfl,d _ H' G' n l rfl]
  |true=>
   refine tE.bind l (E.step n) (Run.on n d) λz H3 M j G3 s3 rs3 re3 J r=>?_
   cases t:yp p w M with
   |none=>rw[t]at r;exact r.elim
   |some q=>
    let#[b,rfl]:=zfn t;rw[t]at r;refine#[B,G3,j,w,M,.bl b,rs3,(rw.step n).step s3,J,t,λz2 H4 G4 s4 rs4 m=>?_];erw[yd]at m;exact#[b,m,r b H4 G4 s4 rs4 rfl]
theorem yg.at{vs:IK PV}{xs:IK V}{i:IM}{v:PV}(l:yg K cl B G H vs xs)(h:at? vs i=AA v):∃x,atI xs i=AA x/\yd K cl B G H v x:=by
 unfold at? at h;rw[l.length]at h;unfold atI
 cases e:ixI xs.length i with
 |none=>rw[e]at h;cases h
 |some j=>
  rw[e]at h;have a:ixN xs.length i=AA j:=e;rw[a];exact l.get j h
theorem yx.list{n:IL}{vs:IK PV}{x:V}(rs:yx K cl B G H st)(r:yd K cl B G H (.loc n) x)(h:st[n]?=AA (.lst vs)):∃a c,x=.ref a/\G[n]?=AA (AA a)/\H a=AA (.lst c)/\yg K cl B G H vs c:=by erw[yd]at r;let#[p,a,rfl,g]:=r;let#[b,d]:=rs.liv n _ h (by intro z;cases z);obtain rfl:=g b d;let#[o,f,j]:=rs.obj n b d;rw[h]at f;cases f;let#[c,m,l]:=j;exact#[b,c,rfl,d,m,l]
def rTS(S:Se)(X:Cx)(f:SO->PV->PV->Option PV):R2:=λx y H Q=>∃B G st v w z,yx X.K S.cl B G H st/\yd X.K S.cl B G H v x/\yd X.K S.cl B G H w y/\f st v w=AA z /\
 ∀c a b,Step G H b a->yx X.K S.cl B b a st->yd X.K S.cl B b a z c->Q c a
def zdJ{J}{xs:IK J}{i:PV}{z:J}(h:yaV xs i=AA z):∃k,i=.int k/\at? xs k=AA z:=by
 cases i with
 |int k=>exact#[k,rfl,h]
 |_=>cases h
def znR:IxR X (rTS S X idxV):=by
 rintro b d D s C H x y v u Q I r A ⟨B,G,st,a,i,z,m,j,g,e,q⟩ E
 cases a with
 |tp k L=>
  let#[k,rfl,e]:=zdJ e;erw[yd]at j g;subst g;let#[p,o,rfl,J,l]:=j;let#[w,f,rw]:=l.at e;exact zhu b d D s C H _ _ v u Q I r A (.inr (.inl #[p,o,k,w,rfl,rfl,J.sq,f,q w H G .rfl m rw])) E
 |lst L=>
  let#[k,rfl,e]:=zdJ e;erw[yd]at j g;subst g;let#[p,o,rfl,J,l]:=j;let#[w,f,rw]:=l.at e;exact zhu b d D s C H _ _ v u Q I r A (.inl #[p,o,k,w,rfl,rfl,J.sq,f,q w H G .rfl m rw]) E
 |loc n=>
  erw[idxV]at e;split at e
  .rename_i L M;let#[k,rfl,e]:=zdJ e;erw[yd]at g;subst g;let#[p,o,rfl,_,N,l]:=m.list j M;let#[w,f,rw]:=l.at e;exact zhu b d D s C H _ _ v u Q I r A (.inl #[p,o,k,w,rfl,rfl,.of N,f,q w H G .rfl m rw]) E
  .cases e
 |str t=>
  erw[idxV]at e;split at e
  .rename_i O
   cases f:yaV t.cps.toList i with
   |none=>rw[f]at e;cases e
   |some c=>
    rw[f]at e
    cases e
    let#[k,rfl,f]:=zdJ f;erw[yd]at j g;subst j g;exact zhu b d D s C H _ _ v u Q I r A (.inr (.inr #[t,k,c,rfl,rfl,by rw[<-zF];exact O,f,q _ H G .rfl m (by erw[yd])])) E
  .cases e
 |_=>cases e
def zoN(f:PE X a (tE S X ca))(g:PE X b (tE S X cb))(j:ybo b:=by exact λ_ _=>rfl):PE X (.Subscript a b pos) (tE S X (.idx ca cb)):=
 (zrf znR f g j).imp λC H Q #[B,G,st,U,l,m,h]=>by erw[ev]at h;refine tE.bind l m h λx H1 v n G1 A rs1 c o p=>tE.bind rs1 c p λy D w d G2 r rs2 t rw u=>?_;let#[z,e,q]:=zar u rs2;exact#[B,G2,d,v,w,z,rs2,o.step r,rw,e,q]
theorem yg.cut{vs:IK PV}{xs:IK V}(lo a:Option IM)(l:yg K cl B G H vs xs):yg K cl B G H (IC.cut vs lo a) (ycx xs lo a):=by
 have b:∀n o,ycH n o=HT.sIx n 0 o:=λn o=>by cases o<;>rfl
 have c:∀n o,ydd n o=HT.sIx n n o:=λn o=>by cases o<;>rfl
 unfold IC.cut ycx;rw[l.length,b,c];exact(l.drop _).take _
def tO(S:Se)(X:Cx)(c:Ce):TO:=λC H Q=>tE S X c C H λx H1=>(x=.non/\Q AD H1) \/ ∃i,x=.int i/\Q (AA i) H1
def zov:PO X AD (tO S X (.cst .non)):=λD s C H Q I h=>by
 refine zm9 D s C H Q I ?_;let#[B,G,st,U,a,b,h]:=h;erw[ev]at h;rcases h.ok a (x:=V.non) (by erw[yd])with q|⟨i,z,_⟩
 .exact q.2
 .cases z
def znw(d:PE X a (tE S X ca)):PO X (AA a) (tO S X ca):=by
 intro D s C H Q I f;rw[evalPart_some];refine thn (d D s C H _ I f) λu l g=>?_;let#[x,H1,b,c,j]:=g;rcases j with⟨rfl,q⟩|⟨i,rfl,q⟩
 .cases c
  exact#[AD,H1,b,.none,q]
 .let#[t,rfl]:=c;exact#[AA i,H1,b,.int i t,q]
def rSl(S:Se)(X:Cx):V->Option IM->Option IM->Hp->VK->Prop:=λx lo d H Q=>∃B G st v z,yx X.K S.cl B G H st/\yd X.K S.cl B G H v x/\ybO v lo d=AA z /\
 ∀c a b,Step G H b a->yx X.K S.cl B b a st->yd X.K S.cl B b a z c->Q c a
def zcH{prog w A E}{s:AK}{t sl items j l lo c}{Q:AG->AK->Prop}(a:HA s.heap t items)(m:s.heap.IsSliceOf sl j l .none)(pl:FE j lo)(o:FE l c)
  (n:HT.sIx items.size 0 lo=0/\HT.sIx items.size items.size c=items.size)
  (h:Q (.ref t) s):A6 (model prog w) A (getItem (.ref t) (.ref sl)) Q E s:=by
 let#[os,d,f,p]:=id m;have g:s.TypeIs (.ref sl) "slice":=#[os,d,f];unfold getItem
 try with_reducible refine D1 ?_
 first|refine AI (AV ?_)|skip
 refine AI (GX a.typeIs ⋯ ?_);refine AI (Bb (name:=AE "__getitem__") a.typeIs BB
  (C1 BB a.typeIs Fj ?_ (GI _ _)))
 show A6 _ _ (EC (.ref t) >>= _) _ _ s;refine AI (Fd a ?_);refine AI (GY g ?_);rw[IR ⋯];refine AI (HT.sliceApplied_gen m pl o ?_);have b:(((HT.sIx items.size 0 lo:IL):IM)==0&&(1:IM)==1&&(HT.sIx items.size items.size c-HT.sIx items.size 0 lo)==items.size)=true:=by rw[n.1,n.2];simp
 show A6 _ _ (if (((HT.sIx items.size 0 lo:IL):IM)==0&&(1:IM)==1&&(HT.sIx items.size items.size c-HT.sIx items.size 0 lo)==items.size)=AC then _ else _) _ _ s;rw[IR b];refine AI (AI (GY a.typeIs (AV ?_)));rw[IR ⋯]
 first
  |exact AI (AV (AV #[_,rfl,AV h]))
  |exact AI (FA (AV #[_,rfl,AV h]))
  |(wp_step;wp_step;exact#[_,rfl,AV h])
def ygH(K:AF):V->Option IM->Option IM->Hp->VK->Prop:=λx lo c H Q=>∃a b,x=.ref a/\SqT K H a b /\
 (HT.sIx b.length 0 lo=0/\HT.sIx b.length b.length c=b.length)/\Q (.ref a) H
def zk1:SlR X (ygH X.K):=by
 intro D s C H x v p t lo u w Q I f g j l h;let#[a,m,rfl,n,o,q]:=h
 cases f
 let#[c,r,d,y]:=I.tuple n;have b:c.toArray.size=m.length:=by rw[AW];exact r.length.symm
 refine#["tuple",_,BB.lookup,d.typeIs,?_];exact zcH d g j l (by rw[b];exact o) #[.ref a,H,I,rfl,q]
def yhN:V->Option IM->Option IM->Hp->VK->Prop:=λx lo a H Q=>∃y:AL,x=.str y/\y.length<=sizeLine/\Q (.str #[((y.cps.toList.drop (HT.sIx y.cps.toList.length 0 lo)).take (HT.sIx y.cps.toList.length y.cps.toList.length a-HT.sIx y.cps.toList.length 0 lo)).toArray]) H
def zss(lo a)(n:IL):Dp lo a 1 n=sliceRange ((HT.sIx n 0 lo:IL):IM) ((HT.sIx n n a:IL):IM) 1:=by
 unfold Dp;erw[show (1:IM) > 0 by decide,IV]
 congr 1
 .cases lo with
  |none=>simp[HT.sIx]
  |some i=>
   erw[HT.sIx]
   by_cases h:i<0
   .simp only[h,IV]<;>lia
   .simp only[h,Ib]<;>lia
 .cases a with
  |none=>simp[HT.sIx]
  |some i=>
   erw[HT.sIx]
   by_cases h:i<0
   .simp only[h,IV]<;>lia
   .simp only[h,Ib]<;>lia
def ziE(y)(lo d:Option IM):Txt.slice y lo d=#[((y.cps.toList.drop (HT.sIx y.cps.toList.length 0 lo)).take (HT.sIx y.cps.toList.length y.cps.toList.length d-HT.sIx y.cps.toList.length 0 lo)).toArray]:=by
 have f:y.length=y.cps.toList.length:=by simp[ED]
 unfold Txt.slice;rw[zss,f,sliceRange_one];have g:=HT.sIx_le y.cps.toList.length 0 (D6 _) lo;have j:=HT.sIx_le y.cps.toList.length y.cps.toList.length (AQ _) d;generalize HT.sIx y.cps.toList.length 0 lo=a,HT.sIx y.cps.toList.length y.cps.toList.length d=b at *;split
 .rename_i c;erw[Aq,IK.length_range,AH,Ig]at c;obtain⟨rfl,rfl⟩:a=0/\b=y.cps.toList.length:=()
  rw[HJ,IL.sub_zero,Gg]
 .rw[pick_run]
def zn7:SlR X yhN:=by
 intro D s C H x v c d lo f g Q I m n o a h;let#[y,rfl,p,q]:=h;let#[t,rfl]:=m;rw[<-ziE]at q;refine#["str",_,PySem.F.slot_str_getitem.lookup,HF _ _ _,?_];have go:∀l u:Option (IM×IA),c=partValue l->d=partValue u->lo=l.map (·.1)->f=u.map (·.1)->A6 (model X.prog X.w) X.A (getItem (.str y t) (.ref g)) (EP X D C Q) X.xe s:=by
  rintro l u rfl rfl rfl rfl
  refine wpAny_getItem_str_slice (l:=l) (u:=u) (st:=AD) n rfl ?_;exact post_val_or_str #[As (Txt.slice_le y _ _) p,λr k=>#[.str _,H,I.tok k,#[_,rfl],q]]
 cases o with
 |none=>
  cases a with
  |none=>exact go AD AD rfl rfl rfl rfl
  |int j u=>exact go AD (AA (j,u)) rfl rfl rfl rfl
 |int i b=>
  cases a with
  |none=>exact go (AA (i,b)) AD rfl rfl rfl rfl
  |int j u=>exact go (AA (i,b)) (AA (j,u)) rfl rfl rfl rfl
def zmL:SlR X (rSl S X):=by
 rintro D s C H x v g j lo b m Q I r u A E ⟨B,G,st,w,z,d,rw,e,q⟩
 have J:∀n o,ycH n o=HT.sIx n 0 o:=λn o=>by cases o<;>rfl
 have L:∀n o,ydd n o=HT.sIx n n o:=λn o=>by cases o<;>rfl
 cases w with
 |tp k N=>
  erw[ybO]at e;split at e
  .rename_i c
   cases e
   have M:=rw;erw[yd]at rw;let#[p,f,rfl,rt,l]:=rw;refine zk1 D s C H _ v g j lo b m Q I r u A E #[p,f,rfl,rt.sq,?_,q _ H G .rfl d M];rw[l.length,J,L]at c;exact c
  .rename_i c
   cases e
   erw[yd]at rw;let#[p,f,rfl,rt,l]:=rw;refine zpH D s C H _ v g j lo b m Q I r u A E #[p,f,rfl,rt.sq,?_,λt a=>q _ _ G (.upd a) (d.upd a) (.tup_new a d (l.cut lo b))];rw[l.length,J,L]at c;exact c
 |str y=>
  erw[ybO]at e;split at e
  .rename_i c
   cases e
   erw[yd]at rw;subst rw;refine zn7 D s C H _ v g j lo b m Q I r u A E #[y,rfl,by rw[<-zF];exact c,?_];have:=q (.str #[(cut y.cps.toList lo b).toArray]) H G .rfl d (by erw[yd]);rw[cut,J,L]at this;exact this
  .cases e
 |lst N=>
  erw[ybO]at e
  cases e
  erw[yd]at rw;let#[p,f,rfl,rt,l]:=rw;exact zit D s C H _ v g j lo b m Q I r u A E #[p,f,rfl,rt.sq,λt a=>q _ _ G (.upd a) (d.upd a) (.lst_new a d (l.cut lo b))]
 |scr N=>
  erw[ybO]at e
  cases e
  erw[yd]at rw;let#[p,f,rfl,rt,l]:=rw;exact zit D s C H _ v g j lo b m Q I r u A E #[p,f,rfl,(by rcases rt with rt|rt;exact .inl rt.1;exact .inr rt),λt a=>q _ _ G (.upd a) (d.upd a) (.lst_new a d (l.cut lo b))]
 |_=>cases e
def zpu{lo t}(E:PE X a (tE S X ca))(I:PO X lo (tO S X cb))(J:PO X t (tO S X cc)):PE X (.Subscript a (.Slice lo t AD p2) pos) (tE S X (.slc ca cb cc)):=
 (zks zmL E I J).imp λC H Q #[B,G,st,U,L,M,h]=>by
  erw[ev]at h;have A:∀{v:PV} {x:V} {o:Option IM} {B G H},yd X.K S.cl B G H v x->ybX v=AA o->(x=.non/\o=AD) \/ ∃i,x=.int i/\o=AA i:=λ{v x o B G H} r e=>by
   cases v with
   |non=>erw[yd]at r;cases e;exact .inl #[r,rfl]
   |int i=>erw[yd]at r;cases e;exact .inr #[i,r,rfl]
   |_=>cases e
  refine tE.bind L M h λx H1 v N G1 s1 rs1 g O Y=>tE.bind rs1 g Y λy Z w st2 G2 s2 rs2 j rw f=>?_
  cases l:ybX w with
  |none=>rw[l]at f;exact f.elim
  |some D=>
   rw[l]at f;have c:tO S X cc C Z λu m=>rSl S X x D u m Q:=by
    refine tE.bind rs2 j f λy' m w' n G3 s3 rs3 re3 p h3=>?_;let#[z,e,q]:=zar h3 rs3;unfold yck at e
    cases b:ybX w' with
    |none=>rw[b]at e;cases e
    |some o2=>
     rw[b]at e;have d:rSl S X x D o2 m Q:=#[B,G3,n,v,z,rs3,(O.step s2).step s3,e,q];rcases A p b with⟨rfl,rfl⟩|⟨i,rfl,rfl⟩
     .exact .inl #[rfl,d]
     .exact .inr #[i,rfl,d]
   rcases A rw l with⟨rfl,rfl⟩|⟨i,rfl,rfl⟩
   .exact .inl #[rfl,c]
   .exact .inr #[i,rfl,c]
end
section
variable {S:Se}{X:Cx}{C:St}{B:AJ->Prop}{A A1:Ph}{H H1:Hp}{st:SO}{U:IC.Env}{p pos p2:CB}{a b c d:AT}{ca cb cc:Ce}{es:IK AT}{ces:Ces}{K:AF}{cl:IL->AJ}
def rB(S:Se)(X:Cx)(k:Blt):IK V->Hp->VK->Prop:=λf H Q=>∃B A st c z,yx X.K S.cl B A H st/\yg X.K S.cl B A H c f/\yaj k st c=AA z /\
 ∀d a b,Step A H b a->yx X.K S.cl B b a st->yd X.K S.cl B b a z d->Q d a
theorem yg.one{v:PV}{xs:IK V}(l:yg K cl B A H [v] xs):∃x,xs=[x]/\yd K cl B A H v x:=by erw[yg]at l;let#[y,a,rfl,r,rfl]:=l;exact#[y,rfl,r]
theorem yg.two{v w:PV}{xs:IK V}(l:yg K cl B A H [v,w] xs):∃x y,xs=[x,y]/\yd K cl B A H v x/\yd K cl B A H w y:=by erw[yg]at l;let#[y,b,rfl,r,z,c,rfl,a,rfl]:=l;exact#[y,z,rfl,r,a]
def zcA{k st}{vs:IK PV}{z}(h:yaj k st vs=AA z)(a:∀x y,yaj k st [x,y]=AD):∃x,vs=[x]:=by
 match vs,h with
 |[x],_=>exact#[x,rfl]
 |[x,y],h=>rw[a]at h;cases h
def zct{v x vs}(rs:yx K cl B A H st)(r:yd K cl B A H v x)(h:yM st v=AA vs):∃a b,x=.ref a/\SqL K H a b/\yg K cl B A H vs b:=by
 cases v with
 |lst c=>
  cases h
  erw[yd]at r;let#[a,b,rfl,d,l]:=r;exact#[a,b,rfl,d.sq,l]
 |loc n=>
  erw[yM]at h;split at h
  .rename_i c f
   cases h
   let#[a,b,rfl,_,g,l]:=rs.list r f;exact#[a,b,rfl,.of g,l]
  .cases h
 |_=>cases h
def zjp{v x vs}(rs:yx K cl B A H st)(r:yd K cl B A H v x)(h:ya7 st v=AA vs):∃a b,x=.ref a/\(SqL K H a b \/ SqT K H a b)/\yg K cl B A H vs b:=by
 cases v with
 |tp k c=>
  cases h
  erw[yd]at r;let#[a,b,rfl,d,l]:=r;exact#[a,b,rfl,.inr d.sq,l]
 |lst c=>
  let#[a,b,e,q,l]:=zct rs r (vs:=vs) h;exact#[a,b,e,.inl q,l]
 |loc n=>
  let#[a,b,e,q,l]:=zct rs r (vs:=vs) h;exact#[a,b,e,.inl q,l]
 |_=>cases h
def zpR:yU X (.builtin "len") (rB S X .len):=by
 rintro D s C H m g Q I r ⟨B,A,st,n,z,b,l,e,q⟩
 let#[v,rfl]:=zcA e λ_ _=>rfl;let#[x,rfl,d]:=l.one;erw[yaj,lenV]at e;split at e
 .rename_i t;split at e
  .rename_i c
   cases e
   erw[yd]at d;subst d;exact zgc D s C H _ g Q I r #[t,rfl,by rw[<-zF];exact c,q _ H A .rfl b (by erw[yd])]
  .cases e
 .cases f:ya7 st v with
  |none=>rw[f]at e;cases e
  |some o=>
   rw[f]at e
   cases e
   let#[a,j,rfl,h,l]:=zjp b d f;refine zfO D s C H _ g Q I r #[a,j,rfl,?_,q _ H A .rfl b (by erw[yd];rw[l.length])];exact h
def zoQ:yU X (.type "int") (rB S X .int):=by
 rintro D s C H d b Q I r ⟨B,A,st,f,z,c,l,e,q⟩
 let#[v,rfl]:=zcA e λ_ _=>rfl;let#[x,rfl,a]:=l.one;erw[yaj]at e
 cases v with
 |int i=>
  cases e
  erw[yd]at a;subst a;exact zf0 D s C H _ b Q I r (.inl #[i,rfl,q _ H A .rfl c (by erw[yd])])
 |bl k=>
  cases e
  erw[yd]at a;subst a;exact zf0 D s C H _ b Q I r (.inr #[k,rfl,q _ H A .rfl c (by erw[yd,bi])])
 |_=>cases e
def zqd:yU X (.builtin "abs") (rB S X .abs):=by
 rintro D s C H d b Q I r ⟨B,A,st,f,z,c,l,e,q⟩
 let#[v,rfl]:=zcA e λ_ _=>rfl;let#[x,rfl,a]:=l.one;erw[yaj]at e
 cases v with
 |int i=>
  cases e
  erw[yd]at a;subst a;exact zkq D s C H _ b Q I r #[i,rfl,q _ H A .rfl c (by erw[yd])]
 |_=>cases e
def znA{k st}{vs:IK PV}{z}(h:yaj k st vs=AA z)(a:∀x,yaj k st [x]=AD):∃x y,vs=[x,y]:=by
 match vs,h with
 |[x,y],_=>exact#[x,y,rfl]
 |[x],h=>rw[a]at h;cases h
def zpT(b:X.calm=AC):yU X (.builtin "min") (rB S X .min):=by
 rintro D s C H f c Q I r ⟨B,A,st,g,z,d,l,e,q⟩
 let#[v,w,rfl]:=znA e λ_=>rfl;let#[x,y,rfl,a,rw]:=l.two;erw[yaj,yfA]at e;split at e
 .cases e
  erw[yd]at a rw;subst a rw;exact zir b D s C H _ c Q I r #[_,_,rfl,q _ H A .rfl d (by erw[yd])]
 .cases e
def zl3:∀{vs:IK PV} {m:IM},yd3 vs=AA m->∃b:IK IM,vs=b.map .int/\m∈b/\∀a∈b,a<=m
 |[],m,h=>by cases h
 |[.int i],m,h=>by cases h;exact#[[i],rfl,by simp,by simp]
 |.int i::w::r,m,h=>by
  erw[yd3]at h;split at h
  .rename_i c e
   cases h
   let#[b,f,g,j]:=zl3 e;refine#[i::b,by rw[f];rfl,?_,λa d=>?_]
   .split
    .exact AU _ g
    .exact Af
   .rcases AS.mp d with rfl|d
    .split<;>lia
    .have:=j a d;split<;>lia
  .cases h
 |.non::r,m,h=>by cases r<;>cases h
 |.bl _::r,m,h=>by cases r<;>cases h
 |.str _::r,m,h=>by cases r<;>cases h
 |.tp _ _::r,m,h=>by cases r<;>cases h
 |.lst _::r,m,h=>by cases r<;>cases h
 |.loc _::r,m,h=>by cases r<;>cases h
 |.fnc _::r,m,h=>by cases r<;>cases h
 |.exn _::r,m,h=>by cases r<;>cases h
 |.scr _::r,m,h=>by cases r<;>cases h
theorem yg.ints:∀{a:IK IM} {xs:IK V},yg K cl B A H (a.map .int) xs->xs=a.map V.int
 |[],xs,h=>by simpa only[BV,yg] using h
 |n::a,xs,h=>by erw[AO,yg]at h;let#[y,b,rfl,r,l]:=h;erw[yd]at r;rw[r,yg.ints l];rfl
theorem yg.bls:∀{a:IK IQ} {xs:IK V},yg K cl B A H (a.map .bl) xs->xs=a.map V.bl
 |[],xs,h=>by simpa only[BV,yg] using h
 |n::a,xs,h=>by erw[AO,yg]at h;let#[y,b,rfl,r,l]:=h;erw[yd]at r;rw[r,yg.bls l];rfl
def zmZ{v w z:PV}(e:maxV v w=AA z):∃i j,v=.int i/\w=.int j/\z=.int (if i<j then j else i):=by
 unfold maxV at e;split at e
 .exact#[_,_,rfl,rfl,(AX e).symm]
 .cases e
def zpf(g:X.calm=AC):yU X (.builtin "max") (rB S X .max):=by
 rintro D s C H N n Q I r ⟨B,A,st,p,z,c,l,e,q⟩
 rcases p with _|⟨v,_|⟨w,_|⟨O,t⟩⟩⟩
 .simp[yaj]at e
 .let#[x,rfl,b]:=l.one;erw[yaj]at e
  cases d:yM st v with
  |none=>rw[d]at e;cases e
  |some u=>
   rw[d]at e;erw[BH]at e
   cases f:yd3 u with
   |none=>rw[f]at e;cases e
   |some m=>
    rw[f]at e;obtain rfl:=AX e;let#[E,rfl,o,G]:=zl3 f;let#[a,U,rfl,h,l]:=zct c b d;rw[l.ints]at h;refine ziK g D s C H _ n Q I r #[a,E,rfl,h,IK.length_pos_of_mem o,λM J L=>?_];have:M=m:=by have:=G M J;have:=L m o;lia
    subst this;exact q _ H A .rfl c (by erw[yd])
 .let#[x,y,rfl,b,rw]:=l.two;have e:maxV v w=AA z:=e;let#[i,j,rfl,rfl,rfl]:=zmZ e;erw[yd]at b rw;subst b rw;exact ziW g D s C H _ n Q I r #[i,j,rfl,q (.int (if i<j then j else i)) H A .rfl c (by erw[yd])]
 .simp[yaj]at e
def zkY:yU X (.type "tuple") (rB S X .tuple):=by
 rintro D s C H n j Q I r ⟨B,A,st,o,z,b,l,e,q⟩
 let#[v,rfl]:=zcA e λ_ _=>rfl;let#[x,rfl,d]:=l.one;erw[yaj,yfO]at e;split at e
 .cases e
  erw[yd]at d;let#[a,c,rfl,m,l]:=d;exact zc9 D s C H _ j Q I r #[a,c,rfl,.inr #[m.sq,q _ H A .rfl b (by erw[yd];exact#[a,c,rfl,m,l])]]
 .cases f:yM st v with
  |none=>rw[f]at e;cases e
  |some p=>
   rw[f]at e
   cases e
   let#[a,c,rfl,h,l]:=zct b d f;exact zc9 D s C H _ j Q I r #[a,c,rfl,.inl #[h,λt g=>q _ _ A (.upd g) (b.upd g) (.tup_new g b l)]]
def zmp:∀{vs:IK PV} {m:IQ},IC.allB vs=AA m->∃a:IK IQ,vs=a.map .bl/\m=a.all id
 |[],m,h=>by cases h;exact#[[],rfl,rfl]
 |.bl i::r,m,h=>by
  erw[IC.allB]at h;split at h
  .rename_i c e
   cases h
   let#[a,b,d]:=zmp e;exact#[i::a,by rw[b];rfl,by rw[d];rfl]
  .cases h
 |.non::r,m,h=>by cases h
 |.int _::r,m,h=>by cases h
 |.str _::r,m,h=>by cases h
 |.tp _ _::r,m,h=>by cases h
 |.lst _::r,m,h=>by cases h
 |.loc _::r,m,h=>by cases h
 |.fnc _::r,m,h=>by cases h
 |.exn _::r,m,h=>by cases h
 |.scr _::r,m,h=>by cases h
def zpt(f:X.calm=AC):yU X (.builtin "all") (rB S X .all):=by
 rintro D s C H p g Q I r ⟨B,A,st,t,z,d,l,e,q⟩
 let#[v,rfl]:=zcA e λ_ _=>rfl;let#[x,rfl,j]:=l.one;erw[yaj]at e
 cases b:yM st v with
 |none=>rw[b]at e;cases e
 |some n=>
  rw[b]at e;erw[BH]at e
  cases c:IC.allB n with
  |none=>rw[c]at e;cases e
  |some m=>
   rw[c]at e
   cases e
   let#[o,rfl,rfl]:=zmp c;let#[a,u,rfl,h,l]:=zct d j b;rw[l.bls]at h;exact zkJ f D s C H _ g Q I r #[a,o,rfl,h,q _ H A .rfl d (by erw[yd])]
variable {x:AL}{id T:Ii}{k:Blt}
def zpE(f:yU X (.builtin id) (rB S X k))(g:Gl X x)(j:X.mg x=AD)(l:bootBuiltins x=AA (.builtin id))(m:PA X (a::es) (tAs S X ces))(n:x ≠ "__name__":=by decide)(b:(x==("__debug__":AL))=false:=by decide)
  (o:starEach (a::es) X.env=(AB,eval a X.env)::starEach es X.env:=by rfl) (c:(backTo pos (starEach es X.env)).any (·.1)=false:=by rfl):PE X (.Call (.Name x p) (a::es) [] pos) (tE S X (.blt k ces)):=
 (zdK f g j l m n b o c).imp λC H Q #[B,A,st,U,r,t,h]=>by erw[ev]at h;refine tAs.bind r t h λE H1 u d A1 G rs1 w y D=>?_;let#[z,e,q]:=zar D rs1;exact#[B,A1,d,u,z,rs1,y,e,q]
def zox(f:yU X (.type T) (rB S X k))(g:Gl X x)(j:X.mg x=AD)(l:bootBuiltins x=AA (.type T))(m:PA X (a::es) (tAs S X ces))(n:x ≠ "__name__":=by decide)(b:(x==("__debug__":AL))=false:=by decide)
  (o:starEach (a::es) X.env=(AB,eval a X.env)::starEach es X.env:=by rfl) (c:(backTo pos (starEach es X.env)).any (·.1)=false:=by rfl):PE X (.Call (.Name x p) (a::es) [] pos) (tE S X (.blt k ces)):=
 (zfE f g j l m n b o c).imp λC H Q #[B,A,st,U,r,t,h]=>by erw[ev]at h;refine tAs.bind r t h λE H1 u d A1 G rs1 w y D=>?_;let#[z,e,q]:=zar D rs1;exact#[B,A1,d,u,z,rs1,y,e,q]
end
section
variable {S:Se}{X:Cx}{C:St}{B:AJ->Prop}{A A1:Ph}{H H1:Hp}{st:SO}{U:IC.Env}{p pos p2 apos:CB}{a b c d:AT}{ca cb cc:Ce}{es:IK AT}{ces:Ces}{K:AF}{cl:IL->AJ}
theorem Step.put{l:AJ}{u:HO}(a:AA l∈A):Step A H A (L2.upd H l u):=
 #[λb o n e=>by rw[zj (show b≠l from λz=>n (by rw[z];exact a))];exact e,AQ _,λ_ _ _ e=>e,λ_ h=>.inl h]
theorem yx.put{n:IL}{l:AJ}{u:HO}{o:Ob}(rs:yx K cl B A H st)(c:A[n]?=AA (AA l))(j:ycm K cl B A (L2.upd H l u) o l):yx K cl B A (L2.upd H l u) (st.set n o):=by
 have p:AA l∈A:=AZ c;have s:Step A H A (L2.upd H l u):=.put p;have d:n<st.length:=by rw[<-rs.len];exact(An.mp c).1
 refine#[by rw[BY];exact rs.len,rs.inj,λm a e=>?_,λm f e g=>?_,rs.nb,λa h=>?_]
 .by_cases b:m=n
  .subst b;rw[c]at e;cases e;exact#[o,by rw[Ac d],j]
  .let#[f,q,r]:=rs.obj m a e;refine#[f,by rw[AM (Ax b)];exact q,r.step s ?_];rw[zj]
   rintro rfl
   exact b (rs.inj m n a e c)
 .by_cases b:m=n
  .subst b;exact#[l,c]
  .rw[AM (Ax b)]at e;exact rs.liv m f e g
 .let#[w,e]:=rs.dom a h
  by_cases z:a=l
  .subst z;exact#[u,zx]
  .exact#[w,by rw[zj z];exact e]
def zr3:1000000<=sizeLine:=by rw[CC];decide
def zfe{m:Mth}{v:PV}{st:SO}{D E:Type}{Rel:Ph->Hp->D->E->Prop}{k:IQ->R D}{Q:E->Hp->Prop}(h:Run S X C B A H Rel (onO (yas m st v) k) Q):∃b,yas m st v=AA b/\Run S X C B A H Rel (k b) Q:=by
 cases e:yas m st v with
 |none=>rw[e]at h;exact h.elim
 |some z=>rw[e]at h;exact#[z,rfl,h]
def ziw(N:PE X a (tE S X ca))(O:PE X b (tE S X cb))(J:starEach [b] X.env=[(AB,eval b X.env)]:=by rfl)(f:attributeBase a "append" X.env (eval a X.env)=eval a X.env:=by rfl)(g:(apos.endLine==pos.line)=true:=by rfl)
  (j:((backTo pos (starEach [b] X.env)).all (λx=>!x.1)&&(backToKw pos (keywordEach [] X.env)).all (λx=>x.1.isSome)&&decide (([b]:IK AT).length+([]:IK Br).length+(if ([]:IK Br).isEmpty then 0 else 1)<30))=true:=by rfl):
  PE X (.Call (.Attribute a "append" apos) [b] [] pos) (tE S X (.mth .append ca (.cons cb .nil))):=
 (znM DE FV PySem.F.type_list_append zf3 N (zcD (S:=S) O zeI J) f j g J rfl).imp λC H Q #[B,A,st,U,Y,Z,h]=>by
  erw[ev]at h;refine tE.bind Y Z h λx H1 v m A1 s1 rs1 p L r=>?_;let#[_,u,r]:=zfe r;have z:∃o,yM m v=AA o:=by
   erw[yas]at u
   cases q:yM m v with
   |none=>rw[q]at u;cases u
   |some o=>exact#[o,rfl]
  let#[o,z]:=z;let#[l,xs,rfl,hl,_]:=zct rs1 L z;refine#[.inl #[rfl,xs,hl],tAs.bind rs1 p r λys H2 vs st2 A2 s2 rs2 re2 D d=>?_];have E:=L.step s2;rcases vs with _|⟨w,_|⟨w',t⟩⟩
  .exact d.elim
  .let#[y,rfl,rw]:=D.one;unfold ybD at d;erw[yd6]at d;split at d
   .rename_i n;split at d
    .rename_i zs hz;split at d
     .rename_i c;let#[l',G,e,I,hx,M]:=rs2.list E hz
      cases e
      refine#[l,G,y,rfl,rfl,hx,by have:=zr3;have:=M.length;lia,?_];exact d _ _ A2 (.put (AZ I)) (rs2.put I #[_,zx,(M.append (by erw[yg];exact#[y,[],rfl,rw,rfl])).step (.put (AZ I))]) (by erw[yd])
     .exact d.elim
    .exact d.elim
   .exact d.elim
  .exact d.elim
def zo3(E:PE X a (tE S X ca)):PE X a (tE S X (.frz ca)):=
 E.imp λC H Q #[B,A,st,U,G,I,h]=>by
  erw[ev]at h;refine tE.bind G I h λx H1 v J A1 s1 rs1 L w f=>?_;unfold ycJ at f;split at f
  .rename_i n;split at f
   .rename_i vs M;let#[l,N,rfl,u,O,Y]:=rs1.list w M;have Z:AA l∈A1:=AZ u;have d:n<A1.length:=(An.mp u).1;have nl:AA l∉A1.set n none:=λz=>by
     let#[m,e]:=DS.mp z
     by_cases c:m=n
     .subst c;rw[Ac d]at e;cases e
     .rw[AM (Ax c)]at e;exact c (rs1.inj m n l e u)
    have y:∀b,AA b∈A1.set n AD->AA b∈A1:=λb z=>by
     let#[m,e]:=DS.mp z
     by_cases c:m=n
     .subst c;rw[Ac d]at e;cases e
     .rw[AM (Ax c)]at e;exact AZ e
    have s:Step A1 H1 (A1.set n AD) H1:=#[λ_ _ _ e=>e,by simp,λm a hm' e=>by
     by_cases c:m=n
     .subst c;rw[Ac d]at e;cases e
     .rw[AM (Ax c)]at e;exact e,λb z=>.inl (y b z)]
    refine f _ H1 (A1.set n AD) s #[by simp[rs1.len],λm k a p t=>?_,λm a e=>?_,λm o e D=>?_,λa z=>rs1.nb a (y a z),rs1.dom] ?_
    .by_cases g:m=n
     .subst g;rw[Ac d]at p;cases p
     .by_cases j:k=n
      .subst j;rw[Ac d]at t;cases t
      .rw[AM (Ax g)]at p;rw[AM (Ax j)]at t;exact rs1.inj m k a p t
    .by_cases c:m=n
     .subst c;rw[Ac d]at e;cases e
     .rw[AM (Ax c)]at e;let#[o,q,r]:=rs1.obj m a e;exact#[o,by rw[AM (Ax c)];exact q,r.step s rfl]
    .by_cases c:m=n
     .subst c;rw[Ac (by rw[<-rs1.len];exact d)]at e;cases e;exact IU rfl D
     .rw[AM (Ax c)]at e ⊢;exact rs1.liv m o e D
    .simp only[yd];exact#[l,N,rfl,#[O,rs1.nb l Z,nl],Y.step s]
   .exact f.elim
  .exact f.ok rs1 w
end
section
variable (S:Se)(X:Cx)
def yar(B:AJ->Prop)(A:Ph)(H:Hp)(f:Fl)(D:Ends):Prop:=
 match f with
 |.nx g a=>∀d b c,Step A H c b->yx X.K S.cl B c b a->yK X.K S.cl B c b g d->D.nx d b
 |.rt v a=>∀x b c,Step A H c b->yx X.K S.cl B c b a->yd X.K S.cl B c b v x->D.rt x b
 |.bk g a=>∀d b c,Step A H c b->yx X.K S.cl B c b a->yK X.K S.cl B c b g d->D.bk d b
 |.ct g a=>∀d b c,Step A H c b->yx X.K S.cl B c b a->yK X.K S.cl B c b g d->D.ct d b
 |.exc k g a=>∀d j l e m,Step A H j l->yK X.K S.cl B j l g d->ExcAt S X d B j l k a e m->X.xe e m
 |.bad=>IY
def tS(c:Cs):TS:=λD C H=>∃B A st U,yx X.K S.cl B A H st/\yK X.K S.cl B A H U C/\yar S X B A H (ex S.call U st c) D
def tSs(c:Css):TS:=λD C H=>∃B A st U,yx X.K S.cl B A H st/\yK X.K S.cl B A H U C/\yar S X B A H (exs S.call U st c) D
end
section
variable {S:Se}{X:Cx}{C:St}{B:AJ->Prop}{A A1:Ph}{H H1:Hp}{st:SO}{U:IC.Env}{D:Ends}{pos p2 px:CB}{a b c o:AT}{ca cb cc:Ce}{s1:Bj}{ss ss':IK Bj}{c1:Cs}{cs cs':Css}
theorem yar.on{f:Fl}(s:Step A H A1 H1)(h:yar S X B A H f D):yar S X B A1 H1 f D:=by
 cases f with
 |nx U st=>exact λa b c t=>h a b c (s.trans t)
 |rt U st=>exact λa b c t=>h a b c (s.trans t)
 |bk U st=>exact λa b c t=>h a b c (s.trans t)
 |ct U st=>exact λa b c t=>h a b c (s.trans t)
 |exc k U st=>exact λa d g e j t=>h a d g e j (s.trans t)
 |bad=>exact h
theorem tE.fl{k:PV->SO->Fl}{P:V->Hp->Prop}(rs:yx X.K S.cl B A H st)(c:yK X.K S.cl B A H U C)(h:yar S X B A H ((ev S.call U st ca).fl U k) D)
  (n:∀x H1 v a A1,Step A H A1 H1->yx X.K S.cl B A1 H1 a->yK X.K S.cl B A1 H1 U C->yd X.K S.cl B A1 H1 v x->yar S X B A1 H1 (k v a) D->P x H1):tE S X ca C H P:=by
 refine#[B,A,st,U,rs,c,?_]
 cases e:ev S.call U st ca with
 |ok v b=>
  rw[e]at h;exact λx f g s d j=>n x f v b g s d (c.step s) j (h.on s)
 |exc k b=>
  rw[e]at h;exact λe l x=>h C A H e l .rfl c x
 |bad=>rw[e]at h;exact h
theorem PS.imp{t t':TS}(h:PS X s1 t')(k:∀D C H,t D C H->t' D C H):PS X s1 t:=λE s C H D I q=>h E s C H D I (k D C H q)
theorem PSs.imp{t t':TS}(h:PSs X ss t')(k:∀D C H,t D C H->t' D C H):PSs X ss t:=λE s C H D I q=>h E s C H D I (k D C H q)
theorem yK.set{K:AF}{a:IL->AJ}(r:yK K a B A H U C)(i:IL){v:PV}{x:V}(c:yd K a B A H v x):yK K a B A H (U.set i (AA v)) (C.set i (AA x)):=by
 refine#[by rw[BY,BY];exact r.len,λj w e=>?_]
 by_cases h:j=i
 .subst h
  by_cases b:j<U.length
  .rw[Ac b]at e
   cases e
   exact#[x,by rw[Ac (by rw[<-r.len];exact b)],c]
  .rw[BD (by rw[BY];lia)]at e
   cases e
 .rw[AM (Ax h)]at e ⊢;exact r.get j w e
def zqT:PSs X [] (tSs S X .nil):=zsg.imp λD C H #[B,A,st,U,a,b,h]=>by erw[IC.xqq0,IC.xqq1]at h;exact h C H A .rfl a b
def zmy(f:PS X s1 (tS S X c1))(g:PSs X ss (tSs S X cs)):PSs X (s1::ss) (tSs S X (.cons c1 cs)):=
 (zhc f g).imp λD C H #[B,A,st,U,j,l,h]=>by
  erw[IC.xqq0,IC.xqq1]at h;refine#[B,A,st,U,j,l,?_]
  cases e:ex S.call U st c1 with
  |nx b a=>
   rw[e]at h;exact λn o m s c d=>#[B,m,a,b,c,d,h.on s]
  |rt v a=>rw[e]at h;exact h
  |bk b a=>rw[e]at h;exact h
  |ct b a=>rw[e]at h;exact h
  |exc k b a=>rw[e]at h;exact h
  |bad=>rw[e]at h;exact h
def znK(c:PE X a (tE S X ca))(d:swapsWith a AD pos.line X.env=pure false:=by rfl):PS X (.Expr a pos) (tS S X (.expr ca)):=
 (zm2 c d).imp λD C H #[B,A,st,U,f,g,h]=>by erw[ex]at h;exact tE.fl f g h λx H1 v j A1 s rs1 b m l=>l C H1 A1 .rfl rs1 b
def zp7(b:PE X a (tE S X ca)):PS X (.Return (AA a) pos) (tS S X (.ret ca)):=
 (zmo b).imp λD C H #[B,A,st,U,c,d,h]=>by erw[ex]at h;exact tE.fl c d h λx H1 v f A1 s rs1 g j l=>l x H1 A1 .rfl rs1 j
def zn2:PS X (.Return AD pos) (tS S X (.ret (.cst .non))):=
 zsh.imp λD C H #[B,A,st,U,a,b,h]=>by erw[ex,ev,R.fl]at h;exact h .non H A .rfl a (by erw[yd])
def zq1{i:IL}{x}(c:X.N.Nodup)(d:X.N[i]?=AA x)(f:Loc X.env.scope x)(g:PE X a (tE S X ca))(j:swapsWith a (AA (.Name x px)) pos.line X.env=pure false:=by rfl)
  (hf:X.fn x=AC \/ X.env.scope.names.lookup x=AA .local:=by first|exact .inl rfl|exact .inr rfl|assumption):PS X (.Assign [.Name x px] a pos) (tS S X (.asg (.n i) ca)):=
 (zmq c d f g j hf).imp λD C H #[B,A,st,U,l,m,h]=>by erw[ex]at h;exact tE.fl l m h λx H1 v o A1 s rs1 b p q=>q _ H1 A1 .rfl rs1 (b.set i p)
theorem flT(r:R PV)(f:IQ->SO->Fl):(r.fl U λx a=>onF (yaE a x) λk=>f k a)=(yaZ r).fl U f:=by
 cases r with
 |ok v s=>
  erw[R.fl,yaZ,R.bind]
  cases yaE s v<;>rfl
 |exc c s=>rfl
 |bad=>rfl
theorem tTs.fl{k:IQ->SO->Fl}{P:IQ->Hp->Prop}(rs:yx X.K S.cl B A H st)(d:yK X.K S.cl B A H U C)(h:yar S X B A H ((yaZ (ev S.call U st ca)).fl U k) D)
  (n:∀b H1 a A1,Step A H A1 H1->yx X.K S.cl B A1 H1 a->yK X.K S.cl B A1 H1 U C->yar S X B A1 H1 (k b a) D->P b H1):tTs S X ca C H P:=by
 refine#[B,A,st,U,rs,d,?_]
 cases e:yaZ (ev S.call U st ca)with
 |ok v c=>
  rw[e]at h;exact λx g j s f l=>by subst l;exact n v g c j s f (d.step s) (h.on s)
 |exc k c=>
  rw[e]at h;exact λe m x=>h C A H e m .rfl d x
 |bad=>rw[e]at h;exact h
def zrk(f:PT X c (tTs S X cc))(g:PSs X ss (tSs S X cs))(j:PSs X ss' (tSs S X cs')):PS X (.If c ss ss' pos) (tS S X (.ite cc cs cs')):=
 (zri f g j).imp λD C H #[B,A,st,U,l,m,h]=>by
  erw[ex]at h;rw[flT _ λk a=>cond k (exs S.call U a cs) (exs S.call U a cs')]at h;refine tTs.fl l m h λk H1 a A1 s rs1 b d=>?_
  cases k with
  |true=>exact#[B,A1,a,U,rs1,b,d]
  |false=>exact#[B,A1,a,U,rs1,b,d]
def zp8{i:IL}{x j c}(n:X.N.Nodup)(o:X.N[i]?=AA x)(p:Loc X.env.scope x)(r:PE X a (tE S X ca))(t:PIp X j (rT2 S X (ybE c)))
  (hf:X.fn x=AC \/ X.env.scope.names.lookup x=AA .local:=by first|exact .inl rfl|exact .inr rfl|assumption) (O:(x==("__debug__":AL))=false:=by decide) (E:(x==("__classdict__":AL))=false:=by decide):PS X (.AugAssign (.Name x px) j a pos) (tS S X (.aug i c ca)):=
 (zlR n o p r t hf).imp λD C H #[B,A,st,U,G,l,h]=>by
  erw[ex]at h
  cases q:U[i]? with
  |none=>rw[q]at h;exact h.elim
  |some w=>
   cases w with
   |none=>rw[q]at h;exact h.elim
   |some w=>
    rw[q]at h;let#[y,I,rw]:=l.get i w q;refine#[y,I,tE.fl G l h λz H1 v d A1 s rs1 f J b=>?_]
    cases e:ybE c w v with
    |none=>rw[e]at b;exact b.elim
    |some u=>
     rw[e]at b;exact#[B,A1,d,w,v,u,rs1,rw.step s,J,e,λQ L M m g N=>b _ L M m g ((f.step m).set i N)]
end
section
variable (S:Se)(X:Cx)
structure Drw(B:AJ->Prop)(A0:Ph)(H0:Hp)(xs:IK PV)(J:It):Prop where
 stop:∀A H,Step A0 H0 A H->J.stop xs.length H
 go:∀(i:IL) A H,Step A0 H0 A H->i<xs.length->J.go i H
 yld:∀(i:IL) A H st x H' (B':AJ->Prop),(∀y,B' y->B y \/ H0 y=AD)->Step A0 H0 A H->yx X.K S.cl B' A H st->i<xs.length->J.yld i H x H'->∃v,xs[i]?=AA v/\yd X.K S.cl B' A H' v x/\∀b o,H b=AA o->H' b=AA o
abbrev RD(B:AJ->Prop):Ph->Hp->IK PV->It->Prop:=λA H=>Drw S X B A H
def tI(c:Cit):TI:=λC H R=>∃B A st U,yx X.K S.cl B A H st/\yK X.K S.cl B A H U C/\Run S X C B A H (RD S X B) (evi S.call U st c) R
end
section
variable {S:Se}{X:Cx}{E:St}{B:AJ->Prop}{C C1:Ph}{H H1:Hp}{st:SO}{U:IC.Env}{D:Ends}{pos p p2 px:CB}{a b c o tg l:AT}{ca cb cc:Ce}{es:IK AT}{ces:Ces}{ss:IK Bj}{cs:Css}{ci:Cit}{ct:Tg}
def znH:PE X a (tE S X .nope):=λF s E H Q I #[B,C,st,U,b,c,h]=>by erw[ev]at h;exact h.elim
def znp{a}:PS X a (tS S X .nope):=λF s E H D I #[B,C,st,U,b,c,h]=>by erw[ex]at h;exact h.elim
theorem PI.imp{t t':TI}(h:PI X tg l t')(k:∀E H R,t E H R->t' E H R):PI X tg l t:=λF s E H R I q=>h F s E H R I (k E H R q)
def zoW{r}(t:PE X l r):PI X tg l (λE H R=>r E H λx H1=>∃a,x=.ref a/\(((∃f,SqL X.K H1 a f)/\R (Itl X.K a) H1) \/ ((∃f,SqT X.K H1 a f)/\R (Itt X.K a) H1))):=by
 intro F s E H R I h;refine thn (t F s E H _ I h) λv c u=>?_;let#[x,H1,d,w,j]:=u;let#[a,e,j]:=j;subst e
 cases w
 rcases j with⟨⟨f,m⟩,q⟩|⟨⟨f,m⟩,q⟩
 .let#[g,y,p,z]:=d.list m;refine EW p.isList ?_;refine#[c.heap.objs.size,[c.heap.objs.size],_,_,H1,rfl,d.kept (t':=c.toks) λb o e=>AR _ e,ziQ a _,#[_,A8 _ rfl,rfl,rfl],λb n=>?_,q];have e:b=c.heap.objs.size:=by simpa using n
  subst e;exact d.fpOk (AQ _) (d.hok.fresh (AQ _))
 .let#[g,y,p,z]:=d.tuple m;refine Bm (show c.heap.IsTuple a g.toArray from p) ?_;refine#[c.heap.objs.size,[c.heap.objs.size],_,_,H1,rfl,d.kept (t':=c.toks) λb o e=>AR _ e,zhN a _,#[_,A8 _ rfl,rfl,rfl],λb n=>?_,q];have e:b=c.heap.objs.size:=by simpa using n
  subst e;exact d.fpOk (AQ _) (d.hok.fresh (AQ _))
def zn9{k vs xs y}(rt:ybP X.K B C H k y xs)(l:yg X.K S.cl B C H vs xs):Drw S X B C H vs (Itt X.K y):=by
 have m:=l.length;refine#[λb c s=>#[xs,(rt.step s).sq,()],λi b c s d=>#[xs,xs[i]'(),(rt.step s).sq,by simp[show i<xs.length by lia]],λi b c st x n o g s p d q=>?_];let#[rfl,q]:=q;obtain⟨v,f⟩:∃v,vs[i]?=AA v:=#[vs[i],by simp[d]];let#[r,a,j]:=l.get i f;have:=q xs (rt.step s).sq;rw[this]at a
 cases a
 exact#[v,f,(j.moreB g).step s,λ_ _ e=>e]
def zn8{vs xs y}(rt:ycS B C H y xs)(l:yg X.K S.cl B C H vs xs):Drw S X B C H vs (Itl X.K y):=by
 have m:=l.length;refine#[λb c s=>#[xs,(rt.step s).sq,()],λi b c s d=>#[xs,xs[i]'(),(rt.step s).sq,by simp[show i<xs.length by lia]],λi b c st x n o g s p d q=>?_];let#[rfl,q]:=q;obtain⟨v,f⟩:∃v,vs[i]?=AA v:=#[vs[i],by simp[d]];let#[r,a,j]:=l.get i f;have:=q xs (rt.step s).sq;rw[this]at a
 cases a
 exact#[v,f,(j.moreB g).step s,λ_ _ e=>e]
def zo2(f:PE X l (tE S X ca)):PI X tg l (tI S X (.seq ca)):=
 (zoW f).imp λE H R #[B,C,st,U,g,j,h]=>by
  erw[IC.vjq0,IC.vjq1,IC.vjq2,IC.vjq3,IC.vjq4,IC.vjq5,IC.vjq6,IC.vjq7,IC.vjq8]at h;refine tE.bind g j h λx H1 v m C1 p rs1 n b c=>?_
  cases v with
  |tp k o=>
   erw[yd]at b;let#[y,d,rfl,a,l]:=b;exact#[y,rfl,.inr #[#[d,a.sq],c.ok rs1 (zn9 a l)]]
  |lst o=>
   erw[yd]at b;let#[y,d,rfl,a,l]:=b;exact#[y,rfl,.inl #[#[d,a.sq],c.ok rs1 (zn8 a l)]]
  |_=>exact c.elim
def zeN:∀(n:IL) (lo d:IM) (i:IL),(yr n lo d)[i]?=if i<n then AA (.int (lo+i*d))else AD
 |0,lo,d,i=>by simp[yr]
 |n+1,lo,d,0=>by simp[yr]
 |n+1,lo,d,i+1=>by
  erw[yr,Ar];rw[zeN n (lo+d) d i]
  by_cases h:i<n
  .rw[IR h,IR (),IM.natCast_succ,IM.add_mul,EZ,IM.add_assoc,Ho d]
  .rw[IS h,IS ()]
def zcm:∀(n:IL) (lo d:IM),(yr n lo d).length=n
 |0,lo,d=>rfl
 |n+1,lo,d=>by simp[yr,zcm n]
def ziy{lo:IM}{n:IL}:Drw S X B C H (yr n lo 1) (Itr lo n):=by refine#[λb c s=>by rw[zcm];exact AQ _,λi b c s a=>by rw[zcm]at a;exact a,λi b c st x d f g s j a q=>?_];rw[zcm]at a;let#[rfl,rfl]:=q;refine#[.int (lo+i),?_,by erw[yd],λ_ _ e=>e];rw[zeN,IR a,Cf]
def zj2{o st Q}(h:Run S X E B C H (RD S X B) (toL o st) Q):∃a,o=AA a/\Run S X E B C H (RD S X B) (.ok a st) Q:=by
 cases o with
 |none=>exact h.elim
 |some z=>exact#[z,rfl,h]
def ziD(f:Gl X "range")(g:X.mg "range"=AD)(l:PE X a (tE S X ca))(c:starEach [a] X.env=[(AB,eval a X.env)]:=by rfl):PI X tg (.Call (.Name "range" p) [a] [] pos) (tI S X (.range1 ca)):=
 (ziN f g (zav l zrH c) c).imp λE H R #[B,C,st,U,m,n,h]=>by
  erw[IC.vjq0,IC.vjq1,IC.vjq2,IC.vjq3,IC.vjq4,IC.vjq5,IC.vjq6,IC.vjq7,IC.vjq8]at h;refine tE.bind m n h λx H1 v o C1 r rs1 q d b=>?_;let#[t,e,b]:=zj2 b
  cases v with
  |int j=>
   erw[yby]at e;split at e
   .cases e
    erw[yd]at d;subst d;exact#[j,rfl,(),(),b.ok rs1 ziy]
   .cases e
  |_=>cases e
def zem:∀xs(k i:IL),(yZ k xs)[i]?=(xs[i]?).map λx=>.tup [.int ((k+i:IL):IM),x]
 |[],k,i=>by simp[yZ]
 |x::xs,k,0=>by simp[yZ]
 |x::xs,k,i+1=>by
  erw[yZ,Ar];rw[zem xs (k+1) i];have:k+1+i=k+(i+1):=()
  rw[this]
def zeg:∀xs(k:IL),(yZ k xs).length=xs.length
 |[],k=>rfl
 |x::xs,k=>by simp[yZ,zeg xs]
def zkP{k vs xs y}(rt:ybP X.K B C H k y xs)(l:yg X.K S.cl B C H vs xs):Drw S X B C H (yZ 0 vs) (Ite X.K y):=by
 have t:=l.length;have u:=zeg vs 0;refine#[λc d s=>#[xs,(rt.step s).sq,()],λi c d s m=>#[xs,xs[i]'(),(rt.step s).sq,by simp[show i<xs.length by lia]],λi c d st x w z n s p m q=>?_];let#[T,f,rfl,q]:=q;obtain⟨v,g⟩:∃v,vs[i]?=AA v:=#[vs[i]'(),by simp[show i<vs.length by lia]];let#[j,a,r]:=l.get i g;have e:=q xs j (rt.step s).sq a;subst e;refine#[.tup [.int i,v],?_,.tup_new f p ?_,λb o e=>by rw[zj (zo e f)];exact e]
 .rw[zem,g];simp
 .simp only[yg,yd];exact#[_,_,rfl,rfl,j,[],rfl,(r.moreB n).step s,rfl]
def znc{es}{kk:IL}{tp}(g:Gl X "enumerate")(j:X.mg "enumerate"=AD)(m:PE X a (tE S X ca))(b:starEach [a] X.env=[(AB,eval a X.env)]:=by rfl):
  PI X (.Tuple es kk tp) (.Call (.Name "enumerate" p) [a] [] pos) (tI S X (.enum ca)):=
 (zlb g j (zav m zrH b) b).imp λE H R #[B,C,st,U,n,o,h]=>by
  erw[IC.vjq0,IC.vjq1,IC.vjq2,IC.vjq3,IC.vjq4,IC.vjq5,IC.vjq6,IC.vjq7,IC.vjq8]at h;refine tE.bind n o h λx H1 v q C1 u rs1 r c d=>?_
  cases v with
  |tp k w=>
   erw[yd]at c;let#[y,t,rfl,f,l]:=c;exact#[y,rfl,#[t,f.sq],d.ok rs1 (zkP f l)]
  |_=>exact d.elim
def tG(S:Se)(X:Cx)(t:Tg):TG:=λv E H Q=>∃B C st U w a,yx X.K S.cl B C H st/\yK X.K S.cl B C H U E/\yd X.K S.cl B C H w v/\yH t w U=AA a/\∀b,yK X.K S.cl B C H a b->Q b H
theorem PG.imp{t t':TG}(h:PG X tg t')(k:∀v E H Q,t v E H Q->t' v E H Q):PG X tg t:=λF s E H v u Q I a q=>h F s E H v u Q I a (k v E H Q q)
def zn0{i:IL}{x}(a:X.N.Nodup)(b:X.N[i]?=AA x)(c:Loc X.env.scope x)(hf:X.fn x=AC \/ X.env.scope.names.lookup x=AA .local:=by first|exact .inl rfl|exact .inr rfl|assumption):PG X (.Name x pos) (tG S X (.n i)):=
 (zjC a b c hf).imp λv E H Q #[B,C,st,U,w,g,j,d,f,e,q]=>by
  cases e
  exact q _ (d.set i f)
def gNs(l:IK IL):TGs:=λa E H Q=>a.length=l.length/\Q ((l.zip a).foldl (λE p=>E.set p.1 (AA p.2)) E) H
theorem PGs.imp{es:IK AT}{t t':TGs}(h:PGs X es t')(k:∀v E H Q,t v E H Q->t' v E H Q):PGs X es t:=λF s E H a b Q I c q=>h F s E H a b Q I c (k a E H Q q)
def zmS:PGs X [] (gNs []):=zsi.imp λa E H Q #[h,q]=>by
 cases a with
 |nil=>exact#[rfl,q]
 |cons _ _=>cases h
def zk4{es l}{i:IL}{x}(b:X.N.Nodup)(c:X.N[i]?=AA x)(d:Loc X.env.scope x)(f:PGs X es (gNs l))(hf:X.fn x=AC \/ X.env.scope.names.lookup x=AA .local:=by first|exact .inl rfl|exact .inr rfl|assumption):PGs X (.Name x pos::es) (gNs (i::l)):=
 (zkV (zjC b c d hf) f).imp λa E H Q #[h,q]=>by
  cases a with
  |nil=>cases h
  |cons v a=>exact#[v,a,rfl,by simpa using h,q]
theorem yK.sets{K:AF}{b:IL->AJ}:∀(l:IK IL) {vs:IK PV} {xs:IK V} {U:IC.Env} {E:St},yK K b B C H U E->yg K b B C H vs xs ->
  yK K b B C H ((l.zip vs).foldl (λU p=>U.set p.1 (AA p.2)) U) ((l.zip xs).foldl (λE p=>E.set p.1 (AA p.2)) E)
 |[],vs,xs,U,E,a,l=>by simpa using a
 |i::c,[],xs,U,E,a,l=>by erw[yg]at l;subst l;simpa using a
 |i::c,v::vs,xs,U,E,a,l=>by erw[yg]at l;let#[y,d,rfl,r,l]:=l;erw[EI,Di];exact yK.sets c (a.set i r) l
def zp0{es l}{k:IL}(f:X.calm=AC)(h:PGs X es (gNs l))(g:(assignEach es X.env).length=l.length:=by rfl)(a:(assignEach es X.env).findIdx? (·.1)=none:=by rfl):PG X (.Tuple es k pos) (tG S X (.t l)):=
 (zqz f h g a).imp λv E H Q #[B,C,st,U,w,o,p,j,b,e,q]=>by
  cases w with
  |tp kk r=>
   erw[yH]at e;split at e
   .rename_i c
    cases e
    erw[yd]at b;let#[y,m,rfl,n,d]:=b;have u:=d.length;exact#[y,m,rfl,n.sq,(),(),q _ (yK.sets l j d)]
   .cases e
  |_=>cases e
def zoi{es l}{k:IL}(g:PE X a (tE S X ca))(j:PG X (.Tuple es k p2) (tG S X (.t l)))(m:swapsWithSole [.Tuple es k p2] a pos.line X.env=pure false:=by rfl)(n:swappedStores [.Tuple es k p2] a X.env=pure none:=by rfl):
  PS X (.Assign [.Tuple es k p2] a pos) (tS S X (.asg (.t l) ca)):=
 (zl4 g j m n).imp λD E H #[B,C,st,U,o,p,h]=>by
  erw[ex]at h;refine tE.fl o p h λx H1 v c C1 s rs1 d q b=>?_
  cases e:yH (.t l) v U with
  |none=>rw[e]at b;exact b.elim
  |some r=>
   rw[e]at b;exact#[B,C1,c,U,v,r,rs1,d,q,e,λu f=>b u H1 C1 .rfl rs1 f]
theorem tI.fl{k:IK PV->SO->Fl}{P:It->Hp->Prop}(rs:yx X.K S.cl B C H st)(c:yK X.K S.cl B C H U E)(h:yar S X B C H ((evi S.call U st ci).fl U k) D)
  (n:∀x H1 v a C1,Step C H C1 H1->yx X.K S.cl B C1 H1 a->yK X.K S.cl B C1 H1 U E->Drw S X B C1 H1 v x->yar S X B C1 H1 (k v a) D->P x H1):tI S X ci E H P:=by
 refine#[B,C,st,U,rs,c,?_]
 cases e:evi S.call U st ci with
 |ok v b=>
  rw[e]at h;exact λx f g s d j=>n x f v b g s d (c.step s) j (h.on s)
 |exc k b=>
  rw[e]at h;exact λe l x=>h E C H e l .rfl c x
 |bad=>rw[e]at h;exact h
def zqF(hp:El (model X.prog X.w) X.A X.env X.xe)(hc:X.calm=AC)(n:PI X tg l (tI S X ci))(hg:PG X tg (tG S X ct))(hb:PSs X ss (tSs S X cs))(hs:∀x,foldedSetIterable l X.env x=pure x:=by intro _;rfl):
  PS X (.For tg l ss [] pos) (tS S X (.for ct ci cs)):=
 (zoE hp hc n hg hb hs).imp λD E H #[B,C,st,U,rs,re,h]=>by
  erw[ex]at h;refine tI.fl rs re h λJ H1 f L C1 s1 rs1 M N h1=>?_;refine#[λi m E H=>∃C st U,i+m=f.length/\Step C1 H1 C H/\yx X.K S.cl B C H st/\yK X.K S.cl B C H U E/\yar S X B C H (forL ct (λp a=>exs S.call p a cs) (f.drop i) U st) D,
   #[f.length,C1,L,U,(),.rfl,rs1,M,by simpa using h1],?_]
  rintro i m E2 t ⟨C2,a,p,hm,u,rs2,w,g⟩
  by_cases n:i<f.length
  .refine .inr #[N.go i C2 t u n,λO y=>∃C st U,Step C1 H1 C y/\yx X.K S.cl B C y st/\yK X.K S.cl B C y U O/\yar S X B C y (forL ct (λp a=>exs S.call p a cs) (f.drop (i+1)) U st) D,
    λO y #[C,st,U,s,q]=>#[m-1,(),C,st,U,(),s,q],λx Q hy=>?_]
   let#[v,hv,rv,kk]:=N.yld i C2 t a x Q B (λ_ z=>.inl z) u rs2 n hy;have e:f.drop i=v::f.drop (i+1):=by rw[EQ n];rw[Cz n]at hv;rw[AX hv]
   have I:Step C2 t C2 Q:=#[λb o _ e=>kk b o e,AQ _,λ_ _ _ e=>e,λ_ h=>.inl h];have rs3:yx X.K S.cl B C2 Q a:=rs2.same kk;rw[e,forL]at g
   cases Y:yH ct v p with
   |none=>rw[Y]at g;exact g.elim
   |some Z=>
    rw[Y]at g;refine#[B,C2,a,p,v,Z,rs3,w.step I,rv,Y,λO re'=>#[B,C2,a,Z,rs3,re',?_]];have c:=yar.on I g;dsimp only at c
    cases r:exs S.call Z a cs with
    |nx A d=>
     rw[r]at c;exact λE4 H4 C4 G rs4 j=>#[C4,d,A,u.trans (I.trans G),rs4,j,yar.on G c]
    |ct A d=>
     rw[r]at c;exact λE4 H4 C4 G rs4 j=>#[C4,d,A,u.trans (I.trans G),rs4,j,yar.on G c]
    |bk A d=>rw[r]at c;exact c
    |rt v4 d=>rw[r]at c;exact c
    |exc k A d=>rw[r]at c;exact c
    |bad=>rw[r]at c;exact c
  .have e:i=f.length:=()
   subst e;rw[Gh,forL]at g;exact .inl #[N.stop C2 t u,g E2 t C2 .rfl rs2 w]
def zk6(y:El (model X.prog X.w) X.A X.env X.xe)(z:PT X c (tTs S X cc))(A:PSs X ss (tSs S X cs)):PS X (.While c ss [] pos) (tS S X (.while cc cs)):=
 (zkR y z A).imp λD E H #[B,C,st,U,G,I,h]=>by
  erw[ex]at h;refine#[λm E H=>∃C st U,yx X.K S.cl B C H st/\yK X.K S.cl B C H U E/\yar S X B C H (yao (λb a=>ev S.call b a cc) (λb a=>exs S.call b a cs) m U st) D,#[100000,C,st,U,G,I,h],?_]
  rintro m J O ⟨C2,a,b,rs2,u,r⟩
  cases m with
  |zero=>exact r.elim
  |succ m=>
   rw[yao]at r;rw[flT _ λk l=>cond k (yay (exs S.call b l cs) λb a=>yao (λb a=>ev S.call b a cc) (λb a=>exs S.call b a cs) m b a) (.nx b l)]at r;refine tTs.fl rs2 u r λk L n C3 Q rs3 o d=>?_
   cases k with
   |false=>exact d J L C3 .rfl rs3 o
   |true=>
    refine#[λx t=>∃C st U,yx X.K S.cl B C t st/\yK X.K S.cl B C t U x/\yar S X B C t (yao (λb a=>ev S.call b a cc) (λb a=>exs S.call b a cs) m U st) D,
     λx t q=>#[m,(),q],B,C3,n,b,rs3,o,?_]
    erw[Il]at d
    cases j:exs S.call b n cs with
    |nx p f=>
     rw[j]at d;exact λM N C4 w rs4 g=>#[C4,f,p,rs4,g,yar.on w d]
    |ct p f=>
     rw[j]at d;exact λM N C4 w rs4 g=>#[C4,f,p,rs4,g,yar.on w d]
    |bk p f=>rw[j]at d;exact d
    |rt Y f=>rw[j]at d;exact d
    |exc k p f=>rw[j]at d;exact d
    |bad=>rw[j]at d;exact d
end
end L2
namespace IC
open PySem
def RLe{A:Type}(r q:R A):Prop:=r=.bad \/ r=q
def FLe(f g:Fl):Prop:=f=.bad \/ f=g
abbrev Cl:=IL->IK PV->SO->R PV
def CLe(c d:Cl):Prop:=∀f a s,RLe (c f a s) (d f a s)
theorem RLe.rfl{A:Type}{r:R A}:RLe r r:=.inr (C9 _)
theorem FLe.rfl{f:Fl}:FLe f f:=.inr (C9 _)
theorem RLe.bind{A B:Type}{r q:R A}{k l:A->SO->R B}(h:RLe r q)(b:∀a s,RLe (k a s) (l a s)):RLe (r.bind k) (q.bind l):=by
 rcases h with h|h
 .subst h;exact .inl (C9 _)
 .subst h
  cases r with
  |ok a s=>exact b a s
  |exc c s=>exact .rfl
  |bad=>exact .rfl
theorem RLe.fl{A:Type}{r q:R A}{U:Env}{k l:A->SO->Fl}(h:RLe r q)(b:∀a s,FLe (k a s) (l a s)):FLe (r.fl U k) (q.fl U l):=by
 rcases h with h|h
 .subst h;exact .inl (C9 _)
 .subst h
  cases r with
  |ok a s=>exact b a s
  |exc c s=>exact .rfl
  |bad=>exact .rfl
theorem RLe.comp{r q:R (IK PV)}(h:RLe r q):RLe (ybA r) (ybA q):=by
 rcases h with h|h
 .subst h;exact .inl (C9 _)
 .subst h;exact .rfl
def zjJ{A x}{k l:IQ->R A}(h:∀b,RLe (k b) (l b)):RLe (onBl x k) (onBl x l):=by
 cases x with
 |bl b=>exact h b
 |_=>exact .rfl
def zgs{A x}{k l:IQ->R A}(h:∀b,RLe (k b) (l b)):RLe (onO x k) (onO x l):=by
 cases x with
 |some b=>exact h b
 |none=>exact .rfl
def zl7{x}{k l:IQ->Fl}(h:∀b,FLe (k b) (l b)):FLe (onF x k) (onF x l):=by
 cases x with
 |some b=>exact h b
 |none=>exact .rfl
def zqP{A x}{k l:Option IM->R A}(h:∀b,RLe (k b) (l b)):RLe (onP x k) (onP x l):=by
 cases x with
 |some b=>exact h b
 |none=>exact .rfl
def zdQ{A b}{r q a c:R A}(h:RLe r q)(h':RLe a c):RLe (cond b r a) (cond b q c):=by
 cases b
 .exact h'
 .exact h
def zg6{b r q a c}(h:FLe r q)(h':FLe a c):FLe (cond b r a) (cond b q c):=by
 cases b
 .exact h'
 .exact h
def zdF{f g:PV->SO->R (Option PV)}(h:∀x s,RLe (f x s) (g x s)):∀xs s,RLe (ybM f xs s) (ybM g xs s)
 |[],s=>.rfl
 |x::xs,s=>(h x s).bind λo a=>(zdF h xs a).bind λb c=>.rfl
def zev{f g}{k l:Env->SO->Fl}(h:FLe f g)(a:∀U s,FLe (k U s) (l U s)):FLe (yay f k) (yay g l):=by
 rcases h with h|h
 .subst h;exact .inl (C9 _)
 .subst h
  cases f with
  |nx U s=>exact a U s
  |ct U s=>exact a U s
  |_=>exact .rfl
def zfg{t}{f g:Env->SO->Fl}(h:∀U s,FLe (f U s) (g U s)):∀xs U s,FLe (forL t f xs U s) (forL t g xs U s)
 |[],U,s=>.rfl
 |x::xs,U,s=>by
  unfold forL
  cases yH t x U with
  |none=>exact .rfl
  |some a=>exact zev (h a s) λb c=>zfg h xs b c
def zfV{t u:Env->SO->R PV}{f g:Env->SO->Fl}(a:∀U s,RLe (t U s) (u U s))(h:∀U s,FLe (f U s) (g U s)):∀n U s,FLe (yao t f n U s) (yao u g n U s)
 |0,U,s=>.rfl
 |n+1,U,s=>by unfold yao;exact(a U s).fl λx c=>zl7 λb=>zg6 (zev (h U c) λd j=>zfV a h n d j) .rfl
mutual
theorem zn{c d}(h:CLe c d):∀e U s,RLe (ev c U s e) (ev d U s e)
 |.cst v,U,s=>by exact .rfl
 |.var i,U,s=>by exact .rfl
 |.bin o a b,U,s=>by exact(zn h a U s).bind λx j=>(zn h b U j).bind λy r=>.rfl
 |.neg a,U,s=>by exact(zn h a U s).bind λx j=>.rfl
 |.not a,U,s=>by exact(zn h a U s).bind λx j=>.rfl
 |.and a b,U,s=>by refine(zn h a U s).bind λx j=>?_;exact zjJ λk=>zdQ (zn h b U j) .rfl
 |.or a b,U,s=>by refine(zn h a U s).bind λx j=>?_;exact zjJ λk=>zdQ .rfl (zn h b U j)
 |.cmp o a b,U,s=>by exact(zn h a U s).bind λx j=>(zn h b U j).bind λy r=>.rfl
 |.chain o p a b k,U,s=>by refine(zn h a U s).bind λx j=>(zn h b U j).bind λy r=>?_;exact zgs λq=>zdQ ((zn h k U r).bind λz w=>.rfl) .rfl
 |.ite k a b,U,s=>by exact(zn h k U s).bind λx j=>zgs λq=>zdQ (zn h a U j) (zn h b U j)
 |.tup n,U,s=>by exact(zbe h n U s).bind λx j=>.rfl
 |.lst n,U,s=>by exact(zbe h n U s).bind λx j=>.rfl
 |.newl n,U,s=>by exact(zbe h n U s).bind λx j=>.rfl
 |.dict0 t,U,s=>by exact .rfl
 |.idx a i,U,s=>by exact(zn h a U s).bind λx j=>(zn h i U j).bind λy r=>.rfl
 |.slc a l u,U,s=>by exact(zn h a U s).bind λx j=>(zn h l U j).bind λy r=>zqP λo=>(zn h u U r).bind λz w=>.rfl
 |.call f n,U,s=>by exact(zbe h n U s).bind λx j=>h f x j
 |.blt b n,U,s=>by exact(zbe h n U s).bind λx j=>.rfl
 |.mth m o n,U,s=>by exact(zn h o U s).bind λx j=>zgs λ_=>(zbe h n U j).bind λy r=>.rfl
 |.isi a E,U,s=>by exact(zn h a U s).bind λx j=>.rfl
 |.isx a I E,U,s=>by exact(zn h a U s).bind λx j=>.rfl
 |.comp J G H k e,U,s=>by
  refine(ziH h H U s).bind λB j=>?_;have q:=λ(f g:PV->SO->R (Option PV)) (A:∀x s,RLe (f x s) (g x s))=>zdF A B j;refine RLe.comp (zdF (λx r=>?_) B j)
  cases yH G x _ with
  |none=>exact .rfl
  |some C=>
   dsimp only;exact(zn h k C r).bind λb w=>zgs λq=>zdQ ((zn h e C w).bind λy L=>.rfl) .rfl
 |.nope,U,s=>by exact .rfl
 |.frz a,U,s=>by exact(zn h a U s).bind λx j=>.rfl
 |.fst n,U,s=>by
  first|erw[ev]|erw[ex,IC.xqq0,IC.xqq1]
  rcases zbe h n U s with e|e
  .rw[e];exact .inl (C9 _)
  .rw[e];exact .rfl
 |.dix D a,U,s=>by exact(zn h a U s).bind λx j=>.rfl
 |.din a D,U,s=>by exact(zn h a U s).bind λx j=>.rfl
 |.thw a,U,s=>by exact(zn h a U s).bind λx j=>.rfl
 |.fld q a f,U,s=>by exact(zn h a U s).bind λx j=>.rfl
 |.new q i n,U,s=>by
  refine(zbe h n U s).bind λx j=>RLe.bind ?_ λv r=>.rfl;rcases h i (.loc j.length::x) (j++[.ins q []])with e|e
  .rw[e];exact .inl (C9 _)
  .rw[e];exact .rfl
 |.qcl i n,U,s=>by
  refine(zbe h n U s).bind λx j=>?_;rcases h i x j with e|e
  .rw[e];exact .inl (C9 _)
  .rw[e];exact .rfl
 |.inn a b,U,s=>by exact(zn h a U s).bind λx j=>(zn h b U j).bind λy r=>.rfl
 |.mcl q i m o n,U,s=>by exact(zn h o U s).bind λx j=>zgs λ_=>(zbe h n U j).bind λy r=>h i (x::y) r
theorem zbe{c d}(h:CLe c d):∀e U s,RLe (evs c U s e) (evs d U s e)
 |.nil,U,s=>by exact .rfl
 |.cons e a,U,s=>by exact(zn h e U s).bind λx b=>(zbe h a U b).bind λy f=>.rfl
theorem ziH{c d}(h:CLe c d):∀e U s,RLe (evi c U s e) (evi d U s e)
 |.seq e,U,s=>by exact(zn h e U s).bind λx f=>.rfl
 |.range1 a,U,s=>by exact(zn h a U s).bind λx f=>.rfl
 |.range2 a b,U,s=>by exact(zn h a U s).bind λx f=>(zn h b U f).bind λy g=>.rfl
 |.rangeD a b,U,s=>by exact(zn h a U s).bind λx f=>(zn h b U f).bind λy g=>.rfl
 |.enum e,U,s=>by exact(zn h e U s).bind λx f=>.rfl
 |.zip a b,U,s=>by exact(zn h a U s).bind λx f=>(zn h b U f).bind λy g=>.rfl
 |.revl e,U,s=>by exact(zn h e U s).bind λx f=>.rfl
 |.revr e,U,s=>by exact(zn h e U s).bind λx f=>.rfl
 |.chars e,U,s=>by exact(zn h e U s).bind λx f=>.rfl
end
mutual
theorem zrl{c d}(h:CLe c d):∀x U s,FLe (ex c U s x) (ex d U s x)
 |.expr e,U,s=>by exact(zn h e U s).fl λx g=>.rfl
 |.asg t e,U,s=>by exact(zn h e U s).fl λx g=>.rfl
 |.six o i e,U,s=>by exact(zn h e U s).fl λx g=>(zn h o U g).fl λy j=>(zn h i U j).fl λz m=>.rfl
 |.dput o i e,U,s=>by exact(zn h e U s).fl λx g=>(zn h o U g).fl λy j=>(zn h i U j).fl λz m=>.rfl
 |.aug i o e,U,s=>by
  first|erw[ev]|erw[ex,IC.xqq0,IC.xqq1]
  split
  .exact(zn h e U s).fl λx g=>.rfl
  .exact .rfl
 |.ret e,U,s=>by exact(zn h e U s).fl λx g=>.rfl
 |.ite k a b,U,s=>by exact(zn h k U s).fl λx g=>zl7 λq=>zg6 (zbJ h a U g) (zbJ h b U g)
 |.for t p b,U,s=>by exact(ziH h p U s).fl λr g=>zfg (λl j=>zbJ h b l j) r U g
 |.while k b,U,s=>by exact zfV (λl j=>zn h k l j) (λl j=>zbJ h b l j) _ U s
 |.nope,U,s=>by exact .rfl
 |.raise k e,U,s=>by exact(zn h e U s).fl λx g=>.rfl
 |.try b k i u,U,s=>by
  first|erw[ev]|erw[ex,IC.xqq0,IC.xqq1]
  rcases zbJ h b U s with e|e
  .rw[e];exact .inl (C9 _)
  .rw[e]
   cases exs d U s b with
   |exc q w g=>
    dsimp only;split
    .rcases zbJ h u (w.set i (AA (.exn q))) g with e|e
     .rw[e];exact .inl (C9 _)
     .rw[e];exact .rfl
    .exact .rfl
   |_=>exact .rfl
 |.mkr i D n A,U,s=>by
  refine(zn h n U s).fl λx g=>?_;split
  .exact((zbe h A _ g).bind λB j=>h _ B j).fl λv m=>.rfl
  .exact .rfl
 |.sfl q o f e,U,s=>by exact(zn h e U s).fl λx g=>(zn h o U g).fl λy j=>.rfl
theorem zbJ{c d}(h:CLe c d):∀x U s,FLe (exs c U s x) (exs d U s x)
 |.nil,U,s=>by exact .rfl
 |.cons x a,U,s=>by
  first|erw[ev]|erw[ex,IC.xqq0,IC.xqq1]
  rcases zrl h x U s with e|e
  .rw[e];exact .inl (C9 _)
  .rw[e]
   cases ex d U s x with
   |nx b f=>exact zbJ h a b f
   |_=>exact .rfl
end
def zfS(T):∀k,CLe (yc T k) (yc T (k+1))
 |0,f,a,s=>.inl (C9 _)
 |k+1,f,a,s=>by
  have h:=zfS T k;rw[yc,yc]
  cases T f with
  |none=>exact .rfl
  |some fn=>
   dsimp only;split
   .split
    .split
     .rcases zbJ h fn.body (a.map AA++Av (fn.ns-fn.np) AD) []with e|e
      .rw[e];exact .inl (C9 _)
      .rw[e];exact .rfl
     .exact .rfl
    .rcases zbJ h fn.body (a.map AA++Av (fn.ns-fn.np) AD) s with e|e
     .rw[e];exact .inl (C9 _)
     .rw[e];exact .rfl
   .exact .rfl
def zC{T}{k:IL}{f:IL}{a}{s s':SO}{v}(h:yc T k f a s=.ok v s'):∀j,yc T (k+j) f a s=.ok v s'
 |0=>h
 |j+1=>by
  have q:=zC h j;rcases zfS T (k+j) f a s with e|e
  .rw[q]at e;cases e
  .rw[D4]at e;rw[<-e];exact q
def yaT(call:Cl)(t:Tg)(b:Css)(xs:IK PV)(U:Env)(st:SO):Fl:=forL t (λc a=>exs call c a b) xs U st
def yaP(call:Cl)(c:Ce)(b:Css)(n:IL)(U:Env)(st:SO):Fl:=yao (λd a=>ev call d a c) (λd a=>exs call d a b) n U st
def ya9(call:Cl)(j:Env)(t:Tg)(c e:Ce)(x:PV)(d:SO):R (Option PV):=match yH t x j with
 |none=>.bad
 |some g=>(ev call g d c).bind λb a=>onO (yaE a b) λk=>cond k ((ev call g a e).bind λy f=>.ok (AA y) f) (.ok AD a)
def yac(call:Cl)(a:Env)(t:Tg)(c e:Ce)(xs:IK PV)(st:SO):R (IK PV):=ybM (ya9 call a t c e) xs st
def yaz(f:Fl)(k:Env->SO->Fl):Fl:=
 match f with
 |.nx U st=>k U st
 |f=>f
def nxO(o:Option Env)(st:SO):Fl:=
 match o with
 |some U=>.nx U st
 |none=>.bad
def stO(U:Env)(o:Option SO):Fl:=
 match o with
 |some st=>.nx U st
 |none=>.bad
section
variable {call:Cl}{U:Env}{st:SO}
theorem x_for{t c b}:ex call U st (.for t c b)=(evi call U st c).fl U λd a=>yaT call t b d U a:=rfl
def znW{c b}:ex call U st (.while c b)=yaP call c b 100000 U st:=rfl
theorem v_comp{sl t b c e}:ev call U st (.comp sl t b c e)=(evi call U st b).bind λd a=>ybA (yac call (sl.map λo=>o.bind λj=>(U[j]?).join) t c e d a):=rfl
def zJ{t b}:yaT call t b [] U st=.nx U st:=rfl
def zy{t b x}{xs:IK PV}{U1}(h:yH t x U=AA U1):yaT call t b (x::xs) U st=yay (exs call U1 st b) λc a=>yaT call t b xs c a:=by rw[yaT,forL,h];rfl
def zfu{t}{b:Css}(P:IL->Env->SO->Prop):∀(xs:IK PV)(i:IL)U(st:SO),P i U st ->
  (∀(j:IL)(x:PV)U(st:SO),xs[j]?=AA x->P (i+j) U st->∃g d a,yH t x U=AA g/\exs call g st b=.nx d a/\P (i+j+1) d a) ->
  ∃f c,yaT call t b xs U st=.nx f c/\P (i+xs.length) f c
 |[],i,U,st,h,_=>#[U,st,zJ,h]
 |x::xs,i,U,st,h,k=>by
  let#[g,d,a,l,m,n]:=k 0 x U st rfl h;let#[f,c,o,p]:=zfu P xs (i+1) d a n λj y U st q r=>by have:=k (j+1) y U st (by simpa using q) (by rw[show i+(j+1)=i+1+j by lia];exact r);rw[show i+(j+1)+1=i+1+j+1 by lia]at this;exact this
  refine#[f,c,?_,by rw[A7,show i+(xs.length+1)=i+1+xs.length by lia];exact p];rw[zy l,m];exact o
def ziU{c:Ce}{b:Css}{n:IL}{x a d f}(h:ev call U st c=.ok x a)(g:yaE a x=AA AC)(j:exs call U a b=.nx f d):yaP call c b (n+1) U st=yaP call c b n f d:=by rw[yaP,yao,h];erw[R.fl,g,onF,Il,j,yay];rfl
def zgM{c:Ce}{b}{n:IL}{x a}(h:ev call U st c=.ok x a)(d:yaE a x=AA AB):yaP call c b (n+1) U st=.nx U a:=by rw[yaP,yao,h];erw[R.fl,d,onF,Io]
def zb0{a t c e}:yac call a t c e [] st=.ok [] st:=rfl
def zao{a t c e}{x:PV}{xs:IK PV}:yac call a t c e (x::xs) st=(ya9 call a t c e x st).bind λo b=>(yac call a t c e xs b).bind λf d=>.ok (yc6 o f) d:=rfl
def zf1{a t c e}{f:PV->PV}:∀(xs:IK PV),(∀x∈xs,ya9 call a t c e x st=.ok (AA (f x)) st)->yac call a t c e xs st=.ok (xs.map f) st
 |[],_=>zb0
 |x::xs,h=>by rw[zao,h x Af];erw[R.bind];rw[zf1 xs λy b=>h y (AU _ b)];rfl
theorem xs_nil:exs call U st .nil=.nx U st:=rfl
theorem xs_cons{s b}:exs call U st (.cons s b)=yaz (ex call U st s) λc a=>exs call c a b:=rfl
theorem x_asg{t e}:ex call U st (.asg t e)=(ev call U st e).fl U λv a=>nxO (yH t v U) a:=rfl
theorem x_expr{e}:ex call U st (.expr e)=(ev call U st e).fl U λ_ a=>.nx U a:=rfl
theorem x_ret{e}:ex call U st (.ret e)=(ev call U st e).fl U λv a=>.rt v a:=rfl
theorem x_ite{c a b}:ex call U st (.ite c a b)=(ev call U st c).fl U λx d=>onF (yaE d x) λk=>cond k (exs call U d a) (exs call U d b):=rfl
theorem x_raise{c:IL}{e}:ex call U st (.raise c e)=(ev call U st e).fl U λ_ a=>.exc c U a:=rfl
def yek(i:IL)(f:Fl):Fl:=
 match f with
 |.nx b a=>.nx (b.set i AD) a
 |.rt v a=>.rt v a
 |_=>.bad
def yc0(b:IK IL)(i:IL)(f:Fl)(k:Env->SO->IL->Fl):Fl:=
 match f with
 |.exc d c a=>if b.contains d then yek i (k c a d)else .bad
 |f=>f
theorem x_try{b h c}{i:IL}:ex call U st (.try b c i h)=yc0 c i (exs call U st b) λf a d=>exs call (f.set i (AA (.exn d))) a h:=rfl
theorem x_six{o i e}:ex call U st (.six o i e)=(ev call U st e).fl U λv a=>(ev call U a o).fl U λx b=>(ev call U b i).fl U λy c=>stO U (ybl c x y v):=rfl
def yef(o:Option IL)(k:IL->Fl):Fl:=match o with
 |some j=>k j
 |none=>.bad
def zmC{i:IL}{D n es}:ex call U st (.mkr i D n es)=(ev call U st n).fl U λx a=>yef (mkV D (decide (i<U.length)) x) λj=>((evs call (U.set i AD) a es).bind λd b=>call j d b).fl (U.set i AD) λv c=>.rt v c:=rfl
def zgU{c:IL}{o e f}:ex call U st (.sfl c o f e)=(ev call U st e).fl U λv a=>(ev call U a o).fl U λx b=>stO U (yaY c b x f v):=rfl
def zg3{o i e}:ex call U st (.dput o i e)=(ev call U st e).fl U λv a=>(ev call U a o).fl U λx b=>(ev call U b i).fl U λy c=>stO U (ya6 c x y v):=rfl
def zq6{i:IL}{o e x}(h:U[i]?=AA (AA x)):ex call U st (.aug i o e)=(ev call U st e).fl U λy a=>nxO ((ybE o x y).map λz=>U.set i (AA z)) a:=by
 rw[IC.xrq4,h];show (ev call U st e).fl U _=_;refine Ic _ (funext λy=>funext λa=>?_)
 cases ybE o x y<;>rfl
end
def kS(call:Cl)(a:Css)(f:Fl):Fl:=yaz f λU st=>exs call U st a
def kJ(call:Cl)(U:Env)(st:SO)(a b:Css)(o:Option IQ):Fl:=onF o λk=>cond k (exs call U st a) (exs call U st b)
def kI(call:Cl)(U:Env)(a b:Css)(r:R PV):Fl:=r.fl U λx c=>kJ call U c a b (yaE c x)
def kB(v:PV)(r:R (IK PV)):R (IK PV):=r.bind λb a=>.ok (v::b) a
def kA(call:Cl)(U:Env)(es:Ces)(r:R PV):R (IK PV):=r.bind λv a=>kB v (evs call U a es)
def kY(h:PV->SO->R PV)(r:R PV):R PV:=r.bind λy a=>h y a
def kX(call:Cl)(U:Env)(b:Ce)(g:PV->PV->SO->R PV)(r:R PV):R PV:=r.bind λx a=>kY (g x) (ev call U a b)
def kN(call:Cl)(U:Env)(b:Ce)(r:R PV):R PV:=r.bind λx a=>onBl x λk=>cond k (ev call U a b) (.ok (.bl AB) a)
def kO(call:Cl)(U:Env)(b:Ce)(r:R PV):R PV:=r.bind λx a=>onBl x λk=>cond k (.ok (.bl AC) a) (ev call U a b)
def kF(call:Cl)(U:Env)(st:SO)(a b:Ce)(o:Option IQ):R PV:=onO o λk=>cond k (ev call U st a) (ev call U st b)
def kE(call:Cl)(U:Env)(a b:Ce)(r:R PV):R PV:=r.bind λx c=>kF call U c a b (yaE c x)
def kP(call:Cl)(U:Env)(st:SO)(m:Mth)(es:Ces)(x:PV)(o:Option IQ):R PV:=onO o λ_=>(evs call U st es).bind λb a=>ybD m a x b
def kM(call:Cl)(U:Env)(m:Mth)(es:Ces)(r:R PV):R PV:=r.bind λx a=>kP call U a m es x (yas m a x)
section
variable {call:Cl}{U:Env}{st:SO}{s:Cs}{ss a b:Css}{c d e:Ce}{es:Ces}{v x y:PV}{n:IL}{g:PV->PV->SO->R PV}{h:PV->SO->R PV}
theorem xs_conS:exs call U st (.cons s ss)=kS call ss (ex call U st s):=rfl
theorem kS1:kS call ss (.nx U st)=exs call U st ss:=rfl
theorem kS2:kS call ss (.rt v st)=.rt v st:=rfl
theorem kS3:kS call ss (.exc n U st)=.exc n U st:=rfl
theorem kS4:kS call ss (.bk U st)=.bk U st:=rfl
theorem kS5:kS call ss (.ct U st)=.ct U st:=rfl
theorem x_iteS:ex call U st (.ite c a b)=kI call U a b (ev call U st c):=rfl
theorem kI1:kI call U a b (.ok x st)=kJ call U st a b (yaE st x):=rfl
theorem kI2:kI call U a b (.exc n st)=.exc n U st:=rfl
theorem kJ1:kJ call U st a b (AA AC)=exs call U st a:=rfl
theorem kJ2:kJ call U st a b (AA AB)=exs call U st b:=rfl
theorem evs_n:evs call U st .nil=.ok [] st:=rfl
theorem evs_c:evs call U st (.cons e es)=kA call U es (ev call U st e):=rfl
theorem kA1:kA call U es (.ok v st)=kB v (evs call U st es):=rfl
theorem kA2:kA call U es (.exc n st)=.exc n st:=rfl
theorem kB1{vs}:kB v (.ok vs st)=.ok (v::vs) st:=rfl
theorem kB2:kB v (.exc n st)=.exc n st:=rfl
theorem kX1:kX call U e g (.ok x st)=kY (g x) (ev call U st e):=rfl
theorem kX2:kX call U e g (.exc n st)=.exc n st:=rfl
theorem kY1:kY h (.ok y st)=h y st:=rfl
theorem kY2:kY h (.exc n st)=.exc n st:=rfl
theorem ve3S{o}:ev call U st (.bin o c d)=kX call U d (λx y a=>toR (yq o x y) a) (ev call U st c):=rfl
theorem ve8S{o}:ev call U st (.cmp o c d)=kX call U d (λx y a=>toR (yp o x y) a) (ev call U st c):=rfl
theorem ve16S:ev call U st (.idx c d)=kX call U d (λx y a=>toR (idxV a x y) a) (ev call U st c):=rfl
theorem ve6S:ev call U st (.and c d)=kN call U d (ev call U st c):=rfl
theorem kN1:kN call U d (.ok (.bl AC) st)=ev call U st d:=rfl
theorem kN2:kN call U d (.ok (.bl AB) st)=.ok (.bl AB) st:=rfl
theorem ve7S:ev call U st (.or c d)=kO call U d (ev call U st c):=rfl
theorem kO1:kO call U d (.ok (.bl AC) st)=.ok (.bl AC) st:=rfl
theorem kO2:kO call U d (.ok (.bl AB) st)=ev call U st d:=rfl
theorem ve10S:ev call U st (.ite e c d)=kE call U c d (ev call U st e):=rfl
theorem kE1:kE call U c d (.ok x st)=kF call U st c d (yaE st x):=rfl
theorem kF1:kF call U st c d (AA AC)=ev call U st c:=rfl
theorem kF2:kF call U st c d (AA AB)=ev call U st d:=rfl
theorem ve20S{m}:ev call U st (.mth m e es)=kM call U m es (ev call U st e):=rfl
theorem kM1{m}:kM call U m es (.ok x st)=kP call U st m es x (yas m st x):=rfl
theorem kP1{m k}:kP call U st m es x (AA k)=(evs call U st es).bind λb a=>ybD m a x b:=rfl
end
end IC
namespace L2
open PySem PySem.Spec PyProof.Rows IC
section
variable (S:Se)(K:AF)
def yfV{D E:Type}(B:AJ->Prop)(A:Ph)(H:Hp)(Rel:Ph->Hp->D->E->Prop)(r:R D)(Q:E->Hp->Prop):Prop:=
 match r with
 |.ok v b=>∀x a c,Step A H c a->yx K S.cl B c a b->Rel c a v x->Q x a
 |_=>IY
def tE0(c:Ce):TE:=λC H Q=>∃B A st U,yx K S.cl B A H st/\yK K S.cl B A H U C/\yfV S K B A H (λA H=>yd K S.cl B A H) (ev S.call U st c) Q
def tT0(c:Ce):TT:=λC H Q=>∃B A st U,yx K S.cl B A H st/\yK K S.cl B A H U C/\yfV S K B A H RB (yaZ (ev S.call U st c)) Q
def tG0(t:Tg):TG:=λv C H Q=>∃B A st U w a,yx K S.cl B A H st/\yK K S.cl B A H U C/\yd K S.cl B A H w v/\yH t w U=AA a/\∀b,yK K S.cl B A H a b->Q b H
end
section
variable {S:Se}{X:Cx}{K:AF}{cl:IL->AJ}{C:St}{B:AJ->Prop}{A A1:Ph}{H H1:Hp}{st:SO}{U:IC.Env}{pos p p2 px:CB}{a b c o tg l elt iter:AT}{ca cb cc ce:Ce}{ci:Cit}{ct:Tg}
def zoe(c:X.K=K)(h:PE X a (tE S X ca)):PE X a (tE0 S K ca):=by
 subst c;refine h.imp λC H Q d=>?_;let#[B,A,st,U,f,g,q]:=d;refine #[B,A,st,U,f,g,?_]
 cases e:ev S.call U st ca with
 |ok v b=>rw[e]at q;exact q
 |exc k b=>rw[e]at q;exact q.elim
 |bad=>rw[e]at q;exact q
def zm8(c:X.K=K)(h:PT X a (tTs S X ca)):PTs X [a] (tT0 S K ca):=by
 subst c;refine zmx (h.imp λC H Q d=>?_);let#[B,A,st,U,f,g,q]:=d;refine #[B,A,st,U,f,g,?_]
 cases e:yaZ (ev S.call U st ca)with
 |ok v b=>rw[e]at q;exact q
 |exc k b=>rw[e]at q;exact q.elim
 |bad=>rw[e]at q;exact q
def zll:PTs X [] (tT0 S K (.cst (.bl AC))):=λE s C H Q I #[B,A,st,U,a,b,q]=>by refine znv E s C H Q I ?_;erw[ev,yaZ,R.bind,yaE,onO]at q;exact q AC H A .rfl a rfl
def zm0(a:X.K=K)(h:PG X tg (tG S X ct)):PG X tg (tG0 S K ct):=by subst a;exact h
theorem ybP.skip{k:IQ}{D y:AJ}{u:HO}{xs:IK V}(a:B D)(r:ybP K B A H k y xs):ybP K B A (L2.upd H D u) k y xs:=by
 rcases r with⟨r,b,n⟩|r
 .exact .inl #[by rw[zj (show y≠D from λz=>b (z ▸ a))];exact r,b,n]
 .exact .inr r
mutual
theorem yd.skip{D:AJ}{u:HO}(d:B D):∀(v:PV) (x:V),yd K cl B A H v x->yd K cl B A (L2.upd H D u) v x
 |.non,x,h=>by erw[yd]at h ⊢;exact h
 |.bl b,x,h=>by erw[yd]at h ⊢;exact h
 |.int i,x,h=>by erw[yd]at h ⊢;exact h
 |.str y,x,h=>by erw[yd]at h ⊢;exact h
 |.tp k f,x,h=>by erw[yd]at h ⊢;let#[y,a,e,r,l]:=h;exact#[y,a,e,r.skip d,yg.skip d f a l]
 |.lst f,x,h=>by erw[yd]at h ⊢;let#[y,a,e,#[r,b,n],l]:=h;exact#[y,a,e,#[by rw[zj (show y≠D from λz=>b (z ▸ d))];exact r,b,n],yg.skip d f a l]
 |.loc n,x,h=>by erw[yd]at h ⊢;exact h
 |.fnc j,x,h=>by erw[yd]at h ⊢;exact h
 |.exn c,x,h=>by erw[yd]at h ⊢;let#[y,e,r,b,n]:=h;exact#[y,e,by rw[zj (show y≠D from λz=>b (z ▸ d))];exact r,b,n]
 |.scr f,x,h=>by
  erw[yd]at h ⊢;let#[y,a,e,r,l]:=h;refine#[y,a,e,?_,yg.skip d f a l];rcases r with⟨r,b,n⟩|r
  .refine .inl #[?_,b,n];have g:y≠D:=λz=>b (z ▸ d);rcases r with r|⟨o,r⟩
   .exact .inl (by rw[zj g];exact r)
   .exact .inr #[o,by rw[zj g];exact r]
  .exact .inr r
theorem yg.skip{D:AJ}{u:HO}(a:B D):∀(v:IK PV) (x:IK V),yg K cl B A H v x->yg K cl B A (L2.upd H D u) v x
 |[],x,h=>by erw[yg]at h ⊢;exact h
 |v::c,x,h=>by erw[yg]at h ⊢;let#[y,b,e,r,l]:=h;exact#[y,b,e,yd.skip a v y r,yg.skip a c b l]
end
theorem DK.skip{D:AJ}{u:HO}(c:B D):∀{a:IK (PV×PV)} {b:IK (Key×V)},DK K cl B A H a b->DK K cl B A (L2.upd H D u) a b
 |[],b,h=>h
 |(k,v)::r,b,h=>by let#[q,x,t,e,m,d,l]:=h;exact#[q,x,t,e,m,d.skip c,DK.skip c l]
theorem DT.skip{D:AJ}{u:HO}(c:B D):∀{a:IK (PV×PV)} {b:IK (IK Key×V)},DT K cl B A H a b->DT K cl B A (L2.upd H D u) a b
 |[],b,h=>h
 |(k,v)::r,b,h=>by let#[q,x,t,e,m,d,l]:=h;exact#[q,x,t,e,m,d.skip c,DT.skip c l]
theorem FS.skip{D:AJ}{u:HO}(c:B D):∀{a:IK (AL×PV)} {b:IK (AL×V)},FS K cl B A H a b->FS K cl B A (L2.upd H D u) a b
 |[],b,h=>h
 |(k,v)::r,b,h=>by let#[x,t,e,d,l]:=h;exact#[x,t,e,d.skip c,FS.skip c l]
theorem yx.skip{D:AJ}{u:HO}(b:B D)(rs:yx K cl B A H st):yx K cl B A (L2.upd H D u) st:=by
 refine#[rs.len,rs.inj,λn y e=>?_,rs.liv,rs.nb,λy h=>?_]
 .let#[o,q,r]:=rs.obj n y e;have f:y≠D:=λz=>rs.nb y (AZ e) (z ▸ b);refine#[o,q,?_]
  cases o with
  |lst p=>
   let#[d,a,l]:=r;exact#[d,by rw[zj f];exact a,l.skip b]
  |dct t g=>
   cases t with
   |false=>
    let#[d,a,l]:=r;exact#[d,by rw[zj f];exact a,l.skip b]
   |true=>
    let#[d,a,l]:=r;exact#[d,by rw[zj f];exact a,l.skip b]
  |ins c fs=>
   let#[j,#[m,a],l]:=r;exact#[j,#[m,by rw[zj f];exact a],l.skip b]
  |dead=>exact r.elim
 .by_cases z:y=D
  .subst z;exact#[u,zx]
  .let#[w,e]:=rs.dom y h;exact#[w,by rw[zj z];exact e]
theorem yK.skip{D:AJ}{u:HO}(b:B D)(a:yK K cl B A H U C):yK K cl B A (L2.upd H D u) U C:=#[a.len,λi v e=>by let#[x,h,q]:=a.get i v e;exact#[x,h,q.skip b]]
def Bx(B:AJ->Prop)(D:AJ):AJ->Prop:=λy=>B y \/ y=D
def zjv{D:AJ}(a:H D=AD):∀y,Bx B D y->B y \/ H y=none:=λy z=>z.elim .inl λq=>.inr (q ▸ a)
theorem yd.more{D:AJ}(a:H D=AD){v:PV}{x:V}(h:yd K cl B A H v x):yd K cl (Bx B D) A H v x:=h.moreB (zjv a)
theorem yg.more{D:AJ}(a:H D=AD){v:IK PV}{x:IK V}(h:yg K cl B A H v x):yg K cl (Bx B D) A H v x:=h.moreB (zjv a)
mutual
theorem yd.less{D:AJ}:∀(v:PV) (x:V),yd K cl (Bx B D) A H v x->yd K cl B A H v x
 |.non,x,h=>by erw[yd]at h ⊢;exact h
 |.bl b,x,h=>by erw[yd]at h ⊢;exact h
 |.int i,x,h=>by erw[yd]at h ⊢;exact h
 |.str y,x,h=>by erw[yd]at h ⊢;exact h
 |.tp k d,x,h=>by
  erw[yd]at h ⊢;let#[y,a,e,r,l]:=h;refine#[y,a,e,?_,yg.less d a l];rcases r with⟨r,b,n⟩|r
  .exact .inl #[r,λz=>b (.inl z),n]
  .exact .inr r
 |.lst d,x,h=>by erw[yd]at h ⊢;let#[y,a,e,#[r,b,n],l]:=h;exact#[y,a,e,#[r,λz=>b (.inl z),n],yg.less d a l]
 |.loc n,x,h=>by erw[yd]at h ⊢;exact h
 |.fnc j,x,h=>by erw[yd]at h ⊢;exact h
 |.exn c,x,h=>by erw[yd]at h ⊢;let#[y,e,r,b,n]:=h;exact#[y,e,r,λz=>b (.inl z),n]
 |.scr d,x,h=>by
  erw[yd]at h ⊢;let#[y,a,e,r,l]:=h;refine#[y,a,e,?_,yg.less d a l];rcases r with⟨r,b,n⟩|r
  .exact .inl #[r,λz=>b (.inl z),n]
  .exact .inr r
theorem yg.less{D:AJ}:∀(v:IK PV) (x:IK V),yg K cl (Bx B D) A H v x->yg K cl B A H v x
 |[],x,h=>by erw[yg]at h ⊢;exact h
 |v::b,x,h=>by erw[yg]at h ⊢;let#[y,a,e,r,l]:=h;exact#[y,a,e,yd.less v y r,yg.less b a l]
end
theorem DK.more{D:AJ}(c:H D=AD):∀{a:IK (PV×PV)} {b:IK (Key×V)},DK K cl B A H a b->DK K cl (Bx B D) A H a b
 |[],b,h=>h
 |(k,v)::r,b,h=>by let#[q,x,t,e,m,d,l]:=h;exact#[q,x,t,e,m,d.more c,DK.more c l]
theorem DT.more{D:AJ}(c:H D=AD):∀{a:IK (PV×PV)} {b:IK (IK Key×V)},DT K cl B A H a b->DT K cl (Bx B D) A H a b
 |[],b,h=>h
 |(k,v)::r,b,h=>by let#[q,x,t,e,m,d,l]:=h;exact#[q,x,t,e,m,d.more c,DT.more c l]
theorem FS.more{D:AJ}(c:H D=AD):∀{a:IK (AL×PV)} {b:IK (AL×V)},FS K cl B A H a b->FS K cl (Bx B D) A H a b
 |[],b,h=>h
 |(k,v)::r,b,h=>by let#[x,t,e,d,l]:=h;exact#[x,t,e,d.more c,FS.more c l]
theorem DK.less{D:AJ}:∀{a:IK (PV×PV)} {b:IK (Key×V)},DK K cl (Bx B D) A H a b->DK K cl B A H a b
 |[],b,h=>h
 |(k,v)::r,b,h=>by let#[q,x,t,e,m,c,l]:=h;exact#[q,x,t,e,m,c.less,DK.less l]
theorem DT.less{D:AJ}:∀{a:IK (PV×PV)} {b:IK (IK Key×V)},DT K cl (Bx B D) A H a b->DT K cl B A H a b
 |[],b,h=>h
 |(k,v)::r,b,h=>by let#[q,x,t,e,m,c,l]:=h;exact#[q,x,t,e,m,c.less,DT.less l]
theorem FS.less{D:AJ}:∀{a:IK (AL×PV)} {b:IK (AL×V)},FS K cl (Bx B D) A H a b->FS K cl B A H a b
 |[],b,h=>h
 |(k,v)::r,b,h=>by let#[x,t,e,c,l]:=h;exact#[x,t,e,c.less,FS.less l]
theorem yx.less{D:AJ}(rs:yx K cl (Bx B D) A H st):yx K cl B A H st:=by
 refine#[rs.len,rs.inj,λn y e=>?_,rs.liv,λy h z=>rs.nb y h (.inl z),λy h=>rs.dom y (.inl h)];let#[o,q,r]:=rs.obj n y e;refine#[o,q,?_]
 cases o with
 |lst g=>let#[b,a,l]:=r;exact#[b,a,l.less]
 |dct t d=>cases t<;>(let#[b,a,l]:=r;exact#[b,a,l.less])
 |ins c fs=>let#[f,a,l]:=r;exact#[f,a,l.less]
 |dead=>exact r.elim
theorem yx.more{D:AJ}{u:HO}(a:H D=AD)(rs:yx K cl B A H st):yx K cl (Bx B D) A (L2.upd H D u) st:=by
 have m:AA D∉A:=λz=>by let#[w,e]:=rs.there z;rw[a]at e;cases e
 have s:Step A H A (L2.upd H D u):=.upd a;have j:=rs.upd (o:=u) a;refine#[rs.len,rs.inj,λn y e=>?_,rs.liv,λy h z=>z.elim (rs.nb y h) λq=>m (q ▸ h),λy h=>?_]
 .let#[o,q,r]:=rs.obj n y e;have f:y≠D:=λz=>m (z ▸ AZ e);have g:Bx B D D:=.inr rfl;refine#[o,q,?_]
  cases o with
  |lst E=>let#[d,b,l]:=r;exact#[d,by rw[zj f];exact b,(l.more a).skip g]
  |dct t p=>
   cases t with
   |false=>let#[d,b,l]:=r;exact#[d,by rw[zj f];exact b,(l.more a).skip g]
   |true=>let#[d,b,l]:=r;exact#[d,by rw[zj f];exact b,(l.more a).skip g]
  |ins c fs=>let#[x,#[C,b],l]:=r;exact#[x,#[C,by rw[zj f];exact b],(l.more a).skip g]
  |dead=>exact r.elim
 .rcases h with h|h
  .exact j.dom y h
  .subst h;exact#[u,zx]
theorem yK.more{D:AJ}{u:HO}(b:H D=AD)(a:yK K cl B A H U C):yK K cl (Bx B D) A (L2.upd H D u) U C:=#[a.len,λi v e=>by let#[x,h,q]:=a.get i v e;exact#[x,h,(q.more b).skip (.inr rfl)]]
def yaf:Tg->IK (Option IL)->IQ
 |.n i,a=>decide (a[i]?=AA AD)
 |.t l,a=>l.all λi=>decide (a[i]?=AA AD)
def zhj:∀(l:IK IL)a(U:IC.Env)(j:IL),j∉l->((l.zip a).foldl (λU p=>U.set p.1 (AA p.2)) U)[j]?=U[j]?
 |[],a,U,j,h=>by simp
 |i::b,[],U,j,h=>by simp
 |i::b,v::a,U,j,h=>by
  erw[EI,Di];rw[zhj b a _ j λz=>h (AU _ z),AM]
  rintro rfl
  exact h Af
def zhk:∀(l:IK IL)a(U:IC.Env),((l.zip a).foldl (λU p=>U.set p.1 (AA p.2)) U).length=U.length
 |[],a,U=>by simp
 |i::b,[],U=>by simp
 |i::b,v::a,U=>by erw[EI,Di];rw[zhk b a,BY]
theorem yK.untgt{sl:IK (Option IL)}{c U1:IC.Env}{v:PV}(hf:yaf ct sl=AC)(d:∀(i:IL),sl[i]?=AA AD->c[i]?=AA AD)(a:yH ct v c=AA U1)(b:yK K cl B A H U1 C):yK K cl B A H c C:=by
 cases ct with
 |n i=>
  cases a
  erw[yaf,IN]at hf;refine#[by rw[<-b.len,BY],λj w e=>b.get j w ?_];rw[AM]
  .exact e
  .rintro rfl
   rw[d _ hf]at e;cases e
 |t l=>
  cases v with
  |tp k f=>
   erw[yH]at a;split at a
   .cases a
    erw[yaf,A3,IN]at hf;refine#[by rw[<-b.len,zhk],λj w e=>b.get j w ?_];rw[zhj]
    .exact e
    .intro z;rw[d _ (hf j z)]at e;cases e
   .cases a
  |_=>cases a
theorem yK.inn{sl:IK (Option IL)}(b:yK K cl B A H U C):yK K cl B A H (sl.map λo=>o.bind λj=>(U[j]?).join) (L2.inn sl C):=by
 unfold L2.inn;refine#[by simp,λi v e=>?_];rw[Bs]at e ⊢
 cases q:sl[i]? with
 |none=>rw[q]at e;cases e
 |some o=>
  rw[q]at e
  cases o with
  |none=>cases e
  |some j=>
   erw[Dl,BH,E8]at e ⊢
   cases a:U[j]? with
   |none=>rw[a]at e;cases e
   |some w=>
    rw[a]at e;erw[Option.join_some]at e;subst e;let#[x,c,d]:=b.get j v a;exact#[x,by rw[c];rfl,d]
def zst:1000000<sizeLine:=by rw[CC];decide
def zpY{F o}{k:IQ->R F}{z:F}{s}(h:onO o k=.ok z s):∃b,o=AA b/\k b=.ok z s:=by
 cases o with
 |none=>cases h
 |some b=>exact#[b,rfl,h]
def zbL{F G}{r:R F}{k:F->SO->R G}{z:G}{s}(h:r.bind k=.ok z s):∃a b,r=.ok a b/\k a b=.ok z s:=by
 cases r with
 |ok a b=>exact#[a,b,rfl,h]
 |exc c s=>cases h
 |bad=>cases h
def zk7{Rel:Ph->Hp->PV->V->Prop}{r:R (IK PV)}{Q:VK}(h:Run S X C B A H Rel (ybA r) Q):∃b a,r=.ok b a/\b.length<=1000000/\∀x c d,Step A H d c->yx X.K S.cl B d c a->Rel d c (.lst b) x->Q x c:=by
 cases r with
 |ok b a=>
  by_cases f:b.length<=1000000
  .simp only[ybA,IR f]at h;exact#[b,a,rfl,f,h]
  .simp only[ybA,IS f]at h;exact h.elim
 |exc k s=>exact h.elim
 |bad=>exact h.elim
def zhW{call l}{xs c:IK PV}{i:IL}{v}{m f:SO}(q:xs[i]?=AA v)(j:yac call l ct cc ce (xs.drop i) m=.ok c f):
  ∃U1 k d,yH ct v l=AA U1/\yaZ (ev call U1 m cc)=.ok k d/\((k=AB/\yac call l ct cc ce (xs.drop (i+1)) d=.ok c f) \/
   (k=AC/\∃y g a,ev call U1 d ce=.ok y g/\yac call l ct cc ce (xs.drop (i+1)) g=.ok a f/\c=y::a)):=by
 let#[r,e]:=An.1 q;rw[EQ r,e,zao]at j;let#[o,t,b,j]:=zbL j;let#[a,u,n,j]:=zbL j;injection j with w x;subst w x;unfold ya9 at b
 cases p:yH ct v l with
 |none=>rw[p]at b;cases b
 |some U1=>
  rw[p]at b;let#[C,d,z,b]:=zbL b;let#[k,A,b]:=zpY b;refine#[U1,k,d,rfl,by rw[z];erw[yaZ,R.bind,A,onO],?_]
  cases k with
  |false=>cases b;exact .inl #[rfl,n]
  |true=>
   let#[y,g,B,b]:=zbL b
   cases b
   exact .inr #[rfl,y,_,a,B,n,rfl]
def ycw(S:Se)(K:AF)(B:AJ->Prop)(D:AJ)(A1:Ph)(H1:Hp)(l:IC.Env)(m:IK PV->SO->R (IK PV))(n:IK PV)(f:SO)(xs:IK PV)(Cc:St)(g:IK V)(b:Hp):Prop:=
 ∃c d j a,Step A1 H1 c b/\b D=AA (.lst g)/\AA D∉c/\yx K S.cl (Bx B D) c b d/\yK K S.cl (Bx B D) c b l Cc/\yg K S.cl (Bx B D) c b j g/\m xs d=.ok a f/\j++a=n
theorem stays{D A5 a u}(s:Step A H A5 a)(n:AA D∉A)(e:H D=AA u):AA D∉A5/\a D=AA u:=by
 refine#[λz=>?_,s.keep D _ n e];rcases s.new D z with q|q
 .exact n q
 .rw[e]at q;cases q
theorem ycw.skip{D:AJ}{o:IK PV->SO->R (IK PV)}{p:IK PV}{c:SO}{xs:IK PV}{d A5:Ph}{f j:Hp}{m U1:IC.Env}{C4:St}{b:SO}{vs a:IK PV}{n:IK V}{v:PV}(t:Step A1 H1 d f)(g:Step d f A5 j)(q:AA D∉d)(r:f D=AA (.lst n))
  (rs:yx K S.cl (Bx B D) A5 j b) (hf:yaf ct (sl:IK (Option IL))=AC) (u:∀(i:IL),sl[i]?=AA AD->m[i]?=AA AD) (w:yH ct v m=AA U1) (x:yK K S.cl (Bx B D) d f U1 C4) (l:yg K S.cl (Bx B D) d f vs n) (y:o xs b=.ok a c) (z:vs++a=p):
  ycw S K B D A1 H1 m o p c xs C4 n j:=#[A5,b,vs,a,t.trans g,(stays g q r).2,(stays g q r).1,rs,yK.untgt hf u w (x.step g),l.step g,y,z]
theorem ycw.put{D:AJ}{x:IK PV->SO->R (IK PV)}{z:IK PV}{g:SO}{xs:IK PV}{j A5:Ph}{m p:Hp}{w U1:IC.Env}{C4:St}{d:SO}{vs a:IK PV}{r:IK V}{v y:PV}{t:V}(A:H1 D=AD)(C:Step A1 H1 j m)(u:Step j m A5 p)(E:AA D∉j)(G:m D=AA (.lst r))
  (rs:yx K S.cl (Bx B D) A5 p d) (H:yd K S.cl (Bx B D) A5 p y t) (hf:yaf ct (sl:IK (Option IL))=AC) (I:∀(i:IL),sl[i]?=AA AD->w[i]?=AA AD) (J:yH ct v w=AA U1) (L:yK K S.cl (Bx B D) j m U1 C4) (l:yg K S.cl (Bx B D) j m vs r) (M:x xs d=.ok a g) (N:vs++y::a=z):
  p D=AA (.lst r)/\ycw S K B D A1 H1 w x z g xs C4 (r++[t]) (L2.upd p D (.lst (r++[t]))):=by
 let#[O,Q]:=stays u E G;have f:Bx B D D:=.inr rfl;have c:=C.trans u;exact#[Q,A5,d,vs++[y],a,#[λb o n q=>by rw[zj (zo q A)];exact c.keep b o n q,c.len,c.pre,c.new],zx,O,rs.skip f,(yK.untgt hf I J (L.step u)).skip f,
  ((l.step u).append (by erw[yg];exact#[t,[],rfl,H,rfl])).skip f,M,by rw[Bg];exact N]
def zjQ{sl:IK (Option IL)}(i:IL)(q:sl[i]?=AA AD):(sl.map λo=>o.bind λj=>(U[j]?).join)[i]?=AA none:=by rw[Bs,q];rfl
def zeM{sl:IK (Option IL)}(hf:yaf ct sl=AC){J xs t l d}{Q:Hp->Prop}(rs1:yx X.K S.cl B A H l)(O:yK X.K S.cl B A H U C)(Y:RD S X B A H xs J){D:AJ}(n:H D=AD)
  (e:yac S.call (sl.map λo=>o.bind λj=>(U[j]?).join) ct cc ce xs l=.ok t d) (hz:t.length<=1000000) (Z:∀a c u,Step A H a c->c D=AA (.lst u)->¬B D->AA D∉a->yx X.K S.cl (Bx B D) a c d->yg X.K S.cl (Bx B D) a c t u->Q c):
  ∃W:IL->IL->St->IK V->Hp->Prop,(∃m,W 0 m (inn sl C) [] (L2.upd H D (.lst [])))/\ycs J D (tG0 S X.K ct) (tT0 S X.K cc) (tE0 S X.K ce) W Q:=by
 have nB:¬B D:=rs1.nB n;have nD:AA D∉A:=λz=>by let#[w,e]:=rs1.there z;rw[n]at e;cases e
 have r0:yK X.K S.cl (Bx B D) A (L2.upd H D (.lst [])) (sl.map λo=>o.bind λj=>(U[j]?).join) (inn sl C):=(yK.inn O).more n;have h0:=zjQ (U:=U) (sl:=sl);generalize (sl.map λo=>o.bind λj=>(U[j]?).join)=L at *;refine#[λi m Cc u c=>i+m=xs.length/\ycw S X.K B D A H L (yac S.call L ct cc ce) t d (xs.drop i) Cc u c,
  #[xs.length,(),A,l,[],t,.upd n,zx,nD,rs1.more n,r0,by erw[yg],by simpa using e,rfl],?_]
 rintro i m Cc u c ⟨hm,a,p,vs,rest,E,f,r,rs2,re2,M,ec,N⟩
 refine#[f,?_]
 by_cases hi:i<xs.length
 .have hzl:=Ic C5 N;rw[Ab,M.length]at hzl;refine .inr #[Y.go i a c E hi,EJ () zst,λC' G H'=>ycw S X.K B D A H L (yac S.call L ct cc ce) t d (xs.drop (i+1)) C' G H',λC' G H' q=>#[m-1,(),(),q],λx H3 hy=>?_];let#[v,hv,rv,kk]:=Y.yld i a c p x H3 (Bx B D) (λy z=>z.elim .inl λq=>.inr (q ▸ n)) E rs2 hi hy;have I:Step a c a H3:=#[λb o _ e=>kk b o e,AQ _,λ_ _ _ e=>e,λ_ h=>.inl h];let#[U1,k,st6,eb,et,q]:=zhW hv ec;refine#[Bx B D,a,p,_,v,U1,rs2.same kk,re2.step I,rv,eb,λC4 g=>#[Bx B D,a,p,U1,rs2.same kk,g,?_]];rw[et]
  rintro k' H5 A5 s5 rs5 rfl
  rcases q with⟨rfl,e2⟩|⟨rfl,y,st7,rest',e5,e2,rfl⟩
  .exact ycw.skip (E.trans I) s5 r (kk D _ f) rs5 hf h0 eb g (M.step I) e2 N
  .refine#[Bx B D,A5,st6,U1,rs5,g.step s5,?_];rw[e5];intro y' H6 A6 s6 rs6 ry;exact ycw.put n (E.trans I) (s5.trans s6) r (kk D _ f) rs6 ry hf h0 eb g (M.step I) e2 N
 .have ei:i=xs.length:=()
  subst ei;rw[Gh]at ec
  cases ec
  exact .inl #[Y.stop a c E,Z a c u E f nB r rs2 (by rw[<-N,Bv];exact M)]
def zji{sl:IK (Option IL)}(hf:yaf ct sl=AC){H Q}(h:tE S X (.comp sl ct ci cc ce) C H Q):ych sl (tI S X ci) (tG0 S X.K ct) (tT0 S X.K cc) (tE0 S X.K ce) C H Q:=by let#[B,A,st,U,c,b,h]:=h;rw[v_comp]at h;refine#[B,A,st,U,c,b,(Run.bind h).mono λJ H1 d=>?_];let#[x,f,A1,g,rs1,j,a]:=d;refine λD l=>?_;let#[y,m,e,n,a]:=zk7 a;exact zeM hf rs1 (b.step g) j l e n λo p q r t nB u rs2 w=>a (.ref D) p o r rs2.less (by erw[yd];exact#[D,q,rfl,#[t,nB,u],w.less])
def znZ{sc b sl a}(c:X.calm=AC)(O:yai X sc b sl)(hf:yaf ct sl=AC)(d:PI X tg iter (tI S X ci))(f:∀j,PG (cxC X sc b j) tg (tG0 S X.K ct))
  (g:∀j,PTs (cxC X sc b j) a (tT0 S X.K cc)) (l:∀j,PE (cxC X sc b j) elt (tE0 S X.K ce)) (m:∀x,foldedSetIterable iter X.env x=pure x:=by intro _;rfl):
  PE X (.ListComp elt [#[tg,iter,a,0]] sc pos) (tE S X (.comp sl ct ci cc ce)):=
 (znC c O d f g l m).imp λC H Q h=>zji hf h
end
def spI(K:AF)(g:IL->AJ)(call:IL->IK PV->SO->R PV)(f:IL):Sp:=λl H Q E=>∃B A st a,yx K g B A H st/\yg K g B A H a l/\match call f a st with
 |.ok v d=>∀x b j,Step A H j b->yx K g B j b d->yd K g B j b v x->Q x b
 |.exc c d=>∀b j,Step A H j b->yx K g B j b d->E (.ref (g c)) AD b
 |.bad=>IY
section
variable {S:Se}{X:Cx}{k:IL}{f:AJ}{fd:Aw}{ps ks:IK AL}{sp:Sp}{dvs:IK V}{ds:IK AG}{x:AL}{p pos:CB}{e:AT}{es:IK AT}{t tk:TA}{CX:CXT}{D:St}{H:Hp}
def zeo{G s Q us vs E}(F:yaG X.prog X.w X.K X.mg X.base CX k f fd ps sp)(d:yav k X.A)(g:Binds X.K fd ps ds)(j:Vals dvs ds)
  (I:Inv X G D H s) (r:Vals vs us) (h:sp (vs++dvs) H Q E) (l:∀e b,CX X.stack H s E e b->X.xe e b):A6 (model X.prog X.w) X.A (call (.ref f) us) (EP X G D Q) X.xe s:=by
 have c:Vals (vs++dvs) (us++ds):=r.append j;have m:(us++ds).length=ps.length:=by rw[<-c.length];exact F.len _ _ _ _ h
 refine GG (DH (F.run X.A X.stack s H #[us,[]] (us++ds) (vs++dvs) Q E d I.env0 (g s us I.kIn m) c h) λr b a=>?_)
 cases r with
 |error e=>exact l e b a
 |ok fl=>
  cases fl with
  |ret u=>exact I.after a
  |next=>exact BM a
  |brk=>exact BM a
  |cont=>exact BM a
def ycv(CX:CXT)(X:Cx)(sp:Sp)(dvs:IK V)(t:TA):TE:=λD H Q=>t D H λc a=>∃E:XK,sp (c++dvs) a Q E/\∀G s e b,Inv X G D a s->CX X.stack a s E e b->X.xe e b
def zlt(F:yaG X.prog X.w X.K X.mg X.base CX k f fd ps sp)(g:yav k X.A)(j:Gl X x)(l:X.mg x=AA (.ref f))(m:Al X.K (.ref f)=AC)(n:Binds X.K fd ps ds)(o:Vals dvs ds)
  (u:PA X (e::es) t) (a:(x==("__debug__":AL))=false:=by decide) (w:starEach (e::es) X.env=(AB,eval e X.env)::starEach es X.env:=by rfl) (b:(backTo pos (starEach es X.env)).any (·.1)=false:=by rfl):
  PE X (.Call (.Name x p) (e::es) [] pos) (ycv CX X sp dvs t):=by intro G s D H Q I h;refine BN (zb9 I j l ?_ a);refine C8 (h₀:=X.base) I.ok.mod.kin m (thn (u pos G s D H _ I h) λC y z=>?_) w b;let#[J,L,d,r,E,q,A]:=z;refine #[d.kIn,?_];exact zeo F g n o d r q λe B c=>A G y e B d c
def ziL(F:yaG X.prog X.w X.K X.mg X.base CX k f fd ps sp)(b:yav k X.A)(d:Gl X x)(g:X.mg x=AA (.ref f))(j:Al X.K (.ref f)=AC)(l:Binds X.K fd ps ds)(m:Vals dvs ds)
  (a:(x==("__debug__":AL))=false:=by decide):PE X (.Call (.Name x p) [] [] pos) (ycv CX X sp dvs ydn):=by intro G s D H Q I h;let#[E,q,n]:=h;refine BN (zb9 I d g ?_ a);exact Fm I.kIn j (zeo F b l m I .nil q λe o c=>n G s e o I c)
variable {B:AJ->Prop}{C:Ph}{st:SO}{ces:Ces}{fi:IL}
def zbQ{vs xs Q}(rs:yx X.K S.cl B C H st)(l:yg X.K S.cl B C H vs xs)(h:Run S X D B C H (RV S X B) (S.call fi vs st) Q):
  ∃E:XK,spI X.K S.cl S.call fi xs H Q E/\∀G s e a,Inv X G D H s->CX1 X.prog X.w X.stack H s E e a->X.xe e a:=by
 cases c:S.call fi vs st with
 |ok v b=>
  rw[c]at h;refine#[λ_ _ _=>IY,#[B,C,st,vs,rs,l,by rw[c];exact h],λG s e a _ z=>?_];let#[_,_,_,_,_,_,_,_,_,_,_,_,_,_,z]:=z;exact z.elim
 |exc k b=>
  rw[c]at h;refine#[λf _ g=>f=.ref (S.cl k)/\∃d,Step C H d g/\yx X.K S.cl B d g b,#[B,C,st,vs,rs,l,by rw[c];exact λg d s r=>#[rfl,d,s,r]],λG s e a I z=>h e a (.inl #[G,H,s,C,I,.rfl,z])]
 |bad=>rw[c]at h;exact h.elim
def zmG(F:yaG X.prog X.w X.K X.mg X.base (CX1 X.prog X.w) k f fd ps (spI X.K S.cl S.call fi))(c:yav k X.A)(d:Gl X x)(g:X.mg x=AA (.ref f))(j:Al X.K (.ref f)=AC)(l:Binds X.K fd ps [])
  (m:PA X (e::es) (tAs S X ces)) (a:(x==("__debug__":AL))=false:=by decide) (n:starEach (e::es) X.env=(AB,eval e X.env)::starEach es X.env:=by rfl) (b:(backTo pos (starEach es X.env)).any (·.1)=false:=by rfl):
  PE X (.Call (.Name x p) (e::es) [] pos) (tE S X (.call fi ces)):=
 (zlt F c d g j l .nil m a n b).imp λD H Q #[B,C,st,U,o,q,h]=>by erw[ev]at h;refine tAs.bind o q h λy z A r C1 E rs1 t u w=>?_;rw[Bv];exact zbQ rs1 u w
def zlJ(F:yaG X.prog X.w X.K X.mg X.base (CX1 X.prog X.w) k f fd ps (spI X.K S.cl S.call fi))(b:yav k X.A)(c:Gl X x)(d:X.mg x=AA (.ref f))(g:Al X.K (.ref f)=AC)(j:Binds X.K fd ps [])
  (a:(x==("__debug__":AL))=false:=by decide):PE X (.Call (.Name x p) [] [] pos) (tE S X (.call fi .nil)):=
 (ziL F b c d g j .nil a).imp λD H Q #[B,C,st,U,l,m,h]=>by erw[ev,IC.vsq0,IC.vsq1,R.bind]at h;exact zbQ l (by erw[yg];rfl) h
end
section
variable {P:Aa}{w:Ai}{K:AF}{mg:AL->Option AG}{base:Au}{cl:IL->AJ}{T:IL->Option IC.Fn}{fi:IL}{fn:IC.Fn}{x qual:AL}{stm:Bj}{f:AJ}{fd:Aw}{N ps:IK AL}{k:IL}
theorem CX1.mono{outer:IK BI}{H:Hp}{s:AK}{E f:XK}{e:AG}{s':AK}(h:CX1 P w outer H s E e s')(n:∀b c,E b AD c->f b AD c):CX1 P w outer H s f e s':=by let#[a,b,g,c,j,l,m,o,p,q,r,t,u,r9,d]:=h;exact#[a,b,g,c,j,l,m,o,p,q,r,t,u,r9,n _ _ d]
theorem yK.start{B:AJ->Prop}{C:Ph}{H:Hp}{args:IK PV}{vs:IK V}(l:yg K cl B C H args vs)(n:IL)(a:N.length-vs.length=n):yK K cl B C H (args.map AA++Av n AD) (L2.start N vs):=by
 have b:=l.length;unfold L2.start;refine#[by simp[b,a],λi v e=>?_]
 by_cases c:i<args.length
 .rw[A5 (by simpa using c),Bs]at e
  cases q:args[i]? with
  |none=>rw[q]at e;cases e
  |some g=>
   rw[q]at e
   cases e
   let#[y,d,f]:=l.get i q;exact#[y,by rw[A5 (by simp;lia),Bs,d];rfl,f]
 .rw[Ad (by simp;lia),Em]at e;split at e<;>cases e
theorem leave{N a x A outer b d E}{call:IL->IK PV->SO->R PV}{D B C H}{c:IL}{l e s'}
  (h:ExcAt #[cl,call,AC] (yaK (CX1 P w) P w K mg base N qual a f x A outer b d E) D B C H c l e s') (n:∀j g,Step C H j g->yx K cl B j g l->E (.ref (cl c)) AD g):
  (yaK (CX1 P w) P w K mg base N qual a f x A outer b d E).xe e s':=by
 rcases h with⟨F,m,s,C1,I,o,q⟩|⟨_,F,m,s,C1,G,J,L,I,o,y,z,rfl,rfl⟩|⟨_,F,m,s,I,q⟩
 .exact zsn F D m s e s' I (q.mono λp g #[t,j,u,r]=>by subst t;exact n j g (o.trans u) r)
 .exact zje I z (n C1 m o y)
 .exact zsr I (q.mono λp g #[t,j,u,r]=>by subst t;exact n j g u r)
def zka(d:T fi=AA fn):∀a(st:SO),yc T (k+1) fi a st ≠ .bad->a.length=fn.np:=λa st b=>by apply Classical.byContradiction;intro c;apply b;rw[yc,d];exact IS c
def zmr(c:T fi=AA fn)(b:ps.length=fn.np){vs H Q E}(h:spI K cl (yc T (k+1)) fi vs H Q E):vs.length=ps.length:=by let#[B,C,st,a,d,l,h]:=h;rw[b,<-l.length];refine zka (k:=k) c a st λz=>?_;rw[z]at h;exact h
def zmM(Y:T fi=AA fn)(hns:N.length=fn.ns){t cdv A outer s vs H Q E}(h:spI K cl (yc T (k+1)) fi vs H Q E):
  tSs #[cl,yc T k,AC] (yaK (CX1 P w) P w K mg base N qual t f cdv A outer s H E) fn.body {nx:=λ_ j=>Q .non j,rt:=Q} (L2.start N vs) H:=by
 let#[B,C,st,d,D,l,h]:=h;have hl:d.length=fn.np:=zka (k:=k) Y d st λz=>by rw[z]at h;exact h
 have Z:=l.length;rw[yc,Y]at h;dsimp only at h;rw[IR hl]at h
 by_cases hp:fn.pure=AC
 .rw[IR hp]at h
  by_cases I:nLs d=AC
  .rw[IR I]at h;have rs0:yx K cl (λa=>B a \/ AA a∈C) [] H []:=#[rfl,λm n a e=>by simp at e,λn a e=>by simp at e,λn o e=>by simp at e,λa z=>by simp at z,λa z=>z.elim (D.dom a) D.there];have back:∀{r:Ph} {j:Hp},Step [] H r j->Step C H C j/\yx K cl B C j st:=λ{r j} p=>
    have kk:∀b o,H b=AA o->j b=AA o:=λb o e=>p.keep b o (by simp) e
    #[#[λb o _ e=>kk b o e,AQ _,λ_ _ _ e=>e,λ_ h=>.inl h],D.same kk]
   refine#[_,[],[],_,rs0,yK.start (yg.inn D.nb d vs I l) (fn.ns-fn.np) (),?_];show yar _ _ _ _ _ (exs (yc T k) (d.map AA++Av (fn.ns-fn.np) AD) [] fn.body) _
   cases e:exs (yc T k) (d.map AA++Av (fn.ns-fn.np) AD) [] fn.body with
   |nx u g=>
    rw[e]at h;intro J j r p q L;let#[x,G]:=back p;exact h .non j C x G (by erw[yd])
   |rt v g=>
    rw[e]at h;dsimp only at h
    by_cases M:nL v=AC
    .rw[IR M]at h;intro y j r p q O;let#[x,G]:=back p;exact h y j C x G (yd.out v y M O)
    .rw[IS M]at h;exact h.elim
   |exc c u g=>
    rw[e]at h;intro J C1 H1 ev p U _ ex;refine leave ex λC2 X x _=>?_;let#[s3,r3]:=back (U.trans x);exact h X C s3 r3
   |bk u g=>rw[e]at h;exact h.elim
   |ct u g=>rw[e]at h;exact h.elim
   |bad=>rw[e]at h;exact h.elim
  .rw[IS I]at h;exact h.elim
 .rw[IS hp]at h;refine#[B,C,st,_,D,yK.start l (fn.ns-fn.np) (),?_];show yar _ _ _ _ _ (exs (yc T k) (d.map AA++Av (fn.ns-fn.np) AD) st fn.body) _
  cases e:exs (yc T k) (d.map AA++Av (fn.ns-fn.np) AD) st fn.body with
  |nx u g=>
   rw[e]at h;intro J j r p q L;exact h .non j r p q (by erw[yd])
  |rt v g=>
   rw[e]at h;intro y j r p q O;exact h y j r p q O
  |exc c u g=>
   rw[e]at h;intro J C1 H1 ev p U _ ex;exact leave ex λC2 X x G=>h X C2 (U.trans x) G
  |bk u g=>rw[e]at h;exact h.elim
  |ct u g=>rw[e]at h;exact h.elim
  |bad=>rw[e]at h;exact h.elim
end
def tyN:Ty->Ii
 |.int=>"int" | .bool=>"bool" | .str=>"str" | .tuple=>"tuple" | .list=>"list" | _=>""
structure yfl(K:AF)(t:Ty):Prop where
 n:BJ K (.type "NoneType") (.type (tyN t))=AA (ya1 .non t)
 b:BJ K (.type "bool") (.type (tyN t))=AA (ya1 (.bl AC) t)
 i:BJ K (.type "int") (.type (tyN t))=AA (ya1 (.int 0) t)
 s:BJ K (.type "str") (.type (tyN t))=AA (ya1 (.str DD) t)
 p:BJ K (.type "tuple") (.type (tyN t))=AA (ya1 (.tp AC []) t)
 l:BJ K (.type "list") (.type (tyN t))=AA (ya1 (.lst []) t)
section
variable {S:Se}{X:Cx}{C:St}{B:AJ->Prop}{A:Ph}{H:Hp}{st:SO}{p pos p2 px:CB}{a b c d o:AT}{ca cb cc:Ce}{t:Ty}
def ygX(S:Se)(X:Cx)(t:Ty):IK V->Hp->VK->Prop:=λd H Q=>∃B A st v x z,d=[x,.ty (tyN t)]/\yx X.K S.cl B A H st/\yd X.K S.cl B A H v x/\yaH v [t]=AA z/\ydZ t=AC /\
 ∀c a b,Step A H b a->yx X.K S.cl B b a st->yd X.K S.cl B b a z c->Q c a
def zoO(Z:yfl X.K t):yU X (.builtin "isinstance") (ygX S X t):=by
 rintro E s C H O U Q I r ⟨B,A,st,v,x,z,rfl,w,d,e,f,q⟩
 let#[u,D,rfl,j,G]:=vals2 r
 cases (show D=Ez (tyN t)from G)
 have b:∀(k:IQ) (a:IL),z=.bl k->EP X E C Q (.bool k) {s with toks:=a}:=λk a J=>#[.bl k,H,I.tok a,rfl,q _ H A .rfl w (by subst J;erw[yd])]
 cases v with
 |non=>
  erw[yd]at d;subst d
  cases (show u=Bt from j)
  erw[yaH,f,IV]at e;exact CL PySem.W.kitx_none I.kIn C7 Z.n (λz=>nomatch z) λa=>b _ a (by cases e;cases t<;>rfl)
 |bl k=>
  erw[yd]at d;subst d
  cases (show u=Ds k from j)
  erw[yaH,f,IV]at e;exact CL PySem.W.kitx_bool I.kIn C7 Z.b (λz=>nomatch z) λa=>b _ a (by cases e;cases t<;>rfl)
 |int k=>
  erw[yd]at d;subst d;let#[a,rfl]:=j;erw[yaH,f,IV]at e;exact CL PySem.W.kitx_int I.kIn C7 Z.i (λz=>nomatch z) λa=>b _ a (by cases e;cases t<;>rfl)
 |str k=>
  erw[yd]at d;subst d;let#[a,rfl]:=j;erw[yaH,f,IV]at e;exact CL PySem.W.kitx_str I.kIn C7 Z.s (λz=>nomatch z) λa=>b _ a (by cases e;cases t<;>rfl)
 |tp k L=>
  erw[yd]at d;let#[y,p,rfl,m,l]:=d
  cases (show u=Ae y from j)
  erw[yaH,f,IV]at e;let#[M,_,#[o,g,c,_,_],_]:=I.tuple m.sq;exact CL PySem.W.kitx_tuple I.kIn #[o,g,c] Z.p (λz=>nomatch z) λa=>b _ a (by cases e;cases t<;>rfl)
 |lst L=>
  erw[yd]at d;let#[y,p,rfl,m,l]:=d
  cases (show u=Ae y from j)
  erw[yaH,f,IV]at e;let#[_,_,n,_,N]:=(show yQ X.prog X.w H s.heap y (.lst p)from I.hok y _ m.1);exact CL PySem.W.kitx_list I.kIn #[_,N,rfl] Z.l (λz=>nomatch z) λa=>b _ a (by cases e;cases t<;>rfl)
 |loc n=>cases e
 |scr n=>cases e
 |fnc n=>cases e
 |exn n=>erw[yaH,BE,IK.all_nil,f,CU,IV]at e;cases e
def zqZ{T}(Z:yfl X.K t)(m:ydZ t=AC)(n:Gl X "isinstance")(o:X.mg "isinstance"=AD)(b:Gl X T)(c:X.mg T=AD)(r:bootBuiltins T=AA (.type (tyN t)))(u:PE X a (tE S X ca))(d:T ≠ "__name__":=by decide)(f:(T==("__debug__":AL))=false:=by decide)
  (l:starEach [a,.Name T p2] X.env=(AB,eval a X.env)::starEach [.Name T p2] X.env:=by rfl) (g:(backTo pos (starEach [.Name T p2] X.env)).any (·.1)=false:=by rfl):
  PE X (.Call (.Name "isinstance" p) [a,.Name T p2] [] pos) (tE S X (.isi ca [t])):=
 (zdK (zoO Z) n o Cb (zav u (zav (zjx (v:=.ty (tyN t)) b c r rfl d f) zrH) l) ⋯ ⋯ l g).imp λC H Q #[B,A,st,U,w,y,h]=>by erw[ev]at h;refine tE.bind w y h λx J v j D L rs1 E G I=>?_;let#[z,e,q]:=zar I rs1;exact#[B,D,j,v,x,z,rfl,rs1,G,e,m,q]
def zku{b}{x y v:PV}(h:ybl st x y v=AA b):∃n a k j,x=.loc n/\st[n]?=AA (.lst a)/\y=.int k/\ixI a.length k=AA j/\b=st.set n (.lst (a.set j v)):=by
 cases x with
 |loc n=>
  erw[ybl]at h
  cases q:st[n]? with
  |none=>rw[q]at h;cases h
  |some o=>
   rw[q]at h
   cases o with
   |lst a=>
    cases y with
    |int k=>
     dsimp only at h
     cases c:ixI a.length k with
     |none=>rw[c]at h;cases h
     |some j=>rw[c]at h;exact#[n,a,k,j,rfl,q,rfl,c,(AX h).symm]
    |_=>cases h
   |_=>cases h
 |_=>cases h
theorem yg.put{K:AF}{a:IL->AJ}:∀{vs:IK PV} {xs:IK V} (j:IL) {v:PV} {x:V},yg K a B A H vs xs->yd K a B A H v x->yg K a B A H (vs.set j v) (xs.set j x)
 |[],xs,j,v,x,l,r=>by erw[yg]at l;subst l;simp[yg]
 |w::vs,xs,0,v,x,l,r=>by erw[yg]at l;let#[y,b,rfl,_,l]:=l;erw[BO,yg];exact#[x,b,rfl,r,l]
 |w::vs,xs,j+1,v,x,l,r=>by erw[yg]at l;let#[y,b,rfl,c,l]:=l;erw[BP,yg];exact#[y,b.set j x,rfl,c,yg.put j l r]
def zpZ(E:PE X a (tE S X ca))(ho:PE X b (tE S X cb))(hi:PE X c (tE S X cc))(G:swapsWithSole [.Subscript b c px] a pos.line X.env=pure false:=by rfl)(I:swappedStores [.Subscript b c px] a X.env=pure none:=by rfl)
  (J:PG X (.Subscript b c px) (yfF (tE S X cb) (tE S X cc) ydl):=by exact zmd ‹_› ‹_› zg8):PS X (.Assign [.Subscript b c px] a pos) (tS S X (.six cb cc ca)):=
 (zl4 E J G I).imp λD C H #[B,A,st,U,L,M,h]=>by
  erw[ex]at h;refine tE.fl L M h λN H1 v O A1 s1 rs1 f Q Y=>tE.fl rs1 f Y λx' H2 x Z A2 s2 rs2 g rx h2=>tE.fl rs2 g h2 λy' q y m A3 r rs3 o t d=>?_
  cases e:ybl m x y v with
  |none=>rw[e]at d;exact d.elim
  |some st4=>
   rw[e]at d;let#[n,xs,k,j,rfl,hn,rfl,hj,rfl]:=zku e;erw[yd]at t;subst t;let#[l,u,rfl,w,hx,z]:=rs3.list (rx.step r) hn;refine#[l,u,k,j,rfl,rfl,hx,by rw[<-z.length];exact hj,?_];have p:Step A3 q A3 (L2.upd q l (.lst (u.set j N))):=.put (AZ w);exact d C _ A3 p (rs3.put w #[_,zx,(z.put j ((Q.step s2).step r)).step p]) (o.step p)
end
section
variable {S:Se}{X:Cx}{C:St}{B:AJ->Prop}{A:Ph}{H:Hp}{st:SO}{p pos p2 px py pt pt2 apos:CB}{a b c d o:AT}{ca cb cc:Ce}{kt k2:IL}
def zqu{i j:IL}{x y}(G:X.calm=AC)(I:X.N.Nodup)(J:X.N[i]?=AA x)(L:X.N[j]?=AA y)(g:i≠j)(h:PS X (.Assign [.Tuple [.Name x px,.Name y py] kt pt] (.Tuple [a,b] k2 pt2) pos) (yf2 i j (tAs S X (.cons ca (.cons cb .nil))))):
  PS X (.Assign [.Tuple [.Name x px,.Name y py] kt pt] (.Tuple [a,b] k2 pt2) pos) (tS S X (.asg (.t [i,j]) (.tup (.cons ca (.cons cb .nil))))):=
 h.imp λD C H #[B,A,st,U,m,c,h]=>by
  erw[ex,ev]at h;refine#[B,A,st,U,m,c,?_]
  cases e:evs S.call U st (.cons ca (.cons cb .nil))with
  |bad=>rw[e]at h;exact h
  |exc k d=>rw[e]at h;exact λe n x=>h C A H e n .rfl c x
  |ok o d=>
   rw[e]at h;intro M p q s f l;erw[R.bind]at h;split at h
   .rcases o with _|⟨v,_|⟨w,_|⟨u,t⟩⟩⟩
    .exact h.elim
    .exact h.elim
    .let#[r,z,rfl,E,rw]:=l.two;refine#[r,z,rfl,?_];exact h _ p q s f (((c.step s).set i E).set j rw)
    .exact h.elim
   .exact h.elim
def zod{a}{v w z:PV}(h:ybE a v w=AA z):∃i j,v=.int i/\w=.int j/\IC.binI a i j=AA z:=by
 unfold ybE at h;split at h
 .exact#[_,_,rfl,rfl,h]
 .cases h
def zn5:PIp X .Add (rT2 S X (ybE .add)):=by
 rintro E s C H x y v u Q I f g ⟨B,A,st,a,b,z,l,c,d,e,q⟩
 let#[i,j,rfl,rfl,e]:=zod e
 cases e
 erw[yd]at c d;subst c d;exact zpM E s C H _ _ v u Q I f g #[i,j,rfl,rfl,q _ H A .rfl l (by erw[yd])]
end
end L2
namespace WK
open PySem L2 IC
def GC(K:AF)(a:AL->Option AG)(b:IL->AJ)(x:AL)(v:PV):Prop:=∃(y:V) (u:AG),a x=AA u/\RelV y u/\∀B A H,yd K b B A H v y
def zra{S:Se}{X x v pos}(a:Gl X x)(h:GC X.K X.mg S.cl x v)(b:(x==("__debug__":AL))=false:=by decide):PE X (.Name x pos) (tE S X (.cst v)):=by
 let#[y,u,c,d,f]:=h;exact(zdq a c d b).imp λC H Q #[B,A,st,U,g,j,h]=>by erw[ev]at h;exact h.ok g (f B A H)
def zlT:bootBuiltins "int"=AA (.type "int"):=∅
def zn1:bootBuiltins "bool"=AA (.type "bool"):=∅
def zo5:bootBuiltins "str"=AA (.type "str"):=∅
def zhB:bootBuiltins "tuple"=AA (.type "tuple"):=∅
def zmO:bootBuiltins "list"=AA (.type "list"):=∅
def zpr:bootBuiltins "len"=AA (.builtin "len"):=∅
def zqa:bootBuiltins "abs"=AA (.builtin "abs"):=∅
def zqE:bootBuiltins "min"=AA (.builtin "min"):=∅
def zqU:bootBuiltins "max"=AA (.builtin "max"):=∅
def zpm:bootBuiltins "all"=AA (.builtin "all"):=∅
end WK
namespace L2
open PySem PySem.Spec PyProof.Rows IC
def shC:Sum Ce IM->Option IM
 |.inl _=>AD
 |.inr i=>AA i
def yaM:IK (Option IM)->IK V->IK V
 |[],_=>[]
 |some i::r,a=>.int i::yaM r a
 |none::r,z::a=>z::yaM r a
 |none::_,[]=>[]
def pick:IK (Option IM)->IK V->IK V
 |none::r,v::a=>v::pick r a
 |some _::r,_::a=>pick r a
 |_,_=>[]
def nKw:IK (Option IM)->IL
 |[]=>0
 |none::r=>nKw r+1
 |some _::r=>nKw r
def yc8:Ces->IL
 |.nil=>0
 |.cons _ r=>yc8 r+1
def gK(b:IL)(sh:IK (Option IM))(vs a:IK V):IK V:=if vs.length=b/\a.length=nKw sh then vs++yaM sh a else []
def ziu{call U}:∀(a:Ces){st b:SO}{vs},evs call U st a=.ok vs b->vs.length=yc8 a
 |.nil,st,b,vs,h=>by erw[IC.vsq0,IC.vsq1]at h;cases h;rfl
 |.cons e r,st,b,vs,h=>by
  erw[IC.vsq0,IC.vsq1]at h
  cases q:ev call U st e with
  |ok v f=>
   rw[q]at h;erw[R.bind]at h
   cases d:evs call U f r with
   |ok g j=>
    rw[d]at h
    cases h
    simp[yc8,ziu r d]
   |exc c s=>rw[d]at h;cases h
   |bad=>rw[d]at h;cases h
  |exc c s=>rw[q]at h;cases h
  |bad=>rw[q]at h;cases h
def zjN{call U}:∀a b st,evs call U st (yw a b)=(evs call U st a).bind λg d=>(evs call U d b).bind λj f=>.ok (g++j) f
 |.nil,b,st=>by
  erw[yw,IC.vsq0,IC.vsq1,R.bind,CM]
  cases evs call U st b<;>rfl
 |.cons e r,b,st=>by
  erw[yw,IC.vsq0,IC.vsq1]
  cases ev call U st e with
  |ok v d=>
   erw[R.bind];rw[zjN r b d]
   cases evs call U d r with
   |ok g f=>
    erw[R.bind]
    cases evs call U f b<;>rfl
   |exc c s=>rfl
   |bad=>rfl
  |exc c s=>rfl
  |bad=>rfl
section
variable {S:Se}{X:Cx}{k:IL}{f:AJ}{fd:Aw}{ps ks:IK AL}{sp:Sp}{x:AL}{p pos kpos:CB}{e:AT}{es:IK AT}{kws:IK Br}{nm:Option AL}{t tk:TA}{CX:CXT}{ca:Ce}{ces:Ces}{items:IK (Sum Ce IM)}{g:IK AG->IK AG->IK AG}{gV:IK V->IK V->IK V}
def zdm{K j B C H call U}:∀items{st a:SO}{vs}{xs:IK V},evs call U st (ye items)=.ok vs a->yg K j B C H vs xs->yaM (items.map shC) (pick (items.map shC) xs)=xs/\(pick (items.map shC) xs).length=nKw (items.map shC)
 |[],st,a,vs,xs,h,l=>by
  erw[ye,IC.vsq0,IC.vsq1]at h
  cases h
  erw[yg]at l;subst l;exact#[rfl,rfl]
 |.inl c::r,st,a,vs,xs,h,l=>by
  erw[ye,IC.vsq0,IC.vsq1]at h;let#[v,m,g,h]:=zbL h;let#[n,o,b,h]:=zbL h
  cases h
  erw[yg]at l;let#[y,p,rfl,_,l]:=l;let#[d,f]:=zdm r b l;erw[AO,shC,pick,yaM,nKw,A7,d,f];exact#[trivial,trivial]
 |.inr i::r,st,a,vs,xs,h,l=>by
  erw[ye,IC.vsq0,IC.vsq1,ev]at h;let#[v,m,g,h]:=zbL h;let#[n,o,b,h]:=zbL h
  cases h
  cases g
  erw[yg,yd]at l;let#[y,p,rfl,rfl,l]:=l;let#[d,f]:=zdm r b l;erw[AO,shC,pick,yaM,nKw,d,f];exact#[trivial,trivial]
def tK(S:Se)(X:Cx)(items:IK (Sum Ce IM)):TA:=λD H Q=>∃B C st U,yx X.K S.cl B C H st/\yK X.K S.cl B C H U D/\Run S X D B C H (RL S X B) (evs S.call U st (ye items)) λa b=>Q (pick (items.map shC) a) b
theorem PK.imp{t t':TA}(h:PK X kws t')(k:∀D H Q,t D H Q->t' D H Q):PK X kws t:=λpos G s D H Q I q=>h pos G s D H Q I (k D H Q q)
def zoR:PK X [] (tK S X []):=zsj.imp λD H Q #[B,C,st,U,a,b,h]=>by erw[ye,IC.vsq0,IC.vsq1]at h;exact h.ok a (x:=[]) (by erw[yg])
def zry{i:IM}(h:PK X kws (tK S X items)):PK X kws (tK S X (.inr i::items)):=h.imp λD H Q #[B,C,st,U,b,d,h]=>by
 erw[ye,IC.vsq0,IC.vsq1,ev,R.bind]at h;refine#[B,C,st,U,b,d,?_]
 cases e:evs S.call U st (ye items)with
 |ok n f=>
  rw[e]at h;intro g j m s a l;exact h (.int i::g) j m s a (by erw[yg,yd];exact#[_,_,rfl,rfl,l])
 |exc c s=>rw[e]at h;exact h
 |bad=>rw[e]at h;exact h
def zrc(d:PE X e (tE S X ca))(h:PK X kws (tK S X items)):PK X (#[nm,e,kpos] :: kws) (tK S X (.inl ca::items)):=(znT d h).imp λD H Q #[B,C,st,U,f,g,h]=>by erw[ye,IC.vsq0,IC.vsq1]at h;refine tE.bind f g h λx r v a C1 t rs1 b j m=>#[B,C1,a,U,rs1,b,?_];refine(Run.bind (Rel:=RL S X B) m).mono λc u n=>?_;let#[w,o,C2,p,rs2,l,q]:=n;exact q.ok rs2 (x:=x::c) (by erw[yg];exact#[x,c,rfl,j.step p,l])
def zkX{o:IL}(F:yaG X.prog X.w X.K X.mg X.base (CX1 X.prog X.w) k f fd ps (spI X.K S.cl S.call o))(hr:yav k X.A)(hg:Gl X x)(hm:X.mg x=AA (.ref f))(hk:Al X.K (.ref f)=AC){l:IL}(M:∃g,ybs X.K fd ps ks g (gK l (items.map shC)))(Z:yc8 ces=l)
  (ha:PA X (e::es) (tAs S X ces)) (hkw:PK X kws (tK S X items)) (t:(backToKw pos (keywordEach kws X.env)).all (·.1.isSome)=true:=by rfl) (hks:(backToKw pos (keywordEach kws X.env)).filterMap (·.1)=ks:=by rfl)
  (hdb:(x==("__debug__":AL))=false:=by decide) (he:starEach (e::es) X.env=(AB,eval e X.env)::starEach es X.env:=by rfl)
  (hpl:((backTo pos (starEach (e::es) X.env)).any (·.1) || (backToKw pos (keywordEach kws X.env)).any (·.1.isNone))=false:=by rfl):
  PE X (.Call (.Name x p) (e::es) kws pos) (tE S X (.call o (yw ces (ye items)))):=by
 intro G s D H Q I #[B,C,st,U,rs,re,h];erw[ev]at h;rw[zjN,R.bind_assoc]at h;refine BN (zb9 I hg hm ?_ hdb);have h0:tAs S X ces D H λd w=>tK S X items D w λzs m=>∃E:XK,spI X.K S.cl S.call o (gK l (items.map shC) d zs) m Q E/\∀G s e N,Inv X G D m s->CX1 X.prog X.w X.stack m s E e N->X.xe e N:=by
  have y:∀d z,evs S.call U st ces=.ok d z->d.length=l:=λd z q=>(ziu ces q).trans Z;refine#[B,C,st,U,rs,re,?_]
  cases q:evs S.call U st ces with
  |exc c s=>rw[q]at h;exact h
  |bad=>rw[q]at h;exact h
  |ok d b=>
  rw[q]at h;intro xs w C1 O rs1 rv;have j:=Run.on O h;have re1:=re.step O;have hv:=y d b q;refine#[B,C1,b,U,rs1,re1,?_];have j:Run S X D B C1 w (RV S X B) (((evs S.call U b (ye items)).bind λa st=>(R.ok (d++a) st:R (IK PV))).bind λd b=>S.call o d b) Q:=j;rw[R.bind_assoc]at j
  cases e:evs S.call U b (ye items)with
  |ok A st2=>
   rw[e]at j;intro ys m C2 n rs2 l2;let#[m1,m2]:=zdm items e l2;have eg:gK l (items.map shC) xs (pick (items.map shC) ys)=xs++ys:=by unfold gK;rw[IR #[by rw[<-rv.length];exact hv,m2],m1]
   show ∃E:XK,spI X.K S.cl S.call o (gK l (items.map shC) xs (pick (items.map shC) ys)) m Q E/\_;rw[eg];exact zbQ rs2 ((rv.step n).append l2) (Run.on n j)
  |exc c s=>rw[e]at j;exact j
  |bad=>rw[e]at j;exact j
 refine PySem.W.callWith_KW (h₀:=X.base) I.ok.mod.kin hk t (thn (ha pos G s D H _ I h0) λY O kq=>?_) hpl he;let#[d,w,I1,r,q]:=kq;refine thn (hkw pos G O D w _ I1 q) λA n kq=>?_;let#[zs,m,J,rz,E,q2,hx]:=kq;refine #[J.kIn,?_];rw[hks];let#[g,M]:=M;have r2:=M.rel r rz;have hl:(g Y A).length=ps.length:=by rw[<-r2.length];exact F.len _ _ _ _ q2
 refine GG (DH (F.run X.A X.stack n m #[Y,ks.zip A] (g Y A) (gK l (items.map shC) d zs) Q E hr J.env0 (M.to n Y A J.kIn hl) r2 q2) λr N L=>?_)
 cases r with
 |error e=>exact hx G n e N J L
 |ok fl=>
  cases fl with
  |ret u=>exact J.after L
  |next=>exact BM L
  |brk=>exact BM L
  |cont=>exact BM L
end
def ya3:IK (Option IM)->IK AG->IK AG->IK AG
 |[],_,_=>[]
 |some _::r,a,d::b=>d::ya3 r a b
 |none::r,w::a,_::b=>w::ya3 r a b
 |_,_,_=>[]
def zdU:∀(sh:IK (Option IM))(f:IK IM){j}{l us:IK AG},Vals (f.map V.int) us->Vals j l->sh.length=f.length->(∀p∈sh.zip f,∀i,p.1=AA i->i=p.2)->Vals (yaM sh j) (ya3 sh l us)
 |[],f,j,l,us,r,q,g,h=>.nil
 |some i::r,[],j,l,us,n,q,g,h=>by simp at g
 |some i::r,d::f,j,l,_,.cons a b,q,g,h=>by have:i=d:=h (AA i,d) (by simp) i rfl;subst this;exact .cons a (zdU r f b q (by simpa using g) λp m=>h p (by simp[m]))
 |none::r,[],j,l,us,n,q,g,h=>by simp at g
 |none::r,d::f,_,_,_,.cons a b,.nil,g,h=>.nil
 |none::r,d::f,_,_,_,.cons a b,.cons c q,g,h=>.cons c (zdU r f b q (by simpa using g) λp m=>h p (by simp[m]))
structure FnD(K:AF)(mg:AL->Option AG)(x:AL)(st:Bj)(ps:IK AL)(ds:IK IM)(f:AJ)(fd:Aw):Prop where
 ex:∃(oc:AG) (od:Option AJ) (dT:AJ) (kV doc pm:AG) (an:Option AJ) (cdv ct:AG) (osl:Ie (Option AG)) (o:Bi) (its:Ie AG) (n:IL),
  fd=B0 x x (yad st) (yN st) (yh st) (.ref dT) kV doc pm an cdv ct/\K.lookup f=AA #[oc,od,.func fd,osl]/\CF K cdv x=AC/\K.lookup dT=AA o/\o.data=.seq its n/\Vals (ds.map V.int) its.toList
 kp:Al K (.ref f)=AC
 m:mg x=AA (.ref f)
theorem kbD{K H x st}{q t:IK AL}{l f fd}{m a:IL}{sh}(D:FnD K H x st q l f fd)(w:t.length=nKw sh)(y:sh.length=(l.drop a).length)(z:((sh.zip (l.drop a)).all λp=>p.1.all λi=>decide (i=p.2))=AC)
  (h:∀u kV doc A an j B(us d b:IK AG),us.length=m->d.length=t.length->b.length=l.length ->
   ∃k,bindArgs (B0 x x (yad st) (yN st) (yh st) (.ref u) kV doc A an j B) #[us,t.zip d]=seqItems? (.ref u) >>= k/\k (AA b.toArray)=pure (q.zip (us++ya3 sh d (b.drop a)))) (I:0<q.length):
  ∃g,ybs K fd q t g (gK m sh):=by
 have J:∀p∈sh.zip (l.drop a),∀i,p.1=AA i->i=p.2:=λp L i M=>by have:=A3.mp z p L;rw[M]at this;simpa using this
 let#[Z,od,u,kV,doc,A,an,j,B,N,o,b,n,rfl,lk,O,lo,Q,r]:=D.ex;refine#[λus d=>if us.length=m/\d.length=nKw sh then us++ya3 sh d (b.toList.drop a)else [],#[λs us d U C=>?_,λ{vs us zs d} E G=>?_]]
 .by_cases c:us.length=m/\d.length=nKw sh
  .rw[IR c]at C ⊢;let#[k,X,Y]:=h u kV doc A an j B us d b.toList c.1 (by rw[w];exact c.2) (by rw[<-r.length,Aq]);exact BindsTo.of_defaults rfl (U _ _ lo) Q X (by simpa using Y)
  .rw[IS c]at C;simp at C;lia
 .unfold gK;have e1:=E.length;have e2:=G.length
  by_cases c:us.length=m/\d.length=nKw sh
  .rw[IR c,IR ()];refine E.append (zdU sh (l.drop a) ?_ G y J);rw[IK.map_drop];exact r.drop a
  .rw[IS c,IS ()];exact .nil
section
variable {P:Aa}{w:Ai}{K:AF}{mg:AL->Option AG}{base:Au}{cl:IL->AJ}{T:IL->Option IC.Fn}{fi:IL}{fn:IC.Fn}{x:AL}{stm:Bj}{f:AJ}{fd:Aw}{N ps:IK AL}{ds:IK IM}{k:IL}
end
def ze7(a b):peq (yaB a) (yaB b)=decide (a=b):=by
 rw[Dj]
 cases a with
 |inl i=>cases b with
  |inl j=>show (i==j)=AC ↔ _;simp
  |inr y=>show AB=AC ↔ _;simp
 |inr x=>cases b with
  |inl j=>show AB=AC ↔ _;simp
  |inr y=>show (x==y)=AC ↔ _;simp
def zg1:∀(a b:IK Key),ybJ (a.map yaB) (b.map yaB)=decide (a=b)
 |[],[]=>rfl
 |[],y::c=>rfl
 |x::d,[]=>rfl
 |x::d,y::c=>by show (peq (yaB x) (yaB y)&&ybJ (d.map yaB) (c.map yaB))=_;rw[ze7,zg1 d c];rw[Dj];simp
def zfk(a b:IK Key):peq (.tup (a.map yaB)) (.tup (b.map yaB))=decide (a=b):=by exact zg1 a b
def zjy{k:PV}(h:ybw k=AC):∃q,k=yaB q:=by
 cases k with
 |int i=>exact#[.inl i,rfl]
 |str i=>exact#[.inr i,rfl]
 |_=>cases h
def ziR:∀{a:IK PV},a.all ybw=AC->∃b:IK Key,a=b.map yaB
 |[],_=>#[[],rfl]
 |k::a,h=>by rw[BE,AH]at h;let#[q,rfl]:=zjy h.1;let#[b,rfl]:=ziR h.2;exact#[q::b,rfl]
section
variable {S:Se}{X:Cx}{K:AF}{cl:IL->AJ}{E:St}{B:AJ->Prop}{C:Ph}{H:Hp}{st:SO}{p pos p2 px apos:CB}{a b c d o:AT}{ca cb cc:Ce}
def zrU{q x}:yd K cl B C H (yaB q) x ↔ x=kV q:=by cases q<;>simp[yaB,yd,kV]
def zfR:∀{a:IK Key} {xs:IK V},yg K cl B C H (a.map yaB) xs->xs=a.map kV
 |[],xs,l=>by simpa only[BV,yg] using l
 |q::a,xs,l=>by erw[AO,yg]at l;let#[y,b,rfl,r,l]:=l;rw[zrU.mp r,zfR l];rfl
theorem DK.look{q:Key}:∀{a:IK (PV×PV)} {b:IK (Key×V)},DK K cl B C H a b->∀{v:PV} {x:V},yd K cl B C H v x->yd K cl B C H ((IC.look (yaB q) a).getD v) ((ybu b q).getD x)
 |[],b,h,v,x,r=>by cases h;exact r
 |(k,w)::t,b,h,v,x,r=>by
  let#[c,y,s,rfl,rfl,d,l]:=h;erw[IC.look,ze7]
  by_cases e:c=q
  .rw[zc5 (p:=(c,y)) e];simp[e,d]
  .rw[zdd (p:=(c,y)) e];erw[IN,e,Ib];exact DK.look l r
theorem DT.look{q:IK Key}:∀{a:IK (PV×PV)} {b:IK (IK Key×V)},DT K cl B C H a b->∀{v:PV} {x:V},yd K cl B C H v x->yd K cl B C H ((IC.look (.tup (q.map yaB)) a).getD v) ((ybu b q).getD x)
 |[],b,h,v,x,r=>by cases h;exact r
 |(k,w)::t,b,h,v,x,r=>by
  let#[c,y,s,rfl,rfl,d,l]:=h;erw[IC.look,zfk]
  by_cases e:c=q
  .rw[zc5 (p:=(c,y)) e];simp[e,d]
  .rw[zdd (p:=(c,y)) e];erw[IN,e,Ib];exact DT.look l r
theorem DK.any{q:Key}:∀{a:IK (PV×PV)} {b:IK (Key×V)},DK K cl B C H a b->(a.any λp=>peq p.1 (yaB q))=b.any λc=>decide (c.1=q)
 |[],b,h=>by cases h;rfl
 |(k,w)::t,b,h=>by let#[d,y,s,rfl,rfl,f,l]:=h;erw[Az,ze7,DK.any l]
theorem DT.any{q:IK Key}:∀{a:IK (PV×PV)} {b:IK (IK Key×V)},DT K cl B C H a b->(a.any λp=>peq p.1 (.tup (q.map yaB)))=b.any λc=>decide (c.1=q)
 |[],b,h=>by cases h;rfl
 |(k,w)::t,b,h=>by let#[d,y,s,rfl,rfl,f,l]:=h;erw[Az,zfk,DT.any l]
theorem DK.map{q:Key}{v:PV}{x:V}(r:yd K cl B C H v x):∀{a:IK (PV×PV)} {b:IK (Key×V)},DK K cl B C H a b->DK K cl B C H (a.map λp=>if peq p.1 (yaB q)=AC then(p.1,v)else p) (b.map λc=>if c.1=q then(c.1,x)else c)
 |[],b,h=>by cases h;exact rfl
 |(k,w)::t,b,h=>by
  let#[d,y,s,rfl,rfl,f,l]:=h;erw[AO,ze7,IN]
  by_cases e:d=q
  .simp only[e,IV];exact#[q,x,_,rfl,rfl,r,DK.map r l]
  .simp only[e,Ib];exact#[d,y,_,rfl,rfl,f,DK.map r l]
theorem DT.map{q:IK Key}{v:PV}{x:V}(r:yd K cl B C H v x):∀{a:IK (PV×PV)} {b:IK (IK Key×V)},DT K cl B C H a b->DT K cl B C H (a.map λp=>if peq p.1 (.tup (q.map yaB))=AC then(p.1,v)else p) (b.map λc=>if c.1=q then(c.1,x)else c)
 |[],b,h=>by cases h;exact rfl
 |(k,w)::t,b,h=>by
  let#[d,y,s,rfl,rfl,f,l]:=h;erw[AO,zfk,IN]
  by_cases e:d=q
  .simp only[e,IV];exact#[q,x,_,rfl,rfl,r,DT.map r l]
  .simp only[e,Ib];exact#[d,y,_,rfl,rfl,f,DT.map r l]
theorem DK.snoc{q:Key}{v:PV}{x:V}(r:yd K cl B C H v x):∀{a:IK (PV×PV)} {b:IK (Key×V)},DK K cl B C H a b->DK K cl B C H (a++[(yaB q,v)]) (b++[(q,x)])
 |[],b,h=>by cases h;exact#[q,x,[],rfl,rfl,r,rfl]
 |(k,w)::t,b,h=>by let#[c,y,s,rfl,rfl,d,l]:=h;exact#[c,y,_,rfl,rfl,d,DK.snoc r l]
theorem DT.snoc{q:IK Key}{v:PV}{x:V}(r:yd K cl B C H v x):∀{a:IK (PV×PV)} {b:IK (IK Key×V)},DT K cl B C H a b->DT K cl B C H (a++[(.tup (q.map yaB),v)]) (b++[(q,x)])
 |[],b,h=>by cases h;exact#[q,x,[],rfl,rfl,r,rfl]
 |(k,w)::t,b,h=>by let#[c,y,s,rfl,rfl,d,l]:=h;exact#[c,y,_,rfl,rfl,d,DT.snoc r l]
theorem DK.put{q:Key}{v:PV}{x:V}{a:IK (PV×PV)}{b:IK (Key×V)}(l:DK K cl B C H a b)(r:yd K cl B C H v x):DK K cl B C H (IC.put (yaB q) v a) (putK b q x):=by
 unfold IC.put putK;rw[DK.any l];split
 .exact DK.map r l
 .exact DK.snoc r l
theorem DT.put{q:IK Key}{v:PV}{x:V}{a:IK (PV×PV)}{b:IK (IK Key×V)}(l:DT K cl B C H a b)(r:yd K cl B C H v x):DT K cl B C H (IC.put (.tup (q.map yaB)) v a) (putK b q x):=by
 unfold IC.put putK;rw[DT.any l];split
 .exact DT.map r l
 .exact DT.snoc r l
theorem DK.len:∀{a:IK (PV×PV)} {b:IK (Key×V)},DK K cl B C H a b->a.length=b.length
 |[],b,h=>by cases h;rfl
 |(k,w)::t,b,h=>by let#[c,y,s,rfl,rfl,d,l]:=h;simp[DK.len l]
theorem DT.len:∀{a:IK (PV×PV)} {b:IK (IK Key×V)},DT K cl B C H a b->a.length=b.length
 |[],b,h=>by cases h;rfl
 |(k,w)::t,b,h=>by let#[c,y,s,rfl,rfl,d,l]:=h;simp[DT.len l]
theorem yx.dct{n:IL}{t:IQ}{a:IK (PV×PV)}{x:V}(rs:yx K cl B C H st)(r:yd K cl B C H (.loc n) x)(h:st[n]?=AA (.dct t a)):∃y,x=.ref y/\C[n]?=AA (AA y)/\ycm K cl B C H (.dct t a) y:=by erw[yd]at r;let#[g,y,rfl,d]:=r;let#[z,b]:=rs.liv n _ h (by intro z;cases z);obtain rfl:=d z b;let#[o,c,f]:=rs.obj n z b;rw[h]at c;cases c;exact#[z,rfl,b,f]
def zf9{v:PV}{t:IQ}{a:IK (PV×PV)}(h:ya5 st v=AA (t,a)):∃n,v=.loc n/\st[n]?=AA (.dct t a):=by
 cases v with
 |loc n=>
  erw[ya5]at h;split at h
  .rename_i b c q
   cases h
   exact#[n,rfl,q]
  .cases h
 |_=>cases h
def zi7{k:PV}(h:isKey AB k=AC):∃q,k=yaB q:=zjy h
def zin{k:PV}(h:isKey AC k=AC):∃q:IK Key,k=.tup (q.map yaB):=by
 cases k with
 |tp b c=>
  cases b with
  |false=>
   let#[a,rfl]:=ziR h;exact#[a,rfl]
  |true=>cases h
 |_=>cases h
def zjX{q:IK Key}{x}(r:yd K cl B C H (.tup (q.map yaB)) x):∃y,x=.ref y/\H y=AA (.tup (q.map kV)):=by
 erw[yd]at r;let#[y,b,rfl,a,l]:=r;rcases a with⟨a,_⟩|⟨z,_⟩
 .exact#[y,rfl,by rw[a,zfR l]]
 .cases z
def zjd:PE X (.Dict [] [] pos) (tE S X (.dict0 AC)):=zsq.imp λE H Q #[B,C,st,U,a,c,h]=>by erw[ev]at h;exact λp b=>h _ _ (C++[AA p]) (.push b) (a.push b (a.nB b) #[[],zx,rfl]) (.loc_new a)
def zqj(Z:X.A.units+1<cLine)(ha:PE X a (tE S X ca))(hb:PE X b (tE S X cb))(hc:PE X c (tE S X cc))(m:M2 X a "get" apos b c pos:=by exact#[rfl,rfl,rfl,rfl]):PE X (.Call (.Attribute a "get" apos) [b,c] [] pos) (tE S X (.mth .get ca (.cons cb (.cons cc .nil)))):=
 (zlG Z ha hb hc m).imp λE H Q #[B,C,st,U,rs,re,h]=>by
  erw[ev]at h;refine tE.bind rs re h λx H1 v u C1 s1 rs1 w M r=>?_;let#[_,z,r]:=zfe r;erw[yas]at z
  cases q:ya5 u v with
  |none=>rw[q]at z;cases z
  |some tk=>
   let#[t,kvs]:=tk;let#[n,rfl,hn]:=zf9 q;let#[y,rfl,hy,N]:=rs1.dct M hn;refine#[y,rfl,?_,?_]
   .cases t with
    |false=>let#[f,j,_]:=N;exact .inl #[f,.inl j]
    |true=>let#[f,j,_]:=N;exact .inr #[f,.inl j]
   .simp only[evs,R.bind_assoc]at r;refine tE.bind rs1 w r λkx H2 kv st2 C2 s2 rs2 A rk h2=>tE.bind rs2 A h2 λdx H3 dv D C3 O rs3 re3 rd d=>?_;erw[R.bind]at d;unfold ybD at d;erw[yd5]at d
    cases G:ya5 D (.loc n)with
    |none=>rw[G]at d;exact d.elim
    |some I=>
     let#[t3,Y]:=I;rw[G]at d;dsimp only at d;split at d
     .rename_i j;let#[n',e',J]:=zf9 G
      cases e'
      let#[y3,ey,hy3,o]:=rs3.dct ((M.step s2).step O) J
      cases ey
      have p:=rk.step O
      cases t3 with
      |false=>
       let#[q,rfl]:=zi7 j;let#[f,g,l]:=o;refine#[ybu f q,.inl #[f,q,.inl g,zrU.mp p,rfl],d.ok rs3 (DK.look l rd)]
      |true=>
       let#[q,rfl]:=zin j;let#[f,g,l]:=o;let#[b',rfl,L]:=zjX p;exact#[ybu f q,.inr #[f,q,b',.inl g,rfl,L,rfl],d.ok rs3 (DT.look l rd)]
     .exact d.elim
def zj7{b}{x y v:PV}(h:ya6 st x y v=AA b):∃n t a,x=.loc n/\st[n]?=AA (.dct t a)/\isKey t y=AC/\a.length<1000000/\b=st.set n (.dct t (IC.put y v a)):=by
 cases x with
 |loc n=>
  erw[ya6]at h;split at h
  .rename_i t a q;split at h
   .rename_i c;exact#[n,t,a,rfl,q,c.1,c.2,(AX h).symm]
   .cases h
  .cases h
 |_=>cases h
def zoj(N:X.A.units+1<cLine)(O:PE X b (tE S X cb))(Q:PE X c (tE S X cc))(Y:PE X a (tE S X ca))(Z:swapsWith a (AA (.Subscript b c px)) pos.line X.env=pure false:=by rfl):PS X (.Assign [.Subscript b c px] a pos) (tS S X (.dput cb cc ca)):=
 (znx N O Q Y Z).imp λD E H #[B,C,st,U,rs,re,h]=>by
  erw[ex]at h;refine tE.fl rs re h λG H1 v st1 C1 s1 rs1 u rv h1=>tE.fl rs1 u h1 λx' H2 x st2 C2 s2 rs2 w rx h2=>tE.fl rs2 w h2 λy' p y z C3 I rs3 g J j=>?_
  cases e:ya6 z x y v with
  |none=>rw[e]at j;exact j.elim
  |some st4=>
   rw[e]at j;let#[n,t,kvs,rfl,hn,L,hl,rfl]:=zj7 e;let#[l,rfl,r,M]:=rs3.dct (rx.step I) hn;have m:=(rv.step s2).step I;have hm:=zr3
   cases t with
   |false=>
    let#[q,rfl]:=zi7 L;let#[o,d,ld]:=M;have f:Step C3 p C3 (L2.upd p l (.dK (putK o q G))):=.put (AZ r);refine#[l,_,rfl,.inl #[o,q,d,zrU.mp J,by have:=ld.len;lia,rfl],j E _ C3 f (rs3.put r #[_,zx,(ld.put m).step f]) (g.step f)]
   |true=>
    let#[q,rfl]:=zin L;let#[o,d,ld]:=M;let#[b',rfl,A]:=zjX J;have f:Step C3 p C3 (L2.upd p l (.dT (putK o q G))):=.put (AZ r);refine#[l,_,rfl,.inr #[o,q,b',d,rfl,A,by have:=ld.len;lia,rfl],j E _ C3 f (rs3.put r #[_,zx,(ld.put m).step f]) (g.step f)]
end
section
variable {S:Se}{X:Cx}{C:St}{B:AJ->Prop}{A:Ph}{H:Hp}{p pos p3 p4:CB}{a b tg:AT}{ca cb:Ce}
end
end L2
namespace WK
open PySem L2 IC
section
variable {K:AF}{cl:IL->AJ}{B:AJ->Prop}{A:Ph}{H:Hp}
def zl2:yg K cl B A H [] []:=by erw[yg]
def zj9{v x vs xs}(h:yd K cl B A H v x)(l:yg K cl B A H vs xs):yg K cl B A H (v::vs) (x::xs):=by erw[yg];exact#[x,xs,rfl,h,l]
end
def zqh{P w outer H s e s'}(h:CX1 P w outer H s (λ_ _ _=>IY) e s'):IY:=by let#[_,_,_,_,_,_,_,_,_,_,_,_,_,_,z]:=h;exact z
def zie{K b B A H}:∀a:IK IM,yg K b B A H (a.map .int) (a.map V.int)
 |[]=>zl2
 |n::a=>zj9 (by erw[yd]) (zie a)
def spX(K:AF)(call:IL->IK PV->SO->R PV)(a:IL):Sp:=λb H Q E=>∀c,spI K c call a b H Q E
def ziM{K}{call:IL->IK PV->SO->R PV}{d:IL}{H a}{b:IK IM}(f:∀b:IK IM,b.length<=63->call d [.scr (b.map .int)] []=.ok (.bl AC) [])(g:b.length<=63)(c:SqL K H a (b.map V.int)):
  spX K call d [.ref a] H (λv _=>v=.bl AC) λ_ _ _=>IY:=by
 intro j;refine#[λ_=>IY,[],[],[.scr (b.map .int)],#[rfl,λm n a e=>by simp at e,λn a e=>by simp at e,λn o e=>by simp at e,λa z=>by simp at z,λa z=>z.elim],zj9 ?_ zl2,?_]
 .simp only[yd];refine#[a,_,rfl,?_,zie b];rcases c with c|c
  .exact .inl #[c,λz=>z,by simp]
  .exact .inr c
 .rw[f b g];intro x l p _ _ r;simpa only[yd] using r
end WK
namespace L2
open PySem PySem.Spec PyProof.Rows IC
def zi2{l:IK AL}(h:l.Nodup){i j:IL}(a:i<l.length)(b:j<l.length)(e:l[i]=l[j]):i=j:=by
 rcases IL.lt_trichotomy i j with q|q|q
 .exact IU e (ER.mp h i j a b q)
 .exact q
 .exact IU e.symm (ER.mp h j i b a q)
section
variable {X:Cx}{B:IK (AJ×Bi)}{A:St}{H:Hp}{s:AK}
theorem Inv.drop{h':Au}{m:AL->Option AG}{v:Option AG}{i:IL}{n:AL}(I:Inv X B A H s)(E:X.N.Nodup)(G:X.N[i]?=AA n)(hm:s.heap.Ns X.env.locals m)(look:∀(i:IL) (x:AL) (v:V),X.N[i]?=AA x->A[i]?=AA (AA v)->Vis X.env.scope x->∃u,RelV v u/\Look X.env s.heap m x u)(J:C6 X.env.locals s.heap h')(L:h'.Ns X.env.locals (λx=>if x=n then v else m x)):Inv X B (A.set i AD) H {s with heap:=h'}:=by
 have k:∀b u,b≠X.env.locals->s.heap.get? b=AA u->h'.get? b=AA u:=λb u l q=>(J.2 b l).trans q;have nl:∀b o,X.s₀.heap.get? b=AA o->b≠X.env.locals:=λb o e=>Am (A4 (AY e) I.ok.above);refine#[I.ok,I.os,I.bare,#[λb o q n l d=>k b o (nl b o q) (I.base.keep b o q n l d),λb o q n l d=>?_,I.base.free,λb o q d=>?_,I.base.tups,I.base.frzs,I.base.tbls],#[_,L,λj x v y f M=>?_],λx c e=>?_,I.free,I.freeC,λp N=>?_,λb u e=>?_,?_]
 .let#[O,a]:=I.base.slot b o q n l d;exact#[O,k b _ (nl b o q) a]
 .let#[C,a]:=I.base.there b o q d;exact#[C,k b C (nl b o q) a]
 .have D:j≠i:=λz=>by subst z;rw[CO]at f;erw[IV]at f;split at f<;>cases f
  rw[AM (Ax D)]at f;have d:x≠n:=λz=>by subst z;let#[Q,U]:=An.mp y;let#[Y,Z]:=An.mp G;exact D (zi2 E Q Y (U.trans Z.symm))
  let#[u,r,lk]:=look j x v y f M;refine#[u,r,?_];rcases lk with⟨a,g⟩|⟨a,c,g,o,t,w⟩
  .exact .inl #[a,by dsimp only;rw[IS d];exact g]
  .exact .inr #[a,c,g,o,k c o (I.cne x c g) t,w]
 .let#[v,o,ho,hd]:=I.cell x c e;exact#[v,o,k c o (I.cne x c e) ho,hd]
 .let#[a,g,t,w]:=I.pin p N;exact#[k _ _ t a,g,t,w]
 .refine(I.hok b u e).stay (λc v hc q=>k c v (λz=>?_) q) (λ_ q=>q) λ_ _ q=>q;have fr:=I.free;subst z;rcases hc with z|z
  .rw[z,e]at fr
   cases fr
  .rw[z]at fr
   cases fr
 .rw[BY];exact I.len
end
def ygN(X:Cx)(pn:IK (AJ×Bi))(P:St->AG->Hp->Prop):AG->AK->Prop:=λe b=>∃B A H s,Inv (cxP X pn) B A H s/\CX1 X.prog X.w X.stack H s (λa _ c=>P A a c) e b
abbrev ydq(X:Cx)(pn:IK (AJ×Bi))(P:St->AG->Hp->Prop):Cx:=(cxP X pn).wish (ygN X pn P)
section
variable {X:Cx}{body suite:IK Bj}{b₀:Bj}{x n:AL}{np hpos pos:CB}{W:AJ}{i:IL}
def zef{G F H s}{Q:Ik->AK->Prop}{E A}(I:Inv X G F H s)(j:X.N.Nodup)(c:X.N[i]?=AA n)(b:X.env.scope.names.lookup n=AA .local)(r:i<F.length)
  (h:∀l,Inv X G (F.set i AD) H l->Q Ik.unit l):A6 (model X.prog X.w) A (do bindName X.env n .none;unbindBehindTheSuite X.env n pos) Q E s:=by
 refine AI (F0 (zbd I j c (.inl b) (show RelV .non .none from rfl) (λw o=>?_) (.inr b)));let#[m,p,look]:=o.loc;let#[u,x,lk]:=look i n .non c (by rw[CO];simp[r]) (.inl b);have t:m n=AA u:=by
  rcases lk with⟨_,q⟩|⟨z,_⟩
  .exact q
  .rw[show X.env.kindOf n=AA .local from b]at z;rcases z with z|z<;>cases z
 have d:X.env.kindOf n=AA .local:=b;have a:X.env.scope.kind=.function:=I.ok.kind;unfold unbindBehindTheSuite;refine Eg ?_;unfold unbindName deleteName;refine AI (wpAny_point (AI ?_));erw[d,a];refine AI (m:=nsDel X.env.locals n) (wpAny_nsDel_keeps p λy B f g=>?_);rw[t];refine AV (wpAny_point ?_);have J:=o.drop j c p look g f;rw[Co]at J;exact h _ J
def zmH{tb:IK (AJ×Bi)->(St->AG->Hp->Prop)->TS}{ts:IK (AJ×Bi)->AJ->TS}(Z:∃b,X.stack=X.env::b)(hex0:X.ex=[])(hfr:X.env.frame=AA X.env.locals)(hN:X.N.Nodup)(hi:X.N[i]?=AA n)(hx:X.env.scope.names.lookup n=AA .local)(hgx:Gl X x)(hmx:X.mg x=AA (.ref W))
  (hb:∀pn P,PSs (ydq X pn P) body (tb pn P)) (hs:∀pn a,PSs (cxS X pn a) (b₀::suite) (ts pn a)) (hdb:(x==("__debug__":AL))=false:=by decide):
  PS X (.Try body [.ExceptHandler (AA (.Name x np)) (AA n) (b₀::suite) hpos] [] [] pos) (λD F H=>∀pn,∃P:St->AG->Hp->Prop,tb pn P D F H/\∀F1 j d,P F1 j d->∃C,j=.ref C/\EK X.K (.ref C) (.ref W)=AA AC /\
   ∀a,d a=AD->ts pn a {nx:=λF2 H2=>D.nx (F2.set i AD) H2,rt:=D.rt} (F1.set i (AA (.ref a))) (upd d a (.ext (ybT a C)))):=by
 intro G s F H D I h;let#[P,N,hex]:=h (X.pn++G);let#[b,O]:=Z;refine wpAny_Try_except (Bl (hb (X.pn++G) P [] s F H D (I.toP.wish _) N) (λf g hf=>?_) λe g hx1=>?_)
 .have cv:SP X G D f g:=by
   cases f with
   |next=>
    let#[Q,d,J,q]:=hf;exact#[Q,d,Inv.ofP I.ok J.unwish,q]
   |brk=>
    let#[Q,d,J,q]:=hf;exact#[Q,d,Inv.ofP I.ok J.unwish,q]
   |cont=>
    let#[Q,d,J,q]:=hf;exact#[Q,d,Inv.ofP I.ok J.unwish,q]
   |ret u=>
    let#[v,Q,d,J,r,q]:=hf;exact#[v,Q,d,Inv.ofP I.ok J.unwish,r,q]
  cases f with
  |next=>exact DB cv
  |brk=>exact cv
  |cont=>exact cv
  |ret u=>exact cv
 .let#[pins1,F1,H1,s2,A,a,j,a0,d,B,rfl,os,E,fl,hok,un,hB,tr,hT,hE]:=hx1;let#[C,rfl,hm,l]:=hex F1 j d hE;have A:Inv (cxP X (X.pn++G)) [] F1 H1 s2:=A.pins_of λp hp=>IU hp (by simp);have frs':X.A.frames=AA (X.env::b):=by rw[<-O];exact I.ok.frames
  have fl0:FI B (X.env::b) a (.ref C) a0 g.heap:=by rw[<-O];exact fl
  refine wpAny_looks_onW frs' hfr fl0 λh1 U up1=>?_;refine wpAny_landsW (s:={g with heap:=h1}) U λh2 Y up2=>?_;have L:g.heap.UpToSlots h2:=up1.trans up2;have I2:Inv (cxP X (X.pn++G)) [] F1 d {g with heap:=h2}:=A.back (t':=g.toks) os E fl hok un hB tr hT Y.1 L;let#[ob,hob,hobc]:=Y.there;have LT:∀M:Hc,HX M h2 (typeOf (.ref a)) (.ref C):=λM=>hobc ▸ (Eo hob).andThen .now;refine wpAny_handleBy_cons (codeAny_handlers_test ?_) (by intro q;cases q);refine zb9 (X:=cxS X (X.pn++G) a) (I2.toS a) hgx hmx ?_ hdb;refine PySem.W.Looks.at (PySem.W.exm_one I2.kIn (LT _) hm) ?_;rw[IR rfl];refine codeAny_handlers_suite_as ?_;refine lands_againW (s:={g with heap:=h2}) Y λh3 t up3=>?_;have up13:=L.trans up3;have I3:Inv (cxP X (X.pn++G)) [] F1 d {g with heap:=h3}:=A.back (t':=g.toks) os E fl hok un hB tr hT t.1 up13;let#[oe,ws,T3,oT,tsx,ge,#[gc,g0],gd,_]:=id t.2.2.2;have nfr:a∉frs X.stack:=λz=>by
   let#[_,o',ho',hd]:=BW t.2.2.1 (by rw[<-O];exact z);rw[ge]at ho'
   cases ho'
   exact hd ws gd
  have nB:B.get? a=none:=t.2.1;have w:∀o,s2.heap.get? a≠AA o:=λo z=>by
   let#[o',q]:=hT a o z nfr;rw[nB]at q
   cases q
  have nH:d a=none:=by
   cases z:d a with
   |none=>rfl
   |some u=>
    let#[o',q]:=tr a u z;rw[nB]at q
    cases q
  have n0:∀o,X.s₀.heap.get? a≠AA o:=λo z=>by
   have hx':a∉X.ex:=by rw[hex0];simp
   let#[o',q]:=A.base.there a o z hx';exact w o' q
  have nl:a≠X.env.locals:=λz=>by let#[m,hn,_]:=A.loc;let#[ol,_,_,hol,_]:=hn;exact w ol (z ▸ hol)
  have nc:∀y c,X.env.cells.lookup y=AA c->c≠a:=λy c q z=>by let#[v,oc,hoc,_]:=A.cell y c q;exact w oc (z ▸ hoc)
  have np:∀p∈(cxP X (X.pn++G)).pn++[],p.1≠a:=λp hp z=>w p.2 (z ▸ (A.pin p hp).1);have new:yQ X.prog X.w (upd d a (.ext (ybT a C))) h3 a (.ext (ybT a C)):=#[#[oe,ge,gc],#[oe,ge],λk1 k2 p q=>p.keep q];have I4:Inv (cxP X (X.pn++G)) [] F1 (upd d a (.ext (ybT a C))) {g with heap:=h3}:=I3.track nH n0 nl nc np new;have hln:i<X.N.length:=(An.mp hi).1;refine zbd (X:=cxS X (X.pn++G) a) (I4.toS a) hN hi (.inl hx) (show RelV (.ref a) (.ref a)from rfl) (λs6 I6=>?_) (.inr hx);refine Bl (hs (X.pn++G) a [] s6 _ _ _ I6 (l a nH)) (λf s7 hf=>?_) λ_ _ z=>z.elim
  cases f with
  |next=>
   let#[F7,H7,J7,q7]:=hf;have J8:Inv X G F7 H7 s7:=Inv.ofS I.ok J7;exact zef (pos:=hpos) J8 hN hi hx (by rw[J8.len];exact hln) λs8 J9=>#[_,H7,J9,q7]
  |brk=>
   let#[_,_,_,z]:=hf;exact z.elim
  |cont=>
   let#[_,_,_,z]:=hf;exact z.elim
  |ret u=>
   let#[v,F7,H7,J7,r7,q7]:=hf;have J8:Inv X G F7 H7 s7:=Inv.ofS I.ok J7;exact zef (pos:=hpos) J8 hN hi hx (by rw[J8.len];exact hln) λs8 J9=>#[v,_,H7,J9,r7,q7]
end
section
variable {S:Se}{X:Cx}{E:St}{B:AJ->Prop}{A A1:Ph}{H H1:Hp}{st:SO}{U:IC.Env}{D:Ends}{body suite:IK Bj}{b₀:Bj}{x n:AL}{p p2 np hpos pos cpos:CB}{W:AJ}{i:IL}{cb ch:Css}{a e:AT}{es:IK AT}{ca ce:Ce}{ces:Ces}
theorem yK.drop{K:AF}{a:IL->AJ}(r:yK K a B A H U E)(i:IL):yK K a B A H (U.set i AD) (E.set i AD):=by
 refine#[by rw[BY,BY];exact r.len,λj w e=>?_]
 by_cases h:j=i
 .subst h;rw[CO]at e;erw[IV]at e;split at e<;>cases e
 .rw[AM (Ax h)]at e ⊢;exact r.get j w e
abbrev Se.quiet(S:Se):Se:={S with may:=AB}
def zo1{Z:IK IL}(C:∃l,X.stack=X.env::l)(J:X.ex=[])(hfr:X.env.frame=AA X.env.locals)(hN:X.N.Nodup)(hi:X.N[i]?=AA n)(hx:X.env.scope.names.lookup n=AA .local)(hgx:Gl X x)(hmx:X.mg x=AA (.ref W))(hW:∀c∈Z,EK X.K (.ref (S.cl c)) (.ref W)=AA AC)
  (hb:∀pn P,PSs (ydq X pn P) body (tSs S.quiet (ydq X pn P) cb)) (hs:∀pn a,PSs (cxS X pn a) (b₀::suite) (tSs S.quiet (cxS X pn a) ch)) (hdb:(x==("__debug__":AL))=false:=by decide):
  PS X (.Try body [.ExceptHandler (AA (.Name x np)) (AA n) (b₀::suite) hpos] [] [] pos) (tS S X (.try cb Z i ch)):=by
 refine(zmH (tb:=λpn P=>tSs S.quiet (ydq X pn P) cb) (ts:=λpn a=>tSs S.quiet (cxS X pn a) ch) C J hfr hN hi hx hgx hmx hb hs hdb).imp λD E H #[B,A,st,U,L,M,h] pn=>?_;erw[ex]at h
 cases q:exs S.call U st cb with
 |exc d p b=>
  rw[q]at h;dsimp only at h
  by_cases hd:Z.contains d=AC
  .rw[IR hd]at h;refine#[λE1 r u=>r=.ref (S.cl d)/\∃f,Step A H f u/\yx X.K S.cl B f u b/\yK X.K S.cl B f u p E1,#[B,A,st,U,L,M,?_],?_]
   .show yar _ _ _ _ _ (exs S.call U st cb) _;rw[q];intro E' A1 H1 e s' O w hx;rcases hx with⟨G,N,t,Q,I,g,c⟩|⟨m,_⟩|⟨m,_⟩
    .refine#[G,E',N,t,I.unwish,CX1.mono c λr u z=>?_];let#[z1,f,z2,z3]:=z;exact#[z1,f,(O.trans g).trans z2,z3,(w.step g).step z2]
    .cases m
    .cases m
   .rintro E1 r u ⟨rfl,f,O,rs1,w⟩
    refine#[S.cl d,rfl,hW d (by simpa using hd),λa Y=>?_];have nB:¬B a:=λz=>by
     let#[o,e]:=rs1.dom a z;rw[Y]at e
     cases e
    have nφ:AA a∉f:=λz=>by
     let#[o,e]:=rs1.there z;rw[Y]at e
     cases e
    have s2:Step f u f (upd u a (.ext (ybT a (S.cl d)))):=.upd Y;refine#[B,f,b,p.set i (AA (.exn d)),rs1.upd Y,(w.step s2).set i ?_,?_]
    .simp only[yd];exact#[a,rfl,zx,nB,nφ]
    .show yar _ _ _ _ _ (exs S.call (p.set i (AA (.exn d))) b ch) _
     cases g:exs S.call (p.set i (AA (.exn d))) b ch with
     |nx U2 j=>
      rw[g]at h;intro E' N Q s3 rs3 re3;exact h _ N Q ((O.trans s2).trans s3) rs3 (re3.drop i)
     |rt v j=>
      rw[g]at h;intro y N Q s3 rs3 rv;exact h y N Q ((O.trans s2).trans s3) rs3 rv
     |bk U2 j=>rw[g]at h;exact h.elim
     |ct U2 j=>rw[g]at h;exact h.elim
     |exc k U2 j=>rw[g]at h;exact h.elim
     |bad=>rw[g]at h;exact h.elim
  .rw[IS hd]at h;exact h.elim
 |nx p b=>
  rw[q]at h;exact#[λ_ _ _=>IY,#[B,A,st,U,L,M,by show yar _ _ _ _ _ (exs S.call U st cb) _;rw[q];exact h],λ_ _ _ z=>z.elim]
 |rt v b=>
  rw[q]at h;exact#[λ_ _ _=>IY,#[B,A,st,U,L,M,by show yar _ _ _ _ _ (exs S.call U st cb) _;rw[q];exact h],λ_ _ _ z=>z.elim]
 |bk p b=>
  rw[q]at h;exact#[λ_ _ _=>IY,#[B,A,st,U,L,M,by show yar _ _ _ _ _ (exs S.call U st cb) _;rw[q];exact h],λ_ _ _ z=>z.elim]
 |ct p b=>
  rw[q]at h;exact#[λ_ _ _=>IY,#[B,A,st,U,L,M,by show yar _ _ _ _ _ (exs S.call U st cb) _;rw[q];exact h],λ_ _ _ z=>z.elim]
 |bad=>rw[q]at h;exact h.elim
theorem all_nil{P:IL->Prop}:∀c∈([]:IK IL),P c:=λ_ h=>by cases h
theorem all_cons{P:IL->Prop}{c:IL}{a:IK IL}(h:P c)(t:∀d∈a,P d):∀d∈c::a,P d:=λd b=>by
 rcases AS.mp b with e|e
 .exact e ▸ h
 .exact t d e
structure ycy(K:AF)(mg:AL->Option AG)(C:AJ)(x:AL):Prop where
 m:mg x=AA (.ref C)
 q:yb8 K C [.type "ValueError",.type "Exception",.type "BaseException",.type "object"] "ValueError.__new__"=AC
def zkm{k:IL}(Z:ycy X.K X.mg (S.cl k) x)(d:S.may=AC)(w:X.calm=AC)(y:Gl X x)(z:PE X a (tE S X ca))
  (g:starEach [a] X.env=(AB,eval a X.env)::starEach [] X.env:=by rfl) (j:(backTo cpos (starEach [] X.env)).any (·.1)=false:=by rfl) (l:(x==("__debug__":AL))=false:=by decide):
  PS X (.Raise (AA (.Call (.Name x np) [a] [] cpos)) AD pos) (tS S X (.raise k ca)):=by
 intro G s E H D I #[B,A,st,U,J,L,h];erw[ex]at h;have p:=zsp I.ok.mod.kin Z.m Z.q;have FB:=PySem.F.excBase_ValueError;let#[M,O,nm,q,bs,hdct,sn,sub,ab,col,dd,k0,k1,k2,k3,k5,mN,Q,Y,m,r]:=p.obj;refine wpAny_Raise_call_subT (C:=S.cl k) (nm:=nm) (q:=q) (N:=O) (bs:=bs) (bm:=M) (hdct:=hdct) (sn:=sn) (sub:=sub) (ab:=ab) (col:=col) (dd:=dd) (k0:=k0) (k1:=k1) (k2:=k2) (k3:=k3) (k5:=k5)
  FB (mN:=mN) (r.hasType FB.hasBase) (I.ok.hd w) (by rw[g];show (AB || (backTo cpos (starEach [] X.env)).any (·.1))=AB;rw[j];rfl) m (zb9 I y p.bound #[rfl,?_] l)
 have t:=(zav z zrH g) cpos G s E H (λu H1=>∃v,u=[v]/\∃A1 b,Step A H A1 H1/\yx X.K S.cl B A1 H1 b/\yK X.K S.cl B A1 H1 U E/\yar S X B A1 H1 (.exc k U b) D) I
  (tE.fl J L h λx H1 v b A1 n rs1 c rv o=>#[x,rfl,A1,b,n,rs1,c,o])
 rw[g]at t ⊢;refine D7 (thn t λus n kq=>?_);let#[u,H1,f,r1,v,ev,A1,b,t1,rs1,c,o]:=kq;subst ev;refine#[rfl,by rw[<-r1.length];show 1<=sizeLine;decide,f.bk _ _ Q,Y.keeps f.bk,r.keeps f.bk,λh' e' hx=>?_];exact o E A1 H1 _ _ .rfl c (.inr (.inl #[d,G,H1,n,A1,h',e',us,f,.rfl,rs1,hx,rfl,rfl]))
def tyZ(a:IL->AJ):Ty->AG
 |.cls d=>.ref (a d)
 |_=>.type "ValueError"
def ybV(a:IL->AJ):Ty->V
 |.cls d=>.ref (a d)
 |_=>.ty "ValueError"
def zgY{a t c}(r:RelV (ybV a t) c):c=tyZ a t:=by cases t<;>exact r
def zjU:bootBuiltins "ValueError"=AA (.type "ValueError"):=∅
def zpj{d:IL}{a:IL->AJ}(b:Gl X x)(c:X.mg x=AA (.ref (a d)))(f:(x==("__debug__":AL))=false:=by decide):PE X (.Name x pos) (tC (ybV a (.cls d))):=zdq b c rfl f
def zpG{a}(b:Gl X "ValueError")(c:X.mg "ValueError"=AD):PE X (.Name "ValueError" pos) (tC (ybV a .val)):=zjx b c zjU rfl
def ycC(K:AF)(a:IL->AJ)(c:IL)(t:Ty):Prop:=BJ K (.ref (a c)) (tyZ a t)=AA (ya1 (.exn c) t)
def zkc{K a}{c:IL}:∀{ts:IK Ty},(∀t∈ts,ycC K a c t)->HK K (.ref (a c)) (ts.map (tyZ a))=AA (ts.any (ya1 (.exn c)))
 |[],_=>rfl
 |t::ts,h=>by
  have b:=h t Af;unfold ycC at b;rw[AO,HK,b,Az]
  cases ya1 (.exn c) t with
  |true=>rfl
  |false=>exact zkc λd f=>h d (AU _ f)
abbrev gaE:=PySem.F.attr_ValueError.ga
def zlZ{a}{ts:IK Ty}{v z}(h:yde a v ts=AA z):∃c,v=.exn c/\c∈a/\z=.bl (ts.any (ya1 (.exn c))):=by
 cases v with
 |exn c=>
  erw[yde]at h;split at h
  .rename_i q;exact#[c,rfl,by simpa using q,(AX h).symm]
  .cases h
 |_=>cases h
def yhM(S:Se)(X:Cx)(d:IK IL)(t:Ty):IK V->Hp->VK->Prop:=λf H Q=>∃B A st v x z,f=[x,ybV S.cl t]/\yx X.K S.cl B A H st/\yd X.K S.cl B A H v x/\yde d v [t]=AA z /\
 ∀c a b,Step A H b a->yx X.K S.cl B b a st->yd X.K S.cl B b a z c->Q c a
def zo6{b:IK IL}{t}(Z:∀c∈b,ybt X.K (S.cl c)/\ycC X.K S.cl c t):yU X (.builtin "isinstance") (yhM S X b t):=by
 rintro G s E H y C Q I r ⟨B,A,st,v,x,z,rfl,f,d,e,q⟩
 let#[u,D,rfl,g,j]:=vals2 r;let#[c,rfl,l,rfl]:=zlZ e
 cases zgY j
 erw[yd]at d;let#[a,rfl,m,_,_]:=d
 cases (show u=Ae a from g)
 let#[n,o]:=Z c l;have p:ybT a (S.cl c) s.heap:=(I.hok a _ m).1;exact CL (zhi n gaE) I.kIn p o (λz=>nomatch z) λw=>#[.bl _,H,I.tok w,rfl,q _ H A .rfl f (by simp[yd])]
def zpK{j:IK IL}{t b}(Z:∀c∈j,ybt X.K (S.cl c)/\ycC X.K S.cl c t)(m:Gl X "isinstance")(n:X.mg "isinstance"=AD)(o:PE X b (tC (ybV S.cl t)))(r:PE X a (tE S X ca))
  (l:starEach [a,b] X.env=(AB,eval a X.env)::starEach [b] X.env:=by rfl) (d:starEach [b] X.env=(AB,eval b X.env)::starEach [] X.env:=by rfl) (f:(backTo pos (starEach [b] X.env)).any (·.1)=false:=by rfl):
  PE X (.Call (.Name "isinstance" p) [a,b] [] pos) (tE S X (.isx ca j [t])):=
 (zdK (zo6 Z) m n Cb (zav r (zav o zrH d) l) ⋯ ⋯ l f).imp λE H Q #[B,A,st,U,u,w,h]=>by erw[ev]at h;refine tE.bind u w h λx H1 v g A1 G rs1 y C D=>?_;let#[z,e,q]:=zar D rs1;exact#[B,A1,g,v,x,z,rfl,rs1,C,e,q]
abbrev tNs(vs:IK V):TA:=λ_ H Q=>Q vs H
def zqD:PA X [] (tNs []):=zrH.imp λE H Q h=>h
def zog{v vs}(h:PE X e (tC v))(t:PA X es (tNs vs))(a:starEach (e::es) X.env=(AB,eval e X.env)::starEach es X.env:=by rfl):PA X (e::es) (tNs (v::vs)):=(zav h t a).imp λE H Q h=>h
def zjT{a}:∀{ts:IK Ty}{us:IK AG},Vals (ts.map (ybV a)) us->us=ts.map (tyZ a)
 |[],us,h=>by cases h;rfl
 |t::ts,us,h=>by
  cases h with
  |cons r q=>rw[zgY r,zjT q];rfl
def yfr(S:Se)(X:Cx)(d:IK IL)(ts:IK Ty):IK V->Hp->VK->Prop:=λf H Q=>∃B A st v x z p,f=[x,.ref p]/\H p=AA (.tup (ts.map (ybV S.cl)))/\yx X.K S.cl B A H st/\yd X.K S.cl B A H v x/\yde d v ts=AA z /\
 ∀c a b,Step A H b a->yx X.K S.cl B b a st->yd X.K S.cl B b a z c->Q c a
def zni{d:IK IL}{ts:IK Ty}(Z:∀c∈d,ybt X.K (S.cl c)/\∀t∈ts,ycC X.K S.cl c t):yU X (.builtin "isinstance") (yfr S X d ts):=by
 rintro G s E H xs us Q I r ⟨B,A,st,v,x,z,p,rfl,l,m,f,e,q⟩
 let#[u,o,rfl,w,y]:=vals2 r;let#[c,rfl,C,rfl]:=zlZ e
 cases (show o=Ae p from y)
 erw[yd]at f;let#[a,rfl,D,_,_]:=f
 cases (show u=Ae a from w)
 let#[J,L]:=Z c C;have pp:ybT a (S.cl c) s.heap:=(I.hok a _ D).1;let#[_,M,N,#[oc,od,O,U],g,b,n,j]:=(show yQ X.prog X.w H s.heap p (.tup (ts.map (ybV S.cl)))from I.hok p _ l);have:=zjT N;dsimp only at b j;subst b j this;exact PySem.W.kia_tup (zhi J gaE) I.kIn pp g (zkc L) (λz=>nomatch z) λY=>#[.bl _,H,I.tok Y,rfl,q _ H A .rfl m (by simp[yd])]
def znY{j:IK IL}{ts:IK Ty}{k:IL}{b}(Z:∀c∈j,ybt X.K (S.cl c)/\∀t∈ts,ycC X.K S.cl c t)(O:ts.length<=1000)(o:Gl X "isinstance")(r:X.mg "isinstance"=AD)(u:PA X es (tNs (ts.map (ybV S.cl))))(w:PE X a (tE S X ca))
  (l:starEach [a,.Tuple es k b] X.env=(AB,eval a X.env)::starEach [.Tuple es k b] X.env:=by rfl) (d:starEach [.Tuple es k b] X.env=(AB,eval (.Tuple es k b) X.env)::starEach [] X.env:=by rfl) (f:(backTo pos (starEach [.Tuple es k b] X.env)).any (·.1)=false:=by rfl):
  PE X (.Call (.Name "isinstance" p) [a,.Tuple es k b] [] pos) (tE S X (.isx ca j ts)):=
 (zdK (zni Z) o r Cb (zav w (zav (zmj u) zrH d) l) ⋯ ⋯ l f).imp λE H Q #[B,A,st,U,y,C,h]=>by erw[ev]at h;refine tE.bind y C h λx H1 v g A1 Y rs1 D G I=>?_;let#[z,e,q]:=zar I rs1;refine#[by rw[Aq,CC];lia,λpp m=>?_];have n:Step A1 H1 A1 (upd H1 pp (.tup (ts.map (ybV S.cl)))):=.upd m;exact#[B,A1,g,v,x,z,pp,rfl,zx,rs1.upd m,G.step n,e,λJ L M N=>q J L M (n.trans N)]
def tJ(S:Se)(X:Cx)(c:Ces):TJ:=λout E H Q=>∃B A st U,yx X.K S.cl B A H st/\yK X.K S.cl B A H U E/\∃d a z,evs S.call U st c=.ok d a/\yce out d=AA z/\∀b f,Step A H f b->yx X.K S.cl B f b a->Q (.str z) b
def tF(S:Se)(X:Cx)(c:Ce):TE:=λE H Q=>∃B A st U,yx X.K S.cl B A H st/\yK X.K S.cl B A H U E/\∃v a y,ev S.call U st c=.ok v a/\ybS v=AA y/\∀b d,Step A H d b->yx X.K S.cl B d b a->Q (.str y) b
def zpi(h:PE X e (tE S X ce)):PE X (.FormattedValue e (-1) AD pos) (tF S X ce):=by
 intro G s E H Q I #[B,A,st,U,m,n,v,c,y,o,a,q];refine FormattedValue_plain (thn (h G s E H (λx H1=>∃A1,Step A H A1 H1/\yx X.K S.cl B A1 H1 c/\yd X.K S.cl B A1 H1 v x) I #[B,A,st,U,m,n,by rw[o];exact λx C p t r b=>#[p,t,r,b]]) λu D w=>?_);let#[x,H1,f,g,A1,j,rs1,b]:=w
 cases v with
 |int i=>
  erw[yd]at b;subst b;let#[l,rfl]:=g;erw[ybS]at a;split at a
  .rename_i d
   cases a
   exact formatField_int_small d #[.str _,H1,f.tok _,#[_,rfl],q H1 A1 j rs1]
  .cases a
 |str z=>
  erw[yd]at b;subst b;let#[l,rfl]:=g;erw[ybS]at a;split at a
  .rename_i d
   cases a
   exact formatField_str (λJ l=>#[.str _,H1,f.tok _,#[_,rfl],q H1 A1 j rs1]) (by rw[CC];exact d)
  .cases a
 |_=>cases a
def zqQ{y}{j:IL}:PE X (.Constant (.str y) j pos) (tF S X (.cst (.str y))):=zr2.imp λE H Q #[B,A,st,U,c,f,v,d,z,b,a,q]=>by
 erw[ev]at b
 cases b
 erw[ybS]at a;split at a
 .cases a;exact q H A .rfl c
 .cases a
def zoH:PJ X [] (tJ S X .nil):=λout G s E H Q I #[B,A,st,U,c,g,j,d,z,b,a,q]=>by
 erw[IC.vsq0,IC.vsq1]at b
 cases b
 erw[yce]at a;split at a
 .rename_i f
  cases a
  exact zpS out G s E H Q I #[by rw[CC];exact f,q H A .rfl c]
 .cases a
def zjK(p:PE X e (tF S X ce))(r:PJ X es (tJ S X ces))(t:evalEach (e::es) X.env=eval e X.env::evalEach es X.env:=by rfl):PJ X (e::es) (tJ S X (.cons ce ces)):=λout G s E H Q I #[B,A,st,U,u,n,M,j,z,a,d,q]=>by
 erw[IC.vsq0,IC.vsq1]at a
 cases f:ev S.call U st ce with
 |ok v b=>
  rw[f]at a;erw[R.bind]at a
  cases g:evs S.call U b ces with
  |ok w l=>
   rw[g]at a;simp only at a
   cases a
   erw[yce]at d
   cases m:ybS v with
   |none=>rw[m]at d;cases d
   |some y=>
    rw[m]at d;simp only at d;split at d
    .rename_i x;refine znG p r t out G s E H Q I #[B,A,st,U,u,n,v,b,y,f,m,λN C o rs1=>#[y,rfl,by rw[CC];exact x,B,C,b,U,rs1,n.step o,w,j,z,g,d,λD J L rs2=>q D J (o.trans L) rs2]]
    .cases d
  |exc c l=>rw[g]at a;cases a
  |bad=>rw[g]at a;cases a
 |exc c b=>rw[f]at a;cases a
 |bad=>rw[f]at a;cases a
def zqt{g j:AT}{a:IK AT}(h:PJ X (g::j::a) (tJ S X ces)):PE X (.JoinedStr (g::j::a) pos) (tE S X (.fst ces)):=(ziq h).imp λE H Q #[B,A,st,U,m,n,h]=>by
 erw[ev]at h
 cases d:evs S.call U st ces with
 |ok l b=>
  rw[d]at h;erw[ydy]at h
  cases f:yce DD l with
  |none=>rw[f]at h;exact h.elim
  |some z=>
   rw[f]at h;exact#[B,A,st,U,m,n,l,b,z,d,f,λo p t r=>h _ o p t r (by erw[yd])]
 |exc c b=>rw[d]at h;exact h.elim
 |bad=>rw[d]at h;exact h.elim
end
section
variable {S:Se}{X:Cx}{p pos p2 px apos:CB}{a b:AT}{ca cb:Ce}
end
end L2
namespace WE
open PySem PySem.Spec PyProof.Rows
section
variable {prog:Aa}{w:Ai}{A:Ak}{E:AG->AK->Prop}{s:AK}
end
end WE
namespace L2
open PySem PySem.Spec PyProof.Rows
end L2
namespace L2
open PySem PySem.Spec PyProof.Rows IC
open Classical in
def eqR(h:Au)(a:PyData)(u:AG):IQ:=decide (∃d b,Reads h u d b/\EH d a=AC)
def zme{h u d a f}(r:Reads h u d f):eqR h a u=EH d a:=by
 unfold eqR
 classical
 cases c:EH d a with
 |true=>exact IW (p:=∃d f,Reads h u d f/\EH d a=AC) #[d,f,r,c]
 |false=>
  refine IT ?_
  rintro⟨l,g,j,q⟩
  have:=(reads_det (λb o e _=>e) r j).1;subst this;rw[c]at q
  cases q
section
variable {S:Se}{X:Cx}{E:St}{B:AJ->Prop}{C C1:Ph}{H H1:Hp}{st:SO}{U:IC.Env}{p pos p2 px py pt pt2:CB}{a b c d o a' b' c' d':AT}{ca cb cc cd ce cf:Ce}{F:IK (AJ×Bi)}{s:AK}{kt k2:IL}{es:IK AT}{ces:Ces}{x:AL}
def zgI(I:Inv X F E H s)(w:PV)(a:shd 60 w=AC):∀(vs:IK PV) (xs:IK V) (us:IK AG),yaU 60 vs=AC->yg X.K S.cl B C H vs xs->Vals xs us->us.any (eqR s.heap (toD w))=inL w vs
 |[],xs,us,h,r,q=>by erw[yg]at r;subst r;cases q;rfl
 |v::vs,xs,us,h,r,q=>by
  erw[yg]at r;let#[y,b,rfl,c,l]:=r;erw[yaU,AH]at h
  cases q with
  |cons d f=>
   let#[j,g]:=zbf (S:=S) I v 60 y _ h.1 c d;rw[Az,zgI I w a vs b _ h.2 l f,zme g,zfB v w 60 60 h.1 a];rfl
def zgz(I:Inv X F E H s)(w:PV)(c:shd 60 w=AC){d bs}(f:Reads s.heap d (toD w) bs)(a:X.A.units+64<cLine):∀(vs:IK PV)(xs:IK V)(us:IK AG),yaU 60 vs=AC->yg X.K S.cl B C H vs xs->Vals xs us->∀u∈us,HG X.A.in1 s u d (eqR s.heap (toD w) u)
 |[],xs,us,h,r,q=>by erw[yg]at r;subst r;cases q;intro u a;cases a
 |v::vs,xs,us,h,r,q=>by
  erw[yg]at r;let#[y,j,rfl,m,l]:=r;erw[yaU,AH]at h
  cases q with
  |cons n o=>
   let#[p,g]:=zbf (S:=S) I v 60 y _ h.1 m n;intro u b;rcases AS.mp b with rfl|b
   .rw[zme g];let#[t,z]:=zft v 60 h.1;let#[x,A]:=zft w 60 c;refine SeqAt.eqAt_reads _ _ X.A.in1 s _ _ p bs g f t x ?_;show X.A.units+1+_<_;lia
   .exact zgz I w c f a vs j _ h.2 l o u b
def rTs(S:Se)(X:Cx)(f:SO->PV->PV->Option PV):R2:=λx y H Q=>∃B C st v w z,yx X.K S.cl B C H st/\yd X.K S.cl B C H v x/\yd X.K S.cl B C H w y/\f st v w=AA z /\
 ∀c a b,Step C H b a->yx X.K S.cl B b a st->yd X.K S.cl B b a z c->Q c a
def zkC(n:Gl X "list")(o:X.mg "list"=AD)(q:bootBuiltins "list"=AA (.type "list"))(r:PA X [a] (tAs S X (.cons ca .nil)))
  (t:starEach [a] X.env=(AB,eval a X.env)::starEach [] X.env:=by rfl) (f:(backTo pos (starEach [] X.env)).any (·.1)=false:=by rfl):PE X (.Call (.Name "list" p) [a] [] pos) (tE S X (.thw (.blt .list (.cons ca .nil)))):=
 (zfE zgi n o q r ⋯ ⋯ t f).imp λE H Q #[B,C,st,U,u,w,h]=>by
  erw[ev,R.bind_assoc]at h;refine tAs.bind u w h λL H1 A b C1 M rs1 G I c=>?_
  cases e:yaj .list b A with
  |none=>rw[e]at c;exact c.elim
  |some z=>
   rw[e]at c;let#[v,rfl]:=zcA e λ_ _=>rfl;let#[x,rfl,g]:=I.one;erw[yaj]at e
   cases j:ya7 b v with
   |none=>rw[j]at e;cases e
   |some N=>
    rw[j]at e
    cases e
    let#[y,m,rfl,J,l]:=zjp rs1 g j;refine#[y,m,rfl,J,λD d=>?_];erw[toR,R.bind,ycL]at c;exact c _ _ (C1++[AA D]) (.push d) (rs1.push d (rs1.nB d) #[m,zx,l.step (.push d)]) (.loc_new rs1)
end
end L2
namespace IC
open PySem
end IC
namespace L2
open PySem PySem.Spec PyProof.Rows IC
section
variable {S:Se}{X:Cx}{D:St}{B:AJ->Prop}{C:Ph}{H:Hp}{p p2 pos pos2 apos:CB}{a b tg:AT}{ca cb:Ce}
def zee:∀{a:IK AL},(∀y∈a,y.length<=1000)->(a.map (·.length)).sum<=1000*a.length
 |[],_=>by simp
 |y::a,h=>by have:=zee λz b=>h z (AU _ b);have:=h y (by simp);erw[AO,Fy,A7];lia
def zeE:∀bs:IK IQ,((Bk bs.length).any λi=>(bs[i]?).getD AC)=bs.any id
 |[]=>rfl
 |b::bs=>by rw[A7,FK,Az,Hq,Az,<-zeE bs];rfl
def zk0(m:X.calm=AC):yU X (.builtin "any") (λf H Q=>∃(l:AJ) (bs:IK IQ),f=[.ref l]/\SqL X.K H l (bs.map V.bl)/\Q (.bl (bs.any id)) H):=by
 intro E s D H f z Q I r h;let#[l,bs,rfl,n,q]:=h;let#[u,rfl,o]:=Vals.one r
 cases (show u=Ae l from o)
 let#[a,p,t,B]:=I.list n;have g:=zfy p;have c:=t.isList;have d:l<s.heap.objs.size:=by let#[_,e,_]:=c;exact AY e
 refine call_any_walk (EW c ?_);refine#[s.heap.objs.size,[s.heap.objs.size,l],[s.heap.objs.size],a.toArray.size,_,_,λi=>(bs[i]?).getD AC,rfl,IF (A:=X.A.in1) (I.ok.hd m) _ l (Am d) a.toArray,#[#[_,A8 _ rfl,rfl,rfl],c.push _],λi v C G J w j=>?_,λL x y=>?_]
 .let#[b,e,rfl]:=g.get i v (by simpa using w);erw[e,BR]at j;exact BU j
 .have e:((Bk a.toArray.size).any λi=>(bs[i]?).getD AC)=bs.any id:=by rw[AW,g.length];exact zeE bs
  rw[e];exact#[.bl _,H,I.kept (t':=x) (Fw y),rfl,q]
def zmn:∀{vs:IK PV} {m:IQ},IC.anyB vs=AA m->∃a:IK IQ,vs=a.map .bl/\m=a.any id
 |[],m,h=>by cases h;exact#[[],rfl,rfl]
 |.bl i::r,m,h=>by
  erw[IC.anyB]at h;split at h
  .rename_i c e
   cases h
   let#[a,b,d]:=zmn e;exact#[i::a,by rw[b];rfl,by rw[d];rfl]
  .cases h
 |.non::r,m,h=>by cases h
 |.int _::r,m,h=>by cases h
 |.str _::r,m,h=>by cases h
 |.tp _ _::r,m,h=>by cases h
 |.lst _::r,m,h=>by cases h
 |.loc _::r,m,h=>by cases h
 |.fnc _::r,m,h=>by cases h
 |.exn _::r,m,h=>by cases h
 |.scr _::r,m,h=>by cases h
def zp1:bootBuiltins "any"=AA (.builtin "any"):=∅
def zgZ:∀{a:IK IM} {us:IK AG},Vals (a.map V.int) us->us.length=a.length/\∀(i:IL) (v:AG),us[i]?=AA v->∃n t,a[i]?=AA n/\v=.int n t
 |[],_,.nil=>#[rfl,λi v h=>by simp at h]
 |n::a,_,.cons r q=>by
  let#[b,c]:=zgZ q;let#[t,rfl]:=r;refine#[by simp[b],λi v h=>?_]
  cases i with
  |zero=>simp at h;exact#[n,t,rfl,h.symm]
  |succ i=>simp at h;simpa using c i v h
def zeS:∀a:IK IM,((Bk a.length).any λi=>((a[i]?).getD 1) != 0)=a.any (· != 0)
 |[]=>rfl
 |b::bs=>by rw[A7,FK,Az,Hq,Az,<-zeS bs];rfl
def zih(m:X.calm=AC):yU X (.builtin "any") (λg H Q=>∃(l:AJ) (c:IK IM),g=[.ref l]/\SqT X.K H l (c.map V.int)/\Q (.bl (c.any (· != 0))) H):=by
 intro E s D H g G Q I r h;let#[l,c,rfl,n,q]:=h;let#[u,rfl,o]:=Vals.one r
 cases (show u=Ae l from o)
 let#[a,w,p,J]:=I.tuple n;let#[x,y]:=zgZ w;have d:s.heap.IsTuple l a.toArray:=p;have f:l<s.heap.objs.size:=by let#[_,e,_]:=d;exact AY e
 refine call_any_walk (Bm d ?_);refine#[s.heap.objs.size,[s.heap.objs.size,l],[s.heap.objs.size],a.toArray.size,_,_,λi=>((c[i]?).getD 1) != 0,rfl,Walks.tuple (A:=X.A.in1) (I.ok.hd m) _ l (Am f) a.toArray,#[#[_,A8 _ rfl,rfl,rfl],d.push _],λi v L M N z j=>?_,λO B C=>?_]
 .let#[b,t,e,rfl]:=y i v (by simpa using z);erw[e,BR]at j;exact truthy_int j
 .have e:((Bk a.toArray.size).any λi=>((c[i]?).getD 1) != 0)=c.any (· != 0):=by rw[AW,x];exact zeS c
  rw[e];exact#[.bl _,H,I.kept (t':=B) (Fw C),rfl,q]
def zjY:∀{vs:IK PV} {m:IQ},IC.anyI vs=AA m->∃a:IK IM,vs=a.map .int/\m=a.any (· != 0)
 |[],m,h=>by cases h;exact#[[],rfl,rfl]
 |.int i::r,m,h=>by
  erw[IC.anyI]at h;split at h
  .rename_i c e
   cases h
   let#[a,b,d]:=zjY e;exact#[i::a,by rw[b];rfl,by rw[d];rfl]
  .cases h
 |.non::r,m,h=>by cases h
 |.bl _::r,m,h=>by cases h
 |.str _::r,m,h=>by cases h
 |.tp _ _::r,m,h=>by cases h
 |.lst _::r,m,h=>by cases h
 |.loc _::r,m,h=>by cases h
 |.fnc _::r,m,h=>by cases h
 |.exn _::r,m,h=>by cases h
 |.scr _::r,m,h=>by cases h
def znE(st)(v:PV):(∃k xs,v=.tp k xs) \/ yaj .any st [v]=(yM st v).bind λxs=>(anyB xs).map .bl:=by cases v<;>first|exact .inl #[_,_,rfl]|exact .inr rfl
def zqo(n:X.calm=AC):yU X (.builtin "any") (rB S X .any):=by
 rintro E s D H t o Q I r ⟨B,C,st,u,z,d,l,e,q⟩
 let#[v,rfl]:=zcA e λ_ _=>rfl;let#[x,rfl,f]:=l.one;rcases znE st v with⟨k,c,rfl⟩|ev
 .have e:(IC.anyI c).map PV.bl=AA z:=e
  cases b:IC.anyI c with
  |none=>rw[b]at e;cases e
  |some m=>
   rw[b]at e
   cases e
   let#[g,rfl,rfl]:=zjY b;erw[yd]at f;let#[a,p,rfl,h,l]:=f;have h:=h.sq;rw[l.ints]at h;exact zih n E s D H _ o Q I r #[a,g,rfl,h,q _ H C .rfl d (by erw[yd])]
 .rw[ev]at e
  cases j:yM st v with
  |none=>rw[j]at e;cases e
  |some c=>
   rw[j]at e;erw[BH]at e
   cases b:IC.anyB c with
   |none=>rw[b]at e;cases e
   |some m=>
    rw[b]at e
    cases e
    let#[g,rfl,rfl]:=zmn b;let#[a,p,rfl,h,l]:=zct d f j;rw[l.bls]at h;exact zk0 n E s D H _ o Q I r #[a,g,rfl,h,q _ H C .rfl d (by erw[yd])]
end
end L2
namespace WE
open PySem PySem.Spec PyProof.Rows
section
variable {pg:Aa}{wd:Ai}{A:Ak}{Er:AG->AK->Prop}{s:AK}
theorem tit_keep{h h':Au}{i t}{j:IL}(u:h.IsTupleIter i t j)(k:∀o,h.get? i=AA o->h'.get? i=AA o):h'.IsTupleIter i t j:=let #[o,g,r]:=u;#[o,k o g,r]
def zdM{h h':Au}{t xs}(u:h.IsTuple t xs)(k:∀o,h.get? t=AA o->h'.get? t=AA o):h'.IsTuple t xs:=let #[o,g,r]:=u;#[o,k o g,r]
def Kz(z TO a b:AJ)(h h':Au):Prop:=∀c o,c≠z->c≠TO->c≠a->c≠b->h.get? c=AA o->h'.get? c=AA o
def zis{z TI TO g l t u}{j:IL}{xs ys x y a b}{Q:AG->AK->Prop}(D:G5 z TI TO g l t u)
  (w:E9 s.heap z TI TO .none) (gI:CV s.heap TI (.ref g) (.ref l)) (gO:CV s.heap TO a b) (u1:s.heap.IsTupleIter g t j) (u2:s.heap.IsTupleIter l u j) (t1:s.heap.IsTuple t xs) (t2:s.heap.IsTuple u ys) (ex:xs[j]?=AA x) (ey:ys[j]?=AA y)
  (k:∀m,E9 m z TI TO (rawInt s.heap.objs.size)->CV m TO x y->m.IsTupleIter g t (j+1)->m.IsTupleIter l u (j+1)->CV m s.heap.objs.size x y->m.objs.size=s.heap.objs.size+1->Kz z TO g l s.heap m->Q (.ref s.heap.objs.size) {s with heap:=m}):
  A6 (model pg wd) A (Ff.«zip.__next__» #[[.ref z],[]]) (λf s'=>∃v,f=.done (.ret v)/\Q v s') Er s:=by
 show A6 _ _ (field (.ref z) 2 >>= _) _ _ _;refine AI (BS w rfl (x:=.bool AB) rfl ?_);show A6 _ _ (field (.ref z) 3 >>= _) _ _ _;refine AI (BS w rfl (x:=.ref TI) rfl ?_);refine AI (C2 gI rfl ?_);show A6 _ _ (B7 (.ref z) >>= _) _ _ _;refine AI ?_;unfold B7;refine AI (BS w rfl (x:=.none) rfl (AV ?_));erw[IV];refine AI (FA ?_);refine AI (BS w rfl (x:=.ref TO) rfl ?_);refine AI (Ca w (by simp) λha M n=>?_)
 replace M:E9 ha z TI TO .ellipsis:=M
 refine AI ?_;erw[Gi,Gw,FO,HL];refine AI (AI (Eg ?_));show A6 _ _ (BL (.ref g) >>= _) _ _ _;refine AI (zdl (tit_keep u1 λo e=>n.extBut _ _ D.i1z e) (zdM t1 λo e=>n.extBut _ _ D.l1z e) ex λhb ub q=>AV ?_);have ob:CV hb TO a b:=q.extBut _ _ D.TOi1 (n.extBut _ _ D.TOz gO);refine AI (C2 ob rfl ?_);refine AI (F3 ob λhc N r=>?_)
 replace N:CV hc TO x b:=N
 refine AI (wpAny_letGo (AV ?_));refine AI (AI (Eg ?_));show A6 _ _ (BL (.ref l) >>= _) _ _ _;refine AI (zdl (tit_keep u2 λo e=>r.extBut _ _ D.TOi2.symm (q.extBut _ _ D.i12.symm (n.extBut _ _ D.i2z e))) (zdM t2 λo e=>r.extBut _ _ D.l2TO (q.extBut _ _ D.l2i1 (n.extBut _ _ D.l2z e))) ey λhd ud sd=>AV ?_);have od:CV hd TO x b:=sd.extBut _ _ D.TOi2 N;refine AI (C2 od rfl ?_);refine AI (F3 od λd G B=>?_)
 replace G:CV d TO x y:=G
 refine AI (wpAny_letGo (AV (AV ?_)));refine AI (C2 G rfl ?_);refine AI (wpAny_newTuple ?_);have sz:d.objs.size=s.heap.objs.size:=by rw[B.1,sd.1,r.1,q.1,n.1]
 have ze:E9 d z TI TO .ellipsis:=B.extBut _ _ D.TOz.symm (sd.extBut _ _ D.i2z.symm (r.extBut _ _ D.TOz.symm (q.extBut _ _ D.i1z.symm M)));have ke:Kz z TO g l s.heap d:=λc o H I O U e=>B.extBut _ _ I (sd.extBut _ _ U (r.extBut _ _ I (q.extBut _ _ O (n.extBut _ _ H e))));have v1:d.IsTupleIter g t (j+1):=tit_keep ub λo e=>B.extBut _ _ D.TOi1.symm (sd.extBut _ _ D.i12 (r.extBut _ _ D.TOi1.symm e));have v2:d.IsTupleIter l u (j+1):=tit_keep ud λo e=>B.extBut _ _ D.TOi2.symm e;have lz:z<d.objs.size:=AY ze;show A6 _ _ (Ct (.ref z) (.ref d.objs.size) >>= _) _ _ _;refine AI ?_;unfold Ct;have zf:E9 (d.push {cls:=.type "tuple",data:=.seq (IK.toArray [x,y])}) z TI TO .ellipsis:=AR _ ze;refine AI (Ca zf (by simp) λhg X Y=>?_)
 replace X:E9 hg z TI TO (rawInt d.objs.size):=X
 refine Ca X (by simp) λC J Z=>?_
 replace J:E9 C z TI TO (rawInt d.objs.size):=J
 have L:∀c o,c≠z->d.get? c=AA o->C.get? c=AA o:=λc o p e=>Z.extBut _ _ p (Y.extBut _ _ p (AR _ e));have pn:CV C d.objs.size x y:=Z.extBut _ _ (FD lz) (Y.extBut _ _ (FD lz) (A8 _ rfl));have E:C.objs.size=d.objs.size+1:=by rw[Z.1,Y.1,Bp]
 rw[sz]at J pn E;refine AV #[_,rfl,?_];show Q (.ref d.objs.size) _;rw[sz];exact k C J (L _ _ D.TOz G) (tit_keep v1 λo e=>L _ o D.i1z e) (tit_keep v2 λo e=>L _ o D.i2z e) pn E λc o H I O U e=>L c o H (ke c o H I O U e)
def zlh{z TI TO d g l B}{j:IL}{xs a b Q}(C:A.handled=AD)(D:G5 z TI TO d g l B)
  (f:E9 s.heap z TI TO .none) (E:CV s.heap TI (.ref d) (.ref g)) (X:CV s.heap TO a b) (G:s.heap.IsTupleIter d l j) (H:s.heap.IsTuple l xs) (ex:xs[j]?=AD)
  (k:∀m e,Kz z TO d g s.heap m->(∃o,m.get? e=AA o/\o.cls=.type "StopIteration")->Er (.ref e) {s with heap:=m}):
  A6 (model pg wd) A (Ff.«zip.__next__» #[[.ref z],[]]) Q Er s:=by
 show A6 _ _ (field (.ref z) 2 >>= _) _ _ _;refine AI (BS f rfl (x:=.bool AB) rfl ?_);show A6 _ _ (field (.ref z) 3 >>= _) _ _ _;refine AI (BS f rfl (x:=.ref TI) rfl ?_);refine AI (C2 E rfl ?_);show A6 _ _ (B7 (.ref z) >>= _) _ _ _;refine AI ?_;unfold B7;refine AI (BS f rfl (x:=.none) rfl (AV ?_));erw[IV];refine AI (FA ?_);refine AI (BS f rfl (x:=.ref TO) rfl ?_);refine AI (Ca f (by simp) λI n p=>?_)
 replace n:E9 I z TI TO .ellipsis:=n
 refine AI ?_;erw[Gi,Gw,FO,HL];refine AI (AI (Eg ?_));show A6 _ _ (BL (.ref d) >>= _) _ _ _;refine AI (zf2 C (tit_keep G λo e=>p.extBut _ _ D.i1z e) (zdM H λo e=>p.extBut _ _ D.l1z e) ex λJ e t L=>?_);let#[M,r,ce]:=L;have u:E9 J z TI TO .ellipsis:=t _ _ D.i1z.symm n;have N:e≠z:=λq=>by subst q;rw[u]at r;cases r;simp at ce
 exact Ca u (by simp) λO _ w=>k O e (λc o y _ U _ q=>w.extBut _ _ y (t _ _ U (p.extBut _ _ y q))) #[M,w.extBut _ _ N r,ce]
theorem pyNext_zipT{z TI TO d f g l}{j:IL}{xs m x y a b}{Q:Option AG->AK->Prop}(D:G5 z TI TO d f g l)
  (n:E9 s.heap z TI TO .none) (p:CV s.heap TI (.ref d) (.ref f)) (q:CV s.heap TO a b) (r:s.heap.IsTupleIter d g j) (t:s.heap.IsTupleIter f l j) (u:s.heap.IsTuple g xs) (w:s.heap.IsTuple l m) (ex:xs[j]?=AA x) (B:m[j]?=AA y)
  (k:∀c,E9 c z TI TO (rawInt s.heap.objs.size)->CV c TO x y->c.IsTupleIter d g (j+1)->c.IsTupleIter f l (j+1)->CV c s.heap.objs.size x y->c.objs.size=s.heap.objs.size+1->Kz z TO d f s.heap c->Q (AA (.ref s.heap.objs.size)) {s with heap:=c}):
  A6 (model pg wd) A (pyNext (.ref z)) Q Er s:=by have o:s.TypeIs (.ref z) "zip":=#[_,n,rfl];unfold pyNext;exact AI (wpAny_attempt (Bb (name:=AE "__next__") o Dm (C1 Dm o Gj (zis D n p q r t u w ex B λc C E G H I J L=>AV (k c C E G H I J L)) (G6 _))))
theorem pyNext_zipE{z TI TO c d f n}{j:IL}{xs a b}{Q:Option AG->AK->Prop}(p:A.handled=AD)(D:G5 z TI TO c d f n)
  (l:E9 s.heap z TI TO .none) (q:CV s.heap TI (.ref c) (.ref d)) (r:CV s.heap TO a b) (t:s.heap.IsTupleIter c f j) (u:s.heap.IsTuple f xs) (ex:xs[j]?=AD)
  (k:∀g,Kz z TO c d s.heap g->Q AD {s with heap:=g}):A6 (model pg wd) A (pyNext (.ref z)) Q Er s:=by have m:s.TypeIs (.ref z) "zip":=#[_,l,rfl];unfold pyNext;refine AI (wpAny_attempt (Bb (name:=AE "__next__") m Dm (C1 Dm m Gj (zlh p D l q r t u ex λg e kk w=>?_) (G6 _))));let#[o,x,y]:=w;exact AI (wpAny_isInstance (T:="StopIteration") (b:=AC) #[o,x,y] isSubtype_stop (AV (k _ kk)))
end
abbrev ti(l:AJ):Obj:={cls:=.type "tuple_iterator",data:=.fields (IK.toArray [.ref l,.int 0 0])}
abbrev yip(h:Au)(a:AJ):Heap:=h.push (ti a)
abbrev yiq(h:Au)(a b:AJ):Heap:=(yip h a).push (ti b)
abbrev yir(h:Au)(a b:AJ):Heap:=(yiq h a b).push {cls:=.type "tuple",data:=.seq (IK.toArray [.ref h.objs.size,.ref (yip h a).objs.size])}
abbrev yis(h:Au)(a b:AJ):Heap:=(yir h a b).push {cls:=.type "tuple",data:=.seq (IK.toArray [.none,.none])}
abbrev yhX(h:Au)(a b:AJ):Heap:=(yis h a b).push {cls:=.type "zip",data:=.fields (IK.toArray [.none,.bool AB,.bool AB,.ref (yiq h a b).objs.size,.ref (yir h a b).objs.size])}
def zhO(a b)(xs c:Ie AG):
  Meets (Ff.«zip.__new__» #[[.type "zip",.ref a,.ref b],[]]) (λ_ R s=>s.heap.IsTuple a xs/\s.heap.IsTuple b c/\R (.ok (.ret (.ref (yis s.heap a b).objs.size))) {s with heap:=yhX s.heap a b}):=
 .of_wp λf w A R s h=>by
  let#[j,g,d,l,os]:=s;let#[n,p,h]:=h;have m:=sub_zip;have T1:G0 (Gq #[j,g,d,l,os]) a xs:=n;have T2:G0 (Gq #[j.push (ti a),g,d,l,os]) b c:=zdM p λo e=>AR _ e
  wp_walk using Bm T1,Bm T2
  exact#[_,rfl,h]
theorem call_zipT{pg wd A x}{s:AK}{a c xs p}{Q:AG->AK->Prop}(y:s.heap.IsTuple a xs)(z:s.heap.IsTuple c p)
  (k:∀f,E9 f (s.heap.objs.size+4) (s.heap.objs.size+2) (s.heap.objs.size+3) .none->CV f (s.heap.objs.size+2) (.ref s.heap.objs.size) (.ref (s.heap.objs.size+1))->CV f (s.heap.objs.size+3) .none .none->f.IsTupleIter s.heap.objs.size a 0->f.IsTupleIter (s.heap.objs.size+1) c 0 ->
   (∀b o,s.heap.get? b=AA o->f.get? b=AA o)->Q (.ref (s.heap.objs.size+4)) {s with heap:=f}):A6 (model pg wd) A (call (.type "zip") [.ref a,.ref c]) Q x s:=by
 refine callType_new F.called_zip ⋯ (F.typeCall_zip_2 _ _) (F.newCall_zip_2 _ _) (λg=>F.args_object_init_3 g _ _) F.entry_zip_new (zhO a c xs p) #[y,z,?_];have j:(yip s.heap a).objs.size=s.heap.objs.size+1:=Bp ..;have l:(yiq s.heap a c).objs.size=s.heap.objs.size+2:=by rw[Bp,j]
 have m:(yir s.heap a c).objs.size=s.heap.objs.size+3:=by rw[Bp,l]
 have q:(yis s.heap a c).objs.size=s.heap.objs.size+4:=by rw[Bp,m]
 have d:∀{h:Au} {o:Bi} {b:AJ} {u:Bi},h.get? b=AA u->(h.push o).get? b=AA u:=λe=>AR _ e;have n:(yhX s.heap a c).get? (yis s.heap a c).objs.size=AA _:=A8 _ rfl;have r:(yhX s.heap a c).get? (yir s.heap a c).objs.size=AA _:=d (A8 _ rfl);have t:(yhX s.heap a c).get? (yiq s.heap a c).objs.size=AA _:=d (d (A8 _ rfl));have w:(yhX s.heap a c).get? (yip s.heap a).objs.size=AA _:=d (d (d (A8 _ rfl)));have B:(yhX s.heap a c).get? s.heap.objs.size=AA _:=d (d (d (d (A8 _ rfl))));rw[l,m,q]at n;rw[j,l]at t;rw[m]at r;rw[j]at w;show _/\_;rw[q];exact#[#[_,n,rfl],k _ n t r #[_,B,rfl,rfl] #[_,w,rfl,rfl] λb o e=>d (d (d (d (d e))))]
end WE
namespace L2
open PySem PySem.Spec PyProof.Rows
def Itz(K:AF)(a b:AJ):It:=
 #[λi H=>∃c d x y,SqT K H a c/\SqT K H b d/\c[i]?=AA x/\d[i]?=AA y,λi H v f=>∃T,H T=AD/\v=.ref T/\∀c d x y,SqT K H a c->SqT K H b d->c[i]?=AA x->d[i]?=AA y->f=upd H T (.tup [x,y]),λi H=>∃c,SqT K H a c/\c.length=i]
def ziG{P w K es}{kk:IL}{pos}(z TI TO t C a b)(D:G5 z TI TO t C a b):
  Turn P w K (.Tuple es kk pos) (Itz K a b) [z,TI,TO,t,C] z (λi h=>E9 h z TI TO .none/\CV h TI (.ref t) (.ref C)/\(∃p q,CV h TO p q)/\h.IsTupleIter t a i/\h.IsTupleIter C b i) where
 mem:=by simp
 obj:=λi h st c g=>by
  let#[j,l,#[p,q,n],#[o3,r,_,d3],#[o4,G,_,d4]]:=st;erw[AS,A9,IX]at g;rcases g with rfl|rfl|rfl|rfl|rfl
  .exact#[_,j,λv y=>nomatch y]
  .exact#[_,l,λv y=>nomatch y]
  .exact#[_,n,λv y=>nomatch y]
  .exact#[o3,r,λv y=>by rw[d3]at y;cases y]
  .exact#[o4,G,λv y=>by rw[d4]at y;cases y]
 keep:=λi h h' st k=>by let#[j,l,#[p,q,n],r,G]:=st;exact#[k z (by simp) _ j,k TI (by simp) _ l,#[p,q,k TO (by simp) _ n],WE.tit_keep r λo e=>k t (by simp) o e,WE.tit_keep G λo e=>k C (by simp) o e]
 item:=by
  intro X O Q U g i B s A H E I hf st Y;subst O Q U;let#[xs,ys,x,y,m,L,Z,hy]:=Y;let#[its,rv,p1,_]:=I.tuple m;let#[jts,rw',p2,_]:=I.tuple L;let#[j,l,#[p,q,n],r,G]:=st;let#[u,hu,ru]:=rv.get Z;let#[v,hv,rv2]:=rw'.get hy;refine WE.pyNext_zipT D j l n r G p1 p2 (by simpa using hu) (by simpa using hv) λh1 a1 a2 a3 a4 a5 a6 a7=>#[_,rfl,?_];refine wpAny_letOwnedTupleGo_zip a1 λh2 b1 J=>?_;have lt:∀{c o},s.heap.get? c=AA o->s.heap.objs.size≠c:=λe=>FD (AY e);have hTz:s.heap.objs.size≠z:=lt j;have hch:∀c o,c∉[z,TI,TO,t,C]->s.heap.get? c=AA o->h2.get? c=AA o:=λc o f e=>J.extBut _ _ (λd=>f (by simp[d])) (a7 c o (λd=>f (by simp[d])) (λd=>f (by simp[d])) (λd=>f (by simp[d])) (λd=>f (by simp[d])) e);have new:yQ X.prog X.w (upd H s.heap.objs.size (.tup [x,y])) h2 s.heap.objs.size (.tup [x,y]):=#[by show 2<=sizeLine;decide,[u,v],.cons ru (.cons rv2 .nil),_,J.extBut _ _ hTz a5,rfl,_,rfl];have I2:=I.turnLaid (t':=s.toks) hf hch (AQ _) new;have gI:CV h1 TI (.ref t) (.ref C):=a7 _ _ D.TIz D.TITO D.TIi1 D.TIi2 l;refine#[.ref s.heap.objs.size,_,I2,rfl,#[s.heap.objs.size,I.hok.fresh (AQ _),rfl,λxs' ys' x' y' hx1 hy1 M N=>?_],#[b1,J.extBut _ _ D.TIz gI,#[_,_,J.extBut _ _ D.TOz a2],WE.tit_keep a3 λo e=>J.extBut _ _ D.i1z e,WE.tit_keep a4 λo e=>J.extBut _ _ D.i2z e],λc g=>?_]
  .rw[I.tuple_inj hx1 m,Z]at M;rw[I.tuple_inj hy1 L,hy]at N
   cases M
   cases N
   rfl
  .have hne:c≠s.heap.objs.size:=λd=>by
    subst d;let#[o3,e3,_]:=r;let#[o4,e4,_]:=G;erw[AS,A9,IX]at g;rcases g with d | d | d | d | d
    .exact lt j d
    .exact lt l d
    .exact lt n d
    .exact lt e3 d
    .exact lt e4 d
   rw[zj hne];exact(hf c g).1
 done:=by intro X O Q U g i B s A H E I hf st Y;subst O Q U;let#[xs,m,Z]:=Y;let#[its,rv,p1,_]:=I.tuple m;let#[j,l,#[p,q,n],r,G]:=st;have hl:=rv.length;refine WE.pyNext_zipE (I.ok.hd g) D j l n r p1 (by simp;lia) λh' kz=>#[rfl,I.turnedL (t':=s.toks) hf λc o f e=>kz c o (λd=>f (by simp[d])) (λd=>f (by simp[d])) (λd=>f (by simp[d])) (λd=>f (by simp[d])) e]
 self:=λ_ _ _ _ _ st q=>Gk st.1 q
def yg9(K:AF)(d:TA):TI:=λA H R=>d A H λf c=>∃a b,f=[.ref a,.ref b]/\(∃g,SqT K c a g)/\(∃j,SqT K c b j)/\R (Itz K a b) c
def zmJ{X}{a b:AT}{es}{kk:IL}{C x}{p pos:CB}(D:Gl X "zip")(E:X.mg "zip"=AD)(G:PA X [a,b] x)(J:starEach [a,b] X.env=[(AB,eval a X.env),(AB,eval b X.env)]:=by rfl)(f:starEach [b] X.env=[(AB,eval b X.env)]:=by rfl):
  PI X (.Tuple es kk C) (.Call (.Name "zip" p) [a,b] [] pos) (yg9 X.K x):=by
 intro B s A H R I h;refine BN (zeC I D E boot_zip ?_);refine CA (thn (G pos B s A H _ I h) λus d L=>?_) (by rw[J,f]) (by rw[f];rfl);let#[vs,M,g,N,O]:=L;let#[o,t,rfl,#[xs,u],#[ys,w],q]:=O
 cases N with
 |cons r Q=>
  cases Q with
  |cons U Y=>
   cases Y
   cases (show _=Ae o from r)
   cases (show _=Ae t from U)
   let#[Z,rv,j,_]:=g.tuple u;let#[jts,rv2,l,_]:=g.tuple w;have b1:o<d.heap.objs.size:=by let#[_,e,_]:=j;exact AY e
   have b2:t<d.heap.objs.size:=by let#[_,e,_]:=l;exact AY e
   refine WE.call_zipT j l λh1 y g1 g2 g3 g4 kp=>?_;refine Gk y ?_;refine#[_,[d.heap.objs.size+4,d.heap.objs.size+2,d.heap.objs.size+3,d.heap.objs.size,d.heap.objs.size+1],_,_,M,rfl,g.kept (t':=d.toks) kp,ziG _ _ _ _ _ o t (zipApart_new b1 b2),#[y,g1,#[_,_,g2],g3,g4],λc z=>?_,q];have m:d.heap.objs.size<=c:=by
    erw[AS,A9,IX]at z;rcases z with n | n | n | n | n<;>subst n
    .exact DX _ 4
    .exact DX _ 2
    .exact DX _ 3
    .exact AQ _
    .exact DX _ 1
   exact g.fpOk m (g.hok.fresh m)
end L2
namespace L2
open PySem PySem.Spec PyProof.Rows IC
inductive yco(K:AF)(cl:IL->AJ)(w:Ai):IK (AL×PV)->IK CD->Prop
 |nil:yco K cl w [] []
 |cons {k:AL} {v:PV} {t:IA} {u:AG} {x:V} {D:IK (AL×PV)} {es:IK CD} (hr:RelV x u) (hv:∀B A H,yd K cl B A H v x) (h:yco K cl w D es):yco K cl w ((k,v)::D) (#[EL w.params k,.str k t,u] :: es)
def GD(K:AF)(w:Ai)(b:AL->Option AG)(c:IL->AJ)(x:AL)(D:IK (AL×PV)):Prop:=
 ∃(y:AJ) (a:Ie CD) (d:IL),b x=AA (.ref y)/\K.lookup y=AA #[.type "dict",AD,.dict a d,(IK.toArray [])]/\(y==sysModules)=AB/\yco K c w D a.toList/\(D.map (·.1)).Nodup
theorem yco.pairs{K:AF}{c:IL->AJ}{P:Aa}{w:Ai}{D:IK (AL×PV)}{es:IK CD}(h:yco K c w D es):
  ∃vs:IK (AL×AG),Pairs (strKind P w) es vs/\(∀e∈es,∃k,(strKind P w).is k e.key=AC/\e.hash=(strKind P w).hash k)/\vs.map (·.1)=D.map (·.1) /\
   (∀s,(valueAt vs s).isSome=(yaS s D).isSome)/\∀s v,yaS s D=AA v->∃u x,valueAt vs s=AA u/\RelV x u/\∀B A H,yd K c B A H v x:=by
 induction h with
 |nil=>exact#[[],.nil,λe a=>(by cases a),rfl,λs=>rfl,λs v e=>by cases e]
 |@cons k v t u x D es d f h ih=>
  let#[vs,g,j,l,m,n]:=ih;have b:∀s,valueAt ((k,u)::vs) s=if k=s then AA u else valueAt vs s:=λs=>by
   unfold valueAt;rw[Bw]
   by_cases e:k=s
   .simp[e]
   .simp[e]
  refine#[(k,u)::vs,.cons (DY P w k t) rfl g,λe a=>?_,by rw[AO,AO,l],λs=>?_,λs o e=>?_]
  .rcases AS.1 a with rfl|a
   .exact#[k,DY P w k t,rfl]
   .exact j e a
  .rw[b,yaS]
   by_cases e:k=s
   .rw[IR e,IR (by simpa using e)];rfl
   .rw[IS e,IS (by simpa using e),m]
  .rw[yaS]at e;rw[b]
   by_cases q:k=s
   .rw[IR (by simpa using q)]at e
    cases e
    exact#[u,x,by rw[IR q],d,f]
   .rw[IS (by simpa using q)]at e;let#[p,r,y,z,C]:=n s o e;exact#[p,r,by rw[IS q];exact y,z,C]
section
variable {S:Se}{X:Cx}{C:St}{B:AJ->Prop}{A:Ph}{H:Hp}{st:SO}{pos p:CB}{a b i:AT}{ca cb:Ce}{x:AL}{D:IK (AL×PV)}{ty:TE}
def zjG{y:AJ}{es}{a:IL}{E s}(I:Inv X E C H s)(b:X.K.lookup y=AA #[.type "dict",AD,.dict es a,(IK.toArray [])])(c:(D.map (·.1)).Nodup){vs}(d:Pairs (strKind X.prog X.w) es.toList vs)
  (f:∀e∈es.toList,∃k,(strKind X.prog X.w).is k e.key=AC/\e.hash=(strKind X.prog X.w).hash k) (g:vs.map (·.1)=D.map (·.1)):s.heap.DictOf (strKind X.prog X.w) y vs:=
 #[_,es,a,I.kIn y _ b,#[rfl,rfl,rfl],rfl,λe j=>f e (by simpa using j),d,by rw[g];exact c]
def ye3(S:Se)(X:Cx)(D:IK (AL×PV))(ty:TE):TE:=λC H Q=>ty C H λz b=>∃s v,z=.str s/\yaS s D=AA v/\∀a,(∀B A H,yd X.K S.cl B A H v a)->Q a b
def zob(n:Gl X x)(h:GD X.K X.w X.mg S.cl x D)(o:PE X i ty)(q:ydb i)(r:(x==("__debug__":AL))=false:=by decide):PE X (.Subscript (.Name x p) i pos) (ye3 S X D ty):=by let#[y,es,ep,w,G,J,L,M]:=h;let#[vs,N,O,U,h4,Y]:=L.pairs (P:=X.prog);intro E s C H Q I Z;refine ziO ES.lookup q (thn (zdq (v:=.ref y) n w rfl r E s C H (λz b=>z=.ref y/\ty C b λz c=>∃s v,z=.str s/\yaS s D=AA v/\∀a,(∀B A H,yd X.K S.cl B A H v a)->Q a c) I #[rfl,Z]) λu s1 d=>?_);let#[z,b,I1,rz,ez,q1]:=d;refine thn (o E s1 C b _ I1 q1) λiv s2 d=>?_;let#[z2,c,j,f,l,v,g,e,q2]:=d;subst ez;subst g;obtain rfl:u=Ae y:=rz;let#[t,rfl]:=f;have m:=zjG j G M N O U;let#[u',a,e1,e2,e3]:=Y l v e;exact#[m.typeIs,Gm (DY X.prog X.w l t) m.mapOf e1 #[a,c,j.tok _,e2,q2 a e3]]
def zqx(c:Gl X x)(h:GD X.K X.w X.mg S.cl x D)(d:PE X b (tE S X cb))(f:ydb b:=by exact λ_ _=>rfl)(g:(x==("__debug__":AL))=false:=by decide):PE X (.Subscript (.Name x p) b pos) (tE S X (.dix D cb)):=
 (zob c h d f g).imp λC H Q #[B,A,st,U,j,l,h]=>by
  erw[ev]at h;refine tE.bind j l h λz m v n o G rs1 r a t=>?_;let#[w,e,q]:=zar t rs1
  cases v with
  |str u=>
   erw[yd]at a;exact#[u,w,a,e,λy E=>q y m o .rfl rs1 (E _ _ _)]
  |_=>cases e
def ygZ(y:AJ)(D:IK (AL×PV)):R2:=λx z H Q=>z=.ref y/\∃s,x=.str s/\Q (.bl (yaS s D).isSome) H
def zpl(j:Gl X x)(h:GD X.K X.w X.mg S.cl x D)(l:PE X a (tE S X ca))(m:behindInMarks .In (.Name x p)=false:=by ac_rfl)(n:(x==("__debug__":AL))=false:=by decide):PE X (.Compare a [.In] [.Name x p] pos) (tE S X (.din ca D)):=by
 let#[y,es,ep,c,o,d,r,G]:=h;let#[vs,f,J,L,M,h5]:=r.pairs (P:=X.prog);have N:OpR X (compareOp .In) (ygZ y D):=by intro E s C H z1 z2 v u Q I O Y #[Z,b,ex,q];subst Z;subst ex;obtain rfl:u=Ae y:=Y;let#[t,rfl]:=O;have dd:=zjG I o G f J L;refine wpAny_in_of (DY X.prog X.w b t) d dd.mapOf #[.bl (yaS b D).isSome,H,I.tok _,?_,q];rw[M];rfl
 refine(zgw N l (zdq (v:=.ref y) j c rfl n) m).imp λC H Q kq=>?_;let#[B,A,st,U,rs,re,h]:=kq;erw[ev]at h;refine tE.bind rs re h λz H1 v st1 A1 s1 rs1 re1 g f=>?_;let#[w,e,q]:=zar f rs1
 cases v with
 |str b=>
  erw[yd]at g
  cases e
  exact#[rfl,b,g,q _ H1 A1 .rfl rs1 (by erw[yd])]
 |_=>cases e
def zgg:∀(xs a:IK PV) (i:IL) {x y:PV},xs[i]?=AA x->a[i]?=AA y->(yaL xs a)[i]?=AA (.tup [x,y])
 |[],_,i,_,_,h,_=>by simp at h
 |_::_,[],i,_,_,_,h=>by simp at h
 |x::xs,y::a,0,_,_,b,c=>by simp at b c;simp[yaL,b,c]
 |x::xs,y::a,i+1,_,_,b,c=>by erw[Ar]at b c;erw[yaL,Ar];exact zgg xs a i b c
def zf6:∀(xs a:IK PV),xs.length<=a.length->(yaL xs a).length=xs.length
 |[],_,_=>by simp[yaL]
 |_::_,[],h=>by simp at h
 |x::xs,y::a,h=>by erw[yaL,A7,zf6 xs a (by simpa using h)]
def znO{k j vs a xs c y z}(rt:ybP X.K B A H k y xs)(l:yg X.K S.cl B A H vs xs)(d:ybP X.K B A H j z c)(r:yg X.K S.cl B A H a c)(f:vs.length<=a.length):Drw S X B A H (yaL vs a) (Itz X.K y z):=by have O:=l.length;have J:=r.length;have Q:=zf6 vs a f;refine#[λt u s=>#[xs,(rt.step s).sq,()],λi t u s L=>#[xs,c,xs[i]'(),c[i]'(),(rt.step s).sq,(d.step s).sq,by simp[show i<xs.length by lia],by simp[show i<c.length by lia]],λi t u st x U Y C s M L q=>?_];let#[T,D,rfl,q]:=q;obtain⟨v,E⟩:∃v,vs[i]?=AA v:=#[vs[i]'(),by simp[show i<vs.length by lia]];obtain⟨w,G⟩:∃w,a[i]?=AA w:=#[a[i]'(),by simp[show i<a.length by lia]];let#[I,g,N]:=l.get i E;let#[m,n,p]:=r.get i G;have e:=q xs c I m (rt.step s).sq (d.step s).sq g n;subst e;refine#[.tup [v,w],zgg vs a i E G,.tup_new D M ?_,λb o e=>by rw[zj (zo e D)];exact e];erw[yg];exact#[I,[m],rfl,(N.moreB C).step s,m,[],rfl,(p.moreB C).step s,rfl]
def zpV{es}{kk:IL}{tp}(t:Gl X "zip")(u:X.mg "zip"=AD)(z:PE X a (tE S X ca))(D:PE X b (tE S X cb))(o:starEach [a,b] X.env=[(AB,eval a X.env),(AB,eval b X.env)]:=by rfl)(c:starEach [b] X.env=[(AB,eval b X.env)]:=by rfl):
  PI X (.Tuple es kk tp) (.Call (.Name "zip" p) [a,b] [] pos) (tI S X (.zip ca cb)):=
 (zmJ t u (zav z (zav D zrH c) (by rw[o,c])) o c).imp λC H R #[B,A,st,U,E,G,h]=>by
  erw[IC.vjq0,IC.vjq1,IC.vjq2,IC.vjq3,IC.vjq4,IC.vjq5,IC.vjq6,IC.vjq7,IC.vjq8]at h;refine tE.bind E G h λx H1 v I A1 s1 rs1 g q J=>tE.bind rs1 g J λy H2 w L A2 m rs2 M rw n=>?_;let#[zs,e,n]:=zj2 n
  cases v with
  |tp k N=>
   cases w with
   |tp j O=>
    erw[yec]at e
    by_cases d:N.length<=O.length
    .rw[IR d]at e
     cases e
     erw[yd]at q rw;let#[Q,Y,rfl,r,l]:=q;let#[Z,ys,rfl,f,l2]:=rw;exact#[Q,Z,rfl,#[Y,(r.step m).sq],#[ys,f.sq],n.ok rs2 (znO (r.step m) (l.step m) f l2 d)]
    .rw[IS d]at e
     cases e
   |_=>cases e
  |_=>cases e
end
section
variable {K:AF}{cl:IL->AJ}{B:AJ->Prop}{A:Ph}{H:Hp}{st:SO}
theorem nth{D y}(b:¬Bx B D y)(n:AA y∉A):¬B y/\AA y∉A++[AA D]:=#[λz=>b (.inl z),λz=>by
 rcases BG.1 z with z|z
 .exact n z
 .simp only[AS,A9,IX,E8]at z;exact b (.inr z)]
mutual
theorem yd.thaw{D:AJ}:∀(v:PV) (x:V),yd K cl (Bx B D) A H v x->yd K cl B (A++[AA D]) H v x
 |.non,x,h=>by erw[yd]at h ⊢;exact h
 |.bl b,x,h=>by erw[yd]at h ⊢;exact h
 |.int i,x,h=>by erw[yd]at h ⊢;exact h
 |.str y,x,h=>by erw[yd]at h ⊢;exact h
 |.tp k d,x,h=>by
  erw[yd]at h ⊢;let#[y,a,e,r,l]:=h;refine#[y,a,e,?_,yg.thaw d a l];rcases r with⟨r,b,n⟩|r
  .exact .inl #[r,nth b n]
  .exact .inr r
 |.lst d,x,h=>by erw[yd]at h ⊢;let#[y,a,e,#[r,b,n],l]:=h;exact#[y,a,e,#[r,nth b n],yg.thaw d a l]
 |.loc n,x,h=>by erw[yd]at h ⊢;let#[f,y,e,q]:=h;exact#[by simp;lia,y,e,λb z=>q b (by rw[A5 f]at z;exact z)]
 |.fnc j,x,h=>by erw[yd]at h ⊢;exact h
 |.exn c,x,h=>by erw[yd]at h ⊢;let#[y,e,r,b,n]:=h;exact#[y,e,r,nth b n]
 |.scr d,x,h=>by
  erw[yd]at h ⊢;let#[y,a,e,r,l]:=h;refine#[y,a,e,?_,yg.thaw d a l];rcases r with⟨r,b,n⟩|r
  .exact .inl #[r,nth b n]
  .exact .inr r
theorem yg.thaw{D:AJ}:∀(v:IK PV) (x:IK V),yg K cl (Bx B D) A H v x->yg K cl B (A++[AA D]) H v x
 |[],x,h=>by erw[yg]at h ⊢;exact h
 |v::b,x,h=>by erw[yg]at h ⊢;let#[y,a,e,r,l]:=h;exact#[y,a,e,yd.thaw v y r,yg.thaw b a l]
end
theorem DK.thaw{D:AJ}:∀{a:IK (PV×PV)} {b:IK (Key×V)},DK K cl (Bx B D) A H a b->DK K cl B (A++[AA D]) H a b
 |[],b,h=>h
 |(k,v)::r,b,h=>by let#[q,x,t,e,m,c,l]:=h;exact#[q,x,t,e,m,c.thaw,DK.thaw l]
theorem DT.thaw{D:AJ}:∀{a:IK (PV×PV)} {b:IK (IK Key×V)},DT K cl (Bx B D) A H a b->DT K cl B (A++[AA D]) H a b
 |[],b,h=>h
 |(k,v)::r,b,h=>by let#[q,x,t,e,m,c,l]:=h;exact#[q,x,t,e,m,c.thaw,DT.thaw l]
theorem FS.thaw{D:AJ}:∀{a:IK (AL×PV)} {b:IK (AL×V)},FS K cl (Bx B D) A H a b->FS K cl B (A++[AA D]) H a b
 |[],b,h=>h
 |(k,v)::r,b,h=>by let#[x,t,e,c,l]:=h;exact#[x,t,e,c.thaw,FS.thaw l]
theorem yx.thaw{D:AJ}{u:IK PV}{w:IK V}(rs:yx K cl (Bx B D) A H st)(nB:¬B D)(I:H D=AA (.lst w))(J:AA D∉A)(l:yg K cl (Bx B D) A H u w):yx K cl B (A++[AA D]) H (st++[.lst u]):=by
 have x:A.length=st.length:=rs.len;have b:∀{n:IL} {a:AJ},(A++[AA D])[n]?=AA (AA a)->(n<A.length/\A[n]?=AA (AA a)) \/ (n=A.length/\a=D):=λ{n a} e=>by
  by_cases g:n<A.length
  .rw[A5 g]at e;exact .inl #[g,e]
  .rw[Ad ()]at e;rcases (by lia:n-A.length=0 \/ 0<n-A.length)with q|q
   .rw[q]at e;simp at e;exact .inr #[(),e.symm]
   .rw[BD (by simp;lia)]at e;cases e
 have G:∀{n:IL} {a:AJ},A[n]?=AA (AA a)->a≠D:=λe z=>J (z ▸ AZ e);refine#[by simp[x],λm n a d j=>?_,λn a e=>?_,λn o e L=>?_,λa h=>?_,λa h=>rs.dom a (.inl h)]
 .rcases b d with⟨p,d⟩|⟨p,y⟩<;>rcases b j with⟨M,j⟩|⟨M,N⟩
  .exact rs.inj m n a d j
  .exact IU N (G d)
  .exact IU y (G j)
  .lia
 .rcases b e with⟨p,d⟩|⟨p,y⟩
  .let#[o,q,r]:=rs.obj n a d;refine#[o,by rw[A5 ()];exact q,?_]
   cases o with
   |lst U=>let#[C,f,l]:=r;exact#[C,f,l.thaw]
   |dct t O=>cases t<;>(let#[C,f,l]:=r;exact#[C,f,l.thaw])
   |ins c fs=>let#[Q,f,l]:=r;exact#[Q,f,l.thaw]
   |dead=>exact r.elim
  .subst y;exact#[.lst u,by rw[p,x,Ad (AQ _)];simp,w,I,l.thaw]
 .by_cases g:n<st.length
  .rw[A5 g]at e;let#[a,q]:=rs.liv n o e L;exact#[a,by rw[A5 ()];exact q]
  .have E:n=st.length:=by
    rcases (by lia:n=st.length \/ st.length<n)with q|q
    .exact q
    .rw[BD (by simp;lia)]at e;cases e
   exact#[D,by rw[E,<-x,Ad (AQ _)];simp]
 .rcases BG.1 h with h|h
  .exact λz=>rs.nb a h (.inl z)
  .simp only[AS,A9,IX,E8]at h;subst h;exact nB
end
section
variable {S:Se}{X:Cx}{K:AF}{cl:IL->AJ}{C:St}{B:AJ->Prop}{A A1:Ph}{H H1:Hp}{st:SO}{U:IC.Env}{pos p p2 px:CB}{a b c o tg l elt iter:AT}{ca cb cc ce:Ce}{ci:Cit}{ct:Tg}
def zj4{Rel:Ph->Hp->PV->V->Prop}{r:R (IK PV)}{Q:VK}(h:Run S X C B A H Rel ((ybA r).bind ycL) Q):∃b a,r=.ok b a/\b.length<=1000000/\∀x c d,Step A H d c->yx X.K S.cl B d c (a++[.lst b])->Rel d c (.loc a.length) x->Q x c:=by
 cases r with
 |ok b a=>
  by_cases f:b.length<=1000000
  .simp only[ybA,IR f]at h;exact#[b,a,rfl,f,h]
  .simp only[ybA,IS f]at h;exact h.elim
 |exc k s=>exact h.elim
 |bad=>exact h.elim
def zhX{sl:IK (Option IL)}(hf:yaf ct sl=AC){H Q}(h:tE S X (.thw (.comp sl ct ci cc ce)) C H Q):ych sl (tI S X ci) (tG0 S X.K ct) (tT0 S X.K cc) (tE0 S X.K ce) C H Q:=by
 let#[B,A,st,U,g,d,h]:=h;rw[show ev S.call U st (.thw (.comp sl ct ci cc ce))=(ev S.call U st (.comp sl ct ci cc ce)).bind ycL from rfl,v_comp,R.bind_assoc]at h;refine#[B,A,st,U,g,d,(Run.bind h).mono λJ H1 j=>?_];let#[E,l,A1,m,rs1,p,c]:=j;refine λD f=>?_;let#[G,r,e,t,c]:=zj4 c;refine zeM hf rs1 (d.step m) p f e t λu w I a x nB y rs2 z=>c (.ref D) w (u++[AA D]) #[λb o n q=>a.keep b o n q,As a.len (by simp),λn b h e=>by rw[A5 (A4 h a.len)]at e;exact a.pre n b h e,λb h=>by
   rcases BG.1 h with h|h
   .exact a.new b h
   .obtain rfl:=AX (IK.mem_singleton.1 h);exact .inr f] (yx.thaw rs2 nB x y z) ?_
 erw[yd];refine#[by simp[rs2.len],D,rfl,λb e=>?_];rw[<-rs2.len,Ad (AQ _)]at e;simpa using e.symm
def zlr{sc c sl b}{i:IL}{x}{a:CB}(m:X.N.Nodup)(d:X.N[i]?=AA x)(o:Loc X.env.scope x)(p:X.calm=AC)(O:yai X sc c sl)(hf:yaf ct sl=AC)(q:PI X tg iter (tI S X ci))(r:∀j,PG (cxC X sc c j) tg (tG0 S X.K ct))
  (t:∀j,PTs (cxC X sc c j) b (tT0 S X.K cc)) (u:∀j,PE (cxC X sc c j) elt (tE0 S X.K ce))
  (f:swapsWith (.ListComp elt [#[tg,iter,b,0]] sc pos) (AA (.Name x px)) a.line X.env=pure true:=by rfl) (w:∀x,foldedSetIterable iter X.env x=pure x:=by intro _;rfl)
  (g:X.fn x=AC \/ X.env.scope.names.lookup x=AA .local:=by first|exact .inl rfl|exact .inr rfl|assumption):PS X (.Assign [.Name x px] (.ListComp elt [#[tg,iter,b,0]] sc pos) a) (tS S X (.asg (.n i) (.thw (.comp sl ct ci cc ce)))):=
 (znl m d o p O q r t u f w g).imp λD C H #[B,A,st,U,y,z,h]=>by refine zhX hf ?_;erw[ex]at h;exact tE.fl y z h λx H1 v E A1 s rs1 l G I=>I _ H1 A1 .rfl rs1 (l.set i G)
end
section
variable {K:AF}{cl:IL->AJ}{B:AJ->Prop}{A:Ph}{H:Hp}{st:SO}
theorem FS.lookup{f:AL}:∀{fs:IK (AL×PV)} {a:IK (AL×V)},FS K cl B A H fs a->(∀v,fs.lookup f=AA v->∃x,a.lookup f=AA x/\yd K cl B A H v x)/\(fs.lookup f=AD->a.lookup f=AD)
 |[],a,h=>by
  cases (show a=[]from h)
  exact#[nofun,λ_=>rfl]
 |(k,v)::r,a,h=>by
  let#[x,s,rfl,b,l]:=h;let#[c,d]:=FS.lookup (f:=f) l;erw[Bo]
  cases e:f==k with
  |true=>exact#[λw z=>by cases z;exact#[x,rfl,b],λz=>by cases z]
  |false=>exact#[c,d]
theorem FS.put{f:AL}{v:PV}{x:V}(r:yd K cl B A H v x):∀{fs:IK (AL×PV)} {a:IK (AL×V)},FS K cl B A H fs a->FS K cl B A H (ybH f v fs) (yaX f x a)
 |[],a,h=>by
  cases (show a=[]from h)
  exact#[x,[],rfl,r,rfl]
 |(k,w)::q,a,h=>by
  let#[y,s,rfl,b,l]:=h;erw[ybH,yaX]
  by_cases c:k=f
  .rw[IR c,IR c];exact#[x,s,rfl,r,l]
  .rw[IS c,IS c];exact#[y,_,rfl,b,FS.put r l]
theorem FS.len:∀{fs:IK (AL×PV)} {a:IK (AL×V)},FS K cl B A H fs a->fs.length=a.length
 |[],a,h=>by cases (show a=[]from h);rfl
 |(k,w)::q,a,h=>by let#[y,s,rfl,b,l]:=h;simp[FS.len l]
theorem yx.ins{n c:IL}{fs:IK (AL×PV)}{x:V}(rs:yx K cl B A H st)(r:yd K cl B A H (.loc n) x)(h:st[n]?=AA (.ins c fs)):∃y b d,x=.ref y/\A[n]?=AA (AA y)/\H y=AA (.ins (cl c) d b)/\FS K cl B A H fs b:=by
 erw[yd]at r;let#[p,y,rfl,j]:=r;let#[a,f]:=rs.liv n _ h (by intro z;cases z);let#[o,g,m]:=rs.obj n a f;have e:=j a f;subst e;rw[h]at g
 cases g
 let#[b,#[d,q],l]:=m;exact#[a,b,d,rfl,f,q,l]
end
section
variable {S:Se}{X:Cx}{J:St}{B:AJ->Prop}{G G1:Ph}{H H1:Hp}{st:SO}{U:IC.Env}{p pos pos' p2 apos:CB}{a b d o e:AT}{ca cb cc:Ce}{es:IK AT}{ces:Ces}{c i k:IL}{f m x:AL}{fa:AJ}{fd:Aw}{ps:IK AL}
def zht{st x v}(h:ya0 c st x f=AA v):∃n fs,x=.loc n/\st[n]?=AA (.ins c fs)/\fs.lookup f=AA v:=by
 cases x with
 |loc n=>
  erw[ya0]at h;split at h
  .rename_i a fs e;split at h
   .rename_i q;subst q;exact#[n,fs,rfl,e,h]
   .cases h
  .cases h
 |_=>cases h
def zhq{st a}{x v:PV}(h:yaY c st x f v=AA a):∃n fs,x=.loc n/\st[n]?=AA (.ins c fs)/\fs.length<1000/\a=st.set n (.ins c (ybH f v fs)):=by
 cases x with
 |loc n=>
  erw[yaY]at h;split at h
  .rename_i d fs e;split at h
   .rename_i q;let#[q,b]:=q;subst q
    cases h
    exact#[n,fs,rfl,e,b,rfl]
   .cases h
  .cases h
 |_=>cases h
def zlE{st}{x:PV}{t}(h:yb4 c m st x=AA t):∃n fs,x=.loc n/\st[n]?=AA (.ins c fs)/\fs.lookup m=none:=by
 cases x with
 |loc n=>
  erw[yb4]at h;split at h
  .rename_i b fs e;split at h
   .rename_i q;let#[q,a]:=q;subst q;exact#[n,fs,rfl,e,a]
   .cases h
  .cases h
 |_=>cases h
def zpL(d:Cls X.K (S.cl c))(g:yap X.K (S.cl c) f)(j:PE X a (tE S X ca))(m:attributeBase a f X.env (eval a X.env)=eval a X.env:=by rfl):PE X (.Attribute a f pos) (tE S X (.fld c ca f)):=
 (zpJ j m).imp λJ H Q #[B,G,st,U,o,p,h]=>by erw[ev]at h;refine tE.bind o p h λx H1 v r G1 M rs1 t u w=>?_;let#[z,e,q]:=zar w rs1;let#[n,fs,rfl,b,l]:=zht e;let#[y,A,C,rfl,_,D,E]:=rs1.ins u b;let#[x,I,L]:=E.lookup.1 z l;exact#[y,S.cl c,C,A,x,rfl,D,d,g,I,q x H1 G1 .rfl rs1 L]
def zqW(z:Cls X.K (S.cl c))(A:yap X.K (S.cl c) f)(C:PE X a (tE S X ca))(E:PE X b (tE S X cb))(I:swapsWith b (AA (.Attribute a f pos')) pos.line X.env=pure false:=by rfl):PS X (.Assign [.Attribute a f pos'] b pos) (tS S X (.sfl c ca f cb)):=
 (zoZ C E I).imp λD J H #[B,G,st,U,L,M,h]=>by
  erw[ex]at h;refine tE.fl L M h λN H1 v O G1 s1 rs1 g Q Y=>tE.fl rs1 g Y λx' r x j G2 Z rs2 l rx d=>?_
  cases e:yaY c j x f v with
  |none=>rw[e]at d;exact d.elim
  |some st4=>
   rw[e]at d;let#[n,fs,rfl,m,hl,rfl]:=zhq e;let#[y,t,p,rfl,u,hy,w]:=rs2.ins rx m;refine#[y,S.cl c,p,t,rfl,hy,z,A,by rw[<-w.len];exact hl,?_];have q:Step G2 r G2 (L2.upd r y (.ins (S.cl c) p (yaX f N t))):=.put (AZ u);exact d J _ G2 q (rs2.put (o:=.ins c (ybH f v fs)) u #[_,#[p,zx],(FS.put (Q.step Z) w).step q]) (l.step q)
theorem noX:ybz (CX1 X.prog X.w) X (λ_ _ _=>IY):=λL J H s e a _ z=>by let#[_,_,_,_,_,_,_,_,_,_,_,_,_,_,z]:=z;exact z.elim
def zik{vs xs Q}{rs:yx X.K S.cl B G H st}(l:yg X.K S.cl B G H vs xs)(h:Run S X J B G H (RV S X B) ((yaR (S.call i (.loc st.length::vs) (st++[.ins c []]))).bind λv f=>newV st.length v f) Q):
  ∀x a,H x=AD->H a=AD->a≠x->spI X.K S.cl S.call i (.ref x::xs) (L2.upd (L2.upd H a (.own x)) x (.ins (S.cl c) a [])) (λv q=>v=.non/\Q (.ref x) q) (λ_ _ _=>IY):=by
 intro x a r d t;have b:L2.upd H a (.own x) x=none:=by rw[zj (Ax t)];exact r
 have j:Step G H G (L2.upd H a (.own x)):=.upd d;have rs1:=rs.upd (o:=.own x) d;have m:Step G (L2.upd H a (.own x)) (G++[AA x]) (L2.upd (L2.upd H a (.own x)) x (.ins (S.cl c) a [])):=.push b;have rs2:=rs1.push b (rs1.nB b) (o:=.ins c []) #[[],#[a,zx],rfl];have n:yd X.K S.cl B (G++[AA x]) (L2.upd (L2.upd H a (.own x)) x (.ins (S.cl c) a [])) (.loc st.length) (.ref x):=.loc_new rs1;refine#[B,G++[AA x],st++[.ins c []],.loc st.length::vs,rs2,?_,?_]
 .simp only[yg];exact#[.ref x,xs,rfl,n,(l.step j).step m]
 .cases e:S.call i (.loc st.length::vs) (st++[.ins c []])with
  |ok v u=>
   rw[e]at h;erw[yaR,R.bind]at h
   cases v with
   |non=>
    intro z w y s g p;erw[yd]at p;exact#[p,h (.ref x) w y ((j.trans m).trans s) g (n.step s)]
   |_=>exact h.elim
  |exc k s=>rw[e]at h;exact h.elim
  |bad=>rw[e]at h;exact h.elim
def zpD(M:Mk X.K (S.cl c) fa)(F:yaG X.prog X.w X.K X.mg X.base (CX1 X.prog X.w) k fa fd ps (spI X.K S.cl S.call i))(d:yav (k+1) X.A)(f:Gl X x)(g:X.mg x=AA (.ref (S.cl c)))(j:Binds X.K fd ps [])
  (l:PA X (e::es) (tAs S X ces)) (a:(x==("__debug__":AL))=false:=by decide) (m:starEach (e::es) X.env=(AB,eval e X.env)::starEach es X.env:=by rfl) (b:(backTo pos (starEach es X.env)).any (·.1)=false:=by rfl):
  PE X (.Call (.Name x p) (e::es) [] pos) (tE S X (.new c i ces)):=
 (znQ M F d f g j .nil noX l a m b).imp λJ H Q #[B,G,st,U,rs,n,h]=>by erw[ev]at h;refine tAs.bind rs n h λu H1 w o G1 y rs1 q r t=>?_;rw[Bv];exact zik (rs:=rs1) r t
def yb3(CX:CXT)(X:Cx)(C:AJ)(m:AL)(sp:Sp)(c:TE)(t:TA):TE:=λJ H Q=>c J H λx H1=>∃y d fs,x=.ref y/\H1 y=AA (.ins C d fs)/\fs.lookup m=AD/\t J H1 λf a=>∃E:XK,sp (.ref y::f) a Q E/\∀L s e b,Inv X L J a s->CX X.stack a s E e b->X.xe e b
def zkQ{CX sp C j t pl}(A:PE X o j)(c:Cls X.K C)(n:Meth X.K C m fa)(F:yaG X.prog X.w X.K X.mg X.base CX k fa fd ps sp)(B:yav k X.A)(D:Binds X.K fd ps [])(G:PA X (e::es) t)
  (a:starEach (e::es) X.env=(AB,eval e X.env)::starEach es X.env:=by rfl) (b:(backTo pos (starEach es X.env)).any (·.1)=false:=by rfl)
  (M:eval (.Call (.Attribute o m apos) (e::es) [] pos) X.env=(do
   let p <-eval o X.env
   standAt apos.atName
   let (f,first) <-holding [p] (getMethod p m pl)
   callWith pos f first (backTo pos (starEach (e::es) X.env)) (backToKw pos (keywordEach [] X.env))):=by rfl):
  PE X (.Call (.Attribute o m apos) (e::es) [] pos) (yb3 CX X C m sp j t):=by intro L s J H Q I h;refine FX (pl:=pl) (thn (A L s J H _ I h) λu N d=>?_) M;let#[x,H1,w,O,y,dx,fs,ex,U,l,q]:=d;subst ex;obtain rfl:u=Ae y:=O;refine ze2 w U c n l ?_;refine C8 (first:=[.ref y]) (h₀:=X.base) I.ok.mod.kin n.kp (thn (G pos L N J H1 _ w q) λus Y d=>?_) a b;let#[vs,H2,g,r,E,Z,hx]:=d;refine #[g.kIn,?_];exact zeo (us:=.ref y::us) (vs:=.ref y::vs) F B D .nil g (.cons rfl r) (by rw[Bv];exact Z) λe s' z=>hx L Y e s' g z
def zjF{CX sp C b pl}(j:PE X o b)(c:Cls X.K C)(d:Meth X.K C m fa)(F:yaG X.prog X.w X.K X.mg X.base CX k fa fd ps sp)(n:yav k X.A)(p:Binds X.K fd ps [])
  (q:eval (.Call (.Attribute o m apos) [] [] pos) X.env=(do
   let g <-eval o X.env
   standAt apos.atName
   let (f,first) <-holding [g] (getMethod g m pl)
   callWith pos f first (backTo pos (starEach [] X.env)) (backToKw pos (keywordEach [] X.env))):=by rfl):
  PE X (.Call (.Attribute o m apos) [] [] pos) (yb3 CX X C m sp b ydn):=by intro L s J H Q I h;refine FX (pl:=pl) (thn (j L s J H _ I h) λu r t=>?_) q;let#[x,H1,a,w,y,M,fs,ex,A,l,E,B,D]:=t;subst ex;obtain rfl:u=Ae y:=w;refine ze2 a A c d l ?_;exact Fm (first:=[.ref y]) a.kIn d.kp (zeo (us:=[.ref y]) (vs:=[.ref y]) F n p .nil a (.cons rfl .nil) B λe G z=>D L r e G a z)
def zfL{Q:VK}{t:TA}(p:∀{H1 G1}{a:SO}{P:IK V->Hp->Prop}{kk},yx X.K S.cl B G1 H1 a->yK X.K S.cl B G1 H1 U J->Run S X J B G1 H1 (RV S X B) ((evs S.call U a ces).bind kk) Q ->
   (∀j f vs d G2,Step G1 H1 G2 f->yx X.K S.cl B G2 f d->yK X.K S.cl B G2 f U J->yg X.K S.cl B G2 f vs j->Run S X J B G2 f (RV S X B) (kk vs d) Q->P j f)->t J H1 P)
  (rs:yx X.K S.cl B G H st) (r:yK X.K S.cl B G H U J) (h:Run S X J B G H (RV S X B) ((ev S.call U st ca).bind λx a=>onO (yb4 c m a x) λ_=>(evs S.call U a ces).bind λvs d=>S.call i (x::vs) d) Q):
  yb3 (CX1 X.prog X.w) X (S.cl c) m (spI X.K S.cl S.call i) (tE S X ca) t J H Q:=by
 refine tE.bind rs r h λx H1 v a G1 N rs1 l o g=>?_
 cases q:yb4 c m a v with
 |none=>rw[q]at g;exact g.elim
 |some b=>
  rw[q]at g;erw[onO]at g;let#[n,fs,rfl,u,w]:=zlE q;let#[y,z,A,rfl,_,C,D]:=rs1.ins o u;refine#[y,A,z,rfl,C,D.lookup.2 w,p rs1 l g λj f vs d G2 E rs2 I L M=>?_];exact zbQ rs2 (by erw[yg];exact#[.ref y,j,rfl,o.step E,L]) M
def zpq{pl}(j:Cls X.K (S.cl c))(l:Meth X.K (S.cl c) m fa)(F:yaG X.prog X.w X.K X.mg X.base (CX1 X.prog X.w) k fa fd ps (spI X.K S.cl S.call i))(p:yav k X.A)(q:Binds X.K fd ps [])
  (r:PE X o (tE S X ca)) (t:PA X (e::es) (tAs S X ces))
  (a:starEach (e::es) X.env=(AB,eval e X.env)::starEach es X.env:=by rfl) (b:(backTo pos (starEach es X.env)).any (·.1)=false:=by rfl)
  (u:eval (.Call (.Attribute o m apos) (e::es) [] pos) X.env=(do
   let g <-eval o X.env
   standAt apos.atName
   let (f,first) <-holding [g] (getMethod g m pl)
   callWith pos f first (backTo pos (starEach (e::es) X.env)) (backToKw pos (keywordEach [] X.env))):=by rfl):
  PE X (.Call (.Attribute o m apos) (e::es) [] pos) (tE S X (.mcl c i m ca ces)):=
 (zkQ r j l F p q t a b u).imp λJ H Q #[B,G,st,U,w,x,h]=>by erw[ev]at h;exact zfL (λrs1 d y n=>tAs.bind rs1 d y n) w x h
def zng{pl}(j:Cls X.K (S.cl c))(l:Meth X.K (S.cl c) m fa)(F:yaG X.prog X.w X.K X.mg X.base (CX1 X.prog X.w) k fa fd ps (spI X.K S.cl S.call i))(p:yav k X.A)(q:Binds X.K fd ps [])
  (r:PE X o (tE S X ca))
  (u:eval (.Call (.Attribute o m apos) [] [] pos) X.env=(do
   let d <-eval o X.env
   standAt apos.atName
   let (f,first) <-holding [d] (getMethod d m pl)
   callWith pos f first (backTo pos (starEach [] X.env)) (backToKw pos (keywordEach [] X.env))):=by rfl):
  PE X (.Call (.Attribute o m apos) [] [] pos) (tE S X (.mcl c i m ca .nil)):=
 (zjF r j l F p q u).imp λJ H Q #[B,G,st,U,w,x,h]=>by erw[ev]at h;refine zfL (t:=ydn) (λ{H1 G1 a P kk} rs1 b g n=>?_) w x h;erw[IC.vsq0,IC.vsq1,R.bind]at g;exact n [] H1 [] a G1 .rfl rs1 b (by erw[yg]) g
def zmh(A:X.A.units+64<cLine):OpR X (compareOp .In) (rTs S X ybf):=by
 rintro L s J H x y v u Q I D E ⟨B,G,st,a,b,z,n,M,N,e,q⟩
 erw[ybf]at e
 cases o:ya7 st b with
 |none=>rw[o]at e;cases e
 |some g=>
  rw[o]at e;dsimp only at e;split at e
  .rename_i c;rw[AH]at c
   cases e
   let#[l,j,rfl,f,m]:=zjp n N o
   cases (show u=Ae l from E)
   let#[bs,C]:=zbf (S:=S) I a 60 x v c.1 M D;rcases f with f|f
   .let#[d,r,p,O]:=I.list f;refine Gu (eqR s.heap (toD a)) p.isList (λw t=>zgz (S:=S) I a c.1 C A g j d c.2 m r w (by simpa using t)) #[.bl _,H,I,rfl,?_];rw[show d.toArray.any (eqR s.heap (toD a))=d.any (eqR s.heap (toD a))by simp,zgI (S:=S) I a c.1 g j d c.2 m r];exact q _ H G .rfl n (by erw[yd])
   .let#[d,r,p,O]:=I.tuple f;refine Gf (eqR s.heap (toD a)) p (λw t=>zgz (S:=S) I a c.1 C A g j d c.2 m r w (by simpa using t)) #[.bl _,H,I,rfl,?_];rw[show d.toArray.any (eqR s.heap (toD a))=d.any (eqR s.heap (toD a))by simp,zgI (S:=S) I a c.1 g j d c.2 m r];exact q _ H G .rfl n (by erw[yd])
  .cases e
def zpQ(f:X.A.units+64<cLine)(g:PE X a (tE S X ca))(j:PE X b (tE S X cb))(l:behindInMarks .In b=AB):PE X (.Compare a [.In] [b] pos) (tE S X (.inn ca cb)):=
 (zgw (zmh f) g j l).imp λJ H Q #[B,G,st,U,m,n,h]=>by erw[ev]at h;refine tE.bind m n h λx H1 v o G1 C rs1 c p r=>tE.bind rs1 c r λy D w d G2 t rs2 u rw A=>?_;let#[z,e,q]:=zar A rs2;exact#[B,G2,d,v,w,z,rs2,p.step t,rw,e,q]
def zmR{st}{x y z:PV}(h:ybf st x y=AA z):∃k,z=.bl k:=by
 unfold ybf at h;split at h
 .split at h
  .cases h;exact#[_,rfl]
  .cases h
 .cases h
def zql(l:X.A.units+64<cLine)(m:PE X a (tE S X ca))(n:PE X b (tE S X cb))(o:behindInMarks .In b=AB):PT X (.Compare a [.In] [b] pos) (tTs S X (.inn ca cb)):=
 (zi1 (zmh l) m n o).imp λJ H Q #[B,G,st,U,p,q,h]=>by
  erw[ev,yaZ,R.bind_assoc]at h;refine tE.bind p q h λx H1 v r G1 L rs1 f t u=>tE.bind rs1 f u λy M w c G2 A rs2 C rw d=>?_
  cases e:ybf c v w with
  |none=>rw[e]at d;exact d.elim
  |some z=>
   let#[k,rfl]:=zmR e;rw[e]at d;refine#[B,G2,c,v,w,.bl k,rs2,t.step A,rw,e,λN D E I g j=>?_];erw[yd]at j;exact#[k,j,d k D E I g rfl]
end
inductive ycp(w:Ai)(fa:IL->AJ):IK (AL×IL)->IK CD->Prop
 |nil:ycp w fa [] []
 |cons {k:AL} {i:IL} {t:IA} {D:IK (AL×IL)} {es:IK CD} (h:ycp w fa D es):ycp w fa ((k,i)::D) (#[EL w.params k,.str k t,.ref (fa i)] :: es)
def GDF(K:AF)(w:Ai)(b:AL->Option AG)(c:IL->AJ)(x:AL)(D:IK (AL×IL)):Prop:=
 ∃(y:AJ) (a:Ie CD) (d:IL),b x=AA (.ref y)/\K.lookup y=AA #[.type "dict",AD,.dict a d,(IK.toArray [])]/\ycp w c D a.toList/\(D.map (·.1)).Nodup
theorem ycp.pairs{P:Aa}{w:Ai}{b:IL->AJ}{D:IK (AL×IL)}{es:IK CD}(h:ycp w b D es):
  ∃a:IK (AL×AG),Pairs (strKind P w) es a/\(∀e∈es,∃k,(strKind P w).is k e.key=AC/\e.hash=(strKind P w).hash k)/\a.map (·.1)=D.map (·.1) /\
   ∀s i,D.lookup s=AA i->valueAt a s=AA (.ref (b i)):=by
 induction h with
 |nil=>exact#[[],.nil,λe c=>(by cases c),rfl,λs v e=>by cases e]
 |@cons k i t D es h ih=>
  let#[a,f,g,l,m]:=ih;have d:∀s,valueAt ((k,Ae (b i))::a) s=if k=s then AA (.ref (b i))else valueAt a s:=λs=>by
   unfold valueAt;rw[Bw]
   by_cases e:k=s
   .simp[e]
   .simp[e]
  refine#[(k,.ref (b i))::a,.cons (DY P w k t) rfl f,λe c=>?_,by rw[AO,AO,l],λs j e=>?_]
  .rcases AS.1 c with rfl|c
   .exact#[k,DY P w k t,rfl]
   .exact g e c
  .rw[d];erw[Bo]at e
   by_cases q:k=s
   .subst q;rw[IZ]at e
    cases e
    rw[IR rfl]
   .rw[IP.2 (Ax q)]at e;rw[IS q];exact m s j e
section
variable {S:Se}{X:Cx}{G:St}{B:AJ->Prop}{C:Ph}{H:Hp}{st:SO}{U:IC.Env}{pos p p1 p2 p3 p4 p5 p6 p7:CB}{a b i e n:AT}{es:IK AT}{ca cn:Ce}{ces:Ces}{x y:AL}{D:IK (AL×IL)}{ty:TE}{t:TA}{fa:IL->AJ}{fdd:IL->Aw}{ps:IL->IK AL}{k ix:IL}
def ydk(D:IK (AL×IL))(fa:IL->AJ)(ty:TE):TE:=λG H Q=>ty G H λz a=>∃s j,z=.str s/\D.lookup s=AA j/\Q (.ref (fa j)) a
def zlg(n:Gl X x)(h:GDF X.K X.w X.mg fa x D)(o:PE X i ty)(q:ydb i)(r:(x==("__debug__":AL))=false:=by decide):PE X (.Subscript (.Name x p) i pos) (ydk D fa ty):=by let#[y,es,w,A,B,C,E]:=h;let#[L,M,N,O,U]:=C.pairs (P:=X.prog);intro J s G H Q I Y;refine ziO ES.lookup q (thn (zdq (v:=.ref y) n A rfl r J s G H (λz a=>z=.ref y/\ty G a λz b=>∃s j,z=.str s/\D.lookup s=AA j/\Q (.ref (fa j)) b) I #[rfl,Y]) λu Z c=>?_);let#[z,a,I1,rz,ez,q1]:=c;refine thn (o J Z G a _ I1 q1) λiv s2 c=>?_;let#[z2,b,g,d,l,j,f,e,q2]:=c;subst ez;subst f;obtain rfl:u=Ae y:=rz;let#[t,rfl]:=d;have m:s2.heap.DictOf (strKind X.prog X.w) y L:=#[_,es,w,g.kIn y _ B,#[rfl,rfl,rfl],rfl,λe he=>N e (by simpa using he),M,by rw[O];exact E];exact#[m.typeIs,Gm (DY X.prog X.w l t) m.mapOf (U l j e) #[.ref (fa j),b,g.tok _,rfl,q2]]
structure Makers(S:Se)(X:Cx)(k:IL)(D:IK (AL×IL))(fa:IL->AJ)(fdd:IL->Aw)(ps:IL->IK AL):Prop where
 F:∀s j,D.lookup s=AA j->yaG X.prog X.w X.K X.mg X.base (CX1 X.prog X.w) k (fa j) (fdd j) (ps j) (spI X.K S.cl S.call j)
 kp:∀s j,D.lookup s=AA j->Al X.K (.ref (fa j))=AC
 b:∀s j,D.lookup s=AA j->Binds X.K (fdd j) (ps j) []
def ydv(S:Se)(X:Cx)(D:IK (AL×IL))(fa:IL->AJ)(ix:IL)(t:TA):TE:=λG H Q=>∃s j,D.lookup s=AA j/\G[ix]?=AA (AA (.ref (fa j)))/\t G H λc a=>∃E:XK,spI X.K S.cl S.call j c a Q E/\∀J s e b,Inv X J G a s->CX1 X.prog X.w X.stack a s E e b->X.xe e b
def zlq(M:Makers S X k D fa fdd ps)(w:yav k X.A)(y:X.N[ix]?=AA x)(A:Vis X.env.scope x)(B:PA X (e::es) t)
  (C:(x==("__debug__":AL))=false:=by decide) (d:(x==("__classdict__":AL))=false:=by decide) (L:starEach (e::es) X.env=(AB,eval e X.env)::starEach es X.env:=by rfl) (f:(backTo pos (starEach es X.env)).any (·.1)=false:=by rfl):
  PE X (.Call (.Name x p) (e::es) [] pos) (ydv S X D fa ix t):=by intro J s G H Q I #[g,j,l,N,h];refine BN (thn (zlU y A C d J s G H (λz a=>z=.ref (fa j)/\t G a λo a=>∃E:XK,spI X.K S.cl S.call j o a Q E/\∀J s e b,Inv X J G a s->CX1 X.prog X.w X.stack a s E e b->X.xe e b) I #[_,N,rfl,h]) λu O m=>?_);let#[z,a,U,Y,Z,q1]:=m;subst Z;obtain rfl:u=Ae (fa j):=Y;refine C8 (h₀:=X.base) I.ok.mod.kin (M.kp g j l) (thn (B pos J O G a _ U q1) λus s2 m=>?_) L f;let#[o,H2,n,r,E,q,hx]:=m;refine #[n.kIn,?_];exact zeo (M.F g j l) w (M.b g j l) .nil n r (by rw[Bv];exact q) λe b c=>hx J s2 e b n c
theorem yK.hole{K:AF}{a:IL->AJ}{v:V}(b:yK K a B C H U G):yK K a B C H (U.set ix AD) (G.set ix (AA v)):=by
 refine#[by simp[b.len],λj w e=>?_]
 by_cases q:ix=j
 .subst q
  by_cases c:ix<U.length
  .rw[Ac c]at e;cases e
  .rw[BD (by simp;lia)]at e;cases e
 .rw[AM q]at e ⊢;exact b.get j w e
def zlL{v:PV}{j:IL}{b}(h:mkV D b v=AA j):∃s,v=.str s/\D.lookup s=AA j/\b=true:=by
 cases v with
 |str s=>
  cases b with
  |true=>exact#[s,rfl,h,rfl]
  |false=>cases h
 |_=>cases h
def zq4(M:Makers S X k D fa fdd ps)(hr:yav k X.A)(hN:X.N.Nodup)(Z:X.N[ix]?=AA x)(hx:Loc X.env.scope x)(hv:Vis X.env.scope x)(hg:Gl X y)(hd:GDF X.K X.w X.mg fa y D)(hn:PE X n (tE S X cn))(ha:PA X (e::es) (tAs S X ces))
  (hs:ydb n:=by exact λ_ _=>rfl) (w:swapsWith (.Subscript (.Name y p2) n p3) (AA (.Name x p1)) p4.line X.env=pure false:=by rfl) (hf:X.fn x=AC \/ X.env.scope.names.lookup x=AA .local:=by first|exact .inl rfl|exact .inr rfl|assumption)
  (A:(y==("__debug__":AL))=false:=by decide) (E:(x==("__debug__":AL))=false:=by decide) (I:(x==("__classdict__":AL))=false:=by decide) (he:starEach (e::es) X.env=(AB,eval e X.env)::starEach es X.env:=by rfl) (J:(backTo p6 (starEach es X.env)).any (·.1)=false:=by rfl):
  PSs X [.Assign [.Name x p1] (.Subscript (.Name y p2) n p3) p4,.Return (AA (.Call (.Name x p5) (e::es) [] p6)) p7] (tSs S X (.cons (.mkr ix D cn ces) .nil)):=
 (zhc (zmq hN Z hx (zlg hg hd hn hs A) w hf) (zoa (zmo (zlq M hr Z hv ha E I he J)))).imp λD' G H #[B,C,st,U,rs,re,h]=>by
  have h:yar S X B C H (ex S.call U st (.mkr ix D cn ces)) D':=by
   erw[IC.xqq0,IC.xqq1]at h
   cases q:ex S.call U st (.mkr ix D cn ces)with
   |nx L a=>
    exfalso;erw[ex]at q
    cases N:ev S.call U st cn with
    |ok v1 O=>
     rw[N]at q;erw[R.fl]at q;split at q
     .rename_i j _
      cases g:(evs S.call (U.set ix AD) O ces).bind λt d=>S.call j t d with
      |ok v2 m=>rw[g]at q;cases q
      |exc c m=>rw[g]at q;cases q
      |bad=>rw[g]at q;cases q
     .cases q
    |exc c O=>rw[N]at q;cases q
    |bad=>rw[N]at q;cases q
   |rt v a=>rw[q]at h;exact h
   |bk L a=>rw[q]at h;exact h
   |ct L a=>rw[q]at h;exact h
   |exc c L a=>rw[q]at h;exact h
   |bad=>rw[q]at h;exact h
  erw[ex]at h;refine tE.fl rs re h λx' H1 v p C1 O rs1 f u b=>?_
  cases q:mkV D (decide (ix<U.length)) v with
  |none=>rw[q]at b;exact b.elim
  |some j=>
   rw[q]at b;let#[sx,rfl,hl,hb]:=zlL q;erw[yd]at u;subst u;have r:ix<G.length:=by rw[<-f.len];exact Ia hb
   refine#[sx,j,rfl,hl,sx,j,hl,by rw[Ac r],B,C1,p,U.set ix AD,rs1,f.hole,?_];dsimp only at b
   cases g:evs S.call (U.set ix AD) p ces with
   |bad=>rw[g]at b;exact b
   |exc c m=>rw[g]at b;exact λe a z=>b _ C1 H1 e a .rfl f.hole z
   |ok t d=>
    rw[g]at b;intro xs H2 C2 m rs2 rl;have o:yar S X B C1 H1 ((S.call j t d).fl (U.set ix AD) λv l=>.rt v l) D':=b;refine zbQ rs2 rl ?_
    cases Q:S.call j t d with
    |bad=>rw[Q]at o;exact o
    |ok v l=>rw[Q]at o;exact λx H' C' a Y u=>o x H' C' (m.trans a) Y u
    |exc c l=>rw[Q]at o;exact λe a z=>o _ C2 H2 e a m (f.hole.step m) z
end
section
variable {P:Aa}{w:Ai}{K:AF}{mg:AL->Option AG}{base:Au}{cl:IL->AJ}{T:IL->Option IC.Fn}{fi:IL}{fn:IC.Fn}{x qual:AL}{stm:Bj}{f:AJ}{fd:Aw}{N ps:IK AL}{k m:IL}
def zkn:yaG P w K mg base (CX1 P w) m f fd ps (spI K cl (yc T 0) fi):=
 #[λc H Q E #[_,_,_,_,_,_,h]=>by rw[yc]at h;exact h.elim,λA a s H b d c Q E _ _ _ _ #[_,_,_,_,_,_,h]=>by rw[yc]at h;exact h.elim]
end
theorem yam.units{k:IL}{A:Ak}(r:yam k A):A.units+64<cLine:=by have:=r.un;lia
section
variable {P:Aa}{w:Ai}{K:AF}{mg:AL->Option AG}{base:Au}{cl:IL->AJ}{T:IL->Option IC.Fn}{fi:IL}{fn:IC.Fn}{x qual:AL}{stm:Bj}{f:AJ}{fd:Aw}{N ps:IK AL}{k m:IL}
def zlA(u:T fi=AA fn)(E:N.length=fn.ns)(o:fn.pure=AB){d cdv A outer s vs H Q}(h:spI K cl (yc T (k+1)) fi vs H Q E0):
  tSs #[cl,yc T k,AB] (ybF P w K mg base N qual d f cdv A outer s H) fn.body {nx:=λ_ g=>Q .non g,rt:=Q} (L2.start N vs) H:=by
 let#[B,C,st,a,G,l,h]:=h;have J:a.length=fn.np:=zka (k:=k) u a st λz=>by rw[z]at h;exact h
 have x:=l.length;rw[yc,u]at h;dsimp only at h;rw[IR J,o,IS (by simp)]at h;refine#[B,C,st,_,G,yK.start l (fn.ns-fn.np) (),?_];show yar _ _ _ _ _ (exs (yc T k) (a.map AA++Av (fn.ns-fn.np) AD) st fn.body) _
 cases e:exs (yc T k) (a.map AA++Av (fn.ns-fn.np) AD) st fn.body with
 |nx p b=>
  rw[e]at h;intro L g m n j M;exact h .non g m n j (by erw[yd])
 |rt v b=>
  rw[e]at h;intro y g m n j O;exact h y g m n j O
 |exc c p b=>
  rw[e]at h;intro L C1 H1 ev n U _ ex;rcases ex with⟨D,H2,s2,C2,I,X,q⟩|⟨t,_⟩|⟨t,_⟩
  .let#[_,Y,_,g,_,_,_,_,_,_,_,_,_,_,e1,m,Z,r]:=q;exact(h g m (U.trans (X.trans Z)) r).elim
  .cases t
  .cases t
 |bk p b=>rw[e]at h;exact h.elim
 |ct p b=>rw[e]at h;exact h.elim
 |bad=>rw[e]at h;exact h.elim
def zqO(l:T fi=AA fn)(F:Fun K x qual stm f fd)(n:yaF N ps (yh stm))(d:ps.length=fn.np)(g:N.length=fn.ns)(j:fn.pure=AB)
  (c:∀b(A:Ak)a(s:AK)H,yam m (A.deeper (envOfC qual (yh stm) s.heap.objs.size f b)) ->
   PSs (ybF P w K mg base N qual (yh stm) f b A a s H) (yN stm) (tSs #[cl,yc T k,AB] (ybF P w K mg base N qual (yh stm) f b A a s H) fn.body)):
  ybp P w K mg base (m+1) f fd ps (spI K cl (yc T (k+1)) fi):=
 F.okH n (λo H Q E h=>zmr l d h) λb A a s H o Q p h=>#[_,c b A a s H p,zlA l g j h]
def zle:ybp P w K mg base m f fd ps (spI K cl (yc T 0) fi):=
 #[λc H Q E #[_,_,_,_,_,_,h]=>by rw[yc]at h;exact h.elim,λA a s H b d c Q _ _ _ _ #[_,_,_,_,_,_,h]=>by rw[yc]at h;exact h.elim]
end
section
variable {S:Se}{X:Cx}{D:St}{B:AJ->Prop}{C:Ph}{H:Hp}{st:SO}{U:IC.Env}{p pos:CB}{e:AT}{es:IK AT}{ces:Ces}{fi k:IL}{x:AL}{f:AJ}{fd:Aw}{ps:IK AL}
def zlI(F:ybp X.prog X.w X.K X.mg X.base k f fd ps (spI X.K S.cl S.call fi))(m:yam k X.A)(n:Gl X x)(o:X.mg x=AA (.ref f))(q:Al X.K (.ref f)=AC)(r:Binds X.K fd ps [])
  (t:PA X (e::es) (tAs S X ces)) (d:(x==("__debug__":AL))=false:=by decide) (u:starEach (e::es) X.env=(AB,eval e X.env)::starEach es X.env:=by rfl) (g:(backTo pos (starEach es X.env)).any (·.1)=false:=by rfl):
  PE X (.Call (.Name x p) (e::es) [] pos) (tE S X (.qcl fi ces)):=
 (zlx F m n o q r t d u g).imp λD H Q #[B,C,st,U,w,y,h]=>by
  erw[ev]at h;refine tAs.bind w y h λE G l b C1 I rs1 z A a=>?_;refine#[B,C1,b,l,rs1,A,?_]
  cases c:S.call fi l b with
  |ok v j=>rw[c]at a;exact a
  |exc k j=>rw[c]at a;exact a.elim
  |bad=>rw[c]at a;exact a.elim
end
end L2
namespace L2
open PySem IC
def znr{v w:PV}{d}(h:yq .add v w=AA (.lst d)):∃a b,v=.lst a/\w=.lst b/\d=a++b/\a.length+b.length<=sizeMax:=by
 unfold yq at h;split at h
 .unfold binI at h;simp at h
 .simp at h
 .simp only at h;split at h
  .cases h
  .cases h
 .simp only at h;split at h
  .unfold yd8 at h
   repeat' split at h
   all_goals cases h
  .cases h
 .rename_i a b;simp only at h;split at h
  .rename_i c
   cases h
   exact#[a,b,rfl,rfl,rfl,c]
  .cases h
 .cases h
section
variable {S:Se}{X:Cx}{C:St}{B:AJ->Prop}{A A1:Ph}{H H1:Hp}{st:SO}{U:IC.Env}{p pos p2 px py pt pt2:CB}{a b c d o a' b' c' d':AT}{ca cb cc cd ce cf:Ce}{E:IK (AJ×Bi)}{s:AK}{kt k2:IL}{es:IK AT}{ces:Ces}{x:AL}
def zn6(n:PE X a (tE S X ca))(o:PE X b (tE S X cb)):PE X (.BinOp a .Add b pos) (tE S X (.thw (.bin .add ca cb))):=
 (zqi zl9 n o).imp λC H Q #[B,A,st,U,q,r,h]=>by
  erw[ev,R.bind_assoc]at h;refine tE.bind q r h λx H1 v t A1 s1 rs1 j u E=>tE.bind rs1 j E λy H2 w G I J rs2 L rw d=>?_
  cases e:yq .add v w with
  |none=>rw[e]at d;exact d.elim
  |some z=>
   rw[e]at d
   cases z with
   |lst zs=>
    let#[vs,ws,rfl,rfl,rfl,c]:=znr e;have f:=u.step J;erw[yd]at f rw;let#[p,M,rfl,N,l]:=f;let#[O,Y,rfl,Z,m]:=rw;have n1:=l.length;have n2:=m.length;refine#[p,O,M,Y,rfl,rfl,N.1,Z.1,by rw[<-zF];lia,λD g=>?_];erw[toR,R.bind,ycL]at d;exact d _ _ (I++[AA D]) (.push g) (rs2.push g (rs2.nB g) #[_,zx,(l.append m).step (.push g)]) (.loc_new rs2)
   |_=>exact d.elim
end
end L2
namespace L2
open PySem PySem.Spec PyProof.Rows
section
variable {X:Cx}
end
end L2
namespace L2
open PySem PySem.Spec PyProof.Rows IC
section
variable {S:Se}{X:Cx}{C:St}{B:AJ->Prop}{A A1:Ph}{H H1:Hp}{st:SO}{U:IC.Env}{p pos p2 apos:CB}{a b c d:AT}{ca cb cc:Ce}{es:IK AT}{ces:Ces}{K:AF}{cl:IL->AJ}
end
section
variable {S:Se}{X:Cx}{a b:AT}{c i:IL}{j:IM}{f:AL}{pos tpos:CB}
def zoK(hc:Cls X.K (S.cl c))(hn:yap X.K (S.cl c) f)(ha:PE X a (tE S X (.var i)))(hv:PE X b (tE S X (.cst (.int j)))):
  PS X (.AugAssign (.Attribute a f tpos) .Add b pos) (tS S X (.sfl c (.var i) f (.bin .add (.fld c (.var i) f) (.cst (.int j))))):=
 (zjW ha hv zqS).imp λD C H #[B,A,st,U,rs,O,h]=>by
  erw[ex,ev]at h
  cases q:U[i]? with
  |none=>rw[q]at h;exact h.elim
  |some o=>
   cases o with
   |none=>rw[q]at h;exact h.elim
   |some x=>
    rw[q]at h;dsimp only[R.bind]at h;refine#[B,A,st,U,rs,O,?_];erw[ev,q];intro x' H1 Q Y rs1 Z;have m:=O.step Y;have h:=yar.on Y h
    cases e:ya0 c st x f with
    |none=>rw[e]at h;exact h.elim
    |some v=>
     rw[e]at h;let#[n,fs,rfl,d,l]:=zht e;let#[y,ks,dx,rfl,hp,hy,lr]:=rs1.ins Z d;let#[x,hx,p]:=lr.lookup.1 v l;refine#[y,S.cl c,dx,ks,x,rfl,hy,hc,hn,hx,#[B,Q,st,U,rs1,m,?_]];erw[ev];intro y' H2 E G rs2 ry;erw[yd]at ry;subst ry
     cases v with
     |int k=>
      erw[yd]at p;subst p;refine#[k,j,rfl,rfl,?_];have h:yar S X B Q H1 (match yaY c st (.loc n) f (.int (k+j))with|some I=>Fl.nx U I|none=>Fl.bad) D:=h;have h:=yar.on G h;have J:=Z.step G;let#[y2,r,g,e2,t,L,u]:=rs2.ins J d
      cases e2
      cases M:yaY c st (.loc n) f (.int (k+j))with
      |none=>rw[M]at h;exact h.elim
      |some st4=>
       rw[M]at h;let#[n',fs',z,w,hl,rfl]:=zhq M
       cases z
       rw[d]at w
       cases w
       refine#[g,r,L,by rw[<-u.len];exact hl,?_];have N:Step E H2 E (L2.upd H2 y (.ins (S.cl c) g (yaX f (.int (k+j)) r))):=.put (AZ t);exact h C _ E N (rs2.put (o:=.ins c (ybH f (.int (k+j)) fs)) t #[_,#[g,zx],(FS.put (by erw[yd]) u).step N]) ((m.step G).step N)
     |_=>exact h.elim
end
end L2
namespace HT
open PySem PySem.Spec PyProof.Rows
section
variable {prog:Aa}{w:Ai}{A:Ak}{E:AG->AK->Prop}{s:AK}
end
end HT
namespace L2
open PySem PySem.Spec PyProof.Rows IC
section
variable {S:Se}{X:Cx}{pos p2:CB}{e e3:AT}{te t3:TE}{a:AT}{ca c3:Ce}
end
section
variable {X:Cx}{prog:Aa}{w:Ai}{A:Ak}{E:AG->AK->Prop}{s:AK}
def zby:typeLookup (Ez "tuple") (dunderI "add")=pure none:=rfl
def zli{t b}{vs c:IK AG}{Q:AG->AK->Prop}(B:HA s.heap t vs.toArray)(C:HA s.heap b c.toArray)
  (D:vs=[]->Q (.ref b) s) (G:vs≠[]->c=[]->Q (.ref t) s)
  (H:vs≠[]->c≠[]->Q (.ref s.heap.objs.size) {s with heap:=s.heap.push {cls:=.type "tuple",data:=.seq (vs++c).toArray} })
  (p:vs.length+c.length<=sizeLine):A6 (model prog w) A (inplaceOp .Add (.ref t) (.ref b)) Q E s:=by
 let#[#[cls,q,data,r],d,x,n,y]:=id B;let#[#[z,f,data2,g],a,l,u,m]:=id C;simp only at x y l m;subst x y l m;have e:vs.toArray++c.toArray=(vs++c).toArray:=by simp
 by_cases j:vs=[]
 .exact DO #[_,d,rfl] #[_,a,rfl] zby C0 Cw (EF Bf #[_,d,rfl] Ba (B6 _ _)
   (tuple_addW0 t b vs.toArray c.toArray n u q f r g (by simp[j])) #[d,a,D j])
 .by_cases o:c=[]
  .exact DO #[_,d,rfl] #[_,a,rfl] zby C0 Cw (EF Bf #[_,d,rfl] Ba (B6 _ _)
    (tuple_addW1 t b vs.toArray c.toArray n u q f r g (by simpa using j) (by simp[o])) #[d,a,G j o])
  .refine DO #[_,d,rfl] #[_,a,rfl] zby C0 Cw (EF Bf #[_,d,rfl] Ba (B6 _ _)
    (tuple_addW2 t b vs.toArray c.toArray n u q f r g (by simpa using j) (by simpa using o) (by rw[AW,AW];exact p)) #[d,a,?_])
   rw[e];exact H j o
end
section
variable {S:Se}{X:Cx}{pos px:CB}{a:AT}{ca:Ce}
def yfY(x y:PV):Option PV:=match x with
 |.tp k a=>yq .add (.tp k a) y
 |_=>AD
def znj:PIp X .Add (rT2 S X yfY):=by
 rintro E s C H x y v u Q I rx ry ⟨B,A,st,a,b,z,f,L,M,e,q⟩
 unfold yfY at e;split at e
 .rename_i k1 vs
  cases b with
  |tp k2 ws=>
   unfold yq at e;erw[yd]at L M;let#[p,g,rfl,N,j]:=L;let#[O,l,rfl,U,m]:=M;dsimp only at e;split at e
   .rename_i c
    cases e
    have n1:=j.length;have n2:=m.length
    cases rx
    cases ry
    let#[n,r,p1,_]:=I.tuple N.sq;let#[d,t,p2,_]:=I.tuple U.sq;have Y:g.length+l.length<=sizeLine:=by rw[<-zF];lia
    have w:=I.hok.fresh (AQ s.heap.objs.size);have D:n=[] ↔ vs=[]:=by rw[r.nil_iff];constructor<;>(intro h;apply D8;rw[h,By]at n1;lia)
    have Z:d=[] ↔ ws=[]:=by rw[t.nil_iff];constructor<;>(intro h;apply D8;rw[h,By]at n2;lia)
    unfold yd8 at q;refine zli p1 p2 (λz=>?_) (λG J=>?_) (λG J=>?_) (by rw[<-r.length,<-t.length];exact Y)
    .rw[D.mp z]at q;erw[Et,IV]at q;exact#[.ref O,H,I,rfl,q _ H A .rfl f (by erw[yd];exact#[O,l,rfl,U,m])]
    .rw[IS (by rw[Cp];exact λh=>G (D.mpr h)),IR (by rw[Cp];exact Z.mp J)]at q;exact#[.ref p,H,I,rfl,q _ H A .rfl f (by erw[yd];exact#[p,g,rfl,N,j])]
    .rw[IS (by rw[Cp];exact λh=>G (D.mpr h)),IS (by rw[Cp];exact λh=>J (Z.mpr h))]at q;refine#[.ref s.heap.objs.size,_,I.laid (t':=s.toks) (o:=.tup (g++l)) (λb ob q=>AR _ q) (AQ _) ?_,rfl,q _ _ A (.upd w) (f.upd w) (.tup_new w f (j.append m))];exact#[by rw[Ab];exact Y,_,r.append t,Fc _ _]
   .cases e
  |_=>cases e
 .cases e
def zm3{F G}(r:R F)(f:F->SO->R G)(U)(g:G->SO->Fl):(r.bind f).fl U g=r.fl U λv s=>(f v s).fl U g:=by cases r<;>rfl
def zoo{i:IL}{x}(m:X.N.Nodup)(o:X.N[i]?=AA x)(p:Loc X.env.scope x)(r:PE X a (tE S X ca))
  (hf:X.fn x=AC \/ X.env.scope.names.lookup x=AA .local:=by first|exact .inl rfl|exact .inr rfl|assumption) (Q:(x==("__debug__":AL))=false:=by decide) (t:(x==("__classdict__":AL))=false:=by decide):PS X (.AugAssign (.Name x px) .Add a pos) (tS S X (.asg (.n i) (.ite (.isi (.var i) [.tuple]) (.bin .add (.var i) ca) .nope))):=
 (zlR m o p r znj hf).imp λD C H #[B,A,st,U,E,j,h]=>by
  erw[ex,ev]at h
  cases q:U[i]? with
  |none=>rw[q]at h;exact h.elim
  |some w=>
   cases w with
   |none=>rw[q]at h;exact h.elim
   |some w=>
    rw[q]at h;let#[y,G,rw]:=j.get i w q
    cases w with
    |tp k d=>
     replace h:yar S X B A H ((ev S.call U st ca).fl U λv b=>(toR (yq .add (.tp k d) v) b).fl U λv b=>match yH (.n i) v U with
      |some I=>Fl.nx I b
      |none=>Fl.bad) D:=by rw[<-zm3];exact h
     refine#[y,G,tE.fl E j h λz Y v b J s rs1 f L c=>?_]
     cases e:yq .add (.tp k d) v with
     |none=>rw[e]at c;exact c.elim
     |some u=>
      rw[e]at c;exact#[B,J,b,.tp k d,v,u,rs1,rw.step s,L,e,λZ M N l g O=>c _ M N l g ((f.step l).set i O)]
    |_=>exact h.elim
end
section
variable {X:Cx}
def zjD{x}:∀{xs}{us:IK AG},Vals xs us->xs.all yax=AC->us.countP (eqU x)=xs.countP λy=>eqV y x
 |_,_,.nil,_=>rfl
 |y::xs,u::us,.cons r t,f=>by rw[BE,AH]at f;rw[DZ,DZ,zgj r f.1,zjD t f.2]
def ydC:V->IK V->Hp->VK->Prop:=λx b H Q=>∃l a y,x=.ref l/\b=[y]/\H l=AA (.lst a)/\yax y=AC/\a.all yax=AC/\Q (.int (a.countP λz=>eqV z y)) H
def zkN:MtM X "list.count" ydC:=by
 intro B s A H x j v m Q I b c h;let#[l,o,y,rfl,rfl,d,f,fs,q]:=h
 cases b
 let#[w,rfl,rw]:=vals1 c;let#[z,a,n,r,p,e]:=I.lstM d;refine EF F4 #[_,e,rfl] F.entry_list_count (F.args_list_count_2 _ _) (SeqAt.list_countAt l a.toArray n AD (IK.toArray []) w (eqU y)) #[e,λu g=>zbD rw f r fs u (by simpa using g),?_];refine#[.int _,H,I.tok _,#[_,rfl],?_];rw[show a.toArray.toList=a from rfl,zjD r fs];exact q
def ydU:V->IK V->Hp->VK->Prop:=λx b H Q=>∃l a y j,x=.ref l/\b=[y]/\H l=AA (.lst a)/\yax y=AC/\a.all yax=AC/\(∃z,a[j]?=AA z/\eqV z y=AC)/\(∀m z,m<j->a[m]?=AA z->eqV z y=AB)/\Q (.int (j:IL)) H
def zhz{xs us}(h:Vals xs us):∀{m:IL}{u:AG},us[m]?=AA u->∃z,xs[m]?=AA z/\RelV z u:=by
 induction h with
 |nil=>intro m u e;simp at e
 |cons r t ih=>
  intro m u e
  cases m with
  |zero=>simp at e;subst e;exact#[_,rfl,r]
  |succ m=>simp at e;let#[z,a,b]:=ih e;exact#[z,by simpa using a,b]
def zlo:MtM X "list.index" ydU:=by
 intro B s A H x Y v Z Q I E G h;let#[l,J,y,j,rfl,rfl,L,M,fs,#[z,d,N],f,q]:=h
 cases E
 let#[w,rfl,rw]:=vals1 G;let#[O,b,n,r,hl,e]:=I.lstM L;have C:j<b.length:=by have:=(An.1 d).1;lia
 have a:∀{m:IL} {z:V},J[m]?=AA z->yax z=true:=λ{m z} g=>A3.1 fs z (AZ g);have sz:sizeLine<2^63-1:=by rw[CC];decide
 refine EF F5 #[_,e,rfl] F.entry_list_index (F.args_list_index_2 _ _) (SeqAt.list_indexAt l b.toArray n AD (IK.toArray []) w (eqU y) j (by simpa using C) () ?_ ?_) #[e,λu U=>zbD rw M r fs u (by simpa using U),?_]
 .let#[D,c,o]:=zhz r (m:=j) (u:=b[j]) (by simp[C]);rw[d]at c
  cases c
  erw[F6];rw[zgj o (a d)];exact N
 .intro m g p;have t:m<b.length:=by simpa using g
  let#[D,c,o]:=zhz r (m:=m) (u:=b[m]) (by simp[t]);erw[F6];rw[zgj o (a c)];exact f m D p c
 .exact#[.int _,H,I.tok _,#[_,rfl],q]
end
section
variable {S:Se}{X:Cx}{C:St}{B:AJ->Prop}{A A1:Ph}{H H1:Hp}{st:SO}{U:IC.Env}{p pos p2 apos:CB}{a b:AT}{ca cb:Ce}{K:AF}{cl:IL->AJ}
def zgW{v x}(r:yd K cl B A H v x)(h:IC.flat v=AC):∀{vs}{xs:IK V},yg K cl B A H vs xs->vs.all IC.flat=AC->(xs.countP λy=>eqV y x)=vs.countP λy=>peq y v
 |[],xs,l,_=>by erw[yg]at l;subst l;rfl
 |w::vs,xs,l,f=>by erw[yg]at l;let#[y,a,rfl,rw,l]:=l;rw[BE,AH]at f;rw[DZ,DZ,zgW r h l f.2,(rw.flat f.1).2 v x h r]
def zgQ{v x}(r:yd K cl B A H v x)(h:IC.flat v=AC):∀{vs}{xs:IK V}{j:IL},yg K cl B A H vs xs->vs.all IC.flat=AC->ybY v vs=AA j->(∃z,xs[j]?=AA z/\eqV z x=AC)/\∀m z,m<j->xs[m]?=AA z->eqV z x=AB
 |[],xs,j,l,_,e=>by cases e
 |w::vs,xs,j,l,f,e=>by
  erw[yg]at l;let#[y,p,rfl,rw,l]:=l;rw[BE,AH]at f;have d:=(rw.flat f.1).2 v x h r;erw[ybY]at e;split at e
  .rename_i c
   cases e
   exact#[#[y,rfl,by rw[d];exact c],λm z g=>()]
  .rename_i c
   cases a:ybY v vs with
   |none=>rw[a]at e;cases e
   |some i=>
    rw[a]at e
    cases e
    let#[n,o]:=zgQ r h l f.2 a;refine#[by simpa using n,λm z g b=>?_]
    cases m with
    |zero=>
     simp at b;subst b;rw[d];simpa using c
    |succ m=>exact o m z (IL.lt_of_succ_lt_succ g) (by simpa using b)
def zlF(ha:PE X a (tE S X ca))(hb:PE X b (tE S X cb))(Z:starEach [b] X.env=(AB,eval b X.env)::starEach [] X.env:=by rfl)(m:attributeBase a "count" X.env (eval a X.env)=eval a X.env:=by rfl)(o:(apos.endLine==pos.line)=true:=by rfl)(r:(backTo pos (starEach [] X.env)).any (·.1)=false:=by rfl)
  (u:((backTo pos (starEach [b] X.env)).all (λx=>!x.1)&&(backToKw pos (keywordEach [] X.env)).all (λx=>x.1.isSome)&&decide (([b]:IK AT).length+([]:IK Br).length+(if ([]:IK Br).isEmpty then 0 else 1)<30))=true:=by rfl):
  PE X (.Call (.Attribute a "count" apos) [b] [] pos) (tE S X (.mth .count ca (.cons cb .nil))):=
 (znM DE F4 PySem.F.type_list_count zkN ha (zcD (S:=S) hb zeI Z) m u o Z r).imp λC H Q #[B,A,st,U,rs,re,h]=>by
  erw[ev]at h;refine tE.bind rs re h λx H1 v z A1 s1 rs1 G rv I=>?_;let#[_,J,I]:=zfe I;obtain⟨D,t1⟩:∃D,yM z v=AA D:=by
   erw[yas]at J
   cases q:yM z v with
   |none=>rw[q]at J;cases J
   |some D=>exact#[D,rfl]
  let#[l,xs,rfl,hl,_]:=zct rs1 rv t1;refine#[.inl #[rfl,xs,hl],tAs.bind rs1 G I λys H2 vs L A2 s2 rs2 re2 M d=>?_];have g:=rv.step s2;rcases vs with _|⟨w,_|⟨w',t⟩⟩
  .exact d.elim
  .let#[y,rfl,rw]:=M.one;unfold ybD at d;erw[yfB]at d
   cases j:yM L v with
   |none=>rw[j]at d;exact d.elim
   |some zs=>
    rw[j]at d;dsimp only at d;split at d
    .rename_i c;rw[AH]at c;let#[l',xs',e',hl',lr]:=zct rs2 g j
     cases e'
     let#[E,_]:=zbg rw c.1 lr c.2
     cases v with
     |loc n=>
      erw[yM]at j;split at j
      .rename_i N hz
       cases j
       let#[l2,p,O,hn,Y,f]:=rs2.list g hz
       cases O
       let#[E,_]:=zbg rw c.1 f c.2;exact#[l,p,y,rfl,rfl,Y,(rw.flat c.1).1,E,d.ok rs2 (by erw[yd];rw[zgW rw c.1 f c.2])]
      .cases j
     |lst N=>
      cases j
      erw[yd]at g;let#[a',p,O,#[Y,_,_],f]:=g
      cases O
      let#[E,_]:=zbg rw c.1 f c.2;exact#[l,p,y,rfl,rfl,Y,(rw.flat c.1).1,E,d.ok rs2 (by erw[yd];rw[zgW rw c.1 f c.2])]
     |_=>cases j
    .exact d.elim
  .exact d.elim
def zlf(ha:PE X a (tE S X ca))(hb:PE X b (tE S X cb))(hs:starEach [b] X.env=(AB,eval b X.env)::starEach [] X.env:=by rfl)(m:attributeBase a "index" X.env (eval a X.env)=eval a X.env:=by rfl)(o:(apos.endLine==pos.line)=true:=by rfl)(u:(backTo pos (starEach [] X.env)).any (·.1)=false:=by rfl)
  (z:((backTo pos (starEach [b] X.env)).all (λx=>!x.1)&&(backToKw pos (keywordEach [] X.env)).all (λx=>x.1.isSome)&&decide (([b]:IK AT).length+([]:IK Br).length+(if ([]:IK Br).isEmpty then 0 else 1)<30))=true:=by rfl):
  PE X (.Call (.Attribute a "index" apos) [b] [] pos) (tE S X (.mth .index ca (.cons cb .nil))):=
 (znM DE F5 PySem.F.type_list_index zlo ha (zcD (S:=S) hb zeI hs) m z o hs u).imp λC H Q #[B,A,st,U,rs,re,h]=>by
  erw[ev]at h;refine tE.bind rs re h λx H1 v D A1 s1 rs1 G rv I=>?_;let#[_,J,I]:=zfe I;obtain⟨E,t1⟩:∃E,yM D v=AA E:=by
   erw[yas]at J
   cases q:yM D v with
   |none=>rw[q]at J;cases J
   |some E=>exact#[E,rfl]
  let#[l,xs,rfl,hl,_]:=zct rs1 rv t1;refine#[.inl #[rfl,xs,hl],tAs.bind rs1 G I λys H2 vs L A2 s2 rs2 re2 M d=>?_];have p:=rv.step s2;rcases vs with _|⟨w,_|⟨w',t⟩⟩
  .exact d.elim
  .let#[y,rfl,rw]:=M.one;unfold ybD at d;erw[yfC]at d
   cases g:yM L v with
   |none=>rw[g]at d;exact d.elim
   |some zs=>
    rw[g]at d;dsimp only at d;split at d
    .rename_i c;rw[AH]at c;split at d
     .rename_i j hj
      cases v with
      |loc n=>
       erw[yM]at g;split at g
       .rename_i N hz
        cases g
        let#[l2,r,O,hn,Y,f]:=rs2.list p hz
        cases O
        let#[Z,_]:=zbg rw c.1 f c.2;let#[q2,q3]:=zgQ rw c.1 f c.2 hj;exact#[l,r,y,j,rfl,rfl,Y,(rw.flat c.1).1,Z,q2,q3,d.ok rs2 (by erw[yd])]
       .cases g
      |lst N=>
       cases g
       erw[yd]at p;let#[a',r,O,#[Y,_,_],f]:=p
       cases O
       let#[Z,_]:=zbg rw c.1 f c.2;let#[q2,q3]:=zgQ rw c.1 f c.2 hj;exact#[l,r,y,j,rfl,rfl,Y,(rw.flat c.1).1,Z,q2,q3,d.ok rs2 (by erw[yd])]
      |_=>cases g
     .exact d.elim
    .exact d.elim
  .exact d.elim
end
section
variable {S:Se}{X:Cx}{C:St}{B:AJ->Prop}{A:Ph}{H:Hp}{st:SO}{p pos p2 px apos:CB}{a b c d o tg l:AT}{ca cb cc:Ce}{ct:Tg}{ss:IK Bj}{cs:Css}
end
section
variable {S:Se}{X:Cx}{C:St}{B:AJ->Prop}{A A1:Ph}{H H1:Hp}{st:SO}{U:IC.Env}{pos:CB}{a b tg elt iter:AT}{ca cb ce:Ce}{ct:Tg}
end
end L2
namespace L2
open PySem PySem.Spec PyProof.Rows IC WK
inductive GK where
 |fn (i:IL)|fnD (i:IL)|cst (v:PV)|dct (D:IK (AL×PV))|exc (c:IL)|cls (c i:IL)
structure Gs where
 g:AL->Option GK
 b:AL->IQ
 t:Ty->IQ
 fl:IL->AL->IQ
 me:IL->AL->Option IL
 kb:IL->IL->IK AL->Option (IK (Option IM))
 mr:AL->Option (IK (AL×IL))
 fv:AL->IL->IQ
 xk:IL->Ty->IQ
 xc:IL->AL->IQ
 xm:IL->AL->IQ
 qf:IL->IQ
structure Kx where
 N:IK AL
 sc:BZ
 own:IQ
 h:IQ
def Fo(m:IL)(S:Se)(X:Cx)(i:IL)(f:AJ)(fd:Aw)(a:IK AL):Prop:=yaG X.prog X.w X.K X.mg X.base (CX1 X.prog X.w) m f fd a (spI X.K S.cl S.call i)
structure Glo(J:Gs)(m:IL)(S:Se)(X:Cx):Prop where
 F:∀x i,J.g x=AA (.fn i)->∃f fd ps,Fo m S X i f fd ps/\X.mg x=AA (.ref f)/\Al X.K (.ref f)=AC/\Binds X.K fd ps []
 Q:∀x i np ks sh,J.g x=AA (.fnD i)->J.kb i np ks=AA sh->∃f fd ps,Fo m S X i f fd ps/\X.mg x=AA (.ref f)/\Al X.K (.ref f)=AC/\∃g,ybs X.K fd ps ks g (gK np sh)
 C:∀x v,J.g x=AA (.cst v)->GC X.K X.mg S.cl x v
 D:∀x d,J.g x=AA (.dct d)->GD X.K X.w X.mg S.cl x d
 E:∀x c,J.g x=AA (.exc c)->ycy X.K X.mg (S.cl c) x
 N:∀x c i,J.g x=AA (.cls c i)->X.mg x=AA (.ref (S.cl c))/\∃f fd ps,Mk X.K (S.cl c) f/\Fo m S X i f fd ps/\Binds X.K fd ps []
 B:∀x,J.b x=AC->X.mg x=AD
 T:∀t,J.t t=AC->yfl X.K t
 A:∀c f,J.fl c f=AC->Cls X.K (S.cl c)/\yap X.K (S.cl c) f
 M:∀c n i,J.me c n=AA i->Cls X.K (S.cl c)/\∃f fd ps,Meth X.K (S.cl c) n f/\Fo m S X i f fd ps/\Binds X.K fd ps []
 K:∀y D,J.mr y=AA D->∃fa fdd ps,Makers S X m D fa fdd ps/\GDF X.K X.w X.mg fa y D
 V:∀x i,J.g x=AA (.fn i)->J.fv x i=AC->X.mg x=AA (.ref (S.cl (1000+i)))
 I:∀c t,J.xk c t=AC->ybt X.K (S.cl c)/\ycC X.K S.cl c t
 L:∀d x,J.xc d x=AC->X.mg x=AA (.ref (S.cl d))
 H:∀c x,J.xm c x=AC->∃W,X.mg x=AA (.ref W)/\EK X.K (.ref (S.cl c)) (.ref W)=AA AC
 Z:∀x i,J.g x=AA (.fn i)->J.qf i=AC->∃f fd ps,ybp X.prog X.w X.K X.mg X.base m f fd ps (spI X.K S.cl S.call i)/\X.mg x=AA (.ref f)/\Al X.K (.ref f)=AC/\Binds X.K fd ps []
structure Good(J:Gs)(R:Kx)(m:IL)(S:Se)(X:Cx):Prop where
 n:X.N=R.N
 sc:X.env.scope=R.sc
 calm:R.h=AB->X.calm=AC
 room:yam (m+1) X.A
 hd:R.h=AB->X.A.handled=AD
 own:R.own=AC->El (model X.prog X.w) X.A X.env X.xe/\(∀x,X.fn x=AC)/\S.may=AC
 top:R.own=AC->(∃outer,X.stack=X.env::outer)/\X.ex=[]/\X.env.frame=AA X.env.locals
 glo:Glo J m S X
theorem Good.rm{J:Gs}{R:Kx}{m:IL}{S:Se}{X:Cx}(G:Good J R m S X)(h:R.h=AB):yav (m+1) X.A:=#[G.hd h,G.room.dp,G.room.un]
def zml{k:IL}{A}(r:yam k A):A.units+1<cLine:=by have:=r.units;lia
abbrev Pr(P:Prop):Type:=Option (PLift P)
abbrev YE(J:Gs)(R:Kx)(e:AT)(c:Ce):Prop:=∀m S X,Good J R m S X->PE X e (tE S X c)
abbrev YT(J:Gs)(R:Kx)(e:AT)(c:Ce):Prop:=∀m S X,Good J R m S X->PT X e (tTs S X c)
abbrev YW(J:Gs)(R:Kx)(e:AT)(c:Ce):Prop:=∀m S X,Good J R m S X->PW X e (tTs S X c)
abbrev YA(J:Gs)(R:Kx)(e:IK AT)(c:Ces):Prop:=∀m S X,Good J R m S X->PA X e (tAs S X c)
abbrev YO(J:Gs)(R:Kx)(e:Option AT)(c:Ce):Prop:=∀m S X,Good J R m S X->PO X e (tO S X c)
abbrev YS(J:Gs)(R:Kx)(s:Bj)(c:Cs):Prop:=∀m S X,Good J R m S X->PS X s (tS S X c)
abbrev YSs(J:Gs)(R:Kx)(s:IK Bj)(c:Css):Prop:=∀m S X,Good J R m S X->PSs X s (tSs S X c)
def an{P Q:Prop}(a:Pr P)(k:P->Pr Q):Pr Q:=match a with
 |some h=>k h.down
 |none=>AD
def ok{P:Prop}(h:P):Pr P:=AA #[h]
def ask(p:Prop)[Decidable p]:Pr p:=if h:p then AA #[h]else AD
def nst:AT->IQ
 |.Starred _ _=>AB
 |_=>AC
def zhD{a:AT}{es:IK AT}{env:BI}(h:nst a=AC):starEach (a::es) env=(AB,eval a env)::starEach es env:=by cases a<;>first|rfl|cases h
def ybL(es:IK AT):IQ:=es.all nst
theorem stars{pos env}:∀{es:IK AT},ybL es=AC->(backTo pos (starEach es env)).any (·.1)=AB
 |[],_=>rfl
 |a::es,h=>by erw[ybL,BE,AH]at h;rw[zhD h.1];have:=stars (pos:=pos) (env:=env) (es:=es) h.2;simpa [backTo] using this
def nco:AT->IQ
 |.ListComp ..=>AB
 |.SetComp ..=>AB
 |.DictComp ..=>AB
 |_=>AC
theorem swp{a:AT}{t}{l:IL}{env:BI}(h:nco a=AC):swapsWith a t l env=pure false:=by cases a<;>first|rfl|cases h
def nse:AT->IQ
 |.Set ..=>AB
 |_=>AC
theorem fse{a:AT}{env}(h:nse a=AC):∀x,foldedSetIterable a env x=pure x:=by cases a<;>first|exact λ_=>rfl|cases h
theorem nmk{b}{a:AT}(h:nse a=AC):behindInMarks b a=false:=by cases a<;>first|rfl|cases h
def nsl:AT->IQ
 |.Slice ..=>AB
 |_=>AC
theorem pix{a:AT}(h:nsl a=AC):ybo a:=by cases a<;>first|exact λ_ _=>rfl|cases h
theorem nos{a:AT}(h:nsl a=AC):ydb a:=pix h
def ntu:AT->IQ
 |.Tuple ..=>AB
 |_=>AC
def nte:AT->IQ
 |.UnaryOp ..=>AB
 |.BoolOp ..=>AB
 |.IfExp ..=>AB
 |.Compare ..=>AB
 |_=>AC
theorem itr{a:AT}{env}(h:nte a=AC):∀b,isTrue a env b=(do let v <-b;standAt a.pos;holding [v] (truthy v)):=by cases a<;>first|exact λ_=>rfl|cases h
def nca:AT->IQ
 |.Call ..=>AB
 |_=>AC
def zrJ{a:AT}{f env}{w:Hd AG}(h:nca a=AC):attributeBase a f env w=w:=by cases a<;>first|rfl|cases h
def mOp(a:D5)(o:BOp):Pr (∀S X,OpR X (binaryOp a) (rT2 S X (yq o))):=
 match a,o with
 |.Add,.add=>ok (λ_ _=>zqX)
 |.Sub,.sub=>ok (λ_ _=>zpo)
 |.Mult,.mul=>ok (λ_ _=>zoT)
 |.FloorDiv,.fdiv=>ok (λ_ _=>zmT)
 |.Mod,.mod=>ok (λ_ _=>zpB)
 |.Pow,.pow=>ok (λ_ _=>zqL)
 |.LShift,.shl=>ok (λ_ _=>zpy)
 |.RShift,.shr=>ok (λ_ _=>zqC)
 |.BitAnd,.band=>ok (λ_ _=>znn)
 |.BitOr,.bor=>ok (λ_ _=>zoP)
 |.BitXor,.bxor=>ok (λ_ _=>znB)
 |_,_=>AD
def mCm(a:Fu)(o:COp):Pr (∀m S X,yam m X.A->OpR X (compareOp a) (rT2 S X (yp o))):=
 match a,o with
 |.Eq,.eq=>ok (λ_ _ _ r=>zrx r.units)
 |.NotEq,.ne=>ok (λ_ _ _ r=>zq9 r.units)
 |.Lt,.lt=>ok (λ_ _ _ _=>zrd)
 |.LtE,.le=>ok (λ_ _ _ _=>zrn)
 |.Gt,.gt=>ok (λ_ _ _ _=>zrq)
 |.GtE,.ge=>ok (λ_ _ _ _=>zrv)
 |.In,.isin=>ok (λ_ _ _ _=>zq7)
 |.NotIn,.notin=>ok (λ_ _ _ _=>zkZ)
 |_,_=>AD
def yea(sc:BZ)(x:AL):IQ:=match sc.names.lookup x with
 |some .local=>AC
 |some .cell=>AC
 |some .free=>AC
 |_=>AB
def zi8{sc}{x:AL}(h:yea sc x=AC):Vis sc x:=by
 unfold yea at h;split at h
 .exact .inl ‹_›
 .exact .inr (.inl ‹_›)
 .exact .inr (.inr ‹_›)
 .cases h
def yel(sc:BZ)(x:AL):IQ:=match sc.names.lookup x with
 |some .local=>AC
 |some .cell=>AC
 |_=>AB
def zjB{sc}{x:AL}(h:yel sc x=AC):Loc sc x:=by
 unfold yel at h;split at h
 .exact .inl ‹_›
 .exact .inr ‹_›
 .cases h
def pln(x:AL):IQ:=!(x==("__debug__":AL))&&!(x==("__classdict__":AL))&&!(x==("__name__":AL))
def zrG{x:AL}(h:pln x=AC):(x==("__debug__":AL))=false:=by erw[pln,AH,CP]at h;exact h.1.1
def zrP{x:AL}(h:pln x=AC):(x==("__classdict__":AL))=false:=by erw[pln,AH,CP]at h;exact h.1.2
def zrV{x:AL}(h:pln x=AC):x ≠ "__name__":=by erw[pln,AH,CP]at h;intro e;rw[e]at h;exact IU h.2 ⋯
def hf(R:Kx){P:Prop}(f:R.h=AB->Pr P):Pr P:=if h:R.h=AB then f h else AD
def glB(R:Kx)(x:AL):IQ:=decide (R.sc.names.lookup x=AA .globalImplicit)&&pln x
def zU{J R}{m:IL}{S X}(G:Good J R m S X){x:AL}(h:glB R x=AC):Gl X x:=by erw[glB,AH,IN]at h;show X.env.scope.names.lookup x=_;rw[G.sc];exact h.1
def zbu{R}{x:AL}(h:glB R x=AC):pln x=true:=by erw[glB,AH]at h;exact h.2
def setB(R:Kx)(i:IL)(x:AL):IQ:=decide (R.N[i]?=AA x)&&decide R.N.Nodup&&yel R.sc x&&(R.own || decide (R.sc.names.lookup x=AA .local))&&pln x
structure yfb(X:Cx)(i:IL)(x:AL):Prop where
 d:X.N.Nodup
 i:X.N[i]?=AA x
 l:Loc X.env.scope x
 f:X.fn x=AC \/ X.env.scope.names.lookup x=AA .local
 p:pln x=AC
def zbA{J R}{m:IL}{S X}(G:Good J R m S X){i:IL}{x:AL}(h:setB R i x=AC):yfb X i x:=by
 erw[setB,AH,Bz,IN]at h;let#[#[#[#[b,c],d],a],f]:=h;refine#[by rw[G.n];exact c,by rw[G.n];exact b,by rw[G.sc];exact zjB d,?_,f];rcases a with a|a
 .exact .inl ((G.own a).2.1 x)
 .exact .inr (by rw[G.sc];exact a)
def gFn(J:Gs)(x:AL)(i:IL):Pr (J.g x=AA (.fn i)):=match h:J.g x with
 |some (.fn j)=>if e:j=i then AA #[by subst e;rfl]else AD
 |_=>AD
section
variable {J:Gs}{R:Kx}{ca cb cc:Ce}{ces:Ces}
def yf1(v:PV)(e:AT):Pr (YE J R e (.cst v)):=
 match e with
 |.Constant (.int i) _ _=>match v with
  |.int j=>an (ask (i=j)) λh=>ok (λ_ _ _ _=>by cases h;exact zpz)
  |_=>AD
 |.Constant (.bool i) _ _=>match v with
  |.bl j=>an (ask (i=j)) λh=>ok (λ_ _ _ _=>by cases h;exact zrz)
  |_=>AD
 |.Constant .none _ _=>match v with
  |.non=>ok (λ_ _ _ _=>zoI)
  |_=>AD
 |.Constant (.str i) _ _=>match v with
  |.str j=>an (ask (i=j)) λh=>ok (λ_ _ _ _=>by cases h;exact zqG)
  |_=>AD
 |_=>AD
def yf3(i:IL)(e:AT):Pr (YE J R e (.var i)):=
 match e with
 |.Name x _=>an (ask (R.N[i]?=AA x/\yea R.sc x=AC/\pln x=AC)) λh=>ok (λ_ _ _ G=>zqe (by rw[G.n];exact h.1) (by rw[G.sc];exact zi8 h.2.1) (zrG h.2.2) (zrP h.2.2))
 |_=>AD
def yf8(o:BOp)(e:AT)(c:∀x,Pr (YE J R x ca))(d:∀x,Pr (YE J R x cb)):Pr (YE J R e (.bin o ca cb)):=
 match e with
 |.BinOp a f b _=>
  an (mOp f o) λg=>an (c a) λj=>an (d b) λl=>ok (λm S X G=>zoS (g S X) (j m S X G) (l m S X G))
 |_=>AD
def yhy(e:AT)(b:∀x,Pr (YE J R x ca)):Pr (YE J R e (.neg ca)):=
 match e with
 |.UnaryOp .USub a _=>
  an (b a) λc=>ok (λm S X G=>zpe (c m S X G))
 |_=>AD
def ygl(e:AT)(b:∀x,Pr (YE J R x ca)):Pr (YE J R e (.not ca)):=
 match e with
 |.UnaryOp .Not a _=>
  an (b a) λc=>ok (λm S X G=>zqH (c m S X G))
 |_=>AD
def yg0(o:COp)(e:AT)(c:∀x,Pr (YE J R x ca))(d:∀x,Pr (YE J R x cb)):Pr (YE J R e (.cmp o ca cb)):=
 match e with
 |.Compare a [f] [b] _=>
  an (mCm f o) λg=>an (ask (nse b=AC)) λj=>an (c a) λl=>an (d b) λn=>ok (λm S X G=>zoG (g _ S X G.room) (l m S X G) (n m S X G) (nmk j))
 |_=>AD
def yeE(o:COp)(e:AT)(c:∀x,Pr (YE J R x ca))(d:∀x,Pr (YE J R x cb)):Pr (YT J R e (.cmp o ca cb)):=
 match e with
 |.Compare a [f] [b] _=>
  an (mCm f o) λg=>an (ask (nse b=AC)) λj=>an (c a) λl=>an (d b) λn=>ok (λm S X G=>zo4 (g _ S X G.room) (l m S X G) (n m S X G) (nmk j))
 |_=>AD
theorem lmk{d a:Fu}{b c:AT}(h:nse c=AC):lastMarks [d,a] [b,c]=false:=nmk h
def yg8(o p:COp)(e:AT)(f:∀x,Pr (YE J R x ca))(g:∀x,Pr (YE J R x cb))(j:∀x,Pr (YE J R x cc)):Pr (YE J R e (.chain o p ca cb cc)):=
 match e with
 |.Compare a [l,d] [b,c] _=>
  an (mCm l o) λn=>an (mCm d p) λq=>an (ask (nse c=AC)) λr=>an (f a) λt=>an (g b) λu=>an (j c) λw=>ok (λm S X G=>zkF (n _ S X G.room) (q _ S X G.room) (t m S X G) (u m S X G) (w m S X G) (lmk r))
 |_=>AD
def yff(o p:COp)(e:AT)(f:∀x,Pr (YE J R x ca))(g:∀x,Pr (YE J R x cb))(j:∀x,Pr (YE J R x cc)):Pr (YT J R e (.chain o p ca cb cc)):=
 match e with
 |.Compare a [l,d] [b,c] _=>
  an (mCm l o) λn=>an (mCm d p) λq=>an (ask (nse c=AC)) λr=>an (f a) λt=>an (g b) λu=>an (j c) λw=>ok (λm S X G=>zkE (n _ S X G.room) (q _ S X G.room) (t m S X G) (u m S X G) (w m S X G) (lmk r))
 |_=>AD
def yhF(e:AT)(d:∀x,Pr (YT J R x cc))(f:∀x,Pr (YE J R x ca))(g:∀x,Pr (YE J R x cb)):Pr (YE J R e (.ite cc ca cb)):=
 match e with
 |.IfExp c a b _=>
  an (d c) λj=>an (f a) λl=>an (g b) λn=>ok (λm S X G=>zph (j m S X G) (l m S X G) (n m S X G))
 |_=>AD
def yhq(e:AT)(a:∀x,Pr (YA J R x ces)):Pr (YE J R e (.tup ces)):=
 match e with
 |.Tuple b _ _=>
  an (a b) λc=>ok (λm S X G=>zoU (c m S X G))
 |_=>AD
def ygq(e:AT)(a:∀x,Pr (YA J R x ces)):Pr (YE J R e (.lst ces)):=
 match e with
 |.List b _=>
  an (a b) λc=>ok (λm S X G=>zps (c m S X G))
 |_=>AD
def yeu(e:AT)(a:∀x,Pr (YA J R x ces)):Pr (YE J R e (.newl ces)):=
 match e with
 |.List b _=>
  an (a b) λc=>ok (λm S X G=>zmF (c m S X G))
 |_=>AD
def yfo(t:IQ)(e:AT):Pr (YE J R e (.dict0 t)):=
 match t,e with
 |true,.Dict [] [] _=>ok (λ_ _ _ _=>zjd)
 |_,_=>AD
def mIdx(e:AT)(c:∀x,Pr (YE J R x ca))(d:∀x,Pr (YE J R x cb)):Pr (YE J R e (.idx ca cb)):=
 match e with
 |.Subscript a b _=>
  an (ask (nsl b=AC)) λf=>an (c a) λg=>an (d b) λj=>ok (λm S X G=>zoN (g m S X G) (j m S X G) (pix f))
 |_=>AD
def ygj(e:AT)(b:∀x,Pr (YE J R x ca))(c:∀x,Pr (YO J R x cb))(d:∀x,Pr (YO J R x cc)):Pr (YE J R e (.slc ca cb cc)):=
 match e with
 |.Subscript a (.Slice l h AD _) _=>
  an (b a) λf=>an (c l) λg=>an (d h) λj=>ok (λm S X G=>zpu (f m S X G) (g m S X G) (j m S X G))
 |_=>AD
def yfW(c:Ce)(e:Option AT)(b:∀x,Pr (YE J R x c)):Pr (YO J R e c):=
 match e with
 |none=>match c with
  |.cst .non=>ok (λ_ _ _ _=>zov)
  |_=>AD
 |some a=>
  an (b a) λd=>ok (λm S X G=>znw (d m S X G))
inductive Fs(J:Gs)(R:Kx):Ces->Type where
 |nil:Fs J R .nil
 |cons {c:Ce} {cs:Ces} (f:∀x,Pr (YE J R x c)) (r:Fs J R cs):Fs J R (.cons c cs)
def yaQ:{ces:Ces}->Fs J R ces->(es:IK AT)->Pr (YA J R es ces)
 |_,.nil,[]=>ok λ_ _ _ _=>zeI
 |_,.cons f r,a::es=>an (ask (nst a=AC)) λb=>an (f a) λc=>an (yaQ r es) λd=>ok λm S X G=>zcD (c m S X G) (d m S X G) (zhD b)
 |_,_,_=>AD
structure Sp2(J:Gs)(R:Kx)(ces:Ces)(np:IL) where
 c1:Ces
 c2:Ces
 f1:Fs J R c1
 f2:Fs J R c2
 h:yw c1 c2=ces
 l:yc8 c1=np
def ycu:(a:IL)->{ces:Ces}->Fs J R ces->Option (Sp2 J R ces a)
 |0,ces,F=>AA #[.nil,ces,.nil,F,rfl,rfl]
 |n+1,_,.cons f r=>match ycu n r with
  |some s=>AA #[.cons _ s.c1,s.c2,.cons f s.f1,s.f2,by rw[yw,s.h],by rw[yc8,s.l]]
  |none=>AD
 |_,_,_=>AD
structure It2(J:Gs)(R:Kx)(ces:Ces)(sh:IK (Option IM))(kws:IK Br) where
 it:IK (Sum Ce IM)
 h:ye it=ces
 s:it.map shC=sh
 k:∀m S X,Good J R m S X->PK X kws (tK S X it)
def yb0:(sh:IK (Option IM))->{ces:Ces}->Fs J R ces->(kws:IK Br)->Option (It2 J R ces sh kws)
 |[],_,.nil,[]=>AA #[[],rfl,rfl,λ_ _ _ _=>zoR]
 |none::sh,.cons c _,.cons f r,#[_,e,_] :: kws=>match f e,yb0 sh r kws with
  |some h,AA q=>AA #[.inl c::q.it,by rw[ye,q.h],by rw[AO,q.s];rfl,λm S X G=>zrc (h.down m S X G) (q.k m S X G)]
  |_,_=>AD
 |some i::sh,.cons (.cst (.int j)) _,.cons _ r,kws=>if e:i=j then match yb0 sh r kws with
  |some q=>AA #[.inr i::q.it,by rw[ye,q.h,e],by rw[AO,q.s];rfl,λm S X G=>zry (q.k m S X G)]
  |none=>AD
  else AD
 |_,_,_,_=>AD
def kwN:IK Br->IK AL
 |[]=>[]
 |#[AA x,_,_] :: r=>x::kwN r
 |_::r=>kwN r
def kwB:IK Br->IQ
 |[]=>AC
 |#[AA _,_,_] :: r=>kwB r
 |_=>AB
def zpN{pos env}:∀{kws:IK Br},kwB kws=AC->(backToKw pos (keywordEach kws env)).all (·.1.isSome)=AC/\(backToKw pos (keywordEach kws env)).filterMap (·.1)=kwN kws/\(backToKw pos (keywordEach kws env)).any (·.1.isNone)=AB
 |[],_=>#[rfl,rfl,rfl]
 |#[AA x,e,_] :: r,h=>by let#[a,b,c]:=zpN (pos:=pos) (env:=env) (kws:=r) h;erw[backToKw]at a b c ⊢;erw[keywordEach,AO,BE,CY,Az,a,b,c,kwN];simp
def yhh(d:R.h=AB)(i:IL)(F:Fs J R ces)(e:AT):Pr (YE J R e (.call i ces)):=
 match e with
 |.Call (.Name x _) [] [] _=>match F with
  |.nil=>an (ask (glB R x=AC)) λb=>an (gFn J x i) λhf=>ok λm S X G=>by let#[f,fd,t,l,n,o,g]:=G.glo.F x i hf;exact zlJ l ((G.rm d).mono (C4 m)) (zU G b) n o g (zrG (zbu b))
  |_=>AD
 |.Call (.Name x _) (a::es) c _=>an (ask (glB R x=AC/\nst a=AC/\ybL es=AC)) λb=>
  match u:J.g x with
  |some (.fn j)=>match c with
   |[]=>an (ask (j=i)) λz=>an (yaQ F (a::es)) λp=>ok λm S X G=>by subst z;let#[f,fd,t,l,n,o,g]:=G.glo.F x j u;exact zmG l ((G.rm d).mono (C4 m)) (zU G b.1) n o g (p m S X G) (zrG (zbu b.1)) (zhD b.2.1) (stars b.2.2)
   |_=>AD
  |some (.fnD j)=>match A:J.kb j (es.length+1) (kwN c)with
   |none=>AD
   |some y=>match ycu (es.length+1) F with
    |none=>AD
    |some s=>match yb0 y s.f2 c with
     |none=>AD
     |some q=>an (ask (kwB c=AC/\j=i)) λr=>an (yaQ s.f1 (a::es)) λp=>ok λm S X G=>by
      let#[r,rfl]:=r;let#[f,fd,t,l,n,o,g]:=G.glo.Q x j _ _ y u A;rw[<-s.h,<-q.h];rw[<-q.s]at g;have w:=λ{pos}=>zpN (pos:=pos) (env:=X.env) r;exact zkX l ((G.rm d).mono (C4 m)) (zU G b.1) n o g s.l (p m S X G) (q.k m S X G) w.1 w.2.1 (zrG (zbu b.1)) (zhD b.2.1) (by rw[w.2.2,HU];exact stars (es:=a::es) (by erw[ybL,BE,b.2.1,Cy];exact b.2.2))
  |_=>AD
 |_=>AD
abbrev yeC(b:Blt)(x:AL):Prop:=∀S X,X.calm=AC->(∃id,yU X (.builtin id) (rB S X b)/\bootBuiltins x=AA (.builtin id)) \/ ∃T,yU X (.type T) (rB S X b)/\bootBuiltins x=AA (.type T)
def yf4(b:Blt)(x:AL):Pr (yeC b x):=
 match b with
 |.len=>an (ask (x="len")) λh=>ok λ_ _ _=>.inl #[_,zpR,h ▸ zpr]
 |.int=>an (ask (x="int")) λh=>ok λ_ _ _=>.inr #[_,zoQ,h ▸ zlT]
 |.abs=>an (ask (x="abs")) λh=>ok λ_ _ _=>.inl #[_,zqd,h ▸ zqa]
 |.min=>an (ask (x="min")) λh=>ok λ_ _ c=>.inl #[_,zpT c,h ▸ zqE]
 |.max=>an (ask (x="max")) λh=>ok λ_ _ c=>.inl #[_,zpf c,h ▸ zqU]
 |.tuple=>an (ask (x="tuple")) λh=>ok λ_ _ _=>.inr #[_,zkY,h ▸ zhB]
 |.all=>an (ask (x="all")) λh=>ok λ_ _ c=>.inl #[_,zpt c,h ▸ zpm]
 |.any=>an (ask (x="any")) λh=>ok λ_ _ c=>.inl #[_,zqo c,h ▸ zp1]
 |_=>AD
def yf6(b:Blt)(F:Fs J R ces)(e:AT):Pr (YE J R e (.blt b ces)):=
 match e with
 |.Call (.Name x _) (a::j) [] _=>hf R λd=>an (ask (glB R x=AC/\nst a=AC/\ybL j=AC/\J.b x=AC)) λc=>an (yf4 b x) λn=>an (yaQ F (a::j)) λl=>ok λm S X G=>by
  rcases n S X (G.calm d)with⟨id,f,g⟩|⟨T,f,g⟩
  .exact zpE f (zU G c.1) (G.glo.B x c.2.2.2) g (l m S X G) (zrV (zbu c.1)) (zrG (zbu c.1)) (zhD c.2.1) (stars c.2.2.1)
  .exact zox f (zU G c.1) (G.glo.B x c.2.2.2) g (l m S X G) (zrV (zbu c.1)) (zrG (zbu c.1)) (zhD c.2.1) (stars c.2.2.1)
 |_=>AD
def ygU(b:Blt)(F:Fs J R ces)(e:AT):Pr (YE J R e (.blt b ces)):=
 match b with
 |b=>yf6 b F e
def tyB(t:Ty)(x:AL):Pr (ydZ t=AC/\bootBuiltins x=AA (.type (tyN t))):=
 match t with
 |.int=>an (ask (x="int")) λh=>ok #[rfl,h ▸ zlT]
 |.bool=>an (ask (x="bool")) λh=>ok #[rfl,h ▸ zn1]
 |.str=>an (ask (x="str")) λh=>ok #[rfl,h ▸ zo5]
 |.tuple=>an (ask (x="tuple")) λh=>ok #[rfl,h ▸ zhB]
 |_=>AD
def yhJ(ts:IK Ty)(e:AT)(d:∀x,Pr (YE J R x ca)):Pr (YE J R e (.isi ca ts)):=
 match ts,e with
 |[t],.Call (.Name n _) [a,.Name x _] [] _=>an (ask (n="isinstance"/\glB R n=AC/\J.b n=AC/\glB R x=AC/\J.b x=AC/\J.t t=AC/\nst a=AC)) λh=>an (tyB t x) λc=>an (d a) λf=>ok λm S X G=>by let#[rfl,g,j,b,l,o,p]:=h;exact zqZ (G.glo.T t o) c.1 (zU G g) (G.glo.B _ j) (zU G b) (G.glo.B _ l) c.2 (f m S X G) (zrV (zbu b)) (zrG (zbu b)) (zhD p) rfl
 |_,_=>AD
mutual
noncomputable def yeH:(a b:PV)->Pr (a=b)
 |.non,.non=>ok rfl
 |.bl a,.bl b=>an (ask (a=b)) λh=>ok (by rw[h])
 |.int a,.int b=>an (ask (a=b)) λh=>ok (by rw[h])
 |.str a,.str b=>an (ask (a=b)) λh=>ok (by rw[h])
 |.tp k a,.tp j b=>an (ask (k=j)) λh=>an (ycE a b) λg=>ok (by rw[h,g])
 |.lst a,.lst b=>an (ycE a b) λg=>ok (by rw[g])
 |_,_=>AD
noncomputable def ycE:(a b:IK PV)->Pr (a=b)
 |[],[]=>ok rfl
 |a::x,b::y=>an (yeH a b) λh=>an (ycE x y) λg=>ok (by rw[h,g])
 |_,_=>AD
end
def eqD:(a b:IK (AL×PV))->Pr (a=b)
 |[],[]=>ok rfl
 |(k,a)::x,(j,b)::y=>an (ask (k=j)) λe=>an (yeH a b) λh=>an (eqD x y) λg=>ok (by rw[e,h,g])
 |_,_=>AD
def yhj(v:PV)(e:AT):Pr (YE J R e (.cst v)):=
 match e with
 |.Name x _=>match h:J.g x with
  |some (.cst u)=>an (ask (glB R x=AC)) λa=>an (yeH u v) λc=>ok λm S X G=>by subst c;exact zra (zU G a) (G.glo.C x u h) (zrG (zbu a))
  |some (.fn i)=>match v with
   |.fnc j=>an (ask (glB R x=AC/\J.fv x i=AC/\i=j)) λa=>ok λm S X G=>by let#[b,d,rfl]:=a;exact zmV (zU G b) (G.glo.V x i h d) (λB O H=>by erw[yd]) (zrG (zbu b))
   |_=>AD
  |_=>AD
 |e=>yf1 v e
def ygW(D:IK (AL×PV))(e:AT)(c:∀x,Pr (YE J R x cb)):Pr (YE J R e (.dix D cb)):=
 match e with
 |.Subscript (.Name x _) b _=>match h:J.g x with
  |some (.dct E)=>an (ask (glB R x=AC/\nsl b=AC)) λa=>an (eqD E D) λd=>an (c b) λf=>ok λm S X G=>by subst d;exact zqx (zU G a.1) (G.glo.D x E h) (f m S X G) (nos a.2) (zrG (zbu a.1))
  |_=>AD
 |_=>AD
def ygS(D:IK (AL×PV))(e:AT)(c:∀x,Pr (YE J R x ca)):Pr (YE J R e (.din ca D)):=
 match e with
 |.Compare a [.In] [.Name x _] _=>match h:J.g x with
  |some (.dct E)=>an (ask (glB R x=AC)) λb=>an (eqD E D) λd=>an (c a) λf=>ok λm S X G=>by subst d;exact zpl (zU G b) (G.glo.D x E h) (f m S X G) rfl (zrG (zbu b))
  |_=>AD
 |_=>AD
def zr4{pos env}:∀{es:IK AT},ybL es=AC->((backTo pos (starEach es env)).all λx=>!x.1)=AC
 |[],_=>rfl
 |a::es,h=>by erw[ybL,BE,AH]at h;have:=zr4 (pos:=pos) (env:=env) (es:=es) h.2;erw[backTo]at this ⊢;rw[zhD h.1,AO,BE,this];rfl
def zlS{o:AT}{n}{ap pos:CB}{es:IK AT}{env:BI}(b:nca o=AC)(c:ybL es=AC)(d:es.length<30)(g:(ap.endLine==pos.line)=AC):
  eval (.Call (.Attribute o n ap) es [] pos) env=(do
   let a <-eval o env
   standAt ap.atName
   let (f,first) <-holding [a] (getMethod a n (do return (<-importBound o env).getD AC))
   callWith pos f first (backTo pos (starEach es env)) (backToKw pos (keywordEach [] env))):=by
 have hf:methodCallForm (es.length+([]:IK Br).length) (backTo pos (starEach es env)) (backToKw pos (keywordEach [] env))=true:=by erw[methodCallForm,zr4 c,Cy];simp[backToKw,keywordEach,d]
 rw[arm_eval_Call,zrJ b];erw[methodCall,calleeOf,methodCallPos,hf,g,IV,Ha,IQ.or_true,pure_bind]
def yhx(c:IL)(f:AL)(e:AT)(d:∀x,Pr (YE J R x ca)):Pr (YE J R e (.fld c ca f)):=
 match e with
 |.Attribute a g _=>an (ask (g=f/\J.fl c f=AC/\nca a=AC)) λh=>an (d a) λj=>ok λm S X G=>by let#[rfl,b,l]:=h;exact zpL (G.glo.A c g b).1 (G.glo.A c g b).2 (j m S X G) (zrJ l)
 |_=>AD
def ygM(b:R.h=AB)(c i:IL)(F:Fs J R ces)(e:AT):Pr (YE J R e (.new c i ces)):=
 match e with
 |.Call (.Name x _) (a::d) [] _=>match h:J.g x with
  |some (.cls g j)=>an (ask (g=c/\j=i/\glB R x=AC/\nst a=AC/\ybL d=AC)) λn=>an (yaQ F (a::d)) λo=>ok λm S X G=>by let#[rfl,rfl,l,p,r]:=n;let#[q,f,fd,y,t,u,w]:=G.glo.N x g j h;exact zpD t u (G.rm b) (zU G l) q w (o m S X G) (zrG (zbu l)) (zhD p) (stars r)
  |_=>AD
 |_=>AD
def yhP(d:R.h=AB)(c i:IL)(n:AL)(F:Fs J R ces)(e:AT)(y:∀x,Pr (YE J R x ca)):Pr (YE J R e (.mcl c i n ca ces)):=
 match e with
 |.Call (.Attribute (.Name x p) g ap) [] [] b=>match F with
  |.nil=>an (ask (g=n/\J.me c n=AA i/\(ap.endLine==b.line)=AC)) λh=>an (y (.Name x p)) λj=>ok λm S X G=>by let#[rfl,l,o]:=h;let#[q,f,fd,B,r,t,u]:=G.glo.M c g i l;exact zng q r t ((G.rm d).mono (C4 m)) u (j m S X G) (zlS rfl rfl (IL.zero_lt_succ _) o)
  |_=>AD
 |.Call (.Attribute (.Name x p) g ap) (a::w) [] b=>an (ask (g=n/\J.me c n=AA i/\nst a=AC/\ybL w=AC/\(ap.endLine==b.line)=AC/\(a::w).length<30)) λh=>an (y (.Name x p)) λj=>an (yaQ F (a::w)) λC=>ok λm S X G=>by let#[rfl,l,z,A,o,D]:=h;let#[q,f,fd,B,r,t,u]:=G.glo.M c g i l;exact zpq q r t ((G.rm d).mono (C4 m)) u (j m S X G) (C m S X G) (zhD z) (stars A) (zlS rfl (by erw[ybL,BE,z,Cy];exact A) D o)
 |_=>AD
def zrW{pos env}{b:AT}(h:nst b=AC):((backTo pos (starEach [b] env)).all (λx=>!x.1)&&(backToKw pos (keywordEach [] env)).all (λx=>x.1.isSome)&&decide (([b]:IK AT).length+([]:IK Br).length+(if ([]:IK Br).isEmpty then 0 else 1)<30))=true:=by rw[zhD h];rfl
def ygC(k:Mth)(F:Fs J R ces)(e:AT)(q:∀x,Pr (YE J R x ca)):Pr (YE J R e (.mth k ca ces)):=
 match k,e,F with
 |.append,.Call (.Attribute a n ap) [b] [] d,.cons g .nil=>an (ask (n="append"/\nca a=AC/\nst b=AC/\(ap.endLine==d.line)=AC)) λh=>an (q a) λj=>an (g b) λl=>ok λm S X G=>by let#[rfl,o,f,p]:=h;exact ziw (j m S X G) (l m S X G) (zhD f) (zrJ o) p (zrW f)
 |.get,.Call (.Attribute a n ap) [b,c] [] d,.cons g (.cons t .nil)=>an (ask (n="get"/\nca a=AC/\nst b=AC/\nst c=AC/\(ap.endLine==d.line)=AC)) λh=>an (q a) λj=>an (g b) λl=>an (t c) λu=>ok λm S X G=>by let#[rfl,o,f,r,p]:=h;exact zqj (zml G.room) (j m S X G) (l m S X G) (u m S X G) #[zrJ o,by rw[zhD f,zhD r];rfl,p,by rw[zhD f,zhD r];rfl]
 |.count,.Call (.Attribute a n ap) [b] [] d,.cons g .nil=>an (ask (n="count"/\nca a=AC/\nst b=AC/\(ap.endLine==d.line)=AC)) λh=>an (q a) λj=>an (g b) λl=>ok λm S X G=>by let#[rfl,o,f,p]:=h;exact zlF (j m S X G) (l m S X G) (zhD f) (zrJ o) p rfl (zrW f)
 |.index,.Call (.Attribute a n ap) [b] [] d,.cons g .nil=>an (ask (n="index"/\nca a=AC/\nst b=AC/\(ap.endLine==d.line)=AC)) λh=>an (q a) λj=>an (g b) λl=>ok λm S X G=>by let#[rfl,o,f,p]:=h;exact zlf (j m S X G) (l m S X G) (zhD f) (zrJ o) p rfl (zrW f)
 |_,_,_=>AD
def ygT(e:AT)(c:∀x,Pr (YE J R x ca))(d:∀x,Pr (YE J R x cb)):Pr (YE J R e (.inn ca cb)):=
 match e with
 |.Compare a [.In] [b] _=>an (ask (behindInMarks .In b=AB)) λh=>an (c a) λf=>an (d b) λg=>ok λm S X G=>zpQ G.room.units (f m S X G) (g m S X G) h
 |_=>AD
def yfm(e:AT)(c:∀x,Pr (YE J R x ca))(d:∀x,Pr (YE J R x cb)):Pr (YT J R e (.inn ca cb)):=
 match e with
 |.Compare a [.In] [b] _=>an (ask (behindInMarks .In b=AB)) λh=>an (c a) λf=>an (d b) λg=>ok λm S X G=>zql G.room.units (f m S X G) (g m S X G) h
 |_=>AD
def yhb(e:AT)(c:∀x,Pr (YE J R x ca)):Pr (YE J R e (.thw (.blt .list (.cons ca .nil)))):=
 match e with
 |.Call (.Name x _) [a] [] _=>an (ask (x="list"/\glB R x=AC/\nst a=AC/\J.b x=AC)) λh=>an (c a) λd=>ok λm S X G=>by let#[rfl,f,b,g]:=h;exact zkC (zU G f) (G.glo.B _ g) zmO (zcD (d m S X G) zeI (zhD b)) (zhD b) rfl
 |_=>AD
def yep(e:AT)(c:∀x,Pr (YE J R x ca))(d:∀x,Pr (YE J R x cb)):Pr (YE J R e (.thw (.bin .add ca cb))):=
 match e with
 |.BinOp a .Add b _=>an (c a) λf=>an (d b) λg=>ok λm S X G=>zn6 (f m S X G) (g m S X G)
 |_=>AD
def mCn(t:Ty)(e:AT):Pr (∀m S X,Good J R m S X->PE X e (tC (ybV S.cl t))):=
 match t,e with
 |.cls d,.Name y _=>an (ask (J.xc d y=AC/\glB R y=AC)) λh=>ok λm S X G=>zpj (zU G h.2) (G.glo.L d y h.1) (zrG (zbu h.2))
 |.val,.Name y _=>an (ask (y="ValueError"/\J.b y=AC/\glB R y=AC)) λh=>ok λm S X G=>by let#[rfl,a,b]:=h;exact zpG (zU G b) (G.glo.B _ a)
 |_,_=>AD
def mNs:(ts:IK Ty)->(es:IK AT)->Pr (∀m S X,Good J R m S X->PA X es (tNs (ts.map (ybV S.cl))))
 |[],[]=>ok λ_ _ _ _=>zqD
 |t::ts,e::es=>an (ask (nst e=AC)) λh=>an (mCn t e) λa=>an (mNs ts es) λb=>ok λm S X G=>zog (a m S X G) (b m S X G) (zhD h)
 |_,_=>AD
def xkB(J:Gs)(a:IK IL)(ts:IK Ty):IQ:=a.all λc=>ts.all λt=>J.xk c t
def zmm{J}{m:IL}{S X}(G:Glo J m S X){a}{ts:IK Ty}(h:xkB J a ts=AC)(d:ts≠[]):∀c∈a,ybt X.K (S.cl c)/\∀t∈ts,ycC X.K S.cl c t:=λc b=>by
 erw[xkB,A3]at h;refine#[?_,λt f=>(G.I c t (h c b t f)).2]
 cases ts with
 |nil=>exact IU rfl d
 |cons t ts=>exact(G.I c t (h c b t Af)).1
def yhO(b:IK IL)(ts:IK Ty)(e:AT)(o:∀x,Pr (YE J R x ca)):Pr (YE J R e (.isx ca b ts)):=
 match e with
 |.Call (.Name x _) [a,.Tuple p _ _] [] _=>an (ask (x="isinstance"/\glB R x=AC/\J.b x=AC/\nst a=AC/\xkB J b ts=AC/\ts.length<=1000/\ts≠[])) λh=>an (o a) λd=>an (mNs (J:=J) (R:=R) ts p) λf=>ok λm S X G=>by let#[rfl,g,j,l,n,q,r]:=h;exact znY (zmm G.glo n r) q (zU G g) (G.glo.B _ j) (f m S X G) (d m S X G) (zhD l) rfl rfl
 |.Call (.Name x _) [a,.Name y u] [] _=>match ts with
  |[t]=>an (ask (x="isinstance"/\glB R x=AC/\J.b x=AC/\nst a=AC/\xkB J b [t]=AC)) λh=>an (o a) λd=>an (mCn (J:=J) (R:=R) t (.Name y u)) λf=>ok λm S X G=>by let#[rfl,g,j,l,n]:=h;exact zpK (λc w=>let z:=zmm G.glo n (by simp) c w;#[z.1,z.2 t Af]) (zU G g) (G.glo.B _ j) (f m S X G) (d m S X G) (zhD l) rfl rfl
  |_=>AD
 |_=>AD
def yhn(i:IL)(F:Fs J R ces)(e:AT):Pr (YE J R e (.qcl i ces)):=
 match e with
 |.Call (.Name x _) (a::c) [] _=>an (ask (glB R x=AC/\nst a=AC/\ybL c=AC/\J.qf i=AC)) λb=>an (gFn J x i) λd=>an (yaQ F (a::c)) λg=>ok λm S X G=>by let#[f,fd,p,j,l,n,o]:=G.glo.Z x i d b.2.2.2;exact zlI j (G.room.mono (C4 m)) (zU G b.1) l n o (g m S X G) (zrG (zbu b.1)) (zhD b.2.1) (stars b.2.2.1)
 |_=>AD
def mJ:(ces:Ces)->Fs J R ces->(es:IK AT)->Pr (∀m S X,Good J R m S X->PJ X es (tJ S X ces))
 |.nil,_,[]=>ok λ_ _ _ _=>zoH
 |.cons (.cst (.str y)) a,.cons _ r,.Constant (.str z) _ _::es=>an (ask (z=y)) λc=>an (mJ a r es) λb=>ok λm S X G=>by subst c;exact zjK zqQ (b m S X G)
 |.cons _ a,.cons f r,.FormattedValue e k AD _::es=>an (ask (k=-1)) λd=>an (f e) λh=>an (mJ a r es) λb=>ok λm S X G=>by subst d;exact zjK (zpi (h m S X G)) (b m S X G)
 |_,_,_=>AD
def yhu(F:Fs J R ces)(e:AT):Pr (YE J R e (.fst ces)):=
 match e with
 |.JoinedStr (b::c::a) _=>an (mJ ces F (b::c::a)) λh=>ok λm S X G=>zqt (h m S X G)
 |_=>AD
end
structure Ev(J:Gs)(c:Ce) where
 e:∀R x,Pr (YE J R x c)
 t:∀R x,Pr (YT J R x c)
 w:∀R op l pos,Pr (YW J R (.BoolOp op l pos) c)
section
variable {J:Gs}{ca cb cc:Ce}
def w1{c:Ce}(t:∀R x,Pr (YT J R x c))(R:Kx)(b:Hn)(l:IK AT)(pos:CB):Pr (YW J R (.BoolOp b l pos) c):=
 match b,l with
 |.And,[a]=>an (t R a) λh=>ok λm S X G=>zmE (h m S X G)
 |.Or,[a]=>an (t R a) λh=>ok λm S X G=>zqN (h m S X G)
 |_,_=>AD
def plT{c:Ce}(e:∀R x,Pr (YE J R x c))(R:Kx)(x:AT):Pr (YT J R x c):=an (ask (nte x=AC)) λh=>an (e R x) λa=>ok λm S X G=>zq0 (a m S X G) (itr h)
def plain{c:Ce}(e:∀R x,Pr (YE J R x c)):Ev J c:=#[e,plT e,w1 (plT e)]
def ycl{c:Ce}(e:∀R x,Pr (YE J R x c))(t:∀R x,Pr (YT J R x c)):Ev J c:=#[e,t,w1 t]
def yha(A:Ev J ca)(R:Kx)(e:AT):Pr (YT J R e (.not ca)):=
 match e with
 |.UnaryOp .Not a _=>an (A.t R a) λh=>ok λm S X G=>zpb (h m S X G)
 |_=>AD
def ygK(A:Ev J ca)(B:Ev J cb)(R:Kx)(e:AT):Pr (YE J R e (.and ca cb)):=
 match e with
 |.BoolOp .And (a::b::[]) _=>an (A.e R a) λd=>an (B.e R b) λf=>ok λm S X G=>zmg (d m S X G) (zma (f m S X G))
 |.BoolOp .And (a::b::c::r) p=>an (A.e R a) λd=>an (B.e R (.BoolOp .And (b::c::r) p)) λf=>ok λm S X G=>zmg (d m S X G) (f m S X G)
 |_=>AD
def orE(A:Ev J ca)(B:Ev J cb)(R:Kx)(e:AT):Pr (YE J R e (.or ca cb)):=
 match e with
 |.BoolOp .Or (a::b::[]) _=>an (A.e R a) λd=>an (B.e R b) λf=>ok λm S X G=>zpk (d m S X G) (zma (f m S X G))
 |.BoolOp .Or (a::b::c::r) p=>an (A.e R a) λd=>an (B.e R (.BoolOp .Or (b::c::r) p)) λf=>ok λm S X G=>zpk (d m S X G) (f m S X G)
 |_=>AD
def yev(A:Ev J ca)(B:Ev J cb)(R:Kx)(c:Hn)(l:IK AT)(pos:CB):Pr (YW J R (.BoolOp c l pos) (.and ca cb)):=
 match c,l with
 |.And,a::b::r=>an (A.t R a) λd=>an (B.w R .And (b::r) pos) λf=>ok λm S X G=>zqm (d m S X G) (f m S X G)
 |_,_=>AD
def orW(A:Ev J ca)(B:Ev J cb)(R:Kx)(c:Hn)(l:IK AT)(pos:CB):Pr (YW J R (.BoolOp c l pos) (.or ca cb)):=
 match c,l with
 |.Or,a::b::r=>an (A.t R a) λd=>an (B.w R .Or (b::r) pos) λf=>ok λm S X G=>zrC (d m S X G) (f m S X G)
 |_,_=>AD
def ptW{c:Ce}(w:∀R a l b,Pr (YW J R (.BoolOp a l b) c))(R:Kx)(e:AT):Pr (YT J R e c):=
 match e with
 |.BoolOp a l p=>an (w R a l p) λh=>ok λm S X G=>PW.pt (h m S X G)
 |_=>AD
def yfQ{c:Ce}(t:∀R x,Pr (YT J R x c))(w:∀R b l pos,Pr (YW J R (.BoolOp b l pos) c))(R:Kx)(b:Hn)(l:IK AT)(pos:CB):Pr (YW J R (.BoolOp b l pos) c):=
 match l with
 |[a]=>w1 t R b [a] pos
 |l=>w R b l pos
def yeI(A:Ev J ca)(B:Ev J cb):Ev J (.and ca cb):=#[ygK A B,ptW (yev A B),yfQ (ptW (yev A B)) (yev A B)]
def yf5(A:Ev J ca)(B:Ev J cb):Ev J (.or ca cb):=#[orE A B,ptW (orW A B),yfQ (ptW (orW A B)) (orW A B)]
end
abbrev YI(J:Gs)(R:Kx)(a l:AT)(c:Cit):Prop:=∀m S X,Good J R m S X->PI X a l (tI S X c)
abbrev YG(J:Gs)(R:Kx)(a:AT)(c:Tg):Prop:=∀m S X,Good J R m S X->PG X a (tG S X c)
section
variable {J:Gs}{R:Kx}{ca cb cc ce:Ce}{ci:Cit}
def yhA(e:∀x,Pr (YE J R x ca))(a l:AT):Pr (YI J R a l (.seq ca)):=an (e l) λh=>ok λm S X G=>zo2 (h m S X G)
def iR1(b:∀x,Pr (YE J R x ca))(c l:AT):Pr (YI J R c l (.range1 ca)):=
 match l with
 |.Call (.Name x _) [a] [] _=>an (ask (x="range"/\glB R x=AC/\J.b x=AC/\nst a=AC)) λh=>an (b a) λd=>ok λm S X G=>by let#[rfl,f,g,j]:=h;exact ziD (zU G f) (G.glo.B _ g) (d m S X G) (zhD j)
 |_=>AD
def yew(c:∀x,Pr (YE J R x ca))(b l:AT):Pr (YI J R b l (.enum ca)):=
 match b,l with
 |.Tuple _ _ _,.Call (.Name x _) [a] [] _=>an (ask (x="enumerate"/\glB R x=AC/\J.b x=AC/\nst a=AC)) λh=>an (c a) λd=>ok λm S X G=>by let#[rfl,f,g,j]:=h;exact znc (zU G f) (G.glo.B _ g) (d m S X G) (zhD j)
 |_,_=>AD
def yg4(f:∀x,Pr (YE J R x ca))(g:∀x,Pr (YE J R x cb))(c l:AT):Pr (YI J R c l (.zip ca cb)):=
 match c,l with
 |.Tuple _ _ _,.Call (.Name x _) [a,b] [] _=>an (ask (x="zip"/\glB R x=AC/\J.b x=AC/\nst a=AC/\nst b=AC)) λh=>an (f a) λj=>an (g b) λn=>ok λm S X G=>by let#[rfl,o,p,q,d]:=h;exact zpV (zU G o) (G.glo.B _ p) (j m S X G) (n m S X G) (by rw[zhD q,zhD d];rfl) (zhD d)
 |_,_=>AD
def gNm(R:Kx):(l:IK IL)->(es:IK AT)->Pr (∀m S X,Good J R m S X->PGs X es (gNs l)/\(assignEach es X.env).length=l.length/\(assignEach es X.env).findIdx? (·.1)=AD)
 |[],[]=>ok λ_ _ _ _=>#[zmS,rfl,rfl]
 |i::l,.Name x _::es=>an (ask (setB R i x=AC)) λh=>an (gNm R l es) λa=>ok λm S X G=>by
  have s:=zbA G h;let#[b,c,d]:=a m S X G;refine#[zk4 s.d s.i s.l b s.f,?_,?_]
  .simp only[assignEach,A7,c]
  .simp only[assignEach,IK.findIdx?_cons,d];rfl
 |_,_=>AD
def mTg(ct:Tg)(b:AT):Pr (YG J R b ct):=
 match ct,b with
 |.n i,.Name x _=>an (ask (setB R i x=AC)) λh=>ok λm S X G=>let s:=zbA G h;zn0 s.d s.i s.l s.f
 |.t l,.Tuple c _ _=>hf R λa=>an (gNm R l c) λh=>ok λm S X G=>zp0 (G.calm a) (h m S X G).1 (h m S X G).2.1 (h m S X G).2.2
 |_,_=>AD
def tgN:AT->IK AL
 |.Name x _=>[x]
 |.Tuple a _ _=>a.filterMap fun
  |.Name x _=>AA x
  |_=>AD
 |_=>[]
def ydB(N:IK AL)(sl:IK (Option IL))(a:AT):IK Str:=tgN a++(sl.drop (tgN a).length).filterMap λo=>o.bind λj=>N[j]?
def yci(sc a:BZ):Scope:={sc with names:=sc.names.map λ(n,k)=>if (k==Cc&&a.kind==.function&&a.names.lookup n==AA .cell)then(n,Fv)else(n,k)}
def yac(N:IK AL)(b sc:BZ)(a:IK AL)(sl:IK (Option IL)):IQ:=
 decide (sc.kind=.function)&&(sc.names.all λy=>y.2 != .local || decide (sc.names.lookup y.1=AA .local))&&(sc.names.all λy=>y.2 != .cell)&&(sc.names.all λy=>y.2 != .free || decide (b.names.lookup y.1=AA .cell)) &&
  ((a.zip sl).all λp=>p.2.all λj=>decide (N[j]?=AA p.1/\sc.names.lookup p.1=AA .free))&&decide (sl.length=a.length)
def zlv{X:Cx}{sc b}{sl:IK (Option IL)}(h:yac X.N X.env.scope sc b sl=AC):yai X sc b sl:=by erw[yac,AH,IN,A3,Bz,bne_iff_ne,ne_eq]at h;let#[#[#[#[#[c,d],f],g],j],l]:=h;exact zsm _ _ rfl rfl c (λy a e=>(d y a).resolve_left λz=>z e) f (λy a e=>(g y a).resolve_left λz=>z e) (λp m=>by simpa using j p m) l
theorem Good.comp{m:IL}{S:Se}{X:Cx}(G:Good J R m S X)(sc:BZ)(b:IK AL)(j:CI):Good J #[b,yci sc R.sc,AB,R.h] m S (cxC X sc b j):=by refine#[rfl,?_,G.calm,G.room,G.hd,(λh=>nomatch h),(λh=>nomatch h),#[G.glo.F,G.glo.Q,G.glo.C,G.glo.D,G.glo.E,G.glo.N,G.glo.B,G.glo.T,G.glo.A,G.glo.M,λy D h=>let #[c,a,f,M,d]:=G.glo.K y D h;#[c,a,f,#[M.F,M.kp,M.b],d],G.glo.V,G.glo.I,G.glo.L,G.glo.H,G.glo.Z]];show relabel sc X.env=_;rw[<-G.sc];rfl
def ygf(c:Ce)(f:∀x,Pr (YT J R x c))(b:IK AT):Pr (∀m S X,Good J R m S X->PTs X b (tT0 S X.K c)):=
 match b with
 |[]=>match c with
  |.cst (.bl AC)=>ok λ_ _ _ _=>zll
  |_=>AD
 |[a]=>an (f a) λh=>ok λm S X G=>zm8 rfl (h m S X G)
 |_=>AD
structure ycR(J:Gs)(R:Kx)(sl:IK (Option IL))(ct:Tg)(ci:Cit)(cc ce:Ce)(elt tg it:AT)(ifs:IK AT)(sc:BZ):Prop where
 q:∀m S X,Good J R m S X->∃NC,yai X sc NC sl/\PI X tg it (tI S X ci)/\(∀j,PG (cxC X sc NC j) tg (tG0 S X.K ct))/\(∀j,PTs (cxC X sc NC j) ifs (tT0 S X.K cc))/\∀j,PE (cxC X sc NC j) elt (tE0 S X.K ce)
 f:yaf ct sl=AC
 s:nse it=AC
def mCo(sl:IK (Option IL))(ct:Tg)(f:∀a l,Pr (YI J R a l ci))(C:Ev J cc)(E:Ev J ce)(b a d:AT)(c:IK AT)(sc:BZ):Pr (ycR J R sl ct ci cc ce b a d c sc):=
 an (ask (yac R.N R.sc sc (ydB R.N sl a) sl=AC/\yaf ct sl=AC/\nse d=AC)) λh=>an (f a d) λg=>an (mTg (J:=J) (R:=#[ydB R.N sl a,yci sc R.sc,AB,R.h]) ct a) λn=>
  an (ygf (J:=J) (R:=#[ydB R.N sl a,yci sc R.sc,AB,R.h]) cc (C.t _) c) λo=>an (E.e #[ydB R.N sl a,yci sc R.sc,AB,R.h] b) λp=>ok #[λm S X G=>#[ydB R.N sl a,by rw[<-G.n,<-G.sc]at h;rw[<-G.n];exact zlv h.1,g m S X G,λj=>zm0 rfl (n m S _ (G.comp sc _ j)),λj=>o m S _ (G.comp sc _ j),λj=>zoe rfl (p m S _ (G.comp sc _ j))],h.2.1,h.2.2]
def yeA(sl:IK (Option IL))(ct:Tg)(f:∀a l,Pr (YI J R a l ci))(C:Ev J cc)(E:Ev J ce)(e:AT):Pr (YE J R e (.comp sl ct ci cc ce)):=
 match e with
 |.ListComp b [#[a,g,c,0]] j _=>hf R λd=>an (mCo sl ct f C E b a g c j) λh=>ok λm S X G=>by let#[t,n,o,p,q,r]:=h.q m S X G;exact znZ (G.calm d) n h.f o p q r (fse h.s)
 |_=>AD
end
section
variable {J:Gs}{R:Kx}
end
mutual
noncomputable def ch(J:Gs):(c:Ce)->Ev J c
 |.cst v=>plain λR x=>yhj v x
 |.var i=>plain λR x=>yf3 i x
 |.bin o a b=>plain λR x=>yf8 o x ((ch J a).e R) ((ch J b).e R)
 |.neg a=>plain λR x=>yhy x ((ch J a).e R)
 |.not a=>ycl (λR x=>ygl x ((ch J a).e R)) (yha (ch J a))
 |.and a b=>yeI (ch J a) (ch J b)
 |.or a b=>yf5 (ch J a) (ch J b)
 |.cmp o a b=>ycl (λR x=>yg0 o x ((ch J a).e R) ((ch J b).e R)) (λR x=>yeE o x ((ch J a).e R) ((ch J b).e R))
 |.chain o p a b c=>ycl (λR x=>yg8 o p x ((ch J a).e R) ((ch J b).e R) ((ch J c).e R)) (λR x=>yff o p x ((ch J a).e R) ((ch J b).e R) ((ch J c).e R))
 |.ite c a b=>plain λR x=>yhF x ((ch J c).t R) ((ch J a).e R) ((ch J b).e R)
 |.tup d=>plain λR x=>yhq x (yaQ (chs J d R))
 |.lst d=>plain λR x=>ygq x (yaQ (chs J d R))
 |.newl d=>plain λR x=>yeu x (yaQ (chs J d R))
 |.dict0 t=>plain λR x=>yfo t x
 |.idx a i=>plain λR x=>mIdx x ((ch J a).e R) ((ch J i).e R)
 |.slc a l h=>plain λR x=>ygj x ((ch J a).e R) (λo=>yfW l o ((ch J l).e R)) (λo=>yfW h o ((ch J h).e R))
 |.call f d=>plain λR x=>hf R λh=>yhh h f (chs J d R) x
 |.fst d=>plain λR x=>yhu (chs J d R) x
 |.qcl i d=>plain λR x=>yhn i (chs J d R) x
 |.isx a j g=>plain λR x=>yhO j g x ((ch J a).e R)
 |.inn a b=>ycl (λR x=>ygT x ((ch J a).e R) ((ch J b).e R)) (λR x=>yfm x ((ch J a).e R) ((ch J b).e R))
 |.thw (.bin .add a b)=>plain λR x=>yep x ((ch J a).e R) ((ch J b).e R)
 |.thw (.blt .list (.cons a .nil))=>plain λR x=>yhb x ((ch J a).e R)
 |.blt b d=>plain λR x=>ygU b (chs J d R) x
 |.mth k o d=>plain λR x=>ygC k (chs J d R) x ((ch J o).e R)
 |.isi a g=>plain λR x=>yhJ g x ((ch J a).e R)
 |.comp q r u c e=>plain λR x=>yeA q r (chi J u R) (ch J c) (ch J e) x
 |.frz a=>plain λR x=>an ((ch J a).e R x) λh=>ok λm S X G=>zo3 (h m S X G)
 |.nope=>plain λR x=>ok λ_ _ _ _=>znH
 |.dix D a=>plain λR x=>ygW D x ((ch J a).e R)
 |.din a D=>plain λR x=>ygS D x ((ch J a).e R)
 |.fld c a f=>plain λR x=>yhx c f x ((ch J a).e R)
 |.new c i d=>plain λR x=>hf R λh=>ygM h c i (chs J d R) x
 |.mcl c i n o d=>plain λR x=>hf R λh=>yhP h c i n (chs J d R) x ((ch J o).e R)
 |_=>plain λ_ _=>AD
noncomputable def chs(J:Gs):(a:Ces)->(R:Kx)->Fs J R a
 |.nil,_=>.nil
 |.cons c a,R=>.cons (λx=>(ch J c).e R x) (chs J a R)
noncomputable def chi(J:Gs):(c:Cit)->(R:Kx)->∀d l,Pr (YI J R d l c)
 |.seq a,R=>yhA ((ch J a).e R)
 |.range1 a,R=>iR1 ((ch J a).e R)
 |.enum a,R=>yew ((ch J a).e R)
 |.zip a b,R=>yg4 ((ch J a).e R) ((ch J b).e R)
 |_,_=>λ_ _=>AD
end
section
variable {J:Gs}{R:Kx}{ca cb cc ce:Ce}{ci:Cit}{ct:Tg}{cs cs':Css}{ces:Ces}
def swB(a:BZ)(x:AL)(b pos:CB)(sc:BZ):IQ:=(if a.kind.isAnnotationScope then EM else a.kind)==.function&&a.names.lookup x==AA .local&&b.line==pos.line&&!(sc.names.any λ(n,k)=>n==x&&(k==.local || k==.cell))
def zsu{a gs sc pos b x}{l:IL}{env:BI}:swapsWith (.ListComp a gs sc pos) (AA (.Name x b)) l env=pure (swB env.scope x b pos sc):=rfl
def yfj(f:∀x,Pr (YE J R x ca))(s:Bj):Pr (YS J R s (.expr ca)):=
 match s with
 |.Expr a _=>an (ask (nco a=AC)) λb=>an (f a) λh=>ok λm S X G=>znK (h m S X G) (swp b)
 |_=>AD
def yfS(i:IL)(f:∀x,Pr (YE J R x ca))(s:Bj):Pr (YS J R s (.asg (.n i) ca)):=
 match s with
 |.Assign [.Name x _] a _=>an (ask (nco a=AC/\setB R i x=AC)) λb=>an (f a) λh=>ok λm S X G=>let q:=zbA G b.2;zq1 q.d q.i q.l (h m S X G) (swp b.1) q.f
 |_=>AD
def ydm(i:IL)(sl:IK (Option IL))(ct:Tg)(j:∀a l,Pr (YI J R a l ci))(C:Ev J cc)(E:Ev J ce)(s:Bj):Pr (YS J R s (.asg (.n i) (.thw (.comp sl ct ci cc ce)))):=
 match s with
 |.Assign [.Name x o] (.ListComp b [#[a,r,c,0]] f p) _=>hf R λd=>an (ask (setB R i x=AC/\swB R.sc x o p f=AC)) λg=>an (mCo sl ct j C E b a r c f) λh=>ok λm S X G=>by let#[A,t,u,w,y,z]:=h.q m S X G;have q:=zbA G g.1;exact zlr q.d q.i q.l (G.calm d) t h.f u w y z (by rw[zsu,G.sc,g.2]) (fse h.s) q.f
 |_=>AD
def zr5{a:AT}(h:nst a=AC):(match (generalizing:=false) a with | .Starred _ _=>AC|_=>AB)=false:=by revert h;cases a<;>intro h<;>first|rfl|cases h
def swD(c:BZ)(x y:AL)(d f:CB)(a b:AT):IQ:=(if c.kind.isAnnotationScope then EM else c.kind)==.function&&c.names.lookup x==AA .local&&c.names.lookup y==AA .local&&f.line==d.line&&nst a&&nst b&&!(x==y)&&!(foldedForSure 8 a&&foldedForSure 8 b)&&!(constantsAlone 8 a&&constantsAlone 8 b)
def zsv{x y c d pt f}{n k2:IL}{a b:AT}{env:BI}(h:swD env.scope x y c d a b=AC):
  swappedStores [.Tuple [.Name x c,.Name y d] n pt] (.Tuple [a,b] k2 f) env=pure (AA [x,y]):=by
 erw[swD,AH,CP]at h;let#[#[#[#[#[#[#[#[o,p],q],r],t],u],w],g],j]:=h;have A:(env.blockKind != .function)=false:=by show (!((if env.scope.kind.isAnnotationScope then EM else env.scope.kind)==.function))=AB;rw[o];rfl
 have k2:env.kindOf x=AA .local:=eq_of_beq p;have B:env.kindOf y=AA .local:=eq_of_beq q;have C:d.line=c.line:=eq_of_beq r;have D:¬y=x:=λz=>by subst z;simp at w
 have l:=zr5 t;have m:=zr5 u;have E:¬(foldedForSure 8 a=AC/\foldedForSure 8 b=AC):=λz=>by rw[z.1,z.2]at g;cases g
 have c9:¬(constantsAlone 8 a=AC/\constantsAlone 8 b=AC):=λz=>by rw[z.1,z.2]at j;cases j
 have G:(Expr.Name x c).pos=c:=rfl;have H:(Expr.Name y d).pos=d:=rfl;unfold swappedStores;simp[A,l,m,k2,B,C,IK.eraseDups_cons,D,G,H,E,c9,CY];intro z;exfalso;rcases z with z|z
 .exact AN (l.symm.trans z)
 .exact AN (m.symm.trans z)
def yhw(i j:IL)(l:∀x,Pr (YE J R x ca))(n:∀x,Pr (YE J R x cb))(s:Bj):Pr (YS J R s (.asg (.t [i,j]) (.tup (.cons ca (.cons cb .nil))))):=
 match s with
 |.Assign [.Tuple [.Name x o,.Name y p] _ _] (.Tuple [a,b] _ _) _=>hf R λc=>an (ask (setB R i x=AC/\setB R j y=AC/\i≠j/\swD R.sc x y o p a b=AC)) λh=>an (l a) λu=>an (n b) λw=>ok λm S X G=>by
  let#[z,A,f,g]:=h;have q:=zbA G z;have r:=zbA G A;have d:=g;erw[swD,AH]at d;have B:X.env.scope.names.lookup x=AA .local:=by rw[G.sc];exact eq_of_beq d.1.1.1.1.1.1.1.2
  have C:X.env.scope.names.lookup y=AA .local:=by rw[G.sc];exact eq_of_beq d.1.1.1.1.1.1.2
  exact zqu (G.calm c) q.d q.i r.i f (zpc (G.calm c) q.d q.i r.i f B C (zcD (u m S X G) (zcD (w m S X G) zeI (zhD d.1.1.1.2)) (zhD d.1.1.1.1.2)) (zsv (by rw[G.sc];exact g)))
 |_=>AD
theorem sw0{es}{k:IL}{p}{a:AT}{env:BI}(h:ntu a=AC):swappedStores [.Tuple es k p] a env=pure none:=by cases a<;>first|rfl|cases h
theorem sw1{b c p a}{env:BI}:swappedStores [.Subscript b c p] a env=pure none:=by cases a<;>rfl
def zr6{t a:AT}{l:IL}{env:BI}(h:nco a=AC):swapsWithSole [t] a l env=pure false:=by show swapsWith a (AA t) l env=_;exact swp h
theorem asS{b c:AT}{pos env}(h:nsl c=AC):∀v,assign (.Subscript b c pos) env v=(do
   let a <-holding [v] (eval b env)
   let d <-holding [v,a] (eval c env)
   standAt pos
   holding [v,a,d] (setItem a d v)
   release [v,a,d] []):=by cases c<;>first|exact λ_=>rfl|cases h
def yf7(l:IK IL)(f:∀x,Pr (YE J R x ca))(s:Bj):Pr (YS J R s (.asg (.t l) ca)):=
 match s with
 |.Assign [.Tuple c k p] a _=>an (ask (nco a=AC/\ntu a=AC)) λb=>an (mTg (J:=J) (R:=R) (.t l) (.Tuple c k p)) λd=>an (f a) λh=>ok λm S X G=>zoi (h m S X G) (d m S X G) (zr6 b.1) (sw0 b.2)
 |_=>AD
def yg1(f:∀x,Pr (YE J R x cc))(l:∀x,Pr (YE J R x ca))(n:∀x,Pr (YE J R x cb))(s:Bj):Pr (YS J R s (.six ca cb cc)):=
 match s with
 |.Assign [.Subscript b c _] a _=>an (ask (nco a=AC/\nsl c=AC)) λd=>an (f a) λh=>an (l b) λg=>an (n c) λj=>ok λm S X G=>zpZ (h m S X G) (g m S X G) (j m S X G) (zr6 d.1) sw1 (zmd (g m S X G) (j m S X G) zg8 (asS d.2))
 |_=>AD
def yfk(f:∀x,Pr (YE J R x cc))(d:∀x,Pr (YE J R x ca))(g:∀x,Pr (YE J R x cb))(s:Bj):Pr (YS J R s (.dput ca cb cc)):=
 match s with
 |.Assign [.Subscript b c _] a _=>an (ask (nco a=AC)) λj=>an (f a) λh=>an (d b) λl=>an (g c) λn=>ok λm S X G=>zoj (zml G.room) (l m S X G) (n m S X G) (h m S X G) (swp j)
 |_=>AD
def yhG(a:D5)(o:BOp):Pr (∀S X,PIp X a (rT2 S X (ybE o))):=
 match a,o with
 |.Add,.add=>ok λ_ _=>zn5
 |_,_=>AD
def yhr(i:IL)(o:BOp)(f:∀x,Pr (YE J R x ca))(s:Bj):Pr (YS J R s (.aug i o ca)):=
 match s with
 |.AugAssign (.Name x _) b a _=>an (ask (setB R i x=AC)) λh=>an (yhG b o) λc=>an (f a) λd=>ok λm S X G=>let q:=zbA G h;zp8 q.d q.i q.l (d m S X G) (c S X) q.f (zrG q.p) (zrP q.p)
 |_=>AD
def yhi(c:Ce)(f:∀x,Pr (YE J R x c))(s:Bj):Pr (YS J R s (.ret c)):=
 match s with
 |.Return (AA a) _=>an (f a) λh=>ok λm S X G=>zp7 (h m S X G)
 |.Return AD _=>match c with
  |.cst .non=>ok λ_ _ _ _=>zn2
  |_=>AD
 |_=>AD
def sIf(d:∀x,Pr (YT J R x cc))(f:∀x,Pr (YSs J R x cs))(g:∀x,Pr (YSs J R x cs'))(s:Bj):Pr (YS J R s (.ite cc cs cs')):=
 match s with
 |.If c a b _=>an (d c) λj=>an (f a) λl=>an (g b) λn=>ok λm S X G=>zrk (j m S X G) (l m S X G) (n m S X G)
 |_=>AD
def ygr(ct:Tg)(f:∀a l,Pr (YI J R a l ci))(g:∀x,Pr (YSs J R x cs))(s:Bj):Pr (YS J R s (.for ct ci cs)):=
 match s with
 |.For a l b [] _=>hf R λc=>an (ask (R.own=AC/\nse l=AC)) λd=>an (f a l) λj=>an (mTg (J:=J) (R:=R) ct a) λn=>an (g b) λo=>ok λm S X G=>zqF (G.own d.1).1 (G.calm c) (j m S X G) (n m S X G) (o m S X G) (fse d.2)
 |_=>AD
def sWh(a:∀x,Pr (YT J R x cc))(d:∀x,Pr (YSs J R x cs))(s:Bj):Pr (YS J R s (.while cc cs)):=
 match s with
 |.While c b [] _=>an (ask (R.own=AC)) λf=>an (a c) λg=>an (d b) λj=>ok λm S X G=>zk6 (G.own f).1 (g m S X G) (j m S X G)
 |_=>AD
def ygb(k:IL)(f:∀x,Pr (YE J R x ca))(s:Bj):Pr (YS J R s (.raise k ca)):=
 match s with
 |.Raise (AA (.Call (.Name x _) [a] [] _)) AD _=>hf R λb=>match g:J.g x with
  |some (.exc c)=>an (ask (c=k/\R.own=AC/\glB R x=AC/\nst a=AC)) λh=>an (f a) λj=>ok λm S X G=>by let#[rfl,l,d,n]:=h;exact zkm (G.glo.E x c g) (G.own l).2.2 (G.calm b) (zU G d) (j m S X G) (zhD n) rfl (zrG (zbu d))
  |_=>AD
 |_=>AD
def yga(c:IL)(f:AL)(j:∀x,Pr (YE J R x ca))(l:∀x,Pr (YE J R x cb))(s:Bj):Pr (YS J R s (.sfl c ca f cb)):=
 match s with
 |.Assign [.Attribute a g _] b _=>an (ask (g=f/\J.fl c f=AC/\nco b=AC)) λh=>an (j a) λn=>an (l b) λo=>ok λm S X G=>by let#[rfl,d,p]:=h;exact zqW (G.glo.A c g d).1 (G.glo.A c g d).2 (n m S X G) (o m S X G) (swp p)
 |_=>AD
def yfq(i:IL)(q:Ce)(o:BOp)(v e d:Ce)(b:∀x,Pr (YE J R x e))(fw:∀x,Pr (YE J R x (.ite q (.bin o v e) d)))(s:Bj):Pr (YS J R s (.asg (.n i) (.ite q (.bin o v e) d))):=
 match s with
 |.AugAssign (.Name x f) .Add a p=>match q,o,v,d with
  |.isi (.var j) [.tuple],.add,.var k,.nope=>an (ask (j=i/\k=i/\setB R i x=AC)) λh=>an (b a) λc=>ok λm S X G=>by let#[rfl,rfl,h]:=h;have q:=zbA G h;exact zoo q.d q.i q.l (c m S X G) q.f (zrG q.p) (zrP q.p)
  |_,_,_,_=>AD
 |s=>yfS i fw s
def ygy(c i:IL)(f:AL)(j:IM)(l:∀x,Pr (YE J R x (.var i)))(n:∀x,Pr (YE J R x (.cst (.int j))))(s:Bj):Pr (YS J R s (.sfl c (.var i) f (.bin .add (.fld c (.var i) f) (.cst (.int j))))):=
 match s with
 |.AugAssign (.Attribute a g _) .Add b _=>an (ask (g=f/\J.fl c f=AC)) λh=>an (l a) λo=>an (n b) λp=>ok λm S X G=>by let#[rfl,d]:=h;exact zoK (G.glo.A c g d).1 (G.glo.A c g d).2 (o m S X G) (p m S X G)
 |_=>AD
def yge(c:IL)(o:Ce)(f:AL)(e:Ce)(O:Ev J o)(E:Ev J e)(s:Bj):Pr (YS J R s (.sfl c o f e)):=
 match s with
 |.AugAssign t a b p=>match o,e with
  | .var i,.bin .add (.fld d (.var g) l) (.cst (.int j))=>an (ask (d=c/\g=i/\l=f)) λh=>an (ygy (J:=J) (R:=R) c i f j (λx=>yf3 i x) (λx=>yf1 (.int j) x) (.AugAssign t a b p)) λq=>ok (by let#[rfl,rfl,rfl]:=h;exact q)
  |_,_=>AD
 |s=>yga c f (O.e R) (E.e R) s
def yhE(a:R.h=AB)(b:IL)(D:IK (AL×IL)){cn:Ce}{ces:Ces}(fn:∀x,Pr (YE J R x cn))(F:Fs J R ces)(c:IK Bj):Pr (YSs J R c (.cons (.mkr b D cn ces) .nil)):=
 match c with
 |[.Assign [.Name x _] (.Subscript (.Name y _) n _) _,.Return (AA (.Call (.Name j _) (e::f) [] _)) _]=>match l:J.mr y with
  |some E=>an (ask (E=D/\j=x/\setB R b x=AC/\yea R.sc x=AC/\glB R y=AC/\nsl n=AC/\nst e=AC/\ybL f=AC)) λh=>an (fn n) λo=>an (yaQ F (e::f)) λp=>ok λm S X G=>by let#[rfl,rfl,r,t,g,u,w,z]:=h;have q:=zbA G r;let#[B,A,C,M,d]:=G.glo.K y E l;exact zq4 M ((G.rm a).mono (C4 m)) q.d q.i q.l (by rw[G.sc];exact zi8 t) (zU G g) d (o m S X G) (p m S X G) (nos u) (swp rfl) q.f (zrG (zbu g)) (zrG q.p) (zrP q.p) (zhD w) (stars z)
  |none=>AD
 |_=>AD
theorem Good.tb{m:IL}{S:Se}{X:Cx}(G:Good J R m S X)(a:R.h=AB)(pn:IK (AJ×Bi))(P:St->AG->Hp->Prop):Good J #[R.N,R.sc,AB,AB] m S.quiet (ydq X pn P):=
 #[G.n,G.sc,λ_=>G.calm a,G.room,λ_=>G.hd a,(λh=>nomatch h),(λh=>nomatch h),#[G.glo.F,G.glo.Q,G.glo.C,G.glo.D,G.glo.E,G.glo.N,G.glo.B,G.glo.T,G.glo.A,G.glo.M,λy D h=>let #[c,b,f,M,d]:=G.glo.K y D h;#[c,b,f,#[M.F,M.kp,M.b],d],G.glo.V,G.glo.I,G.glo.L,G.glo.H,G.glo.Z]]
theorem Good.th{m:IL}{S:Se}{X:Cx}(G:Good J R m S X)(pn:IK (AJ×Bi))(a:AJ):Good J #[R.N,R.sc,AB,AC] m S.quiet (cxS X pn a):=
 #[G.n,G.sc,(λh=>nomatch h),G.room.mark,(λh=>nomatch h),(λh=>nomatch h),(λh=>nomatch h),#[G.glo.F,G.glo.Q,G.glo.C,G.glo.D,G.glo.E,G.glo.N,G.glo.B,G.glo.T,G.glo.A,G.glo.M,λy D h=>let #[c,b,f,M,d]:=G.glo.K y D h;#[c,b,f,#[M.F,M.kp,M.b],d],G.glo.V,G.glo.I,G.glo.L,G.glo.H,G.glo.Z]]
def yhK(cs:IK IL)(i:IL){cb ch:Css}(p:∀s,Pr (YSs J #[R.N,R.sc,AB,AB] s cb))(r:∀s,Pr (YSs J #[R.N,R.sc,AB,AC] s ch))(s:Bj):Pr (YS J R s (.try cb cs i ch)):=
 match s with
 |.Try b [.ExceptHandler (AA (.Name x _)) (AA n) (d::suite) _] [] [] _=>hf R λf=>an (ask (R.own=AC/\R.N.Nodup/\R.N[i]?=AA n/\R.sc.names.lookup n=AA .local/\glB R x=AC/\(cs.all λc=>J.xm c x)=AC/\cs≠[])) λh=>an (p b) λt=>an (r (d::suite)) λu=>ok λm S X G=>by
  let#[g,w,y,z,l,j,A]:=h;erw[A3]at j;obtain⟨W,o⟩:∃W,X.mg x=AA (.ref W):=by
   cases cs with
   |nil=>exact IU rfl A
   |cons c cs=>let#[W,q,_]:=G.glo.H c x (j c Af);exact#[W,q]
  refine zo1 (G.top g).1 (G.top g).2.1 (G.top g).2.2 (by rw[G.n];exact w) (by rw[G.n];exact y) (by rw[G.sc];exact z) (zU G l) o (λc B=>?_) (λpn P=>t m _ _ (G.tb f pn P)) (λpn a=>u m _ _ (G.th pn a)) (zrG (zbu l));let#[C,q,e]:=G.glo.H c x (j c B);rw[o]at q
  cases q
  exact e
 |_=>AD
end
mutual
noncomputable def chS(J:Gs):(c:Cs)->(R:Kx)->∀s,Pr (YS J R s c)
 |.expr e,R=>yfj ((ch J e).e R)
 |.asg (.n i) (.thw (.comp g m p r ce)),R=>ydm i g m (chi J p R) (ch J r) (ch J ce)
 |.asg (.n i) (.ite q (.bin o v e) d),R=>yfq i q o v e d ((ch J e).e R) ((ch J (.ite q (.bin o v e) d)).e R)
 |.asg (.n i) c,R=>yfS i ((ch J c).e R)
 |.asg (.t [i,j]) (.tup (.cons a (.cons b .nil))),R=>yhw i j ((ch J a).e R) ((ch J b).e R)
 |.asg (.t l) c,R=>yf7 l ((ch J c).e R)
 |.six o i e,R=>yg1 ((ch J e).e R) ((ch J o).e R) ((ch J i).e R)
 |.dput o i e,R=>yfk ((ch J e).e R) ((ch J o).e R) ((ch J i).e R)
 |.aug i o e,R=>yhr i o ((ch J e).e R)
 |.ret e,R=>yhi e ((ch J e).e R)
 |.ite c a b,R=>sIf ((ch J c).t R) (ycd J a R) (ycd J b R)
 |.for t u b,R=>ygr t (chi J u R) (ycd J b R)
 |.while c b,R=>sWh ((ch J c).t R) (ycd J b R)
 |.nope,_=>λ_=>ok λ_ _ _ _=>znp
 |.try b w i h,R=>yhK w i (ycd J b #[R.N,R.sc,AB,AB]) (ycd J h #[R.N,R.sc,AB,AC])
 |.raise k e,R=>ygb k ((ch J e).e R)
 |.sfl c o f e,R=>yge c o f e (ch J o) (ch J e)
 |_,_=>λ_=>AD
noncomputable def ycd(J:Gs):(c:Css)->(R:Kx)->∀s,Pr (YSs J R s c)
 |.nil,_,[]=>ok λ_ _ _ _=>zqT
 |.cons (.mkr d D f a) .nil,R,b=>hf R λh=>yhE h d D ((ch J f).e R) (chs J a R) b
 |.cons c g,R,s::b=>an (chS J c R s) λh=>an (ycd J g R b) λj=>ok λm S X G=>zmy (h m S X G) (j m S X G)
 |_,_,_=>AD
end
inductive Dk where
 |fn|fd (ds:IK IM)|me (c:IL)|ini (c:IL)
structure Df where
 gn:AL
 nm:AL
 q:AL
 st:Bj
 N:IK AL
 ps:IK AL
 fn:IC.Fn
 k:Dk
def scB(N P:IK AL)(sc:BZ):IQ:=decide (sc.kind=.function)&&!sc.isCoroutine&&!sc.isGenerator&&decide N.Nodup&&decide (N.take P.length=P)&&P.all (yel sc)&&sc.names.all λy=>y.2 != .free
def zlW{N P}{sc:BZ}(h:scB N P sc=AC):yaF N P sc:=by erw[scB,AH,IN,CP,A3,bne_iff_ne,ne_eq]at h;let#[#[#[#[#[#[a,b],c],d],f],g],j]:=h;exact#[a,b,c,d,f,λx l=>zjB (g x l),j]
def okD(J:Gs)(d:Df):IQ:=scB d.N d.ps (yh d.st)&&decide (d.ps.length=d.fn.np)&&decide (d.N.length=d.fn.ns)&&(ycd J d.fn.body #[d.N,yh d.st,AC,AB] (yN d.st)).isSome
def ybU{A:Type}(P:A->Prop):IK A->Prop
 |[]=>Iq
 |d::r=>P d/\ybU P r
theorem ybU.get{A:Type}{P:A->Prop}:∀{l:IK A},ybU P l->∀d∈l,P d
 |_::_,h,d,hd=>by
  rcases AS.1 hd with rfl|hd
  .exact h.1
  .exact h.2.get d hd
def ybv:IK AL->(IK AG->Prop)->Prop
 |[],P=>P []
 |_::r,P=>∀a,ybv r λb=>P (a::b)
theorem ybv.get:∀{c:IK AL} {P:IK AG->Prop},ybv c P->∀b,b.length=c.length->P b
 |[],P,h,[],_=>h
 |_::r,P,h,a::b,e=>(h a).get b (by simpa using e)
def yaW(d:Df):Prop:=∀(kV doc c:AG) (an:Option AJ) (a f:AG),ybv d.ps λb=>bindArgs (B0 d.nm d.q (yad d.st) (yN d.st) (yh d.st) .none kV doc c an a f) #[b,[]]=pure (d.ps.zip b)
structure yca(K:AF)(d:Df)(dv:AG)(f:AJ)(fd:Aw):Prop where
 ex:∃(oc:AG) (od:Option AJ) (kV doc pm:AG) (an:Option AJ) (cdv ct:AG) (osl:Ie (Option AG)),
  fd=B0 d.nm d.q (yad d.st) (yN d.st) (yh d.st) dv kV doc pm an cdv ct/\K.lookup f=AA #[oc,od,.func fd,osl]/\CF K cdv d.q=AC
 kp:Al K (.ref f)=AC
def At(K:AF)(cn:IL->AL)(d:Df)(f:AJ):Prop:=
 match d.k with
 |.fn=>BC K mainGlobals d.gn=AA (AA (.ref f))/\yaW d
 |.fd _=>BC K mainGlobals d.gn=AA (AA (.ref f))
 |.me c=>yaW d/\∃q,BC K mainGlobals (cn c)=AA (AA (.ref q))/\Ah K (.ref q) d.nm=AA (AA (.ref f))/\Cn K (.ref f)=AC
 |.ini c=>yaW d/\∃q,BC K mainGlobals (cn c)=AA (AA (.ref q))/\Ah K (.ref q) d.nm=AA (AA (.ref f))/\Cn K (.ref f)=AC/\Db K q=AC/\Al K (.ref q)=AC
def DvP(K:AF)(d:Df)(b:AG):Prop:=
 match d.k with
 |.fd f=>∃c o a n,b=.ref c/\K.lookup c=AA o/\o.data=.seq a n/\Vals (f.map V.int) a.toList
 |_=>b=.none
def ydc(K:AF)(cn:IL->AL)(d:Df):Prop:=∃a f fd,yca K d a f fd/\At K cn d f/\DvP K d a
section
variable {K:AF}{cn:IL->AL}{gn nm:AL}{st:Bj}{N ps:IK AL}{fn:IC.Fn}{f:AJ}{oc:AG}{od:Option AJ}{kV doc pm:AG}{an:Option AJ}{cdv ct:AG}{osl:Ie (Option AG)}
theorem rowFn(a:BC K mainGlobals gn=AA (AA (.ref f)))(l:K.lookup f=AA #[oc,od,.func (B0 nm nm (yad st) (yN st) (yh st) .none kV doc pm an cdv ct),osl])
  (c:CF K cdv nm=AC) (p:Al K (.ref f)=AC) (b:yaW #[gn,nm,nm,st,N,ps,fn,.fn]):ydc K cn #[gn,nm,nm,st,N,ps,fn,.fn]:=
 #[.none,f,_,#[#[oc,od,kV,doc,pm,an,cdv,ct,osl,rfl,l,c],p],#[a,b],rfl]
theorem rowFd{j:IK IM}{g o b}{n:IL}(a:BC K mainGlobals gn=AA (AA (.ref f)))(l:K.lookup f=AA #[oc,od,.func (B0 nm nm (yad st) (yN st) (yh st) (.ref g) kV doc pm an cdv ct),osl])
  (c:CF K cdv nm=AC) (p:Al K (.ref f)=AC) (d:K.lookup g=AA o) (e:o.data=.seq b n) (v:Vals (j.map V.int) b.toList):ydc K cn #[gn,nm,nm,st,N,ps,fn,.fd j]:=
 #[.ref g,f,_,#[#[oc,od,kV,doc,pm,an,cdv,ct,osl,rfl,l,c],p],a,g,o,b,n,rfl,d,e,v]
theorem rowMe{qn}{d:IL}{q}(z:BC K mainGlobals (cn d)=AA (AA (.ref q)))(a:Ah K (.ref q) nm=AA (AA (.ref f)))(i:Cn K (.ref f)=AC)(l:K.lookup f=AA #[oc,od,.func (B0 nm qn (yad st) (yN st) (yh st) .none kV doc pm an cdv ct),osl])
  (c:CF K cdv qn=AC) (p:Al K (.ref f)=AC) (b:yaW #[gn,nm,qn,st,N,ps,fn,.me d]):ydc K cn #[gn,nm,qn,st,N,ps,fn,.me d]:=
 #[.none,f,_,#[#[oc,od,kV,doc,pm,an,cdv,ct,osl,rfl,l,c],p],#[b,q,z,a,i],rfl]
theorem rowIni{qn}{d:IL}{q}(z:BC K mainGlobals (cn d)=AA (AA (.ref q)))(a:Ah K (.ref q) nm=AA (AA (.ref f)))(i:Cn K (.ref f)=AC)(l:K.lookup f=AA #[oc,od,.func (B0 nm qn (yad st) (yN st) (yh st) .none kV doc pm an cdv ct),osl])
  (c:CF K cdv qn=AC) (p:Al K (.ref f)=AC) (b:yaW #[gn,nm,qn,st,N,ps,fn,.ini d]) (g:Db K q=AC) (j:Al K (.ref q)=AC):ydc K cn #[gn,nm,qn,st,N,ps,fn,.ini d]:=
 #[.none,f,_,#[#[oc,od,kV,doc,pm,an,cdv,ct,osl,rfl,l,c],p],#[b,q,z,a,i,g,j],rfl]
theorem gdf_mk{w h b}{x:AL}{D c y es}{d:IL}(X:K.In h)(G:h.Ns mainGlobals b)(a:BC K mainGlobals x=AA (AA (.ref y)))(l:K.lookup y=AA #[.type "dict",AD,.dict es d,(IK.toArray [])])
  (r:ycp w c D es.toList) (n:(D.map (·.1)).Nodup):GDF K w b c x D:=#[y,es,d,Eh X G a,l,r,n]
theorem gd_mk{w h b}{x:AL}{D c y es}{d:IL}(X:K.In h)(G:h.Ns mainGlobals b)(a:BC K mainGlobals x=AA (AA (.ref y)))(l:K.lookup y=AA #[.type "dict",AD,.dict es d,(IK.toArray [])])
  (s:(y==sysModules)=AB) (r:yco K c w D es.toList) (n:(D.map (·.1)).Nodup):GD K w b c x D:=#[y,es,d,Eh X G a,l,s,r,n]
end
abbrev KoV(K:AF)(v:PV)(u:AG):Prop:=∃x:V,RelV x u/\∀a B A H,yd K a B A H v x
abbrev KoL(K:AF)(vs:IK PV)(us:IK AG):Prop:=∃a:IK V,Vals a us/\∀b B A H,yg K b B A H vs a
mutual
noncomputable def ye9(K:AF):(v:PV)->(u:AG)->Pr (KoV K v u)
 |.int i,.int j t=>an (ask (i=j)) λh=>ok #[.int i,#[t,by rw[h]],λ_ _ _ _=>by erw[yd]]
 |.str i,.str j t=>an (ask (i=j)) λh=>ok #[.str i,#[t,by rw[h]],λ_ _ _ _=>by erw[yd]]
 |.tp AC d,.ref a=>match h:K.lookup a with
  |some #[c,_,.seq b n,_]=>an (ask (c=.type "tuple"/\b.size<=sizeLine)) λq=>an (ydR K d b.toList) λr=>ok (by let#[f,g,l]:=r;refine#[.ref a,rfl,λm B A H=>?_];erw[yd];exact#[a,f,rfl,.inr #[rfl,_,b,n,h,q.1,rfl,q.2,g],l m B A H])
  |_=>AD
 |_,_=>AD
noncomputable def ydR(K:AF):(vs:IK PV)->(us:IK AG)->Pr (KoL K vs us)
 |[],[]=>ok #[[],.nil,λ_ _ _ _=>by erw[yg]]
 |v::vs,u::us=>an (ye9 K v u) λh=>an (ydR K vs us) λr=>ok (by let#[x,c,d]:=h;let#[a,f,g]:=r;refine#[x::a,.cons c f,λb B A H=>?_];erw[yg];exact#[x,a,rfl,d b B A H,g b B A H])
 |_,_=>AD
end
theorem con_row{K a w}{k:AL}{v b u D es}(c:(ye9 K v u).isSome=AC)(h:yco K a w D es):yco K a w ((k,v)::D) (#[EL w.params k,.str k b,u] :: es):=by let#[#[x,r,q],_]:=Ag.1 c;exact .cons r (q a) h
theorem frow_cons{w}{b:IL->AJ}{k:AL}{i:IL}{c}{a:AJ}{D es}(e:b i=a)(h:ycp w b D es):ycp w b ((k,i)::D) (#[EL w.params k,.str k c,.ref a] :: es):=by subst e;exact .cons h
structure Tb where
 tbl:IK Df
 al:IK (AL×GK)
 bs:IK AL
 ts:IK Ty
 fl:IK (IL×AL)
 me:IK ((IL×AL)×IL)
 kb:IK ((IL×IL×IK AL)×IK (Option IM))
 cn:IK (IL×AL)
 dd:IK (AL×IK (AL×PV))
 ml:IK (AL×IK (AL×IL))
 xs:IK (IL×Ty)
 xc:IK (IL×AL)
 xm:IK (IL×AL)
 qh:IK AL
abbrev eF(x:AL)(i:IL):AL×GK:=(x,.fn i)
abbrev eD(x:AL)(i:IL):AL×GK:=(x,.fnD i)
abbrev eC(x:AL)(v:PV):AL×GK:=(x,.cst v)
abbrev eG(x:AL)(g:GK):AL×GK:=(x,g)
abbrev eN(c:IL)(x:AL):IL×Str:=(c,x)
abbrev eM(c:IL)(x:AL)(i:IL):(IL×AL)×IL:=((c,x),i)
abbrev eK(i n:IL)(a:IK AL)(sh:IK (Option IM)):(IL×IL×IK AL)×IK (Option IM):=((i,n,a),sh)
abbrev eL(x:AL)(d:IK (AL×IL)):AL×IK (AL×IL):=(x,d)
abbrev eB(x:AL)(d:IK (AL×PV)):AL×IK (AL×PV):=(x,d)
def tyE:Ty->Ty->IQ
 |.int,.int=>AC
 |.bool,.bool=>AC
 |.str,.str=>AC
 |.tuple,.tuple=>AC
 |.list,.list=>AC
 |_,_=>AB
def zoV{a b:Ty}(h:tyE a b=AC):a=b:=by cases a<;>cases b<;>first|rfl|cases h
def tyX:Ty->Ty->IQ
 |.cls a,.cls b=>a==b
 |.val,.val=>AC
 |_,_=>AB
def zpI{a b:Ty}(h:tyX a b=AC):a=b:=by cases a<;>cases b<;>first|rfl|(cases h;done)|(rw[eq_of_beq (show _=AC from h)])
def Tb.gs(t:Tb):Gs:=#[λx=>t.al.lookup x,λx=>t.bs.contains x,λy=>t.ts.any (tyE y),λc f=>t.fl.contains (c,f),λc n=>t.me.lookup (c,n),λi n a=>t.kb.lookup (i,n,a),λx=>t.ml.lookup x,λx i=>decide (t.cn.lookup (1000+i)=AA x),λc y=>t.xs.any λp=>p.1==c&&tyX p.2 y,λd x=>t.xc.contains (d,x),λc x=>t.xm.contains (c,x),λi=>match t.tbl[i]? with
 |some d=>t.qh.contains d.gn
 |none=>AB]
def nmA(K:AF)(x:AL):Option Addr:=match BC K mainGlobals x with
 |some (AA (.ref q))=>AA q
 |_=>AD
def clA(K:AF)(t:Tb)(c:IL):Addr:=((t.cn.lookup c).bind (nmA K)).getD 0
def cnm(t:Tb)(c:IL):Str:=(t.cn.lookup c).getD ""
def faA(K:AF)(t:Tb)(i:IL):Addr:=match t.tbl[i]? with
 |some d=>match d.k with
  |.fn=>(nmA K d.gn).getD 0
  |.fd _=>(nmA K d.gn).getD 0
  |.me c=>match Ah K (.ref (clA K t c)) d.nm with
   |some (AA (.ref f))=>f
   |_=>0
  |.ini c=>match Ah K (.ref (clA K t c)) d.nm with
   |some (AA (.ref f))=>f
   |_=>0
 |none=>0
def ycc:Dk->IQ
 |.fn=>AC
 |_=>AB
def yeM:Dk->IQ
 |.fd _=>AC
 |_=>AB
def alB(K:AF)(t:Tb):AL×GK->IQ
 |(x,.fn i)=>match t.tbl[i]? with
  |some d=>ycc d.k&&(decide (x=d.gn) || decide (nmA K x=nmA K d.gn))
  |none=>AB
 |(x,.fnD i)=>match t.tbl[i]? with
  |some d=>yeM d.k&&(decide (x=d.gn) || decide (nmA K x=nmA K d.gn))
  |none=>AB
 |(x,.cst v)=>match BC K mainGlobals x with
  |some (AA u)=>(ye9 K v u).isSome
  |_=>AB
 |(x,.dct d)=>t.dd.any λp=>decide (p.1=x)&&(eqD p.2 d).isSome
 |(x,.exc c)=>decide (t.cn.lookup c=AA x)&&(nmA K x).any λq=>yb8 K q [.type "ValueError",.type "Exception",.type "BaseException",.type "object"] "ValueError.__new__"
 |(x,.cls c i)=>decide (t.cn.lookup c=AA x)&&(nmA K x).isSome&&match t.tbl[i]? with
  |some d=>match d.k with
   |.ini a=>decide (a=c)&&decide (d.nm="__init__")
   |_=>AB
  |none=>AB
def yfJ(K:AF)(t:Ty):IQ:=
 decide (BJ K (.type "NoneType") (.type (tyN t))=AA (ya1 .non t))&&decide (BJ K (.type "bool") (.type (tyN t))=AA (ya1 (.bl AC) t))&&decide (BJ K (.type "int") (.type (tyN t))=AA (ya1 (.int 0) t))&&decide (BJ K (.type "str") (.type (tyN t))=AA (ya1 (.str DD) t))&&decide (BJ K (.type "tuple") (.type (tyN t))=AA (ya1 (.tp AC []) t))&&decide (BJ K (.type "list") (.type (tyN t))=AA (ya1 (.lst []) t))
def yem(K:AF)(q:AJ):IQ:=Cm K q DD&&DG K q&&EU K q&&decide (Ah K (.ref q) "__setattr__"=AA (AA (.builtin "object.__setattr__")))
def zif{K}{q:AJ}(h:yem K q=AC):Cls K q:=by erw[yem,AH,IN]at h;exact#[h.1.1.1,h.1.1.2,h.1.2,h.2]
def ye8(K:AF)(q:AJ):IQ:=decide (Ah K (.ref q) "__getattribute__"=AA (AA (.builtin "BaseException.__getattribute__")))&&decide (Ah K (.ref q) "__getattr__"=AA AD)&&decide (Ah K (.ref q) "__class__"=AA (AA (.builtin "object.__class__")))&&decide (HV K (.ref q) (.type "BaseException")=AA AC)&&decide (HW K q (.type "object")=AA AC)&&(Ee K q).isSome
def zmY{K}{q:AJ}(h:ye8 K q=AC):ybt K q:=by erw[ye8,AH,IN]at h;let#[#[#[#[#[a,b],c],d],f],g]:=h;exact#[a,b,c,d,f,Ag.1 g]
def yfw(K:AF)(t:Tb):IQ:=
 t.xs.all (λp=>ye8 K (clA K t p.1)&&decide (BJ K (.ref (clA K t p.1)) (tyZ (clA K t) p.2)=AA (ya1 (.exn p.1) p.2))) &&
  t.xc.all (λp=>decide (t.cn.lookup p.1=AA p.2)&&(nmA K p.2).isSome) &&
  t.xm.all λp=>(nmA K p.2).any λW=>decide (EK K (.ref (clA K t p.1)) (.ref W)=AA AC)
def ydW(K:AF)(t:Tb):IQ:=
 t.al.all (alB K t)&&t.bs.all (λx=>decide (BC K mainGlobals x=AA AD))&&t.ts.all (yfJ K) &&
  t.fl.all (λp=>(t.cn.lookup p.1).isSome&&(nmA K (cnm t p.1)).any λq=>yem K q&&decide (Ah K (.ref q) p.2=AA AD)) &&
  t.me.all (λp=>(t.cn.lookup p.1.1).isSome&&(nmA K (cnm t p.1.1)).any λq=>yem K q&&match t.tbl[p.2]? with
   |some d=>(match d.k with
    |.me c=>decide (c=p.1.1)
    |_=>AB)&&decide (d.nm=p.1.2)
   |none=>AB) &&
  t.ml.all λp=>p.2.all λq=>match t.tbl[q.2]? with
   |some d=>ycc d.k
   |none=>AB
def yeF(K:AF)(t:Tb):IQ:=ydW K t&&yfw K t
def fd0:FuncData:=B0 "" "" (yad (.Pass #[0,0,0,0])) [] (yh (.Pass #[0,0,0,0])) .none .none .none .none AD .none .none
def fdA(K:AF)(t:Tb)(i:IL):FuncData:=match K.lookup (faA K t i)with
 |some #[_,_,.func fd,_]=>fd
 |_=>fd0
def psA(t:Tb)(i:IL):IK Str:=match t.tbl[i]? with
 |some d=>d.ps
 |none=>[]
theorem lkm{A B:Type}[BEq A][LawfulBEq A]{x:A}{k:B}:∀{l:IK (A×B)},l.lookup x=AA k->(x,k)∈l
 |[],h=>nomatch h
 |y::l,h=>by
  rw[Bc]at h
  cases a:x==y.1 with
  |true=>rw[a]at h;cases h;rw[eq_of_beq a];exact Af
  |false=>rw[a]at h;exact AU _ (lkm h)
def KbP(t:Tb)(p:(IL×IL×IK AL)×IK (Option IM)):Prop:=∀d a,t.tbl[p.1.1]?=AA d->d.k=.fd a->∀(K:AF) (b:AL->Option AG) (f:AJ) (fd:Aw),FnD K b d.nm d.st d.ps a f fd->∃g,ybs K fd d.ps p.1.2.2 g (gK p.1.2.1 p.2)
structure Fact(t:Tb)(w:Ai)(K:AF)(mg:AL->Option AG):Prop where
 X:∀x u,BC K mainGlobals x=AA u->mg x=u
 R:ybU (ydc K (cnm t)) t.tbl
 B:yeF K t=AC
 D:ybU (λp=>∀cl,GD K w mg cl p.1 p.2) t.dd
 Kb:ybU (KbP t) t.kb
 Ml:ybU (λp=>GDF K w mg (faA K t) p.1 p.2) t.ml
def zqn{K}{x:AL}{q}(h:nmA K x=AA q):BC K mainGlobals x=AA (AA (.ref q)):=by
 unfold nmA at h;split at h
 .cases h;assumption
 .cases h
def zcK{K}{x:AL}{q}(h:BC K mainGlobals x=AA (AA (.ref q))):nmA K x=AA q:=by erw[nmA,h]
def zg2{K t}{c:IL}{q}(h:nmA K (cnm t c)=AA q)(a:(t.cn.lookup c).isSome=AC):clA K t c=q:=by let#[x,e]:=Ag.1 a;erw[clA,e,BH];erw[cnm,e,BR]at h;rw[h];rfl
def okH(t:Tb)(d:Df):IQ:=(ycd t.gs d.fn.body #[d.N,yh d.st,AB,AC] (yN d.st)).isSome&&!d.fn.pure&&ycc d.k
def okT(t:Tb)(d:Df):IQ:=okD t.gs d&&(!t.qh.contains d.gn || okH t d)&&match d.k with
 |.fn=>AC
 |.fd _=>decide (d.q=d.nm)
 |.me c=>(t.cn.lookup c).isSome
 |.ini c=>(t.cn.lookup c).isSome&&decide (d.nm="__init__")
section
variable {t:Tb}{w:Ai}{K:AF}{mg:AL->Option AG}{T:IL->Option IC.Fn}{P:Aa}{base:Au}{k:IL}
def zeU(F:Fact t w K mg)(O:∀d∈t.tbl,okT t d=AC){i:IL}{d}(h:t.tbl[i]?=AA d):∃b fd,yca K d b (faA K t i) fd/\At K (cnm t) d (faA K t i)/\DvP K d b:=by
 have l:=AZ h;let#[b,f,fd,m,a,n]:=F.R.get d l;have e:f=faA K t i:=by
  have o:=O d l;erw[okT,AH]at o;have o:=o.2;erw[faA,h];unfold At at a
  cases q:d.k with
  |fn=>
   rw[q]at a;erw[zcK a.1,BR]
  |fd r=>
   rw[q]at a;have a:BC K mainGlobals d.gn=AA (AA (.ref f)):=a;erw[zcK a,BR]
  |me c=>
   rw[q]at a o;let#[_,p,g,j,_]:=a;erw[zg2 (zcK g) o,j]
  |ini c=>
   rw[q]at a o;let#[_,p,g,j,_]:=a;erw[AH]at o;erw[zg2 (zcK g) o.1,j]
 subst e;exact#[b,fd,m,a,n]
theorem yca.binds{d:Df}{f:AJ}{fd:Aw}(R:yca K d .none f fd)(b:yaW d):Binds K fd d.ps []:=
 Fun.binds #[R.ex,R.kp] λkV doc c an a g j l=>(b kV doc c an a g).get j l
theorem yca.ok{d:Df}{o:AG}{f:AJ}{fd:Aw}{j m:IL}{l:IL->AJ}(R:yca K d o f fd)(n:T j=AA d.fn)(p:yaF d.N d.ps (yh d.st))(b:d.ps.length=d.fn.np)(c:d.N.length=d.fn.ns)
  (a:∀(cdv:AG) (A:Ak) (outer:IK BI) (s:AK) (H:Hp) (E:XK),yav m (A.deeper (envOfC d.q (yh d.st) s.heap.objs.size f cdv)) ->
   PSs (yaK (CX1 P w) P w K mg base d.N d.q (yh d.st) f cdv A outer s H E) (yN d.st) (tSs #[l,yc T k,AC] (yaK (CX1 P w) P w K mg base d.N d.q (yh d.st) f cdv A outer s H E) d.fn.body)):
  yaG P w K mg base (CX1 P w) (m+1) f fd d.ps (spI K l (yc T (k+1)) j):=by let#[u,x,kV,doc,y,an,cdv,z,q,rfl,lk,g]:=R.ex;exact zrF lk g p (λr H Q E h=>zmr n b h) λA outer s H r Q E t h=>#[_,a cdv A outer s H E t,zmM n c h]
def Fn2(t:Tb)(P:Aa)(w:Ai)(K:AF)(mg:AL->Option AG)(base:Au)(T:IL->Option IC.Fn)(k:IL):Prop:=
 ∀i d a fd,t.tbl[i]?=AA d->yca K d a (faA K t i) fd->yaG P w K mg base (CX1 P w) (2*k) (faA K t i) fd d.ps (spI K (clA K t) (yc T k) i)
def FnH(t:Tb)(P:Aa)(w:Ai)(K:AF)(mg:AL->Option AG)(base:Au)(T:IL->Option IC.Fn)(k:IL):Prop:=
 ∀i d fd,t.tbl[i]?=AA d->t.qh.contains d.gn=AC->yca K d .none (faA K t i) fd->ybp P w K mg base (2*k) (faA K t i) fd d.ps (spI K (clA K t) (yc T k) i)
def znF(F:Fact t w K mg)(O:∀d∈t.tbl,okT t d=AC){x:AL}{i:IL}(q:alB K t (x,.fn i)=AC):∃d fd,t.tbl[i]?=AA d/\yca K d .none (faA K t i) fd/\nmA K x=AA (faA K t i)/\yaW d:=by
 have q:(match t.tbl[i]? with
  |some d=>ycc d.k&&(decide (x=d.gn) || decide (nmA K x=nmA K d.gn))
  |none=>AB)=true:=q
 cases b:t.tbl[i]? with
 |none=>rw[b]at q;cases q
 |some d=>
  rw[b]at q;have q:=BA.1 q;let#[m,fd,l,a,c]:=zeU F O b;have f:d.k=.fn:=by
   have g:=q.1
   cases e:d.k<;>rw[e]at g<;>first|rfl|cases g
  erw[At,f]at a;erw[DvP,f]at c;subst c;refine#[d,fd,rfl,l,?_,a.2];have j:=q.2;erw[Bz,IN]at j;rcases j with h|h
  .rw[h];exact zcK a.1
  .rw[h];exact zcK a.1
def zha(F:Fact t w K mg)(O:∀d∈t.tbl,okT t d=AC)(C:Fn2 t P w K mg base T k)(CH:FnH t P w K mg base T k){N q sc f cdv A outer s H E}:
  Glo t.gs (2*k) #[clA K t,yc T k,AC] (yaK (CX1 P w) P w K mg base N q sc f cdv A outer s H E):=by
 have B:=F.B;erw[yeF,AH]at B;let#[B,B2]:=B;erw[ydW,AH,A3]at B;erw[yfw,AH,A3]at B2;let#[#[#[#[#[b1,b2],b3],b4],b5],b6]:=B;let#[#[b7,b8],b9]:=B2;have I:∀{x:AL} {a:AJ},nmA K x=AA a->mg x=AA (.ref a):=λh=>F.X _ _ (zqn h);have same:∀{x y:AL} {a:AJ},(decide (x=y) || decide (nmA K x=nmA K y))=AC->nmA K y=AA a->nmA K x=AA a:=λ{x y a} h e=>by
  erw[Bz,IN]at h;rcases h with rfl|h
  .exact e
  .rw[h];exact e
 refine#[λx i h=>?_,λx i np ks sh h M=>?_,λx v h=>?_,λx d h=>?_,λx c h=>?_,λx c i h=>?_,λx h=>?_,λy h=>?_,λc n h=>?_,λc n i h=>?_,λy D h=>?_,λx i h hv=>?_,λc y h=>?_,λd x h=>?_,λc x h=>?_,λx i h hq=>?_]
 .let#[d,fd,G,l,Z,bp]:=znF F O (b1 _ (lkm h));exact#[_,fd,d.ps,C i d _ fd G l,I Z,l.kp,l.binds bp]
 .have q:=b1 _ (lkm h);erw[alB]at q;split at q
  .rename_i d G;erw[AH]at q;let#[Q,fd,l,U,X]:=zeU F O G;obtain⟨ds,hk'⟩:∃ds,d.k=.fd ds:=by cases e:d.k<;>rw[e]at q<;>first|exact#[_,rfl]|cases q.1
   erw[At,hk']at U;erw[DvP,hk']at X;let#[dT,o,its,n,rfl,e1,e2,e3]:=X;have oo:=O d (AZ G);erw[okT,hk',AH,IN]at oo;have D:FnD K (λ_=>AA (.ref (faA K t i))) d.nm d.st d.ps ds (faA K t i) fd:=by let#[oc,od,kV,doc,pm,an,cdv,ct,osl,z1,z2,z3]:=l.ex;rw[oo.2]at z1 z3;exact#[#[oc,od,dT,kV,doc,pm,an,cdv,ct,osl,o,its,n,z1,z2,z3,e1,e2,e3],l.kp,rfl]
   exact#[_,fd,d.ps,C i d _ fd G l,I (same q.2 (zcK U)),l.kp,F.Kb.get _ (lkm M) d ds G hk' K _ _ _ D]
  .cases q
 .have q:=b1 _ (lkm h);erw[alB]at q;split at q
  .rename_i u hu;let#[#[y,r,z],_]:=Ag.1 q;exact#[y,u,F.X _ _ hu,r,λB J H=>z _ B J H]
  .cases q
 .have q:=b1 _ (lkm h);erw[alB,DW,AH,IN]at q;let#[p,hp,rfl,q]:=q;let#[#[e],_]:=Ag.1 q;rw[<-e];exact F.D.get p hp _
 .have q:=b1 _ (lkm h);erw[alB,AH,IN,Cj]at q;let#[q1,q2,L]:=q;let#[a,m]:=Ag.1 q2;have e:clA K t c=a:=by erw[clA,q1,BH,m,BR]
  erw[m,FQ]at L;exact#[by show mg x=AA (.ref (clA K t c));rw[e];exact I m,by show yb8 K (clA K t c) _ _=AC;rw[e];exact L]
 .have q:=b1 _ (lkm h);erw[alB,AH,IN]at q;let#[#[q1,q2],L]:=q;let#[a,m]:=Ag.1 q2;have e:clA K t c=a:=by erw[clA,q1,BH,m,BR]
  split at L
  .rename_i d G
   cases M:d.k with
   |ini c'=>
    rw[M]at L;erw[AH,IN]at L;let#[rfl,Z]:=L;let#[Q,fd,l,U,X]:=zeU F O G;erw[At,M]at U;erw[DvP,M]at X;subst X;let#[r0,q',r4,r5,r6,r7,r8]:=U;have e2:q'=a:=by have:nmA K (cnm t c')=AA q':=zcK r4;erw[cnm,q1,BR,m]at this;exact(AX this).symm
    subst e2;rw[Z]at r5;refine#[by show mg x=AA (.ref (clA K t c'));rw[e];exact I m,_,fd,d.ps,?_,C i d _ fd G l,l.binds r0];show Mk K (clA K t c') _;rw[e];exact#[r7,r5,r6,r8]
   |_=>rw[M]at L;cases L
  .cases L
 .have q:x∈t.bs:=by simpa [Tb.gs] using h
  have:=b2 x q;erw[IN]at this;exact F.X _ _ this
 .simp only[Tb.gs,DW]at h;let#[y',hy,e]:=h;have:=zoV e;subst this;have q:=b3 y hy;erw[yfJ,AH,IN]at q;exact#[q.1.1.1.1.1,q.1.1.1.1.2,q.1.1.1.2,q.1.1.2,q.1.2,q.2]
 .have q:(c,n)∈t.fl:=by simpa [Tb.gs] using h
  have q:=b4 _ q;erw[AH,Cj,IN]at q;let#[q1,q2,L]:=q;let#[a,m]:=Ag.1 q2;erw[m,FQ]at L;have e:clA K t c=a:=zg2 m q1;show Cls K (clA K t c)/\yap K (clA K t c) n;rw[e];exact#[zif L.1,L.2]
 .have q:=b5 _ (lkm h);erw[AH,Cj,IN]at q;let#[q1,q2,L,Y]:=q;let#[a,m]:=Ag.1 q2;erw[m,FQ]at L;have e:clA K t c=a:=zg2 m q1;split at Y
  .rename_i d G;erw[AH,IN]at Y;let#[Y,Z]:=Y
   cases M:d.k with
   |me c'=>
    rw[M]at Y;have Y:c'=c:=by simpa using Y
    subst Y;let#[Q,fd,l,U,X]:=zeU F O G;erw[At,M]at U;erw[DvP,M]at X;subst X;let#[r0,q',r4,r5,r6]:=U;have e2:q'=a:=AX ((zcK r4).symm.trans m);subst e2;refine#[by show Cls K (clA K t c');rw[e];exact zif L,_,fd,d.ps,?_,C i d _ fd G l,l.binds r0];show Meth K (clA K t c') n _;rw[e,<-Z];exact#[r5,r6,l.kp]
   |_=>rw[M]at Y;cases Y
  .cases Y
 .have q:=b6 _ (lkm h);have g:∀s j,D.lookup s=AA j->∃d Q fd,t.tbl[j]?=AA d/\yca K d Q (faA K t j) fd/\Q=.none/\yaW d/\fd=fdA K t j/\d.ps=psA t j:=λs j hj=>by
   have q:=q _ (lkm hj);split at q
   .rename_i d G;let#[Q,fd,l,U,X]:=zeU F O G;have M:d.k=.fn:=by cases e:d.k<;>rw[e]at q<;>first|rfl|cases q
    erw[At,M]at U;erw[DvP,M]at X;let#[oc,od,kV,doc,pm,an,cdv,ct,osl,_,lk,_]:=l.ex;exact#[d,Q,fd,G,l,X,U.2,by erw[fdA,lk],by erw[psA,G]]
   .cases q
  refine#[faA K t,fdA K t,psA t,#[λs j hj=>?_,λs j hj=>?_,λs j hj=>?_],F.Ml.get _ (lkm h)]
  .let#[d,Q,fd,h1,h2,h3,h4,h5,h6]:=g s j hj;rw[<-h5,<-h6];exact C j d Q fd h1 h2
  .let#[d,Q,fd,h1,h2,h3,h4,h5,h6]:=g s j hj;exact h2.kp
  .let#[d,Q,fd,h1,h2,h3,h4,h5,h6]:=g s j hj;subst h3;rw[<-h5,<-h6];exact h2.binds h4
 .let#[d,fd,G,l,Z,bp]:=znF F O (b1 _ (lkm h));have e:t.cn.lookup (1000+i)=AA x:=Ia hv;have z:clA K t (1000+i)=faA K t i:=by erw[clA,e,BH,Z,BR]
  show mg x=AA (.ref (clA K t (1000+i)));rw[z];exact I Z
 .let#[p,hp,q]:=DW.1 h;erw[AH,Ig]at q;let#[rfl,q]:=q;have:=zpI q;subst this;have b:=b7 p hp;erw[IN]at b;exact#[zmY b.1,b.2]
 .have b:=b8 _ (FY.1 h);erw[IN]at b;let#[a,m]:=Ag.1 b.2;have e:clA K t d=a:=by erw[clA,b.1,BH,m,BR]
  show mg x=AA (.ref (clA K t d));rw[e];exact I m
 .have b:=b9 _ (FY.1 h)
  cases m:nmA K x with
  |none=>rw[m]at b;cases b
  |some W=>
   rw[m]at b;exact#[W,I m,Ia b]
 .let#[d,fd,G,l,Z,bp]:=znF F O (b1 _ (lkm h));exact#[_,fd,d.ps,CH i d fd G (by simpa only[Tb.gs,G] using hq) l,I Z,l.kp,l.binds bp]
def zjt(F:Fact t w K mg)(O:∀d∈t.tbl,okT t d=AC)(b:∀i d,t.tbl[i]?=AA d->T i=AA d.fn):∀k,Fn2 t P w K mg base T k/\FnH t P w K mg base T k
 |0=>#[λi d r fd _ _=>zkn,λi d fd _ _ _=>zle]
 |k+1=>by
  have ih:=zjt F O b k;refine#[λi d r fd h R=>?_,λi d fd h u R=>?_]
  .have o:=O d (AZ h);erw[okT,okD,AH,IN]at o;let#[#[#[#[#[c,g],j],x],_],_]:=o;let#[#[y],_]:=Ag.1 x;exact R.ok (m:=2*k+1) (b i d h) (zlW c) g j λ_ _ _ _ _ _ a=>y (2*k) _ _ #[rfl,rfl,λ_=>rfl,a.h,λ_=>a.hd,λ_=>#[own1,λ_=>rfl,rfl],λ_=>#[#[_,rfl],rfl,rfl],zha F O ih.1 ih.2]
  .have o:=O d (AZ h);erw[okT,okD,AH,IN]at o;let#[#[#[#[#[c,g],j],_],p],_]:=o;have l:okH t d=true:=by rw[u]at p;simpa using p
   erw[okH,AH,CP]at l;let#[#[y],_]:=Ag.1 l.1.1;refine zqO (m:=2*k+1) (b i d h) #[R.ex,R.kp] (zlW c) g j l.1.2 λcdv A outer s H a=>y (2*k) _ _ #[rfl,rfl,(λh=>nomatch h),a,(λh=>nomatch h),(λh=>nomatch h),(λh=>nomatch h),?_];have G:=zha (N:=d.N) (q:=d.q) (sc:=yh d.st) (f:=faA K t i) (cdv:=cdv) (A:=A) (outer:=outer) (s:=s) (H:=H) (E:=E0) F O ih.1 ih.2;exact#[G.F,G.Q,G.C,G.D,G.E,G.N,G.B,G.T,G.A,G.M,λy D h=>let #[z,n,B,M,d]:=G.K y D h;#[z,n,B,#[M.F,M.kp,M.b],d],G.V,G.I,G.L,G.H,G.Z]
def zmw(F:Fact t w K mg)(O:∀d∈t.tbl,okT t d=AC)(a:∀i d,t.tbl[i]?=AA d->T i=AA d.fn)(k:IL):Fn2 t P w K mg base T k:=(zjt F O a k).1
def ydg:IL->(IK AG->Prop)->Prop
 |0,P=>P []
 |n+1,P=>∀a,ydg n λb=>P (a::b)
theorem ydg.get:∀{n:IL} {P:IK AG->Prop},ydg n P->∀b,b.length=n->P b
 |0,P,h,[],_=>h
 |n+1,P,h,a::b,e=>(h a).get b (by simpa using e)
theorem kbP{i r:IL}{g:IK AL}{sh d b}(w:t.tbl[i]?=AA d)(x:d.k=.fd b)(y:g.length=nKw sh)(z:sh.length=(b.drop (b.length-sh.length)).length)
  (A:((sh.zip (b.drop (b.length-sh.length))).all λp=>p.1.all λi=>decide (i=p.2))=AC) (B:0<d.ps.length)
  (h:∀j kV doc o an c q,ydg r λl=>ydg g.length λm=>ydg b.length λa=>
   ∃k,bindArgs (B0 d.nm d.nm (yad d.st) (yN d.st) (yh d.st) (.ref j) kV doc o an c q) #[l,g.zip m]=seqItems? (.ref j) >>= k/\k (AA a.toArray)=pure (d.ps.zip (l++ya3 sh m (a.drop (b.length-sh.length))))):KbP t ((i,r,g),sh):=by
 intro C E n u K mg f fd D;have n:t.tbl[i]?=AA C:=n;rw[w]at n
 cases n
 rw[x]at u
 cases u
 exact kbD D y z A (λj kV doc o an c q l m a G H I=>(((h j kV doc o an c q).get l G).get m H).get a I) B
theorem all_mk2{h j}(X:K.In h)(G:h.Ns mainGlobals mg)(c:mg "law"=AA (.ref j))(R:ybU (ydc K (cnm t)) t.tbl)(B:yeF K t=AC)(D:ybU (λp=>∀o,GD K w mg o p.1 p.2) t.dd)(q:ybU (KbP t) t.kb)(Ml:ybU (λp=>GDF K w mg (faA K t) p.1 p.2) t.ml)
  (O:t.tbl.all (okT t)=AC) (r:∀i d,t.tbl[i]?=AA d->T i=AA d.fn) {L:IL} {st:Bj} {N:IK AL} {fn:IC.Fn} (l:t.tbl[L]?=AA #["law","law","law",st,N,["_law_script"],fn,.fn]) (a:IL):
  ∃fd:Aw,(∀s(v:AG),EV s fd #[[v],[]] [("_law_script",v)])/\∀base:Au,K.In base->base.Ns mainGlobals mg->yaG P w K mg base (CX1 P w) (2*a) j fd ["_law_script"] (spX K (yc T a) L):=by
 have F:Fact t w K mg:=#[λx u e=>by
  cases u with
  |none=>exact PySem.W.mg_none_of X G e
  |some v=>exact Eh X G e,R,B,D,q,Ml]
 have m:=A3.1 O;let#[y,fd,n,b,f]:=zeU F m l;have f:y=.none:=f;subst f;have b:BC K mainGlobals "law"=AA (AA (.ref (faA K t L)))/\yaW _:=b;have e:=HY (AX (c.symm.trans (Eh X G b.1)));subst e;refine#[fd,λs v=>?_,λbase _ _=>(zmw F m r a L _ _ fd l n).imp λ_ _ _ _ h=>h _];let#[E,H,kV,doc,z,an,g,A,C,rfl,_]:=n.ex;exact .of_eq (b.2 kV doc z an g A v)
end
end L2
namespace IC
open PySem
def yh9:IK (AL×IL):=[(AE "sum",124),(AE "difference",125),(AE "turned",126),(AE "both",127),(AE "any",128),(AE "odd",129),(AE "bare",130),(AE "left",131),(AE "right",132),(AE "down",133),(AE "roll",134),(AE "product",135),(AE "signed product",136),(AE "quotient",137),(AE "signed quotient",138)]
def yes:IK (AL×IL):=[(AE "move",96),(AE "bare",97),(AE "sum",98),(AE "less",99),(AE "both",100),(AE "any",101),(AE "odd",102),(AE "twice",103),(AE "half",104)]
def yhY:PV:=(.tp AC [(.str "f"),(.tp AC [(.int 0),(.int 0),(.int 0),(.int 0)])])
def yjt:PV:=(.tp AC [(.str "p"),(.tp AC [(.int 0),(.int 0),(.int 0),(.int 0)])])
def ykg:PV:=(.tp AC [(.int 0),(.int 0),(.int 1)])
def yb:PV:=(.tp AC [(.int 0),(.int 1),(.int 0)])
def ykh:PV:=(.int 10000000000000000000000000000000000000000)
def yit:PV:=(.tp AC [(.str "f"),(.tp AC [(.int 0),(.int 0),(.int 0),(.int 0)])])
def yia:PV:=(.tp AC [(.str "g"),(.tp AC [(.int 0),(.int 0),(.int 0),(.int 0)])])
def yhZ:PV:=(.tp AC [(.str "h"),(.tp AC [(.int 0),(.int 0),(.int 0),(.int 0)])])
def yju:PV:=(.tp AC [(.str "turned"),(.str "bare")])
def yiu:PV:=(.tp AC [(.str "h"),(.tp AC [(.int 0),(.int 0),(.int 0),(.int 0)])])
def yjv:PV:=(.tp AC [(.str "w"),(.tp AC [(.int 0),(.int 0),(.int 0),(.int 0)])])
def ygp:PV:=(.tp AC [(.str "l"),(.tp AC [(.int 0),(.int 0),(.int 0),(.int 0)])])
def ya:PV:=(.tp AC [(.tp AC [(.str "m"),(.tp AC [(.int 0),(.int 0),(.int 0),(.int 0)])]),(.tp AC [(.str "m"),(.tp AC [(.int 1),(.int 0),(.int 0),(.int 0)])]),(.tp AC [(.str "m"),(.tp AC [(.int 2),(.int 0),(.int 0),(.int 0)])]),(.tp AC [(.str "m"),(.tp AC [(.int 3),(.int 0),(.int 0),(.int 0)])])])
def yki:PV:=(.int 4)
def ylH:PV:=(.int 2)
def ykj:PV:=(.int 4000)
def ykk:PV:=(.int 4000)
def ylI:PV:=(.int 20)
def ylJ:PV:=(.int 2)
def ykl:PV:=(.int 200)
def ybC:PV:=(.tp AC [(.str "z"),(.tp AC [(.int 0),(.int 0),(.int 0),(.int 0)])])
def yib:PV:=(.tp AC [(.str "o"),(.tp AC [(.int 0),(.int 0),(.int 0),(.int 0)])])
def yg6:PV:=(.tp AC [(.str "sum"),(.str "difference"),(.str "compare"),(.str "both"),(.str "any"),(.str "odd"),(.str "product"),(.str "signed product"),(.str "quotient"),(.str "signed quotient")])
def ykm:PV:=(.tp AC [(.str "both"),(.str "any"),(.str "odd")])
def yiv:PV:=(.tp AC [(.str "product"),(.str "signed product")])
def yfd:PV:=(.tp AC [(.str "quotient"),(.str "signed quotient")])
def yiw:PV:=(.tp AC [(.str "g"),(.tp AC [(.int 0),(.int 0),(.int 0),(.int 0)])])
def yhm:PV:=(.tp AC [(.str "s"),(.tp AC [(.int 0),(.int 0),(.int 0),(.int 0)])])
def yy:PV:=(.tp AC [(.str "left"),(.str "right"),(.str "down"),(.str "roll")])
def yic:PV:=(.tp AC [(.str "k"),(.tp AC [(.int 0),(.int 0),(.int 0),(.int 0)])])
def ye0:PV:=(.tp AC [(.str "i"),(.tp AC [(.int 0),(.int 0),(.int 0),(.int 0)])])
def yhD:PV:=(.tp AC [(.str "j"),(.tp AC [(.int 0),(.int 0),(.int 0),(.int 0)])])
def yi:PV:=(.tp AC [(.str "t"),(.tp AC [(.int 0),(.int 0),(.int 0),(.int 0)])])
def yh0:PV:=(.tp AC [(.str "plain"),(.str "signed")])
def ydD:IK (AL×PV):=[(AE "set",(.tp AC [(.str "cell"),(.str "figure")])),(AE "move",(.tp AC [(.str "cell"),(.str "cell")])),(AE "bare",(.tp AC [(.str "cell"),(.str "cell")])),(AE "sum",(.tp AC [(.str "cell"),(.str "cell"),(.str "cell")])),(AE "less",(.tp AC [(.str "cell"),(.str "cell"),(.str "cell")])),(AE "both",(.tp AC [(.str "cell"),(.str "cell"),(.str "cell")])),(AE "any",(.tp AC [(.str "cell"),(.str "cell"),(.str "cell")])),(AE "odd",(.tp AC [(.str "cell"),(.str "cell"),(.str "cell")])),(AE "twice",(.tp AC [(.str "cell"),(.str "cell")])),(AE "half",(.tp AC [(.str "cell"),(.str "cell")])),(AE "times",(.tp AC [(.str "cell"),(.str "cell"),(.str "cell"),(.str "cell")])),(AE "mark",(.tp AC [(.str "figure")])),(AE "ask",(.tp AC [(.str "cell")]))]
section ym
local macro_rules|`(#[$x,*])=>do
 let mut a←`(.e)
 for y in x.getElems.reverse do a←`(.k $y $a)
 pure a
def ykn:Fn:=⟨5,5,AC,#[.ret (.tup #[.v 0,.tup #[.v 1,.v 2,.v 3,.v 4]])]⟩
def yko:Fn:=⟨1,1,AC,#[.ret (.call 0 (yw #[.v 0,.neg (.i 1)] (ye [.inr 0,.inr 0,.inl (.i 1)])))]⟩
def ykp:Fn:=⟨1,1,AC,#[.ret (.blt .tuple #[.comp [AD] (.n 0) (.seq (.v 0)) (.cst (.bl AC)) (.tup #[.s "row",.v 0])])]⟩
def ykq:Fn:=⟨3,3,AC,#[.ret (.tup #[.tup #[.s "rounds",.v 0,.v 1,.v 2]])]⟩
def ykr:Fn:=⟨5,5,AC,#[.ret (.tup #[.s "slice",.v 0,.tup #[.i 0,.i 0,.i 0,.i 0],.tup #[.v 1,.v 2,.v 3,.v 4]])]⟩
def yks:Fn:=⟨6,6,AC,#[.ret (.tup #[.v 0,.tup #[.i 0,.v 2,.i 0,.v 3,.v 4,.v 5],.v 1])]⟩
def ykt:Fn:=⟨3,4,AC,#[.asg (.n 3) (.tup #[.call 5 (yw #[.i 1,.tup #[.call 4 (yw #[.v 1] (ye [.inr 0,.inl (.i 1),.inr 0,.inr 0]))]] (ye [.inr 0,.inr 0,.inr 0,.inr 0])),.call 5 (yw #[.neg (.i 1),.tup #[.call 4 (yw #[.v 0] (ye [.inr 0,.inl (.i 1),.inr 0,.inr 0]))]] (ye [.inr 0,.inr 0,.inr 0,.inr 0]))]),.ret (.call 3 #[.tup #[.v 2,.i 1,.i 0],.v 3,.call 2 #[.lst #[.tup #[.s "move",.call 0 (yw #[.v 0] (ye [.inr 0,.inl (.i 1),.inr 0,.inr 0])),.call 0 (yw #[.v 1] (ye [.inr 0,.inl (.i 1),.inr 0,.inr 0]))]]]])]⟩
def yku:Fn:=⟨2,2,AC,#[.ret (.call 3 #[.v 1,.tup .e,.call 2 #[.lst #[.tup #[.s "twice",.call 0 (yw #[.v 0] (ye [.inr 0,.inr 0,.inl (.i 1),.inr 0])),.call 0 (yw #[.v 0] (ye [.inr 0,.inr 0,.inl (.i 1),.inr 0]))]]]])]⟩
def ykv:Fn:=⟨1,1,AC,#[.ret (.tup #[.s "sum",.v 0,.cst ybC,.cst ybC])]⟩
def ykw:Fn:=⟨1,1,AC,#[.ret (.lst #[.tup #[.s "set",.v 0,.i 1],.tup #[.s "less",.v 0,.v 0,.cst ybC]])]⟩
def ykx:Fn:=⟨2,2,AC,#[.ret (.lst #[.tup #[.s "twice",.cst yi,.v 1],.tup #[.s "less",.v 0,.cst ybC,.cst ybC]])]⟩
def yky:Fn:=⟨4,4,AC,#[.ret (.call 3 #[.v 3,.tup .e,.call 2 #[.lst #[.tup #[.s "odd",.cst yi,.v 1,.v 2],.tup #[.s "any",.v 0,.v 0,.cst yi]]]])]⟩
def ykz:Fn:=⟨3,4,AC,#[.asg (.n 3) (.tup #[.s "any",.cst yhm,.cst yhm,.call 0 (yw #[.v 0] (ye [.inr 0,.inl (.i 1),.inr 0,.inl (.v 1)]))]),.ret (.bin .add (.bin .add (.call 2 #[.lst #[.tup #[.s "set",.cst yhm,.i 0]]]) (.call 3 #[.v 2,.tup .e,.call 2 #[.lst #[.v 3]]])) (.call 2 #[.lst #[.tup #[.s "ask",.cst yhm]]]))]⟩
def ykA:Fn:=⟨2,3,AC,#[.asg (.n 2) (.lst #[.tup #[.s "twice",.cst yi,.call 0 (yw #[.s "c",.bin .sub (.v 0) (.i 1)] (ye [.inr 0,.inr 0,.inl (.v 1)]))],.call 8 #[.idx (.cst ya) (.i 3)]]),.ret (.bin .add (.call 12 #[.s "c",.i 0,.tup #[.v 0,.v 1,.i 0]]) (.call 2 #[.bin .add (.call 9 #[.idx (.cst ya) (.i 2)]) (.v 2)]))]⟩
def ykB:Fn:=⟨3,4,AC,#[.asg (.n 3) (.bin .add (.call 6 (yw #[.s "c",.s "a",.blt .min #[.v 2,.i 0]] (ye []))) (.call 15 #[.cst yit,.v 0,.call 1 #[.s "a"]])),.ite (.cmp .gt (.v 2) (.i 0)) #[.asg (.n 3) (.ite (.isi (.v 3) [.tuple]) (.bin .add (.v 3) (.call 16 #[.v 2])) .nope)] .e,.asg (.n 3) (.ite (.isi (.v 3) [.tuple]) (.bin .add (.v 3) (.bin .add (.call 15 #[.cst yiw,.v 1,.call 0 (yw #[.s "c",.bin .sub (.v 2) (.i 1)] (ye [.inr 0,.inr 0,.inl (.i 1)]))]) (.call 2 #[.lst #[.tup #[.s "odd",.cst yiu,.cst yit,.cst yiw]]]))) .nope),.ite (.cmp .lt (.v 2) (.i 0)) #[.asg (.n 3) (.ite (.isi (.v 3) [.tuple]) (.bin .add (.v 3) (.call 17 #[.v 2])) .nope)] .e,.ret (.bin .add (.bin .add (.v 3) (.call 2 #[.lst #[.tup #[.s "ask",.cst yiu],.call 8 #[.idx (.cst ya) (.i 1)]]])) (.call 13 #[.v 2,.i 1]))]⟩
def ykC:Fn:=⟨3,3,AC,#[.ret (.call 2 #[.ite (.cmp .eq (.v 1) (.s "signed")) (.call 10 #[.v 0,.v 2]) (.lst #[.tup #[.s "mark",.i 0],.tup #[.s "less",.v 0,.cst ybC,.cst ybC]])])]⟩
def ykD:Fn:=⟨1,2,AC,#[.asg (.n 1) (.tup #[.call 5 (yw #[.i 1,.tup #[.call 4 (yw #[.s "c"] (ye [.inr 0,.inl (.i 1),.inr 0,.inl (.i 1)]))]] (ye [.inr 0,.inr 0,.inr 0,.inr 0])),.call 5 (yw #[.neg (.i 1),.tup #[.call 4 (yw #[.s "a"] (ye [.inr 0,.inr 0,.inr 0,.inl (.i 1)]))]] (ye [.inr 0,.inr 0,.inr 0,.inr 0])),.call 5 (yw #[.neg (.i 1),.tup #[.tup #[.s "mark"]]] (ye [.inr 0,.inl (.i 1),.inr 0,.inl (.i 1)])),.call 5 (yw #[.i 1,.tup #[.tup #[.s "mark"]]] (ye [.inr 0,.inr 0,.inr 0,.inl (.i 1)]))]),.ret (.call 3 #[.tup #[.v 0,.i 0,.i 0],.v 1,.call 2 #[.lst #[.tup #[.s "move",.call 0 (yw #[.s "c"] (ye [.inr 0,.inl (.i 1),.inr 0,.inl (.i 1)])),.cst yit]]]])]⟩
def ykE:Fn:=⟨1,1,AC,#[.ret (.call 11 #[.cst yiu,.call 0 (yw #[.s "a",.v 0] (ye [.inl (.i 1),.inr 0,.inl (.i 1)])),.cst yiw,.tup #[.neg (.v 0),.i 0,.i 0]])]⟩
def ykF:Fn:=⟨0,1,AC,#[.asg (.n 0) (.bin .add (.call 12 #[.s "c",.i 1,.cst yb]) (.call 2 #[.lst #[.call 8 #[.idx (.cst ya) (.i 1)]]])),.ret (.bin .add (.bin .add (.call 19 .e) (.v 0)) (.call 13 #[.i 0,.i 2]))]⟩
def ykG:Fn:=⟨0,3,AC,#[.asg (.n 0) (.tup #[.call 5 (yw #[.i 1,.tup #[.call 4 (yw #[.s "c"] (ye [.inr 0,.inl (.i 1),.inr 0,.inl (.i 1)]))]] (ye [.inr 0,.inr 0,.inr 0,.inr 0])),.call 5 (yw #[.neg (.i 1),.tup #[.call 4 (yw #[.s "a"] (ye [.inr 0,.inr 0,.inr 0,.inl (.i 1)])),.call 4 (yw #[.s "b"] (ye [.inr 0,.inl (.i 1),.inr 0,.inr 0]))]] (ye [.inr 0,.inr 0,.inr 0,.inr 0]))]),.asg (.n 1) (.call 2 #[.lst #[.tup #[.s "mark",.i 0],.tup #[.s "set",.cst yib,.i 0]]]),.asg (.n 2) (.call 2 #[.lst #[.tup #[.s "move",.call 0 (yw #[.s "c"] (ye [.inr 0,.inl (.i 1),.inr 0,.inl (.i 1)])),.cst yib]]]),.ret (.call 3 #[.cst yb,.v 0,.bin .add (.bin .add (.v 1) (.call 20 .e)) (.v 2)])]⟩
def ykH:Fn:=⟨0,3,AC,#[.asg (.n 0) (.call 0 (yw #[.s "c"] (ye [.inr 0,.inl (.i 1),.inl (.i 1),.inr 0]))),.asg (.n 1) (.tup #[.s "slice",.s "b",.tup #[.i 0,.i 1,.i 0,.i 0],.tup #[.i 1,.i 1,.i 0,.i 0]]),.asg (.n 2) (.tup #[.call 5 (yw #[.i 1,.tup #[.call 4 (yw #[.s "c"] (ye [.inr 0,.inl (.i 1),.inr 0,.inl (.i 1)]))]] (ye [.inr 0,.inr 0,.inr 0,.inr 0])),.call 5 (yw #[.i 1,.tup #[.call 4 (yw #[.s "o",.i 1] (ye [.inr 0,.inr 0,.inr 0]))]] (ye [.inr 0,.inl (.i 1),.inl (.i 1),.inr 0])),.call 5 (yw #[.neg (.i 1),.tup #[.call 4 (yw #[.s "a"] (ye [.inr 0,.inr 0,.inr 0,.inl (.i 1)])),.call 4 (yw #[.s "b"] (ye [.inr 0,.inl (.i 1),.inr 0,.inr 0]))]] (ye [.inr 0,.inr 0,.inr 0,.inr 0])),.call 5 (yw #[.neg (.i 1),.tup #[.call 4 (yw #[.s "a"] (ye [.inr 0,.inr 0,.inl (.i 1),.inr 0])),.v 1]] (ye [.inr 0,.inl (.i 1),.inr 0,.inr 0]))]),.ret (.call 3 #[.cst yb,.v 2,.call 2 #[.lst #[.tup #[.s "times",.cst ygp,.cst yhZ,.call 0 (yw #[.s "a"] (ye [.inr 0,.inr 0,.inl (.i 1),.inr 0])),.call 0 (yw #[.s "b"] (ye [.inr 0,.inl (.i 1),.inr 0,.inr 0]))],.tup #[.s "sum",.cst ygp,.cst ygp,.cst yib],.tup #[.s "sum",.cst yhZ,.cst yhZ,.cst ybC],.tup #[.s "sum",.v 0,.v 0,.cst ygp],.tup #[.s "sum",.cst yib,.cst yhZ,.cst ybC]]]])]⟩
def ykI:Fn:=⟨0,0,AC,#[.ret (.bin .add (.bin .add (.call 23 #[.s "a",.s "b",.s "c",.s "d"]) (.call 22 .e)) (.call 13 #[.i 0,.i 1]))]⟩
def ykJ:Fn:=⟨0,0,AC,#[.ret (.bin .add (.call 12 #[.s "b",.i 0,.cst yb]) (.call 2 #[.call 9 #[.idx (.cst ya) (.i 0)]]))]⟩
def ykK:Fn:=⟨4,6,AC,#[.asg (.n 4) (.tup #[.call 5 (yw #[.i 1,.tup #[.call 4 (yw #[.v 0] (ye [.inr 0,.inr 0,.inr 0,.inl (.i 1)]))]] (ye [.inl (.i 1),.inr 0,.inr 0,.inr 0])),.call 5 (yw #[.neg (.i 1),.tup #[.call 4 (yw #[.v 2] (ye [.inr 0,.inr 0,.inr 0,.inl (.i 1)])),.call 4 (yw #[.v 1] (ye [.inr 0,.inr 0,.inr 0,.inl (.i 1)]))]] (ye [.inr 0,.inr 0,.inr 0,.inl (.i 1)])),.call 5 (yw #[.neg (.i 1),.tup #[.call 4 (yw #[.v 3,.i 1] (ye [.inr 0,.inr 0,.inl (.i 1)]))]] (ye [.inr 0,.inr 0,.inr 0,.inl (.i 1)])),.call 5 (yw #[.neg (.i 1),.tup #[.call 4 (yw #[.s "e"] (ye [.inr 0,.inr 0,.inr 0,.inl (.i 1)]))]] (ye [.inr 0,.inr 0,.inr 0,.inr 0]))]),.asg (.n 5) (.bin .add (.bin .add (.bin .add (.call 24 #[.v 3]) (.call 25 #[.v 3,.v 1])) (.call 26 #[.v 3,.v 1])) (.call 27 #[.v 2])),.ret (.bin .add (.call 6 (yw #[.s "e",.v 0] (ye [.inr 0]))) (.call 3 #[.cst ykg,.v 4,.v 5]))]⟩
def ykL:Fn:=⟨1,1,AC,#[.ret (.bin .add (.bin .add (.call 2 #[.lst #[.tup #[.s "mark",.i 0]]]) (.call 7 #[.s "e",.cst yb])) (.call 7 #[.v 0,.tup #[.i 1,.i 1,.i 0]]))]⟩
def ykM:Fn:=⟨2,4,AC,#[.asg (.n 2) (.tup #[.s "less",.call 0 (yw #[.v 0] (ye [.inr 0,.inr 0,.inl (.i 1),.inr 0])),.call 0 (yw #[.v 0] (ye [.inr 0,.inr 0,.inl (.i 1),.inr 0])),.call 0 (yw #[.v 1] (ye [.inr 0,.inr 0,.inl (.i 1),.inr 0]))]),.asg (.n 3) (.call 0 (yw #[.v 0] (ye [.inr 0,.inr 0,.inr 0,.inl (.i 1)]))),.ret (.bin .add (.call 3 #[.cst yb,.tup .e,.call 2 #[.lst #[.v 2]]]) (.call 2 #[.lst #[.tup #[.s "less",.v 3,.v 3,.cst ybC]]]))]⟩
def ykN:Fn:=⟨2,5,AC,#[.asg (.n 2) (.lst #[.tup #[.s "both",.cst yi,.call 0 (yw #[.v 1] (ye [.inr 0,.inr 0,.inl (.i 1),.inr 0])),.cst yhY],.tup #[.s "sum",.call 0 (yw #[.v 0] (ye [.inr 0,.inr 0,.inl (.i 1),.inr 0])),.call 0 (yw #[.v 0] (ye [.inr 0,.inr 0,.inl (.i 1),.inr 0])),.cst yi]]),.asg (.n 3) (.call 0 (yw #[.v 0] (ye [.inr 0,.inr 0,.inr 0,.inl (.i 1)]))),.asg (.n 4) (.call 2 #[.lst #[.tup #[.s "less",.cst yhY,.cst ybC,.cst ybC],.tup #[.s "mark",.i 0]]]),.ret (.bin .add (.bin .add (.v 4) (.call 3 #[.cst yb,.tup .e,.call 2 #[.v 2]])) (.call 2 #[.lst #[.tup #[.s "sum",.v 3,.v 3,.cst ybC]]]))]⟩
def ykO:Fn:=⟨1,1,AC,#[.ret (.bin .add (.call 2 #[.lst #[.tup #[.s "bare",.cst yhY,.cst yhY],.tup #[.s "ask",.cst yhY]]]) (.call 7 #[.v 0,.cst yb]))]⟩
def y7:Fn:=⟨3,3,AC,#[.ret (.and (.isi (.v 0) [.int]) (.and (.not (.isi (.v 0) [.bool])) (.chain .le .le (.v 1) (.v 0) (.v 2))))]⟩
def yjw:Fn:=⟨1,1,AC,#[.ret (.and (.isi (.v 0) [.str]) (.and (.cmp .eq (.blt .len #[.v 0]) (.i 1)) (.chain .le .le (.s "a") (.v 0) (.s "z"))))]⟩
def ykP:Fn:=⟨2,2,AC,#[.ite (.or (.not (.isi (.v 0) [.tuple])) (.cmp .ne (.blt .len #[.v 0]) (.v 1))) #[.nope] .e,.ret (.blt .all #[.comp [AD] (.n 0) (.seq (.v 0)) (.cst (.bl AC)) (.call 28 #[.v 0,.neg (.cst ykl),.cst ykl])])]⟩
def ykQ:Fn:=⟨1,1,AC,#[.ret (.bin .add (.bin .add (.call 35 #[.v 0,.tup #[.s "mark",.i 0],.call 7 #[.s "c",.cst yb]]) (.call 38 .e)) (.call 13 #[.i 0,.i 1]))]⟩
def ykR:Fn:=⟨1,1,AC,#[.ret (.bin .add (.bin .add (.call 35 #[.v 0,.tup #[.s "mark",.i 0],.call 36 .e]) (.call 38 .e)) (.call 13 #[.i 0,.i 1]))]⟩
def ykS:Fn:=⟨1,1,AC,#[.ret (.bin .add (.bin .add (.call 35 #[.v 0,.call 37 .e,.call 36 .e]) (.call 38 .e)) (.call 13 #[.i 0,.i 1]))]⟩
def ykT:Fn:=⟨1,1,AC,#[.ret (.bin .add (.call 35 #[.v 0,.call 37 .e,.call 7 #[.s "c",.cst yb]]) (.call 13 #[.i 0,.i 1]))]⟩
def ykU:Fn:=⟨3,3,AC,#[.ret (.bin .add (.call 6 (yw #[.s "c",.s "a"] (ye [.inr 0]))) (.call 3 #[.tup #[.v 0,.i 0,.i 0],.tup .e,.bin .add (.call 2 #[.lst #[.v 1]]) (.v 2)]))]⟩
def ykV:Fn:=⟨0,1,AC,#[.asg (.n 0) (.call 0 (yw #[.s "c",.neg (.i 1)] (ye [.inr 0,.inl (.neg (.i 1)),.inl (.i 1)]))),.ret (.call 3 #[.cst yb,.tup .e,.call 2 #[.lst #[.tup #[.s "half",.v 0,.v 0]]]])]⟩
def ykW:Fn:=⟨0,0,AC,#[.ret (.tup #[.s "twice",.cst yi,.call 1 #[.s "c"]])]⟩
def ykX:Fn:=⟨0,0,AC,#[.ret (.call 2 #[.lst #[.call 8 #[.idx (.cst ya) (.i 0)]]])]⟩
def ykY:Fn:=⟨0,1,AC,#[.asg (.n 0) (.bin .add (.call 41 #[.cst ye0,.s "a"]) (.call 41 #[.cst yhD,.s "b"])),.ret (.bin .add (.bin .add (.bin .add (.bin .add (.bin .add (.v 0) (.call 19 .e)) (.call 43 .e)) (.call 44 .e)) (.call 48 .e)) (.call 13 #[.i 0,.i 2]))]⟩
def ykZ:Fn:=⟨0,3,AC,#[.asg (.n 0) (.bin .add (.bin .add (.call 41 #[.cst ye0,.s "a"]) (.call 41 #[.cst yhD,.s "b"])) (.call 2 #[.lst #[.tup #[.s "odd",.cst yic,.cst ye0,.cst yhD]]])),.asg (.n 1) (.bin .add (.call 49 #[.cst ye0,.s "u",.s "a"]) (.call 49 #[.cst yhD,.s "v",.s "b"])),.asg (.n 2) (.bin .add (.call 49 #[.cst yic,.s "c",.s "q"]) (.call 49 #[.cst ye0,.s "d",.s "r"])),.ret (.bin .add (.bin .add (.bin .add (.bin .add (.bin .add (.bin .add (.v 0) (.v 1)) (.call 23 #[.s "u",.s "v",.s "q",.s "r"])) (.v 2)) (.call 22 .e)) (.call 50 .e)) (.call 13 #[.i 0,.i 1]))]⟩
def yk0:Fn:=⟨2,2,AC,#[.ret (.call 2 #[.lst #[.tup #[.s "twice",.cst yi,.call 1 #[.v 1]],.call 8 #[.v 0]]])]⟩
def yk1:Fn:=⟨1,1,AC,#[.ret (.call 4 (yw #[.idx (.v 0) (.i 0),.i 1] (ye [.inr 0,.inr 0,.inr 0])))]⟩
def yk2:Fn:=⟨0,0,AC,#[.ret (.bin .add (.call 47 #[.cst ye0,.s "b",.bin .add (.call 45 .e) (.call 46 #[.cst ye0,.s "b"])]) (.call 2 #[.lst #[.call 8 #[.cst yjt]]]))]⟩
def yk3:Fn:=⟨0,1,AC,#[.asg (.n 0) (.tup #[.call 5 (yw #[.i 1,.tup #[.call 42 #[.cst ye0],.call 4 (yw #[.s "b"] (ye [.inr 0,.inr 0,.inr 0,.inl (.i 1)]))]] (ye [.inr 0,.inr 0,.inr 0,.inl (.i 1)])),.call 5 (yw #[.neg (.i 1),.tup #[.call 42 #[.cst yjt]]] (ye [.inr 0,.inr 0,.inr 0,.inl (.i 2)]))]),.ret (.call 47 #[.cst yhD,.s "a",.bin .add (.bin .add (.call 45 .e) (.v 0)) (.call 46 #[.cst yhD,.s "a"])])]⟩
def yk4:Fn:=⟨0,0,AC,#[.ret (.tup #[.call 5 (yw #[.i 1,.tup #[.call 4 (yw #[.s "c"] (ye [.inr 0,.inr 0,.inr 0,.inl (.i 2)]))]] (ye [.inr 0,.inr 0,.inr 0,.inr 0])),.call 5 (yw #[.neg (.i 1),.tup #[.call 4 (yw #[.s "a"] (ye [.inr 0,.inr 0,.inr 0,.inl (.i 1)])),.call 4 (yw #[.s "b"] (ye [.inr 0,.inr 0,.inr 0,.inl (.i 1)]))]] (ye [.inr 0,.inr 0,.inr 0,.inr 0]))])]⟩
def yk5:Fn:=⟨2,2,AC,#[.ret (.tup #[.call 5 (yw #[.i 1,.tup #[.call 42 #[.v 0],.call 4 (yw #[.v 1] (ye [.inr 0,.inl (.i 1),.inr 0,.inr 0]))]] (ye [.inr 0,.inr 0,.inr 0,.inl (.i 1)])),.call 5 (yw #[.neg (.i 1),.tup #[.tup #[.s "mark"]]] (ye [.inr 0,.inl (.i 1),.inr 0,.inl (.i 1)]))])]⟩
def yk6:Fn:=⟨3,4,AC,#[.asg (.n 3) (.call 0 (yw #[.s "c"] (ye [.inr 0,.inl (.i 1),.inr 0,.inl (.i 1)]))),.ret (.call 3 #[.cst yb,.v 2,.call 2 #[.lst #[.tup #[.s "times",.cst ygp,.cst yhZ,.call 0 (yw #[.v 1] (ye [.inr 0,.inl (.i 1),.inr 0,.inr 0])),.v 0],.tup #[.s "less",.v 3,.v 3,.cst ygp]]]])]⟩
def yk7:Fn:=⟨0,1,AC,#[.asg (.n 0) (.call 11 #[.cst yjv,.call 0 (yw #[.s "c"] (ye [.inr 0,.inl (.i 1),.inr 0,.inl (.i 1)])),.cst yia,.cst yb]),.ret (.bin .add (.bin .add (.call 2 #[.call 10 #[.cst yia,.call 1 #[.s "c"]]]) (.v 0)) (.call 2 #[.lst #[.tup #[.s "ask",.cst yjv],.call 8 #[.idx (.cst ya) (.i 1)]]]))]⟩
def yk8:Fn:=⟨3,4,AC,#[.asg (.n 3) (.tup #[.call 5 (yw #[.i 1,.tup #[.call 4 (yw #[.v 1] (ye [.inr 0,.inl (.i 1),.inr 0,.inr 0]))]] (ye [.inr 0,.inr 0,.inr 0,.inr 0])),.call 5 (yw #[.i 1,.tup #[.tup #[.s "mark"]]] (ye [.inr 0,.inl (.i 1),.inr 0,.inr 0])),.call 5 (yw #[.neg (.i 1),.tup #[.call 4 (yw #[.v 2] (ye [.inr 0,.inl (.i 1),.inr 0,.inr 0]))]] (ye [.inr 0,.inr 0,.inr 0,.inr 0])),.call 5 (yw #[.i 2,.tup #[.call 42 #[.v 0],.call 4 (yw #[.v 2] (ye [.inr 0,.inl (.i 1),.inr 0,.inr 0]))]] (ye [.inr 0,.inr 0,.inr 0,.inr 0])),.call 5 (yw #[.neg (.i 1),.tup #[.call 42 #[.v 0]]] (ye [.inr 0,.inl (.i 1),.inr 0,.inr 0]))]),.ret (.bin .add (.call 2 #[.lst #[.tup #[.s "ask",.v 0],.tup #[.s "less",.cst yia,.cst ybC,.cst ybC]]]) (.call 3 #[.cst yb,.v 3,.call 2 #[.lst #[.tup #[.s "odd",.cst yi,.call 0 (yw #[.v 2] (ye [.inr 0,.inl (.i 1),.inr 0,.inr 0])),.cst yia],.tup #[.s "sum",.call 0 (yw #[.v 1] (ye [.inr 0,.inl (.i 1),.inr 0,.inr 0])),.cst yi,.cst ybC]]]]))]⟩
def yk9:Fn:=⟨0,0,AC,#[.ret (.call 2 #[.lst #[.tup #[.s "twice",.cst yi,.call 1 #[.s "q"]],.call 8 #[.idx (.cst ya) (.i 1)],.tup #[.s "any",.idx (.cst ya) (.i 1),.idx (.cst ya) (.i 1),.cst yic],.tup #[.s "odd",.idx (.cst ya) (.i 1),.idx (.cst ya) (.i 1),.cst yic]]])]⟩
def yla:Fn:=⟨0,3,AC,#[.asg (.n 0) (.tup #[.s "sum",.call 0 (yw #[.s "c"] (ye [.inr 0,.inl (.i 1),.inr 0,.inr 0])),.call 0 (yw #[.s "a"] (ye [.inr 0,.inl (.i 1),.inr 0,.inr 0])),.call 0 (yw #[.s "b"] (ye [.inr 0,.inl (.i 1),.inr 0,.inr 0]))]),.asg (.n 1) (.tup #[.call 5 (yw #[.i 1,.tup #[.call 4 (yw #[.s "a"] (ye [.inr 0,.inl (.i 1),.inr 0,.inr 0]))]] (ye [.inr 0,.inr 0,.inr 0,.inr 0])),.call 5 (yw #[.i 1,.tup #[.call 4 (yw #[.s "b"] (ye [.inr 0,.inl (.i 1),.inr 0,.inr 0]))]] (ye [.inr 0,.inr 0,.inr 0,.inr 0])),.call 5 (yw #[.neg (.i 1),.tup #[.call 4 (yw #[.s "c"] (ye [.inr 0,.inl (.i 1),.inr 0,.inr 0]))]] (ye [.inr 0,.inr 0,.inr 0,.inr 0])),.call 5 (yw #[.neg (.i 1),.tup #[.tup #[.s "mark"]]] (ye [.inr 0,.inl (.i 1),.inr 0,.inr 0]))]),.asg (.n 2) (.call 58 #[.call 1 #[.s "c"],.call 1 #[.s "a"],.call 1 #[.s "b"]]),.ret (.bin .add (.bin .add (.call 57 #[.v 0,.v 1]) (.v 2)) (.call 13 #[.i 0,.i 1]))]⟩
def ylb:Fn:=⟨0,3,AC,#[.asg (.n 0) (.tup #[.s "less",.call 0 (yw #[.s "c"] (ye [.inr 0,.inl (.i 1),.inr 0,.inr 0])),.call 0 (yw #[.s "a"] (ye [.inr 0,.inl (.i 1),.inr 0,.inr 0])),.call 0 (yw #[.s "b"] (ye [.inr 0,.inl (.i 1),.inr 0,.inr 0]))]),.asg (.n 1) (.tup #[.call 5 (yw #[.i 1,.tup #[.call 4 (yw #[.s "a"] (ye [.inr 0,.inl (.i 1),.inr 0,.inr 0]))]] (ye [.inr 0,.inr 0,.inr 0,.inr 0])),.call 5 (yw #[.neg (.i 1),.tup #[.call 4 (yw #[.s "b"] (ye [.inr 0,.inl (.i 1),.inr 0,.inr 0]))]] (ye [.inr 0,.inr 0,.inr 0,.inr 0])),.call 5 (yw #[.neg (.i 1),.tup #[.call 4 (yw #[.s "c"] (ye [.inr 0,.inl (.i 1),.inr 0,.inr 0]))]] (ye [.inr 0,.inr 0,.inr 0,.inr 0])),.call 5 (yw #[.i 1,.tup #[.tup #[.s "mark"]]] (ye [.inr 0,.inl (.i 1),.inr 0,.inr 0]))]),.asg (.n 2) (.call 58 #[.call 1 #[.s "a"],.call 1 #[.s "b"],.call 1 #[.s "c"]]),.ret (.bin .add (.bin .add (.call 57 #[.v 0,.v 1]) (.v 2)) (.call 13 #[.i 0,.i 1]))]⟩
def ylc:Fn:=⟨0,3,AC,#[.asg (.n 0) (.tup #[.s "less",.call 0 (yw #[.s "c"] (ye [.inr 0,.inl (.i 1),.inr 0,.inr 0])),.cst ybC,.call 0 (yw #[.s "a"] (ye [.inr 0,.inl (.i 1),.inr 0,.inr 0]))]),.asg (.n 1) (.tup #[.call 5 (yw #[.i 1,.tup #[.call 4 (yw #[.s "a"] (ye [.inr 0,.inl (.i 1),.inr 0,.inr 0]))]] (ye [.inr 0,.inr 0,.inr 0,.inr 0])),.call 5 (yw #[.i 1,.tup #[.call 4 (yw #[.s "c"] (ye [.inr 0,.inl (.i 1),.inr 0,.inr 0]))]] (ye [.inr 0,.inr 0,.inr 0,.inr 0])),.call 5 (yw #[.neg (.i 1),.tup #[.tup #[.s "mark"]]] (ye [.inr 0,.inl (.i 1),.inr 0,.inr 0]))]),.asg (.n 2) (.call 58 #[.cst ybC,.call 1 #[.s "a"],.call 1 #[.s "c"]]),.ret (.bin .add (.bin .add (.call 57 #[.v 0,.v 1]) (.v 2)) (.call 13 #[.i 0,.i 1]))]⟩
def yle:Fn:=⟨0,1,AC,#[.asg (.n 0) (.lst #[.tup #[.s "odd",.idx (.cst ya) (.i 1),.idx (.cst ya) (.i 1),.idx (.cst ya) (.i 3)],.tup #[.s "set",.idx (.cst ya) (.i 3),.i 0]]),.ret (.bin .add (.call 52 .e) (.call 2 #[.v 0]))]⟩
def ylf:Fn:=⟨1,2,AC,#[.asg (.n 1) (.tup #[.v 0,.call 0 (yw #[.s "c"] (ye [.inr 0,.inl (.i 1),.inr 0,.inr 0])),.call 0 (yw #[.s "a"] (ye [.inr 0,.inl (.i 1),.inr 0,.inr 0])),.call 0 (yw #[.s "b"] (ye [.inr 0,.inl (.i 1),.inr 0,.inr 0]))]),.ret (.bin .add (.call 3 #[.cst yb,.tup .e,.call 2 #[.lst #[.v 1]]]) (.call 13 #[.i 0,.i 1]))]⟩
def ylg:Fn:=⟨0,2,AC,#[.asg (.n 0) (.tup #[.call 5 (yw #[.i 1,.tup #[.call 4 (yw #[.s "a"] (ye [.inr 0,.inl (.i 1),.inr 0,.inr 0]))]] (ye [.inr 0,.inr 0,.inr 0,.inr 0])),.call 5 (yw #[.i 1,.tup #[.call 4 (yw #[.s "c"] (ye [.inr 0,.inl (.i 1),.inr 0,.inr 0]))]] (ye [.inr 0,.inr 0,.inr 0,.inr 0])),.call 5 (yw #[.neg (.i 1),.tup .e] (ye [.inr 0,.inl (.i 1),.inr 0,.inr 0])),.call 5 (yw #[.i 1,.tup .e] (ye [.inr 0,.inr 0,.inr 0,.inr 0]))]),.asg (.n 1) (.tup #[.s "bare",.call 0 (yw #[.s "c"] (ye [.inr 0,.inl (.i 1),.inr 0,.inr 0])),.call 0 (yw #[.s "a"] (ye [.inr 0,.inl (.i 1),.inr 0,.inr 0]))]),.ret (.bin .add (.call 3 #[.cst yb,.v 0,.call 2 #[.lst #[.v 1]]]) (.call 13 #[.i 0,.i 1]))]⟩
def ylh:Fn:=⟨2,2,AC,#[.ret (.bin .add (.bin .add (.call 2 #[.lst #[.tup #[.s "mark",.i 0]]]) (.call 3 #[.cst yb,.v 1,.call 2 #[.lst #[.v 0]]])) (.call 2 #[.lst #[.call 8 #[.idx (.cst ya) (.i 0)]]]))]⟩
def yli:Fn:=⟨3,3,AC,#[.ret (.call 2 #[.lst #[.tup #[.s "odd",.cst yi,.v 0,.v 1],.tup #[.s "odd",.cst yhm,.v 0,.v 2],.tup #[.s "both",.cst yi,.cst yi,.cst yhm],.tup #[.s "twice",.cst yi,.cst yi],.call 8 #[.idx (.cst ya) (.i 1)]]])]⟩
def yix:Fn:=⟨1,1,AC,#[.ret (.call 61 #[.v 0,.cst (.bl AB)])]⟩
def ylj:Fn:=⟨1,1,AC,#[.ret (.call 61 #[.v 0,.cst (.bl AC)])]⟩
def yI:Fn:=⟨2,4,AC,#[.ite (.or (.not (.call 62 #[.v 0])) (.cmp .ne (.blt .len #[.v 0]) (.bin .add (.blt .len #[.dix ydD (.idx (.v 0) (.i 0))]) (.i 1)))) #[.ret (.cst (.bl AB))] .e,.for (.t [2,3]) (.zip (.dix ydD (.idx (.v 0) (.i 0))) (.slc (.v 0) (.i 1) (.cst .non))) #[.ite (.not (.call 63 #[.v 2,.v 3,.v 1])) #[.ret (.cst (.bl AB))] .e],.ret (.or (.cmp .ne (.idx (.v 0) (.i 0)) (.s "times")) (.cmp .ne (.idx (.v 0) (.i 1)) (.idx (.v 0) (.i 2))))]⟩
def yiy:Fn:=⟨1,1,AC,#[.ret (.and (.isi (.v 0) [.tuple]) (.and (.cmp .gt (.blt .len #[.v 0]) (.i 0)) (.and (.isi (.idx (.v 0) (.i 0)) [.str]) (.din (.idx (.v 0) (.i 0)) ydD))))]⟩
def yh1:Fn:=⟨3,3,AC,#[.ite (.cmp .eq (.v 0) (.s "figure")) #[.ret (.call 28 #[.v 1,.i 0,.i 1])] .e,.ret (.ite (.v 2) (.call 65 #[.v 1]) (.call 64 #[.v 1]))]⟩
def yiz:Fn:=⟨1,1,AC,#[.ret (.and (.call 66 #[.v 0]) (.call 28 #[.idx (.v 0) (.i 1),.i 0,.i 99]))]⟩
def ylk:Fn:=⟨1,1,AC,#[.ret (.and (.call 66 #[.v 0]) (.call 30 #[.idx (.v 0) (.i 1),.i 4]))]⟩
def yiA:Fn:=⟨1,1,AC,#[.ret (.and (.isi (.v 0) [.tuple]) (.and (.cmp .eq (.blt .len #[.v 0]) (.i 2)) (.call 29 #[.idx (.v 0) (.i 0)])))]⟩
def yll:Fn:=⟨1,1,AC,#[.ret (.and (.isi (.v 0) [.tuple]) (.and (.cmp .le (.blt .len #[.v 0]) (.cst ylI)) (.blt .all #[.comp [AD] (.n 0) (.seq (.v 0)) (.cst (.bl AC)) (.call 69 #[.v 0])])))]⟩
def yiB:Fn:=⟨4,4,AC,#[.ret (.bin .add (.bin .add (.bin .add (.idx (.v 0) (.i 0)) (.bin .mul (.idx (.v 0) (.i 1)) (.v 2))) (.bin .mul (.idx (.v 0) (.i 2)) (.v 3))) (.bin .mul (.idx (.v 0) (.i 3)) (.v 1)))]⟩
def ylm:Fn:=⟨1,4,AC,#[.ite (.or (.not (.isi (.v 0) [.tuple])) (.cmp .ne (.blt .len #[.v 0]) (.i 3))) #[.ret (.cst (.bl AB))] .e,.asg (.t [1,2,3]) (.v 0),.ret (.and (.call 28 #[.v 1,.bin .sub (.i 1) (.cst ykh),.bin .sub (.cst ykh) (.i 1)]) (.and (.call 30 #[.v 2,.i 6]) (.call 70 #[.v 3])))]⟩
def yln:Fn:=⟨1,1,AC,#[.ret (.and (.isi (.v 0) [.tuple]) (.and (.cmp .le (.blt .len #[.v 0]) (.cst ylJ)) (.blt .all #[.comp [AD] (.n 0) (.seq (.v 0)) (.cst (.bl AC)) (.call 71 #[.v 0])])))]⟩
def ylo:Fn:=⟨1,1,AC,#[.ite (.or (.not (.isi (.v 0) [.tuple])) (.cmp .eq (.blt .len #[.v 0]) (.i 0))) #[.ret (.cst (.bl AB))] .e,.ite (.cmp .eq (.idx (.v 0) (.i 0)) (.s "mark")) #[.ret (.cmp .eq (.blt .len #[.v 0]) (.i 1))] .e,.ite (.or (.cmp .ne (.idx (.v 0) (.i 0)) (.s "slice")) (.or (.cmp .ne (.blt .len #[.v 0]) (.i 4)) (.not (.call 29 #[.idx (.v 0) (.i 1)])))) #[.ret (.cst (.bl AB))] .e,.ret (.and (.call 30 #[.idx (.v 0) (.i 2),.i 4]) (.call 30 #[.idx (.v 0) (.i 3),.i 4]))]⟩
def yjx:Fn:=⟨3,3,AB,#[.sfl 20 (.v 0) (AE "w") (.v 1),.sfl 20 (.v 0) (AE "n") (.v 2),.sfl 20 (.v 0) (AE "steps") (.newl .e),.sfl 20 (.v 0) (AE "rows") (.i 0),.sfl 20 (.v 0) (AE "rounds") (.i 0)]⟩
def yj:Fn:=⟨3,4,AB,#[.for (.n 3) (.seq (.v 1)) #[.ite (.cmp .eq (.idx (.v 3) (.i 0)) (.s "row")) #[.expr (.mcl 20 76 (AE "add_row") (.v 0) #[.idx (.v 3) (.i 1),.v 2])] #[.expr (.mcl 20 74 (AE "go_rounds") (.v 0) #[.v 3,.v 2])]]]⟩
def yo:Fn:=⟨3,5,AB,#[.asg (.n 3) (.blt .max #[.i 0,.mcl 20 75 (AE "count_of") (.v 0) #[.idx (.v 1) (.i 1)]]),.for (.n 4) (.range1 (.v 3)) #[.expr (.mcl 20 78 (AE "add_asked") (.v 0) #[.idx (.v 1) (.i 2),.bin .add (.v 2) (.tup #[.v 4])]),.expr (.mcl 20 77 (AE "add_round") (.v 0) .e),.expr (.mcl 20 73 (AE "go_parts") (.v 0) #[.idx (.v 1) (.i 3),.bin .add (.v 2) (.tup #[.v 4])])],.expr (.mcl 20 78 (AE "add_asked") (.v 0) #[.idx (.v 1) (.i 2),.bin .add (.v 2) (.tup #[.v 3])])]⟩
def yiC:Fn:=⟨2,5,AB,#[.asg (.t [2,3,4]) (.v 1),.ret (.bin .add (.bin .add (.v 2) (.bin .mul (.v 3) (.fld 20 (.v 0) (AE "n")))) (.bin .mul (.bin .mul (.v 4) (.fld 20 (.v 0) (AE "w"))) (.fld 20 (.v 0) (AE "n"))))]⟩
def yiD:Fn:=⟨3,6,AB,#[.asg (.t [3,4]) (.call 84 #[.v 2]),.asg (.n 5) (.blt .tuple #[.comp [AD,AA 3,AA 4,AA 0] (.n 0) (.seq (.v 1)) (.cst (.bl AC)) (.call 85 #[.v 0,.fld 20 (.v 3) (AE "n"),.v 1,.v 2])]),.sfl 20 (.v 0) (AE "rows") (.bin .add (.fld 20 (.v 0) (AE "rows")) (.i 1)),.ite (.or (.not (.call 59 #[.v 5])) (.cmp .gt (.fld 20 (.v 0) (AE "rows")) (.cst ykk))) #[.nope] .e,.expr (.mth .append (.fld 20 (.v 0) (AE "steps")) #[.tup #[.s "row",.v 5]])]⟩
def yiE:Fn:=⟨1,1,AB,#[.sfl 20 (.v 0) (AE "rounds") (.bin .add (.fld 20 (.v 0) (AE "rounds")) (.i 1)),.ite (.cmp .gt (.fld 20 (.v 0) (AE "rounds")) (.cst ykj)) #[.nope] .e]⟩
def yiF:Fn:=⟨3,5,AB,#[.asg (.t [3,4]) (.call 84 #[.v 2]),.expr (.mth .append (.fld 20 (.v 0) (AE "steps")) #[.tup #[.s "asked",.v 1,.v 3,.v 4]])]⟩
def yjy:Fn:=⟨1,1,AC,#[.ret (.call 82 #[.v 0,.cst ylH])]⟩
def yiG:Fn:=⟨3,3,AC,#[.ret (.blt .tuple #[.comp [AD] (.n 0) (.seq (.call 81 #[.v 0,.v 1,.v 2])) (.cmp .eq (.idx (.v 0) (.i 0)) (.s "row")) (.idx (.v 0) (.i 1))])]⟩
def yiH:Fn:=⟨3,4,AC,#[.ite (.not (.call 79 #[.v 0])) #[.nope] .e,.asg (.n 3) (.new 20 72 #[.v 1,.v 2]),.expr (.mcl 20 73 (AE "go_parts") (.v 3) #[.v 0,.tup .e]),.ret (.frz (.fld 20 (.v 3) (AE "steps")))]⟩
def ylp:Fn:=⟨2,2,AC,#[.ret (.and (.isi (.v 0) [.tuple]) (.blt .all #[.comp [AD,AA 1] (.n 0) (.seq (.v 0)) (.cst (.bl AC)) (.call 83 #[.v 0,.v 1])]))]⟩
def ylq:Fn:=⟨2,2,AC,#[.ite (.or (.not (.isi (.v 0) [.tuple])) (.cmp .eq (.blt .len #[.v 0]) (.i 0))) #[.ret (.cst (.bl AB))] .e,.ite (.cmp .eq (.idx (.v 0) (.i 0)) (.s "row")) #[.ret (.and (.cmp .eq (.blt .len #[.v 0]) (.i 2)) (.call 60 #[.idx (.v 0) (.i 1)]))] .e,.ite (.or (.cmp .ne (.idx (.v 0) (.i 0)) (.s "rounds")) (.or (.cmp .ne (.blt .len #[.v 0]) (.i 4)) (.cmp .eq (.v 1) (.i 0)))) #[.ret (.cst (.bl AB))] .e,.ret (.and (.call 30 #[.idx (.v 0) (.i 1),.i 3]) (.and (.call 67 #[.idx (.v 0) (.i 2)]) (.call 82 #[.idx (.v 0) (.i 3),.bin .sub (.v 1) (.i 1)])))]⟩
def yid:Fn:=⟨1,1,AC,#[.ret (.slc (.bin .add (.v 0) (.tup #[.i 0,.i 0])) (.cst .non) (.i 2))]⟩
def yhS:Fn:=⟨4,4,AC,#[.ite (.not (.isi (.v 0) [.tuple])) #[.ret (.v 0)] .e,.ret (.tup #[.idx (.v 0) (.i 0),.call 68 #[.idx (.v 0) (.i 1),.v 1,.v 2,.v 3]])]⟩
def yh2:Fn:=⟨1,1,AC,#[.ite (.not (.call 88 #[.v 0])) #[.raise 6 (.s "this is no deed")] .e,.ite (.cmp .eq (.idx (.v 0) (.i 0)) (.s "led")) #[.ret (.call 14 #[.idx (.v 0) (.i 1),.idx (.v 0) (.i 2),.idx (.v 0) (.i 3)])] .e,.ite (.cmp .isin (.idx (.v 0) (.i 0)) (.cst yy)) #[.ret (.call 92 #[.idx (.v 0) (.i 0),.idx (.v 0) (.i 1)])] .e,.ite (.cmp .isin (.idx (.v 0) (.i 0)) (.cst ykm)) #[.ret (.call 55 #[.idx (.v 0) (.i 0)])] .e,.ret (.call 93 #[.idx (.v 0) (.i 0)])]⟩
def yie:Fn:=⟨3,3,AC,#[.ret (.call 80 #[.call 86 #[.v 0],.v 1,.v 2])]⟩
def yf:Fn:=⟨1,1,AC,#[.ite (.or (.not (.isi (.v 0) [.tuple])) (.cmp .eq (.blt .len #[.v 0]) (.i 0))) #[.ret (.cst (.bl AB))] .e,.ite (.cmp .eq (.idx (.v 0) (.i 0)) (.s "led")) #[.ret (.and (.cmp .eq (.blt .len #[.v 0]) (.i 4)) (.and (.cmp .isin (.idx (.v 0) (.i 1)) (.cst yh0)) (.and (.cmp .isin (.idx (.v 0) (.i 2)) (.cst yh0)) (.call 28 #[.idx (.v 0) (.i 3),.neg (.i 3),.i 4]))))] .e,.ite (.inn (.idx (.v 0) (.i 0)) (.cst yy)) #[.ret (.and (.cmp .eq (.blt .len #[.v 0]) (.i 2)) (.call 28 #[.idx (.v 0) (.i 1),.i 0,.i 100]))] .e,.ret (.and (.cmp .eq (.blt .len #[.v 0]) (.i 1)) (.or (.inn (.idx (.v 0) (.i 0)) (.cst yg6)) (.inn (.idx (.v 0) (.i 0)) (.cst yju))))]⟩
def yiI:Fn:=⟨1,1,AC,#[.ret (.cmp .isin (.idx (.v 0) (.i 0)) (.cst yg6))]⟩
def yT:Fn:=⟨2,2,AC,#[.ite (.cmp .eq (.idx (.v 0) (.i 0)) (.s "compare")) #[.ret (.i 0)] .e,.ite (.cmp .eq (.idx (.v 0) (.i 0)) (.s "led")) #[.ret (.bin .add (.v 1) (.idx (.v 0) (.i 3)))] .e,.ret (.ite (.cmp .isin (.idx (.v 0) (.i 0)) (.cst yiv)) (.bin .mul (.i 2) (.v 1)) (.v 1))]⟩
def yh3:Fn:=⟨2,2,AC,#[.ret (.ite (.cmp .isin (.idx (.v 0) (.i 0)) (.cst yfd)) (.v 1) (.i 0))]⟩
def ylr:Fn:=⟨2,2,AC,#[.ite (.cmp .eq (.v 0) (.s "left")) #[.ret (.call 31 #[.v 1])] .e,.ite (.cmp .eq (.v 0) (.s "right")) #[.ret (.call 32 #[.v 1])] .e,.ite (.cmp .eq (.v 0) (.s "down")) #[.ret (.call 33 #[.v 1])] .e,.ret (.call 34 #[.v 1])]⟩
def yls:Fn:=⟨1,1,AC,#[.ite (.cmp .eq (.v 0) (.s "sum")) #[.ret (.call 51 .e)] .e,.ite (.cmp .eq (.v 0) (.s "difference")) #[.ret (.call 52 .e)] .e,.ite (.cmp .eq (.v 0) (.s "turned")) #[.ret (.call 53 .e)] .e,.ite (.cmp .eq (.v 0) (.s "compare")) #[.ret (.call 54 .e)] .e,.ite (.cmp .eq (.v 0) (.s "bare")) #[.ret (.call 56 .e)] .e,.ite (.cmp .eq (.v 0) (.s "product")) #[.ret (.call 18 .e)] .e,.ite (.cmp .eq (.v 0) (.s "signed product")) #[.ret (.call 39 .e)] .e,.ite (.cmp .eq (.v 0) (.s "quotient")) #[.ret (.call 21 .e)] .e,.ret (.call 40 .e)]⟩
def yiJ:Fn:=⟨5,6,AC,#[.mkr 5 yes (.v 0) #[.v 1,.v 2,.v 3,.v 4]]⟩
def yiK:Fn:=⟨1,1,AC,#[.ret (.bin .sub (.bin .shl (.i 1) (.v 0)) (.i 1))]⟩
def yiL:Fn:=⟨4,4,AC,#[.ret (.tup #[.v 1,.v 3])]⟩
def yiM:Fn:=⟨4,4,AC,#[.ret (.tup #[.bin .sub (.call 95 #[.v 0]) (.v 1),.v 3])]⟩
def yiN:Fn:=⟨4,5,AC,#[.asg (.n 4) (.bin .add (.bin .add (.v 1) (.v 2)) (.v 3)),.ret (.tup #[.bin .band (.v 4) (.call 95 #[.v 0]),.bin .shr (.v 4) (.v 0)])]⟩
def yif:Fn:=⟨4,5,AC,#[.asg (.n 4) (.bin .sub (.bin .sub (.v 1) (.v 2)) (.v 3)),.ret (.tup #[.bin .band (.v 4) (.call 95 #[.v 0]),.ite (.cmp .lt (.v 4) (.i 0)) (.i 1) (.i 0)])]⟩
def yiO:Fn:=⟨4,4,AC,#[.ret (.tup #[.bin .band (.v 1) (.v 2),.v 3])]⟩
def yiP:Fn:=⟨4,4,AC,#[.ret (.tup #[.bin .bor (.v 1) (.v 2),.v 3])]⟩
def yiQ:Fn:=⟨4,4,AC,#[.ret (.tup #[.bin .bxor (.v 1) (.v 2),.v 3])]⟩
def yiR:Fn:=⟨4,4,AC,#[.ret (.call 98 #[.v 0,.v 1,.v 1,.v 3])]⟩
def yiS:Fn:=⟨4,4,AC,#[.ret (.tup #[.bin .bor (.bin .shr (.v 1) (.i 1)) (.bin .shl (.v 3) (.bin .sub (.v 0) (.i 1))),.bin .band (.v 1) (.i 1)])]⟩
def yiT:Fn:=⟨2,2,AB,#[.sfl 21 (.v 0) (AE "w") (.v 1),.sfl 21 (.v 0) (AE "words") (.dict0 AC),.sfl 21 (.v 0) (AE "marked") (.i 0)]⟩
def yiU:Fn:=⟨4,5,AB,#[.asg (.n 4) (.call 113 #[.v 1,.v 2]),.ite (.not (.call 28 #[.v 3,.i 0,.call 95 #[.fld 21 (.v 0) (AE "w")]])) #[.nope] .e,.dput (.fld 21 (.v 0) (AE "words")) (.v 4) (.v 3)]⟩
def yiV:Fn:=⟨3,3,AB,#[.ret (.mcl 21 109 (AE "held_in") (.v 0) #[.call 113 #[.v 1,.v 2]])]⟩
def yE:Fn:=⟨2,3,AB,#[.for (.n 2) (.seq (.v 1)) #[.expr (.call 114 #[.v 2])],.for (.n 2) (.seq (.v 1)) #[.expr (.mcl 21 110 (AE "go_row") (.v 0) #[.v 2])]]⟩
def yiW:Fn:=⟨2,2,AB,#[.ret (.mth .get (.fld 21 (.v 0) (AE "words")) #[.v 1,.i 0])]⟩
def yz:Fn:=⟨2,2,AB,#[.ite (.cmp .eq (.idx (.v 1) (.i 0)) (.s "mark")) #[.sfl 21 (.v 0) (AE "marked") (.idx (.v 1) (.i 1))] #[.ite (.cmp .eq (.idx (.v 1) (.i 0)) (.s "ask")) #[.sfl 21 (.v 0) (AE "marked") (.ite (.cmp .eq (.mcl 21 109 (AE "held_in") (.v 0) #[.idx (.v 1) (.i 1)]) (.i 0)) (.i 0) (.i 1))] #[.ite (.cmp .eq (.idx (.v 1) (.i 0)) (.s "set")) #[.dput (.fld 21 (.v 0) (AE "words")) (.idx (.v 1) (.i 1)) (.idx (.v 1) (.i 2))] #[.ite (.cmp .eq (.idx (.v 1) (.i 0)) (.s "times")) #[.expr (.mcl 21 111 (AE "go_times") (.v 0) #[.v 1])] #[.expr (.mcl 21 112 (AE "go_made") (.v 0) #[.v 1])]]]]]⟩
def yiX:Fn:=⟨2,3,AB,#[.asg (.n 2) (.bin .mul (.mcl 21 109 (AE "held_in") (.v 0) #[.idx (.v 1) (.i 3)]) (.mcl 21 109 (AE "held_in") (.v 0) #[.idx (.v 1) (.i 4)])),.dput (.fld 21 (.v 0) (AE "words")) (.idx (.v 1) (.i 1)) (.bin .band (.v 2) (.call 95 #[.fld 21 (.v 0) (AE "w")])),.dput (.fld 21 (.v 0) (AE "words")) (.idx (.v 1) (.i 2)) (.bin .shr (.v 2) (.fld 21 (.v 0) (AE "w")))]⟩
def yiY:Fn:=⟨2,6,AB,#[.asg (.t [2,3]) (.tup #[.mcl 21 109 (AE "held_in") (.v 0) #[.idx (.v 1) (.i 2)],.mcl 21 109 (AE "held_in") (.v 0) #[.idx (.v 1) (.neg (.i 1))]]),.asg (.t [4,5]) (.call 94 #[.idx (.v 1) (.i 0),.fld 21 (.v 0) (AE "w"),.v 2,.v 3,.fld 21 (.v 0) (AE "marked")]),.dput (.fld 21 (.v 0) (AE "words")) (.idx (.v 1) (.i 1)) (.v 4),.sfl 21 (.v 0) (AE "marked") (.v 5)]⟩
def yjz:Fn:=⟨2,2,AC,#[.ite (.not (.call 64 #[.tup #[.v 0,.v 1]])) #[.nope] .e,.ret (.tup #[.v 0,.v 1])]⟩
def yig:Fn:=⟨1,1,AC,#[.ite (.not (.call 59 #[.v 0])) #[.nope] .e]⟩
def yhT:Fn:=⟨3,3,AC,#[.ite (.or (.cmp .lt (.v 0) (.i 0)) (.cmp .ge (.v 0) (.bin .shl (.i 1) (.bin .mul (.v 1) (.v 2))))) #[.raise 0 (.fst #[.v 0,.s " is no plain worth of ",.v 2,.s " words of width ",.v 1])] .e,.ret (.call 117 #[.v 0,.v 1,.v 2])]⟩
def yiZ:Fn:=⟨2,2,AC,#[.ret (.bin .shr (.idx (.v 0) (.neg (.i 1))) (.bin .sub (.v 1) (.i 1)))]⟩
def yi0:Fn:=⟨3,4,AC,#[.asg (.n 3) (.bin .sub (.bin .shl (.i 1) (.v 1)) (.i 1)),.ret (.blt .tuple #[.comp [AD,AA 3,AA 0,AA 1] (.n 0) (.range1 (.v 2)) (.cst (.bl AC)) (.bin .band (.bin .shr (.v 2) (.bin .mul (.v 3) (.v 0))) (.v 1))])]⟩
def yau:Fn:=⟨5,10,AC,#[.expr (.call 119 #[.v 0,.v 1,.v 2,.v 3,.v 4]),.ite (.cmp .eq (.idx (.v 0) (.i 0)) (.s "compare")) #[.ret (.tup #[.tup .e,.tup .e,.call 123 #[.v 3,.v 4,.bin .mul (.v 1) (.v 2)]])] .e,.asg (.t [5,6,7]) (.call 120 #[.v 0,.v 1,.v 2,.v 3,.v 4]),.asg (.n 8) (.call 117 #[.v 5,.v 1,.call 90 #[.v 0,.v 2]]),.asg (.n 9) (.call 117 #[.bin .sub (.v 3) (.bin .mul (.v 4) (.v 5)),.v 1,.call 91 #[.v 0,.v 2]]),.ret (.tup #[.v 8,.v 9,.tup #[.v 6,.v 7,.ite (.blt .any #[.v 8]) (.i 0) (.i 1),.call 116 #[.v 8,.v 1]]])]⟩
def yn:Fn:=⟨5,5,AC,#[.ite (.not (.call 88 #[.v 0])) #[.raise 6 (.s "this is no deed")] .e,.expr (.call 115 #[.v 3,.v 1,.v 2]),.expr (.call 115 #[.v 4,.v 1,.v 2]),.ite (.and (.cmp .ne (.v 4) (.i 0)) (.not (.call 89 #[.v 0]))) #[.raise 0 (.fst #[.idx (.v 0) (.i 0),.s " is a deed of one number"])] .e,.ite (.and (.cmp .eq (.v 4) (.i 0)) (.cmp .isin (.idx (.v 0) (.i 0)) (.cst yfd))) #[.raise 7 (.s "there is no quotient by nought")] .e]⟩
def yX:Fn:=⟨5,6,AC,#[.ite (.cmp .eq (.idx (.v 0) (.i 0)) (.s "led")) #[.ret (.call 139 #[.v 0,.v 1,.v 2,.v 3])] .e,.mkr 5 yh9 (.idx (.v 0) (.i 0)) #[.v 3,.ite (.cmp .isin (.idx (.v 0) (.i 0)) (.cst yy)) (.idx (.v 0) (.i 1)) (.v 4),.bin .mul (.v 1) (.v 2)]]⟩
def yi1:Fn:=⟨2,2,AC,#[.ret (.bin .sub (.v 0) (.bin .shl (.bin .shr (.v 0) (.bin .sub (.v 1) (.i 1))) (.v 1)))]⟩
def yih:Fn:=⟨2,3,AC,#[.asg (.n 2) (.bin .shl (.i 1) (.bin .sub (.v 1) (.i 1))),.ret (.ite (.chain .le .lt (.neg (.v 2)) (.v 0) (.v 2)) (.i 0) (.i 1))]⟩
def yi2:Fn:=⟨3,3,AC,#[.ret (.tup #[.blt .int #[.cmp .lt (.v 0) (.v 1)],.blt .int #[.cmp .lt (.call 121 #[.v 0,.v 2]) (.call 121 #[.v 1,.v 2])],.blt .int #[.cmp .eq (.v 0) (.v 1)],.i 0])]⟩
def yi3:Fn:=⟨3,3,AC,#[.ret (.tup #[.bin .add (.v 0) (.v 1),.bin .shr (.bin .add (.v 0) (.v 1)) (.v 2),.call 122 #[.bin .add (.call 121 #[.v 0,.v 2]) (.call 121 #[.v 1,.v 2]),.v 2]])]⟩
def yi4:Fn:=⟨3,3,AC,#[.ret (.tup #[.bin .sub (.v 0) (.v 1),.blt .int #[.cmp .lt (.v 0) (.v 1)],.call 122 #[.bin .sub (.call 121 #[.v 0,.v 2]) (.call 121 #[.v 1,.v 2]),.v 2]])]⟩
def yi5:Fn:=⟨3,3,AC,#[.ret (.call 125 #[.i 0,.v 0,.v 2])]⟩
def yi6:Fn:=⟨3,3,AC,#[.ret (.tup #[.bin .band (.v 0) (.v 1),.i 0,.i 0])]⟩
def yi7:Fn:=⟨3,3,AC,#[.ret (.tup #[.bin .bor (.v 0) (.v 1),.i 0,.i 0])]⟩
def yi8:Fn:=⟨3,3,AC,#[.ret (.tup #[.bin .bxor (.v 0) (.v 1),.i 0,.i 0])]⟩
def yi9:Fn:=⟨3,3,AC,#[.ret (.tup #[.bin .sub (.neg (.i 1)) (.v 0),.i 0,.i 0])]⟩
def yja:Fn:=⟨3,3,AC,#[.ret (.tup #[.bin .shl (.v 0) (.v 1),.bin .band (.bin .shr (.bin .shl (.v 0) (.v 1)) (.v 2)) (.i 1),.i 0])]⟩
def yjb:Fn:=⟨3,3,AC,#[.ret (.tup #[.bin .shr (.v 0) (.v 1),.bin .band (.bin .shr (.bin .mul (.i 2) (.v 0)) (.v 1)) (.i 1),.i 0])]⟩
def yjc:Fn:=⟨3,3,AC,#[.ret (.call 132 #[.call 121 #[.v 0,.v 2],.v 1,.v 2])]⟩
def yjd:Fn:=⟨3,4,AC,#[.asg (.n 3) (.bin .mod (.v 1) (.v 2)),.ret (.tup #[.bin .bor (.bin .shl (.v 0) (.v 3)) (.bin .shr (.v 0) (.bin .sub (.v 2) (.v 3))),.i 0,.i 0])]⟩
def yje:Fn:=⟨3,3,AC,#[.ret (.tup #[.bin .mul (.v 0) (.v 1),.i 0,.ite (.cmp .eq (.bin .shr (.bin .mul (.v 0) (.v 1)) (.v 2)) (.i 0)) (.i 0) (.i 1)])]⟩
def yjf:Fn:=⟨3,4,AC,#[.asg (.n 3) (.bin .mul (.call 121 #[.v 0,.v 2]) (.call 121 #[.v 1,.v 2])),.ret (.tup #[.v 3,.i 0,.call 122 #[.v 3,.v 2]])]⟩
def yjg:Fn:=⟨3,3,AC,#[.ret (.tup #[.bin .fdiv (.v 0) (.v 1),.i 0,.i 0])]⟩
def yii:Fn:=⟨3,6,AC,#[.asg (.t [3,4]) (.tup #[.call 121 #[.v 0,.v 2],.call 121 #[.v 1,.v 2]]),.asg (.n 5) (.bin .fdiv (.blt .abs #[.v 3]) (.blt .abs #[.v 4])),.ite (.cmp .ne (.cmp .lt (.v 3) (.i 0)) (.cmp .lt (.v 4) (.i 0))) #[.asg (.n 5) (.neg (.v 5))] .e,.ret (.tup #[.v 5,.i 0,.call 122 #[.v 5,.v 2]])]⟩
def ybn:Fn:=⟨4,6,AC,#[.asg (.n 4) (.ite (.cmp .eq (.idx (.v 0) (.i 1)) (.s "signed")) (.call 121 #[.v 3,.bin .mul (.v 1) (.v 2)]) (.v 3)),.asg (.n 5) (.bin .mul (.v 1) (.call 90 #[.v 0,.v 2])),.ite (.cmp .eq (.idx (.v 0) (.i 2)) (.s "signed")) #[.ret (.tup #[.v 4,.i 0,.call 122 #[.v 4,.v 5]])] .e,.ret (.tup #[.v 4,.i 0,.ite (.cmp .eq (.bin .shr (.v 4) (.v 5)) (.i 0)) (.i 0) (.i 1)])]⟩
def ybN:Fn:=⟨5,7,AC,#[.expr (.call 119 #[.v 0,.v 1,.v 2,.v 3,.v 4]),.asg (.n 5) (.call 141 #[.v 1,.v 2,.v 3,.v 4]),.expr (.mcl 21 108 (AE "run") (.v 5) #[.call 87 #[.v 0,.v 1,.v 2]]),.asg (.n 6) (.call 142 #[.v 5,.s "c",.call 90 #[.v 0,.v 2]]),.ret (.tup #[.v 6,.call 142 #[.v 5,.s "d",.call 91 #[.v 0,.v 2]],.call 142 #[.v 5,.s "m",.cst yki]])]⟩
def yC:Fn:=⟨4,9,AB,#[.asg (.n 4) (.new 21 105 #[.v 0]),.for (.t [5,6]) (.seq (.tup #[.tup #[.s "a",.v 2],.tup #[.s "b",.v 3]])) #[.for (.t [7,8]) (.enum (.call 117 #[.v 6,.v 0,.v 1])) #[.expr (.mcl 21 106 (AE "put") (.v 4) #[.v 5,.v 7,.v 8])]],.ret (.v 4)]⟩
def yan:Fn:=⟨3,3,AB,#[.ret (.blt .tuple #[.comp [AD,AA 1,AA 0] (.n 0) (.range1 (.v 2)) (.cst (.bl AC)) (.mcl 21 107 (AE "word") (.v 2) #[.v 1,.v 0])])]⟩
def yjh:Fn:=⟨1,1,AB,#[.ret (.newl #[.slc (.v 0) (.cst .non) (.i 63),.i 0,.i 0,.cst (.bl AB)])]⟩
def yaw:Fn:=⟨1,8,AC,#[.asg (.n 1) (.tup #[.i 2147483647,.i 2147483629,.i 2147483587,.i 2147483579,.i 2147483563]),.asg (.n 2) (.i 0),.for (.t [3,4]) (.enum (.v 1)) #[.asg (.n 5) (.bin .add (.v 0) (.idx (.tup #[.i 11,.i 101,.i 1009,.i 10007,.i 100003]) (.v 3))),.asg (.n 5) (.bin .mod (.bin .mul (.v 5) (.bin .add (.i 48271) (.bin .mul (.i 2) (.v 3)))) (.v 4)),.asg (.n 6) (.bin .mod (.bin .mul (.v 5) (.v 5)) (.v 4)),.asg (.n 7) (.bin .mod (.bin .mul (.bin .mod (.bin .mul (.v 6) (.v 6)) (.v 4)) (.v 5)) (.v 4)),.asg (.n 2) (.bin .add (.bin .mul (.v 2) (.v 4)) (.v 7))],.ret (.v 2)]⟩
def yag:Fn:=⟨1,4,AB,#[.asg (.t [1,2]) (.tup #[.idx (.v 0) (.i 0),.idx (.v 0) (.i 1)]),.asg (.n 3) (.bin .add (.bin .mul (.i 31) (.v 2)) (.i 7)),.ite (.cmp .gt (.blt .len #[.v 1]) (.i 0)) #[.asg (.n 3) (.bin .mul (.i 104729) (.bin .fdiv (.v 2) (.blt .len #[.v 1]))),.asg (.n 3) (.bin .add (.v 3) (.idx (.v 1) (.bin .mod (.v 2) (.blt .len #[.v 1]))))] .e,.six (.v 0) (.i 1) (.bin .add (.v 2) (.i 1)),.six (.v 0) (.i 3) (.or (.cmp .ge (.v 2) (.blt .len #[.v 1])) (.cmp .lt (.v 3) (.bin .pow (.i 10) (.i 18)))),.ite (.idx (.v 0) (.i 3)) #[.six (.v 0) (.i 2) (.call 144 #[.v 3])] #[.six (.v 0) (.i 2) (.bin .sub (.v 3) (.bin .pow (.i 10) (.i 18)))]]⟩
def yaa:Fn:=⟨2,4,AB,#[.asg (.n 2) (.i 0),.while (.and (.cmp .lt (.v 2) (.i 64)) (.or (.cmp .eq (.idx (.v 0) (.i 2)) (.i 0)) (.and (.idx (.v 0) (.i 3)) (.cmp .lt (.idx (.v 0) (.i 2)) (.bin .mul (.v 1) (.i 4096)))))) #[.expr (.call 145 #[.v 0]),.aug 2 .add (.i 1),.ite (.and (.idx (.v 0) (.i 3)) (.cmp .lt (.idx (.v 0) (.i 2)) (.bin .mul (.v 1) (.i 4096)))) #[.six (.v 0) (.i 2) (.bin .add (.idx (.v 0) (.i 2)) (.bin .mul (.bin .mul (.v 1) (.i 4096)) (.bin .add (.i 1) (.bin .mod (.idx (.v 0) (.i 2)) (.i 4093)))))] .e],.asg (.n 3) (.bin .mod (.idx (.v 0) (.i 2)) (.v 1)),.six (.v 0) (.i 2) (.bin .fdiv (.idx (.v 0) (.i 2)) (.v 1)),.ret (.v 3)]⟩
def yji:Fn:=⟨2,2,AB,#[.ret (.tup #[.bin .add (.i 4) (.call 146 #[.v 0,.i 13]),.bin .add (.i 1) (.call 146 #[.v 0,.v 1])])]⟩
def yV:Fn:=⟨3,13,AB,#[.asg (.n 3) (.call 146 #[.v 0,.i 12]),.asg (.n 4) (.i 1),.for (.n 5) (.range1 (.bin .mul (.v 1) (.v 2))) #[.asg (.n 4) (.bin .mul (.i 2) (.v 4))],.asg (.n 6) (.tup #[.i 0,.i 1,.bin .sub (.v 4) (.i 1),.bin .fdiv (.v 4) (.i 2),.bin .sub (.bin .fdiv (.v 4) (.i 2)) (.i 1),.bin .sub (.v 4) (.i 2)]),.ite (.cmp .lt (.v 3) (.i 6)) #[.ret (.idx (.v 6) (.v 3))] .e,.asg (.n 7) (.call 146 #[.v 0,.v 4]),.ite (.cmp .eq (.v 3) (.i 6)) #[.asg (.n 8) (.i 1),.for (.n 5) (.range1 (.call 146 #[.v 0,.bin .mul (.v 1) (.v 2)])) #[.asg (.n 8) (.bin .mul (.i 2) (.v 8))],.ret (.bin .mul (.bin .fdiv (.v 7) (.v 8)) (.v 8))] .e,.ite (.cmp .eq (.v 3) (.i 7)) #[.asg (.n 8) (.i 1),.for (.n 5) (.range1 (.call 146 #[.v 0,.bin .mul (.v 1) (.v 2)])) #[.asg (.n 8) (.bin .mul (.i 2) (.v 8))],.ret (.bin .sub (.v 4) (.v 8))] .e,.ite (.cmp .gt (.v 3) (.i 9)) #[.ret (.v 7)] .e,.asg (.n 9) (.i 1),.for (.n 5) (.range1 (.v 1)) #[.asg (.n 9) (.bin .mul (.i 2) (.v 9))],.asg (.n 10) (.i 0),.for (.n 5) (.range1 (.v 2)) #[.asg (.n 11) (.bin .mod (.bin .fdiv (.v 7) (.bin .add (.v 5) (.i 1))) (.v 9)),.asg (.n 12) (.tup #[.i 0,.i 1,.bin .sub (.v 9) (.i 1),.bin .fdiv (.v 9) (.i 2),.v 11]),.asg (.n 10) (.bin .add (.bin .mul (.v 10) (.v 9)) (.idx (.v 12) (.call 146 #[.v 0,.i 5])))],.ret (.v 10)]⟩
def yjj:Fn:=⟨1,3,AC,#[.asg (.n 1) (.i 1),.for (.n 2) (.range1 (.v 0)) #[.asg (.n 1) (.bin .mul (.i 2) (.v 1))],.ret (.v 1)]⟩
def ylt:Fn:=⟨1,3,AB,#[.asg (.n 1) (.lst #[.isx (.v 0) [0,6,7] [.cls 6],.isx (.v 0) [0,6,7] [.cls 0],.isx (.v 0) [0,6,7] [.cls 7]]),.asg (.n 2) (.isx (.v 0) [0,6,7] [.cls 9,.cls 10,.cls 12,.cls 4,.cls 5,.cls 1,.cls 11,.cls 8,.cls 2,.cls 13,.cls 3]),.ite (.or (.v 2) (.or (.cmp .ne (.mth .count (.v 1) #[.cst (.bl AC)]) (.i 1)) (.not (.isx (.v 0) [0,6,7] [.val])))) #[.nope] .e,.ret (.idx (.tup #[.s "deed",.s "fit",.s "quotient"]) (.mth .index (.v 1) #[.cst (.bl AC)]))]⟩
def yab:Fn:=⟨6,8,AC,#[.asg (.n 6) (.s "told"),.try #[.ite (.cmp .eq (.v 0) (.i 0)) #[.expr (.call 86 #[.v 1])] .e,.ite (.cmp .eq (.v 0) (.i 1)) #[.expr (.call 118 #[.v 1,.v 2,.v 3,.v 4,.v 5])] .e,.ite (.cmp .eq (.v 0) (.i 2)) #[.expr (.call 140 #[.v 1,.v 2,.v 3,.v 4,.v 5])] .e] [0,6,7] 7 #[.asg (.n 6) (.qcl 150 #[.v 7])],.ret (.v 6)]⟩
def yL:Fn:=⟨2,5,AB,#[.asg (.n 2) (.call 146 #[.v 0,.i 3]),.asg (.n 3) (.call 146 #[.v 0,.bin .add (.blt .len #[.v 1]) (.blt .int #[.cmp .eq (.v 2) (.i 0)])]),.asg (.n 4) (.idx (.s "abcdefghijklmnopqrstuvwxyz S_") (.call 146 #[.v 0,.i 29])),.ite (.cmp .eq (.v 2) (.i 0)) #[.ret (.bin .add (.bin .add (.slc (.v 1) (.cst .non) (.v 3)) (.v 4)) (.slc (.v 1) (.v 3) (.cst .non)))] .e,.ite (.cmp .eq (.v 2) (.i 1)) #[.ret (.bin .add (.slc (.v 1) (.cst .non) (.v 3)) (.slc (.v 1) (.bin .add (.v 3) (.i 1)) (.cst .non)))] .e,.ret (.bin .add (.bin .add (.slc (.v 1) (.cst .non) (.v 3)) (.v 4)) (.slc (.v 1) (.bin .add (.v 3) (.i 1)) (.cst .non)))]⟩
def yba:Fn:=⟨1,2,AB,#[.asg (.n 1) (.bin .pow (.i 10) (.i 9)),.ite (.cmp .eq (.call 146 #[.v 0,.i 8]) (.i 7)) #[.asg (.n 1) (.bin .pow (.i 10) (.i 59))] .e,.ret (.call 146 #[.v 0,.v 1])]⟩
def yF:Fn:=⟨1,7,AB,#[.asg (.n 1) (.call 146 #[.v 0,.i 40]),.asg (.n 2) (.tup #[.s "sum",.s "difference",.s "turned",.s "compare",.s "both",.s "any",.s "odd",.s "bare",.s "product",.s "signed product"]),.asg (.n 3) (.idx (.bin .add (.v 2) (.tup #[.s "quotient",.s "signed quotient",.s "left",.s "right",.s "down",.s "roll",.s "led"])) (.call 146 #[.v 0,.i 17])),.asg (.n 4) (.call 153 #[.v 0]),.asg (.n 5) (.call 152 #[.v 0,.v 3]),.ite (.and (.cmp .gt (.v 1) (.i 34)) (.and (.cmp .notin (.v 5) (.v 2)) (.cmp .notin (.v 5) (.tup #[.s "quotient",.s "signed quotient"])))) #[.ret (.tup #[.v 5])] .e,.ite (.cmp .gt (.v 1) (.i 31)) #[.ret (.idx (.tup #[.s "left",.s "right",.s "down",.s "roll"]) (.bin .mod (.v 4) (.i 4)))] .e,.asg (.n 6) (.newl #[.tup .e,.cst .non,.s "sum",.lst #[.s "sum"],.tup #[.s "sum",.i 0],.tup #[.s "sum",.s "sum"],.tup #[.cst (.bl AC)],.tup #[.i 0],.tup #[.s "left"],.tup #[.s "left",.bin .add (.i 101) (.v 4)]]),.asg (.n 6) (.thw (.bin .add (.frz (.v 6)) (.lst #[.tup #[.s "right",.bin .sub (.bin .sub (.i 0) (.i 1)) (.v 4)],.tup #[.s "down",.cst (.bl AC)],.tup #[.s "roll",.s "1"],.tup #[.s "left",.i 1,.i 1],.tup #[.s "led"],.tup #[.s "led",.s "plain",.i 1]]))),.asg (.n 6) (.thw (.bin .add (.frz (.v 6)) (.lst #[.tup #[.s "led",.s "plain",.s "plain",.bin .add (.i 5) (.v 4)],.tup #[.s "led",.s "signed",.s "plain",.bin .sub (.bin .sub (.i 0) (.i 4)) (.v 4)]]))),.expr (.mth .append (.v 6) #[.tup #[.s "led",.s "Plain",.s "plain",.i 0]]),.asg (.n 6) (.thw (.bin .add (.frz (.v 6)) (.lst #[.tup #[.s "led",.s "plain",.s "other",.i 1],.tup #[.s "led",.i 0,.s "plain",.i 1],.tup #[.s "led",.s "plain",.s "signed",.cst (.bl AC)]]))),.asg (.n 6) (.thw (.bin .add (.frz (.v 6)) (.lst #[.tup #[.lst #[.s "sum"]],.tup #[.tup #[.s "sum"]],.tup #[.s "down",.lst #[.i 1]]]))),.ret (.idx (.bin .add (.frz (.v 6)) (.call 155 #[.v 0,.v 3,.v 5,.v 4])) (.bin .mod (.v 1) (.i 32)))]⟩
def yu:Fn:=⟨4,8,AB,#[.asg (.n 4) (.call 152 #[.v 0,.idx (.tup #[.s "plain",.s "signed"]) (.bin .mod (.v 3) (.i 2))]),.ite (.cmp .isin (.v 4) (.tup #[.s "plain",.s "signed"])) #[.asg (.n 4) (.s "")] .e,.asg (.n 5) (.idx (.tup #[.v 1,.v 2]) (.bin .mod (.bin .fdiv (.v 3) (.i 2)) (.i 2))),.ite (.cmp .eq (.v 5) (.s "led")) #[.asg (.n 5) (.s "lead")] .e,.asg (.n 6) (.call 152 #[.v 0,.idx (.tup #[.s "left",.s "right",.s "down",.s "roll"]) (.bin .mod (.bin .fdiv (.v 3) (.i 4)) (.i 4))]),.ite (.cmp .isin (.v 6) (.tup #[.s "left",.s "right",.s "down",.s "roll"])) #[.asg (.n 6) (.s "sum")] .e,.asg (.n 7) (.lst #[.tup #[.s "led",.s "plain",.s "plain"],.tup #[.s "led",.s "signed",.s "plain",.i 1,.v 3],.tup #[.v 5,.s "plain",.s "signed",.i 1]]),.asg (.n 7) (.bin .add (.v 7) (.lst #[.tup #[.s "led",.v 4,.s "plain",.i 1],.tup #[.s "led",.s "plain",.v 4,.i 1],.tup #[.s "sum",.s "plain",.s "plain",.i 1]])),.ret (.bin .add (.v 7) (.lst #[.tup #[.v 6,.bin .mod (.v 3) (.i 101)]]))]⟩
def yR:Fn:=⟨2,7,AB,#[.asg (.n 2) (.call 146 #[.v 0,.i 17]),.asg (.n 3) (.idx (.tup #[.i 0,.i 1,.i 100,.call 146 #[.v 0,.i 101]]) (.call 146 #[.v 0,.i 4])),.asg (.n 4) (.bin .sub (.call 146 #[.v 0,.i 8]) (.i 3)),.asg (.n 5) (.call 146 #[.v 0,.i 4]),.asg (.n 6) (.tup #[.s "sum",.s "difference",.s "compare",.s "both",.s "any",.s "odd",.s "product",.s "signed product",.s "quotient"]),.asg (.n 6) (.bin .add (.v 6) (.tup #[.s "signed quotient",.s "turned",.s "bare",.s "left",.s "right",.s "down",.s "roll"])),.ite (.cmp .eq (.v 2) (.i 16)) #[.ret (.tup #[.s "led",.idx (.tup #[.s "plain",.s "signed"]) (.bin .mod (.v 5) (.i 2)),.idx (.tup #[.s "plain",.s "signed"]) (.bin .fdiv (.v 5) (.i 2)),.blt .max #[.v 4,.bin .sub (.i 1) (.v 1)]])] .e,.ite (.cmp .gt (.v 2) (.i 11)) #[.ret (.tup #[.idx (.v 6) (.v 2),.v 3])] .e,.ret (.tup #[.idx (.v 6) (.v 2)])]⟩
def yD:Fn:=⟨4,5,AC,#[.ite (.or (.cmp .lt (.blt .len #[.v 0]) (.i 2)) (.cmp .notin (.idx (.v 0) (.neg (.i 1))) (.tup #[.i 0,.i 1]))) #[.ret (.cst (.bl AC))] .e,.asg (.n 4) (.bin .add (.slc (.v 0) (.cst .non) (.neg (.i 1))) (.tup #[.cmp .eq (.idx (.v 0) (.neg (.i 1))) (.i 1)])),.ret (.blt .all #[.comp [AD,AA 4,AA 1,AA 2,AA 3] (.n 0) (.range1 (.i 3)) (.cst (.bl AC)) (.cmp .eq (.call 151 #[.v 0,.v 1,.v 2,.v 3,.v 4,.i 0]) (.s "deed"))])]⟩
def yaJ:Fn:=⟨1,16,AC,#[.asg (.n 1) (.call 143 #[.v 0]),.asg (.n 2) (.call 154 #[.v 1]),.asg (.t [3,4]) (.call 147 #[.v 1,.i 4]),.asg (.n 5) (.call 149 #[.bin .mul (.v 3) (.v 4)]),.asg (.n 6) (.call 148 #[.v 1,.v 3,.v 4]),.asg (.n 7) (.call 153 #[.v 1]),.asg (.n 8) (.call 156 #[.v 1,.v 4]),.asg (.n 9) (.cmp .isin (.idx (.v 8) (.i 0)) (.tup #[.s "turned",.s "bare",.s "left",.s "right",.s "down",.s "roll",.s "led"])),.asg (.n 10) (.bin .mul (.bin .add (.i 1) (.bin .mod (.v 7) (.bin .sub (.v 5) (.i 1)))) (.blt .int #[.not (.v 9)])),.asg (.n 11) (.call 118 #[.v 8,.v 3,.v 4,.v 6,.v 10]),.for (.n 12) (.range1 (.i 3)) #[.for (.t [13,14]) (.seq (.tup #[.tup #[.v 6,.i 0],.tup #[.bin .sub (.bin .sub (.i 0) (.i 1)) (.v 7),.i 0],.tup #[.bin .add (.v 5) (.v 7),.i 1],.tup #[.v 6,.v 5],.tup #[.v 6,.i 0],.tup #[.bin .add (.v 5) (.v 7),.i 1]])) #[.ite (.cmp .ne (.call 151 #[.v 12,.v 2,.v 3,.v 4,.v 13,.v 14]) (.s "deed")) #[.nope] .e]],.for (.n 12) (.seq (.tup #[.i 1,.i 2])) #[.for (.t [13,14]) (.seq (.tup #[.tup #[.bin .sub (.bin .sub (.i 0) (.i 1)) (.v 7),.i 0],.tup #[.v 5,.i 0],.tup #[.bin .add (.v 5) (.v 7),.v 10],.tup #[.v 6,.bin .sub (.bin .sub (.i 0) (.i 1)) (.v 7)],.tup #[.v 6,.bin .add (.v 5) (.v 7)],.tup #[.v 5,.i 0]])) #[.ite (.cmp .ne (.call 151 #[.v 12,.v 8,.v 3,.v 4,.v 13,.v 14]) (.s "fit")) #[.nope] .e],.asg (.n 15) (.idx (.tup #[.s "told",.s "quotient"]) (.blt .int #[.cmp .isin (.idx (.v 8) (.i 0)) (.tup #[.s "quotient",.s "signed quotient"])])),.ite (.or (.cmp .ne (.call 151 #[.v 12,.v 8,.v 3,.v 4,.v 6,.i 0]) (.v 15)) (.cmp .ne (.call 151 #[.v 12,.v 8,.v 3,.v 4,.v 6,.i 0]) (.v 15))) #[.nope] .e,.ite (.cmp .ne (.call 151 #[.v 12,.v 8,.v 3,.v 4,.v 6,.bin .add (.i 1) (.bin .mod (.v 7) (.bin .sub (.v 5) (.i 1)))]) (.idx (.tup #[.s "told",.s "fit"]) (.blt .int #[.v 9]))) #[.nope] .e],.ite (.or (.not (.call 157 #[.v 8,.v 3,.v 4,.v 6])) (.cmp .ne (.call 118 #[.v 8,.v 3,.v 4,.v 6,.v 10]) (.v 11))) #[.nope] .e,.ret (.and (.cmp .eq (.call 151 #[.i 0,.v 8,.v 3,.v 4,.i 0,.i 0]) (.s "told")) (.cmp .eq (.call 86 #[.v 8]) (.call 86 #[.v 8])))]⟩
end ym
def Tl:IK Fn:=[ykn,yko,ykp,ykq,ykr,yks,ykt,yku,ykv,ykw,ykx,yky,ykz,ykA,ykB,ykC,ykD,ykE,ykF,ykG,ykH,ykI,ykJ,ykK,ykL,ykM,ykN,ykO,y7,yjw,ykP,ykQ,ykR,ykS,ykT,ykU,ykV,ykW,ykX,ykY,ykZ,yk0,yk1,yk2,yk3,yk4,yk5,yk6,yk7,yk8,yk9,yla,ylb,ylc,yle,ylf,ylg,ylh,yli,yix,ylj,yI,yiy,yh1,yiz,ylk,yiA,yll,yiB,ylm,yln,ylo,yjx,yj,yo,yiC,yiD,yiE,yiF,yjy,yiG,yiH,ylp,ylq,yid,yhS,yh2,yie,yf,yiI,yT,yh3,ylr,yls,yiJ,yiK,yiL,yiM,yiN,yif,yiO,yiP,yiQ,yiR,yiS,yiT,yiU,yiV,yE,yiW,yz,yiX,yiY,yjz,yig,yhT,yiZ,yi0,yau,yn,yX,yi1,yih,yi2,yi3,yi4,yi5,yi6,yi7,yi8,yi9,yja,yjb,yjc,yjd,yje,yjf,yjg,yii,ybn,ybN,yC,yan,yjh,yaw,yag,yaa,yji,yV,yjj,ylt,yab,yL,yba,yF,yu,yR,yD,yaJ]
def T(i:IL):Option Fn:=Tl[i]?
abbrev yhU:IL:=28
abbrev yjA:IL:=29
abbrev yh4:IL:=59
abbrev yjB:IL:=61
abbrev yjC:IL:=62
abbrev y8:IL:=63
abbrev ylu:IL:=64
abbrev ylv:IL:=66
abbrev ylw:IL:=68
abbrev ylx:IL:=72
abbrev yjD:IL:=73
abbrev yij:IL:=74
abbrev yjE:IL:=75
abbrev yly:IL:=76
abbrev yjF:IL:=77
abbrev yjG:IL:=78
abbrev yhV:IL:=79
abbrev ylz:IL:=80
abbrev ylA:IL:=81
abbrev yjk:IL:=84
abbrev yh5:IL:=85
abbrev yY:IL:=86
abbrev yjl:IL:=87
abbrev yA:IL:=88
abbrev yh6:IL:=89
abbrev yk:IL:=90
abbrev yik:IL:=91
abbrev yjH:IL:=94
abbrev yjI:IL:=95
abbrev yjJ:IL:=96
abbrev yjK:IL:=97
abbrev yjL:IL:=98
abbrev yjM:IL:=99
abbrev yjN:IL:=100
abbrev yjO:IL:=101
abbrev yjP:IL:=102
abbrev yjQ:IL:=103
abbrev yjR:IL:=104
abbrev yjS:IL:=105
abbrev ylB:IL:=106
abbrev yil:IL:=107
abbrev yjT:IL:=108
abbrev yh7:IL:=109
abbrev y4:IL:=110
abbrev ylC:IL:=111
abbrev yjU:IL:=112
abbrev yjV:IL:=113
abbrev yh8:IL:=114
abbrev yB:IL:=115
abbrev yjm:IL:=116
abbrev y9:IL:=117
abbrev yet:IL:=118
abbrev yl:IL:=119
abbrev y6:IL:=120
abbrev ym:IL:=121
abbrev yfI:IL:=122
abbrev ylD:IL:=123
abbrev yjW:IL:=124
abbrev yjn:IL:=125
abbrev yjX:IL:=126
abbrev yjY:IL:=127
abbrev yjZ:IL:=128
abbrev yj0:IL:=129
abbrev yj1:IL:=130
abbrev yj2:IL:=131
abbrev yjo:IL:=132
abbrev yj3:IL:=133
abbrev yj4:IL:=134
abbrev yj5:IL:=135
abbrev yj6:IL:=136
abbrev yj7:IL:=137
abbrev yj8:IL:=138
abbrev ylE:IL:=139
abbrev yhW:IL:=140
abbrev yj9:IL:=141
abbrev yim:IL:=142
abbrev yka:IL:=143
abbrev ykb:IL:=144
abbrev ylF:IL:=145
abbrev yfU:IL:=146
abbrev ykc:IL:=147
abbrev ykd:IL:=148
abbrev yke:IL:=149
abbrev yin:IL:=150
abbrev yv:IL:=151
abbrev yjp:IL:=152
abbrev yjq:IL:=153
abbrev yjr:IL:=154
abbrev ylG:IL:=155
abbrev ykf:IL:=156
abbrev yio:IL:=157
abbrev yjs:IL:=158
end IC
namespace WK
open PySem L2 IC
def top(i:IL):Stmt:=Ei.main.body.getD i (.Pass #[0,0,0,0])
def tbQ:Tb where
 tbl:=[#["word","word","word",top 22,["letter","c","i","j","m"],["letter","c","i","j","m"],ykn,.fd [0,0,0,0]],#["last_word","last_word","last_word",top 23,["letter"],["letter"],yko,.fn],#["rows","rows","rows",top 24,["told"],["told"],ykp,.fn],#["rounds","rounds","rounds",top 25,["count","sentence","inner"],["count","sentence","inner"],ykq,.fn],#["lowest","lowest","lowest",top 26,["letter","c","i","j","m"],["letter","c","i","j","m"],ykr,.fd [0,0,0,0]],#["term","term","term",top 27,["f","things","i","p","q","r"],["f","things","i","p","q","r"],yks,.fd [0,0,0,0]],#["moved_parts","moved","moved",top 28,["to","source","c","sentence"],["to","source","c"],ykt,.fd [0]],#["doubled_parts","doubled","doubled",top 30,["letter","count"],["letter","count"],yku,.fn],#["kept_mark","kept_mark","kept_mark",top 32,["to"],["to"],ykv,.fn],#["kept_contrary","kept_contrary","kept_contrary",top 33,["to"],["to"],ykw,.fn],#["sign_filled","sign_filled","sign_filled",top 34,["to","last"],["to","last"],ykx,.fn],#["gathered_unlike","gathered_unlike","gathered_unlike",top 35,["to","here","fill","count"],["to","here","fill","count"],yky,.fn],#["asked_words","asked_words","asked_words",top 36,["letter","m","count","gathered"],["letter","m","count"],ykz,.fn],#["answer_marks","answer_marks","answer_marks",top 37,["c","m","sign"],["c","m"],ykA,.fn],#["led_telling","led_telling","led_telling",top 42,["read","meant","e","told"],["read","meant","e"],ykB,.fn],#["filled","filled","filled",top 43,["to","way","last"],["to","way","last"],ykC,.fn],#["widened","widened","widened",top 44,["e","sentence"],["e"],ykD,.fn],#["dropped","dropped","dropped",top 45,["e"],["e"],ykE,.fn],#["product_telling","product_telling","product_telling",top 50,["unfit"],[],ykF,.fn],#["multiplied_products","multiplied","multiplied",top 51,["sentence","begun","ended"],[],ykG,.fn],#["by_one_word","by_one_word","by_one_word",top 53,["here","this_word","sentence"],[],ykH,.fn],#["quotient_telling","quotient_telling","quotient_telling",top 57,[],[],ykI,.fn],#["by_nought","by_nought","by_nought",top 58,[],[],ykJ,.fn],#["divided_quotients","divided","divided",top 59,["x","y","answer","rest","sentence","one_place"],["x","y","answer","rest"],ykK,.fn],#["next_place","next_place","next_place",top 61,["rest"],["rest"],ykL,.fn],#["less_divisor","less_divisor","less_divisor",top 62,["rest","y","taken","top"],["rest","y"],ykM,.fn],#["put_back","put_back","put_back",top 63,["rest","y","added","top","begun"],["rest","y"],ykN,.fn],#["next_figure","next_figure","next_figure",top 64,["answer"],["answer"],ykO,.fn],#["is_whole","is_whole","is_whole",top 67,["thing","low","high"],["thing","low","high"],y7,.fn],#["is_letter","is_letter","is_letter",top 68,["thing"],["thing"],yjw,.fn],#["are_told","are_told","are_told",top 69,["thing","many"],["thing","many"],ykP,.fn],#["left_telling","left_telling","left_telling",top 71,["s"],["s"],ykQ,.fn],#["right_telling","right_telling","right_telling",top 72,["s"],["s"],ykR,.fn],#["down_telling","down_telling","down_telling",top 73,["s"],["s"],ykS,.fn],#["roll_telling","roll_telling","roll_telling",top 74,["s"],["s"],ykT,.fn],#["shifted","shifted","shifted",top 75,["s","ahead","by_one"],["s","ahead","by_one"],ykU,.fn],#["halved_shifts","halved","halved",top 76,["here"],[],ykV,.fn],#["highest_two","highest_two","highest_two",top 78,[],[],ykW,.fn],#["left_behind","left_behind","left_behind",top 79,[],[],ykX,.fn],#["signed_product_telling","signed_product_telling","signed_product_telling",top 87,["signs"],[],ykY,.fn],#["signed_quotient_telling","signed_quotient_telling","signed_quotient_telling",top 88,["signs","begun","ended"],[],ykZ,.fn],#["kept_sign","kept_sign","kept_sign",top 89,["to","letter"],["to","letter"],yk0,.fn],#["worth_of","worth_of","worth_of",top 90,["cell"],["cell"],yk1,.fn],#["less_for_x","less_for_x","less_for_x",top 91,[],[],yk2,.fn],#["less_for_y","less_for_y","less_for_y",top 92,["before"],[],yk3,.fn],#["product_terms","product_terms","product_terms",top 93,[],[],yk4,.fn],#["less_terms","less_terms","less_terms",top 94,["sign","letter"],["sign","letter"],yk5,.fn],#["less_where","less_where","less_where",top 95,["sign","letter","sentence","upper"],["sign","letter","sentence"],yk6,.fn],#["unfit_product","unfit_product","unfit_product",top 96,["looked"],[],yk7,.fn],#["turned_where","turned_where","turned_where",top 97,["sign","to","source","sentence"],["sign","to","source"],yk8,.fn],#["unfit_quotient","unfit_quotient","unfit_quotient",top 98,[],[],yk9,.fn],#["sum_telling","sum_telling","sum_telling",top 100,["added","sentence","lone"],[],yla,.fn],#["difference_telling","difference_telling","difference_telling",top 101,["taken","sentence","lone"],[],ylb,.fn],#["turned_telling","turned_telling","turned_telling",top 102,["taken","sentence","lone"],[],ylc,.fn],#["compare_telling","compare_telling","compare_telling",top 103,["below"],[],yle,.fn],#["pairwise_telling","pairwise_telling","pairwise_telling",top 104,["name","paired"],["name"],ylf,.fn],#["bare_telling","bare_telling","bare_telling",top 105,["sentence","bared"],[],ylg,.fn],#["carried","carried","carried",top 106,["row","sentence"],["row","sentence"],ylh,.fn],#["lone_sign","lone_sign","lone_sign",top 107,["lone","one","other"],["lone","one","other"],yli,.fn],#["is_row","is_row","is_row",top 110,["thing"],["thing"],yix,.fn],#["is_told_row","is_told_row","is_told_row",top 111,["thing"],["thing"],ylj,.fn],#["has_form","has_form","has_form",top 112,["thing","told","kind","operand"],["thing","told"],yI,.fn],#["is_named","is_named","is_named",top 113,["thing"],["thing"],yiy,.fn],#["is_operand","is_operand","is_operand",top 114,["kind","thing","told"],["kind","thing","told"],yh1,.fn],#["is_cell","is_cell","is_cell",top 115,["thing"],["thing"],yiz,.fn],#["is_told_cell","is_told_cell","is_told_cell",top 116,["thing"],["thing"],ylk,.fn],#["is_lettered","is_lettered","is_lettered",top 117,["thing"],["thing"],yiA,.fn],#["is_sentence","is_sentence","is_sentence",top 122,["thing"],["thing"],yll,.fn],#["place_of","place_of","place_of",top 123,["told","n","i","j"],["told","n","i","j"],yiB,.fn],#["is_term","is_term","is_term",top 124,["thing","f","exponent","things"],["thing"],ylm,.fn],#["are_things","are_things","are_things",top 125,["thing"],["thing"],yln,.fn],#["is_thing","is_thing","is_thing",top 126,["thing"],["thing"],ylo,.fn],#["","__init__","Unrolling.__init__",inClass (top 131) 0,["self","w","n"],["self","w","n"],yjx,.ini 20],#["","go_parts","Unrolling.go_parts",inClass (top 131) 1,["self","parts","gone","part"],["self","parts","gone"],yj,.me 20],#["","go_rounds","Unrolling.go_rounds",inClass (top 131) 2,["self","part","gone","count","at"],["self","part","gone"],yo,.me 20],#["","count_of","Unrolling.count_of",inClass (top 131) 3,["self","told","c","m","t"],["self","told"],yiC,.me 20],#["","add_row","Unrolling.add_row",inClass (top 131) 4,["self","told","gone","i","j","row"],["self","told","gone"],yiD,.me 20],#["","add_round","Unrolling.add_round",inClass (top 131) 5,["self"],["self"],yiE,.me 20],#["","add_asked","Unrolling.add_asked",inClass (top 131) 6,["self","sentence","gone","i","j"],["self","sentence","gone"],yiF,.me 20],#["is_telling","is_telling","is_telling",top 132,["thing"],["thing"],yjy,.fn],#["unrolled","unrolled","unrolled",top 133,["telling","w","n"],["telling","w","n"],yiG,.fn],#["steps_of","steps_of","steps_of",top 134,["telling","w","n","unrolling"],["telling","w","n"],yiH,.fn],#["are_parts","are_parts","are_parts",top 135,["thing","nests"],["thing","nests"],ylp,.fn],#["is_part","is_part","is_part",top 136,["thing","nests"],["thing","nests"],ylq,.fn],#["both_gone","both_gone","both_gone",top 137,["gone"],["gone"],yid,.fn],#["placed","placed","placed",top 138,["thing","n","i","j"],["thing","n","i","j"],yhS,.fn],#["telling","telling","telling",top 147,["deed"],["deed"],yh2,.fn],#["deed_rows","deed_rows","deed_rows",top 148,["deed","w","n"],["deed","w","n"],yie,.fn],#["is_deed","is_deed","is_deed",top 149,["thing"],["thing"],yf,.fn],#["is_paired","is_paired","is_paired",top 150,["deed"],["deed"],yiI,.fn],#["answer_words","answer_words","answer_words",top 151,["deed","n"],["deed","n"],yT,.fn],#["rest_words","rest_words","rest_words",top 152,["deed","n"],["deed","n"],yh3,.fn],#["shift_telling","shift_telling","shift_telling",top 153,["name","s"],["name","s"],ylr,.fn],#["named_telling","named_telling","named_telling",top 154,["name"],["name"],yls,.fn],#["made","made","made",top 156,["name","w","x","y","k","make"],["name","w","x","y","k"],yiJ,.fn],#["highest","highest","highest",top 157,["w"],["w"],yiK,.fn],#["moved","moved","moved",top 158,["w","x","y","k"],["w","x","y","k"],yiL,.fn],#["bared_made","bared","bared",top 160,["w","x","y","k"],["w","x","y","k"],yiM,.fn],#["summed_made","summed","summed",top 162,["w","x","y","k","total"],["w","x","y","k"],yiN,.fn],#["taken_away_made","taken_away","taken_away",top 164,["w","x","y","k","total"],["w","x","y","k"],yif,.fn],#["in_both_made","in_both","in_both",top 166,["w","x","y","k"],["w","x","y","k"],yiO,.fn],#["in_any_made","in_any","in_any",top 168,["w","x","y","k"],["w","x","y","k"],yiP,.fn],#["in_one_made","in_one","in_one",top 170,["w","x","y","k"],["w","x","y","k"],yiQ,.fn],#["doubled","doubled","doubled",top 172,["w","x","y","k"],["w","x","y","k"],yiR,.fn],#["halved","halved","halved",top 174,["w","x","y","k"],["w","x","y","k"],yiS,.fn],#["","__init__","Machine.__init__",inClass (top 178) 0,["self","w"],["self","w"],yiT,.ini 21],#["","put","Machine.put",inClass (top 178) 1,["self","letter","at","word","cell"],["self","letter","at","word"],yiU,.me 21],#["","word","Machine.word",inClass (top 178) 2,["self","letter","at"],["self","letter","at"],yiV,.me 21],#["","run","Machine.run",inClass (top 178) 5,["self","rows","row"],["self","rows"],yE,.me 21],#["","held_in","Machine.held_in",inClass (top 178) 6,["self","cell"],["self","cell"],yiW,.me 21],#["","go_row","Machine.go_row",inClass (top 178) 7,["self","row"],["self","row"],yz,.me 21],#["","go_times","Machine.go_times",inClass (top 178) 8,["self","row","product"],["self","row"],yiX,.me 21],#["","go_made","Machine.go_made",inClass (top 178) 9,["self","row","x","y","word","mark"],["self","row"],yiY,.me 21],#["known_cell","known_cell","known_cell",top 179,["letter","at"],["letter","at"],yjz,.fn],#["refuse_row","refuse_row","refuse_row",top 180,["thing"],["thing"],yig,.fn],#["words_of","words_of","words_of",top 182,["worth","w","n"],["worth","w","n"],yhT,.fn],#["sign_of","sign_of","sign_of",top 183,["number","w"],["number","w"],yiZ,.fn],#["lowest_words","lowest_words","lowest_words",top 184,["worth","w","n","highest"],["worth","w","n"],yi0,.fn],#["comes","comes","comes",top 186,["deed","w","n","x","y","worth","first","second","answer","rest"],["deed","w","n","x","y"],yau,.fn],#["refuse_deed","refuse_deed","refuse_deed",top 187,["deed","w","n","x","y"],["deed","w","n","x","y"],yn,.fn],#["reckoned","reckoned","reckoned",top 188,["deed","w","n","x","y","reckon"],["deed","w","n","x","y"],yX,.fn],#["signed_worth","signed_worth","signed_worth",top 189,["x","k"],["x","k"],yi1,.fn],#["unfit","unfit","unfit",top 190,["worth","k","half"],["worth","k"],yih,.fn],#["compared","compared","compared",top 191,["x","y","k"],["x","y","k"],yi2,.fn],#["summed","summed","summed",top 192,["x","y","k"],["x","y","k"],yi3,.fn],#["taken_away","taken_away","taken_away",top 194,["x","y","k"],["x","y","k"],yi4,.fn],#["turned","turned","turned",top 196,["x","y","k"],["x","y","k"],yi5,.fn],#["in_both","in_both","in_both",top 197,["x","y","k"],["x","y","k"],yi6,.fn],#["in_any","in_any","in_any",top 199,["x","y","k"],["x","y","k"],yi7,.fn],#["in_one","in_one","in_one",top 201,["x","y","k"],["x","y","k"],yi8,.fn],#["bared","bared","bared",top 203,["x","y","k"],["x","y","k"],yi9,.fn],#["moved_left","moved_left","moved_left",top 205,["x","s","k"],["x","s","k"],yja,.fn],#["moved_right","moved_right","moved_right",top 206,["x","s","k"],["x","s","k"],yjb,.fn],#["moved_down","moved_down","moved_down",top 207,["x","s","k"],["x","s","k"],yjc,.fn],#["rolled","rolled","rolled",top 208,["x","s","k","places"],["x","s","k"],yjd,.fn],#["multiplied","multiplied","multiplied",top 209,["x","y","k"],["x","y","k"],yje,.fn],#["signed_multiplied","signed_multiplied","signed_multiplied",top 211,["x","y","k","worth"],["x","y","k"],yjf,.fn],#["divided","divided","divided",top 212,["x","y","k"],["x","y","k"],yjg,.fn],#["signed_divided","signed_divided","signed_divided",top 214,["x","y","k","above","below","worth"],["x","y","k"],yii,.fn],#["led","led","led",top 215,["deed","w","n","x","worth","places"],["deed","w","n","x"],ybn,.fn],#["ran","ran","ran",top 219,["deed","w","n","x","y","machine","answer"],["deed","w","n","x","y"],ybN,.fn],#["machine_with","machine_with","machine_with",top 220,["w","n","x","y","machine","letter","worth","at","word"],["w","n","x","y"],yC,.fn],#["number_in","number_in","number_in",top 221,["machine","letter","many"],["machine","letter","many"],yan,.fn],#["_law_fresh","_law_fresh","_law_fresh",top 223,["_law_script"],["_law_script"],yjh,.fn],#["_law_mixed","_law_mixed","_law_mixed",top 224,["_law_seed","_law_primes","_law_number","_law_k","_law_prime","_law_far_here","_law_square","_law_power"],["_law_seed"],yaw,.fn],#["_law_fill","_law_fill","_law_fill",top 225,["_law_state","_law_cells","_law_at","_law_seed"],["_law_state"],yag,.fn],#["_law_take","_law_take","_law_take",top 226,["_law_state","_law_many","_law_turns","_law_digit"],["_law_state","_law_many"],yaa,.fn],#["_law_sizes","_law_sizes","_law_sizes",top 227,["_law_state","_law_most"],["_law_state","_law_most"],yji,.fn],#["_law_worth","_law_worth","_law_worth",top 228,["_law_state","_law_w","_law_n","_law_way","_law_top","_law_k","_law_edges","_law_any_one","_law_low","_law_wide","_law_worth_here","_law_some","_law_words"],["_law_state","_law_w","_law_n"],yV,.fn],#["_law_two_to","_law_two_to","_law_two_to",top 229,["_law_many","_law_found","_law_k"],["_law_many"],yjj,.fn],#["_law_kind","_law_kind","_law_kind",top 230,["_law_e","_law_sorts","_law_others"],["_law_e"],ylt,.fn],#["_law_asked","_law_asked","_law_asked",top 231,["_law_way","_law_deed","_law_w","_law_n","_law_x","_law_y","_law_kind_here","_law_e"],["_law_way","_law_deed","_law_w","_law_n","_law_x","_law_y"],yab,.fn],#["_law_spoilt_word","_law_spoilt_word","_law_spoilt_word",top 232,["_law_state","_law_word","_law_way","_law_at","_law_letter"],["_law_state","_law_word"],yL,.fn],#["_law_far","_law_far","_law_far",top 233,["_law_state","_law_most"],["_law_state"],yba,.fn],#["_law_no_deed","_law_no_deed","_law_no_deed",top 234,["_law_state","_law_way","_law_words","_law_word","_law_far_here","_law_spoilt","_law_some"],["_law_state"],yF,.fn],#["_law_near_deeds","_law_near_deeds","_law_near_deeds",top 235,["_law_state","_law_word","_law_spoilt","_law_far_here","_law_kind_here","_law_other","_law_shift","_law_found"],["_law_state","_law_word","_law_spoilt","_law_far_here"],yu,.fn],#["_law_some_good","_law_some_good","_law_some_good",top 236,["_law_state","_law_n","_law_way","_law_s","_law_e","_law_kinds","_law_words"],["_law_state","_law_n"],yR,.fn],#["_law_twins_refused","_law_twins_refused","_law_twins_refused",top 237,["_law_good","_law_w","_law_n","_law_x","_law_twin"],["_law_good","_law_w","_law_n","_law_x"],yD,.fn],#["law","law","law",top 238,["_law_script","_law_state","_law_bad","_law_w","_law_n","_law_top","_law_x","_law_far_here","_law_good","_law_single","_law_y","_law_found","_law_way","_law_a","_law_b","_law_due"],["_law_script"],yaJ,.fn]]
 al:=[eD "word" 0,eF "last_word" 1,eF "rows" 2,eF "rounds" 3,eD "lowest" 4,eD "term" 5,eD "moved_parts" 6,eF "doubled_parts" 7,eF "kept_mark" 8,eF "kept_contrary" 9,eF "sign_filled" 10,eF "gathered_unlike" 11,eF "asked_words" 12,eF "answer_marks" 13,eF "led_telling" 14,eF "filled" 15,eF "widened" 16,eF "dropped" 17,eF "product_telling" 18,eF "multiplied_products" 19,eF "by_one_word" 20,eF "quotient_telling" 21,eF "by_nought" 22,eF "divided_quotients" 23,eF "next_place" 24,eF "less_divisor" 25,eF "put_back" 26,eF "next_figure" 27,eF "is_whole" 28,eF "is_letter" 29,eF "are_told" 30,eF "left_telling" 31,eF "right_telling" 32,eF "down_telling" 33,eF "roll_telling" 34,eF "shifted" 35,eF "halved_shifts" 36,eF "highest_two" 37,eF "left_behind" 38,eF "signed_product_telling" 39,eF "signed_quotient_telling" 40,eF "kept_sign" 41,eF "worth_of" 42,eF "less_for_x" 43,eF "less_for_y" 44,eF "product_terms" 45,eF "less_terms" 46,eF "less_where" 47,eF "unfit_product" 48,eF "turned_where" 49,eF "unfit_quotient" 50,eF "sum_telling" 51,eF "difference_telling" 52,eF "turned_telling" 53,eF "compare_telling" 54,eF "pairwise_telling" 55,eF "bare_telling" 56,eF "carried" 57,eF "lone_sign" 58,eF "is_row" 59,eF "is_told_row" 60,eF "has_form" 61,eF "is_named" 62,eF "is_operand" 63,eF "is_cell" 64,eF "is_told_cell" 65,eF "is_lettered" 66,eF "is_sentence" 67,eF "place_of" 68,eF "is_term" 69,eF "are_things" 70,eF "is_thing" 71,eF "is_telling" 79,eF "unrolled" 80,eF "steps_of" 81,eF "are_parts" 82,eF "is_part" 83,eF "both_gone" 84,eF "placed" 85,eF "telling" 86,eF "deed_rows" 87,eF "is_deed" 88,eF "is_paired" 89,eF "answer_words" 90,eF "rest_words" 91,eF "shift_telling" 92,eF "named_telling" 93,eF "made" 94,eF "highest" 95,eF "moved" 96,eF "bared_made" 97,eF "summed_made" 98,eF "taken_away_made" 99,eF "in_both_made" 100,eF "in_any_made" 101,eF "in_one_made" 102,eF "doubled" 103,eF "halved" 104,eF "known_cell" 113,eF "refuse_row" 114,eF "words_of" 115,eF "sign_of" 116,eF "lowest_words" 117,eF "comes" 118,eF "refuse_deed" 119,eF "reckoned" 120,eF "signed_worth" 121,eF "unfit" 122,eF "compared" 123,eF "summed" 124,eF "taken_away" 125,eF "turned" 126,eF "in_both" 127,eF "in_any" 128,eF "in_one" 129,eF "bared" 130,eF "moved_left" 131,eF "moved_right" 132,eF "moved_down" 133,eF "rolled" 134,eF "multiplied" 135,eF "signed_multiplied" 136,eF "divided" 137,eF "signed_divided" 138,eF "led" 139,eF "ran" 140,eF "machine_with" 141,eF "number_in" 142,eF "_law_fresh" 143,eF "_law_mixed" 144,eF "_law_fill" 145,eF "_law_take" 146,eF "_law_sizes" 147,eF "_law_worth" 148,eF "_law_two_to" 149,eF "_law_kind" 150,eF "_law_asked" 151,eF "_law_spoilt_word" 152,eF "_law_far" 153,eF "_law_no_deed" 154,eF "_law_near_deeds" 155,eF "_law_some_good" 156,eF "_law_twins_refused" 157,eF "law" 158,eF "bared_worths" 130,eF "divided_worths" 137,eF "doubled_made" 103,eF "halved_made" 104,eF "in_any_worths" 128,eF "in_both_worths" 127,eF "in_one_worths" 129,eF "moved_made" 96,eF "multiplied_worths" 135,eF "summed_worths" 124,eF "taken_away_worths" 125,eC "BACK" yhY,eC "BORROWED" yjt,eC "EACH_PLACE" ykg,eC "EACH_WORD" yb,eC "FACTOR_LIMIT" (.int (10000000000000000000000000000000000000000)),eC "FILL_led" yit,eC "FILL_signed" yia,eC "HIGH" yhZ,eC "LONE" yju,eC "LOST_led" yiu,eC "LOST_signed" yjv,eC "LOW" ygp,eC "MARKS_parts" ya,eC "MARKS_runs" (.int (4)),eC "MOST_NESTS" (.int (2)),eC "MOST_ROUNDS" (.int (4000)),eC "MOST_ROWS" (.int (4000)),eC "MOST_TERMS" (.int (20)),eC "MOST_THINGS" (.int (2)),eC "MOST_TOLD" (.int (200)),eC "NIL" ybC,eC "OVER" yib,eC "PAIRED" yg6,eC "PAIRWISE" ykm,eC "PRODUCTS" yiv,eC "QUOTIENTS" yfd,eC "REFILL" yiw,eC "SEEN" yhm,eC "SHIFTS" yy,eC "SIGN_OF_BOTH" yic,eC "SIGN_X" ye0,eC "SIGN_Y" yhD,eC "SPARE" yi,eC "WAYS" yh0,eG "ROWS" (.dct ydD),eG "NoFit" (.exc 0),eG "NoDeed" (.exc 6),eG "NoQuotient" (.exc 7),eG "Machine" (.cls 21 105),eG "Unrolling" (.cls 20 72)]
 bs:=["ValueError","abs","all","any","bool","enumerate","int","isinstance","len","max","min","range","str","tuple","zip"]
 ts:=[.bool,.int,.str,.tuple]
 fl:=[eN 20 "n",eN 20 "rounds",eN 20 "rows",eN 20 "steps",eN 20 "w",eN 21 "marked",eN 21 "w",eN 21 "words"]
 me:=[eM 20 "go_parts" 73,eM 20 "go_rounds" 74,eM 20 "count_of" 75,eM 20 "add_row" 76,eM 20 "add_round" 77,eM 20 "add_asked" 78,eM 21 "put" 106,eM 21 "word" 107,eM 21 "run" 108,eM 21 "held_in" 109,eM 21 "go_row" 110,eM 21 "go_times" 111,eM 21 "go_made" 112]
 kb:=[eK 0 1 ["i"] [AA 0,AD,AA 0,AA 0],eK 0 1 ["i","j"] [AA 0,AD,AD,AA 0],eK 0 1 ["i","m"] [AA 0,AD,AA 0,AD],eK 0 1 ["j"] [AA 0,AA 0,AD,AA 0],eK 0 1 ["m"] [AA 0,AA 0,AA 0,AD],eK 0 2 ["i","m"] [AD,AA 0,AD],eK 0 2 ["j","m"] [AA 0,AD,AD],eK 0 2 ["m"] [AA 0,AA 0,AD],eK 4 1 ["i"] [AA 0,AD,AA 0,AA 0],eK 4 1 ["i","m"] [AA 0,AD,AA 0,AD],eK 4 1 ["j"] [AA 0,AA 0,AD,AA 0],eK 4 1 ["m"] [AA 0,AA 0,AA 0,AD],eK 4 2 [] [AA 0,AA 0,AA 0],eK 4 2 ["m"] [AA 0,AA 0,AD],eK 5 2 [] [AA 0,AA 0,AA 0,AA 0],eK 5 2 ["i"] [AD,AA 0,AA 0,AA 0],eK 5 2 ["p"] [AA 0,AD,AA 0,AA 0],eK 5 2 ["p","q"] [AA 0,AD,AD,AA 0],eK 5 2 ["p","r"] [AA 0,AD,AA 0,AD],eK 5 2 ["r"] [AA 0,AA 0,AA 0,AD],eK 6 2 [] [AA 0],eK 6 3 [] []]
 cn:=[eN 21 "Machine",eN 20 "Unrolling",eN 0 "NoFit",eN 6 "NoDeed",eN 7 "NoQuotient",eN 1 "NoText",eN 2 "NoCell",eN 3 "NoWord",eN 4 "NoRow",eN 5 "NoTelling",eN 8 "TooMany",eN 9 "NoLine",eN 10 "NoName",eN 11 "NoWidth",eN 12 "NoPair",eN 13 "NoUndo"]
 dd:=[eB "ROWS" ydD]
 ml:=[eL "MAKERS" yes,eL "RECKONED" yh9]
 xs:=[(0,.cls 0),(0,.cls 1),(0,.cls 10),(0,.cls 11),(0,.cls 12),(0,.cls 13),(0,.cls 2),(0,.cls 3),(0,.cls 4),(0,.cls 5),(0,.cls 6),(0,.cls 7),(0,.cls 8),(0,.cls 9),(0,.val),(6,.cls 0),(6,.cls 1),(6,.cls 10),(6,.cls 11),(6,.cls 12),(6,.cls 13),(6,.cls 2),(6,.cls 3),(6,.cls 4),(6,.cls 5),(6,.cls 6),(6,.cls 7),(6,.cls 8),(6,.cls 9),(6,.val),(7,.cls 0),(7,.cls 1),(7,.cls 10),(7,.cls 11),(7,.cls 12),(7,.cls 13),(7,.cls 2),(7,.cls 3),(7,.cls 4),(7,.cls 5),(7,.cls 6),(7,.cls 7),(7,.cls 8),(7,.cls 9),(7,.val)]
 xc:=[eN 0 "NoFit",eN 1 "NoText",eN 2 "NoCell",eN 3 "NoWord",eN 4 "NoRow",eN 5 "NoTelling",eN 6 "NoDeed",eN 7 "NoQuotient",eN 8 "TooMany",eN 9 "NoLine",eN 10 "NoName",eN 11 "NoWidth",eN 12 "NoPair",eN 13 "NoUndo"]
 xm:=[eN 0 "WordError",eN 6 "WordError",eN 7 "WordError"]
 qh:=["_law_kind"]
theorem ok_all:tbQ.tbl.all (okT tbQ)=true:=∅
theorem T_ok:∀i d,tbQ.tbl[i]?=AA d->T i=AA d.fn:=λi d h=>by have e:Tl=tbQ.tbl.map (·.fn):=rfl;rw[T,e,Bs,h];rfl
theorem kb_all:ybU (KbP tbQ) tbQ.kb:=by repeat' (first|exact trivial|(refine#[kbP rfl rfl rfl rfl rfl ⋯ ?_,?_];((repeat intro _);exact#[_,rfl,rfl])))
theorem cn_20:cnm tbQ 20="Unrolling":=rfl
theorem cn_21:cnm tbQ 21="Machine":=rfl
mutual
noncomputable def pvq:PV->PV->IQ
 |.non,.non=>AC
 |.bl a,.bl b=>a==b
 |.int i,.int j=>decide (i=j)
 |.str x,.str y=>decide (x=y)
 |.tp k c,.tp l d=>(k==l)&&yc2 c d
 |.lst c,.lst d=>yc2 c d
 |_,_=>AB
noncomputable def yc2:IK PV->IK PV->IQ
 |[],[]=>AC
 |x::a,y::b=>pvq x y&&yc2 a b
 |_,_=>AB
end
mutual
theorem zl1:∀(a b:PV),pvq a b=AC->a=b
 |.non,b,h=>by cases b<;>first|rfl|exact(AN h).elim
 |.bl a,b,h=>by cases b<;>first|exact Ic _ (eq_of_beq h)|exact(AN h).elim
 |.int a,b,h=>by cases b<;>first|exact Ic _ (Ia h)|exact(AN h).elim
 |.str a,b,h=>by cases b<;>first|exact Ic _ (Ia h)|exact(AN h).elim
 |.tp k c,b,h=>by cases b<;>first|(have h:=BA.mp h;rw[eq_of_beq h.1,zgH _ _ h.2])|exact(AN h).elim
 |.lst c,b,h=>by cases b<;>first|rw[zgH _ _ h]|exact(AN h).elim
 |.loc _,b,h=>by cases b<;>exact(AN h).elim
 |.exn _,b,h=>by cases b<;>exact(AN h).elim
 |.fnc _,b,h=>by cases b<;>exact(AN h).elim
 |.scr _,b,h=>by cases b<;>exact(AN h).elim
theorem zgH:∀(a b:IK PV),yc2 a b=AC->a=b
 |[],b,h=>by cases b<;>simp[yc2]at h ⊢
 |x::c,b,h=>by
  cases b with
  |nil=>simp[yc2]at h
  |cons y d=>
   simp[yc2]at h;rw[zl1 x y h.1,zgH c d h.2]
end
def isOk(r:R PV)(v:PV):IQ:=match r with
 |.ok w []=>pvq w v
 |_=>AB
def zdR{r}{v:PV}(h:isOk r v=AC):r=.ok v []:=by
 match r with
 |.ok w []=>rw[zl1 w v h]
 |.ok w (_::_)=>simp[isOk]at h
 |.exc _ _=>simp[isOk]at h
 |.bad=>simp[isOk]at h
def chS(c:IL):Str:=#[(IK.toArray [c])]
def yS(c:IL)(i:IM):PV:=.tup [.str (chS c),.int i]
def zne{c d:IL}(h:chS c=chS d):c=d:=by have:=Ic (λx=>x.cps) h;simpa [chS] using this
def zcl(c d:IL)(i j:IM):peq (yS c i) (yS d j)=decide (c=d/\i=j):=by
 have h:(chS c==chS d)=decide (c=d):=by rw[Dj];simp;exact#[zne,λe=>by rw[e]]
 show (chS c==chS d&&(i==j&&AC))=_;simp[h,IQ.decide_and]
 try rfl
abbrev Mem:=IL->IM->IM
def upd(M:Mem)(c:IL)(i v:IM):Mem:=λd j=>if d=c/\j=i then v else M d j
def ycF(a:IK (PV×PV)):Prop:=∀p∈a,∃c i,p.1=yS c i
def Rel(a:IK (PV×PV))(M:Mem):Prop:=∀c i,(look (yS c i) a).getD (.int 0)=.int (M c i)
def zhE(c:IL)(i:IM)(v:PV)(d:IL)(j:IM):∀a,ycF a->look (yS d j) (a.map λp=>if peq p.1 (yS c i)=AC then(p.1,v)else p)=if d=c/\j=i then(if (a.any λp=>peq p.1 (yS c i))=AC then AA v else AD)else look (yS d j) a
 |[],_=>by simp[look]
 |p::a,h=>by
  let#[e,g,l]:=h p Af;let#[o,r]:=p;simp only at l;subst l;have ih:=zhE c i v d j a λq n=>h q (AU _ n);rw[AO,Az];erw[zcl]
  by_cases f:e=c/\g=i
  .let#[rfl,rfl]:=f;erw[and_self,Im,IV,look,zcl,G3]
   by_cases b:e=d/\g=j
   .let#[rfl,rfl]:=b;simp
   .have m:¬(d=e/\j=g):=λz=>b #[z.1.symm,z.2.symm];erw[b,m,Ij,Ib,B9];rw[ih,IS m]
  .simp only[f,Ij,Fx,B9,Ib];rw[look,look];erw[zcl]
   by_cases b:e=d/\g=j
   .let#[rfl,rfl]:=b;simp[f]
   .simp only[b,Ij,B9,Ib];exact ih
def zhC(c:IL)(i:IM)(v:PV)(d:IL)(j:IM):∀a,ycF a->(a.any λp=>peq p.1 (yS c i))=AB->look (yS d j) (a++[(yS c i,v)])=if d=c/\j=i then AA v else look (yS d j) a
 |[],_,_=>by
  erw[CM,look,zcl]
  by_cases b:c=d/\i=j
  .let#[rfl,rfl]:=b;simp
  .have m:¬(d=c/\j=i):=λz=>b #[z.1.symm,z.2.symm];simp[b,m]
 |p::a,h,f=>by
  let#[e,g,l]:=h p Af;let#[r,t]:=p;simp only at l;subst l;rw[Az,CQ]at f;have ih:=zhC c i v d j a (λq n=>h q (AU _ n)) f.2;have o:¬(e=c/\g=i):=by simpa [zcl] using f.1
  rw[Bd,look,look];erw[zcl]
  by_cases b:e=d/\g=j
  .let#[rfl,rfl]:=b;simp[o]
  .simp only[b,Ij,B9,Ib];exact ih
def zlH(c:IL)(i:IM)(v)(d:IL)(j:IM)(a)(h:ycF a):look (yS d j) (put (yS c i) v a)=if d=c/\j=i then AA v else look (yS d j) a:=by
 unfold put;split
 .rename_i z;rw[zhE _ _ _ _ _ _ h,z,IR rfl]
 .rename_i z;exact zhC _ _ _ _ _ _ h (by simpa using z)
def zkk{c:IL}{i:IM}{v b}(h:ycF b):ycF (put (yS c i) v b):=by
 unfold put;split
 .intro p a;let#[q,f,rfl]:=Dq.1 a;let#[e,g,d]:=h q f;refine#[e,g,?_];split
  .exact d
  .exact d
 .intro p a;rcases BG.1 a with a|a
  .exact h p a
  .simp at a;exact#[c,i,by rw[a]]
def znL{c:IL}{i v:IM}{a M}(h:ycF a)(r:Rel a M):Rel (put (yS c i) (.int v) a) (upd M c i v):=by
 intro d j;rw[zlH _ _ _ _ _ _ h];unfold upd;split
 .rfl
 .exact r d j
def zoq{k v a}:(put k v a).length<=a.length+1:=by
 unfold put;split
 .simp
 .simp
def zhf(c:IL)(i:IM):isKey AC (yS c i)=true:=rfl
structure Dc(st:SO)(n:IL)(M:Mem)(L:IL):Prop where
 ex:∃kvs,st[n]?=AA (.dct AC kvs)/\ycF kvs/\Rel kvs M/\kvs.length<=L
def zlw{st}{n L:IL}{M}(h:Dc st n M L)(c:IL)(i:IM):yd5 st (.loc n) (yS c i) (.int 0)=.ok (.int (M c i)) st:=by let#[a,b,f,d,g]:=h;erw[yd5,ya5,b,zhf,IV,d c i]
def zld{st}{n L:IL}{M}(h:Dc st n M L)(l:L<999999)(c:IL)(i v:IM):∃a,ya6 st (.loc n) (yS c i) (.int v)=AA (st.set n (.dct AC a))/\Dc (st.set n (.dct AC a)) n (upd M c i v) (L+1):=by
 let#[a,b,d,f,m]:=h;have g:n<st.length:=by
  rcases DP n st.length with z|z
  .exact z
  .rw[BD z]at b;cases b
 refine#[put (yS c i) (.int v) a,?_,#[_,Ac g,zkk d,znL d f,As zoq ()]];have j:a.length<1000000:=()
 erw[ya6,b,zhf,j,and_self,IV]
abbrev Cel:=IL×IM
def yG(x:Cel):PV:=yS x.1 x.2
inductive Rw where
 |mark (d:IM)|ask (x:Cel)|set (t:Cel) (d:IM)|move (t x:Cel)|bare (t x:Cel)|twice (t x:Cel)|half (t x:Cel)
 |sum (t x y:Cel)|less (t x y:Cel)|both (t x y:Cel)|any (t x y:Cel)|odd (t x y:Cel)|times (l h x y:Cel)
def yaq:Rw->PV
 |.mark d=>.tup [.str "mark",.int d]
 |.ask x=>.tup [.str "ask",yG x]
 |.set t d=>.tup [.str "set",yG t,.int d]
 |.move t x=>.tup [.str "move",yG t,yG x]
 |.bare t x=>.tup [.str "bare",yG t,yG x]
 |.twice t x=>.tup [.str "twice",yG t,yG x]
 |.half t x=>.tup [.str "half",yG t,yG x]
 |.sum t x y=>.tup [.str "sum",yG t,yG x,yG y]
 |.less t x y=>.tup [.str "less",yG t,yG x,yG y]
 |.both t x y=>.tup [.str "both",yG t,yG x,yG y]
 |.any t x y=>.tup [.str "any",yG t,yG x,yG y]
 |.odd t x y=>.tup [.str "odd",yG t,yG x,yG y]
 |.times l h x y=>.tup [.str "times",yG l,yG h,yG x,yG y]
def rd(M:Mem)(x:Cel):IM:=M x.1 x.2
def wr(M:Mem)(x:Cel)(v:IM):Mem:=upd M x.1 x.2 v
def stepM(W:IM)(M:Mem)(k:IM):Rw->Mem×IM
 |.mark d=>(M,d)
 |.ask x=>(M,bi (!(rd M x==0)))
 |.set t d=>(wr M t d,k)
 |.move t x=>(wr M t (rd M x),k)
 |.bare t x=>(wr M t (W-1-rd M x),k)
 |.twice t x=>(wr M t ((2*rd M x+k)%W),(2*rd M x+k)/W)
 |.half t x=>(wr M t (rd M x/2+k*(W/2)),rd M x%2)
 |.sum t x y=>(wr M t ((rd M x+rd M y+k)%W),(rd M x+rd M y+k)/W)
 |.less t x y=>(wr M t ((rd M x-rd M y-k)%W),bi (decide (rd M x-rd M y-k<0)))
 |.both t x y=>(wr M t (Ao (rd M x) (rd M y)),k)
 |.any t x y=>(wr M t (BX (rd M x) (rd M y)),k)
 |.odd t x y=>(wr M t (B5 (rd M x) (rd M y)),k)
 |.times l h x y=>(wr (wr M l (rd M x*rd M y%W)) h (rd M x*rd M y/W),k)
def ybj(W:IM):IK Rw->Mem->IM->Mem×IM
 |[],M,k=>(M,k)
 |r::a,M,k=>ybj W a (stepM W M k r).1 (stepM W M k r).2
def zkg{st:SO}{n:IL}{o}(h:st[n]?=AA o):st=st.set n o:=by
 refine Ea λi=>?_;rw[CO];split
 .rename_i e;subst e;split
  .exact h
  .rename_i z;rw[BD ()]at h
   cases h
 .rfl
def zgE(i:IM):shp (.int i)=true:=rfl
section
variable {st:SO}{k:IQ}{a b c d e:PV}{r:IK PV}{i j:IM}
theorem ix0:idxV st (.tp k (a::r)) (.int 0)=AA a:=by simp[idxV,yaV,at?,ixI]
theorem ix1:idxV st (.tp k (a::b::r)) (.int 1)=AA b:=by
 have:(1:IM)<(r.length:IM)+1+1:=()
 simp[idxV,yaV,at?,ixI,this]
theorem ix2:idxV st (.tp k (a::b::c::r)) (.int 2)=AA c:=by
 have:(2:IM)<(r.length:IM)+1+1+1:=()
 simp[idxV,yaV,at?,ixI,this]
theorem ix3:idxV st (.tp k (a::b::c::d::r)) (.int 3)=AA d:=by
 have:(3:IM)<(r.length:IM)+1+1+1+1:=()
 simp[idxV,yaV,at?,ixI,this]
theorem b_add:yq .add (.int i) (.int j)=AA (.int (i+j)):=rfl
theorem b_sub:yq .sub (.int i) (.int j)=AA (.int (i-j)):=rfl
def zkp(h:i.natAbs<18446744073709551616 \/ j.natAbs<18446744073709551616):yq .mul (.int i) (.int j)=AA (.int (i*j)):=by
 have:yaA i j=true:=by simpa [yaA] using h
 simp[yq,binI,this]
def zaW(h:i.natAbs<18446744073709551616):yq .mul (.int i) (.int j)=AA (.int (i*j)):=zkp (.inl h)
def zep(h:j.natAbs<18446744073709551616):yq .mul (.int i) (.int j)=AA (.int (i*j)):=zkp (.inr h)
theorem b_mul2:yq .mul (.int 2) (.int j)=AA (.int (2*j)):=zkp (.inl ⋯)
def zjV(h:0<j)(b:j<18446744073709551616*18446744073709551616):yq .fdiv (.int i) (.int j)=AA (.int (i/j)):=by
 have a:j<10000000000000000000000000000000000000000000000000000000000000000000000:=()
 simp[yq,binI,h,a]
theorem b_div2:yq .fdiv (.int i) (.int 2)=AA (.int (i/2)):=rfl
def zmz(h:0<j):yq .mod (.int i) (.int j)=AA (.int (i%j)):=IR h
def zkT:yq .band (.int i) (.int j)=AA (.int (Ao i j)):=rfl
def zrQ:yq .bor (.int i) (.int j)=AA (.int (BX i j)):=rfl
def zpa:yq .bxor (.int i) (.int j)=AA (.int (B5 i j)):=rfl
theorem toR_some{v}:toR (AA v) st=.ok v st:=rfl
def znm:peq (.int i) (.int j)=(i==j):=rfl
theorem c_ne:yp .ne (.int i) (.int j)=AA (.bl (!(i==j))):=rfl
theorem c_eq:yp .eq (.int i) (.int j)=AA (.bl (i==j)):=rfl
theorem c_lt:yp .lt (.int i) (.int j)=AA (.bl (decide (i<j))):=rfl
theorem c_le:yp .le (.int i) (.int j)=AA (.bl (decide (i<=j))):=rfl
theorem c_gt:yp .gt (.int i) (.int j)=AA (.bl (decide (j<i))):=rfl
theorem c_ge:yp .ge (.int i) (.int j)=AA (.bl (decide (j<=i))):=rfl
theorem t_bl{b}:yaE st (.bl b)=AA b:=rfl
theorem on_t{f:IQ->Fl}{b}:onF (AA b) f=f b:=rfl
theorem ono{A}{f:IQ->R A}{b}:onO (AA b) f=f b:=rfl
def zaC{U}:stO U (AA st)=.nx U st:=rfl
theorem nxO_some{U}:nxO (AA U) st=.nx U st:=rfl
theorem fl_ok{A:Type}{a:A}{U}{k:A->SO->Fl}:(R.ok a st).fl U k=k a st:=rfl
theorem bd_ok{A B:Type}{a:A}{k:A->SO->R B}:(R.ok a st).bind k=k a st:=rfl
theorem th_nx{U}{k:IC.Env->SO->Fl}:yaz (.nx U st) k=k U st:=rfl
theorem th_rt{v}{k:IC.Env->SO->Fl}:yaz (.rt v st) k=.rt v st:=rfl
theorem fl_exc{A:Type}{c:IL}{U}{k:A->SO->Fl}:(R.exc c st:R A).fl U k=.exc c U st:=rfl
theorem bd_exc{A B:Type}{c:IL}{k:A->SO->R B}:(R.exc c st:R A).bind k=.exc c st:=rfl
theorem th_exc{c:IL}{U}{k:IC.Env->SO->Fl}:yaz (.exc c U st) k=.exc c U st:=rfl
theorem noLocs_ints:∀(l:IK IM),nLs (l.map PV.int)=AC
 |[]=>rfl
 |_::l=>by simp[nLs,nL,noLocs_ints l]
theorem bT_n{i:IL}{v}{U:IC.Env}:yH (.n i) v U=AA (U.set i (AA v)):=rfl
end
def zpw:∀(n x y:IL),x<=n->(x ^^^ y)+(x &&& y)=x ||| y
 |n,x,y,h=>by
  by_cases g:x=0
  .subst g;simp
  .have ih:=zpw (n-1) (x/2) (y/2) ();rw[<-IL.xor_div_two,<-IL.and_div_two,<-IL.or_div_two]at ih;have c:(x ^^^ y)%2=((x%2) ^^^ (y%2)):=by have:=IL.xor_mod_two_pow (a:=x) (b:=y) (n:=1);simpa using this
   have d:(x &&& y)%2=((x%2) &&& (y%2)):=by have:=IL.and_mod_two_pow (a:=x) (b:=y) (n:=1);simpa using this
   have f:(x ||| y)%2=((x%2) ||| (y%2)):=by have:=IL.or_mod_two_pow (a:=x) (b:=y) (n:=1);simpa using this
   rcases EN x with a|a<;>rcases EN y with b|b<;>rw[a,b]at c d f<;>erw[IL.reduceXor,IL.reduceAnd,IL.reduceOr]at c d f<;>lia
def zlM(x y:IL):Ao (x:IM) (y:IM)=((x &&& y:IL):IM):=by simp[Ao]
def zjj(x y:IL):BX (x:IM) (y:IM)=((x ||| y:IL):IM):=by
 have a:¬(0:IM)<=-(x:IM)-1:=()
 have b:¬(0:IM)<=-(y:IM)-1:=()
 have c:(-(-(x:IM)-1)-1).toNat=x:=()
 have d:(-(-(y:IM)-1)-1).toNat=y:=()
 erw[BX,Ao,F7,a,b,Ij,c,d];lia
def zqg(x y:IL):B5 (x:IM) (y:IM)=((x ^^^ y:IL):IM):=by have:=zpw x x y (AQ x);rw[B5,zjj,zlM];lia
theorem pw(w:IL):((2^w:IL):IM)=2^w:=by simp
def zpv{w:IL}{a b:IM}(d:0<=a)(f:0<=b)(c:b<2^w):0<=Ao a b/\Ao a b<2^w:=by obtain⟨x,rfl⟩:∃n:IL,a=n:=#[a.toNat,()];obtain⟨y,rfl⟩:∃n:IL,b=n:=#[b.toNat,()];rw[zlM];rw[<-pw]at c ⊢;exact#[(),by exact_mod_cast IL.and_lt_two_pow x (by lia:y<2^w)]
def zqk{w:IL}{a b:IM}(d:0<=a)(a1:a<2^w)(f:0<=b)(c:b<2^w):0<=B5 a b/\B5 a b<2^w:=by obtain⟨x,rfl⟩:∃n:IL,a=n:=#[a.toNat,()];obtain⟨y,rfl⟩:∃n:IL,b=n:=#[b.toNat,()];rw[zqg];rw[<-pw]at a1 c ⊢;exact#[(),by exact_mod_cast IL.xor_lt_two_pow (by lia:x<2^w) (by lia:y<2^w)]
def zo0{w:IL}{a b:IM}(d:0<=a)(a1:a<2^w)(f:0<=b)(c:b<2^w):0<=BX a b/\BX a b<2^w:=by obtain⟨x,rfl⟩:∃n:IL,a=n:=#[a.toNat,()];obtain⟨y,rfl⟩:∃n:IL,b=n:=#[b.toNat,()];rw[zjj];rw[<-pw]at a1 c ⊢;exact#[(),by exact_mod_cast IL.or_lt_two_pow (by lia:x<2^w) (by lia:y<2^w)]
def zen(a:IK PV)(h:a.length<=1000000)(st):ybA (.ok a st)=.ok (.lst a) st:=by simp[ybA,h]
def zcU(n:IL)(h:n<1000):yby (.int (n:IM))=AA (yr n 0 1):=by simp[yby];lia
def zcB{z:IM}(h:0<=z):∃n:IL,z=n:=#[z.toNat,()]
def ybq(st:SO)(f:Fl):R PV:=
 match f with
 |.rt v _=>if nL v then .ok v st else .bad
 |.nx _ _=>.ok .non st
 |.exc c _ _=>.exc c st
 |_=>.bad
def zc{T:IL->Option IC.Fn}{k f:IL}{fn}{args:IK PV}{st:SO}(a:T f=AA fn)(b:fn.pure=AC)(c:args.length=fn.np)(d:nLs args=AC):
  yc T (k+1) f args st=ybq st (exs (yc T k) (args.map AA++Av (fn.ns-fn.np) AD) [] fn.body):=by rw[yc,a];dsimp only;rw[IR c,IR b,IR d];rfl
def outI(f:Fl):R PV:=
 match f with
 |.rt v a=>.ok v a
 |.nx _ a=>.ok .non a
 |.exc c _ a=>.exc c a
 |_=>.bad
def zm{T:IL->Option IC.Fn}{k f:IL}{fn}{args:IK PV}{st:SO}(a:T f=AA fn)(b:fn.pure=AB)(c:args.length=fn.np):
  yc T (k+1) f args st=outI (exs (yc T k) (args.map AA++Av (fn.ns-fn.np) AD) st fn.body):=by rw[yc,a];dsimp only;rw[IR c,b,IS (by simp)];rfl
def zad{st v}:outI (.rt v st)=.ok v st:=rfl
def zhv{st s b}:ybq st (.rt (.bl b) s)=.ok (.bl b) st:=rfl
def znP{st s}{b:IM}:ybq st (.rt (.int b) s)=.ok (.int b) st:=rfl
def zm1{A}{xs:IK A}{lo a}{x:A}(h:x∈cut xs lo a):x∈xs:=IK.mem_of_mem_drop (IK.mem_of_mem_take h)
def znU{A}(xs:IK A)(lo a):(cut xs lo a).length<=xs.length:=by unfold cut;rw[DV,En];lia
set_option backward.eqns.nonrecursive true
local macro_rules | `(tactic| simp! [$xs,*])=>do
 let l<-("IC.xs_conS IC.kS1 IC.kS2 IC.kS3 IC.kS4 IC.kS5 IC.xs_nil IC.x_asg IC.x_iteS IC.kI1 IC.kI2 IC.kJ1 IC.kJ2 IC.x_ret IC.x_expr IC.x_for IC.x_six IC.x_try IC.x_raise IC.evs_n IC.evs_c IC.kA1 IC.kA2 IC.kB1 IC.kB2 IC.evi IC.ve1 IC.ve2 IC.ve3S IC.kX1 IC.kX2 IC.kY1 IC.kY2 IC.ve4 IC.ve5 IC.ve6S IC.kN1 IC.kN2 IC.ve7S IC.kO1 IC.kO2 IC.ve8S IC.ve9 IC.ve10S IC.kE1 IC.kF1 IC.kF2 IC.ve11 IC.ve12 IC.ve13 IC.ve15 IC.ve16S IC.ve17 IC.ve18 IC.ve19 IC.ve20S IC.kM1 IC.kP1 IC.ve21 IC.ve22 IC.ve24 IC.ve25 IC.ve26 IC.ve28 IC.v_comp List.getElem?_cons_zero List.getElem?_cons_succ WK.bd_ok WK.fl_ok WK.bd_exc WK.fl_exc WK.toR_some IC.toL WK.bT_n WK.nxO_some WK.th_nx WK.th_rt WK.th_exc List.set_cons_zero List.set_cons_succ WK.on_t WK.t_bl WK.ono IC.onBl cond_true cond_false List.length_cons List.length_nil Nat.zero_add Nat.reduceAdd Nat.reduceSub Nat.reduceLeDiff if_true IC.nL IC.nLs WK.noLocs_ints Bool.and_self Bool.not_true Bool.not_false List.map_cons List.map_nil List.replicate List.cons_append List.nil_append List.append_nil Option.bind_none Option.bind_some Option.join_some WK.b_add WK.b_sub WK.b_mul2 WK.b_div2 WK.c_lt WK.c_le WK.c_gt WK.c_ge WK.c_eq WK.c_ne IC.PV.tup IC.sizeMax".splitOn " ").toArray.mapM λs=>`(Lean.Parser.Tactic.simpLemma| $(Lean.mkIdent s.toName):term)
 `(tactic| simp only[$l,*,$xs,*])
def yat:PV:=.tup [.int 2147483647,.int 2147483629,.int 2147483587,.int 2147483579,.int 2147483563]
def ydL:Css:=match yaw.body with
 |.cons _ (.cons _ (.cons (.for _ _ b) _))=>b
 |_=>.nil
def zd3{c}{s num g p:IM}{i:IL}{u5 u6 u7:Option PV}(j:∀st,idxV st (.tup [.int 11,.int 101,.int 1009,.int 10007,.int 100003]) (.int i)=AA (.int g))(u:i<5)(f:0<p)(l:p<18446744073709551616):
  ∃d m n o,exs c [AA (.int s),AA yat,AA (.int num),AA (.int i),AA (.int p),u5,u6,u7] [] ydL=.nx [AA (.int s),AA yat,AA (.int d),AA (.int i),AA (.int p),m,n,o] []:=by
 have q:∀z:IM,yq .mul (.int z) (.int (48271+2*(i:IM)))=AA (.int (z*(48271+2*(i:IM)))):=λz=>zep ();have r:∀z y:IM,yq .mul (.int z) (.int (y%p))=AA (.int (z*(y%p))):=λz y=>zep (by have a:=B8 y (show p≠0 by lia);have b:=BQ y f;lia)
 have t:∀z:IM,yq .mul (.int z) (.int p)=AA (.int (z*p)):=λz=>zep ();simp! [ydL,yaw,j,q,r,t,zmz f];exact#[_,_,_,_,rfl]
def zlk{c}{s num:IM}{u5 u6 u7:Option PV}(i:IL)(p:IM)(h:(i,p)∈[(0,(2147483647:IM)),(1,2147483629),(2,2147483587),(3,2147483579),(4,2147483563)]):
  ∃a b d f,exs c [AA (.int s),AA yat,AA (.int num),AA (.int i),AA (.int p),u5,u6,u7] [] ydL=.nx [AA (.int s),AA yat,AA (.int a),AA (.int i),AA (.int p),b,d,f] []:=by
 erw[AS,Prod.mk.injEq,A9,IX]at h;rcases h with⟨rfl,rfl⟩|⟨rfl,rfl⟩|⟨rfl,rfl⟩|⟨rfl,rfl⟩|⟨rfl,rfl⟩
 .exact zd3 (λ_=>rfl) ⋯ ⋯ ⋯
 .exact zd3 (λ_=>rfl) ⋯ ⋯ ⋯
 .exact zd3 (λ_=>rfl) ⋯ ⋯ ⋯
 .exact zd3 (λ_=>rfl) ⋯ ⋯ ⋯
 .exact zd3 (λ_=>rfl) ⋯ ⋯ ⋯
def yeo:IK PV:=[.tup [.int 0,.int 2147483647],.tup [.int 1,.int 2147483629],.tup [.int 2,.int 2147483587],.tup [.int 3,.int 2147483579],.tup [.int 4,.int 2147483563]]
theorem mixed(k:IL)(s:IM)(st:SO):∃num,yc T (k+1) ykb [.int s] st=.ok (.int num) st:=by
 let#[A,l,h,num,a,b,c,d,e,m,o]:=zfu (call:=yc T k) (t:=.t [3,4]) (b:=ydL) (λ_ U st=>∃num a b c d e,U=[AA (.int s),AA yat,AA (.int num),a,b,c,d,e]/\st=[]) yeo 0 [AA (.int s),AA yat,AA (.int 0),AD,AD,AD,AD,AD] [] #[_,_,_,_,_,_,rfl,rfl] (by
  rintro j x U st f ⟨num,a,b,c,d,e,rfl,rfl⟩
  have f:=AZ f;have f:∃i p,x=.tup [.int ((i:IL):IM),.int p]/\(i,p)∈[(0,(2147483647:IM)),(1,2147483629),(2,2147483587),(3,2147483579),(4,2147483563)]:=by
   erw[yeo,AS,A9,IX]at f;rcases f with rfl|rfl|rfl|rfl|rfl
   .exact#[0,_,rfl,by simp]
   .exact#[1,_,rfl,by simp]
   .exact#[2,_,rfl,by simp]
   .exact#[3,_,rfl,by simp]
   .exact#[4,_,rfl,by simp]
  let#[i,p,rfl,q]:=f;let#[g,B,C,D,r]:=zlk (c:=yc T k) (s:=s) (num:=num) (u5:=c) (u6:=d) (u7:=e) i p q;exact#[_,_,_,rfl,r,_,_,_,_,_,_,rfl,rfl])
 subst m o;refine#[num,?_];rw[yc];have u:yaw.body=.cons (.asg (.n 1) (.tup (.cons (.cst (.int 2147483647)) (.cons (.cst (.int 2147483629)) (.cons (.cst (.int 2147483587)) (.cons (.cst (.int 2147483579)) (.cons (.cst (.int 2147483563)) .nil))))))) (.cons (.asg (.n 2) (.cst (.int 0))) (.cons (.for (.t [3,4]) (.enum (.var 1)) ydL) (.cons (.ret (.var 2)) .nil))):=rfl;have w:T ykb=AA #[1,8,AC,yaw.body]:=rfl;have E:PV.tup [.int 2147483647,.int 2147483629,.int 2147483587,.int 2147483579,.int 2147483563]=yat:=rfl;rw[w,u];have y:ev (yc T k) [AA (.int s),AD,AD,AD,AD,AD,AD,AD] [] (.tup (.cons (.cst (.int 2147483647)) (.cons (.cst (.int 2147483629)) (.cons (.cst (.int 2147483587)) (.cons (.cst (.int 2147483579)) (.cons (.cst (.int 2147483563)) .nil))))))=.ok yat []:=by simp[IC.ve1,IC.ve11,IC.vsq0,IC.vsq1,R.bind,sizeMax,yat]
 have z:evi (yc T k) [AA (.int s),AA yat,AA (.int 0),AD,AD,AD,AD,AD] [] (.enum (.var 1))=.ok yeo []:=by simp[IC.vjq0,IC.vjq1,IC.vjq2,IC.vjq3,IC.vjq4,IC.vjq5,IC.vjq6,IC.vjq7,IC.vjq8,IC.ve2,R.bind,yat,yZ,yeo]
 erw[A7,By,IV,nLs,nL,CU,AO,BV,Ej,Av,Bd,CM,xs_cons,xs_nil,x_asg,x_for,x_ret,y,R.fl,yH,nxO,yaz,BO,BP,IC.ve1,z,h,IC.ve2,BK,Ar]
theorem rdS{st:SO}{n:IL}{o x}(h:st[n]?=AA o):(st.set n x)[n]?=AA x:=by
 have:n<st.length:=by
  rcases DP n st.length with a|a
  .exact a
  .rw[BD a]at h;cases h
 rw[Ac this]
def zqc(b:IK IM)(a:IM)(h:b≠[]):∃v,yaV (b.map PV.int) (.int (a%(b.length:IM)))=AA (.int v):=by
 have g:0<b.length:=Fp.2 h;have c:=B8 a (show (b.length:IM)≠0 by lia);have d:=BQ a (show (0:IM)<b.length by lia);have f:(a%(b.length:IM)).toNat<b.length:=()
 refine#[b[(a%(b.length:IM)).toNat],?_];simp[yaV,at?,ixI,c,d,f]
def flT:Css:=match yag.body with
 |.cons _ (.cons _ (.cons _ t))=>t
 |x=>x
abbrev flS(l:PV)(a p:IM)(f:IQ):Ob:=.lst [l,.int a,.int p,.bl f]
def zru{st:SO}{n:IL}{l}{a p v:IM}{f}(h:st[n]?=AA (flS l a p f)):ybl st (.loc n) (.int 1) (.int v)=AA (st.set n (flS l v p f)):=by erw[ybl,h];rfl
def zrD{st:SO}{n:IL}{l}{a p v:IM}{f}(h:st[n]?=AA (flS l a p f)):ybl st (.loc n) (.int 2) (.int v)=AA (st.set n (flS l a v f)):=by erw[ybl,h];rfl
def zq5{st:SO}{n:IL}{l}{a p:IM}{f g}(h:st[n]?=AA (flS l a p f)):ybl st (.loc n) (.int 3) (.bl g)=AA (st.set n (flS l a p g)):=by erw[ybl,h];rfl
def zsw{st:SO}{n:IL}{l}{a p:IM}{f}(h:st[n]?=AA (flS l a p f)):idxV st (.loc n) (.int 0)=AA l:=by erw[idxV,h];rfl
def zsx{st:SO}{n:IL}{l}{a p:IM}{f}(h:st[n]?=AA (flS l a p f)):idxV st (.loc n) (.int 1)=AA (.int a):=by erw[idxV,h];rfl
def zsy{st:SO}{n:IL}{l}{a p:IM}{f}(h:st[n]?=AA (flS l a p f)):idxV st (.loc n) (.int 3)=AA (.bl f):=by erw[idxV,h];rfl
theorem p18:yq .pow (.int 10) (.int 18)=AA (.int 1000000000000000000):=by ac_rfl
def zho(k n:IL){l}{m a v p q:IM}{f g:IQ}{st:SO}(h:st[n]?=AA (flS l a p f))(A:∀st,yaj .len st [l]=AA (.int m))(d:(decide (a ≥ m) || decide (v<1000000000000000000))=g)
  (o:g=AC->yc T (k+1) ykb [.int v] (st.set n (flS l (a+1) p AC))=.ok (.int q) (st.set n (flS l (a+1) p AC))) (t:g=AB->q=v-1000000000000000000):
  exs (yc T (k+1)) [AA (.loc n),AA l,AA (.int a),AA (.int v)] st flT=.nx [AA (.loc n),AA l,AA (.int a),AA (.int v)] (st.set n (flS l (a+1) q g)):=by
 have B:=zru h (v:=a+1);have C:=rdS h (x:=flS l (a+1) p f);have u:=zq5 C (g:=g);have w:=rdS C (x:=flS l (a+1) p g);have j:=zrD w (v:=q);have z:=zsy w;rw[Co]at u j z w;rw[Co]at j
 have D:flT=(match flT with
  |.cons a (.cons (.six x y _) r)=>.cons a (.cons (.six x y (.or (.cmp .ge (.var 2) (.blt .len (.cons (.var 1) .nil))) (.cmp .lt (.var 3) (.bin .pow (.cst (.int 10)) (.cst (.int 18)))))) r)
  |x=>x):=rfl
 have b:∀st,ev (yc T (k+1)) [AA (.loc n),AA l,AA (.int a),AA (.int v)] st (.or (.cmp .ge (.var 2) (.blt .len (.cons (.var 1) .nil))) (.cmp .lt (.var 3) (.bin .pow (.cst (.int 10)) (.cst (.int 18)))))=.ok (.bl g) st:=λst=>by
  cases c:decide (a ≥ m)
  .rw[c,Fx]at d;simp! [A,c,p18,d]
  .rw[c,G3]at d;subst d;simp! [A,c]
 generalize G:(Ce.or (.cmp .ge (.var 2) (.blt .len (.cons (.var 1) .nil))) (.cmp .lt (.var 3) (.bin .pow (.cst (.int 10)) (.cst (.int 18)))))=E at *
 cases g with
 |true=>
  have o:=o rfl;rw[D];simp! [flT,yag,stO,B,b,u,z,o,j]
 |false=>
  have t:=t rfl;subst t;rw[D];simp! [flT,yag,stO,B,b,u,z,p18,j]
theorem fill(k n:IL)(d:IK IM)(B:d.length<=1000)(a p:IM)(M:0<=a)(f)(st:SO)(h:st[n]?=AA (.lst [.lst (d.map .int),.int a,.int p,.bl f])):
  ∃C D,yc T (k+2) ylF [.loc n] st=.ok .non (st.set n (.lst [.lst (d.map .int),.int (a+1),.int C,.bl D])):=by
 have u:T ylF=AA #[1,4,AB,yag.body]:=rfl;have l:∀st,yaj .len st [.lst (d.map .int)]=AA (.int (d.length:IM)):=λst=>by show AA (PV.int (((d.map PV.int).length:IL):IM))=_;simp
 have w:=zsw h;have y:=zsx h;have z:∀(a b:PV) (U:IC.Env),yH (.t [1,2]) (.tp AB [a,b]) U=AA ((U.set 1 (AA a)).set 2 (AA b)):=λ_ _ _=>rfl
 have A:yag.body=(match yag.body with
  |.cons a (.cons b (.cons c _))=>.cons a (.cons b (.cons c flT))
  |x=>x):=rfl
 have g:yq .mul (.int 31) (.int a)=AA (.int (31*a)):=zaW ⋯;obtain⟨v,m⟩:∃v,exs (yc T (k+1)) [AA (.loc n),AD,AD,AD] st yag.body=exs (yc T (k+1)) [AA (.loc n),AA (.lst (d.map .int)),AA (.int a),AA (.int v)] st flT:=by
  by_cases o:d=[]
  .have r:decide ((d.length:IM) > 0)=false:=by subst o;rfl
   refine#[31*a+7,?_];rw[A];generalize flT=F,d.map PV.int=L at *;simp! [yag,w,y,z,g,l,r]
  .have N:0<d.length:=Fp.2 o;let#[v,m]:=zqc d a o;have r:decide ((d.length:IM) > 0)=true:=IW ();have E:=zjV (i:=a) (j:=(d.length:IM)) () ();have G:=zmz (i:=a) (j:=(d.length:IM)) ();have H:yq .mul (.int 104729) (.int (a/(d.length:IM)))=AA (.int (104729*(a/(d.length:IM)))):=zaW ⋯;have I:∀st,idxV st (.lst (d.map .int)) (.int (a%(d.length:IM)))=AA (.int v):=λ_=>m;refine#[104729*(a/(d.length:IM))+v,?_];rw[A];generalize flT=F,d.map PV.int=L at *;simp! [yag,w,y,z,g,l,r,E,G,H,I]
 cases c:(decide (a ≥ (d.length:IM)) || decide (v<1000000000000000000))with
 |true=>
  let#[q,J]:=mixed k v (st.set n (flS (.lst (d.map .int)) (a+1) p AC));refine#[q,AC,?_];rw[zm u rfl rfl];have e:=zho k n h l c (λ_=>J) (λh=>nomatch h);rw[<-m]at e;exact(Ic _ e).trans rfl
 |false=>
  refine#[v-1000000000000000000,AB,?_];rw[zm u rfl rfl];have e:=zho k n h l c (λh=>nomatch h) (λ_=>rfl);rw[<-m]at e;exact(Ic _ e).trans rfl
abbrev cM:IL:=21
abbrev sw:Str:=AE "w"
abbrev sws:Str:=AE "words"
abbrev smk:Str:=AE "marked"
def mob(w:IM)(L:IL)(a:IM):Ob:=.ins cM [(sw,.int w),(sws,.loc L),(smk,.int a)]
structure MM(st:SO)(m l:IL)(w:IM)(M:Mem)(mk:IM)(L:IL):Prop where
 o:st[m]?=AA (mob w l mk)
 d:Dc st l M L
 ne:m≠l
def zsz{w a:IM}{L:IL}:([(sw,PV.int w),(sws,.loc L),(smk,.int a)]:IK (AL×PV)).lookup sw=AA (.int w):=by ac_rfl
def zsA{w a:IM}{L:IL}:([(sw,PV.int w),(sws,.loc L),(smk,.int a)]:IK (AL×PV)).lookup sws=AA (.loc L):=by ac_rfl
def zsB{w a:IM}{L:IL}:([(sw,PV.int w),(sws,.loc L),(smk,.int a)]:IK (AL×PV)).lookup smk=AA (.int a):=by ac_rfl
section
variable {st:SO}{m l L:IL}{w mk:IM}{M:Mem}
theorem MM.fw(h:MM st m l w M mk L):ya0 cM st (.loc m) sw=AA (.int w):=by erw[ya0,h.o,mob,IV];exact zsz
theorem MM.fd(h:MM st m l w M mk L):ya0 cM st (.loc m) sws=AA (.loc l):=by erw[ya0,h.o,mob,IV];exact zsA
theorem MM.fm(h:MM st m l w M mk L):ya0 cM st (.loc m) smk=AA (.int mk):=by erw[ya0,h.o,mob,IV];exact zsB
theorem MM.ins(h:MM st m l w M mk L)(n:AL)(a:(([(sw,PV.non),(sws,.non),(smk,.non)]:IK (AL×PV)).lookup n).isNone=true:=by decide +kernel):yb4 cM n st (.loc m)=AA true:=by
 have e:([(sw,PV.int w),(sws,.loc l),(smk,.int mk)]:IK (AL×PV)).lookup n=none:=by
  erw[Bo]at a ⊢
  cases b:n==sw with
  |true=>rw[b]at a;cases a
  |false=>
   rw[b]at a
   cases c:n==sws with
   |true=>rw[c]at a;cases a
   |false=>
    rw[c]at a
    cases d:n==smk with
    |true=>rw[d]at a;cases a
    |false=>rfl
 erw[yb4,h.o,mob];rw[IR #[trivial,e]]
def zqs{v:IM}:ybH smk (.int v) [(sw,PV.int w),(sws,.loc L),(smk,.int mk)]=[(sw,.int w),(sws,.loc L),(smk,.int v)]:=by ac_rfl
theorem Dc.set_ne{n:IL}(h:Dc st l M L)(b:n≠l)(o:Ob):Dc (st.set n o) l M L:=by let#[a,c,d]:=h.ex;exact#[a,by rw[AM b];exact c,d]
theorem Dc.le{b:IL}(h:Dc st l M L)(c:L<=b):Dc st l M b:=by let#[a,d,f,g,j]:=h.ex;exact#[a,d,f,g,As j c]
theorem MM.sm(h:MM st m l w M mk L)(v:IM):yaY cM st (.loc m) smk (.int v)=AA (st.set m (mob w l v))/\MM (st.set m (mob w l v)) m l w M v L:=by refine#[?_,#[rdS h.o,h.d.set_ne h.ne _,h.ne]];erw[yaY,h.o,mob];rw[IR #[trivial,by simp],zqs]
theorem MM.sd(h:MM st m l w M mk L)(b:L<999999)(c:Cel)(v:IM):∃a,ya6 st (.loc l) (yG c) (.int v)=AA a/\(∃o,a=st.set l o)/\MM a m l w (wr M c v) mk (L+1):=by let#[f,e,d]:=zld h.d b c.1 c.2 v;exact#[_,e,#[_,rfl],by rw[AM (Ax h.ne)];exact h.o,d,h.ne]
def zdi(k:IL)(h:MM st m l w M mk L)(c):yc T (k+1) yh7 [.loc m,yG c] st=.ok (.int (rd M c)) st:=by
 have a:T yh7=AA yiW:=rfl;have g:ybD .get st (.loc l) [yG c,.int 0]=.ok (.int (rd M c)) st:=zlw h.d c.1 c.2;have o:yas .get st (.loc l)=AA true:=by let#[b,d,_]:=h.d.ex;simp[yas,ya5,d]
 rw[zm a rfl rfl];generalize yG c=q at *;simp! [yiW,h.fd,o,g,zad,IC.ve32]
end
theorem highest(k n:IL)(c:n<=100)(s:SO):yc T (k+1) yjI [.int n] s=.ok (.int (2^n-1)) s:=by
 have a:T yjI=AA yiK:=rfl;have b:yq .shl (.int 1) (.int (n:IM))=AA (.int (2^n)):=by erw[yq,binI];rw[IR #[(),(),by decide]];simp
 rw[zc a rfl rfl rfl];simp! [yiK,znP,b]
def za3{st s}{a b:IM}:ybq st (.rt (.tp AB [.int a,.int b]) s)=.ok (.tp AB [.int a,.int b]) st:=rfl
section
variable {x y m:IM}{n:IL}(hn:n<=100)(hn1:1<=n)(k:IL)(st:SO)
def znX:yq .shr (.int x) (.int (n:IM))=AA (.int (x/2^n)):=by erw[yq,binI];rw[IR ()];simp
theorem band(a b:IM):yq .band (.int a) (.int b)=AA (.int (Ao a b)):=rfl
def zoF{x y:IM}(a:0<=x)(b:0<=y):Ao x y=((x.toNat &&& y.toNat:IL):IM):=by simp[Ao,a,b]
def zqI{x y:IM}(a:¬0<=x)(b:0<=y):Ao x y=y-((y.toNat &&& (F7 x).toNat:IL):IM):=by simp[Ao,a,b]
def zeB(a:IM):Ao a (2^n-1)=a%2^n:=by
 have d:(0:IM)<2^n:=Bq ⋯;have b:((2^n:IL):IM)=2^n:=by simp
 have c:((2:IM)^n-1).toNat=2^n-1:=()
 by_cases h:0<=a
 .rw[zoF h (),c,D0,Eu,b,Cu h]
 .have f:F7 a=-a-1:=rfl;rw[zqI h (),c,IL.and_comm,D0,Eu,b,f,Cu ()];have e:=IM.emod_add_mul_ediv (-a-1) (2^n);have g:=B8 (-a-1) (show (2:IM)^n≠0 by lia);have j:=BQ (-a-1) d;generalize (-a-1)%2^n=r,(-a-1)/2^n=q at *;generalize (2:IM)^n=P at *;have m:P*(-q-1)=-(P*q)-P:=by rw[IM.mul_sub,IM.mul_neg,Cf]
  rw[show a=(P-1-r)+P*(-q-1)by lia,IM.add_mul_emod_self_left,IM.emod_eq_of_lt () ()]
include hn
def zoy:yc T (k+1) yjJ [.int n,.int x,.int y,.int m] st=.ok (.tp AB [.int x,.int m]) st:=by have a:T yjJ=AA yiL:=rfl;rw[zc a rfl rfl rfl];simp! [yiL,za3]
def zn4:yc T (k+2) yjK [.int n,.int x,.int y,.int m] st=.ok (.tp AB [.int (2^n-1-x),.int m]) st:=by have a:T yjK=AA yiM:=rfl;have e:=highest k n hn;rw[zc a rfl rfl rfl];simp! [yiM,za3,e]
def zhr:yc T (k+2) yjL [.int n,.int x,.int y,.int m] st=.ok (.tp AB [.int ((x+y+m)%2^n),.int ((x+y+m)/2^n)]) st:=by have a:T yjL=AA yiN:=rfl;have e:=highest k n hn;rw[zc a rfl rfl rfl];simp! [yiN,za3,e,band,znX,zeB]
def zoD:yc T (k+2) yjM [.int n,.int x,.int y,.int m] st=.ok (.tp AB [.int ((x-y-m)%2^n),.int (if x-y-m<0 then 1 else 0)]) st:=by
 have b:T yjM=AA yif:=rfl;have e:=highest k n hn;rw[zc b rfl rfl rfl]
 by_cases c:x-y-m<0
 .have d:yp .lt (.int (x-y-m)) (.int 0)=AA (.bl AC):=by simp[yp,ybQ,c]
  rw[IR c];have a:decide (x-y-m<0)=true:=IW c;simp! [yif,za3,e,band,zeB,a]
 .rw[IS c];have a:decide (x-y-m<0)=false:=IT c;simp! [yif,za3,e,band,zeB,a]
def zqb:yc T (k+1) yjN [.int n,.int x,.int y,.int m] st=.ok (.tp AB [.int (Ao x y),.int m]) st:=by have a:T yjN=AA yiO:=rfl;rw[zc a rfl rfl rfl];simp! [yiO,za3,zkT]
def zrg:yc T (k+1) yjO [.int n,.int x,.int y,.int m] st=.ok (.tp AB [.int (BX x y),.int m]) st:=by have a:T yjO=AA yiP:=rfl;rw[zc a rfl rfl rfl];simp! [yiP,za3,zrQ]
def zrb:yc T (k+1) yjP [.int n,.int x,.int y,.int m] st=.ok (.tp AB [.int (B5 x y),.int m]) st:=by have a:T yjP=AA yiQ:=rfl;rw[zc a rfl rfl rfl];simp! [yiQ,za3,zpa]
def zix:yc T (k+3) yjQ [.int n,.int x,.int y,.int m] st=.ok (.tp AB [.int ((x+x+m)%2^n),.int ((x+x+m)/2^n)]) st:=by have a:T yjQ=AA yiR:=rfl;have e:=zhr (x:=x) (y:=x) (m:=m) hn k;rw[zc a rfl rfl rfl];simp! [yiR,za3,e]
include hn1
def zmI(g:0<=x)(j:x<2^n)(l:0<=m)(r:m<2):BX (x/2) (m*2^(n-1))=x/2+m*(2^n/2):=by
 obtain⟨c,rfl⟩:∃c,n=c+1:=#[n-1,()];let#[a,rfl]:=zcB g;let#[b,rfl]:=zcB l;have o:((a:IM)/2)=((a/2:IL):IM):=()
 have p:((b:IM)*2^(c+1-1))=((2^c * b:IL):IM):=by rw[show c+1-1=c from rfl,Cq];simp
 have d:(2:IM)^(c+1)=2*2^c:=by rw[CS,Cq]
 have q:a/2<2^c:=by
  have:(a:IM)<2*2^c:=by rw[<-d];exact j
  have f:((2^c:IL):IM)=2^c:=by simp
  lia
 rw[o,p,zjj,IL.or_comm,<-IL.two_pow_add_eq_or_of_lt q,d,IM.mul_ediv_cancel_left _ ⋯];have f:((2^c * b:IL):IM)=b*2^c:=by rw[Cq];simp
 rw[IM.natCast_add,f,Ho]
def zko(a:0<=x)(b:x<2^n)(c:0<=m)(d:m<2):yc T (k+1) yjR [.int n,.int x,.int y,.int m] st=.ok (.tp AB [.int (x/2+m*(2^n/2)),.int (x%2)]) st:=by
 have f:T yjR=AA yiS:=rfl;have g:yq .shr (.int x) (.int 1)=AA (.int (x/2)):=by have:=znX (x:=x) (n:=1);simpa using this
 have j:yq .shl (.int m) (.int ((n:IM)-1))=AA (.int (m*2^(n-1))):=by
  erw[yq,binI];rw[IR #[(),(),()]]
  congr 3
  congr 1
  lia
 have l:Ao x 1=x%2:=zeB (n:=1) x;rw[zc f rfl rfl rfl];simp! [yiS,za3,g,j,zrQ,zmI hn hn1 a b c d,band,l]
end
def zlD{j:IL}{k:IL->Fl}:yef (AA j) k=k j:=rfl
theorem made{s}{j:IL}(c:mkV yes AC (.str s)=AA j)(k:IL)(st:SO){n x y m a b:IM}(e:yc T k j [.int n,.int x,.int y,.int m] []=.ok (.tp AB [.int a,.int b]) []):
  yc T (k+1) yjH [.str s,.int n,.int x,.int y,.int m] st=.ok (.tp AB [.int a,.int b]) st:=by have d:T yjH=AA yiJ:=rfl;have f:decide (5<6)=true:=rfl;rw[zc d rfl rfl rfl];erw[yiJ,AO,BV,Ej,Av,Bd,CM,xs_cons,zmC,IC.ve2,BK,fl_ok];simp! [f,c,zlD,e,za3]
def zkU:mkV yes AC (.str "move")=AA yjJ/\mkV yes AC (.str "bare")=AA yjK/\mkV yes AC (.str "sum")=AA yjL/\mkV yes AC (.str "less")=AA yjM/\mkV yes AC (.str "both")=AA yjN /\
  mkV yes AC (.str "any")=AA yjO/\mkV yes AC (.str "odd")=AA yjP/\mkV yes AC (.str "twice")=AA yjQ/\mkV yes AC (.str "half")=AA yjR:=by refine#[?_,?_,?_,?_,?_,?_,?_,?_,?_]<;>decide +kernel
def zsC{i j:IL}{k}{a b:PV}{U:IC.Env}:yH (.t [i,j]) (.tp k [a,b]) U=AA ((U.set i (AA a)).set j (AA b)):=rfl
def zsD{call U st}:ev call U st (.neg (.cst (.int 1)))=.ok (.int (-1)) st:=by erw[ev,R.bind]
def okM(r:R PV)(st:SO)(m l:IL)(w:IM)(c:Mem)(b:IM)(d:IL):Prop:=∃a,MM a m l w c b d/\(∀n,n≠m->n≠l->a[n]?=st[n]?)/\a.length=st.length/\r=.ok .non a
section
variable {st:SO}{m l L n:IL}{mk:IM}{M:Mem}
def zbp(k:IL)(h:MM st m l n M mk L)(g:L<999999){s}{j:IL}(p:mkV yes AC (.str s)=AA j){t x z:Cel}{r:IK PV}
  (c:∀st,idxV st (.tp AB (.str s::yG t::yG x::r)) (.int (-1))=AA (yG z)) {v d:IM} (e:yc T (k+3) j [.int n,.int (rd M x),.int (rd M z),.int mk] []=.ok (.tp AB [.int v,.int d]) []):
  okM (yc T (k+5) yjU [.loc m,.tp AB (.str s::yG t::yG x::r)] st) st m l n (wr M t v) d (L+1):=by
 have u:T yjU=AA yiY:=rfl;have w:yc T (k+4) yh7 [.loc m,yG x] st=.ok (.int (rd M x)) st:=zdi (k+3) h x;have y:yc T (k+4) yh7 [.loc m,yG z] st=.ok (.int (rd M z)) st:=zdi (k+3) h z;have A:yc T (k+4) yjH [.str s,.int n,.int (rd M x),.int (rd M z),.int mk] st=_:=made p (k+3) st e;have ih:=h.ins (AE "held_in");let#[G,B,#[o,f],C]:=h.sd g t v;let#[D,E]:=C.sm d;refine#[_,E,λq a b=>?_,by simp[f],?_]
 .rw[AM (Ax a),f,AM (Ax b)]
 rw[zm u rfl rfl];generalize yG t=H,yG x=I,yG z=J at *;simp! [yiY,ih,ix0,ix1,ix2,w,zsD,c,y,zsC,h.fw,h.fm,A,h.fd,zg3,B,zaC,zgU,D,D6,IC.ve32,IC.ve37];rfl
end
section
variable {st:SO}{m l L n:IL}{mk:IM}{M:Mem}
def zcV(k:IL){s}{r:IK PV}{c}{a:IM}{d:IL}(h:MM st m l n M mk L)(f:yp .eq (.str s) (.str "mark")=AA (.bl AB))(j:yp .eq (.str s) (.str "ask")=AA (.bl AB))(o:yp .eq (.str s) (.str "set")=AA (.bl AB))(p:yp .eq (.str s) (.str "times")=AA (.bl AB))
  (g:okM (yc T (k+5) yjU [.loc m,.tp AB (.str s::r)] st) st m l n c a d):okM (yc T (k+6) y4 [.loc m,.tp AB (.str s::r)] st) st m l n c a d:=by have q:T y4=AA yz:=rfl;let#[b,t,u,w,e]:=g;refine#[b,t,u,w,?_];have ih:=h.ins (AE "go_made");rw[zm q rfl rfl];simp! [yz,ix0,f,j,o,p,ih,e,IC.ve37];rfl
theorem MM.le{a:IL}{w:IM}(h:MM st m l w M mk L)(b:L<=a):MM st m l w M mk a:=#[h.o,h.d.le b,h.ne]
def zno(k:IL)(h:MM st m l n M mk L)(d:IM):okM (yc T (k+6) y4 [.loc m,yaq (.mark d)] st) st m l n M d (L+1):=by
 have c:T y4=AA yz:=rfl;let#[f,g]:=h.sm d;refine#[_,g.le (),λq a b=>by rw[AM (Ax a)],by simp,?_];have q:yp .eq (.str "mark") (.str "mark")=AA (.bl AC):=by ac_rfl
 rw[zm c rfl rfl];simp! [yz,yaq,ix0,ix1,q,zgU,f,zaC];rfl
def zpX(k:IL)(h:MM st m l n M mk L)(x):okM (yc T (k+6) y4 [.loc m,yaq (.ask x)] st) st m l n M (bi (!(rd M x==0))) (L+1):=by
 have g:T y4=AA yz:=rfl;let#[c,j]:=h.sm (bi (!(rd M x==0)));refine#[_,j.le (),λq a b=>by rw[AM (Ax a)],by simp,?_];have q:yp .eq (.str "ask") (.str "mark")=AA (.bl AB):=by ac_rfl
 have d:yp .eq (.str "ask") (.str "ask")=AA (.bl AC):=by ac_rfl
 have f:yc T (k+5) yh7 [.loc m,yG x] st=.ok (.int (rd M x)) st:=zdi (k+4) h x;have ih:=h.ins (AE "held_in");rw[zm g rfl rfl];erw[yaq];generalize yG x=o at *
 cases e:(rd M x==0)with
 |true=>
  rw[e]at c;have c:yaY cM st (.loc m) smk (.int 0)=_:=c;simp! [yz,ix0,ix1,q,d,ih,f,e,zgU,c,zaC,IC.ve37];rfl
 |false=>
  rw[e]at c;have c:yaY cM st (.loc m) smk (.int 1)=_:=c;simp! [yz,ix0,ix1,q,d,ih,f,e,zgU,c,zaC,IC.ve37];rfl
def zpU(k:IL)(h:MM st m l n M mk L)(f:L<999999)(t)(d:IM):okM (yc T (k+6) y4 [.loc m,yaq (.set t d)] st) st m l n (wr M t d) mk (L+1):=by
 have g:T y4=AA yz:=rfl;let#[w,j,#[o,c],p]:=h.sd f t d;refine#[_,p,λq a b=>by rw[c,AM (Ax b)],by simp[c],?_];have q:yp .eq (.str "set") (.str "mark")=AA (.bl AB):=by ac_rfl
 have r:yp .eq (.str "set") (.str "ask")=AA (.bl AB):=by ac_rfl
 have u:yp .eq (.str "set") (.str "set")=AA (.bl AC):=by ac_rfl
 rw[zm g rfl rfl];erw[yaq];generalize yG t=x at *;simp! [yz,ix0,ix1,ix2,q,r,u,h.fd,zg3,j,zaC,IC.ve32];rfl
def zrR{s a b:PV}:∀st,idxV st (.tp AB [s,a,b]) (.int (-1))=AA b:=λst=>rfl
def zrL{s a b c:PV}:∀st,idxV st (.tp AB [s,a,b,c]) (.int (-1))=AA c:=λst=>rfl
def zmP(a:IM):(if a<0 then(1:IM)else 0)=bi (decide (a<0)):=by by_cases h:a<0<;>simp[h,bi]
theorem okM.le{R:R PV}{w:IM}{f:IL}(h:okM R st m l w M mk L)(g:L<=f):okM R st m l w M mk f:=by let#[s,a,b,c,d]:=h;exact#[s,a.le g,b,c,d]
def zkO(k:IL)(h:MM st m l n M mk L)(hL:L+1<999999)(z:n<=100)(a b x y)(A:(rd M x).natAbs<18446744073709551616):okM (yc T (k+6) y4 [.loc m,yaq (.times a b x y)] st) st m l n (wr (wr M a (rd M x*rd M y%2^n)) b (rd M x*rd M y/2^n)) mk (L+2):=by
 have B:T y4=AA yz:=rfl;have r:T ylC=AA yiX:=rfl;let#[s1,C,#[o1,f],t]:=h.sd () a (rd M x*rd M y%2^n);let#[w,D,#[o2,o],E]:=t.sd () b (rd M x*rd M y/2^n);refine#[w,E,λq _ c=>by rw[o,AM (Ax c),f,AM (Ax c)],by simp[f,o],?_];have G:yp .eq (.str "times") (.str "mark")=AA (.bl AB):=by ac_rfl
 have H:yp .eq (.str "times") (.str "ask")=AA (.bl AB):=by ac_rfl
 have I:yp .eq (.str "times") (.str "set")=AA (.bl AB):=by ac_rfl
 have J:yp .eq (.str "times") (.str "times")=AA (.bl AC):=by ac_rfl
 have N:∀(st:SO) (a b c d e:PV),idxV st (.tp AB [a,b,c,d,e]) (.int 1)=AA b/\idxV st (.tp AB [a,b,c,d,e]) (.int 2)=AA c/\idxV st (.tp AB [a,b,c,d,e]) (.int 3)=AA d/\idxV st (.tp AB [a,b,c,d,e]) (.int 4)=AA e:=λ_ _ _ _ _ _=>#[rfl,rfl,rfl,rfl];have ih:=h.ins (AE "go_times");have u:=h.ins (AE "held_in");have O:=zdi (k+3) h x;have Q:=zdi (k+3) h y;have U:=λs=>highest (k+3) n z s;have X:=zaW (i:=rd M x) (j:=rd M y) A;have Y:=h.fw;have Z:=h.fd;have f3:=t.fw;have f4:=t.fd;have g:yc T (k+5) ylC [.loc m,yaq (.times a b x y)] st=.ok .non w:=by rw[zm r rfl rfl];erw[yaq];generalize rd M x*rd M y=p,yG a=ca,yG b=cb,yG x=cx,yG y=cy at *;simp! [yiX,u,O,Q,U,N,X,Y,Z,f3,f4,band,zeB,znX,zg3,C,D,zaC,IC.ve32,IC.ve37];rfl
 rw[zm B rfl rfl];erw[yaq]at g ⊢;simp! [yz,ix0,G,H,I,J,ih,g,IC.ve37];rfl
def zpW(k:IL)(h:MM st m l n M mk L)(q:L+1<999999)(j:n<=100)(o:1<=n)(r:Rw)(u:∀t x,r=.half t x->0<=rd M x/\rd M x<2^n/\0<=mk/\mk<2)(w:∀a b x y,r=.times a b x y->(rd M x).natAbs<18446744073709551616):
  okM (yc T (k+6) y4 [.loc m,yaq r] st) st m l n (stepM (2^n) M mk r).1 (stepM (2^n) M mk r).2 (L+2):=by
 have f:L<999999:=()
 have g:=λ{R:R PV} {z:Mem} {p:IM} (h:okM R st m l n z p (L+1))=>h.le (show L+1<=L+2 by lia);let#[A,B,C,D,E,G,H,I,J]:=zkU
 cases r with
 |mark d=>exact g (zno k h d)
 |ask x=>exact g (zpX k h x)
 |set t d=>exact g (zpU k h f t d)
 |move t x=>exact g (zcV k h (by ac_rfl) (by ac_rfl) (by ac_rfl) (by ac_rfl) (zbp k h f A zrR (zoy j (k+2) [])))
 |bare t x=>exact g (zcV k h (by ac_rfl) (by ac_rfl) (by ac_rfl) (by ac_rfl) (zbp k h f B zrR (zn4 j (k+1) [])))
 |twice t x=>
  have e:=zix (x:=rd M x) (y:=rd M x) (m:=mk) j k [];rw[show rd M x+rd M x+mk=2*rd M x+mk by lia]at e;exact g (zcV k h (by ac_rfl) (by ac_rfl) (by ac_rfl) (by ac_rfl) (zbp k h f I zrR e))
 |half t x=>
  let#[a,b,c,d]:=u t x rfl;exact g (zcV k h (by ac_rfl) (by ac_rfl) (by ac_rfl) (by ac_rfl) (zbp k h f J zrR (zko j o (k+2) [] a b c d)))
 |sum t x y=>exact g (zcV k h (by ac_rfl) (by ac_rfl) (by ac_rfl) (by ac_rfl) (zbp k h f C zrL (zhr j (k+1) [])))
 |less t x y=>
  have e:=zoD (x:=rd M x) (y:=rd M y) (m:=mk) j (k+1) [];rw[zmP]at e;exact g (zcV k h (by ac_rfl) (by ac_rfl) (by ac_rfl) (by ac_rfl) (zbp k h f D zrL e))
 |both t x y=>exact g (zcV k h (by ac_rfl) (by ac_rfl) (by ac_rfl) (by ac_rfl) (zbp k h f E zrL (zqb j (k+2) [])))
 |any t x y=>exact g (zcV k h (by ac_rfl) (by ac_rfl) (by ac_rfl) (by ac_rfl) (zbp k h f G zrL (zrg j (k+2) [])))
 |odd t x y=>exact g (zcV k h (by ac_rfl) (by ac_rfl) (by ac_rfl) (by ac_rfl) (zbp k h f H zrL (zrb j (k+2) [])))
 |times a b x y=>exact zkO k h q j a b x y (w a b x y rfl)
end
def yt(W:IM):IL->IM->IK IM
 |0,_=>[]
 |n+1,x=>x%W::yt W n (x/W)
def zbj(W:IM):∀n x,(yt W n x).length=n
 |0,_=>rfl
 |n+1,x=>by rw[yt,A7,zbj]
def ybe(c:IL):IL->IK IM->Mem->Mem
 |_,[],M=>M
 |i,v::a,M=>ybe c (i+1) a (upd M c i v)
def M0:Mem:=λ_ _=>0
def ybR(W:IM)(n:IL)(x y:IM):Mem:=ybe 98 0 (yt W n y) (ybe 97 0 (yt W n x) M0)
structure Cx where
 l:IL
 c:IM
 i:IM
 j:IM
 m:IM
deriving Ih
inductive Op where
 |fig (d:IM)|cel (x:Cx)
deriving Ih
structure Rs where
 nm:AL
 ops:IK Op
deriving Ih
inductive T2 where
 |row (r:Rs)|rounds (c m t:IM) (rs:IK Rs)
deriving Ih
inductive T1 where
 |row (r:Rs)|rounds (c m t:IM) (ps:IK T2)
deriving Ih
def Cx.at(x:Cx)(I J n:IM):IM:=x.c+x.i*I+x.j*J+x.m*n
def Op.pv(I J n:IM):Op->PV
 |.fig d=>.int d
 |.cel x=>yS x.l (x.at I J n)
def Rs.pv(r:Rs)(I J n:IM):PV:=.tup (.str r.nm::r.ops.map (Op.pv I J n))
def cnt(c m t w n:IM):IL:=(c+m*n+t*w*n).toNat
def upTo{A:Type}(f:IL->IK A):IL->IK A
 |0=>[]
 |n+1=>upTo f n++f n
def T2.rows(w n:IM)(I:IL):T2->IK PV
 |.row r=>[r.pv I 0 n]
 |.rounds c m t a=>upTo (λJ=>a.map λr=>r.pv I J n) (cnt c m t w n)
def T2.rnd(w n:IM):T2->IL
 |.row _=>0
 |.rounds c m t _=>cnt c m t w n
def yaC(w n:IM)(I:IL)(a:IK T2):IK PV:=a.flatMap (T2.rows w n I)
def yb1(w n:IM)(a:IK T2):IL:=(a.map (T2.rnd w n)).sum
def T1.rows(w n:IM):T1->IK PV
 |.row r=>[r.pv 0 0 n]
 |.rounds c m t a=>upTo (λI=>yaC w n I a) (cnt c m t w n)
def T1.rnd(w n:IM):T1->IL
 |.row _=>0
 |.rounds c m t a=>cnt c m t w n*(1+yb1 w n a)
def yW(w n:IM)(a:IK T1):IK PV:=a.flatMap (T1.rows w n)
def ybx(w n:IM)(a:IK T1):IL:=(a.map (T1.rnd w n)).sum
def sm(i:IM):IQ:=decide (i.natAbs<=200)
def intOf:PV->Option IM
 |.int i=>AA i
 |_=>AD
def strOf:PV->Option AL
 |.str s=>AA s
 |_=>AD
def yc9:PV->Option (IQ×IK PV)
 |.tp k l=>AA (k,l)
 |_=>AD
def yeV:IK PV->Option (PV×PV×PV×PV)
 |[a,b,c,d]=>AA (a,b,c,d)
 |_=>AD
def ye4(l:IK PV):Option (IM×IM×IM×IM):=(yeV l).bind λp=>(intOf p.1).bind λi=>(intOf p.2.1).bind λj=>(intOf p.2.2.1).bind λk=>(intOf p.2.2.2).bind λm=>AA (i,j,k,m)
def yfN(l:IK PV):Option (IM×IM×IM):=(ye4 (l++[.int 0])).bind λz=>AA (z.1,z.2.1,z.2.2.1)
def opC(x y:PV):Option Op:=(strOf x).bind λs=>(yc9 y).bind λq=>(ye4 q.2).bind λz=>if s=chS (s.cps.getD 0 0)/\(sm z.1&&sm z.2.1&&sm z.2.2.1&&sm z.2.2.2)=AC then AA (.cel #[s.cps.getD 0 0,z.1,z.2.1,z.2.2.1,z.2.2.2])else AD
def yfM:IK PV->Option (PV×PV)
 |[a,b]=>AA (a,b)
 |_=>AD
def yd4(v:PV):Option Op:=match intOf v with
 |some d=>AA (.fig d)
 |none=>(yc9 v).bind λp=>(yfM p.2).bind λq=>opC q.1 q.2
def ybm:IK PV->Option (IK Op)
 |[]=>AA []
 |v::c=>match yd4 v,ybm c with
  |some a,AA b=>AA (a::b)
  |_,_=>AD
def rowOf:PV->Option Rs
 |.tp _ (.str c::b)=>match ybm b with
  |some a=>if b.length<100 then AA #[c,a]else AD
  |none=>AD
 |_=>AD
def yd1(s:AL):IQ:=decide (s=AE "row")
def yb9:PV->Option Rs
 |.tp _ [.str s,v]=>if yd1 s then rowOf v else AD
 |_=>AD
def deepOf:IK PV->Option (IK Rs)
 |[]=>AA []
 |v::c=>match yb9 v,deepOf c with
  |some a,AA b=>AA (a::b)
  |_,_=>AD
def ycZ(s:AL):IQ:=decide (s=AE "rounds")
def ydo(v:PV):Option (IM×IM×IM×IK PV):=(yc9 v).bind λp=>(yeV p.2).bind λq=>(strOf q.1).bind λs=>(yc9 q.2.1).bind λy=>(yfN y.2).bind λc=>(yc9 q.2.2.2).bind λu=>if (ycZ s&&(sm c.1&&sm c.2.1&&sm c.2.2))=AC then AA (c.1,c.2.1,c.2.2,u.2)else AD
def part2(v:PV):Option T2:=match ydo v with
 |some z=>(deepOf z.2.2.2).map (.rounds z.1 z.2.1 z.2.2.1)
 |none=>(yb9 v).map .row
def yaN:IK PV->Option (IK T2)
 |[]=>AA []
 |v::c=>match part2 v,yaN c with
  |some a,AA b=>AA (a::b)
  |_,_=>AD
def part1(v:PV):Option T1:=match ydo v with
 |some z=>(yaN z.2.2.2).map (.rounds z.1 z.2.1 z.2.2.1)
 |none=>(yb9 v).map .row
def yaI:IK PV->Option (IK T1)
 |[]=>AA []
 |v::c=>match part1 v,yaI c with
  |some a,AA b=>AA (a::b)
  |_,_=>AD
theorem bnd{A B}{o:Option A}{f:A->Option B}{b:B}(h:o.bind f=AA b):∃a,o=AA a/\f a=AA b:=by
 cases o with
 |none=>exact nomatch h
 |some a=>exact#[a,rfl,h]
theorem mpd{A B:Type}{o:Option A}{f:A->B}{b:B}(h:o.map f=AA b):∃a,o=AA a/\b=f a:=by
 cases o with
 |none=>exact nomatch h
 |some a=>have h:AA (f a)=AA b:=h;cases h;exact#[a,rfl,rfl]
def zda{v:PV}{i:IM}(h:intOf v=AA i):v=.int i:=by
 cases v with
 |int j=>have h:AA j=AA i:=h;cases h;rfl
 |_=>exact nomatch (show AD=AA i from h)
def zhg{v:PV}{i}(h:strOf v=AA i):v=.str i:=by
 cases v with
 |str j=>have h:AA j=AA i:=h;cases h;rfl
 |_=>exact nomatch (show AD=AA i from h)
def zex{v:PV}{p}(h:yc9 v=AA p):v=.tp p.1 p.2:=by
 cases v with
 |tp k l=>have h:AA (k,l)=AA p:=h;cases h;rfl
 |_=>exact nomatch (show AD=AA p from h)
def zjI{l:IK PV}{p}(h:yeV l=AA p):l=[p.1,p.2.1,p.2.2.1,p.2.2.2]:=by
 rcases l with _|⟨a,_|⟨b,_|⟨c,_|⟨d,_|⟨e,l⟩⟩⟩⟩⟩
 case cons.cons.cons.cons.nil=>have h:AA (a,b,c,d)=AA p:=h;cases h;rfl
 all_goals exact nomatch (show AD=AA p from h)
def znV{l:IK PV}{p}(h:yfM l=AA p):l=[p.1,p.2]:=by
 rcases l with _|⟨a,_|⟨b,_|⟨c,l⟩⟩⟩
 case cons.cons.nil=>have h:AA (a,b)=AA p:=h;cases h;rfl
 all_goals exact nomatch (show AD=AA p from h)
def zjc{l:IK PV}{z}(h:ye4 l=AA z):l=[.int z.1,.int z.2.1,.int z.2.2.1,.int z.2.2.2]:=by
 let#[p,e,h]:=bnd h;let#[i,a,h]:=bnd h;let#[j,b,h]:=bnd h;let#[k,c,h]:=bnd h;let#[m,d,h]:=bnd h;have h:AA (i,j,k,m)=AA z:=h
 cases h
 rw[zjI e,zda a,zda b,zda c,zda d]
def zm5{l:IK PV}{z}(h:yfN l=AA z):l=[.int z.1,.int z.2.1,.int z.2.2]:=by
 let#[p,e,h]:=bnd h;have e:=zjc e;have h:AA (p.1,p.2.1,p.2.2.1)=AA z:=h
 cases h
 have e:l++[.int 0]=[.int p.1,.int p.2.1,.int p.2.2.1]++[.int p.2.2.2]:=e;exact(IK.append_inj' e rfl).1
def zoB{v:PV}{o}(h:yd4 v=AA o):(∃d,o=.fig d/\v=.int d) \/ ∃a b x,o=.cel x/\v=.tp a [.str (chS x.l),.tp b [.int x.c,.int x.i,.int x.j,.int x.m]]/\x.i.natAbs<=200/\x.j.natAbs<=200/\x.m.natAbs<=200:=by
 unfold yd4 at h
 cases e:intOf v with
 |some d=>rw[e]at h;have h:AA (Op.fig d)=AA o:=h;cases h;exact .inl #[d,rfl,zda e]
 |none=>
  rw[e]at h;let#[p,g,h]:=bnd h;let#[q,j,h]:=bnd h;let#[s,l,h]:=bnd h;let#[y,m,h]:=bnd h;let#[z,n,h]:=bnd h
  by_cases c:s=chS (s.cps.getD 0 0)/\(sm z.1&&sm z.2.1&&sm z.2.2.1&&sm z.2.2.2)=AC
  .rw[IR c]at h;have f:=c.2;erw[sm,AH,IN]at f
   cases h
   refine .inr #[p.1,y.1,_,rfl,?_,f.1.1.2,f.1.2,f.2];rw[zex g,znV j,zhg l,zex m,zjc n];simp only;rw[<-c.1]
  .rw[IS c]at h;cases h
def zj6{v:PV}{z}(h:ydo v=AA z):∃a b sn d,v=.tp a [.str "rounds",.tp b [.int z.1,.int z.2.1,.int z.2.2.1],sn,.tp d z.2.2.2]/\z.1.natAbs<=200/\z.2.1.natAbs<=200/\z.2.2.1.natAbs<=200:=by
 let#[p,f,h]:=bnd h;let#[q,g,h]:=bnd h;let#[s,j,h]:=bnd h;let#[y,l,h]:=bnd h;let#[c,m,h]:=bnd h;let#[u,n,h]:=bnd h
 by_cases k:(ycZ s&&(sm c.1&&sm c.2.1&&sm c.2.2))=AC
 .rw[IR k]at h;erw[ycZ,sm,AH,IN]at k
  cases h
  refine#[p.1,y.1,q.2.2.1,u.1,?_,k.2.1.1,k.2.1.2,k.2.2];rw[zex f,zjI g,zhg j,zex l,zm5 m,zex n,k.1]
 .rw[IS k]at h;cases h
def zlz{v:PV}{r}(h:rowOf v=AA r):∃a b,v=.tp a (.str r.nm::b)/\ybm b=AA r.ops/\b.length<100:=by
 unfold rowOf at h;split at h
 .rename_i a d b;split at h
  .rename_i c q;split at h
   .rename_i z
    cases h;exact#[a,b,rfl,q,z]
   .cases h
  .cases h
 .cases h
def znD{v:PV}{r}(h:yb9 v=AA r):∃a b,v=.tp a [.str "row",b]/\rowOf b=AA r:=by
 unfold yb9 at h;split at h
 .rename_i a s b;split at h
  .rename_i q;have q:s=AE "row":=by simpa [yd1] using q
   exact#[a,b,by rw[q],h]
  .cases h
 .cases h
def zk5{v:PV}{p}(h:part2 v=AA p):(∃r,p=.row r/\yb9 v=AA r) \/ ∃a b sn d n c m t g,p=.rounds c m t g/\v=.tp a [.str "rounds",.tp b [.int c,.int m,.int t],sn,.tp d n]/\deepOf n=AA g/\c.natAbs<=200/\m.natAbs<=200/\t.natAbs<=200:=by
 unfold part2 at h
 cases e:ydo v with
 |some z=>
  rw[e]at h;let#[a,b,sn,d,q,u,w,x]:=zj6 e;let#[g,j,l]:=mpd (f:=T2.rounds z.1 z.2.1 z.2.2.1) (o:=deepOf z.2.2.2) h;exact .inr #[a,b,sn,d,_,_,_,_,g,l,q,j,u,w,x]
 |none=>
  rw[e]at h;let#[r,j,l]:=mpd (f:=T2.row) (o:=yb9 v) h;exact .inl #[r,l,j]
def zkG{v:PV}{p}(h:part1 v=AA p):(∃r,p=.row r/\yb9 v=AA r) \/ ∃a b sn d l c m t n,p=.rounds c m t n/\v=.tp a [.str "rounds",.tp b [.int c,.int m,.int t],sn,.tp d l]/\yaN l=AA n/\c.natAbs<=200/\m.natAbs<=200/\t.natAbs<=200:=by
 unfold part1 at h
 cases e:ydo v with
 |some z=>
  rw[e]at h;let#[a,b,sn,d,q,u,w,x]:=zj6 e;let#[y,g,j]:=mpd (f:=T1.rounds z.1 z.2.1 z.2.2.1) (o:=yaN z.2.2.2) h;exact .inr #[a,b,sn,d,_,_,_,_,y,j,q,g,u,w,x]
 |none=>
  rw[e]at h;let#[r,g,j]:=mpd (f:=T1.row) (o:=yb9 v) h;exact .inl #[r,j,g]
abbrev cU:IL:=20
abbrev sn:Str:=AE "n"
abbrev sst:Str:=AE "steps"
abbrev srw:Str:=AE "rows"
abbrev srd:Str:=AE "rounds"
abbrev ufs(w n:IM)(l:IL)(r q:IM):IK (AL×PV):=[(sw,.int w),(sn,.int n),(sst,.loc l),(srw,.int r),(srd,.int q)]
def uob(w n:IM)(l:IL)(r q:IM):Ob:=.ins cU (ufs w n l r q)
structure UM(st:SO)(u l:IL)(w n r q:IM)(xs:IK PV):Prop where
 o:st[u]?=AA (uob w n l r q)
 d:st[l]?=AA (.lst xs)
 ne:u≠l
section
variable {st:SO}{u l:IL}{w n r q:IM}{xs:IK PV}
theorem UM.fw(h:UM st u l w n r q xs):ya0 cU st (.loc u) sw=AA (.int w):=by erw[ya0,h.o,uob,IV];ac_rfl
theorem UM.fn(h:UM st u l w n r q xs):ya0 cU st (.loc u) sn=AA (.int n):=by erw[ya0,h.o,uob,IV];ac_rfl
theorem UM.fs(h:UM st u l w n r q xs):ya0 cU st (.loc u) sst=AA (.loc l):=by erw[ya0,h.o,uob,IV];ac_rfl
theorem UM.fr(h:UM st u l w n r q xs):ya0 cU st (.loc u) srw=AA (.int r):=by erw[ya0,h.o,uob,IV];ac_rfl
theorem UM.fq(h:UM st u l w n r q xs):ya0 cU st (.loc u) srd=AA (.int q):=by erw[ya0,h.o,uob,IV];ac_rfl
theorem UM.sr(h:UM st u l w n r q xs)(v:IM):yaY cU st (.loc u) srw (.int v)=AA (st.set u (uob w n l v q))/\UM (st.set u (uob w n l v q)) u l w n v q xs:=by refine#[?_,rdS h.o,by rw[AM h.ne];exact h.d,h.ne];erw[yaY,h.o,uob];rw[IR #[trivial,by simp],show ybH srw (.int v) (ufs w n l r q)=ufs w n l v q by ac_rfl]
theorem UM.sq(h:UM st u l w n r q xs)(v:IM):yaY cU st (.loc u) srd (.int v)=AA (st.set u (uob w n l r v))/\UM (st.set u (uob w n l r v)) u l w n r v xs:=by refine#[?_,rdS h.o,by rw[AM h.ne];exact h.d,h.ne];erw[yaY,h.o,uob];rw[IR #[trivial,by simp],show ybH srd (.int v) (ufs w n l r q)=ufs w n l r v by ac_rfl]
theorem UM.ap(h:UM st u l w n r q xs)(a:xs.length<1000000)(v:PV):ybD .append st (.loc l) [v]=.ok .non (st.set l (.lst (xs++[v])))/\UM (st.set l (.lst (xs++[v]))) u l w n r q (xs++[v]):=by refine#[?_,by rw[AM (Ax h.ne)];exact h.o,rdS h.d,h.ne];unfold ybD;erw[yd6,h.d];rw[IR a]
theorem UM.ok(h:UM st u l w n r q xs):yas .append st (.loc l)=AA true:=by simp[yas,yM,h.d]
theorem UM.ins(h:UM st u l w n r q xs)(x:AL)(a:((ufs 0 0 0 0 0).lookup x).isNone=true:=by decide +kernel):yb4 cU x st (.loc u)=AA true:=by
 have e:(ufs w n l r q).lookup x=none:=by
  erw[ufs,Bo]at a ⊢
  cases b:x==sw<;>rw[b]at a<;>simp only at a ⊢<;>try cases a
  cases c:x==sn<;>rw[c]at a<;>simp only at a ⊢<;>try cases a
  cases d:x==sst<;>rw[d]at a<;>simp only at a ⊢<;>try cases a
  cases f:x==srw<;>rw[f]at a<;>simp only at a ⊢<;>try cases a
  cases g:x==srd<;>rw[g]at a<;>simp only at a ⊢<;>try cases a
 erw[yb4,h.o,uob];rw[IR #[trivial,e]]
def zjw(k:IL)(h:UM st u l w n r q xs)(m:q+1<=4000):∃s,yc T (k+1) yjF [.loc u] st=.ok .non s/\UM s u l w n r (q+1) xs:=by have b:T yjF=AA yiE:=rfl;let#[d,a]:=h.sq (q+1);have c:decide (q+1 > 4000)=false:=IT ();have f:ykj=.int 4000:=rfl;refine#[_,?_,a];rw[zm b rfl rfl];have g:=h.fq;have j:=a.fq;simp! [yiE,g,zgU,d,zaC,j,f,c,IC.ve32,zad];rfl
def zfM(k:IL):∀(G:IK IM),G.length<=2->∀s:SO,yc T (k+1) yjk [.tp AB (G.map .int)] s=.ok (.tp AB [.int (G.headD 0),.int (G.tail.headD 0)]) s
 |[],_,s=>by have c:T yjk=AA yid:=rfl;rw[zc c rfl rfl rfl];rfl
 |[a],_,s=>by have c:T yjk=AA yid:=rfl;rw[zc c rfl rfl rfl];rfl
 |[a,b],_,s=>by have c:T yjk=AA yid:=rfl;rw[zc c rfl rfl rfl];rfl
def zjP(k:IL)(h:UM st u l w n r q xs)(d:xs.length<1000000)(c:PV)(G:IK IM)(f:G.length<=2):∃s,yc T (k+2) yjG [.loc u,c,.tp AB (G.map .int)] st=.ok .non s/\UM s u l w n r q (xs++[.tp AB [.str "asked",c,.int (G.headD 0),.int (G.tail.headD 0)]]):=by have g:T yjG=AA yiF:=rfl;have m:=zfM k G f st;let#[a,p]:=h.ap d (.tp AB [.str "asked",c,.int (G.headD 0),.int (G.tail.headD 0)]);have x:∀(i j:IL) (a b:PV) (U:IC.Env),yH (.t [i,j]) (.tp AB [a,b]) U=AA ((U.set i (AA a)).set j (AA b)):=λ_ _ _ _ _=>rfl;refine#[_,?_,p];rw[zm g rfl rfl];have y:=h.fs;have o:=h.ok;generalize PV.tp AB (G.map .int)=z at *;simp! [yiF,m,x,y,o,a,IC.ve32,zad];rfl
def zky(k:IL)(h:UM st u l w n r q xs)(d)(c m t:IM)(f:yq .mul (.int m) (.int n)=AA (.int (m*n)))(g:yq .mul (.int t) (.int w)=AA (.int (t*w)))(o:yq .mul (.int (t*w)) (.int n)=AA (.int (t*w*n))):
  yc T (k+1) yjE [.loc u,.tp d [.int c,.int m,.int t]] st=.ok (.int (c+m*n+t*w*n)) st:=by have p:T yjE=AA yiC:=rfl;have x:∀(i j k:IL) (a b c:PV) (U:IC.Env),yH (.t [i,j,k]) (.tp d [a,b,c]) U=AA (((U.set i (AA a)).set j (AA b)).set k (AA c)):=λ_ _ _ _ _ _ _=>rfl;rw[zm p rfl rfl];have y:=h.fw;have z:=h.fn;simp! [yiC,x,y,z,f,g,o,IC.ve32,zad]
def zkr(k:IL){b}{c i j m I J n:IM}(p:i.natAbs<=200)(q:j.natAbs<=200)(r:m.natAbs<=200)(s:SO):yc T (k+1) ylw [.tp b [.int c,.int i,.int j,.int m],.int n,.int I,.int J] s=.ok (.int (c+i*I+j*J+m*n)) s:=by
 have a:T ylw=AA yiB:=rfl;have d:i.natAbs<18446744073709551616:=()
 have f:j.natAbs<18446744073709551616:=()
 have g:m.natAbs<18446744073709551616:=()
 have l:∀st,idxV st (.tp b [.int c,.int i,.int j,.int m]) (.int 2)=AA (.int j):=λ_=>rfl;have o:∀st,idxV st (.tp b [.int c,.int i,.int j,.int m]) (.int 3)=AA (.int m):=λ_=>rfl;rw[zc a rfl rfl rfl];simp! [yiB,ix0,ix1,l,o,zaW d,zaW f,zaW g];rfl
theorem placed(k:IL){v:PV}{o}(h:yd4 v=AA o)(I J n:IM)(s:SO):yc T (k+2) yh5 [v,.int n,.int I,.int J] s=.ok (o.pv I J n) s:=by
 have f:T yh5=AA yhS:=rfl;rcases zoB h with⟨d,rfl,rfl⟩|⟨j,g,x,rfl,rfl,l,m,p⟩
 .rw[zc f rfl rfl rfl];have a:yaH (.int d) [.tuple]=AA (.bl AB):=rfl;simp! [yhS,a];rfl
 .have a:yaH (.tp j [.str (chS x.l),.tp g [.int x.c,.int x.i,.int x.j,.int x.m]]) [.tuple]=AA (.bl AC):=rfl;have e:=λs=>zkr k (b:=g) (c:=x.c) (I:=I) (J:=J) (n:=n) l m p s;rw[zc f rfl rfl rfl];simp! [yhS,a,ix0,ix1,e];rfl
def zhG(k:IL)(x)(I J n:IM)(s:SO):yc T (k+2) yh5 [.str x,.int n,.int I,.int J] s=.ok (.str x) s:=by have a:T yh5=AA yhS:=rfl;rw[zc a rfl rfl rfl];have b:yaH (.str x) [.tuple]=AA (.bl AB):=rfl;simp! [yhS,b];rfl
def arC:Ce:=.call yh5 (.cons (.var 0) (.cons (.fld cU (.var 3) sn) (.cons (.var 1) (.cons (.var 2) .nil))))
def zhb(k:IL)(h:UM st u l w n r q xs)(I J:IM):∀(vs:IK PV) (ops:IK Op),ybm vs=AA ops->yac (yc T (k+2)) [AD,AA (.int I),AA (.int J),AA (.loc u)] (.n 0) (.cst (.bl AC)) arC vs st=.ok (ops.map (Op.pv I J n)) st
 |[],ops,e=>by cases e;exact zb0
 |v::vs,ops,e=>by
  unfold ybm at e;split at e
  .rename_i a b c d
   cases e
   have f:=placed k c I J n st;have g:=h.fn;have ih:=zhb k h I J vs b d;have one:ya9 (yc T (k+2)) [AD,AA (.int I),AA (.int J),AA (.loc u)] (.n 0) (.cst (.bl AC)) arC v st=.ok (AA (a.pv I J n)) st:=by simp! [ya9,arC,g,f,IC.ve32]
   rw[zao,one,bd_ok,ih,bd_ok];rfl
  .cases e
def ziC:∀{vs:IK PV} {ops:IK Op},ybm vs=AA ops->ops.length=vs.length
 |[],ops,e=>by cases e;rfl
 |v::vs,ops,e=>by
  unfold ybm at e;split at e
  .rename_i a b d c
   cases e
   rw[A7,A7,ziC c]
  .cases e
def znq(k:IL)(h:UM st u l w n r q xs)(B:xs.length<1000000)(hr:r+1<=4000){v:PV}{rs}(C:rowOf v=AA rs)(G:IK IM)(D:G.length<=2)
  (f:∀s,yc T (k+2) yh4 [rs.pv (G.headD 0) (G.tail.headD 0) n] s=.ok (.bl AC) s):
  ∃s,yc T (k+3) yly [.loc u,v,.tp AB (G.map .int)] st=.ok .non s/\UM s u l w n (r+1) q (xs++[.tp AB [.str "row",rs.pv (G.headD 0) (G.tail.headD 0) n]]):=by
 have E:T yly=AA yiD:=rfl;let#[a,m,rfl,z,hl]:=zlz C;have H:=zfM (k+1) G D st;generalize G.headD 0=I,G.tail.headD 0=J at *;have p:=ziC z;have x:yac (yc T (k+2)) [AD,AA (.int I),AA (.int J),AA (.loc u)] (.n 0) (.cst (.bl AC)) arC (.str rs.nm::m) st=.ok (.str rs.nm::rs.ops.map (Op.pv I J n)) st:=by
  have L:=zhG k rs.nm I J n st;have y:=h.fn;have one:ya9 (yc T (k+2)) [AD,AA (.int I),AA (.int J),AA (.loc u)] (.n 0) (.cst (.bl AC)) arC (.str rs.nm) st=.ok (AA (.str rs.nm)) st:=by simp! [ya9,arC,y,L,IC.ve32]
  rw[zao,one,bd_ok,zhb k h I J m rs.ops z,bd_ok];rfl
 have x:yac (yc T (k+2)) [AD,AA (.int I),AA (.int J),AA (.loc u)] (.n 0) (.cst (.bl AC)) (.call yh5 (.cons (.var 0) (.cons (.fld cU (.var 3) sn) (.cons (.var 1) (.cons (.var 2) .nil))))) (.str rs.nm::m) st=_:=x;let#[d,g]:=h.sr (r+1);have M:∀st,yaj .tuple st [.lst (.str rs.nm::rs.ops.map (Op.pv I J n))]=AA (rs.pv I J n):=λ_=>rfl;let#[b,N]:=g.ap B (.tp AB [.str "row",rs.pv I J n]);have O:∀(i j:IL) (a b:PV) (U:IC.Env),yH (.t [i,j]) (.tp AB [a,b]) U=AA ((U.set i (AA a)).set j (AA b)):=λ_ _ _ _ _=>rfl;have c:decide (r+1 > 4000)=false:=IT ();have Q:ykk=.int 4000:=rfl;have y:=h.fr;have X:=g.fr;have Y:=g.fs;have o:=g.ok;have Z:=λst=>zen (.str rs.nm::rs.ops.map (Op.pv I J n)) (by simp[p];lia) st;refine#[_,?_,N];rw[zm E rfl rfl];generalize PV.tp AB (G.map .int)=gv,PV.str rs.nm::rs.ops.map (Op.pv I J n)=row,rs.pv I J n=A at *;simp! [yiD,H,O,x,Z,M,y,zgU,d,zaC,f,X,Q,c,Y,o,b,IC.ve32,zad];rfl
end
inductive StR:IK PV->IK PV->Prop
 |nil:StR [] []
 |row {xs rs v}:nL v=AC->StR xs rs->StR (xs++[.tp AB [.str "row",v]]) (rs++[v])
 |ask {xs rs a b c}:nLs [a,b,c]=AC->StR xs rs->StR (xs++[.tp AB [.str "asked",a,b,c]]) rs
def US(st:SO)(u l:IL)(w n:IM)(R:IK PV)(q:IM)(a:IL):Prop:=∃b,UM st u l w n R.length q b/\StR b R/\b.length<=R.length+a
section
variable {st:SO}{u l:IL}{w n q:IM}{R:IK PV}{a:IL}
def gpB:Css:=match yj.body with
 |.cons (.for _ _ b) _=>b
 |x=>x
def zeV:yp .eq (.str "row") (.str "row")=AA (.bl AC):=by ac_rfl
def zhP:yp .eq (.str "rounds") (.str "row")=AA (.bl AB):=by ac_rfl
def zkx(I J n:IM)(o:Op):nL (o.pv I J n)=true:=by cases o<;>rfl
def zfJ(I J n:IM):∀a:IK Op,nLs (a.map (Op.pv I J n))=AC
 |[]=>rfl
 |o::os=>by rw[AO,nLs,zkx,zfJ I J n os];rfl
def zcL(r:Rs)(I J n:IM):nL (r.pv I J n)=true:=by show nLs (PV.str r.nm::r.ops.map (Op.pv I J n))=AC;rw[nLs,zfJ];rfl
def zjh(k:IL)(H:US st u l w n R q a)(o:R.length+1<=4000)(p:a<=500000){v:PV}{r}(d:yb9 v=AA r)(G:IK IM)(f:G.length<=2)
  (c:∀s,yc T (k+2) yh4 [r.pv (G.headD 0) (G.tail.headD 0) n] s=.ok (.bl AC) s) (p1:Option PV):
  ∃s,exs (yc T (k+3)) [AA (.loc u),p1,AA (.tp AB (G.map .int)),AA v] st gpB=.nx [AA (.loc u),p1,AA (.tp AB (G.map .int)),AA v] s/\US s u l w n (R++[r.pv (G.headD 0) (G.tail.headD 0) n]) q a:=by
 let#[t,h,g,x]:=H;let#[b,y,rfl,j]:=znD d;let#[s,e,m]:=znq k h () () j G f c;have ih:=h.ins (AE "add_row");refine#[s,?_,_,?_,.row (zcL _ _ _ _) g,by simp;lia]
 .generalize PV.tp AB (G.map .int)=z at *;simp! [gpB,yj,ix0,ix1,zeV,ih,e,IC.ve37]
 .rw[Ab,DQ];exact m
def ziI(k:IL)(I J:IM)(p1:Option PV)(g:a<=500000):∀(vs:IK PV)(rs:IK Rs)st R(p3:Option PV),deepOf vs=AA rs->US st u l w n R q a->R.length+rs.length<=4000 ->
  (∀r∈rs,∀s,yc T (k+2) yh4 [r.pv I J n] s=.ok (.bl AC) s) ->
  ∃s c,yaT (yc T (k+3)) (.n 3) gpB vs [AA (.loc u),p1,AA (.tp AB [.int I,.int J]),p3] st=.nx [AA (.loc u),p1,AA (.tp AB [.int I,.int J]),c] s/\US s u l w n (R++rs.map λr=>r.pv I J n) q a
 |[],rs,st,R,p3,d,H,_,_=>by
  cases d
  exact#[st,p3,zJ,by simpa using H]
 |v::vs,rs,st,R,p3,d,H,m,b=>by
  unfold deepOf at d;split at d
  .rename_i x y o p
   cases d
   erw[A7]at m;let#[j,f,t]:=zjh k H () g o [I,J] (by simp) (b x (by simp)) p1;have f:exs (yc T (k+3)) [AA (.loc u),p1,AA (.tp AB [.int I,.int J]),AA v] st gpB=.nx [AA (.loc u),p1,AA (.tp AB [.int I,.int J]),AA v] j:=f;let#[z,c,A,B]:=ziI k I J p1 g vs y j _ (AA v) p t (by simp;lia) (λr C=>b r (by simp[C]));refine#[z,c,?_,by simpa using B];rw[zy (U1:=[AA (.loc u),p1,AA (.tp AB [.int I,.int J]),AA v]) rfl,f];exact A
  .cases d
def ziB{A}(f:IL->IK A){i:IL}:∀n,i<=n->(upTo f i).length<=(upTo f n).length
 |0,h=>by rw[show i=0 by lia];exact AQ _
 |n+1,h=>by
  rcases DP i (n+1)with a|a
  .have:=ziB f (i:=i) n ();rw[upTo,Ab];lia
  .have:i=n+1:=()
   rw[this];exact AQ _
theorem US.ask(H:US st u l w n R q a)(k:IL)(j:a+1<=500000)(m:R.length<=4000)(b:PV)(c:nL b=AC)(G:IK IM)(d:G.length<=2):∃s,yc T (k+2) yjG [.loc u,b,.tp AB (G.map .int)] st=.ok .non s/\US s u l w n R q (a+1):=by let#[o,h,f,p]:=H;let#[s,e,g]:=zjP k h () b G d;exact#[s,e,_,g,.ask (by simp[nLs,nL,c]) f,by simp;lia]
theorem US.rnd(H:US st u l w n R q a)(k:IL)(b:q+1<=4000):∃s,yc T (k+1) yjF [.loc u] st=.ok .non s/\US s u l w n R (q+1) a:=by let#[g,h,c,d]:=H;let#[s,e,f]:=zjw k h b;exact#[s,e,_,f,c,d]
theorem US.ins(H:US st u l w n R q a)(x:AL)(b:((ufs 0 0 0 0 0).lookup x).isNone=true:=by decide +kernel):yb4 cU x st (.loc u)=AA true:=by let#[c,h,_]:=H;exact h.ins x b
def grB:Css:=match yo.body with
 |.cons _ (.cons (.for _ _ b) _)=>b
 |x=>x
def zr7:∀(G:IK IM),G.length<=1->∀J:IM,yq .add (.tp AB (G.map .int)) (.tp AB [.int J])=AA (.tp AB ((G++[J]).map .int))
 |[],_,J=>rfl
 |[a],_,J=>rfl
def BodyOk(k u l:IL)(w n:IM)(d:IQ)(vs:IK PV)(G:IK IM)(f:IL->IK PV)(qn an J:IL):Prop:=
 ∀(st:SO) (R:IK PV) (q:IM) (a:IL),US st u l w n R q a->R.length+(f J).length<=4000->q+qn<=4000->a+an<=500000 ->
  ∃s,yc T k yjD [.loc u,.tp d vs,.tp AB ((G++[(J:IM)]).map .int)] st=.ok .non s/\US s u l w n (R++f J) (q+qn) (a+an)
def zjm(k:IL){a1 d}{s0 cn sn:PV}(c:nL sn=AC){vs}{G:IK IM}(o:G.length<=1){f}{qn an N:IL}(p:∀J<N,BodyOk (k+2) u l w n d vs G f qn an J)
  (x:R.length+(upTo f N).length<=4000) (y:q+(N*(1+qn):IL)<=4000) (z:a+N*(1+an)<=500000):∀(M j:IL)st(p4:Option PV),j+M=N->US st u l w n (R++upTo f j) (q+(j*(1+qn):IL)) (a+j*(1+an)) ->
  ∃s b,yaT (yc T (k+2)) (.n 4) grB (yr M (j:IM) 1) [AA (.loc u),AA (.tp a1 [s0,cn,sn,.tp d vs]),AA (.tp AB (G.map .int)),AA (.int N),p4] st=.nx [AA (.loc u),AA (.tp a1 [s0,cn,sn,.tp d vs]),AA (.tp AB (G.map .int)),AA (.int N),b] s/\US s u l w n (R++upTo f N) (q+(N*(1+qn):IL)) (a+N*(1+an))
 |0,j,st,p4,A,H=>by
  have:j=N:=()
  subst this;exact#[st,p4,by rw[yr];exact zJ,H]
 |M+1,j,st,p4,A,H=>by
  have B:(upTo f (j+1)).length<=(upTo f N).length:=ziB f N ();rw[upTo,Ab]at B;have m1:(j+1)*(1+qn)<=N*(1+qn):=Ck _ ();have m2:(j+1)*(1+an)<=N*(1+an):=Ck _ ();have C:(j+1)*(1+qn)=j*(1+qn)+(1+qn):=Hr _ _;have D:(j+1)*(1+an)=j*(1+an)+(1+an):=Hr _ _;let#[s1,E,r]:=H.ask k () (by rw[Ab];lia) sn c (G++[(j:IM)]) (by simp;lia);let#[I,L,t]:=r.rnd (k+1) ();let#[g,O,m]:=p j () I _ _ _ t (by rw[Ab];lia) () ();have m:US g u l w n (R++upTo f (j+1)) (q+((j+1)*(1+qn):IL)) (a+(j+1)*(1+an)):=by
   rw[upTo,<-Bg,C,D];have Q:q+((j*(1+qn)+(1+qn):IL):IM)=q+((j*(1+qn):IL):IM)+1+(qn:IM):=()
   have U:a+(j*(1+an)+(1+an))=a+j*(1+an)+1+an:=()
   rw[Q,U];exact m
  let#[X,b,Y,Z]:=zjm k (a1:=a1) (s0:=s0) (cn:=cn) (sn:=sn) c o p x y z M (j+1) g (AA (.int j)) () m;refine#[X,b,?_,Z];have i1:=H.ins (AE "add_asked");have i2:=r.ins (AE "add_round");have i3:=t.ins (AE "go_parts");have c1:=zr7 G o (j:IM);have one:exs (yc T (k+2)) [AA (.loc u),AA (.tp a1 [s0,cn,sn,.tp d vs]),AA (.tp AB (G.map .int)),AA (.int N),AA (.int (j:IM))] st grB=.nx [AA (.loc u),AA (.tp a1 [s0,cn,sn,.tp d vs]),AA (.tp AB (G.map .int)),AA (.int N),AA (.int (j:IM))] g:=by generalize PV.tp AB (G.map .int)=gv,PV.tp AB ((G++[(j:IM)]).map .int)=gw,PV.tp d vs=pv at *;simp! [grB,yo,ix0,ix1,ix2,ix3,c1,i1,i2,i3,E,L,O,IC.ve37]
  rw[yr,zy (U1:=[AA (.loc u),AA (.tp a1 [s0,cn,sn,.tp d vs]),AA (.tp AB (G.map .int)),AA (.int N),AA (.int (j:IM))]) rfl,one];exact Y
theorem US.cnt(H:US st u l w n R q a)(k:IL)(b:IQ){c m t:IM}(d:m.natAbs<=200)(f:t.natAbs<=200)(g:0<=n)(o:n<=8):yc T (k+1) yjE [.loc u,.tp b [.int c,.int m,.int t]] st=.ok (.int (c+m*n+t*w*n)) st:=by let#[p,h,_]:=H;have zep:∀{i j:IM},j.natAbs<18446744073709551616->yq .mul (.int i) (.int j)=AA (.int (i*j)):=λh=>zkp (.inr h);exact zky k h b c m t (zaW ()) (zaW ()) (zep ())
def zoA(z:IM)(s):yaj .max s [.int 0,.int z]=AA (.int ((z.toNat:IL):IM)):=by
 show AA (PV.int (if 0<z then z else 0))=_;split
 .rw[Cu ()]
 .rw[show z.toNat=0 by lia];rfl
def zgf(k:IL){a1 b d}{s0 sn:PV}(g:nL sn=AC){vs}{c m t:IM}{G:IK IM}(p:G.length<=1){f}{qn an N:IL}(B:N=cnt c m t w n)(C:m.natAbs<=200)(D:t.natAbs<=200)(E:0<=n)(I:n<=8)(L:N<1000000)
  (M:∀J<N,BodyOk (k+2) u l w n d vs G f qn an J) (O:R.length+(upTo f N).length<=4000) (Q:q+(N*(1+qn):IL)<=4000) (ha:a+N*(1+an)+1<=500000) (H:US st u l w n R q a):
  ∃s,yc T (k+3) yij [.loc u,.tp a1 [s0,.tp b [.int c,.int m,.int t],sn,.tp d vs],.tp AB (G.map .int)] st=.ok .non s/\US s u l w n (R++upTo f N) (q+(N*(1+qn):IL)) (a+N*(1+an)+1):=by
 have U:T yij=AA #[3,5,AB,yo.body]:=rfl;have X:=H.cnt (k+1) b (c:=c) C D E I;have Y:=H.ins (AE "count_of");let#[s1,p4,j,y]:=zjm k (a1:=a1) (s0:=s0) (cn:=.tp b [.int c,.int m,.int t]) (sn:=sn) (a:=a) (q:=q) (R:=R) g p M O Q () N 0 st AD () (by simpa [upTo] using H);let#[Z,e3,H3]:=y.ask k () (by rw[Ab];lia) sn g (G++[(N:IM)]) (by simp;lia);have i2:=y.ins (AE "add_asked");have c1:=zr7 G p (N:IM);have A:=zoA (c+m*n+t*w*n) st;have hz:((c+m*n+t*w*n).toNat:IM)=(N:IM):=by rw[B];rfl
 rw[hz]at A;have hr:yby (.int (N:IM))=AA (yr N 0 1):=by erw[yby];rw[IR ()];rfl
 have o:yo.body=(match yo.body with
  |.cons x (.cons (.for t i _) r)=>.cons x (.cons (.for t i grB) r)
  |x=>x):=rfl
 refine#[Z,?_,H3];rw[zm U rfl rfl];dsimp only;rw[o];have j:yaT (yc T (k+2)) (.n 4) grB (yr N 0 1) _ st=_:=j;generalize PV.tp AB (G.map .int)=gv,PV.tp AB ((G++[(N:IM)]).map .int)=gw,PV.tp d vs=pv,PV.tp b [.int c,.int m,.int t]=cv,c+m*n+t*w*n=z at *;simp! [yo,ix0,ix1,ix2,ix3,Y,X,A,hr,j,c1,i2,e3,IC.ve37,zad];rfl
def zgu(k:IL){b vs a s}{p3:Option PV}(e:yaT (yc T k) (.n 3) gpB vs [AA (.loc u),AA (.tp b vs),AA a,AD] st=.nx [AA (.loc u),AA (.tp b vs),AA a,p3] s):
  yc T (k+1) yjD [.loc u,.tp b vs,a] st=.ok .non s:=by
 have d:T yjD=AA #[3,4,AB,yj.body]:=rfl
 have c:yj.body=(match yj.body with
  |.cons (.for t i _) r=>.cons (.for t i gpB) r
  |x=>x):=rfl
 rw[zm d rfl rfl];dsimp only;rw[c];simp! [yj,e,zad];rfl
def zid(k:IL){d}{vs:IK PV}{rs}(c:deepOf vs=AA rs)(I:IM)(J:IL)(b:∀r∈rs,∀s,yc T (k+2) yh4 [r.pv I J n] s=.ok (.bl AC) s):BodyOk (k+4) u l w n d vs [I] (λJ=>rs.map λr=>r.pv I J n) 0 0 J:=by intro st R q a H f j m;let#[s,o,e,g]:=ziI k (a:=a) (q:=q) I J (AA (.tp d vs)) () vs rs st R AD c H (by simpa using f) b;exact#[s,zgu (k+3) e,by simpa using g]
def zlO(k:IL)(H:US st u l w n R q a){a1}{r:IK PV}{b:PV}{p1:Option PV}{s}(e:yc T k yij [.loc u,.tp a1 (.str "rounds" :: r),b] st=.ok .non s):
  exs (yc T k) [AA (.loc u),p1,AA b,AA (.tp a1 (.str "rounds" :: r))] st gpB=.nx [AA (.loc u),p1,AA b,AA (.tp a1 (.str "rounds" :: r))] s:=by have ih:=H.ins (AE "go_rounds");simp! [gpB,yj,ix0,zhP,ih,e,IC.ve37]
def ybh(v:PV):Prop:=∀(k:IL) (s:SO),yc T (10+k) yh4 [v] s=.ok (.bl AC) s
def T2.ak(w n:IM):T2->IL
 |.row _=>0
 |.rounds c m t _=>cnt c m t w n+1
def ak2(w n:IM)(a:IK T2):IL:=(a.map (T2.ak w n)).sum
def zfZ{c m t w n:IM}(a:c.natAbs<=200)(b:m.natAbs<=200)(d:t.natAbs<=200)(o:0<=w)(w1:w<=16)(p:0<=n)(q:n<=8):(c+m*n+t*w*n).natAbs<1000000:=by
 have f:(m*n).natAbs<=200*8:=by rw[F8];exact Ay b ()
 have g:(t*w*n).natAbs<=200*16*8:=by rw[F8,F8];exact Ay (Ay d ()) ()
 have j:=As (G7 (c+m*n) (t*w*n)) (HM (G7 c (m*n)) g);have l:c.natAbs+(m*n).natAbs+200*16*8<=200+200*8+200*16*8:=D9 (HM a f) _;exact EJ (As j l) ⋯
def zi3{A}{f:IL->IK A}{x:A}:∀{N J:IL},J<N->x∈f J->x∈upTo f N
 |0,_,h,_=>IU h ()
 |N+1,J,h,a=>by
  rw[upTo,BG];rcases DP J N with b|b
  .exact .inl (zi3 b a)
  .have:J=N:=()
   exact .inr (this ▸ a)
def zq2{a b d}{x c m t sn:PV}{vs}(h:nL (.tp a [x,.tp b [c,m,t],sn,.tp d vs])=AC):nL sn=true:=by erw[nL,nLs,AH]at h;exact h.2.2.1
def zrB{a b d}{x c m t sn:PV}{vs}(h:nL (.tp a [x,.tp b [c,m,t],sn,.tp d vs])=AC):nLs vs=true:=by erw[nL,nLs,AH]at h;exact h.2.2.2.1
def zcE{v:PV}{vs:IK PV}(h:nLs (v::vs)=AC):nL v=AC/\nLs vs=true:=by simpa only[nLs,AH] using h
def znh(k:IL)(D:0<=w)(w1:w<=16)(y:0<=n)(z:n<=8)(I:IL)(p1:Option PV){v:PV}{p}(E:nL v=AC)(L:part2 v=AA p)(H:US st u l w n R q a)(j:R.length+(p.rows w n I).length<=4000)(A:q+(p.rnd w n:IL)<=4000)(M:a+p.ak w n<=500000)(g:∀x∈p.rows w n I,ybh x):
  ∃s,exs (yc T (k+13)) [AA (.loc u),p1,AA (.tp AB [.int I]),AA v] st gpB=.nx [AA (.loc u),p1,AA (.tp AB [.int I]),AA v] s/\US s u l w n (R++p.rows w n I) (q+(p.rnd w n:IL)) (a+p.ak w n):=by
 rcases zk5 L with⟨r,rfl,N⟩|⟨a1,b,sn,d,vs,c,m,t,O,rfl,rfl,Q,U,B,C⟩
 .let#[s,e,o]:=zjh (k+10) H (by simpa [T2.rows] using j) () N [(I:IM)] (by simp) (λs=>by have:=g (r.pv I 0 n) (by simp[T2.rows]) (k+2) s;rw[show 10+(k+2)=k+10+2 by lia]at this;exact this) p1
  exact#[s,e,by simpa [T2.rows,T2.rnd,T2.ak] using o]
 .have X:cnt c m t w n<1000000:=by have:=zfZ U B C D w1 y z;erw[cnt];lia
  erw[T2.rows,T2.rnd,T2.ak]at j A M g ⊢;let#[s,e,o]:=zgf (k+10) (a1:=a1) (b:=b) (d:=d) (s0:=.str "rounds") (sn:=sn) (zq2 E) (vs:=vs) (G:=[(I:IM)]) (by simp) (f:=λJ=>O.map λr=>r.pv I J n) (qn:=0) (an:=0) rfl B C y z X
   (λJ Y=>zid (k+8) Q I J (λr Z s=>by have:=g (r.pv I J n) (zi3 Y (Dq.2 #[r,Z,rfl])) k s;rw[show 10+k=k+8+2 by lia]at this;exact this)) j (by simpa using A) () H
  have e:yc T (k+13) yij [.loc u,.tp a1 [.str "rounds",.tp b [.int c,.int m,.int t],sn,.tp d vs],.tp AB [.int I]] st=.ok .non s:=e;exact#[s,zlO (k+13) H e,by simpa [D4] using o]
def zmf(k:IL)(m:0<=w)(w1:w<=16)(o:0<=n)(p:n<=8)(I:IL)(p1:Option PV):∀(vs:IK PV)(c:IK T2)st R(q:IM)(a:IL)(p3:Option PV),nLs vs=AC->yaN vs=AA c->US st u l w n R q a->R.length+(yaC w n I c).length<=4000->q+(yb1 w n c:IL)<=4000->a+ak2 w n c<=500000->(∀x∈yaC w n I c,ybh x) ->
  ∃s d,yaT (yc T (k+13)) (.n 3) gpB vs [AA (.loc u),p1,AA (.tp AB [.int I]),p3] st=.nx [AA (.loc u),p1,AA (.tp AB [.int I]),d] s/\US s u l w n (R++yaC w n I c) (q+(yb1 w n c:IL)) (a+ak2 w n c)
 |[],c,st,R,q,a,p3,_,f,H,_,_,_,_=>by
  cases f
  exact#[st,p3,zJ,by simpa [yaC,yb1,ak2] using H]
 |v::vs,c,st,R,q,a,p3,r,f,H,B,C,D,b=>by
  unfold yaN at f;split at f
  .rename_i x y E G
   cases f
   have g:yaC w n I (x::y)=x.rows w n I++yaC w n I y:=by simp[yaC]
   have t:yb1 w n (x::y)=x.rnd w n+yb1 w n y:=by simp[yb1]
   have A:ak2 w n (x::y)=x.ak w n+ak2 w n y:=by simp[ak2]
   rw[g,Ab]at B;rw[t]at C;rw[A]at D;rw[g]at b;rw[g,t,A];let#[J,L,M]:=znh k m w1 o p I p1 (zcE r).1 E H () () () (λz j=>b z (by simp[j]));let#[N,d,O,Q]:=zmf k m w1 o p I p1 vs y J _ _ _ (AA v) (zcE r).2 G M (by rw[Ab];lia) () () (λz j=>b z (by simp[j]));refine#[N,d,?_,?_]
   .rw[zy (U1:=[AA (.loc u),p1,AA (.tp AB [.int I]),AA v]) rfl,L];exact O
   .rw[<-Bg,<-D4,show q+((x.rnd w n+yb1 w n y:IL):IM)=q+(x.rnd w n:IL)+(yb1 w n y:IL)by lia];exact Q
  .cases f
def zkl(k:IL)(f:0<=w)(w1:w<=16)(g:0<=n)(j:n<=8){d}{vs:IK PV}{b}(m:nLs vs=AC)(o:yaN vs=AA b)(I:IL)(c:∀x∈yaC w n I b,ybh x):BodyOk (k+14) u l w n d vs [] (λI=>yaC w n I b) (yb1 w n b) (ak2 w n b) I:=by intro st R q a H p r t;let#[s,z,e,y]:=zmf k f w1 g j I (AA (.tp d vs)) vs b st R q a AD m o H p r t c;exact#[s,zgu (k+13) e,y]
def T1.ak(w n:IM):T1->IL
 |.row _=>0
 |.rounds c m t a=>cnt c m t w n*(1+ak2 w n a)+1
def ak1(w n:IM)(a:IK T1):IL:=(a.map (T1.ak w n)).sum
def zon(k:IL)(C:0<=w)(w1:w<=16)(j:0<=n)(o:n<=8)(p1:Option PV){v:PV}{p}(D:nL v=AC)(N:part1 v=AA p)(H:US st u l w n R q a)(y:R.length+(p.rows w n).length<=4000)(E:q+(p.rnd w n:IL)<=4000)(O:a+p.ak w n<=500000)(g:∀x∈p.rows w n,ybh x):
  ∃s,exs (yc T (k+15)) [AA (.loc u),p1,AA (.tp AB []),AA v] st gpB=.nx [AA (.loc u),p1,AA (.tp AB []),AA v] s/\US s u l w n (R++p.rows w n) (q+(p.rnd w n:IL)) (a+p.ak w n):=by
 rcases zkG N with⟨r,rfl,Q⟩|⟨a1,b,sn,d,vs,c,m,t,A,rfl,rfl,U,X,L,M⟩
 .let#[s,e,B]:=zjh (k+12) H (by simpa [T1.rows] using y) () Q [] (by simp) (λs=>by have:=g (r.pv 0 0 n) (by simp[T1.rows]) (k+4) s;rw[show 10+(k+4)=k+12+2 by lia]at this;exact this) p1
  exact#[s,e,by simpa [T1.rows,T1.rnd,T1.ak] using B]
 .have Y:cnt c m t w n<1000000:=by have:=zfZ X L M C w1 j o;erw[cnt];lia
  erw[T1.rows,T1.rnd,T1.ak]at y E O g ⊢;let#[s,e,B]:=zgf (k+12) (a1:=a1) (b:=b) (d:=d) (s0:=.str "rounds") (sn:=sn) (zq2 D) (vs:=vs) (G:=[]) (by simp) (f:=λI=>yaC w n I A) (qn:=yb1 w n A) (an:=ak2 w n A) rfl L M j o Y
   (λJ Z=>zkl k C w1 j o (zrB D) U J (λz hz=>g z (zi3 Z hz))) y E () H
  have e:yc T (k+15) yij [.loc u,.tp a1 [.str "rounds",.tp b [.int c,.int m,.int t],sn,.tp d vs],.tp AB []] st=.ok .non s:=e;exact#[s,zlO (k+15) H e,by rw[<-D4];exact B]
def zmc(k:IL)(m:0<=w)(w1:w<=16)(o:0<=n)(p:n<=8)(p1:Option PV):∀(vs:IK PV)(c:IK T1)st R(q:IM)(a:IL)(p3:Option PV),nLs vs=AC->yaI vs=AA c->US st u l w n R q a->R.length+(yW w n c).length<=4000->q+(ybx w n c:IL)<=4000->a+ak1 w n c<=500000->(∀x∈yW w n c,ybh x) ->
  ∃s d,yaT (yc T (k+15)) (.n 3) gpB vs [AA (.loc u),p1,AA (.tp AB []),p3] st=.nx [AA (.loc u),p1,AA (.tp AB []),d] s/\US s u l w n (R++yW w n c) (q+(ybx w n c:IL)) (a+ak1 w n c)
 |[],c,st,R,q,a,p3,_,f,H,_,_,_,_=>by
  cases f
  exact#[st,p3,zJ,by simpa [yW,ybx,ak1] using H]
 |v::vs,c,st,R,q,a,p3,r,f,H,B,C,D,b=>by
  unfold yaI at f;split at f
  .rename_i x y E G
   cases f
   have g:yW w n (x::y)=x.rows w n++yW w n y:=by simp[yW]
   have t:ybx w n (x::y)=x.rnd w n+ybx w n y:=by simp[ybx]
   have A:ak1 w n (x::y)=x.ak w n+ak1 w n y:=by simp[ak1]
   rw[g,Ab]at B;rw[t]at C;rw[A]at D;rw[g]at b;rw[g,t,A];let#[I,J,L]:=zon k m w1 o p p1 (zcE r).1 E H () () () (λz j=>b z (by simp[j]));let#[M,d,N,O]:=zmc k m w1 o p p1 vs y I _ _ _ (AA v) (zcE r).2 G L (by rw[Ab];lia) () () (λz j=>b z (by simp[j]));refine#[M,d,?_,?_]
   .rw[zy (U1:=[AA (.loc u),p1,AA (.tp AB []),AA v]) rfl,J];exact N
   .rw[<-Bg,<-D4,show q+((x.rnd w n+ybx w n y:IL):IM)=q+(x.rnd w n:IL)+(ybx w n y:IL)by lia];exact O
  .cases f
end
def zsE(k:IL)(w n:IM):yc T (k+1) ylx [.loc 0,.int w,.int n] [.ins cU []]=.ok .non [uob w n 1 0 0,.lst []]:=by have a:T ylx=AA yjx:=rfl;rw[zm a rfl rfl];ac_rfl
def zl6(w n:IM):US [uob w n 1 0 0,.lst []] 0 1 w n [] 0 0:=#[[],#[rfl,rfl,by decide],.nil,by simp]
theorem StR.nl{xs rs:IK PV}(h:StR xs rs):nLs xs=true:=by
 have ap:∀(a b:IK PV),nLs a=AC->nLs b=AC->nLs (a++b)=true:=by
  intro a
  induction a with
  |nil=>intro b _ h;exact h
  |cons x a ih=>
   intro b d f;let#[p,q]:=zcE d;rw[Bd,nLs,p,ih b q f];rfl
 induction h with
 |nil=>rfl
 |row c _ ih=>exact ap _ _ ih (by simp[nLs,nL,c])
 |ask c _ ih=>exact ap _ _ ih (by erw[nLs,nL,Hb,Cy]at c ⊢;simpa using c)
def zia:yp .eq (.str "asked") (.str "row")=AA (.bl AB):=by ac_rfl
def zkM(k:IL){b}{vs:IK PV}{a}{w n:IM}(j:nLs vs=AC)(m:yaI vs=AA a)(o:0<=w)(w1:w<=16)(p:0<=n)(q:n<=8)(r:(yW w n a).length<=4000)(A:ybx w n a<=4000)(B:ak1 w n a<=500000)(c:∀x∈yW w n a,ybh x)
  (f:∀s,yc T (k+16) yhV [.tp b vs] s=.ok (.bl AC) s) (st:SO):∃d,yc T (k+17) ylA [.tp b vs,.int w,.int n] st=.ok (.lst d) st/\StR d (yW w n a):=by
 have t:T ylA=AA yiH:=rfl;have g:nLs [.tp b vs,.int w,.int n]=true:=by simp[nLs,nL,j]
 let#[s,C,e,d,h,l,_]:=zmc k o w1 p q (AA (.tp b vs)) vs a [uob w n 1 0 0,.lst []] [] 0 0 AD j m (zl6 w n) (by simpa using r) () () c;have e:=zgu (k+15) e;have u:=zsE (k+15) w n;have ih:=(zl6 w n).ins (AE "go_parts");have y:=h.fs;have z:ycJ (.loc 1) s=.ok (.lst d) (s.set 1 .dead):=by simp[ycJ,h.d]
 refine#[d,?_,by simpa using l];have nl:=l.nl;rw[zc t rfl rfl g];generalize PV.tp b vs=D at *;simp! [yiH,f,u,ih,e,y,z,IC.ve32,IC.ve33,IC.ve37,yaR,newV];simp[ybq,nL,nl]
def unT:Ce:=.cmp .eq (.idx (.var 0) (.cst (.int 0))) (.cst (.str "row"))
def unE:Ce:=.idx (.var 0) (.cst (.int 1))
def zk2(k:IL){st:SO}{xs rs}(h:StR xs rs):∀a b,yac (yc T k) [AD] (.n 0) unT unE a st=.ok b st->yac (yc T k) [AD] (.n 0) unT unE (xs++a) st=.ok (rs++b) st:=by
 induction h with
 |nil=>intro a b e;exact e
 |@row xs rs v c _ ih=>
  intro a b e;have one:ya9 (yc T k) [AD] (.n 0) unT unE (.tp AB [.str "row",v]) st=.ok (AA v) st:=by simp! [ya9,unT,unE,ix0,ix1,zeV]
  have:=ih (.tp AB [.str "row",v]::a) (v::b) (by rw[zao,one,bd_ok,e,bd_ok];rfl);rw[Bg,Bg];exact this
 |@ask xs rs x y z c _ ih=>
  intro a b e;have one:ya9 (yc T k) [AD] (.n 0) unT unE (.tp AB [.str "asked",x,y,z]) st=.ok AD st:=by simp! [ya9,unT,unE,ix0,ix1,zia]
  have:=ih (.tp AB [.str "asked",x,y,z]::a) b (by rw[zao,one,bd_ok,e,bd_ok];rfl);rw[Bg];exact this
theorem StR.nl2{xs rs:IK PV}(h:StR xs rs):nLs rs=true:=by
 have ap:∀(a b:IK PV),nLs a=AC->nLs b=AC->nLs (a++b)=true:=by
  intro a
  induction a with
  |nil=>intro b _ h;exact h
  |cons x a ih=>
   intro b c d;let#[p,q]:=zcE c;rw[Bd,nLs,p,ih b q d];rfl
 induction h with
 |nil=>rfl
 |row f _ ih=>exact ap _ _ ih (by simp[nLs,f])
 |ask _ _ ih=>exact ih
theorem unrolled(k:IL){b}{vs:IK PV}{a}{w n:IM}(j:nLs vs=AC)(m:yaI vs=AA a)(o:0<=w)(w1:w<=16)(p:0<=n)(q:n<=8)(r:(yW w n a).length<=4000)(t:ybx w n a<=4000)(u:ak1 w n a<=500000)(c:∀x∈yW w n a,ybh x)
  (f:∀s,yc T (k+16) yhV [.tp b vs] s=.ok (.bl AC) s) (st:SO):yc T (k+18) ylz [.tp b vs,.int w,.int n] st=.ok (.tp AB (yW w n a)) st:=by
 have y:T ylz=AA yiG:=rfl;have g:nLs [.tp b vs,.int w,.int n]=true:=by simp[nLs,nL,j]
 let#[z,e,l]:=zkM k j m o w1 p q r t u c f [];have d:=zk2 (k+17) (st:=[]) l [] [] zb0;rw[Bv,Bv]at d;have d:yac (yc T (k+17)) [AD] (.n 0) (.cmp .eq (.idx (.var 0) (.cst (.int 0))) (.cst (.str "row"))) (.idx (.var 0) (.cst (.int 1))) z []=_:=d;have nl:=l.nl2;have A:=λst=>zen (yW w n a) () st;have B:∀st,yaj .tuple st [.lst (yW w n a)]=AA (.tp AB (yW w n a)):=λ_=>rfl;rw[zc y rfl rfl g];generalize PV.tp b vs=C,yW w n a=rows at *;simp! [yiG,e,d,A,B];simp[ybq,nL,nl]
def zhS(w n:IM):∀d:IK T1,nLs (yW w n d)=true:=by
 have ap:∀(a b:IK PV),nLs a=AC->nLs b=AC->nLs (a++b)=true:=by
  intro a
  induction a with
  |nil=>intro b _ h;exact h
  |cons x a ih=>
   intro b l o;let#[p,q]:=zcE l;rw[Bd,nLs,p,ih b q o];rfl
 have j:∀(f:IL->IK PV) (N:IL),(∀i,nLs (f i)=AC)->nLs (upTo f N)=true:=by
  intro f N h
  induction N with
  |zero=>rfl
  |succ N ih=>exact ap _ _ ih (h N)
 have u:∀(g:IK Rs) (I J:IM),nLs (g.map λr=>r.pv I J n)=true:=by
  intro g I J
  induction g with
  |nil=>rfl
  |cons r g ih=>rw[AO,nLs,zcL,ih];rfl
 have two:∀(I:IL) (d:IK T2),nLs (yaC w n I d)=true:=by
  intro I d
  induction d with
  |nil=>rfl
  |cons p d ih=>
   rw[yaC,Eb];refine ap _ _ ?_ ih
   cases p with
   |row r=>simp[T2.rows,nLs,zcL]
   |rounds c m t g=>exact j _ _ λJ=>u g _ _
 intro d
 induction d with
 |nil=>rfl
 |cons p d ih=>
  rw[yW,Eb];refine ap _ _ ?_ ih
  cases p with
  |row r=>simp[T1.rows,nLs,zcL]
  |rounds c m t d=>exact j _ _ λI=>two I d
def zkb(k:IL){a:PV}(j:nL a=AC){b vs c}{w n:IM}(l:∀s,yc T (k+18) yY [a] s=.ok (.tp b vs) s)(m:nLs vs=AC)(o:yaI vs=AA c)(p:0<=w)(w1:w<=16)(q:0<=n)(r:n<=8)(t:(yW w n c).length<=4000)(u:ybx w n c<=4000)(y:ak1 w n c<=500000)(d:∀x∈yW w n c,ybh x)
  (f:∀s,yc T (k+16) yhV [.tp b vs] s=.ok (.bl AC) s) (st:SO):yc T (k+19) yjl [a,.int w,.int n] st=.ok (.tp AB (yW w n c)) st:=by
 have z:T yjl=AA yie:=rfl;have g:nLs [a,.int w,.int n]=true:=by simp[nLs,nL,j]
 have e:=unrolled k m o p w1 q r t u y d f [];have nl:=zhS w n c;rw[zc z rfl rfl g];generalize PV.tp b vs=A,yW w n c=rows at *;simp! [yie,l,e];simp[ybq,nL,nl]
def zlX(b:IQ):0<=bi b/\bi b<=1:=by cases b<;>decide
section
variable {W:IM}(n:IL)(x y:IM)
variable (hW:0<W)
include hW
end
def zmW{X:Fl}{v st}(h:ybq [] X=.ok v []):ybq st X=.ok v st:=by
 cases X with
 |rt u s=>
  erw[ybq]at h ⊢
  by_cases c:nL u=AC
  .rw[IR c]at h ⊢;cases h;rfl
  .rw[IS c]at h;cases h
 |nx U s=>erw[ybq]at h ⊢;cases h;rfl
 |_=>cases h
def zb5{k f:IL}{fn}{args:IK PV}{v}(a:T f=AA fn)(b:fn.pure=AC)(c:args.length=fn.np)(d:nLs args=AC)(h:yc T (k+1) f args []=.ok v [])(st:SO):yc T (k+1) f args st=.ok v st:=by rw[zc a b c d]at h ⊢;exact zmW h
def ybd(W:IM):IK Rw->Mem->IM->Prop
 |[],_,_=>Iq
 |r::c,M,k=>((∀t x,r=.half t x->0<=rd M x/\rd M x<W/\0<=k/\k<2)/\∀a b x y,r=.times a b x y->(rd M x).natAbs<18446744073709551616)/\ybd W c (stepM W M k r).1 (stepM W M k r).2
def rnA:Css:=match yE.body with
 |.cons (.for _ _ b) _=>b
 |x=>x
def rnB:Css:=match yE.body with
 |.cons _ (.cons (.for _ _ b) _)=>b
 |x=>x
theorem rnS:yE.body=.cons (.for (.n 2) (.seq (.var 1)) rnA) (.cons (.for (.n 2) (.seq (.var 1)) rnB) .nil):=rfl
def zkB(r):nLs [yaq r]=true:=by cases r<;>rfl
section
variable {m l n:IL}
def zes(k:IL){v:Option PV}(st:SO):∀(rs:IK Rw),(∀r∈rs,yc T (k+1) yh8 [yaq r] []=.ok .non [])->∀b,∃c,yaT (yc T (k+1)) (.n 2) rnA (rs.map yaq) [AA (.loc m),v,b] st=.nx [AA (.loc m),v,c] st
 |[],h,b=>#[b,by rw[BV,zJ]]
 |r::rs,h,b=>by
  let#[c,e]:=zes k (v:=v) st rs (λq d=>h q (AU _ d)) (AA (yaq r));have g:=zb5 (f:=yh8) (fn:=yig) rfl rfl rfl (zkB r) (h r (by simp)) st;refine#[c,?_];rw[AO,zy (U1:=[AA (.loc m),v,AA (yaq r)]) rfl];generalize yaq r=a at *;have j:exs (yc T (k+1)) [AA (.loc m),v,AA a] st rnA=.nx [AA (.loc m),v,AA a] st:=by simp! [rnA,yE,g]
  rw[j];exact e
def ziJ(k:IL)(p:n<=100)(f:1<=n){v:Option PV}:∀(rs:IK Rw)M(d:IM)st(L:IL)(p2:Option PV),MM st m l n M d L->L+2*rs.length<999999->ybd (2^n) rs M d ->
  ∃c o,MM c m l n (ybj (2^n) rs M d).1 (ybj (2^n) rs M d).2 (L+2*rs.length)/\(∀q,q≠m->q≠l->c[q]?=st[q]?)/\c.length=st.length/\yaT (yc T (k+6)) (.n 2) rnB (rs.map yaq) [AA (.loc m),v,p2] st=.nx [AA (.loc m),v,o] c
 |[],M,d,st,L,p2,h,t,j=>#[st,p2,h,λ_ _ _=>rfl,rfl,by rw[BV,zJ]]
 |r::rs,M,d,st,L,p2,h,t,j=>by
  erw[A7]at t;let#[u,w,x,y,z]:=zpW k h () p f r j.1.1 j.1.2;let#[A,o,B,C,D,E]:=ziJ k p f (v:=v) rs _ _ u (L+2) (AA (yaq r)) w () j.2;refine#[A,o,?_,λq a b=>(C q a b).trans (x q a b),D.trans y,?_]
  .rw[ybj,A7,show L+2*(rs.length+1)=L+2+2*rs.length by lia];exact B
  .have ih:=h.ins (AE "go_row");rw[AO,zy (U1:=[AA (.loc m),v,AA (yaq r)]) rfl];generalize yaq r=g at *;have G:exs (yc T (k+6)) [AA (.loc m),v,AA g] st rnB=.nx [AA (.loc m),v,AA g] u:=by simp! [rnB,yE,ih,z,IC.ve37]
   rw[G];exact E
def zkK(k:IL)(c:n<=100)(b:1<=n){rs:IK Rw}{M}{a:IM}{st}{L:IL}(h:MM st m l n M a L)(d:L+2*rs.length<999999)(f:ybd (2^n) rs M a)(g:∀r∈rs,yc T (k+6) yh8 [yaq r] []=.ok .non []):
  okM (yc T (k+7) yjT [.loc m,.tp AB (rs.map yaq)] st) st m l n (ybj (2^n) rs M a).1 (ybj (2^n) rs M a).2 (L+2*rs.length):=by have j:T yjT=AA #[2,3,AB,yE.body]:=rfl;let#[o,p]:=zes (m:=m) (k+5) (v:=AA (.tp AB (rs.map yaq))) st rs g AD;let#[q,y,t,u,w,x]:=ziJ k c b (v:=AA (.tp AB (rs.map yaq))) rs M a st L o h d f;refine#[q,t,u,w,?_];rw[zm j rfl rfl];show outI (exs (yc T (k+6)) [AA (.loc m),AA (.tp AB (rs.map yaq)),AD] st yE.body)=_;rw[rnS,xs_cons,x_for];generalize rs.map yaq=rows at *;simp! [p,x];rfl
def zi0:([97,98,99,100,109].all λc=>(Bk 9).all λi=>isOk (yc T 8 yjV [.str #[(IK.toArray [c])],.int (i:IL)] []) (yS c (i:IL)))=true:=∅
theorem known(k:IL){c i:IL}(a:c∈[97,98,99,100,109])(b:i<9)(st:SO):yc T (8+k) yjV [.str #[(IK.toArray [c])],.int (i:IM)] st=.ok (yS c i) st:=by have h:=A3.1 zi0 c a;have h:=A3.1 h i (by simpa using b);have h:=zC (zdR h) k;rw[show 8+k=7+k+1 by lia]at h ⊢;exact zb5 (f:=yjV) (fn:=yjz) rfl rfl rfl rfl h st
def zsF(k:IL){st}{L:IL}{w a:IM}{M}(h:MM st m l w M a L){c i:IL}(b:c∈[97,98,99,100,109])(d:i<9):yc T (9+k) yil [.loc m,.str #[(IK.toArray [c])],.int (i:IM)] st=.ok (.int (M c i)) st:=by
 have f:T yil=AA yiV:=rfl;have g:=known k b d st;have j:yc T (8+k) yh7 [.loc m,yS c i] st=.ok (.int (M c i)) st:=by rw[show 8+k=7+k+1 by lia];exact zdi (7+k) h (c,(i:IM))
 have ih:=h.ins (AE "held_in");rw[show 9+k=8+k+1 by lia,zm f rfl rfl];generalize yS c i=q at *;simp! [yiV,ih,g,j,zad,IC.ve37]
def zgb(k:IL)(v lo a:IM)(b:lo<=v)(c:v<=a)(st:SO):yc T (k+1) yhU [.int v,.int lo,.int a] st=.ok (.bl AC) st:=by have d:T yhU=AA y7:=rfl;rw[zc d rfl rfl rfl];have f:yaH (.int v) [.int]=AA (.bl AC):=rfl;have g:yaH (.int v) [.bool]=AA (.bl AB):=rfl;simp! [y7,f,g,IW b,IW c];rfl
def zsG(k:IL)(p:n<=100){st}{L:IL}{f:IM}{M}(h:MM st m l n M f L)(r:L<999999){c i:IL}(t:c∈[97,98,99,100,109])(u:i<9){v:IM}(w:0<=v)(C:v<2^n):
  okM (yc T (9+k) ylB [.loc m,.str #[(IK.toArray [c])],.int (i:IM),.int v] st) st m l n (upd M c i v) f (L+1):=by
 have x:T ylB=AA yiU:=rfl;have y:=known k t u st;have z:yc T (8+k) yjI [.int n] st=.ok (.int (2^n-1)) st:=by rw[show 8+k=7+k+1 by lia];exact highest (7+k) n p st
 have A:yc T (8+k) yhU [.int v,.int 0,.int (2^n-1)] st=.ok (.bl AC) st:=by rw[show 8+k=7+k+1 by lia];exact zgb (7+k) v 0 (2^n-1) w () st
 let#[g,d,#[o,j],B]:=h.sd r (c,(i:IM)) v;refine#[g,B,λq a b=>by rw[j,AM (Ax b)],by simp[j],?_];have d:ya6 st (.loc l) (yS c i) (.int v)=AA g:=d;rw[show 9+k=8+k+1 by lia,zm x rfl rfl];generalize yS c i=q at *;simp! [yiU,y,h.fw,z,A,h.fd,zg3,d,zaC,IC.ve32];rfl
end
def zsH{v}:ybH sw v []=[(sw,v)]:=rfl
def zsI{a v:PV}:ybH sws v [(sw,a)]=[(sw,a),(sws,v)]:=by ac_rfl
def zsJ{a b v:PV}:ybH smk v [(sw,a),(sws,b)]=[(sw,a),(sws,b),(smk,v)]:=by ac_rfl
def zsK(k:IL)(w:IM)(st:SO):yc T (k+1) yjS [.loc st.length,.int w] (st++[.ins cM []])=.ok .non (st++[mob w (st.length+1) 0]++[.dct AC []]):=by
 have b:T yjS=AA yiT:=rfl;have c:(st++[Ob.ins cM []])[st.length]?=AA (.ins cM []):=by simp
 have d:yaY cM (st++[Ob.ins cM []]) (.loc st.length) sw (.int w)=AA (st++[.ins cM [(sw,.int w)]]):=by erw[yaY,c];rw[IR #[trivial,by simp],zsH];simp
 have f:(st++[Ob.ins cM [(sw,.int w)]]++[Ob.dct AC []])[st.length]?=AA (.ins cM [(sw,.int w)]):=by simp
 have g:yaY cM (st++[Ob.ins cM [(sw,.int w)]]++[Ob.dct AC []]) (.loc st.length) sws (.loc (st.length+1))=AA (st++[.ins cM [(sw,.int w),(sws,.loc (st.length+1))]]++[.dct AC []]):=by erw[yaY,f];rw[IR #[trivial,by simp],zsI];simp
 have j:(st++[Ob.ins cM [(sw,.int w),(sws,.loc (st.length+1))]]++[Ob.dct AC []])[st.length]?=AA (.ins cM [(sw,.int w),(sws,.loc (st.length+1))]):=by simp
 have l:yaY cM (st++[Ob.ins cM [(sw,.int w),(sws,.loc (st.length+1))]]++[Ob.dct AC []]) (.loc st.length) smk (.int 0)=AA (st++[mob w (st.length+1) 0]++[.dct AC []]):=by erw[yaY,j];rw[IR #[trivial,by simp],zsJ];simp[mob]
 have m:∀(U:IC.Env),ev (yc T k) U (st++[Ob.ins cM [(sw,.int w)]]) (.dict0 AC)=.ok (.loc (st.length+1)) (st++[Ob.ins cM [(sw,.int w)]]++[.dct AC []]):=λU=>by erw[ev,Ab,DQ]
 rw[zm b rfl rfl];erw[yiT,xs_cons,zgU,m];have a:(st++[Ob.ins cM [(sw,.int w)]]).length=st.length+1:=by simp
 simp! [d,zaC,a,g,l];rfl
def zfT(W:IM)(b:0<W)(x:IM):∀(n a:IL),(yr n (a:IM) 1).map (λp=>match p with | .int j=>PV.int (x/W^j.toNat%W)|q=>q)=(yt W n (x/W^a)).map .int
 |0,a=>rfl
 |n+1,a=>by
  have h:=zfT W b x n (a+1);rw[yr,AO,yt,AO]
  congr 1
  .rw[show ((a:IM)+1)=((a+1:IL):IM)by lia,h,CS,Ew (IM.le_of_lt (Bq b))]
def zln(n:IL)(a:n<=1000):yq .shl (.int 1) (.int (n:IM))=AA (.int (2^n)):=by erw[yq,binI];rw[IR #[(),(),by decide]];simp
def zcP(a b:IL)(c:a<=1000):yq .mul (.int (a:IM)) (.int (b:IM))=AA (.int ((a*b:IL):IM)):=by
 have h:yaA (a:IM) (b:IM)=true:=by erw[yaA,Bz,IN];exact .inl (by simp;lia)
 erw[yq,binI,h,IV];simp
theorem lowest(k:IL)(x:IM)(w n:IL)(u:w<=16)(y:n<=8)(st:SO):yc T (k+1) y9 [.int x,.int w,.int n] st=.ok (.tp AB ((yt (2^w) n x).map .int)) st:=by
 have d:T y9=AA yi0:=rfl;have f:=zln w ();have g:=zcU n ();have l:yac (yc T k) [AD,AA (.int (2^w-1)),AA (.int x),AA (.int w)] (.n 0) (.cst (.bl AC)) (.bin .band (.bin .shr (.var 2) (.bin .mul (.var 3) (.var 0))) (.var 1)) (yr n 0 1) []=.ok ((yt (2^w) n x).map .int) []:=by
  have h:=zfT (2^w) (Bq ⋯) x n 0;rw[G8,Hk]at h;rw[<-h];refine zf1 _ λp m=>?_;obtain⟨j,z,rfl⟩:∃j:IL,j<n/\p=.int (j:IM):=by
   have:∀(n a:IL) (p:PV),p∈yr n (a:IM) 1->∃j:IL,a<=j/\j<a+n/\p=.int (j:IM):=by
    intro n
    induction n with
    |zero=>intro a p h;cases h
    |succ n ih=>
     intro a p h;rw[yr]at h;rcases AS.1 h with rfl|h
     .exact#[a,AQ _,(),rfl]
     .let#[j,A,o,b]:=ih (a+1) p (by rw[show ((a+1:IL):IM)=(a:IM)+1 by lia];exact h);exact#[j,(),(),b]
   let#[j,_,o,b]:=this n 0 p m;exact#[j,(),b]
  have q:=zcP w j ();have r:yq .shr (.int x) (.int ((w*j:IL):IM))=AA (.int (x/2^(w*j))):=by erw[yq,binI];rw[IR (),CN]
  have c:=band (x/2^(w*j)) (2^w-1);rw[zeB (n:=w) (x/2^(w*j))]at c;simp! [ya9,q,r,c];rw[CN,<-Hz]
 rw[zc d rfl rfl rfl];simp! [yi0,f,g,l];rw[zen _ (by simp[zbj];lia)];have t:yaj .tuple [] [.lst ((yt (2^w) n x).map .int)]=AA (.tp AB ((yt (2^w) n x).map .int)):=rfl;simp! [t];simp[ybq,nL,noLocs_ints]
def zdn{W:IM}(a:0<W):∀(n:IL) (x:IM),∀v∈yt W n x,0<=v/\v<W
 |0,x,v,h=>by cases h
 |n+1,x,v,h=>by
  rw[yt]at h;rcases AS.1 h with rfl|h
  .exact#[B8 _ (),BQ _ a]
  .exact zdn a n _ v h
def mwB:Css:=match yC.body with
 |.cons _ (.cons (.for _ _ b) _)=>b
 |x=>x
def mwC:Css:=match mwB with
 |.cons (.for _ _ b) _=>b
 |x=>x
section
variable {m l n:IL}
def zgB(k:IL)(r:n<=100){c:IL}(w:c∈[97,98,99,100,109]){p0 p1 p2 p3 p6:Option PV}:∀(d:IK IM)(i:IL)M st(L:IL)(g p8:Option PV),(∀v∈d,0<=v/\v<2^n)->i+d.length<=9->MM st m l n M 0 L->L+d.length<999999 ->
  ∃f j o,MM f m l n (ybe c i d M) 0 (L+d.length)/\(∀q,q≠m->q≠l->f[q]?=st[q]?)/\f.length=st.length /\
   yaT (yc T (9+k)) (.t [7,8]) mwC (yZ i (d.map .int)) [p0,p1,p2,p3,AA (.loc m),AA (.str #[(IK.toArray [c])]),p6,g,p8] st=.nx [p0,p1,p2,p3,AA (.loc m),AA (.str #[(IK.toArray [c])]),p6,j,o] f
 |[],i,M,st,L,g,p8,p,x,h,y=>#[st,g,p8,h,λ_ _ _=>rfl,rfl,by rw[BV,yZ,zJ]]
 |v::d,i,M,st,L,g,p8,p,x,h,y=>by
  erw[A7]at x y;let#[A,B]:=p v (by simp);let#[z,C,D,E,G]:=zsG k r h () w (i:=i) () A B;let#[H,j,o,I,J,N,O]:=zgB k r w (p0:=p0) (p1:=p1) (p2:=p2) (p3:=p3) (p6:=p6) d (i+1) (upd M c i v) z (L+1) (AA (.int i)) (AA (.int v)) (λu Q=>p u (AU _ Q)) () C ();refine#[H,j,o,?_,λq a b=>(J q a b).trans (D q a b),N.trans E,?_]
  .rw[ybe,A7,show L+(d.length+1)=L+1+d.length by lia];exact I
  .have ih:=h.ins (AE "put");have U:yH (.t [7,8]) (.tup [.int (i:IM),.int v]) [p0,p1,p2,p3,AA (.loc m),AA (.str #[(IK.toArray [c])]),p6,g,p8]=AA [p0,p1,p2,p3,AA (.loc m),AA (.str #[(IK.toArray [c])]),p6,AA (.int i),AA (.int v)]:=rfl;rw[AO,yZ,zy U];have X:exs (yc T (9+k)) [p0,p1,p2,p3,AA (.loc m),AA (.str #[(IK.toArray [c])]),p6,AA (.int i),AA (.int v)] st mwC=.nx [p0,p1,p2,p3,AA (.loc m),AA (.str #[(IK.toArray [c])]),p6,AA (.int i),AA (.int v)] z:=by simp! [mwC,mwB,yC,ih,G,IC.ve37]
   rw[X];exact O
end
def zfG(k:IL)(w n:IL)(z:w<=16)(A:n<=8)(x y:IM)(st:SO):
  ∃f m l,st.length<=m/\st.length<=l/\MM f m l w (ybR (2^w) n x y) 0 (2*n)/\(∀q,q<st.length->f[q]?=st[q]?)/\yc T (10+k) yj9 [.int w,.int n,.int x,.int y] st=.ok (.loc m) f:=by
 have I:T yj9=AA #[4,9,AB,yC.body]:=rfl;have B:yc T (9+k) yjS [.loc st.length,.int w] (st++[.ins cM []])=.ok .non (st++[mob w (st.length+1) 0]++[.dct AC []]):=by rw[show 9+k=8+k+1 by lia];exact zsK (8+k) w st
 obtain⟨g,d⟩:∃g,g=st++[mob w (st.length+1) 0]++[.dct AC []]:=#[_,rfl];rw[<-d]at B;have J:MM g st.length (st.length+1) w M0 0 0:=by rw[d];exact#[by simp,#[[],by simp,λp L=>(by cases L),λc i=>rfl,by simp],()]
 have M:∀s,yc T (9+k) y9 [.int x,.int w,.int n] s=.ok (.tp AB ((yt (2^w) n x).map .int)) s:=λs=>by rw[show 9+k=8+k+1 by lia];exact lowest (8+k) x w n z A s
 have eB:∀s,yc T (9+k) y9 [.int y,.int w,.int n] s=.ok (.tp AB ((yt (2^w) n y).map .int)) s:=λs=>by rw[show 9+k=8+k+1 by lia];exact lowest (8+k) y w n z A s
 have lA:=zbj (2^w) n x;have lB:=zbj (2^w) n y;let#[j,o,u,N,O,l2,Q]:=zgB k () (c:=97) (by simp) (p0:=AA (.int w)) (p1:=AA (.int n)) (p2:=AA (.int x)) (p3:=AA (.int y)) (p6:=AA (.int x)) (yt (2^w) n x) 0 M0 g 0 AD AD (zdn (Bq ⋯) n x) () J ();let#[C,X,Y,Z,o3,l3,f3]:=zgB k () (c:=98) (by simp) (p0:=AA (.int w)) (p1:=AA (.int n)) (p2:=AA (.int x)) (p3:=AA (.int y)) (p6:=AA (.int y)) (yt (2^w) n y) 0 _ j _ o u (zdn (Bq ⋯) n y) () N ();refine#[C,st.length,st.length+1,AQ _,(),?_,λq hq=>?_,?_]
 .rw[show 2*n=0+(yt (2^w) n x).length+(yt (2^w) n y).length by lia];exact Z
 .rw[o3 q () (),O q () (),d,Bg,A5 hq]
 .have hb:yC.body=(match yC.body with
   |.cons a (.cons (.for t i _) r)=>.cons a (.cons (.for t i mwB) r)
   |x=>x):=rfl
  have D:mwB=(match mwB with
   |.cons (.for t i _) r=>.cons (.for t i mwC) r
   |x=>x):=rfl
  have bt:∀(a b:PV) (E p5 p6 G H:Option PV),yH (.t [5,6]) (.tp AB [a,b]) [AA (.int w),AA (.int n),AA (.int x),AA (.int y),E,p5,p6,G,H]=AA [AA (.int w),AA (.int n),AA (.int x),AA (.int y),E,AA a,AA b,G,H]:=λ_ _ _ _ _ _ _=>rfl;have cA:(AE "a")=#[(IK.toArray [97])]:=by ac_rfl
  have cB:(AE "b")=#[(IK.toArray [98])]:=by ac_rfl
  have g1:exs (yc T (9+k)) [AA (.int w),AA (.int n),AA (.int x),AA (.int y),AA (.loc st.length),AA (.str #[(IK.toArray [97])]),AA (.int x),AD,AD] g mwB=.nx [AA (.int w),AA (.int n),AA (.int x),AA (.int y),AA (.loc st.length),AA (.str #[(IK.toArray [97])]),AA (.int x),o,u] j:=by rw[D];simp! [mwB,yC,M,Q]
  have g2:exs (yc T (9+k)) [AA (.int w),AA (.int n),AA (.int x),AA (.int y),AA (.loc st.length),AA (.str #[(IK.toArray [98])]),AA (.int y),o,u] j mwB=.nx [AA (.int w),AA (.int n),AA (.int x),AA (.int y),AA (.loc st.length),AA (.str #[(IK.toArray [98])]),AA (.int y),X,Y] C:=by rw[D];simp! [mwB,yC,eB,f3]
  have ag:∀(U:IC.Env) (s:SO) (k:IC.Env->SO->Fl),yay (.nx U s) k=k U s:=λ_ _ _=>rfl;rw[show 10+k=9+k+1 by lia,zm I rfl rfl];dsimp only;rw[hb];simp! [yC,B,yaR,newV,d.symm,cA,cB,zy (bt _ _ _ _ _ _ _),zJ,g1,g2,ag,zad,IC.ve33]
def getM(M:Mem)(c:IL):IL->IL->IK IM
 |_,0=>[]
 |a,n+1=>M c a::getM M c (a+1) n
def zeh(k:IL){m l L:IL}{w f:IM}{M st}(h:MM st m l w M f L){c:IL}(g:c∈[97,98,99,100,109])(n:IL)(t:n<=8):
  yc T (10+k) yim [.loc m,.str #[(IK.toArray [c])],.int n] st=.ok (.tp AB ((getM M c 0 n).map .int)) st:=by
 have j:T yim=AA #[3,3,AB,yan.body]:=rfl;have o:=zcU n ();have ih:=h.ins (AE "word");have p:∀(n a:IL),(getM M c a n).length=n:=by
  intro n
  induction n with
  |zero=>intro a;rfl
  |succ n d=>intro a;simp[getM,d]
 have b:∀(n a:IL),a+n<=9->yac (yc T (9+k)) [AD,AA (.str #[(IK.toArray [c])]),AA (.loc m)] (.n 0) (.cst (.bl AC)) (.mcl cM yil (AE "word") (.var 2) (.cons (.var 1) (.cons (.var 0) .nil))) (yr n (a:IM) 1) st=.ok ((getM M c a n).map .int) st:=by
  intro n
  induction n with
  |zero=>intro a _;rw[yr,zb0];rfl
  |succ n d=>
   intro a u;have e:=zsF k h g (i:=a) ();have one:ya9 (yc T (9+k)) [AD,AA (.str #[(IK.toArray [c])]),AA (.loc m)] (.n 0) (.cst (.bl AC)) (.mcl cM yil (AE "word") (.var 2) (.cons (.var 1) (.cons (.var 0) .nil))) (.int (a:IM)) st=.ok (AA (.int (M c a))) st:=by simp! [ya9,ih,e,IC.ve37]
   have q:=d (a+1) ();rw[yr,zao,one,bd_ok,show ((a:IM)+1)=((a+1:IL):IM)by lia,q,bd_ok];rfl
 have b:=b n 0 ();have r:yaj .tuple st [.lst ((getM M c 0 n).map .int)]=AA (.tp AB ((getM M c 0 n).map .int)):=rfl;rw[show 10+k=9+k+1 by lia,zm j rfl rfl];have b:yac (yc T (9+k)) [AD,AA (.str #[(IK.toArray [c])]),AA (.loc m)] (.n 0) (.cst (.bl AC)) (.mcl cM yil (AE "word") (.var 2) (.cons (.var 1) (.cons (.var 0) .nil))) (yr n 0 1) st=_:=b;simp! [yan,o,b];rw[zen _ (by simp[p];lia)];simp! [r,zad]
def zbF(k:IL)(x:IM)(w n:IL)(b:w<=16)(c:n<=8)(o:0<=x)(p:x<2^(w*n))(st:SO):yc T (k+2) yB [.int x,.int w,.int n] st=.ok (.tp AB ((yt (2^w) n x).map .int)) st:=by
 have d:T yB=AA yhT:=rfl;have a:w*n<=1000:=by have:w*n<=16*8:=Ay b c;lia
 have f:=zcP w n ();have g:=zln (w*n) a;have j:∀s,yc T (k+1) y9 [.int x,.int w,.int n] s=_:=λs=>lowest k x w n b c s;have l:decide (x<0)=false:=IT ();have m:decide ((2:IM)^(w*n)<=x)=false:=IT ();rw[zc d rfl rfl rfl];generalize q:yt (2^w) n x=r at *;simp! [yhT,l,f,g,m,j];simp[ybq,nL,noLocs_ints]
structure ybG(pr:Prop)(qb:IQ)(deed:PV)(w n na:IL)(rs:IK Rw):Prop where
 nl:nL deed=AC
 isd:yc T 20 yA [deed] []=.ok (.bl AC) []
 isp:pr->yc T 20 yh6 [deed] []=.ok (.bl AC) []
 quo:∀st,(idxV st deed (.int 0)).bind (λv=>yp .isin v yfd)=AA (.bl qb)
 rows:yc T 20 yjl [deed,.int w,.int n] []=.ok (.tp AB (rs.map yaq)) []
 ref:∀r∈rs,yc T 20 yh8 [yaq r] []=.ok .non []
 ans:yc T 20 yk [deed,.int n] []=.ok (.int na) []
 rest:yc T 20 yik [deed,.int n] []=.ok (.int (if qb=AC then n else 0:IL)) []
def zcF(k:IL){pr qb a}{w n o:IL}{rs}(D:ybG pr qb a w n o rs)(f:w<=16)(g:n<=8){x y:IM}(p:0<=x)(r:x<2^(w*n))(t:0<=y)(u:y<2^(w*n))(z:y≠0->pr)(A:y=0->qb=AB)(st:SO):
  yc T (21+k) yl [a,.int w,.int n,.int x,.int y] st=.ok .non st:=by
 have B:T yl=AA yn:=rfl;have c:nLs [a,.int w,.int n,.int x,.int y]=true:=by simp[nLs,D.nl,nL]
 have j:=zC D.isd k;have l:∀s,yc T (20+k) yB [.int x,.int w,.int n] s=.ok (.tp AB ((yt (2^w) n x).map .int)) s:=λs=>by rw[show 20+k=18+k+2 by lia];exact zbF (18+k) x w n f g p r s
 have m:∀s,yc T (20+k) yB [.int y,.int w,.int n] s=.ok (.tp AB ((yt (2^w) n y).map .int)) s:=λs=>by rw[show 20+k=18+k+2 by lia];exact zbF (18+k) y w n f g t u s
 rw[show 21+k=20+k+1 by lia,zc B rfl rfl c];have q:=D.quo []
 cases d:idxV [] a (.int 0)with
 |none=>rw[d]at q;cases q
 |some v=>
  rw[d,BH]at q;generalize yt (2^w) n x=E,yt (2^w) n y=G at *
  cases b:(y==0)with
  |true=>
   rw[A (by simpa using b)]at q;simp! [yn,j,l,m,b,d,q];rfl
  |false=>
   have C:=zC (D.isp (z (by intro h;rw[h]at b;exact IU b ⋯))) k;simp! [yn,j,C,l,m,b];rfl
theorem ran(k:IL){pr qb g}{w n p:IL}{rs}(D:ybG pr qb g w n p rs)(L:w<=16)(q:1<=w)(hn:n<=4)(t:p<=8)(N:rs.length<5000){x y:IM}(O:0<=x)(Q:x<2^(w*n))(U:0<=y)(X:y<2^(w*n))(Y:y≠0->pr)(Z:y=0->qb=AB)(hh:ybd (2^w) rs (ybR (2^w) n x y) 0)(st:SO):
  yc T (22+k) yhW [g,.int w,.int n,.int x,.int y] st=.ok (.tp AB [.tp AB ((getM (ybj (2^w) rs (ybR (2^w) n x y) 0).1 99 0 p).map .int),.tp AB ((getM (ybj (2^w) rs (ybR (2^w) n x y) 0).1 100 0 (if qb=AC then n else 0)).map .int),.tp AB ((getM (ybj (2^w) rs (ybR (2^w) n x y) 0).1 109 0 4).map .int)]) st:=by
 have hT:T yhW=AA #[5,7,AC,ybN.body]:=rfl;have u:nLs [g,.int w,.int n,.int x,.int y]=true:=by simp[nLs,D.nl,nL]
 have e1:=zcF k D L () O Q U X Y Z [];let#[z,m,l,_,_,M,_,E]:=zfG (11+k) w n L () x y [];have E:yc T (21+k) yj9 [.int w,.int n,.int x,.int y] []=.ok (.loc m) z:=by rw[show 21+k=10+(11+k)by lia];exact E
 have G:nLs [g,.int w,.int n]=true:=by simp[nLs,D.nl,nL]
 have nl2:nLs [g,.int n]=true:=by simp[nLs,D.nl,nL]
 have H:∀{f:IL} {fn:IC.Fn} {j:IK PV} {v:PV},T f=AA fn->fn.pure=AC->j.length=fn.np->nLs j=AC->yc T 20 f j []=.ok v []->∀s,yc T (21+k) f j s=.ok v s:=λ{f fn j v} a b c d e s=>by have:=zC e (1+k);rw[show 20+(1+k)=20+k+1 by lia]at this;rw[show 21+k=20+k+1 by lia];exact zb5 a b c d this s
 have e3:=H (f:=yjl) (fn:=yie) rfl rfl rfl G D.rows z;let#[o,I,_,_,J]:=zkK (14+k) (n:=w) () q M (rs:=rs) () hh (λr hr=>by have:=zC (D.ref r hr) k;rw[show 20+k=14+k+6 by lia]at this;exact this)
 have J:yc T (21+k) yjT [.loc m,.tp AB (rs.map yaq)] z=.ok .non o:=by rw[show 21+k=14+k+7 by lia];exact J
 have e5:=H (f:=yk) (fn:=yT) rfl rfl rfl nl2 D.ans o;have e6:=H (f:=yik) (fn:=yh3) rfl rfl rfl nl2 D.rest o;have n1:yc T (21+k) yim [.loc m,.str #[(IK.toArray [99])],.int p] o=.ok (.tp AB ((getM (ybj (2^w) rs (ybR (2^w) n x y) 0).1 99 0 p).map .int)) o:=by have:=zeh (11+k) I (c:=99) (by simp) p t;rw[show 10+(11+k)=21+k by lia]at this;exact this
 have n2:yc T (21+k) yim [.loc m,.str #[(IK.toArray [100])],.int (if qb=AC then n else 0:IL)] o=.ok (.tp AB ((getM (ybj (2^w) rs (ybR (2^w) n x y) 0).1 100 0 (if qb=AC then n else 0)).map .int)) o:=by have:=zeh (11+k) I (c:=100) (by simp) (if qb=AC then n else 0) (by split<;>lia);rw[show 10+(11+k)=21+k by lia]at this;exact this
 have n3:yc T (21+k) yim [.loc m,.str #[(IK.toArray [109])],.int 4] o=.ok (.tp AB ((getM (ybj (2^w) rs (ybR (2^w) n x y) 0).1 109 0 4).map .int)) o:=by have:=zeh (11+k) I (c:=109) (by simp) 4 ();rw[show 10+(11+k)=21+k by lia]at this;exact this
 have ih:=M.ins (AE "run");have cC:(AE "c")=#[(IK.toArray [99])]:=by ac_rfl
 have cD:(AE "d")=#[(IK.toArray [100])]:=by ac_rfl
 have cE:(AE "m")=#[(IK.toArray [109])]:=by ac_rfl
 have vM:yki=.int 4:=rfl;rw[show 22+k=21+k+1 by lia,zc hT rfl rfl u];dsimp only;generalize rs.map yaq=rows,getM (ybj (2^w) rs (ybR (2^w) n x y) 0).1 99 0 p=A,getM (ybj (2^w) rs (ybR (2^w) n x y) 0).1 109 0 4=B,getM (ybj (2^w) rs (ybR (2^w) n x y) 0).1 100 0 (if qb=AC then n else 0)=C at *;generalize (if qb=AC then n else 0)=nr at *;simp! [ybN,e1,E,ih,e3,J,e5,e6,cC,cD,cE,vM,n1,n2,n3,IC.ve37];simp[ybq,nL,nLs,noLocs_ints]
local macro_rules | `(tactic| simp! [$xs,*])=>do
 let l<-("IC.xs_cons IC.xs_nil IC.x_asg IC.x_ite IC.x_ret IC.x_expr IC.x_for IC.x_six IC.x_try IC.x_raise IC.evs IC.evi IC.ve1 IC.ve2 IC.ve3 IC.ve4 IC.ve5 IC.ve6 IC.ve7 IC.ve8 IC.ve9 IC.ve10 IC.ve11 IC.ve12 IC.ve13 IC.ve15 IC.ve16 IC.ve17 IC.ve18 IC.ve19 IC.ve20 IC.ve21 IC.ve22 IC.ve24 IC.ve25 IC.ve26 IC.ve28 IC.v_comp List.getElem?_cons_zero List.getElem?_cons_succ WK.bd_ok WK.fl_ok WK.bd_exc WK.fl_exc WK.toR_some IC.toL WK.bT_n WK.nxO_some WK.th_nx WK.th_rt WK.th_exc List.set_cons_zero List.set_cons_succ WK.on_t WK.t_bl WK.ono IC.onBl cond_true cond_false List.length_cons List.length_nil Nat.zero_add Nat.reduceAdd Nat.reduceSub Nat.reduceLeDiff if_true IC.nL IC.nLs WK.noLocs_ints Bool.and_self Bool.not_true Bool.not_false List.map_cons List.map_nil List.replicate List.cons_append List.nil_append List.append_nil Option.bind_none Option.bind_some Option.join_some WK.b_add WK.b_sub WK.b_mul2 WK.b_div2 WK.c_lt WK.c_le WK.c_gt WK.c_ge WK.c_eq WK.c_ne IC.PV.tup IC.sizeMax".splitOn " ").toArray.mapM λs=>`(Lean.Parser.Tactic.simpLemma| $(Lean.mkIdent s.toName):term)
 `(tactic| simp only[$l,*,$xs,*])
theorem letters:((Bk 26).all λj=>isOk (yc T 2 yjA [.str (chS (97+j))] []) (.bl AC))=true:=∅
def zh0(k:IL){c:IL}(a:97<=c)(b:c<=122)(s:SO):yc T (k+2) yjA [.str (chS c)] s=.ok (.bl AC) s:=by have h:=A3.1 letters (c-97) (by simp;lia);rw[show 97+(c-97)=c by lia]at h;have h:=zC (zdR h) k;rw[show 2+k=k+1+1 by lia]at h;exact zb5 (f:=yjA) (fn:=yjw) rfl rfl rfl rfl h s
def zfY(k:IL){i a b:IM}(c:a<=i)(d:i<=b)(s:SO):yc T (k+1) yhU [.int i,.int a,.int b] s=.ok (.bl AC) s:=by have f:T yhU=AA y7:=rfl;have g:yaH (.int i) [.int]=AA (.bl AC):=rfl;have j:yaH (.int i) [.bool]=AA (.bl AB):=rfl;have l:decide (a<=i)=true:=IW c;have m:decide (i<=b)=true:=IW d;rw[zc f rfl rfl rfl];simp! [y7,g,j,l,m,IC.ve9];rfl
def zkL(k:IL){x:Cel}(c:97<=x.1)(d:x.1<=122)(f:0<=x.2)(g:x.2<=99)(s:SO):yc T (k+4) ylu [yG x] s=.ok (.bl AC) s:=by
 have j:T ylu=AA yiz:=rfl;have a:T ylv=AA yiA:=rfl;have l:∀s,yc T (k+3) ylv [yG x] s=.ok (.bl AC) s:=λs=>by have e:=λs=>zh0 k c d s;rw[zc a rfl rfl rfl];have m:yaH (yG x) [.tuple]=AA (.bl AC):=rfl;have n:∀st,yaj .len st [yG x]=AA (.int 2):=λ_=>rfl;have b:∀st,idxV st (yG x) (.int 0)=AA (.str (chS x.1)):=λ_=>rfl;generalize yG x=v at *;simp! [yiA,m,n,b,e];rfl
 have o:=λs=>zfY (k+2) f g s;have b:∀st,idxV st (yG x) (.int 1)=AA (.int x.2):=λ_=>rfl;rw[zc j rfl rfl rfl];generalize yG x=v at *;simp! [yiz,l,b,o];rfl
abbrev kC:PV:=.str "cell"
abbrev kF:PV:=.str "figure"
def zoz(k:IL){x:Cel}(b:97<=x.1)(d:x.1<=122)(f:0<=x.2)(g:x.2<=99)(s:SO):yc T (k+5) y8 [kC,yG x,.bl AB] s=.ok (.bl AC) s:=by
 have j:T y8=AA yh1:=rfl;have e:=λs=>zkL k b d f g s;have c:yp .eq kC kF=AA (.bl AB):=by ac_rfl
 have a:nLs [kC,yG x,.bl AB]=true:=rfl;rw[zc j rfl rfl a];generalize yG x=v at *;simp! [yh1,c,e];rfl
def zlP(k:IL){d:IM}(a:0<=d)(b:d<=1)(s:SO):yc T (k+5) y8 [kF,.int d,.bl AB] s=.ok (.bl AC) s:=by
 have f:T y8=AA yh1:=rfl;have e:=λs=>zfY (k+3) a b s;have c:yp .eq kF kF=AA (.bl AC):=by ac_rfl
 rw[zc f rfl rfl rfl];simp! [yh1,c,e];rfl
def hfB:Css:=match yI.body with
 |.cons _ (.cons (.for _ _ b) _)=>b
 |x=>x
def ziX(k:IL){p0 p1:PV}(c:p1=.bl AB){st:SO}:∀(l:IK (PV×PV)) (p2 p3:Option PV),(∀x∈l,∀s,yc T k y8 [x.1,x.2,.bl AB] s=.ok (.bl AC) s) ->
  ∃d f,yaT (yc T k) (.t [2,3]) hfB (l.map λx=>.tp AB [x.1,x.2]) [AA p0,AA p1,p2,p3] st=.nx [AA p0,AA p1,d,f] st
 |[],p2,p3,_=>#[p2,p3,zJ]
 |(a,b)::l,p2,p3,h=>by
  subst c;let#[d,f,e]:=ziX k (p0:=p0) rfl (st:=st) l (AA a) (AA b) (λx j=>h x (by simp[j]));refine#[d,f,?_];have g:=h (a,b) (by simp) st;have one:exs (yc T k) [AA p0,AA (.bl AB),AA a,AA b] st hfB=.nx [AA p0,AA (.bl AB),AA a,AA b] st:=by simp only at g;simp! [hfB,yI,g]
  rw[AO,zy (U1:=[AA p0,AA (.bl AB),AA a,AA b]) rfl,one];exact e
def ziA(k:IL){nm:AL}{ops:IK PV}(b:nLs ops=AC)(n:0<(.str nm::ops:IK PV).length)(d:ycn ydD (.str nm)=AA (.bl AC))(s:SO):yc T (k+1) yjC [.tp AB (.str nm::ops)] s=.ok (.bl AC) s:=by
 have f:T yjC=AA yiy:=rfl;have a:nLs [.tp AB (.str nm::ops)]=true:=by simp[nLs,nL,b]
 have g:yaH (.tp AB (.str nm::ops)) [.tuple]=AA (.bl AC):=rfl;have j:∀st,yaj .len st [.tp AB (.str nm::ops)]=AA (.int ((.str nm::ops:IK PV).length:IL)):=λ_=>rfl;have l:∀st,idxV st (.tp AB (.str nm::ops)) (.int 0)=AA (.str nm):=λ_=>ix0;have m:yaH (.str nm) [.str]=AA (.bl AC):=rfl;have c:decide (((.str nm::ops:IK PV).length:IM) > 0)=true:=IW ();rw[zc f rfl rfl a];generalize (PV.str nm::ops).length=L,PV.tp AB (.str nm::ops)=v at *;simp! [yiy,g,j,l,m,c,d,IC.ve29];rfl
def zhw:∀l:IK (PV×PV),yaL (l.map (·.1)) (l.map (·.2))=l.map λx=>.tp AB [x.1,x.2]
 |[]=>rfl
 |(a,b)::l=>by erw[AO,yaL,zhw l,PV.tup]
def hfE:Ce:=match yI.body with
 |.cons _ (.cons _ (.cons (.ret e) _))=>e
 |_=>.nope
def zkf(k:IL){nm}(l:IK (PV×PV))(g:ycn ydD (.str nm)=AA (.bl AC))(j:yct ydD (.str nm)=AA (.tp AC (l.map (·.1))))(m:∀x∈l,∀s,yc T (k+1) y8 [x.1,x.2,.bl AB] s=.ok (.bl AC) s)(b:nLs (l.map (·.2))=AC)
  (n:∀d f st,ev (yc T (k+1)) [AA (.tp AB (.str nm::l.map (·.2))),AA (.bl AB),d,f] st hfE=.ok (.bl AC) st) (s:SO):yc T (k+2) yjB [.tp AB (.str nm::l.map (·.2)),.bl AB] s=.ok (.bl AC) s:=by
 have o:T yjB=AA yI:=rfl;have c:nLs [.tp AB (.str nm::l.map (·.2)),.bl AB]=true:=by simp[nLs,nL,b]
 have p:∀st,yc T (k+1) yjC [.tp AB (.str nm::l.map (·.2))] st=.ok (.bl AC) st:=λst=>ziA k b (by simp) g st;have q:∀st,yaj .len st [.tp AB (.str nm::l.map (·.2))]=AA (.int ((l.length+1:IL):IM)):=λst=>by show AA (PV.int (((PV.str nm::l.map (·.2)).length:IL):IM))=_;simp
 have u:∀st,idxV st (.tp AB (.str nm::l.map (·.2))) (.int 0)=AA (.str nm):=λ_=>ix0;have w:∀st,yaj .len st [.tp AC (l.map (·.1))]=AA (.int (l.length:IL)):=λst=>by show AA (PV.int (((l.map (·.1)).length:IL):IM))=_;simp
 have y:((((l.length+1:IL):IM)==(l.length:IM)+1):IQ)=true:=by simp
 have z:ybX (.int 1)=AA (AA 1):=rfl;have A:yck (.tp AB (.str nm::l.map (·.2))) (AA 1) .non=AA (.tp AB (l.map (·.2))):=by
  have B:ybc (l.length+1) 1=1:=by simp[ybc]
  erw[yck,ybX,ybO,cut,ycH,ydd,A7,Aq,B,IK.drop_succ_cons,HJ]
  first
  |(rw[FL (by simp)];done)
  |(simp;done)
  |(simp[FL])
 have C:yec (.tp AC (l.map (·.1))) (.tp AB (l.map (·.2)))=AA (l.map λx=>.tp AB [x.1,x.2]):=by simp[yec,zhw]
 let#[d,f,D]:=ziX (k+1) (p0:=.tp AB (.str nm::l.map (·.2))) (p1:=.bl AB) rfl (st:=[]) l AD AD m
 have G:yI.body=(match yI.body with
  |.cons a (.cons (.for t i _) (.cons _ r))=>.cons a (.cons (.for t i hfB) (.cons (.ret hfE) r))
  |x=>x):=rfl
 rw[zc o rfl rfl c];rw[G];generalize hfE=E,H:PV.tp AB (.str nm::l.map (·.2))=v,I:(l.map λx=>PV.tp AB [x.1,x.2])=J,PV.tp AC (l.map (·.1))=L at *;simp! [yI,p,q,u,j,w,y,A,C,D,n,z,onP,IC.ve30];rfl
def yah(x:Cel):Prop:=97<=x.1/\x.1<=122/\0<=x.2/\x.2<=99
def ycV:Rw->Prop
 |.mark d=>0<=d/\d<=1
 |.ask x=>yah x
 |.set t d=>yah t/\0<=d/\d<=1
 |.move t x | .bare t x | .twice t x | .half t x=>yah t/\yah x
 |.sum t x y | .less t x y | .both t x y | .any t x y | .odd t x y=>yah t/\yah x/\yah y
 |.times a b x y=>yah a/\yah b/\yah x/\yah y/\yp .ne (yG a) (yG b)=AA (.bl AC)
def zgd{r:PV}{nm:AL}(l:IK (PV×PV))(d:r=.tp AB (.str nm::l.map (·.2)))(f:ycn ydD (.str nm)=AA (.bl AC))(b:yct ydD (.str nm)=AA (.tp AC (l.map (·.1))))(g:∀x∈l,∀k s,yc T (k+5) y8 [x.1,x.2,.bl AB] s=.ok (.bl AC) s)(a:nLs (l.map (·.2))=AC)
  (j:∀k m n st,ev (yc T k) [AA r,AA (.bl AB),m,n] st hfE=.ok (.bl AC) st):ybh r:=λk s=>by
 have o:T yh4=AA yix:=rfl;have e:∀s,yc T (9+k) yjB [r,.bl AB] s=.ok (.bl AC) s:=λs=>by subst d;rw[show 9+k=7+k+2 by lia];exact zkf (7+k) l f b (λx b s=>by rw[show 7+k+1=3+k+5 by lia];exact g x b (3+k) s) a (j _) s
 have c:nLs [r]=true:=by subst d;simp[nLs,nL,a]
 rw[show 10+k=9+k+1 by lia,zc o rfl rfl c];simp! [yix,e];rfl
def zdc{r:PV}{nm:AL}(l:IK (PV×PV))(b:r=.tp AB (.str nm::l.map (·.2)))(c:ycn ydD (.str nm)=AA (.bl AC))(d:yct ydD (.str nm)=AA (.tp AC (l.map (·.1))))(f:∀x∈l,∀k s,yc T (k+5) y8 [x.1,x.2,.bl AB] s=.ok (.bl AC) s)(a:nLs (l.map (·.2))=AC)
  (g:yp .ne (.str nm) (.str "times")=AA (.bl AC)):ybh r:=zgd l b c d f a λk m n st=>by subst b;have j:∀st,idxV st (.tp AB (.str nm::l.map (·.2))) (.int 0)=AA (.str nm):=λ_=>ix0;simp! [hfE,yI,j,g]
theorem oC{x}(h:yah x)(k:IL)(s:SO):yc T (k+5) y8 [kC,yG x,.bl AB] s=.ok (.bl AC) s:=zoz k h.1 h.2.1 h.2.2.1 h.2.2.2 s
def zsL{nm x}(h:yah x)(c:ycn ydD (.str nm)=AA (.bl AC))(d:yct ydD (.str nm)=AA (.tp AC [kC]))(f:yp .ne (.str nm) (.str "times")=AA (.bl AC)):ybh (.tp AB [.str nm,yG x]):=
 zdc [(kC,yG x)] rfl c d (λa b=>by erw[AS,A9,IX]at b;subst b;exact oC h) rfl f
theorem row2{nm t x}(c:yah t)(h:yah x)(d:ycn ydD (.str nm)=AA (.bl AC))(f:yct ydD (.str nm)=AA (.tp AC [kC,kC]))(g:yp .ne (.str nm) (.str "times")=AA (.bl AC)):ybh (.tp AB [.str nm,yG t,yG x]):=
 zdc [(kC,yG t),(kC,yG x)] rfl d f (λa b=>by erw[AS,A9,IX]at b;rcases b with rfl|rfl;exact oC c;exact oC h) rfl g
def zrM{nm t x y}(c:yah t)(h:yah x)(d:yah y)(f:ycn ydD (.str nm)=AA (.bl AC))(g:yct ydD (.str nm)=AA (.tp AC [kC,kC,kC]))(j:yp .ne (.str nm) (.str "times")=AA (.bl AC)):ybh (.tp AB [.str nm,yG t,yG x,yG y]):=
 zdc [(kC,yG t),(kC,yG x),(kC,yG y)] rfl f g (λa b=>by erw[AS,A9,IX]at b;rcases b with rfl|rfl|rfl;exact oC c;exact oC h;exact oC d) rfl j
def zhh:∀r,ycV r->ybh (yaq r)
 |.mark d,h=>zdc [(kF,.int d)] rfl (by ac_rfl) (by ac_rfl) (λa c=>by erw[AS,A9,IX]at c;subst c;exact λk s=>zlP k h.1 h.2 s) rfl (by ac_rfl)
 |.ask x,h=>zsL h (by ac_rfl) (by ac_rfl) (by ac_rfl)
 |.set t d,h=>zdc [(kC,yG t),(kF,.int d)] rfl (by ac_rfl) (by ac_rfl) (λa c=>by erw[AS,A9,IX]at c;rcases c with rfl|rfl;exact oC h.1;exact λk s=>zlP k h.2.1 h.2.2 s) rfl (by ac_rfl)
 |.move t x,h=>row2 h.1 h.2 (by ac_rfl) (by ac_rfl) (by ac_rfl)
 |.bare t x,h=>row2 h.1 h.2 (by ac_rfl) (by ac_rfl) (by ac_rfl)
 |.twice t x,h=>row2 h.1 h.2 (by ac_rfl) (by ac_rfl) (by ac_rfl)
 |.half t x,h=>row2 h.1 h.2 (by ac_rfl) (by ac_rfl) (by ac_rfl)
 |.sum t x y,h=>zrM h.1 h.2.1 h.2.2 (by ac_rfl) (by ac_rfl) (by ac_rfl)
 |.less t x y,h=>zrM h.1 h.2.1 h.2.2 (by ac_rfl) (by ac_rfl) (by ac_rfl)
 |.both t x y,h=>zrM h.1 h.2.1 h.2.2 (by ac_rfl) (by ac_rfl) (by ac_rfl)
 |.any t x y,h=>zrM h.1 h.2.1 h.2.2 (by ac_rfl) (by ac_rfl) (by ac_rfl)
 |.odd t x y,h=>zrM h.1 h.2.1 h.2.2 (by ac_rfl) (by ac_rfl) (by ac_rfl)
 |.times a b x y,h=>zgd [(kC,yG a),(kC,yG b),(kC,yG x),(kC,yG y)] rfl (by ac_rfl) (by ac_rfl) (λz f=>by erw[AS,A9,IX]at f;rcases f with rfl|rfl|rfl|rfl;exact oC h.1;exact oC h.2.1;exact oC h.2.2.1;exact oC h.2.2.2.1) rfl λk g j st=>by
  have q:yp .ne (.str "times") (.str "times")=AA (.bl AB):=by ac_rfl
  have h:=h.2.2.2.2;erw[yaq];generalize yG a=l,yG b=m at *;simp! [hfE,yI,ix0,ix1,ix2,q,h]
def zoC{v:PV}(a:nL v=AC)(h:ybh v)(k:IL)(s:SO):yc T (11+k) yh8 [v] s=.ok .non s:=by have b:T yh8=AA yig:=rfl;have e:=λs=>h k s;rw[show 11+k=10+k+1 by lia,zc b rfl rfl (by simp[nLs,a])];simp! [yig,e];rfl
def Good(w:IL)(M:Mem)(k:IM):Prop:=(∀c i,0<=M c i/\M c i<2^w)/\0<=k/\k<=1
def okD:Rw->Prop
 |.mark d=>0<=d/\d<=1
 |.set _ d=>0<=d/\d<=1
 |_=>Iq
def zaL{w:IL}{M:Mem}(h:∀c i,0<=M c i/\M c i<2^w)(t){v:IM}(a:0<=v)(b:v<2^w):∀c i,0<=wr M t v c i/\wr M t v c i<2^w:=by
 intro c i;unfold wr upd;split
 .exact#[a,b]
 .exact h c i
def zjM{w:IL}(q:1<=w){M}{k:IM}(h:Good w M k){r}(n:okD r):Good w (stepM (2^w) M k r).1 (stepM (2^w) M k r).2:=by
 let#[g,j,m]:=h;have u:(2:IM)<=2^w:=by have h:(2:IL)^1<=2^w:=Aj () q;have D:=pw w;lia
 have o:(2:IM)^w≠0:=()
 have c:(0:IM)<2^w:=()
 have f:∀z:IM,0<=z%2^w/\z%2^w<2^w:=λz=>#[B8 _ o,BQ _ c];have p:∀z:IM,0<=z->z<2*2^w->0<=z/2^w/\z/2^w<=1:=λz A E=>#[FR A (),by have:=DU c (a:=z) (b:=2) ();lia]
 cases r with
 |mark d=>exact#[g,n]
 |ask x=>exact#[g,zlX _]
 |set t d=>exact#[zaL g t n.1 (by have:=n.2;lia),j,m]
 |move t x=>exact#[zaL g t (g _ _).1 (g _ _).2,j,m]
 |bare t x=>
  have:=g x.1 x.2;exact#[zaL g t (by erw[rd];lia) (by erw[rd];lia),j,m]
 |twice t x=>
  have:=g x.1 x.2;exact#[zaL g t (f _).1 (f _).2,p _ (by erw[rd];lia) (by erw[rd];lia)]
 |half t x=>
  have:=g x.1 x.2;have G:(2:IM)^w=2*(2^w/2):=by obtain⟨v,rfl⟩:∃v,w=v+1:=#[w-1,()];rw[CS];lia
  have H:k*(2^w/2)=0 \/ k*((2:IM)^w/2)=2^w/2:=by
   rcases (by lia:k=0 \/ k=1)with rfl|rfl
   .left;lia
   .right;lia
  refine#[zaL g t ?_ ?_,?_,?_]
  .simp only[rd];lia
  .simp only[rd];lia
  .simp only[stepM,rd];lia
  .simp only[stepM,rd];lia
 |sum t x y=>
  have:=g x.1 x.2;have:=g y.1 y.2;exact#[zaL g t (f _).1 (f _).2,p _ (by erw[rd];lia) (by erw[rd];lia)]
 |less t x y=>exact#[zaL g t (f _).1 (f _).2,zlX _]
 |both t x y=>
  have h:=zpv (w:=w) (g x.1 x.2).1 (g y.1 y.2).1 (g y.1 y.2).2;exact#[zaL g t h.1 h.2,j,m]
 |any t x y=>
  have h:=zo0 (w:=w) (g x.1 x.2).1 (g x.1 x.2).2 (g y.1 y.2).1 (g y.1 y.2).2;exact#[zaL g t h.1 h.2,j,m]
 |odd t x y=>
  have h:=zqk (w:=w) (g x.1 x.2).1 (g x.1 x.2).2 (g y.1 y.2).1 (g y.1 y.2).2;exact#[zaL g t h.1 h.2,j,m]
 |times l t x y=>
  have a:=g x.1 x.2;have b:=g y.1 y.2;have B:0<=M x.1 x.2*M y.1 y.2:=EO a.1 b.1;have C:M x.1 x.2*M y.1 y.2<2^w*2^w:=by
   rcases (by lia:M x.1 x.2=0 \/ 0<M x.1 x.2)with z|z
   .rw[z,IM.zero_mul];exact IM.mul_pos c c
   .exact IM.lt_of_lt_of_le (IM.mul_lt_mul_of_pos_left b.2 z) (C3 () ())
  refine#[zaL (zaL g l (f _).1 (f _).2) t ?_ ?_,j,m]
  .exact FR B ()
  .exact DU c C
def zei{w:IL}{c:IL}:∀(vs:IK IM) (i:IL) (M:Mem),(∀c i,0<=M c i/\M c i<2^w)->(∀v∈vs,0<=v/\v<2^w)->∀d j,0<=ybe c i vs M d j/\ybe c i vs M d j<2^w
 |[],_,_,h,_=>h
 |v::vs,i,M,h,a=>by
  rw[ybe];refine zei vs (i+1) _ (λb j=>?_) λu f=>a u (AU _ f);unfold upd;split
  .exact a v Af
  .exact h b j
def zdh{w:IL}:∀(n:IL) (x:IM),∀v∈yt (2^w) n x,0<=v/\v<2^w
 |0,_,v,h=>by cases h
 |n+1,x,v,h=>by
  have a:(0:IM)<2^w:=Bq ();rw[yt,AS]at h;rcases h with rfl|h
  .exact#[B8 _ (),BQ _ a]
  .exact zdh n _ v h
def zlp{w:IL}(b:1<=w)(n:IL)(x y:IM):Good w (ybR (2^w) n x y) 0:=by have a:(0:IM)<2^w:=Bq ();exact#[zei _ _ _ (zei _ _ _ (λc i=>#[IM.le_refl _,a]) (zdh n x)) (zdh n y),(),()]
def zhn{w:IL}(b:1<=w)(a:w<=16):∀(rs:IK Rw)M(k:IM),(∀r∈rs,okD r)->Good w M k->ybd (2^w) rs M k
 |[],M,k,_,_=>trivial
 |r::rs,M,k,c,g=>by
  let#[h,d,f]:=g;exact#[#[λt x _=>#[(h x.1 x.2).1,(h x.1 x.2).2,d,()],λ_ _ x _ _=>by have:=h x.1 x.2;have p:(2:IL)^w<=2^16:=Aj () a;have q:=pw w;show (M x.1 x.2).natAbs<_;have:(2:IL)^16=65536:=rfl;lia],zhn b a rs _ _ (λx j=>c x (by simp[j])) (zjM b #[h,d,f] (c r (by simp)))]
def zqq:∀r,ycV r->okD r
 |.mark _,h=>h
 |.set _ _,h=>h.2
 |.times _ _ _ _,_ | .ask _,_ | .move _ _,_ | .bare _ _,_ | .twice _ _,_ | .half _ _,_ | .sum _ _ _,_ | .less _ _ _,_ | .both _ _ _,_ | .any _ _ _,_ | .odd _ _ _,_=>trivial
def zsM{pr:Prop}{nm:AL}{xs:IK PV}{b vs a}{rs:IK Rw}{w n o:IL}(J:w<=16)(y:n<=4)(nl:nLs xs=AC)(p:∀st,idxV st (.tp AB (.str nm::xs)) (.int 0)=AA (.str nm))
  (e0:yc T 18 yY [.tp AB (.str nm::xs)] []=.ok (.tp b vs) []) (z:yaI vs=AA a) (q:nLs vs=AC) (A:isOk (yc T 16 yhV [.tp b vs] []) (.bl AC)=AC) (B:isOk (yc T 20 yA [.tp AB (.str nm::xs)] []) (.bl AC)=AC)
  (C:pr->yc T 20 yh6 [.tp AB (.str nm::xs)] []=.ok (.bl AC) []) (pv:yW w n a=rs.map yaq) (ok:∀r∈rs,ycV r) (D:rs.length<=4000) (c:ybx w n a<=4000) (E:ak1 w n a<=500000)
  {qb} (t:yp .isin (.str nm) yfd=AA (.bl qb)) (G:yc T 20 yk [.tp AB (.str nm::xs),.int n] []=.ok (.int o) []):ybG pr qb (.tp AB (.str nm::xs)) w n o rs:=by
 have nl:nL (.tp AB (.str nm::xs))=true:=by simp[nL,nLs,nl]
 generalize PV.tp AB (.str nm::xs)=d at *;have g:nLs [d]=true:=by simp[nLs,nl]
 have j:∀x∈yW w n a,ybh x:=λx u=>by rw[pv,Dq]at u;let#[r,c,rfl]:=u;exact zhh r (ok r c)
 have H:∀st,yc T (1+18) yY [d] st=.ok (.tp b vs) st:=λst=>by have:=zC e0 1;rw[show 18+1=18+0+1 by lia]at this;exact zb5 (f:=yY) (fn:=yh2) rfl rfl rfl g this st
 have l:∀st,yc T (1+16) yhV [.tp b vs] st=.ok (.bl AC) st:=λst=>by have:=zC (zdR A) 1;exact zb5 (f:=yhV) (fn:=yjy) rfl rfl rfl (by simp[nLs,nL,q]) this st
 have rows:=zkb 1 (w:=w) (n:=n) nl H q z () () () () (by rw[pv,Aq];exact D) c E j l [];rw[pv]at rows;have m:T yik=AA yh3:=rfl;have nl2:nLs [d,.int n]=true:=by simp[nLs,nl,nL]
 refine#[nl,zdR B,C,λst=>by rw[p,BH,t],rows,λr c=>?_,G,?_]
 .have I:nL (yaq r)=true:=by cases r<;>rfl
  exact zoC I (zhh r (ok r c)) 9 []
 .rw[show (20:IL)=19+1 from rfl,zc m rfl rfl nl2]
  cases qb<;>simp! [yh3,p,t,IC.ve9]<;>rfl
theorem aw{a}{nm:AL}{xs:IK PV}{n:IL}(nl:nLs xs=AC)(c:∀st,idxV st (.tp AB (.str nm::xs)) (.int 0)=AA (.str nm))(f:yp .eq (.str nm) (.str "compare")=AA (.bl AB))(g:yp .eq (.str nm) (.str "led")=AA (.bl AB))(j:yp .isin (.str nm) yiv=AA (.bl a)):yc T 20 yk [.tp AB (.str nm::xs),.int n] []=.ok (.int (if a=AC then 2*n else n:IL)) []:=by
 have nl:nL (.tp AB (.str nm::xs))=true:=by simp[nL,nLs,nl]
 generalize PV.tp AB (.str nm::xs)=d at *;have b:T yk=AA yT:=rfl;have nl2:nLs [d,.int n]=true:=by simp[nLs,nl,nL]
 rw[show (20:IL)=19+1 from rfl,zc b rfl rfl nl2]
 cases a<;>simp! [yT,c,f,g,j]<;>rfl
def Cx.ce(x:Cx)(I J n:IM):Cel:=(x.l,x.at I J n)
def loI(a N:IM):IM:=if a<0 then a*(N-1)else 0
def hiI(a N:IM):IM:=if a<0 then 0 else a*(N-1)
def zl0{a I N:IM}(b:0<=I)(c:I<N):loI a N<=a*I/\a*I<=hiI a N:=by
 unfold loI hiI;split
 .rename_i h;exact#[IM.mul_le_mul_of_nonpos_left () (),IM.mul_nonpos_of_nonpos_of_nonneg () b]
 .exact#[EO () b,Da () ()]
def Cx.okI(x:Cx)(N M n:IM):IQ:=decide (97<=x.l)&&decide (x.l<=122)&&decide (0<=x.c+loI x.i N+loI x.j M+x.m*n)&&decide (x.c+hiI x.i N+hiI x.j M+x.m*n<=99)
def zor{x:Cx}{I J N M n:IM}(h:x.okI N M n=AC)(c:0<=I)(d:I<N)(f:0<=J)(g:J<M):yah (x.ce I J n):=by erw[Cx.okI,AH,IN]at h;let#[#[#[j,l],m],o]:=h;have a:=zl0 (a:=x.i) c d;have b:=zl0 (a:=x.j) f g;exact#[j,l,Hs m (F9 (HN (Fq a.1 _) b.1) _),Hs (F9 (HN (Fq a.2 _) b.2) _) o]
def isN(nm:AL)(s:Ii):IQ:=decide (nm=AE s)
def yeY(a b:Cx):IQ:=decide (a.l≠b.l)
def rs7(N M n:IM)(nm:AL)(t x:Cx)(l:IK Op):Op->IQ
 |.fig _=>AB
 |.cel z=>l.isEmpty&&(isN nm "times" && yeY t x&&z.okI N M n)
def rs6(N M n:IM)(nm:AL)(t x:Cx):IK Op->IQ
 |[]=>isN nm "sum" || isN nm "less" || isN nm "both" || isN nm "any" || isN nm "odd"
 |a::l=>rs7 N M n nm t x l a
def rs5(N M n:IM)(nm:AL)(t x:Cx)(l:IK Op):Op->IQ
 |.fig _=>AB
 |.cel y=>y.okI N M n&&rs6 N M n nm t x l
def rs4(N M n:IM)(nm:AL)(t x:Cx):IK Op->IQ
 |[]=>isN nm "move" || isN nm "bare" || isN nm "twice" || isN nm "half"
 |a::l=>rs5 N M n nm t x l a
def rs3(N M n:IM)(nm:AL)(t:Cx)(l:IK Op):Op->IQ
 |.fig d=>l.isEmpty&&(isN nm "set" && decide (0<=d)&&decide (d<=1))
 |.cel x=>x.okI N M n&&rs4 N M n nm t x l
def rs2(N M n:IM)(nm:AL)(t:Cx):IK Op->IQ
 |[]=>isN nm "ask"
 |a::l=>rs3 N M n nm t l a
def rs1(N M n:IM)(nm:AL)(l:IK Op):Op->IQ
 |.fig d=>l.isEmpty&&(isN nm "mark" && decide (0<=d)&&decide (d<=1))
 |.cel t=>t.okI N M n&&rs2 N M n nm t l
def rs0(N M n:IM)(nm:AL):IK Op->IQ
 |[]=>AB
 |a::l=>rs1 N M n nm l a
def yeb(N M n:IM)(r:Rs):IQ:=rs0 N M n r.nm r.ops
def isR(v:PV):Prop:=∃w,ycV w/\v=yaq w
def zoX{a b}(j:yah a)(l:yah b)(h:a.1≠b.1):yp .ne (yG a) (yG b)=AA (.bl AC):=by
 have m:∀c:IL,c<=122->(chS c).cps.all (· < 0x110000)=true:=λc f=>by simp[chS];lia
 have d:(chS a.1==chS b.1)=false:=IP.2 λe=>h (by simpa [chS] using e);have g:∀c:Cel,yah c->shp (yG c)=true:=λc f=>by show ((chS c.1).cps.all (· < 0x110000)&&AC)=AC;rw[m _ f.2.1];rfl
 show (if (shp (yG a)&&shp (yG b))=AC then AA (PV.bl (!((chS a.1==chS b.1)&&((a.2==b.2)&&AC))))else AD)=_;rw[g a j,g b l,d];rfl
def zns{r:Rs}{I J N M n:IM}(h:yeb N M n r=AC)(u:0<=I)(w:I<N)(A:0<=J)(B:J<M):isR (r.pv I J n):=by
 let#[m,o]:=r;have a:∀{x:Cx},x.okI N M n=AC->yah (x.ce I J n):=λh=>zor h u w A B;have em:∀{l:IK Op} {b:IQ},(l.isEmpty&&b)=AC->l=[]/\b=true:=λ{l b} h=>by rw[AH]at h;exact#[Cp.1 h.1,h.2]
 rcases o with _|⟨d|t,l⟩
 .exact nomatch (show AB=AC from h)
 .let#[rfl,h]:=em h;erw[isN,AH,IN]at h;let#[#[rfl,p],q]:=h;exact#[.mark d,#[p,q],rfl]
 let#[c,h]:=BA.1 (show (t.okI N M n&&rs2 N M n m t l)=AC from h);rcases l with _|⟨d|x,l⟩
 .cases Ia h
  exact#[.ask (t.ce I J n),a c,rfl]
 .let#[e,g]:=em (show (l.isEmpty&&(isN m "set" && decide (0<=d)&&decide (d<=1)))=AC from h);erw[isN,AH,IN]at g;let#[#[rfl,p],q]:=g;subst e;exact#[.set (t.ce I J n) d,#[a c,p,q],rfl]
 let#[f,h]:=BA.1 (show (x.okI N M n&&rs4 N M n m t x l)=AC from h);rcases l with _|⟨d|y,l⟩
 .simp only[rs4,isN,Bz,IN]at h;rcases h with ((rfl|rfl)|rfl)|rfl
  .exact#[.move (t.ce I J n) (x.ce I J n),#[a c,a f],rfl]
  .exact#[.bare (t.ce I J n) (x.ce I J n),#[a c,a f],rfl]
  .exact#[.twice (t.ce I J n) (x.ce I J n),#[a c,a f],rfl]
  .exact#[.half (t.ce I J n) (x.ce I J n),#[a c,a f],rfl]
 .exact nomatch (show AB=AC from h)
 let#[j,h]:=BA.1 (show (y.okI N M n&&rs6 N M n m t x l)=AC from h);rcases l with _|⟨d|z,l⟩
 .simp only[rs6,isN,Bz,IN]at h;rcases h with (((rfl|rfl)|rfl)|rfl)|rfl
  .exact#[.sum (t.ce I J n) (x.ce I J n) (y.ce I J n),#[a c,a f,a j],rfl]
  .exact#[.less (t.ce I J n) (x.ce I J n) (y.ce I J n),#[a c,a f,a j],rfl]
  .exact#[.both (t.ce I J n) (x.ce I J n) (y.ce I J n),#[a c,a f,a j],rfl]
  .exact#[.any (t.ce I J n) (x.ce I J n) (y.ce I J n),#[a c,a f,a j],rfl]
  .exact#[.odd (t.ce I J n) (x.ce I J n) (y.ce I J n),#[a c,a f,a j],rfl]
 .exact nomatch (show AB=AC from h)
 let#[e,g]:=em (show (l.isEmpty&&(isN m "times" && yeY t x&&z.okI N M n))=AC from h);erw[isN,yeY,AH,IN]at g;let#[#[rfl,C],D]:=g;subst e;exact#[.times (t.ce I J n) (x.ce I J n) (y.ce I J n) (z.ce I J n),#[a c,a f,a j,a D,zoX (a c) (a f) C],rfl]
def zjL:∀l:IK PV,(∀v∈l,isR v)->∃a:IK Rw,l=a.map yaq/\∀r∈a,ycV r
 |[],_=>#[[],rfl,by simp]
 |v::l,h=>by let#[w,b,rfl]:=h v (by simp);let#[a,rfl,c]:=zjL l λx d=>h x (by simp[d]);exact#[w::a,rfl,λr q=>by rcases AS.1 q with rfl|q;exact b;exact c r q]
def zd6{f}{v:PV}:∀{n:IL},v∈upTo f n->∃i:IL,i<n/\v∈f i
 |0,h=>by simp[upTo]at h
 |n+1,h=>by
  rw[upTo,BG]at h;rcases h with h|h
  .let#[i,a,e]:=zd6 h;exact#[i,(),e]
  .exact#[n,(),h]
def zco{c m t:IM}{w n:IL}(a:0<=t)(b:w<=16):cnt c m t w n<=cnt c m t 16 n:=by have h:t*(w:IM)*(n:IM)<=t*16*n:=C3 (Da () a) ();unfold cnt;lia
def T2.okR(N:IM)(n:IL):T2->IQ
 |.row r=>yeb N 1 n r
 |.rounds c m t a=>decide (0<=t)&&a.all (yeb N (cnt c m t 16 n) n)
def T1.okR(n:IL):T1->IQ
 |.row r=>yeb 1 1 n r
 |.rounds c m t a=>decide (0<=t)&&a.all (T2.okR (cnt c m t 16 n) n)
def zsN{N:IM}{n w I:IL}(d:w<=16)(b:(I:IM)<N):∀p:T2,p.okR N n=AC->∀v∈p.rows w n I,isR v
 |.row r,h,v,a=>by erw[T2.rows,AS,A9,IX]at a;subst a;exact zns h () b () ()
 |.rounds c m t g,h,v,a=>by erw[T2.okR,AH,IN,A3]at h;let#[J,j,a]:=zd6 a;let#[r,f,rfl]:=Dq.1 a;have:=zco (c:=c) (m:=m) (n:=n) h.1 d;exact zns (h.2 r f) () b () ()
def zsO{n w:IL}(b:w<=16):∀p:T1,p.okR n=AC->∀v∈p.rows w n,isR v
 |.row r,h,v,a=>by erw[T1.rows,AS,A9,IX]at a;subst a;exact zns h () () () ()
 |.rounds c m t f,h,v,a=>by erw[T1.okR,AH,IN,A3]at h;let#[I,g,a]:=zd6 a;let#[p,d,a]:=Gn.1 a;have:=zco (c:=c) (m:=m) (n:=n) h.1 b;exact zsN b () p (h.2 p d) v a
def zee{A:Type}{f g:A->IL}:∀l:IK A,(∀x∈l,f x<=g x)->(l.map f).sum<=(l.map g).sum
 |[],_=>AQ _
 |x::l,h=>by have:=h x (by simp);have:=zee l λy a=>h y (by simp[a]);erw[AO,Fy];lia
def zfo{f:IL->IK PV}{c:IL}:∀{n:IL},(∀i,i<n->(f i).length<=c)->(upTo f n).length<=n*c
 |0,_=>by simp[upTo]
 |n+1,h=>by have:=zfo (n:=n) λi a=>h i ();have:=h n ();rw[upTo,Ab,IL.add_mul];lia
def zgT{A:Type}{f:A->IK PV}{g:A->IL}:∀l:IK A,(∀x∈l,(f x).length<=g x)->(l.flatMap f).length<=(l.map g).sum
 |[],_=>by simp
 |x::l,h=>by have:=h x (by simp);have:=zgT l λy a=>h y (by simp[a]);erw[Eb,Ab,AO,Fy];lia
def T2.lenB(n:IL):T2->IL
 |.row _=>1
 |.rounds c m t a=>cnt c m t 16 n*a.length
def T1.lenB(n:IL):T1->IL
 |.row _=>1
 |.rounds c m t a=>cnt c m t 16 n*(a.map (T2.lenB n)).sum
def zsP{N:IM}{n w I:IL}(b:w<=16):∀p:T2,p.okR N n=AC->(p.rows w n I).length<=p.lenB n
 |.row r,_=>by simp[T2.rows,T2.lenB]
 |.rounds c m t a,h=>by
  erw[T2.okR,AH,IN]at h;have d:=zco (c:=c) (m:=m) (n:=n) h.1 b;have g:=zfo (f:=λJ=>a.map λr=>r.pv I J n) (c:=a.length) (n:=cnt c m t w n) λi _=>by simp
  exact As g (Ck _ d)
def zsQ{n w:IL}(b:w<=16):∀p:T1,p.okR n=AC->(p.rows w n).length<=p.lenB n
 |.row r,_=>by simp[T1.rows,T1.lenB]
 |.rounds c m t a,h=>by erw[T1.okR,AH,IN,A3]at h;have d:=zco (c:=c) (m:=m) (n:=n) h.1 b;have g:=zfo (f:=λI=>yaC w n I a) (c:=(a.map (T2.lenB n)).sum) (n:=cnt c m t w n) λi _=>zgT a λp j=>zsP b p (h.2 p j);exact As g (Ck _ d)
def zr8{n w:IL}(d:w<=16):∀p:T1,p.okR n=AC->p.rnd w n<=p.rnd 16 n/\p.ak w n<=p.ak 16 n
 |.row r,_=>#[AQ _,AQ _]
 |.rounds c m t b,h=>by
  erw[T1.okR,AH,IN,A3]at h;have f:=zco (c:=c) (m:=m) (n:=n) h.1 d;have g:∀p∈b,T2.rnd w n p<=T2.rnd 16 n p/\T2.ak w n p<=T2.ak 16 n p:=λp a=>by
   have h:=h.2 p a
   cases p with
   |row r=>exact#[AQ _,AQ _]
   |rounds c m t o=>
    erw[T2.okR,AH,IN]at h;have:=zco (c:=c) (m:=m) (n:=n) h.1 d;exact#[this,D9 this 1]
  have j:=zee b λp a=>(g p a).1;have l:=zee b λp a=>(g p a).2;exact#[Ay f (Ft j 1),D9 (Ay f (Ft l 1)) 1]
def okN(a:IK T1)(n:IL):IQ:=a.all (T1.okR n)&&decide ((a.map (T1.lenB n)).sum<=4000)&&decide (ybx 16 n a<=4000)&&decide (ak1 16 n a<=500000)
def yc3(c:IK IL)(d:PV):IQ:=match yc T 18 yY [d] []with
 | .ok (.tp b a) []=>(match yaI a with
  |some f=>c.all (okN f)
  |none=>AB)&&nLs a&&isOk (yc T 16 yhV [.tp b a] []) (.bl AC)&&isOk (yc T 20 yA [d] []) (.bl AC)&&shp (.tp b a)
 |_=>AB
def zsR{t}{pr:Prop}{nm:AL}{xs:IK PV}{w n u:IL}(h:yc3 t (.tp AB (.str nm::xs))=AC)(A:n∈t)(j:w<=16)(m:n<=4)(nl:nLs xs=AC)(a:pr->yc T 20 yh6 [.tp AB (.str nm::xs)] []=.ok (.bl AC) [])
  {qb} (B:yp .isin (.str nm) yfd=AA (.bl qb)) (C:yc T 20 yk [.tp AB (.str nm::xs),.int n] []=.ok (.int u) []):∃d,d.length<=4000/\(∀r∈d,ycV r)/\ybG pr qb (.tp AB (.str nm::xs)) w n u d:=by
 unfold yc3 at h;split at h
 .rename_i b O D;erw[AH]at h;let#[#[#[#[o,E],G],H],Q]:=h;split at o
  .rename_i c I;have x:=A3.1 o n A;erw[okN,AH,IN,A3]at x;let#[#[#[l,U],J],L]:=x;let#[d,pv,ok]:=zjL (yW w n c) λv q=>by let#[p,a,q]:=Gn.1 q;exact zsO j p (l p a) v q
   have y:d.length<=4000:=by
    have z:=zgT (f:=T1.rows w n) (g:=T1.lenB n) c λp a=>zsQ j p (l p a);have X:(yW w n c).length=d.length:=by rw[pv,Aq]
    have z:(yW w n c).length<=_:=z;lia
   have M:ybx w n c<=4000:=As (zee c λp a=>(zr8 j p (l p a)).1) J;have N:ak1 w n c<=500000:=As (zee c λp a=>(zr8 j p (l p a)).2) L;exact#[d,y,ok,zsM j m nl (λ_=>ix0) D I E G H a pv ok y M N B C]
  .cases o
 .cases h
def zkt{c}{N acc lo:IM}{st}:exs c [AA (.int N),AA (.int acc),AA (.int lo)] st (.cons (.asg (.n 1) (.bin .mul (.cst (.int 2)) (.var 1))) .nil)=.nx [AA (.int N),AA (.int (2*acc)),AA (.int lo)] st:=by erw[xs_nil,xs_cons,x_asg,yaz,nxO,IC.ve1,IC.ve2,IC.ve3,R.bind,R.fl,yH,yq,binI,yaA,toR,BO,BP,BK,Ar];simp
def zp6(k n:IL)(o:n<1000)(st:SO):yc T (k+1) yke [.int n] st=.ok (.int (2^n)) st:=by
 let#[p,g,h,u,f,l]:=zfu (call:=yc T k) (t:=.n 2) (b:=.cons (.asg (.n 1) (.bin .mul (.cst (.int 2)) (.var 1))) .nil) (λi U st=>∃u,U=[AA (.int n),AA (.int (2^i)),u]/\st=[]) (yr n 0 1) 0 [AA (.int n),AA (.int 1),AD] [] #[_,rfl,rfl] (by
  rintro j x U st c ⟨u,rfl,rfl⟩
  have c:∃i,x=.int i:=by
   have:∀(n:IL) (a d:IM) (j:IL) x,(yr n a d)[j]?=AA x->∃i,x=.int i:=by
    intro n
    induction n with
    |zero=>intro a d j x h;simp[yr]at h
    |succ n ih=>
     intro a d j x h
     cases j with
     |zero=>simp[yr]at h;exact#[a,h.symm]
     |succ j=>simp[yr]at h;exact ih _ _ _ _ h
   exact this _ _ _ _ _ c
  let#[i,rfl]:=c;exact#[_,_,_,rfl,zkt,_,by rw[CS,Cq],rfl])
 have m:(yr n 0 1).length=n:=by
  have:∀(n:IL) (a d:IM),(yr n a d).length=n:=by
   intro n
   induction n with
   |zero=>intro a d;rfl
   |succ n ih=>intro a d;simp[yr,ih]
  exact this _ _ _
 rw[m,Dr]at f;subst f l;rw[yc,show T yke=AA yjj from rfl];erw[yjj,A7,By,IV,nLs,nL,CU,AO,BV,Ej,Av,Bd,CM,xs_cons,xs_nil,x_asg,x_for,x_ret,yaz,nxO,IC.ve1,IC.ve2,R.fl,yH,BO,BP,IC.vjq0,IC.vjq1,IC.vjq2,IC.vjq3,IC.vjq4,IC.vjq5,IC.vjq6,IC.vjq7,IC.vjq8,R.bind,BK,yby,toL];erw[show (n:IM).natAbs<1000000000 by lia,IV,CN,h];simp[nL]
def ybk:Ce:=match yaa.body with
 |.cons _ (.cons (.while c _) _)=>c
 |_=>.nope
def ybK:Css:=match yaa.body with
 |.cons _ (.cons (.while _ b) _)=>b
 |_=>.nil
def zjS{c}{n:IL}{g:IK IM}{a p m t:IM}{f}{u:Option PV}{st:SO}(h:st[n]?=AA (.lst [.lst (g.map .int),.int a,.int p,.bl f])):
  ∃B,ev c [AA (.loc n),AA (.int m),AA (.int t),u] st ybk=.ok (.bl B) st/\(B=AC->t<64):=by
 by_cases b:t<64
 .by_cases d:p=0
  .refine#[AC,?_,λ_=>b];simp! [ybk,yaa,R.bind,h,idxV,yaV,at?,ixI,yq,binI,yaA,toR,yp,ybQ];simp[b,d,zgE,znm]
  .have d:(p==0)=false:=by simp[d]
   cases f
   .refine#[AB,?_,λ_=>b];simp! [ybk,yaa,R.bind,h,idxV,yaV,at?,ixI,yq,binI,yaA,toR,yp,ybQ];simp[h,b,d,zgE,znm]
   .refine#[decide (p<m*4096),?_,λ_=>b];simp! [ybk,yaa,R.bind,h,idxV,yaV,at?,ixI,yq,binI,yaA,toR,yp,ybQ];simp[h,b,d,zgE,znm]
 .refine#[AB,?_,λz=>by cases z];simp! [ybk,yaa,R.bind,h,idxV,yaV,at?,ixI,yq,binI,yaA,toR,yp,ybQ];simp[b]
def zim(k:IL){n:IL}{c:IK IM}(d:c.length<=1000){a p m t:IM}(o:0<=a){f}{u:Option PV}{st:SO}(h:st[n]?=AA (.lst [.lst (c.map .int),.int a,.int p,.bl f])):
  ∃r w,exs (yc T (k+2)) [AA (.loc n),AA (.int m),AA (.int t),u] st ybK=.nx [AA (.loc n),AA (.int m),AA (.int (t+1)),u] (st.set n (.lst [.lst (c.map .int),.int (a+1),.int r,.bl w])):=by
 let#[q,g,j]:=fill k n c d a p o f st h;have y:(1+q%4093).natAbs<18446744073709551616:=()
 have b:∀st,ex (yc T (k+2)) [AA (.loc n),AA (.int m),AA (.int t),u] st (.aug 2 .add (.cst (.int 1)))=.nx [AA (.loc n),AA (.int m),AA (.int (t+1)),u] st:=λst=>by rw[zq6 (x:=.int t) rfl];simp[IC.ve1,R.fl,ybE,yq,binI,nxO]
 cases g
 .refine#[q,AB,?_];simp! [ybK,yaa,b,yaz,nxO,R.fl,R.bind,j,ybE,yq,binI,Dl,rdS h,idxV,yaV,at?,ixI,yaA,toR,yp,ybQ,onF,yaE];simp[rdS h]
 .by_cases l:q<m*4096
  .refine#[q+m*4096*(1+q%4093),AC,?_];simp! [ybK,yaa,b,yaz,nxO,R.fl,R.bind,j,ybE,yq,binI,Dl,rdS h,idxV,yaV,at?,ixI,yaA,toR,yp,ybQ,onF,yaE,stO,ybl];simp[rdS h,l,y]
  .refine#[q,AC,?_];simp! [ybK,yaa,b,yaz,nxO,R.fl,R.bind,j,ybE,yq,binI,Dl,rdS h,idxV,yaV,at?,ixI,yaA,toR,yp,ybQ,onF,yaE];simp[rdS h,l]
def zfH(k:IL){n:IL}{d:IK IM}(b:d.length<=1000){m:IM}{u:Option PV}:∀(r N:IL)(t a p:IM)f(st:SO),r<=N->64-t<=r->0<=a->st[n]?=AA (.lst [.lst (d.map .int),.int a,.int p,.bl f]) ->
  ∃j g l o,0<=g/\yaP (yc T (k+2)) ybk ybK (N+1) [AA (.loc n),AA (.int m),AA (.int t),u] st=.nx [AA (.loc n),AA (.int m),AA (.int j),u] (st.set n (.lst [.lst (d.map .int),.int g,.int l,.bl o]))
 |r,N,t,a,p,f,st,J,x,q,h=>by
  let#[B,w,y]:=zjS (c:=yc T (k+2)) (m:=m) (t:=t) (u:=u) h;have A:st.set n (.lst [.lst (d.map .int),.int a,.int p,.bl f])=st:=by
   refine Ea λi=>?_;rw[CO];split
   .rename_i e;subst e;split
    .exact h.symm
    .rename_i z;rw[BD ()]at h
     cases h
   .rfl
  cases B with
  |false=>exact#[t,a,p,f,q,by rw[zgM w rfl,A]]
  |true=>
   have C:=y rfl
   match r,N with
   |0,_=>exact IU x ()
   |r+1,N+1=>
    let#[D,E,G]:=zim k b (m:=m) (t:=t) q (u:=u) h;let#[j,g,l,o,H,I]:=zfH k b (m:=m) (u:=u) r N (t+1) (a+1) D E _ () () () (rdS h);refine#[j,g,l,o,H,?_];rw[ziU w rfl G,I,Co]
theorem take(k n:IL)(j:IK IM)(l:j.length<=1000)(a p m:IM)(r:0<=a)(o:0<m)(b:m<10000000000000000000000000000000000000000000000000000000000000000000000)(f)(st:SO)(h:st[n]?=AA (.lst [.lst (j.map .int),.int a,.int p,.bl f])):
  ∃d c g q,0<=d/\d<m/\0<=c/\yc T (k+3) yfU [.loc n,.int m] st=.ok (.int d) (st.set n (.lst [.lst (j.map .int),.int c,.int g,.bl q])):=by let#[z,c,g,q,t,w]:=zfH k l (m:=m) (u:=AD) 64 99999 0 a p f st () () r h;refine#[g%m,c,g/m,q,B8 _ (),BQ _ o,t,?_];have x:yaa.body=.cons (.asg (.n 2) (.cst (.int 0))) (.cons (.while ybk ybK) (.cons (.asg (.n 3) (.bin .mod (.idx (.var 0) (.cst (.int 2))) (.var 1))) (.cons (.six (.var 0) (.cst (.int 2)) (.bin .fdiv (.idx (.var 0) (.cst (.int 2))) (.var 1))) (.cons (.ret (.var 3)) .nil)))):=rfl;have y:T yfU=AA #[2,4,AB,yaa.body]:=rfl;rw[yc,y,x];simp! [znW,yaz,nxO,stO,R.fl,R.bind,yH,w,rdS h,idxV,yaV,at?,ixI,yq,binI,o,b,and_self,toR,ybl];simp[rdS h,o,b]
def Drw(b:IK IM)(n:IL)(st:SO):Prop:=∃a p f,0<=a/\st[n]?=AA (.lst [.lst (b.map .int),.int a,.int p,.bl f])
def Onl(c:IK IM)(n:IL)(st b:SO):Prop:=∃a p f,0<=a/\b=st.set n (.lst [.lst (c.map .int),.int a,.int p,.bl f])
theorem Onl.drw{d:IK IM}{n:IL}{st c:SO}(h:Drw d n st)(o:Onl d n st c):Drw d n c:=by let#[a,p,f,l,h]:=h;let#[b,q,g,j,rfl]:=o;exact#[b,q,g,j,rdS h]
theorem Onl.trans{f:IK IM}{n:IL}{st a d:SO}(o:Onl f n st a)(l:Onl f n a d):Onl f n st d:=by let#[b,q,g,p,rfl]:=o;let#[c,r,j,m,rfl]:=l;exact#[c,r,j,m,by rw[Co]]
def zjz(k:IL){n:IL}{c:IK IM}(g:c.length<=1000){m:IM}(l:0<m)(j:m<10000000000000000000000000000000000000000000000000000000000000000000000){st}(h:Drw c n st):
  ∃d b,0<=d/\d<m/\Onl c n st b/\yc T (k+3) yfU [.loc n,.int m] st=.ok (.int d) b:=by let#[a,p,f,o,h]:=h;let#[d,w,x,y,q,r,t,u]:=take k n c g a p m o l j f st h;exact#[d,_,q,r,#[_,_,_,t,rfl],u]
theorem sizes(k:IL){n:IL}{c:IK IM}(a:c.length<=1000){m:IM}(g:0<m)(j:m<=100){st}(h:Drw c n st):
  ∃w z b,4<=w/\w<=16/\1<=z/\z<=m/\Onl c n st b/\yc T (k+4) ykc [.loc n,.int m] st=.ok (.tup [.int w,.int z]) b:=by let#[d,t,u,x,f,l]:=zjz k a (m:=13) () () h;let#[e,o,y,A,p,q]:=zjz k a (m:=m) g () (f.drw h);refine#[4+d,1+e,o,(),(),(),(),f.trans p,?_];have r:T ykc=AA yji:=rfl;rw[yc,r];simp! [yji,yaz,R.fl,R.bind,l,q,yq,binI,toR];simp[sizeMax]
theorem fresh(k:IL)(a:IK IM)(h:a.length<=63)(st:SO):∃v,yc T (k+1) yka [.scr (a.map .int)] st=.ok (.loc st.length) (st++[v])/\v=.lst [.lst (a.map .int),.int 0,.int 0,.bl AB]:=by
 have b:T yka=AA yjh:=rfl;refine#[_,?_,rfl];rw[yc,b];simp! [yjh,yaz,IC.ve1,IC.ve2,IC.ve3,IC.ve4,IC.ve5,IC.ve6,IC.ve7,IC.ve8,IC.ve9,IC.ve10,IC.ve11,IC.ve12,IC.ve13,IC.ve15,IC.ve16,IC.ve17,IC.ve18,IC.ve19,IC.ve20,IC.ve21,IC.ve22,IC.vxq21,IC.ve24,IC.ve25,IC.ve26,IC.ve28,IC.ve29,IC.ve30,IC.ve32,IC.ve33,IC.ve35,IC.ve36,IC.ve37,R.fl,R.bind,toR];have c:yck (.scr (a.map PV.int)) AD (.int 63)=AA (.lst (a.map .int)):=by
  have d:ybc a.length 63=a.length:=by show min 63 a.length=a.length;lia
  simp[yck,ybX,ybO,cut,ycH,ydd,d]
  try rw[<-Aq (f:=PV.int),Gg]
 simp[ybX,onP,c,sizeMax]
theorem dbl{call}{i j:IL}(b:i≠j):∀(N:IL)(a:IM)(U:IC.Env)(v:IM)(st:SO),U[i]?=AA (AA (.int v)) ->
  ∃u,yaT call (.n j) (.cons (.asg (.n i) (.bin .mul (.cst (.int 2)) (.var i))) .nil) (yr N a 1) U st=.nx ((U.set i (AA (.int (2^N*v)))).set j u) st/\(N=0->U[j]?=AA u \/ U.length<=j)
 |0,a,U,v,st,h=>by
  have f:U.set i (AA (.int v))=U:=by
   refine Ea λz=>?_;rw[CO];split
   .rename_i e;subst e;split
    .exact h.symm
    .rw[BD ()]at h
     cases h
   .rfl
  rcases DP j U.length with c|c
  .refine#[U[j],?_,λ_=>.inl (Cz c)];rw[yr,zJ,G8,EZ,f,IK.set_getElem_self]
  .refine#[AD,?_,λ_=>.inr c];rw[yr,zJ,G8,EZ,f,IK.set_eq_of_length_le c]
 |N+1,a,U,v,st,h=>by
  have g:(U.set j (AA (.int a)))[i]?=AA (AA (.int v)):=by rw[AM (Ax b)];exact h
  have d:i<U.length:=by
   rcases DP i U.length with z|z
   .exact z
   .rw[BD z]at h;cases h
  have l:exs call (U.set j (AA (.int a))) st (.cons (.asg (.n i) (.bin .mul (.cst (.int 2)) (.var i))) .nil)=.nx ((U.set j (AA (.int a))).set i (AA (.int (2*v)))) st:=by erw[xs_nil,xs_cons,x_asg,yaz,nxO,IC.ve1,IC.ve2,IC.ve3,R.bind,R.fl,g,yH,yq,binI,yaA,toR];simp
  let#[u,m,_]:=dbl (call:=call) b N (a+1) ((U.set j (AA (.int a))).set i (AA (.int (2*v)))) (2*v) st (by rw[Ac (by rw[BY];exact d)]);refine#[u,?_,λz=>by cases z];rw[yr,zy (U1:=U.set j (AA (.int a))) rfl,l];show yaT call _ _ _ _ _=_;rw[m,Co,HS _ _ (Ax b),Co,CS,IM.mul_assoc]
def zfm(K:IL):(0:IM)<2^K:=Bq ()
def yJ:Css:=match yV.body with
 |.cons _ (.cons _ (.cons _ r))=>r
 |_=>.nil
def wT2:Css:=match yJ with
 |.cons _ (.cons _ (r))=>r
 |_=>.nil
theorem wE2:yJ=(match yJ with
 |.cons a (.cons b (_))=>.cons a (.cons b (wT2))
 |_=>.nil):=rfl
def wT4:Css:=match yJ with
 |.cons _ (.cons _ (.cons _ (.cons _ (r))))=>r
 |_=>.nil
theorem wE4:yJ=(match yJ with
 |.cons a (.cons b (.cons c (.cons d (_))))=>.cons a (.cons b (.cons c (.cons d (wT4))))
 |_=>.nil):=rfl
def wT5:Css:=match yJ with
 |.cons _ (.cons _ (.cons _ (.cons _ (.cons _ (r)))))=>r
 |_=>.nil
theorem wE5:yJ=(match yJ with
 |.cons a (.cons b (.cons c (.cons d (.cons f (_)))))=>.cons a (.cons b (.cons c (.cons d (.cons f (wT5)))))
 |_=>.nil):=rfl
def wT6:Css:=match yJ with
 |.cons _ (.cons _ (.cons _ (.cons _ (.cons _ (.cons _ (r))))))=>r
 |_=>.nil
theorem wE6:yJ=(match yJ with
 |.cons a (.cons b (.cons c (.cons d (.cons f (.cons g (_))))))=>.cons a (.cons b (.cons c (.cons d (.cons f (.cons g (wT6))))))
 |_=>.nil):=rfl
def zh6{c}{n:IL}{w z kd m:IM}{u5 u6 u7 u8 u9 u10 u11 u12:Option PV}{st}(g:0<=kd)(a:kd<6)(j:16<=m):
  ∃x,0<=x/\x<m/\exs c [AA (.loc n),AA (.int w),AA (.int z),AA (.int kd),AA (.int m),u5,u6,u7,u8,u9,u10,u11,u12] st yJ=.rt (.int x) st:=by
 obtain⟨x,b,d,f⟩:∃x:IM,0<=x/\x<m/\∀st,idxV st (.tup [.int 0,.int 1,.int (m-1),.int (m/2),.int (m/2-1),.int (m-2)]) (.int kd)=AA (.int x):=by
  rcases (by lia:kd=0 \/ kd=1 \/ kd=2 \/ kd=3 \/ kd=4 \/ kd=5)with rfl|rfl|rfl|rfl|rfl|rfl
  .exact#[0,(),(),λ_=>rfl]
  .exact#[1,(),(),λ_=>rfl]
  .exact#[m-1,(),(),λ_=>rfl]
  .exact#[m/2,(),(),λ_=>rfl]
  .exact#[m/2-1,(),(),λ_=>rfl]
  .exact#[m-2,(),(),λ_=>rfl]
 refine#[x,b,d,?_];rw[wE2];erw[yJ,yV,A7,By,Dr,Fz,IV,xs_cons,xs_nil,x_asg,x_ite,x_ret,IC.ve1,IC.ve2,IC.ve3,IC.ve8,IC.ve11,IC.ve16,IC.ve18,IC.vsq0,IC.vsq1,BK,Ar,bd_ok,fl_ok,toR_some,bT_n,nxO_some,th_nx,th_rt,BO,BP,t_bl,on_t,sizeMax,Go,b_sub,b_div2,c_lt,c_eq,c_gt,Il,Io,f,a,Im]
def zjA(k:IL){n:IL}{b:IK IM}(c:b.length<=1000){w z kd m:IM}{u5 u6 u7 u8 u9 u10 u11 u12:Option PV}{st}(h:Drw b n st)(f:9<kd)(y:16<=m)(g:m<=18446744073709551616):
  ∃x a,0<=x/\x<m/\Onl b n st a/\exs (yc T (k+3)) [AA (.loc n),AA (.int w),AA (.int z),AA (.int kd),AA (.int m),u5,u6,u7,u8,u9,u10,u11,u12] st yJ=.rt (.int x) a:=by let#[d,j,l,o,p,q]:=zjz k c (m:=m) () () h;refine#[d,j,l,o,p,?_];have r:decide (kd<6)=false:=IT ();have t:(kd==6)=false:=IP.2 ();have u:(kd==7)=false:=IP.2 ();rw[wE6];erw[yJ,yV,A7,By,Dr,Fz,IV,xs_cons,xs_nil,x_asg,x_ite,x_ret,IC.ve1,IC.ve2,IC.ve3,IC.ve8,IC.ve11,IC.ve16,IC.ve18,IC.vsq0,IC.vsq1,BK,Ar,bd_ok,fl_ok,toR_some,bT_n,nxO_some,th_nx,th_rt,BO,BP,t_bl,on_t,sizeMax,Go,b_sub,b_div2,c_lt,c_eq,c_gt,Il,Io,q,f,Im,r,t,u]
def zhZ(k:IL){n:IL}{r:IK IM}(b:r.length<=1000){w z kd m:IM}{u5 u6 u7 u8 u9 u10 u11 u12:Option PV}{st}(h:Drw r n st)(Q:kd=6 \/ kd=7)(U:4<=w)(t:w<=16)(X:1<=z)(y:z<=4)(A:m=2^(w*z).toNat):
  ∃x c,0<=x/\x<m/\Onl r n st c/\exs (yc T (k+3)) [AA (.loc n),AA (.int w),AA (.int z),AA (.int kd),AA (.int m),u5,u6,u7,u8,u9,u10,u11,u12] st yJ=.rt (.int x) c:=by
 have B:4<=w*z:=by have:=HP U X () ();lia
 have f:w*z<=64:=by have:=HP t y () ();lia
 have Y:0<m:=A ▸ zfm _;have Z:m<=18446744073709551616:=by
  have h64:(2:IL)^(w*z).toNat<=2^64:=Aj () ();have g:((2^(w*z).toNat:IL):IM)=2^(w*z).toNat:=by simp
  rw[A,<-g];lia
 let#[d,s1,d1,d2,C,J]:=zjz k b (m:=m) () () h;let#[e,q,d3,d4,L,M]:=zjz k b (m:=w*z) () () (C.drw h);have hj:(2:IM)^e.toNat<m:=by rw[A];exact IM.pow_lt_pow_of_lt () ()
 have D:=zfm e.toNat;have E:(2:IM)^e.toNat<10000000000000000000000000000000000000000000000000000000000000000000000:=()
 have l:((2:IM)^e.toNat).natAbs<18446744073709551616:=()
 have G:(2:IL)^e.toNat<18446744073709551616:=by
  have g:((2^e.toNat:IL):IM)=2^e.toNat:=by simp
  lia
 have o:w.natAbs<18446744073709551616:=()
 have p:e.natAbs<1000000000:=()
 have N:yby (.int e)=AA (yr e.toNat 0 1):=by erw[yby,p,IV]
 have q1:=zjV (i:=d) D ();have q2:yq .mul (.int (d/2^e.toNat)) (.int (2^e.toNat))=AA (.int (d/2^e.toNat*2^e.toNat)):=zep l;have O:yq .mul (.int w) (.int z)=AA (.int (w*z)):=zaW o
 clear E G p o l B f
 rcases Q with rfl|rfl
 .let#[u,a,_]:=dbl (call:=yc T (k+3)) (i:=8) (j:=5) () e.toNat 0 [AA (.loc n),AA (.int w),AA (.int z),AA (.int 6),AA (.int m),u5,AA (.tup [.int 0,.int 1,.int (m-1),.int (m/2),.int (m/2-1),.int (m-2)]),AA (.int d),AA (.int 1),u9,u10,u11,u12] 1 q rfl;refine#[d/2^e.toNat*2^e.toNat,q,EO (FR d1 ()) (),IM.lt_of_le_of_lt (IM.ediv_mul_le d ()) d2,C.trans L,?_];have H:decide ((6:IM)<6)=false:=rfl;have I:((6:IM)==6)=true:=rfl;rw[Cf]at a;rw[wE4];generalize wT4=F,(2:IM)^e.toNat=P at *;erw[IC.PV.tup]at a;simp! [yJ,yV,J,H,I,O,M,N,a,q1,q2]
 .let#[u,a,_]:=dbl (call:=yc T (k+3)) (i:=8) (j:=5) () e.toNat 0 [AA (.loc n),AA (.int w),AA (.int z),AA (.int 7),AA (.int m),u5,AA (.tup [.int 0,.int 1,.int (m-1),.int (m/2),.int (m/2-1),.int (m-2)]),AA (.int d),AA (.int 1),u9,u10,u11,u12] 1 q rfl;refine#[m-2^e.toNat,q,(),(),C.trans L,?_];have H:decide ((7:IM)<6)=false:=rfl;have I:((7:IM)==6)=false:=rfl;have k3:((7:IM)==7)=true:=rfl;rw[Cf]at a;rw[wE5];generalize wT5=F,(2:IM)^e.toNat=P at *;erw[IC.PV.tup]at a;simp! [yJ,yV,J,H,I,k3,O,M,N,a]
theorem Drw.refl{b:IK IM}{n:IL}{st:SO}(h:Drw b n st):Onl b n st st:=by let#[a,p,f,c,h]:=h;exact#[a,p,f,c,zkg h]
def ybB:Css:=match yJ with
 |.cons _ (.cons _ (.cons _ (.cons _ (.cons _ (.cons _ (.cons _ (.cons _ (.cons _ (.cons (.for _ _ b) _)))))))))=>b
 |_=>.nil
def zhQ(k:IL){n:IL}{f:IK IM}(g:f.length<=1000){p1 p2 p3 p4 p6 p8 u11 u12:Option PV}{d W acc a:IM}{st}(h:Drw f n st)(E:0<=a)(r:a<1000)(G:4<=W)(u:W<18446744073709551616):
  ∃e b j l,0<=e/\e<W/\Onl f n st b/\exs (yc T (k+3)) [AA (.loc n),p1,p2,p3,p4,AA (.int a),p6,AA (.int d),p8,AA (.int W),AA (.int acc),u11,u12] st ybB=.nx [AA (.loc n),p1,p2,p3,p4,AA (.int a),p6,AA (.int d),p8,AA (.int W),AA (.int (acc*W+e)),j,l] b:=by
 let#[t,w,H,I,x,y]:=zjz k g (m:=5) () () h;have c:0<W:=()
 have o:W.natAbs<18446744073709551616:=()
 have p:0<a+1:=()
 have q:a+1<18446744073709551616*18446744073709551616:=()
 have z:=B8 (d/(a+1)) (show W≠0 by lia);have A:=BQ (d/(a+1)) c;obtain⟨e,B,C,D⟩:∃e:IM,0<=e/\e<W/\∀st,idxV st (.tp AB [.int 0,.int 1,.int (W-1),.int (W/2),.int (d/(a+1)%W)]) (.int t)=AA (.int e):=by
  rcases (by lia:t=0 \/ t=1 \/ t=2 \/ t=3 \/ t=4)with rfl|rfl|rfl|rfl|rfl
  .exact#[0,(),(),λ_=>rfl]
  .exact#[1,(),(),λ_=>rfl]
  .exact#[W-1,(),(),λ_=>rfl]
  .exact#[W/2,(),(),λ_=>rfl]
  .exact#[d/(a+1)%W,z,A,λ_=>rfl]
 refine#[e,w,AA (.int (d/(a+1)%W)),AA (.tp AB [.int 0,.int 1,.int (W-1),.int (W/2),.int (d/(a+1)%W)]),B,C,x,?_];simp! [ybB,yJ,yV,zjV p q,zmz c,zep o,y,D]
def zeR(k:IL){n:IL}{m:IK IM}(g:m.length<=1000){p1 p2 p3 p4 p6 p8:Option PV}{d W:IM}(t:4<=W)(j:W<18446744073709551616):∀(r i:IL) (a acc:IM) (u5 u11 u12:Option PV) (st:SO),0<=a->a+r<1000->0<=acc->acc<W^i->Drw m n st ->
  ∃b l x c f,0<=b/\b < W^(i+r)/\Onl m n st l/\yaT (yc T (k+3)) (.n 5) ybB (yr r a 1) [AA (.loc n),p1,p2,p3,p4,u5,p6,AA (.int d),p8,AA (.int W),AA (.int acc),u11,u12] st=.nx [AA (.loc n),p1,p2,p3,p4,x,p6,AA (.int d),p8,AA (.int W),AA (.int b),c,f] l
 |0,i,a,acc,u5,u11,u12,st,_,_,o,u,h=>#[acc,st,u5,u11,u12,o,u,h.refl,by rw[yr,zJ]]
 |r+1,i,a,acc,u5,u11,u12,st,y,J,o,u,h=>by
  let#[e,z,c,f,L,M,w,A]:=zhQ k g (p1:=p1) (p2:=p2) (p3:=p3) (p4:=p4) (p6:=p6) (p8:=p8) (u11:=u11) (u12:=u12) (d:=d) (acc:=acc) h y () t j;have B:acc*W+e<W^(i+1):=by have:=C3 (show acc<=W^i-1 by lia) (show 0<=W by lia);rw[IM.sub_mul,EZ]at this;rw[CS];lia
  have C:0<=acc*W:=EO o ();let#[b,D,E,p,q,G,H,I,hf]:=zeR k g (p1:=p1) (p2:=p2) (p3:=p3) (p4:=p4) (p6:=p6) (p8:=p8) (d:=d) t j r (i+1) (a+1) (acc*W+e) (AA (.int a)) c f z () () () B (w.drw h);refine#[b,D,E,p,q,G,by rw[show i+(r+1)=i+1+r by lia];exact H,w.trans I,?_];rw[yr,zy (U1:=[AA (.loc n),p1,p2,p3,p4,AA (.int a),p6,AA (.int d),p8,AA (.int W),AA (.int acc),u11,u12]) rfl,A];exact hf
def zgJ(k:IL){n:IL}{A:IK IM}(l:A.length<=1000){w z:IL}{kd m:IM}{u5 u6 u7 u8 u9 u10 u11 u12:Option PV}{st}(h:Drw A n st)(hk:kd=8 \/ kd=9)(hw:4<=w)(o:w<=16)(hz:1<=z)(B:z<=4)(C:m=2^(w*z)):
  ∃x p,0<=x/\x<m/\Onl A n st p/\exs (yc T (k+3)) [AA (.loc n),AA (.int w),AA (.int z),AA (.int kd),AA (.int m),u5,u6,u7,u8,u9,u10,u11,u12] st yJ=.rt (.int x) p:=by
 have q:w*z<=64:=Ay o B;have L:0<m:=C ▸ zfm _;have M:m<=18446744073709551616:=by have N:(2:IL)^(w*z)<=2^64:=Aj () q;rw[C,<-pw];lia
 let#[d,G,d1,d2,H,O]:=zjz k l (m:=m) () () h;have D:(4:IM)<=2^w:=by have h:(2:IL)^2<=2^w:=Aj () ();have Q:=pw w;lia
 have E:(2:IM)^w<18446744073709551616:=by have h:(2:IL)^w<=2^16:=Aj () o;have Q:=pw w;lia
 have U:yby (.int (w:IM))=AA (yr w 0 1):=zcU w ();have X:yby (.int (z:IM))=AA (yr z 0 1):=zcU z ();have Y:¬kd<6:=()
 have Z:(kd==6)=false:=by simp;lia
 have k3:(kd==7)=false:=by simp;lia
 have k4:¬9<kd:=()
 let#[u,I,_]:=dbl (call:=yc T (k+3)) (i:=9) (j:=5) () w 0 [AA (.loc n),AA (.int w),AA (.int z),AA (.int kd),AA (.int m),u5,AA (.tup [.int 0,.int 1,.int (m-1),.int (m/2),.int (m/2-1),.int (m-2)]),AA (.int d),u8,AA (.int 1),u10,u11,u12] 1 G rfl;erw[BO,BP,Cf]at I;let#[y,s2,w5,w11,w12,f0,J,o2,hf]:=zeR k l (p1:=AA (.int w)) (p2:=AA (.int z)) (p3:=AA (.int kd)) (p4:=AA (.int m)) (p6:=AA (.tup [.int 0,.int 1,.int (m-1),.int (m/2),.int (m/2-1),.int (m-2)])) (p8:=u8) (d:=d) (W:=2^w) D E z 0 0 0 u u11 u12 G () () () (by simp) (H.drw h);rw[Dr,<-Hz,<-C]at J;refine#[y,s2,f0,J,H.trans o2,?_]
 have hR:yJ=.cons (.asg (.n 6) (.tup (.cons (.cst (.int 0)) (.cons (.cst (.int 1)) (.cons (.bin .sub (.var 4) (.cst (.int 1))) (.cons (.bin .fdiv (.var 4) (.cst (.int 2))) (.cons (.bin .sub (.bin .fdiv (.var 4) (.cst (.int 2))) (.cst (.int 1))) (.cons (.bin .sub (.var 4) (.cst (.int 2))) .nil)))))))) (match yJ with
  |.cons _ (.cons a (.cons b (.cons c (.cons d (.cons e (.cons f (.cons g (.cons h (.cons (.for t i _) r)))))))))=>.cons a (.cons b (.cons c (.cons d (.cons e (.cons f (.cons g (.cons h (.cons (.for t i ybB) r))))))))
  |_=>.nil):=rfl
 rw[hR];simp! [yJ,yV,U,X,Y,Z,k3,k4,Ij,O,I,hf]
theorem worth(k:IL){n:IL}{y:IK IM}(f:y.length<=1000)(w z:IL)(G:4<=w)(l:w<=16)(H:1<=z)(o:z<=4){st}(h:Drw y n st):
  ∃x d,0<=x/\x<2^(w*z)/\Onl y n st d/\yc T (k+4) ykd [.loc n,.int w,.int z] st=.ok (.int x) d:=by
 let#[g,p,M,d2,I,N]:=zjz k f (m:=12) () () h;have A:=I.drw h;have r:w*z<=64:=Ay l o;have B:4<=w*z:=Ay G H;have J:(16:IM)<=2^(w*z):=by have h:(2:IL)^4<=2^(w*z):=Aj () B;have O:=pw (w*z);lia
 have C:(2:IM)^(w*z)<=18446744073709551616:=by have h:(2:IL)^(w*z)<=2^64:=Aj () r;have O:=pw (w*z);lia
 have D:(w:IM).natAbs<18446744073709551616:=()
 have t:(w:IM)*(z:IM)=((w*z:IL):IM):=by simp
 have Q:yby (.int ((w*z:IL):IM))=AA (yr (w*z) 0 1):=zcU _ ();let#[u,L,_]:=dbl (call:=yc T (k+3)) (i:=4) (j:=5) () (w*z) 0 [AA (.loc n),AA (.int w),AA (.int z),AA (.int g),AA (.int 1),AD,AD,AD,AD,AD,AD,AD,AD] 1 p rfl;erw[BO,BP,Cf]at L;have E:∃x d,0<=x/\x<2^(w*z)/\Onl y n p d/\exs (yc T (k+3)) [AA (.loc n),AA (.int w),AA (.int z),AA (.int g),AA (.int (2^(w*z))),u,AD,AD,AD,AD,AD,AD,AD] p yJ=.rt (.int x) d:=by
  rcases (by lia:g<6 \/ (g=6 \/ g=7) \/ (g=8 \/ g=9) \/ 9<g)with q|q|q|q
  .let#[x,a,b,e]:=zh6 (c:=yc T (k+3)) (n:=n) (w:=w) (z:=z) (st:=p) (u5:=u) (u6:=AD) (u7:=AD) (u8:=AD) (u9:=AD) (u10:=AD) (u11:=AD) (u12:=AD) M q J;exact#[x,p,a,b,A.refl,e]
  .exact zhZ k f A q () () () () (by rw[t,CN])
  .exact zgJ k f A q G l H o rfl
  .exact zjA k f A q J C
 let#[x,U,a,b,X,Y]:=E;refine#[x,U,a,b,I.trans X,?_];have Z:T ykd=AA #[3,13,AB,yV.body]:=rfl;have hb:yV.body=.cons (.asg (.n 3) (.call 146 (.cons (.var 0) (.cons (.cst (.int 12)) .nil)))) (.cons (.asg (.n 4) (.cst (.int 1))) (.cons (.for (.n 5) (.range1 (.bin .mul (.var 1) (.var 2))) (.cons (.asg (.n 4) (.bin .mul (.cst (.int 2)) (.var 4))) .nil)) yJ)):=rfl;rw[yc,Z,hb];erw[A7,By,Dr,Fz,IV,B9,Ib,AO,BV,Ej,Av,Bd,CM];rw[xs_cons,x_asg];erw[IC.ve18,IC.ve1,IC.ve2,IC.vsq0,IC.vsq1,BK,Ar,bd_ok,fl_ok,N,bT_n,nxO_some,th_nx,BO,BP];rw[xs_cons,x_asg];erw[IC.ve1,bd_ok,fl_ok,bT_n,nxO_some,th_nx,BO,BP];rw[xs_cons,x_for];erw[IC.vjq0,IC.vjq1,IC.vjq2,IC.vjq3,IC.vjq4,IC.vjq5,IC.vjq6,IC.vjq7,IC.vjq8,IC.ve2,IC.ve3,BK,Ar,bd_ok,fl_ok,zaW D,t,Q,toL,toR_some,L,th_nx,Y]
def zgX{i:IM}(h:i.natAbs<2^1000):∃y,ybS (.int i)=AA y/\y.length<=2000:=by
 have a:i.natAbs.log2<1920:=by
  by_cases b:i.natAbs=0
  .rw[b];decide
  .exact(Hx b).mpr (A4 h (Aj () ()))
 refine#[AE (toString i),by erw[ybS];rw[IR a],?_];rw[PySem.ofString_length];have:=PySem.int_text_length_le (k:=1920) ⋯ a;lia
def ze5{s:AL}(h:s.length<=2000):∃y,ybS (.str s)=AA y/\y.length<=2000:=#[s,by erw[ybS];rw[IR ()],h]
def zjf:∀(vs:IK PV) (out:AL),(∀v∈vs,∃y,ybS v=AA y/\y.length<=2000)->out.length+2000*vs.length<=16777216->∃z,yce out vs=AA z
 |[],out,_,h=>#[out,by rw[yce,IR (by simpa using h)]]
 |v::vs,out,a,h=>by let#[y,e,l]:=a v Af;have d:(out++y).length=out.length+y.length:=PySem.Str.length_append out y;rw[A7]at h;let#[z,b]:=zjf vs (out++y) (λu c=>a u (AU _ c)) ();exact#[z,by rw[yce,e];show (if _ then _ else _)=_;rw[IR ()];exact b]
def zjR{vs:IK PV}(st)(a:∀v∈vs,∃y,ybS v=AA y/\y.length<=2000)(h:vs.length<=8000):∃z,ydy (.ok vs st)=.ok (.str z) st:=by let#[z,e]:=zjf vs DD a (by show 0+_<=_;lia);exact#[z,by erw[ydy,e]]
def sgd(T x:IM):IM:=if T<=2*x then x-T else x
def yfR(T s:IM):IQ:=decide (0-T<=2*s)&&decide (2*s<T)
def zew{i:IM}{j:IL}:yq .shr (.int i) (.int (j:IM))=AA (.int (i/2^j)):=by erw[yq,binI];rw[IR ()];simp
def zoh{i:IM}{j:IL}(h:i.natAbs<18446744073709551616)(b:j<=1000):yq .shl (.int i) (.int (j:IM))=AA (.int (i*2^j)):=by have a:(0:IM)<=j/\(j:IM)<=1000000/\i.natAbs<18446744073709551616:=#[(),(),h];show (if (0:IM)<=j/\(j:IM)<=1000000/\i.natAbs<18446744073709551616 then AA (PV.int (i*2^(j:IM).toNat))else AD)=_;rw[IR a];rfl
def zp5(k:IL){x a b u v r:IM}(c:a-1=b)(d:yq .shr (.int x) (.int b)=AA (.int u))(f:yq .shl (.int u) (.int a)=AA (.int v))(g:x-v=r)(st:SO):yc T (k+1) ym [.int x,.int a] st=.ok (.int r) st:=by have j:T ym=AA yi1:=rfl;rw[zc j rfl rfl rfl];simp! [yi1,c,d,f,g];rfl
def zqB(k:IL){s a b h:IM}{f:IQ}(g:a-1=b)(j:yq .shl (.int 1) (.int b)=AA (.int h))(c:(decide (-h<=s)&&decide (s<h))=f)(st:SO):yc T (k+1) yfI [.int s,.int a] st=.ok (.int (bi (!f))) st:=by
 have l:T yfI=AA yih:=rfl;rw[zc l rfl rfl rfl]
 cases d:decide (-h<=s)with
 |false=>
  rw[d,HD]at c;subst c;simp! [yih,g,j,d,blO];rfl
 |true=>
  rw[d,Cy]at c;subst c
  cases m:decide (s<h)<;>simp! [yih,g,j,d,m,blO]<;>rfl
def zaq(k:IL){K:IL}(g:1<=K)(c:K<=64){x:IM}(d:0<=x)(f:x<2^K)(st:SO):yc T (k+1) ym [.int x,.int K] st=.ok (.int (sgd (2^K) x)) st:=by
 obtain⟨j,rfl⟩:∃j,K=j+1:=#[K-1,()];have p:(0:IM)<2^j:=Bq ();have e:(2:IM)^(j+1)=2*2^j:=by rw[CS,Cq]
 have a:x/2^j=if 2*2^j<=2*x then 1 else 0:=by
  rw[e]at f;split
  .have l:1<=x/2^j:=IM.le_ediv_of_mul_le p ();have m:x/2^j<2:=DU p ();lia
  .exact IM.ediv_eq_zero_of_lt d ()
 refine zp5 k (b:=(j:IM)) () zew (zoh (by rw[a];split<;>lia) ()) ?_ st;rw[a,e];unfold sgd;split
 .rw[EZ]
 .lia
def zrX(k:IL){K:IL}(c:1<=K)(a:K<=1000)(s:IM)(st:SO):yc T (k+1) yfI [.int s,.int K] st=.ok (.int (bi (!yfR (2^K) s))) st:=by
 obtain⟨j,rfl⟩:∃j,K=j+1:=#[K-1,()];have e:(2:IM)^(j+1)=2*2^j:=by rw[CS,Cq]
 refine zqB k (b:=(j:IM)) () (zln j ()) ?_ st;unfold yfR;rw[e]
 congr 1
 .exact decide_eq_decide.2 ()
 .exact decide_eq_decide.2 ()
def zeP{W:IM}(a:0<W):∀(n:IL) (v:IM),(yt W (n+1) v)[n]?=AA (v/W^n%W)
 |0,v=>by simp[yt]
 |n+1,v=>by rw[yt,Ar,zeP a n,Ew (),CS,Cq W]
def zjZ(b:IK IM):anyI (b.map .int)=AA (b.any (· != 0)):=by
 induction b with
 |nil=>rfl
 |cons a b ih=>rw[AO,anyI,ih];rfl
def zos(k:IL){a:IK IM}{w b l r:IM}(c:w-1=b)(d:∀st,idxV st (.tp AB (a.map .int)) (.int (-1))=AA (.int l))(q:yq .shr (.int l) (.int b)=AA (.int r))(st:SO):yc T (k+1) yjm [.tp AB (a.map .int),.int w] st=.ok (.int r) st:=by have f:T yjm=AA yiZ:=rfl;rw[zc f rfl rfl (by simp[nLs,nL,noLocs_ints])];generalize PV.tp AB (a.map .int)=v at *;simp! [yiZ,d,c,q];rfl
abbrev dvv(f us:IK IM)(a b c d:IM):PV:=.tp AB [.tp AB (f.map .int),.tp AB (us.map .int),.tp AB [.int a,.int b,.int c,.int d]]
def zn3(k:IL){d:PV}(j:nL d=AC){s}{w n x y a b c t r z N R:IM}{f us:IK IM}{g}(l:∀st,idxV st d (.int 0)=AA (.str s))(m:yp .eq (.str s) (.str "compare")=AA (.bl AB))(E0:∀st,yc T k yl [d,.int w,.int n,.int x,.int y] st=.ok .non st)(o:∀st,yc T k y6 [d,.int w,.int n,.int x,.int y] st=.ok (.tp AB [.int a,.int b,.int c]) st)
  (p:∀st,yc T k yk [d,.int n] st=.ok (.int N) st) (q:∀st,yc T k y9 [.int a,.int w,.int N] st=.ok (.tp AB (f.map .int)) st) (u:yq .mul (.int y) (.int a)=AA (.int t)) (C:∀st,yc T k yik [d,.int n] st=.ok (.int R) st) (D:∀st,yc T k y9 [.int (x-t),.int w,.int R] st=.ok (.tp AB (us.map .int)) st)
  (E:∀st,yaj .any st [.tp AB (f.map .int)]=AA (.bl g)) (G:(bif g then(0:IM)else 1)=z) (H:∀st,yc T k yjm [.tp AB (f.map .int),.int w] st=.ok (.int r) st) (st:SO):
  yc T (k+1) yet [d,.int w,.int n,.int x,.int y] st=.ok (dvv f us b c z r) st:=by
 have I:T yet=AA #[5,10,AC,yau.body]:=rfl;have J:∀(a b c:PV) (U:IC.Env),yH (.t [5,6,7]) (.tp AB [a,b,c]) U=AA (((U.set 5 (AA a)).set 6 (AA b)).set 7 (AA c)):=λ_ _ _ _=>rfl;rw[zc I rfl rfl (by simp[nLs,nL,j])];dsimp only;have nl:nL (.tp AB (f.map .int))=true:=by simp[nL,noLocs_ints]
 have nl2:nL (.tp AB (us.map .int))=true:=by simp[nL,noLocs_ints]
 unfold dvv;generalize PV.tp AB (f.map .int)=A,PV.tp AB (us.map .int)=B at *
 cases g<;>subst G<;>simp! [yau,E0,l,m,o,J,p,q,u,C,D,E,H]<;>simp[ybq,nL,nLs,nl,nl2]
def ydG(x:IM):IM:=if x<0 then -x else x
def zoY(k:IL){x y K X Y A B q Q o:IM}{b:IQ}(e1:∀st,yc T k ym [.int x,.int K] st=.ok (.int X) st)(e2:∀st,yc T k ym [.int y,.int K] st=.ok (.int Y) st)(n:ydG X=A)(p:ydG Y=B)(d:yq .fdiv (.int A) (.int B)=AA (.int q))(r:(decide (X<0) != decide (Y<0))=b)(c:(if b=AC then 0-q else q)=Q)(f:∀st,yc T k yfI [.int Q,.int K] st=.ok (.int o) st)(st:SO):yc T (k+1) yj8 [.int x,.int y,.int K] st=.ok (.tp AB [.int Q,.int 0,.int o]) st:=by
 have u:T yj8=AA yii:=rfl;have g:∀st,yaj .abs st [.int X]=AA (.int A):=λst=>by rw[<-n];rfl
 have j:∀st,yaj .abs st [.int Y]=AA (.int B):=λst=>by rw[<-p];rfl
 have l:yp .ne (.bl (decide (X<0))) (.bl (decide (Y<0)))=AA (.bl b):=by rw[<-r];cases decide (X<0)<;>cases decide (Y<0)<;>rfl
 have m:∀(a b:PV) (U:IC.Env),yH (.t [3,4]) (.tp AB [a,b]) U=AA ((U.set 3 (AA a)).set 4 (AA b)):=λ_ _ _=>rfl;rw[zc u rfl rfl rfl]
 cases b
 .have c:q=Q:=c;subst c;simp! [yii,e1,e2,m,g,j,d,l,f];rfl
 .have c:0-q=Q:=c;have w:-q=Q:=()
  simp! [yii,e1,e2,m,g,j,d,l,w,f];rfl
def zjs(k:IL){w m:IL}(g:1<=w)(v:IM):∃r:IM,∀st,yc T (k+1) yjm [.tp AB ((yt (2^w) (m+1) v).map .int),.int w] st=.ok (.int r) st:=by
 obtain⟨j,rfl⟩:∃j,w=j+1:=#[w-1,()];have c:(0:IM)<2^(j+1):=Bq ();have d:=zeP c m v;have f:∀st,idxV st (.tp AB ((yt (2^(j+1)) (m+1) v).map .int)) (.int (-1))=AA (.int (v/(2^(j+1):IM)^m%2^(j+1))):=λst=>by have a:=zbj (2^(j+1)) (m+1) v;erw[idxV,yaV,at?,ixI,Aq,a];rw[IS (),IR ()];rw[show ((-1:IM)+((m+1:IL):IM)).toNat=m by lia];simp[d]
 exact#[_,zos k (b:=(j:IM)) () f zew]
theorem upL{k:IL}{f:IL}{fn}{args:IK PV}{v}(a:T f=AA fn)(b:fn.pure=AC)(c:args.length=fn.np)(d:nLs args=AC)(e:yc T 20 f args []=.ok v [])(s:SO):yc T (21+k) f args s=.ok v s:=by have:=zC e (1+k);rw[show 20+(1+k)=20+k+1 by lia]at this;rw[show 21+k=20+k+1 by lia];exact zb5 a b c d this s
def zrY(k:IL){pr q d nm}{w n m:IL}{rs}(D:ybG pr q d w n (m+1) rs)(A:∀st,idxV st d (.int 0)=AA (.str nm))(B:yp .eq (.str nm) (.str "compare")=AA (.bl AB))(C:1<=w)(g:w<=16)(j:n<=4)(E:m+1<=8){x y:IM}(G:0<=x)(H:x<2^(w*n))(I:0<=y)(J:y<2^(w*n))(L:y≠0->pr)(M:y=0->q=AB){a b c:IM}
  (N:∀t,yc T (21+k) y6 [d,.int w,.int n,.int x,.int y] t=.ok (.tp AB [.int a,.int b,.int c]) t):∃O us a b c e,∀st,yc T (22+k) yet [d,.int w,.int n,.int x,.int y] st=.ok (dvv O us a b c e) st:=by
 have l:w*n<=64:=Ay g j;have p:(2:IM)^(w*n)<=2^64:=by have hh:(2:IL)^(w*n)<=2^64:=Aj () l;have h2:=pw (w*n);lia
 have E0:=λt=>zcF k D g () G H I J L M t;have nl2:nLs [d,.int (n:IM)]=true:=by simp[nLs,D.nl,nL]
 have Q:=λs=>upL (k:=k) (f:=yk) (fn:=yT) rfl rfl rfl nl2 D.ans s;have u:=λs=>upL (k:=k) (f:=yik) (fn:=yh3) rfl rfl rfl nl2 D.rest s;obtain⟨R,o,U⟩:∃R:IL,R<=8/\(if q=AC then n else 0)=R:=#[_,by split<;>lia,rfl];rw[U]at u;have X:∀t,yc T (21+k) y9 [.int a,.int w,.int ((m+1:IL):IM)] t=.ok (.tp AB ((yt (2^w) (m+1) a).map .int)) t:=λt=>by rw[show 21+k=20+k+1 by lia];exact lowest (20+k) _ w (m+1) g E t
 have Y:∀t,yc T (21+k) y9 [.int (x-y*a),.int w,.int (R:IM)] t=.ok (.tp AB ((yt (2^w) R (x-y*a)).map .int)) t:=λt=>by rw[show 21+k=20+k+1 by lia];exact lowest (20+k) _ w R g o t
 have Z:yq .mul (.int y) (.int a)=AA (.int (y*a)):=zaW ();have E6:∀t,yaj .any t [.tp AB ((yt (2^w) (m+1) a).map .int)]=AA (.bl ((yt (2^w) (m+1) a).any (· != 0))):=λt=>by show (anyI _).map PV.bl=_;rw[zjZ];rfl
 let#[r,z]:=zjs (20+k) (w:=w) (m:=m) C a;rw[show 20+k+1=21+k by lia]at z;have e:22+k=21+k+1:=()
 have h:=λst=>zn3 (21+k) D.nl A B E0 N Q X Z u Y E6 rfl z st;rw[e];exact#[_,_,_,_,_,_,h]
def zsS(k:IL){pr q d}{w n g:IL}{rs}(D:ybG pr q d w n g rs)(ok:∀r∈rs,ycV r)(j:rs.length<=4000)(b:1<=w)(a:w<=16)(c:n<=4)(f:g<=8){x y:IM}(l:0<=x)(m:x<2^(w*n))(o:0<=y)(p:y<2^(w*n))(t:y≠0->pr)(u:y=0->q=AB):∃v,∀st,yc T (22+k) yhW [d,.int w,.int n,.int x,.int y] st=.ok v st:=
 have z:=zlp (w:=w) b n x y
 #[_,λst=>ran k D a b c f () l m o p t u (zhn b a _ _ _ (λr A=>zqq r (ok r A)) z) st]
def zhs(k:IL)(V:IM)(w n:IL)(a:w<=16)(f:n<=8)(r:¬(0<=V/\V<2^(w*n)))(g:V.natAbs<2^1000)(st:SO):yc T (k+1) yB [.int V,.int w,.int n] st=.exc 0 st:=by
 have j:T yB=AA yhT:=rfl;have l:w*n<=16*8:=Ay a f;have m:=zcP w n ();have o:=zln (w*n) ();let#[z,c]:=zjR [] (vs:=[.int V,.str " is no plain worth of ",.int n,.str " words of width ",.int w]) (λv d=>by
  erw[AS,A9,IX]at d;rcases d with rfl|rfl|rfl|rfl|rfl
  .exact zgX g
  .exact ze5 ∅
  .exact zgX (A4 (show (n:IM).natAbs<2^10 by lia) (Aj () ()))
  .exact ze5 ∅
  .exact zgX (A4 (show (w:IM).natAbs<2^10 by lia) (Aj () ()))) (by simp)
 rw[zc j rfl rfl rfl]
 by_cases h:V<0
 .have b:=IW h;simp! [yhT,b,c];rfl
 .have p:(2:IM)^(w*n)<=V:=()
  have b:=IT h;have q:=IW p;generalize ((w*n:IL):IM)=K,(2:IM)^(w*n)=P at *;simp! [yhT,m,o,b,q,c];rfl
def zlY(k:IL){d w n x y:PV}(a:nLs [d,w,n,x,y]=AC)(h:yc T 20 yA [d] []=.ok (.bl AB) [])(st:SO):yc T (21+k) yl [d,w,n,x,y] st=.exc 6 st:=by have b:T yl=AA yn:=rfl;have c:=zC h k;rw[show 21+k=20+k+1 by lia,zc b rfl rfl a];simp! [yn,c];rfl
def znk(k:IL){pr q d}{w n l:IL}{rs}(D:ybG pr q d w n l rs)(a:w<=16)(b:n<=8){x y:IM}(h:¬(0<=x/\x<2^(w*n)) \/ ¬(0<=y/\y<2^(w*n)))(m:x.natAbs<2^1000)(o:y.natAbs<2^1000)(st:SO):yc T (21+k) yl [d,.int w,.int n,.int x,.int y] st=.exc 0 st:=by
 have p:T yl=AA yn:=rfl;have c:nLs [d,.int w,.int n,.int x,.int y]=true:=by simp[nLs,D.nl,nL]
 have j:=zC D.isd k;rw[show 21+k=20+k+1 by lia,zc p rfl rfl c]
 by_cases g:0<=x/\x<2^(w*n)
 .have h:¬(0<=y/\y<2^(w*n)):=h.elim (λz=>IU g z) id;have f:∀s,yc T (20+k) yB [.int x,.int w,.int n] s=.ok (.tp AB ((yt (2^w) n x).map .int)) s:=λs=>by rw[show 20+k=18+k+2 by lia];exact zbF (18+k) x w n a b g.1 g.2 s
  have r:∀s,yc T (20+k) yB [.int y,.int w,.int n] s=.exc 0 s:=λs=>by rw[show 20+k=19+k+1 by lia];exact zhs (19+k) y w n a b h o s
  generalize yt (2^w) n x=t at *;simp! [yn,j,f,r];rfl
 .have f:∀s,yc T (20+k) yB [.int x,.int w,.int n] s=.exc 0 s:=λs=>by rw[show 20+k=19+k+1 by lia];exact zhs (19+k) x w n a b g m s
  simp! [yn,j,f];rfl
def zmv(k:IL){pr d}{w n j:IL}{rs}(D:ybG pr AC d w n j rs)(f:w<=16)(g:n<=8){x:IM}(l:0<=x)(m:x<2^(w*n))(st:SO):yc T (21+k) yl [d,.int w,.int n,.int x,.int 0] st=.exc 7 st:=by
 have o:T yl=AA yn:=rfl;have a:nLs [d,.int w,.int n,.int x,.int 0]=true:=by simp[nLs,D.nl,nL]
 have p:=zC D.isd k;have b:(0:IM)<2^(w*n):=Bq ⋯;have r:∀s,yc T (20+k) yB [.int x,.int w,.int n] s=.ok (.tp AB ((yt (2^w) n x).map .int)) s:=λs=>by rw[show 20+k=18+k+2 by lia];exact zbF (18+k) x w n f g l m s
 have t:∀s,yc T (20+k) yB [.int 0,.int w,.int n] s=.ok (.tp AB ((yt (2^w) n 0).map .int)) s:=λs=>by rw[show 20+k=18+k+2 by lia];exact zbF (18+k) 0 w n f g () b s
 rw[show 21+k=20+k+1 by lia,zc o rfl rfl a];have q:=D.quo [];have u:((0:IM)==0)=true:=rfl
 cases c:idxV [] d (.int 0)with
 |none=>rw[c]at q;cases q
 |some v=>
  rw[c,BH]at q;generalize yt (2^w) n x=y,yt (2^w) n 0=z at *;simp! [yn,p,r,t,u,c,q];rfl
def ziT(k:IL){d w n x y:PV}{c:IL}(a:nLs [d,w,n,x,y]=AC)(E:∀st,yc T k yl [d,w,n,x,y] st=.exc c st)(st:SO):yc T (k+1) yet [d,w,n,x,y] st=.exc c st:=by have b:T yet=AA #[5,10,AC,yau.body]:=rfl;rw[zc b rfl rfl a];dsimp only;simp! [yau,E];rfl
def zj5(k:IL){d w n x y:PV}{c:IL}(a:nLs [d,w,n,x,y]=AC)(E:∀st,yc T k yl [d,w,n,x,y] st=.exc c st)(st:SO):yc T (k+1) yhW [d,w,n,x,y] st=.exc c st:=by have b:T yhW=AA #[5,7,AC,ybN.body]:=rfl;rw[zc b rfl rfl a];dsimp only;simp! [ybN,E];rfl
def zgp(l:IK IM):ybJ (l.map .int) (l.map .int)=true:=by
 induction l with
 |nil=>rfl
 |cons a l ih=>
  show ((a==a)&&ybJ (l.map .int) (l.map .int))=AC;rw[ih,IZ];rfl
def zfI(n:IL)(l:IK IM):yaU n (l.map .int)=true:=by
 induction l with
 |nil=>rfl
 |cons a l ih=>exact ih
def zrm(f us)(a b c d:IM):yp .ne (dvv f us a b c d) (dvv f us a b c d)=AA (.bl AB):=by
 have h:shp (dvv f us a b c d)=true:=by show (yaU 58 (f.map .int)&&(yaU 58 (us.map .int)&&(AC&&AC)))=AC;rw[zfI,zfI];rfl
 have g:peq (dvv f us a b c d) (dvv f us a b c d)=true:=by show (ybJ (f.map .int) (f.map .int)&&(ybJ (us.map .int) (us.map .int)&&(((a==a)&&((b==b)&&((c==c)&&((d==d)&&AC))))&&AC)))=AC;rw[zgp,zgp];simp
 show (if (shp (dvv f us a b c d)&&shp (dvv f us a b c d))=AC then AA (PV.bl (!peq (dvv f us a b c d) (dvv f us a b c d)))else AD)=_;rw[h,g];rfl
def znf(k:IL){pr q d nm}{w n m:IL}{rs}(D:ybG pr q d w n m rs)(o:∀st,idxV st d (.int 0)=AA (.str nm))(a:nm.length<=2000)(b:yc T 20 yh6 [d] []=.ok (.bl AB) [])(g:w<=16)(j:n<=8){x y:IM}(p:0<=x)(r:x<2^(w*n))(t:0<=y)(u:y<2^(w*n))(c:y≠0)(st:SO):yc T (21+k) yl [d,.int w,.int n,.int x,.int y] st=.exc 0 st:=by
 have A:T yl=AA yn:=rfl;have f:nLs [d,.int w,.int n,.int x,.int y]=true:=by simp[nLs,D.nl,nL]
 have B:=zC D.isd k;have C:=zC b k;have E:∀s,yc T (20+k) yB [.int x,.int w,.int n] s=.ok (.tp AB ((yt (2^w) n x).map .int)) s:=λs=>by rw[show 20+k=18+k+2 by lia];exact zbF (18+k) x w n g j p r s
 have G:∀s,yc T (20+k) yB [.int y,.int w,.int n] s=.ok (.tp AB ((yt (2^w) n y).map .int)) s:=λs=>by rw[show 20+k=18+k+2 by lia];exact zbF (18+k) y w n g j t u s
 let#[z,H]:=zjR [] (vs:=[.str nm,.str " is a deed of one number"]) (λv l=>by
  erw[AS,A9,IX]at l;rcases l with rfl|rfl
  .exact ze5 a
  .exact ze5 ∅) (by simp)
 rw[show 21+k=20+k+1 by lia,zc A rfl rfl f];have c:(y==0)=false:=IP.2 c;generalize yt (2^w) n x=I,yt (2^w) n y=J at *;simp! [yn,B,C,E,G,c,o,H];rfl
def wF:IL->IL
 |0=>yY
 |1=>yet
 |_=>yhW
def wA(d w n x y:PV):IL->IK PV
 |0=>[d]
 |_=>[d,w,n,x,y]
def zdp(k:IL){i:IL}(j:i<3){d w n x y v:PV}(f:nLs [d,w,n,x,y]=AC)(E:∀st,yc T k (wF i) (wA d w n x y i) st=.ok v st)(st:SO):yc T (k+1) yv [.int (i:IM),d,w,n,x,y] st=.ok (.str "told") st:=by
 have g:T yv=AA #[6,8,AC,yab.body]:=rfl;have f:nLs [.int (i:IM),d,w,n,x,y]=true:=by simpa [nLs,nL] using f
 rw[zc g rfl rfl f];dsimp only;rcases (by lia:i=0 \/ i=1 \/ i=2)with rfl|rfl|rfl
 .have a:(((0:IL):IM)==0)=true:=rfl;have b:(((0:IL):IM)==1)=false:=rfl;have c:(((0:IL):IM)==2)=false:=rfl;erw[wF,wA]at E;simp! [yab,E,yc0,a,b,c];rfl
 .have a:(((1:IL):IM)==0)=false:=rfl;have b:(((1:IL):IM)==1)=true:=rfl;have c:(((1:IL):IM)==2)=false:=rfl;erw[wF,wA]at E;simp! [yab,E,yc0,a,b,c];rfl
 .have a:(((2:IL):IM)==0)=false:=rfl;have b:(((2:IL):IM)==1)=false:=rfl;have c:(((2:IL):IM)==2)=true:=rfl;erw[wF,wA]at E;simp! [yab,E,yc0,a,b,c];rfl
def zf8(k:IL){i c:IL}(p:i<3){s}{d w n x y:PV}(f:nLs [d,w,n,x,y]=AC)(E:∀st,yc T (k+1) (wF i) (wA d w n x y i) st=.exc c st)(g:([0,6,7]:IK IL).contains c=AC)(a:∃l,yc T 1 yin [.exn c] []=.ok (.str s) l)(st:SO):yc T (k+2) yv [.int (i:IM),d,w,n,x,y] st=.ok (.str s) st:=by
 have m:T yv=AA #[6,8,AC,yab.body]:=rfl;let#[l,a]:=a;have a:=zC a k;rw[IL.add_comm]at a;have f:nLs [.int (i:IM),d,w,n,x,y]=true:=by simpa [nLs,nL] using f
 rw[zc m rfl rfl f];dsimp only;rcases (by lia:i=0 \/ i=1 \/ i=2)with rfl|rfl|rfl
 .have b:(((0:IL):IM)==0)=true:=rfl;erw[wF,wA]at E;simp! [yab,E,yc0,g,a,yek,yaR,IC.ve35,b];rfl
 .have b:(((1:IL):IM)==0)=false:=rfl;have j:(((1:IL):IM)==1)=true:=rfl;erw[wF,wA]at E;simp! [yab,E,yc0,g,a,yek,yaR,IC.ve35,b,j];rfl
 .have b:(((2:IL):IM)==0)=false:=rfl;have j:(((2:IL):IM)==1)=false:=rfl;have o:(((2:IL):IM)==2)=true:=rfl;erw[wF,wA]at E;simp! [yab,E,yc0,g,a,yek,yaR,IC.ve35,b,j,o];rfl
theorem kd0:∃a,yc T 1 yin [.exn 0] []=.ok (.str "fit") a:=#[_,by ac_rfl]
theorem kd6:∃a,yc T 1 yin [.exn 6] []=.ok (.str "deed") a:=#[_,by ac_rfl]
theorem kd7:∃a,yc T 1 yin [.exn 7] []=.ok (.str "quotient") a:=#[_,by ac_rfl]
def zgG{i c:IL}{s}(l:1<=i)(b:i<3){d w n x y:PV}(a:nLs [d,w,n,x,y]=AC)(E:∀st,yc T 22 yl [d,w,n,x,y] st=.exc c st)(f:([0,6,7]:IK IL).contains c=AC)(g:∃j,yc T 1 yin [.exn c] []=.ok (.str s) j)(st:SO):yc T 24 yv [.int (i:IM),d,w,n,x,y] st=.ok (.str s) st:=by
 refine zf8 22 b a (λst=>?_) f g st;rcases (by lia:i=1 \/ i=2)with rfl|rfl
 .exact ziT 22 a E st
 .exact zj5 22 a E st
def zpC(k:IL){d:PV}(a:nL d=AC)(h:yc T 20 yA [d] []=.ok (.bl AB) [])(st:SO):yc T (21+k) yY [d] st=.exc 6 st:=by have b:T yY=AA yh2:=rfl;have c:=zC h k;rw[show 21+k=20+k+1 by lia,zc b rfl rfl (by simp[nLs,a])];simp! [yh2,c];rfl
def nmG:IL->AL
 |0=>AE "sum" | 1=>AE "difference" | 2=>AE "compare" | 3=>AE "both" | 4=>AE "any" | 5=>AE "odd" | 6=>AE "product" | 7=>AE "signed product" | 8=>AE "quotient"
 |9=>AE "signed quotient" | 10=>AE "turned" | 11=>AE "bare" | 12=>AE "left" | 13=>AE "right" | 14=>AE "down" | _=>AE "roll"
theorem ib(b)(st):yaj .int st [.bl b]=AA (.int (bi b)):=by cases b<;>rfl
def T3(k f:IL)(x y K:IM):Prop:=∃a b c:IM,∀t,yc T k f [.int x,.int y,.int K] t=.ok (.tp AB [.int a,.int b,.int c]) t
def zna(k:IL){x y K s q X Y o:IM}(a:x+y=s)(b:yq .shr (.int s) (.int K)=AA (.int q))(e1:∀st,yc T k ym [.int x,.int K] st=.ok (.int X) st)(e2:∀st,yc T k ym [.int y,.int K] st=.ok (.int Y) st)(c:∀st,yc T k yfI [.int (X+Y),.int K] st=.ok (.int o) st):T3 (k+1) yjW x y K:=by have d:T yjW=AA yi3:=rfl;refine#[s,q,o,λt=>?_];rw[zc d rfl rfl rfl];simp! [yi3,a,b,e1,e2,c];rfl
def zi5(k:IL){x y K X Y o:IM}(e1:∀st,yc T k ym [.int x,.int K] st=.ok (.int X) st)(e2:∀st,yc T k ym [.int y,.int K] st=.ok (.int Y) st)(a:∀st,yc T k yfI [.int (X-Y),.int K] st=.ok (.int o) st):T3 (k+1) yjn x y K:=by have b:T yjn=AA yi4:=rfl;refine#[x-y,bi (decide (x<y)),o,λt=>?_];rw[zc b rfl rfl rfl];simp! [yi4,ib,e1,e2,a];rfl
def znJ(k:IL){x y K:IM}(h:T3 k yjn 0 x K):T3 (k+1) yjX x y K:=by have d:T yjX=AA yi5:=rfl;let#[a,b,c,e]:=h;refine#[a,b,c,λt=>?_];rw[zc d rfl rfl rfl];simp! [yi5,e];rfl
def znS(k:IL){x y K:IM}:T3 (k+1) yjY x y K/\T3 (k+1) yjZ x y K/\T3 (k+1) yj0 x y K/\T3 (k+1) yj1 x y K:=by
 have a:T yjY=AA yi6:=rfl;have b:T yjZ=AA yi7:=rfl;have c:T yj0=AA yi8:=rfl;have d:T yj1=AA yi9:=rfl;refine#[#[Ao x y,0,0,λt=>?_],#[BX x y,0,0,λt=>?_],#[B5 x y,0,0,λt=>?_],#[-1-x,0,0,λt=>?_]]
 .rw[zc a rfl rfl rfl];simp! [yi6,zkT];rfl
 .rw[zc b rfl rfl rfl];simp! [yi7,zrQ];rfl
 .rw[zc c rfl rfl rfl];simp! [yi8,zpa];rfl
 .rw[zc d rfl rfl rfl];simp! [yi9];rfl
def znz(k:IL){x s K a b:IM}(c:yq .shl (.int x) (.int s)=AA (.int a))(d:yq .shr (.int a) (.int K)=AA (.int b)):T3 (k+1) yj2 x s K:=by have f:T yj2=AA yja:=rfl;refine#[a,Ao b 1,0,λt=>?_];rw[zc f rfl rfl rfl];simp! [yja,c,d,zkT];rfl
def zj0(k:IL){x s K a b c:IM}(d:yq .mul (.int 2) (.int x)=AA (.int c))(f:yq .shr (.int x) (.int s)=AA (.int a))(g:yq .shr (.int c) (.int s)=AA (.int b)):T3 (k+1) yjo x s K:=by have j:T yjo=AA yjb:=rfl;refine#[a,Ao b 1,0,λt=>?_];rw[zc j rfl rfl rfl];simp! [yjb,d,f,g,zkT];rfl
def znN(k:IL){x s K X:IM}(e1:∀st,yc T k ym [.int x,.int K] st=.ok (.int X) st)(h:T3 k yjo X s K):T3 (k+1) yj3 x s K:=by have d:T yj3=AA yjc:=rfl;let#[a,b,c,e]:=h;refine#[a,b,c,λt=>?_];rw[zc d rfl rfl rfl];simp! [yjc,e1,e];rfl
def znd(k:IL){x s K p d a b:IM}(c:yq .mod (.int s) (.int K)=AA (.int p))(f:K-p=d)(g:yq .shl (.int x) (.int p)=AA (.int a))(j:yq .shr (.int x) (.int d)=AA (.int b)):T3 (k+1) yj4 x s K:=by have l:T yj4=AA yjd:=rfl;refine#[BX a b,0,0,λt=>?_];rw[zc l rfl rfl rfl];simp! [yjd,c,f,g,j,zrQ];rfl
def znu(k:IL){x y K z q:IM}(a:yq .mul (.int x) (.int y)=AA (.int z))(b:yq .shr (.int z) (.int K)=AA (.int q)):T3 (k+1) yj5 x y K:=by
 have c:T yj5=AA yje:=rfl;refine#[z,0,bif (q==0)then 0 else 1,λt=>?_];rw[zc c rfl rfl rfl]
 cases d:(q==0)<;>simp! [yje,a,b,d]<;>rfl
def zmA(k:IL){x y K X Y z o:IM}(e1:∀st,yc T k ym [.int x,.int K] st=.ok (.int X) st)(e2:∀st,yc T k ym [.int y,.int K] st=.ok (.int Y) st)(a:yq .mul (.int X) (.int Y)=AA (.int z))(b:∀st,yc T k yfI [.int z,.int K] st=.ok (.int o) st):T3 (k+1) yj6 x y K:=by have c:T yj6=AA yjf:=rfl;refine#[z,0,o,λt=>?_];rw[zc c rfl rfl rfl];simp! [yjf,e1,e2,a,b];rfl
def zow(k:IL){x y K q:IM}(a:yq .fdiv (.int x) (.int y)=AA (.int q)):T3 (k+1) yj7 x y K:=by have b:T yj7=AA yjg:=rfl;refine#[q,0,0,λt=>?_];rw[zc b rfl rfl rfl];simp! [yjg,a];rfl
theorem reckon(k:IL){d:PV}{nm}{w n x y S K:IM}{f:IL}{sh}(t:nL d=AC)(l:∀st,idxV st d (.int 0)=AA (.str nm))(m:yp .eq (.str nm) (.str "led")=AA (.bl AB))(o:yp .isin (.str nm) yy=AA (.bl sh))(g:sh=AC->∀st,idxV st d (.int 1)=AA (.int S))(j:sh=AB->S=y)(p:mkV yh9 AC (.str nm)=AA f)(q:yq .mul (.int w) (.int n)=AA (.int K))(E:T3 k f x S K):∃a b c:IM,∀st,yc T (k+1) y6 [d,.int w,.int n,.int x,.int y] st=.ok (.tp AB [.int a,.int b,.int c]) st:=by
 have u:T y6=AA #[5,6,AC,yX.body]:=rfl;have r:decide (5<6)=true:=rfl;let#[a,b,c,e]:=E;refine#[a,b,c,λst=>?_];rw[zc u rfl rfl (by simp[nLs,nL,t])];dsimp only
 cases sh
 .have j:=j rfl;subst j;simp! [yX,l,m,o,zmC,r,p,yef,q,e];rfl
 .have g:=g rfl;simp! [yX,l,g,m,o,zmC,r,p,yef,q,e];rfl
section
variable (k:IL){w n:IL}(hw:4<=w)(hw2:w<=16)(hn:1<=n)(hn2:n<=4){x y:IM}(x0:0<=x)(x1:x<2^(w*n))(y0:0<=y)(y1:y<2^(w*n))
include hw hw2 hn hn2
theorem kk:1<=w*n/\w*n<=64/\(2:IM)^(w*n)<=2^64:=by have b:=Ay hw hn;have a:w*n<=64:=Ay hw2 hn2;have c:(2:IL)^(w*n)<=2^64:=Aj () a;have d:=pw (w*n);lia
include x0 x1 y0 y1
def zsT{i:IL}(N:i<12)(O:i≠2)(D:y=0->i≠8/\i≠9):∃a b c:IM,∀st,yc T (21+k) y6 [.tp AB [.str (nmG i)],.int w,.int n,.int x,.int y] st=.ok (.tp AB [.int a,.int b,.int c]) st:=by
 let#[m,l,A]:=kk hw hw2 hn hn2;have sw:=λ(z:IM) o p t=>zaq (17+k) m l (x:=z) o p t;have C:=λz t=>zrX (17+k) m () z t;rw[show 17+k+1=18+k by lia]at sw C;have sw1:=λ(z:IM) o p t=>zaq (18+k) m l (x:=z) o p t;have g:=λz t=>zrX (18+k) m () z t;rw[show 18+k+1=19+k by lia]at sw1 g;have G:(0:IM)<2^(w*n):=Bq ⋯;have H:(sgd (2^(w*n)) x).natAbs<18446744073709551616:=by unfold sgd;split<;>lia
 have B:=znS (19+k) (x:=x) (y:=y) (K:=((w*n:IL):IM));have I:=zcP w n ();have r:(i=8 \/ i=9)->0<y:=λh=>by
  by_cases q:y=0
  .have:=D q;lia
  .lia
 have go:∀{j:AL} {f:IL},yp .eq (.str j) (.str "led")=AA (.bl AB)->yp .isin (.str j) yy=AA (.bl AB)->mkV yh9 AC (.str j)=AA f->T3 (19+k+1) f x y ((w*n:IL):IM)->∃a b c:IM,∀st,yc T (21+k) y6 [.tp AB [.str j],.int w,.int n,.int x,.int y] st=.ok (.tp AB [.int a,.int b,.int c]) st:=λ{j f} J L M E=>by have h:=reckon (19+k+1) (d:=.tp AB [.str j]) (y:=y) rfl (λ_=>ix0) J L (λh=>by cases h) (λ_=>rfl) M I E;rw[show 19+k+1+1=21+k by lia]at h;exact h
 rcases (by lia:i=0 \/ i=1 \/ i=3 \/ i=4 \/ i=5 \/ i=6 \/ i=7 \/ i=8 \/ i=9 \/ i=10 \/ i=11)with rfl|rfl|rfl|rfl|rfl|rfl|rfl|rfl|rfl|rfl|rfl
 .exact go (f:=yjW) (by ac_rfl) (by ac_rfl) (by ac_rfl) (zna (19+k) rfl zew (sw1 x x0 x1) (sw1 y y0 y1) (g _))
 .exact go (f:=yjn) (by ac_rfl) (by ac_rfl) (by ac_rfl) (zi5 (19+k) (sw1 x x0 x1) (sw1 y y0 y1) (g _))
 .exact go (f:=yjY) (by ac_rfl) (by ac_rfl) (by ac_rfl) B.1
 .exact go (f:=yjZ) (by ac_rfl) (by ac_rfl) (by ac_rfl) B.2.1
 .exact go (f:=yj0) (by ac_rfl) (by ac_rfl) (by ac_rfl) B.2.2.1
 .exact go (f:=yj5) (by ac_rfl) (by ac_rfl) (by ac_rfl) (znu (19+k) (zaW ()) zew)
 .exact go (f:=yj6) (by ac_rfl) (by ac_rfl) (by ac_rfl) (zmA (19+k) (sw1 x x0 x1) (sw1 y y0 y1) (zaW H) (g _))
 .exact go (f:=yj7) (by ac_rfl) (by ac_rfl) (by ac_rfl) (zow (19+k) (zjV (r (.inl rfl)) ()))
 .have r:=r (.inr rfl);have u:0<ydG (sgd (2^(w*n)) y)/\ydG (sgd (2^(w*n)) y)<=2^(w*n):=by unfold ydG sgd;split<;>split<;>lia
  exact go (f:=yj8) (by ac_rfl) (by ac_rfl) (by ac_rfl) #[_,0,_,λt=>zoY (19+k) (sw1 x x0 x1) (sw1 y y0 y1) rfl rfl (zjV u.1 ()) rfl rfl (g _) t]
 .have h:=zi5 (18+k) (sw 0 () G) (sw x x0 x1) (C _);exact go (f:=yjX) (by ac_rfl) (by ac_rfl) (by ac_rfl) (znJ (19+k) (by rw[show 19+k=18+k+1 by lia];exact h))
 .exact go (f:=yj1) (by ac_rfl) (by ac_rfl) (by ac_rfl) B.2.2.2
def zsU{i s:IL}(G:12<=i)(H:i<16)(I:s<=100):∃a b c:IM,∀st,yc T (21+k) y6 [.tp AB [.str (nmG i),.int (s:IM)],.int w,.int n,.int x,.int y] st=.ok (.tp AB [.int a,.int b,.int c]) st:=by
 let#[p,l,m]:=kk hw hw2 hn hn2;have sw1:=λ(z:IM) q r t=>zaq (18+k) p l (x:=z) q r t;rw[show 18+k+1=19+k by lia]at sw1;have J:(sgd (2^(w*n)) x).natAbs<18446744073709551616:=by unfold sgd;split<;>lia
 have u:=zcP w n ();have go:∀{g:AL} {f:IL},yp .eq (.str g) (.str "led")=AA (.bl AB)->yp .isin (.str g) yy=AA (.bl AC)->mkV yh9 AC (.str g)=AA f->T3 (19+k+1) f x s ((w*n:IL):IM)->∃a b c:IM,∀st,yc T (21+k) y6 [.tp AB [.str g,.int (s:IM)],.int w,.int n,.int x,.int y] st=.ok (.tp AB [.int a,.int b,.int c]) st:=λ{g f} A B C E=>by have h:=reckon (19+k+1) (d:=.tp AB [.str g,.int (s:IM)]) (y:=y) rfl (λ_=>ix0) A B (λ_ _=>rfl) (λh=>by cases h) C u E;rw[show 19+k+1+1=21+k by lia]at h;exact h
 have o:∀z:IM,yq .mul (.int 2) (.int z)=AA (.int (2*z)):=λz=>zaW ⋯;rcases (by lia:i=12 \/ i=13 \/ i=14 \/ i=15)with rfl|rfl|rfl|rfl
 .exact go (f:=yj2) (by ac_rfl) (by ac_rfl) (by ac_rfl) (znz (19+k) (zoh () ()) zew)
 .exact go (f:=yjo) (by ac_rfl) (by ac_rfl) (by ac_rfl) (zj0 (19+k) (o x) zew zew)
 .have h:=zj0 (18+k) (K:=((w*n:IL):IM)) (o (sgd (2^(w*n)) x)) (zew (j:=s)) zew;exact go (f:=yj3) (by ac_rfl) (by ac_rfl) (by ac_rfl) (znN (19+k) (sw1 x x0 x1) (by rw[show 19+k=18+k+1 by lia];exact h))
 .have L:s%(w*n)<w*n:=IL.mod_lt _ ();have D:yq .mod (.int (s:IM)) (.int ((w*n:IL):IM))=AA (.int ((s%(w*n):IL):IM)):=by rw[Eu];show (if (0:IM)<((w*n:IL):IM)then _ else _)=_;rw[IR ()]
  exact go (f:=yj4) (by ac_rfl) (by ac_rfl) (by ac_rfl) (znd (19+k) (d:=((w*n-s%(w*n):IL):IM)) D () (zoh () ()) zew)
end
def ybr(b:IQ):Str:=if b=AC then AE "signed" else AE "plain"
abbrev ybb:PV:=.str "led"
abbrev yae(sr sm:IQ)(e:IM):PV:=.tp AB [ybb,.str (ybr sr),.str (ybr sm),.int e]
def znI(k:IL)(sr sm){e w n x N K P V o q:IM}(g:yq .mul (.int w) (.int n)=AA (.int K))(e1:∀st,yc T k ym [.int x,.int K] st=.ok (.int V) st)(j:∀st,yc T k yk [yae sr sm e,.int n] st=.ok (.int N) st)(l:yq .mul (.int w) (.int N)=AA (.int P))(e2:∀z st,∃o,yc T k yfI [.int z,.int P] st=.ok (.int o) st)(m:∀z:IM,∃q:IM,yq .shr (.int z) (.int P)=AA (.int q)):∃a b c:IM,∀st,yc T (k+1) ylE [yae sr sm e,.int w,.int n,.int x] st=.ok (.tp AB [.int a,.int b,.int c]) st:=by
 have B:T ylE=AA #[4,6,AC,ybn.body]:=rfl;have p:∀st,idxV st (yae sr sm e) (.int 1)=AA (.str (ybr sr)):=λ_=>rfl;have r:∀st,idxV st (yae sr sm e) (.int 2)=AA (.str (ybr sm)):=λ_=>rfl;have t:yp .eq (.str (ybr sr)) (.str "signed")=AA (.bl sr):=by cases sr<;>ac_rfl
 have y:yp .eq (.str (ybr sm)) (.str "signed")=AA (.bl sm):=by cases sm<;>ac_rfl
 have nl:nLs [yae sr sm e,.int w,.int n,.int x]=true:=rfl;generalize yae sr sm e=d at *;obtain⟨u,f⟩:∃u,(if sr=AC then V else x)=u:=#[_,rfl];let#[o,e2]:=e2 u [];let#[q,m]:=m u;refine#[u,0,if sm=AC then o else bif (q==0)then 0 else 1,λst=>?_];rw[zc B rfl rfl nl];dsimp only
 cases sr
 .have f:x=u:=f;subst f
  cases sm
  .cases A:(q==0)<;>simp! [ybn,p,r,t,y,g,j,l,m,A]<;>rfl
  .simp! [ybn,p,r,t,y,g,j,l,e2];rfl
 .have f:V=u:=f;subst f
  cases sm
  .cases A:(q==0)<;>simp! [ybn,p,r,t,y,g,e1,j,l,m,A]<;>rfl
  .simp! [ybn,p,r,t,y,g,e1,j,l,e2];rfl
theorem awL(sr sm){e:IM}{n N:IL}(j:e=N-n):yc T 20 yk [yae sr sm e,.int n] []=.ok (.int (N:IM)) []:=by
 have a:T yk=AA yT:=rfl;have b:∀st,idxV st (yae sr sm e) (.int 0)=AA ybb:=λ_=>rfl;have c:∀st,idxV st (yae sr sm e) (.int 3)=AA (.int e):=λ_=>rfl;have f:yp .eq ybb (.str "compare")=AA (.bl AB):=by ac_rfl
 have g:yp .eq ybb ybb=AA (.bl AC):=by ac_rfl
 have nl2:nLs [yae sr sm e,.int n]=true:=rfl;rw[show (20:IL)=19+1 from rfl,zc a rfl rfl nl2];generalize yae sr sm e=d at *;simp! [yT,b,c,f,g];rw[show (n:IM)+e=N by lia];rfl
def zsV(k:IL)(sr sm){e:IM}{w n N:IL}(X:e=N-n)(u:4<=w)(f:w<=16)(B:1<=n)(g:n<=4)(C:1<=N)(j:N<=8){x y:IM}(D:0<=x)(G:x<2^(w*n)):∃a b c:IM,∀st,yc T (21+k) y6 [yae sr sm e,.int w,.int n,.int x,.int y] st=.ok (.tp AB [.int a,.int b,.int c]) st:=by
 let#[H,l,A]:=kk u f B g;have m:1<=w*N:=by have:=Ay u C;lia
 have I:w*N<=128:=Ay f j;have sw1:=λt=>zaq (18+k) H l D G t;rw[show 18+k+1=19+k by lia]at sw1;have J:∀st,yc T (19+k) yk [yae sr sm e,.int n] st=.ok (.int (N:IM)) st:=λst=>by
  have p:T yk=AA yT:=rfl;have r:∀st,idxV st (yae sr sm e) (.int 0)=AA ybb:=λ_=>rfl;have L:∀st,idxV st (yae sr sm e) (.int 3)=AA (.int e):=λ_=>rfl;have M:yp .eq ybb (.str "compare")=AA (.bl AB):=by ac_rfl
  have O:yp .eq ybb ybb=AA (.bl AC):=by ac_rfl
  have nl2:nLs [yae sr sm e,.int n]=true:=rfl;rw[show 19+k=18+k+1 by lia,zc p rfl rfl nl2];generalize yae sr sm e=d at *;simp! [yT,r,L,M,O];rw[show (n:IM)+e=N by lia];rfl
 let#[a,b,c,E]:=znI (19+k) sr sm (o:=0) (q:=0) (zcP w n ()) sw1 J (zcP w N ()) (λz st=>#[_,by rw[show 19+k=18+k+1 by lia];exact zrX (18+k) m () z st]) (λz=>#[_,zew]);refine#[a,b,c,λst=>?_];have Q:T y6=AA #[5,6,AC,yX.body]:=rfl;have r:∀st,idxV st (yae sr sm e) (.int 0)=AA ybb:=λ_=>rfl;have U:yp .eq ybb ybb=AA (.bl AC):=by ac_rfl
 have nl:nLs [yae sr sm e,.int w,.int n,.int x,.int y]=true:=rfl;rw[show 21+k=19+k+1+1 by lia,zc Q rfl rfl nl];dsimp only;generalize yae sr sm e=d at *;simp! [yX,r,U,E];rfl
def zsW(k:IL){w n:IL}{pr q}{E:IL}{rs}(D:ybG pr q (.tp AB [.str (nmG 2)]) w n E rs)(G:4<=w)(f:w<=16)(H:1<=n)(j:n<=4){x y:IM}(m:0<=x)(o:x<2^(w*n))(p:0<=y)(r:y<2^(w*n))(I:y≠0->pr)(J:y=0->q=AB):∃L us a b c e,∀st,yc T (22+k) yet [.tp AB [.str (nmG 2)],.int w,.int n,.int x,.int y] st=.ok (dvv L us a b c e) st:=by
 let#[u,g,z]:=kk G f H j;have A:=λt=>zaq (19+k) u g m o t;have B:=λt=>zaq (19+k) u g p r t;rw[show 19+k+1=20+k by lia]at A B;have E0:=λt=>zcF k D f () m o p r I J t;have M:=zcP w n ();have N:∀st,idxV st (.tp AB [.str (nmG 2)]) (.int 0)=AA (.str (nmG 2)):=λ_=>rfl;have O:yp .eq (.str (nmG 2)) (.str "compare")=AA (.bl AC):=by ac_rfl
 have nl:nLs [.tp AB [.str (nmG 2)],.int w,.int n,.int x,.int y]=true:=rfl;refine#[[],[],bi (decide (x<y)),bi (decide (sgd (2^(w*n)) x<sgd (2^(w*n)) y)),bi (x==y),0,λst=>?_];generalize PV.tp AB [.str (nmG 2)]=d,sgd (2^(w*n)) x=X,sgd (2^(w*n)) y=Y,((w*n:IL):IM)=K at *;have C:∀t,yc T (20+k+1) ylD [.int x,.int y,.int K] t=.ok (.tp AB [.int (bi (decide (x<y))),.int (bi (decide (X<Y))),.int (bi (x==y)),.int 0]) t:=λt=>by have l:T ylD=AA yi2:=rfl;rw[zc l rfl rfl rfl];simp! [yi2,A,B,ib];rfl
 rw[show 20+k+1=21+k by lia]at C;have l:T yet=AA #[5,10,AC,yau.body]:=rfl;rw[show 22+k=21+k+1 by lia,zc l rfl rfl nl];dsimp only;simp! [yau,E0,N,O,M,C];rfl
def asN(n:IL)(x:AL):Prop:=(∀c∈x.cps.toList,c<128)/\x.cps.toList.length<=n
theorem asN.le{n m:IL}{x:AL}(h:asN n x)(q:n<=m):asN m x:=#[h.1,As h.2 q]
def zgN{n:IL}{x}(h:asN n x)(f:n<=1000)(a b:Option IM):∃y,asN n y/\ybO (.str x) a b=AA (.str y):=by
 refine#[#[(cut x.cps.toList a b).toArray],#[λc d=>h.1 c (zm1 (by simpa using d)),?_],?_]
 .have:=znU x.cps.toList a b;have:=h.2;erw[IK.toList_toArray];lia
 .have:=h.2;erw[ybO];rw[IR (by simp only[ED,sizeMax,<-BF];lia)]
def ze6{n m:IL}{x y}(h:asN n x)(g:asN m y)(b:n+m<=1000):asN (n+m) (x++y)/\yq .add (.str x) (.str y)=AA (.str (x++y)):=by
 have d:=h.2;have f:=g.2;have e:(x++y).cps.toList=x.cps.toList++y.cps.toList:=by show (x.cps++y.cps).toList=_;simp
 refine#[#[λc a=>?_,?_],?_]
 .rw[e]at a;rcases BG.1 a with q|q
  .exact h.1 c q
  .exact g.1 c q
 .rw[e,Ab];lia
 .simp only[yq];rw[IR (by simp only[ED,sizeMax,<-BF];lia)]
def asB(n:IL)(x:AL):IQ:=x.cps.toList.all (· < 128)&&decide (x.cps.toList.length<=n)
def zb3{n:IL}{x:AL}(h:asB n x=AC):asN n x:=by erw[asB,AH,A3,IN]at h;exact#[h.1,h.2]
theorem asN.shp{n:IL}{x:AL}(h:asN n x):x.cps.all (· < 0x110000)=true:=by rw[<-Ie.all_toList,A3];intro c a;have:=h.1 c a;erw[IN];lia
theorem eqS{n m:IL}{s t}(a:asN n s)(b:asN m t):yp .eq (.str s) (.str t)=AA (.bl (s==t)):=by show (if (shp (.str s)&&shp (.str t))=AC then AA (PV.bl (s==t))else AD)=_;rw[show shp (.str s)=AC from a.shp,show shp (.str t)=AC from b.shp];rfl
def zfs(s):∀l:IK AL,inL (.str s) (l.map .str)=l.any (· == s)
 |[]=>rfl
 |t::l=>by rw[AO,inL,zfs s l,Az];rfl
def zhx:∀l:IK AL,l.all (asB 100)=AC->yaU 60 (l.map .str)=AC
 |[],_=>rfl
 |t::l,h=>by rw[BE,AH]at h;erw[AO,yaU,shd,(zb3 h.1).shp,zhx l h.2,CU]
def zfp:∀l:IK AL,(l.map PV.str).all flat=AC
 |[]=>rfl
 |t::l=>by rw[AO,BE,zfp l];rfl
def zrN{n:IL}{s}{l:IK AL}{k}(a:asN n s)(b:l.all (asB 100)=AC)(st):ybf st (.str s) (.tp k (l.map .str))=AA (.bl (l.any (· == s))):=by erw[ybf,ya7,shd,a.shp,zhx l b,zfs,CU,IV]
def zrZ{s}{l:IK AL}{k}:yp .isin (.str s) (.tp k (l.map .str))=AA (.bl (l.any (· == s))):=by erw[yp,flat,zfp,zfs,CU,IV]
def zr9{s}{l:IK AL}{k}:yp .notin (.str s) (.tp k (l.map .str))=AA (.bl (!l.any (· == s))):=by erw[yp,flat,zfp,zfs,CU,IV]
abbrev oS'(s:Ii):Str:=AE s
def lSh:IK Str:=[oS' "left",oS' "right",oS' "down",oS' "roll"]
def lPa:IK Str:=[oS' "sum",oS' "difference",oS' "compare",oS' "both",oS' "any",oS' "odd",oS' "product",oS' "signed product",oS' "quotient",oS' "signed quotient"]
def lLo:IK Str:=[oS' "turned",oS' "bare"]
def lWy:IK Str:=[oS' "plain",oS' "signed"]
def yb7:IK Str:=[oS' "sum",oS' "difference",oS' "turned",oS' "compare",oS' "both",oS' "any",oS' "odd",oS' "bare",oS' "product",oS' "signed product"]
def lQu:IK Str:=[oS' "quotient",oS' "signed quotient"]
theorem asL(l:IK AL)(h:l.all (asB 20)=AC):∀t∈l,asN 20 t:=λt a=>zb3 (A3.1 h t a)
def NoD(d:PV):Prop:=nL d=AC/\yc T 20 yA [d] []=.ok (.bl AB) []
def zhF(k:IL){e lo a:IM}(h:¬(lo<=e/\e<=a))(st:SO):yc T (k+1) yhU [.int e,.int lo,.int a] st=.ok (.bl AB) st:=by
 have f:T yhU=AA y7:=rfl;have c:yaH (.int e) [.int]=AA (.bl AC):=rfl;have d:yaH (.int e) [.bool]=AA (.bl AB):=rfl;rw[zc f rfl rfl rfl]
 by_cases g:lo<=e
 .have b:=IW g;have j:=IT (p:=e<=a) (λq=>h #[g,q]);simp! [y7,c,d,b,j,blO];rfl
 .have b:=IT g;simp! [y7,c,d,b,blO];rfl
section
variable {v0:PV}{vs:IK PV}(nl:nLs (v0::vs)=AC)
include nl
def ziF:nL (.tp AB (v0::vs))=AC/\yaH (.tp AB (v0::vs)) [.tuple]=AA (.bl AC)/\(∀st,yaj .len st [.tp AB (v0::vs)]=AA (.int ((vs.length+1:IL):IM)))/\(∀st,idxV st (.tp AB (v0::vs)) (.int 0)=AA v0):=by refine#[by simpa [nL] using nl,rfl,λ_=>rfl,λ_=>ix0]
def zlN(b:yp .eq v0 (.str (oS' "led"))=AA (.bl AC))(n:vs.length≠3):NoD (.tp AB (v0::vs)):=by let#[a,c,f,g]:=ziF nl;refine#[a,?_];have j:T yA=AA yf:=rfl;have l:(((vs.length+1:IL):IM)==0)=false:=IP.2 ();have m:(((vs.length+1:IL):IM)==4)=false:=IP.2 ();rw[show (20:IL)=19+1 from rfl,zc j rfl rfl (by simp[nLs,a])];generalize PV.tp AB (v0::vs)=d,((vs.length+1:IL):IM)=L at *;simp! [yf,c,f,g,l,b,m];rfl
def zrj(b:yp .eq v0 (.str (oS' "led"))=AA (.bl AB))(c:∀st,ybf st v0 yy=AA (.bl AC))(o:vs.length≠1):NoD (.tp AB (v0::vs)):=by let#[a,f,g,j]:=ziF nl;refine#[a,?_];have l:T yA=AA yf:=rfl;have m:(((vs.length+1:IL):IM)==0)=false:=IP.2 ();have n:(((vs.length+1:IL):IM)==2)=false:=IP.2 ();rw[show (20:IL)=19+1 from rfl,zc l rfl rfl (by simp[nLs,a])];generalize PV.tp AB (v0::vs)=d,((vs.length+1:IL):IM)=L at *;simp! [yf,f,g,j,m,b,IC.ve36,c,n];rfl
def zqf(b:yp .eq v0 (.str (oS' "led"))=AA (.bl AB))(c:∀st,ybf st v0 yy=AA (.bl AB))(o:vs.length≠0):NoD (.tp AB (v0::vs)):=by let#[a,f,g,j]:=ziF nl;refine#[a,?_];have l:T yA=AA yf:=rfl;have m:(((vs.length+1:IL):IM)==0)=false:=IP.2 ();have n:(((vs.length+1:IL):IM)==1)=false:=IP.2 ();rw[show (20:IL)=19+1 from rfl,zc l rfl rfl (by simp[nLs,a])];generalize PV.tp AB (v0::vs)=d,((vs.length+1:IL):IM)=L at *;simp! [yf,f,g,j,m,b,IC.ve36,c,n];rfl
end
def zlV{s}{e:IM}(a:yp .eq (.str s) (.str (oS' "led"))=AA (.bl AB))(b:∀st,ybf st (.str s) yy=AA (.bl AC))(h:¬(0<=e/\e<=100)):NoD (.tp AB [.str s,.int e]):=by refine#[rfl,?_];have c:T yA=AA yf:=rfl;have f:yaH (.tp AB [.str s,.int e]) [.tuple]=AA (.bl AC):=rfl;have g:∀st,yaj .len st [.tp AB [.str s,.int e]]=AA (.int 2):=λ_=>rfl;have j:∀st,idxV st (.tp AB [.str s,.int e]) (.int 0)=AA (.str s):=λ_=>rfl;have l:∀st,idxV st (.tp AB [.str s,.int e]) (.int 1)=AA (.int e):=λ_=>rfl;have nl:nLs [.tp AB [.str s,.int e]]=true:=rfl;have m:((2:IM)==0)=false:=rfl;have n:((2:IM)==2)=true:=rfl;have o:=zhF 18 h;rw[show (20:IL)=19+1 from rfl,zc c rfl rfl nl];generalize PV.tp AB [.str s,.int e]=d at *;simp! [yf,f,g,j,l,m,a,IC.ve36,b,n,o];rfl
def zfA{a f:PV}{e:IM}{b c}(nl:nLs [a,f]=AC)(j:yp .isin a yh0=AA (.bl b))(g:b=AC->yp .isin f yh0=AA (.bl c))(h:b=AC->c=AC->¬(-3<=e/\e<=4)):NoD (.tp AB [.str (oS' "led"),a,f,.int e]):=by
 have t:nL (.tp AB [.str (oS' "led"),a,f,.int e])=true:=by erw[nLs,Hb,AH]at nl;simp[nL,nLs,nl.1,nl.2]
 refine#[t,?_];have w:T yA=AA yf:=rfl;have l:yaH (.tp AB [.str (oS' "led"),a,f,.int e]) [.tuple]=AA (.bl AC):=rfl;have m:∀st,yaj .len st [.tp AB [.str (oS' "led"),a,f,.int e]]=AA (.int 4):=λ_=>rfl;have n:∀st,idxV st (.tp AB [.str (oS' "led"),a,f,.int e]) (.int 0)=AA (.str (oS' "led")):=λ_=>rfl;have o:∀st,idxV st (.tp AB [.str (oS' "led"),a,f,.int e]) (.int 1)=AA a:=λ_=>rfl;have u:∀st,idxV st (.tp AB [.str (oS' "led"),a,f,.int e]) (.int 2)=AA f:=λ_=>rfl;have x:∀st,idxV st (.tp AB [.str (oS' "led"),a,f,.int e]) (.int 3)=AA (.int e):=λ_=>rfl;have p:yp .eq (.str (oS' "led")) (.str (oS' "led"))=AA (.bl AC):=by ac_rfl
 have q:((4:IM)==0)=false:=rfl;have r:((4:IM)==4)=true:=rfl;rw[show (20:IL)=19+1 from rfl,zc w rfl rfl (by simp[nLs,t])];generalize PV.tp AB [.str (oS' "led"),a,f,.int e]=d at *
 cases b
 .simp! [yf,l,m,n,o,q,p,r,j];rfl
 .have g:=g rfl
  cases c
  .simp! [yf,l,m,n,o,u,q,p,r,j,g];rfl
  .have y:=zhF 18 (h rfl rfl);simp! [yf,l,m,n,o,u,x,q,p,r,j,g,y];rfl
def zsX{n:IL}{s}(a:asN n s)(q:lPa.any (· == s)=AB)(r:lLo.any (· == s)=AB):NoD (.tp AB [.str s]):=by
 refine#[rfl,?_];have b:=eqS a (zb3 (n:=20) (x:=oS' "led") ∅);have m:∀st,ybf st (.str s) yy=AA (.bl (lSh.any (· == s))):=λst=>zrN (k:=AC) a (l:=lSh) ∅ st;have o:∀st,ybf st (.str s) yg6=AA (.bl (lPa.any (· == s))):=λst=>zrN (k:=AC) a (l:=lPa) ∅ st;have p:∀st,ybf st (.str s) yju=AA (.bl (lLo.any (· == s))):=λst=>zrN (k:=AC) a (l:=lLo) ∅ st;have t:T yA=AA yf:=rfl;have c:yaH (.tp AB [.str s]) [.tuple]=AA (.bl AC):=rfl;have f:∀st,yaj .len st [.tp AB [.str s]]=AA (.int 1):=λ_=>rfl;have g:∀st,idxV st (.tp AB [.str s]) (.int 0)=AA (.str s):=λ_=>rfl;have nl:nLs [.tp AB [.str s]]=true:=rfl;have j:((1:IM)==0)=false:=rfl;have u:((1:IM)==1)=true:=rfl;have w:((1:IM)==2)=false:=rfl;have y:((1:IM)==4)=false:=rfl;rw[q]at o;rw[r]at p;rw[show (20:IL)=19+1 from rfl,zc t rfl rfl nl];generalize PV.tp AB [.str s]=d,(s==oS' "led")=z,lSh.any (· == s)=A at *
 cases z
 .cases A
  .simp! [yf,c,f,g,j,b,IC.ve36,m,u,o,p];rfl
  .simp! [yf,c,f,g,j,b,IC.ve36,m,w];rfl
 .simp! [yf,c,f,g,j,b,y];rfl
def zbU{d:PV}(h:(nL d&&isOk (yc T 20 yA [d] []) (.bl AB))=AC):NoD d:=by rw[AH]at h;exact#[h.1,zdR h.2]
abbrev sS'(s:Ii):PV:=.str (AE s)
def ydE(f:IM):IK PV:=[.tp AB [],.non,sS' "sum",.lst [sS' "sum"],.tp AB [sS' "sum",.int 0],.tp AB [sS' "sum",sS' "sum"],.tp AB [.bl AC],.tp AB [.int 0],.tp AB [sS' "left"],.tp AB [sS' "left",.int (101+f)],
 .tp AB [sS' "right",.int (0-1-f)],.tp AB [sS' "down",.bl AC],.tp AB [sS' "roll",sS' "1"],.tp AB [sS' "left",.int 1,.int 1],.tp AB [sS' "led"],.tp AB [sS' "led",sS' "plain",.int 1],
 .tp AB [sS' "led",sS' "plain",sS' "plain",.int (5+f)],.tp AB [sS' "led",sS' "signed",sS' "plain",.int (0-4-f)],.tp AB [sS' "led",sS' "Plain",sS' "plain",.int 0],
 .tp AB [sS' "led",sS' "plain",sS' "other",.int 1],.tp AB [sS' "led",.int 0,sS' "plain",.int 1],.tp AB [sS' "led",sS' "plain",sS' "signed",.bl AC],.tp AB [.lst [sS' "sum"]],.tp AB [.tp AB [sS' "sum"]],.tp AB [sS' "down",.lst [.int 1]]]
def zm4{f:IM}(hf:0<=f):∀d∈ydE f,NoD d:=by
 intro d a;erw[ydE,AS,A9,IX]at a;rcases a with rfl|rfl|rfl|rfl|rfl|rfl|rfl|rfl|rfl|rfl|rfl|rfl|rfl|rfl|rfl|rfl|rfl|rfl|rfl|rfl|rfl|rfl|rfl|rfl|rfl
 case inr.inr.inr.inr.inr.inr.inr.inr.inr.inl=>exact zlV (by ac_rfl) (λ_=>by ac_rfl) ()
 case inr.inr.inr.inr.inr.inr.inr.inr.inr.inr.inl=>exact zlV (by ac_rfl) (λ_=>by ac_rfl) ()
 case inr.inr.inr.inr.inr.inr.inr.inr.inr.inr.inr.inr.inr.inr.inr.inr.inl=>exact zfA (b:=AC) (c:=AC) rfl (by ac_rfl) (λ_=>by ac_rfl) (λ_ _=>())
 case inr.inr.inr.inr.inr.inr.inr.inr.inr.inr.inr.inr.inr.inr.inr.inr.inr.inl=>exact zfA (b:=AC) (c:=AC) rfl (by ac_rfl) (λ_=>by ac_rfl) (λ_ _=>())
 all_goals exact zbU ∅
def ycN(kd ot sh:AL)(f:IM):IK PV:=[.tp AB [sS' "led",sS' "plain",sS' "plain"],.tp AB [sS' "led",sS' "signed",sS' "plain",.int 1,.int f],.tp AB [.str ot,sS' "plain",sS' "signed",.int 1],
 .tp AB [sS' "led",.str kd,sS' "plain",.int 1],.tp AB [sS' "led",sS' "plain",.str kd,.int 1],.tp AB [sS' "sum",sS' "plain",sS' "plain",.int 1],.tp AB [.str sh,.int (f%101)]]
def zkz{kd ot sh}{f:IM}{a b c:IL}(y:asN a kd)(g:lWy.any (· == kd)=AB)(p:asN b ot)(j:(ot==oS' "led")=AB)(r:asN c sh)(m:lSh.any (· == sh)=AB):∀d∈ycN kd ot sh f,NoD d:=by
 intro d t;have u:yp .isin (.str kd) yh0=AA (.bl AB):=(zrZ (k:=AC) (l:=lWy)).trans (by rw[g]);have o:=eqS p (zb3 (n:=20) (x:=oS' "led") ∅);rw[j]at o;have os:∀st,ybf st (.str ot) yy=AA (.bl (lSh.any (· == ot))):=λst=>zrN (k:=AC) p (l:=lSh) ∅ st;have sq:=eqS r (zb3 (n:=20) (x:=oS' "led") ∅);have w:∀st,ybf st (.str sh) yy=AA (.bl (lSh.any (· == sh))):=λst=>zrN (k:=AC) r (l:=lSh) ∅ st;rw[m]at w;erw[ycN,AS,A9,IX]at t;rcases t with rfl|rfl|rfl|rfl|rfl|rfl|rfl
 .exact zbU ∅
 .exact zlN rfl (by ac_rfl) (by simp)
 .cases q:lSh.any (· == ot)
  .rw[q]at os;exact zqf rfl o os (by simp)
  .rw[q]at os;exact zrj rfl o os (by simp)
 .exact zfA (b:=AB) (c:=AB) rfl u (λh=>by cases h) (λh=>by cases h)
 .exact zfA (b:=AC) (c:=AB) rfl (by ac_rfl) (λ_=>u) (λ_ h=>by cases h)
 .exact zbU ∅
 .cases q:(sh==oS' "led")
  .rw[q]at sq;exact zqf rfl sq w (by simp)
  .rw[q]at sq;exact zlN rfl sq (by simp)
def zgF(L:IK PV){i:IM}(b:0<=i)(c:i<L.length):∃v∈L,(∀k st,idxV st (.tp k L) (.int i)=AA v)/\∀st,idxV st (.lst L) (.int i)=AA v:=by
 let#[i,rfl]:=zcB b;have a:i<L.length:=()
 refine#[L[i],IK.getElem_mem a,λk st=>?_,λst=>?_]
 all_goals
  erw[idxV,yaV,at?,ixI];rw[IR (),IR ()];simp[Cz a]
def zd2(l:IK AL){i:IM}(a:0<=i)(b:i<l.length):∃t∈l,∀st,idxV st (.tp AB (l.map .str)) (.int i)=AA (.str t):=by let#[v,c,e,_]:=zgF (l.map .str) a (by rw[Aq];exact b);let#[t,d,rfl]:=Dq.1 c;exact#[t,d,e AB]
def zg0{A}(i:IM)(k:Option IM->R A):onP (ybX (.int i)) k=k (AA i):=rfl
def zg4{A}(k:Option IM->R A):onP (ybX .non) k=k none:=rfl
def zfd(x)(o)(i:IM):yck x o (.int i)=ybO x o (AA i):=rfl
def zfx(x)(o):yck x o .non=ybO x o none:=rfl
def zsa(k:IL){g:IK IM}(c:g.length<=1000){st}(h:Drw g 0 st):∃f d,0<=f/\f<10^59/\Onl g 0 st d/\yc T (k+4) yjq [.loc 0] st=.ok (.int f) d:=by
 have r:T yjq=AA #[1,2,AB,yba.body]:=rfl;let#[a,z,A,B,j,t]:=zjz k c (m:=8) () () h;have u:=j.drw h;have w:yq .pow (.int 10) (.int 9)=AA (.int (10^9)):=rfl;have y:yq .pow (.int 10) (.int 59)=AA (.int (10^59)):=rfl
 by_cases q:a=7
 .subst q;have b:((7:IM)==7)=true:=rfl;let#[f,l,n,x,o,p]:=zjz k c (m:=10^59) () () u;refine#[f,l,n,x,j.trans o,?_];rw[show k+4=k+3+1 by lia,zm r rfl rfl];dsimp only;generalize (10:IM)^59=E at *;simp! [yba,w,t,b,y,p];rfl
 .have b:(a==7)=false:=IP.2 q;let#[f,l,n,x,o,p]:=zjz k c (m:=10^9) () () u;refine#[f,l,n,(),j.trans o,?_];rw[show k+4=k+3+1 by lia,zm r rfl rfl];dsimp only;generalize (10:IM)^9=E at *;simp! [yba,w,t,b,p];rfl
def alp:Str:=AE "abcdefghijklmnopqrstuvwxyz S_"
def alB(c:IL):IQ:=match idxV [] (.str alp) (.int c)with
 |some (.str z)=>asB 1 z
 |_=>AB
def zqp:(Bk 29).all alB=true:=∅
def zpA{c:IM}(a:0<=c)(b:c<29):∃z,asN 1 z/\∀st,idxV st (.str "abcdefghijklmnopqrstuvwxyz S_") (.int c)=AA (.str z):=by
 let#[c,rfl]:=zcB a;have h:=A3.1 zqp c (by simp;lia);unfold alB at h;split at h
 .rename_i z e;exact#[z,zb3 h,λ_=>e]
 .cases h
theorem spw(k:IL){q:IK IM}(g:q.length<=1000){x}(p:asN 20 x)(U:1<=x.cps.toList.length){st}(h:Drw q 0 st):∃y j,asN 60 y/\Onl q 0 st j/\yc T (k+4) yjp [.loc 0,.str x] st=.ok (.str y) j:=by
 have r:T yjp=AA #[2,5,AB,yL.body]:=rfl;have X:=p.2;have d:∀s,yaj .len s [.str x]=AA (.int x.cps.toList.length):=λs=>by erw[yaj,lenV];rw[IR (by simp only[ED,sizeMax,<-BF];lia)];simp only[ED,<-BF]
 let#[b,t,w0,w1,I,u]:=zjz k g (m:=3) () () h;have J:=I.drw h;have hb:0<=bi (b==0)/\bi (b==0)<=1:=by cases (b==0)<;>decide
 let#[a,w,a0,a1,M,f]:=zjz k g (m:=(x.cps.toList.length:IM)+bi (b==0)) () () J;have Y:=M.drw J;let#[c,A,Z,c1,o3,B]:=zjz k g (m:=29) () () Y;let#[z,hz,C]:=zpA Z c1;let#[u1,l,D]:=zgN p () AD (AA a);let#[u2,E,q2]:=zgN p () (AA a) AD;let#[u3,n,N]:=zgN p () (AA (a+1)) AD;let#[O,Q]:=ze6 l hz ();let#[v2,r2]:=ze6 O E ();let#[v3,r3]:=ze6 O n ();let#[v4,r4]:=ze6 l n ();have G:=(I.trans M).trans o3;generalize (x.cps.toList.length:IM)=L at *;rcases (by lia:b=0 \/ b=1 \/ b=2)with rfl|rfl|rfl
 .have o:((0:IM)==0)=true:=rfl;have f:yc T (k+3) yfU [.loc 0,.int (L+bi AC)] t=.ok (.int a) w:=f;refine#[_,A,v2.le (),G,?_];rw[show k+4=k+3+1 by lia,zm r rfl rfl];dsimp only;simp! [yL,u,d,ib,o,f,B,C,zg0,zg4,zfd,zfx,D,q2,Q,r2,zad]
 .have o:((1:IM)==0)=false:=rfl;have H:((1:IM)==1)=true:=rfl;have f:yc T (k+3) yfU [.loc 0,.int (L+bi AB)] t=.ok (.int a) w:=f;refine#[_,A,v4.le (),G,?_];rw[show k+4=k+3+1 by lia,zm r rfl rfl];dsimp only;simp! [yL,u,d,ib,o,H,f,B,C,zg0,zg4,zfd,zfx,D,N,r4,zad]
 .have o:((2:IM)==0)=false:=rfl;have H:((2:IM)==1)=false:=rfl;have f:yc T (k+3) yfU [.loc 0,.int (L+bi AB)] t=.ok (.int a) w:=f;refine#[_,A,v3.le (),G,?_];rw[show k+4=k+3+1 by lia,zm r rfl rfl];dsimp only;simp! [yL,u,d,ib,o,H,f,B,C,zg0,zg4,zfd,zfx,D,N,Q,r3,zad]
def lnB(t:AL):IQ:=asB 20 t&&decide (1<=t.cps.toList.length)
theorem spL(k:IL){b:IK IM}(c:b.length<=1000){l:IK AL}(d:l.all lnB=AC){x:AL}(f:x∈l){st}(h:Drw b 0 st):∃y a,asN 60 y/\Onl b 0 st a/\yc T (k+4) yjp [.loc 0,.str x] st=.ok (.str y) a:=by have:=A3.1 d x f;rw[lnB,AH,IN]at this;exact spw k c (zb3 this.1) this.2 h
def zmb(xs a):yq .add (.lst xs) (.lst a)=if xs.length+a.length<=16777216 then AA (.lst (xs++a))else none:=rfl
def ze1(f:IM):yq .mod (.int f) (.int 2)=AA (.int (f%2))/\yq .mod (.int f) (.int 4)=AA (.int (f%4))/\yq .mod (.int f) (.int 101)=AA (.int (f%101))/\yq .mod (.int f) (.int 32)=AA (.int (f%32))/\yq .fdiv (.int f) (.int 4)=AA (.int (f/4)):=#[rfl,rfl,rfl,rfl,rfl]
def yeh:Cs:=match yu.body with
 |.cons _ (.cons a _)=>a
 |_=>.nope
def yed:Cs:=match yu.body with
 |.cons _ (.cons _ (.cons _ (.cons a _)))=>a
 |_=>.nope
def yei:Cs:=match yu.body with
 |.cons _ (.cons _ (.cons _ (.cons _ (.cons _ (.cons a _)))))=>a
 |_=>.nope
def zsY(k:IL){N:IK IM}(z:N.length<=1000){wd sp}(hwd:asN 60 wd)(hsp:asN 60 sp){f:IM}{st}(h:Drw N 0 st):∃L A,(∀d∈L,NoD d)/\L.length=7/\Onl N 0 st A/\yc T (k+5) ylG [.loc 0,.str wd,.str sp,.int f] st=.ok (.lst L) A:=by
 have hT:T ylG=AA #[4,8,AB,yu.body]:=rfl;let#[m2,m4,C,_,d4]:=ze1 f;have O:=(ze1 (f/2)).1;have Q:=(ze1 (f/4)).2.1;let#[t1,U,q1]:=zd2 lWy (i:=f%2) () (show f%2<2 by lia);let#[q,H,X,o1,e1]:=spL k z (l:=lWy) ∅ U h;have h1:=o1.drw h;let#[ot,g,q2]:=zd2 [wd,sp] (i:=f/2%2) () (show f/2%2<2 by lia);have g:asN 60 ot:=by erw[AS,A9,IX]at g;rcases g with rfl|rfl<;>assumption
 let#[t2,Y,q3]:=zd2 lSh (i:=f/4%4) () (show f/4%4<4 by lia);let#[t,Z,hs0,o2,e2]:=spL k z (l:=lSh) ∅ Y h1;have oo:=o1.trans o2;have I:=zrZ (s:=q) (k:=AB) (l:=lWy);have J:=eqS g (zb3 (n:=20) (x:=oS' "led") ∅);have M:=zrZ (s:=t) (k:=AB) (l:=lSh);obtain⟨u,m⟩:∃B,lWy.any (· == q)=B:=#[_,rfl];obtain⟨w,o⟩:∃B,(ot==oS' "led")=B:=#[_,rfl];obtain⟨y,p⟩:∃B,lSh.any (· == t)=B:=#[_,rfl];rw[m]at I;rw[o]at J;rw[p]at M;dsimp only[lWy,lSh,oS',IK.map]at q1 q2 q3 I J M;have n1:=zkz (kd:=bif u then oS' "" else q) (ot:=bif w then oS' "lead" else ot) (sh:=bif y then oS' "sum" else t) (f:=f) (a:=60) (b:=60) (c:=60)
  (by cases u;exact X;exact(zb3 ∅:asN 60 (oS' ""))) (by cases u;exact m;exact(∅:lWy.any (· == oS' "")=AB)) (by cases w;exact g;exact(zb3 ∅:asN 60 (oS' "lead"))) (by cases w;exact o;exact(∅:(oS' "lead" == oS' "led")=AB)) (by cases y;exact hs0;exact(zb3 ∅:asN 60 (oS' "sum"))) (by cases y;exact p;exact(∅:lSh.any (· == oS' "sum")=AB))
 have i1:∀D E j:Option PV,ex (yc T (k+4)) [AA (.loc 0),AA (.str wd),AA (.str sp),AA (.int f),AA (.str q),D,E,j] H yeh=.nx [AA (.loc 0),AA (.str wd),AA (.str sp),AA (.int f),AA (.str (bif u then oS' "" else q)),D,E,j] H:=λ_ _ _=>by cases u<;>(simp! [yeh,yu,I];try rfl)
 have i2:∀G E j:Option PV,ex (yc T (k+4)) [AA (.loc 0),AA (.str wd),AA (.str sp),AA (.int f),G,AA (.str ot),E,j] H yed=.nx [AA (.loc 0),AA (.str wd),AA (.str sp),AA (.int f),G,AA (.str (bif w then oS' "lead" else ot)),E,j] H:=λ_ _ _=>by cases w<;>(simp! [yed,yu,J];try rfl)
 have i3:∀G D j:Option PV,ex (yc T (k+4)) [AA (.loc 0),AA (.str wd),AA (.str sp),AA (.int f),G,D,AA (.str t),j] Z yei=.nx [AA (.loc 0),AA (.str wd),AA (.str sp),AA (.int f),G,D,AA (.str (bif y then oS' "sum" else t)),j] Z:=λ_ _ _=>by cases y<;>(simp! [yei,yu,M];try rfl)
 clear I J M m o p
 refine#[_,Z,n1,rfl,oo,?_]
 clear n1
 have hb:yu.body=(match yu.body with
  |.cons a (.cons _ (.cons b (.cons _ (.cons c (.cons _ r)))))=>.cons a (.cons yeh (.cons b (.cons yed (.cons c (.cons yei r)))))
  |x=>x):=rfl
 rw[show k+5=k+4+1 by lia,zm hT rfl rfl,hb];generalize yeh=J1,yed=J2,yei=J3,(bif u then oS' "" else q)=z1,(bif w then oS' "lead" else ot)=z2,(bif y then oS' "sum" else t)=z3,f%2=f1,f/2%2=f2,f/4%4=f3 at *;unfold ycN;generalize f%101=f4 at *;simp! [yu,m2,q1,e1,i1,O,q2,i2,d4,Q,q3,e2,i3,C,zmb,zad]
def l17:IK Str:=yb7++[oS' "quotient",oS' "signed quotient",oS' "left",oS' "right",oS' "down",oS' "roll",oS' "led"]
def zkd{s:AL}{l a b:IK AL}(h:∀t∈l,t∈a \/ t∈b)(c:a.any (· == s)=AB)(d:b.any (· == s)=AB):l.any (· == s)=false:=by
 rw[GS]at c d ⊢;intro t f;rcases h t f with q|q
 .exact c t q
 .exact d t q
def zly(s:SO)(xs):ycJ (.loc s.length) (s++[.lst xs])=.ok (.lst xs) (s++[.dead]):=by simp[ycJ]
def zop(s:SO)(xs):ycL (.lst xs) s=.ok (.loc s.length) (s++[.lst xs]):=rfl
def zkw(s:SO)(xs:IK PV)(v:PV)(h:xs.length+1<=1000000):ybD .append (s++[.lst xs]) (.loc s.length) [v]=.ok .non (s++[.lst (xs++[v])]):=by
 have h:xs.length<1000000:=()
 simp[ybD,yd6,h]
def zjo(s:SO)(xs):yas .append (s++[.lst xs]) (.loc s.length)=AA true:=by simp[yas,yM]
theorem Drw.app{b:IK IM}{s:SO}(h:Drw b 0 s)(t:SO):Drw b 0 (s++t):=by
 let#[a,p,f,c,e]:=h;refine#[a,p,f,c,?_]
 cases s with
 |nil=>cases e
 |cons x s=>exact e
def ndT:Css:=match yF.body with
 |.cons _ (.cons _ (.cons _ (.cons _ (.cons _ r))))=>r
 |_=>.nil
def zsZ(k:IL){B:IK IM}(r:B.length<=1000){st}(h:Drw B 0 st):∃d g,NoD d/\Drw B 0 g/\yc T (k+6) yjr [.loc 0] st=.ok d g:=by
 have hT:T yjr=AA #[1,7,AB,yF.body]:=rfl;let#[n,s1,w0,w1,o1,Q]:=zjz (k+2) r (m:=40) () () h;have h1:=o1.drw h;let#[j,s2,j0,j1,o2,U]:=zjz (k+2) r (m:=17) () () h1;have h2:=o2.drw h1;let#[f,s3,f0,f1,o3,X]:=zsa (k+1) r h2;have h3:=o3.drw h2;let#[w,C,Y]:=zd2 l17 (i:=j) j0 (show j<17 by lia);have D:asN 60 w:=(asL l17 ∅ w C).le ();let#[t,u,E,o4,Z]:=spL (k+1) r (l:=l17) ∅ C h3;have z:=o4.drw h3;have q0:yq .add (.tp AB [.str "sum",.str "difference",.str "turned",.str "compare",.str "both",.str "any",.str "odd",.str "bare",.str "product",.str "signed product"]) (.tp AB [.str "quotient",.str "signed quotient",.str "left",.str "right",.str "down",.str "roll",.str "led"])=AA (.tp AB (l17.map .str)):=by ac_rfl
 have A:=zr9 (s:=t) (k:=AB) (l:=yb7);have G:=zr9 (s:=t) (k:=AB) (l:=lQu);have G:yp .notin (.str t) (.tp AB [.str "quotient",.str "signed quotient"])=_:=G;let#[t2,H,q3]:=zd2 lSh (i:=f%4) () (show f%4<4 by lia);dsimp only[lSh,oS',IK.map]at q3;have m4:=(ze1 f).2.1;have m32:=(ze1 n).2.2.2.1;have Q:yc T (k+5) yfU [.loc 0,.int 40] st=.ok (.int n) s1:=Q;have U:yc T (k+5) yfU [.loc 0,.int 17] s1=.ok (.int j) s2:=U;have X:yc T (k+5) yjq [.loc 0] s2=.ok (.int f) s3:=X;have Z:yc T (k+5) yjp [.loc 0,.str w] s3=.ok (.str t) u:=Z;rw[show k+6=k+5+1 by lia];generalize PV.tp AB (l17.map .str)=v17 at *;have nt:NoD (.str t2):=by erw[lSh,AS,A9,IX]at H;rcases H with rfl|rfl|rfl|rfl<;>exact zbU ∅
 have Y:∀st,idxV st v17 (.int j)=AA (.str w):=Y;have I:yc T (k+5+1) yjr [.loc 0] st=outI (exs (yc T (k+5)) [AA (.loc 0),AA (.int n),AA (.tp AB (yb7.map .str)),AA (.str w),AA (.int f),AA (.str t),AD] u ndT):=by
  have hb:yF.body=(match yF.body with
   |.cons a (.cons b (.cons c (.cons d (.cons e _))))=>.cons a (.cons b (.cons c (.cons d (.cons e ndT))))
   |x=>x):=rfl
  rw[zm hT rfl rfl,hb];generalize ndT=W;simp! [yF,Q,q0,U,Y,X,Z];rfl
 rw[I]
 clear I Q U X Z q0 Y o1 o2 o3 o4
 have J:∀d g,NoD d->Drw B 0 g->outI (exs (yc T (k+5)) [AA (.loc 0),AA (.int n),AA (.tp AB (yb7.map .str)),AA (.str w),AA (.int f),AA (.str t),AD] u ndT)=.ok d g->∃d g,NoD d/\Drw B 0 g/\outI (exs (yc T (k+5)) [AA (.loc 0),AA (.int n),AA (.tp AB (yb7.map .str)),AA (.str w),AA (.int f),AA (.str t),AD] u ndT)=.ok d g:=λd g a b c=>#[d,g,a,b,c];have A:yp .notin (.str t) (.tp AB (yb7.map .str))=_:=A
 by_cases M:34<n
 .have o:=IW M;have p:=IW (show 31<n by lia)
  cases hA:yb7.any (· == t)<;>rw[hA]at A
  .cases hB:lQu.any (· == t)<;>rw[hB]at G
   .refine J (.tp AB [.str t]) u (zsX E (zkd ∅ hA hB) (zkd ∅ hA hB)) z ?_;generalize PV.tp AB (yb7.map .str)=y at *;simp! [ndT,yF,o,A,G,zad]
   .refine J _ u nt z ?_;generalize PV.tp AB (yb7.map .str)=y at *;simp! [ndT,yF,o,A,G,p,m4,q3,zad]
  .refine J _ u nt z ?_;generalize PV.tp AB (yb7.map .str)=y at *;simp! [ndT,yF,o,A,p,m4,q3,zad]
 .have o:=IT M;generalize PV.tp AB (yb7.map .str)=y at *
  by_cases N:31<n
  .have p:=IW N;refine J _ u nt z ?_;simp! [ndT,yF,o,p,m4,q3,zad]
  .have p:=IT N;let#[L,s5,hL,O,o5,e5]:=zsY k r D E (f:=f) (((((z.app [.dead]).app [.dead]).app [.dead]).app [.dead]).app [.dead]);have h5:=o5.drw (((((z.app [.dead]).app [.dead]).app [.dead]).app [.dead]).app [.dead]);have h32:((ydE f++L).length:IM)=32:=by rw[Ab,O];rfl
   let#[d,hd,_,q5]:=zgF (ydE f++L) (i:=n%32) () ();have nd:NoD d:=by
    rcases BG.1 hd with q|q
    .exact zm4 f0 d q
    .exact hL d q
   erw[ydE,sS',Bd,CM]at q5;refine J d s5 nd h5 ?_;simp! [ndT,yF,o,p,IC.ve30,zly,zop,zmb,zjo,zkw,e5,O,m32,q5,zad]
def l16:IK Str:=[oS' "sum",oS' "difference",oS' "compare",oS' "both",oS' "any",oS' "odd",oS' "product",oS' "signed product",oS' "quotient",oS' "signed quotient",oS' "turned",oS' "bare",oS' "left",oS' "right",oS' "down",oS' "roll"]
def zom{i:IL}(a:i<16)(st):idxV st (.tp AB (l16.map .str)) (.int (i:IM))=AA (.str (nmG i)):=by rcases (by lia:i=0 \/ i=1 \/ i=2 \/ i=3 \/ i=4 \/ i=5 \/ i=6 \/ i=7 \/ i=8 \/ i=9 \/ i=10 \/ i=11 \/ i=12 \/ i=13 \/ i=14 \/ i=15)with rfl|rfl|rfl|rfl|rfl|rfl|rfl|rfl|rfl|rfl|rfl|rfl|rfl|rfl|rfl|rfl<;>rfl
def ycP(n:IL)(d:PV):Prop:=(∃i,i<12/\d=.tp AB [.str (nmG i)]) \/ (∃i s:IL,12<=i/\i<16/\s<=100/\d=.tp AB [.str (nmG i),.int (s:IM)]) \/ ∃sr sm,∃e:IM,∃N:IL,e=(N:IM)-n/\1<=N/\N<=8/\-3<=e/\e<=4/\d=yae sr sm e
def zi4{i:IM}(a:0<=i)(c:i<2):∃b,∀st,idxV st (.tp AB [.str "plain",.str "signed"]) (.int i)=AA (.str (ybr b)):=by
 rcases (by lia:i=0 \/ i=1)with rfl|rfl
 .exact#[AB,λ_=>rfl]
 .exact#[AC,λ_=>rfl]
def zs0(k:IL){l:IK IM}(f:l.length<=1000){n:IL}(hn:1<=n)(X:n<=4){st}(h:Drw l 0 st):∃d j,ycP n d/\Onl l 0 st j/\yc T (k+4) ykf [.loc 0,.int (n:IM)] st=.ok d j:=by
 have o:T ykf=AA #[2,7,AB,yR.body]:=rfl;let#[Y,s1,Z,w1,H,p]:=zjz k f (m:=17) () () h;have I:=H.drw h;let#[a,s2,a0,a1,J,r]:=zjz k f (m:=101) () () I;have L:=J.drw I;let#[b,s3,b0,b1,M,t]:=zjz k f (m:=4) () () L;have N:=M.drw L;let#[c,s4,c0,c1,O,u]:=zjz k f (m:=8) () () N;have h4:=O.drw N;let#[g,w,g0,g1,o5,x]:=zjz k f (m:=4) () () h4;have y:=(((H.trans J).trans M).trans O).trans o5;obtain⟨s,hs,A⟩:∃s:IL,s<=100/\∀st,idxV st (.tp AB [.int 0,.int 1,.int 100,.int a]) (.int b)=AA (.int (s:IM)):=by
  let#[v,Q,q,_]:=zgF [.int 0,.int 1,.int 100,.int a] b0 (show b<4 by lia);erw[AS,A9,IX]at Q;rcases Q with rfl|rfl|rfl|rfl
  .exact#[0,(),q AB]
  .exact#[1,(),q AB]
  .exact#[100,(),q AB]
  .exact#[a.toNat,(),λst=>by rw[q AB,Cu a0]]
 let#[sr,q2]:=zi4 (i:=g%2) () ();let#[sm,q3]:=zi4 (i:=g/2) () ();have m2:=(ze1 g).1;have B:yq .add (.tp AB [.str "sum",.str "difference",.str "compare",.str "both",.str "any",.str "odd",.str "product",.str "signed product",.str "quotient"]) (.tp AB [.str "signed quotient",.str "turned",.str "bare",.str "left",.str "right",.str "down",.str "roll"])=AA (.tp AB (l16.map .str)):=by ac_rfl
 let#[i,rfl]:=zcB Z;obtain⟨E,hE1,hE2,hE3,mx⟩:∃E:IM,1-(n:IM)<=E/\c-3<=E/\(E=c-3 \/ E=1-n)/\∀st,yaj .max st [.int (c-3),.int (1-(n:IM))]=AA (.int E):=#[if c-3<1-(n:IM)then 1-n else c-3,by split<;>lia,by split<;>lia,by split<;>simp,λ_=>rfl];rw[show k+4=k+3+1 by lia]
 by_cases C:i=16
 .subst C;have z:(((16:IL):IM)==16)=true:=rfl;refine#[yae sr sm E,w,.inr (.inr #[sr,sm,E,(E+n).toNat,(),(),(),(),(),rfl]),y,?_];rw[zm o rfl rfl];dsimp only;generalize PV.tp AB (l16.map .str)=D at *;simp! [yR,p,r,t,A,u,x,B,z,m2,q2,q3,mx,zad]
 .have z:((i:IM)==16)=false:=IP.2 ();have U:=λst=>zom (i:=i) () st;generalize PV.tp AB (l16.map .str)=D at *
  by_cases k11:11<i
  .have G:decide ((11:IM)<(i:IM))=true:=IW ();refine#[_,w,.inr (.inl #[i,s,(),(),hs,rfl]),y,?_];rw[zm o rfl rfl];dsimp only;simp! [yR,p,r,t,A,u,x,B,z,G,U,zad]
  .have G:decide ((11:IM)<(i:IM))=false:=IT ();refine#[_,w,.inl #[i,(),rfl],y,?_];rw[zm o rfl rfl];dsimp only;simp! [yR,p,r,t,A,u,x,B,z,G,U,zad]
mutual
theorem zsb:∀(v:PV) (n:IL),shd n v=AC->peq v v=AC
 |.non,n,h=>rfl
 |.bl b,n,h=>IZ b
 |.int i,n,h=>IZ i
 |.str s,n,h=>IZ s
 |.tp k a,n,h=>by erw[shd,AH]at h;exact zr0 a (n-1) h.2
 |.lst a,n,h=>by erw[shd,AH]at h;exact zr0 a (n-1) h.2
 |.loc _,n,h=>by simp[shd]at h
 |.exn _,n,h=>by simp[shd]at h
 |.scr _,n,h=>by simp[shd]at h
 |.fnc _,n,h=>by simp[shd]at h
theorem zr0:∀(v:IK PV) (n:IL),yaU n v=AC->ybJ v v=AC
 |[],n,h=>rfl
 |x::a,n,h=>by erw[yaU,AH]at h;show (peq x x&&ybJ a a)=AC;rw[zsb x n h.1,zr0 a n h.2];rfl
end
def sgN(i:IL):IQ:=decide (10<=i)
def qbN(i:IL):IQ:=i==8 || i==9
def pbN(i:IL):IQ:=i==6 || i==7
theorem nmF{i:IL}(a:i<16):yp .isin (.str (nmG i)) yg6=AA (.bl (!sgN i))/\yp .isin (.str (nmG i)) yfd=AA (.bl (qbN i))/\yp .isin (.str (nmG i)) (.tp AB [.str "turned",.str "bare",.str "left",.str "right",.str "down",.str "roll",.str "led"])=AA (.bl (sgN i))/\yp .isin (.str (nmG i)) (.tp AB [.str "quotient",.str "signed quotient"])=AA (.bl (qbN i))/\yp .eq (.str (nmG i)) (.str "led")=AA (.bl AB)/\yp .eq (.str (nmG i)) (.str "compare")=AA (.bl (i==2))/\yp .isin (.str (nmG i)) yiv=AA (.bl (pbN i))/\(nmG i).length<=2000:=by rcases (by lia:i=0 \/ i=1 \/ i=2 \/ i=3 \/ i=4 \/ i=5 \/ i=6 \/ i=7 \/ i=8 \/ i=9 \/ i=10 \/ i=11 \/ i=12 \/ i=13 \/ i=14 \/ i=15)with rfl|rfl|rfl|rfl|rfl|rfl|rfl|rfl|rfl|rfl|rfl|rfl|rfl|rfl|rfl|rfl<;>exact#[by ac_rfl,by ac_rfl,by ac_rfl,by ac_rfl,by ac_rfl,by ac_rfl,by ac_rfl,∅]
theorem isP{nm}{xs:IK PV}{b}(nl:nLs xs=AC)(c:yp .isin (.str nm) yg6=AA (.bl b)):yc T 20 yh6 [.tp AB (.str nm::xs)] []=.ok (.bl b) []:=by
 have a:T yh6=AA yiI:=rfl;have f:∀st,idxV st (.tp AB (.str nm::xs)) (.int 0)=AA (.str nm):=λ_=>ix0;have nl:nLs [.tp AB (.str nm::xs)]=true:=by simp[nLs,nL,nl]
 rw[show (20:IL)=19+1 from rfl,zc a rfl rfl nl];generalize PV.tp AB (.str nm::xs)=d at *;simp! [yiI,f,c];rfl
structure GD(w n:IL)(d:PV)(sg qb:IQ):Prop where
 nl:nL d=AC
 i0:∃nm,(∀st,idxV st d (.int 0)=AA (.str nm))/\yp .isin (.str nm) (.tp AB [.str "turned",.str "bare",.str "left",.str "right",.str "down",.str "roll",.str "led"])=AA (.bl sg)/\yp .isin (.str nm) (.tp AB [.str "quotient",.str "signed quotient"])=AA (.bl qb)
 fit:∀x y:IM,(¬(0<=x/\x<2^(w*n)) \/ ¬(0<=y/\y<2^(w*n)))->x.natAbs<2^1000->y.natAbs<2^1000->∀st,yc T 22 yl [d,.int w,.int n,.int x,.int y] st=.exc 0 st
 one:sg=AC->∀x y:IM,0<=x->x<2^(w*n)->0<=y->y<2^(w*n)->y≠0->∀st,yc T 22 yl [d,.int w,.int n,.int x,.int y] st=.exc 0 st
 quo:qb=AC->∀x:IM,0<=x->x<2^(w*n)->∀st,yc T 22 yl [d,.int w,.int n,.int x,.int 0] st=.exc 7 st
 com:∀x y:IM,0<=x->x<2^(w*n)->0<=y->y<2^(w*n)->(y≠0->sg=AB)->(y=0->qb=AB)->∃ws us a b c e,∀st,yc T 23 yet [d,.int w,.int n,.int x,.int y] st=.ok (dvv ws us a b c e) st
 ran:∀x y:IM,0<=x->x<2^(w*n)->0<=y->y<2^(w*n)->(y≠0->sg=AB)->(y=0->qb=AB)->∃v,∀st,yc T 23 yhW [d,.int w,.int n,.int x,.int y] st=.ok v st
 tel:∃v,(∀st,yc T 23 yY [d] st=.ok v st)/\yp .eq v v=AA (.bl AC)
def zrS{C}{nm:AL}{xs:IK PV}{w n o:IL}{sg qb:IQ}(h:yc3 C (.tp AB (.str nm::xs))=AC)(I:n∈C)(hw:4<=w)(d:w<=16)(g:n<=4)(nl:nLs xs=AC)(p:nm.length<=2000)(J:yp .isin (.str nm) yg6=AA (.bl (!sg)))(L:yp .isin (.str nm) yfd=AA (.bl qb))(M:yp .isin (.str nm) (.tp AB [.str "turned",.str "bare",.str "left",.str "right",.str "down",.str "roll",.str "led"])=AA (.bl sg))(N:yp .isin (.str nm) (.tp AB [.str "quotient",.str "signed quotient"])=AA (.bl qb))
  (O:yc T 20 yk [.tp AB (.str nm::xs),.int n] []=.ok (.int o) []) (r:o<=8)
  (Q:∀t,ybG (sg=AB) qb (.tp AB (.str nm::xs)) w n o t->∀x y:IM,0<=x->x<2^(w*n)->0<=y->y<2^(w*n)->(y≠0->sg=AB)->(y=0->qb=AB)->∃U us a b c e,∀st,yc T 23 yet [.tp AB (.str nm::xs),.int w,.int n,.int x,.int y] st=.ok (dvv U us a b c e) st):GD w n (.tp AB (.str nm::xs)) sg qb:=by
 have E:=isP nl J;let#[t,X,ok,D]:=zsR (pr:=sg=AB) h I d g nl (λq=>by rw[E,q];rfl) L O;have G:∀st,idxV st (.tp AB (.str nm::xs)) (.int 0)=AA (.str nm):=λ_=>ix0;refine#[D.nl,#[nm,G,M,N],λx y hf Y u st=>znk 1 D d () hf Y u st,λZ x y j l z A u st=>znf 1 D G p (by rw[E,Z];rfl) d () j l z A u st,λB x j l st=>?_,Q t D,λx y j l z A hp B=>zsS 1 D ok X () d g r j l z A hp B,?_]
 .subst B;exact zmv 1 D d () j l st
 .unfold yc3 at h;split at h
  .rename_i b H e0;erw[AH]at h;have m:=h.2;refine#[.tp b H,λst=>?_,?_]
   .have e:=zC e0 5;exact zb5 (f:=yY) (fn:=yh2) rfl rfl rfl (by simp[nLs,D.nl]) e st
   .have m:shd 60 (.tp b H)=true:=m;erw[yp,m,zsb _ _ m,CU,IV]
  .cases h
def yf0(i:IL):IQ:=yc3 [1,2,3,4] (.tp AB [.str (nmG i)])
def zkI:(Bk 12).all yf0=true:=∅
def yds(i s:IL):IQ:=yc3 [1,2,3,4] (.tp AB [.str (nmG i),.int (s:IM)])
def ziz:([12,13,14,15].all λi=>(Bk 101).all (yds i))=true:=∅
def ycT(sr sm:IQ)(j:IL):IQ:=yc3 ([1,2,3,4].filter λn=>decide (4<=n+j)) (yae sr sm ((j:IM)-3))
def zja:([AB,AC].all λa=>[AB,AC].all λb=>(Bk 8).all (ycT a b))=true:=∅
theorem in4{n:IL}(b:1<=n)(a:n<=4):n∈[1,2,3,4]:=by erw[AS,A9,IX];lia
theorem gdN{i w n:IL}(N:i<12)(o:4<=w)(g:w<=16)(p:1<=n)(f:n<=4):GD w n (.tp AB [.str (nmG i)]) (sgN i) (qbN i):=by
 have h:yf0 i=true:=A3.1 zkI i (by simp;lia);let#[G,H,I,J,O,j,Q,L]:=nmF (i:=i) ()
 by_cases B:i=2
 .subst B;have q:yc T 20 yk [.tp AB [.str (nmG 2)],.int (n:IM)] []=.ok (.int ((0:IL):IM)) []:=by have C:T yk=AA yT:=rfl;have U:∀st,idxV st (.tp AB [.str (nmG 2)]) (.int 0)=AA (.str (nmG 2)):=λ_=>rfl;have X:yp .eq (.str (nmG 2)) (.str "compare")=AA (.bl AC):=j;have nl2:nLs [.tp AB [.str (nmG 2)],.int (n:IM)]=true:=rfl;rw[show (20:IL)=19+1 from rfl,zc C rfl rfl nl2];generalize PV.tp AB [.str (nmG 2)]=d at *;simp! [yT,U,X];rfl
  exact zrS h (in4 p f) o g f rfl L G H I J q () (λY D x y r t u z E A=>zsW 1 D o g p f r t u z E A)
 .have j:yp .eq (.str (nmG i)) (.str "compare")=AA (.bl AB):=by rw[j,IP.2 B]
  have q:=aw (xs:=[]) (n:=n) rfl (λ_=>ix0) j O Q;obtain⟨m,M⟩:∃m,(if pbN i=AC then 2*n else n)=m+1:=#[(if pbN i=AC then 2*n else n)-1,by split<;>lia];have l:m+1<=8:=by rw[<-M];split<;>lia
  rw[M]at q;refine zrS h (in4 p f) o g f rfl L G H I J q l (λY D x y r t u z E A=>?_);let#[a,b,c,Z]:=zsT 1 o g p f r t u z N B (λh=>by have:=A h;erw[qbN,CQ,IP]at this;exact this)
  exact zrY 1 D (λ_=>ix0) j () g f l r t u z E A Z
theorem gdS{i s w n:IL}(E:12<=i)(G:i<16)(H:s<=100)(l:4<=w)(f:w<=16)(o:1<=n)(d:n<=4):GD w n (.tp AB [.str (nmG i),.int (s:IM)]) AC false:=by
 have h:yds i s=true:=by have h:=A3.1 ziz i (by erw[AS,A9,IX];lia);exact A3.1 h s (by simp;lia)
 let#[p,q,r,t,I,g,u,J]:=nmF (i:=i) ();have L:sgN i=true:=IW ();have M:qbN i=false:=by erw[qbN,CQ,IP];lia
 have N:pbN i=false:=by erw[pbN,CQ,IP];lia
 rw[L]at p r;rw[M]at q t;rw[N]at u;have g:yp .eq (.str (nmG i)) (.str "compare")=AA (.bl AB):=by rw[g,IP.2 ()]
 have j:=aw (xs:=[.int (s:IM)]) (n:=n) rfl (λ_=>ix0) g I u;obtain⟨m,O⟩:∃m,n=m+1:=#[n-1,()];have j:yc T 20 yk [.tp AB [.str (nmG i),.int (s:IM)],.int (n:IM)] []=.ok (.int (n:IL)) []:=j;refine zrS h (in4 o d) l f d rfl J p q r t j () (λQ D x y z A B C U X=>?_);let#[a,b,c,Y]:=zsU 1 l f o d z A B C E G H;have Z:ybG (AC=AB) AB (.tp AB [.str (nmG i),.int (s:IM)]) w n (m+1) Q:=O ▸ D;exact zrY 1 Z (λ_=>ix0) g () f d () z A B C U X Y
theorem gdL(sr sm){e:IM}{N w n:IL}(o:e=(N:IM)-n)(u:1<=N)(l:N<=8)(O:-3<=e)(Q:e<=4)(p:4<=w)(f:w<=16)(q:1<=n)(d:n<=4):GD w n (yae sr sm e) AC false:=by
 obtain⟨j,z,A⟩:∃j:IL,e=(j:IM)-3/\j<8:=#[(e+3).toNat,(),()];have h:ycT sr sm j=true:=by have h:=A3.1 zja sr (by cases sr<;>simp);have h:=A3.1 h sm (by cases sm<;>simp);exact A3.1 h j (by simp;lia)
 unfold ycT at h;rw[<-z]at h;have g:n∈[1,2,3,4].filter λn=>decide (4<=n+j):=by rw[FM];exact#[in4 q d,IW ()]
 have B:yp .eq ybb (.str "compare")=AA (.bl AB):=by ac_rfl
 obtain⟨m,C⟩:∃m,N=m+1:=#[N-1,()];refine zrS (sg:=AC) (qb:=AB) h g p f d rfl ∅ (by ac_rfl) (by ac_rfl) (by ac_rfl) (by ac_rfl) (awL sr sm o) () (λE D x y r t G H I J=>?_);let#[a,b,c,L]:=zsV 1 sr sm o p f q d u l r t (y:=y);have M:ybG (AC=AB) AB (yae sr sm e) w n (m+1) E:=C ▸ D;exact zrY 1 M (λ_=>ix0) B () f d () r t G H I J L
theorem gdA{w n:IL}{d}(h:ycP n d)(c:4<=w)(a:w<=16)(f:1<=n)(b:n<=4):∃l m,(l=AC->m=AB)/\GD w n d l m:=by
 rcases h with⟨i,g,rfl⟩|⟨i,s,o,g,p,rfl⟩|⟨sr,sm,e,N,q,r,j,t,u,rfl⟩
 .refine#[_,_,λz=>?_,gdN g c a f b];have:=Ia z;erw[qbN,CQ,IP];lia
 .exact#[_,_,λ_=>rfl,gdS o g p c a f b]
 .exact#[_,_,λ_=>rfl,gdL sr sm q r j t u c a f b]
def zmk(k:IL){i:IL}(f:i<3){d}(b:NoD d)(w n x y:IM)(st:SO):yc T (21+k+2) yv [.int (i:IM),d,.int w,.int n,.int x,.int y] st=.ok (.str "deed") st:=by
 let#[b,h]:=b;have a:nLs [d,.int w,.int n,.int x,.int y]=true:=by simp[nLs,nL,b]
 refine zf8 (21+k) (c:=6) f a (λst=>?_) rfl kd6 st;rcases (by lia:i=0 \/ i=1 \/ i=2)with rfl|rfl|rfl
 .have:=zpC (k+1) b h st;rw[show 21+(k+1)=21+k+1 by lia]at this;exact this
 .exact ziT (21+k) a (λst=>zlY k a h st) st
 .exact zj5 (21+k) a (λst=>zlY k a h st) st
def zgl{call b t c e}{st:SO}:∀l:IK IM,(∀x∈l,ya9 call b t c e (.int x) st=.ok (AA (.bl AC)) st)->yac call b t c e (l.map .int) st=.ok (l.map λ_=>.bl AC) st
 |[],_=>zb0
 |a::l,h=>by rw[AO,zao,h a (by simp),bd_ok,zgl l (λx d=>h x (by simp[d])),bd_ok];rfl
def zou:yp .eq (.str "deed") (.str "deed")=AA (.bl AC):=by ac_rfl
def zdO{d t u:PV}{L e:IM}{b:IQ}(nl:nL d=AC)(c:∀st,yaj .len st [d]=AA (.int L))(f:decide (L<2)=AB)(g:∀st,idxV st d (.int (-1))=AA (.int e))(j:yp .notin (.int e) (.tp AB [.int 0,.int 1])=AA (.bl AB))(l:(e==1)=b)(m:ybO d AD (AA (-1))=AA u)(o:yq .add u (.tp AB [.bl b])=AA t)(p:NoD t)(w n x:IM)(st:SO):yc T 24 yio [d,.int w,.int n,.int x] st=.ok (.bl AC) st:=by
 have r:T yio=AA #[4,5,AC,yD.body]:=rfl;have y:yby (.int 3)=AA ([0,1,2].map PV.int):=rfl;have q:yac (yc T 23) [AD,AA t,AA (.int w),AA (.int n),AA (.int x)] (.n 0) (.cst (.bl AC)) (.cmp .eq (.call yv (.cons (.var 0) (.cons (.var 1) (.cons (.var 2) (.cons (.var 3) (.cons (.var 4) (.cons (.cst (.int 0)) .nil))))))) (.cst (.str "deed"))) ([0,1,2].map PV.int) []=.ok ([(0:IM),1,2].map λ_=>.bl AC) []:=zgl [0,1,2] λz a=>by
  obtain⟨i,A,rfl⟩:∃i:IL,i<3/\z=i:=by
   erw[AS,A9,IX]at a;rcases a with rfl|rfl|rfl
   .exact#[0,(),rfl]
   .exact#[1,(),rfl]
   .exact#[2,(),rfl]
  have B:yc T 23 yv [.int (i:IM),t,.int w,.int n,.int x,.int 0] []=_:=zmk 0 A p w n x 0 [];simp! [ya9,B,zou]
 have C:∀st,ybA (.ok ([(0:IM),1,2].map λ_=>PV.bl AC) st)=.ok (.lst ([(0:IM),1,2].map λ_=>.bl AC)) st:=λst=>zen _ (by simp) st;have D:∀st,yaj .all st [.lst ([(0:IM),1,2].map λ_=>PV.bl AC)]=AA (.bl AC):=λ_=>rfl;rw[zc r rfl rfl (by simp[nLs,nL,nl])];dsimp only;generalize [(0:IM),1,2].map (λ_=>PV.bl AC)=Z,[(0:IM),1,2].map PV.int=Y at *;simp! [yD,c,f,g,j,zg0,zg4,zfd,zfx,m,l,o,y,q,C,D,zhv]
def zff{d:PV}{L:IM}(nl:nL d=AC)(a:∀st,yaj .len st [d]=AA (.int L))(h:decide (L<2)=AC \/ decide (L<2)=AB/\∃e,(∀st,idxV st d (.int (-1))=AA (.int e))/\yp .notin (.int e) (.tp AB [.int 0,.int 1])=AA (.bl AC))(w n x:IM)(st:SO):yc T 24 yio [d,.int w,.int n,.int x] st=.ok (.bl AC) st:=by
 have b:T yio=AA #[4,5,AC,yD.body]:=rfl;rw[zc b rfl rfl (by simp[nLs,nL,nl])];dsimp only;rcases h with h|⟨h,e,c,f⟩
 .simp! [yD,a,h,zhv]
 .simp! [yD,a,h,c,f,zhv]
theorem n01(e:IM):yp .notin (.int e) (.tp AB [.int 0,.int 1])=AA (.bl (!(((0:IM)==e) || (((1:IM)==e) || false)))):=rfl
theorem twins{n:IL}{d}(h:ycP n d)(w a x:IM)(st:SO):yc T 24 yio [d,.int w,.int a,.int x] st=.ok (.bl AC) st:=by
 have g:∀e:IM,e≠0->e≠1->yp .notin (.int e) (.tp AB [.int 0,.int 1])=AA (.bl AC):=λe l j=>by rw[n01,IP.2 (Ax l),IP.2 (Ax j)];rfl
 rcases h with⟨i,m,rfl⟩|⟨i,s,j,m,q,rfl⟩|⟨sr,sm,e,N,o,r,p,y,z,rfl⟩
 .exact zff (L:=1) rfl (λ_=>rfl) (.inl rfl) w a x st
 .by_cases c:s=0
  .subst c;exact zdO (L:=2) (e:=0) (b:=AB) (u:=.tp AB [.str (nmG i)]) (t:=.tp AB [.str (nmG i),.bl AB]) rfl (λ_=>rfl) rfl (λ_=>rfl) rfl rfl rfl rfl (by rcases (by lia:i=12 \/ i=13 \/ i=14 \/ i=15)with rfl|rfl|rfl|rfl<;>exact zbU ∅) w a x st
  .by_cases f:s=1
   .subst f;exact zdO (L:=2) (e:=1) (b:=AC) (u:=.tp AB [.str (nmG i)]) (t:=.tp AB [.str (nmG i),.bl AC]) rfl (λ_=>rfl) rfl (λ_=>rfl) rfl rfl rfl rfl (by rcases (by lia:i=12 \/ i=13 \/ i=14 \/ i=15)with rfl|rfl|rfl|rfl<;>exact zbU ∅) w a x st
   .exact zff (L:=2) rfl (λ_=>rfl) (.inr #[rfl,s,λ_=>rfl,g _ () ()]) w a x st
 .clear o
  by_cases c:e=0
  .subst c;exact zdO (L:=4) (e:=0) (b:=AB) (u:=.tp AB [ybb,.str (ybr sr),.str (ybr sm)]) (t:=.tp AB [ybb,.str (ybr sr),.str (ybr sm),.bl AB]) rfl (λ_=>rfl) rfl (λ_=>rfl) rfl rfl rfl rfl (by cases sr<;>cases sm<;>exact zbU ∅) w a x st
  .by_cases f:e=1
   .subst f;exact zdO (L:=4) (e:=1) (b:=AC) (u:=.tp AB [ybb,.str (ybr sr),.str (ybr sm)]) (t:=.tp AB [ybb,.str (ybr sr),.str (ybr sm),.bl AC]) rfl (λ_=>rfl) rfl (λ_=>rfl) rfl rfl rfl rfl (by cases sr<;>cases sm<;>exact zbU ∅) w a x st
   .exact zff (L:=4) rfl (λ_=>rfl) (.inr #[rfl,e,λ_=>rfl,g _ c f]) w a x st
def oA:Css:=match yaJ.body with
 |.cons _ (.cons _ (.cons _ (.cons _ (.cons _ (.cons _ (.cons _ (.cons _ (.cons _ (.cons _ (.cons (.for _ _ b) _))))))))))=>b
 |x=>x
def oB:Css:=match yaJ.body with
 |.cons _ (.cons _ (.cons _ (.cons _ (.cons _ (.cons _ (.cons _ (.cons _ (.cons _ (.cons _ (.cons _ (.cons (.for _ _ b) _)))))))))))=>b
 |x=>x
def iA:Css:=match oA with
 |.cons (.for _ _ b) _=>b
 |x=>x
def iB:Css:=match oB with
 |.cons (.for _ _ b) _=>b
 |x=>x
def zmB:yp .ne (.str "deed") (.str "deed")=AA (.bl AB):=by ac_rfl
def zqY:yp .ne (.str "fit") (.str "fit")=AA (.bl AB):=by ac_rfl
theorem bt2(i j:IL)(a b:PV)(U:IC.Env):yH (.t [i,j]) (.tp AB [a,b]) U=AA ((U.set i (AA a)).set j (AA b)):=rfl
abbrev prV(p:IM×IM):PV:=.tp AB [.int p.1,.int p.2]
theorem agn(U)(s)(k:IC.Env->SO->Fl):yay (.nx U s) k=k U s:=rfl
section
variable {e0 e1 e2 e5 e6 e7 e8 e9 e10 e11 e15:Option PV}{D:PV}{w n:IM}{i:IL}{st:SO}
theorem inA:∀(c:IK (IM×IM)) (q13 q14:Option PV),(∀p∈c,∀st,yc T 24 yv [.int (i:IM),D,.int w,.int n,.int p.1,.int p.2] st=.ok (.str "deed") st)->∃a b,yaT (yc T 24) (.t [13,14]) iA (c.map prV) [e0,e1,AA D,AA (.int w),AA (.int n),e5,e6,e7,e8,e9,e10,e11,AA (.int (i:IM)),q13,q14,e15] st=.nx [e0,e1,AA D,AA (.int w),AA (.int n),e5,e6,e7,e8,e9,e10,e11,AA (.int (i:IM)),a,b,e15] st
 |[],q13,q14,_=>#[q13,q14,zJ]
 |p::c,q13,q14,h=>by
  have d:=h p (by simp);have f:exs (yc T 24) [e0,e1,AA D,AA (.int w),AA (.int n),e5,e6,e7,e8,e9,e10,e11,AA (.int (i:IM)),AA (.int p.1),AA (.int p.2),e15] st iA=.nx [e0,e1,AA D,AA (.int w),AA (.int n),e5,e6,e7,e8,e9,e10,e11,AA (.int (i:IM)),AA (.int p.1),AA (.int p.2),e15] st:=by simp! [iA,oA,yaJ,d,zmB]
  let#[a,b,ih]:=inA c (AA (.int p.1)) (AA (.int p.2)) λq g=>h q (by simp[g]);refine#[a,b,?_];rw[AO,zy (U1:=[e0,e1,AA D,AA (.int w),AA (.int n),e5,e6,e7,e8,e9,e10,e11,AA (.int (i:IM)),AA (.int p.1),AA (.int p.2),e15]) rfl,f,agn,ih]
theorem inB:∀(c:IK (IM×IM)) (q13 q14:Option PV),(∀p∈c,∀st,yc T 24 yv [.int (i:IM),D,.int w,.int n,.int p.1,.int p.2] st=.ok (.str "fit") st)->∃a b,yaT (yc T 24) (.t [13,14]) iB (c.map prV) [e0,e1,e2,AA (.int w),AA (.int n),e5,e6,e7,AA D,e9,e10,e11,AA (.int (i:IM)),q13,q14,e15] st=.nx [e0,e1,e2,AA (.int w),AA (.int n),e5,e6,e7,AA D,e9,e10,e11,AA (.int (i:IM)),a,b,e15] st
 |[],q13,q14,_=>#[q13,q14,zJ]
 |p::c,q13,q14,h=>by
  have d:=h p (by simp);have f:exs (yc T 24) [e0,e1,e2,AA (.int w),AA (.int n),e5,e6,e7,AA D,e9,e10,e11,AA (.int (i:IM)),AA (.int p.1),AA (.int p.2),e15] st iB=.nx [e0,e1,e2,AA (.int w),AA (.int n),e5,e6,e7,AA D,e9,e10,e11,AA (.int (i:IM)),AA (.int p.1),AA (.int p.2),e15] st:=by simp! [iB,oB,yaJ,d,zqY]
  let#[a,b,ih]:=inB c (AA (.int p.1)) (AA (.int p.2)) λq g=>h q (by simp[g]);refine#[a,b,?_];rw[AO,zy (U1:=[e0,e1,e2,AA (.int w),AA (.int n),e5,e6,e7,AA D,e9,e10,e11,AA (.int (i:IM)),AA (.int p.1),AA (.int p.2),e15]) rfl,f,agn,ih]
end
def zr1{e0 e1 e8 e9 e10 e11 e15 q13 q14:Option PV}{D}{w n x f top:IM}{i:IL}{st}(g:i<3)(c:NoD D):∃a b,exs (yc T 24) [e0,e1,AA D,AA (.int w),AA (.int n),AA (.int top),AA (.int x),AA (.int f),e8,e9,e10,e11,AA (.int (i:IM)),q13,q14,e15] st oA=.nx [e0,e1,AA D,AA (.int w),AA (.int n),AA (.int top),AA (.int x),AA (.int f),e8,e9,e10,e11,AA (.int (i:IM)),a,b,e15] st:=by
 let#[a,b,h]:=inA (e0:=e0) (e1:=e1) (e5:=AA (.int top)) (e6:=AA (.int x)) (e7:=AA (.int f)) (e8:=e8) (e9:=e9) (e10:=e10) (e11:=e11) (e15:=e15) (D:=D) (w:=w) (n:=n) (i:=i) (st:=st) [(x,0),(0-1-f,0),(top+f,1),(x,top),(x,0),(top+f,1)] q13 q14 (λp _ st=>zmk 1 g c w n p.1 p.2 st);erw[AO,BV,prV]at h;refine#[a,b,?_]
 have d:oA=(match oA with
  |.cons (.for t j _) r=>.cons (.for t j iA) r
  |z=>z):=rfl
 rw[d];generalize iA=I at *;simp! [oA,yaJ,h]
def yda(q:IQ):Str:=if q=AC then AE "quotient" else AE "told"
def ydT(q:IQ):Str:=if q=AC then AE "fit" else AE "told"
def zj3{i w n:IL}{D sg qb}(l:1<=i)(m:i<3)(G:GD w n D sg qb){x y:IM}(a:0<=x)(b:x<2^(w*n))(c:0<=y)(d:y<2^(w*n))(f:y≠0->sg=AB)(g:y=0->qb=AB)(st:SO):yc T 24 yv [.int (i:IM),D,.int w,.int n,.int x,.int y] st=.ok (.str "told") st:=by
 have j:nLs [D,.int w,.int n,.int x,.int y]=true:=by simp[nLs,nL,G.nl]
 rcases (by lia:i=1 \/ i=2)with rfl|rfl
 .let#[_,_,_,_,_,_,e]:=G.com x y a b c d f g;exact zdp 23 (i:=1) () j e st
 .let#[_,e]:=G.ran x y a b c d f g;exact zdp 23 (i:=2) () j e st
def zsc{e0 e1 e2 e11 q13 q14 q15:Option PV}{D}{w n:IL}{x f Y:IM}{i:IL}{st sg qb}(g:1<=i)(l:i<3)(E:4<=w)(u:w<=16)(H:1<=n)(y:n<=4)(G:GD w n D sg qb)(m:0<=x)(o:x<2^(w*n))(f0:0<=f)(f1:f<10^59)(Y0:0<=Y)(Y1:Y<2^(w*n)):∃c d A,exs (yc T 24) [e0,e1,e2,AA (.int w),AA (.int n),AA (.int (2^(w*n))),AA (.int x),AA (.int f),AA D,AA (.bl sg),AA (.int Y),e11,AA (.int (i:IM)),q13,q14,q15] st oB=.nx [e0,e1,e2,AA (.int w),AA (.int n),AA (.int (2^(w*n))),AA (.int x),AA (.int f),AA D,AA (.bl sg),AA (.int Y),e11,AA (.int (i:IM)),c,d,A] st:=by
 let#[J,O,L]:=kk E u H y;have Q:(2:IM)^4<=2^(w*n):=by
  have J:4<=w*n:=by have:=Ay E H;lia
  have hh:(2:IL)^4<=2^(w*n):=Aj () J;have h2:=pw (w*n);lia
 have big:∀z:IM,z.natAbs<=2^300->z.natAbs<2^1000:=λz U=>EJ U (IL.pow_lt_pow_right () ());have B:∀a b:IM,nLs [D,.int (w:IM),.int (n:IM),.int a,.int b]=true:=λa b=>by simp[nLs,nL,G.nl]
 let#[c,d,h]:=inB (e0:=e0) (e1:=e1) (e2:=e2) (e5:=AA (.int (2^(w*n)))) (e6:=AA (.int x)) (e7:=AA (.int f)) (e9:=AA (.bl sg)) (e10:=AA (.int Y)) (e11:=e11) (e15:=q15) (D:=D) (w:=(w:IM)) (n:=(n:IM)) (i:=i) (st:=st) [(0-1-f,0),(2^(w*n),0),(2^(w*n)+f,Y),(x,0-1-f),(x,2^(w*n)+f),(2^(w*n),0)] q13 q14 (λp q st=>by
  erw[AS,A9,IX]at q;refine zgG g l (B _ _) (λst=>G.fit p.1 p.2 ?_ ?_ ?_ st) rfl kd0 st
  .rcases q with rfl|rfl|rfl|rfl|rfl|rfl<;>dsimp only<;>lia
  .rcases q with rfl|rfl|rfl|rfl|rfl|rfl<;>dsimp only<;>exact big _ ()
  .rcases q with rfl|rfl|rfl|rfl|rfl|rfl<;>dsimp only<;>exact big _ ())
 erw[AO,BV,prV]at h;let#[nm,X,c3,Z]:=G.i0;have m1:yq .mod (.int f) (.int (2^(w*n)-1))=AA (.int (f%(2^(w*n)-1))):=by show (if (0:IM)<2^(w*n)-1 then _ else _)=_;rw[IR ()]
 have r0:=B8 f (show (2:IM)^(w*n)-1≠0 by lia);have r1:=BQ f (show (0:IM)<2^(w*n)-1 by lia);have a0:∀st,yc T 24 yv [.int (i:IM),D,.int w,.int n,.int x,.int 0] st=.ok (.str (yda qb)) st:=λst=>by
  cases M:qb
  .subst M;exact zj3 g l G m o () () (λh=>IU rfl h) (λ_=>rfl) st
  .exact zgG g l (B _ _) (λst=>G.quo M x m o st) rfl kd7 st
 have a1:∀st,yc T 24 yv [.int (i:IM),D,.int w,.int n,.int x,.int (1+f%(2^(w*n)-1))] st=.ok (.str (ydT sg)) st:=λst=>by
  cases N:sg
  .subst N;exact zj3 g l G m o () () (λ_=>rfl) (λh=>()) st
  .exact zgG g l (B _ _) (λst=>G.one N x _ m o () () () st) rfl kd0 st
 have t0:∀st,idxV st (.tp AB [.str "told",.str "quotient"]) (.int (bi qb))=AA (.str (yda qb)):=λ_=>by cases qb<;>rfl
 have t1:∀st,idxV st (.tp AB [.str "told",.str "fit"]) (.int (bi sg))=AA (.str (ydT sg)):=λ_=>by cases sg<;>rfl
 have n0:yp .ne (.str (yda qb)) (.str (yda qb))=AA (.bl AB):=by cases qb<;>ac_rfl
 have n1:yp .ne (.str (ydT sg)) (.str (ydT sg))=AA (.bl AB):=by cases sg<;>ac_rfl
 refine#[c,d,AA (.str (yda qb)),?_]
 have C:oB=(match oB with
  |.cons (.for t j _) r=>.cons (.for t j iB) r
  |z=>z):=rfl
 rw[C];generalize iB=I,yda qb=d0,ydT sg=d1,f%(2^(w*n)-1)=F at *;generalize (2:IM)^(w*n)=P at *;simp! [oB,yaJ,h,X,Z,ib,t0,a0,n0,m1,a1,t1,n1]
def zh7(l:IK IM):nLs [PV.scr (l.map .int)]=true:=by simp[nLs,nL,noLocs_ints]
def zkW(a:IK IM)(O:a.length<=63):yc T 25 yjs [.scr (a.map .int)] []=.ok (.bl AC) []:=by
 let#[o,e1,ho]:=fresh 23 a O [];have h0:Drw a 0 [o]:=#[0,0,AB,(),by rw[ho];rfl];have y:a.length<=1000:=()
 let#[g,s1,Q,h1,e2]:=zsZ 18 y h0;let#[wi,zi,s2,a1,a2,a3,a4,o2,e3]:=sizes 20 y (m:=4) () () h1;let#[w,rfl]:=zcB (show 0<=wi by lia);let#[n,rfl]:=zcB (show 0<=zi by lia);have U:=o2.drw h1;have u:4<=w:=()
 have p:w<=16:=()
 have q:1<=n:=()
 have l:n<=4:=()
 let#[x,s3,X,Z,o3,e4]:=worth 20 y w n u p q l U;have h3:=o3.drw U;let#[f,s4,f0,f1,o4,e5]:=zsa 20 y h3;have h4:=o4.drw h3;let#[d,j,gd,o5,e6]:=zs0 20 y q l h4;let#[b,qb,sq,G]:=gdA gd u p q l;let#[hK,hK2,hp64]:=kk u p q l;have hp4:(2:IM)^4<=2^(w*n):=by
  have hK:4<=w*n:=by have:=Ay u q;lia
  have hh:(2:IL)^4<=2^(w*n):=Aj () hK;have U:=pw (w*n);lia
 have t2:∀st,yc T 24 yke [.int ((w*n:IL):IM)] st=.ok (.int (2^(w*n))) st:=λst=>zp6 23 (w*n) () st;have m0:=zcP w n ();have m1:yq .mod (.int f) (.int (2^(w*n)-1))=AA (.int (f%(2^(w*n)-1))):=by show (if (0:IM)<2^(w*n)-1 then _ else _)=_;rw[IR ()]
 have r0:=B8 f (show (2:IM)^(w*n)-1≠0 by lia);have r1:=BQ f (show (0:IM)<2^(w*n)-1 by lia);obtain⟨Y,Y0,Y1,hYp,hYq,m2⟩:∃Y:IM,0<=Y/\Y<2^(w*n)/\(Y≠0->b=AB)/\(Y=0->qb=AB)/\yq .mul (.int (1+f%(2^(w*n)-1))) (.int (bi (!b)))=AA (.int Y):=by
  refine#[(1+f%(2^(w*n)-1))*bi (!b),?_,?_,?_,?_,zaW ()]
  all_goals cases hs:b
  all_goals erw[IQ.not_false,Ha,bi,IV,B9,Ib,Cf,IM.mul_zero]
  .lia
  .lia
  .lia
  .lia
  .exact λ_=>trivial
  .exact λh=>IU rfl h
  .exact λh=>()
  .exact λ_=>sq hs
 let#[ws,us,ca,cb,cc,ce,ec]:=G.com x Y X Z Y0 Y1 hYp hYq;have ec:∀st,yc T 24 yet [d,.int w,.int n,.int x,.int Y] st=.ok (dvv ws us ca cb cc ce) st:=λst=>zC (ec st) 1;have nc:=zrm ws us ca cb cc ce;let#[tv,C,qt]:=G.tel;have et0:∀st,yc T 24 yv [.int 0,d,.int w,.int n,.int 0,.int 0] st=.ok (.str "told") st:=λst=>zdp 23 (i:=0) () (by simp[nLs,nL,G.nl]) C st;have C:∀st,yc T 24 yY [d] st=.ok tv st:=λst=>zC (C st) 1;have qq:yp .eq (.str "told") (.str "told")=AA (.bl AC):=by ac_rfl
 let#[nm,i0,c3,c4]:=G.i0;have tw:=λst=>twins gd (w:IM) (n:IM) x st;generalize dvv ws us ca cb cc ce=c at *;have D:=λq13 q14=>zr1 (e0:=AA (.scr (a.map .int))) (e1:=AA (.loc 0)) (e8:=AA d) (e9:=AA (.bl b)) (e10:=AA (.int Y)) (e11:=AA c) (e15:=AD) (q13:=q13) (q14:=q14) (w:=(w:IM)) (n:=(n:IM)) (x:=x) (f:=f) (top:=2^(w*n)) (i:=0) (st:=j) () Q;have E:=λq13 q14=>zr1 (e0:=AA (.scr (a.map .int))) (e1:=AA (.loc 0)) (e8:=AA d) (e9:=AA (.bl b)) (e10:=AA (.int Y)) (e11:=AA c) (e15:=AD) (q13:=q13) (q14:=q14) (w:=(w:IM)) (n:=(n:IM)) (x:=x) (f:=f) (top:=2^(w*n)) (i:=1) (st:=j) () Q;have H:=λq13 q14=>zr1 (e0:=AA (.scr (a.map .int))) (e1:=AA (.loc 0)) (e8:=AA d) (e9:=AA (.bl b)) (e10:=AA (.int Y)) (e11:=AA c) (e15:=AD) (q13:=q13) (q14:=q14) (w:=(w:IM)) (n:=(n:IM)) (x:=x) (f:=f) (top:=2^(w*n)) (i:=2) (st:=j) () Q;let#[u1,u2,D]:=D AD AD;let#[u3,u4,E]:=E u1 u2;let#[A,B,H]:=H u3 u4;let#[I,J,L,M]:=zsc (e0:=AA (.scr (a.map .int))) (e1:=AA (.loc 0)) (e2:=AA g) (e11:=AA c) (q13:=A) (q14:=B) (q15:=AD) (x:=x) (f:=f) (Y:=Y) (i:=1) (st:=j) () () u p q l G X Z f0 f1 Y0 Y1;let#[v4,v5,v6,N]:=zsc (e0:=AA (.scr (a.map .int))) (e1:=AA (.loc 0)) (e2:=AA g) (e11:=AA c) (q13:=I) (q14:=J) (q15:=L) (x:=x) (f:=f) (Y:=Y) (i:=2) (st:=j) () () u p q l G X Z f0 f1 Y0 Y1;have rg:yby (.int 3)=AA [.int ((0:IL):IM),.int ((1:IL):IM),.int ((2:IL):IM)]:=rfl;generalize (2:IM)^(w*n)=P at *;have lpA:yaT (yc T 24) (.n 12) oA [.int ((0:IL):IM),.int ((1:IL):IM),.int ((2:IL):IM)] [AA (.scr (a.map .int)),AA (.loc 0),AA g,AA (.int w),AA (.int n),AA (.int P),AA (.int x),AA (.int f),AA d,AA (.bl b),AA (.int Y),AA c,AD,AD,AD,AD] j=.nx [AA (.scr (a.map .int)),AA (.loc 0),AA g,AA (.int w),AA (.int n),AA (.int P),AA (.int x),AA (.int f),AA d,AA (.bl b),AA (.int Y),AA c,AA (.int ((2:IL):IM)),A,B,AD] j:=by rw[zy (U1:=[AA (.scr (a.map .int)),AA (.loc 0),AA g,AA (.int w),AA (.int n),AA (.int P),AA (.int x),AA (.int f),AA d,AA (.bl b),AA (.int Y),AA c,AA (.int ((0:IL):IM)),AD,AD,AD]) rfl,D,agn,zy (U1:=[AA (.scr (a.map .int)),AA (.loc 0),AA g,AA (.int w),AA (.int n),AA (.int P),AA (.int x),AA (.int f),AA d,AA (.bl b),AA (.int Y),AA c,AA (.int ((1:IL):IM)),u1,u2,AD]) rfl,E,agn,zy (U1:=[AA (.scr (a.map .int)),AA (.loc 0),AA g,AA (.int w),AA (.int n),AA (.int P),AA (.int x),AA (.int f),AA d,AA (.bl b),AA (.int Y),AA c,AA (.int ((2:IL):IM)),u3,u4,AD]) rfl,H,agn,zJ]
 have M:exs (yc T 24) [AA (.scr (a.map .int)),AA (.loc 0),AA g,AA (.int w),AA (.int n),AA (.int P),AA (.int x),AA (.int f),AA d,AA (.bl b),AA (.int Y),AA c,AA (.int 1),A,B,AD] j oB=.nx [AA (.scr (a.map .int)),AA (.loc 0),AA g,AA (.int w),AA (.int n),AA (.int P),AA (.int x),AA (.int f),AA d,AA (.bl b),AA (.int Y),AA c,AA (.int 1),I,J,L] j:=M;have N:exs (yc T 24) [AA (.scr (a.map .int)),AA (.loc 0),AA g,AA (.int w),AA (.int n),AA (.int P),AA (.int x),AA (.int f),AA d,AA (.bl b),AA (.int Y),AA c,AA (.int 2),I,J,L] j oB=.nx [AA (.scr (a.map .int)),AA (.loc 0),AA g,AA (.int w),AA (.int n),AA (.int P),AA (.int x),AA (.int f),AA d,AA (.bl b),AA (.int Y),AA c,AA (.int 2),v4,v5,v6] j:=N;have lpB:yaT (yc T 24) (.n 12) oB [.int 1,.int 2] [AA (.scr (a.map .int)),AA (.loc 0),AA g,AA (.int w),AA (.int n),AA (.int P),AA (.int x),AA (.int f),AA d,AA (.bl b),AA (.int Y),AA c,AA (.int ((2:IL):IM)),A,B,AD] j=.nx [AA (.scr (a.map .int)),AA (.loc 0),AA g,AA (.int w),AA (.int n),AA (.int P),AA (.int x),AA (.int f),AA d,AA (.bl b),AA (.int Y),AA c,AA (.int 2),v4,v5,v6] j:=by rw[zy (U1:=[AA (.scr (a.map .int)),AA (.loc 0),AA g,AA (.int w),AA (.int n),AA (.int P),AA (.int x),AA (.int f),AA d,AA (.bl b),AA (.int Y),AA c,AA (.int 1),A,B,AD]) rfl,M,agn,zy (U1:=[AA (.scr (a.map .int)),AA (.loc 0),AA g,AA (.int w),AA (.int n),AA (.int P),AA (.int x),AA (.int f),AA d,AA (.bl b),AA (.int Y),AA c,AA (.int 2),I,J,L]) rfl,N,agn,zJ]
 have hT:T yjs=AA #[1,16,AC,yaJ.body]:=rfl
 have hb:yaJ.body=(match yaJ.body with
  |.cons a1 (.cons a2 (.cons a3 (.cons a4 (.cons a5 (.cons a6 (.cons a7 (.cons a8 (.cons a9 (.cons a10 (.cons (.for t it _) (.cons (.for t2 it2 _) r)))))))))))=>.cons a1 (.cons a2 (.cons a3 (.cons a4 (.cons a5 (.cons a6 (.cons a7 (.cons a8 (.cons a9 (.cons a10 (.cons (.for t it oA) (.cons (.for t2 it2 oB) r)))))))))))
  |z=>z):=rfl
 rw[zc hT rfl rfl (zh7 a)];dsimp only;rw[hb];have e1:yc T 24 yka [.scr (a.map .int)] []=.ok (.loc 0) [o]:=e1;have E2:yc T 24 yjr [.loc 0] [o]=.ok g s1:=e2;have E3:yc T 24 ykc [.loc 0,.int 4] s1=.ok (.tp AB [.int w,.int n]) s2:=e3;have E4:yc T 24 ykd [.loc 0,.int w,.int n] s2=.ok (.int x) s3:=e4;have E5:yc T 24 yjq [.loc 0] s3=.ok (.int f) s4:=e5;have E6:yc T 24 ykf [.loc 0,.int (n:IM)] s4=.ok d j:=e6
 clear hb D E H M N
 generalize oA=OA,oB=OB,f%(P-1)=F,((w*n:IL):IM)=K at *;simp! [yaJ,e1,E2,E3,bt2,m0,t2,E4,E5,E6,i0,c3,m1,ib,m2,ec,rg,lpA,lpB,tw,nc,et0,qq,C,qt,zhv]
theorem walk{l:Ex}{q c p}{m:Ai->Au->Prop}{d:DefRec}{K:Params->AF}(r:l.most=AA 63)(j:d.params.defaults=[])
  (t:∀w(h:Au),m w h->(K w.params).In h)
  (F:∀(w:Ai)(g:AL->Option AG)o(h:Au),(K w.params).In h->h.Ns mainGlobals g->g d.name=AA (.ref o) ->
   ∃fd:Aw,(∀s(u:AG),EV s fd #[[u],[]] [("_law_script",u)])/\∀b:Au,(K w.params).In b->b.Ns mainGlobals g->yaG l.prog w (K w.params) g b (CX1 l.prog w) (2*25) o fd ["_law_script"] (spX (K w.params) (yc T 25) yjs)):
  Gy q c p m l.row.toRowW d [] (λf y=>HH f y):=
 L2.walk_of (n:=63) (k:=2*25) (x:="_law_script") (CX:=λw=>CX1 l.prog w) (sp:=λw=>spX (K w.params) (yc T 25) yjs) r ⋯ j #[rfl,by decide,by decide] t F (λw H a C A _ B=>ziM zkW A B) λ_ _ _ _ _ z=>zqh z
end WK
end
open PySem PySem.W PyProof.Rows
theorem PySem.Challenge.cw_widewords_k21_deeds_refused_holds : PySem.Challenge.rw_widewords_k21_deeds_refused.Holds := by
 refine hh.hd (by rfl) (by rfl) (by rfl) ?_
 k_fill
 refine WK.walk (l:=PySem.Challenge.rw_widewords_k21_deeds_refused) rfl rfl (λw h Y=>Y) ?F
 case F =>
  intro w mg fa h KX G hmg
  refine' L2.all_mk2 (t:=WK.tbQ) KX G hmg ?R ?B ?D WK.kb_all ?Ml WK.ok_all WK.T_ok (L:=158) rfl 25
  case R =>
   repeat' (first|exact trivial|apply And.intro|(refine' L2.rowFn ?a9 ?l9 ?c9 ?p9 ?b9;(case a9|l9|c9|p9=>k_is);(case b9=>((repeat intro _);first|rfl|kernel_rfl)))|(refine' L2.rowMe ?z9 ?a9 ?i9 ?l9 ?c9 ?p9 ?b9;(case z9=>((first|rw[WK.cn_20]|rw[WK.cn_21]);k_is));(case a9|i9|l9|c9|p9=>k_is);(case b9=>((repeat intro _);first|rfl|kernel_rfl)))|(refine' L2.rowIni ?z9 ?a9 ?i9 ?l9 ?c9 ?p9 ?b9 ?m9 ?k9;(case z9=>((first|rw[WK.cn_20]|rw[WK.cn_21]);k_is));(case a9|i9|l9|c9|p9=>k_is);(case b9=>((repeat intro _);first|rfl|kernel_rfl));(case m9|k9=>k_is))|(refine' L2.rowFd ?a9 ?l9 ?c9 ?p9 ?d9 ?e9 ?v9;(case a9|l9|c9|p9|d9=>k_is);(case e9=>rfl);(case v9=>(repeat first|exact .nil|refine .cons ⟨_,rfl⟩ ?_))))
  case B=>kernel_rfl
  case D =>
   repeat' (first|exact trivial|apply And.intro|intro _|(refine' L2.gd_mk KX G ?a9 ?l9 ?s9 ?r9 ?n9;(case a9|l9=>k_is);(case s9=>rfl);(case r9=>(repeat first|exact .nil|refine L2.con_row (by kernel_rfl) ?_));(case n9=>decide +kernel)))
  case Ml =>
   repeat' (first|exact trivial|apply And.intro|(refine' L2.gdf_mk KX G ?a9 ?l9 ?r9 ?n9;(case a9|l9=>k_is);(case r9=>(repeat first|exact .nil|refine L2.frow_cons (by kernel_rfl) ?_));(case n9=>decide +kernel)))
