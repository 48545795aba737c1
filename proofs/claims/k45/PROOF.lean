import PyProof.Rows.All
import OpenK.KLine
import KE.KIsAll
import KE.KItem
import KE.LcSums
import OpenK.KOwn
import PySem.Challenge.RW_widewords_k45_whole_quotients_lead_back
set_option Elab.async false
set_option linter.all false
set_option maxRecDepth 100000
set_option maxHeartbeats 0
set_option genSizeOf false in
set_option genInjectivity false in
structure PySem.W.Fast:Prop where(tw9569864462518296998 tw1415537556302951468 tw16470425184953359038 tw7925199212868611226 tw2143194145236326384 tw4743622703206890758 tw9183138996413505265 tw17610196256415385561 tw13319722465711899034 tw4987394294933755630 tw5068977863074694977 tw7561743191316503888 tw9404292081097708020 tw192855474964112095 tw655018563485058151 tw15102686076096383717 tw2240168833689170455 tw6140563286352010634 tw7396007710416088117 tw8306858879272652745 tw10061331994585783745 tw12146389924602033906 tw12636701067703333292 tw9162721542120127830 tw14288747195778349270 tw10363203907615603934 tw10316976218296715033 tw4068335703659632365 tw8450380575087806379 tw10786905327605979064 tw8967013638586201274 tw11720747197232559031 tw15910843203685865035 tw4197724086315991227 tw10696737567543567447 tw2682693071807040856 tw1567182362816751980 tw10795499463310692645 tw10979623404638889131 tw6576930874114821541 tw11432835142404944978 tw6328168262091396593 tw13090289589560920019 tw17275748359171661595 tw13063302518415051750 tw9288749412287943955 tw3789399343417337574 tw11500229078491665010 tw17381933329994774943 tw9878188910617140785 tw181937484998399716 tw3900175563450520319 tw13094020397220990842 tw17810747194233289805 tw13403211837064563550 tw13124027753460358642 tw17596430705862791217 tw4647623404472975188 tw10232422783416199495 tw810122332825446900 tw15283094660030723380 tw3574170833925157663 tw13393670132889516869 tw14416925101166091312 tw13770222995053912140 tw9209012794049689826 tw4754318504932283297 tw5899328966845573718 tw9608428384918708412 tw8797163598962242231 tw7124507291106526476 tw11403470683222063912 tw310537423534317999 tw5948638664351809991 tw5046369614304607748 tw12965636414819877801 tw14380377490527660259 tw17208455153897613286 tw5131125459333042010 tw17699319197328470920 tw14156519413552771971 tw12309483007818096553 tw9798050290976068673 tw8406782203384859729 tw9477529966448956843 tw11858054187465886397 tw3748790856712109708 tw15080186047786031183 tw18118653582907847645 tw13051192815975612090 tw4546943411925764271 tw1759240881999828800 tw14051089178699899635 tw15561769718294875778 tw17145578432640951530 tw5186922138461473546 tw15834519515626044460 tw5076759728297424370 tw10195038033901912012 tw10051896014248397715 tw2736214271018479459 tw15474705517306154867 tw11741807097939665548 tw17546830930350631198 tw15379650405749881042 tw11703946849553116357 tw7363069124075325471 tw6319598949848492239 tw4886576765086093616 tw13029152242137601216 tw15856195192439957996 tw14434906486149833918 tw4229761231738885413 tw13546378439934567682 tw7534624342536476213 tw8251184747969471105 tw4885002266414062387 tw6512787577383174679 tw15495673989022920032 tw11126779080387354726 tw2291257543682829636 tw3928013674194937137 tw12345267467767687971 tw12235533993145805961 tw6293758997067048205 tw17512633849361390672 tw3544341903682421397 tw15266491690268181276 tw4406687801866912002 tw625746862538479663 tw1125140694956492694 tw7881684097233767975 tw5329754288034141938 tw11240051749844486918 tw13361535436033630846 tw7343389075965700010 tw15315119576128733319 tw6431185272534327168 tw13555874853995494419 tw2043101222905532461 tw8279586576335615114 tw2901554832286038083 tw14113566410556130919 tw7781349839443521385 tw2334990471470440145 tw13261466790766043780 tw17717006166036202146 tw3009167149224063152 tw1633828663883719748 tw11786151043723174576 tw1086736001404829167 tw489605043462559807 tw15701222018098312495 tw3619331353280565477 tw10036835044629835105 tw17354538005390919192 tw12283541672226362080 tw14888860021595713463 tw16607860573001800553 tw4284958699584726529 tw1484122642867813568 tw15463049941655399214 tw13918670052879819114 tw10569657693299815012 tw13182038768589363548 tw2911179896940634865 tw15965844667181895031 tw8478814920381664153 tw11175278001734730432 tw3198719808093615129 tw11648561592996509571 tw12490965877515391478 tw12508822423380257272 tw17512752333296234371 tw8935631555078081181 tw12647919235322722497 tw17801638245210219553 tw7767391489275030088 tw11647126455462417451 tw7950780826343601618 tw5393121475550395192 tw15898594493588245987 tw9476505993898833168 tw16829397961561072166 tw10412174223161470012 tw6480917408609482976 tw1709280952523348831 tw5335184177777555415 tw9511261954397832277 tw2383000870546770894 tw4237017065301290142 tw5367934797669642813 tw710164120010962942 tw4565245147385949819 tw14741787657295955608 tw431240989296642876 tw8233058890657895294 tw11077991197046630249 tw15320078218264921248 tw63298032779032903 tw15865076453242790439 tw2508132227128221083 tw8592140548554452514 tw4136698391372918818 tw7547736787627833259 tw2904545229991885373 tw8258935249689543199 tw9982963451423800935 tw1581182704805082715 tw13903591382898872486 tw5200543387142388731 tw4059460171514157432 tw3638313235232377349 tw10841547579281480247 tw3178436352653242033 tw2098224128134627977 tw17637438379036732865 tw9134642427976194452 tw15552827759987178151 tw1557555430674731103 tw10128770574522243084 tw11961697604036885944 tw2323043399175784243 tw17151037125806839856 tw1451614263686850137 tw6290287242237099129 tw4483367738186614494 tw5536787799423034994 tw18206773003078766762 tw9486606862069079150 tw1724524117966350222 tw7391388064154205793 tw9610201010827043206 tw16065998035683307131 tw9053038232988628748 tw17814422590363478450 tw16229980368764890087 tw17983312548680553443 tw14126339578391771981 tw17906754423351918072 tw14174737360723864765 tw12607521007319781811 tw4527564401539096656 tw8043961906670939067 tw16874033677673482309 tw6329480474673424882 tw2870207336671384484 tw6611835043472482458 tw17702494806381496101 tw5029238129130386170 tw16992338428185549908 tw15061627169465771340 tw4726680027851486731 tw4325537210522460536 tw9303999083487897723 tw15992652921006257436 tw12273168803376779395 tw17753521578012330408 tw14357250423043677201 tw11021169983654749051 tw17172171246120317414 tw7595918107375800089 tw11280593580518890410 tw12422506848607574023 tw13661910160620178254 tw14197385198034614917 tw9273447031689928716 tw10108853252993323929 tw7158679793421325962 tw18289850141423370613 tw14342826805086101653 tw4113567222576991741 tw6778423287299897521 tw525043111100208383 tw2634627082183379980 tw2424858280840162571 tw13428560407027191587 tw14280456402328676239 tw4252169977663045275 tw15542368947824259742 tw5550559050673118243 tw9632768900659266674 tw15431962757373584093 tw4034697954270091334 tw13595538524115326196 tw710084333762179822 tw264592025436330420 tw825713712335508267 tw3637240009561124700 tw11441922314783714853 tw13390131902254932412 tw16063330948861200429 tw6829677985407012876 tw2190832414121937539 tw16089669840786573830 tw9038543430511686332 tw3727183780421138074 tw1432677762727815121 tw12112199247579278788 tw10652496796405458254 tw11979894598924081327 tw7825121665987498325 tw4286496008365905378 tw17087085759439457178 tw10302621666302175134 tw7661124664660169420 tw2828895907490755277 tw7388103648144399865 tw15288882583462928092 tw1021774980023125637 tw14280118911513131097 tw10239742243089248823 tw13794703431073271010 tw3108001200799334839 tw6570793027052268767 tw8320167929858848160 tw6629317497833710499 tw16482249162409307618 tw10919213382008802642 tw16472995892076702979 tw17110719038900629267 tw11845364247001900786 tw6901621560349333921 tw15051894152318310387 tw12491400504398673448 tw14626877548011625479 tw13250038802303427271 tw3003614202995277381 tw12661283497061715982 tw13415319108594956922 tw1707193124094702881 tw8576733825917262282 tw3184456312969305896 tw4397230756852066108 tw15860415500351814310 tw17390113899876038420 tw14590464450496979763 tw688006588494323361 tw12034156829403800210 tw3665698009234882608 tw10943175620116466587 tw2698250873602837235 tw5066861505840958257 tw14520356037116577526 tw11153163099397063134 tw10242824634418234180 tw11375644557308714179 tw2129803508253545081 tw9464755943480301143 tw4160957199739030807 tw11066135840415082850 tw10179927207188555476 tw4367470100209106741 tw12121456531962156082 tw6166844145989113893 tw16569481276329842283 tw11702429247099084130 tw3592331191567302814 tw3348758455366040646 tw8844799790833043192 tw10433782865210580322 tw15534880838116193308 tw11502729321313337934 tw6821380412433359781 tw11492188256362873283 tw11713697483465610776 tw14959803207994314437 tw7372418160837969028 tw18047528565089203365 tw7259778875397295425 tw10910245513254562438 tw6721354491018588445 tw4879609028805397505 tw3667431572505972422 tw9330486683603615940 tw5657486827043705604 tw9748697105472873334 tw17257147668252867542 tw785913145052555121 tw5430995245213183660 tw12118801794861043919 tw12188067847123089329 tw12963223765096683197:True)
open_top hd0 for PySem.Challenge.rw_widewords_k45_whole_quotients_lead_back
set_option compiler.extract_closed false
set_option bootstrap.genMatcherCode false
set_option genSizeOf false
local macro_rules | `(tactic| ac_rfl)=>`(tactic| with_unfolding_all rfl)
open Option renaming some->AA,none->AD,isSome_iff_exists->BA,bind_some->BW,getD_some->CN,any_eq_true_iff_get->Cr,map_some->DH,get_some->FQ,getD_none->G3,join_some->G7
open Bool renaming false->AB,true->AC,and_eq_true->AK,false_ne_true->BD,false_eq_true->Bg,not_eq_true'->Cm,or_eq_true->DF,eq_iff_iff->DG,true_and->Dm,and_self->Dp,false_or->Fj,true_or->GQ,or_false->HK
open PySem.W renaming Frag->AE,keepIn->Ay,findIn->BC,nsIn->BO,kitOne->B3,fnOf->B6,emptyDict->Bb,instObj->CD,codeIn->CP,kia_one->Cg,plainGet->Ct,isFn->Cu,hideAll->DD,callWith_K->DI,hasDictIn->DQ,makesIn->Du,plainGet_of->Dz,lookIn->EL,methodObj->E6,plainOver->E7,mg_of->Eg,OpenLaw->Eu,cellsFrom_some->FA,takerIn->FM,methodCall_KW->FV,hideAll_get->Fa,callWith_K0->Fe,excIn->Fk,of_hideAll->Fr,handedIn->GZ,WalkO->Gu,Rel2->HW
open PySem renaming Value->AF,wpAny_bind->AH,Addr->AI,Shared->AJ,Str->AQ,Expr->AT,wpAny_pure->AU,wpAny->A2,Program->A9,World->Al,Around->Ax,Heap->BF,FuncData->BG,wpAny_field->BX,Env->B0,wpAny_Call_Name_kw->B2,wpAny_truthy_bool->B9,wpAny_newObj_type->Ba,wpAny_callSpecial?_slot->Bi,Scope->Bl,Stmt->Bz,Obj->CC,DictEntry->CM,wpAny_pyIter_tuple->CS,wpAny_passesOwn->CV,Pos->CW,sizeLine_eq->CY,wpAny_mono->C0,IsPair->C1,Keyword->C3,mem_of_lookup->C4,wpAny_call_entry->C5,wpAny_seqItems->C6,wpAny_setField_rec->Cf,NameKind->DR,wpAny_binaryOp_repeat_ref->D8,strKind_is->Dh,wpAny_holding->Dl,Operator->Ds,wpAny_execs_nil->Dt,codeAny_mono->EA,IsZip->E9,wpAny_standAt->Ed,PassesOwn->Ei,noFill_tuple_add->Em,wpAny_rule->Ey,IsPart->FB,typeIs_int->FF,call_meets->FH,wpAny_loadName_local->FY,wpAny_setField->F0,wpAny_updateSeq_pair->F1,BindsTo->F8,Builtin->F9,wpAny_loadName_cell->Fb,CmpOp->Fg,seq_tuple_add->Fh,wpAny_onRaise->Fm,tupleKind_room_in1->Fv,Within->Fz,concat_meets->GG,wpAny_sequenceKey->GI,wpAny_typeOf->GJ,slot_list_getitem->GL,wpAny_pyIter_enum->GO,wpAny_pyIter_list->GP,ZipApart->GT,wpAny_execs_cons->GY,seqSlot_of->G8,wpAny_pyIter_zip->Gc,wpAny_getItem_of->Gd,seqIndex_of->Gh,Paired->Gv,wpAny_Name->Gx,Result->Gy,wpAny_call->Gz,typeIs_str->HB,call->HC,Sem->HI,BoolOp->HY,Tok->Hc
open PySem.Str renaming ofString->AG,empty->G0
open List renaming map_cons->AL,getElem?_set_ne->AM,mem_cons->AN,mem_cons_of_mem->AR,replicate->AV,size_toArray->AY,length_cons->AZ,mem_of_getElem?->A3,not_mem_nil->A4,getElem?_set_self->Aa,getElem?_cons_succ->Ac,map_nil->Ad,length_append->Af,getElem?_append_left->Aj,getElem?_cons_zero->Ak,mem_cons_self->An,getElem?_append_right->As,mem_append->Au,length_map->Av,append_nil->Aw,cons_append->Az,getElem?_eq_some_iff->BE,set_cons_zero->BH,set_cons_succ->BI,mem_append_right->BK,append_assoc->BP,flatMap_cons->BQ,map_append->BS,nil_append->BV,getElem?_eq_none->BY,length_set->B4,flatMap_nil->B7,all_cons->Be,lookup_cons->Bj,all_eq_true->Bk,any_cons->Bm,length_nil->Bq,lookup->Bu,getElem?_map->CA,find?_cons->CF,replicate_succ->CH,filterMap_cons->C2,length->C9,getElem?_set->Ck,getElem?_eq_getElem->DC,foldl_cons->DE,reverse_cons->DV,filterMap->DW,take_of_length_le->DX,flatten_cons->D1,mem_map->D3,set_set->D4,length_singleton->D9,mem_iff_getElem?->Db,nodup_cons->Dw,range->EF,mem_filterMap->EJ,zip_cons_cons->ER,getElem?_eq_none_iff->EX,drop_eq_getElem_cons->EY,pairwise_iff_getElem->EZ,ext_getElem?->Ea,length_take->Ek,getElem?_replicate->El,any_eq_true->Eo,of_mem_zip->FN,forIn_cons->FO,set_getElem_self->FW,mem_append_left->FX,length_pos_iff->Ff,isEmpty_cons->GR,length_drop->G2,isEmpty_nil->G4,take_length->G5,drop_length->G6,zipIdx_cons->Ga,mem_filter->Gm,zipIdx_nil->Gq,mem_range->Gw,drop_zero->HE,forIn_nil->HF,set_comm->HJ
open PySem.Heap renaming get?_push_of_some->AO,lt_size->AX,get?_push_size->A7,size_push->Bv,SameBut->Cb,get?_update_other->DU,get?_update_self->FR,IsTuple->GM,MadeExcOf->HD,FlyingW->HV
open Nat renaming le_refl->AS,lt_of_lt_of_le->A5,pow_le_pow_right->A6,mul_le_mul->Ag,ne_of_lt->Aq,le_trans->BU,zero_add->Bt,lt_or_ge->CK,and_two_pow_sub_one_eq_mod->C7,reduceEqDiff->C8,reduceSub->Ci,le_succ->Co,lt_irrefl->DA,zero_le->DN,lt_succ_self->Dd,le_add_right->De,add_assoc->Do,reduceAdd->Dr,mod_two_eq_zero_or_one->EV,le_of_lt->Ex,ne_of_gt->Ez,mul_le_mul_right->F3,and_lt_two_pow->Fx,xor_lt_two_pow->Fy,mul_comm->GS,succ_mul->GV,reduceLeDiff->Gf,mul_add->Gk,le_of_eq->HU,pow_succ->HZ,pow_pos->Hh
open Option.some renaming inj->AW
open Int renaming emod_eq_of_lt->A1,emod_lt_of_pos->A8,pow_pos->Ab,mul_comm->Ae,emod_nonneg->Ah,pow_succ->Am,mul_le_mul_of_nonneg_right->Ao,mul_assoc->Ap,ediv_eq_zero_of_lt->BB,emod_add_mul_ediv->BM,add_mul->BN,sub_mul->BR,ediv_lt_of_lt_mul->BZ,ediv_nonneg->B5,mul_le_mul_of_nonneg_left->Bc,add_zero->Bo,zero_mul->Bp,one_mul->Bw,mul_nonneg->By,toNat_natCast->CB,add_mul_emod_self_right->CL,pow_mul->CZ,mul_add->Ca,mul_one->Cn,add_comm->Cv,toNat_of_nonneg->Cy,lt_of_lt_of_le->DJ,add_emod_right->DL,lt_of_le_of_lt->DM,ediv_ediv_of_nonneg->DP,le_of_lt->D5,pow_zero->D6,fdiv_eq_ediv_of_nonneg->EK,mul_le_mul->ET,add_mul_emod_self_left->EW,mul_left_comm->Eb,add_mul_ediv_right->FL,natAbs_mul->F4,ediv_one->GH,zero_add->GW,natCast_emod->Ge,ediv_le_self->Gg,le_refl->Gj,add_assoc->HL,reduceBEq->HM,reduceEq->Ha,mul_sub->Hi,pow_add->Hj
open PySem.Value renaming ref->Ai,none->CO,bool->ED,int->Eh,type->Ew,str->GX,isStrOf->HH,isInt->Hb,bytes->Hd,float->He
open PySem.Builtin renaming bitAnd->Ar,bitXor->B1,bitOr->Bd,bitNot->F2
open Ne renaming symm->BJ
open PyProof.Rows renaming slot_tuple_getitem->BL,callWith_type1->CJ,tupleItemsOf_->D7,AllBare->Dj,assignInOrder_cons->EI,IntsAre->FC,subscriptTail_builtinR->FD,entry_tuple_getitem->Fc,args_tuple_getitem->Ft,assignInOrder_nil->GA,callWith_builtin1->G1,boot_isinstance->Gp,iadd_int->Gr,Subscript_->HA,IsTup->HN
open PySem.Builtin.SmallTypes renaming nextOf->BT,ownedTupleIsFree->Bf,ownedTupleHandOut->Cz
open PySem.PyData renaming eqv->B8,canLay0->Cq,depth->DZ,eqvAll->Dn,keyHash->EU,canLayAll0->E8,depthAll->FP
open False renaming elim->Bn
open PySem.Challenge renaming rw_widewords_k45_whole_quotients_lead_back->Br,pw_widewords_k45_whole_quotients_lead_back->Di
open PySem.Builtin.Tuple renaming tupleExact->Bs,tupleItemsOf->EO,tupleTooMany->ES
open Array renaming length_toList->CG,append_assoc->EG,getElem?_eq_some_iff->EQ,toList->HS
open PySem.F renaming slot_tuple_iterator_next->CQ,slot_tuple_mul->Cd,slot_int_rmul->Cj,args_tuple_add_2->DB,entry_tuple_add->DO,slot_tuple_add->DS,slot_dict_get->Da,args_tuple_iterator_next_1->Dx,slot_zip_next->Dy,entry_tuple_iterator_next->EB,slot_dict_getitem->E5,args_tuple_mul_2->Ef,args_dict_get_3->En,slot_tuple_rmul->Ep,args_int_rmul_2->Es,entry_tuple_mul->Et,entry_dict_get->FI,slot_int_index->FJ,entry_int_rmul->FK,slot_list_append->FT,fills_int_mul->FU,args_zip_next_1->GU,entry_zip_next->Gb
open PySem.Heap.FunFrames renaming mem->CT
open PySem.Builtin.Slice renaming slicePlaces->CU,sliceAdjust->Cw,sliceApplied->EN,slicePartIndex->Gn,sliceFields->HG
open True renaming intro->Cc
open PySem.NameKind renaming free->Ch,cell->Fi
open PySem.Value.type renaming inj->Cp
open Eq renaming refl->DY
open Prod.mk renaming injEq->Dq,inj->Hk
open PySem.Builtin.Str renaming strSliceIndices->EC,occurrences->Ej
open PySem.Calls renaming Name_function_global->EH,spliced_cons->EM,callWith_builtin->FG,evalArgs_plain->FZ,spliced_nil->GF
open PySem.Paired renaming length->Ec,snoc->Hg
open PySem.AutoSeq1 renaming sub_tuple_tuple->Ee,idx_int->G9
open PySem.Obj renaming mapSeq->FE,data_mapFields->Fu
open Sum renaming inl->F5,inr->F6
open PyProof.Rows.IsTup renaming new->F7
open PySem.Heap.SameBut renaming update->Fd
open PySem.SeqAt.EqAt renaming int_str->Fp,str_int->Fq
open PySem.ScopeKind renaming function->Fw
open PySem.Around renaming under->GB
open PySem.Code renaming isFrame->GE,frames->Hf
open PySem.WalksT renaming enumerateD->GN
open PySem.Shared renaming heap->Gi
open ForInStep renaming yield->Go
open PySem.Builtin.Range renaming rangeSize->HP
open PySem.Heap.UpToSlots renaming of_keeps->HQ
open And renaming intro->HR
open PySem.SeqAt renaming shaped->HX,EqAt->Hn
open PySem.W.Looks renaming here->Hl
open PySem.Heap.IsSliceOf renaming new->Hm
open PySem.W.WShape renaming has->Ho
open PySem.Within renaming cons->Hq
open List.Pairwise renaming nil->Hr
open PySem.W.WData renaming int->Hs
noncomputable section
open Lean in
def cnvP:Nat->Syntax->MacroM (TSyntax `rcasesPat)
 |0,_=>Macro.throwUnsupported
 |n+1,s=>do
  if s.isOfKind ``Lean.Parser.Term.anonymousCtor then `(rcasesPat| ⟨$[$(← s[1].getSepArgs.mapM (cnvP n)):rcasesPat],*⟩)
  else if s.isIdent then `(rcasesPat| $(⟨s⟩):ident)
  else if s.isOfKind ``Lean.Parser.Term.hole then `(rcasesPat| _)
  else Macro.throwUnsupported
local macro_rules | `(tactic| let $p:term := $e)=>do `(tactic| obtain $(← cnvP 9 p):rcasesPat := $e)
local macro_rules | `(tactic| erw [$rs,*] $(l)?)=>do
 let t<-rs.getElems.mapM λ|`(Lean.Parser.Tactic.rwRule| $t:term)=>`(Lean.Parser.Tactic.simpLemma| $t:term)|_=>Lean.Macro.throwUnsupported
 `(tactic| simp only[$t,*] $(l)?)
local macro_rules | `(fun $bs* => $b)=>do
 if !(bs.any λx=>x.raw.isOfKind ``Lean.Parser.Term.anonymousCtor)||(b.raw.find? λx=>x.isOfKind ``Lean.Parser.Term.syntheticHole).isSome then Lean.Macro.throwUnsupported
 `(by rintro $[$(← bs.mapM λx=>cnvP 9 x.raw):rcasesPat]*;exact $b)
set_option backward.eqns.nonrecursive false
namespace L2
open PySem PySem.Spec PyProof.Rows
abbrev Key:=Sum Int AQ
def ybV:Key->AF->Bool
 |.inl k,v=>Hb k v
 |.inr x,v=>HH x v
def yg3(w:Al):Key->Int
 |.inl k=>hashInt k
 |.inr x=>hashStr w x
theorem zK:∀{k:Key} {v:AF},ybV k v=AC->(∃i t,k=F5 i/\v=Eh i t) \/ (∃x t,k=F6 x/\v=GX x t)
 |.inl i,v,h=>by
  let⟨t,e⟩:=Value.isInt_shape (k:=i) (v:=v) h;exact .inl ⟨i,t,rfl,e⟩
 |.inr x,v,h=>by
  let⟨t,e⟩:=Value.isStrOf_shape (x:=x) (v:=v) h;exact .inr ⟨x,t,rfl,e⟩
theorem zhZ(i:Int)(t:Hc):ybV (.inl i) (.int i t)=true:=by simp[ybV,Hb]
theorem zg8(x:AQ)(t:Hc):ybV (.inr x) (.str x t)=true:=by simp[ybV,HH]
theorem zny(a b:Int):decide ((F5 a:Key)=F5 b)=(a==b):=by
 by_cases e:a=b
 .subst e;simp
 .have h:¬(F5 a:Key)=F5 b:=λq=>e (Sum.inl.inj q);rw[decide_eq_false h];exact(beq_eq_false_iff_ne.mpr e).symm
theorem znW(a b:AQ):decide ((F6 a:Key)=F6 b)=decide (a=b):=by
 by_cases e:a=b
 .subst e;simp
 .have h:¬(F6 a:Key)=F6 b:=λq=>e (Sum.inr.inj q);rw[decide_eq_false h,decide_eq_false e]
theorem zoj(a:Int)(b:AQ):decide ((F5 a:Key)=F6 b)=false:=decide_eq_false (λq=>nomatch q)
theorem zo4(a:AQ)(b:Int):decide ((F6 a:Key)=F5 b)=false:=decide_eq_false (λq=>nomatch q)
def yaa(prog:A9)(w:Al):PySem.KeyKind prog w Key where
 is:=ybV
 hash:=yg3 w
 inj:=λv a b ha hb=>by
  rcases zK ha with⟨i,t,rfl,rfl⟩|⟨x,t,rfl,rfl⟩
  .rcases zK hb with⟨j,u,rfl,e⟩|⟨y,u,rfl,e⟩
   .injection e with e1 _;rw[e1]
   .exact nomatch e
  .rcases zK hb with⟨j,u,rfl,e⟩|⟨y,u,rfl,e⟩
   .exact nomatch e
   .injection e with e1 _;rw[e1]
 byValue:=λk v h=>by
  rcases zK h with⟨i,t,rfl,rfl⟩|⟨x,t,rfl,rfl⟩<;>rfl
 pyHash:=λhv h=>by
  rcases zK hv with⟨i,t,rfl,rfl⟩|⟨x,t,rfl,rfl⟩
  .exact wpAny_pyHash_int h
  .exact wpAny_pyHash_str h
 eqBool:=λhu hv h=>by
  rcases zK hu with⟨i,t,rfl,rfl⟩|⟨x,t,rfl,rfl⟩
  .rcases zK hv with⟨j,u,rfl,rfl⟩|⟨y,u,rfl,rfl⟩
   .rw[zny]at h;exact wpAny_eqBool_int h
   .rw[zoj]at h;exact Fp i t y u _ _ _ _ h
  .rcases zK hv with⟨j,u,rfl,rfl⟩|⟨y,u,rfl,rfl⟩
   .rw[zo4]at h;exact Fq x t j u _ _ _ _ h
   .rw[znW]at h;exact wpAny_eqBool_str h
 «strs»:=λk x t v h=>by
  rcases zK h with⟨i,u,rfl,e⟩|⟨y,u,rfl,e⟩
  .exact nomatch e
  .injection e with e1 _;subst e1
   cases v<;>rfl
theorem zfx(prog:A9)(w:Al)(i:Int)(t:Hc):(yaa prog w).is (.inl i) (.int i t)=true:=zhZ i t
theorem zfq(prog:A9)(w:Al)(x:AQ)(t:Hc):(yaa prog w).is (.inr x) (.str x t)=true:=zg8 x t
inductive V where
 |non|bl (b:Bool)|int (i:Int)|str (x:AQ)|byt (b:Array UInt8)|flt (b:UInt64)|ref (a:AI)|ty (n:String)
 deriving DecidableEq
def RelV:V->AF->Prop
 |.non,u=>u=CO
 |.bl b,u=>u=ED b
 |.int i,u=>∃t,u=Eh i t
 |.str x,u=>∃t,u=GX x t
 |.byt b,u=>∃t,u=Hd b t
 |.flt b,u=>∃t,u=He b t
 |.ref a,u=>u=Ai a
 |.ty n,u=>u=Ew n
abbrev Vals:List V->List AF->Prop:=Gv RelV
theorem Vals.length{xs:List V}{us:List AF}(r:Vals xs us):xs.length=us.length:=Ec r
theorem Vals.get:∀{xs:List V} {us:List AF} {i:Nat} {x:V},Vals xs us->xs[i]?=AA x->∃u,us[i]?=AA u/\RelV x u
 |_,_,_,_,.nil,e=>by simp at e
 |_,_,0,_,.cons r _,e=>by simp at e;subst e;exact⟨_,rfl,r⟩
 |_,_,i+1,x,.cons _ t,e=>by
  let⟨u,h1,h2⟩:=Vals.get (i:=i) (x:=x) t (by simpa using e);exact⟨u,by simpa using h1,h2⟩
theorem Vals.set{x:V}{u:AF}(r:RelV x u):∀{xs:List V} {us:List AF} (i:Nat),Vals xs us->Vals (xs.set i x) (us.set i u)
 |_,_,_,.nil=>.nil
 |_,_,0,.cons _ t=>.cons r t
 |_,_,i+1,.cons q t=>.cons q (Vals.set r i t)
theorem Vals.append:∀{xs ys:List V} {us ws:List AF},Vals xs us->Vals ys ws->Vals (xs++ys) (us++ws)
 |_,_,_,_,.nil,s=>s
 |_,_,_,_,.cons r t,s=>.cons r (Vals.append t s)
theorem Vals.take:∀{xs:List V} {us:List AF} (n:Nat),Vals xs us->Vals (xs.take n) (us.take n)
 |_,_,0,_=>.nil
 |_,_,_+1,.nil=>.nil
 |_,_,n+1,.cons r t=>.cons r (Vals.take n t)
theorem Vals.drop:∀{xs:List V} {us:List AF} (n:Nat),Vals xs us->Vals (xs.drop n) (us.drop n)
 |_,_,0,r=>r
 |_,_,_+1,.nil=>.nil
 |_,_,n+1,.cons _ t=>Vals.drop n t
theorem Vals.none_of:∀{xs:List V} {us:List AF} {i:Nat},Vals xs us->xs[i]?=AD->us[i]?=none:=λ{xs us i} r e=>by
 have h1:=r.length;have h2:xs.length<=i:=EX.mp e;exact EX.mpr (by lia)
def ybw:Option V->Option AF->Prop
 |some v,AA u=>RelV v u
 |none,AD=>True
 |_,_=>False
def KV{κ:Type}:List (κ×V)->List (κ×AF)->Prop:=Gv λ(p:κ×V) (q:κ×AF)=>p.1=q.1/\RelV p.2 q.2
def kV:Key->V
 |.inl i=>.int i
 |.inr x=>.str x
inductive HO where
 |lst (xs:List V)
 |tup (xs:List V)
 |dK (kvs:List (Key×V))|dT (kvs:List (List Key×V))
 |set (S:Int->Bool) (n:Nat)
 |ins (C dx:AI) (fs:List (AQ×V))
 |own (x:AI)
 |xd (fs:List (AQ×V))
 |met (f x:AI)
 |rng (lo hi:Int)
 |frz (o:CC) (u:HO)
 |tbl (ps:Array AF)
 |ext (φ:BF->Prop)
abbrev Hp:=AI->Option HO
def upd(H:Hp)(a:AI)(o:HO):Hp:=λb=>if b=a then AA o else H b
theorem zt{H:Hp}{a:AI}{o:HO}:upd H a o a=AA o:=by unfold upd;rw[if_pos rfl]
theorem zk{H:Hp}{a b:AI}{o:HO}(h:b≠a):upd H a o b=H b:=by unfold upd;rw[if_neg h]
theorem zqc{H:Hp}{a b:AI}{o u:HO}(h:H a=AA o)(h':H b=AA u)(d:o≠u):a≠b:=by
 intro e;subst e;rw[h]at h';exact d (AW h')
theorem zn{H:Hp}{a b:AI}{o:HO}(h:H a=AA o)(h':H b=AD):a≠b:=by
 intro e;subst e;rw[h]at h';cases h'
section
variable (P:A9)(w:Al)
def yai(H:Hp)(h:BF)(a:AI):HO->Prop
 |.lst xs=>xs.length<=sizeLine/\∃(its:List AF) (n:Nat),Vals xs its/\h.get? a=AA {cls:=.type "list",data:=.seq its.toArray n}
 |.tup xs=>xs.length<=sizeLine/\∃its:List AF,Vals xs its/\HN h a its.toArray
 |.dK kvs=>kvs.length<=sizeLine/\(a==sysModules)=AB/\∃vs,KV kvs vs/\h.DictOf (yaa P w) a vs
 |.dT kvs=>kvs.length<=sizeLine/\(a==sysModules)=AB/\∃xs:List (List Key×AI×AF),
   Gv (λ(p:List Key×V) (q:List Key×AI×AF)=>p.1=q.1/\H q.2.1=AA (.tup (p.1.map kV))/\RelV p.2 q.2.2) kvs xs /\
   ∃o es ep,h.get? a=AA o/\o.ExactDict/\o.data=.dict es ep/\es.toList=xs.map (entryOfKey (tupleKind (yaa P w)))/\(xs.map (·.1)).Nodup
 |.set S n=>h.SetOf (intKind P w) a S n
 |.ins C dx fs=>H dx=AA (.own a)/\fs.length<=1000/\dx≠a/\h.get? a=AA (CD C dx) /\
   ∃mA,h.Ns1 dx mA/\(∀f,ybw (fs.lookup f) (mA f))/\Fz mA (fs.map (·.1))
 |.own _=>∃o,h.get? a=AA o
 |.xd fs=>∃mA,h.Ns1 a mA/\∀f,ybw (fs.lookup f) (mA f)
 |.rng lo hi=>∃t u v,h.get? a=AA {cls:=.type "range",data:=.fields #[.int lo t,.int hi u,.int 1 v]}
 |.frz o u=>h.get? a=AA o/\yai H h a u
 |.tbl ps=>h.get? a=AA {cls:=.none,data:=.fields ps}
 |.met f x=>h.get? a=AA (E6 (.ref f) (.ref x))
 |.ext φ=>φ h/\(∃o,h.get? a=AA o)/\∀h1 h2:BF,φ h1->(∀o,h1.get? a=AA o->h2.get? a=AA o)->φ h2
def HOk(H:Hp)(h:BF):Prop:=∀a o,H a=AA o->yai P w H h a o
end
section
variable {P:A9}{w:Al}{H H':Hp}{h h':BF}{a:AI}{o:HO}
theorem yai.lt(x:yai P w H h a o):a<h.objs.size:=by
 cases o with
 |lst xs=>let⟨_,_,_,_,e⟩:=x;exact AX e
 |tup xs=>let⟨_,_,_,p⟩:=x;exact p.lt
 |dK kvs=>let⟨_,_,_,_,o,_,_,e,_⟩:=x;exact AX e
 |dT kvs=>let⟨_,_,_,_,o,_,_,e,_⟩:=x;exact AX e
 |set S n=>let⟨o,_,_,_,e,_⟩:=x;exact AX e
 |ins C dx fs=>let⟨_,_,_,e,_⟩:=x;exact AX e
 |own y=>let⟨_,e⟩:=x;exact AX e
 |xd fs=>let⟨_,⟨_,_,_,e,_⟩,_⟩:=x;exact AX e
 |rng lo hi=>let⟨_,_,_,e⟩:=x;exact AX e
 |frz ob u=>let⟨e,_⟩:=x;exact AX e
 |tbl ps=>exact AX (show h.get? a=AA _ from x)
 |met f y=>exact AX (show h.get? a=AA _ from x)
 |ext φ=>let⟨_,⟨_,e⟩,_⟩:=x;exact AX e
theorem Paired.mapP{α β:Type}{F G:α->β->Prop}:∀{l₁:List α} {l₂:List β},Gv F l₁ l₂->(∀a b,F a b->G a b)->Gv G l₁ l₂
 |_,_,.nil,_=>.nil
 |_,_,.cons r t,f=>.cons (f _ _ r) (Paired.mapP t f)
theorem yai.stay(x:yai P w H h a o)(k:∀b u,(b=a \/ H b=AA (.own a))->h.get? b=AA u->h'.get? b=AA u)
  (ho:∀b,H b=AA (.own a)->H' b=AA (.own a)) (ht:∀b xs,H b=AA (.tup xs)->H' b=AA (.tup xs)):yai P w H' h' a o:=by
 induction o with
 |lst xs=>let⟨z,its,n,r,e⟩:=x;exact⟨z,its,n,r,k _ _ (.inl rfl) e⟩
 |tup xs=>let⟨z,its,r,ob,e,c⟩:=x;exact⟨z,its,r,ob,k _ _ (.inl rfl) e,c⟩
 |dK kvs=>let⟨z,y,vs,r,ob,es,ep,e,c⟩:=x;exact⟨z,y,vs,r,ob,es,ep,k _ _ (.inl rfl) e,c⟩
 |dT kvs=>
  let⟨z,y,xs,r,ob,es,ep,e,c⟩:=x;exact⟨z,y,xs,Paired.mapP r λp q z=>⟨z.1,ht _ _ z.2.1,z.2.2⟩,ob,es,ep,k _ _ (.inl rfl) e,c⟩
 |set S n=>let⟨ob,es,ep,t,e,c⟩:=x;exact⟨ob,es,ep,t,k _ _ (.inl rfl) e,c⟩
 |ins C dx fs=>
  let⟨d,z,ne,e,mA,⟨od,es,ep,e2,c⟩,r⟩:=x;exact⟨ho _ d,z,ne,k _ _ (.inl rfl) e,mA,⟨od,es,ep,k _ _ (.inr d) e2,c⟩,r⟩
 |own y=>let⟨ob,e⟩:=x;exact⟨ob,k _ _ (.inl rfl) e⟩
 |xd fs=>let⟨mA,⟨od,es,ep,e,c⟩,r⟩:=x;exact⟨mA,⟨od,es,ep,k _ _ (.inl rfl) e,c⟩,r⟩
 |rng lo hi=>let⟨t,u,v,e⟩:=x;exact⟨t,u,v,k _ _ (.inl rfl) e⟩
 |frz ob u ih=>let⟨e,q⟩:=x;exact⟨k _ _ (.inl rfl) e,ih q⟩
 |tbl ps=>
  have e:h.get? a=AA {cls:=.none,data:=.fields ps}:=x;show h'.get? a=AA {cls:=.none,data:=.fields ps};exact k a _ (.inl rfl) e
 |met f y=>
  have e:h.get? a=AA (E6 (.ref f) (.ref y)):=x;show h'.get? a=AA (E6 (.ref f) (.ref y));exact k a _ (.inl rfl) e
 |ext φ=>let⟨p,⟨o,e⟩,st⟩:=x;exact⟨st _ _ p λo q=>k _ _ (.inl rfl) q,⟨o,k _ _ (.inl rfl) e⟩,st⟩
theorem HOk.lt(x:HOk P w H h)(e:H a=AA o):a<h.objs.size:=(x a o e).lt
theorem HOk.fresh(x:HOk P w H h)(e:h.objs.size<=a):H a=none:=by
 cases q:H a with
 |none=>rfl
 |some u=>exact absurd (A5 (x.lt q) e) (DA _)
theorem HOk.kept(x:HOk P w H h)(k:∀b u,h.get? b=AA u->h'.get? b=AA u):HOk P w H h':=λa o e=>
 (x a o e).stay (λb u _ q=>k b u q) (λ_ q=>q) λ_ _ q=>q
theorem HOk.laid(x:HOk P w H h)(k:∀b u,h.get? b=AA u->h'.get? b=AA u)(hp:h.objs.size<=a)(new:yai P w (upd H a o) h' a o):HOk P w (upd H a o) h':=λb u e=>by
 have hn:=x.fresh hp
 by_cases hb:b=a
 .subst hb;rw[zt]at e;cases e;exact new
 .rw[zk hb]at e;exact(x b u e).stay (λc v _ q=>k c v q) (λc q=>by rw[zk (zn q hn)];exact q) λc xs q=>by rw[zk (zn q hn)];exact q
end
def Rd(H:Hp)(a:AI)(u:HO):Prop:=H a=AA u \/ ∃o,H a=AA (.frz o u)
theorem Rd.of{H:Hp}{a:AI}{u:HO}(h:H a=AA u):Rd H a u:=.inl h
theorem Rd.ok{P:A9}{w:Al}{H:Hp}{h:BF}{a:AI}{u:HO}(r:Rd H a u)(x:HOk P w H h):yai P w H h a u:=by
 rcases r with r|⟨o,r⟩
 .exact x a u r
 .let⟨_,q⟩:=x a _ r;exact q
def Mut:Option HO->Prop
 |some (.lst _)=>True
 |some (.dK _)=>True
 |some (.dT _)=>True
 |some (.set _ _)=>True
 |some (.ins _ _ _)=>True
 |some (.ext _)=>True
 |_=>False
section
variable {P:A9}{w:Al}{H:Hp}{h h':BF}{x e:AI}{o':HO}
theorem HOk.write(ok:HOk P w H h)(mu:Mut (H x))(he:e=x \/ H e=AA (.own x))(k:∀b u,b≠e->h.get? b=AA u->h'.get? b=AA u)(heo:∃u,h'.get? e=AA u)
  (new:yai P w (upd H x o') h' x o'):HOk P w (upd H x o') h':=λb u q=>by
 have nown:∀c y,H c=AA (.own y)->c≠x:=λc y r z=>by subst z;rw[r]at mu;exact mu
 have ntup:∀c xs,H c=AA (.tup xs)->c≠x:=λc xs r z=>by subst z;rw[r]at mu;exact mu
 by_cases hb:b=x
 .subst hb;rw[zt]at q;cases q;exact new
 .rw[zk hb]at q
  by_cases hbe:b=e
  .have q':H b=AA (.own x):=by
    rcases he with z|z
    .exact absurd (hbe.trans z) hb
    .rw[hbe];exact z
   rw[q]at q';cases q';let⟨v,hv⟩:=heo;exact⟨v,by rw[hbe];exact hv⟩
  .refine(ok b u q).stay (λc v hc r=>k c v ?_ r) (λc r=>by rw[zk (nown c b r)];exact r) λc xs r=>by rw[zk (ntup c xs r)];exact r
   rcases hc with rfl|hc
   .exact hbe
   .rintro rfl
    rcases he with z|z
    .exact nown c b hc z
    .rw[hc]at z;cases z;exact hb rfl
end
structure Un(fs ex:List AI)(H H':Hp)(h h':BF):Prop where
 keep:∀b o,h.get? b=AA o->H b=AD->b∉fs->b∉ex->h'.get? b=AA o
 slot:∀b o,h.get? b=AA o->H b=AD->b∈fs->b∉ex->∃sl,h'.get? b=AA {o with slots:=sl}
 free:∀b o,h.get? b=AA o->H b=AD->b∉ex->H' b=AD
 there:∀b o,h.get? b=AA o->b∉ex->∃o',h'.get? b=AA o'
 tups:∀b xs,H b=AA (.tup xs)->H' b=AA (.tup xs)
 frzs:∀b o u,H b=AA (.frz o u)->H' b=AA (.frz o u)
 tbls:∀b ps,H b=AA (.tbl ps)->∃more,H' b=AA (.tbl (ps++more))
section
variable {fs fs' ex ex':List AI}{H H1 H2:Hp}{h h1 h2 h':BF}{a x e:AI}{o:HO}
theorem Un.any(u:Un fs ex H H1 h h1){b:AI}{ob:CC}(q:h.get? b=AA ob)(n:H b=AD)(hx:b∉ex):∃sl,h1.get? b=AA {ob with slots:=sl}:=by
 by_cases hb:b∈fs
 .exact u.slot b ob q n hb hx
 .exact⟨ob.slots,u.keep b ob q n hb hx⟩
theorem Un.kept(k:∀b u,h.get? b=AA u->h'.get? b=AA u):Un fs ex H H h h':=
 ⟨λb ob q _ _ _=>k b ob q,λb ob q _ _ _=>⟨ob.slots,k b ob q⟩,λ_ _ _ n _=>n,λb ob q _=>⟨ob,k b ob q⟩,λ_ _ q=>q,λ_ _ _ q=>q,λ_ ps q=>⟨#[],by rw[q];simp⟩⟩
theorem Un.refl:Un fs ex H H h h:=Un.kept λ_ _ q=>q
theorem Un.laid(k:∀b u,h.get? b=AA u->h'.get? b=AA u)(hp:h.objs.size<=a)(hn:H a=AD):Un fs ex H (upd H a o) h h' where
 keep:=λb u q _ _ _=>k b u q
 slot:=λb u q _ _ _=>⟨u.slots,k b u q⟩
 free:=λb u q n _=>by rw[zk (Aq (A5 (AX q) hp))];exact n
 there:=λb u q _=>⟨u,k b u q⟩
 tups:=λb xs q=>by rw[zk (zn q hn)];exact q
 frzs:=λb u xs q=>by rw[zk (zn q hn)];exact q
 tbls:=λb ps q=>⟨#[],by rw[zk (zn q hn),q];simp⟩
theorem Un.write(mu:Mut (H x))(he:e=x \/ H e=AA (.own x))(k:∀b u,b≠e->h.get? b=AA u->h'.get? b=AA u)(heo:∃u,h'.get? e=AA u):Un fs ex H (upd H x o) h h':=by
 have hx:∀b,H b=AD->b≠x:=λb n z=>by subst z;rw[n]at mu;exact mu
 have hb:∀b,H b=AD->b≠e:=λb n z=>by
  subst z;rcases he with r|r
  .exact hx b n r
  .rw[n]at r;cases r
 have hm:∀b u,H b=AA u->¬Mut (AA u)->b≠x:=λb u q nm z=>by subst z;rw[q]at mu;exact nm mu
 refine⟨λb u q n _ _=>k b u (hb b n) q,λb u q n _ _=>⟨u.slots,k b u (hb b n) q⟩,λb u q n _=>by rw[zk (hx b n)];exact n,λb u q _=>?_,
  λb xs q=>by rw[zk (hm b _ q λz=>z)];exact q,λb u xs q=>by rw[zk (hm b _ q λz=>z)];exact q,λb ps q=>⟨#[],by rw[zk (hm b _ q λz=>z),q];simp⟩⟩
 by_cases hbe:b=e
 .subst hbe;exact heo
 .exact⟨u,k b u hbe q⟩
end
def trk(h:BF)(H:Hp):List Addr:=(EF h.objs.size).filter λa=>(H a).isSome
def yci(h:BF)(H:Hp):Heap:=DD h (trk h H)
theorem zig(h:BF)(H:Hp):(yci h H).objs.size=h.objs.size:=PySem.W.hideAll_size _ _
theorem zjB{h:BF}{H:Hp}{b:AI}{o:CC}(e:h.get? b=AA o)(n:H b=AD):(yci h H).get? b=AA o:=
 Fa _ e λhm=>by
  have q:(H b).isSome=true:=(Gm.mp hm).2;rw[n]at q;simp at q
theorem zlt{h:BF}{H:Hp}{b:AI}{o:CC}(e:(yci h H).get? b=AA o):h.get? b=AA o/\H b=none:=by
 have e':h.get? b=AA o:=Fr (trk h H) e;refine⟨e',?_⟩
 cases q:H b with
 |none=>rfl
 |some x=>
  have hm:b∈trk h H:=Gm.mpr ⟨Gw.mpr (AX e'),by simp[q]⟩;have z:(yci h H).get? b=none:=PySem.W.hideAll_none (trk h H) hm;rw[z]at e;cases e
structure Mod(K:AE)(mg:AQ->Option AF)(base:BF):Prop where
 kin:K.In base
 glob:base.Ns mainGlobals mg
 blt:∃mb,base.Ns builtinsNs mb/\∀x:AQ,x ≠ "__name__"->mb x=bootBuiltins x
 nolimit:base.NoLimit
structure Cx where
 prog:A9
 w:Al
 K:AE
 mg:AQ->Option AF
 base:BF
 A:Ax
 N:List AQ
 s₀:AJ
 H₀:Hp
 env:Env
 outer:List Env
 stack:List Env
 ex:List AI
 fn:AQ->Bool
 calm:Bool
 pn:List (AI×CC)
 xe:AF->AJ->Prop
def frs(l:List Env):List Addr:=l.filterMap (·.frame)
abbrev Cx.fs(X:Cx):List Addr:=frs X.outer
def Vis(sc:Bl)(x:AQ):Prop:=sc.names.lookup x=AA .local \/ sc.names.lookup x=AA .cell \/ sc.names.lookup x=AA .free
def Loc(sc:Bl)(x:AQ):Prop:=sc.names.lookup x=AA .local \/ sc.names.lookup x=AA .cell
def Look(env:Env)(h:BF)(m:AQ->Option AF)(x:AQ)(u:AF):Prop:=
 (env.kindOf x=AA .local/\m x=AA u) \/ ((env.kindOf x=AA .cell \/ env.kindOf x=AA .free)/\∃c,env.cells.lookup x=AA c/\h.IsCell c (AA u))
structure Cx.Ok(X:Cx):Prop where
 mod:Mod X.K X.mg X.base
 kind:X.env.scope.kind=.function
 glob:X.env.globals=mainGlobals
 blt:X.env.builtins=builtinsNs
 above:X.s₀.heap.objs.size<=X.env.locals
 inj:∀x y c,X.env.cells.lookup x=AA c->X.env.cells.lookup y=AA c->x=y
 has:∀x,(X.env.kindOf x=AA .cell \/ X.env.kindOf x=AA .free)->∃c,X.env.cells.lookup x=AA c
 cab:∀x c,X.fn x=AC->X.env.cells.lookup x=AA c->X.s₀.heap.objs.size<=c
 hd:X.calm=AC->X.A.handled=AD
 frames:X.A.frames=AA X.stack
 stk:X.stack=X.outer \/ (X.stack=X.env::X.outer/\X.env.frame=AA X.env.locals)
 exf:∀b∈X.ex,b≠X.env.locals/\∀x c,X.env.cells.lookup x=AA c->c≠b
 bs:∀b o,X.base.get? b=AA o->X.s₀.heap.get? b=AA o/\X.H₀ b=AD
 bsz:X.base.objs.size<=X.s₀.heap.objs.size
 noex:∀b o,X.base.get? b=AA o->b∉X.ex
 exfs:∀b∈X.ex,b∉X.fs
 funs:X.s₀.heap.FunFrames X.base X.outer
 frf:∀b∈X.fs,X.H₀ b=AD
structure Inv(X:Cx)(pins:List (AI×CC))(σ:List (Option V))(H:Hp)(s:AJ):Prop where
 ok:X.Ok
 os:s.os=X.s₀.os
 bare:Dj s.gens
 base:Un X.fs X.ex X.H₀ H X.s₀.heap s.heap
 loc:∃m,s.heap.Ns X.env.locals m/\∀(i:Nat) (x:AQ) (v:V),X.N[i]?=AA x->σ[i]?=AA (AA v)->Vis X.env.scope x->∃u,RelV v u/\Look X.env s.heap m x u
 cell:∀x c,X.env.cells.lookup x=AA c->∃v,s.heap.IsCell c v
 free:H X.env.locals=AD
 freeC:∀x c,X.env.cells.lookup x=AA c->H c=AD
 pin:∀p∈X.pn++pins,s.heap.get? p.1=AA p.2/\H p.1=AD/\p.1≠X.env.locals/\p.1∉X.fs/\∀v,p.2.data ≠ .cell v
 hok:HOk X.prog X.w H s.heap
 len:σ.length=X.N.length
section
variable {X:Cx}{pins:List (AI×CC)}{σ:List (Option V)}{H H':Hp}{s:AJ}{h':BF}
theorem Cx.Ok.nofr(ok:X.Ok){b:AI}{o:CC}(e:X.base.get? b=AA o):b∉X.fs:=λhb=>by
 have:=(ok.funs.mem hb).1;rw[e]at this;cases this
theorem Inv.bs(I:Inv X pins σ H s):∀b o,X.base.get? b=AA o->s.heap.get? b=AA o/\H b=none:=λb o e=>
 ⟨I.base.keep b o (I.ok.bs b o e).1 (I.ok.bs b o e).2 (I.ok.nofr e) (I.ok.noex b o e),I.base.free b o (I.ok.bs b o e).1 (I.ok.bs b o e).2 (I.ok.noex b o e)⟩
theorem Inv.bk(I:Inv X pins σ H s):∀b o,X.base.get? b=AA o->s.heap.get? b=AA o:=λb o e=>(I.bs b o e).1
theorem Inv.mod(I:Inv X pins σ H s):Mod X.K X.mg X.base:=I.ok.mod
theorem Inv.kIn(I:Inv X pins σ H s):X.K.In s.heap:=I.ok.mod.kin.keeps I.bk
theorem Inv.lt(I:Inv X pins σ H s):X.env.locals<s.heap.objs.size:=let ⟨_,hn,_⟩:=I.loc;hn.lt
theorem Inv.sz(I:Inv X pins σ H s):X.s₀.heap.objs.size<=s.heap.objs.size:=BU I.ok.above (Ex I.lt)
theorem Inv.nofs(I:Inv X pins σ H s){a:AI}(h:s.heap.objs.size<=a):a∉X.fs:=λhb=>by
 let⟨_,o,ho,_⟩:=I.ok.funs.mem hb;exact absurd (A5 (AX ho) (BU I.sz h)) (DA _)
theorem Inv.cne(I:Inv X pins σ H s):∀x c,X.env.cells.lookup x=AA c->c≠X.env.locals:=λx c e z=>by
 let⟨v,o,ho,hd⟩:=I.cell x c e;let⟨m,⟨o',es,ep,ho',hd',_⟩,_⟩:=I.loc;rw[z,ho']at ho;cases ho;rw[hd']at hd;cases hd
theorem Inv.funs(I:Inv X pins σ H s):s.heap.FunFrames X.base X.outer:=by
 have all:∀(l:List Env),(∀b∈frs l,b∈X.fs)->X.s₀.heap.FunFrames X.base l->s.heap.FunFrames X.base l:=by
  intro l
  induction l with
  |nil=>intro _ _;trivial
  |cons env r ih=>
   intro hs hl;let⟨hk,⟨L,o,hf,hn,ho,hd⟩,hr⟩:=hl;have hL:L∈X.fs:=hs L (by unfold frs;rw[C2,hf];exact An);let⟨sl,e⟩:=I.base.slot L o ho (I.ok.frf L hL) hL λz=>I.ok.exfs L z hL;exact⟨hk,⟨L,_,hf,hn,e,hd⟩,ih (λb hb=>hs b (by unfold frs;rw[C2,hf];exact AR _ hb)) hr⟩
 exact all X.outer (λ_ hb=>hb) I.ok.funs
theorem Inv.stack(I:Inv X pins σ H s):s.heap.FunFrames X.base X.stack:=by
 rcases I.ok.stk with e|⟨e,hf⟩
 .rw[e];exact I.funs
 .rw[e];let⟨m,hn,_⟩:=I.loc;refine .cons (by rw[I.ok.kind];decide) hf hn ?_ I.funs;exact Heap.get?_none_of_le (BU I.ok.bsz I.ok.above)
theorem Inv.stkSub(I:Inv X pins σ H s):∀b∈frs X.stack,b∈X.env.locals::X.fs:=λb hb=>by
 rcases I.ok.stk with e|⟨e,hf⟩
 .rw[e]at hb;exact AR _ hb
 .rw[e]at hb;unfold frs at hb;rw[C2,hf]at hb;exact hb
theorem Inv.stkFree(I:Inv X pins σ H s):∀b∈frs X.stack,H b=none:=λb hb=>by
 rcases AN.mp (I.stkSub b hb)with e|hb
 .rw[e];exact I.free
 .let⟨_,o,ho,_⟩:=I.ok.funs.mem hb;exact I.base.free b o ho (I.ok.frf b hb) λz=>I.ok.exfs b z hb
theorem Inv.step{g':Array GenState}{t':Nat}{d':Drawn}{ch:List AI}(I:Inv X pins σ H s)
  (hch:∀b∈ch,(b∈X.ex \/ X.s₀.heap.objs.size<=b)/\b≠X.env.locals/\(∀x c,X.env.cells.lookup x=AA c->c≠b)/\∀p∈X.pn++pins,p.1≠b)
  (keep:∀b o,b≠X.env.locals->b∉X.fs->b∉ch->s.heap.get? b=AA o->H b=AD->h'.get? b=AA o)
  (slot:∀b o,b≠X.env.locals->b∈X.fs->b∉ch->s.heap.get? b=AA o->H b=AD->∃sl,h'.get? b=AA {o with slots:=sl}) (free:∀b o,b∉ch->s.heap.get? b=AA o->H b=AD->H' b=AD)
  (there:∀b o,b∉ch->s.heap.get? b=AA o->∃o',h'.get? b=AA o')
  (tups:∀b xs,H b=AA (.tup xs)->H' b=AA (.tup xs)) (frzs:∀b o u,H b=AA (.frz o u)->H' b=AA (.frz o u)) (tbls:∀b ps,H b=AA (.tbl ps)->∃more,H' b=AA (.tbl (ps++more)))
  (ns:∀m,s.heap.Ns X.env.locals m->h'.Ns X.env.locals m) (hok:HOk X.prog X.w H' h') (hg:Dj g'):
  Inv X pins σ H' {s with heap:=h',gens:=g',drawn:=d',toks:=t'}:=by
 have neL:∀b o,X.s₀.heap.get? b=AA o->b≠X.env.locals:=λb o e=>Aq (A5 (AX e) I.ok.above);have neC:∀b o,X.s₀.heap.get? b=AA o->b∉X.ex->b∉ch:=λb o e hx hb=>by
  rcases (hch b hb).1 with z|z
  .exact hx z
  .exact absurd (A5 (AX e) z) (DA _)
 have cellK:∀x c,X.env.cells.lookup x=AA c->∀v,s.heap.IsCell c v->h'.IsCell c v:=λx c e v ⟨o,ho,hd⟩=>by
  have nch:c∉ch:=λz=>(hch c z).2.2.1 x c e rfl
  by_cases hc:c∈X.fs
  .let⟨sl,q⟩:=slot c o (I.cne x c e) hc nch ho (I.freeC x c e);exact⟨_,q,hd⟩
  .exact⟨o,keep c o (I.cne x c e) hc nch ho (I.freeC x c e),hd⟩
 refine⟨I.ok,I.os,hg,⟨λb o e n hb hx=>?_,λb o e n hb hx=>?_,λb o e n hx=>?_,λb o e hx=>?_,λb xs e=>tups b xs (I.base.tups b xs e),λb o xs e=>frzs b o xs (I.base.frzs b o xs e),λb ps e=>?_⟩,?_,λx c e=>?_,?_,λx c e=>?_,λp hp=>?_,hok,I.len⟩
 .exact keep b o (neL b o e) hb (neC b o e hx) (I.base.keep b o e n hb hx) (I.base.free b o e n hx)
 .let⟨sl,e1⟩:=I.base.slot b o e n hb hx;let⟨sl',e2⟩:=slot b _ (neL b o e) hb (neC b o e hx) e1 (I.base.free b o e n hx);exact⟨sl',e2⟩
 .let⟨o',e1⟩:=I.base.there b o e hx;exact free b o' (neC b o e hx) e1 (I.base.free b o e n hx)
 .let⟨o',e1⟩:=I.base.there b o e hx;exact there b o' (neC b o e hx) e1
 .let⟨m1,e1⟩:=I.base.tbls b ps e;let⟨m2,e2⟩:=tbls b _ e1;exact⟨m1++m2,by rw[e2,EG]⟩
 .let⟨m,hn,hl⟩:=I.loc;refine⟨m,ns m hn,λi x v e1 e2 e3=>?_⟩;let⟨u,r,l⟩:=hl i x v e1 e2 e3;refine⟨u,r,?_⟩;rcases l with l|⟨k,c,e,z⟩
  .exact .inl l
  .exact .inr ⟨k,c,e,cellK x c e _ z⟩
 .let⟨v,z⟩:=I.cell x c e;exact⟨v,cellK x c e v z⟩
 .let⟨m,⟨o,_,_,ho,_⟩,_⟩:=I.loc;exact free _ o (λz=>(hch _ z).2.1 rfl) ho I.free
 .let⟨v,o,ho,hd⟩:=I.cell x c e;exact free c o (λz=>(hch c z).2.2.1 x c e rfl) ho (I.freeC x c e)
 .let⟨e,n,ne,nf,d⟩:=I.pin p hp;have nch:p.1∉ch:=λz=>(hch p.1 z).2.2.2 p hp rfl;exact⟨keep p.1 p.2 ne nf nch e n,free p.1 p.2 nch e n,ne,nf,d⟩
theorem Inv.un{t':Nat}(I:Inv X pins σ H s)(u:Un X.fs [] H H' s.heap h')(hok:HOk X.prog X.w H' h'):Inv X pins σ H' {s with heap:=h',toks:=t'}:=by
 let⟨m,⟨o,es,ep,ho,r⟩,_⟩:=id I.loc;let⟨sl,hL⟩:=u.any ho I.free (by simp);exact I.step (g':=s.gens) (d':=s.drawn) (ch:=[]) (λ_ z=>nomatch z) (λb o _ hb _ e n=>u.keep b o e n hb (by simp)) (λb o _ hb _ e n=>u.slot b o e n hb (by simp)) (λb o _ e n=>u.free b o e n (by simp)) (λb o _ e=>u.there b o e (by simp)) u.tups u.frzs u.tbls (λm' hm=>by
  let⟨o',es',ep',ho',r'⟩:=hm;rw[ho]at ho';cases ho';exact⟨_,es',ep',hL,r'⟩) hok I.bare
theorem Inv.call{g':Array GenState}{t':Nat}{d':Drawn}{ch:List AI}(I:Inv X pins σ H s)(u:Un (frs X.stack) ch H H' s.heap h')(hok:HOk X.prog X.w H' h')(hg:Dj g')
  (hch:∀b∈ch,(b∈X.ex \/ X.s₀.heap.objs.size<=b)/\b≠X.env.locals/\(∀x c,X.env.cells.lookup x=AA c->c≠b)/\∀p∈X.pn++pins,p.1≠b):
  Inv X pins σ H' {s with heap:=h',gens:=g',drawn:=d',toks:=t'}:=by
 let⟨m,⟨o,es,ep,ho,r⟩,_⟩:=id I.loc;let⟨sl,hL⟩:=u.any ho I.free λz=>(hch _ z).2.1 rfl;exact I.step (ch:=ch) hch (λb o hL hb hc e n=>u.keep b o e n (λz=>(AN.mp (I.stkSub b z)).elim hL hb) hc) (λb o _ _ hc e n=>u.any e n hc) (λb o hc e n=>u.free b o e n hc) (λb o hc e=>u.there b o e hc) u.tups u.frzs u.tbls (λm' hm=>by
  let⟨o',es',ep',ho',r'⟩:=hm;rw[ho]at ho';cases ho';exact⟨_,es',ep',hL,r'⟩) hok hg
theorem Inv.turned{t':Nat}{it:AI}(I:Inv X pins σ H s)(k:∀b o,b≠it->s.heap.get? b=AA o->h'.get? b=AA o)(hn:H it=AD)(hL:it≠X.env.locals)
  (h1:it∈X.ex \/ X.s₀.heap.objs.size<=it) (h2:∀x c,X.env.cells.lookup x=AA c->c≠it) (h3:∀p∈X.pn++pins,p.1≠it):Inv X pins σ H {s with heap:=h',toks:=t'}:=by
 have nit:∀b u,H b=AA u->b≠it:=λb u e z=>by rw[z,hn]at e;cases e
 refine I.step (g':=s.gens) (d':=s.drawn) (ch:=[it]) (λb hb=>?_) (λb o _ _ hc e _=>k b o (λz=>hc (by simp[z])) e) (λb o _ _ hc e _=>⟨o.slots,k b o (λz=>hc (by simp[z])) e⟩) (λ_ _ _ _ n=>n)
  (λb o hc e=>⟨o,k b o (λz=>hc (by simp[z])) e⟩) (λ_ _ e=>e) (λ_ _ _ e=>e) (λb ps e=>⟨#[],by rw[e];simp⟩) (λm hm=>?_) (λb u e=>?_) I.bare
 .have e:b=it:=by simpa using hb
  subst e;exact⟨h1,hL,h2,h3⟩
 .let⟨o,es,ep,ho,r⟩:=hm;exact⟨o,es,ep,k _ o (BJ hL) ho,r⟩
 .refine(I.hok b u e).stay (λc v hc q=>k c v ?_ q) (λ_ q=>q) λ_ _ q=>q;rcases hc with z|z
  .rw[z];exact nit b u e
  .exact nit c _ z
theorem Inv.tok(I:Inv X pins σ H s)(t:Nat):Inv X pins σ H {s with toks:=t}:=I.un (h':=s.heap) (t':=t) Un.refl I.hok
theorem Inv.kept{t':Nat}(I:Inv X pins σ H s)(k:∀b u,s.heap.get? b=AA u->h'.get? b=AA u):Inv X pins σ H {s with heap:=h',toks:=t'}:=I.un (Un.kept k) (I.hok.kept k)
theorem Inv.laid{a:AI}{o:HO}{t':Nat}(I:Inv X pins σ H s)(k:∀b u,s.heap.get? b=AA u->h'.get? b=AA u)(hp:s.heap.objs.size<=a)(new:yai X.prog X.w (upd H a o) h' a o):
  Inv X pins σ (upd H a o) {s with heap:=h',toks:=t'}:=I.un (Un.laid k hp (I.hok.fresh hp)) (I.hok.laid k hp new)
theorem Inv.write{x e:AI}{o:HO}{t':Nat}(I:Inv X pins σ H s)(mu:Mut (H x))(he:e=x \/ H e=AA (.own x))(k:∀b u,b≠e->s.heap.get? b=AA u->h'.get? b=AA u)(heo:∃u,h'.get? e=AA u)
  (new:yai X.prog X.w (upd H x o) h' x o):Inv X pins σ (upd H x o) {s with heap:=h',toks:=t'}:=I.un (Un.write mu he k heo) (I.hok.write mu he k heo new)
theorem Inv.pins_of{pins':List (AI×CC)}(I:Inv X pins σ H s)(h:∀p∈pins',s.heap.get? p.1=AA p.2/\H p.1=AD/\p.1≠X.env.locals/\p.1∉X.fs/\∀v,p.2.data ≠ .cell v):Inv X pins' σ H s:=
 ⟨I.ok,I.os,I.bare,I.base,I.loc,I.cell,I.free,I.freeC,λp hp=>(Au.mp hp).elim (λz=>I.pin p (FX _ z)) (h p),I.hok,I.len⟩
theorem zgc{N:List AQ}(hN:N.Nodup){i j:Nat}{x:AQ}(a:N[i]?=AA x)(b:N[j]?=AA x):i=j:=by
 let⟨h1,e1⟩:=BE.mp a;let⟨h2,e2⟩:=BE.mp b;exact(List.getElem_inj hN).mp (e1.trans e2.symm)
theorem zhQ{M:Model}{A:Ax}{E:AF->AJ->Prop}{i:Nat}{x:AQ}{v:V}{u:AF}{Q:Unit->AJ->Prop}(I:Inv X pins σ H s)(hN:X.N.Nodup)(hi:X.N[i]?=AA x)(hx:Loc X.env.scope x)(r:RelV v u)
  (h:∀s',Inv X pins (σ.set i (AA v)) H s'->(∃a,Cb a s.heap s'.heap/\(a=X.env.locals \/ X.env.cells.lookup x=AA a))->Q () s') (hf:X.fn x=AC \/ X.env.scope.names.lookup x=AA .local:=by first|exact .inl rfl|exact .inr rfl|assumption):A2 M A (storeName X.env x u) Q E s:=by
 let⟨m,hn,hl⟩:=id I.loc;have hcls:(X.env.scope.kind==.class || (X.env.scope.kind==.module&&X.env.locals != X.env.globals))=false:=by rw[I.ok.kind];rfl
 have hiσ:i<σ.length:=by rw[I.len];exact(BE.mp hi).1
 have cne:=I.cne;have tracked:∀{a:AI} {h':BF},(∃o,s.heap.get? a=AA o/\H a=AD)->Cb a s.heap h'->HOk X.prog X.w H h':=λ{a h'} ha hs b ob e=>by
  let⟨_,_,hfree⟩:=ha;refine(I.hok b ob e).stay (λc w' hc q=>(hs.2 c ?_).trans q) (λ_ q=>q) λ_ _ q=>q
  rintro rfl
  rcases hc with rfl|hc
  .rw[hfree]at e;cases e
  .rw[hfree]at hc;cases hc
 rcases hx with hk|hk
 .refine wpAny_storeName_local hk hn (λh' hn' hs=>?_) hcls;let⟨oL,_,_,hoL,_⟩:=id hn;refine h _ ⟨I.ok,I.os,I.bare,⟨λb o e n hb hx=>?_,λb o e n hb hx=>?_,I.base.free,λb o e hx=>?_,I.base.tups,I.base.frzs,I.base.tbls⟩,⟨_,hn',λj y v' e1 e2 e3=>?_⟩,λy c e=>?_,I.free,I.freeC,λp hp=>?_,tracked ⟨oL,hoL,I.free⟩ hs,by simpa using I.len⟩ ⟨_,hs,.inl rfl⟩
  .exact(hs.2 b (Aq (A5 (AX e) I.ok.above))).trans (I.base.keep b o e n hb hx)
  .let⟨sl,e1⟩:=I.base.slot b o e n hb hx;exact⟨sl,(hs.2 b (Aq (A5 (AX e) I.ok.above))).trans e1⟩
  .let⟨o',e1⟩:=I.base.there b o e hx;exact⟨o',(hs.2 b (Aq (A5 (AX e) I.ok.above))).trans e1⟩
  .by_cases hj:j=i
   .subst hj;rw[hi]at e1;cases e1;rw[Aa hiσ]at e2
    cases e2
    exact⟨u,r,.inl ⟨hk,by simp⟩⟩
   .rw[AM (BJ hj)]at e2;let⟨u',r',q⟩:=hl j y v' e1 e2 e3;refine⟨u',r',?_⟩;rcases q with⟨k,e⟩|⟨k,c,e,z⟩
    .refine .inl ⟨k,?_⟩;have:y≠x:=λe=>hj (zgc hN e1 (e ▸ hi));simp[this,e]
    .exact .inr ⟨k,c,e,z.sameBut hs (cne y c e)⟩
  .let⟨w',z⟩:=I.cell y c e;exact⟨w',z.sameBut hs (cne y c e)⟩
  .let⟨e,n,ne,nf,d⟩:=I.pin p hp;exact⟨(hs.2 p.1 ne).trans e,n,ne,nf,d⟩
 .have hfn:X.fn x=true:=by
   rcases hf with z|z
   .exact z
   .rw[z]at hk;cases hk
  let⟨c,hc⟩:=I.ok.has x (.inl hk);let⟨w',z⟩:=I.cell x c hc;refine wpAny_storeName_cell I.ok.kind hk hc z (λh' hc' hs=>?_);let⟨oc,hoc,hocd⟩:=id z;refine h {s with heap:=h'} ⟨I.ok,I.os,I.bare,⟨λb o e n hb hx=>?_,λb o e n hb hx=>?_,I.base.free,λb o e hx=>?_,I.base.tups,I.base.frzs,I.base.tbls⟩,⟨m,hn.sameBut hs (BJ (cne x c hc)),λj y v' e1 e2 e3=>?_⟩,λy c' e=>?_,I.free,I.freeC,λp hp=>?_,tracked ⟨oc,hoc,I.freeC x c hc⟩ hs,by simpa using I.len⟩ ⟨c,hs,.inr hc⟩
  .exact(hs.2 b (Aq (A5 (AX e) (I.ok.cab x c hfn hc)))).trans (I.base.keep b o e n hb hx)
  .let⟨sl,e1⟩:=I.base.slot b o e n hb hx;exact⟨sl,(hs.2 b (Aq (A5 (AX e) (I.ok.cab x c hfn hc)))).trans e1⟩
  .let⟨o',e1⟩:=I.base.there b o e hx;exact⟨o',(hs.2 b (Aq (A5 (AX e) (I.ok.cab x c hfn hc)))).trans e1⟩
  .by_cases hj:j=i
   .subst hj;rw[hi]at e1;cases e1;rw[Aa hiσ]at e2
    cases e2
    exact⟨u,r,.inr ⟨.inl hk,c,hc,hc'⟩⟩
   .rw[AM (BJ hj)]at e2;let⟨u',r',q⟩:=hl j y v' e1 e2 e3;refine⟨u',r',?_⟩;rcases q with q|⟨k,c',e,z'⟩
    .exact .inl q
    .refine .inr ⟨k,c',e,z'.sameBut hs ?_⟩
     rintro rfl
     exact hj (zgc hN e1 (I.ok.inj _ _ _ e hc ▸ hi))
  .by_cases hcc:c'=c
   .subst hcc;exact⟨_,hc'⟩
   .let⟨w2,z2⟩:=I.cell y c' e;exact⟨w2,z2.sameBut hs hcc⟩
  .let⟨e,n,ne,nf,d⟩:=I.pin p hp;refine⟨(hs.2 p.1 ?_).trans e,n,ne,nf,d⟩;intro q;rw[q,hoc]at e;have q':oc=p.2:=AW e;exact d w' (by rw[<-q'];exact hocd)
theorem zb1{M:Model}{A:Ax}{E:AF->AJ->Prop}{i:Nat}{x:AQ}{v:V}{u:AF}{Q:Unit->AJ->Prop}(I:Inv X pins σ H s)(hN:X.N.Nodup)(hi:X.N[i]?=AA x)(hx:Loc X.env.scope x)(r:RelV v u)
  (h:∀s',Inv X pins (σ.set i (AA v)) H s'->Q () s') (hf:X.fn x=AC \/ X.env.scope.names.lookup x=AA .local:=by first|exact .inl rfl|exact .inr rfl|assumption):A2 M A (storeName X.env x u) Q E s:=
 zhQ I hN hi hx r (λs' I' _=>h s' I') hf
theorem Inv.call'{s':AJ}{ch:List AI}(I:Inv X pins σ H s)(ho:s'.os=s.os)(u:Un (frs X.stack) ch H H' s.heap s'.heap)(hok:HOk X.prog X.w H' s'.heap)(hg:Dj s'.gens)
  (hch:∀b∈ch,(b∈X.ex \/ X.s₀.heap.objs.size<=b)/\b≠X.env.locals/\(∀x c,X.env.cells.lookup x=AA c->c≠b)/\∀p∈X.pn++pins,p.1≠b):Inv X pins σ H' s':=by
 let⟨h',g',d',t',o'⟩:=s';have e:o'=s.os:=ho;subst e;exact I.call (g':=g') (t':=t') (d':=d') u hok hg hch
end
abbrev XK:=AF->Option AI->Hp->Prop
abbrev St:=List (Option V)
abbrev VK:=V->Hp->Prop
abbrev TE:=St->Hp->VK->Prop
abbrev TT:=St->Hp->(Bool->Hp->Prop)->Prop
abbrev TA:=St->Hp->(List V->Hp->Prop)->Prop
structure Ends where
 nx:St->Hp->Prop
 rt:VK
 bk:St->Hp->Prop:=λ_ _=>False
 ct:St->Hp->Prop:=λ_ _=>False
abbrev TS:=Ends->St->Hp->Prop
def EP(X:Cx)(pins:List (AI×CC))(σ:St)(Q:VK)(u:AF)(s':AJ):Prop:=∃v H',Inv X pins σ H' s'/\RelV v u/\Q v H'
def TP(X:Cx)(pins:List (AI×CC))(σ:St)(Q:Bool->Hp->Prop)(b:Bool)(s':AJ):Prop:=∃H',Inv X pins σ H' s'/\Q b H'
def AP(X:Cx)(pins:List (AI×CC))(σ:St)(Q:List V->Hp->Prop)(us:List AF)(s':AJ):Prop:=∃vs H',Inv X pins σ H' s'/\Vals vs us/\Q vs H'
def SP(X:Cx)(pins:List (AI×CC))(D:Ends)(f:Flow)(s':AJ):Prop:=
 match f with
 |.next=>∃σ' H',Inv X pins σ' H' s'/\D.nx σ' H'
 |.brk=>∃σ' H',Inv X pins σ' H' s'/\D.bk σ' H'
 |.cont=>∃σ' H',Inv X pins σ' H' s'/\D.ct σ' H'
 |.ret u=>∃v σ' H',Inv X pins σ' H' s'/\RelV v u/\D.rt v H'
def PE(X:Cx)(e:AT)(t:TE):Prop:=
 ∀(pins:List (AI×CC)) (s:AJ) (σ:St) (H:Hp) (Q:VK),Inv X pins σ H s->t σ H Q->A2 (model X.prog X.w) X.A (eval e X.env) (EP X pins σ Q) X.xe s
def PT(X:Cx)(e:AT)(t:TT):Prop:=
 ∀(pins:List (AI×CC)) (s:AJ) (σ:St) (H:Hp) (Q:Bool->Hp->Prop),Inv X pins σ H s->t σ H Q->A2 (model X.prog X.w) X.A (isTrue e X.env (eval e X.env)) (TP X pins σ Q) X.xe s
def PW(X:Cx)(e:AT)(t:TT):Prop:=
 ∀(whole:HI AF) (pins:List (AI×CC)) (s:AJ) (σ:St) (H:Hp) (Q:Bool->Hp->Prop),Inv X pins σ H s->t σ H Q->A2 (model X.prog X.w) X.A (isTrue e X.env whole) (TP X pins σ Q) X.xe s
theorem PW.pt{X:Cx}{e:AT}{t:TT}(h:PW X e t):PT X e t:=h _
def PA(X:Cx)(es:List AT)(t:TA):Prop:=
 ∀(pos:CW) (pins:List (AI×CC)) (s:AJ) (σ:St) (H:Hp) (Q:List V->Hp->Prop),Inv X pins σ H s->t σ H Q->A2 (model X.prog X.w) X.A (spliced (backTo pos (starEach es X.env))) (AP X pins σ Q) X.xe s
def PS(X:Cx)(st:Bz)(t:TS):Prop:=
 ∀(pins:List (AI×CC)) (s:AJ) (σ:St) (H:Hp) (D:Ends),Inv X pins σ H s->t D σ H->A2 (model X.prog X.w) X.A (exec st X.env) (SP X pins D) X.xe s
def PSs(X:Cx)(st:List Bz)(t:TS):Prop:=
 ∀(pins:List (AI×CC)) (s:AJ) (σ:St) (H:Hp) (D:Ends),Inv X pins σ H s->t D σ H->A2 (model X.prog X.w) X.A (execs st X.env) (SP X pins D) X.xe s
theorem thn{α:Type}{t:HI α}{Q Q':α->AJ->Prop}{M:Model}{A:Ax}{E:AF->AJ->Prop}{s:AJ}(h:A2 M A t Q E s)(hQ:∀a s,Q a s->Q' a s):A2 M A t Q' E s:=C0 h hQ λ_ _ x=>x
section
variable {X:Cx}
theorem bin{a b:AT}{ta tb:TE}(ha:PE X a ta)(hb:PE X b tb){pins:List (AI×CC)}{s:AJ}{σ:St}{H:Hp}{R:V->V->Hp->Prop}(I:Inv X pins σ H s)(h:ta σ H λx H1=>tb σ H1 λy H2=>R x y H2)
  {α:Type} {Q:α->AJ->Prop} {f:AF->AF->HI α}
  (hf:∀v u s2 x y H2,Inv X pins σ H2 s2->RelV x v->RelV y u->R x y H2->A2 (model X.prog X.w) X.A (f v u) Q X.xe s2):
  A2 (model X.prog X.w) X.A (eval a X.env) (λv s₁=>A2 (model X.prog X.w) X.A (eval b X.env) (λu s₂=>A2 (model X.prog X.w) X.A (f v u) Q X.xe s₂) X.xe s₁) X.xe s:=by
 refine thn (ha pins s σ H _ I h) λv s1 kq=>?_;let⟨x,H1,I1,r1,q1⟩:=kq;refine thn (hb pins s1 σ H1 _ I1 q1) λu s2 kq=>?_;let⟨y,H2,I2,r2,q2⟩:=kq;exact hf v u s2 x y H2 I2 r1 r2 q2
def yfK(i:Nat):TE:=λσ H Q=>∃v,σ[i]?=AA (AA v)/\Q v H
def tC(v:V):TE:=λ_ H Q=>Q v H
theorem zky{i:Nat}{x:AQ}{pos:CW}(hN:X.N[i]?=AA x)(hv:Vis X.env.scope x)(hd:(x==("__debug__":AQ))=false:=by decide)(hcd:(x==("__classdict__":AQ))=false:=by decide):PE X (.Name x pos) (yfK i):=by
 intro pins s σ H Q I h;let⟨v,e,h⟩:=h;let⟨m,hn,hl⟩:=I.loc;let⟨u,r,l⟩:=hl i x v hN e hv;have fin:EP X pins σ Q u s:=⟨v,H,I,r,h⟩;rcases l with⟨hk,hm⟩|⟨hk,c,hc,hcell⟩
 .exact Gx (FY I.ok.kind hk hn hm fin) hd
 .rcases hk with hk|hk
  .exact Gx (Fb I.ok.kind hk hc hcell fin) hd
  .exact Gx (wpAny_loadName_free I.ok.kind hk hc hcell fin hcd) hd
theorem ydQ{i j pos}:PE X (.Constant (.int i) j pos) (tC (.int i)):=λ_ _ _ H _ I h=>wpAny_Constant_int ⟨.int i,H,I.tok _,⟨_,rfl⟩,h⟩
theorem yeh{b j pos}:PE X (.Constant (.bool b) j pos) (tC (.bl b)):=λ_ _ _ H _ I h=>Constant_bool ⟨.bl b,H,I,rfl,h⟩
theorem ydb{j pos}:PE X (.Constant .none j pos) (tC .non):=λ_ _ _ H _ I h=>Constant_none ⟨.non,H,I,rfl,h⟩
theorem ydE{x j pos}:PE X (.Constant (.str x) j pos) (tC (.str x)):=λ_ _ _ H _ I h=>Calls.Constant_str ⟨.str x,H,I.tok _,⟨_,rfl⟩,h⟩
def Gl(X:Cx)(x:AQ):Prop:=X.env.kindOf x=AA .globalImplicit
theorem zdc{E:AF->AJ->Prop}{pins:List (AI×CC)}{s:AJ}{σ:St}{H:Hp}{x:AQ}{u:AF}{pos:CW}{Q:AF->AJ->Prop}(I:Inv X pins σ H s)(hg:Gl X x)(hm:X.mg x=AA u)(h:Q u s)
  (hd:(x==("__debug__":AQ))=false:=by decide):A2 (model X.prog X.w) X.A (eval (.Name x pos) X.env) Q E s:=
 EH I.ok.kind hg (Calls.loadGlobal_global (by rw[I.ok.glob];exact I.mod.glob.keeps I.bk) hm h) hd
theorem zdN{E:AF->AJ->Prop}{pins:List (AI×CC)}{s:AJ}{σ:St}{H:Hp}{x:AQ}{u:AF}{pos:CW}{Q:AF->AJ->Prop}(I:Inv X pins σ H s)(hg:Gl X x)(hm:X.mg x=AD)(hv:bootBuiltins x=AA u)(h:Q u s)
  (hn:x ≠ "__name__":=by decide) (hd:(x==("__debug__":AQ))=false:=by decide):A2 (model X.prog X.w) X.A (eval (.Name x pos) X.env) Q E s:=by
 let⟨mb,h1,h2⟩:=I.mod.blt;exact EH I.ok.kind hg (Calls.loadGlobal_builtin (by rw[I.ok.glob];exact I.mod.glob.keeps I.bk) hm (by rw[I.ok.blt];exact h1.keeps I.bk) ((h2 x hn).trans hv) h) hd
theorem zdb{x:AQ}{v:V}{u:AF}{pos:CW}(hg:Gl X x)(hm:X.mg x=AA u)(r:RelV v u)(hd:(x==("__debug__":AQ))=false:=by decide):PE X (.Name x pos) (tC v):=
 λ_ _ _ H _ I h=>zdc I hg hm ⟨v,H,I,r,h⟩ hd
theorem zmA{x:AQ}{v:V}{u:AF}{pos:CW}(hg:Gl X x)(hm:X.mg x=AD)(hv:bootBuiltins x=AA u)(r:RelV v u)(hn:x ≠ "__name__":=by decide)(hd:(x==("__debug__":AQ))=false:=by decide):PE X (.Name x pos) (tC v):=
 λ_ _ _ H _ I h=>zdN I hg hm hv ⟨v,H,I,r,h⟩ hn hd
variable {a b:AT}{ta tb:TE}{pos:CW}
variable {tA tB':TT}{rest:List AT}
def yg6(t u:TT):TT:=λσ H Q=>t σ H λc H1=>if c=AC then u σ H1 Q else Q AB H1
def tOr(t u:TT):TT:=λσ H Q=>t σ H λc H1=>if c=AC then Q AC H1 else u σ H1 Q
def ygi(t:TT):TT:=λσ H Q=>t σ H λc H1=>Q (!c) H1
theorem zlp(ha:PT X a tA):PW X (.BoolOp .And [a] pos) tA:=by
 intro wh pins s σ H Q I h;refine isTrue_and (thn (ha pins s σ H Q I h) λc s1 e=>?_)
 cases c with
 |true=>exact isTrue_and_nil e
 |false=>exact e
theorem zoq(ha:PT X a tA):PW X (.BoolOp .Or [a] pos) tA:=by
 intro wh pins s σ H Q I h;refine isTrue_or (thn (ha pins s σ H Q I h) λc s1 e=>?_)
 cases c with
 |false=>exact isTrue_or_nil e
 |true=>exact e
theorem zoi(ha:PT X a tA)(hb:PW X (.BoolOp .And (b::rest) pos) tB'):PW X (.BoolOp .And (a::b::rest) pos) (yg6 tA tB'):=by
 intro wh pins s σ H Q I h;refine isTrue_and (thn (ha pins s σ H _ I h) λc s1 kq=>?_);let⟨H1,I1,q1⟩:=kq
 cases c with
 |true=>exact hb wh pins s1 σ H1 Q I1 q1
 |false=>exact⟨H1,I1,q1⟩
theorem zps(ha:PT X a tA)(hb:PW X (.BoolOp .Or (b::rest) pos) tB'):PW X (.BoolOp .Or (a::b::rest) pos) (tOr tA tB'):=by
 intro wh pins s σ H Q I h;refine isTrue_or (thn (ha pins s σ H _ I h) λc s1 kq=>?_);let⟨H1,I1,q1⟩:=kq
 cases c with
 |true=>exact⟨H1,I1,q1⟩
 |false=>exact hb wh pins s1 σ H1 Q I1 q1
theorem znt(ha:PT X a tA):PT X (.UnaryOp .Not a pos) (ygi tA):=by
 intro pins s σ H Q I h;exact isTrue_not (ha pins s σ H (λc H1=>Q (!c) H1) I h)
def yeq(ta tb:TE):TE:=λσ H Q=>ta σ H λx H1=>∃c,x=.bl c/\if c=AC then tb σ H1 Q else Q (.bl AB) H1
def yfQ(ta tb:TE):TE:=λσ H Q=>ta σ H λx H1=>∃c,x=.bl c/\if c=AC then Q (.bl AC) H1 else tb σ H1 Q
def yec(ta:TE):TE:=λσ H Q=>ta σ H λx H1=>∃c,x=.bl c/\Q (.bl (!c)) H1
theorem zoT{op}{t:TE}(h:PE X a t):PE X (.BoolOp op [a] pos) t:=λpins s σ H Q I hw=>BoolOp_one (h pins s σ H Q I hw)
theorem znz(ha:PE X a ta)(hb:PE X (.BoolOp .And (b::rest) pos) tb):PE X (.BoolOp .And (a::b::rest) pos) (yeq ta tb):=by
 intro pins s σ H Q I h;refine BoolOp_and (thn (ha pins s σ H _ I h) λv s1 kq=>?_);let⟨x,H1,I1,r1,q1⟩:=kq;let⟨c,rfl,q1⟩:=q1
 cases r1
 refine B9 ?_
 cases c with
 |true=>exact hb pins s1 σ H1 Q I1 q1
 |false=>exact⟨.bl AB,H1,I1,rfl,q1⟩
theorem zpB(ha:PE X a ta)(hb:PE X (.BoolOp .Or (b::rest) pos) tb):PE X (.BoolOp .Or (a::b::rest) pos) (yfQ ta tb):=by
 intro pins s σ H Q I h;refine BoolOp_or (thn (ha pins s σ H _ I h) λv s1 kq=>?_);let⟨x,H1,I1,r1,q1⟩:=kq;let⟨c,rfl,q1⟩:=q1
 cases r1
 refine B9 ?_
 cases c with
 |false=>exact hb pins s1 σ H1 Q I1 q1
 |true=>exact⟨.bl AC,H1,I1,rfl,q1⟩
theorem zpo(ha:PE X a ta):PE X (.UnaryOp .Not a pos) (yec ta):=by
 intro pins s σ H Q I h;refine UnaryOp_ (thn (ha pins s σ H _ I h) λv s1 kq=>?_);let⟨x,H1,I1,r1,q1⟩:=kq;let⟨c,rfl,q1⟩:=q1
 cases r1
 exact not_of (B9 ⟨.bl (!c),H1,I1,rfl,q1⟩)
def tIf(t:TT)(ta tb:TE):TE:=λσ H Q=>t σ H λc H1=>if c=AC then ta σ H1 Q else tb σ H1 Q
theorem zjw{c:AT}(hc:PT X c tA)(ha:PE X a ta)(hb:PE X b tb):PE X (.IfExp c a b pos) (tIf tA ta tb):=by
 intro pins s σ H Q I h;refine wpAny_IfExp (thn (hc pins s σ H _ I h) λd s1 kq=>?_);let⟨H1,I1,q1⟩:=kq
 cases d with
 |true=>exact ha pins s1 σ H1 Q I1 q1
 |false=>exact hb pins s1 σ H1 Q I1 q1
end
def SqL(K:AE)(H:Hp)(a:AI)(xs:List V):Prop:=
 Rd H a (.lst xs) \/
  ∃(o:CC) (its:Array AF) (n:Nat),K.lookup a=AA o/\o.cls=.type "list"/\o.dict=AD/\o.data=.seq its n/\its.size<=sizeLine/\Vals xs its.toList
def SqT(K:AE)(H:Hp)(a:AI)(xs:List V):Prop:=
 Rd H a (.tup xs) \/
  ∃(o:CC) (its:Array AF) (n:Nat),K.lookup a=AA o/\o.cls=.type "tuple"/\o.data=.seq its n/\its.size<=sizeLine/\Vals xs its.toList
def yhi:AF->Option V
 |.none=>AA .non
 |.bool b=>AA (.bl b)
 |.int i _=>AA (.int i)
 |.str x _=>AA (.str x)
 |.bytes b _=>AA (.byt b)
 |.float b _=>AA (.flt b)
 |.ref a=>AA (.ref a)
 |.type n=>AA (.ty n)
 |_=>AD
theorem RelV.abs{x:V}{u:AF}(r:RelV x u):yhi u=AA x:=by
 cases x with
 |non=>cases r;rfl
 |bl _=>cases r;rfl
 |int _=>let⟨t,rfl⟩:=r;rfl
 |str _=>let⟨t,rfl⟩:=r;rfl
 |byt _=>let⟨t,rfl⟩:=r;rfl
 |flt _=>let⟨t,rfl⟩:=r;rfl
 |ref _=>cases r;rfl
 |ty _=>cases r;rfl
theorem RelV.inj{x y:V}{u:AF}(r:RelV x u)(q:RelV y u):x=y:=AW (r.abs.symm.trans q.abs)
theorem Vals.inj:∀{xs ys:List V} {us:List AF},Vals xs us->Vals ys us->xs=ys
 |_,_,_,.nil,.nil=>rfl
 |_,_,_,.cons r t,.cons r' t'=>by rw[r.inj r',Vals.inj t t']
section
variable {X:Cx}{pins:List (AI×CC)}{σ:St}{H:Hp}{s:AJ}{a:AI}{xs ys:List V}
theorem SqL.of{K:AE}(h:H a=AA (.lst xs)):SqL K H a xs:=.inl (.inl h)
theorem Inv.list(I:Inv X pins σ H s)(h:SqL X.K H a xs):∃its:List AF,Vals xs its/\PlainL s.heap a its.toArray/\xs.length<=sizeLine:=by
 rcases h with h|⟨o,its,n,hk,hc,hd,hs,hz,r⟩
 .let⟨z,its,n,r,e⟩:=h.ok I.hok;exact⟨its,r,⟨_,n,e,rfl,rfl,rfl⟩,z⟩
 .refine⟨its.toList,r,⟨o,n,I.kIn a o hk,hc,hd,by simpa using hs⟩,?_⟩;have e:=r.length;erw[CG]at e;lia
theorem Inv.tuple(I:Inv X pins σ H s)(h:SqT X.K H a xs):∃its:List AF,Vals xs its/\HN s.heap a its.toArray/\xs.length<=sizeLine:=by
 rcases h with h|⟨o,its,n,hk,hc,hs,hz,r⟩
 .let⟨z,its,r,p⟩:=h.ok I.hok;exact⟨its,r,p,z⟩
 .refine⟨its.toList,r,⟨o,I.kIn a o hk,hc,n,by simpa using hs⟩,?_⟩;have e:=r.length;erw[CG]at e;lia
theorem Inv.list_inj(I:Inv X pins σ H s)(h:SqL X.K H a xs)(h':SqL X.K H a ys):xs=ys:=by
 let⟨its,r,⟨o,n,e,_,_,d⟩,_⟩:=I.list h;let⟨its',r',⟨o',n',e',_,_,d'⟩,_⟩:=I.list h';rw[e]at e';cases e';rw[d]at d';injection d' with d1 _;have:its=its':=by simpa using congrArg HS d1
 subst this;exact r.inj r'
theorem Inv.tuple_inj(I:Inv X pins σ H s)(h:SqT X.K H a xs)(h':SqT X.K H a ys):xs=ys:=by
 let⟨its,r,⟨o,e,_,n,d⟩,_⟩:=I.tuple h;let⟨its',r',⟨o',e',_,n',d'⟩,_⟩:=I.tuple h';rw[e]at e';cases e';rw[d]at d';injection d' with d1 _;have:its=its':=by simpa using congrArg HS d1
 subst this;exact r.inj r'
end
section
variable {X:Cx}{pins:List (AI×CC)}{σ:St}{H:Hp}{s:AJ}{E:AF->AJ->Prop}
end
section
variable {X:Cx}{st:Bz}{rest:List Bz}{t u:TS}{e:AT}{te:TE}{pos:CW}
def yeb:TS:=λD σ H=>D.nx σ H
def yhd(t u:TS):TS:=λD σ H=>t {D with nx:=u D} σ H
theorem ycV:PSs X [] yeb:=λ_ _ σ H _ I h=>Dt ⟨σ,H,I,h⟩
theorem zgf(h1:PS X st t)(h2:PSs X rest u):PSs X (st::rest) (yhd t u):=by
 intro pins s σ H D I h;refine GY (thn (h1 pins s σ H {D with nx:=u D} I h) λf s1 q=>?_)
 cases f with
 |next=>
  let⟨σ',H',I',q⟩:=q;exact h2 pins s1 σ' H' D I' q
 |ret v=>exact q
 |brk=>exact q
 |cont=>exact q
theorem zlC(h1:PS X st t):PSs X [st] t:=by
 intro pins s σ H D I h;refine GY (thn (h1 pins s σ H D I h) λf s1 q=>?_)
 cases f with
 |next=>exact Dt q
 |ret v=>exact q
 |brk=>exact q
 |cont=>exact q
theorem Inv.quiet{pins:List (AI×CC)}{σ:St}{H:Hp}{s:AJ}(I:Inv X pins σ H s):interactive X.env=false:=by simp[interactive,I.ok.kind]
def yeV(te:TE):TS:=λD σ H=>te σ H λ_ H1=>D.nx σ H1
theorem zlP(he:PE X e te)(hs:swapsWith e AD pos.line X.env=pure false:=by rfl):PS X (.Expr e pos) (yeV te):=by
 intro pins s σ H D I h;exact wpAny_Expr_any (thn (he pins s σ H _ I h) λv s1 ⟨x,H1,I1,r1,q1⟩=>⟨σ,H1,I1,q1⟩) I.quiet hs
def ygL(te:TE):TS:=λD σ H=>te σ H D.rt
theorem zk1(he:PE X e te):PS X (.Return (AA e) pos) (ygL te):=by
 intro pins s σ H D I h;exact wpAny_Return_some (thn (he pins s σ H _ I h) λv s1 ⟨x,H1,I1,r1,q1⟩=>⟨x,σ,H1,I1,r1,q1⟩)
def yeA:TS:=λD _ H=>D.rt .non H
theorem ycQ:PS X (.Return AD pos) yeA:=λ_ _ σ H _ I h=>wpAny_Return_none ⟨.non,σ,H,I,rfl,h⟩
def yhk(c:TT)(t u:TS):TS:=λD σ H=>c σ H λb H1=>if b=AC then t D σ H1 else u D σ H1
theorem zpK{c:AT}{a b:List Bz}{tc:TT}(hc:PT X c tc)(ha:PSs X a t)(hb:PSs X b u):PS X (.If c a b pos) (yhk tc t u):=by
 intro pins s σ H D I h;refine wpAny_If (thn (hc pins s σ H _ I h) λd s1 kq=>?_);let⟨H1,I1,q1⟩:=kq
 cases d with
 |true=>exact ha pins s1 σ H1 D I1 q1
 |false=>exact hb pins s1 σ H1 D I1 q1
end
abbrev TG:=V->St->Hp->(St->Hp->Prop)->Prop
abbrev TGs:=List V->St->Hp->(St->Hp->Prop)->Prop
def PG(X:Cx)(target:AT)(t:TG):Prop:=
 ∀(pins:List (AI×CC)) (s:AJ) (σ:St) (H:Hp) (v:V) (u:AF) (Q:St->Hp->Prop),Inv X pins σ H s->RelV v u->t v σ H Q ->
  A2 (model X.prog X.w) X.A (assign target X.env u) (λ_ s'=>∃σ' H',Inv X pins σ' H' s'/\Q σ' H') X.xe s
def PGs(X:Cx)(ts:List AT)(t:TGs):Prop:=
 ∀(pins:List (AI×CC)) (s:AJ) (σ:St) (H:Hp) (vs:List V) (us:List AF) (Q:St->Hp->Prop),Inv X pins σ H s->Vals vs us->t vs σ H Q ->
  A2 (model X.prog X.w) X.A (assignInOrder ((assignEach ts X.env).map (·.2)) us) (λ_ s'=>∃σ' H',Inv X pins σ' H' s'/\Q σ' H') X.xe s
abbrev ye2:=V->V->V->Hp->(Hp->Prop)->Prop
def yfr(X:Cx)(t:ye2):Prop:=
 ∀(pins:List (AI×CC)) (s:AJ) (σ:St) (H:Hp) (o i v:V) (ov iv u:AF) (Q:Hp->Prop),Inv X pins σ H s->RelV o ov->RelV i iv->RelV v u->t o i v H Q ->
  A2 (model X.prog X.w) X.A (setItem ov iv u) (λ_ s'=>∃H',Inv X pins σ H' s'/\Q H') X.xe s
abbrev TIp:=V->V->Hp->VK->Prop
def PIp(X:Cx)(op:Ds)(t:TIp):Prop:=
 ∀(pins:List (AI×CC)) (s:AJ) (σ:St) (H:Hp) (x y:V) (v u:AF) (Q:VK),Inv X pins σ H s->RelV x v->RelV y u->t x y H Q ->
  A2 (model X.prog X.w) X.A (inplaceOp op v u) (EP X pins σ Q) X.xe s
section
variable {X:Cx}{pos:CW}
def ydT(i:Nat):TG:=λv σ H Q=>Q (σ.set i (AA v)) H
theorem zg3{i:Nat}{x:AQ}(hN:X.N.Nodup)(hi:X.N[i]?=AA x)(hx:Loc X.env.scope x)(hf:X.fn x=AC \/ X.env.scope.names.lookup x=AA .local:=by first|exact .inl rfl|exact .inr rfl|assumption):PG X (.Name x pos) (ydT i):=by
 intro pins s σ H v u Q I r h;exact wpAny_assign_Name (zb1 I hN hi hx r (λs' I'=>⟨_,H,I',h⟩) hf)
def ygn:TGs:=λvs σ H Q=>vs=[]/\Q σ H
def yek(t:TG)(u:TGs):TGs:=λvs σ H Q=>∃v r,vs=v::r/\t v σ H λσ' H'=>u r σ' H' Q
theorem ycW:PGs X [] ygn:=by
 intro pins s σ H vs us Q I r h;let⟨e,h⟩:=h;subst e
 cases r
 exact GA ⟨σ,H,I,h⟩
theorem zkb{e:AT}{es:List AT}{t:TG}{u:TGs}(h1:PG X e t)(h2:PGs X es u)
  (hs:(assignEach (e::es) X.env).map (·.2)=assign e X.env::(assignEach es X.env).map (·.2):=by rfl):PGs X (e::es) (yek t u):=by
 intro pins s σ H vs us Q I r h;let⟨v,vr,e1,h⟩:=h;subst e1
 cases r with
 |cons r rr=>
  rw[hs];refine EI (thn (h1 pins s σ H _ _ _ I r h) λ_ s1 kq=>?_);let⟨σ1,H1,I1,q1⟩:=kq;exact h2 pins s1 σ1 H1 _ _ Q I1 rr q1
def ygD(K:AE)(n:Nat)(t:TGs):TG:=λv σ H Q=>∃a xs,v=.ref a/\SqT K H a xs/\xs.length=n/\t xs σ H Q
theorem zoN{es:List AT}{k:Nat}{t:TGs}{n:Nat}(hc:X.calm=AC)(h:PGs X es t)
  (hn:(assignEach es X.env).length=n:=by rfl) (hst:(assignEach es X.env).findIdx? (·.1)=none:=by rfl):PG X (.Tuple es k pos) (ygD X.K n t):=by
 intro pins s σ H v u Q I r hw;let⟨a,xs,e1,hq,hl,hw⟩:=hw;subst e1
 cases r
 let⟨its,rv,ht,hz⟩:=I.tuple hq;refine assign_Tuple_tuple (I.ok.hd hc) ht (by simp[hn,<-hl,rv.length]) hst λh' hx=>?_;have I1:Inv X pins σ H {s with heap:=h'}:=I.kept (t':=s.toks) λb o e=>hx b o (Aq (AX e)) e;exact h pins _ σ H xs _ Q I1 (by simpa using rv) hw
def ye9(to ti:TE)(t:ye2):TG:=λv σ H Q=>to σ H λo H1=>ti σ H1 λi H2=>t o i v H2 λH3=>Q σ H3
theorem zkD{o i:AT}{to ti:TE}{t:ye2}(ho:PE X o to)(hi:PE X i ti)(hs:yfr X t)
  (ha:∀v,assign (.Subscript o i pos) X.env v=(do
   let ov <-holding [v] (eval o X.env)
   let iv <-holding [v,ov] (eval i X.env)
   standAt pos
   holding [v,ov,iv] (setItem ov iv v)
   release [v,ov,iv] []):=by intro _;rfl):PG X (.Subscript o i pos) (ye9 to ti t):=by
 intro pins s σ H v u Q I r h;rw[ha];refine AH (Dl (thn (ho pins s σ H _ I h) λov s1 kq=>?_));let⟨x,H1,I1,r1,q1⟩:=kq;refine AH (Dl (thn (hi pins s1 σ H1 _ I1 q1) λiv s2 kq=>?_));let⟨y,H2,I2,r2,q2⟩:=kq;refine AH (Ed (AH (Dl (thn (hs pins s2 σ H2 x y v ov iv u _ I2 r1 r2 r q2) λ_ s3 kq=>?_))));let⟨H3,I3,q3⟩:=kq;exact wpAny_release ⟨σ,H3,I3,q3⟩
def yfh(te:TE)(g:TG):TS:=λD σ H=>te σ H λx H1=>g x σ H1 D.nx
theorem zkB{tg e:AT}{te:TE}{g:TG}(he:PE X e te)(hg:PG X tg g)(hs:swapsWithSole [tg] e pos.line X.env=pure false:=by rfl)(hw:swappedStores [tg] e X.env=pure none:=by rfl)
  (h1:(assignEach [tg] X.env).map (·.2)=[assign tg X.env]:=by rfl):PS X (.Assign [tg] e pos) (yfh te g):=by
 intro pins s σ H D I h;refine wpAny_Assign_stores (thn (he pins s σ H _ I h) λv s1 kq=>?_) hs hw;let⟨x,H1,I1,r1,q1⟩:=kq;rw[h1];exact thn (hg pins s1 σ H1 x v _ I1 r1 q1) λ_ s2 q=>q
theorem zk7{i:Nat}{x:AQ}{e:AT}{te:TE}{pos':CW}(hN:X.N.Nodup)(hi:X.N[i]?=AA x)(hx:Loc X.env.scope x)(he:PE X e te)(hs:swapsWith e (AA (.Name x pos')) pos.line X.env=pure false:=by rfl)(hf:X.fn x=AC \/ X.env.scope.names.lookup x=AA .local:=by first|exact .inl rfl|exact .inr rfl|assumption):
  PS X (.Assign [.Name x pos'] e pos) (yfh te (ydT i)):=by
 intro pins s σ H D I h;refine wpAny_Assign_Name (thn (he pins s σ H _ I h) λv s1 kq=>?_) hs;let⟨y,H1,I1,r1,q1⟩:=kq;exact zb1 I1 hN hi hx r1 (λs2 I2=>⟨_,H1,I2,q1⟩) hf
def yfu(i j:Nat)(ta:TA):TS:=λD σ H=>ta σ H λvs H1=>∃v w,vs=[v,w]/\D.nx ((σ.set i (AA v)).set j (AA w)) H1
theorem znr{i j:Nat}{x y:AQ}{a b:AT}{ta:TA}{px py pt:CW}{kt k2 pt2}(hc:X.calm=AC)(hN:X.N.Nodup)(hi:X.N[i]?=AA x)(hj:X.N[j]?=AA y)(hij:i≠j)
  (hx:X.env.scope.names.lookup x=AA .local) (hy:X.env.scope.names.lookup y=AA .local) (ha:PA X [a,b] ta)
  (hw:swappedStores [.Tuple [.Name x px,.Name y py] kt pt] (.Tuple [a,b] k2 pt2) X.env=pure (AA [x,y]))
  (hs:swapsWithSole [.Tuple [.Name x px,.Name y py] kt pt] (.Tuple [a,b] k2 pt2) pos.line X.env=pure false:=by rfl):
  PS X (.Assign [.Tuple [.Name x px,.Name y py] kt pt] (.Tuple [a,b] k2 pt2) pos) (yfu i j ta):=by
 intro pins s σ H D I h;rw[exec_Assign_arm];refine AH (Ed ?_);rw[hs];refine AH (AU ?_);rw[if_neg (by decide)];refine AH (Tuple_ (thn (ha _ pins s σ H _ I h) λus s1 kq=>?_));let⟨vs,H1,I1,r1,q1⟩:=kq;let⟨v,w,e1,q1⟩:=q1;subst e1;obtain⟨u1,u2,rfl,rv,rw'⟩:∃u1 u2,us=[u1,u2]/\RelV v u1/\RelV w u2:=by
  cases r1 with
  |cons p q=>
   cases q with
   |cons p' q'=>
    cases q'
    exact⟨_,_,rfl,p,p'⟩
 refine Ba ?_ (by show 2<=sizeLine;decide);have I2:Inv X pins σ H1 {s1 with heap:=s1.heap.push {cls:=.type "tuple",data:=.seq [u1,u2].toArray} }:=I1.kept (t':=s1.toks) λb o e=>AO _ e;rw[hw];refine AH (AU ?_);show A2 (model X.prog X.w) X.A (do rule "assign.swapped-stores";let items <-unpackItems (.ref s1.heap.objs.size) 2 AD;assignInOrder [λv=>bindName X.env y v,λv=>bindName X.env x v] items.reverse;pure Flow.next) _ _ _;refine AH (Ey (AH (unpackItems_tuple (items:=#[u1,u2]) (I.ok.hd hc) (F7 s1.heap _) λh' hx'=>?_)));have I3:=I2.kept (h':=h') (t':=s1.toks) λb o e=>hx' b o (Aq (AX e)) e;show A2 _ _ (assignInOrder [λv=>bindName X.env y v,λv=>bindName X.env x v] [u2,u1] >>= λ_=>pure Flow.next) _ _ _;refine AH (EI (wpAny_bindName (zb1 I3 hN hj (.inl hy) rw' (λs2 I4=>?_) (.inr hy))));refine EI (wpAny_bindName (zb1 I4 hN hi (.inl hx) rv (λs3 I5=>GA (AU ?_)) (.inr hx)));rw[HJ _ _ (BJ hij)]at I5;exact⟨_,H1,I5,q1⟩
def yg0(i:Nat)(te:TE)(ti:TIp):TS:=λD σ H=>∃x,σ[i]?=AA (AA x)/\te σ H λy H1=>ti x y H1 λz H2=>D.nx (σ.set i (AA z)) H2
theorem zk3{i:Nat}{x:AQ}{e:AT}{te:TE}{op:Ds}{ti:TIp}{pos':CW}(hN:X.N.Nodup)(hi:X.N[i]?=AA x)(hx:Loc X.env.scope x)(he:PE X e te)(ho:PIp X op ti)(hf:X.fn x=AC \/ X.env.scope.names.lookup x=AA .local:=by first|exact .inl rfl|exact .inr rfl|assumption):
  PS X (.AugAssign (.Name x pos') op e pos) (yg0 i te ti):=by
 intro pins s σ H D I h;let⟨v,e1,h⟩:=h;let⟨m,hn,hl⟩:=I.loc;have vis:Vis X.env.scope x:=by rcases hx with k|k;exact .inl k;exact .inr (.inl k)
 let⟨u,r,l⟩:=hl i x v hi e1 vis;refine wpAny_AugAssign_Name ?_;have go:A2 (model X.prog X.w) X.A (eval e X.env) (λw s₂=>A2 (model X.prog X.w) X.A (inplaceOp op u w) (λr s₃=>A2 (model X.prog X.w) X.A (storeName X.env x r) (λ_=>SP X pins D .next) X.xe s₃) X.xe s₂) X.xe s:=by
  refine thn (he pins s σ H _ I h) λw s1 kq=>?_;let⟨y,H1,I1,r1,q1⟩:=kq;refine thn (ho pins s1 σ H1 v y u w _ I1 r r1 q1) λz s2 kq=>?_;let⟨zv,H2,I2,r2,q2⟩:=kq;exact zb1 I2 hN hi hx r2 (λs3 I3=>⟨_,H2,I3,q2⟩) hf
 rcases l with⟨hk,hm⟩|⟨hk,c,hc,hcell⟩
 .exact FY I.ok.kind hk hn hm go
 .rcases hk with hk|hk
  .exact Fb I.ok.kind hk hc hcell go
  .rcases hx with k|k
   .have:X.env.scope.names.lookup x=AA .free:=hk;rw[k]at this;cases this
   .have:X.env.scope.names.lookup x=AA .free:=hk;rw[k]at this;cases this
def ipI(f:Int->Int->Int):TIp:=λx y H Q=>∃i j,x=.int i/\y=.int j/\Q (.int (f i j)) H
theorem zoz:PIp X .Add (ipI λi j=>i+j):=by
 intro pins s σ H x y v u Q I r1 r2 h;let⟨i,j,e1,e2,q⟩:=h;subst e1;subst e2;let⟨t,rfl⟩:=r1;let⟨t',rfl⟩:=r2;exact Gr ⟨.int _,H,I.tok _,⟨_,rfl⟩,q⟩
end
section
variable {X:Cx}{pos:CW}
def ydd(c:TT)(tb:TS):TS:=λD σ H=>∃W:Nat->St->Hp->Prop,(∃m,W m σ H)/\∀m σ H,W m σ H ->
 c σ H λb H1=>if b=AC then ∃N:St->Hp->Prop,(∀σ' H',N σ' H'->∃m',m' < m/\W m' σ' H')/\tb {D with nx:=N,ct:=N,bk:=D.nx} σ H1 else D.nx σ H1
theorem zjL{c:AT}{body:List Bz}{tc:TT}{tb:TS}(hp:Ei (model X.prog X.w) X.A X.env X.xe)(hc:PT X c tc)(hb:PSs X body tb):PS X (.While c body [] pos) (ydd tc tb):=by
 intro pins s σ H D I h;let⟨W,⟨m0,w0⟩,turn⟩:=h;refine wpAny_While (codeAny_whileLoop (λn s'=>∃σ' H',Inv X pins σ' H' s'/\W n σ' H') ?_ m0 ⟨σ,H,I,w0⟩)
 rintro n s1 ⟨σ1,H1,I1,w1⟩
 refine CV hp (thn (hc pins s1 σ1 H1 _ I1 (turn n σ1 H1 w1)) λb s2 kq=>?_);let⟨H2,I2,q2⟩:=kq
 cases b with
 |true=>
  let⟨N,hN,q2⟩:=q2;rw[if_pos rfl];refine CV hp (thn (hb pins s2 σ1 H2 _ I2 q2) λf s3 q3=>?_)
  cases f with
  |next=>
   let⟨σ3,H3,I3,n3⟩:=q3;let⟨m',hm,w3⟩:=hN σ3 H3 n3;exact⟨m',hm,σ3,H3,I3,w3⟩
  |cont=>
   let⟨σ3,H3,I3,n3⟩:=q3;let⟨m',hm,w3⟩:=hN σ3 H3 n3;exact⟨m',hm,σ3,H3,I3,w3⟩
  |brk=>exact q3
  |ret v=>exact q3
 |false=>
  rw[if_neg BD];exact Dt ⟨σ1,H2,I2,q2⟩
end
structure It where
 go:Nat->Hp->Prop
 yld:Nat->Hp->V->Hp->Prop
 stop:Nat->Hp->Prop
def ybx(X:Cx)(pins:List (AI×CC))(H:Hp)(b:AI):Prop:=
 H b=AD/\b≠X.env.locals/\b∉X.fs/\(b∈X.ex \/ X.s₀.heap.objs.size<=b)/\(∀x c,X.env.cells.lookup x=AA c->c≠b)/\∀p∈X.pn++pins,p.1≠b
theorem Inv.fpOk{X:Cx}{pins:List (AI×CC)}{σ:St}{H H':Hp}{s:AJ}{b:AI}(I:Inv X pins σ H s)(hb:s.heap.objs.size<=b)(hn:H' b=AD):ybx X pins H' b:=by
 refine⟨hn,Ez (A5 I.lt hb),I.nofs hb,.inr (BU I.sz hb),λx c e z=>?_,λp hp z=>?_⟩
 .let⟨v,q⟩:=I.cell x c e;exact absurd (A5 q.lt (by rw[z];exact hb)) (DA _)
 .exact absurd (A5 (AX (I.pin p hp).1) (by rw[z];exact hb)) (DA _)
structure Turn(P:A9)(w:Al)(K:AE)(tg:AT)(J:It)(fp:List AI)(it:AI)(tn:Nat->BF->Prop):Prop where
 mem:it∈fp
 obj:∀i h,tn i h->∀b∈fp,∃o,h.get? b=AA o/\∀v,o.data ≠ .cell v
 keep:∀i h h',tn i h->(∀b∈fp,∀o,h.get? b=AA o->h'.get? b=AA o)->tn i h'
 item:∀(X:Cx),X.prog=P->X.w=w->X.K=K->X.calm=AC->∀(i:Nat) (pins:List (AI×CC)) (s:AJ) (σ:St) (H:Hp) (E:AF->AJ->Prop),Inv X pins σ H s->(∀b∈fp,ybx X pins H b)->tn i s.heap->J.go i H ->
  A2 (model P w) X.A (pyNext (.ref it)) (λr s1=>∃u,r=AA u /\
   A2 (model P w) X.A (letOwnedTupleGo tg (.ref it) u) (λ_ s2=>∃x H',Inv X pins σ H' s2/\RelV x u/\J.yld i H x H'/\tn (i+1) s2.heap/\∀b∈fp,H' b=AD) E s1) E s
 done:∀(X:Cx),X.prog=P->X.w=w->X.K=K->X.calm=AC->∀(i:Nat) (pins:List (AI×CC)) (s:AJ) (σ:St) (H:Hp) (E:AF->AJ->Prop),Inv X pins σ H s->(∀b∈fp,ybx X pins H b)->tn i s.heap->J.stop i H ->
  A2 (model P w) X.A (pyNext (.ref it)) (λr s1=>r=AD/\Inv X pins σ H s1) E s
 self:∀(A:Ax) (i:Nat) (s:AJ) (Q:AF->AJ->Prop) (E:AF->AJ->Prop),tn i s.heap->Q (.ref it) s->A2 (model P w) A (pyIter (.ref it)) Q E s
abbrev TI:=St->Hp->(It->Hp->Prop)->Prop
def PIE(X:Cx)(pins:List (AI×CC))(σ:St)(tg:AT)(R:It->Hp->Prop)(itv:AF)(s2:AJ):Prop:=
 ∃(it:AI) (fp:List AI) (tn:Nat->BF->Prop) (J:It) (H':Hp),itv=.ref it/\Inv X pins σ H' s2/\Turn X.prog X.w X.K tg J fp it tn/\tn 0 s2.heap/\(∀b∈fp,ybx X pins H' b)/\R J H'
def PI(X:Cx)(tg iter:AT)(wi:TI):Prop:=
 ∀(pins:List (AI×CC)) (s:AJ) (σ:St) (H:Hp) (R:It->Hp->Prop),Inv X pins σ H s->wi σ H R ->
  A2 (model X.prog X.w) X.A (eval iter X.env) (λv s1=>A2 (model X.prog X.w) X.A (pyIter v) (PIE X pins σ tg R) X.xe s1) X.xe s
theorem zlY{M:Model}{A:Ax}{E:AF->AJ->Prop}{s:AJ}{tg:AT}{it:AI}{u:AF}{o:CC}{n:String}{vs:Array AF}{Q:Unit->AJ->Prop}(ho:s.heap.get? it=AA o)(hc:o.cls=.type n)(hd:o.data=.fields vs)
  (hn:["enumerate","zip","dict_itemiterator","dict_reverseitemiterator","odict_iterator","itertools.zip_longest","itertools.pairwise"].contains n=AB) (hQ:Q () s):A2 M A (letOwnedTupleGo tg (.ref it) u) Q E s:=by
 unfold letOwnedTupleGo
 cases tg<;>first
  |exact AU hQ
  | (cases u<;>first
    |exact AU hQ
    | (refine AH (wpAny_load ho ?_)
       rw[hc,hd];show A2 M A (if (["enumerate","zip","dict_itemiterator","dict_reverseitemiterator","odict_iterator","itertools.zip_longest","itertools.pairwise"].contains n&&vs[0]? == AA (rawInt _))=AC then _ else _) Q E s;rw[if_neg (by intro h;rw[hn,Bool.false_and]at h;cases h)];exact AU hQ))
def Itl(K:AE)(a:AI):It:=
 ⟨λi H=>∃xs x,SqL K H a xs/\xs[i]?=AA x,λi H x H'=>H'=H/\∀xs,SqL K H a xs->xs[i]?=AA x,λi H=>∃xs,SqL K H a xs/\xs.length<=i⟩
def Itt(K:AE)(a:AI):It:=
 ⟨λi H=>∃xs x,SqT K H a xs/\xs[i]?=AA x,λi H x H'=>H'=H/\∀xs,SqT K H a xs->xs[i]?=AA x,λi H=>∃xs,SqT K H a xs/\xs.length<=i⟩
def Itr(lo:Int)(n:Nat):It:=⟨λi _=>i<n,λi H x H'=>H'=H/\x=.int (lo+i),λi _=>n<=i⟩
theorem ziU{P:A9}{w:Al}{K:AE}{tg:AT}(a it:AI):Turn P w K tg (Itl K a) [it] it (λi h=>h.IsListIter it a i) where
 mem:=by simp
 obj:=λi h st b hb=>by
  have e:b=it:=by simpa using hb
  subst e;let⟨o,e,c,d⟩:=st;exact⟨o,e,λv z=>by rw[d]at z;cases z⟩
 keep:=λi h h' st k=>st.at λo e=>k it (by simp) o e
 item:=by
  intro X hP hw hK hc i pins s σ H E I hf st hg;subst hP hw hK;let⟨xs,x,hq,hx⟩:=hg;let⟨its,rv,p,hz⟩:=I.list hq;let⟨u,hu,ru⟩:=rv.get hx;let⟨f0,f1,f2,f3,f4,f5⟩:=hf it (by simp);refine wpAny_pyNext_list_item st p.isList (x:=u) (by simpa using hu) λh' st' sb=>?_;have I1:Inv X pins σ H {s with heap:=h'}:=I.turned (t':=s.toks) (λb o hb e=>(sb.2 b hb).trans e) f0 f1 f3 f4 f5;let⟨o,e,c,d⟩:=id st';exact⟨u,rfl,zlY (s:={s with heap:=h'}) e c d (by decide) ⟨x,H,I1,ru,⟨rfl,λys hy=>by rw[I.list_inj hy hq];exact hx⟩,st',λb hb=>(hf b hb).1⟩⟩
 done:=by
  intro X hP hw hK hc i pins s σ H E I hf st hg;subst hP hw hK;let⟨xs,hq,hx⟩:=hg;let⟨its,rv,p,hz⟩:=I.list hq;let⟨f0,f1,f2,f3,f4,f5⟩:=hf it (by simp);have hl:=rv.length;exact wpAny_pyNext_list_end (I.ok.hd hc) st p.isList (by simp;lia) λh' eb=>⟨rfl,I.turned (t':=s.toks) (λb o hb e=>eb b o hb e) f0 f1 f3 f4 f5⟩
 self:=λ_ _ _ _ _ st h=>wpAny_pyIter_listiter st h
theorem zgN{P:A9}{w:Al}{K:AE}{tg:AT}(a it:AI):Turn P w K tg (Itt K a) [it] it (λi h=>h.IsTupleIter it a i) where
 mem:=by simp
 obj:=λi h st b hb=>by
  have e:b=it:=by simpa using hb
  subst e;let⟨o,e,c,d⟩:=st;exact⟨o,e,λv z=>by rw[d]at z;cases z⟩
 keep:=λi h h' st k=>st.at λo e=>k it (by simp) o e
 item:=by
  intro X hP hw hK hc i pins s σ H E I hf st hg;subst hP hw hK;let⟨xs,x,hq,hx⟩:=hg;let⟨its,rv,p,hz⟩:=I.tuple hq;let⟨u,hu,ru⟩:=rv.get hx;let⟨f0,f1,f2,f3,f4,f5⟩:=hf it (by simp);refine wpAny_pyNext_tuple_item st (show s.heap.IsTuple a its.toArray from p) (x:=u) (by simpa using hu) λh' st' sb=>?_;have I1:Inv X pins σ H {s with heap:=h'}:=I.turned (t':=s.toks) (λb o hb e=>(sb.2 b hb).trans e) f0 f1 f3 f4 f5;let⟨o,e,c,d⟩:=id st';exact⟨u,rfl,zlY (s:={s with heap:=h'}) e c d (by decide) ⟨x,H,I1,ru,⟨rfl,λys hy=>by rw[I.tuple_inj hy hq];exact hx⟩,st',λb hb=>(hf b hb).1⟩⟩
 done:=by
  intro X hP hw hK hc i pins s σ H E I hf st hg;subst hP hw hK;let⟨xs,hq,hx⟩:=hg;let⟨its,rv,p,hz⟩:=I.tuple hq;let⟨f0,f1,f2,f3,f4,f5⟩:=hf it (by simp);have hl:=rv.length;exact wpAny_pyNext_tuple_end (I.ok.hd hc) st (show s.heap.IsTuple a its.toArray from p) (by simp;lia) λh' eb=>⟨rfl,I.turned (t':=s.toks) (λb o hb e=>eb b o hb e) f0 f1 f3 f4 f5⟩
 self:=λ_ _ _ _ _ st h=>wpAny_pyIter_tupleiter st h
theorem zgS{P:A9}{w:Al}{K:AE}{tg:AT}(it:AI)(lo:Int)(n:Nat):Turn P w K tg (Itr lo n) [it] it (λi h=>IsRangeIter h it (lo+(i:Nat)*1) ((n:Int)-(i:Nat)) 1) where
 mem:=by simp
 obj:=λi h st b hb=>by
  have e:b=it:=by simpa using hb
  subst e;exact⟨_,st,λv z=>by
   have z':Data.fields _=Data.cell v:=z
   cases z'⟩
 keep:=λi h h' st k=>k it (by simp) _ st
 item:=by
  intro X hP hw hK hc i pins s σ H E I hf st hg;subst hP hw hK;let⟨f0,f1,f2,f3,f4,f5⟩:=hf it (by simp);have W:=Walks.range (prog:=X.prog) (w:=X.w) (I.ok.hd hc) it lo 1 n;refine W.item i s _ _ hg st λv h' tk hv st' kk=>?_;let⟨t,rfl⟩:=hv;have I1:Inv X pins σ H {s with heap:=h',toks:=tk}:=I.turned (λb o hb e=>kk b o (by simpa using hb) e) f0 f1 f3 f4 f5;refine⟨_,rfl,zlY (s:={s with heap:=h',toks:=tk}) (n:="range_iterator") st' rfl rfl (by decide) ⟨.int (lo+i),H,I1,⟨t,?_⟩,⟨rfl,rfl⟩,st',λb hb=>(hf b hb).1⟩⟩;rw[Cn]
 done:=by
  intro X hP hw hK hc i pins s σ H E I hf st hg;subst hP hw hK;let⟨f0,f1,f2,f3,f4,f5⟩:=hf it (by simp);exact wpAny_pyNext_range_end (I.ok.hd hc) st (by have:n<=i:=hg;lia) λh' eb=>⟨rfl,I.turned (t':=s.toks) (λb o hb e=>eb b o hb e) f0 f1 f3 f4 f5⟩
 self:=λ_ _ _ _ _ st h=>wpAny_pyIter_rangeiter st h
section
variable {X:Cx}{tg:AT}
theorem zjQ{pins:List (AI×CC)}{σ:St}{H:Hp}{s:AJ}{R:It->Hp->Prop}{E:AF->AJ->Prop}{lo hi:Int}{t u v:Hc}{tk:Nat}(I:Inv X pins σ H s)(h1:-(2^62)<=lo)(h2:lo<2^62)(h3:-(2^62)<=hi)(h4:hi<2^62)
  (q:R (Itr lo (hi-lo).toNat) H):A2 (model X.prog X.w) X.A (pyIter (.ref s.heap.objs.size)) (PIE X pins σ tg R) E {s with heap:=s.heap.push {cls:=.type "range",data:=.fields #[.int lo t,.int hi u,.int 1 v]},toks:=tk}:=by
 refine wpAny_pyIter_range (IsRange.new ..) (small_one h1 h2 h3 h4) ?_;have I1:Inv X pins σ H {s with heap:=s.heap.push {cls:=.type "range",data:=.fields #[.int lo t,.int hi u,.int 1 v]},toks:=tk}:=I.kept λb o e=>AO _ e;refine⟨(s.heap.push {cls:=.type "range",data:=.fields #[.int lo t,.int hi u,.int 1 v]}).objs.size,[(s.heap.push {cls:=.type "range",data:=.fields #[.int lo t,.int hi u,.int 1 v]}).objs.size],_,_,H,rfl,
  I1.kept (t':=tk) λb o e=>AO _ e,zgS _ lo (hi-lo).toNat,?_,λb hb=>?_,q⟩
 .have e1:lo+((0:Nat):Int)*1=lo:=by simp
  have e2:(((hi-lo).toNat:Nat):Int)-((0:Nat):Int)=HP lo hi 1:=by rw[rangeSize_one];split<;>lia
  show IsRangeIter _ _ (lo+((0:Nat):Int)*1) ((((hi-lo).toNat:Nat):Int)-((0:Nat):Int)) 1;rw[e1,e2];exact A7 _ rfl
 .have e:b=(s.heap.push {cls:=.type "range",data:=.fields #[.int lo t,.int hi u,.int 1 v]}).objs.size:=by simpa using hb
  subst e;exact I1.fpOk (AS _) (I1.hok.fresh (AS _))
def yel(ta:TA):TI:=λσ H R=>ta σ H λvs H1=>∃j:Int,vs=[.int j]/\-(2^62)<=j/\j<2^62/\R (Itr 0 j.toNat) H1
theorem zhX{a:AT}{ta:TA}{p pos:CW}(hg:Gl X "range")(hm:X.mg "range"=AD)(ha:PA X [a] ta)(hs:starEach [a] X.env=[(AB,eval a X.env)]:=by rfl):PI X tg (.Call (.Name "range" p) [a] [] pos) (yel ta):=by
 intro pins s σ H R I h;refine Call_ (zdN I hg hm boot_range (CJ (thn (ha pos pins s σ H _ I h) λus s1 kq=>?_) hs rfl));let⟨vs,H1,I1,r1,q1⟩:=kq;let⟨j,e,q1,q2,q⟩:=q1;subst e
 cases r1 with
 |cons r rr=>
  cases rr
  let⟨t,rfl⟩:=r;exact call_range_1 (zjQ I1 (by lia) (by lia) q1 q2 (by simpa using q))
def ygU(wi:TI)(g:TG)(tb:TS):TS:=λD σ H=>wi σ H λJ H1=>∃W:Nat->Nat->St->Hp->Prop,(∃m,W 0 m σ H1)/\∀i m σ H,W i m σ H ->
 (J.stop i H/\D.nx σ H) \/ (J.go i H/\∃N:St->Hp->Prop,(∀σ' H',N σ' H'->∃m',m' < m/\W (i+1) m' σ' H')/\∀x H',J.yld i H x H'->g x σ H' λσ2 H2=>tb {D with nx:=N,ct:=N,bk:=D.nx} σ2 H2)
def ybo(fp:List AI)(h:BF):List (AI×CC):=fp.filterMap λb=>(h.get? b).map λo=>(b,o)
theorem zbf{fp:List AI}{h:BF}{b:AI}{o:CC}(hb:b∈fp)(e:h.get? b=AA o):(b,o)∈ybo fp h:=EJ.mpr ⟨b,hb,by rw[e];rfl⟩
theorem zhr{fp:List AI}{h:BF}{p:AI×CC}(hp:p∈ybo fp h):p.1∈fp/\h.get? p.1=AA p.2:=by
 let⟨b,hb,e⟩:=EJ.mp hp
 cases q:h.get? b with
 |none=>rw[q]at e;cases e
 |some o=>
  rw[q]at e;have e':(b,o)=p:=AW e;subst e';exact⟨hb,q⟩
theorem Inv.pinned{pins:List (AI×CC)}{σ:St}{H:Hp}{s:AJ}{fp:List AI}(I:Inv X pins σ H s)(hf:∀b∈fp,ybx X pins H b)(ho:∀b∈fp,∃o,s.heap.get? b=AA o/\∀v,o.data ≠ .cell v):Inv X (pins++ybo fp s.heap) σ H s:=
 I.pins_of λp hp=>(Au.mp hp).elim (λz=>I.pin p (BK _ z)) λz=>by
  let⟨hb,e⟩:=zhr z;let⟨f0,f1,f2,_⟩:=hf p.1 hb;let⟨o,e',d⟩:=ho p.1 hb;rw[e]at e';cases e';exact⟨e,f0,f1,f2,d⟩
theorem Inv.unpinned{pins pl:List (AI×CC)}{σ:St}{H:Hp}{s:AJ}(I:Inv X (pins++pl) σ H s):Inv X pins σ H s:=I.pins_of λp hp=>I.pin p (BK _ (FX _ hp))
theorem zow{iter:AT}{body:List Bz}{wi:TI}{g:TG}{tb:TS}{pos:CW}(hp:Ei (model X.prog X.w) X.A X.env X.xe)(hc:X.calm=AC)(hi:PI X tg iter wi)(hg:PG X tg g)(hb:PSs X body tb)
  (hs:∀x,foldedSetIterable iter X.env x=pure x:=by intro _;rfl):PS X (.For tg iter body [] pos) (ygU wi g tb):=by
 intro pins s σ H D I h;refine wpAny_For (thn (hi pins s σ H _ I h) λv s1 h1=>thn h1 λitv s2 h2=>?_) hs;let⟨it,fp,tn,J,H2,e,I2,T,st2,f2,W,⟨m0,w0⟩,turn⟩:=h2;subst e;have stat:∀{H':Hp},(∀b∈fp,H' b=AD)->∀b∈fp,ybx X pins H' b:=λhn b hb=>⟨hn b hb,(f2 b hb).2⟩;refine codeAny_forLoop_any (λn s'=>∃i σ' H',Inv X pins σ' H' s'/\tn i s'.heap/\(∀b∈fp,H' b=AD)/\W i n σ' H') ?_ m0 ⟨0,σ,H2,I2,st2,λb hb=>(f2 b hb).1,w0⟩
 rintro n s3 ⟨i,σ3,H3,I3,st3,fr3,w3⟩
 rcases turn i n σ3 H3 w3 with⟨stop,qn⟩|⟨go,N,hN,step⟩
 .refine CV hp (thn (T.done X rfl rfl rfl hc i pins s3 σ3 H3 X.xe I3 (stat fr3) st3 stop) λr s4 kq=>?_);let⟨hr,I4⟩:=kq;subst hr;exact Dt ⟨σ3,H3,I4,qn⟩
 .refine CV hp (thn (T.item X rfl rfl rfl hc i pins s3 σ3 H3 X.xe I3 (stat fr3) st3 go) λr s4 kq=>?_);let⟨u,hr,h4⟩:=kq;subst hr;refine CV hp (thn h4 λ_ s5 kq=>?_);let⟨x,H5,I5,r5,y5,st5,fr5⟩:=kq;have I5':=I5.pinned (stat fr5) (T.obj _ _ st5);refine CV hp (thn (hg _ s5 σ3 H5 x u _ I5' r5 (step x H5 y5)) λ_ s6 kq=>?_);let⟨σ6,H6,I6,q6⟩:=kq;refine CV hp (thn (hb _ s6 σ6 H6 _ I6 q6) λf s7 q7=>?_);have again:∀{σ7:St} {H7:Hp},Inv X (pins++ybo fp s5.heap) σ7 H7 s7->N σ7 H7->∃m,m<n/\∃i σ' H',Inv X pins σ' H' s7/\tn i s7.heap/\(∀b∈fp,H' b=AD)/\W i m σ' H':=λ{σ7 H7} I7 n7=>by
   let⟨m',hm,w7⟩:=hN σ7 H7 n7;refine⟨m',hm,i+1,σ7,H7,I7.unpinned,T.keep _ _ _ st5 λb hb o e=>(I7.pin (b,o) (BK _ (BK _ (zbf hb e)))).1,λb hb=>?_,w7⟩;let⟨o,e,d⟩:=T.obj _ _ st5 b hb;exact(I7.pin (b,o) (BK _ (BK _ (zbf hb e)))).2.1
  cases f with
  |next=>let⟨σ7,H7,I7,n7⟩:=q7;exact again I7 n7
  |cont=>let⟨σ7,H7,I7,n7⟩:=q7;exact again I7 n7
  |brk=>let⟨σ7,H7,I7,q7⟩:=q7;exact⟨σ7,H7,I7.unpinned,q7⟩
  |ret v=>let⟨x7,σ7,H7,I7,r7,q7⟩:=q7;exact⟨x7,σ7,H7,I7.unpinned,r7,q7⟩
end
abbrev R2:=V->V->Hp->VK->Prop
def OpR(X:Cx)(f:AF->AF->HI AF)(r:R2):Prop:=
 ∀(pins:List (AI×CC)) (s:AJ) (σ:St) (H:Hp) (x y:V) (v u:AF) (Q:VK),Inv X pins σ H s->RelV x v->RelV y u->r x y H Q ->
  A2 (model X.prog X.w) X.A (f v u) (EP X pins σ Q) X.xe s
def UnR(X:Cx)(f:AF->HI AF)(r:V->Hp->VK->Prop):Prop:=
 ∀(pins:List (AI×CC)) (s:AJ) (σ:St) (H:Hp) (x:V) (v:AF) (Q:VK),Inv X pins σ H s->RelV x v->r x H Q ->
  A2 (model X.prog X.w) X.A (f v) (EP X pins σ Q) X.xe s
def yat(X:Cx)(f:AF)(r:List V->Hp->VK->Prop):Prop:=
 ∀(pins:List (AI×CC)) (s:AJ) (σ:St) (H:Hp) (xs:List V) (us:List AF) (Q:VK),Inv X pins σ H s->Vals xs us->r xs H Q ->
  A2 (model X.prog X.w) X.A (call f us) (EP X pins σ Q) X.xe s
def yhb(X:Cx)(r:V->Hp->(Bool->Hp->Prop)->Prop):Prop:=
 ∀(pins:List (AI×CC)) (s:AJ) (σ:St) (H:Hp) (x:V) (v:AF) (Q:Bool->Hp->Prop),Inv X pins σ H s->RelV x v->r x H Q ->
  A2 (model X.prog X.w) X.A (truthy v) (TP X pins σ Q) X.xe s
def tOp(r:R2)(ta tb:TE):TE:=λσ H Q=>ta σ H λx H1=>tb σ H1 λy H2=>r x y H2 Q
def tUn(r:V->Hp->VK->Prop)(ta:TE):TE:=λσ H Q=>ta σ H λx H1=>r x H1 Q
def rI(C:Int->Int->Prop)(g:Int->Int->V):R2:=λx y H Q=>∃i j,x=.int i/\y=.int j/\C i j/\Q (g i j) H
def rI0(g:Int->Int->V):R2:=λx y H Q=>∃i j,x=.int i/\y=.int j/\Q (g i j) H
def rU(g:Int->V):V->Hp->VK->Prop:=λx H Q=>∃i,x=.int i/\Q (g i) H
section
variable {X:Cx}{a b c:AT}{ta tb tc:TE}{pos:CW}
theorem yeE(ha:PE X a ta)(hb:PE X b tb){pins:List (AI×CC)}{s:AJ}{σ:St}{H:Hp}{R:V->V->Hp->Prop}(I:Inv X pins σ H s)
  (h:ta σ H λx H1=>tb σ H1 λy H2=>R x y H2) {Q:AF->AJ->Prop} {f:AF->AF->HI AF}
  (hf:∀v u s2 x y H2,Inv X pins σ H2 s2->RelV x v->RelV y u->R x y H2->A2 (model X.prog X.w) X.A (f v u) Q X.xe s2):
  A2 (model X.prog X.w) X.A (eval a X.env) (λv s₁=>A2 (model X.prog X.w) X.A (eval b X.env) (λu s₂=>A2 (model X.prog X.w) X.A (f v u) Q X.xe s₂) X.xe s₁) X.xe s:=by
 refine thn (ha pins s σ H _ I h) λv s1 kq=>?_;let⟨x,H1,I1,r1,q1⟩:=kq;refine thn (hb pins s1 σ H1 _ I1 q1) λu s2 kq=>?_;let⟨y,H2,I2,r2,q2⟩:=kq;exact hf v u s2 x y H2 I2 r1 r2 q2
theorem znM{op:Ds}{r:R2}(ho:OpR X (binaryOp op) r)(ha:PE X a ta)(hb:PE X b tb):PE X (.BinOp a op b pos) (tOp r ta tb):=by
 intro pins s σ H Q I h;exact wpAny_BinOp (yeE ha hb I h λv u s2 x y H2 I2 rx ry q=>ho pins s2 σ H2 x y v u Q I2 rx ry q)
theorem zp5{op:UnaryOp}{r:V->Hp->VK->Prop}(ho:UnR X (unaryOp op) r)(ha:PE X a ta):PE X (.UnaryOp op a pos) (tUn r ta):=by
 intro pins s σ H Q I h;exact UnaryOp_ (thn (ha pins s σ H _ I h) λv s1 ⟨x,H1,I1,r1,q1⟩=>ho pins s1 σ H1 x v Q I1 r1 q1)
theorem opI{f:AF->AF->HI AF}{C:Int->Int->Prop}{g:Int->Int->Int}
  (rule:∀(i j:Int) (t u:Hc) (s:AJ) (Q:AF->AJ->Prop) (E:AF->AJ->Prop),C i j->Q (.int (g i j) s.toks) {s with toks:=s.toks+1}->A2 (model X.prog X.w) X.A (f (.int i t) (.int j u)) Q E s):
  OpR X f (rI C λi j=>.int (g i j)):=by
 intro pins s σ H x y v u Q I rx ry h;let⟨i,j,rfl,rfl,hc,q⟩:=h;let⟨t,rfl⟩:=rx;let⟨t',rfl⟩:=ry;exact rule i j t t' s _ _ hc ⟨.int (g i j),H,I.tok _,⟨_,rfl⟩,q⟩
theorem yda{f:AF->AF->HI AF}{g:Int->Int->Int}
  (rule:∀(i j:Int) (t u:Hc) (s:AJ) (Q:AF->AJ->Prop) (E:AF->AJ->Prop),Q (.int (g i j) s.toks) {s with toks:=s.toks+1}->A2 (model X.prog X.w) X.A (f (.int i t) (.int j u)) Q E s):
  OpR X f (rI0 λi j=>.int (g i j)):=by
 intro pins s σ H x y v u Q I rx ry h;let⟨i,j,rfl,rfl,q⟩:=h;let⟨t,rfl⟩:=rx;let⟨t',rfl⟩:=ry;exact rule i j t t' s _ _ ⟨.int (g i j),H,I.tok _,⟨_,rfl⟩,q⟩
theorem yd3{f:AF->AF->HI AF}{g:Int->Int->Bool}
  (rule:∀(i j:Int) (t u:Hc) (s:AJ) (Q:AF->AJ->Prop) (E:AF->AJ->Prop),Q (.bool (g i j)) s->A2 (model X.prog X.w) X.A (f (.int i t) (.int j u)) Q E s):
  OpR X f (rI0 λi j=>.bl (g i j)):=by
 intro pins s σ H x y v u Q I rx ry h;let⟨i,j,rfl,rfl,q⟩:=h;let⟨t,rfl⟩:=rx;let⟨t',rfl⟩:=ry;exact rule i j t t' s _ _ ⟨.bl (g i j),H,I,rfl,q⟩
def ydX(i j:Int):Prop:=0<=j/\j<=1000000/\i.natAbs<2^64
def ydg(i j:Int):Prop:=(-(2^64)<i/\i<2^64) \/ (-(2^64)<j/\j<2^64)
theorem ydg.ok{i j:Int}(h:ydg i j):IntMulOk i j:=by
 rcases h with⟨h1,h2⟩|⟨h1,h2⟩
 .exact .of_left (intBits_le_64 h1 h2)
 .exact .of_right (intBits_le_64 h1 h2)
theorem zgK(k:Nat):(0:Int)<=2^k:=by
 rw[two_pow_cast];exact Int.natCast_nonneg _
theorem znb:OpR X (binaryOp .Add) (rI0 λi j=>.int (i+j)):=yda λ_ _ _ _ _ _ _ q=>add_int q
theorem znp:OpR X (binaryOp .Sub) (rI0 λi j=>.int (i-j)):=yda λ_ _ _ _ _ _ _ q=>sub_int q
theorem zpl:OpR X (binaryOp .Mult) (rI ydg λi j=>.int (i*j)):=opI λ_ _ _ _ _ _ _ hc q=>mul_int q hc.ok
theorem zpn:OpR X (binaryOp .Mod) (rI (λ_ j=>0<j) λi j=>.int (i%j)):=opI λi j _ _ _ _ _ hc q=>by
 have h1:(0:Int)<j:=hc;exact mod_int' (by lia) (by rw[Int.fmod_eq_emod_of_nonneg i (by lia)];exact q)
theorem znD:OpR X (binaryOp .Pow) (rI ydX λi j=>.int (i^j.toNat)):=opI λ_ _ _ _ _ _ _ hc q=>pow_int_small hc.1 hc.2.1 hc.2.2 q
theorem zm4:OpR X (binaryOp .LShift) (rI ydX λi j=>.int (i*2^j.toNat)):=opI λ_ _ _ _ _ _ _ hc q=>lshift_int_small hc.1 hc.2.1 hc.2.2 q
theorem zn5:OpR X (binaryOp .RShift) (rI (λ_ j=>0<=j) λi j=>.int (i/2^j.toNat)):=opI λi j _ _ _ _ _ hc q=>
 rshift_int hc (by rw[EK i (zgK _)];exact q)
theorem znQ:OpR X (binaryOp .BitAnd) (rI0 λi j=>.int (Ar i j)):=yda λ_ _ _ _ _ _ _ q=>and_int q
theorem zpw:OpR X (binaryOp .BitOr) (rI0 λi j=>.int (Bd i j)):=yda λ_ _ _ _ _ _ _ q=>or_int q
theorem zmV:OpR X (binaryOp .BitXor) (rI0 λi j=>.int (B1 i j)):=yda λ_ _ _ _ _ _ _ q=>xor_int q
theorem unI{f:AF->HI AF}{g:Int->Int}
  (rule:∀(i:Int) (t:Hc) (s:AJ) (Q:AF->AJ->Prop) (E:AF->AJ->Prop),Q (.int (g i) s.toks) {s with toks:=s.toks+1}->A2 (model X.prog X.w) X.A (f (.int i t)) Q E s):
  UnR X f (rU λi=>.int (g i)):=by
 intro pins s σ H x v Q I rx h;let⟨i,rfl,q⟩:=h;let⟨t,rfl⟩:=rx;exact rule i t s _ _ ⟨.int (g i),H,I.tok _,⟨_,rfl⟩,q⟩
theorem zop:UnR X (unaryOp .USub) (rU λi=>.int (-i)):=unI λ_ _ _ _ _ q=>neg_int q
theorem zhb:OpR X (binaryOp .Add) (λx y H Q=>∃i k,x=.int i/\y=.bl k/\Q (.int (i+b2i k)) H):=by
 intro pins s σ H x y v u Q I rx ry h;let⟨i,k,rfl,rfl,q⟩:=h;let⟨t,rfl⟩:=rx
 cases ry
 exact add_int_bool ⟨.int (i+b2i k),H,I.tok _,⟨_,rfl⟩,q⟩
end
section
variable {X:Cx}{a b c:AT}{ta tb tc:TE}{pos:CW}
theorem zh6{pins:List (AI×CC)}{σ:St}{H:Hp}{s:AJ}{Q:VK}{k k':Bool}(I:Inv X pins σ H s)(q:Q (.bl k) H)(e:k=k'):EP X pins σ Q (.bool k') s:=by
 subst e;exact⟨.bl k,H,I,rfl,q⟩
theorem zpA:OpR X (compareOp .Lt) (rI0 λi j=>.bl (decide (i<j))):=yd3 λ_ _ _ _ _ _ _ q=>lt_int q
theorem zpx:OpR X (compareOp .LtE) (rI0 λi j=>.bl (decide (i<=j))):=yd3 λ_ _ _ _ _ _ _ q=>le_int q
theorem zpL:OpR X (compareOp .Gt) (rI0 λi j=>.bl (decide (j<i))):=yd3 λ_ _ _ _ _ _ _ q=>gt_int q
theorem zp7:OpR X (compareOp .GtE) (rI0 λi j=>.bl (decide (j<=i))):=yd3 λ_ _ _ _ _ _ _ q=>ge_int q
theorem zis:OpR X (compareOp .Lt) (λx y H Q=>∃i j,x=.str i/\y=.str j/\Q (.bl (decide (i.cps.toList<j.cps.toList))) H):=by
 intro pins s σ H x y v u Q I rx ry h;let⟨i,j,rfl,rfl,q⟩:=h;let⟨t,rfl⟩:=rx;let⟨t',rfl⟩:=ry;exact lt_str (zh6 I q rfl)
theorem zgY:OpR X (compareOp .In) (λx y H Q=>∃i j,x=.str i/\y=.str j/\Q (.bl (!(Ej j i 0 j.length 1).isEmpty)) H):=by
 intro pins s σ H x y v u Q I rx ry h;let⟨i,j,rfl,rfl,q⟩:=h;let⟨t,rfl⟩:=rx;let⟨t',rfl⟩:=ry;exact in_str (zh6 I q rfl)
theorem zhw{op:Fg}{r:R2}(ho:OpR X (compareOp op) r)(ha:PE X a ta)(hb:PE X b tb)(hm:behindInMarks op b=AB):PE X (.Compare a [op] [b] pos) (tOp r ta tb):=by
 intro pins s σ H Q I h;exact wpAny_Compare1 (yeE ha hb I h λv u s2 x y H2 I2 rx ry q=>ho pins s2 σ H2 x y v u Q I2 rx ry q) hm
def ydf(t:TE):TT:=λσ H Q=>t σ H λx H'=>∃k,x=.bl k/\Q k H'
theorem zmM{op:Fg}{r:R2}(ho:OpR X (compareOp op) r)(ha:PE X a ta)(hb:PE X b tb)(hm:behindInMarks op b=AB):PT X (.Compare a [op] [b] pos) (ydf (tOp r ta tb)):=by
 intro pins s σ H Q I h;refine wpAny_isTrue_Compare1 (thn (ha pins s σ H _ I h) λv s1 ⟨x,H1,I1,r1,q1⟩=>thn (hb pins s1 σ H1 _ I1 q1) λu s2 ⟨y,H2,I2,r2,q2⟩=>
  thn (ho pins s2 σ H2 x y v u _ I2 r1 r2 q2) λc s3 ⟨z,H3,I3,r3,k,e,q3⟩=>?_) hm
 subst e
 cases r3
 exact B9 ⟨H3,I3,q3⟩
def ycz(r r':R2)(ta tb tc:TE):TE:=λσ H Q=>ta σ H λx H1=>tb σ H1 λy H2=>r x y H2 λz H3=>∃k,z=.bl k /\
 (if k=AC then tc σ H3 λw' H4=>r' y w' H4 Q else Q (.bl AB) H3)
theorem zjR{op op':Fg}{r r':R2}(ho:OpR X (compareOp op) r)(ho':OpR X (compareOp op') r')(ha:PE X a ta)(hb:PE X b tb)(hc:PE X c tc)
  (hm:lastMarks [op,op'] [b,c]=false:=by ac_rfl):PE X (.Compare a [op,op'] [b,c] pos) (ycz r r' ta tb tc):=by
 intro pins s σ H Q I h;refine Compare_chain (thn (ha pins s σ H _ I h) λv s1 ⟨x,H1,I1,r1,q1⟩=>chain_link (thn (hb pins s1 σ H1 _ I1 q1) λu s2 ⟨y,H2,I2,r2,q2⟩=>
  thn (ho pins s2 σ H2 x y v u _ I2 r1 r2 q2) λd s3 ⟨z,H3,I3,r3,k,e,q3⟩=>?_)) hm
 subst e
 cases r3
 refine B9 ?_
 cases k with
 |false=>exact ite_ff ⟨.bl AB,H3,I3,rfl,q3⟩
 |true=>exact ite_tt (chain_last (thn (hc pins s3 σ H3 _ I3 q3) λw' s4 ⟨z',H4,I4,r4,q4⟩=>ho' pins s4 σ H4 y z' u w' Q I4 r2 r4 q4))
theorem zje{op op':Fg}{r r':R2}(ho:OpR X (compareOp op) r)(ho':OpR X (compareOp op') r')(ha:PE X a ta)(hb:PE X b tb)(hc:PE X c tc)
  (hm:lastMarks [op,op'] [b,c]=false:=by ac_rfl):PT X (.Compare a [op,op'] [b,c] pos) (ydf (ycz r r' ta tb tc)):=by
 intro pins s σ H Q I h;refine isTrue_chain (thn (ha pins s σ H _ I h) λv s1 ⟨x,H1,I1,r1,q1⟩=>test_link (thn (hb pins s1 σ H1 _ I1 q1) λu s2 ⟨y,H2,I2,r2,q2⟩=>
  thn (ho pins s2 σ H2 x y v u _ I2 r1 r2 q2) λd s3 ⟨z,H3,I3,r3,k,e,q3⟩=>?_)) hm
 subst e
 cases r3
 refine B9 ?_
 cases k with
 |false=>
  let⟨k',e',q'⟩:=q3
  cases e'
  exact ite_ff ⟨H3,I3,q'⟩
 |true=>
  refine ite_tt (test_last (thn (hc pins s3 σ H3 _ I3 q3) λw' s4 kq=>?_));let⟨z',H4,I4,r4,q4⟩:=kq;refine thn (ho' pins s4 σ H4 y z' u w' _ I4 r2 r4 q4) λd' s5 kq=>?_;let⟨z2,H5,I5,r5,k2,e2,q5⟩:=kq;subst e2
  cases r5
  exact B9 ⟨H5,I5,q5⟩
def yer(K:AE)(x:V)(H:Hp)(k:Bool):Prop:=
 match x with
 |.non=>k=AB
 |.bl b=>k=b
 |.int i=>k=(i != 0)
 |.str y=>y.length<=sizeLine/\k=((y.length:Int) != 0)
 |.byt y=>y.size<=sizeLine/\k=((y.size:Int) != 0)
 |.ref p=>(∃xs,SqL K H p xs/\k=!xs.isEmpty) \/ (∃xs,SqT K H p xs/\k=!xs.isEmpty) \/ ∃kvs,H p=AA (.dK kvs)/\k=!kvs.isEmpty
 |_=>False
theorem zgw{κ:Type}{kvs:List (κ×V)}{vs:List (κ×AF)}(r:KV kvs vs):(!vs.isEmpty)=!kvs.isEmpty:=by
 cases r<;>rfl
theorem zdE{xs:List V}{its:List AF}(r:Vals xs its):(!its.toArray.isEmpty)=!xs.isEmpty:=by
 cases r<;>simp
theorem yaW:(sizeLine:Nat)<2^63:=by rw[CY];decide
theorem zn6:yhb X (λx H Q=>∃k,yer X.K x H k/\Q k H):=by
 intro pins s σ H x v Q I rx h;let⟨k,e,q⟩:=h;have hl:=yaW;have hs:sizeLine=16777216:=CY
 cases x with
 |non=>
  cases rx
  have e':k=false:=e;subst e';exact truthy_none ⟨H,I,q⟩
 |bl b=>
  cases rx
  have e':k=b:=e;subst e';exact B9 ⟨H,I,q⟩
 |int i=>
  let⟨t,rfl⟩:=rx;have e':k=(i != 0):=e;subst e';exact PySem.P.truthy_int ⟨H,I,q⟩
 |str y=>
  let⟨t,rfl⟩:=rx;obtain⟨hy,e'⟩:y.length<=sizeLine/\k=((y.length:Int) != 0):=e;subst e';exact PySem.P.truthy_str (by lia) ⟨H,I.tok _,q⟩
 |byt y=>
  let⟨t,rfl⟩:=rx;obtain⟨hy,e'⟩:y.size<=sizeLine/\k=((y.size:Int) != 0):=e;subst e';exact PySem.W.truthy_bytes (by lia) ⟨H,I.tok _,q⟩
 |ref p=>
  cases rx
  have e':(∃xs,SqL X.K H p xs/\k=!xs.isEmpty) \/ (∃xs,SqT X.K H p xs/\k=!xs.isEmpty) \/ ∃kvs,H p=AA (.dK kvs)/\k=!kvs.isEmpty:=e;rcases e' with⟨xs,hx,e'⟩|⟨xs,hx,e'⟩|⟨kvs,hx,e'⟩
  .subst e';let⟨its,r,pl,hz⟩:=I.list hx;have hlen:=r.length;exact wpAny_truthy_list pl.isList (by erw[AY];lia) ⟨H,I.tok _,by rw[zdE r];exact q⟩
  .subst e';let⟨its,r,pl,hz⟩:=I.tuple hx;have hlen:=r.length;exact truthy_tuple pl (by erw[AY];lia) ⟨H,I.tok _,by rw[zdE r];exact q⟩
  .subst e';obtain⟨hz,hS,vs,r,m⟩:kvs.length<=sizeLine/\(p==sysModules)=AB/\∃vs,KV kvs vs/\s.heap.DictOf (yaa X.prog X.w) p vs:=I.hok p _ hx;have hlen:kvs.length=vs.length:=Ec r;exact wpAny_truthy_dict hS m (by lia) ⟨H,I.tok _,by rw[zgw r];exact q⟩
 |_=>exact(show False from e).elim
theorem zjW(ha:PE X a ta)(he:∀whole,isTrue a X.env whole=(do let v <-whole;standAt a.pos;holding [v] (truthy v))):
  PT X a (λσ H Q=>ta σ H λx H'=>∃k,yer X.K x H' k/\Q k H'):=by
 intro pins s σ H Q I h;exact isTrue_plain (thn (ha pins s σ H _ I h) λv s1 ⟨x,H1,I1,r1,q1⟩=>zn6 pins s1 σ H1 x v Q I1 r1 q1) (he _)
theorem zgy:OpR X (binaryOp .Add) (λx y H Q=>∃i j,x=.str i/\y=.str j/\i.length+j.length<=sizeLine/\Q (.str (i++j)) H):=by
 intro pins s σ H x y v u Q I rx ry h;let⟨i,j,rfl,rfl,hz,q⟩:=h;let⟨t,rfl⟩:=rx;let⟨t',rfl⟩:=ry;exact add_str (λt' tk=>⟨.str (i++j),H,I.tok _,⟨_,rfl⟩,q⟩) hz
theorem vals1{x:V}{us:List AF}(r:Vals [x] us):∃u,us=[u]/\RelV x u:=by
 cases r with
 |cons r1 r2=>cases r2;exact⟨_,rfl,r1⟩
theorem vals2{x y:V}{us:List AF}(r:Vals [x,y] us):∃u w',us=[u,w']/\RelV x u/\RelV y w':=by
 cases r with
 |cons r1 r2=>
  cases r2 with
  |cons r3 r4=>cases r4;exact⟨_,_,rfl,r1,r3⟩
theorem zht(hc:X.calm=AC):yat X (.builtin "max") (λxs H Q=>∃i j,xs=[.int i,.int j]/\Q (.int (if j > i then j else i)) H):=by
 intro pins s σ H xs us Q I r h;let⟨i,j,rfl,q⟩:=h;let⟨u,w',rfl,⟨t,rfl⟩,⟨t',rfl⟩⟩:=vals2 r;refine max_two_ints (I.ok.hd hc) λh' tk k=>⟨_,H,I.kept k,?_,q⟩
 by_cases hj:j > i
 .rw[if_pos hj,if_pos hj];exact⟨_,rfl⟩
 .rw[if_neg hj,if_neg hj];exact⟨_,rfl⟩
theorem zhJ(hc:X.calm=AC):yat X (.builtin "min") (λxs H Q=>∃i j,xs=[.int i,.int j]/\Q (.int (if j<i then j else i)) H):=by
 intro pins s σ H xs us Q I r h;let⟨i,j,rfl,q⟩:=h;let⟨u,w',rfl,⟨t,rfl⟩,⟨t',rfl⟩⟩:=vals2 r;refine min_two_ints (I.ok.hd hc) λh' tk k=>⟨_,H,I.kept k,?_,q⟩
 by_cases hj:j<i
 .rw[if_pos hj,if_pos hj];exact⟨_,rfl⟩
 .rw[if_neg hj,if_neg hj];exact⟨_,rfl⟩
end
structure ycX(h:BF)(x dx C:AI)(mA:AQ->Option AF):Prop where
 obj:h.get? x=AA (CD C dx)
 ns:h.Ns1 dx mA
 ne:dx≠x
theorem ziT{h:BF}{dx:AI}{mA:AQ->Option AF}(n:h.Ns1 dx mA):∃od,h.get? dx=AA od/\∀name,EL name od=AA (mA name):=by
 let⟨o,es,ep,ho,hd,hk,_,hm⟩:=n;refine⟨o,ho,λname=>?_⟩;have e:=hm name;unfold nsFind findBy at e;rw[<-Array.find?_toList]at e;unfold EL;rw[hd];dsimp only;split
 .rename_i y q;rw[q]at e;exact congrArg AA e
 .rename_i q;rw[q]at e;have a:es.toList.any (·.refKey)=false:=by
   rw[List.any_eq_false];intro y hy;let⟨z,t,hkey⟩:=hk y (Array.mem_toList_iff.mp hy);simp[DictEntry.refKey,hkey]
  have a':¬es.toList.any (·.refKey)=true:=by rw[a];exact BD
  rw[if_neg a'];exact congrArg AA e
theorem ycX.look{h:BF}{x dx C:AI}{mA:AQ->Option AF}(I:ycX h x dx C mA):∃od,PySem.W.InstAt h x (CD C dx) C (AA od)/\∀name,EL name od=AA (mA name):=
 let ⟨od,ho,hl⟩:=ziT I.ns
 ⟨od,⟨I.obj,rfl,rfl,ho⟩,hl⟩
section
variable {prog:A9}{w:Al}{A:Ax}{E:AF->AJ->Prop}{s:AJ}{K:AE}{x dx C f:AI}{mA:AQ->Option AF}{name:AQ}{v:AF}
theorem zmi{expr:Bool}{Q:AF->AJ->Prop}(X:K.In s.heap)(I:ycX s.heap x dx C mA)(hg:Ct K C name=AC)(hh:DQ K C=AC)
  (ha:BC K (.ref C) name=AA AD) (hv:mA name=AA v) (hv':GZ v=AC) (h:Q v {s with toks:=s.toks+1}):
  A2 (model prog w) A (getAttr (.ref x) name expr) Q E s:=by
 let⟨od,J,hl⟩:=I.look;exact PySem.W.get_value X J (Dz hg).1 (PySem.W.findObj_own hh ha rfl (by rw[hl,hv])) hv' h
theorem zjI{pl:HI Bool}{Q:AF×List AF->AJ->Prop}(X:K.In s.heap)(I:ycX s.heap x dx C mA)(hg:Ct K C name=AC)
  (hf:BC K (.ref C) name=AA (AA (.ref f))) (ht:Cu K (.ref f)=AC) (hv:mA name=AD) (h:Q (.ref f,[.ref x]) s):
  A2 (model prog w) A (getMethod (.ref x) name pl) Q E s:=by
 let⟨od,J,hl⟩:=I.look;exact PySem.W.method_fn X J (Dz hg).1 (Dz hg).2 hf (beq_iff_eq.mp ht) (by show (EL name od).map (·.isSome)=AA AB;rw[hl,hv];rfl) h
theorem zl6{ns:List AQ}{Q:Unit->AJ->Prop}(X:K.In s.heap)(I:ycX s.heap x dx C mA)
  (hs:BC K (.ref C) "__setattr__"=AA (AA (.builtin "object.__setattr__"))) (hp:E7 K C=AC) (ht:FM K C name=AA AD) (hh:DQ K C=AC)
  (hw:Fz mA ns) (hsz:ns.length<=sizeLine)
  (h:∀h',ycX h' x dx C (λy=>if y=name then AA v else mA y)->Cb dx s.heap h'->Q () {s with heap:=h',toks:=s.toks+2}):
  A2 (model prog w) A (setAttr (.ref x) name v) Q E s:=by
 let⟨od,J,hl⟩:=I.look;refine PySem.W.set_plain X J hs (PySem.W.osa_open (s:={s with toks:=s.toks+1}) (r:=AD) X J hp ht λb=>?_);let⟨cd,hc,hd'⟩:=PySem.W.any_some hh;have hx:s.heap.get? x=AA ⟨.ref C,AA dx,.plain,#[]⟩:=I.obj;refine AH (AU (AH (AH (wpAny_loadPart hx (AH (Hl (s:={s with toks:=s.toks+1}) (PySem.W.looks_clsIn X hc) ?_))))));rw[hd'];refine AU (a:=AA dx) (AH (AU (AH ?_)));refine wpAny_nsSet1 (s:={s with toks:=s.toks+1}) I.ns λh' hn2 hs2=>?_;let⟨oD,esD,epD,hoD,hdD,hcD⟩:=hn2.count (Hq name v hw);refine AH (wpAny_lookBehind hoD (by rw[hdD];exact pastItsLine_dict (BU hcD (by rw[AZ];lia))) ?_);exact AU (h _ ⟨(hs2.2 _ (BJ I.ne)).trans I.obj,hn2,I.ne⟩ hs2)
theorem zjs{R:Gy->AJ->Prop}{vs:List AF}{kw:List (AQ×AF)}(X:K.In s.heap)(hm:Du K C=AC)
  (hi:BC K (.ref C) "__init__"=AA (AA (.ref f))) (hf:PySem.W.typeIn K (.ref f)=AA (.type "function"))
  (h:codeAny (model prog w) (A.under (.builtin "type.__call__" ⟨.ref C::vs,kw⟩)) (.call (.ref f) ⟨.ref (s.heap.objs.size+1)::vs,kw⟩) (PySem.W.InitBack (s.heap.objs.size+1) R)
   {s with heap:=(s.heap.push Bb).push (CD C s.heap.objs.size)}):
  codeAny (model prog w) A (.call (.ref C) ⟨vs,kw⟩) R s:=by
 let⟨hh,g,d,t,os⟩:=s;exact PySem.W.make_core (PySem.W.makes_of X hm) (PySem.W.looks_findIn X hi) (λself=>PySem.W.bind_fn X self hf) (.inl rfl) h
end
def yba(f:AQ)(v:V):List (AQ×V)->List (AQ×V)
 |[]=>[(f,v)]
 |(g,x)::r=>if g=f then(g,v)::r else(g,x)::yba f v r
theorem zcX(f g:AQ)(v:V):∀fs:List (AQ×V),(yba f v fs).lookup g=if g=f then AA v else fs.lookup g
 |[]=>by
  show Bu g [(f,v)]=_
  by_cases h:g=f
  .have hb:(g==f)=true:=beq_iff_eq.mpr h;erw[Bu,hb,if_pos h]
  .have hb:(g==f)=false:=beq_eq_false_iff_ne.mpr h;erw[Bu,hb,if_neg h]
 |(k,x)::r=>by
  have ih:=zcX f g v r;rw[show yba f v ((k,x)::r)=(if k=f then(k,v)::r else(k,x)::yba f v r)from rfl]
  by_cases hk:k=f
  .rw[if_pos hk]
   by_cases h:g=k
   .have hb:(g==k)=true:=beq_iff_eq.mpr h;erw[Bu,hb,if_pos (h.trans hk)]
   .have hb:(g==k)=false:=beq_eq_false_iff_ne.mpr h;erw[Bu,hb,if_neg (λe:g=f=>h (e.trans hk.symm))]
  .rw[if_neg hk]
   by_cases h:g=k
   .have hb:(g==k)=true:=beq_iff_eq.mpr h;erw[Bu,hb,if_neg (λe:g=f=>hk (h.symm.trans e))]
   .have hb:(g==k)=false:=beq_eq_false_iff_ne.mpr h;erw[Bu,hb];exact ih
theorem zc9(f:AQ)(v:V):∀fs:List (AQ×V),f∈(yba f v fs).map (·.1)/\∀g,g∈fs.map (·.1)->g∈(yba f v fs).map (·.1)
 |[]=>⟨by simp[yba],λg h=>by simp at h⟩
 |(k,x)::r=>by
  let⟨i1,i2⟩:=zc9 f v r;rw[show yba f v ((k,x)::r)=(if k=f then(k,v)::r else(k,x)::yba f v r)from rfl]
  by_cases hk:k=f
  .rw[if_pos hk];subst hk;exact⟨by simp,λg h=>by simpa using h⟩
  .rw[if_neg hk];refine⟨?_,λg h=>?_⟩
   .rw[AL];exact AR _ i1
   .rw[AL]at h ⊢;rcases AN.mp h with e|e
    .exact AN.mpr (.inl e)
    .exact AR _ (i2 g e)
theorem zdp(f:AQ)(v:V):∀fs:List (AQ×V),(yba f v fs).length<=fs.length+1
 |[]=>by simp[yba]
 |(k,x)::r=>by
  have ih:=zdp f v r;rw[show yba f v ((k,x)::r)=(if k=f then(k,v)::r else(k,x)::yba f v r)from rfl]
  by_cases hk:k=f
  .rw[if_pos hk,AZ,AZ];lia
  .rw[if_neg hk,AZ,AZ];lia
theorem ybw.some_of{v:V}{o:Option AF}(r:ybw (AA v) o):∃u,o=AA u/\RelV v u:=by
 cases o with
 |none=>exact(show False from r).elim
 |some u=>exact⟨u,rfl,r⟩
theorem ybw.none_of{o:Option AF}(r:ybw AD o):o=none:=by
 cases o with
 |none=>rfl
 |some u=>exact(show False from r).elim
theorem zha{v:V}{u:AF}(r:RelV v u):GZ u=true:=by
 cases v with
 |non=>cases (show u=CO from r);rfl
 |bl b=>cases (show u=ED b from r);rfl
 |int i=>let⟨t,e⟩:=(show ∃t,u=Eh i t from r);cases e;rfl
 |str x=>let⟨t,e⟩:=(show ∃t,u=GX x t from r);cases e;rfl
 |byt b=>let⟨t,e⟩:=(show ∃t,u=Hd b t from r);cases e;rfl
 |flt b=>let⟨t,e⟩:=(show ∃t,u=He b t from r);cases e;rfl
 |ref a=>cases (show u=Ai a from r);rfl
 |ty n=>cases (show u=Ew n from r);rfl
section
variable {P:A9}{w:Al}{H H':Hp}{h h':BF}{a C dx:AI}{fs fs':List (AQ×V)}
theorem zfy(hok:HOk P w H h)(e:H a=AA (.ins C dx fs)):∃mA,ycX h a dx C mA/\(∀f,ybw (fs.lookup f) (mA f))/\Fz mA (fs.map (·.1))/\fs.length<=1000/\H dx=AA (.own a):=by
 let⟨d,z,ne,ob,mA,n,r,q⟩:=(show yai P w H h a (.ins C dx fs)from hok a _ e);exact⟨mA,⟨ob,n,ne⟩,r,q,z,d⟩
end
structure Cls(K:AE)(C:AI):Prop where
 pg:Ct K C G0=AC
 hd:DQ K C=AC
 po:E7 K C=AC
 sa:BC K (.ref C) "__setattr__"=AA (AA (.builtin "object.__setattr__"))
theorem Cls.get{K:AE}{C:AI}(c:Cls K C)(f:AQ):Ct K C f=true:=c.pg
def yax(K:AE)(C:AI)(f:AQ):Prop:=BC K (.ref C) f=AA AD
theorem yax.taker{K:AE}{C:AI}{f:AQ}(n:yax K C f):FM K C f=AA none:=by
 unfold FM;rw[show BC K (.ref C) f=AA AD from n];rfl
structure Con(K:AE)(C:AI)(f:AQ)(v:V)(u:AF):Prop where
 at_:BC K (.ref C) f=AA (AA u)
 rel:RelV v u
 get:PySem.W.specialIn K u "__get__"=AA AD
 cp:PySem.W.copiedNames.contains f=AB
structure Meth(K:AE)(C:AI)(m:AQ)(f:AI):Prop where
 at_:BC K (.ref C) m=AA (AA (.ref f))
 fn:Cu K (.ref f)=AC
 kp:Ay K (.ref f)=AC
section
variable {X:Cx}{pins:List (AI×CC)}{σ:St}{H:Hp}{s:AJ}{a C dx:AI}{fs:List (AQ×V)}{f:AQ}{v:V}{A:Ax}{E:AF->AJ->Prop}
theorem zdG{b:Bool}{Q:AF->AJ->Prop}(I:Inv X pins σ H s)(e:H a=AA (.ins C dx fs))(c:Cls X.K C)(n:yax X.K C f)(l:fs.lookup f=AA v)
  (h:∀u s',Inv X pins σ H s'->RelV v u->Q u s'):A2 (model X.prog X.w) A (getAttr (.ref a) f b) Q E s:=by
 let⟨mA,O,r,_,_,_⟩:=zfy I.hok e;let⟨u,hu,ru⟩:=ybw.some_of (v:=v) (o:=mA f) (by rw[<-l];exact r f);exact zmi I.kIn O (c.get f) c.hd n hu (zha ru) (h u _ (I.tok _) ru)
theorem zdU{m:AQ}{g:AI}{pl:HI Bool}{Q:AF×List AF->AJ->Prop}(I:Inv X pins σ H s)(e:H a=AA (.ins C dx fs))(c:Cls X.K C)(k:Meth X.K C m g)(l:fs.lookup m=AD)
  (h:Q (.ref g,[.ref a]) s):A2 (model X.prog X.w) A (getMethod (.ref a) m pl) Q E s:=by
 let⟨mA,O,r,_,_,_⟩:=zfy I.hok e;have hn:mA m=none:=ybw.none_of (by rw[<-l];exact r m);exact zjI I.kIn O (c.get m) k.at_ k.fn hn h
theorem zdC{y:V}{u:AF}{Q:Unit->AJ->Prop}(I:Inv X pins σ H s)(e:H a=AA (.ins C dx fs))(c:Cls X.K C)(n:yax X.K C f)(hl:fs.length<1000)(ry:RelV y u)
  (h:∀s',Inv X pins σ (upd H a (.ins C dx (yba f y fs))) s'->Q () s'):A2 (model X.prog X.w) A (setAttr (.ref a) f u) Q E s:=by
 let⟨mA,O,r,wi,_,ho⟩:=zfy I.hok e;have hz:(fs.map (·.1)).length<=sizeLine:=by rw[Av,CY];lia
 refine zl6 I.kIn O c.sa c.po n.taker c.hd wi hz λh' O' sb=>h _ ?_;have hd:∃o,h'.get? dx=AA o:=let ⟨o,_,_,e',_⟩:=O'.ns;⟨o,e'⟩
 refine I.write (x:=a) (e:=dx) (by rw[e];exact Cc) (.inr ho) (λb q hb z=>(sb.2 b hb).trans z) hd ?_;refine⟨by rw[zk O.ne];exact ho,?_,O.ne,O'.obj,_,O'.ns,λg=>?_,λg hg=>?_⟩
 .have:=zdp f y fs;lia
 .show ybw ((yba f y fs).lookup g) (if g=f then AA u else mA g);rw[zcX]
  by_cases q:g=f
  .rw[if_pos q,if_pos q];exact ry
  .rw[if_neg q,if_neg q];exact r g
 .by_cases q:g=f
  .rw[q];exact(zc9 f y fs).1
  .refine(zc9 f y fs).2 g (wi g λz=>hg ?_);show (if g=f then AA u else mA g)=AD;rw[if_neg q];exact z
theorem Inv.made(I:Inv X pins σ H s):Inv X pins σ (upd (upd H s.heap.objs.size (.own (s.heap.objs.size+1))) (s.heap.objs.size+1) (.ins C s.heap.objs.size []))
  {s with heap:=(s.heap.push Bb).push (CD C s.heap.objs.size)}:=by
 have e1:(s.heap.push Bb).get? s.heap.objs.size=AA Bb:=A7 s.heap rfl;have e2:((s.heap.push Bb).push (CD C s.heap.objs.size)).get? (s.heap.objs.size+1)=AA (CD C s.heap.objs.size):=by
  have:=A7 (s.heap.push Bb) (o:=CD C s.heap.objs.size) rfl
  rwa [Bv]at this
 have e3:(s.heap.push Bb).Ns s.heap.objs.size (λ_=>AD):=⟨Bb,#[],_,e1,rfl,(λe he=>absurd he (by simp)),λ_=>rfl⟩;have I1:=I.laid (a:=s.heap.objs.size) (o:=.own (s.heap.objs.size+1)) (h':=s.heap.push Bb) (t':=s.toks) (λb u q=>AO _ q) (AS _) ⟨_,e1⟩;refine I1.laid (a:=s.heap.objs.size+1) (o:=.ins C s.heap.objs.size []) (t':=s.toks) (λb u q=>AO _ q) (HU (Bv _ _)) ?_;have ne:s.heap.objs.size≠s.heap.objs.size+1:=Aq (Dd _);refine⟨by rw[zk ne,zt],DN _,ne,e2,λ_=>AD,(Heap.Ns1.of_empty e3).at λo q=>AO _ q,λ_=>Cc,λy hy=>absurd rfl hy⟩
theorem zmS{prog:A9}{w:Al}{env:Env}{e:AT}{f:AQ}{pos:CW}{s:AJ}{Q:AF->AJ->Prop}(hb:attributeBase e f env (eval e env)=eval e env)
  (h:A2 (model prog w) A (eval e env) (λo s₁=>A2 (model prog w) A (getAttr o f AC) Q E s₁) E s):A2 (model prog w) A (eval (.Attribute e f pos) env) Q E s:=
 Attribute_any_ h (by rw[arm_eval_Attribute,hb])
end
def ygC(K:AE)(ta:TE)(f:AQ):TE:=λσ H Q=>ta σ H λx H1=>∃a C dx fs v,x=.ref a/\H1 a=AA (.ins C dx fs)/\Cls K C/\yax K C f/\fs.lookup f=AA v/\Q v H1
def yfR(K:AE)(ta tv:TE)(f:AQ):TS:=λD σ H=>tv σ H λy H1=>ta σ H1 λx H2=>∃a C dx fs,x=.ref a/\H2 a=AA (.ins C dx fs)/\Cls K C/\yax K C f/\fs.length<1000 /\
 D.nx σ (upd H2 a (.ins C dx (yba f y fs)))
def yfm(X:Cx)(op:Ds)(rd:V->V->Hp->VK->Prop):Prop:=
 ∀(pins:List (AI×CC)) (s:AJ) (σ:St) (H:Hp) (x y:V) (u v:AF) (Q:VK),Inv X pins σ H s->RelV x u->RelV y v->rd x y H Q->A2 (model X.prog X.w) X.A (inplaceOp op u v) (EP X pins σ Q) X.xe s
def ycF(K:AE)(ta tv:TE)(rd:V->V->Hp->VK->Prop)(f:AQ):TS:=λD σ H=>ta σ H λx H1=>∃a C dx fs v,x=.ref a/\H1 a=AA (.ins C dx fs)/\Cls K C/\yax K C f/\fs.lookup f=AA v /\
 tv σ H1 λy H2=>rd v y H2 λz H3=>∃dx' fs',H3 a=AA (.ins C dx' fs')/\fs'.length<1000/\D.nx σ (upd H3 a (.ins C dx' (yba f z fs')))
section
variable {X:Cx}{o e value:AT}{f:AQ}{pos pos' tpos:CW}{ta tv:TE}
theorem znI(he:PE X e ta)(hb:attributeBase e f X.env (eval e X.env)=eval e X.env):PE X (.Attribute e f pos) (ygC X.K ta f):=by
 intro pins s σ H Q I h;refine zmS hb (thn (he pins s σ H _ I h) λu s1 kq=>?_);let⟨x,H1,I1,rx,a,C,dx,fs,v,ex,ea,c,n,l,q⟩:=kq;subst ex;obtain rfl:u=Ai a:=rx;exact zdG I1 ea c n l λu' s2 I2 ru=>⟨v,H1,I2,ru,q⟩
theorem znq(ha:PE X o ta)(hv:PE X value tv)(hs:swapsWith value (AA (.Attribute o f pos')) pos.line X.env=pure AB):PS X (.Assign [.Attribute o f pos'] value pos) (yfR X.K ta tv f):=by
 intro pins s σ H D I h;refine plainObj_wpAny_Assign_Attribute (thn (hv pins s σ H _ I h) λu s1 kq=>?_) hs;let⟨y,H1,I1,ry,q⟩:=kq;refine thn (ha pins s1 σ H1 _ I1 q) λov s2 kq=>?_;let⟨x,H2,I2,rx,a,C,dx,fs,ex,ea,c,n,l,q2⟩:=kq;subst ex;obtain rfl:ov=Ai a:=rx;exact zdC I2 ea c n l ry λs3 I3=>⟨σ,_,I3,q2⟩
theorem ziX{op:Ds}{rd:V->V->Hp->VK->Prop}(ha:PE X o ta)(hv:PE X value tv)(hop:yfm X op rd):PS X (.AugAssign (.Attribute o f tpos) op value pos) (ycF X.K ta tv rd f):=by
 intro pins s σ H D I h;refine wpAny_AugAssign_AttributeAny (thn (ha pins s σ H _ I h) λov s1 kq=>?_);let⟨x,H1,I1,rx,a,C,dx,fs,v,ex,ea,c,n,l,q⟩:=kq;subst ex;obtain rfl:ov=Ai a:=rx;refine zdG I1 ea c n l λu s2 I2 ru=>thn (hv pins s2 σ H1 _ I2 q) λw3 s3 kq=>?_;let⟨y,H2,I3,ry,q3⟩:=kq;refine thn (hop pins s3 σ H2 v y u w3 _ I3 ru ry q3) λw4 s4 kq=>?_;let⟨z,H3,I4,rz,dx',fs',ea',l',q4⟩:=kq;exact zdC I4 ea' c n l' rz λs5 I5=>⟨σ,_,I5,q4⟩
def ygx:V->V->Hp->VK->Prop:=λx y H Q=>∃i j,x=.int i/\y=.int j/\Q (.int (i+j)) H
theorem zpk:yfm X .Add ygx:=by
 rintro pins s σ H x y u v Q I rx ry ⟨i,j,rfl,rfl,q⟩
 let⟨t,rfl⟩:=(show ∃t,u=Eh i t from rx);let⟨t',rfl⟩:=(show ∃t',v=Eh j t' from ry);exact Gr ⟨.int (i+j),H,I.tok _,⟨_,rfl⟩,q⟩
end
section
variable {X:Cx}{pins:List (AI×CC)}{σ:St}{H:Hp}{s:AJ}{A:Ax}{E:AF->AJ->Prop}{Q:AF->AJ->Prop}{c:AF}{b:Bool}
end
structure yaz(k:Nat)(A:Ax):Prop where
 hd:A.handled=AD
 dp:A.depth+3*k+5<recursionLimit
 un:A.units+16*k+200<cLine
theorem yaz.mono{j k:Nat}{A:Ax}(r:yaz k A)(h:j<=k):yaz j A:=⟨r.hd,by have:=r.dp;lia,by have:=r.un;lia⟩
theorem yaz.deeper{k:Nat}{A:Ax}(r:yaz (k+1) A)(env:Env):yaz k (A.deeper env):=
 ⟨r.hd,by have:=r.dp;show A.depth+1+3*k+5<_;lia,by have:=r.un;show A.units+3+16*k+200<_;lia⟩
theorem zgB{A:Ax}{C:AI}{us:List AF}{kw:List (AQ×AF)}:(A.under (.builtin "type.__call__" ⟨.ref C::us,kw⟩)).depth=A.depth+1:=by
 first|rfl|simp[GB,Code.weight,Code.isCreation,Code.isGuard,Code.isCaller,Hf,GE,guardIds]
theorem zgC{A:Ax}{C:AI}{us:List AF}{kw:List (AQ×AF)}:(A.under (.builtin "type.__call__" ⟨.ref C::us,kw⟩)).units=A.units+1:=by
 first|rfl|simp[GB,Code.cUnits,Hf,GE]
theorem yaz.make{k:Nat}{A:Ax}(r:yaz (k+1) A)(C:AI)(us:List AF)(kw:List (AQ×AF)):yaz k (A.under (.builtin "type.__call__" ⟨.ref C::us,kw⟩)):=
 ⟨r.hd,by have:=r.dp;rw[zgB];lia,by have:=r.un;rw[zgC];lia⟩
theorem yaz.depth{k:Nat}{A:Ax}(r:yaz k A):A.depth<recursionLimit:=by have:=r.dp;lia
theorem yaz.units{k:Nat}{A:Ax}(r:yaz k A):A.units+64<cLine:=by have:=r.un;lia
def ydC:TA:=λ_ H Q=>Q [] H
def ydh(ta:TE)(tr:TA):TA:=λσ H Q=>ta σ H λx H1=>tr σ H1 λxs H2=>Q (x::xs) H2
section
variable {X:Cx}{e:AT}{es:List AT}{te:TE}{t:TA}{pos:CW}
theorem ybr:PA X [] ydC:=λ_ _ _ _ H Q I h=>GF ⟨[],H,I,.nil,h⟩
theorem zbC(ha:PE X e te)(hr:PA X es t)(hs:starEach (e::es) X.env=(AB,eval e X.env)::starEach es X.env:=by rfl):PA X (e::es) (ydh te t):=by
 intro pos pins s σ H Q I h;rw[hs];show A2 _ _ (spliced ((AB,eval e X.env)::backTo pos (starEach es X.env))) _ _ s;refine EM (thn (ha pins s σ H _ I h) λu s1 kq=>?_);let⟨x,H1,I1,r1,q1⟩:=kq;exact thn (hr pos pins s1 σ H1 _ I1 q1) λus s2 ⟨xs,H2,I2,r2,q2⟩=>⟨x::xs,H2,I2,.cons r1 r2,q2⟩
def yf3(t:TA):TE:=λσ H Q=>t σ H λxs H1=>xs.length<=sizeLine/\∀p,H1 p=AD->Q (.ref p) (upd H1 p (.tup xs))
def ygM(t:TA):TE:=λσ H Q=>t σ H λxs H1=>xs.length<=sizeLine/\∀p,H1 p=AD->Q (.ref p) (upd H1 p (.lst xs))
theorem znS{x1}(h:PA X es t):PE X (.Tuple es x1 pos) (yf3 t):=by
 intro pins s σ H Q I hq;refine wpAny_Tuple_spliced (thn (h pos pins s σ H _ I hq) λus s1 kq=>?_);let⟨xs,H1,I1,r,z,q⟩:=kq;refine ⟨by rw[<-r.length];exact z,?_⟩;have hf:H1 s1.heap.objs.size=none:=I1.hok.fresh (AS _);refine⟨.ref s1.heap.objs.size,upd H1 s1.heap.objs.size (.tup xs),I1.laid (t':=s1.toks) (λb u e=>AO _ e) (AS _) ?_,rfl,q _ hf⟩;exact⟨z,us,r,⟨_,A7 _ rfl,rfl,_,rfl⟩⟩
theorem zkV(h:PA X es t):PE X (.List es pos) (ygM t):=by
 intro pins s σ H Q I hq;refine wpAny_List_spliced (thn (h pos pins s σ H _ I hq) λus s1 kq=>?_);let⟨xs,H1,I1,r,z,q⟩:=kq;refine ⟨by rw[<-r.length];exact z,?_⟩;have hf:H1 s1.heap.objs.size=none:=I1.hok.fresh (AS _);refine⟨.ref s1.heap.objs.size,upd H1 s1.heap.objs.size (.lst xs),I1.laid (t':=s1.toks) (λb u e=>AO _ e) (AS _) ?_,rfl,q _ hf⟩;exact⟨z,us,0,r,A7 _ rfl⟩
end
abbrev Sp:=List V->Hp->VK->XK->Prop
abbrev CXT:=List Env->Hp->AJ->XK->AF->AJ->Prop
structure ycU(P:A9)(w:Al)(K:AE)(mg:AQ->Option AF)(base:BF)(A:Ax)(outer:List Env)(s:AJ)(H:Hp):Prop where
 frames:A.frames=AA outer
 mod:Mod K mg base
 bs:∀b o,base.get? b=AA o->s.heap.get? b=AA o/\H b=AD
 bsz:base.objs.size<=s.heap.objs.size
 funs:s.heap.FunFrames base outer
 frf:∀b∈frs outer,H b=AD
 hok:HOk P w H s.heap
 bare:Dj s.gens
def CE(outer:List Env)(P:A9)(w:Al)(H:Hp)(s:AJ)(Q:VK)(u:AF)(s':AJ):Prop:=
 ∃v H',s'.os=s.os/\Dj s'.gens/\Un (frs outer) [] H H' s.heap s'.heap/\HOk P w H' s'.heap/\RelV v u/\Q v H'
def CR(CX:CXT)(outer:List Env)(P:A9)(w:Al)(H:Hp)(s:AJ)(Q:VK)(E:XK)(r:Gy)(s':AJ):Prop:=
 match r with
 |.ok (.ret u)=>CE outer P w H s Q u s'
 |.ok _=>False
 |.error e=>CX outer H s E e s'
structure yaP(P:A9)(w:Al)(K:AE)(mg:AQ->Option AF)(base:BF)(CX:CXT)(k:Nat)(f:AI)(fd:BG)(ps:List AQ)(sp:Sp):Prop where
 len:∀vs H Q E,sp vs H Q E->vs.length=ps.length
 run:∀(A:Ax) (outer:List Env) (s:AJ) (H:Hp) (args:Args) (us:List AF) (vs:List V) (Q:VK) (E:XK),yaz k A->ycU P w K mg base A outer s H->F8 s fd args (ps.zip us)->Vals vs us->sp vs H Q E ->
  codeAny (model P w) A (.call (.ref f) args) (CR CX outer P w H s Q E) s
theorem yaP.imp{P:A9}{w:Al}{K:AE}{mg:AQ->Option AF}{base:BF}{CX:CXT}{k:Nat}{f:AI}{fd:BG}{ps:List AQ}{sp sp':Sp}(F:yaP P w K mg base CX k f fd ps sp)
  (h:∀vs H Q E,sp' vs H Q E->sp vs H Q E):yaP P w K mg base CX k f fd ps sp':=
 ⟨λvs H Q E q=>F.len vs H Q E (h _ _ _ _ q),λA outer s H args us vs Q E hr he hb hv hs=>F.run A outer s H args us vs Q E hr he hb hv (h _ _ _ _ hs)⟩
theorem ycU.make{P:A9}{w:Al}{K:AE}{mg:AQ->Option AF}{base:BF}{A:Ax}{outer:List Env}{s:AJ}{H:Hp}(e:ycU P w K mg base A outer s H)(C:AI)(us:List AF)(kw:List (AQ×AF)):
  ycU P w K mg base (A.under (.builtin "type.__call__" ⟨.ref C::us,kw⟩)) outer s H:=⟨by first|exact e.frames|(simpa [GB,Code.envs,GE,pushEnvs] using e.frames),e.mod,e.bs,e.bsz,e.funs,e.frf,e.hok,e.bare⟩
section
variable {X:Cx}{pins:List (AI×CC)}{σ:St}{H:Hp}{s s':AJ}
theorem Inv.env0(I:Inv X pins σ H s):ycU X.prog X.w X.K X.mg X.base X.A X.stack s H:=
 ⟨I.ok.frames,I.ok.mod,I.bs,BU I.ok.bsz I.sz,I.stack,I.stkFree,I.hok,I.bare⟩
theorem Inv.after{Q:VK}{u:AF}(I:Inv X pins σ H s)(h:CE X.stack X.prog X.w H s Q u s'):EP X pins σ Q u s':=by
 let⟨v,H',os,bare,un,hok,r,q⟩:=h;let⟨hh,g,d,t,os'⟩:=s';obtain rfl:os'=s.os:=os;exact⟨v,H',I.call (h':=hh) (g':=g) (d':=d) (t':=t) (ch:=[]) un hok bare (λb z=>absurd z (by simp)),r,q⟩
end
def yeN(C:AI)(sp:Sp)(dvs:List V)(E:XK)(t:TA):TE:=λσ H Q=>t σ H λvs H1=>∀x dx,H1 x=AD->H1 dx=AD->dx≠x ->
 sp (.ref x::(vs++dvs)) (upd (upd H1 dx (.own x)) x (.ins C dx [])) (λv H2=>v=.non/\Q (.ref x) H2) E
def Binds(K:AE)(fd:BG)(ps:List AQ)(ds:List AF):Prop:=
 ∀(s:AJ) (us:List AF),K.In s.heap->(us++ds).length=ps.length->F8 s fd ⟨us,[]⟩ (ps.zip (us++ds))
theorem Binds.all{K:AE}{fd:BG}{ps:List AQ}(h:∀us:List AF,us.length=ps.length->bindArgs fd ⟨us,[]⟩=pure (ps.zip us)):Binds K fd ps []:=λs us _ hl=>by
 rw[Aw]at hl ⊢;exact .of_eq (h us hl)
def ybL(CX:CXT)(X:Cx)(E:XK):Prop:=∀(pins:List (AI×CC)) (σ:St) (H:Hp) (s:AJ) (e:AF) (s':AJ),Inv X pins σ H s->CX X.stack H s E e s'->X.xe e s'
section
variable {X:Cx}{CX:CXT}{k:Nat}{f C:AI}{fd:BG}{ps:List AQ}{sp:Sp}{dvs:List V}{ds:List AF}{E:XK}{x m:AQ}{p pos apos:CW}{e o:AT}{es:List AT}{ta:TE}{t:TA}
structure Mk(K:AE)(C f:AI):Prop where
 makes:Du K C=AC
 init:BC K (.ref C) "__init__"=AA (AA (.ref f))
 fn:Cu K (.ref f)=AC
 kp:Ay K (.ref C)=AC
theorem zjp{pins:List (AI×CC)}{σ:St}{H:Hp}{s:AJ}{Q:VK}{us:List AF}{vs:List V}(M:Mk X.K C f)(F:yaP X.prog X.w X.K X.mg X.base CX k f fd ps sp)(hr:yaz (k+1) X.A)(hb:Binds X.K fd ps ds)(hd:Vals dvs ds)
  (hx:ybL CX X E) (I:Inv X pins σ H s) (r:Vals vs us)
  (h:∀x dx,H x=AD->H dx=AD->dx≠x->sp (.ref x::(vs++dvs)) (upd (upd H dx (.own x)) x (.ins C dx [])) (λv H2=>v=.non/\Q (.ref x) H2) E):
  A2 (model X.prog X.w) X.A (call (.ref C) us) (EP X pins σ Q) X.xe s:=by
 have hq:=h (s.heap.objs.size+1) s.heap.objs.size (I.hok.fresh (Co _)) (I.hok.fresh (AS _)) (Aq (Dd _));have I2:=Inv.made (C:=C) I;have r2:Vals (V.ref (s.heap.objs.size+1)::(vs++dvs)) (Ai (s.heap.objs.size+1)::(us++ds)):=.cons rfl (r.append hd);have hl:(Ai (s.heap.objs.size+1)::us++ds).length=ps.length:=by
  have e:=r2.length;rw[F.len _ _ _ _ hq]at e;exact e.symm
 refine Gz (zjs (f:=f) I.kIn M.makes M.init (beq_iff_eq.mp M.fn) (EA (F.run _ X.stack _ _ ⟨Ai (s.heap.objs.size+1)::us,[]⟩ (Ai (s.heap.objs.size+1)::(us++ds)) _ _ E (hr.make C us [])
  (I2.env0.make C us []) (hb _ (Ai (s.heap.objs.size+1)::us) I2.kIn hl) r2 hq) λr s' hq'=>?_))
 cases r with
 |error e=>exact hx pins σ _ _ e s' I2 hq'
 |ok fl=>
  cases fl with
  |ret u=>
   let⟨v,H',I3,rv,ev,q3⟩:=I2.after hq';subst ev;exact⟨rv,⟨V.ref (s.heap.objs.size+1),H',I3,rfl,q3⟩⟩
  |next=>exact Bn hq'
  |brk=>exact Bn hq'
  |cont=>exact Bn hq'
theorem zlg(M:Mk X.K C f)(F:yaP X.prog X.w X.K X.mg X.base CX k f fd ps sp)(hr:yaz (k+1) X.A)(hg:Gl X x)(hm:X.mg x=AA (.ref C))(hb:Binds X.K fd ps ds)(hd:Vals dvs ds)(hx:ybL CX X E)
  (ha:PA X (e::es) t) (hdb:(x==("__debug__":AQ))=false:=by decide) (he:starEach (e::es) X.env=(AB,eval e X.env)::starEach es X.env:=by rfl) (hpl:(backTo pos (starEach es X.env)).any (·.1)=false:=by rfl):
  PE X (.Call (.Name x p) (e::es) [] pos) (yeN C sp dvs E t):=by
 intro pins s σ H Q I h;refine B2 (zdc I hg hm ?_ hdb);refine DI (h₀:=X.base) I.ok.mod.kin M.kp (thn (ha pos pins s σ H _ I h) λus s1 kq=>?_) he hpl;let⟨vs,H1,I1,r,q⟩:=kq;refine ⟨I1.kIn,?_⟩;exact zjp M F hr hb hd hx I1 r q
end
def PK(X:Cx)(kws:List C3)(t:TA):Prop:=
 ∀(pos:CW) (pins:List (AI×CC)) (s:AJ) (σ:St) (H:Hp) (Q:List V->Hp->Prop),Inv X pins σ H s->t σ H Q->A2 (model X.prog X.w) X.A (evalAll ((backToKw pos (keywordEach kws X.env)).map (·.2))) (AP X pins σ Q) X.xe s
section
variable {X:Cx}{CX:CXT}{k:Nat}{f C:AI}{fd:BG}{ps ks:List AQ}{sp:Sp}{E:XK}{x m:AQ}{p pos apos kpos:CW}{e o:AT}{es:List AT}{kws:List C3}{te ta:TE}{t tk:TA}{nm:Option AQ}
theorem ydi:PK X [] ydC:=λ_ _ _ _ H Q I h=>wpAny_evalAll_nil ⟨[],H,I,.nil,h⟩
theorem zlL(ha:PE X e te)(hr:PK X kws t):PK X (⟨nm,e,kpos⟩ :: kws) (ydh te t):=by
 intro pos pins s σ H Q I h;show A2 _ _ (evalAll ((do let v <-eval e X.env;standAt pos;pure v)::(backToKw pos (keywordEach kws X.env)).map (·.2))) _ _ s;refine wpAny_evalAll_cons (AH (thn (ha pins s σ H _ I h) λu s1 kq=>?_));let⟨x,H1,I1,r1,q1⟩:=kq;refine AH (Ed (AU ?_));exact thn (hr pos pins s1 σ H1 _ I1 q1) λus s2 ⟨xs,H2,I2,r2,q2⟩=>⟨x::xs,H2,I2,.cons r1 r2,q2⟩
structure ybO(K:AE)(fd:BG)(ps ks:List AQ)(g:List AF->List AF->List AF)(gV:List V->List V->List V):Prop where
 to:∀(s:AJ) (us ws:List AF),K.In s.heap->(g us ws).length=ps.length->F8 s fd ⟨us,ks.zip ws⟩ (ps.zip (g us ws))
 rel:∀{vs:List V} {us:List AF} {zs:List V} {ws:List AF},Vals vs us->Vals zs ws->Vals (gV vs zs) (g us ws)
variable {g:List AF->List AF->List AF}{gV:List V->List V->List V}
end
structure ybh(N P:List AQ)(sc:Bl):Prop where
 kind:sc.kind=.function
 co:sc.isCoroutine=AB
 gen:sc.isGenerator=AB
 nd:N.Nodup
 pre:N.take P.length=P
 par:∀x∈P,sc.names.lookup x=AA .local \/ sc.names.lookup x=AA .cell
 nofree:∀y∈sc.names,y.2 ≠ .free
theorem zeO{kindOf:AQ->Option DR}{x:AQ}:∀{binds:List (AQ×AF)} {m:AQ->Option AF},(∀v,(x,v)∉binds)->bindL kindOf binds m x=m x
 |[],_,_=>rfl
 |(n,v)::r,m,h=>by
  unfold bindL;rw[zeO λw hw=>h w (AR _ hw)];split
  .have:x≠n:=by rintro rfl;exact h v An
   simp[this]
  .rfl
theorem zeC{kindOf:AQ->Option DR}{x:AQ}:∀{binds:List (AQ×AF)} {m:AQ->Option AF},(∀v,(x,v)∉binds)->bindC kindOf binds m x=m x
 |[],_,_=>rfl
 |(n,v)::r,m,h=>by
  unfold bindC;rw[zeC λw hw=>h w (AR _ hw)];split
  .rfl
  .have:x≠n:=by rintro rfl;exact h v An
   simp[this]
theorem zeU{kindOf:AQ->Option DR}{x:AQ}{v:AF}:∀{P:List AQ} {vs:List AF} {i:Nat} {m:AQ->Option AF},P.Nodup->P[i]?=AA x->vs[i]?=AA v->kindOf x=AA .local ->
  bindL kindOf (P.zip vs) m x=AA v
 |[],_,_,_,_,h,_,_=>by simp at h
 |_::_,[],_,_,_,_,h,_=>by simp at h
 |p::P,w::vs,0,m,nd,h1,h2,hk=>by
  simp at h1 h2;subst h1;subst h2;show bindL kindOf ((p,w)::P.zip vs) m p=_;unfold bindL;rw[zeO λv hv=>(Dw.mp nd).1 (FN hv).1,if_pos hk];simp
 |p::P,w::vs,i+1,m,nd,h1,h2,hk=>by
  show bindL kindOf ((p,w)::P.zip vs) m x=_;unfold bindL;exact zeU (i:=i) (Dw.mp nd).2 (by simpa using h1) (by simpa using h2) hk
theorem zfd{kindOf:AQ->Option DR}{x:AQ}{v:AF}:∀{P:List AQ} {vs:List AF} {i:Nat} {m:AQ->Option AF},P.Nodup->P[i]?=AA x->vs[i]?=AA v->kindOf x≠AA .local ->
  bindC kindOf (P.zip vs) m x=AA v
 |[],_,_,_,_,h,_,_=>by simp at h
 |_::_,[],_,_,_,_,h,_=>by simp at h
 |p::P,w::vs,0,m,nd,h1,h2,hk=>by
  simp at h1 h2;subst h1;subst h2;show bindC kindOf ((p,w)::P.zip vs) m p=_;unfold bindC;rw[zeC λv hv=>(Dw.mp nd).1 (FN hv).1,if_neg hk];simp
 |p::P,w::vs,i+1,m,nd,h1,h2,hk=>by
  show bindC kindOf ((p,w)::P.zip vs) m x=_;unfold bindC;exact zfd (i:=i) (Dw.mp nd).2 (by simpa using h1) (by simpa using h2) hk
def start(N:List AQ)(vs:List V):St:=vs.map AA++AV (N.length-vs.length) AD
def ya4(CX:CXT)(P:A9)(w:Al)(K:AE)(mg:AQ->Option AF)(base:BF)(N:List AQ)(qual:AQ)(scope:Bl)(f:AI)(cd:AF)(A:Ax)(outer:List Env)(s:AJ)(H:Hp)(E:XK):Cx where
 prog:=P
 w:=w
 K:=K
 mg:=mg
 base:=base
 A:=A.deeper (envOfC qual scope s.heap.objs.size f cd)
 N:=N
 s₀:=s
 H₀:=H
 env:=envOfC qual scope s.heap.objs.size f cd
 outer:=outer
 stack:=envOfC qual scope s.heap.objs.size f cd::outer
 ex:=[]
 calm:=AC
 fn:=λ_=>AC
 pn:=[]
 xe:=λe s'=>A2 (model P w) (A.deeper (envOfC qual scope s.heap.objs.size f cd)) (leaving (envOfC qual scope s.heap.objs.size f cd) e) (λ_ s''=>CX outer H s E e s'') (λe' s''=>CX outer H s E e' s'') s'
theorem zf3{sc:Bl}{n:Nat}{x:AQ}(h:sc.names.lookup x=AA .cell):∃c,(cellsFrom n sc.names []).lookup x=AA c:=by
 have q:=FA sc.names n [] (.inl h);exact BA.mp q
theorem zhg{CX:CXT}{P:A9}{w:Al}{K:AE}{mg:AQ->Option AF}{base:BF}{N ps:List AQ}{qual:AQ}{scope:Bl}{f:AI}{cd:AF}{A:Ax}{outer:List Env}{s s1:AJ}{H:Hp}{E:XK}{us:List AF}{vs:List V}
  (S:ybh N ps scope) (hd:A.handled=AD) (e0:ycU P w K mg base A outer s H) (hl:vs.length=ps.length) (r:Vals vs us)
  (x:InCallC s s.heap.objs.size (bindL (envOfC qual scope s.heap.objs.size f cd).kindOf (ps.zip us) λ_=>AD) (cellsFrom (s.heap.objs.size+1) scope.names []) (bindC (envOfC qual scope s.heap.objs.size f cd).kindOf (ps.zip us) λ_=>AD) s1):
  Inv (ya4 CX P w K mg base N qual scope f cd A outer s H E) [] (start N vs) H s1:=by
 have hpl:ps.length<=N.length:=by have:=congrArg C9 S.pre;rw[Ek]at this;lia
 let⟨h1,tk,rfl,hk⟩:=x.done;have noA:∀b:AI,b∉(ya4 CX P w K mg base N qual scope f cd A outer s H E).ex:=λb z=>absurd (show b∈([]:List AI)from z) (by simp);refine⟨⟨e0.mod,S.kind,rfl,rfl,AS _,λy z c h1 h2=>?_,λy hy=>?_,λy c _ h=>?_,λ_=>hd,Around.frames_deeper e0.frames,.inr ⟨rfl,rfl⟩,λb z=>absurd z (noA b),e0.bs,e0.bsz,λb _ _=>noA b,λb z=>absurd z (noA b),e0.funs,e0.frf⟩,
  rfl,e0.bare,Un.kept hk,⟨_,x.toInCall.ns,λi y v h1 h2 h3=>?_⟩,λy c h=>⟨_,x.cell y c h⟩,e0.hok.fresh (AS _),λy c h=>?_,λp hp=>absurd (show p∈([]:List (AI×CC))from hp) (by simp),e0.hok.kept hk,?_⟩
 .exact name_of_addr x.apart (C4 h1) (C4 h2)
 .have hy:scope.names.lookup y=AA .cell \/ scope.names.lookup y=AA .free:=hy;rcases hy with hy|hy
  .exact zf3 hy
  .exact absurd rfl (S.nofree _ (C4 hy))
 .exact Ex (x.above y c (C4 h))
 .have hi:i<vs.length:=by
   unfold start at h2
   by_cases hi:i<vs.length
   .exact hi
   .rw[As (by simpa using hi)]at h2;rw[El]at h2;split at h2<;>cases h2
  have ha:vs[i]?=AA v:=by
   unfold start at h2;rw[Aj (by simpa using hi),CA]at h2
   cases e:vs[i]? with
   |none=>rw[e]at h2;cases h2
   |some a=>rw[e]at h2;cases h2;rfl
  let⟨u,hu,rv⟩:=r.get ha;have hp:ps[i]?=AA y:=by
   rw[<-S.pre,List.getElem?_take_of_lt (by lia)];exact h1
  have ndP:ps.Nodup:=by rw[<-S.pre];exact S.nd.sublist (List.take_sublist _ _)
  refine⟨u,rv,?_⟩;rcases S.par y (A3 hp)with k|k
  .exact .inl ⟨k,zeU ndP hp hu k⟩
  .let⟨c,e⟩:=zf3 (n:=s.heap.objs.size+1) k;refine .inr ⟨.inl k,c,e,?_⟩;have q:=x.cell y c e;rw[zfd ndP hp hu (by show scope.names.lookup y≠_;rw[k];decide)]at q;exact q
 .exact e0.hok.fresh (Ex (x.above y c (C4 h)))
 .unfold start;show _=N.length;rw[Af,Av,List.length_replicate];lia
theorem zpu{CX:CXT}{P:A9}{w:Al}{K:AE}{mg:AQ->Option AF}{base:BF}{k:Nat}{f:AI}{name qual:AQ}{params:Arguments}{body:List Bz}{scope:Bl}{dV kV doc pm cdv ct oc:AF}{an od:Option AI}
  {osl:Array (Option AF)} {N ps:List AQ} {sp:Sp} (lk:K.lookup f=AA ⟨oc,od,.func (B6 name qual params body scope dV kV doc pm an cdv ct),osl⟩) (hcd:CP K cdv qual=AC) (S:ybh N ps scope)
  (len:∀vs H Q E,sp vs H Q E->vs.length=ps.length)
  (hbody:∀(A:Ax) (outer:List Env) (s:AJ) (H:Hp) (vs:List V) (Q:VK) (E:XK),yaz k (A.deeper (envOfC qual scope s.heap.objs.size f cdv))->sp vs H Q E ->
   ∃t,PSs (ya4 CX P w K mg base N qual scope f cdv A outer s H E) body t/\t {nx:=λ_ H'=>Q .non H',rt:=Q} (start N vs) H):
  yaP P w K mg base CX (k+1) f (B6 name qual params body scope dV kV doc pm an cdv ct) ps sp:=by
 refine⟨len,λA outer s H args us vs Q E hr e0 hb r hsp=>?_⟩;have hl:=len _ _ _ _ hsp;have KX:K.In s.heap:=e0.mod.kin.keeps λb o e=>(e0.bs b o e).1;have lim:s.heap.NoLimit:=e0.mod.nolimit.keeps λb o e=>(e0.bs b o e).1;have hkind:∀y∈ps.zip us,scope.names.lookup y.1=AA .local \/ (scope.names.lookup y.1=AA .cell/\((cellsFrom (s.heap.objs.size+1) scope.names []).lookup y.1).isSome=AC):=λ⟨n,v⟩ hy=>by
  rcases S.par n (FN hy).1 with q|q
  .exact .inl q
  .exact .inr ⟨q,FA _ _ _ (.inl q)⟩
 refine codeAny_call_function hr.depth (KX _ _ lk) rfl S.co S.gen rfl (PySem.W.codeRec_of KX hcd) (hb _ _ _ _ ?_);refine wpAny_newFunctionEnv_cells S.kind hkind λenv he s1 x=>?_;subst he;refine⟨lim.keeps x.toInCall.keep,codeAny_func ?_⟩;let⟨t,ht,hq⟩:=hbody A outer s H vs Q E (hr.deeper _) hsp;have I:Inv (ya4 CX P w K mg base N qual scope f cdv A outer s H E) [] (start N vs) H s1:=zhg S hr.hd e0 hl r x;refine C0 (ht [] s1 (start N vs) H _ I hq) (λfl s' hs=>?_) λe s' hs=>hs;have fin:∀{σ':St} {H':Hp} {v:V} {u:AF},Inv (ya4 CX P w K mg base N qual scope f cdv A outer s H E) [] σ' H' s'->RelV v u->Q v H'->CE outer P w H s Q u s':=
  λ{σ' H' v u} J rv q=>⟨v,H',J.os,J.bare,J.base,J.hok,rv,q⟩
 cases fl with
 |ret u=>
  let⟨v,σ',H',J,rv,q⟩:=hs;exact fin J rv q
 |next=>
  let⟨σ',H',J,q⟩:=hs;exact fin (v:=V.non) (u:=CO) J rfl q
 |brk=>
  let⟨_,_,_,q⟩:=hs;exact Bn q
 |cont=>
  let⟨_,_,_,q⟩:=hs;exact Bn q
section
variable {X:Cx}{x:AQ}{p pos:CW}{e:AT}{es:List AT}{t:TA}{id T:String}{r:List V->Hp->VK->Prop}
def tCB(r:List V->Hp->VK->Prop)(t:TA):TE:=λσ H Q=>t σ H λvs H1=>r vs H1 Q
theorem zfP(hc:yat X (.builtin id) r)(hg:Gl X x)(hm:X.mg x=AD)(hv:bootBuiltins x=AA (.builtin id))(ha:PA X (e::es) t)(hn:x ≠ "__name__":=by decide)(hdb:(x==("__debug__":AQ))=false:=by decide)
  (he:starEach (e::es) X.env=(AB,eval e X.env)::starEach es X.env:=by rfl) (hpl:(backTo pos (starEach es X.env)).any (·.1)=false:=by rfl):PE X (.Call (.Name x p) (e::es) [] pos) (tCB r t):=by
 intro pins s σ H Q I h;refine B2 (zdN I hg hm hv ?_ hn hdb);exact G1 (thn (ha pos pins s σ H _ I h) λus s1 ⟨vs,H1,I1,r1,q1⟩=>hc pins s1 σ H1 vs us Q I1 r1 q1) he hpl
theorem zhh(hc:yat X (.type T) r)(hg:Gl X x)(hm:X.mg x=AD)(hv:bootBuiltins x=AA (.type T))(ha:PA X (e::es) t)(hn:x ≠ "__name__":=by decide)(hdb:(x==("__debug__":AQ))=false:=by decide)
  (he:starEach (e::es) X.env=(AB,eval e X.env)::starEach es X.env:=by rfl) (hpl:(backTo pos (starEach es X.env)).any (·.1)=false:=by rfl):PE X (.Call (.Name x p) (e::es) [] pos) (tCB r t):=by
 intro pins s σ H Q I h;refine B2 (zdN I hg hm hv ?_ hn hdb);exact CJ (thn (ha pos pins s σ H _ I h) λus s1 ⟨vs,H1,I1,r1,q1⟩=>hc pins s1 σ H1 vs us Q I1 r1 q1) he hpl
end
end L2
namespace HT
open PySem PyProof.Rows
section
open PySem.SeqAt
open PySem.AutoSeq1 (wpAny_loadPart')
open PySem.MeetsSeq PySem.MeetsSeq2 PySem.MeetsSeq3
end
section
variable {prog:A9}{w:Al}{A:Ax}{E:AF->AJ->Prop}{s:AJ}
theorem cat_tup{t b:AI}{vs ws:List AF}{Q:AF->AJ->Prop}(ht:HN s.heap t vs.toArray)(hb:HN s.heap b ws.toArray)(hv:vs≠[])
  (h1:ws=[]->Q (.ref t) s) (h2:ws≠[]->Q (.ref s.heap.objs.size) {s with heap:=s.heap.push {cls:=.type "tuple",data:=.seq (vs++ws).toArray} })
  (hsz:vs.length+ws.length<=sizeLine):A2 (model prog w) A (binaryOp .Add (.ref t) (.ref b)) Q E s:=by
 let⟨⟨cls,dd,data,sl⟩,ho,hc,n,hd⟩:=id ht;let⟨⟨cls2,dd2,data2,sl2⟩,ho2,hc2,n2,hd2⟩:=id hb;simp only at hc hd hc2 hd2;subst hc hd hc2 hd2;have e:vs.toArray++ws.toArray=(vs++ws).toArray:=by simp
 by_cases hw:ws=[]
 .exact GG ⟨_,ho,rfl⟩ ⟨_,ho2,rfl⟩ Em Fh DS DO (DB _ _)
   (tuple_addW1 t b vs.toArray ws.toArray n n2 dd dd2 sl sl2 (by simpa using hv) (by simp[hw])) ⟨ho,ho2,h1 hw⟩
 .refine GG ⟨_,ho,rfl⟩ ⟨_,ho2,rfl⟩ Em Fh DS DO (DB _ _)
   (tuple_addW2 t b vs.toArray ws.toArray n n2 dd dd2 sl sl2 (by simpa using hv) (by simpa using hw) (by rw[AY,AY];exact hsz)) ⟨ho,ho2,?_⟩
  rw[e];exact h2 hw
def sIx(n d:Nat):Option Int->Nat
 |none=>d
 |some v=>if v<0 then(v+(n:Int)).toNat else min v.toNat n
theorem sIx_le(n d:Nat)(hd:d<=n)(o:Option Int):sIx n d o<=n:=by
 cases o with
 |none=>exact hd
 |some v=>
  show (if v<0 then(v+(n:Int)).toNat else min v.toNat n)<=n
  by_cases hv:v<0
  .rw[if_pos hv];lia
  .rw[if_neg hv];exact Nat.min_le_right _ _
theorem ziB(v:Int)(n d:Nat):(if v<0 then max (v+(n:Int)) 0 else min v (n:Int))=((sIx n d (AA v):Nat):Int):=by
 show (if v<0 then max (v+(n:Int)) 0 else min v (n:Int))=(((if v<0 then(v+(n:Int)).toNat else min v.toNat n):Nat):Int)
 by_cases hv:v<0
 .simp only[if_pos hv];lia
 .simp only[if_neg hv];lia
theorem zgF(lo hi:Option Int)(n:Nat):Cw lo hi 1 (n:Int)=(((sIx n 0 lo:Nat):Int),((sIx n n hi:Nat):Int)):=by
 have h1:¬((1:Int)<0):=by lia
 unfold Cw;erw[h1,if_false];refine Prod.ext ?_ ?_
 .cases lo with
  |none=>rfl
  |some v=>exact ziB v n 0
 .cases hi with
  |none=>rfl
  |some v=>exact ziB v n n
theorem zgT(i j:Nat):CU (i:Int) (j:Int) 1=j-i:=by
 unfold CU;have h1:(1:Int) > 0:=by lia
 erw[h1,if_true,GH];split<;>lia
theorem zdO{v:AF}{o:Option Int}{Q:Option Int->AJ->Prop}(p:FB v o)(h:Q o s):A2 (model prog w) A (Gn v) Q E s:=by
 cases p with
 |none=>exact slicePart_none h
 |int i t=>exact slicePart_int h
theorem sliceApplied_gen{sl:AI}{vl vu:AF}{lo hi:Option Int}{n:Nat}{Q:Int×Int×Nat->AJ->Prop}(hs:s.heap.IsSliceOf sl vl vu .none)(pl:FB vl lo)(pu:FB vu hi)
  (h:Q (((sIx n 0 lo:Nat):Int),1,sIx n n hi-sIx n 0 lo) s):A2 (model prog w) A (EN (.ref sl) (pure (n:Int))) Q E s:=by
 let⟨os,hos,hcs,hds⟩:=id hs;unfold EN HG;refine AH (AH (BX hos hds (x:=vl) rfl (AH (BX hos hds (x:=vu) rfl (AH (BX hos hds (x:=.none) rfl (AU ?_)))))));refine AH (slicePart_none ?_);show A2 _ _ (if ((1:Int)==0)=AC then _ else _) _ _ s;rw[if_neg (by decide)];refine AH (zdO pl (AH (zdO pu (AH (AU ?_)))));show A2 _ _ (match Cw lo hi 1 (n:Int)with|(lo,hi)=>pure (lo,(1:Int),CU lo hi 1)) _ _ s;rw[zgF lo hi n];show A2 _ _ (pure (((sIx n 0 lo:Nat):Int),(1:Int),CU ((sIx n 0 lo:Nat):Int) ((sIx n n hi:Nat):Int) 1)) _ _ s;rw[zgT];exact AU h
theorem zkl(xs:Array AF)(i k:Nat):((EF k).filterMap λ(m:Nat)=>xs[((i:Int)+(m:Int)*1).toNat]?).toArray=((xs.toList.drop i).take k).toArray:=by
 have e:(λ(m:Nat)=>xs[((i:Int)+(m:Int)*1).toNat]?)=λm=>xs[i+m]?:=by
  funext m
  have:((i:Int)+(m:Int)*1).toNat=i+m:=by lia
  rw[this]
 rw[e];have:=pick_run xs i k;rw[List.filterMap_map]at this;have e2:((λx=>xs[x]?) ∘ λx=>i+x)=λm=>xs[i+m]?:=rfl;rw[e2]at this;rw[this]
theorem getItem_tuple_cut{t sl:AI}{items:Array AF}{vl vu:AF}{lo hi:Option Int}{Q:AF->AJ->Prop}(ht:HN s.heap t items)(hs:s.heap.IsSliceOf sl vl vu .none)(pl:FB vl lo)(pu:FB vu hi)
  (hw:¬(sIx items.size 0 lo=0/\sIx items.size items.size hi=items.size))
  (h:Q (.ref s.heap.objs.size) {s with heap:=s.heap.push {cls:=.type "tuple",data:=.seq ((items.toList.drop (sIx items.size 0 lo)).take (sIx items.size items.size hi-sIx items.size 0 lo)).toArray} })
  (hsz:items.size<=sizeLine):A2 (model prog w) A (getItem (.ref t) (.ref sl)) Q E s:=by
 have htake:sizeOk (.seq ((items.toList.drop (sIx items.size 0 lo)).take (sIx items.size items.size hi-sIx items.size 0 lo)).toArray):=by
  show ((items.toList.drop (sIx items.size 0 lo)).take (sIx items.size items.size hi-sIx items.size 0 lo)).toArray.size<=sizeLine;rw[AY,Ek,G2,CG];lia
 have hj:sIx items.size items.size hi<=items.size:=sIx_le _ _ (AS _) hi;let⟨os,hos,hcs,hds⟩:=id hs;have hTs:s.TypeIs (.ref sl) "slice":=⟨os,hos,hcs⟩;unfold getItem
 try with_reducible refine Dl ?_
 first|refine AH (AU ?_)|skip
 refine AH (GI ht.typeIs (by decide) ?_);refine AH (Bi (name:=AG "__getitem__") ht.typeIs BL
  (C5 BL ht.typeIs Fc ?_ (Ft _ _)))
 show A2 _ _ (EO (.ref t) >>= _) _ _ s;refine AH (D7 ht ?_);refine AH (GJ hTs ?_);rw[if_pos (by decide)];refine AH (sliceApplied_gen hs pl pu ?_);have hno:¬((((sIx items.size 0 lo:Nat):Int)==0&&(1:Int)==1&&(sIx items.size items.size hi-sIx items.size 0 lo)==items.size)=AC):=by
  intro q;rw[AK,AK]at q;have q1:((sIx items.size 0 lo:Nat):Int)=0:=eq_of_beq q.1.1;have q2:sIx items.size items.size hi-sIx items.size 0 lo=items.size:=eq_of_beq q.2;exact hw ⟨by lia,by lia⟩
 show A2 _ _ (if (((sIx items.size 0 lo:Nat):Int)==0&&(1:Int)==1&&(sIx items.size items.size hi-sIx items.size 0 lo)==items.size)=AC then _ else _) _ _ s;rw[if_neg hno,zkl]
 first
  |exact AH (m:=Bs _) (Ba (AU ⟨_,rfl,AU h⟩) htake)
  |exact AH (m:=Bs _) (Ba (AH (AU (AU ⟨_,rfl,AU h⟩))) htake)
  |exact AH (AH (m:=Bs _) (Ba (AU (AU ⟨_,rfl,AU h⟩)) htake))
  |exact AH (AH (m:=Bs _) (Ba (AU ⟨_,rfl,AU h⟩) htake))
end
end HT
namespace L2
open PySem PySem.Spec PyProof.Rows
abbrev TO:=St->Hp->(Option Int->Hp->Prop)->Prop
def PO(X:Cx)(e:Option AT)(t:TO):Prop:=
 ∀(pins:List (AI×CC)) (s:AJ) (σ:St) (H:Hp) (Q:Option Int->Hp->Prop),Inv X pins σ H s->t σ H Q ->
  A2 (model X.prog X.w) X.A (evalPart e X.env) (λu s'=>∃o H',Inv X pins σ H' s'/\FB u o/\Q o H') X.xe s
def ycH:TO:=λ_ H Q=>Q AD H
theorem zdF{ns:List Int}:∀{us:List AF},Vals (ns.map V.int) us->FC us ns:=by
 induction ns with
 |nil=>intro us r;rw[Ad]at r;cases r;exact .nil
 |cons n ns ih=>
  intro us r;rw[AL]at r
  cases r with
  |cons r1 r2=>
   let⟨t,e⟩:=r1;subst e;exact .cons n t (ih r2)
section
variable {X:Cx}{e:AT}{te:TE}{lo hi:Option AT}{tl th:TO}{pos p2:CW}
theorem zmp:PO X AD ycH:=by
 intro pins s σ H Q I h;rw[evalPart_none];exact AU ⟨AD,H,I,.none,h⟩
def SlR(X:Cx)(r:V->Option Int->Option Int->Hp->VK->Prop):Prop:=
 ∀(pins:List (AI×CC)) (s:AJ) (σ:St) (H:Hp) (x:V) (v vl vu:AF) (lo hi:Option Int) (sl:AI) (Q:VK),Inv X pins σ H s->RelV x v->s.heap.IsSliceOf sl vl vu .none->FB vl lo->FB vu hi->r x lo hi H Q ->
  ∃T id,typeLookup (.type T) "__getitem__"=pure (AA (.builtin id))/\s.TypeIs v T/\A2 (model X.prog X.w) X.A (getItem v (.ref sl)) (EP X pins σ Q) X.xe s
def tSl(r:V->Option Int->Option Int->Hp->VK->Prop)(te:TE)(tl th:TO):TE:=λσ H Q=>te σ H λx H1=>tl σ H1 λl H2=>th σ H2 λu H3=>r x l u H3 Q
theorem zjK{r:V->Option Int->Option Int->Hp->VK->Prop}(hr:SlR X r)(he:PE X e te)(hl:PO X lo tl)(hu:PO X hi th):PE X (.Subscript e (.Slice lo hi AD p2) pos) (tSl r te tl th):=by
 intro pins s σ H Q I h;refine HA (thn (he pins s σ H _ I h) λv s1 kq=>?_);let⟨x,H1,I1,r1,q1⟩:=kq;refine wpAny_Slice (thn (hl pins s1 σ H1 _ I1 q1) λvl s2 kq=>?_);let⟨l,H2,I2,pl,q2⟩:=kq;refine thn (hu pins s2 σ H2 _ I2 q2) λvu s3 kq=>?_;let⟨u,H3,I3,pu,q3⟩:=kq;rw[evalPart_none];refine AU ?_;have I4:Inv X pins σ H3 {s3 with heap:=s3.heap.push {cls:=.type "slice",data:=.fields #[vl,vu,.none]} }:=I3.kept (t':=s3.toks) λb ob q=>AO _ q;let⟨T,id,hT,ht,hg⟩:=hr pins {s3 with heap:=s3.heap.push {cls:=.type "slice",data:=.fields #[vl,vu,.none]} } σ H3 x v vl vu l u s3.heap.objs.size Q I4 r1 (Hm ..) pl pu q3;show A2 (model X.prog X.w) X.A (subscriptTail e (.Slice lo hi AD p2) v (.ref s3.heap.objs.size)) (EP X pins σ Q) X.xe {s3 with heap:=s3.heap.push {cls:=.type "slice",data:=.fields #[vl,vu,.none]} };exact tail_any (ops:=[.ref s3.heap.objs.size,v]) ht hT hg (by ac_rfl)
def ycy(xs:List V)(lo hi:Option Int):List V:=(xs.drop (HT.sIx xs.length 0 lo)).take (HT.sIx xs.length xs.length hi-HT.sIx xs.length 0 lo)
theorem zcQ(xs:List V)(lo hi:Option Int):(ycy xs lo hi).length<=xs.length:=by
 unfold ycy;rw[Ek,G2];lia
def ygR(K:AE):V->Option Int->Option Int->Hp->VK->Prop:=λx lo hi H Q=>∃a xs,x=.ref a/\SqT K H a xs /\
 ¬(HT.sIx xs.length 0 lo=0/\HT.sIx xs.length xs.length hi=xs.length)/\∀p,H p=AD->Q (.ref p) (upd H p (.tup (ycy xs lo hi)))
theorem znR:SlR X (ygR X.K):=by
 intro pins s σ H x v vl vu lo hi sl Q I rx hs pl pu h;let⟨a,xs,rfl,hx,hw,q⟩:=h
 cases rx
 let⟨its,r,ht,hz⟩:=I.tuple hx;have hlen:its.toArray.size=xs.length:=by rw[AY];exact r.length.symm
 refine⟨"tuple",_,BL.lookup,ht.typeIs,?_⟩;refine HT.getItem_tuple_cut ht hs pl pu (by rw[hlen];exact hw) ?_ (by rw[hlen];exact hz);rw[hlen];refine⟨.ref s.heap.objs.size,_,I.laid (t':=s.toks) (o:=.tup (ycy xs lo hi)) (λb ob q=>AO _ q) (AS _) ?_,rfl,q _ (I.hok.fresh (AS _))⟩;exact⟨BU (zcQ xs lo hi) hz,_,(r.drop (HT.sIx xs.length 0 lo)).take (HT.sIx xs.length xs.length hi-HT.sIx xs.length 0 lo),F7 _ _⟩
def yej(K:AE):R2:=λx y H Q=>∃a b xs ys,x=.ref a/\y=.ref b/\SqT K H a xs/\SqT K H b ys/\xs≠[]/\xs.length+ys.length<=sizeLine /\
 (ys=[]->Q (.ref a) H)/\(ys≠[]->∀p,H p=AD->Q (.ref p) (upd H p (.tup (xs++ys))))
theorem Vals.nil_iff{xs:List V}{us:List AF}(r:Vals xs us):us=[] ↔ xs=[]:=by
 cases r with
 |nil=>simp
 |cons _ _=>simp
theorem zlz:OpR X (binaryOp .Add) (yej X.K):=by
 intro pins s σ H x y v u Q I rx ry h;let⟨a,b,xs,ys,rfl,rfl,ha,hb,hx,hz,q1,q2⟩:=h
 cases rx
 cases ry
 let⟨its,r1,p1,_⟩:=I.tuple ha;let⟨its2,r2,p2,_⟩:=I.tuple hb;refine HT.cat_tup p1 p2 (λz=>hx (r1.nil_iff.mp z)) (λz=>⟨.ref a,H,I,rfl,q1 (r2.nil_iff.mp z)⟩) (λz=>?_) (by rw[<-r1.length,<-r2.length];exact hz);refine⟨.ref s.heap.objs.size,_,I.laid (t':=s.toks) (o:=.tup (xs++ys)) (λb ob q=>AO _ q) (AS _) ?_,rfl,q2 (λw=>z (r2.nil_iff.mpr w)) _ (I.hok.fresh (AS _))⟩;exact⟨by rw[Af];exact hz,_,r1.append r2,F7 _ _⟩
end
def ixN(n:Nat)(i:Int):Option Nat:=if 0<=i then(if i<n then AA i.toNat else AD)else if -(n:Int)<=i then AA (i+n).toNat else AD
def atI{α:Type}(xs:List α)(i:Int):Option α:=(ixN xs.length i).bind λj=>xs[j]?
theorem zhx{n:Nat}{i:Int}{j:Nat}(h:ixN n i=AA j):seqIndex? i n=AA j/\j<n/\-(n:Int)<=i/\i<n:=by
 unfold ixN at h
 by_cases h0:0<=i
 .rw[if_pos h0]at h
  by_cases h1:i<n
  .rw[if_pos h1]at h;have e:i.toNat=j:=AW h;exact⟨by rw[Gh h0 h1,e],by lia,by lia,h1⟩
  .rw[if_neg h1]at h;cases h
 .rw[if_neg h0]at h
  by_cases h1:-(n:Int)<=i
  .rw[if_pos h1]at h;have e:(i+n).toNat=j:=AW h;exact⟨by rw[seqIndex_neg (by lia) h1,e],by lia,h1,by lia⟩
  .rw[if_neg h1]at h;cases h
theorem zfL{α:Type}{xs:List α}{i:Int}{v:α}(h:atI xs i=AA v):∃j,seqIndex? i xs.length=AA j/\xs[j]?=AA v/\j<xs.length/\-(xs.length:Int)<=i/\i<xs.length:=by
 unfold atI at h
 cases e:ixN xs.length i with
 |none=>rw[e]at h;cases h
 |some j=>
  rw[e]at h;let⟨h1,h2,h3,h4⟩:=zhx e;exact⟨j,h1,h,h2,h3,h4⟩
def ybC(b:AT):Prop:=∀o i,subscripted b AB o i=operate [o,i] (getItem o i)
def IxR(X:Cx)(r:R2):Prop:=
 ∀(value slice:AT) (pins:List (AI×CC)) (s:AJ) (σ:St) (H:Hp) (x y:V) (v u:AF) (Q:VK),Inv X pins σ H s->RelV x v->RelV y u->r x y H Q ->
  subscripted slice AB v u=operate [v,u] (getItem v u)->A2 (model X.prog X.w) X.A (subscriptTail value slice v u) (EP X pins σ Q) X.xe s
def MtR(X:Cx)(id:String)(r:V->List V->Hp->VK->Prop):Prop:=
 ∀(pins:List (AI×CC)) (s:AJ) (σ:St) (H:Hp) (x:V) (xs:List V) (v:AF) (us:List AF) (Q:VK),Inv X pins σ H s->RelV x v->Vals xs us->r x xs H Q ->
  A2 (model X.prog X.w) X.A (call (.builtin id) (v::us)) (EP X pins σ Q) X.xe s
section
variable {X:Cx}{a b:AT}{ta tb:TE}{pos:CW}
theorem IxR.or{r r':R2}(h:IxR X r)(h':IxR X r'):IxR X (λx y H Q=>r x y H Q \/ r' x y H Q):=by
 intro value slice pins s σ H x y v u Q I rx ry q hs;rcases q with q|q
 .exact h value slice pins s σ H x y v u Q I rx ry q hs
 .exact h' value slice pins s σ H x y v u Q I rx ry q hs
theorem zp0{r:R2}(hr:IxR X r)(ha:PE X a ta)(hb:PE X b tb)(hs:ybC b):PE X (.Subscript a b pos) (tOp r ta tb):=by
 intro pins s σ H Q I h;exact HA (yeE ha hb I h λv u s2 x y H2 I2 rx ry q=>hr a b pins s2 σ H2 x y v u Q I2 rx ry q (hs _ _))
def yfn(K:AE):R2:=λx y H Q=>∃p xs i v,x=.ref p/\y=.int i/\SqL K H p xs/\atI xs i=AA v/\Q v H
def yfe(K:AE):R2:=λx y H Q=>∃p xs i v,x=.ref p/\y=.int i/\SqT K H p xs/\atI xs i=AA v/\Q v H
def yfv:R2:=λx y H Q=>∃z i c,x=.str z/\y=.int i/\z.length<=sizeLine/\atI z.cps.toList i=AA c/\Q (.str ⟨#[c]⟩) H
theorem ycP:IxR X (yfn X.K):=by
 intro value slice pins s σ H x y v u Q I rx ry h hs;let⟨p,xs,i,z,rfl,rfl,hq,he,q⟩:=h
 cases rx
 let⟨t,rfl⟩:=ry;let⟨its,r,pl,hz⟩:=I.list hq;let⟨j,h1,h2,h3,h4,h5⟩:=zfL he;let⟨w,ew,rw'⟩:=r.get h2;have hl:=r.length;have hn:=yaW;have fin:EP X pins σ Q w s:=⟨z,H,I,rw',q⟩
 by_cases h0:0<=i
 .have hj:i.toNat=j:=by
   rw[Gh h0 h5]at h1;exact AW h1
  exact item_listR pl.isList h0 (by lia) (by rw[hj];simpa using ew) fin hs
 .have hj:(i+(its.toArray.size:Int)).toNat=j:=by
   rw[seqIndex_neg (by lia) h4]at h1;rw[AY,<-hl];exact AW h1
  exact FD (x:=w) pl.isList.typeIs GL.lookup
   (wpAny_getItem_list_neg (Q:=λr s'=>r=w/\EP X pins σ Q r s') pl.isList (by lia) (by rw[AY]<;>lia) (by lia) (by rw[hj];simpa using ew) ⟨rfl,fin⟩) hs
theorem ydD:IxR X (yfe X.K):=by
 intro value slice pins s σ H x y v u Q I rx ry h hs;let⟨p,xs,i,z,rfl,rfl,hq,he,q⟩:=h
 cases rx
 let⟨t,rfl⟩:=ry;let⟨its,r,pl,hz⟩:=I.tuple hq;let⟨j,h1,h2,h3,h4,h5⟩:=zfL he;let⟨w,ew,rw'⟩:=r.get h2;have hl:=r.length;have hn:=yaW;have fin:EP X pins σ Q w s:=⟨z,H,I,rw',q⟩;exact FD (x:=w) pl.typeIs BL.lookup
  (getItem_tuple (j:=j) (Q:=λr s'=>r=w/\EP X pins σ Q r s') pl (by lia) (by lia) (by rw[AY,<-hl];exact h1) (by simpa using ew) ⟨rfl,fin⟩) hs
theorem znV:IxR X yfv:=by
 intro value slice pins s σ H x y v u Q I rx ry h hs;let⟨z,i,c,rfl,rfl,hz,he,q⟩:=h;let⟨t,rfl⟩:=rx;let⟨t',rfl⟩:=ry;let⟨j,h1,h2,h3,h4,h5⟩:=zfL he;have hl:z.cps.toList.length=z.length:=by simp[Str.length]
 rw[hl]at h1 h4 h5;have hn:=yaW;exact tail_any (HB s z t) slot_str_getitem.lookup (getItem_str (c:=c) (by
  have e1:decide (i < -(2^63:Int))=false:=decide_eq_false (by lia);have e2:decide (i ≥ 2^63)=false:=decide_eq_false (by lia);rw[e1,e2,HK]) (by rw[h1];simpa using h2) ⟨.str ⟨#[c]⟩,H,I.tok _,⟨_,rfl⟩,q⟩) hs
def rIx(K:AE):R2:=λx y H Q=>yfn K x y H Q \/ yfe K x y H Q \/ yfv x y H Q
theorem zgb:IxR X (rIx X.K):=ycP.or (ydD.or znV)
theorem zgJ(its:List AF)(n j:Nat)(u:AF):FE (·.setIfInBounds j u) {cls:=.type "list",data:=.seq its.toArray n}={cls:=.type "list",data:=.seq (its.set j u).toArray n}:=by
 simp[FE]
theorem Inv.lst{pins:List (AI×CC)}{σ:St}{H:Hp}{s:AJ}{p:AI}{xs:List V}(I:Inv X pins σ H s)(h:H p=AA (.lst xs)):
  ∃(its:List AF) (n:Nat),Vals xs its/\s.heap.get? p=AA {cls:=.type "list",data:=.seq its.toArray n}/\xs.length<=sizeLine:=by
 let⟨z,its,n,r,e⟩:=I.hok p _ h;exact⟨its,n,r,e,z⟩
theorem Inv.lstUpd{pins:List (AI×CC)}{σ:St}{H:Hp}{s:AJ}{p:AI}{xs ys:List V}{its its':List AF}{n n':Nat}{f:CC->CC}(I:Inv X pins σ H s)(h:H p=AA (.lst xs))
  (ho:s.heap.get? p=AA {cls:=.type "list",data:=.seq its.toArray n}) (hf:f {cls:=.type "list",data:=.seq its.toArray n}={cls:=.type "list",data:=.seq its'.toArray n'}) (r:Vals ys its') (hz:ys.length<=sizeLine) (t:Nat):
  Inv X pins σ (upd H p (.lst ys)) {s with heap:=s.heap.update p f,toks:=t}:=by
 have e:(s.heap.update p f).get? p=AA {cls:=.type "list",data:=.seq its'.toArray n'}:=by
  rw[FR f ho (by rw[hf]<;>rfl),hf]
 refine I.write (x:=p) (e:=p) (by rw[h];trivial) (.inl rfl) (λb u hb q=>(DU _ _ (BJ hb)).trans q) ⟨_,e⟩ ?_;exact⟨hz,its',n',r,e⟩
def ydy:V->V->V->Hp->(Hp->Prop)->Prop:=λo i v H Q=>∃p xs k j,o=.ref p/\i=.int k/\H p=AA (.lst xs)/\ixN xs.length k=AA j/\Q (upd H p (.lst (xs.set j v)))
theorem zfZ:yfr X ydy:=by
 intro pins s σ H o i v ov iv u Q I ro ri rv h;let⟨p,xs,k,j,rfl,rfl,hp,hj,q⟩:=h
 cases ro
 let⟨t,rfl⟩:=ri;let⟨its,n,r,ho,hz⟩:=I.lst hp;let⟨h1,h2,h3,h4⟩:=zhx hj;have hl:=r.length;have hn:=yaW;have I':Inv X pins σ (upd H p (.lst (xs.set j v))) {s with heap:=s.heap.update p (FE (·.setIfInBounds j u))}:=
  I.lstUpd hp ho (zgJ its n j u) (r.set rv j) (by rw[B4];exact hz) s.toks
 by_cases h0:0<=k
 .have hk:k.toNat=j:=by
   rw[Gh h0 h4]at h1;exact AW h1
  exact PySem.W.ki_setAt ho h0 (by lia) (by rw[AY,<-hl];exact h4) (by rw[hk];exact⟨_,I',q⟩)
 .have hk:(k+(its.toArray.size:Int)).toNat=j:=by
   rw[seqIndex_neg (by lia) h3]at h1;rw[AY,<-hl];exact AW h1
  exact PySem.W.ki_setBack ho (by lia) (by rw[AY,<-hl];exact h3) (by lia) (by rw[hk];exact⟨_,I',q⟩)
theorem zez(lo hi:Option Int)(n:Nat):(sliceBounds lo hi AD n).1=((HT.sIx n 0 lo:Nat):Int)/\(sliceBounds lo hi AD n).2.1=((HT.sIx n n hi:Nat):Int)/\(sliceBounds lo hi AD n).2.2=1:=by
 refine⟨?_,?_,rfl⟩
 .cases lo with
  |none=>simp[sliceBounds,HT.sIx]
  |some i=>
   erw[sliceBounds,HT.sIx,G3,show (1:Int) > 0 by decide,if_true]
   by_cases h:i<0
   .simp only[h,if_true]<;>lia
   .simp only[h,if_false]<;>lia
 .cases hi with
  |none=>simp[sliceBounds,HT.sIx]
  |some i=>
   erw[sliceBounds,HT.sIx,G3,show (1:Int) > 0 by decide,if_true]
   by_cases h:i<0
   .simp only[h,if_true]<;>lia
   .simp only[h,if_false]<;>lia
theorem zew(its:List AF)(lo hi:Option Int):slicePick its.toArray lo hi AD=((its.drop (HT.sIx its.length 0 lo)).take (HT.sIx its.length its.length hi-HT.sIx its.length 0 lo)).toArray:=by
 let⟨h1,h2,h3⟩:=zez lo hi its.toArray.size;unfold slicePick;rw[h1,h2,h3];erw[sliceRange_one,pick_run,AY]<;>rfl
def ygE(K:AE):V->Option Int->Option Int->Hp->VK->Prop:=λx lo hi H Q=>∃a xs,x=.ref a/\SqL K H a xs/\∀p,H p=AD->Q (.ref p) (upd H p (.lst (ycy xs lo hi)))
theorem zhA:SlR X (ygE X.K):=by
 intro pins s σ H x v vl vu lo hi sl Q I rx hs pl pu h;let⟨a,xs,rfl,hx,q⟩:=h
 cases rx
 let⟨its,r,ht,hz⟩:=I.list hx;have hlen:=r.length;refine⟨"list",_,GL.lookup,ht.isList.typeIs,?_⟩;refine wpAny_getItem_list_slice ht.isList hs pl pu .none (by simp) ?_ (by rw[AY]<;>lia);rw[zew,<-hlen];refine⟨.ref s.heap.objs.size,_,I.laid (t':=s.toks) (o:=.lst (ycy xs lo hi)) (λb ob q=>AO _ q) (AS _) ?_,rfl,q _ (I.hok.fresh (AS _))⟩;exact⟨BU (zcQ xs lo hi) hz,_,0,(r.drop (HT.sIx xs.length 0 lo)).take (HT.sIx xs.length xs.length hi-HT.sIx xs.length 0 lo),A7 _ rfl⟩
def ya5:V->Bool
 |.non=>AC
 |.bl _=>AC
 |.int _=>AC
 |.str _=>AC
 |_=>AB
def eqV:V->V->Bool
 |.non,.non=>AC
 |.bl a,.bl b=>a==b
 |.bl a,.int b=>(if a then 1 else 0)==b
 |.int a,.bl b=>a==(if b then 1 else 0)
 |.int a,.int b=>a==b
 |.str a,.str b=>a==b
 |_,_=>AB
theorem znh{A:Ax}{s:AJ}{y x:V}{u v:AF}(ry:RelV y u)(rx:RelV x v)(fy:ya5 y=AC)(fx:ya5 x=AC):Hn A s u v (eqV y x):=by
 cases y with
 |non=>
  cases ry
  cases x with
  |non=>cases rx;exact SeqAt.EqAt.same _
  |bl b=>cases rx;exact SeqAt.EqAt.none_bool b
  |int b=>let⟨t,rfl⟩:=rx;exact SeqAt.EqAt.none_int b t
  |str b=>let⟨t,rfl⟩:=rx;exact SeqAt.EqAt.none_str b t
  |_=>exact absurd (show AB=AC from fx) BD
 |bl a=>
  cases ry
  cases x with
  |non=>cases rx;exact SeqAt.EqAt.bool_none a
  |bl b=>cases rx;exact SeqAt.EqAt.bool_bool a b
  |int b=>let⟨t,rfl⟩:=rx;exact SeqAt.EqAt.bool_int a b t
  |str b=>let⟨t,rfl⟩:=rx;exact SeqAt.EqAt.bool_str a b t
  |_=>exact absurd (show AB=AC from fx) BD
 |int a=>
  let⟨t',rfl⟩:=ry
  cases x with
  |non=>cases rx;exact SeqAt.EqAt.int_none a t'
  |bl b=>cases rx;exact SeqAt.EqAt.int_bool a t' b
  |int b=>let⟨t,rfl⟩:=rx;exact SeqAt.EqAt.int_int a t' b t
  |str b=>let⟨t,rfl⟩:=rx;exact Fp a t' b t
  |_=>exact absurd (show AB=AC from fx) BD
 |str a=>
  let⟨t',rfl⟩:=ry
  cases x with
  |non=>cases rx;exact SeqAt.EqAt.str_none a t'
  |bl b=>cases rx;exact SeqAt.EqAt.str_bool a t' b
  |int b=>let⟨t,rfl⟩:=rx;exact Fq a t' b t
  |str b=>let⟨t,rfl⟩:=rx;exact SeqAt.EqAt.str_str a t' b t
  |_=>exact absurd (show AB=AC from fx) BD
 |_=>exact absurd (show AB=AC from fy) BD
def eqU(x:V)(u:AF):Bool:=match u with
 |.none=>eqV .non x
 |.bool b=>eqV (.bl b) x
 |.int i _=>eqV (.int i) x
 |.str z _=>eqV (.str z) x
 |_=>AB
theorem zkU{x y:V}{u:AF}(r:RelV y u)(f:ya5 y=AC):eqU x u=eqV y x:=by
 cases y with
 |non=>cases r;rfl
 |bl b=>cases r;rfl
 |int i=>let⟨t,rfl⟩:=r;rfl
 |str z=>let⟨t,rfl⟩:=r;rfl
 |_=>exact absurd (show AB=AC from f) BD
theorem zfs{x:V}:∀{xs:List V} {us:List AF},Vals xs us->xs.all ya5=AC->us.any (eqU x)=xs.any λy=>eqV y x
 |_,_,.nil,_=>rfl
 |y::xs,u::us,.cons r t,f=>by
  rw[Be,AK]at f;rw[Bm,Bm,zkU r f.1,zfs t f.2]
theorem zea{A:Ax}{s:AJ}{x:V}{v:AF}(rx:RelV x v)(fx:ya5 x=AC):∀{xs:List V} {us:List AF},Vals xs us->xs.all ya5=AC->∀u∈us,Hn A s u v (eqU x u)
 |_,_,.nil,_=>λu hu=>by cases hu
 |y::xs,u::us,.cons r t,f=>λu' hu=>by
  rw[Be,AK]at f;rcases AN.mp hu with rfl|hu
  .rw[zkU r f.1];exact znh r rx f.1 fx
  .exact zea rx fx t f.2 u' hu
def inV(x:V)(xs:List V):Bool:=xs.any λy=>eqV y x
def rIn(K:AE)(neg:Bool):R2:=λx y H Q=>∃p xs,y=.ref p/\(SqL K H p xs \/ SqT K H p xs)/\ya5 x=AC/\xs.all ya5=AC/\Q (.bl (if neg then !inV x xs else inV x xs)) H
theorem zeJ:OpR X (compareOp .In) (rIn X.K AB):=by
 intro pins s σ H x y v u Q I rx ry h;let⟨p,xs,rfl,hq,fx,fs,q⟩:=h
 cases ry
 rcases hq with hq|hq
 .let⟨its,r,pl,hz⟩:=I.list hq;refine SeqAt.in_listAt (eqU x) pl.isList (λw hw=>zea rx fx r fs w (by simpa using hw)) ⟨.bl _,H,I,rfl,?_⟩;rw[show its.toArray.any (eqU x)=its.any (eqU x)by simp,zfs r fs];exact q
 .let⟨its,r,pl,hz⟩:=I.tuple hq;refine SeqAt.in_tupleAt (eqU x) pl (λw hw=>zea rx fx r fs w (by simpa using hw)) ⟨.bl _,H,I,rfl,?_⟩;rw[show its.toArray.any (eqU x)=its.any (eqU x)by simp,zfs r fs];exact q
theorem zeY:yat X (.builtin "len") (λxs H Q=>∃p ys,xs=[.ref p]/\(SqL X.K H p ys \/ SqT X.K H p ys)/\Q (.int ys.length) H):=by
 intro pins s σ H xs us Q I r h;let⟨p,ys,rfl,hq,q⟩:=h;let⟨u,rfl,rx⟩:=vals1 r
 cases rx
 have hn:=yaW;rcases hq with hq|hq
 .let⟨its,r',pl,hz⟩:=I.list hq;have hlen:=r'.length;exact Calls.call_len_list pl.isList (by erw[AY]<;>lia) ⟨.int ys.length,H,I.tok _,⟨s.toks+1,by rw[AY,hlen]⟩,q⟩
 .let⟨its,r',pl,hz⟩:=I.tuple hq;have hlen:=r'.length;exact len_tuple pl (by erw[AY]<;>lia) ⟨.int ys.length,H,I.tok _,⟨s.toks+1,by rw[AY,hlen]⟩,q⟩
theorem zfg:yat X (.builtin "len") (λxs H Q=>∃z,xs=[.str z]/\z.length<=sizeLine/\Q (.int z.length) H):=by
 intro pins s σ H xs us Q I r h;let⟨z,rfl,hz,q⟩:=h;let⟨u,rfl,t,rfl⟩:=vals1 r;have hn:=yaW;exact len_str (by lia) ⟨.int z.length,H,I.tok _,⟨_,rfl⟩,q⟩
theorem zbG:yat X (.type "tuple") (λxs H Q=>∃p ys,xs=[.ref p]/\((SqL X.K H p ys/\∀l,H l=AD->Q (.ref l) (upd H l (.tup ys))) \/ (SqT X.K H p ys/\Q (.ref p) H))):=by
 intro pins s σ H xs us Q I r h;let⟨p,ys,rfl,h⟩:=h;let⟨u,rfl,rx⟩:=vals1 r
 cases rx
 rcases h with⟨hq,q⟩|⟨hq,q⟩
 .let⟨its,r',pl,hz⟩:=I.list hq;have hlen:=r'.length;refine call_tuple_list pl.isList (λh' kp=>?_) (by erw[AY]<;>lia);have I1:Inv X pins σ H {s with heap:=h'}:=I.kept (t':=s.toks) kp;have I2:Inv X pins σ (upd H h'.objs.size (.tup ys)) {s with heap:=h'.push {cls:=.type "tuple",data:=.seq its.toArray} }:=
   I1.laid (t':=s.toks) (λb o e=>AO _ e) (AS _) (show yai X.prog X.w _ _ _ (.tup ys)from ⟨hz,its,r',F7 _ _⟩)
  exact⟨.ref h'.objs.size,_,I2,rfl,q _ (I1.hok.fresh (AS _))⟩
 .let⟨its,r',pl,hz⟩:=I.tuple hq;exact call_tuple_same pl ⟨.ref p,H,I,rfl,q⟩
def tyV(K:AE)(T:String)(x:V)(H:Hp):Prop:=match x with
 |.str _=>T="str"
 |.int _=>T="int"
 |.ref p=>(T="list"/\∃xs,SqL K H p xs) \/ (T="tuple"/\∃o,K.lookup p=AA o/\o.cls=.type "tuple"/\o.dict=AD) \/
   (T="dict"/\((∃kvs,H p=AA (.dK kvs)) \/ ∃kvs,H p=AA (.dT kvs))) \/ (T="set"/\∃S n,H p=AA (.set S n))
 |_=>False
theorem zpc{pins:List (AI×CC)}{σ:St}{H:Hp}{s:AJ}{T:String}{x:V}{v:AF}(I:Inv X pins σ H s)(r:RelV x v)(ty:tyV X.K T x H):
  s.TypeIs v T/\∀a,v=.ref a->∃ob,s.heap.get? a=AA ob/\ob.dict=none:=by
 cases x with
 |str z=>
  let⟨t,rfl⟩:=r
  cases (show T="str" from ty)
  exact⟨HB s z t,λ_ e=>nomatch e⟩
 |int i=>
  let⟨t,rfl⟩:=r
  cases (show T="int" from ty)
  exact⟨FF s i t,λ_ e=>nomatch e⟩
 |ref p=>
  cases r
  rcases ty with⟨rfl,xs,hq⟩|⟨rfl,o,hk,hc,hd⟩|⟨rfl,hk⟩|⟨rfl,S,n,hk⟩
  .let⟨its,_,pl,_⟩:=I.list hq;refine⟨pl.isList.typeIs,λa e=>?_⟩
   cases e
   let⟨o,n,e,c,hd,_⟩:=pl;exact⟨o,e,hd⟩
  .refine⟨⟨o,I.kIn p o hk,hc⟩,λa e=>?_⟩
   cases e
   exact⟨o,I.kIn _ o hk,hd⟩
  .have z:∃o,s.heap.get? p=AA o/\o.ExactDict:=by
    rcases hk with⟨kvs,hk⟩|⟨kvs,hk⟩
    .let⟨_,_,_,_,o,_,_,e,ex,_⟩:=I.hok p _ hk;exact⟨o,e,ex⟩
    .let⟨_,_,_,_,o,_,_,e,ex,_⟩:=I.hok p _ hk;exact⟨o,e,ex⟩
   let⟨o,e,ex⟩:=z;refine⟨⟨o,e,ex.1⟩,λa e2=>?_⟩
   cases e2
   exact⟨o,e,ex.2.1⟩
  .let⟨o,_,_,_,e,ex,_⟩:=I.hok p _ hk;refine⟨⟨o,e,ex.1⟩,λa e2=>?_⟩
   cases e2
   exact⟨o,e,ex.2.1⟩
 |_=>exact Bn ty
def tBM(K:AE)(T:String)(r:V->List V->Hp->VK->Prop)(to:TE)(t:TA):TE:=λσ H Q=>to σ H λx H1=>tyV K T x H1/\t σ H1 λxs H2=>r x xs H2 Q
variable {o e:AT}{es:List AT}{to:TE}{t:TA}{name:AQ}{apos cpos:CW}{T id:String}{r:V->List V->Hp->VK->Prop}
theorem zpr(pa:PlainAttrs T)(slot:Slot T name id)(hty:typeOf (.builtin id)=pure (.type "method_descriptor"))(hm:MtR X id r)(ho:PE X o to)(ha:PA X (e::es) t)
  (hbase:attributeBase o name X.env (eval o X.env)=eval o X.env:=by rfl)
  (hfew:((backTo cpos (starEach (e::es) X.env)).all (λx=>!x.1)&&(backToKw cpos (keywordEach [] X.env)).all (λx=>x.1.isSome)
   && decide ((e::es).length+([]:List C3).length+(if ([]:List C3).isEmpty then 0 else 1)<30))=true:=by rfl)
  (hline:(apos.endLine==cpos.line)=true:=by rfl) (hs:starEach (e::es) X.env=(AB,eval e X.env)::starEach es X.env:=by rfl) (hplain:(backTo cpos (starEach es X.env)).any (·.1)=false:=by rfl):
  PE X (.Call (.Attribute o name apos) (e::es) [] cpos) (tBM X.K T r to t):=by
 intro pins s σ H Q I h;refine wpAny_Call_method_late hbase hfew hline rfl (thn (ho pins s σ H _ I h) λv s1 kq=>?_);let⟨x,H1,I1,r1,ty,q1⟩:=kq;let⟨h1,h2⟩:=zpc I1 r1 ty;refine⟨T,id,pa,slot,hty,h1,h2,?_⟩;have hA:=ha cpos pins s1 σ H1 _ I1 q1;rw[hs]at hA ⊢;refine FG (by show (AB || (backTo cpos (starEach es X.env)).any (·.1))=AB;rw[hplain]<;>rfl) (FZ ?_);exact thn hA λus s2 ⟨vs,H2,I2,r2,q2⟩=>hm pins s2 σ H2 x vs v us Q I2 r1 r2 q2
/- xs.append(e),list.index on a module's tuple .. are MtR facts of 06m -/
end
def MtM(X:Cx)(id:String)(r:V->List V->Hp->VK->Prop):Prop:=
 ∀(pins:List (AI×CC)) (s:AJ) (σ:St) (H:Hp) (x:V) (xs:List V) (v:AF) (us:List AF) (Q:VK),Inv X pins σ H s->RelV x v->Vals xs us->r x xs H Q ->
  A2 (model X.prog X.w) X.A (call (.builtin id) (v::us)) (EP X pins σ Q) X.xe s
theorem Vals.one:∀{x:V} {us:List AF},Vals [x] us->∃u,us=[u]/\RelV x u
 |_,_,.cons r .nil=>⟨_,rfl,r⟩
theorem Vals.reverse{xs:List V}{us:List AF}(h:Vals xs us):Vals xs.reverse us.reverse:=by
 induction h with
 |nil=>exact .nil
 |cons r t ih=>rw[DV,DV];exact Vals.append ih (.cons r .nil)
section
variable {X:Cx}{pins:List (AI×CC)}{σ:St}{H:Hp}{s:AJ}{l b:AI}{xs ys zs:List V}
theorem Inv.lset{its its':List AF}{n:Nat}{f:Array AF->Array AF}{t':Nat}(I:Inv X pins σ H s)(hH:H l=AA (.lst xs))
  (e:s.heap.get? l=AA {cls:=.type "list",data:=.seq its.toArray n}) (hf:f its.toArray=its'.toArray) (hv:Vals ys its') (hz:ys.length<=sizeLine):
  Inv X pins σ (upd H l (.lst ys)) {s with heap:=s.heap.update l (FE f),toks:=t'}:=by
 have q:=PySem.IsL.update e f;rw[hf]at q;refine I.write (x:=l) (e:=l) (by rw[hH];exact trivial) (.inl rfl) (λb' u hb hu=>(DU s.heap (FE f) (BJ hb)).trans hu) ⟨_,q⟩ ?_;exact⟨hz,its',_,hv,q⟩
theorem Inv.lnew{its:List AF}{t':Nat}(I:Inv X pins σ H s)(hv:Vals ys its)(hz:ys.length<=sizeLine):
  Inv X pins σ (upd H s.heap.objs.size (.lst ys)) {s with heap:=s.heap.push {cls:=.type "list",data:=.seq its.toArray},toks:=t'}:=
 I.laid (λ_ _ q=>AO _ q) (AS _) ⟨hz,its,0,hv,A7 _ rfl⟩
theorem Inv.fresh(I:Inv X pins σ H s):H s.heap.objs.size=none:=I.hok.fresh (AS _)
theorem Inv.lstM(I:Inv X pins σ H s)(hH:H l=AA (.lst xs)):xs.length<=sizeLine/\∃(its:List AF) (n:Nat),Vals xs its/\xs.length=its.length/\s.heap.get? l=AA {cls:=.type "list",data:=.seq its.toArray n}:=by
 let⟨z,its,n,r,e⟩:=I.hok l _ hH;exact⟨z,its,n,r,r.length,e⟩
end
section
variable {X:Cx}
def ycL:V->List V->Hp->VK->Prop:=λx vs H Q=>∃l xs y,x=.ref l/\vs=[y]/\H l=AA (.lst xs)/\xs.length<sizeLine/\Q .non (upd H l (.lst (xs++[y])))
theorem zeS:MtM X "list.append" ycL:=by
 intro pins s σ H x vs v us Q I rx rv h;let⟨l,xs,y,rfl,rfl,hH,hz,q⟩:=h
 cases rx
 let⟨u,rfl,ru⟩:=rv.one;let⟨z,its,n,r,hl,e⟩:=I.lstM hH;refine FH FT ⟨_,e,rfl⟩ F.entry_list_append (F.args_list_append_2 _ _) (PySem.list_append l its.toArray n u (by rw[AY];lia)) ⟨e,?_⟩;refine⟨.non,_,I.lset (its':=its++[u]) hH e (by simp) (r.append (.cons ru .nil)) ?_,rfl,q⟩;rw[Af,D9];lia
def yf8:R2:=λx y H Q=>∃l b xs zs,x=.ref l/\y=.ref b/\H l=AA (.lst xs)/\H b=AA (.lst zs)/\xs.length+zs.length<=sizeLine/\∀p,H p=AD->Q (.ref p) (upd H p (.lst (xs++zs)))
theorem znY:OpR X (binaryOp .Add) yf8:=by
 intro pins s σ H x y v u Q I rx ry h;let⟨l,b,xs,zs,rfl,rfl,hH,hB,hz,q⟩:=h
 cases rx
 cases ry
 let⟨z,its,n,r,hl,e⟩:=I.lstM hH;let⟨z2,its2,n2,r2,hl2,e2⟩:=I.lstM hB;refine PySem.P.add_list e e2 ?_ (by rw[AY,AY];lia);have ea:its.toArray++its2.toArray=(its++its2).toArray:=by simp
 rw[ea];exact⟨.ref _,_,I.lnew (t':=s.toks) (r.append r2) (by rw[Af];lia),rfl,q _ I.fresh⟩
end
section
variable {prog:A9}{w:Al}{A:Ax}{E:AF->AJ->Prop}{s:AJ}
end
section
variable {X:Cx}
end
end L2
namespace Att
open PySem PySem.W PySem.Calls PyProof.Rows
theorem zdm{P:Params}{h:BF}:∀(ns:List Int) (vs:List AF),WellAll P h vs (ns.map Hs)->FC vs ns:=by
 intro ns
 induction ns with
 |nil=>
  intro vs w;rw[Ad]at w
  cases w
  exact .nil
 |cons n ns ih=>
  intro vs w;rw[AL]at w
  cases w with
  |cons a b=>
   cases a
   exact .cons _ _ (ih _ b)
theorem ziH{l:Eu}{n:Nat}(hn:l.most=AA n){P:Params}{h:BF}{args:List WData}{vals:List AF}
  (hpre:l.row.toRowW.claim.pre args=AC) (hwl:WellAll P h vals args):
  ∃a vs ns,vals=[Ai a]/\args=[WData.list (ns.map Hs)]/\h.get? a=AA {cls:=.type "list",data:=.seq vs.toArray}/\FC vs ns/\ns.length<=n:=by
 have hsh:WShape.hasAll [] args [.list .int]=true:=(pre_splitW hpre).1;have hc:l.pre.holds [] {args:=args}=true:=(pre_splitW hpre).2;let⟨d,r,rfl,h1,h2⟩:=hasAllW_cons hsh;obtain rfl:=hasAllW_nil h2;let⟨xs,rfl,h3⟩:=hasW_list h1;let⟨ns,rfl⟩:=items_int h3;have hlen:ns.length<=n:=by
  unfold OpenLaw.pre at hc;have h4:(WTm.not (.lt (.lit (.int (n:Int))) (.len (.arg 0)))).holds [] {args:=[.list (ns.map .int)]}=true:=by
   have h4:=(holds_andW hc).1;rw[hn]at h4;exact h4
  have h5:=condW_of h4 (w_not (w_lt w_lit (w_len_list (w_arg rfl))));rw[Av]at h5;refine Nat.le_of_not_lt λq=>?_;have q':(n:Int)<((ns.length:Nat):Int):=by lia
  first
   |(rw[decide_eq_true q']at h5;exact absurd h5 (by decide))
   |(simp at h5;lia)
 cases hwl with
 |cons w1 w2=>
  cases w2
  cases w1 with
  |list ho hall=>exact⟨_,_,ns,rfl,rfl,ho,zdm ns _ hall,hlen⟩
theorem ziV(l:Eu)(args:List WData):l.row.toRowW.claim.post args (.bool AC) args=true:=
 postW_of (r:=l.row.toRowW) (X:=(AC==AC))
  (show Ho [] (.bool AC) .bool=AC by first|rfl|decide|simp[Ho,WShape.arms,WShape.armsAll])
  (show (WTm.eq .res (.lit (.bool AC))).value [] {args:=args,res:=AA (.bool AC),after:=args}=AA (.bool (AC==AC))from w_eq_bool (w_res rfl) w_lit) rfl
theorem attach_call{l:Eu}{n:Nat}{q:A9}{loose:List AQ}{XP:(AQ->Option AF)->BF->Prop}{YP:Al->BF->Prop}{d:DefRec}
  (hn:l.most=AA n) (hdf:d.params.defaults=[])
  (call:∀(w:Al) (s₀ s₁:AJ) (mg mb:AQ->Option AF) (fa:AI) (o:CC) (pm cd doc:AF) (a:AI) (vs:List AF) (ns:List Int),
   Ground q loose [] XP w s₀ mg mb s₁.heap->YP w s₁.heap ->
   s₁.heap.get? fa=AA o->o.data=.func (docDef d.name d.params d.body d.scope pm cd doc)->s₁.heap.CodeRec cd d.name->mg d.name=AA (.ref fa) ->
   s₁.heap.get? a=AA {cls:=.type "list",data:=.seq vs.toArray}->FC vs ns->ns.length<=n->s₁.gens=#[] ->
   codeAny (model l.prog w) callerA (.call (.ref fa) ⟨[.ref a],[]⟩) (λr s'=>r=.ok (.ret (.bool AC))/\OldK s₁.heap s'.heap/\s'.os=s₁.os/\Dj s'.gens) s₁):
  Gu q loose XP YP l.row.toRowW d [] (λf vs=>HC f vs):=by
 intro w s₀ s₁ mg mb G Y fa o pm cd doc dV kV ho hd hcd hD hmg hg args vals as hpre hlay hrd hwl hlo;obtain rfl:dV=.none:=Dflts.none hD hdf;obtain rfl:kV=.none:=Dflts.noKw hD;let⟨a,vs,ns,rfl,rfl,hobj,hints,hlen⟩:=ziH hn hpre hwl;refine enter_call (EA (call w s₀ s₁ mg mb fa o pm cd doc a vs ns G Y ho (fd_plain hd) hcd hmg hobj hints hlen hg) λr s' hq=>?_);let⟨rfl,h2,h3,h4⟩:=hq;exact⟨.inl ⟨.bool AC,.bool AC,[],rfl,λ_=>rfl,.bool AC,ziV l _,λ_=>⟨Hr,λ_ hm=>(nomatch hm)⟩⟩,h2,h3,h4⟩
section
variable {prog:A9}{w:Al}{A:Ax}{E:AF->AJ->Prop}{s:AJ}{K:AE}
end
end Att
namespace L2
open PySem PySem.Spec PyProof.Rows
theorem zfc:∀{vs:List AF} {ns:List Int},FC vs ns->Vals (ns.map V.int) vs
 |_,_,.nil=>.nil
 |_,_,.cons n t h=>.cons ⟨t,rfl⟩ (zfc h)
def Only(H:Hp):Prop:=∀b,H b=AD \/ ∃o xs,H b=AA (.frz o (.lst xs))
theorem zj2{P:A9}{w:Al}{K:AE}{mg mb:AQ->Option AF}{CX:CXT}{k:Nat}{fa a:AI}{fd:BG}{x:AQ}{sp:Sp}{s₁:AJ}{vs:List AF}{ns:List Int}
  (KX:K.In s₁.heap) (hns:s₁.heap.Ns mainGlobals mg) (hb:s₁.heap.Ns builtinsNs mb) (hbb:∀x:AQ,x ≠ "__name__"->mb x=bootBuiltins x) (hlim:s₁.heap.NoLimit) (hg:s₁.gens=#[])
  (ha:s₁.heap.get? a=AA {cls:=.type "list",data:=.seq vs.toArray}) (hi:FC vs ns) (hl:ns.length<=sizeLine) (hr:yaz k callerA)
  (F:∀base:BF,K.In base->base.Ns mainGlobals mg->yaP P w K mg base CX k fa fd [x] sp) (hbind:∀(s:AJ) (u:AF),F8 s fd ⟨[u],[]⟩ [(x,u)])
  (hsp:∀H:Hp,Only H->SqL K H a (ns.map V.int)->sp [.ref a] H (λv _=>v=.bl AC) λ_ _ _=>False)
  (hCX:∀H e s',CX [] H s₁ (λ_ _ _=>False) e s'->False):
  codeAny (model P w) callerA (.call (.ref fa) ⟨[.ref a],[]⟩) (λr s'=>r=.ok (.ret (.bool AC))/\OldK s₁.heap s'.heap/\s'.os=s₁.os/\Dj s'.gens) s₁:=by
 have rv:=zfc hi;have lenV:=hi.length;have core:∀H:Hp,Only H->SqL K H a (ns.map V.int)->HOk P w H s₁.heap->(∀b,H b≠AD->b=a)->(H a≠AD->K.lookup a=AD) ->
   codeAny (model P w) callerA (.call (.ref fa) ⟨[.ref a],[]⟩) (λr s'=>r=.ok (.ret (.bool AC))/\OldK s₁.heap s'.heap/\s'.os=s₁.os/\Dj s'.gens) s₁:=by
  intro H hO hS hok hA hK;have base_of:∀{b:AI} {o:CC},s₁.heap.get? b=AA o->H b=AD->(yci s₁.heap H).get? b=AA o:=λe n=>zjB e n;have noA:∀{b:AI} {o:CC} {es:Array CM} {ep:Nat},s₁.heap.get? b=AA o->o.data=.dict es ep->H b=none:=λ{b o es ep} e d=>by
   cases q:H b with
   |none=>rfl
   |some u=>
    have e':b=a:=hA b (by rw[q];simp);subst e';rw[ha]at e;cases e;have d':Data.seq vs.toArray _=Data.dict es ep:=d
    cases d'
  have nsK:∀{b:AI} {m:AQ->Option AF},s₁.heap.Ns b m->(yci s₁.heap H).Ns b m:=λ{b m} ⟨o,es,ep,e,d,r⟩=>⟨o,es,ep,base_of e (noA e d),d,r⟩;have hKb:K.In (yci s₁.heap H):=λb o e=>base_of (KX b o e) (by
   cases q:H b with
   |none=>rfl
   |some u=>
    have e':b=a:=hA b (by rw[q];simp);subst e';rw[hK (by rw[q];simp)]at e;cases e)
  have hM:Mod K mg (yci s₁.heap H):=⟨hKb,nsK hns,⟨mb,nsK hb,hbb⟩,let ⟨mc,h1,h2⟩:=hlim;⟨mc,nsK h1,h2⟩⟩;have e0:ycU P w K mg (yci s₁.heap H) callerA [] s₁ H:=⟨rfl,hM,λb o e=>zlt e,HU (zig _ _),trivial,λb hb=>absurd (show b∈([]:List AI)from hb) (by simp),hok,.of_eq hg⟩;refine EA ((F _ hKb (nsK hns)).run callerA [] s₁ H ⟨[.ref a],[]⟩ [.ref a] [.ref a] _ _ hr e0 (hbind s₁ (.ref a)) (.cons rfl .nil) (hsp H hO hS)) λr s' h=>?_
  cases r with
  |error e=>exact(hCX H e s' h).elim
  |ok fl=>
   cases fl with
   |next=>exact Bn h
   |brk=>exact Bn h
   |cont=>exact Bn h
   |ret u=>
    let⟨v,H',os,bare,un,hok',r',q⟩:=h;have q':v=.bl true:=q;subst q';obtain rfl:u=ED true:=r';refine⟨rfl,OldK.of_keep λb o e=>?_,os,bare⟩
    cases q:H b with
    |none=>exact un.keep b o e q (by intro z;exact absurd (show b∈([]:List AI)from z) (by simp)) (by simp)
    |some u=>
     rcases hO b with z|⟨ob,xs,z⟩
     .rw[q]at z;cases z
     .have z2:=un.frzs b ob _ z;let⟨e1,_⟩:=hok b _ z;let⟨e2,_⟩:=hok' b _ z2;rw[e]at e1;cases e1;exact e2
 cases hk:K.lookup a with
 |some o=>
  have e:=KX a o hk;rw[ha]at e
  cases e
  refine core (λ_=>AD) (λ_=>.inl rfl) (.inr ⟨_,vs.toArray,_,hk,rfl,rfl,rfl,by rw[AY,lenV];exact hl,by simpa using rv⟩) (λb u z=>by have z':(AD:Option HO)=AA u:=z;cases z') (λb z=>absurd rfl z) λz=>absurd rfl z
 |none=>
  refine core (λb=>if b=a then AA (.frz {cls:=.type "list",data:=.seq vs.toArray} (.lst (ns.map V.int)))else AD) (λb=>?_) (.inl (.inr ⟨{cls:=.type "list",data:=.seq vs.toArray},if_pos rfl⟩)) (λb u z=>?_) (λb z=>?_) λ_=>hk
  .by_cases hb:b=a
   .exact .inr ⟨_,_,if_pos hb⟩
   .exact .inl (if_neg hb)
  .by_cases hb:b=a
   .have z':=(if_pos hb).symm.trans z
    cases z'
    subst hb;exact⟨ha,by rw[Av];exact hl,vs,_,rv,ha⟩
   .have z':=(if_neg hb).symm.trans z
    cases z'
  .by_cases hb:b=a
   .exact hb
   .exact absurd (if_neg hb) z
theorem walk_of{l:Eu}{n k:Nat}{q:A9}{loose:List AQ}{XP:(AQ->Option AF)->BF->Prop}{YP:Al->BF->Prop}{d:DefRec}{K:Params->AE}{CX:Al->CXT}{sp:Al->Sp}{x:AQ}
  (hn:l.most=AA n) (hn2:n<=sizeLine) (hdf:d.params.defaults=[]) (hr:yaz k callerA)
  (hY:∀(w:Al) (h:BF),YP w h->(K w.params).In h)
  (F:∀(w:Al) (mg:AQ->Option AF) (fa:AI) (h:BF),(K w.params).In h->h.Ns mainGlobals mg->mg d.name=AA (.ref fa) ->
   ∃fd:BG,(∀(s:AJ) (u:AF),F8 s fd ⟨[u],[]⟩ [(x,u)]) /\
    ∀base:BF,(K w.params).In base->base.Ns mainGlobals mg->yaP l.prog w (K w.params) mg base (CX w) k fa fd [x] (sp w))
  (hsp:∀(w:Al) (H:Hp) (a:AI) (ns:List Int),ns.length<=n->Only H->SqL (K w.params) H a (ns.map V.int)->sp w [.ref a] H (λv _=>v=.bl AC) λ_ _ _=>False)
  (hCX:∀(w:Al) (H:Hp) (s:AJ) (e:AF) (s':AJ),CX w [] H s (λ_ _ _=>False) e s'->False):
  Gu q loose XP YP l.row.toRowW d [] (λf vs=>HC f vs):=by
 refine Att.attach_call hn hdf λw s₀ s₁ mg mb fa o pm cd doc a vs ns G Y ho hd hcd hmg hobj hints hlen hg=>?_;have KX:=hY w _ Y;let⟨fd,hb,hF⟩:=F w mg fa _ KX G.T.g hmg;exact zj2 KX G.T.g G.T.b G.T.builtins G.T.nolimit hg hobj hints (BU hlen hn2) hr hF hb (λH hO hS=>hsp w H a ns hlen hO hS) λH e s'=>hCX w H s₁ e s'
def inClass(s:Bz)(j:Nat):Stmt:=match s with
 |.ClassDef _ _ _ body _ _ _ _ _ _ _=>body.getD j (.Pass ⟨0,0,0,0⟩)
 |_=>.Pass ⟨0,0,0,0⟩
def yan(s:Bz):Arguments:=match s with
 |.FunctionDef _ a _ _ _ _ _ _ _ _=>a
 |_=>{posonlyargs:=[],args:=[],vararg:=AD,kwonlyargs:=[],kw_defaults:=[],kwarg:=AD,defaults:=[]}
def yak(s:Bz):List Stmt:=match s with
 |.FunctionDef _ _ b _ _ _ _ _ _ _=>b
 |_=>[]
def yO(s:Bz):Scope:=match s with
 |.FunctionDef _ _ _ _ _ _ sc _ _ _=>sc
 |_=>{kind:=.function,names:=[],isGenerator:=AB,isCoroutine:=AB}
structure Fun(K:AE)(x qual:AQ)(st:Bz)(f:AI)(fd:BG):Prop where
 ex:∃(oc:AF) (od:Option AI) (kV doc pm:AF) (an:Option AI) (cdv ct:AF) (osl:Array (Option AF)),
  fd=B6 x qual (yan st) (yak st) (yO st) .none kV doc pm an cdv ct/\K.lookup f=AA ⟨oc,od,.func fd,osl⟩/\CP K cdv qual=AC
 kp:Ay K (.ref f)=AC
section
variable {P:A9}{w:Al}{K:AE}{mg:AQ->Option AF}{base:BF}
theorem Fun.binds{x qual:AQ}{st:Bz}{f:AI}{fd:BG}{ps:List AQ}(F:Fun K x qual st f fd)
  (h:∀(kV doc pm:AF) (an:Option AI) (cdv ct:AF) (us:List AF),us.length=ps.length->bindArgs (B6 x qual (yan st) (yak st) (yO st) .none kV doc pm an cdv ct) ⟨us,[]⟩=pure (ps.zip us)):Binds K fd ps []:=by
 let⟨oc,od,kV,doc,pm,an,cdv,ct,osl,rfl,lk,hcd⟩:=F.ex;exact .all (h kV doc pm an cdv ct)
end
theorem zlN{A:Ax}{k:Nat}(hr:yaz k A):A.units+1<cLine:=Nat.lt_of_le_of_lt (Nat.add_le_add_left (by decide:1<=64) _) hr.units
section
variable {X:Cx}
end
end L2
namespace WE
open PySem PySem.Spec PyProof.Rows
open AutoSeq1 (wpAny_loadPart')
section
variable {pg:A9}{wd:Al}{A:Ax}{Er:AF->AJ->Prop}{s:AJ}
theorem zcb{it t:AI}{i:Nat}{xs:Array AF}{x:AF}{Q:AF->AJ->Prop}(hi:s.heap.IsTupleIter it t i)(ht:s.heap.IsTuple t xs)(hx:xs[i]?=AA x)
  (k:∀h',h'.IsTupleIter it t (i+1)->Cb it s.heap h'->Q x {s with heap:=h'}):A2 (model pg wd) A (BT (.ref it)) Q Er s:=by
 let⟨oi,gi,ci,di⟩:=id hi;let⟨ot,gt,_,nt,dt⟩:=ht;unfold BT;refine AH (Bi (name:=AG "__next__") hi.typeIs CQ (C5 CQ hi.typeIs EB ?_ (Dx _)));show A2 _ _ (field (.ref it) 0 >>= _) _ _ _;refine AH (BX gi di (x:=.ref t) rfl ?_);show A2 _ _ (if (Ai t==CO)=AC then _ else _) _ _ _;rw[if_neg (show ¬((Ai t==CO)=AC)from λz=>BD z)];show A2 _ _ (field (.ref it) 1 >>= _) _ _ _;refine AH (BX gi di (x:=.int i 0) rfl ?_);show A2 _ _ (seqItems? (.ref t) >>= _) _ _ _;refine AH (C6 gt dt ?_);erw[CB,hx];refine AH (F0 gi di (by simp) (AU ⟨x,rfl,AU (k _ ?_ (Fd ..))⟩));refine⟨_,FR _ gi (Obj.isFreed_of_fields (Fu di _)),(Obj.cls_mapFields ..).trans ci,?_⟩;rw[Fu di];simp[rawInt]
theorem zfe{it t:AI}{i:Nat}{xs:Array AF}{Q:AF->AJ->Prop}(hh:A.handled=AD)(hi:s.heap.IsTupleIter it t i)(ht:s.heap.IsTuple t xs)(hx:xs[i]?=AD)
  (k:∀h' e,Heap.ExtBut it s.heap h'->(∃o,h'.get? e=AA o/\o.cls=.type "StopIteration")->Er (.ref e) {s with heap:=h'}):A2 (model pg wd) A (BT (.ref it)) Q Er s:=by
 let⟨oi,gi,ci,di⟩:=id hi;let⟨ot,gt,_,nt,dt⟩:=ht;unfold BT;refine AH (Bi (name:=AG "__next__") hi.typeIs CQ (C5 CQ hi.typeIs EB ?_ (Dx _)));show A2 _ _ (field (.ref it) 0 >>= _) _ _ _;refine AH (BX gi di (x:=.ref t) rfl ?_);show A2 _ _ (if (Ai t==CO)=AC then _ else _) _ _ _;rw[if_neg (show ¬((Ai t==CO)=AC)from λz=>BD z)];show A2 _ _ (field (.ref it) 1 >>= _) _ _ _;refine AH (BX gi di (x:=.int i 0) rfl ?_);show A2 _ _ (seqItems? (.ref t) >>= _) _ _ _;refine AH (C6 gt dt ?_);erw[CB,hx];refine AH (Ey (AH (F0 gi di (by simp) ?_)));show A2 _ _ (newExc (.type "StopIteration") [] >>= _) _ _ _;refine AH ?_;erw[newExc,newTuple];refine AH (Ba ?_ (by size_fits));refine AH (m:=firstArgMember _ _) (wpAny_of_eq (a:=CO) (by first|rfl|(erw[firstArgMember];rfl)) ?_);refine Ba ?_ (by size_fits);erw[raiseNew];refine AH (wpAny_handled ?_);first|rw[show A.in1.handled=AD from hh]|rw[hh]
 refine AH (AU (wpAny_throw ?_));exact k _ _ (((Fd ..).extBut.push _).push _) ⟨_,A7 _ rfl,rfl⟩
end
theorem draws_tuple{pg:A9}{wd:Al}{A:Ax}(hh:A.handled=AD)(it t:AI)(hne:t≠it)(xs:Array AF):
  Draws pg wd A it [it,t] xs.size (λi v=>xs[i]?=AA v) (λi h=>h.IsTupleIter it t i/\h.IsTuple t xs) where
 live:=λ_ _ st=>let ⟨o,g,_⟩:=st.1;⟨o,g⟩
 frame:=λ_ _ _ st kp=>⟨let ⟨o,g,r⟩:=st.1;⟨o,kp it (by simp) o g,r⟩,let ⟨o,g,r⟩:=st.2;⟨o,kp t (by simp) o g,r⟩⟩
 item:=λi s Q E hi st hQ=>zcb st.1 st.2 (x:=xs[i]) (by simp[hi]) λh' hit' hs'=>hQ _ h' s.toks (by simp[hi]) ⟨hit',st.2.extBut hs'.extBut hne⟩ hs'
 done:=λs Q E st hE=>zfe hh st.1 st.2 (by simp) hE
theorem zfG(l:AI)(xs:Array AF)(n:Nat)(dc:Option AI)(sl:Array (Option AF)):
  Meets (F9.«enumerate.__new__» ⟨[.type "enumerate",.ref l],[]⟩) (λ_ R s=>s.heap.get? l=AA {cls:=.type "tuple",dict:=dc,data:=.seq xs n,slots:=sl} /\
   R (.ok (.ret (.ref (s.heap.push {cls:=.type "tuple_iterator",data:=.fields #[.ref l,.int 0 0]}).objs.size)))
    {s with heap:=(s.heap.push {cls:=.type "tuple_iterator",data:=.fields #[.ref l,.int 0 0]}).push {cls:=.type "enumerate",data:=.fields #[.none,.bool AB,.ref s.heap.objs.size,rawInt 0,.none,.none]} }):=
 .of_wp λprog w A R s h=>by
  let⟨hp,g,d,tk,os⟩:=s;let⟨gl,h⟩:=h;have hsub:=sub_enumerate;have hT:GM (Gi ⟨hp,g,d,tk,os⟩) l xs:=⟨_,gl,rfl,n,rfl⟩
  wp_walk using wpAny_loadPart' gl
  refine wpAny_stack_any λst=>AU ?_;split
  .rename_i c _ _ _ _ _
   cases (c==Ew "enumerate")
   .wp_walk using wpAny_loadPart' gl,CS hT
    exact⟨_,rfl,h⟩
   .wp_walk using wpAny_loadPart' gl,CS hT
    exact⟨_,rfl,h⟩
  .wp_walk using wpAny_loadPart' gl,CS hT
   exact⟨_,rfl,h⟩
theorem call_enumT{pg:A9}{wd:Al}{A:Ax}{Er:AF->AJ->Prop}{s:AJ}{l:AI}{xs:Array AF}{Q:AF->AJ->Prop}(hT:s.heap.IsTuple l xs)
  (k:∀h',IsEnum h' (s.heap.objs.size+1) s.heap.objs.size 0 .none->h'.IsTupleIter s.heap.objs.size l 0->h'.objs.size=s.heap.objs.size+2 ->
   (∀b o,s.heap.get? b=AA o->h'.get? b=AA o)->Q (.ref (s.heap.objs.size+1)) {s with heap:=h'}):A2 (model pg wd) A (call (.type "enumerate") [.ref l]) Q Er s:=by
 let⟨⟨c,dct,dt,sl⟩,gl,hc,n,hd⟩:=hT
 cases (show c=.type "tuple" from hc)
 cases (show dt=.seq xs n from hd)
 refine callType_new F.called_enumerate (by decide) (F.typeCall_enumerate_1 _) (F.newCall_enumerate_1 _) (λobj=>F.args_object_init_2 obj _) F.entry_enumerate_new (zfG l xs n dct sl) ⟨gl,?_⟩;have hz:(s.heap.push {cls:=.type "tuple_iterator",data:=.fields #[.ref l,.int 0 0]}).objs.size=s.heap.objs.size+1:=Bv ..;show _/\_;rw[hz];have he:IsEnum ((s.heap.push {cls:=.type "tuple_iterator",data:=.fields #[.ref l,.int 0 0]}).push {cls:=.type "enumerate",data:=.fields #[.none,.bool AB,.ref s.heap.objs.size,rawInt 0,.none,.none]}) (s.heap.objs.size+1) s.heap.objs.size 0 .none:=by
  have q:=A7 (s.heap.push {cls:=.type "tuple_iterator",data:=.fields #[.ref l,.int 0 0]}) (o:={cls:=.type "enumerate",data:=.fields #[.none,.bool AB,.ref s.heap.objs.size,rawInt 0,.none,.none]}) rfl;rw[hz]at q;exact q
 exact⟨⟨_,he,rfl⟩,k _ he ⟨_,AO _ (A7 _ rfl),rfl,rfl⟩ (by rw[Bv,hz]) λb o y=>AO _ (AO _ y)⟩
end WE
namespace L2
open PySem PySem.Spec PyProof.Rows
section
variable {X:Cx}
def ydM(i j:Int):Prop:=0<j/\j<10000000000000000000000000000000000000000000000000000000000000000000000
theorem zju:OpR X (binaryOp .FloorDiv) (rI ydM λi j=>.int (i/j)):=opI λi j _ _ _ _ _ hc q=>by
 let⟨h1,h2⟩:=hc;refine floordiv_int (by lia) (by rw[EK i (by lia)];exact q) (.inl (PyProof.noPylong_of_log2 ?_));have h0:j.natAbs≠0:=by lia
 refine A5 ((Nat.log2_lt h0).mpr (?_:j.natAbs<2^250)) (by decide);have e:(10000000000000000000000000000000000000000000000000000000000000000000000:Nat)<2^250:=by decide
 lia
end
section
variable {X:Cx}{pins:List (AI×CC)}{σ:St}{H:Hp}{s:AJ}{h':BF}
theorem Inv.turnLaid{t':Nat}{ch:List AI}{T:AI}{o:HO}(I:Inv X pins σ H s)(hf:∀b∈ch,ybx X pins H b)(k:∀b u,b∉ch->s.heap.get? b=AA u->h'.get? b=AA u)
  (hp:s.heap.objs.size<=T) (new:yai X.prog X.w (upd H T o) h' T o):Inv X pins σ (upd H T o) {s with heap:=h',toks:=t'}:=by
 have hn:H T=none:=I.hok.fresh hp;have nch:∀b u,H b=AA u->b∉ch:=λb u e z=>by
  have q:=(hf b z).1;rw[e]at q
  cases q
 refine I.step (g':=s.gens) (d':=s.drawn) (ch:=ch) (λb hb=>?_) (λb u _ _ hc e _=>k b u hc e) (λb u _ _ hc e _=>⟨u.slots,k b u hc e⟩) (λb u _ e n=>?_) (λb u hc e=>⟨u,k b u hc e⟩) (λb xs e=>?_) (λb u v e=>?_) (λb ps e=>⟨#[],?_⟩) (λm hm=>?_) (λb u e=>?_) I.bare
 .let⟨f0,f1,f2,f3,f4,f5⟩:=hf b hb;exact⟨f3,f1,f4,f5⟩
 .rw[zk (Aq (A5 (AX e) hp))];exact n
 .rw[zk (zn e hn)];exact e
 .rw[zk (zn e hn)];exact e
 .rw[zk (zn e hn),e];simp
 .let⟨ob,es,ep,ho,r⟩:=hm;exact⟨ob,es,ep,k _ ob (λz=>(hf _ z).2.1 rfl) ho,r⟩
 .by_cases hb:b=T
  .subst hb;rw[zt]at e
   cases e
   exact new
  .rw[zk hb]at e;refine(I.hok b u e).stay (λc v hc q=>k c v ?_ q) (λc q=>by rw[zk (zn q hn)];exact q) λc xs q=>by rw[zk (zn q hn)];exact q
   rcases hc with z|z
   .rw[z];exact nch b u e
   .exact nch c _ z
theorem Inv.turnedL{t':Nat}{ch:List AI}(I:Inv X pins σ H s)(hf:∀b∈ch,ybx X pins H b)(k:∀b u,b∉ch->s.heap.get? b=AA u->h'.get? b=AA u):Inv X pins σ H {s with heap:=h',toks:=t'}:=by
 have nch:∀b u,H b=AA u->b∉ch:=λb u e z=>by
  have q:=(hf b z).1;rw[e]at q
  cases q
 refine I.step (g':=s.gens) (d':=s.drawn) (ch:=ch) (λb hb=>?_) (λb u _ _ hc e _=>k b u hc e) (λb u _ _ hc e _=>⟨u.slots,k b u hc e⟩) (λ_ _ _ _ n=>n) (λb u hc e=>⟨u,k b u hc e⟩) (λ_ _ e=>e) (λ_ _ _ e=>e) (λb ps e=>⟨#[],by rw[e];simp⟩) (λm hm=>?_) (λb u e=>?_) I.bare
 .let⟨f0,f1,f2,f3,f4,f5⟩:=hf b hb;exact⟨f3,f1,f4,f5⟩
 .let⟨ob,es,ep,ho,r⟩:=hm;exact⟨ob,es,ep,k _ ob (λz=>(hf _ z).2.1 rfl) ho,r⟩
 .refine(I.hok b u e).stay (λc v hc q=>k c v ?_ q) (λ_ q=>q) λ_ _ q=>q;rcases hc with z|z
  .rw[z];exact nch b u e
  .exact nch c _ z
end
def Ite(K:AE)(a:AI):It:=
 ⟨λi H=>∃xs x,SqT K H a xs/\xs[i]?=AA x,λi H x H'=>∃T,H T=AD/\x=.ref T/\∀xs y,SqT K H a xs->xs[i]?=AA y->H'=upd H T (.tup [.int i,y]),λi H=>∃xs,SqT K H a xs/\xs.length=i⟩
theorem zdQ{h:BF}{a b:AI}{o u:CC}(x:h.get? a=AA o)(y:h.get? b=AA u)(z:o.cls≠u.cls):a≠b:=λe=>by
 subst e;rw[x]at y
 cases y
 exact z rfl
theorem zgW{P:A9}{w:Al}{K:AE}{es:List AT}{kk:Nat}{pos:CW}(a e it:AI):
  Turn P w K (.Tuple es kk pos) (Ite K a) [e,it] e (λi h=>(∃old,IsEnum h e it i old)/\h.IsTupleIter it a i) where
 mem:=by simp
 obj:=λi h st b hb=>by
  let⟨⟨old,he⟩,oi,gi,ci,di⟩:=st;rcases AN.mp hb with z|z
  .subst z;exact⟨_,he,λv y=>nomatch y⟩
  .have z:b=it:=by simpa using z
   subst z;exact⟨oi,gi,λv y=>by rw[di]at y;cases y⟩
 keep:=λi h h' st k=>by
  let⟨⟨old,he⟩,oi,gi,r⟩:=st;exact⟨⟨old,k e (by simp) _ he⟩,oi,k it (by simp) _ gi,r⟩
 item:=by
  intro X hP hw hK hc i pins s σ H E I hf st hg;subst hP hw hK;let⟨xs,x,hq,hx⟩:=hg;let⟨its,rv,p,hz⟩:=I.tuple hq;let⟨⟨old,he⟩,hi⟩:=st;let⟨oi,gi,ci,di⟩:=id hi;let⟨oa,ga,ca,na,da⟩:=id p;have nai:a≠it:=zdQ ga gi (by rw[ca,ci];exact λz=>absurd (Cp z) (by decide));have nei:e≠it:=zdQ he gi (by rw[ci];exact λz=>absurd (Cp z) (by decide));have nea:e≠a:=zdQ he ga (by rw[ca];exact λz=>absurd (Cp z) (by decide));have hl:=rv.length;have hil:i<its.toArray.size:=by
   have:=(BE.mp hx).1;simpa using (by lia:i<its.length)
  have W:=GN (prog:=X.prog) (w:=X.w) (A:=X.A) (WE.draws_tuple (pg:=X.prog) (wd:=X.w) (A:=X.A.in1) (I.ok.hd hc) it a nai its.toArray) e nei (by simp[nei,nea]) (by simp);refine W.item i s _ E hil ⟨⟨old,he⟩,hi,p⟩ λT vals h1 tk hP hsz hT mid kp=>⟨.ref T,rfl,?_⟩;refine W.go es kk pos i T _ _ E mid λh2 st2 kp2=>?_;let⟨t,y,hy,rfl⟩:=hP;let⟨u,hu,ru⟩:=rv.get hx;have ey:y=u:=AW (hy.symm.trans (by simpa using hu));subst ey;have hch:∀b o,b∉[e,it]->s.heap.get? b=AA o->h2.get? b=AA o:=λb o hb q=>kp2 b o hb (kp b o hb q);have hTw:=W.apart i T h1 mid;have new:yai X.prog X.w (upd H T (.tup [.int i,x])) h2 T (.tup [.int i,x]):=by
   let⟨o,g,r⟩:=hT;exact⟨by show 2<=sizeLine;decide,[.int i t,y],.cons ⟨t,rfl⟩ (.cons ru .nil),o,kp2 T o hTw g,r⟩
  have I2:=I.turnLaid (t':=tk) hf hch hsz new;refine⟨.ref T,_,I2,rfl,⟨T,I.hok.fresh hsz,rfl,λys z hy' hz'=>?_⟩,⟨st2.1,st2.2.1⟩,λb hb=>?_⟩
  .rw[I.tuple_inj hy' hq]at hz';rw[hx]at hz'
   cases hz'
   rfl
  .rw[zk (λz:b=T=>hTw (z ▸ hb))];exact(hf b hb).1
 done:=by
  intro X hP hw hK hc i pins s σ H E I hf st hg;subst hP hw hK;let⟨xs,hq,hx⟩:=hg;let⟨its,rv,p,hz⟩:=I.tuple hq;let⟨⟨old,he⟩,hi⟩:=st;let⟨oi,gi,ci,di⟩:=id hi;let⟨oa,ga,ca,na,da⟩:=id p;have nai:a≠it:=zdQ ga gi (by rw[ca,ci];exact λz=>absurd (Cp z) (by decide));have nei:e≠it:=zdQ he gi (by rw[ci];exact λz=>absurd (Cp z) (by decide));have nea:e≠a:=zdQ he ga (by rw[ca];exact λz=>absurd (Cp z) (by decide));have hl:=rv.length;have W:=GN (prog:=X.prog) (w:=X.w) (A:=X.A) (WE.draws_tuple (pg:=X.prog) (wd:=X.w) (A:=X.A.in1) (I.ok.hd hc) it a nai its.toArray) e nei (by simp[nei,nea]) (by simp);have en:its.toArray.size=i:=by simp;lia
  refine W.done s _ E (by rw[en];exact⟨⟨old,he⟩,hi,p⟩) λh2 tk kp=>⟨rfl,I.turnedL (t':=tk) hf kp⟩
 self:=λ_ _ _ _ _ st q=>by
  let⟨⟨old,he⟩,_⟩:=st;exact GO he q
def yfG(K:AE)(ta:TA):TI:=λσ H R=>ta σ H λvs H1=>∃a,vs=[.ref a]/\(∃xs,SqT K H1 a xs)/\R (Ite K a) H1
theorem zjy{X:Cx}{a:AT}{es:List AT}{kk:Nat}{tp:CW}{ta:TA}{p pos:CW}(hg:Gl X "enumerate")(hm:X.mg "enumerate"=AD)(ha:PA X [a] ta)(hs:starEach [a] X.env=[(AB,eval a X.env)]:=by rfl):
  PI X (.Tuple es kk tp) (.Call (.Name "enumerate" p) [a] [] pos) (yfG X.K ta):=by
 intro pins s σ H R I h;refine B2 (zdN I hg hm boot_enumerate ?_);refine CJ (thn (ha pos pins s σ H _ I h) λus s1 kq=>?_) hs rfl;let⟨vs,H1,I1,r1,q1⟩:=kq;let⟨l,rfl,⟨xs,hq⟩,q⟩:=q1;let⟨u,rfl,ru⟩:=Vals.one r1
 cases (show u=Ai l from ru)
 let⟨its,rv,pt,hz⟩:=I1.tuple hq;refine WE.call_enumT (show s1.heap.IsTuple l its.toArray from pt) λh1 he hi hsz kp=>?_;refine GO he ?_;refine⟨_,[s1.heap.objs.size+1,s1.heap.objs.size],_,_,H1,rfl,I1.kept (t':=s1.toks) kp,zgW l _ s1.heap.objs.size,⟨⟨_,he⟩,hi⟩,λb hb=>?_,q⟩;have hb2:s1.heap.objs.size<=b:=by
  rcases AN.mp hb with z|z
  .subst z;exact Co _
  .have z:b=s1.heap.objs.size:=by simpa using z
   subst z;exact AS _
 exact I1.fpOk hb2 (I1.hok.fresh hb2)
abbrev No:AF->AJ->Prop:=λ_ _=>False
abbrev ydt(ifs:List AT)(env:Env):HI Bool:=forIn ifs AC λc r=>if r=AC then do let ok <-isTrue c env (eval c env);pure (Go ok)else pure (Go r)
section
variable {pg:A9}{wd:Al}{A:Ax}{R:Gy->AJ->Prop}{s:AJ}
theorem zho{elt tg iter:AT}{ifs:List AT}{sc:Bl}{pos:CW}{it acc:AF}{env:Env}(I:Nat->AJ->Prop)
  (turn:∀n s,I n s->A2 (model pg wd) A (pyNext it) (λr s1=>match r with
   |none=>R (.ok .next) s1
   |some v=>A2 (model pg wd) A (letOwnedTupleGo tg it v) (λ_ s2=>A2 (model pg wd) A (assign tg env v) (λ_ s3=>A2 (model pg wd) A (ydt ifs env) (λok s4=>
     if ok=AC then A2 (model pg wd) A (eval elt env) (λx s5=>A2 (model pg wd) A (call (.builtin "list.append") [acc,x]) (λ_ s6=>∃m,m<n/\I m s6) No s5) No s4
     else ∃m,m<n/\I m s4) No s3) No s2) No s1) No s)
  (n:Nat) (h:I n s):codeAny (model pg wd) A (.compLoop (.ListComp elt [⟨tg,iter,ifs,0⟩] sc pos) 0 it acc env) R s:=by
 refine codeAny_loop rfl I (λn s hI=>?_) n h;show A2 _ A ((compTurn (.ListComp elt [⟨tg,iter,ifs,0⟩] sc pos) 0 it acc env).onRaise (λx=>do noteFrame x env;theTreesLotGoes x)) _ _ s;refine wpAny_noted ?_;rw[compTurn_list];refine AH (Ed (AH (C0 (turn n s hI) (λr s1 h1=>?_) λ_ _ f=>f.elim)))
 cases r with
 |none=>exact AU h1
 |some v=>
  refine AH (C0 h1 (λ_ s2 h2=>AH (C0 h2 (λ_ s3 h3=>AH (C0 h3 (λok s4 h4=>?_) λ_ _ f=>f.elim)) λ_ _ f=>f.elim)) λ_ _ f=>f.elim)
  cases ok with
  |false=>exact AU ⟨rfl,h4⟩
  |true=>exact AH (AH (C0 h4 (λx s5 h5=>AH (C0 h5 (λ_ s6 h6=>AU (AU ⟨rfl,h6⟩)) λ_ _ f=>f.elim)) λ_ _ f=>f.elim))
end
def yas(env:Env)(r:List (AQ×AI))(x:AQ×DR):List (AQ×AI):=if x.2=.free then(x.1,(env.cells.lookup x.1).getD 0)::r else r
def ydS(sc:Bl)(env:Env):List (AQ×AI):=sc.names.foldl (yas env) []
theorem zgP{α β:Type}{l:List α}{f:α->β->HI (ForInStep β)}{g:β->α->β}(h:∀x∈l,∀c,f x c=pure (.yield (g c x))):∀c:β,forIn l c f=pure (l.foldl g c):=by
 induction l with
 |nil=>exact λ_=>rfl
 |cons x l ih=>
  intro c;rw[FO,h x An,pure_bind,DE];exact ih (λy hy=>h y (AR _ hy)) (g c x)
theorem zda{sc:Bl}{env:Env}(hf:∀y∈sc.names,y.2=.free->∃c,env.cells.lookup y.1=AA c):closureFor sc env=pure (ydS sc env):=by
 erw[closureFor];rw[zgP (g:=yas env) (λx hx c=>?_)]
 .rfl
 .let⟨n,k⟩:=x
  by_cases hk:k=.free
  .subst hk;let⟨a,ha⟩:=hf _ hx rfl;have ha':env.cells.lookup n=AA a:=ha;simp[yas,cellOf,ha']
  .have hb:(k==Ch)=false:=by simpa using hk
   simp[yas,hk,hb]
theorem zdM{env:Env}:∀(l:List (AQ×DR)) (r:List (AQ×AI)),(∀y∈l,y.2=.free->∃c,env.cells.lookup y.1=AA c)->(∀x c,r.lookup x=AA c->env.cells.lookup x=AA c) ->
  ∀x c,(l.foldl (yas env) r).lookup x=AA c->env.cells.lookup x=AA c
 |[],r,_,h=>h
 |y::l,r,hf,h=>by
  refine zdM l (yas env r y) (λz hz=>hf z (AR _ hz)) λx c e=>?_;unfold yas at e
  by_cases hk:y.2=.free
  .let⟨a,ha⟩:=hf y An hk;rw[if_pos hk,Bj]at e
   cases hx:x==y.1 with
   |true=>
    rw[hx,ha]at e;rw[eq_of_beq hx,ha];exact e
   |false=>
    rw[hx]at e;exact h x c e
  .rw[if_neg hk]at e;exact h x c e
theorem zdl{env:Env}{x:AQ}:∀(l:List (AQ×DR)) (r:List (AQ×AI)),(∃c,r.lookup x=AA c)->∃c,(l.foldl (yas env) r).lookup x=AA c
 |[],r,h=>h
 |y::l,r,h=>by
  refine zdl l (yas env r y) ?_;unfold yas
  by_cases hk:y.2=.free
  .rw[if_pos hk,Bj]
   cases hx:x==y.1 with
   |true=>exact⟨_,rfl⟩
   |false=>exact h
  .rw[if_neg hk];exact h
theorem zck{env:Env}:∀(l:List (AQ×DR)) (r:List (AQ×AI)),∀y∈l,y.2=.free->∃c,(l.foldl (yas env) r).lookup y.1=AA c
 |[],_,y,hy,_=>nomatch hy
 |z::l,r,y,hy,hk=>by
  rcases AN.mp hy with e|e
  .subst e;refine zdl l (yas env r y) ?_;unfold yas;rw[if_pos hk,Bj,beq_self_eq_true];exact⟨_,rfl⟩
  .exact zck l (yas env r z) y e hk
theorem mem_of_lookup{β:Type}{x:AQ}{k:β}:∀{l:List (AQ×β)},l.lookup x=AA k->(x,k)∈l
 |[],h=>nomatch h
 |y::l,h=>by
  rw[Bj]at h
  cases hx:x==y.1 with
  |true=>
   rw[hx]at h
   cases h
   rw[eq_of_beq hx];exact An
  |false=>
   rw[hx]at h;exact AR _ (mem_of_lookup h)
def yc5(env:Env)(x:AQ)(k:DR):NameKind:=if (k==.free&&env.scope.kind==.function&&env.kindOf x==AA .cell)=AC then .cell else k
theorem zdH{sc:Bl}{env:Env}(x:AQ):(relabel sc env).names.lookup x=(sc.names.lookup x).map (yc5 env x):=by
 unfold relabel;show (sc.names.map λ(n,k)=>if (k==Ch&&env.scope.kind==.function&&env.kindOf n==AA .cell)then(n,Fi)else(n,k)).lookup x=_
 induction sc.names with
 |nil=>rfl
 |cons y l ih=>
  let⟨n,k⟩:=y;rw[AL];show Bu x ((if (k==Ch&&env.scope.kind==.function&&env.kindOf n==AA .cell)=AC then(n,Fi)else(n,k))::_)=_
  cases hx:x==n with
  |true=>
   have e:=eq_of_beq hx;subst e
   by_cases hc:(k==Ch&&env.scope.kind==.function&&env.kindOf x==AA .cell)=AC
   .rw[if_pos hc,Bj,beq_self_eq_true];simp[yc5,hc]
   .rw[if_neg hc,Bj,beq_self_eq_true];simp[yc5,hc]
  |false=>
   by_cases hc:(k==Ch&&env.scope.kind==.function&&env.kindOf n==AA .cell)=AC
   .rw[if_pos hc];erw[Bj,hx];exact ih
   .rw[if_neg hc];erw[Bj,hx];exact ih
structure CI where
 C:AI
 s:AJ
 H:Hp
 fp:List AI
def cxC(X:Cx)(sc:Bl)(NC:List AQ)(j:CI):Cx where
 prog:=X.prog
 w:=X.w
 K:=X.K
 mg:=X.mg
 base:=X.base
 A:=X.A
 N:=NC
 s₀:=j.s
 H₀:=j.H
 env:=compEnvC sc (ydS sc X.env) j.C X.env
 outer:=X.stack
 stack:=X.stack
 ex:=j.fp
 fn:=λ_=>AB
 calm:=X.calm
 pn:=[]
 xe:=No
def inn(slots:List (Option Nat))(σ:St):St:=slots.map λo=>o.bind λj=>(σ[j]?).join
structure yau(X:Cx)(sc:Bl)(NC:List AQ)(slots:List (Option Nat)):Prop where
 kind:sc.kind=.function
 names:∀y∈sc.names,y.2=.local->sc.names.lookup y.1=AA .local
 nocell:∀y∈sc.names,y.2 ≠ .cell
 free:∀y∈sc.names,y.2=.free->X.env.scope.names.lookup y.1=AA .cell
 slot:∀(i:Nat) (x:AQ) (j:Nat),NC[i]?=AA x->slots[i]?=AA (AA j)->X.N[j]?=AA x/\sc.names.lookup x=AA .free
 len:slots.length=NC.length
theorem ydH{X:Cx}{sc:Bl}{NC:List AQ}{slots:List (Option Nat)}(N:List AQ)(so:Bl)(hN:X.N=N)(hs:X.env.scope=so)(kind:sc.kind=.function)
  (names:∀y∈sc.names,y.2=.local->sc.names.lookup y.1=AA .local) (nocell:∀y∈sc.names,y.2 ≠ .cell) (free:∀y∈sc.names,y.2=.free->so.names.lookup y.1=AA .cell)
  (slot:∀p∈NC.zip slots,(p.2.all λj=>decide (N[j]?=AA p.1/\sc.names.lookup p.1=AA .free))=AC) (len:slots.length=NC.length):yau X sc NC slots:=by
 subst hN hs;refine⟨kind,names,nocell,free,λi x j e1 e2=>?_,len⟩;have hm:(x,AA j)∈NC.zip slots:=A3 (i:=i) (by rw[List.getElem?_zip_eq_some];exact⟨e1,e2⟩);have:=slot _ hm;simpa using this
section
variable {X:Cx}{sc:Bl}{NC:List AQ}{slots:List (Option Nat)}{pins:List (AI×CC)}{σ:St}{H:Hp}{s:AJ}
theorem yau.cells(O:yau X sc NC slots)(ok:X.Ok):∀y∈sc.names,y.2=.free->∃c,X.env.cells.lookup y.1=AA c:=λy hy hk=>ok.has y.1 (.inl (O.free y hy hk))
theorem yau.sub(O:yau X sc NC slots)(ok:X.Ok):∀x c,(ydS sc X.env).lookup x=AA c->X.env.cells.lookup x=AA c:=zdM sc.names [] (O.cells ok) λ_ _ e=>nomatch e
theorem yau.rel(O:yau X sc NC slots)(ok:X.Ok){x:AQ}(h:sc.names.lookup x=AA .free):(relabel sc X.env).names.lookup x=AA .cell:=by
 rw[zdH,h];have e:X.env.kindOf x=AA .cell:=O.free _ (mem_of_lookup h) rfl;simp[yc5,ok.kind,e]
theorem zgE(I:Inv X pins σ H s)(O:yau X sc NC slots){fp:List AI}(hf:∀b∈fp,ybx X pins H b)(hob:∀b∈fp,∃o,s.heap.get? b=AA o){h1:BF}{t':Nat}{m:AQ->Option AF}(hns:h1.Ns s.heap.objs.size m)
  (hk:∀b o,s.heap.get? b=AA o->h1.get? b=AA o):Inv (cxC X sc NC ⟨s.heap.objs.size,s,H,fp⟩) [] (inn slots σ) H {s with heap:=h1,toks:=t'}:=by
 have sub:=O.sub I.ok;have fss:∀b,b≠X.env.locals->b∉X.fs->b∉frs X.stack:=λb h1 h2 hb=>(AN.mp (I.stkSub b hb)).elim h1 h2;have ltC:∀x c,(ydS sc X.env).lookup x=AA c->c<s.heap.objs.size:=λx c e=>by
  let⟨v,q⟩:=I.cell x c (sub x c e);exact q.lt
 refine⟨⟨I.ok.mod,O.kind,I.ok.glob,I.ok.blt,AS _,λx y c e1 e2=>I.ok.inj x y c (sub x c e1) (sub y c e2),λx hx=>?_,λ_ _ z=>(nomatch z),I.ok.hd,I.ok.frames,.inl rfl,λb hb=>⟨?_,λx c e=>(hf b hb).2.2.2.2.1 x c (sub x c e)⟩,I.bs,BU I.ok.bsz I.sz,λb o e hb=>?_,λb hb=>fss b (hf b hb).2.1 (hf b hb).2.2.1,I.stack,I.stkFree⟩,
  rfl,I.bare,Un.kept hk,⟨m,hns,λi x v e1 e2 e3=>?_⟩,λx c e=>?_,I.hok.fresh (AS _),λx c e=>I.freeC x c (sub x c e),λp hp=>(nomatch hp),I.hok.kept hk,?_⟩
 .have hx':(relabel sc X.env).names.lookup x=AA .cell \/ (relabel sc X.env).names.lookup x=AA .free:=hx;rw[zdH]at hx'
  cases q:sc.names.lookup x with
  |none=>
   rw[q]at hx';rcases hx' with z|z<;>cases z
  |some k=>
   have hm:=mem_of_lookup q;have hkf:k=.free:=by
    rw[q]at hx';have nc:=O.nocell _ hm
    by_cases hk:k=.free
    .exact hk
    .exfalso;have hb:(k==Ch)=false:=by simpa using hk
     rcases hx' with z|z
     .simp[yc5,hb]at z;exact nc z
     .simp[yc5,hb]at z;exact hk z
   subst hkf;exact zck sc.names [] _ hm rfl
 .let⟨o,e⟩:=hob b hb;exact Aq (AX e)
 .rcases (hf b hb).2.2.2.1 with z|z
  .exact I.ok.noex b o e z
  .exact absurd (A5 (AX e) (BU I.ok.bsz z)) (DA _)
 .obtain⟨j,e4,e5⟩:∃j,slots[i]?=AA (AA j)/\σ[j]?=AA (AA v):=by
   have e2':(slots.map λo=>o.bind λj=>(σ[j]?).join)[i]?=AA (AA v):=e2;rw[CA]at e2'
   cases q:slots[i]? with
   |none=>
    rw[q]at e2'
    cases e2'
   |some o=>
    rw[q]at e2'
    cases o with
    |none=>cases e2'
    |some j=>
     refine⟨j,rfl,?_⟩;have e6:(σ[j]?).join=AA v:=AW e2'
     cases q2:σ[j]? with
     |none=>
      rw[q2]at e6
      cases e6
     |some w=>
      rw[q2]at e6;have e7:w=AA v:=e6;rw[e7]
  let⟨e6,e7⟩:=O.slot i x j e1 e4;have kc:X.env.scope.names.lookup x=AA .cell:=O.free _ (mem_of_lookup e7) rfl;let⟨m0,hn0,hl⟩:=I.loc;let⟨u,r,lk⟩:=hl j x v e6 e5 (.inr (.inl kc));refine⟨u,r,.inr ⟨.inl (O.rel I.ok e7),?_⟩⟩;rcases lk with⟨z,_⟩|⟨_,c,hc,o,ho,hd⟩
  .rw[show X.env.kindOf x=AA .cell from kc]at z
   cases z
  .let⟨c',hc'⟩:=zck (env:=X.env) sc.names [] _ (mem_of_lookup e7) rfl;have e8:c'=c:=AW ((sub x c' hc').symm.trans hc);subst e8;exact⟨c',hc',o,hk _ _ ho,hd⟩
 .let⟨v,o,ho,hd⟩:=I.cell x c (sub x c e);exact⟨v,o,hk _ _ ho,hd⟩
 .show (slots.map λo=>o.bind λj=>(σ[j]?).join).length=NC.length;rw[Av,O.len]
theorem zgV(I:Inv X pins σ H s){fp:List AI}(hf:∀b∈fp,ybx X pins H b){C:AI}(hC:s.heap.objs.size<=C){pl:List (AI×CC)}{σ':St}{H':Hp}{s':AJ}(J:Inv (cxC X sc NC ⟨C,s,H,fp⟩) pl σ' H' s')
  {h2:BF} (hb:Cb C s'.heap h2):Inv X pins σ H' {s' with heap:=h2}:=by
 have nC:∀b o,s.heap.get? b=AA o->b≠C:=λb o e=>Aq (A5 (AX e) hC);have B:Un (frs X.stack) fp H H' s.heap s'.heap:=J.base;have fC:H' C=none:=J.free;refine I.call' (ch:=fp) J.os ⟨λb o e n h3 h4=>(hb.2 b (nC b o e)).trans (B.keep b o e n h3 h4),λb o e n h3 h4=>?_,B.free,λb o e h4=>?_,B.tups,B.frzs,B.tbls⟩ (λb u e=>?_) J.bare λb h3=>⟨(hf b h3).2.2.2.1,(hf b h3).2.1,(hf b h3).2.2.2.2.1,(hf b h3).2.2.2.2.2⟩
 .let⟨sl,q⟩:=B.slot b o e n h3 h4;exact⟨sl,(hb.2 b (nC b o e)).trans q⟩
 .let⟨o',q⟩:=B.there b o e h4;exact⟨o',(hb.2 b (nC b o e)).trans q⟩
 .refine(J.hok b u e).stay (λc v hc q=>(hb.2 c λz=>?_).trans q) (λ_ q=>q) λ_ _ q=>q;subst z;rcases hc with z|z
  .rw[z,e]at fC
   cases fC
  .rw[z]at fC
   cases fC
end
def PTs(X:Cx)(ifs:List AT)(t:TT):Prop:=
 ∀(pins:List (AI×CC)) (s:AJ) (σ:St) (H:Hp) (Q:Bool->Hp->Prop),Inv X pins σ H s->t σ H Q->A2 (model X.prog X.w) X.A (ydt ifs X.env) (TP X pins σ Q) X.xe s
def ygO:TT:=λ_ H Q=>Q AC H
theorem zlv{X:Cx}:PTs X [] ygO:=λ_ _ _ H _ I h=>wpAny_tests_nil ⟨H,I,h⟩
theorem zmx{X:Cx}{c:AT}{t:TT}(h:PT X c t):PTs X [c] t:=λpins s σ H Q I q=>wpAny_tests_one (h pins s σ H Q I q)
def ycS(J:It)(D:AI)(g:TG)(ti:TT)(te:TE)(W:Nat->Nat->St->List V->Hp->Prop)(Q:Hp->Prop):Prop:=
 ∀i m σc ys H2,W i m σc ys H2->H2 D=AA (.lst ys)/\((J.stop i H2/\Q H2) \/ (J.go i H2/\ys.length<sizeLine/\∃N:St->List V->Hp->Prop,(∀σ' ys' H',N σ' ys' H'->∃m',m' < m/\W (i+1) m' σ' ys' H') /\
  ∀x H3,J.yld i H2 x H3->g x σc H3 λσ4 H4=>ti σ4 H4 λb H5=>if b=AC then te σ4 H5 λy H6=>H6 D=AA (.lst ys)/\N σ4 (ys++[y]) (upd H6 D (.lst (ys++[y])))else N σ4 ys H5))
def ydn(slots:List (Option Nat))(wi:TI)(g:TG)(ti:TT)(te:TE):TE:=λσ H Q=>wi σ H λJ H1=>∀D,H1 D=AD->∃W:Nat->Nat->St->List V->Hp->Prop,(∃m,W 0 m (inn slots σ) [] (upd H1 D (.lst [])))/\ycS J D g ti te W (Q (.ref D))
section
variable {X:Cx}{sc:Bl}{NC:List AQ}{slots:List (Option Nat)}{elt tg iter:AT}{ifs:List AT}{pos:CW}{g:TG}{ti:TT}{te:TE}
theorem zjM(hc:X.calm=AC)(hg:∀j,PG (cxC X sc NC j) tg g)(ht:∀j,PTs (cxC X sc NC j) ifs ti)(he:∀j,PE (cxC X sc NC j) elt te){cj:CI}{it D:AI}{tn:Nat->BF->Prop}{J:It}
  {W:Nat->Nat->St->List V->Hp->Prop} {Q:Hp->Prop} {R:Gy->AJ->Prop} {s:AJ} {σc:St} {ys:List V} {H:Hp} (T:Turn X.prog X.w X.K tg J cj.fp it tn)
  (I:Inv (cxC X sc NC cj) [] σc H s) (hf:∀b∈cj.fp,ybx (cxC X sc NC cj) [] H b) (st:tn 0 s.heap) {m:Nat} (w0:W 0 m σc ys H) (step:ycS J D g ti te W Q)
  (fin:∀σ' H' s',Inv (cxC X sc NC cj) [] σ' H' s'->Q H'->R (.ok .next) s'):
  codeAny (model X.prog X.w) X.A (.compLoop (.ListComp elt [⟨tg,iter,ifs,0⟩] sc pos) 0 (.ref it) (.ref D) (cxC X sc NC cj).env) R s:=by
 have stat:∀{H':Hp},(∀b∈cj.fp,H' b=AD)->∀b∈cj.fp,ybx (cxC X sc NC cj) [] H' b:=λhn b hb=>⟨hn b hb,(hf b hb).2⟩;refine zho (λn s'=>∃i σ' ys' H',Inv (cxC X sc NC cj) [] σ' H' s'/\tn i s'.heap/\(∀b∈cj.fp,H' b=AD)/\W i n σ' ys' H') ?_ m ⟨0,σc,ys,H,I,st,λb hb=>(hf b hb).1,w0⟩
 rintro n s3 ⟨i,σ3,ys3,H3,I3,st3,fr3,w3⟩
 let⟨hD,q⟩:=step i n σ3 ys3 H3 w3;rcases q with⟨stop,qn⟩|⟨go,hz,N,hN,turn⟩
 .refine thn (T.done (cxC X sc NC cj) rfl rfl rfl hc i [] s3 σ3 H3 No I3 (stat fr3) st3 stop) λr s4 kq=>?_;let⟨hr,I4⟩:=kq;subst hr;exact fin σ3 H3 s4 I4 qn
 .refine thn (T.item (cxC X sc NC cj) rfl rfl rfl hc i [] s3 σ3 H3 No I3 (stat fr3) st3 go) λr s4 kq=>?_;let⟨u,hr,h4⟩:=kq;subst hr;refine thn h4 λ_ s5 kq=>?_;let⟨x,H5,I5,r5,y5,st5,fr5⟩:=kq;have I5':=I5.pinned (stat fr5) (T.obj _ _ st5);refine thn (hg cj _ s5 σ3 H5 x u _ I5' r5 (turn x H5 y5)) λ_ s6 kq=>?_;let⟨σ6,H6,I6,q6⟩:=kq;refine thn (ht cj _ s6 σ6 H6 _ I6 q6) λok s7 kq=>?_;let⟨H7,I7,q7⟩:=kq;have again:∀{σ8:St} {ys8:List V} {H8:Hp} {s8:AJ},Inv (cxC X sc NC cj) ([]++ybo cj.fp s5.heap) σ8 H8 s8->N σ8 ys8 H8->∃m,m<n/\∃i σ' ys' H',Inv (cxC X sc NC cj) [] σ' H' s8/\tn i s8.heap/\(∀b∈cj.fp,H' b=AD)/\W i m σ' ys' H':=λ{σ8 ys8 H8 s8} I8 n8=>by
   let⟨m',hm,w8⟩:=hN σ8 ys8 H8 n8;refine⟨m',hm,i+1,σ8,ys8,H8,I8.unpinned,T.keep _ _ _ st5 λb hb o e=>(I8.pin (b,o) (BK _ (BK _ (zbf hb e)))).1,λb hb=>?_,w8⟩;let⟨o,e,d⟩:=T.obj _ _ st5 b hb;exact(I8.pin (b,o) (BK _ (BK _ (zbf hb e)))).2.1
  cases ok with
  |false=>
   rw[if_neg BD]at q7 ⊢;exact again I7 q7
  |true=>
   rw[if_pos rfl]at q7 ⊢;refine thn (he cj _ s7 σ6 H7 _ I7 q7) λy s8 kq=>?_;let⟨v,H8,I8,r8,hD8,q8⟩:=kq;refine thn (zeS (X:=cxC X sc NC cj) _ s8 σ6 H8 (.ref D) [v] (.ref D) [y] (λz H'=>z=.non/\H'=upd H8 D (.lst (ys3++[v]))) I8 rfl (.cons r8 .nil) ⟨D,ys3,v,rfl,rfl,hD8,hz,rfl,rfl⟩) λz s9 kq=>?_;let⟨zv,H9,I9,r9,e1,e2⟩:=kq;subst e2;exact again I9 q8
theorem zgA(hc:X.calm=AC)(O:yau X sc NC slots)(hg:∀j,PG (cxC X sc NC j) tg g)(ht:∀j,PTs (cxC X sc NC j) ifs ti)(he:∀j,PE (cxC X sc NC j) elt te){pins:List (AI×CC)}{s:AJ}{σ:St}{H:Hp}(I:Inv X pins σ H s)
  {it:AI} {fp:List AI} {tn:Nat->BF->Prop} {J:It} (T:Turn X.prog X.w X.K tg J fp it tn) (st:tn 0 s.heap) (hf:∀b∈fp,ybx X pins H b) {Q:VK}
  (h:∀D,H D=AD->∃W:Nat->Nat->St->List V->Hp->Prop,(∃m,W 0 m (inn slots σ) [] (upd H D (.lst [])))/\ycS J D g ti te W (Q (.ref D))) {RR:AF->AI->Gy->AJ->Prop}
  (fin:∀D C s' H',Q (.ref D) H'->(∃o m,s'.heap.get? C=AA o/\s'.heap.Ns C m/\∀v,o.data ≠ .cell v)->ybx X pins H' C->(∀h2,Cb C s'.heap h2->Inv X pins σ H' {s' with heap:=h2})->RR (.ref D) C (.ok .next) s'):
  A2 (model X.prog X.w) X.A (newList []) (λacc s3=>A2 (model X.prog X.w) X.A (newFunctionEnv sc X.env.globals (ydS sc X.env) [] X.env.qual AD .none (AA X.env)) (λcenv s4=>
   codeAny (model X.prog X.w) X.A (.compStart (.ListComp elt [⟨tg,iter,ifs,0⟩] sc pos) 0 (.ref it) acc {cenv with scope:=relabel sc X.env}) (RR acc cenv.locals) s4) X.xe s3) X.xe s:=by
 refine Ba (wpAny_newFunctionEnv O.nocell (by intro y hy;simp at hy) (λh1 hns1 hsb1=>?_) O.kind);dsimp only at hns1 hsb1 ⊢;have hDn:H s.heap.objs.size=none:=I.hok.fresh (AS _);let⟨W,⟨m,w0⟩,step⟩:=h s.heap.objs.size hDn;obtain⟨s3,hs3⟩:∃x:AJ,x=({s with heap:=s.heap.push {cls:=.type "list",dict:=AD,data:=.seq ([]:List AF).toArray} }:AJ):=⟨_,rfl⟩;have e3:s3.heap=s.heap.push {cls:=.type "list",dict:=AD,data:=.seq ([]:List AF).toArray}:=by rw[hs3]
 rw[<-e3]at hns1 hsb1;have hp3:∀b o,s.heap.get? b=AA o->s3.heap.get? b=AA o:=λb o e=>by
  rw[e3];exact AO _ e
 have I3:Inv X pins σ (upd H s.heap.objs.size (.lst [])) s3:=by
  have q:=I.laid (a:=s.heap.objs.size) (o:=.lst []) (h':=s3.heap) (t':=s.toks) hp3 (AS _) ⟨DN _,[],_,.nil,by rw[e3];exact A7 _ rfl⟩;rw[hs3]at q ⊢;exact q
 have hf3:∀b∈fp,ybx X pins (upd H s.heap.objs.size (.lst [])) b:=λb hb=>by
  let⟨o,e,_⟩:=T.obj _ _ st b hb;refine⟨?_,(hf b hb).2⟩;rw[zk (Aq (AX e))];exact(hf b hb).1
 have st3:tn 0 s3.heap:=T.keep _ _ _ st λb _ o e=>hp3 b o e;have hob:∀b∈fp,∃o,s3.heap.get? b=AA o:=λb hb=>by
  let⟨o,e,_⟩:=T.obj _ _ st3 b hb;exact⟨o,e⟩
 have hk1:∀b o,s3.heap.get? b=AA o->h1.get? b=AA o:=λb o e=>hsb1.extBut b o (Aq (AX e)) (AO _ e);have J1:=zgE (t':=s3.toks+([]:List (AQ×AF)).length) I3 O hf3 hob hns1 hk1;have hfc:∀b∈fp,ybx (cxC X sc NC ⟨s3.heap.objs.size,s3,upd H s.heap.objs.size (.lst []),fp⟩) [] (upd H s.heap.objs.size (.lst [])) b:=λb hb=>
  ⟨(hf3 b hb).1,(J1.ok.exf b hb).1,J1.ok.exfs b hb,.inl hb,(J1.ok.exf b hb).2,λp hp=>nomatch hp⟩
 have loop:codeAny (model X.prog X.w) X.A (.compLoop (.ListComp elt [⟨tg,iter,ifs,0⟩] sc pos) 0 (.ref it) (.ref s.heap.objs.size) (cxC X sc NC ⟨s3.heap.objs.size,s3,upd H s.heap.objs.size (.lst []),fp⟩).env) (RR (.ref s.heap.objs.size) s3.heap.objs.size)
   {s3 with heap:=h1,toks:=s3.toks+([]:List (AQ×AF)).length}:=by
  refine zjM (D:=s.heap.objs.size) (Q:=Q (.ref s.heap.objs.size)) hc hg ht he T J1 hfc (T.keep _ _ _ st3 λb _ o e=>hk1 b o e) w0 step λσ' H' s' J' q'=>?_;have fC:H' s3.heap.objs.size=none:=J'.free;refine fin _ _ s' H' q' ?_ (I3.fpOk (AS _) fC) λh2 hb=>zgV I3 hf3 (AS _) J' hb;let⟨m',hn',_⟩:=J'.loc;let⟨o,es,ep,ho,hd,r⟩:=id hn';exact⟨o,m',ho,hn',λv z=>by rw[hd]at z;cases z⟩
 have self:=λ(RQ:AF->AJ->Prop) (EE:AF->AJ->Prop)=>T.self X.A 0 {s3 with heap:=h1,toks:=s3.toks+([]:List (AQ×AF)).length} RQ EE (T.keep _ _ _ st3 λb _ o e=>hk1 b o e);subst hs3;exact codeAny_compStart_list loop (self _ _ loop)
variable {wi:TI}
theorem zmD(hc:X.calm=AC)(O:yau X sc NC slots)(hi:PI X tg iter wi)(hg:∀j,PG (cxC X sc NC j) tg g)(ht:∀j,PTs (cxC X sc NC j) ifs ti)(he:∀j,PE (cxC X sc NC j) elt te)
  (hs:∀x,foldedSetIterable iter X.env x=pure x:=by intro _;rfl):PE X (.ListComp elt [⟨tg,iter,ifs,0⟩] sc pos) (ydn slots wi g ti te):=by
 intro pins s σ H Q I h;rw[eval_ListComp];refine wpAny_comprehension_free (use:=AD) rfl hs (zda (O.cells I.ok)) O.kind O.names (thn (hi pins s σ H _ I h) λv s1 h1=>thn h1 λitv s2 h2=>?_);let⟨it,fp,tn,J,H2,rfl,I2,T,st2,f2,q2⟩:=h2;refine zgA hc O hg ht he I2 T st2 f2 q2 λD C s' H' q' ⟨o,m,ho,hn,_⟩ _ out=>⟨m,hn,λh2 hb=>⟨.ref D,H',out h2 hb,rfl,q'⟩⟩
end
theorem zgl:∀{bs:List Bool} {us:List AF},Vals (bs.map V.bl) us->LSm.BoolsAre us bs
 |[],_,.nil=>.nil
 |b::bs,_,.cons r q=>by
  cases (show _=ED b from r)
  exact .cons b (zgl q)
section
variable {X:Cx}
def ygB(K:AE):List V->Hp->VK->Prop:=λxs H Q=>∃(l:AI) (bs:List Bool),xs=[.ref l]/\SqL K H l (bs.map V.bl)/\Q (.bl (bs.all id)) H
theorem zi8(hc:X.calm=AC):yat X (.builtin "all") (ygB X.K):=by
 intro pins s σ H xs us Q I r h;let⟨l,bs,rfl,hq,q⟩:=h;let⟨u,rfl,ru⟩:=Vals.one r
 cases (show u=Ai l from ru)
 let⟨its,rv,pl,hz⟩:=I.list hq;have hb:=zgl rv;have hl:=pl.isList;have hlt:l<s.heap.objs.size:=by
  let⟨_,e,_⟩:=hl;exact AX e
 refine call_all_walk (GP hl ?_);refine⟨s.heap.objs.size,[s.heap.objs.size,l],[s.heap.objs.size],its.toArray.size,_,_,λi=>(bs[i]?).getD AC,rfl,Walks.list (A:=X.A.in1) (I.ok.hd hc) _ l (Aq hlt) its.toArray,⟨⟨_,A7 _ rfl,rfl,rfl⟩,hl.push _⟩,λi v s' Q' E' hP hQ=>?_,λh' tk hk=>?_⟩
 .let⟨b,e,rfl⟩:=hb.get i v (by simpa using hP);erw[e,CN]at hQ;exact B9 hQ
 .have e:((EF its.toArray.size).all λi=>(bs[i]?).getD AC)=bs.all id:=by
   rw[AY,hb.length];exact LSm.range_all bs
  rw[e];exact⟨.bl _,H,I.kept (t':=tk) (LSm.kept_iter hk),rfl,q⟩
end
section
variable {X:Cx}{pins:List (AI×CC)}{σ:St}{H:Hp}{s:AJ}
end
section
variable {X:Cx}{a:AT}{ta:TE}{K:AE}
end
end L2
namespace L2
end L2
namespace L2
open PySem PySem.Spec PyProof.Rows
def CX1(P:A9)(w:Al):CXT:=λouter H s E e s'=>∃(a:AI) (cls a0:AF) (H':Hp) (B:BF),e=.ref a/\s'.os=s.os/\Dj s'.gens/\HV B outer a cls a0 s'.heap/\HOk P w H' s'.heap/\Un (frs outer) [] H H' s.heap s'.heap /\
 (∀b o,s.heap.get? b=AA o->H b=AD->b∉frs outer->B.get? b=AA o)/\(∀b u,H' b=AA u->∃o,B.get? b=AA o)/\(∀b o,s.heap.get? b=AA o->b∉frs outer->∃o',B.get? b=AA o')/\E cls AD H'
theorem yai.there{P:A9}{w:Al}{H:Hp}{h:BF}{a:AI}{o:HO}(x:yai P w H h a o):∃ob,h.get? a=AA ob:=by
 induction o with
 |lst xs=>let⟨_,_,_,_,e⟩:=x;exact⟨_,e⟩
 |tup xs=>let⟨_,_,_,ob,e,_⟩:=x;exact⟨ob,e⟩
 |dK kvs=>let⟨_,_,_,_,ob,_,_,e,_⟩:=x;exact⟨ob,e⟩
 |dT kvs=>let⟨_,_,_,_,ob,_,_,e,_⟩:=x;exact⟨ob,e⟩
 |set S n=>let⟨ob,_,_,_,e,_⟩:=x;exact⟨ob,e⟩
 |ins C dx fs=>let⟨_,_,_,e,_⟩:=x;exact⟨_,e⟩
 |own y=>exact x
 |xd fs=>let⟨_,⟨ob,_,_,e,_⟩,_⟩:=x;exact⟨ob,e⟩
 |rng lo hi=>let⟨_,_,_,e⟩:=x;exact⟨_,e⟩
 |frz ob u ih=>exact⟨ob,x.1⟩
 |tbl ps=>exact⟨_,x⟩
 |met f y=>exact⟨_,x⟩
 |ext φ=>exact x.2.1
theorem HOk.inB{P:A9}{w:Al}{H:Hp}{h h' B:BF}(ok:HOk P w H h)(hB:B.StaysIn h)(hB':B.StaysIn h')(tr:∀b u,H b=AA u->∃o,B.get? b=AA o):HOk P w H h':=λa o e=>
 (ok a o e).stay (λb u hb q=>by
  have hb':∃o,B.get? b=AA o:=by
   rcases hb with z|z
   .rw[z];exact tr a o e
   .exact tr b _ z
  let⟨o',q'⟩:=hb';have:=hB b o' q';rw[q]at this
  cases this
  exact hB' b u q') (λ_ q=>q) λ_ _ q=>q
section
variable {P:A9}{w:Al}{K:AE}{mg:AQ->Option AF}{base:BF}{N:List AQ}{qual:AQ}{scope:Bl}{f:AI}{cd:AF}{A:Ax}{outer:List Env}{s₀:AJ}{H₀:Hp}{E:XK}
 {pins:List (AI×CC)} {σ:St} {H:Hp} {s:AJ}
theorem zim{h':BF}{e:AI}{cls:AF}{vs:List AF}(I:Inv (ya4 (CX1 P w) P w K mg base N qual scope f cd A outer s₀ H₀ E) pins σ H s)(hx:HD s.heap h' e cls vs)(hE:E cls AD H):
  (ya4 (CX1 P w) P w K mg base N qual scope f cd A outer s₀ H₀ E).xe (.ref e) {s with heap:=h'}:=by
 have stk:s.heap.FunFrames base (envOfC qual scope s₀.heap.objs.size f cd::outer):=I.stack;have hst:∀b,b∈frs (envOfC qual scope s₀.heap.objs.size f cd::outer)->b=s₀.heap.objs.size \/ b∈frs outer:=λb hb=>by
  have hb':b∈s₀.heap.objs.size::frs outer:=hb;exact AN.mp hb'
 have inB:∀b o,s.heap.get? b=AA o->b∉frs (envOfC qual scope s₀.heap.objs.size f cd::outer)->(DD s.heap (frs (envOfC qual scope s₀.heap.objs.size f cd::outer))).get? b=AA o:=λb o q n=>Fa _ q n;have hB:(DD s.heap (frs (envOfC qual scope s₀.heap.objs.size f cd::outer))).StaysIn s.heap:=λb o q=>Fr _ q;have bse:Un (frs outer) [] H₀ H s₀.heap s.heap:=I.base;have lt:∀b o,s₀.heap.get? b=AA o->b≠s₀.heap.objs.size:=λb o q=>Aq (AX q);have tr:∀b u,H b=AA u->∃o,(DD s.heap (frs (envOfC qual scope s₀.heap.objs.size f cd::outer))).get? b=AA o:=λb u q=>by
  let⟨o,ho⟩:=yai.there (I.hok b u q);exact⟨o,inB b o ho λhb=>by
   have:=I.stkFree b hb;rw[q]at this
   cases this⟩
 refine wpAny_leaves_madeW (base:=DD s.heap (frs (envOfC qual scope s₀.heap.objs.size f cd::outer))) (h:=s.heap) I.ok.frames rfl hB (PySem.W.funFrames_hide stk λenv he a ha=>EJ.mpr ⟨env,he,ha⟩) hx λh'' t fl tu tn up=>?_;have up':s.heap.UpToSlots h'':=(HQ hx.keeps).trans up;refine⟨e,cls,_,H,_,rfl,I.os,I.bare,fl,HOk.inB I.hok hB fl.1 tr,⟨λb o q n hb _=>?_,λb o q n hb _=>?_,bse.free,λb o q _=>?_,bse.tups,bse.frzs,bse.tbls⟩,λb o q n hb=>?_,tr,λb o q hb=>?_,hE⟩
 .refine fl.1 b o (inB b o (bse.keep b o q n hb (by simp)) λz=>?_);rcases hst b z with z|z
  .exact lt b o q z
  .exact hb z
 .let⟨sl,q1⟩:=bse.slot b o q n hb (by simp);let⟨_,o',ho',hd⟩:=CT stk (show b∈DW (λ(z:Env)=>z.frame) _ from AR _ hb);let⟨sl',q2⟩:=up' b _ q1 (by rw[ho']at q1;cases q1;exact hd);exact⟨sl',q2⟩
 .let⟨o',q1⟩:=bse.there b o q (by simp)
  by_cases hb:b∈frs (envOfC qual scope s₀.heap.objs.size f cd::outer)
  .let⟨_,o2,ho',hd⟩:=CT stk hb;let⟨sl',q2⟩:=up' b _ ho' hd;exact⟨_,q2⟩
  .exact⟨o',fl.1 b o' (inB b o' q1 hb)⟩
 .refine inB b o (bse.keep b o q n hb (by simp)) λz=>?_;rcases hst b z with z|z
  .exact lt b o q z
  .exact hb z
 .let⟨o',q1⟩:=bse.there b o q (by simp);refine⟨o',inB b o' q1 λz=>?_⟩;rcases hst b z with z|z
  .exact lt b o q z
  .exact hb z
theorem yen:ybL (CX1 P w) (ya4 (CX1 P w) P w K mg base N qual scope f cd A outer s₀ H₀ E) E:=by
 intro pins σ H s e s' I h;let⟨a,cls,a0,H',B,rfl,os,bare,fl,hok,un,hB,tr,hT,hE⟩:=h;have bse:Un (frs outer) [] H₀ H s₀.heap s.heap:=I.base;have lt:∀b o,s₀.heap.get? b=AA o->b≠s₀.heap.objs.size:=λb o q=>Aq (AX q);have hst:∀b,b∈frs (envOfC qual scope s₀.heap.objs.size f cd::outer)->b=s₀.heap.objs.size \/ b∈frs outer:=λb hb=>by
  have hb':b∈s₀.heap.objs.size::frs outer:=hb;exact AN.mp hb'
 have un':Un (frs (envOfC qual scope s₀.heap.objs.size f cd::outer)) [] H H' s.heap s'.heap:=un;have kB:∀b o,s₀.heap.get? b=AA o->H₀ b=AD->b∉frs outer->B.get? b=AA o:=λb o q n hb=>hB b o (bse.keep b o q n hb (by simp)) (bse.free b o q n (by simp)) λz=>by
  rcases hst b z with z|z
  .exact lt b o q z
  .exact hb z
 have kT:∀b o,s₀.heap.get? b=AA o->b∉frs outer->∃o',B.get? b=AA o':=λb o q hb=>by
  let⟨o',q1⟩:=bse.there b o q (by simp);refine hT b o' q1 λz=>?_;rcases hst b z with z|z
  .exact lt b o q z
  .exact hb z
 refine wpAny_leaves_onW I.ok.frames rfl fl λh'' fl' up=>?_;refine⟨a,cls,a0,H',B,rfl,os.trans I.os,bare,fl',HOk.inB hok fl.1 fl'.1 tr,⟨λb o q n hb _=>fl'.1 b o (kB b o q n hb),λb o q n hb _=>?_,λb o q n _=>?_,λb o q _=>?_,λb xs q=>un'.tups b xs (bse.tups b xs q),λb o u q=>un'.frzs b o u (bse.frzs b o u q),λb ps q=>?_⟩,kB,tr,kT,hE⟩
 .let⟨sl,q1⟩:=bse.slot b o q n hb (by simp);have n1:=bse.free b o q n (by simp);let⟨sl1,q2⟩:=un'.slot b _ q1 n1 (AR _ hb) (by simp);let⟨_,o',ho',hd⟩:=CT fl.2.2.1 (show b∈DW (λ(z:Env)=>z.frame) _ from AR _ hb);let⟨sl',q3⟩:=up b _ q2 (by rw[ho']at q2;cases q2;exact hd);exact⟨sl',q3⟩
 .let⟨o',q1⟩:=bse.there b o q (by simp);exact un'.free b o' q1 (bse.free b o q n (by simp)) (by simp)
 .let⟨o',q1⟩:=bse.there b o q (by simp);let⟨o2,q2⟩:=un'.there b o' q1 (by simp)
  by_cases hb:b∈frs outer
  .let⟨_,o3,ho3,hd⟩:=CT fl.2.2.1 (show b∈DW (λ(z:Env)=>z.frame) _ from AR _ hb);let⟨sl',q3⟩:=up b _ ho3 hd;exact⟨_,q3⟩
  .let⟨o4,q4⟩:=kT b o q hb;exact⟨o4,fl'.1 b o4 q4⟩
 .let⟨m1,e1⟩:=bse.tbls b ps q;let⟨m2,e2⟩:=un'.tbls b _ e1;exact⟨m1++m2,by rw[e2,EG]⟩
end
section
variable {X:Cx}{e:AT}{es:List AT}{te:TE}
end
section
variable {X:Cx}{e:AT}{es:List AT}{t:TA}{E:XK}
end
section
variable {pg:A9}{wd:Al}{A:Ax}{E:AF->AJ->Prop}{h:BF}{g:Array GenState}{d:Drawn}{t:Nat}{os:OsState}{a C:AI}{o:CC}{K:AE}
end
def yhl(a C:AI):BF->Prop:=λh=>∃o,h.get? a=AA o/\o.cls=.ref C
section
variable {X:Cx}
end
section
variable {X:Cx}{pins:List (AI×CC)}{σ:St}{H:Hp}{s:AJ}
end
section
variable {X:Cx}{pins:List (AI×CC)}{σ:St}{H:Hp}{s:AJ}
end
section
variable {X:Cx}{body suite:List Bz}{b₀:Bz}{x n:AQ}{np hpos pos:CW}{tb:XK->TS}{ts:TS}{W:AI}{i:Nat}
end
structure ydx(k:Nat)(A:Ax):Prop where
 dp:A.depth+3*k+5<recursionLimit
 un:A.units+16*k+200<cLine
section
variable {P:A9}{w:Al}{K:AE}{mg:AQ->Option AF}{base:BF}
end
section
variable {X:Cx}{k:Nat}{f:AI}{fd:BG}{ps:List AQ}{sp:Sp}{x:AQ}{p pos:CW}{e:AT}{es:List AT}{t:TA}
end
section
variable {P:A9}{w:Al}{K:AE}{mg:AQ->Option AF}{base:BF}
theorem own1{N:List AQ}{qual:AQ}{scope:Bl}{f:AI}{cd:AF}{A:Ax}{outer:List Env}{s:AJ}{H:Hp}{E:XK}{CX:CXT}:
  Ei (model (ya4 CX P w K mg base N qual scope f cd A outer s H E).prog (ya4 CX P w K mg base N qual scope f cd A outer s H E).w) (ya4 CX P w K mg base N qual scope f cd A outer s H E).A (ya4 CX P w K mg base N qual scope f cd A outer s H E).env (ya4 CX P w K mg base N qual scope f cd A outer s H E).xe:=
 PassesOwn.leaving
end
section
variable {X:Cx}
end
section
variable {X:Cx}
def yhh(K:AE):List V->Hp->VK->Prop:=λxs H Q=>∃(l:AI) (ns:List Int),xs=[.ref l]/\SqL K H l (ns.map V.int)/\Q (.int ns.sum) H
theorem zjS(hc:X.calm=AC):yat X (.builtin "sum") (yhh X.K):=by
 intro pins s σ H xs us Q I r h;let⟨l,ns,rfl,hq,q⟩:=h;let⟨u,rfl,ru⟩:=Vals.one r
 cases (show u=Ai l from ru)
 let⟨its,rv,pl,hz⟩:=I.list hq;have hi:FC its ns:=zdF rv;let⟨ys,e⟩:=hi.allInts.items;have hns:ns=ys.toList.map (·.1):=by rw[<-hi.numsOf,<-nums_intItems,<-e]
 have hl:=pl.isList;rw[e]at hl;refine sum_intListG (I.ok.hd hc) hl λh' tk t' hk=>⟨.int ns.sum,H,I.kept (t':=tk) hk,⟨t',?_⟩,q⟩;rw[preSum_eq,DX (by simp),<-hns]
def ygh(K:AE):List V->Hp->VK->Prop:=λxs H Q=>∃(l:AI) (ns:List Int),xs=[.ref l]/\SqL K H l (ns.map V.int)/\0<ns.length/\∀M,M∈ns->(∀a,a∈ns->a<=M)->Q (.int M) H
theorem zin(hc:X.calm=AC):yat X (.builtin "max") (ygh X.K):=by
 intro pins s σ H xs us Q I r h;let⟨l,ns,rfl,hq,hne,q⟩:=h;let⟨u,rfl,ru⟩:=Vals.one r
 cases (show u=Ai l from ru)
 let⟨its,rv,pl,hz⟩:=I.list hq;have hi:FC its ns:=zdF rv;let⟨ys,e⟩:=hi.allInts.items;have hns:ns=ys.toList.map (·.1):=by rw[<-hi.numsOf,<-nums_intItems,<-e]
 have hsz:0<ys.size:=by
  rw[hns,Av,CG]at hne;exact hne
 have hl:=pl.isList;rw[e]at hl;refine max_intList (I.ok.hd hc) hl hsz λv h' tk hv hk=>?_;let⟨t,rfl⟩:=intItems_at hv;let⟨h1,h2⟩:=argBest_gt (numAt ys) (ys.size-1);refine⟨.int _,H,I.kept (t':=tk) hk,⟨t,rfl⟩,q _ ?_ λa ha=>?_⟩
 .rw[hns,numAt_eq];exact getD_mem (by rw[Av,CG];lia)
 .rw[hns]at ha;let⟨j,hj,rfl⟩:=mem_getD ha;rw[Av,CG]at hj;rw[<-numAt_eq];exact h2 j (by lia)
end
section
variable {κ:Type}[DecidableEq κ]
def ybQ(kvs:List (κ×V))(k:κ):Option V:=(kvs.find? λkv=>decide (kv.1=k)).map (·.2)
def putK(kvs:List (κ×V))(k:κ)(v:V):List (κ×V):=
 if (kvs.any λkv=>decide (kv.1=k))=AC then kvs.map (λkv=>if kv.1=k then(kv.1,v)else kv)else kvs++[(k,v)]
theorem zb6{p:κ×V}{r:List (κ×V)}{k:κ}(e:p.1=k):ybQ (p::r) k=AA p.2:=by simp[ybQ,CF,e]
theorem zbO{p:κ×V}{r:List (κ×V)}{k:κ}(e:¬p.1=k):ybQ (p::r) k=ybQ r k:=by simp[ybQ,CF,e]
theorem zfS(k:κ):∀kvs:List (κ×V),(kvs.any λkv=>decide (kv.1=k))=(ybQ kvs k).isSome
 |[]=>rfl
 |p::r=>by
  rw[Bm]
  by_cases e:p.1=k
  .simp only[zb6 e,decide_eq_true e,GQ,Option.isSome_some]
  .rw[zbO e,decide_eq_false e,Fj];exact zfS k r
theorem zdq(kvs:List (κ×V))(k:κ)(v:V):(putK kvs k v).length<=kvs.length+1:=by
 unfold putK;split
 .rw[Av];lia
 .rw[Af,AZ,Bq];lia
theorem ybw.isSome_eq{o:Option V}{u:Option AF}(r:ybw o u):o.isSome=u.isSome:=by
 cases o with
 |none=>cases u with
  |none=>rfl
  |some _=>exact(show False from r).elim
 |some _=>cases u with
  |none=>exact(show False from r).elim
  |some _=>rfl
theorem ybw.getD{o:Option V}{u:Option AF}{d:V}{d':AF}(r:ybw o u)(rd:RelV d d'):RelV (o.getD d) (u.getD d'):=by
 cases o with
 |none=>cases u with
  |none=>exact rd
  |some _=>exact(show False from r).elim
 |some _=>cases u with
  |none=>exact(show False from r).elim
  |some _=>exact r
theorem KV.val{kvs:List (κ×V)}{vs:List (κ×AF)}(r:KV kvs vs)(k:κ):ybw (ybQ kvs k) (valueAt vs k):=by
 unfold KV at r
 induction r with
 |nil=>exact Cc
 |@cons p q ps qs h t ih=>
  let⟨h1,h2⟩:=h
  by_cases e:p.1=k
  .have e':q.1=k:=h1.symm.trans e;have b:valueAt (q::qs) k=AA q.2:=by simp[valueAt,CF,e']
   rw[zb6 e,b];exact h2
  .have e':¬q.1=k:=λz=>e (h1.trans z);have b:valueAt (q::qs) k=valueAt qs k:=by simp[valueAt,CF,e']
   rw[zbO e,b];exact ih
theorem KV.any{kvs:List (κ×V)}{vs:List (κ×AF)}(r:KV kvs vs)(k:κ):(kvs.any λkv=>decide (kv.1=k))=vs.any λkv=>decide (kv.1=k):=by
 unfold KV at r
 induction r with
 |nil=>rfl
 |cons h t ih=>rw[Bm,Bm,ih,h.1]
theorem KV.repl{kvs:List (κ×V)}{vs:List (κ×AF)}(r:KV kvs vs)(k:κ){y:V}{u:AF}(ry:RelV y u):
  KV (kvs.map λkv=>if kv.1=k then(kv.1,y)else kv) (vs.map λkv=>if kv.1=k then(kv.1,u)else kv):=by
 unfold KV at r ⊢
 induction r with
 |nil=>exact .nil
 |@cons p q ps qs h t ih=>
  rw[AL,AL];refine .cons ?_ ih;let⟨h1,h2⟩:=h
  by_cases e:p.1=k
  .rw[if_pos e,if_pos (h1.symm.trans e)];exact⟨h1,ry⟩
  .rw[if_neg e,if_neg (λz=>e (h1.trans z))];exact⟨h1,h2⟩
theorem KV.put{kvs:List (κ×V)}{vs:List (κ×AF)}(r:KV kvs vs)(k:κ){y:V}{u:AF}(ry:RelV y u):KV (putK kvs k y) (stored vs k u):=by
 unfold putK stored;rw[r.any k]
 by_cases e:(vs.any λkv=>decide (kv.1=k))=AC
 .rw[if_pos e,if_pos e];exact r.repl k ry
 .rw[if_neg e,if_neg e];exact Hg r ⟨rfl,ry⟩
theorem KV.length{kvs:List (κ×V)}{vs:List (κ×AF)}(r:KV kvs vs):kvs.length=vs.length:=Ec r
end
theorem zld{P:A9}{w:Al}{k:Key}{u:AF}(r:RelV (kV k) u):(yaa P w).is k u=true:=by
 cases k with
 |inl i=>let⟨t,e⟩:=(show ∃t,u=Eh i t from r);subst e;exact zfx P w i t
 |inr x=>let⟨t,e⟩:=(show ∃t,u=GX x t from r);subst e;exact zfq P w x t
theorem zeE{P:A9}{w:Al}:∀{ks:List Key} {us:List AF},Vals (ks.map kV) us->ItemsAre (yaa P w) ks us
 |[],_,r=>by rw[Ad]at r;cases r;exact .nil
 |k::ks,_,r=>by
  rw[AL]at r
  cases r with
  |cons h t=>exact .cons (zld h) (zeE t)
abbrev KT(H:Hp):List (List Key×V)->List (List Key×AI×AF)->Prop:=Gv λp q=>p.1=q.1/\H q.2.1=AA (.tup (p.1.map kV))/\RelV p.2 q.2.2
theorem KT.val{H:Hp}{kvs:List (List Key×V)}{xs:List (List Key×AI×AF)}(r:KT H kvs xs)(k:List Key):ybw (ybQ kvs k) ((atKey xs k).map (·.2)):=by
 induction r with
 |nil=>exact Cc
 |@cons p q ps qs h t ih=>
  let⟨h1,_,h2⟩:=h
  by_cases e:p.1=k
  .have e':q.1=k:=h1.symm.trans e;have b:atKey (q::qs) k=AA q.2:=by simp[atKey,CF,e']
   rw[zb6 e,b];exact h2
  .have e':¬q.1=k:=λz=>e (h1.trans z);have b:atKey (q::qs) k=atKey qs k:=by simp[atKey,CF,e']
   rw[zbO e,b];exact ih
theorem KT.repl{H:Hp}{kvs:List (List Key×V)}{xs:List (List Key×AI×AF)}(r:KT H kvs xs)(k:List Key){y:V}{u:AF}(ry:RelV y u):
  KT H (kvs.map λkv=>if kv.1=k then(kv.1,y)else kv) (xs.map (putAt k u)):=by
 induction r with
 |nil=>exact .nil
 |@cons p q ps qs h t ih=>
  rw[AL,AL];refine .cons ?_ ih;let⟨h1,h2,h3⟩:=h;unfold putAt
  by_cases e:p.1=k
  .rw[if_pos e,if_pos (h1.symm.trans e)];exact⟨h1,h2,ry⟩
  .rw[if_neg e,if_neg (λz=>e (h1.trans z))];exact⟨h1,h2,h3⟩
theorem KT.put{H:Hp}{kvs:List (List Key×V)}{xs:List (List Key×AI×AF)}(r:KT H kvs xs)(k:List Key){b:AI}{y:V}{u:AF}(hb:H b=AA (.tup (k.map kV)))(ry:RelV y u):
  KT H (putK kvs k y) (storedH xs k b u):=by
 have e:(kvs.any λkv=>decide (kv.1=k))=(atKey xs k).isSome:=by
  rw[zfS,(r.val k).isSome_eq,Option.isSome_map]
 unfold putK storedH;rw[e]
 by_cases q:(atKey xs k).isSome=AC
 .rw[if_pos q,if_pos q];exact r.repl k ry
 .rw[if_neg q,if_neg q];exact Hg r ⟨rfl,hb,ry⟩
theorem KT.keeps{H H':Hp}{kvs:List (List Key×V)}{xs:List (List Key×AI×AF)}(r:KT H kvs xs)(ht:∀b ys,H b=AA (.tup ys)->H' b=AA (.tup ys)):KT H' kvs xs:=
 Paired.mapP r λ_ _ z=>⟨z.1,ht _ _ z.2.1,z.2.2⟩
section
variable {P:A9}{w:Al}{H:Hp}{h:BF}{a:AI}
theorem zpm{u:HO}(ok:HOk P w H h)(e:Rd H a u):yai P w H h a u:=e.ok ok
theorem zla{kvs:List (Key×V)}(ok:HOk P w H h)(e:Rd H a (.dK kvs)):kvs.length<=sizeLine/\(a==sysModules)=AB/\∃vs,KV kvs vs/\h.DictOf (yaa P w) a vs:=
 show yai P w H h a (.dK kvs)from zpm ok e
theorem zpX{kvs:List (Key×V)}(ok:HOk P w H h)(e:H a=AA (.dK kvs)):kvs.length<=sizeLine/\(a==sysModules)=AB/\∃vs,KV kvs vs/\h.DictOf (yaa P w) a vs:=zla ok (.inl e)
theorem ziS{ks:List Key}(ok:HOk P w H h)(e:H a=AA (.tup (ks.map kV))):(tupleKind (yaa P w)).is h ks a:=by
 let⟨_,its,r,o,h1,h2,n,h3⟩:=(show yai P w H h a (.tup (ks.map kV))from ok a _ e);exact⟨o,its.toArray,n,h1,h2,h3,by simpa using zeE r⟩
theorem zmE{kvs:List (List Key×V)}(ok:HOk P w H h)(e:Rd H a (.dT kvs)):kvs.length<=sizeLine/\(a==sysModules)=AB /\
  ∃xs,KT H kvs xs/\h.DictOfH (tupleKind (yaa P w)) a xs:=by
 let⟨z,y,xs,r,o,es,ep,h1,h2,h3,h4,h5⟩:=(show yai P w H h a (.dT kvs)from zpm ok e);refine⟨z,y,xs,r,o,es,ep,h1,h2,h3,h4,λx hx=>?_,h5⟩;have all:∀{l:List (List Key×V)} {m:List (List Key×AI×AF)},KT H l m->∀x∈m,(tupleKind (yaa P w)).is h x.1 x.2.1:=by
  intro l m q
  induction q with
  |nil=>intro x hx;exact nomatch hx
  |@cons p q ps qs hq t ih=>
   intro x hx;rcases AN.mp hx with e|hx
   .subst e;exact ziS ok (by rw[<-hq.1];exact hq.2.1)
   .exact ih x hx
 exact all r x hx
theorem zpG{kvs:List (List Key×V)}(ok:HOk P w H h)(e:H a=AA (.dT kvs)):kvs.length<=sizeLine/\(a==sysModules)=AB /\
  ∃xs,KT H kvs xs/\h.DictOfH (tupleKind (yaa P w)) a xs:=zmE ok (.inl e)
end
def yfB(H:Hp)(a:AI)(y:V)(r:Option V):Prop:=
 (∃kvs k,Rd H a (.dK kvs)/\y=kV k/\r=ybQ kvs k) \/ ∃kvs k b,Rd H a (.dT kvs)/\y=.ref b/\H b=AA (.tup (k.map kV))/\r=ybQ kvs k
def yfd(H:Hp)(a:AI)(y v:V)(H':Hp):Prop:=
 (∃kvs k,H a=AA (.dK kvs)/\y=kV k/\kvs.length<sizeLine/\H'=upd H a (.dK (putK kvs k v))) \/
 ∃kvs k b,H a=AA (.dT kvs)/\y=.ref b/\H b=AA (.tup (k.map kV))/\kvs.length<sizeLine/\H'=upd H a (.dT (putK kvs k v))
section
variable {X:Cx}{pins:List (AI×CC)}{σ:St}{H:Hp}{s:AJ}{a:AI}{y v:V}{u r:AF}{o:Option V}{A:Ax}{E:AF->AJ->Prop}
theorem Inv.big(I:Inv X pins σ H s):sysModules<s.heap.objs.size:=by
 have h:mainGlobals<s.heap.objs.size:=(I.mod.glob.keeps I.bk).lt;exact Nat.lt_trans (by decide) h
theorem zia{h':BF}{t':Nat}{ob:HO}(I:Inv X pins σ H s)(mu:Mut (H a))(hs:Cb a s.heap h')(he:∃q,h'.get? a=AA q)(new:yai X.prog X.w (upd H a ob) h' a ob):
  Inv X pins σ (upd H a ob) {s with heap:=h',toks:=t'}:=
 I.write (x:=a) (e:=a) mu (.inl rfl) (λb q hb z=>(hs.2 b hb).trans z) he new
theorem zo2{P:A9}{w:Al}{H':Hp}{h':BF}{kvs:List (Key×V)}{vs:List (Key×AF)}(z:kvs.length<=sizeLine)(hd:(a==sysModules)=AB)(rel:KV kvs vs)(dd:h'.DictOf (yaa P w) a vs):
  yai P w H' h' a (.dK kvs):=⟨z,hd,vs,rel,dd⟩
theorem zhO{H':Hp}{Q:Unit->AJ->Prop}(hu:A.units+1<cLine)(I:Inv X pins σ H s)(g:yfd H a y v H')(ry:RelV y u)(rv:RelV v r)(h:∀s',Inv X pins σ H' s'->Q () s'):
  A2 (model X.prog X.w) A (setItem (.ref a) u r) Q E s:=by
 rcases g with⟨kvs,k,e,ey,l,eH⟩|⟨kvs,k,b,e,ey,eb,l,eH⟩
 .subst ey eH;let⟨z,hd,vs,rel,dd⟩:=zpX I.hok e;have hz:vs.length<=sizeLine:=by rw[<-rel.length];exact z
  have hl:(putK kvs k v).length<=sizeLine:=by have:=zdq kvs k v;lia
  refine wpAny_setItem_pairs (hsz:=hz) (zld ry) dd λh' dd' hs=>h _ ?_;have he:∃q,h'.get? a=AA q:=let ⟨q,_,_,hq,_⟩:=dd';⟨q,hq⟩
  exact zia I (by rw[e];exact Cc) hs he (zo2 hl hd (rel.put k rv) dd')
 .subst ey eH
  cases (show u=Ai b from ry)
  let⟨z,hd,xs,rel,dd⟩:=zpG I.hok e;have hz:xs.length<=sizeLine:=by rw[<-Ec rel];exact z
  have hl:(putK kvs k v).length<=sizeLine:=by have:=zdq kvs k v;lia
  refine wpAny_setItem_heap (hsz:=hz) (Fv hu) (ziS I.hok eb) dd λh' dd' hs=>h _ ?_;let⟨q,es,ep,hq,h2,h3,h4,_,h5⟩:=dd';refine zia I (by rw[e];exact Cc) hs ⟨q,hq⟩ ⟨hl,hd,_,(rel.put k eb rv).keeps λc ys ec=>?_,q,es,ep,hq,h2,h3,h4,h5⟩;rw[zk (zqc ec e (λz=>nomatch z))];exact ec
end
section
variable {X:Cx}{pins:List (AI×CC)}{σ:St}{H:Hp}{s:AJ}{a:AI}{kvs:List (Key×V)}{k:Key}{u:AF}{A:Ax}{E:AF->AJ->Prop}
end
def yc8(i:AT):Prop:=∀ov iv,subscripted i AB ov iv=operate [ov,iv] (getItem ov iv)
theorem zhM{prog:A9}{w:Al}{A:Ax}{E:AF->AJ->Prop}{s:AJ}{env:Env}{value slice:AT}{pos:CW}{T id:String}{Q:AF->AJ->Prop}
  (hl:typeLookup (.type T) "__getitem__"=pure (AA (.builtin id))) (hs:yc8 slice)
  (h:A2 (model prog w) A (eval value env) (λo s₁=>A2 (model prog w) A (eval slice env) (λi s₂=>s₂.TypeIs o T/\A2 (model prog w) A (getItem o i) Q E s₂) E s₁) E s):
  A2 (model prog w) A (eval (.Subscript value slice pos) env) Q E s:=by
 refine HA (C0 h (λo s₁ h₁=>C0 h₁ (λi s₂ h₂=>?_) λ_ _ x=>x) λ_ _ x=>x);let⟨hT,h₂⟩:=h₂;unfold subscriptTail;refine AH ?_;rw[getitemInPython_of_ne hT.not_modules];refine AH (wpAny_specialOf hT hl ?_);have fin:A2 (model prog w) A (subscripted slice AB o i) (λr s₃=>A2 (model prog w) A (letTemporaryGo value o r >>= λ_=>pure r) Q E s₃) E s₂:=by
  rw[hs o i];exact wpAny_operating (C0 h₂ (λr s₃ h₃=>AH (wpAny_letTemporaryGo (AU h₃))) λ_ _ x=>x)
 first
  |exact AU (AH fin)
  |exact AH (AU (AH fin))
  |exact AH fin
def yeI(td ty tv:TE):TS:=λD σ H=>tv σ H λv H1=>td σ H1 λx H2=>ty σ H2 λy H3=>∃a H4,x=.ref a/\yfd H3 a y v H4/\D.nx σ H4
section
variable {X:Cx}{o i e value:AT}{pos pos' tpos:CW}{td ty tv:TE}
theorem zmF(hu:X.A.units+1<cLine)(ho:PE X o td)(hi:PE X i ty)(hv:PE X value tv)(hs:swapsWith value (AA (.Subscript o i pos')) pos.line X.env=pure AB):
  PS X (.Assign [.Subscript o i pos'] value pos) (yeI td ty tv):=by
 intro pins s σ H D I h;refine wpAny_Assign_Subscript (thn (hv pins s σ H _ I h) λr s1 kq=>?_) hs;let⟨v,H1,I1,rv,q1⟩:=kq;refine thn (ho pins s1 σ H1 _ I1 q1) λu s2 kq=>?_;let⟨x,H2,I2,rx,q2⟩:=kq;refine thn (hi pins s2 σ H2 _ I2 q2) λiv s3 kq=>?_;let⟨y,H3,I3,ry,a,H4,ex,g,q3⟩:=kq;subst ex;obtain rfl:u=Ai a:=rx;exact zhO hu I3 g ry rv λs4 I4=>⟨σ,H4,I4,q3⟩
end
theorem zjX{P:A9}{w:Al}{H:Hp}(h:BF)(hb:sysModules<h.objs.size):yai P w H (h.push {cls:=.type "dict",data:=.dict #[]}) h.objs.size (.dT []):=
 ⟨DN _,beq_eq_false_iff_ne.mpr (BJ (Aq hb)),[],.nil,_,#[],0,A7 _ rfl,⟨rfl,rfl,rfl⟩,rfl,rfl,List.nodup_nil⟩
def ydP:TE:=λ_ H Q=>∀p,H p=AD->Q (.ref p) (upd H p (.dT []))
section
variable {X:Cx}{pos:CW}
theorem ycw:PE X (.Dict [] [] pos) ydP:=λpins s σ H Q I h=>
 wpAny_Dict_empty ⟨.ref s.heap.objs.size,_,I.laid (a:=s.heap.objs.size) (o:=.dT []) (t':=s.toks) (λ_ _ q=>AO _ q) (AS _) (zjX s.heap I.big),rfl,h _ (I.hok.fresh (AS _))⟩
end
structure M2(X:Cx)(o:AT)(m:AQ)(apos:CW)(e f:AT)(cpos:CW):Prop where
 base:attributeBase o m X.env (eval o X.env)=eval o X.env
 few:((backTo cpos (starEach [e,f] X.env)).all (λx=>!x.1)&&(backToKw cpos (keywordEach [] X.env)).all (λx=>x.1.isSome)
  && decide (([e,f]:List AT).length+([]:List C3).length+(if ([]:List C3).isEmpty then 0 else 1)<30))=AC
 line:(apos.endLine==cpos.line)=AC
 trees:backTo cpos (starEach [e,f] X.env)=[(AB,eval e X.env),(AB,eval f X.env)]
def IsD(H:Hp)(a:AI):Prop:=(∃kvs,Rd H a (.dK kvs)) \/ ∃kvs,Rd H a (.dT kvs)
theorem zoZ{X:Cx}{pins:List (AI×CC)}{σ:St}{H:Hp}{s:AJ}{a:AI}(I:Inv X pins σ H s)(d:IsD H a):
  s.TypeIs (.ref a) "dict"/\(∀b,Ai a=.ref b->∃ob,s.heap.get? b=AA ob/\ob.dict=AD)/\(a==sysModules)=false:=by
 rcases d with⟨kvs,e⟩|⟨kvs,e⟩
 .let⟨_,hd,vs,_,dd⟩:=zla I.hok e;refine⟨dd.typeIs,λb q=>?_,hd⟩
  cases q
  let⟨ob,_,_,h1,h2,_⟩:=dd;exact⟨ob,h1,h2.2.1⟩
 .let⟨_,hd,xs,_,dd⟩:=zmE I.hok e;refine⟨dd.typeIs,λb q=>?_,hd⟩
  cases q
  let⟨ob,_,_,h1,h2,_⟩:=dd;exact⟨ob,h1,h2.2.1⟩
section
variable {X:Cx}{pins:List (AI×CC)}{σ:St}{H:Hp}{s:AJ}{a:AI}{y d:V}{u r:AF}{o:Option V}{A:Ax}{E:AF->AJ->Prop}
theorem zm7{Q:AF->AJ->Prop}(hu:A.units+1<cLine)(I:Inv X pins σ H s)(g:yfB H a y o)(ry:RelV y u)(rd:RelV d r)(h:∀w' s',Inv X pins σ H s'->RelV (o.getD d) w'->Q w' s'):
  A2 (model X.prog X.w) A (call (.builtin "dict.get") [.ref a,u,r]) Q E s:=by
 rcases g with⟨kvs,k,e,ey,l⟩|⟨kvs,k,b,e,ey,eb,l⟩
 .subst ey;let⟨z,hd,vs,rel,dd⟩:=zla I.hok e;refine call_meetsIn Da dd.typeIs FI (En _ _ _) (meets_dict_get_default (yaa X.prog X.w) a (zld ry) hd r) ⟨_,dd.mapOf,h _ _ (I.tok _) ?_⟩;rw[l];exact(rel.val k).getD rd
 .subst ey
  cases (show u=Ai b from ry)
  let⟨z,hd,xs,rel,dd⟩:=zmE I.hok e;refine call_meetsIn Da dd.typeIs FI (En _ _ _) (meetsH_dict_get_default (tupleKind (yaa X.prog X.w)) a b hd r) ⟨Fv hu,k,xs,ziS I.hok eb,dd,h _ _ (I.tok _) ?_⟩;rw[l];exact(rel.val k).getD rd
end
def ydO(td ty tx:TE):TE:=λσ H Q=>td σ H λx H1=>∃a,x=.ref a/\IsD H1 a/\ty σ H1 λy H2=>tx σ H2 λz H3=>∃o,yfB H3 a y o/\Q (o.getD z) H3
section
variable {X:Cx}{o e f:AT}{apos cpos:CW}{td ty tx:TE}
theorem zj8(hu:X.A.units+1<cLine)(ho:PE X o td)(he:PE X e ty)(hf:PE X f tx)(m:M2 X o "get" apos e f cpos):PE X (.Call (.Attribute o "get" apos) [e,f] [] cpos) (ydO td ty tx):=by
 intro pins s σ H Q I h;refine wpAny_Call_method m.base m.few m.line PySem.F.plainAttrs_dict Da PySem.F.type_dict_get (thn (ho pins s σ H _ I h) λu s1 kq=>?_);let⟨x,H1,I1,rx,a,ex,d,q1⟩:=kq;subst ex;obtain rfl:u=Ai a:=rx;let⟨t1,t2,_⟩:=zoZ I1 d;refine⟨t1,t2,?_⟩;rw[m.trees];refine FG rfl (FZ (EM (thn (he pins s1 σ H1 _ I1 q1) λiv s2 ⟨y,H2,I2,ry,q2⟩=>
  EM (thn (hf pins s2 σ H2 _ I2 q2) λfv s3 ⟨z,H3,I3,rz,ov,g,q3⟩=>GF ?_))))
 exact zm7 hu I3 g ry rz λw' s4 I4 rw'=>⟨_,H3,I4,rw',q3⟩
end
section
variable {X:Cx}{pins:List (AI×CC)}{σ:St}{H:Hp}{s:AJ}{a:AI}{kvs:List (Key×V)}{A:Ax}{E:AF->AJ->Prop}
end
section
variable {X:Cx}{pins:List (AI×CC)}{σ:St}{H:Hp}{s:AJ}{a:AI}{y:V}{u:AF}{A:Ax}{E:AF->AJ->Prop}
end
end L2
namespace IC
open PySem
inductive PV where
 |non|bl (b:Bool)|int (i:Int)|str (x:AQ)|tp (k:Bool) (xs:List PV)|lst (xs:List PV)|loc (n:Nat)|exn (c:Nat)|scr (xs:List PV)
deriving Inhabited
noncomputable abbrev PV.tup(xs:List PV):PV:=.tp AB xs
mutual
noncomputable def nL:PV->Bool
 |.loc _=>AB
 |.exn _=>AB
 |.tp _ xs=>nLs xs
 |.lst xs=>nLs xs
 |.scr xs=>nLs xs
 |_=>AC
noncomputable def nLs:List PV->Bool
 |[]=>AC
 |x::xs=>nL x&&nLs xs
end
mutual
noncomputable def shd(n:Nat):PV->Bool
 |.non=>AC
 |.bl _=>AC
 |.int _=>AC
 |.str x=>x.cps.all (· < 0x110000)
 |.tp _ xs=>decide (0<n)&&ybG (n-1) xs
 |.lst xs=>decide (0<n)&&ybG (n-1) xs
 |_=>AB
noncomputable def ybG(n:Nat):List PV->Bool
 |[]=>AC
 |x::xs=>shd n x&&ybG n xs
end
abbrev shp(v:PV):Bool:=shd 60 v
noncomputable def flat:PV->Bool
 |.non=>AC
 |.bl _=>AC
 |.int _=>AC
 |.str _=>AC
 |_=>AB
noncomputable def bi(b:Bool):Int:=if b then 1 else 0
mutual
noncomputable def peq:PV->PV->Bool
 |.non,.non=>AC
 |.bl a,.bl b=>a==b
 |.bl a,.int j=>bi a==j
 |.int i,.bl b=>i==bi b
 |.int i,.int j=>i==j
 |.str x,.str y=>x==y
 |.tp _ xs,.tp _ ys=>ybp xs ys
 |.lst xs,.lst ys=>ybp xs ys
 |_,_=>AB
noncomputable def ybp:List PV->List PV->Bool
 |[],[]=>AC
 |x::xs,y::ys=>peq x y&&ybp xs ys
 |_,_=>AB
end
inductive Ob where
 |lst (xs:List PV)|dct (t:Bool) (kvs:List (PV×PV))|dead|ins (c:Nat) (fs:List (AQ×PV))
noncomputable abbrev Env:=List (Option PV)
noncomputable abbrev SO:=List Ob
inductive R(α:Type) where
 |ok (a:α) (st:SO)|exc (c:Nat) (st:SO)|bad
noncomputable def R.bind{α β:Type}(r:R α)(k:α->SO->R β):R β:=
 match r with
 |.ok a st=>k a st
 |.exc c st=>.exc c st
 |.bad=>.bad
inductive BOp where
 |add|sub|mul|fdiv|mod|pow|shl|shr|band|bor|bxor
inductive COp where
 |eq|ne|lt|le|gt|ge|is|isnot|isin|notin
inductive Ty where
 |int|bool|str|tuple|list|cls (c:Nat)|val
inductive Blt where
 |len|int|abs|min|max|tuple|list|all|sum|dict|rev|str|any
inductive Mth where
 |append|extend|get|bits|upper|insert|count|index|join|split|sidx|clear
inductive Tg where
 |n (i:Nat)|t (l:List Nat)
set_option genInjectivity false
mutual
inductive Ce where
 |cst (v:PV)
 |var (i:Nat)
 |bin (o:BOp) (a b:Ce)
 |neg (a:Ce)
 |not (a:Ce)
 |and (a b:Ce)
 |or (a b:Ce)
 |cmp (o:COp) (a b:Ce)
 |chain (o p:COp) (a b c:Ce)
 |ite (c a b:Ce)
 |tup (es:Ces)
 |lst (es:Ces)
 |newl (es:Ces)
 |dict0 (t:Bool)
 |idx (a i:Ce)
 |slc (a:Ce) (lo hi:Ce)
 |call (f:Nat) (args:Ces)
 |blt (b:Blt) (args:Ces)
 |mth (m:Mth) (o:Ce) (args:Ces)
 |isi (a:Ce) (t:List Ty)
 |comp (sl:List (Option Nat)) (tg:Tg) (it:Cit) (c:Ce) (e:Ce)
 |frz (a:Ce)
 |nope
 |rep (a b:Ce)
 |dix (D:List (AQ×PV)) (a:Ce)
 |din (a:Ce) (D:List (AQ×PV))
 |fld (c:Nat) (a:Ce) (f:AQ)
 |new (c i:Nat) (es:Ces)
 |mcl (c i:Nat) (m:AQ) (o:Ce) (es:Ces)
inductive Ces where
 |nil
 |cons (e:Ce) (es:Ces)
inductive Cit where
 |seq (e:Ce)
 |range1 (a:Ce)
 |range2 (a b:Ce)
 |rangeD (a b:Ce)
 |enum (e:Ce)
 |zip (a b:Ce)
 |revl (e:Ce)
 |revr (a:Ce)
 |chars (e:Ce)
end
set_option genInjectivity true
abbrev Ce.i(n:Int):Ce:=.cst (.int n)
abbrev Ce.s(x:AQ):Ce:=.cst (.str x)
abbrev Ce.v:=Ce.var
abbrev Ces.k:=Ces.cons
abbrev Ces.e:=Ces.nil
mutual
inductive Cs where
 |expr (e:Ce)
 |asg (t:Tg) (e:Ce)
 |six (o i e:Ce)
 |dput (o i e:Ce)
 |aug (i:Nat) (o:BOp) (e:Ce)
 |ret (e:Ce)
 |ite (c:Ce) (a b:Css)
 |for (t:Tg) (it:Cit) (b:Css)
 |while (c:Ce) (b:Css)
 |nope
 |sfl (c:Nat) (o:Ce) (f:AQ) (e:Ce)
 |mkr (i:Nat) (D:List (AQ×Nat)) (n:Ce) (es:Ces)
inductive Css where
 |nil
 |cons (s:Cs) (ss:Css)
end
abbrev Css.k:=Css.cons
abbrev Css.e:=Css.nil
noncomputable def yaH(i j:Int):Bool:=(decide (i.natAbs<18446744073709551616)) || (decide (j.natAbs<18446744073709551616))
def binI(o:BOp)(i j:Int):Option PV:=
 match o with
 |.add=>AA (.int (i+j))
 |.sub=>AA (.int (i-j))
 |.mul=>if yaH i j then AA (.int (i*j))else AD
 |.fdiv=>if 0<j/\j<10000000000000000000000000000000000000000000000000000000000000000000000 then AA (.int (i/j))else AD
 |.mod=>if 0<j then AA (.int (i%j))else AD
 |.pow=>if 0<=j/\j<=1000000/\i.natAbs<18446744073709551616 then AA (.int (i^j.toNat))else AD
 |.shl=>if 0<=j/\j<=1000000/\i.natAbs<18446744073709551616 then AA (.int (i*2^j.toNat))else AD
 |.shr=>if 0<=j then AA (.int (i/2^j.toNat))else AD
 |.band=>AA (.int (Ar i j))
 |.bor=>AA (.int (Bd i j))
 |.bxor=>AA (.int (B1 i j))
noncomputable def sizeMax:Nat:=16777216
noncomputable def yd7(k:Bool)(a:List PV)(j:Bool)(b:List PV):PV:=if a.isEmpty then .tp j b else if b.isEmpty then .tp k a else .tup (a++b)
noncomputable def ydz(x y:PV):Option PV:=
 match x,y with
 |.str a,.int n=>if 1<=n/\n<=1000/\a.length<=1000/\1<=a.length then AA (.str ⟨(AV n.toNat a.cps.toList).flatten.toArray⟩)else AD
 |.tp k a,.int n=>if n=1 then AA (.tp k a)else if 2<=n/\n<=1000/\a.isEmpty=AB/\a.length<=1000 then AA (.tup (AV n.toNat a).flatten)else AD
 |_,_=>AD
def yJ(o:BOp)(x y:PV):Option PV:=
 match x,y with
 |.int i,.int j=>binI o i j
 |.int i,.bl b=>match o with
  |.add=>AA (.int (i+bi b))
  |_=>AD
 |.str a,.str b=>match o with
  |.add=>if a.length+b.length<=sizeMax then AA (.str (a++b))else AD
  |_=>AD
 |.tp k a,.tp j b=>match o with
  |.add=>if a.length+b.length<=sizeMax then AA (yd7 k a j b)else AD
  |_=>AD
 |.lst a,.lst b=>match o with
  |.add=>if a.length+b.length<=sizeMax then AA (.lst (a++b))else AD
  |_=>AD
 |_,_=>AD
def ybT(o:BOp)(x y:PV):Option PV:=
 match x,y with
 |.int i,.int j=>binI o i j
 |_,_=>AD
noncomputable def isNon:PV->Bool
 |.non=>AC
 |_=>AB
def inL(x:PV):List PV->Bool
 |[]=>AB
 |y::ys=>peq y x || inL x ys
noncomputable def inS(a b:AQ):Bool:=(EF (b.length+1)).any λi=>decide (i+a.length<=b.length)&&(b.cps.extract i (i+a.length)==a.cps)
noncomputable def ybI(o:COp)(i j:Int):Option PV:=
 match o with
 |.lt=>AA (.bl (decide (i<j)))
 |.le=>AA (.bl (decide (i<=j)))
 |.gt=>AA (.bl (decide (j<i)))
 |.ge=>AA (.bl (decide (j<=i)))
 |_=>AD
noncomputable def yed(o:COp)(a b:AQ):Option PV:=
 match o with
 |.lt=>AA (.bl (decide (a.cps.toList<b.cps.toList)))
 |.le=>AA (.bl (!decide (b.cps.toList<a.cps.toList)))
 |_=>AD
def yN(o:COp)(x y:PV):Option PV:=
 match o with
 |.eq=>if shp x&&shp y then AA (.bl (peq x y))else AD
 |.ne=>if shp x&&shp y then AA (.bl (!peq x y))else AD
 |.is=>match y with
  |.non=>AA (.bl (isNon x))
  |.bl b=>match x with
   |.bl a=>AA (.bl (a==b))
   |_=>AD
  |_=>AD
 |.isnot=>match y with
  |.non=>AA (.bl (!isNon x))
  |.bl b=>match x with
   |.bl a=>AA (.bl (!(a==b)))
   |_=>AD
  |_=>AD
 |.isin=>match x,y with
  |.str a,.str b=>AA (.bl (inS a b))
  |x,.tp _ l=>if flat x&&l.all flat then AA (.bl (inL x l))else AD
  |x,.lst l=>if flat x&&l.all flat then AA (.bl (inL x l))else AD
  |_,_=>AD
 |.notin=>match x,y with
  |.str a,.str b=>AA (.bl (!inS a b))
  |x,.tp _ l=>if flat x&&l.all flat then AA (.bl (!inL x l))else AD
  |x,.lst l=>if flat x&&l.all flat then AA (.bl (!inL x l))else AD
  |_,_=>AD
 |o=>match x,y with
  |.int i,.int j=>ybI o i j
  |.str a,.str b=>yed o a b
  |_,_=>AD
def yaT(st:SO)(x:PV):Option Bool:=
 match x with
 |.non=>AA AB
 |.bl b=>AA b
 |.int i=>AA (i != 0)
 |.str y=>if y.length<=sizeMax then AA ((y.length:Int) != 0)else AD
 |.tp _ xs=>AA (!xs.isEmpty)
 |.lst xs=>AA (!xs.isEmpty)
 |.loc n=>match st[n]? with
  |some (.lst xs)=>AA (!xs.isEmpty)
  |_=>AD
 |_=>AD
noncomputable def ixI(n:Nat)(i:Int):Option Nat:=if 0<=i then(if i<n then AA i.toNat else AD)else if -(n:Int)<=i then AA (i+n).toNat else AD
def at?{α:Type}(xs:List α)(i:Int):Option α:=(ixI xs.length i).bind λj=>xs[j]?
def look(k:PV):List (PV×PV)->Option PV
 |[]=>AD
 |(a,b)::r=>if peq a k then AA b else look k r
def put(k v:PV)(kvs:List (PV×PV)):List (PV×PV):=
 if (kvs.any λp=>peq p.1 k)=AC then kvs.map (λp=>if peq p.1 k=AC then(p.1,v)else p)else kvs++[(k,v)]
noncomputable def ybM:PV->Bool
 |.int _=>AC
 |.str _=>AC
 |_=>AB
def isKey(t:Bool)(k:PV):Bool:=
 match t with
 |false=>ybM k
 |true=>match k with
  |.tp AB xs=>xs.all ybM
  |_=>AB
noncomputable def ybd{α:Type}(xs:List α)(i:PV):Option α:=
 match i with
 |.int k=>at? xs k
 |_=>AD
def idxV(st:SO)(x i:PV):Option PV:=
 match x with
 |.tp _ xs=>ybd xs i
 |.lst xs=>ybd xs i
 |.str s=>if s.length<=sizeMax then(ybd s.cps.toList i).map λc=>.str ⟨#[c]⟩else AD
 |.loc n=>match st[n]? with
  |some (.lst xs)=>ybd xs i
  |_=>AD
 |_=>AD
noncomputable def ybv(n:Nat)(v:Int):Nat:=if v<0 then(v+(n:Int)).toNat else min v.toNat n
def ycJ(n:Nat)(lo:Option Int):Nat:=
 match lo with
 |none=>0
 |some i=>ybv n i
def yc9(n:Nat)(hi:Option Int):Nat:=
 match hi with
 |none=>n
 |some i=>ybv n i
def cut{α:Type}(xs:List α)(lo hi:Option Int):List α:=(xs.drop (ycJ xs.length lo)).take (yc9 xs.length hi-ycJ xs.length lo)
noncomputable def ybU:PV->Option (Option Int)
 |.non=>AA AD
 |.int i=>AA (AA i)
 |_=>AD
def ycA(x:PV)(a b:Option Int):Option PV:=
 match x with
 |.tp k xs=>if ycJ xs.length a=0/\yc9 xs.length b=xs.length then AA (.tp k xs)else AA (.tup (cut xs a b))
 |.str s=>if s.length<=sizeMax then AA (.str ⟨(cut s.cps.toList a b).toArray⟩)else AD
 |.lst xs=>AA (.lst (cut xs a b))
 |.scr xs=>AA (.lst (cut xs a b))
 |_=>AD
def ybY(x:PV)(a:Option Int)(hi:PV):Option PV:=
 match ybU hi with
 |some b=>ycA x a b
 |none=>AD
noncomputable def ybA(x:PV)(t:Ty):Bool:=
 match x,t with
 |.int _,.int=>AC
 |.bl _,.int=>AC
 |.bl _,.bool=>AC
 |.str _,.str=>AC
 |.tp _ _,.tuple=>AC
 |.lst _,.list=>AC
 |.exn c,.cls d=>c==d
 |.exn _,.val=>AC
 |_,_=>AB
noncomputable def ydk:Ty->Bool
 |.cls _=>AB
 |.val=>AB
 |_=>AC
def yaU(x:PV)(ts:List Ty):Option PV:=
 match x with
 |.loc _=>AD
 |.scr _=>AD
 |.exn c=>if ts.all ydk then AD else AA (.bl (ts.any (ybA (.exn c))))
 |x=>match ts with
  |[t]=>if ydk t then AA (.bl (ybA x t))else AD
  |_=>AD
noncomputable def allB:List PV->Option Bool
 |[]=>AA AC
 |.bl b::r=>match allB r with
  |some c=>AA (b&&c)
  |none=>AD
 |_::_=>AD
noncomputable def ycB:List PV->Option Int
 |[]=>AA 0
 |.int i::r=>match ycB r with
  |some c=>AA (i+c)
  |none=>AD
 |_::_=>AD
noncomputable def ydA:List PV->Option Int
 |[]=>AD
 |[.int i]=>AA i
 |.int i::r=>match ydA r with
  |some c=>AA (if i<c then c else i)
  |none=>AD
 |_::_=>AD
noncomputable def yb9(st:SO):PV->Option (List PV)
 |.tp _ xs=>AA xs
 |.lst xs=>AA xs
 |.loc n=>match st[n]? with
  |some (.lst xs)=>AA xs
  |_=>AD
 |_=>AD
noncomputable def yam(st:SO):PV->Option (List PV)
 |.lst xs=>AA xs
 |.loc n=>match st[n]? with
  |some (.lst xs)=>AA xs
  |_=>AD
 |_=>AD
def lenV(st:SO)(x:PV):Option PV:=
 match x with
 |.str s=>if s.length<=sizeMax then AA (.int s.length)else AD
 |x=>(yb9 st x).map λxs=>.int xs.length
def ygf(x:PV):Option PV:=
 match x with
 |.int i=>AA (.int i)
 |.bl k=>AA (.int (bi k))
 |_=>AD
noncomputable def yex(x:PV):Option PV:=
 match x with
 |.int i=>AA (.int (if i<0 then -i else i))
 |_=>AD
noncomputable def yeU(x y:PV):Option PV:=
 match x,y with
 |.int i,.int j=>AA (.int (if j<i then j else i))
 |_,_=>AD
noncomputable def maxV(x y:PV):Option PV:=
 match x,y with
 |.int i,.int j=>AA (.int (if i<j then j else i))
 |_,_=>AD
def yeT(st:SO)(x:PV):Option PV:=
 match x with
 |.tp k xs=>AA (.tp k xs)
 |x=>(yam st x).map .tup
noncomputable def yeH:PV->Option PV
 |.tp _ xs=>if xs.isEmpty then AD else AA (.tup xs.reverse)
 |.lst xs=>AA (.lst xs.reverse)
 |_=>AD
noncomputable def anyB:List PV->Option Bool
 |[]=>AA AB
 |.bl b::r=>match anyB r with
  |some c=>AA (b || c)
  |none=>AD
 |_=>AD
noncomputable def anyI:List PV->Option Bool
 |[]=>AA AB
 |.int i::r=>match anyI r with
  |some c=>AA ((i != 0) || c)
  |none=>AD
 |_=>AD
noncomputable def yfF:PV->Option PV
 |.int i=>if i=0 then AA (.str "0")else if i=1 then AA (.str "1")else AD
 |_=>AD
def yay(b:Blt)(st:SO)(vs:List PV):Option PV:=
 match vs with
 |[x]=>match b with
  |.len=>lenV st x
  |.int=>ygf x
  |.abs=>yex x
  |.max=>(yam st x).bind λxs=>(ydA xs).map .int
  |.tuple=>yeT st x
  |.list=>(yb9 st x).map .lst
  |.all=>(yam st x).bind λxs=>(allB xs).map .bl
  |.sum=>(yam st x).bind λxs=>(ycB xs).map .int
  |.rev=>yeH x
  |.str=>yfF x
  |.any=>match x with
   |.tp _ xs=>(anyI xs).map .bl
   |x=>(yam st x).bind λxs=>(anyB xs).map .bl
  |_=>AD
 |[x,y]=>match b with
  |.min=>yeU x y
  |.max=>maxV x y
  |_=>AD
 |_=>AD
noncomputable def ybf(st:SO):PV->Option (Bool×List (PV×PV))
 |.loc n=>match st[n]? with
  |some (.dct t xs)=>AA (t,xs)
  |_=>AD
 |_=>AD
def yaS(m:Mth)(st:SO)(x:PV):Option Bool:=
 match m with
 |.append=>(yam st x).map λ_=>AC
 |.extend=>(yam st x).map λ_=>AC
 |.insert=>(yam st x).map λ_=>AC
 |.count=>(yam st x).map λ_=>AC
 |.index=>(yam st x).map λ_=>AC
 |.get=>(ybf st x).map λ_=>AC
 |.bits=>match x with
  |.int _=>AA AC
  |_=>AD
 |.upper=>match x with
  |.str _=>AA AC
  |_=>AD
 |.join=>match x with
  |.str _=>AA AC
  |_=>AD
 |.split=>match x with
  |.str _=>AA AC
  |_=>AD
 |.sidx=>match x with
  |.str _=>AA AC
  |_=>AD
 |.clear=>match x with
  |.loc n=>(yam st (.loc n)).map λ_=>AC
  |_=>AD
noncomputable def yd0(st:SO)(o v:PV):R PV:=
 match o with
 |.loc n=>match st[n]? with
  |some (.lst xs)=>if xs.length<1000000 then .ok .non (st.set n (.lst (xs++[v])))else .bad
  |_=>.bad
 |_=>.bad
noncomputable def ygV(st:SO)(o v:PV):R PV:=
 match o with
 |.loc n=>match st[n]? with
  |some (.lst xs)=>match v with
   |.lst ys=>if xs.length+ys.length<=1000000 then .ok .non (st.set n (.lst (xs++ys)))else .bad
   |_=>.bad
  |_=>.bad
 |_=>.bad
noncomputable def yg1(st:SO)(o i v:PV):R PV:=
 match o with
 |.loc n=>match st[n]? with
  |some (.lst xs)=>match i with
   |.int k=>if 0<=k/\k<=xs.length/\xs.length<1000000 then .ok .non (st.set n (.lst (xs.take k.toNat++v::xs.drop k.toNat)))else .bad
   |_=>.bad
  |_=>.bad
 |_=>.bad
def ydV(st:SO)(o k d:PV):R PV:=
 match ybf st o with
 |some (t,kvs)=>if isKey t k then .ok ((look k kvs).getD d) st else .bad
 |none=>.bad
def yfZ(st:SO)(o v:PV):R PV:=
 match yam st o with
 |some xs=>if flat v&&xs.all flat then .ok (.int (xs.countP λy=>peq y v)) st else .bad
 |none=>.bad
def ydr(v:PV):List PV->Option Nat
 |[]=>AD
 |y::ys=>if peq y v then AA 0 else(ydr v ys).map (·+1)
def ygI(st:SO)(o v:PV):R PV:=
 match yam st o with
 |some xs=>if flat v&&xs.all flat then(match ydr v xs with
  |some j=>.ok (.int j) st
  |none=>.bad)else .bad
 |none=>.bad
noncomputable def upC(c:Nat):Nat:=if 97<=c/\c<=122 then c-32 else c
def upS(s:AQ):Str:=⟨(s.cps.toList.map upC).toArray⟩
noncomputable def yca(c:Nat):List Nat->List (List Nat)
 |[]=>[[]]
 |x::xs=>if x=c then []::yca c xs else match yca c xs with
  |[]=>[[x]]
  |p::ps=>(x::p)::ps
noncomputable def strsOf:List PV->Option (List AQ)
 |[]=>AA []
 |.str s::r=>(strsOf r).map (s :: ·)
 |_=>AD
def yef(st:SO)(o v:PV):R PV:=
 match o,yam st v with
 |.str s,AA xs=>match strsOf xs with
  |some ys=>if s.length<=10/\xs.length<=1000/\(ys.all λy=>decide (y.length<=1000))=AC then .ok (.str (Str.join s ys)) st else .bad
  |none=>.bad
 |_,_=>.bad
noncomputable def yfT(st:SO)(o:PV):R PV:=
 match o with
 |.loc n=>match st[n]? with
  |some (.lst _)=>.ok .non (st.set n (.lst []))
  |_=>.bad
 |_=>.bad
noncomputable def yeG(st:SO)(o v:PV):R PV:=
 match o,v with
 |.str s,.str y=>if s=AG "01" then(if y=AG "0" then .ok (.int 0) st else if y=AG "1" then .ok (.int 1) st else .bad)else .bad
 |_,_=>.bad
def ydl(st:SO)(o v:PV):R PV:=
 match o,v with
 |.str s,.str y=>match y.cps.toList with
  |[c]=>if s.length<=100000 then .ok (.lst ((yca c s.cps.toList).map λl=>.str ⟨l.toArray⟩)) st else .bad
  |_=>.bad
 |_,_=>.bad
def ycu(m:Mth)(st:SO)(o:PV)(vs:List PV):R PV:=
 match m,vs with
 |.append,[v]=>yd0 st o v
 |.extend,[v]=>ygV st o v
 |.insert,[i,v]=>yg1 st o i v
 |.get,[k,d]=>ydV st o k d
 |.count,[v]=>yfZ st o v
 |.index,[v]=>ygI st o v
 |.join,[v]=>yef st o v
 |.split,[v]=>ydl st o v
 |.sidx,[v]=>yeG st o v
 |.clear,[]=>yfT st o
 |.bits,[]=>match o with
  |.int i=>.ok (.int (Builtin.Int.intBits i)) st
  |_=>.bad
 |.upper,[]=>match o with
  |.str s=>if s.cps.toList.all (· < 128)/\s.length<=1000000 then .ok (.str (upS s)) st else .bad
  |_=>.bad
 |_,_=>.bad
noncomputable def toR(o:Option PV)(st:SO):R PV:=
 match o with
 |some v=>.ok v st
 |none=>.bad
noncomputable def yR(t:Tg)(v:PV)(ρ:Env):Option Env:=
 match t,v with
 |.n i,v=>AA (ρ.set i (AA v))
 |.t l,.tp _ xs=>if l.length=xs.length then AA ((l.zip xs).foldl (λρ p=>ρ.set p.1 (AA p.2)) ρ)else AD
 |_,_=>AD
noncomputable def yL:Nat->List PV->List PV
 |_,[]=>[]
 |k,x::xs=>.tup [.int k,x]::yL (k+1) xs
noncomputable def yaY:List PV->List PV->List PV
 |x::xs,y::ys=>.tup [x,y]::yaY xs ys
 |_,_=>[]
noncomputable def ygp:PV->Option (List PV)
 |.tp _ xs=>AA xs.reverse
 |.lst xs=>AA xs.reverse
 |_=>AD
noncomputable def ydm:PV->Option (List PV)
 |.str s=>if s.length<=1000000 then AA (s.cps.toList.map λc=>.str ⟨#[c]⟩)else AD
 |_=>AD
def yd2(x y:PV):Option (List PV):=
 match x,y with
 |.tp _ xs,.tp _ ys=>if xs.length<=ys.length then AA (yaY xs ys)else AD
 |_,_=>AD
noncomputable def yaV(s:AQ):List (AQ×PV)->Option PV
 |[]=>AD
 |(a,b)::r=>if decide (a=s)then AA b else yaV s r
def ycx(D:List (AQ×PV))(x:PV):Option PV:=
 match x with
 |.str s=>yaV s D
 |_=>AD
def ycn(D:List (AQ×PV))(x:PV):Option PV:=
 match x with
 |.str s=>AA (.bl (yaV s D).isSome)
 |_=>AD
noncomputable def yx:Nat->Int->Int->List PV
 |0,_,_=>[]
 |n+1,a,d=>.int a::yx n (a+d) d
def yb3(x:PV):Option (List PV):=
 match x with
 |.int j=>if j.natAbs<1000000000 then AA (yx j.toNat 0 1)else AD
 |_=>AD
def ygs(x:PV):Option (List PV):=
 match x with
 |.int j=>if 0<=j/\j<1000000000 then AA (yx j.toNat (j-1) (-1))else AD
 |_=>AD
def yf9(x y:PV):Option (List PV):=
 match x,y with
 |.int i,.int j=>if i.natAbs<1000000000/\j.natAbs<1000000000 then AA (yx (j-i).toNat i 1)else AD
 |_,_=>AD
def yf5(x y:PV):Option (List PV):=
 match x,y with
 |.int i,.int j=>if i.natAbs<1000000000/\j.natAbs<1000000000 then AA (yx (i-j).toNat i (-1))else AD
 |_,_=>AD
noncomputable def toL(o:Option (List PV))(st:SO):R (List PV):=
 match o with
 |some v=>.ok v st
 |none=>.bad
noncomputable def ydK(v:PV)(st:SO):R PV:=
 match v with
 |.loc n=>match st[n]? with
  |some (.lst xs)=>.ok (.lst xs) (st.set n .dead)
  |_=>.bad
 |v=>.ok v st
noncomputable def mkV(D:List (AQ×Nat))(b:Bool)(x:PV):Option Nat:=
 match x with
 |.str s=>if b then D.lookup s else AD
 |_=>AD
noncomputable def ya6(c:Nat)(st:SO)(x:PV)(f:AQ):Option PV:=
 match x with
 |.loc n=>match st[n]? with
  |some (.ins d fs)=>if d=c then fs.lookup f else AD
  |_=>AD
 |_=>AD
noncomputable def ybR(f:AQ)(v:PV):List (AQ×PV)->List (AQ×PV)
 |[]=>[(f,v)]
 |(g,x)::r=>if g=f then(g,v)::r else(g,x)::ybR f v r
def ya9(c:Nat)(st:SO)(x:PV)(f:AQ)(v:PV):Option SO:=
 match x with
 |.loc n=>match st[n]? with
  |some (.ins d fs)=>if d=c/\fs.length<1000 then AA (st.set n (.ins c (ybR f v fs)))else AD
  |_=>AD
 |_=>AD
noncomputable def ycc(c:Nat)(m:AQ)(st:SO)(x:PV):Option Bool:=
 match x with
 |.loc n=>match st[n]? with
  |some (.ins d fs)=>if d=c/\fs.lookup m=AD then AA AC else AD
  |_=>AD
 |_=>AD
noncomputable def newV(n:Nat)(v:PV)(st:SO):R PV:=
 match v with
 |.non=>.ok (.loc n) st
 |_=>.bad
noncomputable def ybH(r:R PV):R PV:=
 match r with
 |.ok v st=>.ok v st
 |_=>.bad
inductive Fl where
 |nx (ρ:Env) (st:SO)|rt (v:PV) (st:SO)|bk (ρ:Env) (st:SO)|ct (ρ:Env) (st:SO)|exc (c:Nat) (ρ:Env) (st:SO)|bad
noncomputable def onBl{α:Type}(x:PV)(k:Bool->R α):R α:=
 match x with
 |.bl b=>k b
 |_=>.bad
noncomputable def onO{α:Type}(o:Option Bool)(k:Bool->R α):R α:=
 match o with
 |some b=>k b
 |none=>.bad
noncomputable def onF(o:Option Bool)(k:Bool->Fl):Fl:=
 match o with
 |some b=>k b
 |none=>.bad
noncomputable def onP{α:Type}(o:Option (Option Int))(k:Option Int->R α):R α:=
 match o with
 |some b=>k b
 |none=>.bad
noncomputable def blO(o:Option PV):Option Bool:=
 match o with
 |some (.bl b)=>AA b
 |_=>AD
noncomputable def yb7(o:Option PV)(ys:List PV):List PV:=
 match o with
 |some y=>y::ys
 |none=>ys
def ya3(one:PV->SO->R (Option PV)):List PV->SO->R (List PV)
 |[],st=>.ok [] st
 |x::xs,st=>(one x st).bind λo st1=>(ya3 one xs st1).bind λys st2=>.ok (yb7 o ys) st2
noncomputable def ycf(r:R (List PV)):R PV:=
 match r with
 |.ok ys st=>if ys.length<=1000000 then .ok (.lst ys) st else .bad
 |_=>.bad
mutual
noncomputable def ev(call:Nat->List PV->SO->R PV)(ρ:Env)(st:SO):Ce->R PV
 |.cst v=>.ok v st
 |.var i=>match ρ[i]? with
  |some (AA v)=>.ok v st
  |_=>.bad
 |.bin o a b=>(ev call ρ st a).bind λx st1=>(ev call ρ st1 b).bind λy st2=>toR (yJ o x y) st2
 |.neg a=>(ev call ρ st a).bind λx st1=>match x with
  |.int i=>.ok (.int (-i)) st1
  |_=>.bad
 |.not a=>(ev call ρ st a).bind λx st1=>onBl x λk=>.ok (.bl (!k)) st1
 |.and a b=>(ev call ρ st a).bind λx st1=>onBl x λk=>cond k (ev call ρ st1 b) (.ok (.bl AB) st1)
 |.or a b=>(ev call ρ st a).bind λx st1=>onBl x λk=>cond k (.ok (.bl AC) st1) (ev call ρ st1 b)
 |.cmp o a b=>(ev call ρ st a).bind λx st1=>(ev call ρ st1 b).bind λy st2=>toR (yN o x y) st2
 |.chain o p a b c=>(ev call ρ st a).bind λx st1=>(ev call ρ st1 b).bind λy st2=>onO (blO (yN o x y)) λk=>cond k ((ev call ρ st2 c).bind λz st3=>toR (yN p y z) st3) (.ok (.bl AB) st2)
 |.ite c a b=>(ev call ρ st c).bind λx st1=>onO (yaT st1 x) λk=>cond k (ev call ρ st1 a) (ev call ρ st1 b)
 |.tup es=>(evs call ρ st es).bind λvs st1=>if vs.length<=sizeMax then .ok (.tup vs) st1 else .bad
 |.lst es=>(evs call ρ st es).bind λvs st1=>if vs.length<=sizeMax then .ok (.lst vs) st1 else .bad
 |.newl es=>(evs call ρ st es).bind λvs st1=>if vs.length<=sizeMax then .ok (.loc st1.length) (st1++[.lst vs])else .bad
 |.dict0 t=>.ok (.loc st.length) (st++[.dct t []])
 |.idx a i=>(ev call ρ st a).bind λx st1=>(ev call ρ st1 i).bind λy st2=>toR (idxV st2 x y) st2
 |.slc a l h=>(ev call ρ st a).bind λx st1=>(ev call ρ st1 l).bind λy st2=>onP (ybU y) λo=>(ev call ρ st2 h).bind λz st3=>toR (ybY x o z) st3
 |.call f es=>(evs call ρ st es).bind λvs st1=>call f vs st1
 |.blt b es=>(evs call ρ st es).bind λvs st1=>toR (yay b st1 vs) st1
 |.mth m o es=>(ev call ρ st o).bind λx st1=>onO (yaS m st1 x) λ_=>(evs call ρ st1 es).bind λvs st2=>ycu m st2 x vs
 |.isi a ts=>(ev call ρ st a).bind λx st1=>toR (yaU x ts) st1
 |.comp sl tg it c e=>(evi call ρ st it).bind λxs st1=>
  let ρ0:Env:=sl.map λo=>o.bind λj=>(ρ[j]?).join
  ycf (ya3 (λx st2=>match yR tg x ρ0 with
   |none=>.bad
   |some ρ1=>(ev call ρ1 st2 c).bind λb st3=>onO (yaT st3 b) λk=>cond k ((ev call ρ1 st3 e).bind λy st4=>.ok (AA y) st4) (.ok AD st3)) xs st1)
 |.nope=>.bad
 |.frz a=>(ev call ρ st a).bind λx st1=>ydK x st1
 |.rep a b=>(ev call ρ st a).bind λx st1=>(ev call ρ st1 b).bind λy st2=>toR (ydz x y) st2
 |.dix D a=>(ev call ρ st a).bind λx st1=>toR (ycx D x) st1
 |.din a D=>(ev call ρ st a).bind λx st1=>toR (ycn D x) st1
 |.fld c a f=>(ev call ρ st a).bind λx st1=>toR (ya6 c st1 x f) st1
 |.new c i es=>(evs call ρ st es).bind λvs st1=>(ybH (call i (.loc st1.length::vs) (st1++[.ins c []]))).bind λv st2=>newV st1.length v st2
 |.mcl c i m o es=>(ev call ρ st o).bind λx st1=>onO (ycc c m st1 x) λ_=>(evs call ρ st1 es).bind λvs st2=>call i (x::vs) st2
noncomputable def evs(call:Nat->List PV->SO->R PV)(ρ:Env)(st:SO):Ces->R (List PV)
 |.nil=>.ok [] st
 |.cons e es=>(ev call ρ st e).bind λv st1=>(evs call ρ st1 es).bind λvs st2=>.ok (v::vs) st2
noncomputable def evi(call:Nat->List PV->SO->R PV)(ρ:Env)(st:SO):Cit->R (List PV)
 |.seq e=>(ev call ρ st e).bind λv st1=>match v with
  |.tp _ xs=>.ok xs st1
  |.lst xs=>.ok xs st1
  |_=>.bad
 |.range1 a=>(ev call ρ st a).bind λx st1=>toL (yb3 x) st1
 |.range2 a b=>(ev call ρ st a).bind λx st1=>(ev call ρ st1 b).bind λy st2=>toL (yf9 x y) st2
 |.rangeD a b=>(ev call ρ st a).bind λx st1=>(ev call ρ st1 b).bind λy st2=>toL (yf5 x y) st2
 |.enum e=>(ev call ρ st e).bind λv st1=>match v with
  |.tp _ xs=>.ok (yL 0 xs) st1
  |_=>.bad
 |.zip a b=>(ev call ρ st a).bind λx st1=>(ev call ρ st1 b).bind λy st2=>toL (yd2 x y) st2
 |.revl e=>(ev call ρ st e).bind λv st1=>toL (ygp v) st1
 |.revr a=>(ev call ρ st a).bind λx st1=>toL (ygs x) st1
 |.chars e=>(ev call ρ st e).bind λv st1=>toL (ydm v) st1
end
noncomputable def R.fl{α:Type}(r:R α)(ρ:Env)(k:α->SO->Fl):Fl:=
 match r with
 |.ok a st=>k a st
 |.exc c st=>.exc c ρ st
 |.bad=>.bad
noncomputable def yaG(f:Fl)(k:Env->SO->Fl):Fl:=
 match f with
 |.nx ρ st=>k ρ st
 |.ct ρ st=>k ρ st
 |.bk ρ st=>.nx ρ st
 |f=>f
def forL(t:Tg)(body:Env->SO->Fl):List PV->Env->SO->Fl
 |[],ρ,st=>.nx ρ st
 |x::xs,ρ,st=>match yR t x ρ with
  |none=>.bad
  |some ρ1=>yaG (body ρ1 st) λρ2 st2=>forL t body xs ρ2 st2
def yaw(test:Env->SO->R PV)(body:Env->SO->Fl):Nat->Env->SO->Fl
 |0,_,_=>.bad
 |n+1,ρ,st=>(test ρ st).fl ρ λx st1=>onF (yaT st1 x) λk=>cond k (yaG (body ρ st1) λρ2 st2=>yaw test body n ρ2 st2) (.nx ρ st1)
def ybE(st:SO)(o i v:PV):Option SO:=
 match o with
 |.loc n=>match st[n]? with
  |some (.lst xs)=>match i with
   |.int k=>match ixI xs.length k with
    |some j=>AA (st.set n (.lst (xs.set j v)))
    |none=>AD
   |_=>AD
  |_=>AD
 |_=>AD
def ybj(st:SO)(o i v:PV):Option SO:=
 match o with
 |.loc n=>match st[n]? with
  |some (.dct t kvs)=>if isKey t i/\kvs.length<1000000 then AA (st.set n (.dct t (put i v kvs)))else AD
  |_=>AD
 |_=>AD
mutual
noncomputable def ex(call:Nat->List PV->SO->R PV)(ρ:Env)(st:SO):Cs->Fl
 |.expr e=>(ev call ρ st e).fl ρ λ_ st1=>.nx ρ st1
 |.asg t e=>(ev call ρ st e).fl ρ λv st1=>match yR t v ρ with
  |some ρ1=>.nx ρ1 st1
  |none=>.bad
 |.six o i e=>(ev call ρ st e).fl ρ λv st1=>(ev call ρ st1 o).fl ρ λx st2=>(ev call ρ st2 i).fl ρ λy st3=>match ybE st3 x y v with
  |some st4=>.nx ρ st4
  |none=>.bad
 |.dput o i e=>(ev call ρ st e).fl ρ λv st1=>(ev call ρ st1 o).fl ρ λx st2=>(ev call ρ st2 i).fl ρ λy st3=>match ybj st3 x y v with
  |some st4=>.nx ρ st4
  |none=>.bad
 |.aug i o e=>match ρ[i]? with
  |some (AA x)=>(ev call ρ st e).fl ρ λy st1=>match ybT o x y with
   |some z=>.nx (ρ.set i (AA z)) st1
   |none=>.bad
  |_=>.bad
 |.ret e=>(ev call ρ st e).fl ρ λv st1=>.rt v st1
 |.ite c a b=>(ev call ρ st c).fl ρ λx st1=>onF (yaT st1 x) λk=>cond k (exs call ρ st1 a) (exs call ρ st1 b)
 |.for t it b=>(evi call ρ st it).fl ρ λxs st1=>forL t (λρ2 st2=>exs call ρ2 st2 b) xs ρ st1
 |.while c b=>yaw (λρ2 st2=>ev call ρ2 st2 c) (λρ2 st2=>exs call ρ2 st2 b) 100000 ρ st
 |.nope=>.bad
 |.mkr i D n es=>(ev call ρ st n).fl ρ λx st1=>match mkV D (decide (i<ρ.length)) x with
  |some j=>((evs call (ρ.set i AD) st1 es).bind λvs st2=>call j vs st2).fl (ρ.set i AD) λv st3=>.rt v st3
  |none=>.bad
 |.sfl c o f e=>(ev call ρ st e).fl ρ λv st1=>(ev call ρ st1 o).fl ρ λx st2=>match ya9 c st2 x f v with
  |some st3=>.nx ρ st3
  |none=>.bad
noncomputable def exs(call:Nat->List PV->SO->R PV)(ρ:Env)(st:SO):Css->Fl
 |.nil=>.nx ρ st
 |.cons s ss=>match ex call ρ st s with
  |.nx ρ1 st1=>exs call ρ1 st1 ss
  |f=>f
end
structure Fn where
 np:Nat
 ns:Nat
 pure:Bool
 body:Css
def yd(T:Nat->Option Fn):Nat->Nat->List PV->SO->R PV
 |0,_,_,_=>.bad
 |k+1,f,args,st=>match T f with
  |none=>.bad
  |some fn=>if args.length=fn.np then
    if fn.pure then
     if nLs args then match exs (yd T k) (args.map AA++AV (fn.ns-fn.np) AD) [] fn.body with
      |.rt v _=>if nL v then .ok v st else .bad
      |.nx _ _=>.ok .non st
      |.exc c _ _=>.exc c st
      |_=>.bad
     else .bad
    else match exs (yd T k) (args.map AA++AV (fn.ns-fn.np) AD) st fn.body with
     |.rt v st1=>.ok v st1
     |.nx _ st1=>.ok .non st1
     |.exc c _ st1=>.exc c st1
     |_=>.bad
   else .bad
noncomputable def yp:List (Sum Ce Int)->Ces
 |[]=>.nil
 |.inl c::r=>.cons c (yp r)
 |.inr i::r=>.cons (.cst (.int i)) (yp r)
noncomputable def yZ:Ces->Ces->Ces
 |.nil,b=>b
 |.cons e r,b=>.cons e (yZ r b)
end IC
namespace L2
open PySem PySem.Spec PyProof.Rows IC
noncomputable abbrev Ph:=List (Option AI)
section
variable (K:AE)(cl:Nat->AI)(B:AI->Prop)(φ:Ph)(H:Hp)
def ybS(k:Bool)(a:AI)(xs:List V):Prop:=(H a=AA (.tup xs)/\¬B a/\AA a∉φ) \/
 k=AC/\∃(o:CC) (its:Array AF) (n:Nat),K.lookup a=AA o/\o.cls=.type "tuple"/\o.data=.seq its n/\its.size<=sizeLine/\Vals xs its.toList
def ycR(a:AI)(xs:List V):Prop:=H a=AA (.lst xs)/\¬B a/\AA a∉φ
def yd5(a:AI)(xs:List V):Prop:=(Rd H a (.lst xs)/\¬B a/\AA a∉φ) \/
 ∃(o:CC) (its:Array AF) (n:Nat),K.lookup a=AA o/\o.cls=.type "list"/\o.dict=AD/\o.data=.seq its n/\its.size<=sizeLine/\Vals xs its.toList
mutual
noncomputable def yg:PV->V->Prop
 |.non,x=>x=.non
 |.bl b,x=>x=.bl b
 |.int i,x=>x=.int i
 |.str s,x=>x=.str s
 |.tp k vs,x=>∃a xs,x=.ref a/\ybS K B φ H k a xs/\yj vs xs
 |.lst vs,x=>∃a xs,x=.ref a/\ycR B φ H a xs/\yj vs xs
 |.loc n,x=>n<φ.length/\∃a,x=.ref a/\∀b,φ[n]?=AA (AA b)->b=a
 |.exn c,x=>∃a,x=.ref a/\H a=AA (.ext (yhl a (cl c)))/\¬B a/\AA a∉φ
 |.scr vs,x=>∃a xs,x=.ref a/\yd5 K B φ H a xs/\yj vs xs
noncomputable def yj:List PV->List V->Prop
 |[],xs=>xs=[]
 |v::vs,xs=>∃y ys,xs=y::ys/\yg v y/\yj vs ys
end
noncomputable def yaN:Key->PV
 |.inl i=>.int i
 |.inr y=>.str y
def DK:List (PV×PV)->List (Key×V)->Prop
 |[],ks=>ks=[]
 |(k,v)::r,ks=>∃q x s,ks=(q,x)::s/\k=yaN q/\yg K cl B φ H v x/\DK r s
def DT:List (PV×PV)->List (List Key×V)->Prop
 |[],ks=>ks=[]
 |(k,v)::r,ks=>∃q x s,ks=(q,x)::s/\k=.tup (q.map yaN)/\yg K cl B φ H v x/\DT r s
def FS:List (AQ×PV)->List (AQ×V)->Prop
 |[],ks=>ks=[]
 |(k,v)::r,ks=>∃x s,ks=(k,x)::s/\yg K cl B φ H v x/\FS r s
def ycv:Ob->AI->Prop
 |.lst vs,a=>∃xs,H a=AA (.lst xs)/\yj K cl B φ H vs xs
 |.dct AB kvs,a=>∃ks,H a=AA (.dK ks)/\DK K cl B φ H kvs ks
 |.dct AC kvs,a=>∃ks,H a=AA (.dT ks)/\DT K cl B φ H kvs ks
 |.dead,_=>False
 |.ins c fs,a=>∃ks,(∃dx,H a=AA (.ins (cl c) dx ks))/\FS K cl B φ H fs ks
structure yH(st:SO):Prop where
 len:φ.length=st.length
 inj:∀(m n:Nat) (a:AI),φ[m]?=AA (AA a)->φ[n]?=AA (AA a)->m=n
 obj:∀(n:Nat) (a:AI),φ[n]?=AA (AA a)->∃o,st[n]?=AA o/\ycv K cl B φ H o a
 liv:∀(n:Nat) (o:Ob),st[n]?=AA o->o ≠ .dead->∃a,φ[n]?=AA (AA a)
 nb:∀a,AA a∈φ->¬B a
 dom:∀a,B a->∃o,H a=AA o
structure yW(ρ:IC.Env)(σ:St):Prop where
 len:ρ.length=σ.length
 get:∀(i:Nat) (v:PV),ρ[i]?=AA (AA v)->∃x,σ[i]?=AA (AA x)/\yg K cl B φ H v x
end
structure Step(φ:Ph)(H:Hp)(φ':Ph)(H':Hp):Prop where
 keep:∀b o,AA b∉φ->H b=AA o->H' b=AA o
 len:φ.length<=φ'.length
 pre:∀(n:Nat) (a:AI),n<φ.length->φ'[n]?=AA (AA a)->φ[n]?=AA (AA a)
 new:∀b,AA b∈φ'->AA b∈φ \/ H b=AD
theorem Step.rfl{φ:Ph}{H:Hp}:Step φ H φ H:=⟨λ_ _ _ e=>e,AS _,λ_ _ _ e=>e,λ_ h=>.inl h⟩
theorem Step.trans{φ φ1 φ2:Ph}{H H1 H2:Hp}(s:Step φ H φ1 H1)(t:Step φ1 H1 φ2 H2):Step φ H φ2 H2:=by
 refine⟨λb o n e=>?_,BU s.len t.len,λn a hn e=>s.pre n a hn (t.pre n a (A5 hn s.len) e),λb hb=>?_⟩
 .refine t.keep b o (λh=>?_) (s.keep b o n e);rcases s.new b h with q|q
  .exact n q
  .rw[e]at q;cases q
 .rcases t.new b hb with q|q
  .exact s.new b q
  .by_cases h:AA b∈φ
   .exact .inl h
   .refine .inr ?_
    cases e:H b with
    |none=>exact DY _
    |some o=>rw[s.keep b o h e]at q;cases q
section
variable {K:AE}{cl:Nat->AI}{B:AI->Prop}{φ φ':Ph}{H H':Hp}{st:SO}{ρ:IC.Env}{σ:St}
theorem Rd.step(s:Step φ H φ' H'){a:AI}{u:HO}(n:AA a∉φ)(r:Rd H a u):Rd H' a u/\AA a∉φ':=by
 have h:∃o,H a=AA o:=by
  rcases r with r|⟨o,r⟩<;>exact⟨_,r⟩
 refine⟨?_,λz=>?_⟩
 .rcases r with r|⟨o,r⟩
  .exact .inl (s.keep _ _ n r)
  .exact .inr ⟨o,s.keep _ _ n r⟩
 .let⟨o,e⟩:=h;rcases s.new a z with q|q
  .exact n q
  .rw[e]at q;cases q
theorem ybS.step(s:Step φ H φ' H'){k:Bool}{a:AI}{xs:List V}(r:ybS K B φ H k a xs):ybS K B φ' H' k a xs:=by
 rcases r with⟨r,b,n⟩|r
 .let⟨_,n'⟩:=(Rd.of r).step s n;exact .inl ⟨s.keep _ _ n r,b,n'⟩
 .exact .inr r
theorem ycR.step(s:Step φ H φ' H'){a:AI}{xs:List V}(r:ycR B φ H a xs):ycR B φ' H' a xs:=by
 let⟨r,b,n⟩:=r;let⟨_,n'⟩:=(Rd.of r).step s n;exact⟨s.keep _ _ n r,b,n'⟩
theorem yd5.step(s:Step φ H φ' H'){a:AI}{xs:List V}(r:yd5 K B φ H a xs):yd5 K B φ' H' a xs:=by
 rcases r with⟨r,b,n⟩|r
 .let⟨r',n'⟩:=r.step s n;exact .inl ⟨r',b,n'⟩
 .exact .inr r
mutual
theorem yg.step(s:Step φ H φ' H'):∀(v:PV) (x:V),yg K cl B φ H v x->yg K cl B φ' H' v x
 |.non,x,h=>by erw[yg]at h ⊢;exact h
 |.bl b,x,h=>by erw[yg]at h ⊢;exact h
 |.int i,x,h=>by erw[yg]at h ⊢;exact h
 |.str y,x,h=>by erw[yg]at h ⊢;exact h
 |.tp k vs,x,h=>by
  erw[yg]at h ⊢;let⟨a,xs,e,r,l⟩:=h;exact⟨a,xs,e,r.step s,yj.step s vs xs l⟩
 |.lst vs,x,h=>by
  erw[yg]at h ⊢;let⟨a,xs,e,r,l⟩:=h;exact⟨a,xs,e,r.step s,yj.step s vs xs l⟩
 |.loc n,x,h=>by
  erw[yg]at h ⊢;let⟨h1,a,e,h2⟩:=h;exact⟨A5 h1 s.len,a,e,λb q=>h2 b (s.pre n b h1 q)⟩
 |.exn c,x,h=>by
  erw[yg]at h ⊢;let⟨a,e,r,b,n⟩:=h;let⟨_,n'⟩:=(Rd.of r).step s n;exact⟨a,e,s.keep _ _ n r,b,n'⟩
 |.scr vs,x,h=>by
  erw[yg]at h ⊢;let⟨a,xs,e,r,l⟩:=h;exact⟨a,xs,e,r.step s,yj.step s vs xs l⟩
theorem yj.step(s:Step φ H φ' H'):∀(v:List PV) (x:List V),yj K cl B φ H v x->yj K cl B φ' H' v x
 |[],x,h=>by erw[yj]at h ⊢;exact h
 |v::vs,x,h=>by
  erw[yj]at h ⊢;let⟨y,ys,e,r,l⟩:=h;exact⟨y,ys,e,yg.step s v y r,yj.step s vs ys l⟩
end
theorem yW.step(s:Step φ H φ' H')(r:yW K cl B φ H ρ σ):yW K cl B φ' H' ρ σ:=⟨r.len,λi v e=>by
 let⟨x,h,q⟩:=r.get i v e;exact⟨x,h,q.step s⟩⟩
mutual
theorem yg.inn(hn:∀a,AA a∈φ->¬B a):∀(v:PV) (x:V),nL v=AC->yg K cl B φ H v x->yg K cl (λa=>B a \/ AA a∈φ) [] H v x
 |.non,x,_,h=>by erw[yg]at h ⊢;exact h
 |.bl b,x,_,h=>by erw[yg]at h ⊢;exact h
 |.int i,x,_,h=>by erw[yg]at h ⊢;exact h
 |.str y,x,_,h=>by erw[yg]at h ⊢;exact h
 |.tp k vs,x,q,h=>by
  erw[yg]at h ⊢;let⟨a,xs,e,r,l⟩:=h;refine⟨a,xs,e,?_,yj.inn hn vs xs (by simpa only[nL] using q) l⟩;rcases r with⟨r,b,n⟩|r
  .exact .inl ⟨r,λz=>z.elim b n,by simp⟩
  .exact .inr r
 |.lst vs,x,q,h=>by
  erw[yg]at h ⊢;let⟨a,xs,e,⟨r,b,n⟩,l⟩:=h;exact⟨a,xs,e,⟨r,λz=>z.elim b n,by simp⟩,yj.inn hn vs xs (by simpa only[nL] using q) l⟩
 |.loc n,x,q,h=>by simp[nL]at q
 |.exn c,x,q,h=>by simp[nL]at q
 |.scr vs,x,q,h=>by
  erw[yg]at h ⊢;let⟨a,xs,e,r,l⟩:=h;refine⟨a,xs,e,?_,yj.inn hn vs xs (by simpa only[nL] using q) l⟩;rcases r with⟨r,b,n⟩|r
  .exact .inl ⟨r,λz=>z.elim b n,by simp⟩
  .exact .inr r
theorem yj.inn(hn:∀a,AA a∈φ->¬B a):∀(v:List PV) (x:List V),nLs v=AC->yj K cl B φ H v x->yj K cl (λa=>B a \/ AA a∈φ) [] H v x
 |[],x,_,h=>by erw[yj]at h ⊢;exact h
 |v::vs,x,q,h=>by
  erw[yj]at h ⊢;erw[nLs,AK]at q;let⟨y,ys,e,r,l⟩:=h;exact⟨y,ys,e,yg.inn hn v y q.1 r,yj.inn hn vs ys q.2 l⟩
end
mutual
theorem yg.out{ψ:Ph}:∀(v:PV) (x:V),nL v=AC->yg K cl (λa=>B a \/ AA a∈φ) ψ H v x->yg K cl B φ H v x
 |.non,x,_,h=>by erw[yg]at h ⊢;exact h
 |.bl b,x,_,h=>by erw[yg]at h ⊢;exact h
 |.int i,x,_,h=>by erw[yg]at h ⊢;exact h
 |.str y,x,_,h=>by erw[yg]at h ⊢;exact h
 |.tp k vs,x,q,h=>by
  erw[yg]at h ⊢;let⟨a,xs,e,r,l⟩:=h;refine⟨a,xs,e,?_,yj.out vs xs (by simpa only[nL] using q) l⟩;rcases r with⟨r,b,n⟩|r
  .exact .inl ⟨r,λz=>b (.inl z),λz=>b (.inr z)⟩
  .exact .inr r
 |.lst vs,x,q,h=>by
  erw[yg]at h ⊢;let⟨a,xs,e,⟨r,b,n⟩,l⟩:=h;exact⟨a,xs,e,⟨r,λz=>b (.inl z),λz=>b (.inr z)⟩,yj.out vs xs (by simpa only[nL] using q) l⟩
 |.loc n,x,q,h=>by simp[nL]at q
 |.exn c,x,q,h=>by simp[nL]at q
 |.scr vs,x,q,h=>by
  erw[yg]at h ⊢;let⟨a,xs,e,r,l⟩:=h;refine⟨a,xs,e,?_,yj.out vs xs (by simpa only[nL] using q) l⟩;rcases r with⟨r,b,n⟩|r
  .exact .inl ⟨r,λz=>b (.inl z),λz=>b (.inr z)⟩
  .exact .inr r
theorem yj.out{ψ:Ph}:∀(v:List PV) (x:List V),nLs v=AC->yj K cl (λa=>B a \/ AA a∈φ) ψ H v x->yj K cl B φ H v x
 |[],x,_,h=>by erw[yj]at h ⊢;exact h
 |v::vs,x,q,h=>by
  erw[yj]at h ⊢;erw[nLs,AK]at q;let⟨y,ys,e,r,l⟩:=h;exact⟨y,ys,e,yg.out v y q.1 r,yj.out vs ys q.2 l⟩
end
theorem yj.length:∀{v:List PV} {x:List V},yj K cl B φ H v x->v.length=x.length
 |[],x,h=>by erw[yj]at h;subst h;rfl
 |v::vs,x,h=>by
  erw[yj]at h;let⟨y,ys,rfl,_,l⟩:=h;simp[yj.length l]
theorem DK.step(s:Step φ H φ' H'):∀{kvs:List (PV×PV)} {ks:List (Key×V)},DK K cl B φ H kvs ks->DK K cl B φ' H' kvs ks
 |[],ks,h=>h
 |(k,v)::r,ks,h=>by
  let⟨q,x,t,e,m,rv,l⟩:=h;exact⟨q,x,t,e,m,rv.step s,DK.step s l⟩
theorem DT.step(s:Step φ H φ' H'):∀{kvs:List (PV×PV)} {ks:List (List Key×V)},DT K cl B φ H kvs ks->DT K cl B φ' H' kvs ks
 |[],ks,h=>h
 |(k,v)::r,ks,h=>by
  let⟨q,x,t,e,m,rv,l⟩:=h;exact⟨q,x,t,e,m,rv.step s,DT.step s l⟩
theorem FS.step(s:Step φ H φ' H'):∀{kvs:List (AQ×PV)} {ks:List (AQ×V)},FS K cl B φ H kvs ks->FS K cl B φ' H' kvs ks
 |[],ks,h=>h
 |(k,v)::r,ks,h=>by
  let⟨x,t,e,rv,l⟩:=h;exact⟨x,t,e,rv.step s,FS.step s l⟩
theorem ycv.step(s:Step φ H φ' H'){o:Ob}{a:AI}(e:H' a=H a)(r:ycv K cl B φ H o a):ycv K cl B φ' H' o a:=by
 cases o with
 |lst vs=>
  let⟨xs,q,l⟩:=r;exact⟨xs,e.trans q,l.step s⟩
 |dct t kvs=>
  cases t with
  |false=>let⟨ks,q,l⟩:=r;exact⟨ks,e.trans q,l.step s⟩
  |true=>let⟨ks,q,l⟩:=r;exact⟨ks,e.trans q,l.step s⟩
 |dead=>exact r
 |ins c fs=>let⟨ks,⟨dx,q⟩,l⟩:=r;exact⟨ks,⟨dx,e.trans q⟩,l.step s⟩
theorem ycv.there{o:Ob}{a:AI}(r:ycv K cl B φ H o a):∃u,H a=AA u:=by
 cases o with
 |lst vs=>let⟨xs,q,l⟩:=r;exact⟨_,q⟩
 |dct t kvs=>cases t<;>(let⟨ks,q,l⟩:=r;exact⟨_,q⟩)
 |dead=>exact r.elim
 |ins c fs=>let⟨ks,⟨dx,q⟩,l⟩:=r;exact⟨_,q⟩
theorem yH.there(S:yH K cl B φ H st){a:AI}(h:AA a∈φ):∃u,H a=AA u:=by
 let⟨n,e⟩:=Db.mp h;let⟨o,_,r⟩:=S.obj n a e;exact r.there
theorem Step.upd{p:AI}{o:HO}(hp:H p=AD):Step φ H φ (upd H p o):=
 ⟨λb u n e=>by rw[zk (zn e hp)];exact e,AS _,λ_ _ _ e=>e,λ_ h=>.inl h⟩
theorem yH.same(S:yH K cl B φ H st)(k:∀b o,H b=AA o->H' b=AA o):yH K cl B φ H' st:=by
 have s:Step φ H φ H':=⟨λb o _ e=>k b o e,AS _,λ_ _ _ e=>e,λ_ h=>.inl h⟩;refine⟨S.len,S.inj,λn a e=>?_,S.liv,S.nb,λa h=>?_⟩
 .let⟨o,q,r⟩:=S.obj n a e;let⟨u,z⟩:=r.there;exact⟨o,q,r.step s ((k a u z).trans z.symm)⟩
 .let⟨o,q⟩:=S.dom a h;exact⟨o,k a o q⟩
theorem yH.upd{p:AI}{o:HO}(S:yH K cl B φ H st)(hp:H p=AD):yH K cl B φ (upd H p o) st:=S.same λb u e=>by rw[zk (zn e hp)];exact e
mutual
theorem yg.moreB{B':AI->Prop}(hn:∀y,B' y->B y \/ H y=AD):∀(v:PV) (x:V),yg K cl B φ H v x->yg K cl B' φ H v x
 |.non,x,h=>by erw[yg]at h ⊢;exact h
 |.bl b,x,h=>by erw[yg]at h ⊢;exact h
 |.int i,x,h=>by erw[yg]at h ⊢;exact h
 |.str y,x,h=>by erw[yg]at h ⊢;exact h
 |.tp k vs,x,h=>by
  erw[yg]at h ⊢;let⟨y,xs,e,r,l⟩:=h;refine⟨y,xs,e,?_,yj.moreB hn vs xs l⟩;rcases r with⟨r,b,n⟩|r
  .exact .inl ⟨r,λz=>(hn y z).elim b λq=>(by rw[q]at r;cases r),n⟩
  .exact .inr r
 |.lst vs,x,h=>by
  erw[yg]at h ⊢;let⟨y,xs,e,⟨r,b,n⟩,l⟩:=h;exact⟨y,xs,e,⟨r,λz=>(hn y z).elim b λq=>(by rw[q]at r;cases r),n⟩,yj.moreB hn vs xs l⟩
 |.loc n,x,h=>by erw[yg]at h ⊢;exact h
 |.exn c,x,h=>by
  erw[yg]at h ⊢;let⟨y,e,r,b,n⟩:=h;exact⟨y,e,r,λz=>(hn y z).elim b λq=>(by rw[q]at r;cases r),n⟩
 |.scr vs,x,h=>by
  erw[yg]at h ⊢;let⟨y,xs,e,r,l⟩:=h;refine⟨y,xs,e,?_,yj.moreB hn vs xs l⟩;rcases r with⟨r,b,n⟩|r
  .refine .inl ⟨r,λz=>(hn y z).elim b λq=>?_,n⟩;rcases r with r|⟨o,r⟩<;>(rw[q]at r;cases r)
  .exact .inr r
theorem yj.moreB{B':AI->Prop}(hn:∀y,B' y->B y \/ H y=AD):∀(v:List PV) (x:List V),yj K cl B φ H v x->yj K cl B' φ H v x
 |[],x,h=>by erw[yj]at h ⊢;exact h
 |v::vs,x,h=>by
  erw[yj]at h ⊢;let⟨y,ys,e,r,l⟩:=h;exact⟨y,ys,e,yg.moreB hn v y r,yj.moreB hn vs ys l⟩
end
end
end L2
namespace L2
open PySem PySem.Spec PyProof.Rows
def CXH(X:Cx)(H:Hp)(s:AJ)(E:XK)(e:AF)(s':AJ):Prop:=
 ∃(C a:AI) (cls a0 fl:AF) (H':Hp) (B:BF),X.s₀.heap.objs.size<=C/\e=.ref a/\s'.os=s.os/\Dj s'.gens /\
  (B.StaysIn s'.heap/\B.get? a=AD/\s'.heap.FunFrames B X.stack/\s'.heap.TracedAtW B a cls a0 fl)/\HOk X.prog X.w H' s'.heap/\Un (frs X.stack) [C] H H' s.heap s'.heap /\
  (∀b o,s.heap.get? b=AA o->H b=AD->b∉frs X.stack->b≠C->B.get? b=AA o)/\(∀b u,H' b=AA u->∃o,B.get? b=AA o)/\(∀b o,s.heap.get? b=AA o->b∉frs X.stack->b≠C->∃o',B.get? b=AA o')/\E cls AD H'
theorem CXH.mono{X:Cx}{H:Hp}{s:AJ}{E E':XK}{e:AF}{s':AJ}(h:CXH X H s E e s')(n:∀cls H',E cls AD H'->E' cls AD H'):CXH X H s E' e s':=by
 let⟨C,a,cls,a0,fl,H',B,r1,r2,r3,r4,r5,r6,r7,r8,r9,r10,r11⟩:=h;exact⟨C,a,cls,a0,fl,H',B,r1,r2,r3,r4,r5,r6,r7,r8,r9,r10,n _ _ r11⟩
section
variable {M:Model}{A:Ax}{E:AF->AJ->Prop}{s:AJ}
theorem zfM{base:BF}{env:Env}{outer:List Env}{L e:AI}{cls a0 fl:AF}{Q:Unit->AJ->Prop}
  (hfr:A.frames=AA (env::outer)) (hf:env.frame=AA L) (f1:base.StaysIn s.heap) (f2:base.get? e=AD) (f3:s.heap.FunFrames base (env::outer)) (f4:s.heap.TracedAtW base e cls a0 fl)
  (hQ:∀h',HV base outer e cls a0 h'->s.heap.UpToSlots h'->Q () {s with heap:=h'}):A2 M A (leaving env (.ref e)) Q E s:=by
 by_cases hfl:fl=rawInt L
 .subst hfl;unfold leaving;refine AH (wpAny_noteFrame_againW hf f4 ?_);refine wpAny_landsW ⟨f1,f2,f3,f4⟩ λh' hfl up=>?_;let⟨k1,k2,⟨_,_,k3⟩,k4⟩:=hfl;exact hQ h' ⟨k1,k2,k3,k4⟩ up
 .let⟨oe,vs,T,oT,ts,he,⟨hcls,h0⟩,hd,h1,hnT,hTe,hT,hdT,h3⟩:=f4;subst hcls;unfold leaving noteFrame;erw[hf];refine AH (AH (BX he hd h1 ?_));rw[if_pos (show (Ai T != CO)=AC from by simp)];refine AH (BX hT hdT h3 ?_);rw[if_neg (show ¬((fl==rawInt L)=AC)from λz=>hfl (eq_of_beq z))];refine AH (F0 hT hdT (EQ.mp h3).1 ?_);have other:∀b,b≠T->(s.heap.update T (Obj.mapFields (·.setIfInBounds 3 CO))).get? b=s.heap.get? b:=λb hb=>DU _ _ (BJ hb);have noRecord:∀b o,s.heap.get? b=AA o->(∀vs,o.data ≠ .fields vs)->b≠T:=λb o hb hnf q=>by
   rw[q,hT]at hb;injection hb with hb;subst hb;exact hnf ts hdT
  refine wpAny_newEntryW hfr (f3.of_keeps λb o hb hnf=>⟨o,(other b (noRecord b o hb hnf)).trans hb,rfl⟩) hf ((other e (BJ hTe)).trans he)
   (λb o hbo=>(other b λq=>by rw[q,hnT]at hbo;cases hbo).trans (f1 b o hbo)) f2 hd (EQ.mp h1).1 h0
   λh' ⟨x1,⟨_,_,x2⟩,x3,x4⟩=>hQ h' ⟨x1,f2,x2,x3⟩ λb o hb hnf=>x4 b o ((other b (noRecord b o hb hnf)).trans hb) hnf
end
section
variable {P:A9}{w:Al}{K:AE}{mg:AQ->Option AF}{base:BF}{N:List AQ}{qual:AQ}{scope:Bl}{f:AI}{cd:AF}{A:Ax}{outer:List Env}{s₀:AJ}{H₀:Hp}{E:XK}
theorem yeK{pins:List (AI×CC)}{σ:St}{H:Hp}{s:AJ}{e:AF}{s':AJ}(I:Inv (ya4 (CX1 P w) P w K mg base N qual scope f cd A outer s₀ H₀ E) pins σ H s)(h:CXH (ya4 (CX1 P w) P w K mg base N qual scope f cd A outer s₀ H₀ E) H s E e s'):
  (ya4 (CX1 P w) P w K mg base N qual scope f cd A outer s₀ H₀ E).xe e s':=by
 let⟨C,a,cls,a0,fl,H',B,hC,rfl,os,bare,⟨f1,f2,f3,f4⟩,hok,un,hB,tr,hT,hE⟩:=h;have bse:Un (frs outer) [] H₀ H s₀.heap s.heap:=I.base;have lt:∀b o,s₀.heap.get? b=AA o->b≠s₀.heap.objs.size:=λb o q=>Aq (AX q);have neC:∀b o,s₀.heap.get? b=AA o->b≠C:=λb o q=>Aq (A5 (AX q) hC);have niC:∀b o,s₀.heap.get? b=AA o->b∉[C]:=λb o q z=>neC b o q (by simpa using z);have hst:∀b,b∈frs (envOfC qual scope s₀.heap.objs.size f cd::outer)->b=s₀.heap.objs.size \/ b∈frs outer:=λb hb=>by
  have hb':b∈s₀.heap.objs.size::frs outer:=hb;exact AN.mp hb'
 have un':Un (frs (envOfC qual scope s₀.heap.objs.size f cd::outer)) [C] H H' s.heap s'.heap:=un;have kB:∀b o,s₀.heap.get? b=AA o->H₀ b=AD->b∉frs outer->B.get? b=AA o:=λb o q n hb=>hB b o (bse.keep b o q n hb (by simp)) (bse.free b o q n (by simp)) (λz=>by
  rcases hst b z with z|z
  .exact lt b o q z
  .exact hb z) (neC b o q)
 have kT:∀b o,s₀.heap.get? b=AA o->b∉frs outer->∃o',B.get? b=AA o':=λb o q hb=>by
  let⟨o',q1⟩:=bse.there b o q (by simp);refine hT b o' q1 (λz=>?_) (neC b o q);rcases hst b z with z|z
  .exact lt b o q z
  .exact hb z
 refine zfM I.ok.frames rfl f1 f2 f3 f4 λh'' fl' up=>?_;refine⟨a,cls,a0,H',B,rfl,os.trans I.os,bare,fl',HOk.inB hok f1 fl'.1 tr,⟨λb o q n hb _=>fl'.1 b o (kB b o q n hb),λb o q n hb _=>?_,λb o q n _=>?_,λb o q _=>?_,λb xs q=>un'.tups b xs (bse.tups b xs q),λb o u q=>un'.frzs b o u (bse.frzs b o u q),λb ps q=>?_⟩,kB,tr,kT,hE⟩
 .let⟨sl,q1⟩:=bse.slot b o q n hb (by simp);have n1:=bse.free b o q n (by simp);let⟨sl1,q2⟩:=un'.slot b _ q1 n1 (AR _ hb) (niC b o q);let⟨_,o',ho',hd⟩:=CT f3 (show b∈DW (λ(z:Env)=>z.frame) _ from AR _ hb);let⟨sl',q3⟩:=up b _ q2 (by rw[ho']at q2;cases q2;exact hd);exact⟨sl',q3⟩
 .let⟨o',q1⟩:=bse.there b o q (by simp);exact un'.free b o' q1 (bse.free b o q n (by simp)) (niC b o q)
 .let⟨o',q1⟩:=bse.there b o q (by simp);let⟨o2,q2⟩:=un'.there b o' q1 (niC b o q)
  by_cases hb:b∈frs outer
  .let⟨_,o3,ho3,hd⟩:=CT f3 (show b∈DW (λ(z:Env)=>z.frame) _ from AR _ hb);let⟨sl',q3⟩:=up b _ ho3 hd;exact⟨_,q3⟩
  .let⟨o4,q4⟩:=kT b o q hb;exact⟨o4,fl'.1 b o4 q4⟩
 .let⟨m1,e1⟩:=bse.tbls b ps q;let⟨m2,e2⟩:=un'.tbls b _ e1;exact⟨m1++m2,by rw[e2,EG]⟩
end
section
variable {pg:A9}{wd:Al}{A:Ax}{R:Gy->AJ->Prop}{s:AJ}
end
section
variable {X:Cx}{sc:Bl}{NC:List AQ}{slots:List (Option Nat)}{elt tg iter:AT}{ifs:List AT}{pos:CW}{g:TG}{ti:TT}{te:CI->TE}{E:XK}
end
end L2
namespace L2
open PySem PySem.Spec PyProof.Rows IC
structure Se where
 cl:Nat->AI
 call:Nat->List PV->SO->R PV
 may:Bool
section
variable (S:Se)(X:Cx)
def ExcAt(σ:St)(B:AI->Prop)(φ:Ph)(H:Hp)(k:Nat)(st':SO)(e:AF)(s':AJ):Prop:=
 (∃pins H1 s φ1,Inv X pins σ H1 s/\Step φ H φ1 H1/\CX1 X.prog X.w X.stack H1 s (λcls _ H'=>cls=.ref (S.cl k)/\∃φ',Step φ1 H1 φ' H'/\yH X.K S.cl B φ' H' st') e s') \/
 (S.may=AC/\∃pins H1 s φ1 h' e0 vs,Inv X pins σ H1 s/\Step φ H φ1 H1/\yH X.K S.cl B φ1 H1 st'/\HD s.heap h' e0 (.ref (S.cl k)) vs/\e=.ref e0/\s'={s with heap:=h'}) \/
 (S.may=AC/\∃pins H1 s,Inv X pins σ H1 s/\CXH X H1 s (λcls _ H'=>cls=.ref (S.cl k)/\∃φ',Step φ H φ' H'/\yH X.K S.cl B φ' H' st') e s')
def Run{α β:Type}(σ:St)(B:AI->Prop)(φ:Ph)(H:Hp)(Rel:Ph->Hp->α->β->Prop)(r:R α)(Q:β->Hp->Prop):Prop:=
 match r with
 |.ok v st'=>∀x H' φ',Step φ H φ' H'->yH X.K S.cl B φ' H' st'->Rel φ' H' v x->Q x H'
 |.exc k st'=>∀e s',ExcAt S X σ B φ H k st' e s'->X.xe e s'
 |.bad=>False
abbrev RV(B:AI->Prop):Ph->Hp->PV->V->Prop:=λφ H=>yg X.K S.cl B φ H
abbrev RL(B:AI->Prop):Ph->Hp->List PV->List V->Prop:=λφ H=>yj X.K S.cl B φ H
noncomputable abbrev RB:Ph->Hp->Bool->Bool->Prop:=λ_ _ b c=>b=c
def tE(c:Ce):TE:=λσ H Q=>∃B φ st ρ,yH X.K S.cl B φ H st/\yW X.K S.cl B φ H ρ σ/\Run S X σ B φ H (RV S X B) (ev S.call ρ st c) Q
def tAs(c:Ces):TA:=λσ H Q=>∃B φ st ρ,yH X.K S.cl B φ H st/\yW X.K S.cl B φ H ρ σ/\Run S X σ B φ H (RL S X B) (evs S.call ρ st c) Q
def ybe(r:R PV):R Bool:=r.bind λx st=>onO (yaT st x) λb=>.ok b st
def tTs(c:Ce):TT:=λσ H Q=>∃B φ st ρ,yH X.K S.cl B φ H st/\yW X.K S.cl B φ H ρ σ/\Run S X σ B φ H RB (ybe (ev S.call ρ st c)) Q
end
section
variable {S:Se}{X:Cx}{σ:St}{B:AI->Prop}{φ φ1:Ph}{H H1:Hp}
theorem ExcAt.back{k:Nat}{st':SO}{e:AF}{s':AJ}(s:Step φ H φ1 H1)(h:ExcAt S X σ B φ1 H1 k st' e s'):ExcAt S X σ B φ H k st' e s':=by
 rcases h with⟨pins,H2,t,φ2,I,q,c⟩|⟨m,pins,H2,t,φ2,h',e0,vs,I,q,c⟩|⟨m,pins,H2,t,I,c⟩
 .exact .inl ⟨pins,H2,t,φ2,I,s.trans q,c⟩
 .exact .inr (.inl ⟨m,pins,H2,t,φ2,h',e0,vs,I,s.trans q,c⟩)
 .exact .inr (.inr ⟨m,pins,H2,t,I,c.mono λcls H' ⟨e1,φ',s2,r⟩=>⟨e1,φ',s.trans s2,r⟩⟩)
variable {α β γ δ:Type}{Rel:Ph->Hp->α->β->Prop}{HW:Ph->Hp->γ->δ->Prop}
theorem Run.on{r:R α}{Q:β->Hp->Prop}(s:Step φ H φ1 H1)(h:Run S X σ B φ H Rel r Q):Run S X σ B φ1 H1 Rel r Q:=by
 cases r with
 |ok v st'=>exact λx H' φ' t=>h x H' φ' (s.trans t)
 |exc k st'=>exact λe s' x=>h e s' (x.back s)
 |bad=>exact h
theorem Run.mono{r:R α}{Q Q':β->Hp->Prop}(h:Run S X σ B φ H Rel r Q)(k:∀x H',Q x H'->Q' x H'):Run S X σ B φ H Rel r Q':=by
 cases r with
 |ok v st'=>exact λx H' φ' t rs rv=>k x H' (h x H' φ' t rs rv)
 |exc c st'=>exact h
 |bad=>exact h
theorem Run.bind{r:R α}{k:α->SO->R γ}{Q:δ->Hp->Prop}(h:Run S X σ B φ H HW (r.bind k) Q):
  Run S X σ B φ H Rel r λx H1=>∃v st1 φ1,Step φ H φ1 H1/\yH X.K S.cl B φ1 H1 st1/\Rel φ1 H1 v x/\Run S X σ B φ1 H1 HW (k v st1) Q:=by
 cases r with
 |ok v st'=>exact λx H' φ' t rs rv=>⟨v,st',φ',t,rs,rv,Run.on t h⟩
 |exc c st'=>exact h
 |bad=>exact h
theorem Run.ok{v:α}{st:SO}{Q:β->Hp->Prop}(h:Run S X σ B φ H Rel (.ok v st) Q)(rs:yH X.K S.cl B φ H st){x:β}(rv:Rel φ H v x):Q x H:=h x H φ .rfl rs rv
theorem PE.imp{e:AT}{t t':TE}(h:PE X e t')(k:∀σ H Q,t σ H Q->t' σ H Q):PE X e t:=λpins s σ H Q I q=>h pins s σ H Q I (k σ H Q q)
theorem PT.imp{e:AT}{t t':TT}(h:PT X e t')(k:∀σ H Q,t σ H Q->t' σ H Q):PT X e t:=λpins s σ H Q I q=>h pins s σ H Q I (k σ H Q q)
theorem PW.imp{e:AT}{t t':TT}(h:PW X e t')(k:∀σ H Q,t σ H Q->t' σ H Q):PW X e t:=λwh pins s σ H Q I q=>h wh pins s σ H Q I (k σ H Q q)
theorem PA.imp{e:List AT}{t t':TA}(h:PA X e t')(k:∀σ H Q,t σ H Q->t' σ H Q):PA X e t:=λpos pins s σ H Q I q=>h pos pins s σ H Q I (k σ H Q q)
theorem tE.bind{c:Ce}{ρ:IC.Env}{st:SO}{k:PV->SO->R γ}{Q:δ->Hp->Prop}{P:V->Hp->Prop}(rs:yH X.K S.cl B φ H st)(re:yW X.K S.cl B φ H ρ σ)(h:Run S X σ B φ H HW ((ev S.call ρ st c).bind k) Q)
  (n:∀x H1 v st1 φ1,Step φ H φ1 H1->yH X.K S.cl B φ1 H1 st1->yW X.K S.cl B φ1 H1 ρ σ->yg X.K S.cl B φ1 H1 v x->Run S X σ B φ1 H1 HW (k v st1) Q->P x H1):tE S X c σ H P:=
 ⟨B,φ,st,ρ,rs,re,(Run.bind h).mono λx H1 ⟨v,st1,φ1,s,rs1,rv,h1⟩=>n x H1 v st1 φ1 s rs1 (re.step s) rv h1⟩
theorem tAs.bind{c:Ces}{ρ:IC.Env}{st:SO}{k:List PV->SO->R γ}{Q:δ->Hp->Prop}{P:List V->Hp->Prop}(rs:yH X.K S.cl B φ H st)(re:yW X.K S.cl B φ H ρ σ)(h:Run S X σ B φ H HW ((evs S.call ρ st c).bind k) Q)
  (n:∀x H1 v st1 φ1,Step φ H φ1 H1->yH X.K S.cl B φ1 H1 st1->yW X.K S.cl B φ1 H1 ρ σ->yj X.K S.cl B φ1 H1 v x->Run S X σ B φ1 H1 HW (k v st1) Q->P x H1):tAs S X c σ H P:=
 ⟨B,φ,st,ρ,rs,re,(Run.bind h).mono λx H1 ⟨v,st1,φ1,s,rs1,rv,h1⟩=>n x H1 v st1 φ1 s rs1 (re.step s) rv h1⟩
variable {i:Int}{b:Bool}{x:AQ}{j:Nat}{pos:CW}{e a a':AT}{c ca cb cc:Ce}
theorem zkF:PE X (.Constant (.int i) j pos) (tE S X (.cst (.int i))):=ydQ.imp λσ H Q ⟨B,φ,st,ρ,rs,re,h⟩=>by
 erw[ev]at h;exact h.ok rs (by erw[yg])
theorem zp1:PE X (.Constant (.bool b) j pos) (tE S X (.cst (.bl b))):=yeh.imp λσ H Q ⟨B,φ,st,ρ,rs,re,h⟩=>by
 erw[ev]at h;exact h.ok rs (by erw[yg])
theorem zoA:PE X (.Constant .none j pos) (tE S X (.cst .non)):=ydb.imp λσ H Q ⟨B,φ,st,ρ,rs,re,h⟩=>by
 erw[ev]at h;exact h.ok rs (by erw[yg])
theorem zmX:PE X (.Constant (.str x) j pos) (tE S X (.cst (.str x))):=ydE.imp λσ H Q ⟨B,φ,st,ρ,rs,re,h⟩=>by
 erw[ev]at h;exact h.ok rs (by erw[yg])
theorem zpq{i:Nat}(hN:X.N[i]?=AA x)(hv:Vis X.env.scope x)(hd:(x==("__debug__":AQ))=false:=by decide)(hcd:(x==("__classdict__":AQ))=false:=by decide):PE X (.Name x pos) (tE S X (.var i)):=
 (zky hN hv hd hcd).imp λσ H Q ⟨B,φ,st,ρ,rs,re,h⟩=>by
  erw[ev]at h
  cases q:ρ[i]? with
  |none=>rw[q]at h;exact h.elim
  |some o=>
   cases o with
   |none=>rw[q]at h;exact h.elim
   |some v=>
    rw[q]at h;let⟨y,hy,rv⟩:=re.get i v q;exact⟨y,hy,h.ok rs rv⟩
theorem zmB{v:PV}{y:AI}(hg:Gl X x)(hm:X.mg x=AA (.ref y))(hk:∀B φ H,yg X.K S.cl B φ H v (.ref y))(hd:(x==("__debug__":AQ))=false:=by decide):PE X (.Name x pos) (tE S X (.cst v)):=
 (zdb hg hm (show RelV (.ref y) (.ref y)from rfl) hd).imp λσ H Q ⟨B,φ,st,ρ,rs,re,h⟩=>by
  erw[ev]at h;exact h.ok rs (hk B φ H)
theorem zae{o:Option PV}{st:SO}{Q:VK}(h:Run S X σ B φ H (RV S X B) (toR o st) Q)(rs:yH X.K S.cl B φ H st):∃z,o=AA z/\∀z' H' φ',Step φ H φ' H'->yH X.K S.cl B φ' H' st->yg X.K S.cl B φ' H' z z'->Q z' H':=by
 cases o with
 |none=>exact h.elim
 |some z=>exact⟨z,rfl,h⟩
def rT2(S:Se)(X:Cx)(f:PV->PV->Option PV):R2:=λx y H Q=>∃B φ st v w z,yH X.K S.cl B φ H st/\yg X.K S.cl B φ H v x/\yg X.K S.cl B φ H w y/\f v w=AA z /\
 ∀z' H' φ',Step φ H φ' H'->yH X.K S.cl B φ' H' st->yg X.K S.cl B φ' H' z z'->Q z' H'
theorem znE{op:Ds}{o:BOp}(ho:OpR X (binaryOp op) (rT2 S X (yJ o)))(ha:PE X a (tE S X ca))(hb:PE X a' (tE S X cb)):PE X (.BinOp a op a' pos) (tE S X (.bin o ca cb)):=
 (znM ho ha hb).imp λσ H Q ⟨B,φ,st,ρ,rs,re,h⟩=>by
  erw[ev]at h;refine tE.bind rs re h λx H1 v st1 φ1 s1 rs1 re1 rv h1=>tE.bind rs1 re1 h1 λy H2 w st2 φ2 s2 rs2 re2 rw h2=>?_;let⟨z,e,q⟩:=zae h2 rs2;exact⟨B,φ2,st2,v,w,z,rs2,rv.step s2,rw,e,q⟩
theorem zoX{op:Fg}{o:COp}(ho:OpR X (compareOp op) (rT2 S X (yN o)))(ha:PE X a (tE S X ca))(hb:PE X a' (tE S X cb))(hm:behindInMarks op a'=AB):PE X (.Compare a [op] [a'] pos) (tE S X (.cmp o ca cb)):=
 (zhw ho ha hb hm).imp λσ H Q ⟨B,φ,st,ρ,rs,re,h⟩=>by
  erw[ev]at h;refine tE.bind rs re h λx H1 v st1 φ1 s1 rs1 re1 rv h1=>tE.bind rs1 re1 h1 λy H2 w st2 φ2 s2 rs2 re2 rw h2=>?_;let⟨z,e,q⟩:=zae h2 rs2;exact⟨B,φ2,st2,v,w,z,rs2,rv.step s2,rw,e,q⟩
end
section
variable {S:Se}{X:Cx}{σ:St}{B:AI->Prop}{φ φ1:Ph}{H H1:Hp}{K:AE}{cl:Nat->AI}{st:SO}
theorem ybS.sq{k:Bool}{a:AI}{xs:List V}(r:ybS K B φ H k a xs):SqT K H a xs:=by
 rcases r with⟨r,_⟩|r
 .exact .inl (.inl r)
 .exact .inr r.2
theorem ycR.sq{a:AI}{xs:List V}(r:ycR B φ H a xs):SqL K H a xs:=.inl (.inl r.1)
theorem yg.tup_new{vs:List PV}{xs:List V}{p:AI}(hp:H p=AD)(rs:yH K cl B φ H st)(r:yj K cl B φ H vs xs):yg K cl B φ (upd H p (.tup xs)) (.tup vs) (.ref p):=by
 erw[yg];refine⟨p,xs,rfl,.inl ⟨zt,λz=>?_,λz=>?_⟩,r.step (.upd hp)⟩
 .let⟨o,e⟩:=rs.dom p z;rw[hp]at e;cases e
 .let⟨o,e⟩:=rs.there z;rw[hp]at e;cases e
theorem yg.lst_new{vs:List PV}{xs:List V}{p:AI}(hp:H p=AD)(rs:yH K cl B φ H st)(r:yj K cl B φ H vs xs):yg K cl B φ (upd H p (.lst xs)) (.lst vs) (.ref p):=by
 erw[yg];refine⟨p,xs,rfl,⟨zt,λz=>?_,λz=>?_⟩,r.step (.upd hp)⟩
 .let⟨o,e⟩:=rs.dom p z;rw[hp]at e;cases e
 .let⟨o,e⟩:=rs.there z;rw[hp]at e;cases e
theorem yj.append:∀{vs ws:List PV} {xs ys:List V},yj K cl B φ H vs xs->yj K cl B φ H ws ys->yj K cl B φ H (vs++ws) (xs++ys)
 |[],ws,xs,ys,h,q=>by erw[yj]at h;subst h;exact q
 |v::vs,ws,xs,ys,h,q=>by
  erw[yj]at h;let⟨y,zs,rfl,r,l⟩:=h;show yj K cl B φ H (v::(vs++ws)) (y::(zs++ys));erw[yj];exact⟨y,zs++ys,rfl,r,yj.append l q⟩
theorem yj.get:∀{vs:List PV} {xs:List V} (j:Nat) {v:PV},yj K cl B φ H vs xs->vs[j]?=AA v->∃x,xs[j]?=AA x/\yg K cl B φ H v x
 |[],xs,j,v,h,e=>by simp at e
 |w::vs,xs,0,v,h,e=>by
  erw[yj]at h;let⟨y,zs,rfl,r,l⟩:=h;simp at e;subst e;exact⟨y,rfl,r⟩
 |w::vs,xs,j+1,v,h,e=>by
  erw[yj]at h;let⟨y,zs,rfl,r,l⟩:=h;let⟨x,q1,q2⟩:=yj.get j l (by simpa using e);exact⟨x,by simpa using q1,q2⟩
theorem yj.drop:∀{vs:List PV} {xs:List V} (n:Nat),yj K cl B φ H vs xs->yj K cl B φ H (vs.drop n) (xs.drop n)
 |vs,xs,0,h=>by simpa using h
 |[],xs,n+1,h=>by erw[yj]at h;subst h;simp[yj]
 |v::vs,xs,n+1,h=>by
  erw[yj]at h;let⟨y,ys,rfl,_,l⟩:=h;simpa using yj.drop n l
theorem yj.take:∀{vs:List PV} {xs:List V} (n:Nat),yj K cl B φ H vs xs->yj K cl B φ H (vs.take n) (xs.take n)
 |vs,xs,0,h=>by simp[yj]
 |[],xs,n+1,h=>by erw[yj]at h;subst h;simp[yj]
 |v::vs,xs,n+1,h=>by
  erw[yj]at h;let⟨y,ys,rfl,r,l⟩:=h;erw[List.take_succ_cons,yj];exact⟨y,ys.take n,rfl,r,yj.take n l⟩
theorem zcm{f:AF->AF->HI AF}{o:BOp}{C:Int->Int->Prop}{g:Int->Int->Int}(h:OpR X f (rI C λi j=>.int (g i j)))
  (hb:∀v w z,yJ o v w=AA z->∃i j,v=.int i/\w=.int j/\C i j/\z=.int (g i j)):OpR X f (rT2 S X (yJ o)):=by
 rintro pins s σ H x y v u Q I rx ry ⟨B,φ,st,a,b,z,rs,ra,rb,e,q⟩
 let⟨i,j,rfl,rfl,hc,rfl⟩:=hb a b z e;erw[yg]at ra rb;subst ra rb;exact h pins s σ H _ _ v u Q I rx ry ⟨i,j,rfl,rfl,hc,q _ H φ .rfl rs (by erw[yg])⟩
theorem zcy{f:AF->AF->HI AF}{o:BOp}{g:Int->Int->Int}(h:OpR X f (rI0 λi j=>.int (g i j)))
  (hb:∀v w z,yJ o v w=AA z->∃i j,v=.int i/\w=.int j/\z=.int (g i j)):OpR X f (rT2 S X (yJ o)):=by
 rintro pins s σ H x y v u Q I rx ry ⟨B,φ,st,a,b,z,rs,ra,rb,e,q⟩
 let⟨i,j,rfl,rfl,rfl⟩:=hb a b z e;erw[yg]at ra rb;subst ra rb;exact h pins s σ H _ _ v u Q I rx ry ⟨i,j,rfl,rfl,q _ H φ .rfl rs (by erw[yg])⟩
theorem zlW(v w z:PV)(h:yJ .sub v w=AA z):∃i j,v=.int i/\w=.int j/\z=.int (i-j):=by
 unfold yJ at h;split at h<;>first|(cases h;done)|skip
 exact⟨_,_,rfl,rfl,(AW h).symm⟩
theorem zmb(v w z:PV)(h:yJ .mul v w=AA z):∃i j,v=.int i/\w=.int j/\ydg i j/\z=.int (i*j):=by
 unfold yJ at h;split at h<;>first|(cases h;done)|skip
 rename_i i j;erw[IC.binI]at h;split at h
 .rename_i c;refine⟨i,j,rfl,rfl,?_,(AW h).symm⟩;erw[yaH,DF,decide_eq_true_eq]at c;unfold ydg;rcases c with c|c
  .left;constructor<;>lia
  .right;constructor<;>lia
 .cases h
theorem zjm(v w z:PV)(h:yJ .fdiv v w=AA z):∃i j,v=.int i/\w=.int j/\ydM i j/\z=.int (i/j):=by
 unfold yJ at h;split at h<;>first|(cases h;done)|skip
 rename_i i j;erw[IC.binI]at h;split at h
 .rename_i c;exact⟨i,j,rfl,rfl,c,(AW h).symm⟩
 .cases h
theorem zmr(v w z:PV)(h:yJ .mod v w=AA z):∃i j,v=.int i/\w=.int j/\0<j/\z=.int (i%j):=by
 unfold yJ at h;split at h<;>first|(cases h;done)|skip
 rename_i i j;erw[IC.binI]at h;split at h
 .rename_i c;exact⟨i,j,rfl,rfl,c,(AW h).symm⟩
 .cases h
theorem zmm(v w z:PV)(h:yJ .pow v w=AA z):∃i j,v=.int i/\w=.int j/\ydX i j/\z=.int (i^j.toNat):=by
 unfold yJ at h;split at h<;>first|(cases h;done)|skip
 rename_i i j;erw[IC.binI]at h;split at h
 .rename_i c;exact⟨i,j,rfl,rfl,⟨c.1,c.2.1,by have:=c.2.2;lia⟩,(AW h).symm⟩
 .cases h
theorem zl8(v w z:PV)(h:yJ .shl v w=AA z):∃i j,v=.int i/\w=.int j/\ydX i j/\z=.int (i*2^j.toNat):=by
 unfold yJ at h;split at h<;>first|(cases h;done)|skip
 rename_i i j;erw[IC.binI]at h;split at h
 .rename_i c;exact⟨i,j,rfl,rfl,⟨c.1,c.2.1,by have:=c.2.2;lia⟩,(AW h).symm⟩
 .cases h
theorem zmL(v w z:PV)(h:yJ .shr v w=AA z):∃i j,v=.int i/\w=.int j/\0<=j/\z=.int (i/2^j.toNat):=by
 unfold yJ at h;split at h<;>first|(cases h;done)|skip
 rename_i i j;erw[IC.binI]at h;split at h
 .rename_i c;exact⟨i,j,rfl,rfl,c,(AW h).symm⟩
 .cases h
theorem zjT(v w z:PV)(h:yJ .band v w=AA z):∃i j,v=.int i/\w=.int j/\z=.int (Ar i j):=by
 unfold yJ at h;split at h<;>first|(cases h;done)|skip
 exact⟨_,_,rfl,rfl,(AW h).symm⟩
theorem zlQ(v w z:PV)(h:yJ .bor v w=AA z):∃i j,v=.int i/\w=.int j/\z=.int (Bd i j):=by
 unfold yJ at h;split at h<;>first|(cases h;done)|skip
 exact⟨_,_,rfl,rfl,(AW h).symm⟩
theorem zj3(v w z:PV)(h:yJ .bxor v w=AA z):∃i j,v=.int i/\w=.int j/\z=.int (B1 i j):=by
 unfold yJ at h;split at h<;>first|(cases h;done)|skip
 exact⟨_,_,rfl,rfl,(AW h).symm⟩
theorem zot:OpR X (binaryOp .Sub) (rT2 S X (yJ .sub)):=zcy znp zlW
theorem zne:OpR X (binaryOp .Mult) (rT2 S X (yJ .mul)):=zcm zpl zmb
theorem zlU:OpR X (binaryOp .FloorDiv) (rT2 S X (yJ .fdiv)):=zcm zju zjm
theorem zo5:OpR X (binaryOp .Mod) (rT2 S X (yJ .mod)):=zcm zpn zmr
theorem zov:OpR X (binaryOp .Pow) (rT2 S X (yJ .pow)):=zcm znD zmm
theorem znJ:OpR X (binaryOp .LShift) (rT2 S X (yJ .shl)):=zcm zm4 zl8
theorem znl:OpR X (binaryOp .RShift) (rT2 S X (yJ .shr)):=zcm zn5 zmL
theorem zl9:OpR X (binaryOp .BitAnd) (rT2 S X (yJ .band)):=zcy znQ zjT
theorem zoU:OpR X (binaryOp .BitOr) (rT2 S X (yJ .bor)):=zcy zpw zlQ
theorem zll:OpR X (binaryOp .BitXor) (rT2 S X (yJ .bxor)):=zcy zmV zj3
theorem zH:sizeMax=sizeLine:=by rw[CY];rfl
theorem zma:OpR X (binaryOp .Add) (λx y H Q=>∃a b ys,x=.ref a/\y=.ref b/\SqT X.K H a []/\SqT X.K H b ys/\Q (.ref b) H):=by
 intro pins s σ H x y v u Q I rx ry h;let⟨a,b,ys,rfl,rfl,ha,hb,q⟩:=h
 cases rx
 cases ry
 let⟨its,r1,p1,_⟩:=I.tuple ha;let⟨its2,r2,p2,_⟩:=I.tuple hb;have:its=[]:=r1.nil_iff.mpr rfl;subst this;let⟨⟨cls,dd,data,sl⟩,ho,hc,n,hd⟩:=id p1;let⟨⟨cls2,dd2,data2,sl2⟩,ho2,hc2,n2,hd2⟩:=id p2;simp only at hc hd hc2 hd2;subst hc hd hc2 hd2;exact GG ⟨_,ho,rfl⟩ ⟨_,ho2,rfl⟩ Em Fh DS DO (DB _ _)
   (tuple_addW0 a b [].toArray its2.toArray n n2 dd dd2 sl sl2 (by simp)) ⟨ho,ho2,⟨.ref b,H,I,rfl,q⟩⟩
theorem zmY:OpR X (binaryOp .Add) (rT2 S X (yJ .add)):=by
 rintro pins s σ H x y v u Q I rx ry ⟨B,φ,st,a,b,z,rs,ra,rb,e,q⟩
 unfold yJ at e;split at e
 .rename_i i j;erw[yg]at ra rb;subst ra rb
  cases e
  exact znb pins s σ H _ _ v u Q I rx ry ⟨i,j,rfl,rfl,q _ H φ .rfl rs (by erw[yg])⟩
 .rename_i i k;erw[yg]at ra rb;subst ra rb
  cases e
  exact zhb pins s σ H _ _ v u Q I rx ry ⟨i,k,rfl,rfl,q _ H φ .rfl rs (by erw[yg];cases k<;>rfl)⟩
 .rename_i i j;erw[yg]at ra rb;subst ra rb;dsimp only at e;split at e
  .rename_i c
   cases e
   exact zgy pins s σ H _ _ v u Q I rx ry ⟨i,j,rfl,rfl,by rw[<-zH];exact c,q _ H φ .rfl rs (by erw[yg])⟩
  .cases e
 .rename_i k1 vs k2 ws;erw[yg]at ra rb;let⟨p,xs,rfl,r1,l1⟩:=ra;let⟨p',ys,rfl,r2,l2⟩:=rb;dsimp only at e;split at e
  .rename_i c
   cases e
   have n1:=l1.length;have n2:=l2.length;unfold yd7 at q
   cases vs with
   |nil=>
    have:xs=[]:=by cases xs with|nil=>rfl|cons _ _=>simp at n1
    subst this;refine zma pins s σ H _ _ v u Q I rx ry ⟨p,p',ys,rfl,rfl,r1.sq,r2.sq,q _ H φ .rfl rs ?_⟩;erw[G4,if_true,yg];exact⟨p',ys,rfl,r2,l2⟩
   |cons v1 vr=>
    erw[GR,Bg,if_false]at q;refine zlz pins s σ H _ _ v u Q I rx ry ⟨p,p',xs,ys,rfl,rfl,r1.sq,r2.sq,?_,by rw[<-zH];lia,λz=>?_,λz t ht=>?_⟩
    .rintro rfl
     simp at n1
    .subst z;have:ws=[]:=by cases ws with|nil=>rfl|cons _ _=>simp at n2
     subst this;erw[G4,if_true]at q;refine q _ H φ .rfl rs ?_;erw[yg];exact⟨p,xs,rfl,r1,l1⟩
    .cases ws with
     |nil=>exact absurd (List.length_eq_zero_iff.mp n2.symm) z
     |cons w1 wr=>
      erw[GR,Bg,if_false]at q;exact q _ _ φ (.upd ht) (rs.upd ht) (.tup_new ht rs (l1.append l2))
  .cases e
 .rename_i vs ws;erw[yg]at ra rb;let⟨p,xs,rfl,r1,l1⟩:=ra;let⟨p',ys,rfl,r2,l2⟩:=rb;dsimp only at e;split at e
  .rename_i c
   cases e
   have n1:=l1.length;have n2:=l2.length;exact znY pins s σ H _ _ v u Q I rx ry ⟨p,p',xs,ys,rfl,rfl,r1.1,r2.1,by rw[<-zH];lia,λt ht=>q _ _ φ (.upd ht) (rs.upd ht) (.lst_new ht rs (l1.append l2))⟩
  .cases e
 .cases e
end
mutual
noncomputable def toD:PV->PyData
 |.non=>.none
 |.bl b=>.bool b
 |.int i=>.int i
 |.str x=>.str x
 |.tp _ xs=>.tuple (ybN xs)
 |.lst xs=>.list (ybN xs)
 |_=>.none
noncomputable def ybN:List PV->List PyData
 |[]=>[]
 |x::xs=>toD x::ybN xs
end
mutual
theorem ziq:∀(v:PV) (n:Nat),shd n v=AC->(toD v).canLay0=AC/\(toD v).depth<=n
 |.non,n,h=>by simp[toD,Cq,DZ]
 |.bl b,n,h=>by simp[toD,Cq,DZ]
 |.int i,n,h=>by simp[toD,Cq,DZ]
 |.str x,n,h=>by
  erw[shd]at h;erw[toD,Cq,DZ,DN,and_true];exact h
 |.tp _ xs,n,h=>by
  erw[shd,AK,decide_eq_true_eq]at h;let⟨q1,q2⟩:=zeu xs (n-1) h.2;erw[toD,Cq,DZ];exact⟨q1,by lia⟩
 |.lst xs,n,h=>by
  erw[shd,AK,decide_eq_true_eq]at h;let⟨q1,q2⟩:=zeu xs (n-1) h.2;erw[toD,Cq,DZ];exact⟨q1,by lia⟩
 |.loc k,n,h=>by simp[shd]at h
 |.exn k,n,h=>by simp[shd]at h
 |.scr xs,n,h=>by simp[shd]at h
theorem zeu:∀(v:List PV) (n:Nat),ybG n v=AC->E8 (ybN v)=AC/\FP (ybN v)<=n
 |[],n,h=>by simp[ybN,E8,FP]
 |v::vs,n,h=>by
  erw[ybG,AK]at h;let⟨q1,q2⟩:=ziq v n h.1;let⟨q3,q4⟩:=zeu vs n h.2;erw[ybN,E8,FP,AK];exact⟨⟨q1,q3⟩,by lia⟩
end
theorem zbc{v:PV}(h:shp v=AC):HX (toD v)=true:=by
 let⟨q1,q2⟩:=ziq v 60 h;unfold HX;rw[q1,Dm,decide_eq_true_eq];lia
mutual
theorem zfA:∀(v w:PV) (n m:Nat),shd n v=AC->shd m w=AC->B8 (toD v) (toD w)=peq v w
 |.non,w,n,m,h,q=>by cases w<;>simp_all[toD,B8,peq,shd]
 |.bl b,w,n,m,h,q=>by cases w<;>simp_all[toD,B8,peq,shd,bi]
 |.int i,w,n,m,h,q=>by cases w<;>simp_all[toD,B8,peq,shd,bi]
 |.str x,w,n,m,h,q=>by cases w<;>simp_all[toD,B8,peq,shd]
 |.tp _ xs,.tp _ ys,n,m,h,q=>by
  erw[shd,AK]at h q;erw[toD,B8,peq];exact zei xs ys (n-1) (m-1) h.2 q.2
 |.lst xs,.lst ys,n,m,h,q=>by
  erw[shd,AK]at h q;erw[toD,B8,peq];exact zei xs ys (n-1) (m-1) h.2 q.2
 |.tp _ xs,.non,n,m,h,q=>by simp[toD,B8,peq]
 |.tp _ xs,.bl _,n,m,h,q=>by simp[toD,B8,peq]
 |.tp _ xs,.int _,n,m,h,q=>by simp[toD,B8,peq]
 |.tp _ xs,.str _,n,m,h,q=>by simp[toD,B8,peq]
 |.tp _ xs,.lst _,n,m,h,q=>by simp[toD,B8,peq]
 |.lst xs,.non,n,m,h,q=>by simp[toD,B8,peq]
 |.lst xs,.bl _,n,m,h,q=>by simp[toD,B8,peq]
 |.lst xs,.int _,n,m,h,q=>by simp[toD,B8,peq]
 |.lst xs,.str _,n,m,h,q=>by simp[toD,B8,peq]
 |.lst xs,.tp _ _,n,m,h,q=>by simp[toD,B8,peq]
 |.loc k,w,n,m,h,q=>by simp[shd]at h
 |.exn k,w,n,m,h,q=>by simp[shd]at h
 |.scr k,w,n,m,h,q=>by simp[shd]at h
 |v,.loc k,n,m,h,q=>by simp[shd]at q
 |v,.exn k,n,m,h,q=>by simp[shd]at q
 |v,.scr k,n,m,h,q=>by simp[shd]at q
theorem zei:∀(v w:List PV) (n m:Nat),ybG n v=AC->ybG m w=AC->Dn (ybN v) (ybN w)=ybp v w
 |[],[],n,m,h,q=>by simp[ybN,Dn,ybp]
 |[],y::ys,n,m,h,q=>by simp[ybN,Dn,ybp]
 |x::xs,[],n,m,h,q=>by simp[ybN,Dn,ybp]
 |x::xs,y::ys,n,m,h,q=>by
  erw[ybG,AK]at h q;erw[ybN,Dn,ybp];rw[zfA x y n m h.1 q.1,zei xs ys n m h.2 q.2]
end
section
variable {S:Se}{X:Cx}{σ:St}{B:AI->Prop}{φ φ1:Ph}{H H1:Hp}{st:SO}{pins:List (AI×CC)}{s:AJ}
mutual
theorem zbL(I:Inv X pins σ H s):∀(v:PV) (n:Nat) (x:V) (u:AF),shd n v=AC->yg X.K S.cl B φ H v x->RelV x u->∃as,Reads s.heap u (toD v) as
 |.non,n,x,u,h,r,q=>by
  erw[yg]at r;subst r;cases (show u=CO from q);exact⟨_,.none⟩
 |.bl b,n,x,u,h,r,q=>by
  erw[yg]at r;subst r;cases (show u=ED b from q);exact⟨_,.bool b⟩
 |.int i,n,x,u,h,r,q=>by
  erw[yg]at r;subst r;let⟨t,rfl⟩:=q;exact⟨_,.int i t⟩
 |.str y,n,x,u,h,r,q=>by
  erw[yg]at r;subst r;let⟨t,rfl⟩:=q;exact⟨_,.str y t⟩
 |.tp _ vs,n,x,u,h,r,q=>by
  erw[yg]at r;let⟨a,xs,rfl,rt,l⟩:=r
  cases (show u=Ai a from q)
  erw[shd,AK]at h;let⟨its,rv,⟨o,g,c,k,d⟩,_⟩:=I.tuple rt.sq;let⟨as,z⟩:=zdi I vs (n-1) xs its h.2 l rv;exact⟨as,.tuple g c d (by simpa using z)⟩
 |.lst vs,n,x,u,h,r,q=>by
  erw[yg]at r;let⟨a,xs,rfl,rt,l⟩:=r
  cases (show u=Ai a from q)
  erw[shd,AK]at h;let⟨its,rv,⟨o,k,g,c,_,d⟩,_⟩:=I.list (rt.sq (K:=X.K));let⟨as,z⟩:=zdi I vs (n-1) xs its h.2 l rv;exact⟨_,.list g c d (by simpa using z)⟩
 |.loc k,n,x,u,h,r,q=>by simp[shd]at h
 |.exn k,n,x,u,h,r,q=>by simp[shd]at h
 |.scr k,n,x,u,h,r,q=>by simp[shd]at h
theorem zdi(I:Inv X pins σ H s):∀(v:List PV) (n:Nat) (x:List V) (u:List AF),ybG n v=AC->yj X.K S.cl B φ H v x->Vals x u->∃as,ReadsAll s.heap u (ybN v) as
 |[],n,x,u,h,r,q=>by
  erw[yj]at r;subst r;cases q;exact⟨_,.nil⟩
 |v::vs,n,x,u,h,r,q=>by
  erw[yj]at r;let⟨y,ys,rfl,rv,l⟩:=r;erw[ybG,AK]at h
  cases q with
  |cons q1 q2=>
   let⟨as,z1⟩:=zbL I v n y _ h.1 rv q1;let⟨bs,z2⟩:=zdi I vs n ys _ h.2 l q2;exact⟨_,.cons z1 z2⟩
end
theorem zpU(hu:X.A.units+64<cLine):OpR X (compareOp .Eq) (rT2 S X (yN .eq)):=by
 rintro pins s σ H x y v u Q I rx ry ⟨B,φ,st,a,b,z,rs,ra,rb,e,q⟩
 erw[yN]at e;split at e
 .rename_i c;rw[AK]at c
  cases e
  let⟨as,z1⟩:=zbL (S:=S) I a 60 x v c.1 ra rx;let⟨bs,z2⟩:=zbL (S:=S) I b 60 y u c.2 rb ry;refine eq_dataH z1 z2 (zbc c.1) (zbc c.2) hu ⟨.bl _,H,I,rfl,?_⟩;rw[zfA a b 60 60 c.1 c.2];exact q _ H φ .rfl rs (by erw[yg])
 .cases e
theorem zpR(hu:X.A.units+64<cLine):OpR X (compareOp .NotEq) (rT2 S X (yN .ne)):=by
 rintro pins s σ H x y v u Q I rx ry ⟨B,φ,st,a,b,z,rs,ra,rb,e,q⟩
 erw[yN]at e;split at e
 .rename_i c;rw[AK]at c
  cases e
  let⟨as,z1⟩:=zbL (S:=S) I a 60 x v c.1 ra rx;let⟨bs,z2⟩:=zbL (S:=S) I b 60 y u c.2 rb ry;refine ne_dataH z1 z2 (zbc c.1) (zbc c.2) hu ⟨.bl _,H,I,rfl,?_⟩;rw[zfA a b 60 60 c.1 c.2];exact q _ H φ .rfl rs (by erw[yg])
 .cases e
theorem zh9{f:AF->AF->HI AF}{o:COp}{g:Int->Int->Bool}(h:OpR X f (rI0 λi j=>.bl (g i j)))
  (hb:∀v w z,yN o v w=AA z->∃i j,v=.int i/\w=.int j/\z=.bl (g i j)):OpR X f (rT2 S X (yN o)):=by
 rintro pins s σ H x y v u Q I rx ry ⟨B,φ,st,a,b,z,rs,ra,rb,e,q⟩
 let⟨i,j,rfl,rfl,rfl⟩:=hb a b z e;erw[yg]at ra rb;subst ra rb;exact h pins s σ H _ _ v u Q I rx ry ⟨i,j,rfl,rfl,q _ H φ .rfl rs (by erw[yg])⟩
theorem ziJ:OpR X (compareOp .LtE) (λx y H Q=>∃i j,x=.str i/\y=.str j/\Q (.bl (!decide (j.cps.toList<i.cps.toList))) H):=by
 intro pins s σ H x y v u Q I rx ry h;let⟨i,j,rfl,rfl,q⟩:=h;let⟨t,rfl⟩:=rx;let⟨t',rfl⟩:=ry;exact PySem.P.le_str (zh6 I q rfl)
theorem zpS:OpR X (compareOp .Lt) (rT2 S X (yN .lt)):=by
 rintro pins s σ H x y v u Q I rx ry ⟨B,φ,st,a,b,z,rs,ra,rb,e,q⟩
 erw[yN]at e;split at e
 .rename_i i j;erw[yg]at ra rb;subst ra rb
  cases e
  exact zpA pins s σ H _ _ v u Q I rx ry ⟨i,j,rfl,rfl,q _ H φ .rfl rs (by erw[yg])⟩
 .rename_i i j;erw[yg]at ra rb;subst ra rb
  cases e
  exact zis pins s σ H _ _ v u Q I rx ry ⟨i,j,rfl,rfl,q _ H φ .rfl rs (by erw[yg])⟩
 .cases e
theorem zpI:OpR X (compareOp .LtE) (rT2 S X (yN .le)):=by
 rintro pins s σ H x y v u Q I rx ry ⟨B,φ,st,a,b,z,rs,ra,rb,e,q⟩
 erw[yN]at e;split at e
 .rename_i i j;erw[yg]at ra rb;subst ra rb
  cases e
  exact zpx pins s σ H _ _ v u Q I rx ry ⟨i,j,rfl,rfl,q _ H φ .rfl rs (by erw[yg])⟩
 .rename_i i j;erw[yg]at ra rb;subst ra rb
  cases e
  exact ziJ pins s σ H _ _ v u Q I rx ry ⟨i,j,rfl,rfl,q _ H φ .rfl rs (by erw[yg])⟩
 .cases e
theorem zgg{o:COp}{g:Int->Int->Bool}(ho:∀v w,yN o v w=match v,w with
   |.int i,.int j=>ybI o i j
   |.str a,.str b=>yed o a b
   |_,_=>AD) (hs:∀a b,yed o a b=AD) (hg:∀i j,ybI o i j=AA (.bl (g i j))) (v w z:PV) (h:yN o v w=AA z):∃i j,v=.int i/\w=.int j/\z=.bl (g i j):=by
 rw[ho]at h;split at h
 .rename_i i j;rw[hg]at h;exact⟨i,j,rfl,rfl,(AW h).symm⟩
 .rw[hs]at h;cases h
 .cases h
theorem zpt:OpR X (compareOp .Gt) (rT2 S X (yN .gt)):=zh9 zpL (zgg (λ_ _=>rfl) (λ_ _=>rfl) λ_ _=>rfl)
theorem zpz:OpR X (compareOp .GtE) (rT2 S X (yN .ge)):=zh9 zp7 (zgg (λ_ _=>rfl) (λ_ _=>rfl) λ_ _=>rfl)
theorem yg.isNon{K:AE}{cl:Nat->AI}{v:PV}{x:V}(r:yg K cl B φ H v x):decide (x=.non)=IC.isNon v:=by
 cases v with
 |loc n=>erw[yg]at r;let⟨_,a,rfl,_⟩:=r;rfl
 |non=>erw[yg]at r;subst r;rfl
 |bl b=>erw[yg]at r;subst r;rfl
 |int b=>erw[yg]at r;subst r;rfl
 |str b=>erw[yg]at r;subst r;rfl
 |tp k vs=>erw[yg]at r;let⟨a,xs,rfl,_⟩:=r;rfl
 |lst vs=>erw[yg]at r;let⟨a,xs,rfl,_⟩:=r;rfl
 |exn vs=>erw[yg]at r;let⟨a,rfl,_⟩:=r;rfl
 |scr vs=>erw[yg]at r;let⟨a,xs,rfl,_⟩:=r;rfl
theorem yg.flat{K:AE}{cl:Nat->AI}{v:PV}{x:V}(r:yg K cl B φ H v x)(h:IC.flat v=AC):ya5 x=AC/\∀(w:PV) (y:V),IC.flat w=AC->yg K cl B φ H w y->eqV x y=peq v w:=by
 cases v with
 |non=>
  erw[yg]at r;subst r;refine⟨rfl,λw y hw rw=>?_⟩
  cases w<;>first|(simp[IC.flat]at hw;done)|(erw[yg]at rw;subst rw;simp[eqV,peq,bi])
 |bl b=>
  erw[yg]at r;subst r;refine⟨rfl,λw y hw rw=>?_⟩
  cases w<;>first|(simp[IC.flat]at hw;done)|(erw[yg]at rw;subst rw;simp[eqV,peq,bi])
 |int b=>
  erw[yg]at r;subst r;refine⟨rfl,λw y hw rw=>?_⟩
  cases w<;>first|(simp[IC.flat]at hw;done)|(erw[yg]at rw;subst rw;simp[eqV,peq,bi])
 |str b=>
  erw[yg]at r;subst r;refine⟨rfl,λw y hw rw=>?_⟩
  cases w<;>first|(simp[IC.flat]at hw;done)|(erw[yg]at rw;subst rw;simp[eqV,peq,bi])
 |_=>simp[IC.flat]at h
theorem zfH{K:AE}{cl:Nat->AI}{v:PV}{x:V}(r:yg K cl B φ H v x)(h:IC.flat v=AC):∀{vs:List PV} {xs:List V},yj K cl B φ H vs xs->vs.all IC.flat=AC->xs.all ya5=AC/\inV x xs=inL v vs
 |[],xs,l,_=>by erw[yj]at l;subst l;exact⟨rfl,rfl⟩
 |w::vs,xs,l,f=>by
  erw[yj]at l;let⟨y,ys,rfl,rw,l⟩:=l;rw[Be,AK]at f;let⟨q1,q2⟩:=zfH r h l f.2;let⟨q3,q4⟩:=rw.flat f.1;refine⟨by rw[Be,q3,q1];rfl,?_⟩;unfold inV at q2 ⊢;rw[Bm,q2,q4 v x h r];rfl
end
theorem zlw(a b:AQ):(!(Ej b a 0 b.length 1).isEmpty)=inS a b:=by
 rw[DG,StrLaws.found_iff];unfold inS;rw[Eo];constructor
 .rintro⟨i,h1,h2⟩
  exact⟨i,by rw[Gw];lia,by rw[AK,decide_eq_true_eq];exact⟨h1,h2⟩⟩
 .rintro⟨i,_,h⟩
  rw[AK,decide_eq_true_eq]at h;exact⟨i,h.1,h.2⟩
section
variable {S:Se}{X:Cx}{σ:St}{B:AI->Prop}{φ φ1:Ph}{H H1:Hp}{st:SO}
theorem zpD:OpR X (compareOp .In) (rT2 S X (yN .isin)):=by
 rintro pins s σ H x y v u Q I rx ry ⟨B,φ,st,a,b,z,rs,ra,rb,e,q⟩
 erw[yN]at e;split at e
 .rename_i i j;erw[yg]at ra rb;subst ra rb
  cases e
  exact zgY pins s σ H _ _ v u Q I rx ry ⟨i,j,rfl,rfl,by rw[zlw];exact q _ H φ .rfl rs (by erw[yg])⟩
 .rename_i l;split at e
  .rename_i c;rw[AK]at c
   cases e
   erw[yg]at rb;let⟨p,xs,rfl,r,l'⟩:=rb;let⟨q1,q2⟩:=zfH ra c.1 l' c.2;exact zeJ pins s σ H _ _ v u Q I rx ry ⟨p,xs,rfl,.inr r.sq,(ra.flat c.1).1,q1,q _ H φ .rfl rs (by erw[yg];rw[<-q2];rfl)⟩
  .cases e
 .rename_i l;split at e
  .rename_i c;rw[AK]at c
   cases e
   erw[yg]at rb;let⟨p,xs,rfl,r,l'⟩:=rb;let⟨q1,q2⟩:=zfH ra c.1 l' c.2;exact zeJ pins s σ H _ _ v u Q I rx ry ⟨p,xs,rfl,.inl r.sq,(ra.flat c.1).1,q1,q _ H φ .rfl rs (by erw[yg];rw[<-q2];rfl)⟩
  .cases e
 .cases e
theorem yj.empty{K:AE}{cl:Nat->AI}{vs:List PV}{xs:List V}(l:yj K cl B φ H vs xs):vs.isEmpty=xs.isEmpty:=by
 have:=l.length
 cases vs<;>cases xs<;>simp_all
theorem zl2{K:AE}{cl:Nat->AI}{v:PV}{x:V}{k:Bool}(rs:yH K cl B φ H st)(r:yg K cl B φ H v x)(h:yaT st v=AA k):yer K x H k:=by
 cases v with
 |non=>erw[yg]at r;subst r;cases h;rfl
 |bl b=>erw[yg]at r;subst r;cases h;rfl
 |int b=>erw[yg]at r;subst r;cases h;rfl
 |str b=>
  erw[yg]at r;subst r;erw[yaT]at h;split at h
  .rename_i c
   cases h
   exact⟨by rw[<-zH];exact c,rfl⟩
  .cases h
 |tp k vs=>
  erw[yg]at r;let⟨a,xs,rfl,rt,l⟩:=r
  cases h
  exact .inr (.inl ⟨xs,rt.sq,by rw[l.empty]⟩)
 |lst vs=>
  erw[yg]at r;let⟨a,xs,rfl,rt,l⟩:=r
  cases h
  exact .inl ⟨xs,rt.sq,by rw[l.empty]⟩
 |loc n=>
  erw[yg]at r;let⟨hn,a,rfl,ha⟩:=r;erw[yaT]at h;split at h
  .rename_i vs hv
   cases h
   let⟨b,hb⟩:=rs.liv n _ hv (by intro z;cases z);obtain rfl:=ha b hb;let⟨o,ho,ro⟩:=rs.obj n b hb;rw[hv]at ho;cases ho;let⟨xs,hx,l⟩:=ro;exact .inl ⟨xs,.of hx,by rw[l.empty]⟩
  .cases h
 |exn c=>cases h
 |scr c=>cases h
end
theorem R.bind_assoc{α β γ:Type}{r:R α}{k:α->SO->R β}{l:β->SO->R γ}:(r.bind k).bind l=r.bind λa s=>(k a s).bind l:=by
 cases r<;>rfl
section
variable {S:Se}{X:Cx}{σ:St}{B:AI->Prop}{φ φ1:Ph}{H H1:Hp}{st:SO}{ρ:IC.Env}{pos:CW}{a b c d:AT}{ca cb cc:Ce}{es:List AT}{ces:Ces}
theorem zeg{o:COp}{v w z:PV}(h:yN o v w=AA z):∃k,z=.bl k:=by
 cases o<;>erw[yN]at h
 all_goals (repeat' split at h)<;>first|(cases h;done)|(cases h;exact⟨_,rfl⟩)|skip
 all_goals (erw[ybI]at h;cases h;exact⟨_,rfl⟩)
theorem zoB{op:Fg}{o:COp}(ho:OpR X (compareOp op) (rT2 S X (yN o)))(ha:PE X a (tE S X ca))(hb:PE X b (tE S X cb))(hm:behindInMarks op b=AB):PT X (.Compare a [op] [b] pos) (tTs S X (.cmp o ca cb)):=
 (zmM ho ha hb hm).imp λσ H Q ⟨B,φ,st,ρ,rs,re,h⟩=>by
  erw[ev,ybe,R.bind_assoc]at h;refine tE.bind rs re h λx H1 v st1 φ1 s1 rs1 re1 rv h1=>tE.bind rs1 re1 h1 λy H2 w st2 φ2 s2 rs2 re2 rw h2=>?_
  cases e:yN o v w with
  |none=>rw[e]at h2;exact h2.elim
  |some z=>
   let⟨k,rfl⟩:=zeg e;rw[e]at h2;refine⟨B,φ2,st2,v,w,.bl k,rs2,rv.step s2,rw,e,λz' H' φ' s' rs' rz=>?_⟩;erw[yg]at rz;exact⟨k,rz,h2 k H' φ' s' rs' rfl⟩
theorem zoR(ha:PE X a (tE S X ca))(he:∀whole,isTrue a X.env whole=(do let v <-whole;standAt a.pos;holding [v] (truthy v)):=by intro _;rfl):PT X a (tTs S X ca):=
 (zjW ha he).imp λσ H Q ⟨B,φ,st,ρ,rs,re,h⟩=>by
  erw[ybe]at h;refine tE.bind rs re h λx H1 v st1 φ1 s1 rs1 re1 rv h1=>?_
  cases e:yaT st1 v with
  |none=>rw[e]at h1;exact h1.elim
  |some k=>
   rw[e]at h1;exact⟨k,zl2 rs1 rv e,h1.ok rs1 rfl⟩
theorem tTs.bind{γ δ:Type}{HW:Ph->Hp->γ->δ->Prop}{k:Bool->SO->R γ}{Q:δ->Hp->Prop}{P:Bool->Hp->Prop}(rs:yH X.K S.cl B φ H st)(re:yW X.K S.cl B φ H ρ σ)(h:Run S X σ B φ H HW ((ybe (ev S.call ρ st ca)).bind k) Q)
  (n:∀b H1 st1 φ1,Step φ H φ1 H1->yH X.K S.cl B φ1 H1 st1->yW X.K S.cl B φ1 H1 ρ σ->Run S X σ B φ1 H1 HW (k b st1) Q->P b H1):tTs S X ca σ H P:=
 ⟨B,φ,st,ρ,rs,re,(Run.bind h).mono λx H1 ⟨v,st1,φ1,s,rs1,rv,h1⟩=>by
  subst rv;exact n v H1 st1 φ1 s rs1 (re.step s) h1⟩
theorem zfI(r:R PV)(f:Bool->SO->R PV):ybe (r.bind λx st1=>onBl x λb=>f b st1)=r.bind λx st1=>onBl x λb=>ybe (f b st1):=by
 unfold ybe;rw[R.bind_assoc]
 congr 1
 funext x st1
 cases x<;>rfl
theorem Run.bl_tru{r:R PV}{k:Bool->SO->R Bool}{Q:Bool->Hp->Prop}(h:Run S X σ B φ H RB (r.bind λx st1=>onBl x λb=>k b st1) Q):Run S X σ B φ H RB ((ybe r).bind k) Q:=by
 cases r with
 |bad=>exact h
 |exc c s=>exact h
 |ok v s=>
  cases v with
  |bl b=>exact h
  |_=>exact h.elim
theorem znT(ha:PT X a (tTs S X ca)):PT X (.UnaryOp .Not a pos) (tTs S X (.not ca)):=
 (znt ha).imp λσ H Q ⟨B,φ,st,ρ,rs,re,h⟩=>by
  erw[ev]at h;rw[zfI _ λk st1=>.ok (.bl (!k)) st1]at h;exact tTs.bind rs re (Run.bl_tru (k:=λb st1=>.ok (!b) st1) h) λb H1 st1 φ1 s1 rs1 re1 h1=>h1.ok rs1 rfl
variable {rest:List AT}
theorem zl3(ha:PT X a (tTs S X ca)):PW X (.BoolOp .And [a] pos) (tTs S X ca):=zlp ha
theorem znn(ha:PT X a (tTs S X ca)):PW X (.BoolOp .Or [a] pos) (tTs S X ca):=zoq ha
theorem zo7(ha:PT X a (tTs S X ca))(hb:PW X (.BoolOp .And (b::rest) pos) (tTs S X cb)):PW X (.BoolOp .And (a::b::rest) pos) (tTs S X (.and ca cb)):=
 (zoi ha hb).imp λσ H Q ⟨B,φ,st,ρ,rs,re,h⟩=>by
  erw[ev]at h;rw[zfI _ λk st1=>cond k (ev S.call ρ st1 cb) (.ok (.bl AB) st1)]at h;refine tTs.bind rs re (Run.bl_tru h) λk H1 st1 φ1 s1 rs1 re1 h1=>?_
  cases k with
  |false=>exact h1.ok rs1 rfl
  |true=>exact⟨B,φ1,st1,ρ,rs1,re1,h1⟩
theorem zp9(ha:PT X a (tTs S X ca))(hb:PW X (.BoolOp .Or (b::rest) pos) (tTs S X cb)):PW X (.BoolOp .Or (a::b::rest) pos) (tTs S X (.or ca cb)):=
 (zps ha hb).imp λσ H Q ⟨B,φ,st,ρ,rs,re,h⟩=>by
  erw[ev]at h;rw[zfI _ λk st1=>cond k (.ok (.bl AC) st1) (ev S.call ρ st1 cb)]at h;refine tTs.bind rs re (Run.bl_tru h) λk H1 st1 φ1 s1 rs1 re1 h1=>?_
  cases k with
  |true=>exact h1.ok rs1 rfl
  |false=>exact⟨B,φ1,st1,ρ,rs1,re1,h1⟩
theorem zkX{op:HY}(h:PE X a (tE S X ca)):PE X (.BoolOp op [a] pos) (tE S X ca):=zoT h
theorem zkI(ha:PE X a (tE S X ca))(hb:PE X (.BoolOp .And (b::rest) pos) (tE S X cb)):PE X (.BoolOp .And (a::b::rest) pos) (tE S X (.and ca cb)):=
 (znz ha hb).imp λσ H Q ⟨B,φ,st,ρ,rs,re,h⟩=>by
  erw[ev]at h;refine tE.bind rs re h λx H1 v st1 φ1 s1 rs1 re1 rv h1=>?_
  cases v with
  |bl k=>
   erw[yg]at rv;refine⟨k,rv,?_⟩
   cases k with
   |true=>exact⟨B,φ1,st1,ρ,rs1,re1,h1⟩
   |false=>exact h1.ok rs1 (by erw[yg])
  |_=>exact h1.elim
theorem znL(ha:PE X a (tE S X ca))(hb:PE X (.BoolOp .Or (b::rest) pos) (tE S X cb)):PE X (.BoolOp .Or (a::b::rest) pos) (tE S X (.or ca cb)):=
 (zpB ha hb).imp λσ H Q ⟨B,φ,st,ρ,rs,re,h⟩=>by
  erw[ev]at h;refine tE.bind rs re h λx H1 v st1 φ1 s1 rs1 re1 rv h1=>?_
  cases v with
  |bl k=>
   erw[yg]at rv;refine⟨k,rv,?_⟩
   cases k with
   |false=>exact⟨B,φ1,st1,ρ,rs1,re1,h1⟩
   |true=>exact h1.ok rs1 (by erw[yg])
  |_=>exact h1.elim
theorem znx(ha:PE X a (tE S X ca)):PE X (.UnaryOp .Not a pos) (tE S X (.not ca)):=
 (zpo ha).imp λσ H Q ⟨B,φ,st,ρ,rs,re,h⟩=>by
  erw[ev]at h;refine tE.bind rs re h λx H1 v st1 φ1 s1 rs1 re1 rv h1=>?_
  cases v with
  |bl k=>
   erw[yg]at rv;exact⟨k,rv,h1.ok rs1 (by erw[yg])⟩
  |_=>exact h1.elim
theorem zk5(ha:PE X a (tE S X ca)):PE X (.UnaryOp .USub a pos) (tE S X (.neg ca)):=
 (zp5 zop ha).imp λσ H Q ⟨B,φ,st,ρ,rs,re,h⟩=>by
  erw[ev]at h;refine tE.bind rs re h λx H1 v st1 φ1 s1 rs1 re1 rv h1=>?_;split at h1
  .simp only[yg]at rv;exact⟨_,rv,h1.ok rs1 (by erw[yg])⟩
  .exact h1.elim
theorem zn0(hc:PT X c (tTs S X cc))(ha:PE X a (tE S X ca))(hb:PE X b (tE S X cb)):PE X (.IfExp c a b pos) (tE S X (.ite cc ca cb)):=
 (zjw hc ha hb).imp λσ H Q ⟨B,φ,st,ρ,rs,re,h⟩=>by
  erw[ev]at h;have e:((ev S.call ρ st cc).bind λx st1=>onO (yaT st1 x) λk=>cond k (ev S.call ρ st1 ca) (ev S.call ρ st1 cb))=(ybe (ev S.call ρ st cc)).bind λk st1=>cond k (ev S.call ρ st1 ca) (ev S.call ρ st1 cb):=by
   unfold ybe;rw[R.bind_assoc]
   congr 1
   funext x st1
   cases yaT st1 x<;>rfl
  rw[e]at h;refine tTs.bind rs re h λk H1 st1 φ1 s1 rs1 re1 h1=>?_
  cases k with
  |true=>exact⟨B,φ1,st1,ρ,rs1,re1,h1⟩
  |false=>exact⟨B,φ1,st1,ρ,rs1,re1,h1⟩
theorem zhu:PA X [] (tAs S X .nil):=ybr.imp λσ H Q ⟨B,φ,st,ρ,rs,re,h⟩=>by
 erw[evs]at h;exact h.ok rs (by erw[yj])
theorem zek(ha:PE X a (tE S X ca))(hr:PA X es (tAs S X ces))(hs:starEach (a::es) X.env=(AB,eval a X.env)::starEach es X.env:=by rfl):PA X (a::es) (tAs S X (.cons ca ces)):=
 (zbC ha hr hs).imp λσ H Q ⟨B,φ,st,ρ,rs,re,h⟩=>by
  erw[evs]at h;refine tE.bind rs re h λx H1 v st1 φ1 s1 rs1 re1 rv h1=>tAs.bind rs1 re1 h1 λxs H2 vs st2 φ2 s2 rs2 re2 rvs h2=>?_;refine h2.ok rs2 ?_;erw[yj];exact⟨x,xs,rfl,rv.step s2,rvs⟩
theorem zox{k:Nat}(h:PA X es (tAs S X ces)):PE X (.Tuple es k pos) (tE S X (.tup ces)):=
 (znS h).imp λσ H Q ⟨B,φ,st,ρ,rs,re,h⟩=>by
  erw[ev]at h;refine tAs.bind rs re h λxs H1 vs st1 φ1 s1 rs1 re1 rv h1=>?_;split at h1
  .rename_i c;refine⟨by rw[<-zH,<-rv.length];exact c,λp hp=>h1 _ _ φ1 (.upd hp) (rs1.upd hp) (.tup_new hp rs1 rv)⟩
  .exact h1.elim
theorem zok(h:PA X es (tAs S X ces)):PE X (.List es pos) (tE S X (.lst ces)):=
 (zkV h).imp λσ H Q ⟨B,φ,st,ρ,rs,re,h⟩=>by
  erw[ev]at h;refine tAs.bind rs re h λxs H1 vs st1 φ1 s1 rs1 re1 rv h1=>?_;split at h1
  .rename_i c;refine⟨by rw[<-zH,<-rv.length];exact c,λp hp=>h1 _ _ φ1 (.upd hp) (rs1.upd hp) (.lst_new hp rs1 rv)⟩
  .exact h1.elim
theorem Step.push{p:AI}{o:HO}(hp:H p=AD):Step φ H (φ++[AA p]) (L2.upd H p o):=by
 refine⟨λb u n e=>by rw[zk (zn e hp)];exact e,by simp,λn a hn e=>?_,λb h=>?_⟩
 .rw[Aj hn]at e;exact e
 .rw[Au]at h;rcases h with h|h
  .exact .inl h
  .have:b=p:=by simpa using h
   subst this;exact .inr hp
theorem yH.push{K:AE}{cl:Nat->AI}{p:AI}{u:HO}{o:Ob}(rs:yH K cl B φ H st)(hp:H p=AD)(hb:¬B p)(ho:ycv K cl B (φ++[AA p]) (L2.upd H p u) o p):yH K cl B (φ++[AA p]) (L2.upd H p u) (st++[o]):=by
 have s:Step φ H (φ++[AA p]) (L2.upd H p u):=.push hp;have np:AA p∉φ:=λz=>by
  let⟨w,e⟩:=rs.there z;rw[hp]at e;cases e
 have hl:φ.length=st.length:=rs.len;refine⟨by simp[hl],λm n a e1 e2=>?_,λn a e=>?_,λn o' e ho'=>?_,λa h=>?_,λa h=>?_⟩
 .by_cases hm:m<φ.length
  .rw[Aj hm]at e1
   by_cases hn:n<φ.length
   .rw[Aj hn]at e2;exact rs.inj m n a e1 e2
   .rw[As (by lia)]at e2;have:a=p:=by
     cases q:n-φ.length with
     |zero=>rw[q]at e2;simpa using e2.symm
     |succ k=>rw[q]at e2;simp at e2
    subst this;exact absurd (A3 e1) np
  .rw[As (by lia)]at e1;have:m-φ.length=0/\a=p:=by
    cases q:m-φ.length with
    |zero=>rw[q]at e1;exact⟨rfl,by simpa using e1.symm⟩
    |succ k=>rw[q]at e1;simp at e1
   let⟨q1,rfl⟩:=this
   by_cases hn:n<φ.length
   .rw[Aj hn]at e2;exact absurd (A3 e2) np
   .rw[As (by lia)]at e2;have:n-φ.length=0:=by
     cases q:n-φ.length with
     |zero=>rfl
     |succ k=>rw[q]at e2;simp at e2
    lia
 .by_cases hn:n<φ.length
  .rw[Aj hn]at e;let⟨o',q,r⟩:=rs.obj n a e;refine⟨o',by rw[Aj (by lia)];exact q,r.step s ?_⟩;rw[zk]
   rintro rfl
   exact np (A3 e)
  .rw[As (by lia)]at e;have:n-φ.length=0/\a=p:=by
    cases q:n-φ.length with
    |zero=>rw[q]at e;exact⟨rfl,by simpa using e.symm⟩
    |succ k=>rw[q]at e;simp at e
   let⟨q1,rfl⟩:=this;refine⟨o,?_,ho⟩;rw[As (by lia)];have:n-st.length=0:=by lia
   rw[this];rfl
 .by_cases hn:n<φ.length
  .rw[Aj (by lia)]at e;let⟨a,q⟩:=rs.liv n o' e ho';exact⟨a,by rw[Aj hn];exact q⟩
  .rw[As (by lia)]at e;have:n-st.length=0:=by
    cases q:n-st.length with
    |zero=>rfl
    |succ k=>rw[q]at e;simp at e
   refine⟨p,?_⟩;rw[As (by lia)];have:n-φ.length=0:=by lia
   rw[this];rfl
 .rw[Au]at h;rcases h with h|h
  .exact rs.nb a h
  .have:a=p:=by simpa using h
   subst this;exact hb
 .let⟨w,e⟩:=rs.dom a h;exact⟨w,by rw[zk (zn e hp)];exact e⟩
theorem yH.nB{K:AE}{cl:Nat->AI}{p:AI}(rs:yH K cl B φ H st)(hp:H p=AD):¬B p:=λz=>by
 let⟨o,e⟩:=rs.dom p z;rw[hp]at e;cases e
theorem yg.loc_new{K:AE}{cl:Nat->AI}{p:AI}(rs:yH K cl B φ H st):yg K cl B (φ++[AA p]) H1 (.loc st.length) (.ref p):=by
 erw[yg];have hl:=rs.len;refine⟨by simp[hl],p,rfl,λb e=>?_⟩;rw[As (by lia)]at e;have:st.length-φ.length=0:=by lia
 rw[this]at e;simpa using e.symm
theorem zmC(h:PA X es (tAs S X ces)):PE X (.List es pos) (tE S X (.newl ces)):=
 (zkV h).imp λσ H Q ⟨B,φ,st,ρ,rs,re,h⟩=>by
  erw[ev]at h;refine tAs.bind rs re h λxs H1 vs st1 φ1 s1 rs1 re1 rv h1=>?_;split at h1
  .rename_i c;refine⟨by rw[<-zH,<-rv.length];exact c,λp hp=>h1 _ _ (φ1++[AA p]) (.push hp) (rs1.push hp (rs1.nB hp) ⟨xs,zt,rv.step (.push hp)⟩) (.loc_new rs1)⟩
  .exact h1.elim
end
section
variable {S:Se}{X:Cx}{σ:St}{B:AI->Prop}{φ φ1:Ph}{H H1:Hp}{st:SO}{ρ:IC.Env}{pos p2:CW}{a b c d:AT}{ca cb cc:Ce}{es:List AT}{ces:Ces}{K:AE}{cl:Nat->AI}
theorem zi6{o:COp}{v w:PV}{α β:Type}{Rel:Ph->Hp->α->β->Prop}{k:Bool->R α}{Q:β->Hp->Prop}(h:Run S X σ B φ H Rel (onO (blO (yN o v w)) k) Q):∃b,yN o v w=AA (.bl b)/\Run S X σ B φ H Rel (k b) Q:=by
 cases e:yN o v w with
 |none=>rw[e]at h;exact h.elim
 |some z=>
  let⟨b,rfl⟩:=zeg e;rw[e]at h;exact⟨b,rfl,h⟩
theorem zjl{op op':Fg}{o p:COp}(ho:OpR X (compareOp op) (rT2 S X (yN o)))(ho':OpR X (compareOp op') (rT2 S X (yN p)))(ha:PE X a (tE S X ca))(hb:PE X b (tE S X cb))(hc:PE X c (tE S X cc))
  (hm:lastMarks [op,op'] [b,c]=false:=by ac_rfl):PE X (.Compare a [op,op'] [b,c] pos) (tE S X (.chain o p ca cb cc)):=
 (zjR ho ho' ha hb hc hm).imp λσ H Q ⟨B,φ,st,ρ,rs,re,h⟩=>by
  erw[ev]at h;refine tE.bind rs re h λx H1 v st1 φ1 s1 rs1 re1 rv h1=>tE.bind rs1 re1 h1 λy H2 w st2 φ2 s2 rs2 re2 rw h2=>?_;let⟨k,e,h2⟩:=zi6 h2;refine⟨B,φ2,st2,v,w,.bl k,rs2,rv.step s2,rw,e,λz' H' φ' s' rs' rz=>?_⟩;erw[yg]at rz;refine⟨k,rz,?_⟩
  cases k with
  |false=>exact h2 _ H' φ' s' rs' (by erw[yg])
  |true=>
   refine tE.bind rs' (re2.step s') (Run.on s' h2) λz H3 v3 st3 φ3 s3 rs3 re3 rv3 h3=>?_;let⟨q,eq,hq⟩:=zae h3 rs3;exact⟨B,φ3,st3,w,v3,q,rs3,(rw.step s').step s3,rv3,eq,hq⟩
theorem zkr{op op':Fg}{o p:COp}(ho:OpR X (compareOp op) (rT2 S X (yN o)))(ho':OpR X (compareOp op') (rT2 S X (yN p)))(ha:PE X a (tE S X ca))(hb:PE X b (tE S X cb))(hc:PE X c (tE S X cc))
  (hm:lastMarks [op,op'] [b,c]=false:=by ac_rfl):PT X (.Compare a [op,op'] [b,c] pos) (tTs S X (.chain o p ca cb cc)):=
 (zje ho ho' ha hb hc hm).imp λσ H Q ⟨B,φ,st,ρ,rs,re,h⟩=>by
  erw[ev,ybe,R.bind_assoc]at h;refine tE.bind rs re h λx H1 v st1 φ1 s1 rs1 re1 rv h1=>tE.bind rs1 re1 h1 λy H2 w st2 φ2 s2 rs2 re2 rw h2=>?_;have h2':Run S X σ B φ2 H2 RB (onO (blO (yN o v w)) λk=>cond k ((ev S.call ρ st2 cc).bind λz st3=>(toR (yN p w z) st3).bind λx st=>onO (yaT st x) λb=>.ok b st) (.ok AB st2)) Q:=by
   cases e:yN o v w with
   |none=>rw[e]at h2;exact h2
   |some z=>
    let⟨b,rfl⟩:=zeg e;rw[e]at h2
    cases b with
    |false=>exact h2
    |true=>
     erw[blO,onO,cond_true,R.bind_assoc]at h2 ⊢;exact h2
  let⟨k,e,h2⟩:=zi6 h2';refine⟨B,φ2,st2,v,w,.bl k,rs2,rv.step s2,rw,e,λz' H' φ' s' rs' rz=>?_⟩;erw[yg]at rz;refine⟨k,rz,?_⟩
  cases k with
  |false=>exact⟨AB,rfl,h2 _ H' φ' s' rs' rfl⟩
  |true=>
   refine tE.bind rs' (re2.step s') (Run.on s' h2) λz H3 v3 st3 φ3 s3 rs3 re3 rv3 h3=>?_
   cases eq:yN p w v3 with
   |none=>rw[eq]at h3;exact h3.elim
   |some q=>
    let⟨b,rfl⟩:=zeg eq;rw[eq]at h3;refine⟨B,φ3,st3,w,v3,.bl b,rs3,(rw.step s').step s3,rv3,eq,λz2 H4 φ4 s4 rs4 rz4=>?_⟩;erw[yg]at rz4;exact⟨b,rz4,h3 b H4 φ4 s4 rs4 rfl⟩
theorem yj.at{vs:List PV}{xs:List V}{i:Int}{v:PV}(l:yj K cl B φ H vs xs)(h:at? vs i=AA v):∃x,atI xs i=AA x/\yg K cl B φ H v x:=by
 unfold at? at h;rw[l.length]at h;unfold atI
 cases e:ixI xs.length i with
 |none=>rw[e]at h;cases h
 |some j=>
  rw[e]at h;have e':ixN xs.length i=AA j:=e;rw[e'];exact l.get j h
theorem yH.list{n:Nat}{vs:List PV}{x:V}(rs:yH K cl B φ H st)(r:yg K cl B φ H (.loc n) x)(h:st[n]?=AA (.lst vs)):∃a xs,x=.ref a/\φ[n]?=AA (AA a)/\H a=AA (.lst xs)/\yj K cl B φ H vs xs:=by
 erw[yg]at r;let⟨hn,a,rfl,ha⟩:=r;let⟨b,hb⟩:=rs.liv n _ h (by intro z;cases z);obtain rfl:=ha b hb;let⟨o,ho,ro⟩:=rs.obj n b hb;rw[h]at ho;cases ho;let⟨xs,hx,l⟩:=ro;exact⟨b,xs,rfl,hb,hx,l⟩
def rTS(S:Se)(X:Cx)(f:SO->PV->PV->Option PV):R2:=λx y H Q=>∃B φ st v w z,yH X.K S.cl B φ H st/\yg X.K S.cl B φ H v x/\yg X.K S.cl B φ H w y/\f st v w=AA z /\
 ∀z' H' φ',Step φ H φ' H'->yH X.K S.cl B φ' H' st->yg X.K S.cl B φ' H' z z'->Q z' H'
theorem zcH{α:Type}{xs:List α}{i:PV}{z:α}(h:ybd xs i=AA z):∃k,i=.int k/\at? xs k=AA z:=by
 cases i with
 |int k=>exact⟨k,rfl,h⟩
 |_=>cases h
theorem zlR:IxR X (rTS S X idxV):=by
 rintro value slice pins s σ H x y v u Q I rx ry ⟨B,φ,st,a,i,z,rs,ra,ri,e,q⟩ hs
 cases a with
 |tp k vs=>
  let⟨k,rfl,e⟩:=zcH e;erw[yg]at ra ri;subst ri;let⟨p,xs,rfl,rt,l⟩:=ra;let⟨w,e1,rw⟩:=l.at e;exact zgb value slice pins s σ H _ _ v u Q I rx ry (.inr (.inl ⟨p,xs,k,w,rfl,rfl,rt.sq,e1,q w H φ .rfl rs rw⟩)) hs
 |lst vs=>
  let⟨k,rfl,e⟩:=zcH e;erw[yg]at ra ri;subst ri;let⟨p,xs,rfl,rt,l⟩:=ra;let⟨w,e1,rw⟩:=l.at e;exact zgb value slice pins s σ H _ _ v u Q I rx ry (.inl ⟨p,xs,k,w,rfl,rfl,rt.sq,e1,q w H φ .rfl rs rw⟩) hs
 |loc n=>
  erw[idxV]at e;split at e
  .rename_i vs h1;let⟨k,rfl,e⟩:=zcH e;erw[yg]at ri;subst ri;let⟨p,xs,rfl,_,hx,l⟩:=rs.list ra h1;let⟨w,e1,rw⟩:=l.at e;exact zgb value slice pins s σ H _ _ v u Q I rx ry (.inl ⟨p,xs,k,w,rfl,rfl,.of hx,e1,q w H φ .rfl rs rw⟩) hs
  .cases e
 |str t=>
  erw[idxV]at e;split at e
  .rename_i hl
   cases e1:ybd t.cps.toList i with
   |none=>rw[e1]at e;cases e
   |some c=>
    rw[e1]at e
    cases e
    let⟨k,rfl,e1⟩:=zcH e1;erw[yg]at ra ri;subst ra ri;exact zgb value slice pins s σ H _ _ v u Q I rx ry (.inr (.inr ⟨t,k,c,rfl,rfl,by rw[<-zH];exact hl,e1,q _ H φ .rfl rs (by erw[yg])⟩)) hs
  .cases e
 |_=>cases e
theorem zoK(ha:PE X a (tE S X ca))(hb:PE X b (tE S X cb))(hs:ybC b:=by exact λ_ _=>rfl):PE X (.Subscript a b pos) (tE S X (.idx ca cb)):=
 (zp0 zlR ha hb hs).imp λσ H Q ⟨B,φ,st,ρ,rs,re,h⟩=>by
  erw[ev]at h;refine tE.bind rs re h λx H1 v st1 φ1 s1 rs1 re1 rv h1=>tE.bind rs1 re1 h1 λy H2 w st2 φ2 s2 rs2 re2 rw h2=>?_;let⟨z,e,q⟩:=zae h2 rs2;exact⟨B,φ2,st2,v,w,z,rs2,rv.step s2,rw,e,q⟩
theorem yj.cut{vs:List PV}{xs:List V}(lo hi:Option Int)(l:yj K cl B φ H vs xs):yj K cl B φ H (IC.cut vs lo hi) (ycy xs lo hi):=by
 have e1:∀n o,ycJ n o=HT.sIx n 0 o:=λn o=>by cases o<;>rfl
 have e2:∀n o,yc9 n o=HT.sIx n n o:=λn o=>by cases o<;>rfl
 unfold IC.cut ycy;rw[l.length,e1,e2];exact(l.drop _).take _
def tO(S:Se)(X:Cx)(c:Ce):TO:=λσ H Q=>tE S X c σ H λx H1=>(x=.non/\Q AD H1) \/ ∃i,x=.int i/\Q (AA i) H1
theorem zme:PO X AD (tO S X (.cst .non)):=λpins s σ H Q I h=>by
 refine zmp pins s σ H Q I ?_;let⟨B,φ,st,ρ,rs,re,h⟩:=h;erw[ev]at h;rcases h.ok rs (x:=V.non) (by erw[yg])with q|⟨i,z,_⟩
 .exact q.2
 .cases z
theorem zmt(ha:PE X a (tE S X ca)):PO X (AA a) (tO S X ca):=by
 intro pins s σ H Q I hw;rw[evalPart_some];refine thn (ha pins s σ H _ I hw) λu s1 kq=>?_;let⟨x,H1,I1,r1,q1⟩:=kq;rcases q1 with⟨rfl,q⟩|⟨i,rfl,q⟩
 .cases r1
  exact⟨AD,H1,I1,.none,q⟩
 .let⟨t,rfl⟩:=r1;exact⟨AA i,H1,I1,.int i t,q⟩
def rSl(S:Se)(X:Cx):V->Option Int->Option Int->Hp->VK->Prop:=λx lo hi H Q=>∃B φ st v z,yH X.K S.cl B φ H st/\yg X.K S.cl B φ H v x/\ycA v lo hi=AA z /\
 ∀z' H' φ',Step φ H φ' H'->yH X.K S.cl B φ' H' st->yg X.K S.cl B φ' H' z z'->Q z' H'
theorem zbF{prog:A9}{w:Al}{A:Ax}{E:AF->AJ->Prop}{s:AJ}{t sl:AI}{items:Array AF}{vl vu:AF}{lo hi:Option Int}{Q:AF->AJ->Prop}(ht:HN s.heap t items)(hs:s.heap.IsSliceOf sl vl vu .none)(pl:FB vl lo)(pu:FB vu hi)
  (hw:HT.sIx items.size 0 lo=0/\HT.sIx items.size items.size hi=items.size)
  (h:Q (.ref t) s):A2 (model prog w) A (getItem (.ref t) (.ref sl)) Q E s:=by
 let⟨os,hos,hcs,hds⟩:=id hs;have hTs:s.TypeIs (.ref sl) "slice":=⟨os,hos,hcs⟩;unfold getItem
 try with_reducible refine Dl ?_
 first|refine AH (AU ?_)|skip
 refine AH (GI ht.typeIs (by decide) ?_);refine AH (Bi (name:=AG "__getitem__") ht.typeIs BL
  (C5 BL ht.typeIs Fc ?_ (Ft _ _)))
 show A2 _ _ (EO (.ref t) >>= _) _ _ s;refine AH (D7 ht ?_);refine AH (GJ hTs ?_);rw[if_pos (by decide)];refine AH (HT.sliceApplied_gen hs pl pu ?_);have hyes:(((HT.sIx items.size 0 lo:Nat):Int)==0&&(1:Int)==1&&(HT.sIx items.size items.size hi-HT.sIx items.size 0 lo)==items.size)=true:=by
  rw[hw.1,hw.2];simp
 show A2 _ _ (if (((HT.sIx items.size 0 lo:Nat):Int)==0&&(1:Int)==1&&(HT.sIx items.size items.size hi-HT.sIx items.size 0 lo)==items.size)=AC then _ else _) _ _ s;rw[if_pos hyes];refine AH (AH (GJ ht.typeIs (AU ?_)));rw[if_pos (by decide)]
 first
  |exact AH (AU (AU ⟨_,rfl,AU h⟩))
  |exact AH (Ey (AU ⟨_,rfl,AU h⟩))
  |(wp_step;wp_step;exact⟨_,rfl,AU h⟩)
noncomputable def ygd(K:AE):V->Option Int->Option Int->Hp->VK->Prop:=λx lo hi H Q=>∃a xs,x=.ref a/\SqT K H a xs /\
 (HT.sIx xs.length 0 lo=0/\HT.sIx xs.length xs.length hi=xs.length)/\Q (.ref a) H
theorem zku:SlR X (ygd X.K):=by
 intro pins s σ H x v vl vu lo hi sl Q I rx hs pl pu h;let⟨a,xs,rfl,hx,hw,q⟩:=h
 cases rx
 let⟨its,r,ht,hz⟩:=I.tuple hx;have hlen:its.toArray.size=xs.length:=by rw[AY];exact r.length.symm
 refine⟨"tuple",_,BL.lookup,ht.typeIs,?_⟩;exact zbF ht hs pl pu (by rw[hlen];exact hw) ⟨.ref a,H,I,rfl,q⟩
noncomputable def yg5:V->Option Int->Option Int->Hp->VK->Prop:=λx lo hi H Q=>∃y:AQ,x=.str y/\y.length<=sizeLine/\Q (.str ⟨((y.cps.toList.drop (HT.sIx y.cps.toList.length 0 lo)).take (HT.sIx y.cps.toList.length y.cps.toList.length hi-HT.sIx y.cps.toList.length 0 lo)).toArray⟩) H
theorem yf2(lo hi:Option Int)(n:Nat):EC lo hi 1 n=sliceRange ((HT.sIx n 0 lo:Nat):Int) ((HT.sIx n n hi:Nat):Int) 1:=by
 unfold EC;erw[show (1:Int) > 0 by decide,if_true]
 congr 1
 .cases lo with
  |none=>simp[HT.sIx]
  |some i=>
   erw[HT.sIx]
   by_cases h:i<0
   .simp only[h,if_true]<;>lia
   .simp only[h,if_false]<;>lia
 .cases hi with
  |none=>simp[HT.sIx]
  |some i=>
   erw[HT.sIx]
   by_cases h:i<0
   .simp only[h,if_true]<;>lia
   .simp only[h,if_false]<;>lia
theorem zhF(y:AQ)(lo hi:Option Int):Txt.slice y lo hi=⟨((y.cps.toList.drop (HT.sIx y.cps.toList.length 0 lo)).take (HT.sIx y.cps.toList.length y.cps.toList.length hi-HT.sIx y.cps.toList.length 0 lo)).toArray⟩:=by
 have hn:y.length=y.cps.toList.length:=by simp[Str.length]
 unfold Txt.slice;rw[yf2,hn,sliceRange_one];have ha:=HT.sIx_le y.cps.toList.length 0 (DN _) lo;have hb:=HT.sIx_le y.cps.toList.length y.cps.toList.length (AS _) hi;generalize HT.sIx y.cps.toList.length 0 lo=a at *;generalize HT.sIx y.cps.toList.length y.cps.toList.length hi=b at *;split
 .rename_i c;erw[Av,List.length_range,AK,beq_iff_eq]at c;obtain⟨rfl,rfl⟩:a=0/\b=y.cps.toList.length:=by lia
  rw[HE,Nat.sub_zero,G5]
 .rw[pick_run]
theorem zmQ:SlR X yg5:=by
 intro pins s σ H x v vl vu lo hi sl Q I rx hs pl pu h;let⟨y,rfl,hz,q⟩:=h;let⟨t,rfl⟩:=rx;rw[<-zhF]at q;refine⟨"str",_,PySem.F.slot_str_getitem.lookup,HB _ _ _,?_⟩;have go:∀l u:Option (Int×Hc),vl=partValue l->vu=partValue u->lo=l.map (·.1)->hi=u.map (·.1)->A2 (model X.prog X.w) X.A (getItem (.str y t) (.ref sl)) (EP X pins σ Q) X.xe s:=by
  rintro l u rfl rfl rfl rfl
  refine wpAny_getItem_str_slice (l:=l) (u:=u) (st:=AD) hs rfl ?_;exact post_val_or_str ⟨BU (Txt.slice_le y _ _) hz,λt' k=>⟨.str _,H,I.tok k,⟨_,rfl⟩,q⟩⟩
 cases pl with
 |none=>
  cases pu with
  |none=>exact go AD AD rfl rfl rfl rfl
  |int j u=>exact go AD (AA (j,u)) rfl rfl rfl rfl
 |int i t1=>
  cases pu with
  |none=>exact go (AA (i,t1)) AD rfl rfl rfl rfl
  |int j u=>exact go (AA (i,t1)) (AA (j,u)) rfl rfl rfl rfl
theorem zmk:SlR X (rSl S X):=by
 rintro pins s σ H x v vl vu lo hi sl Q I rx hs pl pu ⟨B,φ,st,w,z,rs,rw,e,q⟩
 have e1:∀n o,ycJ n o=HT.sIx n 0 o:=λn o=>by cases o<;>rfl
 have e2:∀n o,yc9 n o=HT.sIx n n o:=λn o=>by cases o<;>rfl
 cases w with
 |tp k vs=>
  erw[ycA]at e;split at e
  .rename_i c
   cases e
   have rw':=rw;erw[yg]at rw;let⟨p,xs,rfl,rt,l⟩:=rw;refine zku pins s σ H _ v vl vu lo hi sl Q I rx hs pl pu ⟨p,xs,rfl,rt.sq,?_,q _ H φ .rfl rs rw'⟩;rw[l.length,e1,e2]at c;exact c
  .rename_i c
   cases e
   erw[yg]at rw;let⟨p,xs,rfl,rt,l⟩:=rw;refine znR pins s σ H _ v vl vu lo hi sl Q I rx hs pl pu ⟨p,xs,rfl,rt.sq,?_,λt ht=>q _ _ φ (.upd ht) (rs.upd ht) (.tup_new ht rs (l.cut lo hi))⟩;rw[l.length,e1,e2]at c;exact c
 |str y=>
  erw[ycA]at e;split at e
  .rename_i c
   cases e
   erw[yg]at rw;subst rw;refine zmQ pins s σ H _ v vl vu lo hi sl Q I rx hs pl pu ⟨y,rfl,by rw[<-zH];exact c,?_⟩;have:=q (.str ⟨(cut y.cps.toList lo hi).toArray⟩) H φ .rfl rs (by erw[yg]);rw[cut,e1,e2]at this;exact this
  .cases e
 |lst vs=>
  erw[ycA]at e
  cases e
  erw[yg]at rw;let⟨p,xs,rfl,rt,l⟩:=rw;exact zhA pins s σ H _ v vl vu lo hi sl Q I rx hs pl pu ⟨p,xs,rfl,rt.sq,λt ht=>q _ _ φ (.upd ht) (rs.upd ht) (.lst_new ht rs (l.cut lo hi))⟩
 |scr vs=>
  erw[ycA]at e
  cases e
  erw[yg]at rw;let⟨p,xs,rfl,rt,l⟩:=rw;exact zhA pins s σ H _ v vl vu lo hi sl Q I rx hs pl pu ⟨p,xs,rfl,(by rcases rt with rt|rt;exact .inl rt.1;exact .inr rt),λt ht=>q _ _ φ (.upd ht) (rs.upd ht) (.lst_new ht rs (l.cut lo hi))⟩
 |_=>cases e
theorem zo0{lo hi:Option AT}(ha:PE X a (tE S X ca))(hl:PO X lo (tO S X cb))(hh:PO X hi (tO S X cc)):PE X (.Subscript a (.Slice lo hi AD p2) pos) (tE S X (.slc ca cb cc)):=
 (zjK zmk ha hl hh).imp λσ H Q ⟨B,φ,st,ρ,rs,re,h⟩=>by
  erw[ev]at h;have oi:∀{v:PV} {x:V} {o:Option Int} {B φ H},yg X.K S.cl B φ H v x->ybU v=AA o->(x=.non/\o=AD) \/ ∃i,x=.int i/\o=AA i:=λ{v x o B φ H} r e=>by
   cases v with
   |non=>erw[yg]at r;cases e;exact .inl ⟨r,rfl⟩
   |int i=>erw[yg]at r;cases e;exact .inr ⟨i,r,rfl⟩
   |_=>cases e
  refine tE.bind rs re h λx H1 v st1 φ1 s1 rs1 re1 rv h1=>tE.bind rs1 re1 h1 λy H2 w st2 φ2 s2 rs2 re2 rw h2=>?_
  cases eo:ybU w with
  |none=>rw[eo]at h2;exact h2.elim
  |some o1=>
   rw[eo]at h2;have key:tO S X cc σ H2 λu H3=>rSl S X x o1 u H3 Q:=by
    refine tE.bind rs2 re2 h2 λy' H3 w' st3 φ3 s3 rs3 re3 rw' h3=>?_;let⟨z,e,q⟩:=zae h3 rs3;unfold ybY at e
    cases eo':ybU w' with
    |none=>rw[eo']at e;cases e
    |some o2=>
     rw[eo']at e;have fin:rSl S X x o1 o2 H3 Q:=⟨B,φ3,st3,v,z,rs3,(rv.step s2).step s3,e,q⟩;rcases oi rw' eo' with⟨rfl,rfl⟩|⟨i,rfl,rfl⟩
     .exact .inl ⟨rfl,fin⟩
     .exact .inr ⟨i,rfl,fin⟩
   rcases oi rw eo with⟨rfl,rfl⟩|⟨i,rfl,rfl⟩
   .exact .inl ⟨rfl,key⟩
   .exact .inr ⟨i,rfl,key⟩
end
section
variable {S:Se}{X:Cx}{σ:St}{B:AI->Prop}{φ φ1:Ph}{H H1:Hp}{st:SO}{ρ:IC.Env}{p pos p2:CW}{a b c d:AT}{ca cb cc:Ce}{es:List AT}{ces:Ces}{K:AE}{cl:Nat->AI}
def rB(S:Se)(X:Cx)(k:Blt):List V->Hp->VK->Prop:=λxs H Q=>∃B φ st vs z,yH X.K S.cl B φ H st/\yj X.K S.cl B φ H vs xs/\yay k st vs=AA z /\
 ∀z' H' φ',Step φ H φ' H'->yH X.K S.cl B φ' H' st->yg X.K S.cl B φ' H' z z'->Q z' H'
theorem yj.one{v:PV}{xs:List V}(l:yj K cl B φ H [v] xs):∃x,xs=[x]/\yg K cl B φ H v x:=by
 erw[yj]at l;let⟨y,ys,rfl,r,rfl⟩:=l;exact⟨y,rfl,r⟩
theorem yj.two{v w:PV}{xs:List V}(l:yj K cl B φ H [v,w] xs):∃x y,xs=[x,y]/\yg K cl B φ H v x/\yg K cl B φ H w y:=by
 erw[yj]at l;let⟨y,ys,rfl,r,z,zs,rfl,r2,rfl⟩:=l;exact⟨y,z,rfl,r,r2⟩
theorem zey{k:Blt}{st:SO}{vs:List PV}{z:PV}(h:yay k st vs=AA z)(h2:∀x y,yay k st [x,y]=AD):∃x,vs=[x]:=by
 match vs,h with
 |[x],_=>exact⟨x,rfl⟩
 |[x,y],h=>rw[h2]at h;cases h
theorem zdd{v:PV}{x:V}{vs:List PV}(rs:yH K cl B φ H st)(r:yg K cl B φ H v x)(h:yam st v=AA vs):∃a xs,x=.ref a/\SqL K H a xs/\yj K cl B φ H vs xs:=by
 cases v with
 |lst ws=>
  cases h
  erw[yg]at r;let⟨a,xs,rfl,rt,l⟩:=r;exact⟨a,xs,rfl,rt.sq,l⟩
 |loc n=>
  erw[yam]at h;split at h
  .rename_i ws hw
   cases h
   let⟨a,xs,rfl,_,hx,l⟩:=rs.list r hw;exact⟨a,xs,rfl,.of hx,l⟩
  .cases h
 |_=>cases h
theorem znC{v:PV}{x:V}{vs:List PV}(rs:yH K cl B φ H st)(r:yg K cl B φ H v x)(h:yb9 st v=AA vs):∃a xs,x=.ref a/\(SqL K H a xs \/ SqT K H a xs)/\yj K cl B φ H vs xs:=by
 cases v with
 |tp k ws=>
  cases h
  erw[yg]at r;let⟨a,xs,rfl,rt,l⟩:=r;exact⟨a,xs,rfl,.inr rt.sq,l⟩
 |lst ws=>
  let⟨a,xs,e,q,l⟩:=zdd rs r (vs:=vs) h;exact⟨a,xs,e,.inl q,l⟩
 |loc n=>
  let⟨a,xs,e,q,l⟩:=zdd rs r (vs:=vs) h;exact⟨a,xs,e,.inl q,l⟩
 |_=>cases h
theorem zm1:yat X (.builtin "len") (rB S X .len):=by
 rintro pins s σ H xs us Q I r ⟨B,φ,st,vs,z,rs,l,e,q⟩
 let⟨v,rfl⟩:=zey e λ_ _=>rfl;let⟨x,rfl,rv⟩:=l.one;erw[yay,lenV]at e;split at e
 .rename_i t;split at e
  .rename_i c
   cases e
   erw[yg]at rv;subst rv;exact zfg pins s σ H _ us Q I r ⟨t,rfl,by rw[<-zH];exact c,q _ H φ .rfl rs (by erw[yg])⟩
  .cases e
 .cases e1:yb9 st v with
  |none=>rw[e1]at e;cases e
  |some ws=>
   rw[e1]at e
   cases e
   let⟨a,ys,rfl,h,l⟩:=znC rs rv e1;refine zeY pins s σ H _ us Q I r ⟨a,ys,rfl,?_,q _ H φ .rfl rs (by erw[yg];rw[l.length])⟩;exact h
theorem zlZ{k:Blt}{st:SO}{vs:List PV}{z:PV}(h:yay k st vs=AA z)(h2:∀x,yay k st [x]=AD):∃x y,vs=[x,y]:=by
 match vs,h with
 |[x,y],_=>exact⟨x,y,rfl⟩
 |[x],h=>rw[h2]at h;cases h
theorem zou(hc:X.calm=AC):yat X (.builtin "min") (rB S X .min):=by
 rintro pins s σ H xs us Q I r ⟨B,φ,st,vs,z,rs,l,e,q⟩
 let⟨v,w,rfl⟩:=zlZ e λ_=>rfl;let⟨x,y,rfl,rv,rw⟩:=l.two;erw[yay,yeU]at e;split at e
 .cases e
  erw[yg]at rv rw;subst rv rw;exact zhJ hc pins s σ H _ us Q I r ⟨_,_,rfl,q _ H φ .rfl rs (by erw[yg])⟩
 .cases e
theorem zkA:∀{vs:List PV} {m:Int},ydA vs=AA m->∃ns:List Int,vs=ns.map .int/\m∈ns/\∀a∈ns,a<=m
 |[],m,h=>by cases h
 |[.int i],m,h=>by cases h;exact⟨[i],rfl,by simp,by simp⟩
 |.int i::w::r,m,h=>by
  erw[ydA]at h;split at h
  .rename_i c e
   cases h
   let⟨ns,e1,e2,e3⟩:=zkA e;refine⟨i::ns,by rw[e1];rfl,?_,λa ha=>?_⟩
   .split
    .exact AR _ e2
    .exact An
   .rcases AN.mp ha with rfl|ha
    .split<;>lia
    .have:=e3 a ha;split<;>lia
  .cases h
 |.non::r,m,h=>by cases r<;>cases h
 |.bl _::r,m,h=>by cases r<;>cases h
 |.str _::r,m,h=>by cases r<;>cases h
 |.tp _ _::r,m,h=>by cases r<;>cases h
 |.lst _::r,m,h=>by cases r<;>cases h
 |.loc _::r,m,h=>by cases r<;>cases h
 |.exn _::r,m,h=>by cases r<;>cases h
 |.scr _::r,m,h=>by cases r<;>cases h
theorem yj.ints:∀{ns:List Int} {xs:List V},yj K cl B φ H (ns.map .int) xs->xs=ns.map V.int
 |[],xs,h=>by simpa only[Ad,yj] using h
 |n::ns,xs,h=>by
  erw[AL,yj]at h;let⟨y,ys,rfl,r,l⟩:=h;erw[yg]at r;rw[r,yj.ints l];rfl
theorem yj.bls:∀{ns:List Bool} {xs:List V},yj K cl B φ H (ns.map .bl) xs->xs=ns.map V.bl
 |[],xs,h=>by simpa only[Ad,yj] using h
 |n::ns,xs,h=>by
  erw[AL,yj]at h;let⟨y,ys,rfl,r,l⟩:=h;erw[yg]at r;rw[r,yj.bls l];rfl
theorem zmu{v w z:PV}(e:maxV v w=AA z):∃i j,v=.int i/\w=.int j/\z=.int (if i<j then j else i):=by
 unfold maxV at e;split at e
 .exact⟨_,_,rfl,rfl,(AW e).symm⟩
 .cases e
theorem znH(hc:X.calm=AC):yat X (.builtin "max") (rB S X .max):=by
 rintro pins s σ H xs us Q I r ⟨B,φ,st,vs,z,rs,l,e,q⟩
 rcases vs with _|⟨v,_|⟨w,_|⟨u',t⟩⟩⟩
 .simp[yay]at e
 .let⟨x,rfl,rv⟩:=l.one;erw[yay]at e
  cases e1:yam st v with
  |none=>rw[e1]at e;cases e
  |some ws=>
   rw[e1]at e;erw[BW]at e
   cases e2:ydA ws with
   |none=>rw[e2]at e;cases e
   |some m=>
    rw[e2]at e;obtain rfl:=AW e;let⟨ns,rfl,hm,hb⟩:=zkA e2;let⟨a,ys,rfl,h,l⟩:=zdd rs rv e1;rw[l.ints]at h;refine zin hc pins s σ H _ us Q I r ⟨a,ns,rfl,h,List.length_pos_of_mem hm,λM h1 h2=>?_⟩;have:M=m:=by
     have:=hb M h1;have:=h2 m hm;lia
    subst this;exact q _ H φ .rfl rs (by erw[yg])
 .let⟨x,y,rfl,rv,rw⟩:=l.two;have e:maxV v w=AA z:=e;let⟨i,j,rfl,rfl,rfl⟩:=zmu e;erw[yg]at rv rw;subst rv rw;exact zht hc pins s σ H _ us Q I r ⟨i,j,rfl,q (.int (if i<j then j else i)) H φ .rfl rs (by erw[yg])⟩
 .simp[yay]at e
theorem zkg:yat X (.type "tuple") (rB S X .tuple):=by
 rintro pins s σ H xs us Q I r ⟨B,φ,st,vs,z,rs,l,e,q⟩
 let⟨v,rfl⟩:=zey e λ_ _=>rfl;let⟨x,rfl,rv⟩:=l.one;erw[yay,yeT]at e;split at e
 .cases e
  erw[yg]at rv;let⟨a,ys,rfl,rt,l⟩:=rv;exact zbG pins s σ H _ us Q I r ⟨a,ys,rfl,.inr ⟨rt.sq,q _ H φ .rfl rs (by erw[yg];exact⟨a,ys,rfl,rt,l⟩)⟩⟩
 .cases e1:yam st v with
  |none=>rw[e1]at e;cases e
  |some ws=>
   rw[e1]at e
   cases e
   let⟨a,ys,rfl,h,l⟩:=zdd rs rv e1;exact zbG pins s σ H _ us Q I r ⟨a,ys,rfl,.inl ⟨h,λt ht=>q _ _ φ (.upd ht) (rs.upd ht) (.tup_new ht rs l)⟩⟩
theorem zkz:∀{vs:List PV} {m:Bool},IC.allB vs=AA m->∃ns:List Bool,vs=ns.map .bl/\m=ns.all id
 |[],m,h=>by cases h;exact⟨[],rfl,rfl⟩
 |.bl i::r,m,h=>by
  erw[IC.allB]at h;split at h
  .rename_i c e
   cases h
   let⟨ns,e1,e2⟩:=zkz e;exact⟨i::ns,by rw[e1];rfl,by rw[e2];rfl⟩
  .cases h
 |.non::r,m,h=>by cases h
 |.int _::r,m,h=>by cases h
 |.str _::r,m,h=>by cases h
 |.tp _ _::r,m,h=>by cases h
 |.lst _::r,m,h=>by cases h
 |.loc _::r,m,h=>by cases h
 |.exn _::r,m,h=>by cases h
 |.scr _::r,m,h=>by cases h
theorem zkR:∀{vs:List PV} {m:Int},ycB vs=AA m->∃ns:List Int,vs=ns.map .int/\m=ns.sum
 |[],m,h=>by cases h;exact⟨[],rfl,rfl⟩
 |.int i::r,m,h=>by
  erw[ycB]at h;split at h
  .rename_i c e
   cases h
   let⟨ns,e1,e2⟩:=zkR e;exact⟨i::ns,by rw[e1];rfl,by rw[e2,List.sum_cons]⟩
  .cases h
 |.non::r,m,h=>by cases h
 |.bl _::r,m,h=>by cases h
 |.str _::r,m,h=>by cases h
 |.tp _ _::r,m,h=>by cases h
 |.lst _::r,m,h=>by cases h
 |.loc _::r,m,h=>by cases h
 |.exn _::r,m,h=>by cases h
 |.scr _::r,m,h=>by cases h
theorem zoM(hc:X.calm=AC):yat X (.builtin "all") (rB S X .all):=by
 rintro pins s σ H xs us Q I r ⟨B,φ,st,vs,z,rs,l,e,q⟩
 let⟨v,rfl⟩:=zey e λ_ _=>rfl;let⟨x,rfl,rv⟩:=l.one;erw[yay]at e
 cases e1:yam st v with
 |none=>rw[e1]at e;cases e
 |some ws=>
  rw[e1]at e;erw[BW]at e
  cases e2:IC.allB ws with
  |none=>rw[e2]at e;cases e
  |some m=>
   rw[e2]at e
   cases e
   let⟨ns,rfl,rfl⟩:=zkz e2;let⟨a,ys,rfl,h,l⟩:=zdd rs rv e1;rw[l.bls]at h;exact zi8 hc pins s σ H _ us Q I r ⟨a,ns,rfl,h,q _ H φ .rfl rs (by erw[yg])⟩
theorem znP(hc:X.calm=AC):yat X (.builtin "sum") (rB S X .sum):=by
 rintro pins s σ H xs us Q I r ⟨B,φ,st,vs,z,rs,l,e,q⟩
 let⟨v,rfl⟩:=zey e λ_ _=>rfl;let⟨x,rfl,rv⟩:=l.one;erw[yay]at e
 cases e1:yam st v with
 |none=>rw[e1]at e;cases e
 |some ws=>
  rw[e1]at e;erw[BW]at e
  cases e2:ycB ws with
  |none=>rw[e2]at e;cases e
  |some m=>
   rw[e2]at e
   cases e
   let⟨ns,rfl,rfl⟩:=zkR e2;let⟨a,ys,rfl,h,l⟩:=zdd rs rv e1;rw[l.ints]at h;exact zjS hc pins s σ H _ us Q I r ⟨a,ns,rfl,h,q _ H φ .rfl rs (by erw[yg])⟩
variable {x:AQ}{id T:String}{k:Blt}
theorem zoS(hc:yat X (.builtin id) (rB S X k))(hg:Gl X x)(hm:X.mg x=AD)(hv:bootBuiltins x=AA (.builtin id))(ha:PA X (a::es) (tAs S X ces))(hn:x ≠ "__name__":=by decide)(hdb:(x==("__debug__":AQ))=false:=by decide)
  (he:starEach (a::es) X.env=(AB,eval a X.env)::starEach es X.env:=by rfl) (hpl:(backTo pos (starEach es X.env)).any (·.1)=false:=by rfl):PE X (.Call (.Name x p) (a::es) [] pos) (tE S X (.blt k ces)):=
 (zfP hc hg hm hv ha hn hdb he hpl).imp λσ H Q ⟨B,φ,st,ρ,rs,re,h⟩=>by
  erw[ev]at h;refine tAs.bind rs re h λxs H1 vs st1 φ1 s1 rs1 re1 rv h1=>?_;let⟨z,e,q⟩:=zae h1 rs1;exact⟨B,φ1,st1,vs,z,rs1,rv,e,q⟩
theorem zlF(hc:yat X (.type T) (rB S X k))(hg:Gl X x)(hm:X.mg x=AD)(hv:bootBuiltins x=AA (.type T))(ha:PA X (a::es) (tAs S X ces))(hn:x ≠ "__name__":=by decide)(hdb:(x==("__debug__":AQ))=false:=by decide)
  (he:starEach (a::es) X.env=(AB,eval a X.env)::starEach es X.env:=by rfl) (hpl:(backTo pos (starEach es X.env)).any (·.1)=false:=by rfl):PE X (.Call (.Name x p) (a::es) [] pos) (tE S X (.blt k ces)):=
 (zhh hc hg hm hv ha hn hdb he hpl).imp λσ H Q ⟨B,φ,st,ρ,rs,re,h⟩=>by
  erw[ev]at h;refine tAs.bind rs re h λxs H1 vs st1 φ1 s1 rs1 re1 rv h1=>?_;let⟨z,e,q⟩:=zae h1 rs1;exact⟨B,φ1,st1,vs,z,rs1,rv,e,q⟩
end
section
variable {S:Se}{X:Cx}{σ:St}{B:AI->Prop}{φ φ1:Ph}{H H1:Hp}{st:SO}{ρ:IC.Env}{p pos p2 apos:CW}{a b c d:AT}{ca cb cc:Ce}{es:List AT}{ces:Ces}{K:AE}{cl:Nat->AI}
theorem Step.put{l:AI}{u:HO}(hl:AA l∈φ):Step φ H φ (L2.upd H l u):=
 ⟨λb o n e=>by rw[zk (show b≠l from λz=>n (by rw[z];exact hl))];exact e,AS _,λ_ _ _ e=>e,λ_ h=>.inl h⟩
theorem yH.put{n:Nat}{l:AI}{u:HO}{o:Ob}(rs:yH K cl B φ H st)(hn:φ[n]?=AA (AA l))(ho:ycv K cl B φ (L2.upd H l u) o l):yH K cl B φ (L2.upd H l u) (st.set n o):=by
 have hm:AA l∈φ:=A3 hn;have s:Step φ H φ (L2.upd H l u):=.put hm;have hlt:n<st.length:=by rw[<-rs.len];exact(BE.mp hn).1
 refine⟨by rw[B4];exact rs.len,rs.inj,λm a e=>?_,λm o' e ho'=>?_,rs.nb,λa h=>?_⟩
 .by_cases hmn:m=n
  .subst hmn;rw[hn]at e;cases e;exact⟨o,by rw[Aa hlt],ho⟩
  .let⟨o',q,r⟩:=rs.obj m a e;refine⟨o',by rw[AM (BJ hmn)];exact q,r.step s ?_⟩;rw[zk]
   rintro rfl
   exact hmn (rs.inj m n a e hn)
 .by_cases hmn:m=n
  .subst hmn;exact⟨l,hn⟩
  .rw[AM (BJ hmn)]at e;exact rs.liv m o' e ho'
 .let⟨w,e⟩:=rs.dom a h
  by_cases z:a=l
  .subst z;exact⟨u,zt⟩
  .exact⟨w,by rw[zk z];exact e⟩
theorem yb6:1000000<=sizeLine:=by rw[CY];decide
theorem zhL{m:Mth}{v:PV}{st:SO}{α β:Type}{Rel:Ph->Hp->α->β->Prop}{k:Bool->R α}{Q:β->Hp->Prop}(h:Run S X σ B φ H Rel (onO (yaS m st v) k) Q):∃b,yaS m st v=AA b/\Run S X σ B φ H Rel (k b) Q:=by
 cases e:yaS m st v with
 |none=>rw[e]at h;exact h.elim
 |some z=>rw[e]at h;exact⟨z,rfl,h⟩
theorem zh7(ha:PE X a (tE S X ca))(hb:PE X b (tE S X cb))(hs:starEach [b] X.env=[(AB,eval b X.env)]:=by rfl)(hbase:attributeBase a "append" X.env (eval a X.env)=eval a X.env:=by rfl)(hline:(apos.endLine==pos.line)=true:=by rfl)
  (hfew:((backTo pos (starEach [b] X.env)).all (λx=>!x.1)&&(backToKw pos (keywordEach [] X.env)).all (λx=>x.1.isSome)&&decide (([b]:List AT).length+([]:List C3).length+(if ([]:List C3).isEmpty then 0 else 1)<30))=true:=by rfl):
  PE X (.Call (.Attribute a "append" apos) [b] [] pos) (tE S X (.mth .append ca (.cons cb .nil))):=
 (zpr PySem.F.plainAttrs_list FT PySem.F.type_list_append zeS ha (zek (S:=S) hb zhu hs) hbase hfew hline hs rfl).imp λσ H Q ⟨B,φ,st,ρ,rs,re,h⟩=>by
  erw[ev]at h;refine tE.bind rs re h λx H1 v st1 φ1 s1 rs1 re1 rv h1=>?_;let⟨_,e1,h1⟩:=zhL h1;have t1:∃ws,yam st1 v=AA ws:=by
   erw[yaS]at e1
   cases q:yam st1 v with
   |none=>rw[q]at e1;cases e1
   |some ws=>exact⟨ws,rfl⟩
  let⟨ws,t1⟩:=t1;let⟨l,xs,rfl,hl,_⟩:=zdd rs1 rv t1;refine⟨.inl ⟨rfl,xs,hl⟩,tAs.bind rs1 re1 h1 λys H2 vs st2 φ2 s2 rs2 re2 rvs h2=>?_⟩;have rv2:=rv.step s2;rcases vs with _|⟨w,_|⟨w',t⟩⟩
  .exact h2.elim
  .let⟨y,rfl,rw⟩:=rvs.one;unfold ycu at h2;erw[yd0]at h2;split at h2
   .rename_i n;split at h2
    .rename_i zs hz;split at h2
     .rename_i c;let⟨l',xs',e,hn,hx,lr⟩:=rs2.list rv2 hz
      cases e
      refine⟨l,xs',y,rfl,rfl,hx,by have:=yb6;have:=lr.length;lia,?_⟩;exact h2 _ _ φ2 (.put (A3 hn)) (rs2.put hn ⟨_,zt,(lr.append (by erw[yj];exact⟨y,[],rfl,rw,rfl⟩)).step (.put (A3 hn))⟩) (by erw[yg])
     .exact h2.elim
    .exact h2.elim
   .exact h2.elim
  .exact h2.elim
theorem zo1(ha:PE X a (tE S X ca)):PE X a (tE S X (.frz ca)):=
 ha.imp λσ H Q ⟨B,φ,st,ρ,rs,re,h⟩=>by
  erw[ev]at h;refine tE.bind rs re h λx H1 v st1 φ1 s1 rs1 re1 rv h1=>?_;unfold ydK at h1;split at h1
  .rename_i n;split at h1
   .rename_i vs hv;let⟨l,xs,rfl,hn,hx,lr⟩:=rs1.list rv hv;have hm:AA l∈φ1:=A3 hn;have hlt:n<φ1.length:=(BE.mp hn).1;have nl:AA l∉φ1.set n none:=λz=>by
     let⟨m,e⟩:=Db.mp z
     by_cases hmn:m=n
     .subst hmn;rw[Aa hlt]at e;cases e
     .rw[AM (BJ hmn)]at e;exact hmn (rs1.inj m n l e hn)
    have sb:∀b,AA b∈φ1.set n AD->AA b∈φ1:=λb z=>by
     let⟨m,e⟩:=Db.mp z
     by_cases hmn:m=n
     .subst hmn;rw[Aa hlt]at e;cases e
     .rw[AM (BJ hmn)]at e;exact A3 e
    have s:Step φ1 H1 (φ1.set n AD) H1:=⟨λ_ _ _ e=>e,by simp,λm a hm' e=>by
     by_cases hmn:m=n
     .subst hmn;rw[Aa hlt]at e;cases e
     .rw[AM (BJ hmn)]at e;exact e,λb z=>.inl (sb b z)⟩
    refine h1 _ H1 (φ1.set n AD) s ⟨by simp[rs1.len],λm k a e1 e2=>?_,λm a e=>?_,λm o e ho=>?_,λa z=>rs1.nb a (sb a z),rs1.dom⟩ ?_
    .by_cases h1':m=n
     .subst h1';rw[Aa hlt]at e1;cases e1
     .by_cases h2':k=n
      .subst h2';rw[Aa hlt]at e2;cases e2
      .rw[AM (BJ h1')]at e1;rw[AM (BJ h2')]at e2;exact rs1.inj m k a e1 e2
    .by_cases hmn:m=n
     .subst hmn;rw[Aa hlt]at e;cases e
     .rw[AM (BJ hmn)]at e;let⟨o,q,r⟩:=rs1.obj m a e;exact⟨o,by rw[AM (BJ hmn)];exact q,r.step s rfl⟩
    .by_cases hmn:m=n
     .subst hmn;rw[Aa (by rw[<-rs1.len];exact hlt)]at e;cases e;exact absurd rfl ho
     .rw[AM (BJ hmn)]at e ⊢;exact rs1.liv m o e ho
    .simp only[yg];exact⟨l,xs,rfl,⟨hx,rs1.nb l hm,nl⟩,lr.step s⟩
   .exact h1.elim
  .exact h1.ok rs1 rv
end
section
variable (S:Se)(X:Cx)
def yaL(B:AI->Prop)(φ:Ph)(H:Hp)(f:Fl)(D:Ends):Prop:=
 match f with
 |.nx ρ' st'=>∀σ' H' φ',Step φ H φ' H'->yH X.K S.cl B φ' H' st'->yW X.K S.cl B φ' H' ρ' σ'->D.nx σ' H'
 |.rt v st'=>∀x H' φ',Step φ H φ' H'->yH X.K S.cl B φ' H' st'->yg X.K S.cl B φ' H' v x->D.rt x H'
 |.bk ρ' st'=>∀σ' H' φ',Step φ H φ' H'->yH X.K S.cl B φ' H' st'->yW X.K S.cl B φ' H' ρ' σ'->D.bk σ' H'
 |.ct ρ' st'=>∀σ' H' φ',Step φ H φ' H'->yH X.K S.cl B φ' H' st'->yW X.K S.cl B φ' H' ρ' σ'->D.ct σ' H'
 |.exc k ρ' st'=>∀σ' φ1 H1 e s',Step φ H φ1 H1->yW X.K S.cl B φ1 H1 ρ' σ'->ExcAt S X σ' B φ1 H1 k st' e s'->X.xe e s'
 |.bad=>False
def tS(c:Cs):TS:=λD σ H=>∃B φ st ρ,yH X.K S.cl B φ H st/\yW X.K S.cl B φ H ρ σ/\yaL S X B φ H (ex S.call ρ st c) D
def tSs(c:Css):TS:=λD σ H=>∃B φ st ρ,yH X.K S.cl B φ H st/\yW X.K S.cl B φ H ρ σ/\yaL S X B φ H (exs S.call ρ st c) D
end
section
variable {S:Se}{X:Cx}{σ:St}{B:AI->Prop}{φ φ1:Ph}{H H1:Hp}{st:SO}{ρ:IC.Env}{D:Ends}{pos p2 px:CW}{a b c o:AT}{ca cb cc:Ce}{s1:Bz}{ss ss':List Bz}{c1:Cs}{cs cs':Css}
theorem yaL.on{f:Fl}(s:Step φ H φ1 H1)(h:yaL S X B φ H f D):yaL S X B φ1 H1 f D:=by
 cases f with
 |nx ρ st=>exact λσ' H' φ' t=>h σ' H' φ' (s.trans t)
 |rt ρ st=>exact λσ' H' φ' t=>h σ' H' φ' (s.trans t)
 |bk ρ st=>exact λσ' H' φ' t=>h σ' H' φ' (s.trans t)
 |ct ρ st=>exact λσ' H' φ' t=>h σ' H' φ' (s.trans t)
 |exc k ρ st=>exact λσ' φ2 H2 e s' t=>h σ' φ2 H2 e s' (s.trans t)
 |bad=>exact h
theorem tE.fl{k:PV->SO->Fl}{P:V->Hp->Prop}(rs:yH X.K S.cl B φ H st)(re:yW X.K S.cl B φ H ρ σ)(h:yaL S X B φ H ((ev S.call ρ st ca).fl ρ k) D)
  (n:∀x H1 v st1 φ1,Step φ H φ1 H1->yH X.K S.cl B φ1 H1 st1->yW X.K S.cl B φ1 H1 ρ σ->yg X.K S.cl B φ1 H1 v x->yaL S X B φ1 H1 (k v st1) D->P x H1):tE S X ca σ H P:=by
 refine⟨B,φ,st,ρ,rs,re,?_⟩
 cases e:ev S.call ρ st ca with
 |ok v st'=>
  rw[e]at h;exact λx H' φ' s rs' rv=>n x H' v st' φ' s rs' (re.step s) rv (h.on s)
 |exc k st'=>
  rw[e]at h;exact λe s' x=>h σ φ H e s' .rfl re x
 |bad=>rw[e]at h;exact h
theorem PS.imp{t t':TS}(h:PS X s1 t')(k:∀D σ H,t D σ H->t' D σ H):PS X s1 t:=λpins s σ H D I q=>h pins s σ H D I (k D σ H q)
theorem PSs.imp{t t':TS}(h:PSs X ss t')(k:∀D σ H,t D σ H->t' D σ H):PSs X ss t:=λpins s σ H D I q=>h pins s σ H D I (k D σ H q)
theorem yW.set{K:AE}{cl:Nat->AI}(r:yW K cl B φ H ρ σ)(i:Nat){v:PV}{x:V}(rv:yg K cl B φ H v x):yW K cl B φ H (ρ.set i (AA v)) (σ.set i (AA x)):=by
 refine⟨by rw[B4,B4];exact r.len,λj w e=>?_⟩
 by_cases h:j=i
 .subst h
  by_cases hl:j<ρ.length
  .rw[Aa hl]at e
   cases e
   exact⟨x,by rw[Aa (by rw[<-r.len];exact hl)],rv⟩
  .rw[BY (by rw[B4];lia)]at e
   cases e
 .rw[AM (BJ h)]at e ⊢;exact r.get j w e
theorem zpd:PSs X [] (tSs S X .nil):=ycV.imp λD σ H ⟨B,φ,st,ρ,rs,re,h⟩=>by
 erw[exs]at h;exact h σ H φ .rfl rs re
theorem zly(h1:PS X s1 (tS S X c1))(h2:PSs X ss (tSs S X cs)):PSs X (s1::ss) (tSs S X (.cons c1 cs)):=
 (zgf h1 h2).imp λD σ H ⟨B,φ,st,ρ,rs,re,h⟩=>by
  erw[exs]at h;refine⟨B,φ,st,ρ,rs,re,?_⟩
  cases e:ex S.call ρ st c1 with
  |nx ρ1 st1=>
   rw[e]at h;exact λσ' H' φ' s rs' re'=>⟨B,φ',st1,ρ1,rs',re',h.on s⟩
  |rt v st1=>rw[e]at h;exact h
  |bk ρ1 st1=>rw[e]at h;exact h
  |ct ρ1 st1=>rw[e]at h;exact h
  |exc k ρ1 st1=>rw[e]at h;exact h
  |bad=>rw[e]at h;exact h
theorem zmc(he:PE X a (tE S X ca))(hs:swapsWith a AD pos.line X.env=pure false:=by rfl):PS X (.Expr a pos) (tS S X (.expr ca)):=
 (zlP he hs).imp λD σ H ⟨B,φ,st,ρ,rs,re,h⟩=>by
  erw[ex]at h;exact tE.fl rs re h λx H1 v st1 φ1 s rs1 re1 rv h1=>h1 σ H1 φ1 .rfl rs1 re1
theorem zoy(he:PE X a (tE S X ca)):PS X (.Return (AA a) pos) (tS S X (.ret ca)):=
 (zk1 he).imp λD σ H ⟨B,φ,st,ρ,rs,re,h⟩=>by
  erw[ex]at h;exact tE.fl rs re h λx H1 v st1 φ1 s rs1 re1 rv h1=>h1 x H1 φ1 .rfl rs1 rv
theorem zmf:PS X (.Return AD pos) (tS S X (.ret (.cst .non))):=
 ycQ.imp λD σ H ⟨B,φ,st,ρ,rs,re,h⟩=>by
  erw[ex,ev,R.fl]at h;exact h .non H φ .rfl rs (by erw[yg])
theorem zpb{i:Nat}{x:AQ}(hN:X.N.Nodup)(hi:X.N[i]?=AA x)(hx:Loc X.env.scope x)(he:PE X a (tE S X ca))(hs:swapsWith a (AA (.Name x px)) pos.line X.env=pure false:=by rfl)
  (hf:X.fn x=AC \/ X.env.scope.names.lookup x=AA .local:=by first|exact .inl rfl|exact .inr rfl|assumption):PS X (.Assign [.Name x px] a pos) (tS S X (.asg (.n i) ca)):=
 (zk7 hN hi hx he hs hf).imp λD σ H ⟨B,φ,st,ρ,rs,re,h⟩=>by
  erw[ex]at h;exact tE.fl rs re h λx H1 v st1 φ1 s rs1 re1 rv h1=>h1 _ H1 φ1 .rfl rs1 (re1.set i rv)
theorem flT(r:R PV)(f:Bool->SO->Fl):(r.fl ρ λx st1=>onF (yaT st1 x) λk=>f k st1)=(ybe r).fl ρ f:=by
 cases r with
 |ok v s=>
  erw[R.fl,ybe,R.bind]
  cases yaT s v<;>rfl
 |exc c s=>rfl
 |bad=>rfl
theorem tTs.fl{k:Bool->SO->Fl}{P:Bool->Hp->Prop}(rs:yH X.K S.cl B φ H st)(re:yW X.K S.cl B φ H ρ σ)(h:yaL S X B φ H ((ybe (ev S.call ρ st ca)).fl ρ k) D)
  (n:∀b H1 st1 φ1,Step φ H φ1 H1->yH X.K S.cl B φ1 H1 st1->yW X.K S.cl B φ1 H1 ρ σ->yaL S X B φ1 H1 (k b st1) D->P b H1):tTs S X ca σ H P:=by
 refine⟨B,φ,st,ρ,rs,re,?_⟩
 cases e:ybe (ev S.call ρ st ca)with
 |ok v st'=>
  rw[e]at h;exact λx H' φ' s rs' rv=>by
   subst rv;exact n v H' st' φ' s rs' (re.step s) (h.on s)
 |exc k st'=>
  rw[e]at h;exact λe s' x=>h σ φ H e s' .rfl re x
 |bad=>rw[e]at h;exact h
theorem zp6(hc:PT X c (tTs S X cc))(ha:PSs X ss (tSs S X cs))(hb:PSs X ss' (tSs S X cs')):PS X (.If c ss ss' pos) (tS S X (.ite cc cs cs')):=
 (zpK hc ha hb).imp λD σ H ⟨B,φ,st,ρ,rs,re,h⟩=>by
  erw[ex]at h;rw[flT _ λk st1=>cond k (exs S.call ρ st1 cs) (exs S.call ρ st1 cs')]at h;refine tTs.fl rs re h λk H1 st1 φ1 s rs1 re1 h1=>?_
  cases k with
  |true=>exact⟨B,φ1,st1,ρ,rs1,re1,h1⟩
  |false=>exact⟨B,φ1,st1,ρ,rs1,re1,h1⟩
theorem zpi{i:Nat}{x:AQ}{op:Ds}{bo:BOp}(hN:X.N.Nodup)(hi:X.N[i]?=AA x)(hx:Loc X.env.scope x)(he:PE X a (tE S X ca))(ho:PIp X op (rT2 S X (ybT bo)))
  (hf:X.fn x=AC \/ X.env.scope.names.lookup x=AA .local:=by first|exact .inl rfl|exact .inr rfl|assumption) (hd:(x==("__debug__":AQ))=false:=by decide) (hcd:(x==("__classdict__":AQ))=false:=by decide):PS X (.AugAssign (.Name x px) op a pos) (tS S X (.aug i bo ca)):=
 (zk3 hN hi hx he ho hf).imp λD σ H ⟨B,φ,st,ρ,rs,re,h⟩=>by
  erw[ex]at h
  cases q:ρ[i]? with
  |none=>rw[q]at h;exact h.elim
  |some w=>
   cases w with
   |none=>rw[q]at h;exact h.elim
   |some w=>
    rw[q]at h;let⟨y,hy,rw⟩:=re.get i w q;refine⟨y,hy,tE.fl rs re h λz H1 v st1 φ1 s rs1 re1 rv h1=>?_⟩
    cases e:ybT bo w v with
    |none=>rw[e]at h1;exact h1.elim
    |some u=>
     rw[e]at h1;exact⟨B,φ1,st1,w,v,u,rs1,rw.step s,rv,e,λz' H' φ' s' rs' rz=>h1 _ H' φ' s' rs' ((re1.step s').set i rz)⟩
end
section
variable (S:Se)(X:Cx)
structure Drw(B:AI->Prop)(φ0:Ph)(H0:Hp)(xs:List PV)(J:It):Prop where
 stop:∀φ H,Step φ0 H0 φ H->J.stop xs.length H
 go:∀(i:Nat) φ H,Step φ0 H0 φ H->i<xs.length->J.go i H
 yld:∀(i:Nat) φ H st x H' (B':AI->Prop),(∀y,B' y->B y \/ H0 y=AD)->Step φ0 H0 φ H->yH X.K S.cl B' φ H st->i<xs.length->J.yld i H x H'->∃v,xs[i]?=AA v/\yg X.K S.cl B' φ H' v x/\∀b o,H b=AA o->H' b=AA o
noncomputable abbrev RD(B:AI->Prop):Ph->Hp->List PV->It->Prop:=λφ H=>Drw S X B φ H
def tI(c:Cit):TI:=λσ H R=>∃B φ st ρ,yH X.K S.cl B φ H st/\yW X.K S.cl B φ H ρ σ/\Run S X σ B φ H (RD S X B) (evi S.call ρ st c) R
end
section
variable {S:Se}{X:Cx}{σ:St}{B:AI->Prop}{φ φ1:Ph}{H H1:Hp}{st:SO}{ρ:IC.Env}{D:Ends}{pos p p2 px:CW}{a b c o tg l:AT}{ca cb cc:Ce}{es:List AT}{ces:Ces}{ss:List Bz}{cs:Css}{ci:Cit}{ct:Tg}
theorem zmN:PE X a (tE S X .nope):=λpins s σ H Q I ⟨B,φ,st,ρ,rs,re,h⟩=>by
 erw[ev]at h;exact h.elim
theorem zmI{s1:Bz}:PS X s1 (tS S X .nope):=λpins s σ H D I ⟨B,φ,st,ρ,rs,re,h⟩=>by
 erw[ex]at h;exact h.elim
theorem PI.imp{t t':TI}(h:PI X tg l t')(k:∀σ H R,t σ H R->t' σ H R):PI X tg l t:=λpins s σ H R I q=>h pins s σ H R I (k σ H R q)
theorem znm{tl:TE}(hl:PE X l tl):PI X tg l (λσ H R=>tl σ H λx H1=>∃a,x=.ref a/\(((∃xs,SqL X.K H1 a xs)/\R (Itl X.K a) H1) \/ ((∃xs,SqT X.K H1 a xs)/\R (Itt X.K a) H1))):=by
 intro pins s σ H R I h;refine thn (hl pins s σ H _ I h) λv s1 kq=>?_;let⟨x,H1,I1,r1,q1⟩:=kq;let⟨a,e,q1⟩:=q1;subst e
 cases r1
 rcases q1 with⟨⟨xs,hq⟩,q⟩|⟨⟨xs,hq⟩,q⟩
 .let⟨its,rv,p,hz⟩:=I1.list hq;refine GP p.isList ?_;refine⟨s1.heap.objs.size,[s1.heap.objs.size],_,_,H1,rfl,I1.kept (t':=s1.toks) λb o e=>AO _ e,ziU a _,⟨_,A7 _ rfl,rfl,rfl⟩,λb hb=>?_,q⟩;have e:b=s1.heap.objs.size:=by simpa using hb
  subst e;exact I1.fpOk (AS _) (I1.hok.fresh (AS _))
 .let⟨its,rv,p,hz⟩:=I1.tuple hq;refine CS (show s1.heap.IsTuple a its.toArray from p) ?_;refine⟨s1.heap.objs.size,[s1.heap.objs.size],_,_,H1,rfl,I1.kept (t':=s1.toks) λb o e=>AO _ e,zgN a _,⟨_,A7 _ rfl,rfl,rfl⟩,λb hb=>?_,q⟩;have e:b=s1.heap.objs.size:=by simpa using hb
  subst e;exact I1.fpOk (AS _) (I1.hok.fresh (AS _))
theorem zmg{k:Bool}{vs:List PV}{xs:List V}{y:AI}(rt:ybS X.K B φ H k y xs)(l:yj X.K S.cl B φ H vs xs):Drw S X B φ H vs (Itt X.K y):=by
 have hl:=l.length;refine⟨λφ' H' s=>⟨xs,(rt.step s).sq,by lia⟩,λi φ' H' s hi=>⟨xs,xs[i]'(by lia),(rt.step s).sq,by simp[show i<xs.length by lia]⟩,λi φ' H' st x H2 B' hB s rs hi q=>?_⟩;let⟨rfl,q⟩:=q;obtain⟨v,hv⟩:∃v,vs[i]?=AA v:=⟨vs[i],by simp[hi]⟩;let⟨x',hx',rv⟩:=l.get i hv;have:=q xs (rt.step s).sq;rw[this]at hx'
 cases hx'
 exact⟨v,hv,(rv.moreB hB).step s,λ_ _ e=>e⟩
theorem zmn{vs:List PV}{xs:List V}{y:AI}(rt:ycR B φ H y xs)(l:yj X.K S.cl B φ H vs xs):Drw S X B φ H vs (Itl X.K y):=by
 have hl:=l.length;refine⟨λφ' H' s=>⟨xs,(rt.step s).sq,by lia⟩,λi φ' H' s hi=>⟨xs,xs[i]'(by lia),(rt.step s).sq,by simp[show i<xs.length by lia]⟩,λi φ' H' st x H2 B' hB s rs hi q=>?_⟩;let⟨rfl,q⟩:=q;obtain⟨v,hv⟩:∃v,vs[i]?=AA v:=⟨vs[i],by simp[hi]⟩;let⟨x',hx',rv⟩:=l.get i hv;have:=q xs (rt.step s).sq;rw[this]at hx'
 cases hx'
 exact⟨v,hv,(rv.moreB hB).step s,λ_ _ e=>e⟩
theorem znA(hl:PE X l (tE S X ca)):PI X tg l (tI S X (.seq ca)):=
 (znm hl).imp λσ H R ⟨B,φ,st,ρ,rs,re,h⟩=>by
  erw[evi]at h;refine tE.bind rs re h λx H1 v st1 φ1 s1 rs1 re1 rv h1=>?_
  cases v with
  |tp k vs=>
   erw[yg]at rv;let⟨y,xs,rfl,rt,l⟩:=rv;exact⟨y,rfl,.inr ⟨⟨xs,rt.sq⟩,h1.ok rs1 (zmg rt l)⟩⟩
  |lst vs=>
   erw[yg]at rv;let⟨y,xs,rfl,rt,l⟩:=rv;exact⟨y,rfl,.inl ⟨⟨xs,rt.sq⟩,h1.ok rs1 (zmn rt l)⟩⟩
  |_=>exact h1.elim
theorem zdS:∀(n:Nat) (lo d:Int) (i:Nat),(yx n lo d)[i]?=if i<n then AA (.int (lo+i*d))else AD
 |0,lo,d,i=>by simp[yx]
 |n+1,lo,d,0=>by simp[yx]
 |n+1,lo,d,i+1=>by
  erw[yx,Ac];rw[zdS n (lo+d) d i]
  by_cases h:i<n
  .rw[if_pos h,if_pos (by lia),Int.natCast_succ,BN,Bw,HL,Cv d]
  .rw[if_neg h,if_neg (by lia)]
theorem zbi:∀(n:Nat) (lo d:Int),(yx n lo d).length=n
 |0,lo,d=>rfl
 |n+1,lo,d=>by simp[yx,zbi n]
theorem zhP{lo:Int}{n:Nat}:Drw S X B φ H (yx n lo 1) (Itr lo n):=by
 refine⟨λφ' H' s=>by rw[zbi];exact AS _,λi φ' H' s hi=>by rw[zbi]at hi;exact hi,λi φ' H' st x H2 B' hB s rs hi q=>?_⟩;rw[zbi]at hi;let⟨rfl,rfl⟩:=q;refine⟨.int (lo+i),?_,by erw[yg],λ_ _ e=>e⟩;rw[zdS,if_pos hi,Cn]
theorem zhV{o:Option (List PV)}{st:SO}{Q:It->Hp->Prop}(h:Run S X σ B φ H (RD S X B) (toL o st) Q):∃xs,o=AA xs/\Run S X σ B φ H (RD S X B) (.ok xs st) Q:=by
 cases o with
 |none=>exact h.elim
 |some z=>exact⟨z,rfl,h⟩
theorem zie(hg:Gl X "range")(hm:X.mg "range"=AD)(ha:PE X a (tE S X ca))(hs:starEach [a] X.env=[(AB,eval a X.env)]:=by rfl):PI X tg (.Call (.Name "range" p) [a] [] pos) (tI S X (.range1 ca)):=
 (zhX hg hm (zbC ha ybr hs) hs).imp λσ H R ⟨B,φ,st,ρ,rs,re,h⟩=>by
  erw[evi]at h;refine tE.bind rs re h λx H1 v st1 φ1 s1 rs1 re1 rv h1=>?_;let⟨xs,e,h1⟩:=zhV h1
  cases v with
  |int j=>
   erw[yb3]at e;split at e
   .cases e
    erw[yg]at rv;subst rv;exact⟨j,rfl,by lia,by lia,h1.ok rs1 zhP⟩
   .cases e
  |_=>cases e
theorem zcZ:∀(xs:List PV) (k i:Nat),(yL k xs)[i]?=(xs[i]?).map λx=>.tup [.int ((k+i:Nat):Int),x]
 |[],k,i=>by simp[yL]
 |x::xs,k,0=>by simp[yL]
 |x::xs,k,i+1=>by
  erw[yL,Ac];rw[zcZ xs (k+1) i];have:k+1+i=k+(i+1):=by lia
  rw[this]
theorem zdv:∀(xs:List PV) (k:Nat),(yL k xs).length=xs.length
 |[],k=>rfl
 |x::xs,k=>by simp[yL,zdv xs]
theorem zka{k:Bool}{vs:List PV}{xs:List V}{y:AI}(rt:ybS X.K B φ H k y xs)(l:yj X.K S.cl B φ H vs xs):Drw S X B φ H (yL 0 vs) (Ite X.K y):=by
 have hl:=l.length;have hp:=zdv vs 0;refine⟨λφ' H' s=>⟨xs,(rt.step s).sq,by lia⟩,λi φ' H' s hi=>⟨xs,xs[i]'(by lia),(rt.step s).sq,by simp[show i<xs.length by lia]⟩,λi φ' H' st x H2 B' hB s rs hi q=>?_⟩;let⟨T,hT,rfl,q⟩:=q;obtain⟨v,hv⟩:∃v,vs[i]?=AA v:=⟨vs[i]'(by lia),by simp[show i<vs.length by lia]⟩;let⟨x',hx',rv⟩:=l.get i hv;have e:=q xs x' (rt.step s).sq hx';subst e;refine⟨.tup [.int i,v],?_,.tup_new hT rs ?_,λb o e=>by rw[zk (zn e hT)];exact e⟩
 .rw[zcZ,hv];simp
 .simp only[yj,yg];exact⟨_,_,rfl,rfl,x',[],rfl,(rv.moreB hB).step s,rfl⟩
theorem zlb{es:List AT}{kk:Nat}{tp:CW}(hg:Gl X "enumerate")(hm:X.mg "enumerate"=AD)(ha:PE X a (tE S X ca))(hs:starEach [a] X.env=[(AB,eval a X.env)]:=by rfl):
  PI X (.Tuple es kk tp) (.Call (.Name "enumerate" p) [a] [] pos) (tI S X (.enum ca)):=
 (zjy hg hm (zbC ha ybr hs) hs).imp λσ H R ⟨B,φ,st,ρ,rs,re,h⟩=>by
  erw[evi]at h;refine tE.bind rs re h λx H1 v st1 φ1 s1 rs1 re1 rv h1=>?_
  cases v with
  |tp k vs=>
   erw[yg]at rv;let⟨y,xs,rfl,rt,l⟩:=rv;exact⟨y,rfl,⟨xs,rt.sq⟩,h1.ok rs1 (zka rt l)⟩
  |_=>exact h1.elim
def tG(S:Se)(X:Cx)(t:Tg):TG:=λv σ H Q=>∃B φ st ρ w ρ',yH X.K S.cl B φ H st/\yW X.K S.cl B φ H ρ σ/\yg X.K S.cl B φ H w v/\yR t w ρ=AA ρ'/\∀σ',yW X.K S.cl B φ H ρ' σ'->Q σ' H
theorem PG.imp{t t':TG}(h:PG X tg t')(k:∀v σ H Q,t v σ H Q->t' v σ H Q):PG X tg t:=λpins s σ H v u Q I rv q=>h pins s σ H v u Q I rv (k v σ H Q q)
theorem zlu{i:Nat}{x:AQ}(hN:X.N.Nodup)(hi:X.N[i]?=AA x)(hx:Loc X.env.scope x)(hf:X.fn x=AC \/ X.env.scope.names.lookup x=AA .local:=by first|exact .inl rfl|exact .inr rfl|assumption):PG X (.Name x pos) (tG S X (.n i)):=
 (zg3 hN hi hx hf).imp λv σ H Q ⟨B,φ,st,ρ,w,ρ',rs,re,rv,e,q⟩=>by
  cases e
  exact q _ (re.set i rv)
noncomputable def gNs(l:List Nat):TGs:=λvs σ H Q=>vs.length=l.length/\Q ((l.zip vs).foldl (λσ p=>σ.set p.1 (AA p.2)) σ) H
theorem PGs.imp{es:List AT}{t t':TGs}(h:PGs X es t')(k:∀v σ H Q,t v σ H Q->t' v σ H Q):PGs X es t:=λpins s σ H vs us Q I rv q=>h pins s σ H vs us Q I rv (k vs σ H Q q)
theorem zlK:PGs X [] (gNs []):=ycW.imp λvs σ H Q ⟨h,q⟩=>by
 cases vs with
 |nil=>exact⟨rfl,q⟩
 |cons _ _=>cases h
theorem zkh{es:List AT}{l:List Nat}{i:Nat}{x:AQ}(hN:X.N.Nodup)(hi:X.N[i]?=AA x)(hx:Loc X.env.scope x)(h2:PGs X es (gNs l))(hf:X.fn x=AC \/ X.env.scope.names.lookup x=AA .local:=by first|exact .inl rfl|exact .inr rfl|assumption):PGs X (.Name x pos::es) (gNs (i::l)):=
 (zkb (zg3 hN hi hx hf) h2).imp λvs σ H Q ⟨h,q⟩=>by
  cases vs with
  |nil=>cases h
  |cons v vs=>exact⟨v,vs,rfl,by simpa using h,q⟩
theorem yW.sets{K:AE}{cl:Nat->AI}:∀(l:List Nat) {vs:List PV} {xs:List V} {ρ:IC.Env} {σ:St},yW K cl B φ H ρ σ->yj K cl B φ H vs xs ->
  yW K cl B φ H ((l.zip vs).foldl (λρ p=>ρ.set p.1 (AA p.2)) ρ) ((l.zip xs).foldl (λσ p=>σ.set p.1 (AA p.2)) σ)
 |[],vs,xs,ρ,σ,re,l=>by simpa using re
 |i::is,[],xs,ρ,σ,re,l=>by
  erw[yj]at l;subst l;simpa using re
 |i::is,v::vs,xs,ρ,σ,re,l=>by
  erw[yj]at l;let⟨y,ys,rfl,r,l⟩:=l;erw[ER,DE];exact yW.sets is (re.set i r) l
theorem zoQ{es:List AT}{l:List Nat}{k:Nat}(hc:X.calm=AC)(h:PGs X es (gNs l))(hn:(assignEach es X.env).length=l.length:=by rfl)(hst:(assignEach es X.env).findIdx? (·.1)=none:=by rfl):PG X (.Tuple es k pos) (tG S X (.t l)):=
 (zoN hc h hn hst).imp λv σ H Q ⟨B,φ,st,ρ,w,ρ',rs,re,rv,e,q⟩=>by
  cases w with
  |tp kk vs=>
   erw[yR]at e;split at e
   .rename_i c
    cases e
    erw[yg]at rv;let⟨y,xs,rfl,rt,lr⟩:=rv;have hl:=lr.length;exact⟨y,xs,rfl,rt.sq,by lia,by lia,q _ (yW.sets l re lr)⟩
   .cases e
  |_=>cases e
theorem zlo{es:List AT}{l:List Nat}{k:Nat}(he:PE X a (tE S X ca))(hg:PG X (.Tuple es k p2) (tG S X (.t l)))(hs:swapsWithSole [.Tuple es k p2] a pos.line X.env=pure false:=by rfl)(hw:swappedStores [.Tuple es k p2] a X.env=pure none:=by rfl):
  PS X (.Assign [.Tuple es k p2] a pos) (tS S X (.asg (.t l) ca)):=
 (zkB he hg hs hw).imp λD σ H ⟨B,φ,st,ρ,rs,re,h⟩=>by
  erw[ex]at h;refine tE.fl rs re h λx H1 v st1 φ1 s rs1 re1 rv h1=>?_
  cases e:yR (.t l) v ρ with
  |none=>rw[e]at h1;exact h1.elim
  |some ρ'=>
   rw[e]at h1;exact⟨B,φ1,st1,ρ,v,ρ',rs1,re1,rv,e,λσ' re'=>h1 σ' H1 φ1 .rfl rs1 re'⟩
theorem tI.fl{k:List PV->SO->Fl}{P:It->Hp->Prop}(rs:yH X.K S.cl B φ H st)(re:yW X.K S.cl B φ H ρ σ)(h:yaL S X B φ H ((evi S.call ρ st ci).fl ρ k) D)
  (n:∀x H1 v st1 φ1,Step φ H φ1 H1->yH X.K S.cl B φ1 H1 st1->yW X.K S.cl B φ1 H1 ρ σ->Drw S X B φ1 H1 v x->yaL S X B φ1 H1 (k v st1) D->P x H1):tI S X ci σ H P:=by
 refine⟨B,φ,st,ρ,rs,re,?_⟩
 cases e:evi S.call ρ st ci with
 |ok v st'=>
  rw[e]at h;exact λx H' φ' s rs' rv=>n x H' v st' φ' s rs' (re.step s) rv (h.on s)
 |exc k st'=>
  rw[e]at h;exact λe s' x=>h σ φ H e s' .rfl re x
 |bad=>rw[e]at h;exact h
theorem zod(hp:Ei (model X.prog X.w) X.A X.env X.xe)(hc:X.calm=AC)(hi:PI X tg l (tI S X ci))(hg:PG X tg (tG S X ct))(hb:PSs X ss (tSs S X cs))(hs:∀x,foldedSetIterable l X.env x=pure x:=by intro _;rfl):
  PS X (.For tg l ss [] pos) (tS S X (.for ct ci cs)):=
 (zow hp hc hi hg hb hs).imp λD σ H ⟨B,φ,st,ρ,rs,re,h⟩=>by
  erw[ex]at h;refine tI.fl rs re h λJ H1 xs st1 φ1 s1 rs1 re1 dr h1=>?_;refine⟨λi m σ H=>∃φ st ρ,i+m=xs.length/\Step φ1 H1 φ H/\yH X.K S.cl B φ H st/\yW X.K S.cl B φ H ρ σ/\yaL S X B φ H (forL ct (λρ2 st2=>exs S.call ρ2 st2 cs) (xs.drop i) ρ st) D,
   ⟨xs.length,φ1,st1,ρ,by lia,.rfl,rs1,re1,by simpa using h1⟩,?_⟩
  rintro i m σ2 H2 ⟨φ2,st2,ρ2,hm,s2,rs2,re2,h2⟩
  by_cases hi:i<xs.length
  .refine .inr ⟨dr.go i φ2 H2 s2 hi,λσ' H'=>∃φ st ρ,Step φ1 H1 φ H'/\yH X.K S.cl B φ H' st/\yW X.K S.cl B φ H' ρ σ'/\yaL S X B φ H' (forL ct (λρ2 st2=>exs S.call ρ2 st2 cs) (xs.drop (i+1)) ρ st) D,
    λσ' H' ⟨φ,st,ρ,s,q⟩=>⟨m-1,by lia,φ,st,ρ,by lia,s,q⟩,λx H3 hy=>?_⟩
   let⟨v,hv,rv,kk⟩:=dr.yld i φ2 H2 st2 x H3 B (λ_ z=>.inl z) s2 rs2 hi hy;have e:xs.drop i=v::xs.drop (i+1):=by
    rw[EY hi];rw[DC hi]at hv;rw[AW hv]
   have s3:Step φ2 H2 φ2 H3:=⟨λb o _ e=>kk b o e,AS _,λ_ _ _ e=>e,λ_ h=>.inl h⟩;have rs3:yH X.K S.cl B φ2 H3 st2:=rs2.same kk;rw[e,forL]at h2
   cases eb:yR ct v ρ2 with
   |none=>rw[eb]at h2;exact h2.elim
   |some ρ3=>
    rw[eb]at h2;refine⟨B,φ2,st2,ρ2,v,ρ3,rs3,re2.step s3,rv,eb,λσ' re'=>⟨B,φ2,st2,ρ3,rs3,re',?_⟩⟩;have h3:=yaL.on s3 h2;dsimp only at h3
    cases ee:exs S.call ρ3 st2 cs with
    |nx ρ4 st4=>
     rw[ee]at h3;exact λσ4 H4 φ4 s4 rs4 re4=>⟨φ4,st4,ρ4,s2.trans (s3.trans s4),rs4,re4,yaL.on s4 h3⟩
    |ct ρ4 st4=>
     rw[ee]at h3;exact λσ4 H4 φ4 s4 rs4 re4=>⟨φ4,st4,ρ4,s2.trans (s3.trans s4),rs4,re4,yaL.on s4 h3⟩
    |bk ρ4 st4=>rw[ee]at h3;exact h3
    |rt v4 st4=>rw[ee]at h3;exact h3
    |exc k ρ4 st4=>rw[ee]at h3;exact h3
    |bad=>rw[ee]at h3;exact h3
  .have e:i=xs.length:=by lia
   subst e;rw[G6,forL]at h2;exact .inl ⟨dr.stop φ2 H2 s2,h2 σ2 H2 φ2 .rfl rs2 re2⟩
theorem zjj(hp:Ei (model X.prog X.w) X.A X.env X.xe)(hc:PT X c (tTs S X cc))(hb:PSs X ss (tSs S X cs)):PS X (.While c ss [] pos) (tS S X (.while cc cs)):=
 (zjL hp hc hb).imp λD σ H ⟨B,φ,st,ρ,rs,re,h⟩=>by
  erw[ex]at h;refine⟨λm σ H=>∃φ st ρ,yH X.K S.cl B φ H st/\yW X.K S.cl B φ H ρ σ/\yaL S X B φ H (yaw (λρ2 st2=>ev S.call ρ2 st2 cc) (λρ2 st2=>exs S.call ρ2 st2 cs) m ρ st) D,⟨100000,φ,st,ρ,rs,re,h⟩,?_⟩
  rintro m σ2 H2 ⟨φ2,st2,ρ2,rs2,re2,h2⟩
  cases m with
  |zero=>exact h2.elim
  |succ m=>
   rw[yaw]at h2;rw[flT _ λk st1=>cond k (yaG (exs S.call ρ2 st1 cs) λρ2 st2=>yaw (λρ2 st2=>ev S.call ρ2 st2 cc) (λρ2 st2=>exs S.call ρ2 st2 cs) m ρ2 st2) (.nx ρ2 st1)]at h2;refine tTs.fl rs2 re2 h2 λk H3 st3 φ3 s3 rs3 re3 h3=>?_
   cases k with
   |false=>exact h3 σ2 H3 φ3 .rfl rs3 re3
   |true=>
    refine⟨λσ' H'=>∃φ st ρ,yH X.K S.cl B φ H' st/\yW X.K S.cl B φ H' ρ σ'/\yaL S X B φ H' (yaw (λρ2 st2=>ev S.call ρ2 st2 cc) (λρ2 st2=>exs S.call ρ2 st2 cs) m ρ st) D,
     λσ' H' q=>⟨m,by lia,q⟩,B,φ3,st3,ρ2,rs3,re3,?_⟩
    erw[cond_true]at h3
    cases ee:exs S.call ρ2 st3 cs with
    |nx ρ4 st4=>
     rw[ee]at h3;exact λσ4 H4 φ4 s4 rs4 re4=>⟨φ4,st4,ρ4,rs4,re4,yaL.on s4 h3⟩
    |ct ρ4 st4=>
     rw[ee]at h3;exact λσ4 H4 φ4 s4 rs4 re4=>⟨φ4,st4,ρ4,rs4,re4,yaL.on s4 h3⟩
    |bk ρ4 st4=>rw[ee]at h3;exact h3
    |rt v4 st4=>rw[ee]at h3;exact h3
    |exc k ρ4 st4=>rw[ee]at h3;exact h3
    |bad=>rw[ee]at h3;exact h3
end
section
variable (S:Se)(K:AE)
def yfj{α β:Type}(B:AI->Prop)(φ:Ph)(H:Hp)(Rel:Ph->Hp->α->β->Prop)(r:R α)(Q:β->Hp->Prop):Prop:=
 match r with
 |.ok v st'=>∀x H' φ',Step φ H φ' H'->yH K S.cl B φ' H' st'->Rel φ' H' v x->Q x H'
 |_=>False
def tE0(c:Ce):TE:=λσ H Q=>∃B φ st ρ,yH K S.cl B φ H st/\yW K S.cl B φ H ρ σ/\yfj S K B φ H (λφ H=>yg K S.cl B φ H) (ev S.call ρ st c) Q
def tT0(c:Ce):TT:=λσ H Q=>∃B φ st ρ,yH K S.cl B φ H st/\yW K S.cl B φ H ρ σ/\yfj S K B φ H RB (ybe (ev S.call ρ st c)) Q
def tG0(t:Tg):TG:=λv σ H Q=>∃B φ st ρ w ρ',yH K S.cl B φ H st/\yW K S.cl B φ H ρ σ/\yg K S.cl B φ H w v/\yR t w ρ=AA ρ'/\∀σ',yW K S.cl B φ H ρ' σ'->Q σ' H
end
section
variable {S:Se}{X:Cx}{K:AE}{cl:Nat->AI}{σ:St}{B:AI->Prop}{φ φ1:Ph}{H H1:Hp}{st:SO}{ρ:IC.Env}{pos p p2 px:CW}{a b c o tg l elt iter:AT}{ca cb cc ce:Ce}{ci:Cit}{ct:Tg}
theorem zmq(hK:X.K=K)(h:PE X a (tE S X ca)):PE X a (tE0 S K ca):=by
 subst hK;refine h.imp λσ H Q kq=>?_;let⟨B,φ,st,ρ,rs,re,q⟩:=kq;refine ⟨B,φ,st,ρ,rs,re,?_⟩
 cases e:ev S.call ρ st ca with
 |ok v st'=>rw[e]at q;exact q
 |exc k st'=>rw[e]at q;exact q.elim
 |bad=>rw[e]at q;exact q
theorem zlk(hK:X.K=K)(h:PT X a (tTs S X ca)):PTs X [a] (tT0 S K ca):=by
 subst hK;refine zmx (h.imp λσ H Q kq=>?_);let⟨B,φ,st,ρ,rs,re,q⟩:=kq;refine ⟨B,φ,st,ρ,rs,re,?_⟩
 cases e:ybe (ev S.call ρ st ca)with
 |ok v st'=>rw[e]at q;exact q
 |exc k st'=>rw[e]at q;exact q.elim
 |bad=>rw[e]at q;exact q
theorem zjC:PTs X [] (tT0 S K (.cst (.bl AC))):=λpins s σ H Q I ⟨B,φ,st,ρ,rs,re,q⟩=>by
 refine zlv pins s σ H Q I ?_;erw[ev,ybe,R.bind,yaT,onO]at q;exact q AC H φ .rfl rs rfl
theorem zmw(hK:X.K=K)(h:PG X tg (tG S X ct)):PG X tg (tG0 S K ct):=by
 subst hK;exact h
theorem ybS.skip{k:Bool}{D y:AI}{u:HO}{xs:List V}(hD:B D)(r:ybS K B φ H k y xs):ybS K B φ (L2.upd H D u) k y xs:=by
 rcases r with⟨r,b,n⟩|r
 .exact .inl ⟨by rw[zk (show y≠D from λz=>b (z ▸ hD))];exact r,b,n⟩
 .exact .inr r
mutual
theorem yg.skip{D:AI}{u:HO}(hD:B D):∀(v:PV) (x:V),yg K cl B φ H v x->yg K cl B φ (L2.upd H D u) v x
 |.non,x,h=>by erw[yg]at h ⊢;exact h
 |.bl b,x,h=>by erw[yg]at h ⊢;exact h
 |.int i,x,h=>by erw[yg]at h ⊢;exact h
 |.str y,x,h=>by erw[yg]at h ⊢;exact h
 |.tp k vs,x,h=>by
  erw[yg]at h ⊢;let⟨y,xs,e,r,l⟩:=h;exact⟨y,xs,e,r.skip hD,yj.skip hD vs xs l⟩
 |.lst vs,x,h=>by
  erw[yg]at h ⊢;let⟨y,xs,e,⟨r,b,n⟩,l⟩:=h;exact⟨y,xs,e,⟨by rw[zk (show y≠D from λz=>b (z ▸ hD))];exact r,b,n⟩,yj.skip hD vs xs l⟩
 |.loc n,x,h=>by erw[yg]at h ⊢;exact h
 |.exn c,x,h=>by
  erw[yg]at h ⊢;let⟨y,e,r,b,n⟩:=h;exact⟨y,e,by rw[zk (show y≠D from λz=>b (z ▸ hD))];exact r,b,n⟩
 |.scr vs,x,h=>by
  erw[yg]at h ⊢;let⟨y,xs,e,r,l⟩:=h;refine⟨y,xs,e,?_,yj.skip hD vs xs l⟩;rcases r with⟨r,b,n⟩|r
  .refine .inl ⟨?_,b,n⟩;have ne:y≠D:=λz=>b (z ▸ hD);rcases r with r|⟨o,r⟩
   .exact .inl (by rw[zk ne];exact r)
   .exact .inr ⟨o,by rw[zk ne];exact r⟩
  .exact .inr r
theorem yj.skip{D:AI}{u:HO}(hD:B D):∀(v:List PV) (x:List V),yj K cl B φ H v x->yj K cl B φ (L2.upd H D u) v x
 |[],x,h=>by erw[yj]at h ⊢;exact h
 |v::vs,x,h=>by
  erw[yj]at h ⊢;let⟨y,ys,e,r,l⟩:=h;exact⟨y,ys,e,yg.skip hD v y r,yj.skip hD vs ys l⟩
end
theorem DK.skip{D:AI}{u:HO}(hD:B D):∀{kvs:List (PV×PV)} {ks:List (Key×V)},DK K cl B φ H kvs ks->DK K cl B φ (L2.upd H D u) kvs ks
 |[],ks,h=>h
 |(k,v)::r,ks,h=>by
  let⟨q,x,t,e,m,rv,l⟩:=h;exact⟨q,x,t,e,m,rv.skip hD,DK.skip hD l⟩
theorem DT.skip{D:AI}{u:HO}(hD:B D):∀{kvs:List (PV×PV)} {ks:List (List Key×V)},DT K cl B φ H kvs ks->DT K cl B φ (L2.upd H D u) kvs ks
 |[],ks,h=>h
 |(k,v)::r,ks,h=>by
  let⟨q,x,t,e,m,rv,l⟩:=h;exact⟨q,x,t,e,m,rv.skip hD,DT.skip hD l⟩
theorem FS.skip{D:AI}{u:HO}(hD:B D):∀{kvs:List (AQ×PV)} {ks:List (AQ×V)},FS K cl B φ H kvs ks->FS K cl B φ (L2.upd H D u) kvs ks
 |[],ks,h=>h
 |(k,v)::r,ks,h=>by
  let⟨x,t,e,rv,l⟩:=h;exact⟨x,t,e,rv.skip hD,FS.skip hD l⟩
theorem yH.skip{D:AI}{u:HO}(hD:B D)(rs:yH K cl B φ H st):yH K cl B φ (L2.upd H D u) st:=by
 refine⟨rs.len,rs.inj,λn y e=>?_,rs.liv,rs.nb,λy h=>?_⟩
 .let⟨o,q,r⟩:=rs.obj n y e;have ne:y≠D:=λz=>rs.nb y (A3 e) (z ▸ hD);refine⟨o,q,?_⟩
  cases o with
  |lst vs=>
   let⟨xs,hx,l⟩:=r;exact⟨xs,by rw[zk ne];exact hx,l.skip hD⟩
  |dct t kvs=>
   cases t with
   |false=>
    let⟨xs,hx,l⟩:=r;exact⟨xs,by rw[zk ne];exact hx,l.skip hD⟩
   |true=>
    let⟨xs,hx,l⟩:=r;exact⟨xs,by rw[zk ne];exact hx,l.skip hD⟩
  |ins c fs=>
   let⟨ks,⟨dx,hx⟩,l⟩:=r;exact⟨ks,⟨dx,by rw[zk ne];exact hx⟩,l.skip hD⟩
  |dead=>exact r.elim
 .by_cases z:y=D
  .subst z;exact⟨u,zt⟩
  .let⟨w,e⟩:=rs.dom y h;exact⟨w,by rw[zk z];exact e⟩
theorem yW.skip{D:AI}{u:HO}(hD:B D)(re:yW K cl B φ H ρ σ):yW K cl B φ (L2.upd H D u) ρ σ:=⟨re.len,λi v e=>by
 let⟨x,h,q⟩:=re.get i v e;exact⟨x,h,q.skip hD⟩⟩
noncomputable def Bx(B:AI->Prop)(D:AI):AI->Prop:=λy=>B y \/ y=D
theorem zil{D:AI}(hn:H D=AD):∀y,Bx B D y->B y \/ H y=none:=λy z=>z.elim .inl λq=>.inr (q ▸ hn)
theorem yg.more{D:AI}(hn:H D=AD){v:PV}{x:V}(h:yg K cl B φ H v x):yg K cl (Bx B D) φ H v x:=h.moreB (zil hn)
theorem yj.more{D:AI}(hn:H D=AD){v:List PV}{x:List V}(h:yj K cl B φ H v x):yj K cl (Bx B D) φ H v x:=h.moreB (zil hn)
mutual
theorem yg.less{D:AI}:∀(v:PV) (x:V),yg K cl (Bx B D) φ H v x->yg K cl B φ H v x
 |.non,x,h=>by erw[yg]at h ⊢;exact h
 |.bl b,x,h=>by erw[yg]at h ⊢;exact h
 |.int i,x,h=>by erw[yg]at h ⊢;exact h
 |.str y,x,h=>by erw[yg]at h ⊢;exact h
 |.tp k vs,x,h=>by
  erw[yg]at h ⊢;let⟨y,xs,e,r,l⟩:=h;refine⟨y,xs,e,?_,yj.less vs xs l⟩;rcases r with⟨r,b,n⟩|r
  .exact .inl ⟨r,λz=>b (.inl z),n⟩
  .exact .inr r
 |.lst vs,x,h=>by
  erw[yg]at h ⊢;let⟨y,xs,e,⟨r,b,n⟩,l⟩:=h;exact⟨y,xs,e,⟨r,λz=>b (.inl z),n⟩,yj.less vs xs l⟩
 |.loc n,x,h=>by erw[yg]at h ⊢;exact h
 |.exn c,x,h=>by
  erw[yg]at h ⊢;let⟨y,e,r,b,n⟩:=h;exact⟨y,e,r,λz=>b (.inl z),n⟩
 |.scr vs,x,h=>by
  erw[yg]at h ⊢;let⟨y,xs,e,r,l⟩:=h;refine⟨y,xs,e,?_,yj.less vs xs l⟩;rcases r with⟨r,b,n⟩|r
  .exact .inl ⟨r,λz=>b (.inl z),n⟩
  .exact .inr r
theorem yj.less{D:AI}:∀(v:List PV) (x:List V),yj K cl (Bx B D) φ H v x->yj K cl B φ H v x
 |[],x,h=>by erw[yj]at h ⊢;exact h
 |v::vs,x,h=>by
  erw[yj]at h ⊢;let⟨y,ys,e,r,l⟩:=h;exact⟨y,ys,e,yg.less v y r,yj.less vs ys l⟩
end
theorem DK.more{D:AI}(hn:H D=AD):∀{kvs:List (PV×PV)} {ks:List (Key×V)},DK K cl B φ H kvs ks->DK K cl (Bx B D) φ H kvs ks
 |[],ks,h=>h
 |(k,v)::r,ks,h=>by
  let⟨q,x,t,e,m,rv,l⟩:=h;exact⟨q,x,t,e,m,rv.more hn,DK.more hn l⟩
theorem DT.more{D:AI}(hn:H D=AD):∀{kvs:List (PV×PV)} {ks:List (List Key×V)},DT K cl B φ H kvs ks->DT K cl (Bx B D) φ H kvs ks
 |[],ks,h=>h
 |(k,v)::r,ks,h=>by
  let⟨q,x,t,e,m,rv,l⟩:=h;exact⟨q,x,t,e,m,rv.more hn,DT.more hn l⟩
theorem FS.more{D:AI}(hn:H D=AD):∀{kvs:List (AQ×PV)} {ks:List (AQ×V)},FS K cl B φ H kvs ks->FS K cl (Bx B D) φ H kvs ks
 |[],ks,h=>h
 |(k,v)::r,ks,h=>by
  let⟨x,t,e,rv,l⟩:=h;exact⟨x,t,e,rv.more hn,FS.more hn l⟩
theorem DK.less{D:AI}:∀{kvs:List (PV×PV)} {ks:List (Key×V)},DK K cl (Bx B D) φ H kvs ks->DK K cl B φ H kvs ks
 |[],ks,h=>h
 |(k,v)::r,ks,h=>by
  let⟨q,x,t,e,m,rv,l⟩:=h;exact⟨q,x,t,e,m,rv.less,DK.less l⟩
theorem DT.less{D:AI}:∀{kvs:List (PV×PV)} {ks:List (List Key×V)},DT K cl (Bx B D) φ H kvs ks->DT K cl B φ H kvs ks
 |[],ks,h=>h
 |(k,v)::r,ks,h=>by
  let⟨q,x,t,e,m,rv,l⟩:=h;exact⟨q,x,t,e,m,rv.less,DT.less l⟩
theorem FS.less{D:AI}:∀{kvs:List (AQ×PV)} {ks:List (AQ×V)},FS K cl (Bx B D) φ H kvs ks->FS K cl B φ H kvs ks
 |[],ks,h=>h
 |(k,v)::r,ks,h=>by
  let⟨x,t,e,rv,l⟩:=h;exact⟨x,t,e,rv.less,FS.less l⟩
theorem yH.less{D:AI}(rs:yH K cl (Bx B D) φ H st):yH K cl B φ H st:=by
 refine⟨rs.len,rs.inj,λn y e=>?_,rs.liv,λy h z=>rs.nb y h (.inl z),λy h=>rs.dom y (.inl h)⟩;let⟨o,q,r⟩:=rs.obj n y e;refine⟨o,q,?_⟩
 cases o with
 |lst vs=>let⟨xs,hx,l⟩:=r;exact⟨xs,hx,l.less⟩
 |dct t kvs=>cases t<;>(let⟨xs,hx,l⟩:=r;exact⟨xs,hx,l.less⟩)
 |ins c fs=>let⟨ks,hx,l⟩:=r;exact⟨ks,hx,l.less⟩
 |dead=>exact r.elim
theorem yH.more{D:AI}{u:HO}(hn:H D=AD)(rs:yH K cl B φ H st):yH K cl (Bx B D) φ (L2.upd H D u) st:=by
 have nD:AA D∉φ:=λz=>by
  let⟨w,e⟩:=rs.there z;rw[hn]at e;cases e
 have s:Step φ H φ (L2.upd H D u):=.upd hn;have rs':=rs.upd (o:=u) hn;refine⟨rs.len,rs.inj,λn y e=>?_,rs.liv,λy h z=>z.elim (rs.nb y h) λq=>nD (q ▸ h),λy h=>?_⟩
 .let⟨o,q,r⟩:=rs.obj n y e;have ne:y≠D:=λz=>nD (z ▸ A3 e);have hD:Bx B D D:=.inr rfl;refine⟨o,q,?_⟩
  cases o with
  |lst vs=>let⟨xs,hx,l⟩:=r;exact⟨xs,by rw[zk ne];exact hx,(l.more hn).skip hD⟩
  |dct t kvs=>
   cases t with
   |false=>let⟨xs,hx,l⟩:=r;exact⟨xs,by rw[zk ne];exact hx,(l.more hn).skip hD⟩
   |true=>let⟨xs,hx,l⟩:=r;exact⟨xs,by rw[zk ne];exact hx,(l.more hn).skip hD⟩
  |ins c fs=>let⟨ks,⟨dx,hx⟩,l⟩:=r;exact⟨ks,⟨dx,by rw[zk ne];exact hx⟩,(l.more hn).skip hD⟩
  |dead=>exact r.elim
 .rcases h with h|h
  .exact rs'.dom y h
  .subst h;exact⟨u,zt⟩
theorem yW.more{D:AI}{u:HO}(hn:H D=AD)(re:yW K cl B φ H ρ σ):yW K cl (Bx B D) φ (L2.upd H D u) ρ σ:=⟨re.len,λi v e=>by
 let⟨x,h,q⟩:=re.get i v e;exact⟨x,h,(q.more hn).skip (.inr rfl)⟩⟩
noncomputable def yaJ:Tg->List (Option Nat)->Bool
 |.n i,sl=>decide (sl[i]?=AA AD)
 |.t l,sl=>l.all λi=>decide (sl[i]?=AA AD)
theorem zfV:∀(l:List Nat) (vs:List PV) (ρ:IC.Env) (j:Nat),j∉l->((l.zip vs).foldl (λρ p=>ρ.set p.1 (AA p.2)) ρ)[j]?=ρ[j]?
 |[],vs,ρ,j,h=>by simp
 |i::is,[],ρ,j,h=>by simp
 |i::is,v::vs,ρ,j,h=>by
  erw[ER,DE];rw[zfV is vs _ j λz=>h (AR _ z),AM]
  rintro rfl
  exact h An
theorem zfW:∀(l:List Nat) (vs:List PV) (ρ:IC.Env),((l.zip vs).foldl (λρ p=>ρ.set p.1 (AA p.2)) ρ).length=ρ.length
 |[],vs,ρ=>by simp
 |i::is,[],ρ=>by simp
 |i::is,v::vs,ρ=>by
  erw[ER,DE];rw[zfW is vs,B4]
theorem yW.untgt{sl:List (Option Nat)}{ρ0 ρ1:IC.Env}{v:PV}(hf:yaJ ct sl=AC)(h0:∀(i:Nat),sl[i]?=AA AD->ρ0[i]?=AA AD)(hb:yR ct v ρ0=AA ρ1)(re:yW K cl B φ H ρ1 σ):yW K cl B φ H ρ0 σ:=by
 cases ct with
 |n i=>
  cases hb
  erw[yaJ,decide_eq_true_eq]at hf;refine⟨by rw[<-re.len,B4],λj w e=>re.get j w ?_⟩;rw[AM]
  .exact e
  .rintro rfl
   rw[h0 _ hf]at e;cases e
 |t l=>
  cases v with
  |tp k vs=>
   erw[yR]at hb;split at hb
   .cases hb
    erw[yaJ,Bk,decide_eq_true_eq]at hf;refine⟨by rw[<-re.len,zfW],λj w e=>re.get j w ?_⟩;rw[zfV]
    .exact e
    .intro z;rw[h0 _ (hf j z)]at e;cases e
   .cases hb
  |_=>cases hb
theorem yW.inn{sl:List (Option Nat)}(re:yW K cl B φ H ρ σ):yW K cl B φ H (sl.map λo=>o.bind λj=>(ρ[j]?).join) (L2.inn sl σ):=by
 unfold L2.inn;refine⟨by simp,λi v e=>?_⟩;rw[CA]at e ⊢
 cases q:sl[i]? with
 |none=>rw[q]at e;cases e
 |some o=>
  rw[q]at e
  cases o with
  |none=>cases e
  |some j=>
   erw[DH,BW,Option.some.injEq]at e ⊢
   cases q2:ρ[j]? with
   |none=>rw[q2]at e;cases e
   |some w=>
    rw[q2]at e;erw[G7]at e;subst e;let⟨x,hx,rv⟩:=re.get j v q2;exact⟨x,by rw[hx];rfl,rv⟩
theorem ycs:1000000<sizeLine:=by rw[CY];decide
theorem znj{α:Type}{o:Option Bool}{k:Bool->R α}{z:α}{s:SO}(h:onO o k=.ok z s):∃b,o=AA b/\k b=.ok z s:=by
 cases o with
 |none=>cases h
 |some b=>exact⟨b,rfl,h⟩
theorem za6{α β:Type}{r:R α}{k:α->SO->R β}{z:β}{s:SO}(h:r.bind k=.ok z s):∃a s1,r=.ok a s1/\k a s1=.ok z s:=by
 cases r with
 |ok a s1=>exact⟨a,s1,rfl,h⟩
 |exc c s=>cases h
 |bad=>cases h
theorem zhf{sl:List (Option Nat)}(hf:yaJ ct sl=AC){H:Hp}{Q:VK}(h:tE S X (.comp sl ct ci cc ce) σ H Q):ydn sl (tI S X ci) (tG0 S X.K ct) (tT0 S X.K cc) (tE0 S X.K ce) σ H Q:=by
  let⟨B,φ,st,ρ,rs,re,h⟩:=h;erw[ev]at h;refine⟨B,φ,st,ρ,rs,re,(Run.bind h).mono λJ H1 kq=>?_⟩;let⟨xs,st1,φ1,s1,rs1,dr,h1⟩:=kq;refine λD hD=>?_
  generalize hone:(λ(x:PV) (st2:SO)=>match yR ct x (sl.map λo=>o.bind λj=>(ρ[j]?).join)with
   |none=>(R.bad:R (Option PV))
   |some ρ1=>(ev S.call ρ1 st2 cc).bind λb st3=>onO (yaT st3 b) λk=>cond k ((ev S.call ρ1 st3 ce).bind λy st4=>.ok (AA y) st4) (.ok AD st3))=one at h1
  cases e:ya3 one xs st1 with
  |exc k s=>rw[e]at h1;exact h1.elim
  |bad=>rw[e]at h1;exact h1.elim
  |ok zs st5=>
   rw[e]at h1;erw[ycf]at h1;split at h1
   case isFalse=>exact h1.elim
   rename_i hz;have nB:¬B D:=rs1.nB hD;have nD:AA D∉φ1:=λz=>by
    let⟨w,e⟩:=rs1.there z;rw[hD]at e;cases e
   refine⟨λi m σc ys H2=>∃φ2 st2 vs rest,i+m=xs.length/\Step φ1 H1 φ2 H2/\H2 D=AA (.lst ys)/\AA D∉φ2/\yH X.K S.cl (Bx B D) φ2 H2 st2/\yW X.K S.cl (Bx B D) φ2 H2 (sl.map λo=>o.bind λj=>(ρ[j]?).join) σc /\
     yj X.K S.cl (Bx B D) φ2 H2 vs ys/\ya3 one (xs.drop i) st2=.ok rest st5/\vs++rest=zs,
    ⟨xs.length,φ1,st1,[],zs,by lia,.upd hD,zt,nD,rs1.more hD,(yW.inn (re.step s1)).more hD,by erw[yj],by simpa using e,rfl⟩,?_⟩
   rintro i m σc ys H2 ⟨φ2,st2,vs,rest,hm,s2,hD2,nD2,rs2,re2,l2,ec,ez⟩
   refine⟨hD2,?_⟩
   by_cases hi:i<xs.length
   .have hl2:=l2.length;have hml:=ycs;have hzl:=congrArg C9 ez;rw[Af]at hzl;refine .inr ⟨dr.go i φ2 H2 s2 hi,by lia,λσ' ys' H'=>∃φ2 st2 vs rest,Step φ1 H1 φ2 H'/\H' D=AA (.lst ys')/\AA D∉φ2/\yH X.K S.cl (Bx B D) φ2 H' st2/\yW X.K S.cl (Bx B D) φ2 H' (sl.map λo=>o.bind λj=>(ρ[j]?).join) σ' /\
     yj X.K S.cl (Bx B D) φ2 H' vs ys'/\ya3 one (xs.drop (i+1)) st2=.ok rest st5/\vs++rest=zs,λσ' ys' H' ⟨φ2,st2,vs,rest,q⟩=>⟨m-1,by lia,φ2,st2,vs,rest,by lia,q⟩,λx H3 hy=>?_⟩
    let⟨v,hv,rv,kk⟩:=dr.yld i φ2 H2 st2 x H3 (Bx B D) (λy z=>z.elim .inl λq=>.inr (q ▸ hD)) s2 rs2 hi hy;have s3:Step φ2 H2 φ2 H3:=⟨λb o _ e=>kk b o e,AS _,λ_ _ _ e=>e,λ_ h=>.inl h⟩;have rs3:yH X.K S.cl (Bx B D) φ2 H3 st2:=rs2.same kk;have ed:xs.drop i=v::xs.drop (i+1):=by
     rw[EY hi];rw[DC hi]at hv;rw[AW hv]
    rw[ed,ya3]at ec;let⟨o,st3,e1,ec⟩:=za6 ec;let⟨rest',st4,e2,ec⟩:=za6 ec;rw[<-hone]at e1;dsimp only at e1
    cases eb:yR ct v (sl.map λo=>o.bind λj=>(ρ[j]?).join)with
    |none=>rw[eb]at e1;cases e1
    |some ρ1=>
     rw[eb]at e1;dsimp only at e1;let⟨bv,st6,e3,e1⟩:=za6 e1;let⟨k,e4,e1⟩:=znj e1;have er:st4=st5/\yb7 o rest'=rest:=by
      injection ec with q1 q2;exact⟨q2,q1⟩
     let⟨rfl,rfl⟩:=er;refine⟨Bx B D,φ2,st2,_,v,ρ1,rs3,re2.step s3,rv,eb,λσ4 re4=>⟨Bx B D,φ2,st2,ρ1,rs3,re4,?_⟩⟩;have et:ybe (ev S.call ρ1 st2 cc)=.ok k st6:=by
      rw[e3];erw[ybe,R.bind,e4,onO]
     rw[et]
     rintro k' H5 φ5 s5 rs5 rfl
     have nD5:AA D∉φ5:=λz=>by
      rcases s5.new D z with q|q
      .exact nD2 q
      .rw[kk D _ hD2]at q;cases q
     have hD5:H5 D=AA (.lst ys):=s5.keep D _ nD2 (kk D _ hD2);have s25:Step φ1 H1 φ5 H5:=s2.trans (s3.trans s5);have l5:=(l2.step s3).step s5;have re5:yW X.K S.cl (Bx B D) φ5 H5 ρ1 σ4:=re4.step s5;have h0:∀(i:Nat),sl[i]?=AA AD->(sl.map λo=>o.bind λj=>(ρ[j]?).join)[i]?=AA none:=λi q=>by
      rw[CA,q];rfl
     cases k with
     |false=>
      erw[cond_false]at e1
      cases e1
      exact⟨φ5,_,vs,rest',s25,hD5,nD5,rs5,yW.untgt hf h0 eb re5,l5,e2,ez⟩
     |true=>
      erw[cond_true]at e1;let⟨y,st7,e5,e1⟩:=za6 e1
      cases e1
      refine⟨Bx B D,φ5,st6,ρ1,rs5,re5,?_⟩;rw[e5];intro y' H6 φ6 s6 rs6 ry;have nD6:AA D∉φ6:=λz=>by
       rcases s6.new D z with q|q
       .exact nD5 q
       .rw[hD5]at q;cases q
      have hD6:H6 D=AA (.lst ys):=s6.keep D _ nD5 hD5;have hBD:Bx B D D:=.inr rfl;refine⟨hD6,φ6,_,vs++[y],rest',?_,zt,nD6,rs6.skip hBD,(yW.untgt hf h0 eb (re5.step s6)).skip hBD,((l5.step s6).append (by erw[yj];exact⟨y',[],rfl,ry,rfl⟩)).skip hBD,e2,?_⟩
      .have s16:=s25.trans s6;exact⟨λb o n q=>by rw[zk (zn q hD)];exact s16.keep b o n q,s16.len,s16.pre,s16.new⟩
      .simpa [yb7] using ez
   .have ei:i=xs.length:=by lia
    subst ei;rw[G6,ya3]at ec
    cases ec
    refine .inl ⟨dr.stop φ2 H2 s2,h1 (.ref D) H2 φ2 s2 rs2.less ?_⟩;erw[yg];exact⟨D,ys,rfl,⟨hD2,nB,nD2⟩,by rw[<-ez,Aw];exact l2.less⟩
theorem zlD{sc:Bl}{NC:List AQ}{sl:List (Option Nat)}{ifs:List AT}(hc:X.calm=AC)(O:yau X sc NC sl)(hf:yaJ ct sl=AC)(hi:PI X tg iter (tI S X ci))(hg:∀j,PG (cxC X sc NC j) tg (tG0 S X.K ct))
  (ht:∀j,PTs (cxC X sc NC j) ifs (tT0 S X.K cc)) (he:∀j,PE (cxC X sc NC j) elt (tE0 S X.K ce)) (hs:∀x,foldedSetIterable iter X.env x=pure x:=by intro _;rfl):
  PE X (.ListComp elt [⟨tg,iter,ifs,0⟩] sc pos) (tE S X (.comp sl ct ci cc ce)):=
 (zmD hc O hi hg ht he hs).imp λσ H Q h=>zhf hf h
end
end L2
namespace IC
open PySem
def RLe{α:Type}(r q:R α):Prop:=r=.bad \/ r=q
def FLe(f g:Fl):Prop:=f=.bad \/ f=g
abbrev Cl:=Nat->List PV->SO->R PV
def CLe(c d:Cl):Prop:=∀f a s,RLe (c f a s) (d f a s)
theorem RLe.rfl{α:Type}{r:R α}:RLe r r:=.inr (DY _)
theorem FLe.rfl{f:Fl}:FLe f f:=.inr (DY _)
theorem RLe.bind{α β:Type}{r q:R α}{k l:α->SO->R β}(h:RLe r q)(hk:∀a s,RLe (k a s) (l a s)):RLe (r.bind k) (q.bind l):=by
 rcases h with h|h
 .subst h;exact .inl (DY _)
 .subst h
  cases r with
  |ok a s=>exact hk a s
  |exc c s=>exact .rfl
  |bad=>exact .rfl
theorem RLe.fl{α:Type}{r q:R α}{ρ:Env}{k l:α->SO->Fl}(h:RLe r q)(hk:∀a s,FLe (k a s) (l a s)):FLe (r.fl ρ k) (q.fl ρ l):=by
 rcases h with h|h
 .subst h;exact .inl (DY _)
 .subst h
  cases r with
  |ok a s=>exact hk a s
  |exc c s=>exact .rfl
  |bad=>exact .rfl
theorem RLe.comp{r q:R (List PV)}(h:RLe r q):RLe (ycf r) (ycf q):=by
 rcases h with h|h
 .subst h;exact .inl (DY _)
 .subst h;exact .rfl
theorem zg1{α:Type}{x:PV}{k l:Bool->R α}(h:∀b,RLe (k b) (l b)):RLe (onBl x k) (onBl x l):=by
 cases x with
 |bl b=>exact h b
 |_=>exact .rfl
theorem ze2{α:Type}{x:Option Bool}{k l:Bool->R α}(h:∀b,RLe (k b) (l b)):RLe (onO x k) (onO x l):=by
 cases x with
 |some b=>exact h b
 |none=>exact .rfl
theorem zkH{x:Option Bool}{k l:Bool->Fl}(h:∀b,FLe (k b) (l b)):FLe (onF x k) (onF x l):=by
 cases x with
 |some b=>exact h b
 |none=>exact .rfl
theorem znf{α:Type}{x:Option (Option Int)}{k l:Option Int->R α}(h:∀b,RLe (k b) (l b)):RLe (onP x k) (onP x l):=by
 cases x with
 |some b=>exact h b
 |none=>exact .rfl
theorem zc8{α:Type}{b:Bool}{r q r' q':R α}(h:RLe r q)(h':RLe r' q'):RLe (cond b r r') (cond b q q'):=by
 cases b
 .exact h'
 .exact h
theorem zga{b:Bool}{r q r' q':Fl}(h:FLe r q)(h':FLe r' q'):FLe (cond b r r') (cond b q q'):=by
 cases b
 .exact h'
 .exact h
theorem zcA{f g:PV->SO->R (Option PV)}(h:∀x s,RLe (f x s) (g x s)):∀xs s,RLe (ya3 f xs s) (ya3 g xs s)
 |[],s=>.rfl
 |x::xs,s=>(h x s).bind λo s1=>(zcA h xs s1).bind λys s2=>.rfl
theorem zc7{f g:Fl}{k l:Env->SO->Fl}(h:FLe f g)(hk:∀ρ s,FLe (k ρ s) (l ρ s)):FLe (yaG f k) (yaG g l):=by
 rcases h with h|h
 .subst h;exact .inl (DY _)
 .subst h
  cases f with
  |nx ρ s=>exact hk ρ s
  |ct ρ s=>exact hk ρ s
  |_=>exact .rfl
theorem zer{t:Tg}{f g:Env->SO->Fl}(h:∀ρ s,FLe (f ρ s) (g ρ s)):∀xs ρ s,FLe (forL t f xs ρ s) (forL t g xs ρ s)
 |[],ρ,s=>.rfl
 |x::xs,ρ,s=>by
  unfold forL
  cases yR t x ρ with
  |none=>exact .rfl
  |some ρ1=>exact zc7 (h ρ1 s) λρ2 s2=>zer h xs ρ2 s2
theorem zff{t u:Env->SO->R PV}{f g:Env->SO->Fl}(ht:∀ρ s,RLe (t ρ s) (u ρ s))(h:∀ρ s,FLe (f ρ s) (g ρ s)):∀n ρ s,FLe (yaw t f n ρ s) (yaw u g n ρ s)
 |0,ρ,s=>.rfl
 |n+1,ρ,s=>by
  unfold yaw;exact(ht ρ s).fl λx s1=>zkH λb=>zga (zc7 (h ρ s1) λρ2 s2=>zff ht h n ρ2 s2) .rfl
mutual
theorem zj{c d:Cl}(h:CLe c d):∀(e:Ce) (ρ:Env) (s:SO),RLe (ev c ρ s e) (ev d ρ s e)
 |.cst v,ρ,s=>by exact .rfl
 |.var i,ρ,s=>by exact .rfl
 |.bin o a b,ρ,s=>by
  exact(zj h a ρ s).bind λx s1=>(zj h b ρ s1).bind λy s2=>.rfl
 |.neg a,ρ,s=>by
  exact(zj h a ρ s).bind λx s1=>.rfl
 |.not a,ρ,s=>by
  exact(zj h a ρ s).bind λx s1=>.rfl
 |.and a b,ρ,s=>by
  refine(zj h a ρ s).bind λx s1=>?_;exact zg1 λk=>zc8 (zj h b ρ s1) .rfl
 |.or a b,ρ,s=>by
  refine(zj h a ρ s).bind λx s1=>?_;exact zg1 λk=>zc8 .rfl (zj h b ρ s1)
 |.cmp o a b,ρ,s=>by
  exact(zj h a ρ s).bind λx s1=>(zj h b ρ s1).bind λy s2=>.rfl
 |.chain o p a b k,ρ,s=>by
  refine(zj h a ρ s).bind λx s1=>(zj h b ρ s1).bind λy s2=>?_;exact ze2 λq=>zc8 ((zj h k ρ s2).bind λz s3=>.rfl) .rfl
 |.ite k a b,ρ,s=>by
  exact(zj h k ρ s).bind λx s1=>ze2 λq=>zc8 (zj h a ρ s1) (zj h b ρ s1)
 |.tup es,ρ,s=>by
  exact(zaK h es ρ s).bind λx s1=>.rfl
 |.lst es,ρ,s=>by
  exact(zaK h es ρ s).bind λx s1=>.rfl
 |.newl es,ρ,s=>by
  exact(zaK h es ρ s).bind λx s1=>.rfl
 |.dict0 t,ρ,s=>by exact .rfl
 |.idx a i,ρ,s=>by
  exact(zj h a ρ s).bind λx s1=>(zj h i ρ s1).bind λy s2=>.rfl
 |.slc a l u,ρ,s=>by
  exact(zj h a ρ s).bind λx s1=>(zj h l ρ s1).bind λy s2=>znf λo=>(zj h u ρ s2).bind λz s3=>.rfl
 |.call f es,ρ,s=>by
  exact(zaK h es ρ s).bind λx s1=>h f x s1
 |.blt b es,ρ,s=>by
  exact(zaK h es ρ s).bind λx s1=>.rfl
 |.mth m o es,ρ,s=>by
  exact(zj h o ρ s).bind λx s1=>ze2 λ_=>(zaK h es ρ s1).bind λy s2=>.rfl
 |.isi a ts,ρ,s=>by
  exact(zj h a ρ s).bind λx s1=>.rfl
 |.comp sl tg it k e,ρ,s=>by
  refine(zh0 h it ρ s).bind λxs s1=>?_;have q:=λ(f g:PV->SO->R (Option PV)) (hfg:∀x s,RLe (f x s) (g x s))=>zcA hfg xs s1;refine RLe.comp (zcA (λx s2=>?_) xs s1)
  cases yR tg x _ with
  |none=>exact .rfl
  |some ρ1=>
   dsimp only;exact(zj h k ρ1 s2).bind λb s3=>ze2 λq=>zc8 ((zj h e ρ1 s3).bind λy s4=>.rfl) .rfl
 |.nope,ρ,s=>by exact .rfl
 |.frz a,ρ,s=>by
  exact(zj h a ρ s).bind λx s1=>.rfl
 |.rep a b,ρ,s=>by
  exact(zj h a ρ s).bind λx s1=>(zj h b ρ s1).bind λy s2=>.rfl
 |.dix D a,ρ,s=>by
  exact(zj h a ρ s).bind λx s1=>.rfl
 |.din a D,ρ,s=>by
  exact(zj h a ρ s).bind λx s1=>.rfl
 |.fld q a f,ρ,s=>by
  exact(zj h a ρ s).bind λx s1=>.rfl
 |.new q i es,ρ,s=>by
  refine(zaK h es ρ s).bind λx s1=>RLe.bind ?_ λv s2=>.rfl;rcases h i (.loc s1.length::x) (s1++[.ins q []])with e|e
  .rw[e];exact .inl (DY _)
  .rw[e];exact .rfl
 |.mcl q i m o es,ρ,s=>by
  exact(zj h o ρ s).bind λx s1=>ze2 λ_=>(zaK h es ρ s1).bind λy s2=>h i (x::y) s2
theorem zaK{c d:Cl}(h:CLe c d):∀(e:Ces) (ρ:Env) (s:SO),RLe (evs c ρ s e) (evs d ρ s e)
 |.nil,ρ,s=>by exact .rfl
 |.cons e es,ρ,s=>by
  exact(zj h e ρ s).bind λx s1=>(zaK h es ρ s1).bind λy s2=>.rfl
theorem zh0{c d:Cl}(h:CLe c d):∀(e:Cit) (ρ:Env) (s:SO),RLe (evi c ρ s e) (evi d ρ s e)
 |.seq e,ρ,s=>by
  exact(zj h e ρ s).bind λx s1=>.rfl
 |.range1 a,ρ,s=>by
  exact(zj h a ρ s).bind λx s1=>.rfl
 |.range2 a b,ρ,s=>by
  exact(zj h a ρ s).bind λx s1=>(zj h b ρ s1).bind λy s2=>.rfl
 |.rangeD a b,ρ,s=>by
  exact(zj h a ρ s).bind λx s1=>(zj h b ρ s1).bind λy s2=>.rfl
 |.enum e,ρ,s=>by
  exact(zj h e ρ s).bind λx s1=>.rfl
 |.zip a b,ρ,s=>by
  exact(zj h a ρ s).bind λx s1=>(zj h b ρ s1).bind λy s2=>.rfl
 |.revl e,ρ,s=>by
  exact(zj h e ρ s).bind λx s1=>.rfl
 |.revr e,ρ,s=>by
  exact(zj h e ρ s).bind λx s1=>.rfl
 |.chars e,ρ,s=>by
  exact(zj h e ρ s).bind λx s1=>.rfl
end
mutual
theorem zpY{c d:Cl}(h:CLe c d):∀(x:Cs) (ρ:Env) (s:SO),FLe (ex c ρ s x) (ex d ρ s x)
 |.expr e,ρ,s=>by
  exact(zj h e ρ s).fl λx s1=>.rfl
 |.asg t e,ρ,s=>by
  exact(zj h e ρ s).fl λx s1=>.rfl
 |.six o i e,ρ,s=>by
  exact(zj h e ρ s).fl λx s1=>(zj h o ρ s1).fl λy s2=>(zj h i ρ s2).fl λz s3=>.rfl
 |.dput o i e,ρ,s=>by
  exact(zj h e ρ s).fl λx s1=>(zj h o ρ s1).fl λy s2=>(zj h i ρ s2).fl λz s3=>.rfl
 |.aug i o e,ρ,s=>by
  first|unfold ev|unfold ex|unfold evs|unfold evi|unfold exs
  split
  .exact(zj h e ρ s).fl λx s1=>.rfl
  .exact .rfl
 |.ret e,ρ,s=>by
  exact(zj h e ρ s).fl λx s1=>.rfl
 |.ite k a b,ρ,s=>by
  exact(zj h k ρ s).fl λx s1=>zkH λq=>zga (zaX h a ρ s1) (zaX h b ρ s1)
 |.for t it b,ρ,s=>by
  exact(zh0 h it ρ s).fl λxs s1=>zer (λρ2 s2=>zaX h b ρ2 s2) xs ρ s1
 |.while k b,ρ,s=>by
  exact zff (λρ2 s2=>zj h k ρ2 s2) (λρ2 s2=>zaX h b ρ2 s2) _ ρ s
 |.nope,ρ,s=>by exact .rfl
 |.mkr i D n es,ρ,s=>by
  refine(zj h n ρ s).fl λx s1=>?_;split
  .exact((zaK h es _ s1).bind λvs s2=>h _ vs s2).fl λv s3=>.rfl
  .exact .rfl
 |.sfl q o f e,ρ,s=>by
  exact(zj h e ρ s).fl λx s1=>(zj h o ρ s1).fl λy s2=>.rfl
theorem zaX{c d:Cl}(h:CLe c d):∀(x:Css) (ρ:Env) (s:SO),FLe (exs c ρ s x) (exs d ρ s x)
 |.nil,ρ,s=>by exact .rfl
 |.cons x xs,ρ,s=>by
  first|unfold ev|unfold ex|unfold evs|unfold evi|unfold exs
  rcases zpY h x ρ s with e|e
  .rw[e];exact .inl (DY _)
  .rw[e]
   cases ex d ρ s x with
   |nx ρ1 s1=>exact zaX h xs ρ1 s1
   |_=>exact .rfl
end
theorem zeN(T:Nat->Option Fn):∀k,CLe (yd T k) (yd T (k+1))
 |0,f,a,s=>.inl (DY _)
 |k+1,f,a,s=>by
  have h:=zeN T k;rw[yd,yd]
  cases T f with
  |none=>exact .rfl
  |some fn=>
   dsimp only;split
   .split
    .split
     .rcases zaX h fn.body (a.map AA++AV (fn.ns-fn.np) AD) []with e|e
      .rw[e];exact .inl (DY _)
      .rw[e];exact .rfl
     .exact .rfl
    .rcases zaX h fn.body (a.map AA++AV (fn.ns-fn.np) AD) s with e|e
     .rw[e];exact .inl (DY _)
     .rw[e];exact .rfl
   .exact .rfl
theorem zas{T:Nat->Option Fn}{k:Nat}{f:Nat}{a:List PV}{s s':SO}{v:PV}(h:yd T k f a s=.ok v s'):∀j,yd T (k+j) f a s=.ok v s'
 |0=>h
 |j+1=>by
  have q:=zas h j;rcases zeN T (k+j) f a s with e|e
  .rw[q]at e;cases e
  .rw[Do]at e;rw[<-e];exact q
end IC
namespace L2
open PySem PySem.Spec PyProof.Rows IC
def spI(K:AE)(cl:Nat->AI)(call:Nat->List PV->SO->R PV)(f:Nat):Sp:=λvs H Q E=>∃B φ st args,yH K cl B φ H st/\yj K cl B φ H args vs/\match call f args st with
 |.ok v st'=>∀x H' φ',Step φ H φ' H'->yH K cl B φ' H' st'->yg K cl B φ' H' v x->Q x H'
 |.exc c st'=>∀H' φ',Step φ H φ' H'->yH K cl B φ' H' st'->E (.ref (cl c)) AD H'
 |.bad=>False
section
variable {S:Se}{X:Cx}{k:Nat}{f:AI}{fd:BG}{ps ks:List AQ}{sp:Sp}{dvs:List V}{ds:List AF}{x:AQ}{p pos:CW}{e:AT}{es:List AT}{t tk:TA}{CX:CXT}{σ:St}{H:Hp}
theorem zc6{pins:List (AI×CC)}{s:AJ}{Q:VK}{us:List AF}{vs:List V}{E:XK}(F:yaP X.prog X.w X.K X.mg X.base CX k f fd ps sp)(hr:yaz k X.A)(hb:Binds X.K fd ps ds)(hd:Vals dvs ds)
  (I:Inv X pins σ H s) (r:Vals vs us) (h:sp (vs++dvs) H Q E) (hx:∀e s',CX X.stack H s E e s'->X.xe e s'):A2 (model X.prog X.w) X.A (call (.ref f) us) (EP X pins σ Q) X.xe s:=by
 have r2:Vals (vs++dvs) (us++ds):=r.append hd;have hl:(us++ds).length=ps.length:=by rw[<-r2.length];exact F.len _ _ _ _ h
 refine Gz (EA (F.run X.A X.stack s H ⟨us,[]⟩ (us++ds) (vs++dvs) Q E hr I.env0 (hb s us I.kIn hl) r2 h) λr s' hq=>?_)
 cases r with
 |error e=>exact hx e s' hq
 |ok fl=>
  cases fl with
  |ret u=>exact I.after hq
  |next=>exact Bn hq
  |brk=>exact Bn hq
  |cont=>exact Bn hq
noncomputable def ycC(CX:CXT)(X:Cx)(sp:Sp)(dvs:List V)(t:TA):TE:=λσ H Q=>t σ H λvs H1=>∃E:XK,sp (vs++dvs) H1 Q E/\∀pins s e s',Inv X pins σ H1 s->CX X.stack H1 s E e s'->X.xe e s'
theorem zjg(F:yaP X.prog X.w X.K X.mg X.base CX k f fd ps sp)(hr:yaz k X.A)(hg:Gl X x)(hm:X.mg x=AA (.ref f))(hk:Ay X.K (.ref f)=AC)(hb:Binds X.K fd ps ds)(hd:Vals dvs ds)
  (ha:PA X (e::es) t) (hdb:(x==("__debug__":AQ))=false:=by decide) (he:starEach (e::es) X.env=(AB,eval e X.env)::starEach es X.env:=by rfl) (hpl:(backTo pos (starEach es X.env)).any (·.1)=false:=by rfl):
  PE X (.Call (.Name x p) (e::es) [] pos) (ycC CX X sp dvs t):=by
 intro pins s σ H Q I h;refine B2 (zdc I hg hm ?_ hdb);refine DI (h₀:=X.base) I.ok.mod.kin hk (thn (ha pos pins s σ H _ I h) λus s1 kq=>?_) he hpl;let⟨vs,H1,I1,r,E,q,hx⟩:=kq;refine ⟨I1.kIn,?_⟩;exact zc6 F hr hb hd I1 r q λe s' c=>hx pins s1 e s' I1 c
theorem ziK(F:yaP X.prog X.w X.K X.mg X.base CX k f fd ps sp)(hr:yaz k X.A)(hg:Gl X x)(hm:X.mg x=AA (.ref f))(hk:Ay X.K (.ref f)=AC)(hb:Binds X.K fd ps ds)(hd:Vals dvs ds)
  (hdb:(x==("__debug__":AQ))=false:=by decide):PE X (.Call (.Name x p) [] [] pos) (ycC CX X sp dvs ydC):=by
 intro pins s σ H Q I h;let⟨E,q,hx⟩:=h;refine B2 (zdc I hg hm ?_ hdb);exact Fe I.kIn hk (zc6 F hr hb hd I .nil q λe s' c=>hx pins s e s' I c)
variable {B:AI->Prop}{φ:Ph}{st:SO}{ces:Ces}{fi:Nat}
theorem za3{vs:List PV}{xs:List V}{Q:VK}(rs:yH X.K S.cl B φ H st)(l:yj X.K S.cl B φ H vs xs)(h:Run S X σ B φ H (RV S X B) (S.call fi vs st) Q):
  ∃E:XK,spI X.K S.cl S.call fi xs H Q E/\∀pins s e s',Inv X pins σ H s->CX1 X.prog X.w X.stack H s E e s'->X.xe e s':=by
 cases c:S.call fi vs st with
 |ok v st'=>
  rw[c]at h;refine⟨λ_ _ _=>False,⟨B,φ,st,vs,rs,l,by rw[c];exact h⟩,λpins s e s' _ z=>?_⟩;let⟨_,_,_,_,_,_,_,_,_,_,_,_,_,_,z⟩:=z;exact z.elim
 |exc k st'=>
  rw[c]at h;refine⟨λcls _ H'=>cls=.ref (S.cl k)/\∃φ',Step φ H φ' H'/\yH X.K S.cl B φ' H' st',⟨B,φ,st,vs,rs,l,by rw[c];exact λH' φ' s r=>⟨rfl,φ',s,r⟩⟩,λpins s e s' I z=>h e s' (.inl ⟨pins,H,s,φ,I,.rfl,z⟩)⟩
 |bad=>rw[c]at h;exact h.elim
theorem zmj(F:yaP X.prog X.w X.K X.mg X.base (CX1 X.prog X.w) k f fd ps (spI X.K S.cl S.call fi))(hr:yaz k X.A)(hg:Gl X x)(hm:X.mg x=AA (.ref f))(hk:Ay X.K (.ref f)=AC)(hb:Binds X.K fd ps [])
  (ha:PA X (e::es) (tAs S X ces)) (hdb:(x==("__debug__":AQ))=false:=by decide) (he:starEach (e::es) X.env=(AB,eval e X.env)::starEach es X.env:=by rfl) (hpl:(backTo pos (starEach es X.env)).any (·.1)=false:=by rfl):
  PE X (.Call (.Name x p) (e::es) [] pos) (tE S X (.call fi ces)):=
 (zjg F hr hg hm hk hb .nil ha hdb he hpl).imp λσ H Q ⟨B,φ,st,ρ,rs,re,h⟩=>by
  erw[ev]at h;refine tAs.bind rs re h λxs H1 vs st1 φ1 s1 rs1 re1 rv h1=>?_;rw[Aw];exact za3 rs1 rv h1
theorem zke(F:yaP X.prog X.w X.K X.mg X.base (CX1 X.prog X.w) k f fd ps (spI X.K S.cl S.call fi))(hr:yaz k X.A)(hg:Gl X x)(hm:X.mg x=AA (.ref f))(hk:Ay X.K (.ref f)=AC)(hb:Binds X.K fd ps [])
  (hdb:(x==("__debug__":AQ))=false:=by decide):PE X (.Call (.Name x p) [] [] pos) (tE S X (.call fi .nil)):=
 (ziK F hr hg hm hk hb .nil hdb).imp λσ H Q ⟨B,φ,st,ρ,rs,re,h⟩=>by
  erw[ev,evs,R.bind]at h;exact za3 rs (by erw[yj];rfl) h
end
section
variable {P:A9}{w:Al}{K:AE}{mg:AQ->Option AF}{base:BF}{cl:Nat->AI}{T:Nat->Option IC.Fn}{fi:Nat}{fn:IC.Fn}{x qual:AQ}{stm:Bz}{f:AI}{fd:BG}{N ps:List AQ}{k:Nat}
theorem CX1.mono{outer:List B0}{H:Hp}{s:AJ}{E E':XK}{e:AF}{s':AJ}(h:CX1 P w outer H s E e s')(n:∀cls H',E cls AD H'->E' cls AD H'):CX1 P w outer H s E' e s':=by
 let⟨a,cls,a0,H',Bh,r1,r2,r3,r4,r5,r6,r7,r8,r9,r10⟩:=h;exact⟨a,cls,a0,H',Bh,r1,r2,r3,r4,r5,r6,r7,r8,r9,n _ _ r10⟩
theorem yW.start{B:AI->Prop}{φ:Ph}{H:Hp}{args:List PV}{vs:List V}(l:yj K cl B φ H args vs)(n:Nat)(hn:N.length-vs.length=n):yW K cl B φ H (args.map AA++AV n AD) (L2.start N vs):=by
 have hl:=l.length;unfold L2.start;refine⟨by simp[hl,hn],λi v e=>?_⟩
 by_cases hi:i<args.length
 .rw[Aj (by simpa using hi),CA]at e
  cases q:args[i]? with
  |none=>rw[q]at e;cases e
  |some v'=>
   rw[q]at e
   cases e
   let⟨y,hy,rv⟩:=l.get i q;exact⟨y,by rw[Aj (by simp;lia),CA,hy];rfl,rv⟩
 .rw[As (by simp;lia),El]at e;split at e<;>cases e
theorem leave{N:List AQ}{scope:Bl}{cd:AF}{A:Ax}{outer:List B0}{s₀:AJ}{H₀:Hp}{E:XK}{call:Nat->List PV->SO->R PV}{σ:St}{B:AI->Prop}{φ:Ph}{H:Hp}{c:Nat}{st':SO}{e:AF}{s':AJ}
  (h:ExcAt ⟨cl,call,AC⟩ (ya4 (CX1 P w) P w K mg base N qual scope f cd A outer s₀ H₀ E) σ B φ H c st' e s') (n:∀φ' H',Step φ H φ' H'->yH K cl B φ' H' st'->E (.ref (cl c)) AD H'):
  (ya4 (CX1 P w) P w K mg base N qual scope f cd A outer s₀ H₀ E).xe e s':=by
 rcases h with⟨pins,H1,s,φ1,I,s1,q⟩|⟨_,pins,H1,s,φ1,h',e0,vs,I,s1,rs,mk,rfl,rfl⟩|⟨_,pins,H1,s,I,q⟩
 .exact yen pins σ H1 s e s' I (q.mono λcls H' ⟨e1,φ',s2,r⟩=>by subst e1;exact n φ' H' (s1.trans s2) r)
 .exact zim I mk (n φ1 H1 s1 rs)
 .exact yeK I (q.mono λcls H' ⟨e1,φ',s2,r⟩=>by subst e1;exact n φ' H' s2 r)
theorem zk6(hT:T fi=AA fn):∀(args:List PV) (st:SO),yd T (k+1) fi args st ≠ .bad->args.length=fn.np:=λargs st hne=>by
 apply Classical.byContradiction;intro c;apply hne;rw[yd,hT];exact if_neg c
theorem zoo(hT:T fi=AA fn)(hnp:ps.length=fn.np){vs:List V}{H:Hp}{Q:VK}{E:XK}(h:spI K cl (yd T (k+1)) fi vs H Q E):vs.length=ps.length:=by
 let⟨B,φ,st,args,rs,l,h⟩:=h;rw[hnp,<-l.length];refine zk6 (k:=k) hT args st λz=>?_;rw[z]at h;exact h
theorem zlx(hT:T fi=AA fn)(hns:N.length=fn.ns){scope:Bl}{cdv:AF}{A:Ax}{outer:List B0}{s:AJ}{vs:List V}{H:Hp}{Q:VK}{E:XK}(h:spI K cl (yd T (k+1)) fi vs H Q E):
  tSs ⟨cl,yd T k,AC⟩ (ya4 (CX1 P w) P w K mg base N qual scope f cdv A outer s H E) fn.body {nx:=λ_ H'=>Q .non H',rt:=Q} (L2.start N vs) H:=by
 let⟨B,φ,st,args,rs,l,h⟩:=h;have hl:args.length=fn.np:=zk6 (k:=k) hT args st λz=>by rw[z]at h;exact h
 have hlen:=l.length;rw[yd,hT]at h;dsimp only at h;rw[if_pos hl]at h
 by_cases hp:fn.pure=AC
 .rw[if_pos hp]at h
  by_cases hz:nLs args=AC
  .rw[if_pos hz]at h;have rs0:yH K cl (λa=>B a \/ AA a∈φ) [] H []:=⟨rfl,λm n a e=>by simp at e,λn a e=>by simp at e,λn o e=>by simp at e,λa z=>by simp at z,λa z=>z.elim (rs.dom a) rs.there⟩;have back:∀{φ':Ph} {H':Hp},Step [] H φ' H'->Step φ H φ H'/\yH K cl B φ H' st:=λ{φ' H'} s'=>
    have kk:∀b o,H b=AA o->H' b=AA o:=λb o e=>s'.keep b o (by simp) e
    ⟨⟨λb o _ e=>kk b o e,AS _,λ_ _ _ e=>e,λ_ h=>.inl h⟩,rs.same kk⟩
   refine⟨_,[],[],_,rs0,yW.start (yj.inn rs.nb args vs hz l) (fn.ns-fn.np) (by lia),?_⟩;show yaL _ _ _ _ _ (exs (yd T k) (args.map AA++AV (fn.ns-fn.np) AD) [] fn.body) _
   cases e:exs (yd T k) (args.map AA++AV (fn.ns-fn.np) AD) [] fn.body with
   |nx ρ' st'=>
    rw[e]at h;intro σ' H' φ' s' rs' re';let⟨s2,r2⟩:=back s';exact h .non H' φ s2 r2 (by erw[yg])
   |rt v st'=>
    rw[e]at h;dsimp only at h
    by_cases hv:nL v=AC
    .rw[if_pos hv]at h;intro y H' φ' s' rs' rv;let⟨s2,r2⟩:=back s';exact h y H' φ s2 r2 (yg.out v y hv rv)
    .rw[if_neg hv]at h;exact h.elim
   |exc c ρ' st'=>
    rw[e]at h;intro σ' φ1 H1 ev s' s1 _ ex;refine leave ex λφ2 H2 s2 _=>?_;let⟨s3,r3⟩:=back (s1.trans s2);exact h H2 φ s3 r3
   |bk ρ' st'=>rw[e]at h;exact h.elim
   |ct ρ' st'=>rw[e]at h;exact h.elim
   |bad=>rw[e]at h;exact h.elim
  .rw[if_neg hz]at h;exact h.elim
 .rw[if_neg hp]at h;refine⟨B,φ,st,_,rs,yW.start l (fn.ns-fn.np) (by lia),?_⟩;show yaL _ _ _ _ _ (exs (yd T k) (args.map AA++AV (fn.ns-fn.np) AD) st fn.body) _
  cases e:exs (yd T k) (args.map AA++AV (fn.ns-fn.np) AD) st fn.body with
  |nx ρ' st'=>
   rw[e]at h;intro σ' H' φ' s' rs' re';exact h .non H' φ' s' rs' (by erw[yg])
  |rt v st'=>
   rw[e]at h;intro y H' φ' s' rs' rv;exact h y H' φ' s' rs' rv
  |exc c ρ' st'=>
   rw[e]at h;intro σ' φ1 H1 ev s' s1 _ ex;exact leave ex λφ2 H2 s2 r2=>h H2 φ2 (s1.trans s2) r2
  |bk ρ' st'=>rw[e]at h;exact h.elim
  |ct ρ' st'=>rw[e]at h;exact h.elim
  |bad=>rw[e]at h;exact h.elim
end
noncomputable def tyN:Ty->String
 |.int=>"int" | .bool=>"bool" | .str=>"str" | .tuple=>"tuple" | .list=>"list" | _=>""
structure yeL(K:AE)(t:Ty):Prop where
 n:B3 K (.type "NoneType") (.type (tyN t))=AA (ybA .non t)
 b:B3 K (.type "bool") (.type (tyN t))=AA (ybA (.bl AC) t)
 i:B3 K (.type "int") (.type (tyN t))=AA (ybA (.int 0) t)
 s:B3 K (.type "str") (.type (tyN t))=AA (ybA (.str G0) t)
 p:B3 K (.type "tuple") (.type (tyN t))=AA (ybA (.tp AC []) t)
 l:B3 K (.type "list") (.type (tyN t))=AA (ybA (.lst []) t)
section
variable {S:Se}{X:Cx}{σ:St}{B:AI->Prop}{φ:Ph}{H:Hp}{st:SO}{p pos p2 px:CW}{a b c d o:AT}{ca cb cc:Ce}{t:Ty}
def yg2(S:Se)(X:Cx)(t:Ty):List V->Hp->VK->Prop:=λxs H Q=>∃B φ st v x z,xs=[x,.ty (tyN t)]/\yH X.K S.cl B φ H st/\yg X.K S.cl B φ H v x/\yaU v [t]=AA z/\ydk t=AC /\
 ∀z' H' φ',Step φ H φ' H'->yH X.K S.cl B φ' H' st->yg X.K S.cl B φ' H' z z'->Q z' H'
theorem znF(Z:yeL X.K t):yat X (.builtin "isinstance") (yg2 S X t):=by
 rintro pins s σ H xs us Q I r ⟨B,φ,st,v,x,z,rfl,rs,rv,e,hb,q⟩
 let⟨u,c',rfl,ru,rc⟩:=vals2 r
 cases (show c'=Ew (tyN t)from rc)
 have fin:∀(k:Bool) (tk:Nat),z=.bl k->EP X pins σ Q (.bool k) {s with toks:=tk}:=λk tk ez=>⟨.bl k,H,I.tok tk,rfl,q _ H φ .rfl rs (by subst ez;erw[yg])⟩
 cases v with
 |non=>
  erw[yg]at rv;subst rv
  cases (show u=CO from ru)
  erw[yaU,hb,if_true]at e;exact Cg PySem.W.kitx_none I.kIn Cc Z.n (λz=>nomatch z) λtk=>fin _ tk (by cases e;cases t<;>rfl)
 |bl k=>
  erw[yg]at rv;subst rv
  cases (show u=ED k from ru)
  erw[yaU,hb,if_true]at e;exact Cg PySem.W.kitx_bool I.kIn Cc Z.b (λz=>nomatch z) λtk=>fin _ tk (by cases e;cases t<;>rfl)
 |int k=>
  erw[yg]at rv;subst rv;let⟨tk,rfl⟩:=ru;erw[yaU,hb,if_true]at e;exact Cg PySem.W.kitx_int I.kIn Cc Z.i (λz=>nomatch z) λtk=>fin _ tk (by cases e;cases t<;>rfl)
 |str k=>
  erw[yg]at rv;subst rv;let⟨tk,rfl⟩:=ru;erw[yaU,hb,if_true]at e;exact Cg PySem.W.kitx_str I.kIn Cc Z.s (λz=>nomatch z) λtk=>fin _ tk (by cases e;cases t<;>rfl)
 |tp k vs=>
  erw[yg]at rv;let⟨y,ys,rfl,rt,l⟩:=rv
  cases (show u=Ai y from ru)
  erw[yaU,hb,if_true]at e;let⟨its,_,⟨o,g,c,_,_⟩,_⟩:=I.tuple rt.sq;exact Cg PySem.W.kitx_tuple I.kIn ⟨o,g,c⟩ Z.p (λz=>nomatch z) λtk=>fin _ tk (by cases e;cases t<;>rfl)
 |lst vs=>
  erw[yg]at rv;let⟨y,ys,rfl,rt,l⟩:=rv
  cases (show u=Ai y from ru)
  erw[yaU,hb,if_true]at e;let⟨_,_,n,_,h1⟩:=(show yai X.prog X.w H s.heap y (.lst ys)from I.hok y _ rt.1);exact Cg PySem.W.kitx_list I.kIn ⟨_,h1,rfl⟩ Z.l (λz=>nomatch z) λtk=>fin _ tk (by cases e;cases t<;>rfl)
 |loc n=>cases e
 |scr n=>cases e
 |exn n=>erw[yaU,Be,List.all_nil,hb,Dp,if_true]at e;cases e
theorem znZ{T:AQ}(Z:yeL X.K t)(ht:ydk t=AC)(hg:Gl X "isinstance")(hm:X.mg "isinstance"=AD)(hgT:Gl X T)(hmT:X.mg T=AD)(hT:bootBuiltins T=AA (.type (tyN t)))(ha:PE X a (tE S X ca))(hnT:T ≠ "__name__":=by decide)(hdT:(T==("__debug__":AQ))=false:=by decide)
  (he:starEach [a,.Name T p2] X.env=(AB,eval a X.env)::starEach [.Name T p2] X.env:=by rfl) (hpl:(backTo pos (starEach [.Name T p2] X.env)).any (·.1)=false:=by rfl):
  PE X (.Call (.Name "isinstance" p) [a,.Name T p2] [] pos) (tE S X (.isi ca [t])):=
 (zfP (znF Z) hg hm Gp (zbC ha (zbC (zmA (v:=.ty (tyN t)) hgT hmT hT rfl hnT hdT) ybr) he) (by decide) (by decide) he hpl).imp λσ H Q ⟨B,φ,st,ρ,rs,re,h⟩=>by
  erw[ev]at h;refine tE.bind rs re h λx H1 v st1 φ1 s1 rs1 re1 rv h1=>?_;let⟨z,e,q⟩:=zae h1 rs1;exact⟨B,φ1,st1,v,x,z,rfl,rs1,rv,e,ht,q⟩
theorem zjd{st4:SO}{x y v:PV}(h:ybE st x y v=AA st4):∃n xs k j,x=.loc n/\st[n]?=AA (.lst xs)/\y=.int k/\ixI xs.length k=AA j/\st4=st.set n (.lst (xs.set j v)):=by
 cases x with
 |loc n=>
  erw[ybE]at h
  cases q:st[n]? with
  |none=>rw[q]at h;cases h
  |some o=>
   rw[q]at h
   cases o with
   |lst xs=>
    cases y with
    |int k=>
     dsimp only at h
     cases q2:ixI xs.length k with
     |none=>rw[q2]at h;cases h
     |some j=>rw[q2]at h;exact⟨n,xs,k,j,rfl,q,rfl,q2,(AW h).symm⟩
    |_=>cases h
   |_=>cases h
 |_=>cases h
theorem yj.put{K:AE}{cl:Nat->AI}:∀{vs:List PV} {xs:List V} (j:Nat) {v:PV} {x:V},yj K cl B φ H vs xs->yg K cl B φ H v x->yj K cl B φ H (vs.set j v) (xs.set j x)
 |[],xs,j,v,x,l,r=>by erw[yj]at l;subst l;simp[yj]
 |w::vs,xs,0,v,x,l,r=>by
  erw[yj]at l;let⟨y,ys,rfl,_,l⟩:=l;erw[BH,yj];exact⟨x,ys,rfl,r,l⟩
 |w::vs,xs,j+1,v,x,l,r=>by
  erw[yj]at l;let⟨y,ys,rfl,ry,l⟩:=l;erw[BI,yj];exact⟨y,ys.set j x,rfl,ry,yj.put j l r⟩
theorem znu(he:PE X a (tE S X ca))(ho:PE X b (tE S X cb))(hi:PE X c (tE S X cc))(hs:swapsWithSole [.Subscript b c px] a pos.line X.env=pure false:=by rfl)(hw:swappedStores [.Subscript b c px] a X.env=pure none:=by rfl)
  (hg:PG X (.Subscript b c px) (ye9 (tE S X cb) (tE S X cc) ydy):=by exact zkD ‹_› ‹_› zfZ):PS X (.Assign [.Subscript b c px] a pos) (tS S X (.six cb cc ca)):=
 (zkB he hg hs hw).imp λD σ H ⟨B,φ,st,ρ,rs,re,h⟩=>by
  erw[ex]at h;refine tE.fl rs re h λv' H1 v st1 φ1 s1 rs1 re1 rv h1=>tE.fl rs1 re1 h1 λx' H2 x st2 φ2 s2 rs2 re2 rx h2=>tE.fl rs2 re2 h2 λy' H3 y st3 φ3 s3 rs3 re3 ry h3=>?_
  cases e:ybE st3 x y v with
  |none=>rw[e]at h3;exact h3.elim
  |some st4=>
   rw[e]at h3;let⟨n,xs,k,j,rfl,hn,rfl,hj,rfl⟩:=zjd e;erw[yg]at ry;subst ry;let⟨l,ys,rfl,hp,hx,lr⟩:=rs3.list (rx.step s3) hn;refine⟨l,ys,k,j,rfl,rfl,hx,by rw[<-lr.length];exact hj,?_⟩;have s4:Step φ3 H3 φ3 (L2.upd H3 l (.lst (ys.set j v'))):=.put (A3 hp);exact h3 σ _ φ3 s4 (rs3.put hp ⟨_,zt,(lr.put j ((rv.step s2).step s3)).step s4⟩) (re3.step s4)
end
section
variable {S:Se}{X:Cx}{σ:St}{B:AI->Prop}{φ:Ph}{H:Hp}{st:SO}{p pos p2 px py pt pt2 apos:CW}{a b c d o:AT}{ca cb cc:Ce}{kt k2:Nat}
theorem zoV{i j:Nat}{x y:AQ}(hc:X.calm=AC)(hN:X.N.Nodup)(hi:X.N[i]?=AA x)(hj:X.N[j]?=AA y)(hij:i≠j)(h:PS X (.Assign [.Tuple [.Name x px,.Name y py] kt pt] (.Tuple [a,b] k2 pt2) pos) (yfu i j (tAs S X (.cons ca (.cons cb .nil))))):
  PS X (.Assign [.Tuple [.Name x px,.Name y py] kt pt] (.Tuple [a,b] k2 pt2) pos) (tS S X (.asg (.t [i,j]) (.tup (.cons ca (.cons cb .nil))))):=
 h.imp λD σ H ⟨B,φ,st,ρ,rs,re,h⟩=>by
  erw[ex,ev]at h;refine⟨B,φ,st,ρ,rs,re,?_⟩
  cases e:evs S.call ρ st (.cons ca (.cons cb .nil))with
  |bad=>rw[e]at h;exact h
  |exc k st'=>rw[e]at h;exact λe s' x=>h σ φ H e s' .rfl re x
  |ok vs st'=>
   rw[e]at h;intro xs H' φ' s rs' l;erw[R.bind]at h;split at h
   .rcases vs with _|⟨v,_|⟨w,_|⟨u,t⟩⟩⟩
    .exact h.elim
    .exact h.elim
    .let⟨v',w',rfl,rv,rw⟩:=l.two;refine⟨v',w',rfl,?_⟩;exact h _ H' φ' s rs' (((re.step s).set i rv).set j rw)
    .exact h.elim
   .exact h.elim
theorem zl5{bo:BOp}{v w z:PV}(h:ybT bo v w=AA z):∃i j,v=.int i/\w=.int j/\IC.binI bo i j=AA z:=by
 unfold ybT at h;split at h
 .exact⟨_,_,rfl,rfl,h⟩
 .cases h
theorem zle:PIp X .Add (rT2 S X (ybT .add)):=by
 rintro pins s σ H x y v u Q I rx ry ⟨B,φ,st,a,b,z,rs,ra,rb,e,q⟩
 let⟨i,j,rfl,rfl,e⟩:=zl5 e
 cases e
 erw[yg]at ra rb;subst ra rb;exact zoz pins s σ H _ _ v u Q I rx ry ⟨i,j,rfl,rfl,q _ H φ .rfl rs (by erw[yg])⟩
end
end L2
namespace WK
open PySem L2 IC
def GC(K:AE)(mg:AQ->Option AF)(cl:Nat->AI)(x:AQ)(v:PV):Prop:=∃y:AI,mg x=AA (.ref y)/\∀B φ H,yg K cl B φ H v (.ref y)
theorem zqa{S:Se}{X:Cx}{x:AQ}{v:PV}{pos:CW}(hg:Gl X x)(h:GC X.K X.mg S.cl x v)(hd:(x==("__debug__":AQ))=false:=by decide):PE X (.Name x pos) (tE S X (.cst v)):=by
 let⟨y,hm,hk⟩:=h;exact zmB hg hm hk hd
theorem zoa:bootBuiltins "int"=AA (.type "int"):=by decide +kernel
theorem zmy:bootBuiltins "bool"=AA (.type "bool"):=by decide +kernel
theorem zoC:bootBuiltins "str"=AA (.type "str"):=by decide +kernel
theorem zgm:bootBuiltins "tuple"=AA (.type "tuple"):=by decide +kernel
theorem zoe:bootBuiltins "len"=AA (.builtin "len"):=by decide +kernel
theorem zni:bootBuiltins "min"=AA (.builtin "min"):=by decide +kernel
theorem zm6:bootBuiltins "max"=AA (.builtin "max"):=by decide +kernel
theorem zn2:bootBuiltins "all"=AA (.builtin "all"):=by decide +kernel
theorem zph:bootBuiltins "sum"=AA (.builtin "sum"):=by decide +kernel
theorem zlN{k:Nat}{A:Ax}(r:yaz k A):A.units+1<cLine:=by have:=r.units;lia
end WK
namespace L2
open PySem PySem.Spec PyProof.Rows IC
noncomputable def shC:Sum Ce Int->Option Int
 |.inl _=>AD
 |.inr i=>AA i
noncomputable def yaX:List (Option Int)->List V->List V
 |[],_=>[]
 |some i::r,zs=>.int i::yaX r zs
 |none::r,z::zs=>z::yaX r zs
 |none::_,[]=>[]
noncomputable def pick:List (Option Int)->List V->List V
 |none::r,v::vs=>v::pick r vs
 |some _::r,_::vs=>pick r vs
 |_,_=>[]
noncomputable def nKw:List (Option Int)->Nat
 |[]=>0
 |none::r=>nKw r+1
 |some _::r=>nKw r
noncomputable def yc3:Ces->Nat
 |.nil=>0
 |.cons _ r=>yc3 r+1
def gK(np:Nat)(sh:List (Option Int))(vs zs:List V):List V:=if vs.length=np/\zs.length=nKw sh then vs++yaX sh zs else []
theorem ziI{call:Nat->List PV->SO->R PV}{ρ:IC.Env}:∀(a:Ces) {st st':SO} {vs:List PV},evs call ρ st a=.ok vs st'->vs.length=yc3 a
 |.nil,st,st',vs,h=>by erw[evs]at h;cases h;rfl
 |.cons e r,st,st',vs,h=>by
  erw[evs]at h
  cases q:ev call ρ st e with
  |ok v s1=>
   rw[q]at h;erw[R.bind]at h
   cases q2:evs call ρ s1 r with
   |ok ws s2=>
    rw[q2]at h
    cases h
    simp[yc3,ziI r q2]
   |exc c s=>rw[q2]at h;cases h
   |bad=>rw[q2]at h;cases h
  |exc c s=>rw[q]at h;cases h
  |bad=>rw[q]at h;cases h
theorem zib{call:Nat->List PV->SO->R PV}{ρ:IC.Env}:∀(a b:Ces) (st:SO),evs call ρ st (yZ a b)=(evs call ρ st a).bind λvs st1=>(evs call ρ st1 b).bind λws st2=>.ok (vs++ws) st2
 |.nil,b,st=>by
  erw[yZ,evs,R.bind,BV]
  cases evs call ρ st b<;>rfl
 |.cons e r,b,st=>by
  erw[yZ,evs]
  cases ev call ρ st e with
  |ok v st1=>
   erw[R.bind];rw[zib r b st1]
   cases evs call ρ st1 r with
   |ok vs st2=>
    erw[R.bind]
    cases evs call ρ st2 b<;>rfl
   |exc c s=>rfl
   |bad=>rfl
  |exc c s=>rfl
  |bad=>rfl
section
variable {S:Se}{X:Cx}{k:Nat}{f:AI}{fd:BG}{ps ks:List AQ}{sp:Sp}{x:AQ}{p pos kpos:CW}{e:AT}{es:List AT}{kws:List C3}{nm:Option AQ}{t tk:TA}{CX:CXT}{ca:Ce}{ces:Ces}{items:List (Sum Ce Int)}{g:List AF->List AF->List AF}{gV:List V->List V->List V}
theorem zcd{K:AE}{cl:Nat->AI}{B:AI->Prop}{φ:Ph}{H:Hp}{call:Nat->List PV->SO->R PV}{ρ:IC.Env}:∀(items:List (Sum Ce Int)) {st st':SO} {vs:List PV} {xs:List V},evs call ρ st (yp items)=.ok vs st'->yj K cl B φ H vs xs->yaX (items.map shC) (pick (items.map shC) xs)=xs/\(pick (items.map shC) xs).length=nKw (items.map shC)
 |[],st,st',vs,xs,h,l=>by
  erw[yp,evs]at h
  cases h
  erw[yj]at l;subst l;exact⟨rfl,rfl⟩
 |.inl c::r,st,st',vs,xs,h,l=>by
  erw[yp,evs]at h;let⟨v,s1,e1,h⟩:=za6 h;let⟨ws,s2,e2,h⟩:=za6 h
  cases h
  erw[yj]at l;let⟨y,ys,rfl,_,l⟩:=l;let⟨q1,q2⟩:=zcd r e2 l;erw[AL,shC,pick,yaX,nKw,AZ,q1,q2];exact⟨trivial,trivial⟩
 |.inr i::r,st,st',vs,xs,h,l=>by
  erw[yp,evs,ev]at h;let⟨v,s1,e1,h⟩:=za6 h;let⟨ws,s2,e2,h⟩:=za6 h
  cases h
  cases e1
  erw[yj,yg]at l;let⟨y,ys,rfl,rfl,l⟩:=l;let⟨q1,q2⟩:=zcd r e2 l;erw[AL,shC,pick,yaX,nKw,q1,q2];exact⟨trivial,trivial⟩
def tK(S:Se)(X:Cx)(items:List (Sum Ce Int)):TA:=λσ H Q=>∃B φ st ρ,yH X.K S.cl B φ H st/\yW X.K S.cl B φ H ρ σ/\Run S X σ B φ H (RL S X B) (evs S.call ρ st (yp items)) λxs H'=>Q (pick (items.map shC) xs) H'
theorem PK.imp{t t':TA}(h:PK X kws t')(k:∀σ H Q,t σ H Q->t' σ H Q):PK X kws t:=λpos pins s σ H Q I q=>h pos pins s σ H Q I (k σ H Q q)
theorem zpp:PK X [] (tK S X []):=ydi.imp λσ H Q ⟨B,φ,st,ρ,rs,re,h⟩=>by
 erw[yp,evs]at h;exact h.ok rs (x:=[]) (by erw[yj])
theorem zpC{i:Int}(h:PK X kws (tK S X items)):PK X kws (tK S X (.inr i::items)):=h.imp λσ H Q ⟨B,φ,st,ρ,rs,re,h⟩=>by
 erw[yp,evs,ev,R.bind]at h;refine⟨B,φ,st,ρ,rs,re,?_⟩
 cases e:evs S.call ρ st (yp items)with
 |ok vs st'=>
  rw[e]at h;intro xs H' φ' s rs' l;exact h (.int i::xs) H' φ' s rs' (by erw[yj,yg];exact⟨_,_,rfl,rfl,l⟩)
 |exc c s=>rw[e]at h;exact h
 |bad=>rw[e]at h;exact h
theorem zpP(ha:PE X e (tE S X ca))(h:PK X kws (tK S X items)):PK X (⟨nm,e,kpos⟩ :: kws) (tK S X (.inl ca::items)):=(zlL ha h).imp λσ H Q ⟨B,φ,st,ρ,rs,re,h⟩=>by
 erw[yp,evs]at h;refine tE.bind rs re h λx H1 v st1 φ1 s1 rs1 re1 rv h1=>⟨B,φ1,st1,ρ,rs1,re1,?_⟩;refine(Run.bind (Rel:=RL S X B) h1).mono λxs H2 kq=>?_;let⟨ws,st2,φ2,s2,rs2,l,h2⟩:=kq;exact h2.ok rs2 (x:=x::xs) (by erw[yj];exact⟨x,xs,rfl,rv.step s2,l⟩)
theorem zj5{fi:Nat}(F:yaP X.prog X.w X.K X.mg X.base (CX1 X.prog X.w) k f fd ps (spI X.K S.cl S.call fi))(hr:yaz k X.A)(hg:Gl X x)(hm:X.mg x=AA (.ref f))(hk:Ay X.K (.ref f)=AC){np:Nat}(hb:∃g,ybO X.K fd ps ks g (gK np (items.map shC)))(hnp:yc3 ces=np)
  (ha:PA X (e::es) (tAs S X ces)) (hkw:PK X kws (tK S X items)) (hall:(backToKw pos (keywordEach kws X.env)).all (·.1.isSome)=true:=by rfl) (hks:(backToKw pos (keywordEach kws X.env)).filterMap (·.1)=ks:=by rfl)
  (hdb:(x==("__debug__":AQ))=false:=by decide) (he:starEach (e::es) X.env=(AB,eval e X.env)::starEach es X.env:=by rfl)
  (hpl:((backTo pos (starEach (e::es) X.env)).any (·.1) || (backToKw pos (keywordEach kws X.env)).any (·.1.isNone))=false:=by rfl):
  PE X (.Call (.Name x p) (e::es) kws pos) (tE S X (.call fi (yZ ces (yp items)))):=by
 intro pins s σ H Q I ⟨B,φ,st,ρ,rs,re,h⟩;erw[ev]at h;rw[zib,R.bind_assoc]at h;refine B2 (zdc I hg hm ?_ hdb);have h0:tAs S X ces σ H λvs H1=>tK S X items σ H1 λzs H2=>∃E:XK,spI X.K S.cl S.call fi (gK np (items.map shC) vs zs) H2 Q E/\∀pins s e s',Inv X pins σ H2 s->CX1 X.prog X.w X.stack H2 s E e s'->X.xe e s':=by
  have hlen:∀vs st',evs S.call ρ st ces=.ok vs st'->vs.length=np:=λvs st' q=>(ziI ces q).trans hnp;refine⟨B,φ,st,ρ,rs,re,?_⟩
  cases q:evs S.call ρ st ces with
  |exc c s=>rw[q]at h;exact h
  |bad=>rw[q]at h;exact h
  |ok vs st1=>
  rw[q]at h;intro xs H1 φ1 s1 rs1 rv;have h1:=Run.on s1 h;have re1:=re.step s1;have hv:=hlen vs st1 q;refine⟨B,φ1,st1,ρ,rs1,re1,?_⟩;have h1:Run S X σ B φ1 H1 (RV S X B) (((evs S.call ρ st1 (yp items)).bind λa st=>(R.ok (vs++a) st:R (List PV))).bind λvs st1=>S.call fi vs st1) Q:=h1;rw[R.bind_assoc]at h1
  cases e:evs S.call ρ st1 (yp items)with
  |ok ws st2=>
   rw[e]at h1;intro ys H2 φ2 s2 rs2 l2;let⟨m1,m2⟩:=zcd items e l2;have eg:gK np (items.map shC) xs (pick (items.map shC) ys)=xs++ys:=by
    unfold gK;rw[if_pos ⟨by rw[<-rv.length];exact hv,m2⟩,m1]
   show ∃E:XK,spI X.K S.cl S.call fi (gK np (items.map shC) xs (pick (items.map shC) ys)) H2 Q E/\_;rw[eg];exact za3 rs2 ((rv.step s2).append l2) (Run.on s2 h1)
  |exc c s=>rw[e]at h1;exact h1
  |bad=>rw[e]at h1;exact h1
 refine PySem.W.callWith_KW (h₀:=X.base) I.ok.mod.kin hk hall (thn (ha pos pins s σ H _ I h0) λus s1 kq=>?_) hpl he;let⟨vs,H1,I1,r,q⟩:=kq;refine thn (hkw pos pins s1 σ H1 _ I1 q) λws s2 kq=>?_;let⟨zs,H2,I2,rz,E,q2,hx⟩:=kq;refine ⟨I2.kIn,?_⟩;rw[hks];let⟨g,hb⟩:=hb;have r2:=hb.rel r rz;have hl:(g us ws).length=ps.length:=by rw[<-r2.length];exact F.len _ _ _ _ q2
 refine Gz (EA (F.run X.A X.stack s2 H2 ⟨us,ks.zip ws⟩ (g us ws) (gK np (items.map shC) vs zs) Q E hr I2.env0 (hb.to s2 us ws I2.kIn hl) r2 q2) λr s' hq=>?_)
 cases r with
 |error e=>exact hx pins s2 e s' I2 hq
 |ok fl=>
  cases fl with
  |ret u=>exact I2.after hq
  |next=>exact Bn hq
  |brk=>exact Bn hq
  |cont=>exact Bn hq
end
noncomputable def ybc:List (Option Int)->List AF->List AF->List AF
 |[],_,_=>[]
 |some _::r,ws,d::ds=>d::ybc r ws ds
 |none::r,w::ws,_::ds=>w::ybc r ws ds
 |_,_,_=>[]
theorem zdo:∀(sh:List (Option Int)) (ds:List Int) {zs:List V} {ws us:List AF},Vals (ds.map V.int) us->Vals zs ws->sh.length=ds.length->(∀p∈sh.zip ds,∀i,p.1=AA i->i=p.2)->Vals (yaX sh zs) (ybc sh ws us)
 |[],ds,zs,ws,us,r,q,hl,h=>.nil
 |some i::r,[],zs,ws,us,rr,q,hl,h=>by simp at hl
 |some i::r,d::ds,zs,ws,_,.cons a b,q,hl,h=>by
  have:i=d:=h (AA i,d) (by simp) i rfl;subst this;exact .cons a (zdo r ds b q (by simpa using hl) λp hp=>h p (by simp[hp]))
 |none::r,[],zs,ws,us,rr,q,hl,h=>by simp at hl
 |none::r,d::ds,_,_,_,.cons a b,.nil,hl,h=>.nil
 |none::r,d::ds,_,_,_,.cons a b,.cons c q,hl,h=>.cons c (zdo r ds b q (by simpa using hl) λp hp=>h p (by simp[hp]))
structure FnD(K:AE)(mg:AQ->Option AF)(x:AQ)(st:Bz)(ps:List AQ)(ds:List Int)(f:AI)(fd:BG):Prop where
 ex:∃(oc:AF) (od:Option AI) (dT:AI) (kV doc pm:AF) (an:Option AI) (cdv ct:AF) (osl:Array (Option AF)) (o:CC) (its:Array AF) (n:Nat),
  fd=B6 x x (yan st) (yak st) (yO st) (.ref dT) kV doc pm an cdv ct/\K.lookup f=AA ⟨oc,od,.func fd,osl⟩/\CP K cdv x=AC/\K.lookup dT=AA o/\o.data=.seq its n/\Vals (ds.map V.int) its.toList
 kp:Ay K (.ref f)=AC
 m:mg x=AA (.ref f)
theorem kbD{K:AE}{mg:AQ->Option AF}{x:AQ}{st:Bz}{ps ks:List AQ}{ds:List Int}{f:AI}{fd:BG}{np off:Nat}{sh:List (Option Int)}(D:FnD K mg x st ps ds f fd)(hnk:ks.length=nKw sh)(hsh:sh.length=(ds.drop off).length)(hd':((sh.zip (ds.drop off)).all λp=>p.1.all λi=>decide (i=p.2))=AC)
  (h:∀(dT:AI) (kV doc pm:AF) (an:Option AI) (cdv ct:AF) (us ws its:List AF),us.length=np->ws.length=ks.length->its.length=ds.length ->
   ∃k,bindArgs (B6 x x (yan st) (yak st) (yO st) (.ref dT) kV doc pm an cdv ct) ⟨us,ks.zip ws⟩=seqItems? (.ref dT) >>= k/\k (AA its.toArray)=pure (ps.zip (us++ybc sh ws (its.drop off)))) (hps:0<ps.length):
  ∃g,ybO K fd ps ks g (gK np sh):=by
 have hd:∀p∈sh.zip (ds.drop off),∀i,p.1=AA i->i=p.2:=λp hp i hi=>by
  have:=Bk.mp hd' p hp;rw[hi]at this;simpa using this
 let⟨oc,od,dT,kV,doc,pm,an,cdv,ct,osl,o,its,n,rfl,lk,hcd,lo,hs,r⟩:=D.ex;refine⟨λus ws=>if us.length=np/\ws.length=nKw sh then us++ybc sh ws (its.toList.drop off)else [],⟨λs us ws KX hl=>?_,λ{vs us zs ws} rv rz=>?_⟩⟩
 .by_cases c:us.length=np/\ws.length=nKw sh
  .rw[if_pos c]at hl ⊢;let⟨k,h1,h2⟩:=h dT kV doc pm an cdv ct us ws its.toList c.1 (by rw[hnk];exact c.2) (by rw[<-r.length,Av]);exact BindsTo.of_defaults rfl (KX _ _ lo) hs h1 (by simpa using h2)
  .rw[if_neg c]at hl;simp at hl;lia
 .unfold gK;have e1:=rv.length;have e2:=rz.length
  by_cases c:us.length=np/\ws.length=nKw sh
  .rw[if_pos c,if_pos (by lia)];refine rv.append (zdo sh (ds.drop off) ?_ rz hsh hd);rw[List.map_drop];exact r.drop off
  .rw[if_neg c,if_neg (by lia)];exact .nil
section
variable {P:A9}{w:Al}{K:AE}{mg:AQ->Option AF}{base:BF}{cl:Nat->AI}{T:Nat->Option IC.Fn}{fi:Nat}{fn:IC.Fn}{x:AQ}{stm:Bz}{f:AI}{fd:BG}{N ps:List AQ}{ds:List Int}{k:Nat}
end
theorem zd2(a b:Key):peq (yaN a) (yaN b)=decide (a=b):=by
 rw[DG]
 cases a<;>cases b<;>simp[yaN,peq]
theorem zf0:∀(a b:List Key),ybp (a.map yaN) (b.map yaN)=decide (a=b)
 |[],[]=>by simp[ybp]
 |[],y::ys=>by simp[ybp]
 |x::xs,[]=>by simp[ybp]
 |x::xs,y::ys=>by
  erw[AL,ybp,zd2,zf0 xs ys];rw[DG];simp
theorem zd6(a b:List Key):peq (.tup (a.map yaN)) (.tup (b.map yaN))=decide (a=b):=by
 erw[peq,zf0]
theorem zi1{k:PV}(h:ybM k=AC):∃q,k=yaN q:=by
 cases k with
 |int i=>exact⟨.inl i,rfl⟩
 |str i=>exact⟨.inr i,rfl⟩
 |_=>cases h
theorem zhU:∀{ks:List PV},ks.all ybM=AC->∃qs:List Key,ks=qs.map yaN
 |[],_=>⟨[],rfl⟩
 |k::ks,h=>by
  rw[Be,AK]at h;let⟨q,rfl⟩:=zi1 h.1;let⟨qs,rfl⟩:=zhU h.2;exact⟨q::qs,rfl⟩
section
variable {S:Se}{X:Cx}{K:AE}{cl:Nat->AI}{σ:St}{B:AI->Prop}{φ:Ph}{H:Hp}{st:SO}{p pos p2 px apos:CW}{a b c d o:AT}{ca cb cc:Ce}
theorem ybg{q:Key}{x:V}:yg K cl B φ H (yaN q) x ↔ x=kV q:=by
 cases q<;>simp[yaN,yg,kV]
theorem zeA:∀{qs:List Key} {xs:List V},yj K cl B φ H (qs.map yaN) xs->xs=qs.map kV
 |[],xs,l=>by simpa only[Ad,yj] using l
 |q::qs,xs,l=>by
  erw[AL,yj]at l;let⟨y,ys,rfl,r,l⟩:=l;rw[ybg.mp r,zeA l];rfl
theorem DK.look{q:Key}:∀{kvs:List (PV×PV)} {ks:List (Key×V)},DK K cl B φ H kvs ks->∀{v:PV} {x:V},yg K cl B φ H v x->yg K cl B φ H ((IC.look (yaN q) kvs).getD v) ((ybQ ks q).getD x)
 |[],ks,h,v,x,r=>by cases h;exact r
 |(k,w)::t,ks,h,v,x,r=>by
  let⟨q',y,s,rfl,rfl,rv,l⟩:=h;erw[IC.look,zd2]
  by_cases e:q'=q
  .rw[zb6 (p:=(q',y)) e];simp[e,rv]
  .rw[zbO (p:=(q',y)) e];erw[decide_eq_true_eq,e,if_false];exact DK.look l r
theorem DT.look{q:List Key}:∀{kvs:List (PV×PV)} {ks:List (List Key×V)},DT K cl B φ H kvs ks->∀{v:PV} {x:V},yg K cl B φ H v x->yg K cl B φ H ((IC.look (.tup (q.map yaN)) kvs).getD v) ((ybQ ks q).getD x)
 |[],ks,h,v,x,r=>by cases h;exact r
 |(k,w)::t,ks,h,v,x,r=>by
  let⟨q',y,s,rfl,rfl,rv,l⟩:=h;erw[IC.look,zd6]
  by_cases e:q'=q
  .rw[zb6 (p:=(q',y)) e];simp[e,rv]
  .rw[zbO (p:=(q',y)) e];erw[decide_eq_true_eq,e,if_false];exact DT.look l r
theorem DK.any{q:Key}:∀{kvs:List (PV×PV)} {ks:List (Key×V)},DK K cl B φ H kvs ks->(kvs.any λp=>peq p.1 (yaN q))=ks.any λkv=>decide (kv.1=q)
 |[],ks,h=>by cases h;rfl
 |(k,w)::t,ks,h=>by
  let⟨q',y,s,rfl,rfl,rv,l⟩:=h;erw[Bm,zd2,DK.any l]
theorem DT.any{q:List Key}:∀{kvs:List (PV×PV)} {ks:List (List Key×V)},DT K cl B φ H kvs ks->(kvs.any λp=>peq p.1 (.tup (q.map yaN)))=ks.any λkv=>decide (kv.1=q)
 |[],ks,h=>by cases h;rfl
 |(k,w)::t,ks,h=>by
  let⟨q',y,s,rfl,rfl,rv,l⟩:=h;erw[Bm,zd6,DT.any l]
theorem DK.map{q:Key}{v:PV}{x:V}(r:yg K cl B φ H v x):∀{kvs:List (PV×PV)} {ks:List (Key×V)},DK K cl B φ H kvs ks->DK K cl B φ H (kvs.map λp=>if peq p.1 (yaN q)=AC then(p.1,v)else p) (ks.map λkv=>if kv.1=q then(kv.1,x)else kv)
 |[],ks,h=>by cases h;exact rfl
 |(k,w)::t,ks,h=>by
  let⟨q',y,s,rfl,rfl,rv,l⟩:=h;erw[AL,zd2,decide_eq_true_eq]
  by_cases e:q'=q
  .simp only[e,if_true];exact⟨q,x,_,rfl,rfl,r,DK.map r l⟩
  .simp only[e,if_false];exact⟨q',y,_,rfl,rfl,rv,DK.map r l⟩
theorem DT.map{q:List Key}{v:PV}{x:V}(r:yg K cl B φ H v x):∀{kvs:List (PV×PV)} {ks:List (List Key×V)},DT K cl B φ H kvs ks->DT K cl B φ H (kvs.map λp=>if peq p.1 (.tup (q.map yaN))=AC then(p.1,v)else p) (ks.map λkv=>if kv.1=q then(kv.1,x)else kv)
 |[],ks,h=>by cases h;exact rfl
 |(k,w)::t,ks,h=>by
  let⟨q',y,s,rfl,rfl,rv,l⟩:=h;erw[AL,zd6,decide_eq_true_eq]
  by_cases e:q'=q
  .simp only[e,if_true];exact⟨q,x,_,rfl,rfl,r,DT.map r l⟩
  .simp only[e,if_false];exact⟨q',y,_,rfl,rfl,rv,DT.map r l⟩
theorem DK.snoc{q:Key}{v:PV}{x:V}(r:yg K cl B φ H v x):∀{kvs:List (PV×PV)} {ks:List (Key×V)},DK K cl B φ H kvs ks->DK K cl B φ H (kvs++[(yaN q,v)]) (ks++[(q,x)])
 |[],ks,h=>by cases h;exact⟨q,x,[],rfl,rfl,r,rfl⟩
 |(k,w)::t,ks,h=>by
  let⟨q',y,s,rfl,rfl,rv,l⟩:=h;exact⟨q',y,_,rfl,rfl,rv,DK.snoc r l⟩
theorem DT.snoc{q:List Key}{v:PV}{x:V}(r:yg K cl B φ H v x):∀{kvs:List (PV×PV)} {ks:List (List Key×V)},DT K cl B φ H kvs ks->DT K cl B φ H (kvs++[(.tup (q.map yaN),v)]) (ks++[(q,x)])
 |[],ks,h=>by cases h;exact⟨q,x,[],rfl,rfl,r,rfl⟩
 |(k,w)::t,ks,h=>by
  let⟨q',y,s,rfl,rfl,rv,l⟩:=h;exact⟨q',y,_,rfl,rfl,rv,DT.snoc r l⟩
theorem DK.put{q:Key}{v:PV}{x:V}{kvs:List (PV×PV)}{ks:List (Key×V)}(l:DK K cl B φ H kvs ks)(r:yg K cl B φ H v x):DK K cl B φ H (IC.put (yaN q) v kvs) (putK ks q x):=by
 unfold IC.put putK;rw[DK.any l];split
 .exact DK.map r l
 .exact DK.snoc r l
theorem DT.put{q:List Key}{v:PV}{x:V}{kvs:List (PV×PV)}{ks:List (List Key×V)}(l:DT K cl B φ H kvs ks)(r:yg K cl B φ H v x):DT K cl B φ H (IC.put (.tup (q.map yaN)) v kvs) (putK ks q x):=by
 unfold IC.put putK;rw[DT.any l];split
 .exact DT.map r l
 .exact DT.snoc r l
theorem DK.len:∀{kvs:List (PV×PV)} {ks:List (Key×V)},DK K cl B φ H kvs ks->kvs.length=ks.length
 |[],ks,h=>by cases h;rfl
 |(k,w)::t,ks,h=>by
  let⟨q',y,s,rfl,rfl,rv,l⟩:=h;simp[DK.len l]
theorem DT.len:∀{kvs:List (PV×PV)} {ks:List (List Key×V)},DT K cl B φ H kvs ks->kvs.length=ks.length
 |[],ks,h=>by cases h;rfl
 |(k,w)::t,ks,h=>by
  let⟨q',y,s,rfl,rfl,rv,l⟩:=h;simp[DT.len l]
theorem yH.dct{n:Nat}{t:Bool}{kvs:List (PV×PV)}{x:V}(rs:yH K cl B φ H st)(r:yg K cl B φ H (.loc n) x)(h:st[n]?=AA (.dct t kvs)):∃y,x=.ref y/\φ[n]?=AA (AA y)/\ycv K cl B φ H (.dct t kvs) y:=by
 erw[yg]at r;let⟨hn,y,rfl,ha⟩:=r;let⟨z,hz⟩:=rs.liv n _ h (by intro z;cases z);obtain rfl:=ha z hz;let⟨o,ho,ro⟩:=rs.obj n z hz;rw[h]at ho;cases ho;exact⟨z,rfl,hz,ro⟩
theorem ze8{v:PV}{t:Bool}{kvs:List (PV×PV)}(h:ybf st v=AA (t,kvs)):∃n,v=.loc n/\st[n]?=AA (.dct t kvs):=by
 cases v with
 |loc n=>
  erw[ybf]at h;split at h
  .rename_i t' xs q
   cases h
   exact⟨n,rfl,q⟩
  .cases h
 |_=>cases h
theorem zg2{k:PV}(h:isKey AB k=AC):∃q,k=yaN q:=zi1 h
theorem ziW{k:PV}(h:isKey AC k=AC):∃q:List Key,k=.tup (q.map yaN):=by
 cases k with
 |tp b xs=>
  cases b with
  |false=>
   let⟨qs,rfl⟩:=zhU h;exact⟨qs,rfl⟩
  |true=>cases h
 |_=>cases h
theorem ziA{q:List Key}{x:V}(r:yg K cl B φ H (.tup (q.map yaN)) x):∃y,x=.ref y/\H y=AA (.tup (q.map kV)):=by
 erw[yg]at r;let⟨y,xs,rfl,rt,l⟩:=r;rcases rt with⟨rt,_⟩|⟨z,_⟩
 .exact⟨y,rfl,by rw[rt,zeA l]⟩
 .cases z
theorem ziF:PE X (.Dict [] [] pos) (tE S X (.dict0 AC)):=ycw.imp λσ H Q ⟨B,φ,st,ρ,rs,re,h⟩=>by
 erw[ev]at h;exact λp hp=>h _ _ (φ++[AA p]) (.push hp) (rs.push hp (rs.nB hp) ⟨[],zt,rfl⟩) (.loc_new rs)
theorem znv(hu:X.A.units+1<cLine)(ha:PE X a (tE S X ca))(hb:PE X b (tE S X cb))(hc:PE X c (tE S X cc))(m:M2 X a "get" apos b c pos:=by exact⟨rfl,rfl,rfl,rfl⟩):PE X (.Call (.Attribute a "get" apos) [b,c] [] pos) (tE S X (.mth .get ca (.cons cb (.cons cc .nil)))):=
 (zj8 hu ha hb hc m).imp λσ H Q ⟨B,φ,st,ρ,rs,re,h⟩=>by
  erw[ev]at h;refine tE.bind rs re h λx H1 v st1 φ1 s1 rs1 re1 rv h1=>?_;let⟨_,e1,h1⟩:=zhL h1;erw[yaS]at e1
  cases q:ybf st1 v with
  |none=>rw[q]at e1;cases e1
  |some tk=>
   let⟨t,kvs⟩:=tk;let⟨n,rfl,hn⟩:=ze8 q;let⟨y,rfl,hy,ro⟩:=rs1.dct rv hn;refine⟨y,rfl,?_,?_⟩
   .cases t with
    |false=>let⟨ks,hk,_⟩:=ro;exact .inl ⟨ks,.inl hk⟩
    |true=>let⟨ks,hk,_⟩:=ro;exact .inr ⟨ks,.inl hk⟩
   .simp only[evs,R.bind_assoc]at h1;refine tE.bind rs1 re1 h1 λkx H2 kv st2 φ2 s2 rs2 re2 rk h2=>tE.bind rs2 re2 h2 λdx H3 dv st3 φ3 s3 rs3 re3 rd h3=>?_;erw[R.bind]at h3;unfold ycu at h3;erw[ydV]at h3
    cases q3:ybf st3 (.loc n)with
    |none=>rw[q3]at h3;exact h3.elim
    |some tk3=>
     let⟨t3,kvs3⟩:=tk3;rw[q3]at h3;dsimp only at h3;split at h3
     .rename_i hk;let⟨n',e',hn3⟩:=ze8 q3
      cases e'
      let⟨y3,ey,hy3,ro3⟩:=rs3.dct ((rv.step s2).step s3) hn3
      cases ey
      have rk3:=rk.step s3
      cases t3 with
      |false=>
       let⟨q,rfl⟩:=zg2 hk;let⟨ks,hks,l⟩:=ro3;refine⟨ybQ ks q,.inl ⟨ks,q,.inl hks,ybg.mp rk3,rfl⟩,h3.ok rs3 (DK.look l rd)⟩
      |true=>
       let⟨q,rfl⟩:=ziW hk;let⟨ks,hks,l⟩:=ro3;let⟨b',rfl,hb'⟩:=ziA rk3;exact⟨ybQ ks q,.inr ⟨ks,q,b',.inl hks,rfl,hb',rfl⟩,h3.ok rs3 (DT.look l rd)⟩
     .exact h3.elim
theorem zhD{st4:SO}{x y v:PV}(h:ybj st x y v=AA st4):∃n t kvs,x=.loc n/\st[n]?=AA (.dct t kvs)/\isKey t y=AC/\kvs.length<1000000/\st4=st.set n (.dct t (IC.put y v kvs)):=by
 cases x with
 |loc n=>
  erw[ybj]at h;split at h
  .rename_i t kvs q;split at h
   .rename_i c;exact⟨n,t,kvs,rfl,q,c.1,c.2,(AW h).symm⟩
   .cases h
  .cases h
 |_=>cases h
theorem zlr(hu:X.A.units+1<cLine)(ho:PE X b (tE S X cb))(hi:PE X c (tE S X cc))(hv:PE X a (tE S X ca))(hs:swapsWith a (AA (.Subscript b c px)) pos.line X.env=pure false:=by rfl):PS X (.Assign [.Subscript b c px] a pos) (tS S X (.dput cb cc ca)):=
 (zmF hu ho hi hv hs).imp λD σ H ⟨B,φ,st,ρ,rs,re,h⟩=>by
  erw[ex]at h;refine tE.fl rs re h λv' H1 v st1 φ1 s1 rs1 re1 rv h1=>tE.fl rs1 re1 h1 λx' H2 x st2 φ2 s2 rs2 re2 rx h2=>tE.fl rs2 re2 h2 λy' H3 y st3 φ3 s3 rs3 re3 ry h3=>?_
  cases e:ybj st3 x y v with
  |none=>rw[e]at h3;exact h3.elim
  |some st4=>
   rw[e]at h3;let⟨n,t,kvs,rfl,hn,hk,hl,rfl⟩:=zhD e;let⟨l,rfl,hp,ro⟩:=rs3.dct (rx.step s3) hn;have rv3:=(rv.step s2).step s3;have hm:=yb6
   cases t with
   |false=>
    let⟨q,rfl⟩:=zg2 hk;let⟨ks,hks,ld⟩:=ro;have s4:Step φ3 H3 φ3 (L2.upd H3 l (.dK (putK ks q v'))):=.put (A3 hp);refine⟨l,_,rfl,.inl ⟨ks,q,hks,ybg.mp ry,by have:=ld.len;lia,rfl⟩,h3 σ _ φ3 s4 (rs3.put hp ⟨_,zt,(ld.put rv3).step s4⟩) (re3.step s4)⟩
   |true=>
    let⟨q,rfl⟩:=ziW hk;let⟨ks,hks,ld⟩:=ro;let⟨b',rfl,hb'⟩:=ziA ry;have s4:Step φ3 H3 φ3 (L2.upd H3 l (.dT (putK ks q v'))):=.put (A3 hp);refine⟨l,_,rfl,.inr ⟨ks,q,b',hks,rfl,hb',by have:=ld.len;lia,rfl⟩,h3 σ _ φ3 s4 (rs3.put hp ⟨_,zt,(ld.put rv3).step s4⟩) (re3.step s4)⟩
end
section
variable {S:Se}{X:Cx}{σ:St}{B:AI->Prop}{φ:Ph}{H:Hp}{p pos p3 p4:CW}{a b tg:AT}{ca cb:Ce}
end
end L2
namespace WK
open PySem L2 IC
section
variable {K:AE}{cl:Nat->AI}{B:AI->Prop}{φ:Ph}{H:Hp}
theorem zkJ:yj K cl B φ H [] []:=by erw[yj]
theorem ziZ{v:PV}{x:V}{vs:List PV}{xs:List V}(h:yg K cl B φ H v x)(l:yj K cl B φ H vs xs):yj K cl B φ H (v::vs) (x::xs):=by
 erw[yj];exact⟨x,xs,rfl,h,l⟩
end
theorem znU{P:A9}{w:Al}{outer:List B0}{H:Hp}{s:AJ}{e:AF}{s':AJ}(h:CX1 P w outer H s (λ_ _ _=>False) e s'):False:=by
 let⟨_,_,_,_,_,_,_,_,_,_,_,_,_,_,z⟩:=h;exact z
theorem zhs{K:AE}{cl:Nat->AI}{B:AI->Prop}{φ:Ph}{H:Hp}:∀ns:List Int,yj K cl B φ H (ns.map .int) (ns.map V.int)
 |[]=>zkJ
 |n::ns=>ziZ (by erw[yg]) (zhs ns)
def spX(K:AE)(call:Nat->List PV->SO->R PV)(fi:Nat):Sp:=λvs H Q E=>∀cl,spI K cl call fi vs H Q E
theorem zhI{K:AE}{call:Nat->List PV->SO->R PV}{fi:Nat}{H:Hp}{a:AI}{ns:List Int}(ht:∀ns:List Int,ns.length<=63->call fi [.scr (ns.map .int)] []=.ok (.bl AC) [])(hl:ns.length<=63)(hS:SqL K H a (ns.map V.int)):
  spX K call fi [.ref a] H (λv _=>v=.bl AC) λ_ _ _=>False:=by
 intro cl;refine⟨λ_=>False,[],[],[.scr (ns.map .int)],⟨rfl,λm n a e=>by simp at e,λn a e=>by simp at e,λn o e=>by simp at e,λa z=>by simp at z,λa z=>z.elim⟩,ziZ ?_ zkJ,?_⟩
 .simp only[yg];refine⟨a,_,rfl,?_,zhs ns⟩;rcases hS with hS|hS
  .exact .inl ⟨hS,λz=>z,by simp⟩
  .exact .inr hS
 .rw[ht ns hl];intro x H' φ' _ _ r;simpa only[yg] using r
end WK
namespace L2
open PySem PySem.Spec PyProof.Rows IC
theorem zio{l:List AQ}(h:l.Nodup){i j:Nat}(hi:i<l.length)(hj:j<l.length)(e:l[i]=l[j]):i=j:=by
 rcases Nat.lt_trichotomy i j with q|q|q
 .exact absurd e (EZ.mp h i j hi hj q)
 .exact q
 .exact absurd e.symm (EZ.mp h j i hj hi q)
section
variable {X:Cx}{pins:List (AI×CC)}{σ:St}{H:Hp}{s:AJ}
theorem Inv.drop{h':BF}{m:AQ->Option AF}{v:Option AF}{i:Nat}{n:AQ}(I:Inv X pins σ H s)(hN:X.N.Nodup)(hi:X.N[i]?=AA n)(hm:s.heap.Ns X.env.locals m)(look:∀(i:Nat) (x:AQ) (v:V),X.N[i]?=AA x->σ[i]?=AA (AA v)->Vis X.env.scope x->∃u,RelV v u/\Look X.env s.heap m x u)(hs:Cb X.env.locals s.heap h')(hn:h'.Ns X.env.locals (λx=>if x=n then v else m x)):Inv X pins (σ.set i AD) H {s with heap:=h'}:=by
 have k:∀b u,b≠X.env.locals->s.heap.get? b=AA u->h'.get? b=AA u:=λb u hb q=>(hs.2 b hb).trans q;have nl:∀b o,X.s₀.heap.get? b=AA o->b≠X.env.locals:=λb o e=>Aq (A5 (AX e) I.ok.above);refine⟨I.ok,I.os,I.bare,⟨λb o q n hb hx=>k b o (nl b o q) (I.base.keep b o q n hb hx),λb o q n hb hx=>?_,I.base.free,λb o q hx=>?_,I.base.tups,I.base.frzs,I.base.tbls⟩,⟨_,hn,λj x v e1 e2 hv=>?_⟩,λx c e=>?_,I.free,I.freeC,λp hp=>?_,λb u e=>?_,?_⟩
 .let⟨sl,q1⟩:=I.base.slot b o q n hb hx;exact⟨sl,k b _ (nl b o q) q1⟩
 .let⟨o',q1⟩:=I.base.there b o q hx;exact⟨o',k b o' (nl b o q) q1⟩
 .have hj:j≠i:=λz=>by
   subst z;rw[Ck]at e2;erw[if_true]at e2;split at e2<;>cases e2
  rw[AM (BJ hj)]at e2;have hx:x≠n:=λz=>by
   subst z;let⟨l1,g1⟩:=BE.mp e1;let⟨l2,g2⟩:=BE.mp hi;exact hj (zio hN l1 l2 (g1.trans g2.symm))
  let⟨u,r,lk⟩:=look j x v e1 e2 hv;refine⟨u,r,?_⟩;rcases lk with⟨q1,q2⟩|⟨q1,c,q2,o,q3,q4⟩
  .exact .inl ⟨q1,by dsimp only;rw[if_neg hx];exact q2⟩
  .exact .inr ⟨q1,c,q2,o,k c o (I.cne x c q2) q3,q4⟩
 .let⟨v,o,ho,hd⟩:=I.cell x c e;exact⟨v,o,k c o (I.cne x c e) ho,hd⟩
 .let⟨q1,q2,q3,q4⟩:=I.pin p hp;exact⟨k _ _ q3 q1,q2,q3,q4⟩
 .refine(I.hok b u e).stay (λc v hc q=>k c v (λz=>?_) q) (λ_ q=>q) λ_ _ q=>q;have fr:=I.free;subst z;rcases hc with z|z
  .rw[z,e]at fr
   cases fr
  .rw[z]at fr
   cases fr
 .rw[B4];exact I.len
end
section
variable {X:Cx}{body suite:List Bz}{b₀:Bz}{x n:AQ}{np hpos pos:CW}{W:AI}{i:Nat}
end
section
variable {S:Se}{X:Cx}{σ:St}{B:AI->Prop}{φ φ1:Ph}{H H1:Hp}{st:SO}{ρ:IC.Env}{D:Ends}{body suite:List Bz}{b₀:Bz}{x n:AQ}{p p2 np hpos pos cpos:CW}{W:AI}{i:Nat}{cb ch:Css}{a e:AT}{es:List AT}{ca ce:Ce}{ces:Ces}
theorem yW.drop{K:AE}{cl:Nat->AI}(r:yW K cl B φ H ρ σ)(i:Nat):yW K cl B φ H (ρ.set i AD) (σ.set i AD):=by
 refine⟨by rw[B4,B4];exact r.len,λj w e=>?_⟩
 by_cases h:j=i
 .subst h;rw[Ck]at e;erw[if_true]at e;split at e<;>cases e
 .rw[AM (BJ h)]at e ⊢;exact r.get j w e
noncomputable abbrev Se.quiet(S:Se):Se:={S with may:=AB}
theorem all_nil{P:Nat->Prop}:∀c∈([]:List Nat),P c:=λ_ h=>by cases h
theorem all_cons{P:Nat->Prop}{c:Nat}{cs:List Nat}(h:P c)(t:∀d∈cs,P d):∀d∈c::cs,P d:=λd hd=>by
 rcases AN.mp hd with e|e
 .exact e ▸ h
 .exact t d e
structure yds(K:AE)(mg:AQ->Option AF)(C:AI)(x:AQ):Prop where
 m:mg x=AA (.ref C)
 q:Fk K C [.type "ValueError",.type "Exception",.type "BaseException",.type "object"] "ValueError.__new__"=AC
end
theorem zaY:fillsNumberSlot (.type "tuple") "mul"=pure false:=
 PySem.fillsNumberSlot_seq (id:="tuple.__mul__") (r:=AA (.builtin "tuple.__rmul__")) Cd.lookup (by decide +kernel) Ep.lookup (by decide +kernel)
theorem zcv:seqRepeat? (.type "tuple")=pure (AA (.builtin "tuple.__mul__")):=by
 unfold seqRepeat?;rw[G8 (T:="tuple") (name:="__mul__") (id:="tuple.__mul__") Cd.lookup (by decide +kernel),G8 (T:="tuple") (name:="__rmul__") (id:="tuple.__rmul__") Ep.lookup (by decide +kernel)];rfl
theorem zbx(a:Int)(t:Hc)(l:AI)(items:Array AF)(n:Nat)(dd:Option AI)(sl:Array (Option AF)):
  Meets (F9.«int.__rmul__» ⟨[.int a t,.ref l],[]⟩) (λ_ R s=>s.heap.get? l=AA {cls:=.type "tuple",dict:=dd,data:=.seq items n,slots:=sl}/\R (.ok (.ret Value.notImplemented)) s):=
 .of_wp λprog w A R s h=>by let⟨hp,g,d,tk,os⟩:=s;let⟨hl,h⟩:=h;wp_walk;exact⟨_,rfl,h⟩
theorem zgH(l:AI)(items:Array AF)(n:Nat)(dd:Option AI)(sl:Array (Option AF))(x:Int)(u:Hc)(hc0:¬(decide (x < -(2^63)) || decide (x ≥ 2^63))=AC)(hc1:¬(items.isEmpty || x==1)=AC)(hc2:¬(decide (x<=0) || items.isEmpty)=AC)(hc3:¬(items.size:Int)*x > (2^63-1)/8)(hc4:¬ES ((items.size:Int)*x)=AC)
  (hsz:((AV x.toNat items).foldl (·++·) #[]).size<=sizeLine):
  Meets (F9.«tuple.__mul__» ⟨[.ref l,.int x u],[]⟩) (λ_ R s=>s.heap.get? l=AA {cls:=.type "tuple",dict:=dd,data:=.seq items n,slots:=sl}/\R (.ok (.ret (Ai s.heap.objs.size))) {s with heap:=s.heap.push {cls:=Ew "tuple",data:=Data.seq ((AV x.toNat items).foldl (·++·) #[])},toks:=s.toks}):=
 .of_wp λprog w A R s h=>by
  let⟨hp,g,d,tk,os⟩:=s;let⟨hl,h⟩:=h;have f1:=G9;have f2:=Ee
  have ht:HN (⟨hp,g,d,tk,os⟩:AJ).heap l items:=⟨_,hl,rfl,n,rfl⟩
  wp_walk
  rw[if_neg hc0];refine AH (D7 ht ?_);rw[if_neg hc1];rw[if_neg hc2];rw[if_neg hc3];rw[if_neg hc4];exact AH (m:=Bs _) (Ba (AU ⟨_,rfl,h⟩) hsz)
theorem zgv(l:AI)(items:Array AF)(n:Nat)(dd:Option AI)(sl:Array (Option AF))(u:Hc):
  Meets (F9.«tuple.__mul__» ⟨[.ref l,.int 1 u],[]⟩) (λ_ R s=>s.heap.get? l=AA {cls:=.type "tuple",dict:=dd,data:=.seq items n,slots:=sl}/\R (.ok (.ret (Ai l))) s):=
 .of_wp λprog w A R s h=>by
  let⟨hp,g,d,tk,os⟩:=s;let⟨hl,h⟩:=h;have f1:=G9;have f2:=Ee
  wp_walk
  exact⟨_,rfl,h⟩
theorem zdV(its:List AF):∀k:Nat,(AV k its.toArray).foldl (·++·) #[]=((AV k its).flatten).toArray:=λk=>by
 have:=listMul_foldl its.toArray k #[];simpa using this
theorem Vals.repN{xs:List V}{us:List AF}(r:Vals xs us):∀k:Nat,Vals (AV k xs).flatten (AV k us).flatten
 |0=>.nil
 |k+1=>by
  rw[CH,CH,D1,D1];exact r.append (Vals.repN r k)
section
variable {S:Se}{X:Cx}{p pos p2 px apos:CW}{a b:AT}{ca cb:Ce}
theorem zlI:OpR X (binaryOp .Mult) (λx y H Q=>∃a xs n,x=.ref a/\y=.int n/\SqT X.K H a xs/\xs≠[]/\2<=n/\n<=1000/\xs.length<=1000/\∀p,H p=AD->Q (.ref p) (upd H p (.tup (AV n.toNat xs).flatten))):=by
 intro pins s σ H x y v u Q I rx ry h;let⟨a,xs,n,rfl,rfl,ha,hx,h2,hn,hz,q⟩:=h
 cases rx
 let⟨t,rfl⟩:=ry;let⟨its,r1,p1,_⟩:=I.tuple ha;let⟨⟨cls,dd,data,sl⟩,ho,hc,m,hd⟩:=id p1;simp only at hc hd;subst hc hd;have hl:=r1.length;have hne:its≠[]:=λz=>hx (r1.nil_iff.mp z);have hmul:its.length*n.toNat<=1000*1000:=Ag (by lia) (by lia);have hmulI:(its.length:Int)*n<=1000000:=by
  have:((its.length*n.toNat:Nat):Int)=(its.length:Int)*n:=by rw[Int.natCast_mul,Cy (by lia)]
  lia
 have hfl:∀k,((AV k its).flatten).length=k*its.length:=λk=>by simp
 have hflx:((AV n.toNat xs).flatten).length<=sizeLine:=by
  rw[List.length_flatten,CY];erw[List.map_replicate,List.sum_replicate_nat];rw[hl,GS];lia
 refine D8 (T:="tuple") (U:="int") (by decide) ⟨_,ho,rfl⟩ (λs'=>FF s' n t) zaY FU Cj zcv FJ.lookup
  (FH Cj (FF s n t) FK (Es _ _) (zbx n t a its.toArray m dd sl)
   ⟨ho,rfl,⟨_,ho,rfl⟩,FH Cd ⟨_,ho,rfl⟩ Et (Ef _ _)
    (zgH a its.toArray m dd sl n t (by simp;lia) (by simp[hne];lia) (by simp[hne];lia) (by erw[AY];lia) (by erw[ES,AY];simp[CY];lia) (by rw[zdV,AY,hfl,CY,GS];lia)) ⟨ho,?_⟩⟩)
 rw[zdV];refine⟨.ref s.heap.objs.size,_,I.laid (t':=s.toks) (o:=.tup (AV n.toNat xs).flatten) (λb ob q=>AO _ q) (AS _) ?_,rfl,q _ (I.hok.fresh (AS _))⟩;exact⟨hflx,_,r1.repN n.toNat,F7 _ _⟩
theorem zlJ:OpR X (binaryOp .Mult) (λx y H Q=>∃a xs,x=.ref a/\y=.int 1/\SqT X.K H a xs/\Q (.ref a) H):=by
 intro pins s σ H x y v u Q I rx ry h;let⟨a,xs,rfl,rfl,ha,q⟩:=h
 cases rx
 let⟨t,rfl⟩:=ry;let⟨its,r1,p1,_⟩:=I.tuple ha;let⟨⟨cls,dd,data,sl⟩,ho,hc,m,hd⟩:=id p1;simp only at hc hd;subst hc hd;exact D8 (T:="tuple") (U:="int") (by decide) ⟨_,ho,rfl⟩ (λs'=>FF s' 1 t) zaY FU Cj zcv FJ.lookup
  (FH Cj (FF s 1 t) FK (Es _ _) (zbx 1 t a its.toArray m dd sl)
   ⟨ho,rfl,⟨_,ho,rfl⟩,FH Cd ⟨_,ho,rfl⟩ Et (Ef _ _) (zgv a its.toArray m dd sl t) ⟨ho,⟨.ref a,H,I,rfl,q⟩⟩⟩)
theorem yj.rep{K:AE}{cl:Nat->AI}{B:AI->Prop}{φ:Ph}{H:Hp}{vs:List PV}{xs:List V}(l:yj K cl B φ H vs xs):∀k:Nat,yj K cl B φ H (AV k vs).flatten (AV k xs).flatten
 |0=>by simp[yj]
 |k+1=>by
  rw[CH,CH,D1,D1];exact l.append (yj.rep l k)
theorem zeL(a:Array Nat):∀(k:Nat) (acc:Array Nat),((AV k a).foldl (·++·) acc).toList=acc.toList++(AV k a.toList).flatten
 |0,acc=>by simp
 |k+1,acc=>by
  rw[CH,DE,zeL a k (acc++a)];simp[CH]
theorem znO{x:AQ}{n:Int}(h1:1<=n)(h2:1<=x.length):Txt.mul x n=⟨(AV n.toNat x.cps.toList).flatten.toArray⟩:=by
 unfold Txt.mul;rw[if_neg (by lia)]
 by_cases q:n=1
 .subst q;rw[if_pos (by simp)]
  cases x
  simp
 .have:(n==1 || x.length==0)=false:=by simp[q];lia
  rw[if_neg (by rw[this];simp)]
  congr 1
  apply Array.toList_inj.mp;rw[zeL];simp
theorem zmo{x:AQ}{n:Int}(h1:1<=n)(h2:n<=1000)(h3:x.length<=1000)(h4:1<=x.length){pins:List (AI×CC)}{s:AJ}{σ:St}{H:Hp}{t u:Hc}{Q:VK}(I:Inv X pins σ H s)(q:Q (.str ⟨(AV n.toNat x.cps.toList).flatten.toArray⟩) H):
  A2 (model X.prog X.w) X.A (binaryOp .Mult (.str x t) (.int n u)) (EP X pins σ Q) X.xe s:=by
 have hm:x.length*n.toNat<=1000*1000:=Ag h3 (by lia);refine SB.mul ⟨by rw[decide_eq_false (by lia),decide_eq_false (by lia)];rfl,λ_ _=>?_,λ_ _=>?_⟩ λt' k=>?_
 .have h5:(x.length:Int)*n<=1000*1000:=ET (by lia) h2 (by lia) (by lia);have:=(Int.le_ediv_iff_mul_le (a:=(x.length:Int)) (b:=2^63-1) (show (0:Int)<n by lia)).2 (by lia);lia
 .unfold Builtin.Str.tooLong;rw[CY];exact decide_eq_false (by lia)
 .rw[znO h1 h4];exact⟨.str _,H,I.tok k,⟨_,rfl⟩,q⟩
theorem zol:OpR X (binaryOp .Mult) (rT2 S X ydz):=by
 rintro pins s σ H x y v u Q I rx ry ⟨B,φ,st,a,b,z,rs,ra,rb,e,q⟩
 unfold ydz at e;split at e
 .rename_i a n;split at e
  .rename_i c
   cases e
   erw[yg]at ra rb;subst ra rb;let⟨t1,rfl⟩:=rx;let⟨t2,rfl⟩:=ry;exact zmo c.1 c.2.1 c.2.2.1 c.2.2.2 I (q _ H φ .rfl rs (by erw[yg]))
  .cases e
 .rename_i k vs n;split at e
  .rename_i c
   cases e
   subst c;erw[yg]at rb;have ra':=ra;erw[yg]at ra';let⟨p,xs,rfl,rt,l⟩:=ra';exact zlJ pins s σ H _ _ v u Q I rx ry ⟨p,xs,rfl,rb,rt.sq,q _ H φ .rfl rs ra⟩
  split at e
  .rename_i c
   cases e
   erw[yg]at ra rb;subst rb;let⟨p,xs,rfl,rt,l⟩:=ra;have hl:=l.length;refine zlI pins s σ H _ _ v u Q I rx ry ⟨p,xs,n,rfl,rfl,rt.sq,?_,c.1,c.2.1,by rw[<-hl];exact c.2.2.2,λt ht=>q _ _ φ (.upd ht) (rs.upd ht) (.tup_new ht rs (l.rep n.toNat))⟩
   rintro rfl
   cases vs with
   |nil=>exact absurd c.2.2.1 (by simp)
   |cons _ _=>simp at hl
  .cases e
 .cases e
theorem zoP(ha:PE X a (tE S X ca))(hb:PE X b (tE S X cb)):PE X (.BinOp a .Mult b pos) (tE S X (.rep ca cb)):=
 (znM zol ha hb).imp λσ H Q ⟨B,φ,st,ρ,rs,re,h⟩=>by
  erw[ev]at h;refine tE.bind rs re h λx H1 v st1 φ1 s1 rs1 re1 rv h1=>tE.bind rs1 re1 h1 λy H2 w st2 φ2 s2 rs2 re2 rw h2=>?_;let⟨z,e,q⟩:=zae h2 rs2;exact⟨B,φ2,st2,v,w,z,rs2,rv.step s2,rw,e,q⟩
def GCI(mg:AQ->Option AF)(x:AQ)(i:Int):Prop:=∃t,mg x=AA (.int i t)
theorem zoO{x:AQ}{i:Int}(hg:Gl X x)(h:GCI X.mg x i)(hd:(x==("__debug__":AQ))=false:=by decide):PE X (.Name x pos) (tE S X (.cst (.int i))):=by
 let⟨t,hm⟩:=h;exact(zdb hg hm (show RelV (.int i) (.int i t)from ⟨t,rfl⟩) hd).imp λσ H Q ⟨B,φ,st,ρ,rs,re,h⟩=>by
  erw[ev]at h;exact h.ok rs (by erw[yg])
end
end L2
namespace WE
open PySem PySem.Spec PyProof.Rows
section
variable {prog:A9}{w:Al}{A:Ax}{E:AF->AJ->Prop}{s:AJ}
def ydN(h:BF)(a t:AI)(i:Int):Prop:=∃o,h.get? a=AA o/\o.cls=.type "reversed"/\o.data=.fields #[.ref t,rawInt i]
theorem ydN.typeIs{a t:AI}{i:Int}(x:ydN s.heap a t i):s.TypeIs (.ref a) "reversed":=let ⟨o,ho,hc,_⟩:=x;⟨o,ho,hc⟩
end
end WE
namespace L2
open PySem PySem.Spec PyProof.Rows
end L2
namespace L2
open PySem PySem.Spec PyProof.Rows IC
open Classical in
section
variable {S:Se}{X:Cx}{σ:St}{B:AI->Prop}{φ φ1:Ph}{H H1:Hp}{st:SO}{ρ:IC.Env}{p pos p2 px py pt pt2:CW}{a b c d o a' b' c' d':AT}{ca cb cc cd ce cf:Ce}{pins:List (AI×CC)}{s:AJ}{kt k2:Nat}{es:List AT}{ces:Ces}{x:AQ}
end
end L2
namespace IC
open PySem
end IC
namespace L2
open PySem PySem.Spec PyProof.Rows IC
section
variable {S:Se}{X:Cx}{σ:St}{B:AI->Prop}{φ:Ph}{H:Hp}{p p2 pos pos2 apos:CW}{a b tg:AT}{ca cb:Ce}
end
end L2
namespace WE
open PySem PySem.Spec PyProof.Rows
section
variable {pg:A9}{wd:Al}{A:Ax}{Er:AF->AJ->Prop}{s:AJ}
theorem tit_keep{h h':BF}{i t:AI}{j:Nat}(u:h.IsTupleIter i t j)(k:∀o,h.get? i=AA o->h'.get? i=AA o):h'.IsTupleIter i t j:=let ⟨o,g,r⟩:=u;⟨o,k o g,r⟩
theorem zcJ{h h':BF}{t:AI}{xs:Array AF}(u:h.IsTuple t xs)(k:∀o,h.get? t=AA o->h'.get? t=AA o):h'.IsTuple t xs:=let ⟨o,g,r⟩:=u;⟨o,k o g,r⟩
def Kz(z TO i1 i2:AI)(h h':BF):Prop:=∀c o,c≠z->c≠TO->c≠i1->c≠i2->h.get? c=AA o->h'.get? c=AA o
theorem zih{z TI TO i1 i2 l1 l2:AI}{j:Nat}{xs ys:Array AF}{x y a b:AF}{Q:AF->AJ->Prop}(D:GT z TI TO i1 i2 l1 l2)
  (gz:E9 s.heap z TI TO .none) (gI:C1 s.heap TI (.ref i1) (.ref i2)) (gO:C1 s.heap TO a b) (u1:s.heap.IsTupleIter i1 l1 j) (u2:s.heap.IsTupleIter i2 l2 j) (t1:s.heap.IsTuple l1 xs) (t2:s.heap.IsTuple l2 ys) (ex:xs[j]?=AA x) (ey:ys[j]?=AA y)
  (k:∀h',E9 h' z TI TO (rawInt s.heap.objs.size)->C1 h' TO x y->h'.IsTupleIter i1 l1 (j+1)->h'.IsTupleIter i2 l2 (j+1)->C1 h' s.heap.objs.size x y->h'.objs.size=s.heap.objs.size+1->Kz z TO i1 i2 s.heap h'->Q (.ref s.heap.objs.size) {s with heap:=h'}):
  A2 (model pg wd) A (F9.«zip.__next__» ⟨[.ref z],[]⟩) (λf s'=>∃v,f=.done (.ret v)/\Q v s') Er s:=by
 show A2 _ _ (field (.ref z) 2 >>= _) _ _ _;refine AH (BX gz rfl (x:=.bool AB) rfl ?_);show A2 _ _ (field (.ref z) 3 >>= _) _ _ _;refine AH (BX gz rfl (x:=.ref TI) rfl ?_);refine AH (C6 gI rfl ?_);show A2 _ _ (Bf (.ref z) >>= _) _ _ _;refine AH ?_;unfold Bf;refine AH (BX gz rfl (x:=.none) rfl (AU ?_));erw[if_true];refine AH (Ey ?_);refine AH (BX gz rfl (x:=.ref TO) rfl ?_);refine AH (Cf gz (by simp) λha za sa=>?_)
 replace za:E9 ha z TI TO .ellipsis:=za
 refine AH ?_;erw[Ga,Gq,FO,HF];refine AH (AH (Fm ?_));show A2 _ _ (BT (.ref i1) >>= _) _ _ _;refine AH (zcb (tit_keep u1 λo e=>sa.extBut _ _ D.i1z e) (zcJ t1 λo e=>sa.extBut _ _ D.l1z e) ex λhb ub sb=>AU ?_);have ob:C1 hb TO a b:=sb.extBut _ _ D.TOi1 (sa.extBut _ _ D.TOz gO);refine AH (C6 ob rfl ?_);refine AH (F1 ob λhc oc sc=>?_)
 replace oc:C1 hc TO x b:=oc
 refine AH (wpAny_letGo (AU ?_));refine AH (AH (Fm ?_));show A2 _ _ (BT (.ref i2) >>= _) _ _ _;refine AH (zcb (tit_keep u2 λo e=>sc.extBut _ _ D.TOi2.symm (sb.extBut _ _ D.i12.symm (sa.extBut _ _ D.i2z e))) (zcJ t2 λo e=>sc.extBut _ _ D.l2TO (sb.extBut _ _ D.l2i1 (sa.extBut _ _ D.l2z e))) ey λhd ud sd=>AU ?_);have od:C1 hd TO x b:=sd.extBut _ _ D.TOi2 oc;refine AH (C6 od rfl ?_);refine AH (F1 od λhe oe se=>?_)
 replace oe:C1 he TO x y:=oe
 refine AH (wpAny_letGo (AU (AU ?_)));refine AH (C6 oe rfl ?_);refine AH (wpAny_newTuple ?_);have sz:he.objs.size=s.heap.objs.size:=by rw[se.1,sd.1,sc.1,sb.1,sa.1]
 have ze:E9 he z TI TO .ellipsis:=se.extBut _ _ D.TOz.symm (sd.extBut _ _ D.i2z.symm (sc.extBut _ _ D.TOz.symm (sb.extBut _ _ D.i1z.symm za)));have ke:Kz z TO i1 i2 s.heap he:=λc o p1 p2 p3 p4 e=>se.extBut _ _ p2 (sd.extBut _ _ p4 (sc.extBut _ _ p2 (sb.extBut _ _ p3 (sa.extBut _ _ p1 e))));have v1:he.IsTupleIter i1 l1 (j+1):=tit_keep ub λo e=>se.extBut _ _ D.TOi1.symm (sd.extBut _ _ D.i12 (sc.extBut _ _ D.TOi1.symm e));have v2:he.IsTupleIter i2 l2 (j+1):=tit_keep ud λo e=>se.extBut _ _ D.TOi2.symm e;have lz:z<he.objs.size:=AX ze;show A2 _ _ (Cz (.ref z) (.ref he.objs.size) >>= _) _ _ _;refine AH ?_;unfold Cz;have zf:E9 (he.push {cls:=.type "tuple",data:=.seq #[x,y]}) z TI TO .ellipsis:=AO _ ze;refine AH (Cf zf (by simp) λhg zg sg=>?_)
 replace zg:E9 hg z TI TO (rawInt he.objs.size):=zg
 refine Cf zg (by simp) λhi zi si=>?_
 replace zi:E9 hi z TI TO (rawInt he.objs.size):=zi
 have up:∀c o,c≠z->he.get? c=AA o->hi.get? c=AA o:=λc o p e=>si.extBut _ _ p (sg.extBut _ _ p (AO _ e));have pn:C1 hi he.objs.size x y:=si.extBut _ _ (Ez lz) (sg.extBut _ _ (Ez lz) (A7 _ rfl));have si8:hi.objs.size=he.objs.size+1:=by rw[si.1,sg.1,Bv]
 rw[sz]at zi pn si8;refine AU ⟨_,rfl,?_⟩;show Q (.ref he.objs.size) _;rw[sz];exact k hi zi (up _ _ D.TOz oe) (tit_keep v1 λo e=>up _ o D.i1z e) (tit_keep v2 λo e=>up _ o D.i2z e) pn si8 λc o p1 p2 p3 p4 e=>up c o p1 (ke c o p1 p2 p3 p4 e)
theorem zjP{z TI TO i1 i2 l1 l2:AI}{j:Nat}{xs:Array AF}{a b:AF}{Q:Fin->AJ->Prop}(hh:A.handled=AD)(D:GT z TI TO i1 i2 l1 l2)
  (gz:E9 s.heap z TI TO .none) (gI:C1 s.heap TI (.ref i1) (.ref i2)) (gO:C1 s.heap TO a b) (u1:s.heap.IsTupleIter i1 l1 j) (t1:s.heap.IsTuple l1 xs) (ex:xs[j]?=AD)
  (k:∀h' e,Kz z TO i1 i2 s.heap h'->(∃o,h'.get? e=AA o/\o.cls=.type "StopIteration")->Er (.ref e) {s with heap:=h'}):
  A2 (model pg wd) A (F9.«zip.__next__» ⟨[.ref z],[]⟩) Q Er s:=by
 show A2 _ _ (field (.ref z) 2 >>= _) _ _ _;refine AH (BX gz rfl (x:=.bool AB) rfl ?_);show A2 _ _ (field (.ref z) 3 >>= _) _ _ _;refine AH (BX gz rfl (x:=.ref TI) rfl ?_);refine AH (C6 gI rfl ?_);show A2 _ _ (Bf (.ref z) >>= _) _ _ _;refine AH ?_;unfold Bf;refine AH (BX gz rfl (x:=.none) rfl (AU ?_));erw[if_true];refine AH (Ey ?_);refine AH (BX gz rfl (x:=.ref TO) rfl ?_);refine AH (Cf gz (by simp) λha za sa=>?_)
 replace za:E9 ha z TI TO .ellipsis:=za
 refine AH ?_;erw[Ga,Gq,FO,HF];refine AH (AH (Fm ?_));show A2 _ _ (BT (.ref i1) >>= _) _ _ _;refine AH (zfe hh (tit_keep u1 λo e=>sa.extBut _ _ D.i1z e) (zcJ t1 λo e=>sa.extBut _ _ D.l1z e) ex λhb e sb he=>?_);let⟨oe,ge,ce⟩:=he;have zb:E9 hb z TI TO .ellipsis:=sb _ _ D.i1z.symm za;have ne:e≠z:=λq=>by subst q;rw[zb]at ge;cases ge;simp at ce
 exact Cf zb (by simp) λhc _ sc=>k hc e (λc o p1 _ p3 _ q=>sc.extBut _ _ p1 (sb _ _ p3 (sa.extBut _ _ p1 q))) ⟨oe,sc.extBut _ _ ne ge,ce⟩
theorem pyNext_zipT{z TI TO i1 i2 l1 l2:AI}{j:Nat}{xs ys:Array AF}{x y a b:AF}{Q:Option AF->AJ->Prop}(D:GT z TI TO i1 i2 l1 l2)
  (gz:E9 s.heap z TI TO .none) (gI:C1 s.heap TI (.ref i1) (.ref i2)) (gO:C1 s.heap TO a b) (u1:s.heap.IsTupleIter i1 l1 j) (u2:s.heap.IsTupleIter i2 l2 j) (t1:s.heap.IsTuple l1 xs) (t2:s.heap.IsTuple l2 ys) (ex:xs[j]?=AA x) (ey:ys[j]?=AA y)
  (k:∀h',E9 h' z TI TO (rawInt s.heap.objs.size)->C1 h' TO x y->h'.IsTupleIter i1 l1 (j+1)->h'.IsTupleIter i2 l2 (j+1)->C1 h' s.heap.objs.size x y->h'.objs.size=s.heap.objs.size+1->Kz z TO i1 i2 s.heap h'->Q (AA (.ref s.heap.objs.size)) {s with heap:=h'}):
  A2 (model pg wd) A (pyNext (.ref z)) Q Er s:=by
 have ty:s.TypeIs (.ref z) "zip":=⟨_,gz,rfl⟩;unfold pyNext;exact AH (wpAny_attempt (Bi (name:=AG "__next__") ty Dy (C5 Dy ty Gb (zih D gz gI gO u1 u2 t1 t2 ex ey λh' a1 a2 a3 a4 a5 a6 a7=>AU (k h' a1 a2 a3 a4 a5 a6 a7)) (GU _))))
theorem pyNext_zipE{z TI TO i1 i2 l1 l2:AI}{j:Nat}{xs:Array AF}{a b:AF}{Q:Option AF->AJ->Prop}(hh:A.handled=AD)(D:GT z TI TO i1 i2 l1 l2)
  (gz:E9 s.heap z TI TO .none) (gI:C1 s.heap TI (.ref i1) (.ref i2)) (gO:C1 s.heap TO a b) (u1:s.heap.IsTupleIter i1 l1 j) (t1:s.heap.IsTuple l1 xs) (ex:xs[j]?=AD)
  (k:∀h',Kz z TO i1 i2 s.heap h'->Q AD {s with heap:=h'}):A2 (model pg wd) A (pyNext (.ref z)) Q Er s:=by
 have ty:s.TypeIs (.ref z) "zip":=⟨_,gz,rfl⟩;unfold pyNext;refine AH (wpAny_attempt (Bi (name:=AG "__next__") ty Dy (C5 Dy ty Gb (zjP hh D gz gI gO u1 t1 ex λh' e kk he=>?_) (GU _))));let⟨o,ho,hc⟩:=he;exact AH (wpAny_isInstance (T:="StopIteration") (b:=AC) ⟨o,ho,hc⟩ isSubtype_stop (AU (k _ kk)))
end
noncomputable abbrev ti(l:AI):Obj:={cls:=.type "tuple_iterator",data:=.fields #[.ref l,.int 0 0]}
abbrev zh1(h:BF)(l1:AI):Heap:=h.push (ti l1)
abbrev zh2(h:BF)(l1 l2:AI):Heap:=(zh1 h l1).push (ti l2)
abbrev zh3(h:BF)(l1 l2:AI):Heap:=(zh2 h l1 l2).push {cls:=.type "tuple",data:=.seq #[.ref h.objs.size,.ref (zh1 h l1).objs.size]}
abbrev zh4(h:BF)(l1 l2:AI):Heap:=(zh3 h l1 l2).push {cls:=.type "tuple",data:=.seq #[.none,.none]}
abbrev zh5(h:BF)(l1 l2:AI):Heap:=(zh4 h l1 l2).push {cls:=.type "zip",data:=.fields #[.none,.bool AB,.bool AB,.ref (zh2 h l1 l2).objs.size,.ref (zh3 h l1 l2).objs.size]}
theorem zgU(l1 l2:AI)(xs ys:Array AF):
  Meets (F9.«zip.__new__» ⟨[.type "zip",.ref l1,.ref l2],[]⟩) (λ_ R s=>s.heap.IsTuple l1 xs/\s.heap.IsTuple l2 ys/\R (.ok (.ret (.ref (zh4 s.heap l1 l2).objs.size))) {s with heap:=zh5 s.heap l1 l2}):=
 .of_wp λprog w A R s h=>by
  let⟨hp,g,d,tk,os⟩:=s;let⟨q1,q2,h⟩:=h;have hsub:=sub_zip;have T1:GM (Gi ⟨hp,g,d,tk,os⟩) l1 xs:=q1;have T2:GM (Gi ⟨hp.push (ti l1),g,d,tk,os⟩) l2 ys:=zcJ q2 λo e=>AO _ e
  wp_walk using CS T1,CS T2
  exact⟨_,rfl,h⟩
theorem call_zipT{pg:A9}{wd:Al}{A:Ax}{Er:AF->AJ->Prop}{s:AJ}{l1 l2:AI}{xs ys:Array AF}{Q:AF->AJ->Prop}(t1:s.heap.IsTuple l1 xs)(t2:s.heap.IsTuple l2 ys)
  (k:∀h',E9 h' (s.heap.objs.size+4) (s.heap.objs.size+2) (s.heap.objs.size+3) .none->C1 h' (s.heap.objs.size+2) (.ref s.heap.objs.size) (.ref (s.heap.objs.size+1))->C1 h' (s.heap.objs.size+3) .none .none->h'.IsTupleIter s.heap.objs.size l1 0->h'.IsTupleIter (s.heap.objs.size+1) l2 0 ->
   (∀b o,s.heap.get? b=AA o->h'.get? b=AA o)->Q (.ref (s.heap.objs.size+4)) {s with heap:=h'}):A2 (model pg wd) A (call (.type "zip") [.ref l1,.ref l2]) Q Er s:=by
 refine callType_new F.called_zip (by decide) (F.typeCall_zip_2 _ _) (F.newCall_zip_2 _ _) (λobj=>F.args_object_init_3 obj _ _) F.entry_zip_new (zgU l1 l2 xs ys) ⟨t1,t2,?_⟩;have n1:(zh1 s.heap l1).objs.size=s.heap.objs.size+1:=Bv ..;have n2:(zh2 s.heap l1 l2).objs.size=s.heap.objs.size+2:=by rw[Bv,n1]
 have n3:(zh3 s.heap l1 l2).objs.size=s.heap.objs.size+3:=by rw[Bv,n2]
 have n4:(zh4 s.heap l1 l2).objs.size=s.heap.objs.size+4:=by rw[Bv,n3]
 have kp:∀{h:BF} {o:CC} {b:AI} {u:CC},h.get? b=AA u->(h.push o).get? b=AA u:=λe=>AO _ e;have m5:(zh5 s.heap l1 l2).get? (zh4 s.heap l1 l2).objs.size=AA _:=A7 _ rfl;have m4:(zh5 s.heap l1 l2).get? (zh3 s.heap l1 l2).objs.size=AA _:=kp (A7 _ rfl);have m3:(zh5 s.heap l1 l2).get? (zh2 s.heap l1 l2).objs.size=AA _:=kp (kp (A7 _ rfl));have m2:(zh5 s.heap l1 l2).get? (zh1 s.heap l1).objs.size=AA _:=kp (kp (kp (A7 _ rfl)));have m1:(zh5 s.heap l1 l2).get? s.heap.objs.size=AA _:=kp (kp (kp (kp (A7 _ rfl))));rw[n2,n3,n4]at m5;rw[n1,n2]at m3;rw[n3]at m4;rw[n1]at m2;show _/\_;rw[n4];exact⟨⟨_,m5,rfl⟩,k _ m5 m3 m4 ⟨_,m1,rfl,rfl⟩ ⟨_,m2,rfl,rfl⟩ λb o e=>kp (kp (kp (kp (kp e))))⟩
end WE
namespace L2
open PySem PySem.Spec PyProof.Rows
noncomputable def Itz(K:AE)(a b:AI):It:=
 ⟨λi H=>∃xs ys x y,SqT K H a xs/\SqT K H b ys/\xs[i]?=AA x/\ys[i]?=AA y,λi H v H'=>∃T,H T=AD/\v=.ref T/\∀xs ys x y,SqT K H a xs->SqT K H b ys->xs[i]?=AA x->ys[i]?=AA y->H'=upd H T (.tup [x,y]),λi H=>∃xs,SqT K H a xs/\xs.length=i⟩
theorem zhm{P:A9}{w:Al}{K:AE}{es:List AT}{kk:Nat}{pos:CW}(z TI TO i1 i2 a b:AI)(D:GT z TI TO i1 i2 a b):
  Turn P w K (.Tuple es kk pos) (Itz K a b) [z,TI,TO,i1,i2] z (λi h=>E9 h z TI TO .none/\C1 h TI (.ref i1) (.ref i2)/\(∃p q,C1 h TO p q)/\h.IsTupleIter i1 a i/\h.IsTupleIter i2 b i) where
 mem:=by simp
 obj:=λi h st c hc=>by
  let⟨g0,g1,⟨p,q,g2⟩,⟨o3,g3,_,d3⟩,⟨o4,g4,_,d4⟩⟩:=st;erw[AN,A4,or_false]at hc;rcases hc with rfl|rfl|rfl|rfl|rfl
  .exact⟨_,g0,λv y=>nomatch y⟩
  .exact⟨_,g1,λv y=>nomatch y⟩
  .exact⟨_,g2,λv y=>nomatch y⟩
  .exact⟨o3,g3,λv y=>by rw[d3]at y;cases y⟩
  .exact⟨o4,g4,λv y=>by rw[d4]at y;cases y⟩
 keep:=λi h h' st k=>by
  let⟨g0,g1,⟨p,q,g2⟩,g3,g4⟩:=st;exact⟨k z (by simp) _ g0,k TI (by simp) _ g1,⟨p,q,k TO (by simp) _ g2⟩,WE.tit_keep g3 λo e=>k i1 (by simp) o e,WE.tit_keep g4 λo e=>k i2 (by simp) o e⟩
 item:=by
  intro X hP hw hK hc i pins s σ H E I hf st hg;subst hP hw hK;let⟨xs,ys,x,y,hq1,hq2,hx,hy⟩:=hg;let⟨its,rv,p1,_⟩:=I.tuple hq1;let⟨jts,rw',p2,_⟩:=I.tuple hq2;let⟨g0,g1,⟨p,q,g2⟩,g3,g4⟩:=st;let⟨u,hu,ru⟩:=rv.get hx;let⟨v,hv,rv2⟩:=rw'.get hy;refine WE.pyNext_zipT D g0 g1 g2 g3 g4 p1 p2 (by simpa using hu) (by simpa using hv) λh1 a1 a2 a3 a4 a5 a6 a7=>⟨_,rfl,?_⟩;refine wpAny_letOwnedTupleGo_zip a1 λh2 b1 b2=>?_;have lt:∀{c o},s.heap.get? c=AA o->s.heap.objs.size≠c:=λe=>Ez (AX e);have hTz:s.heap.objs.size≠z:=lt g0;have hch:∀c o,c∉[z,TI,TO,i1,i2]->s.heap.get? c=AA o->h2.get? c=AA o:=λc o hn e=>b2.extBut _ _ (λz'=>hn (by simp[z'])) (a7 c o (λz'=>hn (by simp[z'])) (λz'=>hn (by simp[z'])) (λz'=>hn (by simp[z'])) (λz'=>hn (by simp[z'])) e);have new:yai X.prog X.w (upd H s.heap.objs.size (.tup [x,y])) h2 s.heap.objs.size (.tup [x,y]):=⟨by show 2<=sizeLine;decide,[u,v],.cons ru (.cons rv2 .nil),_,b2.extBut _ _ hTz a5,rfl,_,rfl⟩;have I2:=I.turnLaid (t':=s.toks) hf hch (AS _) new;have gI:C1 h1 TI (.ref i1) (.ref i2):=a7 _ _ D.TIz D.TITO D.TIi1 D.TIi2 g1;refine⟨.ref s.heap.objs.size,_,I2,rfl,⟨s.heap.objs.size,I.hok.fresh (AS _),rfl,λxs' ys' x' y' hx1 hy1 hx2 hy2=>?_⟩,⟨b1,b2.extBut _ _ D.TIz gI,⟨_,_,b2.extBut _ _ D.TOz a2⟩,WE.tit_keep a3 λo e=>b2.extBut _ _ D.i1z e,WE.tit_keep a4 λo e=>b2.extBut _ _ D.i2z e⟩,λc hc=>?_⟩
  .rw[I.tuple_inj hx1 hq1,hx]at hx2;rw[I.tuple_inj hy1 hq2,hy]at hy2
   cases hx2
   cases hy2
   rfl
  .have hne:c≠s.heap.objs.size:=λz'=>by
    subst z';let⟨o3,e3,_⟩:=g3;let⟨o4,e4,_⟩:=g4;erw[AN,A4,or_false]at hc;rcases hc with z' | z' | z' | z' | z'
    .exact lt g0 z'
    .exact lt g1 z'
    .exact lt g2 z'
    .exact lt e3 z'
    .exact lt e4 z'
   rw[zk hne];exact(hf c hc).1
 done:=by
  intro X hP hw hK hc i pins s σ H E I hf st hg;subst hP hw hK;let⟨xs,hq1,hx⟩:=hg;let⟨its,rv,p1,_⟩:=I.tuple hq1;let⟨g0,g1,⟨p,q,g2⟩,g3,g4⟩:=st;have hl:=rv.length;refine WE.pyNext_zipE (I.ok.hd hc) D g0 g1 g2 g3 p1 (by simp;lia) λh' kz=>⟨rfl,I.turnedL (t':=s.toks) hf λc o hn e=>kz c o (λz'=>hn (by simp[z'])) (λz'=>hn (by simp[z'])) (λz'=>hn (by simp[z'])) (λz'=>hn (by simp[z'])) e⟩
 self:=λ_ _ _ _ _ st q=>Gc st.1 q
def yf1(K:AE)(ta:TA):TI:=λσ H R=>ta σ H λvs H1=>∃a b,vs=[.ref a,.ref b]/\(∃xs,SqT K H1 a xs)/\(∃ys,SqT K H1 b ys)/\R (Itz K a b) H1
theorem zlX{X:Cx}{a b:AT}{es:List AT}{kk:Nat}{tp:CW}{ta:TA}{p pos:CW}(hg:Gl X "zip")(hm:X.mg "zip"=AD)(ha:PA X [a,b] ta)(hs:starEach [a,b] X.env=[(AB,eval a X.env),(AB,eval b X.env)]:=by rfl)(hs2:starEach [b] X.env=[(AB,eval b X.env)]:=by rfl):
  PI X (.Tuple es kk tp) (.Call (.Name "zip" p) [a,b] [] pos) (yf1 X.K ta):=by
 intro pins s σ H R I h;refine B2 (zdN I hg hm boot_zip ?_);refine CJ (thn (ha pos pins s σ H _ I h) λus s1 kq=>?_) (by rw[hs,hs2]) (by rw[hs2];rfl);let⟨vs,H1,I1,r1,q1⟩:=kq;let⟨l1,l2,rfl,⟨xs,hq1⟩,⟨ys,hq2⟩,q⟩:=q1
 cases r1 with
 |cons r rr=>
  cases rr with
  |cons r2 r3=>
   cases r3
   cases (show _=Ai l1 from r)
   cases (show _=Ai l2 from r2)
   let⟨its,rv,pt1,_⟩:=I1.tuple hq1;let⟨jts,rv2,pt2,_⟩:=I1.tuple hq2;have b1:l1<s1.heap.objs.size:=by let⟨_,e,_⟩:=pt1;exact AX e
   have b2:l2<s1.heap.objs.size:=by let⟨_,e,_⟩:=pt2;exact AX e
   refine WE.call_zipT pt1 pt2 λh1 g0 g1 g2 g3 g4 kp=>?_;refine Gc g0 ?_;refine⟨_,[s1.heap.objs.size+4,s1.heap.objs.size+2,s1.heap.objs.size+3,s1.heap.objs.size,s1.heap.objs.size+1],_,_,H1,rfl,I1.kept (t':=s1.toks) kp,zhm _ _ _ _ _ l1 l2 (zipApart_new b1 b2),⟨g0,g1,⟨_,_,g2⟩,g3,g4⟩,λc hc=>?_,q⟩;have hb2:s1.heap.objs.size<=c:=by
    erw[AN,A4,or_false]at hc;rcases hc with z' | z' | z' | z' | z'<;>subst z'
    .exact De _ 4
    .exact De _ 2
    .exact De _ 3
    .exact AS _
    .exact De _ 1
   exact I1.fpOk hb2 (I1.hok.fresh hb2)
end L2
namespace L2
open PySem PySem.Spec PyProof.Rows IC
inductive ycq(K:AE)(cl:Nat->AI)(w:Al):List (AQ×PV)->List CM->Prop
 |nil:ycq K cl w [] []
 |cons {k:AQ} {v:PV} {t:Hc} {u:AF} {x:V} {D:List (AQ×PV)} {es:List CM} (hr:RelV x u) (hv:∀B φ H,yg K cl B φ H v x) (h:ycq K cl w D es):ycq K cl w ((k,v)::D) (⟨EU w.params k,.str k t,u⟩ :: es)
def GD(K:AE)(w:Al)(mg:AQ->Option AF)(cl:Nat->AI)(x:AQ)(D:List (AQ×PV)):Prop:=
 ∃(y:AI) (es:Array CM) (ep:Nat),mg x=AA (.ref y)/\K.lookup y=AA ⟨.type "dict",AD,.dict es ep,#[]⟩/\(y==sysModules)=AB/\ycq K cl w D es.toList/\(D.map (·.1)).Nodup
theorem ycq.pairs{K:AE}{cl:Nat->AI}{P:A9}{w:Al}{D:List (AQ×PV)}{es:List CM}(h:ycq K cl w D es):
  ∃vs:List (AQ×AF),Pairs (strKind P w) es vs/\(∀e∈es,∃k,(strKind P w).is k e.key=AC/\e.hash=(strKind P w).hash k)/\vs.map (·.1)=D.map (·.1) /\
   (∀s,(valueAt vs s).isSome=(yaV s D).isSome)/\∀s v,yaV s D=AA v->∃u x,valueAt vs s=AA u/\RelV x u/\∀B φ H,yg K cl B φ H v x:=by
 induction h with
 |nil=>exact⟨[],.nil,λe he=>(by cases he),rfl,λs=>rfl,λs v e=>by cases e⟩
 |@cons k v t u x D es hr hv h ih=>
  let⟨vs,h1,h2,h3,h4,h5⟩:=ih;have hat:∀s,valueAt ((k,u)::vs) s=if k=s then AA u else valueAt vs s:=λs=>by
   unfold valueAt;rw[CF]
   by_cases e:k=s
   .simp[e]
   .simp[e]
  refine⟨(k,u)::vs,.cons (Dh P w k t) rfl h1,λe he=>?_,by rw[AL,AL,h3],λs=>?_,λs v' e=>?_⟩
  .rcases AN.1 he with rfl|he
   .exact⟨k,Dh P w k t,rfl⟩
   .exact h2 e he
  .rw[hat,yaV]
   by_cases e:k=s
   .rw[if_pos e,if_pos (by simpa using e)];rfl
   .rw[if_neg e,if_neg (by simpa using e),h4]
  .rw[yaV]at e;rw[hat]
   by_cases q:k=s
   .rw[if_pos (by simpa using q)]at e
    cases e
    exact⟨u,x,by rw[if_pos q],hr,hv⟩
   .rw[if_neg (by simpa using q)]at e;let⟨u',x',e1,e2,e3⟩:=h5 s v' e;exact⟨u',x',by rw[if_neg q];exact e1,e2,e3⟩
section
variable {S:Se}{X:Cx}{σ:St}{B:AI->Prop}{φ:Ph}{H:Hp}{st:SO}{pos p:CW}{a b i:AT}{ca cb:Ce}{x:AQ}{D:List (AQ×PV)}{ty:TE}
theorem ziD{y:AI}{es:Array CM}{ep:Nat}{pins:List (AI×CC)}{s:AJ}(I:Inv X pins σ H s)(hk:X.K.lookup y=AA ⟨.type "dict",AD,.dict es ep,#[]⟩)(hn:(D.map (·.1)).Nodup){vs:List (AQ×AF)}(h1:Pairs (strKind X.prog X.w) es.toList vs)
  (h2:∀e∈es.toList,∃k,(strKind X.prog X.w).is k e.key=AC/\e.hash=(strKind X.prog X.w).hash k) (h3:vs.map (·.1)=D.map (·.1)):s.heap.DictOf (strKind X.prog X.w) y vs:=
 ⟨_,es,ep,I.kIn y _ hk,⟨rfl,rfl,rfl⟩,rfl,λe he=>h2 e (by simpa using he),h1,by rw[h3];exact hn⟩
def yeD(S:Se)(X:Cx)(D:List (AQ×PV))(ty:TE):TE:=λσ H Q=>ty σ H λz H2=>∃s v,z=.str s/\yaV s D=AA v/\∀x',(∀B φ H,yg X.K S.cl B φ H v x')->Q x' H2
theorem zmK(hg:Gl X x)(h:GD X.K X.w X.mg S.cl x D)(hi:PE X i ty)(hs:yc8 i)(hd:(x==("__debug__":AQ))=false:=by decide):PE X (.Subscript (.Name x p) i pos) (yeD S X D ty):=by
 let⟨y,es,ep,hm,hk,hsy,hr,hn⟩:=h;let⟨vs,h1,h2,h3,h4,h5⟩:=hr.pairs (P:=X.prog);intro pins s σ H Q I q0;refine zhM E5.lookup hs (thn (zdb (v:=.ref y) hg hm rfl hd pins s σ H (λz H1=>z=.ref y/\ty σ H1 λz H2=>∃s v,z=.str s/\yaV s D=AA v/\∀x',(∀B φ H,yg X.K S.cl B φ H v x')->Q x' H2) I ⟨rfl,q0⟩) λu s1 kq=>?_);let⟨z,H1,I1,rz,ez,q1⟩:=kq;refine thn (hi pins s1 σ H1 _ I1 q1) λiv s2 kq=>?_;let⟨z2,H2,I2,rz2,sx,v,ez2,e,q2⟩:=kq;subst ez;subst ez2;obtain rfl:u=Ai y:=rz;let⟨t,rfl⟩:=rz2;have dd:=ziD I2 hk hn h1 h2 h3;let⟨u',x',e1,e2,e3⟩:=h5 sx v e;exact⟨dd.typeIs,Gd (Dh X.prog X.w sx t) dd.mapOf e1 ⟨x',H2,I2.tok _,e2,q2 x' e3⟩⟩
theorem zns(hg:Gl X x)(h:GD X.K X.w X.mg S.cl x D)(hb:PE X b (tE S X cb))(hs:yc8 b:=by exact λ_ _=>rfl)(hd:(x==("__debug__":AQ))=false:=by decide):PE X (.Subscript (.Name x p) b pos) (tE S X (.dix D cb)):=
 (zmK hg h hb hs hd).imp λσ H Q ⟨B,φ,st,ρ,rs,re,h⟩=>by
  erw[ev]at h;refine tE.bind rs re h λz H1 v st1 φ1 s1 rs1 re1 rv h1=>?_;let⟨w,e,q⟩:=zae h1 rs1
  cases v with
  |str sx=>
   erw[yg]at rv;exact⟨sx,w,rv,e,λx' hx=>q x' H1 φ1 .rfl rs1 (hx _ _ _)⟩
  |_=>cases e
def yfP(y:AI)(D:List (AQ×PV)):R2:=λx z H Q=>z=.ref y/\∃s,x=.str s/\Q (.bl (yaV s D).isSome) H
theorem zoE(hg:Gl X x)(h:GD X.K X.w X.mg S.cl x D)(ha:PE X a (tE S X ca))(hm:behindInMarks .In (.Name x p)=false:=by ac_rfl)(hd:(x==("__debug__":AQ))=false:=by decide):PE X (.Compare a [.In] [.Name x p] pos) (tE S X (.din ca D)):=by
 let⟨y,es,ep,hmg,hk,hsy,hr,hn⟩:=h;let⟨vs,h1,h2,h3,h4,h5⟩:=hr.pairs (P:=X.prog);have op:OpR X (compareOp .In) (yfP y D):=by
  intro pins s σ H z1 z2 v u Q I r1 r2 ⟨ez,sx,ex,q⟩;subst ez;subst ex;obtain rfl:u=Ai y:=r2;let⟨t,rfl⟩:=r1;have dd:=ziD I hk hn h1 h2 h3;refine wpAny_in_of (Dh X.prog X.w sx t) hsy dd.mapOf ⟨.bl (yaV sx D).isSome,H,I.tok _,?_,q⟩;rw[h4];rfl
 refine(zhw op ha (zdb (v:=.ref y) hg hmg rfl hd) hm).imp λσ H Q kq=>?_;let⟨B,φ,st,ρ,rs,re,h⟩:=kq;erw[ev]at h;refine tE.bind rs re h λz H1 v st1 φ1 s1 rs1 re1 rv h1=>?_;let⟨w,e,q⟩:=zae h1 rs1
 cases v with
 |str sx=>
  erw[yg]at rv
  cases e
  exact⟨rfl,sx,rv,q _ H1 φ1 .rfl rs1 (by erw[yg])⟩
 |_=>cases e
theorem ze7:∀(xs ys:List PV) (i:Nat) {x y:PV},xs[i]?=AA x->ys[i]?=AA y->(yaY xs ys)[i]?=AA (.tup [x,y])
 |[],_,i,_,_,h,_=>by simp at h
 |_::_,[],i,_,_,_,h=>by simp at h
 |x::xs,y::ys,0,_,_,h1,h2=>by simp at h1 h2;simp[yaY,h1,h2]
 |x::xs,y::ys,i+1,_,_,h1,h2=>by
  erw[Ac]at h1 h2;erw[yaY,Ac];exact ze7 xs ys i h1 h2
theorem zeZ:∀(xs ys:List PV),xs.length<=ys.length->(yaY xs ys).length=xs.length
 |[],_,_=>by simp[yaY]
 |_::_,[],h=>by simp at h
 |x::xs,y::ys,h=>by erw[yaY,AZ,zeZ xs ys (by simpa using h)]
theorem zli{k j:Bool}{vs ws:List PV}{xs ys:List V}{y z:AI}(rt:ybS X.K B φ H k y xs)(l:yj X.K S.cl B φ H vs xs)(rt2:ybS X.K B φ H j z ys)(l2:yj X.K S.cl B φ H ws ys)(hle:vs.length<=ws.length):Drw S X B φ H (yaY vs ws) (Itz X.K y z):=by
 have hl:=l.length;have hl2:=l2.length;have hp:=zeZ vs ws hle;refine⟨λφ' H' s=>⟨xs,(rt.step s).sq,by lia⟩,λi φ' H' s hi=>⟨xs,ys,xs[i]'(by lia),ys[i]'(by lia),(rt.step s).sq,(rt2.step s).sq,by simp[show i<xs.length by lia],by simp[show i<ys.length by lia]⟩,λi φ' H' st x H2 B' hB s rs hi q=>?_⟩;let⟨T,hT,rfl,q⟩:=q;obtain⟨v,hv⟩:∃v,vs[i]?=AA v:=⟨vs[i]'(by lia),by simp[show i<vs.length by lia]⟩;obtain⟨w,hw⟩:∃w,ws[i]?=AA w:=⟨ws[i]'(by lia),by simp[show i<ws.length by lia]⟩;let⟨x',hx',rv⟩:=l.get i hv;let⟨y',hy',rw'⟩:=l2.get i hw;have e:=q xs ys x' y' (rt.step s).sq (rt2.step s).sq hx' hy';subst e;refine⟨.tup [v,w],ze7 vs ws i hv hw,.tup_new hT rs ?_,λb o e=>by rw[zk (zn e hT)];exact e⟩;erw[yj];exact⟨x',[y'],rfl,(rv.moreB hB).step s,y',[],rfl,(rw'.moreB hB).step s,rfl⟩
theorem zmW{es:List AT}{kk:Nat}{tp:CW}(hg:Gl X "zip")(hm:X.mg "zip"=AD)(ha:PE X a (tE S X ca))(hb:PE X b (tE S X cb))(hs:starEach [a,b] X.env=[(AB,eval a X.env),(AB,eval b X.env)]:=by rfl)(hs2:starEach [b] X.env=[(AB,eval b X.env)]:=by rfl):
  PI X (.Tuple es kk tp) (.Call (.Name "zip" p) [a,b] [] pos) (tI S X (.zip ca cb)):=
 (zlX hg hm (zbC ha (zbC hb ybr hs2) (by rw[hs,hs2])) hs hs2).imp λσ H R ⟨B,φ,st,ρ,rs,re,h⟩=>by
  erw[evi]at h;refine tE.bind rs re h λx H1 v st1 φ1 s1 rs1 re1 rv h1=>tE.bind rs1 re1 h1 λy H2 w st2 φ2 s2 rs2 re2 rw h2=>?_;let⟨zs,e,h2⟩:=zhV h2
  cases v with
  |tp k vs=>
   cases w with
   |tp j ws=>
    erw[yd2]at e
    by_cases hle:vs.length<=ws.length
    .rw[if_pos hle]at e
     cases e
     erw[yg]at rv rw;let⟨a1,xs,rfl,rt,l⟩:=rv;let⟨a2,ys,rfl,rt2,l2⟩:=rw;exact⟨a1,a2,rfl,⟨xs,(rt.step s2).sq⟩,⟨ys,rt2.sq⟩,h2.ok rs2 (zli (rt.step s2) (l.step s2) rt2 l2 hle)⟩
    .rw[if_neg hle]at e
     cases e
   |_=>cases e
  |_=>cases e
end
section
variable {K:AE}{cl:Nat->AI}{B:AI->Prop}{φ:Ph}{H:Hp}{st:SO}
end
section
variable {S:Se}{X:Cx}{K:AE}{cl:Nat->AI}{σ:St}{B:AI->Prop}{φ φ1:Ph}{H H1:Hp}{st:SO}{ρ:IC.Env}{pos p p2 px:CW}{a b c o tg l elt iter:AT}{ca cb cc ce:Ce}{ci:Cit}{ct:Tg}
end
section
variable {K:AE}{cl:Nat->AI}{B:AI->Prop}{φ:Ph}{H:Hp}{st:SO}
theorem FS.lookup{f:AQ}:∀{fs:List (AQ×PV)} {ks:List (AQ×V)},FS K cl B φ H fs ks->(∀v,fs.lookup f=AA v->∃x,ks.lookup f=AA x/\yg K cl B φ H v x)/\(fs.lookup f=AD->ks.lookup f=AD)
 |[],ks,h=>by
  cases (show ks=[]from h)
  exact⟨nofun,λ_=>rfl⟩
 |(k,v)::r,ks,h=>by
  let⟨x,s,rfl,rv,l⟩:=h;let⟨q1,q2⟩:=FS.lookup (f:=f) l;erw[Bu]
  cases e:f==k with
  |true=>exact⟨λw z=>by cases z;exact⟨x,rfl,rv⟩,λz=>by cases z⟩
  |false=>exact⟨q1,q2⟩
theorem FS.put{f:AQ}{v:PV}{x:V}(r:yg K cl B φ H v x):∀{fs:List (AQ×PV)} {ks:List (AQ×V)},FS K cl B φ H fs ks->FS K cl B φ H (ybR f v fs) (yba f x ks)
 |[],ks,h=>by
  cases (show ks=[]from h)
  exact⟨x,[],rfl,r,rfl⟩
 |(k,w)::q,ks,h=>by
  let⟨y,s,rfl,ry,l⟩:=h;erw[ybR,yba]
  by_cases c:k=f
  .rw[if_pos c,if_pos c];exact⟨x,s,rfl,r,l⟩
  .rw[if_neg c,if_neg c];exact⟨y,_,rfl,ry,FS.put r l⟩
theorem FS.len:∀{fs:List (AQ×PV)} {ks:List (AQ×V)},FS K cl B φ H fs ks->fs.length=ks.length
 |[],ks,h=>by cases (show ks=[]from h);rfl
 |(k,w)::q,ks,h=>by
  let⟨y,s,rfl,ry,l⟩:=h;simp[FS.len l]
theorem yH.ins{n c:Nat}{fs:List (AQ×PV)}{x:V}(rs:yH K cl B φ H st)(r:yg K cl B φ H (.loc n) x)(h:st[n]?=AA (.ins c fs)):∃y ks dx,x=.ref y/\φ[n]?=AA (AA y)/\H y=AA (.ins (cl c) dx ks)/\FS K cl B φ H fs ks:=by
 erw[yg]at r;let⟨hn,y,rfl,hy⟩:=r;let⟨a,ha⟩:=rs.liv n _ h (by intro z;cases z);let⟨o,ho,ro⟩:=rs.obj n a ha;have e:=hy a ha;subst e;rw[h]at ho
 cases ho
 let⟨ks,⟨dx,q⟩,l⟩:=ro;exact⟨a,ks,dx,rfl,ha,q,l⟩
end
section
variable {S:Se}{X:Cx}{σ:St}{B:AI->Prop}{φ φ1:Ph}{H H1:Hp}{st:SO}{ρ:IC.Env}{p pos pos' p2 apos:CW}{a b d o e:AT}{ca cb cc:Ce}{es:List AT}{ces:Ces}{c i k:Nat}{f m x:AQ}{fa:AI}{fd:BG}{ps:List AQ}
theorem zgh{st:SO}{x v:PV}(h:ya6 c st x f=AA v):∃n fs,x=.loc n/\st[n]?=AA (.ins c fs)/\fs.lookup f=AA v:=by
 cases x with
 |loc n=>
  erw[ya6]at h;split at h
  .rename_i dd fs e;split at h
   .rename_i q;subst q;exact⟨n,fs,rfl,e,h⟩
   .cases h
  .cases h
 |_=>cases h
theorem zfT{st st4:SO}{x v:PV}(h:ya9 c st x f v=AA st4):∃n fs,x=.loc n/\st[n]?=AA (.ins c fs)/\fs.length<1000/\st4=st.set n (.ins c (ybR f v fs)):=by
 cases x with
 |loc n=>
  erw[ya9]at h;split at h
  .rename_i dd fs e;split at h
   .rename_i q;let⟨q,q2⟩:=q;subst q
    cases h
    exact⟨n,fs,rfl,e,q2,rfl⟩
   .cases h
  .cases h
 |_=>cases h
theorem zjc{st:SO}{x:PV}{t:Bool}(h:ycc c m st x=AA t):∃n fs,x=.loc n/\st[n]?=AA (.ins c fs)/\fs.lookup m=none:=by
 cases x with
 |loc n=>
  erw[ycc]at h;split at h
  .rename_i dd fs e;split at h
   .rename_i q;let⟨q,q2⟩:=q;subst q;exact⟨n,fs,rfl,e,q2⟩
   .cases h
  .cases h
 |_=>cases h
theorem zn8(hc:Cls X.K (S.cl c))(hn:yax X.K (S.cl c) f)(ha:PE X a (tE S X ca))(hb:attributeBase a f X.env (eval a X.env)=eval a X.env:=by rfl):PE X (.Attribute a f pos) (tE S X (.fld c ca f)):=
 (znI ha hb).imp λσ H Q ⟨B,φ,st,ρ,rs,re,h⟩=>by
  erw[ev]at h;refine tE.bind rs re h λx H1 v st1 φ1 s1 rs1 re1 rv h1=>?_;let⟨z,e,q⟩:=zae h1 rs1;let⟨n,fs,rfl,hn',l⟩:=zgh e;let⟨y,ks,dx,rfl,_,hy,lr⟩:=rs1.ins rv hn';let⟨x,hx,rx⟩:=lr.lookup.1 z l;exact⟨y,S.cl c,dx,ks,x,rfl,hy,hc,hn,hx,q x H1 φ1 .rfl rs1 rx⟩
theorem zpg(hc:Cls X.K (S.cl c))(hn:yax X.K (S.cl c) f)(ha:PE X a (tE S X ca))(hv:PE X b (tE S X cb))(hs:swapsWith b (AA (.Attribute a f pos')) pos.line X.env=pure false:=by rfl):PS X (.Assign [.Attribute a f pos'] b pos) (tS S X (.sfl c ca f cb)):=
 (znq ha hv hs).imp λD σ H ⟨B,φ,st,ρ,rs,re,h⟩=>by
  erw[ex]at h;refine tE.fl rs re h λv' H1 v st1 φ1 s1 rs1 re1 rv h1=>tE.fl rs1 re1 h1 λx' H2 x st2 φ2 s2 rs2 re2 rx h2=>?_
  cases e:ya9 c st2 x f v with
  |none=>rw[e]at h2;exact h2.elim
  |some st4=>
   rw[e]at h2;let⟨n,fs,rfl,hn',hl,rfl⟩:=zfT e;let⟨y,ks,dx,rfl,hp,hy,lr⟩:=rs2.ins rx hn';refine⟨y,S.cl c,dx,ks,rfl,hy,hc,hn,by rw[<-lr.len];exact hl,?_⟩;have s4:Step φ2 H2 φ2 (L2.upd H2 y (.ins (S.cl c) dx (yba f v' ks))):=.put (A3 hp);exact h2 σ _ φ2 s4 (rs2.put (o:=.ins c (ybR f v fs)) hp ⟨_,⟨dx,zt⟩,(FS.put (rv.step s2) lr).step s4⟩) (re2.step s4)
theorem noX:ybL (CX1 X.prog X.w) X (λ_ _ _=>False):=λpins σ H s e s' _ z=>by
 let⟨_,_,_,_,_,_,_,_,_,_,_,_,_,_,z⟩:=z;exact z.elim
theorem zhq{vs:List PV}{xs:List V}{Q:VK}{rs:yH X.K S.cl B φ H st}(l:yj X.K S.cl B φ H vs xs)(h:Run S X σ B φ H (RV S X B) ((ybH (S.call i (.loc st.length::vs) (st++[.ins c []]))).bind λv st2=>newV st.length v st2) Q):
  ∀x dx,H x=AD->H dx=AD->dx≠x->spI X.K S.cl S.call i (.ref x::xs) (L2.upd (L2.upd H dx (.own x)) x (.ins (S.cl c) dx [])) (λv H2=>v=.non/\Q (.ref x) H2) (λ_ _ _=>False):=by
 intro x dx hx hdx ne;have hx':L2.upd H dx (.own x) x=none:=by rw[zk (BJ ne)];exact hx
 have t1:Step φ H φ (L2.upd H dx (.own x)):=.upd hdx;have rs1:=rs.upd (o:=.own x) hdx;have t2:Step φ (L2.upd H dx (.own x)) (φ++[AA x]) (L2.upd (L2.upd H dx (.own x)) x (.ins (S.cl c) dx [])):=.push hx';have rs2:=rs1.push hx' (rs1.nB hx') (o:=.ins c []) ⟨[],⟨dx,zt⟩,rfl⟩;have ll:yg X.K S.cl B (φ++[AA x]) (L2.upd (L2.upd H dx (.own x)) x (.ins (S.cl c) dx [])) (.loc st.length) (.ref x):=.loc_new rs1;refine⟨B,φ++[AA x],st++[.ins c []],.loc st.length::vs,rs2,?_,?_⟩
 .simp only[yj];exact⟨.ref x,xs,rfl,ll,(l.step t1).step t2⟩
 .cases e:S.call i (.loc st.length::vs) (st++[.ins c []])with
  |ok v st'=>
   rw[e]at h;erw[ybH,R.bind]at h
   cases v with
   |non=>
    intro z H' φ' s rs' rz;erw[yg]at rz;exact⟨rz,h (.ref x) H' φ' ((t1.trans t2).trans s) rs' (ll.step s)⟩
   |_=>exact h.elim
  |exc k s=>rw[e]at h;exact h.elim
  |bad=>rw[e]at h;exact h.elim
theorem zoJ(M:Mk X.K (S.cl c) fa)(F:yaP X.prog X.w X.K X.mg X.base (CX1 X.prog X.w) k fa fd ps (spI X.K S.cl S.call i))(hr:yaz (k+1) X.A)(hg:Gl X x)(hm:X.mg x=AA (.ref (S.cl c)))(hb:Binds X.K fd ps [])
  (ha:PA X (e::es) (tAs S X ces)) (hdb:(x==("__debug__":AQ))=false:=by decide) (he:starEach (e::es) X.env=(AB,eval e X.env)::starEach es X.env:=by rfl) (hpl:(backTo pos (starEach es X.env)).any (·.1)=false:=by rfl):
  PE X (.Call (.Name x p) (e::es) [] pos) (tE S X (.new c i ces)):=
 (zlg M F hr hg hm hb .nil noX ha hdb he hpl).imp λσ H Q ⟨B,φ,st,ρ,rs,re,h⟩=>by
  erw[ev]at h;refine tAs.bind rs re h λxs H1 vs st1 φ1 s1 rs1 re1 rv h1=>?_;rw[Aw];exact zhq (rs:=rs1) rv h1
noncomputable def yb5(CX:CXT)(X:Cx)(C:AI)(m:AQ)(sp:Sp)(ta:TE)(t:TA):TE:=λσ H Q=>ta σ H λx H1=>∃y dx fs,x=.ref y/\H1 y=AA (.ins C dx fs)/\fs.lookup m=AD/\t σ H1 λvs H2=>∃E:XK,sp (.ref y::vs) H2 Q E/\∀pins s e s',Inv X pins σ H2 s->CX X.stack H2 s E e s'->X.xe e s'
theorem zjr{CX:CXT}{sp:Sp}{C:AI}{ta:TE}{t:TA}{pl:HI Bool}(he:PE X o ta)(c:Cls X.K C)(hm:Meth X.K C m fa)(F:yaP X.prog X.w X.K X.mg X.base CX k fa fd ps sp)(hr:yaz k X.A)(hb:Binds X.K fd ps [])(ha:PA X (e::es) t)
  (hst:starEach (e::es) X.env=(AB,eval e X.env)::starEach es X.env:=by rfl) (hpl:(backTo pos (starEach es X.env)).any (·.1)=false:=by rfl)
  (ht:eval (.Call (.Attribute o m apos) (e::es) [] pos) X.env=(do
   let ov <-eval o X.env
   standAt apos.atName
   let (f,first) <-holding [ov] (getMethod ov m pl)
   callWith pos f first (backTo pos (starEach (e::es) X.env)) (backToKw pos (keywordEach [] X.env))):=by rfl):
  PE X (.Call (.Attribute o m apos) (e::es) [] pos) (yb5 CX X C m sp ta t):=by
 intro pins s σ H Q I h;refine FV (pl:=pl) (thn (he pins s σ H _ I h) λu s1 kq=>?_) ht;let⟨x,H1,I1,rx,y,dx,fs,ex,ea,l,q⟩:=kq;subst ex;obtain rfl:u=Ai y:=rx;refine zdU I1 ea c hm l ?_;refine DI (first:=[.ref y]) (h₀:=X.base) I.ok.mod.kin hm.kp (thn (ha pos pins s1 σ H1 _ I1 q) λus s2 kq=>?_) hst hpl;let⟨vs,H2,I2,r,E,q2,hx⟩:=kq;refine ⟨I2.kIn,?_⟩;exact zc6 (us:=.ref y::us) (vs:=.ref y::vs) F hr hb .nil I2 (.cons rfl r) (by rw[Aw];exact q2) λe s' z=>hx pins s2 e s' I2 z
theorem zid{CX:CXT}{sp:Sp}{C:AI}{ta:TE}{pl:HI Bool}(he:PE X o ta)(c:Cls X.K C)(hm:Meth X.K C m fa)(F:yaP X.prog X.w X.K X.mg X.base CX k fa fd ps sp)(hr:yaz k X.A)(hb:Binds X.K fd ps [])
  (ht:eval (.Call (.Attribute o m apos) [] [] pos) X.env=(do
   let ov <-eval o X.env
   standAt apos.atName
   let (f,first) <-holding [ov] (getMethod ov m pl)
   callWith pos f first (backTo pos (starEach [] X.env)) (backToKw pos (keywordEach [] X.env))):=by rfl):
  PE X (.Call (.Attribute o m apos) [] [] pos) (yb5 CX X C m sp ta ydC):=by
 intro pins s σ H Q I h;refine FV (pl:=pl) (thn (he pins s σ H _ I h) λu s1 kq=>?_) ht;let⟨x,H1,I1,rx,y,dx,fs,ex,ea,l,E,q2,hx⟩:=kq;subst ex;obtain rfl:u=Ai y:=rx;refine zdU I1 ea c hm l ?_;exact Fe (first:=[.ref y]) I1.kIn hm.kp (zc6 (us:=[.ref y]) (vs:=[.ref y]) F hr hb .nil I1 (.cons rfl .nil) q2 λe s' z=>hx pins s1 e s' I1 z)
theorem zeK{Q:VK}{t:TA}(hq:∀{H1:Hp} {φ1:Ph} {st1:SO} {P:List V->Hp->Prop} {kk:List PV->SO->R PV},yH X.K S.cl B φ1 H1 st1->yW X.K S.cl B φ1 H1 ρ σ->Run S X σ B φ1 H1 (RV S X B) ((evs S.call ρ st1 ces).bind kk) Q ->
   (∀xs H2 vs st2 φ2,Step φ1 H1 φ2 H2->yH X.K S.cl B φ2 H2 st2->yW X.K S.cl B φ2 H2 ρ σ->yj X.K S.cl B φ2 H2 vs xs->Run S X σ B φ2 H2 (RV S X B) (kk vs st2) Q->P xs H2)->t σ H1 P)
  (rs:yH X.K S.cl B φ H st) (re:yW X.K S.cl B φ H ρ σ) (h:Run S X σ B φ H (RV S X B) ((ev S.call ρ st ca).bind λx st1=>onO (ycc c m st1 x) λ_=>(evs S.call ρ st1 ces).bind λvs st2=>S.call i (x::vs) st2) Q):
  yb5 (CX1 X.prog X.w) X (S.cl c) m (spI X.K S.cl S.call i) (tE S X ca) t σ H Q:=by
 refine tE.bind rs re h λx H1 v st1 φ1 s1 rs1 re1 rv h1=>?_
 cases q:ycc c m st1 v with
 |none=>rw[q]at h1;exact h1.elim
 |some b=>
  rw[q]at h1;erw[onO]at h1;let⟨n,fs,rfl,hn,hl⟩:=zjc q;let⟨y,ks,dx,rfl,_,hy,lr⟩:=rs1.ins rv hn;refine⟨y,dx,ks,rfl,hy,lr.lookup.2 hl,hq rs1 re1 h1 λxs H2 vs st2 φ2 s2 rs2 re2 rl h2=>?_⟩;exact za3 rs2 (by erw[yj];exact⟨.ref y,xs,rfl,rv.step s2,rl⟩) h2
theorem znw{pl:HI Bool}(hc:Cls X.K (S.cl c))(hm:Meth X.K (S.cl c) m fa)(F:yaP X.prog X.w X.K X.mg X.base (CX1 X.prog X.w) k fa fd ps (spI X.K S.cl S.call i))(hr:yaz k X.A)(hb:Binds X.K fd ps [])
  (ho:PE X o (tE S X ca)) (ha:PA X (e::es) (tAs S X ces))
  (hst:starEach (e::es) X.env=(AB,eval e X.env)::starEach es X.env:=by rfl) (hpl:(backTo pos (starEach es X.env)).any (·.1)=false:=by rfl)
  (ht:eval (.Call (.Attribute o m apos) (e::es) [] pos) X.env=(do
   let ov <-eval o X.env
   standAt apos.atName
   let (f,first) <-holding [ov] (getMethod ov m pl)
   callWith pos f first (backTo pos (starEach (e::es) X.env)) (backToKw pos (keywordEach [] X.env))):=by rfl):
  PE X (.Call (.Attribute o m apos) (e::es) [] pos) (tE S X (.mcl c i m ca ces)):=
 (zjr ho hc hm F hr hb ha hst hpl ht).imp λσ H Q ⟨B,φ,st,ρ,rs,re,h⟩=>by
  erw[ev]at h;exact zeK (λrs1 re1 h1 n=>tAs.bind rs1 re1 h1 n) rs re h
theorem zl1{pl:HI Bool}(hc:Cls X.K (S.cl c))(hm:Meth X.K (S.cl c) m fa)(F:yaP X.prog X.w X.K X.mg X.base (CX1 X.prog X.w) k fa fd ps (spI X.K S.cl S.call i))(hr:yaz k X.A)(hb:Binds X.K fd ps [])
  (ho:PE X o (tE S X ca))
  (ht:eval (.Call (.Attribute o m apos) [] [] pos) X.env=(do
   let ov <-eval o X.env
   standAt apos.atName
   let (f,first) <-holding [ov] (getMethod ov m pl)
   callWith pos f first (backTo pos (starEach [] X.env)) (backToKw pos (keywordEach [] X.env))):=by rfl):
  PE X (.Call (.Attribute o m apos) [] [] pos) (tE S X (.mcl c i m ca .nil)):=
 (zid ho hc hm F hr hb ht).imp λσ H Q ⟨B,φ,st,ρ,rs,re,h⟩=>by
  erw[ev]at h;refine zeK (t:=ydC) (λ{H1 φ1 st1 P kk} rs1 re1 h1 n=>?_) rs re h;erw[evs,R.bind]at h1;exact n [] H1 [] st1 φ1 .rfl rs1 re1 (by erw[yj]) h1
end
inductive ycj(w:Al)(fa:Nat->AI):List (AQ×Nat)->List CM->Prop
 |nil:ycj w fa [] []
 |cons {k:AQ} {i:Nat} {t:Hc} {D:List (AQ×Nat)} {es:List CM} (h:ycj w fa D es):ycj w fa ((k,i)::D) (⟨EU w.params k,.str k t,.ref (fa i)⟩ :: es)
def GDF(K:AE)(w:Al)(mg:AQ->Option AF)(fa:Nat->AI)(x:AQ)(D:List (AQ×Nat)):Prop:=
 ∃(y:AI) (es:Array CM) (ep:Nat),mg x=AA (.ref y)/\K.lookup y=AA ⟨.type "dict",AD,.dict es ep,#[]⟩/\ycj w fa D es.toList/\(D.map (·.1)).Nodup
theorem ycj.pairs{P:A9}{w:Al}{fa:Nat->AI}{D:List (AQ×Nat)}{es:List CM}(h:ycj w fa D es):
  ∃vs:List (AQ×AF),Pairs (strKind P w) es vs/\(∀e∈es,∃k,(strKind P w).is k e.key=AC/\e.hash=(strKind P w).hash k)/\vs.map (·.1)=D.map (·.1) /\
   ∀s i,D.lookup s=AA i->valueAt vs s=AA (.ref (fa i)):=by
 induction h with
 |nil=>exact⟨[],.nil,λe he=>(by cases he),rfl,λs v e=>by cases e⟩
 |@cons k i t D es h ih=>
  let⟨vs,h1,h2,h3,h5⟩:=ih;have hat:∀s,valueAt ((k,Ai (fa i))::vs) s=if k=s then AA (.ref (fa i))else valueAt vs s:=λs=>by
   unfold valueAt;rw[CF]
   by_cases e:k=s
   .simp[e]
   .simp[e]
  refine⟨(k,.ref (fa i))::vs,.cons (Dh P w k t) rfl h1,λe he=>?_,by rw[AL,AL,h3],λs j e=>?_⟩
  .rcases AN.1 he with rfl|he
   .exact⟨k,Dh P w k t,rfl⟩
   .exact h2 e he
  .rw[hat];erw[Bu]at e
   by_cases q:k=s
   .subst q;rw[beq_self_eq_true]at e
    cases e
    rw[if_pos rfl]
   .rw[beq_eq_false_iff_ne.2 (BJ q)]at e;rw[if_neg q];exact h5 s j e
section
variable {S:Se}{X:Cx}{σ:St}{B:AI->Prop}{φ:Ph}{H:Hp}{st:SO}{ρ:IC.Env}{pos p p1 p2 p3 p4 p5 p6 p7:CW}{a b i e n:AT}{es:List AT}{ca cn:Ce}{ces:Ces}{x y:AQ}{D:List (AQ×Nat)}{ty:TE}{t:TA}{fa:Nat->AI}{fdd:Nat->BG}{ps:Nat->List AQ}{k ix:Nat}
noncomputable def ydI(D:List (AQ×Nat))(fa:Nat->AI)(ty:TE):TE:=λσ H Q=>ty σ H λz H2=>∃s j,z=.str s/\D.lookup s=AA j/\Q (.ref (fa j)) H2
theorem zjZ(hg:Gl X x)(h:GDF X.K X.w X.mg fa x D)(hi:PE X i ty)(hs:yc8 i)(hd:(x==("__debug__":AQ))=false:=by decide):PE X (.Subscript (.Name x p) i pos) (ydI D fa ty):=by
 let⟨y,es,ep,hm,hk,hr,hn⟩:=h;let⟨vs,h1,h2,h3,h5⟩:=hr.pairs (P:=X.prog);intro pins s σ H Q I q0;refine zhM E5.lookup hs (thn (zdb (v:=.ref y) hg hm rfl hd pins s σ H (λz H1=>z=.ref y/\ty σ H1 λz H2=>∃s j,z=.str s/\D.lookup s=AA j/\Q (.ref (fa j)) H2) I ⟨rfl,q0⟩) λu s1 kq=>?_);let⟨z,H1,I1,rz,ez,q1⟩:=kq;refine thn (hi pins s1 σ H1 _ I1 q1) λiv s2 kq=>?_;let⟨z2,H2,I2,rz2,sx,j,ez2,e,q2⟩:=kq;subst ez;subst ez2;obtain rfl:u=Ai y:=rz;let⟨t,rfl⟩:=rz2;have dd:s2.heap.DictOf (strKind X.prog X.w) y vs:=⟨_,es,ep,I2.kIn y _ hk,⟨rfl,rfl,rfl⟩,rfl,λe he=>h2 e (by simpa using he),h1,by rw[h3];exact hn⟩;exact⟨dd.typeIs,Gd (Dh X.prog X.w sx t) dd.mapOf (h5 sx j e) ⟨.ref (fa j),H2,I2.tok _,rfl,q2⟩⟩
structure Makers(S:Se)(X:Cx)(k:Nat)(D:List (AQ×Nat))(fa:Nat->AI)(fdd:Nat->BG)(ps:Nat->List AQ):Prop where
 F:∀s j,D.lookup s=AA j->yaP X.prog X.w X.K X.mg X.base (CX1 X.prog X.w) k (fa j) (fdd j) (ps j) (spI X.K S.cl S.call j)
 kp:∀s j,D.lookup s=AA j->Ay X.K (.ref (fa j))=AC
 b:∀s j,D.lookup s=AA j->Binds X.K (fdd j) (ps j) []
def ydB(S:Se)(X:Cx)(D:List (AQ×Nat))(fa:Nat->AI)(ix:Nat)(t:TA):TE:=λσ H Q=>∃s j,D.lookup s=AA j/\σ[ix]?=AA (AA (.ref (fa j)))/\t σ H λvs H1=>∃E:XK,spI X.K S.cl S.call j vs H1 Q E/\∀pins s e s',Inv X pins σ H1 s->CX1 X.prog X.w X.stack H1 s E e s'->X.xe e s'
theorem zjk(M:Makers S X k D fa fdd ps)(hr:yaz k X.A)(hN:X.N[ix]?=AA x)(hv:Vis X.env.scope x)(ha:PA X (e::es) t)
  (hd:(x==("__debug__":AQ))=false:=by decide) (hcd:(x==("__classdict__":AQ))=false:=by decide) (he:starEach (e::es) X.env=(AB,eval e X.env)::starEach es X.env:=by rfl) (hpl:(backTo pos (starEach es X.env)).any (·.1)=false:=by rfl):
  PE X (.Call (.Name x p) (e::es) [] pos) (ydB S X D fa ix t):=by
 intro pins s σ H Q I ⟨sx,j,hl,hs,h⟩;refine B2 (thn (zky hN hv hd hcd pins s σ H (λz H1=>z=.ref (fa j)/\t σ H1 λvs H1=>∃E:XK,spI X.K S.cl S.call j vs H1 Q E/\∀pins s e s',Inv X pins σ H1 s->CX1 X.prog X.w X.stack H1 s E e s'->X.xe e s') I ⟨_,hs,rfl,h⟩) λu s1 kq=>?_);let⟨z,H1,I1,rz,ez,q1⟩:=kq;subst ez;obtain rfl:u=Ai (fa j):=rz;refine DI (h₀:=X.base) I.ok.mod.kin (M.kp sx j hl) (thn (ha pos pins s1 σ H1 _ I1 q1) λus s2 kq=>?_) he hpl;let⟨vs,H2,I2,r,E,q,hx⟩:=kq;refine ⟨I2.kIn,?_⟩;exact zc6 (M.F sx j hl) hr (M.b sx j hl) .nil I2 r (by rw[Aw];exact q) λe s' c=>hx pins s2 e s' I2 c
theorem yW.hole{K:AE}{cl:Nat->AI}{v:V}(re:yW K cl B φ H ρ σ):yW K cl B φ H (ρ.set ix AD) (σ.set ix (AA v)):=by
 refine⟨by simp[re.len],λj w e=>?_⟩
 by_cases q:ix=j
 .subst q
  by_cases hj:ix<ρ.length
  .rw[Aa hj]at e;cases e
  .rw[BY (by simp;lia)]at e;cases e
 .rw[AM q]at e ⊢;exact re.get j w e
theorem zjV{v:PV}{j:Nat}{b:Bool}(h:mkV D b v=AA j):∃s,v=.str s/\D.lookup s=AA j/\b=true:=by
 cases v with
 |str s=>
  cases b with
  |true=>exact⟨s,rfl,h,rfl⟩
  |false=>cases h
 |_=>cases h
theorem zm9(M:Makers S X k D fa fdd ps)(hr:yaz k X.A)(hN:X.N.Nodup)(hi:X.N[ix]?=AA x)(hx:Loc X.env.scope x)(hv:Vis X.env.scope x)(hg:Gl X y)(hd:GDF X.K X.w X.mg fa y D)(hn:PE X n (tE S X cn))(ha:PA X (e::es) (tAs S X ces))
  (hs:yc8 n:=by exact λ_ _=>rfl) (hsw:swapsWith (.Subscript (.Name y p2) n p3) (AA (.Name x p1)) p4.line X.env=pure false:=by rfl) (hf:X.fn x=AC \/ X.env.scope.names.lookup x=AA .local:=by first|exact .inl rfl|exact .inr rfl|assumption)
  (hyd:(y==("__debug__":AQ))=false:=by decide) (hxd:(x==("__debug__":AQ))=false:=by decide) (hcd:(x==("__classdict__":AQ))=false:=by decide) (he:starEach (e::es) X.env=(AB,eval e X.env)::starEach es X.env:=by rfl) (hpl:(backTo p6 (starEach es X.env)).any (·.1)=false:=by rfl):
  PSs X [.Assign [.Name x p1] (.Subscript (.Name y p2) n p3) p4,.Return (AA (.Call (.Name x p5) (e::es) [] p6)) p7] (tSs S X (.cons (.mkr ix D cn ces) .nil)):=
 (zgf (zk7 hN hi hx (zjZ hg hd hn hs hyd) hsw hf) (zlC (zk1 (zjk M hr hi hv ha hxd hcd he hpl)))).imp λD' σ H ⟨B,φ,st,ρ,rs,re,h⟩=>by
  have h:yaL S X B φ H (ex S.call ρ st (.mkr ix D cn ces)) D':=by
   erw[exs]at h
   cases q:ex S.call ρ st (.mkr ix D cn ces)with
   |nx ρ' s'=>
    exfalso;erw[ex]at q
    cases q1:ev S.call ρ st cn with
    |ok v1 s1=>
     rw[q1]at q;erw[R.fl]at q;split at q
     .rename_i j _
      cases q2:(evs S.call (ρ.set ix AD) s1 ces).bind λvs st2=>S.call j vs st2 with
      |ok v2 s2=>rw[q2]at q;cases q
      |exc c s2=>rw[q2]at q;cases q
      |bad=>rw[q2]at q;cases q
     .cases q
    |exc c s1=>rw[q1]at q;cases q
    |bad=>rw[q1]at q;cases q
   |rt v s'=>rw[q]at h;exact h
   |bk ρ' s'=>rw[q]at h;exact h
   |ct ρ' s'=>rw[q]at h;exact h
   |exc c ρ' s'=>rw[q]at h;exact h
   |bad=>rw[q]at h;exact h
  erw[ex]at h;refine tE.fl rs re h λx' H1 v st1 φ1 s1 rs1 re1 rv h1=>?_
  cases q:mkV D (decide (ix<ρ.length)) v with
  |none=>rw[q]at h1;exact h1.elim
  |some j=>
   rw[q]at h1;let⟨sx,rfl,hl,hb⟩:=zjV q;erw[yg]at rv;subst rv;have hlen:ix<σ.length:=by
    rw[<-re1.len];exact of_decide_eq_true hb
   refine⟨sx,j,rfl,hl,sx,j,hl,by rw[Aa hlen],B,φ1,st1,ρ.set ix AD,rs1,re1.hole,?_⟩;dsimp only at h1
   cases q2:evs S.call (ρ.set ix AD) st1 ces with
   |bad=>rw[q2]at h1;exact h1
   |exc c s2=>rw[q2]at h1;exact λe s' z=>h1 _ φ1 H1 e s' .rfl re1.hole z
   |ok vs st2=>
    rw[q2]at h1;intro xs H2 φ2 s2 rs2 rl;have h2:yaL S X B φ1 H1 ((S.call j vs st2).fl (ρ.set ix AD) λv st3=>.rt v st3) D':=h1;refine za3 rs2 rl ?_
    cases q3:S.call j vs st2 with
    |bad=>rw[q3]at h2;exact h2
    |ok v st3=>rw[q3]at h2;exact λx H' φ' s' rs' rv=>h2 x H' φ' (s2.trans s') rs' rv
    |exc c st3=>rw[q3]at h2;exact λe s' z=>h2 _ φ2 H2 e s' s2 (re1.hole.step s2) z
end
section
variable {P:A9}{w:Al}{K:AE}{mg:AQ->Option AF}{base:BF}{cl:Nat->AI}{T:Nat->Option IC.Fn}{fi:Nat}{fn:IC.Fn}{x qual:AQ}{stm:Bz}{f:AI}{fd:BG}{N ps:List AQ}{k m:Nat}
theorem zjU:yaP P w K mg base (CX1 P w) m f fd ps (spI K cl (yd T 0) fi):=
 ⟨λvs H Q E ⟨_,_,_,_,_,_,h⟩=>by rw[yd]at h;exact h.elim,λA outer s H args us vs Q E _ _ _ _ ⟨_,_,_,_,_,_,h⟩=>by rw[yd]at h;exact h.elim⟩
end
theorem ydx.units{k:Nat}{A:Ax}(r:ydx k A):A.units+64<cLine:=by have:=r.un;lia
section
variable {P:A9}{w:Al}{K:AE}{mg:AQ->Option AF}{base:BF}{cl:Nat->AI}{T:Nat->Option IC.Fn}{fi:Nat}{fn:IC.Fn}{x qual:AQ}{stm:Bz}{f:AI}{fd:BG}{N ps:List AQ}{k m:Nat}
end
section
variable {S:Se}{X:Cx}{σ:St}{B:AI->Prop}{φ:Ph}{H:Hp}{st:SO}{ρ:IC.Env}{p pos:CW}{e:AT}{es:List AT}{ces:Ces}{fi k:Nat}{x:AQ}{f:AI}{fd:BG}{ps:List AQ}
end
end L2
namespace L2
open PySem IC
section
variable {S:Se}{X:Cx}{σ:St}{B:AI->Prop}{φ φ1:Ph}{H H1:Hp}{st:SO}{ρ:IC.Env}{p pos p2 px py pt pt2:CW}{a b c d o a' b' c' d':AT}{ca cb cc cd ce cf:Ce}{pins:List (AI×CC)}{s:AJ}{kt k2:Nat}{es:List AT}{ces:Ces}{x:AQ}
end
end L2
namespace L2
open PySem PySem.Spec PyProof.Rows
section
variable {X:Cx}
end
end L2
namespace L2
open PySem PySem.Spec PyProof.Rows IC
section
variable {S:Se}{X:Cx}{σ:St}{B:AI->Prop}{φ φ1:Ph}{H H1:Hp}{st:SO}{ρ:IC.Env}{p pos p2 apos:CW}{a b c d:AT}{ca cb cc:Ce}{es:List AT}{ces:Ces}{K:AE}{cl:Nat->AI}
end
section
variable {S:Se}{X:Cx}{a b:AT}{c i:Nat}{j:Int}{f:AQ}{pos tpos:CW}
theorem znK(hc:Cls X.K (S.cl c))(hn:yax X.K (S.cl c) f)(ha:PE X a (tE S X (.var i)))(hv:PE X b (tE S X (.cst (.int j)))):
  PS X (.AugAssign (.Attribute a f tpos) .Add b pos) (tS S X (.sfl c (.var i) f (.bin .add (.fld c (.var i) f) (.cst (.int j))))):=
 (ziX ha hv zpk).imp λD σ H ⟨B,φ,st,ρ,rs,re,h⟩=>by
  erw[ex,ev]at h
  cases q:ρ[i]? with
  |none=>rw[q]at h;exact h.elim
  |some o=>
   cases o with
   |none=>rw[q]at h;exact h.elim
   |some x=>
    rw[q]at h;dsimp only[R.bind]at h;refine⟨B,φ,st,ρ,rs,re,?_⟩;erw[ev,q];intro x' H1 φ1 s1 rs1 rx;have re1:=re.step s1;have h:=yaL.on s1 h
    cases e:ya6 c st x f with
    |none=>rw[e]at h;exact h.elim
    |some v=>
     rw[e]at h;let⟨n,fs,rfl,hn',l⟩:=zgh e;let⟨y,ks,dx,rfl,hp,hy,lr⟩:=rs1.ins rx hn';let⟨x,hx,rxv⟩:=lr.lookup.1 v l;refine⟨y,S.cl c,dx,ks,x,rfl,hy,hc,hn,hx,⟨B,φ1,st,ρ,rs1,re1,?_⟩⟩;erw[ev];intro y' H2 φ2 s2 rs2 ry;erw[yg]at ry;subst ry
     cases v with
     |int k=>
      erw[yg]at rxv;subst rxv;refine⟨k,j,rfl,rfl,?_⟩;have h:yaL S X B φ1 H1 (match ya9 c st (.loc n) f (.int (k+j))with|some st3=>Fl.nx ρ st3|none=>Fl.bad) D:=h;have h:=yaL.on s2 h;have rx2:=rx.step s2;let⟨y2,ks2,dx2,e2,hp2,hy2,lr2⟩:=rs2.ins rx2 hn'
      cases e2
      cases e3:ya9 c st (.loc n) f (.int (k+j))with
      |none=>rw[e3]at h;exact h.elim
      |some st4=>
       rw[e3]at h;let⟨n',fs',z,hn2,hl,rfl⟩:=zfT e3
       cases z
       rw[hn']at hn2
       cases hn2
       refine⟨dx2,ks2,hy2,by rw[<-lr2.len];exact hl,?_⟩;have s4:Step φ2 H2 φ2 (L2.upd H2 y (.ins (S.cl c) dx2 (yba f (.int (k+j)) ks2))):=.put (A3 hp2);exact h σ _ φ2 s4 (rs2.put (o:=.ins c (ybR f (.int (k+j)) fs)) hp2 ⟨_,⟨dx2,zt⟩,(FS.put (by erw[yg]) lr2).step s4⟩) ((re1.step s2).step s4)
     |_=>exact h.elim
end
end L2
namespace HT
open PySem PySem.Spec PyProof.Rows
section
variable {prog:A9}{w:Al}{A:Ax}{E:AF->AJ->Prop}{s:AJ}
end
end HT
namespace L2
open PySem PySem.Spec PyProof.Rows IC
section
variable {S:Se}{X:Cx}{pos p2:CW}{e e3:AT}{te t3:TE}{a:AT}{ca c3:Ce}
theorem yj.reverse{K:AE}{cl:Nat->AI}{B:AI->Prop}{φ:Ph}{H:Hp}:∀{vs:List PV} {xs:List V},yj K cl B φ H vs xs->yj K cl B φ H vs.reverse xs.reverse
 |[],xs,h=>by
  erw[yj]at h;subst h;erw[List.reverse_nil,yj]
 |v::vs,xs,h=>by
  erw[yj]at h;let⟨y,ys,rfl,r,l⟩:=h;rw[DV,DV];exact(yj.reverse l).append (by erw[yj];exact⟨y,[],rfl,r,rfl⟩)
end
section
variable {X:Cx}{prog:A9}{w:Al}{A:Ax}{E:AF->AJ->Prop}{s:AJ}
end
section
variable {S:Se}{X:Cx}{pos px:CW}{a:AT}{ca:Ce}
end
end L2
namespace L2
open PySem PySem.Spec PyProof.Rows IC WK
inductive GK where
 |fn (i:Nat)|fnD (i:Nat)|cst (v:PV)|dct (D:List (AQ×PV))|exc (c:Nat)|cls (c i:Nat)
structure Gs where
 g:AQ->Option GK
 b:AQ->Bool
 t:Ty->Bool
 fl:Nat->AQ->Bool
 me:Nat->AQ->Option Nat
 kb:Nat->Nat->List AQ->Option (List (Option Int))
 mr:AQ->Option (List (AQ×Nat))
structure Kx where
 N:List AQ
 sc:Bl
 own:Bool
def Fo(m:Nat)(S:Se)(X:Cx)(i:Nat)(f:AI)(fd:BG)(ps:List AQ):Prop:=yaP X.prog X.w X.K X.mg X.base (CX1 X.prog X.w) m f fd ps (spI X.K S.cl S.call i)
structure Glo(γ:Gs)(m:Nat)(S:Se)(X:Cx):Prop where
 F:∀x i,γ.g x=AA (.fn i)->∃f fd ps,Fo m S X i f fd ps/\X.mg x=AA (.ref f)/\Ay X.K (.ref f)=AC/\Binds X.K fd ps []
 Q:∀x i np ks sh,γ.g x=AA (.fnD i)->γ.kb i np ks=AA sh->∃f fd ps,Fo m S X i f fd ps/\X.mg x=AA (.ref f)/\Ay X.K (.ref f)=AC/\∃g,ybO X.K fd ps ks g (gK np sh)
 C:∀x v,γ.g x=AA (.cst v)->GC X.K X.mg S.cl x v \/ ∃i,v=.int i/\GCI X.mg x i
 D:∀x d,γ.g x=AA (.dct d)->GD X.K X.w X.mg S.cl x d
 E:∀x c,γ.g x=AA (.exc c)->yds X.K X.mg (S.cl c) x
 N:∀x c i,γ.g x=AA (.cls c i)->X.mg x=AA (.ref (S.cl c))/\∃f fd ps,Mk X.K (S.cl c) f/\Fo m S X i f fd ps/\Binds X.K fd ps []
 B:∀x,γ.b x=AC->X.mg x=AD
 T:∀t,γ.t t=AC->yeL X.K t
 A:∀c f,γ.fl c f=AC->Cls X.K (S.cl c)/\yax X.K (S.cl c) f
 M:∀c n i,γ.me c n=AA i->Cls X.K (S.cl c)/\∃f fd ps,Meth X.K (S.cl c) n f/\Fo m S X i f fd ps/\Binds X.K fd ps []
 K:∀y D,γ.mr y=AA D->∃fa fdd ps,Makers S X m D fa fdd ps/\GDF X.K X.w X.mg fa y D
structure Good(γ:Gs)(κ:Kx)(m:Nat)(S:Se)(X:Cx):Prop where
 n:X.N=κ.N
 sc:X.env.scope=κ.sc
 calm:X.calm=AC
 room:yaz (m+1) X.A
 own:κ.own=AC->Ei (model X.prog X.w) X.A X.env X.xe/\(∀x,X.fn x=AC)/\S.may=AC
 glo:Glo γ m S X
noncomputable abbrev Pr(P:Prop):Type:=Option (PLift P)
abbrev YE(γ:Gs)(κ:Kx)(e:AT)(c:Ce):Prop:=∀m S X,Good γ κ m S X->PE X e (tE S X c)
abbrev YT(γ:Gs)(κ:Kx)(e:AT)(c:Ce):Prop:=∀m S X,Good γ κ m S X->PT X e (tTs S X c)
abbrev YW(γ:Gs)(κ:Kx)(e:AT)(c:Ce):Prop:=∀m S X,Good γ κ m S X->PW X e (tTs S X c)
abbrev YA(γ:Gs)(κ:Kx)(e:List AT)(c:Ces):Prop:=∀m S X,Good γ κ m S X->PA X e (tAs S X c)
abbrev YO(γ:Gs)(κ:Kx)(e:Option AT)(c:Ce):Prop:=∀m S X,Good γ κ m S X->PO X e (tO S X c)
abbrev YS(γ:Gs)(κ:Kx)(s:Bz)(c:Cs):Prop:=∀m S X,Good γ κ m S X->PS X s (tS S X c)
abbrev YSs(γ:Gs)(κ:Kx)(s:List Bz)(c:Css):Prop:=∀m S X,Good γ κ m S X->PSs X s (tSs S X c)
noncomputable def an{P Q:Prop}(a:Pr P)(k:P->Pr Q):Pr Q:=match a with
 |some h=>k h.down
 |none=>AD
noncomputable def ok{P:Prop}(h:P):Pr P:=AA ⟨h⟩
noncomputable def ask(p:Prop)[Decidable p]:Pr p:=if h:p then AA ⟨h⟩else AD
noncomputable def nst:AT->Bool
 |.Starred _ _=>AB
 |_=>AC
theorem yao{a:AT}{es:List AT}{env:B0}(h:nst a=AC):starEach (a::es) env=(AB,eval a env)::starEach es env:=by
 cases a<;>first|rfl|cases h
def yb2(es:List AT):Bool:=es.all nst
theorem stars{pos:CW}{env:B0}:∀{es:List AT},yb2 es=AC->(backTo pos (starEach es env)).any (·.1)=AB
 |[],_=>rfl
 |a::es,h=>by
  erw[yb2,Be,AK]at h;rw[yao h.1];have:=stars (pos:=pos) (env:=env) (es:=es) h.2;simpa [backTo] using this
noncomputable def nco:AT->Bool
 |.ListComp ..=>AB
 |.SetComp ..=>AB
 |.DictComp ..=>AB
 |_=>AC
theorem swp{a:AT}{t:Option AT}{l:Nat}{env:B0}(h:nco a=AC):swapsWith a t l env=pure false:=by
 cases a<;>first|rfl|cases h
noncomputable def nse:AT->Bool
 |.Set ..=>AB
 |_=>AC
theorem fse{a:AT}{env:B0}(h:nse a=AC):∀x,foldedSetIterable a env x=pure x:=by
 cases a<;>first|exact λ_=>rfl|cases h
theorem nmk{op:Fg}{a:AT}(h:nse a=AC):behindInMarks op a=false:=by
 cases a<;>first|rfl|cases h
noncomputable def nsl:AT->Bool
 |.Slice ..=>AB
 |_=>AC
theorem pix{a:AT}(h:nsl a=AC):ybC a:=by
 cases a<;>first|exact λ_ _=>rfl|cases h
theorem nos{a:AT}(h:nsl a=AC):yc8 a:=pix h
noncomputable def ntu:AT->Bool
 |.Tuple ..=>AB
 |_=>AC
noncomputable def nte:AT->Bool
 |.UnaryOp ..=>AB
 |.BoolOp ..=>AB
 |.IfExp ..=>AB
 |.Compare ..=>AB
 |_=>AC
theorem itr{a:AT}{env:B0}(h:nte a=AC):∀whole,isTrue a env whole=(do let v <-whole;standAt a.pos;holding [v] (truthy v)):=by
 cases a<;>first|exact λ_=>rfl|cases h
noncomputable def nca:AT->Bool
 |.Call ..=>AB
 |_=>AC
theorem ydU{a:AT}{f:AQ}{env:B0}{w:HI AF}(h:nca a=AC):attributeBase a f env w=w:=by
 cases a<;>first|rfl|cases h
def mOp(op:Ds)(o:BOp):Pr (∀S X,OpR X (binaryOp op) (rT2 S X (yJ o))):=
 match op,o with
 |.Add,.add=>ok (λ_ _=>zmY)
 |.Sub,.sub=>ok (λ_ _=>zot)
 |.Mult,.mul=>ok (λ_ _=>zne)
 |.FloorDiv,.fdiv=>ok (λ_ _=>zlU)
 |.Mod,.mod=>ok (λ_ _=>zo5)
 |.Pow,.pow=>ok (λ_ _=>zov)
 |.LShift,.shl=>ok (λ_ _=>znJ)
 |.RShift,.shr=>ok (λ_ _=>znl)
 |.BitAnd,.band=>ok (λ_ _=>zl9)
 |.BitOr,.bor=>ok (λ_ _=>zoU)
 |.BitXor,.bxor=>ok (λ_ _=>zll)
 |_,_=>AD
def mCm(op:Fg)(o:COp):Pr (∀m S X,yaz m X.A->OpR X (compareOp op) (rT2 S X (yN o))):=
 match op,o with
 |.Eq,.eq=>ok (λ_ _ _ r=>zpU r.units)
 |.NotEq,.ne=>ok (λ_ _ _ r=>zpR r.units)
 |.Lt,.lt=>ok (λ_ _ _ _=>zpS)
 |.LtE,.le=>ok (λ_ _ _ _=>zpI)
 |.Gt,.gt=>ok (λ_ _ _ _=>zpt)
 |.GtE,.ge=>ok (λ_ _ _ _=>zpz)
 |.In,.isin=>ok (λ_ _ _ _=>zpD)
 |_,_=>AD
noncomputable def yd1(sc:Bl)(x:AQ):Bool:=match sc.names.lookup x with
 |some .local=>AC
 |some .cell=>AC
 |some .free=>AC
 |_=>AB
theorem ziv{sc:Bl}{x:AQ}(h:yd1 sc x=AC):Vis sc x:=by
 unfold yd1 at h;split at h
 .exact .inl ‹_›
 .exact .inr (.inl ‹_›)
 .exact .inr (.inr ‹_›)
 .cases h
noncomputable def yd4(sc:Bl)(x:AQ):Bool:=match sc.names.lookup x with
 |some .local=>AC
 |some .cell=>AC
 |_=>AB
theorem zhl{sc:Bl}{x:AQ}(h:yd4 sc x=AC):Loc sc x:=by
 unfold yd4 at h;split at h
 .exact .inl ‹_›
 .exact .inr ‹_›
 .cases h
noncomputable def pln(x:AQ):Bool:=!(x==("__debug__":AQ))&&!(x==("__classdict__":AQ))&&!(x==("__name__":AQ))
theorem ybz{x:AQ}(h:pln x=AC):(x==("__debug__":AQ))=false:=by
 erw[pln,AK,Cm]at h;exact h.1.1
theorem ydZ{x:AQ}(h:pln x=AC):(x==("__classdict__":AQ))=false:=by
 erw[pln,AK,Cm]at h;exact h.1.2
theorem yd8{x:AQ}(h:pln x=AC):x ≠ "__name__":=by
 erw[pln,AK,Cm]at h;intro e;rw[e]at h;exact absurd h.2 (by decide)
def glB(κ:Kx)(x:AQ):Bool:=decide (κ.sc.names.lookup x=AA .globalImplicit)&&pln x
theorem zap{γ:Gs}{κ:Kx}{m:Nat}{S:Se}{X:Cx}(G:Good γ κ m S X){x:AQ}(h:glB κ x=AC):Gl X x:=by
 erw[glB,AK,decide_eq_true_eq]at h;show X.env.scope.names.lookup x=_;rw[G.sc];exact h.1
theorem zbE{κ:Kx}{x:AQ}(h:glB κ x=AC):pln x=true:=by
 erw[glB,AK]at h;exact h.2
def setB(κ:Kx)(i:Nat)(x:AQ):Bool:=decide (κ.N[i]?=AA x)&&decide κ.N.Nodup&&yd4 κ.sc x&&(κ.own || decide (κ.sc.names.lookup x=AA .local))&&pln x
structure yei(X:Cx)(i:Nat)(x:AQ):Prop where
 d:X.N.Nodup
 i:X.N[i]?=AA x
 l:Loc X.env.scope x
 f:X.fn x=AC \/ X.env.scope.names.lookup x=AA .local
 p:pln x=AC
theorem za5{γ:Gs}{κ:Kx}{m:Nat}{S:Se}{X:Cx}(G:Good γ κ m S X){i:Nat}{x:AQ}(h:setB κ i x=AC):yei X i x:=by
 erw[setB,AK,DF,decide_eq_true_eq]at h;let⟨⟨⟨⟨h1,h2⟩,h3⟩,h4⟩,h5⟩:=h;refine⟨by rw[G.n];exact h2,by rw[G.n];exact h1,by rw[G.sc];exact zhl h3,?_,h5⟩;rcases h4 with h4|h4
 .exact .inl ((G.own h4).2.1 x)
 .exact .inr (by rw[G.sc];exact h4)
noncomputable def gFn(γ:Gs)(x:AQ)(i:Nat):Pr (γ.g x=AA (.fn i)):=match h:γ.g x with
 |some (.fn j)=>if e:j=i then AA ⟨by subst e;rfl⟩else AD
 |_=>AD
section
variable {γ:Gs}{κ:Kx}{ca cb cc:Ce}{ces:Ces}
def yfk(v:PV)(e:AT):Pr (YE γ κ e (.cst v)):=
 match e with
 |.Constant (.int i) _ _=>match v with
  |.int j=>an (ask (i=j)) λh=>ok (λ_ _ _ _=>by cases h;exact zkF)
  |_=>AD
 |.Constant (.bool i) _ _=>match v with
  |.bl j=>an (ask (i=j)) λh=>ok (λ_ _ _ _=>by cases h;exact zp1)
  |_=>AD
 |.Constant .none _ _=>match v with
  |.non=>ok (λ_ _ _ _=>zoA)
  |_=>AD
 |.Constant (.str i) _ _=>match v with
  |.str j=>an (ask (i=j)) λh=>ok (λ_ _ _ _=>by cases h;exact zmX)
  |_=>AD
 |_=>AD
def yfs(i:Nat)(e:AT):Pr (YE γ κ e (.var i)):=
 match e with
 |.Name x _=>an (ask (κ.N[i]?=AA x/\yd1 κ.sc x=AC/\pln x=AC)) λh=>ok (λ_ _ _ G=>zpq (by rw[G.n];exact h.1) (by rw[G.sc];exact ziv h.2.1) (ybz h.2.2) (ydZ h.2.2))
 |_=>AD
def ygv(o:BOp)(e:AT)(fa:∀x,Pr (YE γ κ x ca))(fb:∀x,Pr (YE γ κ x cb)):Pr (YE γ κ e (.bin o ca cb)):=
 match e with
 |.BinOp a op b _=>
  an (mOp op o) λho=>an (fa a) λha=>an (fb b) λhb=>ok (λm S X G=>znE (ho S X) (ha m S X G) (hb m S X G))
 |_=>AD
def ygr(e:AT)(fa:∀x,Pr (YE γ κ x ca))(fb:∀x,Pr (YE γ κ x cb)):Pr (YE γ κ e (.rep ca cb)):=
 match e with
 |.BinOp a .Mult b _=>an (fa a) λha=>an (fb b) λhb=>ok (λm S X G=>zoP (ha m S X G) (hb m S X G))
 |_=>AD
def yho(e:AT)(fa:∀x,Pr (YE γ κ x ca)):Pr (YE γ κ e (.neg ca)):=
 match e with
 |.UnaryOp .USub a _=>
  an (fa a) λha=>ok (λm S X G=>zk5 (ha m S X G))
 |_=>AD
def yge(e:AT)(fa:∀x,Pr (YE γ κ x ca)):Pr (YE γ κ e (.not ca)):=
 match e with
 |.UnaryOp .Not a _=>
  an (fa a) λha=>ok (λm S X G=>znx (ha m S X G))
 |_=>AD
def yfI(o:COp)(e:AT)(fa:∀x,Pr (YE γ κ x ca))(fb:∀x,Pr (YE γ κ x cb)):Pr (YE γ κ e (.cmp o ca cb)):=
 match e with
 |.Compare a [op] [b] _=>
  an (mCm op o) λho=>an (ask (nse b=AC)) λhs=>an (fa a) λha=>an (fb b) λhb=>ok (λm S X G=>zoX (ho _ S X G.room) (ha m S X G) (hb m S X G) (nmk hs))
 |_=>AD
def yeY(o:COp)(e:AT)(fa:∀x,Pr (YE γ κ x ca))(fb:∀x,Pr (YE γ κ x cb)):Pr (YT γ κ e (.cmp o ca cb)):=
 match e with
 |.Compare a [op] [b] _=>
  an (mCm op o) λho=>an (ask (nse b=AC)) λhs=>an (fa a) λha=>an (fb b) λhb=>ok (λm S X G=>zoB (ho _ S X G.room) (ha m S X G) (hb m S X G) (nmk hs))
 |_=>AD
theorem lmk{op op':Fg}{b c:AT}(h:nse c=AC):lastMarks [op,op'] [b,c]=false:=nmk h
def yga(o p:COp)(e:AT)(fa:∀x,Pr (YE γ κ x ca))(fb:∀x,Pr (YE γ κ x cb))(fc:∀x,Pr (YE γ κ x cc)):Pr (YE γ κ e (.chain o p ca cb cc)):=
 match e with
 |.Compare a [op,op'] [b,c] _=>
  an (mCm op o) λho=>an (mCm op' p) λhp=>an (ask (nse c=AC)) λhs=>an (fa a) λha=>an (fb b) λhb=>an (fc c) λhc=>ok (λm S X G=>zjl (ho _ S X G.room) (hp _ S X G.room) (ha m S X G) (hb m S X G) (hc m S X G) (lmk hs))
 |_=>AD
def yep(o p:COp)(e:AT)(fa:∀x,Pr (YE γ κ x ca))(fb:∀x,Pr (YE γ κ x cb))(fc:∀x,Pr (YE γ κ x cc)):Pr (YT γ κ e (.chain o p ca cb cc)):=
 match e with
 |.Compare a [op,op'] [b,c] _=>
  an (mCm op o) λho=>an (mCm op' p) λhp=>an (ask (nse c=AC)) λhs=>an (fa a) λha=>an (fb b) λhb=>an (fc c) λhc=>ok (λm S X G=>zkr (ho _ S X G.room) (hp _ S X G.room) (ha m S X G) (hb m S X G) (hc m S X G) (lmk hs))
 |_=>AD
def ygK(e:AT)(fc:∀x,Pr (YT γ κ x cc))(fa:∀x,Pr (YE γ κ x ca))(fb:∀x,Pr (YE γ κ x cb)):Pr (YE γ κ e (.ite cc ca cb)):=
 match e with
 |.IfExp c a b _=>
  an (fc c) λhc=>an (fa a) λha=>an (fb b) λhb=>ok (λm S X G=>zn0 (hc m S X G) (ha m S X G) (hb m S X G))
 |_=>AD
def yfE(e:AT)(fa:∀x,Pr (YA γ κ x ces)):Pr (YE γ κ e (.tup ces)):=
 match e with
 |.Tuple es _ _=>
  an (fa es) λha=>ok (λm S X G=>zox (ha m S X G))
 |_=>AD
def ygb(e:AT)(fa:∀x,Pr (YA γ κ x ces)):Pr (YE γ κ e (.lst ces)):=
 match e with
 |.List es _=>
  an (fa es) λha=>ok (λm S X G=>zok (ha m S X G))
 |_=>AD
def yeJ(e:AT)(fa:∀x,Pr (YA γ κ x ces)):Pr (YE γ κ e (.newl ces)):=
 match e with
 |.List es _=>
  an (fa es) λha=>ok (λm S X G=>zmC (ha m S X G))
 |_=>AD
def yev(t:Bool)(e:AT):Pr (YE γ κ e (.dict0 t)):=
 match t,e with
 |true,.Dict [] [] _=>ok (λ_ _ _ _=>ziF)
 |_,_=>AD
def mIdx(e:AT)(fa:∀x,Pr (YE γ κ x ca))(fb:∀x,Pr (YE γ κ x cb)):Pr (YE γ κ e (.idx ca cb)):=
 match e with
 |.Subscript a b _=>
  an (ask (nsl b=AC)) λhs=>an (fa a) λha=>an (fb b) λhb=>ok (λm S X G=>zoK (ha m S X G) (hb m S X G) (pix hs))
 |_=>AD
def yfN(e:AT)(fa:∀x,Pr (YE γ κ x ca))(fb:∀x,Pr (YO γ κ x cb))(fc:∀x,Pr (YO γ κ x cc)):Pr (YE γ κ e (.slc ca cb cc)):=
 match e with
 |.Subscript a (.Slice l h AD _) _=>
  an (fa a) λha=>an (fb l) λhb=>an (fc h) λhc=>ok (λm S X G=>zo0 (ha m S X G) (hb m S X G) (hc m S X G))
 |_=>AD
def yfi(c:Ce)(e:Option AT)(fa:∀x,Pr (YE γ κ x c)):Pr (YO γ κ e c):=
 match e with
 |none=>match c with
  |.cst .non=>ok (λ_ _ _ _=>zme)
  |_=>AD
 |some a=>
  an (fa a) λha=>ok (λm S X G=>zmt (ha m S X G))
inductive Fs(γ:Gs)(κ:Kx):Ces->Type where
 |nil:Fs γ κ .nil
 |cons {c:Ce} {cs:Ces} (f:∀x,Pr (YE γ κ x c)) (r:Fs γ κ cs):Fs γ κ (.cons c cs)
def ya8:{ces:Ces}->Fs γ κ ces->(es:List AT)->Pr (YA γ κ es ces)
 |_,.nil,[]=>ok λ_ _ _ _=>zhu
 |_,.cons f r,a::es=>an (ask (nst a=AC)) λhs=>an (f a) λha=>an (ya8 r es) λhr=>ok λm S X G=>zek (ha m S X G) (hr m S X G) (yao hs)
 |_,_,_=>AD
structure Sp2(γ:Gs)(κ:Kx)(ces:Ces)(np:Nat) where
 c1:Ces
 c2:Ces
 f1:Fs γ κ c1
 f2:Fs γ κ c2
 h:yZ c1 c2=ces
 l:yc3 c1=np
def ycE:(np:Nat)->{ces:Ces}->Fs γ κ ces->Option (Sp2 γ κ ces np)
 |0,ces,F=>AA ⟨.nil,ces,.nil,F,rfl,rfl⟩
 |n+1,_,.cons f r=>match ycE n r with
  |some s=>AA ⟨.cons _ s.c1,s.c2,.cons f s.f1,s.f2,by rw[yZ,s.h],by rw[yc3,s.l]⟩
  |none=>AD
 |_,_,_=>AD
structure It2(γ:Gs)(κ:Kx)(ces:Ces)(sh:List (Option Int))(kws:List C3) where
 it:List (Sum Ce Int)
 h:yp it=ces
 s:it.map shC=sh
 k:∀m S X,Good γ κ m S X->PK X kws (tK S X it)
def yce:(sh:List (Option Int))->{ces:Ces}->Fs γ κ ces->(kws:List C3)->Option (It2 γ κ ces sh kws)
 |[],_,.nil,[]=>AA ⟨[],rfl,rfl,λ_ _ _ _=>zpp⟩
 |none::sh,.cons c _,.cons f r,⟨_,e,_⟩ :: kws=>match f e,yce sh r kws with
  |some h,AA q=>AA ⟨.inl c::q.it,by rw[yp,q.h],by rw[AL,q.s];rfl,λm S X G=>zpP (h.down m S X G) (q.k m S X G)⟩
  |_,_=>AD
 |some i::sh,.cons (.cst (.int j)) _,.cons _ r,kws=>if e:i=j then match yce sh r kws with
  |some q=>AA ⟨.inr i::q.it,by rw[yp,q.h,e],by rw[AL,q.s];rfl,λm S X G=>zpC (q.k m S X G)⟩
  |none=>AD
  else AD
 |_,_,_,_=>AD
noncomputable def kwN:List C3->List AQ
 |[]=>[]
 |⟨AA x,_,_⟩ :: r=>x::kwN r
 |_::r=>kwN r
noncomputable def kwB:List C3->Bool
 |[]=>AC
 |⟨AA _,_,_⟩ :: r=>kwB r
 |_=>AB
theorem zpa{pos:CW}{env:B0}:∀{kws:List C3},kwB kws=AC->(backToKw pos (keywordEach kws env)).all (·.1.isSome)=AC/\(backToKw pos (keywordEach kws env)).filterMap (·.1)=kwN kws/\(backToKw pos (keywordEach kws env)).any (·.1.isNone)=AB
 |[],_=>⟨rfl,rfl,rfl⟩
 |⟨AA x,e,_⟩ :: r,h=>by
  let⟨h1,h2,h3⟩:=zpa (pos:=pos) (env:=env) (kws:=r) h;erw[backToKw]at h1 h2 h3 ⊢;erw[keywordEach,AL,Be,C2,Bm,h1,h2,h3,kwN];simp
def ygP(i:Nat)(F:Fs γ κ ces)(e:AT):Pr (YE γ κ e (.call i ces)):=
 match e with
 |.Call (.Name x _) [] [] _=>match F with
  |.nil=>an (ask (glB κ x=AC)) λhg=>an (gFn γ x i) λhf=>ok λm S X G=>by
   let⟨f,fd,ps,h1,h2,h3,h4⟩:=G.glo.F x i hf;exact zke h1 (G.room.mono (Co m)) (zap G hg) h2 h3 h4 (ybz (zbE hg))
  |_=>AD
 |.Call (.Name x _) (a::es) kws _=>an (ask (glB κ x=AC/\nst a=AC/\yb2 es=AC)) λhg=>
  match hx:γ.g x with
  |some (.fn j)=>match kws with
   |[]=>an (ask (j=i)) λhj=>an (ya8 F (a::es)) λha=>ok λm S X G=>by
    subst hj;let⟨f,fd,ps,h1,h2,h3,h4⟩:=G.glo.F x j hx;exact zmj h1 (G.room.mono (Co m)) (zap G hg.1) h2 h3 h4 (ha m S X G) (ybz (zbE hg.1)) (yao hg.2.1) (stars hg.2.2)
   |_=>AD
  |some (.fnD j)=>match hk:γ.kb j (es.length+1) (kwN kws)with
   |none=>AD
   |some sh=>match ycE (es.length+1) F with
    |none=>AD
    |some s=>match yce sh s.f2 kws with
     |none=>AD
     |some q=>an (ask (kwB kws=AC/\j=i)) λhw=>an (ya8 s.f1 (a::es)) λha=>ok λm S X G=>by
      let⟨hw,rfl⟩:=hw;let⟨f,fd,ps,h1,h2,h3,h4⟩:=G.glo.Q x j _ _ sh hx hk;rw[<-s.h,<-q.h];rw[<-q.s]at h4;have w:=λ{pos}=>zpa (pos:=pos) (env:=X.env) hw;exact zj5 h1 (G.room.mono (Co m)) (zap G hg.1) h2 h3 h4 s.l (ha m S X G) (q.k m S X G) w.1 w.2.1 (ybz (zbE hg.1)) (yao hg.2.1) (by
       rw[w.2.2,HK];exact stars (es:=a::es) (by erw[yb2,Be,hg.2.1,Dm];exact hg.2.2))
  |_=>AD
 |_=>AD
abbrev yeQ(b:Blt)(x:AQ):Prop:=∀S X,X.calm=AC->(∃id,yat X (.builtin id) (rB S X b)/\bootBuiltins x=AA (.builtin id)) \/ ∃T,yat X (.type T) (rB S X b)/\bootBuiltins x=AA (.type T)
def ygY(b:Blt)(x:AQ):Pr (yeQ b x):=
 match b with
 |.len=>an (ask (x="len")) λh=>ok λ_ _ _=>.inl ⟨_,zm1,h ▸ zoe⟩
 |.min=>an (ask (x="min")) λh=>ok λ_ _ c=>.inl ⟨_,zou c,h ▸ zni⟩
 |.max=>an (ask (x="max")) λh=>ok λ_ _ c=>.inl ⟨_,znH c,h ▸ zm6⟩
 |.tuple=>an (ask (x="tuple")) λh=>ok λ_ _ _=>.inr ⟨_,zkg,h ▸ zgm⟩
 |.all=>an (ask (x="all")) λh=>ok λ_ _ c=>.inl ⟨_,zoM c,h ▸ zn2⟩
 |.sum=>an (ask (x="sum")) λh=>ok λ_ _ c=>.inl ⟨_,znP c,h ▸ zph⟩
 |_=>AD
def ygk(b:Blt)(F:Fs γ κ ces)(e:AT):Pr (YE γ κ e (.blt b ces)):=
 match e with
 |.Call (.Name x _) (a::es) [] _=>an (ask (glB κ x=AC/\nst a=AC/\yb2 es=AC/\γ.b x=AC)) λhg=>an (ygY b x) λhb=>an (ya8 F (a::es)) λha=>ok λm S X G=>by
  rcases hb S X G.calm with⟨id,h1,h2⟩|⟨T,h1,h2⟩
  .exact zoS h1 (zap G hg.1) (G.glo.B x hg.2.2.2) h2 (ha m S X G) (yd8 (zbE hg.1)) (ybz (zbE hg.1)) (yao hg.2.1) (stars hg.2.2.1)
  .exact zlF h1 (zap G hg.1) (G.glo.B x hg.2.2.2) h2 (ha m S X G) (yd8 (zbE hg.1)) (ybz (zbE hg.1)) (yao hg.2.1) (stars hg.2.2.1)
 |_=>AD
def yfJ(b:Blt)(F:Fs γ κ ces)(e:AT):Pr (YE γ κ e (.blt b ces)):=
 match b with
 |b=>ygk b F e
def tyB(t:Ty)(x:AQ):Pr (ydk t=AC/\bootBuiltins x=AA (.type (tyN t))):=
 match t with
 |.int=>an (ask (x="int")) λh=>ok ⟨rfl,h ▸ zoa⟩
 |.bool=>an (ask (x="bool")) λh=>ok ⟨rfl,h ▸ zmy⟩
 |.str=>an (ask (x="str")) λh=>ok ⟨rfl,h ▸ zoC⟩
 |.tuple=>an (ask (x="tuple")) λh=>ok ⟨rfl,h ▸ zgm⟩
 |_=>AD
def ygu(ts:List Ty)(e:AT)(fa:∀x,Pr (YE γ κ x ca)):Pr (YE γ κ e (.isi ca ts)):=
 match ts,e with
 |[t],.Call (.Name n _) [a,.Name x _] [] _=>an (ask (n="isinstance"/\glB κ n=AC/\γ.b n=AC/\glB κ x=AC/\γ.b x=AC/\γ.t t=AC/\nst a=AC)) λh=>an (tyB t x) λht=>an (fa a) λha=>ok λm S X G=>by
  let⟨rfl,h1,h2,h3,h4,h5,h6⟩:=h;exact znZ (G.glo.T t h5) ht.1 (zap G h1) (G.glo.B _ h2) (zap G h3) (G.glo.B _ h4) ht.2 (ha m S X G) (yd8 (zbE h3)) (ybz (zbE h3)) (yao h6) rfl
 |_,_=>AD
mutual
noncomputable def yeW:(a b:PV)->Pr (a=b)
 |.non,.non=>ok rfl
 |.bl a,.bl b=>an (ask (a=b)) λh=>ok (by rw[h])
 |.int a,.int b=>an (ask (a=b)) λh=>ok (by rw[h])
 |.str a,.str b=>an (ask (a=b)) λh=>ok (by rw[h])
 |.tp k a,.tp j b=>an (ask (k=j)) λh=>an (ycO a b) λg=>ok (by rw[h,g])
 |.lst a,.lst b=>an (ycO a b) λg=>ok (by rw[g])
 |_,_=>AD
noncomputable def ycO:(a b:List PV)->Pr (a=b)
 |[],[]=>ok rfl
 |a::x,b::y=>an (yeW a b) λh=>an (ycO x y) λg=>ok (by rw[h,g])
 |_,_=>AD
end
def eqD:(a b:List (AQ×PV))->Pr (a=b)
 |[],[]=>ok rfl
 |(k,a)::x,(j,b)::y=>an (ask (k=j)) λe=>an (yeW a b) λh=>an (eqD x y) λg=>ok (by rw[e,h,g])
 |_,_=>AD
def ygg(v:PV)(e:AT):Pr (YE γ κ e (.cst v)):=
 match e with
 |.Name x _=>match h:γ.g x with
  |some (.cst u)=>an (ask (glB κ x=AC)) λhg=>an (yeW u v) λhv=>ok λm S X G=>by
   subst hv;rcases G.glo.C x u h with q|⟨i,rfl,q⟩
   .exact zqa (zap G hg) q (ybz (zbE hg))
   .exact zoO (zap G hg) q (ybz (zbE hg))
  |_=>AD
 |e=>yfk v e
def yfL(D:List (AQ×PV))(e:AT)(fb:∀x,Pr (YE γ κ x cb)):Pr (YE γ κ e (.dix D cb)):=
 match e with
 |.Subscript (.Name x _) b _=>match h:γ.g x with
  |some (.dct E)=>an (ask (glB κ x=AC/\nsl b=AC)) λhg=>an (eqD E D) λhv=>an (fb b) λhb=>ok λm S X G=>by
   subst hv;exact zns (zap G hg.1) (G.glo.D x E h) (hb m S X G) (nos hg.2) (ybz (zbE hg.1))
  |_=>AD
 |_=>AD
def yhg(D:List (AQ×PV))(e:AT)(fa:∀x,Pr (YE γ κ x ca)):Pr (YE γ κ e (.din ca D)):=
 match e with
 |.Compare a [.In] [.Name x _] _=>match h:γ.g x with
  |some (.dct E)=>an (ask (glB κ x=AC)) λhg=>an (eqD E D) λhv=>an (fa a) λha=>ok λm S X G=>by
   subst hv;exact zoE (zap G hg) (G.glo.D x E h) (ha m S X G) rfl (ybz (zbE hg))
  |_=>AD
 |_=>AD
theorem ydq{pos:CW}{env:B0}:∀{es:List AT},yb2 es=AC->((backTo pos (starEach es env)).all λx=>!x.1)=AC
 |[],_=>rfl
 |a::es,h=>by
  erw[yb2,Be,AK]at h;have:=ydq (pos:=pos) (env:=env) (es:=es) h.2;erw[backTo]at this ⊢;rw[yao h.1,AL,Be,this];rfl
theorem zkG{o:AT}{n:AQ}{ap pos:CW}{es:List AT}{env:B0}(hb:nca o=AC)(hs:yb2 es=AC)(hn:es.length<30)(hl:(ap.endLine==pos.line)=AC):
  eval (.Call (.Attribute o n ap) es [] pos) env=(do
   let ov <-eval o env
   standAt ap.atName
   let (f,first) <-holding [ov] (getMethod ov n (do return (<-importBound o env).getD AC))
   callWith pos f first (backTo pos (starEach es env)) (backToKw pos (keywordEach [] env))):=by
 have hf:methodCallForm (es.length+([]:List C3).length) (backTo pos (starEach es env)) (backToKw pos (keywordEach [] env))=true:=by
  erw[methodCallForm,ydq hs,Dm];simp[backToKw,keywordEach,hn]
 rw[arm_eval_Call,ydU hb];erw[methodCall,calleeOf,methodCallPos,hf,hl,if_true,Bool.not_true,Bool.or_true,pure_bind]
def yhj(c:Nat)(f:AQ)(e:AT)(fa:∀x,Pr (YE γ κ x ca)):Pr (YE γ κ e (.fld c ca f)):=
 match e with
 |.Attribute a g _=>an (ask (g=f/\γ.fl c f=AC/\nca a=AC)) λh=>an (fa a) λha=>ok λm S X G=>by
  let⟨rfl,h1,h2⟩:=h;exact zn8 (G.glo.A c g h1).1 (G.glo.A c g h1).2 (ha m S X G) (ydU h2)
 |_=>AD
def yhf(c i:Nat)(F:Fs γ κ ces)(e:AT):Pr (YE γ κ e (.new c i ces)):=
 match e with
 |.Call (.Name x _) (a::es) [] _=>match h:γ.g x with
  |some (.cls c' i')=>an (ask (c'=c/\i'=i/\glB κ x=AC/\nst a=AC/\yb2 es=AC)) λhg=>an (ya8 F (a::es)) λha=>ok λm S X G=>by
   let⟨rfl,rfl,h1,h2,h3⟩:=hg;let⟨q,f,fd,ps,q1,q2,q3⟩:=G.glo.N x c' i' h;exact zoJ q1 q2 G.room (zap G h1) q q3 (ha m S X G) (ybz (zbE h1)) (yao h2) (stars h3)
  |_=>AD
 |_=>AD
def yfY(c i:Nat)(n:AQ)(F:Fs γ κ ces)(e:AT)(fa:∀x,Pr (YE γ κ x ca)):Pr (YE γ κ e (.mcl c i n ca ces)):=
 match e with
 |.Call (.Attribute (.Name x p) n' ap) [] [] pos=>match F with
  |.nil=>an (ask (n'=n/\γ.me c n=AA i/\(ap.endLine==pos.line)=AC)) λh=>an (fa (.Name x p)) λho=>ok λm S X G=>by
   let⟨rfl,h1,h4⟩:=h;let⟨q,f,fd,ps,q1,q2,q3⟩:=G.glo.M c n' i h1;exact zl1 q q1 q2 (G.room.mono (Co m)) q3 (ho m S X G) (zkG rfl rfl (Nat.zero_lt_succ _) h4)
  |_=>AD
 |.Call (.Attribute (.Name x p) n' ap) (a::es) [] pos=>an (ask (n'=n/\γ.me c n=AA i/\nst a=AC/\yb2 es=AC/\(ap.endLine==pos.line)=AC/\(a::es).length<30)) λh=>an (fa (.Name x p)) λho=>an (ya8 F (a::es)) λha=>ok λm S X G=>by
  let⟨rfl,h1,h2,h3,h4,h5⟩:=h;let⟨q,f,fd,ps,q1,q2,q3⟩:=G.glo.M c n' i h1;exact znw q q1 q2 (G.room.mono (Co m)) q3 (ho m S X G) (ha m S X G) (yao h2) (stars h3) (zkG rfl (by erw[yb2,Be,h2,Dm];exact h3) h5 h4)
 |_=>AD
theorem ygW{pos:CW}{env:B0}{b:AT}(h:nst b=AC):((backTo pos (starEach [b] env)).all (λx=>!x.1)&&(backToKw pos (keywordEach [] env)).all (λx=>x.1.isSome)&&decide (([b]:List AT).length+([]:List C3).length+(if ([]:List C3).isEmpty then 0 else 1)<30))=true:=by
 rw[yao h];rfl
def yf7(k:Mth)(F:Fs γ κ ces)(e:AT)(fa:∀x,Pr (YE γ κ x ca)):Pr (YE γ κ e (.mth k ca ces)):=
 match k,e,F with
 |.append,.Call (.Attribute a n ap) [b] [] pos,.cons fb .nil=>an (ask (n="append"/\nca a=AC/\nst b=AC/\(ap.endLine==pos.line)=AC)) λh=>an (fa a) λha=>an (fb b) λhb=>ok λm S X G=>by
  let⟨rfl,h1,h2,h3⟩:=h;exact zh7 (ha m S X G) (hb m S X G) (yao h2) (ydU h1) h3 (ygW h2)
 |.get,.Call (.Attribute a n ap) [b,c] [] pos,.cons fb (.cons fc .nil)=>an (ask (n="get"/\nca a=AC/\nst b=AC/\nst c=AC/\(ap.endLine==pos.line)=AC)) λh=>an (fa a) λha=>an (fb b) λhb=>an (fc c) λhc=>ok λm S X G=>by
  let⟨rfl,h1,h2,h4,h3⟩:=h;exact znv (zlN G.room) (ha m S X G) (hb m S X G) (hc m S X G) ⟨ydU h1,by rw[yao h2,yao h4];rfl,h3,by rw[yao h2,yao h4];rfl⟩
 |_,_,_=>AD
end
structure Ev(γ:Gs)(c:Ce) where
 e:∀κ x,Pr (YE γ κ x c)
 t:∀κ x,Pr (YT γ κ x c)
 w:∀κ op l pos,Pr (YW γ κ (.BoolOp op l pos) c)
section
variable {γ:Gs}{ca cb cc:Ce}
def w1{c:Ce}(t:∀κ x,Pr (YT γ κ x c))(κ:Kx)(op:HY)(l:List AT)(pos:CW):Pr (YW γ κ (.BoolOp op l pos) c):=
 match op,l with
 |.And,[a]=>an (t κ a) λh=>ok λm S X G=>zl3 (h m S X G)
 |.Or,[a]=>an (t κ a) λh=>ok λm S X G=>znn (h m S X G)
 |_,_=>AD
def plT{c:Ce}(e:∀κ x,Pr (YE γ κ x c))(κ:Kx)(x:AT):Pr (YT γ κ x c):=an (ask (nte x=AC)) λh=>an (e κ x) λhe=>ok λm S X G=>zoR (he m S X G) (itr h)
def plain{c:Ce}(e:∀κ x,Pr (YE γ κ x c)):Ev γ c:=⟨e,plT e,w1 (plT e)⟩
def ycZ{c:Ce}(e:∀κ x,Pr (YE γ κ x c))(t:∀κ x,Pr (YT γ κ x c)):Ev γ c:=⟨e,t,w1 t⟩
def ygt(A:Ev γ ca)(κ:Kx)(e:AT):Pr (YT γ κ e (.not ca)):=
 match e with
 |.UnaryOp .Not a _=>an (A.t κ a) λh=>ok λm S X G=>znT (h m S X G)
 |_=>AD
def ygH(A:Ev γ ca)(B:Ev γ cb)(κ:Kx)(e:AT):Pr (YE γ κ e (.and ca cb)):=
 match e with
 |.BoolOp .And (a::b::[]) _=>an (A.e κ a) λha=>an (B.e κ b) λhb=>ok λm S X G=>zkI (ha m S X G) (zkX (hb m S X G))
 |.BoolOp .And (a::b::c::r) p=>an (A.e κ a) λha=>an (B.e κ (.BoolOp .And (b::c::r) p)) λhb=>ok λm S X G=>zkI (ha m S X G) (hb m S X G)
 |_=>AD
def orE(A:Ev γ ca)(B:Ev γ cb)(κ:Kx)(e:AT):Pr (YE γ κ e (.or ca cb)):=
 match e with
 |.BoolOp .Or (a::b::[]) _=>an (A.e κ a) λha=>an (B.e κ b) λhb=>ok λm S X G=>znL (ha m S X G) (zkX (hb m S X G))
 |.BoolOp .Or (a::b::c::r) p=>an (A.e κ a) λha=>an (B.e κ (.BoolOp .Or (b::c::r) p)) λhb=>ok λm S X G=>znL (ha m S X G) (hb m S X G)
 |_=>AD
def yem(A:Ev γ ca)(B:Ev γ cb)(κ:Kx)(op:HY)(l:List AT)(pos:CW):Pr (YW γ κ (.BoolOp op l pos) (.and ca cb)):=
 match op,l with
 |.And,a::b::r=>an (A.t κ a) λha=>an (B.w κ .And (b::r) pos) λhb=>ok λm S X G=>zo7 (ha m S X G) (hb m S X G)
 |_,_=>AD
def orW(A:Ev γ ca)(B:Ev γ cb)(κ:Kx)(op:HY)(l:List AT)(pos:CW):Pr (YW γ κ (.BoolOp op l pos) (.or ca cb)):=
 match op,l with
 |.Or,a::b::r=>an (A.t κ a) λha=>an (B.w κ .Or (b::r) pos) λhb=>ok λm S X G=>zp9 (ha m S X G) (hb m S X G)
 |_,_=>AD
def ptW{c:Ce}(w:∀κ op l pos,Pr (YW γ κ (.BoolOp op l pos) c))(κ:Kx)(e:AT):Pr (YT γ κ e c):=
 match e with
 |.BoolOp op l p=>an (w κ op l p) λh=>ok λm S X G=>PW.pt (h m S X G)
 |_=>AD
def yfb{c:Ce}(t:∀κ x,Pr (YT γ κ x c))(w:∀κ op l pos,Pr (YW γ κ (.BoolOp op l pos) c))(κ:Kx)(op:HY)(l:List AT)(pos:CW):Pr (YW γ κ (.BoolOp op l pos) c):=
 match l with
 |[a]=>w1 t κ op [a] pos
 |l=>w κ op l pos
def yeC(A:Ev γ ca)(B:Ev γ cb):Ev γ (.and ca cb):=⟨ygH A B,ptW (yem A B),yfb (ptW (yem A B)) (yem A B)⟩
def ygN(A:Ev γ ca)(B:Ev γ cb):Ev γ (.or ca cb):=⟨orE A B,ptW (orW A B),yfb (ptW (orW A B)) (orW A B)⟩
end
abbrev YI(γ:Gs)(κ:Kx)(tg l:AT)(c:Cit):Prop:=∀m S X,Good γ κ m S X->PI X tg l (tI S X c)
abbrev YG(γ:Gs)(κ:Kx)(tg:AT)(c:Tg):Prop:=∀m S X,Good γ κ m S X->PG X tg (tG S X c)
section
variable {γ:Gs}{κ:Kx}{ca cb cc ce:Ce}{ci:Cit}
def ygJ(e:∀x,Pr (YE γ κ x ca))(tg l:AT):Pr (YI γ κ tg l (.seq ca)):=an (e l) λh=>ok λm S X G=>znA (h m S X G)
def iR1(fa:∀x,Pr (YE γ κ x ca))(tg l:AT):Pr (YI γ κ tg l (.range1 ca)):=
 match l with
 |.Call (.Name x _) [a] [] _=>an (ask (x="range"/\glB κ x=AC/\γ.b x=AC/\nst a=AC)) λh=>an (fa a) λha=>ok λm S X G=>by
  let⟨rfl,h1,h2,h3⟩:=h;exact zie (zap G h1) (G.glo.B _ h2) (ha m S X G) (yao h3)
 |_=>AD
def yeZ(fa:∀x,Pr (YE γ κ x ca))(tg l:AT):Pr (YI γ κ tg l (.enum ca)):=
 match tg,l with
 |.Tuple _ _ _,.Call (.Name x _) [a] [] _=>an (ask (x="enumerate"/\glB κ x=AC/\γ.b x=AC/\nst a=AC)) λh=>an (fa a) λha=>ok λm S X G=>by
  let⟨rfl,h1,h2,h3⟩:=h;exact zlb (zap G h1) (G.glo.B _ h2) (ha m S X G) (yao h3)
 |_,_=>AD
def yg9(fa:∀x,Pr (YE γ κ x ca))(fb:∀x,Pr (YE γ κ x cb))(tg l:AT):Pr (YI γ κ tg l (.zip ca cb)):=
 match tg,l with
 |.Tuple _ _ _,.Call (.Name x _) [a,b] [] _=>an (ask (x="zip"/\glB κ x=AC/\γ.b x=AC/\nst a=AC/\nst b=AC)) λh=>an (fa a) λha=>an (fb b) λhb=>ok λm S X G=>by
  let⟨rfl,h1,h2,h3,h4⟩:=h;exact zmW (zap G h1) (G.glo.B _ h2) (ha m S X G) (hb m S X G) (by rw[yao h3,yao h4];rfl) (yao h4)
 |_,_=>AD
def gNm(κ:Kx):(l:List Nat)->(es:List AT)->Pr (∀m S X,Good γ κ m S X->PGs X es (gNs l)/\(assignEach es X.env).length=l.length/\(assignEach es X.env).findIdx? (·.1)=AD)
 |[],[]=>ok λ_ _ _ _=>⟨zlK,rfl,rfl⟩
 |i::l,.Name x _::es=>an (ask (setB κ i x=AC)) λh=>an (gNm κ l es) λhr=>ok λm S X G=>by
  have s:=za5 G h;let⟨h1,h2,h3⟩:=hr m S X G;refine⟨zkh s.d s.i s.l h1 s.f,?_,?_⟩
  .simp only[assignEach,AZ,h2]
  .simp only[assignEach,List.findIdx?_cons,h3];rfl
 |_,_=>AD
def mTg(ct:Tg)(tg:AT):Pr (YG γ κ tg ct):=
 match ct,tg with
 |.n i,.Name x _=>an (ask (setB κ i x=AC)) λh=>ok λm S X G=>let s:=za5 G h;zlu s.d s.i s.l s.f
 |.t l,.Tuple es _ _=>an (gNm κ l es) λh=>ok λm S X G=>zoQ G.calm (h m S X G).1 (h m S X G).2.1 (h m S X G).2.2
 |_,_=>AD
noncomputable def tgN:AT->List AQ
 |.Name x _=>[x]
 |.Tuple es _ _=>es.filterMap fun
  |.Name x _=>AA x
  |_=>AD
 |_=>[]
def ydL(N:List AQ)(sl:List (Option Nat))(tg:AT):List Str:=tgN tg++(sl.drop (tgN tg).length).filterMap λo=>o.bind λj=>N[j]?
noncomputable def ycm(sc so:Bl):Scope:={sc with names:=sc.names.map λ(n,k)=>if (k==Ch&&so.kind==.function&&so.names.lookup n==AA .cell)then(n,Fi)else(n,k)}
noncomputable def yar(N:List AQ)(so sc:Bl)(NC:List AQ)(sl:List (Option Nat)):Bool:=
 decide (sc.kind=.function)&&(sc.names.all λy=>y.2 != .local || decide (sc.names.lookup y.1=AA .local))&&(sc.names.all λy=>y.2 != .cell)&&(sc.names.all λy=>y.2 != .free || decide (so.names.lookup y.1=AA .cell)) &&
  ((NC.zip sl).all λp=>p.2.all λj=>decide (N[j]?=AA p.1/\sc.names.lookup p.1=AA .free))&&decide (sl.length=NC.length)
theorem zkk{X:Cx}{sc:Bl}{NC:List AQ}{sl:List (Option Nat)}(h:yar X.N X.env.scope sc NC sl=AC):yau X sc NC sl:=by
 erw[yar,AK,decide_eq_true_eq,Bk,DF,bne_iff_ne,ne_eq]at h;let⟨⟨⟨⟨⟨h1,h2⟩,h3⟩,h4⟩,h5⟩,h6⟩:=h;exact ydH _ _ rfl rfl h1 (λy hy e=>(h2 y hy).resolve_left λz=>z e) h3 (λy hy e=>(h4 y hy).resolve_left λz=>z e) (λp hp=>by simpa using h5 p hp) h6
theorem Good.comp{m:Nat}{S:Se}{X:Cx}(G:Good γ κ m S X)(sc:Bl)(NC:List AQ)(j:CI):Good γ ⟨NC,ycm sc κ.sc,AB⟩ m S (cxC X sc NC j):=by
 refine⟨rfl,?_,G.calm,G.room,(λh=>nomatch h),⟨G.glo.F,G.glo.Q,G.glo.C,G.glo.D,G.glo.E,G.glo.N,G.glo.B,G.glo.T,G.glo.A,G.glo.M,λy D h=>let ⟨fa,fdd,ps,M,d⟩:=G.glo.K y D h;⟨fa,fdd,ps,⟨M.F,M.kp,M.b⟩,d⟩⟩⟩;show relabel sc X.env=_;rw[<-G.sc];rfl
def ygZ(c:Ce)(f:∀x,Pr (YT γ κ x c))(ifs:List AT):Pr (∀m S X,Good γ κ m S X->PTs X ifs (tT0 S X.K c)):=
 match ifs with
 |[]=>match c with
  |.cst (.bl AC)=>ok λ_ _ _ _=>zjC
  |_=>AD
 |[a]=>an (f a) λh=>ok λm S X G=>zlk rfl (h m S X G)
 |_=>AD
structure ycN(γ:Gs)(κ:Kx)(sl:List (Option Nat))(ct:Tg)(ci:Cit)(cc ce:Ce)(elt tg it:AT)(ifs:List AT)(sc:Bl):Prop where
 q:∀m S X,Good γ κ m S X->∃NC,yau X sc NC sl/\PI X tg it (tI S X ci)/\(∀j,PG (cxC X sc NC j) tg (tG0 S X.K ct))/\(∀j,PTs (cxC X sc NC j) ifs (tT0 S X.K cc))/\∀j,PE (cxC X sc NC j) elt (tE0 S X.K ce)
 f:yaJ ct sl=AC
 s:nse it=AC
def mCo(sl:List (Option Nat))(ct:Tg)(fi:∀tg l,Pr (YI γ κ tg l ci))(C:Ev γ cc)(E:Ev γ ce)(elt tg it:AT)(ifs:List AT)(sc:Bl):Pr (ycN γ κ sl ct ci cc ce elt tg it ifs sc):=
 an (ask (yar κ.N κ.sc sc (ydL κ.N sl tg) sl=AC/\yaJ ct sl=AC/\nse it=AC)) λh=>an (fi tg it) λhi=>an (mTg (γ:=γ) (κ:=⟨ydL κ.N sl tg,ycm sc κ.sc,AB⟩) ct tg) λhg=>
  an (ygZ (γ:=γ) (κ:=⟨ydL κ.N sl tg,ycm sc κ.sc,AB⟩) cc (C.t _) ifs) λht=>an (E.e ⟨ydL κ.N sl tg,ycm sc κ.sc,AB⟩ elt) λhe=>ok ⟨λm S X G=>⟨ydL κ.N sl tg,by
   rw[<-G.n,<-G.sc]at h;rw[<-G.n];exact zkk h.1,hi m S X G,λj=>zmw rfl (hg m S _ (G.comp sc _ j)),λj=>ht m S _ (G.comp sc _ j),λj=>zmq rfl (he m S _ (G.comp sc _ j))⟩,h.2.1,h.2.2⟩
def ye6(sl:List (Option Nat))(ct:Tg)(fi:∀tg l,Pr (YI γ κ tg l ci))(C:Ev γ cc)(E:Ev γ ce)(e:AT):Pr (YE γ κ e (.comp sl ct ci cc ce)):=
 match e with
 |.ListComp elt [⟨tg,it,ifs,0⟩] sc _=>an (mCo sl ct fi C E elt tg it ifs sc) λh=>ok λm S X G=>by
  let⟨NC,h1,h2,h3,h4,h5⟩:=h.q m S X G;exact zlD G.calm h1 h.f h2 h3 h4 h5 (fse h.s)
 |_=>AD
end
section
variable {γ:Gs}{κ:Kx}
end
mutual
noncomputable def ch(γ:Gs):(c:Ce)->Ev γ c
 |.cst v=>plain λκ x=>ygg v x
 |.var i=>plain λκ x=>yfs i x
 |.bin o a b=>plain λκ x=>ygv o x ((ch γ a).e κ) ((ch γ b).e κ)
 |.rep a b=>plain λκ x=>ygr x ((ch γ a).e κ) ((ch γ b).e κ)
 |.neg a=>plain λκ x=>yho x ((ch γ a).e κ)
 |.not a=>ycZ (λκ x=>yge x ((ch γ a).e κ)) (ygt (ch γ a))
 |.and a b=>yeC (ch γ a) (ch γ b)
 |.or a b=>ygN (ch γ a) (ch γ b)
 |.cmp o a b=>ycZ (λκ x=>yfI o x ((ch γ a).e κ) ((ch γ b).e κ)) (λκ x=>yeY o x ((ch γ a).e κ) ((ch γ b).e κ))
 |.chain o p a b c=>ycZ (λκ x=>yga o p x ((ch γ a).e κ) ((ch γ b).e κ) ((ch γ c).e κ)) (λκ x=>yep o p x ((ch γ a).e κ) ((ch γ b).e κ) ((ch γ c).e κ))
 |.ite c a b=>plain λκ x=>ygK x ((ch γ c).t κ) ((ch γ a).e κ) ((ch γ b).e κ)
 |.tup es=>plain λκ x=>yfE x (ya8 (chs γ es κ))
 |.lst es=>plain λκ x=>ygb x (ya8 (chs γ es κ))
 |.newl es=>plain λκ x=>yeJ x (ya8 (chs γ es κ))
 |.dict0 t=>plain λκ x=>yev t x
 |.idx a i=>plain λκ x=>mIdx x ((ch γ a).e κ) ((ch γ i).e κ)
 |.slc a l h=>plain λκ x=>yfN x ((ch γ a).e κ) (λo=>yfi l o ((ch γ l).e κ)) (λo=>yfi h o ((ch γ h).e κ))
 |.call f es=>plain λκ x=>ygP f (chs γ es κ) x
 |.blt b es=>plain λκ x=>yfJ b (chs γ es κ) x
 |.mth k o es=>plain λκ x=>yf7 k (chs γ es κ) x ((ch γ o).e κ)
 |.isi a ts=>plain λκ x=>ygu ts x ((ch γ a).e κ)
 |.comp sl tg it c e=>plain λκ x=>ye6 sl tg (chi γ it κ) (ch γ c) (ch γ e) x
 |.frz a=>plain λκ x=>an ((ch γ a).e κ x) λh=>ok λm S X G=>zo1 (h m S X G)
 |.nope=>plain λκ x=>ok λ_ _ _ _=>zmN
 |.dix D a=>plain λκ x=>yfL D x ((ch γ a).e κ)
 |.din a D=>plain λκ x=>yhg D x ((ch γ a).e κ)
 |.fld c a f=>plain λκ x=>yhj c f x ((ch γ a).e κ)
 |.new c i es=>plain λκ x=>yhf c i (chs γ es κ) x
 |.mcl c i n o es=>plain λκ x=>yfY c i n (chs γ es κ) x ((ch γ o).e κ)
noncomputable def chs(γ:Gs):(cs:Ces)->(κ:Kx)->Fs γ κ cs
 |.nil,_=>.nil
 |.cons c cs,κ=>.cons (λx=>(ch γ c).e κ x) (chs γ cs κ)
noncomputable def chi(γ:Gs):(c:Cit)->(κ:Kx)->∀tg l,Pr (YI γ κ tg l c)
 |.seq a,κ=>ygJ ((ch γ a).e κ)
 |.range1 a,κ=>iR1 ((ch γ a).e κ)
 |.enum a,κ=>yeZ ((ch γ a).e κ)
 |.zip a b,κ=>yg9 ((ch γ a).e κ) ((ch γ b).e κ)
 |_,_=>λ_ _=>AD
end
section
variable {γ:Gs}{κ:Kx}{ca cb cc ce:Ce}{ci:Cit}{ct:Tg}{cs cs':Css}{ces:Ces}
def yez(f:∀x,Pr (YE γ κ x ca))(s:Bz):Pr (YS γ κ s (.expr ca)):=
 match s with
 |.Expr a _=>an (ask (nco a=AC)) λhs=>an (f a) λh=>ok λm S X G=>zmc (h m S X G) (swp hs)
 |_=>AD
def ye8(i:Nat)(f:∀x,Pr (YE γ κ x ca))(s:Bz):Pr (YS γ κ s (.asg (.n i) ca)):=
 match s with
 |.Assign [.Name x _] a _=>an (ask (nco a=AC/\setB κ i x=AC)) λhs=>an (f a) λh=>ok λm S X G=>let q:=za5 G hs.2;zpb q.d q.i q.l (h m S X G) (swp hs.1) q.f
 |_=>AD
theorem yfw{a:AT}(h:nst a=AC):(match (generalizing:=false) a with | .Starred _ _=>AC|_=>AB)=false:=by
 revert h;cases a<;>intro h<;>first|rfl|cases h
def swD(so:Bl)(x y:AQ)(px py:CW)(a b:AT):Bool:=(if so.kind.isAnnotationScope then Fw else so.kind)==.function&&so.names.lookup x==AA .local&&so.names.lookup y==AA .local&&py.line==px.line&&nst a&&nst b&&!(x==y)&&!(foldedForSure 8 a&&foldedForSure 8 b)&&!(constantsAlone 8 a&&constantsAlone 8 b)
theorem ygj{x y:AQ}{px py pt pt2:CW}{kt k2:Nat}{a b:AT}{env:B0}(h:swD env.scope x y px py a b=AC):
  swappedStores [.Tuple [.Name x px,.Name y py] kt pt] (.Tuple [a,b] k2 pt2) env=pure (AA [x,y]):=by
 erw[swD,AK,Cm]at h;let⟨⟨⟨⟨⟨⟨⟨⟨h1,h2⟩,h3⟩,h4⟩,h5⟩,h6⟩,h7⟩,h8⟩,h9⟩:=h;have k1:(env.blockKind != .function)=false:=by
  show (!((if env.scope.kind.isAnnotationScope then Fw else env.scope.kind)==.function))=AB;rw[h1];rfl
 have k2:env.kindOf x=AA .local:=eq_of_beq h2;have k3:env.kindOf y=AA .local:=eq_of_beq h3;have k4:py.line=px.line:=eq_of_beq h4;have k7:¬y=x:=λz=>by subst z;simp at h7
 have m1:=yfw h5;have m2:=yfw h6;have c8:¬(foldedForSure 8 a=AC/\foldedForSure 8 b=AC):=λz=>by rw[z.1,z.2]at h8;cases h8
 have c9:¬(constantsAlone 8 a=AC/\constantsAlone 8 b=AC):=λz=>by rw[z.1,z.2]at h9;cases h9
 have x1:(Expr.Name x px).pos=px:=rfl;have x2:(Expr.Name y py).pos=py:=rfl;unfold swappedStores;simp[k1,m1,m2,k2,k3,k4,List.eraseDups_cons,k7,x1,x2,c8,c9,C2];intro z;exfalso;rcases z with z|z
 .exact BD (m1.symm.trans z)
 .exact BD (m2.symm.trans z)
def yf0(i j:Nat)(fa:∀x,Pr (YE γ κ x ca))(fb:∀x,Pr (YE γ κ x cb))(s:Bz):Pr (YS γ κ s (.asg (.t [i,j]) (.tup (.cons ca (.cons cb .nil))))):=
 match s with
 |.Assign [.Tuple [.Name x px,.Name y py] _ _] (.Tuple [a,b] _ _) _=>an (ask (setB κ i x=AC/\setB κ j y=AC/\i≠j/\swD κ.sc x y px py a b=AC)) λh=>an (fa a) λha=>an (fb b) λhb=>ok λm S X G=>by
  let⟨h1,h2,h3,h4⟩:=h;have q:=za5 G h1;have r:=za5 G h2;have h5:=h4;erw[swD,AK]at h5;have e1:X.env.scope.names.lookup x=AA .local:=by rw[G.sc];exact eq_of_beq h5.1.1.1.1.1.1.1.2
  have e2:X.env.scope.names.lookup y=AA .local:=by rw[G.sc];exact eq_of_beq h5.1.1.1.1.1.1.2
  exact zoV G.calm q.d q.i r.i h3 (znr G.calm q.d q.i r.i h3 e1 e2 (zek (ha m S X G) (zek (hb m S X G) zhu (yao h5.1.1.1.2)) (yao h5.1.1.1.1.2)) (ygj (by rw[G.sc];exact h4)))
 |_=>AD
theorem sw0{es:List AT}{k:Nat}{p:CW}{a:AT}{env:B0}(h:ntu a=AC):swappedStores [.Tuple es k p] a env=pure none:=by
 cases a<;>first|rfl|cases h
theorem sw1{b c:AT}{p:CW}{a:AT}{env:B0}:swappedStores [.Subscript b c p] a env=pure none:=by
 cases a<;>rfl
theorem ye7{t a:AT}{l:Nat}{env:B0}(h:nco a=AC):swapsWithSole [t] a l env=pure false:=by
 show swapsWith a (AA t) l env=_;exact swp h
theorem asS{b c:AT}{pos:CW}{env:B0}(h:nsl c=AC):∀v,assign (.Subscript b c pos) env v=(do
   let ov <-holding [v] (eval b env)
   let iv <-holding [v,ov] (eval c env)
   standAt pos
   holding [v,ov,iv] (setItem ov iv v)
   release [v,ov,iv] []):=by
 cases c<;>first|exact λ_=>rfl|cases h
def yhe(l:List Nat)(f:∀x,Pr (YE γ κ x ca))(s:Bz):Pr (YS γ κ s (.asg (.t l) ca)):=
 match s with
 |.Assign [.Tuple es k p] a _=>an (ask (nco a=AC/\ntu a=AC)) λhs=>an (mTg (γ:=γ) (κ:=κ) (.t l) (.Tuple es k p)) λhg=>an (f a) λh=>ok λm S X G=>zlo (h m S X G) (hg m S X G) (ye7 hs.1) (sw0 hs.2)
 |_=>AD
def ygq(f:∀x,Pr (YE γ κ x cc))(fo:∀x,Pr (YE γ κ x ca))(fi:∀x,Pr (YE γ κ x cb))(s:Bz):Pr (YS γ κ s (.six ca cb cc)):=
 match s with
 |.Assign [.Subscript b c _] a _=>an (ask (nco a=AC/\nsl c=AC)) λhs=>an (f a) λh=>an (fo b) λho=>an (fi c) λhi=>ok λm S X G=>znu (h m S X G) (ho m S X G) (hi m S X G) (ye7 hs.1) sw1 (zkD (ho m S X G) (hi m S X G) zfZ (asS hs.2))
 |_=>AD
def yeo(f:∀x,Pr (YE γ κ x cc))(fo:∀x,Pr (YE γ κ x ca))(fi:∀x,Pr (YE γ κ x cb))(s:Bz):Pr (YS γ κ s (.dput ca cb cc)):=
 match s with
 |.Assign [.Subscript b c _] a _=>an (ask (nco a=AC)) λhs=>an (f a) λh=>an (fo b) λho=>an (fi c) λhi=>ok λm S X G=>zlr (zlN G.room) (ho m S X G) (hi m S X G) (h m S X G) (swp hs)
 |_=>AD
def yhn(op:Ds)(o:BOp):Pr (∀S X,PIp X op (rT2 S X (ybT o))):=
 match op,o with
 |.Add,.add=>ok λ_ _=>zle
 |_,_=>AD
def ygS(i:Nat)(o:BOp)(f:∀x,Pr (YE γ κ x ca))(s:Bz):Pr (YS γ κ s (.aug i o ca)):=
 match s with
 |.AugAssign (.Name x _) op a _=>an (ask (setB κ i x=AC)) λh=>an (yhn op o) λhp=>an (f a) λha=>ok λm S X G=>let q:=za5 G h;zpi q.d q.i q.l (ha m S X G) (hp S X) q.f (ybz q.p) (ydZ q.p)
 |_=>AD
def ygm(c:Ce)(f:∀x,Pr (YE γ κ x c))(s:Bz):Pr (YS γ κ s (.ret c)):=
 match s with
 |.Return (AA a) _=>an (f a) λh=>ok λm S X G=>zoy (h m S X G)
 |.Return AD _=>match c with
  |.cst .non=>ok λ_ _ _ _=>zmf
  |_=>AD
 |_=>AD
def sIf(fc:∀x,Pr (YT γ κ x cc))(fa:∀x,Pr (YSs γ κ x cs))(fb:∀x,Pr (YSs γ κ x cs'))(s:Bz):Pr (YS γ κ s (.ite cc cs cs')):=
 match s with
 |.If c a b _=>an (fc c) λhc=>an (fa a) λha=>an (fb b) λhb=>ok λm S X G=>zp6 (hc m S X G) (ha m S X G) (hb m S X G)
 |_=>AD
def ygy(ct:Tg)(fi:∀tg l,Pr (YI γ κ tg l ci))(fb:∀x,Pr (YSs γ κ x cs))(s:Bz):Pr (YS γ κ s (.for ct ci cs)):=
 match s with
 |.For tg l b [] _=>an (ask (κ.own=AC/\nse l=AC)) λho=>an (fi tg l) λhi=>an (mTg (γ:=γ) (κ:=κ) ct tg) λhg=>an (fb b) λhb=>ok λm S X G=>zod (G.own ho.1).1 G.calm (hi m S X G) (hg m S X G) (hb m S X G) (fse ho.2)
 |_=>AD
def sWh(fc:∀x,Pr (YT γ κ x cc))(fb:∀x,Pr (YSs γ κ x cs))(s:Bz):Pr (YS γ κ s (.while cc cs)):=
 match s with
 |.While c b [] _=>an (ask (κ.own=AC)) λho=>an (fc c) λhc=>an (fb b) λhb=>ok λm S X G=>zjj (G.own ho).1 (hc m S X G) (hb m S X G)
 |_=>AD
def yfD(c:Nat)(f:AQ)(fo:∀x,Pr (YE γ κ x ca))(fv:∀x,Pr (YE γ κ x cb))(s:Bz):Pr (YS γ κ s (.sfl c ca f cb)):=
 match s with
 |.Assign [.Attribute a g _] b _=>an (ask (g=f/\γ.fl c f=AC/\nco b=AC)) λh=>an (fo a) λha=>an (fv b) λhb=>ok λm S X G=>by
  let⟨rfl,h1,h2⟩:=h;exact zpg (G.glo.A c g h1).1 (G.glo.A c g h1).2 (ha m S X G) (hb m S X G) (swp h2)
 |_=>AD
def ygc(c i:Nat)(f:AQ)(j:Int)(fo:∀x,Pr (YE γ κ x (.var i)))(fv:∀x,Pr (YE γ κ x (.cst (.int j))))(s:Bz):Pr (YS γ κ s (.sfl c (.var i) f (.bin .add (.fld c (.var i) f) (.cst (.int j))))):=
 match s with
 |.AugAssign (.Attribute a g _) .Add b _=>an (ask (g=f/\γ.fl c f=AC)) λh=>an (fo a) λha=>an (fv b) λhb=>ok λm S X G=>by
  let⟨rfl,h1⟩:=h;exact znK (G.glo.A c g h1).1 (G.glo.A c g h1).2 (ha m S X G) (hb m S X G)
 |_=>AD
def yfS(c:Nat)(o:Ce)(f:AQ)(e:Ce)(O:Ev γ o)(E:Ev γ e)(s:Bz):Pr (YS γ κ s (.sfl c o f e)):=
 match s with
 |.AugAssign t op b p=>match o,e with
  | .var i,.bin .add (.fld c' (.var i') f') (.cst (.int j))=>an (ask (c'=c/\i'=i/\f'=f)) λh=>an (ygc (γ:=γ) (κ:=κ) c i f j (λx=>yfs i x) (λx=>yfk (.int j) x) (.AugAssign t op b p)) λq=>ok (by
    let⟨rfl,rfl,rfl⟩:=h;exact q)
  |_,_=>AD
 |s=>yfD c f (O.e κ) (E.e κ) s
def yg4(ix:Nat)(D:List (AQ×Nat)){cn:Ce}{ces:Ces}(fn:∀x,Pr (YE γ κ x cn))(F:Fs γ κ ces)(ss:List Bz):Pr (YSs γ κ ss (.cons (.mkr ix D cn ces) .nil)):=
 match ss with
 |[.Assign [.Name x _] (.Subscript (.Name y _) n _) _,.Return (AA (.Call (.Name x' _) (e::es) [] _)) _]=>match hy:γ.mr y with
  |some E=>an (ask (E=D/\x'=x/\setB κ ix x=AC/\yd1 κ.sc x=AC/\glB κ y=AC/\nsl n=AC/\nst e=AC/\yb2 es=AC)) λh=>an (fn n) λhn=>an (ya8 F (e::es)) λha=>ok λm S X G=>by
   let⟨rfl,rfl,h1,h2,h3,h4,h5,h6⟩:=h;have q:=za5 G h1;let⟨fa,fdd,ps,M,d⟩:=G.glo.K y E hy;exact zm9 M (G.room.mono (Co m)) q.d q.i q.l (by rw[G.sc];exact ziv h2) (zap G h3) d (hn m S X G) (ha m S X G) (nos h4) (swp rfl) q.f (ybz (zbE h3)) (ybz q.p) (ydZ q.p) (yao h5) (stars h6)
  |none=>AD
 |_=>AD
end
mutual
noncomputable def chS(γ:Gs):(c:Cs)->(κ:Kx)->∀s,Pr (YS γ κ s c)
 |.expr e,κ=>yez ((ch γ e).e κ)
 |.asg (.n i) c,κ=>ye8 i ((ch γ c).e κ)
 |.asg (.t [i,j]) (.tup (.cons a (.cons b .nil))),κ=>yf0 i j ((ch γ a).e κ) ((ch γ b).e κ)
 |.asg (.t l) c,κ=>yhe l ((ch γ c).e κ)
 |.six o i e,κ=>ygq ((ch γ e).e κ) ((ch γ o).e κ) ((ch γ i).e κ)
 |.dput o i e,κ=>yeo ((ch γ e).e κ) ((ch γ o).e κ) ((ch γ i).e κ)
 |.aug i o e,κ=>ygS i o ((ch γ e).e κ)
 |.ret e,κ=>ygm e ((ch γ e).e κ)
 |.ite c a b,κ=>sIf ((ch γ c).t κ) (yc2 γ a κ) (yc2 γ b κ)
 |.for t it b,κ=>ygy t (chi γ it κ) (yc2 γ b κ)
 |.while c b,κ=>sWh ((ch γ c).t κ) (yc2 γ b κ)
 |.nope,_=>λ_=>ok λ_ _ _ _=>zmI
 |.sfl c o f e,κ=>yfS c o f e (ch γ o) (ch γ e)
 |_,_=>λ_=>AD
noncomputable def yc2(γ:Gs):(c:Css)->(κ:Kx)->∀s,Pr (YSs γ κ s c)
 |.nil,_,[]=>ok λ_ _ _ _=>zpd
 |.cons (.mkr ix D cn ces) .nil,κ,ss=>yg4 ix D ((ch γ cn).e κ) (chs γ ces κ) ss
 |.cons c cs,κ,s::ss=>an (chS γ c κ s) λh=>an (yc2 γ cs κ ss) λhr=>ok λm S X G=>zly (h m S X G) (hr m S X G)
 |_,_,_=>AD
end
inductive Dk where
 |fn|fd (ds:List Int)|me (c:Nat)|ini (c:Nat)
structure Df where
 gn:AQ
 nm:AQ
 q:AQ
 st:Bz
 N:List AQ
 ps:List AQ
 fn:IC.Fn
 k:Dk
def scB(N P:List AQ)(sc:Bl):Bool:=decide (sc.kind=.function)&&!sc.isCoroutine&&!sc.isGenerator&&decide N.Nodup&&decide (N.take P.length=P)&&P.all (yd4 sc)&&sc.names.all λy=>y.2 != .free
theorem zm2{N P:List AQ}{sc:Bl}(h:scB N P sc=AC):ybh N P sc:=by
 erw[scB,AK,decide_eq_true_eq,Cm,Bk,bne_iff_ne,ne_eq]at h;let⟨⟨⟨⟨⟨⟨h1,h2⟩,h3⟩,h4⟩,h5⟩,h6⟩,h7⟩:=h;exact⟨h1,h2,h3,h4,h5,λx hx=>zhl (h6 x hx),h7⟩
def okD(γ:Gs)(d:Df):Bool:=scB d.N d.ps (yO d.st)&&decide (d.ps.length=d.fn.np)&&decide (d.N.length=d.fn.ns)&&(yc2 γ d.fn.body ⟨d.N,yO d.st,AC⟩ (yak d.st)).isSome
noncomputable def ybZ{α:Type}(P:α->Prop):List α->Prop
 |[]=>True
 |d::r=>P d/\ybZ P r
theorem ybZ.get{α:Type}{P:α->Prop}:∀{l:List α},ybZ P l->∀d∈l,P d
 |_::_,h,d,hd=>by
  rcases AN.1 hd with rfl|hd
  .exact h.1
  .exact h.2.get d hd
noncomputable def ybP:List AQ->(List AF->Prop)->Prop
 |[],P=>P []
 |_::r,P=>∀a,ybP r λus=>P (a::us)
theorem ybP.get:∀{ps:List AQ} {P:List AF->Prop},ybP ps P->∀us,us.length=ps.length->P us
 |[],P,h,[],_=>h
 |_::r,P,h,a::us,e=>(h a).get us (by simpa using e)
def ybk(d:Df):Prop:=∀(kV doc pm:AF) (an:Option AI) (cdv ct:AF),ybP d.ps λus=>bindArgs (B6 d.nm d.q (yan d.st) (yak d.st) (yO d.st) .none kV doc pm an cdv ct) ⟨us,[]⟩=pure (d.ps.zip us)
structure ycD(K:AE)(d:Df)(dv:AF)(f:AI)(fd:BG):Prop where
 ex:∃(oc:AF) (od:Option AI) (kV doc pm:AF) (an:Option AI) (cdv ct:AF) (osl:Array (Option AF)),
  fd=B6 d.nm d.q (yan d.st) (yak d.st) (yO d.st) dv kV doc pm an cdv ct/\K.lookup f=AA ⟨oc,od,.func fd,osl⟩/\CP K cdv d.q=AC
 kp:Ay K (.ref f)=AC
def At(K:AE)(cn:Nat->AQ)(d:Df)(f:AI):Prop:=
 match d.k with
 |.fn=>BO K mainGlobals d.gn=AA (AA (.ref f))/\ybk d
 |.fd _=>BO K mainGlobals d.gn=AA (AA (.ref f))
 |.me c=>ybk d/\∃q,BO K mainGlobals (cn c)=AA (AA (.ref q))/\BC K (.ref q) d.nm=AA (AA (.ref f))/\Cu K (.ref f)=AC
 |.ini c=>ybk d/\∃q,BO K mainGlobals (cn c)=AA (AA (.ref q))/\BC K (.ref q) d.nm=AA (AA (.ref f))/\Cu K (.ref f)=AC/\Du K q=AC/\Ay K (.ref q)=AC
def DvP(K:AE)(d:Df)(dv:AF):Prop:=
 match d.k with
 |.fd ds=>∃dT o its n,dv=.ref dT/\K.lookup dT=AA o/\o.data=.seq its n/\Vals (ds.map V.int) its.toList
 |_=>dv=.none
def yc7(K:AE)(cn:Nat->AQ)(d:Df):Prop:=∃dv f fd,ycD K d dv f fd/\At K cn d f/\DvP K d dv
section
variable {K:AE}{cn:Nat->AQ}{gn nm:AQ}{st:Bz}{N ps:List AQ}{fn:IC.Fn}{f:AI}{oc:AF}{od:Option AI}{kV doc pm:AF}{an:Option AI}{cdv ct:AF}{osl:Array (Option AF)}
theorem rowFn(a:BO K mainGlobals gn=AA (AA (.ref f)))(l:K.lookup f=AA ⟨oc,od,.func (B6 nm nm (yan st) (yak st) (yO st) .none kV doc pm an cdv ct),osl⟩)
  (c:CP K cdv nm=AC) (p:Ay K (.ref f)=AC) (b:ybk ⟨gn,nm,nm,st,N,ps,fn,.fn⟩):yc7 K cn ⟨gn,nm,nm,st,N,ps,fn,.fn⟩:=
 ⟨.none,f,_,⟨⟨oc,od,kV,doc,pm,an,cdv,ct,osl,rfl,l,c⟩,p⟩,⟨a,b⟩,rfl⟩
theorem rowFd{ds:List Int}{dT:AI}{o:CC}{its:Array AF}{n:Nat}(a:BO K mainGlobals gn=AA (AA (.ref f)))(l:K.lookup f=AA ⟨oc,od,.func (B6 nm nm (yan st) (yak st) (yO st) (.ref dT) kV doc pm an cdv ct),osl⟩)
  (c:CP K cdv nm=AC) (p:Ay K (.ref f)=AC) (d:K.lookup dT=AA o) (e:o.data=.seq its n) (v:Vals (ds.map V.int) its.toList):yc7 K cn ⟨gn,nm,nm,st,N,ps,fn,.fd ds⟩:=
 ⟨.ref dT,f,_,⟨⟨oc,od,kV,doc,pm,an,cdv,ct,osl,rfl,l,c⟩,p⟩,a,dT,o,its,n,rfl,d,e,v⟩
theorem rowMe{qn:AQ}{cc:Nat}{q:AI}(z:BO K mainGlobals (cn cc)=AA (AA (.ref q)))(a:BC K (.ref q) nm=AA (AA (.ref f)))(i:Cu K (.ref f)=AC)(l:K.lookup f=AA ⟨oc,od,.func (B6 nm qn (yan st) (yak st) (yO st) .none kV doc pm an cdv ct),osl⟩)
  (c:CP K cdv qn=AC) (p:Ay K (.ref f)=AC) (b:ybk ⟨gn,nm,qn,st,N,ps,fn,.me cc⟩):yc7 K cn ⟨gn,nm,qn,st,N,ps,fn,.me cc⟩:=
 ⟨.none,f,_,⟨⟨oc,od,kV,doc,pm,an,cdv,ct,osl,rfl,l,c⟩,p⟩,⟨b,q,z,a,i⟩,rfl⟩
theorem rowIni{qn:AQ}{cc:Nat}{q:AI}(z:BO K mainGlobals (cn cc)=AA (AA (.ref q)))(a:BC K (.ref q) nm=AA (AA (.ref f)))(i:Cu K (.ref f)=AC)(l:K.lookup f=AA ⟨oc,od,.func (B6 nm qn (yan st) (yak st) (yO st) .none kV doc pm an cdv ct),osl⟩)
  (c:CP K cdv qn=AC) (p:Ay K (.ref f)=AC) (b:ybk ⟨gn,nm,qn,st,N,ps,fn,.ini cc⟩) (mk:Du K q=AC) (kq:Ay K (.ref q)=AC):yc7 K cn ⟨gn,nm,qn,st,N,ps,fn,.ini cc⟩:=
 ⟨.none,f,_,⟨⟨oc,od,kV,doc,pm,an,cdv,ct,osl,rfl,l,c⟩,p⟩,⟨b,q,z,a,i,mk,kq⟩,rfl⟩
theorem gdf_mk{w:Al}{h:BF}{mg:AQ->Option AF}{x:AQ}{D:List (AQ×Nat)}{fa:Nat->AI}{y:AI}{es:Array CM}{ep:Nat}(X:K.In h)(G:h.Ns mainGlobals mg)(a:BO K mainGlobals x=AA (AA (.ref y)))(l:K.lookup y=AA ⟨.type "dict",AD,.dict es ep,#[]⟩)
  (r:ycj w fa D es.toList) (n:(D.map (·.1)).Nodup):GDF K w mg fa x D:=⟨y,es,ep,Eg X G a,l,r,n⟩
theorem gd_mk{w:Al}{h:BF}{mg:AQ->Option AF}{x:AQ}{D:List (AQ×PV)}{cl:Nat->AI}{y:AI}{es:Array CM}{ep:Nat}(X:K.In h)(G:h.Ns mainGlobals mg)(a:BO K mainGlobals x=AA (AA (.ref y)))(l:K.lookup y=AA ⟨.type "dict",AD,.dict es ep,#[]⟩)
  (s:(y==sysModules)=AB) (r:ycq K cl w D es.toList) (n:(D.map (·.1)).Nodup):GD K w mg cl x D:=⟨y,es,ep,Eg X G a,l,s,r,n⟩
end
abbrev KoV(K:AE)(v:PV)(u:AF):Prop:=∃x:V,RelV x u/\∀cl B φ H,yg K cl B φ H v x
abbrev KoL(K:AE)(vs:List PV)(us:List AF):Prop:=∃xs:List V,Vals xs us/\∀cl B φ H,yj K cl B φ H vs xs
mutual
noncomputable def ye3(K:AE):(v:PV)->(u:AF)->Pr (KoV K v u)
 |.int i,.int j t=>an (ask (i=j)) λh=>ok ⟨.int i,⟨t,by rw[h]⟩,λ_ _ _ _=>by erw[yg]⟩
 |.str i,.str j t=>an (ask (i=j)) λh=>ok ⟨.str i,⟨t,by rw[h]⟩,λ_ _ _ _=>by erw[yg]⟩
 |.tp AC vs,.ref a=>match h:K.lookup a with
  |some ⟨c,_,.seq its n,_⟩=>an (ask (c=.type "tuple"/\its.size<=sizeLine)) λq=>an (ydG K vs its.toList) λr=>ok (by
    let⟨xs,r1,r2⟩:=r;refine⟨.ref a,rfl,λcl B φ H=>?_⟩;erw[yg];exact⟨a,xs,rfl,.inr ⟨rfl,_,its,n,h,q.1,rfl,q.2,r1⟩,r2 cl B φ H⟩)
  |_=>AD
 |_,_=>AD
noncomputable def ydG(K:AE):(vs:List PV)->(us:List AF)->Pr (KoL K vs us)
 |[],[]=>ok ⟨[],.nil,λ_ _ _ _=>by erw[yj]⟩
 |v::vs,u::us=>an (ye3 K v u) λh=>an (ydG K vs us) λr=>ok (by
   let⟨x,h1,h2⟩:=h;let⟨xs,r1,r2⟩:=r;refine⟨x::xs,.cons h1 r1,λcl B φ H=>?_⟩;erw[yj];exact⟨x,xs,rfl,h2 cl B φ H,r2 cl B φ H⟩)
 |_,_=>AD
end
theorem con_row{K:AE}{cl:Nat->AI}{w:Al}{k:AQ}{v:PV}{tk:Hc}{u:AF}{D:List (AQ×PV)}{es:List CM}(c:(ye3 K v u).isSome=AC)(h:ycq K cl w D es):ycq K cl w ((k,v)::D) (⟨EU w.params k,.str k tk,u⟩ :: es):=by
 let⟨⟨x,r,q⟩,_⟩:=BA.1 c;exact .cons r (q cl) h
theorem frow_cons{w:Al}{fa:Nat->AI}{k:AQ}{i:Nat}{tk:Hc}{a:AI}{D:List (AQ×Nat)}{es:List CM}(e:fa i=a)(h:ycj w fa D es):ycj w fa ((k,i)::D) (⟨EU w.params k,.str k tk,.ref a⟩ :: es):=by
 subst e;exact .cons h
structure Tb where
 tbl:List Df
 al:List (AQ×GK)
 bs:List AQ
 ts:List Ty
 fl:List (Nat×AQ)
 me:List ((Nat×AQ)×Nat)
 kb:List ((Nat×Nat×List AQ)×List (Option Int))
 cn:List (Nat×AQ)
 dd:List (AQ×List (AQ×PV))
 ml:List (AQ×List (AQ×Nat))
noncomputable abbrev eF(x:AQ)(i:Nat):AQ×GK:=(x,.fn i)
noncomputable abbrev eD(x:AQ)(i:Nat):AQ×GK:=(x,.fnD i)
noncomputable abbrev eC(x:AQ)(v:PV):AQ×GK:=(x,.cst v)
noncomputable abbrev eG(x:AQ)(g:GK):AQ×GK:=(x,g)
noncomputable abbrev eN(c:Nat)(x:AQ):Nat×Str:=(c,x)
noncomputable abbrev eM(c:Nat)(x:AQ)(i:Nat):(Nat×AQ)×Nat:=((c,x),i)
noncomputable abbrev eK(i n:Nat)(ks:List AQ)(sh:List (Option Int)):(Nat×Nat×List AQ)×List (Option Int):=((i,n,ks),sh)
noncomputable abbrev eL(x:AQ)(d:List (AQ×Nat)):AQ×List (AQ×Nat):=(x,d)
noncomputable abbrev eB(x:AQ)(d:List (AQ×PV)):AQ×List (AQ×PV):=(x,d)
noncomputable def tyE:Ty->Ty->Bool
 |.int,.int=>AC
 |.bool,.bool=>AC
 |.str,.str=>AC
 |.tuple,.tuple=>AC
 |.list,.list=>AC
 |_,_=>AB
theorem zog{a b:Ty}(h:tyE a b=AC):a=b:=by
 cases a<;>cases b<;>first|rfl|cases h
def Tb.gs(t:Tb):Gs:=⟨λx=>t.al.lookup x,λx=>t.bs.contains x,λy=>t.ts.any (tyE y),λc f=>t.fl.contains (c,f),λc n=>t.me.lookup (c,n),λi n ks=>t.kb.lookup (i,n,ks),λx=>t.ml.lookup x⟩
noncomputable def nmA(K:AE)(x:AQ):Option Addr:=match BO K mainGlobals x with
 |some (AA (.ref q))=>AA q
 |_=>AD
def clA(K:AE)(t:Tb)(c:Nat):Addr:=((t.cn.lookup c).bind (nmA K)).getD 0
noncomputable def cnm(t:Tb)(c:Nat):Str:=(t.cn.lookup c).getD ""
def faA(K:AE)(t:Tb)(i:Nat):Addr:=match t.tbl[i]? with
 |some d=>match d.k with
  |.fn=>(nmA K d.gn).getD 0
  |.fd _=>(nmA K d.gn).getD 0
  |.me c=>match BC K (.ref (clA K t c)) d.nm with
   |some (AA (.ref f))=>f
   |_=>0
  |.ini c=>match BC K (.ref (clA K t c)) d.nm with
   |some (AA (.ref f))=>f
   |_=>0
 |none=>0
noncomputable def ydp:Dk->Bool
 |.fn=>AC
 |_=>AB
noncomputable def yee:Dk->Bool
 |.fd _=>AC
 |_=>AB
noncomputable def ygz:PV->Bool
 |.int _=>AC
 |.tp _ _=>AC
 |_=>AB
def alB(K:AE)(t:Tb):AQ×GK->Bool
 |(x,.fn i)=>match t.tbl[i]? with
  |some d=>ydp d.k&&(decide (x=d.gn) || decide (nmA K x=nmA K d.gn))
  |none=>AB
 |(x,.fnD i)=>match t.tbl[i]? with
  |some d=>yee d.k&&(decide (x=d.gn) || decide (nmA K x=nmA K d.gn))
  |none=>AB
 |(x,.cst v)=>ygz v&&match BO K mainGlobals x with
  |some (AA u)=>(ye3 K v u).isSome
  |_=>AB
 |(x,.dct d)=>t.dd.any λp=>decide (p.1=x)&&(eqD p.2 d).isSome
 |(x,.exc c)=>decide (t.cn.lookup c=AA x)&&(nmA K x).any λq=>Fk K q [.type "ValueError",.type "Exception",.type "BaseException",.type "object"] "ValueError.__new__"
 |(x,.cls c i)=>decide (t.cn.lookup c=AA x)&&(nmA K x).isSome&&match t.tbl[i]? with
  |some d=>match d.k with
   |.ini c'=>decide (c'=c)&&decide (d.nm="__init__")
   |_=>AB
  |none=>AB
def yfz(K:AE)(t:Ty):Bool:=
 decide (B3 K (.type "NoneType") (.type (tyN t))=AA (ybA .non t))&&decide (B3 K (.type "bool") (.type (tyN t))=AA (ybA (.bl AC) t))&&decide (B3 K (.type "int") (.type (tyN t))=AA (ybA (.int 0) t))&&decide (B3 K (.type "str") (.type (tyN t))=AA (ybA (.str G0) t))&&decide (B3 K (.type "tuple") (.type (tyN t))=AA (ybA (.tp AC []) t))&&decide (B3 K (.type "list") (.type (tyN t))=AA (ybA (.lst []) t))
noncomputable def ydW(K:AE)(q:AI):Bool:=Ct K q G0&&DQ K q&&E7 K q&&decide (BC K (.ref q) "__setattr__"=AA (AA (.builtin "object.__setattr__")))
theorem zhS{K:AE}{q:AI}(h:ydW K q=AC):Cls K q:=by
 erw[ydW,AK,decide_eq_true_eq]at h;exact⟨h.1.1.1,h.1.1.2,h.1.2,h.2⟩
def yeg(K:AE)(t:Tb):Bool:=
 t.al.all (alB K t)&&t.bs.all (λx=>decide (BO K mainGlobals x=AA AD))&&t.ts.all (yfz K) &&
  t.fl.all (λp=>(t.cn.lookup p.1).isSome&&(nmA K (cnm t p.1)).any λq=>ydW K q&&decide (BC K (.ref q) p.2=AA AD)) &&
  t.me.all (λp=>(t.cn.lookup p.1.1).isSome&&(nmA K (cnm t p.1.1)).any λq=>ydW K q&&match t.tbl[p.2]? with
   |some d=>(match d.k with
    |.me c=>decide (c=p.1.1)
    |_=>AB)&&decide (d.nm=p.1.2)
   |none=>AB) &&
  t.ml.all λp=>p.2.all λq=>match t.tbl[q.2]? with
   |some d=>ydp d.k
   |none=>AB
noncomputable def fd0:FuncData:=B6 "" "" (yan (.Pass ⟨0,0,0,0⟩)) [] (yO (.Pass ⟨0,0,0,0⟩)) .none .none .none .none AD .none .none
def fdA(K:AE)(t:Tb)(i:Nat):FuncData:=match K.lookup (faA K t i)with
 |some ⟨_,_,.func fd,_⟩=>fd
 |_=>fd0
noncomputable def psA(t:Tb)(i:Nat):List Str:=match t.tbl[i]? with
 |some d=>d.ps
 |none=>[]
theorem lkm{α β:Type}[BEq α][LawfulBEq α]{x:α}{k:β}:∀{l:List (α×β)},l.lookup x=AA k->(x,k)∈l
 |[],h=>nomatch h
 |y::l,h=>by
  rw[Bj]at h
  cases hx:x==y.1 with
  |true=>rw[hx]at h;cases h;rw[eq_of_beq hx];exact An
  |false=>rw[hx]at h;exact AR _ (lkm h)
def KbP(t:Tb)(p:(Nat×Nat×List AQ)×List (Option Int)):Prop:=∀d ds,t.tbl[p.1.1]?=AA d->d.k=.fd ds->∀(K:AE) (mg:AQ->Option AF) (f:AI) (fd:BG),FnD K mg d.nm d.st d.ps ds f fd->∃g,ybO K fd d.ps p.1.2.2 g (gK p.1.2.1 p.2)
structure Fact(t:Tb)(w:Al)(K:AE)(mg:AQ->Option AF):Prop where
 X:∀x u,BO K mainGlobals x=AA u->mg x=u
 R:ybZ (yc7 K (cnm t)) t.tbl
 B:yeg K t=AC
 D:ybZ (λp=>∀cl,GD K w mg cl p.1 p.2) t.dd
 Kb:ybZ (KbP t) t.kb
 Ml:ybZ (λp=>GDF K w mg (faA K t) p.1 p.2) t.ml
theorem zo9{K:AE}{x:AQ}{q:AI}(h:nmA K x=AA q):BO K mainGlobals x=AA (AA (.ref q)):=by
 unfold nmA at h;split at h
 .cases h;assumption
 .cases h
theorem zcp{K:AE}{x:AQ}{q:AI}(h:BO K mainGlobals x=AA (AA (.ref q))):nmA K x=AA q:=by
 erw[nmA,h]
theorem zfN{K:AE}{t:Tb}{c:Nat}{q:AI}(h:nmA K (cnm t c)=AA q)(hc:(t.cn.lookup c).isSome=AC):clA K t c=q:=by
 let⟨x,e⟩:=BA.1 hc;erw[clA,e,BW];erw[cnm,e,CN]at h;rw[h];rfl
noncomputable def okT(t:Tb)(d:Df):Bool:=okD t.gs d&&match d.k with
 |.fn=>AC
 |.fd _=>decide (d.q=d.nm)
 |.me c=>(t.cn.lookup c).isSome
 |.ini c=>(t.cn.lookup c).isSome&&decide (d.nm="__init__")
section
variable {t:Tb}{w:Al}{K:AE}{mg:AQ->Option AF}{T:Nat->Option IC.Fn}{P:A9}{base:BF}{k:Nat}
theorem zdJ(F:Fact t w K mg)(O:∀d∈t.tbl,okT t d=AC){i:Nat}{d:Df}(h:t.tbl[i]?=AA d):∃dv fd,ycD K d dv (faA K t i) fd/\At K (cnm t) d (faA K t i)/\DvP K d dv:=by
 have hm:=A3 h;let⟨dv,f,fd,h1,h2,h3⟩:=F.R.get d hm;have e:f=faA K t i:=by
  have o:=O d hm;erw[okT,AK]at o;have o:=o.2;erw[faA,h];unfold At at h2
  cases q:d.k with
  |fn=>
   rw[q]at h2;erw[zcp h2.1,CN]
  |fd ds=>
   rw[q]at h2;have h2:BO K mainGlobals d.gn=AA (AA (.ref f)):=h2;erw[zcp h2,CN]
  |me c=>
   rw[q]at h2 o;let⟨_,q',e1,e2,_⟩:=h2;erw[zfN (zcp e1) o,e2]
  |ini c=>
   rw[q]at h2 o;let⟨_,q',e1,e2,_⟩:=h2;erw[AK]at o;erw[zfN (zcp e1) o.1,e2]
 subst e;exact⟨dv,fd,h1,h2,h3⟩
theorem ycD.binds{d:Df}{f:AI}{fd:BG}(R:ycD K d .none f fd)(b:ybk d):Binds K fd d.ps []:=
 Fun.binds ⟨R.ex,R.kp⟩ λkV doc pm an cdv ct us hl=>(b kV doc pm an cdv ct).get us hl
theorem ycD.ok{d:Df}{dv:AF}{f:AI}{fd:BG}{fi m:Nat}{cl:Nat->AI}(R:ycD K d dv f fd)(hT:T fi=AA d.fn)(Sc:ybh d.N d.ps (yO d.st))(hnp:d.ps.length=d.fn.np)(hns:d.N.length=d.fn.ns)
  (body:∀(cdv:AF) (A:Ax) (outer:List B0) (s:AJ) (H:Hp) (E:XK),yaz m (A.deeper (envOfC d.q (yO d.st) s.heap.objs.size f cdv)) ->
   PSs (ya4 (CX1 P w) P w K mg base d.N d.q (yO d.st) f cdv A outer s H E) (yak d.st) (tSs ⟨cl,yd T k,AC⟩ (ya4 (CX1 P w) P w K mg base d.N d.q (yO d.st) f cdv A outer s H E) d.fn.body)):
  yaP P w K mg base (CX1 P w) (m+1) f fd d.ps (spI K cl (yd T (k+1)) fi):=by
 let⟨oc,od,kV,doc,pm,an,cdv,ct,osl,rfl,lk,hcd⟩:=R.ex;exact zpu lk hcd Sc (λvs H Q E h=>zoo hT hnp h) λA outer s H vs Q E hr h=>⟨_,body cdv A outer s H E hr,zlx hT hns h⟩
def Fn2(t:Tb)(P:A9)(w:Al)(K:AE)(mg:AQ->Option AF)(base:BF)(T:Nat->Option IC.Fn)(k:Nat):Prop:=
 ∀i d dv fd,t.tbl[i]?=AA d->ycD K d dv (faA K t i) fd->yaP P w K mg base (CX1 P w) (2*k) (faA K t i) fd d.ps (spI K (clA K t) (yd T k) i)
theorem zjD(F:Fact t w K mg)(O:∀d∈t.tbl,okT t d=AC)(C:Fn2 t P w K mg base T k){N:List AQ}{q:AQ}{sc:Bl}{f:AI}{cdv:AF}{A:Ax}{outer:List B0}{s:AJ}{H:Hp}{E:XK}:
  Glo t.gs (2*k) ⟨clA K t,yd T k,AC⟩ (ya4 (CX1 P w) P w K mg base N q sc f cdv A outer s H E):=by
 have B:=F.B;erw[yeg,AK,Bk]at B;let⟨⟨⟨⟨⟨b1,b2⟩,b3⟩,b4⟩,b5⟩,b6⟩:=B;have mgr:∀{x:AQ} {a:AI},nmA K x=AA a->mg x=AA (.ref a):=λh=>F.X _ _ (zo9 h);have same:∀{x y:AQ} {a:AI},(decide (x=y) || decide (nmA K x=nmA K y))=AC->nmA K y=AA a->nmA K x=AA a:=λ{x y a} h e=>by
  erw[DF,decide_eq_true_eq]at h;rcases h with rfl|h
  .exact e
  .rw[h];exact e
 refine⟨λx i h=>?_,λx i np ks sh h hk=>?_,λx v h=>?_,λx d h=>?_,λx c h=>?_,λx c i h=>?_,λx h=>?_,λy h=>?_,λc n h=>?_,λc n i h=>?_,λy D h=>?_⟩
 .have q:=b1 _ (lkm h);erw[alB]at q;split at q
  .rename_i d hd;erw[AK]at q;let⟨dv,fd,r1,r2,r3⟩:=zdJ F O hd;have hk:d.k=.fn:=by cases e:d.k<;>rw[e]at q<;>first|rfl|cases q.1
   erw[At,hk]at r2;erw[DvP,hk]at r3;subst r3;exact⟨_,fd,d.ps,C i d _ fd hd r1,mgr (same q.2 (zcp r2.1)),r1.kp,r1.binds r2.2⟩
  .cases q
 .have q:=b1 _ (lkm h);erw[alB]at q;split at q
  .rename_i d hd;erw[AK]at q;let⟨dv,fd,r1,r2,r3⟩:=zdJ F O hd;obtain⟨ds,hk'⟩:∃ds,d.k=.fd ds:=by cases e:d.k<;>rw[e]at q<;>first|exact⟨_,rfl⟩|cases q.1
   erw[At,hk']at r2;erw[DvP,hk']at r3;let⟨dT,o,its,n,rfl,e1,e2,e3⟩:=r3;have oo:=O d (A3 hd);erw[okT,hk',AK,decide_eq_true_eq]at oo;have D:FnD K (λ_=>AA (.ref (faA K t i))) d.nm d.st d.ps ds (faA K t i) fd:=by
    let⟨oc,od,kV,doc,pm,an,cdv,ct,osl,z1,z2,z3⟩:=r1.ex;rw[oo.2]at z1 z3;exact⟨⟨oc,od,dT,kV,doc,pm,an,cdv,ct,osl,o,its,n,z1,z2,z3,e1,e2,e3⟩,r1.kp,rfl⟩
   exact⟨_,fd,d.ps,C i d _ fd hd r1,mgr (same q.2 (zcp r2)),r1.kp,F.Kb.get _ (lkm hk) d ds hd hk' K _ _ _ D⟩
  .cases q
 .have q:=b1 _ (lkm h);erw[alB,AK]at q;let⟨q0,q⟩:=q;split at q
  .rename_i u hu;let⟨⟨y,r,z⟩,_⟩:=BA.1 q;have hm:=F.X _ _ hu
   cases v with
   |int i=>
    have z:=z (λ_=>0) (λ_=>False) [] (λ_=>AD);erw[yg]at z;subst z;let⟨tk,rfl⟩:=r;exact .inr ⟨i,rfl,tk,hm⟩
   |tp b vs=>
    have z0:=z (λ_=>0) (λ_=>False) [] (λ_=>AD);erw[yg]at z0;let⟨a,xs,rfl,_⟩:=z0;have r:u=.ref a:=r;subst r;exact .inl ⟨a,hm,λB φ H=>z _ B φ H⟩
   |_=>cases q0
  .cases q
 .have q:=b1 _ (lkm h);erw[alB,Eo,AK,decide_eq_true_eq]at q;let⟨p,hp,rfl,q⟩:=q;let⟨⟨e⟩,_⟩:=BA.1 q;rw[<-e];exact F.D.get p hp _
 .have q:=b1 _ (lkm h);erw[alB,AK,decide_eq_true_eq,Cr]at q;let⟨q1,q2,q3⟩:=q;let⟨a,ha⟩:=BA.1 q2;have e:clA K t c=a:=by erw[clA,q1,BW,ha,CN]
  erw[ha,FQ]at q3;exact⟨by show mg x=AA (.ref (clA K t c));rw[e];exact mgr ha,by show Fk K (clA K t c) _ _=AC;rw[e];exact q3⟩
 .have q:=b1 _ (lkm h);erw[alB,AK,decide_eq_true_eq]at q;let⟨⟨q1,q2⟩,q3⟩:=q;let⟨a,ha⟩:=BA.1 q2;have e:clA K t c=a:=by erw[clA,q1,BW,ha,CN]
  split at q3
  .rename_i d hd
   cases hk:d.k with
   |ini c'=>
    rw[hk]at q3;erw[AK,decide_eq_true_eq]at q3;let⟨rfl,hn⟩:=q3;let⟨dv,fd,r1,r2,r3⟩:=zdJ F O hd;erw[At,hk]at r2;erw[DvP,hk]at r3;subst r3;let⟨r0,q',r4,r5,r6,r7,r8⟩:=r2;have e2:q'=a:=by
     have:nmA K (cnm t c')=AA q':=zcp r4;erw[cnm,q1,CN,ha]at this;exact(AW this).symm
    subst e2;rw[hn]at r5;refine⟨by show mg x=AA (.ref (clA K t c'));rw[e];exact mgr ha,_,fd,d.ps,?_,C i d _ fd hd r1,r1.binds r0⟩;show Mk K (clA K t c') _;rw[e];exact⟨r7,r5,r6,r8⟩
   |_=>rw[hk]at q3;cases q3
  .cases q3
 .have q:x∈t.bs:=by simpa [Tb.gs] using h
  have:=b2 x q;erw[decide_eq_true_eq]at this;exact F.X _ _ this
 .simp only[Tb.gs,Eo]at h;let⟨y',hy,e⟩:=h;have:=zog e;subst this;have q:=b3 y hy;erw[yfz,AK,decide_eq_true_eq]at q;exact⟨q.1.1.1.1.1,q.1.1.1.1.2,q.1.1.1.2,q.1.1.2,q.1.2,q.2⟩
 .have q:(c,n)∈t.fl:=by simpa [Tb.gs] using h
  have q:=b4 _ q;erw[AK,Cr,decide_eq_true_eq]at q;let⟨q1,q2,q3⟩:=q;let⟨a,ha⟩:=BA.1 q2;erw[ha,FQ]at q3;have e:clA K t c=a:=zfN ha q1;show Cls K (clA K t c)/\yax K (clA K t c) n;rw[e];exact⟨zhS q3.1,q3.2⟩
 .have q:=b5 _ (lkm h);erw[AK,Cr,decide_eq_true_eq]at q;let⟨q1,q2,q3,q4⟩:=q;let⟨a,ha⟩:=BA.1 q2;erw[ha,FQ]at q3;have e:clA K t c=a:=zfN ha q1;split at q4
  .rename_i d hd;erw[AK,decide_eq_true_eq]at q4;let⟨q4,hn⟩:=q4
   cases hk:d.k with
   |me c'=>
    rw[hk]at q4;have q4:c'=c:=by simpa using q4
    subst q4;let⟨dv,fd,r1,r2,r3⟩:=zdJ F O hd;erw[At,hk]at r2;erw[DvP,hk]at r3;subst r3;let⟨r0,q',r4,r5,r6⟩:=r2;have e2:q'=a:=AW ((zcp r4).symm.trans ha);subst e2;refine⟨by show Cls K (clA K t c');rw[e];exact zhS q3,_,fd,d.ps,?_,C i d _ fd hd r1,r1.binds r0⟩;show Meth K (clA K t c') n _;rw[e,<-hn];exact⟨r5,r6,r1.kp⟩
   |_=>rw[hk]at q4;cases q4
  .cases q4
 .have q:=b6 _ (lkm h);have g:∀s j,D.lookup s=AA j->∃d dv fd,t.tbl[j]?=AA d/\ycD K d dv (faA K t j) fd/\dv=.none/\ybk d/\fd=fdA K t j/\d.ps=psA t j:=λs j hj=>by
   have q:=q _ (lkm hj);split at q
   .rename_i d hd;let⟨dv,fd,r1,r2,r3⟩:=zdJ F O hd;have hk:d.k=.fn:=by cases e:d.k<;>rw[e]at q<;>first|rfl|cases q
    erw[At,hk]at r2;erw[DvP,hk]at r3;let⟨oc,od,kV,doc,pm,an,cdv,ct,osl,_,lk,_⟩:=r1.ex;exact⟨d,dv,fd,hd,r1,r3,r2.2,by erw[fdA,lk],by erw[psA,hd]⟩
   .cases q
  refine⟨faA K t,fdA K t,psA t,⟨λs j hj=>?_,λs j hj=>?_,λs j hj=>?_⟩,F.Ml.get _ (lkm h)⟩
  .let⟨d,dv,fd,h1,h2,h3,h4,h5,h6⟩:=g s j hj;rw[<-h5,<-h6];exact C j d dv fd h1 h2
  .let⟨d,dv,fd,h1,h2,h3,h4,h5,h6⟩:=g s j hj;exact h2.kp
  .let⟨d,dv,fd,h1,h2,h3,h4,h5,h6⟩:=g s j hj;subst h3;rw[<-h5,<-h6];exact h2.binds h4
theorem zi2(F:Fact t w K mg)(O:∀d∈t.tbl,okT t d=AC)(hT:∀i d,t.tbl[i]?=AA d->T i=AA d.fn):∀k,Fn2 t P w K mg base T k
 |0=>λi d dv fd _ _=>zjU
 |k+1=>λi d dv fd h R=>by
  have o:=O d (A3 h);erw[okT,okD,AK,decide_eq_true_eq]at o;let⟨⟨⟨⟨o1,o2⟩,o3⟩,o4⟩,_⟩:=o;let⟨⟨y⟩,_⟩:=BA.1 o4;exact R.ok (m:=2*k+1) (hT i d h) (zm2 o1) o2 o3 λ_ _ _ _ _ _ hr=>y (2*k) _ _ ⟨rfl,rfl,rfl,hr,λ_=>⟨own1,λ_=>rfl,rfl⟩,zjD F O (zi2 F O hT k)⟩
noncomputable def yc6:Nat->(List AF->Prop)->Prop
 |0,P=>P []
 |n+1,P=>∀a,yc6 n λus=>P (a::us)
theorem yc6.get:∀{n:Nat} {P:List AF->Prop},yc6 n P->∀us,us.length=n->P us
 |0,P,h,[],_=>h
 |n+1,P,h,a::us,e=>(h a).get us (by simpa using e)
theorem kbP{i np:Nat}{ks:List AQ}{sh:List (Option Int)}{d:Df}{ds:List Int}(hd:t.tbl[i]?=AA d)(hk:d.k=.fd ds)(h1:ks.length=nKw sh)(h2:sh.length=(ds.drop (ds.length-sh.length)).length)
  (h3:((sh.zip (ds.drop (ds.length-sh.length))).all λp=>p.1.all λi=>decide (i=p.2))=AC) (hp:0<d.ps.length)
  (h:∀(dT:AI) (kV doc pm:AF) (an:Option AI) (cdv ct:AF),yc6 np λus=>yc6 ks.length λws=>yc6 ds.length λits=>
   ∃k,bindArgs (B6 d.nm d.nm (yan d.st) (yak d.st) (yO d.st) (.ref dT) kV doc pm an cdv ct) ⟨us,ks.zip ws⟩=seqItems? (.ref dT) >>= k/\k (AA its.toArray)=pure (d.ps.zip (us++ybc sh ws (its.drop (ds.length-sh.length))))):KbP t ((i,np,ks),sh):=by
 intro d' ds' e1 e2 K mg f fd D;have e1:t.tbl[i]?=AA d':=e1;rw[hd]at e1
 cases e1
 rw[hk]at e2
 cases e2
 exact kbD D h1 h2 h3 (λdT kV doc pm an cdv ct us ws its z1 z2 z3=>(((h dT kV doc pm an cdv ct).get us z1).get ws z2).get its z3) hp
theorem all_mk2{h:BF}{fx:AI}(X:K.In h)(G:h.Ns mainGlobals mg)(hfa:mg "law"=AA (.ref fx))(R:ybZ (yc7 K (cnm t)) t.tbl)(B:yeg K t=AC)(D:ybZ (λp=>∀cl,GD K w mg cl p.1 p.2) t.dd)(Kb:ybZ (KbP t) t.kb)(Ml:ybZ (λp=>GDF K w mg (faA K t) p.1 p.2) t.ml)
  (O:t.tbl.all (okT t)=AC) (hT:∀i d,t.tbl[i]?=AA d->T i=AA d.fn) {L:Nat} {st:Bz} {N:List AQ} {fn:IC.Fn} (hL:t.tbl[L]?=AA ⟨"law","law","law",st,N,["_law_script"],fn,.fn⟩) (lvl:Nat):
  ∃fd:BG,(∀(s:AJ) (v:AF),F8 s fd ⟨[v],[]⟩ [("_law_script",v)])/\∀base:BF,K.In base->base.Ns mainGlobals mg->yaP P w K mg base (CX1 P w) (2*lvl) fx fd ["_law_script"] (spX K (yd T lvl) L):=by
 have F:Fact t w K mg:=⟨λx u e=>by
  cases u with
  |none=>exact PySem.W.mg_none_of X G e
  |some v=>exact Eg X G e,R,B,D,Kb,Ml⟩
 have O':=Bk.1 O;let⟨dv,fd,r1,r2,r3⟩:=zdJ F O' hL;have r3:dv=.none:=r3;subst r3;have r2:BO K mainGlobals "law"=AA (AA (.ref (faA K t L)))/\ybk _:=r2;have e:=Value.ref.inj (AW (hfa.symm.trans (Eg X G r2.1)));subst e;refine⟨fd,λs v=>?_,λbase _ _=>(zi2 F O' hT lvl L _ _ fd hL r1).imp λ_ _ _ _ h=>h _⟩;let⟨oc,od,kV,doc,pm,an,cdv,ct,osl,rfl,_⟩:=r1.ex;exact .of_eq (r2.2 kV doc pm an cdv ct v)
end
end L2
namespace IC
open PySem
noncomputable def zT:List (AQ×Nat):=[(AG "move",66),(AG "bare",67),(AG "sum",68),(AG "less",69),(AG "both",70),(AG "any",71),(AG "odd",72),(AG "twice",73),(AG "half",74)]
noncomputable def zdT:PV:=(.tp AC [(.str "f"),(.tp AC [(.int 0),(.int 0),(.int 0),(.int 0)])])
noncomputable def zcu:PV:=(.tp AC [(.int 0),(.int 0),(.int 1)])
noncomputable def zE:PV:=(.tp AC [(.int 0),(.int 1),(.int 0)])
noncomputable def zbw:PV:=(.int 10000000000000000000000000000000000000000)
noncomputable def zeF:PV:=(.tp AC [(.str "h"),(.tp AC [(.int 0),(.int 0),(.int 0),(.int 0)])])
noncomputable def zk4:PV:=(.tp AC [(.str "turned"),(.str "bare")])
noncomputable def zhc:PV:=(.tp AC [(.str "l"),(.tp AC [(.int 0),(.int 0),(.int 0),(.int 0)])])
noncomputable def zq:PV:=(.tp AC [(.tp AC [(.str "m"),(.tp AC [(.int 0),(.int 0),(.int 0),(.int 0)])]),(.tp AC [(.str "m"),(.tp AC [(.int 1),(.int 0),(.int 0),(.int 0)])]),(.tp AC [(.str "m"),(.tp AC [(.int 2),(.int 0),(.int 0),(.int 0)])]),(.tp AC [(.str "m"),(.tp AC [(.int 3),(.int 0),(.int 0),(.int 0)])])])
noncomputable def zcs:PV:=(.int 4)
noncomputable def zfj:PV:=(.int 2)
noncomputable def zbT:PV:=(.int 4000)
noncomputable def zdz:PV:=(.int 4000)
noncomputable def zfi:PV:=(.int 20)
noncomputable def zd7:PV:=(.int 2)
noncomputable def zcY:PV:=(.int 200)
noncomputable def zdA:PV:=(.tp AC [(.str "z"),(.tp AC [(.int 0),(.int 0),(.int 0),(.int 0)])])
noncomputable def ze6:PV:=(.tp AC [(.str "o"),(.tp AC [(.int 0),(.int 0),(.int 0),(.int 0)])])
noncomputable def zd3:PV:=(.tp AC [(.str "sum"),(.str "difference"),(.str "compare"),(.str "both"),(.str "any"),(.str "odd"),(.str "product"),(.str "signed product"),(.str "quotient"),(.str "signed quotient")])
noncomputable def zdW:PV:=(.tp AC [(.str "both"),(.str "any"),(.str "odd")])
noncomputable def zcf:PV:=(.tp AC [(.str "product"),(.str "signed product")])
noncomputable def zad:PV:=(.tp AC [(.str "quotient"),(.str "signed quotient")])
noncomputable def zdx:PV:=(.tp AC [(.str "s"),(.tp AC [(.int 0),(.int 0),(.int 0),(.int 0)])])
noncomputable def zep:PV:=(.tp AC [(.str "left"),(.str "right"),(.str "down"),(.str "roll")])
noncomputable def zaR:PV:=(.tp AC [(.str "t"),(.tp AC [(.int 0),(.int 0),(.int 0),(.int 0)])])
def zac:List (AQ×PV):=[(AG "set",(.tp AC [(.str "cell"),(.str "figure")])),(AG "move",(.tp AC [(.str "cell"),(.str "cell")])),(AG "bare",(.tp AC [(.str "cell"),(.str "cell")])),(AG "sum",(.tp AC [(.str "cell"),(.str "cell"),(.str "cell")])),(AG "less",(.tp AC [(.str "cell"),(.str "cell"),(.str "cell")])),(AG "both",(.tp AC [(.str "cell"),(.str "cell"),(.str "cell")])),(AG "any",(.tp AC [(.str "cell"),(.str "cell"),(.str "cell")])),(AG "odd",(.tp AC [(.str "cell"),(.str "cell"),(.str "cell")])),(AG "twice",(.tp AC [(.str "cell"),(.str "cell")])),(AG "half",(.tp AC [(.str "cell"),(.str "cell")])),(AG "times",(.tp AC [(.str "cell"),(.str "cell"),(.str "cell"),(.str "cell")])),(AG "mark",(.tp AC [(.str "figure")])),(AG "ask",(.tp AC [(.str "cell")]))]
noncomputable def zkC:Fn:=⟨5,5,AC,(.k (.ret (.tup (.k (.v 0) (.k (.tup (.k (.v 1) (.k (.v 2) (.k (.v 3) (.k (.v 4) .e))))) .e)))) .e)⟩
def zdk:Fn:=⟨1,1,AC,(.k (.ret (.call 0 (yZ (.k (.v 0) (.k (.neg (.i 1)) .e)) (yp [.inr 0,.inr 0,.inl (.i 1)])))) .e)⟩
noncomputable def zkK:Fn:=⟨1,1,AC,(.k (.ret (.blt .tuple (.k (.comp [AD] (.n 0) (.seq (.v 0)) (.cst (.bl AC)) (.tup (.k (.s "row") (.k (.v 0) .e)))) .e))) .e)⟩
noncomputable def zgt:Fn:=⟨3,3,AC,(.k (.ret (.tup (.k (.tup (.k (.s "rounds") (.k (.v 0) (.k (.v 1) (.k (.v 2) .e))))) .e))) .e)⟩
noncomputable def zgj:Fn:=⟨5,5,AC,(.k (.ret (.tup (.k (.s "slice") (.k (.v 0) (.k (.tup (.k (.i 0) (.k (.i 0) (.k (.i 0) (.k (.i 0) .e))))) (.k (.tup (.k (.v 1) (.k (.v 2) (.k (.v 3) (.k (.v 4) .e))))) .e)))))) .e)⟩
noncomputable def zkE:Fn:=⟨6,6,AC,(.k (.ret (.tup (.k (.v 0) (.k (.tup (.k (.i 0) (.k (.v 2) (.k (.i 0) (.k (.v 3) (.k (.v 4) (.k (.v 5) .e))))))) (.k (.v 1) .e))))) .e)⟩
def zbW:Fn:=⟨3,4,AC,(.k (.asg (.n 3) (.tup (.k (.call 5 (yZ (.k (.i 1) (.k (.tup (.k (.call 4 (yZ (.k (.v 1) .e) (yp [.inr 0,.inl (.i 1),.inr 0,.inr 0]))) .e)) .e)) (yp [.inr 0,.inr 0,.inr 0,.inr 0]))) (.k (.call 5 (yZ (.k (.neg (.i 1)) (.k (.tup (.k (.call 4 (yZ (.k (.v 0) .e) (yp [.inr 0,.inl (.i 1),.inr 0,.inr 0]))) .e)) .e)) (yp [.inr 0,.inr 0,.inr 0,.inr 0]))) .e)))) (.k (.ret (.call 3 (.k (.tup (.k (.v 2) (.k (.i 1) (.k (.i 0) .e)))) (.k (.v 3) (.k (.call 2 (.k (.lst (.k (.tup (.k (.s "move") (.k (.call 0 (yZ (.k (.v 0) .e) (yp [.inr 0,.inl (.i 1),.inr 0,.inr 0]))) (.k (.call 0 (yZ (.k (.v 1) .e) (yp [.inr 0,.inl (.i 1),.inr 0,.inr 0]))) .e)))) .e)) .e)) .e))))) .e))⟩
def zbb:Fn:=⟨2,2,AC,(.k (.ret (.call 3 (.k (.v 1) (.k (.tup .e) (.k (.call 2 (.k (.lst (.k (.tup (.k (.s "twice") (.k (.call 0 (yZ (.k (.v 0) .e) (yp [.inr 0,.inr 0,.inl (.i 1),.inr 0]))) (.k (.call 0 (yZ (.k (.v 0) .e) (yp [.inr 0,.inr 0,.inl (.i 1),.inr 0]))) .e)))) .e)) .e)) .e))))) .e)⟩
def zc1:Fn:=⟨1,1,AC,(.k (.ret (.tup (.k (.s "sum") (.k (.v 0) (.k (.cst zdA) (.k (.cst zdA) .e)))))) .e)⟩
def za7:Fn:=⟨1,1,AC,(.k (.ret (.lst (.k (.tup (.k (.s "set") (.k (.v 0) (.k (.i 1) .e)))) (.k (.tup (.k (.s "less") (.k (.v 0) (.k (.v 0) (.k (.cst zdA) .e))))) .e)))) .e)⟩
def zbN:Fn:=⟨3,4,AC,(.k (.asg (.n 3) (.tup (.k (.s "any") (.k (.cst zdx) (.k (.cst zdx) (.k (.call 0 (yZ (.k (.v 0) .e) (yp [.inr 0,.inl (.i 1),.inr 0,.inl (.v 1)]))) .e)))))) (.k (.ret (.bin .add (.bin .add (.call 2 (.k (.lst (.k (.tup (.k (.s "set") (.k (.cst zdx) (.k (.i 0) .e)))) .e)) .e)) (.call 3 (.k (.v 2) (.k (.tup .e) (.k (.call 2 (.k (.lst (.k (.v 3) .e)) .e)) .e))))) (.call 2 (.k (.lst (.k (.tup (.k (.s "ask") (.k (.cst zdx) .e))) .e)) .e)))) .e))⟩
def zbu:Fn:=⟨2,3,AC,(.k (.asg (.n 2) (.lst (.k (.tup (.k (.s "twice") (.k (.cst zaR) (.k (.call 0 (yZ (.k (.s "c") (.k (.bin .sub (.v 0) (.i 1)) .e)) (yp [.inr 0,.inr 0,.inl (.v 1)]))) .e)))) (.k (.call 8 (.k (.idx (.cst zq) (.i 3)) .e)) .e)))) (.k (.ret (.bin .add (.call 10 (.k (.s "c") (.k (.i 0) (.k (.tup (.k (.v 0) (.k (.v 1) (.k (.i 0) .e)))) .e)))) (.call 2 (.k (.bin .add (.call 9 (.k (.idx (.cst zq) (.i 2)) .e)) (.v 2)) .e)))) .e))⟩
def zaI:Fn:=⟨0,1,AC,(.k (.asg (.n 0) (.bin .add (.call 10 (.k (.s "c") (.k (.i 1) (.k (.cst zE) .e)))) (.call 2 (.k (.lst (.k (.call 8 (.k (.idx (.cst zq) (.i 1)) .e)) .e)) .e)))) (.k (.ret (.bin .add (.bin .add (.call 13 .e) (.v 0)) (.call 11 (.k (.i 0) (.k (.i 2) .e))))) .e))⟩
def zco:Fn:=⟨0,3,AC,(.k (.asg (.n 0) (.tup (.k (.call 5 (yZ (.k (.i 1) (.k (.tup (.k (.call 4 (yZ (.k (.s "c") .e) (yp [.inr 0,.inl (.i 1),.inr 0,.inl (.i 1)]))) .e)) .e)) (yp [.inr 0,.inr 0,.inr 0,.inr 0]))) (.k (.call 5 (yZ (.k (.neg (.i 1)) (.k (.tup (.k (.call 4 (yZ (.k (.s "a") .e) (yp [.inr 0,.inr 0,.inr 0,.inl (.i 1)]))) (.k (.call 4 (yZ (.k (.s "b") .e) (yp [.inr 0,.inl (.i 1),.inr 0,.inr 0]))) .e))) .e)) (yp [.inr 0,.inr 0,.inr 0,.inr 0]))) .e)))) (.k (.asg (.n 1) (.call 2 (.k (.lst (.k (.tup (.k (.s "mark") (.k (.i 0) .e))) (.k (.tup (.k (.s "set") (.k (.cst ze6) (.k (.i 0) .e)))) .e))) .e))) (.k (.asg (.n 2) (.call 2 (.k (.lst (.k (.tup (.k (.s "move") (.k (.call 0 (yZ (.k (.s "c") .e) (yp [.inr 0,.inl (.i 1),.inr 0,.inl (.i 1)]))) (.k (.cst ze6) .e)))) .e)) .e))) (.k (.ret (.call 3 (.k (.cst zE) (.k (.v 0) (.k (.bin .add (.bin .add (.v 1) (.call 14 .e)) (.v 2)) .e))))) .e))))⟩
def zbU:Fn:=⟨0,3,AC,(.k (.asg (.n 0) (.call 0 (yZ (.k (.s "c") .e) (yp [.inr 0,.inl (.i 1),.inl (.i 1),.inr 0])))) (.k (.asg (.n 1) (.tup (.k (.s "slice") (.k (.s "b") (.k (.tup (.k (.i 0) (.k (.i 1) (.k (.i 0) (.k (.i 0) .e))))) (.k (.tup (.k (.i 1) (.k (.i 1) (.k (.i 0) (.k (.i 0) .e))))) .e)))))) (.k (.asg (.n 2) (.tup (.k (.call 5 (yZ (.k (.i 1) (.k (.tup (.k (.call 4 (yZ (.k (.s "c") .e) (yp [.inr 0,.inl (.i 1),.inr 0,.inl (.i 1)]))) .e)) .e)) (yp [.inr 0,.inr 0,.inr 0,.inr 0]))) (.k (.call 5 (yZ (.k (.i 1) (.k (.tup (.k (.call 4 (yZ (.k (.s "o") (.k (.i 1) .e)) (yp [.inr 0,.inr 0,.inr 0]))) .e)) .e)) (yp [.inr 0,.inl (.i 1),.inl (.i 1),.inr 0]))) (.k (.call 5 (yZ (.k (.neg (.i 1)) (.k (.tup (.k (.call 4 (yZ (.k (.s "a") .e) (yp [.inr 0,.inr 0,.inr 0,.inl (.i 1)]))) (.k (.call 4 (yZ (.k (.s "b") .e) (yp [.inr 0,.inl (.i 1),.inr 0,.inr 0]))) .e))) .e)) (yp [.inr 0,.inr 0,.inr 0,.inr 0]))) (.k (.call 5 (yZ (.k (.neg (.i 1)) (.k (.tup (.k (.call 4 (yZ (.k (.s "a") .e) (yp [.inr 0,.inr 0,.inl (.i 1),.inr 0]))) (.k (.v 1) .e))) .e)) (yp [.inr 0,.inl (.i 1),.inr 0,.inr 0]))) .e)))))) (.k (.ret (.call 3 (.k (.cst zE) (.k (.v 2) (.k (.call 2 (.k (.lst (.k (.tup (.k (.s "times") (.k (.cst zhc) (.k (.cst zeF) (.k (.call 0 (yZ (.k (.s "a") .e) (yp [.inr 0,.inr 0,.inl (.i 1),.inr 0]))) (.k (.call 0 (yZ (.k (.s "b") .e) (yp [.inr 0,.inl (.i 1),.inr 0,.inr 0]))) .e)))))) (.k (.tup (.k (.s "sum") (.k (.cst zhc) (.k (.cst zhc) (.k (.cst ze6) .e))))) (.k (.tup (.k (.s "sum") (.k (.cst zeF) (.k (.cst zeF) (.k (.cst zdA) .e))))) (.k (.tup (.k (.s "sum") (.k (.v 0) (.k (.v 0) (.k (.cst zhc) .e))))) (.k (.tup (.k (.s "sum") (.k (.cst ze6) (.k (.cst zeF) (.k (.cst zdA) .e))))) .e)))))) .e)) .e))))) .e))))⟩
noncomputable def zaE:Fn:=⟨0,0,AC,(.k (.ret (.bin .add (.bin .add (.call 17 (.k (.s "a") (.k (.s "b") (.k (.s "c") (.k (.s "d") .e))))) (.call 16 .e)) (.call 11 (.k (.i 0) (.k (.i 1) .e))))) .e)⟩
def zcT:Fn:=⟨0,0,AC,(.k (.ret (.bin .add (.call 10 (.k (.s "b") (.k (.i 0) (.k (.cst zE) .e)))) (.call 2 (.k (.call 9 (.k (.idx (.cst zq) (.i 0)) .e)) .e)))) .e)⟩
def zfo:Fn:=⟨4,6,AC,(.k (.asg (.n 4) (.tup (.k (.call 5 (yZ (.k (.i 1) (.k (.tup (.k (.call 4 (yZ (.k (.v 0) .e) (yp [.inr 0,.inr 0,.inr 0,.inl (.i 1)]))) .e)) .e)) (yp [.inl (.i 1),.inr 0,.inr 0,.inr 0]))) (.k (.call 5 (yZ (.k (.neg (.i 1)) (.k (.tup (.k (.call 4 (yZ (.k (.v 2) .e) (yp [.inr 0,.inr 0,.inr 0,.inl (.i 1)]))) (.k (.call 4 (yZ (.k (.v 1) .e) (yp [.inr 0,.inr 0,.inr 0,.inl (.i 1)]))) .e))) .e)) (yp [.inr 0,.inr 0,.inr 0,.inl (.i 1)]))) (.k (.call 5 (yZ (.k (.neg (.i 1)) (.k (.tup (.k (.call 4 (yZ (.k (.v 3) (.k (.i 1) .e)) (yp [.inr 0,.inr 0,.inl (.i 1)]))) .e)) .e)) (yp [.inr 0,.inr 0,.inr 0,.inl (.i 1)]))) (.k (.call 5 (yZ (.k (.neg (.i 1)) (.k (.tup (.k (.call 4 (yZ (.k (.s "e") .e) (yp [.inr 0,.inr 0,.inr 0,.inl (.i 1)]))) .e)) .e)) (yp [.inr 0,.inr 0,.inr 0,.inr 0]))) .e)))))) (.k (.asg (.n 5) (.bin .add (.bin .add (.bin .add (.call 18 (.k (.v 3) .e)) (.call 19 (.k (.v 3) (.k (.v 1) .e)))) (.call 20 (.k (.v 3) (.k (.v 1) .e)))) (.call 21 (.k (.v 2) .e)))) (.k (.ret (.bin .add (.call 6 (yZ (.k (.s "e") (.k (.v 0) .e)) (yp [.inr 0]))) (.call 3 (.k (.cst zcu) (.k (.v 4) (.k (.v 5) .e)))))) .e)))⟩
def zct:Fn:=⟨1,1,AC,(.k (.ret (.bin .add (.bin .add (.call 2 (.k (.lst (.k (.tup (.k (.s "mark") (.k (.i 0) .e))) .e)) .e)) (.call 7 (.k (.s "e") (.k (.cst zE) .e)))) (.call 7 (.k (.v 0) (.k (.tup (.k (.i 1) (.k (.i 1) (.k (.i 0) .e)))) .e))))) .e)⟩
def zbv:Fn:=⟨2,4,AC,(.k (.asg (.n 2) (.tup (.k (.s "less") (.k (.call 0 (yZ (.k (.v 0) .e) (yp [.inr 0,.inr 0,.inl (.i 1),.inr 0]))) (.k (.call 0 (yZ (.k (.v 0) .e) (yp [.inr 0,.inr 0,.inl (.i 1),.inr 0]))) (.k (.call 0 (yZ (.k (.v 1) .e) (yp [.inr 0,.inr 0,.inl (.i 1),.inr 0]))) .e)))))) (.k (.asg (.n 3) (.call 0 (yZ (.k (.v 0) .e) (yp [.inr 0,.inr 0,.inr 0,.inl (.i 1)])))) (.k (.ret (.bin .add (.call 3 (.k (.cst zE) (.k (.tup .e) (.k (.call 2 (.k (.lst (.k (.v 2) .e)) .e)) .e)))) (.call 2 (.k (.lst (.k (.tup (.k (.s "less") (.k (.v 3) (.k (.v 3) (.k (.cst zdA) .e))))) .e)) .e)))) .e)))⟩
def zdZ:Fn:=⟨2,5,AC,(.k (.asg (.n 2) (.lst (.k (.tup (.k (.s "both") (.k (.cst zaR) (.k (.call 0 (yZ (.k (.v 1) .e) (yp [.inr 0,.inr 0,.inl (.i 1),.inr 0]))) (.k (.cst zdT) .e))))) (.k (.tup (.k (.s "sum") (.k (.call 0 (yZ (.k (.v 0) .e) (yp [.inr 0,.inr 0,.inl (.i 1),.inr 0]))) (.k (.call 0 (yZ (.k (.v 0) .e) (yp [.inr 0,.inr 0,.inl (.i 1),.inr 0]))) (.k (.cst zaR) .e))))) .e)))) (.k (.asg (.n 3) (.call 0 (yZ (.k (.v 0) .e) (yp [.inr 0,.inr 0,.inr 0,.inl (.i 1)])))) (.k (.asg (.n 4) (.call 2 (.k (.lst (.k (.tup (.k (.s "less") (.k (.cst zdT) (.k (.cst zdA) (.k (.cst zdA) .e))))) (.k (.tup (.k (.s "mark") (.k (.i 0) .e))) .e))) .e))) (.k (.ret (.bin .add (.bin .add (.v 4) (.call 3 (.k (.cst zE) (.k (.tup .e) (.k (.call 2 (.k (.v 2) .e)) .e))))) (.call 2 (.k (.lst (.k (.tup (.k (.s "sum") (.k (.v 3) (.k (.v 3) (.k (.cst zdA) .e))))) .e)) .e)))) .e))))⟩
def zbQ:Fn:=⟨1,1,AC,(.k (.ret (.bin .add (.call 2 (.k (.lst (.k (.tup (.k (.s "bare") (.k (.cst zdT) (.k (.cst zdT) .e)))) (.k (.tup (.k (.s "ask") (.k (.cst zdT) .e))) .e))) .e)) (.call 7 (.k (.v 0) (.k (.cst zE) .e))))) .e)⟩
noncomputable def zaw:Fn:=⟨3,3,AC,(.k (.ret (.and (.isi (.v 0) [.int]) (.and (.not (.isi (.v 0) [.bool])) (.chain .le .le (.v 1) (.v 0) (.v 2))))) .e)⟩
noncomputable def zbB:Fn:=⟨1,1,AC,(.k (.ret (.and (.isi (.v 0) [.str]) (.and (.cmp .eq (.blt .len (.k (.v 0) .e)) (.i 1)) (.chain .le .le (.s "a") (.v 0) (.s "z"))))) .e)⟩
def zdI:Fn:=⟨2,2,AC,(.k (.ite (.or (.not (.isi (.v 0) [.tuple])) (.cmp .ne (.blt .len (.k (.v 0) .e)) (.v 1))) (.k .nope .e) .e) (.k (.ret (.blt .all (.k (.comp [AD] (.n 0) (.seq (.v 0)) (.cst (.bl AC)) (.call 22 (.k (.v 0) (.k (.neg (.cst zcY)) (.k (.cst zcY) .e))))) .e))) .e))⟩
def zb9:Fn:=⟨0,3,AC,(.k (.asg (.n 0) (.tup (.k (.s "sum") (.k (.call 0 (yZ (.k (.s "c") .e) (yp [.inr 0,.inl (.i 1),.inr 0,.inr 0]))) (.k (.call 0 (yZ (.k (.s "a") .e) (yp [.inr 0,.inl (.i 1),.inr 0,.inr 0]))) (.k (.call 0 (yZ (.k (.s "b") .e) (yp [.inr 0,.inl (.i 1),.inr 0,.inr 0]))) .e)))))) (.k (.asg (.n 1) (.tup (.k (.call 5 (yZ (.k (.i 1) (.k (.tup (.k (.call 4 (yZ (.k (.s "a") .e) (yp [.inr 0,.inl (.i 1),.inr 0,.inr 0]))) .e)) .e)) (yp [.inr 0,.inr 0,.inr 0,.inr 0]))) (.k (.call 5 (yZ (.k (.i 1) (.k (.tup (.k (.call 4 (yZ (.k (.s "b") .e) (yp [.inr 0,.inl (.i 1),.inr 0,.inr 0]))) .e)) .e)) (yp [.inr 0,.inr 0,.inr 0,.inr 0]))) (.k (.call 5 (yZ (.k (.neg (.i 1)) (.k (.tup (.k (.call 4 (yZ (.k (.s "c") .e) (yp [.inr 0,.inl (.i 1),.inr 0,.inr 0]))) .e)) .e)) (yp [.inr 0,.inr 0,.inr 0,.inr 0]))) (.k (.call 5 (yZ (.k (.neg (.i 1)) (.k (.tup (.k (.tup (.k (.s "mark") .e)) .e)) .e)) (yp [.inr 0,.inl (.i 1),.inr 0,.inr 0]))) .e)))))) (.k (.asg (.n 2) (.call 29 (.k (.call 1 (.k (.s "c") .e)) (.k (.call 1 (.k (.s "a") .e)) (.k (.call 1 (.k (.s "b") .e)) .e))))) (.k (.ret (.bin .add (.bin .add (.call 28 (.k (.v 0) (.k (.v 1) .e))) (.v 2)) (.call 11 (.k (.i 0) (.k (.i 1) .e))))) .e))))⟩
def zan:Fn:=⟨0,3,AC,(.k (.asg (.n 0) (.tup (.k (.s "less") (.k (.call 0 (yZ (.k (.s "c") .e) (yp [.inr 0,.inl (.i 1),.inr 0,.inr 0]))) (.k (.call 0 (yZ (.k (.s "a") .e) (yp [.inr 0,.inl (.i 1),.inr 0,.inr 0]))) (.k (.call 0 (yZ (.k (.s "b") .e) (yp [.inr 0,.inl (.i 1),.inr 0,.inr 0]))) .e)))))) (.k (.asg (.n 1) (.tup (.k (.call 5 (yZ (.k (.i 1) (.k (.tup (.k (.call 4 (yZ (.k (.s "a") .e) (yp [.inr 0,.inl (.i 1),.inr 0,.inr 0]))) .e)) .e)) (yp [.inr 0,.inr 0,.inr 0,.inr 0]))) (.k (.call 5 (yZ (.k (.neg (.i 1)) (.k (.tup (.k (.call 4 (yZ (.k (.s "b") .e) (yp [.inr 0,.inl (.i 1),.inr 0,.inr 0]))) .e)) .e)) (yp [.inr 0,.inr 0,.inr 0,.inr 0]))) (.k (.call 5 (yZ (.k (.neg (.i 1)) (.k (.tup (.k (.call 4 (yZ (.k (.s "c") .e) (yp [.inr 0,.inl (.i 1),.inr 0,.inr 0]))) .e)) .e)) (yp [.inr 0,.inr 0,.inr 0,.inr 0]))) (.k (.call 5 (yZ (.k (.i 1) (.k (.tup (.k (.tup (.k (.s "mark") .e)) .e)) .e)) (yp [.inr 0,.inl (.i 1),.inr 0,.inr 0]))) .e)))))) (.k (.asg (.n 2) (.call 29 (.k (.call 1 (.k (.s "a") .e)) (.k (.call 1 (.k (.s "b") .e)) (.k (.call 1 (.k (.s "c") .e)) .e))))) (.k (.ret (.bin .add (.bin .add (.call 28 (.k (.v 0) (.k (.v 1) .e))) (.v 2)) (.call 11 (.k (.i 0) (.k (.i 1) .e))))) .e))))⟩
def zaJ:Fn:=⟨0,1,AC,(.k (.asg (.n 0) (.lst (.k (.tup (.k (.s "odd") (.k (.idx (.cst zq) (.i 1)) (.k (.idx (.cst zq) (.i 1)) (.k (.idx (.cst zq) (.i 3)) .e))))) (.k (.tup (.k (.s "set") (.k (.idx (.cst zq) (.i 3)) (.k (.i 0) .e)))) .e)))) (.k (.ret (.bin .add (.call 26 .e) (.call 2 (.k (.v 0) .e)))) .e))⟩
def zfh:Fn:=⟨2,2,AC,(.k (.ret (.bin .add (.bin .add (.call 2 (.k (.lst (.k (.tup (.k (.s "mark") (.k (.i 0) .e))) .e)) .e)) (.call 3 (.k (.cst zE) (.k (.v 1) (.k (.call 2 (.k (.lst (.k (.v 0) .e)) .e)) .e))))) (.call 2 (.k (.lst (.k (.call 8 (.k (.idx (.cst zq) (.i 0)) .e)) .e)) .e)))) .e)⟩
def zc5:Fn:=⟨3,3,AC,(.k (.ret (.call 2 (.k (.lst (.k (.tup (.k (.s "odd") (.k (.cst zaR) (.k (.v 0) (.k (.v 1) .e))))) (.k (.tup (.k (.s "odd") (.k (.cst zdx) (.k (.v 0) (.k (.v 2) .e))))) (.k (.tup (.k (.s "both") (.k (.cst zaR) (.k (.cst zaR) (.k (.cst zdx) .e))))) (.k (.tup (.k (.s "twice") (.k (.cst zaR) (.k (.cst zaR) .e)))) (.k (.call 8 (.k (.idx (.cst zq) (.i 1)) .e)) .e)))))) .e))) .e)⟩
noncomputable def zcC:Fn:=⟨1,1,AC,(.k (.ret (.call 32 (.k (.v 0) (.k (.cst (.bl AB)) .e)))) .e)⟩
noncomputable def zb8:Fn:=⟨1,1,AC,(.k (.ret (.call 32 (.k (.v 0) (.k (.cst (.bl AC)) .e)))) .e)⟩
def yS:Fn:=⟨2,4,AC,(.k (.ite (.or (.not (.call 33 (.k (.v 0) .e))) (.cmp .ne (.blt .len (.k (.v 0) .e)) (.bin .add (.blt .len (.k (.dix zac (.idx (.v 0) (.i 0))) .e)) (.i 1)))) (.k (.ret (.cst (.bl AB))) .e) .e) (.k (.for (.t [2,3]) (.zip (.dix zac (.idx (.v 0) (.i 0))) (.slc (.v 0) (.i 1) (.cst .non))) (.k (.ite (.not (.call 34 (.k (.v 2) (.k (.v 3) (.k (.v 1) .e))))) (.k (.ret (.cst (.bl AB))) .e) .e) .e)) (.k (.ret (.or (.cmp .ne (.idx (.v 0) (.i 0)) (.s "times")) (.cmp .ne (.idx (.v 0) (.i 1)) (.idx (.v 0) (.i 2))))) .e)))⟩
def zbl:Fn:=⟨1,1,AC,(.k (.ret (.and (.isi (.v 0) [.tuple]) (.and (.cmp .gt (.blt .len (.k (.v 0) .e)) (.i 0)) (.and (.isi (.idx (.v 0) (.i 0)) [.str]) (.din (.idx (.v 0) (.i 0)) zac))))) .e)⟩
noncomputable def zZ:Fn:=⟨3,3,AC,(.k (.ite (.cmp .eq (.v 0) (.s "figure")) (.k (.ret (.call 22 (.k (.v 1) (.k (.i 0) (.k (.i 1) .e))))) .e) .e) (.k (.ret (.ite (.v 2) (.call 36 (.k (.v 1) .e)) (.call 35 (.k (.v 1) .e)))) .e))⟩
noncomputable def zbR:Fn:=⟨1,1,AC,(.k (.ret (.and (.call 37 (.k (.v 0) .e)) (.call 22 (.k (.idx (.v 0) (.i 1)) (.k (.i 0) (.k (.i 99) .e)))))) .e)⟩
noncomputable def zby:Fn:=⟨1,1,AC,(.k (.ret (.and (.call 37 (.k (.v 0) .e)) (.call 24 (.k (.idx (.v 0) (.i 1)) (.k (.i 4) .e))))) .e)⟩
noncomputable def zar:Fn:=⟨1,1,AC,(.k (.ret (.and (.isi (.v 0) [.tuple]) (.and (.cmp .eq (.blt .len (.k (.v 0) .e)) (.i 2)) (.call 23 (.k (.idx (.v 0) (.i 0)) .e))))) .e)⟩
def zb5:Fn:=⟨1,1,AC,(.k (.ret (.and (.isi (.v 0) [.tuple]) (.and (.cmp .le (.blt .len (.k (.v 0) .e)) (.cst zfi)) (.blt .all (.k (.comp [AD] (.n 0) (.seq (.v 0)) (.cst (.bl AC)) (.call 40 (.k (.v 0) .e))) .e))))) .e)⟩
noncomputable def zbh:Fn:=⟨4,4,AC,(.k (.ret (.bin .add (.bin .add (.bin .add (.idx (.v 0) (.i 0)) (.bin .mul (.idx (.v 0) (.i 1)) (.v 2))) (.bin .mul (.idx (.v 0) (.i 2)) (.v 3))) (.bin .mul (.idx (.v 0) (.i 3)) (.v 1)))) .e)⟩
def zeD:Fn:=⟨1,4,AC,(.k (.ite (.or (.not (.isi (.v 0) [.tuple])) (.cmp .ne (.blt .len (.k (.v 0) .e)) (.i 3))) (.k (.ret (.cst (.bl AB))) .e) .e) (.k (.asg (.t [1,2,3]) (.v 0)) (.k (.ret (.and (.call 22 (.k (.v 1) (.k (.bin .sub (.i 1) (.cst zbw)) (.k (.bin .sub (.cst zbw) (.i 1)) .e)))) (.and (.call 24 (.k (.v 2) (.k (.i 6) .e))) (.call 41 (.k (.v 3) .e))))) .e)))⟩
def zcr:Fn:=⟨1,1,AC,(.k (.ret (.and (.isi (.v 0) [.tuple]) (.and (.cmp .le (.blt .len (.k (.v 0) .e)) (.cst zd7)) (.blt .all (.k (.comp [AD] (.n 0) (.seq (.v 0)) (.cst (.bl AC)) (.call 42 (.k (.v 0) .e))) .e))))) .e)⟩
noncomputable def zd1:Fn:=⟨1,1,AC,(.k (.ite (.or (.not (.isi (.v 0) [.tuple])) (.cmp .eq (.blt .len (.k (.v 0) .e)) (.i 0))) (.k (.ret (.cst (.bl AB))) .e) .e) (.k (.ite (.cmp .eq (.idx (.v 0) (.i 0)) (.s "mark")) (.k (.ret (.cmp .eq (.blt .len (.k (.v 0) .e)) (.i 1))) .e) .e) (.k (.ite (.or (.cmp .ne (.idx (.v 0) (.i 0)) (.s "slice")) (.or (.cmp .ne (.blt .len (.k (.v 0) .e)) (.i 4)) (.not (.call 23 (.k (.idx (.v 0) (.i 1)) .e))))) (.k (.ret (.cst (.bl AB))) .e) .e) (.k (.ret (.and (.call 24 (.k (.idx (.v 0) (.i 2)) (.k (.i 4) .e))) (.call 24 (.k (.idx (.v 0) (.i 3)) (.k (.i 4) .e))))) .e))))⟩
noncomputable def zU:Fn:=⟨3,3,AB,(.k (.sfl 20 (.v 0) (AG "w") (.v 1)) (.k (.sfl 20 (.v 0) (AG "n") (.v 2)) (.k (.sfl 20 (.v 0) (AG "steps") (.newl .e)) (.k (.sfl 20 (.v 0) (AG "rows") (.i 0)) (.k (.sfl 20 (.v 0) (AG "rounds") (.i 0)) .e)))))⟩
noncomputable def yt:Fn:=⟨3,4,AB,(.k (.for (.n 3) (.seq (.v 1)) (.k (.ite (.cmp .eq (.idx (.v 3) (.i 0)) (.s "row")) (.k (.expr (.mcl 20 47 (AG "add_row") (.v 0) (.k (.idx (.v 3) (.i 1)) (.k (.v 2) .e)))) .e) (.k (.expr (.mcl 20 45 (AG "go_rounds") (.v 0) (.k (.v 3) (.k (.v 2) .e)))) .e)) .e)) .e)⟩
noncomputable def yu:Fn:=⟨3,5,AB,(.k (.asg (.n 3) (.blt .max (.k (.i 0) (.k (.mcl 20 46 (AG "count_of") (.v 0) (.k (.idx (.v 1) (.i 1)) .e)) .e)))) (.k (.for (.n 4) (.range1 (.v 3)) (.k (.expr (.mcl 20 49 (AG "add_asked") (.v 0) (.k (.idx (.v 1) (.i 2)) (.k (.bin .add (.v 2) (.tup (.k (.v 4) .e))) .e)))) (.k (.expr (.mcl 20 48 (AG "add_round") (.v 0) .e)) (.k (.expr (.mcl 20 44 (AG "go_parts") (.v 0) (.k (.idx (.v 1) (.i 3)) (.k (.bin .add (.v 2) (.tup (.k (.v 4) .e))) .e)))) .e)))) (.k (.expr (.mcl 20 49 (AG "add_asked") (.v 0) (.k (.idx (.v 1) (.i 2)) (.k (.bin .add (.v 2) (.tup (.k (.v 3) .e))) .e)))) .e)))⟩
noncomputable def zF:Fn:=⟨2,5,AB,(.k (.asg (.t [2,3,4]) (.v 1)) (.k (.ret (.bin .add (.bin .add (.v 2) (.bin .mul (.v 3) (.fld 20 (.v 0) (AG "n")))) (.bin .mul (.bin .mul (.v 4) (.fld 20 (.v 0) (AG "w"))) (.fld 20 (.v 0) (AG "n"))))) .e))⟩
def zJ:Fn:=⟨3,6,AB,(.k (.asg (.t [3,4]) (.call 55 (.k (.v 2) .e))) (.k (.asg (.n 5) (.blt .tuple (.k (.comp [AD,AA 3,AA 4,AA 0] (.n 0) (.seq (.v 1)) (.cst (.bl AC)) (.call 56 (.k (.v 0) (.k (.fld 20 (.v 3) (AG "n")) (.k (.v 1) (.k (.v 2) .e)))))) .e))) (.k (.sfl 20 (.v 0) (AG "rows") (.bin .add (.fld 20 (.v 0) (AG "rows")) (.i 1))) (.k (.ite (.or (.not (.call 30 (.k (.v 5) .e))) (.cmp .gt (.fld 20 (.v 0) (AG "rows")) (.cst zdz))) (.k .nope .e) .e) (.k (.expr (.mth .append (.fld 20 (.v 0) (AG "steps")) (.k (.tup (.k (.s "row") (.k (.v 5) .e))) .e))) .e)))))⟩
def zB:Fn:=⟨1,1,AB,(.k (.sfl 20 (.v 0) (AG "rounds") (.bin .add (.fld 20 (.v 0) (AG "rounds")) (.i 1))) (.k (.ite (.cmp .gt (.fld 20 (.v 0) (AG "rounds")) (.cst zbT)) (.k .nope .e) .e) .e))⟩
noncomputable def zA:Fn:=⟨3,5,AB,(.k (.asg (.t [3,4]) (.call 55 (.k (.v 2) .e))) (.k (.expr (.mth .append (.fld 20 (.v 0) (AG "steps")) (.k (.tup (.k (.s "asked") (.k (.v 1) (.k (.v 3) (.k (.v 4) .e))))) .e))) .e))⟩
def zaZ:Fn:=⟨1,1,AC,(.k (.ret (.call 53 (.k (.v 0) (.k (.cst zfj) .e)))) .e)⟩
noncomputable def zbs:Fn:=⟨3,3,AC,(.k (.ret (.blt .tuple (.k (.comp [AD] (.n 0) (.seq (.call 52 (.k (.v 0) (.k (.v 1) (.k (.v 2) .e))))) (.cmp .eq (.idx (.v 0) (.i 0)) (.s "row")) (.idx (.v 0) (.i 1))) .e))) .e)⟩
noncomputable def zbj:Fn:=⟨3,4,AC,(.k (.ite (.not (.call 50 (.k (.v 0) .e))) (.k .nope .e) .e) (.k (.asg (.n 3) (.new 20 43 (.k (.v 1) (.k (.v 2) .e)))) (.k (.expr (.mcl 20 44 (AG "go_parts") (.v 3) (.k (.v 0) (.k (.tup .e) .e)))) (.k (.ret (.frz (.fld 20 (.v 3) (AG "steps")))) .e))))⟩
noncomputable def zc3:Fn:=⟨2,2,AC,(.k (.ret (.and (.isi (.v 0) [.tuple]) (.blt .all (.k (.comp [AD,AA 1] (.n 0) (.seq (.v 0)) (.cst (.bl AC)) (.call 54 (.k (.v 0) (.k (.v 1) .e)))) .e)))) .e)⟩
noncomputable def ze9:Fn:=⟨2,2,AC,(.k (.ite (.or (.not (.isi (.v 0) [.tuple])) (.cmp .eq (.blt .len (.k (.v 0) .e)) (.i 0))) (.k (.ret (.cst (.bl AB))) .e) .e) (.k (.ite (.cmp .eq (.idx (.v 0) (.i 0)) (.s "row")) (.k (.ret (.and (.cmp .eq (.blt .len (.k (.v 0) .e)) (.i 2)) (.call 31 (.k (.idx (.v 0) (.i 1)) .e)))) .e) .e) (.k (.ite (.or (.cmp .ne (.idx (.v 0) (.i 0)) (.s "rounds")) (.or (.cmp .ne (.blt .len (.k (.v 0) .e)) (.i 4)) (.cmp .eq (.v 1) (.i 0)))) (.k (.ret (.cst (.bl AB))) .e) .e) (.k (.ret (.and (.call 24 (.k (.idx (.v 0) (.i 1)) (.k (.i 3) .e))) (.and (.call 38 (.k (.idx (.v 0) (.i 2)) .e)) (.call 53 (.k (.idx (.v 0) (.i 3)) (.k (.bin .sub (.v 1) (.i 1)) .e)))))) .e))))⟩
noncomputable def zaC:Fn:=⟨1,1,AC,(.k (.ret (.slc (.bin .add (.v 0) (.tup (.k (.i 0) (.k (.i 0) .e)))) (.cst .non) (.i 2))) .e)⟩
noncomputable def zaS:Fn:=⟨4,4,AC,(.k (.ite (.not (.isi (.v 0) [.tuple])) (.k (.ret (.v 0)) .e) .e) (.k (.ret (.tup (.k (.idx (.v 0) (.i 0)) (.k (.call 39 (.k (.idx (.v 0) (.i 1)) (.k (.v 1) (.k (.v 2) (.k (.v 3) .e))))) .e)))) .e))⟩
def zdh:Fn:=⟨1,1,AC,(.k (.ite (.not (.call 59 (.k (.v 0) .e))) (.k .nope .e) .e) (.k (.ite (.cmp .eq (.idx (.v 0) (.i 0)) (.s "led")) (.k .nope .e) .e) (.k (.ite (.cmp .isin (.idx (.v 0) (.i 0)) (.cst zep)) (.k .nope .e) .e) (.k (.ite (.cmp .isin (.idx (.v 0) (.i 0)) (.cst zdW)) (.k .nope .e) .e) (.k (.ret (.call 63 (.k (.idx (.v 0) (.i 0)) .e))) .e)))))⟩
noncomputable def zaB:Fn:=⟨3,3,AC,(.k (.ret (.call 51 (.k (.call 57 (.k (.v 0) .e)) (.k (.v 1) (.k (.v 2) .e))))) .e)⟩
def zfb:Fn:=⟨1,1,AC,(.k (.ite (.or (.not (.isi (.v 0) [.tuple])) (.cmp .eq (.blt .len (.k (.v 0) .e)) (.i 0))) (.k .nope .e) .e) (.k (.ite (.cmp .eq (.idx (.v 0) (.i 0)) (.s "led")) (.k .nope .e) .e) (.k (.ite (.cmp .isin (.idx (.v 0) (.i 0)) (.cst zep)) (.k .nope .e) .e) (.k (.ret (.and (.cmp .eq (.blt .len (.k (.v 0) .e)) (.i 1)) (.or (.cmp .isin (.idx (.v 0) (.i 0)) (.cst zd3)) (.cmp .isin (.idx (.v 0) (.i 0)) (.cst zk4))))) .e))))⟩
def zcV:Fn:=⟨1,1,AC,(.k (.ret (.cmp .isin (.idx (.v 0) (.i 0)) (.cst zd3))) .e)⟩
def zC:Fn:=⟨2,2,AC,(.k (.ite (.cmp .eq (.idx (.v 0) (.i 0)) (.s "compare")) (.k (.ret (.i 0)) .e) .e) (.k (.ite (.cmp .eq (.idx (.v 0) (.i 0)) (.s "led")) (.k .nope .e) .e) (.k (.ret (.ite (.cmp .isin (.idx (.v 0) (.i 0)) (.cst zcf)) (.bin .mul (.i 2) (.v 1)) (.v 1))) .e)))⟩
def zam:Fn:=⟨2,2,AC,(.k (.ret (.ite (.cmp .isin (.idx (.v 0) (.i 0)) (.cst zad)) (.v 1) (.i 0))) .e)⟩
noncomputable def za2:Fn:=⟨1,1,AC,(.k (.ite (.cmp .eq (.v 0) (.s "sum")) (.k (.ret (.call 25 .e)) .e) .e) (.k (.ite (.cmp .eq (.v 0) (.s "difference")) (.k .nope .e) .e) (.k (.ite (.cmp .eq (.v 0) (.s "turned")) (.k .nope .e) .e) (.k (.ite (.cmp .eq (.v 0) (.s "compare")) (.k (.ret (.call 27 .e)) .e) .e) (.k (.ite (.cmp .eq (.v 0) (.s "bare")) (.k .nope .e) .e) (.k (.ite (.cmp .eq (.v 0) (.s "product")) (.k (.ret (.call 12 .e)) .e) .e) (.k (.ite (.cmp .eq (.v 0) (.s "signed product")) (.k .nope .e) .e) (.k (.ite (.cmp .eq (.v 0) (.s "quotient")) (.k (.ret (.call 15 .e)) .e) .e) (.k .nope .e)))))))))⟩
def zgd:Fn:=⟨5,6,AC,(.k (.mkr 5 zT (.v 0) (.k (.v 1) (.k (.v 2) (.k (.v 3) (.k (.v 4) .e))))) .e)⟩
noncomputable def zbV:Fn:=⟨1,1,AC,(.k (.ret (.bin .sub (.bin .shl (.i 1) (.v 0)) (.i 1))) .e)⟩
noncomputable def zd8:Fn:=⟨4,4,AC,(.k (.ret (.tup (.k (.v 1) (.k (.v 3) .e)))) .e)⟩
noncomputable def zee:Fn:=⟨4,4,AC,(.k (.ret (.tup (.k (.bin .sub (.call 65 (.k (.v 0) .e)) (.v 1)) (.k (.v 3) .e)))) .e)⟩
noncomputable def zcM:Fn:=⟨4,5,AC,(.k (.asg (.n 4) (.bin .add (.bin .add (.v 1) (.v 2)) (.v 3))) (.k (.ret (.tup (.k (.bin .band (.v 4) (.call 65 (.k (.v 0) .e))) (.k (.bin .shr (.v 4) (.v 0)) .e)))) .e))⟩
noncomputable def zak:Fn:=⟨4,5,AC,(.k (.asg (.n 4) (.bin .sub (.bin .sub (.v 1) (.v 2)) (.v 3))) (.k (.ret (.tup (.k (.bin .band (.v 4) (.call 65 (.k (.v 0) .e))) (.k (.ite (.cmp .lt (.v 4) (.i 0)) (.i 1) (.i 0)) .e)))) .e))⟩
noncomputable def zbM:Fn:=⟨4,4,AC,(.k (.ret (.tup (.k (.bin .band (.v 1) (.v 2)) (.k (.v 3) .e)))) .e)⟩
noncomputable def zcx:Fn:=⟨4,4,AC,(.k (.ret (.tup (.k (.bin .bor (.v 1) (.v 2)) (.k (.v 3) .e)))) .e)⟩
noncomputable def zcK:Fn:=⟨4,4,AC,(.k (.ret (.tup (.k (.bin .bxor (.v 1) (.v 2)) (.k (.v 3) .e)))) .e)⟩
noncomputable def zb7:Fn:=⟨4,4,AC,(.k (.ret (.call 68 (.k (.v 0) (.k (.v 1) (.k (.v 1) (.k (.v 3) .e)))))) .e)⟩
noncomputable def zcD:Fn:=⟨4,4,AC,(.k (.ret (.tup (.k (.bin .bor (.bin .shr (.v 1) (.i 1)) (.bin .shl (.v 3) (.bin .sub (.v 0) (.i 1)))) (.k (.bin .band (.v 1) (.i 1)) .e)))) .e)⟩
noncomputable def zN:Fn:=⟨2,2,AB,(.k (.sfl 21 (.v 0) (AG "w") (.v 1)) (.k (.sfl 21 (.v 0) (AG "words") (.dict0 AC)) (.k (.sfl 21 (.v 0) (AG "marked") (.i 0)) .e)))⟩
noncomputable def zat:Fn:=⟨4,5,AB,(.k (.asg (.n 4) (.call 83 (.k (.v 1) (.k (.v 2) .e)))) (.k (.ite (.not (.call 22 (.k (.v 3) (.k (.i 0) (.k (.call 65 (.k (.fld 21 (.v 0) (AG "w")) .e)) .e))))) (.k .nope .e) .e) (.k (.dput (.fld 21 (.v 0) (AG "words")) (.v 4) (.v 3)) .e)))⟩
noncomputable def zaj:Fn:=⟨3,3,AB,(.k (.ret (.mcl 21 79 (AG "held_in") (.v 0) (.k (.call 83 (.k (.v 1) (.k (.v 2) .e))) .e))) .e)⟩
noncomputable def yK:Fn:=⟨2,3,AB,(.k (.for (.n 2) (.seq (.v 1)) (.k (.expr (.call 84 (.k (.v 2) .e))) .e)) (.k (.for (.n 2) (.seq (.v 1)) (.k (.expr (.mcl 21 80 (AG "go_row") (.v 0) (.k (.v 2) .e))) .e)) .e))⟩
noncomputable def zR:Fn:=⟨2,2,AB,(.k (.ret (.mth .get (.fld 21 (.v 0) (AG "words")) (.k (.v 1) (.k (.i 0) .e)))) .e)⟩
def zh:Fn:=⟨2,2,AB,(.k (.ite (.cmp .eq (.idx (.v 1) (.i 0)) (.s "mark")) (.k (.sfl 21 (.v 0) (AG "marked") (.idx (.v 1) (.i 1))) .e) (.k (.ite (.cmp .eq (.idx (.v 1) (.i 0)) (.s "ask")) (.k (.sfl 21 (.v 0) (AG "marked") (.ite (.cmp .eq (.mcl 21 79 (AG "held_in") (.v 0) (.k (.idx (.v 1) (.i 1)) .e)) (.i 0)) (.i 0) (.i 1))) .e) (.k (.ite (.cmp .eq (.idx (.v 1) (.i 0)) (.s "set")) (.k (.dput (.fld 21 (.v 0) (AG "words")) (.idx (.v 1) (.i 1)) (.idx (.v 1) (.i 2))) .e) (.k (.ite (.cmp .eq (.idx (.v 1) (.i 0)) (.s "times")) (.k (.expr (.mcl 21 81 (AG "go_times") (.v 0) (.k (.v 1) .e))) .e) (.k (.expr (.mcl 21 82 (AG "go_made") (.v 0) (.k (.v 1) .e))) .e)) .e)) .e)) .e)) .e)⟩
noncomputable def zM:Fn:=⟨2,3,AB,(.k (.asg (.n 2) (.bin .mul (.mcl 21 79 (AG "held_in") (.v 0) (.k (.idx (.v 1) (.i 3)) .e)) (.mcl 21 79 (AG "held_in") (.v 0) (.k (.idx (.v 1) (.i 4)) .e)))) (.k (.dput (.fld 21 (.v 0) (AG "words")) (.idx (.v 1) (.i 1)) (.bin .band (.v 2) (.call 65 (.k (.fld 21 (.v 0) (AG "w")) .e)))) (.k (.dput (.fld 21 (.v 0) (AG "words")) (.idx (.v 1) (.i 2)) (.bin .shr (.v 2) (.fld 21 (.v 0) (AG "w")))) .e)))⟩
noncomputable def zS:Fn:=⟨2,6,AB,(.k (.asg (.t [2,3]) (.tup (.k (.mcl 21 79 (AG "held_in") (.v 0) (.k (.idx (.v 1) (.i 2)) .e)) (.k (.mcl 21 79 (AG "held_in") (.v 0) (.k (.idx (.v 1) (.neg (.i 1))) .e)) .e)))) (.k (.asg (.t [4,5]) (.call 64 (.k (.idx (.v 1) (.i 0)) (.k (.fld 21 (.v 0) (AG "w")) (.k (.v 2) (.k (.v 3) (.k (.fld 21 (.v 0) (AG "marked")) .e))))))) (.k (.dput (.fld 21 (.v 0) (AG "words")) (.idx (.v 1) (.i 1)) (.v 4)) (.k (.sfl 21 (.v 0) (AG "marked") (.v 5)) .e))))⟩
noncomputable def za4:Fn:=⟨2,2,AC,(.k (.ite (.not (.call 35 (.k (.tup (.k (.v 0) (.k (.v 1) .e))) .e))) (.k .nope .e) .e) (.k (.ret (.tup (.k (.v 0) (.k (.v 1) .e)))) .e))⟩
noncomputable def zal:Fn:=⟨1,1,AC,(.k (.ite (.not (.call 30 (.k (.v 0) .e))) (.k .nope .e) .e) .e)⟩
noncomputable def zbd:Fn:=⟨3,3,AC,(.k (.ite (.or (.cmp .lt (.v 0) (.i 0)) (.cmp .ge (.v 0) (.bin .shl (.i 1) (.bin .mul (.v 1) (.v 2))))) (.k .nope .e) .e) (.k (.ret (.call 87 (.k (.v 0) (.k (.v 1) (.k (.v 2) .e))))) .e))⟩
noncomputable def zeb:Fn:=⟨2,2,AC,(.k (.ret (.blt .sum (.k (.comp [AD,AD,AA 1] (.t [0,1]) (.enum (.v 0)) (.cst (.bl AC)) (.bin .shl (.v 1) (.bin .mul (.v 2) (.v 0)))) .e))) .e)⟩
noncomputable def zah:Fn:=⟨3,4,AC,(.k (.asg (.n 3) (.bin .sub (.bin .shl (.i 1) (.v 1)) (.i 1))) (.k (.ret (.blt .tuple (.k (.comp [AD,AA 3,AA 0,AA 1] (.n 0) (.range1 (.v 2)) (.cst (.bl AC)) (.bin .band (.bin .shr (.v 2) (.bin .mul (.v 3) (.v 0))) (.v 1))) .e))) .e))⟩
def zaa:Fn:=⟨5,5,AC,(.k (.ite (.not (.call 59 (.k (.v 0) .e))) (.k .nope .e) .e) (.k (.expr (.call 85 (.k (.v 3) (.k (.v 1) (.k (.v 2) .e))))) (.k (.expr (.call 85 (.k (.v 4) (.k (.v 1) (.k (.v 2) .e))))) (.k (.ite (.and (.cmp .ne (.v 4) (.i 0)) (.not (.call 60 (.k (.v 0) .e)))) (.k .nope .e) .e) (.k (.ite (.and (.cmp .eq (.v 4) (.i 0)) (.cmp .isin (.idx (.v 0) (.i 0)) (.cst zad))) (.k .nope .e) .e) .e)))))⟩
def yct:Fn:=⟨5,7,AC,(.k (.expr (.call 88 (.k (.v 0) (.k (.v 1) (.k (.v 2) (.k (.v 3) (.k (.v 4) .e))))))) (.k (.asg (.n 5) (.call 90 (.k (.v 1) (.k (.v 2) (.k (.v 3) (.k (.v 4) .e)))))) (.k (.expr (.mcl 21 78 (AG "run") (.v 5) (.k (.call 58 (.k (.v 0) (.k (.v 1) (.k (.v 2) .e)))) .e))) (.k (.asg (.n 6) (.call 91 (.k (.v 5) (.k (.s "c") (.k (.call 61 (.k (.v 0) (.k (.v 2) .e))) .e))))) (.k (.ret (.tup (.k (.v 6) (.k (.call 91 (.k (.v 5) (.k (.s "d") (.k (.call 62 (.k (.v 0) (.k (.v 2) .e))) .e)))) (.k (.call 91 (.k (.v 5) (.k (.s "m") (.k (.cst zcs) .e)))) .e))))) .e)))))⟩
def yD:Fn:=⟨4,9,AB,(.k (.asg (.n 4) (.new 21 75 (.k (.v 0) .e))) (.k (.for (.t [5,6]) (.seq (.tup (.k (.tup (.k (.s "a") (.k (.v 2) .e))) (.k (.tup (.k (.s "b") (.k (.v 3) .e))) .e)))) (.k (.for (.t [7,8]) (.enum (.call 87 (.k (.v 6) (.k (.v 0) (.k (.v 1) .e))))) (.k (.expr (.mcl 21 76 (AG "put") (.v 4) (.k (.v 5) (.k (.v 7) (.k (.v 8) .e))))) .e)) .e)) (.k (.ret (.v 4)) .e)))⟩
noncomputable def yav:Fn:=⟨3,3,AB,(.k (.ret (.blt .tuple (.k (.comp [AD,AA 1,AA 0] (.n 0) (.range1 (.v 2)) (.cst (.bl AC)) (.mcl 21 77 (AG "word") (.v 2) (.k (.v 1) (.k (.v 0) .e)))) .e))) .e)⟩
noncomputable def zcI:Fn:=⟨1,1,AB,(.k (.ret (.newl (.k (.slc (.v 0) (.cst .non) (.i 63)) (.k (.i 0) (.k (.i 0) (.k (.cst (.bl AB)) .e)))))) .e)⟩
noncomputable def yaB:Fn:=⟨1,8,AC,(.k (.asg (.n 1) (.tup (.k (.i 2147483647) (.k (.i 2147483629) (.k (.i 2147483587) (.k (.i 2147483579) (.k (.i 2147483563) .e))))))) (.k (.asg (.n 2) (.i 0)) (.k (.for (.t [3,4]) (.enum (.v 1)) (.k (.asg (.n 5) (.bin .add (.v 0) (.idx (.tup (.k (.i 11) (.k (.i 101) (.k (.i 1009) (.k (.i 10007) (.k (.i 100003) .e)))))) (.v 3)))) (.k (.asg (.n 5) (.bin .mod (.bin .mul (.v 5) (.bin .add (.i 48271) (.bin .mul (.i 2) (.v 3)))) (.v 4))) (.k (.asg (.n 6) (.bin .mod (.bin .mul (.v 5) (.v 5)) (.v 4))) (.k (.asg (.n 7) (.bin .mod (.bin .mul (.bin .mod (.bin .mul (.v 6) (.v 6)) (.v 4)) (.v 5)) (.v 4))) (.k (.asg (.n 2) (.bin .add (.bin .mul (.v 2) (.v 4)) (.v 7))) .e)))))) (.k (.ret (.v 2)) .e))))⟩
noncomputable def yaq:Fn:=⟨1,4,AB,(.k (.asg (.t [1,2]) (.tup (.k (.idx (.v 0) (.i 0)) (.k (.idx (.v 0) (.i 1)) .e)))) (.k (.asg (.n 3) (.bin .add (.bin .mul (.i 31) (.v 2)) (.i 7))) (.k (.ite (.cmp .gt (.blt .len (.k (.v 1) .e)) (.i 0)) (.k (.asg (.n 3) (.bin .mul (.i 104729) (.bin .fdiv (.v 2) (.blt .len (.k (.v 1) .e))))) (.k (.asg (.n 3) (.bin .add (.v 3) (.idx (.v 1) (.bin .mod (.v 2) (.blt .len (.k (.v 1) .e)))))) .e)) .e) (.k (.six (.v 0) (.i 1) (.bin .add (.v 2) (.i 1))) (.k (.six (.v 0) (.i 3) (.or (.cmp .ge (.v 2) (.blt .len (.k (.v 1) .e))) (.cmp .lt (.v 3) (.bin .pow (.i 10) (.i 18))))) (.k (.ite (.idx (.v 0) (.i 3)) (.k (.six (.v 0) (.i 2) (.call 93 (.k (.v 3) .e))) .e) (.k (.six (.v 0) (.i 2) (.bin .sub (.v 3) (.bin .pow (.i 10) (.i 18)))) .e)) .e))))))⟩
noncomputable def yal:Fn:=⟨2,4,AB,(.k (.asg (.n 2) (.i 0)) (.k (.while (.and (.cmp .lt (.v 2) (.i 64)) (.or (.cmp .eq (.idx (.v 0) (.i 2)) (.i 0)) (.and (.idx (.v 0) (.i 3)) (.cmp .lt (.idx (.v 0) (.i 2)) (.bin .mul (.v 1) (.i 4096)))))) (.k (.expr (.call 94 (.k (.v 0) .e))) (.k (.aug 2 .add (.i 1)) (.k (.ite (.and (.idx (.v 0) (.i 3)) (.cmp .lt (.idx (.v 0) (.i 2)) (.bin .mul (.v 1) (.i 4096)))) (.k (.six (.v 0) (.i 2) (.bin .add (.idx (.v 0) (.i 2)) (.bin .mul (.bin .mul (.v 1) (.i 4096)) (.bin .add (.i 1) (.bin .mod (.idx (.v 0) (.i 2)) (.i 4093)))))) .e) .e) .e)))) (.k (.asg (.n 3) (.bin .mod (.idx (.v 0) (.i 2)) (.v 1))) (.k (.six (.v 0) (.i 2) (.bin .fdiv (.idx (.v 0) (.i 2)) (.v 1))) (.k (.ret (.v 3)) .e)))))⟩
noncomputable def yaf:Fn:=⟨3,13,AB,(.k (.asg (.n 3) (.call 95 (.k (.v 0) (.k (.i 12) .e)))) (.k (.asg (.n 4) (.i 1)) (.k (.for (.n 5) (.range1 (.bin .mul (.v 1) (.v 2))) (.k (.asg (.n 4) (.bin .mul (.i 2) (.v 4))) .e)) (.k (.asg (.n 6) (.tup (.k (.i 0) (.k (.i 1) (.k (.bin .sub (.v 4) (.i 1)) (.k (.bin .fdiv (.v 4) (.i 2)) (.k (.bin .sub (.bin .fdiv (.v 4) (.i 2)) (.i 1)) (.k (.bin .sub (.v 4) (.i 2)) .e)))))))) (.k (.ite (.cmp .lt (.v 3) (.i 6)) (.k (.ret (.idx (.v 6) (.v 3))) .e) .e) (.k (.asg (.n 7) (.call 95 (.k (.v 0) (.k (.v 4) .e)))) (.k (.ite (.cmp .eq (.v 3) (.i 6)) (.k (.asg (.n 8) (.i 1)) (.k (.for (.n 5) (.range1 (.call 95 (.k (.v 0) (.k (.bin .mul (.v 1) (.v 2)) .e)))) (.k (.asg (.n 8) (.bin .mul (.i 2) (.v 8))) .e)) (.k (.ret (.bin .mul (.bin .fdiv (.v 7) (.v 8)) (.v 8))) .e))) .e) (.k (.ite (.cmp .eq (.v 3) (.i 7)) (.k (.asg (.n 8) (.i 1)) (.k (.for (.n 5) (.range1 (.call 95 (.k (.v 0) (.k (.bin .mul (.v 1) (.v 2)) .e)))) (.k (.asg (.n 8) (.bin .mul (.i 2) (.v 8))) .e)) (.k (.ret (.bin .sub (.v 4) (.v 8))) .e))) .e) (.k (.ite (.cmp .gt (.v 3) (.i 9)) (.k (.ret (.v 7)) .e) .e) (.k (.asg (.n 9) (.i 1)) (.k (.for (.n 5) (.range1 (.v 1)) (.k (.asg (.n 9) (.bin .mul (.i 2) (.v 9))) .e)) (.k (.asg (.n 10) (.i 0)) (.k (.for (.n 5) (.range1 (.v 2)) (.k (.asg (.n 11) (.bin .mod (.bin .fdiv (.v 7) (.bin .add (.v 5) (.i 1))) (.v 9))) (.k (.asg (.n 12) (.tup (.k (.i 0) (.k (.i 1) (.k (.bin .sub (.v 9) (.i 1)) (.k (.bin .fdiv (.v 9) (.i 2)) (.k (.v 11) .e))))))) (.k (.asg (.n 10) (.bin .add (.bin .mul (.v 10) (.v 9)) (.idx (.v 12) (.call 95 (.k (.v 0) (.k (.i 5) .e)))))) .e)))) (.k (.ret (.v 10)) .e))))))))))))))⟩
noncomputable def zbP:Fn:=⟨1,3,AC,(.k (.asg (.n 1) (.i 1)) (.k (.for (.n 2) (.range1 (.v 0)) (.k (.asg (.n 1) (.bin .mul (.i 2) (.v 1))) .e)) (.k (.ret (.v 1)) .e)))⟩
noncomputable def zcB:Fn:=⟨3,6,AC,(.k (.asg (.n 3) (.call 97 (.k (.v 1) .e))) (.k (.asg (.n 4) (.newl .e)) (.k (.for (.n 5) (.range1 (.v 2)) (.k (.expr (.mth .append (.v 4) (.k (.bin .mod (.v 0) (.v 3)) .e))) (.k (.asg (.n 0) (.bin .fdiv (.v 0) (.v 3))) .e))) (.k (.ret (.blt .tuple (.k (.v 4) .e))) .e))))⟩
noncomputable def zcG:Fn:=⟨1,1,AC,(.k (.ret (.and (.isi (.v 0) [.int]) (.not (.isi (.v 0) [.bool])))) .e)⟩
noncomputable def zb3:Fn:=⟨3,3,AC,(.k (.ite (.or (.not (.isi (.v 0) [.tuple])) (.cmp .ne (.blt .len (.k (.v 0) .e)) (.v 1))) (.k .nope .e) .e) (.k (.ret (.blt .all (.k (.comp [AD,AA 2] (.n 0) (.seq (.v 0)) (.cst (.bl AC)) (.and (.call 99 (.k (.v 0) .e)) (.chain .le .le (.bin .sub (.i 0) (.v 1)) (.v 0) (.v 1)))) .e))) .e))⟩
noncomputable def zbJ:Fn:=⟨3,3,AC,(.k (.ite (.or (.not (.isi (.v 0) [.tuple])) (.or (.cmp .ne (.blt .len (.k (.v 0) .e)) (.v 2)) (.not (.blt .all (.k (.comp [AD] (.n 0) (.seq (.v 0)) (.cst (.bl AC)) (.call 99 (.k (.v 0) .e))) .e))))) (.k .nope .e) .e) (.k (.ret (.blt .all (.k (.comp [AD,AA 1] (.n 0) (.seq (.v 0)) (.cst (.bl AC)) (.chain .le .lt (.i 0) (.v 0) (.call 97 (.k (.v 1) .e)))) .e))) .e))⟩
noncomputable def yX:Fn:=⟨3,7,AB,(.k (.asg (.n 3) (.call 96 (.k (.v 0) (.k (.v 1) (.k (.v 2) .e))))) (.k (.asg (.n 4) (.call 96 (.k (.v 0) (.k (.v 1) (.k (.v 2) .e))))) (.k (.asg (.n 5) (.call 95 (.k (.v 0) (.k (.i 7) .e)))) (.k (.asg (.n 6) (.call 97 (.k (.call 95 (.k (.v 0) (.k (.bin .mul (.v 1) (.v 2)) .e))) .e))) (.k (.ite (.or (.cmp .eq (.v 5) (.i 0)) (.cmp .eq (.v 5) (.i 5))) (.k (.asg (.n 4) (.bin .fdiv (.v 4) (.v 6))) .e) .e) (.k (.ite (.cmp .eq (.v 5) (.i 1)) (.k (.asg (.n 4) (.bin .add (.i 1) (.call 95 (.k (.v 0) (.k (.i 9) .e))))) .e) .e) (.k (.ite (.cmp .eq (.v 5) (.i 2)) (.k (.asg (.n 4) (.v 6)) .e) .e) (.k (.ite (.and (.or (.cmp .eq (.v 5) (.i 4)) (.cmp .eq (.v 5) (.i 5))) (.cmp .gt (.v 4) (.i 0))) (.k (.asg (.n 3) (.blt .max (.k (.i 0) (.k (.blt .min (.k (.bin .sub (.call 97 (.k (.bin .mul (.v 1) (.v 2)) .e)) (.i 1)) (.k (.bin .sub (.bin .add (.bin .mul (.bin .fdiv (.v 3) (.v 4)) (.v 4)) (.call 95 (.k (.v 0) (.k (.i 3) .e)))) (.i 1)) .e))) .e)))) .e) .e) (.k (.ite (.cmp .eq (.v 5) (.i 6)) (.k (.asg (.n 4) (.v 3)) .e) .e) (.k (.ret (.tup (.k (.v 3) (.k (.v 4) .e)))) .e))))))))))⟩
noncomputable def zcE:Fn:=⟨5,6,AC,(.k (.asg (.n 5) (.call 89 (.k (.v 0) (.k (.v 1) (.k (.v 2) (.k (.v 3) (.k (.v 4) .e))))))) (.k (.ite (.or (.not (.isi (.v 5) [.tuple])) (.or (.cmp .ne (.blt .len (.k (.v 5) .e)) (.i 3)) (.not (.call 100 (.k (.idx (.v 5) (.i 2)) (.k (.i 4) (.k (.i 1) .e))))))) (.k .nope .e) .e) (.k (.ret (.v 5)) .e)))⟩
noncomputable def ya7:Fn:=⟨1,13,AC,(.k (.asg (.n 1) (.call 92 (.k (.v 0) .e))) (.k (.asg (.n 2) (.bin .add (.i 1) (.call 95 (.k (.v 1) (.k (.i 4) .e))))) (.k (.asg (.n 3) (.bin .add (.i 4) (.call 95 (.k (.v 1) (.k (.blt .min (.k (.i 13) (.k (.bin .sub (.bin .fdiv (.i 32) (.v 2)) (.i 3)) .e))) .e))))) (.k (.asg (.t [4,5]) (.call 102 (.k (.v 1) (.k (.v 3) (.k (.v 2) .e))))) (.k (.asg (.n 5) (.blt .max (.k (.i 1) (.k (.v 5) .e)))) (.k (.asg (.t [6,7,8]) (.call 103 (.k (.tup (.k (.s "quotient") .e)) (.k (.v 3) (.k (.v 2) (.k (.v 4) (.k (.v 5) .e))))))) (.k (.ite (.or (.not (.call 101 (.k (.v 6) (.k (.v 3) (.k (.v 2) .e))))) (.not (.call 101 (.k (.v 7) (.k (.v 3) (.k (.v 2) .e)))))) (.k .nope .e) .e) (.k (.asg (.n 9) (.idx (.call 103 (.k (.tup (.k (.s "product") .e)) (.k (.v 3) (.k (.v 2) (.k (.call 86 (.k (.v 6) (.k (.v 3) .e))) (.k (.v 5) .e)))))) (.i 0))) (.k (.ite (.or (.not (.call 101 (.k (.v 9) (.k (.v 3) (.k (.bin .mul (.i 2) (.v 2)) .e))))) (.cmp .ne (.slc (.v 9) (.v 2) (.cst .non)) (.rep (.tup (.k (.i 0) .e)) (.v 2)))) (.k .nope .e) .e) (.k (.asg (.t [10,11,8]) (.call 103 (.k (.tup (.k (.s "sum") .e)) (.k (.v 3) (.k (.v 2) (.k (.call 86 (.k (.slc (.v 9) (.cst .non) (.v 2)) (.k (.v 3) .e))) (.k (.call 86 (.k (.v 7) (.k (.v 3) .e))) .e))))))) (.k (.ite (.or (.cmp .ne (.v 10) (.call 98 (.k (.v 4) (.k (.v 3) (.k (.v 2) .e))))) (.cmp .ne (.idx (.v 8) (.i 0)) (.i 0))) (.k .nope .e) .e) (.k (.ite (.cmp .ne (.idx (.idx (.call 103 (.k (.tup (.k (.s "compare") .e)) (.k (.v 3) (.k (.v 2) (.k (.call 86 (.k (.v 7) (.k (.v 3) .e))) (.k (.v 5) .e)))))) (.i 2)) (.i 0)) (.i 1)) (.k .nope .e) .e) (.k (.asg (.n 12) (.call 95 (.k (.v 1) (.k (.v 5) .e)))) (.k (.ite (.cmp .ne (.slc (.call 103 (.k (.tup (.k (.s "quotient") .e)) (.k (.v 3) (.k (.v 2) (.k (.v 12) (.k (.v 5) .e)))))) (.cst .non) (.i 2)) (.tup (.k (.call 98 (.k (.i 0) (.k (.v 3) (.k (.v 2) .e)))) (.k (.call 98 (.k (.v 12) (.k (.v 3) (.k (.v 2) .e)))) .e)))) (.k .nope .e) .e) (.k (.ret (.cmp .eq (.slc (.call 103 (.k (.tup (.k (.s "quotient") .e)) (.k (.v 3) (.k (.v 2) (.k (.v 5) (.k (.v 5) .e)))))) (.cst .non) (.i 2)) (.tup (.k (.call 98 (.k (.i 1) (.k (.v 3) (.k (.v 2) .e)))) (.k (.call 98 (.k (.i 0) (.k (.v 3) (.k (.v 2) .e)))) .e))))) .e)))))))))))))))⟩
def Tl:List Fn:=[zkC,zdk,zkK,zgt,zgj,zkE,zbW,zbb,zc1,za7,zbN,zbu,zaI,zco,zbU,zaE,zcT,zfo,zct,zbv,zdZ,zbQ,zaw,zbB,zdI,zb9,zan,zaJ,zfh,zc5,zcC,zb8,yS,zbl,zZ,zbR,zby,zar,zb5,zbh,zeD,zcr,zd1,zU,yt,yu,zF,zJ,zB,zA,zaZ,zbs,zbj,zc3,ze9,zaC,zaS,zdh,zaB,zfb,zcV,zC,zam,za2,zgd,zbV,zd8,zee,zcM,zak,zbM,zcx,zcK,zb7,zcD,zN,zat,zaj,yK,zR,zh,zM,zS,za4,zal,zbd,zeb,zah,zaa,yct,yD,yav,zcI,yaB,yaq,yal,yaf,zbP,zcB,zcG,zb3,zbJ,yX,zcE,ya7]
def T(i:Nat):Option Fn:=Tl[i]?
noncomputable abbrev zaM:Nat:=22
noncomputable abbrev zbA:Nat:=23
noncomputable abbrev zbn:Nat:=30
noncomputable abbrev zci:Nat:=32
noncomputable abbrev zcg:Nat:=33
noncomputable abbrev zy:Nat:=34
noncomputable abbrev zeT:Nat:=35
noncomputable abbrev zbY:Nat:=37
noncomputable abbrev zd0:Nat:=39
noncomputable abbrev zao:Nat:=43
noncomputable abbrev zW:Nat:=44
noncomputable abbrev zr:Nat:=45
noncomputable abbrev zV:Nat:=46
noncomputable abbrev zaA:Nat:=47
noncomputable abbrev zQ:Nat:=48
noncomputable abbrev zO:Nat:=49
noncomputable abbrev zP:Nat:=50
noncomputable abbrev zdY:Nat:=51
noncomputable abbrev zdR:Nat:=52
noncomputable abbrev zaW:Nat:=55
noncomputable abbrev zbm:Nat:=56
noncomputable abbrev za1:Nat:=57
noncomputable abbrev zaT:Nat:=58
noncomputable abbrev zcW:Nat:=59
noncomputable abbrev zw:Nat:=60
noncomputable abbrev zD:Nat:=61
noncomputable abbrev za0:Nat:=62
noncomputable abbrev zhW:Nat:=64
noncomputable abbrev zdg:Nat:=65
noncomputable abbrev zfB:Nat:=66
noncomputable abbrev zfC:Nat:=67
noncomputable abbrev zen:Nat:=68
noncomputable abbrev zba:Nat:=69
noncomputable abbrev zcR:Nat:=70
noncomputable abbrev zed:Nat:=71
noncomputable abbrev zev:Nat:=72
noncomputable abbrev zdu:Nat:=73
noncomputable abbrev zeq:Nat:=74
noncomputable abbrev z7:Nat:=75
noncomputable abbrev zb4:Nat:=76
noncomputable abbrev zY:Nat:=77
noncomputable abbrev zaQ:Nat:=78
noncomputable abbrev zu:Nat:=79
noncomputable abbrev zm:Nat:=80
noncomputable abbrev zaD:Nat:=81
noncomputable abbrev zaf:Nat:=82
noncomputable abbrev za9:Nat:=83
noncomputable abbrev z5:Nat:=84
noncomputable abbrev zbg:Nat:=85
noncomputable abbrev zel:Nat:=86
noncomputable abbrev zX:Nat:=87
noncomputable abbrev zbZ:Nat:=88
noncomputable abbrev zoF:Nat:=89
noncomputable abbrev zaG:Nat:=90
noncomputable abbrev zay:Nat:=91
noncomputable abbrev zem:Nat:=92
noncomputable abbrev zd4:Nat:=93
noncomputable abbrev zhB:Nat:=94
noncomputable abbrev zcn:Nat:=95
noncomputable abbrev zf8:Nat:=96
noncomputable abbrev zcS:Nat:=97
noncomputable abbrev zcL:Nat:=98
noncomputable abbrev zbr:Nat:=99
noncomputable abbrev zcN:Nat:=100
noncomputable abbrev zbX:Nat:=101
noncomputable abbrev zhn:Nat:=102
noncomputable abbrev zbp:Nat:=103
noncomputable abbrev zjY:Nat:=104
end IC
namespace WK
open PySem L2 IC
noncomputable def top(i:Nat):Stmt:=Di.main.body.getD i (.Pass ⟨0,0,0,0⟩)
def tbQ:Tb where
 tbl:=[⟨"word","word","word",top 15,["letter","c","i","j","m"],["letter","c","i","j","m"],zkC,.fd [0,0,0,0]⟩,⟨"last_word","last_word","last_word",top 16,["letter"],["letter"],zdk,.fn⟩,⟨"rows","rows","rows",top 17,["told"],["told"],zkK,.fn⟩,⟨"rounds","rounds","rounds",top 18,["count","sentence","inner"],["count","sentence","inner"],zgt,.fn⟩,⟨"lowest","lowest","lowest",top 19,["letter","c","i","j","m"],["letter","c","i","j","m"],zgj,.fd [0,0,0,0]⟩,⟨"term","term","term",top 20,["f","things","i","p","q","r"],["f","things","i","p","q","r"],zkE,.fd [0,0,0,0]⟩,⟨"moved_parts","moved","moved",top 21,["to","source","c","sentence"],["to","source","c"],zbW,.fd [0]⟩,⟨"doubled_parts","doubled","doubled",top 23,["letter","count"],["letter","count"],zbb,.fn⟩,⟨"kept_mark","kept_mark","kept_mark",top 25,["to"],["to"],zc1,.fn⟩,⟨"kept_contrary","kept_contrary","kept_contrary",top 26,["to"],["to"],za7,.fn⟩,⟨"asked_words","asked_words","asked_words",top 29,["letter","m","count","gathered"],["letter","m","count"],zbN,.fn⟩,⟨"answer_marks","answer_marks","answer_marks",top 30,["c","m","sign"],["c","m"],zbu,.fn⟩,⟨"product_telling","product_telling","product_telling",top 43,["unfit"],[],zaI,.fn⟩,⟨"multiplied","multiplied","multiplied",top 44,["sentence","begun","ended"],[],zco,.fn⟩,⟨"by_one_word","by_one_word","by_one_word",top 45,["here","this_word","sentence"],[],zbU,.fn⟩,⟨"quotient_telling","quotient_telling","quotient_telling",top 49,[],[],zaE,.fn⟩,⟨"by_nought","by_nought","by_nought",top 50,[],[],zcT,.fn⟩,⟨"divided","divided","divided",top 51,["x","y","answer","rest","sentence","one_place"],["x","y","answer","rest"],zfo,.fn⟩,⟨"next_place","next_place","next_place",top 52,["rest"],["rest"],zct,.fn⟩,⟨"less_divisor","less_divisor","less_divisor",top 53,["rest","y","taken","top"],["rest","y"],zbv,.fn⟩,⟨"put_back","put_back","put_back",top 54,["rest","y","added","top","begun"],["rest","y"],zdZ,.fn⟩,⟨"next_figure","next_figure","next_figure",top 55,["answer"],["answer"],zbQ,.fn⟩,⟨"is_whole","is_whole","is_whole",top 58,["thing","low","high"],["thing","low","high"],zaw,.fn⟩,⟨"is_letter","is_letter","is_letter",top 59,["thing"],["thing"],zbB,.fn⟩,⟨"are_told","are_told","are_told",top 60,["thing","many"],["thing","many"],zdI,.fn⟩,⟨"sum_telling","sum_telling","sum_telling",top 91,["added","sentence","lone"],[],zb9,.fn⟩,⟨"difference_telling","difference_telling","difference_telling",top 92,["taken","sentence","lone"],[],zan,.fn⟩,⟨"compare_telling","compare_telling","compare_telling",top 94,["below"],[],zaJ,.fn⟩,⟨"carried","carried","carried",top 97,["row","sentence"],["row","sentence"],zfh,.fn⟩,⟨"lone_sign","lone_sign","lone_sign",top 98,["lone","one","other"],["lone","one","other"],zc5,.fn⟩,⟨"is_row","is_row","is_row",top 101,["thing"],["thing"],zcC,.fn⟩,⟨"is_told_row","is_told_row","is_told_row",top 102,["thing"],["thing"],zb8,.fn⟩,⟨"has_form","has_form","has_form",top 103,["thing","told","kind","operand"],["thing","told"],yS,.fn⟩,⟨"is_named","is_named","is_named",top 104,["thing"],["thing"],zbl,.fn⟩,⟨"is_operand","is_operand","is_operand",top 105,["kind","thing","told"],["kind","thing","told"],zZ,.fn⟩,⟨"is_cell","is_cell","is_cell",top 106,["thing"],["thing"],zbR,.fn⟩,⟨"is_told_cell","is_told_cell","is_told_cell",top 107,["thing"],["thing"],zby,.fn⟩,⟨"is_lettered","is_lettered","is_lettered",top 108,["thing"],["thing"],zar,.fn⟩,⟨"is_sentence","is_sentence","is_sentence",top 113,["thing"],["thing"],zb5,.fn⟩,⟨"place_of","place_of","place_of",top 114,["told","n","i","j"],["told","n","i","j"],zbh,.fn⟩,⟨"is_term","is_term","is_term",top 115,["thing","f","exponent","things"],["thing"],zeD,.fn⟩,⟨"are_things","are_things","are_things",top 116,["thing"],["thing"],zcr,.fn⟩,⟨"is_thing","is_thing","is_thing",top 117,["thing"],["thing"],zd1,.fn⟩,⟨"","__init__","Unrolling.__init__",inClass (top 122) 0,["self","w","n"],["self","w","n"],zU,.ini 20⟩,⟨"","go_parts","Unrolling.go_parts",inClass (top 122) 1,["self","parts","gone","part"],["self","parts","gone"],yt,.me 20⟩,⟨"","go_rounds","Unrolling.go_rounds",inClass (top 122) 2,["self","part","gone","count","at"],["self","part","gone"],yu,.me 20⟩,⟨"","count_of","Unrolling.count_of",inClass (top 122) 3,["self","told","c","m","t"],["self","told"],zF,.me 20⟩,⟨"","add_row","Unrolling.add_row",inClass (top 122) 4,["self","told","gone","i","j","row"],["self","told","gone"],zJ,.me 20⟩,⟨"","add_round","Unrolling.add_round",inClass (top 122) 5,["self"],["self"],zB,.me 20⟩,⟨"","add_asked","Unrolling.add_asked",inClass (top 122) 6,["self","sentence","gone","i","j"],["self","sentence","gone"],zA,.me 20⟩,⟨"is_telling","is_telling","is_telling",top 123,["thing"],["thing"],zaZ,.fn⟩,⟨"unrolled","unrolled","unrolled",top 124,["telling","w","n"],["telling","w","n"],zbs,.fn⟩,⟨"steps_of","steps_of","steps_of",top 125,["telling","w","n","unrolling"],["telling","w","n"],zbj,.fn⟩,⟨"are_parts","are_parts","are_parts",top 126,["thing","nests"],["thing","nests"],zc3,.fn⟩,⟨"is_part","is_part","is_part",top 127,["thing","nests"],["thing","nests"],ze9,.fn⟩,⟨"both_gone","both_gone","both_gone",top 128,["gone"],["gone"],zaC,.fn⟩,⟨"placed","placed","placed",top 129,["thing","n","i","j"],["thing","n","i","j"],zaS,.fn⟩,⟨"telling","telling","telling",top 138,["deed"],["deed"],zdh,.fn⟩,⟨"deed_rows","deed_rows","deed_rows",top 139,["deed","w","n"],["deed","w","n"],zaB,.fn⟩,⟨"is_deed","is_deed","is_deed",top 140,["thing"],["thing"],zfb,.fn⟩,⟨"is_paired","is_paired","is_paired",top 141,["deed"],["deed"],zcV,.fn⟩,⟨"answer_words","answer_words","answer_words",top 142,["deed","n"],["deed","n"],zC,.fn⟩,⟨"rest_words","rest_words","rest_words",top 143,["deed","n"],["deed","n"],zam,.fn⟩,⟨"named_telling","named_telling","named_telling",top 145,["name"],["name"],za2,.fn⟩,⟨"made","made","made",top 147,["name","w","x","y","k","make"],["name","w","x","y","k"],zgd,.fn⟩,⟨"highest","highest","highest",top 148,["w"],["w"],zbV,.fn⟩,⟨"moved","moved","moved",top 149,["w","x","y","k"],["w","x","y","k"],zd8,.fn⟩,⟨"bared","bared","bared",top 151,["w","x","y","k"],["w","x","y","k"],zee,.fn⟩,⟨"summed","summed","summed",top 152,["w","x","y","k","total"],["w","x","y","k"],zcM,.fn⟩,⟨"taken_away","taken_away","taken_away",top 153,["w","x","y","k","total"],["w","x","y","k"],zak,.fn⟩,⟨"in_both","in_both","in_both",top 154,["w","x","y","k"],["w","x","y","k"],zbM,.fn⟩,⟨"in_any","in_any","in_any",top 155,["w","x","y","k"],["w","x","y","k"],zcx,.fn⟩,⟨"in_one","in_one","in_one",top 156,["w","x","y","k"],["w","x","y","k"],zcK,.fn⟩,⟨"doubled","doubled","doubled",top 157,["w","x","y","k"],["w","x","y","k"],zb7,.fn⟩,⟨"halved","halved","halved",top 159,["w","x","y","k"],["w","x","y","k"],zcD,.fn⟩,⟨"","__init__","Machine.__init__",inClass (top 163) 0,["self","w"],["self","w"],zN,.ini 21⟩,⟨"","put","Machine.put",inClass (top 163) 1,["self","letter","at","word","cell"],["self","letter","at","word"],zat,.me 21⟩,⟨"","word","Machine.word",inClass (top 163) 2,["self","letter","at"],["self","letter","at"],zaj,.me 21⟩,⟨"","run","Machine.run",inClass (top 163) 5,["self","rows","row"],["self","rows"],yK,.me 21⟩,⟨"","held_in","Machine.held_in",inClass (top 163) 6,["self","cell"],["self","cell"],zR,.me 21⟩,⟨"","go_row","Machine.go_row",inClass (top 163) 7,["self","row"],["self","row"],zh,.me 21⟩,⟨"","go_times","Machine.go_times",inClass (top 163) 8,["self","row","product"],["self","row"],zM,.me 21⟩,⟨"","go_made","Machine.go_made",inClass (top 163) 9,["self","row","x","y","word","mark"],["self","row"],zS,.me 21⟩,⟨"known_cell","known_cell","known_cell",top 164,["letter","at"],["letter","at"],za4,.fn⟩,⟨"refuse_row","refuse_row","refuse_row",top 165,["thing"],["thing"],zal,.fn⟩,⟨"words_of","words_of","words_of",top 167,["worth","w","n"],["worth","w","n"],zbd,.fn⟩,⟨"plain","plain","plain",top 168,["number","w"],["number","w"],zeb,.fn⟩,⟨"lowest_words","lowest_words","lowest_words",top 169,["worth","w","n","highest"],["worth","w","n"],zah,.fn⟩,⟨"refuse_deed","refuse_deed","refuse_deed",top 171,["deed","w","n","x","y"],["deed","w","n","x","y"],zaa,.fn⟩,⟨"ran","ran","ran",top 174,["deed","w","n","x","y","machine","answer"],["deed","w","n","x","y"],yct,.fn⟩,⟨"machine_with","machine_with","machine_with",top 175,["w","n","x","y","machine","letter","worth","at","word"],["w","n","x","y"],yD,.fn⟩,⟨"number_in","number_in","number_in",top 176,["machine","letter","many"],["machine","letter","many"],yav,.fn⟩,⟨"_law_fresh","_law_fresh","_law_fresh",top 178,["_law_script"],["_law_script"],zcI,.fn⟩,⟨"_law_mixed","_law_mixed","_law_mixed",top 179,["_law_seed","_law_primes","_law_number_here","_law_k","_law_prime","_law_far","_law_square","_law_power"],["_law_seed"],yaB,.fn⟩,⟨"_law_fill","_law_fill","_law_fill",top 180,["_law_state","_law_cells","_law_at","_law_seed"],["_law_state"],yaq,.fn⟩,⟨"_law_take","_law_take","_law_take",top 181,["_law_state","_law_many","_law_turns","_law_digit"],["_law_state","_law_many"],yal,.fn⟩,⟨"_law_worth","_law_worth","_law_worth",top 182,["_law_state","_law_w","_law_n","_law_way","_law_top","_law_k","_law_edges","_law_any_one","_law_low","_law_wide","_law_worth_here","_law_some","_law_words_here"],["_law_state","_law_w","_law_n"],yaf,.fn⟩,⟨"_law_two_to","_law_two_to","_law_two_to",top 183,["_law_many","_law_found","_law_k"],["_law_many"],zbP,.fn⟩,⟨"_law_words","_law_words","_law_words",top 184,["_law_worth_here","_law_w","_law_n","_law_wide","_law_words_here","_law_k"],["_law_worth_here","_law_w","_law_n"],zcB,.fn⟩,⟨"_law_whole","_law_whole","_law_whole",top 185,["_law_thing"],["_law_thing"],zcG,.fn⟩,⟨"_law_wholes","_law_wholes","_law_wholes",top 186,["_law_thing","_law_many","_law_most"],["_law_thing","_law_many","_law_most"],zb3,.fn⟩,⟨"_law_number","_law_number","_law_number",top 187,["_law_thing","_law_w","_law_n"],["_law_thing","_law_w","_law_n"],zbJ,.fn⟩,⟨"_law_two","_law_two","_law_two",top 188,["_law_state","_law_w","_law_n","_law_x","_law_y","_law_way","_law_low"],["_law_state","_law_w","_law_n"],yX,.fn⟩,⟨"_law_parts","_law_parts","_law_parts",top 189,["_law_deed","_law_w","_law_n","_law_x","_law_y","_law_found"],["_law_deed","_law_w","_law_n","_law_x","_law_y"],zcE,.fn⟩,⟨"law","law","law",top 190,["_law_script","_law_state","_law_n","_law_w","_law_x","_law_y","_law_answer","_law_rest","_law_marks","_law_back","_law_whole_here","_law_none","_law_less"],["_law_script"],ya7,.fn⟩]
 al:=[eD "word" 0,eF "last_word" 1,eF "rows" 2,eF "rounds" 3,eD "lowest" 4,eD "term" 5,eD "moved_parts" 6,eF "doubled_parts" 7,eF "kept_mark" 8,eF "kept_contrary" 9,eF "asked_words" 10,eF "answer_marks" 11,eF "product_telling" 12,eF "multiplied" 13,eF "by_one_word" 14,eF "quotient_telling" 15,eF "by_nought" 16,eF "divided" 17,eF "next_place" 18,eF "less_divisor" 19,eF "put_back" 20,eF "next_figure" 21,eF "is_whole" 22,eF "is_letter" 23,eF "are_told" 24,eF "sum_telling" 25,eF "difference_telling" 26,eF "compare_telling" 27,eF "carried" 28,eF "lone_sign" 29,eF "is_row" 30,eF "is_told_row" 31,eF "has_form" 32,eF "is_named" 33,eF "is_operand" 34,eF "is_cell" 35,eF "is_told_cell" 36,eF "is_lettered" 37,eF "is_sentence" 38,eF "place_of" 39,eF "is_term" 40,eF "are_things" 41,eF "is_thing" 42,eF "is_telling" 50,eF "unrolled" 51,eF "steps_of" 52,eF "are_parts" 53,eF "is_part" 54,eF "both_gone" 55,eF "placed" 56,eF "telling" 57,eF "deed_rows" 58,eF "is_deed" 59,eF "is_paired" 60,eF "answer_words" 61,eF "rest_words" 62,eF "named_telling" 63,eF "made" 64,eF "highest" 65,eF "moved" 66,eF "bared" 67,eF "summed" 68,eF "taken_away" 69,eF "in_both" 70,eF "in_any" 71,eF "in_one" 72,eF "doubled" 73,eF "halved" 74,eF "known_cell" 83,eF "refuse_row" 84,eF "words_of" 85,eF "plain" 86,eF "lowest_words" 87,eF "refuse_deed" 88,eF "ran" 89,eF "machine_with" 90,eF "number_in" 91,eF "_law_fresh" 92,eF "_law_mixed" 93,eF "_law_fill" 94,eF "_law_take" 95,eF "_law_worth" 96,eF "_law_two_to" 97,eF "_law_words" 98,eF "_law_whole" 99,eF "_law_wholes" 100,eF "_law_number" 101,eF "_law_two" 102,eF "_law_parts" 103,eF "law" 104,eF "doubled_made" 73,eF "halved_made" 74,eF "moved_made" 66,eC "BACK" zdT,eC "EACH_PLACE" zcu,eC "EACH_WORD" zE,eC "FACTOR_LIMIT" (.int (10000000000000000000000000000000000000000)),eC "HIGH" zeF,eC "LONE" zk4,eC "LOW" zhc,eC "MARKS_parts" zq,eC "MARKS_runs" (.int (4)),eC "MOST_NESTS" (.int (2)),eC "MOST_ROUNDS" (.int (4000)),eC "MOST_ROWS" (.int (4000)),eC "MOST_TERMS" (.int (20)),eC "MOST_THINGS" (.int (2)),eC "MOST_TOLD" (.int (200)),eC "NIL" zdA,eC "OVER" ze6,eC "PAIRED" zd3,eC "PAIRWISE" zdW,eC "PRODUCTS" zcf,eC "QUOTIENTS" zad,eC "SEEN" zdx,eC "SHIFTS" zep,eC "SPARE" zaR,eG "ROWS" (.dct zac),eG "Machine" (.cls 21 75),eG "Unrolling" (.cls 20 43)]
 bs:=["all","bool","enumerate","int","isinstance","len","max","min","range","str","sum","tuple","zip"]
 ts:=[.bool,.int,.str,.tuple]
 fl:=[eN 20 "n",eN 20 "rounds",eN 20 "rows",eN 20 "steps",eN 20 "w",eN 21 "marked",eN 21 "w",eN 21 "words"]
 me:=[eM 20 "go_parts" 44,eM 20 "go_rounds" 45,eM 20 "count_of" 46,eM 20 "add_row" 47,eM 20 "add_round" 48,eM 20 "add_asked" 49,eM 21 "put" 76,eM 21 "word" 77,eM 21 "run" 78,eM 21 "held_in" 79,eM 21 "go_row" 80,eM 21 "go_times" 81,eM 21 "go_made" 82]
 kb:=[eK 0 1 ["i"] [AA 0,AD,AA 0,AA 0],eK 0 1 ["i","j"] [AA 0,AD,AD,AA 0],eK 0 1 ["i","m"] [AA 0,AD,AA 0,AD],eK 0 1 ["j"] [AA 0,AA 0,AD,AA 0],eK 0 1 ["m"] [AA 0,AA 0,AA 0,AD],eK 0 2 ["m"] [AA 0,AA 0,AD],eK 4 1 ["i"] [AA 0,AD,AA 0,AA 0],eK 4 1 ["i","m"] [AA 0,AD,AA 0,AD],eK 4 1 ["j"] [AA 0,AA 0,AD,AA 0],eK 4 1 ["m"] [AA 0,AA 0,AA 0,AD],eK 4 2 [] [AA 0,AA 0,AA 0],eK 4 2 ["m"] [AA 0,AA 0,AD],eK 5 2 [] [AA 0,AA 0,AA 0,AA 0],eK 5 2 ["i"] [AD,AA 0,AA 0,AA 0],eK 5 2 ["p"] [AA 0,AD,AA 0,AA 0],eK 5 2 ["p","q"] [AA 0,AD,AD,AA 0],eK 5 2 ["r"] [AA 0,AA 0,AA 0,AD],eK 6 2 [] [AA 0]]
 cn:=[eN 21 "Machine",eN 20 "Unrolling"]
 dd:=[eB "ROWS" zac]
 ml:=[eL "MAKERS" zT]
theorem ok_all:tbQ.tbl.all (okT tbQ)=true:=by decide +kernel
theorem T_ok:∀i d,tbQ.tbl[i]?=AA d->T i=AA d.fn:=λi d h=>by
 have e:Tl=tbQ.tbl.map (·.fn):=rfl;rw[T,e,CA,h];rfl
theorem kb_all:ybZ (KbP tbQ) tbQ.kb:=by
 repeat' (first|exact trivial|(refine⟨kbP rfl rfl rfl rfl rfl (by decide) ?_,?_⟩;((repeat intro _);exact⟨_,rfl,rfl⟩)))
theorem cn_20:cnm tbQ 20="Unrolling":=rfl
theorem cn_21:cnm tbQ 21="Machine":=rfl
end WK
namespace IC
open PySem
def ybb(call:Cl)(t:Tg)(b:Css)(xs:List PV)(ρ:Env)(st:SO):Fl:=forL t (λρ2 st2=>exs call ρ2 st2 b) xs ρ st
def ya2(call:Cl)(c:Ce)(b:Css)(n:Nat)(ρ:Env)(st:SO):Fl:=yaw (λρ2 st2=>ev call ρ2 st2 c) (λρ2 st2=>exs call ρ2 st2 b) n ρ st
def ybl(call:Cl)(ρ0:Env)(t:Tg)(c e:Ce)(x:PV)(st2:SO):R (Option PV):=match yR t x ρ0 with
 |none=>.bad
 |some ρ1=>(ev call ρ1 st2 c).bind λb st3=>onO (yaT st3 b) λk=>cond k ((ev call ρ1 st3 e).bind λy st4=>.ok (AA y) st4) (.ok AD st3)
def yar(call:Cl)(ρ0:Env)(t:Tg)(c e:Ce)(xs:List PV)(st:SO):R (List PV):=ya3 (ybl call ρ0 t c e) xs st
noncomputable def yaK(f:Fl)(k:Env->SO->Fl):Fl:=
 match f with
 |.nx ρ st=>k ρ st
 |f=>f
noncomputable def nxO(o:Option Env)(st:SO):Fl:=
 match o with
 |some ρ=>.nx ρ st
 |none=>.bad
noncomputable def stO(ρ:Env)(o:Option SO):Fl:=
 match o with
 |some st=>.nx ρ st
 |none=>.bad
section
variable {call:Cl}{ρ:Env}{st:SO}
theorem x_for{t:Tg}{it:Cit}{b:Css}:ex call ρ st (.for t it b)=(evi call ρ st it).fl ρ λxs st1=>ybb call t b xs ρ st1:=rfl
theorem zlq{c:Ce}{b:Css}:ex call ρ st (.while c b)=ya2 call c b 100000 ρ st:=rfl
theorem v_comp{sl:List (Option Nat)}{t:Tg}{it:Cit}{c e:Ce}:ev call ρ st (.comp sl t it c e)=(evi call ρ st it).bind λxs st1=>ycf (yar call (sl.map λo=>o.bind λj=>(ρ[j]?).join) t c e xs st1):=rfl
theorem zL{t:Tg}{b:Css}:ybb call t b [] ρ st=.nx ρ st:=rfl
theorem zG{t:Tg}{b:Css}{x:PV}{xs:List PV}{ρ1:Env}(h:yR t x ρ=AA ρ1):ybb call t b (x::xs) ρ st=yaG (exs call ρ1 st b) λρ2 st2=>ybb call t b xs ρ2 st2:=by
 rw[ybb,forL,h];rfl
theorem zef{t:Tg}{b:Css}(P:Nat->Env->SO->Prop):∀(xs:List PV) (i:Nat) (ρ:Env) (st:SO),P i ρ st ->
  (∀(j:Nat) (x:PV) (ρ:Env) (st:SO),xs[j]?=AA x->P (i+j) ρ st->∃ρ1 ρ2 st2,yR t x ρ=AA ρ1/\exs call ρ1 st b=.nx ρ2 st2/\P (i+j+1) ρ2 st2) ->
  ∃ρ' st',ybb call t b xs ρ st=.nx ρ' st'/\P (i+xs.length) ρ' st'
 |[],i,ρ,st,h,_=>⟨ρ,st,zL,h⟩
 |x::xs,i,ρ,st,h,k=>by
  let⟨ρ1,ρ2,st2,e1,e2,h2⟩:=k 0 x ρ st rfl h;let⟨ρ',st',e3,h3⟩:=zef P xs (i+1) ρ2 st2 h2 λj y ρ st hy hp=>by
   have:=k (j+1) y ρ st (by simpa using hy) (by rw[show i+(j+1)=i+1+j by lia];exact hp);rw[show i+(j+1)+1=i+1+j+1 by lia]at this;exact this
  refine⟨ρ',st',?_,by rw[AZ,show i+(xs.length+1)=i+1+xs.length by lia];exact h3⟩;rw[zG e1,e2];exact e3
theorem zic{c:Ce}{b:Css}{n:Nat}{x:PV}{st1 st2:SO}{ρ2:Env}(h:ev call ρ st c=.ok x st1)(ht:yaT st1 x=AA AC)(hb:exs call ρ st1 b=.nx ρ2 st2):ya2 call c b (n+1) ρ st=ya2 call c b n ρ2 st2:=by
 rw[ya2,yaw,h];erw[R.fl,ht,onF,cond_true,hb,yaG];rfl
theorem zft{c:Ce}{b:Css}{n:Nat}{x:PV}{st1:SO}(h:ev call ρ st c=.ok x st1)(ht:yaT st1 x=AA AB):ya2 call c b (n+1) ρ st=.nx ρ st1:=by
 rw[ya2,yaw,h];erw[R.fl,ht,onF,cond_false]
theorem zb2{ρ0:Env}{t:Tg}{c e:Ce}:yar call ρ0 t c e [] st=.ok [] st:=rfl
theorem zax{ρ0:Env}{t:Tg}{c e:Ce}{x:PV}{xs:List PV}:yar call ρ0 t c e (x::xs) st=(ybl call ρ0 t c e x st).bind λo st1=>(yar call ρ0 t c e xs st1).bind λys st2=>.ok (yb7 o ys) st2:=rfl
theorem zaN{ρ0:Env}{t:Tg}{c e:Ce}{f:PV->PV}:∀(xs:List PV),(∀x∈xs,ybl call ρ0 t c e x st=.ok (AA (f x)) st)->yar call ρ0 t c e xs st=.ok (xs.map f) st
 |[],_=>zb2
 |x::xs,h=>by
  rw[zax,h x An];erw[R.bind];rw[zaN xs λy hy=>h y (AR _ hy)];rfl
theorem xs_nil:exs call ρ st .nil=.nx ρ st:=rfl
theorem xs_cons{s:Cs}{ss:Css}:exs call ρ st (.cons s ss)=yaK (ex call ρ st s) λρ1 st1=>exs call ρ1 st1 ss:=rfl
theorem x_asg{t:Tg}{e:Ce}:ex call ρ st (.asg t e)=(ev call ρ st e).fl ρ λv st1=>nxO (yR t v ρ) st1:=rfl
theorem x_expr{e:Ce}:ex call ρ st (.expr e)=(ev call ρ st e).fl ρ λ_ st1=>.nx ρ st1:=rfl
theorem x_ret{e:Ce}:ex call ρ st (.ret e)=(ev call ρ st e).fl ρ λv st1=>.rt v st1:=rfl
theorem x_ite{c:Ce}{a b:Css}:ex call ρ st (.ite c a b)=(ev call ρ st c).fl ρ λx st1=>onF (yaT st1 x) λk=>cond k (exs call ρ st1 a) (exs call ρ st1 b):=rfl
theorem x_six{o i e:Ce}:ex call ρ st (.six o i e)=(ev call ρ st e).fl ρ λv st1=>(ev call ρ st1 o).fl ρ λx st2=>(ev call ρ st2 i).fl ρ λy st3=>stO ρ (ybE st3 x y v):=rfl
noncomputable def yff(o:Option Nat)(k:Nat->Fl):Fl:=match o with
 |some j=>k j
 |none=>.bad
theorem zp2{i:Nat}{D:List (AQ×Nat)}{n:Ce}{es:Ces}:ex call ρ st (.mkr i D n es)=(ev call ρ st n).fl ρ λx st1=>yff (mkV D (decide (i<ρ.length)) x) λj=>((evs call (ρ.set i AD) st1 es).bind λvs st2=>call j vs st2).fl (ρ.set i AD) λv st3=>.rt v st3:=rfl
theorem zfw{c:Nat}{o e:Ce}{f:AQ}:ex call ρ st (.sfl c o f e)=(ev call ρ st e).fl ρ λv st1=>(ev call ρ st1 o).fl ρ λx st2=>stO ρ (ya9 c st2 x f v):=rfl
theorem zfO{o i e:Ce}:ex call ρ st (.dput o i e)=(ev call ρ st e).fl ρ λv st1=>(ev call ρ st1 o).fl ρ λx st2=>(ev call ρ st2 i).fl ρ λy st3=>stO ρ (ybj st3 x y v):=rfl
theorem zpF{i:Nat}{o:BOp}{e:Ce}{x:PV}(h:ρ[i]?=AA (AA x)):ex call ρ st (.aug i o e)=(ev call ρ st e).fl ρ λy st1=>nxO ((ybT o x y).map λz=>ρ.set i (AA z)) st1:=by
 rw[ex,h];show (ev call ρ st e).fl ρ _=_;refine congrArg _ (funext λy=>funext λst1=>?_)
 cases ybT o x y<;>rfl
end
theorem ve1(call:Nat->List PV->SO->R PV)(ρ:Env)(st:SO)(v:PV):
  ev call ρ st (Ce.cst v)=R.ok v st:=rfl
theorem ve2(call:Nat->List PV->SO->R PV)(ρ:Env)(st:SO)(i:Nat):
  ev call ρ st (Ce.var i) =
  match ρ[i]? with
  |some (AA v)=>R.ok v st
  |x=>R.bad:=rfl
theorem ve3(call:Nat->List PV->SO->R PV)(ρ:Env)(st:SO)(o:BOp)(a b:Ce):
  ev call ρ st (Ce.bin o a b)=R.bind (ev call ρ st a) λx st1=>R.bind (ev call ρ st1 b) λy st2=>toR (yJ o x y) st2:=rfl
theorem ve4(call:Nat->List PV->SO->R PV)(ρ:Env)(st:SO)(a:Ce):
  ev call ρ st (Ce.neg a) =
  R.bind (ev call ρ st a) λx st1=>
   match x with
   |PV.int i=>R.ok (PV.int (-i)) st1
   |x=>R.bad:=rfl
theorem ve5(call:Nat->List PV->SO->R PV)(ρ:Env)(st:SO)(a:Ce):
  ev call ρ st (Ce.not a)=R.bind (ev call ρ st a) λx st1=>onBl x λk=>R.ok (PV.bl !k) st1:=rfl
theorem ve6(call:Nat->List PV->SO->R PV)(ρ:Env)(st:SO)(a b:Ce):
  ev call ρ st (Ce.and a b)=R.bind (ev call ρ st a) λx st1=>onBl x λk=>bif k then ev call ρ st1 b else R.ok (PV.bl AB) st1:=rfl
theorem ve7(call:Nat->List PV->SO->R PV)(ρ:Env)(st:SO)(a b:Ce):
  ev call ρ st (Ce.or a b)=R.bind (ev call ρ st a) λx st1=>onBl x λk=>bif k then R.ok (PV.bl AC) st1 else ev call ρ st1 b:=rfl
theorem ve8(call:Nat->List PV->SO->R PV)(ρ:Env)(st:SO)(o:COp)(a b:Ce):
  ev call ρ st (Ce.cmp o a b)=R.bind (ev call ρ st a) λx st1=>R.bind (ev call ρ st1 b) λy st2=>toR (yN o x y) st2:=rfl
theorem ve9(call:Nat->List PV->SO->R PV)(ρ:Env)(st:SO)(o p:COp)(a b c:Ce):
  ev call ρ st (Ce.chain o p a b c)=R.bind (ev call ρ st a) λx st1=>R.bind (ev call ρ st1 b) λy st2=>onO (blO (yN o x y)) λk=>bif k then R.bind (ev call ρ st2 c) λz st3=>toR (yN p y z) st3 else R.ok (PV.bl AB) st2:=rfl
theorem ve10(call:Nat->List PV->SO->R PV)(ρ:Env)(st:SO)(c a b:Ce):
  ev call ρ st (Ce.ite c a b)=R.bind (ev call ρ st c) λx st1=>onO (yaT st1 x) λk=>bif k then ev call ρ st1 a else ev call ρ st1 b:=rfl
theorem ve11(call:Nat->List PV->SO->R PV)(ρ:Env)(st:SO)(es:Ces):
  ev call ρ st (Ce.tup es)=R.bind (evs call ρ st es) λvs st1=>if C9 vs<=sizeMax then R.ok (PV.tup vs) st1 else R.bad:=rfl
theorem ve12(call:Nat->List PV->SO->R PV)(ρ:Env)(st:SO)(es:Ces):
  ev call ρ st (Ce.lst es)=R.bind (evs call ρ st es) λvs st1=>if C9 vs<=sizeMax then R.ok (PV.lst vs) st1 else R.bad:=rfl
theorem ve13(call:Nat->List PV->SO->R PV)(ρ:Env)(st:SO)(es:Ces):
  ev call ρ st (Ce.newl es)=R.bind (evs call ρ st es) λvs st1=>if C9 vs<=sizeMax then R.ok (PV.loc (C9 st1)) (st1++[Ob.lst vs])else R.bad:=rfl
theorem ve15(call:Nat->List PV->SO->R PV)(ρ:Env)(st:SO)(t:Bool):
  ev call ρ st (Ce.dict0 t)=R.ok (PV.loc (C9 st)) (st++[Ob.dct t []]):=rfl
theorem ve16(call:Nat->List PV->SO->R PV)(ρ:Env)(st:SO)(a i:Ce):
  ev call ρ st (Ce.idx a i)=R.bind (ev call ρ st a) λx st1=>R.bind (ev call ρ st1 i) λy st2=>toR (idxV st2 x y) st2:=rfl
theorem ve17(call:Nat->List PV->SO->R PV)(ρ:Env)(st:SO)(a l h:Ce):
  ev call ρ st (Ce.slc a l h)=R.bind (ev call ρ st a) λx st1=>R.bind (ev call ρ st1 l) λy st2=>onP (ybU y) λo=>R.bind (ev call ρ st2 h) λz st3=>toR (ybY x o z) st3:=rfl
theorem ve18(call:Nat->List PV->SO->R PV)(ρ:Env)(st:SO)(f:Nat)(es:Ces):
  ev call ρ st (Ce.call f es)=R.bind (evs call ρ st es) λvs st1=>call f vs st1:=rfl
theorem ve19(call:Nat->List PV->SO->R PV)(ρ:Env)(st:SO)(b:Blt)(es:Ces):
  ev call ρ st (Ce.blt b es)=R.bind (evs call ρ st es) λvs st1=>toR (yay b st1 vs) st1:=rfl
theorem ve20(call:Nat->List PV->SO->R PV)(ρ:Env)(st:SO)(m:Mth)(o:Ce)(es:Ces):
  ev call ρ st (Ce.mth m o es)=R.bind (ev call ρ st o) λx st1=>onO (yaS m st1 x) λx_1=>R.bind (evs call ρ st1 es) λvs st2=>ycu m st2 x vs:=rfl
theorem ve21(call:Nat->List PV->SO->R PV)(ρ:Env)(st:SO)(a:Ce)(ts:List Ty):
  ev call ρ st (Ce.isi a ts)=R.bind (ev call ρ st a) λx st1=>toR (yaU x ts) st1:=rfl
theorem ve24(call:Nat->List PV->SO->R PV)(ρ:Env)(st:SO):
  ev call ρ st Ce.nope=R.bad:=rfl
theorem ve25(call:Nat->List PV->SO->R PV)(ρ:Env)(st:SO)(a:Ce):
  ev call ρ st (Ce.frz a)=R.bind (ev call ρ st a) λx st1=>ydK x st1:=rfl
theorem ve27(call:Nat->List PV->SO->R PV)(ρ:Env)(st:SO)(a b:Ce):
  ev call ρ st (Ce.rep a b)=R.bind (ev call ρ st a) λx st1=>R.bind (ev call ρ st1 b) λy st2=>toR (ydz x y) st2:=rfl
theorem ve28(call:Nat->List PV->SO->R PV)(ρ:Env)(st:SO)(D:List (AQ×PV))(a:Ce):
  ev call ρ st (Ce.dix D a)=R.bind (ev call ρ st a) λx st1=>toR (ycx D x) st1:=rfl
theorem ve29(call:Nat->List PV->SO->R PV)(ρ:Env)(st:SO)(a:Ce)(D:List (AQ×PV)):
  ev call ρ st (Ce.din a D)=R.bind (ev call ρ st a) λx st1=>toR (ycn D x) st1:=rfl
theorem ve32(call:Nat->List PV->SO->R PV)(ρ:Env)(st:SO)(c:Nat)(a:Ce)(f:AQ):
  ev call ρ st (Ce.fld c a f)=R.bind (ev call ρ st a) λx st1=>toR (ya6 c st1 x f) st1:=rfl
theorem ve33(call:Nat->List PV->SO->R PV)(ρ:Env)(st:SO)(c i:Nat)(es:Ces):
  ev call ρ st (Ce.new c i es)=R.bind (evs call ρ st es) λvs st1=>R.bind (ybH (call i (PV.loc (C9 st1)::vs) (st1++[Ob.ins c []]))) λv st2=>newV (C9 st1) v st2:=rfl
theorem ve37(call:Nat->List PV->SO->R PV)(ρ:Env)(st:SO)(c i:Nat)(m:AQ)(o:Ce)
 (es:Ces):
  ev call ρ st (Ce.mcl c i m o es)=R.bind (ev call ρ st o) λx st1=>onO (ycc c m st1 x) λx_1=>R.bind (evs call ρ st1 es) λvs st2=>call i (x::vs) st2:=rfl
end IC
namespace WK
open IC PySem
mutual
noncomputable def pvq:PV->PV->Bool
 |.non,.non=>AC
 |.bl a,.bl b=>a==b
 |.int i,.int j=>decide (i=j)
 |.str x,.str y=>decide (x=y)
 |.tp k xs,.tp l ys=>(k==l)&&ycG xs ys
 |.lst xs,.lst ys=>ycG xs ys
 |_,_=>AB
noncomputable def ycG:List PV->List PV->Bool
 |[],[]=>AC
 |x::xs,y::ys=>pvq x y&&ycG xs ys
 |_,_=>AB
end
mutual
theorem zkx:∀(a b:PV),pvq a b=AC->a=b
 |.non,b,h=>by cases b<;>simp[pvq]at h ⊢
 |.bl a,b,h=>by cases b<;>simp[pvq]at h ⊢;exact h
 |.int a,b,h=>by cases b<;>simp[pvq]at h ⊢;exact h
 |.str a,b,h=>by cases b<;>simp[pvq]at h ⊢;exact h
 |.tp k xs,b,h=>by
  cases b<;>simp[pvq]at h ⊢
  exact⟨h.1,zfF _ _ h.2⟩
 |.lst xs,b,h=>by
  cases b<;>simp[pvq]at h ⊢
  exact zfF _ _ h
 |.loc _,b,h=>by cases b<;>simp[pvq]at h
 |.exn _,b,h=>by cases b<;>simp[pvq]at h
 |.scr _,b,h=>by cases b<;>simp[pvq]at h
theorem zfF:∀(a b:List PV),ycG a b=AC->a=b
 |[],b,h=>by cases b<;>simp[ycG]at h ⊢
 |x::xs,b,h=>by
  cases b with
  |nil=>simp[ycG]at h
  |cons y ys=>
   simp[ycG]at h;rw[zkx x y h.1,zfF xs ys h.2]
end
def isOk(r:R PV)(v:PV):Bool:=match r with
 |.ok w []=>pvq w v
 |_=>AB
theorem za8{r:R PV}{v:PV}(h:isOk r v=AC):r=.ok v []:=by
 match r with
 |.ok w []=>rw[zkx w v h]
 |.ok w (_::_)=>simp[isOk]at h
 |.exc _ _=>simp[isOk]at h
 |.bad=>simp[isOk]at h
noncomputable def chS(c:Nat):Str:=⟨#[c]⟩
def yae(c:Nat)(i:Int):PV:=.tup [.str (chS c),.int i]
theorem zmH{c d:Nat}(h:chS c=chS d):c=d:=by
 have:=congrArg (λx=>x.cps) h;simpa [chS] using this
theorem zbe(c d:Nat)(i j:Int):peq (yae c i) (yae d j)=decide (c=d/\i=j):=by
 have h:(chS c==chS d)=decide (c=d):=by
  rw[DG];simp;exact⟨zmH,λe=>by rw[e]⟩
 simp[yae,peq,ybp,h,Bool.decide_and]
 try rfl
noncomputable abbrev Mem:=Nat->Int->Int
noncomputable def upd(M:Mem)(c:Nat)(i v:Int):Mem:=λd j=>if d=c/\j=i then v else M d j
def ycI(kvs:List (PV×PV)):Prop:=∀p∈kvs,∃c i,p.1=yae c i
def Rel(kvs:List (PV×PV))(M:Mem):Prop:=∀c i,(look (yae c i) kvs).getD (.int 0)=.int (M c i)
theorem zgr(c:Nat)(i:Int)(v:PV)(d:Nat)(j:Int):∀kvs,ycI kvs->look (yae d j) (kvs.map λp=>if peq p.1 (yae c i)=AC then(p.1,v)else p)=if d=c/\j=i then(if (kvs.any λp=>peq p.1 (yae c i))=AC then AA v else AD)else look (yae d j) kvs
 |[],_=>by simp[look]
 |p::kvs,h=>by
  let⟨e,g,hp⟩:=h p An;let⟨p1,p2⟩:=p;simp only at hp;subst hp;have ih:=zgr c i v d j kvs λq hq=>h q (AR _ hq);rw[AL,Bm];erw[zbe]
  by_cases h1:e=c/\g=i
  .let⟨rfl,rfl⟩:=h1;erw[and_self,decide_true,if_true,look,zbe,GQ]
   by_cases h2:e=d/\g=j
   .let⟨rfl,rfl⟩:=h2;simp
   .have h3:¬(d=e/\j=g):=λz=>h2 ⟨z.1.symm,z.2.symm⟩;erw[h2,h3,decide_false,if_false,Bg];rw[ih,if_neg h3]
  .simp only[h1,decide_false,Fj,Bg,if_false];rw[look,look];erw[zbe]
   by_cases h2:e=d/\g=j
   .let⟨rfl,rfl⟩:=h2;simp[h1]
   .simp only[h2,decide_false,Bg,if_false];exact ih
theorem zfR(c:Nat)(i:Int)(v:PV)(d:Nat)(j:Int):∀kvs,ycI kvs->(kvs.any λp=>peq p.1 (yae c i))=AB->look (yae d j) (kvs++[(yae c i,v)])=if d=c/\j=i then AA v else look (yae d j) kvs
 |[],_,_=>by
  erw[BV,look,zbe]
  by_cases h2:c=d/\i=j
  .let⟨rfl,rfl⟩:=h2;simp
  .have h3:¬(d=c/\j=i):=λz=>h2 ⟨z.1.symm,z.2.symm⟩;simp[h2,h3]
 |p::kvs,h,hn=>by
  let⟨e,g,hp⟩:=h p An;let⟨p1,p2⟩:=p;simp only at hp;subst hp;rw[Bm,Bool.or_eq_false_iff]at hn;have ih:=zfR c i v d j kvs (λq hq=>h q (AR _ hq)) hn.2;have h1:¬(e=c/\g=i):=by simpa [zbe] using hn.1
  rw[Az,look,look];erw[zbe]
  by_cases h2:e=d/\g=j
  .let⟨rfl,rfl⟩:=h2;simp[h1]
  .simp only[h2,decide_false,Bg,if_false];exact ih
theorem zjA(c:Nat)(i:Int)(v:PV)(d:Nat)(j:Int)(kvs:List (PV×PV))(h:ycI kvs):look (yae d j) (put (yae c i) v kvs)=if d=c/\j=i then AA v else look (yae d j) kvs:=by
 unfold put;split
 .rename_i z;rw[zgr _ _ _ _ _ _ h,z,if_pos rfl]
 .rename_i z;exact zfR _ _ _ _ _ _ h (by simpa using z)
theorem zj6{c:Nat}{i:Int}{v:PV}{kvs:List (PV×PV)}(h:ycI kvs):ycI (put (yae c i) v kvs):=by
 unfold put;split
 .intro p hp;let⟨q,hq,rfl⟩:=D3.1 hp;let⟨e,g,he⟩:=h q hq;refine⟨e,g,?_⟩;split
  .exact he
  .exact he
 .intro p hp;rcases Au.1 hp with hp|hp
  .exact h p hp
  .simp at hp;exact⟨c,i,by rw[hp]⟩
theorem zlm{c:Nat}{i v:Int}{kvs:List (PV×PV)}{M:Mem}(h:ycI kvs)(r:Rel kvs M):Rel (put (yae c i) (.int v) kvs) (upd M c i v):=by
 intro d j;rw[zjA _ _ _ _ _ _ h];unfold upd;split
 .rfl
 .exact r d j
theorem zlB{k v:PV}{kvs:List (PV×PV)}:(put k v kvs).length<=kvs.length+1:=by
 unfold put;split
 .simp
 .simp
theorem zfY(c:Nat)(i:Int):isKey AC (yae c i)=true:=rfl
structure Dc(st:SO)(n:Nat)(M:Mem)(L:Nat):Prop where
 ex:∃kvs,st[n]?=AA (.dct AC kvs)/\ycI kvs/\Rel kvs M/\kvs.length<=L
theorem zj9{st:SO}{n L:Nat}{M:Mem}(h:Dc st n M L)(c:Nat)(i:Int):ydV st (.loc n) (yae c i) (.int 0)=.ok (.int (M c i)) st:=by
 let⟨kvs,h1,h2,h3,h4⟩:=h;erw[ydV,ybf,h1,zfY,if_true,h3 c i]
theorem zi7{st:SO}{n L:Nat}{M:Mem}(h:Dc st n M L)(hL:L<999999)(c:Nat)(i v:Int):∃kvs,ybj st (.loc n) (yae c i) (.int v)=AA (st.set n (.dct AC kvs))/\Dc (st.set n (.dct AC kvs)) n (upd M c i v) (L+1):=by
 let⟨kvs,h1,h2,h3,h4⟩:=h;have hn:n<st.length:=by
  rcases CK n st.length with z|z
  .exact z
  .rw[BY z]at h1;cases h1
 refine⟨put (yae c i) (.int v) kvs,?_,⟨_,Aa hn,zj6 h2,zlm h2 h3,BU zlB (by lia)⟩⟩;have h5:kvs.length<1000000:=by lia
 erw[ybj,h1,zfY,h5,and_self,if_true]
noncomputable abbrev Cel:=Nat×Int
def yG(x:Cel):PV:=yae x.1 x.2
inductive Rw where
 |mark (d:Int)|ask (x:Cel)|set (t:Cel) (d:Int)|move (t x:Cel)|bare (t x:Cel)|twice (t x:Cel)|half (t x:Cel)
 |sum (t x y:Cel)|less (t x y:Cel)|both (t x y:Cel)|any (t x y:Cel)|odd (t x y:Cel)|times (l h x y:Cel)
def yV:Rw->PV
 |.mark d=>.tup [.str "mark",.int d]
 |.ask x=>.tup [.str "ask",yG x]
 |.set t d=>.tup [.str "set",yG t,.int d]
 |.move t x=>.tup [.str "move",yG t,yG x]
 |.bare t x=>.tup [.str "bare",yG t,yG x]
 |.twice t x=>.tup [.str "twice",yG t,yG x]
 |.half t x=>.tup [.str "half",yG t,yG x]
 |.sum t x y=>.tup [.str "sum",yG t,yG x,yG y]
 |.less t x y=>.tup [.str "less",yG t,yG x,yG y]
 |.both t x y=>.tup [.str "both",yG t,yG x,yG y]
 |.any t x y=>.tup [.str "any",yG t,yG x,yG y]
 |.odd t x y=>.tup [.str "odd",yG t,yG x,yG y]
 |.times l h x y=>.tup [.str "times",yG l,yG h,yG x,yG y]
noncomputable def rd(M:Mem)(x:Cel):Int:=M x.1 x.2
def wr(M:Mem)(x:Cel)(v:Int):Mem:=upd M x.1 x.2 v
def stepM(W:Int)(M:Mem)(k:Int):Rw->Mem×Int
 |.mark d=>(M,d)
 |.ask x=>(M,bi (!(rd M x==0)))
 |.set t d=>(wr M t d,k)
 |.move t x=>(wr M t (rd M x),k)
 |.bare t x=>(wr M t (W-1-rd M x),k)
 |.twice t x=>(wr M t ((2*rd M x+k)%W),(2*rd M x+k)/W)
 |.half t x=>(wr M t (rd M x/2+k*(W/2)),rd M x%2)
 |.sum t x y=>(wr M t ((rd M x+rd M y+k)%W),(rd M x+rd M y+k)/W)
 |.less t x y=>(wr M t ((rd M x-rd M y-k)%W),bi (decide (rd M x-rd M y-k<0)))
 |.both t x y=>(wr M t (Ar (rd M x) (rd M y)),k)
 |.any t x y=>(wr M t (Bd (rd M x) (rd M y)),k)
 |.odd t x y=>(wr M t (B1 (rd M x) (rd M y)),k)
 |.times l h x y=>(wr (wr M l (rd M x*rd M y%W)) h (rd M x*rd M y/W),k)
def yw(W:Int):List Rw->Mem->Int->Mem×Int
 |[],M,k=>(M,k)
 |r::rs,M,k=>yw W rs (stepM W M k r).1 (stepM W M k r).2
theorem zl(W:Int):∀(a b:List Rw) (M:Mem) (k:Int),yw W (a++b) M k=yw W b (yw W a M k).1 (yw W a M k).2
 |[],b,M,k=>rfl
 |r::a,b,M,k=>by rw[Az,yw,zl W a b,yw]
theorem zkj{st:SO}{n:Nat}{o:Ob}(h:st[n]?=AA o):st=st.set n o:=by
 refine Ea λi=>?_;rw[Ck];split
 .rename_i e;subst e;split
  .exact h
  .rename_i z;rw[BY (by lia)]at h
   cases h
 .rfl
theorem zdy(i:Int):shp (.int i)=true:=rfl
section
variable {st:SO}{k:Bool}{a b c d e:PV}{r:List PV}{i j:Int}
theorem ix0:idxV st (.tp k (a::r)) (.int 0)=AA a:=by simp[idxV,ybd,at?,ixI]
theorem ix1:idxV st (.tp k (a::b::r)) (.int 1)=AA b:=by
 have:(1:Int)<(r.length:Int)+1+1:=by lia
 simp[idxV,ybd,at?,ixI,this]
theorem ix2:idxV st (.tp k (a::b::c::r)) (.int 2)=AA c:=by
 have:(2:Int)<(r.length:Int)+1+1+1:=by lia
 simp[idxV,ybd,at?,ixI,this]
theorem ix3:idxV st (.tp k (a::b::c::d::r)) (.int 3)=AA d:=by
 have:(3:Int)<(r.length:Int)+1+1+1+1:=by lia
 simp[idxV,ybd,at?,ixI,this]
theorem b_add:yJ .add (.int i) (.int j)=AA (.int (i+j)):=rfl
theorem b_sub:yJ .sub (.int i) (.int j)=AA (.int (i-j)):=rfl
theorem zji(h:i.natAbs<18446744073709551616 \/ j.natAbs<18446744073709551616):yJ .mul (.int i) (.int j)=AA (.int (i*j)):=by
 have:yaH i j=true:=by simpa [yaH] using h
 simp[yJ,binI,this]
theorem zaF(h:i.natAbs<18446744073709551616):yJ .mul (.int i) (.int j)=AA (.int (i*j)):=zji (.inl h)
theorem zcq(h:j.natAbs<18446744073709551616):yJ .mul (.int i) (.int j)=AA (.int (i*j)):=zji (.inr h)
theorem b_mul2:yJ .mul (.int 2) (.int j)=AA (.int (2*j)):=zji (.inl (by decide))
theorem zfr(h:0<j)(h2:j<18446744073709551616*18446744073709551616):yJ .fdiv (.int i) (.int j)=AA (.int (i/j)):=by
 have h3:j<10000000000000000000000000000000000000000000000000000000000000000000000:=by lia
 simp[yJ,binI,h,h3]
theorem b_div2:yJ .fdiv (.int i) (.int 2)=AA (.int (i/2)):=rfl
theorem zj1(h:0<j):yJ .mod (.int i) (.int j)=AA (.int (i%j)):=by simp[yJ,binI,h]
theorem zpV:yJ .band (.int i) (.int j)=AA (.int (Ar i j)):=rfl
theorem yfq:yJ .bor (.int i) (.int j)=AA (.int (Bd i j)):=rfl
theorem zqb:yJ .bxor (.int i) (.int j)=AA (.int (B1 i j)):=rfl
theorem toR_some{v:PV}:toR (AA v) st=.ok v st:=rfl
theorem c_ne:yN .ne (.int i) (.int j)=AA (.bl (!(i==j))):=by simp[yN,zdy,peq]
theorem c_eq:yN .eq (.int i) (.int j)=AA (.bl (i==j)):=by simp[yN,zdy,peq]
theorem c_lt:yN .lt (.int i) (.int j)=AA (.bl (decide (i<j))):=rfl
theorem c_le:yN .le (.int i) (.int j)=AA (.bl (decide (i<=j))):=rfl
theorem c_gt:yN .gt (.int i) (.int j)=AA (.bl (decide (j<i))):=rfl
theorem c_ge:yN .ge (.int i) (.int j)=AA (.bl (decide (j<=i))):=rfl
theorem t_bl{b:Bool}:yaT st (.bl b)=AA b:=rfl
theorem on_t{f:Bool->Fl}{b:Bool}:onF (AA b) f=f b:=rfl
theorem ono{α:Type}{f:Bool->R α}{b:Bool}:onO (AA b) f=f b:=rfl
theorem zai{ρ:IC.Env}:stO ρ (AA st)=.nx ρ st:=rfl
theorem nxO_some{ρ:IC.Env}:nxO (AA ρ) st=.nx ρ st:=rfl
theorem fl_ok{α:Type}{a:α}{ρ:IC.Env}{k:α->SO->Fl}:(R.ok a st).fl ρ k=k a st:=rfl
theorem bd_ok{α β:Type}{a:α}{k:α->SO->R β}:(R.ok a st).bind k=k a st:=rfl
theorem th_nx{ρ:IC.Env}{k:IC.Env->SO->Fl}:yaK (.nx ρ st) k=k ρ st:=rfl
theorem th_rt{v:PV}{k:IC.Env->SO->Fl}:yaK (.rt v st) k=.rt v st:=rfl
theorem fl_exc{α:Type}{c:Nat}{ρ:IC.Env}{k:α->SO->Fl}:(R.exc c st:R α).fl ρ k=.exc c ρ st:=rfl
theorem bd_exc{α β:Type}{c:Nat}{k:α->SO->R β}:(R.exc c st:R α).bind k=.exc c st:=rfl
theorem th_exc{c:Nat}{ρ:IC.Env}{k:IC.Env->SO->Fl}:yaK (.exc c ρ st) k=.exc c ρ st:=rfl
theorem noLocs_ints:∀(l:List Int),nLs (l.map PV.int)=AC
 |[]=>rfl
 |_::l=>by simp[nLs,nL,noLocs_ints l]
theorem bT_n{i:Nat}{v:PV}{ρ:IC.Env}:yR (.n i) v ρ=AA (ρ.set i (AA v)):=rfl
end
theorem zna:∀(n x y:Nat),x<=n->(x ^^^ y)+(x &&& y)=x ||| y
 |n,x,y,h=>by
  by_cases hx:x=0
  .subst hx;simp
  .have ih:=zna (n-1) (x/2) (y/2) (by lia);rw[<-Nat.xor_div_two,<-Nat.and_div_two,<-Nat.or_div_two]at ih;have m1:(x ^^^ y)%2=((x%2) ^^^ (y%2)):=by
    have:=Nat.xor_mod_two_pow (a:=x) (b:=y) (n:=1);simpa using this
   have m2:(x &&& y)%2=((x%2) &&& (y%2)):=by
    have:=Nat.and_mod_two_pow (a:=x) (b:=y) (n:=1);simpa using this
   have m3:(x ||| y)%2=((x%2) ||| (y%2)):=by
    have:=Nat.or_mod_two_pow (a:=x) (b:=y) (n:=1);simpa using this
   rcases EV x with a|a<;>rcases EV y with b|b<;>rw[a,b]at m1 m2 m3<;>erw[Nat.reduceXor,Nat.reduceAnd,Nat.reduceOr]at m1 m2 m3<;>lia
theorem ze3(x y:Nat):Ar (x:Int) (y:Int)=((x &&& y:Nat):Int):=by
 simp[Ar]
theorem zc0(x y:Nat):Bd (x:Int) (y:Int)=((x ||| y:Nat):Int):=by
 have h1:¬(0:Int)<=-(x:Int)-1:=by lia
 have h2:¬(0:Int)<=-(y:Int)-1:=by lia
 have h3:(-(-(x:Int)-1)-1).toNat=x:=by lia
 have h4:(-(-(y:Int)-1)-1).toNat=y:=by lia
 erw[Bd,Ar,F2,h1,h2,decide_false,h3,h4];lia
theorem zkO(x y:Nat):B1 (x:Int) (y:Int)=((x ^^^ y:Nat):Int):=by
 have:=zna x x y (AS x);rw[B1,zc0,ze3];lia
theorem pw(w:Nat):((2^w:Nat):Int)=2^w:=by simp
theorem zm8{w:Nat}{a b:Int}(a0:0<=a)(b0:0<=b)(b1:b<2^w):0<=Ar a b/\Ar a b<2^w:=by
 obtain⟨x,rfl⟩:∃n:Nat,a=n:=⟨a.toNat,by lia⟩;obtain⟨y,rfl⟩:∃n:Nat,b=n:=⟨b.toNat,by lia⟩;rw[ze3];rw[<-pw]at b1 ⊢;exact⟨by lia,by exact_mod_cast Fx x (by lia:y<2^w)⟩
theorem zii{w:Nat}{a b:Int}(a0:0<=a)(a1:a<2^w)(b0:0<=b)(b1:b<2^w):0<=B1 a b/\B1 a b<2^w:=by
 obtain⟨x,rfl⟩:∃n:Nat,a=n:=⟨a.toNat,by lia⟩;obtain⟨y,rfl⟩:∃n:Nat,b=n:=⟨b.toNat,by lia⟩;rw[zkO];rw[<-pw]at a1 b1 ⊢;exact⟨by lia,by exact_mod_cast Fy (by lia:x<2^w) (by lia:y<2^w)⟩
theorem zoH{w:Nat}{a b:Int}(a0:0<=a)(a1:a<2^w)(b0:0<=b)(b1:b<2^w):0<=Bd a b/\Bd a b<2^w:=by
 obtain⟨x,rfl⟩:∃n:Nat,a=n:=⟨a.toNat,by lia⟩;obtain⟨y,rfl⟩:∃n:Nat,b=n:=⟨b.toNat,by lia⟩;rw[zc0];rw[<-pw]at a1 b1 ⊢;exact⟨by lia,by exact_mod_cast Nat.or_lt_two_pow (by lia:x<2^w) (by lia:y<2^w)⟩
theorem zfD{a b:Int}(a0:0<=a)(b0:0<=b):Bd a b=0 ↔ a=0/\b=0:=by
 obtain⟨x,rfl⟩:∃n:Nat,a=n:=⟨a.toNat,by lia⟩;obtain⟨y,rfl⟩:∃n:Nat,b=n:=⟨b.toNat,by lia⟩;rw[zc0];have:=Nat.or_eq_zero_iff (n:=x) (m:=y);lia
theorem zce{w x:Nat}(h:x<2^(w+1)):(2*(x:Int))/2^(w+1)=((x/2^w:Nat):Int)/\(x/2^w=0 \/ x/2^w=1):=by
 have hp:0<2^w:=Hh (by lia);constructor
 .rw[<-pw];have:(2*x)/2^(w+1)=x/2^w:=by
   rw[HZ,GS 2 x,Nat.mul_div_mul_right _ _ (by lia)]
  rw[<-this];rfl
 .have:x/2^w<2:=Nat.div_lt_of_lt_mul (by rw[HZ]at h;lia);generalize x/2^w=q at this;lia
noncomputable def tb(w:Nat)(a:Int):Int:=(2*a)/2^w
theorem znc{w:Nat}(hw:0<w){a b:Int}(a0:0<=a)(a1:a<2^w)(b0:0<=b)(b1:b<2^w):tb w (Ar a b)=tb w a*tb w b:=by
 obtain⟨x,rfl⟩:∃n:Nat,a=n:=⟨a.toNat,by lia⟩;obtain⟨y,rfl⟩:∃n:Nat,b=n:=⟨b.toNat,by lia⟩;obtain⟨w,rfl⟩:∃v,w=v+1:=⟨w-1,by lia⟩;rw[<-pw]at a1 b1;have hx:=zce (show x<2^(w+1)by lia);have hy:=zce (show y<2^(w+1)by lia);have hz:=zce (Fx x (show y<2^(w+1)by lia));rw[ze3,tb,tb,tb,hx.1,hy.1,hz.1,Nat.and_div_two_pow];rcases hx.2 with e|e<;>rcases hy.2 with f|f<;>rw[e,f]<;>rfl
theorem zk8{w:Nat}(hw:0<w){a b:Int}(a0:0<=a)(a1:a<2^w)(b0:0<=b)(b1:b<2^w):tb w (B1 a b)=(tb w a+tb w b)%2:=by
 obtain⟨x,rfl⟩:∃n:Nat,a=n:=⟨a.toNat,by lia⟩;obtain⟨y,rfl⟩:∃n:Nat,b=n:=⟨b.toNat,by lia⟩;obtain⟨w,rfl⟩:∃v,w=v+1:=⟨w-1,by lia⟩;rw[<-pw]at a1 b1;have hx:=zce (show x<2^(w+1)by lia);have hy:=zce (show y<2^(w+1)by lia);have hz:=zce (Fy (show x<2^(w+1)by lia) (show y<2^(w+1)by lia));rw[zkO,tb,tb,tb,hx.1,hy.1,hz.1,Nat.xor_div_two_pow];rcases hx.2 with e|e<;>rcases hy.2 with f|f<;>rw[e,f]<;>rfl
theorem znX{w:Nat}(hw:0<w){a:Int}(a0:0<=a)(a1:a<2^w):tb w a=if 2^w<=2*a then 1 else 0:=by
 have h1:(0:Int)<2^w:=Ab (by lia);unfold tb;split
 .rename_i h;exact Int.le_antisymm (Int.le_of_lt_add_one (BZ h1 (by lia))) (Int.le_ediv_of_mul_le h1 (by lia))
 .exact BB (by lia) (by lia)
theorem zcc(ys:List PV)(h:ys.length<=1000000)(st:SO):ycf (.ok ys st)=.ok (.lst ys) st:=by simp[ycf,h]
theorem zbq(n:Nat)(h:n<1000):yb3 (.int (n:Int))=AA (yx n 0 1):=by
 simp[yb3];lia
theorem zdj{z:Int}(h:0<=z):∃n:Nat,z=n:=⟨z.toNat,by lia⟩
def ybB(st:SO)(f:Fl):R PV:=
 match f with
 |.rt v _=>if nL v then .ok v st else .bad
 |.nx _ _=>.ok .non st
 |.exc c _ _=>.exc c st
 |_=>.bad
theorem zc{T:Nat->Option IC.Fn}{k f:Nat}{fn:IC.Fn}{args:List PV}{st:SO}(hT:T f=AA fn)(hp:fn.pure=AC)(hl:args.length=fn.np)(hn:nLs args=AC):
  yd T (k+1) f args st=ybB st (exs (yd T k) (args.map AA++AV (fn.ns-fn.np) AD) [] fn.body):=by
 rw[yd,hT];dsimp only;rw[if_pos hl,if_pos hp,if_pos hn];rfl
def outI(f:Fl):R PV:=
 match f with
 |.rt v st1=>.ok v st1
 |.nx _ st1=>.ok .non st1
 |.exc c _ st1=>.exc c st1
 |_=>.bad
theorem zp{T:Nat->Option IC.Fn}{k f:Nat}{fn:IC.Fn}{args:List PV}{st:SO}(hT:T f=AA fn)(hp:fn.pure=AB)(hl:args.length=fn.np):
  yd T (k+1) f args st=outI (exs (yd T k) (args.map AA++AV (fn.ns-fn.np) AD) st fn.body):=by
 rw[yd,hT];dsimp only;rw[if_pos hl,hp,if_neg (by simp)];rfl
theorem zbt{st:SO}{v:PV}:outI (.rt v st)=.ok v st:=rfl
theorem zom{st s:SO}{b:Bool}:ybB st (.rt (.bl b) s)=.ok (.bl b) st:=rfl
theorem zlO{st s:SO}{b:Int}:ybB st (.rt (.int b) s)=.ok (.int b) st:=rfl
set_option backward.eqns.nonrecursive true
local macro_rules | `(tactic| simp! [$xs,*])=>do
 let l<-("IC.xs_cons IC.xs_nil IC.x_asg IC.x_ite IC.x_ret IC.x_expr IC.x_for IC.x_six IC.evs IC.evi IC.ve1 IC.ve2 IC.ve3 IC.ve4 IC.ve5 IC.ve6 IC.ve7 IC.ve8 IC.ve9 IC.ve10 IC.ve11 IC.ve12 IC.ve13 IC.ve15 IC.ve16 IC.ve17 IC.ve18 IC.ve19 IC.ve20 IC.ve21 IC.ve24 IC.ve25 IC.ve28 IC.v_comp List.getElem?_cons_zero List.getElem?_cons_succ WK.bd_ok WK.fl_ok WK.bd_exc WK.fl_exc WK.toR_some IC.toL WK.bT_n WK.nxO_some WK.th_nx WK.th_rt WK.th_exc List.set_cons_zero List.set_cons_succ WK.on_t WK.t_bl WK.ono IC.onBl cond_true cond_false List.length_cons List.length_nil Nat.zero_add Nat.reduceAdd Nat.reduceSub Nat.reduceLeDiff if_true IC.nL IC.nLs WK.noLocs_ints Bool.and_self Bool.not_true Bool.not_false List.map_cons List.map_nil List.replicate List.cons_append List.nil_append List.append_nil Option.bind_none Option.bind_some Option.join_some WK.b_add WK.b_sub WK.b_mul2 WK.b_div2 WK.c_lt WK.c_le WK.c_gt WK.c_ge WK.c_eq WK.c_ne IC.PV.tup IC.sizeMax".splitOn " ").toArray.mapM λs=>`(Lean.Parser.Tactic.simpLemma| $(Lean.mkIdent s.toName):term)
 `(tactic| simp only[$l,*,$xs,*])
noncomputable def yaA:PV:=.tup [.int 2147483647,.int 2147483629,.int 2147483587,.int 2147483579,.int 2147483563]
noncomputable def ydw:Css:=match yaB.body with
 |.cons _ (.cons _ (.cons (.for _ _ b) _))=>b
 |_=>.nil
theorem zds{c:Cl}{s num g p:Int}{i:Nat}{u5 u6 u7:Option PV}(hg:∀st,idxV st (.tup [.int 11,.int 101,.int 1009,.int 10007,.int 100003]) (.int i)=AA (.int g))(hi:i<5)(hp:0<p)(hp2:p<18446744073709551616):
  ∃num' v5 v6 v7,exs c [AA (.int s),AA yaA,AA (.int num),AA (.int i),AA (.int p),u5,u6,u7] [] ydw=.nx [AA (.int s),AA yaA,AA (.int num'),AA (.int i),AA (.int p),v5,v6,v7] []:=by
 have h1:∀z:Int,yJ .mul (.int z) (.int (48271+2*(i:Int)))=AA (.int (z*(48271+2*(i:Int)))):=λz=>zcq (by lia);have h2:∀z y:Int,yJ .mul (.int z) (.int (y%p))=AA (.int (z*(y%p))):=λz y=>zcq (by
  have a:=Ah y (show p≠0 by lia);have b:=A8 y hp;lia)
 have h3:∀z:Int,yJ .mul (.int z) (.int p)=AA (.int (z*p)):=λz=>zcq (by lia);simp! [ydw,yaB,hg,h1,h2,h3,zj1 hp];exact⟨_,_,_,_,rfl⟩
theorem zj7{c:Cl}{s num:Int}{u5 u6 u7:Option PV}(i:Nat)(p:Int)(h:(i,p)∈[(0,(2147483647:Int)),(1,2147483629),(2,2147483587),(3,2147483579),(4,2147483563)]):
  ∃num' v5 v6 v7,exs c [AA (.int s),AA yaA,AA (.int num),AA (.int i),AA (.int p),u5,u6,u7] [] ydw=.nx [AA (.int s),AA yaA,AA (.int num'),AA (.int i),AA (.int p),v5,v6,v7] []:=by
 erw[AN,Dq,A4,or_false]at h;rcases h with⟨rfl,rfl⟩|⟨rfl,rfl⟩|⟨rfl,rfl⟩|⟨rfl,rfl⟩|⟨rfl,rfl⟩
 .exact zds (λ_=>rfl) (by decide) (by decide) (by decide)
 .exact zds (λ_=>rfl) (by decide) (by decide) (by decide)
 .exact zds (λ_=>rfl) (by decide) (by decide) (by decide)
 .exact zds (λ_=>rfl) (by decide) (by decide) (by decide)
 .exact zds (λ_=>rfl) (by decide) (by decide) (by decide)
noncomputable def ydY:List PV:=[.tup [.int 0,.int 2147483647],.tup [.int 1,.int 2147483629],.tup [.int 2,.int 2147483587],.tup [.int 3,.int 2147483579],.tup [.int 4,.int 2147483563]]
theorem mixed(k:Nat)(s:Int)(st:SO):∃num,yd T (k+1) zd4 [.int s] st=.ok (.int num) st:=by
 let⟨ρ',st',h,num,a,b,c,d,e,e1,e2⟩:=zef (call:=yd T k) (t:=.t [3,4]) (b:=ydw) (λ_ ρ st=>∃num a b c d e,ρ=[AA (.int s),AA yaA,AA (.int num),a,b,c,d,e]/\st=[]) ydY 0 [AA (.int s),AA yaA,AA (.int 0),AD,AD,AD,AD,AD] [] ⟨_,_,_,_,_,_,rfl,rfl⟩ (by
  rintro j x ρ st hx ⟨num,a,b,c,d,e,rfl,rfl⟩
  have hx:=A3 hx;have hx:∃i p,x=.tup [.int ((i:Nat):Int),.int p]/\(i,p)∈[(0,(2147483647:Int)),(1,2147483629),(2,2147483587),(3,2147483579),(4,2147483563)]:=by
   erw[ydY,AN,A4,or_false]at hx;rcases hx with rfl|rfl|rfl|rfl|rfl
   .exact⟨0,_,rfl,by simp⟩
   .exact⟨1,_,rfl,by simp⟩
   .exact⟨2,_,rfl,by simp⟩
   .exact⟨3,_,rfl,by simp⟩
   .exact⟨4,_,rfl,by simp⟩
  let⟨i,p,rfl,hm⟩:=hx;let⟨num',v5,v6,v7,hh⟩:=zj7 (c:=yd T k) (s:=s) (num:=num) (u5:=c) (u6:=d) (u7:=e) i p hm;exact⟨_,_,_,rfl,hh,_,_,_,_,_,_,rfl,rfl⟩)
 subst e1 e2;refine⟨num,?_⟩;rw[yd];have hb:yaB.body=.cons (.asg (.n 1) (.tup (.cons (.cst (.int 2147483647)) (.cons (.cst (.int 2147483629)) (.cons (.cst (.int 2147483587)) (.cons (.cst (.int 2147483579)) (.cons (.cst (.int 2147483563)) .nil))))))) (.cons (.asg (.n 2) (.cst (.int 0))) (.cons (.for (.t [3,4]) (.enum (.var 1)) ydw) (.cons (.ret (.var 2)) .nil))):=rfl;have hT:T zd4=AA ⟨1,8,AC,yaB.body⟩:=rfl;have hp:PV.tup [.int 2147483647,.int 2147483629,.int 2147483587,.int 2147483579,.int 2147483563]=yaA:=rfl;rw[hT,hb];have h5:ev (yd T k) [AA (.int s),AD,AD,AD,AD,AD,AD,AD] [] (.tup (.cons (.cst (.int 2147483647)) (.cons (.cst (.int 2147483629)) (.cons (.cst (.int 2147483587)) (.cons (.cst (.int 2147483579)) (.cons (.cst (.int 2147483563)) .nil))))))=.ok yaA []:=by
  simp[IC.ve1,IC.ve11,evs,R.bind,sizeMax,yaA]
 have he:evi (yd T k) [AA (.int s),AA yaA,AA (.int 0),AD,AD,AD,AD,AD] [] (.enum (.var 1))=.ok ydY []:=by
  simp[evi,IC.ve2,R.bind,yaA,yL,ydY]
 erw[AZ,Bq,if_true,nLs,nL,Dp,AL,Ad,Ci,AV,Az,BV,xs_cons,xs_nil,x_asg,x_for,x_ret,h5,R.fl,yR,nxO,yaK,BH,BI,IC.ve1,he,h,IC.ve2,Ak,Ac]
theorem rdS{st:SO}{n:Nat}{o x:Ob}(h:st[n]?=AA o):(st.set n x)[n]?=AA x:=by
 have:n<st.length:=by
  rcases CK n st.length with h1|h1
  .exact h1
  .rw[BY h1]at h;cases h
 rw[Aa this]
theorem zo8(ns:List Int)(a:Int)(h:ns≠[]):∃v,ybd (ns.map PV.int) (.int (a%(ns.length:Int)))=AA (.int v):=by
 have h0:0<ns.length:=Ff.2 h;have h1:=Ah a (show (ns.length:Int)≠0 by lia);have h2:=A8 a (show (0:Int)<ns.length by lia);have h3:(a%(ns.length:Int)).toNat<ns.length:=by lia
 refine⟨ns[(a%(ns.length:Int)).toNat],?_⟩;simp[ybd,at?,ixI,h1,h2,h3]
noncomputable def flT:Css:=match yaq.body with
 |.cons _ (.cons _ (.cons _ t))=>t
 |x=>x
noncomputable abbrev flS(l:PV)(a p:Int)(f:Bool):Ob:=.lst [l,.int a,.int p,.bl f]
theorem zpE{st:SO}{n:Nat}{l:PV}{a p v:Int}{f:Bool}(h:st[n]?=AA (flS l a p f)):ybE st (.loc n) (.int 1) (.int v)=AA (st.set n (flS l v p f)):=by erw[ybE,h];rfl
theorem zpv{st:SO}{n:Nat}{l:PV}{a p v:Int}{f:Bool}(h:st[n]?=AA (flS l a p f)):ybE st (.loc n) (.int 2) (.int v)=AA (st.set n (flS l a v f)):=by erw[ybE,h];rfl
theorem zpH{st:SO}{n:Nat}{l:PV}{a p:Int}{f g:Bool}(h:st[n]?=AA (flS l a p f)):ybE st (.loc n) (.int 3) (.bl g)=AA (st.set n (flS l a p g)):=by erw[ybE,h];rfl
theorem yhm{st:SO}{n:Nat}{l:PV}{a p:Int}{f:Bool}(h:st[n]?=AA (flS l a p f)):idxV st (.loc n) (.int 0)=AA l:=by erw[idxV,h];rfl
theorem yfH{st:SO}{n:Nat}{l:PV}{a p:Int}{f:Bool}(h:st[n]?=AA (flS l a p f)):idxV st (.loc n) (.int 1)=AA (.int a):=by erw[idxV,h];rfl
theorem ygo{st:SO}{n:Nat}{l:PV}{a p:Int}{f:Bool}(h:st[n]?=AA (flS l a p f)):idxV st (.loc n) (.int 3)=AA (.bl f):=by erw[idxV,h];rfl
theorem p18:yJ .pow (.int 10) (.int 18)=AA (.int 1000000000000000000):=by ac_rfl
theorem zgn(k n:Nat){l:PV}{m a v p q:Int}{f g:Bool}{st:SO}(h:st[n]?=AA (flS l a p f))(hl:∀st,yay .len st [l]=AA (.int m))(hg:(decide (a ≥ m) || decide (v<1000000000000000000))=g)
  (h1:g=AC->yd T (k+1) zd4 [.int v] (st.set n (flS l (a+1) p AC))=.ok (.int q) (st.set n (flS l (a+1) p AC))) (h2:g=AB->q=v-1000000000000000000):
  exs (yd T (k+1)) [AA (.loc n),AA l,AA (.int a),AA (.int v)] st flT=.nx [AA (.loc n),AA l,AA (.int a),AA (.int v)] (st.set n (flS l (a+1) q g)):=by
 have s1:=zpE h (v:=a+1);have r1:=rdS h (x:=flS l (a+1) p f);have s2:=zpH r1 (g:=g);have r2:=rdS r1 (x:=flS l (a+1) p g);have s3:=zpv r2 (v:=q);have i3:=ygo r2;rw[D4]at s2 s3 i3 r2;rw[D4]at s3
 have hb:flT=(match flT with
  |.cons a (.cons (.six x y _) r)=>.cons a (.cons (.six x y (.or (.cmp .ge (.var 2) (.blt .len (.cons (.var 1) .nil))) (.cmp .lt (.var 3) (.bin .pow (.cst (.int 10)) (.cst (.int 18)))))) r)
  |x=>x):=rfl
 have hor:∀st,ev (yd T (k+1)) [AA (.loc n),AA l,AA (.int a),AA (.int v)] st (.or (.cmp .ge (.var 2) (.blt .len (.cons (.var 1) .nil))) (.cmp .lt (.var 3) (.bin .pow (.cst (.int 10)) (.cst (.int 18)))))=.ok (.bl g) st:=λst=>by
  cases c:decide (a ≥ m)
  .rw[c,Fj]at hg;simp! [hl,c,p18,hg]
  .rw[c,GQ]at hg;subst hg;simp! [hl,c]
 generalize hE:(Ce.or (.cmp .ge (.var 2) (.blt .len (.cons (.var 1) .nil))) (.cmp .lt (.var 3) (.bin .pow (.cst (.int 10)) (.cst (.int 18)))))=E at *
 cases g with
 |true=>
  have h1:=h1 rfl;rw[hb];simp! [flT,yaq,stO,s1,hor,s2,i3,h1,s3]
 |false=>
  have h2:=h2 rfl;subst h2;rw[hb];simp! [flT,yaq,stO,s1,hor,s2,i3,p18,s3]
theorem fill(k n:Nat)(ns:List Int)(hns:ns.length<=1000)(a p:Int)(ha:0<=a)(f:Bool)(st:SO)(h:st[n]?=AA (.lst [.lst (ns.map .int),.int a,.int p,.bl f])):
  ∃p' f',yd T (k+2) zhB [.loc n] st=.ok .non (st.set n (.lst [.lst (ns.map .int),.int (a+1),.int p',.bl f'])):=by
 have hT:T zhB=AA ⟨1,4,AB,yaq.body⟩:=rfl;have hl:∀st,yay .len st [.lst (ns.map .int)]=AA (.int (ns.length:Int)):=λst=>by
  show AA (PV.int (((ns.map PV.int).length:Nat):Int))=_;simp
 have i0:=yhm h;have i1:=yfH h;have bt:∀(a b:PV) (ρ:IC.Env),yR (.t [1,2]) (.tp AB [a,b]) ρ=AA ((ρ.set 1 (AA a)).set 2 (AA b)):=λ_ _ _=>rfl
 have hb:yaq.body=(match yaq.body with
  |.cons a (.cons b (.cons c _))=>.cons a (.cons b (.cons c flT))
  |x=>x):=rfl
 have m31:yJ .mul (.int 31) (.int a)=AA (.int (31*a)):=zaF (by decide);obtain⟨v,hv⟩:∃v,exs (yd T (k+1)) [AA (.loc n),AD,AD,AD] st yaq.body=exs (yd T (k+1)) [AA (.loc n),AA (.lst (ns.map .int)),AA (.int a),AA (.int v)] st flT:=by
  by_cases hn:ns=[]
  .have c0:decide ((ns.length:Int) > 0)=false:=by subst hn;rfl
   refine⟨31*a+7,?_⟩;rw[hb];generalize flT=F at *;generalize ns.map PV.int=L at *;simp! [yaq,i0,i1,bt,m31,hl,c0]
  .have h0:0<ns.length:=Ff.2 hn;let⟨v,hv⟩:=zo8 ns a hn;have c0:decide ((ns.length:Int) > 0)=true:=decide_eq_true (by lia);have d1:=zfr (i:=a) (j:=(ns.length:Int)) (by lia) (by lia);have d2:=zj1 (i:=a) (j:=(ns.length:Int)) (by lia);have m1:yJ .mul (.int 104729) (.int (a/(ns.length:Int)))=AA (.int (104729*(a/(ns.length:Int)))):=zaF (by decide);have ix:∀st,idxV st (.lst (ns.map .int)) (.int (a%(ns.length:Int)))=AA (.int v):=λ_=>hv;refine⟨104729*(a/(ns.length:Int))+v,?_⟩;rw[hb];generalize flT=F at *;generalize ns.map PV.int=L at *;simp! [yaq,i0,i1,bt,m31,hl,c0,d1,d2,m1,ix]
 cases c:(decide (a ≥ (ns.length:Int)) || decide (v<1000000000000000000))with
 |true=>
  let⟨q,hq⟩:=mixed k v (st.set n (flS (.lst (ns.map .int)) (a+1) p AC));refine⟨q,AC,?_⟩;rw[zp hT rfl rfl];have e:=zgn k n h hl c (λ_=>hq) (λh=>nomatch h);rw[<-hv]at e;exact(congrArg _ e).trans rfl
 |false=>
  refine⟨v-1000000000000000000,AB,?_⟩;rw[zp hT rfl rfl];have e:=zgn k n h hl c (λh=>nomatch h) (λ_=>rfl);rw[<-hv]at e;exact(congrArg _ e).trans rfl
noncomputable abbrev cM:Nat:=21
noncomputable abbrev sw:Str:=AG "w"
noncomputable abbrev sws:Str:=AG "words"
noncomputable abbrev smk:Str:=AG "marked"
def mob(w:Int)(L:Nat)(mk:Int):Ob:=.ins cM [(sw,.int w),(sws,.loc L),(smk,.int mk)]
structure MM(st:SO)(m l:Nat)(w:Int)(M:Mem)(mk:Int)(L:Nat):Prop where
 o:st[m]?=AA (mob w l mk)
 d:Dc st l M L
 ne:m≠l
theorem ygQ{w mk:Int}{L:Nat}:([(sw,PV.int w),(sws,.loc L),(smk,.int mk)]:List (AQ×PV)).lookup sw=AA (.int w):=by ac_rfl
theorem ygT{w mk:Int}{L:Nat}:([(sw,PV.int w),(sws,.loc L),(smk,.int mk)]:List (AQ×PV)).lookup sws=AA (.loc L):=by ac_rfl
theorem yfV{w mk:Int}{L:Nat}:([(sw,PV.int w),(sws,.loc L),(smk,.int mk)]:List (AQ×PV)).lookup smk=AA (.int mk):=by ac_rfl
section
variable {st:SO}{m l L:Nat}{w mk:Int}{M:Mem}
theorem MM.fw(h:MM st m l w M mk L):ya6 cM st (.loc m) sw=AA (.int w):=by erw[ya6,h.o,mob,if_true];exact ygQ
theorem MM.fd(h:MM st m l w M mk L):ya6 cM st (.loc m) sws=AA (.loc l):=by erw[ya6,h.o,mob,if_true];exact ygT
theorem MM.fm(h:MM st m l w M mk L):ya6 cM st (.loc m) smk=AA (.int mk):=by erw[ya6,h.o,mob,if_true];exact yfV
theorem MM.ins(h:MM st m l w M mk L)(n:AQ)(hm:(([(sw,PV.non),(sws,.non),(smk,.non)]:List (AQ×PV)).lookup n).isNone=true:=by decide +kernel):ycc cM n st (.loc m)=AA true:=by
 have e:([(sw,PV.int w),(sws,.loc l),(smk,.int mk)]:List (AQ×PV)).lookup n=none:=by
  erw[Bu]at hm ⊢
  cases h1:n==sw with
  |true=>rw[h1]at hm;cases hm
  |false=>
   rw[h1]at hm
   cases h2:n==sws with
   |true=>rw[h2]at hm;cases hm
   |false=>
    rw[h2]at hm
    cases h3:n==smk with
    |true=>rw[h3]at hm;cases hm
    |false=>rfl
 erw[ycc,h.o,mob];rw[if_pos ⟨trivial,e⟩]
theorem zm3{v:Int}:ybR smk (.int v) [(sw,PV.int w),(sws,.loc L),(smk,.int mk)]=[(sw,.int w),(sws,.loc L),(smk,.int v)]:=by ac_rfl
theorem Dc.set_ne{n:Nat}(h:Dc st l M L)(hn:n≠l)(o:Ob):Dc (st.set n o) l M L:=by
 let⟨kvs,h1,h2⟩:=h.ex;exact⟨kvs,by rw[AM hn];exact h1,h2⟩
theorem Dc.le{L':Nat}(h:Dc st l M L)(hL:L<=L'):Dc st l M L':=by
 let⟨kvs,h1,h2,h3,h4⟩:=h.ex;exact⟨kvs,h1,h2,h3,BU h4 hL⟩
theorem MM.sm(h:MM st m l w M mk L)(v:Int):ya9 cM st (.loc m) smk (.int v)=AA (st.set m (mob w l v))/\MM (st.set m (mob w l v)) m l w M v L:=by
 refine⟨?_,⟨rdS h.o,h.d.set_ne h.ne _,h.ne⟩⟩;erw[ya9,h.o,mob];rw[if_pos ⟨trivial,by simp⟩,zm3]
theorem MM.sd(h:MM st m l w M mk L)(hL:L<999999)(c:Cel)(v:Int):∃st',ybj st (.loc l) (yG c) (.int v)=AA st'/\(∃o,st'=st.set l o)/\MM st' m l w (wr M c v) mk (L+1):=by
 let⟨kvs,e,d⟩:=zi7 h.d hL c.1 c.2 v;exact⟨_,e,⟨_,rfl⟩,by rw[AM (BJ h.ne)];exact h.o,d,h.ne⟩
theorem zcj(k:Nat)(h:MM st m l w M mk L)(c:Cel):yd T (k+1) zu [.loc m,yG c] st=.ok (.int (rd M c)) st:=by
 have hT:T zu=AA zR:=rfl;have g:ycu .get st (.loc l) [yG c,.int 0]=.ok (.int (rd M c)) st:=zj9 h.d c.1 c.2;have o:yaS .get st (.loc l)=AA true:=by
  let⟨kvs,h1,_⟩:=h.d.ex;simp[yaS,ybf,h1]
 rw[zp hT rfl rfl];generalize yG c=q at *;simp! [zR,h.fd,o,g,zbt,IC.ve32]
end
theorem highest(k n:Nat)(hn:n<=100)(s:SO):yd T (k+1) zdg [.int n] s=.ok (.int (2^n-1)) s:=by
 have hT:T zdg=AA zbV:=rfl;have hs:yJ .shl (.int 1) (.int (n:Int))=AA (.int (2^n)):=by
  erw[yJ,binI];rw[if_pos ⟨by lia,by lia,by decide⟩];simp
 rw[zc hT rfl rfl rfl];simp! [zbV,zlO,hs]
theorem zaz{st s:SO}{a b:Int}:ybB st (.rt (.tp AB [.int a,.int b]) s)=.ok (.tp AB [.int a,.int b]) st:=rfl
section
variable {x y m:Int}{n:Nat}(hn:n<=100)(hn1:1<=n)(k:Nat)(st:SO)
theorem zmz:yJ .shr (.int x) (.int (n:Int))=AA (.int (x/2^n)):=by
 erw[yJ,binI];rw[if_pos (by lia)];simp
theorem band(a b:Int):yJ .band (.int a) (.int b)=AA (.int (Ar a b)):=rfl
theorem zpf{x y:Int}(hx:0<=x)(hy:0<=y):Ar x y=((x.toNat &&& y.toNat:Nat):Int):=by simp[Ar,hx,hy]
theorem zoh{x y:Int}(hx:¬0<=x)(hy:0<=y):Ar x y=y-((y.toNat &&& (F2 x).toNat:Nat):Int):=by simp[Ar,hx,hy]
theorem zdD(a:Int):Ar a (2^n-1)=a%2^n:=by
 have hp:(0:Int)<2^n:=Ab (by decide);have hc:((2^n:Nat):Int)=2^n:=by simp
 have ht:((2:Int)^n-1).toNat=2^n-1:=by lia
 by_cases h:0<=a
 .rw[zpf h (by lia),ht,C7,Ge,hc,Cy h]
 .have hb:F2 a=-a-1:=rfl;rw[zoh h (by lia),ht,Nat.and_comm,C7,Ge,hc,hb,Cy (by lia)];have e:=BM (-a-1) (2^n);have r0:=Ah (-a-1) (show (2:Int)^n≠0 by lia);have r1:=A8 (-a-1) hp;generalize (-a-1)%2^n=r at *;generalize (-a-1)/2^n=q at *;generalize (2:Int)^n=P at *;have m:P*(-q-1)=-(P*q)-P:=by rw[Hi,Int.mul_neg,Cn]
  rw[show a=(P-1-r)+P*(-q-1)by lia,EW,A1 (by lia) (by lia)]
include hn
theorem zlf:yd T (k+1) zfB [.int n,.int x,.int y,.int m] st=.ok (.tp AB [.int x,.int m]) st:=by
 have hT:T zfB=AA zd8:=rfl;rw[zc hT rfl rfl rfl];simp! [zd8,zaz]
theorem zl4:yd T (k+2) zfC [.int n,.int x,.int y,.int m] st=.ok (.tp AB [.int (2^n-1-x),.int m]) st:=by
 have hT:T zfC=AA zee:=rfl;have e:=highest k n hn;rw[zc hT rfl rfl rfl];simp! [zee,zaz,e]
theorem zf6:yd T (k+2) zen [.int n,.int x,.int y,.int m] st=.ok (.tp AB [.int ((x+y+m)%2^n),.int ((x+y+m)/2^n)]) st:=by
 have hT:T zen=AA zcM:=rfl;have e:=highest k n hn;rw[zc hT rfl rfl rfl];simp! [zcM,zaz,e,band,zmz,zdD]
theorem zmG:yd T (k+2) zba [.int n,.int x,.int y,.int m] st=.ok (.tp AB [.int ((x-y-m)%2^n),.int (if x-y-m<0 then 1 else 0)]) st:=by
 have hT:T zba=AA zak:=rfl;have e:=highest k n hn;rw[zc hT rfl rfl rfl]
 by_cases c:x-y-m<0
 .have hc:yN .lt (.int (x-y-m)) (.int 0)=AA (.bl AC):=by simp[yN,ybI,c]
  rw[if_pos c];have hd:decide (x-y-m<0)=true:=decide_eq_true c;simp! [zak,zaz,e,band,zdD,hd]
 .rw[if_neg c];have hd:decide (x-y-m<0)=false:=decide_eq_false c;simp! [zak,zaz,e,band,zdD,hd]
theorem zng:yd T (k+1) zcR [.int n,.int x,.int y,.int m] st=.ok (.tp AB [.int (Ar x y),.int m]) st:=by
 have hT:T zcR=AA zbM:=rfl;rw[zc hT rfl rfl rfl];simp! [zbM,zaz,zpV]
theorem zpJ:yd T (k+1) zed [.int n,.int x,.int y,.int m] st=.ok (.tp AB [.int (Bd x y),.int m]) st:=by
 have hT:T zed=AA zcx:=rfl;rw[zc hT rfl rfl rfl];simp! [zcx,zaz,yfq]
theorem zpO:yd T (k+1) zev [.int n,.int x,.int y,.int m] st=.ok (.tp AB [.int (B1 x y),.int m]) st:=by
 have hT:T zev=AA zcK:=rfl;rw[zc hT rfl rfl rfl];simp! [zcK,zaz,zqb]
theorem zg4:yd T (k+3) zdu [.int n,.int x,.int y,.int m] st=.ok (.tp AB [.int ((x+x+m)%2^n),.int ((x+x+m)/2^n)]) st:=by
 have hT:T zdu=AA zb7:=rfl;have e:=zf6 (x:=x) (y:=x) (m:=m) hn k;rw[zc hT rfl rfl rfl];simp! [zb7,zaz,e]
include hn1
theorem zlc(x0:0<=x)(x1:x<2^n)(m0:0<=m)(m1:m<2):Bd (x/2) (m*2^(n-1))=x/2+m*(2^n/2):=by
 obtain⟨n',rfl⟩:∃n',n=n'+1:=⟨n-1,by lia⟩;let⟨a,rfl⟩:=zdj x0;let⟨b,rfl⟩:=zdj m0;have e1:((a:Int)/2)=((a/2:Nat):Int):=by lia
 have e2:((b:Int)*2^(n'+1-1))=((2^n' * b:Nat):Int):=by
  rw[show n'+1-1=n' from rfl,Ae];simp
 have hp:(2:Int)^(n'+1)=2*2^n':=by rw[Am,Ae]
 have ha:a/2<2^n':=by
  have:(a:Int)<2*2^n':=by rw[<-hp];exact x1
  have h3:((2^n':Nat):Int)=2^n':=by simp
  lia
 rw[e1,e2,zc0,Nat.or_comm,<-Nat.two_pow_add_eq_or_of_lt ha,hp,Int.mul_ediv_cancel_left _ (by decide)];have h3:((2^n' * b:Nat):Int)=b*2^n':=by rw[Ae];simp
 rw[Int.natCast_add,h3,Cv]
theorem zki(x0:0<=x)(x1:x<2^n)(m0:0<=m)(m1:m<2):yd T (k+1) zeq [.int n,.int x,.int y,.int m] st=.ok (.tp AB [.int (x/2+m*(2^n/2)),.int (x%2)]) st:=by
 have hT:T zeq=AA zcD:=rfl;have h1:yJ .shr (.int x) (.int 1)=AA (.int (x/2)):=by
  have:=zmz (x:=x) (n:=1);simpa using this
 have h2:yJ .shl (.int m) (.int ((n:Int)-1))=AA (.int (m*2^(n-1))):=by
  erw[yJ,binI];rw[if_pos ⟨by lia,by lia,by lia⟩]
  congr 3
  congr 1
  lia
 have h3:Ar x 1=x%2:=zdD (n:=1) x;rw[zc hT rfl rfl rfl];simp! [zcD,zaz,h1,h2,yfq,zlc hn hn1 x0 x1 m0 m1,band,h3]
end
theorem zjx{j:Nat}{k:Nat->Fl}:yff (AA j) k=k j:=rfl
theorem made{s:AQ}{j:Nat}(hj:mkV zT AC (.str s)=AA j)(k:Nat)(st:SO){n x y m a b:Int}(e:yd T k j [.int n,.int x,.int y,.int m] []=.ok (.tp AB [.int a,.int b]) []):
  yd T (k+1) zhW [.str s,.int n,.int x,.int y,.int m] st=.ok (.tp AB [.int a,.int b]) st:=by
 have hT:T zhW=AA zgd:=rfl;have hd:decide (5<6)=true:=rfl;rw[zc hT rfl rfl rfl];erw[zgd,AL,Ad,Ci,AV,Az,BV,xs_cons,zp2,IC.ve2,Ak,fl_ok];simp! [hd,hj,zjx,e,zaz]
theorem zjE:mkV zT AC (.str "move")=AA zfB/\mkV zT AC (.str "bare")=AA zfC/\mkV zT AC (.str "sum")=AA zen/\mkV zT AC (.str "less")=AA zba/\mkV zT AC (.str "both")=AA zcR /\
  mkV zT AC (.str "any")=AA zed/\mkV zT AC (.str "odd")=AA zev/\mkV zT AC (.str "twice")=AA zdu/\mkV zT AC (.str "half")=AA zeq:=by
 refine⟨?_,?_,?_,?_,?_,?_,?_,?_,?_⟩<;>decide +kernel
theorem yfW{i j:Nat}{k:Bool}{a b:PV}{ρ:IC.Env}:yR (.t [i,j]) (.tp k [a,b]) ρ=AA ((ρ.set i (AA a)).set j (AA b)):=rfl
theorem ye5{call:Cl}{ρ:IC.Env}{st:SO}:ev call ρ st (.neg (.cst (.int 1)))=.ok (.int (-1)) st:=by erw[ev,R.bind]
def okM(r:R PV)(st:SO)(m l:Nat)(w:Int)(M':Mem)(mk':Int)(L':Nat):Prop:=∃st',MM st' m l w M' mk' L'/\(∀n,n≠m->n≠l->st'[n]?=st[n]?)/\st'.length=st.length/\r=.ok .non st'
section
variable {st:SO}{m l L n:Nat}{mk:Int}{M:Mem}
theorem zaP(k:Nat)(h:MM st m l n M mk L)(hL:L<999999){s:AQ}{j:Nat}(hj:mkV zT AC (.str s)=AA j){t x z:Cel}{r:List PV}
  (hlast:∀st,idxV st (.tp AB (.str s::yG t::yG x::r)) (.int (-1))=AA (yG z)) {v m':Int} (e:yd T (k+3) j [.int n,.int (rd M x),.int (rd M z),.int mk] []=.ok (.tp AB [.int v,.int m']) []):
  okM (yd T (k+5) zaf [.loc m,.tp AB (.str s::yG t::yG x::r)] st) st m l n (wr M t v) m' (L+1):=by
 have hT:T zaf=AA zS:=rfl;have e1:yd T (k+4) zu [.loc m,yG x] st=.ok (.int (rd M x)) st:=zcj (k+3) h x;have e2:yd T (k+4) zu [.loc m,yG z] st=.ok (.int (rd M z)) st:=zcj (k+3) h z;have e3:yd T (k+4) zhW [.str s,.int n,.int (rd M x),.int (rd M z),.int mk] st=_:=made hj (k+3) st e;have ih:=h.ins (AG "held_in");let⟨s1,d1,⟨o,ho⟩,h1⟩:=h.sd hL t v;let⟨d2,h2⟩:=h1.sm m';refine⟨_,h2,λq a b=>?_,by simp[ho],?_⟩
 .rw[AM (BJ a),ho,AM (BJ b)]
 rw[zp hT rfl rfl];generalize yG t=ct at *;generalize yG x=cx at *;generalize yG z=cz at *;simp! [zS,ih,ix0,ix1,ix2,e1,ye5,hlast,e2,yfW,h.fw,h.fm,e3,h.fd,zfO,d1,zai,zfw,d2,DN,IC.ve32,IC.ve37];rfl
end
section
variable {st:SO}{m l L n:Nat}{mk:Int}{M:Mem}
theorem zb0(k:Nat){s:AQ}{r:List PV}{M':Mem}{mk':Int}{L':Nat}(h:MM st m l n M mk L)(q1:yN .eq (.str s) (.str "mark")=AA (.bl AB))(q2:yN .eq (.str s) (.str "ask")=AA (.bl AB))(q3:yN .eq (.str s) (.str "set")=AA (.bl AB))(q4:yN .eq (.str s) (.str "times")=AA (.bl AB))
  (g:okM (yd T (k+5) zaf [.loc m,.tp AB (.str s::r)] st) st m l n M' mk' L'):okM (yd T (k+6) zm [.loc m,.tp AB (.str s::r)] st) st m l n M' mk' L':=by
 have hT:T zm=AA zh:=rfl;let⟨st',g1,g2,g3,e⟩:=g;refine⟨st',g1,g2,g3,?_⟩;have ih:=h.ins (AG "go_made");rw[zp hT rfl rfl];simp! [zh,ix0,q1,q2,q3,q4,ih,e,IC.ve37];rfl
theorem MM.le{L':Nat}{w:Int}(h:MM st m l w M mk L)(hL:L<=L'):MM st m l w M mk L':=⟨h.o,h.d.le hL,h.ne⟩
theorem zl7(k:Nat)(h:MM st m l n M mk L)(d:Int):okM (yd T (k+6) zm [.loc m,yV (.mark d)] st) st m l n M d (L+1):=by
 have hT:T zm=AA zh:=rfl;let⟨d2,h2⟩:=h.sm d;refine⟨_,h2.le (by lia),λq a b=>by rw[AM (BJ a)],by simp,?_⟩;have q:yN .eq (.str "mark") (.str "mark")=AA (.bl AC):=by ac_rfl
 rw[zp hT rfl rfl];simp! [zh,yV,ix0,ix1,q,zfw,d2,zai];rfl
theorem zo3(k:Nat)(h:MM st m l n M mk L)(x:Cel):okM (yd T (k+6) zm [.loc m,yV (.ask x)] st) st m l n M (bi (!(rd M x==0))) (L+1):=by
 have hT:T zm=AA zh:=rfl;let⟨d2,h2⟩:=h.sm (bi (!(rd M x==0)));refine⟨_,h2.le (by lia),λq a b=>by rw[AM (BJ a)],by simp,?_⟩;have q:yN .eq (.str "ask") (.str "mark")=AA (.bl AB):=by ac_rfl
 have q2:yN .eq (.str "ask") (.str "ask")=AA (.bl AC):=by ac_rfl
 have e1:yd T (k+5) zu [.loc m,yG x] st=.ok (.int (rd M x)) st:=zcj (k+4) h x;have ih:=h.ins (AG "held_in");rw[zp hT rfl rfl];erw[yV];generalize yG x=cx at *
 cases e:(rd M x==0)with
 |true=>
  rw[e]at d2;have d2:ya9 cM st (.loc m) smk (.int 0)=_:=d2;simp! [zh,ix0,ix1,q,q2,ih,e1,e,zfw,d2,zai,IC.ve37];rfl
 |false=>
  rw[e]at d2;have d2:ya9 cM st (.loc m) smk (.int 1)=_:=d2;simp! [zh,ix0,ix1,q,q2,ih,e1,e,zfw,d2,zai,IC.ve37];rfl
theorem zm0(k:Nat)(h:MM st m l n M mk L)(hL:L<999999)(t:Cel)(d:Int):okM (yd T (k+6) zm [.loc m,yV (.set t d)] st) st m l n (wr M t d) mk (L+1):=by
 have hT:T zm=AA zh:=rfl;let⟨s1,d1,⟨o,ho⟩,h1⟩:=h.sd hL t d;refine⟨_,h1,λq a b=>by rw[ho,AM (BJ b)],by simp[ho],?_⟩;have q:yN .eq (.str "set") (.str "mark")=AA (.bl AB):=by ac_rfl
 have q2:yN .eq (.str "set") (.str "ask")=AA (.bl AB):=by ac_rfl
 have q3:yN .eq (.str "set") (.str "set")=AA (.bl AC):=by ac_rfl
 rw[zp hT rfl rfl];erw[yV];generalize yG t=ct at *;simp! [zh,ix0,ix1,ix2,q,q2,q3,h.fd,zfO,d1,zai,IC.ve32];rfl
theorem ycl{s a b:PV}:∀st,idxV st (.tp AB [s,a,b]) (.int (-1))=AA b:=λst=>rfl
theorem yb8{s a b c:PV}:∀st,idxV st (.tp AB [s,a,b,c]) (.int (-1))=AA c:=λst=>rfl
theorem zmP(a:Int):(if a<0 then(1:Int)else 0)=bi (decide (a<0)):=by
 by_cases h:a<0<;>simp[h,bi]
theorem okM.le{R:R PV}{w:Int}{L':Nat}(h:okM R st m l w M mk L)(hL:L<=L'):okM R st m l w M mk L':=by
 let⟨s,a,b,c,d⟩:=h;exact⟨s,a.le hL,b,c,d⟩
theorem zkm(k:Nat)(h:MM st m l n M mk L)(hL:L+1<999999)(hn:n<=100)(a b x y:Cel)(hx:(rd M x).natAbs<18446744073709551616):okM (yd T (k+6) zm [.loc m,yV (.times a b x y)] st) st m l n (wr (wr M a (rd M x*rd M y%2^n)) b (rd M x*rd M y/2^n)) mk (L+2):=by
 have hT:T zm=AA zh:=rfl;have hT2:T zaD=AA zM:=rfl;let⟨s1,d1,⟨o1,ho1⟩,h1⟩:=h.sd (by lia) a (rd M x*rd M y%2^n);let⟨s2,d2,⟨o2,ho2⟩,h2⟩:=h1.sd (by lia) b (rd M x*rd M y/2^n);refine⟨s2,h2,λq _ c=>by rw[ho2,AM (BJ c),ho1,AM (BJ c)],by simp[ho1,ho2],?_⟩;have q1:yN .eq (.str "times") (.str "mark")=AA (.bl AB):=by ac_rfl
 have q2:yN .eq (.str "times") (.str "ask")=AA (.bl AB):=by ac_rfl
 have q3:yN .eq (.str "times") (.str "set")=AA (.bl AB):=by ac_rfl
 have q4:yN .eq (.str "times") (.str "times")=AA (.bl AC):=by ac_rfl
 have ix:∀(st:SO) (a b c d e:PV),idxV st (.tp AB [a,b,c,d,e]) (.int 1)=AA b/\idxV st (.tp AB [a,b,c,d,e]) (.int 2)=AA c/\idxV st (.tp AB [a,b,c,d,e]) (.int 3)=AA d/\idxV st (.tp AB [a,b,c,d,e]) (.int 4)=AA e:=λ_ _ _ _ _ _=>⟨rfl,rfl,rfl,rfl⟩;have ih:=h.ins (AG "go_times");have ih2:=h.ins (AG "held_in");have e1:=zcj (k+3) h x;have e2:=zcj (k+3) h y;have e3:=λs=>highest (k+3) n hn s;have bm:=zaF (i:=rd M x) (j:=rd M y) hx;have f1:=h.fw;have f2:=h.fd;have f3:=h1.fw;have f4:=h1.fd;have g:yd T (k+5) zaD [.loc m,yV (.times a b x y)] st=.ok .non s2:=by
  rw[zp hT2 rfl rfl];erw[yV];generalize rd M x*rd M y=p at *;generalize yG a=ca at *;generalize yG b=cb at *;generalize yG x=cx at *;generalize yG y=cy at *;simp! [zM,ih2,e1,e2,e3,ix,bm,f1,f2,f3,f4,band,zdD,zmz,zfO,d1,d2,zai,IC.ve32,IC.ve37];rfl
 rw[zp hT rfl rfl];erw[yV]at g ⊢;simp! [zh,ix0,q1,q2,q3,q4,ih,g,IC.ve37];rfl
theorem zoW(k:Nat)(h:MM st m l n M mk L)(hL:L+1<999999)(hn:n<=100)(hn1:1<=n)(r:Rw)(hh:∀t x,r=.half t x->0<=rd M x/\rd M x<2^n/\0<=mk/\mk<2)(ht:∀a b x y,r=.times a b x y->(rd M x).natAbs<18446744073709551616):
  okM (yd T (k+6) zm [.loc m,yV r] st) st m l n (stepM (2^n) M mk r).1 (stepM (2^n) M mk r).2 (L+2):=by
 have hL':L<999999:=by lia
 have up:=λ{R:R PV} {M':Mem} {mk':Int} (h:okM R st m l n M' mk' (L+1))=>h.le (show L+1<=L+2 by lia);let⟨j1,j2,j3,j4,j5,j6,j7,j8,j9⟩:=zjE
 cases r with
 |mark d=>exact up (zl7 k h d)
 |ask x=>exact up (zo3 k h x)
 |set t d=>exact up (zm0 k h hL' t d)
 |move t x=>exact up (zb0 k h (by ac_rfl) (by ac_rfl) (by ac_rfl) (by ac_rfl) (zaP k h hL' j1 ycl (zlf hn (k+2) [])))
 |bare t x=>exact up (zb0 k h (by ac_rfl) (by ac_rfl) (by ac_rfl) (by ac_rfl) (zaP k h hL' j2 ycl (zl4 hn (k+1) [])))
 |twice t x=>
  have e:=zg4 (x:=rd M x) (y:=rd M x) (m:=mk) hn k [];rw[show rd M x+rd M x+mk=2*rd M x+mk by lia]at e;exact up (zb0 k h (by ac_rfl) (by ac_rfl) (by ac_rfl) (by ac_rfl) (zaP k h hL' j8 ycl e))
 |half t x=>
  let⟨a,b,c,d⟩:=hh t x rfl;exact up (zb0 k h (by ac_rfl) (by ac_rfl) (by ac_rfl) (by ac_rfl) (zaP k h hL' j9 ycl (zki hn hn1 (k+2) [] a b c d)))
 |sum t x y=>exact up (zb0 k h (by ac_rfl) (by ac_rfl) (by ac_rfl) (by ac_rfl) (zaP k h hL' j3 yb8 (zf6 hn (k+1) [])))
 |less t x y=>
  have e:=zmG (x:=rd M x) (y:=rd M y) (m:=mk) hn (k+1) [];rw[zmP]at e;exact up (zb0 k h (by ac_rfl) (by ac_rfl) (by ac_rfl) (by ac_rfl) (zaP k h hL' j4 yb8 e))
 |both t x y=>exact up (zb0 k h (by ac_rfl) (by ac_rfl) (by ac_rfl) (by ac_rfl) (zaP k h hL' j5 yb8 (zng hn (k+2) [])))
 |any t x y=>exact up (zb0 k h (by ac_rfl) (by ac_rfl) (by ac_rfl) (by ac_rfl) (zaP k h hL' j6 yb8 (zpJ hn (k+2) [])))
 |odd t x y=>exact up (zb0 k h (by ac_rfl) (by ac_rfl) (by ac_rfl) (by ac_rfl) (zaP k h hL' j7 yb8 (zpO hn (k+2) [])))
 |times a b x y=>exact zkm k h hL hn a b x y (ht a b x y rfl)
end
noncomputable abbrev cZ:Cel:=(122,0)
noncomputable abbrev cS:Cel:=(115,0)
noncomputable abbrev cT:Cel:=(116,0)
noncomputable def yC(f:Int->Rw):Nat->List Rw
 |0=>[]
 |n+1=>yC f n++[f n]
def yI(n:Nat)(f:Cel->Cel->Cel->Rw):List Rw:=yC (λi=>f (99,i) (97,i) (98,i)) n
def yE(n:Nat):List Rw:=[.set cS 0]++yC (λi=>Rw.any cS cS (99,i)) n++[.ask cS,.set (109,2) 1,.less (109,2) (109,2) cZ,.twice cT (99,(n:Int)-1),.sum (109,3) cZ cZ]
def yP(a b c:Cel):List Rw:=[.odd cT a b,.odd cS a c,.both cT cT cS,.twice cT cT,.sum (109,1) cZ cZ]
def yah(n:Nat):List Rw:=[.mark 0]++yI n .sum++[.sum (109,0) cZ cZ]++yP (99,(n:Int)-1) (97,(n:Int)-1) (98,(n:Int)-1)++yE n
def yab(n:Nat):List Rw:=[.mark 0]++yI n .less++[.sum (109,0) cZ cZ]++yP (97,(n:Int)-1) (98,(n:Int)-1) (99,(n:Int)-1)++yE n
def yac(n:Nat):List Rw:=yab n++[.odd (109,1) (109,1) (109,3),.set (109,3) 0]
noncomputable def yh(W:Int):Nat->Int->List Int
 |0,_=>[]
 |n+1,x=>x%W::yh W n (x/W)
theorem zI(W:Int):∀n x,(yh W n x).length=n
 |0,_=>rfl
 |n+1,x=>by rw[yh,AZ,zI]
def yaD(c:Nat):Nat->List Int->Mem->Mem
 |_,[],M=>M
 |i,v::vs,M=>yaD c (i+1) vs (upd M c i v)
noncomputable def M0:Mem:=λ_ _=>0
def yad(W:Int)(n:Nat)(x y:Int):Mem:=yaD 98 0 (yh W n y) (yaD 97 0 (yh W n x) M0)
noncomputable def yo(W:Int)(M:Mem)(c:Nat):Nat->Int
 |0=>0
 |n+1=>yo W M c n+M c n*W^n
structure Cx where
 l:Nat
 c:Int
 i:Int
 j:Int
 m:Int
deriving DecidableEq
inductive Op where
 |fig (d:Int)|cel (x:Cx)
deriving DecidableEq
structure Rs where
 nm:AQ
 ops:List Op
deriving DecidableEq
inductive T2 where
 |row (r:Rs)|rounds (c m t:Int) (rs:List Rs)
deriving DecidableEq
inductive T1 where
 |row (r:Rs)|rounds (c m t:Int) (ps:List T2)
deriving DecidableEq
noncomputable def Cx.at(x:Cx)(I J n:Int):Int:=x.c+x.i*I+x.j*J+x.m*n
def Op.pv(I J n:Int):Op->PV
 |.fig d=>.int d
 |.cel x=>yae x.l (x.at I J n)
def Rs.pv(r:Rs)(I J n:Int):PV:=.tup (.str r.nm::r.ops.map (Op.pv I J n))
noncomputable def cnt(c m t w n:Int):Nat:=(c+m*n+t*w*n).toNat
noncomputable def upTo{α:Type}(f:Nat->List α):Nat->List α
 |0=>[]
 |n+1=>upTo f n++f n
def T2.rows(w n:Int)(I:Nat):T2->List PV
 |.row r=>[r.pv I 0 n]
 |.rounds c m t rs=>upTo (λJ=>rs.map λr=>r.pv I J n) (cnt c m t w n)
def T2.rnd(w n:Int):T2->Nat
 |.row _=>0
 |.rounds c m t _=>cnt c m t w n
def yaj(w n:Int)(I:Nat)(ps:List T2):List PV:=ps.flatMap (T2.rows w n I)
def ybs(w n:Int)(ps:List T2):Nat:=(ps.map (T2.rnd w n)).sum
def T1.rows(w n:Int):T1->List PV
 |.row r=>[r.pv 0 0 n]
 |.rounds c m t ps=>upTo (λI=>yaj w n I ps) (cnt c m t w n)
def T1.rnd(w n:Int):T1->Nat
 |.row _=>0
 |.rounds c m t ps=>cnt c m t w n*(1+ybs w n ps)
def yM(w n:Int)(ps:List T1):List PV:=ps.flatMap (T1.rows w n)
def yaM(w n:Int)(ps:List T1):Nat:=(ps.map (T1.rnd w n)).sum
noncomputable def sm(i:Int):Bool:=decide (i.natAbs<=200)
noncomputable def tpP:PV->Option (List PV)
 |.tp _ xs=>AA xs
 |_=>AD
theorem zk2{v:PV}{xs:List PV}(h:tpP v=AA xs):∃b,v=.tp b xs:=by
 cases v<;>cases h
 exact⟨_,rfl⟩
noncomputable def yc4:List PV->Option (List Int)
 |[]=>AA []
 |.int i::vs=>(yc4 vs).map (i :: ·)
 |_::_=>AD
theorem zhp:∀{vs:List PV} {l:List Int},yc4 vs=AA l->vs=l.map .int
 |[],_,h=>by cases h;rfl
 |v::vs,l,h=>by
  cases v<;>try cases h
  rename_i i
  cases e:yc4 vs with
  |none=>rw[yc4,e]at h;cases h
  |some r=>rw[yc4,e]at h;cases h;rw[zhp e];rfl
def ycb(v:PV):Option (List Int):=(tpP v).bind yc4
theorem zfQ{v:PV}{l:List Int}(h:ycb v=AA l):∃b,v=.tp b (l.map .int):=by
 cases e:tpP v with
 |none=>rw[ycb,e]at h;cases h
 |some xs=>
  rw[ycb,e]at h;let⟨b,rfl⟩:=zk2 e;rw[zhp h];exact⟨b,rfl⟩
def ydo(s:AQ):Option (List Int)->Option Op
 |some [c,i,j,m]=>if s=chS (s.cps.getD 0 0)/\(sm c&&sm i&&sm j&&sm m)=AC then AA (.cel ⟨s.cps.getD 0 0,c,i,j,m⟩)else AD
 |_=>AD
def yeF:List PV->Option Op
 |[.str s,u]=>ydo s (ycb u)
 |_=>AD
def yeR:PV->Option Op
 |.int d=>AA (.fig d)
 |v=>(tpP v).bind yeF
def ybD:List PV->Option (List Op)
 |[]=>AA []
 |v::vs=>match yeR v,ybD vs with
  |some a,AA b=>AA (a::b)
  |_,_=>AD
def rowOf:PV->Option Rs
 |.tp _ (.str nm::vs)=>match ybD vs with
  |some ops=>if vs.length<100 then AA ⟨nm,ops⟩else AD
  |none=>AD
 |_=>AD
noncomputable def ydF(s:AQ):Bool:=decide (s=AG "row")
def ych:PV->Option Rs
 |.tp _ [.str s,v]=>if ydF s then rowOf v else AD
 |_=>AD
def deepOf:List PV->Option (List Rs)
 |[]=>AA []
 |v::vs=>match ych v,deepOf vs with
  |some a,AA b=>AA (a::b)
  |_,_=>AD
noncomputable def ydJ(s:AQ):Bool:=decide (s=AG "rounds")
def rn3(vs:List PV):Option (List Int)->Option (Int×Int×Int×List PV)
 |some [c,m,t]=>if sm c&&sm m&&sm t then AA (c,m,t,vs)else AD
 |_=>AD
def rn1:List PV->Option (Int×Int×Int×List PV)
 |[.str s,b,_,d]=>if ydJ s then(tpP d).bind λvs=>rn3 vs (ycb b)else AD
 |_=>AD
def rnP(v:PV):Option (Int×Int×Int×List PV):=(tpP v).bind rn1
def part2(v:PV):Option T2:=
 match rnP v with
 |some (c,m,t,vs)=>(deepOf vs).map (.rounds c m t)
 |none=>(ych v).map .row
def yaZ:List PV->Option (List T2)
 |[]=>AA []
 |v::vs=>match part2 v,yaZ vs with
  |some a,AA b=>AA (a::b)
  |_,_=>AD
def part1(v:PV):Option T1:=
 match rnP v with
 |some (c,m,t,vs)=>(yaZ vs).map (.rounds c m t)
 |none=>(ych v).map .row
def yaQ:List PV->Option (List T1)
 |[]=>AA []
 |v::vs=>match part1 v,yaQ vs with
  |some a,AA b=>AA (a::b)
  |_,_=>AD
theorem zmR{v:PV}{o:Op}(h:yeR v=AA o):(∃d,o=.fig d/\v=.int d) \/ ∃a b x,o=.cel x/\v=.tp a [.str (chS x.l),.tp b [.int x.c,.int x.i,.int x.j,.int x.m]]/\x.i.natAbs<=200/\x.j.natAbs<=200/\x.m.natAbs<=200:=by
 cases v with
 |int d=>cases h;exact .inl ⟨_,rfl,rfl⟩
 |tp a xs=>
  right
  change yeF xs=AA o at h
  unfold yeF at h;split at h
  .rename_i s u;unfold ydo at h;split at h
   .rename_i c i j m e;split at h
    .rename_i q
     cases h
     have q2:=q.2;erw[sm,AK,decide_eq_true_eq]at q2;let⟨b,rfl⟩:=zfQ e;refine⟨a,b,_,rfl,?_,q2.1.1.2,q2.1.2,q2.2⟩;simp only;rw[<-q.1];rfl
    .cases h
   .cases h
  .cases h
 |_=>cases h
theorem zkT{v:PV}{c m t:Int}{vs:List PV}(h:rnP v=AA (c,m,t,vs)):∃a b sn d,v=.tp a [.str "rounds",.tp b [.int c,.int m,.int t],sn,.tp d vs]/\c.natAbs<=200/\m.natAbs<=200/\t.natAbs<=200:=by
 cases v with
 |tp a xs=>
  change rn1 xs=AA _ at h
  unfold rn1 at h;split at h
  .rename_i s b sn d;split at h
   .rename_i q
    cases e:tpP d with
    |none=>rw[e]at h;cases h
    |some us=>
     rw[e]at h
     change rn3 us _=AA _ at h
     unfold rn3 at h;split at h
     .rename_i c m t e1;split at h
      .rename_i q1
       cases h
       erw[ydJ,sm,AK,decide_eq_true_eq]at q q1;let⟨d,rfl⟩:=zk2 e;let⟨b,rfl⟩:=zfQ e1;exact⟨a,b,sn,d,by rw[q];rfl,q1.1.1,q1.1.2,q1.2⟩
      .cases h
     .cases h
   .cases h
  .cases h
 |_=>cases h
theorem zjv{v:PV}{r:Rs}(h:rowOf v=AA r):∃a vs,v=.tp a (.str r.nm::vs)/\ybD vs=AA r.ops/\vs.length<100:=by
 unfold rowOf at h;split at h
 .rename_i a nm vs;split at h
  .rename_i ops q;split at h
   .rename_i z
    cases h;exact⟨a,vs,rfl,q,z⟩
   .cases h
  .cases h
 .cases h
theorem zlV{v:PV}{r:Rs}(h:ych v=AA r):∃a v1,v=.tp a [.str "row",v1]/\rowOf v1=AA r:=by
 unfold ych at h;split at h
 .rename_i a s v1;split at h
  .rename_i q;have q:s=AG "row":=by simpa [ydF] using q
   exact⟨a,v1,by rw[q],h⟩
  .cases h
 .cases h
theorem zjz{v:PV}{p:T2}(h:part2 v=AA p):(∃r,p=.row r/\ych v=AA r) \/ ∃a b sn d vs c m t rs,p=.rounds c m t rs/\v=.tp a [.str "rounds",.tp b [.int c,.int m,.int t],sn,.tp d vs]/\deepOf vs=AA rs/\c.natAbs<=200/\m.natAbs<=200/\t.natAbs<=200:=by
 unfold part2 at h;split at h
 .right;rename_i c m t vs e;let⟨a,b,sn,d,rfl,q⟩:=zkT e
  cases e:deepOf vs with
  |none=>rw[e]at h;cases h
  |some rs=>
   rw[e]at h
   cases h
   exact⟨a,b,sn,d,vs,c,m,t,rs,rfl,rfl,e,q⟩
 .left
  cases e:ych v with
  |none=>rw[e]at h;cases h
  |some r=>rw[e]at h;cases h;exact⟨r,rfl,rfl⟩
theorem zjF{v:PV}{p:T1}(h:part1 v=AA p):(∃r,p=.row r/\ych v=AA r) \/ ∃a b sn d vs c m t ps,p=.rounds c m t ps/\v=.tp a [.str "rounds",.tp b [.int c,.int m,.int t],sn,.tp d vs]/\yaZ vs=AA ps/\c.natAbs<=200/\m.natAbs<=200/\t.natAbs<=200:=by
 unfold part1 at h;split at h
 .right;rename_i c m t vs e;let⟨a,b,sn,d,rfl,q⟩:=zkT e
  cases e:yaZ vs with
  |none=>rw[e]at h;cases h
  |some rs=>
   rw[e]at h
   cases h
   exact⟨a,b,sn,d,vs,c,m,t,rs,rfl,rfl,e,q⟩
 .left
  cases e:ych v with
  |none=>rw[e]at h;cases h
  |some r=>rw[e]at h;cases h;exact⟨r,rfl,rfl⟩
noncomputable abbrev cU:Nat:=20
noncomputable abbrev sn:Str:=AG "n"
noncomputable abbrev sst:Str:=AG "steps"
noncomputable abbrev srw:Str:=AG "rows"
noncomputable abbrev srd:Str:=AG "rounds"
abbrev ufs(w n:Int)(l:Nat)(r q:Int):List (AQ×PV):=[(sw,.int w),(sn,.int n),(sst,.loc l),(srw,.int r),(srd,.int q)]
def uob(w n:Int)(l:Nat)(r q:Int):Ob:=.ins cU (ufs w n l r q)
structure UM(st:SO)(u l:Nat)(w n r q:Int)(xs:List PV):Prop where
 o:st[u]?=AA (uob w n l r q)
 d:st[l]?=AA (.lst xs)
 ne:u≠l
section
variable {st:SO}{u l:Nat}{w n r q:Int}{xs:List PV}
theorem UM.fw(h:UM st u l w n r q xs):ya6 cU st (.loc u) sw=AA (.int w):=by erw[ya6,h.o,uob,if_true];ac_rfl
theorem UM.fn(h:UM st u l w n r q xs):ya6 cU st (.loc u) sn=AA (.int n):=by erw[ya6,h.o,uob,if_true];ac_rfl
theorem UM.fs(h:UM st u l w n r q xs):ya6 cU st (.loc u) sst=AA (.loc l):=by erw[ya6,h.o,uob,if_true];ac_rfl
theorem UM.fr(h:UM st u l w n r q xs):ya6 cU st (.loc u) srw=AA (.int r):=by erw[ya6,h.o,uob,if_true];ac_rfl
theorem UM.fq(h:UM st u l w n r q xs):ya6 cU st (.loc u) srd=AA (.int q):=by erw[ya6,h.o,uob,if_true];ac_rfl
theorem UM.sr(h:UM st u l w n r q xs)(v:Int):ya9 cU st (.loc u) srw (.int v)=AA (st.set u (uob w n l v q))/\UM (st.set u (uob w n l v q)) u l w n v q xs:=by
 refine⟨?_,rdS h.o,by rw[AM h.ne];exact h.d,h.ne⟩;erw[ya9,h.o,uob];rw[if_pos ⟨trivial,by simp⟩,show ybR srw (.int v) (ufs w n l r q)=ufs w n l v q by ac_rfl]
theorem UM.sq(h:UM st u l w n r q xs)(v:Int):ya9 cU st (.loc u) srd (.int v)=AA (st.set u (uob w n l r v))/\UM (st.set u (uob w n l r v)) u l w n r v xs:=by
 refine⟨?_,rdS h.o,by rw[AM h.ne];exact h.d,h.ne⟩;erw[ya9,h.o,uob];rw[if_pos ⟨trivial,by simp⟩,show ybR srd (.int v) (ufs w n l r q)=ufs w n l r v by ac_rfl]
theorem UM.ap(h:UM st u l w n r q xs)(hx:xs.length<1000000)(v:PV):ycu .append st (.loc l) [v]=.ok .non (st.set l (.lst (xs++[v])))/\UM (st.set l (.lst (xs++[v]))) u l w n r q (xs++[v]):=by
 refine⟨?_,by rw[AM (BJ h.ne)];exact h.o,rdS h.d,h.ne⟩;unfold ycu;erw[yd0,h.d];rw[if_pos hx]
theorem UM.ok(h:UM st u l w n r q xs):yaS .append st (.loc l)=AA true:=by simp[yaS,yam,h.d]
theorem UM.ins(h:UM st u l w n r q xs)(x:AQ)(hx:((ufs 0 0 0 0 0).lookup x).isNone=true:=by decide +kernel):ycc cU x st (.loc u)=AA true:=by
 have e:(ufs w n l r q).lookup x=none:=by
  erw[ufs,Bu]at hx ⊢
  cases h1:x==sw<;>rw[h1]at hx<;>simp only at hx ⊢<;>try cases hx
  cases h2:x==sn<;>rw[h2]at hx<;>simp only at hx ⊢<;>try cases hx
  cases h3:x==sst<;>rw[h3]at hx<;>simp only at hx ⊢<;>try cases hx
  cases h4:x==srw<;>rw[h4]at hx<;>simp only at hx ⊢<;>try cases hx
  cases h5:x==srd<;>rw[h5]at hx<;>simp only at hx ⊢<;>try cases hx
 erw[ycc,h.o,uob];rw[if_pos ⟨trivial,e⟩]
theorem ziG(k:Nat)(h:UM st u l w n r q xs)(hq:q+1<=4000):∃s,yd T (k+1) zQ [.loc u] st=.ok .non s/\UM s u l w n r (q+1) xs:=by
 have hT:T zQ=AA zB:=rfl;let⟨d,h2⟩:=h.sq (q+1);have c:decide (q+1 > 4000)=false:=decide_eq_false (by lia);have vM:zbT=.int 4000:=rfl;refine⟨_,?_,h2⟩;rw[zp hT rfl rfl];have f1:=h.fq;have f2:=h2.fq;simp! [zB,f1,zfw,d,zai,f2,vM,c,IC.ve32,zbt];rfl
theorem zfk(k:Nat):∀(G:List Int),G.length<=2->∀s:SO,yd T (k+1) zaW [.tp AB (G.map .int)] s=.ok (.tp AB [.int (G.headD 0),.int (G.tail.headD 0)]) s
 |[],_,s=>by
  have hT:T zaW=AA zaC:=rfl;rw[zc hT rfl rfl rfl];rfl
 |[a],_,s=>by
  have hT:T zaW=AA zaC:=rfl;rw[zc hT rfl rfl rfl];rfl
 |[a,b],_,s=>by
  have hT:T zaW=AA zaC:=rfl;rw[zc hT rfl rfl rfl];rfl
theorem zhe(k:Nat)(h:UM st u l w n r q xs)(hx:xs.length<1000000)(sen:PV)(G:List Int)(hG:G.length<=2):∃s,yd T (k+2) zO [.loc u,sen,.tp AB (G.map .int)] st=.ok .non s/\UM s u l w n r q (xs++[.tp AB [.str "asked",sen,.int (G.headD 0),.int (G.tail.headD 0)]]):=by
 have hT:T zO=AA zA:=rfl;have e1:=zfk k G hG st;let⟨a,h2⟩:=h.ap hx (.tp AB [.str "asked",sen,.int (G.headD 0),.int (G.tail.headD 0)]);have bt:∀(i j:Nat) (a b:PV) (ρ:IC.Env),yR (.t [i,j]) (.tp AB [a,b]) ρ=AA ((ρ.set i (AA a)).set j (AA b)):=λ_ _ _ _ _=>rfl;refine⟨_,?_,h2⟩;rw[zp hT rfl rfl];have f1:=h.fs;have o:=h.ok;generalize PV.tp AB (G.map .int)=gv at *;simp! [zA,e1,bt,f1,o,a,IC.ve32,zbt];rfl
theorem zjO(k:Nat)(h:UM st u l w n r q xs)(bb:Bool)(c m t:Int)(b1:yJ .mul (.int m) (.int n)=AA (.int (m*n)))(b2:yJ .mul (.int t) (.int w)=AA (.int (t*w)))(b3:yJ .mul (.int (t*w)) (.int n)=AA (.int (t*w*n))):
  yd T (k+1) zV [.loc u,.tp bb [.int c,.int m,.int t]] st=.ok (.int (c+m*n+t*w*n)) st:=by
 have hT:T zV=AA zF:=rfl;have bt:∀(i j k:Nat) (a b c:PV) (ρ:IC.Env),yR (.t [i,j,k]) (.tp bb [a,b,c]) ρ=AA (((ρ.set i (AA a)).set j (AA b)).set k (AA c)):=λ_ _ _ _ _ _ _=>rfl;rw[zp hT rfl rfl];have f1:=h.fw;have f2:=h.fn;simp! [zF,bt,f1,f2,b1,b2,b3,IC.ve32,zbt]
theorem zks(k:Nat){b:Bool}{c i j m I J n:Int}(hi:i.natAbs<=200)(hj:j.natAbs<=200)(hm:m.natAbs<=200)(s:SO):yd T (k+1) zd0 [.tp b [.int c,.int i,.int j,.int m],.int n,.int I,.int J] s=.ok (.int (c+i*I+j*J+m*n)) s:=by
 have hT:T zd0=AA zbh:=rfl;have h1:i.natAbs<18446744073709551616:=by lia
 have h2:j.natAbs<18446744073709551616:=by lia
 have h3:m.natAbs<18446744073709551616:=by lia
 have j2:∀st,idxV st (.tp b [.int c,.int i,.int j,.int m]) (.int 2)=AA (.int j):=λ_=>rfl;have j3:∀st,idxV st (.tp b [.int c,.int i,.int j,.int m]) (.int 3)=AA (.int m):=λ_=>rfl;rw[zc hT rfl rfl rfl];simp! [zbh,ix0,ix1,j2,j3,zaF h1,zaF h2,zaF h3];rfl
theorem placed(k:Nat){v:PV}{o:Op}(h:yeR v=AA o)(I J n:Int)(s:SO):yd T (k+2) zbm [v,.int n,.int I,.int J] s=.ok (o.pv I J n) s:=by
 have hT:T zbm=AA zaS:=rfl;rcases zmR h with⟨d,rfl,rfl⟩|⟨f1,f2,x,rfl,rfl,q1,q2,q3⟩
 .rw[zc hT rfl rfl rfl];have hi:yaU (.int d) [.tuple]=AA (.bl AB):=rfl;simp! [zaS,hi];rfl
 .have hi:yaU (.tp f1 [.str (chS x.l),.tp f2 [.int x.c,.int x.i,.int x.j,.int x.m]]) [.tuple]=AA (.bl AC):=rfl;have e:=λs=>zks k (b:=f2) (c:=x.c) (I:=I) (J:=J) (n:=n) q1 q2 q3 s;rw[zc hT rfl rfl rfl];simp! [zaS,hi,ix0,ix1,e];rfl
theorem zgM(k:Nat)(x:AQ)(I J n:Int)(s:SO):yd T (k+2) zbm [.str x,.int n,.int I,.int J] s=.ok (.str x) s:=by
 have hT:T zbm=AA zaS:=rfl;rw[zc hT rfl rfl rfl];have hi:yaU (.str x) [.tuple]=AA (.bl AB):=rfl;simp! [zaS,hi];rfl
def arC:Ce:=.call zbm (.cons (.var 0) (.cons (.fld cU (.var 3) sn) (.cons (.var 1) (.cons (.var 2) .nil))))
theorem zgk(k:Nat)(h:UM st u l w n r q xs)(I J:Int):∀(vs:List PV) (ops:List Op),ybD vs=AA ops->yar (yd T (k+2)) [AD,AA (.int I),AA (.int J),AA (.loc u)] (.n 0) (.cst (.bl AC)) arC vs st=.ok (ops.map (Op.pv I J n)) st
 |[],ops,e=>by cases e;exact zb2
 |v::vs,ops,e=>by
  unfold ybD at e;split at e
  .rename_i a b ha hb
   cases e
   have hp:=placed k ha I J n st;have f1:=h.fn;have ih:=zgk k h I J vs b hb;have one:ybl (yd T (k+2)) [AD,AA (.int I),AA (.int J),AA (.loc u)] (.n 0) (.cst (.bl AC)) arC v st=.ok (AA (a.pv I J n)) st:=by
    simp! [ybl,arC,f1,hp,IC.ve32]
   rw[zax,one,bd_ok,ih,bd_ok];rfl
  .cases e
theorem ziz:∀{vs:List PV} {ops:List Op},ybD vs=AA ops->ops.length=vs.length
 |[],ops,e=>by cases e;rfl
 |v::vs,ops,e=>by
  unfold ybD at e;split at e
  .rename_i a b ha hb
   cases e
   rw[AZ,AZ,ziz hb]
  .cases e
theorem zlS(k:Nat)(h:UM st u l w n r q xs)(hx:xs.length<1000000)(hr:r+1<=4000){v:PV}{rs:Rs}(hv:rowOf v=AA rs)(G:List Int)(hG:G.length<=2)
  (hrow:∀s,yd T (k+2) zbn [rs.pv (G.headD 0) (G.tail.headD 0) n] s=.ok (.bl AC) s):
  ∃s,yd T (k+3) zaA [.loc u,v,.tp AB (G.map .int)] st=.ok .non s/\UM s u l w n (r+1) q (xs++[.tp AB [.str "row",rs.pv (G.headD 0) (G.tail.headD 0) n]]):=by
 have hT:T zaA=AA zJ:=rfl;let⟨a,vs,rfl,ho,hl⟩:=zjv hv;have e1:=zfk (k+1) G hG st;generalize G.headD 0=I at *;generalize G.tail.headD 0=J at *;have hl2:=ziz ho;have e2:yar (yd T (k+2)) [AD,AA (.int I),AA (.int J),AA (.loc u)] (.n 0) (.cst (.bl AC)) arC (.str rs.nm::vs) st=.ok (.str rs.nm::rs.ops.map (Op.pv I J n)) st:=by
  have hp:=zgM k rs.nm I J n st;have f1:=h.fn;have one:ybl (yd T (k+2)) [AD,AA (.int I),AA (.int J),AA (.loc u)] (.n 0) (.cst (.bl AC)) arC (.str rs.nm) st=.ok (AA (.str rs.nm)) st:=by
   simp! [ybl,arC,f1,hp,IC.ve32]
  rw[zax,one,bd_ok,zgk k h I J vs rs.ops ho,bd_ok];rfl
 have e2:yar (yd T (k+2)) [AD,AA (.int I),AA (.int J),AA (.loc u)] (.n 0) (.cst (.bl AC)) (.call zbm (.cons (.var 0) (.cons (.fld cU (.var 3) sn) (.cons (.var 1) (.cons (.var 2) .nil))))) (.str rs.nm::vs) st=_:=e2;let⟨d,h2⟩:=h.sr (r+1);have ht:∀st,yay .tuple st [.lst (.str rs.nm::rs.ops.map (Op.pv I J n))]=AA (rs.pv I J n):=λ_=>rfl;let⟨b,h3⟩:=h2.ap hx (.tp AB [.str "row",rs.pv I J n]);have bt:∀(i j:Nat) (a b:PV) (ρ:IC.Env),yR (.t [i,j]) (.tp AB [a,b]) ρ=AA ((ρ.set i (AA a)).set j (AA b)):=λ_ _ _ _ _=>rfl;have c:decide (r+1 > 4000)=false:=decide_eq_false (by lia);have vM:zdz=.int 4000:=rfl;have f1:=h.fr;have f2:=h2.fr;have f3:=h2.fs;have o:=h2.ok;have lr:=λst=>zcc (.str rs.nm::rs.ops.map (Op.pv I J n)) (by simp[hl2];lia) st;refine⟨_,?_,h3⟩;rw[zp hT rfl rfl];generalize PV.tp AB (G.map .int)=gv at *;generalize PV.str rs.nm::rs.ops.map (Op.pv I J n)=row at *;generalize rs.pv I J n=rowv at *;simp! [zJ,e1,bt,e2,lr,ht,f1,zfw,d,zai,hrow,f2,vM,c,f3,o,b,IC.ve32,zbt];rfl
end
inductive StR:List PV->List PV->Prop
 |nil:StR [] []
 |row {xs rs v}:nL v=AC->StR xs rs->StR (xs++[.tp AB [.str "row",v]]) (rs++[v])
 |ask {xs rs a b c}:nLs [a,b,c]=AC->StR xs rs->StR (xs++[.tp AB [.str "asked",a,b,c]]) rs
def US(st:SO)(u l:Nat)(w n:Int)(R:List PV)(q:Int)(a:Nat):Prop:=∃xs,UM st u l w n R.length q xs/\StR xs R/\xs.length<=R.length+a
section
variable {st:SO}{u l:Nat}{w n q:Int}{R:List PV}{a:Nat}
noncomputable def gpB:Css:=match yt.body with
 |.cons (.for _ _ b) _=>b
 |x=>x
theorem zdK:yN .eq (.str "row") (.str "row")=AA (.bl AC):=by ac_rfl
theorem zgQ:yN .eq (.str "rounds") (.str "row")=AA (.bl AB):=by ac_rfl
theorem zjo(I J n:Int)(o:Op):nL (o.pv I J n)=true:=by cases o<;>rfl
theorem zfp(I J n:Int):∀ops:List Op,nLs (ops.map (Op.pv I J n))=AC
 |[]=>rfl
 |o::os=>by rw[AL,nLs,zjo,zfp I J n os];rfl
theorem zbI(r:Rs)(I J n:Int):nL (r.pv I J n)=true:=by
 show nLs (PV.str r.nm::r.ops.map (Op.pv I J n))=AC;rw[nLs,zfp];rfl
theorem ziQ(k:Nat)(H:US st u l w n R q a)(hR:R.length+1<=4000)(ha:a<=500000){v:PV}{r:Rs}(hv:ych v=AA r)(G:List Int)(hG:G.length<=2)
  (hrow:∀s,yd T (k+2) zbn [r.pv (G.headD 0) (G.tail.headD 0) n] s=.ok (.bl AC) s) (p1:Option PV):
  ∃s,exs (yd T (k+3)) [AA (.loc u),p1,AA (.tp AB (G.map .int)),AA v] st gpB=.nx [AA (.loc u),p1,AA (.tp AB (G.map .int)),AA v] s/\US s u l w n (R++[r.pv (G.headD 0) (G.tail.headD 0) n]) q a:=by
 let⟨xs,h,hs,hx⟩:=H;let⟨b,v1,rfl,h1⟩:=zlV hv;let⟨s,e,h2⟩:=zlS k h (by lia) (by lia) h1 G hG hrow;have ih:=h.ins (AG "add_row");refine⟨s,?_,_,?_,.row (zbI _ _ _ _) hs,by simp;lia⟩
 .generalize PV.tp AB (G.map .int)=gv at *;simp! [gpB,yt,ix0,ix1,zdK,ih,e,IC.ve37]
 .rw[Af,D9];exact h2
theorem ziu(k:Nat)(I J:Int)(p1:Option PV)(ha:a<=500000):∀(vs:List PV) (rs:List Rs) (st:SO) (R:List PV) (p3:Option PV),deepOf vs=AA rs->US st u l w n R q a->R.length+rs.length<=4000 ->
  (∀r∈rs,∀s,yd T (k+2) zbn [r.pv I J n] s=.ok (.bl AC) s) ->
  ∃s p3',ybb (yd T (k+3)) (.n 3) gpB vs [AA (.loc u),p1,AA (.tp AB [.int I,.int J]),p3] st=.nx [AA (.loc u),p1,AA (.tp AB [.int I,.int J]),p3'] s/\US s u l w n (R++rs.map λr=>r.pv I J n) q a
 |[],rs,st,R,p3,hd,H,_,_=>by
  cases hd
  exact⟨st,p3,zL,by simpa using H⟩
 |v::vs,rs,st,R,p3,hd,H,hl,hrow=>by
  unfold deepOf at hd;split at hd
  .rename_i x y hx hy
   cases hd
   erw[AZ]at hl;let⟨s1,e1,H1⟩:=ziQ k H (by lia) ha hx [I,J] (by simp) (hrow x (by simp)) p1;have e1:exs (yd T (k+3)) [AA (.loc u),p1,AA (.tp AB [.int I,.int J]),AA v] st gpB=.nx [AA (.loc u),p1,AA (.tp AB [.int I,.int J]),AA v] s1:=e1;let⟨s2,p3',e2,H2⟩:=ziu k I J p1 ha vs y s1 _ (AA v) hy H1 (by simp;lia) (λr hr=>hrow r (by simp[hr]));refine⟨s2,p3',?_,by simpa using H2⟩;rw[zG (ρ1:=[AA (.loc u),p1,AA (.tp AB [.int I,.int J]),AA v]) rfl,e1];exact e2
  .cases hd
theorem zg5{α:Type}(f:Nat->List α){i:Nat}:∀n,i<=n->(upTo f i).length<=(upTo f n).length
 |0,h=>by
  rw[show i=0 by lia];exact AS _
 |n+1,h=>by
  rcases CK i (n+1)with h1|h1
  .have:=zg5 f (i:=i) n (by lia);rw[upTo,Af];lia
  .have:i=n+1:=by lia
   rw[this];exact AS _
theorem US.ask(H:US st u l w n R q a)(k:Nat)(ha:a+1<=500000)(hR:R.length<=4000)(sen:PV)(hsn:nL sen=AC)(G:List Int)(hG:G.length<=2):∃s,yd T (k+2) zO [.loc u,sen,.tp AB (G.map .int)] st=.ok .non s/\US s u l w n R q (a+1):=by
 let⟨xs,h,hs,hx⟩:=H;let⟨s,e,h2⟩:=zhe k h (by lia) sen G hG;exact⟨s,e,_,h2,.ask (by simp[nLs,nL,hsn]) hs,by simp;lia⟩
theorem US.rnd(H:US st u l w n R q a)(k:Nat)(hq:q+1<=4000):∃s,yd T (k+1) zQ [.loc u] st=.ok .non s/\US s u l w n R (q+1) a:=by
 let⟨xs,h,hs,hx⟩:=H;let⟨s,e,h2⟩:=ziG k h hq;exact⟨s,e,_,h2,hs,hx⟩
theorem US.ins(H:US st u l w n R q a)(x:AQ)(hx:((ufs 0 0 0 0 0).lookup x).isNone=true:=by decide +kernel):ycc cU x st (.loc u)=AA true:=by
 let⟨xs,h,_⟩:=H;exact h.ins x hx
noncomputable def grB:Css:=match yu.body with
 |.cons _ (.cons (.for _ _ b) _)=>b
 |x=>x
theorem yfo:∀(G:List Int),G.length<=1->∀J:Int,yJ .add (.tp AB (G.map .int)) (.tp AB [.int J])=AA (.tp AB ((G++[J]).map .int))
 |[],_,J=>rfl
 |[a],_,J=>rfl
def BodyOk(k u l:Nat)(w n:Int)(d:Bool)(vs:List PV)(G:List Int)(f:Nat->List PV)(qn an J:Nat):Prop:=
 ∀(st:SO) (R:List PV) (q:Int) (a:Nat),US st u l w n R q a->R.length+(f J).length<=4000->q+qn<=4000->a+an<=500000 ->
  ∃s,yd T k zW [.loc u,.tp d vs,.tp AB ((G++[(J:Int)]).map .int)] st=.ok .non s/\US s u l w n (R++f J) (q+qn) (a+an)
theorem zi0(k:Nat){a1 d:Bool}{s0 cn sn:PV}(hsn:nL sn=AC){vs:List PV}{G:List Int}(hG:G.length<=1){f:Nat->List PV}{qn an N:Nat}(hb:∀J<N,BodyOk (k+2) u l w n d vs G f qn an J)
  (hR:R.length+(upTo f N).length<=4000) (hq:q+(N*(1+qn):Nat)<=4000) (ha:a+N*(1+an)<=500000):∀(M j:Nat) (st:SO) (p4:Option PV),j+M=N->US st u l w n (R++upTo f j) (q+(j*(1+qn):Nat)) (a+j*(1+an)) ->
  ∃s p4',ybb (yd T (k+2)) (.n 4) grB (yx M (j:Int) 1) [AA (.loc u),AA (.tp a1 [s0,cn,sn,.tp d vs]),AA (.tp AB (G.map .int)),AA (.int N),p4] st=.nx [AA (.loc u),AA (.tp a1 [s0,cn,sn,.tp d vs]),AA (.tp AB (G.map .int)),AA (.int N),p4'] s/\US s u l w n (R++upTo f N) (q+(N*(1+qn):Nat)) (a+N*(1+an))
 |0,j,st,p4,hj,H=>by
  have:j=N:=by lia
  subst this;exact⟨st,p4,by rw[yx];exact zL,H⟩
 |M+1,j,st,p4,hj,H=>by
  have l1:(upTo f (j+1)).length<=(upTo f N).length:=zg5 f N (by lia);rw[upTo,Af]at l1;have m1:(j+1)*(1+qn)<=N*(1+qn):=F3 _ (by lia);have m2:(j+1)*(1+an)<=N*(1+an):=F3 _ (by lia);have n1:(j+1)*(1+qn)=j*(1+qn)+(1+qn):=GV _ _;have n2:(j+1)*(1+an)=j*(1+an)+(1+an):=GV _ _;let⟨s1,e1,H1⟩:=H.ask k (by lia) (by rw[Af];lia) sn hsn (G++[(j:Int)]) (by simp;lia);let⟨s2,e2,H2⟩:=H1.rnd (k+1) (by lia);let⟨s3,e3,H3⟩:=hb j (by lia) s2 _ _ _ H2 (by rw[Af];lia) (by lia) (by lia);have H3:US s3 u l w n (R++upTo f (j+1)) (q+((j+1)*(1+qn):Nat)) (a+(j+1)*(1+an)):=by
   rw[upTo,<-BP,n1,n2];have x1:q+((j*(1+qn)+(1+qn):Nat):Int)=q+((j*(1+qn):Nat):Int)+1+(qn:Int):=by lia
   have x2:a+(j*(1+an)+(1+an))=a+j*(1+an)+1+an:=by lia
   rw[x1,x2];exact H3
  let⟨s4,p4',e4,H4⟩:=zi0 k (a1:=a1) (s0:=s0) (cn:=cn) (sn:=sn) hsn hG hb hR hq ha M (j+1) s3 (AA (.int j)) (by lia) H3;refine⟨s4,p4',?_,H4⟩;have i1:=H.ins (AG "add_asked");have i2:=H1.ins (AG "add_round");have i3:=H2.ins (AG "go_parts");have c1:=yfo G hG (j:Int);have one:exs (yd T (k+2)) [AA (.loc u),AA (.tp a1 [s0,cn,sn,.tp d vs]),AA (.tp AB (G.map .int)),AA (.int N),AA (.int (j:Int))] st grB=.nx [AA (.loc u),AA (.tp a1 [s0,cn,sn,.tp d vs]),AA (.tp AB (G.map .int)),AA (.int N),AA (.int (j:Int))] s3:=by
   generalize PV.tp AB (G.map .int)=gv at *;generalize PV.tp AB ((G++[(j:Int)]).map .int)=gw at *;generalize PV.tp d vs=pv at *;simp! [grB,yu,ix0,ix1,ix2,ix3,c1,i1,i2,i3,e1,e2,e3,IC.ve37]
  rw[yx,zG (ρ1:=[AA (.loc u),AA (.tp a1 [s0,cn,sn,.tp d vs]),AA (.tp AB (G.map .int)),AA (.int N),AA (.int (j:Int))]) rfl,one];exact e4
theorem US.cnt(H:US st u l w n R q a)(k:Nat)(bb:Bool){c m t:Int}(hm:m.natAbs<=200)(ht:t.natAbs<=200)(n0:0<=n)(n1:n<=8):yd T (k+1) zV [.loc u,.tp bb [.int c,.int m,.int t]] st=.ok (.int (c+m*n+t*w*n)) st:=by
 let⟨xs,h,_⟩:=H;have zcq:∀{i j:Int},j.natAbs<18446744073709551616->yJ .mul (.int i) (.int j)=AA (.int (i*j)):=λh=>zji (.inr h);exact zjO k h bb c m t (zaF (by lia)) (zaF (by lia)) (zcq (by lia))
theorem zmJ(z:Int)(s:SO):yay .max s [.int 0,.int z]=AA (.int ((z.toNat:Nat):Int)):=by
 show AA (PV.int (if 0<z then z else 0))=_;split
 .rw[Cy (by lia)]
 .rw[show z.toNat=0 by lia];rfl
theorem zeX(k:Nat){a1 b d:Bool}{s0 sn:PV}(hsn:nL sn=AC){vs:List PV}{c m t:Int}{G:List Int}(hG:G.length<=1){f:Nat->List PV}{qn an N:Nat}(hN:N=cnt c m t w n)(hm:m.natAbs<=200)(ht:t.natAbs<=200)(n0:0<=n)(n1:n<=8)(hN2:N<1000000)
  (hb:∀J<N,BodyOk (k+2) u l w n d vs G f qn an J) (hR:R.length+(upTo f N).length<=4000) (hq:q+(N*(1+qn):Nat)<=4000) (ha:a+N*(1+an)+1<=500000) (H:US st u l w n R q a):
  ∃s,yd T (k+3) zr [.loc u,.tp a1 [s0,.tp b [.int c,.int m,.int t],sn,.tp d vs],.tp AB (G.map .int)] st=.ok .non s/\US s u l w n (R++upTo f N) (q+(N*(1+qn):Nat)) (a+N*(1+an)+1):=by
 have hT:T zr=AA ⟨3,5,AB,yu.body⟩:=rfl;have e1:=H.cnt (k+1) b (c:=c) hm ht n0 n1;have i1:=H.ins (AG "count_of");let⟨s1,p4,e2,H2⟩:=zi0 k (a1:=a1) (s0:=s0) (cn:=.tp b [.int c,.int m,.int t]) (sn:=sn) (a:=a) (q:=q) (R:=R) hsn hG hb hR hq (by lia) N 0 st AD (by lia) (by simpa [upTo] using H);let⟨s2,e3,H3⟩:=H2.ask k (by lia) (by rw[Af];lia) sn hsn (G++[(N:Int)]) (by simp;lia);have i2:=H2.ins (AG "add_asked");have c1:=yfo G hG (N:Int);have hx:=zmJ (c+m*n+t*w*n) st;have hz:((c+m*n+t*w*n).toNat:Int)=(N:Int):=by rw[hN];rfl
 rw[hz]at hx;have hr:yb3 (.int (N:Int))=AA (yx N 0 1):=by
  erw[yb3];rw[if_pos (by lia)];rfl
 have hbd:yu.body=(match yu.body with
  |.cons x (.cons (.for t i _) r)=>.cons x (.cons (.for t i grB) r)
  |x=>x):=rfl
 refine⟨s2,?_,H3⟩;rw[zp hT rfl rfl];dsimp only;rw[hbd];have e2:ybb (yd T (k+2)) (.n 4) grB (yx N 0 1) _ st=_:=e2;generalize PV.tp AB (G.map .int)=gv at *;generalize PV.tp AB ((G++[(N:Int)]).map .int)=gw at *;generalize PV.tp d vs=pv at *;generalize PV.tp b [.int c,.int m,.int t]=cv at *;generalize c+m*n+t*w*n=z at *;simp! [yu,ix0,ix1,ix2,ix3,i1,e1,hx,hr,e2,c1,i2,e3,IC.ve37,zbt];rfl
theorem zfz(k:Nat){b:Bool}{vs:List PV}{gv:PV}{s:SO}{p3:Option PV}(e:ybb (yd T k) (.n 3) gpB vs [AA (.loc u),AA (.tp b vs),AA gv,AD] st=.nx [AA (.loc u),AA (.tp b vs),AA gv,p3] s):
  yd T (k+1) zW [.loc u,.tp b vs,gv] st=.ok .non s:=by
 have hT:T zW=AA ⟨3,4,AB,yt.body⟩:=rfl
 have hbd:yt.body=(match yt.body with
  |.cons (.for t i _) r=>.cons (.for t i gpB) r
  |x=>x):=rfl
 rw[zp hT rfl rfl];dsimp only;rw[hbd];simp! [yt,e,zbt];rfl
theorem zhY(k:Nat){d:Bool}{vs:List PV}{rs:List Rs}(hd:deepOf vs=AA rs)(I:Int)(J:Nat)(hrow:∀r∈rs,∀s,yd T (k+2) zbn [r.pv I J n] s=.ok (.bl AC) s):BodyOk (k+4) u l w n d vs [I] (λJ=>rs.map λr=>r.pv I J n) 0 0 J:=by
 intro st R q a H h1 h2 h3;let⟨s,p3,e,H2⟩:=ziu k (a:=a) (q:=q) I J (AA (.tp d vs)) (by lia) vs rs st R AD hd H (by simpa using h1) hrow;exact⟨s,zfz (k+3) e,by simpa using H2⟩
theorem zk0(k:Nat)(H:US st u l w n R q a){a1:Bool}{r:List PV}{gv:PV}{p1:Option PV}{s:SO}(e:yd T k zr [.loc u,.tp a1 (.str "rounds" :: r),gv] st=.ok .non s):
  exs (yd T k) [AA (.loc u),p1,AA gv,AA (.tp a1 (.str "rounds" :: r))] st gpB=.nx [AA (.loc u),p1,AA gv,AA (.tp a1 (.str "rounds" :: r))] s:=by
 have ih:=H.ins (AG "go_rounds");simp! [gpB,yt,ix0,zgQ,ih,e,IC.ve37]
def yby(v:PV):Prop:=∀(k:Nat) (s:SO),yd T (10+k) zbn [v] s=.ok (.bl AC) s
def T2.ak(w n:Int):T2->Nat
 |.row _=>0
 |.rounds c m t _=>cnt c m t w n+1
def ak2(w n:Int)(ps:List T2):Nat:=(ps.map (T2.ak w n)).sum
theorem zfl{c m t w n:Int}(hc:c.natAbs<=200)(hm:m.natAbs<=200)(ht:t.natAbs<=200)(w0:0<=w)(w1:w<=16)(n0:0<=n)(n1:n<=8):(c+m*n+t*w*n).natAbs<1000000:=by
 have h1:(m*n).natAbs<=200*8:=by rw[F4];exact Ag hm (by lia)
 have h2:(t*w*n).natAbs<=200*16*8:=by rw[F4,F4];exact Ag (Ag ht (by lia)) (by lia)
 generalize m*n=A at *;generalize t*w*n=B at *;lia
theorem zi5{α:Type}{f:Nat->List α}{x:α}:∀{N J:Nat},J<N->x∈f J->x∈upTo f N
 |0,_,h,_=>absurd h (by lia)
 |N+1,J,h,hx=>by
  rw[upTo,Au];rcases CK J N with h1|h1
  .exact .inl (zi5 h1 hx)
  .have:J=N:=by lia
   exact .inr (this ▸ hx)
theorem zn4{a b d:Bool}{x c m t sn:PV}{vs:List PV}(h:nL (.tp a [x,.tp b [c,m,t],sn,.tp d vs])=AC):nL sn=true:=by
 erw[nL,nLs,AK]at h;exact h.2.2.1
theorem zp4{a b d:Bool}{x c m t sn:PV}{vs:List PV}(h:nL (.tp a [x,.tp b [c,m,t],sn,.tp d vs])=AC):nLs vs=true:=by
 erw[nL,nLs,AK]at h;exact h.2.2.2.1
theorem zbD{v:PV}{vs:List PV}(h:nLs (v::vs)=AC):nL v=AC/\nLs vs=true:=by
 simpa only[nLs,AK] using h
theorem zlA(k:Nat)(w0:0<=w)(w1:w<=16)(n0:0<=n)(n1:n<=8)(I:Nat)(p1:Option PV){v:PV}{p:T2}(hv:nL v=AC)(hp:part2 v=AA p)(H:US st u l w n R q a)(hR:R.length+(p.rows w n I).length<=4000)(hq:q+(p.rnd w n:Nat)<=4000)(ha:a+p.ak w n<=500000)(hrow:∀x∈p.rows w n I,yby x):
  ∃s,exs (yd T (k+13)) [AA (.loc u),p1,AA (.tp AB [.int I]),AA v] st gpB=.nx [AA (.loc u),p1,AA (.tp AB [.int I]),AA v] s/\US s u l w n (R++p.rows w n I) (q+(p.rnd w n:Nat)) (a+p.ak w n):=by
 rcases zjz hp with⟨r,rfl,h1⟩|⟨a1,b,sn,d,vs,c,m,t,rs,rfl,rfl,hd,hc,hm,ht⟩
 .let⟨s,e,H2⟩:=ziQ (k+10) H (by simpa [T2.rows] using hR) (by lia) h1 [(I:Int)] (by simp) (λs=>by
   have:=hrow (r.pv I 0 n) (by simp[T2.rows]) (k+2) s;rw[show 10+(k+2)=k+10+2 by lia]at this;exact this) p1
  exact⟨s,e,by simpa [T2.rows,T2.rnd,T2.ak] using H2⟩
 .have hN:cnt c m t w n<1000000:=by
   have:=zfl hc hm ht w0 w1 n0 n1;erw[cnt];lia
  erw[T2.rows,T2.rnd,T2.ak]at hR hq ha hrow ⊢;let⟨s,e,H2⟩:=zeX (k+10) (a1:=a1) (b:=b) (d:=d) (s0:=.str "rounds") (sn:=sn) (zn4 hv) (vs:=vs) (G:=[(I:Int)]) (by simp) (f:=λJ=>rs.map λr=>r.pv I J n) (qn:=0) (an:=0) rfl hm ht n0 n1 hN
   (λJ hJ=>zhY (k+8) hd I J (λr hr s=>by
    have:=hrow (r.pv I J n) (zi5 hJ (D3.2 ⟨r,hr,rfl⟩)) k s;rw[show 10+k=k+8+2 by lia]at this;exact this)) hR (by simpa using hq) (by lia) H
  have e:yd T (k+13) zr [.loc u,.tp a1 [.str "rounds",.tp b [.int c,.int m,.int t],sn,.tp d vs],.tp AB [.int I]] st=.ok .non s:=e;exact⟨s,zk0 (k+13) H e,by simpa [Do] using H2⟩
theorem zkL(k:Nat)(w0:0<=w)(w1:w<=16)(n0:0<=n)(n1:n<=8)(I:Nat)(p1:Option PV):∀(vs:List PV) (ps:List T2) (st:SO) (R:List PV) (q:Int) (a:Nat) (p3:Option PV),nLs vs=AC->yaZ vs=AA ps->US st u l w n R q a->R.length+(yaj w n I ps).length<=4000->q+(ybs w n ps:Nat)<=4000->a+ak2 w n ps<=500000->(∀x∈yaj w n I ps,yby x) ->
  ∃s p3',ybb (yd T (k+13)) (.n 3) gpB vs [AA (.loc u),p1,AA (.tp AB [.int I]),p3] st=.nx [AA (.loc u),p1,AA (.tp AB [.int I]),p3'] s/\US s u l w n (R++yaj w n I ps) (q+(ybs w n ps:Nat)) (a+ak2 w n ps)
 |[],ps,st,R,q,a,p3,_,hp,H,_,_,_,_=>by
  cases hp
  exact⟨st,p3,zL,by simpa [yaj,ybs,ak2] using H⟩
 |v::vs,ps,st,R,q,a,p3,hv,hp,H,hR,hq,ha,hrow=>by
  unfold yaZ at hp;split at hp
  .rename_i x y hx hy
   cases hp
   have r1:yaj w n I (x::y)=x.rows w n I++yaj w n I y:=by simp[yaj]
   have r2:ybs w n (x::y)=x.rnd w n+ybs w n y:=by simp[ybs]
   have r3:ak2 w n (x::y)=x.ak w n+ak2 w n y:=by simp[ak2]
   rw[r1,Af]at hR;rw[r2]at hq;rw[r3]at ha;rw[r1]at hrow;rw[r1,r2,r3];let⟨s1,e1,H1⟩:=zlA k w0 w1 n0 n1 I p1 (zbD hv).1 hx H (by lia) (by lia) (by lia) (λz hz=>hrow z (by simp[hz]));let⟨s2,p3',e2,H2⟩:=zkL k w0 w1 n0 n1 I p1 vs y s1 _ _ _ (AA v) (zbD hv).2 hy H1 (by rw[Af];lia) (by lia) (by lia) (λz hz=>hrow z (by simp[hz]));refine⟨s2,p3',?_,?_⟩
   .rw[zG (ρ1:=[AA (.loc u),p1,AA (.tp AB [.int I]),AA v]) rfl,e1];exact e2
   .rw[<-BP,<-Do,show q+((x.rnd w n+ybs w n y:Nat):Int)=q+(x.rnd w n:Nat)+(ybs w n y:Nat)by lia];exact H2
  .cases hp
theorem zi9(k:Nat)(w0:0<=w)(w1:w<=16)(n0:0<=n)(n1:n<=8){d:Bool}{vs:List PV}{ps:List T2}(hv:nLs vs=AC)(hp:yaZ vs=AA ps)(I:Nat)(hrow:∀x∈yaj w n I ps,yby x):BodyOk (k+14) u l w n d vs [] (λI=>yaj w n I ps) (ybs w n ps) (ak2 w n ps) I:=by
 intro st R q a H h1 h2 h3;let⟨s,p3,e,H2⟩:=zkL k w0 w1 n0 n1 I (AA (.tp d vs)) vs ps st R q a AD hv hp H h1 h2 h3 hrow;exact⟨s,zfz (k+13) e,H2⟩
def T1.ak(w n:Int):T1->Nat
 |.row _=>0
 |.rounds c m t ps=>cnt c m t w n*(1+ak2 w n ps)+1
def ak1(w n:Int)(ps:List T1):Nat:=(ps.map (T1.ak w n)).sum
theorem zmh(k:Nat)(w0:0<=w)(w1:w<=16)(n0:0<=n)(n1:n<=8)(p1:Option PV){v:PV}{p:T1}(hv:nL v=AC)(hp:part1 v=AA p)(H:US st u l w n R q a)(hR:R.length+(p.rows w n).length<=4000)(hq:q+(p.rnd w n:Nat)<=4000)(ha:a+p.ak w n<=500000)(hrow:∀x∈p.rows w n,yby x):
  ∃s,exs (yd T (k+15)) [AA (.loc u),p1,AA (.tp AB []),AA v] st gpB=.nx [AA (.loc u),p1,AA (.tp AB []),AA v] s/\US s u l w n (R++p.rows w n) (q+(p.rnd w n:Nat)) (a+p.ak w n):=by
 rcases zjF hp with⟨r,rfl,h1⟩|⟨a1,b,sn,d,vs,c,m,t,ps,rfl,rfl,hd,hc,hm,ht⟩
 .let⟨s,e,H2⟩:=ziQ (k+12) H (by simpa [T1.rows] using hR) (by lia) h1 [] (by simp) (λs=>by
   have:=hrow (r.pv 0 0 n) (by simp[T1.rows]) (k+4) s;rw[show 10+(k+4)=k+12+2 by lia]at this;exact this) p1
  exact⟨s,e,by simpa [T1.rows,T1.rnd,T1.ak] using H2⟩
 .have hN:cnt c m t w n<1000000:=by
   have:=zfl hc hm ht w0 w1 n0 n1;erw[cnt];lia
  erw[T1.rows,T1.rnd,T1.ak]at hR hq ha hrow ⊢;let⟨s,e,H2⟩:=zeX (k+12) (a1:=a1) (b:=b) (d:=d) (s0:=.str "rounds") (sn:=sn) (zn4 hv) (vs:=vs) (G:=[]) (by simp) (f:=λI=>yaj w n I ps) (qn:=ybs w n ps) (an:=ak2 w n ps) rfl hm ht n0 n1 hN
   (λJ hJ=>zi9 k w0 w1 n0 n1 (zp4 hv) hd J (λz hz=>hrow z (zi5 hJ hz))) hR hq (by lia) H
  have e:yd T (k+15) zr [.loc u,.tp a1 [.str "rounds",.tp b [.int c,.int m,.int t],sn,.tp d vs],.tp AB []] st=.ok .non s:=e;exact⟨s,zk0 (k+15) H e,by rw[<-Do];exact H2⟩
theorem zkv(k:Nat)(w0:0<=w)(w1:w<=16)(n0:0<=n)(n1:n<=8)(p1:Option PV):∀(vs:List PV) (ps:List T1) (st:SO) (R:List PV) (q:Int) (a:Nat) (p3:Option PV),nLs vs=AC->yaQ vs=AA ps->US st u l w n R q a->R.length+(yM w n ps).length<=4000->q+(yaM w n ps:Nat)<=4000->a+ak1 w n ps<=500000->(∀x∈yM w n ps,yby x) ->
  ∃s p3',ybb (yd T (k+15)) (.n 3) gpB vs [AA (.loc u),p1,AA (.tp AB []),p3] st=.nx [AA (.loc u),p1,AA (.tp AB []),p3'] s/\US s u l w n (R++yM w n ps) (q+(yaM w n ps:Nat)) (a+ak1 w n ps)
 |[],ps,st,R,q,a,p3,_,hp,H,_,_,_,_=>by
  cases hp
  exact⟨st,p3,zL,by simpa [yM,yaM,ak1] using H⟩
 |v::vs,ps,st,R,q,a,p3,hv,hp,H,hR,hq,ha,hrow=>by
  unfold yaQ at hp;split at hp
  .rename_i x y hx hy
   cases hp
   have r1:yM w n (x::y)=x.rows w n++yM w n y:=by simp[yM]
   have r2:yaM w n (x::y)=x.rnd w n+yaM w n y:=by simp[yaM]
   have r3:ak1 w n (x::y)=x.ak w n+ak1 w n y:=by simp[ak1]
   rw[r1,Af]at hR;rw[r2]at hq;rw[r3]at ha;rw[r1]at hrow;rw[r1,r2,r3];let⟨s1,e1,H1⟩:=zmh k w0 w1 n0 n1 p1 (zbD hv).1 hx H (by lia) (by lia) (by lia) (λz hz=>hrow z (by simp[hz]));let⟨s2,p3',e2,H2⟩:=zkv k w0 w1 n0 n1 p1 vs y s1 _ _ _ (AA v) (zbD hv).2 hy H1 (by rw[Af];lia) (by lia) (by lia) (λz hz=>hrow z (by simp[hz]));refine⟨s2,p3',?_,?_⟩
   .rw[zG (ρ1:=[AA (.loc u),p1,AA (.tp AB []),AA v]) rfl,e1];exact e2
   .rw[<-BP,<-Do,show q+((x.rnd w n+yaM w n y:Nat):Int)=q+(x.rnd w n:Nat)+(yaM w n y:Nat)by lia];exact H2
  .cases hp
end
theorem ye4(k:Nat)(w n:Int):yd T (k+1) zao [.loc 0,.int w,.int n] [.ins cU []]=.ok .non [uob w n 1 0 0,.lst []]:=by
 have hT:T zao=AA zU:=rfl;rw[zp hT rfl rfl];ac_rfl
theorem zkY(w n:Int):US [uob w n 1 0 0,.lst []] 0 1 w n [] 0 0:=⟨[],⟨rfl,rfl,by decide⟩,.nil,by simp⟩
theorem StR.nl{xs rs:List PV}(h:StR xs rs):nLs xs=true:=by
 have ap:∀(a b:List PV),nLs a=AC->nLs b=AC->nLs (a++b)=true:=by
  intro a
  induction a with
  |nil=>intro b _ h;exact h
  |cons x a ih=>
   intro b h1 h2;let⟨p,q⟩:=zbD h1;rw[Az,nLs,p,ih b q h2];rfl
 induction h with
 |nil=>rfl
 |row hv _ ih=>exact ap _ _ ih (by simp[nLs,nL,hv])
 |ask hv _ ih=>exact ap _ _ ih (by erw[nLs,nL,Bool.and_true,Dm]at hv ⊢;simpa using hv)
theorem zgX:yN .eq (.str "asked") (.str "row")=AA (.bl AB):=by ac_rfl
theorem zj0(k:Nat){b:Bool}{vs:List PV}{ps:List T1}{w n:Int}(hv:nLs vs=AC)(hp:yaQ vs=AA ps)(w0:0<=w)(w1:w<=16)(n0:0<=n)(n1:n<=8)(hR:(yM w n ps).length<=4000)(hq:yaM w n ps<=4000)(ha:ak1 w n ps<=500000)(hrow:∀x∈yM w n ps,yby x)
  (hit:∀s,yd T (k+16) zP [.tp b vs] s=.ok (.bl AC) s) (st:SO):∃xs,yd T (k+17) zdR [.tp b vs,.int w,.int n] st=.ok (.lst xs) st/\StR xs (yM w n ps):=by
 have hT:T zdR=AA zbj:=rfl;have hnl:nLs [.tp b vs,.int w,.int n]=true:=by simp[nLs,nL,hv]
 let⟨s,p3,e,xs,h,hs,_⟩:=zkv k w0 w1 n0 n1 (AA (.tp b vs)) vs ps [uob w n 1 0 0,.lst []] [] 0 0 AD hv hp (zkY w n) (by simpa using hR) (by lia) (by lia) hrow;have e:=zfz (k+15) e;have i0:=ye4 (k+15) w n;have ih:=(zkY w n).ins (AG "go_parts");have f1:=h.fs;have fz:ydK (.loc 1) s=.ok (.lst xs) (s.set 1 .dead):=by simp[ydK,h.d]
 refine⟨xs,?_,by simpa using hs⟩;have nl:=hs.nl;rw[zc hT rfl rfl hnl];generalize PV.tp b vs=tv at *;simp! [zbj,hit,i0,ih,e,f1,fz,IC.ve32,IC.ve33,IC.ve37,ybH,newV];simp[ybB,nL,nl]
noncomputable def unT:Ce:=.cmp .eq (.idx (.var 0) (.cst (.int 0))) (.cst (.str "row"))
noncomputable def unE:Ce:=.idx (.var 0) (.cst (.int 1))
theorem zjf(k:Nat){st:SO}{xs rs:List PV}(h:StR xs rs):∀(ys b:List PV),yar (yd T k) [AD] (.n 0) unT unE ys st=.ok b st->yar (yd T k) [AD] (.n 0) unT unE (xs++ys) st=.ok (rs++b) st:=by
 induction h with
 |nil=>intro ys b e;exact e
 |@row xs rs v hv _ ih=>
  intro ys b e;have one:ybl (yd T k) [AD] (.n 0) unT unE (.tp AB [.str "row",v]) st=.ok (AA v) st:=by
   simp! [ybl,unT,unE,ix0,ix1,zdK]
  have:=ih (.tp AB [.str "row",v]::ys) (v::b) (by rw[zax,one,bd_ok,e,bd_ok];rfl);rw[BP,BP];exact this
 |@ask xs rs x y z hv _ ih=>
  intro ys b e;have one:ybl (yd T k) [AD] (.n 0) unT unE (.tp AB [.str "asked",x,y,z]) st=.ok AD st:=by
   simp! [ybl,unT,unE,ix0,ix1,zgX]
  have:=ih (.tp AB [.str "asked",x,y,z]::ys) b (by rw[zax,one,bd_ok,e,bd_ok];rfl);rw[BP];exact this
theorem StR.nl2{xs rs:List PV}(h:StR xs rs):nLs rs=true:=by
 have ap:∀(a b:List PV),nLs a=AC->nLs b=AC->nLs (a++b)=true:=by
  intro a
  induction a with
  |nil=>intro b _ h;exact h
  |cons x a ih=>
   intro b h1 h2;let⟨p,q⟩:=zbD h1;rw[Az,nLs,p,ih b q h2];rfl
 induction h with
 |nil=>rfl
 |row hv _ ih=>exact ap _ _ ih (by simp[nLs,hv])
 |ask _ _ ih=>exact ih
theorem unrolled(k:Nat){b:Bool}{vs:List PV}{ps:List T1}{w n:Int}(hv:nLs vs=AC)(hp:yaQ vs=AA ps)(w0:0<=w)(w1:w<=16)(n0:0<=n)(n1:n<=8)(hR:(yM w n ps).length<=4000)(hq:yaM w n ps<=4000)(ha:ak1 w n ps<=500000)(hrow:∀x∈yM w n ps,yby x)
  (hit:∀s,yd T (k+16) zP [.tp b vs] s=.ok (.bl AC) s) (st:SO):yd T (k+18) zdY [.tp b vs,.int w,.int n] st=.ok (.tp AB (yM w n ps)) st:=by
 have hT:T zdY=AA zbs:=rfl;have hnl:nLs [.tp b vs,.int w,.int n]=true:=by simp[nLs,nL,hv]
 let⟨xs,e,hs⟩:=zj0 k hv hp w0 w1 n0 n1 hR hq ha hrow hit [];have ec:=zjf (k+17) (st:=[]) hs [] [] zb2;rw[Aw,Aw]at ec;have ec:yar (yd T (k+17)) [AD] (.n 0) (.cmp .eq (.idx (.var 0) (.cst (.int 0))) (.cst (.str "row"))) (.idx (.var 0) (.cst (.int 1))) xs []=_:=ec;have nl:=hs.nl2;have lr:=λst=>zcc (yM w n ps) (by lia) st;have ht:∀st,yay .tuple st [.lst (yM w n ps)]=AA (.tp AB (yM w n ps)):=λ_=>rfl;rw[zc hT rfl rfl hnl];generalize PV.tp b vs=tv at *;generalize yM w n ps=rows at *;simp! [zbs,e,ec,lr,ht];simp[ybB,nL,nl]
theorem zgR(w n:Int):∀ps:List T1,nLs (yM w n ps)=true:=by
 have ap:∀(a b:List PV),nLs a=AC->nLs b=AC->nLs (a++b)=true:=by
  intro a
  induction a with
  |nil=>intro b _ h;exact h
  |cons x a ih=>
   intro b h1 h2;let⟨p,q⟩:=zbD h1;rw[Az,nLs,p,ih b q h2];rfl
 have up:∀(f:Nat->List PV) (N:Nat),(∀i,nLs (f i)=AC)->nLs (upTo f N)=true:=by
  intro f N h
  induction N with
  |zero=>rfl
  |succ N ih=>exact ap _ _ ih (h N)
 have mp:∀(rs:List Rs) (I J:Int),nLs (rs.map λr=>r.pv I J n)=true:=by
  intro rs I J
  induction rs with
  |nil=>rfl
  |cons r rs ih=>rw[AL,nLs,zbI,ih];rfl
 have two:∀(I:Nat) (ps:List T2),nLs (yaj w n I ps)=true:=by
  intro I ps
  induction ps with
  |nil=>rfl
  |cons p ps ih=>
   rw[yaj,BQ];refine ap _ _ ?_ ih
   cases p with
   |row r=>simp[T2.rows,nLs,zbI]
   |rounds c m t rs=>exact up _ _ λJ=>mp rs _ _
 intro ps
 induction ps with
 |nil=>rfl
 |cons p ps ih=>
  rw[yM,BQ];refine ap _ _ ?_ ih
  cases p with
  |row r=>simp[T1.rows,nLs,zbI]
  |rounds c m t ps=>exact up _ _ λI=>two I ps
theorem ziY(k:Nat){deed:PV}(hd:nL deed=AC){b:Bool}{vs:List PV}{ps:List T1}{w n:Int}(ht:∀s,yd T (k+18) za1 [deed] s=.ok (.tp b vs) s)(hv:nLs vs=AC)(hp:yaQ vs=AA ps)(w0:0<=w)(w1:w<=16)(n0:0<=n)(n1:n<=8)(hR:(yM w n ps).length<=4000)(hq:yaM w n ps<=4000)(ha:ak1 w n ps<=500000)(hrow:∀x∈yM w n ps,yby x)
  (hit:∀s,yd T (k+16) zP [.tp b vs] s=.ok (.bl AC) s) (st:SO):yd T (k+19) zaT [deed,.int w,.int n] st=.ok (.tp AB (yM w n ps)) st:=by
 have hT:T zaT=AA zaB:=rfl;have hnl:nLs [deed,.int w,.int n]=true:=by simp[nLs,nL,hd]
 have e:=unrolled k hv hp w0 w1 n0 n1 hR hq ha hrow hit [];have nl:=zgR w n ps;rw[zc hT rfl rfl hnl];generalize PV.tp b vs=tv at *;generalize yM w n ps=rows at *;simp! [zaB,ht,e];simp[ybB,nL,nl]
def Dg(W:Int)(M:Mem)(c n:Nat):Prop:=∀i:Nat,i<n->0<=M c i/\M c i<W
theorem Dg.mono{W:Int}{M:Mem}{c n:Nat}(h:Dg W M c (n+1)):Dg W M c n:=λi hi=>h i (by lia)
theorem zd{W:Int}{M M':Mem}{c c':Nat}:∀n,(∀i:Nat,i<n->M c i=M' c' i)->yo W M c n=yo W M' c' n
 |0,_=>rfl
 |n+1,h=>by rw[yo,yo,zd n λi hi=>h i (by lia),h n (by lia)]
theorem zx{W:Int}(hW:0<W){M:Mem}{c:Nat}:∀n,Dg W M c n->0<=yo W M c n/\yo W M c n<W^n
 |0,_=>by simp[yo]
 |n+1,h=>by
  let⟨a,b⟩:=zx hW n h.mono;let⟨c0,c1⟩:=h n (by lia);have hp:0<W^n:=Ab hW;have h1:0<=M c n*W^n:=By c0 (by lia);have h2:M c n*W^n<=(W-1)*W^n:=Ao (by lia) (by lia);rw[BR,Bw]at h2;rw[yo,Am,Ae (W^n) W];lia
theorem zaH{W:Int}(hW:0<W){M:Mem}{c:Nat}:∀n,Dg W M c n->(yo W M c n=0 ↔ ∀i:Nat,i<n->M c i=0)
 |0,_=>by simp[yo]
 |n+1,h=>by
  have ih:=zaH hW n h.mono;let⟨a,b⟩:=zx hW n h.mono;let⟨c0,c1⟩:=h n (by lia);have hp:0<W^n:=Ab hW;have h1:0<=M c n*W^n:=By c0 (by lia);rw[yo];constructor
  .intro h2 i hi;have h3:M c n*W^n=0:=by omega
   rcases CK i n with z|z
   .exact ih.1 (by lia) i z
   .rw[show i=n by lia];rcases Int.mul_eq_zero.1 h3 with e|e
    .exact e
    .lia
  .intro h2;rw[h2 n (by lia),ih.2 λi hi=>h2 i (by lia)];simp
theorem zbz{w:Nat}(hw:0<w){M:Mem}{c n:Nat}(h:Dg (2^w) M c (n+1)):tb w (M c n)=if (2^w:Int)^(n+1)<=2*yo (2^w) M c (n+1)then 1 else 0:=by
 let⟨c0,c1⟩:=h n (by lia);let⟨a,b⟩:=zx (Ab (by lia)) n h.mono;rw[znX hw c0 c1,yo];obtain⟨v,rfl⟩:∃v,w=v+1:=⟨w-1,by lia⟩;have hp:0<((2:Int)^(v+1))^n:=Ab (Ab (by lia));rw[Am ((2:Int)^(v+1)) n];generalize ((2:Int)^(v+1))^n=P at *;generalize hV:yo (2^(v+1)) M c n=V at *;rw[Am]at *;generalize (2:Int)^v=H at *;generalize M c (n:Int)=d at *
 by_cases hd:H<=d
 .have h1:=Ao hd (show 0<=P by lia);have h2:P*(H*2)=2*(H*P):=by rw[Ae P,Ap,Ae 2 P,<-Ap,Ae 2]
  rw[if_pos (by lia),if_pos (by rw[h2];lia)]
 .have h1:=Ao (show d<=H-1 by lia) (show 0<=P by lia);rw[BR,Bw]at h1;have h2:P*(H*2)=2*(H*P):=by rw[Ae P,Ap,Ae 2 P,<-Ap,Ae 2]
  rw[if_neg (by lia),if_neg (by rw[h2];lia)]
theorem zgs{W:Int}(hW:0<W)(hW2:2<=W)(M:Mem)(k:Int)(k0:0<=k)(k1:k<=1):∀n,Dg W M 97 n->Dg W M 98 n ->
  (∀d j,(d≠99 \/ (n:Int)<=j)->(yw W (yI n .sum) M k).1 d j=M d j)/\Dg W (yw W (yI n .sum) M k).1 99 n/\0<=(yw W (yI n .sum) M k).2/\(yw W (yI n .sum) M k).2<=1/\yo W (yw W (yI n .sum) M k).1 99 n+(yw W (yI n .sum) M k).2*W^n=yo W M 97 n+yo W M 98 n+k
 |0,_,_=>⟨λ_ _ _=>rfl,λi hi=>by lia,k0,k1,by simp[yo,yI,yC,yw]⟩
 |n+1,ha,hb=>by
  let⟨h1,h2,h3,h4,h5⟩:=zgs hW hW2 M k k0 k1 n ha.mono hb.mono;have e:yI (n+1) .sum=yI n .sum++[.sum (99,n) (97,n) (98,n)]:=rfl;rw[e,zl];generalize yw W (yI n .sum) M k=R at *;let⟨M1,k'⟩:=R;simp only at *;let⟨a0,a1⟩:=ha n (by lia);let⟨b0,b1⟩:=hb n (by lia);erw[yw,stepM,rd,wr,h1 97 n (.inl (by decide)),h1 98 n (.inl (by decide))];generalize hA:M 97 (n:Int)=A at *;generalize hB:M 98 (n:Int)=B at *;have d1:=Ah (A+B+k') (show W≠0 by lia);have d2:=A8 (A+B+k') hW;have d3:=BM (A+B+k') W;have d4:0<=(A+B+k')/W:=B5 (by lia) (by lia);have d5:(A+B+k')/W<2:=BZ hW (by lia);refine⟨λd j hd=>?_,λi hi=>?_,d4,by lia,?_⟩
  .unfold upd;rw[if_neg (by lia),h1 d j (by lia)]
  .unfold upd
   by_cases hin:i=n
   .subst hin;rw[if_pos ⟨rfl,rfl⟩];exact⟨d1,d2⟩
   .rw[if_neg (by lia)];exact h2 i (by lia)
  .have hv:yo W (upd M1 99 (n:Int) ((A+B+k')%W)) 99 (n+1)=yo W M1 99 n+(A+B+k')%W*W^n:=by
    rw[yo,zd (M':=M1) (c':=99) n λi hi=>by unfold upd;rw[if_neg (by lia)]];unfold upd;rw[if_pos ⟨rfl,rfl⟩]
   rw[hv,yo,yo,hA,hB,Am];generalize W^n=P at *;generalize (A+B+k')%W=r at *;generalize (A+B+k')/W=q at *;have e2:r=A+B+k'-W*q:=by lia
   subst e2;have e3:(A+B+k'-W*q)*P+q*(P*W)=A*P+B*P+k' * P:=by
    rw[BR,BN,BN,Ae W q,Ap q W P,Ae W P];lia
   generalize (A+B+k'-W*q)*P=X1 at *;generalize q*(P*W)=X2 at *;lia
theorem zgq{W:Int}(M:Mem)(k:Int)(hS:0<=M 115 0):∀n,(∀i:Nat,i<n->0<=M 99 i) ->
  (yw W (yC (λi=>Rw.any cS cS (99,i)) n) M k).2=k/\(∀d j,d≠115->(yw W (yC (λi=>Rw.any cS cS (99,i)) n) M k).1 d j=M d j)/\0<=(yw W (yC (λi=>Rw.any cS cS (99,i)) n) M k).1 115 0/\((yw W (yC (λi=>Rw.any cS cS (99,i)) n) M k).1 115 0=0 ↔ M 115 0=0/\∀i:Nat,i<n->M 99 i=0)
 |0,_=>⟨rfl,λ_ _ _=>rfl,hS,by simp[yC,yw]⟩
 |n+1,h=>by
  let⟨h1,h2,h3,h4⟩:=zgq (W:=W) M k hS n λi hi=>h i (by lia);rw[yC,zl];generalize yw W (yC (λi=>Rw.any cS cS (99,i)) n) M k=R at *;let⟨M1,k'⟩:=R;simp only at *;have hb:=h n (by lia);erw[yw,stepM,rd,wr,cS,h2 99 n (by decide)];have hz:=zfD h3 hb;refine⟨h1,λd j hd=>?_,?_,?_⟩
  .unfold upd;rw[if_neg (by lia),h2 d j hd]
  .unfold upd;rw[if_pos ⟨rfl,rfl⟩];obtain⟨x,hx⟩:∃x:Nat,M1 115 0=x:=⟨(M1 115 0).toNat,by lia⟩;obtain⟨y,hy⟩:∃y:Nat,M 99 n=y:=⟨(M 99 n).toNat,by lia⟩;rw[hx,hy,zc0];lia
  .unfold upd;rw[if_pos ⟨rfl,rfl⟩,hz,h4];constructor
   .rintro⟨⟨a,b⟩,c⟩
    refine⟨a,λi hi=>?_⟩;rcases CK i n with z|z
    .exact b i z
    .rw[show i=n by lia];exact c
   .rintro⟨a,b⟩
    exact⟨⟨a,λi hi=>b i (by lia)⟩,b n (by lia)⟩
theorem zz{W:Int}{r:Rw}{rs:List Rw}{M:Mem}{k:Int}:yw W (r::rs) M k=yw W rs (stepM W M k r).1 (stepM W M k r).2:=rfl
theorem z8(b:Bool):0<=bi b/\bi b<=1:=by cases b<;>decide
theorem zcz{w:Nat}(hw:1<w){n:Nat}(M:Mem)(k:Int)(hc:Dg (2^w) M 99 (n+1))(hz:M 122 0=0):
  (∀j,(yw (2^w) (yE (n+1)) M k).1 99 j=M 99 j)/\(yw (2^w) (yE (n+1)) M k).1 109 0=M 109 0/\(yw (2^w) (yE (n+1)) M k).1 109 1=M 109 1 /\
  (yw (2^w) (yE (n+1)) M k).1 109 2=bi (yo (2^w) M 99 (n+1)==0)/\(yw (2^w) (yE (n+1)) M k).1 109 3=bi (decide ((2^w:Int)^(n+1)<=2*yo (2^w) M 99 (n+1))):=by
 have hW:(0:Int)<2^w:=Ab (by lia);have hW4:(4:Int)<=2^w:=by
  have h:(2:Nat)^2<=2^w:=A6 (by lia) (by lia);have h2:=pw w;lia
 let⟨h1,h2,h3,h4⟩:=zgq (W:=2^w) (wr M cS 0) k (by simp[wr,upd]) (n+1) (λi hi=>by simp[wr,upd];exact(hc i hi).1);have e:yE (n+1)=.set cS 0::(yC (λi=>Rw.any cS cS (99,i)) (n+1)++[.ask cS,.set (109,2) 1,.less (109,2) (109,2) cZ,.twice cT (99,((n+1:Nat):Int)-1),.sum (109,3) cZ cZ]):=rfl;have hst:stepM (2^w) M k (.set cS 0)=(wr M cS 0,k):=rfl;rw[e,zz,hst,zl];generalize yw (2^w) (yC (λi=>Rw.any cS cS (99,i)) (n+1)) (wr M cS 0) k=R at *;let⟨M1,k'⟩:=R;simp only at *;subst h1;have g:∀d j,d≠115->M1 d j=M d j:=λd j hd=>by
  rw[h2 d j hd];erw[wr,upd,cS];rw[if_neg (by lia)]
 have hn:((n+1:Nat):Int)-1=n:=by lia
 have h5:M1 115 0=0 ↔ yo (2^w) M 99 (n+1)=0:=by
  rw[h4,zaH hW (n+1) hc];constructor
  .rintro⟨_,b⟩ i hi
   have:=b i hi;simpa [wr,upd] using this
  .intro b;exact⟨by simp[wr,upd],λi hi=>by simpa [wr,upd] using b i hi⟩
 have ht:=zbz (by lia) hc;have hb:bi (!(M1 115 0==0))=1-bi (yo (2^w) M 99 (n+1)==0):=by
  by_cases hv:yo (2^w) M 99 (n+1)=0
  .rw[h5.2 hv,hv];rfl
  .have:¬M1 115 0=0:=λz=>hv (h5.1 z);rw[beq_eq_false_iff_ne.2 this,beq_eq_false_iff_ne.2 hv];rfl
 have hbr:=z8 (yo (2^w) M 99 (n+1)==0);rw[hn];erw[yw,stepM,rd,wr,upd,cS,cT,cZ];rw[hb];generalize bi (yo (2^w) M 99 (n+1)==0)=v at *;have hm:bi (decide ((1:Int)-0-(1-v)<0))=0:=by
  rw[decide_eq_false (by lia)];rfl
 have hm2:(1-0-(1-v))%(2:Int)^w=v:=by
  rw[show 1-0-(1-v)=v by lia];exact A1 (by lia) (by lia)
 have hT:(2*M 99 n+0)/2^w=bi (decide ((2^w:Int)^(n+1)<=2*yo (2^w) M 99 (n+1))):=by
  rw[Bo];show tb w (M 99 n)=_;rw[ht]
  by_cases q:(2^w:Int)^(n+1)<=2*yo (2^w) M 99 (n+1)
  .rw[if_pos q,decide_eq_true q];rfl
  .rw[if_neg q,decide_eq_false q];rfl
 have hTr:=z8 (decide ((2^w:Int)^(n+1)<=2*yo (2^w) M 99 (n+1)));erw[C8,false_and,if_false,Ha,and_false,and_self,if_true,g _ _ (show (99:Nat)≠115 by decide),g _ _ (show (109:Nat)≠115 by decide),g _ _ (show (122:Nat)≠115 by decide),hz,hm,hm2,hT];refine⟨λj=>trivial,trivial,trivial,trivial,?_⟩;rw[show (0:Int)+0+bi (decide ((2^w:Int)^(n+1)<=2*yo (2^w) M 99 (n+1)))=bi (decide ((2^w:Int)^(n+1)<=2*yo (2^w) M 99 (n+1)))by lia];exact A1 (by lia) (by lia)
theorem zbH{c d:Nat}(h:d≠c)(j:Int):∀(vs:List Int) (i:Nat) (M:Mem),yaD c i vs M d j=M d j
 |[],_,_=>rfl
 |v::vs,i,M=>by
  rw[yaD,zbH h j vs,upd,if_neg (by lia)]
theorem zc4{c:Nat}(j:Int):∀(vs:List Int) (i:Nat) (M:Mem),j<i->yaD c i vs M c j=M c j
 |[],_,_,_=>rfl
 |v::vs,i,M,h=>by
  rw[yaD,zc4 j vs (i+1) _ (by lia),upd,if_neg (by lia)]
theorem zec{c:Nat}:∀(vs:List Int) (i:Nat) (M:Mem) (k:Nat),k<vs.length->yaD c i vs M c ((i+k:Nat):Int)=vs.getD k 0
 |[],_,_,_,h=>by simp at h
 |v::vs,i,M,0,h=>by
  rw[yaD,zc4 _ vs (i+1) _ (by lia),upd,if_pos ⟨rfl,by simp⟩];rfl
 |v::vs,i,M,k+1,h=>by
  rw[yaD,show i+(k+1)=i+1+k by lia,zec vs (i+1) _ k (by simpa using h)];rfl
theorem zcU{W:Int}(hW:0<W):∀(n:Nat) (x:Int) (k:Nat),k<n->(yh W n x).getD k 0=x/W^k%W
 |0,_,_,h=>by lia
 |n+1,x,0,h=>by simp[yh]
 |n+1,x,k+1,h=>by
  rw[yh];show (yh W n (x/W)).getD k 0=_;rw[zcU hW n (x/W) k (by lia),Am,Ae (W^k),DP (by lia)]
theorem zex{W x:Int}(hW:0<W)(n:Nat):x%W^(n+1)=x%W^n+x/W^n%W*W^n:=by
 have hp:0<W^n:=Ab hW;rw[Am];generalize W^n=P at *;have e1:=BM x P;have e2:=BM (x/P) W;have a0:=Ah x (show P≠0 by lia);have a1:=A8 x hp;have b0:=Ah (x/P) (show W≠0 by lia);have b1:=A8 (x/P) hW;generalize x%P=r at *;generalize x/P=q at *;generalize q%W=s at *;generalize q/W=t at *;subst e2;have e3:x=r+s*P+P*W*t:=by
  rw[<-e1,Ca,Ae P s,Ap P W t];lia
 have c1:s*P<=(W-1)*P:=Ao (by lia) (by lia);have c0:0<=s*P:=By b0 (by lia);rw[BR,Bw]at c1;rw[e3,EW,A1 (by lia) (by rw[Ae P W];lia)]
theorem zeh{W:Int}(hW:0<W){M:Mem}{c:Nat}{x:Int}:∀n,(∀i:Nat,i<n->M c i=x/W^i%W)->yo W M c n=x%W^n
 |0,_=>by simp[yo,Int.emod_one]
 |n+1,h=>by rw[yo,zeh hW n λi hi=>h i (by lia),h n (by lia),zex hW]
section
variable {W:Int}(n:Nat)(x y:Int)
theorem zgu{d:Nat}(h1:d≠97)(h2:d≠98)(j:Int):yad W n x y d j=0:=by
 rw[yad,zbH h2,zbH h1];rfl
variable (hW:0<W)
include hW
theorem zmT{i:Nat}(h:i<n):yad W n x y 97 i=x/W^i%W:=by
 rw[yad,zbH (by decide)];have:=zec (c:=97) (yh W n x) 0 M0 i (by rw[zI];exact h);rw[Bt]at this;rw[this,zcU hW n x i h]
theorem zor{i:Nat}(h:i<n):yad W n x y 98 i=y/W^i%W:=by
 rw[yad];have:=zec (c:=98) (yh W n y) 0 (yaD 97 0 (yh W n x) M0) i (by rw[zI];exact h);rw[Bt]at this;rw[this,zcU hW n y i h]
theorem zir:Dg W (yad W n x y) 97 n:=λi hi=>by
 rw[zmT n x y hW hi];exact⟨Ah _ (by lia),A8 _ hW⟩
theorem zg0:Dg W (yad W n x y) 98 n:=λi hi=>by
 rw[zor n x y hW hi];exact⟨Ah _ (by lia),A8 _ hW⟩
theorem zeV(h0:0<=x)(h1:x<W^n):yo W (yad W n x y) 97 n=x:=by
 rw[zeh hW n λi hi=>zmT n x y hW hi,A1 h0 h1]
theorem zeW(h0:0<=y)(h1:y<W^n):yo W (yad W n x y) 98 n=y:=by
 rw[zeh hW n λi hi=>zor n x y hW hi,A1 h0 h1]
end
theorem zfa{w:Nat}(hw:1<w)(M:Mem)(a b c:Cel)(ha:a.1≠115/\a.1≠116)(hb:b.1≠115/\b.1≠116)(hc:c.1≠115/\c.1≠116)(hz:M 122 0=0)
  (a0:0<=rd M a/\rd M a<2^w) (b0:0<=rd M b/\rd M b<2^w) (c0:0<=rd M c/\rd M c<2^w):
  (∀d j,d≠115->d≠116->(d≠109 \/ j≠1)->(yw (2^w) (yP a b c) M 0).1 d j=M d j)/\(yw (2^w) (yP a b c) M 0).2=0/\(yw (2^w) (yP a b c) M 0).1 109 1=(tb w (rd M a)+tb w (rd M b))%2*((tb w (rd M a)+tb w (rd M c))%2):=by
 have hW:(0:Int)<2^w:=Ab (by lia);have hW4:(4:Int)<=2^w:=by
  have h:(2:Nat)^2<=2^w:=A6 (by lia) (by lia);have h2:=pw w;lia
 have x1:=zii a0.1 a0.2 b0.1 b0.2;have x2:=zii a0.1 a0.2 c0.1 c0.2;have t1:=znc (by lia:0<w) x1.1 x1.2 x2.1 x2.2;rw[zk8 (by lia) a0.1 a0.2 b0.1 b0.2,zk8 (by lia) a0.1 a0.2 c0.1 c0.2]at t1;let⟨a1,a2⟩:=a;let⟨b1,b2⟩:=b;let⟨c1,c2⟩:=c;erw[rd]at *;have m1:=Ah (tb w (M a1 a2)+tb w (M b1 b2)) (show (2:Int)≠0 by decide);have m2:=A8 (tb w (M a1 a2)+tb w (M b1 b2)) (show (0:Int)<2 by decide);have m3:=Ah (tb w (M a1 a2)+tb w (M c1 c2)) (show (2:Int)≠0 by decide);have m4:=A8 (tb w (M a1 a2)+tb w (M c1 c2)) (show (0:Int)<2 by decide);have hr:0<=(tb w (M a1 a2)+tb w (M b1 b2))%2*((tb w (M a1 a2)+tb w (M c1 c2))%2)/\(tb w (M a1 a2)+tb w (M b1 b2))%2*((tb w (M a1 a2)+tb w (M c1 c2))%2)<=1:=by
  rcases (by lia:(tb w (M a1 a2)+tb w (M b1 b2))%2=0 \/ (tb w (M a1 a2)+tb w (M b1 b2))%2=1)with e|e<;>rw[e]<;>lia
 generalize (tb w (M a1 a2)+tb w (M b1 b2))%2*((tb w (M a1 a2)+tb w (M c1 c2))%2)=v at *;have n1:¬(c1=116):=hc.2;have n2:¬(a1=116):=ha.2;erw[yP,yw,stepM,rd,wr,upd,cS,cT,cZ,n1,n2,C8,false_and,if_false,and_self,if_true,hz,Bo];unfold tb at t1;rw[t1];refine⟨λd j h1 h2 h3=>?_,?_,?_⟩
 .simp only[h1,h2,false_and,if_false];rw[if_neg (by lia)]
 .exact BB (by lia) (by lia)
 .rw[GW];exact A1 (by lia) (by lia)
theorem zlh{X:Fl}{v:PV}{st:SO}(h:ybB [] X=.ok v []):ybB st X=.ok v st:=by
 cases X with
 |rt u s=>
  erw[ybB]at h ⊢
  by_cases c:nL u=AC
  .rw[if_pos c]at h ⊢;cases h;rfl
  .rw[if_neg c]at h;cases h
 |nx ρ s=>erw[ybB]at h ⊢;cases h;rfl
 |_=>cases h
theorem zcl{k f:Nat}{fn:IC.Fn}{args:List PV}{v:PV}(hT:T f=AA fn)(hp:fn.pure=AC)(hl:args.length=fn.np)(hn:nLs args=AC)(h:yd T (k+1) f args []=.ok v [])(st:SO):yd T (k+1) f args st=.ok v st:=by
 rw[zc hT hp hl hn]at h ⊢;exact zlh h
def ybu(W:Int):List Rw->Mem->Int->Prop
 |[],_,_=>True
 |r::rs,M,k=>((∀t x,r=.half t x->0<=rd M x/\rd M x<W/\0<=k/\k<2)/\∀a b x y,r=.times a b x y->(rd M x).natAbs<18446744073709551616)/\ybu W rs (stepM W M k r).1 (stepM W M k r).2
noncomputable def rnA:Css:=match yK.body with
 |.cons (.for _ _ b) _=>b
 |x=>x
noncomputable def rnB:Css:=match yK.body with
 |.cons _ (.cons (.for _ _ b) _)=>b
 |x=>x
theorem rnS:yK.body=.cons (.for (.n 2) (.seq (.var 1)) rnA) (.cons (.for (.n 2) (.seq (.var 1)) rnB) .nil):=rfl
theorem zkf(r:Rw):nLs [yV r]=true:=by cases r<;>rfl
section
variable {m l n:Nat}
theorem zcO(k:Nat){v:Option PV}(st:SO):∀(rs:List Rw),(∀r∈rs,yd T (k+1) z5 [yV r] []=.ok .non [])->∀p2,∃q2,ybb (yd T (k+1)) (.n 2) rnA (rs.map yV) [AA (.loc m),v,p2] st=.nx [AA (.loc m),v,q2] st
 |[],h,p2=>⟨p2,by rw[Ad,zL]⟩
 |r::rs,h,p2=>by
  let⟨q2,e⟩:=zcO k (v:=v) st rs (λq hq=>h q (AR _ hq)) (AA (yV r));have e1:=zcl (f:=z5) (fn:=zal) rfl rfl rfl (zkf r) (h r (by simp)) st;refine⟨q2,?_⟩;rw[AL,zG (ρ1:=[AA (.loc m),v,AA (yV r)]) rfl];generalize yV r=row at *;have hb:exs (yd T (k+1)) [AA (.loc m),v,AA row] st rnA=.nx [AA (.loc m),v,AA row] st:=by
   simp! [rnA,yK,e1]
  rw[hb];exact e
theorem zik(k:Nat)(hn:n<=100)(hn1:1<=n){v:Option PV}:∀(rs:List Rw) (M:Mem) (mk:Int) (st:SO) (L:Nat) (p2:Option PV),MM st m l n M mk L->L+2*rs.length<999999->ybu (2^n) rs M mk ->
  ∃st' q2,MM st' m l n (yw (2^n) rs M mk).1 (yw (2^n) rs M mk).2 (L+2*rs.length)/\(∀q,q≠m->q≠l->st'[q]?=st[q]?)/\st'.length=st.length/\ybb (yd T (k+6)) (.n 2) rnB (rs.map yV) [AA (.loc m),v,p2] st=.nx [AA (.loc m),v,q2] st'
 |[],M,mk,st,L,p2,h,hL,hh=>⟨st,p2,h,λ_ _ _=>rfl,rfl,by rw[Ad,zL]⟩
 |r::rs,M,mk,st,L,p2,h,hL,hh=>by
  erw[AZ]at hL;let⟨s1,h1,o1,l1,e1⟩:=zoW k h (by lia) hn hn1 r hh.1.1 hh.1.2;let⟨s2,q2,h2,o2,l2,e2⟩:=zik k hn hn1 (v:=v) rs _ _ s1 (L+2) (AA (yV r)) h1 (by lia) hh.2;refine⟨s2,q2,?_,λq a b=>(o2 q a b).trans (o1 q a b),l2.trans l1,?_⟩
  .rw[yw,AZ,show L+2*(rs.length+1)=L+2+2*rs.length by lia];exact h2
  .have ih:=h.ins (AG "go_row");rw[AL,zG (ρ1:=[AA (.loc m),v,AA (yV r)]) rfl];generalize yV r=row at *;have hb:exs (yd T (k+6)) [AA (.loc m),v,AA row] st rnB=.nx [AA (.loc m),v,AA row] s1:=by
    simp! [rnB,yK,ih,e1,IC.ve37]
   rw[hb];exact e2
theorem zja(k:Nat)(hn:n<=100)(hn1:1<=n){rs:List Rw}{M:Mem}{mk:Int}{st:SO}{L:Nat}(h:MM st m l n M mk L)(hL:L+2*rs.length<999999)(hh:ybu (2^n) rs M mk)(hA:∀r∈rs,yd T (k+6) z5 [yV r] []=.ok .non []):
  okM (yd T (k+7) zaQ [.loc m,.tp AB (rs.map yV)] st) st m l n (yw (2^n) rs M mk).1 (yw (2^n) rs M mk).2 (L+2*rs.length):=by
 have hT:T zaQ=AA ⟨2,3,AB,yK.body⟩:=rfl;let⟨q2,e1⟩:=zcO (m:=m) (k+5) (v:=AA (.tp AB (rs.map yV))) st rs hA AD;let⟨s2,q3,h2,o2,l2,e2⟩:=zik k hn hn1 (v:=AA (.tp AB (rs.map yV))) rs M mk st L q2 h hL hh;refine⟨s2,h2,o2,l2,?_⟩;rw[zp hT rfl rfl];show outI (exs (yd T (k+6)) [AA (.loc m),AA (.tp AB (rs.map yV)),AD] st yK.body)=_;rw[rnS,xs_cons,x_for];generalize rs.map yV=rows at *;simp! [e1,e2];rfl
theorem zhC:([97,98,99,100,109].all λc=>(EF 9).all λi=>isOk (yd T 8 za9 [.str ⟨#[c]⟩,.int (i:Nat)] []) (yae c (i:Nat)))=true:=by decide +kernel
theorem known(k:Nat){c i:Nat}(hc:c∈[97,98,99,100,109])(hi:i<9)(st:SO):yd T (8+k) za9 [.str ⟨#[c]⟩,.int (i:Int)] st=.ok (yae c i) st:=by
 have h:=Bk.1 zhC c hc;have h:=Bk.1 h i (by simpa using hi);have h:=zas (za8 h) k;rw[show 8+k=7+k+1 by lia]at h ⊢;exact zcl (f:=za9) (fn:=za4) rfl rfl rfl rfl h st
theorem yew(k:Nat){st:SO}{L:Nat}{w mk:Int}{M:Mem}(h:MM st m l w M mk L){c i:Nat}(hc:c∈[97,98,99,100,109])(hi:i<9):yd T (9+k) zY [.loc m,.str ⟨#[c]⟩,.int (i:Int)] st=.ok (.int (M c i)) st:=by
 have hT:T zY=AA zaj:=rfl;have e1:=known k hc hi st;have e2:yd T (8+k) zu [.loc m,yae c i] st=.ok (.int (M c i)) st:=by
  rw[show 8+k=7+k+1 by lia];exact zcj (7+k) h (c,(i:Int))
 have ih:=h.ins (AG "held_in");rw[show 9+k=8+k+1 by lia,zp hT rfl rfl];generalize yae c i=q at *;simp! [zaj,ih,e1,e2,zbt,IC.ve37]
theorem ze4(k:Nat)(v lo hi:Int)(h1:lo<=v)(h2:v<=hi)(st:SO):yd T (k+1) zaM [.int v,.int lo,.int hi] st=.ok (.bl AC) st:=by
 have hT:T zaM=AA zaw:=rfl;rw[zc hT rfl rfl rfl];have e1:yaU (.int v) [.int]=AA (.bl AC):=rfl;have e2:yaU (.int v) [.bool]=AA (.bl AB):=rfl;simp! [zaw,e1,e2,decide_eq_true h1,decide_eq_true h2];rfl
theorem yf4(k:Nat)(hn:n<=100){st:SO}{L:Nat}{mk:Int}{M:Mem}(h:MM st m l n M mk L)(hL:L<999999){c i:Nat}(hc:c∈[97,98,99,100,109])(hi:i<9){v:Int}(v0:0<=v)(v1:v<2^n):
  okM (yd T (9+k) zb4 [.loc m,.str ⟨#[c]⟩,.int (i:Int),.int v] st) st m l n (upd M c i v) mk (L+1):=by
 have hT:T zb4=AA zat:=rfl;have e1:=known k hc hi st;have e2:yd T (8+k) zdg [.int n] st=.ok (.int (2^n-1)) st:=by rw[show 8+k=7+k+1 by lia];exact highest (7+k) n hn st
 have e3:yd T (8+k) zaM [.int v,.int 0,.int (2^n-1)] st=.ok (.bl AC) st:=by rw[show 8+k=7+k+1 by lia];exact ze4 (7+k) v 0 (2^n-1) v0 (by lia) st
 let⟨s1,d1,⟨o,ho⟩,h1⟩:=h.sd hL (c,(i:Int)) v;refine⟨s1,h1,λq a b=>by rw[ho,AM (BJ b)],by simp[ho],?_⟩;have d1:ybj st (.loc l) (yae c i) (.int v)=AA s1:=d1;rw[show 9+k=8+k+1 by lia,zp hT rfl rfl];generalize yae c i=q at *;simp! [zat,e1,h.fw,e2,e3,h.fd,zfO,d1,zai,IC.ve32];rfl
end
theorem yeu{v:PV}:ybR sw v []=[(sw,v)]:=rfl
theorem yeO{a v:PV}:ybR sws v [(sw,a)]=[(sw,a),(sws,v)]:=by ac_rfl
theorem yeS{a b v:PV}:ybR smk v [(sw,a),(sws,b)]=[(sw,a),(sws,b),(smk,v)]:=by ac_rfl
theorem yeX(k:Nat)(w:Int)(st:SO):yd T (k+1) z7 [.loc st.length,.int w] (st++[.ins cM []])=.ok .non (st++[mob w (st.length+1) 0]++[.dct AC []]):=by
 have hT:T z7=AA zN:=rfl;have g0:(st++[Ob.ins cM []])[st.length]?=AA (.ins cM []):=by simp
 have s1:ya9 cM (st++[Ob.ins cM []]) (.loc st.length) sw (.int w)=AA (st++[.ins cM [(sw,.int w)]]):=by
  erw[ya9,g0];rw[if_pos ⟨trivial,by simp⟩,yeu];simp
 have g1:(st++[Ob.ins cM [(sw,.int w)]]++[Ob.dct AC []])[st.length]?=AA (.ins cM [(sw,.int w)]):=by simp
 have s2:ya9 cM (st++[Ob.ins cM [(sw,.int w)]]++[Ob.dct AC []]) (.loc st.length) sws (.loc (st.length+1))=AA (st++[.ins cM [(sw,.int w),(sws,.loc (st.length+1))]]++[.dct AC []]):=by
  erw[ya9,g1];rw[if_pos ⟨trivial,by simp⟩,yeO];simp
 have g2:(st++[Ob.ins cM [(sw,.int w),(sws,.loc (st.length+1))]]++[Ob.dct AC []])[st.length]?=AA (.ins cM [(sw,.int w),(sws,.loc (st.length+1))]):=by simp
 have s3:ya9 cM (st++[Ob.ins cM [(sw,.int w),(sws,.loc (st.length+1))]]++[Ob.dct AC []]) (.loc st.length) smk (.int 0)=AA (st++[mob w (st.length+1) 0]++[.dct AC []]):=by
  erw[ya9,g2];rw[if_pos ⟨trivial,by simp⟩,yeS];simp[mob]
 have hd:∀(ρ:IC.Env),ev (yd T k) ρ (st++[Ob.ins cM [(sw,.int w)]]) (.dict0 AC)=.ok (.loc (st.length+1)) (st++[Ob.ins cM [(sw,.int w)]]++[.dct AC []]):=λρ=>by
  erw[ev,Af,D9]
 rw[zp hT rfl rfl];erw[zN,xs_cons,zfw,hd];have hlen:(st++[Ob.ins cM [(sw,.int w)]]).length=st.length+1:=by simp
 simp! [s1,zai,hlen,s2,s3];rfl
theorem ze0(W:Int)(hW:0<W)(x:Int):∀(n a:Nat),(yx n (a:Int) 1).map (λp=>match p with | .int j=>PV.int (x/W^j.toNat%W)|q=>q)=(yh W n (x/W^a)).map .int
 |0,a=>rfl
 |n+1,a=>by
  have h:=ze0 W hW x n (a+1);rw[yx,AL,yh,AL]
  congr 1
  .rw[show ((a:Int)+1)=((a+1:Nat):Int)by lia,h,Am,DP (D5 (Ab hW))]
theorem zoG(n:Nat)(hn:n<=1000):yJ .shl (.int 1) (.int (n:Int))=AA (.int (2^n)):=by
 erw[yJ,binI];rw[if_pos ⟨by lia,by lia,by decide⟩];simp
theorem zkZ(a b:Nat)(ha:a<=1000):yJ .mul (.int (a:Int)) (.int (b:Int))=AA (.int ((a*b:Nat):Int)):=by
 have h:yaH (a:Int) (b:Int)=true:=by
  erw[yaH,DF,decide_eq_true_eq];exact .inl (by simp;lia)
 erw[yJ,binI,h,if_true];simp
theorem lowest(k:Nat)(x:Int)(w n:Nat)(hw:w<=16)(hn:n<=8)(st:SO):yd T (k+1) zX [.int x,.int w,.int n] st=.ok (.tp AB ((yh (2^w) n x).map .int)) st:=by
 have hT:T zX=AA zah:=rfl;have e1:=zoG w (by lia);have hr:=zbq n (by lia);have hc:yar (yd T k) [AD,AA (.int (2^w-1)),AA (.int x),AA (.int w)] (.n 0) (.cst (.bl AC)) (.bin .band (.bin .shr (.var 2) (.bin .mul (.var 3) (.var 0))) (.var 1)) (yx n 0 1) []=.ok ((yh (2^w) n x).map .int) []:=by
  have h:=ze0 (2^w) (Ab (by decide)) x n 0;rw[D6,GH]at h;rw[<-h];refine zaN _ λp hp=>?_;obtain⟨j,hj,rfl⟩:∃j:Nat,j<n/\p=.int (j:Int):=by
   have:∀(n a:Nat) (p:PV),p∈yx n (a:Int) 1->∃j:Nat,a<=j/\j<a+n/\p=.int (j:Int):=by
    intro n
    induction n with
    |zero=>intro a p h;cases h
    |succ n ih=>
     intro a p h;rw[yx]at h;rcases AN.1 h with rfl|h
     .exact⟨a,AS _,by lia,rfl⟩
     .let⟨j,h1,h2,h3⟩:=ih (a+1) p (by rw[show ((a+1:Nat):Int)=(a:Int)+1 by lia];exact h);exact⟨j,by lia,by lia,h3⟩
   let⟨j,_,h2,h3⟩:=this n 0 p hp;exact⟨j,by lia,h3⟩
  have m1:=zkZ w j (by lia);have s1:yJ .shr (.int x) (.int ((w*j:Nat):Int))=AA (.int (x/2^(w*j))):=by
   erw[yJ,binI];rw[if_pos (by lia),CB]
  have b1:=band (x/2^(w*j)) (2^w-1);rw[zdD (n:=w) (x/2^(w*j))]at b1;simp! [ybl,m1,s1,b1];rw[CB,<-CZ]
 rw[zc hT rfl rfl rfl];simp! [zah,e1,hr,hc];rw[zcc _ (by simp[zI];lia)];have ht:yay .tuple [] [.lst ((yh (2^w) n x).map .int)]=AA (.tp AB ((yh (2^w) n x).map .int)):=rfl;simp! [ht];simp[ybB,nL,noLocs_ints]
theorem zbk{W:Int}(hW:0<W):∀(n:Nat) (x:Int),∀v∈yh W n x,0<=v/\v<W
 |0,x,v,h=>by cases h
 |n+1,x,v,h=>by
  rw[yh]at h;rcases AN.1 h with rfl|h
  .exact⟨Ah _ (by lia),A8 _ hW⟩
  .exact zbk hW n _ v h
noncomputable def mwB:Css:=match yD.body with
 |.cons _ (.cons (.for _ _ b) _)=>b
 |x=>x
noncomputable def mwC:Css:=match mwB with
 |.cons (.for _ _ b) _=>b
 |x=>x
section
variable {m l n:Nat}
theorem zfJ(k:Nat)(hn:n<=100){c:Nat}(hc:c∈[97,98,99,100,109]){p0 p1 p2 p3 p6:Option PV}:∀(ws:List Int) (i:Nat) (M:Mem) (st:SO) (L:Nat) (p7 p8:Option PV),(∀v∈ws,0<=v/\v<2^n)->i+ws.length<=9->MM st m l n M 0 L->L+ws.length<999999 ->
  ∃st' q7 q8,MM st' m l n (yaD c i ws M) 0 (L+ws.length)/\(∀q,q≠m->q≠l->st'[q]?=st[q]?)/\st'.length=st.length /\
   ybb (yd T (9+k)) (.t [7,8]) mwC (yL i (ws.map .int)) [p0,p1,p2,p3,AA (.loc m),AA (.str ⟨#[c]⟩),p6,p7,p8] st=.nx [p0,p1,p2,p3,AA (.loc m),AA (.str ⟨#[c]⟩),p6,q7,q8] st'
 |[],i,M,st,L,p7,p8,hv,hi,h,hL=>⟨st,p7,p8,h,λ_ _ _=>rfl,rfl,by rw[Ad,yL,zL]⟩
 |v::ws,i,M,st,L,p7,p8,hv,hi,h,hL=>by
  erw[AZ]at hi hL;let⟨v0,v1⟩:=hv v (by simp);let⟨s1,h1,o1,l1,e1⟩:=yf4 k hn h (by lia) hc (i:=i) (by lia) v0 v1;let⟨s2,q7,q8,h2,o2,l2,e2⟩:=zfJ k hn hc (p0:=p0) (p1:=p1) (p2:=p2) (p3:=p3) (p6:=p6) ws (i+1) (upd M c i v) s1 (L+1) (AA (.int i)) (AA (.int v)) (λu hu=>hv u (AR _ hu)) (by lia) h1 (by lia);refine⟨s2,q7,q8,?_,λq a b=>(o2 q a b).trans (o1 q a b),l2.trans l1,?_⟩
  .rw[yaD,AZ,show L+(ws.length+1)=L+1+ws.length by lia];exact h2
  .have ih:=h.ins (AG "put");have bt:yR (.t [7,8]) (.tup [.int (i:Int),.int v]) [p0,p1,p2,p3,AA (.loc m),AA (.str ⟨#[c]⟩),p6,p7,p8]=AA [p0,p1,p2,p3,AA (.loc m),AA (.str ⟨#[c]⟩),p6,AA (.int i),AA (.int v)]:=rfl;rw[AL,yL,zG bt];have hb:exs (yd T (9+k)) [p0,p1,p2,p3,AA (.loc m),AA (.str ⟨#[c]⟩),p6,AA (.int i),AA (.int v)] st mwC=.nx [p0,p1,p2,p3,AA (.loc m),AA (.str ⟨#[c]⟩),p6,AA (.int i),AA (.int v)] s1:=by
    simp! [mwC,mwB,yD,ih,e1,IC.ve37]
   rw[hb];exact e2
end
theorem ze5(k:Nat)(w n:Nat)(hw:w<=16)(hn:n<=8)(x y:Int)(st:SO):
  ∃st' m l,st.length<=m/\st.length<=l/\MM st' m l w (yad (2^w) n x y) 0 (2*n)/\(∀q,q<st.length->st'[q]?=st[q]?)/\yd T (10+k) zaG [.int w,.int n,.int x,.int y] st=.ok (.loc m) st':=by
 have hT:T zaG=AA ⟨4,9,AB,yD.body⟩:=rfl;have e1:yd T (9+k) z7 [.loc st.length,.int w] (st++[.ins cM []])=.ok .non (st++[mob w (st.length+1) 0]++[.dct AC []]):=by rw[show 9+k=8+k+1 by lia];exact yeX (8+k) w st
 obtain⟨s1,hs1⟩:∃s1,s1=st++[mob w (st.length+1) 0]++[.dct AC []]:=⟨_,rfl⟩;rw[<-hs1]at e1;have h1:MM s1 st.length (st.length+1) w M0 0 0:=by
  rw[hs1];exact⟨by simp,⟨[],by simp,λp hp=>(by cases hp),λc i=>rfl,by simp⟩,by lia⟩
 have eA:∀s,yd T (9+k) zX [.int x,.int w,.int n] s=.ok (.tp AB ((yh (2^w) n x).map .int)) s:=λs=>by rw[show 9+k=8+k+1 by lia];exact lowest (8+k) x w n hw hn s
 have eB:∀s,yd T (9+k) zX [.int y,.int w,.int n] s=.ok (.tp AB ((yh (2^w) n y).map .int)) s:=λs=>by rw[show 9+k=8+k+1 by lia];exact lowest (8+k) y w n hw hn s
 have lA:=zI (2^w) n x;have lB:=zI (2^w) n y;let⟨s2,q7,q8,h2,o2,l2,f2⟩:=zfJ k (by lia) (c:=97) (by simp) (p0:=AA (.int w)) (p1:=AA (.int n)) (p2:=AA (.int x)) (p3:=AA (.int y)) (p6:=AA (.int x)) (yh (2^w) n x) 0 M0 s1 0 AD AD (zbk (Ab (by decide)) n x) (by lia) h1 (by lia);let⟨s3,r7,r8,h3,o3,l3,f3⟩:=zfJ k (by lia) (c:=98) (by simp) (p0:=AA (.int w)) (p1:=AA (.int n)) (p2:=AA (.int x)) (p3:=AA (.int y)) (p6:=AA (.int y)) (yh (2^w) n y) 0 _ s2 _ q7 q8 (zbk (Ab (by decide)) n y) (by lia) h2 (by lia);refine⟨s3,st.length,st.length+1,AS _,by lia,?_,λq hq=>?_,?_⟩
 .rw[show 2*n=0+(yh (2^w) n x).length+(yh (2^w) n y).length by lia];exact h3
 .rw[o3 q (by lia) (by lia),o2 q (by lia) (by lia),hs1,BP,Aj hq]
 .have hb:yD.body=(match yD.body with
   |.cons a (.cons (.for t i _) r)=>.cons a (.cons (.for t i mwB) r)
   |x=>x):=rfl
  have hc:mwB=(match mwB with
   |.cons (.for t i _) r=>.cons (.for t i mwC) r
   |x=>x):=rfl
  have bt:∀(a b:PV) (p4 p5 p6 p7 p8:Option PV),yR (.t [5,6]) (.tp AB [a,b]) [AA (.int w),AA (.int n),AA (.int x),AA (.int y),p4,p5,p6,p7,p8]=AA [AA (.int w),AA (.int n),AA (.int x),AA (.int y),p4,AA a,AA b,p7,p8]:=λ_ _ _ _ _ _ _=>rfl;have cA:(AG "a")=⟨#[97]⟩:=by ac_rfl
  have cB:(AG "b")=⟨#[98]⟩:=by ac_rfl
  have g1:exs (yd T (9+k)) [AA (.int w),AA (.int n),AA (.int x),AA (.int y),AA (.loc st.length),AA (.str ⟨#[97]⟩),AA (.int x),AD,AD] s1 mwB=.nx [AA (.int w),AA (.int n),AA (.int x),AA (.int y),AA (.loc st.length),AA (.str ⟨#[97]⟩),AA (.int x),q7,q8] s2:=by
   rw[hc];simp! [mwB,yD,eA,f2]
  have g2:exs (yd T (9+k)) [AA (.int w),AA (.int n),AA (.int x),AA (.int y),AA (.loc st.length),AA (.str ⟨#[98]⟩),AA (.int y),q7,q8] s2 mwB=.nx [AA (.int w),AA (.int n),AA (.int x),AA (.int y),AA (.loc st.length),AA (.str ⟨#[98]⟩),AA (.int y),r7,r8] s3:=by
   rw[hc];simp! [mwB,yD,eB,f3]
  have ag:∀(ρ:IC.Env) (s:SO) (k:IC.Env->SO->Fl),yaG (.nx ρ s) k=k ρ s:=λ_ _ _=>rfl;rw[show 10+k=9+k+1 by lia,zp hT rfl rfl];dsimp only;rw[hb];simp! [yD,e1,ybH,newV,hs1.symm,cA,cB,zG (bt _ _ _ _ _ _ _),zL,g1,g2,ag,zbt,IC.ve33]
noncomputable def getM(M:Mem)(c:Nat):Nat->Nat->List Int
 |_,0=>[]
 |a,n+1=>M c a::getM M c (a+1) n
theorem zdf(k:Nat){m l L:Nat}{w mk:Int}{M:Mem}{st:SO}(h:MM st m l w M mk L){c:Nat}(hc:c∈[97,98,99,100,109])(n:Nat)(hn:n<=8):
  yd T (10+k) zay [.loc m,.str ⟨#[c]⟩,.int n] st=.ok (.tp AB ((getM M c 0 n).map .int)) st:=by
 have hT:T zay=AA ⟨3,3,AB,yav.body⟩:=rfl;have hr:=zbq n (by lia);have ih:=h.ins (AG "word");have hl:∀(n a:Nat),(getM M c a n).length=n:=by
  intro n
  induction n with
  |zero=>intro a;rfl
  |succ n ihn=>intro a;simp[getM,ihn]
 have hcm:∀(n a:Nat),a+n<=9->yar (yd T (9+k)) [AD,AA (.str ⟨#[c]⟩),AA (.loc m)] (.n 0) (.cst (.bl AC)) (.mcl cM zY (AG "word") (.var 2) (.cons (.var 1) (.cons (.var 0) .nil))) (yx n (a:Int) 1) st=.ok ((getM M c a n).map .int) st:=by
  intro n
  induction n with
  |zero=>intro a _;rw[yx,zb2];rfl
  |succ n ihn=>
   intro a ha;have e:=yew k h hc (i:=a) (by lia);have one:ybl (yd T (9+k)) [AD,AA (.str ⟨#[c]⟩),AA (.loc m)] (.n 0) (.cst (.bl AC)) (.mcl cM zY (AG "word") (.var 2) (.cons (.var 1) (.cons (.var 0) .nil))) (.int (a:Int)) st=.ok (AA (.int (M c a))) st:=by
    simp! [ybl,ih,e,IC.ve37]
   have q:=ihn (a+1) (by lia);rw[yx,zax,one,bd_ok,show ((a:Int)+1)=((a+1:Nat):Int)by lia,q,bd_ok];rfl
 have hcm:=hcm n 0 (by lia);have ht:yay .tuple st [.lst ((getM M c 0 n).map .int)]=AA (.tp AB ((getM M c 0 n).map .int)):=rfl;rw[show 10+k=9+k+1 by lia,zp hT rfl rfl];have hcm:yar (yd T (9+k)) [AD,AA (.str ⟨#[c]⟩),AA (.loc m)] (.n 0) (.cst (.bl AC)) (.mcl cM zY (AG "word") (.var 2) (.cons (.var 1) (.cons (.var 0) .nil))) (yx n 0 1) st=_:=hcm;simp! [yav,hr,hcm];rw[zcc _ (by simp[hl];lia)];simp! [ht,zbt]
theorem zfU(k:Nat)(x:Int)(w n:Nat)(hw:w<=16)(hn:n<=8)(x0:0<=x)(x1:x<2^(w*n))(st:SO):yd T (k+2) zbg [.int x,.int w,.int n] st=.ok (.tp AB ((yh (2^w) n x).map .int)) st:=by
 have hT:T zbg=AA zbd:=rfl;have hwn:w*n<=1000:=by
  have:w*n<=16*8:=Ag hw hn;lia
 have m1:=zkZ w n (by lia);have s1:=zoG (w*n) hwn;have e1:∀s,yd T (k+1) zX [.int x,.int w,.int n] s=_:=λs=>lowest k x w n hw hn s;have c1:decide (x<0)=false:=decide_eq_false (by lia);have c2:decide ((2:Int)^(w*n)<=x)=false:=decide_eq_false (by lia);rw[zc hT rfl rfl rfl];generalize hL:yh (2^w) n x=ws at *;simp! [zbd,c1,m1,s1,c2,e1];simp[ybB,nL,noLocs_ints]
structure ycp(pr:Prop)(qb:Bool)(deed:PV)(w n na:Nat)(rs:List Rw):Prop where
 nl:nL deed=AC
 isd:yd T 20 zcW [deed] []=.ok (.bl AC) []
 isp:pr->yd T 20 zw [deed] []=.ok (.bl AC) []
 quo:∀st,(idxV st deed (.int 0)).bind (λv=>yN .isin v zad)=AA (.bl qb)
 rows:yd T 20 zaT [deed,.int w,.int n] []=.ok (.tp AB (rs.map yV)) []
 ref:∀r∈rs,yd T 20 z5 [yV r] []=.ok .non []
 ans:yd T 20 zD [deed,.int n] []=.ok (.int na) []
 rest:yd T 20 za0 [deed,.int n] []=.ok (.int (if qb=AC then n else 0:Nat)) []
theorem zfv(k:Nat){pr:Prop}{qb:Bool}{deed:PV}{w n na:Nat}{rs:List Rw}(D:ycp pr qb deed w n na rs)(hw:w<=16)(hn:n<=8){x y:Int}(x0:0<=x)(x1:x<2^(w*n))(y0:0<=y)(y1:y<2^(w*n))(hp:y≠0->pr)(hq:y=0->qb=AB)(st:SO):
  yd T (21+k) zbZ [deed,.int w,.int n,.int x,.int y] st=.ok .non st:=by
 have hT:T zbZ=AA zaa:=rfl;have hnl:nLs [deed,.int w,.int n,.int x,.int y]=true:=by simp[nLs,D.nl,nL]
 have e1:=zas D.isd k;have e3:∀s,yd T (20+k) zbg [.int x,.int w,.int n] s=.ok (.tp AB ((yh (2^w) n x).map .int)) s:=λs=>by rw[show 20+k=18+k+2 by lia];exact zfU (18+k) x w n hw hn x0 x1 s
 have e4:∀s,yd T (20+k) zbg [.int y,.int w,.int n] s=.ok (.tp AB ((yh (2^w) n y).map .int)) s:=λs=>by rw[show 20+k=18+k+2 by lia];exact zfU (18+k) y w n hw hn y0 y1 s
 rw[show 21+k=20+k+1 by lia,zc hT rfl rfl hnl];have q:=D.quo []
 cases hi:idxV [] deed (.int 0)with
 |none=>rw[hi]at q;cases q
 |some v=>
  rw[hi,BW]at q;generalize yh (2^w) n x=xs at *;generalize yh (2^w) n y=ys at *
  cases hy:(y==0)with
  |true=>
   rw[hq (by simpa using hy)]at q;simp! [zaa,e1,e3,e4,hy,hi,q];rfl
  |false=>
   have e2:=zas (D.isp (hp (by intro h;rw[h]at hy;exact absurd hy (by decide)))) k;simp! [zaa,e1,e2,e3,e4,hy];rfl
theorem ran(k:Nat){pr:Prop}{qb:Bool}{deed:PV}{w n na:Nat}{rs:List Rw}(D:ycp pr qb deed w n na rs)(hw:w<=16)(hw1:1<=w)(hn:n<=4)(hna:na<=8)(hrs:rs.length<5000){x y:Int}(x0:0<=x)(x1:x<2^(w*n))(y0:0<=y)(y1:y<2^(w*n))(hp:y≠0->pr)(hq:y=0->qb=AB)(hh:ybu (2^w) rs (yad (2^w) n x y) 0)(st:SO):
  yd T (22+k) zoF [deed,.int w,.int n,.int x,.int y] st=.ok (.tp AB [.tp AB ((getM (yw (2^w) rs (yad (2^w) n x y) 0).1 99 0 na).map .int),.tp AB ((getM (yw (2^w) rs (yad (2^w) n x y) 0).1 100 0 (if qb=AC then n else 0)).map .int),.tp AB ((getM (yw (2^w) rs (yad (2^w) n x y) 0).1 109 0 4).map .int)]) st:=by
 have hT:T zoF=AA ⟨5,7,AC,yct.body⟩:=rfl;have hnl:nLs [deed,.int w,.int n,.int x,.int y]=true:=by simp[nLs,D.nl,nL]
 have e1:=zfv k D hw (by lia) x0 x1 y0 y1 hp hq [];let⟨s2,m,l,_,_,h2,_,e2⟩:=ze5 (11+k) w n hw (by lia) x y [];have e2:yd T (21+k) zaG [.int w,.int n,.int x,.int y] []=.ok (.loc m) s2:=by rw[show 21+k=10+(11+k)by lia];exact e2
 have nl3:nLs [deed,.int w,.int n]=true:=by simp[nLs,D.nl,nL]
 have nl2:nLs [deed,.int n]=true:=by simp[nLs,D.nl,nL]
 have up:∀{f:Nat} {fn:IC.Fn} {args:List PV} {v:PV},T f=AA fn->fn.pure=AC->args.length=fn.np->nLs args=AC->yd T 20 f args []=.ok v []->∀s,yd T (21+k) f args s=.ok v s:=λ{f fn args v} a b c d e s=>by
  have:=zas e (1+k);rw[show 20+(1+k)=20+k+1 by lia]at this;rw[show 21+k=20+k+1 by lia];exact zcl a b c d this s
 have e3:=up (f:=zaT) (fn:=zaB) rfl rfl rfl nl3 D.rows s2;let⟨s4,h4,_,_,e4⟩:=zja (14+k) (n:=w) (by lia) hw1 h2 (rs:=rs) (by lia) hh (λr hr=>by
  have:=zas (D.ref r hr) k;rw[show 20+k=14+k+6 by lia]at this;exact this)
 have e4:yd T (21+k) zaQ [.loc m,.tp AB (rs.map yV)] s2=.ok .non s4:=by rw[show 21+k=14+k+7 by lia];exact e4
 have e5:=up (f:=zD) (fn:=zC) rfl rfl rfl nl2 D.ans s4;have e6:=up (f:=za0) (fn:=zam) rfl rfl rfl nl2 D.rest s4;have n1:yd T (21+k) zay [.loc m,.str ⟨#[99]⟩,.int na] s4=.ok (.tp AB ((getM (yw (2^w) rs (yad (2^w) n x y) 0).1 99 0 na).map .int)) s4:=by
  have:=zdf (11+k) h4 (c:=99) (by simp) na hna;rw[show 10+(11+k)=21+k by lia]at this;exact this
 have n2:yd T (21+k) zay [.loc m,.str ⟨#[100]⟩,.int (if qb=AC then n else 0:Nat)] s4=.ok (.tp AB ((getM (yw (2^w) rs (yad (2^w) n x y) 0).1 100 0 (if qb=AC then n else 0)).map .int)) s4:=by
  have:=zdf (11+k) h4 (c:=100) (by simp) (if qb=AC then n else 0) (by split<;>lia);rw[show 10+(11+k)=21+k by lia]at this;exact this
 have n3:yd T (21+k) zay [.loc m,.str ⟨#[109]⟩,.int 4] s4=.ok (.tp AB ((getM (yw (2^w) rs (yad (2^w) n x y) 0).1 109 0 4).map .int)) s4:=by
  have:=zdf (11+k) h4 (c:=109) (by simp) 4 (by lia);rw[show 10+(11+k)=21+k by lia]at this;exact this
 have ih:=h2.ins (AG "run");have cC:(AG "c")=⟨#[99]⟩:=by ac_rfl
 have cD:(AG "d")=⟨#[100]⟩:=by ac_rfl
 have cE:(AG "m")=⟨#[109]⟩:=by ac_rfl
 have vM:zcs=.int 4:=rfl;rw[show 22+k=21+k+1 by lia,zc hT rfl rfl hnl];dsimp only;generalize rs.map yV=rows at *;generalize getM (yw (2^w) rs (yad (2^w) n x y) 0).1 99 0 na=A at *;generalize getM (yw (2^w) rs (yad (2^w) n x y) 0).1 109 0 4=B at *;generalize getM (yw (2^w) rs (yad (2^w) n x y) 0).1 100 0 (if qb=AC then n else 0)=C at *;generalize (if qb=AC then n else 0)=nr at *;simp! [yct,e1,e2,ih,e3,e4,e5,e6,cC,cD,cE,vM,n1,n2,n3,IC.ve37];simp[ybB,nL,nLs,noLocs_ints]
theorem letters:((EF 26).all λj=>isOk (yd T 2 zbA [.str (chS (97+j))] []) (.bl AC))=true:=by decide +kernel
theorem zgx(k:Nat){c:Nat}(h1:97<=c)(h2:c<=122)(s:SO):yd T (k+2) zbA [.str (chS c)] s=.ok (.bl AC) s:=by
 have h:=Bk.1 letters (c-97) (by simp;lia);rw[show 97+(c-97)=c by lia]at h;have h:=zas (za8 h) k;rw[show 2+k=k+1+1 by lia]at h;exact zcl (f:=zbA) (fn:=zbB) rfl rfl rfl rfl h s
theorem zeQ(k:Nat){i a b:Int}(h1:a<=i)(h2:i<=b)(s:SO):yd T (k+1) zaM [.int i,.int a,.int b] s=.ok (.bl AC) s:=by
 have hT:T zaM=AA zaw:=rfl;have e1:yaU (.int i) [.int]=AA (.bl AC):=rfl;have e2:yaU (.int i) [.bool]=AA (.bl AB):=rfl;have c1:decide (a<=i)=true:=decide_eq_true h1;have c2:decide (i<=b)=true:=decide_eq_true h2;rw[zc hT rfl rfl rfl];simp! [zaw,e1,e2,c1,c2,IC.ve9];rfl
theorem zjt(k:Nat){x:Cel}(h1:97<=x.1)(h2:x.1<=122)(h3:0<=x.2)(h4:x.2<=99)(s:SO):yd T (k+4) zeT [yG x] s=.ok (.bl AC) s:=by
 have hT:T zeT=AA zbR:=rfl;have hT2:T zbY=AA zar:=rfl;have el:∀s,yd T (k+3) zbY [yG x] s=.ok (.bl AC) s:=λs=>by
  have e:=λs=>zgx k h1 h2 s;rw[zc hT2 rfl rfl rfl];have e1:yaU (yG x) [.tuple]=AA (.bl AC):=rfl;have e2:∀st,yay .len st [yG x]=AA (.int 2):=λ_=>rfl;have e3:∀st,idxV st (yG x) (.int 0)=AA (.str (chS x.1)):=λ_=>rfl;generalize yG x=v at *;simp! [zar,e1,e2,e3,e];rfl
 have ew:=λs=>zeQ (k+2) h3 h4 s;have e3:∀st,idxV st (yG x) (.int 1)=AA (.int x.2):=λ_=>rfl;rw[zc hT rfl rfl rfl];generalize yG x=v at *;simp! [zbR,el,e3,ew];rfl
noncomputable abbrev kC:PV:=.str "cell"
noncomputable abbrev kF:PV:=.str "figure"
theorem zlT(k:Nat){x:Cel}(h1:97<=x.1)(h2:x.1<=122)(h3:0<=x.2)(h4:x.2<=99)(s:SO):yd T (k+5) zy [kC,yG x,.bl AB] s=.ok (.bl AC) s:=by
 have hT:T zy=AA zZ:=rfl;have e:=λs=>zjt k h1 h2 h3 h4 s;have c:yN .eq kC kF=AA (.bl AB):=by ac_rfl
 have hnl:nLs [kC,yG x,.bl AB]=true:=rfl;rw[zc hT rfl rfl hnl];generalize yG x=v at *;simp! [zZ,c,e];rfl
theorem zkQ(k:Nat){d:Int}(h1:0<=d)(h2:d<=1)(s:SO):yd T (k+5) zy [kF,.int d,.bl AB] s=.ok (.bl AC) s:=by
 have hT:T zy=AA zZ:=rfl;have e:=λs=>zeQ (k+3) h1 h2 s;have c:yN .eq kF kF=AA (.bl AC):=by ac_rfl
 rw[zc hT rfl rfl rfl];simp! [zZ,c,e];rfl
noncomputable def hfB:Css:=match yS.body with
 |.cons _ (.cons (.for _ _ b) _)=>b
 |x=>x
theorem ziE(k:Nat){p0 p1:PV}(hp1:p1=.bl AB){st:SO}:∀(l:List (PV×PV)) (p2 p3:Option PV),(∀x∈l,∀s,yd T k zy [x.1,x.2,.bl AB] s=.ok (.bl AC) s) ->
  ∃q2 q3,ybb (yd T k) (.t [2,3]) hfB (l.map λx=>.tp AB [x.1,x.2]) [AA p0,AA p1,p2,p3] st=.nx [AA p0,AA p1,q2,q3] st
 |[],p2,p3,_=>⟨p2,p3,zL⟩
 |(a,b)::l,p2,p3,h=>by
  subst hp1;let⟨q2,q3,e⟩:=ziE k (p0:=p0) rfl (st:=st) l (AA a) (AA b) (λx hx=>h x (by simp[hx]));refine⟨q2,q3,?_⟩;have e1:=h (a,b) (by simp) st;have one:exs (yd T k) [AA p0,AA (.bl AB),AA a,AA b] st hfB=.nx [AA p0,AA (.bl AB),AA a,AA b] st:=by
   simp only at e1;simp! [hfB,yS,e1]
  rw[AL,zG (ρ1:=[AA p0,AA (.bl AB),AA a,AA b]) rfl,one];exact e
theorem zi4(k:Nat){nm:AQ}{ops:List PV}(ho:nLs ops=AC)(hl:0<(.str nm::ops:List PV).length)(hd:ycn zac (.str nm)=AA (.bl AC))(s:SO):yd T (k+1) zcg [.tp AB (.str nm::ops)] s=.ok (.bl AC) s:=by
 have hT:T zcg=AA zbl:=rfl;have hnl:nLs [.tp AB (.str nm::ops)]=true:=by simp[nLs,nL,ho]
 have e1:yaU (.tp AB (.str nm::ops)) [.tuple]=AA (.bl AC):=rfl;have e2:∀st,yay .len st [.tp AB (.str nm::ops)]=AA (.int ((.str nm::ops:List PV).length:Nat)):=λ_=>rfl;have e3:∀st,idxV st (.tp AB (.str nm::ops)) (.int 0)=AA (.str nm):=λ_=>ix0;have e4:yaU (.str nm) [.str]=AA (.bl AC):=rfl;have c:decide (((.str nm::ops:List PV).length:Int) > 0)=true:=decide_eq_true (by lia);rw[zc hT rfl rfl hnl];generalize (PV.str nm::ops).length=L at *;generalize PV.tp AB (.str nm::ops)=v at *;simp! [zbl,e1,e2,e3,e4,c,hd,IC.ve29];rfl
theorem zge:∀l:List (PV×PV),yaY (l.map (·.1)) (l.map (·.2))=l.map λx=>.tp AB [x.1,x.2]
 |[]=>rfl
 |(a,b)::l=>by erw[AL,yaY,zge l,PV.tup]
noncomputable def hfE:Ce:=match yS.body with
 |.cons _ (.cons _ (.cons (.ret e) _))=>e
 |_=>.nope
theorem zhE(k:Nat){nm:AQ}(l:List (PV×PV))(hd:ycn zac (.str nm)=AA (.bl AC))(hr:ycx zac (.str nm)=AA (.tp AC (l.map (·.1))))(ho:∀x∈l,∀s,yd T (k+1) zy [x.1,x.2,.bl AB] s=.ok (.bl AC) s)(hnl:nLs (l.map (·.2))=AC)
  (ht:∀q2 q3 st,ev (yd T (k+1)) [AA (.tp AB (.str nm::l.map (·.2))),AA (.bl AB),q2,q3] st hfE=.ok (.bl AC) st) (s:SO):yd T (k+2) zci [.tp AB (.str nm::l.map (·.2)),.bl AB] s=.ok (.bl AC) s:=by
 have hT:T zci=AA yS:=rfl;have hn2:nLs [.tp AB (.str nm::l.map (·.2)),.bl AB]=true:=by simp[nLs,nL,hnl]
 have e0:∀st,yd T (k+1) zcg [.tp AB (.str nm::l.map (·.2))] st=.ok (.bl AC) st:=λst=>zi4 k hnl (by simp) hd st;have e1:∀st,yay .len st [.tp AB (.str nm::l.map (·.2))]=AA (.int ((l.length+1:Nat):Int)):=λst=>by
  show AA (PV.int (((PV.str nm::l.map (·.2)).length:Nat):Int))=_;simp
 have e2:∀st,idxV st (.tp AB (.str nm::l.map (·.2))) (.int 0)=AA (.str nm):=λ_=>ix0;have e3:∀st,yay .len st [.tp AC (l.map (·.1))]=AA (.int (l.length:Nat)):=λst=>by
  show AA (PV.int (((l.map (·.1)).length:Nat):Int))=_;simp
 have c1:((((l.length+1:Nat):Int)==(l.length:Int)+1):Bool)=true:=by simp
 have o1:ybU (.int 1)=AA (AA 1):=rfl;have e5:ybY (.tp AB (.str nm::l.map (·.2))) (AA 1) .non=AA (.tp AB (l.map (·.2))):=by
  have hc:ybv (l.length+1) 1=1:=by simp[ybv]
  erw[ybY,ybU,ycA,cut,ycJ,yc9,AZ,Av,hc,List.drop_succ_cons,HE]
  first
  |(rw[DX (by simp)];done)
  |(simp;done)
  |(simp[DX])
 have e6:yd2 (.tp AC (l.map (·.1))) (.tp AB (l.map (·.2)))=AA (l.map λx=>.tp AB [x.1,x.2]):=by
  simp[yd2,zge]
 let⟨q2,q3,e7⟩:=ziE (k+1) (p0:=.tp AB (.str nm::l.map (·.2))) (p1:=.bl AB) rfl (st:=[]) l AD AD ho
 have hb:yS.body=(match yS.body with
  |.cons a (.cons (.for t i _) (.cons _ r))=>.cons a (.cons (.for t i hfB) (.cons (.ret hfE) r))
  |x=>x):=rfl
 rw[zc hT rfl rfl hn2];rw[hb];generalize hfE=E at *;generalize hv:PV.tp AB (.str nm::l.map (·.2))=v at *;generalize hz:(l.map λx=>PV.tp AB [x.1,x.2])=zs at *;generalize PV.tp AC (l.map (·.1))=ks at *;simp! [yS,e0,e1,e2,hr,e3,c1,e5,e6,e7,ht,o1,onP];rfl
def yU(x:Cel):Prop:=97<=x.1/\x.1<=122/\0<=x.2/\x.2<=99
def yaE:Rw->Prop
 |.mark d=>0<=d/\d<=1
 |.ask x=>yU x
 |.set t d=>yU t/\0<=d/\d<=1
 |.move t x | .bare t x | .twice t x | .half t x=>yU t/\yU x
 |.sum t x y | .less t x y | .both t x y | .any t x y | .odd t x y=>yU t/\yU x/\yU y
 |.times a b x y=>yU a/\yU b/\yU x/\yU y/\yN .ne (yG a) (yG b)=AA (.bl AC)
theorem zeB{r:PV}{nm:AQ}(l:List (PV×PV))(hr:r=.tp AB (.str nm::l.map (·.2)))(hd:ycn zac (.str nm)=AA (.bl AC))(hx:ycx zac (.str nm)=AA (.tp AC (l.map (·.1))))(ho:∀x∈l,∀k s,yd T (k+5) zy [x.1,x.2,.bl AB] s=.ok (.bl AC) s)(hnl:nLs (l.map (·.2))=AC)
  (ht:∀k q2 q3 st,ev (yd T k) [AA r,AA (.bl AB),q2,q3] st hfE=.ok (.bl AC) st):yby r:=λk s=>by
 have hT:T zbn=AA zcC:=rfl;have e:∀s,yd T (9+k) zci [r,.bl AB] s=.ok (.bl AC) s:=λs=>by
  subst hr;rw[show 9+k=7+k+2 by lia];exact zhE (7+k) l hd hx (λx hx s=>by rw[show 7+k+1=3+k+5 by lia];exact ho x hx (3+k) s) hnl (ht _) s
 have hn2:nLs [r]=true:=by subst hr;simp[nLs,nL,hnl]
 rw[show 10+k=9+k+1 by lia,zc hT rfl rfl hn2];simp! [zcC,e];rfl
theorem zbS{r:PV}{nm:AQ}(l:List (PV×PV))(hr:r=.tp AB (.str nm::l.map (·.2)))(hd:ycn zac (.str nm)=AA (.bl AC))(hx:ycx zac (.str nm)=AA (.tp AC (l.map (·.1))))(ho:∀x∈l,∀k s,yd T (k+5) zy [x.1,x.2,.bl AB] s=.ok (.bl AC) s)(hnl:nLs (l.map (·.2))=AC)
  (ht:yN .ne (.str nm) (.str "times")=AA (.bl AC)):yby r:=zeB l hr hd hx ho hnl λk q2 q3 st=>by
 subst hr;have e2:∀st,idxV st (.tp AB (.str nm::l.map (·.2))) (.int 0)=AA (.str nm):=λ_=>ix0;simp! [hfE,yS,e2,ht]
theorem oC{x:Cel}(h:yU x)(k:Nat)(s:SO):yd T (k+5) zy [kC,yG x,.bl AB] s=.ok (.bl AC) s:=zlT k h.1 h.2.1 h.2.2.1 h.2.2.2 s
theorem yf6{nm:AQ}{x:Cel}(h:yU x)(hd:ycn zac (.str nm)=AA (.bl AC))(hx:ycx zac (.str nm)=AA (.tp AC [kC]))(ht:yN .ne (.str nm) (.str "times")=AA (.bl AC)):yby (.tp AB [.str nm,yG x]):=
 zbS [(kC,yG x)] rfl hd hx (λa ha=>by erw[AN,A4,or_false]at ha;subst ha;exact oC h) rfl ht
theorem row2{nm:AQ}{t x:Cel}(h0:yU t)(h:yU x)(hd:ycn zac (.str nm)=AA (.bl AC))(hx:ycx zac (.str nm)=AA (.tp AC [kC,kC]))(ht:yN .ne (.str nm) (.str "times")=AA (.bl AC)):yby (.tp AB [.str nm,yG t,yG x]):=
 zbS [(kC,yG t),(kC,yG x)] rfl hd hx (λa ha=>by erw[AN,A4,or_false]at ha;rcases ha with rfl|rfl;exact oC h0;exact oC h) rfl ht
theorem ydj{nm:AQ}{t x y:Cel}(h0:yU t)(h:yU x)(h2:yU y)(hd:ycn zac (.str nm)=AA (.bl AC))(hx:ycx zac (.str nm)=AA (.tp AC [kC,kC,kC]))(ht:yN .ne (.str nm) (.str "times")=AA (.bl AC)):yby (.tp AB [.str nm,yG t,yG x,yG y]):=
 zbS [(kC,yG t),(kC,yG x),(kC,yG y)] rfl hd hx (λa ha=>by erw[AN,A4,or_false]at ha;rcases ha with rfl|rfl|rfl;exact oC h0;exact oC h;exact oC h2) rfl ht
theorem zgp:∀r,yaE r->yby (yV r)
 |.mark d,h=>zbS [(kF,.int d)] rfl (by ac_rfl) (by ac_rfl) (λa ha=>by erw[AN,A4,or_false]at ha;subst ha;exact λk s=>zkQ k h.1 h.2 s) rfl (by ac_rfl)
 |.ask x,h=>yf6 h (by ac_rfl) (by ac_rfl) (by ac_rfl)
 |.set t d,h=>zbS [(kC,yG t),(kF,.int d)] rfl (by ac_rfl) (by ac_rfl) (λa ha=>by erw[AN,A4,or_false]at ha;rcases ha with rfl|rfl;exact oC h.1;exact λk s=>zkQ k h.2.1 h.2.2 s) rfl (by ac_rfl)
 |.move t x,h=>row2 h.1 h.2 (by ac_rfl) (by ac_rfl) (by ac_rfl)
 |.bare t x,h=>row2 h.1 h.2 (by ac_rfl) (by ac_rfl) (by ac_rfl)
 |.twice t x,h=>row2 h.1 h.2 (by ac_rfl) (by ac_rfl) (by ac_rfl)
 |.half t x,h=>row2 h.1 h.2 (by ac_rfl) (by ac_rfl) (by ac_rfl)
 |.sum t x y,h=>ydj h.1 h.2.1 h.2.2 (by ac_rfl) (by ac_rfl) (by ac_rfl)
 |.less t x y,h=>ydj h.1 h.2.1 h.2.2 (by ac_rfl) (by ac_rfl) (by ac_rfl)
 |.both t x y,h=>ydj h.1 h.2.1 h.2.2 (by ac_rfl) (by ac_rfl) (by ac_rfl)
 |.any t x y,h=>ydj h.1 h.2.1 h.2.2 (by ac_rfl) (by ac_rfl) (by ac_rfl)
 |.odd t x y,h=>ydj h.1 h.2.1 h.2.2 (by ac_rfl) (by ac_rfl) (by ac_rfl)
 |.times a b x y,h=>zeB [(kC,yG a),(kC,yG b),(kC,yG x),(kC,yG y)] rfl (by ac_rfl) (by ac_rfl) (λz hz=>by erw[AN,A4,or_false]at hz;rcases hz with rfl|rfl|rfl|rfl;exact oC h.1;exact oC h.2.1;exact oC h.2.2.1;exact oC h.2.2.2.1) rfl λk q2 q3 st=>by
  have q:yN .ne (.str "times") (.str "times")=AA (.bl AB):=by ac_rfl
  have h:=h.2.2.2.2;erw[yV];generalize yG a=ca at *;generalize yG b=cb at *;simp! [hfE,yS,ix0,ix1,ix2,q,h]
theorem zmd{v:PV}(hn:nL v=AC)(h:yby v)(k:Nat)(s:SO):yd T (11+k) z5 [v] s=.ok .non s:=by
 have hT:T z5=AA zal:=rfl;have e:=λs=>h k s;rw[show 11+k=10+k+1 by lia,zc hT rfl rfl (by simp[nLs,hn])];simp! [zal,e];rfl
def Good(w:Nat)(M:Mem)(k:Int):Prop:=(∀c i,0<=M c i/\M c i<2^w)/\0<=k/\k<=1
noncomputable def okD:Rw->Prop
 |.mark d=>0<=d/\d<=1
 |.set _ d=>0<=d/\d<=1
 |_=>True
theorem zab{w:Nat}{M:Mem}(h:∀c i,0<=M c i/\M c i<2^w)(t:Cel){v:Int}(v0:0<=v)(v1:v<2^w):∀c i,0<=wr M t v c i/\wr M t v c i<2^w:=by
 intro c i;unfold wr upd;split
 .exact⟨v0,v1⟩
 .exact h c i
theorem zeH{w:Nat}(hw:1<=w){M:Mem}{k:Int}(h:Good w M k){r:Rw}(hd:okD r):Good w (stepM (2^w) M k r).1 (stepM (2^w) M k r).2:=by
 let⟨g,k0,k1⟩:=h;have hW2:(2:Int)<=2^w:=by
  have h:(2:Nat)^1<=2^w:=A6 (by lia) hw;have h2:=pw w;lia
 have hW0:(2:Int)^w≠0:=by lia
 have hWp:(0:Int)<2^w:=by lia
 have md:∀z:Int,0<=z%2^w/\z%2^w<2^w:=λz=>⟨Ah _ hW0,A8 _ hWp⟩;have dv:∀z:Int,0<=z->z<2*2^w->0<=z/2^w/\z/2^w<=1:=λz z0 z1=>⟨B5 z0 (by lia),by
  have:=BZ hWp (a:=z) (b:=2) (by lia);lia⟩
 cases r with
 |mark d=>exact⟨g,hd⟩
 |ask x=>exact⟨g,z8 _⟩
 |set t d=>exact⟨zab g t hd.1 (by have:=hd.2;lia),k0,k1⟩
 |move t x=>exact⟨zab g t (g _ _).1 (g _ _).2,k0,k1⟩
 |bare t x=>
  have:=g x.1 x.2;exact⟨zab g t (by erw[rd];lia) (by erw[rd];lia),k0,k1⟩
 |twice t x=>
  have:=g x.1 x.2;exact⟨zab g t (md _).1 (md _).2,dv _ (by erw[rd];lia) (by erw[rd];lia)⟩
 |half t x=>
  have:=g x.1 x.2;have hH:(2:Int)^w=2*(2^w/2):=by
   obtain⟨v,rfl⟩:∃v,w=v+1:=⟨w-1,by lia⟩;rw[Am];lia
  have hk:k*(2^w/2)=0 \/ k*((2:Int)^w/2)=2^w/2:=by
   rcases (by lia:k=0 \/ k=1)with rfl|rfl
   .left;lia
   .right;lia
  refine⟨zab g t ?_ ?_,?_,?_⟩
  .simp only[rd];lia
  .simp only[rd];lia
  .simp only[stepM,rd];lia
  .simp only[stepM,rd];lia
 |sum t x y=>
  have:=g x.1 x.2;have:=g y.1 y.2;exact⟨zab g t (md _).1 (md _).2,dv _ (by erw[rd];lia) (by erw[rd];lia)⟩
 |less t x y=>exact⟨zab g t (md _).1 (md _).2,z8 _⟩
 |both t x y=>
  have h:=zm8 (w:=w) (g x.1 x.2).1 (g y.1 y.2).1 (g y.1 y.2).2;exact⟨zab g t h.1 h.2,k0,k1⟩
 |any t x y=>
  have h:=zoH (w:=w) (g x.1 x.2).1 (g x.1 x.2).2 (g y.1 y.2).1 (g y.1 y.2).2;exact⟨zab g t h.1 h.2,k0,k1⟩
 |odd t x y=>
  have h:=zii (w:=w) (g x.1 x.2).1 (g x.1 x.2).2 (g y.1 y.2).1 (g y.1 y.2).2;exact⟨zab g t h.1 h.2,k0,k1⟩
 |times l t x y=>
  have a:=g x.1 x.2;have b:=g y.1 y.2;have p0:0<=M x.1 x.2*M y.1 y.2:=By a.1 b.1;have p1:M x.1 x.2*M y.1 y.2<2^w*2^w:=by
   rcases (by lia:M x.1 x.2=0 \/ 0<M x.1 x.2)with z|z
   .rw[z,Bp];exact Int.mul_pos hWp hWp
   .exact DJ (Int.mul_lt_mul_of_pos_left b.2 z) (Ao (by lia) (by lia))
  refine⟨zab (zab g l (md _).1 (md _).2) t ?_ ?_,k0,k1⟩
  .exact B5 p0 (by lia)
  .exact BZ hWp p1
theorem zeo{w:Nat}(hw:1<=w):∀(rs:List Rw) {M:Mem} {k:Int},Good w M k->(∀r∈rs,okD r)->Good w (yw (2^w) rs M k).1 (yw (2^w) rs M k).2
 |[],_,_,h,_=>h
 |r::rs,_,_,h,hd=>zeo hw rs (zeH hw h (hd r An)) λq hq=>hd q (AR _ hq)
theorem zdt{w:Nat}{c:Nat}:∀(vs:List Int) (i:Nat) (M:Mem),(∀c i,0<=M c i/\M c i<2^w)->(∀v∈vs,0<=v/\v<2^w)->∀d j,0<=yaD c i vs M d j/\yaD c i vs M d j<2^w
 |[],_,_,h,_=>h
 |v::vs,i,M,h,hv=>by
  rw[yaD];refine zdt vs (i+1) _ (λc' j=>?_) λu hu=>hv u (AR _ hu);unfold upd;split
  .exact hv v An
  .exact h c' j
theorem zch{w:Nat}:∀(n:Nat) (x:Int),∀v∈yh (2^w) n x,0<=v/\v<2^w
 |0,_,v,h=>by cases h
 |n+1,x,v,h=>by
  have hWp:(0:Int)<2^w:=Ab (by lia);rw[yh,AN]at h;rcases h with rfl|h
  .exact⟨Ah _ (by lia),A8 _ hWp⟩
  .exact zch n _ v h
theorem zet{w:Nat}(hw:1<=w)(n:Nat)(x y:Int):Good w (yad (2^w) n x y) 0:=by
 have hWp:(0:Int)<2^w:=Ab (by lia);exact⟨zdt _ _ _ (zdt _ _ _ (λc i=>⟨Gj _,hWp⟩) (zch n x)) (zch n y),by lia,by lia⟩
def yea(W:Int)(M:Mem):Prop:=∀c i,0<=M c i/\M c i<W
theorem zgo{w:Nat}(hw:1<=w)(hw2:w<=16):∀(rs:List Rw) (M:Mem) (k:Int),(∀r∈rs,okD r)->Good w M k->ybu (2^w) rs M k
 |[],M,k,_,_=>trivial
 |r::rs,M,k,hr,g=>by
  let⟨h,k0,k1⟩:=g;exact⟨⟨λt x _=>⟨(h x.1 x.2).1,(h x.1 x.2).2,k0,by lia⟩,λ_ _ x _ _=>by
   have:=h x.1 x.2;have p:(2:Nat)^w<=2^16:=A6 (by lia) hw2;have q:=pw w;show (M x.1 x.2).natAbs<_;have:(2:Nat)^16=65536:=rfl;lia⟩,zgo hw hw2 rs _ _ (λx hx=>hr x (by simp[hx])) (zeH hw ⟨h,k0,k1⟩ (hr r (by simp)))⟩
def sgd(T x:Int):Int:=if T<=2*x then x-T else x
def ycM(T s:Int):Bool:=decide (0-T<=2*s)&&decide (2*s<T)
noncomputable def ycg(W:Int)(f:Nat->Int):Nat->Int
 |0=>0
 |n+1=>ycg W f n+f n*W^n
theorem zix(W:Int)(M:Mem)(c:Nat):∀n,ycg W (λi=>M c i) n=yo W M c n
 |0=>rfl
 |n+1=>by rw[ycg,yo,zix W M c n]
theorem zeI{W:Int}(hW:0<W)(M:Mem)(k:Int)(k0:0<=k)(k1:k<=1)(X Y:Int->Cel)(hX:∀i,(X i).1≠99)(hY:∀i,(Y i).1≠99):∀n:Nat,(∀i:Nat,i<n->0<=rd M (X i)/\rd M (X i)<W)->(∀i:Nat,i<n->0<=rd M (Y i)/\rd M (Y i)<W) ->
  (∀d j,(d≠99 \/ (n:Int)<=j)->(yw W (yC (λi=>.less (99,i) (X i) (Y i)) n) M k).1 d j=M d j)/\Dg W (yw W (yC (λi=>.less (99,i) (X i) (Y i)) n) M k).1 99 n/\0<=(yw W (yC (λi=>.less (99,i) (X i) (Y i)) n) M k).2/\(yw W (yC (λi=>.less (99,i) (X i) (Y i)) n) M k).2<=1/\yo W (yw W (yC (λi=>.less (99,i) (X i) (Y i)) n) M k).1 99 n-(yw W (yC (λi=>.less (99,i) (X i) (Y i)) n) M k).2*W^n=ycg W (λi=>rd M (X i)) n-ycg W (λi=>rd M (Y i)) n-k
 |0,_,_=>⟨λ_ _ _=>rfl,λi hi=>by lia,k0,k1,by simp[yo,ycg,yC,yw]⟩
 |n+1,ha,hb=>by
  let⟨h1,h2,h3,h4,h5⟩:=zeI hW M k k0 k1 X Y hX hY n (λi hi=>ha i (by lia)) (λi hi=>hb i (by lia));rw[yC,zl];generalize yw W (yC (λi=>.less (99,i) (X i) (Y i)) n) M k=R at *;let⟨M1,k'⟩:=R;simp only at *;let⟨a0,a1⟩:=ha n (by lia);let⟨b0,b1⟩:=hb n (by lia);have rx:rd M1 (X n)=rd M (X n):=h1 _ _ (.inl (hX _));have ry:rd M1 (Y n)=rd M (Y n):=h1 _ _ (.inl (hY _));erw[yw,stepM,wr,rx,ry];rw[ycg,ycg];generalize rd M (X n)=A at *;generalize rd M (Y n)=B at *;have hq:∃q,0<=q/\q<=1/\bi (decide (A-B-k' < 0))=q/\(A-B-k')%W=A-B-k'+q*W:=by
   by_cases hl:A-B-k' < 0
   .refine⟨1,by lia,by lia,by rw[decide_eq_true hl];rfl,?_⟩;rw[Bw,<-DL];exact A1 (by lia) (by lia)
   .refine⟨0,by lia,by lia,by rw[decide_eq_false hl];rfl,?_⟩;rw[Bp,Bo];exact A1 (by lia) (by lia)
  let⟨q,q0,q1,e1,e2⟩:=hq;have d1:=Ah (A-B-k') (show W≠0 by lia);have d2:=A8 (A-B-k') hW;rw[e1];refine⟨λd j hd=>?_,λi hi=>?_,q0,q1,?_⟩
  .unfold upd;rw[if_neg (by lia),h1 d j (by lia)]
  .unfold upd
   by_cases hin:i=n
   .subst hin;rw[if_pos ⟨rfl,rfl⟩];exact⟨d1,d2⟩
   .rw[if_neg (by lia)];exact h2 i (by lia)
  .have hv:yo W (upd M1 99 (n:Int) ((A-B-k')%W)) 99 (n+1)=yo W M1 99 n+(A-B-k')%W*W^n:=by
    rw[yo,zd (M':=M1) (c':=99) n λi hi=>by unfold upd;rw[if_neg (by lia)]];unfold upd;rw[if_pos ⟨rfl,rfl⟩]
   rw[hv,e2,Am];generalize W^n=P at *;have e3:(A-B-k'+q*W)*P-q*(P*W)=A*P-B*P-k' * P:=by
    rw[BN,BR,BR,Ap q W P,Ae W P];lia
   generalize (A-B-k'+q*W)*P=X1 at *;generalize q*(P*W)=X2 at *;lia
theorem zi3{w:Nat}(hw:1<w){n:Nat}(M:Mem)(X Y:Int->Cel)(L0 L1:Cel)(hX:∀i,(X i).1≠99)(hY:∀i,(Y i).1≠99)
  (ha:∀i:Nat,i<n+1->0<=rd M (X i)/\rd M (X i)<2^w) (hb:∀i:Nat,i<n+1->0<=rd M (Y i)/\rd M (Y i)<2^w) (zo:M 122 0=0)
  (hL0:L0=X n) (hL1:L1=Y n) (l0:L0.1≠115/\L0.1≠116/\L0.1≠109) (l1:L1.1≠115/\L1.1≠116/\L1.1≠109):
  ∃z k1,0<=z/\z<(2^w:Int)^(n+1)/\(k1=0 \/ k1=1)/\z-k1*(2^w:Int)^(n+1)=ycg (2^w) (λi=>rd M (X i)) (n+1)-ycg (2^w) (λi=>rd M (Y i)) (n+1) /\
   ∃M4 k4,yw (2^w) (.mark 0::(yC (λi=>.less (99,i) (X i) (Y i)) (n+1)++(.sum (109,0) cZ cZ::(yP L0 L1 (99,n)++yE (n+1))))) M 0=(M4,k4) /\
    yo (2^w) M4 99 (n+1)=z/\M4 109 0=k1/\M4 109 1=(tb w (rd M L0)+tb w (rd M L1))%2*((tb w (rd M L0)+if (2^w:Int)^(n+1)<=2*z then 1 else 0)%2)/\M4 109 2=bi (z==0)/\M4 109 3=bi (decide ((2^w:Int)^(n+1)<=2*z)):=by
 have hW:(0:Int)<2^w:=Ab (by lia);have hW4:(4:Int)<=2^w:=by
  have h:(2:Nat)^2<=2^w:=A6 (by lia) (by lia);have h2:=pw w;lia
 let⟨s1,s2,s3,s4,s5⟩:=zeI hW M 0 (by lia) (by lia) X Y hX hY (n+1) ha hb;have hs0:stepM (2^w) M 0 (.mark 0)=(M,0):=rfl;rw[zz,hs0,zl,zz];generalize yw (2^w) (yC (λi=>.less (99,i) (X i) (Y i)) (n+1)) M 0=R at *;let⟨M1,k1⟩:=R;simp only at *;have z1:M1 122 0=0:=by rw[s1 122 0 (.inl (by decide)),zo]
 have hs:stepM (2^w) M1 k1 (.sum (109,0) cZ cZ)=(wr M1 (109,0) k1,0):=by
  erw[stepM,rd,cZ,z1];rw[show (0:Int)+0+k1=k1 by lia,A1 s3 (by lia),BB s3 (by lia)]
 rw[hs,zl];simp only;have g2:∀d j,(d≠109 \/ j≠0)->wr M1 (109,0) k1 d j=M1 d j:=λd j h=>by
  erw[wr,upd];rw[if_neg (by lia)]
 have g3:wr M1 (109,0) k1 109 0=k1:=by simp[wr,upd]
 generalize wr M1 (109,0) k1=M2 at *;have gc:∀j,M2 99 j=M1 99 j:=λj=>g2 99 j (.inl (by decide));have dc2:Dg (2^w) M2 99 (n+1):=λi hi=>by rw[gc];exact s2 i hi
 have tc:=zbz (by lia) dc2;let⟨r0,r1⟩:=zx hW (n+1) dc2;have vc:yo (2^w) M2 99 (n+1)=yo (2^w) M1 99 (n+1):=zd _ λi hi=>gc i;rw[<-vc]at s5;have n0:L0.1≠99:=by rw[hL0];exact hX _
 have n1:L1.1≠99:=by rw[hL1];exact hY _
 have q0:rd M2 L0=rd M L0:=by
  show M2 L0.1 L0.2=M L0.1 L0.2;rw[g2 _ _ (.inl l0.2.2),s1 _ _ (.inl n0)]
 have q1:rd M2 L1=rd M L1:=by
  show M2 L1.1 L1.2=M L1.1 L1.2;rw[g2 _ _ (.inl l1.2.2),s1 _ _ (.inl n1)]
 have a0:=ha n (by lia);have b0:=hb n (by lia);rw[<-hL0,<-q0]at a0;rw[<-hL1,<-q1]at b0;let⟨e1,e2,e3⟩:=zfa hw M2 L0 L1 (99,n) ⟨l0.1,l0.2.1⟩ ⟨l1.1,l1.2.1⟩ ⟨by simp,by simp⟩ (by rw[g2 122 0 (.inl (by decide)),z1]) a0 b0 (dc2 n (by lia));rw[q0,q1,show rd M2 (99,(n:Int))=M2 99 n from rfl,tc]at e3;generalize yw (2^w) (yP L0 L1 (99,(n:Int))) M2 0=R at *;let⟨M3,k3⟩:=R;simp only at *;have gc3:∀j,M3 99 j=M2 99 j:=λj=>e1 99 j (by decide) (by decide) (.inl (by decide));have dc3:Dg (2^w) M3 99 (n+1):=λi hi=>by rw[gc3];exact dc2 i hi
 have vc3:yo (2^w) M3 99 (n+1)=yo (2^w) M2 99 (n+1):=zd _ λi hi=>gc3 i;let⟨f1,f2,f3,f4,f5⟩:=zcz hw M3 k3 dc3 (by rw[e1 122 0 (by decide) (by decide) (.inl (by decide)),g2 122 0 (.inl (by decide)),z1]);refine⟨yo (2^w) M2 99 (n+1),k1,r0,r1,by lia,by lia,(yw (2^w) (yE (n+1)) M3 k3).1,(yw (2^w) (yE (n+1)) M3 k3).2,rfl,?_,?_,?_,?_,?_⟩
 .rw[zd (M':=M3) (c':=99) _ λi hi=>f1 i,vc3]
 .rw[f2,e1 109 0 (by decide) (by decide) (.inr (by decide)),g3]
 .rw[f3,e3]
 .rw[f4,vc3]
 .rw[f5,vc3]
theorem ziP{T x y z k:Int}(x0:0<=x)(x1:x<T)(y0:0<=y)(y1:y<T)(r0:0<=z)(r1:z<T)(hk:k=0 \/ k=1)(s:z-k*T=x-y):k=bi (decide (x<y))/\((if T<=2*x then 1 else 0)+if T<=2*y then(1:Int)else 0)%2*(((if T<=2*x then 1 else 0)+if T<=2*z then 1 else 0)%2)=bi (!ycM T (sgd T x-sgd T y)):=by
 constructor
 .rcases hk with rfl|rfl
  .rw[decide_eq_false (by lia)];rfl
  .rw[decide_eq_true (by lia)];rfl
 .unfold sgd ycM
  by_cases q1:T<=2*x<;>by_cases q2:T<=2*y<;>by_cases q3:T<=2*z<;>erw[q1,q2,q3,if_true,if_false]
  all_goals (rcases hk with rfl|rfl)
  all_goals first
   |(exfalso;lia)
   |(rw[decide_eq_true (by lia),decide_eq_true (by lia)];rfl)
   |(rw[decide_eq_false (by lia)];rfl)
   |(rw[decide_eq_true (by lia),decide_eq_false (by lia)];rfl)
theorem zhy{w:Nat}(hw:1<w){n:Nat}{x y:Int}(x0:0<=x)(x1:x<(2^w:Int)^(n+1))(y0:0<=y)(y1:y<(2^w:Int)^(n+1)):
  yo (2^w) (yw (2^w) (yab (n+1)) (yad (2^w) (n+1) x y) 0).1 99 (n+1)=(x-y)%(2^w:Int)^(n+1) /\
  (yw (2^w) (yab (n+1)) (yad (2^w) (n+1) x y) 0).1 109 0=bi (decide (x<y)) /\
  (yw (2^w) (yab (n+1)) (yad (2^w) (n+1) x y) 0).1 109 1=bi (!ycM ((2^w:Int)^(n+1)) (sgd ((2^w:Int)^(n+1)) x-sgd ((2^w:Int)^(n+1)) y)) /\
  (yw (2^w) (yab (n+1)) (yad (2^w) (n+1) x y) 0).1 109 2=bi ((x-y)%(2^w:Int)^(n+1)==0) /\
  (yw (2^w) (yab (n+1)) (yad (2^w) (n+1) x y) 0).1 109 3=bi (decide ((2^w:Int)^(n+1)<=2*((x-y)%(2^w:Int)^(n+1)))):=by
 have hW:(0:Int)<2^w:=Ab (by lia);have hn:((n+1:Nat):Int)-1=n:=by lia
 have e:yab (n+1)=.mark 0::(yC (λi=>.less (99,i) (97,i) (98,i)) (n+1)++(.sum (109,0) cZ cZ::(yP (97,n) (98,n) (99,n)++yE (n+1)))):=by
  erw[yab,yI,hn,BP,Az,BV]
 have da:=zir (n+1) x y hW;have db:=zg0 (n+1) x y hW;let⟨z,k1,r0,r1,hk,s5,M4,k4,e0,v1,v2,v3,v4,v5⟩:=zi3 hw (n:=n) (yad (2^w) (n+1) x y) (λi=>(97,i)) (λi=>(98,i)) (97,n) (98,n) (λ_=>by simp) (λ_=>by simp) (λi hi=>da i hi) (λi hi=>db i hi) (zgu _ _ _ (by decide) (by decide) _) rfl rfl ⟨by simp,by simp,by simp⟩ ⟨by simp,by simp,by simp⟩;rw[e,e0];erw[rd]at v3 s5;rw[zix (2^w) (yad (2^w) (n+1) x y) 97,zix (2^w) (yad (2^w) (n+1) x y) 98,zeV (n+1) x y hW x0 x1,zeW (n+1) x y hW y0 y1]at s5;rw[zbz (by lia) da,zbz (by lia) db,zeV (n+1) x y hW x0 x1,zeW (n+1) x y hW y0 y1]at v3;generalize (2^w:Int)^(n+1)=T at *;have hz:(x-y)%T=z:=by
  rw[show x-y=z+(-k1)*T by rw[Int.neg_mul];lia,CL,A1 r0 r1]
 erw[v1,v2,v3,v4,v5,hz];let⟨o1,o2⟩:=ziP x0 x1 y0 y1 r0 r1 hk (by lia);exact⟨trivial,o1,o2,trivial,trivial⟩
structure Shf(W:Int)(n:Nat)(M0 M:Mem)(v:Int):Prop where
 dg:Dg W M 99 n
 val:yo W M 99 n=v
 keep:∀d j,d≠99->d≠116->M d j=M0 d j
noncomputable def cx(l:Nat)(c i j m:Int):Op:=.cel ⟨l,c,i,j,m⟩
noncomputable def rS(nm:String)(ops:List Op):Rs:=⟨AG nm,ops⟩
def oZ:Op:=cx 122 0 0 0 0
def oS:Op:=cx 115 0 0 0 0
def oT:Op:=cx 116 0 0 0 0
def oM(i:Int):Op:=cx 109 i 0 0 0
def ybi(c m:Int):List T1:=[.row (rS "set" [oS,.fig 0]),.rounds c m 0 [.row (rS "any" [oS,oS,cx 99 0 1 0 0])],.row (rS "ask" [oS]),.row (rS "set" [oM 2,.fig 1]),.row (rS "less" [oM 2,oM 2,oZ]),.row (rS "twice" [oT,cx 99 (c-1) 0 0 m]),.row (rS "sum" [oM 3,oZ,oZ])]
def ybq:T1:=.row (rS "sum" [oM 0,oZ,oZ])
theorem zbo{g:Nat->List PV}{f:Int->Rw}(h:∀I:Nat,g I=[yV (f I)]):∀n,upTo g n=(yC f n).map yV
 |0=>rfl
 |n+1=>by rw[upTo,yC,zbo h n,h n,BS];rfl
theorem zaU(w:Int)(n:Nat):cnt 0 1 0 w n=n:=by simp[cnt]
theorem zkW(I:Nat)(n:Int):(rS "any" [oS,oS,cx 99 0 1 0 0]).pv I 0 n=yV (.any cS cS (99,I)):=by simp[Rs.pv,rS,Op.pv,oS,cx,Cx.at,yV,yG]
theorem ziM(w:Int)(n:Nat):yM w n (ybi 0 1)=(yE n).map yV:=by
 have h:=zbo (g:=λI=>yaj w n I [.row (rS "any" [oS,oS,cx 99 0 1 0 0])]) (f:=λi=>.any cS cS (99,i)) (λI=>by simp[yaj,T2.rows,zkW]) n;erw[yM,ybi,BQ,B7,T1.rows,zaU,h,yE,BS,AL,Ad,Aw];simp[Rs.pv,rS,Op.pv,oS,oT,oZ,oM,cx,Cx.at,yV,yG,Int.sub_eq_add_neg,Cv]
theorem zgZ(w:Int)(n:Nat):T1.rows w n ybq=[yV (.sum (109,0) cZ cZ)]:=by simp[ybq,T1.rows,Rs.pv,rS,Op.pv,oM,oZ,cx,Cx.at,yV,yG]
theorem zaL(w n:Int)(a b:List T1):yM w n (a++b)=yM w n a++yM w n b:=by simp[yM]
theorem zjh(w n:Int)(a b:List T1):yaM w n (a++b)=yaM w n a+yaM w n b:=by simp[yaM]
theorem zaV(f:Int->Rw)(m:Nat):(yC f m).length=m:=by
 induction m with
 |zero=>rfl
 |succ m ih=>simp[yC,ih]
noncomputable abbrev cL:Cel:=(108,0)
noncomputable abbrev cHi:Cel:=(104,0)
noncomputable abbrev cO:Cel:=(111,0)
def inR(I J:Nat):List Rw:=[.times cL cHi (97,J) (98,I),.sum cL cL cO,.sum cHi cHi cZ,.sum (99,(I:Int)+J) (99,(I:Int)+J) cL,.sum cO cHi cZ]
def yaI(n I:Nat):List Rw:=.mark 0 :: .set cO 0::(upTo (inR I) n++[.move (99,(I:Int)+n) cO])
def yaC(n:Nat):List Rw:=upTo (yaI n) n
def yap(n:Nat):List Rw:=.set cS 0::(yC (λi=>.any cS cS (99,(n:Int)+i)) n++[.ask cS,.sum (109,1) cZ cZ])
def yF(n:Nat):List Rw:=yaC n++(yap n++yE (2*n))
theorem zms{w:Nat}(hw:1<=w):(2:Int)<=2^w:=by
 have h:(2:Nat)^1<=2^w:=A6 (by lia) hw;have h2:=pw w;lia
theorem zko{W A B o c:Int}(hW:2<=W)(a0:0<=A)(a1:A<W)(b0:0<=B)(b1:B<W)(o0:0<=o)(o1:o<W)(c0:0<=c)(c1:c<W):
  (A*B/W+0+(A*B%W+o+0)/W)/W=0/\((A*B/W+0+(A*B%W+o+0)/W)%W+0+(c+(A*B%W+o+0)%W+0)/W)/W=0 /\
  (c+(A*B%W+o+0)%W+0)%W+W*(((A*B/W+0+(A*B%W+o+0)/W)%W+0+(c+(A*B%W+o+0)%W+0)/W)%W)=A*B+o+c:=by
 have hW0:W≠0:=by lia
 have hWp:0<W:=by lia
 have hP:A*B<=(W-1)*(W-1):=ET (by lia) (by lia) b0 (by lia);have hP0:0<=A*B:=By a0 b0;have hE:(W-1)*(W-1)=W*W-2*W+1:=by rw[BR,Hi];lia
 have hE2:(W-1)*W=W*W-W:=by rw[BR];lia
 generalize A*B=P at *;have h1:P/W<W-1:=BZ hWp (by lia);have h0:0<=P/W:=B5 hP0 (by lia);have e1:=BM P W;have l0:=Ah P hW0;have l1:=A8 P hWp;generalize P/W=h at *;generalize P%W=l at *;erw[Bo];have e2:=BM (l+o) W;have k0:0<=(l+o)/W:=B5 (by lia) (by lia);have k1:(l+o)/W<2:=BZ hWp (by lia);have m0:=Ah (l+o) hW0;have m1:=A8 (l+o) hWp;generalize (l+o)/W=k at *;generalize (l+o)%W=l2 at *;have q1:(h+k)/W=0:=BB (by lia) (by lia);have q2:(h+k)%W=h+k:=A1 (by lia) (by lia);rw[q2];have e3:=BM (c+l2) W;have j0:0<=(c+l2)/W:=B5 (by lia) (by lia);have n0:=Ah (c+l2) hW0;have n1:=A8 (c+l2) hWp;generalize (c+l2)/W=k3 at *;generalize (c+l2)%W=c2 at *;have hT:c2+W*(h+k+k3)=P+o+c:=by
  rw[Ca,Ca];lia
 have hlt:W*(h+k+k3)<W*W:=by lia
 have hlt2:h+k+k3<W:=Int.lt_of_mul_lt_mul_left hlt (by lia);refine⟨q1,BB (by lia) hlt2,?_⟩;rw[A1 (by lia) hlt2];exact hT
theorem zoL{I J:Nat}:∀r∈inR I J,okD r:=by
 intro r hr;erw[inR,AN,A4,or_false]at hr;rcases hr with rfl|rfl|rfl|rfl|rfl<;>trivial
theorem zk9{w:Nat}(hw:1<=w){M:Mem}{I J:Nat}(hg:Good w M 0)(hz:M 122 0=0):
  ∃M',yw (2^w) (inR I J) M 0=(M',0)/\Good w M' 0/\M' 99 ((I+J:Nat):Int)+2^w*M' 111 0=M 97 J*M 98 I+M 111 0+M 99 ((I+J:Nat):Int)/\∀d j,d≠108->d≠104->d≠111->(d≠99 \/ j≠((I+J:Nat):Int))->M' d j=M d j:=by
 have hgg:=zeo hw (inR I J) hg zoL;have hc:(I:Int)+(J:Int)=((I+J:Nat):Int):=by lia
 let⟨s1,s2,s3⟩:=zko (zms hw) (hg.1 97 J).1 (hg.1 97 J).2 (hg.1 98 I).1 (hg.1 98 I).2 (hg.1 111 0).1 (hg.1 111 0).2 (hg.1 99 ((I+J:Nat):Int)).1 (hg.1 99 ((I+J:Nat):Int)).2;have hr:(yw (2^w) (inR I J) M 0).2=0:=by
  erw[inR,yw,stepM,rd,wr,upd,cL,cHi,cO,cZ,hc,C8,false_and,if_false,and_self,if_true,hz,s1,s2]
 refine⟨_,Prod.ext rfl hr,by rw[hr]at hgg;exact hgg,?_,λd j h1 h2 h3 h4=>?_⟩
 .simp only[inR,yw,stepM,rd,wr,upd,cL,cHi,cO,cZ,hc,C8,false_and,if_false,and_self,if_true,hz,s1,s2];exact s3
 .simp only[inR,yw,stepM,rd,wr,upd,cL,cHi,cO,cZ,hc,h1,h2,h3,false_and,if_false];rw[if_neg (by lia)]
noncomputable def sh(o:Nat)(M:Mem):Mem:=λd i=>M d ((o:Int)+i)
theorem zbK(W:Int)(M:Mem)(c I:Nat):∀n,yo W M c (I+n)=yo W M c I+W^I*yo W (sh I M) c n
 |0=>by simp[yo]
 |n+1=>by
  rw[show I+(n+1)=I+n+1 by lia,yo,zbK W M c I n,yo,Ca,Hj];have:M c ((I+n:Nat):Int)=sh I M c n:=by unfold sh;congr 1
  rw[this,Eb (sh I M c n)];rw[HL]
theorem zfm{M:Mem}{o c:Nat}(n:Nat):sh o M c n=M c ((o+n:Nat):Int):=by unfold sh;congr 1
theorem zg7{w:Nat}(hw:1<=w){M:Mem}{I:Nat}(hg:Good w M 0)(hz:M 122 0=0):∀j:Nat,∃M',yw (2^w) (upTo (inR I) j) M 0=(M',0)/\Good w M' 0/\(∀d (i:Int),d≠108->d≠104->d≠111->(d≠99 \/ i<I \/ (I:Int)+j<=i)->M' d i=M d i) /\
  yo (2^w) (sh I M') 99 j+M' 111 0*(2^w)^j=yo (2^w) (sh I M) 99 j+yo (2^w) M 97 j*M 98 I+M 111 0
 |0=>⟨M,rfl,hg,λ_ _ _ _ _ _=>rfl,by simp[yo]⟩
 |j+1=>by
  let⟨M1,e1,g1,o1,v1⟩:=zg7 hw hg hz j;let⟨M2,e2,g2,s2,o2⟩:=zk9 hw (I:=I) (J:=j) g1 (by rw[o1 122 0 (by decide) (by decide) (by decide) (.inl (by decide))];exact hz);refine⟨M2,?_,g2,λd i h1 h2 h3 h4=>?_,?_⟩
  .rw[upTo,zl,e1];exact e2
  .rw[o2 d i h1 h2 h3 (by lia),o1 d i h1 h2 h3 (by lia)]
  .rw[o1 97 j (by decide) (by decide) (by decide) (.inl (by decide)),o1 98 I (by decide) (by decide) (by decide) (.inl (by decide)),o1 99 ((I+j:Nat):Int) (by decide) (by decide) (by decide) (.inr (.inr (by lia)))]at s2;have hv:yo (2^w) (sh I M2) 99 j=yo (2^w) (sh I M1) 99 j:=zd j λt ht=>by
    rw[zfm,zfm,o2 99 _ (by decide) (by decide) (by decide) (.inr (by lia))]
   rw[yo,yo,yo,zfm,zfm,hv,Am];generalize ((2:Int)^w)^j=P at *;generalize (2:Int)^w=W at *;have e3:M2 99 ((I+j:Nat):Int)*P+M2 111 0*(P*W)=(M 97 j*M 98 I+M1 111 0+M 99 ((I+j:Nat):Int))*P:=by
    rw[<-s2,BN,Ae P W,<-Ap,Ae (M2 111 0) W]
   rw[BN,BN]at e3;have e4:(yo W M 97 j+M 97 j*P)*M 98 I=yo W M 97 j*M 98 I+M 97 j*M 98 I*P:=by rw[BN,Int.mul_right_comm]
   rw[e4];generalize M2 99 ((I+j:Nat):Int)*P=x1 at *;generalize M2 111 0*(P*W)=x2 at *;generalize M 97 j*M 98 I*P=x3 at *;generalize M1 111 0*P=x4 at *;generalize M 99 ((I+j:Nat):Int)*P=x5 at *;generalize yo W M 97 j*M 98 I=x6 at *;lia
theorem zpe{w:Nat}(hw:1<=w){M:Mem}{k:Int}{n I:Nat}(hg:Good w M k)(hz:M 122 0=0):∃M',yw (2^w) (yaI n I) M k=(M',0)/\Good w M' 0/\(∀d (i:Int),d≠108->d≠104->d≠111->d≠99->M' d i=M d i) /\
  yo (2^w) M' 99 (n+I+1)=yo (2^w) M 99 (n+I)+yo (2^w) M 97 n*(M 98 I*(2^w)^I):=by
 have hW0:=zms hw;have g1:Good w (wr M cO 0) 0:=⟨zab hg.1 cO (by lia) (by lia),by lia,by lia⟩;have q1:∀d j,d≠111->wr M cO 0 d j=M d j:=λd j h=>by erw[wr,upd,cO,h,false_and,if_false]
 have q2:wr M cO 0 111 0=0:=by simp[wr,upd]
 have hst:yw (2^w) (yaI n I) M k=yw (2^w) (upTo (inR I) n++[.move (99,(I:Int)+n) cO]) (wr M cO 0) 0:=rfl;generalize wr M cO 0=M1 at *;let⟨M2,e2,g2,o2,v2⟩:=zg7 hw (I:=I) g1 (by rw[q1 122 0 (by decide)];exact hz) n;have hmv:yw (2^w) [.move (99,(I:Int)+n) cO] M2 0=(wr M2 (99,(I:Int)+n) (M2 111 0),0):=rfl;rw[hst,zl,e2];refine⟨_,hmv,⟨zab g2.1 _ (g2.1 _ _).1 (g2.1 _ _).2,by lia,by lia⟩,λd i h1 h2 h3 h4=>?_,?_⟩
 .simp only[wr,upd,h4,false_and,if_false];rw[o2 d i h1 h2 h3 (.inl h4),q1 d i h3]
 .have hlow:∀i:Nat,i<n+I->wr M2 (99,(I:Int)+n) (M2 111 0) 99 i=M2 99 i:=λi hi=>by
   erw[wr,upd];rw[if_neg (by lia)]
  have htop:wr M2 (99,(I:Int)+n) (M2 111 0) 99 ((n+I:Nat):Int)=M2 111 0:=by
   erw[wr,upd];rw[if_pos ⟨trivial,by lia⟩]
  rw[yo,zd (M':=M2) (c':=99) _ hlow,htop,Nat.add_comm n I,zbK,zbK (2^w) M,Hj];have hv1:yo (2^w) M2 99 I=yo (2^w) M 99 I:=zd I λi hi=>by
   rw[o2 99 i (by decide) (by decide) (by decide) (.inr (.inl (by lia))),q1 99 i (by decide)]
  have hv2:yo (2^w) (sh I M1) 99 n=yo (2^w) (sh I M) 99 n:=zd n λi hi=>by
   rw[zfm,zfm,q1 99 _ (by decide)]
  have hv3:yo (2^w) M1 97 n=yo (2^w) M 97 n:=zd n λi hi=>q1 97 i (by decide);rw[hv2,hv3,q1 98 I (by decide),q2,Bo]at v2;rw[hv1];generalize ((2:Int)^w)^I=P at *;generalize ((2:Int)^w)^n=N at *;generalize yo (2^w) (sh I M2) 99 n=x1 at *;generalize yo (2^w) (sh I M) 99 n=x2 at *;generalize yo (2^w) M 97 n=A at *;have e:P*x1+M2 111 0*(P*N)=P*(x2+A*M 98 I):=by
   rw[<-v2,Ca,Eb (M2 111 0) P N]
  rw[Ca,Eb P A,Ae P (M 98 I)]at e;lia
theorem zhz{w:Nat}(hw:1<=w){M:Mem}{n:Nat}(hg:Good w M 0)(hz:M 122 0=0)(hc:yo (2^w) M 99 n=0):∀I:Nat,∃M',yw (2^w) (upTo (yaI n) I) M 0=(M',0)/\Good w M' 0/\(∀d (i:Int),d≠108->d≠104->d≠111->d≠99->M' d i=M d i) /\
  yo (2^w) M' 99 (n+I)=yo (2^w) M 97 n*yo (2^w) M 98 I
 |0=>⟨M,rfl,hg,λ_ _ _ _ _ _=>rfl,by simp[yo,hc]⟩
 |I+1=>by
  let⟨M1,e1,g1,o1,v1⟩:=zhz hw hg hz hc I;let⟨M2,e2,g2,o2,v2⟩:=zpe hw (n:=n) (I:=I) g1 (by rw[o1 122 0 (by decide) (by decide) (by decide) (by decide)];exact hz);refine⟨M2,?_,g2,λd i h1 h2 h3 h4=>by rw[o2 d i h1 h2 h3 h4,o1 d i h1 h2 h3 h4],?_⟩
  .rw[upTo,zl,e1];exact e2
  .rw[show n+(I+1)=n+I+1 by lia,v2,v1,zd (M:=M1) (M':=M) (c:=97) (c':=97) n λi hi=>o1 97 i (by decide) (by decide) (by decide) (by decide),o1 98 I (by decide) (by decide) (by decide) (by decide),yo,Ca]
theorem zg6{W:Int}(M:Mem)(k:Int)(o:Nat)(hS:0<=M 115 0):∀n:Nat,(∀i:Nat,i<n->0<=M 99 ((o+i:Nat):Int)) ->
  (yw W (yC (λi=>Rw.any cS cS (99,(o:Int)+i)) n) M k).2=k/\(∀d j,d≠115->(yw W (yC (λi=>Rw.any cS cS (99,(o:Int)+i)) n) M k).1 d j=M d j)/\0<=(yw W (yC (λi=>Rw.any cS cS (99,(o:Int)+i)) n) M k).1 115 0/\((yw W (yC (λi=>Rw.any cS cS (99,(o:Int)+i)) n) M k).1 115 0=0 ↔ M 115 0=0/\∀i:Nat,i<n->M 99 ((o+i:Nat):Int)=0)
 |0,_=>⟨rfl,λ_ _ _=>rfl,hS,by simp[yC,yw]⟩
 |n+1,h=>by
  let⟨h1,h2,h3,h4⟩:=zg6 (W:=W) M k o hS n λi hi=>h i (by lia);rw[yC,zl];generalize yw W (yC (λi=>Rw.any cS cS (99,(o:Int)+i)) n) M k=R at *;let⟨M1,k'⟩:=R;simp only at *;have hb:=h n (by lia);have hcc:(o:Int)+(n:Int)=((o+n:Nat):Int):=by lia
  erw[yw,stepM,rd,wr,cS,hcc,h2 99 _ (by decide)];have hz:=zfD h3 hb;refine⟨h1,λd j hd=>?_,?_,?_⟩
  .unfold upd;rw[if_neg (by lia),h2 d j hd]
  .unfold upd;rw[if_pos ⟨rfl,rfl⟩];obtain⟨x,hx⟩:∃x:Nat,M1 115 0=x:=⟨(M1 115 0).toNat,by lia⟩;obtain⟨y,hy⟩:∃y:Nat,M 99 ((o+n:Nat):Int)=y:=⟨(M 99 ((o+n:Nat):Int)).toNat,by lia⟩;rw[hx,hy,zc0];lia
  .unfold upd;rw[if_pos ⟨rfl,rfl⟩,hz,h4];constructor
   .rintro⟨⟨a,b⟩,c⟩
    refine⟨a,λi hi=>?_⟩;rcases CK i n with z|z
    .exact b i z
    .rw[show i=n by lia];exact c
   .rintro⟨a,b⟩
    exact⟨⟨a,λi hi=>b i (by lia)⟩,b n (by lia)⟩
theorem zkt{w:Nat}(hw:1<w){M:Mem}{k:Int}{n:Nat}(hg:∀c i,0<=M c i/\M c i<2^w)(hz:M 122 0=0):∃M',yw (2^w) (yap n) M k=(M',0)/\(∀d j,d≠115->(d≠109 \/ j≠1)->M' d j=M d j)/\M' 109 1=bi (decide ((2^w:Int)^n<=yo (2^w) M 99 (n+n))):=by
 have hW:(0:Int)<2^w:=Ab (by lia);have hW2:=zms (w:=w) (by lia);let⟨h1,h2,h3,h4⟩:=zg6 (W:=2^w) (wr M cS 0) k n (by simp[wr,upd]) n (λi hi=>by simp[wr,upd];exact(hg 99 _).1);have hst:yw (2^w) (yap n) M k=yw (2^w) (yC (λi=>.any cS cS (99,(n:Int)+i)) n++[.ask cS,.sum (109,1) cZ cZ]) (wr M cS 0) k:=rfl;rw[hst,zl];generalize yw (2^w) (yC (λi=>Rw.any cS cS (99,(n:Int)+i)) n) (wr M cS 0) k=R at *;let⟨M1,k'⟩:=R;simp only at *;subst h1;have g:∀d j,d≠115->M1 d j=M d j:=λd j hd=>by
  rw[h2 d j hd];erw[wr,upd,cS,hd,false_and,if_false]
 have hs:=zbK (2^w) M 99 n n;have dS:Dg (2^w) (sh n M) 99 n:=λi hi=>hg _ _;have hrS:=zx hW n dS;have hrL:=zx hW n (λi hi=>hg 99 i:Dg (2^w) M 99 n);have h5:M1 115 0=0 ↔ ¬(2^w:Int)^n<=yo (2^w) M 99 (n+n):=by
  have hzz:=zaH hW n dS;have:M1 115 0=0 ↔ yo (2^w) (sh n M) 99 n=0:=by
   rw[h4,hzz];constructor
   .rintro⟨_,b⟩ i hi
    have:=b i hi;rw[zfm];simpa [wr,upd] using this
   .intro b;exact⟨by simp[wr,upd],λi hi=>by have:=b i hi;rw[zfm]at this;simpa [wr,upd] using this⟩
  rw[this,hs];have hp:0<(2^w:Int)^n:=Ab hW;constructor
  .intro z;rw[z,Int.mul_zero];lia
  .intro z;rcases (by lia:yo (2^w) (sh n M) 99 n=0 \/ 1<=yo (2^w) (sh n M) 99 n)with e|e
   .exact e
   .have:=Bc e (show 0<=(2^w:Int)^n by lia);lia
 have hb:bi (!(M1 115 0==0))=bi (decide ((2^w:Int)^n<=yo (2^w) M 99 (n+n))):=by
  by_cases q:(2^w:Int)^n<=yo (2^w) M 99 (n+n)
  .have:¬M1 115 0=0:=λz=>h5.1 z q;rw[beq_eq_false_iff_ne.2 this,decide_eq_true q];rfl
  .rw[h5.2 q,decide_eq_false q];rfl
 have hr:=z8 (decide ((2^w:Int)^n<=yo (2^w) M 99 (n+n)));generalize bi (decide ((2^w:Int)^n<=yo (2^w) M 99 (n+n)))=v at *;have z1:M1 122 0=0:=by rw[g 122 0 (by decide)];exact hz
 have hs2:yw (2^w) [.ask cS,.sum (109,1) cZ cZ] M1 k'=(wr M1 (109,1) v,0):=by
  erw[yw,stepM,rd,cS,cZ,z1,hb];rw[show (0:Int)+0+v=v by lia,A1 hr.1 (by lia),BB hr.1 (by lia)]
 refine⟨_,hs2,λd j hd hj=>?_,by simp[wr,upd]⟩;erw[wr,upd];rw[if_neg (by lia),g d j hd]
theorem ze1{w:Nat}(hw:1<w){n:Nat}{x y:Int}(x0:0<=x)(x1:x<(2^w:Int)^(n+1))(y0:0<=y)(y1:y<(2^w:Int)^(n+1)):
  yo (2^w) (yw (2^w) (yF (n+1)) (yad (2^w) (n+1) x y) 0).1 99 (2*(n+1))=x*y /\
  (yw (2^w) (yF (n+1)) (yad (2^w) (n+1) x y) 0).1 109 0=0 /\
  (yw (2^w) (yF (n+1)) (yad (2^w) (n+1) x y) 0).1 109 1=bi (decide ((2^w:Int)^(n+1)<=x*y)) /\
  (yw (2^w) (yF (n+1)) (yad (2^w) (n+1) x y) 0).1 109 2=bi (x*y==0) /\
  (yw (2^w) (yF (n+1)) (yad (2^w) (n+1) x y) 0).1 109 3=bi (decide ((2^w:Int)^(2*(n+1))<=2*(x*y))):=by
 have hW:(0:Int)<2^w:=Ab (by lia);have hg:=zet (w:=w) (by lia) (n+1) x y;have hZ0:yad (2^w) (n+1) x y 122 0=0:=zgu _ _ _ (by decide) (by decide) _;have hM0:∀i,yad (2^w) (n+1) x y 109 i=0:=λi=>zgu _ _ _ (by decide) (by decide) _;have hc0:yo (2^w) (yad (2^w) (n+1) x y) 99 (n+1)=0:=(zaH hW (n+1) λi hi=>hg.1 99 i).2 λi hi=>zgu _ _ _ (by decide) (by decide) _;have hva:=zeV (n+1) x y hW x0 x1;have hvb:=zeW (n+1) x y hW y0 y1;generalize yad (2^w) (n+1) x y=A at *;let⟨M1,e1,g1,o1,v1⟩:=zhz (w:=w) (by lia) hg hZ0 hc0 (n+1);rw[hva,hvb]at v1;let⟨M2,e2,o2,v2⟩:=zkt hw (k:=0) (n:=n+1) g1.1 (by rw[o1 122 0 (by decide) (by decide) (by decide) (by decide)];exact hZ0);rw[v1]at v2;rw[yF,yaC,zl,e1,zl,e2];have hN:2*(n+1)=(2*n+1)+1:=by lia
 have hv:yo (2^w) M2 99 (2*(n+1))=x*y:=by
  rw[<-v1,show 2*(n+1)=n+1+(n+1)by lia];exact zd _ λi hi=>o2 99 i (by decide) (.inl (by decide))
 have d2:Dg (2^w) M2 99 (2*(n+1)):=λi hi=>by rw[o2 99 i (by decide) (.inl (by decide))];exact g1.1 99 i
 rw[hN]at d2 hv ⊢;let⟨q1,q2,q3,q4,q5⟩:=zcz hw M2 0 d2 (by rw[o2 122 0 (by decide) (.inl (by decide)),o1 122 0 (by decide) (by decide) (by decide) (by decide)];exact hZ0);rw[zd (M':=M2) (c':=99) _ λi hi=>q1 i,q2,q3,q4,q5,hv,v2,o2 109 0 (by decide) (.inr (by decide)),o1 109 0 (by decide) (by decide) (by decide) (by decide),hM0];exact⟨rfl,rfl,rfl,rfl,rfl⟩
def oL:Op:=cx 108 0 0 0 0
def oHi:Op:=cx 104 0 0 0 0
def oO:Op:=cx 111 0 0 0 0
def inT:List Rs:=[rS "times" [oL,oHi,cx 97 0 0 1 0,cx 98 0 1 0 0],rS "sum" [oL,oL,oO],rS "sum" [oHi,oHi,oZ],rS "sum" [cx 99 0 1 1 0,cx 99 0 1 1 0,oL],rS "sum" [oO,oHi,oZ]]
def ybt:T1:=.rounds 0 1 0 [.row (rS "mark" [.fig 0]),.row (rS "set" [oO,.fig 0]),.rounds 0 1 0 inT,.row (rS "move" [cx 99 0 1 0 1,oO])]
def yaR:List T1:=[.row (rS "set" [oS,.fig 0]),.rounds 0 1 0 [.row (rS "any" [oS,oS,cx 99 0 1 0 1])],.row (rS "ask" [oS]),.row (rS "sum" [oM 1,oZ,oZ])]
def ybn:List T1:=ybt::(yaR++ybi 0 2)
theorem zau{g:Nat->List PV}{f:Nat->List Rw}(h:∀I:Nat,g I=(f I).map yV):∀n,upTo g n=(upTo f n).map yV
 |0=>rfl
 |n+1=>by rw[upTo,upTo,zau h n,h n,BS]
theorem zkP(w:Int)(n:Nat):cnt 0 2 0 w n=2*n:=by simp[cnt];lia
theorem zmO(w:Int)(n:Nat):yM w n (ybi 0 2)=(yE (2*n)).map yV:=by
 have hh:=zbo (g:=λI=>yaj w n I [.row (rS "any" [oS,oS,cx 99 0 1 0 0])]) (f:=λi=>.any cS cS (99,i)) (λI=>by simp[yaj,T2.rows,zkW]) (2*n);have hl:(0:Int)-1+2*(n:Int)=((2*n:Nat):Int)-1:=by lia
 erw[yM,ybi,BQ,B7,T1.rows,zkP,hh,yE,BS,AL,Ad,Aw];erw[Rs.pv,rS,Op.pv,oS,oT,oZ,oM,cx,Cx.at,yV,yG,hl,AL,Ad,Az,BV,Bp,Bo]
theorem zpy(n:Int)(I J:Nat):(inT.map λr=>r.pv I J n)=(inR I J).map yV:=by
 simp[inT,inR,Rs.pv,rS,Op.pv,oL,oHi,oO,oZ,cx,Cx.at,yV,yG]
theorem zl0(w:Int)(n:Nat):T1.rows w n ybt=(yaC n).map yV:=by
 unfold ybt yaC;rw[T1.rows,zaU];refine zau (λI=>?_) n;have h:=zau (g:=λJ=>inT.map λr=>r.pv I J n) (f:=inR I) (zpy n I) n;have hm:(0:Int)+1*(I:Int)+1*(n:Int)=(I:Int)+n:=by lia
 erw[yaj,BQ,B7,Aw,T2.rows,zaU,h,yaI,AL,BS,Ad,Az,BV];erw[Rs.pv,rS,Op.pv,oO,cx,Cx.at,yV,yG,AL,Ad,Bp,Bo,hm]
theorem zjn(w:Int)(n:Nat):yM w n yaR=(yap n).map yV:=by
 have hh:=zbo (g:=λI=>yaj w n I [.row (rS "any" [oS,oS,cx 99 0 1 0 1])]) (f:=λi=>.any cS cS (99,(n:Int)+i)) (λI=>by
  have hm:(0:Int)+1*(I:Int)+1*(n:Int)=(n:Int)+I:=by lia
  erw[yaj,BQ,B7,Aw,T2.rows,Rs.pv,rS,oS,Op.pv,cx,Cx.at,yV,yG,AL,Ad,Bp,Bo,hm]) n
 erw[yM,yaR,BQ,B7,T1.rows,zaU,hh,yap,BS,AL,Ad,Aw];erw[Rs.pv,rS,Op.pv,oS,oZ,oM,cx,Cx.at,yV,yG,AL,Ad,Az,BV,Bp,Bo]
theorem zlM(w:Int)(n:Nat):yM w n ybn=(yF n).map yV:=by
 have:yM w n ybn=T1.rows w n ybt++yM w n (yaR++ybi 0 2):=by simp[yM,ybn]
 rw[this,zaL,zl0,zjn,zmO,yF,BS,BS]
theorem zjH(w:Int)(n:Nat):T1.rnd w n ybt=n*(1+n):=by simp[ybt,T1.rnd,ybs,T2.rnd,zaU]
theorem ziC(w:Int)(n:Nat):yaM w n yaR=n:=by simp[yaR,yaM,T1.rnd,ybs,T2.rnd,zaU]
theorem zjJ(w:Int)(n:Nat):yaM w n (ybi 0 2)=2*n:=by simp[yaM,ybi,T1.rnd,zkP,ybs,T2.rnd]
theorem zkn(w:Int)(n:Nat):yaM w n ybn=n*(1+n)+(n+2*n):=by
 have:yaM w n ybn=T1.rnd w n ybt+yaM w n (yaR++ybi 0 2):=by simp[yaM,ybn]
 rw[this,zjh,zjH,ziC,zjJ]
theorem zag{f:Nat->List Rw}{c:Nat}(h:∀i,(f i).length=c):∀k,(upTo f k).length=k*c
 |0=>by simp[upTo]
 |k+1=>by rw[upTo,Af,zag h k,h,GV]
theorem zeR(n:Nat):(yaC n).length=n*(n*5+3):=zag (λI=>by simp[yaI,zag (f:=inR I) (c:=5) (λ_=>rfl)]) n
theorem zde{n:Nat}(hn:n<=4):(yF n).length<=4000:=by
 have:n*(n*5+3)<=4*23:=Ag hn (by lia);simp[yF,zeR,yap,yE,zaV];lia
theorem zav{f:Int->Rw}{r:Rw}:∀{n:Nat},r∈yC f n->∃i:Nat,i<n/\r=f i
 |0,h=>by simp[yC]at h
 |n+1,h=>by
  rw[yC,Au]at h;rcases h with h|h
  .let⟨i,hi,e⟩:=zav h;exact⟨i,by lia,e⟩
  .simp at h;exact⟨n,by lia,h⟩
theorem zaq{f:Nat->List Rw}{r:Rw}:∀{n:Nat},r∈upTo f n->∃i:Nat,i<n/\r∈f i
 |0,h=>by simp[upTo]at h
 |n+1,h=>by
  rw[upTo,Au]at h;rcases h with h|h
  .let⟨i,hi,e⟩:=zaq h;exact⟨i,by lia,e⟩
  .exact⟨n,by lia,h⟩
theorem zf1{n:Nat}(hn:1<=n)(hn2:n<=8):∀r∈yE n,yaE r:=by
 intro r hr;erw[yE,Au,AN,A4,or_false]at hr;rcases hr with (rfl|hr)|rfl|rfl|rfl|rfl|rfl
 case inl.inr=>let⟨i,hi,rfl⟩:=zav hr;erw[yaE,yU];lia
 all_goals erw[yaE,yU];lia
theorem zoc:∀r,yaE r->okD r
 |.mark _,h=>h
 |.set _ _,h=>h.2
 |.times _ _ _ _,_ | .ask _,_ | .move _ _,_ | .bare _ _,_ | .twice _ _,_ | .half _ _,_ | .sum _ _ _,_ | .less _ _ _,_ | .both _ _ _,_ | .any _ _ _,_ | .odd _ _ _,_=>trivial
theorem ydu{pr:Prop}{nm:AQ}{xs:List PV}{b:Bool}{vs:List PV}{ps:List T1}{rs:List Rw}{w n na:Nat}(hw:w<=16)(hn2:n<=4)(nl:nLs xs=AC)(i0:∀st,idxV st (.tp AB (.str nm::xs)) (.int 0)=AA (.str nm))
  (e0:yd T 18 za1 [.tp AB (.str nm::xs)] []=.ok (.tp b vs) []) (c1:yaQ vs=AA ps) (c2:nLs vs=AC) (c3:isOk (yd T 16 zP [.tp b vs] []) (.bl AC)=AC) (c4:isOk (yd T 20 zcW [.tp AB (.str nm::xs)] []) (.bl AC)=AC)
  (hp:pr->yd T 20 zw [.tp AB (.str nm::xs)] []=.ok (.bl AC) []) (pv:yM w n ps=rs.map yV) (ok:∀r∈rs,yaE r) (hl:rs.length<=4000) (hr:yaM w n ps<=4000) (ha:ak1 w n ps<=500000)
  {qb:Bool} (q3:yN .isin (.str nm) zad=AA (.bl qb)) (hA:yd T 20 zD [.tp AB (.str nm::xs),.int n] []=.ok (.int na) []):ycp pr qb (.tp AB (.str nm::xs)) w n na rs:=by
 have nl:nL (.tp AB (.str nm::xs))=true:=by simp[nL,nLs,nl]
 generalize PV.tp AB (.str nm::xs)=d at *;have nl1:nLs [d]=true:=by simp[nLs,nl]
 have rw':∀x∈yM w n ps,yby x:=λx hx=>by
  rw[pv,D3]at hx;let⟨r,hr,rfl⟩:=hx;exact zgp r (ok r hr)
 have ht:∀st,yd T (1+18) za1 [d] st=.ok (.tp b vs) st:=λst=>by
  have:=zas e0 1;rw[show 18+1=18+0+1 by lia]at this;exact zcl (f:=za1) (fn:=zdh) rfl rfl rfl nl1 this st
 have hit:∀st,yd T (1+16) zP [.tp b vs] st=.ok (.bl AC) st:=λst=>by
  have:=zas (za8 c3) 1;exact zcl (f:=zP) (fn:=zaZ) rfl rfl rfl (by simp[nLs,nL,c2]) this st
 have rows:=ziY 1 (w:=w) (n:=n) nl ht c2 c1 (by lia) (by lia) (by lia) (by lia) (by rw[pv,Av];exact hl) hr ha rw' hit [];rw[pv]at rows;have hT2:T za0=AA zam:=rfl;have nl2:nLs [d,.int n]=true:=by simp[nLs,nl,nL]
 refine⟨nl,za8 c4,hp,λst=>by rw[i0,BW,q3],rows,λr hr=>?_,hA,?_⟩
 .have hv:nL (yV r)=true:=by cases r<;>rfl
  exact zmd hv (zgp r (ok r hr)) 9 []
 .rw[show (20:Nat)=19+1 from rfl,zc hT2 rfl rfl nl2]
  cases qb<;>simp! [zam,i0,q3,IC.ve9]<;>rfl
theorem aw{pb:Bool}{nm:AQ}{xs:List PV}{n:Nat}(nl:nLs xs=AC)(i0:∀st,idxV st (.tp AB (.str nm::xs)) (.int 0)=AA (.str nm))(q1:yN .eq (.str nm) (.str "compare")=AA (.bl AB))(q2:yN .eq (.str nm) (.str "led")=AA (.bl AB))(q4:yN .isin (.str nm) zcf=AA (.bl pb)):yd T 20 zD [.tp AB (.str nm::xs),.int n] []=.ok (.int (if pb=AC then 2*n else n:Nat)) []:=by
 have nl:nL (.tp AB (.str nm::xs))=true:=by simp[nL,nLs,nl]
 generalize PV.tp AB (.str nm::xs)=d at *;have hT1:T zD=AA zC:=rfl;have nl2:nLs [d,.int n]=true:=by simp[nLs,nl,nL]
 rw[show (20:Nat)=19+1 from rfl,zc hT1 rfl rfl nl2]
 cases pb<;>simp! [zC,i0,q1,q2,q4]<;>rfl
def yfc(nm:String)(ps:List T1):Bool:=match yd T 18 za1 [.tp AB [.str (AG nm)]] []with
 |.ok (.tp b vs) []=>decide (yaQ vs=AA ps)&&nLs vs&&isOk (yd T 16 zP [.tp b vs] []) (.bl AC)&&isOk (yd T 20 zcW [.tp AB [.str (AG nm)]] []) (.bl AC)
 |_=>AB
theorem ybJ{nm:String}{qb:Bool}{ps:List T1}{rs:List Rw}{w n na:Nat}(hc:yfc nm ps=AC)(hw:w<=16)(hn2:n<=4)(pv:yM w n ps=rs.map yV)(ok:∀r∈rs,yaE r)(hl:rs.length<=4000)(hr:yaM w n ps<=4000)(ha:ak1 w n ps<=500000)(q3:yN .isin (.str (AG nm)) zad=AA (.bl qb))
  (hA:yd T 20 zD [.tp AB [.str (AG nm)],.int n] []=.ok (.int na) []):ycp (yd T 20 zw [.tp AB [.str (AG nm)]] []=.ok (.bl AC) []) qb (.tp AB [.str (AG nm)]) w n na rs:=by
 unfold yfc at hc;split at hc
 .rename_i b vs e0;erw[AK,decide_eq_true_eq]at hc;let⟨⟨⟨c1,c2⟩,c3⟩,c4⟩:=hc;exact ydu hw hn2 rfl (λ_=>rfl) e0 c1 c2 c3 c4 id pv ok hl hr ha q3 hA
 .cases hc
theorem zjN{T x y z k:Int}(x0:0<=x)(x1:x<T)(y0:0<=y)(y1:y<T)(r0:0<=z)(r1:z<T)(hk:k=0 \/ k=1)(s:z+k*T=x+y):k=bi (decide (T<=x+y))/\((if T<=2*z then 1 else 0)+if T<=2*x then(1:Int)else 0)%2*(((if T<=2*z then 1 else 0)+if T<=2*y then 1 else 0)%2)=bi (!ycM T (sgd T x+sgd T y)):=by
 constructor
 .rcases hk with rfl|rfl
  .rw[decide_eq_false (by lia)];rfl
  .rw[decide_eq_true (by lia)];rfl
 .unfold sgd ycM
  by_cases q1:T<=2*x<;>by_cases q2:T<=2*y<;>by_cases q3:T<=2*z<;>erw[q1,q2,q3,if_true,if_false]
  all_goals (rcases hk with rfl|rfl)
  all_goals first
   |(exfalso;lia)
   |(rw[decide_eq_true (by lia),decide_eq_true (by lia)];rfl)
   |(rw[decide_eq_false (by lia)];rfl)
   |(rw[decide_eq_true (by lia),decide_eq_false (by lia)];rfl)
theorem zkq{w:Nat}(hw:1<w){n:Nat}{x y:Int}(x0:0<=x)(x1:x<(2^w:Int)^(n+1))(y0:0<=y)(y1:y<(2^w:Int)^(n+1)):
  yo (2^w) (yw (2^w) (yah (n+1)) (yad (2^w) (n+1) x y) 0).1 99 (n+1)=(x+y)%(2^w:Int)^(n+1) /\
  (yw (2^w) (yah (n+1)) (yad (2^w) (n+1) x y) 0).1 109 0=bi (decide ((2^w:Int)^(n+1)<=x+y)) /\
  (yw (2^w) (yah (n+1)) (yad (2^w) (n+1) x y) 0).1 109 1=bi (!ycM ((2^w:Int)^(n+1)) (sgd ((2^w:Int)^(n+1)) x+sgd ((2^w:Int)^(n+1)) y)) /\
  (yw (2^w) (yah (n+1)) (yad (2^w) (n+1) x y) 0).1 109 2=bi ((x+y)%(2^w:Int)^(n+1)==0) /\
  (yw (2^w) (yah (n+1)) (yad (2^w) (n+1) x y) 0).1 109 3=bi (decide ((2^w:Int)^(n+1)<=2*((x+y)%(2^w:Int)^(n+1)))):=by
 have hW:(0:Int)<2^w:=Ab (by lia);have hW4:(4:Int)<=2^w:=by
  have h:(2:Nat)^2<=2^w:=A6 (by lia) (by lia);have h2:=pw w;lia
 have e:yah (n+1)=.mark 0::(yI (n+1) .sum++(.sum (109,0) cZ cZ::(yP (99,((n+1:Nat):Int)-1) (97,((n+1:Nat):Int)-1) (98,((n+1:Nat):Int)-1)++yE (n+1)))):=by
  simp[yah,BP]
 have hn:((n+1:Nat):Int)-1=n:=by lia
 have da:=zir (n+1) x y hW;have db:=zg0 (n+1) x y hW;have va:=zeV (n+1) x y hW x0 x1;have vb:=zeW (n+1) x y hW y0 y1;have zo:yad (2^w) (n+1) x y 122 0=0:=zgu _ _ _ (by decide) (by decide) _;generalize yad (2^w) (n+1) x y=M at *;let⟨s1,s2,s3,s4,s5⟩:=zgs hW (by lia) M 0 (by lia) (by lia) (n+1) da db;have hs0:stepM (2^w) M 0 (.mark 0)=(M,0):=rfl;rw[e,zz,hs0,zl,zz,hn];generalize yw (2^w) (yI (n+1) .sum) M 0=R at *;let⟨M1,k1⟩:=R;simp only at *;have z1:M1 122 0=0:=by rw[s1 122 0 (.inl (by decide)),zo]
 have hs:stepM (2^w) M1 k1 (.sum (109,0) cZ cZ)=(wr M1 (109,0) k1,0):=by
  erw[stepM,rd,cZ,z1];rw[show (0:Int)+0+k1=k1 by lia,A1 s3 (by lia),BB s3 (by lia)]
 rw[hs,zl];simp only;have g2:∀d j,(d≠109 \/ j≠0)->wr M1 (109,0) k1 d j=M1 d j:=λd j h=>by
  erw[wr,upd];rw[if_neg (by lia)]
 have g3:wr M1 (109,0) k1 109 0=k1:=by simp[wr,upd]
 generalize wr M1 (109,0) k1=M2 at *;have ga:∀j,M2 97 j=M 97 j:=λj=>by rw[g2 97 j (.inl (by decide)),s1 97 j (.inl (by decide))]
 have gb:∀j,M2 98 j=M 98 j:=λj=>by rw[g2 98 j (.inl (by decide)),s1 98 j (.inl (by decide))]
 have gc:∀j,M2 99 j=M1 99 j:=λj=>g2 99 j (.inl (by decide));have da2:Dg (2^w) M2 97 (n+1):=λi hi=>by rw[ga];exact da i hi
 have db2:Dg (2^w) M2 98 (n+1):=λi hi=>by rw[gb];exact db i hi
 have dc2:Dg (2^w) M2 99 (n+1):=λi hi=>by rw[gc];exact s2 i hi
 have ta:=zbz (by lia) da2;have tb':=zbz (by lia) db2;have tc:=zbz (by lia) dc2;rw[zd (M':=M) (c':=97) _ λi hi=>ga i,va]at ta;rw[zd (M':=M) (c':=98) _ λi hi=>gb i,vb]at tb';let⟨r0,r1⟩:=zx hW (n+1) dc2;have vc:yo (2^w) M2 99 (n+1)=yo (2^w) M1 99 (n+1):=zd _ λi hi=>gc i;rw[<-vc,va,vb]at s5;let⟨l1,l2,l3⟩:=zfa hw M2 (99,n) (97,n) (98,n) ⟨by simp,by simp⟩ ⟨by simp,by simp⟩ ⟨by simp,by simp⟩ (by rw[g2 122 0 (.inl (by decide)),z1]) (dc2 n (by lia)) (da2 n (by lia)) (db2 n (by lia));generalize yw (2^w) (yP (99,(n:Int)) (97,(n:Int)) (98,(n:Int))) M2 0=R at *;let⟨M3,k3⟩:=R;simp only at *;have gc3:∀j,M3 99 j=M2 99 j:=λj=>l1 99 j (by decide) (by decide) (.inl (by decide));have dc3:Dg (2^w) M3 99 (n+1):=λi hi=>by rw[gc3];exact dc2 i hi
 have vc3:yo (2^w) M3 99 (n+1)=yo (2^w) M2 99 (n+1):=zd _ λi hi=>gc3 i;let⟨e1,e2,e3,e4,e5⟩:=zcz hw M3 k3 dc3 (by rw[l1 122 0 (by decide) (by decide) (.inl (by decide)),g2 122 0 (.inl (by decide)),z1]);rw[zd (M':=M3) (c':=99) _ λi hi=>e1 i,e2,e3,e4,e5,vc3,l1 109 0 (by decide) (by decide) (.inr (by decide)),g3,l3];erw[rd];rw[tc,ta,tb'];generalize yo (2^w) M2 99 (n+1)=z at *;generalize (2^w:Int)^(n+1)=T at *;have hz:(x+y)%T=z:=by
  rw[show x+y=z+k1*T by lia,CL,A1 r0 r1]
 have hk:k1=0 \/ k1=1:=by lia
 rw[hz];let⟨o1,o2⟩:=zjN x0 x1 y0 y1 r0 r1 hk (by lia);exact⟨rfl,o1,o2,rfl,rfl⟩
theorem znB(a b:Bool):B1 (bi a) (bi b)=bi (a != b):=by
 cases a<;>cases b<;>decide +kernel
theorem zhk{w:Nat}(hw:1<w){n:Nat}{x y:Int}(x0:0<=x)(x1:x<(2^w:Int)^(n+1))(y0:0<=y)(y1:y<(2^w:Int)^(n+1)):
  (yw (2^w) (yac (n+1)) (yad (2^w) (n+1) x y) 0).1 109 0=bi (decide (x<y)) /\
  (yw (2^w) (yac (n+1)) (yad (2^w) (n+1) x y) 0).1 109 1=bi (decide (sgd ((2^w:Int)^(n+1)) x<sgd ((2^w:Int)^(n+1)) y)) /\
  (yw (2^w) (yac (n+1)) (yad (2^w) (n+1) x y) 0).1 109 2=bi (x==y) /\
  (yw (2^w) (yac (n+1)) (yad (2^w) (n+1) x y) 0).1 109 3=0:=by
 let⟨a1,a2,a3,a4,a5⟩:=zhy hw x0 x1 y0 y1;rw[yac,zl];generalize yw (2^w) (yab (n+1)) (yad (2^w) (n+1) x y) 0=R at *;let⟨M,k⟩:=R;simp only at *;erw[yw,stepM,rd,wr,upd,a2,a3,a4,a5,znB,C8,Ha,and_false,and_self,if_true,if_false];generalize (2^w:Int)^(n+1)=T at *;have hT:0<T:=by lia
 obtain⟨z,hz,hzz⟩:∃z,(x-y)%T=z/\((x<y/\z=x-y+T) \/ (¬x<y/\z=x-y)):=by
  refine⟨_,rfl,?_⟩
  by_cases h:x<y
  .left;refine⟨h,?_⟩;rw[<-DL];exact A1 (by lia) (by lia)
  .right;exact⟨h,A1 (by lia) (by lia)⟩
 rw[hz];refine⟨trivial,?_,?_,trivial⟩
 .congr 1
  unfold sgd ycM;rcases hzz with⟨h,e⟩|⟨h,e⟩<;>by_cases q1:T<=2*x<;>by_cases q2:T<=2*y<;>by_cases q3:T<=2*z<;>erw[q1,q2,q3,if_true,if_false,decide_true,decide_false]
  all_goals first
   |(exfalso;lia)
   |(rw[decide_eq_true (by lia),decide_eq_true (by lia),decide_eq_true (by lia)];rfl)
   |(rw[decide_eq_true (by lia),decide_eq_true (by lia),decide_eq_false (by lia)];rfl)
   |(rw[decide_eq_true (by lia),decide_eq_false (by lia),decide_eq_true (by lia)];rfl)
   |(rw[decide_eq_true (by lia),decide_eq_false (by lia),decide_eq_false (by lia)];rfl)
   |(rw[decide_eq_false (by lia),decide_eq_true (by lia),decide_eq_true (by lia)];rfl)
   |(rw[decide_eq_false (by lia),decide_eq_true (by lia),decide_eq_false (by lia)];rfl)
 .congr 1
  rw[DG];erw[beq_iff_eq];lia
theorem zoD{W:Int}(M:Mem)(k:Int)(hS:0<=M 115 0):∀n,(∀i:Nat,i<n->0<=M 98 i) ->
  (yw W (upTo (λi=>[Rw.any cS cS (98,i)]) n) M k).2=k/\(∀d j,d≠115->(yw W (upTo (λi=>[Rw.any cS cS (98,i)]) n) M k).1 d j=M d j)/\0<=(yw W (upTo (λi=>[Rw.any cS cS (98,i)]) n) M k).1 115 0/\((yw W (upTo (λi=>[Rw.any cS cS (98,i)]) n) M k).1 115 0=0 ↔ M 115 0=0/\∀i:Nat,i<n->M 98 i=0)
 |0,_=>⟨rfl,λ_ _ _=>rfl,hS,by simp[upTo,yw]⟩
 |n+1,h=>by
  let⟨h1,h2,h3,h4⟩:=zoD (W:=W) M k hS n λi hi=>h i (by lia);rw[upTo,zl];generalize yw W (upTo (λi=>[Rw.any cS cS (98,i)]) n) M k=R at *;let⟨M1,k'⟩:=R;simp only at *;have hb:=h n (by lia);erw[yw,stepM,rd,wr,cS,h2 98 n (by decide)];have hz:=zfD h3 hb;refine⟨h1,λd j hd=>?_,?_,?_⟩
  .unfold upd;rw[if_neg (by lia),h2 d j hd]
  .unfold upd;rw[if_pos ⟨rfl,rfl⟩];obtain⟨x,hx⟩:∃x:Nat,M1 115 0=x:=⟨(M1 115 0).toNat,by lia⟩;obtain⟨y,hy⟩:∃y:Nat,M 98 n=y:=⟨(M 98 n).toNat,by lia⟩;rw[hx,hy,zc0];lia
  .unfold upd;rw[if_pos ⟨rfl,rfl⟩,hz,h4];constructor
   .rintro⟨⟨a,b⟩,c⟩
    refine⟨a,λi hi=>?_⟩;rcases CK i n with z|z
    .exact b i z
    .rw[show i=n by lia];exact c
   .rintro⟨a,b⟩
    exact⟨⟨a,λi hi=>b i (by lia)⟩,b n (by lia)⟩
def nR(n:Nat):List Rw:=[.set cS 0]++upTo (λi=>[Rw.any cS cS (98,i)]) n++[.ask cS,.set (109,0) 1,.less (109,0) (109,0) cZ]
theorem zoI{w:Nat}(hw:1<w)(n:Nat)(M:Mem)(k:Int)(hz:M 122 0=0)(hb:∀i:Nat,i<n->0<=M 98 i):
  ((∀i:Nat,i<n->M 98 i=0)->(yw (2^w) (nR n) M k).1 109 0=1)/\((¬ ∀i:Nat,i<n->M 98 i=0)->(yw (2^w) (nR n) M k).1 109 0=0):=by
 have hW4:(4:Int)<=2^w:=by
  have h:(2:Nat)^2<=2^w:=A6 (by lia) (by lia);have h2:=pw w;lia
 have hst:stepM (2^w) M k (.set cS 0)=(wr M cS 0,k):=rfl;have e:nR n=.set cS 0::(upTo (λi=>[Rw.any cS cS (98,i)]) n++[.ask cS,.set (109,0) 1,.less (109,0) (109,0) cZ]):=by simp[nR]
 have u1:wr M cS 0 115 0=0:=by simp[wr,upd]
 have u2:∀(d:Nat) (j:Int),d≠115->wr M cS 0 d j=M d j:=λd j hd=>by
  erw[wr,upd];rw[if_neg (λz=>hd z.1)]
 let⟨h1,h2,h3,h4⟩:=zoD (W:=2^w) (wr M cS 0) k (by rw[u1];lia) n (λi hi=>by rw[u2 _ _ (by decide)];exact hb i hi);rw[e,zz,hst,zl];simp only at h1 h2 h3 h4 ⊢;generalize yw (2^w) (upTo (λi=>[Rw.any cS cS (98,i)]) n) (wr M cS 0) k=R at *;let⟨M1,k'⟩:=R;simp only at *;have hz1:M1 122 0=0:=by rw[h2 _ _ (by decide),u2 _ _ (by decide),hz]
 have h5:M1 115 0=0 ↔ ∀i:Nat,i<n->M 98 i=0:=by
  rw[h4,u1];constructor
  .rintro⟨_,a⟩ i hi
   rw[<-u2 98 i (by decide)];exact a i hi
  .intro a;exact⟨rfl,λi hi=>by rw[u2 _ _ (by decide)];exact a i hi⟩
 rw[<-h5];erw[yw,stepM,rd,wr,upd,cS,cZ,C8,false_and,if_false,and_self,if_true,hz1];constructor
 .intro a;rw[a];show (1-0-0)%(2^w:Int)=1;exact A1 (by lia) (by lia)
 .intro a;have:(M1 115 0==0)=false:=by simpa using a
  rw[this];show (1-0-1)%(2^w:Int)=0;rfl
theorem zca{W:Int}(hW:0<W){s:Int}(s0:0<=s)(s1:s<2*W):0<=s%W/\s%W<W/\0<=s/W/\s/W<=1/\s%W+s/W*W=s:=by
 have d1:=Ah s (show W≠0 by lia);have d2:=A8 s hW;have d3:=BM s W;have d4:0<=s/W:=B5 s0 (by lia);have d5:s/W<2:=BZ hW (by lia);rw[Ae]at d3;exact⟨d1,d2,d4,by lia,d3⟩
theorem zdr{W:Int}{M:Mem}{c n:Nat}{v:Int}:yo W (upd M c n v) c (n+1)=yo W M c n+v*W^n:=by
 rw[yo,zd (M':=M) (c':=c) n λi hi=>by unfold upd;rw[if_neg (by lia)]];unfold upd;rw[if_pos ⟨rfl,rfl⟩]
theorem zeP{W:Int}{M:Mem}{c n:Nat}{v:Int}(h:Dg W M c n)(v0:0<=v)(v1:v<W):Dg W (upd M c n v) c (n+1):=λi hi=>by
 unfold upd
 by_cases hin:i=n
 .subst hin;rw[if_pos ⟨rfl,rfl⟩];exact⟨v0,v1⟩
 .rw[if_neg (by lia)];exact h i (by lia)
def twR(c n:Nat):List Rw:=upTo (λJ=>[Rw.twice (c,(J:Int)) (c,(J:Int))]) n
theorem zes{W:Int}(hW:2<=W)(c:Nat)(M:Mem)(k:Int)(k0:0<=k)(k1:k<=1):∀n,Dg W M c n->∃M' k',yw W (twR c n) M k=(M',k')/\(∀d j,(d≠c \/ (n:Int)<=j)->M' d j=M d j)/\Dg W M' c n/\0<=k'/\k'<=1/\yo W M' c n+k' * W^n=2*yo W M c n+k
 |0,_=>⟨M,k,rfl,λ_ _ _=>rfl,λi hi=>by lia,k0,k1,by simp[yo]⟩
 |n+1,ha=>by
  let⟨M1,k',e1,h1,h2,h3,h4,h5⟩:=zes hW c M k k0 k1 n ha.mono;let⟨a0,a1⟩:=ha n (by lia);let⟨d1,d2,d3,d4,d5⟩:=zca (W:=W) (by lia) (s:=2*M c n+k') (by lia) (by lia);refine⟨upd M1 c n ((2*M c n+k')%W),(2*M c n+k')/W,?_,λd j hd=>?_,zeP h2 d1 d2,d3,d4,?_⟩
  .rw[twR,upTo,zl];show yw W [Rw.twice (c,(n:Int)) (c,(n:Int))] (yw W (twR c n) M k).1 (yw W (twR c n) M k).2=_;rw[e1];erw[yw,stepM,rd,wr,h1 c n (.inr (by lia))]
  .unfold upd;rw[if_neg (by lia),h1 d j (by lia)]
  .rw[zdr,yo,Am];generalize W^n=P at *;generalize (2*M c n+k')%W=u at *;generalize (2*M c n+k')/W=t at *;generalize M c (n:Int)=A at *;have e3:(u+t*W)*P=(2*A+k')*P:=by rw[d5]
   rw[BN,BN,Ap t W P,Ae W P,Ap 2 A P]at e3;generalize u*P=x1 at *;generalize t*(P*W)=x2 at *;generalize A*P=x3 at *;generalize k' * P=x4 at *;lia
def lsR(r y n:Nat):List Rw:=upTo (λJ=>[Rw.less (r,(J:Int)) (r,(J:Int)) (y,(J:Int))]) n
theorem zc2{W:Int}(hW:0<W){s:Int}(s0:-W<=s)(s1:s<W):0<=s%W/\s%W<W/\0<=bi (decide (s<0))/\bi (decide (s<0))<=1/\s%W-bi (decide (s<0))*W=s:=by
 have d1:=Ah s (show W≠0 by lia);have d2:=A8 s hW;refine⟨d1,d2,(z8 _).1,(z8 _).2,?_⟩
 by_cases hl:s<0
 .rw[decide_eq_true hl,<-DL];rw[A1 (by lia) (by lia)];show s+W-1*W=s;lia
 .rw[decide_eq_false hl,A1 (by lia) (by lia)];show s-0*W=s;lia
theorem ziL{W:Int}(hW:0<W){r y:Nat}(hry:y≠r)(M:Mem)(k:Int)(k0:0<=k)(k1:k<=1):∀n,Dg W M r n->Dg W M y n->∃M' k',yw W (lsR r y n) M k=(M',k')/\(∀d j,(d≠r \/ (n:Int)<=j)->M' d j=M d j)/\Dg W M' r n/\0<=k'/\k'<=1/\yo W M' r n-k' * W^n=yo W M r n-yo W M y n-k
 |0,_,_=>⟨M,k,rfl,λ_ _ _=>rfl,λi hi=>by lia,k0,k1,by simp[yo]⟩
 |n+1,ha,hb=>by
  let⟨M1,k',e1,h1,h2,h3,h4,h5⟩:=ziL hW hry M k k0 k1 n ha.mono hb.mono;let⟨a0,a1⟩:=ha n (by lia);let⟨b0,b1⟩:=hb n (by lia);let⟨d1,d2,d3,d4,d5⟩:=zc2 (W:=W) hW (s:=M r n-M y n-k') (by lia) (by lia);refine⟨upd M1 r n ((M r n-M y n-k')%W),bi (decide (M r n-M y n-k' < 0)),?_,λd j hd=>?_,zeP h2 d1 d2,d3,d4,?_⟩
  .rw[lsR,upTo,zl];show yw W [Rw.less (r,(n:Int)) (r,(n:Int)) (y,(n:Int))] (yw W (lsR r y n) M k).1 (yw W (lsR r y n) M k).2=_;rw[e1];erw[yw,stepM,rd,wr,h1 r n (.inr (by lia)),h1 y n (.inl hry)]
  .unfold upd;rw[if_neg (by lia),h1 d j (by lia)]
  .rw[zdr,yo,yo,Am];generalize W^n=P at *;generalize (M r n-M y n-k')%W=u at *;generalize bi (decide (M r n-M y n-k' < 0))=t at *;generalize M r (n:Int)=A at *;generalize M y (n:Int)=B at *;have e3:(u-t*W)*P=(A-B-k')*P:=by rw[d5]
   rw[BR,BR,BR,Ap t W P,Ae W P]at e3;generalize u*P=x1 at *;generalize t*(P*W)=x2 at *;generalize A*P=x3 at *;generalize B*P=x5 at *;generalize k' * P=x4 at *;lia
noncomputable abbrev cF:Cel:=(102,0)
def adR(r y n:Nat):List Rw:=upTo (λJ=>[Rw.both cT (y,(J:Int)) cF,Rw.sum (r,(J:Int)) (r,(J:Int)) cT]) n
theorem zhK{w:Nat}{A b:Int}(a0:0<=A)(a1:A<2^w)(hb:b=0 \/ b=1):Ar A (b*(2^w-1))=b*A:=by
 obtain⟨x,rfl⟩:∃n:Nat,A=n:=⟨A.toNat,by lia⟩;rcases hb with rfl|rfl
 .rw[Bp,Bp];have:=ze3 x 0;simpa using this
 .rw[Bw,Bw];have hp:=pw w;have h1:(0:Nat)<2^w:=Hh (by lia);have h2:((2:Int)^w-1)=((2^w-1:Nat):Int):=by lia
  rw[h2,ze3,C7,Nat.mod_eq_of_lt (by lia)]
theorem zhG{w:Nat}(hw:1<=w){r y:Nat}(hry:y≠r)(hr:r≠116/\r≠102)(hy:y≠116)(M:Mem)(k b:Int)(k0:0<=k)(k1:k<=1)(hb:b=0 \/ b=1)(hf:M 102 0=b*(2^w-1)):∀n,Dg (2^w) M r n->Dg (2^w) M y n->∃M' k',yw (2^w) (adR r y n) M k=(M',k')/\(∀d j,d≠116->(d≠r \/ (n:Int)<=j)->M' d j=M d j)/\Dg (2^w) M' r n/\0<=k'/\k'<=1/\yo (2^w) M' r n+k' * (2^w)^n=yo (2^w) M r n+b*yo (2^w) M y n+k
 |0,_,_=>⟨M,k,rfl,λ_ _ _ _=>rfl,λi hi=>by lia,k0,k1,by simp[yo]⟩
 |n+1,ha,hd=>by
  have hW:(0:Int)<2^w:=Ab (by lia);let⟨M1,k',e1,h1,h2,h3,h4,h5⟩:=zhG hw hry hr hy M k b k0 k1 hb hf n ha.mono hd.mono;let⟨a0,a1⟩:=ha n (by lia);let⟨b0,b1⟩:=hd n (by lia);have bB:0<=b*M y n/\b*M y n<2^w:=by rcases hb with rfl|rfl<;>lia
  let⟨d1,d2,d3,d4,d5⟩:=zca (W:=2^w) hW (s:=M r n+b*M y n+k') (by lia) (by lia);have hT:∀d j,d≠116->upd M1 116 0 (b*M y n) d j=M1 d j:=λd j h=>by unfold upd;rw[if_neg (by lia)]
  have hv:∀i:Nat,i<n->upd M1 116 0 (b*M y n) r i=M1 r i:=λi _=>hT r i hr.1;refine⟨upd (upd M1 116 0 (b*M y n)) r n ((M r n+b*M y n+k')%2^w),(M r n+b*M y n+k')/2^w,?_,λd j h6 h7=>?_,zeP (λi hi=>by rw[hv i hi];exact h2 i hi) d1 d2,d3,d4,?_⟩
  .rw[adR,upTo,zl];show yw (2^w) [Rw.both cT (y,(n:Int)) cF,Rw.sum (r,(n:Int)) (r,(n:Int)) cT] (yw (2^w) (adR r y n) M k).1 (yw (2^w) (adR r y n) M k).2=_;rw[e1];have hff:M1 102 0=b*(2^w-1):=by rw[h1 102 0 (by decide) (.inl (λz=>hr.2 z.symm)),hf]
   have hyy:M1 y n=M y n:=h1 y n hy (.inl hry);have hrr:upd M1 116 0 (b*M y n) r n=M r n:=by rw[hT r n hr.1,h1 r n hr.1 (.inr (by lia))]
   have htt:upd M1 116 0 (b*M y n) 116 0=b*M y n:=by unfold upd;rw[if_pos ⟨rfl,rfl⟩]
   erw[yw,stepM,rd,wr,cT,cF,hff,hyy,zhK b0 b1 hb,hrr,htt]
  .unfold upd;rw[if_neg (by lia),if_neg (by lia),h1 d j h6 (by lia)]
  .rw[zdr,zd (M':=M1) (c':=r) n hv,yo,yo,Am];generalize ((2:Int)^w)^n=P at *;generalize (M r n+b*M y n+k')%2^w=u at *;generalize (M r n+b*M y n+k')/2^w=t at *;generalize M r (n:Int)=A at *;generalize M y (n:Int)=B at *;generalize (2:Int)^w=W at *;have e3:(u+t*W)*P=(A+b*B+k')*P:=by rw[d5]
   rw[BN,BN,BN,Ap t W P,Ae W P,Ap b B P]at e3;rw[Ca];generalize u*P=x1 at *;generalize t*(P*W)=x2 at *;generalize A*P=x3 at *;generalize b*(B*P)=x5 at *;generalize k' * P=x4 at *;generalize b*yo W M y n=x6 at *;lia
def yaF(y q r n:Nat):List Rw:=.mark 0::(twR 101 n++(twR r (n+1)++(lsR r y n++(.less (r,(n:Int)) (r,(n:Int)) cZ :: .less cF cZ cZ :: .mark 0::(adR r y n++(.sum (r,(n:Int)) (r,(n:Int)) cZ :: .bare cF cF :: .ask cF::twR q n))))))
structure Dv(w n y q r:Nat)(M0 M:Mem)(x Y:Int)(I:Nat):Prop where
 de:Dg (2^w) M 101 n
 dr:Dg (2^w) M r (n+1)
 dq:Dg (2^w) M q n
 keep:∀d j,d≠101->d≠r->d≠q->d≠116->d≠102->M d j=M0 d j
 rest:yo (2^w) M r (n+1)<Y
 sent:yo (2^w) M q n*Y*(2^w)^n+yo (2^w) M r (n+1)*(2^w)^n+yo (2^w) M 101 n=x*2^I
theorem zm5{w n:Nat}:((2:Int)^w)^n=2^(w*n):=by rw[CZ]
structure Lt(y q r:Nat):Prop where
 yr:y≠r
 yq:y≠q
 qr:q≠r
 hy:y≠101/\y≠116/\y≠102/\y≠122
 hq:q≠101/\q≠116/\q≠102/\q≠122
 hr:r≠101/\r≠116/\r≠102/\r≠122
theorem zgO{W R Y P:Int}(hW:2<=W)(hP:0<P)(hR:R<Y)(hY:Y<=P):2*R+1<P*W:=by
 have:=Bc hW (show 0<=P by lia);lia
theorem ydR{A:Mem}{c d:Nat}{i v j:Int}(h:d≠c):upd A c i v d j=A d j:=if_neg λe=>h e.1
theorem yfx{A:Mem}{c:Nat}{i v:Int}:upd A c i v c i=v:=if_pos ⟨rfl,rfl⟩
theorem z01{b:Int}(h:0<=b)(g:b<=1):b=0 \/ b=1:=by lia
theorem z02{b:Int}(h:b=0 \/ b=1):0<=1-b/\1-b<=1:=by lia
theorem z03{W t k:Int}(t0:0<=t)(t1:t<W)(k0:0<=k)(k1:k<=1)(h:4<=W):-W<=t-0-k/\t-0-k<W/\0<=t+0+k/\t+0+k<2*W:=by lia
theorem zno{W P u b m k A B Y:Int}(d5:u-b*W=m-0-k)(v3:A-k*P=B-Y-0):A+u*P-b*(P*W)=B+m*P-Y:=by
 have e9:(u-b*W)*P=(m-0-k)*P:=by rw[d5]
 rw[BR,BR,BR,Bp,Ap b W P,Ae W P]at e9;lia
theorem zpj{W P u c m k A B Y b:Int}(c5:u+c*W=m+0+k)(v6:A+k*P=B+b*Y+0):A+u*P+c*(P*W)=B+m*P+b*Y:=by
 have e9:(u+c*W)*P=(m+0+k)*P:=by rw[c5]
 rw[BN,BN,BN,Bp,Ap c W P,Ae W P]at e9;lia
theorem zon{b c Q Y P V7 V4 V2 V k1:Int}(hb:b=0 \/ b=1)(c0:0<=c)(c1:c<=1)(v2:V2=2*V+k1)(v4:V4-b*Q=V2-Y)(v7:V7+c*Q=V4+b*Y)(r0:0<=V)(k0:0<=k1)(k1':k1<=1)(r40:0<=V4)(r41:V4<Q)(r70:0<=V7)(r71:V7<Q)(hr:V<Y)(hY:Y<P)(hP:P<=Q):
  V7=2*V+k1-(1-b)*Y/\V7<Y:=by
 rcases hb with rfl|rfl<;>rcases (by lia:c=0 \/ c=1)with rfl|rfl<;>lia
theorem znd{A B Y P E E1 k1 b Z:Int}(hs:A*Y*P+B*P+E=Z)(v1:E1+k1*P=2*E):(2*A+(1-b))*Y*P+(2*B+k1-(1-b)*Y)*P+E1=Z*2:=by
 have f1:(2*A+(1-b))*Y*P=2*(A*Y*P)+(1-b)*Y*P:=by
  rw[BN,BN,Ap 2 A Y,Ap 2 (A*Y) P]
 have f2:(2*B+k1-(1-b)*Y)*P=2*(B*P)+k1*P-(1-b)*Y*P:=by
  rw[BR,BN,Ap 2 B P]
 rw[f1,f2];lia
theorem zob{A Y P V E x T:Int}(hYp:1<=Y)(hP:0<P)(A0:0<=A)(V0:0<=V)(E0:0<=E)(x1:x<P)(T0:0<T)(hle:T<=P)(key:(A+1*P)*Y*P+V*P+E=x*T):False:=by
 have a1:P*P<=(A+1*P)*Y*P:=by
  have b1:P<=(A+1*P)*Y:=by
   have:=Bc hYp (show 0<=A+1*P by lia);lia
  exact Ao b1 (by lia)
 have a2:0<=V*P:=By V0 (by lia);have a3:x*T<=(P-1)*T:=Ao (by lia) (by lia);have a4:(P-1)*T<=(P-1)*P:=Bc hle (by lia);have a5:(P-1)*P=P*P-P:=by rw[BR,Bw]
 lia
theorem zkN{W b:Int}(hW:1<W)(hb:b=0 \/ b=1):((0-0-b)%W,bi (decide ((0:Int)-0-b<0)))=(b*(W-1),b):=by
 rcases hb with rfl|rfl
 .simp[bi]
 .have:((0:Int)-0-1)%W=1*(W-1):=by
   rw[<-DL,A1 (by lia) (by lia)];lia
  rw[this];rfl
theorem zoY{W b:Int}(hW:1<W)(hb:b=0 \/ b=1):bi (!((1-b)*(W-1)==0))=1-b:=by
 rcases hb with rfl|rfl
 .have:¬((1-0)*(W-1)=0):=by lia
  rw[beq_eq_false_iff_ne.2 this];rfl
 .simp[bi]
theorem zmU{W b:Int}(hb:b=0 \/ b=1):W-1-b*(W-1)=(1-b)*(W-1):=by
 rcases hb with rfl|rfl<;>lia
theorem zn1{W P R R2 k1 k2 Y:Int}(hW:2<=W)(hP:0<P)(r0:0<=R)(hR:R<Y)(hY:Y<P)(k10:0<=k1)(k11:k1<=1)(p:0<=k2)(p':k2<=1)(v2:R2+k2*(P*W)=2*R+k1)(r2:0<=R2):k2=0:=by
 have hlt:=zgO hW hP hR (D5 hY);rcases (by lia:k2=0 \/ k2=1)with z|z
 .exact z
 .subst z;lia
theorem ziy{w n y q r:Nat}(hw:1<w)(L:Lt y q r){M0 M:Mem}{x Y k:Int}{I:Nat}(hz:M0 122 0=0)(hD:Dg (2^w) M0 y n)(hY:yo (2^w) M0 y n=Y)(x1:x<(2^w:Int)^n)(hI:I<w*n)(h:Dv w n y q r M0 M x Y I):
  ∃M' k',yw (2^w) (yaF y q r n) M k=(M',k')/\Dv w n y q r M0 M' x Y (I+1):=by
 have hW4:(4:Int)<=2^w:=by
  have h:(2:Nat)^2<=2^w:=A6 (by lia) (by lia);have h2:=pw w;lia
 have hW:(0:Int)<2^w:=DJ (by decide) hW4;have hW2:(2:Int)<=2^w:=Int.le_trans (by decide) hW4;have hW1:(1:Int)<2^w:=DJ (by decide) hW4;have hP:(0:Int)<(2^w)^n:=Ab hW;let⟨y0,y1⟩:=zx hW n hD;rw[hY]at y0 y1;let⟨r0,r1⟩:=zx hW (n+1) h.dr;have hzM:M 122 0=0:=by rw[h.keep 122 0 (by decide) (λe=>L.hr.2.2.2 e.symm) (λe=>L.hq.2.2.2 e.symm) (by decide) (by decide),hz]
 have hyM:∀j,M y j=M0 y j:=λj=>h.keep y j L.hy.1 L.yr L.yq L.hy.2.1 L.hy.2.2.1;let⟨M1,k1,e1,o1,g1,p1,p1',v1⟩:=zes (W:=2^w) hW2 101 M 0 (by decide) (by decide) n h.de;have q1:∀j,M1 r j=M r j:=λj=>o1 r j (.inl L.hr.1);let⟨M2,k2,e2,o2,g2,p2,p2',v2⟩:=zes (W:=2^w) hW2 r M1 k1 p1 p1' (n+1) (λi hi=>by rw[q1];exact h.dr i hi);rw[zd (M:=M1) (M':=M) (c:=r) (c':=r) (n+1) λi _=>q1 i]at v2;let⟨r20,r21⟩:=zx hW (n+1) g2;have hk2:k2=0:=zn1 hW2 hP r0 h.rest y1 p1 p1' p2 p2' (by rw[<-Am];exact v2) r20;subst hk2;rw[Bp,Bo]at v2;have q2:∀j,M2 y j=M0 y j:=λj=>by rw[o2 y j (.inl L.yr),o1 y j (.inl L.hy.1),hyM]
 have z2:M2 122 0=0:=by rw[o2 122 0 (.inl (λe=>L.hr.2.2.2 e.symm)),o1 122 0 (.inl (by decide)),hzM]
 let⟨M3,k3,e3,o3,g3,p3,p3',v3⟩:=ziL (W:=2^w) hW L.yr M2 0 (by decide) (by decide) n g2.mono (λi hi=>by rw[q2];exact hD i hi);rw[zd (M:=M2) (M':=M0) (c:=y) (c':=y) n λi _=>q2 i,hY]at v3;have t3:M3 r n=M2 r n:=o3 r n (.inr (Gj _));let⟨t0,t1⟩:=g2 n (Dd n);let⟨d1,d2,d3,d4,d5⟩:=zc2 (W:=2^w) hW (s:=M2 r n-0-k3) (z03 t0 t1 p3 p3' hW4).1 (z03 t0 t1 p3 p3' hW4).2.1;have z3:M3 122 0=0:=by rw[o3 122 0 (.inl (λe=>L.hr.2.2.2 e.symm)),z2]
 have e4:stepM (2^w) M3 k3 (.less (r,(n:Int)) (r,(n:Int)) cZ)=(upd M3 r n ((M2 r n-0-k3)%2^w),bi (decide (M2 r n-0-k3<0))):=by
  erw[stepM,rd,wr,cZ,t3,z3]
 generalize hb:bi (decide (M2 r n-0-k3<0))=b at d3 d4 d5 e4;generalize hu:(M2 r n-0-k3)%2^w=u at d1 d2 d5 e4;have g4:Dg (2^w) (upd M3 r n u) r (n+1):=zeP g3 d1 d2;have v4:yo (2^w) (upd M3 r n u) r (n+1)-b*(2^w)^(n+1)=yo (2^w) M2 r (n+1)-Y:=by
  rw[zdr,yo,Am];exact zno d5 v3
 have o4:∀d j,d≠r->upd M3 r n u d j=M2 d j:=λd j hd=>by rw[ydR hd,o3 d j (.inl hd)]
 generalize upd M3 r n u=M4 at e4 g4 v4 o4;let⟨r40,r41⟩:=zx hW (n+1) g4;have hb01:b=0 \/ b=1:=z01 d3 d4;have z4:M4 122 0=0:=by rw[o4 122 0 (λe=>L.hr.2.2.2 e.symm),z2]
 have e5:stepM (2^w) M4 b (.less cF cZ cZ)=(upd M4 102 0 (b*(2^w-1)),b):=by
  erw[stepM,rd,wr,cF,cZ,z4];rw[(Hk (zkN hW1 hb01)).1,(Hk (zkN hW1 hb01)).2]
 have o5:∀d j,d≠102->upd M4 102 0 (b*(2^w-1)) d j=M4 d j:=λd j hd=>ydR hd;have f5:upd M4 102 0 (b*(2^w-1)) 102 0=b*(2^w-1):=yfx;generalize upd M4 102 0 (b*(2^w-1))=M5 at e5 o5 f5;have q5:∀j,M5 r j=M4 r j:=λj=>o5 r j L.hr.2.2.1;have y5:∀j,M5 y j=M0 y j:=λj=>by rw[o5 y j L.hy.2.2.1,o4 y j L.yr,q2]
 let⟨M6,k6,e6,o6,g6,p6,p6',v6⟩:=zhG (w:=w) (Ex hw) L.yr ⟨L.hr.2.1,L.hr.2.2.1⟩ L.hy.2.1 M5 0 b (by decide) (by decide) hb01 f5 n (λi hi=>by rw[q5];exact g4 i (Nat.lt_succ_of_lt hi)) (λi hi=>by rw[y5];exact hD i hi);rw[zd (M:=M5) (M':=M4) (c:=r) (c':=r) n λi _=>q5 i,zd (M:=M5) (M':=M0) (c:=y) (c':=y) n λi _=>y5 i,hY]at v6;have t6:M6 r n=M4 r n:=by rw[o6 r n L.hr.2.1 (.inr (Gj _)),q5]
 let⟨s0,s1⟩:=g4 n (Dd n);let⟨c1,c2,c3,c4,c5⟩:=zca (W:=2^w) hW (s:=M4 r n+0+k6) (z03 s0 s1 p6 p6' hW4).2.2.1 (z03 s0 s1 p6 p6' hW4).2.2.2;have z6:M6 122 0=0:=by rw[o6 122 0 (by decide) (.inl (λe=>L.hr.2.2.2 e.symm)),o5 122 0 (by decide),z4]
 have e7:stepM (2^w) M6 k6 (.sum (r,(n:Int)) (r,(n:Int)) cZ)=(upd M6 r n ((M4 r n+0+k6)%2^w),(M4 r n+0+k6)/2^w):=by
  erw[stepM,rd,wr,cZ,t6,z6]
 generalize (M4 r n+0+k6)/2^w=c at c3 c4 c5 e7;generalize (M4 r n+0+k6)%2^w=u7 at c1 c2 c5 e7;have g7:Dg (2^w) (upd M6 r n u7) r (n+1):=zeP g6 c1 c2;have v7:yo (2^w) (upd M6 r n u7) r (n+1)+c*(2^w)^(n+1)=yo (2^w) M4 r (n+1)+b*Y:=by
  rw[zdr,yo,Am];exact zpj c5 v6
 have o7:∀d j,d≠r->d≠116->d≠102->upd M6 r n u7 d j=M2 d j:=λd j hd h1 h2=>by
  rw[ydR hd,o6 d j h1 (.inl hd),o5 d j h2,o4 d j hd]
 have f7:upd M6 r n u7 102 0=b*(2^w-1):=by
  rw[ydR (λz=>L.hr.2.2.1 z.symm),o6 102 0 (by decide) (.inl (λe=>L.hr.2.2.1 e.symm)),f5]
 generalize upd M6 r n u7=M7 at e7 g7 v7 o7 f7;let⟨r70,r71⟩:=zx hW (n+1) g7;have hv2:yo (2^w) M2 r (n+1)=2*yo (2^w) M r (n+1)+k1:=v2;have hPW:(2^w:Int)^n<=(2^w)^(n+1):=by
  rw[Am];have:=Bc (D5 hW1) (D5 hP)
  rwa [Cn]at this
 have hrest:yo (2^w) M7 r (n+1)=2*yo (2^w) M r (n+1)+k1-(1-b)*Y/\yo (2^w) M7 r (n+1)<Y:=zon hb01 c3 c4 hv2 v4 v7 r0 p1 p1' r40 r41 r70 r71 h.rest y1 hPW;have e8:stepM (2^w) M7 c (.bare cF cF)=(upd M7 102 0 ((1-b)*(2^w-1)),c):=by
  erw[stepM,rd,wr,cF,f7];rw[zmU hb01]
 have o8:∀d j,d≠102->upd M7 102 0 ((1-b)*(2^w-1)) d j=M7 d j:=λd j hd=>ydR hd;have f8:upd M7 102 0 ((1-b)*(2^w-1)) 102 0=(1-b)*(2^w-1):=yfx;generalize upd M7 102 0 ((1-b)*(2^w-1))=M8 at e8 o8 f8;have e9:stepM (2^w) M8 c (.ask cF)=(M8,1-b):=by
  erw[stepM,rd,cF,f8];rw[zoY hW1 hb01]
 have q8:∀j,M8 q j=M q j:=λj=>by
  rw[o8 q j L.hq.2.2.1,o7 q j L.qr L.hq.2.1 L.hq.2.2.1,o2 q j (.inl L.qr),o1 q j (.inl L.hq.1)]
 let⟨M9,k9,ea,o9,g9,p9,p9',v9⟩:=zes (W:=2^w) hW2 q M8 (1-b) (z02 hb01).1 (z02 hb01).2 n (λi hi=>by rw[q8];exact h.dq i hi);rw[zd (M:=M8) (M':=M) (c:=q) (c':=q) n λi _=>q8 i]at v9;let⟨u0,u1⟩:=zx hW n g9;let⟨w0,w1⟩:=zx hW n h.dq;let⟨ee0,ee1⟩:=zx hW n g1;have hs:=h.sent;have ve:yo (2^w) M9 101 n=yo (2^w) M1 101 n:=zd n λi _=>by
  rw[o9 101 i (.inl (λe=>L.hq.1 e.symm)),o8 101 i (by decide),o7 101 i (λe=>L.hr.1 e.symm) (by decide) (by decide),o2 101 i (.inl (λe=>L.hr.1 e.symm))]
 have vr:yo (2^w) M9 r (n+1)=yo (2^w) M7 r (n+1):=zd (n+1) λi _=>by
  rw[o9 r i (.inl (λe=>L.qr e.symm)),o8 r i L.hr.2.2.1]
 have v1':yo (2^w) M1 101 n+k1*(2^w)^n=2*yo (2^w) M 101 n:=by rw[v1,Bo]
 have key:(2*yo (2^w) M q n+(1-b))*Y*(2^w)^n+yo (2^w) M7 r (n+1)*(2^w)^n+yo (2^w) M1 101 n=x*2^(I+1):=by
  rw[hrest.1,Am,<-Ap];exact znd hs v1'
 have hk9:k9=0:=by
  rcases z01 p9 p9' with z|z
  .exact z
  .exfalso;subst z;have hle:(2:Int)^(I+1)<=(2^w)^n:=by
    rw[zm5]
    exact_mod_cast A6 (n:=2) (by decide) hI
   rw[<-v9]at key;exact zob (DM r0 h.rest) hP u0 r70 ee0 x1 (Ab (by decide)) hle key
 subst hk9;rw[Bp,Bo]at v9;rw[<-v9]at key;refine⟨M9,0,?_,⟨λi hi=>?_,λi hi=>?_,g9,λd j h1 h2 h3 h4 h5=>?_,?_,?_⟩⟩
 .have em:stepM (2^w) M k (.mark 0)=(M,0):=rfl;have em2:stepM (2^w) M5 b (.mark 0)=(M5,0):=rfl;rw[yaF,zz,em];simp only;rw[zl,e1,zl];simp only;rw[e2,zl];simp only;rw[e3,zz,e4,zz];simp only;rw[e5,zz,em2,zl];simp only;rw[e6,zz,e7,zz];simp only;rw[e8,zz,e9];simp only;rw[ea]
 .rw[o9 101 i (.inl (λe=>L.hq.1 e.symm)),o8 101 i (by decide),o7 101 i (λe=>L.hr.1 e.symm) (by decide) (by decide),o2 101 i (.inl (λe=>L.hr.1 e.symm))];exact g1 i hi
 .rw[o9 r i (.inl (λe=>L.qr e.symm)),o8 r i L.hr.2.2.1];exact g7 i hi
 .rw[o9 d j (.inl h3),o8 d j h5,o7 d j h2 h4 h5,o2 d j (.inl h2),o1 d j (.inl h1)];exact h.keep d j h1 h2 h3 h4 h5
 .rw[vr];exact hrest.2
 .rw[ve,vr];exact key
theorem zdL{w n y q r:Nat}(hw:1<w)(L:Lt y q r){M0 M:Mem}{x Y k:Int}(hz:M0 122 0=0)(hD:Dg (2^w) M0 y n)(hY:yo (2^w) M0 y n=Y)(x1:x<(2^w:Int)^n)(h:Dv w n y q r M0 M x Y 0):
  ∀I:Nat,I<=w*n->∃M' k',yw (2^w) (upTo (λ_=>yaF y q r n) I) M k=(M',k')/\Dv w n y q r M0 M' x Y I
 |0,_=>⟨M,k,rfl,h⟩
 |I+1,hI=>by
  let⟨M1,k1,e1,h1⟩:=zdL hw L hz hD hY x1 h I (by lia);let⟨M2,k2,e2,h2⟩:=ziy hw L (k:=k1) hz hD hY x1 (by lia) h1;refine⟨M2,k2,?_,h2⟩;rw[upTo,zl,e1];exact e2
theorem zkd{w n y q r:Nat}(hw:1<w){M0 M:Mem}{x Y:Int}(x0:0<=x)(h:Dv w n y q r M0 M x Y (w*n))(hYP:Y<=(2^w:Int)^n):yo (2^w) M q n=x/Y/\yo (2^w) M r n=x%Y/\M r n=0:=by
 have hW:(0:Int)<2^w:=Ab (by lia);have hP:(0:Int)<(2^w)^n:=Ab hW;let⟨r0,r1⟩:=zx hW (n+1) h.dr;let⟨a0,a1⟩:=zx hW n h.de;let⟨b0,b1⟩:=zx hW n h.dr.mono;let⟨t0,t1⟩:=h.dr n (by lia);have hs:=h.sent;have hr:=h.rest;rw[<-zm5]at hs;have htop:M r n=0:=by
  rw[yo]at hr;rcases (by lia:M r n=0 \/ 1<=M r n)with z|z
  .exact z
  .have:=Ao z (show (0:Int)<=(2^w)^n by lia);lia
 have hv:yo (2^w) M r (n+1)=yo (2^w) M r n:=by rw[yo,htop];lia
 rw[hv]at hs hr;generalize ((2:Int)^w)^n=P at *;generalize yo (2^w) M q n=A at *;generalize yo (2^w) M r n=B at *;generalize yo (2^w) M 101 n=E at *;have e0:E=0:=by
  have h1:E=(x-A*Y-B)*P:=by
   rw[BR,BR];lia
  have h2:E%P=E:=A1 a0 a1;rw[<-h2,h1,Int.mul_emod_left]
 subst e0;have hx:A*Y+B=x:=by
  have h1:(A*Y+B)*P=x*P:=by rw[BN];lia
  exact Int.eq_of_mul_eq_mul_right (by lia) h1
 have hYp:0<Y:=by lia
 refine⟨?_,?_,htop⟩
 .rw[<-hx,Cv,FL _ _ (by lia),BB b0 hr,GW]
 .rw[<-hx,Cv,CL,A1 b0 hr]
def mvR(n:Nat):List Rw:=yC (λi=>.move (101,i) (97,i)) n
def yd6(w n:Nat):List Rw:=upTo (λ_=>yaF 98 99 100 n) (w*n)
def yag(w n:Nat):List Rw:=mvR n++yd6 w n++nR n++yE n
def dvT:List T2:=[.row (rS "mark" [.fig 0]),.rounds 0 1 0 [rS "twice" [cx 101 0 0 1 0,cx 101 0 0 1 0]],.rounds 1 1 0 [rS "twice" [cx 100 0 0 1 0,cx 100 0 0 1 0]],.rounds 0 1 0 [rS "less" [cx 100 0 0 1 0,cx 100 0 0 1 0,cx 98 0 0 1 0]],.row (rS "less" [cx 100 0 0 0 1,cx 100 0 0 0 1,oZ]),.row (rS "less" [cx 102 0 0 0 0,oZ,oZ]),.row (rS "mark" [.fig 0]),
 .rounds 0 1 0 [rS "both" [oT,cx 98 0 0 1 0,cx 102 0 0 0 0],rS "sum" [cx 100 0 0 1 0,cx 100 0 0 1 0,oT]],.row (rS "sum" [cx 100 0 0 0 1,cx 100 0 0 0 1,oZ]),.row (rS "bare" [cx 102 0 0 0 0,cx 102 0 0 0 0]),.row (rS "ask" [cx 102 0 0 0 0]),.rounds 0 1 0 [rS "twice" [cx 99 0 0 1 0,cx 99 0 0 1 0]]]
def nT:List T1:=[.row (rS "set" [oS,.fig 0]),.rounds 0 1 0 [.row (rS "any" [oS,oS,cx 98 0 1 0 0])],.row (rS "ask" [oS]),.row (rS "set" [oM 0,.fig 1]),.row (rS "less" [oM 0,oM 0,oZ])]
def ydv:List T1:=[.rounds 0 1 0 [.row (rS "move" [cx 101 0 1 0 0,cx 97 0 1 0 0])],.rounds 0 0 1 dvT]++(nT++ybi 0 1)
theorem zlH(w n:Nat):cnt 0 0 1 w n=w*n:=by
 unfold cnt;rw[show (0:Int)+0*n+1*w*n=((w*n:Nat):Int)by simp];rfl
theorem zhd(w:Int)(n:Nat):cnt 1 1 0 w n=n+1:=by simp[cnt];lia
theorem zpZ(w:Int)(n I:Nat):yaj w n I dvT=(yaF 98 99 100 n).map yV:=by
 have tw:∀c:Nat,T2.rows w n I (.rounds 0 1 0 [rS "twice" [cx c 0 0 1 0,cx c 0 0 1 0]])=(twR c n).map yV:=λc=>by
  rw[T2.rows,zaU];exact zau (λJ=>by simp[Rs.pv,rS,Op.pv,cx,Cx.at,yV,yG]) n
 have t1:T2.rows w n I (.rounds 1 1 0 [rS "twice" [cx 100 0 0 1 0,cx 100 0 0 1 0]])=(twR 100 (n+1)).map yV:=by
  rw[T2.rows,zhd];exact zau (λJ=>by simp[Rs.pv,rS,Op.pv,cx,Cx.at,yV,yG]) (n+1)
 have ls:T2.rows w n I (.rounds 0 1 0 [rS "less" [cx 100 0 0 1 0,cx 100 0 0 1 0,cx 98 0 0 1 0]])=(lsR 100 98 n).map yV:=by
  rw[T2.rows,zaU];exact zau (λJ=>by simp[Rs.pv,rS,Op.pv,cx,Cx.at,yV,yG]) n
 have ad:T2.rows w n I (.rounds 0 1 0 [rS "both" [oT,cx 98 0 0 1 0,cx 102 0 0 0 0],rS "sum" [cx 100 0 0 1 0,cx 100 0 0 1 0,oT]])=(adR 100 98 n).map yV:=by
  rw[T2.rows,zaU];exact zau (λJ=>by simp[Rs.pv,rS,Op.pv,oT,cx,Cx.at,yV,yG]) n
 erw[yaj,dvT,BQ,B7,tw,t1,ls,ad,yaF,AL,BS,Aw];simp[T2.rows,Rs.pv,rS,Op.pv,oZ,cx,Cx.at,yV,yG]
theorem yfU(w:Int)(n:Nat):yM w n nT=(nR n).map yV:=by
 have h:=zau (g:=λI=>yaj w n I [.row (rS "any" [oS,oS,cx 98 0 1 0 0])]) (f:=λi=>[Rw.any cS cS (98,i)]) (λI=>by simp[yaj,T2.rows,Rs.pv,rS,Op.pv,oS,cx,Cx.at,yV,yG]) n;erw[yM,nT,BQ,B7,T1.rows,zaU,h,nR,BS,AL,Ad];simp[Rs.pv,rS,Op.pv,oZ,oS,oM,cx,Cx.at,yV,yG]
theorem zo6(w n:Nat):yM w n ydv=(yag w n).map yV:=by
 have h:=zbo (g:=λI=>yaj w n I [.row (rS "move" [cx 101 0 1 0 0,cx 97 0 1 0 0])]) (f:=λi=>.move (101,i) (97,i)) (λI=>by simp[yaj,T2.rows,Rs.pv,rS,Op.pv,cx,Cx.at,yV,yG]) n;have g:=zau (g:=λI=>yaj w n I dvT) (λI=>zpZ w n I) (w*n);rw[ydv,zaL,zaL,yfU,ziM];erw[yM,BQ,B7,T1.rows,zaU,zlH,h,g,Aw,yag,mvR,yd6,BS,BP]
def tgN(d:Nat)(j:Int):Rw->Prop
 |.mark _ | .ask _=>True
 |.set t _ | .move t _ | .bare t _ | .twice t _ | .half t _ | .sum t _ _ | .less t _ _ | .both t _ _ | .any t _ _ | .odd t _ _=>t≠(d,j)
 |.times a b _ _=>a≠(d,j)/\b≠(d,j)
theorem zhj{M:Mem}{t:Cel}{v:Int}{d:Nat}{j:Int}(h:t≠(d,j)):wr M t v d j=M d j:=by
 let⟨a,b⟩:=t;erw[wr,upd];rw[if_neg]
 rintro⟨rfl,rfl⟩
 exact h rfl
theorem zfu(W:Int){d:Nat}{j:Int}:∀(rs:List Rw) (M:Mem) (k:Int),(∀r∈rs,tgN d j r)->(yw W rs M k).1 d j=M d j
 |[],_,_,_=>rfl
 |r::rs,M,k,h=>by
  rw[zz,zfu W rs _ _ λq hq=>h q (AR _ hq)];have hr:=h r An
  cases r<;>first|rfl|exact zhj hr|exact(zhj hr.2).trans (zhj hr.1)
theorem zit{W:Int}(M:Mem)(k:Int):∀n:Nat,∃M',yw W (mvR n) M k=(M',k)/\(∀d j,d≠101->M' d j=M d j)/\∀i:Nat,i<n->M' 101 i=M 97 i
 |0=>⟨M,rfl,λ_ _ _=>rfl,λi hi=>by lia⟩
 |n+1=>by
  let⟨M1,e1,h1,h2⟩:=zit (W:=W) M k n;refine⟨upd M1 101 n (M 97 n),?_,λd j hd=>?_,λi hi=>?_⟩
  .rw[mvR,yC,zl];show yw W _ (yw W (mvR n) M k).1 (yw W (mvR n) M k).2=_;rw[e1];erw[yw,stepM,rd,wr,h1 97 n (by decide)]
  .unfold upd;rw[if_neg (by lia),h1 d j (by lia)]
  .unfold upd
   by_cases hin:i=n
   .subst hin;rw[if_pos ⟨rfl,rfl⟩]
   .rw[if_neg (by lia)];exact h2 i (by lia)
theorem zpQ{n:Nat}{d:Nat}{j:Int}(h1:d≠115)(h2:d≠109 \/ j≠0):∀r∈nR n,tgN d j r:=by
 intro r hr;erw[nR,Au,AN,A4,or_false]at hr;rcases hr with (rfl|hr)|rfl|rfl|rfl
 case inl.inr=>
  let⟨i,hi,hr⟩:=zaq hr;erw[AN,A4,or_false]at hr;subst hr;erw[tgN,cS,ne_eq,Dq];lia
 all_goals erw[tgN,cS,ne_eq,Dq];try lia
theorem zos{n:Nat}{d:Nat}{j:Int}(h1:d≠115)(h2:d≠109)(h3:d≠116):∀r∈yE n,tgN d j r:=by
 intro r hr;erw[yE,Au,AN,A4,or_false]at hr;rcases hr with (rfl|hr)|rfl|rfl|rfl|rfl|rfl
 case inl.inr=>let⟨i,hi,rfl⟩:=zav hr;erw[tgN,cS,ne_eq,Dq];lia
 all_goals erw[tgN,cS,cT,ne_eq,Dq];try lia
theorem ygG:Lt 98 99 100:=⟨by decide,by decide,by decide,by decide,by decide,by decide⟩
theorem zif{w:Nat}(hw:1<w){n:Nat}{x y:Int}(x0:0<=x)(x1:x<(2^w:Int)^(n+1))(y0:0<y)(y1:y<(2^w:Int)^(n+1)):
  yo (2^w) (yw (2^w) (yag w (n+1)) (yad (2^w) (n+1) x y) 0).1 99 (n+1)=x/y/\yo (2^w) (yw (2^w) (yag w (n+1)) (yad (2^w) (n+1) x y) 0).1 100 (n+1)=x%y /\
  (yw (2^w) (yag w (n+1)) (yad (2^w) (n+1) x y) 0).1 109 0=0/\(yw (2^w) (yag w (n+1)) (yad (2^w) (n+1) x y) 0).1 109 1=0 /\
  (yw (2^w) (yag w (n+1)) (yad (2^w) (n+1) x y) 0).1 109 2=bi (x/y==0)/\(yw (2^w) (yag w (n+1)) (yad (2^w) (n+1) x y) 0).1 109 3=bi (decide ((2^w:Int)^(n+1)<=2*(x/y))):=by
 have hW:(0:Int)<2^w:=Ab (by lia);have hb0:∀d j,d≠97->d≠98->yad (2^w) (n+1) x y d j=0:=λd j h1 h2=>zgu _ _ _ h1 h2 _;have da:=zir (n+1) x y hW;have db:=zg0 (n+1) x y hW;have va:=zeV (n+1) x y hW x0 x1;have vb:=zeW (n+1) x y hW (by lia) y1;rw[yag];generalize yad (2^w) (n+1) x y=A at *;let⟨M1,e1,o1,v1⟩:=zit (W:=2^w) A 0 (n+1);have z0:∀(d m:Nat),d≠97->d≠98->d≠101->yo (2^w) M1 d m=0/\Dg (2^w) M1 d m:=λd m h1 h2 h3=>by
  have hz:∀i:Nat,M1 d i=0:=λi=>by rw[o1 d i h3,hb0 d i h1 h2]
  have hd:Dg (2^w) M1 d m:=λi _=>by rw[hz];lia
  exact⟨(zaH hW m hd).2 λi _=>hz i,hd⟩
 have D0:Dv w (n+1) 98 99 100 A M1 x y 0:={
  de:=λi hi=>by rw[v1 i hi];exact da i hi
  dr:=(z0 100 _ (by decide) (by decide) (by decide)).2
  dq:=(z0 99 _ (by decide) (by decide) (by decide)).2
  keep:=λd j h1 _ _ _ _=>o1 d j h1
  rest:=by rw[(z0 100 _ (by decide) (by decide) (by decide)).1];exact y0
  sent:=by
   rw[(z0 100 _ (by decide) (by decide) (by decide)).1,(z0 99 _ (by decide) (by decide) (by decide)).1,zd (M':=A) (c':=97) (n+1) v1,va];simp}
 let⟨M2,k2,e2,D2⟩:=zdL hw ygG (k:=0) (hb0 122 0 (by decide) (by decide)) db vb x1 D0 (w*(n+1)) (AS _);let⟨q1,q2,q3⟩:=zkd hw x0 D2 (by lia);rw[zl,zl,zl,e1];simp only;rw[yd6,e2];simp only;have kz:M2 122 0=0:=by rw[D2.keep 122 0 (by decide) (by decide) (by decide) (by decide) (by decide),hb0 122 0 (by decide) (by decide)]
 have kb:∀j,M2 98 j=A 98 j:=λj=>D2.keep 98 j (by decide) (by decide) (by decide) (by decide) (by decide);have nn:=zoI hw (n+1) M2 k2 kz (λi hi=>by rw[kb];exact(db i hi).1);have hnz:¬ ∀i:Nat,i<n+1->M2 98 i=0:=λz=>by
  have:yo (2^w) A 98 (n+1)=0:=(zaH hW (n+1) db).2 λi hi=>by rw[<-kb];exact z i hi
  lia
 have n0:=nn.2 hnz;have no:∀d j,d≠115->(d≠109 \/ j≠0)->(yw (2^w) (nR (n+1)) M2 k2).1 d j=M2 d j:=λd j h1 h2=>zfu _ _ _ _ (zpQ h1 h2);generalize yw (2^w) (nR (n+1)) M2 k2=R at *;let⟨M3,k3⟩:=R;simp only at *;have dc:Dg (2^w) M3 99 (n+1):=λi hi=>by rw[no 99 i (by decide) (.inl (by decide))];exact D2.dq i hi
 have vc:yo (2^w) M3 99 (n+1)=x/y:=by rw[<-q1];exact zd _ λi _=>no 99 i (by decide) (.inl (by decide))
 let⟨f1,f2,f3,f4,f5⟩:=zcz hw M3 k3 dc (by rw[no 122 0 (by decide) (.inl (by decide)),kz]);have f6:∀j,(yw (2^w) (yE (n+1)) M3 k3).1 100 j=M3 100 j:=λj=>zfu _ _ _ _ (zos (by decide) (by decide) (by decide));rw[vc]at f4 f5;refine⟨?_,?_,?_,?_,f4,f5⟩
 .rw[<-vc];exact zd _ λi _=>f1 i
 .rw[<-q2];exact zd _ λi _=>by rw[f6,no 100 i (by decide) (.inl (by decide))]
 .rw[f2,n0]
 .rw[f3,no 109 1 (by decide) (.inr (by decide)),D2.keep 109 1 (by decide) (by decide) (by decide) (by decide) (by decide),hb0 109 1 (by decide) (by decide)]
theorem zfK{n:Nat}(hn:1<=n)(hn2:n<=4):∀r∈yaC n,yaE r:=by
 intro r hr;let⟨I,hI,hr⟩:=zaq hr;erw[yaI,AN,Au,A4,or_false]at hr;rcases hr with rfl|rfl|hr|rfl
 .simp[yaE]
 .simp only[yaE,yU];lia
 .let⟨J,hJ,hr⟩:=zaq hr;erw[inR,AN,A4,or_false]at hr;have hc:yN .ne (yG cL) (yG cHi)=AA (.bl AC):=by ac_rfl
  rcases hr with rfl|rfl|rfl|rfl|rfl<;>erw[yaE,yU,hc,and_true]<;>lia
 .simp only[yaE,yU];lia
theorem zdX{n:Nat}(hn:1<=n)(hn2:n<=4):∀r∈yF n,yaE r:=by
 intro r hr;erw[yF,Au]at hr;rcases hr with hr|hr|hr
 .exact zfK hn hn2 r hr
 .simp only[yap,AN,Au,A4,or_false]at hr;rcases hr with rfl|hr|rfl|rfl
  .simp only[yaE,yU];lia
  .let⟨i,hi,rfl⟩:=zav hr;erw[yaE,yU];lia
  all_goals erw[yaE,yU];lia
 .exact zf1 (by lia) (by lia) r hr
theorem yck{w n:Nat}(hw:w<=16)(hn:1<=n)(hn2:n<=4):ycp (yd T 20 zw [.tp AB [.str "product"]] []=.ok (.bl AC) []) AB (.tp AB [.str "product"]) w n (2*n) (yF n):=by
 have hm:n*(1+n)<=4*5:=Ag hn2 (by lia);have hm2:n*n<=4*4:=Ag hn2 hn2;refine ybJ (ps:=ybn) (by decide +kernel) hw hn2 (zlM w n) (zdX hn hn2) (zde hn2) (by rw[zkn];lia) ?_ (by ac_rfl) (aw (pb:=AC) rfl (λ_=>rfl) (by ac_rfl) (by ac_rfl) (by ac_rfl));simp[ybn,ybt,yaR,ak1,ybi,T1.ak,zaU,ak2,T2.ak,cnt,Gk];lia
def ybm(nm:String):T1:=.rounds 0 1 0 [.row (rS nm [cx 99 0 1 0 0,cx 97 0 1 0 0,cx 98 0 1 0 0])]
def lC(c:Nat):Op:=cx c (-1) 0 0 1
def yde:List T1:=[.row (rS "mark" [.fig 0]),ybm "sum",ybq,.row (rS "odd" [oT,lC 99,lC 97]),.row (rS "odd" [oS,lC 99,lC 98]),.row (rS "both" [oT,oT,oS]),.row (rS "twice" [oT,oT]),.row (rS "sum" [oM 1,oZ,oZ])]++ybi 0 1
theorem zhv(w:Int)(n:Nat){nm:String}{f:Cel->Cel->Cel->Rw}(h:∀a b c,yV (f a b c)=.tp AB [.str (AG nm),yG a,yG b,yG c]):T1.rows w n (ybm nm)=(yI n f).map yV:=by
 unfold ybm yI;rw[T1.rows,zaU];exact zbo (λI=>by simp[yaj,T2.rows,Rs.pv,rS,Op.pv,cx,Cx.at,h,yG]) n
theorem zmZ(w:Int)(n:Nat):yM w n yde=(yah n).map yV:=by
 have hl:∀c:Nat,(lC c).pv 0 0 n=yG (c,(n:Int)-1):=λc=>by
  have:(-1:Int)+0*0+0*0+1*(n:Int)=(n:Int)-1:=by lia
  erw[lC,Op.pv,cx,Cx.at,this,yG]
 rw[yde,zaL,ziM];erw[yM,BQ,B7,Aw,zhv w n (nm:="sum") (f:=.sum) (λ_ _ _=>rfl),zgZ,yah,yP,BS,AL,Ad,BP];erw[T1.rows,Rs.pv,rS,AL,Ad,hl];simp[Op.pv,oM,oZ,oT,oS,cx,Cx.at,yV,yG]
theorem zh8{n:Nat}(hn:n<=8){f:Cel->Cel->Cel->Rw}(hf:∀a b c,yU a->yU b->yU c->yaE (f a b c)):∀r∈yI n f,yaE r:=by
 intro r hr;let⟨i,hi,rfl⟩:=zav hr;refine hf _ _ _ ?_ ?_ ?_<;>erw[yU]<;>lia
theorem zkw{n:Nat}(hn:1<=n)(hn2:n<=4):∀r∈yah n,yaE r:=by
 intro r hr;erw[yah,yP,Au,AN,A4,or_false]at hr;rcases hr with (((h|h)|h)|(h|h|h|h|h))|h
 any_goals (subst h;erw[yaE,yU];lia)
 .exact zh8 (f:=.sum) (by lia) (λ_ _ _ a b c=>⟨a,b,c⟩) r h
 .exact zf1 hn (by lia) r h
theorem zhT{n:Nat}(hn2:n<=4):(yah n).length<=4000:=by simp[yah,yI,yP,yE,zaV];lia
theorem ycY{w n:Nat}(hw:w<=16)(hn:1<=n)(hn2:n<=4):ycp (yd T 20 zw [.tp AB [.str "sum"]] []=.ok (.bl AC) []) AB (.tp AB [.str "sum"]) w n n (yah n):=by
 refine ybJ (ps:=yde) (by decide +kernel) hw hn2 (zmZ w n) (zkw hn hn2) (zhT hn2) ?_ ?_ (by ac_rfl) (aw (pb:=AB) rfl (λ_=>rfl) (by ac_rfl) (by ac_rfl) (by ac_rfl))
 .simp[yde,yaM,ybm,ybq,ybi,T1.rnd,zaU,ybs,T2.rnd];lia
 .simp[yde,ak1,ybm,ybq,ybi,T1.ak,zaU,ak2,T2.ak];lia
def ycd:List T1:=[.row (rS "mark" [.fig 0]),ybm "less",ybq,.row (rS "odd" [oT,lC 97,lC 98]),.row (rS "odd" [oS,lC 97,lC 99]),.row (rS "both" [oT,oT,oS]),.row (rS "twice" [oT,oT]),.row (rS "sum" [oM 1,oZ,oZ])]++(ybi 0 1++[.row (rS "odd" [oM 1,oM 1,oM 3]),.row (rS "set" [oM 3,.fig 0])])
theorem zln(w:Int)(n:Nat):yM w n ycd=(yac n).map yV:=by
 have hl:∀c:Nat,(lC c).pv 0 0 n=yG (c,(n:Int)-1):=λc=>by
  have:(-1:Int)+0*0+0*0+1*(n:Int)=(n:Int)-1:=by lia
  erw[lC,Op.pv,cx,Cx.at,this,yG]
 rw[ycd,zaL,zaL,ziM];erw[yM,BQ,B7,Aw,zhv w n (nm:="less") (f:=.less) (λ_ _ _=>rfl),zgZ,yac,yab,yP,BS,AL,Ad,BP];erw[T1.rows,Rs.pv,rS,AL,Ad,hl];simp[Op.pv,oM,oZ,oT,oS,cx,Cx.at,yV,yG]
theorem zhH{n:Nat}(hn:1<=n)(hn2:n<=4):∀r∈yac n,yaE r:=by
 intro r hr;erw[yac,yab,yP,Au,AN,A4,or_false]at hr;rcases hr with ((((h|h)|h)|(h|h|h|h|h))|h)|h|h
 any_goals (subst h;erw[yaE,yU];lia)
 .exact zh8 (f:=.less) (by lia) (λ_ _ _ a b c=>⟨a,b,c⟩) r h
 .exact zf1 hn (by lia) r h
theorem zgi{n:Nat}(hn2:n<=4):(yac n).length<=4000:=by simp[yac,yab,yI,yP,yE,zaV];lia
theorem ycr{w n:Nat}(hw:w<=16)(hn:1<=n)(hn2:n<=4):ycp (yd T 20 zw [.tp AB [.str "compare"]] []=.ok (.bl AC) []) AB (.tp AB [.str "compare"]) w n 0 (yac n):=by
 refine ybJ (ps:=ycd) (by decide +kernel) hw hn2 (zln w n) (zhH hn hn2) (zgi hn2) ?_ ?_ (by ac_rfl) ?_
 .simp[ycd,yaM,ybm,ybq,ybi,T1.rnd,zaU,ybs,T2.rnd];lia
 .simp[ycd,ak1,ybm,ybq,ybi,T1.ak,zaU,ak2,T2.ak];lia
 .have hT1:T zD=AA zC:=rfl;have q1:yN .eq (.str "compare") (.str "compare")=AA (.bl AC):=by ac_rfl
  have i0:∀st,idxV st (.tp AB [.str "compare"]) (.int 0)=AA (.str "compare"):=λ_=>rfl;rw[show (20:Nat)=19+1 from rfl,zc hT1 rfl rfl rfl];simp! [zC,i0,q1];rfl
theorem zml(n:Nat):(yaF 98 99 100 n).length=6*n+8:=by
 simp[yaF,twR,lsR,adR,zag (f:=λJ=>[Rw.twice (101,(J:Int)) (101,(J:Int))]) (c:=1) (λ_=>rfl),zag (f:=λJ=>[Rw.twice (100,(J:Int)) (100,(J:Int))]) (c:=1) (λ_=>rfl),zag (f:=λJ=>[Rw.twice (99,(J:Int)) (99,(J:Int))]) (c:=1) (λ_=>rfl),zag (f:=λJ=>[Rw.less (100,(J:Int)) (100,(J:Int)) (98,(J:Int))]) (c:=1) (λ_=>rfl),zag (f:=λJ=>[Rw.both cT (98,(J:Int)) cF,Rw.sum (100,(J:Int)) (100,(J:Int)) cT]) (c:=2) (λ_=>rfl)];lia
theorem zg9{w n:Nat}(hw:w<=16)(hn2:n<=4):(yag w n).length<=4000:=by
 have h:w*n*(6*n+8)<=64*32:=Ag (Ag hw hn2) (by lia);simp[yag,mvR,yd6,nR,yE,zaV,zag (λ_=>zml n),zag (f:=λi=>[Rw.any cS cS (98,(i:Int))]) (c:=1) (λ_=>rfl)];lia
theorem zlE{c n:Nat}(hc:97<=c/\c<=122)(hn:n<=8):∀r∈twR c n,yaE r:=by
 intro r hr;let⟨i,hi,hr⟩:=zaq hr;erw[AN,A4,or_false]at hr;subst hr;erw[yaE,yU];lia
theorem zn9{n:Nat}(hn2:n<=4):∀r∈yaF 98 99 100 n,yaE r:=by
 intro r hr;erw[yaF,Au,AN]at hr;rcases hr with h|hr|hr|hr|h|h|h|hr|h|h|h|hr
 any_goals (subst h;erw[yaE,yU];lia)
 .exact zlE (by lia) (by lia) r hr
 .exact zlE (by lia) (by lia) r hr
 .let⟨i,hi,hr⟩:=zaq hr;erw[AN,A4,or_false]at hr;subst hr;erw[yaE,yU];lia
 .let⟨i,hi,hr⟩:=zaq hr;erw[AN,A4,or_false]at hr;rcases hr with rfl|rfl<;>erw[yaE,yU]<;>lia
 .exact zlE (by lia) (by lia) r hr
theorem zkS{w n:Nat}(hn:1<=n)(hn2:n<=4):∀r∈yag w n,yaE r:=by
 intro r hr;erw[yag,nR,Au,AN,A4,or_false]at hr;rcases hr with ((hr|hr)|((h|hr)|h|h|h))|hr
 any_goals (subst h;erw[yaE,yU];lia)
 .let⟨i,hi,rfl⟩:=zav hr;erw[yaE,yU];lia
 .let⟨i,hi,hr⟩:=zaq hr;exact zn9 hn2 r hr
 .let⟨i,hi,hr⟩:=zaq hr;erw[AN,A4,or_false]at hr;subst hr;erw[yaE,yU];lia
 .exact zf1 hn (by lia) r hr
theorem ycT{w n:Nat}(hw:w<=16)(hn:1<=n)(hn2:n<=4):ycp (yd T 20 zw [.tp AB [.str "quotient"]] []=.ok (.bl AC) []) AC (.tp AB [.str "quotient"]) w n n (yag w n):=by
 have h0:w*n<=64:=Ag hw hn2;have h1:w*n*n<=64*4:=Ag h0 hn2;refine ybJ (ps:=ydv) (by decide +kernel) hw hn2 (zo6 w n) (zkS hn hn2) (zg9 hw hn2) ?_ ?_ (by ac_rfl) (aw (pb:=AB) rfl (λ_=>rfl) (by ac_rfl) (by ac_rfl) (by ac_rfl))
 .simp[ydv,dvT,nT,yaM,ybi,T1.rnd,zaU,zlH,zhd,ybs,T2.rnd,Gk];lia
 .simp[ydv,dvT,nT,ak1,ybi,T1.ak,zaU,zlH,zhd,ak2,T2.ak,Gk];lia
noncomputable def dv(W:Int):List Int->Int
 |[]=>0
 |d::ds=>d+W*dv W ds
def inW(W:Int)(ds:List Int):Prop:=∀d∈ds,0<=d/\d<W
theorem zkp{c:Cl}{N acc lo:Int}{st:SO}:exs c [AA (.int N),AA (.int acc),AA (.int lo)] st (.cons (.asg (.n 1) (.bin .mul (.cst (.int 2)) (.var 1))) .nil)=.nx [AA (.int N),AA (.int (2*acc)),AA (.int lo)] st:=by
 erw[xs_nil,xs_cons,x_asg,yaK,nxO,IC.ve1,IC.ve2,IC.ve3,R.bind,R.fl,yR,yJ,binI,yaH,toR,BH,BI,Ak,Ac];simp
theorem zf7(k n:Nat)(hn:n<1000)(st:SO):yd T (k+1) zcS [.int n] st=.ok (.int (2^n)) st:=by
 let⟨ρ',st',h,u,e1,e2⟩:=zef (call:=yd T k) (t:=.n 2) (b:=.cons (.asg (.n 1) (.bin .mul (.cst (.int 2)) (.var 1))) .nil) (λi ρ st=>∃u,ρ=[AA (.int n),AA (.int (2^i)),u]/\st=[]) (yx n 0 1) 0 [AA (.int n),AA (.int 1),AD] [] ⟨_,rfl,rfl⟩ (by
  rintro j x ρ st hx ⟨u,rfl,rfl⟩
  have hx:∃i,x=.int i:=by
   have:∀(n:Nat) (a d:Int) (j:Nat) x,(yx n a d)[j]?=AA x->∃i,x=.int i:=by
    intro n
    induction n with
    |zero=>intro a d j x h;simp[yx]at h
    |succ n ih=>
     intro a d j x h
     cases j with
     |zero=>simp[yx]at h;exact⟨a,h.symm⟩
     |succ j=>simp[yx]at h;exact ih _ _ _ _ h
   exact this _ _ _ _ _ hx
  let⟨i,rfl⟩:=hx;exact⟨_,_,_,rfl,zkp,_,by rw[Am,Ae],rfl⟩)
 have hl:(yx n 0 1).length=n:=by
  have:∀(n:Nat) (a d:Int),(yx n a d).length=n:=by
   intro n
   induction n with
   |zero=>intro a d;rfl
   |succ n ih=>intro a d;simp[yx,ih]
  exact this _ _ _
 rw[hl,Bt]at e1;subst e1 e2;rw[yd,show T zcS=AA zbP from rfl];erw[zbP,AZ,Bq,if_true,nLs,nL,Dp,AL,Ad,Ci,AV,Az,BV,xs_cons,xs_nil,x_asg,x_for,x_ret,yaK,nxO,IC.ve1,IC.ve2,R.fl,yR,BH,BI,evi,R.bind,Ak,yb3,toL];erw[show (n:Int).natAbs<1000000000 by lia,if_true,CB,h];simp[nL]
noncomputable def yb4(W:Int)(M:Mem)(c:Nat):Nat->Nat->Int
 |_,0=>0
 |a,n+1=>yb4 W M c (a+1) n*W+M c a
theorem zf2(W:Int)(M:Mem)(c:Nat):∀(n a:Nat),yb4 W M c a (n+1)=yb4 W M c a n+M c ((a+n:Nat):Int)*W^n
 |0,a=>by simp[yb4]
 |n+1,a=>by
  have h:=zf2 W M c n (a+1);rw[yb4,h,yb4,show a+1+n=a+(n+1)by lia,Am,BN,Ap];lia
theorem zkM(W:Int)(M:Mem)(c:Nat):∀n,yb4 W M c 0 n=yo W M c n
 |0=>rfl
 |n+1=>by rw[zf2,zkM W M c n,yo,Bt]
theorem zhN{W:Int}(hW:0<W){M:Mem}(h:yea W M)(c:Nat):∀n a,yh W n (yb4 W M c a n)=getM M c a n
 |0,a=>rfl
 |n+1,a=>by
  let⟨h0,h1⟩:=h c a;have e1:(yb4 W M c (a+1) n*W+M c a)%W=M c a:=by
   rw[Cv,CL];exact A1 h0 h1
  have e2:(yb4 W M c (a+1) n*W+M c a)/W=yb4 W M c (a+1) n:=by
   rw[Cv,FL _ _ (by lia),BB h0 h1,GW]
  rw[yb4,yh,e1,e2,zhN hW h c n (a+1),getM]
theorem ziO{W:Int}(hW:0<W){M:Mem}(h:yea W M)(c n:Nat){v:Int}(hv:yo W M c n=v):getM M c 0 n=yh W n v:=by
 rw[<-zhN hW h c n 0,zkM,hv]
theorem zp8{i:Int}{j:Nat}(h:i.natAbs<18446744073709551616)(hj:j<=1000000):yJ .shl (.int i) (.int j)=AA (.int (i*2^j)):=by
 simp[yJ,binI,h];lia
theorem zp3{w:Nat}(hw:w<=16):(2:Int)^w<=65536:=by
 have h:(2:Nat)^w<=2^16:=A6 (by lia) hw;have h2:((2^w:Nat):Int)=2^w:=by simp
 lia
theorem zeG{w:Nat}:∀(ds:List Int) (k:Nat),ycB (((yL k (ds.map .int))).map λp=>match p with
  |.tp _ [.int i,.int d]=>.int (d*2^(w*i.toNat))
  |_=>.non)=AA ((2^w)^k*dv (2^w) ds)
 |[],k=>by simp[yL,ycB,dv]
 |d::ds,k=>by
  have ih:=zeG (w:=w) ds (k+1);erw[AL,yL,ycB];erw[CB];rw[ih];erw[dv]
  congr 1
  rw[Am,CZ,Ca,Ae d,Ap]
theorem zjb(k:Nat)(ds:List Int)(w:Nat)(hw:w<=16)(h:inW (2^w) ds)(hl:ds.length<=8)(st:SO):yd T (k+1) zel [.tup (ds.map .int),.int w] st=.ok (.int (dv (2^w) ds)) st:=by
 have hT:T zel=AA zeb:=rfl;have hW:=zp3 hw
 have hc:yar (yd T k) [AD,AD,AA (.int w)] (.t [0,1]) (.cst (.bl AC)) (.bin .shl (.var 1) (.bin .mul (.var 2) (.var 0))) (yL 0 (ds.map .int)) []=.ok (((yL 0 (ds.map .int))).map λp=>match p with
  |.tp _ [.int i,.int d]=>.int (d*2^(w*i.toNat))
  |_=>.non) []:=by
  refine zaN _ λp hp=>?_;have hx:∀(ds:List Int) (j:Nat),inW (2^w) ds->j+ds.length<=8->∀p∈yL j (ds.map .int),∃(i:Nat) (d:Int),p=.tup [.int i,.int d]/\0<=d/\d<2^w/\i<=8:=by
   intro ds
   induction ds with
   |nil=>intro j _ _ p hp;simp[yL]at hp
   |cons d ds ih=>
    intro j hd hj p hp;erw[AL,yL,AN]at hp;rcases hp with rfl|hp
    .have:=hd d An;erw[AZ]at hj;exact⟨j,d,rfl,this.1,this.2,by lia⟩
    .exact ih (j+1) (λx hx=>hd x (AR _ hx)) (by erw[AZ]at hj;lia) p hp
  let⟨i,d,rfl,d0,d1,hi⟩:=hx ds 0 h (by lia) p hp;have hwa:(w:Int).natAbs<18446744073709551616:=by lia
  have hm:(w:Int)*(i:Int)=((w*i:Nat):Int):=by simp
  have hwi:w*i<=16*8:=Ag hw hi;have hbt:yR (.t [0,1]) (.tup [.int i,.int d]) [AD,AD,AA (.int w)]=AA [AA (.int i),AA (.int d),AA (.int w)]:=rfl;simp only[ybl,hbt,IC.ve1,IC.ve2,IC.ve3,Ak,Ac,bd_ok,t_bl,ono,cond_true,zaF hwa,hm,toR_some,zp8 (show d.natAbs<18446744073709551616 by lia) (show w*i<=1000000 by lia)];rfl
 have hs:=zeG (w:=w) ds 0;have hlr:∀ys:List PV,ys.length<=1000000->∀st,ycf (.ok ys st)=.ok (.lst ys) st:=λys h st=>by simp[ycf,h]
 have hpl:(yL 0 (ds.map .int)).length=ds.length:=by
  have:∀(xs:List PV) (j:Nat),(yL j xs).length=xs.length:=by
   intro xs
   induction xs with
   |nil=>intro j;rfl
   |cons x xs ih=>intro j;simp[yL,ih]
  rw[this,Av]
 rw[yd,hT];erw[zeb,AZ,Bq,Bt,Dr,if_true,nLs,nL,noLocs_ints,Dp,AL,Ad,Ci,AV,Aw,xs_cons,xs_nil,x_ret,IC.ve19,evs,v_comp,evi,IC.ve2,Ak,Ac,bd_ok,fl_ok,PV.tup,Option.bind_none,BW,G7,hc];rw[hlr _ (by rw[Av,hpl];lia)];erw[bd_ok,yay,yam,BW,hs,DH,toR_some,fl_ok,th_rt,nL,if_true,D6,Bw]
theorem zf4{W:Int}(hW:0<W):∀(n:Nat) (x:Int),0<=x->x<W^n->dv W (yh W n x)=x
 |0,x,h0,h1=>by rw[D6]at h1;erw[yh,dv];lia
 |n+1,x,h0,h1=>by
  have q0:0<=x/W:=B5 h0 (by lia);have q1:x/W<W^n:=BZ hW (by rw[Am]at h1;exact h1);rw[yh,dv,zf4 hW n _ q0 q1];have:=BM x W;lia
theorem zcP:∀ds:List Int,ybp (ds.map .int) (ds.map .int)=AC
 |[]=>rfl
 |d::ds=>by simp[ybp,peq,zcP ds]
theorem zdn(n:Nat):∀ds:List Int,ybG n (ds.map .int)=AC
 |[]=>rfl
 |d::ds=>by simp[ybG,shd,zdn n ds]
theorem zij(ds:List Int):yN .ne (.tp AB (ds.map .int)) (.tp AB (ds.map .int))=AA (.bl AB):=by
 simp[yN,shd,zdn,peq,zcP]
theorem znN(st:SO)(xs:List PV):yay .all st [.lst (xs.map λ_=>.bl AC)]=AA (.bl AC):=by
 have h:∀xs:List PV,allB (xs.map λ_=>PV.bl AC)=AA true:=λxs=>by
  induction xs with
  |nil=>rfl
  |cons x xs ih=>simp[allB,ih]
 simp[yay,yam,h]
theorem number(k:Nat)(ws:List Int){w N:Nat}(hw:w<=16)(h:inW (2^w) ws)(hN:ws.length=N)(hN2:N<=8)(st:SO):yd T (k+3) zbX [.tp AB (ws.map .int),.int w,.int N] st=.ok (.bl AC) st:=by
 have hT:T zbX=AA zbJ:=rfl;have hnl:nLs [.tp AB (ws.map .int),.int w,.int N]=true:=by simp[nLs,nL,noLocs_ints]
 have ln:∀st,yay .len st [.tp AB (ws.map .int)]=AA (.int N):=λst=>by
  show AA (PV.int (((ws.map PV.int).length:Nat):Int))=_;rw[Av,hN]
 have hi:yaU (.tp AB (ws.map .int)) [.tuple]=AA (.bl AC):=rfl;have wh:∀(v:Int) st,yd T (k+2) zbr [.int v] st=.ok (.bl AC) st:=λv st=>by
  have hT:T zbr=AA zcG:=rfl;rw[zc hT rfl rfl rfl];ac_rfl
 have c1:yar (yd T (k+2)) [AD] (.n 0) (.cst (.bl AC)) (.call zbr (.cons (.var 0) .nil)) (ws.map .int) []=.ok ((ws.map PV.int).map λ_=>.bl AC) []:=by
  refine zaN _ λp hp=>?_;let⟨v,_,rfl⟩:=D3.1 hp;simp! [ybl,wh]
 have ht:=zf7 (k+1) w (by lia) [];have c2:yar (yd T (k+2)) [AD,AA (.int w)] (.n 0) (.cst (.bl AC)) (.chain .le .lt (.cst (.int 0)) (.var 0) (.call zcS (.cons (.var 1) .nil))) (ws.map .int) []=.ok ((ws.map PV.int).map λ_=>.bl AC) []:=by
  refine zaN _ λp hp=>?_;let⟨v,hv,rfl⟩:=D3.1 hp;have d1:decide (0<=v)=true:=decide_eq_true (h v hv).1;have d2:decide (v<2^w)=true:=decide_eq_true (h v hv).2;simp! [ybl,ht,d1,d2,blO]
 have lr:=λst=>zcc ((ws.map PV.int).map λ_=>PV.bl AC) (by simp[hN];lia) st;have al:=λst=>znN st (ws.map .int);rw[show k+3=k+2+1 by lia,zc hT rfl rfl hnl];generalize (ws.map PV.int).map (λ_=>PV.bl AC)=L at *;generalize ws.map PV.int=W at *;simp! [zbJ,hi,ln,c1,c2,lr,al,beq_self_eq_true];rfl
theorem zdw{W:Int}(hW:0<W)(n:Nat)(x:Int):inW W (yh W n x):=λv hv=>zbk hW n x v hv
theorem wholes(k:Nat)(ms:List Int)(hN:ms.length=4)(h:∀v∈ms,-1<=v/\v<=1)(st:SO):yd T (k+3) zcN [.tp AB (ms.map .int),.int 4,.int 1] st=.ok (.bl AC) st:=by
 have hT:T zcN=AA zb3:=rfl;have hnl:nLs [.tp AB (ms.map .int),.int 4,.int 1]=true:=by simp[nLs,nL,noLocs_ints]
 have ln:∀st,yay .len st [.tp AB (ms.map .int)]=AA (.int 4):=λst=>by
  show AA (PV.int (((ms.map PV.int).length:Nat):Int))=_;rw[Av,hN];rfl
 have hi:yaU (.tp AB (ms.map .int)) [.tuple]=AA (.bl AC):=rfl;have wh:∀(v:Int) st,yd T (k+2) zbr [.int v] st=.ok (.bl AC) st:=λv st=>by
  have hT:T zbr=AA zcG:=rfl;rw[zc hT rfl rfl rfl];ac_rfl
 have c2:yar (yd T (k+2)) [AD,AA (.int 1)] (.n 0) (.cst (.bl AC)) (.and (.call zbr (.cons (.var 0) .nil)) (.chain .le .le (.bin .sub (.cst (.int 0)) (.var 1)) (.var 0) (.var 1))) (ms.map .int) []=.ok ((ms.map PV.int).map λ_=>.bl AC) []:=by
  refine zaN _ λp hp=>?_;let⟨v,hv,rfl⟩:=D3.1 hp;have d1:decide (0-1<=v)=true:=decide_eq_true (by have:=(h v hv).1;lia);have d2:decide (v<=1)=true:=decide_eq_true (h v hv).2;simp! [ybl,wh,d1,d2,blO]
 have lr:=λst=>zcc ((ms.map PV.int).map λ_=>PV.bl AC) (by simp[hN]) st;have al:=λst=>znN st (ms.map .int);rw[show k+3=k+2+1 by lia,zc hT rfl rfl hnl];generalize (ms.map PV.int).map (λ_=>PV.bl AC)=L at *;generalize ms.map PV.int=W at *;simp! [zb3,hi,ln,c2,lr,al,beq_self_eq_true];rfl
theorem zfn{W:Int}(hW:0<W)(m:Nat):∀(n:Nat) (V:Int),yh W (n+m) V=yh W n V++yh W m (V/W^n)
 |0,V=>by rw[Bt,D6,GH];rfl
 |n+1,V=>by
  rw[show n+1+m=(n+m)+1 by lia,yh,zfn hW m n,yh,Az,Am,Ae,DP (by lia)]
theorem parts(k:Nat){pr:Prop}{qb:Bool}{deed:PV}{w n na:Nat}{rs:List Rw}(D:ycp pr qb deed w n na rs)(ok:∀r∈rs,yaE r)(hw:w<=16)(hw1:1<=w)(hn:n<=4)(hna:na<=8)(hrs:rs.length<=4000){x y V R:Int}{ms:List Int}(x0:0<=x)(x1:x<2^(w*n))(y0:0<=y)(y1:y<2^(w*n))(hp:pr)(hq:y=0->qb=AB)
  (hv:yo (2^w) (yw (2^w) rs (yad (2^w) n x y) 0).1 99 na=V) (hr:yo (2^w) (yw (2^w) rs (yad (2^w) n x y) 0).1 100 (if qb=AC then n else 0)=R) (hm:getM (yw (2^w) rs (yad (2^w) n x y) 0).1 109 0 4=ms) (hms:∀v∈ms,-1<=v/\v<=1) (st:SO):
  yd T (23+k) zbp [deed,.int w,.int n,.int x,.int y] st=.ok (.tp AB [.tp AB ((yh (2^w) na V).map .int),.tp AB ((yh (2^w) (if qb=AC then n else 0) R).map .int),.tp AB (ms.map .int)]) st:=by
 have hW:(0:Int)<2^w:=Ab (by lia);have rd:=λr hr=>zoc r (ok r hr);have e:=ran k D hw hw1 hn hna (by lia) x0 x1 y0 y1 (λ_=>hp) hq (zgo hw1 hw _ _ _ rd (zet hw1 n x y)) [];have al:yea (2^w) _:=(zeo hw1 rs (zet hw1 n x y) rd).1;have hl:ms.length=4:=by rw[<-hm];rfl
 rw[ziO hW al 99 na hv,ziO hW al 100 _ hr,hm]at e;have wh:∀s,yd T (22+k) zcN [.tp AB (ms.map .int),.int 4,.int 1] s=.ok (.bl AC) s:=λs=>by rw[show 22+k=19+k+3 by lia];exact wholes (19+k) ms hl hms s
 have hT:T zbp=AA zcE:=rfl;have hnl:nLs [deed,.int w,.int n,.int x,.int y]=true:=by simp[nLs,D.nl,nL]
 have ln:∀(st:SO) (a b c:PV),yay .len st [.tp AB [a,b,c]]=AA (.int 3):=λ_ _ _ _=>rfl;have hi:∀(a:List PV),yaU (.tp AB a) [.tuple]=AA (.bl AC):=λ_=>rfl;have i2:∀(st:SO) (a b c:PV),idxV st (.tp AB [a,b,c]) (.int 2)=AA c:=λ_ _ _ _=>rfl;rw[show 23+k=22+k+1 by lia,zc hT rfl rfl hnl];generalize yh (2^w) na V=ws at *;generalize yh (2^w) (if qb=AC then n else 0) R=us at *;simp! [zcE,e,ln,hi,i2,wh,beq_self_eq_true];simp[ybB,nL,nLs,noLocs_ints]
theorem zdP{call:Cl}{W:Int}(hW:0<W)(hW2:W<18446744073709551616){p1 p2:Option PV}:∀(n:Nat) (a x:Int) (acc:List PV) (u:Option PV),acc.length+n<1000000 ->
  ∃x' u',ybb call (.n 5) (.cons (.expr (.mth .append (.var 4) (.cons (.bin .mod (.var 0) (.var 3)) .nil))) (.cons (.asg (.n 0) (.bin .fdiv (.var 0) (.var 3))) .nil)) (yx n a 1) [AA (.int x),p1,p2,AA (.int W),AA (.loc 0),u] [.lst acc]=.nx [AA (.int x'),p1,p2,AA (.int W),AA (.loc 0),u'] [.lst (acc++(yh W n x).map .int)]
 |0,a,x,acc,u,_=>⟨x,u,by rw[yx,zL];simp[yh]⟩
 |n+1,a,x,acc,u,h=>by
  let⟨x',u',e⟩:=zdP (call:=call) hW hW2 (p1:=p1) (p2:=p2) n (a+1) (x/W) (acc++[.int (x%W)]) (AA (.int a)) (by simp;lia);refine⟨x',u',?_⟩;have hW3:W<18446744073709551616*18446744073709551616:=by lia
  have hl:acc.length<1000000:=by lia
  rw[yx,zG (ρ1:=[AA (.int x),p1,p2,AA (.int W),AA (.loc 0),AA (.int a)]) rfl];have hm:yaS .append [Ob.lst acc] (.loc 0)=AA true:=rfl;have hap:ycu .append [Ob.lst acc] (.loc 0) [.int (x%W)]=.ok .non [.lst (acc++[.int (x%W)])]:=by
   unfold ycu;simp[yd0,hl]
  erw[xs_cons,xs_nil,x_asg,x_expr,IC.ve20,IC.ve2,IC.ve3,evs,Ak,Ac,bd_ok,fl_ok,hm,ono,zj1 hW,zfr hW hW3,toR_some,hap,bT_n,nxO_some,th_nx,BH,BI,yaG];rw[e];simp[yh]
theorem words(k:Nat)(x:Int)(w n:Nat)(hw:w<=16)(hn:n<1000)(st:SO):yd T (k+2) zcL [.int x,.int w,.int n] st=.ok (.tup ((yh (2^w) n x).map .int)) st:=by
 have hW:(0:Int)<2^w:=Ab (by lia);have hW2:(2:Int)^w<18446744073709551616:=by
  have h:(2:Nat)^w<=2^16:=A6 (by lia) hw;have h2:((2^w:Nat):Int)=2^w:=by simp
  lia
 let⟨x',u',e⟩:=zdP (call:=yd T (k+1)) hW hW2 (p1:=AA (.int w)) (p2:=AA (.int n)) n 0 x [] AD (by simp;lia);have ht:=zf7 k w (by lia) [];have hT:T zcL=AA zcB:=rfl;rw[yd,hT];erw[zcB,AZ,Bq,Bt,Dr,if_true,nLs,nL,Dp,AL,Ad,Ci,AV,Az,BV,xs_cons,xs_nil,x_asg,x_for,x_ret,IC.ve18,IC.ve2,IC.ve13,IC.ve19,evs,evi,Ak,Ac,bd_ok,fl_ok,ht,bT_n,nxO_some,th_nx,BH,BI,zbq n hn,toL,DN,sizeMax,e];simp[yay,yeT,yam,toR,fl_ok,nL,noLocs_ints,R.fl,yaK]
theorem zcF{M:Mem}{a b c d:Int}(h0:M 109 0=a)(h1:M 109 1=b)(h2:M 109 2=c)(h3:M 109 3=d):getM M 109 0 4=[a,b,c,d]:=by
 show [M 109 0,M 109 1,M 109 2,M 109 3]=_;rw[h0,h1,h2,h3]
theorem bi4{p q r s:Int}(hp:0<=p/\p<=1)(hq:0<=q/\q<=1)(hr:0<=r/\r<=1)(hs:0<=s/\s<=1):∀v∈[p,q,r,s],-1<=v/\v<=1:=λv hv=>by
 erw[AN,A4,or_false]at hv;lia
theorem yfO:yd T 20 zw [.tp AB [.str "product"]] []=.ok (.bl AC) []:=za8 (by decide +kernel)
theorem yfM:yd T 20 zw [.tp AB [.str "sum"]] []=.ok (.bl AC) []:=za8 (by decide +kernel)
theorem yha:yd T 20 zw [.tp AB [.str "compare"]] []=.ok (.bl AC) []:=za8 (by decide +kernel)
theorem yhc:yd T 20 zw [.tp AB [.str "quotient"]] []=.ok (.bl AC) []:=za8 (by decide +kernel)
section
variable {w n:Nat}(hw:4<=w)(hw2:w<=16)(hn:1<=n)(hn2:n<=4){x y:Int}(x0:0<=x)(x1:x<2^(w*n))(y0:0<=y)(y1:y<2^(w*n))(st:SO)
include hw hw2 hn hn2 x0 x1 y0 y1
theorem zof:∃ms,yd T 24 zbp [.tp AB [.str "product"],.int w,.int n,.int x,.int y] st=.ok (.tp AB [.tp AB ((yh (2^w) (2*n) (x*y)).map .int),.tp AB [],ms]) st:=by
 have hp:(2:Int)^(w*n)=(2^w:Int)^n:=CZ;obtain⟨m,rfl⟩:∃m,n=m+1:=⟨n-1,by lia⟩;let⟨q1,q2,q3,q4,q5⟩:=ze1 (w:=w) (by lia) x0 (by rw[<-hp];exact x1) y0 (by rw[<-hp];exact y1);exact⟨_,parts 1 (yck hw2 hn hn2) (zdX hn hn2) hw2 (by lia) hn2 (by lia) (zde hn2) x0 x1 y0 y1 yfO (λ_=>rfl) q1 rfl (zcF q2 q3 q4 q5) (bi4 (by lia) (z8 _) (z8 _) (z8 _)) st⟩
theorem zpN:∃a b c:Int,yd T 24 zbp [.tp AB [.str "sum"],.int w,.int n,.int x,.int y] st=.ok (.tp AB [.tp AB ((yh (2^w) n ((x+y)%2^(w*n))).map .int),.tp AB [],.tp AB (([bi (decide (2^(w*n)<=x+y)),a,b,c]:List Int).map .int)]) st:=by
 have hp:(2:Int)^(w*n)=(2^w:Int)^n:=CZ;obtain⟨m,rfl⟩:∃m,n=m+1:=⟨n-1,by lia⟩;let⟨q1,q2,q3,q4,q5⟩:=zkq (w:=w) (by lia) x0 (by rw[<-hp];exact x1) y0 (by rw[<-hp];exact y1);rw[<-hp]at q1 q2;exact⟨_,_,_,parts 1 (ycY hw2 hn hn2) (zkw hn hn2) hw2 (by lia) hn2 (by lia) (zhT hn2) x0 x1 y0 y1 yfM (λ_=>rfl) q1 rfl (zcF q2 q3 q4 q5) (bi4 (z8 _) (z8 _) (z8 _) (z8 _)) st⟩
theorem zpT:∃a b c:Int,yd T 24 zbp [.tp AB [.str "compare"],.int w,.int n,.int x,.int y] st=.ok (.tp AB [.tp AB [],.tp AB [],.tp AB (([bi (decide (x<y)),a,b,c]:List Int).map .int)]) st:=by
 have hp:(2:Int)^(w*n)=(2^w:Int)^n:=CZ;obtain⟨m,rfl⟩:∃m,n=m+1:=⟨n-1,by lia⟩;let⟨q2,q3,q4,q5⟩:=zhk (w:=w) (by lia) x0 (by rw[<-hp];exact x1) y0 (by rw[<-hp];exact y1);exact⟨_,_,_,parts 1 (ycr hw2 hn hn2) (zhH hn hn2) hw2 (by lia) hn2 (by lia) (zgi hn2) x0 x1 y0 y1 yha (λ_=>rfl) rfl rfl (zcF q2 q3 q4 q5) (bi4 (z8 _) (z8 _) (z8 _) (by lia)) st⟩
theorem zlj(y2:0<y):∃ms,yd T 24 zbp [.tp AB [.str "quotient"],.int w,.int n,.int x,.int y] st=.ok (.tp AB [.tp AB ((yh (2^w) n (x/y)).map .int),.tp AB ((yh (2^w) n (x%y)).map .int),ms]) st:=by
 have hp:(2:Int)^(w*n)=(2^w:Int)^n:=CZ;obtain⟨m,rfl⟩:∃m,n=m+1:=⟨n-1,by lia⟩;let⟨q0,q1,q2,q3,q4,q5⟩:=zif (w:=w) (by lia) x0 (by rw[<-hp];exact x1) y2 (by rw[<-hp];exact y1);exact⟨_,parts 1 (ycT hw2 hn hn2) (zkS hn hn2) hw2 (by lia) hn2 (by lia) (zg9 hw2 hn2) x0 x1 y0 y1 yhc (λh=>by lia) q0 q1 (zcF q2 q3 q4 q5) (bi4 (by lia) (by lia) (z8 _) (z8 _)) st⟩
end
noncomputable def ybF:Ce:=match yal.body with
 |.cons _ (.cons (.while c _) _)=>c
 |_=>.nope
noncomputable def ybX:Css:=match yal.body with
 |.cons _ (.cons (.while _ b) _)=>b
 |_=>.nil
theorem zhi{c:Cl}{n:Nat}{ns:List Int}{a p m t:Int}{f:Bool}{u:Option PV}{st:SO}(h:st[n]?=AA (.lst [.lst (ns.map .int),.int a,.int p,.bl f])):
  ∃B,ev c [AA (.loc n),AA (.int m),AA (.int t),u] st ybF=.ok (.bl B) st/\(B=AC->t<64):=by
 by_cases h1:t<64
 .by_cases h2:p=0
  .refine⟨AC,?_,λ_=>h1⟩;simp! [ybF,yal,R.bind,h,idxV,ybd,at?,ixI,yJ,binI,yaH,toR,yN,ybI];simp[h1,h2,zdy,peq]
  .have h2:(p==0)=false:=by simp[h2]
   cases f
   .refine⟨AB,?_,λ_=>h1⟩;simp! [ybF,yal,R.bind,h,idxV,ybd,at?,ixI,yJ,binI,yaH,toR,yN,ybI];simp[h,h1,h2,zdy,peq]
   .refine⟨decide (p<m*4096),?_,λ_=>h1⟩;simp! [ybF,yal,R.bind,h,idxV,ybd,at?,ixI,yJ,binI,yaH,toR,yN,ybI];simp[h,h1,h2,zdy,peq]
 .refine⟨AB,?_,λz=>by cases z⟩;simp! [ybF,yal,R.bind,h,idxV,ybd,at?,ixI,yJ,binI,yaH,toR,yN,ybI];simp[h1]
theorem zhR(k:Nat){n:Nat}{ns:List Int}(hns:ns.length<=1000){a p m t:Int}(ha:0<=a){f:Bool}{u:Option PV}{st:SO}(h:st[n]?=AA (.lst [.lst (ns.map .int),.int a,.int p,.bl f])):
  ∃p' f',exs (yd T (k+2)) [AA (.loc n),AA (.int m),AA (.int t),u] st ybX=.nx [AA (.loc n),AA (.int m),AA (.int (t+1)),u] (st.set n (.lst [.lst (ns.map .int),.int (a+1),.int p',.bl f'])):=by
 let⟨q,g,hq⟩:=fill k n ns hns a p ha f st h;have hm:(1+q%4093).natAbs<18446744073709551616:=by lia
 have hau:∀st,ex (yd T (k+2)) [AA (.loc n),AA (.int m),AA (.int t),u] st (.aug 2 .add (.cst (.int 1)))=.nx [AA (.loc n),AA (.int m),AA (.int (t+1)),u] st:=λst=>by
  rw[zpF (x:=.int t) rfl];simp[IC.ve1,R.fl,ybT,yJ,binI,nxO]
 cases g
 .refine⟨q,AB,?_⟩;simp! [ybX,yal,hau,yaK,nxO,R.fl,R.bind,hq,ybT,yJ,binI,DH,rdS h,idxV,ybd,at?,ixI,yaH,toR,yN,ybI,onF,yaT];simp[rdS h]
 .by_cases hl:q<m*4096
  .refine⟨q+m*4096*(1+q%4093),AC,?_⟩;simp! [ybX,yal,hau,yaK,nxO,R.fl,R.bind,hq,ybT,yJ,binI,DH,rdS h,idxV,ybd,at?,ixI,yaH,toR,yN,ybI,onF,yaT,stO,ybE];simp[rdS h,hl,hm]
  .refine⟨q,AC,?_⟩;simp! [ybX,yal,hau,yaK,nxO,R.fl,R.bind,hq,ybT,yJ,binI,DH,rdS h,idxV,ybd,at?,ixI,yaH,toR,yN,ybI,onF,yaT];simp[rdS h,hl]
theorem zeM(k:Nat){n:Nat}{ns:List Int}(hns:ns.length<=1000){m:Int}{u:Option PV}:∀(r N:Nat) (t a p:Int) (f:Bool) (st:SO),r<=N->64-t<=r->0<=a->st[n]?=AA (.lst [.lst (ns.map .int),.int a,.int p,.bl f]) ->
  ∃t' a' p' f',0<=a'/\ya2 (yd T (k+2)) ybF ybX (N+1) [AA (.loc n),AA (.int m),AA (.int t),u] st=.nx [AA (.loc n),AA (.int m),AA (.int t'),u] (st.set n (.lst [.lst (ns.map .int),.int a',.int p',.bl f']))
 |r,N,t,a,p,f,st,hN,ht,ha,h=>by
  let⟨B,hB,hb⟩:=zhi (c:=yd T (k+2)) (m:=m) (t:=t) (u:=u) h;have hs:st.set n (.lst [.lst (ns.map .int),.int a,.int p,.bl f])=st:=by
   refine Ea λi=>?_;rw[Ck];split
   .rename_i e;subst e;split
    .exact h.symm
    .rename_i z;rw[BY (by lia)]at h
     cases h
   .rfl
  cases B with
  |false=>exact⟨t,a,p,f,ha,by rw[zft hB rfl,hs]⟩
  |true=>
   have h64:=hb rfl
   match r,N with
   |0,_=>exact absurd ht (by lia)
   |r+1,N+1=>
    let⟨p1,f1,hx⟩:=zhR k hns (m:=m) (t:=t) ha (u:=u) h;let⟨t',a',p',f',h0,h2⟩:=zeM k hns (m:=m) (u:=u) r N (t+1) (a+1) p1 f1 _ (by lia) (by lia) (by lia) (rdS h);refine⟨t',a',p',f',h0,?_⟩;rw[zic hB rfl hx,h2,D4]
theorem take(k n:Nat)(ns:List Int)(hns:ns.length<=1000)(a p m:Int)(ha:0<=a)(hm:0<m)(hm2:m<10000000000000000000000000000000000000000000000000000000000000000000000)(f:Bool)(st:SO)(h:st[n]?=AA (.lst [.lst (ns.map .int),.int a,.int p,.bl f])):
  ∃d a' p' f',0<=d/\d<m/\0<=a'/\yd T (k+3) zcn [.loc n,.int m] st=.ok (.int d) (st.set n (.lst [.lst (ns.map .int),.int a',.int p',.bl f'])):=by
 let⟨t',a',p',f',h0,h2⟩:=zeM k hns (m:=m) (u:=AD) 64 99999 0 a p f st (by lia) (by lia) ha h;refine⟨p'%m,a',p'/m,f',Ah _ (by lia),A8 _ hm,h0,?_⟩;have hb:yal.body=.cons (.asg (.n 2) (.cst (.int 0))) (.cons (.while ybF ybX) (.cons (.asg (.n 3) (.bin .mod (.idx (.var 0) (.cst (.int 2))) (.var 1))) (.cons (.six (.var 0) (.cst (.int 2)) (.bin .fdiv (.idx (.var 0) (.cst (.int 2))) (.var 1))) (.cons (.ret (.var 3)) .nil)))):=rfl;have hT:T zcn=AA ⟨2,4,AB,yal.body⟩:=rfl;rw[yd,hT,hb];simp! [zlq,yaK,nxO,stO,R.fl,R.bind,yR,h2,rdS h,idxV,ybd,at?,ixI,yJ,binI,hm,hm2,and_self,toR,ybE];simp[rdS h,hm,hm2]
def Drw(ns:List Int)(n:Nat)(st:SO):Prop:=∃a p f,0<=a/\st[n]?=AA (.lst [.lst (ns.map .int),.int a,.int p,.bl f])
def Onl(ns:List Int)(n:Nat)(st st':SO):Prop:=∃a p f,0<=a/\st'=st.set n (.lst [.lst (ns.map .int),.int a,.int p,.bl f])
theorem Onl.drw{ns:List Int}{n:Nat}{st st':SO}(h:Drw ns n st)(o:Onl ns n st st'):Drw ns n st':=by
 let⟨a,p,f,ha,h⟩:=h;let⟨b,q,g,hb,rfl⟩:=o;exact⟨b,q,g,hb,rdS h⟩
theorem Onl.trans{ns:List Int}{n:Nat}{st st1 st2:SO}(o:Onl ns n st st1)(o2:Onl ns n st1 st2):Onl ns n st st2:=by
 let⟨b,q,g,hb,rfl⟩:=o;let⟨c,r,j,hc,rfl⟩:=o2;exact⟨c,r,j,hc,by rw[D4]⟩
theorem yaO(k:Nat){n:Nat}{ns:List Int}(hns:ns.length<=1000){m:Int}(hm:0<m)(hm2:m<10000000000000000000000000000000000000000000000000000000000000000000000){st:SO}(h:Drw ns n st):
  ∃d st',0<=d/\d<m/\Onl ns n st st'/\yd T (k+3) zcn [.loc n,.int m] st=.ok (.int d) st':=by
 let⟨a,p,f,ha,h⟩:=h;let⟨d,a',p',f',h1,h2,h3,h4⟩:=take k n ns hns a p m ha hm hm2 f st h;exact⟨d,_,h1,h2,⟨_,_,_,h3,rfl⟩,h4⟩
theorem fresh(k:Nat)(ns:List Int)(h:ns.length<=63)(st:SO):∃v,yd T (k+1) zem [.scr (ns.map .int)] st=.ok (.loc st.length) (st++[v])/\v=.lst [.lst (ns.map .int),.int 0,.int 0,.bl AB]:=by
 have hT:T zem=AA zcI:=rfl;refine⟨_,?_,rfl⟩;rw[yd,hT];erw[zcI,AZ,Bq,if_true,AL,Ad,Ci,AV,Az,BV,xs_cons,xs_nil,x_ret,yaK,ev,evs,R.fl,R.bind,Ak,toR];have hc:ybY (.scr (ns.map PV.int)) AD (.int 63)=AA (.lst (ns.map .int)):=by
  have hk:ybv ns.length 63=ns.length:=by
   show min 63 ns.length=ns.length;lia
  simp[ybY,ybU,ycA,cut,ycJ,yc9,hk]
  try rw[<-Av (f:=PV.int),G5]
 simp[ybU,onP,hc,sizeMax]
theorem dbl{call:Cl}{i j:Nat}(hij:i≠j):∀(N:Nat) (a:Int) (ρ:IC.Env) (v:Int) (st:SO),ρ[i]?=AA (AA (.int v)) ->
  ∃u,ybb call (.n j) (.cons (.asg (.n i) (.bin .mul (.cst (.int 2)) (.var i))) .nil) (yx N a 1) ρ st=.nx ((ρ.set i (AA (.int (2^N*v)))).set j u) st/\(N=0->ρ[j]?=AA u \/ ρ.length<=j)
 |0,a,ρ,v,st,h=>by
  have hi:ρ.set i (AA (.int v))=ρ:=by
   refine Ea λz=>?_;rw[Ck];split
   .rename_i e;subst e;split
    .exact h.symm
    .rw[BY (by lia)]at h
     cases h
   .rfl
  rcases CK j ρ.length with hj|hj
  .refine⟨ρ[j],?_,λ_=>.inl (DC hj)⟩;rw[yx,zL,D6,Bw,hi,FW]
  .refine⟨AD,?_,λ_=>.inr hj⟩;rw[yx,zL,D6,Bw,hi,List.set_eq_of_length_le hj]
 |N+1,a,ρ,v,st,h=>by
  have h1:(ρ.set j (AA (.int a)))[i]?=AA (AA (.int v)):=by
   rw[AM (BJ hij)];exact h
  have hil:i<ρ.length:=by
   rcases CK i ρ.length with z|z
   .exact z
   .rw[BY z]at h;cases h
  have h2:exs call (ρ.set j (AA (.int a))) st (.cons (.asg (.n i) (.bin .mul (.cst (.int 2)) (.var i))) .nil)=.nx ((ρ.set j (AA (.int a))).set i (AA (.int (2*v)))) st:=by
   erw[xs_nil,xs_cons,x_asg,yaK,nxO,IC.ve1,IC.ve2,IC.ve3,R.bind,R.fl,h1,yR,yJ,binI,yaH,toR];simp
  let⟨u,h3,_⟩:=dbl (call:=call) hij N (a+1) ((ρ.set j (AA (.int a))).set i (AA (.int (2*v)))) (2*v) st (by rw[Aa (by rw[B4];exact hil)]);refine⟨u,?_,λz=>by cases z⟩;rw[yx,zG (ρ1:=ρ.set j (AA (.int a))) rfl,h2];show ybb call _ _ _ _ _=_;rw[h3,D4,HJ _ _ (BJ hij),D4,Am,Ap]
theorem zd5(K:Nat):(0:Int)<2^K:=Ab (by lia)
noncomputable def yQ:Css:=match yaf.body with
 |.cons _ (.cons _ (.cons _ r))=>r
 |_=>.nil
noncomputable def wT2:Css:=match yQ with
 |.cons _ (.cons _ (r))=>r
 |_=>.nil
theorem wE2:yQ=(match yQ with
 |.cons q0 (.cons q1 (_))=>.cons q0 (.cons q1 (wT2))
 |_=>.nil):=rfl
noncomputable def wT4:Css:=match yQ with
 |.cons _ (.cons _ (.cons _ (.cons _ (r))))=>r
 |_=>.nil
theorem wE4:yQ=(match yQ with
 |.cons q0 (.cons q1 (.cons q2 (.cons q3 (_))))=>.cons q0 (.cons q1 (.cons q2 (.cons q3 (wT4))))
 |_=>.nil):=rfl
noncomputable def wT5:Css:=match yQ with
 |.cons _ (.cons _ (.cons _ (.cons _ (.cons _ (r)))))=>r
 |_=>.nil
theorem wE5:yQ=(match yQ with
 |.cons q0 (.cons q1 (.cons q2 (.cons q3 (.cons q4 (_)))))=>.cons q0 (.cons q1 (.cons q2 (.cons q3 (.cons q4 (wT5)))))
 |_=>.nil):=rfl
noncomputable def wT6:Css:=match yQ with
 |.cons _ (.cons _ (.cons _ (.cons _ (.cons _ (.cons _ (r))))))=>r
 |_=>.nil
theorem wE6:yQ=(match yQ with
 |.cons q0 (.cons q1 (.cons q2 (.cons q3 (.cons q4 (.cons q5 (_))))))=>.cons q0 (.cons q1 (.cons q2 (.cons q3 (.cons q4 (.cons q5 (wT6))))))
 |_=>.nil):=rfl
theorem zgI{c:Cl}{n:Nat}{w z kd m:Int}{u5 u6 u7 u8 u9 u10 u11 u12:Option PV}{st:SO}(h0:0<=kd)(h6:kd<6)(hm:16<=m):
  ∃x,0<=x/\x<m/\exs c [AA (.loc n),AA (.int w),AA (.int z),AA (.int kd),AA (.int m),u5,u6,u7,u8,u9,u10,u11,u12] st yQ=.rt (.int x) st:=by
 obtain⟨x,x0,x1,hv⟩:∃x:Int,0<=x/\x<m/\∀st,idxV st (.tup [.int 0,.int 1,.int (m-1),.int (m/2),.int (m/2-1),.int (m-2)]) (.int kd)=AA (.int x):=by
  rcases (by lia:kd=0 \/ kd=1 \/ kd=2 \/ kd=3 \/ kd=4 \/ kd=5)with rfl|rfl|rfl|rfl|rfl|rfl
  .exact⟨0,by lia,by lia,λ_=>rfl⟩
  .exact⟨1,by lia,by lia,λ_=>rfl⟩
  .exact⟨m-1,by lia,by lia,λ_=>rfl⟩
  .exact⟨m/2,by lia,by lia,λ_=>rfl⟩
  .exact⟨m/2-1,by lia,by lia,λ_=>rfl⟩
  .exact⟨m-2,by lia,by lia,λ_=>rfl⟩
 refine⟨x,x0,x1,?_⟩;rw[wE2];erw[yQ,yaf,AZ,Bq,Bt,Dr,if_true,xs_cons,xs_nil,x_asg,x_ite,x_ret,IC.ve1,IC.ve2,IC.ve3,IC.ve8,IC.ve11,IC.ve16,IC.ve18,evs,Ak,Ac,bd_ok,fl_ok,toR_some,bT_n,nxO_some,th_nx,th_rt,BH,BI,t_bl,on_t,sizeMax,Gf,b_sub,b_div2,c_lt,c_eq,c_gt,cond_true,cond_false,hv,h6,decide_true]
theorem ziR(k:Nat){n:Nat}{ns:List Int}(hns:ns.length<=1000){w z kd m:Int}{u5 u6 u7 u8 u9 u10 u11 u12:Option PV}{st:SO}(h:Drw ns n st)(h9:9<kd)(hm:16<=m)(hm2:m<=18446744073709551616):
  ∃x st',0<=x/\x<m/\Onl ns n st st'/\exs (yd T (k+3)) [AA (.loc n),AA (.int w),AA (.int z),AA (.int kd),AA (.int m),u5,u6,u7,u8,u9,u10,u11,u12] st yQ=.rt (.int x) st':=by
 let⟨d,s1,d1,d2,o1,e1⟩:=yaO k hns (m:=m) (by lia) (by lia) h;refine⟨d,s1,d1,d2,o1,?_⟩;have k1:decide (kd<6)=false:=decide_eq_false (by lia);have k2:(kd==6)=false:=beq_eq_false_iff_ne.2 (by lia);have k3:(kd==7)=false:=beq_eq_false_iff_ne.2 (by lia);rw[wE6];erw[yQ,yaf,AZ,Bq,Bt,Dr,if_true,xs_cons,xs_nil,x_asg,x_ite,x_ret,IC.ve1,IC.ve2,IC.ve3,IC.ve8,IC.ve11,IC.ve16,IC.ve18,evs,Ak,Ac,bd_ok,fl_ok,toR_some,bT_n,nxO_some,th_nx,th_rt,BH,BI,t_bl,on_t,sizeMax,Gf,b_sub,b_div2,c_lt,c_eq,c_gt,cond_true,cond_false,e1,h9,decide_true,k1,k2,k3]
theorem zgL(k:Nat){n:Nat}{ns:List Int}(hns:ns.length<=1000){w z kd m:Int}{u5 u6 u7 u8 u9 u10 u11 u12:Option PV}{st:SO}(h:Drw ns n st)(hk:kd=6 \/ kd=7)(hw:4<=w)(hw2:w<=16)(hz:1<=z)(hz2:z<=4)(hm:m=2^(w*z).toNat):
  ∃x st',0<=x/\x<m/\Onl ns n st st'/\exs (yd T (k+3)) [AA (.loc n),AA (.int w),AA (.int z),AA (.int kd),AA (.int m),u5,u6,u7,u8,u9,u10,u11,u12] st yQ=.rt (.int x) st':=by
 have hwz:4<=w*z:=by
  have:=ET hw hz (by lia) (by lia);lia
 have hwz2:w*z<=64:=by
  have:=ET hw2 hz2 (by lia) (by lia);lia
 have hm1:0<m:=hm ▸ zd5 _;have hm2:m<=18446744073709551616:=by
  have h64:(2:Nat)^(w*z).toNat<=2^64:=A6 (by lia) (by lia);have h65:((2^(w*z).toNat:Nat):Int)=2^(w*z).toNat:=by simp
  rw[hm,<-h65];lia
 let⟨d,s1,d1,d2,o1,e1⟩:=yaO k hns (m:=m) (by lia) (by lia) h;let⟨e,s2,d3,d4,o2,e2⟩:=yaO k hns (m:=w*z) (by lia) (by lia) (o1.drw h);have hj:(2:Int)^e.toNat<m:=by
  rw[hm];exact Int.pow_lt_pow_of_lt (by lia) (by lia)
 have hj1:=zd5 e.toNat;have hj2:(2:Int)^e.toNat<10000000000000000000000000000000000000000000000000000000000000000000000:=by lia
 have hj3:((2:Int)^e.toNat).natAbs<18446744073709551616:=by lia
 have hj4:(2:Nat)^e.toNat<18446744073709551616:=by
  have h65:((2^e.toNat:Nat):Int)=2^e.toNat:=by simp
  lia
 have hwa:w.natAbs<18446744073709551616:=by lia
 have hea:e.natAbs<1000000000:=by lia
 have hr:yb3 (.int e)=AA (yx e.toNat 0 1):=by erw[yb3,hea,if_true]
 have q1:=zfr (i:=d) hj1 (by lia);have q2:yJ .mul (.int (d/2^e.toNat)) (.int (2^e.toNat))=AA (.int (d/2^e.toNat*2^e.toNat)):=zcq hj3;have q3:yJ .mul (.int w) (.int z)=AA (.int (w*z)):=zaF hwa
 clear hj2 hj4 hea hwa hj3 hwz hwz2
 rcases hk with rfl|rfl
 .let⟨u,hd,_⟩:=dbl (call:=yd T (k+3)) (i:=8) (j:=5) (by lia) e.toNat 0 [AA (.loc n),AA (.int w),AA (.int z),AA (.int 6),AA (.int m),u5,AA (.tup [.int 0,.int 1,.int (m-1),.int (m/2),.int (m/2-1),.int (m-2)]),AA (.int d),AA (.int 1),u9,u10,u11,u12] 1 s2 rfl;refine⟨d/2^e.toNat*2^e.toNat,s2,By (B5 d1 (by lia)) (by lia),DM (Int.ediv_mul_le d (by lia)) d2,o1.trans o2,?_⟩;have k1:decide ((6:Int)<6)=false:=rfl;have k2:((6:Int)==6)=true:=rfl;rw[Cn]at hd;rw[wE4];generalize wT4=F at *;generalize (2:Int)^e.toNat=P at *;erw[IC.PV.tup]at hd;simp! [yQ,yaf,e1,k1,k2,q3,e2,hr,hd,q1,q2]
 .let⟨u,hd,_⟩:=dbl (call:=yd T (k+3)) (i:=8) (j:=5) (by lia) e.toNat 0 [AA (.loc n),AA (.int w),AA (.int z),AA (.int 7),AA (.int m),u5,AA (.tup [.int 0,.int 1,.int (m-1),.int (m/2),.int (m/2-1),.int (m-2)]),AA (.int d),AA (.int 1),u9,u10,u11,u12] 1 s2 rfl;refine⟨m-2^e.toNat,s2,by lia,by lia,o1.trans o2,?_⟩;have k1:decide ((7:Int)<6)=false:=rfl;have k2:((7:Int)==6)=false:=rfl;have k3:((7:Int)==7)=true:=rfl;rw[Cn]at hd;rw[wE5];generalize wT5=F at *;generalize (2:Int)^e.toNat=P at *;erw[IC.PV.tup]at hd;simp! [yQ,yaf,e1,k1,k2,k3,q3,e2,hr,hd]
theorem Drw.refl{ns:List Int}{n:Nat}{st:SO}(h:Drw ns n st):Onl ns n st st:=by
 let⟨a,p,f,ha,h⟩:=h;exact⟨a,p,f,ha,zkj h⟩
noncomputable def ybK:Css:=match yQ with
 |.cons _ (.cons _ (.cons _ (.cons _ (.cons _ (.cons _ (.cons _ (.cons _ (.cons _ (.cons (.for _ _ b) _)))))))))=>b
 |_=>.nil
theorem zgz(k:Nat){n:Nat}{ns:List Int}(hns:ns.length<=1000){p1 p2 p3 p4 p6 p8 u11 u12:Option PV}{d W acc a:Int}{st:SO}(h:Drw ns n st)(ha:0<=a)(ha2:a<1000)(hW:4<=W)(hW2:W<18446744073709551616):
  ∃e st' v11 v12,0<=e/\e<W/\Onl ns n st st'/\exs (yd T (k+3)) [AA (.loc n),p1,p2,p3,p4,AA (.int a),p6,AA (.int d),p8,AA (.int W),AA (.int acc),u11,u12] st ybK=.nx [AA (.loc n),p1,p2,p3,p4,AA (.int a),p6,AA (.int d),p8,AA (.int W),AA (.int (acc*W+e)),v11,v12] st':=by
 let⟨t,s1,d1,d2,o1,e1⟩:=yaO k hns (m:=5) (by lia) (by lia) h;have hW0:0<W:=by lia
 have hWm:W.natAbs<18446744073709551616:=by lia
 have ha3:0<a+1:=by lia
 have ha4:a+1<18446744073709551616*18446744073709551616:=by lia
 have q0:=Ah (d/(a+1)) (show W≠0 by lia);have q1:=A8 (d/(a+1)) hW0;obtain⟨e,x0,x1,hv⟩:∃e:Int,0<=e/\e<W/\∀st,idxV st (.tp AB [.int 0,.int 1,.int (W-1),.int (W/2),.int (d/(a+1)%W)]) (.int t)=AA (.int e):=by
  rcases (by lia:t=0 \/ t=1 \/ t=2 \/ t=3 \/ t=4)with rfl|rfl|rfl|rfl|rfl
  .exact⟨0,by lia,by lia,λ_=>rfl⟩
  .exact⟨1,by lia,by lia,λ_=>rfl⟩
  .exact⟨W-1,by lia,by lia,λ_=>rfl⟩
  .exact⟨W/2,by lia,by lia,λ_=>rfl⟩
  .exact⟨d/(a+1)%W,q0,q1,λ_=>rfl⟩
 refine⟨e,s1,AA (.int (d/(a+1)%W)),AA (.tp AB [.int 0,.int 1,.int (W-1),.int (W/2),.int (d/(a+1)%W)]),x0,x1,o1,?_⟩;simp! [ybK,yQ,yaf,zfr ha3 ha4,zj1 hW0,zcq hWm,e1,hv]
theorem zdB(k:Nat){n:Nat}{ns:List Int}(hns:ns.length<=1000){p1 p2 p3 p4 p6 p8:Option PV}{d W:Int}(hW:4<=W)(hW2:W<18446744073709551616):∀(r i:Nat) (a acc:Int) (u5 u11 u12:Option PV) (st:SO),0<=a->a+r<1000->0<=acc->acc<W^i->Drw ns n st ->
  ∃acc' st' v5 v11 v12,0<=acc'/\acc' < W^(i+r)/\Onl ns n st st'/\ybb (yd T (k+3)) (.n 5) ybK (yx r a 1) [AA (.loc n),p1,p2,p3,p4,u5,p6,AA (.int d),p8,AA (.int W),AA (.int acc),u11,u12] st=.nx [AA (.loc n),p1,p2,p3,p4,v5,p6,AA (.int d),p8,AA (.int W),AA (.int acc'),v11,v12] st'
 |0,i,a,acc,u5,u11,u12,st,_,_,h0,h1,h=>⟨acc,st,u5,u11,u12,h0,h1,h.refl,by rw[yx,zL]⟩
 |r+1,i,a,acc,u5,u11,u12,st,ha,hr,h0,h1,h=>by
  let⟨e,s1,v11,v12,e0,e1,o1,hs⟩:=zgz k hns (p1:=p1) (p2:=p2) (p3:=p3) (p4:=p4) (p6:=p6) (p8:=p8) (u11:=u11) (u12:=u12) (d:=d) (acc:=acc) h ha (by lia) hW hW2;have hb:acc*W+e<W^(i+1):=by
   have:=Ao (show acc<=W^i-1 by lia) (show 0<=W by lia);rw[BR,Bw]at this;rw[Am];lia
  have hb0:0<=acc*W:=By h0 (by lia);let⟨acc',s2,w5,w11,w12,f0,f1,o2,hf⟩:=zdB k hns (p1:=p1) (p2:=p2) (p3:=p3) (p4:=p4) (p6:=p6) (p8:=p8) (d:=d) hW hW2 r (i+1) (a+1) (acc*W+e) (AA (.int a)) v11 v12 s1 (by lia) (by lia) (by lia) hb (o1.drw h);refine⟨acc',s2,w5,w11,w12,f0,by rw[show i+(r+1)=i+1+r by lia];exact f1,o1.trans o2,?_⟩;rw[yx,zG (ρ1:=[AA (.loc n),p1,p2,p3,p4,AA (.int a),p6,AA (.int d),p8,AA (.int W),AA (.int acc),u11,u12]) rfl,hs];exact hf
theorem zfE(k:Nat){n:Nat}{ns:List Int}(hns:ns.length<=1000){w z:Nat}{kd m:Int}{u5 u6 u7 u8 u9 u10 u11 u12:Option PV}{st:SO}(h:Drw ns n st)(hk:kd=8 \/ kd=9)(hw:4<=w)(hw2:w<=16)(hz:1<=z)(hz2:z<=4)(hm:m=2^(w*z)):
  ∃x st',0<=x/\x<m/\Onl ns n st st'/\exs (yd T (k+3)) [AA (.loc n),AA (.int w),AA (.int z),AA (.int kd),AA (.int m),u5,u6,u7,u8,u9,u10,u11,u12] st yQ=.rt (.int x) st':=by
 have hwz2:w*z<=64:=Ag hw2 hz2;have hm1:0<m:=hm ▸ zd5 _;have hm2:m<=18446744073709551616:=by
  have h64:(2:Nat)^(w*z)<=2^64:=A6 (by lia) hwz2;rw[hm,<-pw];lia
 let⟨d,s1,d1,d2,o1,e1⟩:=yaO k hns (m:=m) (by lia) (by lia) h;have hW4:(4:Int)<=2^w:=by
  have h:(2:Nat)^2<=2^w:=A6 (by lia) (by lia);have h2:=pw w;lia
 have hWl:(2:Int)^w<18446744073709551616:=by
  have h:(2:Nat)^w<=2^16:=A6 (by lia) hw2;have h2:=pw w;lia
 have r1:yb3 (.int (w:Int))=AA (yx w 0 1):=zbq w (by lia);have r2:yb3 (.int (z:Int))=AA (yx z 0 1):=zbq z (by lia);have k1:¬kd<6:=by lia
 have k2:(kd==6)=false:=by simp;lia
 have k3:(kd==7)=false:=by simp;lia
 have k4:¬9<kd:=by lia
 let⟨u,hd,_⟩:=dbl (call:=yd T (k+3)) (i:=9) (j:=5) (by lia) w 0 [AA (.loc n),AA (.int w),AA (.int z),AA (.int kd),AA (.int m),u5,AA (.tup [.int 0,.int 1,.int (m-1),.int (m/2),.int (m/2-1),.int (m-2)]),AA (.int d),u8,AA (.int 1),u10,u11,u12] 1 s1 rfl;erw[BH,BI,Cn]at hd;let⟨acc',s2,w5,w11,w12,f0,f1,o2,hf⟩:=zdB k hns (p1:=AA (.int w)) (p2:=AA (.int z)) (p3:=AA (.int kd)) (p4:=AA (.int m)) (p6:=AA (.tup [.int 0,.int 1,.int (m-1),.int (m/2),.int (m/2-1),.int (m-2)])) (p8:=u8) (d:=d) (W:=2^w) hW4 hWl z 0 0 0 u u11 u12 s1 (by lia) (by lia) (by lia) (by simp) (o1.drw h);rw[Bt,<-CZ,<-hm]at f1;refine⟨acc',s2,f0,f1,o1.trans o2,?_⟩
 have hR:yQ=.cons (.asg (.n 6) (.tup (.cons (.cst (.int 0)) (.cons (.cst (.int 1)) (.cons (.bin .sub (.var 4) (.cst (.int 1))) (.cons (.bin .fdiv (.var 4) (.cst (.int 2))) (.cons (.bin .sub (.bin .fdiv (.var 4) (.cst (.int 2))) (.cst (.int 1))) (.cons (.bin .sub (.var 4) (.cst (.int 2))) .nil)))))))) (match yQ with
  |.cons _ (.cons a (.cons b (.cons c (.cons d (.cons e (.cons f (.cons g (.cons h (.cons (.for t i _) r)))))))))=>.cons a (.cons b (.cons c (.cons d (.cons e (.cons f (.cons g (.cons h (.cons (.for t i ybK) r))))))))
  |_=>.nil):=rfl
 rw[hR];simp! [yQ,yaf,r1,r2,k1,k2,k3,k4,decide_false,e1,hd,hf]
theorem worth(k:Nat){n:Nat}{ns:List Int}(hns:ns.length<=1000)(w z:Nat)(hw:4<=w)(hw2:w<=16)(hz:1<=z)(hz2:z<=4){st:SO}(h:Drw ns n st):
  ∃x st',0<=x/\x<2^(w*z)/\Onl ns n st st'/\yd T (k+4) zf8 [.loc n,.int w,.int z] st=.ok (.int x) st':=by
 let⟨kd,s1,d1,d2,o1,e1⟩:=yaO k hns (m:=12) (by lia) (by lia) h;have h1:=o1.drw h;have hwz2:w*z<=64:=Ag hw2 hz2;have hwz:4<=w*z:=Ag hw hz;have hm:(16:Int)<=2^(w*z):=by
  have h:(2:Nat)^4<=2^(w*z):=A6 (by lia) hwz;have h2:=pw (w*z);lia
 have hm2:(2:Int)^(w*z)<=18446744073709551616:=by
  have h:(2:Nat)^(w*z)<=2^64:=A6 (by lia) hwz2;have h2:=pw (w*z);lia
 have hwa:(w:Int).natAbs<18446744073709551616:=by lia
 have hwm:(w:Int)*(z:Int)=((w*z:Nat):Int):=by simp
 have r1:yb3 (.int ((w*z:Nat):Int))=AA (yx (w*z) 0 1):=zbq _ (by lia);let⟨u,hd,_⟩:=dbl (call:=yd T (k+3)) (i:=4) (j:=5) (by lia) (w*z) 0 [AA (.loc n),AA (.int w),AA (.int z),AA (.int kd),AA (.int 1),AD,AD,AD,AD,AD,AD,AD,AD] 1 s1 rfl;erw[BH,BI,Cn]at hd;have key:∃x st',0<=x/\x<2^(w*z)/\Onl ns n s1 st'/\exs (yd T (k+3)) [AA (.loc n),AA (.int w),AA (.int z),AA (.int kd),AA (.int (2^(w*z))),u,AD,AD,AD,AD,AD,AD,AD] s1 yQ=.rt (.int x) st':=by
  rcases (by lia:kd<6 \/ (kd=6 \/ kd=7) \/ (kd=8 \/ kd=9) \/ 9<kd)with q|q|q|q
  .let⟨x,a,b,e⟩:=zgI (c:=yd T (k+3)) (n:=n) (w:=w) (z:=z) (st:=s1) (u5:=u) (u6:=AD) (u7:=AD) (u8:=AD) (u9:=AD) (u10:=AD) (u11:=AD) (u12:=AD) d1 q hm;exact⟨x,s1,a,b,h1.refl,e⟩
  .exact zgL k hns h1 q (by lia) (by lia) (by lia) (by lia) (by rw[hwm,CB])
  .exact zfE k hns h1 q hw hw2 hz hz2 rfl
  .exact ziR k hns h1 q hm hm2
 let⟨x,s2,a,b,o2,e2⟩:=key;refine⟨x,s2,a,b,o1.trans o2,?_⟩;have hT:T zf8=AA ⟨3,13,AB,yaf.body⟩:=rfl;have hb:yaf.body=.cons (.asg (.n 3) (.call 95 (.cons (.var 0) (.cons (.cst (.int 12)) .nil)))) (.cons (.asg (.n 4) (.cst (.int 1))) (.cons (.for (.n 5) (.range1 (.bin .mul (.var 1) (.var 2))) (.cons (.asg (.n 4) (.bin .mul (.cst (.int 2)) (.var 4))) .nil)) yQ)):=rfl;rw[yd,hT,hb];erw[AZ,Bq,Bt,Dr,if_true,Bg,if_false,AL,Ad,Ci,AV,Az,BV];rw[xs_cons,x_asg];erw[IC.ve18,IC.ve1,IC.ve2,evs,Ak,Ac,bd_ok,fl_ok,e1,bT_n,nxO_some,th_nx,BH,BI];rw[xs_cons,x_asg];erw[IC.ve1,bd_ok,fl_ok,bT_n,nxO_some,th_nx,BH,BI];rw[xs_cons,x_for];erw[evi,IC.ve2,IC.ve3,Ak,Ac,bd_ok,fl_ok,zaF hwa,hwm,r1,toL,toR_some,hd,th_nx,e2]
theorem yfy{a b:Int}(st:SO):yay .max st [.int a,.int b]=AA (.int (if a<b then b else a)):=by
 erw[yay,maxV]
theorem min1{a b:Int}(st:SO):yay .min st [.int a,.int b]=AA (.int (if b<a then b else a)):=by
 erw[yay,yeU]
noncomputable def lt4:Cs:=match yX.body with
 |.cons _ (.cons _ (.cons _ (.cons _ (.cons s _))))=>s
 |_=>.nope
noncomputable def lt5:Cs:=match yX.body with
 |.cons _ (.cons _ (.cons _ (.cons _ (.cons _ (.cons s _)))))=>s
 |_=>.nope
noncomputable def lt6:Cs:=match yX.body with
 |.cons _ (.cons _ (.cons _ (.cons _ (.cons _ (.cons _ (.cons s _))))))=>s
 |_=>.nope
noncomputable def lt7:Cs:=match yX.body with
 |.cons _ (.cons _ (.cons _ (.cons _ (.cons _ (.cons _ (.cons _ (.cons s _)))))))=>s
 |_=>.nope
noncomputable def lt8:Cs:=match yX.body with
 |.cons _ (.cons _ (.cons _ (.cons _ (.cons _ (.cons _ (.cons _ (.cons _ (.cons s _))))))))=>s
 |_=>.nope
def ltU:Css:=.cons lt4 (.cons lt5 (.cons lt6 (.cons lt7 (.cons lt8 (.cons (.ret (.tup (.cons (.var 3) (.cons (.var 4) .nil)))) .nil)))))
theorem zd9{ns:List Int}{n:Nat}{st:SO}(h:Drw ns n st):Onl ns n st st:=by
 let⟨a,p,f,ha,e⟩:=h;refine⟨a,p,f,ha,?_⟩;let⟨hl,hg⟩:=BE.1 e;rw[<-hg,FW]
theorem zej{m:Nat}(h4:4<=m)(h64:m<=64):(2:Int)^m<=18446744073709551616/\(16:Int)<=2^m:=by
 have h2:=pw m;have a:(2:Nat)^m<=2^64:=A6 (by decide) h64;have b:(2:Nat)^4<=2^m:=A6 (by decide) h4;lia
theorem zpW{m:Nat}(h4:4<=m)(h64:m<=64):0<(m:Int)/\(m:Int)<10000000000000000000000000000000000000000000000000000000000000000000000:=by lia
noncomputable abbrev e7(p:Option PV)(w n:Nat)(x y t q:Int):IC.Env:=[p,AA (.int w),AA (.int n),AA (.int x),AA (.int y),AA (.int t),AA (.int q)]
section
variable {p0:Option PV}{w n:Nat}{x y t q P:Int}
theorem tw4{c:Cl}{st:SO}(q0:0<q)(q1:q<2^64)(y0:0<=y)(y1:y<P):∃y',0<=y'/\y' < P/\ex c (e7 p0 w n x y t q) st lt4=.nx (e7 p0 w n x y' t q) st:=by
 have hdv:yJ .fdiv (.int y) (.int q)=AA (.int (y/q)):=zfr q0 (by lia);have h0:=B5 y0 (D5 q0);have h1:=DM (Gg q y0) y1
 cases ha:(t==0)
 .cases hb:(t==5)
  .exact⟨y,y0,y1,by simp! [lt4,yX,e7,ha,hb]⟩
  .exact⟨y/q,h0,h1,by simp! [lt4,yX,e7,ha,hb,hdv]⟩
 .exact⟨y/q,h0,h1,by simp! [lt4,yX,e7,ha,hdv]⟩
theorem tw5(k:Nat){n0:Nat}{ns:List Int}(hns:ns.length<=1000){st:SO}(h:Drw ns n0 st)(hp:p0=AA (.loc n0))(hP:16<=P)(y0:0<=y)(y1:y<P):∃y' s',0<=y'/\y' < P/\Onl ns n0 st s'/\ex (yd T (k+4)) (e7 p0 w n x y t q) st lt5=.nx (e7 p0 w n x y' t q) s':=by
 subst hp
 cases ha:(t==1)
 .exact⟨y,st,y0,y1,zd9 h,by simp! [lt5,yX,e7,ha]⟩
 .let⟨d,s5,d0,d1,o5,f5⟩:=yaO (k+1) hns (m:=9) (by decide) (by decide) h;exact⟨1+d,s5,by lia,by lia,o5,by simp! [lt5,yX,e7,ha,f5,b_add]⟩
theorem tw6{c:Cl}{st:SO}(q0:0<q)(q1:q<P)(y0:0<=y)(y1:y<P):∃y',0<=y'/\y' < P/\ex c (e7 p0 w n x y t q) st lt6=.nx (e7 p0 w n x y' t q) st:=by
 cases ha:(t==2)
 .exact⟨y,y0,y1,by simp! [lt6,yX,e7,ha]⟩
 .exact⟨q,D5 q0,q1,by simp! [lt6,yX,e7,ha]⟩
theorem tw8{c:Cl}{st:SO}(x0:0<=x)(x1:x<P)(y0:0<=y)(y1:y<P):∃y',0<=y'/\y' < P/\ex c (e7 p0 w n x y t q) st lt8=.nx (e7 p0 w n x y' t q) st:=by
 cases ha:(t==6)
 .exact⟨y,y0,y1,by simp! [lt8,yX,e7,ha]⟩
 .exact⟨x,x0,x1,by simp! [lt8,yX,e7,ha]⟩
theorem zjq{a P:Int}(hP:0<P):0<=(if 0<(if a<P-1 then a else P-1)then(if a<P-1 then a else P-1)else 0)/\(if 0<(if a<P-1 then a else P-1)then(if a<P-1 then a else P-1)else 0)<P:=by
 split<;>split<;>lia
theorem tw7a(k:Nat){n0:Nat}{ns:List Int}(hns:ns.length<=1000){st:SO}(h:Drw ns n0 st)(hP:P=2^(w*n))(hK:w*n<=64)(hwa:(w:Int).natAbs<18446744073709551616)(x0:0<=x)(x1:x<P)(y0:0<y)(y1:y<P)(hb:P<=18446744073709551616):
  ∃x' s',0<=x'/\x' < P/\Onl ns n0 st s'/\∀e,e=4 \/ e=5->t=e->p0=AA (.loc n0)->ex (yd T (k+4)) (e7 p0 w n x y t q) st lt7=.nx (e7 p0 w n x' y t q) s':=by
 let⟨d,s5,d0,d1,o5,f5⟩:=yaO (k+1) hns (m:=3) (by decide) (by decide) h;have hr:=zjq (a:=x/y*y+d-1) (P:=P) (DM x0 x1);refine⟨_,s5,hr.1,hr.2,o5,?_⟩;have hwm:(w:Int)*(n:Int)=((w*n:Nat):Int):=by simp
 have ht:=λst=>zf7 (k+3) (w*n) (by lia) st;rw[<-hP]at ht;have hd:yJ .fdiv (.int x) (.int y)=AA (.int (x/y)):=zfr y0 (by lia);have hm:yJ .mul (.int (x/y)) (.int y)=AA (.int (x/y*y)):=zcq (by lia);have hmn:=λst=>min1 (a:=P-1) (b:=x/y*y+d-1) st;have hmx:=λst b=>yfy (a:=0) (b:=b) st;intro e he te hp;subst te;subst hp;rcases he with rfl|rfl
 .simp! [lt7,yX,e7,HM,y0,decide_true,zaF hwa,hwm,ht,b_sub,b_add,f5,hd,hm,hmn,hmx]
 .simp! [lt7,yX,e7,HM,y0,decide_true,zaF hwa,hwm,ht,b_sub,b_add,f5,hd,hm,hmn,hmx]
theorem tw7(k:Nat){n0:Nat}{ns:List Int}(hns:ns.length<=1000){st:SO}(h:Drw ns n0 st)(hp:p0=AA (.loc n0))(hP:P=2^(w*n))(hK:w*n<=64)(hwa:(w:Int).natAbs<18446744073709551616)(x0:0<=x)(x1:x<P)(y0:0<=y)(y1:y<P)(hb:P<=18446744073709551616):
  ∃x' s',0<=x'/\x' < P/\Onl ns n0 st s'/\ex (yd T (k+4)) (e7 p0 w n x y t q) st lt7=.nx (e7 p0 w n x' y t q) s':=by
 by_cases hy:0<y
 .by_cases ha:t=4
  .let⟨x',s',a,b,c,d⟩:=tw7a (p0:=p0) (q:=q) (t:=t) k hns h hP hK hwa x0 x1 hy y1 hb;exact⟨x',s',a,b,c,d 4 (.inl rfl) ha hp⟩
  .by_cases hc:t=5
   .let⟨x',s',a,b,c,d⟩:=tw7a (p0:=p0) (q:=q) (t:=t) k hns h hP hK hwa x0 x1 hy y1 hb;exact⟨x',s',a,b,c,d 5 (.inr rfl) hc hp⟩
   .have ha:=beq_eq_false_iff_ne.2 ha;have hc:=beq_eq_false_iff_ne.2 hc;exact⟨x,st,x0,x1,zd9 h,by simp! [lt7,yX,e7,ha,hc]⟩
 .refine⟨x,st,x0,x1,zd9 h,?_⟩
  cases ha:(t==4)<;>cases hc:(t==5)<;>simp! [lt7,yX,e7,ha,hc,hy,decide_false]
end
theorem two(k:Nat){n0:Nat}{ns:List Int}(hns:ns.length<=1000)(w n:Nat)(hw:4<=w)(hw2:w<=16)(hn:1<=n)(hn2:n<=4){st:SO}(h:Drw ns n0 st):
  ∃x y st',0<=x/\x<2^(w*n)/\0<=y/\y<2^(w*n)/\Onl ns n0 st st'/\yd T (k+5) zhn [.loc n0,.int w,.int n] st=.ok (.tup [.int x,.int y]) st':=by
 have hK:4<=w*n:=Ag hw hn;have hK64:w*n<=64:=Ag hw2 hn2;have hwm:(w:Int)*(n:Int)=((w*n:Nat):Int):=by simp
 have hwa:(w:Int).natAbs<18446744073709551616:=by lia
 let⟨hpow,h16⟩:=zej hK hK64;let⟨m0,m1⟩:=zpW hK hK64;let⟨x,s1,x0,x1,o1,f1⟩:=worth k hns w n hw hw2 hn hn2 h;have h1:=o1.drw h;let⟨y,s2,y0,y1,o2,f2⟩:=worth k hns w n hw hw2 hn hn2 h1;have h2:=o2.drw h1;let⟨t,s3,t0,t1,o3,f3⟩:=yaO (k+1) hns (m:=7) (by decide) (by decide) h2;have h3:=o3.drw h2;let⟨p,s4,p0,p1,o4,f4⟩:=yaO (k+1) hns (m:=((w*n:Nat):Int)) m0 m1 h3;have h4:=o4.drw h3;let⟨p,rfl⟩:=zdj p0;have hlt:p<w*n:=Int.ofNat_lt.1 p1;have ht:=zf7 (k+3) p (A5 hlt (BU hK64 (by decide))) s4;have hpK:(2:Int)^p<2^(w*n):=by exact_mod_cast Nat.pow_lt_pow_right (a:=2) (by decide) hlt
 have hp0:(0:Int)<2^p:=Ab (by decide);let⟨ya,ya0,ya1,g4⟩:=tw4 (p0:=AA (.loc n0)) (w:=w) (n:=n) (x:=x) (t:=t) (c:=yd T (k+4)) (st:=s4) hp0 (DJ hpK hpow) y0 y1;let⟨yb,s5,yb0,yb1,o5,g5⟩:=tw5 (w:=w) (n:=n) (x:=x) (t:=t) (q:=2^p) k hns h4 rfl h16 ya0 ya1;have h5:=o5.drw h4;let⟨yc,yc0,yc1,g6⟩:=tw6 (p0:=AA (.loc n0)) (w:=w) (n:=n) (x:=x) (t:=t) (c:=yd T (k+4)) (st:=s5) hp0 hpK yb0 yb1;let⟨xd,s6,xd0,xd1,o6,g7⟩:=tw7 (t:=t) (q:=2^p) k hns h5 rfl rfl hK64 hwa x0 x1 yc0 yc1 hpow;let⟨ye,ye0,ye1,g8⟩:=tw8 (p0:=AA (.loc n0)) (w:=w) (n:=n) (t:=t) (q:=2^p) (c:=yd T (k+4)) (st:=s6) xd0 xd1 yc0 yc1;refine⟨xd,ye,s6,xd0,xd1,ye0,ye1,((((o1.trans o2).trans o3).trans o4).trans o5).trans o6,?_⟩;have hT:T zhn=AA ⟨3,7,AB,yX.body⟩:=rfl
 have hb:yX.body=(match yX.body with
  |.cons q0 (.cons q1 (.cons q2 (.cons q3 _)))=>.cons q0 (.cons q1 (.cons q2 (.cons q3 ltU)))
  |_=>.nil):=rfl
 rw[yd,hT,hb];simp! [Bg,if_false,yX,ltU,f1,f2,f3,zaF hwa,hwm,f4,ht,g4,g5,g6,g7,g8]
noncomputable def tB:Css:=match ya7.body with
 |.cons _ (.cons _ (.cons _ (.cons _ (.cons _ t))))=>t
 |x=>x
noncomputable def tC:Css:=match tB with
 |.cons _ (.cons _ (.cons _ (.cons _ t)))=>t
 |x=>x
noncomputable def tD:Css:=match tC with
 |.cons _ (.cons _ (.cons _ t))=>t
 |x=>x
theorem zn7{A B:List Int}{m:Nat}(ha:A.length=m)(hb:B.length=m)(h:m=1 \/ m=2 \/ m=3 \/ m=4):ybY (.tp AB ((A++B).map .int)) AD (.int m)=AA (.tp AB (A.map .int))/\ybY (.tp AB ((A++B).map .int)) (AA (m:Int)) .non=AA (.tp AB (B.map .int)):=by
 rcases h with rfl|rfl|rfl|rfl
 .match A,B,ha,hb with
  |[a],[b],_,_=>exact⟨rfl,rfl⟩
 .match A,B,ha,hb with
  |[a,a2],[b,b2],_,_=>exact⟨rfl,rfl⟩
 .match A,B,ha,hb with
  |[a,a2,a3],[b,b2,b3],_,_=>exact⟨rfl,rfl⟩
 .match A,B,ha,hb with
  |[a,a2,a3,a4],[b,b2,b3,b4],_,_=>exact⟨rfl,rfl⟩
theorem rep0(W:Int){m:Nat}(h:m=1 \/ m=2 \/ m=3 \/ m=4):ydz (.tp AB [.int 0]) (.int m)=AA (.tp AB ((yh W m 0).map .int)):=by
 rcases h with rfl|rfl|rfl|rfl<;>erw[yh,Int.zero_emod,Int.zero_ediv]<;>rfl
theorem bt2(i j:Nat)(a b:PV)(ρ:IC.Env):yR (.t [i,j]) (.tp AB [a,b]) ρ=AA ((ρ.set i (AA a)).set j (AA b)):=rfl
theorem bt3(i j k:Nat)(a b c:PV)(ρ:IC.Env):yR (.t [i,j,k]) (.tp AB [a,b,c]) ρ=AA (((ρ.set i (AA a)).set j (AA b)).set k (AA c)):=rfl
theorem zf5(ds es:List Int):yN .ne (.tp AB [.tp AB (ds.map .int),.tp AB (es.map .int)]) (.tp AB [.tp AB (ds.map .int),.tp AB (es.map .int)])=AA (.bl AB)/\yN .eq (.tp AB [.tp AB (ds.map .int),.tp AB (es.map .int)]) (.tp AB [.tp AB (ds.map .int),.tp AB (es.map .int)])=AA (.bl AC):=by
 simp[yN,shd,ybG,zdn,peq,ybp,zcP]
section
variable {w n:Nat}(hw:4<=w)(hw2:w<=16)(hn:1<=n)(hn2:n<=4){x y:Int}(x0:0<=x)(x1:x<2^(w*n))(y0:0<y)(y1:y<2^(w*n))(st:SO)
include hw hw2 hn hn2
theorem nums(V:Int):yd T 24 zbX [.tp AB ((yh (2^w) n V).map .int),.int w,.int n] st=.ok (.bl AC) st/\(0<=V->V<2^(w*n)->yd T 24 zel [.tp AB ((yh (2^w) n V).map .int),.int w] st=.ok (.int V) st):=by
 have hW:(0:Int)<2^w:=Ab (by lia);have hp:(2:Int)^(w*n)=(2^w:Int)^n:=CZ;refine⟨number 21 _ hw2 (zdw hW _ _) (zI _ _ _) (by lia) st,λa b=>?_⟩;have f:yd T 24 zel [.tp AB ((yh (2^w) n V).map .int),.int w] st=_:=zjb 23 _ w hw2 (zdw hW _ _) (by rw[zI];lia) st;rw[zf4 hW _ _ a (by rw[<-hp];exact b)]at f;exact f
include x0 x1 y0 y1
theorem yfl:0<=x/y/\x/y<2^(w*n)/\0<=x%y/\x%y<y/\0<=x/y*y/\x/y*y+x%y=x:=by
 have h:=BM x y;have h0:=Ah x (show y≠0 by lia);have h1:=A8 x y0;have h2:=B5 x0 (show 0<=y by lia);have h3:=Gg y x0;have h4:0<=x/y*y:=By h2 (by lia);rw[Ae]at h;exact⟨h2,by lia,h0,h1,h4,by lia⟩
theorem yey{p0 p1:Option PV}:∃ms bk,ybY bk AD (.int n)=AA (.tp AB ((yh (2^w) n (x/y*y)).map .int))/\exs (yd T 24) [p0,p1,AA (.int n),AA (.int w),AA (.int x),AA (.int y),AD,AD,AD,AD,AD,AD,AD] st tB =
  exs (yd T 24) [p0,p1,AA (.int n),AA (.int w),AA (.int x),AA (.int y),AA (.tp AB ((yh (2^w) n (x/y)).map .int)),AA (.tp AB ((yh (2^w) n (x%y)).map .int)),AA ms,AA bk,AD,AD,AD] st tC:=by
 have hW:(0:Int)<2^w:=Ab (by lia);have hp:(2:Int)^(w*n)=(2^w:Int)^n:=CZ;let⟨r0,r1,r2,r3,r4,r5⟩:=yfl hw hw2 hn hn2 x0 x1 y0 y1;let⟨ms,e1⟩:=zlj hw hw2 hn hn2 x0 x1 (by lia) y1 st y0;let⟨m2,e2⟩:=zof hw hw2 hn hn2 r0 r1 (show 0<=y by lia) y1 st;let⟨n1,f1⟩:=nums hw hw2 hn hn2 st (x/y);let⟨n2,_⟩:=nums hw hw2 hn hn2 st (x%y);have f1:=f1 r0 r1;have h2n:(2:Int)*(n:Int)=((2*n:Nat):Int):=by lia
 have n3:yd T 24 zbX [.tp AB ((yh (2^w) (2*n) (x/y*y)).map .int),.int w,.int ((2*n:Nat):Int)] st=.ok (.bl AC) st:=number 21 _ hw2 (zdw hW _ _) (zI _ _ _) (by lia) st;have w1:yh (2^w) (2*n) (x/y*y)=yh (2^w) n (x/y*y)++yh (2^w) n 0:=by
  rw[show 2*n=n+n by lia,zfn hW,BB r4 (by rw[<-hp];lia)]
 let⟨c1,c2⟩:=zn7 (zI (2^w:Int) n (x/y*y)) (zI (2^w:Int) n 0) (by lia);rw[<-w1]at c1 c2;have rp:=rep0 (2^w) (m:=n) (by lia);have q:=zij (yh (2^w) n 0);refine⟨ms,_,c1,?_⟩;have o0:ybU (.int (n:Int))=AA (AA (n:Int)):=rfl
 have hb:tB=(match tB with
  |.cons a (.cons b (.cons c (.cons d _)))=>.cons a (.cons b (.cons c (.cons d tC)))
  |x=>x):=rfl
 have i0:∀(st:SO) (a b c:PV),idxV st (.tp AB [a,b,c]) (.int 0)=AA a:=λ_ _ _ _=>rfl;rw[hb];generalize tC=F at *;generalize PV.tp AB ((yh (2^w) (2*n) (x/y*y)).map .int)=A at *;generalize PV.tp AB ((yh (2^w) n 0).map .int)=Z at *;generalize PV.tp AB ((yh (2^w) n (x/y)).map .int)=B at *;generalize PV.tp AB ((yh (2^w) n (x%y)).map .int)=C at *;simp! [tB,ya7,e1,bt3,h2n,n1,n2,n3,f1,e2,i0,c2,o0,onP,rp,q,IC.ve27]
theorem yeB{p0 p1 A B:Option PV}{bk:PV}(hbk:ybY bk AD (.int n)=AA (.tp AB ((yh (2^w) n (x/y*y)).map .int))):∃u v z,exs (yd T 24) [p0,p1,AA (.int n),AA (.int w),AA (.int x),AA (.int y),A,AA (.tp AB ((yh (2^w) n (x%y)).map .int)),B,AA bk,AD,AD,AD] st tC =
  exs (yd T 24) [p0,p1,AA (.int n),AA (.int w),AA (.int x),AA (.int y),A,AA (.tp AB ((yh (2^w) n (x%y)).map .int)),u,AA bk,v,z,AD] st tD:=by
 let⟨r0,r1,r2,r3,r4,r5⟩:=yfl hw hw2 hn hn2 x0 x1 y0 y1;let⟨a,b,c,e1⟩:=zpN hw hw2 hn hn2 r4 (show x/y*y<2^(w*n)by lia) r2 (show x%y<2^(w*n)by lia) st;rw[r5,A1 x0 x1,decide_eq_false (by lia)]at e1;let⟨d,e,f,e2⟩:=zpT hw hw2 hn hn2 r2 (show x%y<2^(w*n)by lia) (show 0<=y by lia) y1 st;rw[decide_eq_true r3]at e2;have f1:=(nums hw hw2 hn hn2 st (x/y*y)).2 r4 (by lia);have f2:=(nums hw hw2 hn hn2 st (x%y)).2 r2 (by lia);have f3:yd T 24 zcL [.int x,.int w,.int n] st=.ok (.tp AB ((yh (2^w) n x).map .int)) st:=words 22 x w n hw2 (by lia) st;have q:=zij (yh (2^w) n x);refine⟨AA (.tp AB ([0,a,b,c].map .int)),AA (.tp AB ((yh (2^w) n x).map .int)),AA (.tp AB []),?_⟩;have o0:ybU .non=AA none:=rfl
 have hb:tC=(match tC with
  |.cons a (.cons b (.cons c _))=>.cons a (.cons b (.cons c tD))
  |x=>x):=rfl
 have i2:∀(st:SO) (a b c:PV),idxV st (.tp AB [a,b,c]) (.int 2)=AA c:=λ_ _ _ _=>rfl;have k0:∀(st:SO) (a b c d:PV),idxV st (.tp AB [a,b,c,d]) (.int 0)=AA a:=λ_ _ _ _ _=>rfl;have z0:bi AB=0:=rfl;have z1:bi AC=1:=rfl;rw[hb];generalize tD=F at *;generalize PV.tp AB ((yh (2^w) n (x/y*y)).map .int)=G at *;generalize PV.tp AB ((yh (2^w) n x).map .int)=Z at *;generalize PV.tp AB ((yh (2^w) n (x%y)).map .int)=C at *;simp! [tC,tB,ya7,hbk,f1,f2,e1,bt3,f3,q,e2,i2,k0,o0,onP,z0,z1,beq_self_eq_true]
omit x0 x1
theorem yeP{n0:Nat}{ns:List Int}(hns:ns.length<=1000)(h:Drw ns n0 st){p0 a b c d e f g:Option PV}:∃s',exs (yd T 24) [p0,AA (.loc n0),AA (.int n),AA (.int w),a,AA (.int y),b,c,d,e,f,g,AD] st tD=.rt (.bl AC) s':=by
 have hK:w*n<=64:=Ag hw2 hn2;have hpow:=(zej (Ag hw hn:4*1<=w*n) hK).1;have h16:=(zej (Ag hw hn:4*1<=w*n) hK).2;let⟨z,s1,z0,z1,o1,e0⟩:=yaO 21 hns (m:=y) y0 (by lia) h;let⟨m1,e1⟩:=zlj hw hw2 hn hn2 z0 (show z<2^(w*n)by lia) (show 0<=y by lia) y1 s1 y0;let⟨m2,e2⟩:=zlj hw hw2 hn hn2 (show 0<=y by lia) y1 (show 0<=y by lia) y1 s1 y0;rw[BB z0 z1,A1 z0 z1]at e1;rw[Int.ediv_self (by lia),Int.emod_self]at e2;have wd:∀v,yd T 24 zcL [.int v,.int w,.int n] s1=.ok (.tp AB ((yh (2^w) n v).map .int)) s1:=λv=>words 22 v w n hw2 (by lia) s1;have w0:=wd 0;have w1:=wd 1;have wz:=wd z;have q1:=(zf5 (yh (2^w) n 0) (yh (2^w) n z)).1;have q2:=(zf5 (yh (2^w) n 1) (yh (2^w) n 0)).2;have o0:ybU .non=AA none:=rfl;have c2:∀a b c:PV,ybY (.tp AB [a,b,c]) AD (.int 2)=AA (.tp AB [a,b]):=λ_ _ _=>rfl;refine⟨s1,?_⟩;have e0:yd T 24 zcn [.loc n0,.int y] st=.ok (.int z) s1:=e0
 clear wd
 generalize PV.tp AB ((yh (2^w) n 0).map .int)=A at *;generalize PV.tp AB ((yh (2^w) n 1).map .int)=B at *;generalize PV.tp AB ((yh (2^w) n z).map .int)=C at *;simp! [tD,tC,tB,ya7,e0,e1,e2,o0,onP,c2,w0,w1,wz,q1,q2]
end
theorem zgG(l:List Int):nLs [PV.scr (l.map .int)]=true:=by simp[nLs,nL,noLocs_ints]
theorem zkc(ns:List Int)(hns:ns.length<=63):yd T 25 zjY [.scr (ns.map .int)] []=.ok (.bl AC) []:=by
 let⟨o,e1,ho⟩:=fresh 23 ns hns [];have h0:Drw ns 0 [o]:=⟨0,0,AB,by lia,by rw[ho];rfl⟩;have hl:ns.length<=1000:=by lia
 let⟨d,s1,d0,d1,o1,e2⟩:=yaO 21 hl (m:=4) (by lia) (by lia) h0;have h1:=o1.drw h0;let⟨n,hn⟩:=zdj (show 0<=1+d by lia);have hn1:1<=n:=by lia
 have hn2:n<=4:=by lia
 have hq:=zfr (i:=32) (j:=(n:Int)) (by lia) (by lia);obtain⟨q,hqq⟩:∃q:Int,(32:Int)/n=q:=⟨_,rfl⟩;have hq1:n=1/\q=32 \/ n=2/\q=16 \/ n=3/\q=10 \/ n=4/\q=8:=by
  rcases (by lia:n=1 \/ n=2 \/ n=3 \/ n=4)with z|z|z|z<;>subst z<;>simp at hqq<;>lia
 rw[hqq]at hq;have hm:=min1 (a:=13) (b:=q-3) s1;obtain⟨m,hmm⟩:∃m:Int,(if q-3<13 then q-3 else 13)=m:=⟨_,rfl⟩;rw[hmm]at hm;have hm1:0<m/\m<=13:=by split at hmm<;>lia
 let⟨t,s2,t0,t1,o2,e3⟩:=yaO 21 hl (m:=m) (by lia) (by lia) h1;have h2:=o2.drw h1;let⟨w,hw⟩:=zdj (show 0<=4+t by lia);have hw1:4<=w:=by lia
 have hw2:w<=16:=by lia
 let⟨x,y,s3,x0,x1,y0,y1,o3,e4⟩:=two 19 hl w n hw1 hw2 hn1 hn2 h2;have h3:=o3.drw h2;have hmx:=yfy (a:=1) (b:=y) s3;have h16:=(zej (Ag hw1 hn1:4*1<=w*n) (Ag hw2 hn2)).2;obtain⟨z,hz,z0,z1⟩:∃z:Int,(if 1<y then y else 1)=z/\0<z/\z<2^(w*n):=⟨_,rfl,by split<;>lia,by split<;>lia⟩;rw[hz]at hmx;let⟨ms,bk,c1,g1⟩:=yey hw1 hw2 hn1 hn2 x0 x1 z0 z1 s3 (p0:=AA (.scr (ns.map .int))) (p1:=AA (.loc 0));let⟨u,v,r,g2⟩:=yeB hw1 hw2 hn1 hn2 x0 x1 z0 z1 s3 (p0:=AA (.scr (ns.map .int))) (p1:=AA (.loc 0)) (A:=AA (.tp AB ((yh (2^w) n (x/z)).map .int))) (B:=AA ms) c1;let⟨s4,g3⟩:=yeP hw1 hw2 hn1 hn2 z0 z1 s3 hl h3 (p0:=AA (.scr (ns.map .int))) (a:=AA (.int x)) (b:=AA (.tp AB ((yh (2^w) n (x/z)).map .int))) (c:=AA (.tp AB ((yh (2^w) n (x%z)).map .int))) (d:=u) (e:=AA bk) (f:=v) (g:=r);rw[g2,g3]at g1;have hT:T zjY=AA ⟨1,13,AC,ya7.body⟩:=rfl
 have hb:ya7.body=(match ya7.body with
  |.cons a (.cons b (.cons c (.cons d (.cons e _))))=>.cons a (.cons b (.cons c (.cons d (.cons e tB))))
  |x=>x):=rfl
 rw[zc hT rfl rfl (zgG ns)];dsimp only;rw[hb];have e1:yd T 24 zem [.scr (ns.map .int)] []=.ok (.loc 0) [o]:=e1;have E2:yd T 24 zcn [.loc 0,.int 4] [o]=_:=e2;have E3:yd T 24 zcn [.loc 0,.int m] s1=_:=e3;have E4:yd T 24 zhn [.loc 0,.int w,.int n] s2=.ok (.tp AB [.int x,.int y]) s3:=e4;generalize tB=F at *;simp! [ya7,e1,E2,hn,hq,hm,E3,hw,bt2,E4,hmx,g1,zom]
end WK
namespace WK
open PySem L2 IC
theorem walk{l:Eu}{q:A9}{loose:List AQ}{XP:(AQ->Option AF)->BF->Prop}{YP:Al->BF->Prop}{d:DefRec}{K:Params->AE}(hn:l.most=AA 63)(hdf:d.params.defaults=[])
  (hY:∀(w:Al) (h:BF),YP w h->(K w.params).In h)
  (F:∀(w:Al) (mg:AQ->Option AF) (fa:AI) (h:BF),(K w.params).In h->h.Ns mainGlobals mg->mg d.name=AA (.ref fa) ->
   ∃fd:BG,(∀(s:AJ) (u:AF),F8 s fd ⟨[u],[]⟩ [("_law_script",u)])/\∀base:BF,(K w.params).In base->base.Ns mainGlobals mg->yaP l.prog w (K w.params) mg base (CX1 l.prog w) (2*25) fa fd ["_law_script"] (spX (K w.params) (yd T 25) zjY)):
  Gu q loose XP YP l.row.toRowW d [] (λf vs=>HC f vs):=
 L2.walk_of (n:=63) (k:=2*25) (x:="_law_script") (CX:=λw=>CX1 l.prog w) (sp:=λw=>spX (K w.params) (yd T 25) zjY) hn (by decide) hdf ⟨rfl,by decide,by decide⟩ hY F (λw H a ns hl _ hS=>zhI zkc hl hS) λ_ _ _ _ _ z=>znU z
end WK
end
open PySem PySem.W PyProof.Rows
theorem PySem.Challenge.cw_widewords_k45_whole_quotients_lead_back_holds : PySem.Challenge.rw_widewords_k45_whole_quotients_lead_back.Holds := by
 refine hd0 ?_
 k_fill
 refine WK.walk (l:=PySem.Challenge.rw_widewords_k45_whole_quotients_lead_back) rfl rfl (λw h Y=>PySem.W.kIn_of Y) ?F
 case F =>
  intro w mg fa h KX G hmg
  refine' L2.all_mk2 (t:=WK.tbQ) KX G hmg ?R ?B ?D WK.kb_all ?Ml WK.ok_all WK.T_ok (L:=104) rfl 25
  case R =>
   repeat' (first|exact trivial|apply And.intro|(refine' L2.rowFn ?a9 ?l9 ?c9 ?p9 ?b9;(case a9|l9|c9|p9=>k_is);(case b9=>((repeat intro _);first|rfl|kernel_rfl)))|(refine' L2.rowMe ?z9 ?a9 ?i9 ?l9 ?c9 ?p9 ?b9;(case z9=>((first|rw[WK.cn_20]|rw[WK.cn_21]);k_is));(case a9|i9|l9|c9|p9=>k_is);(case b9=>((repeat intro _);first|rfl|kernel_rfl)))|(refine' L2.rowIni ?z9 ?a9 ?i9 ?l9 ?c9 ?p9 ?b9 ?m9 ?k9;(case z9=>((first|rw[WK.cn_20]|rw[WK.cn_21]);k_is));(case a9|i9|l9|c9|p9=>k_is);(case b9=>((repeat intro _);first|rfl|kernel_rfl));(case m9|k9=>k_is))|(refine' L2.rowFd ?a9 ?l9 ?c9 ?p9 ?d9 ?e9 ?v9;(case a9|l9|c9|p9|d9=>k_is);(case e9=>rfl);(case v9=>(repeat first|exact .nil|refine .cons ⟨_,rfl⟩ ?_))))
  case B=>kernel_rfl
  case D =>
   repeat' (first|exact trivial|apply And.intro|intro _|(refine' L2.gd_mk KX G ?a9 ?l9 ?s9 ?r9 ?n9;(case a9|l9=>k_is);(case s9=>rfl);(case r9=>(repeat first|exact .nil|refine L2.con_row (by kernel_rfl) ?_));(case n9=>decide +kernel)))
  case Ml =>
   repeat' (first|exact trivial|apply And.intro|(refine' L2.gdf_mk KX G ?a9 ?l9 ?r9 ?n9;(case a9|l9=>k_is);(case r9=>(repeat first|exact .nil|refine L2.frow_cons (by kernel_rfl) ?_));(case n9=>decide +kernel)))
