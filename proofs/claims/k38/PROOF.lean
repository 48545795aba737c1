import PyProof.Rows.All
import OpenK.KLine
import Wide.FinOn
import KE.KRevSl
import KE.KItem
import KE.KxWritten
import KE.KFromBytes
import KE.LcSums
import KE.KBits
import KE.KTryMore
import PySem.Challenge.RW_widewords_k38_whole_signed_products
set_option Elab.async false
set_option linter.all false
set_option maxRecDepth 100000
set_option maxHeartbeats 0
set_option genSizeOf false in
set_option genInjectivity false in
structure PySem.W.Fast:Prop where(tw9569864462518296998 tw14837628016822825753 tw1415537556302951468 tw6659847984067443807 tw10463970591603187280 tw12874621449164409490 tw16347368675445322029 tw16470425184953359038 tw10074173887524908756 tw6721576500076905032 tw7925199212868611226 tw2143194145236326384 tw4743622703206890758 tw5582278121865402222 tw7287155303325371975 tw9183138996413505265 tw17610196256415385561 tw13319722465711899034 tw4987394294933755630 tw3412651987242692391 tw5068977863074694977 tw7561743191316503888 tw9404292081097708020 tw13871754104591724034 tw192855474964112095 tw5566435392870025979 tw11052904637730323422 tw9390114406514743263 tw15114018677019012404 tw655018563485058151 tw15102686076096383717 tw2240168833689170455 tw6140563286352010634 tw2484148307588563183 tw18150438009273792433 tw17270741713198379328 tw8969228298166091179 tw7396007710416088117 tw17856168050900642125 tw8306858879272652745 tw10061331994585783745 tw11625352843814104370 tw16334517923019052169 tw12146389924602033906 tw6671840634692013360 tw12636701067703333292 tw9162721542120127830 tw1430177998601364396 tw14321850308349490111 tw14288747195778349270 tw10455912284445518836 tw10363203907615603934 tw4276995491221010455 tw16492153947562324264 tw10316976218296715033 tw4068335703659632365 tw7028896646234187205 tw8450380575087806379 tw10786905327605979064 tw9737202657212022431 tw8967013638586201274 tw11720747197232559031 tw12220759551225492717 tw16899937220534331871 tw1764180381174828835 tw4197724086315991227 tw16672519148670177033 tw8164379311992995302 tw7787690052748325480 tw14422772240626327974 tw13575778362772579548 tw11558001335942434555 tw10696737567543567447 tw2682693071807040856 tw1567182362816751980 tw10795499463310692645 tw6576930874114821541 tw15898876490577784637 tw11432835142404944978 tw4345652294919634407 tw6328168262091396593 tw1667552625164415298 tw13090289589560920019 tw16536529492266528920 tw17275748359171661595 tw13063302518415051750 tw9288749412287943955 tw3789399343417337574 tw8557981256398128993 tw13328178036897016530 tw10571235019072029084 tw11262895994331362531 tw11500229078491665010 tw14515846630759155889 tw4481318393606941838 tw16212082397506342270 tw5129815590241121771 tw17381933329994774943 tw15320955228011458099 tw221225121100887316 tw11417419658469995487 tw9878188910617140785 tw181937484998399716 tw7375856845661796031 tw7681074531902006888 tw3900175563450520319 tw13123639902971317059 tw13094020397220990842 tw17610578847793078828 tw17810747194233289805 tw13403211837064563550 tw13124027753460358642 tw17448590759146416785 tw17596430705862791217 tw4647623404472975188 tw10232422783416199495 tw15847574923925153089 tw13993838015920163029 tw2943612378254228485 tw6006372553270734289 tw810122332825446900 tw15283094660030723380 tw1060201128779138730 tw18131722699110843985 tw3574170833925157663 tw18165642044922956790 tw13393670132889516869 tw14416925101166091312 tw13770222995053912140 tw561267612266519472 tw11664561743152778505 tw9209012794049689826 tw17341609239623309946 tw4754318504932283297 tw14394521029104355517 tw10580113736740751031 tw16017999662897063149 tw5899328966845573718 tw3207272415174655996 tw9608428384918708412 tw8797163598962242231 tw7124507291106526476 tw11403470683222063912 tw12422361490157883768 tw4861631242480292463 tw310537423534317999 tw5948638664351809991 tw4617278261934968330 tw5046369614304607748 tw12965636414819877801 tw14380377490527660259 tw860029184327589190 tw15546300126367427033 tw5620920712397249883 tw9009846856320113697 tw12679748447028472108 tw17208455153897613286 tw11211593223137395720 tw4939655657603935566 tw5131125459333042010 tw17699319197328470920 tw14156519413552771971 tw540145475114396878 tw12309483007818096553 tw9798050290976068673 tw8406782203384859729 tw10644539329473106710 tw9477529966448956843 tw5654949408616933509 tw11858054187465886397 tw3748790856712109708 tw15080186047786031183 tw18118653582907847645 tw13051192815975612090 tw12576877573714159218 tw5765604608724612320 tw4546943411925764271 tw1759240881999828800 tw14051089178699899635 tw15561769718294875778 tw14290465916260629301 tw17145578432640951530 tw8316931812691470534 tw5186922138461473546 tw6082469714712868401 tw6325353907495982800 tw922356606382211884 tw15834519515626044460 tw11735015768416154256 tw3465555146899110470 tw5076759728297424370 tw10195038033901912012 tw10051896014248397715 tw2172817228017899223 tw2736214271018479459 tw15474705517306154867 tw11741807097939665548 tw9170075628871775799 tw17546830930350631198 tw3383411036434404394 tw12142753935107384424 tw15379650405749881042 tw11703946849553116357 tw7363069124075325471 tw16743167564075992146 tw13838021860174326260 tw11106007905112251033 tw6319598949848492239 tw4886576765086093616 tw743459669975986370 tw13029152242137601216 tw15856195192439957996 tw14434906486149833918 tw4229761231738885413 tw13546378439934567682 tw7534624342536476213 tw3255664557173634198 tw8251184747969471105 tw4885002266414062387 tw6512787577383174679 tw13184951536047286468 tw15495673989022920032 tw11126779080387354726 tw7424294030540662172 tw16434258152867461593 tw2291257543682829636 tw3928013674194937137 tw12345267467767687971 tw17755198532151715436 tw12235533993145805961 tw12537989451670833535 tw450411518577382025 tw6293758997067048205 tw17512633849361390672 tw18270671275980106520 tw3544341903682421397 tw15266491690268181276 tw5608019933885829422 tw17716479149052736867 tw4406687801866912002 tw625746862538479663 tw1461606459873707642 tw1125140694956492694 tw1468785509245089711 tw2633848926037211608 tw7881684097233767975 tw5329754288034141938 tw11240051749844486918 tw3845833369043993213 tw9541152122027192069 tw5375191211671061517 tw13361535436033630846 tw3909731654069153804 tw7343389075965700010 tw14771839376859659486 tw14943419613164906470 tw15315119576128733319 tw6431185272534327168 tw13555874853995494419 tw2893322494920206072 tw10765122167621817080 tw2043101222905532461 tw11583281756508072989 tw2821555435042377383 tw8469966868265059030 tw8279586576335615114 tw2901554832286038083 tw4624154472689265586 tw5934410487977410405 tw14113566410556130919 tw7781349839443521385 tw2334990471470440145 tw15747441432442398131 tw13261466790766043780 tw17717006166036202146 tw9747343706804450814 tw3009167149224063152 tw12890102417665695874 tw1633828663883719748 tw3956187588502706885 tw59770029465277872 tw13422499872739712667 tw11786151043723174576 tw14901993532201352135 tw15532658552914475334 tw1882587148114910379 tw2357412894492479544 tw9167745050999211384 tw1086736001404829167 tw489605043462559807 tw15701222018098312495 tw3619331353280565477 tw10036835044629835105 tw17354538005390919192 tw12283541672226362080 tw2263549272935274371 tw13882687575447164251 tw156187433137681369 tw14888860021595713463 tw16986163755639902580 tw1124226932607626085 tw16607860573001800553 tw9002683001515729680 tw7554451084093343856 tw4284958699584726529 tw11798830109857786124 tw10149331235060491170 tw7902447315231182204 tw1484122642867813568 tw14572343899785966759 tw11664696604925521232 tw15463049941655399214 tw13635835226802015787 tw8390365169070013089 tw13918670052879819114 tw10569657693299815012 tw13182038768589363548 tw2911179896940634865 tw17053281323326740192 tw1623064365135357269 tw15636980215216688189 tw15965844667181895031 tw8478814920381664153 tw3296349348523097025 tw11175278001734730432 tw3198719808093615129 tw11648561592996509571 tw16239702341271966395 tw12490965877515391478 tw5725846626424709184 tw9585081153306889585 tw8831607788040669884 tw12508822423380257272 tw1358187613571373667 tw17512752333296234371 tw8935631555078081181 tw16806071925669446101 tw9028923894697092497 tw4256623550532429169 tw13479318323542214109 tw12647919235322722497 tw17801638245210219553 tw18066877790879610890 tw7767391489275030088 tw11647126455462417451 tw7950780826343601618 tw5393121475550395192 tw1094901969663808873 tw15898594493588245987 tw11479927843402486598 tw9476505993898833168 tw6074609096587946069 tw7080216979365953681 tw4451384287079430086 tw14797202455680732432 tw14922581355946131026 tw16829397961561072166 tw10412174223161470012 tw6480917408609482976 tw1709280952523348831 tw5335184177777555415 tw13587065947579789271 tw3283450278778863646 tw9463562133230145625 tw9511261954397832277 tw2383000870546770894 tw15871068845449825399 tw5367934797669642813 tw11985451820329726133 tw16284830771101937006 tw1211872999033610700 tw4565245147385949819 tw3426999359924844251 tw14741787657295955608 tw8824343456703725745 tw11065873042256493280 tw431240989296642876 tw8233058890657895294 tw11077991197046630249 tw15320078218264921248 tw63298032779032903 tw6898044006686895152 tw973359145349688737 tw5250925657664969792 tw10027071391911947740 tw12565286633761501368 tw15865076453242790439 tw2508132227128221083 tw4337484924856078697 tw4136698391372918818 tw7547736787627833259 tw2904545229991885373 tw8258935249689543199 tw3431317181167031760 tw3825706028813817301 tw9982963451423800935 tw1581182704805082715 tw16494174562492496470 tw5277849765277415984 tw13903591382898872486 tw3920013325286055475 tw909523945395252287 tw8652021281153790423 tw4240786097456493432 tw3493455206169207831 tw5200543387142388731 tw4059460171514157432 tw6254166863204599963 tw3638313235232377349 tw10841547579281480247 tw3178436352653242033 tw2098224128134627977 tw7786675200721141502 tw16205532305656561679 tw17637438379036732865 tw9134642427976194452 tw15552827759987178151 tw1557555430674731103 tw10128770574522243084 tw583441472157006708 tw11961697604036885944 tw2380204722700424274 tw2323043399175784243 tw7929504168282619556 tw14136860554356401830 tw6445983820193009603 tw17151037125806839856 tw1451614263686850137 tw7396307554121194775 tw6290287242237099129 tw12472616420684884012 tw465405290356896134 tw4483367738186614494 tw5536787799423034994 tw15847825366509396647 tw18206773003078766762 tw14098877361268914017 tw10156292231179270021 tw4882111207496837565 tw17774020973410715706 tw9486606862069079150 tw1724524117966350222 tw7391388064154205793 tw5369895161378780946 tw5246045564022409481 tw14479943889519509907 tw9610201010827043206 tw16065998035683307131 tw9053038232988628748 tw17814422590363478450 tw16229980368764890087 tw17983312548680553443 tw17906754423351918072 tw14174737360723864765 tw12607521007319781811 tw9660773252997461402 tw7698822971059132128 tw5557774036968139327 tw1462773967573850350 tw4973020855301957280 tw4527564401539096656 tw13097531306732772680 tw8043961906670939067 tw16874033677673482309 tw6329480474673424882 tw9819654968618079206 tw2870207336671384484 tw14139627415142645410 tw10517134187622051611 tw6611835043472482458 tw4395719702560603020 tw17702494806381496101 tw5029238129130386170 tw16992338428185549908 tw15061627169465771340 tw10978763838096158756 tw10420781523696801136 tw4726680027851486731 tw4325537210522460536 tw12415066917588094680 tw2373275630531674209 tw16121270549223585860 tw9303999083487897723 tw15992652921006257436 tw12273168803376779395 tw16680480526136574221 tw17753521578012330408 tw932982029901103720 tw10130756965957725694 tw7838683064270601777 tw7454725496219174841 tw7042746841224229961 tw2908690865751000504 tw11554577845334654944 tw16876388244291471449 tw2255070818350208855 tw13939710434172772004 tw8180642319687630915 tw14357250423043677201 tw8307916423425211047 tw11021169983654749051 tw8842242086546733728 tw3631451686399925751 tw7595918107375800089 tw7983620794534622403 tw11280593580518890410 tw16623284786897180808 tw1049677702092224135 tw12422506848607574023 tw13661910160620178254 tw14197385198034614917 tw10422659497721706812 tw9117977305443424030 tw9273447031689928716 tw13095959674498604470 tw10108853252993323929 tw8672914048668115108 tw7158679793421325962 tw1078264062753220898 tw9040399994472044160 tw17359420414787606510 tw815133324936235088 tw18289850141423370613 tw14342826805086101653 tw12840043810495398415 tw10720159000381404871 tw10675876447389035698 tw2635485185317354898 tw4113567222576991741 tw6778423287299897521 tw525043111100208383 tw2634627082183379980 tw2424858280840162571 tw1086886108063668748 tw13428560407027191587 tw2988182638465765243 tw14776143499219233427 tw12677698550563766947 tw14280456402328676239 tw4252169977663045275 tw15542368947824259742 tw9198302849802859919 tw14360038955052803350 tw7688876020145314006 tw17494897889085838144 tw13090018673045822209 tw5550559050673118243 tw6353254623150603234 tw9632768900659266674 tw11533403804051133413 tw15431962757373584093 tw4034697954270091334 tw17195531862341392116 tw13595538524115326196 tw710084333762179822 tw25714182332935597 tw3040940663985110811 tw2431308672514927049 tw10421081027980098981 tw12657155671721162735 tw264592025436330420 tw825713712335508267 tw3637240009561124700 tw11441922314783714853 tw13390131902254932412 tw11478883564062233487 tw16063330948861200429 tw6829677985407012876 tw2190832414121937539 tw16089669840786573830 tw9038543430511686332 tw3727183780421138074 tw1432677762727815121 tw15917118341248380725 tw12112199247579278788 tw5756500795165123412 tw11740591537306788777 tw10652496796405458254 tw4687583228250210581 tw1533420892857895924 tw14542963984834834755 tw11979894598924081327 tw7825121665987498325 tw4286496008365905378 tw13706504629273073746 tw8288713501649452219 tw17162029524616512600 tw9783833925789265718 tw15176818743843390414 tw17087085759439457178 tw13726500342868012230 tw10302621666302175134 tw7661124664660169420 tw9583710279929945100 tw2828895907490755277 tw16407539111756040464 tw7324900309429310158 tw3908674604942035567 tw7388103648144399865 tw9976696007453682198 tw5215423976631519016 tw15288882583462928092 tw1021774980023125637 tw14280118911513131097 tw10239742243089248823 tw5749822713490787765 tw16883935059547546438 tw12787416064084790946 tw13794703431073271010 tw3108001200799334839 tw6570793027052268767 tw9588654323068828985 tw13125699825347799964 tw8320167929858848160 tw16299274041196205348 tw17331592793132979815 tw6629317497833710499 tw16482249162409307618 tw3659202726145647038 tw223020342826236049 tw10919213382008802642 tw16472995892076702979 tw17110719038900629267 tw9171257173080200195 tw5970931060681725881 tw11845364247001900786 tw6901621560349333921 tw10040951426872325416 tw15051894152318310387 tw12247958966168317658 tw16202941453437235700 tw12491400504398673448 tw10503728366213045885 tw14626877548011625479 tw13250038802303427271 tw3003614202995277381 tw12661283497061715982 tw342529092365355262 tw9406635394391927232 tw13415319108594956922 tw1707193124094702881 tw8576733825917262282 tw3184456312969305896 tw15566128888476863274 tw4397230756852066108 tw5373727898828075943 tw15860415500351814310 tw8184217593709550133 tw17390113899876038420 tw9602885908946173382 tw12536934595922781087 tw14590464450496979763 tw688006588494323361 tw12034156829403800210 tw3665698009234882608 tw6293074014429588393 tw8665515377338864777 tw5737496762297978276 tw10943175620116466587 tw2698250873602837235 tw4359108427019273005 tw5066861505840958257 tw7275719164279881616 tw15364807989981055286 tw8187879454963655453 tw14520356037116577526 tw11153163099397063134 tw7425666227468902087 tw2120940846759571136 tw7014984099407345754 tw10242824634418234180 tw3834347833418582082 tw11375644557308714179 tw2129803508253545081 tw9464755943480301143 tw6566734681043465170 tw4160957199739030807 tw11225644864894532778 tw11066135840415082850 tw8191166110686656465 tw6102981337759272168 tw10179927207188555476 tw9601638326077403063 tw11278540809887641054 tw4367470100209106741 tw12121456531962156082 tw6166844145989113893 tw15174976979364239973 tw16569481276329842283 tw11702429247099084130 tw3592331191567302814 tw3348758455366040646 tw8844799790833043192 tw529416409370851517 tw10433782865210580322 tw15534880838116193308 tw14658151344857724409 tw1929658591477328998 tw11502729321313337934 tw18146259695880446831 tw5957558708406316473 tw6821380412433359781 tw3683353869349811653 tw1036224115224625863 tw13178087679007473773 tw6400635766763508442 tw11492188256362873283 tw11713697483465610776 tw5255449623325802444 tw12539950750798083837 tw13904477665850904446 tw8890824421625207450 tw9627704582884565749 tw14959803207994314437 tw7372418160837969028 tw18047528565089203365 tw7259778875397295425 tw10910245513254562438 tw6721354491018588445 tw4879609028805397505 tw13402863407280171304 tw13201761705784222271 tw3381003888376236074 tw3667431572505972422 tw13217672572725832615 tw6932161569418973543 tw9330486683603615940 tw5657486827043705604 tw9748697105472873334 tw16544182419410430238 tw7579822474644047792 tw13768504887227277791 tw17257147668252867542 tw785913145052555121 tw5430995245213183660 tw10442384354588392477 tw12118801794861043919 tw12188067847123089329 tw1804136909846565425 tw12963223765096683197 tw6782027523742734422 tw18405396720693702394:True)
open_top hd0 for PySem.Challenge.rw_widewords_k38_whole_signed_products
set_option compiler.extract_closed false
set_option bootstrap.genMatcherCode false
set_option genSizeOf false
local macro_rules | `(tactic| ac_rfl)=>`(tactic| with_unfolding_all rfl)
open Option renaming some->AA,none->AD,isSome_iff_exists->BA,bind_some->B7,getD_some->CY,any_eq_true_iff_get->Cz,map_some->DM,get_some->FQ,getD_none->GX,join_some->G0
open Bool renaming true->AB,false->AC,and_eq_true->AK,false_ne_true->BF,false_eq_true->BW,not_eq_true'->Cp,or_eq_true->DL,true_and->Da,eq_iff_iff->Dt,and_self->Eg,false_or->Fe,true_or->GJ,or_false->Gy
open PySem.W renaming Frag->AE,keepIn->Az,findIn->BC,nsIn->BT,kitOne->Bc,fnOf->Bf,emptyDict->Bl,instObj->CL,codeIn->C0,kia_one->Cm,plainGet->DB,isFn->DC,hideAll->DJ,callWith_K->DN,hasDictIn->DP,makesIn->Dp,plainGet_of->Dw,lookIn->EL,methodObj->E7,plainOver->E8,mg_of->Eh,OpenLaw->Eu,cellsFrom_some->Ez,takerIn->FM,methodCall_KW->FU,hideAll_get->F6,callWith_K0->F9,excIn->Ff,of_hideAll->Fj,handedIn->GS,WalkO->Gh,Rel2->HI
open PySem.Str renaming ofString->AF,empty->GT
open PySem renaming Value->AG,wpAny_bind->AH,Addr->AI,Shared->AJ,wpAny_pure->AN,Str->AR,Expr->AV,wpAny->AX,Program->A8,World->An,Around->Ay,Heap->BI,FuncData->BK,wpAny_newObj_type->BQ,wpAny_field->BS,Env->B8,wpAny_callSpecial?_slot->Ba,wpAny_Call_Name_kw->Bb,Scope->Bj,wpAny_truthy_bool->Bk,Stmt->CC,Obj->CO,wpAny_call_entry->CV,DictEntry->CW,wpAny_pyIter_tuple->C3,Pos->C5,wpAny_passesOwn->C6,wpAny_mono->C8,IsPair->C9,Keyword->Ca,mem_of_lookup->Cb,noFill_tuple_add->Cc,wpAny_seqItems->Cd,wpAny_setField_rec->Ck,wpAny_holding->DH,seq_tuple_add->DI,NameKind->DQ,wpAny_inplaceOp_concat->DZ,strKind_is->D6,wpAny_standAt->D9,Operator->Dj,sizeLine_eq->Dl,wpAny_execs_nil->Do,codeAny_mono->Dz,wpAny_sequenceKey->E9,slot_list_getitem->Ea,IsZip->Ec,wpAny_getItem_list_slice->Ee,wpAny_comprehension_free->Ef,PassesOwn->El,wpAny_rule->Ex,IsPart->FA,wpAny_typeOf->FB,wpAny_loadName_local->FX,wpAny_setField->FZ,wpAny_updateSeq_pair->F0,BindsTo->F5,wpAny_loadName_cell->F7,CmpOp->Fb,evalPart_none->Fc,wpAny_onRaise->Fg,call_meets->Fm,tupleKind_room_in1->Fq,Within->Fv,wpAny_assign_Name->Fx,concat_meets->GE,wpAny_pyIter_enum->GH,wpAny_pyIter_list->GI,ZipApart->GM,wpAny_execs_cons->GR,wpAny_pyIter_zip->G3,wpAny_getItem_of->G4,seqIndex_of->G7,Paired->Gi,wpAny_Name->Gj,Result->Gk,wpAny_call->Gm,typeIs_str->Go,call->Gp,Sem->Gw,Builtin->HG,BoolOp->HK,Tok->Ha
open List renaming map_cons->AL,getElem?_set_ne->AO,mem_cons->AQ,mem_cons_of_mem->AT,size_toArray->AU,length_cons->AZ,mem_of_getElem?->A0,not_mem_nil->A1,append_nil->A2,map_nil->A5,getElem?_set_self->A9,flatMap_cons->Aa,cons_append->Ab,length_append->Ac,flatMap_nil->Ag,getElem?_append_left->Ai,mem_cons_self->Aj,getElem?_cons_succ->Ap,mem_append->Ar,mem_append_right->As,nil_append->Au,getElem?_append_right->Aw,length_map->Ax,getElem?_cons_zero->BD,replicate->BG,getElem?_eq_none->BN,getElem?_eq_some_iff->BP,append_assoc->B0,set_cons_zero->B4,set_cons_succ->B5,map_append->B6,length_set->Be,all_eq_true->Bg,all_cons->Bo,lookup_cons->Bt,any_cons->Bu,getElem?_map->Bv,filterMap_cons->Bz,length_nil->CA,getElem?_eq_getElem->CD,lookup->CG,find?_cons->CM,length->Ch,getElem?_set->Co,range->Cq,reverse_cons->DS,filterMap->DU,take_of_length_le->DV,ext_getElem?->DY,mem_map->D0,set_set->D1,length_singleton->D2,mem_iff_getElem?->D4,isEmpty_iff->D7,sum_cons->De,eq_nil_of_length_eq_zero->Dn,nodup_cons->Dq,foldl_cons->Ds,length_reverse->Dy,mem_filterMap->EJ,zip_cons_cons->ES,getD_eq_getElem?_getD->EU,getElem?_eq_none_iff->EY,drop_eq_getElem_cons->E1,pairwise_iff_getElem->E5,length_take->En,getElem?_replicate->Eo,isEmpty_nil->Es,any_eq_true->Et,sum_nil->FK,of_mem_zip->FN,forIn_cons->FO,mem_range->FV,mem_append_left->FW,length_pos_iff->Fa,isEmpty_cons->GL,length_drop->GW,take_length->GY,drop_length->GZ,zipIdx_cons->G1,mem_filter->Ga,zipIdx_nil->Ge,drop_zero->Gr,forIn_nil->Gu,set_comm->Gx
open PySem.Heap renaming get?_push_of_some->AM,lt_size->AY,get?_push_size->A4,size_push->CH,SameBut->Ci,get?_update_other->DR,get?_update_self->FR,IsTuple->GF,MadeExcOf->Gq,FlyingW->HH
open Nat renaming le_refl->AS,lt_of_lt_of_le->A6,pow_le_pow_right->Al,ne_of_lt->Av,mul_le_mul->BH,le_trans->B9,lt_or_ge->CF,zero_add->CS,reduceEqDiff->Cg,le_succ->Ct,lt_irrefl->DG,le_add_right->D5,add_assoc->Dh,reduceSub->Di,zero_le->Dm,mod_two_eq_zero_or_one->EW,reduceAdd->Ei,ne_of_gt->Ey,succ_mul->FI,mul_le_mul_right->F1,and_lt_two_pow->Fr,xor_lt_two_pow->Ft,le_of_lt->Fw,lt_succ_self->GU,reduceLeDiff->G5,le_of_eq->HF,pow_succ->HL,xor_self->HN,mul_add->HZ
open Option.some renaming inj->AW
open Int renaming emod_eq_of_lt->A3,mul_comm->A7,emod_lt_of_pos->Ad,pow_succ->Ae,pow_pos->Af,one_mul->Ak,emod_nonneg->Ao,zero_mul->Aq,emod_add_mul_ediv->BE,add_zero->BJ,mul_le_mul_of_nonneg_right->BL,ediv_ediv_of_nonneg->BO,ediv_eq_zero_of_lt->BU,mul_assoc->BX,ediv_lt_of_lt_mul->BY,add_mul_emod_self_left->BZ,mul_le_mul_of_nonneg_left->B1,sub_mul->Bm,ediv_nonneg->Bq,mul_nonneg->By,mul_sub->CB,mul_add->CJ,toNat_natCast->CK,pow_zero->CT,pow_mul->CU,mul_left_comm->C7,natAbs_mul->Cf,mul_one->Cr,add_mul->Cy,pow_add->DA,ediv_one->DD,add_emod_right->DO,add_comm->EC,add_mul_emod_self_right->ED,fdiv_eq_ediv_of_nonneg->EK,mul_le_mul->EX,mul_zero->FJ,add_mul_ediv_right->FL,emod_emod_of_dvd->F2,mul_right_comm->Fu,zero_add->GO,mul_emod->GP,le_refl->G9,mul_eq_zero->Gf,add_assoc->Gz,sub_emod->HP,mul_pos->HX,mul_neg->HY
open PyProof.Rows renaming slot_tuple_getitem->Ah,callWith_type1->CQ,AllBare->D8,entry_tuple_getitem->Dx,assignInOrder_cons->EI,slicePart_none->EN,args_tuple_getitem->EO,tupleItemsOf_->E0,IntsAre->FD,subscriptTail_builtinR->FE,Subscript_->Fk,assignInOrder_nil->Fy,callWith_builtin1->GV,IsTup->G6,boot_isinstance->Gd,iadd_int->Gg,tail_any->Gn,bitAnd_m1->HM
open PySem.Value renaming ref->Am,none->CZ,bool->EF,int->Ej,type->Ew,str->GQ,isStrOf->Gv,isInt->HQ,bytes->HR,float->HS
open PySem.Builtin renaming bitXor->BB,bitAnd->BR,bitOr->Bd
open Ne renaming symm->BM
open PySem.Builtin.Tuple renaming tupleExact->BV,tupleItemsOf->Cu
open PySem.Builtin.Slice renaming slicePlaces->B2,sliceApplied->C1,sliceAdjust->DE,sliceFields->EZ,slicePartIndex->Gb
open PySem.Builtin.SmallTypes renaming nextOf->B3,ownedTupleIsFree->Bp,ownedTupleHandOut->DF
open PySem.PyData renaming eqv->Bi,canLay0->Cw,depth->DX,eqvAll->Db,keyHash->ET,canLayAll0->Eb,depthAll->FP
open PySem.F renaming args_tuple_add_2->Bn,entry_tuple_add->Bs,slot_tuple_add->Bw,slot_tuple_iterator_next->C2,slot_dict_get->D3,args_tuple_iterator_next_1->Dr,slot_zip_next->Du,entry_tuple_iterator_next->EA,slot_dict_getitem->E6,args_dict_get_3->Ep,entry_dict_get->FH,slot_list_append->FT,args_zip_next_1->GN,entry_zip_next->G2
open False renaming elim->Br
open PySem.Challenge renaming rw_widewords_k38_whole_signed_products->CN,pw_widewords_k38_whole_signed_products->Dv
open Array renaming length_toList->CP,append_assoc->EG,getElem?_eq_some_iff->ER,toList->HE
open PySem.Heap.FunFrames renaming mem->C4
open True renaming intro->Cj
open PySem.NameKind renaming free->Cn,cell->Fd
open PySem.Value.type renaming inj->Cv
open Eq renaming refl->DW
open PySem.Builtin.Str renaming strSliceIndices->EB,occurrences->Em
open PySem.Calls renaming Name_function_global->EH,spliced_cons->EM,callWith_builtin->FG,evalArgs_plain->FY,spliced_nil->GB
open PySem.Heap.IsSliceOf renaming new->EQ
open PySem.ScopeKind renaming function->EV
open PySem.Paired renaming length->Ed,snoc->HW
open PyProof.Rows.IsTup renaming new->Ek
open PySem.Obj renaming mapSeq->FF,data_mapFields->Fp
open Sum renaming inl->F3,inr->F4
open PySem.Heap.SameBut renaming update->F8,refl->Hg
open PySem.SeqAt.EqAt renaming int_str->Fh,str_int->Fi
open PySem.Around renaming under->Fz
open PySem.Code renaming isFrame->GA,frames->HU
open PySem.WalksT renaming enumerateD->GG
open PySem.Shared renaming heap->G8
open ForInStep renaming yield->Gc
open PySem.Flow renaming next->HA
open PySem.Builtin.Range renaming rangeSize->HB
open PySem.Heap.UpToSlots renaming of_keeps->HC
open And renaming intro->HD
open PySem.SeqAt renaming shaped->HJ,EqAt->Hc
open Prod renaming ext->HV
open PySem.W.Looks renaming here->Hb
open PySem.W.WShape renaming has->Hd
open PySem.Within renaming cons->He
open List.Pairwise renaming nil->Hf
open PySem.W.WData renaming int->Hh
noncomputable section
open Lean in
def cnvP:Nat->Syntax->MacroM (TSyntax `rcasesPat)
 |0,_=>Macro.throwUnsupported
 |n+1,s=>do
  if s.isOfKind ``Lean.Parser.Term.anonymousCtor then `(rcasesPat| ⟨$[$(← s[1].getSepArgs.mapM (cnvP n)):rcasesPat],*⟩)
  else if s.isIdent then `(rcasesPat| $(⟨s⟩):ident)
  else if s.isOfKind ``Lean.Parser.Term.hole then `(rcasesPat| _)
  else Macro.throwUnsupported
local macro_rules | `(tactic| let $p:term := $e)=>do `(tactic| obtain $(← cnvP 9 p):rcasesPat := $e)
local macro_rules | `(tactic| erw [$rs,*] $(l)?)=>do
 let t<-rs.getElems.mapM λ|`(Lean.Parser.Tactic.rwRule| $t:term)=>`(Lean.Parser.Tactic.simpLemma| $t:term)|_=>Lean.Macro.throwUnsupported
 `(tactic| simp only[$t,*] $(l)?)
local macro_rules | `(fun $bs* => $b)=>do
 if !(bs.any λx=>x.raw.isOfKind ``Lean.Parser.Term.anonymousCtor)||(b.raw.find? λx=>x.isOfKind ``Lean.Parser.Term.syntheticHole).isSome then Lean.Macro.throwUnsupported
 `(by rintro $[$(← bs.mapM λx=>cnvP 9 x.raw):rcasesPat]*;exact $b)
set_option backward.eqns.nonrecursive false
namespace L2
open PySem PySem.Spec PyProof.Rows
abbrev Key:=Sum Int AR
def yb1:Key->AG->Bool
 | .inl k,v=>HQ k v
 | .inr x,v=>Gv x v
def ygP(w:An):Key->Int
 | .inl k=>hashInt k
 | .inr x=>hashStr w x
theorem zI:∀{k:Key} {v:AG},yb1 k v=AB->(∃i t,k=F3 i/\v=Ej i t) \/ (∃x t,k=F4 x/\v=GQ x t)
 | .inl i,v,h=>by
  let⟨t,e⟩:=Value.isInt_shape (k:=i) (v:=v) h;exact .inl ⟨i,t,rfl,e⟩
 | .inr x,v,h=>by
  let⟨t,e⟩:=Value.isStrOf_shape (x:=x) (v:=v) h;exact .inr ⟨x,t,rfl,e⟩
theorem ziO(i:Int)(t:Ha):yb1 (.inl i) (.int i t)=true:=by simp[yb1,HQ]
theorem zhN(x:AR)(t:Ha):yb1 (.inr x) (.str x t)=true:=by simp[yb1,Gv]
theorem zo5(a b:Int):decide ((F3 a:Key)=F3 b)=(a == b):=by
 by_cases e:a=b
 .subst e;simp
 .have h:¬(F3 a:Key)=F3 b:=λq=>e (Sum.inl.inj q);rw[decide_eq_false h];exact(beq_eq_false_iff_ne.mpr e).symm
theorem znz(a b:AR):decide ((F4 a:Key)=F4 b)=decide (a=b):=by
 by_cases e:a=b
 .subst e;simp
 .have h:¬(F4 a:Key)=F4 b:=λq=>e (Sum.inr.inj q);rw[decide_eq_false h,decide_eq_false e]
theorem zm9(a:Int)(b:AR):decide ((F3 a:Key)=F4 b)=false:=decide_eq_false (λq=>nomatch q)
theorem znR(a:AR)(b:Int):decide ((F4 a:Key)=F3 b)=false:=decide_eq_false (λq=>nomatch q)
def yV(prog:A8)(w:An):PySem.KeyKind prog w Key where
 is:=yb1
 hash:=ygP w
 inj:=λv a b ha hb=>by
  rcases zI ha with⟨i,t,rfl,rfl⟩|⟨x,t,rfl,rfl⟩
  .rcases zI hb with⟨j,u,rfl,e⟩|⟨y,u,rfl,e⟩
   .injection e with e1 _;rw[e1]
   .exact nomatch e
  .rcases zI hb with⟨j,u,rfl,e⟩|⟨y,u,rfl,e⟩
   .exact nomatch e
   .injection e with e1 _;rw[e1]
 byValue:=λk v h=>by
  rcases zI h with⟨i,t,rfl,rfl⟩|⟨x,t,rfl,rfl⟩<;>rfl
 pyHash:=λhv h=>by
  rcases zI hv with⟨i,t,rfl,rfl⟩|⟨x,t,rfl,rfl⟩
  .exact wpAny_pyHash_int h
  .exact wpAny_pyHash_str h
 eqBool:=λhu hv h=>by
  rcases zI hu with⟨i,t,rfl,rfl⟩|⟨x,t,rfl,rfl⟩
  .rcases zI hv with⟨j,u,rfl,rfl⟩|⟨y,u,rfl,rfl⟩
   .rw[zo5]at h;exact wpAny_eqBool_int h
   .rw[zm9]at h;exact Fh i t y u _ _ _ _ h
  .rcases zI hv with⟨j,u,rfl,rfl⟩|⟨y,u,rfl,rfl⟩
   .rw[znR]at h;exact Fi x t j u _ _ _ _ h
   .rw[znz]at h;exact wpAny_eqBool_str h
 «strs»:=λk x t v h=>by
  rcases zI h with⟨i,u,rfl,e⟩|⟨y,u,rfl,e⟩
  .exact nomatch e
  .injection e with e1 _;subst e1
   cases v<;>rfl
theorem zfT(prog:A8)(w:An)(i:Int)(t:Ha):(yV prog w).is (.inl i) (.int i t)=true:=ziO i t
theorem zfM(prog:A8)(w:An)(x:AR)(t:Ha):(yV prog w).is (.inr x) (.str x t)=true:=zhN x t
inductive V where
 | non|bl (b:Bool)|int (i:Int)|str (x:AR)|byt (b:Array UInt8)|flt (b:UInt64)|ref (a:AI)|ty (n:String)
 deriving DecidableEq
def RelV:V->AG->Prop
 | .non,u=>u=CZ
 | .bl b,u=>u=EF b
 | .int i,u=>∃t,u=Ej i t
 | .str x,u=>∃t,u=GQ x t
 | .byt b,u=>∃t,u=HR b t
 | .flt b,u=>∃t,u=HS b t
 | .ref a,u=>u=Am a
 | .ty n,u=>u=Ew n
abbrev Vals:List V->List AG->Prop:=Gi RelV
theorem Vals.length{xs:List V}{us:List AG}(r:Vals xs us):xs.length=us.length:=Ed r
theorem Vals.get:∀{xs:List V} {us:List AG} {i:Nat} {x:V},Vals xs us->xs[i]?=AA x->∃u,us[i]?=AA u/\RelV x u
 |_,_,_,_,.nil,e=>by simp at e
 |_,_,0,_,.cons r _,e=>by simp at e;subst e;exact⟨_,rfl,r⟩
 |_,_,i+1,x,.cons _ t,e=>by
  let⟨u,h1,h2⟩:=Vals.get (i:=i) (x:=x) t (by simpa using e);exact⟨u,by simpa using h1,h2⟩
theorem Vals.set{x:V}{u:AG}(r:RelV x u):∀{xs:List V} {us:List AG} (i:Nat),Vals xs us->Vals (xs.set i x) (us.set i u)
 |_,_,_,.nil=>.nil
 |_,_,0,.cons _ t=>.cons r t
 |_,_,i+1,.cons q t=>.cons q (Vals.set r i t)
theorem Vals.append:∀{xs ys:List V} {us ws:List AG},Vals xs us->Vals ys ws->Vals (xs++ys) (us++ws)
 |_,_,_,_,.nil,s=>s
 |_,_,_,_,.cons r t,s=>.cons r (Vals.append t s)
theorem Vals.take:∀{xs:List V} {us:List AG} (n:Nat),Vals xs us->Vals (xs.take n) (us.take n)
 |_,_,0,_=>.nil
 |_,_,_+1,.nil=>.nil
 |_,_,n+1,.cons r t=>.cons r (Vals.take n t)
theorem Vals.drop:∀{xs:List V} {us:List AG} (n:Nat),Vals xs us->Vals (xs.drop n) (us.drop n)
 |_,_,0,r=>r
 |_,_,_+1,.nil=>.nil
 |_,_,n+1,.cons _ t=>Vals.drop n t
theorem Vals.none_of:∀{xs:List V} {us:List AG} {i:Nat},Vals xs us->xs[i]?=AD->us[i]?=none:=λ{xs us i} r e=>by
 have h1:=r.length;have h2:xs.length<=i:=EY.mp e;exact EY.mpr (by lia)
def ybB:Option V->Option AG->Prop
 |some v,AA u=>RelV v u
 |none,AD=>True
 |_,_=>False
def KV{κ:Type}:List (κ×V)->List (κ×AG)->Prop:=Gi λ(p:κ×V) (q:κ×AG)=>p.1=q.1/\RelV p.2 q.2
def kV:Key->V
 | .inl i=>.int i
 | .inr x=>.str x
inductive HO where
 | lst (xs:List V)
 | tup (xs:List V)
 | dK (kvs:List (Key×V))|dT (kvs:List (List Key×V))
 | set (S:Int->Bool) (n:Nat)
 | ins (C dx:AI) (fs:List (AR×V))
 | own (x:AI)
 | xd (fs:List (AR×V))
 | met (f x:AI)
 | rng (lo hi:Int)
 | frz (o:CO) (u:HO)
 | tbl (ps:Array AG)
 | ext (φ:BI->Prop)
abbrev Hp:=AI->Option HO
def upd(H:Hp)(a:AI)(o:HO):Hp:=λb=>if b=a then AA o else H b
theorem zu{H:Hp}{a:AI}{o:HO}:upd H a o a=AA o:=by unfold upd;rw[if_pos rfl]
theorem zk{H:Hp}{a b:AI}{o:HO}(h:b≠a):upd H a o b=H b:=by unfold upd;rw[if_neg h]
theorem zpW{H:Hp}{a b:AI}{o u:HO}(h:H a=AA o)(h':H b=AA u)(d:o≠u):a≠b:=by
 intro e;subst e;rw[h]at h';exact d (AW h')
theorem zn{H:Hp}{a b:AI}{o:HO}(h:H a=AA o)(h':H b=AD):a≠b:=by
 intro e;subst e;rw[h]at h';cases h'
section
variable (P:A8)(w:An)
def yad(H:Hp)(h:BI)(a:AI):HO->Prop
 | .lst xs=>xs.length<=sizeLine/\∃(its:List AG) (n:Nat),Vals xs its/\h.get? a=AA { cls:=.type "list",data:=.seq its.toArray n }
 | .tup xs=>xs.length<=sizeLine/\∃its:List AG,Vals xs its/\G6 h a its.toArray
 | .dK kvs=>kvs.length<=sizeLine/\(a == sysModules)=AC/\∃vs,KV kvs vs/\h.DictOf (yV P w) a vs
 | .dT kvs=>kvs.length<=sizeLine/\(a == sysModules)=AC/\∃xs:List (List Key×AI×AG),
   Gi (λ(p:List Key×V) (q:List Key×AI×AG)=>p.1=q.1/\H q.2.1=AA (.tup (p.1.map kV))/\RelV p.2 q.2.2) kvs xs /\
   ∃o es ep,h.get? a=AA o/\o.ExactDict/\o.data=.dict es ep/\es.toList=xs.map (entryOfKey (tupleKind (yV P w)))/\(xs.map (·.1)).Nodup
 | .set S n=>h.SetOf (intKind P w) a S n
 | .ins C dx fs=>H dx=AA (.own a)/\fs.length<=1000/\dx≠a/\h.get? a=AA (CL C dx) /\
   ∃mA,h.Ns1 dx mA/\(∀f,ybB (fs.lookup f) (mA f))/\Fv mA (fs.map (·.1))
 | .own _=>∃o,h.get? a=AA o
 | .xd fs=>∃mA,h.Ns1 a mA/\∀f,ybB (fs.lookup f) (mA f)
 | .rng lo hi=>∃t u v,h.get? a=AA { cls:=.type "range",data:=.fields #[.int lo t,.int hi u,.int 1 v] }
 | .frz o u=>h.get? a=AA o/\yad H h a u
 | .tbl ps=>h.get? a=AA { cls:=.none,data:=.fields ps }
 | .met f x=>h.get? a=AA (E7 (.ref f) (.ref x))
 | .ext φ=>φ h/\(∃o,h.get? a=AA o)/\∀h1 h2:BI,φ h1->(∀o,h1.get? a=AA o->h2.get? a=AA o)->φ h2
def HOk(H:Hp)(h:BI):Prop:=∀a o,H a=AA o->yad P w H h a o
end
section
variable {P:A8}{w:An}{H H':Hp}{h h':BI}{a:AI}{o:HO}
theorem yad.lt(x:yad P w H h a o):a<h.objs.size:=by
 cases o with
 |lst xs=>let⟨_,_,_,_,e⟩:=x;exact AY e
 |tup xs=>let⟨_,_,_,p⟩:=x;exact p.lt
 |dK kvs=>let⟨_,_,_,_,o,_,_,e,_⟩:=x;exact AY e
 |dT kvs=>let⟨_,_,_,_,o,_,_,e,_⟩:=x;exact AY e
 |set S n=>let⟨o,_,_,_,e,_⟩:=x;exact AY e
 |ins C dx fs=>let⟨_,_,_,e,_⟩:=x;exact AY e
 |own y=>let⟨_,e⟩:=x;exact AY e
 |xd fs=>let⟨_,⟨_,_,_,e,_⟩,_⟩:=x;exact AY e
 |rng lo hi=>let⟨_,_,_,e⟩:=x;exact AY e
 |frz ob u=>let⟨e,_⟩:=x;exact AY e
 |tbl ps=>exact AY (show h.get? a=AA _ from x)
 |met f y=>exact AY (show h.get? a=AA _ from x)
 |ext φ=>let⟨_,⟨_,e⟩,_⟩:=x;exact AY e
theorem Paired.mapP{α β:Type}{F G:α->β->Prop}:∀{l₁:List α} {l₂:List β},Gi F l₁ l₂->(∀a b,F a b->G a b)->Gi G l₁ l₂
 |_,_,.nil,_=>.nil
 |_,_,.cons r t,f=>.cons (f _ _ r) (Paired.mapP t f)
theorem yad.stay(x:yad P w H h a o)(k:∀b u,(b=a \/ H b=AA (.own a))->h.get? b=AA u->h'.get? b=AA u)
  (ho:∀b,H b=AA (.own a)->H' b=AA (.own a)) (ht:∀b xs,H b=AA (.tup xs)->H' b=AA (.tup xs)):yad P w H' h' a o:=by
 induction o with
 |lst xs=>let⟨z,its,n,r,e⟩:=x;exact⟨z,its,n,r,k _ _ (.inl rfl) e⟩
 |tup xs=>let⟨z,its,r,ob,e,c⟩:=x;exact⟨z,its,r,ob,k _ _ (.inl rfl) e,c⟩
 |dK kvs=>let⟨z,y,vs,r,ob,es,ep,e,c⟩:=x;exact⟨z,y,vs,r,ob,es,ep,k _ _ (.inl rfl) e,c⟩
 |dT kvs =>
  let⟨z,y,xs,r,ob,es,ep,e,c⟩:=x;exact⟨z,y,xs,Paired.mapP r λp q z=>⟨z.1,ht _ _ z.2.1,z.2.2⟩,ob,es,ep,k _ _ (.inl rfl) e,c⟩
 |set S n=>let⟨ob,es,ep,t,e,c⟩:=x;exact⟨ob,es,ep,t,k _ _ (.inl rfl) e,c⟩
 |ins C dx fs =>
  let⟨d,z,ne,e,mA,⟨od,es,ep,e2,c⟩,r⟩:=x;exact⟨ho _ d,z,ne,k _ _ (.inl rfl) e,mA,⟨od,es,ep,k _ _ (.inr d) e2,c⟩,r⟩
 |own y=>let⟨ob,e⟩:=x;exact⟨ob,k _ _ (.inl rfl) e⟩
 |xd fs=>let⟨mA,⟨od,es,ep,e,c⟩,r⟩:=x;exact⟨mA,⟨od,es,ep,k _ _ (.inl rfl) e,c⟩,r⟩
 |rng lo hi=>let⟨t,u,v,e⟩:=x;exact⟨t,u,v,k _ _ (.inl rfl) e⟩
 |frz ob u ih=>let⟨e,q⟩:=x;exact⟨k _ _ (.inl rfl) e,ih q⟩
 |tbl ps =>
  have e:h.get? a=AA { cls:=.none,data:=.fields ps }:=x;show h'.get? a=AA { cls:=.none,data:=.fields ps };exact k a _ (.inl rfl) e
 |met f y =>
  have e:h.get? a=AA (E7 (.ref f) (.ref y)):=x;show h'.get? a=AA (E7 (.ref f) (.ref y));exact k a _ (.inl rfl) e
 |ext φ=>let⟨p,⟨o,e⟩,st⟩:=x;exact⟨st _ _ p λo q=>k _ _ (.inl rfl) q,⟨o,k _ _ (.inl rfl) e⟩,st⟩
theorem HOk.lt(x:HOk P w H h)(e:H a=AA o):a<h.objs.size:=(x a o e).lt
theorem HOk.fresh(x:HOk P w H h)(e:h.objs.size<=a):H a=none:=by
 cases q:H a with
 |none=>rfl
 |some u=>exact absurd (A6 (x.lt q) e) (DG _)
theorem HOk.kept(x:HOk P w H h)(k:∀b u,h.get? b=AA u->h'.get? b=AA u):HOk P w H h':=λa o e =>
 (x a o e).stay (λb u _ q=>k b u q) (λ_ q=>q) λ_ _ q=>q
theorem HOk.laid(x:HOk P w H h)(k:∀b u,h.get? b=AA u->h'.get? b=AA u)(hp:h.objs.size<=a)(new:yad P w (upd H a o) h' a o):HOk P w (upd H a o) h':=λb u e=>by
 have hn:=x.fresh hp
 by_cases hb:b=a
 .subst hb;rw[zu]at e;cases e;exact new
 .rw[zk hb]at e;exact(x b u e).stay (λc v _ q=>k c v q) (λc q=>by rw[zk (zn q hn)];exact q) λc xs q=>by rw[zk (zn q hn)];exact q
end
def Rd(H:Hp)(a:AI)(u:HO):Prop:=H a=AA u \/ ∃o,H a=AA (.frz o u)
theorem Rd.of{H:Hp}{a:AI}{u:HO}(h:H a=AA u):Rd H a u:=.inl h
theorem Rd.ok{P:A8}{w:An}{H:Hp}{h:BI}{a:AI}{u:HO}(r:Rd H a u)(x:HOk P w H h):yad P w H h a u:=by
 rcases r with r|⟨o,r⟩
 .exact x a u r
 .let⟨_,q⟩:=x a _ r;exact q
def Mut:Option HO->Prop
 |some (.lst _)=>True
 |some (.dK _)=>True
 |some (.dT _)=>True
 |some (.set _ _)=>True
 |some (.ins _ _ _)=>True
 |some (.ext _)=>True
 |_=>False
section
variable {P:A8}{w:An}{H:Hp}{h h':BI}{x e:AI}{o':HO}
theorem HOk.write(ok:HOk P w H h)(mu:Mut (H x))(he:e=x \/ H e=AA (.own x))(k:∀b u,b≠e->h.get? b=AA u->h'.get? b=AA u)(heo:∃u,h'.get? e=AA u)
  (new:yad P w (upd H x o') h' x o'):HOk P w (upd H x o') h':=λb u q=>by
 have nown:∀c y,H c=AA (.own y)->c≠x:=λc y r z=>by subst z;rw[r]at mu;exact mu
 have ntup:∀c xs,H c=AA (.tup xs)->c≠x:=λc xs r z=>by subst z;rw[r]at mu;exact mu
 by_cases hb:b=x
 .subst hb;rw[zu]at q;cases q;exact new
 .rw[zk hb]at q
  by_cases hbe:b=e
  .have q':H b=AA (.own x):=by
    rcases he with z|z
    .exact absurd (hbe.trans z) hb
    .rw[hbe];exact z
   rw[q]at q';cases q';let⟨v,hv⟩:=heo;exact⟨v,by rw[hbe];exact hv⟩
  .refine(ok b u q).stay (λc v hc r=>k c v ?_ r) (λc r=>by rw[zk (nown c b r)];exact r) λc xs r=>by rw[zk (ntup c xs r)];exact r
   rcases hc with rfl|hc
   .exact hbe
   .rintro rfl
    rcases he with z|z
    .exact nown c b hc z
    .rw[hc]at z;cases z;exact hb rfl
end
structure Un(fs ex:List AI)(H H':Hp)(h h':BI):Prop where
 keep:∀b o,h.get? b=AA o->H b=AD->b∉fs->b∉ex->h'.get? b=AA o
 slot:∀b o,h.get? b=AA o->H b=AD->b∈fs->b∉ex->∃sl,h'.get? b=AA { o with slots:=sl }
 free:∀b o,h.get? b=AA o->H b=AD->b∉ex->H' b=AD
 there:∀b o,h.get? b=AA o->b∉ex->∃o',h'.get? b=AA o'
 tups:∀b xs,H b=AA (.tup xs)->H' b=AA (.tup xs)
 frzs:∀b o u,H b=AA (.frz o u)->H' b=AA (.frz o u)
 tbls:∀b ps,H b=AA (.tbl ps)->∃more,H' b=AA (.tbl (ps++more))
section
variable {fs fs' ex ex':List AI}{H H1 H2:Hp}{h h1 h2 h':BI}{a x e:AI}{o:HO}
theorem Un.any(u:Un fs ex H H1 h h1){b:AI}{ob:CO}(q:h.get? b=AA ob)(n:H b=AD)(hx:b∉ex):∃sl,h1.get? b=AA { ob with slots:=sl }:=by
 by_cases hb:b∈fs
 .exact u.slot b ob q n hb hx
 .exact⟨ob.slots,u.keep b ob q n hb hx⟩
theorem Un.kept(k:∀b u,h.get? b=AA u->h'.get? b=AA u):Un fs ex H H h h' :=
 ⟨λb ob q _ _ _=>k b ob q,λb ob q _ _ _=>⟨ob.slots,k b ob q⟩,λ_ _ _ n _=>n,λb ob q _=>⟨ob,k b ob q⟩,λ_ _ q=>q,λ_ _ _ q=>q,λ_ ps q=>⟨#[],by rw[q];simp⟩⟩
theorem Un.refl:Un fs ex H H h h:=Un.kept λ_ _ q=>q
theorem Un.laid(k:∀b u,h.get? b=AA u->h'.get? b=AA u)(hp:h.objs.size<=a)(hn:H a=AD):Un fs ex H (upd H a o) h h' where
 keep:=λb u q _ _ _=>k b u q
 slot:=λb u q _ _ _=>⟨u.slots,k b u q⟩
 free:=λb u q n _=>by rw[zk (Av (A6 (AY q) hp))];exact n
 there:=λb u q _=>⟨u,k b u q⟩
 tups:=λb xs q=>by rw[zk (zn q hn)];exact q
 frzs:=λb u xs q=>by rw[zk (zn q hn)];exact q
 tbls:=λb ps q=>⟨#[],by rw[zk (zn q hn),q];simp⟩
theorem Un.write(mu:Mut (H x))(he:e=x \/ H e=AA (.own x))(k:∀b u,b≠e->h.get? b=AA u->h'.get? b=AA u)(heo:∃u,h'.get? e=AA u):Un fs ex H (upd H x o) h h':=by
 have hx:∀b,H b=AD->b≠x:=λb n z=>by subst z;rw[n]at mu;exact mu
 have hb:∀b,H b=AD->b≠e:=λb n z=>by
  subst z;rcases he with r|r
  .exact hx b n r
  .rw[n]at r;cases r
 have hm:∀b u,H b=AA u->¬Mut (AA u)->b≠x:=λb u q nm z=>by subst z;rw[q]at mu;exact nm mu
 refine⟨λb u q n _ _=>k b u (hb b n) q,λb u q n _ _=>⟨u.slots,k b u (hb b n) q⟩,λb u q n _=>by rw[zk (hx b n)];exact n,λb u q _=>?_,
  λb xs q=>by rw[zk (hm b _ q λz=>z)];exact q,λb u xs q=>by rw[zk (hm b _ q λz=>z)];exact q,λb ps q=>⟨#[],by rw[zk (hm b _ q λz=>z),q];simp⟩⟩
 by_cases hbe:b=e
 .subst hbe;exact heo
 .exact⟨u,k b u hbe q⟩
end
def trk(h:BI)(H:Hp):List Addr:=(Cq h.objs.size).filter λa=>(H a).isSome
def ycx(h:BI)(H:Hp):Heap:=DJ h (trk h H)
theorem ziM(h:BI)(H:Hp):(ycx h H).objs.size=h.objs.size:=PySem.W.hideAll_size _ _
theorem zkf{h:BI}{H:Hp}{b:AI}{o:CO}(e:h.get? b=AA o)(n:H b=AD):(ycx h H).get? b=AA o :=
 F6 _ e λhm=>by
  have q:(H b).isSome=true:=(Ga.mp hm).2;rw[n]at q;simp at q
theorem zlA{h:BI}{H:Hp}{b:AI}{o:CO}(e:(ycx h H).get? b=AA o):h.get? b=AA o/\H b=none:=by
 have e':h.get? b=AA o:=Fj (trk h H) e;refine⟨e',?_⟩
 cases q:H b with
 |none=>rfl
 |some x =>
  have hm:b∈trk h H:=Ga.mpr ⟨FV.mpr (AY e'),by simp[q]⟩;have z:(ycx h H).get? b=none:=PySem.W.hideAll_none (trk h H) hm;rw[z]at e;cases e
structure Mod(K:AE)(mg:AR->Option AG)(base:BI):Prop where
 kin:K.In base
 glob:base.Ns mainGlobals mg
 blt:∃mb,base.Ns builtinsNs mb/\∀x:AR,x ≠ "__name__"->mb x=bootBuiltins x
 nolimit:base.NoLimit
structure Cx where
 prog:A8
 w:An
 K:AE
 mg:AR->Option AG
 base:BI
 A:Ay
 N:List AR
 s₀:AJ
 H₀:Hp
 env:Env
 outer:List Env
 stack:List Env
 ex:List AI
 fn:AR->Bool
 calm:Bool
 pn:List (AI×CO)
 xe:AG->AJ->Prop
def frs(l:List Env):List Addr:=l.filterMap (·.frame)
abbrev Cx.fs(X:Cx):List Addr:=frs X.outer
def Vis(sc:Bj)(x:AR):Prop:=sc.names.lookup x=AA .local \/ sc.names.lookup x=AA .cell \/ sc.names.lookup x=AA .free
def Loc(sc:Bj)(x:AR):Prop:=sc.names.lookup x=AA .local \/ sc.names.lookup x=AA .cell
def Look(env:Env)(h:BI)(m:AR->Option AG)(x:AR)(u:AG):Prop :=
 (env.kindOf x=AA .local/\m x=AA u) \/ ((env.kindOf x=AA .cell \/ env.kindOf x=AA .free)/\∃c,env.cells.lookup x=AA c/\h.IsCell c (AA u))
structure Cx.Ok(X:Cx):Prop where
 mod:Mod X.K X.mg X.base
 kind:X.env.scope.kind=.function
 glob:X.env.globals=mainGlobals
 blt:X.env.builtins=builtinsNs
 above:X.s₀.heap.objs.size<=X.env.locals
 inj:∀x y c,X.env.cells.lookup x=AA c->X.env.cells.lookup y=AA c->x=y
 has:∀x,(X.env.kindOf x=AA .cell \/ X.env.kindOf x=AA .free)->∃c,X.env.cells.lookup x=AA c
 cab:∀x c,X.fn x=AB->X.env.cells.lookup x=AA c->X.s₀.heap.objs.size<=c
 hd:X.calm=AB->X.A.handled=AD
 frames:X.A.frames=AA X.stack
 stk:X.stack=X.outer \/ (X.stack=X.env::X.outer/\X.env.frame=AA X.env.locals)
 exf:∀b∈X.ex,b≠X.env.locals/\∀x c,X.env.cells.lookup x=AA c->c≠b
 bs:∀b o,X.base.get? b=AA o->X.s₀.heap.get? b=AA o/\X.H₀ b=AD
 bsz:X.base.objs.size<=X.s₀.heap.objs.size
 noex:∀b o,X.base.get? b=AA o->b∉X.ex
 exfs:∀b∈X.ex,b∉X.fs
 funs:X.s₀.heap.FunFrames X.base X.outer
 frf:∀b∈X.fs,X.H₀ b=AD
structure Inv(X:Cx)(pins:List (AI×CO))(σ:List (Option V))(H:Hp)(s:AJ):Prop where
 ok:X.Ok
 os:s.os=X.s₀.os
 bare:D8 s.gens
 base:Un X.fs X.ex X.H₀ H X.s₀.heap s.heap
 loc:∃m,s.heap.Ns X.env.locals m/\∀(i:Nat) (x:AR) (v:V),X.N[i]?=AA x->σ[i]?=AA (AA v)->Vis X.env.scope x->∃u,RelV v u/\Look X.env s.heap m x u
 cell:∀x c,X.env.cells.lookup x=AA c->∃v,s.heap.IsCell c v
 free:H X.env.locals=AD
 freeC:∀x c,X.env.cells.lookup x=AA c->H c=AD
 pin:∀p∈X.pn++pins,s.heap.get? p.1=AA p.2/\H p.1=AD/\p.1≠X.env.locals/\p.1∉X.fs/\∀v,p.2.data ≠ .cell v
 hok:HOk X.prog X.w H s.heap
 len:σ.length=X.N.length
section
variable {X:Cx}{pins:List (AI×CO)}{σ:List (Option V)}{H H':Hp}{s:AJ}{h':BI}
theorem Cx.Ok.nofr(ok:X.Ok){b:AI}{o:CO}(e:X.base.get? b=AA o):b∉X.fs:=λhb=>by
 have:=(ok.funs.mem hb).1;rw[e]at this;cases this
theorem Inv.bs(I:Inv X pins σ H s):∀b o,X.base.get? b=AA o->s.heap.get? b=AA o/\H b=none:=λb o e =>
 ⟨I.base.keep b o (I.ok.bs b o e).1 (I.ok.bs b o e).2 (I.ok.nofr e) (I.ok.noex b o e),I.base.free b o (I.ok.bs b o e).1 (I.ok.bs b o e).2 (I.ok.noex b o e)⟩
theorem Inv.bk(I:Inv X pins σ H s):∀b o,X.base.get? b=AA o->s.heap.get? b=AA o:=λb o e=>(I.bs b o e).1
theorem Inv.mod(I:Inv X pins σ H s):Mod X.K X.mg X.base:=I.ok.mod
theorem Inv.kIn(I:Inv X pins σ H s):X.K.In s.heap:=I.ok.mod.kin.keeps I.bk
theorem Inv.lt(I:Inv X pins σ H s):X.env.locals<s.heap.objs.size:=let ⟨_,hn,_⟩:=I.loc;hn.lt
theorem Inv.sz(I:Inv X pins σ H s):X.s₀.heap.objs.size<=s.heap.objs.size:=B9 I.ok.above (Fw I.lt)
theorem Inv.nofs(I:Inv X pins σ H s){a:AI}(h:s.heap.objs.size<=a):a∉X.fs:=λhb=>by
 let⟨_,o,ho,_⟩:=I.ok.funs.mem hb;exact absurd (A6 (AY ho) (B9 I.sz h)) (DG _)
theorem Inv.cne(I:Inv X pins σ H s):∀x c,X.env.cells.lookup x=AA c->c≠X.env.locals:=λx c e z=>by
 let⟨v,o,ho,hd⟩:=I.cell x c e;let⟨m,⟨o',es,ep,ho',hd',_⟩,_⟩:=I.loc;rw[z,ho']at ho;cases ho;rw[hd']at hd;cases hd
theorem Inv.funs(I:Inv X pins σ H s):s.heap.FunFrames X.base X.outer:=by
 have all:∀(l:List Env),(∀b∈frs l,b∈X.fs)->X.s₀.heap.FunFrames X.base l->s.heap.FunFrames X.base l:=by
  intro l
  induction l with
  |nil=>intro _ _;trivial
  |cons env r ih =>
   intro hs hl;let⟨hk,⟨L,o,hf,hn,ho,hd⟩,hr⟩:=hl;have hL:L∈X.fs:=hs L (by unfold frs;rw[Bz,hf];exact Aj);let⟨sl,e⟩:=I.base.slot L o ho (I.ok.frf L hL) hL λz=>I.ok.exfs L z hL;exact⟨hk,⟨L,_,hf,hn,e,hd⟩,ih (λb hb=>hs b (by unfold frs;rw[Bz,hf];exact AT _ hb)) hr⟩
 exact all X.outer (λ_ hb=>hb) I.ok.funs
theorem Inv.stack(I:Inv X pins σ H s):s.heap.FunFrames X.base X.stack:=by
 rcases I.ok.stk with e|⟨e,hf⟩
 .rw[e];exact I.funs
 .rw[e];let⟨m,hn,_⟩:=I.loc;refine .cons (by rw[I.ok.kind];decide) hf hn ?_ I.funs;exact Heap.get?_none_of_le (B9 I.ok.bsz I.ok.above)
theorem Inv.stkSub(I:Inv X pins σ H s):∀b∈frs X.stack,b∈X.env.locals::X.fs:=λb hb=>by
 rcases I.ok.stk with e|⟨e,hf⟩
 .rw[e]at hb;exact AT _ hb
 .rw[e]at hb;unfold frs at hb;rw[Bz,hf]at hb;exact hb
theorem Inv.stkFree(I:Inv X pins σ H s):∀b∈frs X.stack,H b=none:=λb hb=>by
 rcases AQ.mp (I.stkSub b hb)with e|hb
 .rw[e];exact I.free
 .let⟨_,o,ho,_⟩:=I.ok.funs.mem hb;exact I.base.free b o ho (I.ok.frf b hb) λz=>I.ok.exfs b z hb
theorem Inv.step{g':Array GenState}{t':Nat}{d':Drawn}{ch:List AI}(I:Inv X pins σ H s)
  (hch:∀b∈ch,(b∈X.ex \/ X.s₀.heap.objs.size<=b)/\b≠X.env.locals/\(∀x c,X.env.cells.lookup x=AA c->c≠b)/\∀p∈X.pn++pins,p.1≠b)
  (keep:∀b o,b≠X.env.locals->b∉X.fs->b∉ch->s.heap.get? b=AA o->H b=AD->h'.get? b=AA o)
  (slot:∀b o,b≠X.env.locals->b∈X.fs->b∉ch->s.heap.get? b=AA o->H b=AD->∃sl,h'.get? b=AA { o with slots:=sl }) (free:∀b o,b∉ch->s.heap.get? b=AA o->H b=AD->H' b=AD)
  (there:∀b o,b∉ch->s.heap.get? b=AA o->∃o',h'.get? b=AA o')
  (tups:∀b xs,H b=AA (.tup xs)->H' b=AA (.tup xs)) (frzs:∀b o u,H b=AA (.frz o u)->H' b=AA (.frz o u)) (tbls:∀b ps,H b=AA (.tbl ps)->∃more,H' b=AA (.tbl (ps++more)))
  (ns:∀m,s.heap.Ns X.env.locals m->h'.Ns X.env.locals m) (hok:HOk X.prog X.w H' h') (hg:D8 g') :
  Inv X pins σ H' { s with heap:=h',gens:=g',drawn:=d',toks:=t' }:=by
 have neL:∀b o,X.s₀.heap.get? b=AA o->b≠X.env.locals:=λb o e=>Av (A6 (AY e) I.ok.above);have neC:∀b o,X.s₀.heap.get? b=AA o->b∉X.ex->b∉ch:=λb o e hx hb=>by
  rcases (hch b hb).1 with z|z
  .exact hx z
  .exact absurd (A6 (AY e) z) (DG _)
 have cellK:∀x c,X.env.cells.lookup x=AA c->∀v,s.heap.IsCell c v->h'.IsCell c v:=λx c e v ⟨o,ho,hd⟩=>by
  have nch:c∉ch:=λz=>(hch c z).2.2.1 x c e rfl
  by_cases hc:c∈X.fs
  .let⟨sl,q⟩:=slot c o (I.cne x c e) hc nch ho (I.freeC x c e);exact⟨_,q,hd⟩
  .exact⟨o,keep c o (I.cne x c e) hc nch ho (I.freeC x c e),hd⟩
 refine⟨I.ok,I.os,hg,⟨λb o e n hb hx=>?_,λb o e n hb hx=>?_,λb o e n hx=>?_,λb o e hx=>?_,λb xs e=>tups b xs (I.base.tups b xs e),λb o xs e=>frzs b o xs (I.base.frzs b o xs e),λb ps e=>?_⟩,?_,λx c e=>?_,?_,λx c e=>?_,λp hp=>?_,hok,I.len⟩
 .exact keep b o (neL b o e) hb (neC b o e hx) (I.base.keep b o e n hb hx) (I.base.free b o e n hx)
 .let⟨sl,e1⟩:=I.base.slot b o e n hb hx;let⟨sl',e2⟩:=slot b _ (neL b o e) hb (neC b o e hx) e1 (I.base.free b o e n hx);exact⟨sl',e2⟩
 .let⟨o',e1⟩:=I.base.there b o e hx;exact free b o' (neC b o e hx) e1 (I.base.free b o e n hx)
 .let⟨o',e1⟩:=I.base.there b o e hx;exact there b o' (neC b o e hx) e1
 .let⟨m1,e1⟩:=I.base.tbls b ps e;let⟨m2,e2⟩:=tbls b _ e1;exact⟨m1++m2,by rw[e2,EG]⟩
 .let⟨m,hn,hl⟩:=I.loc;refine⟨m,ns m hn,λi x v e1 e2 e3=>?_⟩;let⟨u,r,l⟩:=hl i x v e1 e2 e3;refine⟨u,r,?_⟩;rcases l with l|⟨k,c,e,z⟩
  .exact .inl l
  .exact .inr ⟨k,c,e,cellK x c e _ z⟩
 .let⟨v,z⟩:=I.cell x c e;exact⟨v,cellK x c e v z⟩
 .let⟨m,⟨o,_,_,ho,_⟩,_⟩:=I.loc;exact free _ o (λz=>(hch _ z).2.1 rfl) ho I.free
 .let⟨v,o,ho,hd⟩:=I.cell x c e;exact free c o (λz=>(hch c z).2.2.1 x c e rfl) ho (I.freeC x c e)
 .let⟨e,n,ne,nf,d⟩:=I.pin p hp;have nch:p.1∉ch:=λz=>(hch p.1 z).2.2.2 p hp rfl;exact⟨keep p.1 p.2 ne nf nch e n,free p.1 p.2 nch e n,ne,nf,d⟩
theorem Inv.un{t':Nat}(I:Inv X pins σ H s)(u:Un X.fs [] H H' s.heap h')(hok:HOk X.prog X.w H' h'):Inv X pins σ H' { s with heap:=h',toks:=t' }:=by
 let⟨m,⟨o,es,ep,ho,r⟩,_⟩:=id I.loc;let⟨sl,hL⟩:=u.any ho I.free (by simp);exact I.step (g':=s.gens) (d':=s.drawn) (ch:=[]) (λ_ z=>nomatch z) (λb o _ hb _ e n=>u.keep b o e n hb (by simp)) (λb o _ hb _ e n=>u.slot b o e n hb (by simp)) (λb o _ e n=>u.free b o e n (by simp)) (λb o _ e=>u.there b o e (by simp)) u.tups u.frzs u.tbls (λm' hm=>by
  let⟨o',es',ep',ho',r'⟩:=hm;rw[ho]at ho';cases ho';exact⟨_,es',ep',hL,r'⟩) hok I.bare
theorem Inv.call{g':Array GenState}{t':Nat}{d':Drawn}{ch:List AI}(I:Inv X pins σ H s)(u:Un (frs X.stack) ch H H' s.heap h')(hok:HOk X.prog X.w H' h')(hg:D8 g')
  (hch:∀b∈ch,(b∈X.ex \/ X.s₀.heap.objs.size<=b)/\b≠X.env.locals/\(∀x c,X.env.cells.lookup x=AA c->c≠b)/\∀p∈X.pn++pins,p.1≠b) :
  Inv X pins σ H' { s with heap:=h',gens:=g',drawn:=d',toks:=t' }:=by
 let⟨m,⟨o,es,ep,ho,r⟩,_⟩:=id I.loc;let⟨sl,hL⟩:=u.any ho I.free λz=>(hch _ z).2.1 rfl;exact I.step (ch:=ch) hch (λb o hL hb hc e n=>u.keep b o e n (λz=>(AQ.mp (I.stkSub b z)).elim hL hb) hc) (λb o _ _ hc e n=>u.any e n hc) (λb o hc e n=>u.free b o e n hc) (λb o hc e=>u.there b o e hc) u.tups u.frzs u.tbls (λm' hm=>by
  let⟨o',es',ep',ho',r'⟩:=hm;rw[ho]at ho';cases ho';exact⟨_,es',ep',hL,r'⟩) hok hg
theorem Inv.turned{t':Nat}{it:AI}(I:Inv X pins σ H s)(k:∀b o,b≠it->s.heap.get? b=AA o->h'.get? b=AA o)(hn:H it=AD)(hL:it≠X.env.locals)
  (h1:it∈X.ex \/ X.s₀.heap.objs.size<=it) (h2:∀x c,X.env.cells.lookup x=AA c->c≠it) (h3:∀p∈X.pn++pins,p.1≠it):Inv X pins σ H { s with heap:=h',toks:=t' }:=by
 have nit:∀b u,H b=AA u->b≠it:=λb u e z=>by rw[z,hn]at e;cases e
 refine I.step (g':=s.gens) (d':=s.drawn) (ch:=[it]) (λb hb=>?_) (λb o _ _ hc e _=>k b o (λz=>hc (by simp[z])) e) (λb o _ _ hc e _=>⟨o.slots,k b o (λz=>hc (by simp[z])) e⟩) (λ_ _ _ _ n=>n)
  (λb o hc e=>⟨o,k b o (λz=>hc (by simp[z])) e⟩) (λ_ _ e=>e) (λ_ _ _ e=>e) (λb ps e=>⟨#[],by rw[e];simp⟩) (λm hm=>?_) (λb u e=>?_) I.bare
 .have e:b=it:=by simpa using hb
  subst e;exact⟨h1,hL,h2,h3⟩
 .let⟨o,es,ep,ho,r⟩:=hm;exact⟨o,es,ep,k _ o (BM hL) ho,r⟩
 .refine(I.hok b u e).stay (λc v hc q=>k c v ?_ q) (λ_ q=>q) λ_ _ q=>q;rcases hc with z|z
  .rw[z];exact nit b u e
  .exact nit c _ z
theorem Inv.tok(I:Inv X pins σ H s)(t:Nat):Inv X pins σ H { s with toks:=t }:=I.un (h':=s.heap) (t':=t) Un.refl I.hok
theorem Inv.kept{t':Nat}(I:Inv X pins σ H s)(k:∀b u,s.heap.get? b=AA u->h'.get? b=AA u):Inv X pins σ H { s with heap:=h',toks:=t' }:=I.un (Un.kept k) (I.hok.kept k)
theorem Inv.laid{a:AI}{o:HO}{t':Nat}(I:Inv X pins σ H s)(k:∀b u,s.heap.get? b=AA u->h'.get? b=AA u)(hp:s.heap.objs.size<=a)(new:yad X.prog X.w (upd H a o) h' a o) :
  Inv X pins σ (upd H a o) { s with heap:=h',toks:=t' }:=I.un (Un.laid k hp (I.hok.fresh hp)) (I.hok.laid k hp new)
theorem Inv.write{x e:AI}{o:HO}{t':Nat}(I:Inv X pins σ H s)(mu:Mut (H x))(he:e=x \/ H e=AA (.own x))(k:∀b u,b≠e->s.heap.get? b=AA u->h'.get? b=AA u)(heo:∃u,h'.get? e=AA u)
  (new:yad X.prog X.w (upd H x o) h' x o):Inv X pins σ (upd H x o) { s with heap:=h',toks:=t' }:=I.un (Un.write mu he k heo) (I.hok.write mu he k heo new)
theorem Inv.pins_of{pins':List (AI×CO)}(I:Inv X pins σ H s)(h:∀p∈pins',s.heap.get? p.1=AA p.2/\H p.1=AD/\p.1≠X.env.locals/\p.1∉X.fs/\∀v,p.2.data ≠ .cell v):Inv X pins' σ H s :=
 ⟨I.ok,I.os,I.bare,I.base,I.loc,I.cell,I.free,I.freeC,λp hp=>(Ar.mp hp).elim (λz=>I.pin p (FW _ z)) (h p),I.hok,I.len⟩
theorem zgm{N:List AR}(hN:N.Nodup){i j:Nat}{x:AR}(a:N[i]?=AA x)(b:N[j]?=AA x):i=j:=by
 let⟨h1,e1⟩:=BP.mp a;let⟨h2,e2⟩:=BP.mp b;exact(List.getElem_inj hN).mp (e1.trans e2.symm)
theorem zil{M:Model}{A:Ay}{E:AG->AJ->Prop}{i:Nat}{x:AR}{v:V}{u:AG}{Q:Unit->AJ->Prop}(I:Inv X pins σ H s)(hN:X.N.Nodup)(hi:X.N[i]?=AA x)(hx:Loc X.env.scope x)(r:RelV v u)
  (h:∀s',Inv X pins (σ.set i (AA v)) H s'->(∃a,Ci a s.heap s'.heap/\(a=X.env.locals \/ X.env.cells.lookup x=AA a))->Q () s') (hf:X.fn x=AB \/ X.env.scope.names.lookup x=AA .local:=by first|exact .inl rfl|exact .inr rfl|assumption):AX M A (storeName X.env x u) Q E s:=by
 let⟨m,hn,hl⟩:=id I.loc;have hcls:(X.env.scope.kind == .class || (X.env.scope.kind == .module && X.env.locals != X.env.globals))=false:=by rw[I.ok.kind];rfl
 have hiσ:i<σ.length:=by rw[I.len];exact(BP.mp hi).1
 have cne:=I.cne;have tracked:∀{a:AI} {h':BI},(∃o,s.heap.get? a=AA o/\H a=AD)->Ci a s.heap h'->HOk X.prog X.w H h':=λ{a h'} ha hs b ob e=>by
  let⟨_,_,hfree⟩:=ha;refine(I.hok b ob e).stay (λc w' hc q=>(hs.2 c ?_).trans q) (λ_ q=>q) λ_ _ q=>q
  rintro rfl
  rcases hc with rfl|hc
  .rw[hfree]at e;cases e
  .rw[hfree]at hc;cases hc
 rcases hx with hk|hk
 .refine wpAny_storeName_local hk hn (λh' hn' hs=>?_) hcls;let⟨oL,_,_,hoL,_⟩:=id hn;refine h _ ⟨I.ok,I.os,I.bare,⟨λb o e n hb hx=>?_,λb o e n hb hx=>?_,I.base.free,λb o e hx=>?_,I.base.tups,I.base.frzs,I.base.tbls⟩,⟨_,hn',λj y v' e1 e2 e3=>?_⟩,λy c e=>?_,I.free,I.freeC,λp hp=>?_,tracked ⟨oL,hoL,I.free⟩ hs,by simpa using I.len⟩ ⟨_,hs,.inl rfl⟩
  .exact(hs.2 b (Av (A6 (AY e) I.ok.above))).trans (I.base.keep b o e n hb hx)
  .let⟨sl,e1⟩:=I.base.slot b o e n hb hx;exact⟨sl,(hs.2 b (Av (A6 (AY e) I.ok.above))).trans e1⟩
  .let⟨o',e1⟩:=I.base.there b o e hx;exact⟨o',(hs.2 b (Av (A6 (AY e) I.ok.above))).trans e1⟩
  .by_cases hj:j=i
   .subst hj;rw[hi]at e1;cases e1;rw[A9 hiσ]at e2
    cases e2
    exact⟨u,r,.inl ⟨hk,by simp⟩⟩
   .rw[AO (BM hj)]at e2;let⟨u',r',q⟩:=hl j y v' e1 e2 e3;refine⟨u',r',?_⟩;rcases q with⟨k,e⟩|⟨k,c,e,z⟩
    .refine .inl ⟨k,?_⟩;have:y≠x:=λe=>hj (zgm hN e1 (e ▸ hi));simp[this,e]
    .exact .inr ⟨k,c,e,z.sameBut hs (cne y c e)⟩
  .let⟨w',z⟩:=I.cell y c e;exact⟨w',z.sameBut hs (cne y c e)⟩
  .let⟨e,n,ne,nf,d⟩:=I.pin p hp;exact⟨(hs.2 p.1 ne).trans e,n,ne,nf,d⟩
 .have hfn:X.fn x=true:=by
   rcases hf with z|z
   .exact z
   .rw[z]at hk;cases hk
  let⟨c,hc⟩:=I.ok.has x (.inl hk);let⟨w',z⟩:=I.cell x c hc;refine wpAny_storeName_cell I.ok.kind hk hc z (λh' hc' hs=>?_);let⟨oc,hoc,hocd⟩:=id z;refine h { s with heap:=h' } ⟨I.ok,I.os,I.bare,⟨λb o e n hb hx=>?_,λb o e n hb hx=>?_,I.base.free,λb o e hx=>?_,I.base.tups,I.base.frzs,I.base.tbls⟩,⟨m,hn.sameBut hs (BM (cne x c hc)),λj y v' e1 e2 e3=>?_⟩,λy c' e=>?_,I.free,I.freeC,λp hp=>?_,tracked ⟨oc,hoc,I.freeC x c hc⟩ hs,by simpa using I.len⟩ ⟨c,hs,.inr hc⟩
  .exact(hs.2 b (Av (A6 (AY e) (I.ok.cab x c hfn hc)))).trans (I.base.keep b o e n hb hx)
  .let⟨sl,e1⟩:=I.base.slot b o e n hb hx;exact⟨sl,(hs.2 b (Av (A6 (AY e) (I.ok.cab x c hfn hc)))).trans e1⟩
  .let⟨o',e1⟩:=I.base.there b o e hx;exact⟨o',(hs.2 b (Av (A6 (AY e) (I.ok.cab x c hfn hc)))).trans e1⟩
  .by_cases hj:j=i
   .subst hj;rw[hi]at e1;cases e1;rw[A9 hiσ]at e2
    cases e2
    exact⟨u,r,.inr ⟨.inl hk,c,hc,hc'⟩⟩
   .rw[AO (BM hj)]at e2;let⟨u',r',q⟩:=hl j y v' e1 e2 e3;refine⟨u',r',?_⟩;rcases q with q|⟨k,c',e,z'⟩
    .exact .inl q
    .refine .inr ⟨k,c',e,z'.sameBut hs ?_⟩
     rintro rfl
     exact hj (zgm hN e1 (I.ok.inj _ _ _ e hc ▸ hi))
  .by_cases hcc:c'=c
   .subst hcc;exact⟨_,hc'⟩
   .let⟨w2,z2⟩:=I.cell y c' e;exact⟨w2,z2.sameBut hs hcc⟩
  .let⟨e,n,ne,nf,d⟩:=I.pin p hp;refine⟨(hs.2 p.1 ?_).trans e,n,ne,nf,d⟩;intro q;rw[q,hoc]at e;have q':oc=p.2:=AW e;exact d w' (by rw[<- q'];exact hocd)
theorem zbh{M:Model}{A:Ay}{E:AG->AJ->Prop}{i:Nat}{x:AR}{v:V}{u:AG}{Q:Unit->AJ->Prop}(I:Inv X pins σ H s)(hN:X.N.Nodup)(hi:X.N[i]?=AA x)(hx:Loc X.env.scope x)(r:RelV v u)
  (h:∀s',Inv X pins (σ.set i (AA v)) H s'->Q () s') (hf:X.fn x=AB \/ X.env.scope.names.lookup x=AA .local:=by first|exact .inl rfl|exact .inr rfl|assumption):AX M A (storeName X.env x u) Q E s :=
 zil I hN hi hx r (λs' I' _=>h s' I') hf
theorem Inv.call'{s':AJ}{ch:List AI}(I:Inv X pins σ H s)(ho:s'.os=s.os)(u:Un (frs X.stack) ch H H' s.heap s'.heap)(hok:HOk X.prog X.w H' s'.heap)(hg:D8 s'.gens)
  (hch:∀b∈ch,(b∈X.ex \/ X.s₀.heap.objs.size<=b)/\b≠X.env.locals/\(∀x c,X.env.cells.lookup x=AA c->c≠b)/\∀p∈X.pn++pins,p.1≠b):Inv X pins σ H' s':=by
 let⟨h',g',d',t',o'⟩:=s';have e:o'=s.os:=ho;subst e;exact I.call (g':=g') (t':=t') (d':=d') u hok hg hch
end
abbrev XK:=AG->Option AI->Hp->Prop
abbrev St:=List (Option V)
abbrev VK:=V->Hp->Prop
abbrev TE:=St->Hp->VK->Prop
abbrev TT:=St->Hp->(Bool->Hp->Prop)->Prop
abbrev TA:=St->Hp->(List V->Hp->Prop)->Prop
structure Ends where
 nx:St->Hp->Prop
 rt:VK
 bk:St->Hp->Prop:=λ_ _=>False
 ct:St->Hp->Prop:=λ_ _=>False
abbrev TS:=Ends->St->Hp->Prop
def EP(X:Cx)(pins:List (AI×CO))(σ:St)(Q:VK)(u:AG)(s':AJ):Prop:=∃v H',Inv X pins σ H' s'/\RelV v u/\Q v H'
def TP(X:Cx)(pins:List (AI×CO))(σ:St)(Q:Bool->Hp->Prop)(b:Bool)(s':AJ):Prop:=∃H',Inv X pins σ H' s'/\Q b H'
def AP(X:Cx)(pins:List (AI×CO))(σ:St)(Q:List V->Hp->Prop)(us:List AG)(s':AJ):Prop:=∃vs H',Inv X pins σ H' s'/\Vals vs us/\Q vs H'
def SP(X:Cx)(pins:List (AI×CO))(D:Ends)(f:Flow)(s':AJ):Prop :=
 match f with
 | .next=>∃σ' H',Inv X pins σ' H' s'/\D.nx σ' H'
 | .brk=>∃σ' H',Inv X pins σ' H' s'/\D.bk σ' H'
 | .cont=>∃σ' H',Inv X pins σ' H' s'/\D.ct σ' H'
 | .ret u=>∃v σ' H',Inv X pins σ' H' s'/\RelV v u/\D.rt v H'
def PE(X:Cx)(e:AV)(t:TE):Prop :=
 ∀(pins:List (AI×CO)) (s:AJ) (σ:St) (H:Hp) (Q:VK),Inv X pins σ H s->t σ H Q->AX (model X.prog X.w) X.A (eval e X.env) (EP X pins σ Q) X.xe s
def PT(X:Cx)(e:AV)(t:TT):Prop :=
 ∀(pins:List (AI×CO)) (s:AJ) (σ:St) (H:Hp) (Q:Bool->Hp->Prop),Inv X pins σ H s->t σ H Q->AX (model X.prog X.w) X.A (isTrue e X.env (eval e X.env)) (TP X pins σ Q) X.xe s
def PW(X:Cx)(e:AV)(t:TT):Prop :=
 ∀(whole:Gw AG) (pins:List (AI×CO)) (s:AJ) (σ:St) (H:Hp) (Q:Bool->Hp->Prop),Inv X pins σ H s->t σ H Q->AX (model X.prog X.w) X.A (isTrue e X.env whole) (TP X pins σ Q) X.xe s
theorem PW.pt{X:Cx}{e:AV}{t:TT}(h:PW X e t):PT X e t:=h _
def PA(X:Cx)(es:List AV)(t:TA):Prop :=
 ∀(pos:C5) (pins:List (AI×CO)) (s:AJ) (σ:St) (H:Hp) (Q:List V->Hp->Prop),Inv X pins σ H s->t σ H Q->AX (model X.prog X.w) X.A (spliced (backTo pos (starEach es X.env))) (AP X pins σ Q) X.xe s
def PS(X:Cx)(st:CC)(t:TS):Prop :=
 ∀(pins:List (AI×CO)) (s:AJ) (σ:St) (H:Hp) (D:Ends),Inv X pins σ H s->t D σ H->AX (model X.prog X.w) X.A (exec st X.env) (SP X pins D) X.xe s
def PSs(X:Cx)(st:List CC)(t:TS):Prop :=
 ∀(pins:List (AI×CO)) (s:AJ) (σ:St) (H:Hp) (D:Ends),Inv X pins σ H s->t D σ H->AX (model X.prog X.w) X.A (execs st X.env) (SP X pins D) X.xe s
theorem thn{α:Type}{t:Gw α}{Q Q':α->AJ->Prop}{M:Model}{A:Ay}{E:AG->AJ->Prop}{s:AJ}(h:AX M A t Q E s)(hQ:∀a s,Q a s->Q' a s):AX M A t Q' E s:=C8 h hQ λ_ _ x=>x
section
variable {X:Cx}
theorem bin{a b:AV}{ta tb:TE}(ha:PE X a ta)(hb:PE X b tb){pins:List (AI×CO)}{s:AJ}{σ:St}{H:Hp}{R:V->V->Hp->Prop}(I:Inv X pins σ H s)(h:ta σ H λx H1=>tb σ H1 λy H2=>R x y H2)
  {α:Type} {Q:α->AJ->Prop} {f:AG->AG->Gw α}
  (hf:∀v u s2 x y H2,Inv X pins σ H2 s2->RelV x v->RelV y u->R x y H2->AX (model X.prog X.w) X.A (f v u) Q X.xe s2) :
  AX (model X.prog X.w) X.A (eval a X.env) (λv s₁=>AX (model X.prog X.w) X.A (eval b X.env) (λu s₂=>AX (model X.prog X.w) X.A (f v u) Q X.xe s₂) X.xe s₁) X.xe s:=by
 refine thn (ha pins s σ H _ I h) λv s1 kq=>?_;let⟨x,H1,I1,r1,q1⟩:=kq;refine thn (hb pins s1 σ H1 _ I1 q1) λu s2 kq=>?_;let⟨y,H2,I2,r2,q2⟩:=kq;exact hf v u s2 x y H2 I2 r1 r2 q2
def ygV(i:Nat):TE:=λσ H Q=>∃v,σ[i]?=AA (AA v)/\Q v H
def tC(v:V):TE:=λ_ H Q=>Q v H
theorem zkG{i:Nat}{x:AR}{pos:C5}(hN:X.N[i]?=AA x)(hv:Vis X.env.scope x)(hd:(x == ("__debug__":AR))=false:=by decide)(hcd:(x == ("__classdict__":AR))=false:=by decide):PE X (.Name x pos) (ygV i):=by
 intro pins s σ H Q I h;let⟨v,e,h⟩:=h;let⟨m,hn,hl⟩:=I.loc;let⟨u,r,l⟩:=hl i x v hN e hv;have fin:EP X pins σ Q u s:=⟨v,H,I,r,h⟩;rcases l with⟨hk,hm⟩|⟨hk,c,hc,hcell⟩
 .exact Gj (FX I.ok.kind hk hn hm fin) hd
 .rcases hk with hk|hk
  .exact Gj (F7 I.ok.kind hk hc hcell fin) hd
  .exact Gj (wpAny_loadName_free I.ok.kind hk hc hcell fin hcd) hd
theorem ydC{i j pos}:PE X (.Constant (.int i) j pos) (tC (.int i)):=λ_ _ _ H _ I h=>wpAny_Constant_int ⟨.int i,H,I.tok _,⟨_,rfl⟩,h⟩
theorem yeu{b j pos}:PE X (.Constant (.bool b) j pos) (tC (.bl b)):=λ_ _ _ H _ I h=>Constant_bool ⟨.bl b,H,I,rfl,h⟩
theorem ydi{j pos}:PE X (.Constant .none j pos) (tC .non):=λ_ _ _ H _ I h=>Constant_none ⟨.non,H,I,rfl,h⟩
theorem ydL{x j pos}:PE X (.Constant (.str x) j pos) (tC (.str x)):=λ_ _ _ H _ I h=>Calls.Constant_str ⟨.str x,H,I.tok _,⟨_,rfl⟩,h⟩
def Gl(X:Cx)(x:AR):Prop:=X.env.kindOf x=AA .globalImplicit
theorem zdg{E:AG->AJ->Prop}{pins:List (AI×CO)}{s:AJ}{σ:St}{H:Hp}{x:AR}{u:AG}{pos:C5}{Q:AG->AJ->Prop}(I:Inv X pins σ H s)(hg:Gl X x)(hm:X.mg x=AA u)(h:Q u s)
  (hd:(x == ("__debug__":AR))=false:=by decide):AX (model X.prog X.w) X.A (eval (.Name x pos) X.env) Q E s :=
 EH I.ok.kind hg (Calls.loadGlobal_global (by rw[I.ok.glob];exact I.mod.glob.keeps I.bk) hm h) hd
theorem zeb{E:AG->AJ->Prop}{pins:List (AI×CO)}{s:AJ}{σ:St}{H:Hp}{x:AR}{u:AG}{pos:C5}{Q:AG->AJ->Prop}(I:Inv X pins σ H s)(hg:Gl X x)(hm:X.mg x=AD)(hv:bootBuiltins x=AA u)(h:Q u s)
  (hn:x ≠ "__name__":=by decide) (hd:(x == ("__debug__":AR))=false:=by decide):AX (model X.prog X.w) X.A (eval (.Name x pos) X.env) Q E s:=by
 let⟨mb,h1,h2⟩:=I.mod.blt;exact EH I.ok.kind hg (Calls.loadGlobal_builtin (by rw[I.ok.glob];exact I.mod.glob.keeps I.bk) hm (by rw[I.ok.blt];exact h1.keeps I.bk) ((h2 x hn).trans hv) h) hd
theorem zdK{x:AR}{v:V}{u:AG}{pos:C5}(hg:Gl X x)(hm:X.mg x=AA u)(r:RelV v u)(hd:(x == ("__debug__":AR))=false:=by decide):PE X (.Name x pos) (tC v) :=
 λ_ _ _ H _ I h=>zdg I hg hm ⟨v,H,I,r,h⟩ hd
theorem zmx{x:AR}{v:V}{u:AG}{pos:C5}(hg:Gl X x)(hm:X.mg x=AD)(hv:bootBuiltins x=AA u)(r:RelV v u)(hn:x ≠ "__name__":=by decide)(hd:(x == ("__debug__":AR))=false:=by decide):PE X (.Name x pos) (tC v) :=
 λ_ _ _ H _ I h=>zeb I hg hm hv ⟨v,H,I,r,h⟩ hn hd
variable {a b:AV}{ta tb:TE}{pos:C5}
variable {tA tB':TT}{rest:List AV}
def yhe(t u:TT):TT:=λσ H Q=>t σ H λc H1=>if c=AB then u σ H1 Q else Q AC H1
def tOr(t u:TT):TT:=λσ H Q=>t σ H λc H1=>if c=AB then Q AB H1 else u σ H1 Q
def yg1(t:TT):TT:=λσ H Q=>t σ H λc H1=>Q (!c) H1
theorem zmO(ha:PT X a tA):PW X (.BoolOp .And [a] pos) tA:=by
 intro wh pins s σ H Q I h;refine isTrue_and (thn (ha pins s σ H Q I h) λc s1 e=>?_)
 cases c with
 |true=>exact isTrue_and_nil e
 |false=>exact e
theorem zoX(ha:PT X a tA):PW X (.BoolOp .Or [a] pos) tA:=by
 intro wh pins s σ H Q I h;refine isTrue_or (thn (ha pins s σ H Q I h) λc s1 e=>?_)
 cases c with
 |false=>exact isTrue_or_nil e
 |true=>exact e
theorem zpe(ha:PT X a tA)(hb:PW X (.BoolOp .And (b::rest) pos) tB'):PW X (.BoolOp .And (a::b::rest) pos) (yhe tA tB'):=by
 intro wh pins s σ H Q I h;refine isTrue_and (thn (ha pins s σ H _ I h) λc s1 kq=>?_);let⟨H1,I1,q1⟩:=kq
 cases c with
 |true=>exact hb wh pins s1 σ H1 Q I1 q1
 |false=>exact⟨H1,I1,q1⟩
theorem zpI(ha:PT X a tA)(hb:PW X (.BoolOp .Or (b::rest) pos) tB'):PW X (.BoolOp .Or (a::b::rest) pos) (tOr tA tB'):=by
 intro wh pins s σ H Q I h;refine isTrue_or (thn (ha pins s σ H _ I h) λc s1 kq=>?_);let⟨H1,I1,q1⟩:=kq
 cases c with
 |true=>exact⟨H1,I1,q1⟩
 |false=>exact hb wh pins s1 σ H1 Q I1 q1
theorem znY(ha:PT X a tA):PT X (.UnaryOp .Not a pos) (yg1 tA):=by
 intro pins s σ H Q I h;exact isTrue_not (ha pins s σ H (λc H1=>Q (!c) H1) I h)
def yek(ta tb:TE):TE:=λσ H Q=>ta σ H λx H1=>∃c,x=.bl c/\if c=AB then tb σ H1 Q else Q (.bl AC) H1
def ygf(ta tb:TE):TE:=λσ H Q=>ta σ H λx H1=>∃c,x=.bl c/\if c=AB then Q (.bl AB) H1 else tb σ H1 Q
def yeG(ta:TE):TE:=λσ H Q=>ta σ H λx H1=>∃c,x=.bl c/\Q (.bl (!c)) H1
theorem zoU{op}{t:TE}(h:PE X a t):PE X (.BoolOp op [a] pos) t:=λpins s σ H Q I hw=>BoolOp_one (h pins s σ H Q I hw)
theorem zm1(ha:PE X a ta)(hb:PE X (.BoolOp .And (b::rest) pos) tb):PE X (.BoolOp .And (a::b::rest) pos) (yek ta tb):=by
 intro pins s σ H Q I h;refine BoolOp_and (thn (ha pins s σ H _ I h) λv s1 kq=>?_);let⟨x,H1,I1,r1,q1⟩:=kq;let⟨c,rfl,q1⟩:=q1
 cases r1
 refine Bk ?_
 cases c with
 |true=>exact hb pins s1 σ H1 Q I1 q1
 |false=>exact⟨.bl AC,H1,I1,rfl,q1⟩
theorem zpO(ha:PE X a ta)(hb:PE X (.BoolOp .Or (b::rest) pos) tb):PE X (.BoolOp .Or (a::b::rest) pos) (ygf ta tb):=by
 intro pins s σ H Q I h;refine BoolOp_or (thn (ha pins s σ H _ I h) λv s1 kq=>?_);let⟨x,H1,I1,r1,q1⟩:=kq;let⟨c,rfl,q1⟩:=q1
 cases r1
 refine Bk ?_
 cases c with
 |false=>exact hb pins s1 σ H1 Q I1 q1
 |true=>exact⟨.bl AB,H1,I1,rfl,q1⟩
theorem znJ(ha:PE X a ta):PE X (.UnaryOp .Not a pos) (yeG ta):=by
 intro pins s σ H Q I h;refine UnaryOp_ (thn (ha pins s σ H _ I h) λv s1 kq=>?_);let⟨x,H1,I1,r1,q1⟩:=kq;let⟨c,rfl,q1⟩:=q1
 cases r1
 exact not_of (Bk ⟨.bl (!c),H1,I1,rfl,q1⟩)
def tIf(t:TT)(ta tb:TE):TE:=λσ H Q=>t σ H λc H1=>if c=AB then ta σ H1 Q else tb σ H1 Q
theorem zj8{c:AV}(hc:PT X c tA)(ha:PE X a ta)(hb:PE X b tb):PE X (.IfExp c a b pos) (tIf tA ta tb):=by
 intro pins s σ H Q I h;refine wpAny_IfExp (thn (hc pins s σ H _ I h) λd s1 kq=>?_);let⟨H1,I1,q1⟩:=kq
 cases d with
 |true=>exact ha pins s1 σ H1 Q I1 q1
 |false=>exact hb pins s1 σ H1 Q I1 q1
end
def SqL(K:AE)(H:Hp)(a:AI)(xs:List V):Prop :=
 Rd H a (.lst xs) \/
  ∃(o:CO) (its:Array AG) (n:Nat),K.lookup a=AA o/\o.cls=.type "list"/\o.dict=AD/\o.data=.seq its n/\its.size<=sizeLine/\Vals xs its.toList
def SqT(K:AE)(H:Hp)(a:AI)(xs:List V):Prop :=
 Rd H a (.tup xs) \/
  ∃(o:CO) (its:Array AG) (n:Nat),K.lookup a=AA o/\o.cls=.type "tuple"/\o.data=.seq its n/\its.size<=sizeLine/\Vals xs its.toList
def ygc:AG->Option V
 | .none=>AA .non
 | .bool b=>AA (.bl b)
 | .int i _=>AA (.int i)
 | .str x _=>AA (.str x)
 | .bytes b _=>AA (.byt b)
 | .float b _=>AA (.flt b)
 | .ref a=>AA (.ref a)
 | .type n=>AA (.ty n)
 |_=>AD
theorem RelV.abs{x:V}{u:AG}(r:RelV x u):ygc u=AA x:=by
 cases x with
 |non=>cases r;rfl
 |bl _=>cases r;rfl
 |int _=>let⟨t,rfl⟩:=r;rfl
 |str _=>let⟨t,rfl⟩:=r;rfl
 |byt _=>let⟨t,rfl⟩:=r;rfl
 |flt _=>let⟨t,rfl⟩:=r;rfl
 |ref _=>cases r;rfl
 |ty _=>cases r;rfl
theorem RelV.inj{x y:V}{u:AG}(r:RelV x u)(q:RelV y u):x=y:=AW (r.abs.symm.trans q.abs)
theorem Vals.inj:∀{xs ys:List V} {us:List AG},Vals xs us->Vals ys us->xs=ys
 |_,_,_,.nil,.nil=>rfl
 |_,_,_,.cons r t,.cons r' t'=>by rw[r.inj r',Vals.inj t t']
section
variable {X:Cx}{pins:List (AI×CO)}{σ:St}{H:Hp}{s:AJ}{a:AI}{xs ys:List V}
theorem SqL.of{K:AE}(h:H a=AA (.lst xs)):SqL K H a xs:=.inl (.inl h)
theorem Inv.list(I:Inv X pins σ H s)(h:SqL X.K H a xs):∃its:List AG,Vals xs its/\PlainL s.heap a its.toArray/\xs.length<=sizeLine:=by
 rcases h with h|⟨o,its,n,hk,hc,hd,hs,hz,r⟩
 .let⟨z,its,n,r,e⟩:=h.ok I.hok;exact⟨its,r,⟨_,n,e,rfl,rfl,rfl⟩,z⟩
 .refine⟨its.toList,r,⟨o,n,I.kIn a o hk,hc,hd,by simpa using hs⟩,?_⟩;have e:=r.length;erw[CP]at e;lia
theorem Inv.tuple(I:Inv X pins σ H s)(h:SqT X.K H a xs):∃its:List AG,Vals xs its/\G6 s.heap a its.toArray/\xs.length<=sizeLine:=by
 rcases h with h|⟨o,its,n,hk,hc,hs,hz,r⟩
 .let⟨z,its,r,p⟩:=h.ok I.hok;exact⟨its,r,p,z⟩
 .refine⟨its.toList,r,⟨o,I.kIn a o hk,hc,n,by simpa using hs⟩,?_⟩;have e:=r.length;erw[CP]at e;lia
theorem Inv.list_inj(I:Inv X pins σ H s)(h:SqL X.K H a xs)(h':SqL X.K H a ys):xs=ys:=by
 let⟨its,r,⟨o,n,e,_,_,d⟩,_⟩:=I.list h;let⟨its',r',⟨o',n',e',_,_,d'⟩,_⟩:=I.list h';rw[e]at e';cases e';rw[d]at d';injection d' with d1 _;have:its=its':=by simpa using congrArg HE d1
 subst this;exact r.inj r'
theorem Inv.tuple_inj(I:Inv X pins σ H s)(h:SqT X.K H a xs)(h':SqT X.K H a ys):xs=ys:=by
 let⟨its,r,⟨o,e,_,n,d⟩,_⟩:=I.tuple h;let⟨its',r',⟨o',e',_,n',d'⟩,_⟩:=I.tuple h';rw[e]at e';cases e';rw[d]at d';injection d' with d1 _;have:its=its':=by simpa using congrArg HE d1
 subst this;exact r.inj r'
end
section
variable {X:Cx}{pins:List (AI×CO)}{σ:St}{H:Hp}{s:AJ}{E:AG->AJ->Prop}
end
section
variable {X:Cx}{st:CC}{rest:List CC}{t u:TS}{e:AV}{te:TE}{pos:C5}
def yeV:TS:=λD σ H=>D.nx σ H
def yfR(t u:TS):TS:=λD σ H=>t { D with nx:=u D } σ H
theorem ycX:PSs X [] yeV:=λ_ _ σ H _ I h=>Do ⟨σ,H,I,h⟩
theorem zgw(h1:PS X st t)(h2:PSs X rest u):PSs X (st::rest) (yfR t u):=by
 intro pins s σ H D I h;refine GR (thn (h1 pins s σ H { D with nx:=u D } I h) λf s1 q=>?_)
 cases f with
 |next =>
  let⟨σ',H',I',q⟩:=q;exact h2 pins s1 σ' H' D I' q
 |ret v=>exact q
 |brk=>exact q
 |cont=>exact q
theorem zmy(h1:PS X st t):PSs X [st] t:=by
 intro pins s σ H D I h;refine GR (thn (h1 pins s σ H D I h) λf s1 q=>?_)
 cases f with
 |next=>exact Do q
 |ret v=>exact q
 |brk=>exact q
 |cont=>exact q
theorem Inv.quiet{pins:List (AI×CO)}{σ:St}{H:Hp}{s:AJ}(I:Inv X pins σ H s):interactive X.env=false:=by simp[interactive,I.ok.kind]
def yeW(te:TE):TS:=λD σ H=>te σ H λ_ H1=>D.nx σ H1
theorem zmh(he:PE X e te)(hs:swapsWith e AD pos.line X.env=pure false:=by rfl):PS X (.Expr e pos) (yeW te):=by
 intro pins s σ H D I h;exact wpAny_Expr_any (thn (he pins s σ H _ I h) λv s1 ⟨x,H1,I1,r1,q1⟩=>⟨σ,H1,I1,q1⟩) I.quiet hs
def ygH(te:TE):TS:=λD σ H=>te σ H D.rt
theorem zkY(he:PE X e te):PS X (.Return (AA e) pos) (ygH te):=by
 intro pins s σ H D I h;exact wpAny_Return_some (thn (he pins s σ H _ I h) λv s1 ⟨x,H1,I1,r1,q1⟩=>⟨x,σ,H1,I1,r1,q1⟩)
def yeg:TS:=λD _ H=>D.rt .non H
theorem ycS:PS X (.Return AD pos) yeg:=λ_ _ σ H _ I h=>wpAny_Return_none ⟨.non,σ,H,I,rfl,h⟩
def yfG(c:TT)(t u:TS):TS:=λD σ H=>c σ H λb H1=>if b=AB then t D σ H1 else u D σ H1
theorem zpS{c:AV}{a b:List CC}{tc:TT}(hc:PT X c tc)(ha:PSs X a t)(hb:PSs X b u):PS X (.If c a b pos) (yfG tc t u):=by
 intro pins s σ H D I h;refine wpAny_If (thn (hc pins s σ H _ I h) λd s1 kq=>?_);let⟨H1,I1,q1⟩:=kq
 cases d with
 |true=>exact ha pins s1 σ H1 D I1 q1
 |false=>exact hb pins s1 σ H1 D I1 q1
end
abbrev TG:=V->St->Hp->(St->Hp->Prop)->Prop
abbrev TGs:=List V->St->Hp->(St->Hp->Prop)->Prop
def PG(X:Cx)(target:AV)(t:TG):Prop :=
 ∀(pins:List (AI×CO)) (s:AJ) (σ:St) (H:Hp) (v:V) (u:AG) (Q:St->Hp->Prop),Inv X pins σ H s->RelV v u->t v σ H Q ->
  AX (model X.prog X.w) X.A (assign target X.env u) (λ_ s'=>∃σ' H',Inv X pins σ' H' s'/\Q σ' H') X.xe s
def PGs(X:Cx)(ts:List AV)(t:TGs):Prop :=
 ∀(pins:List (AI×CO)) (s:AJ) (σ:St) (H:Hp) (vs:List V) (us:List AG) (Q:St->Hp->Prop),Inv X pins σ H s->Vals vs us->t vs σ H Q ->
  AX (model X.prog X.w) X.A (assignInOrder ((assignEach ts X.env).map (·.2)) us) (λ_ s'=>∃σ' H',Inv X pins σ' H' s'/\Q σ' H') X.xe s
abbrev yei:=V->V->V->Hp->(Hp->Prop)->Prop
def ye6(X:Cx)(t:yei):Prop :=
 ∀(pins:List (AI×CO)) (s:AJ) (σ:St) (H:Hp) (o i v:V) (ov iv u:AG) (Q:Hp->Prop),Inv X pins σ H s->RelV o ov->RelV i iv->RelV v u->t o i v H Q ->
  AX (model X.prog X.w) X.A (setItem ov iv u) (λ_ s'=>∃H',Inv X pins σ H' s'/\Q H') X.xe s
abbrev TIp:=V->V->Hp->VK->Prop
def PIp(X:Cx)(op:Dj)(t:TIp):Prop :=
 ∀(pins:List (AI×CO)) (s:AJ) (σ:St) (H:Hp) (x y:V) (v u:AG) (Q:VK),Inv X pins σ H s->RelV x v->RelV y u->t x y H Q ->
  AX (model X.prog X.w) X.A (inplaceOp op v u) (EP X pins σ Q) X.xe s
section
variable {X:Cx}{pos:C5}
def ycs(i:Nat):TG:=λv σ H Q=>Q (σ.set i (AA v)) H
theorem zhS{i:Nat}{x:AR}(hN:X.N.Nodup)(hi:X.N[i]?=AA x)(hx:Loc X.env.scope x)(hf:X.fn x=AB \/ X.env.scope.names.lookup x=AA .local:=by first|exact .inl rfl|exact .inr rfl|assumption):PG X (.Name x pos) (ycs i):=by
 intro pins s σ H v u Q I r h;exact Fx (zbh I hN hi hx r (λs' I'=>⟨_,H,I',h⟩) hf)
def yg4:TGs:=λvs σ H Q=>vs=[]/\Q σ H
def yeb(t:TG)(u:TGs):TGs:=λvs σ H Q=>∃v r,vs=v::r/\t v σ H λσ' H'=>u r σ' H' Q
theorem ycY:PGs X [] yg4:=by
 intro pins s σ H vs us Q I r h;let⟨e,h⟩:=h;subst e
 cases r
 exact Fy ⟨σ,H,I,h⟩
theorem zky{e:AV}{es:List AV}{t:TG}{u:TGs}(h1:PG X e t)(h2:PGs X es u)
  (hs:(assignEach (e::es) X.env).map (·.2)=assign e X.env::(assignEach es X.env).map (·.2):=by rfl):PGs X (e::es) (yeb t u):=by
 intro pins s σ H vs us Q I r h;let⟨v,vr,e1,h⟩:=h;subst e1
 cases r with
 |cons r rr =>
  rw[hs];refine EI (thn (h1 pins s σ H _ _ _ I r h) λ_ s1 kq=>?_);let⟨σ1,H1,I1,q1⟩:=kq;exact h2 pins s1 σ1 H1 _ _ Q I1 rr q1
def ygt(K:AE)(n:Nat)(t:TGs):TG:=λv σ H Q=>∃a xs,v=.ref a/\SqT K H a xs/\xs.length=n/\t xs σ H Q
theorem zoh{es:List AV}{k:Nat}{t:TGs}{n:Nat}(hc:X.calm=AB)(h:PGs X es t)
  (hn:(assignEach es X.env).length=n:=by rfl) (hst:(assignEach es X.env).findIdx? (·.1)=none:=by rfl):PG X (.Tuple es k pos) (ygt X.K n t):=by
 intro pins s σ H v u Q I r hw;let⟨a,xs,e1,hq,hl,hw⟩:=hw;subst e1
 cases r
 let⟨its,rv,ht,hz⟩:=I.tuple hq;refine assign_Tuple_tuple (I.ok.hd hc) ht (by simp[hn,<- hl,rv.length]) hst λh' hx=>?_;have I1:Inv X pins σ H { s with heap:=h' }:=I.kept (t':=s.toks) λb o e=>hx b o (Av (AY e)) e;exact h pins _ σ H xs _ Q I1 (by simpa using rv) hw
def yfv(to ti:TE)(t:yei):TG:=λv σ H Q=>to σ H λo H1=>ti σ H1 λi H2=>t o i v H2 λH3=>Q σ H3
theorem zk0{o i:AV}{to ti:TE}{t:yei}(ho:PE X o to)(hi:PE X i ti)(hs:ye6 X t)
  (ha:∀v,assign (.Subscript o i pos) X.env v=(do
   let ov <- holding [v] (eval o X.env)
   let iv <- holding [v,ov] (eval i X.env)
   standAt pos
   holding [v,ov,iv] (setItem ov iv v)
   release [v,ov,iv] []):=by intro _;rfl):PG X (.Subscript o i pos) (yfv to ti t):=by
 intro pins s σ H v u Q I r h;rw[ha];refine AH (DH (thn (ho pins s σ H _ I h) λov s1 kq=>?_));let⟨x,H1,I1,r1,q1⟩:=kq;refine AH (DH (thn (hi pins s1 σ H1 _ I1 q1) λiv s2 kq=>?_));let⟨y,H2,I2,r2,q2⟩:=kq;refine AH (D9 (AH (DH (thn (hs pins s2 σ H2 x y v ov iv u _ I2 r1 r2 r q2) λ_ s3 kq=>?_))));let⟨H3,I3,q3⟩:=kq;exact wpAny_release ⟨σ,H3,I3,q3⟩
def yd3(te:TE)(g:TG):TS:=λD σ H=>te σ H λx H1=>g x σ H1 D.nx
theorem zk3{tg e:AV}{te:TE}{g:TG}(he:PE X e te)(hg:PG X tg g)(hs:swapsWithSole [tg] e pos.line X.env=pure false:=by rfl)(hw:swappedStores [tg] e X.env=pure none:=by rfl)
  (h1:(assignEach [tg] X.env).map (·.2)=[assign tg X.env]:=by rfl):PS X (.Assign [tg] e pos) (yd3 te g):=by
 intro pins s σ H D I h;refine wpAny_Assign_stores (thn (he pins s σ H _ I h) λv s1 kq=>?_) hs hw;let⟨x,H1,I1,r1,q1⟩:=kq;rw[h1];exact thn (hg pins s1 σ H1 x v _ I1 r1 q1) λ_ s2 q=>q
theorem zkP{i:Nat}{x:AR}{e:AV}{te:TE}{pos':C5}(hN:X.N.Nodup)(hi:X.N[i]?=AA x)(hx:Loc X.env.scope x)(he:PE X e te)(hs:swapsWith e (AA (.Name x pos')) pos.line X.env=pure false:=by rfl)(hf:X.fn x=AB \/ X.env.scope.names.lookup x=AA .local:=by first|exact .inl rfl|exact .inr rfl|assumption) :
  PS X (.Assign [.Name x pos'] e pos) (yd3 te (ycs i)):=by
 intro pins s σ H D I h;refine wpAny_Assign_Name (thn (he pins s σ H _ I h) λv s1 kq=>?_) hs;let⟨y,H1,I1,r1,q1⟩:=kq;exact zbh I1 hN hi hx r1 (λs2 I2=>⟨_,H1,I2,q1⟩) hf
def ye9(i j:Nat)(ta:TA):TS:=λD σ H=>ta σ H λvs H1=>∃v w,vs=[v,w]/\D.nx ((σ.set i (AA v)).set j (AA w)) H1
theorem znr{i j:Nat}{x y:AR}{a b:AV}{ta:TA}{px py pt:C5}{kt k2 pt2}(hc:X.calm=AB)(hN:X.N.Nodup)(hi:X.N[i]?=AA x)(hj:X.N[j]?=AA y)(hij:i≠j)
  (hx:X.env.scope.names.lookup x=AA .local) (hy:X.env.scope.names.lookup y=AA .local) (ha:PA X [a,b] ta)
  (hw:swappedStores [.Tuple [.Name x px,.Name y py] kt pt] (.Tuple [a,b] k2 pt2) X.env=pure (AA [x,y]))
  (hs:swapsWithSole [.Tuple [.Name x px,.Name y py] kt pt] (.Tuple [a,b] k2 pt2) pos.line X.env=pure false:=by rfl) :
  PS X (.Assign [.Tuple [.Name x px,.Name y py] kt pt] (.Tuple [a,b] k2 pt2) pos) (ye9 i j ta):=by
 intro pins s σ H D I h;rw[exec_Assign_arm];refine AH (D9 ?_);rw[hs];refine AH (AN ?_);rw[if_neg (by decide)];refine AH (Tuple_ (thn (ha _ pins s σ H _ I h) λus s1 kq=>?_));let⟨vs,H1,I1,r1,q1⟩:=kq;let⟨v,w,e1,q1⟩:=q1;subst e1;obtain⟨u1,u2,rfl,rv,rw'⟩:∃u1 u2,us=[u1,u2]/\RelV v u1/\RelV w u2:=by
  cases r1 with
  |cons p q =>
   cases q with
   |cons p' q' =>
    cases q'
    exact⟨_,_,rfl,p,p'⟩
 refine BQ ?_ (by show 2<=sizeLine;decide);have I2:Inv X pins σ H1 { s1 with heap:=s1.heap.push { cls:=.type "tuple",data:=.seq [u1,u2].toArray } }:=I1.kept (t':=s1.toks) λb o e=>AM _ e;rw[hw];refine AH (AN ?_);show AX (model X.prog X.w) X.A (do rule "assign.swapped-stores";let items <- unpackItems (.ref s1.heap.objs.size) 2 AD;assignInOrder [λv=>bindName X.env y v,λv=>bindName X.env x v] items.reverse;pure HA) _ _ _;refine AH (Ex (AH (unpackItems_tuple (items:=#[u1,u2]) (I.ok.hd hc) (Ek s1.heap _) λh' hx'=>?_)));have I3:=I2.kept (h':=h') (t':=s1.toks) λb o e=>hx' b o (Av (AY e)) e;show AX _ _ (assignInOrder [λv=>bindName X.env y v,λv=>bindName X.env x v] [u2,u1] >>= λ_=>pure HA) _ _ _;refine AH (EI (wpAny_bindName (zbh I3 hN hj (.inl hy) rw' (λs2 I4=>?_) (.inr hy))));refine EI (wpAny_bindName (zbh I4 hN hi (.inl hx) rv (λs3 I5=>Fy (AN ?_)) (.inr hx)));rw[Gx _ _ (BM hij)]at I5;exact⟨_,H1,I5,q1⟩
def yg2(i:Nat)(te:TE)(ti:TIp):TS:=λD σ H=>∃x,σ[i]?=AA (AA x)/\te σ H λy H1=>ti x y H1 λz H2=>D.nx (σ.set i (AA z)) H2
theorem zkQ{i:Nat}{x:AR}{e:AV}{te:TE}{op:Dj}{ti:TIp}{pos':C5}(hN:X.N.Nodup)(hi:X.N[i]?=AA x)(hx:Loc X.env.scope x)(he:PE X e te)(ho:PIp X op ti)(hf:X.fn x=AB \/ X.env.scope.names.lookup x=AA .local:=by first|exact .inl rfl|exact .inr rfl|assumption) :
  PS X (.AugAssign (.Name x pos') op e pos) (yg2 i te ti):=by
 intro pins s σ H D I h;let⟨v,e1,h⟩:=h;let⟨m,hn,hl⟩:=I.loc;have vis:Vis X.env.scope x:=by rcases hx with k|k;exact .inl k;exact .inr (.inl k)
 let⟨u,r,l⟩:=hl i x v hi e1 vis;refine wpAny_AugAssign_Name ?_;have go:AX (model X.prog X.w) X.A (eval e X.env) (λw s₂=>AX (model X.prog X.w) X.A (inplaceOp op u w) (λr s₃=>AX (model X.prog X.w) X.A (storeName X.env x r) (λ_=>SP X pins D .next) X.xe s₃) X.xe s₂) X.xe s:=by
  refine thn (he pins s σ H _ I h) λw s1 kq=>?_;let⟨y,H1,I1,r1,q1⟩:=kq;refine thn (ho pins s1 σ H1 v y u w _ I1 r r1 q1) λz s2 kq=>?_;let⟨zv,H2,I2,r2,q2⟩:=kq;exact zbh I2 hN hi hx r2 (λs3 I3=>⟨_,H2,I3,q2⟩) hf
 rcases l with⟨hk,hm⟩|⟨hk,c,hc,hcell⟩
 .exact FX I.ok.kind hk hn hm go
 .rcases hk with hk|hk
  .exact F7 I.ok.kind hk hc hcell go
  .rcases hx with k|k
   .have:X.env.scope.names.lookup x=AA .free:=hk;rw[k]at this;cases this
   .have:X.env.scope.names.lookup x=AA .free:=hk;rw[k]at this;cases this
def ipI(f:Int->Int->Int):TIp:=λx y H Q=>∃i j,x=.int i/\y=.int j/\Q (.int (f i j)) H
theorem znM:PIp X .Add (ipI λi j=>i+j):=by
 intro pins s σ H x y v u Q I r1 r2 h;let⟨i,j,e1,e2,q⟩:=h;subst e1;subst e2;let⟨t,rfl⟩:=r1;let⟨t',rfl⟩:=r2;exact Gg ⟨.int _,H,I.tok _,⟨_,rfl⟩,q⟩
end
section
variable {X:Cx}{pos:C5}
def ydg(c:TT)(tb:TS):TS:=λD σ H=>∃W:Nat->St->Hp->Prop,(∃m,W m σ H)/\∀m σ H,W m σ H ->
 c σ H λb H1=>if b=AB then ∃N:St->Hp->Prop,(∀σ' H',N σ' H'->∃m',m' < m/\W m' σ' H')/\tb { D with nx:=N,ct:=N,bk:=D.nx } σ H1 else D.nx σ H1
theorem zjp{c:AV}{body:List CC}{tc:TT}{tb:TS}(hp:El (model X.prog X.w) X.A X.env X.xe)(hc:PT X c tc)(hb:PSs X body tb):PS X (.While c body [] pos) (ydg tc tb):=by
 intro pins s σ H D I h;let⟨W,⟨m0,w0⟩,turn⟩:=h;refine wpAny_While (codeAny_whileLoop (λn s'=>∃σ' H',Inv X pins σ' H' s'/\W n σ' H') ?_ m0 ⟨σ,H,I,w0⟩)
 rintro n s1 ⟨σ1,H1,I1,w1⟩
 refine C6 hp (thn (hc pins s1 σ1 H1 _ I1 (turn n σ1 H1 w1)) λb s2 kq=>?_);let⟨H2,I2,q2⟩:=kq
 cases b with
 |true =>
  let⟨N,hN,q2⟩:=q2;rw[if_pos rfl];refine C6 hp (thn (hb pins s2 σ1 H2 _ I2 q2) λf s3 q3=>?_)
  cases f with
  |next =>
   let⟨σ3,H3,I3,n3⟩:=q3;let⟨m',hm,w3⟩:=hN σ3 H3 n3;exact⟨m',hm,σ3,H3,I3,w3⟩
  |cont =>
   let⟨σ3,H3,I3,n3⟩:=q3;let⟨m',hm,w3⟩:=hN σ3 H3 n3;exact⟨m',hm,σ3,H3,I3,w3⟩
  |brk=>exact q3
  |ret v=>exact q3
 |false =>
  rw[if_neg BF];exact Do ⟨σ1,H2,I2,q2⟩
end
structure It where
 go:Nat->Hp->Prop
 yld:Nat->Hp->V->Hp->Prop
 stop:Nat->Hp->Prop
def ybA(X:Cx)(pins:List (AI×CO))(H:Hp)(b:AI):Prop :=
 H b=AD/\b≠X.env.locals/\b∉X.fs/\(b∈X.ex \/ X.s₀.heap.objs.size<=b)/\(∀x c,X.env.cells.lookup x=AA c->c≠b)/\∀p∈X.pn++pins,p.1≠b
theorem Inv.fpOk{X:Cx}{pins:List (AI×CO)}{σ:St}{H H':Hp}{s:AJ}{b:AI}(I:Inv X pins σ H s)(hb:s.heap.objs.size<=b)(hn:H' b=AD):ybA X pins H' b:=by
 refine⟨hn,Ey (A6 I.lt hb),I.nofs hb,.inr (B9 I.sz hb),λx c e z=>?_,λp hp z=>?_⟩
 .let⟨v,q⟩:=I.cell x c e;exact absurd (A6 q.lt (by rw[z];exact hb)) (DG _)
 .exact absurd (A6 (AY (I.pin p hp).1) (by rw[z];exact hb)) (DG _)
structure Turn(P:A8)(w:An)(K:AE)(tg:AV)(J:It)(fp:List AI)(it:AI)(tn:Nat->BI->Prop):Prop where
 mem:it∈fp
 obj:∀i h,tn i h->∀b∈fp,∃o,h.get? b=AA o/\∀v,o.data ≠ .cell v
 keep:∀i h h',tn i h->(∀b∈fp,∀o,h.get? b=AA o->h'.get? b=AA o)->tn i h'
 item:∀(X:Cx),X.prog=P->X.w=w->X.K=K->X.calm=AB->∀(i:Nat) (pins:List (AI×CO)) (s:AJ) (σ:St) (H:Hp) (E:AG->AJ->Prop),Inv X pins σ H s->(∀b∈fp,ybA X pins H b)->tn i s.heap->J.go i H ->
  AX (model P w) X.A (pyNext (.ref it)) (λr s1=>∃u,r=AA u /\
   AX (model P w) X.A (letOwnedTupleGo tg (.ref it) u) (λ_ s2=>∃x H',Inv X pins σ H' s2/\RelV x u/\J.yld i H x H'/\tn (i+1) s2.heap/\∀b∈fp,H' b=AD) E s1) E s
 done:∀(X:Cx),X.prog=P->X.w=w->X.K=K->X.calm=AB->∀(i:Nat) (pins:List (AI×CO)) (s:AJ) (σ:St) (H:Hp) (E:AG->AJ->Prop),Inv X pins σ H s->(∀b∈fp,ybA X pins H b)->tn i s.heap->J.stop i H ->
  AX (model P w) X.A (pyNext (.ref it)) (λr s1=>r=AD/\Inv X pins σ H s1) E s
 self:∀(A:Ay) (i:Nat) (s:AJ) (Q:AG->AJ->Prop) (E:AG->AJ->Prop),tn i s.heap->Q (.ref it) s->AX (model P w) A (pyIter (.ref it)) Q E s
abbrev TI:=St->Hp->(It->Hp->Prop)->Prop
def PIE(X:Cx)(pins:List (AI×CO))(σ:St)(tg:AV)(R:It->Hp->Prop)(itv:AG)(s2:AJ):Prop :=
 ∃(it:AI) (fp:List AI) (tn:Nat->BI->Prop) (J:It) (H':Hp),itv=.ref it/\Inv X pins σ H' s2/\Turn X.prog X.w X.K tg J fp it tn/\tn 0 s2.heap/\(∀b∈fp,ybA X pins H' b)/\R J H'
def PI(X:Cx)(tg iter:AV)(wi:TI):Prop :=
 ∀(pins:List (AI×CO)) (s:AJ) (σ:St) (H:Hp) (R:It->Hp->Prop),Inv X pins σ H s->wi σ H R ->
  AX (model X.prog X.w) X.A (eval iter X.env) (λv s1=>AX (model X.prog X.w) X.A (pyIter v) (PIE X pins σ tg R) X.xe s1) X.xe s
theorem zmc{M:Model}{A:Ay}{E:AG->AJ->Prop}{s:AJ}{tg:AV}{it:AI}{u:AG}{o:CO}{n:String}{vs:Array AG}{Q:Unit->AJ->Prop}(ho:s.heap.get? it=AA o)(hc:o.cls=.type n)(hd:o.data=.fields vs)
  (hn:["enumerate","zip","dict_itemiterator","dict_reverseitemiterator","odict_iterator","itertools.zip_longest","itertools.pairwise"].contains n=AC) (hQ:Q () s):AX M A (letOwnedTupleGo tg (.ref it) u) Q E s:=by
 unfold letOwnedTupleGo
 cases tg<;>first
  | exact AN hQ
  | (cases u<;>first
    | exact AN hQ
    | (refine AH (wpAny_load ho ?_)
       rw[hc,hd];show AX M A (if (["enumerate","zip","dict_itemiterator","dict_reverseitemiterator","odict_iterator","itertools.zip_longest","itertools.pairwise"].contains n && vs[0]? == AA (rawInt _))=AB then _ else _) Q E s;rw[if_neg (by intro h;rw[hn,Bool.false_and]at h;cases h)];exact AN hQ))
def Itl(K:AE)(a:AI):It :=
 ⟨λi H=>∃xs x,SqL K H a xs/\xs[i]?=AA x,λi H x H'=>H'=H/\∀xs,SqL K H a xs->xs[i]?=AA x,λi H=>∃xs,SqL K H a xs/\xs.length<=i⟩
def Itt(K:AE)(a:AI):It :=
 ⟨λi H=>∃xs x,SqT K H a xs/\xs[i]?=AA x,λi H x H'=>H'=H/\∀xs,SqT K H a xs->xs[i]?=AA x,λi H=>∃xs,SqT K H a xs/\xs.length<=i⟩
def Itr(lo:Int)(n:Nat):It:=⟨λi _=>i<n,λi H x H'=>H'=H/\x=.int (lo+i),λi _=>n<=i⟩
theorem zhz{P:A8}{w:An}{K:AE}{tg:AV}(a it:AI):Turn P w K tg (Itl K a) [it] it (λi h=>h.IsListIter it a i) where
 mem:=by simp
 obj:=λi h st b hb=>by
  have e:b=it:=by simpa using hb
  subst e;let⟨o,e,c,d⟩:=st;exact⟨o,e,λv z=>by rw[d]at z;cases z⟩
 keep:=λi h h' st k=>st.at λo e=>k it (by simp) o e
 item:=by
  intro X hP hw hK hc i pins s σ H E I hf st hg;subst hP hw hK;let⟨xs,x,hq,hx⟩:=hg;let⟨its,rv,p,hz⟩:=I.list hq;let⟨u,hu,ru⟩:=rv.get hx;let⟨f0,f1,f2,f3,f4,f5⟩:=hf it (by simp);refine wpAny_pyNext_list_item st p.isList (x:=u) (by simpa using hu) λh' st' sb=>?_;have I1:Inv X pins σ H { s with heap:=h' }:=I.turned (t':=s.toks) (λb o hb e=>(sb.2 b hb).trans e) f0 f1 f3 f4 f5;let⟨o,e,c,d⟩:=id st';exact⟨u,rfl,zmc (s:={ s with heap:=h' }) e c d (by decide) ⟨x,H,I1,ru,⟨rfl,λys hy=>by rw[I.list_inj hy hq];exact hx⟩,st',λb hb=>(hf b hb).1⟩⟩
 done:=by
  intro X hP hw hK hc i pins s σ H E I hf st hg;subst hP hw hK;let⟨xs,hq,hx⟩:=hg;let⟨its,rv,p,hz⟩:=I.list hq;let⟨f0,f1,f2,f3,f4,f5⟩:=hf it (by simp);have hl:=rv.length;exact wpAny_pyNext_list_end (I.ok.hd hc) st p.isList (by simp;lia) λh' eb=>⟨rfl,I.turned (t':=s.toks) (λb o hb e=>eb b o hb e) f0 f1 f3 f4 f5⟩
 self:=λ_ _ _ _ _ st h=>wpAny_pyIter_listiter st h
theorem zg6{P:A8}{w:An}{K:AE}{tg:AV}(a it:AI):Turn P w K tg (Itt K a) [it] it (λi h=>h.IsTupleIter it a i) where
 mem:=by simp
 obj:=λi h st b hb=>by
  have e:b=it:=by simpa using hb
  subst e;let⟨o,e,c,d⟩:=st;exact⟨o,e,λv z=>by rw[d]at z;cases z⟩
 keep:=λi h h' st k=>st.at λo e=>k it (by simp) o e
 item:=by
  intro X hP hw hK hc i pins s σ H E I hf st hg;subst hP hw hK;let⟨xs,x,hq,hx⟩:=hg;let⟨its,rv,p,hz⟩:=I.tuple hq;let⟨u,hu,ru⟩:=rv.get hx;let⟨f0,f1,f2,f3,f4,f5⟩:=hf it (by simp);refine wpAny_pyNext_tuple_item st (show s.heap.IsTuple a its.toArray from p) (x:=u) (by simpa using hu) λh' st' sb=>?_;have I1:Inv X pins σ H { s with heap:=h' }:=I.turned (t':=s.toks) (λb o hb e=>(sb.2 b hb).trans e) f0 f1 f3 f4 f5;let⟨o,e,c,d⟩:=id st';exact⟨u,rfl,zmc (s:={ s with heap:=h' }) e c d (by decide) ⟨x,H,I1,ru,⟨rfl,λys hy=>by rw[I.tuple_inj hy hq];exact hx⟩,st',λb hb=>(hf b hb).1⟩⟩
 done:=by
  intro X hP hw hK hc i pins s σ H E I hf st hg;subst hP hw hK;let⟨xs,hq,hx⟩:=hg;let⟨its,rv,p,hz⟩:=I.tuple hq;let⟨f0,f1,f2,f3,f4,f5⟩:=hf it (by simp);have hl:=rv.length;exact wpAny_pyNext_tuple_end (I.ok.hd hc) st (show s.heap.IsTuple a its.toArray from p) (by simp;lia) λh' eb=>⟨rfl,I.turned (t':=s.toks) (λb o hb e=>eb b o hb e) f0 f1 f3 f4 f5⟩
 self:=λ_ _ _ _ _ st h=>wpAny_pyIter_tupleiter st h
theorem zg7{P:A8}{w:An}{K:AE}{tg:AV}(it:AI)(lo:Int)(n:Nat):Turn P w K tg (Itr lo n) [it] it (λi h=>IsRangeIter h it (lo+(i:Nat)*1) ((n:Int) - (i:Nat)) 1) where
 mem:=by simp
 obj:=λi h st b hb=>by
  have e:b=it:=by simpa using hb
  subst e;exact⟨_,st,λv z=>by
   have z':Data.fields _=Data.cell v:=z
   cases z'⟩
 keep:=λi h h' st k=>k it (by simp) _ st
 item:=by
  intro X hP hw hK hc i pins s σ H E I hf st hg;subst hP hw hK;let⟨f0,f1,f2,f3,f4,f5⟩:=hf it (by simp);have W:=Walks.range (prog:=X.prog) (w:=X.w) (I.ok.hd hc) it lo 1 n;refine W.item i s _ _ hg st λv h' tk hv st' kk=>?_;let⟨t,rfl⟩:=hv;have I1:Inv X pins σ H { s with heap:=h',toks:=tk }:=I.turned (λb o hb e=>kk b o (by simpa using hb) e) f0 f1 f3 f4 f5;refine⟨_,rfl,zmc (s:={ s with heap:=h',toks:=tk }) (n:="range_iterator") st' rfl rfl (by decide) ⟨.int (lo+i),H,I1,⟨t,?_⟩,⟨rfl,rfl⟩,st',λb hb=>(hf b hb).1⟩⟩;rw[Cr]
 done:=by
  intro X hP hw hK hc i pins s σ H E I hf st hg;subst hP hw hK;let⟨f0,f1,f2,f3,f4,f5⟩:=hf it (by simp);exact wpAny_pyNext_range_end (I.ok.hd hc) st (by have:n<=i:=hg;lia) λh' eb=>⟨rfl,I.turned (t':=s.toks) (λb o hb e=>eb b o hb e) f0 f1 f3 f4 f5⟩
 self:=λ_ _ _ _ _ st h=>wpAny_pyIter_rangeiter st h
section
variable {X:Cx}{tg:AV}
theorem zjJ{pins:List (AI×CO)}{σ:St}{H:Hp}{s:AJ}{R:It->Hp->Prop}{E:AG->AJ->Prop}{lo hi:Int}{t u v:Ha}{tk:Nat}(I:Inv X pins σ H s)(h1:-(2^62)<=lo)(h2:lo<2^62)(h3:-(2^62)<=hi)(h4:hi<2^62)
  (q:R (Itr lo (hi - lo).toNat) H):AX (model X.prog X.w) X.A (pyIter (.ref s.heap.objs.size)) (PIE X pins σ tg R) E { s with heap:=s.heap.push { cls:=.type "range",data:=.fields #[.int lo t,.int hi u,.int 1 v] },toks:=tk }:=by
 refine wpAny_pyIter_range (IsRange.new ..) (small_one h1 h2 h3 h4) ?_;have I1:Inv X pins σ H { s with heap:=s.heap.push { cls:=.type "range",data:=.fields #[.int lo t,.int hi u,.int 1 v] },toks:=tk }:=I.kept λb o e=>AM _ e;refine⟨(s.heap.push { cls:=.type "range",data:=.fields #[.int lo t,.int hi u,.int 1 v] }).objs.size,[(s.heap.push { cls:=.type "range",data:=.fields #[.int lo t,.int hi u,.int 1 v] }).objs.size],_,_,H,rfl,
  I1.kept (t':=tk) λb o e=>AM _ e,zg7 _ lo (hi - lo).toNat,?_,λb hb=>?_,q⟩
 .have e1:lo+((0:Nat):Int)*1=lo:=by simp
  have e2:(((hi - lo).toNat:Nat):Int) - ((0:Nat):Int)=HB lo hi 1:=by rw[rangeSize_one];split<;>lia
  show IsRangeIter _ _ (lo+((0:Nat):Int)*1) ((((hi - lo).toNat:Nat):Int) - ((0:Nat):Int)) 1;rw[e1,e2];exact A4 _ rfl
 .have e:b=(s.heap.push { cls:=.type "range",data:=.fields #[.int lo t,.int hi u,.int 1 v] }).objs.size:=by simpa using hb
  subst e;exact I1.fpOk (AS _) (I1.hok.fresh (AS _))
def yeQ(ta:TA):TI:=λσ H R=>ta σ H λvs H1=>∃j:Int,vs=[.int j]/\-(2^62)<=j/\j<2^62/\R (Itr 0 j.toNat) H1
theorem zjc{a:AV}{ta:TA}{p pos:C5}(hg:Gl X "range")(hm:X.mg "range"=AD)(ha:PA X [a] ta)(hs:starEach [a] X.env=[(AC,eval a X.env)]:=by rfl):PI X tg (.Call (.Name "range" p) [a] [] pos) (yeQ ta):=by
 intro pins s σ H R I h;refine Call_ (zeb I hg hm boot_range (CQ (thn (ha pos pins s σ H _ I h) λus s1 kq=>?_) hs rfl));let⟨vs,H1,I1,r1,q1⟩:=kq;let⟨j,e,q1,q2,q⟩:=q1;subst e
 cases r1 with
 |cons r rr =>
  cases rr
  let⟨t,rfl⟩:=r;exact call_range_1 (zjJ I1 (by lia) (by lia) q1 q2 (by simpa using q))
def ygi(wi:TI)(g:TG)(tb:TS):TS:=λD σ H=>wi σ H λJ H1=>∃W:Nat->Nat->St->Hp->Prop,(∃m,W 0 m σ H1)/\∀i m σ H,W i m σ H ->
 (J.stop i H/\D.nx σ H) \/ (J.go i H/\∃N:St->Hp->Prop,(∀σ' H',N σ' H'->∃m',m' < m/\W (i+1) m' σ' H')/\∀x H',J.yld i H x H'->g x σ H' λσ2 H2=>tb { D with nx:=N,ct:=N,bk:=D.nx } σ2 H2)
def ybv(fp:List AI)(h:BI):List (AI×CO):=fp.filterMap λb=>(h.get? b).map λo=>(b,o)
theorem zbt{fp:List AI}{h:BI}{b:AI}{o:CO}(hb:b∈fp)(e:h.get? b=AA o):(b,o)∈ybv fp h:=EJ.mpr ⟨b,hb,by rw[e];rfl⟩
theorem zit{fp:List AI}{h:BI}{p:AI×CO}(hp:p∈ybv fp h):p.1∈fp/\h.get? p.1=AA p.2:=by
 let⟨b,hb,e⟩:=EJ.mp hp
 cases q:h.get? b with
 |none=>rw[q]at e;cases e
 |some o =>
  rw[q]at e;have e':(b,o)=p:=AW e;subst e';exact⟨hb,q⟩
theorem Inv.pinned{pins:List (AI×CO)}{σ:St}{H:Hp}{s:AJ}{fp:List AI}(I:Inv X pins σ H s)(hf:∀b∈fp,ybA X pins H b)(ho:∀b∈fp,∃o,s.heap.get? b=AA o/\∀v,o.data ≠ .cell v):Inv X (pins++ybv fp s.heap) σ H s :=
 I.pins_of λp hp=>(Ar.mp hp).elim (λz=>I.pin p (As _ z)) λz=>by
  let⟨hb,e⟩:=zit z;let⟨f0,f1,f2,_⟩:=hf p.1 hb;let⟨o,e',d⟩:=ho p.1 hb;rw[e]at e';cases e';exact⟨e,f0,f1,f2,d⟩
theorem Inv.unpinned{pins pl:List (AI×CO)}{σ:St}{H:Hp}{s:AJ}(I:Inv X (pins++pl) σ H s):Inv X pins σ H s:=I.pins_of λp hp=>I.pin p (As _ (FW _ hp))
theorem zob{iter:AV}{body:List CC}{wi:TI}{g:TG}{tb:TS}{pos:C5}(hp:El (model X.prog X.w) X.A X.env X.xe)(hc:X.calm=AB)(hi:PI X tg iter wi)(hg:PG X tg g)(hb:PSs X body tb)
  (hs:∀x,foldedSetIterable iter X.env x=pure x:=by intro _;rfl):PS X (.For tg iter body [] pos) (ygi wi g tb):=by
 intro pins s σ H D I h;refine wpAny_For (thn (hi pins s σ H _ I h) λv s1 h1=>thn h1 λitv s2 h2=>?_) hs;let⟨it,fp,tn,J,H2,e,I2,T,st2,f2,W,⟨m0,w0⟩,turn⟩:=h2;subst e;have stat:∀{H':Hp},(∀b∈fp,H' b=AD)->∀b∈fp,ybA X pins H' b:=λhn b hb=>⟨hn b hb,(f2 b hb).2⟩;refine codeAny_forLoop_any (λn s'=>∃i σ' H',Inv X pins σ' H' s'/\tn i s'.heap/\(∀b∈fp,H' b=AD)/\W i n σ' H') ?_ m0 ⟨0,σ,H2,I2,st2,λb hb=>(f2 b hb).1,w0⟩
 rintro n s3 ⟨i,σ3,H3,I3,st3,fr3,w3⟩
 rcases turn i n σ3 H3 w3 with⟨stop,qn⟩|⟨go,N,hN,step⟩
 .refine C6 hp (thn (T.done X rfl rfl rfl hc i pins s3 σ3 H3 X.xe I3 (stat fr3) st3 stop) λr s4 kq=>?_);let⟨hr,I4⟩:=kq;subst hr;exact Do ⟨σ3,H3,I4,qn⟩
 .refine C6 hp (thn (T.item X rfl rfl rfl hc i pins s3 σ3 H3 X.xe I3 (stat fr3) st3 go) λr s4 kq=>?_);let⟨u,hr,h4⟩:=kq;subst hr;refine C6 hp (thn h4 λ_ s5 kq=>?_);let⟨x,H5,I5,r5,y5,st5,fr5⟩:=kq;have I5':=I5.pinned (stat fr5) (T.obj _ _ st5);refine C6 hp (thn (hg _ s5 σ3 H5 x u _ I5' r5 (step x H5 y5)) λ_ s6 kq=>?_);let⟨σ6,H6,I6,q6⟩:=kq;refine C6 hp (thn (hb _ s6 σ6 H6 _ I6 q6) λf s7 q7=>?_);have again:∀{σ7:St} {H7:Hp},Inv X (pins++ybv fp s5.heap) σ7 H7 s7->N σ7 H7->∃m,m<n/\∃i σ' H',Inv X pins σ' H' s7/\tn i s7.heap/\(∀b∈fp,H' b=AD)/\W i m σ' H':=λ{σ7 H7} I7 n7=>by
   let⟨m',hm,w7⟩:=hN σ7 H7 n7;refine⟨m',hm,i+1,σ7,H7,I7.unpinned,T.keep _ _ _ st5 λb hb o e=>(I7.pin (b,o) (As _ (As _ (zbt hb e)))).1,λb hb=>?_,w7⟩;let⟨o,e,d⟩:=T.obj _ _ st5 b hb;exact(I7.pin (b,o) (As _ (As _ (zbt hb e)))).2.1
  cases f with
  |next=>let⟨σ7,H7,I7,n7⟩:=q7;exact again I7 n7
  |cont=>let⟨σ7,H7,I7,n7⟩:=q7;exact again I7 n7
  |brk=>let⟨σ7,H7,I7,q7⟩:=q7;exact⟨σ7,H7,I7.unpinned,q7⟩
  |ret v=>let⟨x7,σ7,H7,I7,r7,q7⟩:=q7;exact⟨x7,σ7,H7,I7.unpinned,r7,q7⟩
end
abbrev R2:=V->V->Hp->VK->Prop
def OpR(X:Cx)(f:AG->AG->Gw AG)(r:R2):Prop :=
 ∀(pins:List (AI×CO)) (s:AJ) (σ:St) (H:Hp) (x y:V) (v u:AG) (Q:VK),Inv X pins σ H s->RelV x v->RelV y u->r x y H Q ->
  AX (model X.prog X.w) X.A (f v u) (EP X pins σ Q) X.xe s
def UnR(X:Cx)(f:AG->Gw AG)(r:V->Hp->VK->Prop):Prop :=
 ∀(pins:List (AI×CO)) (s:AJ) (σ:St) (H:Hp) (x:V) (v:AG) (Q:VK),Inv X pins σ H s->RelV x v->r x H Q ->
  AX (model X.prog X.w) X.A (f v) (EP X pins σ Q) X.xe s
def yar(X:Cx)(f:AG)(r:List V->Hp->VK->Prop):Prop :=
 ∀(pins:List (AI×CO)) (s:AJ) (σ:St) (H:Hp) (xs:List V) (us:List AG) (Q:VK),Inv X pins σ H s->Vals xs us->r xs H Q ->
  AX (model X.prog X.w) X.A (call f us) (EP X pins σ Q) X.xe s
def yfP(X:Cx)(r:V->Hp->(Bool->Hp->Prop)->Prop):Prop :=
 ∀(pins:List (AI×CO)) (s:AJ) (σ:St) (H:Hp) (x:V) (v:AG) (Q:Bool->Hp->Prop),Inv X pins σ H s->RelV x v->r x H Q ->
  AX (model X.prog X.w) X.A (truthy v) (TP X pins σ Q) X.xe s
def tOp(r:R2)(ta tb:TE):TE:=λσ H Q=>ta σ H λx H1=>tb σ H1 λy H2=>r x y H2 Q
def tUn(r:V->Hp->VK->Prop)(ta:TE):TE:=λσ H Q=>ta σ H λx H1=>r x H1 Q
def rI(C:Int->Int->Prop)(g:Int->Int->V):R2:=λx y H Q=>∃i j,x=.int i/\y=.int j/\C i j/\Q (g i j) H
def rI0(g:Int->Int->V):R2:=λx y H Q=>∃i j,x=.int i/\y=.int j/\Q (g i j) H
def rU(g:Int->V):V->Hp->VK->Prop:=λx H Q=>∃i,x=.int i/\Q (g i) H
section
variable {X:Cx}{a b c:AV}{ta tb tc:TE}{pos:C5}
theorem yel(ha:PE X a ta)(hb:PE X b tb){pins:List (AI×CO)}{s:AJ}{σ:St}{H:Hp}{R:V->V->Hp->Prop}(I:Inv X pins σ H s)
  (h:ta σ H λx H1=>tb σ H1 λy H2=>R x y H2) {Q:AG->AJ->Prop} {f:AG->AG->Gw AG}
  (hf:∀v u s2 x y H2,Inv X pins σ H2 s2->RelV x v->RelV y u->R x y H2->AX (model X.prog X.w) X.A (f v u) Q X.xe s2) :
  AX (model X.prog X.w) X.A (eval a X.env) (λv s₁=>AX (model X.prog X.w) X.A (eval b X.env) (λu s₂=>AX (model X.prog X.w) X.A (f v u) Q X.xe s₂) X.xe s₁) X.xe s:=by
 refine thn (ha pins s σ H _ I h) λv s1 kq=>?_;let⟨x,H1,I1,r1,q1⟩:=kq;refine thn (hb pins s1 σ H1 _ I1 q1) λu s2 kq=>?_;let⟨y,H2,I2,r2,q2⟩:=kq;exact hf v u s2 x y H2 I2 r1 r2 q2
theorem zpm{op:Dj}{r:R2}(ho:OpR X (binaryOp op) r)(ha:PE X a ta)(hb:PE X b tb):PE X (.BinOp a op b pos) (tOp r ta tb):=by
 intro pins s σ H Q I h;exact wpAny_BinOp (yel ha hb I h λv u s2 x y H2 I2 rx ry q=>ho pins s2 σ H2 x y v u Q I2 rx ry q)
theorem zpB{op:UnaryOp}{r:V->Hp->VK->Prop}(ho:UnR X (unaryOp op) r)(ha:PE X a ta):PE X (.UnaryOp op a pos) (tUn r ta):=by
 intro pins s σ H Q I h;exact UnaryOp_ (thn (ha pins s σ H _ I h) λv s1 ⟨x,H1,I1,r1,q1⟩=>ho pins s1 σ H1 x v Q I1 r1 q1)
theorem opI{f:AG->AG->Gw AG}{C:Int->Int->Prop}{g:Int->Int->Int}
  (rule:∀(i j:Int) (t u:Ha) (s:AJ) (Q:AG->AJ->Prop) (E:AG->AJ->Prop),C i j->Q (.int (g i j) s.toks) { s with toks:=s.toks+1 }->AX (model X.prog X.w) X.A (f (.int i t) (.int j u)) Q E s) :
  OpR X f (rI C λi j=>.int (g i j)):=by
 intro pins s σ H x y v u Q I rx ry h;let⟨i,j,rfl,rfl,hc,q⟩:=h;let⟨t,rfl⟩:=rx;let⟨t',rfl⟩:=ry;exact rule i j t t' s _ _ hc ⟨.int (g i j),H,I.tok _,⟨_,rfl⟩,q⟩
theorem ydo{f:AG->AG->Gw AG}{g:Int->Int->Int}
  (rule:∀(i j:Int) (t u:Ha) (s:AJ) (Q:AG->AJ->Prop) (E:AG->AJ->Prop),Q (.int (g i j) s.toks) { s with toks:=s.toks+1 }->AX (model X.prog X.w) X.A (f (.int i t) (.int j u)) Q E s) :
  OpR X f (rI0 λi j=>.int (g i j)):=by
 intro pins s σ H x y v u Q I rx ry h;let⟨i,j,rfl,rfl,q⟩:=h;let⟨t,rfl⟩:=rx;let⟨t',rfl⟩:=ry;exact rule i j t t' s _ _ ⟨.int (g i j),H,I.tok _,⟨_,rfl⟩,q⟩
theorem ydZ{f:AG->AG->Gw AG}{g:Int->Int->Bool}
  (rule:∀(i j:Int) (t u:Ha) (s:AJ) (Q:AG->AJ->Prop) (E:AG->AJ->Prop),Q (.bool (g i j)) s->AX (model X.prog X.w) X.A (f (.int i t) (.int j u)) Q E s) :
  OpR X f (rI0 λi j=>.bl (g i j)):=by
 intro pins s σ H x y v u Q I rx ry h;let⟨i,j,rfl,rfl,q⟩:=h;let⟨t,rfl⟩:=rx;let⟨t',rfl⟩:=ry;exact rule i j t t' s _ _ ⟨.bl (g i j),H,I,rfl,q⟩
def yd0(i j:Int):Prop:=0<=j/\j<=1000000/\i.natAbs<2^64
def ydE(i j:Int):Prop:=(-(2^64)<i/\i<2^64) \/ (-(2^64)<j/\j<2^64)
theorem ydE.ok{i j:Int}(h:ydE i j):IntMulOk i j:=by
 rcases h with⟨h1,h2⟩|⟨h1,h2⟩
 .exact .of_left (intBits_le_64 h1 h2)
 .exact .of_right (intBits_le_64 h1 h2)
theorem zg9(k:Nat):(0:Int)<=2^k:=by
 rw[two_pow_cast];exact Int.natCast_nonneg _
theorem znC:OpR X (binaryOp .Add) (rI0 λi j=>.int (i+j)):=ydo λ_ _ _ _ _ _ _ q=>add_int q
theorem zoW:OpR X (binaryOp .Sub) (rI0 λi j=>.int (i - j)):=ydo λ_ _ _ _ _ _ _ q=>sub_int q
theorem zot:OpR X (binaryOp .Mult) (rI ydE λi j=>.int (i*j)):=opI λ_ _ _ _ _ _ _ hc q=>mul_int q hc.ok
theorem zn9:OpR X (binaryOp .Mod) (rI (λ_ j=>0<j) λi j=>.int (i%j)):=opI λi j _ _ _ _ _ hc q=>by
 have h1:(0:Int)<j:=hc;exact mod_int' (by lia) (by rw[Int.fmod_eq_emod_of_nonneg i (by lia)];exact q)
theorem zoV:OpR X (binaryOp .Pow) (rI yd0 λi j=>.int (i^j.toNat)):=opI λ_ _ _ _ _ _ _ hc q=>pow_int_small hc.1 hc.2.1 hc.2.2 q
theorem zn6:OpR X (binaryOp .LShift) (rI yd0 λi j=>.int (i*2^j.toNat)):=opI λ_ _ _ _ _ _ _ hc q=>lshift_int_small hc.1 hc.2.1 hc.2.2 q
theorem znI:OpR X (binaryOp .RShift) (rI (λ_ j=>0<=j) λi j=>.int (i / 2^j.toNat)):=opI λi j _ _ _ _ _ hc q =>
 rshift_int hc (by rw[EK i (zg9 _)];exact q)
theorem zo2:OpR X (binaryOp .BitAnd) (rI0 λi j=>.int (BR i j)):=ydo λ_ _ _ _ _ _ _ q=>and_int q
theorem zpH:OpR X (binaryOp .BitOr) (rI0 λi j=>.int (Bd i j)):=ydo λ_ _ _ _ _ _ _ q=>or_int q
theorem znf:OpR X (binaryOp .BitXor) (rI0 λi j=>.int (BB i j)):=ydo λ_ _ _ _ _ _ _ q=>xor_int q
theorem unI{f:AG->Gw AG}{g:Int->Int}
  (rule:∀(i:Int) (t:Ha) (s:AJ) (Q:AG->AJ->Prop) (E:AG->AJ->Prop),Q (.int (g i) s.toks) { s with toks:=s.toks+1 }->AX (model X.prog X.w) X.A (f (.int i t)) Q E s) :
  UnR X f (rU λi=>.int (g i)):=by
 intro pins s σ H x v Q I rx h;let⟨i,rfl,q⟩:=h;let⟨t,rfl⟩:=rx;exact rule i t s _ _ ⟨.int (g i),H,I.tok _,⟨_,rfl⟩,q⟩
theorem zoP:UnR X (unaryOp .USub) (rU λi=>.int (-i)):=unI λ_ _ _ _ _ q=>neg_int q
theorem ziN:OpR X (binaryOp .Add) (λx y H Q=>∃i k,x=.int i/\y=.bl k/\Q (.int (i+b2i k)) H):=by
 intro pins s σ H x y v u Q I rx ry h;let⟨i,k,rfl,rfl,q⟩:=h;let⟨t,rfl⟩:=rx
 cases ry
 exact add_int_bool ⟨.int (i+b2i k),H,I.tok _,⟨_,rfl⟩,q⟩
end
section
variable {X:Cx}{a b c:AV}{ta tb tc:TE}{pos:C5}
theorem zhX{pins:List (AI×CO)}{σ:St}{H:Hp}{s:AJ}{Q:VK}{k k':Bool}(I:Inv X pins σ H s)(q:Q (.bl k) H)(e:k=k'):EP X pins σ Q (.bool k') s:=by
 subst e;exact⟨.bl k,H,I,rfl,q⟩
theorem zpM:OpR X (compareOp .Lt) (rI0 λi j=>.bl (decide (i<j))):=ydZ λ_ _ _ _ _ _ _ q=>lt_int q
theorem zpT:OpR X (compareOp .LtE) (rI0 λi j=>.bl (decide (i<=j))):=ydZ λ_ _ _ _ _ _ _ q=>le_int q
theorem zpE:OpR X (compareOp .Gt) (rI0 λi j=>.bl (decide (j<i))):=ydZ λ_ _ _ _ _ _ _ q=>gt_int q
theorem zpC:OpR X (compareOp .GtE) (rI0 λi j=>.bl (decide (j<=i))):=ydZ λ_ _ _ _ _ _ _ q=>ge_int q
theorem zhI:OpR X (compareOp .Lt) (λx y H Q=>∃i j,x=.str i/\y=.str j/\Q (.bl (decide (i.cps.toList<j.cps.toList))) H):=by
 intro pins s σ H x y v u Q I rx ry h;let⟨i,j,rfl,rfl,q⟩:=h;let⟨t,rfl⟩:=rx;let⟨t',rfl⟩:=ry;exact lt_str (zhX I q rfl)
theorem zhw:OpR X (compareOp .In) (λx y H Q=>∃i j,x=.str i/\y=.str j/\Q (.bl (!(Em j i 0 j.length 1).isEmpty)) H):=by
 intro pins s σ H x y v u Q I rx ry h;let⟨i,j,rfl,rfl,q⟩:=h;let⟨t,rfl⟩:=rx;let⟨t',rfl⟩:=ry;exact in_str (zhX I q rfl)
theorem zir{op:Fb}{r:R2}(ho:OpR X (compareOp op) r)(ha:PE X a ta)(hb:PE X b tb)(hm:behindInMarks op b=AC):PE X (.Compare a [op] [b] pos) (tOp r ta tb):=by
 intro pins s σ H Q I h;exact wpAny_Compare1 (yel ha hb I h λv u s2 x y H2 I2 rx ry q=>ho pins s2 σ H2 x y v u Q I2 rx ry q) hm
def ydH(t:TE):TT:=λσ H Q=>t σ H λx H'=>∃k,x=.bl k/\Q k H'
theorem zlp{op:Fb}{r:R2}(ho:OpR X (compareOp op) r)(ha:PE X a ta)(hb:PE X b tb)(hm:behindInMarks op b=AC):PT X (.Compare a [op] [b] pos) (ydH (tOp r ta tb)):=by
 intro pins s σ H Q I h;refine wpAny_isTrue_Compare1 (thn (ha pins s σ H _ I h) λv s1 ⟨x,H1,I1,r1,q1⟩=>thn (hb pins s1 σ H1 _ I1 q1) λu s2 ⟨y,H2,I2,r2,q2⟩ =>
  thn (ho pins s2 σ H2 x y v u _ I2 r1 r2 q2) λc s3 ⟨z,H3,I3,r3,k,e,q3⟩=>?_) hm
 subst e
 cases r3
 exact Bk ⟨H3,I3,q3⟩
def ycC(r r':R2)(ta tb tc:TE):TE:=λσ H Q=>ta σ H λx H1=>tb σ H1 λy H2=>r x y H2 λz H3=>∃k,z=.bl k /\
 (if k=AB then tc σ H3 λw' H4=>r' y w' H4 Q else Q (.bl AC) H3)
theorem zjP{op op':Fb}{r r':R2}(ho:OpR X (compareOp op) r)(ho':OpR X (compareOp op') r')(ha:PE X a ta)(hb:PE X b tb)(hc:PE X c tc)
  (hm:lastMarks [op,op'] [b,c]=false:=by ac_rfl):PE X (.Compare a [op,op'] [b,c] pos) (ycC r r' ta tb tc):=by
 intro pins s σ H Q I h;refine Compare_chain (thn (ha pins s σ H _ I h) λv s1 ⟨x,H1,I1,r1,q1⟩=>chain_link (thn (hb pins s1 σ H1 _ I1 q1) λu s2 ⟨y,H2,I2,r2,q2⟩ =>
  thn (ho pins s2 σ H2 x y v u _ I2 r1 r2 q2) λd s3 ⟨z,H3,I3,r3,k,e,q3⟩=>?_)) hm
 subst e
 cases r3
 refine Bk ?_
 cases k with
 |false=>exact ite_ff ⟨.bl AC,H3,I3,rfl,q3⟩
 |true=>exact ite_tt (chain_last (thn (hc pins s3 σ H3 _ I3 q3) λw' s4 ⟨z',H4,I4,r4,q4⟩=>ho' pins s4 σ H4 y z' u w' Q I4 r2 r4 q4))
theorem zjS{op op':Fb}{r r':R2}(ho:OpR X (compareOp op) r)(ho':OpR X (compareOp op') r')(ha:PE X a ta)(hb:PE X b tb)(hc:PE X c tc)
  (hm:lastMarks [op,op'] [b,c]=false:=by ac_rfl):PT X (.Compare a [op,op'] [b,c] pos) (ydH (ycC r r' ta tb tc)):=by
 intro pins s σ H Q I h;refine isTrue_chain (thn (ha pins s σ H _ I h) λv s1 ⟨x,H1,I1,r1,q1⟩=>test_link (thn (hb pins s1 σ H1 _ I1 q1) λu s2 ⟨y,H2,I2,r2,q2⟩ =>
  thn (ho pins s2 σ H2 x y v u _ I2 r1 r2 q2) λd s3 ⟨z,H3,I3,r3,k,e,q3⟩=>?_)) hm
 subst e
 cases r3
 refine Bk ?_
 cases k with
 |false =>
  let⟨k',e',q'⟩:=q3
  cases e'
  exact ite_ff ⟨H3,I3,q'⟩
 |true =>
  refine ite_tt (test_last (thn (hc pins s3 σ H3 _ I3 q3) λw' s4 kq=>?_));let⟨z',H4,I4,r4,q4⟩:=kq;refine thn (ho' pins s4 σ H4 y z' u w' _ I4 r2 r4 q4) λd' s5 kq=>?_;let⟨z2,H5,I5,r5,k2,e2,q5⟩:=kq;subst e2
  cases r5
  exact Bk ⟨H5,I5,q5⟩
def yeF(K:AE)(x:V)(H:Hp)(k:Bool):Prop :=
 match x with
 | .non=>k=AC
 | .bl b=>k=b
 | .int i=>k=(i != 0)
 | .str y=>y.length<=sizeLine/\k=((y.length:Int) != 0)
 | .byt y=>y.size<=sizeLine/\k=((y.size:Int) != 0)
 | .ref p=>(∃xs,SqL K H p xs/\k=!xs.isEmpty) \/ (∃xs,SqT K H p xs/\k=!xs.isEmpty) \/ ∃kvs,H p=AA (.dK kvs)/\k=!kvs.isEmpty
 |_=>False
theorem zg4{κ:Type}{kvs:List (κ×V)}{vs:List (κ×AG)}(r:KV kvs vs):(!vs.isEmpty)=!kvs.isEmpty:=by
 cases r<;>rfl
theorem zdW{xs:List V}{its:List AG}(r:Vals xs its):(!its.toArray.isEmpty)=!xs.isEmpty:=by
 cases r<;>simp
theorem yaW:(sizeLine:Nat)<2^63:=by rw[Dl];decide
theorem zni:yfP X (λx H Q=>∃k,yeF X.K x H k/\Q k H):=by
 intro pins s σ H x v Q I rx h;let⟨k,e,q⟩:=h;have hl:=yaW;have hs:sizeLine=16777216:=Dl
 cases x with
 |non =>
  cases rx
  have e':k=false:=e;subst e';exact truthy_none ⟨H,I,q⟩
 |bl b =>
  cases rx
  have e':k=b:=e;subst e';exact Bk ⟨H,I,q⟩
 |int i =>
  let⟨t,rfl⟩:=rx;have e':k=(i != 0):=e;subst e';exact PySem.P.truthy_int ⟨H,I,q⟩
 |str y =>
  let⟨t,rfl⟩:=rx;obtain⟨hy,e'⟩:y.length<=sizeLine/\k=((y.length:Int) != 0):=e;subst e';exact PySem.P.truthy_str (by lia) ⟨H,I.tok _,q⟩
 |byt y =>
  let⟨t,rfl⟩:=rx;obtain⟨hy,e'⟩:y.size<=sizeLine/\k=((y.size:Int) != 0):=e;subst e';exact PySem.W.truthy_bytes (by lia) ⟨H,I.tok _,q⟩
 |ref p =>
  cases rx
  have e':(∃xs,SqL X.K H p xs/\k=!xs.isEmpty) \/ (∃xs,SqT X.K H p xs/\k=!xs.isEmpty) \/ ∃kvs,H p=AA (.dK kvs)/\k=!kvs.isEmpty:=e;rcases e' with⟨xs,hx,e'⟩|⟨xs,hx,e'⟩|⟨kvs,hx,e'⟩
  .subst e';let⟨its,r,pl,hz⟩:=I.list hx;have hlen:=r.length;exact wpAny_truthy_list pl.isList (by erw[AU];lia) ⟨H,I.tok _,by rw[zdW r];exact q⟩
  .subst e';let⟨its,r,pl,hz⟩:=I.tuple hx;have hlen:=r.length;exact truthy_tuple pl (by erw[AU];lia) ⟨H,I.tok _,by rw[zdW r];exact q⟩
  .subst e';obtain⟨hz,hS,vs,r,m⟩:kvs.length<=sizeLine/\(p == sysModules)=AC/\∃vs,KV kvs vs/\s.heap.DictOf (yV X.prog X.w) p vs:=I.hok p _ hx;have hlen:kvs.length=vs.length:=Ed r;exact wpAny_truthy_dict hS m (by lia) ⟨H,I.tok _,by rw[zg4 r];exact q⟩
 |_=>exact(show False from e).elim
theorem zj6(ha:PE X a ta)(he:∀whole,isTrue a X.env whole=(do let v <- whole;standAt a.pos;holding [v] (truthy v))) :
  PT X a (λσ H Q=>ta σ H λx H'=>∃k,yeF X.K x H' k/\Q k H'):=by
 intro pins s σ H Q I h;exact isTrue_plain (thn (ha pins s σ H _ I h) λv s1 ⟨x,H1,I1,r1,q1⟩=>zni pins s1 σ H1 x v Q I1 r1 q1) (he _)
theorem zg5:OpR X (binaryOp .Add) (λx y H Q=>∃i j,x=.str i/\y=.str j/\i.length+j.length<=sizeLine/\Q (.str (i++j)) H):=by
 intro pins s σ H x y v u Q I rx ry h;let⟨i,j,rfl,rfl,hz,q⟩:=h;let⟨t,rfl⟩:=rx;let⟨t',rfl⟩:=ry;exact add_str (λt' tk=>⟨.str (i++j),H,I.tok _,⟨_,rfl⟩,q⟩) hz
theorem vals1{x:V}{us:List AG}(r:Vals [x] us):∃u,us=[u]/\RelV x u:=by
 cases r with
 |cons r1 r2=>cases r2;exact⟨_,rfl,r1⟩
theorem vals2{x y:V}{us:List AG}(r:Vals [x,y] us):∃u w',us=[u,w']/\RelV x u/\RelV y w':=by
 cases r with
 |cons r1 r2 =>
  cases r2 with
  |cons r3 r4=>cases r4;exact⟨_,_,rfl,r1,r3⟩
theorem zhL(hc:X.calm=AB):yar X (.builtin "max") (λxs H Q=>∃i j,xs=[.int i,.int j]/\Q (.int (if j > i then j else i)) H):=by
 intro pins s σ H xs us Q I r h;let⟨i,j,rfl,q⟩:=h;let⟨u,w',rfl,⟨t,rfl⟩,⟨t',rfl⟩⟩:=vals2 r;refine max_two_ints (I.ok.hd hc) λh' tk k=>⟨_,H,I.kept k,?_,q⟩
 by_cases hj:j > i
 .rw[if_pos hj,if_pos hj];exact⟨_,rfl⟩
 .rw[if_neg hj,if_neg hj];exact⟨_,rfl⟩
theorem zif(hc:X.calm=AB):yar X (.builtin "min") (λxs H Q=>∃i j,xs=[.int i,.int j]/\Q (.int (if j<i then j else i)) H):=by
 intro pins s σ H xs us Q I r h;let⟨i,j,rfl,q⟩:=h;let⟨u,w',rfl,⟨t,rfl⟩,⟨t',rfl⟩⟩:=vals2 r;refine min_two_ints (I.ok.hd hc) λh' tk k=>⟨_,H,I.kept k,?_,q⟩
 by_cases hj:j<i
 .rw[if_pos hj,if_pos hj];exact⟨_,rfl⟩
 .rw[if_neg hj,if_neg hj];exact⟨_,rfl⟩
end
structure yc1(h:BI)(x dx C:AI)(mA:AR->Option AG):Prop where
 obj:h.get? x=AA (CL C dx)
 ns:h.Ns1 dx mA
 ne:dx≠x
theorem zio{h:BI}{dx:AI}{mA:AR->Option AG}(n:h.Ns1 dx mA):∃od,h.get? dx=AA od/\∀name,EL name od=AA (mA name):=by
 let⟨o,es,ep,ho,hd,hk,_,hm⟩:=n;refine⟨o,ho,λname=>?_⟩;have e:=hm name;unfold nsFind findBy at e;rw[<- Array.find?_toList]at e;unfold EL;rw[hd];dsimp only;split
 .rename_i y q;rw[q]at e;exact congrArg AA e
 .rename_i q;rw[q]at e;have a:es.toList.any (·.refKey)=false:=by
   rw[List.any_eq_false];intro y hy;let⟨z,t,hkey⟩:=hk y (Array.mem_toList_iff.mp hy);simp[DictEntry.refKey,hkey]
  have a':¬es.toList.any (·.refKey)=true:=by rw[a];exact BF
  rw[if_neg a'];exact congrArg AA e
theorem yc1.look{h:BI}{x dx C:AI}{mA:AR->Option AG}(I:yc1 h x dx C mA):∃od,PySem.W.InstAt h x (CL C dx) C (AA od)/\∀name,EL name od=AA (mA name) :=
 let ⟨od,ho,hl⟩:=zio I.ns
 ⟨od,⟨I.obj,rfl,rfl,ho⟩,hl⟩
section
variable {prog:A8}{w:An}{A:Ay}{E:AG->AJ->Prop}{s:AJ}{K:AE}{x dx C f:AI}{mA:AR->Option AG}{name:AR}{v:AG}
theorem zlF{expr:Bool}{Q:AG->AJ->Prop}(X:K.In s.heap)(I:yc1 s.heap x dx C mA)(hg:DB K C name=AB)(hh:DP K C=AB)
  (ha:BC K (.ref C) name=AA AD) (hv:mA name=AA v) (hv':GS v=AB) (h:Q v { s with toks:=s.toks+1 }) :
  AX (model prog w) A (getAttr (.ref x) name expr) Q E s:=by
 let⟨od,J,hl⟩:=I.look;exact PySem.W.get_value X J (Dw hg).1 (PySem.W.findObj_own hh ha rfl (by rw[hl,hv])) hv' h
theorem zku{pl:Gw Bool}{Q:AG×List AG->AJ->Prop}(X:K.In s.heap)(I:yc1 s.heap x dx C mA)(hg:DB K C name=AB)
  (hf:BC K (.ref C) name=AA (AA (.ref f))) (ht:DC K (.ref f)=AB) (hv:mA name=AD) (h:Q (.ref f,[.ref x]) s) :
  AX (model prog w) A (getMethod (.ref x) name pl) Q E s:=by
 let⟨od,J,hl⟩:=I.look;exact PySem.W.method_fn X J (Dw hg).1 (Dw hg).2 hf (beq_iff_eq.mp ht) (by show (EL name od).map (·.isSome)=AA AC;rw[hl,hv];rfl) h
theorem zmN{ns:List AR}{Q:Unit->AJ->Prop}(X:K.In s.heap)(I:yc1 s.heap x dx C mA)
  (hs:BC K (.ref C) "__setattr__"=AA (AA (.builtin "object.__setattr__"))) (hp:E8 K C=AB) (ht:FM K C name=AA AD) (hh:DP K C=AB)
  (hw:Fv mA ns) (hsz:ns.length<=sizeLine)
  (h:∀h',yc1 h' x dx C (λy=>if y=name then AA v else mA y)->Ci dx s.heap h'->Q () { s with heap:=h',toks:=s.toks+2 }) :
  AX (model prog w) A (setAttr (.ref x) name v) Q E s:=by
 let⟨od,J,hl⟩:=I.look;refine PySem.W.set_plain X J hs (PySem.W.osa_open (s:={ s with toks:=s.toks+1 }) (r:=AD) X J hp ht λb=>?_);let⟨cd,hc,hd'⟩:=PySem.W.any_some hh;have hx:s.heap.get? x=AA ⟨.ref C,AA dx,.plain,#[]⟩:=I.obj;refine AH (AN (AH (AH (wpAny_loadPart hx (AH (Hb (s:={ s with toks:=s.toks+1 }) (PySem.W.looks_clsIn X hc) ?_))))));rw[hd'];refine AN (a:=AA dx) (AH (AN (AH ?_)));refine wpAny_nsSet1 (s:={ s with toks:=s.toks+1 }) I.ns λh' hn2 hs2=>?_;let⟨oD,esD,epD,hoD,hdD,hcD⟩:=hn2.count (He name v hw);refine AH (wpAny_lookBehind hoD (by rw[hdD];exact pastItsLine_dict (B9 hcD (by rw[AZ];lia))) ?_);exact AN (h _ ⟨(hs2.2 _ (BM I.ne)).trans I.obj,hn2,I.ne⟩ hs2)
theorem zkA{R:Gk->AJ->Prop}{vs:List AG}{kw:List (AR×AG)}(X:K.In s.heap)(hm:Dp K C=AB)
  (hi:BC K (.ref C) "__init__"=AA (AA (.ref f))) (hf:PySem.W.typeIn K (.ref f)=AA (.type "function"))
  (h:codeAny (model prog w) (A.under (.builtin "type.__call__" ⟨.ref C::vs,kw⟩)) (.call (.ref f) ⟨.ref (s.heap.objs.size+1)::vs,kw⟩) (PySem.W.InitBack (s.heap.objs.size+1) R)
   { s with heap:=(s.heap.push Bl).push (CL C s.heap.objs.size) }) :
  codeAny (model prog w) A (.call (.ref C) ⟨vs,kw⟩) R s:=by
 let⟨hh,g,d,t,os⟩:=s;exact PySem.W.make_core (PySem.W.makes_of X hm) (PySem.W.looks_findIn X hi) (λself=>PySem.W.bind_fn X self hf) (.inl rfl) h
end
def ybb(f:AR)(v:V):List (AR×V)->List (AR×V)
 | []=>[(f,v)]
 | (g,x)::r=>if g=f then(g,v)::r else(g,x)::ybb f v r
theorem zds(f g:AR)(v:V):∀fs:List (AR×V),(ybb f v fs).lookup g=if g=f then AA v else fs.lookup g
 | []=>by
  show CG g [(f,v)]=_
  by_cases h:g=f
  .have hb:(g == f)=true:=beq_iff_eq.mpr h;erw[CG,hb,if_pos h]
  .have hb:(g == f)=false:=beq_eq_false_iff_ne.mpr h;erw[CG,hb,if_neg h]
 | (k,x)::r=>by
  have ih:=zds f g v r;rw[show ybb f v ((k,x)::r)=(if k=f then(k,v)::r else(k,x)::ybb f v r)from rfl]
  by_cases hk:k=f
  .rw[if_pos hk]
   by_cases h:g=k
   .have hb:(g == k)=true:=beq_iff_eq.mpr h;erw[CG,hb,if_pos (h.trans hk)]
   .have hb:(g == k)=false:=beq_eq_false_iff_ne.mpr h;erw[CG,hb,if_neg (λe:g=f=>h (e.trans hk.symm))]
  .rw[if_neg hk]
   by_cases h:g=k
   .have hb:(g == k)=true:=beq_iff_eq.mpr h;erw[CG,hb,if_neg (λe:g=f=>hk (h.symm.trans e))]
   .have hb:(g == k)=false:=beq_eq_false_iff_ne.mpr h;erw[CG,hb];exact ih
theorem zdi(f:AR)(v:V):∀fs:List (AR×V),f∈(ybb f v fs).map (·.1)/\∀g,g∈fs.map (·.1)->g∈(ybb f v fs).map (·.1)
 | []=>⟨by simp[ybb],λg h=>by simp at h⟩
 | (k,x)::r=>by
  let⟨i1,i2⟩:=zdi f v r;rw[show ybb f v ((k,x)::r)=(if k=f then(k,v)::r else(k,x)::ybb f v r)from rfl]
  by_cases hk:k=f
  .rw[if_pos hk];subst hk;exact⟨by simp,λg h=>by simpa using h⟩
  .rw[if_neg hk];refine⟨?_,λg h=>?_⟩
   .rw[AL];exact AT _ i1
   .rw[AL]at h ⊢;rcases AQ.mp h with e|e
    .exact AQ.mpr (.inl e)
    .exact AT _ (i2 g e)
theorem zdu(f:AR)(v:V):∀fs:List (AR×V),(ybb f v fs).length<=fs.length+1
 | []=>by simp[ybb]
 | (k,x)::r=>by
  have ih:=zdu f v r;rw[show ybb f v ((k,x)::r)=(if k=f then(k,v)::r else(k,x)::ybb f v r)from rfl]
  by_cases hk:k=f
  .rw[if_pos hk,AZ,AZ];lia
  .rw[if_neg hk,AZ,AZ];lia
theorem ybB.some_of{v:V}{o:Option AG}(r:ybB (AA v) o):∃u,o=AA u/\RelV v u:=by
 cases o with
 |none=>exact(show False from r).elim
 |some u=>exact⟨u,rfl,r⟩
theorem ybB.none_of{o:Option AG}(r:ybB AD o):o=none:=by
 cases o with
 |none=>rfl
 |some u=>exact(show False from r).elim
theorem zhn{v:V}{u:AG}(r:RelV v u):GS u=true:=by
 cases v with
 |non=>cases (show u=CZ from r);rfl
 |bl b=>cases (show u=EF b from r);rfl
 |int i=>let⟨t,e⟩:=(show ∃t,u=Ej i t from r);cases e;rfl
 |str x=>let⟨t,e⟩:=(show ∃t,u=GQ x t from r);cases e;rfl
 |byt b=>let⟨t,e⟩:=(show ∃t,u=HR b t from r);cases e;rfl
 |flt b=>let⟨t,e⟩:=(show ∃t,u=HS b t from r);cases e;rfl
 |ref a=>cases (show u=Am a from r);rfl
 |ty n=>cases (show u=Ew n from r);rfl
section
variable {P:A8}{w:An}{H H':Hp}{h h':BI}{a C dx:AI}{fs fs':List (AR×V)}
theorem zfK(hok:HOk P w H h)(e:H a=AA (.ins C dx fs)):∃mA,yc1 h a dx C mA/\(∀f,ybB (fs.lookup f) (mA f))/\Fv mA (fs.map (·.1))/\fs.length<=1000/\H dx=AA (.own a):=by
 let⟨d,z,ne,ob,mA,n,r,q⟩:=(show yad P w H h a (.ins C dx fs)from hok a _ e);exact⟨mA,⟨ob,n,ne⟩,r,q,z,d⟩
end
structure Cls(K:AE)(C:AI):Prop where
 pg:DB K C GT=AB
 hd:DP K C=AB
 po:E8 K C=AB
 sa:BC K (.ref C) "__setattr__"=AA (AA (.builtin "object.__setattr__"))
theorem Cls.get{K:AE}{C:AI}(c:Cls K C)(f:AR):DB K C f=true:=c.pg
def yax(K:AE)(C:AI)(f:AR):Prop:=BC K (.ref C) f=AA AD
theorem yax.taker{K:AE}{C:AI}{f:AR}(n:yax K C f):FM K C f=AA none:=by
 unfold FM;rw[show BC K (.ref C) f=AA AD from n];rfl
structure Con(K:AE)(C:AI)(f:AR)(v:V)(u:AG):Prop where
 at_:BC K (.ref C) f=AA (AA u)
 rel:RelV v u
 get:PySem.W.specialIn K u "__get__"=AA AD
 cp:PySem.W.copiedNames.contains f=AC
structure Meth(K:AE)(C:AI)(m:AR)(f:AI):Prop where
 at_:BC K (.ref C) m=AA (AA (.ref f))
 fn:DC K (.ref f)=AB
 kp:Az K (.ref f)=AB
section
variable {X:Cx}{pins:List (AI×CO)}{σ:St}{H:Hp}{s:AJ}{a C dx:AI}{fs:List (AR×V)}{f:AR}{v:V}{A:Ay}{E:AG->AJ->Prop}
theorem zd1{b:Bool}{Q:AG->AJ->Prop}(I:Inv X pins σ H s)(e:H a=AA (.ins C dx fs))(c:Cls X.K C)(n:yax X.K C f)(l:fs.lookup f=AA v)
  (h:∀u s',Inv X pins σ H s'->RelV v u->Q u s'):AX (model X.prog X.w) A (getAttr (.ref a) f b) Q E s:=by
 let⟨mA,O,r,_,_,_⟩:=zfK I.hok e;let⟨u,hu,ru⟩:=ybB.some_of (v:=v) (o:=mA f) (by rw[<- l];exact r f);exact zlF I.kIn O (c.get f) c.hd n hu (zhn ru) (h u _ (I.tok _) ru)
theorem zed{m:AR}{g:AI}{pl:Gw Bool}{Q:AG×List AG->AJ->Prop}(I:Inv X pins σ H s)(e:H a=AA (.ins C dx fs))(c:Cls X.K C)(k:Meth X.K C m g)(l:fs.lookup m=AD)
  (h:Q (.ref g,[.ref a]) s):AX (model X.prog X.w) A (getMethod (.ref a) m pl) Q E s:=by
 let⟨mA,O,r,_,_,_⟩:=zfK I.hok e;have hn:mA m=none:=ybB.none_of (by rw[<- l];exact r m);exact zku I.kIn O (c.get m) k.at_ k.fn hn h
theorem zdT{y:V}{u:AG}{Q:Unit->AJ->Prop}(I:Inv X pins σ H s)(e:H a=AA (.ins C dx fs))(c:Cls X.K C)(n:yax X.K C f)(hl:fs.length<1000)(ry:RelV y u)
  (h:∀s',Inv X pins σ (upd H a (.ins C dx (ybb f y fs))) s'->Q () s'):AX (model X.prog X.w) A (setAttr (.ref a) f u) Q E s:=by
 let⟨mA,O,r,wi,_,ho⟩:=zfK I.hok e;have hz:(fs.map (·.1)).length<=sizeLine:=by rw[Ax,Dl];lia
 refine zmN I.kIn O c.sa c.po n.taker c.hd wi hz λh' O' sb=>h _ ?_;have hd:∃o,h'.get? dx=AA o:=let ⟨o,_,_,e',_⟩:=O'.ns;⟨o,e'⟩
 refine I.write (x:=a) (e:=dx) (by rw[e];exact Cj) (.inr ho) (λb q hb z=>(sb.2 b hb).trans z) hd ?_;refine⟨by rw[zk O.ne];exact ho,?_,O.ne,O'.obj,_,O'.ns,λg=>?_,λg hg=>?_⟩
 .have:=zdu f y fs;lia
 .show ybB ((ybb f y fs).lookup g) (if g=f then AA u else mA g);rw[zds]
  by_cases q:g=f
  .rw[if_pos q,if_pos q];exact ry
  .rw[if_neg q,if_neg q];exact r g
 .by_cases q:g=f
  .rw[q];exact(zdi f y fs).1
  .refine(zdi f y fs).2 g (wi g λz=>hg ?_);show (if g=f then AA u else mA g)=AD;rw[if_neg q];exact z
theorem Inv.made(I:Inv X pins σ H s):Inv X pins σ (upd (upd H s.heap.objs.size (.own (s.heap.objs.size+1))) (s.heap.objs.size+1) (.ins C s.heap.objs.size []))
  { s with heap:=(s.heap.push Bl).push (CL C s.heap.objs.size) }:=by
 have e1:(s.heap.push Bl).get? s.heap.objs.size=AA Bl:=A4 s.heap rfl;have e2:((s.heap.push Bl).push (CL C s.heap.objs.size)).get? (s.heap.objs.size+1)=AA (CL C s.heap.objs.size):=by
  have:=A4 (s.heap.push Bl) (o:=CL C s.heap.objs.size) rfl
  rwa [CH]at this
 have e3:(s.heap.push Bl).Ns s.heap.objs.size (λ_=>AD):=⟨Bl,#[],_,e1,rfl,(λe he=>absurd he (by simp)),λ_=>rfl⟩;have I1:=I.laid (a:=s.heap.objs.size) (o:=.own (s.heap.objs.size+1)) (h':=s.heap.push Bl) (t':=s.toks) (λb u q=>AM _ q) (AS _) ⟨_,e1⟩;refine I1.laid (a:=s.heap.objs.size+1) (o:=.ins C s.heap.objs.size []) (t':=s.toks) (λb u q=>AM _ q) (HF (CH _ _)) ?_;have ne:s.heap.objs.size≠s.heap.objs.size+1:=Av (GU _);refine⟨by rw[zk ne,zu],Dm _,ne,e2,λ_=>AD,(Heap.Ns1.of_empty e3).at λo q=>AM _ q,λ_=>Cj,λy hy=>absurd rfl hy⟩
theorem zmb{prog:A8}{w:An}{env:Env}{e:AV}{f:AR}{pos:C5}{s:AJ}{Q:AG->AJ->Prop}(hb:attributeBase e f env (eval e env)=eval e env)
  (h:AX (model prog w) A (eval e env) (λo s₁=>AX (model prog w) A (getAttr o f AB) Q E s₁) E s):AX (model prog w) A (eval (.Attribute e f pos) env) Q E s :=
 Attribute_any_ h (by rw[arm_eval_Attribute,hb])
end
def yfF(K:AE)(ta:TE)(f:AR):TE:=λσ H Q=>ta σ H λx H1=>∃a C dx fs v,x=.ref a/\H1 a=AA (.ins C dx fs)/\Cls K C/\yax K C f/\fs.lookup f=AA v/\Q v H1
def yf7(K:AE)(ta tv:TE)(f:AR):TS:=λD σ H=>tv σ H λy H1=>ta σ H1 λx H2=>∃a C dx fs,x=.ref a/\H2 a=AA (.ins C dx fs)/\Cls K C/\yax K C f/\fs.length<1000 /\
 D.nx σ (upd H2 a (.ins C dx (ybb f y fs)))
def yfs(X:Cx)(op:Dj)(rd:V->V->Hp->VK->Prop):Prop :=
 ∀(pins:List (AI×CO)) (s:AJ) (σ:St) (H:Hp) (x y:V) (u v:AG) (Q:VK),Inv X pins σ H s->RelV x u->RelV y v->rd x y H Q->AX (model X.prog X.w) X.A (inplaceOp op u v) (EP X pins σ Q) X.xe s
def ycM(K:AE)(ta tv:TE)(rd:V->V->Hp->VK->Prop)(f:AR):TS:=λD σ H=>ta σ H λx H1=>∃a C dx fs v,x=.ref a/\H1 a=AA (.ins C dx fs)/\Cls K C/\yax K C f/\fs.lookup f=AA v /\
 tv σ H1 λy H2=>rd v y H2 λz H3=>∃dx' fs',H3 a=AA (.ins C dx' fs')/\fs'.length<1000/\D.nx σ (upd H3 a (.ins C dx' (ybb f z fs')))
section
variable {X:Cx}{o e value:AV}{f:AR}{pos pos' tpos:C5}{ta tv:TE}
theorem znP(he:PE X e ta)(hb:attributeBase e f X.env (eval e X.env)=eval e X.env):PE X (.Attribute e f pos) (yfF X.K ta f):=by
 intro pins s σ H Q I h;refine zmb hb (thn (he pins s σ H _ I h) λu s1 kq=>?_);let⟨x,H1,I1,rx,a,C,dx,fs,v,ex,ea,c,n,l,q⟩:=kq;subst ex;obtain rfl:u=Am a:=rx;exact zd1 I1 ea c n l λu' s2 I2 ru=>⟨v,H1,I2,ru,q⟩
theorem zo9(ha:PE X o ta)(hv:PE X value tv)(hs:swapsWith value (AA (.Attribute o f pos')) pos.line X.env=pure AC):PS X (.Assign [.Attribute o f pos'] value pos) (yf7 X.K ta tv f):=by
 intro pins s σ H D I h;refine plainObj_wpAny_Assign_Attribute (thn (hv pins s σ H _ I h) λu s1 kq=>?_) hs;let⟨y,H1,I1,ry,q⟩:=kq;refine thn (ha pins s1 σ H1 _ I1 q) λov s2 kq=>?_;let⟨x,H2,I2,rx,a,C,dx,fs,ex,ea,c,n,l,q2⟩:=kq;subst ex;obtain rfl:ov=Am a:=rx;exact zdT I2 ea c n l ry λs3 I3=>⟨σ,_,I3,q2⟩
theorem ziA{op:Dj}{rd:V->V->Hp->VK->Prop}(ha:PE X o ta)(hv:PE X value tv)(hop:yfs X op rd):PS X (.AugAssign (.Attribute o f tpos) op value pos) (ycM X.K ta tv rd f):=by
 intro pins s σ H D I h;refine wpAny_AugAssign_AttributeAny (thn (ha pins s σ H _ I h) λov s1 kq=>?_);let⟨x,H1,I1,rx,a,C,dx,fs,v,ex,ea,c,n,l,q⟩:=kq;subst ex;obtain rfl:ov=Am a:=rx;refine zd1 I1 ea c n l λu s2 I2 ru=>thn (hv pins s2 σ H1 _ I2 q) λw3 s3 kq=>?_;let⟨y,H2,I3,ry,q3⟩:=kq;refine thn (hop pins s3 σ H2 v y u w3 _ I3 ru ry q3) λw4 s4 kq=>?_;let⟨z,H3,I4,rz,dx',fs',ea',l',q4⟩:=kq;exact zdT I4 ea' c n l' rz λs5 I5=>⟨σ,_,I5,q4⟩
def yhc:V->V->Hp->VK->Prop:=λx y H Q=>∃i j,x=.int i/\y=.int j/\Q (.int (i+j)) H
theorem zoo:yfs X .Add yhc:=by
 rintro pins s σ H x y u v Q I rx ry ⟨i,j,rfl,rfl,q⟩
 let⟨t,rfl⟩:=(show ∃t,u=Ej i t from rx);let⟨t',rfl⟩:=(show ∃t',v=Ej j t' from ry);exact Gg ⟨.int (i+j),H,I.tok _,⟨_,rfl⟩,q⟩
end
section
variable {X:Cx}{pins:List (AI×CO)}{σ:St}{H:Hp}{s:AJ}{A:Ay}{E:AG->AJ->Prop}{Q:AG->AJ->Prop}{c:AG}{b:Bool}
end
structure yay(k:Nat)(A:Ay):Prop where
 hd:A.handled=AD
 dp:A.depth+3*k+5<recursionLimit
 un:A.units+16*k+200<cLine
theorem yay.mono{j k:Nat}{A:Ay}(r:yay k A)(h:j<=k):yay j A:=⟨r.hd,by have:=r.dp;lia,by have:=r.un;lia⟩
theorem yay.deeper{k:Nat}{A:Ay}(r:yay (k+1) A)(env:Env):yay k (A.deeper env) :=
 ⟨r.hd,by have:=r.dp;show A.depth+1+3*k+5<_;lia,by have:=r.un;show A.units+3+16*k+200<_;lia⟩
theorem zhd{A:Ay}{C:AI}{us:List AG}{kw:List (AR×AG)}:(A.under (.builtin "type.__call__" ⟨.ref C::us,kw⟩)).depth=A.depth+1:=by
 first|rfl|simp[Fz,Code.weight,Code.isCreation,Code.isGuard,Code.isCaller,HU,GA,guardIds]
theorem zg1{A:Ay}{C:AI}{us:List AG}{kw:List (AR×AG)}:(A.under (.builtin "type.__call__" ⟨.ref C::us,kw⟩)).units=A.units+1:=by
 first|rfl|simp[Fz,Code.cUnits,HU,GA]
theorem yay.make{k:Nat}{A:Ay}(r:yay (k+1) A)(C:AI)(us:List AG)(kw:List (AR×AG)):yay k (A.under (.builtin "type.__call__" ⟨.ref C::us,kw⟩)) :=
 ⟨r.hd,by have:=r.dp;rw[zhd];lia,by have:=r.un;rw[zg1];lia⟩
theorem yay.depth{k:Nat}{A:Ay}(r:yay k A):A.depth<recursionLimit:=by have:=r.dp;lia
theorem yay.units{k:Nat}{A:Ay}(r:yay k A):A.units+64<cLine:=by have:=r.un;lia
def ydK:TA:=λ_ H Q=>Q [] H
def ydJ(ta:TE)(tr:TA):TA:=λσ H Q=>ta σ H λx H1=>tr σ H1 λxs H2=>Q (x::xs) H2
section
variable {X:Cx}{e:AV}{es:List AV}{te:TE}{t:TA}{pos:C5}
theorem ybu:PA X [] ydK:=λ_ _ _ _ H Q I h=>GB ⟨[],H,I,.nil,h⟩
theorem zbL(ha:PE X e te)(hr:PA X es t)(hs:starEach (e::es) X.env=(AC,eval e X.env)::starEach es X.env:=by rfl):PA X (e::es) (ydJ te t):=by
 intro pos pins s σ H Q I h;rw[hs];show AX _ _ (spliced ((AC,eval e X.env)::backTo pos (starEach es X.env))) _ _ s;refine EM (thn (ha pins s σ H _ I h) λu s1 kq=>?_);let⟨x,H1,I1,r1,q1⟩:=kq;exact thn (hr pos pins s1 σ H1 _ I1 q1) λus s2 ⟨xs,H2,I2,r2,q2⟩=>⟨x::xs,H2,I2,.cons r1 r2,q2⟩
def yfD(t:TA):TE:=λσ H Q=>t σ H λxs H1=>xs.length<=sizeLine/\∀p,H1 p=AD->Q (.ref p) (upd H1 p (.tup xs))
def yfC(t:TA):TE:=λσ H Q=>t σ H λxs H1=>xs.length<=sizeLine/\∀p,H1 p=AD->Q (.ref p) (upd H1 p (.lst xs))
theorem znw{x1}(h:PA X es t):PE X (.Tuple es x1 pos) (yfD t):=by
 intro pins s σ H Q I hq;refine wpAny_Tuple_spliced (thn (h pos pins s σ H _ I hq) λus s1 kq=>?_);let⟨xs,H1,I1,r,z,q⟩:=kq;refine ⟨by rw[<- r.length];exact z,?_⟩;have hf:H1 s1.heap.objs.size=none:=I1.hok.fresh (AS _);refine⟨.ref s1.heap.objs.size,upd H1 s1.heap.objs.size (.tup xs),I1.laid (t':=s1.toks) (λb u e=>AM _ e) (AS _) ?_,rfl,q _ hf⟩;exact⟨z,us,r,⟨_,A4 _ rfl,rfl,_,rfl⟩⟩
theorem zkF(h:PA X es t):PE X (.List es pos) (yfC t):=by
 intro pins s σ H Q I hq;refine wpAny_List_spliced (thn (h pos pins s σ H _ I hq) λus s1 kq=>?_);let⟨xs,H1,I1,r,z,q⟩:=kq;refine ⟨by rw[<- r.length];exact z,?_⟩;have hf:H1 s1.heap.objs.size=none:=I1.hok.fresh (AS _);refine⟨.ref s1.heap.objs.size,upd H1 s1.heap.objs.size (.lst xs),I1.laid (t':=s1.toks) (λb u e=>AM _ e) (AS _) ?_,rfl,q _ hf⟩;exact⟨z,us,0,r,A4 _ rfl⟩
end
abbrev Sp:=List V->Hp->VK->XK->Prop
abbrev CXT:=List Env->Hp->AJ->XK->AG->AJ->Prop
structure yc0(P:A8)(w:An)(K:AE)(mg:AR->Option AG)(base:BI)(A:Ay)(outer:List Env)(s:AJ)(H:Hp):Prop where
 frames:A.frames=AA outer
 mod:Mod K mg base
 bs:∀b o,base.get? b=AA o->s.heap.get? b=AA o/\H b=AD
 bsz:base.objs.size<=s.heap.objs.size
 funs:s.heap.FunFrames base outer
 frf:∀b∈frs outer,H b=AD
 hok:HOk P w H s.heap
 bare:D8 s.gens
def CE(outer:List Env)(P:A8)(w:An)(H:Hp)(s:AJ)(Q:VK)(u:AG)(s':AJ):Prop :=
 ∃v H',s'.os=s.os/\D8 s'.gens/\Un (frs outer) [] H H' s.heap s'.heap/\HOk P w H' s'.heap/\RelV v u/\Q v H'
def CR(CX:CXT)(outer:List Env)(P:A8)(w:An)(H:Hp)(s:AJ)(Q:VK)(E:XK)(r:Gk)(s':AJ):Prop :=
 match r with
 | .ok (.ret u)=>CE outer P w H s Q u s'
 | .ok _=>False
 | .error e=>CX outer H s E e s'
structure yaQ(P:A8)(w:An)(K:AE)(mg:AR->Option AG)(base:BI)(CX:CXT)(k:Nat)(f:AI)(fd:BK)(ps:List AR)(sp:Sp):Prop where
 len:∀vs H Q E,sp vs H Q E->vs.length=ps.length
 run:∀(A:Ay) (outer:List Env) (s:AJ) (H:Hp) (args:Args) (us:List AG) (vs:List V) (Q:VK) (E:XK),yay k A->yc0 P w K mg base A outer s H->F5 s fd args (ps.zip us)->Vals vs us->sp vs H Q E ->
  codeAny (model P w) A (.call (.ref f) args) (CR CX outer P w H s Q E) s
theorem yaQ.imp{P:A8}{w:An}{K:AE}{mg:AR->Option AG}{base:BI}{CX:CXT}{k:Nat}{f:AI}{fd:BK}{ps:List AR}{sp sp':Sp}(F:yaQ P w K mg base CX k f fd ps sp)
  (h:∀vs H Q E,sp' vs H Q E->sp vs H Q E):yaQ P w K mg base CX k f fd ps sp' :=
 ⟨λvs H Q E q=>F.len vs H Q E (h _ _ _ _ q),λA outer s H args us vs Q E hr he hb hv hs=>F.run A outer s H args us vs Q E hr he hb hv (h _ _ _ _ hs)⟩
theorem yc0.make{P:A8}{w:An}{K:AE}{mg:AR->Option AG}{base:BI}{A:Ay}{outer:List Env}{s:AJ}{H:Hp}(e:yc0 P w K mg base A outer s H)(C:AI)(us:List AG)(kw:List (AR×AG)) :
  yc0 P w K mg base (A.under (.builtin "type.__call__" ⟨.ref C::us,kw⟩)) outer s H:=⟨by first|exact e.frames|(simpa [Fz,Code.envs,GA,pushEnvs] using e.frames),e.mod,e.bs,e.bsz,e.funs,e.frf,e.hok,e.bare⟩
section
variable {X:Cx}{pins:List (AI×CO)}{σ:St}{H:Hp}{s s':AJ}
theorem Inv.env0(I:Inv X pins σ H s):yc0 X.prog X.w X.K X.mg X.base X.A X.stack s H :=
 ⟨I.ok.frames,I.ok.mod,I.bs,B9 I.ok.bsz I.sz,I.stack,I.stkFree,I.hok,I.bare⟩
theorem Inv.after{Q:VK}{u:AG}(I:Inv X pins σ H s)(h:CE X.stack X.prog X.w H s Q u s'):EP X pins σ Q u s':=by
 let⟨v,H',os,bare,un,hok,r,q⟩:=h;let⟨hh,g,d,t,os'⟩:=s';obtain rfl:os'=s.os:=os;exact⟨v,H',I.call (h':=hh) (g':=g) (d':=d) (t':=t) (ch:=[]) un hok bare (λb z=>absurd z (by simp)),r,q⟩
end
def yd6(C:AI)(sp:Sp)(dvs:List V)(E:XK)(t:TA):TE:=λσ H Q=>t σ H λvs H1=>∀x dx,H1 x=AD->H1 dx=AD->dx≠x ->
 sp (.ref x::(vs++dvs)) (upd (upd H1 dx (.own x)) x (.ins C dx [])) (λv H2=>v=.non/\Q (.ref x) H2) E
def Binds(K:AE)(fd:BK)(ps:List AR)(ds:List AG):Prop :=
 ∀(s:AJ) (us:List AG),K.In s.heap->(us++ds).length=ps.length->F5 s fd ⟨us,[]⟩ (ps.zip (us++ds))
theorem Binds.all{K:AE}{fd:BK}{ps:List AR}(h:∀us:List AG,us.length=ps.length->bindArgs fd ⟨us,[]⟩=pure (ps.zip us)):Binds K fd ps []:=λs us _ hl=>by
 rw[A2]at hl ⊢;exact .of_eq (h us hl)
def ybO(CX:CXT)(X:Cx)(E:XK):Prop:=∀(pins:List (AI×CO)) (σ:St) (H:Hp) (s:AJ) (e:AG) (s':AJ),Inv X pins σ H s->CX X.stack H s E e s'->X.xe e s'
section
variable {X:Cx}{CX:CXT}{k:Nat}{f C:AI}{fd:BK}{ps:List AR}{sp:Sp}{dvs:List V}{ds:List AG}{E:XK}{x m:AR}{p pos apos:C5}{e o:AV}{es:List AV}{ta:TE}{t:TA}
structure Mk(K:AE)(C f:AI):Prop where
 makes:Dp K C=AB
 init:BC K (.ref C) "__init__"=AA (AA (.ref f))
 fn:DC K (.ref f)=AB
 kp:Az K (.ref C)=AB
theorem zjD{pins:List (AI×CO)}{σ:St}{H:Hp}{s:AJ}{Q:VK}{us:List AG}{vs:List V}(M:Mk X.K C f)(F:yaQ X.prog X.w X.K X.mg X.base CX k f fd ps sp)(hr:yay (k+1) X.A)(hb:Binds X.K fd ps ds)(hd:Vals dvs ds)
  (hx:ybO CX X E) (I:Inv X pins σ H s) (r:Vals vs us)
  (h:∀x dx,H x=AD->H dx=AD->dx≠x->sp (.ref x::(vs++dvs)) (upd (upd H dx (.own x)) x (.ins C dx [])) (λv H2=>v=.non/\Q (.ref x) H2) E) :
  AX (model X.prog X.w) X.A (call (.ref C) us) (EP X pins σ Q) X.xe s:=by
 have hq:=h (s.heap.objs.size+1) s.heap.objs.size (I.hok.fresh (Ct _)) (I.hok.fresh (AS _)) (Av (GU _));have I2:=Inv.made (C:=C) I;have r2:Vals (V.ref (s.heap.objs.size+1)::(vs++dvs)) (Am (s.heap.objs.size+1)::(us++ds)):=.cons rfl (r.append hd);have hl:(Am (s.heap.objs.size+1)::us++ds).length=ps.length:=by
  have e:=r2.length;rw[F.len _ _ _ _ hq]at e;exact e.symm
 refine Gm (zkA (f:=f) I.kIn M.makes M.init (beq_iff_eq.mp M.fn) (Dz (F.run _ X.stack _ _ ⟨Am (s.heap.objs.size+1)::us,[]⟩ (Am (s.heap.objs.size+1)::(us++ds)) _ _ E (hr.make C us [])
  (I2.env0.make C us []) (hb _ (Am (s.heap.objs.size+1)::us) I2.kIn hl) r2 hq) λr s' hq'=>?_))
 cases r with
 |error e=>exact hx pins σ _ _ e s' I2 hq'
 |ok fl =>
  cases fl with
  |ret u =>
   let⟨v,H',I3,rv,ev,q3⟩:=I2.after hq';subst ev;exact⟨rv,⟨V.ref (s.heap.objs.size+1),H',I3,rfl,q3⟩⟩
  |next=>exact Br hq'
  |brk=>exact Br hq'
  |cont=>exact Br hq'
theorem zma(M:Mk X.K C f)(F:yaQ X.prog X.w X.K X.mg X.base CX k f fd ps sp)(hr:yay (k+1) X.A)(hg:Gl X x)(hm:X.mg x=AA (.ref C))(hb:Binds X.K fd ps ds)(hd:Vals dvs ds)(hx:ybO CX X E)
  (ha:PA X (e::es) t) (hdb:(x == ("__debug__":AR))=false:=by decide) (he:starEach (e::es) X.env=(AC,eval e X.env)::starEach es X.env:=by rfl) (hpl:(backTo pos (starEach es X.env)).any (·.1)=false:=by rfl) :
  PE X (.Call (.Name x p) (e::es) [] pos) (yd6 C sp dvs E t):=by
 intro pins s σ H Q I h;refine Bb (zdg I hg hm ?_ hdb);refine DN (h₀:=X.base) I.ok.mod.kin M.kp (thn (ha pos pins s σ H _ I h) λus s1 kq=>?_) he hpl;let⟨vs,H1,I1,r,q⟩:=kq;refine ⟨I1.kIn,?_⟩;exact zjD M F hr hb hd hx I1 r q
end
def PK(X:Cx)(kws:List Ca)(t:TA):Prop :=
 ∀(pos:C5) (pins:List (AI×CO)) (s:AJ) (σ:St) (H:Hp) (Q:List V->Hp->Prop),Inv X pins σ H s->t σ H Q->AX (model X.prog X.w) X.A (evalAll ((backToKw pos (keywordEach kws X.env)).map (·.2))) (AP X pins σ Q) X.xe s
section
variable {X:Cx}{CX:CXT}{k:Nat}{f C:AI}{fd:BK}{ps ks:List AR}{sp:Sp}{E:XK}{x m:AR}{p pos apos kpos:C5}{e o:AV}{es:List AV}{kws:List Ca}{te ta:TE}{t tk:TA}{nm:Option AR}
theorem ydm:PK X [] ydK:=λ_ _ _ _ H Q I h=>wpAny_evalAll_nil ⟨[],H,I,.nil,h⟩
theorem zmj(ha:PE X e te)(hr:PK X kws t):PK X (⟨nm,e,kpos⟩ :: kws) (ydJ te t):=by
 intro pos pins s σ H Q I h;show AX _ _ (evalAll ((do let v <- eval e X.env;standAt pos;pure v)::(backToKw pos (keywordEach kws X.env)).map (·.2))) _ _ s;refine wpAny_evalAll_cons (AH (thn (ha pins s σ H _ I h) λu s1 kq=>?_));let⟨x,H1,I1,r1,q1⟩:=kq;refine AH (D9 (AN ?_));exact thn (hr pos pins s1 σ H1 _ I1 q1) λus s2 ⟨xs,H2,I2,r2,q2⟩=>⟨x::xs,H2,I2,.cons r1 r2,q2⟩
structure ybR(K:AE)(fd:BK)(ps ks:List AR)(g:List AG->List AG->List AG)(gV:List V->List V->List V):Prop where
 to:∀(s:AJ) (us ws:List AG),K.In s.heap->(g us ws).length=ps.length->F5 s fd ⟨us,ks.zip ws⟩ (ps.zip (g us ws))
 rel:∀{vs:List V} {us:List AG} {zs:List V} {ws:List AG},Vals vs us->Vals zs ws->Vals (gV vs zs) (g us ws)
variable {g:List AG->List AG->List AG}{gV:List V->List V->List V}
end
structure ybl(N P:List AR)(sc:Bj):Prop where
 kind:sc.kind=.function
 co:sc.isCoroutine=AC
 gen:sc.isGenerator=AC
 nd:N.Nodup
 pre:N.take P.length=P
 par:∀x∈P,sc.names.lookup x=AA .local \/ sc.names.lookup x=AA .cell
 nofree:∀y∈sc.names,y.2 ≠ .free
theorem zfx{kindOf:AR->Option DQ}{x:AR}:∀{binds:List (AR×AG)} {m:AR->Option AG},(∀v,(x,v)∉binds)->bindL kindOf binds m x=m x
 | [],_,_=>rfl
 | (n,v)::r,m,h=>by
  unfold bindL;rw[zfx λw hw=>h w (AT _ hw)];split
  .have:x≠n:=by rintro rfl;exact h v Aj
   simp[this]
  .rfl
theorem zfA{kindOf:AR->Option DQ}{x:AR}:∀{binds:List (AR×AG)} {m:AR->Option AG},(∀v,(x,v)∉binds)->bindC kindOf binds m x=m x
 | [],_,_=>rfl
 | (n,v)::r,m,h=>by
  unfold bindC;rw[zfA λw hw=>h w (AT _ hw)];split
  .rfl
  .have:x≠n:=by rintro rfl;exact h v Aj
   simp[this]
theorem zeZ{kindOf:AR->Option DQ}{x:AR}{v:AG}:∀{P:List AR} {vs:List AG} {i:Nat} {m:AR->Option AG},P.Nodup->P[i]?=AA x->vs[i]?=AA v->kindOf x=AA .local ->
  bindL kindOf (P.zip vs) m x=AA v
 | [],_,_,_,_,h,_,_=>by simp at h
 |_::_,[],_,_,_,_,h,_=>by simp at h
 |p::P,w::vs,0,m,nd,h1,h2,hk=>by
  simp at h1 h2;subst h1;subst h2;show bindL kindOf ((p,w)::P.zip vs) m p=_;unfold bindL;rw[zfx λv hv=>(Dq.mp nd).1 (FN hv).1,if_pos hk];simp
 |p::P,w::vs,i+1,m,nd,h1,h2,hk=>by
  show bindL kindOf ((p,w)::P.zip vs) m x=_;unfold bindL;exact zeZ (i:=i) (Dq.mp nd).2 (by simpa using h1) (by simpa using h2) hk
theorem ze1{kindOf:AR->Option DQ}{x:AR}{v:AG}:∀{P:List AR} {vs:List AG} {i:Nat} {m:AR->Option AG},P.Nodup->P[i]?=AA x->vs[i]?=AA v->kindOf x≠AA .local ->
  bindC kindOf (P.zip vs) m x=AA v
 | [],_,_,_,_,h,_,_=>by simp at h
 |_::_,[],_,_,_,_,h,_=>by simp at h
 |p::P,w::vs,0,m,nd,h1,h2,hk=>by
  simp at h1 h2;subst h1;subst h2;show bindC kindOf ((p,w)::P.zip vs) m p=_;unfold bindC;rw[zfA λv hv=>(Dq.mp nd).1 (FN hv).1,if_neg hk];simp
 |p::P,w::vs,i+1,m,nd,h1,h2,hk=>by
  show bindC kindOf ((p,w)::P.zip vs) m x=_;unfold bindC;exact ze1 (i:=i) (Dq.mp nd).2 (by simpa using h1) (by simpa using h2) hk
def start(N:List AR)(vs:List V):St:=vs.map AA++BG (N.length - vs.length) AD
def ya6(CX:CXT)(P:A8)(w:An)(K:AE)(mg:AR->Option AG)(base:BI)(N:List AR)(qual:AR)(scope:Bj)(f:AI)(cd:AG)(A:Ay)(outer:List Env)(s:AJ)(H:Hp)(E:XK):Cx where
 prog:=P
 w:=w
 K:=K
 mg:=mg
 base:=base
 A:=A.deeper (envOfC qual scope s.heap.objs.size f cd)
 N:=N
 s₀:=s
 H₀:=H
 env:=envOfC qual scope s.heap.objs.size f cd
 outer:=outer
 stack:=envOfC qual scope s.heap.objs.size f cd::outer
 ex:=[]
 calm:=AB
 fn:=λ_=>AB
 pn:=[]
 xe:=λe s'=>AX (model P w) (A.deeper (envOfC qual scope s.heap.objs.size f cd)) (leaving (envOfC qual scope s.heap.objs.size f cd) e) (λ_ s''=>CX outer H s E e s'') (λe' s''=>CX outer H s E e' s'') s'
theorem zgO{sc:Bj}{n:Nat}{x:AR}(h:sc.names.lookup x=AA .cell):∃c,(cellsFrom n sc.names []).lookup x=AA c:=by
 have q:=Ez sc.names n [] (.inl h);exact BA.mp q
theorem zhJ{CX:CXT}{P:A8}{w:An}{K:AE}{mg:AR->Option AG}{base:BI}{N ps:List AR}{qual:AR}{scope:Bj}{f:AI}{cd:AG}{A:Ay}{outer:List Env}{s s1:AJ}{H:Hp}{E:XK}{us:List AG}{vs:List V}
  (S:ybl N ps scope) (hd:A.handled=AD) (e0:yc0 P w K mg base A outer s H) (hl:vs.length=ps.length) (r:Vals vs us)
  (x:InCallC s s.heap.objs.size (bindL (envOfC qual scope s.heap.objs.size f cd).kindOf (ps.zip us) λ_=>AD) (cellsFrom (s.heap.objs.size+1) scope.names []) (bindC (envOfC qual scope s.heap.objs.size f cd).kindOf (ps.zip us) λ_=>AD) s1) :
  Inv (ya6 CX P w K mg base N qual scope f cd A outer s H E) [] (start N vs) H s1:=by
 have hpl:ps.length<=N.length:=by have:=congrArg Ch S.pre;rw[En]at this;lia
 let⟨h1,tk,rfl,hk⟩:=x.done;have noA:∀b:AI,b∉(ya6 CX P w K mg base N qual scope f cd A outer s H E).ex:=λb z=>absurd (show b∈([]:List AI)from z) (by simp);refine⟨⟨e0.mod,S.kind,rfl,rfl,AS _,λy z c h1 h2=>?_,λy hy=>?_,λy c _ h=>?_,λ_=>hd,Around.frames_deeper e0.frames,.inr ⟨rfl,rfl⟩,λb z=>absurd z (noA b),e0.bs,e0.bsz,λb _ _=>noA b,λb z=>absurd z (noA b),e0.funs,e0.frf⟩,
  rfl,e0.bare,Un.kept hk,⟨_,x.toInCall.ns,λi y v h1 h2 h3=>?_⟩,λy c h=>⟨_,x.cell y c h⟩,e0.hok.fresh (AS _),λy c h=>?_,λp hp=>absurd (show p∈([]:List (AI×CO))from hp) (by simp),e0.hok.kept hk,?_⟩
 .exact name_of_addr x.apart (Cb h1) (Cb h2)
 .have hy:scope.names.lookup y=AA .cell \/ scope.names.lookup y=AA .free:=hy;rcases hy with hy|hy
  .exact zgO hy
  .exact absurd rfl (S.nofree _ (Cb hy))
 .exact Fw (x.above y c (Cb h))
 .have hi:i<vs.length:=by
   unfold start at h2
   by_cases hi:i<vs.length
   .exact hi
   .rw[Aw (by simpa using hi)]at h2;rw[Eo]at h2;split at h2<;>cases h2
  have ha:vs[i]?=AA v:=by
   unfold start at h2;rw[Ai (by simpa using hi),Bv]at h2
   cases e:vs[i]? with
   |none=>rw[e]at h2;cases h2
   |some a=>rw[e]at h2;cases h2;rfl
  let⟨u,hu,rv⟩:=r.get ha;have hp:ps[i]?=AA y:=by
   rw[<- S.pre,List.getElem?_take_of_lt (by lia)];exact h1
  have ndP:ps.Nodup:=by rw[<- S.pre];exact S.nd.sublist (List.take_sublist _ _)
  refine⟨u,rv,?_⟩;rcases S.par y (A0 hp)with k|k
  .exact .inl ⟨k,zeZ ndP hp hu k⟩
  .let⟨c,e⟩:=zgO (n:=s.heap.objs.size+1) k;refine .inr ⟨.inl k,c,e,?_⟩;have q:=x.cell y c e;rw[ze1 ndP hp hu (by show scope.names.lookup y≠_;rw[k];decide)]at q;exact q
 .exact e0.hok.fresh (Fw (x.above y c (Cb h)))
 .unfold start;show _=N.length;rw[Ac,Ax,List.length_replicate];lia
theorem zpR{CX:CXT}{P:A8}{w:An}{K:AE}{mg:AR->Option AG}{base:BI}{k:Nat}{f:AI}{name qual:AR}{params:Arguments}{body:List CC}{scope:Bj}{dV kV doc pm cdv ct oc:AG}{an od:Option AI}
  {osl:Array (Option AG)} {N ps:List AR} {sp:Sp} (lk:K.lookup f=AA ⟨oc,od,.func (Bf name qual params body scope dV kV doc pm an cdv ct),osl⟩) (hcd:C0 K cdv qual=AB) (S:ybl N ps scope)
  (len:∀vs H Q E,sp vs H Q E->vs.length=ps.length)
  (hbody:∀(A:Ay) (outer:List Env) (s:AJ) (H:Hp) (vs:List V) (Q:VK) (E:XK),yay k (A.deeper (envOfC qual scope s.heap.objs.size f cdv))->sp vs H Q E ->
   ∃t,PSs (ya6 CX P w K mg base N qual scope f cdv A outer s H E) body t/\t { nx:=λ_ H'=>Q .non H',rt:=Q } (start N vs) H) :
  yaQ P w K mg base CX (k+1) f (Bf name qual params body scope dV kV doc pm an cdv ct) ps sp:=by
 refine⟨len,λA outer s H args us vs Q E hr e0 hb r hsp=>?_⟩;have hl:=len _ _ _ _ hsp;have KX:K.In s.heap:=e0.mod.kin.keeps λb o e=>(e0.bs b o e).1;have lim:s.heap.NoLimit:=e0.mod.nolimit.keeps λb o e=>(e0.bs b o e).1;have hkind:∀y∈ps.zip us,scope.names.lookup y.1=AA .local \/ (scope.names.lookup y.1=AA .cell/\((cellsFrom (s.heap.objs.size+1) scope.names []).lookup y.1).isSome=AB):=λ⟨n,v⟩ hy=>by
  rcases S.par n (FN hy).1 with q|q
  .exact .inl q
  .exact .inr ⟨q,Ez _ _ _ (.inl q)⟩
 refine codeAny_call_function hr.depth (KX _ _ lk) rfl S.co S.gen rfl (PySem.W.codeRec_of KX hcd) (hb _ _ _ _ ?_);refine wpAny_newFunctionEnv_cells S.kind hkind λenv he s1 x=>?_;subst he;refine⟨lim.keeps x.toInCall.keep,codeAny_func ?_⟩;let⟨t,ht,hq⟩:=hbody A outer s H vs Q E (hr.deeper _) hsp;have I:Inv (ya6 CX P w K mg base N qual scope f cdv A outer s H E) [] (start N vs) H s1:=zhJ S hr.hd e0 hl r x;refine C8 (ht [] s1 (start N vs) H _ I hq) (λfl s' hs=>?_) λe s' hs=>hs;have fin:∀{σ':St} {H':Hp} {v:V} {u:AG},Inv (ya6 CX P w K mg base N qual scope f cdv A outer s H E) [] σ' H' s'->RelV v u->Q v H'->CE outer P w H s Q u s' :=
  λ{σ' H' v u} J rv q=>⟨v,H',J.os,J.bare,J.base,J.hok,rv,q⟩
 cases fl with
 |ret u =>
  let⟨v,σ',H',J,rv,q⟩:=hs;exact fin J rv q
 |next =>
  let⟨σ',H',J,q⟩:=hs;exact fin (v:=V.non) (u:=CZ) J rfl q
 |brk =>
  let⟨_,_,_,q⟩:=hs;exact Br q
 |cont =>
  let⟨_,_,_,q⟩:=hs;exact Br q
section
variable {X:Cx}{x:AR}{p pos:C5}{e:AV}{es:List AV}{t:TA}{id T:String}{r:List V->Hp->VK->Prop}
def tCB(r:List V->Hp->VK->Prop)(t:TA):TE:=λσ H Q=>t σ H λvs H1=>r vs H1 Q
theorem zgM(hc:yar X (.builtin id) r)(hg:Gl X x)(hm:X.mg x=AD)(hv:bootBuiltins x=AA (.builtin id))(ha:PA X (e::es) t)(hn:x ≠ "__name__":=by decide)(hdb:(x == ("__debug__":AR))=false:=by decide)
  (he:starEach (e::es) X.env=(AC,eval e X.env)::starEach es X.env:=by rfl) (hpl:(backTo pos (starEach es X.env)).any (·.1)=false:=by rfl):PE X (.Call (.Name x p) (e::es) [] pos) (tCB r t):=by
 intro pins s σ H Q I h;refine Bb (zeb I hg hm hv ?_ hn hdb);exact GV (thn (ha pos pins s σ H _ I h) λus s1 ⟨vs,H1,I1,r1,q1⟩=>hc pins s1 σ H1 vs us Q I1 r1 q1) he hpl
theorem zh8(hc:yar X (.type T) r)(hg:Gl X x)(hm:X.mg x=AD)(hv:bootBuiltins x=AA (.type T))(ha:PA X (e::es) t)(hn:x ≠ "__name__":=by decide)(hdb:(x == ("__debug__":AR))=false:=by decide)
  (he:starEach (e::es) X.env=(AC,eval e X.env)::starEach es X.env:=by rfl) (hpl:(backTo pos (starEach es X.env)).any (·.1)=false:=by rfl):PE X (.Call (.Name x p) (e::es) [] pos) (tCB r t):=by
 intro pins s σ H Q I h;refine Bb (zeb I hg hm hv ?_ hn hdb);exact CQ (thn (ha pos pins s σ H _ I h) λus s1 ⟨vs,H1,I1,r1,q1⟩=>hc pins s1 σ H1 vs us Q I1 r1 q1) he hpl
end
end L2
namespace HT
open PySem PyProof.Rows
section
open PySem.SeqAt
open PySem.AutoSeq1 (wpAny_loadPart')
open PySem.MeetsSeq PySem.MeetsSeq2 PySem.MeetsSeq3
end
section
variable {prog:A8}{w:An}{A:Ay}{E:AG->AJ->Prop}{s:AJ}
theorem cat_tup{t b:AI}{vs ws:List AG}{Q:AG->AJ->Prop}(ht:G6 s.heap t vs.toArray)(hb:G6 s.heap b ws.toArray)(hv:vs≠[])
  (h1:ws=[]->Q (.ref t) s) (h2:ws≠[]->Q (.ref s.heap.objs.size) { s with heap:=s.heap.push { cls:=.type "tuple",data:=.seq (vs++ws).toArray } })
  (hsz:vs.length+ws.length<=sizeLine):AX (model prog w) A (binaryOp .Add (.ref t) (.ref b)) Q E s:=by
 let⟨⟨cls,dd,data,sl⟩,ho,hc,n,hd⟩:=id ht;let⟨⟨cls2,dd2,data2,sl2⟩,ho2,hc2,n2,hd2⟩:=id hb;simp only at hc hd hc2 hd2;subst hc hd hc2 hd2;have e:vs.toArray++ws.toArray=(vs++ws).toArray:=by simp
 by_cases hw:ws=[]
 .exact GE ⟨_,ho,rfl⟩ ⟨_,ho2,rfl⟩ Cc DI Bw Bs (Bn _ _)
   (tuple_addW1 t b vs.toArray ws.toArray n n2 dd dd2 sl sl2 (by simpa using hv) (by simp[hw])) ⟨ho,ho2,h1 hw⟩
 .refine GE ⟨_,ho,rfl⟩ ⟨_,ho2,rfl⟩ Cc DI Bw Bs (Bn _ _)
   (tuple_addW2 t b vs.toArray ws.toArray n n2 dd dd2 sl sl2 (by simpa using hv) (by simpa using hw) (by rw[AU,AU];exact hsz)) ⟨ho,ho2,?_⟩
  rw[e];exact h2 hw
def sIx(n d:Nat):Option Int->Nat
 |none=>d
 |some v=>if v<0 then(v+(n:Int)).toNat else min v.toNat n
theorem sIx_le(n d:Nat)(hd:d<=n)(o:Option Int):sIx n d o<=n:=by
 cases o with
 |none=>exact hd
 |some v =>
  show (if v<0 then(v+(n:Int)).toNat else min v.toNat n)<=n
  by_cases hv:v<0
  .rw[if_pos hv];lia
  .rw[if_neg hv];exact Nat.min_le_right _ _
theorem zih(v:Int)(n d:Nat):(if v<0 then max (v+(n:Int)) 0 else min v (n:Int))=((sIx n d (AA v):Nat):Int):=by
 show (if v<0 then max (v+(n:Int)) 0 else min v (n:Int))=(((if v<0 then(v+(n:Int)).toNat else min v.toNat n):Nat):Int)
 by_cases hv:v<0
 .simp only[if_pos hv];lia
 .simp only[if_neg hv];lia
theorem zgU(lo hi:Option Int)(n:Nat):DE lo hi 1 (n:Int)=(((sIx n 0 lo:Nat):Int),((sIx n n hi:Nat):Int)):=by
 have h1:¬((1:Int)<0):=by lia
 unfold DE;erw[h1,if_false];refine HV ?_ ?_
 .cases lo with
  |none=>rfl
  |some v=>exact zih v n 0
 .cases hi with
  |none=>rfl
  |some v=>exact zih v n n
theorem zg3(i j:Nat):B2 (i:Int) (j:Int) 1=j - i:=by
 unfold B2;have h1:(1:Int) > 0:=by lia
 erw[h1,if_true,DD];split<;>lia
theorem zdV{v:AG}{o:Option Int}{Q:Option Int->AJ->Prop}(p:FA v o)(h:Q o s):AX (model prog w) A (Gb v) Q E s:=by
 cases p with
 |none=>exact EN h
 |int i t=>exact slicePart_int h
theorem sliceApplied_gen{sl:AI}{vl vu:AG}{lo hi:Option Int}{n:Nat}{Q:Int×Int×Nat->AJ->Prop}(hs:s.heap.IsSliceOf sl vl vu .none)(pl:FA vl lo)(pu:FA vu hi)
  (h:Q (((sIx n 0 lo:Nat):Int),1,sIx n n hi - sIx n 0 lo) s):AX (model prog w) A (C1 (.ref sl) (pure (n:Int))) Q E s:=by
 let⟨os,hos,hcs,hds⟩:=id hs;unfold C1 EZ;refine AH (AH (BS hos hds (x:=vl) rfl (AH (BS hos hds (x:=vu) rfl (AH (BS hos hds (x:=.none) rfl (AN ?_)))))));refine AH (EN ?_);show AX _ _ (if ((1:Int) == 0)=AB then _ else _) _ _ s;rw[if_neg (by decide)];refine AH (zdV pl (AH (zdV pu (AH (AN ?_)))));show AX _ _ (match DE lo hi 1 (n:Int)with|(lo,hi)=>pure (lo,(1:Int),B2 lo hi 1)) _ _ s;rw[zgU lo hi n];show AX _ _ (pure (((sIx n 0 lo:Nat):Int),(1:Int),B2 ((sIx n 0 lo:Nat):Int) ((sIx n n hi:Nat):Int) 1)) _ _ s;rw[zg3];exact AN h
theorem zjk(xs:Array AG)(i k:Nat):((Cq k).filterMap λ(m:Nat)=>xs[((i:Int)+(m:Int)*1).toNat]?).toArray=((xs.toList.drop i).take k).toArray:=by
 have e:(λ(m:Nat)=>xs[((i:Int)+(m:Int)*1).toNat]?)=λm=>xs[i+m]?:=by
  funext m
  have:((i:Int)+(m:Int)*1).toNat=i+m:=by lia
  rw[this]
 rw[e];have:=pick_run xs i k;rw[List.filterMap_map]at this;have e2:((λx=>xs[x]?) ∘ λx=>i+x)=λm=>xs[i+m]?:=rfl;rw[e2]at this;rw[this]
theorem getItem_tuple_cut{t sl:AI}{items:Array AG}{vl vu:AG}{lo hi:Option Int}{Q:AG->AJ->Prop}(ht:G6 s.heap t items)(hs:s.heap.IsSliceOf sl vl vu .none)(pl:FA vl lo)(pu:FA vu hi)
  (hw:¬(sIx items.size 0 lo=0/\sIx items.size items.size hi=items.size))
  (h:Q (.ref s.heap.objs.size) { s with heap:=s.heap.push { cls:=.type "tuple",data:=.seq ((items.toList.drop (sIx items.size 0 lo)).take (sIx items.size items.size hi - sIx items.size 0 lo)).toArray } })
  (hsz:items.size<=sizeLine):AX (model prog w) A (getItem (.ref t) (.ref sl)) Q E s:=by
 have htake:sizeOk (.seq ((items.toList.drop (sIx items.size 0 lo)).take (sIx items.size items.size hi - sIx items.size 0 lo)).toArray):=by
  show ((items.toList.drop (sIx items.size 0 lo)).take (sIx items.size items.size hi - sIx items.size 0 lo)).toArray.size<=sizeLine;rw[AU,En,GW,CP];lia
 have hj:sIx items.size items.size hi<=items.size:=sIx_le _ _ (AS _) hi;let⟨os,hos,hcs,hds⟩:=id hs;have hTs:s.TypeIs (.ref sl) "slice":=⟨os,hos,hcs⟩;unfold getItem
 try with_reducible refine DH ?_
 first|refine AH (AN ?_)|skip
 refine AH (E9 ht.typeIs (by decide) ?_);refine AH (Ba (name:=AF "__getitem__") ht.typeIs Ah
  (CV Ah ht.typeIs Dx ?_ (EO _ _)))
 show AX _ _ (Cu (.ref t) >>= _) _ _ s;refine AH (E0 ht ?_);refine AH (FB hTs ?_);rw[if_pos (by decide)];refine AH (sliceApplied_gen hs pl pu ?_);have hno:¬((((sIx items.size 0 lo:Nat):Int) == 0 && (1:Int) == 1 && (sIx items.size items.size hi - sIx items.size 0 lo) == items.size)=AB):=by
  intro q;rw[AK,AK]at q;have q1:((sIx items.size 0 lo:Nat):Int)=0:=eq_of_beq q.1.1;have q2:sIx items.size items.size hi - sIx items.size 0 lo=items.size:=eq_of_beq q.2;exact hw ⟨by lia,by lia⟩
 show AX _ _ (if (((sIx items.size 0 lo:Nat):Int) == 0 && (1:Int) == 1 && (sIx items.size items.size hi - sIx items.size 0 lo) == items.size)=AB then _ else _) _ _ s;rw[if_neg hno,zjk]
 first
  | exact AH (m:=BV _) (BQ (AN ⟨_,rfl,AN h⟩) htake)
  | exact AH (m:=BV _) (BQ (AH (AN (AN ⟨_,rfl,AN h⟩))) htake)
  | exact AH (AH (m:=BV _) (BQ (AN (AN ⟨_,rfl,AN h⟩)) htake))
  | exact AH (AH (m:=BV _) (BQ (AN ⟨_,rfl,AN h⟩) htake))
end
end HT
namespace L2
open PySem PySem.Spec PyProof.Rows
abbrev TO:=St->Hp->(Option Int->Hp->Prop)->Prop
def PO(X:Cx)(e:Option AV)(t:TO):Prop :=
 ∀(pins:List (AI×CO)) (s:AJ) (σ:St) (H:Hp) (Q:Option Int->Hp->Prop),Inv X pins σ H s->t σ H Q ->
  AX (model X.prog X.w) X.A (evalPart e X.env) (λu s'=>∃o H',Inv X pins σ H' s'/\FA u o/\Q o H') X.xe s
def yc4:TO:=λ_ H Q=>Q AD H
theorem zeg{ns:List Int}:∀{us:List AG},Vals (ns.map V.int) us->FD us ns:=by
 induction ns with
 |nil=>intro us r;rw[A5]at r;cases r;exact .nil
 |cons n ns ih =>
  intro us r;rw[AL]at r
  cases r with
  |cons r1 r2 =>
   let⟨t,e⟩:=r1;subst e;exact .cons n t (ih r2)
section
variable {X:Cx}{e:AV}{te:TE}{lo hi:Option AV}{tl th:TO}{pos p2:C5}
theorem zlY:PO X AD yc4:=by
 intro pins s σ H Q I h;rw[Fc];exact AN ⟨AD,H,I,.none,h⟩
def SlR(X:Cx)(r:V->Option Int->Option Int->Hp->VK->Prop):Prop :=
 ∀(pins:List (AI×CO)) (s:AJ) (σ:St) (H:Hp) (x:V) (v vl vu:AG) (lo hi:Option Int) (sl:AI) (Q:VK),Inv X pins σ H s->RelV x v->s.heap.IsSliceOf sl vl vu .none->FA vl lo->FA vu hi->r x lo hi H Q ->
  ∃T id,typeLookup (.type T) "__getitem__"=pure (AA (.builtin id))/\s.TypeIs v T/\AX (model X.prog X.w) X.A (getItem v (.ref sl)) (EP X pins σ Q) X.xe s
def tSl(r:V->Option Int->Option Int->Hp->VK->Prop)(te:TE)(tl th:TO):TE:=λσ H Q=>te σ H λx H1=>tl σ H1 λl H2=>th σ H2 λu H3=>r x l u H3 Q
theorem zjI{r:V->Option Int->Option Int->Hp->VK->Prop}(hr:SlR X r)(he:PE X e te)(hl:PO X lo tl)(hu:PO X hi th):PE X (.Subscript e (.Slice lo hi AD p2) pos) (tSl r te tl th):=by
 intro pins s σ H Q I h;refine Fk (thn (he pins s σ H _ I h) λv s1 kq=>?_);let⟨x,H1,I1,r1,q1⟩:=kq;refine wpAny_Slice (thn (hl pins s1 σ H1 _ I1 q1) λvl s2 kq=>?_);let⟨l,H2,I2,pl,q2⟩:=kq;refine thn (hu pins s2 σ H2 _ I2 q2) λvu s3 kq=>?_;let⟨u,H3,I3,pu,q3⟩:=kq;rw[Fc];refine AN ?_;have I4:Inv X pins σ H3 { s3 with heap:=s3.heap.push { cls:=.type "slice",data:=.fields #[vl,vu,.none] } }:=I3.kept (t':=s3.toks) λb ob q=>AM _ q;let⟨T,id,hT,ht,hg⟩:=hr pins { s3 with heap:=s3.heap.push { cls:=.type "slice",data:=.fields #[vl,vu,.none] } } σ H3 x v vl vu l u s3.heap.objs.size Q I4 r1 (EQ ..) pl pu q3;show AX (model X.prog X.w) X.A (subscriptTail e (.Slice lo hi AD p2) v (.ref s3.heap.objs.size)) (EP X pins σ Q) X.xe { s3 with heap:=s3.heap.push { cls:=.type "slice",data:=.fields #[vl,vu,.none] } };exact Gn (ops:=[.ref s3.heap.objs.size,v]) ht hT hg (by ac_rfl)
def ycD(xs:List V)(lo hi:Option Int):List V:=(xs.drop (HT.sIx xs.length 0 lo)).take (HT.sIx xs.length xs.length hi - HT.sIx xs.length 0 lo)
theorem zdD(xs:List V)(lo hi:Option Int):(ycD xs lo hi).length<=xs.length:=by
 unfold ycD;rw[En,GW];lia
def ygN(K:AE):V->Option Int->Option Int->Hp->VK->Prop:=λx lo hi H Q=>∃a xs,x=.ref a/\SqT K H a xs /\
 ¬(HT.sIx xs.length 0 lo=0/\HT.sIx xs.length xs.length hi=xs.length)/\∀p,H p=AD->Q (.ref p) (upd H p (.tup (ycD xs lo hi)))
theorem znN:SlR X (ygN X.K):=by
 intro pins s σ H x v vl vu lo hi sl Q I rx hs pl pu h;let⟨a,xs,rfl,hx,hw,q⟩:=h
 cases rx
 let⟨its,r,ht,hz⟩:=I.tuple hx;have hlen:its.toArray.size=xs.length:=by rw[AU];exact r.length.symm
 refine⟨"tuple",_,Ah.lookup,ht.typeIs,?_⟩;refine HT.getItem_tuple_cut ht hs pl pu (by rw[hlen];exact hw) ?_ (by rw[hlen];exact hz);rw[hlen];refine⟨.ref s.heap.objs.size,_,I.laid (t':=s.toks) (o:=.tup (ycD xs lo hi)) (λb ob q=>AM _ q) (AS _) ?_,rfl,q _ (I.hok.fresh (AS _))⟩;exact⟨B9 (zdD xs lo hi) hz,_,(r.drop (HT.sIx xs.length 0 lo)).take (HT.sIx xs.length xs.length hi - HT.sIx xs.length 0 lo),Ek _ _⟩
def yea(K:AE):R2:=λx y H Q=>∃a b xs ys,x=.ref a/\y=.ref b/\SqT K H a xs/\SqT K H b ys/\xs≠[]/\xs.length+ys.length<=sizeLine /\
 (ys=[]->Q (.ref a) H)/\(ys≠[]->∀p,H p=AD->Q (.ref p) (upd H p (.tup (xs++ys))))
theorem Vals.nil_iff{xs:List V}{us:List AG}(r:Vals xs us):us=[] ↔ xs=[]:=by
 cases r with
 |nil=>simp
 |cons _ _=>simp
theorem zmS:OpR X (binaryOp .Add) (yea X.K):=by
 intro pins s σ H x y v u Q I rx ry h;let⟨a,b,xs,ys,rfl,rfl,ha,hb,hx,hz,q1,q2⟩:=h
 cases rx
 cases ry
 let⟨its,r1,p1,_⟩:=I.tuple ha;let⟨its2,r2,p2,_⟩:=I.tuple hb;refine HT.cat_tup p1 p2 (λz=>hx (r1.nil_iff.mp z)) (λz=>⟨.ref a,H,I,rfl,q1 (r2.nil_iff.mp z)⟩) (λz=>?_) (by rw[<- r1.length,<- r2.length];exact hz);refine⟨.ref s.heap.objs.size,_,I.laid (t':=s.toks) (o:=.tup (xs++ys)) (λb ob q=>AM _ q) (AS _) ?_,rfl,q2 (λw=>z (r2.nil_iff.mpr w)) _ (I.hok.fresh (AS _))⟩;exact⟨by rw[Ac];exact hz,_,r1.append r2,Ek _ _⟩
end
def ixN(n:Nat)(i:Int):Option Nat:=if 0<=i then(if i<n then AA i.toNat else AD)else if -(n:Int)<=i then AA (i+n).toNat else AD
def atI{α:Type}(xs:List α)(i:Int):Option α:=(ixN xs.length i).bind λj=>xs[j]?
theorem zid{n:Nat}{i:Int}{j:Nat}(h:ixN n i=AA j):seqIndex? i n=AA j/\j<n/\-(n:Int)<=i/\i<n:=by
 unfold ixN at h
 by_cases h0:0<=i
 .rw[if_pos h0]at h
  by_cases h1:i<n
  .rw[if_pos h1]at h;have e:i.toNat=j:=AW h;exact⟨by rw[G7 h0 h1,e],by lia,by lia,h1⟩
  .rw[if_neg h1]at h;cases h
 .rw[if_neg h0]at h
  by_cases h1:-(n:Int)<=i
  .rw[if_pos h1]at h;have e:(i+n).toNat=j:=AW h;exact⟨by rw[seqIndex_neg (by lia) h1,e],by lia,h1,by lia⟩
  .rw[if_neg h1]at h;cases h
theorem zfL{α:Type}{xs:List α}{i:Int}{v:α}(h:atI xs i=AA v):∃j,seqIndex? i xs.length=AA j/\xs[j]?=AA v/\j<xs.length/\-(xs.length:Int)<=i/\i<xs.length:=by
 unfold atI at h
 cases e:ixN xs.length i with
 |none=>rw[e]at h;cases h
 |some j =>
  rw[e]at h;let⟨h1,h2,h3,h4⟩:=zid e;exact⟨j,h1,h,h2,h3,h4⟩
def ybF(b:AV):Prop:=∀o i,subscripted b AC o i=operate [o,i] (getItem o i)
def IxR(X:Cx)(r:R2):Prop :=
 ∀(value slice:AV) (pins:List (AI×CO)) (s:AJ) (σ:St) (H:Hp) (x y:V) (v u:AG) (Q:VK),Inv X pins σ H s->RelV x v->RelV y u->r x y H Q ->
  subscripted slice AC v u=operate [v,u] (getItem v u)->AX (model X.prog X.w) X.A (subscriptTail value slice v u) (EP X pins σ Q) X.xe s
def MtR(X:Cx)(id:String)(r:V->List V->Hp->VK->Prop):Prop :=
 ∀(pins:List (AI×CO)) (s:AJ) (σ:St) (H:Hp) (x:V) (xs:List V) (v:AG) (us:List AG) (Q:VK),Inv X pins σ H s->RelV x v->Vals xs us->r x xs H Q ->
  AX (model X.prog X.w) X.A (call (.builtin id) (v::us)) (EP X pins σ Q) X.xe s
section
variable {X:Cx}{a b:AV}{ta tb:TE}{pos:C5}
theorem IxR.or{r r':R2}(h:IxR X r)(h':IxR X r'):IxR X (λx y H Q=>r x y H Q \/ r' x y H Q):=by
 intro value slice pins s σ H x y v u Q I rx ry q hs;rcases q with q|q
 .exact h value slice pins s σ H x y v u Q I rx ry q hs
 .exact h' value slice pins s σ H x y v u Q I rx ry q hs
theorem zpj{r:R2}(hr:IxR X r)(ha:PE X a ta)(hb:PE X b tb)(hs:ybF b):PE X (.Subscript a b pos) (tOp r ta tb):=by
 intro pins s σ H Q I h;exact Fk (yel ha hb I h λv u s2 x y H2 I2 rx ry q=>hr a b pins s2 σ H2 x y v u Q I2 rx ry q (hs _ _))
def ye2(K:AE):R2:=λx y H Q=>∃p xs i v,x=.ref p/\y=.int i/\SqL K H p xs/\atI xs i=AA v/\Q v H
def yfm(K:AE):R2:=λx y H Q=>∃p xs i v,x=.ref p/\y=.int i/\SqT K H p xs/\atI xs i=AA v/\Q v H
def ye7:R2:=λx y H Q=>∃z i c,x=.str z/\y=.int i/\z.length<=sizeLine/\atI z.cps.toList i=AA c/\Q (.str ⟨#[c]⟩) H
theorem yc6:IxR X (ye2 X.K):=by
 intro value slice pins s σ H x y v u Q I rx ry h hs;let⟨p,xs,i,z,rfl,rfl,hq,he,q⟩:=h
 cases rx
 let⟨t,rfl⟩:=ry;let⟨its,r,pl,hz⟩:=I.list hq;let⟨j,h1,h2,h3,h4,h5⟩:=zfL he;let⟨w,ew,rw'⟩:=r.get h2;have hl:=r.length;have hn:=yaW;have fin:EP X pins σ Q w s:=⟨z,H,I,rw',q⟩
 by_cases h0:0<=i
 .have hj:i.toNat=j:=by
   rw[G7 h0 h5]at h1;exact AW h1
  exact item_listR pl.isList h0 (by lia) (by rw[hj];simpa using ew) fin hs
 .have hj:(i+(its.toArray.size:Int)).toNat=j:=by
   rw[seqIndex_neg (by lia) h4]at h1;rw[AU,<- hl];exact AW h1
  exact FE (x:=w) pl.isList.typeIs Ea.lookup
   (wpAny_getItem_list_neg (Q:=λr s'=>r=w/\EP X pins σ Q r s') pl.isList (by lia) (by rw[AU]<;>lia) (by lia) (by rw[hj];simpa using ew) ⟨rfl,fin⟩) hs
theorem ydk:IxR X (yfm X.K):=by
 intro value slice pins s σ H x y v u Q I rx ry h hs;let⟨p,xs,i,z,rfl,rfl,hq,he,q⟩:=h
 cases rx
 let⟨t,rfl⟩:=ry;let⟨its,r,pl,hz⟩:=I.tuple hq;let⟨j,h1,h2,h3,h4,h5⟩:=zfL he;let⟨w,ew,rw'⟩:=r.get h2;have hl:=r.length;have hn:=yaW;have fin:EP X pins σ Q w s:=⟨z,H,I,rw',q⟩;exact FE (x:=w) pl.typeIs Ah.lookup
  (getItem_tuple (j:=j) (Q:=λr s'=>r=w/\EP X pins σ Q r s') pl (by lia) (by lia) (by rw[AU,<- hl];exact h1) (by simpa using ew) ⟨rfl,fin⟩) hs
theorem znK:IxR X ye7:=by
 intro value slice pins s σ H x y v u Q I rx ry h hs;let⟨z,i,c,rfl,rfl,hz,he,q⟩:=h;let⟨t,rfl⟩:=rx;let⟨t',rfl⟩:=ry;let⟨j,h1,h2,h3,h4,h5⟩:=zfL he;have hl:z.cps.toList.length=z.length:=by simp[Str.length]
 rw[hl]at h1 h4 h5;have hn:=yaW;exact Gn (Go s z t) slot_str_getitem.lookup (getItem_str (c:=c) (by
  have e1:decide (i < -(2^63:Int))=false:=decide_eq_false (by lia);have e2:decide (i ≥ 2^63)=false:=decide_eq_false (by lia);rw[e1,e2,Gy]) (by rw[h1];simpa using h2) ⟨.str ⟨#[c]⟩,H,I.tok _,⟨_,rfl⟩,q⟩) hs
def rIx(K:AE):R2:=λx y H Q=>ye2 K x y H Q \/ yfm K x y H Q \/ ye7 x y H Q
theorem zgq:IxR X (rIx X.K):=yc6.or (ydk.or znK)
theorem zg8(its:List AG)(n j:Nat)(u:AG):FF (·.setIfInBounds j u) { cls:=.type "list",data:=.seq its.toArray n }={ cls:=.type "list",data:=.seq (its.set j u).toArray n }:=by
 simp[FF]
theorem Inv.lst{pins:List (AI×CO)}{σ:St}{H:Hp}{s:AJ}{p:AI}{xs:List V}(I:Inv X pins σ H s)(h:H p=AA (.lst xs)) :
  ∃(its:List AG) (n:Nat),Vals xs its/\s.heap.get? p=AA { cls:=.type "list",data:=.seq its.toArray n }/\xs.length<=sizeLine:=by
 let⟨z,its,n,r,e⟩:=I.hok p _ h;exact⟨its,n,r,e,z⟩
theorem Inv.lstUpd{pins:List (AI×CO)}{σ:St}{H:Hp}{s:AJ}{p:AI}{xs ys:List V}{its its':List AG}{n n':Nat}{f:CO->CO}(I:Inv X pins σ H s)(h:H p=AA (.lst xs))
  (ho:s.heap.get? p=AA { cls:=.type "list",data:=.seq its.toArray n }) (hf:f { cls:=.type "list",data:=.seq its.toArray n }={ cls:=.type "list",data:=.seq its'.toArray n' }) (r:Vals ys its') (hz:ys.length<=sizeLine) (t:Nat) :
  Inv X pins σ (upd H p (.lst ys)) { s with heap:=s.heap.update p f,toks:=t }:=by
 have e:(s.heap.update p f).get? p=AA { cls:=.type "list",data:=.seq its'.toArray n' }:=by
  rw[FR f ho (by rw[hf]<;>rfl),hf]
 refine I.write (x:=p) (e:=p) (by rw[h];trivial) (.inl rfl) (λb u hb q=>(DR _ _ (BM hb)).trans q) ⟨_,e⟩ ?_;exact⟨hz,its',n',r,e⟩
def ydO:V->V->V->Hp->(Hp->Prop)->Prop:=λo i v H Q=>∃p xs k j,o=.ref p/\i=.int k/\H p=AA (.lst xs)/\ixN xs.length k=AA j/\Q (upd H p (.lst (xs.set j v)))
theorem zgl:ye6 X ydO:=by
 intro pins s σ H o i v ov iv u Q I ro ri rv h;let⟨p,xs,k,j,rfl,rfl,hp,hj,q⟩:=h
 cases ro
 let⟨t,rfl⟩:=ri;let⟨its,n,r,ho,hz⟩:=I.lst hp;let⟨h1,h2,h3,h4⟩:=zid hj;have hl:=r.length;have hn:=yaW;have I':Inv X pins σ (upd H p (.lst (xs.set j v))) { s with heap:=s.heap.update p (FF (·.setIfInBounds j u)) } :=
  I.lstUpd hp ho (zg8 its n j u) (r.set rv j) (by rw[Be];exact hz) s.toks
 by_cases h0:0<=k
 .have hk:k.toNat=j:=by
   rw[G7 h0 h4]at h1;exact AW h1
  exact PySem.W.ki_setAt ho h0 (by lia) (by rw[AU,<- hl];exact h4) (by rw[hk];exact⟨_,I',q⟩)
 .have hk:(k+(its.toArray.size:Int)).toNat=j:=by
   rw[seqIndex_neg (by lia) h3]at h1;rw[AU,<- hl];exact AW h1
  exact PySem.W.ki_setBack ho (by lia) (by rw[AU,<- hl];exact h3) (by lia) (by rw[hk];exact⟨_,I',q⟩)
theorem zfC(lo hi:Option Int)(n:Nat):(sliceBounds lo hi AD n).1=((HT.sIx n 0 lo:Nat):Int)/\(sliceBounds lo hi AD n).2.1=((HT.sIx n n hi:Nat):Int)/\(sliceBounds lo hi AD n).2.2=1:=by
 refine⟨?_,?_,rfl⟩
 .cases lo with
  |none=>simp[sliceBounds,HT.sIx]
  |some i =>
   erw[sliceBounds,HT.sIx,GX,show (1:Int) > 0 by decide,if_true]
   by_cases h:i<0
   .simp only[h,if_true]<;>lia
   .simp only[h,if_false]<;>lia
 .cases hi with
  |none=>simp[sliceBounds,HT.sIx]
  |some i =>
   erw[sliceBounds,HT.sIx,GX,show (1:Int) > 0 by decide,if_true]
   by_cases h:i<0
   .simp only[h,if_true]<;>lia
   .simp only[h,if_false]<;>lia
theorem zeG(its:List AG)(lo hi:Option Int):slicePick its.toArray lo hi AD=((its.drop (HT.sIx its.length 0 lo)).take (HT.sIx its.length its.length hi - HT.sIx its.length 0 lo)).toArray:=by
 let⟨h1,h2,h3⟩:=zfC lo hi its.toArray.size;unfold slicePick;rw[h1,h2,h3];erw[sliceRange_one,pick_run,AU]<;>rfl
def yfy(K:AE):V->Option Int->Option Int->Hp->VK->Prop:=λx lo hi H Q=>∃a xs,x=.ref a/\SqL K H a xs/\∀p,H p=AD->Q (.ref p) (upd H p (.lst (ycD xs lo hi)))
theorem zhO:SlR X (yfy X.K):=by
 intro pins s σ H x v vl vu lo hi sl Q I rx hs pl pu h;let⟨a,xs,rfl,hx,q⟩:=h
 cases rx
 let⟨its,r,ht,hz⟩:=I.list hx;have hlen:=r.length;refine⟨"list",_,Ea.lookup,ht.isList.typeIs,?_⟩;refine Ee ht.isList hs pl pu .none (by simp) ?_ (by rw[AU]<;>lia);rw[zeG,<- hlen];refine⟨.ref s.heap.objs.size,_,I.laid (t':=s.toks) (o:=.lst (ycD xs lo hi)) (λb ob q=>AM _ q) (AS _) ?_,rfl,q _ (I.hok.fresh (AS _))⟩;exact⟨B9 (zdD xs lo hi) hz,_,0,(r.drop (HT.sIx xs.length 0 lo)).take (HT.sIx xs.length xs.length hi - HT.sIx xs.length 0 lo),A4 _ rfl⟩
def ya9:V->Bool
 | .non=>AB
 | .bl _=>AB
 | .int _=>AB
 | .str _=>AB
 |_=>AC
def eqV:V->V->Bool
 | .non,.non=>AB
 | .bl a,.bl b=>a == b
 | .bl a,.int b=>(if a then 1 else 0) == b
 | .int a,.bl b=>a == (if b then 1 else 0)
 | .int a,.int b=>a == b
 | .str a,.str b=>a == b
 |_,_=>AC
theorem zn8{A:Ay}{s:AJ}{y x:V}{u v:AG}(ry:RelV y u)(rx:RelV x v)(fy:ya9 y=AB)(fx:ya9 x=AB):Hc A s u v (eqV y x):=by
 cases y with
 |non =>
  cases ry
  cases x with
  |non=>cases rx;exact SeqAt.EqAt.same _
  |bl b=>cases rx;exact SeqAt.EqAt.none_bool b
  |int b=>let⟨t,rfl⟩:=rx;exact SeqAt.EqAt.none_int b t
  |str b=>let⟨t,rfl⟩:=rx;exact SeqAt.EqAt.none_str b t
  |_=>exact absurd (show AC=AB from fx) BF
 |bl a =>
  cases ry
  cases x with
  |non=>cases rx;exact SeqAt.EqAt.bool_none a
  |bl b=>cases rx;exact SeqAt.EqAt.bool_bool a b
  |int b=>let⟨t,rfl⟩:=rx;exact SeqAt.EqAt.bool_int a b t
  |str b=>let⟨t,rfl⟩:=rx;exact SeqAt.EqAt.bool_str a b t
  |_=>exact absurd (show AC=AB from fx) BF
 |int a =>
  let⟨t',rfl⟩:=ry
  cases x with
  |non=>cases rx;exact SeqAt.EqAt.int_none a t'
  |bl b=>cases rx;exact SeqAt.EqAt.int_bool a t' b
  |int b=>let⟨t,rfl⟩:=rx;exact SeqAt.EqAt.int_int a t' b t
  |str b=>let⟨t,rfl⟩:=rx;exact Fh a t' b t
  |_=>exact absurd (show AC=AB from fx) BF
 |str a =>
  let⟨t',rfl⟩:=ry
  cases x with
  |non=>cases rx;exact SeqAt.EqAt.str_none a t'
  |bl b=>cases rx;exact SeqAt.EqAt.str_bool a t' b
  |int b=>let⟨t,rfl⟩:=rx;exact Fi a t' b t
  |str b=>let⟨t,rfl⟩:=rx;exact SeqAt.EqAt.str_str a t' b t
  |_=>exact absurd (show AC=AB from fx) BF
 |_=>exact absurd (show AC=AB from fy) BF
def eqU(x:V)(u:AG):Bool:=match u with
 | .none=>eqV .non x
 | .bool b=>eqV (.bl b) x
 | .int i _=>eqV (.int i) x
 | .str z _=>eqV (.str z) x
 |_=>AC
theorem zkD{x y:V}{u:AG}(r:RelV y u)(f:ya9 y=AB):eqU x u=eqV y x:=by
 cases y with
 |non=>cases r;rfl
 |bl b=>cases r;rfl
 |int i=>let⟨t,rfl⟩:=r;rfl
 |str z=>let⟨t,rfl⟩:=r;rfl
 |_=>exact absurd (show AC=AB from f) BF
theorem zfV{x:V}:∀{xs:List V} {us:List AG},Vals xs us->xs.all ya9=AB->us.any (eqU x)=xs.any λy=>eqV y x
 |_,_,.nil,_=>rfl
 |y::xs,u::us,.cons r t,f=>by
  rw[Bo,AK]at f;rw[Bu,Bu,zkD r f.1,zfV t f.2]
theorem zeD{A:Ay}{s:AJ}{x:V}{v:AG}(rx:RelV x v)(fx:ya9 x=AB):∀{xs:List V} {us:List AG},Vals xs us->xs.all ya9=AB->∀u∈us,Hc A s u v (eqU x u)
 |_,_,.nil,_=>λu hu=>by cases hu
 |y::xs,u::us,.cons r t,f=>λu' hu=>by
  rw[Bo,AK]at f;rcases AQ.mp hu with rfl|hu
  .rw[zkD r f.1];exact zn8 r rx f.1 fx
  .exact zeD rx fx t f.2 u' hu
def inV(x:V)(xs:List V):Bool:=xs.any λy=>eqV y x
def rIn(K:AE)(neg:Bool):R2:=λx y H Q=>∃p xs,y=.ref p/\(SqL K H p xs \/ SqT K H p xs)/\ya9 x=AB/\xs.all ya9=AB/\Q (.bl (if neg then !inV x xs else inV x xs)) H
theorem ze4:OpR X (compareOp .In) (rIn X.K AC):=by
 intro pins s σ H x y v u Q I rx ry h;let⟨p,xs,rfl,hq,fx,fs,q⟩:=h
 cases ry
 rcases hq with hq|hq
 .let⟨its,r,pl,hz⟩:=I.list hq;refine SeqAt.in_listAt (eqU x) pl.isList (λw hw=>zeD rx fx r fs w (by simpa using hw)) ⟨.bl _,H,I,rfl,?_⟩;rw[show its.toArray.any (eqU x)=its.any (eqU x)by simp,zfV r fs];exact q
 .let⟨its,r,pl,hz⟩:=I.tuple hq;refine SeqAt.in_tupleAt (eqU x) pl (λw hw=>zeD rx fx r fs w (by simpa using hw)) ⟨.bl _,H,I,rfl,?_⟩;rw[show its.toArray.any (eqU x)=its.any (eqU x)by simp,zfV r fs];exact q
theorem zfg:yar X (.builtin "len") (λxs H Q=>∃p ys,xs=[.ref p]/\(SqL X.K H p ys \/ SqT X.K H p ys)/\Q (.int ys.length) H):=by
 intro pins s σ H xs us Q I r h;let⟨p,ys,rfl,hq,q⟩:=h;let⟨u,rfl,rx⟩:=vals1 r
 cases rx
 have hn:=yaW;rcases hq with hq|hq
 .let⟨its,r',pl,hz⟩:=I.list hq;have hlen:=r'.length;exact Calls.call_len_list pl.isList (by erw[AU]<;>lia) ⟨.int ys.length,H,I.tok _,⟨s.toks+1,by rw[AU,hlen]⟩,q⟩
 .let⟨its,r',pl,hz⟩:=I.tuple hq;have hlen:=r'.length;exact len_tuple pl (by erw[AU]<;>lia) ⟨.int ys.length,H,I.tok _,⟨s.toks+1,by rw[AU,hlen]⟩,q⟩
theorem zfq:yar X (.builtin "len") (λxs H Q=>∃z,xs=[.str z]/\z.length<=sizeLine/\Q (.int z.length) H):=by
 intro pins s σ H xs us Q I r h;let⟨z,rfl,hz,q⟩:=h;let⟨u,rfl,t,rfl⟩:=vals1 r;have hn:=yaW;exact len_str (by lia) ⟨.int z.length,H,I.tok _,⟨_,rfl⟩,q⟩
theorem zbS:yar X (.type "tuple") (λxs H Q=>∃p ys,xs=[.ref p]/\((SqL X.K H p ys/\∀l,H l=AD->Q (.ref l) (upd H l (.tup ys))) \/ (SqT X.K H p ys/\Q (.ref p) H))):=by
 intro pins s σ H xs us Q I r h;let⟨p,ys,rfl,h⟩:=h;let⟨u,rfl,rx⟩:=vals1 r
 cases rx
 rcases h with⟨hq,q⟩|⟨hq,q⟩
 .let⟨its,r',pl,hz⟩:=I.list hq;have hlen:=r'.length;refine call_tuple_list pl.isList (λh' kp=>?_) (by erw[AU]<;>lia);have I1:Inv X pins σ H { s with heap:=h' }:=I.kept (t':=s.toks) kp;have I2:Inv X pins σ (upd H h'.objs.size (.tup ys)) { s with heap:=h'.push { cls:=.type "tuple",data:=.seq its.toArray } } :=
   I1.laid (t':=s.toks) (λb o e=>AM _ e) (AS _) (show yad X.prog X.w _ _ _ (.tup ys)from ⟨hz,its,r',Ek _ _⟩)
  exact⟨.ref h'.objs.size,_,I2,rfl,q _ (I1.hok.fresh (AS _))⟩
 .let⟨its,r',pl,hz⟩:=I.tuple hq;exact call_tuple_same pl ⟨.ref p,H,I,rfl,q⟩
def tyV(K:AE)(T:String)(x:V)(H:Hp):Prop:=match x with
 | .str _=>T="str"
 | .int _=>T="int"
 | .ref p=>(T="list"/\∃xs,SqL K H p xs) \/ (T="tuple"/\∃o,K.lookup p=AA o/\o.cls=.type "tuple"/\o.dict=AD) \/
   (T="dict"/\((∃kvs,H p=AA (.dK kvs)) \/ ∃kvs,H p=AA (.dT kvs))) \/ (T="set"/\∃S n,H p=AA (.set S n))
 |_=>False
theorem zm2{pins:List (AI×CO)}{σ:St}{H:Hp}{s:AJ}{T:String}{x:V}{v:AG}(I:Inv X pins σ H s)(r:RelV x v)(ty:tyV X.K T x H) :
  s.TypeIs v T/\∀a,v=.ref a->∃ob,s.heap.get? a=AA ob/\ob.dict=none:=by
 cases x with
 |str z =>
  let⟨t,rfl⟩:=r
  cases (show T="str" from ty)
  exact⟨Go s z t,λ_ e=>nomatch e⟩
 |int i =>
  let⟨t,rfl⟩:=r
  cases (show T="int" from ty)
  exact⟨typeIs_int s i t,λ_ e=>nomatch e⟩
 |ref p =>
  cases r
  rcases ty with⟨rfl,xs,hq⟩|⟨rfl,o,hk,hc,hd⟩|⟨rfl,hk⟩|⟨rfl,S,n,hk⟩
  .let⟨its,_,pl,_⟩:=I.list hq;refine⟨pl.isList.typeIs,λa e=>?_⟩
   cases e
   let⟨o,n,e,c,hd,_⟩:=pl;exact⟨o,e,hd⟩
  .refine⟨⟨o,I.kIn p o hk,hc⟩,λa e=>?_⟩
   cases e
   exact⟨o,I.kIn _ o hk,hd⟩
  .have z:∃o,s.heap.get? p=AA o/\o.ExactDict:=by
    rcases hk with⟨kvs,hk⟩|⟨kvs,hk⟩
    .let⟨_,_,_,_,o,_,_,e,ex,_⟩:=I.hok p _ hk;exact⟨o,e,ex⟩
    .let⟨_,_,_,_,o,_,_,e,ex,_⟩:=I.hok p _ hk;exact⟨o,e,ex⟩
   let⟨o,e,ex⟩:=z;refine⟨⟨o,e,ex.1⟩,λa e2=>?_⟩
   cases e2
   exact⟨o,e,ex.2.1⟩
  .let⟨o,_,_,_,e,ex,_⟩:=I.hok p _ hk;refine⟨⟨o,e,ex.1⟩,λa e2=>?_⟩
   cases e2
   exact⟨o,e,ex.2.1⟩
 |_=>exact Br ty
def tBM(K:AE)(T:String)(r:V->List V->Hp->VK->Prop)(to:TE)(t:TA):TE:=λσ H Q=>to σ H λx H1=>tyV K T x H1/\t σ H1 λxs H2=>r x xs H2 Q
variable {o e:AV}{es:List AV}{to:TE}{t:TA}{name:AR}{apos cpos:C5}{T id:String}{r:V->List V->Hp->VK->Prop}
theorem zpp(pa:PlainAttrs T)(slot:Slot T name id)(hty:typeOf (.builtin id)=pure (.type "method_descriptor"))(hm:MtR X id r)(ho:PE X o to)(ha:PA X (e::es) t)
  (hbase:attributeBase o name X.env (eval o X.env)=eval o X.env:=by rfl)
  (hfew:((backTo cpos (starEach (e::es) X.env)).all (λx=>!x.1) && (backToKw cpos (keywordEach [] X.env)).all (λx=>x.1.isSome)
   && decide ((e::es).length+([]:List Ca).length+(if ([]:List Ca).isEmpty then 0 else 1)<30))=true:=by rfl)
  (hline:(apos.endLine == cpos.line)=true:=by rfl) (hs:starEach (e::es) X.env=(AC,eval e X.env)::starEach es X.env:=by rfl) (hplain:(backTo cpos (starEach es X.env)).any (·.1)=false:=by rfl) :
  PE X (.Call (.Attribute o name apos) (e::es) [] cpos) (tBM X.K T r to t):=by
 intro pins s σ H Q I h;refine wpAny_Call_method_late hbase hfew hline rfl (thn (ho pins s σ H _ I h) λv s1 kq=>?_);let⟨x,H1,I1,r1,ty,q1⟩:=kq;let⟨h1,h2⟩:=zm2 I1 r1 ty;refine⟨T,id,pa,slot,hty,h1,h2,?_⟩;have hA:=ha cpos pins s1 σ H1 _ I1 q1;rw[hs]at hA ⊢;refine FG (by show (AC || (backTo cpos (starEach es X.env)).any (·.1))=AC;rw[hplain]<;>rfl) (FY ?_);exact thn hA λus s2 ⟨vs,H2,I2,r2,q2⟩=>hm pins s2 σ H2 x vs v us Q I2 r1 r2 q2
/- xs.append(e),list.index on a module's tuple .. are MtR facts of 06m -/
end
def MtM(X:Cx)(id:String)(r:V->List V->Hp->VK->Prop):Prop :=
 ∀(pins:List (AI×CO)) (s:AJ) (σ:St) (H:Hp) (x:V) (xs:List V) (v:AG) (us:List AG) (Q:VK),Inv X pins σ H s->RelV x v->Vals xs us->r x xs H Q ->
  AX (model X.prog X.w) X.A (call (.builtin id) (v::us)) (EP X pins σ Q) X.xe s
theorem Vals.one:∀{x:V} {us:List AG},Vals [x] us->∃u,us=[u]/\RelV x u
 |_,_,.cons r .nil=>⟨_,rfl,r⟩
theorem Vals.reverse{xs:List V}{us:List AG}(h:Vals xs us):Vals xs.reverse us.reverse:=by
 induction h with
 |nil=>exact .nil
 |cons r t ih=>rw[DS,DS];exact Vals.append ih (.cons r .nil)
section
variable {X:Cx}{pins:List (AI×CO)}{σ:St}{H:Hp}{s:AJ}{l b:AI}{xs ys zs:List V}
theorem Inv.lset{its its':List AG}{n:Nat}{f:Array AG->Array AG}{t':Nat}(I:Inv X pins σ H s)(hH:H l=AA (.lst xs))
  (e:s.heap.get? l=AA { cls:=.type "list",data:=.seq its.toArray n }) (hf:f its.toArray=its'.toArray) (hv:Vals ys its') (hz:ys.length<=sizeLine) :
  Inv X pins σ (upd H l (.lst ys)) { s with heap:=s.heap.update l (FF f),toks:=t' }:=by
 have q:=PySem.IsL.update e f;rw[hf]at q;refine I.write (x:=l) (e:=l) (by rw[hH];exact trivial) (.inl rfl) (λb' u hb hu=>(DR s.heap (FF f) (BM hb)).trans hu) ⟨_,q⟩ ?_;exact⟨hz,its',_,hv,q⟩
theorem Inv.lnew{its:List AG}{t':Nat}(I:Inv X pins σ H s)(hv:Vals ys its)(hz:ys.length<=sizeLine) :
  Inv X pins σ (upd H s.heap.objs.size (.lst ys)) { s with heap:=s.heap.push { cls:=.type "list",data:=.seq its.toArray },toks:=t' } :=
 I.laid (λ_ _ q=>AM _ q) (AS _) ⟨hz,its,0,hv,A4 _ rfl⟩
theorem Inv.fresh(I:Inv X pins σ H s):H s.heap.objs.size=none:=I.hok.fresh (AS _)
theorem Inv.lstM(I:Inv X pins σ H s)(hH:H l=AA (.lst xs)):xs.length<=sizeLine/\∃(its:List AG) (n:Nat),Vals xs its/\xs.length=its.length/\s.heap.get? l=AA { cls:=.type "list",data:=.seq its.toArray n }:=by
 let⟨z,its,n,r,e⟩:=I.hok l _ hH;exact⟨z,its,n,r,r.length,e⟩
end
section
variable {X:Cx}
def yc2:V->List V->Hp->VK->Prop:=λx vs H Q=>∃l xs y,x=.ref l/\vs=[y]/\H l=AA (.lst xs)/\xs.length<sizeLine/\Q .non (upd H l (.lst (xs++[y])))
theorem ze8:MtM X "list.append" yc2:=by
 intro pins s σ H x vs v us Q I rx rv h;let⟨l,xs,y,rfl,rfl,hH,hz,q⟩:=h
 cases rx
 let⟨u,rfl,ru⟩:=rv.one;let⟨z,its,n,r,hl,e⟩:=I.lstM hH;refine Fm FT ⟨_,e,rfl⟩ F.entry_list_append (F.args_list_append_2 _ _) (PySem.list_append l its.toArray n u (by rw[AU];lia)) ⟨e,?_⟩;refine⟨.non,_,I.lset (its':=its++[u]) hH e (by simp) (r.append (.cons ru .nil)) ?_,rfl,q⟩;rw[Ac,D2];lia
def yfX:R2:=λx y H Q=>∃l b xs zs,x=.ref l/\y=.ref b/\H l=AA (.lst xs)/\H b=AA (.lst zs)/\xs.length+zs.length<=sizeLine/\∀p,H p=AD->Q (.ref p) (upd H p (.lst (xs++zs)))
theorem zok:OpR X (binaryOp .Add) yfX:=by
 intro pins s σ H x y v u Q I rx ry h;let⟨l,b,xs,zs,rfl,rfl,hH,hB,hz,q⟩:=h
 cases rx
 cases ry
 let⟨z,its,n,r,hl,e⟩:=I.lstM hH;let⟨z2,its2,n2,r2,hl2,e2⟩:=I.lstM hB;refine PySem.P.add_list e e2 ?_ (by rw[AU,AU];lia);have ea:its.toArray++its2.toArray=(its++its2).toArray:=by simp
 rw[ea];exact⟨.ref _,_,I.lnew (t':=s.toks) (r.append r2) (by rw[Ac];lia),rfl,q _ I.fresh⟩
end
section
variable {prog:A8}{w:An}{A:Ay}{E:AG->AJ->Prop}{s:AJ}
end
section
variable {X:Cx}
end
end L2
namespace Att
open PySem PySem.W PySem.Calls PyProof.Rows
theorem zc7{P:Params}{h:BI}:∀(ns:List Int) (vs:List AG),WellAll P h vs (ns.map Hh)->FD vs ns:=by
 intro ns
 induction ns with
 |nil =>
  intro vs w;rw[A5]at w
  cases w
  exact .nil
 |cons n ns ih =>
  intro vs w;rw[AL]at w
  cases w with
  |cons a b =>
   cases a
   exact .cons _ _ (ih _ b)
theorem zix{l:Eu}{n:Nat}(hn:l.most=AA n){P:Params}{h:BI}{args:List WData}{vals:List AG}
  (hpre:l.row.toRowW.claim.pre args=AB) (hwl:WellAll P h vals args) :
  ∃a vs ns,vals=[Am a]/\args=[WData.list (ns.map Hh)]/\h.get? a=AA { cls:=.type "list",data:=.seq vs.toArray }/\FD vs ns/\ns.length<=n:=by
 have hsh:WShape.hasAll [] args [.list .int]=true:=(pre_splitW hpre).1;have hc:l.pre.holds [] { args:=args }=true:=(pre_splitW hpre).2;let⟨d,r,rfl,h1,h2⟩:=hasAllW_cons hsh;obtain rfl:=hasAllW_nil h2;let⟨xs,rfl,h3⟩:=hasW_list h1;let⟨ns,rfl⟩:=items_int h3;have hlen:ns.length<=n:=by
  unfold OpenLaw.pre at hc;have h4:(WTm.not (.lt (.lit (.int (n:Int))) (.len (.arg 0)))).holds [] { args:=[.list (ns.map .int)] }=true:=by
   have h4:=(holds_andW hc).1;rw[hn]at h4;exact h4
  have h5:=condW_of h4 (w_not (w_lt w_lit (w_len_list (w_arg rfl))));rw[Ax]at h5;refine Nat.le_of_not_lt λq=>?_;have q':(n:Int)<((ns.length:Nat):Int):=by lia
  first
   | (rw[decide_eq_true q']at h5;exact absurd h5 (by decide))
   | (simp at h5;lia)
 cases hwl with
 |cons w1 w2 =>
  cases w2
  cases w1 with
  |list ho hall=>exact⟨_,_,ns,rfl,rfl,ho,zc7 ns _ hall,hlen⟩
theorem zi8(l:Eu)(args:List WData):l.row.toRowW.claim.post args (.bool AB) args=true :=
 postW_of (r:=l.row.toRowW) (X:=(AB == AB))
  (show Hd [] (.bool AB) .bool=AB by first|rfl|decide|simp[Hd,WShape.arms,WShape.armsAll])
  (show (WTm.eq .res (.lit (.bool AB))).value [] { args:=args,res:=AA (.bool AB),after:=args }=AA (.bool (AB == AB))from w_eq_bool (w_res rfl) w_lit) rfl
theorem attach_call{l:Eu}{n:Nat}{q:A8}{loose:List AR}{XP:(AR->Option AG)->BI->Prop}{YP:An->BI->Prop}{d:DefRec}
  (hn:l.most=AA n) (hdf:d.params.defaults=[])
  (call:∀(w:An) (s₀ s₁:AJ) (mg mb:AR->Option AG) (fa:AI) (o:CO) (pm cd doc:AG) (a:AI) (vs:List AG) (ns:List Int),
   Ground q loose [] XP w s₀ mg mb s₁.heap->YP w s₁.heap ->
   s₁.heap.get? fa=AA o->o.data=.func (docDef d.name d.params d.body d.scope pm cd doc)->s₁.heap.CodeRec cd d.name->mg d.name=AA (.ref fa) ->
   s₁.heap.get? a=AA { cls:=.type "list",data:=.seq vs.toArray }->FD vs ns->ns.length<=n->s₁.gens=#[] ->
   codeAny (model l.prog w) callerA (.call (.ref fa) ⟨[.ref a],[]⟩) (λr s'=>r=.ok (.ret (.bool AB))/\OldK s₁.heap s'.heap/\s'.os=s₁.os/\D8 s'.gens) s₁) :
  Gh q loose XP YP l.row.toRowW d [] (λf vs=>Gp f vs):=by
 intro w s₀ s₁ mg mb G Y fa o pm cd doc dV kV ho hd hcd hD hmg hg args vals as hpre hlay hrd hwl hlo;obtain rfl:dV=.none:=Dflts.none hD hdf;obtain rfl:kV=.none:=Dflts.noKw hD;let⟨a,vs,ns,rfl,rfl,hobj,hints,hlen⟩:=zix hn hpre hwl;refine enter_call (Dz (call w s₀ s₁ mg mb fa o pm cd doc a vs ns G Y ho (fd_plain hd) hcd hmg hobj hints hlen hg) λr s' hq=>?_);let⟨rfl,h2,h3,h4⟩:=hq;exact⟨.inl ⟨.bool AB,.bool AB,[],rfl,λ_=>rfl,.bool AB,zi8 l _,λ_=>⟨Hf,λ_ hm=>(nomatch hm)⟩⟩,h2,h3,h4⟩
section
variable {prog:A8}{w:An}{A:Ay}{E:AG->AJ->Prop}{s:AJ}{K:AE}
end
end Att
namespace L2
open PySem PySem.Spec PyProof.Rows
theorem zfm:∀{vs:List AG} {ns:List Int},FD vs ns->Vals (ns.map V.int) vs
 |_,_,.nil=>.nil
 |_,_,.cons n t h=>.cons ⟨t,rfl⟩ (zfm h)
def Only(H:Hp):Prop:=∀b,H b=AD \/ ∃o xs,H b=AA (.frz o (.lst xs))
theorem zkm{P:A8}{w:An}{K:AE}{mg mb:AR->Option AG}{CX:CXT}{k:Nat}{fa a:AI}{fd:BK}{x:AR}{sp:Sp}{s₁:AJ}{vs:List AG}{ns:List Int}
  (KX:K.In s₁.heap) (hns:s₁.heap.Ns mainGlobals mg) (hb:s₁.heap.Ns builtinsNs mb) (hbb:∀x:AR,x ≠ "__name__"->mb x=bootBuiltins x) (hlim:s₁.heap.NoLimit) (hg:s₁.gens=#[])
  (ha:s₁.heap.get? a=AA { cls:=.type "list",data:=.seq vs.toArray }) (hi:FD vs ns) (hl:ns.length<=sizeLine) (hr:yay k callerA)
  (F:∀base:BI,K.In base->base.Ns mainGlobals mg->yaQ P w K mg base CX k fa fd [x] sp) (hbind:∀(s:AJ) (u:AG),F5 s fd ⟨[u],[]⟩ [(x,u)])
  (hsp:∀H:Hp,Only H->SqL K H a (ns.map V.int)->sp [.ref a] H (λv _=>v=.bl AB) λ_ _ _=>False)
  (hCX:∀H e s',CX [] H s₁ (λ_ _ _=>False) e s'->False) :
  codeAny (model P w) callerA (.call (.ref fa) ⟨[.ref a],[]⟩) (λr s'=>r=.ok (.ret (.bool AB))/\OldK s₁.heap s'.heap/\s'.os=s₁.os/\D8 s'.gens) s₁:=by
 have rv:=zfm hi;have lenV:=hi.length;have core:∀H:Hp,Only H->SqL K H a (ns.map V.int)->HOk P w H s₁.heap->(∀b,H b≠AD->b=a)->(H a≠AD->K.lookup a=AD) ->
   codeAny (model P w) callerA (.call (.ref fa) ⟨[.ref a],[]⟩) (λr s'=>r=.ok (.ret (.bool AB))/\OldK s₁.heap s'.heap/\s'.os=s₁.os/\D8 s'.gens) s₁:=by
  intro H hO hS hok hA hK;have base_of:∀{b:AI} {o:CO},s₁.heap.get? b=AA o->H b=AD->(ycx s₁.heap H).get? b=AA o:=λe n=>zkf e n;have noA:∀{b:AI} {o:CO} {es:Array CW} {ep:Nat},s₁.heap.get? b=AA o->o.data=.dict es ep->H b=none:=λ{b o es ep} e d=>by
   cases q:H b with
   |none=>rfl
   |some u =>
    have e':b=a:=hA b (by rw[q];simp);subst e';rw[ha]at e;cases e;have d':Data.seq vs.toArray _=Data.dict es ep:=d
    cases d'
  have nsK:∀{b:AI} {m:AR->Option AG},s₁.heap.Ns b m->(ycx s₁.heap H).Ns b m:=λ{b m} ⟨o,es,ep,e,d,r⟩=>⟨o,es,ep,base_of e (noA e d),d,r⟩;have hKb:K.In (ycx s₁.heap H):=λb o e=>base_of (KX b o e) (by
   cases q:H b with
   |none=>rfl
   |some u =>
    have e':b=a:=hA b (by rw[q];simp);subst e';rw[hK (by rw[q];simp)]at e;cases e)
  have hM:Mod K mg (ycx s₁.heap H):=⟨hKb,nsK hns,⟨mb,nsK hb,hbb⟩,let ⟨mc,h1,h2⟩:=hlim;⟨mc,nsK h1,h2⟩⟩;have e0:yc0 P w K mg (ycx s₁.heap H) callerA [] s₁ H:=⟨rfl,hM,λb o e=>zlA e,HF (ziM _ _),trivial,λb hb=>absurd (show b∈([]:List AI)from hb) (by simp),hok,.of_eq hg⟩;refine Dz ((F _ hKb (nsK hns)).run callerA [] s₁ H ⟨[.ref a],[]⟩ [.ref a] [.ref a] _ _ hr e0 (hbind s₁ (.ref a)) (.cons rfl .nil) (hsp H hO hS)) λr s' h=>?_
  cases r with
  |error e=>exact(hCX H e s' h).elim
  |ok fl =>
   cases fl with
   |next=>exact Br h
   |brk=>exact Br h
   |cont=>exact Br h
   |ret u =>
    let⟨v,H',os,bare,un,hok',r',q⟩:=h;have q':v=.bl true:=q;subst q';obtain rfl:u=EF true:=r';refine⟨rfl,OldK.of_keep λb o e=>?_,os,bare⟩
    cases q:H b with
    |none=>exact un.keep b o e q (by intro z;exact absurd (show b∈([]:List AI)from z) (by simp)) (by simp)
    |some u =>
     rcases hO b with z|⟨ob,xs,z⟩
     .rw[q]at z;cases z
     .have z2:=un.frzs b ob _ z;let⟨e1,_⟩:=hok b _ z;let⟨e2,_⟩:=hok' b _ z2;rw[e]at e1;cases e1;exact e2
 cases hk:K.lookup a with
 |some o =>
  have e:=KX a o hk;rw[ha]at e
  cases e
  refine core (λ_=>AD) (λ_=>.inl rfl) (.inr ⟨_,vs.toArray,_,hk,rfl,rfl,rfl,by rw[AU,lenV];exact hl,by simpa using rv⟩) (λb u z=>by have z':(AD:Option HO)=AA u:=z;cases z') (λb z=>absurd rfl z) λz=>absurd rfl z
 |none =>
  refine core (λb=>if b=a then AA (.frz { cls:=.type "list",data:=.seq vs.toArray } (.lst (ns.map V.int)))else AD) (λb=>?_) (.inl (.inr ⟨{ cls:=.type "list",data:=.seq vs.toArray },if_pos rfl⟩)) (λb u z=>?_) (λb z=>?_) λ_=>hk
  .by_cases hb:b=a
   .exact .inr ⟨_,_,if_pos hb⟩
   .exact .inl (if_neg hb)
  .by_cases hb:b=a
   .have z':=(if_pos hb).symm.trans z
    cases z'
    subst hb;exact⟨ha,by rw[Ax];exact hl,vs,_,rv,ha⟩
   .have z':=(if_neg hb).symm.trans z
    cases z'
  .by_cases hb:b=a
   .exact hb
   .exact absurd (if_neg hb) z
theorem walk_of{l:Eu}{n k:Nat}{q:A8}{loose:List AR}{XP:(AR->Option AG)->BI->Prop}{YP:An->BI->Prop}{d:DefRec}{K:Params->AE}{CX:An->CXT}{sp:An->Sp}{x:AR}
  (hn:l.most=AA n) (hn2:n<=sizeLine) (hdf:d.params.defaults=[]) (hr:yay k callerA)
  (hY:∀(w:An) (h:BI),YP w h->(K w.params).In h)
  (F:∀(w:An) (mg:AR->Option AG) (fa:AI) (h:BI),(K w.params).In h->h.Ns mainGlobals mg->mg d.name=AA (.ref fa) ->
   ∃fd:BK,(∀(s:AJ) (u:AG),F5 s fd ⟨[u],[]⟩ [(x,u)]) /\
    ∀base:BI,(K w.params).In base->base.Ns mainGlobals mg->yaQ l.prog w (K w.params) mg base (CX w) k fa fd [x] (sp w))
  (hsp:∀(w:An) (H:Hp) (a:AI) (ns:List Int),ns.length<=n->Only H->SqL (K w.params) H a (ns.map V.int)->sp w [.ref a] H (λv _=>v=.bl AB) λ_ _ _=>False)
  (hCX:∀(w:An) (H:Hp) (s:AJ) (e:AG) (s':AJ),CX w [] H s (λ_ _ _=>False) e s'->False) :
  Gh q loose XP YP l.row.toRowW d [] (λf vs=>Gp f vs):=by
 refine Att.attach_call hn hdf λw s₀ s₁ mg mb fa o pm cd doc a vs ns G Y ho hd hcd hmg hobj hints hlen hg=>?_;have KX:=hY w _ Y;let⟨fd,hb,hF⟩:=F w mg fa _ KX G.T.g hmg;exact zkm KX G.T.g G.T.b G.T.builtins G.T.nolimit hg hobj hints (B9 hlen hn2) hr hF hb (λH hO hS=>hsp w H a ns hlen hO hS) λH e s'=>hCX w H s₁ e s'
def inClass(s:CC)(j:Nat):Stmt:=match s with
 | .ClassDef _ _ _ body _ _ _ _ _ _ _=>body.getD j (.Pass ⟨0,0,0,0⟩)
 |_=>.Pass ⟨0,0,0,0⟩
def yai(s:CC):Arguments:=match s with
 | .FunctionDef _ a _ _ _ _ _ _ _ _=>a
 |_=>{ posonlyargs:=[],args:=[],vararg:=AD,kwonlyargs:=[],kw_defaults:=[],kwarg:=AD,defaults:=[] }
def yag(s:CC):List Stmt:=match s with
 | .FunctionDef _ _ b _ _ _ _ _ _ _=>b
 |_=>[]
def yI(s:CC):Scope:=match s with
 | .FunctionDef _ _ _ _ _ _ sc _ _ _=>sc
 |_=>{ kind:=.function,names:=[],isGenerator:=AC,isCoroutine:=AC }
structure Fun(K:AE)(x qual:AR)(st:CC)(f:AI)(fd:BK):Prop where
 ex:∃(oc:AG) (od:Option AI) (kV doc pm:AG) (an:Option AI) (cdv ct:AG) (osl:Array (Option AG)),
  fd=Bf x qual (yai st) (yag st) (yI st) .none kV doc pm an cdv ct/\K.lookup f=AA ⟨oc,od,.func fd,osl⟩/\C0 K cdv qual=AB
 kp:Az K (.ref f)=AB
section
variable {P:A8}{w:An}{K:AE}{mg:AR->Option AG}{base:BI}
theorem Fun.binds{x qual:AR}{st:CC}{f:AI}{fd:BK}{ps:List AR}(F:Fun K x qual st f fd)
  (h:∀(kV doc pm:AG) (an:Option AI) (cdv ct:AG) (us:List AG),us.length=ps.length->bindArgs (Bf x qual (yai st) (yag st) (yI st) .none kV doc pm an cdv ct) ⟨us,[]⟩=pure (ps.zip us)):Binds K fd ps []:=by
 let⟨oc,od,kV,doc,pm,an,cdv,ct,osl,rfl,lk,hcd⟩:=F.ex;exact .all (h kV doc pm an cdv ct)
end
theorem zlx{A:Ay}{k:Nat}(hr:yay k A):A.units+1<cLine:=Nat.lt_of_le_of_lt (Nat.add_le_add_left (by decide:1<=64) _) hr.units
section
variable {X:Cx}
end
end L2
namespace WE
open PySem PySem.Spec PyProof.Rows
open AutoSeq1 (wpAny_loadPart')
section
variable {pg:A8}{wd:An}{A:Ay}{Er:AG->AJ->Prop}{s:AJ}
theorem zcv{it t:AI}{i:Nat}{xs:Array AG}{x:AG}{Q:AG->AJ->Prop}(hi:s.heap.IsTupleIter it t i)(ht:s.heap.IsTuple t xs)(hx:xs[i]?=AA x)
  (k:∀h',h'.IsTupleIter it t (i+1)->Ci it s.heap h'->Q x { s with heap:=h' }):AX (model pg wd) A (B3 (.ref it)) Q Er s:=by
 let⟨oi,gi,ci,di⟩:=id hi;let⟨ot,gt,_,nt,dt⟩:=ht;unfold B3;refine AH (Ba (name:=AF "__next__") hi.typeIs C2 (CV C2 hi.typeIs EA ?_ (Dr _)));show AX _ _ (field (.ref it) 0 >>= _) _ _ _;refine AH (BS gi di (x:=.ref t) rfl ?_);show AX _ _ (if (Am t == CZ)=AB then _ else _) _ _ _;rw[if_neg (show ¬((Am t == CZ)=AB)from λz=>BF z)];show AX _ _ (field (.ref it) 1 >>= _) _ _ _;refine AH (BS gi di (x:=.int i 0) rfl ?_);show AX _ _ (seqItems? (.ref t) >>= _) _ _ _;refine AH (Cd gt dt ?_);erw[CK,hx];refine AH (FZ gi di (by simp) (AN ⟨x,rfl,AN (k _ ?_ (F8 ..))⟩));refine⟨_,FR _ gi (Obj.isFreed_of_fields (Fp di _)),(Obj.cls_mapFields ..).trans ci,?_⟩;rw[Fp di];simp[rawInt]
theorem zfD{it t:AI}{i:Nat}{xs:Array AG}{Q:AG->AJ->Prop}(hh:A.handled=AD)(hi:s.heap.IsTupleIter it t i)(ht:s.heap.IsTuple t xs)(hx:xs[i]?=AD)
  (k:∀h' e,Heap.ExtBut it s.heap h'->(∃o,h'.get? e=AA o/\o.cls=.type "StopIteration")->Er (.ref e) { s with heap:=h' }):AX (model pg wd) A (B3 (.ref it)) Q Er s:=by
 let⟨oi,gi,ci,di⟩:=id hi;let⟨ot,gt,_,nt,dt⟩:=ht;unfold B3;refine AH (Ba (name:=AF "__next__") hi.typeIs C2 (CV C2 hi.typeIs EA ?_ (Dr _)));show AX _ _ (field (.ref it) 0 >>= _) _ _ _;refine AH (BS gi di (x:=.ref t) rfl ?_);show AX _ _ (if (Am t == CZ)=AB then _ else _) _ _ _;rw[if_neg (show ¬((Am t == CZ)=AB)from λz=>BF z)];show AX _ _ (field (.ref it) 1 >>= _) _ _ _;refine AH (BS gi di (x:=.int i 0) rfl ?_);show AX _ _ (seqItems? (.ref t) >>= _) _ _ _;refine AH (Cd gt dt ?_);erw[CK,hx];refine AH (Ex (AH (FZ gi di (by simp) ?_)));show AX _ _ (newExc (.type "StopIteration") [] >>= _) _ _ _;refine AH ?_;erw[newExc,newTuple];refine AH (BQ ?_ (by size_fits));refine AH (m:=firstArgMember _ _) (wpAny_of_eq (a:=CZ) (by first|rfl|(erw[firstArgMember];rfl)) ?_);refine BQ ?_ (by size_fits);erw[raiseNew];refine AH (wpAny_handled ?_);first|rw[show A.in1.handled=AD from hh]|rw[hh]
 refine AH (AN (wpAny_throw ?_));exact k _ _ (((F8 ..).extBut.push _).push _) ⟨_,A4 _ rfl,rfl⟩
end
theorem draws_tuple{pg:A8}{wd:An}{A:Ay}(hh:A.handled=AD)(it t:AI)(hne:t≠it)(xs:Array AG) :
  Draws pg wd A it [it,t] xs.size (λi v=>xs[i]?=AA v) (λi h=>h.IsTupleIter it t i/\h.IsTuple t xs) where
 live:=λ_ _ st=>let ⟨o,g,_⟩:=st.1;⟨o,g⟩
 frame:=λ_ _ _ st kp=>⟨let ⟨o,g,r⟩:=st.1;⟨o,kp it (by simp) o g,r⟩,let ⟨o,g,r⟩:=st.2;⟨o,kp t (by simp) o g,r⟩⟩
 item:=λi s Q E hi st hQ=>zcv st.1 st.2 (x:=xs[i]) (by simp[hi]) λh' hit' hs'=>hQ _ h' s.toks (by simp[hi]) ⟨hit',st.2.extBut hs'.extBut hne⟩ hs'
 done:=λs Q E st hE=>zfD hh st.1 st.2 (by simp) hE
theorem zfW(l:AI)(xs:Array AG)(n:Nat)(dc:Option AI)(sl:Array (Option AG)) :
  Meets (HG.«enumerate.__new__» ⟨[.type "enumerate",.ref l],[]⟩) (λ_ R s=>s.heap.get? l=AA { cls:=.type "tuple",dict:=dc,data:=.seq xs n,slots:=sl } /\
   R (.ok (.ret (.ref (s.heap.push { cls:=.type "tuple_iterator",data:=.fields #[.ref l,.int 0 0] }).objs.size)))
    { s with heap:=(s.heap.push { cls:=.type "tuple_iterator",data:=.fields #[.ref l,.int 0 0] }).push { cls:=.type "enumerate",data:=.fields #[.none,.bool AC,.ref s.heap.objs.size,rawInt 0,.none,.none] } }) :=
 .of_wp λprog w A R s h=>by
  let⟨hp,g,d,tk,os⟩:=s;let⟨gl,h⟩:=h;have hsub:=sub_enumerate;have hT:GF (G8 ⟨hp,g,d,tk,os⟩) l xs:=⟨_,gl,rfl,n,rfl⟩
  wp_walk using wpAny_loadPart' gl
  refine wpAny_stack_any λst=>AN ?_;split
  .rename_i c _ _ _ _ _
   cases (c == Ew "enumerate")
   .wp_walk using wpAny_loadPart' gl,C3 hT
    exact⟨_,rfl,h⟩
   .wp_walk using wpAny_loadPart' gl,C3 hT
    exact⟨_,rfl,h⟩
  .wp_walk using wpAny_loadPart' gl,C3 hT
   exact⟨_,rfl,h⟩
theorem call_enumT{pg:A8}{wd:An}{A:Ay}{Er:AG->AJ->Prop}{s:AJ}{l:AI}{xs:Array AG}{Q:AG->AJ->Prop}(hT:s.heap.IsTuple l xs)
  (k:∀h',IsEnum h' (s.heap.objs.size+1) s.heap.objs.size 0 .none->h'.IsTupleIter s.heap.objs.size l 0->h'.objs.size=s.heap.objs.size+2 ->
   (∀b o,s.heap.get? b=AA o->h'.get? b=AA o)->Q (.ref (s.heap.objs.size+1)) { s with heap:=h' }):AX (model pg wd) A (call (.type "enumerate") [.ref l]) Q Er s:=by
 let⟨⟨c,dct,dt,sl⟩,gl,hc,n,hd⟩:=hT
 cases (show c=.type "tuple" from hc)
 cases (show dt=.seq xs n from hd)
 refine callType_new F.called_enumerate (by decide) (F.typeCall_enumerate_1 _) (F.newCall_enumerate_1 _) (λobj=>F.args_object_init_2 obj _) F.entry_enumerate_new (zfW l xs n dct sl) ⟨gl,?_⟩;have hz:(s.heap.push { cls:=.type "tuple_iterator",data:=.fields #[.ref l,.int 0 0] }).objs.size=s.heap.objs.size+1:=CH ..;show _/\_;rw[hz];have he:IsEnum ((s.heap.push { cls:=.type "tuple_iterator",data:=.fields #[.ref l,.int 0 0] }).push { cls:=.type "enumerate",data:=.fields #[.none,.bool AC,.ref s.heap.objs.size,rawInt 0,.none,.none] }) (s.heap.objs.size+1) s.heap.objs.size 0 .none:=by
  have q:=A4 (s.heap.push { cls:=.type "tuple_iterator",data:=.fields #[.ref l,.int 0 0] }) (o:={ cls:=.type "enumerate",data:=.fields #[.none,.bool AC,.ref s.heap.objs.size,rawInt 0,.none,.none] }) rfl;rw[hz]at q;exact q
 exact⟨⟨_,he,rfl⟩,k _ he ⟨_,AM _ (A4 _ rfl),rfl,rfl⟩ (by rw[CH,hz]) λb o y=>AM _ (AM _ y)⟩
end WE
namespace L2
open PySem PySem.Spec PyProof.Rows
section
variable {X:Cx}
def ydF(i j:Int):Prop:=0<j/\j<10000000000000000000000000000000000000000000000000000000000000000000000
theorem zjT:OpR X (binaryOp .FloorDiv) (rI ydF λi j=>.int (i / j)):=opI λi j _ _ _ _ _ hc q=>by
 let⟨h1,h2⟩:=hc;refine floordiv_int (by lia) (by rw[EK i (by lia)];exact q) (.inl (PyProof.noPylong_of_log2 ?_));have h0:j.natAbs≠0:=by lia
 refine A6 ((Nat.log2_lt h0).mpr (?_:j.natAbs<2^250)) (by decide);have e:(10000000000000000000000000000000000000000000000000000000000000000000000:Nat)<2^250:=by decide
 lia
end
section
variable {X:Cx}{pins:List (AI×CO)}{σ:St}{H:Hp}{s:AJ}{h':BI}
theorem Inv.turnLaid{t':Nat}{ch:List AI}{T:AI}{o:HO}(I:Inv X pins σ H s)(hf:∀b∈ch,ybA X pins H b)(k:∀b u,b∉ch->s.heap.get? b=AA u->h'.get? b=AA u)
  (hp:s.heap.objs.size<=T) (new:yad X.prog X.w (upd H T o) h' T o):Inv X pins σ (upd H T o) { s with heap:=h',toks:=t' }:=by
 have hn:H T=none:=I.hok.fresh hp;have nch:∀b u,H b=AA u->b∉ch:=λb u e z=>by
  have q:=(hf b z).1;rw[e]at q
  cases q
 refine I.step (g':=s.gens) (d':=s.drawn) (ch:=ch) (λb hb=>?_) (λb u _ _ hc e _=>k b u hc e) (λb u _ _ hc e _=>⟨u.slots,k b u hc e⟩) (λb u _ e n=>?_) (λb u hc e=>⟨u,k b u hc e⟩) (λb xs e=>?_) (λb u v e=>?_) (λb ps e=>⟨#[],?_⟩) (λm hm=>?_) (λb u e=>?_) I.bare
 .let⟨f0,f1,f2,f3,f4,f5⟩:=hf b hb;exact⟨f3,f1,f4,f5⟩
 .rw[zk (Av (A6 (AY e) hp))];exact n
 .rw[zk (zn e hn)];exact e
 .rw[zk (zn e hn)];exact e
 .rw[zk (zn e hn),e];simp
 .let⟨ob,es,ep,ho,r⟩:=hm;exact⟨ob,es,ep,k _ ob (λz=>(hf _ z).2.1 rfl) ho,r⟩
 .by_cases hb:b=T
  .subst hb;rw[zu]at e
   cases e
   exact new
  .rw[zk hb]at e;refine(I.hok b u e).stay (λc v hc q=>k c v ?_ q) (λc q=>by rw[zk (zn q hn)];exact q) λc xs q=>by rw[zk (zn q hn)];exact q
   rcases hc with z|z
   .rw[z];exact nch b u e
   .exact nch c _ z
theorem Inv.turnedL{t':Nat}{ch:List AI}(I:Inv X pins σ H s)(hf:∀b∈ch,ybA X pins H b)(k:∀b u,b∉ch->s.heap.get? b=AA u->h'.get? b=AA u):Inv X pins σ H { s with heap:=h',toks:=t' }:=by
 have nch:∀b u,H b=AA u->b∉ch:=λb u e z=>by
  have q:=(hf b z).1;rw[e]at q
  cases q
 refine I.step (g':=s.gens) (d':=s.drawn) (ch:=ch) (λb hb=>?_) (λb u _ _ hc e _=>k b u hc e) (λb u _ _ hc e _=>⟨u.slots,k b u hc e⟩) (λ_ _ _ _ n=>n) (λb u hc e=>⟨u,k b u hc e⟩) (λ_ _ e=>e) (λ_ _ _ e=>e) (λb ps e=>⟨#[],by rw[e];simp⟩) (λm hm=>?_) (λb u e=>?_) I.bare
 .let⟨f0,f1,f2,f3,f4,f5⟩:=hf b hb;exact⟨f3,f1,f4,f5⟩
 .let⟨ob,es,ep,ho,r⟩:=hm;exact⟨ob,es,ep,k _ ob (λz=>(hf _ z).2.1 rfl) ho,r⟩
 .refine(I.hok b u e).stay (λc v hc q=>k c v ?_ q) (λ_ q=>q) λ_ _ q=>q;rcases hc with z|z
  .rw[z];exact nch b u e
  .exact nch c _ z
end
def Ite(K:AE)(a:AI):It :=
 ⟨λi H=>∃xs x,SqT K H a xs/\xs[i]?=AA x,λi H x H'=>∃T,H T=AD/\x=.ref T/\∀xs y,SqT K H a xs->xs[i]?=AA y->H'=upd H T (.tup [.int i,y]),λi H=>∃xs,SqT K H a xs/\xs.length=i⟩
theorem zdZ{h:BI}{a b:AI}{o u:CO}(x:h.get? a=AA o)(y:h.get? b=AA u)(z:o.cls≠u.cls):a≠b:=λe=>by
 subst e;rw[x]at y
 cases y
 exact z rfl
theorem zgV{P:A8}{w:An}{K:AE}{es:List AV}{kk:Nat}{pos:C5}(a e it:AI) :
  Turn P w K (.Tuple es kk pos) (Ite K a) [e,it] e (λi h=>(∃old,IsEnum h e it i old)/\h.IsTupleIter it a i) where
 mem:=by simp
 obj:=λi h st b hb=>by
  let⟨⟨old,he⟩,oi,gi,ci,di⟩:=st;rcases AQ.mp hb with z|z
  .subst z;exact⟨_,he,λv y=>nomatch y⟩
  .have z:b=it:=by simpa using z
   subst z;exact⟨oi,gi,λv y=>by rw[di]at y;cases y⟩
 keep:=λi h h' st k=>by
  let⟨⟨old,he⟩,oi,gi,r⟩:=st;exact⟨⟨old,k e (by simp) _ he⟩,oi,k it (by simp) _ gi,r⟩
 item:=by
  intro X hP hw hK hc i pins s σ H E I hf st hg;subst hP hw hK;let⟨xs,x,hq,hx⟩:=hg;let⟨its,rv,p,hz⟩:=I.tuple hq;let⟨⟨old,he⟩,hi⟩:=st;let⟨oi,gi,ci,di⟩:=id hi;let⟨oa,ga,ca,na,da⟩:=id p;have nai:a≠it:=zdZ ga gi (by rw[ca,ci];exact λz=>absurd (Cv z) (by decide));have nei:e≠it:=zdZ he gi (by rw[ci];exact λz=>absurd (Cv z) (by decide));have nea:e≠a:=zdZ he ga (by rw[ca];exact λz=>absurd (Cv z) (by decide));have hl:=rv.length;have hil:i<its.toArray.size:=by
   have:=(BP.mp hx).1;simpa using (by lia:i<its.length)
  have W:=GG (prog:=X.prog) (w:=X.w) (A:=X.A) (WE.draws_tuple (pg:=X.prog) (wd:=X.w) (A:=X.A.in1) (I.ok.hd hc) it a nai its.toArray) e nei (by simp[nei,nea]) (by simp);refine W.item i s _ E hil ⟨⟨old,he⟩,hi,p⟩ λT vals h1 tk hP hsz hT mid kp=>⟨.ref T,rfl,?_⟩;refine W.go es kk pos i T _ _ E mid λh2 st2 kp2=>?_;let⟨t,y,hy,rfl⟩:=hP;let⟨u,hu,ru⟩:=rv.get hx;have ey:y=u:=AW (hy.symm.trans (by simpa using hu));subst ey;have hch:∀b o,b∉[e,it]->s.heap.get? b=AA o->h2.get? b=AA o:=λb o hb q=>kp2 b o hb (kp b o hb q);have hTw:=W.apart i T h1 mid;have new:yad X.prog X.w (upd H T (.tup [.int i,x])) h2 T (.tup [.int i,x]):=by
   let⟨o,g,r⟩:=hT;exact⟨by show 2<=sizeLine;decide,[.int i t,y],.cons ⟨t,rfl⟩ (.cons ru .nil),o,kp2 T o hTw g,r⟩
  have I2:=I.turnLaid (t':=tk) hf hch hsz new;refine⟨.ref T,_,I2,rfl,⟨T,I.hok.fresh hsz,rfl,λys z hy' hz'=>?_⟩,⟨st2.1,st2.2.1⟩,λb hb=>?_⟩
  .rw[I.tuple_inj hy' hq]at hz';rw[hx]at hz'
   cases hz'
   rfl
  .rw[zk (λz:b=T=>hTw (z ▸ hb))];exact(hf b hb).1
 done:=by
  intro X hP hw hK hc i pins s σ H E I hf st hg;subst hP hw hK;let⟨xs,hq,hx⟩:=hg;let⟨its,rv,p,hz⟩:=I.tuple hq;let⟨⟨old,he⟩,hi⟩:=st;let⟨oi,gi,ci,di⟩:=id hi;let⟨oa,ga,ca,na,da⟩:=id p;have nai:a≠it:=zdZ ga gi (by rw[ca,ci];exact λz=>absurd (Cv z) (by decide));have nei:e≠it:=zdZ he gi (by rw[ci];exact λz=>absurd (Cv z) (by decide));have nea:e≠a:=zdZ he ga (by rw[ca];exact λz=>absurd (Cv z) (by decide));have hl:=rv.length;have W:=GG (prog:=X.prog) (w:=X.w) (A:=X.A) (WE.draws_tuple (pg:=X.prog) (wd:=X.w) (A:=X.A.in1) (I.ok.hd hc) it a nai its.toArray) e nei (by simp[nei,nea]) (by simp);have en:its.toArray.size=i:=by simp;lia
  refine W.done s _ E (by rw[en];exact⟨⟨old,he⟩,hi,p⟩) λh2 tk kp=>⟨rfl,I.turnedL (t':=tk) hf kp⟩
 self:=λ_ _ _ _ _ st q=>by
  let⟨⟨old,he⟩,_⟩:=st;exact GH he q
def yf8(K:AE)(ta:TA):TI:=λσ H R=>ta σ H λvs H1=>∃a,vs=[.ref a]/\(∃xs,SqT K H1 a xs)/\R (Ite K a) H1
theorem zjR{X:Cx}{a:AV}{es:List AV}{kk:Nat}{tp:C5}{ta:TA}{p pos:C5}(hg:Gl X "enumerate")(hm:X.mg "enumerate"=AD)(ha:PA X [a] ta)(hs:starEach [a] X.env=[(AC,eval a X.env)]:=by rfl) :
  PI X (.Tuple es kk tp) (.Call (.Name "enumerate" p) [a] [] pos) (yf8 X.K ta):=by
 intro pins s σ H R I h;refine Bb (zeb I hg hm boot_enumerate ?_);refine CQ (thn (ha pos pins s σ H _ I h) λus s1 kq=>?_) hs rfl;let⟨vs,H1,I1,r1,q1⟩:=kq;let⟨l,rfl,⟨xs,hq⟩,q⟩:=q1;let⟨u,rfl,ru⟩:=Vals.one r1
 cases (show u=Am l from ru)
 let⟨its,rv,pt,hz⟩:=I1.tuple hq;refine WE.call_enumT (show s1.heap.IsTuple l its.toArray from pt) λh1 he hi hsz kp=>?_;refine GH he ?_;refine⟨_,[s1.heap.objs.size+1,s1.heap.objs.size],_,_,H1,rfl,I1.kept (t':=s1.toks) kp,zgV l _ s1.heap.objs.size,⟨⟨_,he⟩,hi⟩,λb hb=>?_,q⟩;have hb2:s1.heap.objs.size<=b:=by
  rcases AQ.mp hb with z|z
  .subst z;exact Ct _
  .have z:b=s1.heap.objs.size:=by simpa using z
   subst z;exact AS _
 exact I1.fpOk hb2 (I1.hok.fresh hb2)
abbrev No:AG->AJ->Prop:=λ_ _=>False
abbrev ydl(ifs:List AV)(env:Env):Gw Bool:=forIn ifs AB λc r=>if r=AB then do let ok <- isTrue c env (eval c env);pure (Gc ok)else pure (Gc r)
section
variable {pg:A8}{wd:An}{A:Ay}{R:Gk->AJ->Prop}{s:AJ}
theorem zhZ{elt tg iter:AV}{ifs:List AV}{sc:Bj}{pos:C5}{it acc:AG}{env:Env}(I:Nat->AJ->Prop)
  (turn:∀n s,I n s->AX (model pg wd) A (pyNext it) (λr s1=>match r with
   |none=>R (.ok .next) s1
   |some v=>AX (model pg wd) A (letOwnedTupleGo tg it v) (λ_ s2=>AX (model pg wd) A (assign tg env v) (λ_ s3=>AX (model pg wd) A (ydl ifs env) (λok s4 =>
     if ok=AB then AX (model pg wd) A (eval elt env) (λx s5=>AX (model pg wd) A (call (.builtin "list.append") [acc,x]) (λ_ s6=>∃m,m<n/\I m s6) No s5) No s4
     else ∃m,m<n/\I m s4) No s3) No s2) No s1) No s)
  (n:Nat) (h:I n s):codeAny (model pg wd) A (.compLoop (.ListComp elt [⟨tg,iter,ifs,0⟩] sc pos) 0 it acc env) R s:=by
 refine codeAny_loop rfl I (λn s hI=>?_) n h;show AX _ A ((compTurn (.ListComp elt [⟨tg,iter,ifs,0⟩] sc pos) 0 it acc env).onRaise (λx=>do noteFrame x env;theTreesLotGoes x)) _ _ s;refine wpAny_noted ?_;rw[compTurn_list];refine AH (D9 (AH (C8 (turn n s hI) (λr s1 h1=>?_) λ_ _ f=>f.elim)))
 cases r with
 |none=>exact AN h1
 |some v =>
  refine AH (C8 h1 (λ_ s2 h2=>AH (C8 h2 (λ_ s3 h3=>AH (C8 h3 (λok s4 h4=>?_) λ_ _ f=>f.elim)) λ_ _ f=>f.elim)) λ_ _ f=>f.elim)
  cases ok with
  |false=>exact AN ⟨rfl,h4⟩
  |true=>exact AH (AH (C8 h4 (λx s5 h5=>AH (C8 h5 (λ_ s6 h6=>AN (AN ⟨rfl,h6⟩)) λ_ _ f=>f.elim)) λ_ _ f=>f.elim))
end
def yaq(env:Env)(r:List (AR×AI))(x:AR×DQ):List (AR×AI):=if x.2=.free then(x.1,(env.cells.lookup x.1).getD 0)::r else r
def ydG(sc:Bj)(env:Env):List (AR×AI):=sc.names.foldl (yaq env) []
theorem zhe{α β:Type}{l:List α}{f:α->β->Gw (ForInStep β)}{g:β->α->β}(h:∀x∈l,∀c,f x c=pure (.yield (g c x))):∀c:β,forIn l c f=pure (l.foldl g c):=by
 induction l with
 |nil=>exact λ_=>rfl
 |cons x l ih =>
  intro c;rw[FO,h x Aj,pure_bind,Ds];exact ih (λy hy=>h y (AT _ hy)) (g c x)
theorem za4{sc:Bj}{env:Env}(hf:∀y∈sc.names,y.2=.free->∃c,env.cells.lookup y.1=AA c):closureFor sc env=pure (ydG sc env):=by
 erw[closureFor];rw[zhe (g:=yaq env) (λx hx c=>?_)]
 .rfl
 .let⟨n,k⟩:=x
  by_cases hk:k=.free
  .subst hk;let⟨a,ha⟩:=hf _ hx rfl;have ha':env.cells.lookup n=AA a:=ha;simp[yaq,cellOf,ha']
  .have hb:(k == Cn)=false:=by simpa using hk
   simp[yaq,hk,hb]
theorem zef{env:Env}:∀(l:List (AR×DQ)) (r:List (AR×AI)),(∀y∈l,y.2=.free->∃c,env.cells.lookup y.1=AA c)->(∀x c,r.lookup x=AA c->env.cells.lookup x=AA c) ->
  ∀x c,(l.foldl (yaq env) r).lookup x=AA c->env.cells.lookup x=AA c
 | [],r,_,h=>h
 |y::l,r,hf,h=>by
  refine zef l (yaq env r y) (λz hz=>hf z (AT _ hz)) λx c e=>?_;unfold yaq at e
  by_cases hk:y.2=.free
  .let⟨a,ha⟩:=hf y Aj hk;rw[if_pos hk,Bt]at e
   cases hx:x == y.1 with
   |true =>
    rw[hx,ha]at e;rw[eq_of_beq hx,ha];exact e
   |false =>
    rw[hx]at e;exact h x c e
  .rw[if_neg hk]at e;exact h x c e
theorem zdl{env:Env}{x:AR}:∀(l:List (AR×DQ)) (r:List (AR×AI)),(∃c,r.lookup x=AA c)->∃c,(l.foldl (yaq env) r).lookup x=AA c
 | [],r,h=>h
 |y::l,r,h=>by
  refine zdl l (yaq env r y) ?_;unfold yaq
  by_cases hk:y.2=.free
  .rw[if_pos hk,Bt]
   cases hx:x == y.1 with
   |true=>exact⟨_,rfl⟩
   |false=>exact h
  .rw[if_neg hk];exact h
theorem zcr{env:Env}:∀(l:List (AR×DQ)) (r:List (AR×AI)),∀y∈l,y.2=.free->∃c,(l.foldl (yaq env) r).lookup y.1=AA c
 | [],_,y,hy,_=>nomatch hy
 |z::l,r,y,hy,hk=>by
  rcases AQ.mp hy with e|e
  .subst e;refine zdl l (yaq env r y) ?_;unfold yaq;rw[if_pos hk,Bt,beq_self_eq_true];exact⟨_,rfl⟩
  .exact zcr l (yaq env r z) y e hk
theorem mem_of_lookup{β:Type}{x:AR}{k:β}:∀{l:List (AR×β)},l.lookup x=AA k->(x,k)∈l
 | [],h=>nomatch h
 |y::l,h=>by
  rw[Bt]at h
  cases hx:x == y.1 with
  |true =>
   rw[hx]at h
   cases h
   rw[eq_of_beq hx];exact Aj
  |false =>
   rw[hx]at h;exact AT _ (mem_of_lookup h)
def ydc(env:Env)(x:AR)(k:DQ):NameKind:=if (k == .free && env.scope.kind == .function && env.kindOf x == AA .cell)=AB then .cell else k
theorem zd2{sc:Bj}{env:Env}(x:AR):(relabel sc env).names.lookup x=(sc.names.lookup x).map (ydc env x):=by
 unfold relabel;show (sc.names.map λ(n,k)=>if (k == Cn && env.scope.kind == .function && env.kindOf n == AA .cell)then(n,Fd)else(n,k)).lookup x=_
 induction sc.names with
 |nil=>rfl
 |cons y l ih =>
  let⟨n,k⟩:=y;rw[AL];show CG x ((if (k == Cn && env.scope.kind == .function && env.kindOf n == AA .cell)=AB then(n,Fd)else(n,k))::_)=_
  cases hx:x == n with
  |true =>
   have e:=eq_of_beq hx;subst e
   by_cases hc:(k == Cn && env.scope.kind == .function && env.kindOf x == AA .cell)=AB
   .rw[if_pos hc,Bt,beq_self_eq_true];simp[ydc,hc]
   .rw[if_neg hc,Bt,beq_self_eq_true];simp[ydc,hc]
  |false =>
   by_cases hc:(k == Cn && env.scope.kind == .function && env.kindOf n == AA .cell)=AB
   .rw[if_pos hc];erw[Bt,hx];exact ih
   .rw[if_neg hc];erw[Bt,hx];exact ih
structure CI where
 C:AI
 s:AJ
 H:Hp
 fp:List AI
def cxC(X:Cx)(sc:Bj)(NC:List AR)(j:CI):Cx where
 prog:=X.prog
 w:=X.w
 K:=X.K
 mg:=X.mg
 base:=X.base
 A:=X.A
 N:=NC
 s₀:=j.s
 H₀:=j.H
 env:=compEnvC sc (ydG sc X.env) j.C X.env
 outer:=X.stack
 stack:=X.stack
 ex:=j.fp
 fn:=λ_=>AC
 calm:=X.calm
 pn:=[]
 xe:=No
def inn(slots:List (Option Nat))(σ:St):St:=slots.map λo=>o.bind λj=>(σ[j]?).join
structure yao(X:Cx)(sc:Bj)(NC:List AR)(slots:List (Option Nat)):Prop where
 kind:sc.kind=.function
 names:∀y∈sc.names,y.2=.local->sc.names.lookup y.1=AA .local
 nocell:∀y∈sc.names,y.2 ≠ .cell
 free:∀y∈sc.names,y.2=.free->X.env.scope.names.lookup y.1=AA .cell
 slot:∀(i:Nat) (x:AR) (j:Nat),NC[i]?=AA x->slots[i]?=AA (AA j)->X.N[j]?=AA x/\sc.names.lookup x=AA .free
 len:slots.length=NC.length
theorem ydh{X:Cx}{sc:Bj}{NC:List AR}{slots:List (Option Nat)}(N:List AR)(so:Bj)(hN:X.N=N)(hs:X.env.scope=so)(kind:sc.kind=.function)
  (names:∀y∈sc.names,y.2=.local->sc.names.lookup y.1=AA .local) (nocell:∀y∈sc.names,y.2 ≠ .cell) (free:∀y∈sc.names,y.2=.free->so.names.lookup y.1=AA .cell)
  (slot:∀p∈NC.zip slots,(p.2.all λj=>decide (N[j]?=AA p.1/\sc.names.lookup p.1=AA .free))=AB) (len:slots.length=NC.length):yao X sc NC slots:=by
 subst hN hs;refine⟨kind,names,nocell,free,λi x j e1 e2=>?_,len⟩;have hm:(x,AA j)∈NC.zip slots:=A0 (i:=i) (by rw[List.getElem?_zip_eq_some];exact⟨e1,e2⟩);have:=slot _ hm;simpa using this
section
variable {X:Cx}{sc:Bj}{NC:List AR}{slots:List (Option Nat)}{pins:List (AI×CO)}{σ:St}{H:Hp}{s:AJ}
theorem yao.cells(O:yao X sc NC slots)(ok:X.Ok):∀y∈sc.names,y.2=.free->∃c,X.env.cells.lookup y.1=AA c:=λy hy hk=>ok.has y.1 (.inl (O.free y hy hk))
theorem yao.sub(O:yao X sc NC slots)(ok:X.Ok):∀x c,(ydG sc X.env).lookup x=AA c->X.env.cells.lookup x=AA c:=zef sc.names [] (O.cells ok) λ_ _ e=>nomatch e
theorem yao.rel(O:yao X sc NC slots)(ok:X.Ok){x:AR}(h:sc.names.lookup x=AA .free):(relabel sc X.env).names.lookup x=AA .cell:=by
 rw[zd2,h];have e:X.env.kindOf x=AA .cell:=O.free _ (mem_of_lookup h) rfl;simp[ydc,ok.kind,e]
theorem zgT(I:Inv X pins σ H s)(O:yao X sc NC slots){fp:List AI}(hf:∀b∈fp,ybA X pins H b)(hob:∀b∈fp,∃o,s.heap.get? b=AA o){h1:BI}{t':Nat}{m:AR->Option AG}(hns:h1.Ns s.heap.objs.size m)
  (hk:∀b o,s.heap.get? b=AA o->h1.get? b=AA o):Inv (cxC X sc NC ⟨s.heap.objs.size,s,H,fp⟩) [] (inn slots σ) H { s with heap:=h1,toks:=t' }:=by
 have sub:=O.sub I.ok;have fss:∀b,b≠X.env.locals->b∉X.fs->b∉frs X.stack:=λb h1 h2 hb=>(AQ.mp (I.stkSub b hb)).elim h1 h2;have ltC:∀x c,(ydG sc X.env).lookup x=AA c->c<s.heap.objs.size:=λx c e=>by
  let⟨v,q⟩:=I.cell x c (sub x c e);exact q.lt
 refine⟨⟨I.ok.mod,O.kind,I.ok.glob,I.ok.blt,AS _,λx y c e1 e2=>I.ok.inj x y c (sub x c e1) (sub y c e2),λx hx=>?_,λ_ _ z=>(nomatch z),I.ok.hd,I.ok.frames,.inl rfl,λb hb=>⟨?_,λx c e=>(hf b hb).2.2.2.2.1 x c (sub x c e)⟩,I.bs,B9 I.ok.bsz I.sz,λb o e hb=>?_,λb hb=>fss b (hf b hb).2.1 (hf b hb).2.2.1,I.stack,I.stkFree⟩,
  rfl,I.bare,Un.kept hk,⟨m,hns,λi x v e1 e2 e3=>?_⟩,λx c e=>?_,I.hok.fresh (AS _),λx c e=>I.freeC x c (sub x c e),λp hp=>(nomatch hp),I.hok.kept hk,?_⟩
 .have hx':(relabel sc X.env).names.lookup x=AA .cell \/ (relabel sc X.env).names.lookup x=AA .free:=hx;rw[zd2]at hx'
  cases q:sc.names.lookup x with
  |none =>
   rw[q]at hx';rcases hx' with z|z<;>cases z
  |some k =>
   have hm:=mem_of_lookup q;have hkf:k=.free:=by
    rw[q]at hx';have nc:=O.nocell _ hm
    by_cases hk:k=.free
    .exact hk
    .exfalso;have hb:(k == Cn)=false:=by simpa using hk
     rcases hx' with z|z
     .simp[ydc,hb]at z;exact nc z
     .simp[ydc,hb]at z;exact hk z
   subst hkf;exact zcr sc.names [] _ hm rfl
 .let⟨o,e⟩:=hob b hb;exact Av (AY e)
 .rcases (hf b hb).2.2.2.1 with z|z
  .exact I.ok.noex b o e z
  .exact absurd (A6 (AY e) (B9 I.ok.bsz z)) (DG _)
 .obtain⟨j,e4,e5⟩:∃j,slots[i]?=AA (AA j)/\σ[j]?=AA (AA v):=by
   have e2':(slots.map λo=>o.bind λj=>(σ[j]?).join)[i]?=AA (AA v):=e2;rw[Bv]at e2'
   cases q:slots[i]? with
   |none =>
    rw[q]at e2'
    cases e2'
   |some o =>
    rw[q]at e2'
    cases o with
    |none=>cases e2'
    |some j =>
     refine⟨j,rfl,?_⟩;have e6:(σ[j]?).join=AA v:=AW e2'
     cases q2:σ[j]? with
     |none =>
      rw[q2]at e6
      cases e6
     |some w =>
      rw[q2]at e6;have e7:w=AA v:=e6;rw[e7]
  let⟨e6,e7⟩:=O.slot i x j e1 e4;have kc:X.env.scope.names.lookup x=AA .cell:=O.free _ (mem_of_lookup e7) rfl;let⟨m0,hn0,hl⟩:=I.loc;let⟨u,r,lk⟩:=hl j x v e6 e5 (.inr (.inl kc));refine⟨u,r,.inr ⟨.inl (O.rel I.ok e7),?_⟩⟩;rcases lk with⟨z,_⟩|⟨_,c,hc,o,ho,hd⟩
  .rw[show X.env.kindOf x=AA .cell from kc]at z
   cases z
  .let⟨c',hc'⟩:=zcr (env:=X.env) sc.names [] _ (mem_of_lookup e7) rfl;have e8:c'=c:=AW ((sub x c' hc').symm.trans hc);subst e8;exact⟨c',hc',o,hk _ _ ho,hd⟩
 .let⟨v,o,ho,hd⟩:=I.cell x c (sub x c e);exact⟨v,o,hk _ _ ho,hd⟩
 .show (slots.map λo=>o.bind λj=>(σ[j]?).join).length=NC.length;rw[Ax,O.len]
theorem zgS(I:Inv X pins σ H s){fp:List AI}(hf:∀b∈fp,ybA X pins H b){C:AI}(hC:s.heap.objs.size<=C){pl:List (AI×CO)}{σ':St}{H':Hp}{s':AJ}(J:Inv (cxC X sc NC ⟨C,s,H,fp⟩) pl σ' H' s')
  {h2:BI} (hb:Ci C s'.heap h2):Inv X pins σ H' { s' with heap:=h2 }:=by
 have nC:∀b o,s.heap.get? b=AA o->b≠C:=λb o e=>Av (A6 (AY e) hC);have B:Un (frs X.stack) fp H H' s.heap s'.heap:=J.base;have fC:H' C=none:=J.free;refine I.call' (ch:=fp) J.os ⟨λb o e n h3 h4=>(hb.2 b (nC b o e)).trans (B.keep b o e n h3 h4),λb o e n h3 h4=>?_,B.free,λb o e h4=>?_,B.tups,B.frzs,B.tbls⟩ (λb u e=>?_) J.bare λb h3=>⟨(hf b h3).2.2.2.1,(hf b h3).2.1,(hf b h3).2.2.2.2.1,(hf b h3).2.2.2.2.2⟩
 .let⟨sl,q⟩:=B.slot b o e n h3 h4;exact⟨sl,(hb.2 b (nC b o e)).trans q⟩
 .let⟨o',q⟩:=B.there b o e h4;exact⟨o',(hb.2 b (nC b o e)).trans q⟩
 .refine(J.hok b u e).stay (λc v hc q=>(hb.2 c λz=>?_).trans q) (λ_ q=>q) λ_ _ q=>q;subst z;rcases hc with z|z
  .rw[z,e]at fC
   cases fC
  .rw[z]at fC
   cases fC
end
def PTs(X:Cx)(ifs:List AV)(t:TT):Prop :=
 ∀(pins:List (AI×CO)) (s:AJ) (σ:St) (H:Hp) (Q:Bool->Hp->Prop),Inv X pins σ H s->t σ H Q->AX (model X.prog X.w) X.A (ydl ifs X.env) (TP X pins σ Q) X.xe s
def ygO:TT:=λ_ H Q=>Q AB H
theorem zmK{X:Cx}:PTs X [] ygO:=λ_ _ _ H _ I h=>wpAny_tests_nil ⟨H,I,h⟩
theorem zl1{X:Cx}{c:AV}{t:TT}(h:PT X c t):PTs X [c] t:=λpins s σ H Q I q=>wpAny_tests_one (h pins s σ H Q I q)
def ycQ(J:It)(D:AI)(g:TG)(ti:TT)(te:TE)(W:Nat->Nat->St->List V->Hp->Prop)(Q:Hp->Prop):Prop :=
 ∀i m σc ys H2,W i m σc ys H2->H2 D=AA (.lst ys)/\((J.stop i H2/\Q H2) \/ (J.go i H2/\ys.length<sizeLine/\∃N:St->List V->Hp->Prop,(∀σ' ys' H',N σ' ys' H'->∃m',m' < m/\W (i+1) m' σ' ys' H') /\
  ∀x H3,J.yld i H2 x H3->g x σc H3 λσ4 H4=>ti σ4 H4 λb H5=>if b=AB then te σ4 H5 λy H6=>H6 D=AA (.lst ys)/\N σ4 (ys++[y]) (upd H6 D (.lst (ys++[y])))else N σ4 ys H5))
def ycO(slots:List (Option Nat))(wi:TI)(g:TG)(ti:TT)(te:TE):TE:=λσ H Q=>wi σ H λJ H1=>∀D,H1 D=AD->∃W:Nat->Nat->St->List V->Hp->Prop,(∃m,W 0 m (inn slots σ) [] (upd H1 D (.lst [])))/\ycQ J D g ti te W (Q (.ref D))
section
variable {X:Cx}{sc:Bj}{NC:List AR}{slots:List (Option Nat)}{elt tg iter:AV}{ifs:List AV}{pos:C5}{g:TG}{ti:TT}{te:TE}
theorem zko(hc:X.calm=AB)(hg:∀j,PG (cxC X sc NC j) tg g)(ht:∀j,PTs (cxC X sc NC j) ifs ti)(he:∀j,PE (cxC X sc NC j) elt te){cj:CI}{it D:AI}{tn:Nat->BI->Prop}{J:It}
  {W:Nat->Nat->St->List V->Hp->Prop} {Q:Hp->Prop} {R:Gk->AJ->Prop} {s:AJ} {σc:St} {ys:List V} {H:Hp} (T:Turn X.prog X.w X.K tg J cj.fp it tn)
  (I:Inv (cxC X sc NC cj) [] σc H s) (hf:∀b∈cj.fp,ybA (cxC X sc NC cj) [] H b) (st:tn 0 s.heap) {m:Nat} (w0:W 0 m σc ys H) (step:ycQ J D g ti te W Q)
  (fin:∀σ' H' s',Inv (cxC X sc NC cj) [] σ' H' s'->Q H'->R (.ok .next) s') :
  codeAny (model X.prog X.w) X.A (.compLoop (.ListComp elt [⟨tg,iter,ifs,0⟩] sc pos) 0 (.ref it) (.ref D) (cxC X sc NC cj).env) R s:=by
 have stat:∀{H':Hp},(∀b∈cj.fp,H' b=AD)->∀b∈cj.fp,ybA (cxC X sc NC cj) [] H' b:=λhn b hb=>⟨hn b hb,(hf b hb).2⟩;refine zhZ (λn s'=>∃i σ' ys' H',Inv (cxC X sc NC cj) [] σ' H' s'/\tn i s'.heap/\(∀b∈cj.fp,H' b=AD)/\W i n σ' ys' H') ?_ m ⟨0,σc,ys,H,I,st,λb hb=>(hf b hb).1,w0⟩
 rintro n s3 ⟨i,σ3,ys3,H3,I3,st3,fr3,w3⟩
 let⟨hD,q⟩:=step i n σ3 ys3 H3 w3;rcases q with⟨stop,qn⟩|⟨go,hz,N,hN,turn⟩
 .refine thn (T.done (cxC X sc NC cj) rfl rfl rfl hc i [] s3 σ3 H3 No I3 (stat fr3) st3 stop) λr s4 kq=>?_;let⟨hr,I4⟩:=kq;subst hr;exact fin σ3 H3 s4 I4 qn
 .refine thn (T.item (cxC X sc NC cj) rfl rfl rfl hc i [] s3 σ3 H3 No I3 (stat fr3) st3 go) λr s4 kq=>?_;let⟨u,hr,h4⟩:=kq;subst hr;refine thn h4 λ_ s5 kq=>?_;let⟨x,H5,I5,r5,y5,st5,fr5⟩:=kq;have I5':=I5.pinned (stat fr5) (T.obj _ _ st5);refine thn (hg cj _ s5 σ3 H5 x u _ I5' r5 (turn x H5 y5)) λ_ s6 kq=>?_;let⟨σ6,H6,I6,q6⟩:=kq;refine thn (ht cj _ s6 σ6 H6 _ I6 q6) λok s7 kq=>?_;let⟨H7,I7,q7⟩:=kq;have again:∀{σ8:St} {ys8:List V} {H8:Hp} {s8:AJ},Inv (cxC X sc NC cj) ([]++ybv cj.fp s5.heap) σ8 H8 s8->N σ8 ys8 H8->∃m,m<n/\∃i σ' ys' H',Inv (cxC X sc NC cj) [] σ' H' s8/\tn i s8.heap/\(∀b∈cj.fp,H' b=AD)/\W i m σ' ys' H':=λ{σ8 ys8 H8 s8} I8 n8=>by
   let⟨m',hm,w8⟩:=hN σ8 ys8 H8 n8;refine⟨m',hm,i+1,σ8,ys8,H8,I8.unpinned,T.keep _ _ _ st5 λb hb o e=>(I8.pin (b,o) (As _ (As _ (zbt hb e)))).1,λb hb=>?_,w8⟩;let⟨o,e,d⟩:=T.obj _ _ st5 b hb;exact(I8.pin (b,o) (As _ (As _ (zbt hb e)))).2.1
  cases ok with
  |false =>
   rw[if_neg BF]at q7 ⊢;exact again I7 q7
  |true =>
   rw[if_pos rfl]at q7 ⊢;refine thn (he cj _ s7 σ6 H7 _ I7 q7) λy s8 kq=>?_;let⟨v,H8,I8,r8,hD8,q8⟩:=kq;refine thn (ze8 (X:=cxC X sc NC cj) _ s8 σ6 H8 (.ref D) [v] (.ref D) [y] (λz H'=>z=.non/\H'=upd H8 D (.lst (ys3++[v]))) I8 rfl (.cons r8 .nil) ⟨D,ys3,v,rfl,rfl,hD8,hz,rfl,rfl⟩) λz s9 kq=>?_;let⟨zv,H9,I9,r9,e1,e2⟩:=kq;subst e2;exact again I9 q8
theorem zdY(hc:X.calm=AB)(O:yao X sc NC slots)(hg:∀j,PG (cxC X sc NC j) tg g)(ht:∀j,PTs (cxC X sc NC j) ifs ti)(he:∀j,PE (cxC X sc NC j) elt te){pins:List (AI×CO)}{s:AJ}{σ:St}{H:Hp}(I:Inv X pins σ H s)
  {it:AI} {fp:List AI} {tn:Nat->BI->Prop} {J:It} (T:Turn X.prog X.w X.K tg J fp it tn) (st:tn 0 s.heap) (hf:∀b∈fp,ybA X pins H b) {Q:VK}
  (h:∀D,H D=AD->∃W:Nat->Nat->St->List V->Hp->Prop,(∃m,W 0 m (inn slots σ) [] (upd H D (.lst [])))/\ycQ J D g ti te W (Q (.ref D))) {RR:AG->AI->Gk->AJ->Prop}
  (fin:∀D C s' H',Q (.ref D) H'->(∃o m,s'.heap.get? C=AA o/\s'.heap.Ns C m/\∀v,o.data ≠ .cell v)->ybA X pins H' C->(∀h2,Ci C s'.heap h2->Inv X pins σ H' { s' with heap:=h2 })->RR (.ref D) C (.ok .next) s') :
  AX (model X.prog X.w) X.A (newList []) (λacc s3=>AX (model X.prog X.w) X.A (newFunctionEnv sc X.env.globals (ydG sc X.env) [] X.env.qual AD .none (AA X.env)) (λcenv s4 =>
   codeAny (model X.prog X.w) X.A (.compStart (.ListComp elt [⟨tg,iter,ifs,0⟩] sc pos) 0 (.ref it) acc { cenv with scope:=relabel sc X.env }) (RR acc cenv.locals) s4) X.xe s3) X.xe s:=by
 refine BQ (wpAny_newFunctionEnv O.nocell (by intro y hy;simp at hy) (λh1 hns1 hsb1=>?_) O.kind);dsimp only at hns1 hsb1 ⊢;have hDn:H s.heap.objs.size=none:=I.hok.fresh (AS _);let⟨W,⟨m,w0⟩,step⟩:=h s.heap.objs.size hDn;obtain⟨s3,hs3⟩:∃x:AJ,x=({ s with heap:=s.heap.push { cls:=.type "list",dict:=AD,data:=.seq ([]:List AG).toArray } }:AJ):=⟨_,rfl⟩;have e3:s3.heap=s.heap.push { cls:=.type "list",dict:=AD,data:=.seq ([]:List AG).toArray }:=by rw[hs3]
 rw[<- e3]at hns1 hsb1;have hp3:∀b o,s.heap.get? b=AA o->s3.heap.get? b=AA o:=λb o e=>by
  rw[e3];exact AM _ e
 have I3:Inv X pins σ (upd H s.heap.objs.size (.lst [])) s3:=by
  have q:=I.laid (a:=s.heap.objs.size) (o:=.lst []) (h':=s3.heap) (t':=s.toks) hp3 (AS _) ⟨Dm _,[],_,.nil,by rw[e3];exact A4 _ rfl⟩;rw[hs3]at q ⊢;exact q
 have hf3:∀b∈fp,ybA X pins (upd H s.heap.objs.size (.lst [])) b:=λb hb=>by
  let⟨o,e,_⟩:=T.obj _ _ st b hb;refine⟨?_,(hf b hb).2⟩;rw[zk (Av (AY e))];exact(hf b hb).1
 have st3:tn 0 s3.heap:=T.keep _ _ _ st λb _ o e=>hp3 b o e;have hob:∀b∈fp,∃o,s3.heap.get? b=AA o:=λb hb=>by
  let⟨o,e,_⟩:=T.obj _ _ st3 b hb;exact⟨o,e⟩
 have hk1:∀b o,s3.heap.get? b=AA o->h1.get? b=AA o:=λb o e=>hsb1.extBut b o (Av (AY e)) (AM _ e);have J1:=zgT (t':=s3.toks+([]:List (AR×AG)).length) I3 O hf3 hob hns1 hk1;have hfc:∀b∈fp,ybA (cxC X sc NC ⟨s3.heap.objs.size,s3,upd H s.heap.objs.size (.lst []),fp⟩) [] (upd H s.heap.objs.size (.lst [])) b:=λb hb =>
  ⟨(hf3 b hb).1,(J1.ok.exf b hb).1,J1.ok.exfs b hb,.inl hb,(J1.ok.exf b hb).2,λp hp=>nomatch hp⟩
 have loop:codeAny (model X.prog X.w) X.A (.compLoop (.ListComp elt [⟨tg,iter,ifs,0⟩] sc pos) 0 (.ref it) (.ref s.heap.objs.size) (cxC X sc NC ⟨s3.heap.objs.size,s3,upd H s.heap.objs.size (.lst []),fp⟩).env) (RR (.ref s.heap.objs.size) s3.heap.objs.size)
   { s3 with heap:=h1,toks:=s3.toks+([]:List (AR×AG)).length }:=by
  refine zko (D:=s.heap.objs.size) (Q:=Q (.ref s.heap.objs.size)) hc hg ht he T J1 hfc (T.keep _ _ _ st3 λb _ o e=>hk1 b o e) w0 step λσ' H' s' J' q'=>?_;have fC:H' s3.heap.objs.size=none:=J'.free;refine fin _ _ s' H' q' ?_ (I3.fpOk (AS _) fC) λh2 hb=>zgS I3 hf3 (AS _) J' hb;let⟨m',hn',_⟩:=J'.loc;let⟨o,es,ep,ho,hd,r⟩:=id hn';exact⟨o,m',ho,hn',λv z=>by rw[hd]at z;cases z⟩
 have self:=λ(RQ:AG->AJ->Prop) (EE:AG->AJ->Prop)=>T.self X.A 0 { s3 with heap:=h1,toks:=s3.toks+([]:List (AR×AG)).length } RQ EE (T.keep _ _ _ st3 λb _ o e=>hk1 b o e);subst hs3;exact codeAny_compStart_list loop (self _ _ loop)
variable {wi:TI}
theorem zmd(hc:X.calm=AB)(O:yao X sc NC slots)(hi:PI X tg iter wi)(hg:∀j,PG (cxC X sc NC j) tg g)(ht:∀j,PTs (cxC X sc NC j) ifs ti)(he:∀j,PE (cxC X sc NC j) elt te)
  (hs:∀x,foldedSetIterable iter X.env x=pure x:=by intro _;rfl):PE X (.ListComp elt [⟨tg,iter,ifs,0⟩] sc pos) (ycO slots wi g ti te):=by
 intro pins s σ H Q I h;rw[eval_ListComp];refine Ef (use:=AD) rfl hs (za4 (O.cells I.ok)) O.kind O.names (thn (hi pins s σ H _ I h) λv s1 h1=>thn h1 λitv s2 h2=>?_);let⟨it,fp,tn,J,H2,rfl,I2,T,st2,f2,q2⟩:=h2;refine zdY hc O hg ht he I2 T st2 f2 q2 λD C s' H' q' ⟨o,m,ho,hn,_⟩ _ out=>⟨m,hn,λh2 hb=>⟨.ref D,H',out h2 hb,rfl,q'⟩⟩
theorem zmi{i:Nat}{x:AR}{px spos:C5}(hN:X.N.Nodup)(hix:X.N[i]?=AA x)(hx:Loc X.env.scope x)(hc:X.calm=AB)(O:yao X sc NC slots)(hi:PI X tg iter wi)(hg:∀j,PG (cxC X sc NC j) tg g)(ht:∀j,PTs (cxC X sc NC j) ifs ti)(he:∀j,PE (cxC X sc NC j) elt te)
  (hsw:swapsWith (.ListComp elt [⟨tg,iter,ifs,0⟩] sc pos) (AA (.Name x px)) spos.line X.env=pure true:=by rfl) (hs:∀x,foldedSetIterable iter X.env x=pure x:=by intro _;rfl)
  (hf:X.fn x=AB \/ X.env.scope.names.lookup x=AA .local:=by first|exact .inl rfl|exact .inr rfl|assumption):PS X (.Assign [.Name x px] (.ListComp elt [⟨tg,iter,ifs,0⟩] sc pos) spos) (yd3 (ycO slots wi g ti te) (ycs i)):=by
 intro pins s σ H Dd I h;rw[exec_Assign_Name_used _ _ _ _ hsw,arm_evalThenUse_ListComp];refine AH (D9 (AH (AH ?_)));refine Ef (Q:=λ_ s'=>AX (model X.prog X.w) X.A (pure ()) (λ_ s''=>AX (model X.prog X.w) X.A (pure HA) (SP X pins Dd) X.xe s'') X.xe s') rfl hs (za4 (O.cells I.ok)) O.kind O.names (thn (hi pins s σ H _ I h) λv s1 h1=>thn h1 λitv s2 h2=>?_);let⟨it,fp,tn,J,H2,rfl,I2,T,st2,f2,q2⟩:=h2;refine zdY (Q:=λx H1=>ycs i x σ H1 Dd.nx) hc O hg ht he I2 T st2 f2 q2 λD C s' H' q' ⟨o,m,ho,hn,hd⟩ FC out=>?_;have I':Inv X pins σ H' s':=out s'.heap (Hg ..);have Ip:Inv X (pins++[(C,o)]) σ H' s':=I'.pins_of λp hp=>(Ar.mp hp).elim (λz=>I'.pin p (As _ z)) λz=>by
  have e:p=(C,o):=by simpa using z
  subst e;exact⟨ho,FC.1,FC.2.1,FC.2.2.1,hd⟩
 show AX (model X.prog X.w) X.A (assign (.Name x px) X.env (.ref D)) _ _ s';refine Fx (zbh Ip hN hix hx (show RelV (.ref D) (.ref D)from rfl) (λs6 I6=>?_) hf);have g6:=(I6.pin (C,o) (As _ (As _ Aj))).1;let⟨o',es,ep,ho',r⟩:=hn;rw[ho]at ho'
 cases ho'
 refine⟨m,⟨o,es,ep,g6,r⟩,λh2 hb=>AN (AN ?_)⟩;exact⟨_,H',I6.unpinned.turned (t':=s6.toks) (λb u hb' e=>(hb.2 b hb').trans e) FC.1 FC.2.1 FC.2.2.2.1 FC.2.2.2.2.1 FC.2.2.2.2.2,q'⟩
end
theorem zgg:∀{bs:List Bool} {us:List AG},Vals (bs.map V.bl) us->LSm.BoolsAre us bs
 | [],_,.nil=>.nil
 |b::bs,_,.cons r q=>by
  cases (show _=EF b from r)
  exact .cons b (zgg q)
section
variable {X:Cx}
def ygQ(K:AE):List V->Hp->VK->Prop:=λxs H Q=>∃(l:AI) (bs:List Bool),xs=[.ref l]/\SqL K H l (bs.map V.bl)/\Q (.bl (bs.all id)) H
theorem zj1(hc:X.calm=AB):yar X (.builtin "all") (ygQ X.K):=by
 intro pins s σ H xs us Q I r h;let⟨l,bs,rfl,hq,q⟩:=h;let⟨u,rfl,ru⟩:=Vals.one r
 cases (show u=Am l from ru)
 let⟨its,rv,pl,hz⟩:=I.list hq;have hb:=zgg rv;have hl:=pl.isList;have hlt:l<s.heap.objs.size:=by
  let⟨_,e,_⟩:=hl;exact AY e
 refine call_all_walk (GI hl ?_);refine⟨s.heap.objs.size,[s.heap.objs.size,l],[s.heap.objs.size],its.toArray.size,_,_,λi=>(bs[i]?).getD AB,rfl,Walks.list (A:=X.A.in1) (I.ok.hd hc) _ l (Av hlt) its.toArray,⟨⟨_,A4 _ rfl,rfl,rfl⟩,hl.push _⟩,λi v s' Q' E' hP hQ=>?_,λh' tk hk=>?_⟩
 .let⟨b,e,rfl⟩:=hb.get i v (by simpa using hP);erw[e,CY]at hQ;exact Bk hQ
 .have e:((Cq its.toArray.size).all λi=>(bs[i]?).getD AB)=bs.all id:=by
   rw[AU,hb.length];exact LSm.range_all bs
  rw[e];exact⟨.bl _,H,I.kept (t':=tk) (LSm.kept_iter hk),rfl,q⟩
end
section
variable {X:Cx}{pins:List (AI×CO)}{σ:St}{H:Hp}{s:AJ}
end
section
variable {X:Cx}{a:AV}{ta:TE}{K:AE}
end
end L2
namespace L2
end L2
namespace L2
open PySem PySem.Spec PyProof.Rows
def CX1(P:A8)(w:An):CXT:=λouter H s E e s'=>∃(a:AI) (cls a0:AG) (H':Hp) (B:BI),e=.ref a/\s'.os=s.os/\D8 s'.gens/\HH B outer a cls a0 s'.heap/\HOk P w H' s'.heap/\Un (frs outer) [] H H' s.heap s'.heap /\
 (∀b o,s.heap.get? b=AA o->H b=AD->b∉frs outer->B.get? b=AA o)/\(∀b u,H' b=AA u->∃o,B.get? b=AA o)/\(∀b o,s.heap.get? b=AA o->b∉frs outer->∃o',B.get? b=AA o')/\E cls AD H'
theorem yad.there{P:A8}{w:An}{H:Hp}{h:BI}{a:AI}{o:HO}(x:yad P w H h a o):∃ob,h.get? a=AA ob:=by
 induction o with
 |lst xs=>let⟨_,_,_,_,e⟩:=x;exact⟨_,e⟩
 |tup xs=>let⟨_,_,_,ob,e,_⟩:=x;exact⟨ob,e⟩
 |dK kvs=>let⟨_,_,_,_,ob,_,_,e,_⟩:=x;exact⟨ob,e⟩
 |dT kvs=>let⟨_,_,_,_,ob,_,_,e,_⟩:=x;exact⟨ob,e⟩
 |set S n=>let⟨ob,_,_,_,e,_⟩:=x;exact⟨ob,e⟩
 |ins C dx fs=>let⟨_,_,_,e,_⟩:=x;exact⟨_,e⟩
 |own y=>exact x
 |xd fs=>let⟨_,⟨ob,_,_,e,_⟩,_⟩:=x;exact⟨ob,e⟩
 |rng lo hi=>let⟨_,_,_,e⟩:=x;exact⟨_,e⟩
 |frz ob u ih=>exact⟨ob,x.1⟩
 |tbl ps=>exact⟨_,x⟩
 |met f y=>exact⟨_,x⟩
 |ext φ=>exact x.2.1
theorem HOk.inB{P:A8}{w:An}{H:Hp}{h h' B:BI}(ok:HOk P w H h)(hB:B.StaysIn h)(hB':B.StaysIn h')(tr:∀b u,H b=AA u->∃o,B.get? b=AA o):HOk P w H h':=λa o e =>
 (ok a o e).stay (λb u hb q=>by
  have hb':∃o,B.get? b=AA o:=by
   rcases hb with z|z
   .rw[z];exact tr a o e
   .exact tr b _ z
  let⟨o',q'⟩:=hb';have:=hB b o' q';rw[q]at this
  cases this
  exact hB' b u q') (λ_ q=>q) λ_ _ q=>q
section
variable {P:A8}{w:An}{K:AE}{mg:AR->Option AG}{base:BI}{N:List AR}{qual:AR}{scope:Bj}{f:AI}{cd:AG}{A:Ay}{outer:List Env}{s₀:AJ}{H₀:Hp}{E:XK}
 {pins:List (AI×CO)} {σ:St} {H:Hp} {s:AJ}
theorem zi4{h':BI}{e:AI}{cls:AG}{vs:List AG}(I:Inv (ya6 (CX1 P w) P w K mg base N qual scope f cd A outer s₀ H₀ E) pins σ H s)(hx:Gq s.heap h' e cls vs)(hE:E cls AD H) :
  (ya6 (CX1 P w) P w K mg base N qual scope f cd A outer s₀ H₀ E).xe (.ref e) { s with heap:=h' }:=by
 have stk:s.heap.FunFrames base (envOfC qual scope s₀.heap.objs.size f cd::outer):=I.stack;have hst:∀b,b∈frs (envOfC qual scope s₀.heap.objs.size f cd::outer)->b=s₀.heap.objs.size \/ b∈frs outer:=λb hb=>by
  have hb':b∈s₀.heap.objs.size::frs outer:=hb;exact AQ.mp hb'
 have inB:∀b o,s.heap.get? b=AA o->b∉frs (envOfC qual scope s₀.heap.objs.size f cd::outer)->(DJ s.heap (frs (envOfC qual scope s₀.heap.objs.size f cd::outer))).get? b=AA o:=λb o q n=>F6 _ q n;have hB:(DJ s.heap (frs (envOfC qual scope s₀.heap.objs.size f cd::outer))).StaysIn s.heap:=λb o q=>Fj _ q;have bse:Un (frs outer) [] H₀ H s₀.heap s.heap:=I.base;have lt:∀b o,s₀.heap.get? b=AA o->b≠s₀.heap.objs.size:=λb o q=>Av (AY q);have tr:∀b u,H b=AA u->∃o,(DJ s.heap (frs (envOfC qual scope s₀.heap.objs.size f cd::outer))).get? b=AA o:=λb u q=>by
  let⟨o,ho⟩:=yad.there (I.hok b u q);exact⟨o,inB b o ho λhb=>by
   have:=I.stkFree b hb;rw[q]at this
   cases this⟩
 refine wpAny_leaves_madeW (base:=DJ s.heap (frs (envOfC qual scope s₀.heap.objs.size f cd::outer))) (h:=s.heap) I.ok.frames rfl hB (PySem.W.funFrames_hide stk λenv he a ha=>EJ.mpr ⟨env,he,ha⟩) hx λh'' t fl tu tn up=>?_;have up':s.heap.UpToSlots h'':=(HC hx.keeps).trans up;refine⟨e,cls,_,H,_,rfl,I.os,I.bare,fl,HOk.inB I.hok hB fl.1 tr,⟨λb o q n hb _=>?_,λb o q n hb _=>?_,bse.free,λb o q _=>?_,bse.tups,bse.frzs,bse.tbls⟩,λb o q n hb=>?_,tr,λb o q hb=>?_,hE⟩
 .refine fl.1 b o (inB b o (bse.keep b o q n hb (by simp)) λz=>?_);rcases hst b z with z|z
  .exact lt b o q z
  .exact hb z
 .let⟨sl,q1⟩:=bse.slot b o q n hb (by simp);let⟨_,o',ho',hd⟩:=C4 stk (show b∈DU (λ(z:Env)=>z.frame) _ from AT _ hb);let⟨sl',q2⟩:=up' b _ q1 (by rw[ho']at q1;cases q1;exact hd);exact⟨sl',q2⟩
 .let⟨o',q1⟩:=bse.there b o q (by simp)
  by_cases hb:b∈frs (envOfC qual scope s₀.heap.objs.size f cd::outer)
  .let⟨_,o2,ho',hd⟩:=C4 stk hb;let⟨sl',q2⟩:=up' b _ ho' hd;exact⟨_,q2⟩
  .exact⟨o',fl.1 b o' (inB b o' q1 hb)⟩
 .refine inB b o (bse.keep b o q n hb (by simp)) λz=>?_;rcases hst b z with z|z
  .exact lt b o q z
  .exact hb z
 .let⟨o',q1⟩:=bse.there b o q (by simp);refine⟨o',inB b o' q1 λz=>?_⟩;rcases hst b z with z|z
  .exact lt b o q z
  .exact hb z
theorem yeD:ybO (CX1 P w) (ya6 (CX1 P w) P w K mg base N qual scope f cd A outer s₀ H₀ E) E:=by
 intro pins σ H s e s' I h;let⟨a,cls,a0,H',B,rfl,os,bare,fl,hok,un,hB,tr,hT,hE⟩:=h;have bse:Un (frs outer) [] H₀ H s₀.heap s.heap:=I.base;have lt:∀b o,s₀.heap.get? b=AA o->b≠s₀.heap.objs.size:=λb o q=>Av (AY q);have hst:∀b,b∈frs (envOfC qual scope s₀.heap.objs.size f cd::outer)->b=s₀.heap.objs.size \/ b∈frs outer:=λb hb=>by
  have hb':b∈s₀.heap.objs.size::frs outer:=hb;exact AQ.mp hb'
 have un':Un (frs (envOfC qual scope s₀.heap.objs.size f cd::outer)) [] H H' s.heap s'.heap:=un;have kB:∀b o,s₀.heap.get? b=AA o->H₀ b=AD->b∉frs outer->B.get? b=AA o:=λb o q n hb=>hB b o (bse.keep b o q n hb (by simp)) (bse.free b o q n (by simp)) λz=>by
  rcases hst b z with z|z
  .exact lt b o q z
  .exact hb z
 have kT:∀b o,s₀.heap.get? b=AA o->b∉frs outer->∃o',B.get? b=AA o':=λb o q hb=>by
  let⟨o',q1⟩:=bse.there b o q (by simp);refine hT b o' q1 λz=>?_;rcases hst b z with z|z
  .exact lt b o q z
  .exact hb z
 refine wpAny_leaves_onW I.ok.frames rfl fl λh'' fl' up=>?_;refine⟨a,cls,a0,H',B,rfl,os.trans I.os,bare,fl',HOk.inB hok fl.1 fl'.1 tr,⟨λb o q n hb _=>fl'.1 b o (kB b o q n hb),λb o q n hb _=>?_,λb o q n _=>?_,λb o q _=>?_,λb xs q=>un'.tups b xs (bse.tups b xs q),λb o u q=>un'.frzs b o u (bse.frzs b o u q),λb ps q=>?_⟩,kB,tr,kT,hE⟩
 .let⟨sl,q1⟩:=bse.slot b o q n hb (by simp);have n1:=bse.free b o q n (by simp);let⟨sl1,q2⟩:=un'.slot b _ q1 n1 (AT _ hb) (by simp);let⟨_,o',ho',hd⟩:=C4 fl.2.2.1 (show b∈DU (λ(z:Env)=>z.frame) _ from AT _ hb);let⟨sl',q3⟩:=up b _ q2 (by rw[ho']at q2;cases q2;exact hd);exact⟨sl',q3⟩
 .let⟨o',q1⟩:=bse.there b o q (by simp);exact un'.free b o' q1 (bse.free b o q n (by simp)) (by simp)
 .let⟨o',q1⟩:=bse.there b o q (by simp);let⟨o2,q2⟩:=un'.there b o' q1 (by simp)
  by_cases hb:b∈frs outer
  .let⟨_,o3,ho3,hd⟩:=C4 fl.2.2.1 (show b∈DU (λ(z:Env)=>z.frame) _ from AT _ hb);let⟨sl',q3⟩:=up b _ ho3 hd;exact⟨_,q3⟩
  .let⟨o4,q4⟩:=kT b o q hb;exact⟨o4,fl'.1 b o4 q4⟩
 .let⟨m1,e1⟩:=bse.tbls b ps q;let⟨m2,e2⟩:=un'.tbls b _ e1;exact⟨m1++m2,by rw[e2,EG]⟩
end
section
variable {X:Cx}{e:AV}{es:List AV}{te:TE}
end
section
variable {X:Cx}{e:AV}{es:List AV}{t:TA}{E:XK}
end
section
variable {pg:A8}{wd:An}{A:Ay}{E:AG->AJ->Prop}{h:BI}{g:Array GenState}{d:Drawn}{t:Nat}{os:OsState}{a C:AI}{o:CO}{K:AE}
end
def ygW(a C:AI):BI->Prop:=λh=>∃o,h.get? a=AA o/\o.cls=.ref C
section
variable {X:Cx}
end
section
variable {X:Cx}{pins:List (AI×CO)}{σ:St}{H:Hp}{s:AJ}
end
section
variable {X:Cx}{pins:List (AI×CO)}{σ:St}{H:Hp}{s:AJ}
end
section
variable {X:Cx}{body suite:List CC}{b₀:CC}{x n:AR}{np hpos pos:C5}{tb:XK->TS}{ts:TS}{W:AI}{i:Nat}
end
structure ydt(k:Nat)(A:Ay):Prop where
 dp:A.depth+3*k+5<recursionLimit
 un:A.units+16*k+200<cLine
section
variable {P:A8}{w:An}{K:AE}{mg:AR->Option AG}{base:BI}
end
section
variable {X:Cx}{k:Nat}{f:AI}{fd:BK}{ps:List AR}{sp:Sp}{x:AR}{p pos:C5}{e:AV}{es:List AV}{t:TA}
end
section
variable {P:A8}{w:An}{K:AE}{mg:AR->Option AG}{base:BI}
theorem own1{N:List AR}{qual:AR}{scope:Bj}{f:AI}{cd:AG}{A:Ay}{outer:List Env}{s:AJ}{H:Hp}{E:XK}{CX:CXT} :
  El (model (ya6 CX P w K mg base N qual scope f cd A outer s H E).prog (ya6 CX P w K mg base N qual scope f cd A outer s H E).w) (ya6 CX P w K mg base N qual scope f cd A outer s H E).A (ya6 CX P w K mg base N qual scope f cd A outer s H E).env (ya6 CX P w K mg base N qual scope f cd A outer s H E).xe :=
 PassesOwn.leaving
end
section
variable {X:Cx}
end
section
variable {X:Cx}
def yfH(K:AE):List V->Hp->VK->Prop:=λxs H Q=>∃(l:AI) (ns:List Int),xs=[.ref l]/\SqL K H l (ns.map V.int)/\Q (.int ns.sum) H
theorem zji(hc:X.calm=AB):yar X (.builtin "sum") (yfH X.K):=by
 intro pins s σ H xs us Q I r h;let⟨l,ns,rfl,hq,q⟩:=h;let⟨u,rfl,ru⟩:=Vals.one r
 cases (show u=Am l from ru)
 let⟨its,rv,pl,hz⟩:=I.list hq;have hi:FD its ns:=zeg rv;let⟨ys,e⟩:=hi.allInts.items;have hns:ns=ys.toList.map (·.1):=by rw[<- hi.numsOf,<- nums_intItems,<- e]
 have hl:=pl.isList;rw[e]at hl;refine sum_intListG (I.ok.hd hc) hl λh' tk t' hk=>⟨.int ns.sum,H,I.kept (t':=tk) hk,⟨t',?_⟩,q⟩;rw[preSum_eq,DV (by simp),<- hns]
def yfN(K:AE):List V->Hp->VK->Prop:=λxs H Q=>∃(l:AI) (ns:List Int),xs=[.ref l]/\SqL K H l (ns.map V.int)/\0<ns.length/\∀M,M∈ns->(∀a,a∈ns->a<=M)->Q (.int M) H
theorem zie(hc:X.calm=AB):yar X (.builtin "max") (yfN X.K):=by
 intro pins s σ H xs us Q I r h;let⟨l,ns,rfl,hq,hne,q⟩:=h;let⟨u,rfl,ru⟩:=Vals.one r
 cases (show u=Am l from ru)
 let⟨its,rv,pl,hz⟩:=I.list hq;have hi:FD its ns:=zeg rv;let⟨ys,e⟩:=hi.allInts.items;have hns:ns=ys.toList.map (·.1):=by rw[<- hi.numsOf,<- nums_intItems,<- e]
 have hsz:0<ys.size:=by
  rw[hns,Ax,CP]at hne;exact hne
 have hl:=pl.isList;rw[e]at hl;refine max_intList (I.ok.hd hc) hl hsz λv h' tk hv hk=>?_;let⟨t,rfl⟩:=intItems_at hv;let⟨h1,h2⟩:=argBest_gt (numAt ys) (ys.size - 1);refine⟨.int _,H,I.kept (t':=tk) hk,⟨t,rfl⟩,q _ ?_ λa ha=>?_⟩
 .rw[hns,numAt_eq];exact getD_mem (by rw[Ax,CP];lia)
 .rw[hns]at ha;let⟨j,hj,rfl⟩:=mem_getD ha;rw[Ax,CP]at hj;rw[<- numAt_eq];exact h2 j (by lia)
end
section
variable {κ:Type}[DecidableEq κ]
def ybP(kvs:List (κ×V))(k:κ):Option V:=(kvs.find? λkv=>decide (kv.1=k)).map (·.2)
def putK(kvs:List (κ×V))(k:κ)(v:V):List (κ×V) :=
 if (kvs.any λkv=>decide (kv.1=k))=AB then kvs.map (λkv=>if kv.1=k then(kv.1,v)else kv)else kvs++[(k,v)]
theorem zce{p:κ×V}{r:List (κ×V)}{k:κ}(e:p.1=k):ybP (p::r) k=AA p.2:=by simp[ybP,CM,e]
theorem zcl{p:κ×V}{r:List (κ×V)}{k:κ}(e:¬p.1=k):ybP (p::r) k=ybP r k:=by simp[ybP,CM,e]
theorem zgh(k:κ):∀kvs:List (κ×V),(kvs.any λkv=>decide (kv.1=k))=(ybP kvs k).isSome
 | []=>rfl
 |p::r=>by
  rw[Bu]
  by_cases e:p.1=k
  .simp only[zce e,decide_eq_true e,GJ,Option.isSome_some]
  .rw[zcl e,decide_eq_false e,Fe];exact zgh k r
theorem zdP(kvs:List (κ×V))(k:κ)(v:V):(putK kvs k v).length<=kvs.length+1:=by
 unfold putK;split
 .rw[Ax];lia
 .rw[Ac,AZ,CA];lia
theorem ybB.isSome_eq{o:Option V}{u:Option AG}(r:ybB o u):o.isSome=u.isSome:=by
 cases o with
 |none=>cases u with
  |none=>rfl
  |some _=>exact(show False from r).elim
 |some _=>cases u with
  |none=>exact(show False from r).elim
  |some _=>rfl
theorem ybB.getD{o:Option V}{u:Option AG}{d:V}{d':AG}(r:ybB o u)(rd:RelV d d'):RelV (o.getD d) (u.getD d'):=by
 cases o with
 |none=>cases u with
  |none=>exact rd
  |some _=>exact(show False from r).elim
 |some _=>cases u with
  |none=>exact(show False from r).elim
  |some _=>exact r
theorem KV.val{kvs:List (κ×V)}{vs:List (κ×AG)}(r:KV kvs vs)(k:κ):ybB (ybP kvs k) (valueAt vs k):=by
 unfold KV at r
 induction r with
 |nil=>exact Cj
 | @cons p q ps qs h t ih =>
  let⟨h1,h2⟩:=h
  by_cases e:p.1=k
  .have e':q.1=k:=h1.symm.trans e;have b:valueAt (q::qs) k=AA q.2:=by simp[valueAt,CM,e']
   rw[zce e,b];exact h2
  .have e':¬q.1=k:=λz=>e (h1.trans z);have b:valueAt (q::qs) k=valueAt qs k:=by simp[valueAt,CM,e']
   rw[zcl e,b];exact ih
theorem KV.any{kvs:List (κ×V)}{vs:List (κ×AG)}(r:KV kvs vs)(k:κ):(kvs.any λkv=>decide (kv.1=k))=vs.any λkv=>decide (kv.1=k):=by
 unfold KV at r
 induction r with
 |nil=>rfl
 |cons h t ih=>rw[Bu,Bu,ih,h.1]
theorem KV.repl{kvs:List (κ×V)}{vs:List (κ×AG)}(r:KV kvs vs)(k:κ){y:V}{u:AG}(ry:RelV y u) :
  KV (kvs.map λkv=>if kv.1=k then(kv.1,y)else kv) (vs.map λkv=>if kv.1=k then(kv.1,u)else kv):=by
 unfold KV at r ⊢
 induction r with
 |nil=>exact .nil
 | @cons p q ps qs h t ih =>
  rw[AL,AL];refine .cons ?_ ih;let⟨h1,h2⟩:=h
  by_cases e:p.1=k
  .rw[if_pos e,if_pos (h1.symm.trans e)];exact⟨h1,ry⟩
  .rw[if_neg e,if_neg (λz=>e (h1.trans z))];exact⟨h1,h2⟩
theorem KV.put{kvs:List (κ×V)}{vs:List (κ×AG)}(r:KV kvs vs)(k:κ){y:V}{u:AG}(ry:RelV y u):KV (putK kvs k y) (stored vs k u):=by
 unfold putK stored;rw[r.any k]
 by_cases e:(vs.any λkv=>decide (kv.1=k))=AB
 .rw[if_pos e,if_pos e];exact r.repl k ry
 .rw[if_neg e,if_neg e];exact HW r ⟨rfl,ry⟩
theorem KV.length{kvs:List (κ×V)}{vs:List (κ×AG)}(r:KV kvs vs):kvs.length=vs.length:=Ed r
end
theorem zl0{P:A8}{w:An}{k:Key}{u:AG}(r:RelV (kV k) u):(yV P w).is k u=true:=by
 cases k with
 |inl i=>let⟨t,e⟩:=(show ∃t,u=Ej i t from r);subst e;exact zfT P w i t
 |inr x=>let⟨t,e⟩:=(show ∃t,u=GQ x t from r);subst e;exact zfM P w x t
theorem zfc{P:A8}{w:An}:∀{ks:List Key} {us:List AG},Vals (ks.map kV) us->ItemsAre (yV P w) ks us
 | [],_,r=>by rw[A5]at r;cases r;exact .nil
 |k::ks,_,r=>by
  rw[AL]at r
  cases r with
  |cons h t=>exact .cons (zl0 h) (zfc t)
abbrev KT(H:Hp):List (List Key×V)->List (List Key×AI×AG)->Prop:=Gi λp q=>p.1=q.1/\H q.2.1=AA (.tup (p.1.map kV))/\RelV p.2 q.2.2
theorem KT.val{H:Hp}{kvs:List (List Key×V)}{xs:List (List Key×AI×AG)}(r:KT H kvs xs)(k:List Key):ybB (ybP kvs k) ((atKey xs k).map (·.2)):=by
 induction r with
 |nil=>exact Cj
 | @cons p q ps qs h t ih =>
  let⟨h1,_,h2⟩:=h
  by_cases e:p.1=k
  .have e':q.1=k:=h1.symm.trans e;have b:atKey (q::qs) k=AA q.2:=by simp[atKey,CM,e']
   rw[zce e,b];exact h2
  .have e':¬q.1=k:=λz=>e (h1.trans z);have b:atKey (q::qs) k=atKey qs k:=by simp[atKey,CM,e']
   rw[zcl e,b];exact ih
theorem KT.repl{H:Hp}{kvs:List (List Key×V)}{xs:List (List Key×AI×AG)}(r:KT H kvs xs)(k:List Key){y:V}{u:AG}(ry:RelV y u) :
  KT H (kvs.map λkv=>if kv.1=k then(kv.1,y)else kv) (xs.map (putAt k u)):=by
 induction r with
 |nil=>exact .nil
 | @cons p q ps qs h t ih =>
  rw[AL,AL];refine .cons ?_ ih;let⟨h1,h2,h3⟩:=h;unfold putAt
  by_cases e:p.1=k
  .rw[if_pos e,if_pos (h1.symm.trans e)];exact⟨h1,h2,ry⟩
  .rw[if_neg e,if_neg (λz=>e (h1.trans z))];exact⟨h1,h2,h3⟩
theorem KT.put{H:Hp}{kvs:List (List Key×V)}{xs:List (List Key×AI×AG)}(r:KT H kvs xs)(k:List Key){b:AI}{y:V}{u:AG}(hb:H b=AA (.tup (k.map kV)))(ry:RelV y u) :
  KT H (putK kvs k y) (storedH xs k b u):=by
 have e:(kvs.any λkv=>decide (kv.1=k))=(atKey xs k).isSome:=by
  rw[zgh,(r.val k).isSome_eq,Option.isSome_map]
 unfold putK storedH;rw[e]
 by_cases q:(atKey xs k).isSome=AB
 .rw[if_pos q,if_pos q];exact r.repl k ry
 .rw[if_neg q,if_neg q];exact HW r ⟨rfl,hb,ry⟩
theorem KT.keeps{H H':Hp}{kvs:List (List Key×V)}{xs:List (List Key×AI×AG)}(r:KT H kvs xs)(ht:∀b ys,H b=AA (.tup ys)->H' b=AA (.tup ys)):KT H' kvs xs :=
 Paired.mapP r λ_ _ z=>⟨z.1,ht _ _ z.2.1,z.2.2⟩
section
variable {P:A8}{w:An}{H:Hp}{h:BI}{a:AI}
theorem znp{u:HO}(ok:HOk P w H h)(e:Rd H a u):yad P w H h a u:=e.ok ok
theorem zl2{kvs:List (Key×V)}(ok:HOk P w H h)(e:Rd H a (.dK kvs)):kvs.length<=sizeLine/\(a == sysModules)=AC/\∃vs,KV kvs vs/\h.DictOf (yV P w) a vs :=
 show yad P w H h a (.dK kvs)from znp ok e
theorem zpx{kvs:List (Key×V)}(ok:HOk P w H h)(e:H a=AA (.dK kvs)):kvs.length<=sizeLine/\(a == sysModules)=AC/\∃vs,KV kvs vs/\h.DictOf (yV P w) a vs:=zl2 ok (.inl e)
theorem zhp{ks:List Key}(ok:HOk P w H h)(e:H a=AA (.tup (ks.map kV))):(tupleKind (yV P w)).is h ks a:=by
 let⟨_,its,r,o,h1,h2,n,h3⟩:=(show yad P w H h a (.tup (ks.map kV))from ok a _ e);exact⟨o,its.toArray,n,h1,h2,h3,by simpa using zfc r⟩
theorem zlg{kvs:List (List Key×V)}(ok:HOk P w H h)(e:Rd H a (.dT kvs)):kvs.length<=sizeLine/\(a == sysModules)=AC /\
  ∃xs,KT H kvs xs/\h.DictOfH (tupleKind (yV P w)) a xs:=by
 let⟨z,y,xs,r,o,es,ep,h1,h2,h3,h4,h5⟩:=(show yad P w H h a (.dT kvs)from znp ok e);refine⟨z,y,xs,r,o,es,ep,h1,h2,h3,h4,λx hx=>?_,h5⟩;have all:∀{l:List (List Key×V)} {m:List (List Key×AI×AG)},KT H l m->∀x∈m,(tupleKind (yV P w)).is h x.1 x.2.1:=by
  intro l m q
  induction q with
  |nil=>intro x hx;exact nomatch hx
  | @cons p q ps qs hq t ih =>
   intro x hx;rcases AQ.mp hx with e|hx
   .subst e;exact zhp ok (by rw[<- hq.1];exact hq.2.1)
   .exact ih x hx
 exact all r x hx
theorem zpk{kvs:List (List Key×V)}(ok:HOk P w H h)(e:H a=AA (.dT kvs)):kvs.length<=sizeLine/\(a == sysModules)=AC /\
  ∃xs,KT H kvs xs/\h.DictOfH (tupleKind (yV P w)) a xs:=zlg ok (.inl e)
end
def yfe(H:Hp)(a:AI)(y:V)(r:Option V):Prop :=
 (∃kvs k,Rd H a (.dK kvs)/\y=kV k/\r=ybP kvs k) \/ ∃kvs k b,Rd H a (.dT kvs)/\y=.ref b/\H b=AA (.tup (k.map kV))/\r=ybP kvs k
def yfk(H:Hp)(a:AI)(y v:V)(H':Hp):Prop :=
 (∃kvs k,H a=AA (.dK kvs)/\y=kV k/\kvs.length<sizeLine/\H'=upd H a (.dK (putK kvs k v))) \/
 ∃kvs k b,H a=AA (.dT kvs)/\y=.ref b/\H b=AA (.tup (k.map kV))/\kvs.length<sizeLine/\H'=upd H a (.dT (putK kvs k v))
section
variable {X:Cx}{pins:List (AI×CO)}{σ:St}{H:Hp}{s:AJ}{a:AI}{y v:V}{u r:AG}{o:Option V}{A:Ay}{E:AG->AJ->Prop}
theorem Inv.big(I:Inv X pins σ H s):sysModules<s.heap.objs.size:=by
 have h:mainGlobals<s.heap.objs.size:=(I.mod.glob.keeps I.bk).lt;exact Nat.lt_trans (by decide) h
theorem zjb{h':BI}{t':Nat}{ob:HO}(I:Inv X pins σ H s)(mu:Mut (H a))(hs:Ci a s.heap h')(he:∃q,h'.get? a=AA q)(new:yad X.prog X.w (upd H a ob) h' a ob) :
  Inv X pins σ (upd H a ob) { s with heap:=h',toks:=t' } :=
 I.write (x:=a) (e:=a) mu (.inl rfl) (λb q hb z=>(hs.2 b hb).trans z) he new
theorem zol{P:A8}{w:An}{H':Hp}{h':BI}{kvs:List (Key×V)}{vs:List (Key×AG)}(z:kvs.length<=sizeLine)(hd:(a == sysModules)=AC)(rel:KV kvs vs)(dd:h'.DictOf (yV P w) a vs) :
  yad P w H' h' a (.dK kvs):=⟨z,hd,vs,rel,dd⟩
theorem ziL{H':Hp}{Q:Unit->AJ->Prop}(hu:A.units+1<cLine)(I:Inv X pins σ H s)(g:yfk H a y v H')(ry:RelV y u)(rv:RelV v r)(h:∀s',Inv X pins σ H' s'->Q () s') :
  AX (model X.prog X.w) A (setItem (.ref a) u r) Q E s:=by
 rcases g with⟨kvs,k,e,ey,l,eH⟩|⟨kvs,k,b,e,ey,eb,l,eH⟩
 .subst ey eH;let⟨z,hd,vs,rel,dd⟩:=zpx I.hok e;have hz:vs.length<=sizeLine:=by rw[<- rel.length];exact z
  have hl:(putK kvs k v).length<=sizeLine:=by have:=zdP kvs k v;lia
  refine wpAny_setItem_pairs (hsz:=hz) (zl0 ry) dd λh' dd' hs=>h _ ?_;have he:∃q,h'.get? a=AA q:=let ⟨q,_,_,hq,_⟩:=dd';⟨q,hq⟩
  exact zjb I (by rw[e];exact Cj) hs he (zol hl hd (rel.put k rv) dd')
 .subst ey eH
  cases (show u=Am b from ry)
  let⟨z,hd,xs,rel,dd⟩:=zpk I.hok e;have hz:xs.length<=sizeLine:=by rw[<- Ed rel];exact z
  have hl:(putK kvs k v).length<=sizeLine:=by have:=zdP kvs k v;lia
  refine wpAny_setItem_heap (hsz:=hz) (Fq hu) (zhp I.hok eb) dd λh' dd' hs=>h _ ?_;let⟨q,es,ep,hq,h2,h3,h4,_,h5⟩:=dd';refine zjb I (by rw[e];exact Cj) hs ⟨q,hq⟩ ⟨hl,hd,_,(rel.put k eb rv).keeps λc ys ec=>?_,q,es,ep,hq,h2,h3,h4,h5⟩;rw[zk (zpW ec e (λz=>nomatch z))];exact ec
end
section
variable {X:Cx}{pins:List (AI×CO)}{σ:St}{H:Hp}{s:AJ}{a:AI}{kvs:List (Key×V)}{k:Key}{u:AG}{A:Ay}{E:AG->AJ->Prop}
end
def ydb(i:AV):Prop:=∀ov iv,subscripted i AC ov iv=operate [ov,iv] (getItem ov iv)
theorem ziB{prog:A8}{w:An}{A:Ay}{E:AG->AJ->Prop}{s:AJ}{env:Env}{value slice:AV}{pos:C5}{T id:String}{Q:AG->AJ->Prop}
  (hl:typeLookup (.type T) "__getitem__"=pure (AA (.builtin id))) (hs:ydb slice)
  (h:AX (model prog w) A (eval value env) (λo s₁=>AX (model prog w) A (eval slice env) (λi s₂=>s₂.TypeIs o T/\AX (model prog w) A (getItem o i) Q E s₂) E s₁) E s) :
  AX (model prog w) A (eval (.Subscript value slice pos) env) Q E s:=by
 refine Fk (C8 h (λo s₁ h₁=>C8 h₁ (λi s₂ h₂=>?_) λ_ _ x=>x) λ_ _ x=>x);let⟨hT,h₂⟩:=h₂;unfold subscriptTail;refine AH ?_;rw[getitemInPython_of_ne hT.not_modules];refine AH (wpAny_specialOf hT hl ?_);have fin:AX (model prog w) A (subscripted slice AC o i) (λr s₃=>AX (model prog w) A (letTemporaryGo value o r >>= λ_=>pure r) Q E s₃) E s₂:=by
  rw[hs o i];exact wpAny_operating (C8 h₂ (λr s₃ h₃=>AH (wpAny_letTemporaryGo (AN h₃))) λ_ _ x=>x)
 first
  | exact AN (AH fin)
  | exact AH (AN (AH fin))
  | exact AH fin
def yeA(td ty tv:TE):TS:=λD σ H=>tv σ H λv H1=>td σ H1 λx H2=>ty σ H2 λy H3=>∃a H4,x=.ref a/\yfk H3 a y v H4/\D.nx σ H4
section
variable {X:Cx}{o i e value:AV}{pos pos' tpos:C5}{td ty tv:TE}
theorem zmz(hu:X.A.units+1<cLine)(ho:PE X o td)(hi:PE X i ty)(hv:PE X value tv)(hs:swapsWith value (AA (.Subscript o i pos')) pos.line X.env=pure AC) :
  PS X (.Assign [.Subscript o i pos'] value pos) (yeA td ty tv):=by
 intro pins s σ H D I h;refine wpAny_Assign_Subscript (thn (hv pins s σ H _ I h) λr s1 kq=>?_) hs;let⟨v,H1,I1,rv,q1⟩:=kq;refine thn (ho pins s1 σ H1 _ I1 q1) λu s2 kq=>?_;let⟨x,H2,I2,rx,q2⟩:=kq;refine thn (hi pins s2 σ H2 _ I2 q2) λiv s3 kq=>?_;let⟨y,H3,I3,ry,a,H4,ex,g,q3⟩:=kq;subst ex;obtain rfl:u=Am a:=rx;exact ziL hu I3 g ry rv λs4 I4=>⟨σ,H4,I4,q3⟩
end
theorem zjY{P:A8}{w:An}{H:Hp}(h:BI)(hb:sysModules<h.objs.size):yad P w H (h.push { cls:=.type "dict",data:=.dict #[] }) h.objs.size (.dT []) :=
 ⟨Dm _,beq_eq_false_iff_ne.mpr (BM (Av hb)),[],.nil,_,#[],0,A4 _ rfl,⟨rfl,rfl,rfl⟩,rfl,rfl,List.nodup_nil⟩
def ydf:TE:=λ_ H Q=>∀p,H p=AD->Q (.ref p) (upd H p (.dT []))
section
variable {X:Cx}{pos:C5}
theorem ycA:PE X (.Dict [] [] pos) ydf:=λpins s σ H Q I h =>
 wpAny_Dict_empty ⟨.ref s.heap.objs.size,_,I.laid (a:=s.heap.objs.size) (o:=.dT []) (t':=s.toks) (λ_ _ q=>AM _ q) (AS _) (zjY s.heap I.big),rfl,h _ (I.hok.fresh (AS _))⟩
end
structure M2(X:Cx)(o:AV)(m:AR)(apos:C5)(e f:AV)(cpos:C5):Prop where
 base:attributeBase o m X.env (eval o X.env)=eval o X.env
 few:((backTo cpos (starEach [e,f] X.env)).all (λx=>!x.1) && (backToKw cpos (keywordEach [] X.env)).all (λx=>x.1.isSome)
  && decide (([e,f]:List AV).length+([]:List Ca).length+(if ([]:List Ca).isEmpty then 0 else 1)<30))=AB
 line:(apos.endLine == cpos.line)=AB
 trees:backTo cpos (starEach [e,f] X.env)=[(AC,eval e X.env),(AC,eval f X.env)]
def IsD(H:Hp)(a:AI):Prop:=(∃kvs,Rd H a (.dK kvs)) \/ ∃kvs,Rd H a (.dT kvs)
theorem zny{X:Cx}{pins:List (AI×CO)}{σ:St}{H:Hp}{s:AJ}{a:AI}(I:Inv X pins σ H s)(d:IsD H a) :
  s.TypeIs (.ref a) "dict"/\(∀b,Am a=.ref b->∃ob,s.heap.get? b=AA ob/\ob.dict=AD)/\(a == sysModules)=false:=by
 rcases d with⟨kvs,e⟩|⟨kvs,e⟩
 .let⟨_,hd,vs,_,dd⟩:=zl2 I.hok e;refine⟨dd.typeIs,λb q=>?_,hd⟩
  cases q
  let⟨ob,_,_,h1,h2,_⟩:=dd;exact⟨ob,h1,h2.2.1⟩
 .let⟨_,hd,xs,_,dd⟩:=zlg I.hok e;refine⟨dd.typeIs,λb q=>?_,hd⟩
  cases q
  let⟨ob,_,_,h1,h2,_⟩:=dd;exact⟨ob,h1,h2.2.1⟩
section
variable {X:Cx}{pins:List (AI×CO)}{σ:St}{H:Hp}{s:AJ}{a:AI}{y d:V}{u r:AG}{o:Option V}{A:Ay}{E:AG->AJ->Prop}
theorem znh{Q:AG->AJ->Prop}(hu:A.units+1<cLine)(I:Inv X pins σ H s)(g:yfe H a y o)(ry:RelV y u)(rd:RelV d r)(h:∀w' s',Inv X pins σ H s'->RelV (o.getD d) w'->Q w' s') :
  AX (model X.prog X.w) A (call (.builtin "dict.get") [.ref a,u,r]) Q E s:=by
 rcases g with⟨kvs,k,e,ey,l⟩|⟨kvs,k,b,e,ey,eb,l⟩
 .subst ey;let⟨z,hd,vs,rel,dd⟩:=zl2 I.hok e;refine call_meetsIn D3 dd.typeIs FH (Ep _ _ _) (meets_dict_get_default (yV X.prog X.w) a (zl0 ry) hd r) ⟨_,dd.mapOf,h _ _ (I.tok _) ?_⟩;rw[l];exact(rel.val k).getD rd
 .subst ey
  cases (show u=Am b from ry)
  let⟨z,hd,xs,rel,dd⟩:=zlg I.hok e;refine call_meetsIn D3 dd.typeIs FH (Ep _ _ _) (meetsH_dict_get_default (tupleKind (yV X.prog X.w)) a b hd r) ⟨Fq hu,k,xs,zhp I.hok eb,dd,h _ _ (I.tok _) ?_⟩;rw[l];exact(rel.val k).getD rd
end
def ydu(td ty tx:TE):TE:=λσ H Q=>td σ H λx H1=>∃a,x=.ref a/\IsD H1 a/\ty σ H1 λy H2=>tx σ H2 λz H3=>∃o,yfe H3 a y o/\Q (o.getD z) H3
section
variable {X:Cx}{o e f:AV}{apos cpos:C5}{td ty tx:TE}
theorem zkr(hu:X.A.units+1<cLine)(ho:PE X o td)(he:PE X e ty)(hf:PE X f tx)(m:M2 X o "get" apos e f cpos):PE X (.Call (.Attribute o "get" apos) [e,f] [] cpos) (ydu td ty tx):=by
 intro pins s σ H Q I h;refine wpAny_Call_method m.base m.few m.line PySem.F.plainAttrs_dict D3 PySem.F.type_dict_get (thn (ho pins s σ H _ I h) λu s1 kq=>?_);let⟨x,H1,I1,rx,a,ex,d,q1⟩:=kq;subst ex;obtain rfl:u=Am a:=rx;let⟨t1,t2,_⟩:=zny I1 d;refine⟨t1,t2,?_⟩;rw[m.trees];refine FG rfl (FY (EM (thn (he pins s1 σ H1 _ I1 q1) λiv s2 ⟨y,H2,I2,ry,q2⟩ =>
  EM (thn (hf pins s2 σ H2 _ I2 q2) λfv s3 ⟨z,H3,I3,rz,ov,g,q3⟩=>GB ?_))))
 exact znh hu I3 g ry rz λw' s4 I4 rw'=>⟨_,H3,I4,rw',q3⟩
end
section
variable {X:Cx}{pins:List (AI×CO)}{σ:St}{H:Hp}{s:AJ}{a:AI}{kvs:List (Key×V)}{A:Ay}{E:AG->AJ->Prop}
end
section
variable {X:Cx}{pins:List (AI×CO)}{σ:St}{H:Hp}{s:AJ}{a:AI}{y:V}{u:AG}{A:Ay}{E:AG->AJ->Prop}
end
end L2
namespace IC
open PySem
inductive PV where
 | non|bl (b:Bool)|int (i:Int)|str (x:AR)|tp (k:Bool) (xs:List PV)|lst (xs:List PV)|loc (n:Nat)|exn (c:Nat)|scr (xs:List PV)
deriving Inhabited
noncomputable abbrev PV.tup(xs:List PV):PV:=.tp AC xs
mutual
noncomputable def nL:PV->Bool
 | .loc _=>AC
 | .exn _=>AC
 | .tp _ xs=>nLs xs
 | .lst xs=>nLs xs
 | .scr xs=>nLs xs
 |_=>AB
noncomputable def nLs:List PV->Bool
 | []=>AB
 |x::xs=>nL x && nLs xs
end
mutual
noncomputable def shd(n:Nat):PV->Bool
 | .non=>AB
 | .bl _=>AB
 | .int _=>AB
 | .str x=>x.cps.all (· < 0x110000)
 | .tp _ xs=>decide (0<n) && ybQ (n - 1) xs
 | .lst xs=>decide (0<n) && ybQ (n - 1) xs
 |_=>AC
noncomputable def ybQ(n:Nat):List PV->Bool
 | []=>AB
 |x::xs=>shd n x && ybQ n xs
end
abbrev shp(v:PV):Bool:=shd 60 v
noncomputable def flat:PV->Bool
 | .non=>AB
 | .bl _=>AB
 | .int _=>AB
 | .str _=>AB
 |_=>AC
noncomputable def bi(b:Bool):Int:=if b then 1 else 0
mutual
noncomputable def peq:PV->PV->Bool
 | .non,.non=>AB
 | .bl a,.bl b=>a == b
 | .bl a,.int j=>bi a == j
 | .int i,.bl b=>i == bi b
 | .int i,.int j=>i == j
 | .str x,.str y=>x == y
 | .tp _ xs,.tp _ ys=>ybz xs ys
 | .lst xs,.lst ys=>ybz xs ys
 |_,_=>AC
noncomputable def ybz:List PV->List PV->Bool
 | [],[]=>AB
 |x::xs,y::ys=>peq x y && ybz xs ys
 |_,_=>AC
end
inductive Ob where
 | lst (xs:List PV)|dct (t:Bool) (kvs:List (PV×PV))|dead|ins (c:Nat) (fs:List (AR×PV))
noncomputable abbrev Env:=List (Option PV)
noncomputable abbrev SO:=List Ob
inductive R(α:Type) where
 | ok (a:α) (st:SO)|exc (c:Nat) (st:SO)|bad
noncomputable def R.bind{α β:Type}(r:R α)(k:α->SO->R β):R β :=
 match r with
 | .ok a st=>k a st
 | .exc c st=>.exc c st
 | .bad=>.bad
inductive BOp where
 | add|sub|mul|fdiv|mod|pow|shl|shr|band|bor|bxor
inductive COp where
 | eq|ne|lt|le|gt|ge|is|isnot|isin|notin
inductive Ty where
 | int|bool|str|tuple|list|cls (c:Nat)|val
inductive Blt where
 | len|int|abs|min|max|tuple|list|all|sum|dict|rev|str|any
inductive Mth where
 | append|extend|get|bits|upper|insert|count|index|join|split|sidx|clear
inductive Tg where
 | n (i:Nat)|t (l:List Nat)
set_option genInjectivity false
mutual
inductive Ce where
 | cst (v:PV)
 | var (i:Nat)
 | bin (o:BOp) (a b:Ce)
 | neg (a:Ce)
 | not (a:Ce)
 | and (a b:Ce)
 | or (a b:Ce)
 | cmp (o:COp) (a b:Ce)
 | chain (o p:COp) (a b c:Ce)
 | ite (c a b:Ce)
 | tup (es:Ces)
 | lst (es:Ces)
 | newl (es:Ces)
 | dict0 (t:Bool)
 | idx (a i:Ce)
 | slc (a:Ce) (lo hi:Ce)
 | call (f:Nat) (args:Ces)
 | blt (b:Blt) (args:Ces)
 | mth (m:Mth) (o:Ce) (args:Ces)
 | isi (a:Ce) (t:List Ty)
 | comp (sl:List (Option Nat)) (tg:Tg) (it:Cit) (c:Ce) (e:Ce)
 | frz (a:Ce)
 | nope
 | dix (D:List (AR×PV)) (a:Ce)
 | din (a:Ce) (D:List (AR×PV))
 | fld (c:Nat) (a:Ce) (f:AR)
 | new (c i:Nat) (es:Ces)
 | mcl (c i:Nat) (m:AR) (o:Ce) (es:Ces)
inductive Ces where
 | nil
 | cons (e:Ce) (es:Ces)
inductive Cit where
 | seq (e:Ce)
 | range1 (a:Ce)
 | range2 (a b:Ce)
 | rangeD (a b:Ce)
 | enum (e:Ce)
 | zip (a b:Ce)
 | revl (e:Ce)
 | revr (a:Ce)
 | chars (e:Ce)
end
set_option genInjectivity true
abbrev Ce.i(n:Int):Ce:=.cst (.int n)
abbrev Ce.s(x:AR):Ce:=.cst (.str x)
abbrev Ce.v:=Ce.var
abbrev Ces.k:=Ces.cons
abbrev Ces.e:=Ces.nil
mutual
inductive Cs where
 | expr (e:Ce)
 | asg (t:Tg) (e:Ce)
 | six (o i e:Ce)
 | dput (o i e:Ce)
 | aug (i:Nat) (o:BOp) (e:Ce)
 | ret (e:Ce)
 | ite (c:Ce) (a b:Css)
 | for (t:Tg) (it:Cit) (b:Css)
 | while (c:Ce) (b:Css)
 | nope
 | sfl (c:Nat) (o:Ce) (f:AR) (e:Ce)
 | mkr (i:Nat) (D:List (AR×Nat)) (n:Ce) (es:Ces)
inductive Css where
 | nil
 | cons (s:Cs) (ss:Css)
end
abbrev Css.k:=Css.cons
abbrev Css.e:=Css.nil
noncomputable def yaI(i j:Int):Bool:=(decide (i.natAbs<18446744073709551616)) || (decide (j.natAbs<18446744073709551616))
def binI(o:BOp)(i j:Int):Option PV :=
 match o with
 | .add=>AA (.int (i+j))
 | .sub=>AA (.int (i - j))
 | .mul=>if yaI i j then AA (.int (i*j))else AD
 | .fdiv=>if 0<j/\j<10000000000000000000000000000000000000000000000000000000000000000000000 then AA (.int (i / j))else AD
 | .mod=>if 0<j then AA (.int (i%j))else AD
 | .pow=>if 0<=j/\j<=1000000/\i.natAbs<18446744073709551616 then AA (.int (i^j.toNat))else AD
 | .shl=>if 0<=j/\j<=1000000/\i.natAbs<18446744073709551616 then AA (.int (i*2^j.toNat))else AD
 | .shr=>if 0<=j then AA (.int (i / 2^j.toNat))else AD
 | .band=>AA (.int (BR i j))
 | .bor=>AA (.int (Bd i j))
 | .bxor=>AA (.int (BB i j))
noncomputable def sizeMax:Nat:=16777216
noncomputable def yew(k:Bool)(a:List PV)(j:Bool)(b:List PV):PV:=if a.isEmpty then .tp j b else if b.isEmpty then .tp k a else .tup (a++b)
def yE(o:BOp)(x y:PV):Option PV :=
 match x,y with
 | .int i,.int j=>binI o i j
 | .int i,.bl b=>match o with
  | .add=>AA (.int (i+bi b))
  |_=>AD
 | .str a,.str b=>match o with
  | .add=>if a.length+b.length<=sizeMax then AA (.str (a++b))else AD
  |_=>AD
 | .tp k a,.tp j b=>match o with
  | .add=>if a.length+b.length<=sizeMax then AA (yew k a j b)else AD
  |_=>AD
 | .lst a,.lst b=>match o with
  | .add=>if a.length+b.length<=sizeMax then AA (.lst (a++b))else AD
  |_=>AD
 |_,_=>AD
def ybX(o:BOp)(x y:PV):Option PV :=
 match x,y with
 | .int i,.int j=>binI o i j
 |_,_=>AD
noncomputable def isNon:PV->Bool
 | .non=>AB
 |_=>AC
def inL(x:PV):List PV->Bool
 | []=>AC
 |y::ys=>peq y x || inL x ys
noncomputable def inS(a b:AR):Bool:=(Cq (b.length+1)).any λi=>decide (i+a.length<=b.length) && (b.cps.extract i (i+a.length) == a.cps)
noncomputable def ybM(o:COp)(i j:Int):Option PV :=
 match o with
 | .lt=>AA (.bl (decide (i<j)))
 | .le=>AA (.bl (decide (i<=j)))
 | .gt=>AA (.bl (decide (j<i)))
 | .ge=>AA (.bl (decide (j<=i)))
 |_=>AD
noncomputable def yeM(o:COp)(a b:AR):Option PV :=
 match o with
 | .lt=>AA (.bl (decide (a.cps.toList<b.cps.toList)))
 | .le=>AA (.bl (!decide (b.cps.toList<a.cps.toList)))
 |_=>AD
def yF(o:COp)(x y:PV):Option PV :=
 match o with
 | .eq=>if shp x && shp y then AA (.bl (peq x y))else AD
 | .ne=>if shp x && shp y then AA (.bl (!peq x y))else AD
 | .is=>match y with
  | .non=>AA (.bl (isNon x))
  | .bl b=>match x with
   | .bl a=>AA (.bl (a == b))
   |_=>AD
  |_=>AD
 | .isnot=>match y with
  | .non=>AA (.bl (!isNon x))
  | .bl b=>match x with
   | .bl a=>AA (.bl (!(a == b)))
   |_=>AD
  |_=>AD
 | .isin=>match x,y with
  | .str a,.str b=>AA (.bl (inS a b))
  |x,.tp _ l=>if flat x && l.all flat then AA (.bl (inL x l))else AD
  |x,.lst l=>if flat x && l.all flat then AA (.bl (inL x l))else AD
  |_,_=>AD
 | .notin=>match x,y with
  | .str a,.str b=>AA (.bl (!inS a b))
  |x,.tp _ l=>if flat x && l.all flat then AA (.bl (!inL x l))else AD
  |x,.lst l=>if flat x && l.all flat then AA (.bl (!inL x l))else AD
  |_,_=>AD
 |o=>match x,y with
  | .int i,.int j=>ybM o i j
  | .str a,.str b=>yeM o a b
  |_,_=>AD
def yaT(st:SO)(x:PV):Option Bool :=
 match x with
 | .non=>AA AC
 | .bl b=>AA b
 | .int i=>AA (i != 0)
 | .str y=>if y.length<=sizeMax then AA ((y.length:Int) != 0)else AD
 | .tp _ xs=>AA (!xs.isEmpty)
 | .lst xs=>AA (!xs.isEmpty)
 | .loc n=>match st[n]? with
  |some (.lst xs)=>AA (!xs.isEmpty)
  |_=>AD
 |_=>AD
noncomputable def ixI(n:Nat)(i:Int):Option Nat:=if 0<=i then(if i<n then AA i.toNat else AD)else if -(n:Int)<=i then AA (i+n).toNat else AD
def at?{α:Type}(xs:List α)(i:Int):Option α:=(ixI xs.length i).bind λj=>xs[j]?
def look(k:PV):List (PV×PV)->Option PV
 | []=>AD
 | (a,b)::r=>if peq a k then AA b else look k r
def put(k v:PV)(kvs:List (PV×PV)):List (PV×PV) :=
 if (kvs.any λp=>peq p.1 k)=AB then kvs.map (λp=>if peq p.1 k=AB then(p.1,v)else p)else kvs++[(k,v)]
noncomputable def ybS:PV->Bool
 | .int _=>AB
 | .str _=>AB
 |_=>AC
def isKey(t:Bool)(k:PV):Bool :=
 match t with
 |false=>ybS k
 |true=>match k with
  | .tp AC xs=>xs.all ybS
  |_=>AC
noncomputable def ybg{α:Type}(xs:List α)(i:PV):Option α :=
 match i with
 | .int k=>at? xs k
 |_=>AD
def idxV(st:SO)(x i:PV):Option PV :=
 match x with
 | .tp _ xs=>ybg xs i
 | .lst xs=>ybg xs i
 | .str s=>if s.length<=sizeMax then(ybg s.cps.toList i).map λc=>.str ⟨#[c]⟩else AD
 | .loc n=>match st[n]? with
  |some (.lst xs)=>ybg xs i
  |_=>AD
 |_=>AD
noncomputable def ybw(n:Nat)(v:Int):Nat:=if v<0 then(v+(n:Int)).toNat else min v.toNat n
def ycU(n:Nat)(lo:Option Int):Nat :=
 match lo with
 |none=>0
 |some i=>ybw n i
def yc8(n:Nat)(hi:Option Int):Nat :=
 match hi with
 |none=>n
 |some i=>ybw n i
def cut{α:Type}(xs:List α)(lo hi:Option Int):List α:=(xs.drop (ycU xs.length lo)).take (yc8 xs.length hi - ycU xs.length lo)
noncomputable def yb8:PV->Option (Option Int)
 | .non=>AA AD
 | .int i=>AA (AA i)
 |_=>AD
def ycB(x:PV)(a b:Option Int):Option PV :=
 match x with
 | .tp k xs=>if ycU xs.length a=0/\yc8 xs.length b=xs.length then AA (.tp k xs)else AA (.tup (cut xs a b))
 | .str s=>if s.length<=sizeMax then AA (.str ⟨(cut s.cps.toList a b).toArray⟩)else AD
 | .lst xs=>AA (.lst (cut xs a b))
 | .scr xs=>AA (.lst (cut xs a b))
 |_=>AD
def ycJ(x:PV)(a:Option Int)(hi:PV):Option PV :=
 match yb8 hi with
 |some b=>ycB x a b
 |none=>AD
noncomputable def ybI(x:PV)(t:Ty):Bool :=
 match x,t with
 | .int _,.int=>AB
 | .bl _,.int=>AB
 | .bl _,.bool=>AB
 | .str _,.str=>AB
 | .tp _ _,.tuple=>AB
 | .lst _,.list=>AB
 | .exn c,.cls d=>c == d
 | .exn _,.val=>AB
 |_,_=>AC
noncomputable def ydn:Ty->Bool
 | .cls _=>AC
 | .val=>AC
 |_=>AB
def ya1(x:PV)(ts:List Ty):Option PV :=
 match x with
 | .loc _=>AD
 | .scr _=>AD
 | .exn c=>if ts.all ydn then AD else AA (.bl (ts.any (ybI (.exn c))))
 |x=>match ts with
  | [t]=>if ydn t then AA (.bl (ybI x t))else AD
  |_=>AD
noncomputable def allB:List PV->Option Bool
 | []=>AA AB
 | .bl b::r=>match allB r with
  |some c=>AA (b && c)
  |none=>AD
 |_::_=>AD
noncomputable def ycI:List PV->Option Int
 | []=>AA 0
 | .int i::r=>match ycI r with
  |some c=>AA (i+c)
  |none=>AD
 |_::_=>AD
noncomputable def yde:List PV->Option Int
 | []=>AD
 | [.int i]=>AA i
 | .int i::r=>match yde r with
  |some c=>AA (if i<c then c else i)
  |none=>AD
 |_::_=>AD
noncomputable def yci(st:SO):PV->Option (List PV)
 | .tp _ xs=>AA xs
 | .lst xs=>AA xs
 | .loc n=>match st[n]? with
  |some (.lst xs)=>AA xs
  |_=>AD
 |_=>AD
noncomputable def yah(st:SO):PV->Option (List PV)
 | .lst xs=>AA xs
 | .loc n=>match st[n]? with
  |some (.lst xs)=>AA xs
  |_=>AD
 |_=>AD
def lenV(st:SO)(x:PV):Option PV :=
 match x with
 | .str s=>if s.length<=sizeMax then AA (.int s.length)else AD
 |x=>(yci st x).map λxs=>.int xs.length
def yfE(x:PV):Option PV :=
 match x with
 | .int i=>AA (.int i)
 | .bl k=>AA (.int (bi k))
 |_=>AD
noncomputable def yd4(x:PV):Option PV :=
 match x with
 | .int i=>AA (.int (if i<0 then -i else i))
 |_=>AD
noncomputable def yfn(x y:PV):Option PV :=
 match x,y with
 | .int i,.int j=>AA (.int (if j<i then j else i))
 |_,_=>AD
noncomputable def maxV(x y:PV):Option PV :=
 match x,y with
 | .int i,.int j=>AA (.int (if i<j then j else i))
 |_,_=>AD
def yfh(st:SO)(x:PV):Option PV :=
 match x with
 | .tp k xs=>AA (.tp k xs)
 |x=>(yah st x).map .tup
noncomputable def yep:PV->Option PV
 | .tp _ xs=>if xs.isEmpty then AD else AA (.tup xs.reverse)
 | .lst xs=>AA (.lst xs.reverse)
 |_=>AD
noncomputable def anyB:List PV->Option Bool
 | []=>AA AC
 | .bl b::r=>match anyB r with
  |some c=>AA (b || c)
  |none=>AD
 |_=>AD
noncomputable def anyI:List PV->Option Bool
 | []=>AA AC
 | .int i::r=>match anyI r with
  |some c=>AA ((i != 0) || c)
  |none=>AD
 |_=>AD
noncomputable def yfL:PV->Option PV
 | .int i=>if i=0 then AA (.str "0")else if i=1 then AA (.str "1")else AD
 |_=>AD
def yaD(b:Blt)(st:SO)(vs:List PV):Option PV :=
 match vs with
 | [x]=>match b with
  | .len=>lenV st x
  | .int=>yfE x
  | .abs=>yd4 x
  | .max=>(yah st x).bind λxs=>(yde xs).map .int
  | .tuple=>yfh st x
  | .list=>(yci st x).map .lst
  | .all=>(yah st x).bind λxs=>(allB xs).map .bl
  | .sum=>(yah st x).bind λxs=>(ycI xs).map .int
  | .rev=>yep x
  | .str=>yfL x
  | .any=>match x with
   | .tp _ xs=>(anyI xs).map .bl
   |x=>(yah st x).bind λxs=>(anyB xs).map .bl
  |_=>AD
 | [x,y]=>match b with
  | .min=>yfn x y
  | .max=>maxV x y
  |_=>AD
 |_=>AD
noncomputable def ybq(st:SO):PV->Option (Bool×List (PV×PV))
 | .loc n=>match st[n]? with
  |some (.dct t xs)=>AA (t,xs)
  |_=>AD
 |_=>AD
def ya3(m:Mth)(st:SO)(x:PV):Option Bool :=
 match m with
 | .append=>(yah st x).map λ_=>AB
 | .extend=>(yah st x).map λ_=>AB
 | .insert=>(yah st x).map λ_=>AB
 | .count=>(yah st x).map λ_=>AB
 | .index=>(yah st x).map λ_=>AB
 | .get=>(ybq st x).map λ_=>AB
 | .bits=>match x with
  | .int _=>AA AB
  |_=>AD
 | .upper=>match x with
  | .str _=>AA AB
  |_=>AD
 | .join=>match x with
  | .str _=>AA AB
  |_=>AD
 | .split=>match x with
  | .str _=>AA AB
  |_=>AD
 | .sidx=>match x with
  | .str _=>AA AB
  |_=>AD
 | .clear=>match x with
  | .loc n=>(yah st (.loc n)).map λ_=>AB
  |_=>AD
noncomputable def yeJ(st:SO)(o v:PV):R PV :=
 match o with
 | .loc n=>match st[n]? with
  |some (.lst xs)=>if xs.length<1000000 then .ok .non (st.set n (.lst (xs++[v])))else .bad
  |_=>.bad
 |_=>.bad
noncomputable def yfA(st:SO)(o v:PV):R PV :=
 match o with
 | .loc n=>match st[n]? with
  |some (.lst xs)=>match v with
   | .lst ys=>if xs.length+ys.length<=1000000 then .ok .non (st.set n (.lst (xs++ys)))else .bad
   |_=>.bad
  |_=>.bad
 |_=>.bad
noncomputable def yg3(st:SO)(o i v:PV):R PV :=
 match o with
 | .loc n=>match st[n]? with
  |some (.lst xs)=>match i with
   | .int k=>if 0<=k/\k<=xs.length/\xs.length<1000000 then .ok .non (st.set n (.lst (xs.take k.toNat++v::xs.drop k.toNat)))else .bad
   |_=>.bad
  |_=>.bad
 |_=>.bad
def ydU(st:SO)(o k d:PV):R PV :=
 match ybq st o with
 |some (t,kvs)=>if isKey t k then .ok ((look k kvs).getD d) st else .bad
 |none=>.bad
def yfx(st:SO)(o v:PV):R PV :=
 match yah st o with
 |some xs=>if flat v && xs.all flat then .ok (.int (xs.countP λy=>peq y v)) st else .bad
 |none=>.bad
def ydM(v:PV):List PV->Option Nat
 | []=>AD
 |y::ys=>if peq y v then AA 0 else(ydM v ys).map (·+1)
def yfM(st:SO)(o v:PV):R PV :=
 match yah st o with
 |some xs=>if flat v && xs.all flat then(match ydM v xs with
  |some j=>.ok (.int j) st
  |none=>.bad)else .bad
 |none=>.bad
noncomputable def upC(c:Nat):Nat:=if 97<=c/\c<=122 then c - 32 else c
def upS(s:AR):Str:=⟨(s.cps.toList.map upC).toArray⟩
noncomputable def ycd(c:Nat):List Nat->List (List Nat)
 | []=>[[]]
 |x::xs=>if x=c then []::ycd c xs else match ycd c xs with
  | []=>[[x]]
  |p::ps=>(x::p)::ps
noncomputable def strsOf:List PV->Option (List AR)
 | []=>AA []
 | .str s::r=>(strsOf r).map (s :: ·)
 |_=>AD
def yeI(st:SO)(o v:PV):R PV :=
 match o,yah st v with
 | .str s,AA xs=>match strsOf xs with
  |some ys=>if s.length<=10/\xs.length<=1000/\(ys.all λy=>decide (y.length<=1000))=AB then .ok (.str (Str.join s ys)) st else .bad
  |none=>.bad
 |_,_=>.bad
noncomputable def ygq(st:SO)(o:PV):R PV :=
 match o with
 | .loc n=>match st[n]? with
  |some (.lst _)=>.ok .non (st.set n (.lst []))
  |_=>.bad
 |_=>.bad
noncomputable def yec(st:SO)(o v:PV):R PV :=
 match o,v with
 | .str s,.str y=>if s=AF "01" then(if y=AF "0" then .ok (.int 0) st else if y=AF "1" then .ok (.int 1) st else .bad)else .bad
 |_,_=>.bad
def ydr(st:SO)(o v:PV):R PV :=
 match o,v with
 | .str s,.str y=>match y.cps.toList with
  | [c]=>if s.length<=100000 then .ok (.lst ((ycd c s.cps.toList).map λl=>.str ⟨l.toArray⟩)) st else .bad
  |_=>.bad
 |_,_=>.bad
def ycL(m:Mth)(st:SO)(o:PV)(vs:List PV):R PV :=
 match m,vs with
 | .append,[v]=>yeJ st o v
 | .extend,[v]=>yfA st o v
 | .insert,[i,v]=>yg3 st o i v
 | .get,[k,d]=>ydU st o k d
 | .count,[v]=>yfx st o v
 | .index,[v]=>yfM st o v
 | .join,[v]=>yeI st o v
 | .split,[v]=>ydr st o v
 | .sidx,[v]=>yec st o v
 | .clear,[]=>ygq st o
 | .bits,[]=>match o with
  | .int i=>.ok (.int (Builtin.Int.intBits i)) st
  |_=>.bad
 | .upper,[]=>match o with
  | .str s=>if s.cps.toList.all (· < 128)/\s.length<=1000000 then .ok (.str (upS s)) st else .bad
  |_=>.bad
 |_,_=>.bad
noncomputable def toR(o:Option PV)(st:SO):R PV :=
 match o with
 |some v=>.ok v st
 |none=>.bad
noncomputable def yO(t:Tg)(v:PV)(ρ:Env):Option Env :=
 match t,v with
 | .n i,v=>AA (ρ.set i (AA v))
 | .t l,.tp _ xs=>if l.length=xs.length then AA ((l.zip xs).foldl (λρ p=>ρ.set p.1 (AA p.2)) ρ)else AD
 |_,_=>AD
noncomputable def yG:Nat->List PV->List PV
 |_,[]=>[]
 |k,x::xs=>.tup [.int k,x]::yG (k+1) xs
noncomputable def yaY:List PV->List PV->List PV
 |x::xs,y::ys=>.tup [x,y]::yaY xs ys
 |_,_=>[]
noncomputable def ygD:PV->Option (List PV)
 | .tp _ xs=>AA xs.reverse
 | .lst xs=>AA xs.reverse
 |_=>AD
noncomputable def ydz:PV->Option (List PV)
 | .str s=>if s.length<=1000000 then AA (s.cps.toList.map λc=>.str ⟨#[c]⟩)else AD
 |_=>AD
def ydQ(x y:PV):Option (List PV) :=
 match x,y with
 | .tp _ xs,.tp _ ys=>if xs.length<=ys.length then AA (yaY xs ys)else AD
 |_,_=>AD
noncomputable def ya2(s:AR):List (AR×PV)->Option PV
 | []=>AD
 | (a,b)::r=>if decide (a=s)then AA b else ya2 s r
def ycH(D:List (AR×PV))(x:PV):Option PV :=
 match x with
 | .str s=>ya2 s D
 |_=>AD
def ycr(D:List (AR×PV))(x:PV):Option PV :=
 match x with
 | .str s=>AA (.bl (ya2 s D).isSome)
 |_=>AD
noncomputable def yr:Nat->Int->Int->List PV
 |0,_,_=>[]
 |n+1,a,d=>.int a::yr n (a+d) d
def yb3(x:PV):Option (List PV) :=
 match x with
 | .int j=>if j.natAbs<1000000000 then AA (yr j.toNat 0 1)else AD
 |_=>AD
def ygF(x:PV):Option (List PV) :=
 match x with
 | .int j=>if 0<=j/\j<1000000000 then AA (yr j.toNat (j - 1) (-1))else AD
 |_=>AD
def ygJ(x y:PV):Option (List PV) :=
 match x,y with
 | .int i,.int j=>if i.natAbs<1000000000/\j.natAbs<1000000000 then AA (yr (j - i).toNat i 1)else AD
 |_,_=>AD
def yfT(x y:PV):Option (List PV) :=
 match x,y with
 | .int i,.int j=>if i.natAbs<1000000000/\j.natAbs<1000000000 then AA (yr (i - j).toNat i (-1))else AD
 |_,_=>AD
noncomputable def toL(o:Option (List PV))(st:SO):R (List PV) :=
 match o with
 |some v=>.ok v st
 |none=>.bad
noncomputable def ydP(v:PV)(st:SO):R PV :=
 match v with
 | .loc n=>match st[n]? with
  |some (.lst xs)=>.ok (.lst xs) (st.set n .dead)
  |_=>.bad
 |v=>.ok v st
noncomputable def mkV(D:List (AR×Nat))(b:Bool)(x:PV):Option Nat :=
 match x with
 | .str s=>if b then D.lookup s else AD
 |_=>AD
noncomputable def yba(c:Nat)(st:SO)(x:PV)(f:AR):Option PV :=
 match x with
 | .loc n=>match st[n]? with
  |some (.ins d fs)=>if d=c then fs.lookup f else AD
  |_=>AD
 |_=>AD
noncomputable def ybY(f:AR)(v:PV):List (AR×PV)->List (AR×PV)
 | []=>[(f,v)]
 | (g,x)::r=>if g=f then(g,v)::r else(g,x)::ybY f v r
def ybc(c:Nat)(st:SO)(x:PV)(f:AR)(v:PV):Option SO :=
 match x with
 | .loc n=>match st[n]? with
  |some (.ins d fs)=>if d=c/\fs.length<1000 then AA (st.set n (.ins c (ybY f v fs)))else AD
  |_=>AD
 |_=>AD
noncomputable def ycb(c:Nat)(m:AR)(st:SO)(x:PV):Option Bool :=
 match x with
 | .loc n=>match st[n]? with
  |some (.ins d fs)=>if d=c/\fs.lookup m=AD then AA AB else AD
  |_=>AD
 |_=>AD
noncomputable def newV(n:Nat)(v:PV)(st:SO):R PV :=
 match v with
 | .non=>.ok (.loc n) st
 |_=>.bad
noncomputable def ybJ(r:R PV):R PV :=
 match r with
 | .ok v st=>.ok v st
 |_=>.bad
inductive Fl where
 | nx (ρ:Env) (st:SO)|rt (v:PV) (st:SO)|bk (ρ:Env) (st:SO)|ct (ρ:Env) (st:SO)|exc (c:Nat) (ρ:Env) (st:SO)|bad
noncomputable def onBl{α:Type}(x:PV)(k:Bool->R α):R α :=
 match x with
 | .bl b=>k b
 |_=>.bad
noncomputable def onO{α:Type}(o:Option Bool)(k:Bool->R α):R α :=
 match o with
 |some b=>k b
 |none=>.bad
noncomputable def onF(o:Option Bool)(k:Bool->Fl):Fl :=
 match o with
 |some b=>k b
 |none=>.bad
noncomputable def onP{α:Type}(o:Option (Option Int))(k:Option Int->R α):R α :=
 match o with
 |some b=>k b
 |none=>.bad
noncomputable def blO(o:Option PV):Option Bool :=
 match o with
 |some (.bl b)=>AA b
 |_=>AD
noncomputable def ycf(o:Option PV)(ys:List PV):List PV :=
 match o with
 |some y=>y::ys
 |none=>ys
def ya4(one:PV->SO->R (Option PV)):List PV->SO->R (List PV)
 | [],st=>.ok [] st
 |x::xs,st=>(one x st).bind λo st1=>(ya4 one xs st1).bind λys st2=>.ok (ycf o ys) st2
noncomputable def ycg(r:R (List PV)):R PV :=
 match r with
 | .ok ys st=>if ys.length<=1000000 then .ok (.lst ys) st else .bad
 |_=>.bad
mutual
noncomputable def ev(call:Nat->List PV->SO->R PV)(ρ:Env)(st:SO):Ce->R PV
 | .cst v=>.ok v st
 | .var i=>match ρ[i]? with
  |some (AA v)=>.ok v st
  |_=>.bad
 | .bin o a b=>(ev call ρ st a).bind λx st1=>(ev call ρ st1 b).bind λy st2=>toR (yE o x y) st2
 | .neg a=>(ev call ρ st a).bind λx st1=>match x with
  | .int i=>.ok (.int (-i)) st1
  |_=>.bad
 | .not a=>(ev call ρ st a).bind λx st1=>onBl x λk=>.ok (.bl (!k)) st1
 | .and a b=>(ev call ρ st a).bind λx st1=>onBl x λk=>cond k (ev call ρ st1 b) (.ok (.bl AC) st1)
 | .or a b=>(ev call ρ st a).bind λx st1=>onBl x λk=>cond k (.ok (.bl AB) st1) (ev call ρ st1 b)
 | .cmp o a b=>(ev call ρ st a).bind λx st1=>(ev call ρ st1 b).bind λy st2=>toR (yF o x y) st2
 | .chain o p a b c=>(ev call ρ st a).bind λx st1=>(ev call ρ st1 b).bind λy st2=>onO (blO (yF o x y)) λk=>cond k ((ev call ρ st2 c).bind λz st3=>toR (yF p y z) st3) (.ok (.bl AC) st2)
 | .ite c a b=>(ev call ρ st c).bind λx st1=>onO (yaT st1 x) λk=>cond k (ev call ρ st1 a) (ev call ρ st1 b)
 | .tup es=>(evs call ρ st es).bind λvs st1=>if vs.length<=sizeMax then .ok (.tup vs) st1 else .bad
 | .lst es=>(evs call ρ st es).bind λvs st1=>if vs.length<=sizeMax then .ok (.lst vs) st1 else .bad
 | .newl es=>(evs call ρ st es).bind λvs st1=>if vs.length<=sizeMax then .ok (.loc st1.length) (st1++[.lst vs])else .bad
 | .dict0 t=>.ok (.loc st.length) (st++[.dct t []])
 | .idx a i=>(ev call ρ st a).bind λx st1=>(ev call ρ st1 i).bind λy st2=>toR (idxV st2 x y) st2
 | .slc a l h=>(ev call ρ st a).bind λx st1=>(ev call ρ st1 l).bind λy st2=>onP (yb8 y) λo=>(ev call ρ st2 h).bind λz st3=>toR (ycJ x o z) st3
 | .call f es=>(evs call ρ st es).bind λvs st1=>call f vs st1
 | .blt b es=>(evs call ρ st es).bind λvs st1=>toR (yaD b st1 vs) st1
 | .mth m o es=>(ev call ρ st o).bind λx st1=>onO (ya3 m st1 x) λ_=>(evs call ρ st1 es).bind λvs st2=>ycL m st2 x vs
 | .isi a ts=>(ev call ρ st a).bind λx st1=>toR (ya1 x ts) st1
 | .comp sl tg it c e=>(evi call ρ st it).bind λxs st1 =>
  let ρ0:Env:=sl.map λo=>o.bind λj=>(ρ[j]?).join
  ycg (ya4 (λx st2=>match yO tg x ρ0 with
   |none=>.bad
   |some ρ1=>(ev call ρ1 st2 c).bind λb st3=>onO (yaT st3 b) λk=>cond k ((ev call ρ1 st3 e).bind λy st4=>.ok (AA y) st4) (.ok AD st3)) xs st1)
 | .nope=>.bad
 | .frz a=>(ev call ρ st a).bind λx st1=>ydP x st1
 | .dix D a=>(ev call ρ st a).bind λx st1=>toR (ycH D x) st1
 | .din a D=>(ev call ρ st a).bind λx st1=>toR (ycr D x) st1
 | .fld c a f=>(ev call ρ st a).bind λx st1=>toR (yba c st1 x f) st1
 | .new c i es=>(evs call ρ st es).bind λvs st1=>(ybJ (call i (.loc st1.length::vs) (st1++[.ins c []]))).bind λv st2=>newV st1.length v st2
 | .mcl c i m o es=>(ev call ρ st o).bind λx st1=>onO (ycb c m st1 x) λ_=>(evs call ρ st1 es).bind λvs st2=>call i (x::vs) st2
noncomputable def evs(call:Nat->List PV->SO->R PV)(ρ:Env)(st:SO):Ces->R (List PV)
 | .nil=>.ok [] st
 | .cons e es=>(ev call ρ st e).bind λv st1=>(evs call ρ st1 es).bind λvs st2=>.ok (v::vs) st2
noncomputable def evi(call:Nat->List PV->SO->R PV)(ρ:Env)(st:SO):Cit->R (List PV)
 | .seq e=>(ev call ρ st e).bind λv st1=>match v with
  | .tp _ xs=>.ok xs st1
  | .lst xs=>.ok xs st1
  |_=>.bad
 | .range1 a=>(ev call ρ st a).bind λx st1=>toL (yb3 x) st1
 | .range2 a b=>(ev call ρ st a).bind λx st1=>(ev call ρ st1 b).bind λy st2=>toL (ygJ x y) st2
 | .rangeD a b=>(ev call ρ st a).bind λx st1=>(ev call ρ st1 b).bind λy st2=>toL (yfT x y) st2
 | .enum e=>(ev call ρ st e).bind λv st1=>match v with
  | .tp _ xs=>.ok (yG 0 xs) st1
  |_=>.bad
 | .zip a b=>(ev call ρ st a).bind λx st1=>(ev call ρ st1 b).bind λy st2=>toL (ydQ x y) st2
 | .revl e=>(ev call ρ st e).bind λv st1=>toL (ygD v) st1
 | .revr a=>(ev call ρ st a).bind λx st1=>toL (ygF x) st1
 | .chars e=>(ev call ρ st e).bind λv st1=>toL (ydz v) st1
end
noncomputable def R.fl{α:Type}(r:R α)(ρ:Env)(k:α->SO->Fl):Fl :=
 match r with
 | .ok a st=>k a st
 | .exc c st=>.exc c ρ st
 | .bad=>.bad
noncomputable def yaK(f:Fl)(k:Env->SO->Fl):Fl :=
 match f with
 | .nx ρ st=>k ρ st
 | .ct ρ st=>k ρ st
 | .bk ρ st=>.nx ρ st
 |f=>f
def forL(t:Tg)(body:Env->SO->Fl):List PV->Env->SO->Fl
 | [],ρ,st=>.nx ρ st
 |x::xs,ρ,st=>match yO t x ρ with
  |none=>.bad
  |some ρ1=>yaK (body ρ1 st) λρ2 st2=>forL t body xs ρ2 st2
def yaw(test:Env->SO->R PV)(body:Env->SO->Fl):Nat->Env->SO->Fl
 |0,_,_=>.bad
 |n+1,ρ,st=>(test ρ st).fl ρ λx st1=>onF (yaT st1 x) λk=>cond k (yaK (body ρ st1) λρ2 st2=>yaw test body n ρ2 st2) (.nx ρ st1)
def ybD(st:SO)(o i v:PV):Option SO :=
 match o with
 | .loc n=>match st[n]? with
  |some (.lst xs)=>match i with
   | .int k=>match ixI xs.length k with
    |some j=>AA (st.set n (.lst (xs.set j v)))
    |none=>AD
   |_=>AD
  |_=>AD
 |_=>AD
def ybp(st:SO)(o i v:PV):Option SO :=
 match o with
 | .loc n=>match st[n]? with
  |some (.dct t kvs)=>if isKey t i/\kvs.length<1000000 then AA (st.set n (.dct t (put i v kvs)))else AD
  |_=>AD
 |_=>AD
mutual
noncomputable def ex(call:Nat->List PV->SO->R PV)(ρ:Env)(st:SO):Cs->Fl
 | .expr e=>(ev call ρ st e).fl ρ λ_ st1=>.nx ρ st1
 | .asg t e=>(ev call ρ st e).fl ρ λv st1=>match yO t v ρ with
  |some ρ1=>.nx ρ1 st1
  |none=>.bad
 | .six o i e=>(ev call ρ st e).fl ρ λv st1=>(ev call ρ st1 o).fl ρ λx st2=>(ev call ρ st2 i).fl ρ λy st3=>match ybD st3 x y v with
  |some st4=>.nx ρ st4
  |none=>.bad
 | .dput o i e=>(ev call ρ st e).fl ρ λv st1=>(ev call ρ st1 o).fl ρ λx st2=>(ev call ρ st2 i).fl ρ λy st3=>match ybp st3 x y v with
  |some st4=>.nx ρ st4
  |none=>.bad
 | .aug i o e=>match ρ[i]? with
  |some (AA x)=>(ev call ρ st e).fl ρ λy st1=>match ybX o x y with
   |some z=>.nx (ρ.set i (AA z)) st1
   |none=>.bad
  |_=>.bad
 | .ret e=>(ev call ρ st e).fl ρ λv st1=>.rt v st1
 | .ite c a b=>(ev call ρ st c).fl ρ λx st1=>onF (yaT st1 x) λk=>cond k (exs call ρ st1 a) (exs call ρ st1 b)
 | .for t it b=>(evi call ρ st it).fl ρ λxs st1=>forL t (λρ2 st2=>exs call ρ2 st2 b) xs ρ st1
 | .while c b=>yaw (λρ2 st2=>ev call ρ2 st2 c) (λρ2 st2=>exs call ρ2 st2 b) 100000 ρ st
 | .nope=>.bad
 | .mkr i D n es=>(ev call ρ st n).fl ρ λx st1=>match mkV D (decide (i<ρ.length)) x with
  |some j=>((evs call (ρ.set i AD) st1 es).bind λvs st2=>call j vs st2).fl (ρ.set i AD) λv st3=>.rt v st3
  |none=>.bad
 | .sfl c o f e=>(ev call ρ st e).fl ρ λv st1=>(ev call ρ st1 o).fl ρ λx st2=>match ybc c st2 x f v with
  |some st3=>.nx ρ st3
  |none=>.bad
noncomputable def exs(call:Nat->List PV->SO->R PV)(ρ:Env)(st:SO):Css->Fl
 | .nil=>.nx ρ st
 | .cons s ss=>match ex call ρ st s with
  | .nx ρ1 st1=>exs call ρ1 st1 ss
  |f=>f
end
structure Fn where
 np:Nat
 ns:Nat
 pure:Bool
 body:Css
def yc(T:Nat->Option Fn):Nat->Nat->List PV->SO->R PV
 |0,_,_,_=>.bad
 |k+1,f,args,st=>match T f with
  |none=>.bad
  |some fn=>if args.length=fn.np then
    if fn.pure then
     if nLs args then match exs (yc T k) (args.map AA++BG (fn.ns - fn.np) AD) [] fn.body with
      | .rt v _=>if nL v then .ok v st else .bad
      | .nx _ _=>.ok .non st
      | .exc c _ _=>.exc c st
      |_=>.bad
     else .bad
    else match exs (yc T k) (args.map AA++BG (fn.ns - fn.np) AD) st fn.body with
     | .rt v st1=>.ok v st1
     | .nx _ st1=>.ok .non st1
     | .exc c _ st1=>.exc c st1
     |_=>.bad
   else .bad
noncomputable def yo:List (Sum Ce Int)->Ces
 | []=>.nil
 | .inl c::r=>.cons c (yo r)
 | .inr i::r=>.cons (.cst (.int i)) (yo r)
noncomputable def yW:Ces->Ces->Ces
 | .nil,b=>b
 | .cons e r,b=>.cons e (yW r b)
end IC
namespace L2
open PySem PySem.Spec PyProof.Rows IC
noncomputable abbrev Ph:=List (Option AI)
section
variable (K:AE)(cl:Nat->AI)(B:AI->Prop)(φ:Ph)(H:Hp)
def yb2(k:Bool)(a:AI)(xs:List V):Prop:=(H a=AA (.tup xs)/\¬B a/\AA a∉φ) \/
 k=AB/\∃(o:CO) (its:Array AG) (n:Nat),K.lookup a=AA o/\o.cls=.type "tuple"/\o.data=.seq its n/\its.size<=sizeLine/\Vals xs its.toList
def yc3(a:AI)(xs:List V):Prop:=H a=AA (.lst xs)/\¬B a/\AA a∉φ
def ydT(a:AI)(xs:List V):Prop:=(Rd H a (.lst xs)/\¬B a/\AA a∉φ) \/
 ∃(o:CO) (its:Array AG) (n:Nat),K.lookup a=AA o/\o.cls=.type "list"/\o.dict=AD/\o.data=.seq its n/\its.size<=sizeLine/\Vals xs its.toList
mutual
noncomputable def yd:PV->V->Prop
 | .non,x=>x=.non
 | .bl b,x=>x=.bl b
 | .int i,x=>x=.int i
 | .str s,x=>x=.str s
 | .tp k vs,x=>∃a xs,x=.ref a/\yb2 K B φ H k a xs/\yg vs xs
 | .lst vs,x=>∃a xs,x=.ref a/\yc3 B φ H a xs/\yg vs xs
 | .loc n,x=>n<φ.length/\∃a,x=.ref a/\∀b,φ[n]?=AA (AA b)->b=a
 | .exn c,x=>∃a,x=.ref a/\H a=AA (.ext (ygW a (cl c)))/\¬B a/\AA a∉φ
 | .scr vs,x=>∃a xs,x=.ref a/\ydT K B φ H a xs/\yg vs xs
noncomputable def yg:List PV->List V->Prop
 | [],xs=>xs=[]
 |v::vs,xs=>∃y ys,xs=y::ys/\yd v y/\yg vs ys
end
noncomputable def yaN:Key->PV
 | .inl i=>.int i
 | .inr y=>.str y
def DK:List (PV×PV)->List (Key×V)->Prop
 | [],ks=>ks=[]
 | (k,v)::r,ks=>∃q x s,ks=(q,x)::s/\k=yaN q/\yd K cl B φ H v x/\DK r s
def DT:List (PV×PV)->List (List Key×V)->Prop
 | [],ks=>ks=[]
 | (k,v)::r,ks=>∃q x s,ks=(q,x)::s/\k=.tup (q.map yaN)/\yd K cl B φ H v x/\DT r s
def FS:List (AR×PV)->List (AR×V)->Prop
 | [],ks=>ks=[]
 | (k,v)::r,ks=>∃x s,ks=(k,x)::s/\yd K cl B φ H v x/\FS r s
def yct:Ob->AI->Prop
 | .lst vs,a=>∃xs,H a=AA (.lst xs)/\yg K cl B φ H vs xs
 | .dct AC kvs,a=>∃ks,H a=AA (.dK ks)/\DK K cl B φ H kvs ks
 | .dct AB kvs,a=>∃ks,H a=AA (.dT ks)/\DT K cl B φ H kvs ks
 | .dead,_=>False
 | .ins c fs,a=>∃ks,(∃dx,H a=AA (.ins (cl c) dx ks))/\FS K cl B φ H fs ks
structure yD(st:SO):Prop where
 len:φ.length=st.length
 inj:∀(m n:Nat) (a:AI),φ[m]?=AA (AA a)->φ[n]?=AA (AA a)->m=n
 obj:∀(n:Nat) (a:AI),φ[n]?=AA (AA a)->∃o,st[n]?=AA o/\yct K cl B φ H o a
 liv:∀(n:Nat) (o:Ob),st[n]?=AA o->o ≠ .dead->∃a,φ[n]?=AA (AA a)
 nb:∀a,AA a∈φ->¬B a
 dom:∀a,B a->∃o,H a=AA o
structure yQ(ρ:IC.Env)(σ:St):Prop where
 len:ρ.length=σ.length
 get:∀(i:Nat) (v:PV),ρ[i]?=AA (AA v)->∃x,σ[i]?=AA (AA x)/\yd K cl B φ H v x
end
structure Step(φ:Ph)(H:Hp)(φ':Ph)(H':Hp):Prop where
 keep:∀b o,AA b∉φ->H b=AA o->H' b=AA o
 len:φ.length<=φ'.length
 pre:∀(n:Nat) (a:AI),n<φ.length->φ'[n]?=AA (AA a)->φ[n]?=AA (AA a)
 new:∀b,AA b∈φ'->AA b∈φ \/ H b=AD
theorem Step.rfl{φ:Ph}{H:Hp}:Step φ H φ H:=⟨λ_ _ _ e=>e,AS _,λ_ _ _ e=>e,λ_ h=>.inl h⟩
theorem Step.trans{φ φ1 φ2:Ph}{H H1 H2:Hp}(s:Step φ H φ1 H1)(t:Step φ1 H1 φ2 H2):Step φ H φ2 H2:=by
 refine⟨λb o n e=>?_,B9 s.len t.len,λn a hn e=>s.pre n a hn (t.pre n a (A6 hn s.len) e),λb hb=>?_⟩
 .refine t.keep b o (λh=>?_) (s.keep b o n e);rcases s.new b h with q|q
  .exact n q
  .rw[e]at q;cases q
 .rcases t.new b hb with q|q
  .exact s.new b q
  .by_cases h:AA b∈φ
   .exact .inl h
   .refine .inr ?_
    cases e:H b with
    |none=>exact DW _
    |some o=>rw[s.keep b o h e]at q;cases q
section
variable {K:AE}{cl:Nat->AI}{B:AI->Prop}{φ φ':Ph}{H H':Hp}{st:SO}{ρ:IC.Env}{σ:St}
theorem Rd.step(s:Step φ H φ' H'){a:AI}{u:HO}(n:AA a∉φ)(r:Rd H a u):Rd H' a u/\AA a∉φ':=by
 have h:∃o,H a=AA o:=by
  rcases r with r|⟨o,r⟩<;>exact⟨_,r⟩
 refine⟨?_,λz=>?_⟩
 .rcases r with r|⟨o,r⟩
  .exact .inl (s.keep _ _ n r)
  .exact .inr ⟨o,s.keep _ _ n r⟩
 .let⟨o,e⟩:=h;rcases s.new a z with q|q
  .exact n q
  .rw[e]at q;cases q
theorem yb2.step(s:Step φ H φ' H'){k:Bool}{a:AI}{xs:List V}(r:yb2 K B φ H k a xs):yb2 K B φ' H' k a xs:=by
 rcases r with⟨r,b,n⟩|r
 .let⟨_,n'⟩:=(Rd.of r).step s n;exact .inl ⟨s.keep _ _ n r,b,n'⟩
 .exact .inr r
theorem yc3.step(s:Step φ H φ' H'){a:AI}{xs:List V}(r:yc3 B φ H a xs):yc3 B φ' H' a xs:=by
 let⟨r,b,n⟩:=r;let⟨_,n'⟩:=(Rd.of r).step s n;exact⟨s.keep _ _ n r,b,n'⟩
theorem ydT.step(s:Step φ H φ' H'){a:AI}{xs:List V}(r:ydT K B φ H a xs):ydT K B φ' H' a xs:=by
 rcases r with⟨r,b,n⟩|r
 .let⟨r',n'⟩:=r.step s n;exact .inl ⟨r',b,n'⟩
 .exact .inr r
mutual
theorem yd.step(s:Step φ H φ' H'):∀(v:PV) (x:V),yd K cl B φ H v x->yd K cl B φ' H' v x
 | .non,x,h=>by erw[yd]at h ⊢;exact h
 | .bl b,x,h=>by erw[yd]at h ⊢;exact h
 | .int i,x,h=>by erw[yd]at h ⊢;exact h
 | .str y,x,h=>by erw[yd]at h ⊢;exact h
 | .tp k vs,x,h=>by
  erw[yd]at h ⊢;let⟨a,xs,e,r,l⟩:=h;exact⟨a,xs,e,r.step s,yg.step s vs xs l⟩
 | .lst vs,x,h=>by
  erw[yd]at h ⊢;let⟨a,xs,e,r,l⟩:=h;exact⟨a,xs,e,r.step s,yg.step s vs xs l⟩
 | .loc n,x,h=>by
  erw[yd]at h ⊢;let⟨h1,a,e,h2⟩:=h;exact⟨A6 h1 s.len,a,e,λb q=>h2 b (s.pre n b h1 q)⟩
 | .exn c,x,h=>by
  erw[yd]at h ⊢;let⟨a,e,r,b,n⟩:=h;let⟨_,n'⟩:=(Rd.of r).step s n;exact⟨a,e,s.keep _ _ n r,b,n'⟩
 | .scr vs,x,h=>by
  erw[yd]at h ⊢;let⟨a,xs,e,r,l⟩:=h;exact⟨a,xs,e,r.step s,yg.step s vs xs l⟩
theorem yg.step(s:Step φ H φ' H'):∀(v:List PV) (x:List V),yg K cl B φ H v x->yg K cl B φ' H' v x
 | [],x,h=>by erw[yg]at h ⊢;exact h
 |v::vs,x,h=>by
  erw[yg]at h ⊢;let⟨y,ys,e,r,l⟩:=h;exact⟨y,ys,e,yd.step s v y r,yg.step s vs ys l⟩
end
theorem yQ.step(s:Step φ H φ' H')(r:yQ K cl B φ H ρ σ):yQ K cl B φ' H' ρ σ:=⟨r.len,λi v e=>by
 let⟨x,h,q⟩:=r.get i v e;exact⟨x,h,q.step s⟩⟩
mutual
theorem yd.inn(hn:∀a,AA a∈φ->¬B a):∀(v:PV) (x:V),nL v=AB->yd K cl B φ H v x->yd K cl (λa=>B a \/ AA a∈φ) [] H v x
 | .non,x,_,h=>by erw[yd]at h ⊢;exact h
 | .bl b,x,_,h=>by erw[yd]at h ⊢;exact h
 | .int i,x,_,h=>by erw[yd]at h ⊢;exact h
 | .str y,x,_,h=>by erw[yd]at h ⊢;exact h
 | .tp k vs,x,q,h=>by
  erw[yd]at h ⊢;let⟨a,xs,e,r,l⟩:=h;refine⟨a,xs,e,?_,yg.inn hn vs xs (by simpa only[nL] using q) l⟩;rcases r with⟨r,b,n⟩|r
  .exact .inl ⟨r,λz=>z.elim b n,by simp⟩
  .exact .inr r
 | .lst vs,x,q,h=>by
  erw[yd]at h ⊢;let⟨a,xs,e,⟨r,b,n⟩,l⟩:=h;exact⟨a,xs,e,⟨r,λz=>z.elim b n,by simp⟩,yg.inn hn vs xs (by simpa only[nL] using q) l⟩
 | .loc n,x,q,h=>by simp[nL]at q
 | .exn c,x,q,h=>by simp[nL]at q
 | .scr vs,x,q,h=>by
  erw[yd]at h ⊢;let⟨a,xs,e,r,l⟩:=h;refine⟨a,xs,e,?_,yg.inn hn vs xs (by simpa only[nL] using q) l⟩;rcases r with⟨r,b,n⟩|r
  .exact .inl ⟨r,λz=>z.elim b n,by simp⟩
  .exact .inr r
theorem yg.inn(hn:∀a,AA a∈φ->¬B a):∀(v:List PV) (x:List V),nLs v=AB->yg K cl B φ H v x->yg K cl (λa=>B a \/ AA a∈φ) [] H v x
 | [],x,_,h=>by erw[yg]at h ⊢;exact h
 |v::vs,x,q,h=>by
  erw[yg]at h ⊢;erw[nLs,AK]at q;let⟨y,ys,e,r,l⟩:=h;exact⟨y,ys,e,yd.inn hn v y q.1 r,yg.inn hn vs ys q.2 l⟩
end
mutual
theorem yd.out{ψ:Ph}:∀(v:PV) (x:V),nL v=AB->yd K cl (λa=>B a \/ AA a∈φ) ψ H v x->yd K cl B φ H v x
 | .non,x,_,h=>by erw[yd]at h ⊢;exact h
 | .bl b,x,_,h=>by erw[yd]at h ⊢;exact h
 | .int i,x,_,h=>by erw[yd]at h ⊢;exact h
 | .str y,x,_,h=>by erw[yd]at h ⊢;exact h
 | .tp k vs,x,q,h=>by
  erw[yd]at h ⊢;let⟨a,xs,e,r,l⟩:=h;refine⟨a,xs,e,?_,yg.out vs xs (by simpa only[nL] using q) l⟩;rcases r with⟨r,b,n⟩|r
  .exact .inl ⟨r,λz=>b (.inl z),λz=>b (.inr z)⟩
  .exact .inr r
 | .lst vs,x,q,h=>by
  erw[yd]at h ⊢;let⟨a,xs,e,⟨r,b,n⟩,l⟩:=h;exact⟨a,xs,e,⟨r,λz=>b (.inl z),λz=>b (.inr z)⟩,yg.out vs xs (by simpa only[nL] using q) l⟩
 | .loc n,x,q,h=>by simp[nL]at q
 | .exn c,x,q,h=>by simp[nL]at q
 | .scr vs,x,q,h=>by
  erw[yd]at h ⊢;let⟨a,xs,e,r,l⟩:=h;refine⟨a,xs,e,?_,yg.out vs xs (by simpa only[nL] using q) l⟩;rcases r with⟨r,b,n⟩|r
  .exact .inl ⟨r,λz=>b (.inl z),λz=>b (.inr z)⟩
  .exact .inr r
theorem yg.out{ψ:Ph}:∀(v:List PV) (x:List V),nLs v=AB->yg K cl (λa=>B a \/ AA a∈φ) ψ H v x->yg K cl B φ H v x
 | [],x,_,h=>by erw[yg]at h ⊢;exact h
 |v::vs,x,q,h=>by
  erw[yg]at h ⊢;erw[nLs,AK]at q;let⟨y,ys,e,r,l⟩:=h;exact⟨y,ys,e,yd.out v y q.1 r,yg.out vs ys q.2 l⟩
end
theorem yg.length:∀{v:List PV} {x:List V},yg K cl B φ H v x->v.length=x.length
 | [],x,h=>by erw[yg]at h;subst h;rfl
 |v::vs,x,h=>by
  erw[yg]at h;let⟨y,ys,rfl,_,l⟩:=h;simp[yg.length l]
theorem DK.step(s:Step φ H φ' H'):∀{kvs:List (PV×PV)} {ks:List (Key×V)},DK K cl B φ H kvs ks->DK K cl B φ' H' kvs ks
 | [],ks,h=>h
 | (k,v)::r,ks,h=>by
  let⟨q,x,t,e,m,rv,l⟩:=h;exact⟨q,x,t,e,m,rv.step s,DK.step s l⟩
theorem DT.step(s:Step φ H φ' H'):∀{kvs:List (PV×PV)} {ks:List (List Key×V)},DT K cl B φ H kvs ks->DT K cl B φ' H' kvs ks
 | [],ks,h=>h
 | (k,v)::r,ks,h=>by
  let⟨q,x,t,e,m,rv,l⟩:=h;exact⟨q,x,t,e,m,rv.step s,DT.step s l⟩
theorem FS.step(s:Step φ H φ' H'):∀{kvs:List (AR×PV)} {ks:List (AR×V)},FS K cl B φ H kvs ks->FS K cl B φ' H' kvs ks
 | [],ks,h=>h
 | (k,v)::r,ks,h=>by
  let⟨x,t,e,rv,l⟩:=h;exact⟨x,t,e,rv.step s,FS.step s l⟩
theorem yct.step(s:Step φ H φ' H'){o:Ob}{a:AI}(e:H' a=H a)(r:yct K cl B φ H o a):yct K cl B φ' H' o a:=by
 cases o with
 |lst vs =>
  let⟨xs,q,l⟩:=r;exact⟨xs,e.trans q,l.step s⟩
 |dct t kvs =>
  cases t with
  |false=>let⟨ks,q,l⟩:=r;exact⟨ks,e.trans q,l.step s⟩
  |true=>let⟨ks,q,l⟩:=r;exact⟨ks,e.trans q,l.step s⟩
 |dead=>exact r
 |ins c fs=>let⟨ks,⟨dx,q⟩,l⟩:=r;exact⟨ks,⟨dx,e.trans q⟩,l.step s⟩
theorem yct.there{o:Ob}{a:AI}(r:yct K cl B φ H o a):∃u,H a=AA u:=by
 cases o with
 |lst vs=>let⟨xs,q,l⟩:=r;exact⟨_,q⟩
 |dct t kvs=>cases t<;>(let⟨ks,q,l⟩:=r;exact⟨_,q⟩)
 |dead=>exact r.elim
 |ins c fs=>let⟨ks,⟨dx,q⟩,l⟩:=r;exact⟨_,q⟩
theorem yD.there(S:yD K cl B φ H st){a:AI}(h:AA a∈φ):∃u,H a=AA u:=by
 let⟨n,e⟩:=D4.mp h;let⟨o,_,r⟩:=S.obj n a e;exact r.there
theorem Step.upd{p:AI}{o:HO}(hp:H p=AD):Step φ H φ (upd H p o) :=
 ⟨λb u n e=>by rw[zk (zn e hp)];exact e,AS _,λ_ _ _ e=>e,λ_ h=>.inl h⟩
theorem yD.same(S:yD K cl B φ H st)(k:∀b o,H b=AA o->H' b=AA o):yD K cl B φ H' st:=by
 have s:Step φ H φ H':=⟨λb o _ e=>k b o e,AS _,λ_ _ _ e=>e,λ_ h=>.inl h⟩;refine⟨S.len,S.inj,λn a e=>?_,S.liv,S.nb,λa h=>?_⟩
 .let⟨o,q,r⟩:=S.obj n a e;let⟨u,z⟩:=r.there;exact⟨o,q,r.step s ((k a u z).trans z.symm)⟩
 .let⟨o,q⟩:=S.dom a h;exact⟨o,k a o q⟩
theorem yD.upd{p:AI}{o:HO}(S:yD K cl B φ H st)(hp:H p=AD):yD K cl B φ (upd H p o) st:=S.same λb u e=>by rw[zk (zn e hp)];exact e
mutual
theorem yd.moreB{B':AI->Prop}(hn:∀y,B' y->B y \/ H y=AD):∀(v:PV) (x:V),yd K cl B φ H v x->yd K cl B' φ H v x
 | .non,x,h=>by erw[yd]at h ⊢;exact h
 | .bl b,x,h=>by erw[yd]at h ⊢;exact h
 | .int i,x,h=>by erw[yd]at h ⊢;exact h
 | .str y,x,h=>by erw[yd]at h ⊢;exact h
 | .tp k vs,x,h=>by
  erw[yd]at h ⊢;let⟨y,xs,e,r,l⟩:=h;refine⟨y,xs,e,?_,yg.moreB hn vs xs l⟩;rcases r with⟨r,b,n⟩|r
  .exact .inl ⟨r,λz=>(hn y z).elim b λq=>(by rw[q]at r;cases r),n⟩
  .exact .inr r
 | .lst vs,x,h=>by
  erw[yd]at h ⊢;let⟨y,xs,e,⟨r,b,n⟩,l⟩:=h;exact⟨y,xs,e,⟨r,λz=>(hn y z).elim b λq=>(by rw[q]at r;cases r),n⟩,yg.moreB hn vs xs l⟩
 | .loc n,x,h=>by erw[yd]at h ⊢;exact h
 | .exn c,x,h=>by
  erw[yd]at h ⊢;let⟨y,e,r,b,n⟩:=h;exact⟨y,e,r,λz=>(hn y z).elim b λq=>(by rw[q]at r;cases r),n⟩
 | .scr vs,x,h=>by
  erw[yd]at h ⊢;let⟨y,xs,e,r,l⟩:=h;refine⟨y,xs,e,?_,yg.moreB hn vs xs l⟩;rcases r with⟨r,b,n⟩|r
  .refine .inl ⟨r,λz=>(hn y z).elim b λq=>?_,n⟩;rcases r with r|⟨o,r⟩<;>(rw[q]at r;cases r)
  .exact .inr r
theorem yg.moreB{B':AI->Prop}(hn:∀y,B' y->B y \/ H y=AD):∀(v:List PV) (x:List V),yg K cl B φ H v x->yg K cl B' φ H v x
 | [],x,h=>by erw[yg]at h ⊢;exact h
 |v::vs,x,h=>by
  erw[yg]at h ⊢;let⟨y,ys,e,r,l⟩:=h;exact⟨y,ys,e,yd.moreB hn v y r,yg.moreB hn vs ys l⟩
end
end
end L2
namespace L2
open PySem PySem.Spec PyProof.Rows
def CXH(X:Cx)(H:Hp)(s:AJ)(E:XK)(e:AG)(s':AJ):Prop :=
 ∃(C a:AI) (cls a0 fl:AG) (H':Hp) (B:BI),X.s₀.heap.objs.size<=C/\e=.ref a/\s'.os=s.os/\D8 s'.gens /\
  (B.StaysIn s'.heap/\B.get? a=AD/\s'.heap.FunFrames B X.stack/\s'.heap.TracedAtW B a cls a0 fl)/\HOk X.prog X.w H' s'.heap/\Un (frs X.stack) [C] H H' s.heap s'.heap /\
  (∀b o,s.heap.get? b=AA o->H b=AD->b∉frs X.stack->b≠C->B.get? b=AA o)/\(∀b u,H' b=AA u->∃o,B.get? b=AA o)/\(∀b o,s.heap.get? b=AA o->b∉frs X.stack->b≠C->∃o',B.get? b=AA o')/\E cls AD H'
theorem CXH.mono{X:Cx}{H:Hp}{s:AJ}{E E':XK}{e:AG}{s':AJ}(h:CXH X H s E e s')(n:∀cls H',E cls AD H'->E' cls AD H'):CXH X H s E' e s':=by
 let⟨C,a,cls,a0,fl,H',B,r1,r2,r3,r4,r5,r6,r7,r8,r9,r10,r11⟩:=h;exact⟨C,a,cls,a0,fl,H',B,r1,r2,r3,r4,r5,r6,r7,r8,r9,r10,n _ _ r11⟩
section
variable {M:Model}{A:Ay}{E:AG->AJ->Prop}{s:AJ}
theorem zfP{base:BI}{env:Env}{outer:List Env}{L e:AI}{cls a0 fl:AG}{Q:Unit->AJ->Prop}
  (hfr:A.frames=AA (env::outer)) (hf:env.frame=AA L) (f1:base.StaysIn s.heap) (f2:base.get? e=AD) (f3:s.heap.FunFrames base (env::outer)) (f4:s.heap.TracedAtW base e cls a0 fl)
  (hQ:∀h',HH base outer e cls a0 h'->s.heap.UpToSlots h'->Q () { s with heap:=h' }):AX M A (leaving env (.ref e)) Q E s:=by
 by_cases hfl:fl=rawInt L
 .subst hfl;unfold leaving;refine AH (wpAny_noteFrame_againW hf f4 ?_);refine wpAny_landsW ⟨f1,f2,f3,f4⟩ λh' hfl up=>?_;let⟨k1,k2,⟨_,_,k3⟩,k4⟩:=hfl;exact hQ h' ⟨k1,k2,k3,k4⟩ up
 .let⟨oe,vs,T,oT,ts,he,⟨hcls,h0⟩,hd,h1,hnT,hTe,hT,hdT,h3⟩:=f4;subst hcls;unfold leaving noteFrame;erw[hf];refine AH (AH (BS he hd h1 ?_));rw[if_pos (show (Am T != CZ)=AB from by simp)];refine AH (BS hT hdT h3 ?_);rw[if_neg (show ¬((fl == rawInt L)=AB)from λz=>hfl (eq_of_beq z))];refine AH (FZ hT hdT (ER.mp h3).1 ?_);have other:∀b,b≠T->(s.heap.update T (Obj.mapFields (·.setIfInBounds 3 CZ))).get? b=s.heap.get? b:=λb hb=>DR _ _ (BM hb);have noRecord:∀b o,s.heap.get? b=AA o->(∀vs,o.data ≠ .fields vs)->b≠T:=λb o hb hnf q=>by
   rw[q,hT]at hb;injection hb with hb;subst hb;exact hnf ts hdT
  refine wpAny_newEntryW hfr (f3.of_keeps λb o hb hnf=>⟨o,(other b (noRecord b o hb hnf)).trans hb,rfl⟩) hf ((other e (BM hTe)).trans he)
   (λb o hbo=>(other b λq=>by rw[q,hnT]at hbo;cases hbo).trans (f1 b o hbo)) f2 hd (ER.mp h1).1 h0
   λh' ⟨x1,⟨_,_,x2⟩,x3,x4⟩=>hQ h' ⟨x1,f2,x2,x3⟩ λb o hb hnf=>x4 b o ((other b (noRecord b o hb hnf)).trans hb) hnf
end
section
variable {P:A8}{w:An}{K:AE}{mg:AR->Option AG}{base:BI}{N:List AR}{qual:AR}{scope:Bj}{f:AI}{cd:AG}{A:Ay}{outer:List Env}{s₀:AJ}{H₀:Hp}{E:XK}
theorem yeo{pins:List (AI×CO)}{σ:St}{H:Hp}{s:AJ}{e:AG}{s':AJ}(I:Inv (ya6 (CX1 P w) P w K mg base N qual scope f cd A outer s₀ H₀ E) pins σ H s)(h:CXH (ya6 (CX1 P w) P w K mg base N qual scope f cd A outer s₀ H₀ E) H s E e s') :
  (ya6 (CX1 P w) P w K mg base N qual scope f cd A outer s₀ H₀ E).xe e s':=by
 let⟨C,a,cls,a0,fl,H',B,hC,rfl,os,bare,⟨f1,f2,f3,f4⟩,hok,un,hB,tr,hT,hE⟩:=h;have bse:Un (frs outer) [] H₀ H s₀.heap s.heap:=I.base;have lt:∀b o,s₀.heap.get? b=AA o->b≠s₀.heap.objs.size:=λb o q=>Av (AY q);have neC:∀b o,s₀.heap.get? b=AA o->b≠C:=λb o q=>Av (A6 (AY q) hC);have niC:∀b o,s₀.heap.get? b=AA o->b∉[C]:=λb o q z=>neC b o q (by simpa using z);have hst:∀b,b∈frs (envOfC qual scope s₀.heap.objs.size f cd::outer)->b=s₀.heap.objs.size \/ b∈frs outer:=λb hb=>by
  have hb':b∈s₀.heap.objs.size::frs outer:=hb;exact AQ.mp hb'
 have un':Un (frs (envOfC qual scope s₀.heap.objs.size f cd::outer)) [C] H H' s.heap s'.heap:=un;have kB:∀b o,s₀.heap.get? b=AA o->H₀ b=AD->b∉frs outer->B.get? b=AA o:=λb o q n hb=>hB b o (bse.keep b o q n hb (by simp)) (bse.free b o q n (by simp)) (λz=>by
  rcases hst b z with z|z
  .exact lt b o q z
  .exact hb z) (neC b o q)
 have kT:∀b o,s₀.heap.get? b=AA o->b∉frs outer->∃o',B.get? b=AA o':=λb o q hb=>by
  let⟨o',q1⟩:=bse.there b o q (by simp);refine hT b o' q1 (λz=>?_) (neC b o q);rcases hst b z with z|z
  .exact lt b o q z
  .exact hb z
 refine zfP I.ok.frames rfl f1 f2 f3 f4 λh'' fl' up=>?_;refine⟨a,cls,a0,H',B,rfl,os.trans I.os,bare,fl',HOk.inB hok f1 fl'.1 tr,⟨λb o q n hb _=>fl'.1 b o (kB b o q n hb),λb o q n hb _=>?_,λb o q n _=>?_,λb o q _=>?_,λb xs q=>un'.tups b xs (bse.tups b xs q),λb o u q=>un'.frzs b o u (bse.frzs b o u q),λb ps q=>?_⟩,kB,tr,kT,hE⟩
 .let⟨sl,q1⟩:=bse.slot b o q n hb (by simp);have n1:=bse.free b o q n (by simp);let⟨sl1,q2⟩:=un'.slot b _ q1 n1 (AT _ hb) (niC b o q);let⟨_,o',ho',hd⟩:=C4 f3 (show b∈DU (λ(z:Env)=>z.frame) _ from AT _ hb);let⟨sl',q3⟩:=up b _ q2 (by rw[ho']at q2;cases q2;exact hd);exact⟨sl',q3⟩
 .let⟨o',q1⟩:=bse.there b o q (by simp);exact un'.free b o' q1 (bse.free b o q n (by simp)) (niC b o q)
 .let⟨o',q1⟩:=bse.there b o q (by simp);let⟨o2,q2⟩:=un'.there b o' q1 (niC b o q)
  by_cases hb:b∈frs outer
  .let⟨_,o3,ho3,hd⟩:=C4 f3 (show b∈DU (λ(z:Env)=>z.frame) _ from AT _ hb);let⟨sl',q3⟩:=up b _ ho3 hd;exact⟨_,q3⟩
  .let⟨o4,q4⟩:=kT b o q hb;exact⟨o4,fl'.1 b o4 q4⟩
 .let⟨m1,e1⟩:=bse.tbls b ps q;let⟨m2,e2⟩:=un'.tbls b _ e1;exact⟨m1++m2,by rw[e2,EG]⟩
end
section
variable {pg:A8}{wd:An}{A:Ay}{R:Gk->AJ->Prop}{s:AJ}
end
section
variable {X:Cx}{sc:Bj}{NC:List AR}{slots:List (Option Nat)}{elt tg iter:AV}{ifs:List AV}{pos:C5}{g:TG}{ti:TT}{te:CI->TE}{E:XK}
end
end L2
namespace L2
open PySem PySem.Spec PyProof.Rows IC
structure Se where
 cl:Nat->AI
 call:Nat->List PV->SO->R PV
 may:Bool
section
variable (S:Se)(X:Cx)
def ExcAt(σ:St)(B:AI->Prop)(φ:Ph)(H:Hp)(k:Nat)(st':SO)(e:AG)(s':AJ):Prop :=
 (∃pins H1 s φ1,Inv X pins σ H1 s/\Step φ H φ1 H1/\CX1 X.prog X.w X.stack H1 s (λcls _ H'=>cls=.ref (S.cl k)/\∃φ',Step φ1 H1 φ' H'/\yD X.K S.cl B φ' H' st') e s') \/
 (S.may=AB/\∃pins H1 s φ1 h' e0 vs,Inv X pins σ H1 s/\Step φ H φ1 H1/\yD X.K S.cl B φ1 H1 st'/\Gq s.heap h' e0 (.ref (S.cl k)) vs/\e=.ref e0/\s'={ s with heap:=h' }) \/
 (S.may=AB/\∃pins H1 s,Inv X pins σ H1 s/\CXH X H1 s (λcls _ H'=>cls=.ref (S.cl k)/\∃φ',Step φ H φ' H'/\yD X.K S.cl B φ' H' st') e s')
def Run{α β:Type}(σ:St)(B:AI->Prop)(φ:Ph)(H:Hp)(Rel:Ph->Hp->α->β->Prop)(r:R α)(Q:β->Hp->Prop):Prop :=
 match r with
 | .ok v st'=>∀x H' φ',Step φ H φ' H'->yD X.K S.cl B φ' H' st'->Rel φ' H' v x->Q x H'
 | .exc k st'=>∀e s',ExcAt S X σ B φ H k st' e s'->X.xe e s'
 | .bad=>False
abbrev RV(B:AI->Prop):Ph->Hp->PV->V->Prop:=λφ H=>yd X.K S.cl B φ H
abbrev RL(B:AI->Prop):Ph->Hp->List PV->List V->Prop:=λφ H=>yg X.K S.cl B φ H
noncomputable abbrev RB:Ph->Hp->Bool->Bool->Prop:=λ_ _ b c=>b=c
def tE(c:Ce):TE:=λσ H Q=>∃B φ st ρ,yD X.K S.cl B φ H st/\yQ X.K S.cl B φ H ρ σ/\Run S X σ B φ H (RV S X B) (ev S.call ρ st c) Q
def tAs(c:Ces):TA:=λσ H Q=>∃B φ st ρ,yD X.K S.cl B φ H st/\yQ X.K S.cl B φ H ρ σ/\Run S X σ B φ H (RL S X B) (evs S.call ρ st c) Q
def ybi(r:R PV):R Bool:=r.bind λx st=>onO (yaT st x) λb=>.ok b st
def tTs(c:Ce):TT:=λσ H Q=>∃B φ st ρ,yD X.K S.cl B φ H st/\yQ X.K S.cl B φ H ρ σ/\Run S X σ B φ H RB (ybi (ev S.call ρ st c)) Q
end
section
variable {S:Se}{X:Cx}{σ:St}{B:AI->Prop}{φ φ1:Ph}{H H1:Hp}
theorem ExcAt.back{k:Nat}{st':SO}{e:AG}{s':AJ}(s:Step φ H φ1 H1)(h:ExcAt S X σ B φ1 H1 k st' e s'):ExcAt S X σ B φ H k st' e s':=by
 rcases h with⟨pins,H2,t,φ2,I,q,c⟩|⟨m,pins,H2,t,φ2,h',e0,vs,I,q,c⟩|⟨m,pins,H2,t,I,c⟩
 .exact .inl ⟨pins,H2,t,φ2,I,s.trans q,c⟩
 .exact .inr (.inl ⟨m,pins,H2,t,φ2,h',e0,vs,I,s.trans q,c⟩)
 .exact .inr (.inr ⟨m,pins,H2,t,I,c.mono λcls H' ⟨e1,φ',s2,r⟩=>⟨e1,φ',s.trans s2,r⟩⟩)
variable {α β γ δ:Type}{Rel:Ph->Hp->α->β->Prop}{HI:Ph->Hp->γ->δ->Prop}
theorem Run.on{r:R α}{Q:β->Hp->Prop}(s:Step φ H φ1 H1)(h:Run S X σ B φ H Rel r Q):Run S X σ B φ1 H1 Rel r Q:=by
 cases r with
 |ok v st'=>exact λx H' φ' t=>h x H' φ' (s.trans t)
 |exc k st'=>exact λe s' x=>h e s' (x.back s)
 |bad=>exact h
theorem Run.mono{r:R α}{Q Q':β->Hp->Prop}(h:Run S X σ B φ H Rel r Q)(k:∀x H',Q x H'->Q' x H'):Run S X σ B φ H Rel r Q':=by
 cases r with
 |ok v st'=>exact λx H' φ' t rs rv=>k x H' (h x H' φ' t rs rv)
 |exc c st'=>exact h
 |bad=>exact h
theorem Run.bind{r:R α}{k:α->SO->R γ}{Q:δ->Hp->Prop}(h:Run S X σ B φ H HI (r.bind k) Q) :
  Run S X σ B φ H Rel r λx H1=>∃v st1 φ1,Step φ H φ1 H1/\yD X.K S.cl B φ1 H1 st1/\Rel φ1 H1 v x/\Run S X σ B φ1 H1 HI (k v st1) Q:=by
 cases r with
 |ok v st'=>exact λx H' φ' t rs rv=>⟨v,st',φ',t,rs,rv,Run.on t h⟩
 |exc c st'=>exact h
 |bad=>exact h
theorem Run.ok{v:α}{st:SO}{Q:β->Hp->Prop}(h:Run S X σ B φ H Rel (.ok v st) Q)(rs:yD X.K S.cl B φ H st){x:β}(rv:Rel φ H v x):Q x H:=h x H φ .rfl rs rv
theorem PE.imp{e:AV}{t t':TE}(h:PE X e t')(k:∀σ H Q,t σ H Q->t' σ H Q):PE X e t:=λpins s σ H Q I q=>h pins s σ H Q I (k σ H Q q)
theorem PT.imp{e:AV}{t t':TT}(h:PT X e t')(k:∀σ H Q,t σ H Q->t' σ H Q):PT X e t:=λpins s σ H Q I q=>h pins s σ H Q I (k σ H Q q)
theorem PW.imp{e:AV}{t t':TT}(h:PW X e t')(k:∀σ H Q,t σ H Q->t' σ H Q):PW X e t:=λwh pins s σ H Q I q=>h wh pins s σ H Q I (k σ H Q q)
theorem PA.imp{e:List AV}{t t':TA}(h:PA X e t')(k:∀σ H Q,t σ H Q->t' σ H Q):PA X e t:=λpos pins s σ H Q I q=>h pos pins s σ H Q I (k σ H Q q)
theorem tE.bind{c:Ce}{ρ:IC.Env}{st:SO}{k:PV->SO->R γ}{Q:δ->Hp->Prop}{P:V->Hp->Prop}(rs:yD X.K S.cl B φ H st)(re:yQ X.K S.cl B φ H ρ σ)(h:Run S X σ B φ H HI ((ev S.call ρ st c).bind k) Q)
  (n:∀x H1 v st1 φ1,Step φ H φ1 H1->yD X.K S.cl B φ1 H1 st1->yQ X.K S.cl B φ1 H1 ρ σ->yd X.K S.cl B φ1 H1 v x->Run S X σ B φ1 H1 HI (k v st1) Q->P x H1):tE S X c σ H P :=
 ⟨B,φ,st,ρ,rs,re,(Run.bind h).mono λx H1 ⟨v,st1,φ1,s,rs1,rv,h1⟩=>n x H1 v st1 φ1 s rs1 (re.step s) rv h1⟩
theorem tAs.bind{c:Ces}{ρ:IC.Env}{st:SO}{k:List PV->SO->R γ}{Q:δ->Hp->Prop}{P:List V->Hp->Prop}(rs:yD X.K S.cl B φ H st)(re:yQ X.K S.cl B φ H ρ σ)(h:Run S X σ B φ H HI ((evs S.call ρ st c).bind k) Q)
  (n:∀x H1 v st1 φ1,Step φ H φ1 H1->yD X.K S.cl B φ1 H1 st1->yQ X.K S.cl B φ1 H1 ρ σ->yg X.K S.cl B φ1 H1 v x->Run S X σ B φ1 H1 HI (k v st1) Q->P x H1):tAs S X c σ H P :=
 ⟨B,φ,st,ρ,rs,re,(Run.bind h).mono λx H1 ⟨v,st1,φ1,s,rs1,rv,h1⟩=>n x H1 v st1 φ1 s rs1 (re.step s) rv h1⟩
variable {i:Int}{b:Bool}{x:AR}{j:Nat}{pos:C5}{e a a':AV}{c ca cb cc:Ce}
theorem zkB:PE X (.Constant (.int i) j pos) (tE S X (.cst (.int i))):=ydC.imp λσ H Q ⟨B,φ,st,ρ,rs,re,h⟩=>by
 erw[ev]at h;exact h.ok rs (by erw[yd])
theorem zph:PE X (.Constant (.bool b) j pos) (tE S X (.cst (.bl b))):=yeu.imp λσ H Q ⟨B,φ,st,ρ,rs,re,h⟩=>by
 erw[ev]at h;exact h.ok rs (by erw[yd])
theorem zn4:PE X (.Constant .none j pos) (tE S X (.cst .non)):=ydi.imp λσ H Q ⟨B,φ,st,ρ,rs,re,h⟩=>by
 erw[ev]at h;exact h.ok rs (by erw[yd])
theorem zm8:PE X (.Constant (.str x) j pos) (tE S X (.cst (.str x))):=ydL.imp λσ H Q ⟨B,φ,st,ρ,rs,re,h⟩=>by
 erw[ev]at h;exact h.ok rs (by erw[yd])
theorem zoB{i:Nat}(hN:X.N[i]?=AA x)(hv:Vis X.env.scope x)(hd:(x == ("__debug__":AR))=false:=by decide)(hcd:(x == ("__classdict__":AR))=false:=by decide):PE X (.Name x pos) (tE S X (.var i)) :=
 (zkG hN hv hd hcd).imp λσ H Q ⟨B,φ,st,ρ,rs,re,h⟩=>by
  erw[ev]at h
  cases q:ρ[i]? with
  |none=>rw[q]at h;exact h.elim
  |some o =>
   cases o with
   |none=>rw[q]at h;exact h.elim
   |some v =>
    rw[q]at h;let⟨y,hy,rv⟩:=re.get i v q;exact⟨y,hy,h.ok rs rv⟩
theorem zmg{v:PV}{y:AI}(hg:Gl X x)(hm:X.mg x=AA (.ref y))(hk:∀B φ H,yd X.K S.cl B φ H v (.ref y))(hd:(x == ("__debug__":AR))=false:=by decide):PE X (.Name x pos) (tE S X (.cst v)) :=
 (zdK hg hm (show RelV (.ref y) (.ref y)from rfl) hd).imp λσ H Q ⟨B,φ,st,ρ,rs,re,h⟩=>by
  erw[ev]at h;exact h.ok rs (hk B φ H)
theorem zaq{o:Option PV}{st:SO}{Q:VK}(h:Run S X σ B φ H (RV S X B) (toR o st) Q)(rs:yD X.K S.cl B φ H st):∃z,o=AA z/\∀z' H' φ',Step φ H φ' H'->yD X.K S.cl B φ' H' st->yd X.K S.cl B φ' H' z z'->Q z' H':=by
 cases o with
 |none=>exact h.elim
 |some z=>exact⟨z,rfl,h⟩
def rT2(S:Se)(X:Cx)(f:PV->PV->Option PV):R2:=λx y H Q=>∃B φ st v w z,yD X.K S.cl B φ H st/\yd X.K S.cl B φ H v x/\yd X.K S.cl B φ H w y/\f v w=AA z /\
 ∀z' H' φ',Step φ H φ' H'->yD X.K S.cl B φ' H' st->yd X.K S.cl B φ' H' z z'->Q z' H'
theorem zm4{op:Dj}{o:BOp}(ho:OpR X (binaryOp op) (rT2 S X (yE o)))(ha:PE X a (tE S X ca))(hb:PE X a' (tE S X cb)):PE X (.BinOp a op a' pos) (tE S X (.bin o ca cb)) :=
 (zpm ho ha hb).imp λσ H Q ⟨B,φ,st,ρ,rs,re,h⟩=>by
  erw[ev]at h;refine tE.bind rs re h λx H1 v st1 φ1 s1 rs1 re1 rv h1=>tE.bind rs1 re1 h1 λy H2 w st2 φ2 s2 rs2 re2 rw h2=>?_;let⟨z,e,q⟩:=zaq h2 rs2;exact⟨B,φ2,st2,v,w,z,rs2,rv.step s2,rw,e,q⟩
theorem zpc{op:Fb}{o:COp}(ho:OpR X (compareOp op) (rT2 S X (yF o)))(ha:PE X a (tE S X ca))(hb:PE X a' (tE S X cb))(hm:behindInMarks op a'=AC):PE X (.Compare a [op] [a'] pos) (tE S X (.cmp o ca cb)) :=
 (zir ho ha hb hm).imp λσ H Q ⟨B,φ,st,ρ,rs,re,h⟩=>by
  erw[ev]at h;refine tE.bind rs re h λx H1 v st1 φ1 s1 rs1 re1 rv h1=>tE.bind rs1 re1 h1 λy H2 w st2 φ2 s2 rs2 re2 rw h2=>?_;let⟨z,e,q⟩:=zaq h2 rs2;exact⟨B,φ2,st2,v,w,z,rs2,rv.step s2,rw,e,q⟩
end
section
variable {S:Se}{X:Cx}{σ:St}{B:AI->Prop}{φ φ1:Ph}{H H1:Hp}{K:AE}{cl:Nat->AI}{st:SO}
theorem yb2.sq{k:Bool}{a:AI}{xs:List V}(r:yb2 K B φ H k a xs):SqT K H a xs:=by
 rcases r with⟨r,_⟩|r
 .exact .inl (.inl r)
 .exact .inr r.2
theorem yc3.sq{a:AI}{xs:List V}(r:yc3 B φ H a xs):SqL K H a xs:=.inl (.inl r.1)
theorem yd.tup_new{vs:List PV}{xs:List V}{p:AI}(hp:H p=AD)(rs:yD K cl B φ H st)(r:yg K cl B φ H vs xs):yd K cl B φ (upd H p (.tup xs)) (.tup vs) (.ref p):=by
 erw[yd];refine⟨p,xs,rfl,.inl ⟨zu,λz=>?_,λz=>?_⟩,r.step (.upd hp)⟩
 .let⟨o,e⟩:=rs.dom p z;rw[hp]at e;cases e
 .let⟨o,e⟩:=rs.there z;rw[hp]at e;cases e
theorem yd.lst_new{vs:List PV}{xs:List V}{p:AI}(hp:H p=AD)(rs:yD K cl B φ H st)(r:yg K cl B φ H vs xs):yd K cl B φ (upd H p (.lst xs)) (.lst vs) (.ref p):=by
 erw[yd];refine⟨p,xs,rfl,⟨zu,λz=>?_,λz=>?_⟩,r.step (.upd hp)⟩
 .let⟨o,e⟩:=rs.dom p z;rw[hp]at e;cases e
 .let⟨o,e⟩:=rs.there z;rw[hp]at e;cases e
theorem yg.append:∀{vs ws:List PV} {xs ys:List V},yg K cl B φ H vs xs->yg K cl B φ H ws ys->yg K cl B φ H (vs++ws) (xs++ys)
 | [],ws,xs,ys,h,q=>by erw[yg]at h;subst h;exact q
 |v::vs,ws,xs,ys,h,q=>by
  erw[yg]at h;let⟨y,zs,rfl,r,l⟩:=h;show yg K cl B φ H (v::(vs++ws)) (y::(zs++ys));erw[yg];exact⟨y,zs++ys,rfl,r,yg.append l q⟩
theorem yg.get:∀{vs:List PV} {xs:List V} (j:Nat) {v:PV},yg K cl B φ H vs xs->vs[j]?=AA v->∃x,xs[j]?=AA x/\yd K cl B φ H v x
 | [],xs,j,v,h,e=>by simp at e
 |w::vs,xs,0,v,h,e=>by
  erw[yg]at h;let⟨y,zs,rfl,r,l⟩:=h;simp at e;subst e;exact⟨y,rfl,r⟩
 |w::vs,xs,j+1,v,h,e=>by
  erw[yg]at h;let⟨y,zs,rfl,r,l⟩:=h;let⟨x,q1,q2⟩:=yg.get j l (by simpa using e);exact⟨x,by simpa using q1,q2⟩
theorem yg.drop:∀{vs:List PV} {xs:List V} (n:Nat),yg K cl B φ H vs xs->yg K cl B φ H (vs.drop n) (xs.drop n)
 |vs,xs,0,h=>by simpa using h
 | [],xs,n+1,h=>by erw[yg]at h;subst h;simp[yg]
 |v::vs,xs,n+1,h=>by
  erw[yg]at h;let⟨y,ys,rfl,_,l⟩:=h;simpa using yg.drop n l
theorem yg.take:∀{vs:List PV} {xs:List V} (n:Nat),yg K cl B φ H vs xs->yg K cl B φ H (vs.take n) (xs.take n)
 |vs,xs,0,h=>by simp[yg]
 | [],xs,n+1,h=>by erw[yg]at h;subst h;simp[yg]
 |v::vs,xs,n+1,h=>by
  erw[yg]at h;let⟨y,ys,rfl,r,l⟩:=h;erw[List.take_succ_cons,yg];exact⟨y,ys.take n,rfl,r,yg.take n l⟩
theorem zcC{f:AG->AG->Gw AG}{o:BOp}{C:Int->Int->Prop}{g:Int->Int->Int}(h:OpR X f (rI C λi j=>.int (g i j)))
  (hb:∀v w z,yE o v w=AA z->∃i j,v=.int i/\w=.int j/\C i j/\z=.int (g i j)):OpR X f (rT2 S X (yE o)):=by
 rintro pins s σ H x y v u Q I rx ry ⟨B,φ,st,a,b,z,rs,ra,rb,e,q⟩
 let⟨i,j,rfl,rfl,hc,rfl⟩:=hb a b z e;erw[yd]at ra rb;subst ra rb;exact h pins s σ H _ _ v u Q I rx ry ⟨i,j,rfl,rfl,hc,q _ H φ .rfl rs (by erw[yd])⟩
theorem zc1{f:AG->AG->Gw AG}{o:BOp}{g:Int->Int->Int}(h:OpR X f (rI0 λi j=>.int (g i j)))
  (hb:∀v w z,yE o v w=AA z->∃i j,v=.int i/\w=.int j/\z=.int (g i j)):OpR X f (rT2 S X (yE o)):=by
 rintro pins s σ H x y v u Q I rx ry ⟨B,φ,st,a,b,z,rs,ra,rb,e,q⟩
 let⟨i,j,rfl,rfl,rfl⟩:=hb a b z e;erw[yd]at ra rb;subst ra rb;exact h pins s σ H _ _ v u Q I rx ry ⟨i,j,rfl,rfl,q _ H φ .rfl rs (by erw[yd])⟩
theorem zlo(v w z:PV)(h:yE .sub v w=AA z):∃i j,v=.int i/\w=.int j/\z=.int (i - j):=by
 unfold yE at h;split at h<;>first|(cases h;done)|skip
 exact⟨_,_,rfl,rfl,(AW h).symm⟩
theorem zmR(v w z:PV)(h:yE .mul v w=AA z):∃i j,v=.int i/\w=.int j/\ydE i j/\z=.int (i*j):=by
 unfold yE at h;split at h<;>first|(cases h;done)|skip
 rename_i i j;erw[IC.binI]at h;split at h
 .rename_i c;refine⟨i,j,rfl,rfl,?_,(AW h).symm⟩;erw[yaI,DL,decide_eq_true_eq]at c;unfold ydE;rcases c with c|c
  .left;constructor<;>lia
  .right;constructor<;>lia
 .cases h
theorem zjm(v w z:PV)(h:yE .fdiv v w=AA z):∃i j,v=.int i/\w=.int j/\ydF i j/\z=.int (i / j):=by
 unfold yE at h;split at h<;>first|(cases h;done)|skip
 rename_i i j;erw[IC.binI]at h;split at h
 .rename_i c;exact⟨i,j,rfl,rfl,c,(AW h).symm⟩
 .cases h
theorem zmV(v w z:PV)(h:yE .mod v w=AA z):∃i j,v=.int i/\w=.int j/\0<j/\z=.int (i%j):=by
 unfold yE at h;split at h<;>first|(cases h;done)|skip
 rename_i i j;erw[IC.binI]at h;split at h
 .rename_i c;exact⟨i,j,rfl,rfl,c,(AW h).symm⟩
 .cases h
theorem zmM(v w z:PV)(h:yE .pow v w=AA z):∃i j,v=.int i/\w=.int j/\yd0 i j/\z=.int (i^j.toNat):=by
 unfold yE at h;split at h<;>first|(cases h;done)|skip
 rename_i i j;erw[IC.binI]at h;split at h
 .rename_i c;exact⟨i,j,rfl,rfl,⟨c.1,c.2.1,by have:=c.2.2;lia⟩,(AW h).symm⟩
 .cases h
theorem zlk(v w z:PV)(h:yE .shl v w=AA z):∃i j,v=.int i/\w=.int j/\yd0 i j/\z=.int (i*2^j.toNat):=by
 unfold yE at h;split at h<;>first|(cases h;done)|skip
 rename_i i j;erw[IC.binI]at h;split at h
 .rename_i c;exact⟨i,j,rfl,rfl,⟨c.1,c.2.1,by have:=c.2.2;lia⟩,(AW h).symm⟩
 .cases h
theorem zlw(v w z:PV)(h:yE .shr v w=AA z):∃i j,v=.int i/\w=.int j/\0<=j/\z=.int (i / 2^j.toNat):=by
 unfold yE at h;split at h<;>first|(cases h;done)|skip
 rename_i i j;erw[IC.binI]at h;split at h
 .rename_i c;exact⟨i,j,rfl,rfl,c,(AW h).symm⟩
 .cases h
theorem zkw(v w z:PV)(h:yE .band v w=AA z):∃i j,v=.int i/\w=.int j/\z=.int (BR i j):=by
 unfold yE at h;split at h<;>first|(cases h;done)|skip
 exact⟨_,_,rfl,rfl,(AW h).symm⟩
theorem zlT(v w z:PV)(h:yE .bor v w=AA z):∃i j,v=.int i/\w=.int j/\z=.int (Bd i j):=by
 unfold yE at h;split at h<;>first|(cases h;done)|skip
 exact⟨_,_,rfl,rfl,(AW h).symm⟩
theorem zjK(v w z:PV)(h:yE .bxor v w=AA z):∃i j,v=.int i/\w=.int j/\z=.int (BB i j):=by
 unfold yE at h;split at h<;>first|(cases h;done)|skip
 exact⟨_,_,rfl,rfl,(AW h).symm⟩
theorem zon:OpR X (binaryOp .Sub) (rT2 S X (yE .sub)):=zc1 zoW zlo
theorem znt:OpR X (binaryOp .Mult) (rT2 S X (yE .mul)):=zcC zot zmR
theorem zlH:OpR X (binaryOp .FloorDiv) (rT2 S X (yE .fdiv)):=zcC zjT zjm
theorem znn:OpR X (binaryOp .Mod) (rT2 S X (yE .mod)):=zcC zn9 zmV
theorem znH:OpR X (binaryOp .Pow) (rT2 S X (yE .pow)):=zcC zoV zmM
theorem zox:OpR X (binaryOp .LShift) (rT2 S X (yE .shl)):=zcC zn6 zlk
theorem zoO:OpR X (binaryOp .RShift) (rT2 S X (yE .shr)):=zcC znI zlw
theorem zmA:OpR X (binaryOp .BitAnd) (rT2 S X (yE .band)):=zc1 zo2 zkw
theorem znb:OpR X (binaryOp .BitOr) (rT2 S X (yE .bor)):=zc1 zpH zlT
theorem zmT:OpR X (binaryOp .BitXor) (rT2 S X (yE .bxor)):=zc1 znf zjK
theorem zF:sizeMax=sizeLine:=by rw[Dl];rfl
theorem zlZ:OpR X (binaryOp .Add) (λx y H Q=>∃a b ys,x=.ref a/\y=.ref b/\SqT X.K H a []/\SqT X.K H b ys/\Q (.ref b) H):=by
 intro pins s σ H x y v u Q I rx ry h;let⟨a,b,ys,rfl,rfl,ha,hb,q⟩:=h
 cases rx
 cases ry
 let⟨its,r1,p1,_⟩:=I.tuple ha;let⟨its2,r2,p2,_⟩:=I.tuple hb;have:its=[]:=r1.nil_iff.mpr rfl;subst this;let⟨⟨cls,dd,data,sl⟩,ho,hc,n,hd⟩:=id p1;let⟨⟨cls2,dd2,data2,sl2⟩,ho2,hc2,n2,hd2⟩:=id p2;simp only at hc hd hc2 hd2;subst hc hd hc2 hd2;exact GE ⟨_,ho,rfl⟩ ⟨_,ho2,rfl⟩ Cc DI Bw Bs (Bn _ _)
   (tuple_addW0 a b [].toArray its2.toArray n n2 dd dd2 sl sl2 (by simp)) ⟨ho,ho2,⟨.ref b,H,I,rfl,q⟩⟩
theorem znx:OpR X (binaryOp .Add) (rT2 S X (yE .add)):=by
 rintro pins s σ H x y v u Q I rx ry ⟨B,φ,st,a,b,z,rs,ra,rb,e,q⟩
 unfold yE at e;split at e
 .rename_i i j;erw[yd]at ra rb;subst ra rb
  cases e
  exact znC pins s σ H _ _ v u Q I rx ry ⟨i,j,rfl,rfl,q _ H φ .rfl rs (by erw[yd])⟩
 .rename_i i k;erw[yd]at ra rb;subst ra rb
  cases e
  exact ziN pins s σ H _ _ v u Q I rx ry ⟨i,k,rfl,rfl,q _ H φ .rfl rs (by erw[yd];cases k<;>rfl)⟩
 .rename_i i j;erw[yd]at ra rb;subst ra rb;dsimp only at e;split at e
  .rename_i c
   cases e
   exact zg5 pins s σ H _ _ v u Q I rx ry ⟨i,j,rfl,rfl,by rw[<- zF];exact c,q _ H φ .rfl rs (by erw[yd])⟩
  .cases e
 .rename_i k1 vs k2 ws;erw[yd]at ra rb;let⟨p,xs,rfl,r1,l1⟩:=ra;let⟨p',ys,rfl,r2,l2⟩:=rb;dsimp only at e;split at e
  .rename_i c
   cases e
   have n1:=l1.length;have n2:=l2.length;unfold yew at q
   cases vs with
   |nil =>
    have:xs=[]:=by cases xs with|nil=>rfl|cons _ _=>simp at n1
    subst this;refine zlZ pins s σ H _ _ v u Q I rx ry ⟨p,p',ys,rfl,rfl,r1.sq,r2.sq,q _ H φ .rfl rs ?_⟩;erw[Es,if_true,yd];exact⟨p',ys,rfl,r2,l2⟩
   |cons v1 vr =>
    erw[GL,BW,if_false]at q;refine zmS pins s σ H _ _ v u Q I rx ry ⟨p,p',xs,ys,rfl,rfl,r1.sq,r2.sq,?_,by rw[<- zF];lia,λz=>?_,λz t ht=>?_⟩
    .rintro rfl
     simp at n1
    .subst z;have:ws=[]:=by cases ws with|nil=>rfl|cons _ _=>simp at n2
     subst this;erw[Es,if_true]at q;refine q _ H φ .rfl rs ?_;erw[yd];exact⟨p,xs,rfl,r1,l1⟩
    .cases ws with
     |nil=>exact absurd (List.length_eq_zero_iff.mp n2.symm) z
     |cons w1 wr =>
      erw[GL,BW,if_false]at q;exact q _ _ φ (.upd ht) (rs.upd ht) (.tup_new ht rs (l1.append l2))
  .cases e
 .rename_i vs ws;erw[yd]at ra rb;let⟨p,xs,rfl,r1,l1⟩:=ra;let⟨p',ys,rfl,r2,l2⟩:=rb;dsimp only at e;split at e
  .rename_i c
   cases e
   have n1:=l1.length;have n2:=l2.length;exact zok pins s σ H _ _ v u Q I rx ry ⟨p,p',xs,ys,rfl,rfl,r1.1,r2.1,by rw[<- zF];lia,λt ht=>q _ _ φ (.upd ht) (rs.upd ht) (.lst_new ht rs (l1.append l2))⟩
  .cases e
 .cases e
end
mutual
noncomputable def toD:PV->PyData
 | .non=>.none
 | .bl b=>.bool b
 | .int i=>.int i
 | .str x=>.str x
 | .tp _ xs=>.tuple (ybN xs)
 | .lst xs=>.list (ybN xs)
 |_=>.none
noncomputable def ybN:List PV->List PyData
 | []=>[]
 |x::xs=>toD x::ybN xs
end
mutual
theorem zjf:∀(v:PV) (n:Nat),shd n v=AB->(toD v).canLay0=AB/\(toD v).depth<=n
 | .non,n,h=>by simp[toD,Cw,DX]
 | .bl b,n,h=>by simp[toD,Cw,DX]
 | .int i,n,h=>by simp[toD,Cw,DX]
 | .str x,n,h=>by
  erw[shd]at h;erw[toD,Cw,DX,Dm,and_true];exact h
 | .tp _ xs,n,h=>by
  erw[shd,AK,decide_eq_true_eq]at h;let⟨q1,q2⟩:=zeA xs (n - 1) h.2;erw[toD,Cw,DX];exact⟨q1,by lia⟩
 | .lst xs,n,h=>by
  erw[shd,AK,decide_eq_true_eq]at h;let⟨q1,q2⟩:=zeA xs (n - 1) h.2;erw[toD,Cw,DX];exact⟨q1,by lia⟩
 | .loc k,n,h=>by simp[shd]at h
 | .exn k,n,h=>by simp[shd]at h
 | .scr xs,n,h=>by simp[shd]at h
theorem zeA:∀(v:List PV) (n:Nat),ybQ n v=AB->Eb (ybN v)=AB/\FP (ybN v)<=n
 | [],n,h=>by simp[ybN,Eb,FP]
 |v::vs,n,h=>by
  erw[ybQ,AK]at h;let⟨q1,q2⟩:=zjf v n h.1;let⟨q3,q4⟩:=zeA vs n h.2;erw[ybN,Eb,FP,AK];exact⟨⟨q1,q3⟩,by lia⟩
end
theorem zbA{v:PV}(h:shp v=AB):HJ (toD v)=true:=by
 let⟨q1,q2⟩:=zjf v 60 h;unfold HJ;rw[q1,Da,decide_eq_true_eq];lia
mutual
theorem zfO:∀(v w:PV) (n m:Nat),shd n v=AB->shd m w=AB->Bi (toD v) (toD w)=peq v w
 | .non,w,n,m,h,q=>by cases w<;>simp_all[toD,Bi,peq,shd]
 | .bl b,w,n,m,h,q=>by cases w<;>simp_all[toD,Bi,peq,shd,bi]
 | .int i,w,n,m,h,q=>by cases w<;>simp_all[toD,Bi,peq,shd,bi]
 | .str x,w,n,m,h,q=>by cases w<;>simp_all[toD,Bi,peq,shd]
 | .tp _ xs,.tp _ ys,n,m,h,q=>by
  erw[shd,AK]at h q;erw[toD,Bi,peq];exact zex xs ys (n - 1) (m - 1) h.2 q.2
 | .lst xs,.lst ys,n,m,h,q=>by
  erw[shd,AK]at h q;erw[toD,Bi,peq];exact zex xs ys (n - 1) (m - 1) h.2 q.2
 | .tp _ xs,.non,n,m,h,q=>by simp[toD,Bi,peq]
 | .tp _ xs,.bl _,n,m,h,q=>by simp[toD,Bi,peq]
 | .tp _ xs,.int _,n,m,h,q=>by simp[toD,Bi,peq]
 | .tp _ xs,.str _,n,m,h,q=>by simp[toD,Bi,peq]
 | .tp _ xs,.lst _,n,m,h,q=>by simp[toD,Bi,peq]
 | .lst xs,.non,n,m,h,q=>by simp[toD,Bi,peq]
 | .lst xs,.bl _,n,m,h,q=>by simp[toD,Bi,peq]
 | .lst xs,.int _,n,m,h,q=>by simp[toD,Bi,peq]
 | .lst xs,.str _,n,m,h,q=>by simp[toD,Bi,peq]
 | .lst xs,.tp _ _,n,m,h,q=>by simp[toD,Bi,peq]
 | .loc k,w,n,m,h,q=>by simp[shd]at h
 | .exn k,w,n,m,h,q=>by simp[shd]at h
 | .scr k,w,n,m,h,q=>by simp[shd]at h
 |v,.loc k,n,m,h,q=>by simp[shd]at q
 |v,.exn k,n,m,h,q=>by simp[shd]at q
 |v,.scr k,n,m,h,q=>by simp[shd]at q
theorem zex:∀(v w:List PV) (n m:Nat),ybQ n v=AB->ybQ m w=AB->Db (ybN v) (ybN w)=ybz v w
 | [],[],n,m,h,q=>by simp[ybN,Db,ybz]
 | [],y::ys,n,m,h,q=>by simp[ybN,Db,ybz]
 |x::xs,[],n,m,h,q=>by simp[ybN,Db,ybz]
 |x::xs,y::ys,n,m,h,q=>by
  erw[ybQ,AK]at h q;erw[ybN,Db,ybz];rw[zfO x y n m h.1 q.1,zex xs ys n m h.2 q.2]
end
section
variable {S:Se}{X:Cx}{σ:St}{B:AI->Prop}{φ φ1:Ph}{H H1:Hp}{st:SO}{pins:List (AI×CO)}{s:AJ}
mutual
theorem zbP(I:Inv X pins σ H s):∀(v:PV) (n:Nat) (x:V) (u:AG),shd n v=AB->yd X.K S.cl B φ H v x->RelV x u->∃as,Reads s.heap u (toD v) as
 | .non,n,x,u,h,r,q=>by
  erw[yd]at r;subst r;cases (show u=CZ from q);exact⟨_,.none⟩
 | .bl b,n,x,u,h,r,q=>by
  erw[yd]at r;subst r;cases (show u=EF b from q);exact⟨_,.bool b⟩
 | .int i,n,x,u,h,r,q=>by
  erw[yd]at r;subst r;let⟨t,rfl⟩:=q;exact⟨_,.int i t⟩
 | .str y,n,x,u,h,r,q=>by
  erw[yd]at r;subst r;let⟨t,rfl⟩:=q;exact⟨_,.str y t⟩
 | .tp _ vs,n,x,u,h,r,q=>by
  erw[yd]at r;let⟨a,xs,rfl,rt,l⟩:=r
  cases (show u=Am a from q)
  erw[shd,AK]at h;let⟨its,rv,⟨o,g,c,k,d⟩,_⟩:=I.tuple rt.sq;let⟨as,z⟩:=zdM I vs (n - 1) xs its h.2 l rv;exact⟨as,.tuple g c d (by simpa using z)⟩
 | .lst vs,n,x,u,h,r,q=>by
  erw[yd]at r;let⟨a,xs,rfl,rt,l⟩:=r
  cases (show u=Am a from q)
  erw[shd,AK]at h;let⟨its,rv,⟨o,k,g,c,_,d⟩,_⟩:=I.list (rt.sq (K:=X.K));let⟨as,z⟩:=zdM I vs (n - 1) xs its h.2 l rv;exact⟨_,.list g c d (by simpa using z)⟩
 | .loc k,n,x,u,h,r,q=>by simp[shd]at h
 | .exn k,n,x,u,h,r,q=>by simp[shd]at h
 | .scr k,n,x,u,h,r,q=>by simp[shd]at h
theorem zdM(I:Inv X pins σ H s):∀(v:List PV) (n:Nat) (x:List V) (u:List AG),ybQ n v=AB->yg X.K S.cl B φ H v x->Vals x u->∃as,ReadsAll s.heap u (ybN v) as
 | [],n,x,u,h,r,q=>by
  erw[yg]at r;subst r;cases q;exact⟨_,.nil⟩
 |v::vs,n,x,u,h,r,q=>by
  erw[yg]at r;let⟨y,ys,rfl,rv,l⟩:=r;erw[ybQ,AK]at h
  cases q with
  |cons q1 q2 =>
   let⟨as,z1⟩:=zbP I v n y _ h.1 rv q1;let⟨bs,z2⟩:=zdM I vs n ys _ h.2 l q2;exact⟨_,.cons z1 z2⟩
end
theorem zpv(hu:X.A.units+64<cLine):OpR X (compareOp .Eq) (rT2 S X (yF .eq)):=by
 rintro pins s σ H x y v u Q I rx ry ⟨B,φ,st,a,b,z,rs,ra,rb,e,q⟩
 erw[yF]at e;split at e
 .rename_i c;rw[AK]at c
  cases e
  let⟨as,z1⟩:=zbP (S:=S) I a 60 x v c.1 ra rx;let⟨bs,z2⟩:=zbP (S:=S) I b 60 y u c.2 rb ry;refine eq_dataH z1 z2 (zbA c.1) (zbA c.2) hu ⟨.bl _,H,I,rfl,?_⟩;rw[zfO a b 60 60 c.1 c.2];exact q _ H φ .rfl rs (by erw[yd])
 .cases e
theorem zpo(hu:X.A.units+64<cLine):OpR X (compareOp .NotEq) (rT2 S X (yF .ne)):=by
 rintro pins s σ H x y v u Q I rx ry ⟨B,φ,st,a,b,z,rs,ra,rb,e,q⟩
 erw[yF]at e;split at e
 .rename_i c;rw[AK]at c
  cases e
  let⟨as,z1⟩:=zbP (S:=S) I a 60 x v c.1 ra rx;let⟨bs,z2⟩:=zbP (S:=S) I b 60 y u c.2 rb ry;refine ne_dataH z1 z2 (zbA c.1) (zbA c.2) hu ⟨.bl _,H,I,rfl,?_⟩;rw[zfO a b 60 60 c.1 c.2];exact q _ H φ .rfl rs (by erw[yd])
 .cases e
theorem zhG{f:AG->AG->Gw AG}{o:COp}{g:Int->Int->Bool}(h:OpR X f (rI0 λi j=>.bl (g i j)))
  (hb:∀v w z,yF o v w=AA z->∃i j,v=.int i/\w=.int j/\z=.bl (g i j)):OpR X f (rT2 S X (yF o)):=by
 rintro pins s σ H x y v u Q I rx ry ⟨B,φ,st,a,b,z,rs,ra,rb,e,q⟩
 let⟨i,j,rfl,rfl,rfl⟩:=hb a b z e;erw[yd]at ra rb;subst ra rb;exact h pins s σ H _ _ v u Q I rx ry ⟨i,j,rfl,rfl,q _ H φ .rfl rs (by erw[yd])⟩
theorem ziZ:OpR X (compareOp .LtE) (λx y H Q=>∃i j,x=.str i/\y=.str j/\Q (.bl (!decide (j.cps.toList<i.cps.toList))) H):=by
 intro pins s σ H x y v u Q I rx ry h;let⟨i,j,rfl,rfl,q⟩:=h;let⟨t,rfl⟩:=rx;let⟨t',rfl⟩:=ry;exact PySem.P.le_str (zhX I q rfl)
theorem zpG:OpR X (compareOp .Lt) (rT2 S X (yF .lt)):=by
 rintro pins s σ H x y v u Q I rx ry ⟨B,φ,st,a,b,z,rs,ra,rb,e,q⟩
 erw[yF]at e;split at e
 .rename_i i j;erw[yd]at ra rb;subst ra rb
  cases e
  exact zpM pins s σ H _ _ v u Q I rx ry ⟨i,j,rfl,rfl,q _ H φ .rfl rs (by erw[yd])⟩
 .rename_i i j;erw[yd]at ra rb;subst ra rb
  cases e
  exact zhI pins s σ H _ _ v u Q I rx ry ⟨i,j,rfl,rfl,q _ H φ .rfl rs (by erw[yd])⟩
 .cases e
theorem zpK:OpR X (compareOp .LtE) (rT2 S X (yF .le)):=by
 rintro pins s σ H x y v u Q I rx ry ⟨B,φ,st,a,b,z,rs,ra,rb,e,q⟩
 erw[yF]at e;split at e
 .rename_i i j;erw[yd]at ra rb;subst ra rb
  cases e
  exact zpT pins s σ H _ _ v u Q I rx ry ⟨i,j,rfl,rfl,q _ H φ .rfl rs (by erw[yd])⟩
 .rename_i i j;erw[yd]at ra rb;subst ra rb
  cases e
  exact ziZ pins s σ H _ _ v u Q I rx ry ⟨i,j,rfl,rfl,q _ H φ .rfl rs (by erw[yd])⟩
 .cases e
theorem zgN{o:COp}{g:Int->Int->Bool}(ho:∀v w,yF o v w=match v,w with
   | .int i,.int j=>ybM o i j
   | .str a,.str b=>yeM o a b
   |_,_=>AD) (hs:∀a b,yeM o a b=AD) (hg:∀i j,ybM o i j=AA (.bl (g i j))) (v w z:PV) (h:yF o v w=AA z):∃i j,v=.int i/\w=.int j/\z=.bl (g i j):=by
 rw[ho]at h;split at h
 .rename_i i j;rw[hg]at h;exact⟨i,j,rfl,rfl,(AW h).symm⟩
 .rw[hs]at h;cases h
 .cases h
theorem zpr:OpR X (compareOp .Gt) (rT2 S X (yF .gt)):=zhG zpE (zgN (λ_ _=>rfl) (λ_ _=>rfl) λ_ _=>rfl)
theorem zpn:OpR X (compareOp .GtE) (rT2 S X (yF .ge)):=zhG zpC (zgN (λ_ _=>rfl) (λ_ _=>rfl) λ_ _=>rfl)
theorem yd.isNon{K:AE}{cl:Nat->AI}{v:PV}{x:V}(r:yd K cl B φ H v x):decide (x=.non)=IC.isNon v:=by
 cases v with
 |loc n=>erw[yd]at r;let⟨_,a,rfl,_⟩:=r;rfl
 |non=>erw[yd]at r;subst r;rfl
 |bl b=>erw[yd]at r;subst r;rfl
 |int b=>erw[yd]at r;subst r;rfl
 |str b=>erw[yd]at r;subst r;rfl
 |tp k vs=>erw[yd]at r;let⟨a,xs,rfl,_⟩:=r;rfl
 |lst vs=>erw[yd]at r;let⟨a,xs,rfl,_⟩:=r;rfl
 |exn vs=>erw[yd]at r;let⟨a,rfl,_⟩:=r;rfl
 |scr vs=>erw[yd]at r;let⟨a,xs,rfl,_⟩:=r;rfl
theorem yd.flat{K:AE}{cl:Nat->AI}{v:PV}{x:V}(r:yd K cl B φ H v x)(h:IC.flat v=AB):ya9 x=AB/\∀(w:PV) (y:V),IC.flat w=AB->yd K cl B φ H w y->eqV x y=peq v w:=by
 cases v with
 |non =>
  erw[yd]at r;subst r;refine⟨rfl,λw y hw rw=>?_⟩
  cases w<;>first|(simp[IC.flat]at hw;done)|(erw[yd]at rw;subst rw;simp[eqV,peq,bi])
 |bl b =>
  erw[yd]at r;subst r;refine⟨rfl,λw y hw rw=>?_⟩
  cases w<;>first|(simp[IC.flat]at hw;done)|(erw[yd]at rw;subst rw;simp[eqV,peq,bi])
 |int b =>
  erw[yd]at r;subst r;refine⟨rfl,λw y hw rw=>?_⟩
  cases w<;>first|(simp[IC.flat]at hw;done)|(erw[yd]at rw;subst rw;simp[eqV,peq,bi])
 |str b =>
  erw[yd]at r;subst r;refine⟨rfl,λw y hw rw=>?_⟩
  cases w<;>first|(simp[IC.flat]at hw;done)|(erw[yd]at rw;subst rw;simp[eqV,peq,bi])
 |_=>simp[IC.flat]at h
theorem zf0{K:AE}{cl:Nat->AI}{v:PV}{x:V}(r:yd K cl B φ H v x)(h:IC.flat v=AB):∀{vs:List PV} {xs:List V},yg K cl B φ H vs xs->vs.all IC.flat=AB->xs.all ya9=AB/\inV x xs=inL v vs
 | [],xs,l,_=>by erw[yg]at l;subst l;exact⟨rfl,rfl⟩
 |w::vs,xs,l,f=>by
  erw[yg]at l;let⟨y,ys,rfl,rw,l⟩:=l;rw[Bo,AK]at f;let⟨q1,q2⟩:=zf0 r h l f.2;let⟨q3,q4⟩:=rw.flat f.1;refine⟨by rw[Bo,q3,q1];rfl,?_⟩;unfold inV at q2 ⊢;rw[Bu,q2,q4 v x h r];rfl
end
theorem zmC(a b:AR):(!(Em b a 0 b.length 1).isEmpty)=inS a b:=by
 rw[Dt,StrLaws.found_iff];unfold inS;rw[Et];constructor
 .rintro⟨i,h1,h2⟩
  exact⟨i,by rw[FV];lia,by rw[AK,decide_eq_true_eq];exact⟨h1,h2⟩⟩
 .rintro⟨i,_,h⟩
  rw[AK,decide_eq_true_eq]at h;exact⟨i,h.1,h.2⟩
section
variable {S:Se}{X:Cx}{σ:St}{B:AI->Prop}{φ φ1:Ph}{H H1:Hp}{st:SO}
theorem zpu:OpR X (compareOp .In) (rT2 S X (yF .isin)):=by
 rintro pins s σ H x y v u Q I rx ry ⟨B,φ,st,a,b,z,rs,ra,rb,e,q⟩
 erw[yF]at e;split at e
 .rename_i i j;erw[yd]at ra rb;subst ra rb
  cases e
  exact zhw pins s σ H _ _ v u Q I rx ry ⟨i,j,rfl,rfl,by rw[zmC];exact q _ H φ .rfl rs (by erw[yd])⟩
 .rename_i l;split at e
  .rename_i c;rw[AK]at c
   cases e
   erw[yd]at rb;let⟨p,xs,rfl,r,l'⟩:=rb;let⟨q1,q2⟩:=zf0 ra c.1 l' c.2;exact ze4 pins s σ H _ _ v u Q I rx ry ⟨p,xs,rfl,.inr r.sq,(ra.flat c.1).1,q1,q _ H φ .rfl rs (by erw[yd];rw[<- q2];rfl)⟩
  .cases e
 .rename_i l;split at e
  .rename_i c;rw[AK]at c
   cases e
   erw[yd]at rb;let⟨p,xs,rfl,r,l'⟩:=rb;let⟨q1,q2⟩:=zf0 ra c.1 l' c.2;exact ze4 pins s σ H _ _ v u Q I rx ry ⟨p,xs,rfl,.inl r.sq,(ra.flat c.1).1,q1,q _ H φ .rfl rs (by erw[yd];rw[<- q2];rfl)⟩
  .cases e
 .cases e
theorem yg.empty{K:AE}{cl:Nat->AI}{vs:List PV}{xs:List V}(l:yg K cl B φ H vs xs):vs.isEmpty=xs.isEmpty:=by
 have:=l.length
 cases vs<;>cases xs<;>simp_all
theorem zlz{K:AE}{cl:Nat->AI}{v:PV}{x:V}{k:Bool}(rs:yD K cl B φ H st)(r:yd K cl B φ H v x)(h:yaT st v=AA k):yeF K x H k:=by
 cases v with
 |non=>erw[yd]at r;subst r;cases h;rfl
 |bl b=>erw[yd]at r;subst r;cases h;rfl
 |int b=>erw[yd]at r;subst r;cases h;rfl
 |str b =>
  erw[yd]at r;subst r;erw[yaT]at h;split at h
  .rename_i c
   cases h
   exact⟨by rw[<- zF];exact c,rfl⟩
  .cases h
 |tp k vs =>
  erw[yd]at r;let⟨a,xs,rfl,rt,l⟩:=r
  cases h
  exact .inr (.inl ⟨xs,rt.sq,by rw[l.empty]⟩)
 |lst vs =>
  erw[yd]at r;let⟨a,xs,rfl,rt,l⟩:=r
  cases h
  exact .inl ⟨xs,rt.sq,by rw[l.empty]⟩
 |loc n =>
  erw[yd]at r;let⟨hn,a,rfl,ha⟩:=r;erw[yaT]at h;split at h
  .rename_i vs hv
   cases h
   let⟨b,hb⟩:=rs.liv n _ hv (by intro z;cases z);obtain rfl:=ha b hb;let⟨o,ho,ro⟩:=rs.obj n b hb;rw[hv]at ho;cases ho;let⟨xs,hx,l⟩:=ro;exact .inl ⟨xs,.of hx,by rw[l.empty]⟩
  .cases h
 |exn c=>cases h
 |scr c=>cases h
end
theorem R.bind_assoc{α β γ:Type}{r:R α}{k:α->SO->R β}{l:β->SO->R γ}:(r.bind k).bind l=r.bind λa s=>(k a s).bind l:=by
 cases r<;>rfl
section
variable {S:Se}{X:Cx}{σ:St}{B:AI->Prop}{φ φ1:Ph}{H H1:Hp}{st:SO}{ρ:IC.Env}{pos:C5}{a b c d:AV}{ca cb cc:Ce}{es:List AV}{ces:Ces}
theorem zey{o:COp}{v w z:PV}(h:yF o v w=AA z):∃k,z=.bl k:=by
 cases o<;>erw[yF]at h
 all_goals (repeat' split at h)<;>first|(cases h;done)|(cases h;exact⟨_,rfl⟩)|skip
 all_goals (erw[ybM]at h;cases h;exact⟨_,rfl⟩)
theorem zoH{op:Fb}{o:COp}(ho:OpR X (compareOp op) (rT2 S X (yF o)))(ha:PE X a (tE S X ca))(hb:PE X b (tE S X cb))(hm:behindInMarks op b=AC):PT X (.Compare a [op] [b] pos) (tTs S X (.cmp o ca cb)) :=
 (zlp ho ha hb hm).imp λσ H Q ⟨B,φ,st,ρ,rs,re,h⟩=>by
  erw[ev,ybi,R.bind_assoc]at h;refine tE.bind rs re h λx H1 v st1 φ1 s1 rs1 re1 rv h1=>tE.bind rs1 re1 h1 λy H2 w st2 φ2 s2 rs2 re2 rw h2=>?_
  cases e:yF o v w with
  |none=>rw[e]at h2;exact h2.elim
  |some z =>
   let⟨k,rfl⟩:=zey e;rw[e]at h2;refine⟨B,φ2,st2,v,w,.bl k,rs2,rv.step s2,rw,e,λz' H' φ' s' rs' rz=>?_⟩;erw[yd]at rz;exact⟨k,rz,h2 k H' φ' s' rs' rfl⟩
theorem zoa(ha:PE X a (tE S X ca))(he:∀whole,isTrue a X.env whole=(do let v <- whole;standAt a.pos;holding [v] (truthy v)):=by intro _;rfl):PT X a (tTs S X ca) :=
 (zj6 ha he).imp λσ H Q ⟨B,φ,st,ρ,rs,re,h⟩=>by
  erw[ybi]at h;refine tE.bind rs re h λx H1 v st1 φ1 s1 rs1 re1 rv h1=>?_
  cases e:yaT st1 v with
  |none=>rw[e]at h1;exact h1.elim
  |some k =>
   rw[e]at h1;exact⟨k,zlz rs1 rv e,h1.ok rs1 rfl⟩
theorem tTs.bind{γ δ:Type}{HI:Ph->Hp->γ->δ->Prop}{k:Bool->SO->R γ}{Q:δ->Hp->Prop}{P:Bool->Hp->Prop}(rs:yD X.K S.cl B φ H st)(re:yQ X.K S.cl B φ H ρ σ)(h:Run S X σ B φ H HI ((ybi (ev S.call ρ st ca)).bind k) Q)
  (n:∀b H1 st1 φ1,Step φ H φ1 H1->yD X.K S.cl B φ1 H1 st1->yQ X.K S.cl B φ1 H1 ρ σ->Run S X σ B φ1 H1 HI (k b st1) Q->P b H1):tTs S X ca σ H P :=
 ⟨B,φ,st,ρ,rs,re,(Run.bind h).mono λx H1 ⟨v,st1,φ1,s,rs1,rv,h1⟩=>by
  subst rv;exact n v H1 st1 φ1 s rs1 (re.step s) h1⟩
theorem zfE(r:R PV)(f:Bool->SO->R PV):ybi (r.bind λx st1=>onBl x λb=>f b st1)=r.bind λx st1=>onBl x λb=>ybi (f b st1):=by
 unfold ybi;rw[R.bind_assoc]
 congr 1
 funext x st1
 cases x<;>rfl
theorem Run.bl_tru{r:R PV}{k:Bool->SO->R Bool}{Q:Bool->Hp->Prop}(h:Run S X σ B φ H RB (r.bind λx st1=>onBl x λb=>k b st1) Q):Run S X σ B φ H RB ((ybi r).bind k) Q:=by
 cases r with
 |bad=>exact h
 |exc c s=>exact h
 |ok v s =>
  cases v with
  |bl b=>exact h
  |_=>exact h.elim
theorem zos(ha:PT X a (tTs S X ca)):PT X (.UnaryOp .Not a pos) (tTs S X (.not ca)) :=
 (znY ha).imp λσ H Q ⟨B,φ,st,ρ,rs,re,h⟩=>by
  erw[ev]at h;rw[zfE _ λk st1=>.ok (.bl (!k)) st1]at h;exact tTs.bind rs re (Run.bl_tru (k:=λb st1=>.ok (!b) st1) h) λb H1 st1 φ1 s1 rs1 re1 h1=>h1.ok rs1 rfl
variable {rest:List AV}
theorem zls(ha:PT X a (tTs S X ca)):PW X (.BoolOp .And [a] pos) (tTs S X ca):=zmO ha
theorem zns(ha:PT X a (tTs S X ca)):PW X (.BoolOp .Or [a] pos) (tTs S X ca):=zoX ha
theorem zm0(ha:PT X a (tTs S X ca))(hb:PW X (.BoolOp .And (b::rest) pos) (tTs S X cb)):PW X (.BoolOp .And (a::b::rest) pos) (tTs S X (.and ca cb)) :=
 (zpe ha hb).imp λσ H Q ⟨B,φ,st,ρ,rs,re,h⟩=>by
  erw[ev]at h;rw[zfE _ λk st1=>cond k (ev S.call ρ st1 cb) (.ok (.bl AC) st1)]at h;refine tTs.bind rs re (Run.bl_tru h) λk H1 st1 φ1 s1 rs1 re1 h1=>?_
  cases k with
  |false=>exact h1.ok rs1 rfl
  |true=>exact⟨B,φ1,st1,ρ,rs1,re1,h1⟩
theorem zpz(ha:PT X a (tTs S X ca))(hb:PW X (.BoolOp .Or (b::rest) pos) (tTs S X cb)):PW X (.BoolOp .Or (a::b::rest) pos) (tTs S X (.or ca cb)) :=
 (zpI ha hb).imp λσ H Q ⟨B,φ,st,ρ,rs,re,h⟩=>by
  erw[ev]at h;rw[zfE _ λk st1=>cond k (.ok (.bl AB) st1) (ev S.call ρ st1 cb)]at h;refine tTs.bind rs re (Run.bl_tru h) λk H1 st1 φ1 s1 rs1 re1 h1=>?_
  cases k with
  |true=>exact h1.ok rs1 rfl
  |false=>exact⟨B,φ1,st1,ρ,rs1,re1,h1⟩
theorem zkI{op:HK}(h:PE X a (tE S X ca)):PE X (.BoolOp op [a] pos) (tE S X ca):=zoU h
theorem zkU(ha:PE X a (tE S X ca))(hb:PE X (.BoolOp .And (b::rest) pos) (tE S X cb)):PE X (.BoolOp .And (a::b::rest) pos) (tE S X (.and ca cb)) :=
 (zm1 ha hb).imp λσ H Q ⟨B,φ,st,ρ,rs,re,h⟩=>by
  erw[ev]at h;refine tE.bind rs re h λx H1 v st1 φ1 s1 rs1 re1 rv h1=>?_
  cases v with
  |bl k =>
   erw[yd]at rv;refine⟨k,rv,?_⟩
   cases k with
   |true=>exact⟨B,φ1,st1,ρ,rs1,re1,h1⟩
   |false=>exact h1.ok rs1 (by erw[yd])
  |_=>exact h1.elim
theorem znO(ha:PE X a (tE S X ca))(hb:PE X (.BoolOp .Or (b::rest) pos) (tE S X cb)):PE X (.BoolOp .Or (a::b::rest) pos) (tE S X (.or ca cb)) :=
 (zpO ha hb).imp λσ H Q ⟨B,φ,st,ρ,rs,re,h⟩=>by
  erw[ev]at h;refine tE.bind rs re h λx H1 v st1 φ1 s1 rs1 re1 rv h1=>?_
  cases v with
  |bl k =>
   erw[yd]at rv;refine⟨k,rv,?_⟩
   cases k with
   |false=>exact⟨B,φ1,st1,ρ,rs1,re1,h1⟩
   |true=>exact h1.ok rs1 (by erw[yd])
  |_=>exact h1.elim
theorem znG(ha:PE X a (tE S X ca)):PE X (.UnaryOp .Not a pos) (tE S X (.not ca)) :=
 (znJ ha).imp λσ H Q ⟨B,φ,st,ρ,rs,re,h⟩=>by
  erw[ev]at h;refine tE.bind rs re h λx H1 v st1 φ1 s1 rs1 re1 rv h1=>?_
  cases v with
  |bl k =>
   erw[yd]at rv;exact⟨k,rv,h1.ok rs1 (by erw[yd])⟩
  |_=>exact h1.elim
theorem zkZ(ha:PE X a (tE S X ca)):PE X (.UnaryOp .USub a pos) (tE S X (.neg ca)) :=
 (zpB zoP ha).imp λσ H Q ⟨B,φ,st,ρ,rs,re,h⟩=>by
  erw[ev]at h;refine tE.bind rs re h λx H1 v st1 φ1 s1 rs1 re1 rv h1=>?_;split at h1
  .simp only[yd]at rv;exact⟨_,rv,h1.ok rs1 (by erw[yd])⟩
  .exact h1.elim
theorem zof(hc:PT X c (tTs S X cc))(ha:PE X a (tE S X ca))(hb:PE X b (tE S X cb)):PE X (.IfExp c a b pos) (tE S X (.ite cc ca cb)) :=
 (zj8 hc ha hb).imp λσ H Q ⟨B,φ,st,ρ,rs,re,h⟩=>by
  erw[ev]at h;have e:((ev S.call ρ st cc).bind λx st1=>onO (yaT st1 x) λk=>cond k (ev S.call ρ st1 ca) (ev S.call ρ st1 cb))=(ybi (ev S.call ρ st cc)).bind λk st1=>cond k (ev S.call ρ st1 ca) (ev S.call ρ st1 cb):=by
   unfold ybi;rw[R.bind_assoc]
   congr 1
   funext x st1
   cases yaT st1 x<;>rfl
  rw[e]at h;refine tTs.bind rs re h λk H1 st1 φ1 s1 rs1 re1 h1=>?_
  cases k with
  |true=>exact⟨B,φ1,st1,ρ,rs1,re1,h1⟩
  |false=>exact⟨B,φ1,st1,ρ,rs1,re1,h1⟩
theorem zhy:PA X [] (tAs S X .nil):=ybu.imp λσ H Q ⟨B,φ,st,ρ,rs,re,h⟩=>by
 erw[evs]at h;exact h.ok rs (by erw[yg])
theorem zeh(ha:PE X a (tE S X ca))(hr:PA X es (tAs S X ces))(hs:starEach (a::es) X.env=(AC,eval a X.env)::starEach es X.env:=by rfl):PA X (a::es) (tAs S X (.cons ca ces)) :=
 (zbL ha hr hs).imp λσ H Q ⟨B,φ,st,ρ,rs,re,h⟩=>by
  erw[evs]at h;refine tE.bind rs re h λx H1 v st1 φ1 s1 rs1 re1 rv h1=>tAs.bind rs1 re1 h1 λxs H2 vs st2 φ2 s2 rs2 re2 rvs h2=>?_;refine h2.ok rs2 ?_;erw[yg];exact⟨x,xs,rfl,rv.step s2,rvs⟩
theorem zoJ{k:Nat}(h:PA X es (tAs S X ces)):PE X (.Tuple es k pos) (tE S X (.tup ces)) :=
 (znw h).imp λσ H Q ⟨B,φ,st,ρ,rs,re,h⟩=>by
  erw[ev]at h;refine tAs.bind rs re h λxs H1 vs st1 φ1 s1 rs1 re1 rv h1=>?_;split at h1
  .rename_i c;refine⟨by rw[<- zF,<- rv.length];exact c,λp hp=>h1 _ _ φ1 (.upd hp) (rs1.upd hp) (.tup_new hp rs1 rv)⟩
  .exact h1.elim
theorem zn3(h:PA X es (tAs S X ces)):PE X (.List es pos) (tE S X (.lst ces)) :=
 (zkF h).imp λσ H Q ⟨B,φ,st,ρ,rs,re,h⟩=>by
  erw[ev]at h;refine tAs.bind rs re h λxs H1 vs st1 φ1 s1 rs1 re1 rv h1=>?_;split at h1
  .rename_i c;refine⟨by rw[<- zF,<- rv.length];exact c,λp hp=>h1 _ _ φ1 (.upd hp) (rs1.upd hp) (.lst_new hp rs1 rv)⟩
  .exact h1.elim
theorem Step.push{p:AI}{o:HO}(hp:H p=AD):Step φ H (φ++[AA p]) (L2.upd H p o):=by
 refine⟨λb u n e=>by rw[zk (zn e hp)];exact e,by simp,λn a hn e=>?_,λb h=>?_⟩
 .rw[Ai hn]at e;exact e
 .rw[Ar]at h;rcases h with h|h
  .exact .inl h
  .have:b=p:=by simpa using h
   subst this;exact .inr hp
theorem yD.push{K:AE}{cl:Nat->AI}{p:AI}{u:HO}{o:Ob}(rs:yD K cl B φ H st)(hp:H p=AD)(hb:¬B p)(ho:yct K cl B (φ++[AA p]) (L2.upd H p u) o p):yD K cl B (φ++[AA p]) (L2.upd H p u) (st++[o]):=by
 have s:Step φ H (φ++[AA p]) (L2.upd H p u):=.push hp;have np:AA p∉φ:=λz=>by
  let⟨w,e⟩:=rs.there z;rw[hp]at e;cases e
 have hl:φ.length=st.length:=rs.len;refine⟨by simp[hl],λm n a e1 e2=>?_,λn a e=>?_,λn o' e ho'=>?_,λa h=>?_,λa h=>?_⟩
 .by_cases hm:m<φ.length
  .rw[Ai hm]at e1
   by_cases hn:n<φ.length
   .rw[Ai hn]at e2;exact rs.inj m n a e1 e2
   .rw[Aw (by lia)]at e2;have:a=p:=by
     cases q:n - φ.length with
     |zero=>rw[q]at e2;simpa using e2.symm
     |succ k=>rw[q]at e2;simp at e2
    subst this;exact absurd (A0 e1) np
  .rw[Aw (by lia)]at e1;have:m - φ.length=0/\a=p:=by
    cases q:m - φ.length with
    |zero=>rw[q]at e1;exact⟨rfl,by simpa using e1.symm⟩
    |succ k=>rw[q]at e1;simp at e1
   let⟨q1,rfl⟩:=this
   by_cases hn:n<φ.length
   .rw[Ai hn]at e2;exact absurd (A0 e2) np
   .rw[Aw (by lia)]at e2;have:n - φ.length=0:=by
     cases q:n - φ.length with
     |zero=>rfl
     |succ k=>rw[q]at e2;simp at e2
    lia
 .by_cases hn:n<φ.length
  .rw[Ai hn]at e;let⟨o',q,r⟩:=rs.obj n a e;refine⟨o',by rw[Ai (by lia)];exact q,r.step s ?_⟩;rw[zk]
   rintro rfl
   exact np (A0 e)
  .rw[Aw (by lia)]at e;have:n - φ.length=0/\a=p:=by
    cases q:n - φ.length with
    |zero=>rw[q]at e;exact⟨rfl,by simpa using e.symm⟩
    |succ k=>rw[q]at e;simp at e
   let⟨q1,rfl⟩:=this;refine⟨o,?_,ho⟩;rw[Aw (by lia)];have:n - st.length=0:=by lia
   rw[this];rfl
 .by_cases hn:n<φ.length
  .rw[Ai (by lia)]at e;let⟨a,q⟩:=rs.liv n o' e ho';exact⟨a,by rw[Ai hn];exact q⟩
  .rw[Aw (by lia)]at e;have:n - st.length=0:=by
    cases q:n - st.length with
    |zero=>rfl
    |succ k=>rw[q]at e;simp at e
   refine⟨p,?_⟩;rw[Aw (by lia)];have:n - φ.length=0:=by lia
   rw[this];rfl
 .rw[Ar]at h;rcases h with h|h
  .exact rs.nb a h
  .have:a=p:=by simpa using h
   subst this;exact hb
 .let⟨w,e⟩:=rs.dom a h;exact⟨w,by rw[zk (zn e hp)];exact e⟩
theorem yD.nB{K:AE}{cl:Nat->AI}{p:AI}(rs:yD K cl B φ H st)(hp:H p=AD):¬B p:=λz=>by
 let⟨o,e⟩:=rs.dom p z;rw[hp]at e;cases e
theorem yd.loc_new{K:AE}{cl:Nat->AI}{p:AI}(rs:yD K cl B φ H st):yd K cl B (φ++[AA p]) H1 (.loc st.length) (.ref p):=by
 erw[yd];have hl:=rs.len;refine⟨by simp[hl],p,rfl,λb e=>?_⟩;rw[Aw (by lia)]at e;have:st.length - φ.length=0:=by lia
 rw[this]at e;simpa using e.symm
theorem zlu(h:PA X es (tAs S X ces)):PE X (.List es pos) (tE S X (.newl ces)) :=
 (zkF h).imp λσ H Q ⟨B,φ,st,ρ,rs,re,h⟩=>by
  erw[ev]at h;refine tAs.bind rs re h λxs H1 vs st1 φ1 s1 rs1 re1 rv h1=>?_;split at h1
  .rename_i c;refine⟨by rw[<- zF,<- rv.length];exact c,λp hp=>h1 _ _ (φ1++[AA p]) (.push hp) (rs1.push hp (rs1.nB hp) ⟨xs,zu,rv.step (.push hp)⟩) (.loc_new rs1)⟩
  .exact h1.elim
end
section
variable {S:Se}{X:Cx}{σ:St}{B:AI->Prop}{φ φ1:Ph}{H H1:Hp}{st:SO}{ρ:IC.Env}{pos p2:C5}{a b c d:AV}{ca cb cc:Ce}{es:List AV}{ces:Ces}{K:AE}{cl:Nat->AI}
theorem ziV{o:COp}{v w:PV}{α β:Type}{Rel:Ph->Hp->α->β->Prop}{k:Bool->R α}{Q:β->Hp->Prop}(h:Run S X σ B φ H Rel (onO (blO (yF o v w)) k) Q):∃b,yF o v w=AA (.bl b)/\Run S X σ B φ H Rel (k b) Q:=by
 cases e:yF o v w with
 |none=>rw[e]at h;exact h.elim
 |some z =>
  let⟨b,rfl⟩:=zey e;rw[e]at h;exact⟨b,rfl,h⟩
theorem zjy{op op':Fb}{o p:COp}(ho:OpR X (compareOp op) (rT2 S X (yF o)))(ho':OpR X (compareOp op') (rT2 S X (yF p)))(ha:PE X a (tE S X ca))(hb:PE X b (tE S X cb))(hc:PE X c (tE S X cc))
  (hm:lastMarks [op,op'] [b,c]=false:=by ac_rfl):PE X (.Compare a [op,op'] [b,c] pos) (tE S X (.chain o p ca cb cc)) :=
 (zjP ho ho' ha hb hc hm).imp λσ H Q ⟨B,φ,st,ρ,rs,re,h⟩=>by
  erw[ev]at h;refine tE.bind rs re h λx H1 v st1 φ1 s1 rs1 re1 rv h1=>tE.bind rs1 re1 h1 λy H2 w st2 φ2 s2 rs2 re2 rw h2=>?_;let⟨k,e,h2⟩:=ziV h2;refine⟨B,φ2,st2,v,w,.bl k,rs2,rv.step s2,rw,e,λz' H' φ' s' rs' rz=>?_⟩;erw[yd]at rz;refine⟨k,rz,?_⟩
  cases k with
  |false=>exact h2 _ H' φ' s' rs' (by erw[yd])
  |true =>
   refine tE.bind rs' (re2.step s') (Run.on s' h2) λz H3 v3 st3 φ3 s3 rs3 re3 rv3 h3=>?_;let⟨q,eq,hq⟩:=zaq h3 rs3;exact⟨B,φ3,st3,w,v3,q,rs3,(rw.step s').step s3,rv3,eq,hq⟩
theorem zjU{op op':Fb}{o p:COp}(ho:OpR X (compareOp op) (rT2 S X (yF o)))(ho':OpR X (compareOp op') (rT2 S X (yF p)))(ha:PE X a (tE S X ca))(hb:PE X b (tE S X cb))(hc:PE X c (tE S X cc))
  (hm:lastMarks [op,op'] [b,c]=false:=by ac_rfl):PT X (.Compare a [op,op'] [b,c] pos) (tTs S X (.chain o p ca cb cc)) :=
 (zjS ho ho' ha hb hc hm).imp λσ H Q ⟨B,φ,st,ρ,rs,re,h⟩=>by
  erw[ev,ybi,R.bind_assoc]at h;refine tE.bind rs re h λx H1 v st1 φ1 s1 rs1 re1 rv h1=>tE.bind rs1 re1 h1 λy H2 w st2 φ2 s2 rs2 re2 rw h2=>?_;have h2':Run S X σ B φ2 H2 RB (onO (blO (yF o v w)) λk=>cond k ((ev S.call ρ st2 cc).bind λz st3=>(toR (yF p w z) st3).bind λx st=>onO (yaT st x) λb=>.ok b st) (.ok AC st2)) Q:=by
   cases e:yF o v w with
   |none=>rw[e]at h2;exact h2
   |some z =>
    let⟨b,rfl⟩:=zey e;rw[e]at h2
    cases b with
    |false=>exact h2
    |true =>
     erw[blO,onO,cond_true,R.bind_assoc]at h2 ⊢;exact h2
  let⟨k,e,h2⟩:=ziV h2';refine⟨B,φ2,st2,v,w,.bl k,rs2,rv.step s2,rw,e,λz' H' φ' s' rs' rz=>?_⟩;erw[yd]at rz;refine⟨k,rz,?_⟩
  cases k with
  |false=>exact⟨AC,rfl,h2 _ H' φ' s' rs' rfl⟩
  |true =>
   refine tE.bind rs' (re2.step s') (Run.on s' h2) λz H3 v3 st3 φ3 s3 rs3 re3 rv3 h3=>?_
   cases eq:yF p w v3 with
   |none=>rw[eq]at h3;exact h3.elim
   |some q =>
    let⟨b,rfl⟩:=zey eq;rw[eq]at h3;refine⟨B,φ3,st3,w,v3,.bl b,rs3,(rw.step s').step s3,rv3,eq,λz2 H4 φ4 s4 rs4 rz4=>?_⟩;erw[yd]at rz4;exact⟨b,rz4,h3 b H4 φ4 s4 rs4 rfl⟩
theorem yg.at{vs:List PV}{xs:List V}{i:Int}{v:PV}(l:yg K cl B φ H vs xs)(h:at? vs i=AA v):∃x,atI xs i=AA x/\yd K cl B φ H v x:=by
 unfold at? at h;rw[l.length]at h;unfold atI
 cases e:ixI xs.length i with
 |none=>rw[e]at h;cases h
 |some j =>
  rw[e]at h;have e':ixN xs.length i=AA j:=e;rw[e'];exact l.get j h
theorem yD.list{n:Nat}{vs:List PV}{x:V}(rs:yD K cl B φ H st)(r:yd K cl B φ H (.loc n) x)(h:st[n]?=AA (.lst vs)):∃a xs,x=.ref a/\φ[n]?=AA (AA a)/\H a=AA (.lst xs)/\yg K cl B φ H vs xs:=by
 erw[yd]at r;let⟨hn,a,rfl,ha⟩:=r;let⟨b,hb⟩:=rs.liv n _ h (by intro z;cases z);obtain rfl:=ha b hb;let⟨o,ho,ro⟩:=rs.obj n b hb;rw[h]at ho;cases ho;let⟨xs,hx,l⟩:=ro;exact⟨b,xs,rfl,hb,hx,l⟩
def rTS(S:Se)(X:Cx)(f:SO->PV->PV->Option PV):R2:=λx y H Q=>∃B φ st v w z,yD X.K S.cl B φ H st/\yd X.K S.cl B φ H v x/\yd X.K S.cl B φ H w y/\f st v w=AA z /\
 ∀z' H' φ',Step φ H φ' H'->yD X.K S.cl B φ' H' st->yd X.K S.cl B φ' H' z z'->Q z' H'
theorem zcX{α:Type}{xs:List α}{i:PV}{z:α}(h:ybg xs i=AA z):∃k,i=.int k/\at? xs k=AA z:=by
 cases i with
 |int k=>exact⟨k,rfl,h⟩
 |_=>cases h
theorem zmP:IxR X (rTS S X idxV):=by
 rintro value slice pins s σ H x y v u Q I rx ry ⟨B,φ,st,a,i,z,rs,ra,ri,e,q⟩ hs
 cases a with
 |tp k vs =>
  let⟨k,rfl,e⟩:=zcX e;erw[yd]at ra ri;subst ri;let⟨p,xs,rfl,rt,l⟩:=ra;let⟨w,e1,rw⟩:=l.at e;exact zgq value slice pins s σ H _ _ v u Q I rx ry (.inr (.inl ⟨p,xs,k,w,rfl,rfl,rt.sq,e1,q w H φ .rfl rs rw⟩)) hs
 |lst vs =>
  let⟨k,rfl,e⟩:=zcX e;erw[yd]at ra ri;subst ri;let⟨p,xs,rfl,rt,l⟩:=ra;let⟨w,e1,rw⟩:=l.at e;exact zgq value slice pins s σ H _ _ v u Q I rx ry (.inl ⟨p,xs,k,w,rfl,rfl,rt.sq,e1,q w H φ .rfl rs rw⟩) hs
 |loc n =>
  erw[idxV]at e;split at e
  .rename_i vs h1;let⟨k,rfl,e⟩:=zcX e;erw[yd]at ri;subst ri;let⟨p,xs,rfl,_,hx,l⟩:=rs.list ra h1;let⟨w,e1,rw⟩:=l.at e;exact zgq value slice pins s σ H _ _ v u Q I rx ry (.inl ⟨p,xs,k,w,rfl,rfl,.of hx,e1,q w H φ .rfl rs rw⟩) hs
  .cases e
 |str t =>
  erw[idxV]at e;split at e
  .rename_i hl
   cases e1:ybg t.cps.toList i with
   |none=>rw[e1]at e;cases e
   |some c =>
    rw[e1]at e
    cases e
    let⟨k,rfl,e1⟩:=zcX e1;erw[yd]at ra ri;subst ra ri;exact zgq value slice pins s σ H _ _ v u Q I rx ry (.inr (.inr ⟨t,k,c,rfl,rfl,by rw[<- zF];exact hl,e1,q _ H φ .rfl rs (by erw[yd])⟩)) hs
  .cases e
 |_=>cases e
theorem zng(ha:PE X a (tE S X ca))(hb:PE X b (tE S X cb))(hs:ybF b:=by exact λ_ _=>rfl):PE X (.Subscript a b pos) (tE S X (.idx ca cb)) :=
 (zpj zmP ha hb hs).imp λσ H Q ⟨B,φ,st,ρ,rs,re,h⟩=>by
  erw[ev]at h;refine tE.bind rs re h λx H1 v st1 φ1 s1 rs1 re1 rv h1=>tE.bind rs1 re1 h1 λy H2 w st2 φ2 s2 rs2 re2 rw h2=>?_;let⟨z,e,q⟩:=zaq h2 rs2;exact⟨B,φ2,st2,v,w,z,rs2,rv.step s2,rw,e,q⟩
theorem yg.cut{vs:List PV}{xs:List V}(lo hi:Option Int)(l:yg K cl B φ H vs xs):yg K cl B φ H (IC.cut vs lo hi) (ycD xs lo hi):=by
 have e1:∀n o,ycU n o=HT.sIx n 0 o:=λn o=>by cases o<;>rfl
 have e2:∀n o,yc8 n o=HT.sIx n n o:=λn o=>by cases o<;>rfl
 unfold IC.cut ycD;rw[l.length,e1,e2];exact(l.drop _).take _
def tO(S:Se)(X:Cx)(c:Ce):TO:=λσ H Q=>tE S X c σ H λx H1=>(x=.non/\Q AD H1) \/ ∃i,x=.int i/\Q (AA i) H1
theorem zmJ:PO X AD (tO S X (.cst .non)):=λpins s σ H Q I h=>by
 refine zlY pins s σ H Q I ?_;let⟨B,φ,st,ρ,rs,re,h⟩:=h;erw[ev]at h;rcases h.ok rs (x:=V.non) (by erw[yd])with q|⟨i,z,_⟩
 .exact q.2
 .cases z
theorem zlE(ha:PE X a (tE S X ca)):PO X (AA a) (tO S X ca):=by
 intro pins s σ H Q I hw;rw[evalPart_some];refine thn (ha pins s σ H _ I hw) λu s1 kq=>?_;let⟨x,H1,I1,r1,q1⟩:=kq;rcases q1 with⟨rfl,q⟩|⟨i,rfl,q⟩
 .cases r1
  exact⟨AD,H1,I1,.none,q⟩
 .let⟨t,rfl⟩:=r1;exact⟨AA i,H1,I1,.int i t,q⟩
def rSl(S:Se)(X:Cx):V->Option Int->Option Int->Hp->VK->Prop:=λx lo hi H Q=>∃B φ st v z,yD X.K S.cl B φ H st/\yd X.K S.cl B φ H v x/\ycB v lo hi=AA z /\
 ∀z' H' φ',Step φ H φ' H'->yD X.K S.cl B φ' H' st->yd X.K S.cl B φ' H' z z'->Q z' H'
theorem zbI{prog:A8}{w:An}{A:Ay}{E:AG->AJ->Prop}{s:AJ}{t sl:AI}{items:Array AG}{vl vu:AG}{lo hi:Option Int}{Q:AG->AJ->Prop}(ht:G6 s.heap t items)(hs:s.heap.IsSliceOf sl vl vu .none)(pl:FA vl lo)(pu:FA vu hi)
  (hw:HT.sIx items.size 0 lo=0/\HT.sIx items.size items.size hi=items.size)
  (h:Q (.ref t) s):AX (model prog w) A (getItem (.ref t) (.ref sl)) Q E s:=by
 let⟨os,hos,hcs,hds⟩:=id hs;have hTs:s.TypeIs (.ref sl) "slice":=⟨os,hos,hcs⟩;unfold getItem
 try with_reducible refine DH ?_
 first|refine AH (AN ?_)|skip
 refine AH (E9 ht.typeIs (by decide) ?_);refine AH (Ba (name:=AF "__getitem__") ht.typeIs Ah
  (CV Ah ht.typeIs Dx ?_ (EO _ _)))
 show AX _ _ (Cu (.ref t) >>= _) _ _ s;refine AH (E0 ht ?_);refine AH (FB hTs ?_);rw[if_pos (by decide)];refine AH (HT.sliceApplied_gen hs pl pu ?_);have hyes:(((HT.sIx items.size 0 lo:Nat):Int) == 0 && (1:Int) == 1 && (HT.sIx items.size items.size hi - HT.sIx items.size 0 lo) == items.size)=true:=by
  rw[hw.1,hw.2];simp
 show AX _ _ (if (((HT.sIx items.size 0 lo:Nat):Int) == 0 && (1:Int) == 1 && (HT.sIx items.size items.size hi - HT.sIx items.size 0 lo) == items.size)=AB then _ else _) _ _ s;rw[if_pos hyes];refine AH (AH (FB ht.typeIs (AN ?_)));rw[if_pos (by decide)]
 first
  | exact AH (AN (AN ⟨_,rfl,AN h⟩))
  | exact AH (Ex (AN ⟨_,rfl,AN h⟩))
  | (wp_step;wp_step;exact⟨_,rfl,AN h⟩)
noncomputable def yge(K:AE):V->Option Int->Option Int->Hp->VK->Prop:=λx lo hi H Q=>∃a xs,x=.ref a/\SqT K H a xs /\
 (HT.sIx xs.length 0 lo=0/\HT.sIx xs.length xs.length hi=xs.length)/\Q (.ref a) H
theorem zjr:SlR X (yge X.K):=by
 intro pins s σ H x v vl vu lo hi sl Q I rx hs pl pu h;let⟨a,xs,rfl,hx,hw,q⟩:=h
 cases rx
 let⟨its,r,ht,hz⟩:=I.tuple hx;have hlen:its.toArray.size=xs.length:=by rw[AU];exact r.length.symm
 refine⟨"tuple",_,Ah.lookup,ht.typeIs,?_⟩;exact zbI ht hs pl pu (by rw[hlen];exact hw) ⟨.ref a,H,I,rfl,q⟩
noncomputable def ygv:V->Option Int->Option Int->Hp->VK->Prop:=λx lo hi H Q=>∃y:AR,x=.str y/\y.length<=sizeLine/\Q (.str ⟨((y.cps.toList.drop (HT.sIx y.cps.toList.length 0 lo)).take (HT.sIx y.cps.toList.length y.cps.toList.length hi - HT.sIx y.cps.toList.length 0 lo)).toArray⟩) H
theorem yfB(lo hi:Option Int)(n:Nat):EB lo hi 1 n=sliceRange ((HT.sIx n 0 lo:Nat):Int) ((HT.sIx n n hi:Nat):Int) 1:=by
 unfold EB;erw[show (1:Int) > 0 by decide,if_true]
 congr 1
 .cases lo with
  |none=>simp[HT.sIx]
  |some i =>
   erw[HT.sIx]
   by_cases h:i<0
   .simp only[h,if_true]<;>lia
   .simp only[h,if_false]<;>lia
 .cases hi with
  |none=>simp[HT.sIx]
  |some i =>
   erw[HT.sIx]
   by_cases h:i<0
   .simp only[h,if_true]<;>lia
   .simp only[h,if_false]<;>lia
theorem ziR(y:AR)(lo hi:Option Int):Txt.slice y lo hi=⟨((y.cps.toList.drop (HT.sIx y.cps.toList.length 0 lo)).take (HT.sIx y.cps.toList.length y.cps.toList.length hi - HT.sIx y.cps.toList.length 0 lo)).toArray⟩:=by
 have hn:y.length=y.cps.toList.length:=by simp[Str.length]
 unfold Txt.slice;rw[yfB,hn,sliceRange_one];have ha:=HT.sIx_le y.cps.toList.length 0 (Dm _) lo;have hb:=HT.sIx_le y.cps.toList.length y.cps.toList.length (AS _) hi;generalize HT.sIx y.cps.toList.length 0 lo=a at *;generalize HT.sIx y.cps.toList.length y.cps.toList.length hi=b at *;split
 .rename_i c;erw[Ax,List.length_range,AK,beq_iff_eq]at c;obtain⟨rfl,rfl⟩:a=0/\b=y.cps.toList.length:=by lia
  rw[Gr,Nat.sub_zero,GY]
 .rw[pick_run]
theorem zly:SlR X ygv:=by
 intro pins s σ H x v vl vu lo hi sl Q I rx hs pl pu h;let⟨y,rfl,hz,q⟩:=h;let⟨t,rfl⟩:=rx;rw[<- ziR]at q;refine⟨"str",_,PySem.F.slot_str_getitem.lookup,Go _ _ _,?_⟩;have go:∀l u:Option (Int×Ha),vl=partValue l->vu=partValue u->lo=l.map (·.1)->hi=u.map (·.1)->AX (model X.prog X.w) X.A (getItem (.str y t) (.ref sl)) (EP X pins σ Q) X.xe s:=by
  rintro l u rfl rfl rfl rfl
  refine wpAny_getItem_str_slice (l:=l) (u:=u) (st:=AD) hs rfl ?_;exact post_val_or_str ⟨B9 (Txt.slice_le y _ _) hz,λt' k=>⟨.str _,H,I.tok k,⟨_,rfl⟩,q⟩⟩
 cases pl with
 |none =>
  cases pu with
  |none=>exact go AD AD rfl rfl rfl rfl
  |int j u=>exact go AD (AA (j,u)) rfl rfl rfl rfl
 |int i t1 =>
  cases pu with
  |none=>exact go (AA (i,t1)) AD rfl rfl rfl rfl
  |int j u=>exact go (AA (i,t1)) (AA (j,u)) rfl rfl rfl rfl
theorem zlh:SlR X (rSl S X):=by
 rintro pins s σ H x v vl vu lo hi sl Q I rx hs pl pu ⟨B,φ,st,w,z,rs,rw,e,q⟩
 have e1:∀n o,ycU n o=HT.sIx n 0 o:=λn o=>by cases o<;>rfl
 have e2:∀n o,yc8 n o=HT.sIx n n o:=λn o=>by cases o<;>rfl
 cases w with
 |tp k vs =>
  erw[ycB]at e;split at e
  .rename_i c
   cases e
   have rw':=rw;erw[yd]at rw;let⟨p,xs,rfl,rt,l⟩:=rw;refine zjr pins s σ H _ v vl vu lo hi sl Q I rx hs pl pu ⟨p,xs,rfl,rt.sq,?_,q _ H φ .rfl rs rw'⟩;rw[l.length,e1,e2]at c;exact c
  .rename_i c
   cases e
   erw[yd]at rw;let⟨p,xs,rfl,rt,l⟩:=rw;refine znN pins s σ H _ v vl vu lo hi sl Q I rx hs pl pu ⟨p,xs,rfl,rt.sq,?_,λt ht=>q _ _ φ (.upd ht) (rs.upd ht) (.tup_new ht rs (l.cut lo hi))⟩;rw[l.length,e1,e2]at c;exact c
 |str y =>
  erw[ycB]at e;split at e
  .rename_i c
   cases e
   erw[yd]at rw;subst rw;refine zly pins s σ H _ v vl vu lo hi sl Q I rx hs pl pu ⟨y,rfl,by rw[<- zF];exact c,?_⟩;have:=q (.str ⟨(cut y.cps.toList lo hi).toArray⟩) H φ .rfl rs (by erw[yd]);rw[cut,e1,e2]at this;exact this
  .cases e
 |lst vs =>
  erw[ycB]at e
  cases e
  erw[yd]at rw;let⟨p,xs,rfl,rt,l⟩:=rw;exact zhO pins s σ H _ v vl vu lo hi sl Q I rx hs pl pu ⟨p,xs,rfl,rt.sq,λt ht=>q _ _ φ (.upd ht) (rs.upd ht) (.lst_new ht rs (l.cut lo hi))⟩
 |scr vs =>
  erw[ycB]at e
  cases e
  erw[yd]at rw;let⟨p,xs,rfl,rt,l⟩:=rw;exact zhO pins s σ H _ v vl vu lo hi sl Q I rx hs pl pu ⟨p,xs,rfl,(by rcases rt with rt|rt;exact .inl rt.1;exact .inr rt),λt ht=>q _ _ φ (.upd ht) (rs.upd ht) (.lst_new ht rs (l.cut lo hi))⟩
 |_=>cases e
theorem zor{lo hi:Option AV}(ha:PE X a (tE S X ca))(hl:PO X lo (tO S X cb))(hh:PO X hi (tO S X cc)):PE X (.Subscript a (.Slice lo hi AD p2) pos) (tE S X (.slc ca cb cc)) :=
 (zjI zlh ha hl hh).imp λσ H Q ⟨B,φ,st,ρ,rs,re,h⟩=>by
  erw[ev]at h;have oi:∀{v:PV} {x:V} {o:Option Int} {B φ H},yd X.K S.cl B φ H v x->yb8 v=AA o->(x=.non/\o=AD) \/ ∃i,x=.int i/\o=AA i:=λ{v x o B φ H} r e=>by
   cases v with
   |non=>erw[yd]at r;cases e;exact .inl ⟨r,rfl⟩
   |int i=>erw[yd]at r;cases e;exact .inr ⟨i,r,rfl⟩
   |_=>cases e
  refine tE.bind rs re h λx H1 v st1 φ1 s1 rs1 re1 rv h1=>tE.bind rs1 re1 h1 λy H2 w st2 φ2 s2 rs2 re2 rw h2=>?_
  cases eo:yb8 w with
  |none=>rw[eo]at h2;exact h2.elim
  |some o1 =>
   rw[eo]at h2;have key:tO S X cc σ H2 λu H3=>rSl S X x o1 u H3 Q:=by
    refine tE.bind rs2 re2 h2 λy' H3 w' st3 φ3 s3 rs3 re3 rw' h3=>?_;let⟨z,e,q⟩:=zaq h3 rs3;unfold ycJ at e
    cases eo':yb8 w' with
    |none=>rw[eo']at e;cases e
    |some o2 =>
     rw[eo']at e;have fin:rSl S X x o1 o2 H3 Q:=⟨B,φ3,st3,v,z,rs3,(rv.step s2).step s3,e,q⟩;rcases oi rw' eo' with⟨rfl,rfl⟩|⟨i,rfl,rfl⟩
     .exact .inl ⟨rfl,fin⟩
     .exact .inr ⟨i,rfl,fin⟩
   rcases oi rw eo with⟨rfl,rfl⟩|⟨i,rfl,rfl⟩
   .exact .inl ⟨rfl,key⟩
   .exact .inr ⟨i,rfl,key⟩
end
section
variable {S:Se}{X:Cx}{σ:St}{B:AI->Prop}{φ φ1:Ph}{H H1:Hp}{st:SO}{ρ:IC.Env}{p pos p2:C5}{a b c d:AV}{ca cb cc:Ce}{es:List AV}{ces:Ces}{K:AE}{cl:Nat->AI}
def rB(S:Se)(X:Cx)(k:Blt):List V->Hp->VK->Prop:=λxs H Q=>∃B φ st vs z,yD X.K S.cl B φ H st/\yg X.K S.cl B φ H vs xs/\yaD k st vs=AA z /\
 ∀z' H' φ',Step φ H φ' H'->yD X.K S.cl B φ' H' st->yd X.K S.cl B φ' H' z z'->Q z' H'
theorem yg.one{v:PV}{xs:List V}(l:yg K cl B φ H [v] xs):∃x,xs=[x]/\yd K cl B φ H v x:=by
 erw[yg]at l;let⟨y,ys,rfl,r,rfl⟩:=l;exact⟨y,rfl,r⟩
theorem yg.two{v w:PV}{xs:List V}(l:yg K cl B φ H [v,w] xs):∃x y,xs=[x,y]/\yd K cl B φ H v x/\yd K cl B φ H w y:=by
 erw[yg]at l;let⟨y,ys,rfl,r,z,zs,rfl,r2,rfl⟩:=l;exact⟨y,z,rfl,r,r2⟩
theorem zew{k:Blt}{st:SO}{vs:List PV}{z:PV}(h:yaD k st vs=AA z)(h2:∀x y,yaD k st [x,y]=AD):∃x,vs=[x]:=by
 match vs,h with
 | [x],_=>exact⟨x,rfl⟩
 | [x,y],h=>rw[h2]at h;cases h
theorem zdC{v:PV}{x:V}{vs:List PV}(rs:yD K cl B φ H st)(r:yd K cl B φ H v x)(h:yah st v=AA vs):∃a xs,x=.ref a/\SqL K H a xs/\yg K cl B φ H vs xs:=by
 cases v with
 |lst ws =>
  cases h
  erw[yd]at r;let⟨a,xs,rfl,rt,l⟩:=r;exact⟨a,xs,rfl,rt.sq,l⟩
 |loc n =>
  erw[yah]at h;split at h
  .rename_i ws hw
   cases h
   let⟨a,xs,rfl,_,hx,l⟩:=rs.list r hw;exact⟨a,xs,rfl,.of hx,l⟩
  .cases h
 |_=>cases h
theorem zop{v:PV}{x:V}{vs:List PV}(rs:yD K cl B φ H st)(r:yd K cl B φ H v x)(h:yci st v=AA vs):∃a xs,x=.ref a/\(SqL K H a xs \/ SqT K H a xs)/\yg K cl B φ H vs xs:=by
 cases v with
 |tp k ws =>
  cases h
  erw[yd]at r;let⟨a,xs,rfl,rt,l⟩:=r;exact⟨a,xs,rfl,.inr rt.sq,l⟩
 |lst ws =>
  let⟨a,xs,e,q,l⟩:=zdC rs r (vs:=vs) h;exact⟨a,xs,e,.inl q,l⟩
 |loc n =>
  let⟨a,xs,e,q,l⟩:=zdC rs r (vs:=vs) h;exact⟨a,xs,e,.inl q,l⟩
 |_=>cases h
theorem znQ:yar X (.builtin "len") (rB S X .len):=by
 rintro pins s σ H xs us Q I r ⟨B,φ,st,vs,z,rs,l,e,q⟩
 let⟨v,rfl⟩:=zew e λ_ _=>rfl;let⟨x,rfl,rv⟩:=l.one;erw[yaD,lenV]at e;split at e
 .rename_i t;split at e
  .rename_i c
   cases e
   erw[yd]at rv;subst rv;exact zfq pins s σ H _ us Q I r ⟨t,rfl,by rw[<- zF];exact c,q _ H φ .rfl rs (by erw[yd])⟩
  .cases e
 .cases e1:yci st v with
  |none=>rw[e1]at e;cases e
  |some ws =>
   rw[e1]at e
   cases e
   let⟨a,ys,rfl,h,l⟩:=zop rs rv e1;refine zfg pins s σ H _ us Q I r ⟨a,ys,rfl,?_,q _ H φ .rfl rs (by erw[yd];rw[l.length])⟩;exact h
theorem zl8{k:Blt}{st:SO}{vs:List PV}{z:PV}(h:yaD k st vs=AA z)(h2:∀x,yaD k st [x]=AD):∃x y,vs=[x,y]:=by
 match vs,h with
 | [x,y],_=>exact⟨x,y,rfl⟩
 | [x],h=>rw[h2]at h;cases h
theorem zoK(hc:X.calm=AB):yar X (.builtin "min") (rB S X .min):=by
 rintro pins s σ H xs us Q I r ⟨B,φ,st,vs,z,rs,l,e,q⟩
 let⟨v,w,rfl⟩:=zl8 e λ_=>rfl;let⟨x,y,rfl,rv,rw⟩:=l.two;erw[yaD,yfn]at e;split at e
 .cases e
  erw[yd]at rv rw;subst rv rw;exact zif hc pins s σ H _ us Q I r ⟨_,_,rfl,q _ H φ .rfl rs (by erw[yd])⟩
 .cases e
theorem zkH:∀{vs:List PV} {m:Int},yde vs=AA m->∃ns:List Int,vs=ns.map .int/\m∈ns/\∀a∈ns,a<=m
 | [],m,h=>by cases h
 | [.int i],m,h=>by cases h;exact⟨[i],rfl,by simp,by simp⟩
 | .int i::w::r,m,h=>by
  erw[yde]at h;split at h
  .rename_i c e
   cases h
   let⟨ns,e1,e2,e3⟩:=zkH e;refine⟨i::ns,by rw[e1];rfl,?_,λa ha=>?_⟩
   .split
    .exact AT _ e2
    .exact Aj
   .rcases AQ.mp ha with rfl|ha
    .split<;>lia
    .have:=e3 a ha;split<;>lia
  .cases h
 | .non::r,m,h=>by cases r<;>cases h
 | .bl _::r,m,h=>by cases r<;>cases h
 | .str _::r,m,h=>by cases r<;>cases h
 | .tp _ _::r,m,h=>by cases r<;>cases h
 | .lst _::r,m,h=>by cases r<;>cases h
 | .loc _::r,m,h=>by cases r<;>cases h
 | .exn _::r,m,h=>by cases r<;>cases h
 | .scr _::r,m,h=>by cases r<;>cases h
theorem yg.ints:∀{ns:List Int} {xs:List V},yg K cl B φ H (ns.map .int) xs->xs=ns.map V.int
 | [],xs,h=>by simpa only[A5,yg] using h
 |n::ns,xs,h=>by
  erw[AL,yg]at h;let⟨y,ys,rfl,r,l⟩:=h;erw[yd]at r;rw[r,yg.ints l];rfl
theorem yg.bls:∀{ns:List Bool} {xs:List V},yg K cl B φ H (ns.map .bl) xs->xs=ns.map V.bl
 | [],xs,h=>by simpa only[A5,yg] using h
 |n::ns,xs,h=>by
  erw[AL,yg]at h;let⟨y,ys,rfl,r,l⟩:=h;erw[yd]at r;rw[r,yg.bls l];rfl
theorem zle{v w z:PV}(e:maxV v w=AA z):∃i j,v=.int i/\w=.int j/\z=.int (if i<j then j else i):=by
 unfold maxV at e;split at e
 .exact⟨_,_,rfl,rfl,(AW e).symm⟩
 .cases e
theorem zn2(hc:X.calm=AB):yar X (.builtin "max") (rB S X .max):=by
 rintro pins s σ H xs us Q I r ⟨B,φ,st,vs,z,rs,l,e,q⟩
 rcases vs with _|⟨v,_|⟨w,_|⟨u',t⟩⟩⟩
 .simp[yaD]at e
 .let⟨x,rfl,rv⟩:=l.one;erw[yaD]at e
  cases e1:yah st v with
  |none=>rw[e1]at e;cases e
  |some ws =>
   rw[e1]at e;erw[B7]at e
   cases e2:yde ws with
   |none=>rw[e2]at e;cases e
   |some m =>
    rw[e2]at e;obtain rfl:=AW e;let⟨ns,rfl,hm,hb⟩:=zkH e2;let⟨a,ys,rfl,h,l⟩:=zdC rs rv e1;rw[l.ints]at h;refine zie hc pins s σ H _ us Q I r ⟨a,ns,rfl,h,List.length_pos_of_mem hm,λM h1 h2=>?_⟩;have:M=m:=by
     have:=hb M h1;have:=h2 m hm;lia
    subst this;exact q _ H φ .rfl rs (by erw[yd])
 .let⟨x,y,rfl,rv,rw⟩:=l.two;have e:maxV v w=AA z:=e;let⟨i,j,rfl,rfl,rfl⟩:=zle e;erw[yd]at rv rw;subst rv rw;exact zhL hc pins s σ H _ us Q I r ⟨i,j,rfl,q (.int (if i<j then j else i)) H φ .rfl rs (by erw[yd])⟩
 .simp[yaD]at e
theorem zjA:yar X (.type "tuple") (rB S X .tuple):=by
 rintro pins s σ H xs us Q I r ⟨B,φ,st,vs,z,rs,l,e,q⟩
 let⟨v,rfl⟩:=zew e λ_ _=>rfl;let⟨x,rfl,rv⟩:=l.one;erw[yaD,yfh]at e;split at e
 .cases e
  erw[yd]at rv;let⟨a,ys,rfl,rt,l⟩:=rv;exact zbS pins s σ H _ us Q I r ⟨a,ys,rfl,.inr ⟨rt.sq,q _ H φ .rfl rs (by erw[yd];exact⟨a,ys,rfl,rt,l⟩)⟩⟩
 .cases e1:yah st v with
  |none=>rw[e1]at e;cases e
  |some ws =>
   rw[e1]at e
   cases e
   let⟨a,ys,rfl,h,l⟩:=zdC rs rv e1;exact zbS pins s σ H _ us Q I r ⟨a,ys,rfl,.inl ⟨h,λt ht=>q _ _ φ (.upd ht) (rs.upd ht) (.tup_new ht rs l)⟩⟩
theorem zkL:∀{vs:List PV} {m:Bool},IC.allB vs=AA m->∃ns:List Bool,vs=ns.map .bl/\m=ns.all id
 | [],m,h=>by cases h;exact⟨[],rfl,rfl⟩
 | .bl i::r,m,h=>by
  erw[IC.allB]at h;split at h
  .rename_i c e
   cases h
   let⟨ns,e1,e2⟩:=zkL e;exact⟨i::ns,by rw[e1];rfl,by rw[e2];rfl⟩
  .cases h
 | .non::r,m,h=>by cases h
 | .int _::r,m,h=>by cases h
 | .str _::r,m,h=>by cases h
 | .tp _ _::r,m,h=>by cases h
 | .lst _::r,m,h=>by cases h
 | .loc _::r,m,h=>by cases h
 | .exn _::r,m,h=>by cases h
 | .scr _::r,m,h=>by cases h
theorem zk6:∀{vs:List PV} {m:Int},ycI vs=AA m->∃ns:List Int,vs=ns.map .int/\m=ns.sum
 | [],m,h=>by cases h;exact⟨[],rfl,rfl⟩
 | .int i::r,m,h=>by
  erw[ycI]at h;split at h
  .rename_i c e
   cases h
   let⟨ns,e1,e2⟩:=zk6 e;exact⟨i::ns,by rw[e1];rfl,by rw[e2,De]⟩
  .cases h
 | .non::r,m,h=>by cases h
 | .bl _::r,m,h=>by cases h
 | .str _::r,m,h=>by cases h
 | .tp _ _::r,m,h=>by cases h
 | .lst _::r,m,h=>by cases h
 | .loc _::r,m,h=>by cases h
 | .exn _::r,m,h=>by cases h
 | .scr _::r,m,h=>by cases h
theorem zm3(hc:X.calm=AB):yar X (.builtin "all") (rB S X .all):=by
 rintro pins s σ H xs us Q I r ⟨B,φ,st,vs,z,rs,l,e,q⟩
 let⟨v,rfl⟩:=zew e λ_ _=>rfl;let⟨x,rfl,rv⟩:=l.one;erw[yaD]at e
 cases e1:yah st v with
 |none=>rw[e1]at e;cases e
 |some ws =>
  rw[e1]at e;erw[B7]at e
  cases e2:IC.allB ws with
  |none=>rw[e2]at e;cases e
  |some m =>
   rw[e2]at e
   cases e
   let⟨ns,rfl,rfl⟩:=zkL e2;let⟨a,ys,rfl,h,l⟩:=zdC rs rv e1;rw[l.bls]at h;exact zj1 hc pins s σ H _ us Q I r ⟨a,ns,rfl,h,q _ H φ .rfl rs (by erw[yd])⟩
theorem znm(hc:X.calm=AB):yar X (.builtin "sum") (rB S X .sum):=by
 rintro pins s σ H xs us Q I r ⟨B,φ,st,vs,z,rs,l,e,q⟩
 let⟨v,rfl⟩:=zew e λ_ _=>rfl;let⟨x,rfl,rv⟩:=l.one;erw[yaD]at e
 cases e1:yah st v with
 |none=>rw[e1]at e;cases e
 |some ws =>
  rw[e1]at e;erw[B7]at e
  cases e2:ycI ws with
  |none=>rw[e2]at e;cases e
  |some m =>
   rw[e2]at e
   cases e
   let⟨ns,rfl,rfl⟩:=zk6 e2;let⟨a,ys,rfl,h,l⟩:=zdC rs rv e1;rw[l.ints]at h;exact zji hc pins s σ H _ us Q I r ⟨a,ns,rfl,h,q _ H φ .rfl rs (by erw[yd])⟩
variable {x:AR}{id T:String}{k:Blt}
theorem zoS(hc:yar X (.builtin id) (rB S X k))(hg:Gl X x)(hm:X.mg x=AD)(hv:bootBuiltins x=AA (.builtin id))(ha:PA X (a::es) (tAs S X ces))(hn:x ≠ "__name__":=by decide)(hdb:(x == ("__debug__":AR))=false:=by decide)
  (he:starEach (a::es) X.env=(AC,eval a X.env)::starEach es X.env:=by rfl) (hpl:(backTo pos (starEach es X.env)).any (·.1)=false:=by rfl):PE X (.Call (.Name x p) (a::es) [] pos) (tE S X (.blt k ces)) :=
 (zgM hc hg hm hv ha hn hdb he hpl).imp λσ H Q ⟨B,φ,st,ρ,rs,re,h⟩=>by
  erw[ev]at h;refine tAs.bind rs re h λxs H1 vs st1 φ1 s1 rs1 re1 rv h1=>?_;let⟨z,e,q⟩:=zaq h1 rs1;exact⟨B,φ1,st1,vs,z,rs1,rv,e,q⟩
theorem zlm(hc:yar X (.type T) (rB S X k))(hg:Gl X x)(hm:X.mg x=AD)(hv:bootBuiltins x=AA (.type T))(ha:PA X (a::es) (tAs S X ces))(hn:x ≠ "__name__":=by decide)(hdb:(x == ("__debug__":AR))=false:=by decide)
  (he:starEach (a::es) X.env=(AC,eval a X.env)::starEach es X.env:=by rfl) (hpl:(backTo pos (starEach es X.env)).any (·.1)=false:=by rfl):PE X (.Call (.Name x p) (a::es) [] pos) (tE S X (.blt k ces)) :=
 (zh8 hc hg hm hv ha hn hdb he hpl).imp λσ H Q ⟨B,φ,st,ρ,rs,re,h⟩=>by
  erw[ev]at h;refine tAs.bind rs re h λxs H1 vs st1 φ1 s1 rs1 re1 rv h1=>?_;let⟨z,e,q⟩:=zaq h1 rs1;exact⟨B,φ1,st1,vs,z,rs1,rv,e,q⟩
end
section
variable {S:Se}{X:Cx}{σ:St}{B:AI->Prop}{φ φ1:Ph}{H H1:Hp}{st:SO}{ρ:IC.Env}{p pos p2 apos:C5}{a b c d:AV}{ca cb cc:Ce}{es:List AV}{ces:Ces}{K:AE}{cl:Nat->AI}
theorem Step.put{l:AI}{u:HO}(hl:AA l∈φ):Step φ H φ (L2.upd H l u) :=
 ⟨λb o n e=>by rw[zk (show b≠l from λz=>n (by rw[z];exact hl))];exact e,AS _,λ_ _ _ e=>e,λ_ h=>.inl h⟩
theorem yD.put{n:Nat}{l:AI}{u:HO}{o:Ob}(rs:yD K cl B φ H st)(hn:φ[n]?=AA (AA l))(ho:yct K cl B φ (L2.upd H l u) o l):yD K cl B φ (L2.upd H l u) (st.set n o):=by
 have hm:AA l∈φ:=A0 hn;have s:Step φ H φ (L2.upd H l u):=.put hm;have hlt:n<st.length:=by rw[<- rs.len];exact(BP.mp hn).1
 refine⟨by rw[Be];exact rs.len,rs.inj,λm a e=>?_,λm o' e ho'=>?_,rs.nb,λa h=>?_⟩
 .by_cases hmn:m=n
  .subst hmn;rw[hn]at e;cases e;exact⟨o,by rw[A9 hlt],ho⟩
  .let⟨o',q,r⟩:=rs.obj m a e;refine⟨o',by rw[AO (BM hmn)];exact q,r.step s ?_⟩;rw[zk]
   rintro rfl
   exact hmn (rs.inj m n a e hn)
 .by_cases hmn:m=n
  .subst hmn;exact⟨l,hn⟩
  .rw[AO (BM hmn)]at e;exact rs.liv m o' e ho'
 .let⟨w,e⟩:=rs.dom a h
  by_cases z:a=l
  .subst z;exact⟨u,zu⟩
  .exact⟨w,by rw[zk z];exact e⟩
theorem yb9:1000000<=sizeLine:=by rw[Dl];decide
theorem ziF{m:Mth}{v:PV}{st:SO}{α β:Type}{Rel:Ph->Hp->α->β->Prop}{k:Bool->R α}{Q:β->Hp->Prop}(h:Run S X σ B φ H Rel (onO (ya3 m st v) k) Q):∃b,ya3 m st v=AA b/\Run S X σ B φ H Rel (k b) Q:=by
 cases e:ya3 m st v with
 |none=>rw[e]at h;exact h.elim
 |some z=>rw[e]at h;exact⟨z,rfl,h⟩
theorem zi6(ha:PE X a (tE S X ca))(hb:PE X b (tE S X cb))(hs:starEach [b] X.env=[(AC,eval b X.env)]:=by rfl)(hbase:attributeBase a "append" X.env (eval a X.env)=eval a X.env:=by rfl)(hline:(apos.endLine == pos.line)=true:=by rfl)
  (hfew:((backTo pos (starEach [b] X.env)).all (λx=>!x.1) && (backToKw pos (keywordEach [] X.env)).all (λx=>x.1.isSome) && decide (([b]:List AV).length+([]:List Ca).length+(if ([]:List Ca).isEmpty then 0 else 1)<30))=true:=by rfl) :
  PE X (.Call (.Attribute a "append" apos) [b] [] pos) (tE S X (.mth .append ca (.cons cb .nil))) :=
 (zpp PySem.F.plainAttrs_list FT PySem.F.type_list_append ze8 ha (zeh (S:=S) hb zhy hs) hbase hfew hline hs rfl).imp λσ H Q ⟨B,φ,st,ρ,rs,re,h⟩=>by
  erw[ev]at h;refine tE.bind rs re h λx H1 v st1 φ1 s1 rs1 re1 rv h1=>?_;let⟨_,e1,h1⟩:=ziF h1;have t1:∃ws,yah st1 v=AA ws:=by
   erw[ya3]at e1
   cases q:yah st1 v with
   |none=>rw[q]at e1;cases e1
   |some ws=>exact⟨ws,rfl⟩
  let⟨ws,t1⟩:=t1;let⟨l,xs,rfl,hl,_⟩:=zdC rs1 rv t1;refine⟨.inl ⟨rfl,xs,hl⟩,tAs.bind rs1 re1 h1 λys H2 vs st2 φ2 s2 rs2 re2 rvs h2=>?_⟩;have rv2:=rv.step s2;rcases vs with _|⟨w,_|⟨w',t⟩⟩
  .exact h2.elim
  .let⟨y,rfl,rw⟩:=rvs.one;unfold ycL at h2;erw[yeJ]at h2;split at h2
   .rename_i n;split at h2
    .rename_i zs hz;split at h2
     .rename_i c;let⟨l',xs',e,hn,hx,lr⟩:=rs2.list rv2 hz
      cases e
      refine⟨l,xs',y,rfl,rfl,hx,by have:=yb9;have:=lr.length;lia,?_⟩;exact h2 _ _ φ2 (.put (A0 hn)) (rs2.put hn ⟨_,zu,(lr.append (by erw[yg];exact⟨y,[],rfl,rw,rfl⟩)).step (.put (A0 hn))⟩) (by erw[yd])
     .exact h2.elim
    .exact h2.elim
   .exact h2.elim
  .exact h2.elim
theorem zoR(ha:PE X a (tE S X ca)):PE X a (tE S X (.frz ca)) :=
 ha.imp λσ H Q ⟨B,φ,st,ρ,rs,re,h⟩=>by
  erw[ev]at h;refine tE.bind rs re h λx H1 v st1 φ1 s1 rs1 re1 rv h1=>?_;unfold ydP at h1;split at h1
  .rename_i n;split at h1
   .rename_i vs hv;let⟨l,xs,rfl,hn,hx,lr⟩:=rs1.list rv hv;have hm:AA l∈φ1:=A0 hn;have hlt:n<φ1.length:=(BP.mp hn).1;have nl:AA l∉φ1.set n none:=λz=>by
     let⟨m,e⟩:=D4.mp z
     by_cases hmn:m=n
     .subst hmn;rw[A9 hlt]at e;cases e
     .rw[AO (BM hmn)]at e;exact hmn (rs1.inj m n l e hn)
    have sb:∀b,AA b∈φ1.set n AD->AA b∈φ1:=λb z=>by
     let⟨m,e⟩:=D4.mp z
     by_cases hmn:m=n
     .subst hmn;rw[A9 hlt]at e;cases e
     .rw[AO (BM hmn)]at e;exact A0 e
    have s:Step φ1 H1 (φ1.set n AD) H1:=⟨λ_ _ _ e=>e,by simp,λm a hm' e=>by
     by_cases hmn:m=n
     .subst hmn;rw[A9 hlt]at e;cases e
     .rw[AO (BM hmn)]at e;exact e,λb z=>.inl (sb b z)⟩
    refine h1 _ H1 (φ1.set n AD) s ⟨by simp[rs1.len],λm k a e1 e2=>?_,λm a e=>?_,λm o e ho=>?_,λa z=>rs1.nb a (sb a z),rs1.dom⟩ ?_
    .by_cases h1':m=n
     .subst h1';rw[A9 hlt]at e1;cases e1
     .by_cases h2':k=n
      .subst h2';rw[A9 hlt]at e2;cases e2
      .rw[AO (BM h1')]at e1;rw[AO (BM h2')]at e2;exact rs1.inj m k a e1 e2
    .by_cases hmn:m=n
     .subst hmn;rw[A9 hlt]at e;cases e
     .rw[AO (BM hmn)]at e;let⟨o,q,r⟩:=rs1.obj m a e;exact⟨o,by rw[AO (BM hmn)];exact q,r.step s rfl⟩
    .by_cases hmn:m=n
     .subst hmn;rw[A9 (by rw[<- rs1.len];exact hlt)]at e;cases e;exact absurd rfl ho
     .rw[AO (BM hmn)]at e ⊢;exact rs1.liv m o e ho
    .simp only[yd];exact⟨l,xs,rfl,⟨hx,rs1.nb l hm,nl⟩,lr.step s⟩
   .exact h1.elim
  .exact h1.ok rs1 rv
end
section
variable (S:Se)(X:Cx)
def yaM(B:AI->Prop)(φ:Ph)(H:Hp)(f:Fl)(D:Ends):Prop :=
 match f with
 | .nx ρ' st'=>∀σ' H' φ',Step φ H φ' H'->yD X.K S.cl B φ' H' st'->yQ X.K S.cl B φ' H' ρ' σ'->D.nx σ' H'
 | .rt v st'=>∀x H' φ',Step φ H φ' H'->yD X.K S.cl B φ' H' st'->yd X.K S.cl B φ' H' v x->D.rt x H'
 | .bk ρ' st'=>∀σ' H' φ',Step φ H φ' H'->yD X.K S.cl B φ' H' st'->yQ X.K S.cl B φ' H' ρ' σ'->D.bk σ' H'
 | .ct ρ' st'=>∀σ' H' φ',Step φ H φ' H'->yD X.K S.cl B φ' H' st'->yQ X.K S.cl B φ' H' ρ' σ'->D.ct σ' H'
 | .exc k ρ' st'=>∀σ' φ1 H1 e s',Step φ H φ1 H1->yQ X.K S.cl B φ1 H1 ρ' σ'->ExcAt S X σ' B φ1 H1 k st' e s'->X.xe e s'
 | .bad=>False
def tS(c:Cs):TS:=λD σ H=>∃B φ st ρ,yD X.K S.cl B φ H st/\yQ X.K S.cl B φ H ρ σ/\yaM S X B φ H (ex S.call ρ st c) D
def tSs(c:Css):TS:=λD σ H=>∃B φ st ρ,yD X.K S.cl B φ H st/\yQ X.K S.cl B φ H ρ σ/\yaM S X B φ H (exs S.call ρ st c) D
end
section
variable {S:Se}{X:Cx}{σ:St}{B:AI->Prop}{φ φ1:Ph}{H H1:Hp}{st:SO}{ρ:IC.Env}{D:Ends}{pos p2 px:C5}{a b c o:AV}{ca cb cc:Ce}{s1:CC}{ss ss':List CC}{c1:Cs}{cs cs':Css}
theorem yaM.on{f:Fl}(s:Step φ H φ1 H1)(h:yaM S X B φ H f D):yaM S X B φ1 H1 f D:=by
 cases f with
 |nx ρ st=>exact λσ' H' φ' t=>h σ' H' φ' (s.trans t)
 |rt ρ st=>exact λσ' H' φ' t=>h σ' H' φ' (s.trans t)
 |bk ρ st=>exact λσ' H' φ' t=>h σ' H' φ' (s.trans t)
 |ct ρ st=>exact λσ' H' φ' t=>h σ' H' φ' (s.trans t)
 |exc k ρ st=>exact λσ' φ2 H2 e s' t=>h σ' φ2 H2 e s' (s.trans t)
 |bad=>exact h
theorem tE.fl{k:PV->SO->Fl}{P:V->Hp->Prop}(rs:yD X.K S.cl B φ H st)(re:yQ X.K S.cl B φ H ρ σ)(h:yaM S X B φ H ((ev S.call ρ st ca).fl ρ k) D)
  (n:∀x H1 v st1 φ1,Step φ H φ1 H1->yD X.K S.cl B φ1 H1 st1->yQ X.K S.cl B φ1 H1 ρ σ->yd X.K S.cl B φ1 H1 v x->yaM S X B φ1 H1 (k v st1) D->P x H1):tE S X ca σ H P:=by
 refine⟨B,φ,st,ρ,rs,re,?_⟩
 cases e:ev S.call ρ st ca with
 |ok v st' =>
  rw[e]at h;exact λx H' φ' s rs' rv=>n x H' v st' φ' s rs' (re.step s) rv (h.on s)
 |exc k st' =>
  rw[e]at h;exact λe s' x=>h σ φ H e s' .rfl re x
 |bad=>rw[e]at h;exact h
theorem PS.imp{t t':TS}(h:PS X s1 t')(k:∀D σ H,t D σ H->t' D σ H):PS X s1 t:=λpins s σ H D I q=>h pins s σ H D I (k D σ H q)
theorem PSs.imp{t t':TS}(h:PSs X ss t')(k:∀D σ H,t D σ H->t' D σ H):PSs X ss t:=λpins s σ H D I q=>h pins s σ H D I (k D σ H q)
theorem yQ.set{K:AE}{cl:Nat->AI}(r:yQ K cl B φ H ρ σ)(i:Nat){v:PV}{x:V}(rv:yd K cl B φ H v x):yQ K cl B φ H (ρ.set i (AA v)) (σ.set i (AA x)):=by
 refine⟨by rw[Be,Be];exact r.len,λj w e=>?_⟩
 by_cases h:j=i
 .subst h
  by_cases hl:j<ρ.length
  .rw[A9 hl]at e
   cases e
   exact⟨x,by rw[A9 (by rw[<- r.len];exact hl)],rv⟩
  .rw[BN (by rw[Be];lia)]at e
   cases e
 .rw[AO (BM h)]at e ⊢;exact r.get j w e
theorem znE:PSs X [] (tSs S X .nil):=ycX.imp λD σ H ⟨B,φ,st,ρ,rs,re,h⟩=>by
 erw[exs]at h;exact h σ H φ .rfl rs re
theorem zmf(h1:PS X s1 (tS S X c1))(h2:PSs X ss (tSs S X cs)):PSs X (s1::ss) (tSs S X (.cons c1 cs)) :=
 (zgw h1 h2).imp λD σ H ⟨B,φ,st,ρ,rs,re,h⟩=>by
  erw[exs]at h;refine⟨B,φ,st,ρ,rs,re,?_⟩
  cases e:ex S.call ρ st c1 with
  |nx ρ1 st1 =>
   rw[e]at h;exact λσ' H' φ' s rs' re'=>⟨B,φ',st1,ρ1,rs',re',h.on s⟩
  |rt v st1=>rw[e]at h;exact h
  |bk ρ1 st1=>rw[e]at h;exact h
  |ct ρ1 st1=>rw[e]at h;exact h
  |exc k ρ1 st1=>rw[e]at h;exact h
  |bad=>rw[e]at h;exact h
theorem zmk(he:PE X a (tE S X ca))(hs:swapsWith a AD pos.line X.env=pure false:=by rfl):PS X (.Expr a pos) (tS S X (.expr ca)) :=
 (zmh he hs).imp λD σ H ⟨B,φ,st,ρ,rs,re,h⟩=>by
  erw[ex]at h;exact tE.fl rs re h λx H1 v st1 φ1 s rs1 re1 rv h1=>h1 σ H1 φ1 .rfl rs1 re1
theorem znF(he:PE X a (tE S X ca)):PS X (.Return (AA a) pos) (tS S X (.ret ca)) :=
 (zkY he).imp λD σ H ⟨B,φ,st,ρ,rs,re,h⟩=>by
  erw[ex]at h;exact tE.fl rs re h λx H1 v st1 φ1 s rs1 re1 rv h1=>h1 x H1 φ1 .rfl rs1 rv
theorem zmB:PS X (.Return AD pos) (tS S X (.ret (.cst .non))) :=
 ycS.imp λD σ H ⟨B,φ,st,ρ,rs,re,h⟩=>by
  erw[ex,ev,R.fl]at h;exact h .non H φ .rfl rs (by erw[yd])
theorem zno{i:Nat}{x:AR}(hN:X.N.Nodup)(hi:X.N[i]?=AA x)(hx:Loc X.env.scope x)(he:PE X a (tE S X ca))(hs:swapsWith a (AA (.Name x px)) pos.line X.env=pure false:=by rfl)
  (hf:X.fn x=AB \/ X.env.scope.names.lookup x=AA .local:=by first|exact .inl rfl|exact .inr rfl|assumption):PS X (.Assign [.Name x px] a pos) (tS S X (.asg (.n i) ca)) :=
 (zkP hN hi hx he hs hf).imp λD σ H ⟨B,φ,st,ρ,rs,re,h⟩=>by
  erw[ex]at h;exact tE.fl rs re h λx H1 v st1 φ1 s rs1 re1 rv h1=>h1 _ H1 φ1 .rfl rs1 (re1.set i rv)
theorem flT(r:R PV)(f:Bool->SO->Fl):(r.fl ρ λx st1=>onF (yaT st1 x) λk=>f k st1)=(ybi r).fl ρ f:=by
 cases r with
 |ok v s =>
  erw[R.fl,ybi,R.bind]
  cases yaT s v<;>rfl
 |exc c s=>rfl
 |bad=>rfl
theorem tTs.fl{k:Bool->SO->Fl}{P:Bool->Hp->Prop}(rs:yD X.K S.cl B φ H st)(re:yQ X.K S.cl B φ H ρ σ)(h:yaM S X B φ H ((ybi (ev S.call ρ st ca)).fl ρ k) D)
  (n:∀b H1 st1 φ1,Step φ H φ1 H1->yD X.K S.cl B φ1 H1 st1->yQ X.K S.cl B φ1 H1 ρ σ->yaM S X B φ1 H1 (k b st1) D->P b H1):tTs S X ca σ H P:=by
 refine⟨B,φ,st,ρ,rs,re,?_⟩
 cases e:ybi (ev S.call ρ st ca)with
 |ok v st' =>
  rw[e]at h;exact λx H' φ' s rs' rv=>by
   subst rv;exact n v H' st' φ' s rs' (re.step s) (h.on s)
 |exc k st' =>
  rw[e]at h;exact λe s' x=>h σ φ H e s' .rfl re x
 |bad=>rw[e]at h;exact h
theorem zpF(hc:PT X c (tTs S X cc))(ha:PSs X ss (tSs S X cs))(hb:PSs X ss' (tSs S X cs')):PS X (.If c ss ss' pos) (tS S X (.ite cc cs cs')) :=
 (zpS hc ha hb).imp λD σ H ⟨B,φ,st,ρ,rs,re,h⟩=>by
  erw[ex]at h;rw[flT _ λk st1=>cond k (exs S.call ρ st1 cs) (exs S.call ρ st1 cs')]at h;refine tTs.fl rs re h λk H1 st1 φ1 s rs1 re1 h1=>?_
  cases k with
  |true=>exact⟨B,φ1,st1,ρ,rs1,re1,h1⟩
  |false=>exact⟨B,φ1,st1,ρ,rs1,re1,h1⟩
theorem zoM{i:Nat}{x:AR}{op:Dj}{bo:BOp}(hN:X.N.Nodup)(hi:X.N[i]?=AA x)(hx:Loc X.env.scope x)(he:PE X a (tE S X ca))(ho:PIp X op (rT2 S X (ybX bo)))
  (hf:X.fn x=AB \/ X.env.scope.names.lookup x=AA .local:=by first|exact .inl rfl|exact .inr rfl|assumption) (hd:(x == ("__debug__":AR))=false:=by decide) (hcd:(x == ("__classdict__":AR))=false:=by decide):PS X (.AugAssign (.Name x px) op a pos) (tS S X (.aug i bo ca)) :=
 (zkQ hN hi hx he ho hf).imp λD σ H ⟨B,φ,st,ρ,rs,re,h⟩=>by
  erw[ex]at h
  cases q:ρ[i]? with
  |none=>rw[q]at h;exact h.elim
  |some w =>
   cases w with
   |none=>rw[q]at h;exact h.elim
   |some w =>
    rw[q]at h;let⟨y,hy,rw⟩:=re.get i w q;refine⟨y,hy,tE.fl rs re h λz H1 v st1 φ1 s rs1 re1 rv h1=>?_⟩
    cases e:ybX bo w v with
    |none=>rw[e]at h1;exact h1.elim
    |some u =>
     rw[e]at h1;exact⟨B,φ1,st1,w,v,u,rs1,rw.step s,rv,e,λz' H' φ' s' rs' rz=>h1 _ H' φ' s' rs' ((re1.step s').set i rz)⟩
end
section
variable (S:Se)(X:Cx)
structure Drw(B:AI->Prop)(φ0:Ph)(H0:Hp)(xs:List PV)(J:It):Prop where
 stop:∀φ H,Step φ0 H0 φ H->J.stop xs.length H
 go:∀(i:Nat) φ H,Step φ0 H0 φ H->i<xs.length->J.go i H
 yld:∀(i:Nat) φ H st x H' (B':AI->Prop),(∀y,B' y->B y \/ H0 y=AD)->Step φ0 H0 φ H->yD X.K S.cl B' φ H st->i<xs.length->J.yld i H x H'->∃v,xs[i]?=AA v/\yd X.K S.cl B' φ H' v x/\∀b o,H b=AA o->H' b=AA o
noncomputable abbrev RD(B:AI->Prop):Ph->Hp->List PV->It->Prop:=λφ H=>Drw S X B φ H
def tI(c:Cit):TI:=λσ H R=>∃B φ st ρ,yD X.K S.cl B φ H st/\yQ X.K S.cl B φ H ρ σ/\Run S X σ B φ H (RD S X B) (evi S.call ρ st c) R
end
section
variable {S:Se}{X:Cx}{σ:St}{B:AI->Prop}{φ φ1:Ph}{H H1:Hp}{st:SO}{ρ:IC.Env}{D:Ends}{pos p p2 px:C5}{a b c o tg l:AV}{ca cb cc:Ce}{es:List AV}{ces:Ces}{ss:List CC}{cs:Css}{ci:Cit}{ct:Tg}
theorem zmH:PE X a (tE S X .nope):=λpins s σ H Q I ⟨B,φ,st,ρ,rs,re,h⟩=>by
 erw[ev]at h;exact h.elim
theorem zlU{s1:CC}:PS X s1 (tS S X .nope):=λpins s σ H D I ⟨B,φ,st,ρ,rs,re,h⟩=>by
 erw[ex]at h;exact h.elim
theorem PI.imp{t t':TI}(h:PI X tg l t')(k:∀σ H R,t σ H R->t' σ H R):PI X tg l t:=λpins s σ H R I q=>h pins s σ H R I (k σ H R q)
theorem znB{tl:TE}(hl:PE X l tl):PI X tg l (λσ H R=>tl σ H λx H1=>∃a,x=.ref a/\(((∃xs,SqL X.K H1 a xs)/\R (Itl X.K a) H1) \/ ((∃xs,SqT X.K H1 a xs)/\R (Itt X.K a) H1))):=by
 intro pins s σ H R I h;refine thn (hl pins s σ H _ I h) λv s1 kq=>?_;let⟨x,H1,I1,r1,q1⟩:=kq;let⟨a,e,q1⟩:=q1;subst e
 cases r1
 rcases q1 with⟨⟨xs,hq⟩,q⟩|⟨⟨xs,hq⟩,q⟩
 .let⟨its,rv,p,hz⟩:=I1.list hq;refine GI p.isList ?_;refine⟨s1.heap.objs.size,[s1.heap.objs.size],_,_,H1,rfl,I1.kept (t':=s1.toks) λb o e=>AM _ e,zhz a _,⟨_,A4 _ rfl,rfl,rfl⟩,λb hb=>?_,q⟩;have e:b=s1.heap.objs.size:=by simpa using hb
  subst e;exact I1.fpOk (AS _) (I1.hok.fresh (AS _))
 .let⟨its,rv,p,hz⟩:=I1.tuple hq;refine C3 (show s1.heap.IsTuple a its.toArray from p) ?_;refine⟨s1.heap.objs.size,[s1.heap.objs.size],_,_,H1,rfl,I1.kept (t':=s1.toks) λb o e=>AM _ e,zg6 a _,⟨_,A4 _ rfl,rfl,rfl⟩,λb hb=>?_,q⟩;have e:b=s1.heap.objs.size:=by simpa using hb
  subst e;exact I1.fpOk (AS _) (I1.hok.fresh (AS _))
theorem zme{k:Bool}{vs:List PV}{xs:List V}{y:AI}(rt:yb2 X.K B φ H k y xs)(l:yg X.K S.cl B φ H vs xs):Drw S X B φ H vs (Itt X.K y):=by
 have hl:=l.length;refine⟨λφ' H' s=>⟨xs,(rt.step s).sq,by lia⟩,λi φ' H' s hi=>⟨xs,xs[i]'(by lia),(rt.step s).sq,by simp[show i<xs.length by lia]⟩,λi φ' H' st x H2 B' hB s rs hi q=>?_⟩;let⟨rfl,q⟩:=q;obtain⟨v,hv⟩:∃v,vs[i]?=AA v:=⟨vs[i],by simp[hi]⟩;let⟨x',hx',rv⟩:=l.get i hv;have:=q xs (rt.step s).sq;rw[this]at hx'
 cases hx'
 exact⟨v,hv,(rv.moreB hB).step s,λ_ _ e=>e⟩
theorem zli{vs:List PV}{xs:List V}{y:AI}(rt:yc3 B φ H y xs)(l:yg X.K S.cl B φ H vs xs):Drw S X B φ H vs (Itl X.K y):=by
 have hl:=l.length;refine⟨λφ' H' s=>⟨xs,(rt.step s).sq,by lia⟩,λi φ' H' s hi=>⟨xs,xs[i]'(by lia),(rt.step s).sq,by simp[show i<xs.length by lia]⟩,λi φ' H' st x H2 B' hB s rs hi q=>?_⟩;let⟨rfl,q⟩:=q;obtain⟨v,hv⟩:∃v,vs[i]?=AA v:=⟨vs[i],by simp[hi]⟩;let⟨x',hx',rv⟩:=l.get i hv;have:=q xs (rt.step s).sq;rw[this]at hx'
 cases hx'
 exact⟨v,hv,(rv.moreB hB).step s,λ_ _ e=>e⟩
theorem zoi(hl:PE X l (tE S X ca)):PI X tg l (tI S X (.seq ca)) :=
 (znB hl).imp λσ H R ⟨B,φ,st,ρ,rs,re,h⟩=>by
  erw[evi]at h;refine tE.bind rs re h λx H1 v st1 φ1 s1 rs1 re1 rv h1=>?_
  cases v with
  |tp k vs =>
   erw[yd]at rv;let⟨y,xs,rfl,rt,l⟩:=rv;exact⟨y,rfl,.inr ⟨⟨xs,rt.sq⟩,h1.ok rs1 (zme rt l)⟩⟩
  |lst vs =>
   erw[yd]at rv;let⟨y,xs,rfl,rt,l⟩:=rv;exact⟨y,rfl,.inl ⟨⟨xs,rt.sq⟩,h1.ok rs1 (zli rt l)⟩⟩
  |_=>exact h1.elim
theorem zd8:∀(n:Nat) (lo d:Int) (i:Nat),(yr n lo d)[i]?=if i<n then AA (.int (lo+i*d))else AD
 |0,lo,d,i=>by simp[yr]
 |n+1,lo,d,0=>by simp[yr]
 |n+1,lo,d,i+1=>by
  erw[yr,Ap];rw[zd8 n (lo+d) d i]
  by_cases h:i<n
  .rw[if_pos h,if_pos (by lia),Int.natCast_succ,Cy,Ak,Gz,EC d]
  .rw[if_neg h,if_neg (by lia)]
theorem zbk:∀(n:Nat) (lo d:Int),(yr n lo d).length=n
 |0,lo,d=>rfl
 |n+1,lo,d=>by simp[yr,zbk n]
theorem zhP{lo:Int}{n:Nat}:Drw S X B φ H (yr n lo 1) (Itr lo n):=by
 refine⟨λφ' H' s=>by rw[zbk];exact AS _,λi φ' H' s hi=>by rw[zbk]at hi;exact hi,λi φ' H' st x H2 B' hB s rs hi q=>?_⟩;rw[zbk]at hi;let⟨rfl,rfl⟩:=q;refine⟨.int (lo+i),?_,by erw[yd],λ_ _ e=>e⟩;rw[zd8,if_pos hi,Cr]
theorem zhY{o:Option (List PV)}{st:SO}{Q:It->Hp->Prop}(h:Run S X σ B φ H (RD S X B) (toL o st) Q):∃xs,o=AA xs/\Run S X σ B φ H (RD S X B) (.ok xs st) Q:=by
 cases o with
 |none=>exact h.elim
 |some z=>exact⟨z,rfl,h⟩
theorem zi0(hg:Gl X "range")(hm:X.mg "range"=AD)(ha:PE X a (tE S X ca))(hs:starEach [a] X.env=[(AC,eval a X.env)]:=by rfl):PI X tg (.Call (.Name "range" p) [a] [] pos) (tI S X (.range1 ca)) :=
 (zjc hg hm (zbL ha ybu hs) hs).imp λσ H R ⟨B,φ,st,ρ,rs,re,h⟩=>by
  erw[evi]at h;refine tE.bind rs re h λx H1 v st1 φ1 s1 rs1 re1 rv h1=>?_;let⟨xs,e,h1⟩:=zhY h1
  cases v with
  |int j =>
   erw[yb3]at e;split at e
   .cases e
    erw[yd]at rv;subst rv;exact⟨j,rfl,by lia,by lia,h1.ok rs1 zhP⟩
   .cases e
  |_=>cases e
theorem zdG:∀(xs:List PV) (k i:Nat),(yG k xs)[i]?=(xs[i]?).map λx=>.tup [.int ((k+i:Nat):Int),x]
 | [],k,i=>by simp[yG]
 |x::xs,k,0=>by simp[yG]
 |x::xs,k,i+1=>by
  erw[yG,Ap];rw[zdG xs (k+1) i];have:k+1+i=k+(i+1):=by lia
  rw[this]
theorem zda:∀(xs:List PV) (k:Nat),(yG k xs).length=xs.length
 | [],k=>rfl
 |x::xs,k=>by simp[yG,zda xs]
theorem zjj{k:Bool}{vs:List PV}{xs:List V}{y:AI}(rt:yb2 X.K B φ H k y xs)(l:yg X.K S.cl B φ H vs xs):Drw S X B φ H (yG 0 vs) (Ite X.K y):=by
 have hl:=l.length;have hp:=zda vs 0;refine⟨λφ' H' s=>⟨xs,(rt.step s).sq,by lia⟩,λi φ' H' s hi=>⟨xs,xs[i]'(by lia),(rt.step s).sq,by simp[show i<xs.length by lia]⟩,λi φ' H' st x H2 B' hB s rs hi q=>?_⟩;let⟨T,hT,rfl,q⟩:=q;obtain⟨v,hv⟩:∃v,vs[i]?=AA v:=⟨vs[i]'(by lia),by simp[show i<vs.length by lia]⟩;let⟨x',hx',rv⟩:=l.get i hv;have e:=q xs x' (rt.step s).sq hx';subst e;refine⟨.tup [.int i,v],?_,.tup_new hT rs ?_,λb o e=>by rw[zk (zn e hT)];exact e⟩
 .rw[zdG,hv];simp
 .simp only[yg,yd];exact⟨_,_,rfl,rfl,x',[],rfl,(rv.moreB hB).step s,rfl⟩
theorem zmZ{es:List AV}{kk:Nat}{tp:C5}(hg:Gl X "enumerate")(hm:X.mg "enumerate"=AD)(ha:PE X a (tE S X ca))(hs:starEach [a] X.env=[(AC,eval a X.env)]:=by rfl) :
  PI X (.Tuple es kk tp) (.Call (.Name "enumerate" p) [a] [] pos) (tI S X (.enum ca)) :=
 (zjR hg hm (zbL ha ybu hs) hs).imp λσ H R ⟨B,φ,st,ρ,rs,re,h⟩=>by
  erw[evi]at h;refine tE.bind rs re h λx H1 v st1 φ1 s1 rs1 re1 rv h1=>?_
  cases v with
  |tp k vs =>
   erw[yd]at rv;let⟨y,xs,rfl,rt,l⟩:=rv;exact⟨y,rfl,⟨xs,rt.sq⟩,h1.ok rs1 (zjj rt l)⟩
  |_=>exact h1.elim
def tG(S:Se)(X:Cx)(t:Tg):TG:=λv σ H Q=>∃B φ st ρ w ρ',yD X.K S.cl B φ H st/\yQ X.K S.cl B φ H ρ σ/\yd X.K S.cl B φ H w v/\yO t w ρ=AA ρ'/\∀σ',yQ X.K S.cl B φ H ρ' σ'->Q σ' H
theorem PG.imp{t t':TG}(h:PG X tg t')(k:∀v σ H Q,t v σ H Q->t' v σ H Q):PG X tg t:=λpins s σ H v u Q I rv q=>h pins s σ H v u Q I rv (k v σ H Q q)
theorem zlO{i:Nat}{x:AR}(hN:X.N.Nodup)(hi:X.N[i]?=AA x)(hx:Loc X.env.scope x)(hf:X.fn x=AB \/ X.env.scope.names.lookup x=AA .local:=by first|exact .inl rfl|exact .inr rfl|assumption):PG X (.Name x pos) (tG S X (.n i)) :=
 (zhS hN hi hx hf).imp λv σ H Q ⟨B,φ,st,ρ,w,ρ',rs,re,rv,e,q⟩=>by
  cases e
  exact q _ (re.set i rv)
noncomputable def gNs(l:List Nat):TGs:=λvs σ H Q=>vs.length=l.length/\Q ((l.zip vs).foldl (λσ p=>σ.set p.1 (AA p.2)) σ) H
theorem PGs.imp{es:List AV}{t t':TGs}(h:PGs X es t')(k:∀v σ H Q,t v σ H Q->t' v σ H Q):PGs X es t:=λpins s σ H vs us Q I rv q=>h pins s σ H vs us Q I rv (k vs σ H Q q)
theorem zl5:PGs X [] (gNs []):=ycY.imp λvs σ H Q ⟨h,q⟩=>by
 cases vs with
 |nil=>exact⟨rfl,q⟩
 |cons _ _=>cases h
theorem zj9{es:List AV}{l:List Nat}{i:Nat}{x:AR}(hN:X.N.Nodup)(hi:X.N[i]?=AA x)(hx:Loc X.env.scope x)(h2:PGs X es (gNs l))(hf:X.fn x=AB \/ X.env.scope.names.lookup x=AA .local:=by first|exact .inl rfl|exact .inr rfl|assumption):PGs X (.Name x pos::es) (gNs (i::l)) :=
 (zky (zhS hN hi hx hf) h2).imp λvs σ H Q ⟨h,q⟩=>by
  cases vs with
  |nil=>cases h
  |cons v vs=>exact⟨v,vs,rfl,by simpa using h,q⟩
theorem yQ.sets{K:AE}{cl:Nat->AI}:∀(l:List Nat) {vs:List PV} {xs:List V} {ρ:IC.Env} {σ:St},yQ K cl B φ H ρ σ->yg K cl B φ H vs xs ->
  yQ K cl B φ H ((l.zip vs).foldl (λρ p=>ρ.set p.1 (AA p.2)) ρ) ((l.zip xs).foldl (λσ p=>σ.set p.1 (AA p.2)) σ)
 | [],vs,xs,ρ,σ,re,l=>by simpa using re
 |i::is,[],xs,ρ,σ,re,l=>by
  erw[yg]at l;subst l;simpa using re
 |i::is,v::vs,xs,ρ,σ,re,l=>by
  erw[yg]at l;let⟨y,ys,rfl,r,l⟩:=l;erw[ES,Ds];exact yQ.sets is (re.set i r) l
theorem znL{es:List AV}{l:List Nat}{k:Nat}(hc:X.calm=AB)(h:PGs X es (gNs l))(hn:(assignEach es X.env).length=l.length:=by rfl)(hst:(assignEach es X.env).findIdx? (·.1)=none:=by rfl):PG X (.Tuple es k pos) (tG S X (.t l)) :=
 (zoh hc h hn hst).imp λv σ H Q ⟨B,φ,st,ρ,w,ρ',rs,re,rv,e,q⟩=>by
  cases w with
  |tp kk vs =>
   erw[yO]at e;split at e
   .rename_i c
    cases e
    erw[yd]at rv;let⟨y,xs,rfl,rt,lr⟩:=rv;have hl:=lr.length;exact⟨y,xs,rfl,rt.sq,by lia,by lia,q _ (yQ.sets l re lr)⟩
   .cases e
  |_=>cases e
theorem zmn{es:List AV}{l:List Nat}{k:Nat}(he:PE X a (tE S X ca))(hg:PG X (.Tuple es k p2) (tG S X (.t l)))(hs:swapsWithSole [.Tuple es k p2] a pos.line X.env=pure false:=by rfl)(hw:swappedStores [.Tuple es k p2] a X.env=pure none:=by rfl) :
  PS X (.Assign [.Tuple es k p2] a pos) (tS S X (.asg (.t l) ca)) :=
 (zk3 he hg hs hw).imp λD σ H ⟨B,φ,st,ρ,rs,re,h⟩=>by
  erw[ex]at h;refine tE.fl rs re h λx H1 v st1 φ1 s rs1 re1 rv h1=>?_
  cases e:yO (.t l) v ρ with
  |none=>rw[e]at h1;exact h1.elim
  |some ρ' =>
   rw[e]at h1;exact⟨B,φ1,st1,ρ,v,ρ',rs1,re1,rv,e,λσ' re'=>h1 σ' H1 φ1 .rfl rs1 re'⟩
theorem tI.fl{k:List PV->SO->Fl}{P:It->Hp->Prop}(rs:yD X.K S.cl B φ H st)(re:yQ X.K S.cl B φ H ρ σ)(h:yaM S X B φ H ((evi S.call ρ st ci).fl ρ k) D)
  (n:∀x H1 v st1 φ1,Step φ H φ1 H1->yD X.K S.cl B φ1 H1 st1->yQ X.K S.cl B φ1 H1 ρ σ->Drw S X B φ1 H1 v x->yaM S X B φ1 H1 (k v st1) D->P x H1):tI S X ci σ H P:=by
 refine⟨B,φ,st,ρ,rs,re,?_⟩
 cases e:evi S.call ρ st ci with
 |ok v st' =>
  rw[e]at h;exact λx H' φ' s rs' rv=>n x H' v st' φ' s rs' (re.step s) rv (h.on s)
 |exc k st' =>
  rw[e]at h;exact λe s' x=>h σ φ H e s' .rfl re x
 |bad=>rw[e]at h;exact h
theorem znA(hp:El (model X.prog X.w) X.A X.env X.xe)(hc:X.calm=AB)(hi:PI X tg l (tI S X ci))(hg:PG X tg (tG S X ct))(hb:PSs X ss (tSs S X cs))(hs:∀x,foldedSetIterable l X.env x=pure x:=by intro _;rfl) :
  PS X (.For tg l ss [] pos) (tS S X (.for ct ci cs)) :=
 (zob hp hc hi hg hb hs).imp λD σ H ⟨B,φ,st,ρ,rs,re,h⟩=>by
  erw[ex]at h;refine tI.fl rs re h λJ H1 xs st1 φ1 s1 rs1 re1 dr h1=>?_;refine⟨λi m σ H=>∃φ st ρ,i+m=xs.length/\Step φ1 H1 φ H/\yD X.K S.cl B φ H st/\yQ X.K S.cl B φ H ρ σ/\yaM S X B φ H (forL ct (λρ2 st2=>exs S.call ρ2 st2 cs) (xs.drop i) ρ st) D,
   ⟨xs.length,φ1,st1,ρ,by lia,.rfl,rs1,re1,by simpa using h1⟩,?_⟩
  rintro i m σ2 H2 ⟨φ2,st2,ρ2,hm,s2,rs2,re2,h2⟩
  by_cases hi:i<xs.length
  .refine .inr ⟨dr.go i φ2 H2 s2 hi,λσ' H'=>∃φ st ρ,Step φ1 H1 φ H'/\yD X.K S.cl B φ H' st/\yQ X.K S.cl B φ H' ρ σ'/\yaM S X B φ H' (forL ct (λρ2 st2=>exs S.call ρ2 st2 cs) (xs.drop (i+1)) ρ st) D,
    λσ' H' ⟨φ,st,ρ,s,q⟩=>⟨m - 1,by lia,φ,st,ρ,by lia,s,q⟩,λx H3 hy=>?_⟩
   let⟨v,hv,rv,kk⟩:=dr.yld i φ2 H2 st2 x H3 B (λ_ z=>.inl z) s2 rs2 hi hy;have e:xs.drop i=v::xs.drop (i+1):=by
    rw[E1 hi];rw[CD hi]at hv;rw[AW hv]
   have s3:Step φ2 H2 φ2 H3:=⟨λb o _ e=>kk b o e,AS _,λ_ _ _ e=>e,λ_ h=>.inl h⟩;have rs3:yD X.K S.cl B φ2 H3 st2:=rs2.same kk;rw[e,forL]at h2
   cases eb:yO ct v ρ2 with
   |none=>rw[eb]at h2;exact h2.elim
   |some ρ3 =>
    rw[eb]at h2;refine⟨B,φ2,st2,ρ2,v,ρ3,rs3,re2.step s3,rv,eb,λσ' re'=>⟨B,φ2,st2,ρ3,rs3,re',?_⟩⟩;have h3:=yaM.on s3 h2;dsimp only at h3
    cases ee:exs S.call ρ3 st2 cs with
    |nx ρ4 st4 =>
     rw[ee]at h3;exact λσ4 H4 φ4 s4 rs4 re4=>⟨φ4,st4,ρ4,s2.trans (s3.trans s4),rs4,re4,yaM.on s4 h3⟩
    |ct ρ4 st4 =>
     rw[ee]at h3;exact λσ4 H4 φ4 s4 rs4 re4=>⟨φ4,st4,ρ4,s2.trans (s3.trans s4),rs4,re4,yaM.on s4 h3⟩
    |bk ρ4 st4=>rw[ee]at h3;exact h3
    |rt v4 st4=>rw[ee]at h3;exact h3
    |exc k ρ4 st4=>rw[ee]at h3;exact h3
    |bad=>rw[ee]at h3;exact h3
  .have e:i=xs.length:=by lia
   subst e;rw[GZ,forL]at h2;exact .inl ⟨dr.stop φ2 H2 s2,h2 σ2 H2 φ2 .rfl rs2 re2⟩
theorem zj4(hp:El (model X.prog X.w) X.A X.env X.xe)(hc:PT X c (tTs S X cc))(hb:PSs X ss (tSs S X cs)):PS X (.While c ss [] pos) (tS S X (.while cc cs)) :=
 (zjp hp hc hb).imp λD σ H ⟨B,φ,st,ρ,rs,re,h⟩=>by
  erw[ex]at h;refine⟨λm σ H=>∃φ st ρ,yD X.K S.cl B φ H st/\yQ X.K S.cl B φ H ρ σ/\yaM S X B φ H (yaw (λρ2 st2=>ev S.call ρ2 st2 cc) (λρ2 st2=>exs S.call ρ2 st2 cs) m ρ st) D,⟨100000,φ,st,ρ,rs,re,h⟩,?_⟩
  rintro m σ2 H2 ⟨φ2,st2,ρ2,rs2,re2,h2⟩
  cases m with
  |zero=>exact h2.elim
  |succ m =>
   rw[yaw]at h2;rw[flT _ λk st1=>cond k (yaK (exs S.call ρ2 st1 cs) λρ2 st2=>yaw (λρ2 st2=>ev S.call ρ2 st2 cc) (λρ2 st2=>exs S.call ρ2 st2 cs) m ρ2 st2) (.nx ρ2 st1)]at h2;refine tTs.fl rs2 re2 h2 λk H3 st3 φ3 s3 rs3 re3 h3=>?_
   cases k with
   |false=>exact h3 σ2 H3 φ3 .rfl rs3 re3
   |true =>
    refine⟨λσ' H'=>∃φ st ρ,yD X.K S.cl B φ H' st/\yQ X.K S.cl B φ H' ρ σ'/\yaM S X B φ H' (yaw (λρ2 st2=>ev S.call ρ2 st2 cc) (λρ2 st2=>exs S.call ρ2 st2 cs) m ρ st) D,
     λσ' H' q=>⟨m,by lia,q⟩,B,φ3,st3,ρ2,rs3,re3,?_⟩
    erw[cond_true]at h3
    cases ee:exs S.call ρ2 st3 cs with
    |nx ρ4 st4 =>
     rw[ee]at h3;exact λσ4 H4 φ4 s4 rs4 re4=>⟨φ4,st4,ρ4,rs4,re4,yaM.on s4 h3⟩
    |ct ρ4 st4 =>
     rw[ee]at h3;exact λσ4 H4 φ4 s4 rs4 re4=>⟨φ4,st4,ρ4,rs4,re4,yaM.on s4 h3⟩
    |bk ρ4 st4=>rw[ee]at h3;exact h3
    |rt v4 st4=>rw[ee]at h3;exact h3
    |exc k ρ4 st4=>rw[ee]at h3;exact h3
    |bad=>rw[ee]at h3;exact h3
end
section
variable (S:Se)(K:AE)
def yfu{α β:Type}(B:AI->Prop)(φ:Ph)(H:Hp)(Rel:Ph->Hp->α->β->Prop)(r:R α)(Q:β->Hp->Prop):Prop :=
 match r with
 | .ok v st'=>∀x H' φ',Step φ H φ' H'->yD K S.cl B φ' H' st'->Rel φ' H' v x->Q x H'
 |_=>False
def tE0(c:Ce):TE:=λσ H Q=>∃B φ st ρ,yD K S.cl B φ H st/\yQ K S.cl B φ H ρ σ/\yfu S K B φ H (λφ H=>yd K S.cl B φ H) (ev S.call ρ st c) Q
def tT0(c:Ce):TT:=λσ H Q=>∃B φ st ρ,yD K S.cl B φ H st/\yQ K S.cl B φ H ρ σ/\yfu S K B φ H RB (ybi (ev S.call ρ st c)) Q
def tG0(t:Tg):TG:=λv σ H Q=>∃B φ st ρ w ρ',yD K S.cl B φ H st/\yQ K S.cl B φ H ρ σ/\yd K S.cl B φ H w v/\yO t w ρ=AA ρ'/\∀σ',yQ K S.cl B φ H ρ' σ'->Q σ' H
end
section
variable {S:Se}{X:Cx}{K:AE}{cl:Nat->AI}{σ:St}{B:AI->Prop}{φ φ1:Ph}{H H1:Hp}{st:SO}{ρ:IC.Env}{pos p p2 px:C5}{a b c o tg l elt iter:AV}{ca cb cc ce:Ce}{ci:Cit}{ct:Tg}
theorem zlf(hK:X.K=K)(h:PE X a (tE S X ca)):PE X a (tE0 S K ca):=by
 subst hK;refine h.imp λσ H Q kq=>?_;let⟨B,φ,st,ρ,rs,re,q⟩:=kq;refine ⟨B,φ,st,ρ,rs,re,?_⟩
 cases e:ev S.call ρ st ca with
 |ok v st'=>rw[e]at q;exact q
 |exc k st'=>rw[e]at q;exact q.elim
 |bad=>rw[e]at q;exact q
theorem zmw(hK:X.K=K)(h:PT X a (tTs S X ca)):PTs X [a] (tT0 S K ca):=by
 subst hK;refine zl1 (h.imp λσ H Q kq=>?_);let⟨B,φ,st,ρ,rs,re,q⟩:=kq;refine ⟨B,φ,st,ρ,rs,re,?_⟩
 cases e:ybi (ev S.call ρ st ca)with
 |ok v st'=>rw[e]at q;exact q
 |exc k st'=>rw[e]at q;exact q.elim
 |bad=>rw[e]at q;exact q
theorem zjF:PTs X [] (tT0 S K (.cst (.bl AB))):=λpins s σ H Q I ⟨B,φ,st,ρ,rs,re,q⟩=>by
 refine zmK pins s σ H Q I ?_;erw[ev,ybi,R.bind,yaT,onO]at q;exact q AB H φ .rfl rs rfl
theorem zmD(hK:X.K=K)(h:PG X tg (tG S X ct)):PG X tg (tG0 S K ct):=by
 subst hK;exact h
theorem yb2.skip{k:Bool}{D y:AI}{u:HO}{xs:List V}(hD:B D)(r:yb2 K B φ H k y xs):yb2 K B φ (L2.upd H D u) k y xs:=by
 rcases r with⟨r,b,n⟩|r
 .exact .inl ⟨by rw[zk (show y≠D from λz=>b (z ▸ hD))];exact r,b,n⟩
 .exact .inr r
mutual
theorem yd.skip{D:AI}{u:HO}(hD:B D):∀(v:PV) (x:V),yd K cl B φ H v x->yd K cl B φ (L2.upd H D u) v x
 | .non,x,h=>by erw[yd]at h ⊢;exact h
 | .bl b,x,h=>by erw[yd]at h ⊢;exact h
 | .int i,x,h=>by erw[yd]at h ⊢;exact h
 | .str y,x,h=>by erw[yd]at h ⊢;exact h
 | .tp k vs,x,h=>by
  erw[yd]at h ⊢;let⟨y,xs,e,r,l⟩:=h;exact⟨y,xs,e,r.skip hD,yg.skip hD vs xs l⟩
 | .lst vs,x,h=>by
  erw[yd]at h ⊢;let⟨y,xs,e,⟨r,b,n⟩,l⟩:=h;exact⟨y,xs,e,⟨by rw[zk (show y≠D from λz=>b (z ▸ hD))];exact r,b,n⟩,yg.skip hD vs xs l⟩
 | .loc n,x,h=>by erw[yd]at h ⊢;exact h
 | .exn c,x,h=>by
  erw[yd]at h ⊢;let⟨y,e,r,b,n⟩:=h;exact⟨y,e,by rw[zk (show y≠D from λz=>b (z ▸ hD))];exact r,b,n⟩
 | .scr vs,x,h=>by
  erw[yd]at h ⊢;let⟨y,xs,e,r,l⟩:=h;refine⟨y,xs,e,?_,yg.skip hD vs xs l⟩;rcases r with⟨r,b,n⟩|r
  .refine .inl ⟨?_,b,n⟩;have ne:y≠D:=λz=>b (z ▸ hD);rcases r with r|⟨o,r⟩
   .exact .inl (by rw[zk ne];exact r)
   .exact .inr ⟨o,by rw[zk ne];exact r⟩
  .exact .inr r
theorem yg.skip{D:AI}{u:HO}(hD:B D):∀(v:List PV) (x:List V),yg K cl B φ H v x->yg K cl B φ (L2.upd H D u) v x
 | [],x,h=>by erw[yg]at h ⊢;exact h
 |v::vs,x,h=>by
  erw[yg]at h ⊢;let⟨y,ys,e,r,l⟩:=h;exact⟨y,ys,e,yd.skip hD v y r,yg.skip hD vs ys l⟩
end
theorem DK.skip{D:AI}{u:HO}(hD:B D):∀{kvs:List (PV×PV)} {ks:List (Key×V)},DK K cl B φ H kvs ks->DK K cl B φ (L2.upd H D u) kvs ks
 | [],ks,h=>h
 | (k,v)::r,ks,h=>by
  let⟨q,x,t,e,m,rv,l⟩:=h;exact⟨q,x,t,e,m,rv.skip hD,DK.skip hD l⟩
theorem DT.skip{D:AI}{u:HO}(hD:B D):∀{kvs:List (PV×PV)} {ks:List (List Key×V)},DT K cl B φ H kvs ks->DT K cl B φ (L2.upd H D u) kvs ks
 | [],ks,h=>h
 | (k,v)::r,ks,h=>by
  let⟨q,x,t,e,m,rv,l⟩:=h;exact⟨q,x,t,e,m,rv.skip hD,DT.skip hD l⟩
theorem FS.skip{D:AI}{u:HO}(hD:B D):∀{kvs:List (AR×PV)} {ks:List (AR×V)},FS K cl B φ H kvs ks->FS K cl B φ (L2.upd H D u) kvs ks
 | [],ks,h=>h
 | (k,v)::r,ks,h=>by
  let⟨x,t,e,rv,l⟩:=h;exact⟨x,t,e,rv.skip hD,FS.skip hD l⟩
theorem yD.skip{D:AI}{u:HO}(hD:B D)(rs:yD K cl B φ H st):yD K cl B φ (L2.upd H D u) st:=by
 refine⟨rs.len,rs.inj,λn y e=>?_,rs.liv,rs.nb,λy h=>?_⟩
 .let⟨o,q,r⟩:=rs.obj n y e;have ne:y≠D:=λz=>rs.nb y (A0 e) (z ▸ hD);refine⟨o,q,?_⟩
  cases o with
  |lst vs =>
   let⟨xs,hx,l⟩:=r;exact⟨xs,by rw[zk ne];exact hx,l.skip hD⟩
  |dct t kvs =>
   cases t with
   |false =>
    let⟨xs,hx,l⟩:=r;exact⟨xs,by rw[zk ne];exact hx,l.skip hD⟩
   |true =>
    let⟨xs,hx,l⟩:=r;exact⟨xs,by rw[zk ne];exact hx,l.skip hD⟩
  |ins c fs =>
   let⟨ks,⟨dx,hx⟩,l⟩:=r;exact⟨ks,⟨dx,by rw[zk ne];exact hx⟩,l.skip hD⟩
  |dead=>exact r.elim
 .by_cases z:y=D
  .subst z;exact⟨u,zu⟩
  .let⟨w,e⟩:=rs.dom y h;exact⟨w,by rw[zk z];exact e⟩
theorem yQ.skip{D:AI}{u:HO}(hD:B D)(re:yQ K cl B φ H ρ σ):yQ K cl B φ (L2.upd H D u) ρ σ:=⟨re.len,λi v e=>by
 let⟨x,h,q⟩:=re.get i v e;exact⟨x,h,q.skip hD⟩⟩
noncomputable def Bx(B:AI->Prop)(D:AI):AI->Prop:=λy=>B y \/ y=D
theorem zhm{D:AI}(hn:H D=AD):∀y,Bx B D y->B y \/ H y=none:=λy z=>z.elim .inl λq=>.inr (q ▸ hn)
theorem yd.more{D:AI}(hn:H D=AD){v:PV}{x:V}(h:yd K cl B φ H v x):yd K cl (Bx B D) φ H v x:=h.moreB (zhm hn)
theorem yg.more{D:AI}(hn:H D=AD){v:List PV}{x:List V}(h:yg K cl B φ H v x):yg K cl (Bx B D) φ H v x:=h.moreB (zhm hn)
mutual
theorem yd.less{D:AI}:∀(v:PV) (x:V),yd K cl (Bx B D) φ H v x->yd K cl B φ H v x
 | .non,x,h=>by erw[yd]at h ⊢;exact h
 | .bl b,x,h=>by erw[yd]at h ⊢;exact h
 | .int i,x,h=>by erw[yd]at h ⊢;exact h
 | .str y,x,h=>by erw[yd]at h ⊢;exact h
 | .tp k vs,x,h=>by
  erw[yd]at h ⊢;let⟨y,xs,e,r,l⟩:=h;refine⟨y,xs,e,?_,yg.less vs xs l⟩;rcases r with⟨r,b,n⟩|r
  .exact .inl ⟨r,λz=>b (.inl z),n⟩
  .exact .inr r
 | .lst vs,x,h=>by
  erw[yd]at h ⊢;let⟨y,xs,e,⟨r,b,n⟩,l⟩:=h;exact⟨y,xs,e,⟨r,λz=>b (.inl z),n⟩,yg.less vs xs l⟩
 | .loc n,x,h=>by erw[yd]at h ⊢;exact h
 | .exn c,x,h=>by
  erw[yd]at h ⊢;let⟨y,e,r,b,n⟩:=h;exact⟨y,e,r,λz=>b (.inl z),n⟩
 | .scr vs,x,h=>by
  erw[yd]at h ⊢;let⟨y,xs,e,r,l⟩:=h;refine⟨y,xs,e,?_,yg.less vs xs l⟩;rcases r with⟨r,b,n⟩|r
  .exact .inl ⟨r,λz=>b (.inl z),n⟩
  .exact .inr r
theorem yg.less{D:AI}:∀(v:List PV) (x:List V),yg K cl (Bx B D) φ H v x->yg K cl B φ H v x
 | [],x,h=>by erw[yg]at h ⊢;exact h
 |v::vs,x,h=>by
  erw[yg]at h ⊢;let⟨y,ys,e,r,l⟩:=h;exact⟨y,ys,e,yd.less v y r,yg.less vs ys l⟩
end
theorem DK.more{D:AI}(hn:H D=AD):∀{kvs:List (PV×PV)} {ks:List (Key×V)},DK K cl B φ H kvs ks->DK K cl (Bx B D) φ H kvs ks
 | [],ks,h=>h
 | (k,v)::r,ks,h=>by
  let⟨q,x,t,e,m,rv,l⟩:=h;exact⟨q,x,t,e,m,rv.more hn,DK.more hn l⟩
theorem DT.more{D:AI}(hn:H D=AD):∀{kvs:List (PV×PV)} {ks:List (List Key×V)},DT K cl B φ H kvs ks->DT K cl (Bx B D) φ H kvs ks
 | [],ks,h=>h
 | (k,v)::r,ks,h=>by
  let⟨q,x,t,e,m,rv,l⟩:=h;exact⟨q,x,t,e,m,rv.more hn,DT.more hn l⟩
theorem FS.more{D:AI}(hn:H D=AD):∀{kvs:List (AR×PV)} {ks:List (AR×V)},FS K cl B φ H kvs ks->FS K cl (Bx B D) φ H kvs ks
 | [],ks,h=>h
 | (k,v)::r,ks,h=>by
  let⟨x,t,e,rv,l⟩:=h;exact⟨x,t,e,rv.more hn,FS.more hn l⟩
theorem DK.less{D:AI}:∀{kvs:List (PV×PV)} {ks:List (Key×V)},DK K cl (Bx B D) φ H kvs ks->DK K cl B φ H kvs ks
 | [],ks,h=>h
 | (k,v)::r,ks,h=>by
  let⟨q,x,t,e,m,rv,l⟩:=h;exact⟨q,x,t,e,m,rv.less,DK.less l⟩
theorem DT.less{D:AI}:∀{kvs:List (PV×PV)} {ks:List (List Key×V)},DT K cl (Bx B D) φ H kvs ks->DT K cl B φ H kvs ks
 | [],ks,h=>h
 | (k,v)::r,ks,h=>by
  let⟨q,x,t,e,m,rv,l⟩:=h;exact⟨q,x,t,e,m,rv.less,DT.less l⟩
theorem FS.less{D:AI}:∀{kvs:List (AR×PV)} {ks:List (AR×V)},FS K cl (Bx B D) φ H kvs ks->FS K cl B φ H kvs ks
 | [],ks,h=>h
 | (k,v)::r,ks,h=>by
  let⟨x,t,e,rv,l⟩:=h;exact⟨x,t,e,rv.less,FS.less l⟩
theorem yD.less{D:AI}(rs:yD K cl (Bx B D) φ H st):yD K cl B φ H st:=by
 refine⟨rs.len,rs.inj,λn y e=>?_,rs.liv,λy h z=>rs.nb y h (.inl z),λy h=>rs.dom y (.inl h)⟩;let⟨o,q,r⟩:=rs.obj n y e;refine⟨o,q,?_⟩
 cases o with
 |lst vs=>let⟨xs,hx,l⟩:=r;exact⟨xs,hx,l.less⟩
 |dct t kvs=>cases t<;>(let⟨xs,hx,l⟩:=r;exact⟨xs,hx,l.less⟩)
 |ins c fs=>let⟨ks,hx,l⟩:=r;exact⟨ks,hx,l.less⟩
 |dead=>exact r.elim
theorem yD.more{D:AI}{u:HO}(hn:H D=AD)(rs:yD K cl B φ H st):yD K cl (Bx B D) φ (L2.upd H D u) st:=by
 have nD:AA D∉φ:=λz=>by
  let⟨w,e⟩:=rs.there z;rw[hn]at e;cases e
 have s:Step φ H φ (L2.upd H D u):=.upd hn;have rs':=rs.upd (o:=u) hn;refine⟨rs.len,rs.inj,λn y e=>?_,rs.liv,λy h z=>z.elim (rs.nb y h) λq=>nD (q ▸ h),λy h=>?_⟩
 .let⟨o,q,r⟩:=rs.obj n y e;have ne:y≠D:=λz=>nD (z ▸ A0 e);have hD:Bx B D D:=.inr rfl;refine⟨o,q,?_⟩
  cases o with
  |lst vs=>let⟨xs,hx,l⟩:=r;exact⟨xs,by rw[zk ne];exact hx,(l.more hn).skip hD⟩
  |dct t kvs =>
   cases t with
   |false=>let⟨xs,hx,l⟩:=r;exact⟨xs,by rw[zk ne];exact hx,(l.more hn).skip hD⟩
   |true=>let⟨xs,hx,l⟩:=r;exact⟨xs,by rw[zk ne];exact hx,(l.more hn).skip hD⟩
  |ins c fs=>let⟨ks,⟨dx,hx⟩,l⟩:=r;exact⟨ks,⟨dx,by rw[zk ne];exact hx⟩,(l.more hn).skip hD⟩
  |dead=>exact r.elim
 .rcases h with h|h
  .exact rs'.dom y h
  .subst h;exact⟨u,zu⟩
theorem yQ.more{D:AI}{u:HO}(hn:H D=AD)(re:yQ K cl B φ H ρ σ):yQ K cl (Bx B D) φ (L2.upd H D u) ρ σ:=⟨re.len,λi v e=>by
 let⟨x,h,q⟩:=re.get i v e;exact⟨x,h,(q.more hn).skip (.inr rfl)⟩⟩
noncomputable def yaC:Tg->List (Option Nat)->Bool
 | .n i,sl=>decide (sl[i]?=AA AD)
 | .t l,sl=>l.all λi=>decide (sl[i]?=AA AD)
theorem zgH:∀(l:List Nat) (vs:List PV) (ρ:IC.Env) (j:Nat),j∉l->((l.zip vs).foldl (λρ p=>ρ.set p.1 (AA p.2)) ρ)[j]?=ρ[j]?
 | [],vs,ρ,j,h=>by simp
 |i::is,[],ρ,j,h=>by simp
 |i::is,v::vs,ρ,j,h=>by
  erw[ES,Ds];rw[zgH is vs _ j λz=>h (AT _ z),AO]
  rintro rfl
  exact h Aj
theorem zgo:∀(l:List Nat) (vs:List PV) (ρ:IC.Env),((l.zip vs).foldl (λρ p=>ρ.set p.1 (AA p.2)) ρ).length=ρ.length
 | [],vs,ρ=>by simp
 |i::is,[],ρ=>by simp
 |i::is,v::vs,ρ=>by
  erw[ES,Ds];rw[zgo is vs,Be]
theorem yQ.untgt{sl:List (Option Nat)}{ρ0 ρ1:IC.Env}{v:PV}(hf:yaC ct sl=AB)(h0:∀(i:Nat),sl[i]?=AA AD->ρ0[i]?=AA AD)(hb:yO ct v ρ0=AA ρ1)(re:yQ K cl B φ H ρ1 σ):yQ K cl B φ H ρ0 σ:=by
 cases ct with
 |n i =>
  cases hb
  erw[yaC,decide_eq_true_eq]at hf;refine⟨by rw[<- re.len,Be],λj w e=>re.get j w ?_⟩;rw[AO]
  .exact e
  .rintro rfl
   rw[h0 _ hf]at e;cases e
 |t l =>
  cases v with
  |tp k vs =>
   erw[yO]at hb;split at hb
   .cases hb
    erw[yaC,Bg,decide_eq_true_eq]at hf;refine⟨by rw[<- re.len,zgo],λj w e=>re.get j w ?_⟩;rw[zgH]
    .exact e
    .intro z;rw[h0 _ (hf j z)]at e;cases e
   .cases hb
  |_=>cases hb
theorem yQ.inn{sl:List (Option Nat)}(re:yQ K cl B φ H ρ σ):yQ K cl B φ H (sl.map λo=>o.bind λj=>(ρ[j]?).join) (L2.inn sl σ):=by
 unfold L2.inn;refine⟨by simp,λi v e=>?_⟩;rw[Bv]at e ⊢
 cases q:sl[i]? with
 |none=>rw[q]at e;cases e
 |some o =>
  rw[q]at e
  cases o with
  |none=>cases e
  |some j =>
   erw[DM,B7,Option.some.injEq]at e ⊢
   cases q2:ρ[j]? with
   |none=>rw[q2]at e;cases e
   |some w =>
    rw[q2]at e;erw[G0]at e;subst e;let⟨x,hx,rv⟩:=re.get j v q2;exact⟨x,by rw[hx];rfl,rv⟩
theorem ycz:1000000<sizeLine:=by rw[Dl];decide
theorem zm6{α:Type}{o:Option Bool}{k:Bool->R α}{z:α}{s:SO}(h:onO o k=.ok z s):∃b,o=AA b/\k b=.ok z s:=by
 cases o with
 |none=>cases h
 |some b=>exact⟨b,rfl,h⟩
theorem za8{α β:Type}{r:R α}{k:α->SO->R β}{z:β}{s:SO}(h:r.bind k=.ok z s):∃a s1,r=.ok a s1/\k a s1=.ok z s:=by
 cases r with
 |ok a s1=>exact⟨a,s1,rfl,h⟩
 |exc c s=>cases h
 |bad=>cases h
theorem ze3{sl:List (Option Nat)}(hf:yaC ct sl=AB){H:Hp}{Q:VK}(h:tE S X (.comp sl ct ci cc ce) σ H Q):ycO sl (tI S X ci) (tG0 S X.K ct) (tT0 S X.K cc) (tE0 S X.K ce) σ H Q:=by
  let⟨B,φ,st,ρ,rs,re,h⟩:=h;erw[ev]at h;refine⟨B,φ,st,ρ,rs,re,(Run.bind h).mono λJ H1 kq=>?_⟩;let⟨xs,st1,φ1,s1,rs1,dr,h1⟩:=kq;refine λD hD=>?_
  generalize hone:(λ(x:PV) (st2:SO)=>match yO ct x (sl.map λo=>o.bind λj=>(ρ[j]?).join)with
   |none=>(R.bad:R (Option PV))
   |some ρ1=>(ev S.call ρ1 st2 cc).bind λb st3=>onO (yaT st3 b) λk=>cond k ((ev S.call ρ1 st3 ce).bind λy st4=>.ok (AA y) st4) (.ok AD st3))=one at h1
  cases e:ya4 one xs st1 with
  |exc k s=>rw[e]at h1;exact h1.elim
  |bad=>rw[e]at h1;exact h1.elim
  |ok zs st5 =>
   rw[e]at h1;erw[ycg]at h1;split at h1
   case isFalse=>exact h1.elim
   rename_i hz;have nB:¬B D:=rs1.nB hD;have nD:AA D∉φ1:=λz=>by
    let⟨w,e⟩:=rs1.there z;rw[hD]at e;cases e
   refine⟨λi m σc ys H2=>∃φ2 st2 vs rest,i+m=xs.length/\Step φ1 H1 φ2 H2/\H2 D=AA (.lst ys)/\AA D∉φ2/\yD X.K S.cl (Bx B D) φ2 H2 st2/\yQ X.K S.cl (Bx B D) φ2 H2 (sl.map λo=>o.bind λj=>(ρ[j]?).join) σc /\
     yg X.K S.cl (Bx B D) φ2 H2 vs ys/\ya4 one (xs.drop i) st2=.ok rest st5/\vs++rest=zs,
    ⟨xs.length,φ1,st1,[],zs,by lia,.upd hD,zu,nD,rs1.more hD,(yQ.inn (re.step s1)).more hD,by erw[yg],by simpa using e,rfl⟩,?_⟩
   rintro i m σc ys H2 ⟨φ2,st2,vs,rest,hm,s2,hD2,nD2,rs2,re2,l2,ec,ez⟩
   refine⟨hD2,?_⟩
   by_cases hi:i<xs.length
   .have hl2:=l2.length;have hml:=ycz;have hzl:=congrArg Ch ez;rw[Ac]at hzl;refine .inr ⟨dr.go i φ2 H2 s2 hi,by lia,λσ' ys' H'=>∃φ2 st2 vs rest,Step φ1 H1 φ2 H'/\H' D=AA (.lst ys')/\AA D∉φ2/\yD X.K S.cl (Bx B D) φ2 H' st2/\yQ X.K S.cl (Bx B D) φ2 H' (sl.map λo=>o.bind λj=>(ρ[j]?).join) σ' /\
     yg X.K S.cl (Bx B D) φ2 H' vs ys'/\ya4 one (xs.drop (i+1)) st2=.ok rest st5/\vs++rest=zs,λσ' ys' H' ⟨φ2,st2,vs,rest,q⟩=>⟨m - 1,by lia,φ2,st2,vs,rest,by lia,q⟩,λx H3 hy=>?_⟩
    let⟨v,hv,rv,kk⟩:=dr.yld i φ2 H2 st2 x H3 (Bx B D) (λy z=>z.elim .inl λq=>.inr (q ▸ hD)) s2 rs2 hi hy;have s3:Step φ2 H2 φ2 H3:=⟨λb o _ e=>kk b o e,AS _,λ_ _ _ e=>e,λ_ h=>.inl h⟩;have rs3:yD X.K S.cl (Bx B D) φ2 H3 st2:=rs2.same kk;have ed:xs.drop i=v::xs.drop (i+1):=by
     rw[E1 hi];rw[CD hi]at hv;rw[AW hv]
    rw[ed,ya4]at ec;let⟨o,st3,e1,ec⟩:=za8 ec;let⟨rest',st4,e2,ec⟩:=za8 ec;rw[<- hone]at e1;dsimp only at e1
    cases eb:yO ct v (sl.map λo=>o.bind λj=>(ρ[j]?).join)with
    |none=>rw[eb]at e1;cases e1
    |some ρ1 =>
     rw[eb]at e1;dsimp only at e1;let⟨bv,st6,e3,e1⟩:=za8 e1;let⟨k,e4,e1⟩:=zm6 e1;have er:st4=st5/\ycf o rest'=rest:=by
      injection ec with q1 q2;exact⟨q2,q1⟩
     let⟨rfl,rfl⟩:=er;refine⟨Bx B D,φ2,st2,_,v,ρ1,rs3,re2.step s3,rv,eb,λσ4 re4=>⟨Bx B D,φ2,st2,ρ1,rs3,re4,?_⟩⟩;have et:ybi (ev S.call ρ1 st2 cc)=.ok k st6:=by
      rw[e3];erw[ybi,R.bind,e4,onO]
     rw[et]
     rintro k' H5 φ5 s5 rs5 rfl
     have nD5:AA D∉φ5:=λz=>by
      rcases s5.new D z with q|q
      .exact nD2 q
      .rw[kk D _ hD2]at q;cases q
     have hD5:H5 D=AA (.lst ys):=s5.keep D _ nD2 (kk D _ hD2);have s25:Step φ1 H1 φ5 H5:=s2.trans (s3.trans s5);have l5:=(l2.step s3).step s5;have re5:yQ X.K S.cl (Bx B D) φ5 H5 ρ1 σ4:=re4.step s5;have h0:∀(i:Nat),sl[i]?=AA AD->(sl.map λo=>o.bind λj=>(ρ[j]?).join)[i]?=AA none:=λi q=>by
      rw[Bv,q];rfl
     cases k with
     |false =>
      erw[cond_false]at e1
      cases e1
      exact⟨φ5,_,vs,rest',s25,hD5,nD5,rs5,yQ.untgt hf h0 eb re5,l5,e2,ez⟩
     |true =>
      erw[cond_true]at e1;let⟨y,st7,e5,e1⟩:=za8 e1
      cases e1
      refine⟨Bx B D,φ5,st6,ρ1,rs5,re5,?_⟩;rw[e5];intro y' H6 φ6 s6 rs6 ry;have nD6:AA D∉φ6:=λz=>by
       rcases s6.new D z with q|q
       .exact nD5 q
       .rw[hD5]at q;cases q
      have hD6:H6 D=AA (.lst ys):=s6.keep D _ nD5 hD5;have hBD:Bx B D D:=.inr rfl;refine⟨hD6,φ6,_,vs++[y],rest',?_,zu,nD6,rs6.skip hBD,(yQ.untgt hf h0 eb (re5.step s6)).skip hBD,((l5.step s6).append (by erw[yg];exact⟨y',[],rfl,ry,rfl⟩)).skip hBD,e2,?_⟩
      .have s16:=s25.trans s6;exact⟨λb o n q=>by rw[zk (zn q hD)];exact s16.keep b o n q,s16.len,s16.pre,s16.new⟩
      .simpa [ycf] using ez
   .have ei:i=xs.length:=by lia
    subst ei;rw[GZ,ya4]at ec
    cases ec
    refine .inl ⟨dr.stop φ2 H2 s2,h1 (.ref D) H2 φ2 s2 rs2.less ?_⟩;erw[yd];exact⟨D,ys,rfl,⟨hD2,nB,nD2⟩,by rw[<- ez,A2];exact l2.less⟩
theorem zlC{sc:Bj}{NC:List AR}{sl:List (Option Nat)}{ifs:List AV}(hc:X.calm=AB)(O:yao X sc NC sl)(hf:yaC ct sl=AB)(hi:PI X tg iter (tI S X ci))(hg:∀j,PG (cxC X sc NC j) tg (tG0 S X.K ct))
  (ht:∀j,PTs (cxC X sc NC j) ifs (tT0 S X.K cc)) (he:∀j,PE (cxC X sc NC j) elt (tE0 S X.K ce)) (hs:∀x,foldedSetIterable iter X.env x=pure x:=by intro _;rfl) :
  PE X (.ListComp elt [⟨tg,iter,ifs,0⟩] sc pos) (tE S X (.comp sl ct ci cc ce)) :=
 (zmd hc O hi hg ht he hs).imp λσ H Q h=>ze3 hf h
theorem zlR{sc:Bj}{NC:List AR}{sl:List (Option Nat)}{ifs:List AV}{i:Nat}{x:AR}{spos:C5}(hN:X.N.Nodup)(hix:X.N[i]?=AA x)(hx:Loc X.env.scope x)(hc:X.calm=AB)(O:yao X sc NC sl)(hf:yaC ct sl=AB)(hi:PI X tg iter (tI S X ci))(hg:∀j,PG (cxC X sc NC j) tg (tG0 S X.K ct))
  (ht:∀j,PTs (cxC X sc NC j) ifs (tT0 S X.K cc)) (he:∀j,PE (cxC X sc NC j) elt (tE0 S X.K ce))
  (hsw:swapsWith (.ListComp elt [⟨tg,iter,ifs,0⟩] sc pos) (AA (.Name x px)) spos.line X.env=pure true:=by rfl) (hs:∀x,foldedSetIterable iter X.env x=pure x:=by intro _;rfl)
  (hfn:X.fn x=AB \/ X.env.scope.names.lookup x=AA .local:=by first|exact .inl rfl|exact .inr rfl|assumption):PS X (.Assign [.Name x px] (.ListComp elt [⟨tg,iter,ifs,0⟩] sc pos) spos) (tS S X (.asg (.n i) (.comp sl ct ci cc ce))) :=
 (zmi hN hix hx hc O hi hg ht he hsw hs hfn).imp λD σ H ⟨B,φ,st,ρ,rs,re,h⟩=>by
  refine ze3 hf ?_;erw[ex]at h;exact tE.fl rs re h λx H1 v st1 φ1 s rs1 re1 rv h1=>h1 _ H1 φ1 .rfl rs1 (re1.set i rv)
end
end L2
namespace IC
open PySem
def RLe{α:Type}(r q:R α):Prop:=r=.bad \/ r=q
def FLe(f g:Fl):Prop:=f=.bad \/ f=g
abbrev Cl:=Nat->List PV->SO->R PV
def CLe(c d:Cl):Prop:=∀f a s,RLe (c f a s) (d f a s)
theorem RLe.rfl{α:Type}{r:R α}:RLe r r:=.inr (DW _)
theorem FLe.rfl{f:Fl}:FLe f f:=.inr (DW _)
theorem RLe.bind{α β:Type}{r q:R α}{k l:α->SO->R β}(h:RLe r q)(hk:∀a s,RLe (k a s) (l a s)):RLe (r.bind k) (q.bind l):=by
 rcases h with h|h
 .subst h;exact .inl (DW _)
 .subst h
  cases r with
  |ok a s=>exact hk a s
  |exc c s=>exact .rfl
  |bad=>exact .rfl
theorem RLe.fl{α:Type}{r q:R α}{ρ:Env}{k l:α->SO->Fl}(h:RLe r q)(hk:∀a s,FLe (k a s) (l a s)):FLe (r.fl ρ k) (q.fl ρ l):=by
 rcases h with h|h
 .subst h;exact .inl (DW _)
 .subst h
  cases r with
  |ok a s=>exact hk a s
  |exc c s=>exact .rfl
  |bad=>exact .rfl
theorem RLe.comp{r q:R (List PV)}(h:RLe r q):RLe (ycg r) (ycg q):=by
 rcases h with h|h
 .subst h;exact .inl (DW _)
 .subst h;exact .rfl
theorem zi1{α:Type}{x:PV}{k l:Bool->R α}(h:∀b,RLe (k b) (l b)):RLe (onBl x k) (onBl x l):=by
 cases x with
 |bl b=>exact h b
 |_=>exact .rfl
theorem zeR{α:Type}{x:Option Bool}{k l:Bool->R α}(h:∀b,RLe (k b) (l b)):RLe (onO x k) (onO x l):=by
 cases x with
 |some b=>exact h b
 |none=>exact .rfl
theorem zk1{x:Option Bool}{k l:Bool->Fl}(h:∀b,FLe (k b) (l b)):FLe (onF x k) (onF x l):=by
 cases x with
 |some b=>exact h b
 |none=>exact .rfl
theorem znl{α:Type}{x:Option (Option Int)}{k l:Option Int->R α}(h:∀b,RLe (k b) (l b)):RLe (onP x k) (onP x l):=by
 cases x with
 |some b=>exact h b
 |none=>exact .rfl
theorem zdy{α:Type}{b:Bool}{r q r' q':R α}(h:RLe r q)(h':RLe r' q'):RLe (cond b r r') (cond b q q'):=by
 cases b
 .exact h'
 .exact h
theorem zga{b:Bool}{r q r' q':Fl}(h:FLe r q)(h':FLe r' q'):FLe (cond b r r') (cond b q q'):=by
 cases b
 .exact h'
 .exact h
theorem zcV{f g:PV->SO->R (Option PV)}(h:∀x s,RLe (f x s) (g x s)):∀xs s,RLe (ya4 f xs s) (ya4 g xs s)
 | [],s=>.rfl
 |x::xs,s=>(h x s).bind λo s1=>(zcV h xs s1).bind λys s2=>.rfl
theorem zdB{f g:Fl}{k l:Env->SO->Fl}(h:FLe f g)(hk:∀ρ s,FLe (k ρ s) (l ρ s)):FLe (yaK f k) (yaK g l):=by
 rcases h with h|h
 .subst h;exact .inl (DW _)
 .subst h
  cases f with
  |nx ρ s=>exact hk ρ s
  |ct ρ s=>exact hk ρ s
  |_=>exact .rfl
theorem zez{t:Tg}{f g:Env->SO->Fl}(h:∀ρ s,FLe (f ρ s) (g ρ s)):∀xs ρ s,FLe (forL t f xs ρ s) (forL t g xs ρ s)
 | [],ρ,s=>.rfl
 |x::xs,ρ,s=>by
  unfold forL
  cases yO t x ρ with
  |none=>exact .rfl
  |some ρ1=>exact zdB (h ρ1 s) λρ2 s2=>zez h xs ρ2 s2
theorem zfo{t u:Env->SO->R PV}{f g:Env->SO->Fl}(ht:∀ρ s,RLe (t ρ s) (u ρ s))(h:∀ρ s,FLe (f ρ s) (g ρ s)):∀n ρ s,FLe (yaw t f n ρ s) (yaw u g n ρ s)
 |0,ρ,s=>.rfl
 |n+1,ρ,s=>by
  unfold yaw;exact(ht ρ s).fl λx s1=>zk1 λb=>zga (zdB (h ρ s1) λρ2 s2=>zfo ht h n ρ2 s2) .rfl
mutual
theorem zj{c d:Cl}(h:CLe c d):∀(e:Ce) (ρ:Env) (s:SO),RLe (ev c ρ s e) (ev d ρ s e)
 | .cst v,ρ,s=>by exact .rfl
 | .var i,ρ,s=>by exact .rfl
 | .bin o a b,ρ,s=>by
  exact(zj h a ρ s).bind λx s1=>(zj h b ρ s1).bind λy s2=>.rfl
 | .neg a,ρ,s=>by
  exact(zj h a ρ s).bind λx s1=>.rfl
 | .not a,ρ,s=>by
  exact(zj h a ρ s).bind λx s1=>.rfl
 | .and a b,ρ,s=>by
  refine(zj h a ρ s).bind λx s1=>?_;exact zi1 λk=>zdy (zj h b ρ s1) .rfl
 | .or a b,ρ,s=>by
  refine(zj h a ρ s).bind λx s1=>?_;exact zi1 λk=>zdy .rfl (zj h b ρ s1)
 | .cmp o a b,ρ,s=>by
  exact(zj h a ρ s).bind λx s1=>(zj h b ρ s1).bind λy s2=>.rfl
 | .chain o p a b k,ρ,s=>by
  refine(zj h a ρ s).bind λx s1=>(zj h b ρ s1).bind λy s2=>?_;exact zeR λq=>zdy ((zj h k ρ s2).bind λz s3=>.rfl) .rfl
 | .ite k a b,ρ,s=>by
  exact(zj h k ρ s).bind λx s1=>zeR λq=>zdy (zj h a ρ s1) (zj h b ρ s1)
 | .tup es,ρ,s=>by
  exact(zaO h es ρ s).bind λx s1=>.rfl
 | .lst es,ρ,s=>by
  exact(zaO h es ρ s).bind λx s1=>.rfl
 | .newl es,ρ,s=>by
  exact(zaO h es ρ s).bind λx s1=>.rfl
 | .dict0 t,ρ,s=>by exact .rfl
 | .idx a i,ρ,s=>by
  exact(zj h a ρ s).bind λx s1=>(zj h i ρ s1).bind λy s2=>.rfl
 | .slc a l u,ρ,s=>by
  exact(zj h a ρ s).bind λx s1=>(zj h l ρ s1).bind λy s2=>znl λo=>(zj h u ρ s2).bind λz s3=>.rfl
 | .call f es,ρ,s=>by
  exact(zaO h es ρ s).bind λx s1=>h f x s1
 | .blt b es,ρ,s=>by
  exact(zaO h es ρ s).bind λx s1=>.rfl
 | .mth m o es,ρ,s=>by
  exact(zj h o ρ s).bind λx s1=>zeR λ_=>(zaO h es ρ s1).bind λy s2=>.rfl
 | .isi a ts,ρ,s=>by
  exact(zj h a ρ s).bind λx s1=>.rfl
 | .comp sl tg it k e,ρ,s=>by
  refine(zin h it ρ s).bind λxs s1=>?_;have q:=λ(f g:PV->SO->R (Option PV)) (hfg:∀x s,RLe (f x s) (g x s))=>zcV hfg xs s1;refine RLe.comp (zcV (λx s2=>?_) xs s1)
  cases yO tg x _ with
  |none=>exact .rfl
  |some ρ1 =>
   dsimp only;exact(zj h k ρ1 s2).bind λb s3=>zeR λq=>zdy ((zj h e ρ1 s3).bind λy s4=>.rfl) .rfl
 | .nope,ρ,s=>by exact .rfl
 | .frz a,ρ,s=>by
  exact(zj h a ρ s).bind λx s1=>.rfl
 | .dix D a,ρ,s=>by
  exact(zj h a ρ s).bind λx s1=>.rfl
 | .din a D,ρ,s=>by
  exact(zj h a ρ s).bind λx s1=>.rfl
 | .fld q a f,ρ,s=>by
  exact(zj h a ρ s).bind λx s1=>.rfl
 | .new q i es,ρ,s=>by
  refine(zaO h es ρ s).bind λx s1=>RLe.bind ?_ λv s2=>.rfl;rcases h i (.loc s1.length::x) (s1++[.ins q []])with e|e
  .rw[e];exact .inl (DW _)
  .rw[e];exact .rfl
 | .mcl q i m o es,ρ,s=>by
  exact(zj h o ρ s).bind λx s1=>zeR λ_=>(zaO h es ρ s1).bind λy s2=>h i (x::y) s2
theorem zaO{c d:Cl}(h:CLe c d):∀(e:Ces) (ρ:Env) (s:SO),RLe (evs c ρ s e) (evs d ρ s e)
 | .nil,ρ,s=>by exact .rfl
 | .cons e es,ρ,s=>by
  exact(zj h e ρ s).bind λx s1=>(zaO h es ρ s1).bind λy s2=>.rfl
theorem zin{c d:Cl}(h:CLe c d):∀(e:Cit) (ρ:Env) (s:SO),RLe (evi c ρ s e) (evi d ρ s e)
 | .seq e,ρ,s=>by
  exact(zj h e ρ s).bind λx s1=>.rfl
 | .range1 a,ρ,s=>by
  exact(zj h a ρ s).bind λx s1=>.rfl
 | .range2 a b,ρ,s=>by
  exact(zj h a ρ s).bind λx s1=>(zj h b ρ s1).bind λy s2=>.rfl
 | .rangeD a b,ρ,s=>by
  exact(zj h a ρ s).bind λx s1=>(zj h b ρ s1).bind λy s2=>.rfl
 | .enum e,ρ,s=>by
  exact(zj h e ρ s).bind λx s1=>.rfl
 | .zip a b,ρ,s=>by
  exact(zj h a ρ s).bind λx s1=>(zj h b ρ s1).bind λy s2=>.rfl
 | .revl e,ρ,s=>by
  exact(zj h e ρ s).bind λx s1=>.rfl
 | .revr e,ρ,s=>by
  exact(zj h e ρ s).bind λx s1=>.rfl
 | .chars e,ρ,s=>by
  exact(zj h e ρ s).bind λx s1=>.rfl
end
mutual
theorem zpQ{c d:Cl}(h:CLe c d):∀(x:Cs) (ρ:Env) (s:SO),FLe (ex c ρ s x) (ex d ρ s x)
 | .expr e,ρ,s=>by
  exact(zj h e ρ s).fl λx s1=>.rfl
 | .asg t e,ρ,s=>by
  exact(zj h e ρ s).fl λx s1=>.rfl
 | .six o i e,ρ,s=>by
  exact(zj h e ρ s).fl λx s1=>(zj h o ρ s1).fl λy s2=>(zj h i ρ s2).fl λz s3=>.rfl
 | .dput o i e,ρ,s=>by
  exact(zj h e ρ s).fl λx s1=>(zj h o ρ s1).fl λy s2=>(zj h i ρ s2).fl λz s3=>.rfl
 | .aug i o e,ρ,s=>by
  first|unfold ev|unfold ex|unfold evs|unfold evi|unfold exs
  split
  .exact(zj h e ρ s).fl λx s1=>.rfl
  .exact .rfl
 | .ret e,ρ,s=>by
  exact(zj h e ρ s).fl λx s1=>.rfl
 | .ite k a b,ρ,s=>by
  exact(zj h k ρ s).fl λx s1=>zk1 λq=>zga (za2 h a ρ s1) (za2 h b ρ s1)
 | .for t it b,ρ,s=>by
  exact(zin h it ρ s).fl λxs s1=>zez (λρ2 s2=>za2 h b ρ2 s2) xs ρ s1
 | .while k b,ρ,s=>by
  exact zfo (λρ2 s2=>zj h k ρ2 s2) (λρ2 s2=>za2 h b ρ2 s2) _ ρ s
 | .nope,ρ,s=>by exact .rfl
 | .mkr i D n es,ρ,s=>by
  refine(zj h n ρ s).fl λx s1=>?_;split
  .exact((zaO h es _ s1).bind λvs s2=>h _ vs s2).fl λv s3=>.rfl
  .exact .rfl
 | .sfl q o f e,ρ,s=>by
  exact(zj h e ρ s).fl λx s1=>(zj h o ρ s1).fl λy s2=>.rfl
theorem za2{c d:Cl}(h:CLe c d):∀(x:Css) (ρ:Env) (s:SO),FLe (exs c ρ s x) (exs d ρ s x)
 | .nil,ρ,s=>by exact .rfl
 | .cons x xs,ρ,s=>by
  first|unfold ev|unfold ex|unfold evs|unfold evi|unfold exs
  rcases zpQ h x ρ s with e|e
  .rw[e];exact .inl (DW _)
  .rw[e]
   cases ex d ρ s x with
   |nx ρ1 s1=>exact za2 h xs ρ1 s1
   |_=>exact .rfl
end
theorem zfs(T:Nat->Option Fn):∀k,CLe (yc T k) (yc T (k+1))
 |0,f,a,s=>.inl (DW _)
 |k+1,f,a,s=>by
  have h:=zfs T k;rw[yc,yc]
  cases T f with
  |none=>exact .rfl
  |some fn =>
   dsimp only;split
   .split
    .split
     .rcases za2 h fn.body (a.map AA++BG (fn.ns - fn.np) AD) []with e|e
      .rw[e];exact .inl (DW _)
      .rw[e];exact .rfl
     .exact .rfl
    .rcases za2 h fn.body (a.map AA++BG (fn.ns - fn.np) AD) s with e|e
     .rw[e];exact .inl (DW _)
     .rw[e];exact .rfl
   .exact .rfl
theorem zav{T:Nat->Option Fn}{k:Nat}{f:Nat}{a:List PV}{s s':SO}{v:PV}(h:yc T k f a s=.ok v s'):∀j,yc T (k+j) f a s=.ok v s'
 |0=>h
 |j+1=>by
  have q:=zav h j;rcases zfs T (k+j) f a s with e|e
  .rw[q]at e;cases e
  .rw[Dh]at e;rw[<- e];exact q
end IC
namespace L2
open PySem PySem.Spec PyProof.Rows IC
def spI(K:AE)(cl:Nat->AI)(call:Nat->List PV->SO->R PV)(f:Nat):Sp:=λvs H Q E=>∃B φ st args,yD K cl B φ H st/\yg K cl B φ H args vs/\match call f args st with
 | .ok v st'=>∀x H' φ',Step φ H φ' H'->yD K cl B φ' H' st'->yd K cl B φ' H' v x->Q x H'
 | .exc c st'=>∀H' φ',Step φ H φ' H'->yD K cl B φ' H' st'->E (.ref (cl c)) AD H'
 | .bad=>False
section
variable {S:Se}{X:Cx}{k:Nat}{f:AI}{fd:BK}{ps ks:List AR}{sp:Sp}{dvs:List V}{ds:List AG}{x:AR}{p pos:C5}{e:AV}{es:List AV}{t tk:TA}{CX:CXT}{σ:St}{H:Hp}
theorem zdJ{pins:List (AI×CO)}{s:AJ}{Q:VK}{us:List AG}{vs:List V}{E:XK}(F:yaQ X.prog X.w X.K X.mg X.base CX k f fd ps sp)(hr:yay k X.A)(hb:Binds X.K fd ps ds)(hd:Vals dvs ds)
  (I:Inv X pins σ H s) (r:Vals vs us) (h:sp (vs++dvs) H Q E) (hx:∀e s',CX X.stack H s E e s'->X.xe e s'):AX (model X.prog X.w) X.A (call (.ref f) us) (EP X pins σ Q) X.xe s:=by
 have r2:Vals (vs++dvs) (us++ds):=r.append hd;have hl:(us++ds).length=ps.length:=by rw[<- r2.length];exact F.len _ _ _ _ h
 refine Gm (Dz (F.run X.A X.stack s H ⟨us,[]⟩ (us++ds) (vs++dvs) Q E hr I.env0 (hb s us I.kIn hl) r2 h) λr s' hq=>?_)
 cases r with
 |error e=>exact hx e s' hq
 |ok fl =>
  cases fl with
  |ret u=>exact I.after hq
  |next=>exact Br hq
  |brk=>exact Br hq
  |cont=>exact Br hq
noncomputable def ycK(CX:CXT)(X:Cx)(sp:Sp)(dvs:List V)(t:TA):TE:=λσ H Q=>t σ H λvs H1=>∃E:XK,sp (vs++dvs) H1 Q E/\∀pins s e s',Inv X pins σ H1 s->CX X.stack H1 s E e s'->X.xe e s'
theorem zjX(F:yaQ X.prog X.w X.K X.mg X.base CX k f fd ps sp)(hr:yay k X.A)(hg:Gl X x)(hm:X.mg x=AA (.ref f))(hk:Az X.K (.ref f)=AB)(hb:Binds X.K fd ps ds)(hd:Vals dvs ds)
  (ha:PA X (e::es) t) (hdb:(x == ("__debug__":AR))=false:=by decide) (he:starEach (e::es) X.env=(AC,eval e X.env)::starEach es X.env:=by rfl) (hpl:(backTo pos (starEach es X.env)).any (·.1)=false:=by rfl) :
  PE X (.Call (.Name x p) (e::es) [] pos) (ycK CX X sp dvs t):=by
 intro pins s σ H Q I h;refine Bb (zdg I hg hm ?_ hdb);refine DN (h₀:=X.base) I.ok.mod.kin hk (thn (ha pos pins s σ H _ I h) λus s1 kq=>?_) he hpl;let⟨vs,H1,I1,r,E,q,hx⟩:=kq;refine ⟨I1.kIn,?_⟩;exact zdJ F hr hb hd I1 r q λe s' c=>hx pins s1 e s' I1 c
theorem zhB(F:yaQ X.prog X.w X.K X.mg X.base CX k f fd ps sp)(hr:yay k X.A)(hg:Gl X x)(hm:X.mg x=AA (.ref f))(hk:Az X.K (.ref f)=AB)(hb:Binds X.K fd ps ds)(hd:Vals dvs ds)
  (hdb:(x == ("__debug__":AR))=false:=by decide):PE X (.Call (.Name x p) [] [] pos) (ycK CX X sp dvs ydK):=by
 intro pins s σ H Q I h;let⟨E,q,hx⟩:=h;refine Bb (zdg I hg hm ?_ hdb);exact F9 I.kIn hk (zdJ F hr hb hd I .nil q λe s' c=>hx pins s e s' I c)
variable {B:AI->Prop}{φ:Ph}{st:SO}{ces:Ces}{fi:Nat}
theorem za7{vs:List PV}{xs:List V}{Q:VK}(rs:yD X.K S.cl B φ H st)(l:yg X.K S.cl B φ H vs xs)(h:Run S X σ B φ H (RV S X B) (S.call fi vs st) Q) :
  ∃E:XK,spI X.K S.cl S.call fi xs H Q E/\∀pins s e s',Inv X pins σ H s->CX1 X.prog X.w X.stack H s E e s'->X.xe e s':=by
 cases c:S.call fi vs st with
 |ok v st' =>
  rw[c]at h;refine⟨λ_ _ _=>False,⟨B,φ,st,vs,rs,l,by rw[c];exact h⟩,λpins s e s' _ z=>?_⟩;let⟨_,_,_,_,_,_,_,_,_,_,_,_,_,_,z⟩:=z;exact z.elim
 |exc k st' =>
  rw[c]at h;refine⟨λcls _ H'=>cls=.ref (S.cl k)/\∃φ',Step φ H φ' H'/\yD X.K S.cl B φ' H' st',⟨B,φ,st,vs,rs,l,by rw[c];exact λH' φ' s r=>⟨rfl,φ',s,r⟩⟩,λpins s e s' I z=>h e s' (.inl ⟨pins,H,s,φ,I,.rfl,z⟩)⟩
 |bad=>rw[c]at h;exact h.elim
theorem zmU(F:yaQ X.prog X.w X.K X.mg X.base (CX1 X.prog X.w) k f fd ps (spI X.K S.cl S.call fi))(hr:yay k X.A)(hg:Gl X x)(hm:X.mg x=AA (.ref f))(hk:Az X.K (.ref f)=AB)(hb:Binds X.K fd ps [])
  (ha:PA X (e::es) (tAs S X ces)) (hdb:(x == ("__debug__":AR))=false:=by decide) (he:starEach (e::es) X.env=(AC,eval e X.env)::starEach es X.env:=by rfl) (hpl:(backTo pos (starEach es X.env)).any (·.1)=false:=by rfl) :
  PE X (.Call (.Name x p) (e::es) [] pos) (tE S X (.call fi ces)) :=
 (zjX F hr hg hm hk hb .nil ha hdb he hpl).imp λσ H Q ⟨B,φ,st,ρ,rs,re,h⟩=>by
  erw[ev]at h;refine tAs.bind rs re h λxs H1 vs st1 φ1 s1 rs1 re1 rv h1=>?_;rw[A2];exact za7 rs1 rv h1
theorem zkp(F:yaQ X.prog X.w X.K X.mg X.base (CX1 X.prog X.w) k f fd ps (spI X.K S.cl S.call fi))(hr:yay k X.A)(hg:Gl X x)(hm:X.mg x=AA (.ref f))(hk:Az X.K (.ref f)=AB)(hb:Binds X.K fd ps [])
  (hdb:(x == ("__debug__":AR))=false:=by decide):PE X (.Call (.Name x p) [] [] pos) (tE S X (.call fi .nil)) :=
 (zhB F hr hg hm hk hb .nil hdb).imp λσ H Q ⟨B,φ,st,ρ,rs,re,h⟩=>by
  erw[ev,evs,R.bind]at h;exact za7 rs (by erw[yg];rfl) h
end
section
variable {P:A8}{w:An}{K:AE}{mg:AR->Option AG}{base:BI}{cl:Nat->AI}{T:Nat->Option IC.Fn}{fi:Nat}{fn:IC.Fn}{x qual:AR}{stm:CC}{f:AI}{fd:BK}{N ps:List AR}{k:Nat}
theorem CX1.mono{outer:List B8}{H:Hp}{s:AJ}{E E':XK}{e:AG}{s':AJ}(h:CX1 P w outer H s E e s')(n:∀cls H',E cls AD H'->E' cls AD H'):CX1 P w outer H s E' e s':=by
 let⟨a,cls,a0,H',Bh,r1,r2,r3,r4,r5,r6,r7,r8,r9,r10⟩:=h;exact⟨a,cls,a0,H',Bh,r1,r2,r3,r4,r5,r6,r7,r8,r9,n _ _ r10⟩
theorem yQ.start{B:AI->Prop}{φ:Ph}{H:Hp}{args:List PV}{vs:List V}(l:yg K cl B φ H args vs)(n:Nat)(hn:N.length - vs.length=n):yQ K cl B φ H (args.map AA++BG n AD) (L2.start N vs):=by
 have hl:=l.length;unfold L2.start;refine⟨by simp[hl,hn],λi v e=>?_⟩
 by_cases hi:i<args.length
 .rw[Ai (by simpa using hi),Bv]at e
  cases q:args[i]? with
  |none=>rw[q]at e;cases e
  |some v' =>
   rw[q]at e
   cases e
   let⟨y,hy,rv⟩:=l.get i q;exact⟨y,by rw[Ai (by simp;lia),Bv,hy];rfl,rv⟩
 .rw[Aw (by simp;lia),Eo]at e;split at e<;>cases e
theorem leave{N:List AR}{scope:Bj}{cd:AG}{A:Ay}{outer:List B8}{s₀:AJ}{H₀:Hp}{E:XK}{call:Nat->List PV->SO->R PV}{σ:St}{B:AI->Prop}{φ:Ph}{H:Hp}{c:Nat}{st':SO}{e:AG}{s':AJ}
  (h:ExcAt ⟨cl,call,AB⟩ (ya6 (CX1 P w) P w K mg base N qual scope f cd A outer s₀ H₀ E) σ B φ H c st' e s') (n:∀φ' H',Step φ H φ' H'->yD K cl B φ' H' st'->E (.ref (cl c)) AD H') :
  (ya6 (CX1 P w) P w K mg base N qual scope f cd A outer s₀ H₀ E).xe e s':=by
 rcases h with⟨pins,H1,s,φ1,I,s1,q⟩|⟨_,pins,H1,s,φ1,h',e0,vs,I,s1,rs,mk,rfl,rfl⟩|⟨_,pins,H1,s,I,q⟩
 .exact yeD pins σ H1 s e s' I (q.mono λcls H' ⟨e1,φ',s2,r⟩=>by subst e1;exact n φ' H' (s1.trans s2) r)
 .exact zi4 I mk (n φ1 H1 s1 rs)
 .exact yeo I (q.mono λcls H' ⟨e1,φ',s2,r⟩=>by subst e1;exact n φ' H' s2 r)
theorem zkE(hT:T fi=AA fn):∀(args:List PV) (st:SO),yc T (k+1) fi args st ≠ .bad->args.length=fn.np:=λargs st hne=>by
 apply Classical.byContradiction;intro c;apply hne;rw[yc,hT];exact if_neg c
theorem znZ(hT:T fi=AA fn)(hnp:ps.length=fn.np){vs:List V}{H:Hp}{Q:VK}{E:XK}(h:spI K cl (yc T (k+1)) fi vs H Q E):vs.length=ps.length:=by
 let⟨B,φ,st,args,rs,l,h⟩:=h;rw[hnp,<- l.length];refine zkE (k:=k) hT args st λz=>?_;rw[z]at h;exact h
theorem zlr(hT:T fi=AA fn)(hns:N.length=fn.ns){scope:Bj}{cdv:AG}{A:Ay}{outer:List B8}{s:AJ}{vs:List V}{H:Hp}{Q:VK}{E:XK}(h:spI K cl (yc T (k+1)) fi vs H Q E) :
  tSs ⟨cl,yc T k,AB⟩ (ya6 (CX1 P w) P w K mg base N qual scope f cdv A outer s H E) fn.body { nx:=λ_ H'=>Q .non H',rt:=Q } (L2.start N vs) H:=by
 let⟨B,φ,st,args,rs,l,h⟩:=h;have hl:args.length=fn.np:=zkE (k:=k) hT args st λz=>by rw[z]at h;exact h
 have hlen:=l.length;rw[yc,hT]at h;dsimp only at h;rw[if_pos hl]at h
 by_cases hp:fn.pure=AB
 .rw[if_pos hp]at h
  by_cases hz:nLs args=AB
  .rw[if_pos hz]at h;have rs0:yD K cl (λa=>B a \/ AA a∈φ) [] H []:=⟨rfl,λm n a e=>by simp at e,λn a e=>by simp at e,λn o e=>by simp at e,λa z=>by simp at z,λa z=>z.elim (rs.dom a) rs.there⟩;have back:∀{φ':Ph} {H':Hp},Step [] H φ' H'->Step φ H φ H'/\yD K cl B φ H' st:=λ{φ' H'} s' =>
    have kk:∀b o,H b=AA o->H' b=AA o:=λb o e=>s'.keep b o (by simp) e
    ⟨⟨λb o _ e=>kk b o e,AS _,λ_ _ _ e=>e,λ_ h=>.inl h⟩,rs.same kk⟩
   refine⟨_,[],[],_,rs0,yQ.start (yg.inn rs.nb args vs hz l) (fn.ns - fn.np) (by lia),?_⟩;show yaM _ _ _ _ _ (exs (yc T k) (args.map AA++BG (fn.ns - fn.np) AD) [] fn.body) _
   cases e:exs (yc T k) (args.map AA++BG (fn.ns - fn.np) AD) [] fn.body with
   |nx ρ' st' =>
    rw[e]at h;intro σ' H' φ' s' rs' re';let⟨s2,r2⟩:=back s';exact h .non H' φ s2 r2 (by erw[yd])
   |rt v st' =>
    rw[e]at h;dsimp only at h
    by_cases hv:nL v=AB
    .rw[if_pos hv]at h;intro y H' φ' s' rs' rv;let⟨s2,r2⟩:=back s';exact h y H' φ s2 r2 (yd.out v y hv rv)
    .rw[if_neg hv]at h;exact h.elim
   |exc c ρ' st' =>
    rw[e]at h;intro σ' φ1 H1 ev s' s1 _ ex;refine leave ex λφ2 H2 s2 _=>?_;let⟨s3,r3⟩:=back (s1.trans s2);exact h H2 φ s3 r3
   |bk ρ' st'=>rw[e]at h;exact h.elim
   |ct ρ' st'=>rw[e]at h;exact h.elim
   |bad=>rw[e]at h;exact h.elim
  .rw[if_neg hz]at h;exact h.elim
 .rw[if_neg hp]at h;refine⟨B,φ,st,_,rs,yQ.start l (fn.ns - fn.np) (by lia),?_⟩;show yaM _ _ _ _ _ (exs (yc T k) (args.map AA++BG (fn.ns - fn.np) AD) st fn.body) _
  cases e:exs (yc T k) (args.map AA++BG (fn.ns - fn.np) AD) st fn.body with
  |nx ρ' st' =>
   rw[e]at h;intro σ' H' φ' s' rs' re';exact h .non H' φ' s' rs' (by erw[yd])
  |rt v st' =>
   rw[e]at h;intro y H' φ' s' rs' rv;exact h y H' φ' s' rs' rv
  |exc c ρ' st' =>
   rw[e]at h;intro σ' φ1 H1 ev s' s1 _ ex;exact leave ex λφ2 H2 s2 r2=>h H2 φ2 (s1.trans s2) r2
  |bk ρ' st'=>rw[e]at h;exact h.elim
  |ct ρ' st'=>rw[e]at h;exact h.elim
  |bad=>rw[e]at h;exact h.elim
end
noncomputable def tyN:Ty->String
 | .int=>"int" | .bool=>"bool" | .str=>"str" | .tuple=>"tuple" | .list=>"list" | _=>""
structure yeL(K:AE)(t:Ty):Prop where
 n:Bc K (.type "NoneType") (.type (tyN t))=AA (ybI .non t)
 b:Bc K (.type "bool") (.type (tyN t))=AA (ybI (.bl AB) t)
 i:Bc K (.type "int") (.type (tyN t))=AA (ybI (.int 0) t)
 s:Bc K (.type "str") (.type (tyN t))=AA (ybI (.str GT) t)
 p:Bc K (.type "tuple") (.type (tyN t))=AA (ybI (.tp AB []) t)
 l:Bc K (.type "list") (.type (tyN t))=AA (ybI (.lst []) t)
section
variable {S:Se}{X:Cx}{σ:St}{B:AI->Prop}{φ:Ph}{H:Hp}{st:SO}{p pos p2 px:C5}{a b c d o:AV}{ca cb cc:Ce}{t:Ty}
def yfS(S:Se)(X:Cx)(t:Ty):List V->Hp->VK->Prop:=λxs H Q=>∃B φ st v x z,xs=[x,.ty (tyN t)]/\yD X.K S.cl B φ H st/\yd X.K S.cl B φ H v x/\ya1 v [t]=AA z/\ydn t=AB /\
 ∀z' H' φ',Step φ H φ' H'->yD X.K S.cl B φ' H' st->yd X.K S.cl B φ' H' z z'->Q z' H'
theorem znS(Z:yeL X.K t):yar X (.builtin "isinstance") (yfS S X t):=by
 rintro pins s σ H xs us Q I r ⟨B,φ,st,v,x,z,rfl,rs,rv,e,hb,q⟩
 let⟨u,c',rfl,ru,rc⟩:=vals2 r
 cases (show c'=Ew (tyN t)from rc)
 have fin:∀(k:Bool) (tk:Nat),z=.bl k->EP X pins σ Q (.bool k) { s with toks:=tk }:=λk tk ez=>⟨.bl k,H,I.tok tk,rfl,q _ H φ .rfl rs (by subst ez;erw[yd])⟩
 cases v with
 |non =>
  erw[yd]at rv;subst rv
  cases (show u=CZ from ru)
  erw[ya1,hb,if_true]at e;exact Cm PySem.W.kitx_none I.kIn Cj Z.n (λz=>nomatch z) λtk=>fin _ tk (by cases e;cases t<;>rfl)
 |bl k =>
  erw[yd]at rv;subst rv
  cases (show u=EF k from ru)
  erw[ya1,hb,if_true]at e;exact Cm PySem.W.kitx_bool I.kIn Cj Z.b (λz=>nomatch z) λtk=>fin _ tk (by cases e;cases t<;>rfl)
 |int k =>
  erw[yd]at rv;subst rv;let⟨tk,rfl⟩:=ru;erw[ya1,hb,if_true]at e;exact Cm PySem.W.kitx_int I.kIn Cj Z.i (λz=>nomatch z) λtk=>fin _ tk (by cases e;cases t<;>rfl)
 |str k =>
  erw[yd]at rv;subst rv;let⟨tk,rfl⟩:=ru;erw[ya1,hb,if_true]at e;exact Cm PySem.W.kitx_str I.kIn Cj Z.s (λz=>nomatch z) λtk=>fin _ tk (by cases e;cases t<;>rfl)
 |tp k vs =>
  erw[yd]at rv;let⟨y,ys,rfl,rt,l⟩:=rv
  cases (show u=Am y from ru)
  erw[ya1,hb,if_true]at e;let⟨its,_,⟨o,g,c,_,_⟩,_⟩:=I.tuple rt.sq;exact Cm PySem.W.kitx_tuple I.kIn ⟨o,g,c⟩ Z.p (λz=>nomatch z) λtk=>fin _ tk (by cases e;cases t<;>rfl)
 |lst vs =>
  erw[yd]at rv;let⟨y,ys,rfl,rt,l⟩:=rv
  cases (show u=Am y from ru)
  erw[ya1,hb,if_true]at e;let⟨_,_,n,_,h1⟩:=(show yad X.prog X.w H s.heap y (.lst ys)from I.hok y _ rt.1);exact Cm PySem.W.kitx_list I.kIn ⟨_,h1,rfl⟩ Z.l (λz=>nomatch z) λtk=>fin _ tk (by cases e;cases t<;>rfl)
 |loc n=>cases e
 |scr n=>cases e
 |exn n=>erw[ya1,Bo,List.all_nil,hb,Eg,if_true]at e;cases e
theorem zow{T:AR}(Z:yeL X.K t)(ht:ydn t=AB)(hg:Gl X "isinstance")(hm:X.mg "isinstance"=AD)(hgT:Gl X T)(hmT:X.mg T=AD)(hT:bootBuiltins T=AA (.type (tyN t)))(ha:PE X a (tE S X ca))(hnT:T ≠ "__name__":=by decide)(hdT:(T == ("__debug__":AR))=false:=by decide)
  (he:starEach [a,.Name T p2] X.env=(AC,eval a X.env)::starEach [.Name T p2] X.env:=by rfl) (hpl:(backTo pos (starEach [.Name T p2] X.env)).any (·.1)=false:=by rfl) :
  PE X (.Call (.Name "isinstance" p) [a,.Name T p2] [] pos) (tE S X (.isi ca [t])) :=
 (zgM (znS Z) hg hm Gd (zbL ha (zbL (zmx (v:=.ty (tyN t)) hgT hmT hT rfl hnT hdT) ybu) he) (by decide) (by decide) he hpl).imp λσ H Q ⟨B,φ,st,ρ,rs,re,h⟩=>by
  erw[ev]at h;refine tE.bind rs re h λx H1 v st1 φ1 s1 rs1 re1 rv h1=>?_;let⟨z,e,q⟩:=zaq h1 rs1;exact⟨B,φ1,st1,v,x,z,rfl,rs1,rv,e,ht,q⟩
theorem zjV{st4:SO}{x y v:PV}(h:ybD st x y v=AA st4):∃n xs k j,x=.loc n/\st[n]?=AA (.lst xs)/\y=.int k/\ixI xs.length k=AA j/\st4=st.set n (.lst (xs.set j v)):=by
 cases x with
 |loc n =>
  erw[ybD]at h
  cases q:st[n]? with
  |none=>rw[q]at h;cases h
  |some o =>
   rw[q]at h
   cases o with
   |lst xs =>
    cases y with
    |int k =>
     dsimp only at h
     cases q2:ixI xs.length k with
     |none=>rw[q2]at h;cases h
     |some j=>rw[q2]at h;exact⟨n,xs,k,j,rfl,q,rfl,q2,(AW h).symm⟩
    |_=>cases h
   |_=>cases h
 |_=>cases h
theorem yg.put{K:AE}{cl:Nat->AI}:∀{vs:List PV} {xs:List V} (j:Nat) {v:PV} {x:V},yg K cl B φ H vs xs->yd K cl B φ H v x->yg K cl B φ H (vs.set j v) (xs.set j x)
 | [],xs,j,v,x,l,r=>by erw[yg]at l;subst l;simp[yg]
 |w::vs,xs,0,v,x,l,r=>by
  erw[yg]at l;let⟨y,ys,rfl,_,l⟩:=l;erw[B4,yg];exact⟨x,ys,rfl,r,l⟩
 |w::vs,xs,j+1,v,x,l,r=>by
  erw[yg]at l;let⟨y,ys,rfl,ry,l⟩:=l;erw[B5,yg];exact⟨y,ys.set j x,rfl,ry,yg.put j l r⟩
theorem zoe(he:PE X a (tE S X ca))(ho:PE X b (tE S X cb))(hi:PE X c (tE S X cc))(hs:swapsWithSole [.Subscript b c px] a pos.line X.env=pure false:=by rfl)(hw:swappedStores [.Subscript b c px] a X.env=pure none:=by rfl)
  (hg:PG X (.Subscript b c px) (yfv (tE S X cb) (tE S X cc) ydO):=by exact zk0 ‹_› ‹_› zgl):PS X (.Assign [.Subscript b c px] a pos) (tS S X (.six cb cc ca)) :=
 (zk3 he hg hs hw).imp λD σ H ⟨B,φ,st,ρ,rs,re,h⟩=>by
  erw[ex]at h;refine tE.fl rs re h λv' H1 v st1 φ1 s1 rs1 re1 rv h1=>tE.fl rs1 re1 h1 λx' H2 x st2 φ2 s2 rs2 re2 rx h2=>tE.fl rs2 re2 h2 λy' H3 y st3 φ3 s3 rs3 re3 ry h3=>?_
  cases e:ybD st3 x y v with
  |none=>rw[e]at h3;exact h3.elim
  |some st4 =>
   rw[e]at h3;let⟨n,xs,k,j,rfl,hn,rfl,hj,rfl⟩:=zjV e;erw[yd]at ry;subst ry;let⟨l,ys,rfl,hp,hx,lr⟩:=rs3.list (rx.step s3) hn;refine⟨l,ys,k,j,rfl,rfl,hx,by rw[<- lr.length];exact hj,?_⟩;have s4:Step φ3 H3 φ3 (L2.upd H3 l (.lst (ys.set j v'))):=.put (A0 hp);exact h3 σ _ φ3 s4 (rs3.put hp ⟨_,zu,(lr.put j ((rv.step s2).step s3)).step s4⟩) (re3.step s4)
end
section
variable {S:Se}{X:Cx}{σ:St}{B:AI->Prop}{φ:Ph}{H:Hp}{st:SO}{p pos p2 px py pt pt2 apos:C5}{a b c d o:AV}{ca cb cc:Ce}{kt k2:Nat}
theorem zne{i j:Nat}{x y:AR}(hc:X.calm=AB)(hN:X.N.Nodup)(hi:X.N[i]?=AA x)(hj:X.N[j]?=AA y)(hij:i≠j)(h:PS X (.Assign [.Tuple [.Name x px,.Name y py] kt pt] (.Tuple [a,b] k2 pt2) pos) (ye9 i j (tAs S X (.cons ca (.cons cb .nil))))) :
  PS X (.Assign [.Tuple [.Name x px,.Name y py] kt pt] (.Tuple [a,b] k2 pt2) pos) (tS S X (.asg (.t [i,j]) (.tup (.cons ca (.cons cb .nil))))) :=
 h.imp λD σ H ⟨B,φ,st,ρ,rs,re,h⟩=>by
  erw[ex,ev]at h;refine⟨B,φ,st,ρ,rs,re,?_⟩
  cases e:evs S.call ρ st (.cons ca (.cons cb .nil))with
  |bad=>rw[e]at h;exact h
  |exc k st'=>rw[e]at h;exact λe s' x=>h σ φ H e s' .rfl re x
  |ok vs st' =>
   rw[e]at h;intro xs H' φ' s rs' l;erw[R.bind]at h;split at h
   .rcases vs with _|⟨v,_|⟨w,_|⟨u,t⟩⟩⟩
    .exact h.elim
    .exact h.elim
    .let⟨v',w',rfl,rv,rw⟩:=l.two;refine⟨v',w',rfl,?_⟩;exact h _ H' φ' s rs' (((re.step s).set i rv).set j rw)
    .exact h.elim
   .exact h.elim
theorem zmo{bo:BOp}{v w z:PV}(h:ybX bo v w=AA z):∃i j,v=.int i/\w=.int j/\IC.binI bo i j=AA z:=by
 unfold ybX at h;split at h
 .exact⟨_,_,rfl,rfl,h⟩
 .cases h
theorem zmQ:PIp X .Add (rT2 S X (ybX .add)):=by
 rintro pins s σ H x y v u Q I rx ry ⟨B,φ,st,a,b,z,rs,ra,rb,e,q⟩
 let⟨i,j,rfl,rfl,e⟩:=zmo e
 cases e
 erw[yd]at ra rb;subst ra rb;exact znM pins s σ H _ _ v u Q I rx ry ⟨i,j,rfl,rfl,q _ H φ .rfl rs (by erw[yd])⟩
end
end L2
namespace WK
open PySem L2 IC
def GC(K:AE)(mg:AR->Option AG)(cl:Nat->AI)(x:AR)(v:PV):Prop:=∃y:AI,mg x=AA (.ref y)/\∀B φ H,yd K cl B φ H v (.ref y)
theorem zpq{S:Se}{X:Cx}{x:AR}{v:PV}{pos:C5}(hg:Gl X x)(h:GC X.K X.mg S.cl x v)(hd:(x == ("__debug__":AR))=false:=by decide):PE X (.Name x pos) (tE S X (.cst v)):=by
 let⟨y,hm,hk⟩:=h;exact zmg hg hm hk hd
theorem zoL:bootBuiltins "int"=AA (.type "int"):=by decide +kernel
theorem zlG:bootBuiltins "bool"=AA (.type "bool"):=by decide +kernel
theorem zo7:bootBuiltins "str"=AA (.type "str"):=by decide +kernel
theorem zgL:bootBuiltins "tuple"=AA (.type "tuple"):=by decide +kernel
theorem zo3:bootBuiltins "len"=AA (.builtin "len"):=by decide +kernel
theorem zo6:bootBuiltins "min"=AA (.builtin "min"):=by decide +kernel
theorem zn7:bootBuiltins "max"=AA (.builtin "max"):=by decide +kernel
theorem znT:bootBuiltins "all"=AA (.builtin "all"):=by decide +kernel
theorem znU:bootBuiltins "sum"=AA (.builtin "sum"):=by decide +kernel
theorem zlx{k:Nat}{A:Ay}(r:yay k A):A.units+1<cLine:=by have:=r.units;lia
end WK
namespace L2
open PySem PySem.Spec PyProof.Rows IC
noncomputable def shC:Sum Ce Int->Option Int
 | .inl _=>AD
 | .inr i=>AA i
noncomputable def yaZ:List (Option Int)->List V->List V
 | [],_=>[]
 |some i::r,zs=>.int i::yaZ r zs
 |none::r,z::zs=>z::yaZ r zs
 |none::_,[]=>[]
noncomputable def pick:List (Option Int)->List V->List V
 |none::r,v::vs=>v::pick r vs
 |some _::r,_::vs=>pick r vs
 |_,_=>[]
noncomputable def nKw:List (Option Int)->Nat
 | []=>0
 |none::r=>nKw r+1
 |some _::r=>nKw r
noncomputable def yc7:Ces->Nat
 | .nil=>0
 | .cons _ r=>yc7 r+1
def gK(np:Nat)(sh:List (Option Int))(vs zs:List V):List V:=if vs.length=np/\zs.length=nKw sh then vs++yaZ sh zs else []
theorem zhD{call:Nat->List PV->SO->R PV}{ρ:IC.Env}:∀(a:Ces) {st st':SO} {vs:List PV},evs call ρ st a=.ok vs st'->vs.length=yc7 a
 | .nil,st,st',vs,h=>by erw[evs]at h;cases h;rfl
 | .cons e r,st,st',vs,h=>by
  erw[evs]at h
  cases q:ev call ρ st e with
  |ok v s1 =>
   rw[q]at h;erw[R.bind]at h
   cases q2:evs call ρ s1 r with
   |ok ws s2 =>
    rw[q2]at h
    cases h
    simp[yc7,zhD r q2]
   |exc c s=>rw[q2]at h;cases h
   |bad=>rw[q2]at h;cases h
  |exc c s=>rw[q]at h;cases h
  |bad=>rw[q]at h;cases h
theorem zi3{call:Nat->List PV->SO->R PV}{ρ:IC.Env}:∀(a b:Ces) (st:SO),evs call ρ st (yW a b)=(evs call ρ st a).bind λvs st1=>(evs call ρ st1 b).bind λws st2=>.ok (vs++ws) st2
 | .nil,b,st=>by
  erw[yW,evs,R.bind,Au]
  cases evs call ρ st b<;>rfl
 | .cons e r,b,st=>by
  erw[yW,evs]
  cases ev call ρ st e with
  |ok v st1 =>
   erw[R.bind];rw[zi3 r b st1]
   cases evs call ρ st1 r with
   |ok vs st2 =>
    erw[R.bind]
    cases evs call ρ st2 b<;>rfl
   |exc c s=>rfl
   |bad=>rfl
  |exc c s=>rfl
  |bad=>rfl
section
variable {S:Se}{X:Cx}{k:Nat}{f:AI}{fd:BK}{ps ks:List AR}{sp:Sp}{x:AR}{p pos kpos:C5}{e:AV}{es:List AV}{kws:List Ca}{nm:Option AR}{t tk:TA}{CX:CXT}{ca:Ce}{ces:Ces}{items:List (Sum Ce Int)}{g:List AG->List AG->List AG}{gV:List V->List V->List V}
theorem zcu{K:AE}{cl:Nat->AI}{B:AI->Prop}{φ:Ph}{H:Hp}{call:Nat->List PV->SO->R PV}{ρ:IC.Env}:∀(items:List (Sum Ce Int)) {st st':SO} {vs:List PV} {xs:List V},evs call ρ st (yo items)=.ok vs st'->yg K cl B φ H vs xs->yaZ (items.map shC) (pick (items.map shC) xs)=xs/\(pick (items.map shC) xs).length=nKw (items.map shC)
 | [],st,st',vs,xs,h,l=>by
  erw[yo,evs]at h
  cases h
  erw[yg]at l;subst l;exact⟨rfl,rfl⟩
 | .inl c::r,st,st',vs,xs,h,l=>by
  erw[yo,evs]at h;let⟨v,s1,e1,h⟩:=za8 h;let⟨ws,s2,e2,h⟩:=za8 h
  cases h
  erw[yg]at l;let⟨y,ys,rfl,_,l⟩:=l;let⟨q1,q2⟩:=zcu r e2 l;erw[AL,shC,pick,yaZ,nKw,AZ,q1,q2];exact⟨trivial,trivial⟩
 | .inr i::r,st,st',vs,xs,h,l=>by
  erw[yo,evs,ev]at h;let⟨v,s1,e1,h⟩:=za8 h;let⟨ws,s2,e2,h⟩:=za8 h
  cases h
  cases e1
  erw[yg,yd]at l;let⟨y,ys,rfl,rfl,l⟩:=l;let⟨q1,q2⟩:=zcu r e2 l;erw[AL,shC,pick,yaZ,nKw,q1,q2];exact⟨trivial,trivial⟩
def tK(S:Se)(X:Cx)(items:List (Sum Ce Int)):TA:=λσ H Q=>∃B φ st ρ,yD X.K S.cl B φ H st/\yQ X.K S.cl B φ H ρ σ/\Run S X σ B φ H (RL S X B) (evs S.call ρ st (yo items)) λxs H'=>Q (pick (items.map shC) xs) H'
theorem PK.imp{t t':TA}(h:PK X kws t')(k:∀σ H Q,t σ H Q->t' σ H Q):PK X kws t:=λpos pins s σ H Q I q=>h pos pins s σ H Q I (k σ H Q q)
theorem znd:PK X [] (tK S X []):=ydm.imp λσ H Q ⟨B,φ,st,ρ,rs,re,h⟩=>by
 erw[yo,evs]at h;exact h.ok rs (x:=[]) (by erw[yg])
theorem zpN{i:Int}(h:PK X kws (tK S X items)):PK X kws (tK S X (.inr i::items)):=h.imp λσ H Q ⟨B,φ,st,ρ,rs,re,h⟩=>by
 erw[yo,evs,ev,R.bind]at h;refine⟨B,φ,st,ρ,rs,re,?_⟩
 cases e:evs S.call ρ st (yo items)with
 |ok vs st' =>
  rw[e]at h;intro xs H' φ' s rs' l;exact h (.int i::xs) H' φ' s rs' (by erw[yg,yd];exact⟨_,_,rfl,rfl,l⟩)
 |exc c s=>rw[e]at h;exact h
 |bad=>rw[e]at h;exact h
theorem zpV(ha:PE X e (tE S X ca))(h:PK X kws (tK S X items)):PK X (⟨nm,e,kpos⟩ :: kws) (tK S X (.inl ca::items)):=(zmj ha h).imp λσ H Q ⟨B,φ,st,ρ,rs,re,h⟩=>by
 erw[yo,evs]at h;refine tE.bind rs re h λx H1 v st1 φ1 s1 rs1 re1 rv h1=>⟨B,φ1,st1,ρ,rs1,re1,?_⟩;refine(Run.bind (Rel:=RL S X B) h1).mono λxs H2 kq=>?_;let⟨ws,st2,φ2,s2,rs2,l,h2⟩:=kq;exact h2.ok rs2 (x:=x::xs) (by erw[yg];exact⟨x,xs,rfl,rv.step s2,l⟩)
theorem zka{fi:Nat}(F:yaQ X.prog X.w X.K X.mg X.base (CX1 X.prog X.w) k f fd ps (spI X.K S.cl S.call fi))(hr:yay k X.A)(hg:Gl X x)(hm:X.mg x=AA (.ref f))(hk:Az X.K (.ref f)=AB){np:Nat}(hb:∃g,ybR X.K fd ps ks g (gK np (items.map shC)))(hnp:yc7 ces=np)
  (ha:PA X (e::es) (tAs S X ces)) (hkw:PK X kws (tK S X items)) (hall:(backToKw pos (keywordEach kws X.env)).all (·.1.isSome)=true:=by rfl) (hks:(backToKw pos (keywordEach kws X.env)).filterMap (·.1)=ks:=by rfl)
  (hdb:(x == ("__debug__":AR))=false:=by decide) (he:starEach (e::es) X.env=(AC,eval e X.env)::starEach es X.env:=by rfl)
  (hpl:((backTo pos (starEach (e::es) X.env)).any (·.1) || (backToKw pos (keywordEach kws X.env)).any (·.1.isNone))=false:=by rfl) :
  PE X (.Call (.Name x p) (e::es) kws pos) (tE S X (.call fi (yW ces (yo items)))):=by
 intro pins s σ H Q I ⟨B,φ,st,ρ,rs,re,h⟩;erw[ev]at h;rw[zi3,R.bind_assoc]at h;refine Bb (zdg I hg hm ?_ hdb);have h0:tAs S X ces σ H λvs H1=>tK S X items σ H1 λzs H2=>∃E:XK,spI X.K S.cl S.call fi (gK np (items.map shC) vs zs) H2 Q E/\∀pins s e s',Inv X pins σ H2 s->CX1 X.prog X.w X.stack H2 s E e s'->X.xe e s':=by
  have hlen:∀vs st',evs S.call ρ st ces=.ok vs st'->vs.length=np:=λvs st' q=>(zhD ces q).trans hnp;refine⟨B,φ,st,ρ,rs,re,?_⟩
  cases q:evs S.call ρ st ces with
  |exc c s=>rw[q]at h;exact h
  |bad=>rw[q]at h;exact h
  |ok vs st1 =>
  rw[q]at h;intro xs H1 φ1 s1 rs1 rv;have h1:=Run.on s1 h;have re1:=re.step s1;have hv:=hlen vs st1 q;refine⟨B,φ1,st1,ρ,rs1,re1,?_⟩;have h1:Run S X σ B φ1 H1 (RV S X B) (((evs S.call ρ st1 (yo items)).bind λa st=>(R.ok (vs++a) st:R (List PV))).bind λvs st1=>S.call fi vs st1) Q:=h1;rw[R.bind_assoc]at h1
  cases e:evs S.call ρ st1 (yo items)with
  |ok ws st2 =>
   rw[e]at h1;intro ys H2 φ2 s2 rs2 l2;let⟨m1,m2⟩:=zcu items e l2;have eg:gK np (items.map shC) xs (pick (items.map shC) ys)=xs++ys:=by
    unfold gK;rw[if_pos ⟨by rw[<- rv.length];exact hv,m2⟩,m1]
   show ∃E:XK,spI X.K S.cl S.call fi (gK np (items.map shC) xs (pick (items.map shC) ys)) H2 Q E/\_;rw[eg];exact za7 rs2 ((rv.step s2).append l2) (Run.on s2 h1)
  |exc c s=>rw[e]at h1;exact h1
  |bad=>rw[e]at h1;exact h1
 refine PySem.W.callWith_KW (h₀:=X.base) I.ok.mod.kin hk hall (thn (ha pos pins s σ H _ I h0) λus s1 kq=>?_) hpl he;let⟨vs,H1,I1,r,q⟩:=kq;refine thn (hkw pos pins s1 σ H1 _ I1 q) λws s2 kq=>?_;let⟨zs,H2,I2,rz,E,q2,hx⟩:=kq;refine ⟨I2.kIn,?_⟩;rw[hks];let⟨g,hb⟩:=hb;have r2:=hb.rel r rz;have hl:(g us ws).length=ps.length:=by rw[<- r2.length];exact F.len _ _ _ _ q2
 refine Gm (Dz (F.run X.A X.stack s2 H2 ⟨us,ks.zip ws⟩ (g us ws) (gK np (items.map shC) vs zs) Q E hr I2.env0 (hb.to s2 us ws I2.kIn hl) r2 q2) λr s' hq=>?_)
 cases r with
 |error e=>exact hx pins s2 e s' I2 hq
 |ok fl =>
  cases fl with
  |ret u=>exact I2.after hq
  |next=>exact Br hq
  |brk=>exact Br hq
  |cont=>exact Br hq
end
noncomputable def ybf:List (Option Int)->List AG->List AG->List AG
 | [],_,_=>[]
 |some _::r,ws,d::ds=>d::ybf r ws ds
 |none::r,w::ws,_::ds=>w::ybf r ws ds
 |_,_,_=>[]
theorem zdk:∀(sh:List (Option Int)) (ds:List Int) {zs:List V} {ws us:List AG},Vals (ds.map V.int) us->Vals zs ws->sh.length=ds.length->(∀p∈sh.zip ds,∀i,p.1=AA i->i=p.2)->Vals (yaZ sh zs) (ybf sh ws us)
 | [],ds,zs,ws,us,r,q,hl,h=>.nil
 |some i::r,[],zs,ws,us,rr,q,hl,h=>by simp at hl
 |some i::r,d::ds,zs,ws,_,.cons a b,q,hl,h=>by
  have:i=d:=h (AA i,d) (by simp) i rfl;subst this;exact .cons a (zdk r ds b q (by simpa using hl) λp hp=>h p (by simp[hp]))
 |none::r,[],zs,ws,us,rr,q,hl,h=>by simp at hl
 |none::r,d::ds,_,_,_,.cons a b,.nil,hl,h=>.nil
 |none::r,d::ds,_,_,_,.cons a b,.cons c q,hl,h=>.cons c (zdk r ds b q (by simpa using hl) λp hp=>h p (by simp[hp]))
structure FnD(K:AE)(mg:AR->Option AG)(x:AR)(st:CC)(ps:List AR)(ds:List Int)(f:AI)(fd:BK):Prop where
 ex:∃(oc:AG) (od:Option AI) (dT:AI) (kV doc pm:AG) (an:Option AI) (cdv ct:AG) (osl:Array (Option AG)) (o:CO) (its:Array AG) (n:Nat),
  fd=Bf x x (yai st) (yag st) (yI st) (.ref dT) kV doc pm an cdv ct/\K.lookup f=AA ⟨oc,od,.func fd,osl⟩/\C0 K cdv x=AB/\K.lookup dT=AA o/\o.data=.seq its n/\Vals (ds.map V.int) its.toList
 kp:Az K (.ref f)=AB
 m:mg x=AA (.ref f)
theorem kbD{K:AE}{mg:AR->Option AG}{x:AR}{st:CC}{ps ks:List AR}{ds:List Int}{f:AI}{fd:BK}{np off:Nat}{sh:List (Option Int)}(D:FnD K mg x st ps ds f fd)(hnk:ks.length=nKw sh)(hsh:sh.length=(ds.drop off).length)(hd':((sh.zip (ds.drop off)).all λp=>p.1.all λi=>decide (i=p.2))=AB)
  (h:∀(dT:AI) (kV doc pm:AG) (an:Option AI) (cdv ct:AG) (us ws its:List AG),us.length=np->ws.length=ks.length->its.length=ds.length ->
   ∃k,bindArgs (Bf x x (yai st) (yag st) (yI st) (.ref dT) kV doc pm an cdv ct) ⟨us,ks.zip ws⟩=seqItems? (.ref dT) >>= k/\k (AA its.toArray)=pure (ps.zip (us++ybf sh ws (its.drop off)))) (hps:0<ps.length) :
  ∃g,ybR K fd ps ks g (gK np sh):=by
 have hd:∀p∈sh.zip (ds.drop off),∀i,p.1=AA i->i=p.2:=λp hp i hi=>by
  have:=Bg.mp hd' p hp;rw[hi]at this;simpa using this
 let⟨oc,od,dT,kV,doc,pm,an,cdv,ct,osl,o,its,n,rfl,lk,hcd,lo,hs,r⟩:=D.ex;refine⟨λus ws=>if us.length=np/\ws.length=nKw sh then us++ybf sh ws (its.toList.drop off)else [],⟨λs us ws KX hl=>?_,λ{vs us zs ws} rv rz=>?_⟩⟩
 .by_cases c:us.length=np/\ws.length=nKw sh
  .rw[if_pos c]at hl ⊢;let⟨k,h1,h2⟩:=h dT kV doc pm an cdv ct us ws its.toList c.1 (by rw[hnk];exact c.2) (by rw[<- r.length,Ax]);exact BindsTo.of_defaults rfl (KX _ _ lo) hs h1 (by simpa using h2)
  .rw[if_neg c]at hl;simp at hl;lia
 .unfold gK;have e1:=rv.length;have e2:=rz.length
  by_cases c:us.length=np/\ws.length=nKw sh
  .rw[if_pos c,if_pos (by lia)];refine rv.append (zdk sh (ds.drop off) ?_ rz hsh hd);rw[List.map_drop];exact r.drop off
  .rw[if_neg c,if_neg (by lia)];exact .nil
section
variable {P:A8}{w:An}{K:AE}{mg:AR->Option AG}{base:BI}{cl:Nat->AI}{T:Nat->Option IC.Fn}{fi:Nat}{fn:IC.Fn}{x:AR}{stm:CC}{f:AI}{fd:BK}{N ps:List AR}{ds:List Int}{k:Nat}
end
theorem zeJ(a b:Key):peq (yaN a) (yaN b)=decide (a=b):=by
 rw[Dt]
 cases a<;>cases b<;>simp[yaN,peq]
theorem zgt:∀(a b:List Key),ybz (a.map yaN) (b.map yaN)=decide (a=b)
 | [],[]=>by simp[ybz]
 | [],y::ys=>by simp[ybz]
 |x::xs,[]=>by simp[ybz]
 |x::xs,y::ys=>by
  erw[AL,ybz,zeJ,zgt xs ys];rw[Dt];simp
theorem zei(a b:List Key):peq (.tup (a.map yaN)) (.tup (b.map yaN))=decide (a=b):=by
 erw[peq,zgt]
theorem ziD{k:PV}(h:ybS k=AB):∃q,k=yaN q:=by
 cases k with
 |int i=>exact⟨.inl i,rfl⟩
 |str i=>exact⟨.inr i,rfl⟩
 |_=>cases h
theorem zhM:∀{ks:List PV},ks.all ybS=AB->∃qs:List Key,ks=qs.map yaN
 | [],_=>⟨[],rfl⟩
 |k::ks,h=>by
  rw[Bo,AK]at h;let⟨q,rfl⟩:=ziD h.1;let⟨qs,rfl⟩:=zhM h.2;exact⟨q::qs,rfl⟩
section
variable {S:Se}{X:Cx}{K:AE}{cl:Nat->AI}{σ:St}{B:AI->Prop}{φ:Ph}{H:Hp}{st:SO}{p pos p2 px apos:C5}{a b c d o:AV}{ca cb cc:Ce}
theorem ybm{q:Key}{x:V}:yd K cl B φ H (yaN q) x ↔ x=kV q:=by
 cases q<;>simp[yaN,yd,kV]
theorem zfe:∀{qs:List Key} {xs:List V},yg K cl B φ H (qs.map yaN) xs->xs=qs.map kV
 | [],xs,l=>by simpa only[A5,yg] using l
 |q::qs,xs,l=>by
  erw[AL,yg]at l;let⟨y,ys,rfl,r,l⟩:=l;rw[ybm.mp r,zfe l];rfl
theorem DK.look{q:Key}:∀{kvs:List (PV×PV)} {ks:List (Key×V)},DK K cl B φ H kvs ks->∀{v:PV} {x:V},yd K cl B φ H v x->yd K cl B φ H ((IC.look (yaN q) kvs).getD v) ((ybP ks q).getD x)
 | [],ks,h,v,x,r=>by cases h;exact r
 | (k,w)::t,ks,h,v,x,r=>by
  let⟨q',y,s,rfl,rfl,rv,l⟩:=h;erw[IC.look,zeJ]
  by_cases e:q'=q
  .rw[zce (p:=(q',y)) e];simp[e,rv]
  .rw[zcl (p:=(q',y)) e];erw[decide_eq_true_eq,e,if_false];exact DK.look l r
theorem DT.look{q:List Key}:∀{kvs:List (PV×PV)} {ks:List (List Key×V)},DT K cl B φ H kvs ks->∀{v:PV} {x:V},yd K cl B φ H v x->yd K cl B φ H ((IC.look (.tup (q.map yaN)) kvs).getD v) ((ybP ks q).getD x)
 | [],ks,h,v,x,r=>by cases h;exact r
 | (k,w)::t,ks,h,v,x,r=>by
  let⟨q',y,s,rfl,rfl,rv,l⟩:=h;erw[IC.look,zei]
  by_cases e:q'=q
  .rw[zce (p:=(q',y)) e];simp[e,rv]
  .rw[zcl (p:=(q',y)) e];erw[decide_eq_true_eq,e,if_false];exact DT.look l r
theorem DK.any{q:Key}:∀{kvs:List (PV×PV)} {ks:List (Key×V)},DK K cl B φ H kvs ks->(kvs.any λp=>peq p.1 (yaN q))=ks.any λkv=>decide (kv.1=q)
 | [],ks,h=>by cases h;rfl
 | (k,w)::t,ks,h=>by
  let⟨q',y,s,rfl,rfl,rv,l⟩:=h;erw[Bu,zeJ,DK.any l]
theorem DT.any{q:List Key}:∀{kvs:List (PV×PV)} {ks:List (List Key×V)},DT K cl B φ H kvs ks->(kvs.any λp=>peq p.1 (.tup (q.map yaN)))=ks.any λkv=>decide (kv.1=q)
 | [],ks,h=>by cases h;rfl
 | (k,w)::t,ks,h=>by
  let⟨q',y,s,rfl,rfl,rv,l⟩:=h;erw[Bu,zei,DT.any l]
theorem DK.map{q:Key}{v:PV}{x:V}(r:yd K cl B φ H v x):∀{kvs:List (PV×PV)} {ks:List (Key×V)},DK K cl B φ H kvs ks->DK K cl B φ H (kvs.map λp=>if peq p.1 (yaN q)=AB then(p.1,v)else p) (ks.map λkv=>if kv.1=q then(kv.1,x)else kv)
 | [],ks,h=>by cases h;exact rfl
 | (k,w)::t,ks,h=>by
  let⟨q',y,s,rfl,rfl,rv,l⟩:=h;erw[AL,zeJ,decide_eq_true_eq]
  by_cases e:q'=q
  .simp only[e,if_true];exact⟨q,x,_,rfl,rfl,r,DK.map r l⟩
  .simp only[e,if_false];exact⟨q',y,_,rfl,rfl,rv,DK.map r l⟩
theorem DT.map{q:List Key}{v:PV}{x:V}(r:yd K cl B φ H v x):∀{kvs:List (PV×PV)} {ks:List (List Key×V)},DT K cl B φ H kvs ks->DT K cl B φ H (kvs.map λp=>if peq p.1 (.tup (q.map yaN))=AB then(p.1,v)else p) (ks.map λkv=>if kv.1=q then(kv.1,x)else kv)
 | [],ks,h=>by cases h;exact rfl
 | (k,w)::t,ks,h=>by
  let⟨q',y,s,rfl,rfl,rv,l⟩:=h;erw[AL,zei,decide_eq_true_eq]
  by_cases e:q'=q
  .simp only[e,if_true];exact⟨q,x,_,rfl,rfl,r,DT.map r l⟩
  .simp only[e,if_false];exact⟨q',y,_,rfl,rfl,rv,DT.map r l⟩
theorem DK.snoc{q:Key}{v:PV}{x:V}(r:yd K cl B φ H v x):∀{kvs:List (PV×PV)} {ks:List (Key×V)},DK K cl B φ H kvs ks->DK K cl B φ H (kvs++[(yaN q,v)]) (ks++[(q,x)])
 | [],ks,h=>by cases h;exact⟨q,x,[],rfl,rfl,r,rfl⟩
 | (k,w)::t,ks,h=>by
  let⟨q',y,s,rfl,rfl,rv,l⟩:=h;exact⟨q',y,_,rfl,rfl,rv,DK.snoc r l⟩
theorem DT.snoc{q:List Key}{v:PV}{x:V}(r:yd K cl B φ H v x):∀{kvs:List (PV×PV)} {ks:List (List Key×V)},DT K cl B φ H kvs ks->DT K cl B φ H (kvs++[(.tup (q.map yaN),v)]) (ks++[(q,x)])
 | [],ks,h=>by cases h;exact⟨q,x,[],rfl,rfl,r,rfl⟩
 | (k,w)::t,ks,h=>by
  let⟨q',y,s,rfl,rfl,rv,l⟩:=h;exact⟨q',y,_,rfl,rfl,rv,DT.snoc r l⟩
theorem DK.put{q:Key}{v:PV}{x:V}{kvs:List (PV×PV)}{ks:List (Key×V)}(l:DK K cl B φ H kvs ks)(r:yd K cl B φ H v x):DK K cl B φ H (IC.put (yaN q) v kvs) (putK ks q x):=by
 unfold IC.put putK;rw[DK.any l];split
 .exact DK.map r l
 .exact DK.snoc r l
theorem DT.put{q:List Key}{v:PV}{x:V}{kvs:List (PV×PV)}{ks:List (List Key×V)}(l:DT K cl B φ H kvs ks)(r:yd K cl B φ H v x):DT K cl B φ H (IC.put (.tup (q.map yaN)) v kvs) (putK ks q x):=by
 unfold IC.put putK;rw[DT.any l];split
 .exact DT.map r l
 .exact DT.snoc r l
theorem DK.len:∀{kvs:List (PV×PV)} {ks:List (Key×V)},DK K cl B φ H kvs ks->kvs.length=ks.length
 | [],ks,h=>by cases h;rfl
 | (k,w)::t,ks,h=>by
  let⟨q',y,s,rfl,rfl,rv,l⟩:=h;simp[DK.len l]
theorem DT.len:∀{kvs:List (PV×PV)} {ks:List (List Key×V)},DT K cl B φ H kvs ks->kvs.length=ks.length
 | [],ks,h=>by cases h;rfl
 | (k,w)::t,ks,h=>by
  let⟨q',y,s,rfl,rfl,rv,l⟩:=h;simp[DT.len l]
theorem yD.dct{n:Nat}{t:Bool}{kvs:List (PV×PV)}{x:V}(rs:yD K cl B φ H st)(r:yd K cl B φ H (.loc n) x)(h:st[n]?=AA (.dct t kvs)):∃y,x=.ref y/\φ[n]?=AA (AA y)/\yct K cl B φ H (.dct t kvs) y:=by
 erw[yd]at r;let⟨hn,y,rfl,ha⟩:=r;let⟨z,hz⟩:=rs.liv n _ h (by intro z;cases z);obtain rfl:=ha z hz;let⟨o,ho,ro⟩:=rs.obj n z hz;rw[h]at ho;cases ho;exact⟨z,rfl,hz,ro⟩
theorem zeS{v:PV}{t:Bool}{kvs:List (PV×PV)}(h:ybq st v=AA (t,kvs)):∃n,v=.loc n/\st[n]?=AA (.dct t kvs):=by
 cases v with
 |loc n =>
  erw[ybq]at h;split at h
  .rename_i t' xs q
   cases h
   exact⟨n,rfl,q⟩
  .cases h
 |_=>cases h
theorem zi5{k:PV}(h:isKey AC k=AB):∃q,k=yaN q:=ziD h
theorem zhH{k:PV}(h:isKey AB k=AB):∃q:List Key,k=.tup (q.map yaN):=by
 cases k with
 |tp b xs =>
  cases b with
  |false =>
   let⟨qs,rfl⟩:=zhM h;exact⟨qs,rfl⟩
  |true=>cases h
 |_=>cases h
theorem zig{q:List Key}{x:V}(r:yd K cl B φ H (.tup (q.map yaN)) x):∃y,x=.ref y/\H y=AA (.tup (q.map kV)):=by
 erw[yd]at r;let⟨y,xs,rfl,rt,l⟩:=r;rcases rt with⟨rt,_⟩|⟨z,_⟩
 .exact⟨y,rfl,by rw[rt,zfe l]⟩
 .cases z
theorem zij:PE X (.Dict [] [] pos) (tE S X (.dict0 AB)):=ycA.imp λσ H Q ⟨B,φ,st,ρ,rs,re,h⟩=>by
 erw[ev]at h;exact λp hp=>h _ _ (φ++[AA p]) (.push hp) (rs.push hp (rs.nB hp) ⟨[],zu,rfl⟩) (.loc_new rs)
theorem zpb(hu:X.A.units+1<cLine)(ha:PE X a (tE S X ca))(hb:PE X b (tE S X cb))(hc:PE X c (tE S X cc))(m:M2 X a "get" apos b c pos:=by exact⟨rfl,rfl,rfl,rfl⟩):PE X (.Call (.Attribute a "get" apos) [b,c] [] pos) (tE S X (.mth .get ca (.cons cb (.cons cc .nil)))) :=
 (zkr hu ha hb hc m).imp λσ H Q ⟨B,φ,st,ρ,rs,re,h⟩=>by
  erw[ev]at h;refine tE.bind rs re h λx H1 v st1 φ1 s1 rs1 re1 rv h1=>?_;let⟨_,e1,h1⟩:=ziF h1;erw[ya3]at e1
  cases q:ybq st1 v with
  |none=>rw[q]at e1;cases e1
  |some tk =>
   let⟨t,kvs⟩:=tk;let⟨n,rfl,hn⟩:=zeS q;let⟨y,rfl,hy,ro⟩:=rs1.dct rv hn;refine⟨y,rfl,?_,?_⟩
   .cases t with
    |false=>let⟨ks,hk,_⟩:=ro;exact .inl ⟨ks,.inl hk⟩
    |true=>let⟨ks,hk,_⟩:=ro;exact .inr ⟨ks,.inl hk⟩
   .simp only[evs,R.bind_assoc]at h1;refine tE.bind rs1 re1 h1 λkx H2 kv st2 φ2 s2 rs2 re2 rk h2=>tE.bind rs2 re2 h2 λdx H3 dv st3 φ3 s3 rs3 re3 rd h3=>?_;erw[R.bind]at h3;unfold ycL at h3;erw[ydU]at h3
    cases q3:ybq st3 (.loc n)with
    |none=>rw[q3]at h3;exact h3.elim
    |some tk3 =>
     let⟨t3,kvs3⟩:=tk3;rw[q3]at h3;dsimp only at h3;split at h3
     .rename_i hk;let⟨n',e',hn3⟩:=zeS q3
      cases e'
      let⟨y3,ey,hy3,ro3⟩:=rs3.dct ((rv.step s2).step s3) hn3
      cases ey
      have rk3:=rk.step s3
      cases t3 with
      |false =>
       let⟨q,rfl⟩:=zi5 hk;let⟨ks,hks,l⟩:=ro3;refine⟨ybP ks q,.inl ⟨ks,q,.inl hks,ybm.mp rk3,rfl⟩,h3.ok rs3 (DK.look l rd)⟩
      |true =>
       let⟨q,rfl⟩:=zhH hk;let⟨ks,hks,l⟩:=ro3;let⟨b',rfl,hb'⟩:=zig rk3;exact⟨ybP ks q,.inr ⟨ks,q,b',.inl hks,rfl,hb',rfl⟩,h3.ok rs3 (DT.look l rd)⟩
     .exact h3.elim
theorem ziI{st4:SO}{x y v:PV}(h:ybp st x y v=AA st4):∃n t kvs,x=.loc n/\st[n]?=AA (.dct t kvs)/\isKey t y=AB/\kvs.length<1000000/\st4=st.set n (.dct t (IC.put y v kvs)):=by
 cases x with
 |loc n =>
  erw[ybp]at h;split at h
  .rename_i t kvs q;split at h
   .rename_i c;exact⟨n,t,kvs,rfl,q,c.1,c.2,(AW h).symm⟩
   .cases h
  .cases h
 |_=>cases h
theorem zlN(hu:X.A.units+1<cLine)(ho:PE X b (tE S X cb))(hi:PE X c (tE S X cc))(hv:PE X a (tE S X ca))(hs:swapsWith a (AA (.Subscript b c px)) pos.line X.env=pure false:=by rfl):PS X (.Assign [.Subscript b c px] a pos) (tS S X (.dput cb cc ca)) :=
 (zmz hu ho hi hv hs).imp λD σ H ⟨B,φ,st,ρ,rs,re,h⟩=>by
  erw[ex]at h;refine tE.fl rs re h λv' H1 v st1 φ1 s1 rs1 re1 rv h1=>tE.fl rs1 re1 h1 λx' H2 x st2 φ2 s2 rs2 re2 rx h2=>tE.fl rs2 re2 h2 λy' H3 y st3 φ3 s3 rs3 re3 ry h3=>?_
  cases e:ybp st3 x y v with
  |none=>rw[e]at h3;exact h3.elim
  |some st4 =>
   rw[e]at h3;let⟨n,t,kvs,rfl,hn,hk,hl,rfl⟩:=ziI e;let⟨l,rfl,hp,ro⟩:=rs3.dct (rx.step s3) hn;have rv3:=(rv.step s2).step s3;have hm:=yb9
   cases t with
   |false =>
    let⟨q,rfl⟩:=zi5 hk;let⟨ks,hks,ld⟩:=ro;have s4:Step φ3 H3 φ3 (L2.upd H3 l (.dK (putK ks q v'))):=.put (A0 hp);refine⟨l,_,rfl,.inl ⟨ks,q,hks,ybm.mp ry,by have:=ld.len;lia,rfl⟩,h3 σ _ φ3 s4 (rs3.put hp ⟨_,zu,(ld.put rv3).step s4⟩) (re3.step s4)⟩
   |true =>
    let⟨q,rfl⟩:=zhH hk;let⟨ks,hks,ld⟩:=ro;let⟨b',rfl,hb'⟩:=zig ry;have s4:Step φ3 H3 φ3 (L2.upd H3 l (.dT (putK ks q v'))):=.put (A0 hp);refine⟨l,_,rfl,.inr ⟨ks,q,b',hks,rfl,hb',by have:=ld.len;lia,rfl⟩,h3 σ _ φ3 s4 (rs3.put hp ⟨_,zu,(ld.put rv3).step s4⟩) (re3.step s4)⟩
end
section
variable {S:Se}{X:Cx}{σ:St}{B:AI->Prop}{φ:Ph}{H:Hp}{p pos p3 p4:C5}{a b tg:AV}{ca cb:Ce}
end
end L2
namespace WK
open PySem L2 IC
section
variable {K:AE}{cl:Nat->AI}{B:AI->Prop}{φ:Ph}{H:Hp}
theorem zkT:yg K cl B φ H [] []:=by erw[yg]
theorem zh9{v:PV}{x:V}{vs:List PV}{xs:List V}(h:yd K cl B φ H v x)(l:yg K cl B φ H vs xs):yg K cl B φ H (v::vs) (x::xs):=by
 erw[yg];exact⟨x,xs,rfl,h,l⟩
end
theorem zoC{P:A8}{w:An}{outer:List B8}{H:Hp}{s:AJ}{e:AG}{s':AJ}(h:CX1 P w outer H s (λ_ _ _=>False) e s'):False:=by
 let⟨_,_,_,_,_,_,_,_,_,_,_,_,_,_,z⟩:=h;exact z
theorem zhq{K:AE}{cl:Nat->AI}{B:AI->Prop}{φ:Ph}{H:Hp}:∀ns:List Int,yg K cl B φ H (ns.map .int) (ns.map V.int)
 | []=>zkT
 |n::ns=>zh9 (by erw[yd]) (zhq ns)
def spX(K:AE)(call:Nat->List PV->SO->R PV)(fi:Nat):Sp:=λvs H Q E=>∀cl,spI K cl call fi vs H Q E
theorem zhs{K:AE}{call:Nat->List PV->SO->R PV}{fi:Nat}{H:Hp}{a:AI}{ns:List Int}(ht:∀ns:List Int,ns.length<=63->call fi [.scr (ns.map .int)] []=.ok (.bl AB) [])(hl:ns.length<=63)(hS:SqL K H a (ns.map V.int)) :
  spX K call fi [.ref a] H (λv _=>v=.bl AB) λ_ _ _=>False:=by
 intro cl;refine⟨λ_=>False,[],[],[.scr (ns.map .int)],⟨rfl,λm n a e=>by simp at e,λn a e=>by simp at e,λn o e=>by simp at e,λa z=>by simp at z,λa z=>z.elim⟩,zh9 ?_ zkT,?_⟩
 .simp only[yd];refine⟨a,_,rfl,?_,zhq ns⟩;rcases hS with hS|hS
  .exact .inl ⟨hS,λz=>z,by simp⟩
  .exact .inr hS
 .rw[ht ns hl];intro x H' φ' _ _ r;simpa only[yd] using r
end WK
namespace L2
open PySem PySem.Spec PyProof.Rows IC
theorem zhQ{l:List AR}(h:l.Nodup){i j:Nat}(hi:i<l.length)(hj:j<l.length)(e:l[i]=l[j]):i=j:=by
 rcases Nat.lt_trichotomy i j with q|q|q
 .exact absurd e (E5.mp h i j hi hj q)
 .exact q
 .exact absurd e.symm (E5.mp h j i hj hi q)
section
variable {X:Cx}{pins:List (AI×CO)}{σ:St}{H:Hp}{s:AJ}
theorem Inv.drop{h':BI}{m:AR->Option AG}{v:Option AG}{i:Nat}{n:AR}(I:Inv X pins σ H s)(hN:X.N.Nodup)(hi:X.N[i]?=AA n)(hm:s.heap.Ns X.env.locals m)(look:∀(i:Nat) (x:AR) (v:V),X.N[i]?=AA x->σ[i]?=AA (AA v)->Vis X.env.scope x->∃u,RelV v u/\Look X.env s.heap m x u)(hs:Ci X.env.locals s.heap h')(hn:h'.Ns X.env.locals (λx=>if x=n then v else m x)):Inv X pins (σ.set i AD) H { s with heap:=h' }:=by
 have k:∀b u,b≠X.env.locals->s.heap.get? b=AA u->h'.get? b=AA u:=λb u hb q=>(hs.2 b hb).trans q;have nl:∀b o,X.s₀.heap.get? b=AA o->b≠X.env.locals:=λb o e=>Av (A6 (AY e) I.ok.above);refine⟨I.ok,I.os,I.bare,⟨λb o q n hb hx=>k b o (nl b o q) (I.base.keep b o q n hb hx),λb o q n hb hx=>?_,I.base.free,λb o q hx=>?_,I.base.tups,I.base.frzs,I.base.tbls⟩,⟨_,hn,λj x v e1 e2 hv=>?_⟩,λx c e=>?_,I.free,I.freeC,λp hp=>?_,λb u e=>?_,?_⟩
 .let⟨sl,q1⟩:=I.base.slot b o q n hb hx;exact⟨sl,k b _ (nl b o q) q1⟩
 .let⟨o',q1⟩:=I.base.there b o q hx;exact⟨o',k b o' (nl b o q) q1⟩
 .have hj:j≠i:=λz=>by
   subst z;rw[Co]at e2;erw[if_true]at e2;split at e2<;>cases e2
  rw[AO (BM hj)]at e2;have hx:x≠n:=λz=>by
   subst z;let⟨l1,g1⟩:=BP.mp e1;let⟨l2,g2⟩:=BP.mp hi;exact hj (zhQ hN l1 l2 (g1.trans g2.symm))
  let⟨u,r,lk⟩:=look j x v e1 e2 hv;refine⟨u,r,?_⟩;rcases lk with⟨q1,q2⟩|⟨q1,c,q2,o,q3,q4⟩
  .exact .inl ⟨q1,by dsimp only;rw[if_neg hx];exact q2⟩
  .exact .inr ⟨q1,c,q2,o,k c o (I.cne x c q2) q3,q4⟩
 .let⟨v,o,ho,hd⟩:=I.cell x c e;exact⟨v,o,k c o (I.cne x c e) ho,hd⟩
 .let⟨q1,q2,q3,q4⟩:=I.pin p hp;exact⟨k _ _ q3 q1,q2,q3,q4⟩
 .refine(I.hok b u e).stay (λc v hc q=>k c v (λz=>?_) q) (λ_ q=>q) λ_ _ q=>q;have fr:=I.free;subst z;rcases hc with z|z
  .rw[z,e]at fr
   cases fr
  .rw[z]at fr
   cases fr
 .rw[Be];exact I.len
end
section
variable {X:Cx}{body suite:List CC}{b₀:CC}{x n:AR}{np hpos pos:C5}{W:AI}{i:Nat}
end
section
variable {S:Se}{X:Cx}{σ:St}{B:AI->Prop}{φ φ1:Ph}{H H1:Hp}{st:SO}{ρ:IC.Env}{D:Ends}{body suite:List CC}{b₀:CC}{x n:AR}{p p2 np hpos pos cpos:C5}{W:AI}{i:Nat}{cb ch:Css}{a e:AV}{es:List AV}{ca ce:Ce}{ces:Ces}
theorem yQ.drop{K:AE}{cl:Nat->AI}(r:yQ K cl B φ H ρ σ)(i:Nat):yQ K cl B φ H (ρ.set i AD) (σ.set i AD):=by
 refine⟨by rw[Be,Be];exact r.len,λj w e=>?_⟩
 by_cases h:j=i
 .subst h;rw[Co]at e;erw[if_true]at e;split at e<;>cases e
 .rw[AO (BM h)]at e ⊢;exact r.get j w e
noncomputable abbrev Se.quiet(S:Se):Se:={ S with may:=AC }
theorem all_nil{P:Nat->Prop}:∀c∈([]:List Nat),P c:=λ_ h=>by cases h
theorem all_cons{P:Nat->Prop}{c:Nat}{cs:List Nat}(h:P c)(t:∀d∈cs,P d):∀d∈c::cs,P d:=λd hd=>by
 rcases AQ.mp hd with e|e
 .exact e ▸ h
 .exact t d e
structure ydj(K:AE)(mg:AR->Option AG)(C:AI)(x:AR):Prop where
 m:mg x=AA (.ref C)
 q:Ff K C [.type "ValueError",.type "Exception",.type "BaseException",.type "object"] "ValueError.__new__"=AB
end
section
variable {S:Se}{X:Cx}{p pos p2 px apos:C5}{a b:AV}{ca cb:Ce}
def GCI(mg:AR->Option AG)(x:AR)(i:Int):Prop:=∃t,mg x=AA (.int i t)
theorem zoY{x:AR}{i:Int}(hg:Gl X x)(h:GCI X.mg x i)(hd:(x == ("__debug__":AR))=false:=by decide):PE X (.Name x pos) (tE S X (.cst (.int i))):=by
 let⟨t,hm⟩:=h;exact(zdK hg hm (show RelV (.int i) (.int i t)from ⟨t,rfl⟩) hd).imp λσ H Q ⟨B,φ,st,ρ,rs,re,h⟩=>by
  erw[ev]at h;exact h.ok rs (by erw[yd])
end
end L2
namespace WE
open PySem PySem.Spec PyProof.Rows
section
variable {prog:A8}{w:An}{A:Ay}{E:AG->AJ->Prop}{s:AJ}
def ydy(h:BI)(a t:AI)(i:Int):Prop:=∃o,h.get? a=AA o/\o.cls=.type "reversed"/\o.data=.fields #[.ref t,rawInt i]
theorem ydy.typeIs{a t:AI}{i:Int}(x:ydy s.heap a t i):s.TypeIs (.ref a) "reversed":=let ⟨o,ho,hc,_⟩:=x;⟨o,ho,hc⟩
end
end WE
namespace L2
open PySem PySem.Spec PyProof.Rows
end L2
namespace L2
open PySem PySem.Spec PyProof.Rows IC
open Classical in
section
variable {S:Se}{X:Cx}{σ:St}{B:AI->Prop}{φ φ1:Ph}{H H1:Hp}{st:SO}{ρ:IC.Env}{p pos p2 px py pt pt2:C5}{a b c d o a' b' c' d':AV}{ca cb cc cd ce cf:Ce}{pins:List (AI×CO)}{s:AJ}{kt k2:Nat}{es:List AV}{ces:Ces}{x:AR}
end
end L2
namespace IC
open PySem
end IC
namespace L2
open PySem PySem.Spec PyProof.Rows IC
section
variable {S:Se}{X:Cx}{σ:St}{B:AI->Prop}{φ:Ph}{H:Hp}{p p2 pos pos2 apos:C5}{a b tg:AV}{ca cb:Ce}
end
end L2
namespace WE
open PySem PySem.Spec PyProof.Rows
section
variable {pg:A8}{wd:An}{A:Ay}{Er:AG->AJ->Prop}{s:AJ}
theorem tit_keep{h h':BI}{i t:AI}{j:Nat}(u:h.IsTupleIter i t j)(k:∀o,h.get? i=AA o->h'.get? i=AA o):h'.IsTupleIter i t j:=let ⟨o,g,r⟩:=u;⟨o,k o g,r⟩
theorem zc0{h h':BI}{t:AI}{xs:Array AG}(u:h.IsTuple t xs)(k:∀o,h.get? t=AA o->h'.get? t=AA o):h'.IsTuple t xs:=let ⟨o,g,r⟩:=u;⟨o,k o g,r⟩
def Kz(z TO i1 i2:AI)(h h':BI):Prop:=∀c o,c≠z->c≠TO->c≠i1->c≠i2->h.get? c=AA o->h'.get? c=AA o
theorem zib{z TI TO i1 i2 l1 l2:AI}{j:Nat}{xs ys:Array AG}{x y a b:AG}{Q:AG->AJ->Prop}(D:GM z TI TO i1 i2 l1 l2)
  (gz:Ec s.heap z TI TO .none) (gI:C9 s.heap TI (.ref i1) (.ref i2)) (gO:C9 s.heap TO a b) (u1:s.heap.IsTupleIter i1 l1 j) (u2:s.heap.IsTupleIter i2 l2 j) (t1:s.heap.IsTuple l1 xs) (t2:s.heap.IsTuple l2 ys) (ex:xs[j]?=AA x) (ey:ys[j]?=AA y)
  (k:∀h',Ec h' z TI TO (rawInt s.heap.objs.size)->C9 h' TO x y->h'.IsTupleIter i1 l1 (j+1)->h'.IsTupleIter i2 l2 (j+1)->C9 h' s.heap.objs.size x y->h'.objs.size=s.heap.objs.size+1->Kz z TO i1 i2 s.heap h'->Q (.ref s.heap.objs.size) { s with heap:=h' }) :
  AX (model pg wd) A (HG.«zip.__next__» ⟨[.ref z],[]⟩) (λf s'=>∃v,f=.done (.ret v)/\Q v s') Er s:=by
 show AX _ _ (field (.ref z) 2 >>= _) _ _ _;refine AH (BS gz rfl (x:=.bool AC) rfl ?_);show AX _ _ (field (.ref z) 3 >>= _) _ _ _;refine AH (BS gz rfl (x:=.ref TI) rfl ?_);refine AH (Cd gI rfl ?_);show AX _ _ (Bp (.ref z) >>= _) _ _ _;refine AH ?_;unfold Bp;refine AH (BS gz rfl (x:=.none) rfl (AN ?_));erw[if_true];refine AH (Ex ?_);refine AH (BS gz rfl (x:=.ref TO) rfl ?_);refine AH (Ck gz (by simp) λha za sa=>?_)
 replace za:Ec ha z TI TO .ellipsis:=za
 refine AH ?_;erw[G1,Ge,FO,Gu];refine AH (AH (Fg ?_));show AX _ _ (B3 (.ref i1) >>= _) _ _ _;refine AH (zcv (tit_keep u1 λo e=>sa.extBut _ _ D.i1z e) (zc0 t1 λo e=>sa.extBut _ _ D.l1z e) ex λhb ub sb=>AN ?_);have ob:C9 hb TO a b:=sb.extBut _ _ D.TOi1 (sa.extBut _ _ D.TOz gO);refine AH (Cd ob rfl ?_);refine AH (F0 ob λhc oc sc=>?_)
 replace oc:C9 hc TO x b:=oc
 refine AH (wpAny_letGo (AN ?_));refine AH (AH (Fg ?_));show AX _ _ (B3 (.ref i2) >>= _) _ _ _;refine AH (zcv (tit_keep u2 λo e=>sc.extBut _ _ D.TOi2.symm (sb.extBut _ _ D.i12.symm (sa.extBut _ _ D.i2z e))) (zc0 t2 λo e=>sc.extBut _ _ D.l2TO (sb.extBut _ _ D.l2i1 (sa.extBut _ _ D.l2z e))) ey λhd ud sd=>AN ?_);have od:C9 hd TO x b:=sd.extBut _ _ D.TOi2 oc;refine AH (Cd od rfl ?_);refine AH (F0 od λhe oe se=>?_)
 replace oe:C9 he TO x y:=oe
 refine AH (wpAny_letGo (AN (AN ?_)));refine AH (Cd oe rfl ?_);refine AH (wpAny_newTuple ?_);have sz:he.objs.size=s.heap.objs.size:=by rw[se.1,sd.1,sc.1,sb.1,sa.1]
 have ze:Ec he z TI TO .ellipsis:=se.extBut _ _ D.TOz.symm (sd.extBut _ _ D.i2z.symm (sc.extBut _ _ D.TOz.symm (sb.extBut _ _ D.i1z.symm za)));have ke:Kz z TO i1 i2 s.heap he:=λc o p1 p2 p3 p4 e=>se.extBut _ _ p2 (sd.extBut _ _ p4 (sc.extBut _ _ p2 (sb.extBut _ _ p3 (sa.extBut _ _ p1 e))));have v1:he.IsTupleIter i1 l1 (j+1):=tit_keep ub λo e=>se.extBut _ _ D.TOi1.symm (sd.extBut _ _ D.i12 (sc.extBut _ _ D.TOi1.symm e));have v2:he.IsTupleIter i2 l2 (j+1):=tit_keep ud λo e=>se.extBut _ _ D.TOi2.symm e;have lz:z<he.objs.size:=AY ze;show AX _ _ (DF (.ref z) (.ref he.objs.size) >>= _) _ _ _;refine AH ?_;unfold DF;have zf:Ec (he.push { cls:=.type "tuple",data:=.seq #[x,y] }) z TI TO .ellipsis:=AM _ ze;refine AH (Ck zf (by simp) λhg zg sg=>?_)
 replace zg:Ec hg z TI TO (rawInt he.objs.size):=zg
 refine Ck zg (by simp) λhi zi si=>?_
 replace zi:Ec hi z TI TO (rawInt he.objs.size):=zi
 have up:∀c o,c≠z->he.get? c=AA o->hi.get? c=AA o:=λc o p e=>si.extBut _ _ p (sg.extBut _ _ p (AM _ e));have pn:C9 hi he.objs.size x y:=si.extBut _ _ (Ey lz) (sg.extBut _ _ (Ey lz) (A4 _ rfl));have si8:hi.objs.size=he.objs.size+1:=by rw[si.1,sg.1,CH]
 rw[sz]at zi pn si8;refine AN ⟨_,rfl,?_⟩;show Q (.ref he.objs.size) _;rw[sz];exact k hi zi (up _ _ D.TOz oe) (tit_keep v1 λo e=>up _ o D.i1z e) (tit_keep v2 λo e=>up _ o D.i2z e) pn si8 λc o p1 p2 p3 p4 e=>up c o p1 (ke c o p1 p2 p3 p4 e)
theorem zkx{z TI TO i1 i2 l1 l2:AI}{j:Nat}{xs:Array AG}{a b:AG}{Q:Fin->AJ->Prop}(hh:A.handled=AD)(D:GM z TI TO i1 i2 l1 l2)
  (gz:Ec s.heap z TI TO .none) (gI:C9 s.heap TI (.ref i1) (.ref i2)) (gO:C9 s.heap TO a b) (u1:s.heap.IsTupleIter i1 l1 j) (t1:s.heap.IsTuple l1 xs) (ex:xs[j]?=AD)
  (k:∀h' e,Kz z TO i1 i2 s.heap h'->(∃o,h'.get? e=AA o/\o.cls=.type "StopIteration")->Er (.ref e) { s with heap:=h' }) :
  AX (model pg wd) A (HG.«zip.__next__» ⟨[.ref z],[]⟩) Q Er s:=by
 show AX _ _ (field (.ref z) 2 >>= _) _ _ _;refine AH (BS gz rfl (x:=.bool AC) rfl ?_);show AX _ _ (field (.ref z) 3 >>= _) _ _ _;refine AH (BS gz rfl (x:=.ref TI) rfl ?_);refine AH (Cd gI rfl ?_);show AX _ _ (Bp (.ref z) >>= _) _ _ _;refine AH ?_;unfold Bp;refine AH (BS gz rfl (x:=.none) rfl (AN ?_));erw[if_true];refine AH (Ex ?_);refine AH (BS gz rfl (x:=.ref TO) rfl ?_);refine AH (Ck gz (by simp) λha za sa=>?_)
 replace za:Ec ha z TI TO .ellipsis:=za
 refine AH ?_;erw[G1,Ge,FO,Gu];refine AH (AH (Fg ?_));show AX _ _ (B3 (.ref i1) >>= _) _ _ _;refine AH (zfD hh (tit_keep u1 λo e=>sa.extBut _ _ D.i1z e) (zc0 t1 λo e=>sa.extBut _ _ D.l1z e) ex λhb e sb he=>?_);let⟨oe,ge,ce⟩:=he;have zb:Ec hb z TI TO .ellipsis:=sb _ _ D.i1z.symm za;have ne:e≠z:=λq=>by subst q;rw[zb]at ge;cases ge;simp at ce
 exact Ck zb (by simp) λhc _ sc=>k hc e (λc o p1 _ p3 _ q=>sc.extBut _ _ p1 (sb _ _ p3 (sa.extBut _ _ p1 q))) ⟨oe,sc.extBut _ _ ne ge,ce⟩
theorem pyNext_zipT{z TI TO i1 i2 l1 l2:AI}{j:Nat}{xs ys:Array AG}{x y a b:AG}{Q:Option AG->AJ->Prop}(D:GM z TI TO i1 i2 l1 l2)
  (gz:Ec s.heap z TI TO .none) (gI:C9 s.heap TI (.ref i1) (.ref i2)) (gO:C9 s.heap TO a b) (u1:s.heap.IsTupleIter i1 l1 j) (u2:s.heap.IsTupleIter i2 l2 j) (t1:s.heap.IsTuple l1 xs) (t2:s.heap.IsTuple l2 ys) (ex:xs[j]?=AA x) (ey:ys[j]?=AA y)
  (k:∀h',Ec h' z TI TO (rawInt s.heap.objs.size)->C9 h' TO x y->h'.IsTupleIter i1 l1 (j+1)->h'.IsTupleIter i2 l2 (j+1)->C9 h' s.heap.objs.size x y->h'.objs.size=s.heap.objs.size+1->Kz z TO i1 i2 s.heap h'->Q (AA (.ref s.heap.objs.size)) { s with heap:=h' }) :
  AX (model pg wd) A (pyNext (.ref z)) Q Er s:=by
 have ty:s.TypeIs (.ref z) "zip":=⟨_,gz,rfl⟩;unfold pyNext;exact AH (wpAny_attempt (Ba (name:=AF "__next__") ty Du (CV Du ty G2 (zib D gz gI gO u1 u2 t1 t2 ex ey λh' a1 a2 a3 a4 a5 a6 a7=>AN (k h' a1 a2 a3 a4 a5 a6 a7)) (GN _))))
theorem pyNext_zipE{z TI TO i1 i2 l1 l2:AI}{j:Nat}{xs:Array AG}{a b:AG}{Q:Option AG->AJ->Prop}(hh:A.handled=AD)(D:GM z TI TO i1 i2 l1 l2)
  (gz:Ec s.heap z TI TO .none) (gI:C9 s.heap TI (.ref i1) (.ref i2)) (gO:C9 s.heap TO a b) (u1:s.heap.IsTupleIter i1 l1 j) (t1:s.heap.IsTuple l1 xs) (ex:xs[j]?=AD)
  (k:∀h',Kz z TO i1 i2 s.heap h'->Q AD { s with heap:=h' }):AX (model pg wd) A (pyNext (.ref z)) Q Er s:=by
 have ty:s.TypeIs (.ref z) "zip":=⟨_,gz,rfl⟩;unfold pyNext;refine AH (wpAny_attempt (Ba (name:=AF "__next__") ty Du (CV Du ty G2 (zkx hh D gz gI gO u1 t1 ex λh' e kk he=>?_) (GN _))));let⟨o,ho,hc⟩:=he;exact AH (wpAny_isInstance (T:="StopIteration") (b:=AB) ⟨o,ho,hc⟩ isSubtype_stop (AN (k _ kk)))
end
noncomputable abbrev ti(l:AI):Obj:={ cls:=.type "tuple_iterator",data:=.fields #[.ref l,.int 0 0] }
abbrev zh1(h:BI)(l1:AI):Heap:=h.push (ti l1)
abbrev zh2(h:BI)(l1 l2:AI):Heap:=(zh1 h l1).push (ti l2)
abbrev zh3(h:BI)(l1 l2:AI):Heap:=(zh2 h l1 l2).push { cls:=.type "tuple",data:=.seq #[.ref h.objs.size,.ref (zh1 h l1).objs.size] }
abbrev zh4(h:BI)(l1 l2:AI):Heap:=(zh3 h l1 l2).push { cls:=.type "tuple",data:=.seq #[.none,.none] }
abbrev zh5(h:BI)(l1 l2:AI):Heap:=(zh4 h l1 l2).push { cls:=.type "zip",data:=.fields #[.none,.bool AC,.bool AC,.ref (zh2 h l1 l2).objs.size,.ref (zh3 h l1 l2).objs.size] }
theorem zgX(l1 l2:AI)(xs ys:Array AG) :
  Meets (HG.«zip.__new__» ⟨[.type "zip",.ref l1,.ref l2],[]⟩) (λ_ R s=>s.heap.IsTuple l1 xs/\s.heap.IsTuple l2 ys/\R (.ok (.ret (.ref (zh4 s.heap l1 l2).objs.size))) { s with heap:=zh5 s.heap l1 l2 }) :=
 .of_wp λprog w A R s h=>by
  let⟨hp,g,d,tk,os⟩:=s;let⟨q1,q2,h⟩:=h;have hsub:=sub_zip;have T1:GF (G8 ⟨hp,g,d,tk,os⟩) l1 xs:=q1;have T2:GF (G8 ⟨hp.push (ti l1),g,d,tk,os⟩) l2 ys:=zc0 q2 λo e=>AM _ e
  wp_walk using C3 T1,C3 T2
  exact⟨_,rfl,h⟩
theorem call_zipT{pg:A8}{wd:An}{A:Ay}{Er:AG->AJ->Prop}{s:AJ}{l1 l2:AI}{xs ys:Array AG}{Q:AG->AJ->Prop}(t1:s.heap.IsTuple l1 xs)(t2:s.heap.IsTuple l2 ys)
  (k:∀h',Ec h' (s.heap.objs.size+4) (s.heap.objs.size+2) (s.heap.objs.size+3) .none->C9 h' (s.heap.objs.size+2) (.ref s.heap.objs.size) (.ref (s.heap.objs.size+1))->C9 h' (s.heap.objs.size+3) .none .none->h'.IsTupleIter s.heap.objs.size l1 0->h'.IsTupleIter (s.heap.objs.size+1) l2 0 ->
   (∀b o,s.heap.get? b=AA o->h'.get? b=AA o)->Q (.ref (s.heap.objs.size+4)) { s with heap:=h' }):AX (model pg wd) A (call (.type "zip") [.ref l1,.ref l2]) Q Er s:=by
 refine callType_new F.called_zip (by decide) (F.typeCall_zip_2 _ _) (F.newCall_zip_2 _ _) (λobj=>F.args_object_init_3 obj _ _) F.entry_zip_new (zgX l1 l2 xs ys) ⟨t1,t2,?_⟩;have n1:(zh1 s.heap l1).objs.size=s.heap.objs.size+1:=CH ..;have n2:(zh2 s.heap l1 l2).objs.size=s.heap.objs.size+2:=by rw[CH,n1]
 have n3:(zh3 s.heap l1 l2).objs.size=s.heap.objs.size+3:=by rw[CH,n2]
 have n4:(zh4 s.heap l1 l2).objs.size=s.heap.objs.size+4:=by rw[CH,n3]
 have kp:∀{h:BI} {o:CO} {b:AI} {u:CO},h.get? b=AA u->(h.push o).get? b=AA u:=λe=>AM _ e;have m5:(zh5 s.heap l1 l2).get? (zh4 s.heap l1 l2).objs.size=AA _:=A4 _ rfl;have m4:(zh5 s.heap l1 l2).get? (zh3 s.heap l1 l2).objs.size=AA _:=kp (A4 _ rfl);have m3:(zh5 s.heap l1 l2).get? (zh2 s.heap l1 l2).objs.size=AA _:=kp (kp (A4 _ rfl));have m2:(zh5 s.heap l1 l2).get? (zh1 s.heap l1).objs.size=AA _:=kp (kp (kp (A4 _ rfl)));have m1:(zh5 s.heap l1 l2).get? s.heap.objs.size=AA _:=kp (kp (kp (kp (A4 _ rfl))));rw[n2,n3,n4]at m5;rw[n1,n2]at m3;rw[n3]at m4;rw[n1]at m2;show _/\_;rw[n4];exact⟨⟨_,m5,rfl⟩,k _ m5 m3 m4 ⟨_,m1,rfl,rfl⟩ ⟨_,m2,rfl,rfl⟩ λb o e=>kp (kp (kp (kp (kp e))))⟩
end WE
namespace L2
open PySem PySem.Spec PyProof.Rows
noncomputable def Itz(K:AE)(a b:AI):It :=
 ⟨λi H=>∃xs ys x y,SqT K H a xs/\SqT K H b ys/\xs[i]?=AA x/\ys[i]?=AA y,λi H v H'=>∃T,H T=AD/\v=.ref T/\∀xs ys x y,SqT K H a xs->SqT K H b ys->xs[i]?=AA x->ys[i]?=AA y->H'=upd H T (.tup [x,y]),λi H=>∃xs,SqT K H a xs/\xs.length=i⟩
theorem ziy{P:A8}{w:An}{K:AE}{es:List AV}{kk:Nat}{pos:C5}(z TI TO i1 i2 a b:AI)(D:GM z TI TO i1 i2 a b) :
  Turn P w K (.Tuple es kk pos) (Itz K a b) [z,TI,TO,i1,i2] z (λi h=>Ec h z TI TO .none/\C9 h TI (.ref i1) (.ref i2)/\(∃p q,C9 h TO p q)/\h.IsTupleIter i1 a i/\h.IsTupleIter i2 b i) where
 mem:=by simp
 obj:=λi h st c hc=>by
  let⟨g0,g1,⟨p,q,g2⟩,⟨o3,g3,_,d3⟩,⟨o4,g4,_,d4⟩⟩:=st;erw[AQ,A1,or_false]at hc;rcases hc with rfl|rfl|rfl|rfl|rfl
  .exact⟨_,g0,λv y=>nomatch y⟩
  .exact⟨_,g1,λv y=>nomatch y⟩
  .exact⟨_,g2,λv y=>nomatch y⟩
  .exact⟨o3,g3,λv y=>by rw[d3]at y;cases y⟩
  .exact⟨o4,g4,λv y=>by rw[d4]at y;cases y⟩
 keep:=λi h h' st k=>by
  let⟨g0,g1,⟨p,q,g2⟩,g3,g4⟩:=st;exact⟨k z (by simp) _ g0,k TI (by simp) _ g1,⟨p,q,k TO (by simp) _ g2⟩,WE.tit_keep g3 λo e=>k i1 (by simp) o e,WE.tit_keep g4 λo e=>k i2 (by simp) o e⟩
 item:=by
  intro X hP hw hK hc i pins s σ H E I hf st hg;subst hP hw hK;let⟨xs,ys,x,y,hq1,hq2,hx,hy⟩:=hg;let⟨its,rv,p1,_⟩:=I.tuple hq1;let⟨jts,rw',p2,_⟩:=I.tuple hq2;let⟨g0,g1,⟨p,q,g2⟩,g3,g4⟩:=st;let⟨u,hu,ru⟩:=rv.get hx;let⟨v,hv,rv2⟩:=rw'.get hy;refine WE.pyNext_zipT D g0 g1 g2 g3 g4 p1 p2 (by simpa using hu) (by simpa using hv) λh1 a1 a2 a3 a4 a5 a6 a7=>⟨_,rfl,?_⟩;refine wpAny_letOwnedTupleGo_zip a1 λh2 b1 b2=>?_;have lt:∀{c o},s.heap.get? c=AA o->s.heap.objs.size≠c:=λe=>Ey (AY e);have hTz:s.heap.objs.size≠z:=lt g0;have hch:∀c o,c∉[z,TI,TO,i1,i2]->s.heap.get? c=AA o->h2.get? c=AA o:=λc o hn e=>b2.extBut _ _ (λz'=>hn (by simp[z'])) (a7 c o (λz'=>hn (by simp[z'])) (λz'=>hn (by simp[z'])) (λz'=>hn (by simp[z'])) (λz'=>hn (by simp[z'])) e);have new:yad X.prog X.w (upd H s.heap.objs.size (.tup [x,y])) h2 s.heap.objs.size (.tup [x,y]):=⟨by show 2<=sizeLine;decide,[u,v],.cons ru (.cons rv2 .nil),_,b2.extBut _ _ hTz a5,rfl,_,rfl⟩;have I2:=I.turnLaid (t':=s.toks) hf hch (AS _) new;have gI:C9 h1 TI (.ref i1) (.ref i2):=a7 _ _ D.TIz D.TITO D.TIi1 D.TIi2 g1;refine⟨.ref s.heap.objs.size,_,I2,rfl,⟨s.heap.objs.size,I.hok.fresh (AS _),rfl,λxs' ys' x' y' hx1 hy1 hx2 hy2=>?_⟩,⟨b1,b2.extBut _ _ D.TIz gI,⟨_,_,b2.extBut _ _ D.TOz a2⟩,WE.tit_keep a3 λo e=>b2.extBut _ _ D.i1z e,WE.tit_keep a4 λo e=>b2.extBut _ _ D.i2z e⟩,λc hc=>?_⟩
  .rw[I.tuple_inj hx1 hq1,hx]at hx2;rw[I.tuple_inj hy1 hq2,hy]at hy2
   cases hx2
   cases hy2
   rfl
  .have hne:c≠s.heap.objs.size:=λz'=>by
    subst z';let⟨o3,e3,_⟩:=g3;let⟨o4,e4,_⟩:=g4;erw[AQ,A1,or_false]at hc;rcases hc with z' | z' | z' | z' | z'
    .exact lt g0 z'
    .exact lt g1 z'
    .exact lt g2 z'
    .exact lt e3 z'
    .exact lt e4 z'
   rw[zk hne];exact(hf c hc).1
 done:=by
  intro X hP hw hK hc i pins s σ H E I hf st hg;subst hP hw hK;let⟨xs,hq1,hx⟩:=hg;let⟨its,rv,p1,_⟩:=I.tuple hq1;let⟨g0,g1,⟨p,q,g2⟩,g3,g4⟩:=st;have hl:=rv.length;refine WE.pyNext_zipE (I.ok.hd hc) D g0 g1 g2 g3 p1 (by simp;lia) λh' kz=>⟨rfl,I.turnedL (t':=s.toks) hf λc o hn e=>kz c o (λz'=>hn (by simp[z'])) (λz'=>hn (by simp[z'])) (λz'=>hn (by simp[z'])) (λz'=>hn (by simp[z'])) e⟩
 self:=λ_ _ _ _ _ st q=>G3 st.1 q
def yf0(K:AE)(ta:TA):TI:=λσ H R=>ta σ H λvs H1=>∃a b,vs=[.ref a,.ref b]/\(∃xs,SqT K H1 a xs)/\(∃ys,SqT K H1 b ys)/\R (Itz K a b) H1
theorem zmX{X:Cx}{a b:AV}{es:List AV}{kk:Nat}{tp:C5}{ta:TA}{p pos:C5}(hg:Gl X "zip")(hm:X.mg "zip"=AD)(ha:PA X [a,b] ta)(hs:starEach [a,b] X.env=[(AC,eval a X.env),(AC,eval b X.env)]:=by rfl)(hs2:starEach [b] X.env=[(AC,eval b X.env)]:=by rfl) :
  PI X (.Tuple es kk tp) (.Call (.Name "zip" p) [a,b] [] pos) (yf0 X.K ta):=by
 intro pins s σ H R I h;refine Bb (zeb I hg hm boot_zip ?_);refine CQ (thn (ha pos pins s σ H _ I h) λus s1 kq=>?_) (by rw[hs,hs2]) (by rw[hs2];rfl);let⟨vs,H1,I1,r1,q1⟩:=kq;let⟨l1,l2,rfl,⟨xs,hq1⟩,⟨ys,hq2⟩,q⟩:=q1
 cases r1 with
 |cons r rr =>
  cases rr with
  |cons r2 r3 =>
   cases r3
   cases (show _=Am l1 from r)
   cases (show _=Am l2 from r2)
   let⟨its,rv,pt1,_⟩:=I1.tuple hq1;let⟨jts,rv2,pt2,_⟩:=I1.tuple hq2;have b1:l1<s1.heap.objs.size:=by let⟨_,e,_⟩:=pt1;exact AY e
   have b2:l2<s1.heap.objs.size:=by let⟨_,e,_⟩:=pt2;exact AY e
   refine WE.call_zipT pt1 pt2 λh1 g0 g1 g2 g3 g4 kp=>?_;refine G3 g0 ?_;refine⟨_,[s1.heap.objs.size+4,s1.heap.objs.size+2,s1.heap.objs.size+3,s1.heap.objs.size,s1.heap.objs.size+1],_,_,H1,rfl,I1.kept (t':=s1.toks) kp,ziy _ _ _ _ _ l1 l2 (zipApart_new b1 b2),⟨g0,g1,⟨_,_,g2⟩,g3,g4⟩,λc hc=>?_,q⟩;have hb2:s1.heap.objs.size<=c:=by
    erw[AQ,A1,or_false]at hc;rcases hc with z' | z' | z' | z' | z'<;>subst z'
    .exact D5 _ 4
    .exact D5 _ 2
    .exact D5 _ 3
    .exact AS _
    .exact D5 _ 1
   exact I1.fpOk hb2 (I1.hok.fresh hb2)
end L2
namespace L2
open PySem PySem.Spec PyProof.Rows IC
inductive ycw(K:AE)(cl:Nat->AI)(w:An):List (AR×PV)->List CW->Prop
 | nil:ycw K cl w [] []
 | cons {k:AR} {v:PV} {t:Ha} {u:AG} {x:V} {D:List (AR×PV)} {es:List CW} (hr:RelV x u) (hv:∀B φ H,yd K cl B φ H v x) (h:ycw K cl w D es):ycw K cl w ((k,v)::D) (⟨ET w.params k,.str k t,u⟩ :: es)
def GD(K:AE)(w:An)(mg:AR->Option AG)(cl:Nat->AI)(x:AR)(D:List (AR×PV)):Prop :=
 ∃(y:AI) (es:Array CW) (ep:Nat),mg x=AA (.ref y)/\K.lookup y=AA ⟨.type "dict",AD,.dict es ep,#[]⟩/\(y == sysModules)=AC/\ycw K cl w D es.toList/\(D.map (·.1)).Nodup
theorem ycw.pairs{K:AE}{cl:Nat->AI}{P:A8}{w:An}{D:List (AR×PV)}{es:List CW}(h:ycw K cl w D es) :
  ∃vs:List (AR×AG),Pairs (strKind P w) es vs/\(∀e∈es,∃k,(strKind P w).is k e.key=AB/\e.hash=(strKind P w).hash k)/\vs.map (·.1)=D.map (·.1) /\
   (∀s,(valueAt vs s).isSome=(ya2 s D).isSome)/\∀s v,ya2 s D=AA v->∃u x,valueAt vs s=AA u/\RelV x u/\∀B φ H,yd K cl B φ H v x:=by
 induction h with
 |nil=>exact⟨[],.nil,λe he=>(by cases he),rfl,λs=>rfl,λs v e=>by cases e⟩
 | @cons k v t u x D es hr hv h ih =>
  let⟨vs,h1,h2,h3,h4,h5⟩:=ih;have hat:∀s,valueAt ((k,u)::vs) s=if k=s then AA u else valueAt vs s:=λs=>by
   unfold valueAt;rw[CM]
   by_cases e:k=s
   .simp[e]
   .simp[e]
  refine⟨(k,u)::vs,.cons (D6 P w k t) rfl h1,λe he=>?_,by rw[AL,AL,h3],λs=>?_,λs v' e=>?_⟩
  .rcases AQ.1 he with rfl|he
   .exact⟨k,D6 P w k t,rfl⟩
   .exact h2 e he
  .rw[hat,ya2]
   by_cases e:k=s
   .rw[if_pos e,if_pos (by simpa using e)];rfl
   .rw[if_neg e,if_neg (by simpa using e),h4]
  .rw[ya2]at e;rw[hat]
   by_cases q:k=s
   .rw[if_pos (by simpa using q)]at e
    cases e
    exact⟨u,x,by rw[if_pos q],hr,hv⟩
   .rw[if_neg (by simpa using q)]at e;let⟨u',x',e1,e2,e3⟩:=h5 s v' e;exact⟨u',x',by rw[if_neg q];exact e1,e2,e3⟩
section
variable {S:Se}{X:Cx}{σ:St}{B:AI->Prop}{φ:Ph}{H:Hp}{st:SO}{pos p:C5}{a b i:AV}{ca cb:Ce}{x:AR}{D:List (AR×PV)}{ty:TE}
theorem zi7{y:AI}{es:Array CW}{ep:Nat}{pins:List (AI×CO)}{s:AJ}(I:Inv X pins σ H s)(hk:X.K.lookup y=AA ⟨.type "dict",AD,.dict es ep,#[]⟩)(hn:(D.map (·.1)).Nodup){vs:List (AR×AG)}(h1:Pairs (strKind X.prog X.w) es.toList vs)
  (h2:∀e∈es.toList,∃k,(strKind X.prog X.w).is k e.key=AB/\e.hash=(strKind X.prog X.w).hash k) (h3:vs.map (·.1)=D.map (·.1)):s.heap.DictOf (strKind X.prog X.w) y vs :=
 ⟨_,es,ep,I.kIn y _ hk,⟨rfl,rfl,rfl⟩,rfl,λe he=>h2 e (by simpa using he),h1,by rw[h3];exact hn⟩
def yey(S:Se)(X:Cx)(D:List (AR×PV))(ty:TE):TE:=λσ H Q=>ty σ H λz H2=>∃s v,z=.str s/\ya2 s D=AA v/\∀x',(∀B φ H,yd X.K S.cl B φ H v x')->Q x' H2
theorem zml(hg:Gl X x)(h:GD X.K X.w X.mg S.cl x D)(hi:PE X i ty)(hs:ydb i)(hd:(x == ("__debug__":AR))=false:=by decide):PE X (.Subscript (.Name x p) i pos) (yey S X D ty):=by
 let⟨y,es,ep,hm,hk,hsy,hr,hn⟩:=h;let⟨vs,h1,h2,h3,h4,h5⟩:=hr.pairs (P:=X.prog);intro pins s σ H Q I q0;refine ziB E6.lookup hs (thn (zdK (v:=.ref y) hg hm rfl hd pins s σ H (λz H1=>z=.ref y/\ty σ H1 λz H2=>∃s v,z=.str s/\ya2 s D=AA v/\∀x',(∀B φ H,yd X.K S.cl B φ H v x')->Q x' H2) I ⟨rfl,q0⟩) λu s1 kq=>?_);let⟨z,H1,I1,rz,ez,q1⟩:=kq;refine thn (hi pins s1 σ H1 _ I1 q1) λiv s2 kq=>?_;let⟨z2,H2,I2,rz2,sx,v,ez2,e,q2⟩:=kq;subst ez;subst ez2;obtain rfl:u=Am y:=rz;let⟨t,rfl⟩:=rz2;have dd:=zi7 I2 hk hn h1 h2 h3;let⟨u',x',e1,e2,e3⟩:=h5 sx v e;exact⟨dd.typeIs,G4 (D6 X.prog X.w sx t) dd.mapOf e1 ⟨x',H2,I2.tok _,e2,q2 x' e3⟩⟩
theorem zo1(hg:Gl X x)(h:GD X.K X.w X.mg S.cl x D)(hb:PE X b (tE S X cb))(hs:ydb b:=by exact λ_ _=>rfl)(hd:(x == ("__debug__":AR))=false:=by decide):PE X (.Subscript (.Name x p) b pos) (tE S X (.dix D cb)) :=
 (zml hg h hb hs hd).imp λσ H Q ⟨B,φ,st,ρ,rs,re,h⟩=>by
  erw[ev]at h;refine tE.bind rs re h λz H1 v st1 φ1 s1 rs1 re1 rv h1=>?_;let⟨w,e,q⟩:=zaq h1 rs1
  cases v with
  |str sx =>
   erw[yd]at rv;exact⟨sx,w,rv,e,λx' hx=>q x' H1 φ1 .rfl rs1 (hx _ _ _)⟩
  |_=>cases e
def ygG(y:AI)(D:List (AR×PV)):R2:=λx z H Q=>z=.ref y/\∃s,x=.str s/\Q (.bl (ya2 s D).isSome) H
theorem zoj(hg:Gl X x)(h:GD X.K X.w X.mg S.cl x D)(ha:PE X a (tE S X ca))(hm:behindInMarks .In (.Name x p)=false:=by ac_rfl)(hd:(x == ("__debug__":AR))=false:=by decide):PE X (.Compare a [.In] [.Name x p] pos) (tE S X (.din ca D)):=by
 let⟨y,es,ep,hmg,hk,hsy,hr,hn⟩:=h;let⟨vs,h1,h2,h3,h4,h5⟩:=hr.pairs (P:=X.prog);have op:OpR X (compareOp .In) (ygG y D):=by
  intro pins s σ H z1 z2 v u Q I r1 r2 ⟨ez,sx,ex,q⟩;subst ez;subst ex;obtain rfl:u=Am y:=r2;let⟨t,rfl⟩:=r1;have dd:=zi7 I hk hn h1 h2 h3;refine wpAny_in_of (D6 X.prog X.w sx t) hsy dd.mapOf ⟨.bl (ya2 sx D).isSome,H,I.tok _,?_,q⟩;rw[h4];rfl
 refine(zir op ha (zdK (v:=.ref y) hg hmg rfl hd) hm).imp λσ H Q kq=>?_;let⟨B,φ,st,ρ,rs,re,h⟩:=kq;erw[ev]at h;refine tE.bind rs re h λz H1 v st1 φ1 s1 rs1 re1 rv h1=>?_;let⟨w,e,q⟩:=zaq h1 rs1
 cases v with
 |str sx =>
  erw[yd]at rv
  cases e
  exact⟨rfl,sx,rv,q _ H1 φ1 .rfl rs1 (by erw[yd])⟩
 |_=>cases e
theorem zeV:∀(xs ys:List PV) (i:Nat) {x y:PV},xs[i]?=AA x->ys[i]?=AA y->(yaY xs ys)[i]?=AA (.tup [x,y])
 | [],_,i,_,_,h,_=>by simp at h
 |_::_,[],i,_,_,_,h=>by simp at h
 |x::xs,y::ys,0,_,_,h1,h2=>by simp at h1 h2;simp[yaY,h1,h2]
 |x::xs,y::ys,i+1,_,_,h1,h2=>by
  erw[Ap]at h1 h2;erw[yaY,Ap];exact zeV xs ys i h1 h2
theorem zfd:∀(xs ys:List PV),xs.length<=ys.length->(yaY xs ys).length=xs.length
 | [],_,_=>by simp[yaY]
 |_::_,[],h=>by simp at h
 |x::xs,y::ys,h=>by erw[yaY,AZ,zfd xs ys (by simpa using h)]
theorem zl7{k j:Bool}{vs ws:List PV}{xs ys:List V}{y z:AI}(rt:yb2 X.K B φ H k y xs)(l:yg X.K S.cl B φ H vs xs)(rt2:yb2 X.K B φ H j z ys)(l2:yg X.K S.cl B φ H ws ys)(hle:vs.length<=ws.length):Drw S X B φ H (yaY vs ws) (Itz X.K y z):=by
 have hl:=l.length;have hl2:=l2.length;have hp:=zfd vs ws hle;refine⟨λφ' H' s=>⟨xs,(rt.step s).sq,by lia⟩,λi φ' H' s hi=>⟨xs,ys,xs[i]'(by lia),ys[i]'(by lia),(rt.step s).sq,(rt2.step s).sq,by simp[show i<xs.length by lia],by simp[show i<ys.length by lia]⟩,λi φ' H' st x H2 B' hB s rs hi q=>?_⟩;let⟨T,hT,rfl,q⟩:=q;obtain⟨v,hv⟩:∃v,vs[i]?=AA v:=⟨vs[i]'(by lia),by simp[show i<vs.length by lia]⟩;obtain⟨w,hw⟩:∃w,ws[i]?=AA w:=⟨ws[i]'(by lia),by simp[show i<ws.length by lia]⟩;let⟨x',hx',rv⟩:=l.get i hv;let⟨y',hy',rw'⟩:=l2.get i hw;have e:=q xs ys x' y' (rt.step s).sq (rt2.step s).sq hx' hy';subst e;refine⟨.tup [v,w],zeV vs ws i hv hw,.tup_new hT rs ?_,λb o e=>by rw[zk (zn e hT)];exact e⟩;erw[yg];exact⟨x',[y'],rfl,(rv.moreB hB).step s,y',[],rfl,(rw'.moreB hB).step s,rfl⟩
theorem zog{es:List AV}{kk:Nat}{tp:C5}(hg:Gl X "zip")(hm:X.mg "zip"=AD)(ha:PE X a (tE S X ca))(hb:PE X b (tE S X cb))(hs:starEach [a,b] X.env=[(AC,eval a X.env),(AC,eval b X.env)]:=by rfl)(hs2:starEach [b] X.env=[(AC,eval b X.env)]:=by rfl) :
  PI X (.Tuple es kk tp) (.Call (.Name "zip" p) [a,b] [] pos) (tI S X (.zip ca cb)) :=
 (zmX hg hm (zbL ha (zbL hb ybu hs2) (by rw[hs,hs2])) hs hs2).imp λσ H R ⟨B,φ,st,ρ,rs,re,h⟩=>by
  erw[evi]at h;refine tE.bind rs re h λx H1 v st1 φ1 s1 rs1 re1 rv h1=>tE.bind rs1 re1 h1 λy H2 w st2 φ2 s2 rs2 re2 rw h2=>?_;let⟨zs,e,h2⟩:=zhY h2
  cases v with
  |tp k vs =>
   cases w with
   |tp j ws =>
    erw[ydQ]at e
    by_cases hle:vs.length<=ws.length
    .rw[if_pos hle]at e
     cases e
     erw[yd]at rv rw;let⟨a1,xs,rfl,rt,l⟩:=rv;let⟨a2,ys,rfl,rt2,l2⟩:=rw;exact⟨a1,a2,rfl,⟨xs,(rt.step s2).sq⟩,⟨ys,rt2.sq⟩,h2.ok rs2 (zl7 (rt.step s2) (l.step s2) rt2 l2 hle)⟩
    .rw[if_neg hle]at e
     cases e
   |_=>cases e
  |_=>cases e
end
section
variable {K:AE}{cl:Nat->AI}{B:AI->Prop}{φ:Ph}{H:Hp}{st:SO}
end
section
variable {S:Se}{X:Cx}{K:AE}{cl:Nat->AI}{σ:St}{B:AI->Prop}{φ φ1:Ph}{H H1:Hp}{st:SO}{ρ:IC.Env}{pos p p2 px:C5}{a b c o tg l elt iter:AV}{ca cb cc ce:Ce}{ci:Cit}{ct:Tg}
end
section
variable {K:AE}{cl:Nat->AI}{B:AI->Prop}{φ:Ph}{H:Hp}{st:SO}
theorem FS.lookup{f:AR}:∀{fs:List (AR×PV)} {ks:List (AR×V)},FS K cl B φ H fs ks->(∀v,fs.lookup f=AA v->∃x,ks.lookup f=AA x/\yd K cl B φ H v x)/\(fs.lookup f=AD->ks.lookup f=AD)
 | [],ks,h=>by
  cases (show ks=[]from h)
  exact⟨nofun,λ_=>rfl⟩
 | (k,v)::r,ks,h=>by
  let⟨x,s,rfl,rv,l⟩:=h;let⟨q1,q2⟩:=FS.lookup (f:=f) l;erw[CG]
  cases e:f == k with
  |true=>exact⟨λw z=>by cases z;exact⟨x,rfl,rv⟩,λz=>by cases z⟩
  |false=>exact⟨q1,q2⟩
theorem FS.put{f:AR}{v:PV}{x:V}(r:yd K cl B φ H v x):∀{fs:List (AR×PV)} {ks:List (AR×V)},FS K cl B φ H fs ks->FS K cl B φ H (ybY f v fs) (ybb f x ks)
 | [],ks,h=>by
  cases (show ks=[]from h)
  exact⟨x,[],rfl,r,rfl⟩
 | (k,w)::q,ks,h=>by
  let⟨y,s,rfl,ry,l⟩:=h;erw[ybY,ybb]
  by_cases c:k=f
  .rw[if_pos c,if_pos c];exact⟨x,s,rfl,r,l⟩
  .rw[if_neg c,if_neg c];exact⟨y,_,rfl,ry,FS.put r l⟩
theorem FS.len:∀{fs:List (AR×PV)} {ks:List (AR×V)},FS K cl B φ H fs ks->fs.length=ks.length
 | [],ks,h=>by cases (show ks=[]from h);rfl
 | (k,w)::q,ks,h=>by
  let⟨y,s,rfl,ry,l⟩:=h;simp[FS.len l]
theorem yD.ins{n c:Nat}{fs:List (AR×PV)}{x:V}(rs:yD K cl B φ H st)(r:yd K cl B φ H (.loc n) x)(h:st[n]?=AA (.ins c fs)):∃y ks dx,x=.ref y/\φ[n]?=AA (AA y)/\H y=AA (.ins (cl c) dx ks)/\FS K cl B φ H fs ks:=by
 erw[yd]at r;let⟨hn,y,rfl,hy⟩:=r;let⟨a,ha⟩:=rs.liv n _ h (by intro z;cases z);let⟨o,ho,ro⟩:=rs.obj n a ha;have e:=hy a ha;subst e;rw[h]at ho
 cases ho
 let⟨ks,⟨dx,q⟩,l⟩:=ro;exact⟨a,ks,dx,rfl,ha,q,l⟩
end
section
variable {S:Se}{X:Cx}{σ:St}{B:AI->Prop}{φ φ1:Ph}{H H1:Hp}{st:SO}{ρ:IC.Env}{p pos pos' p2 apos:C5}{a b d o e:AV}{ca cb cc:Ce}{es:List AV}{ces:Ces}{c i k:Nat}{f m x:AR}{fa:AI}{fd:BK}{ps:List AR}
theorem zgn{st:SO}{x v:PV}(h:yba c st x f=AA v):∃n fs,x=.loc n/\st[n]?=AA (.ins c fs)/\fs.lookup f=AA v:=by
 cases x with
 |loc n =>
  erw[yba]at h;split at h
  .rename_i dd fs e;split at h
   .rename_i q;subst q;exact⟨n,fs,rfl,e,h⟩
   .cases h
  .cases h
 |_=>cases h
theorem zgA{st st4:SO}{x v:PV}(h:ybc c st x f v=AA st4):∃n fs,x=.loc n/\st[n]?=AA (.ins c fs)/\fs.length<1000/\st4=st.set n (.ins c (ybY f v fs)):=by
 cases x with
 |loc n =>
  erw[ybc]at h;split at h
  .rename_i dd fs e;split at h
   .rename_i q;let⟨q,q2⟩:=q;subst q
    cases h
    exact⟨n,fs,rfl,e,q2,rfl⟩
   .cases h
  .cases h
 |_=>cases h
theorem zju{st:SO}{x:PV}{t:Bool}(h:ycb c m st x=AA t):∃n fs,x=.loc n/\st[n]?=AA (.ins c fs)/\fs.lookup m=none:=by
 cases x with
 |loc n =>
  erw[ycb]at h;split at h
  .rename_i dd fs e;split at h
   .rename_i q;let⟨q,q2⟩:=q;subst q;exact⟨n,fs,rfl,e,q2⟩
   .cases h
  .cases h
 |_=>cases h
theorem znc(hc:Cls X.K (S.cl c))(hn:yax X.K (S.cl c) f)(ha:PE X a (tE S X ca))(hb:attributeBase a f X.env (eval a X.env)=eval a X.env:=by rfl):PE X (.Attribute a f pos) (tE S X (.fld c ca f)) :=
 (znP ha hb).imp λσ H Q ⟨B,φ,st,ρ,rs,re,h⟩=>by
  erw[ev]at h;refine tE.bind rs re h λx H1 v st1 φ1 s1 rs1 re1 rv h1=>?_;let⟨z,e,q⟩:=zaq h1 rs1;let⟨n,fs,rfl,hn',l⟩:=zgn e;let⟨y,ks,dx,rfl,_,hy,lr⟩:=rs1.ins rv hn';let⟨x,hx,rx⟩:=lr.lookup.1 z l;exact⟨y,S.cl c,dx,ks,x,rfl,hy,hc,hn,hx,q x H1 φ1 .rfl rs1 rx⟩
theorem znv(hc:Cls X.K (S.cl c))(hn:yax X.K (S.cl c) f)(ha:PE X a (tE S X ca))(hv:PE X b (tE S X cb))(hs:swapsWith b (AA (.Attribute a f pos')) pos.line X.env=pure false:=by rfl):PS X (.Assign [.Attribute a f pos'] b pos) (tS S X (.sfl c ca f cb)) :=
 (zo9 ha hv hs).imp λD σ H ⟨B,φ,st,ρ,rs,re,h⟩=>by
  erw[ex]at h;refine tE.fl rs re h λv' H1 v st1 φ1 s1 rs1 re1 rv h1=>tE.fl rs1 re1 h1 λx' H2 x st2 φ2 s2 rs2 re2 rx h2=>?_
  cases e:ybc c st2 x f v with
  |none=>rw[e]at h2;exact h2.elim
  |some st4 =>
   rw[e]at h2;let⟨n,fs,rfl,hn',hl,rfl⟩:=zgA e;let⟨y,ks,dx,rfl,hp,hy,lr⟩:=rs2.ins rx hn';refine⟨y,S.cl c,dx,ks,rfl,hy,hc,hn,by rw[<- lr.len];exact hl,?_⟩;have s4:Step φ2 H2 φ2 (L2.upd H2 y (.ins (S.cl c) dx (ybb f v' ks))):=.put (A0 hp);exact h2 σ _ φ2 s4 (rs2.put (o:=.ins c (ybY f v fs)) hp ⟨_,⟨dx,zu⟩,(FS.put (rv.step s2) lr).step s4⟩) (re2.step s4)
theorem noX:ybO (CX1 X.prog X.w) X (λ_ _ _=>False):=λpins σ H s e s' _ z=>by
 let⟨_,_,_,_,_,_,_,_,_,_,_,_,_,_,z⟩:=z;exact z.elim
theorem ziG{vs:List PV}{xs:List V}{Q:VK}{rs:yD X.K S.cl B φ H st}(l:yg X.K S.cl B φ H vs xs)(h:Run S X σ B φ H (RV S X B) ((ybJ (S.call i (.loc st.length::vs) (st++[.ins c []]))).bind λv st2=>newV st.length v st2) Q) :
  ∀x dx,H x=AD->H dx=AD->dx≠x->spI X.K S.cl S.call i (.ref x::xs) (L2.upd (L2.upd H dx (.own x)) x (.ins (S.cl c) dx [])) (λv H2=>v=.non/\Q (.ref x) H2) (λ_ _ _=>False):=by
 intro x dx hx hdx ne;have hx':L2.upd H dx (.own x) x=none:=by rw[zk (BM ne)];exact hx
 have t1:Step φ H φ (L2.upd H dx (.own x)):=.upd hdx;have rs1:=rs.upd (o:=.own x) hdx;have t2:Step φ (L2.upd H dx (.own x)) (φ++[AA x]) (L2.upd (L2.upd H dx (.own x)) x (.ins (S.cl c) dx [])):=.push hx';have rs2:=rs1.push hx' (rs1.nB hx') (o:=.ins c []) ⟨[],⟨dx,zu⟩,rfl⟩;have ll:yd X.K S.cl B (φ++[AA x]) (L2.upd (L2.upd H dx (.own x)) x (.ins (S.cl c) dx [])) (.loc st.length) (.ref x):=.loc_new rs1;refine⟨B,φ++[AA x],st++[.ins c []],.loc st.length::vs,rs2,?_,?_⟩
 .simp only[yg];exact⟨.ref x,xs,rfl,ll,(l.step t1).step t2⟩
 .cases e:S.call i (.loc st.length::vs) (st++[.ins c []])with
  |ok v st' =>
   rw[e]at h;erw[ybJ,R.bind]at h
   cases v with
   |non =>
    intro z H' φ' s rs' rz;erw[yd]at rz;exact⟨rz,h (.ref x) H' φ' ((t1.trans t2).trans s) rs' (ll.step s)⟩
   |_=>exact h.elim
  |exc k s=>rw[e]at h;exact h.elim
  |bad=>rw[e]at h;exact h.elim
theorem zoE(M:Mk X.K (S.cl c) fa)(F:yaQ X.prog X.w X.K X.mg X.base (CX1 X.prog X.w) k fa fd ps (spI X.K S.cl S.call i))(hr:yay (k+1) X.A)(hg:Gl X x)(hm:X.mg x=AA (.ref (S.cl c)))(hb:Binds X.K fd ps [])
  (ha:PA X (e::es) (tAs S X ces)) (hdb:(x == ("__debug__":AR))=false:=by decide) (he:starEach (e::es) X.env=(AC,eval e X.env)::starEach es X.env:=by rfl) (hpl:(backTo pos (starEach es X.env)).any (·.1)=false:=by rfl) :
  PE X (.Call (.Name x p) (e::es) [] pos) (tE S X (.new c i ces)) :=
 (zma M F hr hg hm hb .nil noX ha hdb he hpl).imp λσ H Q ⟨B,φ,st,ρ,rs,re,h⟩=>by
  erw[ev]at h;refine tAs.bind rs re h λxs H1 vs st1 φ1 s1 rs1 re1 rv h1=>?_;rw[A2];exact ziG (rs:=rs1) rv h1
noncomputable def ycc(CX:CXT)(X:Cx)(C:AI)(m:AR)(sp:Sp)(ta:TE)(t:TA):TE:=λσ H Q=>ta σ H λx H1=>∃y dx fs,x=.ref y/\H1 y=AA (.ins C dx fs)/\fs.lookup m=AD/\t σ H1 λvs H2=>∃E:XK,sp (.ref y::vs) H2 Q E/\∀pins s e s',Inv X pins σ H2 s->CX X.stack H2 s E e s'->X.xe e s'
theorem zkz{CX:CXT}{sp:Sp}{C:AI}{ta:TE}{t:TA}{pl:Gw Bool}(he:PE X o ta)(c:Cls X.K C)(hm:Meth X.K C m fa)(F:yaQ X.prog X.w X.K X.mg X.base CX k fa fd ps sp)(hr:yay k X.A)(hb:Binds X.K fd ps [])(ha:PA X (e::es) t)
  (hst:starEach (e::es) X.env=(AC,eval e X.env)::starEach es X.env:=by rfl) (hpl:(backTo pos (starEach es X.env)).any (·.1)=false:=by rfl)
  (ht:eval (.Call (.Attribute o m apos) (e::es) [] pos) X.env=(do
   let ov <- eval o X.env
   standAt apos.atName
   let (f,first) <- holding [ov] (getMethod ov m pl)
   callWith pos f first (backTo pos (starEach (e::es) X.env)) (backToKw pos (keywordEach [] X.env))):=by rfl) :
  PE X (.Call (.Attribute o m apos) (e::es) [] pos) (ycc CX X C m sp ta t):=by
 intro pins s σ H Q I h;refine FU (pl:=pl) (thn (he pins s σ H _ I h) λu s1 kq=>?_) ht;let⟨x,H1,I1,rx,y,dx,fs,ex,ea,l,q⟩:=kq;subst ex;obtain rfl:u=Am y:=rx;refine zed I1 ea c hm l ?_;refine DN (first:=[.ref y]) (h₀:=X.base) I.ok.mod.kin hm.kp (thn (ha pos pins s1 σ H1 _ I1 q) λus s2 kq=>?_) hst hpl;let⟨vs,H2,I2,r,E,q2,hx⟩:=kq;refine ⟨I2.kIn,?_⟩;exact zdJ (us:=.ref y::us) (vs:=.ref y::vs) F hr hb .nil I2 (.cons rfl r) (by rw[A2];exact q2) λe s' z=>hx pins s2 e s' I2 z
theorem ziT{CX:CXT}{sp:Sp}{C:AI}{ta:TE}{pl:Gw Bool}(he:PE X o ta)(c:Cls X.K C)(hm:Meth X.K C m fa)(F:yaQ X.prog X.w X.K X.mg X.base CX k fa fd ps sp)(hr:yay k X.A)(hb:Binds X.K fd ps [])
  (ht:eval (.Call (.Attribute o m apos) [] [] pos) X.env=(do
   let ov <- eval o X.env
   standAt apos.atName
   let (f,first) <- holding [ov] (getMethod ov m pl)
   callWith pos f first (backTo pos (starEach [] X.env)) (backToKw pos (keywordEach [] X.env))):=by rfl) :
  PE X (.Call (.Attribute o m apos) [] [] pos) (ycc CX X C m sp ta ydK):=by
 intro pins s σ H Q I h;refine FU (pl:=pl) (thn (he pins s σ H _ I h) λu s1 kq=>?_) ht;let⟨x,H1,I1,rx,y,dx,fs,ex,ea,l,E,q2,hx⟩:=kq;subst ex;obtain rfl:u=Am y:=rx;refine zed I1 ea c hm l ?_;exact F9 (first:=[.ref y]) I1.kIn hm.kp (zdJ (us:=[.ref y]) (vs:=[.ref y]) F hr hb .nil I1 (.cons rfl .nil) q2 λe s' z=>hx pins s1 e s' I1 z)
theorem zfB{Q:VK}{t:TA}(hq:∀{H1:Hp} {φ1:Ph} {st1:SO} {P:List V->Hp->Prop} {kk:List PV->SO->R PV},yD X.K S.cl B φ1 H1 st1->yQ X.K S.cl B φ1 H1 ρ σ->Run S X σ B φ1 H1 (RV S X B) ((evs S.call ρ st1 ces).bind kk) Q ->
   (∀xs H2 vs st2 φ2,Step φ1 H1 φ2 H2->yD X.K S.cl B φ2 H2 st2->yQ X.K S.cl B φ2 H2 ρ σ->yg X.K S.cl B φ2 H2 vs xs->Run S X σ B φ2 H2 (RV S X B) (kk vs st2) Q->P xs H2)->t σ H1 P)
  (rs:yD X.K S.cl B φ H st) (re:yQ X.K S.cl B φ H ρ σ) (h:Run S X σ B φ H (RV S X B) ((ev S.call ρ st ca).bind λx st1=>onO (ycb c m st1 x) λ_=>(evs S.call ρ st1 ces).bind λvs st2=>S.call i (x::vs) st2) Q) :
  ycc (CX1 X.prog X.w) X (S.cl c) m (spI X.K S.cl S.call i) (tE S X ca) t σ H Q:=by
 refine tE.bind rs re h λx H1 v st1 φ1 s1 rs1 re1 rv h1=>?_
 cases q:ycb c m st1 v with
 |none=>rw[q]at h1;exact h1.elim
 |some b =>
  rw[q]at h1;erw[onO]at h1;let⟨n,fs,rfl,hn,hl⟩:=zju q;let⟨y,ks,dx,rfl,_,hy,lr⟩:=rs1.ins rv hn;refine⟨y,dx,ks,rfl,hy,lr.lookup.2 hl,hq rs1 re1 h1 λxs H2 vs st2 φ2 s2 rs2 re2 rl h2=>?_⟩;exact za7 rs2 (by erw[yg];exact⟨.ref y,xs,rfl,rv.step s2,rl⟩) h2
theorem zo4{pl:Gw Bool}(hc:Cls X.K (S.cl c))(hm:Meth X.K (S.cl c) m fa)(F:yaQ X.prog X.w X.K X.mg X.base (CX1 X.prog X.w) k fa fd ps (spI X.K S.cl S.call i))(hr:yay k X.A)(hb:Binds X.K fd ps [])
  (ho:PE X o (tE S X ca)) (ha:PA X (e::es) (tAs S X ces))
  (hst:starEach (e::es) X.env=(AC,eval e X.env)::starEach es X.env:=by rfl) (hpl:(backTo pos (starEach es X.env)).any (·.1)=false:=by rfl)
  (ht:eval (.Call (.Attribute o m apos) (e::es) [] pos) X.env=(do
   let ov <- eval o X.env
   standAt apos.atName
   let (f,first) <- holding [ov] (getMethod ov m pl)
   callWith pos f first (backTo pos (starEach (e::es) X.env)) (backToKw pos (keywordEach [] X.env))):=by rfl) :
  PE X (.Call (.Attribute o m apos) (e::es) [] pos) (tE S X (.mcl c i m ca ces)) :=
 (zkz ho hc hm F hr hb ha hst hpl ht).imp λσ H Q ⟨B,φ,st,ρ,rs,re,h⟩=>by
  erw[ev]at h;exact zfB (λrs1 re1 h1 n=>tAs.bind rs1 re1 h1 n) rs re h
theorem zmY{pl:Gw Bool}(hc:Cls X.K (S.cl c))(hm:Meth X.K (S.cl c) m fa)(F:yaQ X.prog X.w X.K X.mg X.base (CX1 X.prog X.w) k fa fd ps (spI X.K S.cl S.call i))(hr:yay k X.A)(hb:Binds X.K fd ps [])
  (ho:PE X o (tE S X ca))
  (ht:eval (.Call (.Attribute o m apos) [] [] pos) X.env=(do
   let ov <- eval o X.env
   standAt apos.atName
   let (f,first) <- holding [ov] (getMethod ov m pl)
   callWith pos f first (backTo pos (starEach [] X.env)) (backToKw pos (keywordEach [] X.env))):=by rfl) :
  PE X (.Call (.Attribute o m apos) [] [] pos) (tE S X (.mcl c i m ca .nil)) :=
 (ziT ho hc hm F hr hb ht).imp λσ H Q ⟨B,φ,st,ρ,rs,re,h⟩=>by
  erw[ev]at h;refine zfB (t:=ydK) (λ{H1 φ1 st1 P kk} rs1 re1 h1 n=>?_) rs re h;erw[evs,R.bind]at h1;exact n [] H1 [] st1 φ1 .rfl rs1 re1 (by erw[yg]) h1
end
inductive ycu(w:An)(fa:Nat->AI):List (AR×Nat)->List CW->Prop
 | nil:ycu w fa [] []
 | cons {k:AR} {i:Nat} {t:Ha} {D:List (AR×Nat)} {es:List CW} (h:ycu w fa D es):ycu w fa ((k,i)::D) (⟨ET w.params k,.str k t,.ref (fa i)⟩ :: es)
def GDF(K:AE)(w:An)(mg:AR->Option AG)(fa:Nat->AI)(x:AR)(D:List (AR×Nat)):Prop :=
 ∃(y:AI) (es:Array CW) (ep:Nat),mg x=AA (.ref y)/\K.lookup y=AA ⟨.type "dict",AD,.dict es ep,#[]⟩/\ycu w fa D es.toList/\(D.map (·.1)).Nodup
theorem ycu.pairs{P:A8}{w:An}{fa:Nat->AI}{D:List (AR×Nat)}{es:List CW}(h:ycu w fa D es) :
  ∃vs:List (AR×AG),Pairs (strKind P w) es vs/\(∀e∈es,∃k,(strKind P w).is k e.key=AB/\e.hash=(strKind P w).hash k)/\vs.map (·.1)=D.map (·.1) /\
   ∀s i,D.lookup s=AA i->valueAt vs s=AA (.ref (fa i)):=by
 induction h with
 |nil=>exact⟨[],.nil,λe he=>(by cases he),rfl,λs v e=>by cases e⟩
 | @cons k i t D es h ih =>
  let⟨vs,h1,h2,h3,h5⟩:=ih;have hat:∀s,valueAt ((k,Am (fa i))::vs) s=if k=s then AA (.ref (fa i))else valueAt vs s:=λs=>by
   unfold valueAt;rw[CM]
   by_cases e:k=s
   .simp[e]
   .simp[e]
  refine⟨(k,.ref (fa i))::vs,.cons (D6 P w k t) rfl h1,λe he=>?_,by rw[AL,AL,h3],λs j e=>?_⟩
  .rcases AQ.1 he with rfl|he
   .exact⟨k,D6 P w k t,rfl⟩
   .exact h2 e he
  .rw[hat];erw[CG]at e
   by_cases q:k=s
   .subst q;rw[beq_self_eq_true]at e
    cases e
    rw[if_pos rfl]
   .rw[beq_eq_false_iff_ne.2 (BM q)]at e;rw[if_neg q];exact h5 s j e
section
variable {S:Se}{X:Cx}{σ:St}{B:AI->Prop}{φ:Ph}{H:Hp}{st:SO}{ρ:IC.Env}{pos p p1 p2 p3 p4 p5 p6 p7:C5}{a b i e n:AV}{es:List AV}{ca cn:Ce}{ces:Ces}{x y:AR}{D:List (AR×Nat)}{ty:TE}{t:TA}{fa:Nat->AI}{fdd:Nat->BK}{ps:Nat->List AR}{k ix:Nat}
noncomputable def ydw(D:List (AR×Nat))(fa:Nat->AI)(ty:TE):TE:=λσ H Q=>ty σ H λz H2=>∃s j,z=.str s/\D.lookup s=AA j/\Q (.ref (fa j)) H2
theorem zjl(hg:Gl X x)(h:GDF X.K X.w X.mg fa x D)(hi:PE X i ty)(hs:ydb i)(hd:(x == ("__debug__":AR))=false:=by decide):PE X (.Subscript (.Name x p) i pos) (ydw D fa ty):=by
 let⟨y,es,ep,hm,hk,hr,hn⟩:=h;let⟨vs,h1,h2,h3,h5⟩:=hr.pairs (P:=X.prog);intro pins s σ H Q I q0;refine ziB E6.lookup hs (thn (zdK (v:=.ref y) hg hm rfl hd pins s σ H (λz H1=>z=.ref y/\ty σ H1 λz H2=>∃s j,z=.str s/\D.lookup s=AA j/\Q (.ref (fa j)) H2) I ⟨rfl,q0⟩) λu s1 kq=>?_);let⟨z,H1,I1,rz,ez,q1⟩:=kq;refine thn (hi pins s1 σ H1 _ I1 q1) λiv s2 kq=>?_;let⟨z2,H2,I2,rz2,sx,j,ez2,e,q2⟩:=kq;subst ez;subst ez2;obtain rfl:u=Am y:=rz;let⟨t,rfl⟩:=rz2;have dd:s2.heap.DictOf (strKind X.prog X.w) y vs:=⟨_,es,ep,I2.kIn y _ hk,⟨rfl,rfl,rfl⟩,rfl,λe he=>h2 e (by simpa using he),h1,by rw[h3];exact hn⟩;exact⟨dd.typeIs,G4 (D6 X.prog X.w sx t) dd.mapOf (h5 sx j e) ⟨.ref (fa j),H2,I2.tok _,rfl,q2⟩⟩
structure Makers(S:Se)(X:Cx)(k:Nat)(D:List (AR×Nat))(fa:Nat->AI)(fdd:Nat->BK)(ps:Nat->List AR):Prop where
 F:∀s j,D.lookup s=AA j->yaQ X.prog X.w X.K X.mg X.base (CX1 X.prog X.w) k (fa j) (fdd j) (ps j) (spI X.K S.cl S.call j)
 kp:∀s j,D.lookup s=AA j->Az X.K (.ref (fa j))=AB
 b:∀s j,D.lookup s=AA j->Binds X.K (fdd j) (ps j) []
def ydv(S:Se)(X:Cx)(D:List (AR×Nat))(fa:Nat->AI)(ix:Nat)(t:TA):TE:=λσ H Q=>∃s j,D.lookup s=AA j/\σ[ix]?=AA (AA (.ref (fa j)))/\t σ H λvs H1=>∃E:XK,spI X.K S.cl S.call j vs H1 Q E/\∀pins s e s',Inv X pins σ H1 s->CX1 X.prog X.w X.stack H1 s E e s'->X.xe e s'
theorem zj7(M:Makers S X k D fa fdd ps)(hr:yay k X.A)(hN:X.N[ix]?=AA x)(hv:Vis X.env.scope x)(ha:PA X (e::es) t)
  (hd:(x == ("__debug__":AR))=false:=by decide) (hcd:(x == ("__classdict__":AR))=false:=by decide) (he:starEach (e::es) X.env=(AC,eval e X.env)::starEach es X.env:=by rfl) (hpl:(backTo pos (starEach es X.env)).any (·.1)=false:=by rfl) :
  PE X (.Call (.Name x p) (e::es) [] pos) (ydv S X D fa ix t):=by
 intro pins s σ H Q I ⟨sx,j,hl,hs,h⟩;refine Bb (thn (zkG hN hv hd hcd pins s σ H (λz H1=>z=.ref (fa j)/\t σ H1 λvs H1=>∃E:XK,spI X.K S.cl S.call j vs H1 Q E/\∀pins s e s',Inv X pins σ H1 s->CX1 X.prog X.w X.stack H1 s E e s'->X.xe e s') I ⟨_,hs,rfl,h⟩) λu s1 kq=>?_);let⟨z,H1,I1,rz,ez,q1⟩:=kq;subst ez;obtain rfl:u=Am (fa j):=rz;refine DN (h₀:=X.base) I.ok.mod.kin (M.kp sx j hl) (thn (ha pos pins s1 σ H1 _ I1 q1) λus s2 kq=>?_) he hpl;let⟨vs,H2,I2,r,E,q,hx⟩:=kq;refine ⟨I2.kIn,?_⟩;exact zdJ (M.F sx j hl) hr (M.b sx j hl) .nil I2 r (by rw[A2];exact q) λe s' c=>hx pins s2 e s' I2 c
theorem yQ.hole{K:AE}{cl:Nat->AI}{v:V}(re:yQ K cl B φ H ρ σ):yQ K cl B φ H (ρ.set ix AD) (σ.set ix (AA v)):=by
 refine⟨by simp[re.len],λj w e=>?_⟩
 by_cases q:ix=j
 .subst q
  by_cases hj:ix<ρ.length
  .rw[A9 hj]at e;cases e
  .rw[BN (by simp;lia)]at e;cases e
 .rw[AO q]at e ⊢;exact re.get j w e
theorem zkh{v:PV}{j:Nat}{b:Bool}(h:mkV D b v=AA j):∃s,v=.str s/\D.lookup s=AA j/\b=true:=by
 cases v with
 |str s =>
  cases b with
  |true=>exact⟨s,rfl,h,rfl⟩
  |false=>cases h
 |_=>cases h
theorem zpf(M:Makers S X k D fa fdd ps)(hr:yay k X.A)(hN:X.N.Nodup)(hi:X.N[ix]?=AA x)(hx:Loc X.env.scope x)(hv:Vis X.env.scope x)(hg:Gl X y)(hd:GDF X.K X.w X.mg fa y D)(hn:PE X n (tE S X cn))(ha:PA X (e::es) (tAs S X ces))
  (hs:ydb n:=by exact λ_ _=>rfl) (hsw:swapsWith (.Subscript (.Name y p2) n p3) (AA (.Name x p1)) p4.line X.env=pure false:=by rfl) (hf:X.fn x=AB \/ X.env.scope.names.lookup x=AA .local:=by first|exact .inl rfl|exact .inr rfl|assumption)
  (hyd:(y == ("__debug__":AR))=false:=by decide) (hxd:(x == ("__debug__":AR))=false:=by decide) (hcd:(x == ("__classdict__":AR))=false:=by decide) (he:starEach (e::es) X.env=(AC,eval e X.env)::starEach es X.env:=by rfl) (hpl:(backTo p6 (starEach es X.env)).any (·.1)=false:=by rfl) :
  PSs X [.Assign [.Name x p1] (.Subscript (.Name y p2) n p3) p4,.Return (AA (.Call (.Name x p5) (e::es) [] p6)) p7] (tSs S X (.cons (.mkr ix D cn ces) .nil)) :=
 (zgw (zkP hN hi hx (zjl hg hd hn hs hyd) hsw hf) (zmy (zkY (zj7 M hr hi hv ha hxd hcd he hpl)))).imp λD' σ H ⟨B,φ,st,ρ,rs,re,h⟩=>by
  have h:yaM S X B φ H (ex S.call ρ st (.mkr ix D cn ces)) D':=by
   erw[exs]at h
   cases q:ex S.call ρ st (.mkr ix D cn ces)with
   |nx ρ' s' =>
    exfalso;erw[ex]at q
    cases q1:ev S.call ρ st cn with
    |ok v1 s1 =>
     rw[q1]at q;erw[R.fl]at q;split at q
     .rename_i j _
      cases q2:(evs S.call (ρ.set ix AD) s1 ces).bind λvs st2=>S.call j vs st2 with
      |ok v2 s2=>rw[q2]at q;cases q
      |exc c s2=>rw[q2]at q;cases q
      |bad=>rw[q2]at q;cases q
     .cases q
    |exc c s1=>rw[q1]at q;cases q
    |bad=>rw[q1]at q;cases q
   |rt v s'=>rw[q]at h;exact h
   |bk ρ' s'=>rw[q]at h;exact h
   |ct ρ' s'=>rw[q]at h;exact h
   |exc c ρ' s'=>rw[q]at h;exact h
   |bad=>rw[q]at h;exact h
  erw[ex]at h;refine tE.fl rs re h λx' H1 v st1 φ1 s1 rs1 re1 rv h1=>?_
  cases q:mkV D (decide (ix<ρ.length)) v with
  |none=>rw[q]at h1;exact h1.elim
  |some j =>
   rw[q]at h1;let⟨sx,rfl,hl,hb⟩:=zkh q;erw[yd]at rv;subst rv;have hlen:ix<σ.length:=by
    rw[<- re1.len];exact of_decide_eq_true hb
   refine⟨sx,j,rfl,hl,sx,j,hl,by rw[A9 hlen],B,φ1,st1,ρ.set ix AD,rs1,re1.hole,?_⟩;dsimp only at h1
   cases q2:evs S.call (ρ.set ix AD) st1 ces with
   |bad=>rw[q2]at h1;exact h1
   |exc c s2=>rw[q2]at h1;exact λe s' z=>h1 _ φ1 H1 e s' .rfl re1.hole z
   |ok vs st2 =>
    rw[q2]at h1;intro xs H2 φ2 s2 rs2 rl;have h2:yaM S X B φ1 H1 ((S.call j vs st2).fl (ρ.set ix AD) λv st3=>.rt v st3) D':=h1;refine za7 rs2 rl ?_
    cases q3:S.call j vs st2 with
    |bad=>rw[q3]at h2;exact h2
    |ok v st3=>rw[q3]at h2;exact λx H' φ' s' rs' rv=>h2 x H' φ' (s2.trans s') rs' rv
    |exc c st3=>rw[q3]at h2;exact λe s' z=>h2 _ φ2 H2 e s' s2 (re1.hole.step s2) z
end
section
variable {P:A8}{w:An}{K:AE}{mg:AR->Option AG}{base:BI}{cl:Nat->AI}{T:Nat->Option IC.Fn}{fi:Nat}{fn:IC.Fn}{x qual:AR}{stm:CC}{f:AI}{fd:BK}{N ps:List AR}{k m:Nat}
theorem zjo:yaQ P w K mg base (CX1 P w) m f fd ps (spI K cl (yc T 0) fi) :=
 ⟨λvs H Q E ⟨_,_,_,_,_,_,h⟩=>by rw[yc]at h;exact h.elim,λA outer s H args us vs Q E _ _ _ _ ⟨_,_,_,_,_,_,h⟩=>by rw[yc]at h;exact h.elim⟩
end
theorem ydt.units{k:Nat}{A:Ay}(r:ydt k A):A.units+64<cLine:=by have:=r.un;lia
section
variable {P:A8}{w:An}{K:AE}{mg:AR->Option AG}{base:BI}{cl:Nat->AI}{T:Nat->Option IC.Fn}{fi:Nat}{fn:IC.Fn}{x qual:AR}{stm:CC}{f:AI}{fd:BK}{N ps:List AR}{k m:Nat}
end
section
variable {S:Se}{X:Cx}{σ:St}{B:AI->Prop}{φ:Ph}{H:Hp}{st:SO}{ρ:IC.Env}{p pos:C5}{e:AV}{es:List AV}{ces:Ces}{fi k:Nat}{x:AR}{f:AI}{fd:BK}{ps:List AR}
end
end L2
namespace L2
open PySem IC
section
variable {S:Se}{X:Cx}{σ:St}{B:AI->Prop}{φ φ1:Ph}{H H1:Hp}{st:SO}{ρ:IC.Env}{p pos p2 px py pt pt2:C5}{a b c d o a' b' c' d':AV}{ca cb cc cd ce cf:Ce}{pins:List (AI×CO)}{s:AJ}{kt k2:Nat}{es:List AV}{ces:Ces}{x:AR}
end
end L2
namespace L2
open PySem PySem.Spec PyProof.Rows
section
variable {X:Cx}
end
end L2
namespace L2
open PySem PySem.Spec PyProof.Rows IC
section
variable {S:Se}{X:Cx}{σ:St}{B:AI->Prop}{φ φ1:Ph}{H H1:Hp}{st:SO}{ρ:IC.Env}{p pos p2 apos:C5}{a b c d:AV}{ca cb cc:Ce}{es:List AV}{ces:Ces}{K:AE}{cl:Nat->AI}
end
section
variable {S:Se}{X:Cx}{a b:AV}{c i:Nat}{j:Int}{f:AR}{pos tpos:C5}
theorem zoI(hc:Cls X.K (S.cl c))(hn:yax X.K (S.cl c) f)(ha:PE X a (tE S X (.var i)))(hv:PE X b (tE S X (.cst (.int j)))) :
  PS X (.AugAssign (.Attribute a f tpos) .Add b pos) (tS S X (.sfl c (.var i) f (.bin .add (.fld c (.var i) f) (.cst (.int j))))) :=
 (ziA ha hv zoo).imp λD σ H ⟨B,φ,st,ρ,rs,re,h⟩=>by
  erw[ex,ev]at h
  cases q:ρ[i]? with
  |none=>rw[q]at h;exact h.elim
  |some o =>
   cases o with
   |none=>rw[q]at h;exact h.elim
   |some x =>
    rw[q]at h;dsimp only[R.bind]at h;refine⟨B,φ,st,ρ,rs,re,?_⟩;erw[ev,q];intro x' H1 φ1 s1 rs1 rx;have re1:=re.step s1;have h:=yaM.on s1 h
    cases e:yba c st x f with
    |none=>rw[e]at h;exact h.elim
    |some v =>
     rw[e]at h;let⟨n,fs,rfl,hn',l⟩:=zgn e;let⟨y,ks,dx,rfl,hp,hy,lr⟩:=rs1.ins rx hn';let⟨x,hx,rxv⟩:=lr.lookup.1 v l;refine⟨y,S.cl c,dx,ks,x,rfl,hy,hc,hn,hx,⟨B,φ1,st,ρ,rs1,re1,?_⟩⟩;erw[ev];intro y' H2 φ2 s2 rs2 ry;erw[yd]at ry;subst ry
     cases v with
     |int k =>
      erw[yd]at rxv;subst rxv;refine⟨k,j,rfl,rfl,?_⟩;have h:yaM S X B φ1 H1 (match ybc c st (.loc n) f (.int (k+j))with|some st3=>Fl.nx ρ st3|none=>Fl.bad) D:=h;have h:=yaM.on s2 h;have rx2:=rx.step s2;let⟨y2,ks2,dx2,e2,hp2,hy2,lr2⟩:=rs2.ins rx2 hn'
      cases e2
      cases e3:ybc c st (.loc n) f (.int (k+j))with
      |none=>rw[e3]at h;exact h.elim
      |some st4 =>
       rw[e3]at h;let⟨n',fs',z,hn2,hl,rfl⟩:=zgA e3
       cases z
       rw[hn']at hn2
       cases hn2
       refine⟨dx2,ks2,hy2,by rw[<- lr2.len];exact hl,?_⟩;have s4:Step φ2 H2 φ2 (L2.upd H2 y (.ins (S.cl c) dx2 (ybb f (.int (k+j)) ks2))):=.put (A0 hp2);exact h σ _ φ2 s4 (rs2.put (o:=.ins c (ybY f (.int (k+j)) fs)) hp2 ⟨_,⟨dx2,zu⟩,(FS.put (by erw[yd]) lr2).step s4⟩) ((re1.step s2).step s4)
     |_=>exact h.elim
end
end L2
namespace HT
open PySem PySem.Spec PyProof.Rows
section
variable {prog:A8}{w:An}{A:Ay}{E:AG->AJ->Prop}{s:AJ}
theorem zgZ(n:Nat):B2 ((n:Int) - 1) (-1) (-1)=n:=by
 unfold B2;rw[if_neg (by decide)]
 by_cases h:(n:Int) - 1 > -1
 .rw[if_pos h];have:-(-1:Int)=1:=rfl;rw[this,DD];lia
 .rw[if_neg h];lia
theorem zcO{sl:AI}{n:Nat}{t:Ha}{Q:Int×Int×Nat->AJ->Prop}(hs:s.heap.IsSliceOf sl .none .none (.int (-1) t))
  (h:Q ((n:Int) - 1,-1,n) s):AX (model prog w) A (C1 (.ref sl) (pure (n:Int))) Q E s:=by
 let⟨os,hos,hcs,hds⟩:=id hs;unfold C1 EZ;refine AH (AH (BS hos hds (x:=.none) rfl (AH (BS hos hds (x:=.none) rfl (AH (BS hos hds (x:=.int (-1) t) rfl (AN ?_)))))));refine AH (slicePart_int ?_);show AX _ _ (if ((-1:Int) == 0)=AB then _ else _) _ _ s;rw[if_neg (by decide)];refine AH (EN (AH (EN (AH (AN ?_)))));show AX _ _ (pure ((n:Int) - 1,(-1:Int),B2 ((n:Int) - 1) (-1) (-1))) _ _ s;rw[zgZ];exact AN h
theorem zf3{α β:Type}{f g:α->Option β}:∀l:List α,(∀x∈l,f x=g x)->l.filterMap f=l.filterMap g
 | [],_=>rfl
 |a::l,h=>by
  rw[Bz,Bz,h a Aj,zf3 l λx hx=>h x (AT _ hx)]
theorem zjG(l:List AG):((Cq l.toArray.size).filterMap λ(m:Nat)=>l.toArray[((l.toArray.size:Int) - 1+(m:Int)*(-1)).toNat]?)=l.reverse:=by
 refine DY λi=>?_;have e:∀m:Nat,m<l.length->l.toArray[((l.toArray.size:Int) - 1+(m:Int)*(-1)).toNat]?=AA (l.reverse.getD m .none):=λm hm=>by
  rw[AU,show ((l.length:Int) - 1+(m:Int)*(-1)).toNat=l.length - 1 - m by lia];rw[List.getElem?_toArray,EU,List.getElem?_reverse hm,CD (by lia)];rfl
 have e2:((Cq l.toArray.size).filterMap λ(m:Nat)=>l.toArray[((l.toArray.size:Int) - 1+(m:Int)*(-1)).toNat]?)=(Cq l.length).map λm=>l.reverse.getD m .none:=by
  rw[<- List.filterMap_eq_map,AU];refine zf3 _ λm hm=>?_;have:=e m (FV.1 hm);rw[AU]at this;exact this
 rw[e2,Bv]
 by_cases hi:i<l.length
 .rw[List.getElem?_range hi];show AA (l.reverse.getD i .none)=_;rw[EU,CD (by simpa using hi)];rfl
 .rw[BN (by simpa using hi),BN (by simpa using hi)];rfl
theorem getItem_tuple_rev{t sl:AI}{l:List AG}{tk:Ha}{Q:AG->AJ->Prop}(ht:G6 s.heap t l.toArray)(hs:s.heap.IsSliceOf sl .none .none (.int (-1) tk))
  (h:Q (.ref s.heap.objs.size) { s with heap:=s.heap.push { cls:=.type "tuple",data:=.seq l.reverse.toArray } })
  (hsz:l.length<=sizeLine):AX (model prog w) A (getItem (.ref t) (.ref sl)) Q E s:=by
 have htake:sizeOk (.seq l.reverse.toArray):=by
  show l.reverse.toArray.size<=sizeLine;rw[AU,Dy];exact hsz
 let⟨os,hos,hcs,hds⟩:=id hs;have hTs:s.TypeIs (.ref sl) "slice":=⟨os,hos,hcs⟩;unfold getItem
 try with_reducible refine DH ?_
 first|refine AH (AN ?_)|skip
 refine AH (E9 ht.typeIs (by decide) ?_);refine AH (Ba (name:=AF "__getitem__") ht.typeIs Ah
  (CV Ah ht.typeIs Dx ?_ (EO _ _)))
 show AX _ _ (Cu (.ref t) >>= _) _ _ s;refine AH (E0 ht ?_);refine AH (FB hTs ?_);rw[if_pos (by decide)];refine AH (zcO hs ?_);have hno:¬((((l.toArray.size:Int) - 1) == 0 && (-1:Int) == 1 && l.toArray.size == l.toArray.size)=AB):=by
  intro q;rw[AK,AK]at q;exact absurd q.1.2 (by decide)
 show AX _ _ (if (((l.toArray.size:Int) - 1) == 0 && (-1:Int) == 1 && l.toArray.size == l.toArray.size)=AB then _ else _) _ _ s;rw[if_neg hno,zjG]
 first
  | exact AH (m:=BV _) (BQ (AN ⟨_,rfl,AN h⟩) htake)
  | exact AH (m:=BV _) (BQ (AH (AN (AN ⟨_,rfl,AN h⟩))) htake)
  | exact AH (AH (m:=BV _) (BQ (AN (AN ⟨_,rfl,AN h⟩)) htake))
  | exact AH (AH (m:=BV _) (BQ (AN ⟨_,rfl,AN h⟩) htake))
end
end HT
namespace L2
open PySem PySem.Spec PyProof.Rows IC
section
variable {S:Se}{X:Cx}{pos p2:C5}{e e3:AV}{te t3:TE}{a:AV}{ca c3:Ce}
theorem znk(he:PE X e te)(h3:PE X e3 t3):PE X (.Subscript e (.Slice AD AD (AA e3) p2) pos) (λσ H Q=>te σ H λx H1=>t3 σ H1 λk H2=>k=.int (-1)/\∃a xs,x=.ref a/\((SqT X.K H2 a xs/\∀p,H2 p=AD->Q (.ref p) (upd H2 p (.tup xs.reverse))) \/ (SqL X.K H2 a xs/\∀p,H2 p=AD->Q (.ref p) (upd H2 p (.lst xs.reverse))))):=by
 intro pins s σ H Q I h;refine Fk (thn (he pins s σ H _ I h) λv s1 kq=>?_);let⟨x,H1,I1,r1,q1⟩:=kq;refine wpAny_Slice ?_;rw[Fc];refine AN (AN ?_);show AX _ _ (eval e3 X.env) _ _ s1;refine thn (h3 pins s1 σ H1 _ I1 q1) λvk s3 kq=>?_;let⟨k,H3,I3,rk,ek,a,xs,ex,q⟩:=kq;subst ek ex;let⟨tk,rfl⟩:=rk
 cases r1
 have I4:Inv X pins σ H3 { s3 with heap:=s3.heap.push { cls:=.type "slice",data:=.fields #[.none,.none,.int (-1) tk] } }:=I3.kept (t':=s3.toks) λb ob q=>AM _ q;rcases q with⟨hx,q⟩|⟨hx,q⟩
 .let⟨its,r,ht,hz⟩:=I4.tuple hx;have hg:AX (model X.prog X.w) X.A (getItem (.ref a) (.ref s3.heap.objs.size)) (EP X pins σ Q) X.xe { s3 with heap:=s3.heap.push { cls:=.type "slice",data:=.fields #[.none,.none,.int (-1) tk] } }:=by
   refine HT.getItem_tuple_rev ht (EQ ..) ?_ (by rw[<- r.length];exact hz);refine⟨.ref _,_,I4.laid (t':=s3.toks) (o:=.tup xs.reverse) (λb ob q=>AM _ q) (AS _) ?_,rfl,q _ (I4.hok.fresh (AS _))⟩;exact⟨by rw[Dy];exact hz,_,r.reverse,Ek _ _⟩
  show AX (model X.prog X.w) X.A (subscriptTail e (.Slice AD AD (AA e3) p2) (.ref a) (.ref s3.heap.objs.size)) (EP X pins σ Q) X.xe { s3 with heap:=s3.heap.push { cls:=.type "slice",data:=.fields #[.none,.none,.int (-1) tk] } };exact Gn (ops:=[.ref a,.ref s3.heap.objs.size]) ht.typeIs Ah.lookup hg (by ac_rfl)
 .let⟨its,r,ht,hz⟩:=I4.list hx;have hlen:=r.length;have hg:AX (model X.prog X.w) X.A (getItem (.ref a) (.ref s3.heap.objs.size)) (EP X pins σ Q) X.xe { s3 with heap:=s3.heap.push { cls:=.type "slice",data:=.fields #[.none,.none,.int (-1) tk] } }:=by
   refine Ee ht.isList (EQ ..) .none .none (.int (-1) tk) (by decide) ?_ (by rw[AU]<;>lia);rw[PySem.W.krv_pick];refine⟨.ref _,_,I4.laid (t':=s3.toks) (o:=.lst xs.reverse) (λb ob q=>AM _ q) (AS _) ?_,rfl,q _ (I4.hok.fresh (AS _))⟩;exact⟨by rw[Dy];exact hz,its.reverse,0,r.reverse,A4 _ rfl⟩
  show AX (model X.prog X.w) X.A (subscriptTail e (.Slice AD AD (AA e3) p2) (.ref a) (.ref s3.heap.objs.size)) (EP X pins σ Q) X.xe { s3 with heap:=s3.heap.push { cls:=.type "slice",data:=.fields #[.none,.none,.int (-1) tk] } };exact Gn (ops:=[.ref a,.ref s3.heap.objs.size]) ht.isList.typeIs Ea.lookup hg (by ac_rfl)
theorem yg.reverse{K:AE}{cl:Nat->AI}{B:AI->Prop}{φ:Ph}{H:Hp}:∀{vs:List PV} {xs:List V},yg K cl B φ H vs xs->yg K cl B φ H vs.reverse xs.reverse
 | [],xs,h=>by
  erw[yg]at h;subst h;erw[List.reverse_nil,yg]
 |v::vs,xs,h=>by
  erw[yg]at h;let⟨y,ys,rfl,r,l⟩:=h;rw[DS,DS];exact(yg.reverse l).append (by erw[yg];exact⟨y,[],rfl,r,rfl⟩)
theorem zik{α β γ:Type}(r:R α)(f:α->SO->R β)(g:β->SO->R γ):(r.bind f).bind g=r.bind λv s=>(f v s).bind g:=by cases r<;>rfl
theorem zn0(ha:PE X a (tE S X ca))(h3:PE X e3 (tE S X (.neg (.cst (.int 1))))):PE X (.Subscript a (.Slice AD AD (AA e3) p2) pos) (tE S X (.blt .rev (.cons ca .nil))) :=
 (znk ha h3).imp λσ H Q ⟨B,φ,st,ρ,rs,re,h⟩=>by
  erw[ev,evs,zik]at h;refine tE.bind rs re h λx H1 v st1 φ1 s1 rs1 re1 rv h1=>?_;refine⟨B,φ1,st1,ρ,rs1,re1,?_⟩;let⟨z,ez,q⟩:=zaq h1 rs1;erw[ev,R.bind];intro y H2 φ2 s2 rs2 ry;erw[yd]at ry;refine⟨ry,?_⟩;unfold yaD at ez
  cases v with
  |tp k vs =>
   erw[yep]at ez;split at ez
   .cases ez
   .cases ez
    have rv2:=rv.step s2;erw[yd]at rv2;let⟨p,xs,rfl,r1,l1⟩:=rv2;exact⟨p,xs,rfl,.inl ⟨r1.sq,λt ht=>q _ _ φ2 (s2.trans (.upd ht)) (rs2.upd ht) (.tup_new ht rs2 l1.reverse)⟩⟩
  |lst vs =>
   erw[yep]at ez
   cases ez
   have rv2:=rv.step s2;erw[yd]at rv2;let⟨p,xs,rfl,r1,l1⟩:=rv2;exact⟨p,xs,rfl,.inr ⟨r1.sq,λt ht=>q _ _ φ2 (s2.trans (.upd ht)) (rs2.upd ht) (.lst_new ht rs2 l1.reverse)⟩⟩
  |_=>cases ez
end
section
variable {X:Cx}{prog:A8}{w:An}{A:Ay}{E:AG->AJ->Prop}{s:AJ}
theorem zaQ:typeLookup (Ew "tuple") (dunderI "add")=pure none:=rfl
theorem zkj{t b:AI}{vs ws:List AG}{Q:AG->AJ->Prop}(ht:G6 s.heap t vs.toArray)(hb:G6 s.heap b ws.toArray)
  (h0:vs=[]->Q (.ref b) s) (h1:vs≠[]->ws=[]->Q (.ref t) s)
  (h2:vs≠[]->ws≠[]->Q (.ref s.heap.objs.size) { s with heap:=s.heap.push { cls:=.type "tuple",data:=.seq (vs++ws).toArray } })
  (hsz:vs.length+ws.length<=sizeLine):AX (model prog w) A (inplaceOp .Add (.ref t) (.ref b)) Q E s:=by
 let⟨⟨cls,dd,data,sl⟩,ho,hc,n,hd⟩:=id ht;let⟨⟨cls2,dd2,data2,sl2⟩,ho2,hc2,n2,hd2⟩:=id hb;simp only at hc hd hc2 hd2;subst hc hd hc2 hd2;have e:vs.toArray++ws.toArray=(vs++ws).toArray:=by simp
 by_cases hv:vs=[]
 .exact DZ ⟨_,ho,rfl⟩ ⟨_,ho2,rfl⟩ zaQ Cc DI (Fm Bw ⟨_,ho,rfl⟩ Bs (Bn _ _)
   (tuple_addW0 t b vs.toArray ws.toArray n n2 dd dd2 sl sl2 (by simp[hv])) ⟨ho,ho2,h0 hv⟩)
 .by_cases hw:ws=[]
  .exact DZ ⟨_,ho,rfl⟩ ⟨_,ho2,rfl⟩ zaQ Cc DI (Fm Bw ⟨_,ho,rfl⟩ Bs (Bn _ _)
    (tuple_addW1 t b vs.toArray ws.toArray n n2 dd dd2 sl sl2 (by simpa using hv) (by simp[hw])) ⟨ho,ho2,h1 hv hw⟩)
  .refine DZ ⟨_,ho,rfl⟩ ⟨_,ho2,rfl⟩ zaQ Cc DI (Fm Bw ⟨_,ho,rfl⟩ Bs (Bn _ _)
    (tuple_addW2 t b vs.toArray ws.toArray n n2 dd dd2 sl sl2 (by simpa using hv) (by simpa using hw) (by rw[AU,AU];exact hsz)) ⟨ho,ho2,?_⟩)
   rw[e];exact h2 hv hw
end
section
variable {S:Se}{X:Cx}{pos px:C5}{a:AV}{ca:Ce}
def yft(x y:PV):Option PV:=match x with
 | .tp k xs=>yE .add (.tp k xs) y
 |_=>AD
theorem zlB:PIp X .Add (rT2 S X yft):=by
 rintro pins s σ H x y v u Q I rx ry ⟨B,φ,st,a,b,z,rs,ra,rb,e,q⟩
 unfold yft at e;split at e
 .rename_i k1 vs
  cases b with
  |tp k2 ws =>
   unfold yE at e;erw[yd]at ra rb;let⟨p,xs,rfl,r1,l1⟩:=ra;let⟨p',ys,rfl,r2,l2⟩:=rb;dsimp only at e;split at e
   .rename_i c
    cases e
    have n1:=l1.length;have n2:=l2.length
    cases rx
    cases ry
    let⟨its,t1,p1,_⟩:=I.tuple r1.sq;let⟨its2,t2,p2,_⟩:=I.tuple r2.sq;have hz:xs.length+ys.length<=sizeLine:=by rw[<- zF];lia
    have ht:=I.hok.fresh (AS s.heap.objs.size);have vn:its=[] ↔ vs=[]:=by rw[t1.nil_iff];constructor<;>(intro h;apply Dn;rw[h,CA]at n1;lia)
    have wn:its2=[] ↔ ws=[]:=by rw[t2.nil_iff];constructor<;>(intro h;apply Dn;rw[h,CA]at n2;lia)
    unfold yew at q;refine zkj p1 p2 (λz=>?_) (λz1 z2=>?_) (λz1 z2=>?_) (by rw[<- t1.length,<- t2.length];exact hz)
    .rw[vn.mp z]at q;erw[Es,if_true]at q;exact⟨.ref p',H,I,rfl,q _ H φ .rfl rs (by erw[yd];exact⟨p',ys,rfl,r2,l2⟩)⟩
    .rw[if_neg (by rw[D7];exact λh=>z1 (vn.mpr h)),if_pos (by rw[D7];exact wn.mp z2)]at q;exact⟨.ref p,H,I,rfl,q _ H φ .rfl rs (by erw[yd];exact⟨p,xs,rfl,r1,l1⟩)⟩
    .rw[if_neg (by rw[D7];exact λh=>z1 (vn.mpr h)),if_neg (by rw[D7];exact λh=>z2 (wn.mpr h))]at q;refine⟨.ref s.heap.objs.size,_,I.laid (t':=s.toks) (o:=.tup (xs++ys)) (λb ob q=>AM _ q) (AS _) ?_,rfl,q _ _ φ (.upd ht) (rs.upd ht) (.tup_new ht rs (l1.append l2))⟩;exact⟨by rw[Ac];exact hz,_,t1.append t2,Ek _ _⟩
   .cases e
  |_=>cases e
 .cases e
theorem zlI{α β:Type}(r:R α)(f:α->SO->R β)(ρ:IC.Env)(g:β->SO->Fl):(r.bind f).fl ρ g=r.fl ρ λv s=>(f v s).fl ρ g:=by cases r<;>rfl
theorem zlJ{i:Nat}{x:AR}(hN:X.N.Nodup)(hi:X.N[i]?=AA x)(hx:Loc X.env.scope x)(he:PE X a (tE S X ca))
  (hf:X.fn x=AB \/ X.env.scope.names.lookup x=AA .local:=by first|exact .inl rfl|exact .inr rfl|assumption) (hd:(x == ("__debug__":AR))=false:=by decide) (hcd:(x == ("__classdict__":AR))=false:=by decide):PS X (.AugAssign (.Name x px) .Add a pos) (tS S X (.asg (.n i) (.ite (.isi (.var i) [.tuple]) (.bin .add (.var i) ca) .nope))) :=
 (zkQ hN hi hx he zlB hf).imp λD σ H ⟨B,φ,st,ρ,rs,re,h⟩=>by
  erw[ex,ev]at h
  cases q:ρ[i]? with
  |none=>rw[q]at h;exact h.elim
  |some w =>
   cases w with
   |none=>rw[q]at h;exact h.elim
   |some w =>
    rw[q]at h;let⟨y,hy,rw⟩:=re.get i w q
    cases w with
    |tp k xs =>
     replace h:yaM S X B φ H ((ev S.call ρ st ca).fl ρ λv st1=>(toR (yE .add (.tp k xs) v) st1).fl ρ λv st1=>match yO (.n i) v ρ with
      |some ρ1=>Fl.nx ρ1 st1
      |none=>Fl.bad) D:=by rw[<- zlI];exact h
     refine⟨y,hy,tE.fl rs re h λz H1 v st1 φ1 s rs1 re1 rv h1=>?_⟩
     cases e:yE .add (.tp k xs) v with
     |none=>rw[e]at h1;exact h1.elim
     |some u =>
      rw[e]at h1;exact⟨B,φ1,st1,.tp k xs,v,u,rs1,rw.step s,rv,e,λz' H' φ' s' rs' rz=>h1 _ H' φ' s' rs' ((re1.step s').set i rz)⟩
    |_=>exact h.elim
end
end L2
namespace L2
open PySem PySem.Spec PyProof.Rows IC WK
inductive GK where
 | fn (i:Nat)|fnD (i:Nat)|cst (v:PV)|dct (D:List (AR×PV))|exc (c:Nat)|cls (c i:Nat)
structure Gs where
 g:AR->Option GK
 b:AR->Bool
 t:Ty->Bool
 fl:Nat->AR->Bool
 me:Nat->AR->Option Nat
 kb:Nat->Nat->List AR->Option (List (Option Int))
 mr:AR->Option (List (AR×Nat))
structure Kx where
 N:List AR
 sc:Bj
 own:Bool
def Fo(m:Nat)(S:Se)(X:Cx)(i:Nat)(f:AI)(fd:BK)(ps:List AR):Prop:=yaQ X.prog X.w X.K X.mg X.base (CX1 X.prog X.w) m f fd ps (spI X.K S.cl S.call i)
structure Glo(γ:Gs)(m:Nat)(S:Se)(X:Cx):Prop where
 F:∀x i,γ.g x=AA (.fn i)->∃f fd ps,Fo m S X i f fd ps/\X.mg x=AA (.ref f)/\Az X.K (.ref f)=AB/\Binds X.K fd ps []
 Q:∀x i np ks sh,γ.g x=AA (.fnD i)->γ.kb i np ks=AA sh->∃f fd ps,Fo m S X i f fd ps/\X.mg x=AA (.ref f)/\Az X.K (.ref f)=AB/\∃g,ybR X.K fd ps ks g (gK np sh)
 C:∀x v,γ.g x=AA (.cst v)->GC X.K X.mg S.cl x v \/ ∃i,v=.int i/\GCI X.mg x i
 D:∀x d,γ.g x=AA (.dct d)->GD X.K X.w X.mg S.cl x d
 E:∀x c,γ.g x=AA (.exc c)->ydj X.K X.mg (S.cl c) x
 N:∀x c i,γ.g x=AA (.cls c i)->X.mg x=AA (.ref (S.cl c))/\∃f fd ps,Mk X.K (S.cl c) f/\Fo m S X i f fd ps/\Binds X.K fd ps []
 B:∀x,γ.b x=AB->X.mg x=AD
 T:∀t,γ.t t=AB->yeL X.K t
 A:∀c f,γ.fl c f=AB->Cls X.K (S.cl c)/\yax X.K (S.cl c) f
 M:∀c n i,γ.me c n=AA i->Cls X.K (S.cl c)/\∃f fd ps,Meth X.K (S.cl c) n f/\Fo m S X i f fd ps/\Binds X.K fd ps []
 K:∀y D,γ.mr y=AA D->∃fa fdd ps,Makers S X m D fa fdd ps/\GDF X.K X.w X.mg fa y D
structure Good(γ:Gs)(κ:Kx)(m:Nat)(S:Se)(X:Cx):Prop where
 n:X.N=κ.N
 sc:X.env.scope=κ.sc
 calm:X.calm=AB
 room:yay (m+1) X.A
 own:κ.own=AB->El (model X.prog X.w) X.A X.env X.xe/\(∀x,X.fn x=AB)/\S.may=AB
 glo:Glo γ m S X
noncomputable abbrev Pr(P:Prop):Type:=Option (PLift P)
abbrev YE(γ:Gs)(κ:Kx)(e:AV)(c:Ce):Prop:=∀m S X,Good γ κ m S X->PE X e (tE S X c)
abbrev YT(γ:Gs)(κ:Kx)(e:AV)(c:Ce):Prop:=∀m S X,Good γ κ m S X->PT X e (tTs S X c)
abbrev YW(γ:Gs)(κ:Kx)(e:AV)(c:Ce):Prop:=∀m S X,Good γ κ m S X->PW X e (tTs S X c)
abbrev YA(γ:Gs)(κ:Kx)(e:List AV)(c:Ces):Prop:=∀m S X,Good γ κ m S X->PA X e (tAs S X c)
abbrev YO(γ:Gs)(κ:Kx)(e:Option AV)(c:Ce):Prop:=∀m S X,Good γ κ m S X->PO X e (tO S X c)
abbrev YS(γ:Gs)(κ:Kx)(s:CC)(c:Cs):Prop:=∀m S X,Good γ κ m S X->PS X s (tS S X c)
abbrev YSs(γ:Gs)(κ:Kx)(s:List CC)(c:Css):Prop:=∀m S X,Good γ κ m S X->PSs X s (tSs S X c)
noncomputable def an{P Q:Prop}(a:Pr P)(k:P->Pr Q):Pr Q:=match a with
 |some h=>k h.down
 |none=>AD
noncomputable def ok{P:Prop}(h:P):Pr P:=AA ⟨h⟩
noncomputable def ask(p:Prop)[Decidable p]:Pr p:=if h:p then AA ⟨h⟩else AD
noncomputable def nst:AV->Bool
 | .Starred _ _=>AC
 |_=>AB
theorem yak{a:AV}{es:List AV}{env:B8}(h:nst a=AB):starEach (a::es) env=(AC,eval a env)::starEach es env:=by
 cases a<;>first|rfl|cases h
def yb5(es:List AV):Bool:=es.all nst
theorem stars{pos:C5}{env:B8}:∀{es:List AV},yb5 es=AB->(backTo pos (starEach es env)).any (·.1)=AC
 | [],_=>rfl
 |a::es,h=>by
  erw[yb5,Bo,AK]at h;rw[yak h.1];have:=stars (pos:=pos) (env:=env) (es:=es) h.2;simpa [backTo] using this
noncomputable def nco:AV->Bool
 | .ListComp ..=>AC
 | .SetComp ..=>AC
 | .DictComp ..=>AC
 |_=>AB
theorem swp{a:AV}{t:Option AV}{l:Nat}{env:B8}(h:nco a=AB):swapsWith a t l env=pure false:=by
 cases a<;>first|rfl|cases h
noncomputable def nse:AV->Bool
 | .Set ..=>AC
 |_=>AB
theorem fse{a:AV}{env:B8}(h:nse a=AB):∀x,foldedSetIterable a env x=pure x:=by
 cases a<;>first|exact λ_=>rfl|cases h
theorem nmk{op:Fb}{a:AV}(h:nse a=AB):behindInMarks op a=false:=by
 cases a<;>first|rfl|cases h
noncomputable def nsl:AV->Bool
 | .Slice ..=>AC
 |_=>AB
theorem pix{a:AV}(h:nsl a=AB):ybF a:=by
 cases a<;>first|exact λ_ _=>rfl|cases h
theorem nos{a:AV}(h:nsl a=AB):ydb a:=pix h
noncomputable def ntu:AV->Bool
 | .Tuple ..=>AC
 |_=>AB
noncomputable def nte:AV->Bool
 | .UnaryOp ..=>AC
 | .BoolOp ..=>AC
 | .IfExp ..=>AC
 | .Compare ..=>AC
 |_=>AB
theorem itr{a:AV}{env:B8}(h:nte a=AB):∀whole,isTrue a env whole=(do let v <- whole;standAt a.pos;holding [v] (truthy v)):=by
 cases a<;>first|exact λ_=>rfl|cases h
noncomputable def nca:AV->Bool
 | .Call ..=>AC
 |_=>AB
theorem yd1{a:AV}{f:AR}{env:B8}{w:Gw AG}(h:nca a=AB):attributeBase a f env w=w:=by
 cases a<;>first|rfl|cases h
def mOp(op:Dj)(o:BOp):Pr (∀S X,OpR X (binaryOp op) (rT2 S X (yE o))) :=
 match op,o with
 | .Add,.add=>ok (λ_ _=>znx)
 | .Sub,.sub=>ok (λ_ _=>zon)
 | .Mult,.mul=>ok (λ_ _=>znt)
 | .FloorDiv,.fdiv=>ok (λ_ _=>zlH)
 | .Mod,.mod=>ok (λ_ _=>znn)
 | .Pow,.pow=>ok (λ_ _=>znH)
 | .LShift,.shl=>ok (λ_ _=>zox)
 | .RShift,.shr=>ok (λ_ _=>zoO)
 | .BitAnd,.band=>ok (λ_ _=>zmA)
 | .BitOr,.bor=>ok (λ_ _=>znb)
 | .BitXor,.bxor=>ok (λ_ _=>zmT)
 |_,_=>AD
def mCm(op:Fb)(o:COp):Pr (∀m S X,yay m X.A->OpR X (compareOp op) (rT2 S X (yF o))) :=
 match op,o with
 | .Eq,.eq=>ok (λ_ _ _ r=>zpv r.units)
 | .NotEq,.ne=>ok (λ_ _ _ r=>zpo r.units)
 | .Lt,.lt=>ok (λ_ _ _ _=>zpG)
 | .LtE,.le=>ok (λ_ _ _ _=>zpK)
 | .Gt,.gt=>ok (λ_ _ _ _=>zpr)
 | .GtE,.ge=>ok (λ_ _ _ _=>zpn)
 | .In,.isin=>ok (λ_ _ _ _=>zpu)
 |_,_=>AD
noncomputable def ydV(sc:Bj)(x:AR):Bool:=match sc.names.lookup x with
 |some .local=>AB
 |some .cell=>AB
 |some .free=>AB
 |_=>AC
theorem zhK{sc:Bj}{x:AR}(h:ydV sc x=AB):Vis sc x:=by
 unfold ydV at h;split at h
 .exact .inl ‹_›
 .exact .inr (.inl ‹_›)
 .exact .inr (.inr ‹_›)
 .cases h
noncomputable def ydR(sc:Bj)(x:AR):Bool:=match sc.names.lookup x with
 |some .local=>AB
 |some .cell=>AB
 |_=>AC
theorem zic{sc:Bj}{x:AR}(h:ydR sc x=AB):Loc sc x:=by
 unfold ydR at h;split at h
 .exact .inl ‹_›
 .exact .inr ‹_›
 .cases h
noncomputable def pln(x:AR):Bool:=!(x == ("__debug__":AR)) && !(x == ("__classdict__":AR)) && !(x == ("__name__":AR))
theorem yby{x:AR}(h:pln x=AB):(x == ("__debug__":AR))=false:=by
 erw[pln,AK,Cp]at h;exact h.1.1
theorem ydW{x:AR}(h:pln x=AB):(x == ("__classdict__":AR))=false:=by
 erw[pln,AK,Cp]at h;exact h.1.2
theorem yez{x:AR}(h:pln x=AB):x ≠ "__name__":=by
 erw[pln,AK,Cp]at h;intro e;rw[e]at h;exact absurd h.2 (by decide)
def glB(κ:Kx)(x:AR):Bool:=decide (κ.sc.names.lookup x=AA .globalImplicit) && pln x
theorem zas{γ:Gs}{κ:Kx}{m:Nat}{S:Se}{X:Cx}(G:Good γ κ m S X){x:AR}(h:glB κ x=AB):Gl X x:=by
 erw[glB,AK,decide_eq_true_eq]at h;show X.env.scope.names.lookup x=_;rw[G.sc];exact h.1
theorem zbG{κ:Kx}{x:AR}(h:glB κ x=AB):pln x=true:=by
 erw[glB,AK]at h;exact h.2
def setB(κ:Kx)(i:Nat)(x:AR):Bool:=decide (κ.N[i]?=AA x) && decide κ.N.Nodup && ydR κ.sc x && (κ.own || decide (κ.sc.names.lookup x=AA .local)) && pln x
structure yeP(X:Cx)(i:Nat)(x:AR):Prop where
 d:X.N.Nodup
 i:X.N[i]?=AA x
 l:Loc X.env.scope x
 f:X.fn x=AB \/ X.env.scope.names.lookup x=AA .local
 p:pln x=AB
theorem zaW{γ:Gs}{κ:Kx}{m:Nat}{S:Se}{X:Cx}(G:Good γ κ m S X){i:Nat}{x:AR}(h:setB κ i x=AB):yeP X i x:=by
 erw[setB,AK,DL,decide_eq_true_eq]at h;let⟨⟨⟨⟨h1,h2⟩,h3⟩,h4⟩,h5⟩:=h;refine⟨by rw[G.n];exact h2,by rw[G.n];exact h1,by rw[G.sc];exact zic h3,?_,h5⟩;rcases h4 with h4|h4
 .exact .inl ((G.own h4).2.1 x)
 .exact .inr (by rw[G.sc];exact h4)
noncomputable def gFn(γ:Gs)(x:AR)(i:Nat):Pr (γ.g x=AA (.fn i)):=match h:γ.g x with
 |some (.fn j)=>if e:j=i then AA ⟨by subst e;rfl⟩else AD
 |_=>AD
section
variable {γ:Gs}{κ:Kx}{ca cb cc:Ce}{ces:Ces}
def ye3(v:PV)(e:AV):Pr (YE γ κ e (.cst v)) :=
 match e with
 | .Constant (.int i) _ _=>match v with
  | .int j=>an (ask (i=j)) λh=>ok (λ_ _ _ _=>by cases h;exact zkB)
  |_=>AD
 | .Constant (.bool i) _ _=>match v with
  | .bl j=>an (ask (i=j)) λh=>ok (λ_ _ _ _=>by cases h;exact zph)
  |_=>AD
 | .Constant .none _ _=>match v with
  | .non=>ok (λ_ _ _ _=>zn4)
  |_=>AD
 | .Constant (.str i) _ _=>match v with
  | .str j=>an (ask (i=j)) λh=>ok (λ_ _ _ _=>by cases h;exact zm8)
  |_=>AD
 |_=>AD
def yff(i:Nat)(e:AV):Pr (YE γ κ e (.var i)) :=
 match e with
 | .Name x _=>an (ask (κ.N[i]?=AA x/\ydV κ.sc x=AB/\pln x=AB)) λh=>ok (λ_ _ _ G=>zoB (by rw[G.n];exact h.1) (by rw[G.sc];exact zhK h.2.1) (yby h.2.2) (ydW h.2.2))
 |_=>AD
def yfz(o:BOp)(e:AV)(fa:∀x,Pr (YE γ κ x ca))(fb:∀x,Pr (YE γ κ x cb)):Pr (YE γ κ e (.bin o ca cb)) :=
 match e with
 | .BinOp a op b _ =>
  an (mOp op o) λho=>an (fa a) λha=>an (fb b) λhb=>ok (λm S X G=>zm4 (ho S X) (ha m S X G) (hb m S X G))
 |_=>AD
def ygC(e:AV)(fa:∀x,Pr (YE γ κ x ca)):Pr (YE γ κ e (.neg ca)) :=
 match e with
 | .UnaryOp .USub a _ =>
  an (fa a) λha=>ok (λm S X G=>zkZ (ha m S X G))
 |_=>AD
def yg5(e:AV)(fa:∀x,Pr (YE γ κ x ca)):Pr (YE γ κ e (.not ca)) :=
 match e with
 | .UnaryOp .Not a _ =>
  an (fa a) λha=>ok (λm S X G=>znG (ha m S X G))
 |_=>AD
def ygp(o:COp)(e:AV)(fa:∀x,Pr (YE γ κ x ca))(fb:∀x,Pr (YE γ κ x cb)):Pr (YE γ κ e (.cmp o ca cb)) :=
 match e with
 | .Compare a [op] [b] _ =>
  an (mCm op o) λho=>an (ask (nse b=AB)) λhs=>an (fa a) λha=>an (fb b) λhb=>ok (λm S X G=>zpc (ho _ S X G.room) (ha m S X G) (hb m S X G) (nmk hs))
 |_=>AD
def yeC(o:COp)(e:AV)(fa:∀x,Pr (YE γ κ x ca))(fb:∀x,Pr (YE γ κ x cb)):Pr (YT γ κ e (.cmp o ca cb)) :=
 match e with
 | .Compare a [op] [b] _ =>
  an (mCm op o) λho=>an (ask (nse b=AB)) λhs=>an (fa a) λha=>an (fb b) λhb=>ok (λm S X G=>zoH (ho _ S X G.room) (ha m S X G) (hb m S X G) (nmk hs))
 |_=>AD
theorem lmk{op op':Fb}{b c:AV}(h:nse c=AB):lastMarks [op,op'] [b,c]=false:=nmk h
def ygB(o p:COp)(e:AV)(fa:∀x,Pr (YE γ κ x ca))(fb:∀x,Pr (YE γ κ x cb))(fc:∀x,Pr (YE γ κ x cc)):Pr (YE γ κ e (.chain o p ca cb cc)) :=
 match e with
 | .Compare a [op,op'] [b,c] _ =>
  an (mCm op o) λho=>an (mCm op' p) λhp=>an (ask (nse c=AB)) λhs=>an (fa a) λha=>an (fb b) λhb=>an (fc c) λhc=>ok (λm S X G=>zjy (ho _ S X G.room) (hp _ S X G.room) (ha m S X G) (hb m S X G) (hc m S X G) (lmk hs))
 |_=>AD
def yer(o p:COp)(e:AV)(fa:∀x,Pr (YE γ κ x ca))(fb:∀x,Pr (YE γ κ x cb))(fc:∀x,Pr (YE γ κ x cc)):Pr (YT γ κ e (.chain o p ca cb cc)) :=
 match e with
 | .Compare a [op,op'] [b,c] _ =>
  an (mCm op o) λho=>an (mCm op' p) λhp=>an (ask (nse c=AB)) λhs=>an (fa a) λha=>an (fb b) λhb=>an (fc c) λhc=>ok (λm S X G=>zjU (ho _ S X G.room) (hp _ S X G.room) (ha m S X G) (hb m S X G) (hc m S X G) (lmk hs))
 |_=>AD
def ygs(e:AV)(fc:∀x,Pr (YT γ κ x cc))(fa:∀x,Pr (YE γ κ x ca))(fb:∀x,Pr (YE γ κ x cb)):Pr (YE γ κ e (.ite cc ca cb)) :=
 match e with
 | .IfExp c a b _ =>
  an (fc c) λhc=>an (fa a) λha=>an (fb b) λhb=>ok (λm S X G=>zof (hc m S X G) (ha m S X G) (hb m S X G))
 |_=>AD
def yf1(e:AV)(fa:∀x,Pr (YA γ κ x ces)):Pr (YE γ κ e (.tup ces)) :=
 match e with
 | .Tuple es _ _ =>
  an (fa es) λha=>ok (λm S X G=>zoJ (ha m S X G))
 |_=>AD
def ygb(e:AV)(fa:∀x,Pr (YA γ κ x ces)):Pr (YE γ κ e (.lst ces)) :=
 match e with
 | .List es _ =>
  an (fa es) λha=>ok (λm S X G=>zn3 (ha m S X G))
 |_=>AD
def yeK(e:AV)(fa:∀x,Pr (YA γ κ x ces)):Pr (YE γ κ e (.newl ces)) :=
 match e with
 | .List es _ =>
  an (fa es) λha=>ok (λm S X G=>zlu (ha m S X G))
 |_=>AD
def yej(t:Bool)(e:AV):Pr (YE γ κ e (.dict0 t)) :=
 match t,e with
 |true,.Dict [] [] _=>ok (λ_ _ _ _=>zij)
 |_,_=>AD
def mIdx(e:AV)(fa:∀x,Pr (YE γ κ x ca))(fb:∀x,Pr (YE γ κ x cb)):Pr (YE γ κ e (.idx ca cb)) :=
 match e with
 | .Subscript a b _ =>
  an (ask (nsl b=AB)) λhs=>an (fa a) λha=>an (fb b) λhb=>ok (λm S X G=>zng (ha m S X G) (hb m S X G) (pix hs))
 |_=>AD
def yga(e:AV)(fa:∀x,Pr (YE γ κ x ca))(fb:∀x,Pr (YO γ κ x cb))(fc:∀x,Pr (YO γ κ x cc)):Pr (YE γ κ e (.slc ca cb cc)) :=
 match e with
 | .Subscript a (.Slice l h AD _) _ =>
  an (fa a) λha=>an (fb l) λhb=>an (fc h) λhc=>ok (λm S X G=>zor (ha m S X G) (hb m S X G) (hc m S X G))
 |_=>AD
def yfo(c:Ce)(e:Option AV)(fa:∀x,Pr (YE γ κ x c)):Pr (YO γ κ e c) :=
 match e with
 |none=>match c with
  | .cst .non=>ok (λ_ _ _ _=>zmJ)
  |_=>AD
 |some a =>
  an (fa a) λha=>ok (λm S X G=>zlE (ha m S X G))
inductive Fs(γ:Gs)(κ:Kx):Ces->Type where
 | nil:Fs γ κ .nil
 | cons {c:Ce} {cs:Ces} (f:∀x,Pr (YE γ κ x c)) (r:Fs γ κ cs):Fs γ κ (.cons c cs)
def ya8:{ces:Ces}->Fs γ κ ces->(es:List AV)->Pr (YA γ κ es ces)
 |_,.nil,[]=>ok λ_ _ _ _=>zhy
 |_,.cons f r,a::es=>an (ask (nst a=AB)) λhs=>an (f a) λha=>an (ya8 r es) λhr=>ok λm S X G=>zeh (ha m S X G) (hr m S X G) (yak hs)
 |_,_,_=>AD
structure Sp2(γ:Gs)(κ:Kx)(ces:Ces)(np:Nat) where
 c1:Ces
 c2:Ces
 f1:Fs γ κ c1
 f2:Fs γ κ c2
 h:yW c1 c2=ces
 l:yc7 c1=np
def ycF:(np:Nat)->{ces:Ces}->Fs γ κ ces->Option (Sp2 γ κ ces np)
 |0,ces,F=>AA ⟨.nil,ces,.nil,F,rfl,rfl⟩
 |n+1,_,.cons f r=>match ycF n r with
  |some s=>AA ⟨.cons _ s.c1,s.c2,.cons f s.f1,s.f2,by rw[yW,s.h],by rw[yc7,s.l]⟩
  |none=>AD
 |_,_,_=>AD
structure It2(γ:Gs)(κ:Kx)(ces:Ces)(sh:List (Option Int))(kws:List Ca) where
 it:List (Sum Ce Int)
 h:yo it=ces
 s:it.map shC=sh
 k:∀m S X,Good γ κ m S X->PK X kws (tK S X it)
def ych:(sh:List (Option Int))->{ces:Ces}->Fs γ κ ces->(kws:List Ca)->Option (It2 γ κ ces sh kws)
 | [],_,.nil,[]=>AA ⟨[],rfl,rfl,λ_ _ _ _=>znd⟩
 |none::sh,.cons c _,.cons f r,⟨_,e,_⟩ :: kws=>match f e,ych sh r kws with
  |some h,AA q=>AA ⟨.inl c::q.it,by rw[yo,q.h],by rw[AL,q.s];rfl,λm S X G=>zpV (h.down m S X G) (q.k m S X G)⟩
  |_,_=>AD
 |some i::sh,.cons (.cst (.int j)) _,.cons _ r,kws=>if e:i=j then match ych sh r kws with
  |some q=>AA ⟨.inr i::q.it,by rw[yo,q.h,e],by rw[AL,q.s];rfl,λm S X G=>zpN (q.k m S X G)⟩
  |none=>AD
  else AD
 |_,_,_,_=>AD
noncomputable def kwN:List Ca->List AR
 | []=>[]
 | ⟨AA x,_,_⟩ :: r=>x::kwN r
 |_::r=>kwN r
noncomputable def kwB:List Ca->Bool
 | []=>AB
 | ⟨AA _,_,_⟩ :: r=>kwB r
 |_=>AC
theorem znD{pos:C5}{env:B8}:∀{kws:List Ca},kwB kws=AB->(backToKw pos (keywordEach kws env)).all (·.1.isSome)=AB/\(backToKw pos (keywordEach kws env)).filterMap (·.1)=kwN kws/\(backToKw pos (keywordEach kws env)).any (·.1.isNone)=AC
 | [],_=>⟨rfl,rfl,rfl⟩
 | ⟨AA x,e,_⟩ :: r,h=>by
  let⟨h1,h2,h3⟩:=znD (pos:=pos) (env:=env) (kws:=r) h;erw[backToKw]at h1 h2 h3 ⊢;erw[keywordEach,AL,Bo,Bz,Bu,h1,h2,h3,kwN];simp
def ygj(i:Nat)(F:Fs γ κ ces)(e:AV):Pr (YE γ κ e (.call i ces)) :=
 match e with
 | .Call (.Name x _) [] [] _=>match F with
  | .nil=>an (ask (glB κ x=AB)) λhg=>an (gFn γ x i) λhf=>ok λm S X G=>by
   let⟨f,fd,ps,h1,h2,h3,h4⟩:=G.glo.F x i hf;exact zkp h1 (G.room.mono (Ct m)) (zas G hg) h2 h3 h4 (yby (zbG hg))
  |_=>AD
 | .Call (.Name x _) (a::es) kws _=>an (ask (glB κ x=AB/\nst a=AB/\yb5 es=AB)) λhg =>
  match hx:γ.g x with
  |some (.fn j)=>match kws with
   | []=>an (ask (j=i)) λhj=>an (ya8 F (a::es)) λha=>ok λm S X G=>by
    subst hj;let⟨f,fd,ps,h1,h2,h3,h4⟩:=G.glo.F x j hx;exact zmU h1 (G.room.mono (Ct m)) (zas G hg.1) h2 h3 h4 (ha m S X G) (yby (zbG hg.1)) (yak hg.2.1) (stars hg.2.2)
   |_=>AD
  |some (.fnD j)=>match hk:γ.kb j (es.length+1) (kwN kws)with
   |none=>AD
   |some sh=>match ycF (es.length+1) F with
    |none=>AD
    |some s=>match ych sh s.f2 kws with
     |none=>AD
     |some q=>an (ask (kwB kws=AB/\j=i)) λhw=>an (ya8 s.f1 (a::es)) λha=>ok λm S X G=>by
      let⟨hw,rfl⟩:=hw;let⟨f,fd,ps,h1,h2,h3,h4⟩:=G.glo.Q x j _ _ sh hx hk;rw[<- s.h,<- q.h];rw[<- q.s]at h4;have w:=λ{pos}=>znD (pos:=pos) (env:=X.env) hw;exact zka h1 (G.room.mono (Ct m)) (zas G hg.1) h2 h3 h4 s.l (ha m S X G) (q.k m S X G) w.1 w.2.1 (yby (zbG hg.1)) (yak hg.2.1) (by
       rw[w.2.2,Gy];exact stars (es:=a::es) (by erw[yb5,Bo,hg.2.1,Da];exact hg.2.2))
  |_=>AD
 |_=>AD
abbrev yeU(b:Blt)(x:AR):Prop:=∀S X,X.calm=AB->(∃id,yar X (.builtin id) (rB S X b)/\bootBuiltins x=AA (.builtin id)) \/ ∃T,yar X (.type T) (rB S X b)/\bootBuiltins x=AA (.type T)
def ygd(b:Blt)(x:AR):Pr (yeU b x) :=
 match b with
 | .len=>an (ask (x="len")) λh=>ok λ_ _ _=>.inl ⟨_,znQ,h ▸ zo3⟩
 | .min=>an (ask (x="min")) λh=>ok λ_ _ c=>.inl ⟨_,zoK c,h ▸ zo6⟩
 | .max=>an (ask (x="max")) λh=>ok λ_ _ c=>.inl ⟨_,zn2 c,h ▸ zn7⟩
 | .tuple=>an (ask (x="tuple")) λh=>ok λ_ _ _=>.inr ⟨_,zjA,h ▸ zgL⟩
 | .all=>an (ask (x="all")) λh=>ok λ_ _ c=>.inl ⟨_,zm3 c,h ▸ znT⟩
 | .sum=>an (ask (x="sum")) λh=>ok λ_ _ c=>.inl ⟨_,znm c,h ▸ znU⟩
 |_=>AD
def yhd(b:Blt)(F:Fs γ κ ces)(e:AV):Pr (YE γ κ e (.blt b ces)) :=
 match e with
 | .Call (.Name x _) (a::es) [] _=>an (ask (glB κ x=AB/\nst a=AB/\yb5 es=AB/\γ.b x=AB)) λhg=>an (ygd b x) λhb=>an (ya8 F (a::es)) λha=>ok λm S X G=>by
  rcases hb S X G.calm with⟨id,h1,h2⟩|⟨T,h1,h2⟩
  .exact zoS h1 (zas G hg.1) (G.glo.B x hg.2.2.2) h2 (ha m S X G) (yez (zbG hg.1)) (yby (zbG hg.1)) (yak hg.2.1) (stars hg.2.2.1)
  .exact zlm h1 (zas G hg.1) (G.glo.B x hg.2.2.2) h2 (ha m S X G) (yez (zbG hg.1)) (yby (zbG hg.1)) (yak hg.2.1) (stars hg.2.2.1)
 |_=>AD
def yfI(F:Fs γ κ ces)(e:AV):Pr (YE γ κ e (.blt .rev ces)) :=
 match e,F with
 | .Subscript a (.Slice AD AD (AA (.UnaryOp .USub (.Constant (.int i) _ _) _)) _) _,.cons f .nil=>an (ask (i=1)) λhi=>an (f a) λha=>ok λm S X G=>by
  subst hi;exact zn0 (ha m S X G) (zkZ zkB)
 |_,_=>AD
def ygU(b:Blt)(F:Fs γ κ ces)(e:AV):Pr (YE γ κ e (.blt b ces)) :=
 match b with
 | .rev=>yfI F e
 |b=>yhd b F e
def tyB(t:Ty)(x:AR):Pr (ydn t=AB/\bootBuiltins x=AA (.type (tyN t))) :=
 match t with
 | .int=>an (ask (x="int")) λh=>ok ⟨rfl,h ▸ zoL⟩
 | .bool=>an (ask (x="bool")) λh=>ok ⟨rfl,h ▸ zlG⟩
 | .str=>an (ask (x="str")) λh=>ok ⟨rfl,h ▸ zo7⟩
 | .tuple=>an (ask (x="tuple")) λh=>ok ⟨rfl,h ▸ zgL⟩
 |_=>AD
def yfZ(ts:List Ty)(e:AV)(fa:∀x,Pr (YE γ κ x ca)):Pr (YE γ κ e (.isi ca ts)) :=
 match ts,e with
 | [t],.Call (.Name n _) [a,.Name x _] [] _=>an (ask (n="isinstance"/\glB κ n=AB/\γ.b n=AB/\glB κ x=AB/\γ.b x=AB/\γ.t t=AB/\nst a=AB)) λh=>an (tyB t x) λht=>an (fa a) λha=>ok λm S X G=>by
  let⟨rfl,h1,h2,h3,h4,h5,h6⟩:=h;exact zow (G.glo.T t h5) ht.1 (zas G h1) (G.glo.B _ h2) (zas G h3) (G.glo.B _ h4) ht.2 (ha m S X G) (yez (zbG h3)) (yby (zbG h3)) (yak h6) rfl
 |_,_=>AD
mutual
noncomputable def yeq:(a b:PV)->Pr (a=b)
 | .non,.non=>ok rfl
 | .bl a,.bl b=>an (ask (a=b)) λh=>ok (by rw[h])
 | .int a,.int b=>an (ask (a=b)) λh=>ok (by rw[h])
 | .str a,.str b=>an (ask (a=b)) λh=>ok (by rw[h])
 | .tp k a,.tp j b=>an (ask (k=j)) λh=>an (ycV a b) λg=>ok (by rw[h,g])
 | .lst a,.lst b=>an (ycV a b) λg=>ok (by rw[g])
 |_,_=>AD
noncomputable def ycV:(a b:List PV)->Pr (a=b)
 | [],[]=>ok rfl
 |a::x,b::y=>an (yeq a b) λh=>an (ycV x y) λg=>ok (by rw[h,g])
 |_,_=>AD
end
def eqD:(a b:List (AR×PV))->Pr (a=b)
 | [],[]=>ok rfl
 | (k,a)::x,(j,b)::y=>an (ask (k=j)) λe=>an (yeq a b) λh=>an (eqD x y) λg=>ok (by rw[e,h,g])
 |_,_=>AD
def yfK(v:PV)(e:AV):Pr (YE γ κ e (.cst v)) :=
 match e with
 | .Name x _=>match h:γ.g x with
  |some (.cst u)=>an (ask (glB κ x=AB)) λhg=>an (yeq u v) λhv=>ok λm S X G=>by
   subst hv;rcases G.glo.C x u h with q|⟨i,rfl,q⟩
   .exact zpq (zas G hg) q (yby (zbG hg))
   .exact zoY (zas G hg) q (yby (zbG hg))
  |_=>AD
 |e=>ye3 v e
def yfJ(D:List (AR×PV))(e:AV)(fb:∀x,Pr (YE γ κ x cb)):Pr (YE γ κ e (.dix D cb)) :=
 match e with
 | .Subscript (.Name x _) b _=>match h:γ.g x with
  |some (.dct E)=>an (ask (glB κ x=AB/\nsl b=AB)) λhg=>an (eqD E D) λhv=>an (fb b) λhb=>ok λm S X G=>by
   subst hv;exact zo1 (zas G hg.1) (G.glo.D x E h) (hb m S X G) (nos hg.2) (yby (zbG hg.1))
  |_=>AD
 |_=>AD
def yhb(D:List (AR×PV))(e:AV)(fa:∀x,Pr (YE γ κ x ca)):Pr (YE γ κ e (.din ca D)) :=
 match e with
 | .Compare a [.In] [.Name x _] _=>match h:γ.g x with
  |some (.dct E)=>an (ask (glB κ x=AB)) λhg=>an (eqD E D) λhv=>an (fa a) λha=>ok λm S X G=>by
   subst hv;exact zoj (zas G hg) (G.glo.D x E h) (ha m S X G) rfl (yby (zbG hg))
  |_=>AD
 |_=>AD
theorem ydN{pos:C5}{env:B8}:∀{es:List AV},yb5 es=AB->((backTo pos (starEach es env)).all λx=>!x.1)=AB
 | [],_=>rfl
 |a::es,h=>by
  erw[yb5,Bo,AK]at h;have:=ydN (pos:=pos) (env:=env) (es:=es) h.2;erw[backTo]at this ⊢;rw[yak h.1,AL,Bo,this];rfl
theorem zlb{o:AV}{n:AR}{ap pos:C5}{es:List AV}{env:B8}(hb:nca o=AB)(hs:yb5 es=AB)(hn:es.length<30)(hl:(ap.endLine == pos.line)=AB) :
  eval (.Call (.Attribute o n ap) es [] pos) env=(do
   let ov <- eval o env
   standAt ap.atName
   let (f,first) <- holding [ov] (getMethod ov n (do return (<- importBound o env).getD AB))
   callWith pos f first (backTo pos (starEach es env)) (backToKw pos (keywordEach [] env))):=by
 have hf:methodCallForm (es.length+([]:List Ca).length) (backTo pos (starEach es env)) (backToKw pos (keywordEach [] env))=true:=by
  erw[methodCallForm,ydN hs,Da];simp[backToKw,keywordEach,hn]
 rw[arm_eval_Call,yd1 hb];erw[methodCall,calleeOf,methodCallPos,hf,hl,if_true,Bool.not_true,Bool.or_true,pure_bind]
def ygg(c:Nat)(f:AR)(e:AV)(fa:∀x,Pr (YE γ κ x ca)):Pr (YE γ κ e (.fld c ca f)) :=
 match e with
 | .Attribute a g _=>an (ask (g=f/\γ.fl c f=AB/\nca a=AB)) λh=>an (fa a) λha=>ok λm S X G=>by
  let⟨rfl,h1,h2⟩:=h;exact znc (G.glo.A c g h1).1 (G.glo.A c g h1).2 (ha m S X G) (yd1 h2)
 |_=>AD
def yg9(c i:Nat)(F:Fs γ κ ces)(e:AV):Pr (YE γ κ e (.new c i ces)) :=
 match e with
 | .Call (.Name x _) (a::es) [] _=>match h:γ.g x with
  |some (.cls c' i')=>an (ask (c'=c/\i'=i/\glB κ x=AB/\nst a=AB/\yb5 es=AB)) λhg=>an (ya8 F (a::es)) λha=>ok λm S X G=>by
   let⟨rfl,rfl,h1,h2,h3⟩:=hg;let⟨q,f,fd,ps,q1,q2,q3⟩:=G.glo.N x c' i' h;exact zoE q1 q2 G.room (zas G h1) q q3 (ha m S X G) (yby (zbG h1)) (yak h2) (stars h3)
  |_=>AD
 |_=>AD
def yfw(c i:Nat)(n:AR)(F:Fs γ κ ces)(e:AV)(fa:∀x,Pr (YE γ κ x ca)):Pr (YE γ κ e (.mcl c i n ca ces)) :=
 match e with
 | .Call (.Attribute (.Name x p) n' ap) [] [] pos=>match F with
  | .nil=>an (ask (n'=n/\γ.me c n=AA i/\(ap.endLine == pos.line)=AB)) λh=>an (fa (.Name x p)) λho=>ok λm S X G=>by
   let⟨rfl,h1,h4⟩:=h;let⟨q,f,fd,ps,q1,q2,q3⟩:=G.glo.M c n' i h1;exact zmY q q1 q2 (G.room.mono (Ct m)) q3 (ho m S X G) (zlb rfl rfl (Nat.zero_lt_succ _) h4)
  |_=>AD
 | .Call (.Attribute (.Name x p) n' ap) (a::es) [] pos=>an (ask (n'=n/\γ.me c n=AA i/\nst a=AB/\yb5 es=AB/\(ap.endLine == pos.line)=AB/\(a::es).length<30)) λh=>an (fa (.Name x p)) λho=>an (ya8 F (a::es)) λha=>ok λm S X G=>by
  let⟨rfl,h1,h2,h3,h4,h5⟩:=h;let⟨q,f,fd,ps,q1,q2,q3⟩:=G.glo.M c n' i h1;exact zo4 q q1 q2 (G.room.mono (Ct m)) q3 (ho m S X G) (ha m S X G) (yak h2) (stars h3) (zlb rfl (by erw[yb5,Bo,h2,Da];exact h3) h5 h4)
 |_=>AD
theorem yfQ{pos:C5}{env:B8}{b:AV}(h:nst b=AB):((backTo pos (starEach [b] env)).all (λx=>!x.1) && (backToKw pos (keywordEach [] env)).all (λx=>x.1.isSome) && decide (([b]:List AV).length+([]:List Ca).length+(if ([]:List Ca).isEmpty then 0 else 1)<30))=true:=by
 rw[yak h];rfl
def yfO(k:Mth)(F:Fs γ κ ces)(e:AV)(fa:∀x,Pr (YE γ κ x ca)):Pr (YE γ κ e (.mth k ca ces)) :=
 match k,e,F with
 | .append,.Call (.Attribute a n ap) [b] [] pos,.cons fb .nil=>an (ask (n="append"/\nca a=AB/\nst b=AB/\(ap.endLine == pos.line)=AB)) λh=>an (fa a) λha=>an (fb b) λhb=>ok λm S X G=>by
  let⟨rfl,h1,h2,h3⟩:=h;exact zi6 (ha m S X G) (hb m S X G) (yak h2) (yd1 h1) h3 (yfQ h2)
 | .get,.Call (.Attribute a n ap) [b,c] [] pos,.cons fb (.cons fc .nil)=>an (ask (n="get"/\nca a=AB/\nst b=AB/\nst c=AB/\(ap.endLine == pos.line)=AB)) λh=>an (fa a) λha=>an (fb b) λhb=>an (fc c) λhc=>ok λm S X G=>by
  let⟨rfl,h1,h2,h4,h3⟩:=h;exact zpb (zlx G.room) (ha m S X G) (hb m S X G) (hc m S X G) ⟨yd1 h1,by rw[yak h2,yak h4];rfl,h3,by rw[yak h2,yak h4];rfl⟩
 |_,_,_=>AD
end
structure Ev(γ:Gs)(c:Ce) where
 e:∀κ x,Pr (YE γ κ x c)
 t:∀κ x,Pr (YT γ κ x c)
 w:∀κ op l pos,Pr (YW γ κ (.BoolOp op l pos) c)
section
variable {γ:Gs}{ca cb cc:Ce}
def w1{c:Ce}(t:∀κ x,Pr (YT γ κ x c))(κ:Kx)(op:HK)(l:List AV)(pos:C5):Pr (YW γ κ (.BoolOp op l pos) c) :=
 match op,l with
 | .And,[a]=>an (t κ a) λh=>ok λm S X G=>zls (h m S X G)
 | .Or,[a]=>an (t κ a) λh=>ok λm S X G=>zns (h m S X G)
 |_,_=>AD
def plT{c:Ce}(e:∀κ x,Pr (YE γ κ x c))(κ:Kx)(x:AV):Pr (YT γ κ x c):=an (ask (nte x=AB)) λh=>an (e κ x) λhe=>ok λm S X G=>zoa (he m S X G) (itr h)
def plain{c:Ce}(e:∀κ x,Pr (YE γ κ x c)):Ev γ c:=⟨e,plT e,w1 (plT e)⟩
def yc5{c:Ce}(e:∀κ x,Pr (YE γ κ x c))(t:∀κ x,Pr (YT γ κ x c)):Ev γ c:=⟨e,t,w1 t⟩
def ygE(A:Ev γ ca)(κ:Kx)(e:AV):Pr (YT γ κ e (.not ca)) :=
 match e with
 | .UnaryOp .Not a _=>an (A.t κ a) λh=>ok λm S X G=>zos (h m S X G)
 |_=>AD
def ygZ(A:Ev γ ca)(B:Ev γ cb)(κ:Kx)(e:AV):Pr (YE γ κ e (.and ca cb)) :=
 match e with
 | .BoolOp .And (a::b::[]) _=>an (A.e κ a) λha=>an (B.e κ b) λhb=>ok λm S X G=>zkU (ha m S X G) (zkI (hb m S X G))
 | .BoolOp .And (a::b::c::r) p=>an (A.e κ a) λha=>an (B.e κ (.BoolOp .And (b::c::r) p)) λhb=>ok λm S X G=>zkU (ha m S X G) (hb m S X G)
 |_=>AD
def orE(A:Ev γ ca)(B:Ev γ cb)(κ:Kx)(e:AV):Pr (YE γ κ e (.or ca cb)) :=
 match e with
 | .BoolOp .Or (a::b::[]) _=>an (A.e κ a) λha=>an (B.e κ b) λhb=>ok λm S X G=>znO (ha m S X G) (zkI (hb m S X G))
 | .BoolOp .Or (a::b::c::r) p=>an (A.e κ a) λha=>an (B.e κ (.BoolOp .Or (b::c::r) p)) λhb=>ok λm S X G=>znO (ha m S X G) (hb m S X G)
 |_=>AD
def yeT(A:Ev γ ca)(B:Ev γ cb)(κ:Kx)(op:HK)(l:List AV)(pos:C5):Pr (YW γ κ (.BoolOp op l pos) (.and ca cb)) :=
 match op,l with
 | .And,a::b::r=>an (A.t κ a) λha=>an (B.w κ .And (b::r) pos) λhb=>ok λm S X G=>zm0 (ha m S X G) (hb m S X G)
 |_,_=>AD
def orW(A:Ev γ ca)(B:Ev γ cb)(κ:Kx)(op:HK)(l:List AV)(pos:C5):Pr (YW γ κ (.BoolOp op l pos) (.or ca cb)) :=
 match op,l with
 | .Or,a::b::r=>an (A.t κ a) λha=>an (B.w κ .Or (b::r) pos) λhb=>ok λm S X G=>zpz (ha m S X G) (hb m S X G)
 |_,_=>AD
def ptW{c:Ce}(w:∀κ op l pos,Pr (YW γ κ (.BoolOp op l pos) c))(κ:Kx)(e:AV):Pr (YT γ κ e c) :=
 match e with
 | .BoolOp op l p=>an (w κ op l p) λh=>ok λm S X G=>PW.pt (h m S X G)
 |_=>AD
def yfr{c:Ce}(t:∀κ x,Pr (YT γ κ x c))(w:∀κ op l pos,Pr (YW γ κ (.BoolOp op l pos) c))(κ:Kx)(op:HK)(l:List AV)(pos:C5):Pr (YW γ κ (.BoolOp op l pos) c) :=
 match l with
 | [a]=>w1 t κ op [a] pos
 |l=>w κ op l pos
def yeS(A:Ev γ ca)(B:Ev γ cb):Ev γ (.and ca cb):=⟨ygZ A B,ptW (yeT A B),yfr (ptW (yeT A B)) (yeT A B)⟩
def yf5(A:Ev γ ca)(B:Ev γ cb):Ev γ (.or ca cb):=⟨orE A B,ptW (orW A B),yfr (ptW (orW A B)) (orW A B)⟩
end
abbrev YI(γ:Gs)(κ:Kx)(tg l:AV)(c:Cit):Prop:=∀m S X,Good γ κ m S X->PI X tg l (tI S X c)
abbrev YG(γ:Gs)(κ:Kx)(tg:AV)(c:Tg):Prop:=∀m S X,Good γ κ m S X->PG X tg (tG S X c)
section
variable {γ:Gs}{κ:Kx}{ca cb cc ce:Ce}{ci:Cit}
def ygY(e:∀x,Pr (YE γ κ x ca))(tg l:AV):Pr (YI γ κ tg l (.seq ca)):=an (e l) λh=>ok λm S X G=>zoi (h m S X G)
def iR1(fa:∀x,Pr (YE γ κ x ca))(tg l:AV):Pr (YI γ κ tg l (.range1 ca)) :=
 match l with
 | .Call (.Name x _) [a] [] _=>an (ask (x="range"/\glB κ x=AB/\γ.b x=AB/\nst a=AB)) λh=>an (fa a) λha=>ok λm S X G=>by
  let⟨rfl,h1,h2,h3⟩:=h;exact zi0 (zas G h1) (G.glo.B _ h2) (ha m S X G) (yak h3)
 |_=>AD
def yen(fa:∀x,Pr (YE γ κ x ca))(tg l:AV):Pr (YI γ κ tg l (.enum ca)) :=
 match tg,l with
 | .Tuple _ _ _,.Call (.Name x _) [a] [] _=>an (ask (x="enumerate"/\glB κ x=AB/\γ.b x=AB/\nst a=AB)) λh=>an (fa a) λha=>ok λm S X G=>by
  let⟨rfl,h1,h2,h3⟩:=h;exact zmZ (zas G h1) (G.glo.B _ h2) (ha m S X G) (yak h3)
 |_,_=>AD
def yf9(fa:∀x,Pr (YE γ κ x ca))(fb:∀x,Pr (YE γ κ x cb))(tg l:AV):Pr (YI γ κ tg l (.zip ca cb)) :=
 match tg,l with
 | .Tuple _ _ _,.Call (.Name x _) [a,b] [] _=>an (ask (x="zip"/\glB κ x=AB/\γ.b x=AB/\nst a=AB/\nst b=AB)) λh=>an (fa a) λha=>an (fb b) λhb=>ok λm S X G=>by
  let⟨rfl,h1,h2,h3,h4⟩:=h;exact zog (zas G h1) (G.glo.B _ h2) (ha m S X G) (hb m S X G) (by rw[yak h3,yak h4];rfl) (yak h4)
 |_,_=>AD
def gNm(κ:Kx):(l:List Nat)->(es:List AV)->Pr (∀m S X,Good γ κ m S X->PGs X es (gNs l)/\(assignEach es X.env).length=l.length/\(assignEach es X.env).findIdx? (·.1)=AD)
 | [],[]=>ok λ_ _ _ _=>⟨zl5,rfl,rfl⟩
 |i::l,.Name x _::es=>an (ask (setB κ i x=AB)) λh=>an (gNm κ l es) λhr=>ok λm S X G=>by
  have s:=zaW G h;let⟨h1,h2,h3⟩:=hr m S X G;refine⟨zj9 s.d s.i s.l h1 s.f,?_,?_⟩
  .simp only[assignEach,AZ,h2]
  .simp only[assignEach,List.findIdx?_cons,h3];rfl
 |_,_=>AD
def mTg(ct:Tg)(tg:AV):Pr (YG γ κ tg ct) :=
 match ct,tg with
 | .n i,.Name x _=>an (ask (setB κ i x=AB)) λh=>ok λm S X G=>let s:=zaW G h;zlO s.d s.i s.l s.f
 | .t l,.Tuple es _ _=>an (gNm κ l es) λh=>ok λm S X G=>znL G.calm (h m S X G).1 (h m S X G).2.1 (h m S X G).2.2
 |_,_=>AD
noncomputable def tgN:AV->List AR
 | .Name x _=>[x]
 | .Tuple es _ _=>es.filterMap fun
  | .Name x _=>AA x
  |_=>AD
 |_=>[]
def ydD(N:List AR)(sl:List (Option Nat))(tg:AV):List Str:=tgN tg++(sl.drop (tgN tg).length).filterMap λo=>o.bind λj=>N[j]?
noncomputable def ycp(sc so:Bj):Scope:={ sc with names:=sc.names.map λ(n,k)=>if (k == Cn && so.kind == .function && so.names.lookup n == AA .cell)then(n,Fd)else(n,k) }
noncomputable def yal(N:List AR)(so sc:Bj)(NC:List AR)(sl:List (Option Nat)):Bool :=
 decide (sc.kind=.function) && (sc.names.all λy=>y.2 != .local || decide (sc.names.lookup y.1=AA .local)) && (sc.names.all λy=>y.2 != .cell) && (sc.names.all λy=>y.2 != .free || decide (so.names.lookup y.1=AA .cell)) &&
  ((NC.zip sl).all λp=>p.2.all λj=>decide (N[j]?=AA p.1/\sc.names.lookup p.1=AA .free)) && decide (sl.length=NC.length)
theorem zjq{X:Cx}{sc:Bj}{NC:List AR}{sl:List (Option Nat)}(h:yal X.N X.env.scope sc NC sl=AB):yao X sc NC sl:=by
 erw[yal,AK,decide_eq_true_eq,Bg,DL,bne_iff_ne,ne_eq]at h;let⟨⟨⟨⟨⟨h1,h2⟩,h3⟩,h4⟩,h5⟩,h6⟩:=h;exact ydh _ _ rfl rfl h1 (λy hy e=>(h2 y hy).resolve_left λz=>z e) h3 (λy hy e=>(h4 y hy).resolve_left λz=>z e) (λp hp=>by simpa using h5 p hp) h6
theorem Good.comp{m:Nat}{S:Se}{X:Cx}(G:Good γ κ m S X)(sc:Bj)(NC:List AR)(j:CI):Good γ ⟨NC,ycp sc κ.sc,AC⟩ m S (cxC X sc NC j):=by
 refine⟨rfl,?_,G.calm,G.room,(λh=>nomatch h),⟨G.glo.F,G.glo.Q,G.glo.C,G.glo.D,G.glo.E,G.glo.N,G.glo.B,G.glo.T,G.glo.A,G.glo.M,λy D h=>let ⟨fa,fdd,ps,M,d⟩:=G.glo.K y D h;⟨fa,fdd,ps,⟨M.F,M.kp,M.b⟩,d⟩⟩⟩;show relabel sc X.env=_;rw[<- G.sc];rfl
def ygw(c:Ce)(f:∀x,Pr (YT γ κ x c))(ifs:List AV):Pr (∀m S X,Good γ κ m S X->PTs X ifs (tT0 S X.K c)) :=
 match ifs with
 | []=>match c with
  | .cst (.bl AB)=>ok λ_ _ _ _=>zjF
  |_=>AD
 | [a]=>an (f a) λh=>ok λm S X G=>zmw rfl (h m S X G)
 |_=>AD
structure ycP(γ:Gs)(κ:Kx)(sl:List (Option Nat))(ct:Tg)(ci:Cit)(cc ce:Ce)(elt tg it:AV)(ifs:List AV)(sc:Bj):Prop where
 q:∀m S X,Good γ κ m S X->∃NC,yao X sc NC sl/\PI X tg it (tI S X ci)/\(∀j,PG (cxC X sc NC j) tg (tG0 S X.K ct))/\(∀j,PTs (cxC X sc NC j) ifs (tT0 S X.K cc))/\∀j,PE (cxC X sc NC j) elt (tE0 S X.K ce)
 f:yaC ct sl=AB
 s:nse it=AB
def mCo(sl:List (Option Nat))(ct:Tg)(fi:∀tg l,Pr (YI γ κ tg l ci))(C:Ev γ cc)(E:Ev γ ce)(elt tg it:AV)(ifs:List AV)(sc:Bj):Pr (ycP γ κ sl ct ci cc ce elt tg it ifs sc) :=
 an (ask (yal κ.N κ.sc sc (ydD κ.N sl tg) sl=AB/\yaC ct sl=AB/\nse it=AB)) λh=>an (fi tg it) λhi=>an (mTg (γ:=γ) (κ:=⟨ydD κ.N sl tg,ycp sc κ.sc,AC⟩) ct tg) λhg =>
  an (ygw (γ:=γ) (κ:=⟨ydD κ.N sl tg,ycp sc κ.sc,AC⟩) cc (C.t _) ifs) λht=>an (E.e ⟨ydD κ.N sl tg,ycp sc κ.sc,AC⟩ elt) λhe=>ok ⟨λm S X G=>⟨ydD κ.N sl tg,by
   rw[<- G.n,<- G.sc]at h;rw[<- G.n];exact zjq h.1,hi m S X G,λj=>zmD rfl (hg m S _ (G.comp sc _ j)),λj=>ht m S _ (G.comp sc _ j),λj=>zlf rfl (he m S _ (G.comp sc _ j))⟩,h.2.1,h.2.2⟩
def yeY(sl:List (Option Nat))(ct:Tg)(fi:∀tg l,Pr (YI γ κ tg l ci))(C:Ev γ cc)(E:Ev γ ce)(e:AV):Pr (YE γ κ e (.comp sl ct ci cc ce)) :=
 match e with
 | .ListComp elt [⟨tg,it,ifs,0⟩] sc _=>an (mCo sl ct fi C E elt tg it ifs sc) λh=>ok λm S X G=>by
  let⟨NC,h1,h2,h3,h4,h5⟩:=h.q m S X G;exact zlC G.calm h1 h.f h2 h3 h4 h5 (fse h.s)
 |_=>AD
end
section
variable {γ:Gs}{κ:Kx}
end
mutual
noncomputable def ch(γ:Gs):(c:Ce)->Ev γ c
 | .cst v=>plain λκ x=>yfK v x
 | .var i=>plain λκ x=>yff i x
 | .bin o a b=>plain λκ x=>yfz o x ((ch γ a).e κ) ((ch γ b).e κ)
 | .neg a=>plain λκ x=>ygC x ((ch γ a).e κ)
 | .not a=>yc5 (λκ x=>yg5 x ((ch γ a).e κ)) (ygE (ch γ a))
 | .and a b=>yeS (ch γ a) (ch γ b)
 | .or a b=>yf5 (ch γ a) (ch γ b)
 | .cmp o a b=>yc5 (λκ x=>ygp o x ((ch γ a).e κ) ((ch γ b).e κ)) (λκ x=>yeC o x ((ch γ a).e κ) ((ch γ b).e κ))
 | .chain o p a b c=>yc5 (λκ x=>ygB o p x ((ch γ a).e κ) ((ch γ b).e κ) ((ch γ c).e κ)) (λκ x=>yer o p x ((ch γ a).e κ) ((ch γ b).e κ) ((ch γ c).e κ))
 | .ite c a b=>plain λκ x=>ygs x ((ch γ c).t κ) ((ch γ a).e κ) ((ch γ b).e κ)
 | .tup es=>plain λκ x=>yf1 x (ya8 (chs γ es κ))
 | .lst es=>plain λκ x=>ygb x (ya8 (chs γ es κ))
 | .newl es=>plain λκ x=>yeK x (ya8 (chs γ es κ))
 | .dict0 t=>plain λκ x=>yej t x
 | .idx a i=>plain λκ x=>mIdx x ((ch γ a).e κ) ((ch γ i).e κ)
 | .slc a l h=>plain λκ x=>yga x ((ch γ a).e κ) (λo=>yfo l o ((ch γ l).e κ)) (λo=>yfo h o ((ch γ h).e κ))
 | .call f es=>plain λκ x=>ygj f (chs γ es κ) x
 | .blt b es=>plain λκ x=>ygU b (chs γ es κ) x
 | .mth k o es=>plain λκ x=>yfO k (chs γ es κ) x ((ch γ o).e κ)
 | .isi a ts=>plain λκ x=>yfZ ts x ((ch γ a).e κ)
 | .comp sl tg it c e=>plain λκ x=>yeY sl tg (chi γ it κ) (ch γ c) (ch γ e) x
 | .frz a=>plain λκ x=>an ((ch γ a).e κ x) λh=>ok λm S X G=>zoR (h m S X G)
 | .nope=>plain λκ x=>ok λ_ _ _ _=>zmH
 | .dix D a=>plain λκ x=>yfJ D x ((ch γ a).e κ)
 | .din a D=>plain λκ x=>yhb D x ((ch γ a).e κ)
 | .fld c a f=>plain λκ x=>ygg c f x ((ch γ a).e κ)
 | .new c i es=>plain λκ x=>yg9 c i (chs γ es κ) x
 | .mcl c i n o es=>plain λκ x=>yfw c i n (chs γ es κ) x ((ch γ o).e κ)
noncomputable def chs(γ:Gs):(cs:Ces)->(κ:Kx)->Fs γ κ cs
 | .nil,_=>.nil
 | .cons c cs,κ=>.cons (λx=>(ch γ c).e κ x) (chs γ cs κ)
noncomputable def chi(γ:Gs):(c:Cit)->(κ:Kx)->∀tg l,Pr (YI γ κ tg l c)
 | .seq a,κ=>ygY ((ch γ a).e κ)
 | .range1 a,κ=>iR1 ((ch γ a).e κ)
 | .enum a,κ=>yen ((ch γ a).e κ)
 | .zip a b,κ=>yf9 ((ch γ a).e κ) ((ch γ b).e κ)
 |_,_=>λ_ _=>AD
end
section
variable {γ:Gs}{κ:Kx}{ca cb cc ce:Ce}{ci:Cit}{ct:Tg}{cs cs':Css}{ces:Ces}
noncomputable def swB(so:Bj)(x:AR)(px pos:C5)(sc:Bj):Bool:=(if so.kind.isAnnotationScope then EV else so.kind) == .function && so.names.lookup x == AA .local && px.line == pos.line && !(sc.names.any λ(n,k)=>n == x && (k == .local || k == .cell))
theorem ygT{elt:AV}{gs:List Comprehension}{sc:Bj}{pos px:C5}{x:AR}{l:Nat}{env:B8}:swapsWith (.ListComp elt gs sc pos) (AA (.Name x px)) l env=pure (swB env.scope x px pos sc):=rfl
def yeE(f:∀x,Pr (YE γ κ x ca))(s:CC):Pr (YS γ κ s (.expr ca)) :=
 match s with
 | .Expr a _=>an (ask (nco a=AB)) λhs=>an (f a) λh=>ok λm S X G=>zmk (h m S X G) (swp hs)
 |_=>AD
def yfd(i:Nat)(f:∀x,Pr (YE γ κ x ca))(s:CC):Pr (YS γ κ s (.asg (.n i) ca)) :=
 match s with
 | .Assign [.Name x _] a _=>an (ask (nco a=AB/\setB κ i x=AB)) λhs=>an (f a) λh=>ok λm S X G=>let q:=zaW G hs.2;zno q.d q.i q.l (h m S X G) (swp hs.1) q.f
 |_=>AD
def yeN(i:Nat)(sl:List (Option Nat))(ct:Tg)(fi:∀tg l,Pr (YI γ κ tg l ci))(C:Ev γ cc)(E:Ev γ ce)(s:CC):Pr (YS γ κ s (.asg (.n i) (.comp sl ct ci cc ce))) :=
 match s with
 | .Assign [.Name x px] (.ListComp elt [⟨tg,it,ifs,0⟩] sc p) _=>an (ask (setB κ i x=AB/\swB κ.sc x px p sc=AB)) λhs=>an (mCo sl ct fi C E elt tg it ifs sc) λh=>ok λm S X G=>by
  let⟨NC,h1,h2,h3,h4,h5⟩:=h.q m S X G;have q:=zaW G hs.1;exact zlR q.d q.i q.l G.calm h1 h.f h2 h3 h4 h5 (by rw[ygT,G.sc,hs.2]) (fse h.s) q.f
 |_=>AD
theorem yfc{a:AV}(h:nst a=AB):(match (generalizing:=false) a with | .Starred _ _=>AB|_=>AC)=false:=by
 revert h;cases a<;>intro h<;>first|rfl|cases h
def swD(so:Bj)(x y:AR)(px py:C5)(a b:AV):Bool:=(if so.kind.isAnnotationScope then EV else so.kind) == .function && so.names.lookup x == AA .local && so.names.lookup y == AA .local && py.line == px.line && nst a && nst b && !(x == y) && !(foldedForSure 8 a && foldedForSure 8 b) && !(constantsAlone 8 a && constantsAlone 8 b)
theorem ygr{x y:AR}{px py pt pt2:C5}{kt k2:Nat}{a b:AV}{env:B8}(h:swD env.scope x y px py a b=AB) :
  swappedStores [.Tuple [.Name x px,.Name y py] kt pt] (.Tuple [a,b] k2 pt2) env=pure (AA [x,y]):=by
 erw[swD,AK,Cp]at h;let⟨⟨⟨⟨⟨⟨⟨⟨h1,h2⟩,h3⟩,h4⟩,h5⟩,h6⟩,h7⟩,h8⟩,h9⟩:=h;have k1:(env.blockKind != .function)=false:=by
  show (!((if env.scope.kind.isAnnotationScope then EV else env.scope.kind) == .function))=AC;rw[h1];rfl
 have k2:env.kindOf x=AA .local:=eq_of_beq h2;have k3:env.kindOf y=AA .local:=eq_of_beq h3;have k4:py.line=px.line:=eq_of_beq h4;have k7:¬y=x:=λz=>by subst z;simp at h7
 have m1:=yfc h5;have m2:=yfc h6;have c8:¬(foldedForSure 8 a=AB/\foldedForSure 8 b=AB):=λz=>by rw[z.1,z.2]at h8;cases h8
 have c9:¬(constantsAlone 8 a=AB/\constantsAlone 8 b=AB):=λz=>by rw[z.1,z.2]at h9;cases h9
 have x1:(Expr.Name x px).pos=px:=rfl;have x2:(Expr.Name y py).pos=py:=rfl;unfold swappedStores;simp[k1,m1,m2,k2,k3,k4,List.eraseDups_cons,k7,x1,x2,c8,c9,Bz];intro z;exfalso;rcases z with z|z
 .exact BF (m1.symm.trans z)
 .exact BF (m2.symm.trans z)
def yhf(i j:Nat)(fa:∀x,Pr (YE γ κ x ca))(fb:∀x,Pr (YE γ κ x cb))(s:CC):Pr (YS γ κ s (.asg (.t [i,j]) (.tup (.cons ca (.cons cb .nil))))) :=
 match s with
 | .Assign [.Tuple [.Name x px,.Name y py] _ _] (.Tuple [a,b] _ _) _=>an (ask (setB κ i x=AB/\setB κ j y=AB/\i≠j/\swD κ.sc x y px py a b=AB)) λh=>an (fa a) λha=>an (fb b) λhb=>ok λm S X G=>by
  let⟨h1,h2,h3,h4⟩:=h;have q:=zaW G h1;have r:=zaW G h2;have h5:=h4;erw[swD,AK]at h5;have e1:X.env.scope.names.lookup x=AA .local:=by rw[G.sc];exact eq_of_beq h5.1.1.1.1.1.1.1.2
  have e2:X.env.scope.names.lookup y=AA .local:=by rw[G.sc];exact eq_of_beq h5.1.1.1.1.1.1.2
  exact zne G.calm q.d q.i r.i h3 (znr G.calm q.d q.i r.i h3 e1 e2 (zeh (ha m S X G) (zeh (hb m S X G) zhy (yak h5.1.1.1.2)) (yak h5.1.1.1.1.2)) (ygr (by rw[G.sc];exact h4)))
 |_=>AD
theorem sw0{es:List AV}{k:Nat}{p:C5}{a:AV}{env:B8}(h:ntu a=AB):swappedStores [.Tuple es k p] a env=pure none:=by
 cases a<;>first|rfl|cases h
theorem sw1{b c:AV}{p:C5}{a:AV}{env:B8}:swappedStores [.Subscript b c p] a env=pure none:=by
 cases a<;>rfl
theorem yfp{t a:AV}{l:Nat}{env:B8}(h:nco a=AB):swapsWithSole [t] a l env=pure false:=by
 show swapsWith a (AA t) l env=_;exact swp h
theorem asS{b c:AV}{pos:C5}{env:B8}(h:nsl c=AB):∀v,assign (.Subscript b c pos) env v=(do
   let ov <- holding [v] (eval b env)
   let iv <- holding [v,ov] (eval c env)
   standAt pos
   holding [v,ov,iv] (setItem ov iv v)
   release [v,ov,iv] []):=by
 cases c<;>first|exact λ_=>rfl|cases h
def ygn(l:List Nat)(f:∀x,Pr (YE γ κ x ca))(s:CC):Pr (YS γ κ s (.asg (.t l) ca)) :=
 match s with
 | .Assign [.Tuple es k p] a _=>an (ask (nco a=AB/\ntu a=AB)) λhs=>an (mTg (γ:=γ) (κ:=κ) (.t l) (.Tuple es k p)) λhg=>an (f a) λh=>ok λm S X G=>zmn (h m S X G) (hg m S X G) (yfp hs.1) (sw0 hs.2)
 |_=>AD
def yf4(f:∀x,Pr (YE γ κ x cc))(fo:∀x,Pr (YE γ κ x ca))(fi:∀x,Pr (YE γ κ x cb))(s:CC):Pr (YS γ κ s (.six ca cb cc)) :=
 match s with
 | .Assign [.Subscript b c _] a _=>an (ask (nco a=AB/\nsl c=AB)) λhs=>an (f a) λh=>an (fo b) λho=>an (fi c) λhi=>ok λm S X G=>zoe (h m S X G) (ho m S X G) (hi m S X G) (yfp hs.1) sw1 (zk0 (ho m S X G) (hi m S X G) zgl (asS hs.2))
 |_=>AD
def ye0(f:∀x,Pr (YE γ κ x cc))(fo:∀x,Pr (YE γ κ x ca))(fi:∀x,Pr (YE γ κ x cb))(s:CC):Pr (YS γ κ s (.dput ca cb cc)) :=
 match s with
 | .Assign [.Subscript b c _] a _=>an (ask (nco a=AB)) λhs=>an (f a) λh=>an (fo b) λho=>an (fi c) λhi=>ok λm S X G=>zlN (zlx G.room) (ho m S X G) (hi m S X G) (h m S X G) (swp hs)
 |_=>AD
def ygz(op:Dj)(o:BOp):Pr (∀S X,PIp X op (rT2 S X (ybX o))) :=
 match op,o with
 | .Add,.add=>ok λ_ _=>zmQ
 |_,_=>AD
def ygI(i:Nat)(o:BOp)(f:∀x,Pr (YE γ κ x ca))(s:CC):Pr (YS γ κ s (.aug i o ca)) :=
 match s with
 | .AugAssign (.Name x _) op a _=>an (ask (setB κ i x=AB)) λh=>an (ygz op o) λhp=>an (f a) λha=>ok λm S X G=>let q:=zaW G h;zoM q.d q.i q.l (ha m S X G) (hp S X) q.f (yby q.p) (ydW q.p)
 |_=>AD
def yfU(c:Ce)(f:∀x,Pr (YE γ κ x c))(s:CC):Pr (YS γ κ s (.ret c)) :=
 match s with
 | .Return (AA a) _=>an (f a) λh=>ok λm S X G=>znF (h m S X G)
 | .Return AD _=>match c with
  | .cst .non=>ok λ_ _ _ _=>zmB
  |_=>AD
 |_=>AD
def sIf(fc:∀x,Pr (YT γ κ x cc))(fa:∀x,Pr (YSs γ κ x cs))(fb:∀x,Pr (YSs γ κ x cs'))(s:CC):Pr (YS γ κ s (.ite cc cs cs')) :=
 match s with
 | .If c a b _=>an (fc c) λhc=>an (fa a) λha=>an (fb b) λhb=>ok λm S X G=>zpF (hc m S X G) (ha m S X G) (hb m S X G)
 |_=>AD
def ygy(ct:Tg)(fi:∀tg l,Pr (YI γ κ tg l ci))(fb:∀x,Pr (YSs γ κ x cs))(s:CC):Pr (YS γ κ s (.for ct ci cs)) :=
 match s with
 | .For tg l b [] _=>an (ask (κ.own=AB/\nse l=AB)) λho=>an (fi tg l) λhi=>an (mTg (γ:=γ) (κ:=κ) ct tg) λhg=>an (fb b) λhb=>ok λm S X G=>znA (G.own ho.1).1 G.calm (hi m S X G) (hg m S X G) (hb m S X G) (fse ho.2)
 |_=>AD
def sWh(fc:∀x,Pr (YT γ κ x cc))(fb:∀x,Pr (YSs γ κ x cs))(s:CC):Pr (YS γ κ s (.while cc cs)) :=
 match s with
 | .While c b [] _=>an (ask (κ.own=AB)) λho=>an (fc c) λhc=>an (fb b) λhb=>ok λm S X G=>zj4 (G.own ho).1 (hc m S X G) (hb m S X G)
 |_=>AD
def yfV(c:Nat)(f:AR)(fo:∀x,Pr (YE γ κ x ca))(fv:∀x,Pr (YE γ κ x cb))(s:CC):Pr (YS γ κ s (.sfl c ca f cb)) :=
 match s with
 | .Assign [.Attribute a g _] b _=>an (ask (g=f/\γ.fl c f=AB/\nco b=AB)) λh=>an (fo a) λha=>an (fv b) λhb=>ok λm S X G=>by
  let⟨rfl,h1,h2⟩:=h;exact znv (G.glo.A c g h1).1 (G.glo.A c g h1).2 (ha m S X G) (hb m S X G) (swp h2)
 |_=>AD
def yd8(i:Nat)(q:Ce)(o:BOp)(v e d:Ce)(fe:∀x,Pr (YE γ κ x e))(fw:∀x,Pr (YE γ κ x (.ite q (.bin o v e) d)))(s:CC):Pr (YS γ κ s (.asg (.n i) (.ite q (.bin o v e) d))) :=
 match s with
 | .AugAssign (.Name x px) .Add a p=>match q,o,v,d with
  | .isi (.var j) [.tuple],.add,.var k,.nope=>an (ask (j=i/\k=i/\setB κ i x=AB)) λh=>an (fe a) λha=>ok λm S X G=>by
   let⟨rfl,rfl,h⟩:=h;have q:=zaW G h;exact zlJ q.d q.i q.l (ha m S X G) q.f (yby q.p) (ydW q.p)
  |_,_,_,_=>AD
 |s=>yfd i fw s
def ygk(c i:Nat)(f:AR)(j:Int)(fo:∀x,Pr (YE γ κ x (.var i)))(fv:∀x,Pr (YE γ κ x (.cst (.int j))))(s:CC):Pr (YS γ κ s (.sfl c (.var i) f (.bin .add (.fld c (.var i) f) (.cst (.int j))))) :=
 match s with
 | .AugAssign (.Attribute a g _) .Add b _=>an (ask (g=f/\γ.fl c f=AB)) λh=>an (fo a) λha=>an (fv b) λhb=>ok λm S X G=>by
  let⟨rfl,h1⟩:=h;exact zoI (G.glo.A c g h1).1 (G.glo.A c g h1).2 (ha m S X G) (hb m S X G)
 |_=>AD
def ygX(c:Nat)(o:Ce)(f:AR)(e:Ce)(O:Ev γ o)(E:Ev γ e)(s:CC):Pr (YS γ κ s (.sfl c o f e)) :=
 match s with
 | .AugAssign t op b p=>match o,e with
  | .var i,.bin .add (.fld c' (.var i') f') (.cst (.int j))=>an (ask (c'=c/\i'=i/\f'=f)) λh=>an (ygk (γ:=γ) (κ:=κ) c i f j (λx=>yff i x) (λx=>ye3 (.int j) x) (.AugAssign t op b p)) λq=>ok (by
    let⟨rfl,rfl,rfl⟩:=h;exact q)
  |_,_=>AD
 |s=>yfV c f (O.e κ) (E.e κ) s
def ygL(ix:Nat)(D:List (AR×Nat)){cn:Ce}{ces:Ces}(fn:∀x,Pr (YE γ κ x cn))(F:Fs γ κ ces)(ss:List CC):Pr (YSs γ κ ss (.cons (.mkr ix D cn ces) .nil)) :=
 match ss with
 | [.Assign [.Name x _] (.Subscript (.Name y _) n _) _,.Return (AA (.Call (.Name x' _) (e::es) [] _)) _]=>match hy:γ.mr y with
  |some E=>an (ask (E=D/\x'=x/\setB κ ix x=AB/\ydV κ.sc x=AB/\glB κ y=AB/\nsl n=AB/\nst e=AB/\yb5 es=AB)) λh=>an (fn n) λhn=>an (ya8 F (e::es)) λha=>ok λm S X G=>by
   let⟨rfl,rfl,h1,h2,h3,h4,h5,h6⟩:=h;have q:=zaW G h1;let⟨fa,fdd,ps,M,d⟩:=G.glo.K y E hy;exact zpf M (G.room.mono (Ct m)) q.d q.i q.l (by rw[G.sc];exact zhK h2) (zas G h3) d (hn m S X G) (ha m S X G) (nos h4) (swp rfl) q.f (yby (zbG h3)) (yby q.p) (ydW q.p) (yak h5) (stars h6)
  |none=>AD
 |_=>AD
end
mutual
noncomputable def chS(γ:Gs):(c:Cs)->(κ:Kx)->∀s,Pr (YS γ κ s c)
 | .expr e,κ=>yeE ((ch γ e).e κ)
 | .asg (.n i) (.comp sl ct ci cc ce),κ=>yeN i sl ct (chi γ ci κ) (ch γ cc) (ch γ ce)
 | .asg (.n i) (.ite q (.bin o v e) d),κ=>yd8 i q o v e d ((ch γ e).e κ) ((ch γ (.ite q (.bin o v e) d)).e κ)
 | .asg (.n i) c,κ=>yfd i ((ch γ c).e κ)
 | .asg (.t [i,j]) (.tup (.cons a (.cons b .nil))),κ=>yhf i j ((ch γ a).e κ) ((ch γ b).e κ)
 | .asg (.t l) c,κ=>ygn l ((ch γ c).e κ)
 | .six o i e,κ=>yf4 ((ch γ e).e κ) ((ch γ o).e κ) ((ch γ i).e κ)
 | .dput o i e,κ=>ye0 ((ch γ e).e κ) ((ch γ o).e κ) ((ch γ i).e κ)
 | .aug i o e,κ=>ygI i o ((ch γ e).e κ)
 | .ret e,κ=>yfU e ((ch γ e).e κ)
 | .ite c a b,κ=>sIf ((ch γ c).t κ) (ydd γ a κ) (ydd γ b κ)
 | .for t it b,κ=>ygy t (chi γ it κ) (ydd γ b κ)
 | .while c b,κ=>sWh ((ch γ c).t κ) (ydd γ b κ)
 | .nope,_=>λ_=>ok λ_ _ _ _=>zlU
 | .sfl c o f e,κ=>ygX c o f e (ch γ o) (ch γ e)
 |_,_=>λ_=>AD
noncomputable def ydd(γ:Gs):(c:Css)->(κ:Kx)->∀s,Pr (YSs γ κ s c)
 | .nil,_,[]=>ok λ_ _ _ _=>znE
 | .cons (.mkr ix D cn ces) .nil,κ,ss=>ygL ix D ((ch γ cn).e κ) (chs γ ces κ) ss
 | .cons c cs,κ,s::ss=>an (chS γ c κ s) λh=>an (ydd γ cs κ ss) λhr=>ok λm S X G=>zmf (h m S X G) (hr m S X G)
 |_,_,_=>AD
end
inductive Dk where
 | fn|fd (ds:List Int)|me (c:Nat)|ini (c:Nat)
structure Df where
 gn:AR
 nm:AR
 q:AR
 st:CC
 N:List AR
 ps:List AR
 fn:IC.Fn
 k:Dk
def scB(N P:List AR)(sc:Bj):Bool:=decide (sc.kind=.function) && !sc.isCoroutine && !sc.isGenerator && decide N.Nodup && decide (N.take P.length=P) && P.all (ydR sc) && sc.names.all λy=>y.2 != .free
theorem zpa{N P:List AR}{sc:Bj}(h:scB N P sc=AB):ybl N P sc:=by
 erw[scB,AK,decide_eq_true_eq,Cp,Bg,bne_iff_ne,ne_eq]at h;let⟨⟨⟨⟨⟨⟨h1,h2⟩,h3⟩,h4⟩,h5⟩,h6⟩,h7⟩:=h;exact⟨h1,h2,h3,h4,h5,λx hx=>zic (h6 x hx),h7⟩
def okD(γ:Gs)(d:Df):Bool:=scB d.N d.ps (yI d.st) && decide (d.ps.length=d.fn.np) && decide (d.N.length=d.fn.ns) && (ydd γ d.fn.body ⟨d.N,yI d.st,AB⟩ (yag d.st)).isSome
noncomputable def yb7{α:Type}(P:α->Prop):List α->Prop
 | []=>True
 |d::r=>P d/\yb7 P r
theorem yb7.get{α:Type}{P:α->Prop}:∀{l:List α},yb7 P l->∀d∈l,P d
 |_::_,h,d,hd=>by
  rcases AQ.1 hd with rfl|hd
  .exact h.1
  .exact h.2.get d hd
noncomputable def ybL:List AR->(List AG->Prop)->Prop
 | [],P=>P []
 |_::r,P=>∀a,ybL r λus=>P (a::us)
theorem ybL.get:∀{ps:List AR} {P:List AG->Prop},ybL ps P->∀us,us.length=ps.length->P us
 | [],P,h,[],_=>h
 |_::r,P,h,a::us,e=>(h a).get us (by simpa using e)
def ybo(d:Df):Prop:=∀(kV doc pm:AG) (an:Option AI) (cdv ct:AG),ybL d.ps λus=>bindArgs (Bf d.nm d.q (yai d.st) (yag d.st) (yI d.st) .none kV doc pm an cdv ct) ⟨us,[]⟩=pure (d.ps.zip us)
structure ycG(K:AE)(d:Df)(dv:AG)(f:AI)(fd:BK):Prop where
 ex:∃(oc:AG) (od:Option AI) (kV doc pm:AG) (an:Option AI) (cdv ct:AG) (osl:Array (Option AG)),
  fd=Bf d.nm d.q (yai d.st) (yag d.st) (yI d.st) dv kV doc pm an cdv ct/\K.lookup f=AA ⟨oc,od,.func fd,osl⟩/\C0 K cdv d.q=AB
 kp:Az K (.ref f)=AB
def At(K:AE)(cn:Nat->AR)(d:Df)(f:AI):Prop :=
 match d.k with
 | .fn=>BT K mainGlobals d.gn=AA (AA (.ref f))/\ybo d
 | .fd _=>BT K mainGlobals d.gn=AA (AA (.ref f))
 | .me c=>ybo d/\∃q,BT K mainGlobals (cn c)=AA (AA (.ref q))/\BC K (.ref q) d.nm=AA (AA (.ref f))/\DC K (.ref f)=AB
 | .ini c=>ybo d/\∃q,BT K mainGlobals (cn c)=AA (AA (.ref q))/\BC K (.ref q) d.nm=AA (AA (.ref f))/\DC K (.ref f)=AB/\Dp K q=AB/\Az K (.ref q)=AB
def DvP(K:AE)(d:Df)(dv:AG):Prop :=
 match d.k with
 | .fd ds=>∃dT o its n,dv=.ref dT/\K.lookup dT=AA o/\o.data=.seq its n/\Vals (ds.map V.int) its.toList
 |_=>dv=.none
def yc9(K:AE)(cn:Nat->AR)(d:Df):Prop:=∃dv f fd,ycG K d dv f fd/\At K cn d f/\DvP K d dv
section
variable {K:AE}{cn:Nat->AR}{gn nm:AR}{st:CC}{N ps:List AR}{fn:IC.Fn}{f:AI}{oc:AG}{od:Option AI}{kV doc pm:AG}{an:Option AI}{cdv ct:AG}{osl:Array (Option AG)}
theorem rowFn(a:BT K mainGlobals gn=AA (AA (.ref f)))(l:K.lookup f=AA ⟨oc,od,.func (Bf nm nm (yai st) (yag st) (yI st) .none kV doc pm an cdv ct),osl⟩)
  (c:C0 K cdv nm=AB) (p:Az K (.ref f)=AB) (b:ybo ⟨gn,nm,nm,st,N,ps,fn,.fn⟩):yc9 K cn ⟨gn,nm,nm,st,N,ps,fn,.fn⟩ :=
 ⟨.none,f,_,⟨⟨oc,od,kV,doc,pm,an,cdv,ct,osl,rfl,l,c⟩,p⟩,⟨a,b⟩,rfl⟩
theorem rowFd{ds:List Int}{dT:AI}{o:CO}{its:Array AG}{n:Nat}(a:BT K mainGlobals gn=AA (AA (.ref f)))(l:K.lookup f=AA ⟨oc,od,.func (Bf nm nm (yai st) (yag st) (yI st) (.ref dT) kV doc pm an cdv ct),osl⟩)
  (c:C0 K cdv nm=AB) (p:Az K (.ref f)=AB) (d:K.lookup dT=AA o) (e:o.data=.seq its n) (v:Vals (ds.map V.int) its.toList):yc9 K cn ⟨gn,nm,nm,st,N,ps,fn,.fd ds⟩ :=
 ⟨.ref dT,f,_,⟨⟨oc,od,kV,doc,pm,an,cdv,ct,osl,rfl,l,c⟩,p⟩,a,dT,o,its,n,rfl,d,e,v⟩
theorem rowMe{qn:AR}{cc:Nat}{q:AI}(z:BT K mainGlobals (cn cc)=AA (AA (.ref q)))(a:BC K (.ref q) nm=AA (AA (.ref f)))(i:DC K (.ref f)=AB)(l:K.lookup f=AA ⟨oc,od,.func (Bf nm qn (yai st) (yag st) (yI st) .none kV doc pm an cdv ct),osl⟩)
  (c:C0 K cdv qn=AB) (p:Az K (.ref f)=AB) (b:ybo ⟨gn,nm,qn,st,N,ps,fn,.me cc⟩):yc9 K cn ⟨gn,nm,qn,st,N,ps,fn,.me cc⟩ :=
 ⟨.none,f,_,⟨⟨oc,od,kV,doc,pm,an,cdv,ct,osl,rfl,l,c⟩,p⟩,⟨b,q,z,a,i⟩,rfl⟩
theorem rowIni{qn:AR}{cc:Nat}{q:AI}(z:BT K mainGlobals (cn cc)=AA (AA (.ref q)))(a:BC K (.ref q) nm=AA (AA (.ref f)))(i:DC K (.ref f)=AB)(l:K.lookup f=AA ⟨oc,od,.func (Bf nm qn (yai st) (yag st) (yI st) .none kV doc pm an cdv ct),osl⟩)
  (c:C0 K cdv qn=AB) (p:Az K (.ref f)=AB) (b:ybo ⟨gn,nm,qn,st,N,ps,fn,.ini cc⟩) (mk:Dp K q=AB) (kq:Az K (.ref q)=AB):yc9 K cn ⟨gn,nm,qn,st,N,ps,fn,.ini cc⟩ :=
 ⟨.none,f,_,⟨⟨oc,od,kV,doc,pm,an,cdv,ct,osl,rfl,l,c⟩,p⟩,⟨b,q,z,a,i,mk,kq⟩,rfl⟩
theorem gdf_mk{w:An}{h:BI}{mg:AR->Option AG}{x:AR}{D:List (AR×Nat)}{fa:Nat->AI}{y:AI}{es:Array CW}{ep:Nat}(X:K.In h)(G:h.Ns mainGlobals mg)(a:BT K mainGlobals x=AA (AA (.ref y)))(l:K.lookup y=AA ⟨.type "dict",AD,.dict es ep,#[]⟩)
  (r:ycu w fa D es.toList) (n:(D.map (·.1)).Nodup):GDF K w mg fa x D:=⟨y,es,ep,Eh X G a,l,r,n⟩
theorem gd_mk{w:An}{h:BI}{mg:AR->Option AG}{x:AR}{D:List (AR×PV)}{cl:Nat->AI}{y:AI}{es:Array CW}{ep:Nat}(X:K.In h)(G:h.Ns mainGlobals mg)(a:BT K mainGlobals x=AA (AA (.ref y)))(l:K.lookup y=AA ⟨.type "dict",AD,.dict es ep,#[]⟩)
  (s:(y == sysModules)=AC) (r:ycw K cl w D es.toList) (n:(D.map (·.1)).Nodup):GD K w mg cl x D:=⟨y,es,ep,Eh X G a,l,s,r,n⟩
end
abbrev KoV(K:AE)(v:PV)(u:AG):Prop:=∃x:V,RelV x u/\∀cl B φ H,yd K cl B φ H v x
abbrev KoL(K:AE)(vs:List PV)(us:List AG):Prop:=∃xs:List V,Vals xs us/\∀cl B φ H,yg K cl B φ H vs xs
mutual
noncomputable def yd5(K:AE):(v:PV)->(u:AG)->Pr (KoV K v u)
 | .int i,.int j t=>an (ask (i=j)) λh=>ok ⟨.int i,⟨t,by rw[h]⟩,λ_ _ _ _=>by erw[yd]⟩
 | .str i,.str j t=>an (ask (i=j)) λh=>ok ⟨.str i,⟨t,by rw[h]⟩,λ_ _ _ _=>by erw[yd]⟩
 | .tp AB vs,.ref a=>match h:K.lookup a with
  |some ⟨c,_,.seq its n,_⟩=>an (ask (c=.type "tuple"/\its.size<=sizeLine)) λq=>an (ydp K vs its.toList) λr=>ok (by
    let⟨xs,r1,r2⟩:=r;refine⟨.ref a,rfl,λcl B φ H=>?_⟩;erw[yd];exact⟨a,xs,rfl,.inr ⟨rfl,_,its,n,h,q.1,rfl,q.2,r1⟩,r2 cl B φ H⟩)
  |_=>AD
 |_,_=>AD
noncomputable def ydp(K:AE):(vs:List PV)->(us:List AG)->Pr (KoL K vs us)
 | [],[]=>ok ⟨[],.nil,λ_ _ _ _=>by erw[yg]⟩
 |v::vs,u::us=>an (yd5 K v u) λh=>an (ydp K vs us) λr=>ok (by
   let⟨x,h1,h2⟩:=h;let⟨xs,r1,r2⟩:=r;refine⟨x::xs,.cons h1 r1,λcl B φ H=>?_⟩;erw[yg];exact⟨x,xs,rfl,h2 cl B φ H,r2 cl B φ H⟩)
 |_,_=>AD
end
theorem con_row{K:AE}{cl:Nat->AI}{w:An}{k:AR}{v:PV}{tk:Ha}{u:AG}{D:List (AR×PV)}{es:List CW}(c:(yd5 K v u).isSome=AB)(h:ycw K cl w D es):ycw K cl w ((k,v)::D) (⟨ET w.params k,.str k tk,u⟩ :: es):=by
 let⟨⟨x,r,q⟩,_⟩:=BA.1 c;exact .cons r (q cl) h
theorem frow_cons{w:An}{fa:Nat->AI}{k:AR}{i:Nat}{tk:Ha}{a:AI}{D:List (AR×Nat)}{es:List CW}(e:fa i=a)(h:ycu w fa D es):ycu w fa ((k,i)::D) (⟨ET w.params k,.str k tk,.ref a⟩ :: es):=by
 subst e;exact .cons h
structure Tb where
 tbl:List Df
 al:List (AR×GK)
 bs:List AR
 ts:List Ty
 fl:List (Nat×AR)
 me:List ((Nat×AR)×Nat)
 kb:List ((Nat×Nat×List AR)×List (Option Int))
 cn:List (Nat×AR)
 dd:List (AR×List (AR×PV))
 ml:List (AR×List (AR×Nat))
noncomputable abbrev eF(x:AR)(i:Nat):AR×GK:=(x,.fn i)
noncomputable abbrev eD(x:AR)(i:Nat):AR×GK:=(x,.fnD i)
noncomputable abbrev eC(x:AR)(v:PV):AR×GK:=(x,.cst v)
noncomputable abbrev eG(x:AR)(g:GK):AR×GK:=(x,g)
noncomputable abbrev eN(c:Nat)(x:AR):Nat×Str:=(c,x)
noncomputable abbrev eM(c:Nat)(x:AR)(i:Nat):(Nat×AR)×Nat:=((c,x),i)
noncomputable abbrev eK(i n:Nat)(ks:List AR)(sh:List (Option Int)):(Nat×Nat×List AR)×List (Option Int):=((i,n,ks),sh)
noncomputable abbrev eL(x:AR)(d:List (AR×Nat)):AR×List (AR×Nat):=(x,d)
noncomputable abbrev eB(x:AR)(d:List (AR×PV)):AR×List (AR×PV):=(x,d)
noncomputable def tyE:Ty->Ty->Bool
 | .int,.int=>AB
 | .bool,.bool=>AB
 | .str,.str=>AB
 | .tuple,.tuple=>AB
 | .list,.list=>AB
 |_,_=>AC
theorem zpd{a b:Ty}(h:tyE a b=AB):a=b:=by
 cases a<;>cases b<;>first|rfl|cases h
def Tb.gs(t:Tb):Gs:=⟨λx=>t.al.lookup x,λx=>t.bs.contains x,λy=>t.ts.any (tyE y),λc f=>t.fl.contains (c,f),λc n=>t.me.lookup (c,n),λi n ks=>t.kb.lookup (i,n,ks),λx=>t.ml.lookup x⟩
noncomputable def nmA(K:AE)(x:AR):Option Addr:=match BT K mainGlobals x with
 |some (AA (.ref q))=>AA q
 |_=>AD
def clA(K:AE)(t:Tb)(c:Nat):Addr:=((t.cn.lookup c).bind (nmA K)).getD 0
noncomputable def cnm(t:Tb)(c:Nat):Str:=(t.cn.lookup c).getD ""
def faA(K:AE)(t:Tb)(i:Nat):Addr:=match t.tbl[i]? with
 |some d=>match d.k with
  | .fn=>(nmA K d.gn).getD 0
  | .fd _=>(nmA K d.gn).getD 0
  | .me c=>match BC K (.ref (clA K t c)) d.nm with
   |some (AA (.ref f))=>f
   |_=>0
  | .ini c=>match BC K (.ref (clA K t c)) d.nm with
   |some (AA (.ref f))=>f
   |_=>0
 |none=>0
noncomputable def ydA:Dk->Bool
 | .fn=>AB
 |_=>AC
noncomputable def yd7:Dk->Bool
 | .fd _=>AB
 |_=>AC
noncomputable def yf2:PV->Bool
 | .int _=>AB
 | .tp _ _=>AB
 |_=>AC
def alB(K:AE)(t:Tb):AR×GK->Bool
 | (x,.fn i)=>match t.tbl[i]? with
  |some d=>ydA d.k && (decide (x=d.gn) || decide (nmA K x=nmA K d.gn))
  |none=>AC
 | (x,.fnD i)=>match t.tbl[i]? with
  |some d=>yd7 d.k && (decide (x=d.gn) || decide (nmA K x=nmA K d.gn))
  |none=>AC
 | (x,.cst v)=>yf2 v && match BT K mainGlobals x with
  |some (AA u)=>(yd5 K v u).isSome
  |_=>AC
 | (x,.dct d)=>t.dd.any λp=>decide (p.1=x) && (eqD p.2 d).isSome
 | (x,.exc c)=>decide (t.cn.lookup c=AA x) && (nmA K x).any λq=>Ff K q [.type "ValueError",.type "Exception",.type "BaseException",.type "object"] "ValueError.__new__"
 | (x,.cls c i)=>decide (t.cn.lookup c=AA x) && (nmA K x).isSome && match t.tbl[i]? with
  |some d=>match d.k with
   | .ini c'=>decide (c'=c) && decide (d.nm="__init__")
   |_=>AC
  |none=>AC
def ye8(K:AE)(t:Ty):Bool :=
 decide (Bc K (.type "NoneType") (.type (tyN t))=AA (ybI .non t)) && decide (Bc K (.type "bool") (.type (tyN t))=AA (ybI (.bl AB) t)) && decide (Bc K (.type "int") (.type (tyN t))=AA (ybI (.int 0) t)) && decide (Bc K (.type "str") (.type (tyN t))=AA (ybI (.str GT) t)) && decide (Bc K (.type "tuple") (.type (tyN t))=AA (ybI (.tp AB []) t)) && decide (Bc K (.type "list") (.type (tyN t))=AA (ybI (.lst []) t))
noncomputable def ydS(K:AE)(q:AI):Bool:=DB K q GT && DP K q && E8 K q && decide (BC K (.ref q) "__setattr__"=AA (AA (.builtin "object.__setattr__")))
theorem zia{K:AE}{q:AI}(h:ydS K q=AB):Cls K q:=by
 erw[ydS,AK,decide_eq_true_eq]at h;exact⟨h.1.1.1,h.1.1.2,h.1.2,h.2⟩
def yev(K:AE)(t:Tb):Bool :=
 t.al.all (alB K t) && t.bs.all (λx=>decide (BT K mainGlobals x=AA AD)) && t.ts.all (ye8 K) &&
  t.fl.all (λp=>(t.cn.lookup p.1).isSome && (nmA K (cnm t p.1)).any λq=>ydS K q && decide (BC K (.ref q) p.2=AA AD)) &&
  t.me.all (λp=>(t.cn.lookup p.1.1).isSome && (nmA K (cnm t p.1.1)).any λq=>ydS K q && match t.tbl[p.2]? with
   |some d=>(match d.k with
    | .me c=>decide (c=p.1.1)
    |_=>AC) && decide (d.nm=p.1.2)
   |none=>AC) &&
  t.ml.all λp=>p.2.all λq=>match t.tbl[q.2]? with
   |some d=>ydA d.k
   |none=>AC
noncomputable def fd0:FuncData:=Bf "" "" (yai (.Pass ⟨0,0,0,0⟩)) [] (yI (.Pass ⟨0,0,0,0⟩)) .none .none .none .none AD .none .none
def fdA(K:AE)(t:Tb)(i:Nat):FuncData:=match K.lookup (faA K t i)with
 |some ⟨_,_,.func fd,_⟩=>fd
 |_=>fd0
noncomputable def psA(t:Tb)(i:Nat):List Str:=match t.tbl[i]? with
 |some d=>d.ps
 |none=>[]
theorem lkm{α β:Type}[BEq α][LawfulBEq α]{x:α}{k:β}:∀{l:List (α×β)},l.lookup x=AA k->(x,k)∈l
 | [],h=>nomatch h
 |y::l,h=>by
  rw[Bt]at h
  cases hx:x == y.1 with
  |true=>rw[hx]at h;cases h;rw[eq_of_beq hx];exact Aj
  |false=>rw[hx]at h;exact AT _ (lkm h)
def KbP(t:Tb)(p:(Nat×Nat×List AR)×List (Option Int)):Prop:=∀d ds,t.tbl[p.1.1]?=AA d->d.k=.fd ds->∀(K:AE) (mg:AR->Option AG) (f:AI) (fd:BK),FnD K mg d.nm d.st d.ps ds f fd->∃g,ybR K fd d.ps p.1.2.2 g (gK p.1.2.1 p.2)
structure Fact(t:Tb)(w:An)(K:AE)(mg:AR->Option AG):Prop where
 X:∀x u,BT K mainGlobals x=AA u->mg x=u
 R:yb7 (yc9 K (cnm t)) t.tbl
 B:yev K t=AB
 D:yb7 (λp=>∀cl,GD K w mg cl p.1 p.2) t.dd
 Kb:yb7 (KbP t) t.kb
 Ml:yb7 (λp=>GDF K w mg (faA K t) p.1 p.2) t.ml
theorem znV{K:AE}{x:AR}{q:AI}(h:nmA K x=AA q):BT K mainGlobals x=AA (AA (.ref q)):=by
 unfold nmA at h;split at h
 .cases h;assumption
 .cases h
theorem zcF{K:AE}{x:AR}{q:AI}(h:BT K mainGlobals x=AA (AA (.ref q))):nmA K x=AA q:=by
 erw[nmA,h]
theorem zf6{K:AE}{t:Tb}{c:Nat}{q:AI}(h:nmA K (cnm t c)=AA q)(hc:(t.cn.lookup c).isSome=AB):clA K t c=q:=by
 let⟨x,e⟩:=BA.1 hc;erw[clA,e,B7];erw[cnm,e,CY]at h;rw[h];rfl
noncomputable def okT(t:Tb)(d:Df):Bool:=okD t.gs d && match d.k with
 | .fn=>AB
 | .fd _=>decide (d.q=d.nm)
 | .me c=>(t.cn.lookup c).isSome
 | .ini c=>(t.cn.lookup c).isSome && decide (d.nm="__init__")
section
variable {t:Tb}{w:An}{K:AE}{mg:AR->Option AG}{T:Nat->Option IC.Fn}{P:A8}{base:BI}{k:Nat}
theorem zd5(F:Fact t w K mg)(O:∀d∈t.tbl,okT t d=AB){i:Nat}{d:Df}(h:t.tbl[i]?=AA d):∃dv fd,ycG K d dv (faA K t i) fd/\At K (cnm t) d (faA K t i)/\DvP K d dv:=by
 have hm:=A0 h;let⟨dv,f,fd,h1,h2,h3⟩:=F.R.get d hm;have e:f=faA K t i:=by
  have o:=O d hm;erw[okT,AK]at o;have o:=o.2;erw[faA,h];unfold At at h2
  cases q:d.k with
  |fn =>
   rw[q]at h2;erw[zcF h2.1,CY]
  |fd ds =>
   rw[q]at h2;have h2:BT K mainGlobals d.gn=AA (AA (.ref f)):=h2;erw[zcF h2,CY]
  |me c =>
   rw[q]at h2 o;let⟨_,q',e1,e2,_⟩:=h2;erw[zf6 (zcF e1) o,e2]
  |ini c =>
   rw[q]at h2 o;let⟨_,q',e1,e2,_⟩:=h2;erw[AK]at o;erw[zf6 (zcF e1) o.1,e2]
 subst e;exact⟨dv,fd,h1,h2,h3⟩
theorem ycG.binds{d:Df}{f:AI}{fd:BK}(R:ycG K d .none f fd)(b:ybo d):Binds K fd d.ps [] :=
 Fun.binds ⟨R.ex,R.kp⟩ λkV doc pm an cdv ct us hl=>(b kV doc pm an cdv ct).get us hl
theorem ycG.ok{d:Df}{dv:AG}{f:AI}{fd:BK}{fi m:Nat}{cl:Nat->AI}(R:ycG K d dv f fd)(hT:T fi=AA d.fn)(Sc:ybl d.N d.ps (yI d.st))(hnp:d.ps.length=d.fn.np)(hns:d.N.length=d.fn.ns)
  (body:∀(cdv:AG) (A:Ay) (outer:List B8) (s:AJ) (H:Hp) (E:XK),yay m (A.deeper (envOfC d.q (yI d.st) s.heap.objs.size f cdv)) ->
   PSs (ya6 (CX1 P w) P w K mg base d.N d.q (yI d.st) f cdv A outer s H E) (yag d.st) (tSs ⟨cl,yc T k,AB⟩ (ya6 (CX1 P w) P w K mg base d.N d.q (yI d.st) f cdv A outer s H E) d.fn.body)) :
  yaQ P w K mg base (CX1 P w) (m+1) f fd d.ps (spI K cl (yc T (k+1)) fi):=by
 let⟨oc,od,kV,doc,pm,an,cdv,ct,osl,rfl,lk,hcd⟩:=R.ex;exact zpR lk hcd Sc (λvs H Q E h=>znZ hT hnp h) λA outer s H vs Q E hr h=>⟨_,body cdv A outer s H E hr,zlr hT hns h⟩
def Fn2(t:Tb)(P:A8)(w:An)(K:AE)(mg:AR->Option AG)(base:BI)(T:Nat->Option IC.Fn)(k:Nat):Prop :=
 ∀i d dv fd,t.tbl[i]?=AA d->ycG K d dv (faA K t i) fd->yaQ P w K mg base (CX1 P w) (2*k) (faA K t i) fd d.ps (spI K (clA K t) (yc T k) i)
theorem zjv(F:Fact t w K mg)(O:∀d∈t.tbl,okT t d=AB)(C:Fn2 t P w K mg base T k){N:List AR}{q:AR}{sc:Bj}{f:AI}{cdv:AG}{A:Ay}{outer:List B8}{s:AJ}{H:Hp}{E:XK} :
  Glo t.gs (2*k) ⟨clA K t,yc T k,AB⟩ (ya6 (CX1 P w) P w K mg base N q sc f cdv A outer s H E):=by
 have B:=F.B;erw[yev,AK,Bg]at B;let⟨⟨⟨⟨⟨b1,b2⟩,b3⟩,b4⟩,b5⟩,b6⟩:=B;have mgr:∀{x:AR} {a:AI},nmA K x=AA a->mg x=AA (.ref a):=λh=>F.X _ _ (znV h);have same:∀{x y:AR} {a:AI},(decide (x=y) || decide (nmA K x=nmA K y))=AB->nmA K y=AA a->nmA K x=AA a:=λ{x y a} h e=>by
  erw[DL,decide_eq_true_eq]at h;rcases h with rfl|h
  .exact e
  .rw[h];exact e
 refine⟨λx i h=>?_,λx i np ks sh h hk=>?_,λx v h=>?_,λx d h=>?_,λx c h=>?_,λx c i h=>?_,λx h=>?_,λy h=>?_,λc n h=>?_,λc n i h=>?_,λy D h=>?_⟩
 .have q:=b1 _ (lkm h);erw[alB]at q;split at q
  .rename_i d hd;erw[AK]at q;let⟨dv,fd,r1,r2,r3⟩:=zd5 F O hd;have hk:d.k=.fn:=by cases e:d.k<;>rw[e]at q<;>first|rfl|cases q.1
   erw[At,hk]at r2;erw[DvP,hk]at r3;subst r3;exact⟨_,fd,d.ps,C i d _ fd hd r1,mgr (same q.2 (zcF r2.1)),r1.kp,r1.binds r2.2⟩
  .cases q
 .have q:=b1 _ (lkm h);erw[alB]at q;split at q
  .rename_i d hd;erw[AK]at q;let⟨dv,fd,r1,r2,r3⟩:=zd5 F O hd;obtain⟨ds,hk'⟩:∃ds,d.k=.fd ds:=by cases e:d.k<;>rw[e]at q<;>first|exact⟨_,rfl⟩|cases q.1
   erw[At,hk']at r2;erw[DvP,hk']at r3;let⟨dT,o,its,n,rfl,e1,e2,e3⟩:=r3;have oo:=O d (A0 hd);erw[okT,hk',AK,decide_eq_true_eq]at oo;have D:FnD K (λ_=>AA (.ref (faA K t i))) d.nm d.st d.ps ds (faA K t i) fd:=by
    let⟨oc,od,kV,doc,pm,an,cdv,ct,osl,z1,z2,z3⟩:=r1.ex;rw[oo.2]at z1 z3;exact⟨⟨oc,od,dT,kV,doc,pm,an,cdv,ct,osl,o,its,n,z1,z2,z3,e1,e2,e3⟩,r1.kp,rfl⟩
   exact⟨_,fd,d.ps,C i d _ fd hd r1,mgr (same q.2 (zcF r2)),r1.kp,F.Kb.get _ (lkm hk) d ds hd hk' K _ _ _ D⟩
  .cases q
 .have q:=b1 _ (lkm h);erw[alB,AK]at q;let⟨q0,q⟩:=q;split at q
  .rename_i u hu;let⟨⟨y,r,z⟩,_⟩:=BA.1 q;have hm:=F.X _ _ hu
   cases v with
   |int i =>
    have z:=z (λ_=>0) (λ_=>False) [] (λ_=>AD);erw[yd]at z;subst z;let⟨tk,rfl⟩:=r;exact .inr ⟨i,rfl,tk,hm⟩
   |tp b vs =>
    have z0:=z (λ_=>0) (λ_=>False) [] (λ_=>AD);erw[yd]at z0;let⟨a,xs,rfl,_⟩:=z0;have r:u=.ref a:=r;subst r;exact .inl ⟨a,hm,λB φ H=>z _ B φ H⟩
   |_=>cases q0
  .cases q
 .have q:=b1 _ (lkm h);erw[alB,Et,AK,decide_eq_true_eq]at q;let⟨p,hp,rfl,q⟩:=q;let⟨⟨e⟩,_⟩:=BA.1 q;rw[<- e];exact F.D.get p hp _
 .have q:=b1 _ (lkm h);erw[alB,AK,decide_eq_true_eq,Cz]at q;let⟨q1,q2,q3⟩:=q;let⟨a,ha⟩:=BA.1 q2;have e:clA K t c=a:=by erw[clA,q1,B7,ha,CY]
  erw[ha,FQ]at q3;exact⟨by show mg x=AA (.ref (clA K t c));rw[e];exact mgr ha,by show Ff K (clA K t c) _ _=AB;rw[e];exact q3⟩
 .have q:=b1 _ (lkm h);erw[alB,AK,decide_eq_true_eq]at q;let⟨⟨q1,q2⟩,q3⟩:=q;let⟨a,ha⟩:=BA.1 q2;have e:clA K t c=a:=by erw[clA,q1,B7,ha,CY]
  split at q3
  .rename_i d hd
   cases hk:d.k with
   |ini c' =>
    rw[hk]at q3;erw[AK,decide_eq_true_eq]at q3;let⟨rfl,hn⟩:=q3;let⟨dv,fd,r1,r2,r3⟩:=zd5 F O hd;erw[At,hk]at r2;erw[DvP,hk]at r3;subst r3;let⟨r0,q',r4,r5,r6,r7,r8⟩:=r2;have e2:q'=a:=by
     have:nmA K (cnm t c')=AA q':=zcF r4;erw[cnm,q1,CY,ha]at this;exact(AW this).symm
    subst e2;rw[hn]at r5;refine⟨by show mg x=AA (.ref (clA K t c'));rw[e];exact mgr ha,_,fd,d.ps,?_,C i d _ fd hd r1,r1.binds r0⟩;show Mk K (clA K t c') _;rw[e];exact⟨r7,r5,r6,r8⟩
   |_=>rw[hk]at q3;cases q3
  .cases q3
 .have q:x∈t.bs:=by simpa [Tb.gs] using h
  have:=b2 x q;erw[decide_eq_true_eq]at this;exact F.X _ _ this
 .simp only[Tb.gs,Et]at h;let⟨y',hy,e⟩:=h;have:=zpd e;subst this;have q:=b3 y hy;erw[ye8,AK,decide_eq_true_eq]at q;exact⟨q.1.1.1.1.1,q.1.1.1.1.2,q.1.1.1.2,q.1.1.2,q.1.2,q.2⟩
 .have q:(c,n)∈t.fl:=by simpa [Tb.gs] using h
  have q:=b4 _ q;erw[AK,Cz,decide_eq_true_eq]at q;let⟨q1,q2,q3⟩:=q;let⟨a,ha⟩:=BA.1 q2;erw[ha,FQ]at q3;have e:clA K t c=a:=zf6 ha q1;show Cls K (clA K t c)/\yax K (clA K t c) n;rw[e];exact⟨zia q3.1,q3.2⟩
 .have q:=b5 _ (lkm h);erw[AK,Cz,decide_eq_true_eq]at q;let⟨q1,q2,q3,q4⟩:=q;let⟨a,ha⟩:=BA.1 q2;erw[ha,FQ]at q3;have e:clA K t c=a:=zf6 ha q1;split at q4
  .rename_i d hd;erw[AK,decide_eq_true_eq]at q4;let⟨q4,hn⟩:=q4
   cases hk:d.k with
   |me c' =>
    rw[hk]at q4;have q4:c'=c:=by simpa using q4
    subst q4;let⟨dv,fd,r1,r2,r3⟩:=zd5 F O hd;erw[At,hk]at r2;erw[DvP,hk]at r3;subst r3;let⟨r0,q',r4,r5,r6⟩:=r2;have e2:q'=a:=AW ((zcF r4).symm.trans ha);subst e2;refine⟨by show Cls K (clA K t c');rw[e];exact zia q3,_,fd,d.ps,?_,C i d _ fd hd r1,r1.binds r0⟩;show Meth K (clA K t c') n _;rw[e,<- hn];exact⟨r5,r6,r1.kp⟩
   |_=>rw[hk]at q4;cases q4
  .cases q4
 .have q:=b6 _ (lkm h);have g:∀s j,D.lookup s=AA j->∃d dv fd,t.tbl[j]?=AA d/\ycG K d dv (faA K t j) fd/\dv=.none/\ybo d/\fd=fdA K t j/\d.ps=psA t j:=λs j hj=>by
   have q:=q _ (lkm hj);split at q
   .rename_i d hd;let⟨dv,fd,r1,r2,r3⟩:=zd5 F O hd;have hk:d.k=.fn:=by cases e:d.k<;>rw[e]at q<;>first|rfl|cases q
    erw[At,hk]at r2;erw[DvP,hk]at r3;let⟨oc,od,kV,doc,pm,an,cdv,ct,osl,_,lk,_⟩:=r1.ex;exact⟨d,dv,fd,hd,r1,r3,r2.2,by erw[fdA,lk],by erw[psA,hd]⟩
   .cases q
  refine⟨faA K t,fdA K t,psA t,⟨λs j hj=>?_,λs j hj=>?_,λs j hj=>?_⟩,F.Ml.get _ (lkm h)⟩
  .let⟨d,dv,fd,h1,h2,h3,h4,h5,h6⟩:=g s j hj;rw[<- h5,<- h6];exact C j d dv fd h1 h2
  .let⟨d,dv,fd,h1,h2,h3,h4,h5,h6⟩:=g s j hj;exact h2.kp
  .let⟨d,dv,fd,h1,h2,h3,h4,h5,h6⟩:=g s j hj;subst h3;rw[<- h5,<- h6];exact h2.binds h4
theorem ziQ(F:Fact t w K mg)(O:∀d∈t.tbl,okT t d=AB)(hT:∀i d,t.tbl[i]?=AA d->T i=AA d.fn):∀k,Fn2 t P w K mg base T k
 |0=>λi d dv fd _ _=>zjo
 |k+1=>λi d dv fd h R=>by
  have o:=O d (A0 h);erw[okT,okD,AK,decide_eq_true_eq]at o;let⟨⟨⟨⟨o1,o2⟩,o3⟩,o4⟩,_⟩:=o;let⟨⟨y⟩,_⟩:=BA.1 o4;exact R.ok (m:=2*k+1) (hT i d h) (zpa o1) o2 o3 λ_ _ _ _ _ _ hr=>y (2*k) _ _ ⟨rfl,rfl,rfl,hr,λ_=>⟨own1,λ_=>rfl,rfl⟩,zjv F O (ziQ F O hT k)⟩
noncomputable def yda:Nat->(List AG->Prop)->Prop
 |0,P=>P []
 |n+1,P=>∀a,yda n λus=>P (a::us)
theorem yda.get:∀{n:Nat} {P:List AG->Prop},yda n P->∀us,us.length=n->P us
 |0,P,h,[],_=>h
 |n+1,P,h,a::us,e=>(h a).get us (by simpa using e)
theorem kbP{i np:Nat}{ks:List AR}{sh:List (Option Int)}{d:Df}{ds:List Int}(hd:t.tbl[i]?=AA d)(hk:d.k=.fd ds)(h1:ks.length=nKw sh)(h2:sh.length=(ds.drop (ds.length - sh.length)).length)
  (h3:((sh.zip (ds.drop (ds.length - sh.length))).all λp=>p.1.all λi=>decide (i=p.2))=AB) (hp:0<d.ps.length)
  (h:∀(dT:AI) (kV doc pm:AG) (an:Option AI) (cdv ct:AG),yda np λus=>yda ks.length λws=>yda ds.length λits =>
   ∃k,bindArgs (Bf d.nm d.nm (yai d.st) (yag d.st) (yI d.st) (.ref dT) kV doc pm an cdv ct) ⟨us,ks.zip ws⟩=seqItems? (.ref dT) >>= k/\k (AA its.toArray)=pure (d.ps.zip (us++ybf sh ws (its.drop (ds.length - sh.length))))):KbP t ((i,np,ks),sh):=by
 intro d' ds' e1 e2 K mg f fd D;have e1:t.tbl[i]?=AA d':=e1;rw[hd]at e1
 cases e1
 rw[hk]at e2
 cases e2
 exact kbD D h1 h2 h3 (λdT kV doc pm an cdv ct us ws its z1 z2 z3=>(((h dT kV doc pm an cdv ct).get us z1).get ws z2).get its z3) hp
theorem all_mk2{h:BI}{fx:AI}(X:K.In h)(G:h.Ns mainGlobals mg)(hfa:mg "law"=AA (.ref fx))(R:yb7 (yc9 K (cnm t)) t.tbl)(B:yev K t=AB)(D:yb7 (λp=>∀cl,GD K w mg cl p.1 p.2) t.dd)(Kb:yb7 (KbP t) t.kb)(Ml:yb7 (λp=>GDF K w mg (faA K t) p.1 p.2) t.ml)
  (O:t.tbl.all (okT t)=AB) (hT:∀i d,t.tbl[i]?=AA d->T i=AA d.fn) {L:Nat} {st:CC} {N:List AR} {fn:IC.Fn} (hL:t.tbl[L]?=AA ⟨"law","law","law",st,N,["_law_script"],fn,.fn⟩) (lvl:Nat) :
  ∃fd:BK,(∀(s:AJ) (v:AG),F5 s fd ⟨[v],[]⟩ [("_law_script",v)])/\∀base:BI,K.In base->base.Ns mainGlobals mg->yaQ P w K mg base (CX1 P w) (2*lvl) fx fd ["_law_script"] (spX K (yc T lvl) L):=by
 have F:Fact t w K mg:=⟨λx u e=>by
  cases u with
  |none=>exact PySem.W.mg_none_of X G e
  |some v=>exact Eh X G e,R,B,D,Kb,Ml⟩
 have O':=Bg.1 O;let⟨dv,fd,r1,r2,r3⟩:=zd5 F O' hL;have r3:dv=.none:=r3;subst r3;have r2:BT K mainGlobals "law"=AA (AA (.ref (faA K t L)))/\ybo _:=r2;have e:=Value.ref.inj (AW (hfa.symm.trans (Eh X G r2.1)));subst e;refine⟨fd,λs v=>?_,λbase _ _=>(ziQ F O' hT lvl L _ _ fd hL r1).imp λ_ _ _ _ h=>h _⟩;let⟨oc,od,kV,doc,pm,an,cdv,ct,osl,rfl,_⟩:=r1.ex;exact .of_eq (r2.2 kV doc pm an cdv ct v)
end
end L2
namespace IC
open PySem
noncomputable def zT:List (AR×Nat):=[(AF "move",71),(AF "bare",72),(AF "sum",73),(AF "less",74),(AF "both",75),(AF "any",76),(AF "odd",77),(AF "twice",78),(AF "half",79)]
noncomputable def zcx:PV:=(.tp AB [(.str "p"),(.tp AB [(.int 0),(.int 0),(.int 0),(.int 0)])])
noncomputable def zaa:PV:=(.tp AB [(.int 0),(.int 1),(.int 0)])
noncomputable def zbC:PV:=(.int 10000000000000000000000000000000000000000)
noncomputable def zbp:PV:=(.tp AB [(.str "f"),(.tp AB [(.int 0),(.int 0),(.int 0),(.int 0)])])
noncomputable def zaS:PV:=(.tp AB [(.str "g"),(.tp AB [(.int 0),(.int 0),(.int 0),(.int 0)])])
noncomputable def zd4:PV:=(.tp AB [(.str "h"),(.tp AB [(.int 0),(.int 0),(.int 0),(.int 0)])])
noncomputable def zkC:PV:=(.tp AB [(.str "turned"),(.str "bare")])
noncomputable def zbq:PV:=(.tp AB [(.str "h"),(.tp AB [(.int 0),(.int 0),(.int 0),(.int 0)])])
noncomputable def zaU:PV:=(.tp AB [(.str "w"),(.tp AB [(.int 0),(.int 0),(.int 0),(.int 0)])])
noncomputable def zfZ:PV:=(.tp AB [(.str "l"),(.tp AB [(.int 0),(.int 0),(.int 0),(.int 0)])])
noncomputable def zz:PV:=(.tp AB [(.tp AB [(.str "m"),(.tp AB [(.int 0),(.int 0),(.int 0),(.int 0)])]),(.tp AB [(.str "m"),(.tp AB [(.int 1),(.int 0),(.int 0),(.int 0)])]),(.tp AB [(.str "m"),(.tp AB [(.int 2),(.int 0),(.int 0),(.int 0)])]),(.tp AB [(.str "m"),(.tp AB [(.int 3),(.int 0),(.int 0),(.int 0)])])])
noncomputable def zcK:PV:=(.int 4)
noncomputable def zfr:PV:=(.int 2)
noncomputable def zbT:PV:=(.int 4000)
noncomputable def zdz:PV:=(.int 4000)
noncomputable def ze5:PV:=(.int 20)
noncomputable def zem:PV:=(.int 2)
noncomputable def zdd:PV:=(.int 200)
noncomputable def zcN:PV:=(.tp AB [(.str "z"),(.tp AB [(.int 0),(.int 0),(.int 0),(.int 0)])])
noncomputable def zft:PV:=(.tp AB [(.str "o"),(.tp AB [(.int 0),(.int 0),(.int 0),(.int 0)])])
noncomputable def zep:PV:=(.tp AB [(.str "sum"),(.str "difference"),(.str "compare"),(.str "both"),(.str "any"),(.str "odd"),(.str "product"),(.str "signed product"),(.str "quotient"),(.str "signed quotient")])
noncomputable def zdS:PV:=(.tp AB [(.str "both"),(.str "any"),(.str "odd")])
noncomputable def zbu:PV:=(.tp AB [(.str "product"),(.str "signed product")])
noncomputable def zaj:PV:=(.tp AB [(.str "quotient"),(.str "signed quotient")])
noncomputable def zcY:PV:=(.tp AB [(.str "g"),(.tp AB [(.int 0),(.int 0),(.int 0),(.int 0)])])
noncomputable def zdE:PV:=(.tp AB [(.str "s"),(.tp AB [(.int 0),(.int 0),(.int 0),(.int 0)])])
noncomputable def zeq:PV:=(.tp AB [(.str "left"),(.str "right"),(.str "down"),(.str "roll")])
noncomputable def zck:PV:=(.tp AB [(.str "i"),(.tp AB [(.int 0),(.int 0),(.int 0),(.int 0)])])
noncomputable def zcZ:PV:=(.tp AB [(.str "j"),(.tp AB [(.int 0),(.int 0),(.int 0),(.int 0)])])
noncomputable def zaD:PV:=(.tp AB [(.str "t"),(.tp AB [(.int 0),(.int 0),(.int 0),(.int 0)])])
def zi2:PV:=(.tp AB [(.str "plain"),(.str "signed")])
def zah:List (AR×PV):=[(AF "set",(.tp AB [(.str "cell"),(.str "figure")])),(AF "move",(.tp AB [(.str "cell"),(.str "cell")])),(AF "bare",(.tp AB [(.str "cell"),(.str "cell")])),(AF "sum",(.tp AB [(.str "cell"),(.str "cell"),(.str "cell")])),(AF "less",(.tp AB [(.str "cell"),(.str "cell"),(.str "cell")])),(AF "both",(.tp AB [(.str "cell"),(.str "cell"),(.str "cell")])),(AF "any",(.tp AB [(.str "cell"),(.str "cell"),(.str "cell")])),(AF "odd",(.tp AB [(.str "cell"),(.str "cell"),(.str "cell")])),(AF "twice",(.tp AB [(.str "cell"),(.str "cell")])),(AF "half",(.tp AB [(.str "cell"),(.str "cell")])),(AF "times",(.tp AB [(.str "cell"),(.str "cell"),(.str "cell"),(.str "cell")])),(AF "mark",(.tp AB [(.str "figure")])),(AF "ask",(.tp AB [(.str "cell")]))]
noncomputable def zla:Fn:=⟨5,5,AB,(.k (.ret (.tup (.k (.v 0) (.k (.tup (.k (.v 1) (.k (.v 2) (.k (.v 3) (.k (.v 4) .e))))) .e)))) .e)⟩
def zdc:Fn:=⟨1,1,AB,(.k (.ret (.call 0 (yW (.k (.v 0) (.k (.neg (.i 1)) .e)) (yo [.inr 0,.inr 0,.inl (.i 1)])))) .e)⟩
noncomputable def zkK:Fn:=⟨1,1,AB,(.k (.ret (.blt .tuple (.k (.comp [AD] (.n 0) (.seq (.v 0)) (.cst (.bl AB)) (.tup (.k (.s "row") (.k (.v 0) .e)))) .e))) .e)⟩
noncomputable def zgF:Fn:=⟨3,3,AB,(.k (.ret (.tup (.k (.tup (.k (.s "rounds") (.k (.v 0) (.k (.v 1) (.k (.v 2) .e))))) .e))) .e)⟩
noncomputable def zgr:Fn:=⟨5,5,AB,(.k (.ret (.tup (.k (.s "slice") (.k (.v 0) (.k (.tup (.k (.i 0) (.k (.i 0) (.k (.i 0) (.k (.i 0) .e))))) (.k (.tup (.k (.v 1) (.k (.v 2) (.k (.v 3) (.k (.v 4) .e))))) .e)))))) .e)⟩
noncomputable def zk5:Fn:=⟨6,6,AB,(.k (.ret (.tup (.k (.v 0) (.k (.tup (.k (.i 0) (.k (.v 2) (.k (.i 0) (.k (.v 3) (.k (.v 4) (.k (.v 5) .e))))))) (.k (.v 1) .e))))) .e)⟩
def zcd:Fn:=⟨3,4,AB,(.k (.asg (.n 3) (.tup (.k (.call 5 (yW (.k (.i 1) (.k (.tup (.k (.call 4 (yW (.k (.v 1) .e) (yo [.inr 0,.inl (.i 1),.inr 0,.inr 0]))) .e)) .e)) (yo [.inr 0,.inr 0,.inr 0,.inr 0]))) (.k (.call 5 (yW (.k (.neg (.i 1)) (.k (.tup (.k (.call 4 (yW (.k (.v 0) .e) (yo [.inr 0,.inl (.i 1),.inr 0,.inr 0]))) .e)) .e)) (yo [.inr 0,.inr 0,.inr 0,.inr 0]))) .e)))) (.k (.ret (.call 3 (.k (.tup (.k (.v 2) (.k (.i 1) (.k (.i 0) .e)))) (.k (.v 3) (.k (.call 2 (.k (.lst (.k (.tup (.k (.s "move") (.k (.call 0 (yW (.k (.v 0) .e) (yo [.inr 0,.inl (.i 1),.inr 0,.inr 0]))) (.k (.call 0 (yW (.k (.v 1) .e) (yo [.inr 0,.inl (.i 1),.inr 0,.inr 0]))) .e)))) .e)) .e)) .e))))) .e))⟩
def zdA:Fn:=⟨1,1,AB,(.k (.ret (.tup (.k (.s "sum") (.k (.v 0) (.k (.cst zcN) (.k (.cst zcN) .e)))))) .e)⟩
def zbf:Fn:=⟨1,1,AB,(.k (.ret (.lst (.k (.tup (.k (.s "set") (.k (.v 0) (.k (.i 1) .e)))) (.k (.tup (.k (.s "less") (.k (.v 0) (.k (.v 0) (.k (.cst zcN) .e))))) .e)))) .e)⟩
def zbR:Fn:=⟨2,2,AB,(.k (.ret (.lst (.k (.tup (.k (.s "twice") (.k (.cst zaD) (.k (.v 1) .e)))) (.k (.tup (.k (.s "less") (.k (.v 0) (.k (.cst zcN) (.k (.cst zcN) .e))))) .e)))) .e)⟩
def zaP:Fn:=⟨4,4,AB,(.k (.ret (.call 3 (.k (.v 3) (.k (.tup .e) (.k (.call 2 (.k (.lst (.k (.tup (.k (.s "odd") (.k (.cst zaD) (.k (.v 1) (.k (.v 2) .e))))) (.k (.tup (.k (.s "any") (.k (.v 0) (.k (.v 0) (.k (.cst zaD) .e))))) .e))) .e)) .e))))) .e)⟩
def zb1:Fn:=⟨3,4,AB,(.k (.asg (.n 3) (.tup (.k (.s "any") (.k (.cst zdE) (.k (.cst zdE) (.k (.call 0 (yW (.k (.v 0) .e) (yo [.inr 0,.inl (.i 1),.inr 0,.inl (.v 1)]))) .e)))))) (.k (.ret (.bin .add (.bin .add (.call 2 (.k (.lst (.k (.tup (.k (.s "set") (.k (.cst zdE) (.k (.i 0) .e)))) .e)) .e)) (.call 3 (.k (.v 2) (.k (.tup .e) (.k (.call 2 (.k (.lst (.k (.v 3) .e)) .e)) .e))))) (.call 2 (.k (.lst (.k (.tup (.k (.s "ask") (.k (.cst zdE) .e))) .e)) .e)))) .e))⟩
def zbB:Fn:=⟨2,3,AB,(.k (.asg (.n 2) (.lst (.k (.tup (.k (.s "twice") (.k (.cst zaD) (.k (.call 0 (yW (.k (.s "c") (.k (.bin .sub (.v 0) (.i 1)) .e)) (yo [.inr 0,.inr 0,.inl (.v 1)]))) .e)))) (.k (.call 7 (.k (.idx (.cst zz) (.i 3)) .e)) .e)))) (.k (.ret (.bin .add (.call 11 (.k (.s "c") (.k (.i 0) (.k (.tup (.k (.v 0) (.k (.v 1) (.k (.i 0) .e)))) .e)))) (.call 2 (.k (.bin .add (.call 8 (.k (.idx (.cst zz) (.i 2)) .e)) (.v 2)) .e)))) .e))⟩
def zcg:Fn:=⟨3,4,AB,(.k (.asg (.n 3) (.bin .add (.call 6 (yW (.k (.s "c") (.k (.s "a") (.k (.blt .min (.k (.v 2) (.k (.i 0) .e))) .e))) (yo []))) (.call 14 (.k (.cst zbp) (.k (.v 0) (.k (.call 1 (.k (.s "a") .e)) .e)))))) (.k (.ite (.cmp .gt (.v 2) (.i 0)) (.k (.asg (.n 3) (.ite (.isi (.v 3) [.tuple]) (.bin .add (.v 3) (.call 15 (.k (.v 2) .e))) .nope)) .e) .e) (.k (.asg (.n 3) (.ite (.isi (.v 3) [.tuple]) (.bin .add (.v 3) (.bin .add (.call 14 (.k (.cst zcY) (.k (.v 1) (.k (.call 0 (yW (.k (.s "c") (.k (.bin .sub (.v 2) (.i 1)) .e)) (yo [.inr 0,.inr 0,.inl (.i 1)]))) .e)))) (.call 2 (.k (.lst (.k (.tup (.k (.s "odd") (.k (.cst zbq) (.k (.cst zbp) (.k (.cst zcY) .e))))) .e)) .e)))) .nope)) (.k (.ite (.cmp .lt (.v 2) (.i 0)) (.k (.asg (.n 3) (.ite (.isi (.v 3) [.tuple]) (.bin .add (.v 3) (.call 16 (.k (.v 2) .e))) .nope)) .e) .e) (.k (.ret (.bin .add (.bin .add (.v 3) (.call 2 (.k (.lst (.k (.tup (.k (.s "ask") (.k (.cst zbq) .e))) (.k (.call 7 (.k (.idx (.cst zz) (.i 1)) .e)) .e))) .e))) (.call 12 (.k (.v 2) (.k (.i 1) .e))))) .e)))))⟩
def zgp:Fn:=⟨3,3,AB,(.k (.ret (.call 2 (.k (.ite (.cmp .eq (.v 1) (.s "signed")) (.call 9 (.k (.v 0) (.k (.v 2) .e))) (.lst (.k (.tup (.k (.s "mark") (.k (.i 0) .e))) (.k (.tup (.k (.s "less") (.k (.v 0) (.k (.cst zcN) (.k (.cst zcN) .e))))) .e)))) .e))) .e)⟩
def ze9:Fn:=⟨1,2,AB,(.k (.asg (.n 1) (.tup (.k (.call 5 (yW (.k (.i 1) (.k (.tup (.k (.call 4 (yW (.k (.s "c") .e) (yo [.inr 0,.inl (.i 1),.inr 0,.inl (.i 1)]))) .e)) .e)) (yo [.inr 0,.inr 0,.inr 0,.inr 0]))) (.k (.call 5 (yW (.k (.neg (.i 1)) (.k (.tup (.k (.call 4 (yW (.k (.s "a") .e) (yo [.inr 0,.inr 0,.inr 0,.inl (.i 1)]))) .e)) .e)) (yo [.inr 0,.inr 0,.inr 0,.inr 0]))) (.k (.call 5 (yW (.k (.neg (.i 1)) (.k (.tup (.k (.tup (.k (.s "mark") .e)) .e)) .e)) (yo [.inr 0,.inl (.i 1),.inr 0,.inl (.i 1)]))) (.k (.call 5 (yW (.k (.i 1) (.k (.tup (.k (.tup (.k (.s "mark") .e)) .e)) .e)) (yo [.inr 0,.inr 0,.inr 0,.inl (.i 1)]))) .e)))))) (.k (.ret (.call 3 (.k (.tup (.k (.v 0) (.k (.i 0) (.k (.i 0) .e)))) (.k (.v 1) (.k (.call 2 (.k (.lst (.k (.tup (.k (.s "move") (.k (.call 0 (yW (.k (.s "c") .e) (yo [.inr 0,.inl (.i 1),.inr 0,.inl (.i 1)]))) (.k (.cst zbp) .e)))) .e)) .e)) .e))))) .e))⟩
def zfn:Fn:=⟨1,1,AB,(.k (.ret (.call 10 (.k (.cst zbq) (.k (.call 0 (yW (.k (.s "a") (.k (.v 0) .e)) (yo [.inl (.i 1),.inr 0,.inl (.i 1)]))) (.k (.cst zcY) (.k (.tup (.k (.neg (.v 0)) (.k (.i 0) (.k (.i 0) .e)))) .e)))))) .e)⟩
def zaK:Fn:=⟨0,1,AB,(.k (.asg (.n 0) (.bin .add (.call 11 (.k (.s "c") (.k (.i 1) (.k (.cst zaa) .e)))) (.call 2 (.k (.lst (.k (.call 7 (.k (.idx (.cst zz) (.i 1)) .e)) .e)) .e)))) (.k (.ret (.bin .add (.bin .add (.call 18 .e) (.v 0)) (.call 12 (.k (.i 0) (.k (.i 2) .e))))) .e))⟩
def zcD:Fn:=⟨0,3,AB,(.k (.asg (.n 0) (.tup (.k (.call 5 (yW (.k (.i 1) (.k (.tup (.k (.call 4 (yW (.k (.s "c") .e) (yo [.inr 0,.inl (.i 1),.inr 0,.inl (.i 1)]))) .e)) .e)) (yo [.inr 0,.inr 0,.inr 0,.inr 0]))) (.k (.call 5 (yW (.k (.neg (.i 1)) (.k (.tup (.k (.call 4 (yW (.k (.s "a") .e) (yo [.inr 0,.inr 0,.inr 0,.inl (.i 1)]))) (.k (.call 4 (yW (.k (.s "b") .e) (yo [.inr 0,.inl (.i 1),.inr 0,.inr 0]))) .e))) .e)) (yo [.inr 0,.inr 0,.inr 0,.inr 0]))) .e)))) (.k (.asg (.n 1) (.call 2 (.k (.lst (.k (.tup (.k (.s "mark") (.k (.i 0) .e))) (.k (.tup (.k (.s "set") (.k (.cst zft) (.k (.i 0) .e)))) .e))) .e))) (.k (.asg (.n 2) (.call 2 (.k (.lst (.k (.tup (.k (.s "move") (.k (.call 0 (yW (.k (.s "c") .e) (yo [.inr 0,.inl (.i 1),.inr 0,.inl (.i 1)]))) (.k (.cst zft) .e)))) .e)) .e))) (.k (.ret (.call 3 (.k (.cst zaa) (.k (.v 0) (.k (.bin .add (.bin .add (.v 1) (.call 19 .e)) (.v 2)) .e))))) .e))))⟩
def zcb:Fn:=⟨0,3,AB,(.k (.asg (.n 0) (.call 0 (yW (.k (.s "c") .e) (yo [.inr 0,.inl (.i 1),.inl (.i 1),.inr 0])))) (.k (.asg (.n 1) (.tup (.k (.s "slice") (.k (.s "b") (.k (.tup (.k (.i 0) (.k (.i 1) (.k (.i 0) (.k (.i 0) .e))))) (.k (.tup (.k (.i 1) (.k (.i 1) (.k (.i 0) (.k (.i 0) .e))))) .e)))))) (.k (.asg (.n 2) (.tup (.k (.call 5 (yW (.k (.i 1) (.k (.tup (.k (.call 4 (yW (.k (.s "c") .e) (yo [.inr 0,.inl (.i 1),.inr 0,.inl (.i 1)]))) .e)) .e)) (yo [.inr 0,.inr 0,.inr 0,.inr 0]))) (.k (.call 5 (yW (.k (.i 1) (.k (.tup (.k (.call 4 (yW (.k (.s "o") (.k (.i 1) .e)) (yo [.inr 0,.inr 0,.inr 0]))) .e)) .e)) (yo [.inr 0,.inl (.i 1),.inl (.i 1),.inr 0]))) (.k (.call 5 (yW (.k (.neg (.i 1)) (.k (.tup (.k (.call 4 (yW (.k (.s "a") .e) (yo [.inr 0,.inr 0,.inr 0,.inl (.i 1)]))) (.k (.call 4 (yW (.k (.s "b") .e) (yo [.inr 0,.inl (.i 1),.inr 0,.inr 0]))) .e))) .e)) (yo [.inr 0,.inr 0,.inr 0,.inr 0]))) (.k (.call 5 (yW (.k (.neg (.i 1)) (.k (.tup (.k (.call 4 (yW (.k (.s "a") .e) (yo [.inr 0,.inr 0,.inl (.i 1),.inr 0]))) (.k (.v 1) .e))) .e)) (yo [.inr 0,.inl (.i 1),.inr 0,.inr 0]))) .e)))))) (.k (.ret (.call 3 (.k (.cst zaa) (.k (.v 2) (.k (.call 2 (.k (.lst (.k (.tup (.k (.s "times") (.k (.cst zfZ) (.k (.cst zd4) (.k (.call 0 (yW (.k (.s "a") .e) (yo [.inr 0,.inr 0,.inl (.i 1),.inr 0]))) (.k (.call 0 (yW (.k (.s "b") .e) (yo [.inr 0,.inl (.i 1),.inr 0,.inr 0]))) .e)))))) (.k (.tup (.k (.s "sum") (.k (.cst zfZ) (.k (.cst zfZ) (.k (.cst zft) .e))))) (.k (.tup (.k (.s "sum") (.k (.cst zd4) (.k (.cst zd4) (.k (.cst zcN) .e))))) (.k (.tup (.k (.s "sum") (.k (.v 0) (.k (.v 0) (.k (.cst zfZ) .e))))) (.k (.tup (.k (.s "sum") (.k (.cst zft) (.k (.cst zd4) (.k (.cst zcN) .e))))) .e)))))) .e)) .e))))) .e))))⟩
noncomputable def zaw:Fn:=⟨3,3,AB,(.k (.ret (.and (.isi (.v 0) [.int]) (.and (.not (.isi (.v 0) [.bool])) (.chain .le .le (.v 1) (.v 0) (.v 2))))) .e)⟩
noncomputable def zbJ:Fn:=⟨1,1,AB,(.k (.ret (.and (.isi (.v 0) [.str]) (.and (.cmp .eq (.blt .len (.k (.v 0) .e)) (.i 1)) (.chain .le .le (.s "a") (.v 0) (.s "z"))))) .e)⟩
def zea:Fn:=⟨2,2,AB,(.k (.ite (.or (.not (.isi (.v 0) [.tuple])) (.cmp .ne (.blt .len (.k (.v 0) .e)) (.v 1))) (.k .nope .e) .e) (.k (.ret (.blt .all (.k (.comp [AD] (.n 0) (.seq (.v 0)) (.cst (.bl AB)) (.call 20 (.k (.v 0) (.k (.neg (.cst zdd)) (.k (.cst zdd) .e))))) .e))) .e))⟩
def zac:Fn:=⟨0,1,AB,(.k (.asg (.n 0) (.bin .add (.call 24 (.k (.cst zck) (.k (.s "a") .e))) (.call 24 (.k (.cst zcZ) (.k (.s "b") .e))))) (.k (.ret (.bin .add (.bin .add (.bin .add (.bin .add (.bin .add (.v 0) (.call 18 .e)) (.call 26 .e)) (.call 27 .e)) (.call 31 .e)) (.call 12 (.k (.i 0) (.k (.i 2) .e))))) .e))⟩
def zdj:Fn:=⟨2,2,AB,(.k (.ret (.call 2 (.k (.lst (.k (.tup (.k (.s "twice") (.k (.cst zaD) (.k (.call 1 (.k (.v 1) .e)) .e)))) (.k (.call 7 (.k (.v 0) .e)) .e))) .e))) .e)⟩
def zdX:Fn:=⟨1,1,AB,(.k (.ret (.call 4 (yW (.k (.idx (.v 0) (.i 0)) (.k (.i 1) .e)) (yo [.inr 0,.inr 0,.inr 0])))) .e)⟩
def zcI:Fn:=⟨0,0,AB,(.k (.ret (.bin .add (.call 30 (.k (.cst zck) (.k (.s "b") (.k (.bin .add (.call 28 .e) (.call 29 (.k (.cst zck) (.k (.s "b") .e)))) .e)))) (.call 2 (.k (.lst (.k (.call 7 (.k (.cst zcx) .e)) .e)) .e)))) .e)⟩
def zcJ:Fn:=⟨0,1,AB,(.k (.asg (.n 0) (.tup (.k (.call 5 (yW (.k (.i 1) (.k (.tup (.k (.call 25 (.k (.cst zck) .e)) (.k (.call 4 (yW (.k (.s "b") .e) (yo [.inr 0,.inr 0,.inr 0,.inl (.i 1)]))) .e))) .e)) (yo [.inr 0,.inr 0,.inr 0,.inl (.i 1)]))) (.k (.call 5 (yW (.k (.neg (.i 1)) (.k (.tup (.k (.call 25 (.k (.cst zcx) .e)) .e)) .e)) (yo [.inr 0,.inr 0,.inr 0,.inl (.i 2)]))) .e)))) (.k (.ret (.call 30 (.k (.cst zcZ) (.k (.s "a") (.k (.bin .add (.bin .add (.call 28 .e) (.v 0)) (.call 29 (.k (.cst zcZ) (.k (.s "a") .e)))) .e))))) .e))⟩
def za3:Fn:=⟨0,0,AB,(.k (.ret (.tup (.k (.call 5 (yW (.k (.i 1) (.k (.tup (.k (.call 4 (yW (.k (.s "c") .e) (yo [.inr 0,.inr 0,.inr 0,.inl (.i 2)]))) .e)) .e)) (yo [.inr 0,.inr 0,.inr 0,.inr 0]))) (.k (.call 5 (yW (.k (.neg (.i 1)) (.k (.tup (.k (.call 4 (yW (.k (.s "a") .e) (yo [.inr 0,.inr 0,.inr 0,.inl (.i 1)]))) (.k (.call 4 (yW (.k (.s "b") .e) (yo [.inr 0,.inr 0,.inr 0,.inl (.i 1)]))) .e))) .e)) (yo [.inr 0,.inr 0,.inr 0,.inr 0]))) .e)))) .e)⟩
def zcH:Fn:=⟨2,2,AB,(.k (.ret (.tup (.k (.call 5 (yW (.k (.i 1) (.k (.tup (.k (.call 25 (.k (.v 0) .e)) (.k (.call 4 (yW (.k (.v 1) .e) (yo [.inr 0,.inl (.i 1),.inr 0,.inr 0]))) .e))) .e)) (yo [.inr 0,.inr 0,.inr 0,.inl (.i 1)]))) (.k (.call 5 (yW (.k (.neg (.i 1)) (.k (.tup (.k (.tup (.k (.s "mark") .e)) .e)) .e)) (yo [.inr 0,.inl (.i 1),.inr 0,.inl (.i 1)]))) .e)))) .e)⟩
def zcM:Fn:=⟨3,4,AB,(.k (.asg (.n 3) (.call 0 (yW (.k (.s "c") .e) (yo [.inr 0,.inl (.i 1),.inr 0,.inl (.i 1)])))) (.k (.ret (.call 3 (.k (.cst zaa) (.k (.v 2) (.k (.call 2 (.k (.lst (.k (.tup (.k (.s "times") (.k (.cst zfZ) (.k (.cst zd4) (.k (.call 0 (yW (.k (.v 1) .e) (yo [.inr 0,.inl (.i 1),.inr 0,.inr 0]))) (.k (.v 0) .e)))))) (.k (.tup (.k (.s "less") (.k (.v 3) (.k (.v 3) (.k (.cst zfZ) .e))))) .e))) .e)) .e))))) .e))⟩
def zbb:Fn:=⟨0,1,AB,(.k (.asg (.n 0) (.call 10 (.k (.cst zaU) (.k (.call 0 (yW (.k (.s "c") .e) (yo [.inr 0,.inl (.i 1),.inr 0,.inl (.i 1)]))) (.k (.cst zaS) (.k (.cst zaa) .e)))))) (.k (.ret (.bin .add (.bin .add (.call 2 (.k (.call 9 (.k (.cst zaS) (.k (.call 1 (.k (.s "c") .e)) .e))) .e)) (.v 0)) (.call 2 (.k (.lst (.k (.tup (.k (.s "ask") (.k (.cst zaU) .e))) (.k (.call 7 (.k (.idx (.cst zz) (.i 1)) .e)) .e))) .e)))) .e))⟩
def za0:Fn:=⟨0,3,AB,(.k (.asg (.n 0) (.tup (.k (.s "less") (.k (.call 0 (yW (.k (.s "c") .e) (yo [.inr 0,.inl (.i 1),.inr 0,.inr 0]))) (.k (.cst zcN) (.k (.call 0 (yW (.k (.s "a") .e) (yo [.inr 0,.inl (.i 1),.inr 0,.inr 0]))) .e)))))) (.k (.asg (.n 1) (.tup (.k (.call 5 (yW (.k (.i 1) (.k (.tup (.k (.call 4 (yW (.k (.s "a") .e) (yo [.inr 0,.inl (.i 1),.inr 0,.inr 0]))) .e)) .e)) (yo [.inr 0,.inr 0,.inr 0,.inr 0]))) (.k (.call 5 (yW (.k (.i 1) (.k (.tup (.k (.call 4 (yW (.k (.s "c") .e) (yo [.inr 0,.inl (.i 1),.inr 0,.inr 0]))) .e)) .e)) (yo [.inr 0,.inr 0,.inr 0,.inr 0]))) (.k (.call 5 (yW (.k (.neg (.i 1)) (.k (.tup (.k (.tup (.k (.s "mark") .e)) .e)) .e)) (yo [.inr 0,.inl (.i 1),.inr 0,.inr 0]))) .e))))) (.k (.asg (.n 2) (.call 34 (.k (.cst zcN) (.k (.call 1 (.k (.s "a") .e)) (.k (.call 1 (.k (.s "c") .e)) .e))))) (.k (.ret (.bin .add (.bin .add (.call 33 (.k (.v 0) (.k (.v 1) .e))) (.v 2)) (.call 12 (.k (.i 0) (.k (.i 1) .e))))) .e))))⟩
def zff:Fn:=⟨2,2,AB,(.k (.ret (.bin .add (.bin .add (.call 2 (.k (.lst (.k (.tup (.k (.s "mark") (.k (.i 0) .e))) .e)) .e)) (.call 3 (.k (.cst zaa) (.k (.v 1) (.k (.call 2 (.k (.lst (.k (.v 0) .e)) .e)) .e))))) (.call 2 (.k (.lst (.k (.call 7 (.k (.idx (.cst zz) (.i 0)) .e)) .e)) .e)))) .e)⟩
def zdv:Fn:=⟨3,3,AB,(.k (.ret (.call 2 (.k (.lst (.k (.tup (.k (.s "odd") (.k (.cst zaD) (.k (.v 0) (.k (.v 1) .e))))) (.k (.tup (.k (.s "odd") (.k (.cst zdE) (.k (.v 0) (.k (.v 2) .e))))) (.k (.tup (.k (.s "both") (.k (.cst zaD) (.k (.cst zaD) (.k (.cst zdE) .e))))) (.k (.tup (.k (.s "twice") (.k (.cst zaD) (.k (.cst zaD) .e)))) (.k (.call 7 (.k (.idx (.cst zz) (.i 1)) .e)) .e)))))) .e))) .e)⟩
noncomputable def zc4:Fn:=⟨1,1,AB,(.k (.ret (.call 37 (.k (.v 0) (.k (.cst (.bl AC)) .e)))) .e)⟩
noncomputable def zbO:Fn:=⟨1,1,AB,(.k (.ret (.call 37 (.k (.v 0) (.k (.cst (.bl AB)) .e)))) .e)⟩
def yK:Fn:=⟨2,4,AB,(.k (.ite (.or (.not (.call 38 (.k (.v 0) .e))) (.cmp .ne (.blt .len (.k (.v 0) .e)) (.bin .add (.blt .len (.k (.dix zah (.idx (.v 0) (.i 0))) .e)) (.i 1)))) (.k (.ret (.cst (.bl AC))) .e) .e) (.k (.for (.t [2,3]) (.zip (.dix zah (.idx (.v 0) (.i 0))) (.slc (.v 0) (.i 1) (.cst .non))) (.k (.ite (.not (.call 39 (.k (.v 2) (.k (.v 3) (.k (.v 1) .e))))) (.k (.ret (.cst (.bl AC))) .e) .e) .e)) (.k (.ret (.or (.cmp .ne (.idx (.v 0) (.i 0)) (.s "times")) (.cmp .ne (.idx (.v 0) (.i 1)) (.idx (.v 0) (.i 2))))) .e)))⟩
def zbi:Fn:=⟨1,1,AB,(.k (.ret (.and (.isi (.v 0) [.tuple]) (.and (.cmp .gt (.blt .len (.k (.v 0) .e)) (.i 0)) (.and (.isi (.idx (.v 0) (.i 0)) [.str]) (.din (.idx (.v 0) (.i 0)) zah))))) .e)⟩
noncomputable def zad:Fn:=⟨3,3,AB,(.k (.ite (.cmp .eq (.v 0) (.s "figure")) (.k (.ret (.call 20 (.k (.v 1) (.k (.i 0) (.k (.i 1) .e))))) .e) .e) (.k (.ret (.ite (.v 2) (.call 41 (.k (.v 1) .e)) (.call 40 (.k (.v 1) .e)))) .e))⟩
noncomputable def zb7:Fn:=⟨1,1,AB,(.k (.ret (.and (.call 42 (.k (.v 0) .e)) (.call 20 (.k (.idx (.v 0) (.i 1)) (.k (.i 0) (.k (.i 99) .e)))))) .e)⟩
noncomputable def zbE:Fn:=⟨1,1,AB,(.k (.ret (.and (.call 42 (.k (.v 0) .e)) (.call 22 (.k (.idx (.v 0) (.i 1)) (.k (.i 4) .e))))) .e)⟩
noncomputable def zau:Fn:=⟨1,1,AB,(.k (.ret (.and (.isi (.v 0) [.tuple]) (.and (.cmp .eq (.blt .len (.k (.v 0) .e)) (.i 2)) (.call 21 (.k (.idx (.v 0) (.i 0)) .e))))) .e)⟩
def zci:Fn:=⟨1,1,AB,(.k (.ret (.and (.isi (.v 0) [.tuple]) (.and (.cmp .le (.blt .len (.k (.v 0) .e)) (.cst ze5)) (.blt .all (.k (.comp [AD] (.n 0) (.seq (.v 0)) (.cst (.bl AB)) (.call 45 (.k (.v 0) .e))) .e))))) .e)⟩
noncomputable def zbw:Fn:=⟨4,4,AB,(.k (.ret (.bin .add (.bin .add (.bin .add (.idx (.v 0) (.i 0)) (.bin .mul (.idx (.v 0) (.i 1)) (.v 2))) (.bin .mul (.idx (.v 0) (.i 2)) (.v 3))) (.bin .mul (.idx (.v 0) (.i 3)) (.v 1)))) .e)⟩
def ze2:Fn:=⟨1,4,AB,(.k (.ite (.or (.not (.isi (.v 0) [.tuple])) (.cmp .ne (.blt .len (.k (.v 0) .e)) (.i 3))) (.k (.ret (.cst (.bl AC))) .e) .e) (.k (.asg (.t [1,2,3]) (.v 0)) (.k (.ret (.and (.call 20 (.k (.v 1) (.k (.bin .sub (.i 1) (.cst zbC)) (.k (.bin .sub (.cst zbC) (.i 1)) .e)))) (.and (.call 22 (.k (.v 2) (.k (.i 6) .e))) (.call 46 (.k (.v 3) .e))))) .e)))⟩
def zcG:Fn:=⟨1,1,AB,(.k (.ret (.and (.isi (.v 0) [.tuple]) (.and (.cmp .le (.blt .len (.k (.v 0) .e)) (.cst zem)) (.blt .all (.k (.comp [AD] (.n 0) (.seq (.v 0)) (.cst (.bl AB)) (.call 47 (.k (.v 0) .e))) .e))))) .e)⟩
noncomputable def zd0:Fn:=⟨1,1,AB,(.k (.ite (.or (.not (.isi (.v 0) [.tuple])) (.cmp .eq (.blt .len (.k (.v 0) .e)) (.i 0))) (.k (.ret (.cst (.bl AC))) .e) .e) (.k (.ite (.cmp .eq (.idx (.v 0) (.i 0)) (.s "mark")) (.k (.ret (.cmp .eq (.blt .len (.k (.v 0) .e)) (.i 1))) .e) .e) (.k (.ite (.or (.cmp .ne (.idx (.v 0) (.i 0)) (.s "slice")) (.or (.cmp .ne (.blt .len (.k (.v 0) .e)) (.i 4)) (.not (.call 21 (.k (.idx (.v 0) (.i 1)) .e))))) (.k (.ret (.cst (.bl AC))) .e) .e) (.k (.ret (.and (.call 22 (.k (.idx (.v 0) (.i 2)) (.k (.i 4) .e))) (.call 22 (.k (.idx (.v 0) (.i 3)) (.k (.i 4) .e))))) .e))))⟩
noncomputable def zX:Fn:=⟨3,3,AC,(.k (.sfl 20 (.v 0) (AF "w") (.v 1)) (.k (.sfl 20 (.v 0) (AF "n") (.v 2)) (.k (.sfl 20 (.v 0) (AF "steps") (.newl .e)) (.k (.sfl 20 (.v 0) (AF "rows") (.i 0)) (.k (.sfl 20 (.v 0) (AF "rounds") (.i 0)) .e)))))⟩
noncomputable def yh:Fn:=⟨3,4,AC,(.k (.for (.n 3) (.seq (.v 1)) (.k (.ite (.cmp .eq (.idx (.v 3) (.i 0)) (.s "row")) (.k (.expr (.mcl 20 52 (AF "add_row") (.v 0) (.k (.idx (.v 3) (.i 1)) (.k (.v 2) .e)))) .e) (.k (.expr (.mcl 20 50 (AF "go_rounds") (.v 0) (.k (.v 3) (.k (.v 2) .e)))) .e)) .e)) .e)⟩
noncomputable def yj:Fn:=⟨3,5,AC,(.k (.asg (.n 3) (.blt .max (.k (.i 0) (.k (.mcl 20 51 (AF "count_of") (.v 0) (.k (.idx (.v 1) (.i 1)) .e)) .e)))) (.k (.for (.n 4) (.range1 (.v 3)) (.k (.expr (.mcl 20 54 (AF "add_asked") (.v 0) (.k (.idx (.v 1) (.i 2)) (.k (.bin .add (.v 2) (.tup (.k (.v 4) .e))) .e)))) (.k (.expr (.mcl 20 53 (AF "add_round") (.v 0) .e)) (.k (.expr (.mcl 20 49 (AF "go_parts") (.v 0) (.k (.idx (.v 1) (.i 3)) (.k (.bin .add (.v 2) (.tup (.k (.v 4) .e))) .e)))) .e)))) (.k (.expr (.mcl 20 54 (AF "add_asked") (.v 0) (.k (.idx (.v 1) (.i 2)) (.k (.bin .add (.v 2) (.tup (.k (.v 3) .e))) .e)))) .e)))⟩
noncomputable def zD:Fn:=⟨2,5,AC,(.k (.asg (.t [2,3,4]) (.v 1)) (.k (.ret (.bin .add (.bin .add (.v 2) (.bin .mul (.v 3) (.fld 20 (.v 0) (AF "n")))) (.bin .mul (.bin .mul (.v 4) (.fld 20 (.v 0) (AF "w"))) (.fld 20 (.v 0) (AF "n"))))) .e))⟩
def zJ:Fn:=⟨3,6,AC,(.k (.asg (.t [3,4]) (.call 60 (.k (.v 2) .e))) (.k (.asg (.n 5) (.blt .tuple (.k (.comp [AD,AA 3,AA 4,AA 0] (.n 0) (.seq (.v 1)) (.cst (.bl AB)) (.call 61 (.k (.v 0) (.k (.fld 20 (.v 3) (AF "n")) (.k (.v 1) (.k (.v 2) .e)))))) .e))) (.k (.sfl 20 (.v 0) (AF "rows") (.bin .add (.fld 20 (.v 0) (AF "rows")) (.i 1))) (.k (.ite (.or (.not (.call 35 (.k (.v 5) .e))) (.cmp .gt (.fld 20 (.v 0) (AF "rows")) (.cst zdz))) (.k .nope .e) .e) (.k (.expr (.mth .append (.fld 20 (.v 0) (AF "steps")) (.k (.tup (.k (.s "row") (.k (.v 5) .e))) .e))) .e)))))⟩
def zx:Fn:=⟨1,1,AC,(.k (.sfl 20 (.v 0) (AF "rounds") (.bin .add (.fld 20 (.v 0) (AF "rounds")) (.i 1))) (.k (.ite (.cmp .gt (.fld 20 (.v 0) (AF "rounds")) (.cst zbT)) (.k .nope .e) .e) .e))⟩
noncomputable def zy:Fn:=⟨3,5,AC,(.k (.asg (.t [3,4]) (.call 60 (.k (.v 2) .e))) (.k (.expr (.mth .append (.fld 20 (.v 0) (AF "steps")) (.k (.tup (.k (.s "asked") (.k (.v 1) (.k (.v 3) (.k (.v 4) .e))))) .e))) .e))⟩
def zbg:Fn:=⟨1,1,AB,(.k (.ret (.call 58 (.k (.v 0) (.k (.cst zfr) .e)))) .e)⟩
noncomputable def zbm:Fn:=⟨3,3,AB,(.k (.ret (.blt .tuple (.k (.comp [AD] (.n 0) (.seq (.call 57 (.k (.v 0) (.k (.v 1) (.k (.v 2) .e))))) (.cmp .eq (.idx (.v 0) (.i 0)) (.s "row")) (.idx (.v 0) (.i 1))) .e))) .e)⟩
noncomputable def zbn:Fn:=⟨3,4,AB,(.k (.ite (.not (.call 55 (.k (.v 0) .e))) (.k .nope .e) .e) (.k (.asg (.n 3) (.new 20 48 (.k (.v 1) (.k (.v 2) .e)))) (.k (.expr (.mcl 20 49 (AF "go_parts") (.v 3) (.k (.v 0) (.k (.tup .e) .e)))) (.k (.ret (.frz (.fld 20 (.v 3) (AF "steps")))) .e))))⟩
noncomputable def zdQ:Fn:=⟨2,2,AB,(.k (.ret (.and (.isi (.v 0) [.tuple]) (.blt .all (.k (.comp [AD,AA 1] (.n 0) (.seq (.v 0)) (.cst (.bl AB)) (.call 59 (.k (.v 0) (.k (.v 1) .e)))) .e)))) .e)⟩
noncomputable def zfw:Fn:=⟨2,2,AB,(.k (.ite (.or (.not (.isi (.v 0) [.tuple])) (.cmp .eq (.blt .len (.k (.v 0) .e)) (.i 0))) (.k (.ret (.cst (.bl AC))) .e) .e) (.k (.ite (.cmp .eq (.idx (.v 0) (.i 0)) (.s "row")) (.k (.ret (.and (.cmp .eq (.blt .len (.k (.v 0) .e)) (.i 2)) (.call 36 (.k (.idx (.v 0) (.i 1)) .e)))) .e) .e) (.k (.ite (.or (.cmp .ne (.idx (.v 0) (.i 0)) (.s "rounds")) (.or (.cmp .ne (.blt .len (.k (.v 0) .e)) (.i 4)) (.cmp .eq (.v 1) (.i 0)))) (.k (.ret (.cst (.bl AC))) .e) .e) (.k (.ret (.and (.call 22 (.k (.idx (.v 0) (.i 1)) (.k (.i 3) .e))) (.and (.call 43 (.k (.idx (.v 0) (.i 2)) .e)) (.call 58 (.k (.idx (.v 0) (.i 3)) (.k (.bin .sub (.v 1) (.i 1)) .e)))))) .e))))⟩
noncomputable def zaB:Fn:=⟨1,1,AB,(.k (.ret (.slc (.bin .add (.v 0) (.tup (.k (.i 0) (.k (.i 0) .e)))) (.cst .non) (.i 2))) .e)⟩
noncomputable def zaV:Fn:=⟨4,4,AB,(.k (.ite (.not (.isi (.v 0) [.tuple])) (.k (.ret (.v 0)) .e) .e) (.k (.ret (.tup (.k (.idx (.v 0) (.i 0)) (.k (.call 44 (.k (.idx (.v 0) (.i 1)) (.k (.v 1) (.k (.v 2) (.k (.v 3) .e))))) .e)))) .e))⟩
def zc8:Fn:=⟨1,1,AB,(.k (.ite (.not (.call 64 (.k (.v 0) .e))) (.k .nope .e) .e) (.k (.ite (.cmp .eq (.idx (.v 0) (.i 0)) (.s "led")) (.k (.ret (.call 13 (.k (.idx (.v 0) (.i 1)) (.k (.idx (.v 0) (.i 2)) (.k (.idx (.v 0) (.i 3)) .e))))) .e) .e) (.k (.ite (.cmp .isin (.idx (.v 0) (.i 0)) (.cst zeq)) (.k .nope .e) .e) (.k (.ite (.cmp .isin (.idx (.v 0) (.i 0)) (.cst zdS)) (.k .nope .e) .e) (.k (.ret (.call 68 (.k (.idx (.v 0) (.i 0)) .e))) .e)))))⟩
noncomputable def zaC:Fn:=⟨3,3,AB,(.k (.ret (.call 56 (.k (.call 62 (.k (.v 0) .e)) (.k (.v 1) (.k (.v 2) .e))))) .e)⟩
def zfj:Fn:=⟨1,1,AB,(.k (.ite (.or (.not (.isi (.v 0) [.tuple])) (.cmp .eq (.blt .len (.k (.v 0) .e)) (.i 0))) (.k .nope .e) .e) (.k (.ite (.cmp .eq (.idx (.v 0) (.i 0)) (.s "led")) (.k (.ret (.and (.cmp .eq (.blt .len (.k (.v 0) .e)) (.i 4)) (.and (.cmp .isin (.idx (.v 0) (.i 1)) (.cst zi2)) (.and (.cmp .isin (.idx (.v 0) (.i 2)) (.cst zi2)) (.call 20 (.k (.idx (.v 0) (.i 3)) (.k (.neg (.i 3)) (.k (.i 4) .e)))))))) .e) .e) (.k (.ite (.cmp .isin (.idx (.v 0) (.i 0)) (.cst zeq)) (.k .nope .e) .e) (.k (.ret (.and (.cmp .eq (.blt .len (.k (.v 0) .e)) (.i 1)) (.or (.cmp .isin (.idx (.v 0) (.i 0)) (.cst zep)) (.cmp .isin (.idx (.v 0) (.i 0)) (.cst zkC))))) .e))))⟩
def zdH:Fn:=⟨1,1,AB,(.k (.ret (.cmp .isin (.idx (.v 0) (.i 0)) (.cst zep))) .e)⟩
def zB:Fn:=⟨2,2,AB,(.k (.ite (.cmp .eq (.idx (.v 0) (.i 0)) (.s "compare")) (.k .nope .e) .e) (.k (.ite (.cmp .eq (.idx (.v 0) (.i 0)) (.s "led")) (.k (.ret (.bin .add (.v 1) (.idx (.v 0) (.i 3)))) .e) .e) (.k (.ret (.ite (.cmp .isin (.idx (.v 0) (.i 0)) (.cst zbu)) (.bin .mul (.i 2) (.v 1)) (.v 1))) .e)))⟩
def zan:Fn:=⟨2,2,AB,(.k (.ret (.ite (.cmp .isin (.idx (.v 0) (.i 0)) (.cst zaj)) (.v 1) (.i 0))) .e)⟩
noncomputable def zbc:Fn:=⟨1,1,AB,(.k (.ite (.cmp .eq (.v 0) (.s "sum")) (.k .nope .e) .e) (.k (.ite (.cmp .eq (.v 0) (.s "difference")) (.k .nope .e) .e) (.k (.ite (.cmp .eq (.v 0) (.s "turned")) (.k (.ret (.call 32 .e)) .e) .e) (.k (.ite (.cmp .eq (.v 0) (.s "compare")) (.k .nope .e) .e) (.k (.ite (.cmp .eq (.v 0) (.s "bare")) (.k .nope .e) .e) (.k (.ite (.cmp .eq (.v 0) (.s "product")) (.k (.ret (.call 17 .e)) .e) .e) (.k (.ite (.cmp .eq (.v 0) (.s "signed product")) (.k (.ret (.call 23 .e)) .e) .e) (.k .nope (.k .nope .e)))))))))⟩
def zgu:Fn:=⟨5,6,AB,(.k (.mkr 5 zT (.v 0) (.k (.v 1) (.k (.v 2) (.k (.v 3) (.k (.v 4) .e))))) .e)⟩
noncomputable def zb3:Fn:=⟨1,1,AB,(.k (.ret (.bin .sub (.bin .shl (.i 1) (.v 0)) (.i 1))) .e)⟩
noncomputable def zen:Fn:=⟨4,4,AB,(.k (.ret (.tup (.k (.v 1) (.k (.v 3) .e)))) .e)⟩
noncomputable def zes:Fn:=⟨4,4,AB,(.k (.ret (.tup (.k (.bin .sub (.call 70 (.k (.v 0) .e)) (.v 1)) (.k (.v 3) .e)))) .e)⟩
noncomputable def zcU:Fn:=⟨4,5,AB,(.k (.asg (.n 4) (.bin .add (.bin .add (.v 1) (.v 2)) (.v 3))) (.k (.ret (.tup (.k (.bin .band (.v 4) (.call 70 (.k (.v 0) .e))) (.k (.bin .shr (.v 4) (.v 0)) .e)))) .e))⟩
noncomputable def zao:Fn:=⟨4,5,AB,(.k (.asg (.n 4) (.bin .sub (.bin .sub (.v 1) (.v 2)) (.v 3))) (.k (.ret (.tup (.k (.bin .band (.v 4) (.call 70 (.k (.v 0) .e))) (.k (.ite (.cmp .lt (.v 4) (.i 0)) (.i 1) (.i 0)) .e)))) .e))⟩
noncomputable def zbW:Fn:=⟨4,4,AB,(.k (.ret (.tup (.k (.bin .band (.v 1) (.v 2)) (.k (.v 3) .e)))) .e)⟩
noncomputable def zc6:Fn:=⟨4,4,AB,(.k (.ret (.tup (.k (.bin .bor (.v 1) (.v 2)) (.k (.v 3) .e)))) .e)⟩
noncomputable def zcW:Fn:=⟨4,4,AB,(.k (.ret (.tup (.k (.bin .bxor (.v 1) (.v 2)) (.k (.v 3) .e)))) .e)⟩
noncomputable def zco:Fn:=⟨4,4,AB,(.k (.ret (.call 73 (.k (.v 0) (.k (.v 1) (.k (.v 1) (.k (.v 3) .e)))))) .e)⟩
noncomputable def zc5:Fn:=⟨4,4,AB,(.k (.ret (.tup (.k (.bin .bor (.bin .shr (.v 1) (.i 1)) (.bin .shl (.v 3) (.bin .sub (.v 0) (.i 1)))) (.k (.bin .band (.v 1) (.i 1)) .e)))) .e)⟩
noncomputable def zN:Fn:=⟨2,2,AC,(.k (.sfl 21 (.v 0) (AF "w") (.v 1)) (.k (.sfl 21 (.v 0) (AF "words") (.dict0 AB)) (.k (.sfl 21 (.v 0) (AF "marked") (.i 0)) .e)))⟩
noncomputable def zat:Fn:=⟨4,5,AC,(.k (.asg (.n 4) (.call 88 (.k (.v 1) (.k (.v 2) .e)))) (.k (.ite (.not (.call 20 (.k (.v 3) (.k (.i 0) (.k (.call 70 (.k (.fld 21 (.v 0) (AF "w")) .e)) .e))))) (.k .nope .e) .e) (.k (.dput (.fld 21 (.v 0) (AF "words")) (.v 4) (.v 3)) .e)))⟩
noncomputable def zak:Fn:=⟨3,3,AC,(.k (.ret (.mcl 21 84 (AF "held_in") (.v 0) (.k (.call 88 (.k (.v 1) (.k (.v 2) .e))) .e))) .e)⟩
noncomputable def yH:Fn:=⟨2,3,AC,(.k (.for (.n 2) (.seq (.v 1)) (.k (.expr (.call 89 (.k (.v 2) .e))) .e)) (.k (.for (.n 2) (.seq (.v 1)) (.k (.expr (.mcl 21 85 (AF "go_row") (.v 0) (.k (.v 2) .e))) .e)) .e))⟩
noncomputable def zS:Fn:=⟨2,2,AC,(.k (.ret (.mth .get (.fld 21 (.v 0) (AF "words")) (.k (.v 1) (.k (.i 0) .e)))) .e)⟩
def zd:Fn:=⟨2,2,AC,(.k (.ite (.cmp .eq (.idx (.v 1) (.i 0)) (.s "mark")) (.k (.sfl 21 (.v 0) (AF "marked") (.idx (.v 1) (.i 1))) .e) (.k (.ite (.cmp .eq (.idx (.v 1) (.i 0)) (.s "ask")) (.k (.sfl 21 (.v 0) (AF "marked") (.ite (.cmp .eq (.mcl 21 84 (AF "held_in") (.v 0) (.k (.idx (.v 1) (.i 1)) .e)) (.i 0)) (.i 0) (.i 1))) .e) (.k (.ite (.cmp .eq (.idx (.v 1) (.i 0)) (.s "set")) (.k (.dput (.fld 21 (.v 0) (AF "words")) (.idx (.v 1) (.i 1)) (.idx (.v 1) (.i 2))) .e) (.k (.ite (.cmp .eq (.idx (.v 1) (.i 0)) (.s "times")) (.k (.expr (.mcl 21 86 (AF "go_times") (.v 0) (.k (.v 1) .e))) .e) (.k (.expr (.mcl 21 87 (AF "go_made") (.v 0) (.k (.v 1) .e))) .e)) .e)) .e)) .e)) .e)⟩
noncomputable def zM:Fn:=⟨2,3,AC,(.k (.asg (.n 2) (.bin .mul (.mcl 21 84 (AF "held_in") (.v 0) (.k (.idx (.v 1) (.i 3)) .e)) (.mcl 21 84 (AF "held_in") (.v 0) (.k (.idx (.v 1) (.i 4)) .e)))) (.k (.dput (.fld 21 (.v 0) (AF "words")) (.idx (.v 1) (.i 1)) (.bin .band (.v 2) (.call 70 (.k (.fld 21 (.v 0) (AF "w")) .e)))) (.k (.dput (.fld 21 (.v 0) (AF "words")) (.idx (.v 1) (.i 2)) (.bin .shr (.v 2) (.fld 21 (.v 0) (AF "w")))) .e)))⟩
noncomputable def zV:Fn:=⟨2,6,AC,(.k (.asg (.t [2,3]) (.tup (.k (.mcl 21 84 (AF "held_in") (.v 0) (.k (.idx (.v 1) (.i 2)) .e)) (.k (.mcl 21 84 (AF "held_in") (.v 0) (.k (.idx (.v 1) (.neg (.i 1))) .e)) .e)))) (.k (.asg (.t [4,5]) (.call 69 (.k (.idx (.v 1) (.i 0)) (.k (.fld 21 (.v 0) (AF "w")) (.k (.v 2) (.k (.v 3) (.k (.fld 21 (.v 0) (AF "marked")) .e))))))) (.k (.dput (.fld 21 (.v 0) (AF "words")) (.idx (.v 1) (.i 1)) (.v 4)) (.k (.sfl 21 (.v 0) (AF "marked") (.v 5)) .e))))⟩
noncomputable def zbd:Fn:=⟨2,2,AB,(.k (.ite (.not (.call 40 (.k (.tup (.k (.v 0) (.k (.v 1) .e))) .e))) (.k .nope .e) .e) (.k (.ret (.tup (.k (.v 0) (.k (.v 1) .e)))) .e))⟩
noncomputable def zap:Fn:=⟨1,1,AB,(.k (.ite (.not (.call 35 (.k (.v 0) .e))) (.k .nope .e) .e) .e)⟩
noncomputable def zbl:Fn:=⟨3,3,AB,(.k (.ite (.or (.cmp .lt (.v 0) (.i 0)) (.cmp .ge (.v 0) (.bin .shl (.i 1) (.bin .mul (.v 1) (.v 2))))) (.k .nope .e) .e) (.k (.ret (.call 92 (.k (.v 0) (.k (.v 1) (.k (.v 2) .e))))) .e))⟩
noncomputable def zeC:Fn:=⟨2,2,AB,(.k (.ret (.blt .sum (.k (.comp [AD,AD,AA 1] (.t [0,1]) (.enum (.v 0)) (.cst (.bl AB)) (.bin .shl (.v 1) (.bin .mul (.v 2) (.v 0)))) .e))) .e)⟩
noncomputable def zal:Fn:=⟨3,4,AB,(.k (.asg (.n 3) (.bin .sub (.bin .shl (.i 1) (.v 1)) (.i 1))) (.k (.ret (.blt .tuple (.k (.comp [AD,AA 3,AA 0,AA 1] (.n 0) (.range1 (.v 2)) (.cst (.bl AB)) (.bin .band (.bin .shr (.v 2) (.bin .mul (.v 3) (.v 0))) (.v 1))) .e))) .e))⟩
def zag:Fn:=⟨5,5,AB,(.k (.ite (.not (.call 64 (.k (.v 0) .e))) (.k .nope .e) .e) (.k (.expr (.call 90 (.k (.v 3) (.k (.v 1) (.k (.v 2) .e))))) (.k (.expr (.call 90 (.k (.v 4) (.k (.v 1) (.k (.v 2) .e))))) (.k (.ite (.and (.cmp .ne (.v 4) (.i 0)) (.not (.call 65 (.k (.v 0) .e)))) (.k .nope .e) .e) (.k (.ite (.and (.cmp .eq (.v 4) (.i 0)) (.cmp .isin (.idx (.v 0) (.i 0)) (.cst zaj))) (.k .nope .e) .e) .e)))))⟩
def yco:Fn:=⟨5,7,AB,(.k (.expr (.call 93 (.k (.v 0) (.k (.v 1) (.k (.v 2) (.k (.v 3) (.k (.v 4) .e))))))) (.k (.asg (.n 5) (.call 95 (.k (.v 1) (.k (.v 2) (.k (.v 3) (.k (.v 4) .e)))))) (.k (.expr (.mcl 21 83 (AF "run") (.v 5) (.k (.call 63 (.k (.v 0) (.k (.v 1) (.k (.v 2) .e)))) .e))) (.k (.asg (.n 6) (.call 96 (.k (.v 5) (.k (.s "c") (.k (.call 66 (.k (.v 0) (.k (.v 2) .e))) .e))))) (.k (.ret (.tup (.k (.v 6) (.k (.call 96 (.k (.v 5) (.k (.s "d") (.k (.call 67 (.k (.v 0) (.k (.v 2) .e))) .e)))) (.k (.call 96 (.k (.v 5) (.k (.s "m") (.k (.cst zcK) .e)))) .e))))) .e)))))⟩
def yC:Fn:=⟨4,9,AC,(.k (.asg (.n 4) (.new 21 80 (.k (.v 0) .e))) (.k (.for (.t [5,6]) (.seq (.tup (.k (.tup (.k (.s "a") (.k (.v 2) .e))) (.k (.tup (.k (.s "b") (.k (.v 3) .e))) .e)))) (.k (.for (.t [7,8]) (.enum (.call 92 (.k (.v 6) (.k (.v 0) (.k (.v 1) .e))))) (.k (.expr (.mcl 21 81 (AF "put") (.v 4) (.k (.v 5) (.k (.v 7) (.k (.v 8) .e))))) .e)) .e)) (.k (.ret (.v 4)) .e)))⟩
noncomputable def yat:Fn:=⟨3,3,AC,(.k (.ret (.blt .tuple (.k (.comp [AD,AA 1,AA 0] (.n 0) (.range1 (.v 2)) (.cst (.bl AB)) (.mcl 21 82 (AF "word") (.v 2) (.k (.v 1) (.k (.v 0) .e)))) .e))) .e)⟩
noncomputable def zc2:Fn:=⟨1,1,AC,(.k (.ret (.newl (.k (.slc (.v 0) (.cst .non) (.i 63)) (.k (.i 0) (.k (.i 0) (.k (.cst (.bl AC)) .e)))))) .e)⟩
noncomputable def yaE:Fn:=⟨1,8,AB,(.k (.asg (.n 1) (.tup (.k (.i 2147483647) (.k (.i 2147483629) (.k (.i 2147483587) (.k (.i 2147483579) (.k (.i 2147483563) .e))))))) (.k (.asg (.n 2) (.i 0)) (.k (.for (.t [3,4]) (.enum (.v 1)) (.k (.asg (.n 5) (.bin .add (.v 0) (.idx (.tup (.k (.i 11) (.k (.i 101) (.k (.i 1009) (.k (.i 10007) (.k (.i 100003) .e)))))) (.v 3)))) (.k (.asg (.n 5) (.bin .mod (.bin .mul (.v 5) (.bin .add (.i 48271) (.bin .mul (.i 2) (.v 3)))) (.v 4))) (.k (.asg (.n 6) (.bin .mod (.bin .mul (.v 5) (.v 5)) (.v 4))) (.k (.asg (.n 7) (.bin .mod (.bin .mul (.bin .mod (.bin .mul (.v 6) (.v 6)) (.v 4)) (.v 5)) (.v 4))) (.k (.asg (.n 2) (.bin .add (.bin .mul (.v 2) (.v 4)) (.v 7))) .e)))))) (.k (.ret (.v 2)) .e))))⟩
noncomputable def yam:Fn:=⟨1,4,AC,(.k (.asg (.t [1,2]) (.tup (.k (.idx (.v 0) (.i 0)) (.k (.idx (.v 0) (.i 1)) .e)))) (.k (.asg (.n 3) (.bin .add (.bin .mul (.i 31) (.v 2)) (.i 7))) (.k (.ite (.cmp .gt (.blt .len (.k (.v 1) .e)) (.i 0)) (.k (.asg (.n 3) (.bin .mul (.i 104729) (.bin .fdiv (.v 2) (.blt .len (.k (.v 1) .e))))) (.k (.asg (.n 3) (.bin .add (.v 3) (.idx (.v 1) (.bin .mod (.v 2) (.blt .len (.k (.v 1) .e)))))) .e)) .e) (.k (.six (.v 0) (.i 1) (.bin .add (.v 2) (.i 1))) (.k (.six (.v 0) (.i 3) (.or (.cmp .ge (.v 2) (.blt .len (.k (.v 1) .e))) (.cmp .lt (.v 3) (.bin .pow (.i 10) (.i 18))))) (.k (.ite (.idx (.v 0) (.i 3)) (.k (.six (.v 0) (.i 2) (.call 98 (.k (.v 3) .e))) .e) (.k (.six (.v 0) (.i 2) (.bin .sub (.v 3) (.bin .pow (.i 10) (.i 18)))) .e)) .e))))))⟩
noncomputable def yaf:Fn:=⟨2,4,AC,(.k (.asg (.n 2) (.i 0)) (.k (.while (.and (.cmp .lt (.v 2) (.i 64)) (.or (.cmp .eq (.idx (.v 0) (.i 2)) (.i 0)) (.and (.idx (.v 0) (.i 3)) (.cmp .lt (.idx (.v 0) (.i 2)) (.bin .mul (.v 1) (.i 4096)))))) (.k (.expr (.call 99 (.k (.v 0) .e))) (.k (.aug 2 .add (.i 1)) (.k (.ite (.and (.idx (.v 0) (.i 3)) (.cmp .lt (.idx (.v 0) (.i 2)) (.bin .mul (.v 1) (.i 4096)))) (.k (.six (.v 0) (.i 2) (.bin .add (.idx (.v 0) (.i 2)) (.bin .mul (.bin .mul (.v 1) (.i 4096)) (.bin .add (.i 1) (.bin .mod (.idx (.v 0) (.i 2)) (.i 4093)))))) .e) .e) .e)))) (.k (.asg (.n 3) (.bin .mod (.idx (.v 0) (.i 2)) (.v 1))) (.k (.six (.v 0) (.i 2) (.bin .fdiv (.idx (.v 0) (.i 2)) (.v 1))) (.k (.ret (.v 3)) .e)))))⟩
noncomputable def zcQ:Fn:=⟨2,2,AC,(.k (.ret (.tup (.k (.bin .add (.i 4) (.call 100 (.k (.v 0) (.k (.i 13) .e)))) (.k (.bin .add (.i 1) (.call 100 (.k (.v 0) (.k (.v 1) .e)))) .e)))) .e)⟩
noncomputable def yab:Fn:=⟨3,13,AC,(.k (.asg (.n 3) (.call 100 (.k (.v 0) (.k (.i 12) .e)))) (.k (.asg (.n 4) (.i 1)) (.k (.for (.n 5) (.range1 (.bin .mul (.v 1) (.v 2))) (.k (.asg (.n 4) (.bin .mul (.i 2) (.v 4))) .e)) (.k (.asg (.n 6) (.tup (.k (.i 0) (.k (.i 1) (.k (.bin .sub (.v 4) (.i 1)) (.k (.bin .fdiv (.v 4) (.i 2)) (.k (.bin .sub (.bin .fdiv (.v 4) (.i 2)) (.i 1)) (.k (.bin .sub (.v 4) (.i 2)) .e)))))))) (.k (.ite (.cmp .lt (.v 3) (.i 6)) (.k (.ret (.idx (.v 6) (.v 3))) .e) .e) (.k (.asg (.n 7) (.call 100 (.k (.v 0) (.k (.v 4) .e)))) (.k (.ite (.cmp .eq (.v 3) (.i 6)) (.k (.asg (.n 8) (.i 1)) (.k (.for (.n 5) (.range1 (.call 100 (.k (.v 0) (.k (.bin .mul (.v 1) (.v 2)) .e)))) (.k (.asg (.n 8) (.bin .mul (.i 2) (.v 8))) .e)) (.k (.ret (.bin .mul (.bin .fdiv (.v 7) (.v 8)) (.v 8))) .e))) .e) (.k (.ite (.cmp .eq (.v 3) (.i 7)) (.k (.asg (.n 8) (.i 1)) (.k (.for (.n 5) (.range1 (.call 100 (.k (.v 0) (.k (.bin .mul (.v 1) (.v 2)) .e)))) (.k (.asg (.n 8) (.bin .mul (.i 2) (.v 8))) .e)) (.k (.ret (.bin .sub (.v 4) (.v 8))) .e))) .e) (.k (.ite (.cmp .gt (.v 3) (.i 9)) (.k (.ret (.v 7)) .e) .e) (.k (.asg (.n 9) (.i 1)) (.k (.for (.n 5) (.range1 (.v 1)) (.k (.asg (.n 9) (.bin .mul (.i 2) (.v 9))) .e)) (.k (.asg (.n 10) (.i 0)) (.k (.for (.n 5) (.range1 (.v 2)) (.k (.asg (.n 11) (.bin .mod (.bin .fdiv (.v 7) (.bin .add (.v 5) (.i 1))) (.v 9))) (.k (.asg (.n 12) (.tup (.k (.i 0) (.k (.i 1) (.k (.bin .sub (.v 9) (.i 1)) (.k (.bin .fdiv (.v 9) (.i 2)) (.k (.v 11) .e))))))) (.k (.asg (.n 10) (.bin .add (.bin .mul (.v 10) (.v 9)) (.idx (.v 12) (.call 100 (.k (.v 0) (.k (.i 5) .e)))))) .e)))) (.k (.ret (.v 10)) .e))))))))))))))⟩
noncomputable def zcj:Fn:=⟨1,3,AB,(.k (.asg (.n 1) (.i 1)) (.k (.for (.n 2) (.range1 (.v 0)) (.k (.asg (.n 1) (.bin .mul (.i 2) (.v 1))) .e)) (.k (.ret (.v 1)) .e)))⟩
noncomputable def zcR:Fn:=⟨1,1,AB,(.k (.ret (.and (.isi (.v 0) [.int]) (.not (.isi (.v 0) [.bool])))) .e)⟩
noncomputable def zbN:Fn:=⟨3,3,AB,(.k (.ite (.or (.not (.isi (.v 0) [.tuple])) (.cmp .ne (.blt .len (.k (.v 0) .e)) (.v 1))) (.k .nope .e) .e) (.k (.ret (.blt .all (.k (.comp [AD,AA 2] (.n 0) (.seq (.v 0)) (.cst (.bl AB)) (.and (.call 104 (.k (.v 0) .e)) (.chain .le .le (.bin .sub (.i 0) (.v 1)) (.v 0) (.v 1)))) .e))) .e))⟩
noncomputable def zb4:Fn:=⟨3,3,AB,(.k (.ite (.or (.not (.isi (.v 0) [.tuple])) (.or (.cmp .ne (.blt .len (.k (.v 0) .e)) (.v 2)) (.not (.blt .all (.k (.comp [AD] (.n 0) (.seq (.v 0)) (.cst (.bl AB)) (.call 104 (.k (.v 0) .e))) .e))))) (.k .nope .e) .e) (.k (.ret (.blt .all (.k (.comp [AD,AA 1] (.n 0) (.seq (.v 0)) (.cst (.bl AB)) (.chain .le .lt (.i 0) (.v 0) (.call 103 (.k (.v 1) .e)))) .e))) .e))⟩
noncomputable def zbV:Fn:=⟨5,6,AB,(.k (.asg (.n 5) (.call 94 (.k (.v 0) (.k (.v 1) (.k (.v 2) (.k (.v 3) (.k (.v 4) .e))))))) (.k (.ite (.or (.not (.isi (.v 5) [.tuple])) (.or (.cmp .ne (.blt .len (.k (.v 5) .e)) (.i 3)) (.not (.isi (.idx (.v 5) (.i 0)) [.tuple])))) (.k .nope .e) .e) (.k (.ret (.tup (.k (.idx (.v 5) (.i 0)) (.k (.idx (.v 5) (.i 2)) .e)))) .e)))⟩
noncomputable def yaV:Fn:=⟨1,11,AB,(.k (.asg (.n 1) (.call 97 (.k (.v 0) .e))) (.k (.asg (.t [2,3]) (.call 101 (.k (.v 1) (.k (.i 2) .e)))) (.k (.asg (.n 4) (.call 102 (.k (.v 1) (.k (.v 2) (.k (.v 3) .e))))) (.k (.asg (.n 5) (.call 102 (.k (.v 1) (.k (.v 2) (.k (.v 3) .e))))) (.k (.asg (.t [6,7]) (.call 107 (.k (.tup (.k (.s "signed product") .e)) (.k (.v 2) (.k (.v 3) (.k (.v 4) (.k (.v 5) .e))))))) (.k (.ite (.or (.not (.call 106 (.k (.v 6) (.k (.v 2) (.k (.bin .mul (.i 2) (.v 3)) .e))))) (.not (.call 105 (.k (.v 7) (.k (.i 4) (.k (.i 1) .e)))))) (.k .nope .e) .e) (.k (.ite (.cmp .ne (.slc (.idx (.call 107 (.k (.tup (.k (.s "product") .e)) (.k (.v 2) (.k (.v 3) (.k (.v 4) (.k (.v 5) .e)))))) (.i 0)) (.cst .non) (.v 3)) (.slc (.v 6) (.cst .non) (.v 3))) (.k .nope .e) .e) (.k (.asg (.n 8) (.comp [AD,AA 2,AA 3] (.n 0) (.seq (.tup (.k (.v 4) (.k (.v 5) .e)))) (.cst (.bl AB)) (.idx (.call 107 (.k (.tup (.k (.s "led") (.k (.s "signed") (.k (.s "signed") (.k (.v 2) .e))))) (.k (.v 1) (.k (.v 2) (.k (.v 0) (.k (.i 0) .e)))))) (.i 0)))) (.k (.ite (.not (.blt .all (.k (.comp [AD,AA 2,AA 3] (.n 0) (.seq (.v 8)) (.cst (.bl AB)) (.call 106 (.k (.v 0) (.k (.v 1) (.k (.bin .mul (.i 2) (.v 2)) .e))))) .e))) (.k .nope .e) .e) (.k (.ite (.cmp .ne (.slc (.idx (.call 107 (.k (.tup (.k (.s "product") .e)) (.k (.v 2) (.k (.bin .mul (.i 2) (.v 3)) (.k (.call 91 (.k (.idx (.v 8) (.i 0)) (.k (.v 2) .e))) (.k (.call 91 (.k (.idx (.v 8) (.i 1)) (.k (.v 2) .e))) .e)))))) (.i 0)) (.cst .non) (.bin .mul (.i 2) (.v 3))) (.v 6)) (.k .nope .e) .e) (.k (.ite (.cmp .ne (.idx (.idx (.call 107 (.k (.tup (.k (.s "led") (.k (.s "signed") (.k (.s "signed") (.k (.bin .sub (.i 0) (.v 3)) .e))))) (.k (.v 2) (.k (.bin .mul (.i 2) (.v 3)) (.k (.call 91 (.k (.v 6) (.k (.v 2) .e))) (.k (.i 0) .e)))))) (.i 1)) (.i 1)) (.idx (.v 7) (.i 1))) (.k .nope .e) .e) (.k (.ite (.cmp .eq (.bin .mul (.i 2) (.v 5)) (.call 103 (.k (.bin .mul (.v 2) (.v 3)) .e))) (.k (.ret (.cst (.bl AB))) .e) .e) (.k (.asg (.n 9) (.bin .mod (.bin .sub (.i 0) (.v 5)) (.call 103 (.k (.bin .mul (.v 2) (.v 3)) .e)))) (.k (.asg (.n 10) (.idx (.call 107 (.k (.tup (.k (.s "turned") .e)) (.k (.v 2) (.k (.bin .mul (.i 2) (.v 3)) (.k (.call 91 (.k (.v 6) (.k (.v 2) .e))) (.k (.i 0) .e)))))) (.i 0))) (.k (.ret (.cmp .eq (.idx (.call 107 (.k (.tup (.k (.s "signed product") .e)) (.k (.v 2) (.k (.v 3) (.k (.v 4) (.k (.v 9) .e)))))) (.i 0)) (.v 10))) .e)))))))))))))))⟩
def Tl:List Fn:=[zla,zdc,zkK,zgF,zgr,zk5,zcd,zdA,zbf,zbR,zaP,zb1,zbB,zcg,zgp,ze9,zfn,zaK,zcD,zcb,zaw,zbJ,zea,zac,zdj,zdX,zcI,zcJ,za3,zcH,zcM,zbb,za0,zff,zdv,zc4,zbO,yK,zbi,zad,zb7,zbE,zau,zci,zbw,ze2,zcG,zd0,zX,yh,yj,zD,zJ,zx,zy,zbg,zbm,zbn,zdQ,zfw,zaB,zaV,zc8,zaC,zfj,zdH,zB,zan,zbc,zgu,zb3,zen,zes,zcU,zao,zbW,zc6,zcW,zco,zc5,zN,zat,zak,yH,zS,zd,zM,zV,zbd,zap,zbl,zeC,zal,zag,yco,yC,yat,zc2,yaE,yam,yaf,zcQ,yab,zcj,zcR,zbN,zb4,zbV,yaV]
def T(i:Nat):Option Fn:=Tl[i]?
noncomputable abbrev zaN:Nat:=20
noncomputable abbrev zbH:Nat:=21
noncomputable abbrev zbj:Nat:=35
noncomputable abbrev zct:Nat:=37
noncomputable abbrev zcp:Nat:=38
noncomputable abbrev zA:Nat:=39
noncomputable abbrev zfa:Nat:=40
noncomputable abbrev zb5:Nat:=42
noncomputable abbrev zdU:Nat:=44
noncomputable abbrev zar:Nat:=48
noncomputable abbrev zY:Nat:=49
noncomputable abbrev zr:Nat:=50
noncomputable abbrev zW:Nat:=51
noncomputable abbrev zaA:Nat:=52
noncomputable abbrev zQ:Nat:=53
noncomputable abbrev zO:Nat:=54
noncomputable abbrev zH:Nat:=55
noncomputable abbrev zec:Nat:=56
noncomputable abbrev zd3:Nat:=57
noncomputable abbrev zaX:Nat:=60
noncomputable abbrev zbr:Nat:=61
noncomputable abbrev zaM:Nat:=62
noncomputable abbrev zaZ:Nat:=63
noncomputable abbrev zb6:Nat:=64
noncomputable abbrev zR:Nat:=65
noncomputable abbrev zC:Nat:=66
noncomputable abbrev zba:Nat:=67
noncomputable abbrev zhA:Nat:=69
noncomputable abbrev zdo:Nat:=70
noncomputable abbrev zfF:Nat:=71
noncomputable abbrev zfG:Nat:=72
noncomputable abbrev zeH:Nat:=73
noncomputable abbrev za9:Nat:=74
noncomputable abbrev zdL:Nat:=75
noncomputable abbrev zel:Nat:=76
noncomputable abbrev zek:Nat:=77
noncomputable abbrev zdx:Nat:=78
noncomputable abbrev zet:Nat:=79
noncomputable abbrev zaf:Nat:=80
noncomputable abbrev zbM:Nat:=81
noncomputable abbrev zZ:Nat:=82
noncomputable abbrev zaR:Nat:=83
noncomputable abbrev zw:Nat:=84
noncomputable abbrev zl:Nat:=85
noncomputable abbrev zaG:Nat:=86
noncomputable abbrev zai:Nat:=87
noncomputable abbrev za6:Nat:=88
noncomputable abbrev zab:Nat:=89
noncomputable abbrev zbo:Nat:=90
noncomputable abbrev zdb:Nat:=91
noncomputable abbrev z4:Nat:=92
noncomputable abbrev zb0:Nat:=93
noncomputable abbrev zom:Nat:=94
noncomputable abbrev zaI:Nat:=95
noncomputable abbrev zay:Nat:=96
noncomputable abbrev zeE:Nat:=97
noncomputable abbrev zeL:Nat:=98
noncomputable abbrev zhr:Nat:=99
noncomputable abbrev zfX:Nat:=100
noncomputable abbrev zer:Nat:=101
noncomputable abbrev zcT:Nat:=102
noncomputable abbrev zb9:Nat:=103
noncomputable abbrev zbv:Nat:=104
noncomputable abbrev zc9:Nat:=105
noncomputable abbrev zaz:Nat:=106
noncomputable abbrev zP:Nat:=107
noncomputable abbrev zkk:Nat:=108
end IC
namespace WK
open PySem L2 IC
noncomputable def top(i:Nat):Stmt:=Dv.main.body.getD i (.Pass ⟨0,0,0,0⟩)
def tbQ:Tb where
 tbl:=[⟨"word","word","word",top 15,["letter","c","i","j","m"],["letter","c","i","j","m"],zla,.fd [0,0,0,0]⟩,⟨"last_word","last_word","last_word",top 16,["letter"],["letter"],zdc,.fn⟩,⟨"rows","rows","rows",top 17,["told"],["told"],zkK,.fn⟩,⟨"rounds","rounds","rounds",top 18,["count","sentence","inner"],["count","sentence","inner"],zgF,.fn⟩,⟨"lowest","lowest","lowest",top 19,["letter","c","i","j","m"],["letter","c","i","j","m"],zgr,.fd [0,0,0,0]⟩,⟨"term","term","term",top 20,["f","things","i","p","q","r"],["f","things","i","p","q","r"],zk5,.fd [0,0,0,0]⟩,⟨"moved_parts","moved","moved",top 21,["to","source","c","sentence"],["to","source","c"],zcd,.fd [0]⟩,⟨"kept_mark","kept_mark","kept_mark",top 25,["to"],["to"],zdA,.fn⟩,⟨"kept_contrary","kept_contrary","kept_contrary",top 26,["to"],["to"],zbf,.fn⟩,⟨"sign_filled","sign_filled","sign_filled",top 27,["to","last"],["to","last"],zbR,.fn⟩,⟨"gathered_unlike","gathered_unlike","gathered_unlike",top 28,["to","here","fill","count"],["to","here","fill","count"],zaP,.fn⟩,⟨"asked_words","asked_words","asked_words",top 29,["letter","m","count","gathered"],["letter","m","count"],zb1,.fn⟩,⟨"answer_marks","answer_marks","answer_marks",top 30,["c","m","sign"],["c","m"],zbB,.fn⟩,⟨"led_telling","led_telling","led_telling",top 35,["read","meant","e","told"],["read","meant","e"],zcg,.fn⟩,⟨"filled","filled","filled",top 36,["to","way","last"],["to","way","last"],zgp,.fn⟩,⟨"widened","widened","widened",top 37,["e","sentence"],["e"],ze9,.fn⟩,⟨"dropped","dropped","dropped",top 38,["e"],["e"],zfn,.fn⟩,⟨"product_telling","product_telling","product_telling",top 43,["unfit"],[],zaK,.fn⟩,⟨"multiplied","multiplied","multiplied",top 44,["sentence","begun","ended"],[],zcD,.fn⟩,⟨"by_one_word","by_one_word","by_one_word",top 45,["here","this_word","sentence"],[],zcb,.fn⟩,⟨"is_whole","is_whole","is_whole",top 58,["thing","low","high"],["thing","low","high"],zaw,.fn⟩,⟨"is_letter","is_letter","is_letter",top 59,["thing"],["thing"],zbJ,.fn⟩,⟨"are_told","are_told","are_told",top 60,["thing","many"],["thing","many"],zea,.fn⟩,⟨"signed_product_telling","signed_product_telling","signed_product_telling",top 78,["signs"],[],zac,.fn⟩,⟨"kept_sign","kept_sign","kept_sign",top 80,["to","letter"],["to","letter"],zdj,.fn⟩,⟨"worth_of","worth_of","worth_of",top 81,["cell"],["cell"],zdX,.fn⟩,⟨"less_for_x","less_for_x","less_for_x",top 82,[],[],zcI,.fn⟩,⟨"less_for_y","less_for_y","less_for_y",top 83,["before"],[],zcJ,.fn⟩,⟨"product_terms","product_terms","product_terms",top 84,[],[],za3,.fn⟩,⟨"less_terms","less_terms","less_terms",top 85,["sign","letter"],["sign","letter"],zcH,.fn⟩,⟨"less_where","less_where","less_where",top 86,["sign","letter","sentence","upper"],["sign","letter","sentence"],zcM,.fn⟩,⟨"unfit_product","unfit_product","unfit_product",top 87,["looked"],[],zbb,.fn⟩,⟨"turned_telling","turned_telling","turned_telling",top 93,["taken","sentence","lone"],[],za0,.fn⟩,⟨"carried","carried","carried",top 97,["row","sentence"],["row","sentence"],zff,.fn⟩,⟨"lone_sign","lone_sign","lone_sign",top 98,["lone","one","other"],["lone","one","other"],zdv,.fn⟩,⟨"is_row","is_row","is_row",top 101,["thing"],["thing"],zc4,.fn⟩,⟨"is_told_row","is_told_row","is_told_row",top 102,["thing"],["thing"],zbO,.fn⟩,⟨"has_form","has_form","has_form",top 103,["thing","told","kind","operand"],["thing","told"],yK,.fn⟩,⟨"is_named","is_named","is_named",top 104,["thing"],["thing"],zbi,.fn⟩,⟨"is_operand","is_operand","is_operand",top 105,["kind","thing","told"],["kind","thing","told"],zad,.fn⟩,⟨"is_cell","is_cell","is_cell",top 106,["thing"],["thing"],zb7,.fn⟩,⟨"is_told_cell","is_told_cell","is_told_cell",top 107,["thing"],["thing"],zbE,.fn⟩,⟨"is_lettered","is_lettered","is_lettered",top 108,["thing"],["thing"],zau,.fn⟩,⟨"is_sentence","is_sentence","is_sentence",top 113,["thing"],["thing"],zci,.fn⟩,⟨"place_of","place_of","place_of",top 114,["told","n","i","j"],["told","n","i","j"],zbw,.fn⟩,⟨"is_term","is_term","is_term",top 115,["thing","f","exponent","things"],["thing"],ze2,.fn⟩,⟨"are_things","are_things","are_things",top 116,["thing"],["thing"],zcG,.fn⟩,⟨"is_thing","is_thing","is_thing",top 117,["thing"],["thing"],zd0,.fn⟩,⟨"","__init__","Unrolling.__init__",inClass (top 122) 0,["self","w","n"],["self","w","n"],zX,.ini 20⟩,⟨"","go_parts","Unrolling.go_parts",inClass (top 122) 1,["self","parts","gone","part"],["self","parts","gone"],yh,.me 20⟩,⟨"","go_rounds","Unrolling.go_rounds",inClass (top 122) 2,["self","part","gone","count","at"],["self","part","gone"],yj,.me 20⟩,⟨"","count_of","Unrolling.count_of",inClass (top 122) 3,["self","told","c","m","t"],["self","told"],zD,.me 20⟩,⟨"","add_row","Unrolling.add_row",inClass (top 122) 4,["self","told","gone","i","j","row"],["self","told","gone"],zJ,.me 20⟩,⟨"","add_round","Unrolling.add_round",inClass (top 122) 5,["self"],["self"],zx,.me 20⟩,⟨"","add_asked","Unrolling.add_asked",inClass (top 122) 6,["self","sentence","gone","i","j"],["self","sentence","gone"],zy,.me 20⟩,⟨"is_telling","is_telling","is_telling",top 123,["thing"],["thing"],zbg,.fn⟩,⟨"unrolled","unrolled","unrolled",top 124,["telling","w","n"],["telling","w","n"],zbm,.fn⟩,⟨"steps_of","steps_of","steps_of",top 125,["telling","w","n","unrolling"],["telling","w","n"],zbn,.fn⟩,⟨"are_parts","are_parts","are_parts",top 126,["thing","nests"],["thing","nests"],zdQ,.fn⟩,⟨"is_part","is_part","is_part",top 127,["thing","nests"],["thing","nests"],zfw,.fn⟩,⟨"both_gone","both_gone","both_gone",top 128,["gone"],["gone"],zaB,.fn⟩,⟨"placed","placed","placed",top 129,["thing","n","i","j"],["thing","n","i","j"],zaV,.fn⟩,⟨"telling","telling","telling",top 138,["deed"],["deed"],zc8,.fn⟩,⟨"deed_rows","deed_rows","deed_rows",top 139,["deed","w","n"],["deed","w","n"],zaC,.fn⟩,⟨"is_deed","is_deed","is_deed",top 140,["thing"],["thing"],zfj,.fn⟩,⟨"is_paired","is_paired","is_paired",top 141,["deed"],["deed"],zdH,.fn⟩,⟨"answer_words","answer_words","answer_words",top 142,["deed","n"],["deed","n"],zB,.fn⟩,⟨"rest_words","rest_words","rest_words",top 143,["deed","n"],["deed","n"],zan,.fn⟩,⟨"named_telling","named_telling","named_telling",top 145,["name"],["name"],zbc,.fn⟩,⟨"made","made","made",top 147,["name","w","x","y","k","make"],["name","w","x","y","k"],zgu,.fn⟩,⟨"highest","highest","highest",top 148,["w"],["w"],zb3,.fn⟩,⟨"moved","moved","moved",top 149,["w","x","y","k"],["w","x","y","k"],zen,.fn⟩,⟨"bared","bared","bared",top 151,["w","x","y","k"],["w","x","y","k"],zes,.fn⟩,⟨"summed","summed","summed",top 152,["w","x","y","k","total"],["w","x","y","k"],zcU,.fn⟩,⟨"taken_away","taken_away","taken_away",top 153,["w","x","y","k","total"],["w","x","y","k"],zao,.fn⟩,⟨"in_both","in_both","in_both",top 154,["w","x","y","k"],["w","x","y","k"],zbW,.fn⟩,⟨"in_any","in_any","in_any",top 155,["w","x","y","k"],["w","x","y","k"],zc6,.fn⟩,⟨"in_one","in_one","in_one",top 156,["w","x","y","k"],["w","x","y","k"],zcW,.fn⟩,⟨"doubled","doubled","doubled",top 157,["w","x","y","k"],["w","x","y","k"],zco,.fn⟩,⟨"halved","halved","halved",top 159,["w","x","y","k"],["w","x","y","k"],zc5,.fn⟩,⟨"","__init__","Machine.__init__",inClass (top 163) 0,["self","w"],["self","w"],zN,.ini 21⟩,⟨"","put","Machine.put",inClass (top 163) 1,["self","letter","at","word","cell"],["self","letter","at","word"],zat,.me 21⟩,⟨"","word","Machine.word",inClass (top 163) 2,["self","letter","at"],["self","letter","at"],zak,.me 21⟩,⟨"","run","Machine.run",inClass (top 163) 5,["self","rows","row"],["self","rows"],yH,.me 21⟩,⟨"","held_in","Machine.held_in",inClass (top 163) 6,["self","cell"],["self","cell"],zS,.me 21⟩,⟨"","go_row","Machine.go_row",inClass (top 163) 7,["self","row"],["self","row"],zd,.me 21⟩,⟨"","go_times","Machine.go_times",inClass (top 163) 8,["self","row","product"],["self","row"],zM,.me 21⟩,⟨"","go_made","Machine.go_made",inClass (top 163) 9,["self","row","x","y","word","mark"],["self","row"],zV,.me 21⟩,⟨"known_cell","known_cell","known_cell",top 164,["letter","at"],["letter","at"],zbd,.fn⟩,⟨"refuse_row","refuse_row","refuse_row",top 165,["thing"],["thing"],zap,.fn⟩,⟨"words_of","words_of","words_of",top 167,["worth","w","n"],["worth","w","n"],zbl,.fn⟩,⟨"plain","plain","plain",top 168,["number","w"],["number","w"],zeC,.fn⟩,⟨"lowest_words","lowest_words","lowest_words",top 169,["worth","w","n","highest"],["worth","w","n"],zal,.fn⟩,⟨"refuse_deed","refuse_deed","refuse_deed",top 171,["deed","w","n","x","y"],["deed","w","n","x","y"],zag,.fn⟩,⟨"ran","ran","ran",top 174,["deed","w","n","x","y","machine","answer"],["deed","w","n","x","y"],yco,.fn⟩,⟨"machine_with","machine_with","machine_with",top 175,["w","n","x","y","machine","letter","worth","at","word"],["w","n","x","y"],yC,.fn⟩,⟨"number_in","number_in","number_in",top 176,["machine","letter","many"],["machine","letter","many"],yat,.fn⟩,⟨"_law_fresh","_law_fresh","_law_fresh",top 178,["_law_script"],["_law_script"],zc2,.fn⟩,⟨"_law_mixed","_law_mixed","_law_mixed",top 179,["_law_seed","_law_primes","_law_number_here","_law_k","_law_prime","_law_far","_law_square","_law_power"],["_law_seed"],yaE,.fn⟩,⟨"_law_fill","_law_fill","_law_fill",top 180,["_law_state","_law_cells","_law_at","_law_seed"],["_law_state"],yam,.fn⟩,⟨"_law_take","_law_take","_law_take",top 181,["_law_state","_law_many","_law_turns","_law_digit"],["_law_state","_law_many"],yaf,.fn⟩,⟨"_law_sizes","_law_sizes","_law_sizes",top 182,["_law_state","_law_most"],["_law_state","_law_most"],zcQ,.fn⟩,⟨"_law_worth","_law_worth","_law_worth",top 183,["_law_state","_law_w","_law_n","_law_way","_law_top","_law_k","_law_edges","_law_any_one","_law_low","_law_wide","_law_worth_here","_law_some","_law_words"],["_law_state","_law_w","_law_n"],yab,.fn⟩,⟨"_law_two_to","_law_two_to","_law_two_to",top 184,["_law_many","_law_found","_law_k"],["_law_many"],zcj,.fn⟩,⟨"_law_whole","_law_whole","_law_whole",top 185,["_law_thing"],["_law_thing"],zcR,.fn⟩,⟨"_law_wholes","_law_wholes","_law_wholes",top 186,["_law_thing","_law_many","_law_most"],["_law_thing","_law_many","_law_most"],zbN,.fn⟩,⟨"_law_number","_law_number","_law_number",top 187,["_law_thing","_law_w","_law_n"],["_law_thing","_law_w","_law_n"],zb4,.fn⟩,⟨"_law_answer","_law_answer","_law_answer",top 188,["_law_deed","_law_w","_law_n","_law_x","_law_y","_law_found"],["_law_deed","_law_w","_law_n","_law_x","_law_y"],zbV,.fn⟩,⟨"law","law","law",top 189,["_law_script","_law_state","_law_w","_law_n","_law_x","_law_y","_law_whole_here","_law_marks","_law_wide","_law_other","_law_turned"],["_law_script"],yaV,.fn⟩]
 al:=[eD "word" 0,eF "last_word" 1,eF "rows" 2,eF "rounds" 3,eD "lowest" 4,eD "term" 5,eD "moved_parts" 6,eF "kept_mark" 7,eF "kept_contrary" 8,eF "sign_filled" 9,eF "gathered_unlike" 10,eF "asked_words" 11,eF "answer_marks" 12,eF "led_telling" 13,eF "filled" 14,eF "widened" 15,eF "dropped" 16,eF "product_telling" 17,eF "multiplied" 18,eF "by_one_word" 19,eF "is_whole" 20,eF "is_letter" 21,eF "are_told" 22,eF "signed_product_telling" 23,eF "kept_sign" 24,eF "worth_of" 25,eF "less_for_x" 26,eF "less_for_y" 27,eF "product_terms" 28,eF "less_terms" 29,eF "less_where" 30,eF "unfit_product" 31,eF "turned_telling" 32,eF "carried" 33,eF "lone_sign" 34,eF "is_row" 35,eF "is_told_row" 36,eF "has_form" 37,eF "is_named" 38,eF "is_operand" 39,eF "is_cell" 40,eF "is_told_cell" 41,eF "is_lettered" 42,eF "is_sentence" 43,eF "place_of" 44,eF "is_term" 45,eF "are_things" 46,eF "is_thing" 47,eF "is_telling" 55,eF "unrolled" 56,eF "steps_of" 57,eF "are_parts" 58,eF "is_part" 59,eF "both_gone" 60,eF "placed" 61,eF "telling" 62,eF "deed_rows" 63,eF "is_deed" 64,eF "is_paired" 65,eF "answer_words" 66,eF "rest_words" 67,eF "named_telling" 68,eF "made" 69,eF "highest" 70,eF "moved" 71,eF "bared" 72,eF "summed" 73,eF "taken_away" 74,eF "in_both" 75,eF "in_any" 76,eF "in_one" 77,eF "doubled" 78,eF "halved" 79,eF "known_cell" 88,eF "refuse_row" 89,eF "words_of" 90,eF "plain" 91,eF "lowest_words" 92,eF "refuse_deed" 93,eF "ran" 94,eF "machine_with" 95,eF "number_in" 96,eF "_law_fresh" 97,eF "_law_mixed" 98,eF "_law_fill" 99,eF "_law_take" 100,eF "_law_sizes" 101,eF "_law_worth" 102,eF "_law_two_to" 103,eF "_law_whole" 104,eF "_law_wholes" 105,eF "_law_number" 106,eF "_law_answer" 107,eF "law" 108,eF "doubled_made" 78,eF "halved_made" 79,eF "moved_made" 71,eC "BORROWED" zcx,eC "EACH_WORD" zaa,eC "FACTOR_LIMIT" (.int (10000000000000000000000000000000000000000)),eC "FILL_led" zbp,eC "FILL_signed" zaS,eC "HIGH" zd4,eC "LONE" zkC,eC "LOST_led" zbq,eC "LOST_signed" zaU,eC "LOW" zfZ,eC "MARKS_parts" zz,eC "MARKS_runs" (.int (4)),eC "MOST_NESTS" (.int (2)),eC "MOST_ROUNDS" (.int (4000)),eC "MOST_ROWS" (.int (4000)),eC "MOST_TERMS" (.int (20)),eC "MOST_THINGS" (.int (2)),eC "MOST_TOLD" (.int (200)),eC "NIL" zcN,eC "OVER" zft,eC "PAIRED" zep,eC "PAIRWISE" zdS,eC "PRODUCTS" zbu,eC "QUOTIENTS" zaj,eC "REFILL" zcY,eC "SEEN" zdE,eC "SHIFTS" zeq,eC "SIGN_X" zck,eC "SIGN_Y" zcZ,eC "SPARE" zaD,eC "WAYS" zi2,eG "ROWS" (.dct zah),eG "Machine" (.cls 21 80),eG "Unrolling" (.cls 20 48)]
 bs:=["all","bool","enumerate","int","isinstance","len","max","min","range","str","sum","tuple","zip"]
 ts:=[.bool,.int,.str,.tuple]
 fl:=[eN 20 "n",eN 20 "rounds",eN 20 "rows",eN 20 "steps",eN 20 "w",eN 21 "marked",eN 21 "w",eN 21 "words"]
 me:=[eM 20 "go_parts" 49,eM 20 "go_rounds" 50,eM 20 "count_of" 51,eM 20 "add_row" 52,eM 20 "add_round" 53,eM 20 "add_asked" 54,eM 21 "put" 81,eM 21 "word" 82,eM 21 "run" 83,eM 21 "held_in" 84,eM 21 "go_row" 85,eM 21 "go_times" 86,eM 21 "go_made" 87]
 kb:=[eK 0 1 ["i"] [AA 0,AD,AA 0,AA 0],eK 0 1 ["i","j"] [AA 0,AD,AD,AA 0],eK 0 1 ["i","m"] [AA 0,AD,AA 0,AD],eK 0 1 ["j"] [AA 0,AA 0,AD,AA 0],eK 0 2 ["i","m"] [AD,AA 0,AD],eK 0 2 ["m"] [AA 0,AA 0,AD],eK 4 1 ["i"] [AA 0,AD,AA 0,AA 0],eK 4 1 ["i","m"] [AA 0,AD,AA 0,AD],eK 4 1 ["j"] [AA 0,AA 0,AD,AA 0],eK 4 1 ["m"] [AA 0,AA 0,AA 0,AD],eK 4 2 [] [AA 0,AA 0,AA 0],eK 5 2 [] [AA 0,AA 0,AA 0,AA 0],eK 5 2 ["p"] [AA 0,AD,AA 0,AA 0],eK 5 2 ["p","q"] [AA 0,AD,AD,AA 0],eK 5 2 ["p","r"] [AA 0,AD,AA 0,AD],eK 5 2 ["r"] [AA 0,AA 0,AA 0,AD],eK 6 3 [] []]
 cn:=[eN 21 "Machine",eN 20 "Unrolling"]
 dd:=[eB "ROWS" zah]
 ml:=[eL "MAKERS" zT]
theorem ok_all:tbQ.tbl.all (okT tbQ)=true:=by decide +kernel
theorem T_ok:∀i d,tbQ.tbl[i]?=AA d->T i=AA d.fn:=λi d h=>by
 have e:Tl=tbQ.tbl.map (·.fn):=rfl;rw[T,e,Bv,h];rfl
theorem kb_all:yb7 (KbP tbQ) tbQ.kb:=by
 repeat' (first|exact trivial|(refine⟨kbP rfl rfl rfl rfl rfl (by decide) ?_,?_⟩;((repeat intro _);exact⟨_,rfl,rfl⟩)))
theorem cn_20:cnm tbQ 20="Unrolling":=rfl
theorem cn_21:cnm tbQ 21="Machine":=rfl
end WK
namespace IC
open PySem
def ybj(call:Cl)(t:Tg)(b:Css)(xs:List PV)(ρ:Env)(st:SO):Fl:=forL t (λρ2 st2=>exs call ρ2 st2 b) xs ρ st
def yaX(call:Cl)(c:Ce)(b:Css)(n:Nat)(ρ:Env)(st:SO):Fl:=yaw (λρ2 st2=>ev call ρ2 st2 c) (λρ2 st2=>exs call ρ2 st2 b) n ρ st
def yaP(call:Cl)(ρ0:Env)(t:Tg)(c e:Ce)(x:PV)(st2:SO):R (Option PV):=match yO t x ρ0 with
 |none=>.bad
 |some ρ1=>(ev call ρ1 st2 c).bind λb st3=>onO (yaT st3 b) λk=>cond k ((ev call ρ1 st3 e).bind λy st4=>.ok (AA y) st4) (.ok AD st3)
def yal(call:Cl)(ρ0:Env)(t:Tg)(c e:Ce)(xs:List PV)(st:SO):R (List PV):=ya4 (yaP call ρ0 t c e) xs st
noncomputable def yaJ(f:Fl)(k:Env->SO->Fl):Fl :=
 match f with
 | .nx ρ st=>k ρ st
 |f=>f
noncomputable def nxO(o:Option Env)(st:SO):Fl :=
 match o with
 |some ρ=>.nx ρ st
 |none=>.bad
noncomputable def stO(ρ:Env)(o:Option SO):Fl :=
 match o with
 |some st=>.nx ρ st
 |none=>.bad
section
variable {call:Cl}{ρ:Env}{st:SO}
theorem x_for{t:Tg}{it:Cit}{b:Css}:ex call ρ st (.for t it b)=(evi call ρ st it).fl ρ λxs st1=>ybj call t b xs ρ st1:=rfl
theorem zl6{c:Ce}{b:Css}:ex call ρ st (.while c b)=yaX call c b 100000 ρ st:=rfl
theorem v_comp{sl:List (Option Nat)}{t:Tg}{it:Cit}{c e:Ce}:ev call ρ st (.comp sl t it c e)=(evi call ρ st it).bind λxs st1=>ycg (yal call (sl.map λo=>o.bind λj=>(ρ[j]?).join) t c e xs st1):=rfl
theorem zU{t:Tg}{b:Css}:ybj call t b [] ρ st=.nx ρ st:=rfl
theorem zK{t:Tg}{b:Css}{x:PV}{xs:List PV}{ρ1:Env}(h:yO t x ρ=AA ρ1):ybj call t b (x::xs) ρ st=yaK (exs call ρ1 st b) λρ2 st2=>ybj call t b xs ρ2 st2:=by
 rw[ybj,forL,h];rfl
theorem zej{t:Tg}{b:Css}(P:Nat->Env->SO->Prop):∀(xs:List PV) (i:Nat) (ρ:Env) (st:SO),P i ρ st ->
  (∀(j:Nat) (x:PV) (ρ:Env) (st:SO),xs[j]?=AA x->P (i+j) ρ st->∃ρ1 ρ2 st2,yO t x ρ=AA ρ1/\exs call ρ1 st b=.nx ρ2 st2/\P (i+j+1) ρ2 st2) ->
  ∃ρ' st',ybj call t b xs ρ st=.nx ρ' st'/\P (i+xs.length) ρ' st'
 | [],i,ρ,st,h,_=>⟨ρ,st,zU,h⟩
 |x::xs,i,ρ,st,h,k=>by
  let⟨ρ1,ρ2,st2,e1,e2,h2⟩:=k 0 x ρ st rfl h;let⟨ρ',st',e3,h3⟩:=zej P xs (i+1) ρ2 st2 h2 λj y ρ st hy hp=>by
   have:=k (j+1) y ρ st (by simpa using hy) (by rw[show i+(j+1)=i+1+j by lia];exact hp);rw[show i+(j+1)+1=i+1+j+1 by lia]at this;exact this
  refine⟨ρ',st',?_,by rw[AZ,show i+(xs.length+1)=i+1+xs.length by lia];exact h3⟩;rw[zK e1,e2];exact e3
theorem ziP{c:Ce}{b:Css}{n:Nat}{x:PV}{st1 st2:SO}{ρ2:Env}(h:ev call ρ st c=.ok x st1)(ht:yaT st1 x=AA AB)(hb:exs call ρ st1 b=.nx ρ2 st2):yaX call c b (n+1) ρ st=yaX call c b n ρ2 st2:=by
 rw[yaX,yaw,h];erw[R.fl,ht,onF,cond_true,hb,yaK];rfl
theorem zf2{c:Ce}{b:Css}{n:Nat}{x:PV}{st1:SO}(h:ev call ρ st c=.ok x st1)(ht:yaT st1 x=AA AC):yaX call c b (n+1) ρ st=.nx ρ st1:=by
 rw[yaX,yaw,h];erw[R.fl,ht,onF,cond_false]
theorem zaL{ρ0:Env}{t:Tg}{c e:Ce}:yal call ρ0 t c e [] st=.ok [] st:=rfl
theorem zL{ρ0:Env}{t:Tg}{c e:Ce}{x:PV}{xs:List PV}:yal call ρ0 t c e (x::xs) st=(yaP call ρ0 t c e x st).bind λo st1=>(yal call ρ0 t c e xs st1).bind λys st2=>.ok (ycf o ys) st2:=rfl
theorem zaJ{ρ0:Env}{t:Tg}{c e:Ce}{f:PV->PV}:∀(xs:List PV),(∀x∈xs,yaP call ρ0 t c e x st=.ok (AA (f x)) st)->yal call ρ0 t c e xs st=.ok (xs.map f) st
 | [],_=>zaL
 |x::xs,h=>by
  rw[zL,h x Aj];erw[R.bind];rw[zaJ xs λy hy=>h y (AT _ hy)];rfl
theorem xs_nil:exs call ρ st .nil=.nx ρ st:=rfl
theorem xs_cons{s:Cs}{ss:Css}:exs call ρ st (.cons s ss)=yaJ (ex call ρ st s) λρ1 st1=>exs call ρ1 st1 ss:=rfl
theorem x_asg{t:Tg}{e:Ce}:ex call ρ st (.asg t e)=(ev call ρ st e).fl ρ λv st1=>nxO (yO t v ρ) st1:=rfl
theorem x_expr{e:Ce}:ex call ρ st (.expr e)=(ev call ρ st e).fl ρ λ_ st1=>.nx ρ st1:=rfl
theorem x_ret{e:Ce}:ex call ρ st (.ret e)=(ev call ρ st e).fl ρ λv st1=>.rt v st1:=rfl
theorem x_ite{c:Ce}{a b:Css}:ex call ρ st (.ite c a b)=(ev call ρ st c).fl ρ λx st1=>onF (yaT st1 x) λk=>cond k (exs call ρ st1 a) (exs call ρ st1 b):=rfl
theorem x_six{o i e:Ce}:ex call ρ st (.six o i e)=(ev call ρ st e).fl ρ λv st1=>(ev call ρ st1 o).fl ρ λx st2=>(ev call ρ st2 i).fl ρ λy st3=>stO ρ (ybD st3 x y v):=rfl
noncomputable def ye1(o:Option Nat)(k:Nat->Fl):Fl:=match o with
 |some j=>k j
 |none=>.bad
theorem zpl{i:Nat}{D:List (AR×Nat)}{n:Ce}{es:Ces}:ex call ρ st (.mkr i D n es)=(ev call ρ st n).fl ρ λx st1=>ye1 (mkV D (decide (i<ρ.length)) x) λj=>((evs call (ρ.set i AD) st1 es).bind λvs st2=>call j vs st2).fl (ρ.set i AD) λv st3=>.rt v st3:=rfl
theorem zfH{c:Nat}{o e:Ce}{f:AR}:ex call ρ st (.sfl c o f e)=(ev call ρ st e).fl ρ λv st1=>(ev call ρ st1 o).fl ρ λx st2=>stO ρ (ybc c st2 x f v):=rfl
theorem zf9{o i e:Ce}:ex call ρ st (.dput o i e)=(ev call ρ st e).fl ρ λv st1=>(ev call ρ st1 o).fl ρ λx st2=>(ev call ρ st2 i).fl ρ λy st3=>stO ρ (ybp st3 x y v):=rfl
theorem zpJ{i:Nat}{o:BOp}{e:Ce}{x:PV}(h:ρ[i]?=AA (AA x)):ex call ρ st (.aug i o e)=(ev call ρ st e).fl ρ λy st1=>nxO ((ybX o x y).map λz=>ρ.set i (AA z)) st1:=by
 rw[ex,h];show (ev call ρ st e).fl ρ _=_;refine congrArg _ (funext λy=>funext λst1=>?_)
 cases ybX o x y<;>rfl
end
theorem ve1(call:Nat->List PV->SO->R PV)(ρ:Env)(st:SO)(v:PV) :
  ev call ρ st (Ce.cst v)=R.ok v st:=rfl
theorem ve2(call:Nat->List PV->SO->R PV)(ρ:Env)(st:SO)(i:Nat) :
  ev call ρ st (Ce.var i) =
  match ρ[i]? with
  |some (AA v)=>R.ok v st
  |x=>R.bad:=rfl
theorem ve3(call:Nat->List PV->SO->R PV)(ρ:Env)(st:SO)(o:BOp)(a b:Ce) :
  ev call ρ st (Ce.bin o a b)=R.bind (ev call ρ st a) λx st1=>R.bind (ev call ρ st1 b) λy st2=>toR (yE o x y) st2:=rfl
theorem ve4(call:Nat->List PV->SO->R PV)(ρ:Env)(st:SO)(a:Ce) :
  ev call ρ st (Ce.neg a) =
  R.bind (ev call ρ st a) λx st1 =>
   match x with
   |PV.int i=>R.ok (PV.int (-i)) st1
   |x=>R.bad:=rfl
theorem ve5(call:Nat->List PV->SO->R PV)(ρ:Env)(st:SO)(a:Ce) :
  ev call ρ st (Ce.not a)=R.bind (ev call ρ st a) λx st1=>onBl x λk=>R.ok (PV.bl !k) st1:=rfl
theorem ve6(call:Nat->List PV->SO->R PV)(ρ:Env)(st:SO)(a b:Ce) :
  ev call ρ st (Ce.and a b)=R.bind (ev call ρ st a) λx st1=>onBl x λk=>bif k then ev call ρ st1 b else R.ok (PV.bl AC) st1:=rfl
theorem ve7(call:Nat->List PV->SO->R PV)(ρ:Env)(st:SO)(a b:Ce) :
  ev call ρ st (Ce.or a b)=R.bind (ev call ρ st a) λx st1=>onBl x λk=>bif k then R.ok (PV.bl AB) st1 else ev call ρ st1 b:=rfl
theorem ve8(call:Nat->List PV->SO->R PV)(ρ:Env)(st:SO)(o:COp)(a b:Ce) :
  ev call ρ st (Ce.cmp o a b)=R.bind (ev call ρ st a) λx st1=>R.bind (ev call ρ st1 b) λy st2=>toR (yF o x y) st2:=rfl
theorem ve9(call:Nat->List PV->SO->R PV)(ρ:Env)(st:SO)(o p:COp)(a b c:Ce) :
  ev call ρ st (Ce.chain o p a b c)=R.bind (ev call ρ st a) λx st1=>R.bind (ev call ρ st1 b) λy st2=>onO (blO (yF o x y)) λk=>bif k then R.bind (ev call ρ st2 c) λz st3=>toR (yF p y z) st3 else R.ok (PV.bl AC) st2:=rfl
theorem ve10(call:Nat->List PV->SO->R PV)(ρ:Env)(st:SO)(c a b:Ce) :
  ev call ρ st (Ce.ite c a b)=R.bind (ev call ρ st c) λx st1=>onO (yaT st1 x) λk=>bif k then ev call ρ st1 a else ev call ρ st1 b:=rfl
theorem ve11(call:Nat->List PV->SO->R PV)(ρ:Env)(st:SO)(es:Ces) :
  ev call ρ st (Ce.tup es)=R.bind (evs call ρ st es) λvs st1=>if Ch vs<=sizeMax then R.ok (PV.tup vs) st1 else R.bad:=rfl
theorem ve12(call:Nat->List PV->SO->R PV)(ρ:Env)(st:SO)(es:Ces) :
  ev call ρ st (Ce.lst es)=R.bind (evs call ρ st es) λvs st1=>if Ch vs<=sizeMax then R.ok (PV.lst vs) st1 else R.bad:=rfl
theorem ve13(call:Nat->List PV->SO->R PV)(ρ:Env)(st:SO)(es:Ces) :
  ev call ρ st (Ce.newl es)=R.bind (evs call ρ st es) λvs st1=>if Ch vs<=sizeMax then R.ok (PV.loc (Ch st1)) (st1++[Ob.lst vs])else R.bad:=rfl
theorem ve15(call:Nat->List PV->SO->R PV)(ρ:Env)(st:SO)(t:Bool) :
  ev call ρ st (Ce.dict0 t)=R.ok (PV.loc (Ch st)) (st++[Ob.dct t []]):=rfl
theorem ve16(call:Nat->List PV->SO->R PV)(ρ:Env)(st:SO)(a i:Ce) :
  ev call ρ st (Ce.idx a i)=R.bind (ev call ρ st a) λx st1=>R.bind (ev call ρ st1 i) λy st2=>toR (idxV st2 x y) st2:=rfl
theorem ve17(call:Nat->List PV->SO->R PV)(ρ:Env)(st:SO)(a l h:Ce) :
  ev call ρ st (Ce.slc a l h)=R.bind (ev call ρ st a) λx st1=>R.bind (ev call ρ st1 l) λy st2=>onP (yb8 y) λo=>R.bind (ev call ρ st2 h) λz st3=>toR (ycJ x o z) st3:=rfl
theorem ve18(call:Nat->List PV->SO->R PV)(ρ:Env)(st:SO)(f:Nat)(es:Ces) :
  ev call ρ st (Ce.call f es)=R.bind (evs call ρ st es) λvs st1=>call f vs st1:=rfl
theorem ve19(call:Nat->List PV->SO->R PV)(ρ:Env)(st:SO)(b:Blt)(es:Ces) :
  ev call ρ st (Ce.blt b es)=R.bind (evs call ρ st es) λvs st1=>toR (yaD b st1 vs) st1:=rfl
theorem ve20(call:Nat->List PV->SO->R PV)(ρ:Env)(st:SO)(m:Mth)(o:Ce)(es:Ces) :
  ev call ρ st (Ce.mth m o es)=R.bind (ev call ρ st o) λx st1=>onO (ya3 m st1 x) λx_1=>R.bind (evs call ρ st1 es) λvs st2=>ycL m st2 x vs:=rfl
theorem ve21(call:Nat->List PV->SO->R PV)(ρ:Env)(st:SO)(a:Ce)(ts:List Ty) :
  ev call ρ st (Ce.isi a ts)=R.bind (ev call ρ st a) λx st1=>toR (ya1 x ts) st1:=rfl
theorem ve24(call:Nat->List PV->SO->R PV)(ρ:Env)(st:SO) :
  ev call ρ st Ce.nope=R.bad:=rfl
theorem ve25(call:Nat->List PV->SO->R PV)(ρ:Env)(st:SO)(a:Ce) :
  ev call ρ st (Ce.frz a)=R.bind (ev call ρ st a) λx st1=>ydP x st1:=rfl
theorem ve28(call:Nat->List PV->SO->R PV)(ρ:Env)(st:SO)(D:List (AR×PV))(a:Ce) :
  ev call ρ st (Ce.dix D a)=R.bind (ev call ρ st a) λx st1=>toR (ycH D x) st1:=rfl
theorem ve29(call:Nat->List PV->SO->R PV)(ρ:Env)(st:SO)(a:Ce)(D:List (AR×PV)) :
  ev call ρ st (Ce.din a D)=R.bind (ev call ρ st a) λx st1=>toR (ycr D x) st1:=rfl
theorem ve32(call:Nat->List PV->SO->R PV)(ρ:Env)(st:SO)(c:Nat)(a:Ce)(f:AR) :
  ev call ρ st (Ce.fld c a f)=R.bind (ev call ρ st a) λx st1=>toR (yba c st1 x f) st1:=rfl
theorem ve33(call:Nat->List PV->SO->R PV)(ρ:Env)(st:SO)(c i:Nat)(es:Ces) :
  ev call ρ st (Ce.new c i es)=R.bind (evs call ρ st es) λvs st1=>R.bind (ybJ (call i (PV.loc (Ch st1)::vs) (st1++[Ob.ins c []]))) λv st2=>newV (Ch st1) v st2:=rfl
theorem ve37(call:Nat->List PV->SO->R PV)(ρ:Env)(st:SO)(c i:Nat)(m:AR)(o:Ce)
 (es:Ces) :
  ev call ρ st (Ce.mcl c i m o es)=R.bind (ev call ρ st o) λx st1=>onO (ycb c m st1 x) λx_1=>R.bind (evs call ρ st1 es) λvs st2=>call i (x::vs) st2:=rfl
end IC
namespace WK
open IC PySem
mutual
noncomputable def pvq:PV->PV->Bool
 | .non,.non=>AB
 | .bl a,.bl b=>a == b
 | .int i,.int j=>decide (i=j)
 | .str x,.str y=>decide (x=y)
 | .tp k xs,.tp l ys=>(k == l) && ycR xs ys
 | .lst xs,.lst ys=>ycR xs ys
 |_,_=>AC
noncomputable def ycR:List PV->List PV->Bool
 | [],[]=>AB
 |x::xs,y::ys=>pvq x y && ycR xs ys
 |_,_=>AC
end
mutual
theorem zkN:∀(a b:PV),pvq a b=AB->a=b
 | .non,b,h=>by cases b<;>simp[pvq]at h ⊢
 | .bl a,b,h=>by cases b<;>simp[pvq]at h ⊢;exact h
 | .int a,b,h=>by cases b<;>simp[pvq]at h ⊢;exact h
 | .str a,b,h=>by cases b<;>simp[pvq]at h ⊢;exact h
 | .tp k xs,b,h=>by
  cases b<;>simp[pvq]at h ⊢
  exact⟨h.1,zfY _ _ h.2⟩
 | .lst xs,b,h=>by
  cases b<;>simp[pvq]at h ⊢
  exact zfY _ _ h
 | .loc _,b,h=>by cases b<;>simp[pvq]at h
 | .exn _,b,h=>by cases b<;>simp[pvq]at h
 | .scr _,b,h=>by cases b<;>simp[pvq]at h
theorem zfY:∀(a b:List PV),ycR a b=AB->a=b
 | [],b,h=>by cases b<;>simp[ycR]at h ⊢
 |x::xs,b,h=>by
  cases b with
  |nil=>simp[ycR]at h
  |cons y ys =>
   simp[ycR]at h;rw[zkN x y h.1,zfY xs ys h.2]
end
def isOk(r:R PV)(v:PV):Bool:=match r with
 | .ok w []=>pvq w v
 |_=>AC
theorem zcw{r:R PV}{v:PV}(h:isOk r v=AB):r=.ok v []:=by
 match r with
 | .ok w []=>rw[zkN w v h]
 | .ok w (_::_)=>simp[isOk]at h
 | .exc _ _=>simp[isOk]at h
 | .bad=>simp[isOk]at h
noncomputable def chS(c:Nat):Str:=⟨#[c]⟩
def yS(c:Nat)(i:Int):PV:=.tup [.str (chS c),.int i]
theorem zl3{c d:Nat}(h:chS c=chS d):c=d:=by
 have:=congrArg (λx=>x.cps) h;simpa [chS] using this
theorem zbx(c d:Nat)(i j:Int):peq (yS c i) (yS d j)=decide (c=d/\i=j):=by
 have h:(chS c == chS d)=decide (c=d):=by
  rw[Dt];simp;exact⟨zl3,λe=>by rw[e]⟩
 simp[yS,peq,ybz,h,Bool.decide_and]
 try rfl
noncomputable abbrev Mem:=Nat->Int->Int
noncomputable def upd(M:Mem)(c:Nat)(i v:Int):Mem:=λd j=>if d=c/\j=i then v else M d j
def ycZ(kvs:List (PV×PV)):Prop:=∀p∈kvs,∃c i,p.1=yS c i
def Rel(kvs:List (PV×PV))(M:Mem):Prop:=∀c i,(look (yS c i) kvs).getD (.int 0)=.int (M c i)
theorem zgy(c:Nat)(i:Int)(v:PV)(d:Nat)(j:Int):∀kvs,ycZ kvs->look (yS d j) (kvs.map λp=>if peq p.1 (yS c i)=AB then(p.1,v)else p)=if d=c/\j=i then(if (kvs.any λp=>peq p.1 (yS c i))=AB then AA v else AD)else look (yS d j) kvs
 | [],_=>by simp[look]
 |p::kvs,h=>by
  let⟨e,g,hp⟩:=h p Aj;let⟨p1,p2⟩:=p;simp only at hp;subst hp;have ih:=zgy c i v d j kvs λq hq=>h q (AT _ hq);rw[AL,Bu];erw[zbx]
  by_cases h1:e=c/\g=i
  .let⟨rfl,rfl⟩:=h1;erw[and_self,decide_true,if_true,look,zbx,GJ]
   by_cases h2:e=d/\g=j
   .let⟨rfl,rfl⟩:=h2;simp
   .have h3:¬(d=e/\j=g):=λz=>h2 ⟨z.1.symm,z.2.symm⟩;erw[h2,h3,decide_false,if_false,BW];rw[ih,if_neg h3]
  .simp only[h1,decide_false,Fe,BW,if_false];rw[look,look];erw[zbx]
   by_cases h2:e=d/\g=j
   .let⟨rfl,rfl⟩:=h2;simp[h1]
   .simp only[h2,decide_false,BW,if_false];exact ih
theorem zgv(c:Nat)(i:Int)(v:PV)(d:Nat)(j:Int):∀kvs,ycZ kvs->(kvs.any λp=>peq p.1 (yS c i))=AC->look (yS d j) (kvs++[(yS c i,v)])=if d=c/\j=i then AA v else look (yS d j) kvs
 | [],_,_=>by
  erw[Au,look,zbx]
  by_cases h2:c=d/\i=j
  .let⟨rfl,rfl⟩:=h2;simp
  .have h3:¬(d=c/\j=i):=λz=>h2 ⟨z.1.symm,z.2.symm⟩;simp[h2,h3]
 |p::kvs,h,hn=>by
  let⟨e,g,hp⟩:=h p Aj;let⟨p1,p2⟩:=p;simp only at hp;subst hp;rw[Bu,Bool.or_eq_false_iff]at hn;have ih:=zgv c i v d j kvs (λq hq=>h q (AT _ hq)) hn.2;have h1:¬(e=c/\g=i):=by simpa [zbx] using hn.1
  rw[Ab,look,look];erw[zbx]
  by_cases h2:e=d/\g=j
  .let⟨rfl,rfl⟩:=h2;simp[h1]
  .simp only[h2,decide_false,BW,if_false];exact ih
theorem zjt(c:Nat)(i:Int)(v:PV)(d:Nat)(j:Int)(kvs:List (PV×PV))(h:ycZ kvs):look (yS d j) (put (yS c i) v kvs)=if d=c/\j=i then AA v else look (yS d j) kvs:=by
 unfold put;split
 .rename_i z;rw[zgy _ _ _ _ _ _ h,z,if_pos rfl]
 .rename_i z;exact zgv _ _ _ _ _ _ h (by simpa using z)
theorem zj2{c:Nat}{i:Int}{v:PV}{kvs:List (PV×PV)}(h:ycZ kvs):ycZ (put (yS c i) v kvs):=by
 unfold put;split
 .intro p hp;let⟨q,hq,rfl⟩:=D0.1 hp;let⟨e,g,he⟩:=h q hq;refine⟨e,g,?_⟩;split
  .exact he
  .exact he
 .intro p hp;rcases Ar.1 hp with hp|hp
  .exact h p hp
  .simp at hp;exact⟨c,i,by rw[hp]⟩
theorem zlv{c:Nat}{i v:Int}{kvs:List (PV×PV)}{M:Mem}(h:ycZ kvs)(r:Rel kvs M):Rel (put (yS c i) (.int v) kvs) (upd M c i v):=by
 intro d j;rw[zjt _ _ _ _ _ _ h];unfold upd;split
 .rfl
 .exact r d j
theorem zl4{k v:PV}{kvs:List (PV×PV)}:(put k v kvs).length<=kvs.length+1:=by
 unfold put;split
 .simp
 .simp
theorem zgK(c:Nat)(i:Int):isKey AB (yS c i)=true:=rfl
structure Dc(st:SO)(n:Nat)(M:Mem)(L:Nat):Prop where
 ex:∃kvs,st[n]?=AA (.dct AB kvs)/\ycZ kvs/\Rel kvs M/\kvs.length<=L
theorem zkt{st:SO}{n L:Nat}{M:Mem}(h:Dc st n M L)(c:Nat)(i:Int):ydU st (.loc n) (yS c i) (.int 0)=.ok (.int (M c i)) st:=by
 let⟨kvs,h1,h2,h3,h4⟩:=h;erw[ydU,ybq,h1,zgK,if_true,h3 c i]
theorem zjL{st:SO}{n L:Nat}{M:Mem}(h:Dc st n M L)(hL:L<999999)(c:Nat)(i v:Int):∃kvs,ybp st (.loc n) (yS c i) (.int v)=AA (st.set n (.dct AB kvs))/\Dc (st.set n (.dct AB kvs)) n (upd M c i v) (L+1):=by
 let⟨kvs,h1,h2,h3,h4⟩:=h;have hn:n<st.length:=by
  rcases CF n st.length with z|z
  .exact z
  .rw[BN z]at h1;cases h1
 refine⟨put (yS c i) (.int v) kvs,?_,⟨_,A9 hn,zj2 h2,zlv h2 h3,B9 zl4 (by lia)⟩⟩;have h5:kvs.length<1000000:=by lia
 erw[ybp,h1,zgK,h5,and_self,if_true]
noncomputable abbrev Cel:=Nat×Int
def yx(x:Cel):PV:=yS x.1 x.2
inductive Rw where
 | mark (d:Int)|ask (x:Cel)|set (t:Cel) (d:Int)|move (t x:Cel)|bare (t x:Cel)|twice (t x:Cel)|half (t x:Cel)
 | sum (t x y:Cel)|less (t x y:Cel)|both (t x y:Cel)|any (t x y:Cel)|odd (t x y:Cel)|times (l h x y:Cel)
def yJ:Rw->PV
 | .mark d=>.tup [.str "mark",.int d]
 | .ask x=>.tup [.str "ask",yx x]
 | .set t d=>.tup [.str "set",yx t,.int d]
 | .move t x=>.tup [.str "move",yx t,yx x]
 | .bare t x=>.tup [.str "bare",yx t,yx x]
 | .twice t x=>.tup [.str "twice",yx t,yx x]
 | .half t x=>.tup [.str "half",yx t,yx x]
 | .sum t x y=>.tup [.str "sum",yx t,yx x,yx y]
 | .less t x y=>.tup [.str "less",yx t,yx x,yx y]
 | .both t x y=>.tup [.str "both",yx t,yx x,yx y]
 | .any t x y=>.tup [.str "any",yx t,yx x,yx y]
 | .odd t x y=>.tup [.str "odd",yx t,yx x,yx y]
 | .times l h x y=>.tup [.str "times",yx l,yx h,yx x,yx y]
noncomputable def rd(M:Mem)(x:Cel):Int:=M x.1 x.2
def wr(M:Mem)(x:Cel)(v:Int):Mem:=upd M x.1 x.2 v
def stepM(W:Int)(M:Mem)(k:Int):Rw->Mem×Int
 | .mark d=>(M,d)
 | .ask x=>(M,bi (!(rd M x == 0)))
 | .set t d=>(wr M t d,k)
 | .move t x=>(wr M t (rd M x),k)
 | .bare t x=>(wr M t (W - 1 - rd M x),k)
 | .twice t x=>(wr M t ((2*rd M x+k)%W),(2*rd M x+k) / W)
 | .half t x=>(wr M t (rd M x / 2+k*(W / 2)),rd M x%2)
 | .sum t x y=>(wr M t ((rd M x+rd M y+k)%W),(rd M x+rd M y+k) / W)
 | .less t x y=>(wr M t ((rd M x - rd M y - k)%W),bi (decide (rd M x - rd M y - k<0)))
 | .both t x y=>(wr M t (BR (rd M x) (rd M y)),k)
 | .any t x y=>(wr M t (Bd (rd M x) (rd M y)),k)
 | .odd t x y=>(wr M t (BB (rd M x) (rd M y)),k)
 | .times l h x y=>(wr (wr M l (rd M x*rd M y%W)) h (rd M x*rd M y / W),k)
def yu(W:Int):List Rw->Mem->Int->Mem×Int
 | [],M,k=>(M,k)
 |r::rs,M,k=>yu W rs (stepM W M k r).1 (stepM W M k r).2
theorem zm(W:Int):∀(a b:List Rw) (M:Mem) (k:Int),yu W (a++b) M k=yu W b (yu W a M k).1 (yu W a M k).2
 | [],b,M,k=>rfl
 |r::a,b,M,k=>by rw[Ab,yu,zm W a b,yu]
theorem zkv{st:SO}{n:Nat}{o:Ob}(h:st[n]?=AA o):st=st.set n o:=by
 refine DY λi=>?_;rw[Co];split
 .rename_i e;subst e;split
  .exact h
  .rename_i z;rw[BN (by lia)]at h
   cases h
 .rfl
theorem zdN(i:Int):shp (.int i)=true:=rfl
section
variable {st:SO}{k:Bool}{a b c d e:PV}{r:List PV}{i j:Int}
theorem ix0:idxV st (.tp k (a::r)) (.int 0)=AA a:=by simp[idxV,ybg,at?,ixI]
theorem ix1:idxV st (.tp k (a::b::r)) (.int 1)=AA b:=by
 have:(1:Int)<(r.length:Int)+1+1:=by lia
 simp[idxV,ybg,at?,ixI,this]
theorem ix2:idxV st (.tp k (a::b::c::r)) (.int 2)=AA c:=by
 have:(2:Int)<(r.length:Int)+1+1+1:=by lia
 simp[idxV,ybg,at?,ixI,this]
theorem ix3:idxV st (.tp k (a::b::c::d::r)) (.int 3)=AA d:=by
 have:(3:Int)<(r.length:Int)+1+1+1+1:=by lia
 simp[idxV,ybg,at?,ixI,this]
theorem b_add:yE .add (.int i) (.int j)=AA (.int (i+j)):=rfl
theorem b_sub:yE .sub (.int i) (.int j)=AA (.int (i - j)):=rfl
theorem zjN(h:i.natAbs<18446744073709551616 \/ j.natAbs<18446744073709551616):yE .mul (.int i) (.int j)=AA (.int (i*j)):=by
 have:yaI i j=true:=by simpa [yaI] using h
 simp[yE,binI,this]
theorem za1(h:i.natAbs<18446744073709551616):yE .mul (.int i) (.int j)=AA (.int (i*j)):=zjN (.inl h)
theorem zdF(h:j.natAbs<18446744073709551616):yE .mul (.int i) (.int j)=AA (.int (i*j)):=zjN (.inr h)
theorem b_mul2:yE .mul (.int 2) (.int j)=AA (.int (2*j)):=zjN (.inl (by decide))
theorem zmr(h:0<j)(h2:j<18446744073709551616*18446744073709551616):yE .fdiv (.int i) (.int j)=AA (.int (i / j)):=by
 have h3:j<10000000000000000000000000000000000000000000000000000000000000000000000:=by lia
 simp[yE,binI,h,h3]
theorem b_div2:yE .fdiv (.int i) (.int 2)=AA (.int (i / 2)):=rfl
theorem ziS(h:0<j):yE .mod (.int i) (.int j)=AA (.int (i%j)):=by simp[yE,binI,h]
theorem zpA:yE .band (.int i) (.int j)=AA (.int (BR i j)):=rfl
theorem ye5:yE .bor (.int i) (.int j)=AA (.int (Bd i j)):=rfl
theorem zpy:yE .bxor (.int i) (.int j)=AA (.int (BB i j)):=rfl
theorem toR_some{v:PV}:toR (AA v) st=.ok v st:=rfl
theorem c_ne:yF .ne (.int i) (.int j)=AA (.bl (!(i == j))):=by simp[yF,zdN,peq]
theorem c_eq:yF .eq (.int i) (.int j)=AA (.bl (i == j)):=by simp[yF,zdN,peq]
theorem c_lt:yF .lt (.int i) (.int j)=AA (.bl (decide (i<j))):=rfl
theorem c_le:yF .le (.int i) (.int j)=AA (.bl (decide (i<=j))):=rfl
theorem c_gt:yF .gt (.int i) (.int j)=AA (.bl (decide (j<i))):=rfl
theorem c_ge:yF .ge (.int i) (.int j)=AA (.bl (decide (j<=i))):=rfl
theorem t_bl{b:Bool}:yaT st (.bl b)=AA b:=rfl
theorem on_t{f:Bool->Fl}{b:Bool}:onF (AA b) f=f b:=rfl
theorem ono{α:Type}{f:Bool->R α}{b:Bool}:onO (AA b) f=f b:=rfl
theorem zam{ρ:IC.Env}:stO ρ (AA st)=.nx ρ st:=rfl
theorem nxO_some{ρ:IC.Env}:nxO (AA ρ) st=.nx ρ st:=rfl
theorem fl_ok{α:Type}{a:α}{ρ:IC.Env}{k:α->SO->Fl}:(R.ok a st).fl ρ k=k a st:=rfl
theorem bd_ok{α β:Type}{a:α}{k:α->SO->R β}:(R.ok a st).bind k=k a st:=rfl
theorem th_nx{ρ:IC.Env}{k:IC.Env->SO->Fl}:yaJ (.nx ρ st) k=k ρ st:=rfl
theorem th_rt{v:PV}{k:IC.Env->SO->Fl}:yaJ (.rt v st) k=.rt v st:=rfl
theorem fl_exc{α:Type}{c:Nat}{ρ:IC.Env}{k:α->SO->Fl}:(R.exc c st:R α).fl ρ k=.exc c ρ st:=rfl
theorem bd_exc{α β:Type}{c:Nat}{k:α->SO->R β}:(R.exc c st:R α).bind k=.exc c st:=rfl
theorem th_exc{c:Nat}{ρ:IC.Env}{k:IC.Env->SO->Fl}:yaJ (.exc c ρ st) k=.exc c ρ st:=rfl
theorem noLocs_ints:∀(l:List Int),nLs (l.map PV.int)=AB
 | []=>rfl
 |_::l=>by simp[nLs,nL,noLocs_ints l]
theorem bT_n{i:Nat}{v:PV}{ρ:IC.Env}:yO (.n i) v ρ=AA (ρ.set i (AA v)):=rfl
end
theorem zna:∀(n x y:Nat),x<=n->(x ^^^ y)+(x &&& y)=x ||| y
 |n,x,y,h=>by
  by_cases hx:x=0
  .subst hx;simp
  .have ih:=zna (n - 1) (x / 2) (y / 2) (by lia);rw[<- Nat.xor_div_two,<- Nat.and_div_two,<- Nat.or_div_two]at ih;have m1:(x ^^^ y)%2=((x%2) ^^^ (y%2)):=by
    have:=Nat.xor_mod_two_pow (a:=x) (b:=y) (n:=1);simpa using this
   have m2:(x &&& y)%2=((x%2) &&& (y%2)):=by
    have:=Nat.and_mod_two_pow (a:=x) (b:=y) (n:=1);simpa using this
   have m3:(x ||| y)%2=((x%2) ||| (y%2)):=by
    have:=Nat.or_mod_two_pow (a:=x) (b:=y) (n:=1);simpa using this
   rcases EW x with a|a<;>rcases EW y with b|b<;>rw[a,b]at m1 m2 m3<;>erw[Nat.reduceXor,Nat.reduceAnd,Nat.reduceOr]at m1 m2 m3<;>lia
theorem ziv(x y:Nat):BR (x:Int) (y:Int)=((x &&& y:Nat):Int):=by
 simp[BR]
theorem zd7(x y:Nat):Bd (x:Int) (y:Int)=((x ||| y:Nat):Int):=by
 have h1:¬(0:Int)<=-(x:Int) - 1:=by lia
 have h2:¬(0:Int)<=-(y:Int) - 1:=by lia
 have h3:(-(-(x:Int) - 1) - 1).toNat=x:=by lia
 have h4:(-(-(y:Int) - 1) - 1).toNat=y:=by lia
 erw[Bd,BR,Builtin.bitNot,h1,h2,decide_false,h3,h4];lia
theorem zje(x y:Nat):BB (x:Int) (y:Int)=((x ^^^ y:Nat):Int):=by
 have:=zna x x y (AS x);rw[BB,zd7,ziv];lia
theorem pw(w:Nat):((2^w:Nat):Int)=2^w:=by simp
theorem zoA{w:Nat}{a b:Int}(a0:0<=a)(b0:0<=b)(b1:b<2^w):0<=BR a b/\BR a b<2^w:=by
 obtain⟨x,rfl⟩:∃n:Nat,a=n:=⟨a.toNat,by lia⟩;obtain⟨y,rfl⟩:∃n:Nat,b=n:=⟨b.toNat,by lia⟩;rw[ziv];rw[<- pw]at b1 ⊢;exact⟨by lia,by exact_mod_cast Fr x (by lia:y<2^w)⟩
theorem zhW{w:Nat}{a b:Int}(a0:0<=a)(a1:a<2^w)(b0:0<=b)(b1:b<2^w):0<=BB a b/\BB a b<2^w:=by
 obtain⟨x,rfl⟩:∃n:Nat,a=n:=⟨a.toNat,by lia⟩;obtain⟨y,rfl⟩:∃n:Nat,b=n:=⟨b.toNat,by lia⟩;rw[zje];rw[<- pw]at a1 b1 ⊢;exact⟨by lia,by exact_mod_cast Ft (by lia:x<2^w) (by lia:y<2^w)⟩
theorem znq{w:Nat}{a b:Int}(a0:0<=a)(a1:a<2^w)(b0:0<=b)(b1:b<2^w):0<=Bd a b/\Bd a b<2^w:=by
 obtain⟨x,rfl⟩:∃n:Nat,a=n:=⟨a.toNat,by lia⟩;obtain⟨y,rfl⟩:∃n:Nat,b=n:=⟨b.toNat,by lia⟩;rw[zd7];rw[<- pw]at a1 b1 ⊢;exact⟨by lia,by exact_mod_cast Nat.or_lt_two_pow (by lia:x<2^w) (by lia:y<2^w)⟩
theorem zfQ{a b:Int}(a0:0<=a)(b0:0<=b):Bd a b=0 ↔ a=0/\b=0:=by
 obtain⟨x,rfl⟩:∃n:Nat,a=n:=⟨a.toNat,by lia⟩;obtain⟨y,rfl⟩:∃n:Nat,b=n:=⟨b.toNat,by lia⟩;rw[zd7];have:=Nat.or_eq_zero_iff (n:=x) (m:=y);lia
theorem zcz{w x:Nat}(h:x<2^(w+1)):(2*(x:Int)) / 2^(w+1)=((x / 2^w:Nat):Int)/\(x / 2^w=0 \/ x / 2^w=1):=by
 have hp:0<2^w:=Nat.pow_pos (by lia);constructor
 .rw[<- pw];have:(2*x) / 2^(w+1)=x / 2^w:=by
   rw[HL,Nat.mul_comm 2 x,Nat.mul_div_mul_right _ _ (by lia)]
  rw[<- this];rfl
 .have:x / 2^w<2:=Nat.div_lt_of_lt_mul (by rw[HL]at h;lia);generalize x / 2^w=q at this;lia
noncomputable def tb(w:Nat)(a:Int):Int:=(2*a) / 2^w
theorem znX{w:Nat}(hw:0<w){a b:Int}(a0:0<=a)(a1:a<2^w)(b0:0<=b)(b1:b<2^w):tb w (BR a b)=tb w a*tb w b:=by
 obtain⟨x,rfl⟩:∃n:Nat,a=n:=⟨a.toNat,by lia⟩;obtain⟨y,rfl⟩:∃n:Nat,b=n:=⟨b.toNat,by lia⟩;obtain⟨w,rfl⟩:∃v,w=v+1:=⟨w - 1,by lia⟩;rw[<- pw]at a1 b1;have hx:=zcz (show x<2^(w+1)by lia);have hy:=zcz (show y<2^(w+1)by lia);have hz:=zcz (Fr x (show y<2^(w+1)by lia));rw[ziv,tb,tb,tb,hx.1,hy.1,hz.1,Nat.and_div_two_pow];rcases hx.2 with e|e<;>rcases hy.2 with f|f<;>rw[e,f]<;>rfl
theorem zlc{w:Nat}(hw:0<w){a b:Int}(a0:0<=a)(a1:a<2^w)(b0:0<=b)(b1:b<2^w):tb w (BB a b)=(tb w a+tb w b)%2:=by
 obtain⟨x,rfl⟩:∃n:Nat,a=n:=⟨a.toNat,by lia⟩;obtain⟨y,rfl⟩:∃n:Nat,b=n:=⟨b.toNat,by lia⟩;obtain⟨w,rfl⟩:∃v,w=v+1:=⟨w - 1,by lia⟩;rw[<- pw]at a1 b1;have hx:=zcz (show x<2^(w+1)by lia);have hy:=zcz (show y<2^(w+1)by lia);have hz:=zcz (Ft (show x<2^(w+1)by lia) (show y<2^(w+1)by lia));rw[zje,tb,tb,tb,hx.1,hy.1,hz.1,Nat.xor_div_two_pow];rcases hx.2 with e|e<;>rcases hy.2 with f|f<;>rw[e,f]<;>rfl
theorem zjg{w:Nat}(hw:0<w){a:Int}(a0:0<=a)(a1:a<2^w):tb w a=if 2^w<=2*a then 1 else 0:=by
 have h1:(0:Int)<2^w:=Af (by lia);unfold tb;split
 .rename_i h;exact Int.le_antisymm (Int.le_of_lt_add_one (BY h1 (by lia))) (Int.le_ediv_of_mul_le h1 (by lia))
 .exact BU (by lia) (by lia)
theorem zcA(ys:List PV)(h:ys.length<=1000000)(st:SO):ycg (.ok ys st)=.ok (.lst ys) st:=by simp[ycg,h]
theorem zb2(n:Nat)(h:n<1000):yb3 (.int (n:Int))=AA (yr n 0 1):=by
 simp[yb3];lia
theorem zeo{z:Int}(h:0<=z):∃n:Nat,z=n:=⟨z.toNat,by lia⟩
def ybE(st:SO)(f:Fl):R PV :=
 match f with
 | .rt v _=>if nL v then .ok v st else .bad
 | .nx _ _=>.ok .non st
 | .exc c _ _=>.exc c st
 |_=>.bad
theorem zc{T:Nat->Option IC.Fn}{k f:Nat}{fn:IC.Fn}{args:List PV}{st:SO}(hT:T f=AA fn)(hp:fn.pure=AB)(hl:args.length=fn.np)(hn:nLs args=AB) :
  yc T (k+1) f args st=ybE st (exs (yc T k) (args.map AA++BG (fn.ns - fn.np) AD) [] fn.body):=by
 rw[yc,hT];dsimp only;rw[if_pos hl,if_pos hp,if_pos hn];rfl
def outI(f:Fl):R PV :=
 match f with
 | .rt v st1=>.ok v st1
 | .nx _ st1=>.ok .non st1
 | .exc c _ st1=>.exc c st1
 |_=>.bad
theorem zp{T:Nat->Option IC.Fn}{k f:Nat}{fn:IC.Fn}{args:List PV}{st:SO}(hT:T f=AA fn)(hp:fn.pure=AC)(hl:args.length=fn.np) :
  yc T (k+1) f args st=outI (exs (yc T k) (args.map AA++BG (fn.ns - fn.np) AD) st fn.body):=by
 rw[yc,hT];dsimp only;rw[if_pos hl,hp,if_neg (by simp)];rfl
theorem zbD{st:SO}{v:PV}:outI (.rt v st)=.ok v st:=rfl
theorem zn5{st s:SO}{b:Bool}:ybE st (.rt (.bl b) s)=.ok (.bl b) st:=rfl
theorem zlV{st s:SO}{b:Int}:ybE st (.rt (.int b) s)=.ok (.int b) st:=rfl
set_option backward.eqns.nonrecursive true
local macro_rules | `(tactic| simp! [$xs,*])=>do
 let l<-("IC.xs_cons IC.xs_nil IC.x_asg IC.x_ite IC.x_ret IC.x_expr IC.x_for IC.x_six IC.evs IC.evi IC.ve1 IC.ve2 IC.ve3 IC.ve4 IC.ve5 IC.ve6 IC.ve7 IC.ve8 IC.ve9 IC.ve10 IC.ve11 IC.ve12 IC.ve13 IC.ve15 IC.ve16 IC.ve17 IC.ve18 IC.ve19 IC.ve20 IC.ve21 IC.ve24 IC.ve25 IC.ve28 IC.v_comp List.getElem?_cons_zero List.getElem?_cons_succ WK.bd_ok WK.fl_ok WK.bd_exc WK.fl_exc WK.toR_some IC.toL WK.bT_n WK.nxO_some WK.th_nx WK.th_rt WK.th_exc List.set_cons_zero List.set_cons_succ WK.on_t WK.t_bl WK.ono IC.onBl cond_true cond_false List.length_cons List.length_nil Nat.zero_add Nat.reduceAdd Nat.reduceSub Nat.reduceLeDiff if_true IC.nL IC.nLs WK.noLocs_ints Bool.and_self Bool.not_true Bool.not_false List.map_cons List.map_nil List.replicate List.cons_append List.nil_append List.append_nil Option.bind_none Option.bind_some Option.join_some WK.b_add WK.b_sub WK.b_mul2 WK.b_div2 WK.c_lt WK.c_le WK.c_gt WK.c_ge WK.c_eq WK.c_ne IC.PV.tup IC.sizeMax".splitOn " ").toArray.mapM λs=>`(Lean.Parser.Tactic.simpLemma| $(Lean.mkIdent s.toName):term)
 `(tactic| simp only[$l,*,$xs,*])
noncomputable def yaB:PV:=.tup [.int 2147483647,.int 2147483629,.int 2147483587,.int 2147483579,.int 2147483563]
noncomputable def ydx:Css:=match yaE.body with
 | .cons _ (.cons _ (.cons (.for _ _ b) _))=>b
 |_=>.nil
theorem zdt{c:Cl}{s num g p:Int}{i:Nat}{u5 u6 u7:Option PV}(hg:∀st,idxV st (.tup [.int 11,.int 101,.int 1009,.int 10007,.int 100003]) (.int i)=AA (.int g))(hi:i<5)(hp:0<p)(hp2:p<18446744073709551616) :
  ∃num' v5 v6 v7,exs c [AA (.int s),AA yaB,AA (.int num),AA (.int i),AA (.int p),u5,u6,u7] [] ydx=.nx [AA (.int s),AA yaB,AA (.int num'),AA (.int i),AA (.int p),v5,v6,v7] []:=by
 have h1:∀z:Int,yE .mul (.int z) (.int (48271+2*(i:Int)))=AA (.int (z*(48271+2*(i:Int)))):=λz=>zdF (by lia);have h2:∀z y:Int,yE .mul (.int z) (.int (y%p))=AA (.int (z*(y%p))):=λz y=>zdF (by
  have a:=Ao y (show p≠0 by lia);have b:=Ad y hp;lia)
 have h3:∀z:Int,yE .mul (.int z) (.int p)=AA (.int (z*p)):=λz=>zdF (by lia);simp! [ydx,yaE,hg,h1,h2,h3,ziS hp];exact⟨_,_,_,_,rfl⟩
theorem zjB{c:Cl}{s num:Int}{u5 u6 u7:Option PV}(i:Nat)(p:Int)(h:(i,p)∈[(0,(2147483647:Int)),(1,2147483629),(2,2147483587),(3,2147483579),(4,2147483563)]) :
  ∃num' v5 v6 v7,exs c [AA (.int s),AA yaB,AA (.int num),AA (.int i),AA (.int p),u5,u6,u7] [] ydx=.nx [AA (.int s),AA yaB,AA (.int num'),AA (.int i),AA (.int p),v5,v6,v7] []:=by
 erw[AQ,Prod.mk.injEq,A1,or_false]at h;rcases h with⟨rfl,rfl⟩|⟨rfl,rfl⟩|⟨rfl,rfl⟩|⟨rfl,rfl⟩|⟨rfl,rfl⟩
 .exact zdt (λ_=>rfl) (by decide) (by decide) (by decide)
 .exact zdt (λ_=>rfl) (by decide) (by decide) (by decide)
 .exact zdt (λ_=>rfl) (by decide) (by decide) (by decide)
 .exact zdt (λ_=>rfl) (by decide) (by decide) (by decide)
 .exact zdt (λ_=>rfl) (by decide) (by decide) (by decide)
noncomputable def ydX:List PV:=[.tup [.int 0,.int 2147483647],.tup [.int 1,.int 2147483629],.tup [.int 2,.int 2147483587],.tup [.int 3,.int 2147483579],.tup [.int 4,.int 2147483563]]
theorem mixed(k:Nat)(s:Int)(st:SO):∃num,yc T (k+1) zeL [.int s] st=.ok (.int num) st:=by
 let⟨ρ',st',h,num,a,b,c,d,e,e1,e2⟩:=zej (call:=yc T k) (t:=.t [3,4]) (b:=ydx) (λ_ ρ st=>∃num a b c d e,ρ=[AA (.int s),AA yaB,AA (.int num),a,b,c,d,e]/\st=[]) ydX 0 [AA (.int s),AA yaB,AA (.int 0),AD,AD,AD,AD,AD] [] ⟨_,_,_,_,_,_,rfl,rfl⟩ (by
  rintro j x ρ st hx ⟨num,a,b,c,d,e,rfl,rfl⟩
  have hx:=A0 hx;have hx:∃i p,x=.tup [.int ((i:Nat):Int),.int p]/\(i,p)∈[(0,(2147483647:Int)),(1,2147483629),(2,2147483587),(3,2147483579),(4,2147483563)]:=by
   erw[ydX,AQ,A1,or_false]at hx;rcases hx with rfl|rfl|rfl|rfl|rfl
   .exact⟨0,_,rfl,by simp⟩
   .exact⟨1,_,rfl,by simp⟩
   .exact⟨2,_,rfl,by simp⟩
   .exact⟨3,_,rfl,by simp⟩
   .exact⟨4,_,rfl,by simp⟩
  let⟨i,p,rfl,hm⟩:=hx;let⟨num',v5,v6,v7,hh⟩:=zjB (c:=yc T k) (s:=s) (num:=num) (u5:=c) (u6:=d) (u7:=e) i p hm;exact⟨_,_,_,rfl,hh,_,_,_,_,_,_,rfl,rfl⟩)
 subst e1 e2;refine⟨num,?_⟩;rw[yc];have hb:yaE.body=.cons (.asg (.n 1) (.tup (.cons (.cst (.int 2147483647)) (.cons (.cst (.int 2147483629)) (.cons (.cst (.int 2147483587)) (.cons (.cst (.int 2147483579)) (.cons (.cst (.int 2147483563)) .nil))))))) (.cons (.asg (.n 2) (.cst (.int 0))) (.cons (.for (.t [3,4]) (.enum (.var 1)) ydx) (.cons (.ret (.var 2)) .nil))):=rfl;have hT:T zeL=AA ⟨1,8,AB,yaE.body⟩:=rfl;have hp:PV.tup [.int 2147483647,.int 2147483629,.int 2147483587,.int 2147483579,.int 2147483563]=yaB:=rfl;rw[hT,hb];have h5:ev (yc T k) [AA (.int s),AD,AD,AD,AD,AD,AD,AD] [] (.tup (.cons (.cst (.int 2147483647)) (.cons (.cst (.int 2147483629)) (.cons (.cst (.int 2147483587)) (.cons (.cst (.int 2147483579)) (.cons (.cst (.int 2147483563)) .nil))))))=.ok yaB []:=by
  simp[IC.ve1,IC.ve11,evs,R.bind,sizeMax,yaB]
 have he:evi (yc T k) [AA (.int s),AA yaB,AA (.int 0),AD,AD,AD,AD,AD] [] (.enum (.var 1))=.ok ydX []:=by
  simp[evi,IC.ve2,R.bind,yaB,yG,ydX]
 erw[AZ,CA,if_true,nLs,nL,Eg,AL,A5,Di,BG,Ab,Au,xs_cons,xs_nil,x_asg,x_for,x_ret,h5,R.fl,yO,nxO,yaJ,B4,B5,IC.ve1,he,h,IC.ve2,BD,Ap]
theorem rdS{st:SO}{n:Nat}{o x:Ob}(h:st[n]?=AA o):(st.set n x)[n]?=AA x:=by
 have:n<st.length:=by
  rcases CF n st.length with h1|h1
  .exact h1
  .rw[BN h1]at h;cases h
 rw[A9 this]
theorem zoZ(ns:List Int)(a:Int)(h:ns≠[]):∃v,ybg (ns.map PV.int) (.int (a%(ns.length:Int)))=AA (.int v):=by
 have h0:0<ns.length:=Fa.2 h;have h1:=Ao a (show (ns.length:Int)≠0 by lia);have h2:=Ad a (show (0:Int)<ns.length by lia);have h3:(a%(ns.length:Int)).toNat<ns.length:=by lia
 refine⟨ns[(a%(ns.length:Int)).toNat],?_⟩;simp[ybg,at?,ixI,h1,h2,h3]
noncomputable def flT:Css:=match yam.body with
 | .cons _ (.cons _ (.cons _ t))=>t
 |x=>x
noncomputable abbrev flS(l:PV)(a p:Int)(f:Bool):Ob:=.lst [l,.int a,.int p,.bl f]
theorem zpg{st:SO}{n:Nat}{l:PV}{a p v:Int}{f:Bool}(h:st[n]?=AA (flS l a p f)):ybD st (.loc n) (.int 1) (.int v)=AA (st.set n (flS l v p f)):=by erw[ybD,h];rfl
theorem zps{st:SO}{n:Nat}{l:PV}{a p v:Int}{f:Bool}(h:st[n]?=AA (flS l a p f)):ybD st (.loc n) (.int 2) (.int v)=AA (st.set n (flS l a v f)):=by erw[ybD,h];rfl
theorem zpD{st:SO}{n:Nat}{l:PV}{a p:Int}{f g:Bool}(h:st[n]?=AA (flS l a p f)):ybD st (.loc n) (.int 3) (.bl g)=AA (st.set n (flS l a p g)):=by erw[ybD,h];rfl
theorem yf3{st:SO}{n:Nat}{l:PV}{a p:Int}{f:Bool}(h:st[n]?=AA (flS l a p f)):idxV st (.loc n) (.int 0)=AA l:=by erw[idxV,h];rfl
theorem yfW{st:SO}{n:Nat}{l:PV}{a p:Int}{f:Bool}(h:st[n]?=AA (flS l a p f)):idxV st (.loc n) (.int 1)=AA (.int a):=by erw[idxV,h];rfl
theorem yfY{st:SO}{n:Nat}{l:PV}{a p:Int}{f:Bool}(h:st[n]?=AA (flS l a p f)):idxV st (.loc n) (.int 3)=AA (.bl f):=by erw[idxV,h];rfl
theorem p18:yE .pow (.int 10) (.int 18)=AA (.int 1000000000000000000):=by ac_rfl
theorem zgB(k n:Nat){l:PV}{m a v p q:Int}{f g:Bool}{st:SO}(h:st[n]?=AA (flS l a p f))(hl:∀st,yaD .len st [l]=AA (.int m))(hg:(decide (a ≥ m) || decide (v<1000000000000000000))=g)
  (h1:g=AB->yc T (k+1) zeL [.int v] (st.set n (flS l (a+1) p AB))=.ok (.int q) (st.set n (flS l (a+1) p AB))) (h2:g=AC->q=v - 1000000000000000000) :
  exs (yc T (k+1)) [AA (.loc n),AA l,AA (.int a),AA (.int v)] st flT=.nx [AA (.loc n),AA l,AA (.int a),AA (.int v)] (st.set n (flS l (a+1) q g)):=by
 have s1:=zpg h (v:=a+1);have r1:=rdS h (x:=flS l (a+1) p f);have s2:=zpD r1 (g:=g);have r2:=rdS r1 (x:=flS l (a+1) p g);have s3:=zps r2 (v:=q);have i3:=yfY r2;rw[D1]at s2 s3 i3 r2;rw[D1]at s3
 have hb:flT=(match flT with
  | .cons a (.cons (.six x y _) r)=>.cons a (.cons (.six x y (.or (.cmp .ge (.var 2) (.blt .len (.cons (.var 1) .nil))) (.cmp .lt (.var 3) (.bin .pow (.cst (.int 10)) (.cst (.int 18)))))) r)
  |x=>x):=rfl
 have hor:∀st,ev (yc T (k+1)) [AA (.loc n),AA l,AA (.int a),AA (.int v)] st (.or (.cmp .ge (.var 2) (.blt .len (.cons (.var 1) .nil))) (.cmp .lt (.var 3) (.bin .pow (.cst (.int 10)) (.cst (.int 18)))))=.ok (.bl g) st:=λst=>by
  cases c:decide (a ≥ m)
  .rw[c,Fe]at hg;simp! [hl,c,p18,hg]
  .rw[c,GJ]at hg;subst hg;simp! [hl,c]
 generalize hE:(Ce.or (.cmp .ge (.var 2) (.blt .len (.cons (.var 1) .nil))) (.cmp .lt (.var 3) (.bin .pow (.cst (.int 10)) (.cst (.int 18)))))=E at *
 cases g with
 |true =>
  have h1:=h1 rfl;rw[hb];simp! [flT,yam,stO,s1,hor,s2,i3,h1,s3]
 |false =>
  have h2:=h2 rfl;subst h2;rw[hb];simp! [flT,yam,stO,s1,hor,s2,i3,p18,s3]
theorem fill(k n:Nat)(ns:List Int)(hns:ns.length<=1000)(a p:Int)(ha:0<=a)(f:Bool)(st:SO)(h:st[n]?=AA (.lst [.lst (ns.map .int),.int a,.int p,.bl f])) :
  ∃p' f',yc T (k+2) zhr [.loc n] st=.ok .non (st.set n (.lst [.lst (ns.map .int),.int (a+1),.int p',.bl f'])):=by
 have hT:T zhr=AA ⟨1,4,AC,yam.body⟩:=rfl;have hl:∀st,yaD .len st [.lst (ns.map .int)]=AA (.int (ns.length:Int)):=λst=>by
  show AA (PV.int (((ns.map PV.int).length:Nat):Int))=_;simp
 have i0:=yf3 h;have i1:=yfW h;have bt:∀(a b:PV) (ρ:IC.Env),yO (.t [1,2]) (.tp AC [a,b]) ρ=AA ((ρ.set 1 (AA a)).set 2 (AA b)):=λ_ _ _=>rfl
 have hb:yam.body=(match yam.body with
  | .cons a (.cons b (.cons c _))=>.cons a (.cons b (.cons c flT))
  |x=>x):=rfl
 have m31:yE .mul (.int 31) (.int a)=AA (.int (31*a)):=za1 (by decide);obtain⟨v,hv⟩:∃v,exs (yc T (k+1)) [AA (.loc n),AD,AD,AD] st yam.body=exs (yc T (k+1)) [AA (.loc n),AA (.lst (ns.map .int)),AA (.int a),AA (.int v)] st flT:=by
  by_cases hn:ns=[]
  .have c0:decide ((ns.length:Int) > 0)=false:=by subst hn;rfl
   refine⟨31*a+7,?_⟩;rw[hb];generalize flT=F at *;generalize ns.map PV.int=L at *;simp! [yam,i0,i1,bt,m31,hl,c0]
  .have h0:0<ns.length:=Fa.2 hn;let⟨v,hv⟩:=zoZ ns a hn;have c0:decide ((ns.length:Int) > 0)=true:=decide_eq_true (by lia);have d1:=zmr (i:=a) (j:=(ns.length:Int)) (by lia) (by lia);have d2:=ziS (i:=a) (j:=(ns.length:Int)) (by lia);have m1:yE .mul (.int 104729) (.int (a / (ns.length:Int)))=AA (.int (104729*(a / (ns.length:Int)))):=za1 (by decide);have ix:∀st,idxV st (.lst (ns.map .int)) (.int (a%(ns.length:Int)))=AA (.int v):=λ_=>hv;refine⟨104729*(a / (ns.length:Int))+v,?_⟩;rw[hb];generalize flT=F at *;generalize ns.map PV.int=L at *;simp! [yam,i0,i1,bt,m31,hl,c0,d1,d2,m1,ix]
 cases c:(decide (a ≥ (ns.length:Int)) || decide (v<1000000000000000000))with
 |true =>
  let⟨q,hq⟩:=mixed k v (st.set n (flS (.lst (ns.map .int)) (a+1) p AB));refine⟨q,AB,?_⟩;rw[zp hT rfl rfl];have e:=zgB k n h hl c (λ_=>hq) (λh=>nomatch h);rw[<- hv]at e;exact(congrArg _ e).trans rfl
 |false =>
  refine⟨v - 1000000000000000000,AC,?_⟩;rw[zp hT rfl rfl];have e:=zgB k n h hl c (λh=>nomatch h) (λ_=>rfl);rw[<- hv]at e;exact(congrArg _ e).trans rfl
noncomputable abbrev cM:Nat:=21
noncomputable abbrev sw:Str:=AF "w"
noncomputable abbrev sws:Str:=AF "words"
noncomputable abbrev smk:Str:=AF "marked"
def mob(w:Int)(L:Nat)(mk:Int):Ob:=.ins cM [(sw,.int w),(sws,.loc L),(smk,.int mk)]
structure MM(st:SO)(m l:Nat)(w:Int)(M:Mem)(mk:Int)(L:Nat):Prop where
 o:st[m]?=AA (mob w l mk)
 d:Dc st l M L
 ne:m≠l
theorem ygK{w mk:Int}{L:Nat}:([(sw,PV.int w),(sws,.loc L),(smk,.int mk)]:List (AR×PV)).lookup sw=AA (.int w):=by ac_rfl
theorem yg7{w mk:Int}{L:Nat}:([(sw,PV.int w),(sws,.loc L),(smk,.int mk)]:List (AR×PV)).lookup sws=AA (.loc L):=by ac_rfl
theorem ygo{w mk:Int}{L:Nat}:([(sw,PV.int w),(sws,.loc L),(smk,.int mk)]:List (AR×PV)).lookup smk=AA (.int mk):=by ac_rfl
section
variable {st:SO}{m l L:Nat}{w mk:Int}{M:Mem}
theorem MM.fw(h:MM st m l w M mk L):yba cM st (.loc m) sw=AA (.int w):=by erw[yba,h.o,mob,if_true];exact ygK
theorem MM.fd(h:MM st m l w M mk L):yba cM st (.loc m) sws=AA (.loc l):=by erw[yba,h.o,mob,if_true];exact yg7
theorem MM.fm(h:MM st m l w M mk L):yba cM st (.loc m) smk=AA (.int mk):=by erw[yba,h.o,mob,if_true];exact ygo
theorem MM.ins(h:MM st m l w M mk L)(n:AR)(hm:(([(sw,PV.non),(sws,.non),(smk,.non)]:List (AR×PV)).lookup n).isNone=true:=by decide +kernel):ycb cM n st (.loc m)=AA true:=by
 have e:([(sw,PV.int w),(sws,.loc l),(smk,.int mk)]:List (AR×PV)).lookup n=none:=by
  erw[CG]at hm ⊢
  cases h1:n == sw with
  |true=>rw[h1]at hm;cases hm
  |false =>
   rw[h1]at hm
   cases h2:n == sws with
   |true=>rw[h2]at hm;cases hm
   |false =>
    rw[h2]at hm
    cases h3:n == smk with
    |true=>rw[h3]at hm;cases hm
    |false=>rfl
 erw[ycb,h.o,mob];rw[if_pos ⟨trivial,e⟩]
theorem zo8{v:Int}:ybY smk (.int v) [(sw,PV.int w),(sws,.loc L),(smk,.int mk)]=[(sw,.int w),(sws,.loc L),(smk,.int v)]:=by ac_rfl
theorem Dc.set_ne{n:Nat}(h:Dc st l M L)(hn:n≠l)(o:Ob):Dc (st.set n o) l M L:=by
 let⟨kvs,h1,h2⟩:=h.ex;exact⟨kvs,by rw[AO hn];exact h1,h2⟩
theorem Dc.le{L':Nat}(h:Dc st l M L)(hL:L<=L'):Dc st l M L':=by
 let⟨kvs,h1,h2,h3,h4⟩:=h.ex;exact⟨kvs,h1,h2,h3,B9 h4 hL⟩
theorem MM.sm(h:MM st m l w M mk L)(v:Int):ybc cM st (.loc m) smk (.int v)=AA (st.set m (mob w l v))/\MM (st.set m (mob w l v)) m l w M v L:=by
 refine⟨?_,⟨rdS h.o,h.d.set_ne h.ne _,h.ne⟩⟩;erw[ybc,h.o,mob];rw[if_pos ⟨trivial,by simp⟩,zo8]
theorem MM.sd(h:MM st m l w M mk L)(hL:L<999999)(c:Cel)(v:Int):∃st',ybp st (.loc l) (yx c) (.int v)=AA st'/\(∃o,st'=st.set l o)/\MM st' m l w (wr M c v) mk (L+1):=by
 let⟨kvs,e,d⟩:=zjL h.d hL c.1 c.2 v;exact⟨_,e,⟨_,rfl⟩,by rw[AO (BM h.ne)];exact h.o,d,h.ne⟩
theorem zcy(k:Nat)(h:MM st m l w M mk L)(c:Cel):yc T (k+1) zw [.loc m,yx c] st=.ok (.int (rd M c)) st:=by
 have hT:T zw=AA zS:=rfl;have g:ycL .get st (.loc l) [yx c,.int 0]=.ok (.int (rd M c)) st:=zkt h.d c.1 c.2;have o:ya3 .get st (.loc l)=AA true:=by
  let⟨kvs,h1,_⟩:=h.d.ex;simp[ya3,ybq,h1]
 rw[zp hT rfl rfl];generalize yx c=q at *;simp! [zS,h.fd,o,g,zbD,IC.ve32]
end
theorem highest(k n:Nat)(hn:n<=100)(s:SO):yc T (k+1) zdo [.int n] s=.ok (.int (2^n - 1)) s:=by
 have hT:T zdo=AA zb3:=rfl;have hs:yE .shl (.int 1) (.int (n:Int))=AA (.int (2^n)):=by
  erw[yE,binI];rw[if_pos ⟨by lia,by lia,by decide⟩];simp
 rw[zc hT rfl rfl rfl];simp! [zb3,zlV,hs]
theorem zax{st s:SO}{a b:Int}:ybE st (.rt (.tp AC [.int a,.int b]) s)=.ok (.tp AC [.int a,.int b]) st:=rfl
section
variable {x y m:Int}{n:Nat}(hn:n<=100)(hn1:1<=n)(k:Nat)(st:SO)
theorem zmG:yE .shr (.int x) (.int (n:Int))=AA (.int (x / 2^n)):=by
 erw[yE,binI];rw[if_pos (by lia)];simp
theorem band(a b:Int):yE .band (.int a) (.int b)=AA (.int (BR a b)):=rfl
theorem zfb(a:Int):BR a (2^n - 1)=a%2^n:=PySem.W.kbt_mask a n
include hn
theorem zln:yc T (k+1) zfF [.int n,.int x,.int y,.int m] st=.ok (.tp AC [.int x,.int m]) st:=by
 have hT:T zfF=AA zen:=rfl;rw[zc hT rfl rfl rfl];simp! [zen,zax]
theorem zmL:yc T (k+2) zfG [.int n,.int x,.int y,.int m] st=.ok (.tp AC [.int (2^n - 1 - x),.int m]) st:=by
 have hT:T zfG=AA zes:=rfl;have e:=highest k n hn;rw[zc hT rfl rfl rfl];simp! [zes,zax,e]
theorem zgI:yc T (k+2) zeH [.int n,.int x,.int y,.int m] st=.ok (.tp AC [.int ((x+y+m)%2^n),.int ((x+y+m) / 2^n)]) st:=by
 have hT:T zeH=AA zcU:=rfl;have e:=highest k n hn;rw[zc hT rfl rfl rfl];simp! [zcU,zax,e,band,zmG,zfb]
theorem zlt:yc T (k+2) za9 [.int n,.int x,.int y,.int m] st=.ok (.tp AC [.int ((x - y - m)%2^n),.int (if x - y - m<0 then 1 else 0)]) st:=by
 have hT:T za9=AA zao:=rfl;have e:=highest k n hn;rw[zc hT rfl rfl rfl]
 by_cases c:x - y - m<0
 .have hc:yF .lt (.int (x - y - m)) (.int 0)=AA (.bl AB):=by simp[yF,ybM,c]
  rw[if_pos c];have hd:decide (x - y - m<0)=true:=decide_eq_true c;simp! [zao,zax,e,band,zfb,hd]
 .rw[if_neg c];have hd:decide (x - y - m<0)=false:=decide_eq_false c;simp! [zao,zax,e,band,zfb,hd]
theorem zm7:yc T (k+1) zdL [.int n,.int x,.int y,.int m] st=.ok (.tp AC [.int (BR x y),.int m]) st:=by
 have hT:T zdL=AA zbW:=rfl;rw[zc hT rfl rfl rfl];simp! [zbW,zax,zpA]
theorem zpi:yc T (k+1) zel [.int n,.int x,.int y,.int m] st=.ok (.tp AC [.int (Bd x y),.int m]) st:=by
 have hT:T zel=AA zc6:=rfl;rw[zc hT rfl rfl rfl];simp! [zc6,zax,ye5]
theorem zpw:yc T (k+1) zek [.int n,.int x,.int y,.int m] st=.ok (.tp AC [.int (BB x y),.int m]) st:=by
 have hT:T zek=AA zcW:=rfl;rw[zc hT rfl rfl rfl];simp! [zcW,zax,zpy]
theorem zhT:yc T (k+3) zdx [.int n,.int x,.int y,.int m] st=.ok (.tp AC [.int ((x+x+m)%2^n),.int ((x+x+m) / 2^n)]) st:=by
 have hT:T zdx=AA zco:=rfl;have e:=zgI (x:=x) (y:=x) (m:=m) hn k;rw[zc hT rfl rfl rfl];simp! [zco,zax,e]
include hn1
theorem zlM(x0:0<=x)(x1:x<2^n)(m0:0<=m)(m1:m<2):Bd (x / 2) (m*2^(n - 1))=x / 2+m*(2^n / 2):=by
 obtain⟨n',rfl⟩:∃n',n=n'+1:=⟨n - 1,by lia⟩;let⟨a,rfl⟩:=zeo x0;let⟨b,rfl⟩:=zeo m0;have e1:((a:Int) / 2)=((a / 2:Nat):Int):=by lia
 have e2:((b:Int)*2^(n'+1 - 1))=((2^n' * b:Nat):Int):=by
  rw[show n'+1 - 1=n' from rfl,A7];simp
 have hp:(2:Int)^(n'+1)=2*2^n':=by rw[Ae,A7]
 have ha:a / 2<2^n':=by
  have:(a:Int)<2*2^n':=by rw[<- hp];exact x1
  have h3:((2^n':Nat):Int)=2^n':=by simp
  lia
 rw[e1,e2,zd7,Nat.or_comm,<- Nat.two_pow_add_eq_or_of_lt ha,hp,Int.mul_ediv_cancel_left _ (by decide)];have h3:((2^n' * b:Nat):Int)=b*2^n':=by rw[A7];simp
 rw[Int.natCast_add,h3,EC]
theorem zjQ(x0:0<=x)(x1:x<2^n)(m0:0<=m)(m1:m<2):yc T (k+1) zet [.int n,.int x,.int y,.int m] st=.ok (.tp AC [.int (x / 2+m*(2^n / 2)),.int (x%2)]) st:=by
 have hT:T zet=AA zc5:=rfl;have h1:yE .shr (.int x) (.int 1)=AA (.int (x / 2)):=by
  have:=zmG (x:=x) (n:=1);simpa using this
 have h2:yE .shl (.int m) (.int ((n:Int) - 1))=AA (.int (m*2^(n - 1))):=by
  erw[yE,binI];rw[if_pos ⟨by lia,by lia,by lia⟩]
  congr 3
  congr 1
  lia
 have h3:BR x 1=x%2:=HM x;rw[zc hT rfl rfl rfl];simp! [zc5,zax,h1,h2,ye5,zlM hn hn1 x0 x1 m0 m1,band,h3]
end
theorem zkd{j:Nat}{k:Nat->Fl}:ye1 (AA j) k=k j:=rfl
theorem made{s:AR}{j:Nat}(hj:mkV zT AB (.str s)=AA j)(k:Nat)(st:SO){n x y m a b:Int}(e:yc T k j [.int n,.int x,.int y,.int m] []=.ok (.tp AC [.int a,.int b]) []) :
  yc T (k+1) zhA [.str s,.int n,.int x,.int y,.int m] st=.ok (.tp AC [.int a,.int b]) st:=by
 have hT:T zhA=AA zgu:=rfl;have hd:decide (5<6)=true:=rfl;rw[zc hT rfl rfl rfl];erw[zgu,AL,A5,Di,BG,Ab,Au,xs_cons,zpl,IC.ve2,BD,fl_ok];simp! [hd,hj,zkd,e,zax]
theorem zkc:mkV zT AB (.str "move")=AA zfF/\mkV zT AB (.str "bare")=AA zfG/\mkV zT AB (.str "sum")=AA zeH/\mkV zT AB (.str "less")=AA za9/\mkV zT AB (.str "both")=AA zdL /\
  mkV zT AB (.str "any")=AA zel/\mkV zT AB (.str "odd")=AA zek/\mkV zT AB (.str "twice")=AA zdx/\mkV zT AB (.str "half")=AA zet:=by
 refine⟨?_,?_,?_,?_,?_,?_,?_,?_,?_⟩<;>decide +kernel
theorem yg6{i j:Nat}{k:Bool}{a b:PV}{ρ:IC.Env}:yO (.t [i,j]) (.tp k [a,b]) ρ=AA ((ρ.set i (AA a)).set j (AA b)):=rfl
theorem yee{call:Cl}{ρ:IC.Env}{st:SO}:ev call ρ st (.neg (.cst (.int 1)))=.ok (.int (-1)) st:=by erw[ev,R.bind]
def okM(r:R PV)(st:SO)(m l:Nat)(w:Int)(M':Mem)(mk':Int)(L':Nat):Prop:=∃st',MM st' m l w M' mk' L'/\(∀n,n≠m->n≠l->st'[n]?=st[n]?)/\st'.length=st.length/\r=.ok .non st'
section
variable {st:SO}{m l L n:Nat}{mk:Int}{M:Mem}
theorem zaT(k:Nat)(h:MM st m l n M mk L)(hL:L<999999){s:AR}{j:Nat}(hj:mkV zT AB (.str s)=AA j){t x z:Cel}{r:List PV}
  (hlast:∀st,idxV st (.tp AC (.str s::yx t::yx x::r)) (.int (-1))=AA (yx z)) {v m':Int} (e:yc T (k+3) j [.int n,.int (rd M x),.int (rd M z),.int mk] []=.ok (.tp AC [.int v,.int m']) []) :
  okM (yc T (k+5) zai [.loc m,.tp AC (.str s::yx t::yx x::r)] st) st m l n (wr M t v) m' (L+1):=by
 have hT:T zai=AA zV:=rfl;have e1:yc T (k+4) zw [.loc m,yx x] st=.ok (.int (rd M x)) st:=zcy (k+3) h x;have e2:yc T (k+4) zw [.loc m,yx z] st=.ok (.int (rd M z)) st:=zcy (k+3) h z;have e3:yc T (k+4) zhA [.str s,.int n,.int (rd M x),.int (rd M z),.int mk] st=_:=made hj (k+3) st e;have ih:=h.ins (AF "held_in");let⟨s1,d1,⟨o,ho⟩,h1⟩:=h.sd hL t v;let⟨d2,h2⟩:=h1.sm m';refine⟨_,h2,λq a b=>?_,by simp[ho],?_⟩
 .rw[AO (BM a),ho,AO (BM b)]
 rw[zp hT rfl rfl];generalize yx t=ct at *;generalize yx x=cx at *;generalize yx z=cz at *;simp! [zV,ih,ix0,ix1,ix2,e1,yee,hlast,e2,yg6,h.fw,h.fm,e3,h.fd,zf9,d1,zam,zfH,d2,Dm,IC.ve32,IC.ve37];rfl
end
section
variable {st:SO}{m l L n:Nat}{mk:Int}{M:Mem}
theorem zch(k:Nat){s:AR}{r:List PV}{M':Mem}{mk':Int}{L':Nat}(h:MM st m l n M mk L)(q1:yF .eq (.str s) (.str "mark")=AA (.bl AC))(q2:yF .eq (.str s) (.str "ask")=AA (.bl AC))(q3:yF .eq (.str s) (.str "set")=AA (.bl AC))(q4:yF .eq (.str s) (.str "times")=AA (.bl AC))
  (g:okM (yc T (k+5) zai [.loc m,.tp AC (.str s::r)] st) st m l n M' mk' L'):okM (yc T (k+6) zl [.loc m,.tp AC (.str s::r)] st) st m l n M' mk' L':=by
 have hT:T zl=AA zd:=rfl;let⟨st',g1,g2,g3,e⟩:=g;refine⟨st',g1,g2,g3,?_⟩;have ih:=h.ins (AF "go_made");rw[zp hT rfl rfl];simp! [zd,ix0,q1,q2,q3,q4,ih,e,IC.ve37];rfl
theorem MM.le{L':Nat}{w:Int}(h:MM st m l w M mk L)(hL:L<=L'):MM st m l w M mk L':=⟨h.o,h.d.le hL,h.ne⟩
theorem zmF(k:Nat)(h:MM st m l n M mk L)(d:Int):okM (yc T (k+6) zl [.loc m,yJ (.mark d)] st) st m l n M d (L+1):=by
 have hT:T zl=AA zd:=rfl;let⟨d2,h2⟩:=h.sm d;refine⟨_,h2.le (by lia),λq a b=>by rw[AO (BM a)],by simp,?_⟩;have q:yF .eq (.str "mark") (.str "mark")=AA (.bl AB):=by ac_rfl
 rw[zp hT rfl rfl];simp! [zd,yJ,ix0,ix1,q,zfH,d2,zam];rfl
theorem zoG(k:Nat)(h:MM st m l n M mk L)(x:Cel):okM (yc T (k+6) zl [.loc m,yJ (.ask x)] st) st m l n M (bi (!(rd M x == 0))) (L+1):=by
 have hT:T zl=AA zd:=rfl;let⟨d2,h2⟩:=h.sm (bi (!(rd M x == 0)));refine⟨_,h2.le (by lia),λq a b=>by rw[AO (BM a)],by simp,?_⟩;have q:yF .eq (.str "ask") (.str "mark")=AA (.bl AC):=by ac_rfl
 have q2:yF .eq (.str "ask") (.str "ask")=AA (.bl AB):=by ac_rfl
 have e1:yc T (k+5) zw [.loc m,yx x] st=.ok (.int (rd M x)) st:=zcy (k+4) h x;have ih:=h.ins (AF "held_in");rw[zp hT rfl rfl];erw[yJ];generalize yx x=cx at *
 cases e:(rd M x == 0)with
 |true =>
  rw[e]at d2;have d2:ybc cM st (.loc m) smk (.int 0)=_:=d2;simp! [zd,ix0,ix1,q,q2,ih,e1,e,zfH,d2,zam,IC.ve37];rfl
 |false =>
  rw[e]at d2;have d2:ybc cM st (.loc m) smk (.int 1)=_:=d2;simp! [zd,ix0,ix1,q,q2,ih,e1,e,zfH,d2,zam,IC.ve37];rfl
theorem zo0(k:Nat)(h:MM st m l n M mk L)(hL:L<999999)(t:Cel)(d:Int):okM (yc T (k+6) zl [.loc m,yJ (.set t d)] st) st m l n (wr M t d) mk (L+1):=by
 have hT:T zl=AA zd:=rfl;let⟨s1,d1,⟨o,ho⟩,h1⟩:=h.sd hL t d;refine⟨_,h1,λq a b=>by rw[ho,AO (BM b)],by simp[ho],?_⟩;have q:yF .eq (.str "set") (.str "mark")=AA (.bl AC):=by ac_rfl
 have q2:yF .eq (.str "set") (.str "ask")=AA (.bl AC):=by ac_rfl
 have q3:yF .eq (.str "set") (.str "set")=AA (.bl AB):=by ac_rfl
 rw[zp hT rfl rfl];erw[yJ];generalize yx t=ct at *;simp! [zd,ix0,ix1,ix2,q,q2,q3,h.fd,zf9,d1,zam,IC.ve32];rfl
theorem ycl{s a b:PV}:∀st,idxV st (.tp AC [s,a,b]) (.int (-1))=AA b:=λst=>rfl
theorem ycj{s a b c:PV}:∀st,idxV st (.tp AC [s,a,b,c]) (.int (-1))=AA c:=λst=>rfl
theorem zmq(a:Int):(if a<0 then(1:Int)else 0)=bi (decide (a<0)):=by
 by_cases h:a<0<;>simp[h,bi]
theorem okM.le{R:R PV}{w:Int}{L':Nat}(h:okM R st m l w M mk L)(hL:L<=L'):okM R st m l w M mk L':=by
 let⟨s,a,b,c,d⟩:=h;exact⟨s,a.le hL,b,c,d⟩
theorem zj0(k:Nat)(h:MM st m l n M mk L)(hL:L+1<999999)(hn:n<=100)(a b x y:Cel)(hx:(rd M x).natAbs<18446744073709551616):okM (yc T (k+6) zl [.loc m,yJ (.times a b x y)] st) st m l n (wr (wr M a (rd M x*rd M y%2^n)) b (rd M x*rd M y / 2^n)) mk (L+2):=by
 have hT:T zl=AA zd:=rfl;have hT2:T zaG=AA zM:=rfl;let⟨s1,d1,⟨o1,ho1⟩,h1⟩:=h.sd (by lia) a (rd M x*rd M y%2^n);let⟨s2,d2,⟨o2,ho2⟩,h2⟩:=h1.sd (by lia) b (rd M x*rd M y / 2^n);refine⟨s2,h2,λq _ c=>by rw[ho2,AO (BM c),ho1,AO (BM c)],by simp[ho1,ho2],?_⟩;have q1:yF .eq (.str "times") (.str "mark")=AA (.bl AC):=by ac_rfl
 have q2:yF .eq (.str "times") (.str "ask")=AA (.bl AC):=by ac_rfl
 have q3:yF .eq (.str "times") (.str "set")=AA (.bl AC):=by ac_rfl
 have q4:yF .eq (.str "times") (.str "times")=AA (.bl AB):=by ac_rfl
 have ix:∀(st:SO) (a b c d e:PV),idxV st (.tp AC [a,b,c,d,e]) (.int 1)=AA b/\idxV st (.tp AC [a,b,c,d,e]) (.int 2)=AA c/\idxV st (.tp AC [a,b,c,d,e]) (.int 3)=AA d/\idxV st (.tp AC [a,b,c,d,e]) (.int 4)=AA e:=λ_ _ _ _ _ _=>⟨rfl,rfl,rfl,rfl⟩;have ih:=h.ins (AF "go_times");have ih2:=h.ins (AF "held_in");have e1:=zcy (k+3) h x;have e2:=zcy (k+3) h y;have e3:=λs=>highest (k+3) n hn s;have bm:=za1 (i:=rd M x) (j:=rd M y) hx;have f1:=h.fw;have f2:=h.fd;have f3:=h1.fw;have f4:=h1.fd;have g:yc T (k+5) zaG [.loc m,yJ (.times a b x y)] st=.ok .non s2:=by
  rw[zp hT2 rfl rfl];erw[yJ];generalize rd M x*rd M y=p at *;generalize yx a=ca at *;generalize yx b=cb at *;generalize yx x=cx at *;generalize yx y=cy at *;simp! [zM,ih2,e1,e2,e3,ix,bm,f1,f2,f3,f4,band,zfb,zmG,zf9,d1,d2,zam,IC.ve32,IC.ve37];rfl
 rw[zp hT rfl rfl];erw[yJ]at g ⊢;simp! [zd,ix0,q1,q2,q3,q4,ih,g,IC.ve37];rfl
theorem zoF(k:Nat)(h:MM st m l n M mk L)(hL:L+1<999999)(hn:n<=100)(hn1:1<=n)(r:Rw)(hh:∀t x,r=.half t x->0<=rd M x/\rd M x<2^n/\0<=mk/\mk<2)(ht:∀a b x y,r=.times a b x y->(rd M x).natAbs<18446744073709551616) :
  okM (yc T (k+6) zl [.loc m,yJ r] st) st m l n (stepM (2^n) M mk r).1 (stepM (2^n) M mk r).2 (L+2):=by
 have hL':L<999999:=by lia
 have up:=λ{R:R PV} {M':Mem} {mk':Int} (h:okM R st m l n M' mk' (L+1))=>h.le (show L+1<=L+2 by lia);let⟨j1,j2,j3,j4,j5,j6,j7,j8,j9⟩:=zkc
 cases r with
 |mark d=>exact up (zmF k h d)
 |ask x=>exact up (zoG k h x)
 |set t d=>exact up (zo0 k h hL' t d)
 |move t x=>exact up (zch k h (by ac_rfl) (by ac_rfl) (by ac_rfl) (by ac_rfl) (zaT k h hL' j1 ycl (zln hn (k+2) [])))
 |bare t x=>exact up (zch k h (by ac_rfl) (by ac_rfl) (by ac_rfl) (by ac_rfl) (zaT k h hL' j2 ycl (zmL hn (k+1) [])))
 |twice t x =>
  have e:=zhT (x:=rd M x) (y:=rd M x) (m:=mk) hn k [];rw[show rd M x+rd M x+mk=2*rd M x+mk by lia]at e;exact up (zch k h (by ac_rfl) (by ac_rfl) (by ac_rfl) (by ac_rfl) (zaT k h hL' j8 ycl e))
 |half t x =>
  let⟨a,b,c,d⟩:=hh t x rfl;exact up (zch k h (by ac_rfl) (by ac_rfl) (by ac_rfl) (by ac_rfl) (zaT k h hL' j9 ycl (zjQ hn hn1 (k+2) [] a b c d)))
 |sum t x y=>exact up (zch k h (by ac_rfl) (by ac_rfl) (by ac_rfl) (by ac_rfl) (zaT k h hL' j3 ycj (zgI hn (k+1) [])))
 |less t x y =>
  have e:=zlt (x:=rd M x) (y:=rd M y) (m:=mk) hn (k+1) [];rw[zmq]at e;exact up (zch k h (by ac_rfl) (by ac_rfl) (by ac_rfl) (by ac_rfl) (zaT k h hL' j4 ycj e))
 |both t x y=>exact up (zch k h (by ac_rfl) (by ac_rfl) (by ac_rfl) (by ac_rfl) (zaT k h hL' j5 ycj (zm7 hn (k+2) [])))
 |any t x y=>exact up (zch k h (by ac_rfl) (by ac_rfl) (by ac_rfl) (by ac_rfl) (zaT k h hL' j6 ycj (zpi hn (k+2) [])))
 |odd t x y=>exact up (zch k h (by ac_rfl) (by ac_rfl) (by ac_rfl) (by ac_rfl) (zaT k h hL' j7 ycj (zpw hn (k+2) [])))
 |times a b x y=>exact zj0 k h hL hn a b x y (ht a b x y rfl)
end
noncomputable abbrev cZ:Cel:=(122,0)
noncomputable abbrev cS:Cel:=(115,0)
noncomputable abbrev cT:Cel:=(116,0)
noncomputable def yw(f:Int->Rw):Nat->List Rw
 |0=>[]
 |n+1=>yw f n++[f n]
def yq(n:Nat):List Rw:=[.set cS 0]++yw (λi=>Rw.any cS cS (99,i)) n++[.ask cS,.set (109,2) 1,.less (109,2) (109,2) cZ,.twice cT (99,(n:Int) - 1),.sum (109,3) cZ cZ]
def yU(a b c:Cel):List Rw:=[.odd cT a b,.odd cS a c,.both cT cT cS,.twice cT cT,.sum (109,1) cZ cZ]
def yR(n:Nat):List Rw:=[.mark 0]++yw (λi=>.less (99,i) cZ (97,i)) n++[.sum (109,0) cZ cZ]++yU cZ (97,(n:Int) - 1) (99,(n:Int) - 1)++yq n
noncomputable def ye(W:Int):Nat->Int->List Int
 |0,_=>[]
 |n+1,x=>x%W::ye W n (x / W)
theorem zq(W:Int):∀n x,(ye W n x).length=n
 |0,_=>rfl
 |n+1,x=>by rw[ye,AZ,zq]
def yaF(c:Nat):Nat->List Int->Mem->Mem
 |_,[],M=>M
 |i,v::vs,M=>yaF c (i+1) vs (upd M c i v)
noncomputable def M0:Mem:=λ_ _=>0
def yZ(W:Int)(n:Nat)(x y:Int):Mem:=yaF 98 0 (ye W n y) (yaF 97 0 (ye W n x) M0)
noncomputable def yt(W:Int)(M:Mem)(c:Nat):Nat->Int
 |0=>0
 |n+1=>yt W M c n+M c n*W^n
structure Cx where
 l:Nat
 c:Int
 i:Int
 j:Int
 m:Int
deriving DecidableEq
inductive Op where
 | fig (d:Int)|cel (x:Cx)
deriving DecidableEq
structure Rs where
 nm:AR
 ops:List Op
deriving DecidableEq
inductive T2 where
 | row (r:Rs)|rounds (c m t:Int) (rs:List Rs)
deriving DecidableEq
inductive T1 where
 | row (r:Rs)|rounds (c m t:Int) (ps:List T2)
deriving DecidableEq
noncomputable def Cx.at(x:Cx)(I J n:Int):Int:=x.c+x.i*I+x.j*J+x.m*n
def Op.pv(I J n:Int):Op->PV
 | .fig d=>.int d
 | .cel x=>yS x.l (x.at I J n)
def Rs.pv(r:Rs)(I J n:Int):PV:=.tup (.str r.nm::r.ops.map (Op.pv I J n))
noncomputable def cnt(c m t w n:Int):Nat:=(c+m*n+t*w*n).toNat
noncomputable def upTo{α:Type}(f:Nat->List α):Nat->List α
 |0=>[]
 |n+1=>upTo f n++f n
def T2.rows(w n:Int)(I:Nat):T2->List PV
 | .row r=>[r.pv I 0 n]
 | .rounds c m t rs=>upTo (λJ=>rs.map λr=>r.pv I J n) (cnt c m t w n)
def T2.rnd(w n:Int):T2->Nat
 | .row _=>0
 | .rounds c m t _=>cnt c m t w n
def yX(w n:Int)(I:Nat)(ps:List T2):List PV:=ps.flatMap (T2.rows w n I)
def ya5(w n:Int)(ps:List T2):Nat:=(ps.map (T2.rnd w n)).sum
def T1.rows(w n:Int):T1->List PV
 | .row r=>[r.pv 0 0 n]
 | .rounds c m t ps=>upTo (λI=>yX w n I ps) (cnt c m t w n)
def T1.rnd(w n:Int):T1->Nat
 | .row _=>0
 | .rounds c m t ps=>cnt c m t w n*(1+ya5 w n ps)
def yp(w n:Int)(ps:List T1):List PV:=ps.flatMap (T1.rows w n)
def yan(w n:Int)(ps:List T1):Nat:=(ps.map (T1.rnd w n)).sum
noncomputable def sm(i:Int):Bool:=decide (i.natAbs<=200)
def ydY:PV->Option Op
 | .int d=>AA (.fig d)
 | .tp _ [.str s,.tp _ [.int c,.int i,.int j,.int m]]=>if s=chS (s.cps.getD 0 0)/\(sm c && sm i && sm j && sm m)=AB then AA (.cel ⟨s.cps.getD 0 0,c,i,j,m⟩)else AD
 |_=>AD
def ybH:List PV->Option (List Op)
 | []=>AA []
 |v::vs=>match ydY v,ybH vs with
  |some a,AA b=>AA (a::b)
  |_,_=>AD
def rowOf:PV->Option Rs
 | .tp _ (.str nm::vs)=>match ybH vs with
  |some ops=>if vs.length<100 then AA ⟨nm,ops⟩else AD
  |none=>AD
 |_=>AD
noncomputable def ydI(s:AR):Bool:=decide (s=AF "row")
def yck:PV->Option Rs
 | .tp _ [.str s,v]=>if ydI s then rowOf v else AD
 |_=>AD
def deepOf:List PV->Option (List Rs)
 | []=>AA []
 |v::vs=>match yck v,deepOf vs with
  |some a,AA b=>AA (a::b)
  |_,_=>AD
noncomputable def ycv(s:AR):Bool:=decide (s=AF "rounds")
def part2(v:PV):Option T2 :=
 match v with
 | .tp _ [.str s,.tp _ [.int c,.int m,.int t],_,.tp _ vs]=>if ycv s && (sm c && sm m && sm t)then(deepOf vs).map (.rounds c m t)else AD
 |v=>(yck v).map .row
def ya0:List PV->Option (List T2)
 | []=>AA []
 |v::vs=>match part2 v,ya0 vs with
  |some a,AA b=>AA (a::b)
  |_,_=>AD
def part1(v:PV):Option T1 :=
 match v with
 | .tp _ [.str s,.tp _ [.int c,.int m,.int t],_,.tp _ vs]=>if ycv s && (sm c && sm m && sm t)then(ya0 vs).map (.rounds c m t)else AD
 |v=>(yck v).map .row
def yaL:List PV->Option (List T1)
 | []=>AA []
 |v::vs=>match part1 v,yaL vs with
  |some a,AA b=>AA (a::b)
  |_,_=>AD
theorem zlj{v:PV}{o:Op}(h:ydY v=AA o):(∃d,o=.fig d/\v=.int d) \/ ∃a b x,o=.cel x/\v=.tp a [.str (chS x.l),.tp b [.int x.c,.int x.i,.int x.j,.int x.m]]/\x.i.natAbs<=200/\x.j.natAbs<=200/\x.m.natAbs<=200:=by
 unfold ydY at h;split at h
 .left;cases h;exact⟨_,rfl,rfl⟩
 .right;rename_i a s b c i j m;split at h
  .rename_i q
   cases h
   have q2:=q.2;erw[sm,AK,decide_eq_true_eq]at q2;refine⟨a,b,_,rfl,?_,q2.1.1.2,q2.1.2,q2.2⟩;simp only;rw[<- q.1]
  .cases h
 .cases h
theorem zj3{v:PV}{r:Rs}(h:rowOf v=AA r):∃a vs,v=.tp a (.str r.nm::vs)/\ybH vs=AA r.ops/\vs.length<100:=by
 unfold rowOf at h;split at h
 .rename_i a nm vs;split at h
  .rename_i ops q;split at h
   .rename_i z
    cases h;exact⟨a,vs,rfl,q,z⟩
   .cases h
  .cases h
 .cases h
theorem zmp{v:PV}{r:Rs}(h:yck v=AA r):∃a v1,v=.tp a [.str "row",v1]/\rowOf v1=AA r:=by
 unfold yck at h;split at h
 .rename_i a s v1;split at h
  .rename_i q;have q:s=AF "row":=by simpa [ydI] using q
   exact⟨a,v1,by rw[q],h⟩
  .cases h
 .cases h
theorem zjH{v:PV}{p:T2}(h:part2 v=AA p):(∃r,p=.row r/\yck v=AA r) \/ ∃a b sn d vs c m t rs,p=.rounds c m t rs/\v=.tp a [.str "rounds",.tp b [.int c,.int m,.int t],sn,.tp d vs]/\deepOf vs=AA rs/\c.natAbs<=200/\m.natAbs<=200/\t.natAbs<=200:=by
 unfold part2 at h;split at h
 .right;rename_i a s b c m t sn d vs;split at h
  .rename_i q;erw[ycv,sm,AK,decide_eq_true_eq]at q
   cases e:deepOf vs with
   |none=>rw[e]at h;cases h
   |some rs =>
    rw[e]at h
    cases h
    exact⟨a,b,sn,d,vs,c,m,t,rs,rfl,by rw[q.1],e,q.2.1.1,q.2.1.2,q.2.2⟩
  .cases h
 .left
  cases e:yck v with
  |none=>rw[e]at h;cases h
  |some r=>rw[e]at h;cases h;exact⟨r,rfl,rfl⟩
theorem zkb{v:PV}{p:T1}(h:part1 v=AA p):(∃r,p=.row r/\yck v=AA r) \/ ∃a b sn d vs c m t ps,p=.rounds c m t ps/\v=.tp a [.str "rounds",.tp b [.int c,.int m,.int t],sn,.tp d vs]/\ya0 vs=AA ps/\c.natAbs<=200/\m.natAbs<=200/\t.natAbs<=200:=by
 unfold part1 at h;split at h
 .right;rename_i a s b c m t sn d vs;split at h
  .rename_i q;erw[ycv,sm,AK,decide_eq_true_eq]at q
   cases e:ya0 vs with
   |none=>rw[e]at h;cases h
   |some rs =>
    rw[e]at h
    cases h
    exact⟨a,b,sn,d,vs,c,m,t,rs,rfl,by rw[q.1],e,q.2.1.1,q.2.1.2,q.2.2⟩
  .cases h
 .left
  cases e:yck v with
  |none=>rw[e]at h;cases h
  |some r=>rw[e]at h;cases h;exact⟨r,rfl,rfl⟩
noncomputable abbrev cU:Nat:=20
noncomputable abbrev sn:Str:=AF "n"
noncomputable abbrev sst:Str:=AF "steps"
noncomputable abbrev srw:Str:=AF "rows"
noncomputable abbrev srd:Str:=AF "rounds"
abbrev ufs(w n:Int)(l:Nat)(r q:Int):List (AR×PV):=[(sw,.int w),(sn,.int n),(sst,.loc l),(srw,.int r),(srd,.int q)]
def uob(w n:Int)(l:Nat)(r q:Int):Ob:=.ins cU (ufs w n l r q)
structure UM(st:SO)(u l:Nat)(w n r q:Int)(xs:List PV):Prop where
 o:st[u]?=AA (uob w n l r q)
 d:st[l]?=AA (.lst xs)
 ne:u≠l
section
variable {st:SO}{u l:Nat}{w n r q:Int}{xs:List PV}
theorem UM.fw(h:UM st u l w n r q xs):yba cU st (.loc u) sw=AA (.int w):=by erw[yba,h.o,uob,if_true];ac_rfl
theorem UM.fn(h:UM st u l w n r q xs):yba cU st (.loc u) sn=AA (.int n):=by erw[yba,h.o,uob,if_true];ac_rfl
theorem UM.fs(h:UM st u l w n r q xs):yba cU st (.loc u) sst=AA (.loc l):=by erw[yba,h.o,uob,if_true];ac_rfl
theorem UM.fr(h:UM st u l w n r q xs):yba cU st (.loc u) srw=AA (.int r):=by erw[yba,h.o,uob,if_true];ac_rfl
theorem UM.fq(h:UM st u l w n r q xs):yba cU st (.loc u) srd=AA (.int q):=by erw[yba,h.o,uob,if_true];ac_rfl
theorem UM.sr(h:UM st u l w n r q xs)(v:Int):ybc cU st (.loc u) srw (.int v)=AA (st.set u (uob w n l v q))/\UM (st.set u (uob w n l v q)) u l w n v q xs:=by
 refine⟨?_,rdS h.o,by rw[AO h.ne];exact h.d,h.ne⟩;erw[ybc,h.o,uob];rw[if_pos ⟨trivial,by simp⟩,show ybY srw (.int v) (ufs w n l r q)=ufs w n l v q by ac_rfl]
theorem UM.sq(h:UM st u l w n r q xs)(v:Int):ybc cU st (.loc u) srd (.int v)=AA (st.set u (uob w n l r v))/\UM (st.set u (uob w n l r v)) u l w n r v xs:=by
 refine⟨?_,rdS h.o,by rw[AO h.ne];exact h.d,h.ne⟩;erw[ybc,h.o,uob];rw[if_pos ⟨trivial,by simp⟩,show ybY srd (.int v) (ufs w n l r q)=ufs w n l r v by ac_rfl]
theorem UM.ap(h:UM st u l w n r q xs)(hx:xs.length<1000000)(v:PV):ycL .append st (.loc l) [v]=.ok .non (st.set l (.lst (xs++[v])))/\UM (st.set l (.lst (xs++[v]))) u l w n r q (xs++[v]):=by
 refine⟨?_,by rw[AO (BM h.ne)];exact h.o,rdS h.d,h.ne⟩;unfold ycL;erw[yeJ,h.d];rw[if_pos hx]
theorem UM.ok(h:UM st u l w n r q xs):ya3 .append st (.loc l)=AA true:=by simp[ya3,yah,h.d]
theorem UM.ins(h:UM st u l w n r q xs)(x:AR)(hx:((ufs 0 0 0 0 0).lookup x).isNone=true:=by decide +kernel):ycb cU x st (.loc u)=AA true:=by
 have e:(ufs w n l r q).lookup x=none:=by
  erw[ufs,CG]at hx ⊢
  cases h1:x == sw<;>rw[h1]at hx<;>simp only at hx ⊢<;>try cases hx
  cases h2:x == sn<;>rw[h2]at hx<;>simp only at hx ⊢<;>try cases hx
  cases h3:x == sst<;>rw[h3]at hx<;>simp only at hx ⊢<;>try cases hx
  cases h4:x == srw<;>rw[h4]at hx<;>simp only at hx ⊢<;>try cases hx
  cases h5:x == srd<;>rw[h5]at hx<;>simp only at hx ⊢<;>try cases hx
 erw[ycb,h.o,uob];rw[if_pos ⟨trivial,e⟩]
theorem zh0(k:Nat)(h:UM st u l w n r q xs)(hq:q+1<=4000):∃s,yc T (k+1) zQ [.loc u] st=.ok .non s/\UM s u l w n r (q+1) xs:=by
 have hT:T zQ=AA zx:=rfl;let⟨d,h2⟩:=h.sq (q+1);have c:decide (q+1 > 4000)=false:=decide_eq_false (by lia);have vM:zbT=.int 4000:=rfl;refine⟨_,?_,h2⟩;rw[zp hT rfl rfl];have f1:=h.fq;have f2:=h2.fq;simp! [zx,f1,zfH,d,zam,f2,vM,c,IC.ve32,zbD];rfl
theorem ze7(k:Nat):∀(G:List Int),G.length<=2->∀s:SO,yc T (k+1) zaX [.tp AC (G.map .int)] s=.ok (.tp AC [.int (G.headD 0),.int (G.tail.headD 0)]) s
 | [],_,s=>by
  have hT:T zaX=AA zaB:=rfl;rw[zc hT rfl rfl rfl];rfl
 | [a],_,s=>by
  have hT:T zaX=AA zaB:=rfl;rw[zc hT rfl rfl rfl];rfl
 | [a,b],_,s=>by
  have hT:T zaX=AA zaB:=rfl;rw[zc hT rfl rfl rfl];rfl
theorem ziH(k:Nat)(h:UM st u l w n r q xs)(hx:xs.length<1000000)(sen:PV)(G:List Int)(hG:G.length<=2):∃s,yc T (k+2) zO [.loc u,sen,.tp AC (G.map .int)] st=.ok .non s/\UM s u l w n r q (xs++[.tp AC [.str "asked",sen,.int (G.headD 0),.int (G.tail.headD 0)]]):=by
 have hT:T zO=AA zy:=rfl;have e1:=ze7 k G hG st;let⟨a,h2⟩:=h.ap hx (.tp AC [.str "asked",sen,.int (G.headD 0),.int (G.tail.headD 0)]);have bt:∀(i j:Nat) (a b:PV) (ρ:IC.Env),yO (.t [i,j]) (.tp AC [a,b]) ρ=AA ((ρ.set i (AA a)).set j (AA b)):=λ_ _ _ _ _=>rfl;refine⟨_,?_,h2⟩;rw[zp hT rfl rfl];have f1:=h.fs;have o:=h.ok;generalize PV.tp AC (G.map .int)=gv at *;simp! [zy,e1,bt,f1,o,a,IC.ve32,zbD];rfl
theorem zjs(k:Nat)(h:UM st u l w n r q xs)(bb:Bool)(c m t:Int)(b1:yE .mul (.int m) (.int n)=AA (.int (m*n)))(b2:yE .mul (.int t) (.int w)=AA (.int (t*w)))(b3:yE .mul (.int (t*w)) (.int n)=AA (.int (t*w*n))) :
  yc T (k+1) zW [.loc u,.tp bb [.int c,.int m,.int t]] st=.ok (.int (c+m*n+t*w*n)) st:=by
 have hT:T zW=AA zD:=rfl;have bt:∀(i j k:Nat) (a b c:PV) (ρ:IC.Env),yO (.t [i,j,k]) (.tp bb [a,b,c]) ρ=AA (((ρ.set i (AA a)).set j (AA b)).set k (AA c)):=λ_ _ _ _ _ _ _=>rfl;rw[zp hT rfl rfl];have f1:=h.fw;have f2:=h.fn;simp! [zD,bt,f1,f2,b1,b2,b3,IC.ve32,zbD]
theorem zjz(k:Nat){b:Bool}{c i j m I J n:Int}(hi:i.natAbs<=200)(hj:j.natAbs<=200)(hm:m.natAbs<=200)(s:SO):yc T (k+1) zdU [.tp b [.int c,.int i,.int j,.int m],.int n,.int I,.int J] s=.ok (.int (c+i*I+j*J+m*n)) s:=by
 have hT:T zdU=AA zbw:=rfl;have h1:i.natAbs<18446744073709551616:=by lia
 have h2:j.natAbs<18446744073709551616:=by lia
 have h3:m.natAbs<18446744073709551616:=by lia
 have j2:∀st,idxV st (.tp b [.int c,.int i,.int j,.int m]) (.int 2)=AA (.int j):=λ_=>rfl;have j3:∀st,idxV st (.tp b [.int c,.int i,.int j,.int m]) (.int 3)=AA (.int m):=λ_=>rfl;rw[zc hT rfl rfl rfl];simp! [zbw,ix0,ix1,j2,j3,za1 h1,za1 h2,za1 h3];rfl
theorem placed(k:Nat){v:PV}{o:Op}(h:ydY v=AA o)(I J n:Int)(s:SO):yc T (k+2) zbr [v,.int n,.int I,.int J] s=.ok (o.pv I J n) s:=by
 have hT:T zbr=AA zaV:=rfl;rcases zlj h with⟨d,rfl,rfl⟩|⟨f1,f2,x,rfl,rfl,q1,q2,q3⟩
 .rw[zc hT rfl rfl rfl];have hi:ya1 (.int d) [.tuple]=AA (.bl AC):=rfl;simp! [zaV,hi];rfl
 .have hi:ya1 (.tp f1 [.str (chS x.l),.tp f2 [.int x.c,.int x.i,.int x.j,.int x.m]]) [.tuple]=AA (.bl AB):=rfl;have e:=λs=>zjz k (b:=f2) (c:=x.c) (I:=I) (J:=J) (n:=n) q1 q2 q3 s;rw[zc hT rfl rfl rfl];simp! [zaV,hi,ix0,ix1,e];rfl
theorem zgY(k:Nat)(x:AR)(I J n:Int)(s:SO):yc T (k+2) zbr [.str x,.int n,.int I,.int J] s=.ok (.str x) s:=by
 have hT:T zbr=AA zaV:=rfl;rw[zc hT rfl rfl rfl];have hi:ya1 (.str x) [.tuple]=AA (.bl AC):=rfl;simp! [zaV,hi];rfl
def arC:Ce:=.call zbr (.cons (.var 0) (.cons (.fld cU (.var 3) sn) (.cons (.var 1) (.cons (.var 2) .nil))))
theorem zgE(k:Nat)(h:UM st u l w n r q xs)(I J:Int):∀(vs:List PV) (ops:List Op),ybH vs=AA ops->yal (yc T (k+2)) [AD,AA (.int I),AA (.int J),AA (.loc u)] (.n 0) (.cst (.bl AB)) arC vs st=.ok (ops.map (Op.pv I J n)) st
 | [],ops,e=>by cases e;exact zaL
 |v::vs,ops,e=>by
  unfold ybH at e;split at e
  .rename_i a b ha hb
   cases e
   have hp:=placed k ha I J n st;have f1:=h.fn;have ih:=zgE k h I J vs b hb;have one:yaP (yc T (k+2)) [AD,AA (.int I),AA (.int J),AA (.loc u)] (.n 0) (.cst (.bl AB)) arC v st=.ok (AA (a.pv I J n)) st:=by
    simp! [yaP,arC,f1,hp,IC.ve32]
   rw[zL,one,bd_ok,ih,bd_ok];rfl
  .cases e
theorem zhC:∀{vs:List PV} {ops:List Op},ybH vs=AA ops->ops.length=vs.length
 | [],ops,e=>by cases e;rfl
 |v::vs,ops,e=>by
  unfold ybH at e;split at e
  .rename_i a b ha hb
   cases e
   rw[AZ,AZ,zhC hb]
  .cases e
theorem zlS(k:Nat)(h:UM st u l w n r q xs)(hx:xs.length<1000000)(hr:r+1<=4000){v:PV}{rs:Rs}(hv:rowOf v=AA rs)(G:List Int)(hG:G.length<=2)
  (hrow:∀s,yc T (k+2) zbj [rs.pv (G.headD 0) (G.tail.headD 0) n] s=.ok (.bl AB) s) :
  ∃s,yc T (k+3) zaA [.loc u,v,.tp AC (G.map .int)] st=.ok .non s/\UM s u l w n (r+1) q (xs++[.tp AC [.str "row",rs.pv (G.headD 0) (G.tail.headD 0) n]]):=by
 have hT:T zaA=AA zJ:=rfl;let⟨a,vs,rfl,ho,hl⟩:=zj3 hv;have e1:=ze7 (k+1) G hG st;generalize G.headD 0=I at *;generalize G.tail.headD 0=J at *;have hl2:=zhC ho;have e2:yal (yc T (k+2)) [AD,AA (.int I),AA (.int J),AA (.loc u)] (.n 0) (.cst (.bl AB)) arC (.str rs.nm::vs) st=.ok (.str rs.nm::rs.ops.map (Op.pv I J n)) st:=by
  have hp:=zgY k rs.nm I J n st;have f1:=h.fn;have one:yaP (yc T (k+2)) [AD,AA (.int I),AA (.int J),AA (.loc u)] (.n 0) (.cst (.bl AB)) arC (.str rs.nm) st=.ok (AA (.str rs.nm)) st:=by
   simp! [yaP,arC,f1,hp,IC.ve32]
  rw[zL,one,bd_ok,zgE k h I J vs rs.ops ho,bd_ok];rfl
 have e2:yal (yc T (k+2)) [AD,AA (.int I),AA (.int J),AA (.loc u)] (.n 0) (.cst (.bl AB)) (.call zbr (.cons (.var 0) (.cons (.fld cU (.var 3) sn) (.cons (.var 1) (.cons (.var 2) .nil))))) (.str rs.nm::vs) st=_:=e2;let⟨d,h2⟩:=h.sr (r+1);have ht:∀st,yaD .tuple st [.lst (.str rs.nm::rs.ops.map (Op.pv I J n))]=AA (rs.pv I J n):=λ_=>rfl;let⟨b,h3⟩:=h2.ap hx (.tp AC [.str "row",rs.pv I J n]);have bt:∀(i j:Nat) (a b:PV) (ρ:IC.Env),yO (.t [i,j]) (.tp AC [a,b]) ρ=AA ((ρ.set i (AA a)).set j (AA b)):=λ_ _ _ _ _=>rfl;have c:decide (r+1 > 4000)=false:=decide_eq_false (by lia);have vM:zdz=.int 4000:=rfl;have f1:=h.fr;have f2:=h2.fr;have f3:=h2.fs;have o:=h2.ok;have lr:=λst=>zcA (.str rs.nm::rs.ops.map (Op.pv I J n)) (by simp[hl2];lia) st;refine⟨_,?_,h3⟩;rw[zp hT rfl rfl];generalize PV.tp AC (G.map .int)=gv at *;generalize PV.str rs.nm::rs.ops.map (Op.pv I J n)=row at *;generalize rs.pv I J n=rowv at *;simp! [zJ,e1,bt,e2,lr,ht,f1,zfH,d,zam,hrow,f2,vM,c,f3,o,b,IC.ve32,zbD];rfl
end
inductive StR:List PV->List PV->Prop
 | nil:StR [] []
 | row {xs rs v}:nL v=AB->StR xs rs->StR (xs++[.tp AC [.str "row",v]]) (rs++[v])
 | ask {xs rs a b c}:nLs [a,b,c]=AB->StR xs rs->StR (xs++[.tp AC [.str "asked",a,b,c]]) rs
def US(st:SO)(u l:Nat)(w n:Int)(R:List PV)(q:Int)(a:Nat):Prop:=∃xs,UM st u l w n R.length q xs/\StR xs R/\xs.length<=R.length+a
section
variable {st:SO}{u l:Nat}{w n q:Int}{R:List PV}{a:Nat}
noncomputable def gpB:Css:=match yh.body with
 | .cons (.for _ _ b) _=>b
 |x=>x
theorem zd9:yF .eq (.str "row") (.str "row")=AA (.bl AB):=by ac_rfl
theorem zg2:yF .eq (.str "rounds") (.str "row")=AA (.bl AC):=by ac_rfl
theorem zjE(I J n:Int)(o:Op):nL (o.pv I J n)=true:=by cases o<;>rfl
theorem zfz(I J n:Int):∀ops:List Op,nLs (ops.map (Op.pv I J n))=AB
 | []=>rfl
 |o::os=>by rw[AL,nLs,zjE,zfz I J n os];rfl
theorem zcf(r:Rs)(I J n:Int):nL (r.pv I J n)=true:=by
 show nLs (PV.str r.nm::r.ops.map (Op.pv I J n))=AB;rw[nLs,zfz];rfl
theorem ziK(k:Nat)(H:US st u l w n R q a)(hR:R.length+1<=4000)(ha:a<=500000){v:PV}{r:Rs}(hv:yck v=AA r)(G:List Int)(hG:G.length<=2)
  (hrow:∀s,yc T (k+2) zbj [r.pv (G.headD 0) (G.tail.headD 0) n] s=.ok (.bl AB) s) (p1:Option PV) :
  ∃s,exs (yc T (k+3)) [AA (.loc u),p1,AA (.tp AC (G.map .int)),AA v] st gpB=.nx [AA (.loc u),p1,AA (.tp AC (G.map .int)),AA v] s/\US s u l w n (R++[r.pv (G.headD 0) (G.tail.headD 0) n]) q a:=by
 let⟨xs,h,hs,hx⟩:=H;let⟨b,v1,rfl,h1⟩:=zmp hv;let⟨s,e,h2⟩:=zlS k h (by lia) (by lia) h1 G hG hrow;have ih:=h.ins (AF "add_row");refine⟨s,?_,_,?_,.row (zcf _ _ _ _) hs,by simp;lia⟩
 .generalize PV.tp AC (G.map .int)=gv at *;simp! [gpB,yh,ix0,ix1,zd9,ih,e,IC.ve37]
 .rw[Ac,D2];exact h2
theorem zhx(k:Nat)(I J:Int)(p1:Option PV)(ha:a<=500000):∀(vs:List PV) (rs:List Rs) (st:SO) (R:List PV) (p3:Option PV),deepOf vs=AA rs->US st u l w n R q a->R.length+rs.length<=4000 ->
  (∀r∈rs,∀s,yc T (k+2) zbj [r.pv I J n] s=.ok (.bl AB) s) ->
  ∃s p3',ybj (yc T (k+3)) (.n 3) gpB vs [AA (.loc u),p1,AA (.tp AC [.int I,.int J]),p3] st=.nx [AA (.loc u),p1,AA (.tp AC [.int I,.int J]),p3'] s/\US s u l w n (R++rs.map λr=>r.pv I J n) q a
 | [],rs,st,R,p3,hd,H,_,_=>by
  cases hd
  exact⟨st,p3,zU,by simpa using H⟩
 |v::vs,rs,st,R,p3,hd,H,hl,hrow=>by
  unfold deepOf at hd;split at hd
  .rename_i x y hx hy
   cases hd
   erw[AZ]at hl;let⟨s1,e1,H1⟩:=ziK k H (by lia) ha hx [I,J] (by simp) (hrow x (by simp)) p1;have e1:exs (yc T (k+3)) [AA (.loc u),p1,AA (.tp AC [.int I,.int J]),AA v] st gpB=.nx [AA (.loc u),p1,AA (.tp AC [.int I,.int J]),AA v] s1:=e1;let⟨s2,p3',e2,H2⟩:=zhx k I J p1 ha vs y s1 _ (AA v) hy H1 (by simp;lia) (λr hr=>hrow r (by simp[hr]));refine⟨s2,p3',?_,by simpa using H2⟩;rw[zK (ρ1:=[AA (.loc u),p1,AA (.tp AC [.int I,.int J]),AA v]) rfl,e1];exact e2
  .cases hd
theorem zhu{α:Type}(f:Nat->List α){i:Nat}:∀n,i<=n->(upTo f i).length<=(upTo f n).length
 |0,h=>by
  rw[show i=0 by lia];exact AS _
 |n+1,h=>by
  rcases CF i (n+1)with h1|h1
  .have:=zhu f (i:=i) n (by lia);rw[upTo,Ac];lia
  .have:i=n+1:=by lia
   rw[this];exact AS _
theorem US.ask(H:US st u l w n R q a)(k:Nat)(ha:a+1<=500000)(hR:R.length<=4000)(sen:PV)(hsn:nL sen=AB)(G:List Int)(hG:G.length<=2):∃s,yc T (k+2) zO [.loc u,sen,.tp AC (G.map .int)] st=.ok .non s/\US s u l w n R q (a+1):=by
 let⟨xs,h,hs,hx⟩:=H;let⟨s,e,h2⟩:=ziH k h (by lia) sen G hG;exact⟨s,e,_,h2,.ask (by simp[nLs,nL,hsn]) hs,by simp;lia⟩
theorem US.rnd(H:US st u l w n R q a)(k:Nat)(hq:q+1<=4000):∃s,yc T (k+1) zQ [.loc u] st=.ok .non s/\US s u l w n R (q+1) a:=by
 let⟨xs,h,hs,hx⟩:=H;let⟨s,e,h2⟩:=zh0 k h hq;exact⟨s,e,_,h2,hs,hx⟩
theorem US.ins(H:US st u l w n R q a)(x:AR)(hx:((ufs 0 0 0 0 0).lookup x).isNone=true:=by decide +kernel):ycb cU x st (.loc u)=AA true:=by
 let⟨xs,h,_⟩:=H;exact h.ins x hx
noncomputable def grB:Css:=match yj.body with
 | .cons _ (.cons (.for _ _ b) _)=>b
 |x=>x
theorem ye4:∀(G:List Int),G.length<=1->∀J:Int,yE .add (.tp AC (G.map .int)) (.tp AC [.int J])=AA (.tp AC ((G++[J]).map .int))
 | [],_,J=>rfl
 | [a],_,J=>rfl
def BodyOk(k u l:Nat)(w n:Int)(d:Bool)(vs:List PV)(G:List Int)(f:Nat->List PV)(qn an J:Nat):Prop :=
 ∀(st:SO) (R:List PV) (q:Int) (a:Nat),US st u l w n R q a->R.length+(f J).length<=4000->q+qn<=4000->a+an<=500000 ->
  ∃s,yc T k zY [.loc u,.tp d vs,.tp AC ((G++[(J:Int)]).map .int)] st=.ok .non s/\US s u l w n (R++f J) (q+qn) (a+an)
theorem zhv(k:Nat){a1 d:Bool}{s0 cn sn:PV}(hsn:nL sn=AB){vs:List PV}{G:List Int}(hG:G.length<=1){f:Nat->List PV}{qn an N:Nat}(hb:∀J<N,BodyOk (k+2) u l w n d vs G f qn an J)
  (hR:R.length+(upTo f N).length<=4000) (hq:q+(N*(1+qn):Nat)<=4000) (ha:a+N*(1+an)<=500000):∀(M j:Nat) (st:SO) (p4:Option PV),j+M=N->US st u l w n (R++upTo f j) (q+(j*(1+qn):Nat)) (a+j*(1+an)) ->
  ∃s p4',ybj (yc T (k+2)) (.n 4) grB (yr M (j:Int) 1) [AA (.loc u),AA (.tp a1 [s0,cn,sn,.tp d vs]),AA (.tp AC (G.map .int)),AA (.int N),p4] st=.nx [AA (.loc u),AA (.tp a1 [s0,cn,sn,.tp d vs]),AA (.tp AC (G.map .int)),AA (.int N),p4'] s/\US s u l w n (R++upTo f N) (q+(N*(1+qn):Nat)) (a+N*(1+an))
 |0,j,st,p4,hj,H=>by
  have:j=N:=by lia
  subst this;exact⟨st,p4,by rw[yr];exact zU,H⟩
 |M+1,j,st,p4,hj,H=>by
  have l1:(upTo f (j+1)).length<=(upTo f N).length:=zhu f N (by lia);rw[upTo,Ac]at l1;have m1:(j+1)*(1+qn)<=N*(1+qn):=F1 _ (by lia);have m2:(j+1)*(1+an)<=N*(1+an):=F1 _ (by lia);have n1:(j+1)*(1+qn)=j*(1+qn)+(1+qn):=FI _ _;have n2:(j+1)*(1+an)=j*(1+an)+(1+an):=FI _ _;let⟨s1,e1,H1⟩:=H.ask k (by lia) (by rw[Ac];lia) sn hsn (G++[(j:Int)]) (by simp;lia);let⟨s2,e2,H2⟩:=H1.rnd (k+1) (by lia);let⟨s3,e3,H3⟩:=hb j (by lia) s2 _ _ _ H2 (by rw[Ac];lia) (by lia) (by lia);have H3:US s3 u l w n (R++upTo f (j+1)) (q+((j+1)*(1+qn):Nat)) (a+(j+1)*(1+an)):=by
   rw[upTo,<- B0,n1,n2];have x1:q+((j*(1+qn)+(1+qn):Nat):Int)=q+((j*(1+qn):Nat):Int)+1+(qn:Int):=by lia
   have x2:a+(j*(1+an)+(1+an))=a+j*(1+an)+1+an:=by lia
   rw[x1,x2];exact H3
  let⟨s4,p4',e4,H4⟩:=zhv k (a1:=a1) (s0:=s0) (cn:=cn) (sn:=sn) hsn hG hb hR hq ha M (j+1) s3 (AA (.int j)) (by lia) H3;refine⟨s4,p4',?_,H4⟩;have i1:=H.ins (AF "add_asked");have i2:=H1.ins (AF "add_round");have i3:=H2.ins (AF "go_parts");have c1:=ye4 G hG (j:Int);have one:exs (yc T (k+2)) [AA (.loc u),AA (.tp a1 [s0,cn,sn,.tp d vs]),AA (.tp AC (G.map .int)),AA (.int N),AA (.int (j:Int))] st grB=.nx [AA (.loc u),AA (.tp a1 [s0,cn,sn,.tp d vs]),AA (.tp AC (G.map .int)),AA (.int N),AA (.int (j:Int))] s3:=by
   generalize PV.tp AC (G.map .int)=gv at *;generalize PV.tp AC ((G++[(j:Int)]).map .int)=gw at *;generalize PV.tp d vs=pv at *;simp! [grB,yj,ix0,ix1,ix2,ix3,c1,i1,i2,i3,e1,e2,e3,IC.ve37]
  rw[yr,zK (ρ1:=[AA (.loc u),AA (.tp a1 [s0,cn,sn,.tp d vs]),AA (.tp AC (G.map .int)),AA (.int N),AA (.int (j:Int))]) rfl,one];exact e4
theorem US.cnt(H:US st u l w n R q a)(k:Nat)(bb:Bool){c m t:Int}(hm:m.natAbs<=200)(ht:t.natAbs<=200)(n0:0<=n)(n1:n<=8):yc T (k+1) zW [.loc u,.tp bb [.int c,.int m,.int t]] st=.ok (.int (c+m*n+t*w*n)) st:=by
 let⟨xs,h,_⟩:=H;have zdF:∀{i j:Int},j.natAbs<18446744073709551616->yE .mul (.int i) (.int j)=AA (.int (i*j)):=λh=>zjN (.inr h);exact zjs k h bb c m t (za1 (by lia)) (za1 (by lia)) (zdF (by lia))
theorem zmu(z:Int)(s:SO):yaD .max s [.int 0,.int z]=AA (.int ((z.toNat:Nat):Int)):=by
 show AA (PV.int (if 0<z then z else 0))=_;split
 .rw[Int.toNat_of_nonneg (by lia)]
 .rw[show z.toNat=0 by lia];rfl
theorem zeO(k:Nat){a1 b d:Bool}{s0 sn:PV}(hsn:nL sn=AB){vs:List PV}{c m t:Int}{G:List Int}(hG:G.length<=1){f:Nat->List PV}{qn an N:Nat}(hN:N=cnt c m t w n)(hm:m.natAbs<=200)(ht:t.natAbs<=200)(n0:0<=n)(n1:n<=8)(hN2:N<1000000)
  (hb:∀J<N,BodyOk (k+2) u l w n d vs G f qn an J) (hR:R.length+(upTo f N).length<=4000) (hq:q+(N*(1+qn):Nat)<=4000) (ha:a+N*(1+an)+1<=500000) (H:US st u l w n R q a) :
  ∃s,yc T (k+3) zr [.loc u,.tp a1 [s0,.tp b [.int c,.int m,.int t],sn,.tp d vs],.tp AC (G.map .int)] st=.ok .non s/\US s u l w n (R++upTo f N) (q+(N*(1+qn):Nat)) (a+N*(1+an)+1):=by
 have hT:T zr=AA ⟨3,5,AC,yj.body⟩:=rfl;have e1:=H.cnt (k+1) b (c:=c) hm ht n0 n1;have i1:=H.ins (AF "count_of");let⟨s1,p4,e2,H2⟩:=zhv k (a1:=a1) (s0:=s0) (cn:=.tp b [.int c,.int m,.int t]) (sn:=sn) (a:=a) (q:=q) (R:=R) hsn hG hb hR hq (by lia) N 0 st AD (by lia) (by simpa [upTo] using H);let⟨s2,e3,H3⟩:=H2.ask k (by lia) (by rw[Ac];lia) sn hsn (G++[(N:Int)]) (by simp;lia);have i2:=H2.ins (AF "add_asked");have c1:=ye4 G hG (N:Int);have hx:=zmu (c+m*n+t*w*n) st;have hz:((c+m*n+t*w*n).toNat:Int)=(N:Int):=by rw[hN];rfl
 rw[hz]at hx;have hr:yb3 (.int (N:Int))=AA (yr N 0 1):=by
  erw[yb3];rw[if_pos (by lia)];rfl
 have hbd:yj.body=(match yj.body with
  | .cons x (.cons (.for t i _) r)=>.cons x (.cons (.for t i grB) r)
  |x=>x):=rfl
 refine⟨s2,?_,H3⟩;rw[zp hT rfl rfl];dsimp only;rw[hbd];have e2:ybj (yc T (k+2)) (.n 4) grB (yr N 0 1) _ st=_:=e2;generalize PV.tp AC (G.map .int)=gv at *;generalize PV.tp AC ((G++[(N:Int)]).map .int)=gw at *;generalize PV.tp d vs=pv at *;generalize PV.tp b [.int c,.int m,.int t]=cv at *;generalize c+m*n+t*w*n=z at *;simp! [yj,ix0,ix1,ix2,ix3,i1,e1,hx,hr,e2,c1,i2,e3,IC.ve37,zbD];rfl
theorem zfI(k:Nat){b:Bool}{vs:List PV}{gv:PV}{s:SO}{p3:Option PV}(e:ybj (yc T k) (.n 3) gpB vs [AA (.loc u),AA (.tp b vs),AA gv,AD] st=.nx [AA (.loc u),AA (.tp b vs),AA gv,p3] s) :
  yc T (k+1) zY [.loc u,.tp b vs,gv] st=.ok .non s:=by
 have hT:T zY=AA ⟨3,4,AC,yh.body⟩:=rfl
 have hbd:yh.body=(match yh.body with
  | .cons (.for t i _) r=>.cons (.for t i gpB) r
  |x=>x):=rfl
 rw[zp hT rfl rfl];dsimp only;rw[hbd];simp! [yh,e,zbD];rfl
theorem zhR(k:Nat){d:Bool}{vs:List PV}{rs:List Rs}(hd:deepOf vs=AA rs)(I:Int)(J:Nat)(hrow:∀r∈rs,∀s,yc T (k+2) zbj [r.pv I J n] s=.ok (.bl AB) s):BodyOk (k+4) u l w n d vs [I] (λJ=>rs.map λr=>r.pv I J n) 0 0 J:=by
 intro st R q a H h1 h2 h3;let⟨s,p3,e,H2⟩:=zhx k (a:=a) (q:=q) I J (AA (.tp d vs)) (by lia) vs rs st R AD hd H (by simpa using h1) hrow;exact⟨s,zfI (k+3) e,by simpa using H2⟩
theorem zkS(k:Nat)(H:US st u l w n R q a){a1:Bool}{r:List PV}{gv:PV}{p1:Option PV}{s:SO}(e:yc T k zr [.loc u,.tp a1 (.str "rounds" :: r),gv] st=.ok .non s) :
  exs (yc T k) [AA (.loc u),p1,AA gv,AA (.tp a1 (.str "rounds" :: r))] st gpB=.nx [AA (.loc u),p1,AA gv,AA (.tp a1 (.str "rounds" :: r))] s:=by
 have ih:=H.ins (AF "go_rounds");simp! [gpB,yh,ix0,zg2,ih,e,IC.ve37]
def ybC(v:PV):Prop:=∀(k:Nat) (s:SO),yc T (10+k) zbj [v] s=.ok (.bl AB) s
def T2.ak(w n:Int):T2->Nat
 | .row _=>0
 | .rounds c m t _=>cnt c m t w n+1
def ak2(w n:Int)(ps:List T2):Nat:=(ps.map (T2.ak w n)).sum
theorem zeU{c m t w n:Int}(hc:c.natAbs<=200)(hm:m.natAbs<=200)(ht:t.natAbs<=200)(w0:0<=w)(w1:w<=16)(n0:0<=n)(n1:n<=8):(c+m*n+t*w*n).natAbs<1000000:=by
 have h1:(m*n).natAbs<=200*8:=by rw[Cf];exact BH hm (by lia)
 have h2:(t*w*n).natAbs<=200*16*8:=by rw[Cf,Cf];exact BH (BH ht (by lia)) (by lia)
 generalize m*n=A at *;generalize t*w*n=B at *;lia
theorem zhk{α:Type}{f:Nat->List α}{x:α}:∀{N J:Nat},J<N->x∈f J->x∈upTo f N
 |0,_,h,_=>absurd h (by lia)
 |N+1,J,h,hx=>by
  rw[upTo,Ar];rcases CF J N with h1|h1
  .exact .inl (zhk h1 hx)
  .have:J=N:=by lia
   exact .inr (this ▸ hx)
theorem zoQ{a b d:Bool}{x c m t sn:PV}{vs:List PV}(h:nL (.tp a [x,.tp b [c,m,t],sn,.tp d vs])=AB):nL sn=true:=by
 erw[nL,nLs,AK]at h;exact h.2.2.1
theorem zpP{a b d:Bool}{x c m t sn:PV}{vs:List PV}(h:nL (.tp a [x,.tp b [c,m,t],sn,.tp d vs])=AB):nLs vs=true:=by
 erw[nL,nLs,AK]at h;exact h.2.2.2.1
theorem zbK{v:PV}{vs:List PV}(h:nLs (v::vs)=AB):nL v=AB/\nLs vs=true:=by
 simpa only[nLs,AK] using h
theorem zmI(k:Nat)(w0:0<=w)(w1:w<=16)(n0:0<=n)(n1:n<=8)(I:Nat)(p1:Option PV){v:PV}{p:T2}(hv:nL v=AB)(hp:part2 v=AA p)(H:US st u l w n R q a)(hR:R.length+(p.rows w n I).length<=4000)(hq:q+(p.rnd w n:Nat)<=4000)(ha:a+p.ak w n<=500000)(hrow:∀x∈p.rows w n I,ybC x) :
  ∃s,exs (yc T (k+13)) [AA (.loc u),p1,AA (.tp AC [.int I]),AA v] st gpB=.nx [AA (.loc u),p1,AA (.tp AC [.int I]),AA v] s/\US s u l w n (R++p.rows w n I) (q+(p.rnd w n:Nat)) (a+p.ak w n):=by
 rcases zjH hp with⟨r,rfl,h1⟩|⟨a1,b,sn,d,vs,c,m,t,rs,rfl,rfl,hd,hc,hm,ht⟩
 .let⟨s,e,H2⟩:=ziK (k+10) H (by simpa [T2.rows] using hR) (by lia) h1 [(I:Int)] (by simp) (λs=>by
   have:=hrow (r.pv I 0 n) (by simp[T2.rows]) (k+2) s;rw[show 10+(k+2)=k+10+2 by lia]at this;exact this) p1
  exact⟨s,e,by simpa [T2.rows,T2.rnd,T2.ak] using H2⟩
 .have hN:cnt c m t w n<1000000:=by
   have:=zeU hc hm ht w0 w1 n0 n1;erw[cnt];lia
  erw[T2.rows,T2.rnd,T2.ak]at hR hq ha hrow ⊢;let⟨s,e,H2⟩:=zeO (k+10) (a1:=a1) (b:=b) (d:=d) (s0:=.str "rounds") (sn:=sn) (zoQ hv) (vs:=vs) (G:=[(I:Int)]) (by simp) (f:=λJ=>rs.map λr=>r.pv I J n) (qn:=0) (an:=0) rfl hm ht n0 n1 hN
   (λJ hJ=>zhR (k+8) hd I J (λr hr s=>by
    have:=hrow (r.pv I J n) (zhk hJ (D0.2 ⟨r,hr,rfl⟩)) k s;rw[show 10+k=k+8+2 by lia]at this;exact this)) hR (by simpa using hq) (by lia) H
  have e:yc T (k+13) zr [.loc u,.tp a1 [.str "rounds",.tp b [.int c,.int m,.int t],sn,.tp d vs],.tp AC [.int I]] st=.ok .non s:=e;exact⟨s,zkS (k+13) H e,by simpa [Dh] using H2⟩
theorem zkJ(k:Nat)(w0:0<=w)(w1:w<=16)(n0:0<=n)(n1:n<=8)(I:Nat)(p1:Option PV):∀(vs:List PV) (ps:List T2) (st:SO) (R:List PV) (q:Int) (a:Nat) (p3:Option PV),nLs vs=AB->ya0 vs=AA ps->US st u l w n R q a->R.length+(yX w n I ps).length<=4000->q+(ya5 w n ps:Nat)<=4000->a+ak2 w n ps<=500000->(∀x∈yX w n I ps,ybC x) ->
  ∃s p3',ybj (yc T (k+13)) (.n 3) gpB vs [AA (.loc u),p1,AA (.tp AC [.int I]),p3] st=.nx [AA (.loc u),p1,AA (.tp AC [.int I]),p3'] s/\US s u l w n (R++yX w n I ps) (q+(ya5 w n ps:Nat)) (a+ak2 w n ps)
 | [],ps,st,R,q,a,p3,_,hp,H,_,_,_,_=>by
  cases hp
  exact⟨st,p3,zU,by simpa [yX,ya5,ak2] using H⟩
 |v::vs,ps,st,R,q,a,p3,hv,hp,H,hR,hq,ha,hrow=>by
  unfold ya0 at hp;split at hp
  .rename_i x y hx hy
   cases hp
   have r1:yX w n I (x::y)=x.rows w n I++yX w n I y:=by simp[yX]
   have r2:ya5 w n (x::y)=x.rnd w n+ya5 w n y:=by simp[ya5]
   have r3:ak2 w n (x::y)=x.ak w n+ak2 w n y:=by simp[ak2]
   rw[r1,Ac]at hR;rw[r2]at hq;rw[r3]at ha;rw[r1]at hrow;rw[r1,r2,r3];let⟨s1,e1,H1⟩:=zmI k w0 w1 n0 n1 I p1 (zbK hv).1 hx H (by lia) (by lia) (by lia) (λz hz=>hrow z (by simp[hz]));let⟨s2,p3',e2,H2⟩:=zkJ k w0 w1 n0 n1 I p1 vs y s1 _ _ _ (AA v) (zbK hv).2 hy H1 (by rw[Ac];lia) (by lia) (by lia) (λz hz=>hrow z (by simp[hz]));refine⟨s2,p3',?_,?_⟩
   .rw[zK (ρ1:=[AA (.loc u),p1,AA (.tp AC [.int I]),AA v]) rfl,e1];exact e2
   .rw[<- B0,<- Dh,show q+((x.rnd w n+ya5 w n y:Nat):Int)=q+(x.rnd w n:Nat)+(ya5 w n y:Nat)by lia];exact H2
  .cases hp
theorem zkl(k:Nat)(w0:0<=w)(w1:w<=16)(n0:0<=n)(n1:n<=8){d:Bool}{vs:List PV}{ps:List T2}(hv:nLs vs=AB)(hp:ya0 vs=AA ps)(I:Nat)(hrow:∀x∈yX w n I ps,ybC x):BodyOk (k+14) u l w n d vs [] (λI=>yX w n I ps) (ya5 w n ps) (ak2 w n ps) I:=by
 intro st R q a H h1 h2 h3;let⟨s,p3,e,H2⟩:=zkJ k w0 w1 n0 n1 I (AA (.tp d vs)) vs ps st R q a AD hv hp H h1 h2 h3 hrow;exact⟨s,zfI (k+13) e,H2⟩
def T1.ak(w n:Int):T1->Nat
 | .row _=>0
 | .rounds c m t ps=>cnt c m t w n*(1+ak2 w n ps)+1
def ak1(w n:Int)(ps:List T1):Nat:=(ps.map (T1.ak w n)).sum
theorem zlK(k:Nat)(w0:0<=w)(w1:w<=16)(n0:0<=n)(n1:n<=8)(p1:Option PV){v:PV}{p:T1}(hv:nL v=AB)(hp:part1 v=AA p)(H:US st u l w n R q a)(hR:R.length+(p.rows w n).length<=4000)(hq:q+(p.rnd w n:Nat)<=4000)(ha:a+p.ak w n<=500000)(hrow:∀x∈p.rows w n,ybC x) :
  ∃s,exs (yc T (k+15)) [AA (.loc u),p1,AA (.tp AC []),AA v] st gpB=.nx [AA (.loc u),p1,AA (.tp AC []),AA v] s/\US s u l w n (R++p.rows w n) (q+(p.rnd w n:Nat)) (a+p.ak w n):=by
 rcases zkb hp with⟨r,rfl,h1⟩|⟨a1,b,sn,d,vs,c,m,t,ps,rfl,rfl,hd,hc,hm,ht⟩
 .let⟨s,e,H2⟩:=ziK (k+12) H (by simpa [T1.rows] using hR) (by lia) h1 [] (by simp) (λs=>by
   have:=hrow (r.pv 0 0 n) (by simp[T1.rows]) (k+4) s;rw[show 10+(k+4)=k+12+2 by lia]at this;exact this) p1
  exact⟨s,e,by simpa [T1.rows,T1.rnd,T1.ak] using H2⟩
 .have hN:cnt c m t w n<1000000:=by
   have:=zeU hc hm ht w0 w1 n0 n1;erw[cnt];lia
  erw[T1.rows,T1.rnd,T1.ak]at hR hq ha hrow ⊢;let⟨s,e,H2⟩:=zeO (k+12) (a1:=a1) (b:=b) (d:=d) (s0:=.str "rounds") (sn:=sn) (zoQ hv) (vs:=vs) (G:=[]) (by simp) (f:=λI=>yX w n I ps) (qn:=ya5 w n ps) (an:=ak2 w n ps) rfl hm ht n0 n1 hN
   (λJ hJ=>zkl k w0 w1 n0 n1 (zpP hv) hd J (λz hz=>hrow z (zhk hJ hz))) hR hq (by lia) H
  have e:yc T (k+15) zr [.loc u,.tp a1 [.str "rounds",.tp b [.int c,.int m,.int t],sn,.tp d vs],.tp AC []] st=.ok .non s:=e;exact⟨s,zkS (k+15) H e,by rw[<- Dh];exact H2⟩
theorem zk8(k:Nat)(w0:0<=w)(w1:w<=16)(n0:0<=n)(n1:n<=8)(p1:Option PV):∀(vs:List PV) (ps:List T1) (st:SO) (R:List PV) (q:Int) (a:Nat) (p3:Option PV),nLs vs=AB->yaL vs=AA ps->US st u l w n R q a->R.length+(yp w n ps).length<=4000->q+(yan w n ps:Nat)<=4000->a+ak1 w n ps<=500000->(∀x∈yp w n ps,ybC x) ->
  ∃s p3',ybj (yc T (k+15)) (.n 3) gpB vs [AA (.loc u),p1,AA (.tp AC []),p3] st=.nx [AA (.loc u),p1,AA (.tp AC []),p3'] s/\US s u l w n (R++yp w n ps) (q+(yan w n ps:Nat)) (a+ak1 w n ps)
 | [],ps,st,R,q,a,p3,_,hp,H,_,_,_,_=>by
  cases hp
  exact⟨st,p3,zU,by simpa [yp,yan,ak1] using H⟩
 |v::vs,ps,st,R,q,a,p3,hv,hp,H,hR,hq,ha,hrow=>by
  unfold yaL at hp;split at hp
  .rename_i x y hx hy
   cases hp
   have r1:yp w n (x::y)=x.rows w n++yp w n y:=by simp[yp]
   have r2:yan w n (x::y)=x.rnd w n+yan w n y:=by simp[yan]
   have r3:ak1 w n (x::y)=x.ak w n+ak1 w n y:=by simp[ak1]
   rw[r1,Ac]at hR;rw[r2]at hq;rw[r3]at ha;rw[r1]at hrow;rw[r1,r2,r3];let⟨s1,e1,H1⟩:=zlK k w0 w1 n0 n1 p1 (zbK hv).1 hx H (by lia) (by lia) (by lia) (λz hz=>hrow z (by simp[hz]));let⟨s2,p3',e2,H2⟩:=zk8 k w0 w1 n0 n1 p1 vs y s1 _ _ _ (AA v) (zbK hv).2 hy H1 (by rw[Ac];lia) (by lia) (by lia) (λz hz=>hrow z (by simp[hz]));refine⟨s2,p3',?_,?_⟩
   .rw[zK (ρ1:=[AA (.loc u),p1,AA (.tp AC []),AA v]) rfl,e1];exact e2
   .rw[<- B0,<- Dh,show q+((x.rnd w n+yan w n y:Nat):Int)=q+(x.rnd w n:Nat)+(yan w n y:Nat)by lia];exact H2
  .cases hp
end
theorem yeO(k:Nat)(w n:Int):yc T (k+1) zar [.loc 0,.int w,.int n] [.ins cU []]=.ok .non [uob w n 1 0 0,.lst []]:=by
 have hT:T zar=AA zX:=rfl;rw[zp hT rfl rfl];ac_rfl
theorem zkV(w n:Int):US [uob w n 1 0 0,.lst []] 0 1 w n [] 0 0:=⟨[],⟨rfl,rfl,by decide⟩,.nil,by simp⟩
theorem StR.nl{xs rs:List PV}(h:StR xs rs):nLs xs=true:=by
 have ap:∀(a b:List PV),nLs a=AB->nLs b=AB->nLs (a++b)=true:=by
  intro a
  induction a with
  |nil=>intro b _ h;exact h
  |cons x a ih =>
   intro b h1 h2;let⟨p,q⟩:=zbK h1;rw[Ab,nLs,p,ih b q h2];rfl
 induction h with
 |nil=>rfl
 |row hv _ ih=>exact ap _ _ ih (by simp[nLs,nL,hv])
 |ask hv _ ih=>exact ap _ _ ih (by erw[nLs,nL,Bool.and_true,Da]at hv ⊢;simpa using hv)
theorem zhc:yF .eq (.str "asked") (.str "row")=AA (.bl AC):=by ac_rfl
theorem zjZ(k:Nat){b:Bool}{vs:List PV}{ps:List T1}{w n:Int}(hv:nLs vs=AB)(hp:yaL vs=AA ps)(w0:0<=w)(w1:w<=16)(n0:0<=n)(n1:n<=8)(hR:(yp w n ps).length<=4000)(hq:yan w n ps<=4000)(ha:ak1 w n ps<=500000)(hrow:∀x∈yp w n ps,ybC x)
  (hit:∀s,yc T (k+16) zH [.tp b vs] s=.ok (.bl AB) s) (st:SO):∃xs,yc T (k+17) zd3 [.tp b vs,.int w,.int n] st=.ok (.lst xs) st/\StR xs (yp w n ps):=by
 have hT:T zd3=AA zbn:=rfl;have hnl:nLs [.tp b vs,.int w,.int n]=true:=by simp[nLs,nL,hv]
 let⟨s,p3,e,xs,h,hs,_⟩:=zk8 k w0 w1 n0 n1 (AA (.tp b vs)) vs ps [uob w n 1 0 0,.lst []] [] 0 0 AD hv hp (zkV w n) (by simpa using hR) (by lia) (by lia) hrow;have e:=zfI (k+15) e;have i0:=yeO (k+15) w n;have ih:=(zkV w n).ins (AF "go_parts");have f1:=h.fs;have fz:ydP (.loc 1) s=.ok (.lst xs) (s.set 1 .dead):=by simp[ydP,h.d]
 refine⟨xs,?_,by simpa using hs⟩;have nl:=hs.nl;rw[zc hT rfl rfl hnl];generalize PV.tp b vs=tv at *;simp! [zbn,hit,i0,ih,e,f1,fz,IC.ve32,IC.ve33,IC.ve37,ybJ,newV];simp[ybE,nL,nl]
noncomputable def unT:Ce:=.cmp .eq (.idx (.var 0) (.cst (.int 0))) (.cst (.str "row"))
noncomputable def unE:Ce:=.idx (.var 0) (.cst (.int 1))
theorem zkn(k:Nat){st:SO}{xs rs:List PV}(h:StR xs rs):∀(ys b:List PV),yal (yc T k) [AD] (.n 0) unT unE ys st=.ok b st->yal (yc T k) [AD] (.n 0) unT unE (xs++ys) st=.ok (rs++b) st:=by
 induction h with
 |nil=>intro ys b e;exact e
 | @row xs rs v hv _ ih =>
  intro ys b e;have one:yaP (yc T k) [AD] (.n 0) unT unE (.tp AC [.str "row",v]) st=.ok (AA v) st:=by
   simp! [yaP,unT,unE,ix0,ix1,zd9]
  have:=ih (.tp AC [.str "row",v]::ys) (v::b) (by rw[zL,one,bd_ok,e,bd_ok];rfl);rw[B0,B0];exact this
 | @ask xs rs x y z hv _ ih =>
  intro ys b e;have one:yaP (yc T k) [AD] (.n 0) unT unE (.tp AC [.str "asked",x,y,z]) st=.ok AD st:=by
   simp! [yaP,unT,unE,ix0,ix1,zhc]
  have:=ih (.tp AC [.str "asked",x,y,z]::ys) b (by rw[zL,one,bd_ok,e,bd_ok];rfl);rw[B0];exact this
theorem StR.nl2{xs rs:List PV}(h:StR xs rs):nLs rs=true:=by
 have ap:∀(a b:List PV),nLs a=AB->nLs b=AB->nLs (a++b)=true:=by
  intro a
  induction a with
  |nil=>intro b _ h;exact h
  |cons x a ih =>
   intro b h1 h2;let⟨p,q⟩:=zbK h1;rw[Ab,nLs,p,ih b q h2];rfl
 induction h with
 |nil=>rfl
 |row hv _ ih=>exact ap _ _ ih (by simp[nLs,hv])
 |ask _ _ ih=>exact ih
theorem unrolled(k:Nat){b:Bool}{vs:List PV}{ps:List T1}{w n:Int}(hv:nLs vs=AB)(hp:yaL vs=AA ps)(w0:0<=w)(w1:w<=16)(n0:0<=n)(n1:n<=8)(hR:(yp w n ps).length<=4000)(hq:yan w n ps<=4000)(ha:ak1 w n ps<=500000)(hrow:∀x∈yp w n ps,ybC x)
  (hit:∀s,yc T (k+16) zH [.tp b vs] s=.ok (.bl AB) s) (st:SO):yc T (k+18) zec [.tp b vs,.int w,.int n] st=.ok (.tp AC (yp w n ps)) st:=by
 have hT:T zec=AA zbm:=rfl;have hnl:nLs [.tp b vs,.int w,.int n]=true:=by simp[nLs,nL,hv]
 let⟨xs,e,hs⟩:=zjZ k hv hp w0 w1 n0 n1 hR hq ha hrow hit [];have ec:=zkn (k+17) (st:=[]) hs [] [] zaL;rw[A2,A2]at ec;have ec:yal (yc T (k+17)) [AD] (.n 0) (.cmp .eq (.idx (.var 0) (.cst (.int 0))) (.cst (.str "row"))) (.idx (.var 0) (.cst (.int 1))) xs []=_:=ec;have nl:=hs.nl2;have lr:=λst=>zcA (yp w n ps) (by lia) st;have ht:∀st,yaD .tuple st [.lst (yp w n ps)]=AA (.tp AC (yp w n ps)):=λ_=>rfl;rw[zc hT rfl rfl hnl];generalize PV.tp b vs=tv at *;generalize yp w n ps=rows at *;simp! [zbm,e,ec,lr,ht];simp[ybE,nL,nl]
theorem zhg(w n:Int):∀ps:List T1,nLs (yp w n ps)=true:=by
 have ap:∀(a b:List PV),nLs a=AB->nLs b=AB->nLs (a++b)=true:=by
  intro a
  induction a with
  |nil=>intro b _ h;exact h
  |cons x a ih =>
   intro b h1 h2;let⟨p,q⟩:=zbK h1;rw[Ab,nLs,p,ih b q h2];rfl
 have up:∀(f:Nat->List PV) (N:Nat),(∀i,nLs (f i)=AB)->nLs (upTo f N)=true:=by
  intro f N h
  induction N with
  |zero=>rfl
  |succ N ih=>exact ap _ _ ih (h N)
 have mp:∀(rs:List Rs) (I J:Int),nLs (rs.map λr=>r.pv I J n)=true:=by
  intro rs I J
  induction rs with
  |nil=>rfl
  |cons r rs ih=>rw[AL,nLs,zcf,ih];rfl
 have two:∀(I:Nat) (ps:List T2),nLs (yX w n I ps)=true:=by
  intro I ps
  induction ps with
  |nil=>rfl
  |cons p ps ih =>
   rw[yX,Aa];refine ap _ _ ?_ ih
   cases p with
   |row r=>simp[T2.rows,nLs,zcf]
   |rounds c m t rs=>exact up _ _ λJ=>mp rs _ _
 intro ps
 induction ps with
 |nil=>rfl
 |cons p ps ih =>
  rw[yp,Aa];refine ap _ _ ?_ ih
  cases p with
  |row r=>simp[T1.rows,nLs,zcf]
  |rounds c m t ps=>exact up _ _ λI=>two I ps
theorem ziJ(k:Nat){deed:PV}(hd:nL deed=AB){b:Bool}{vs:List PV}{ps:List T1}{w n:Int}(ht:∀s,yc T (k+18) zaM [deed] s=.ok (.tp b vs) s)(hv:nLs vs=AB)(hp:yaL vs=AA ps)(w0:0<=w)(w1:w<=16)(n0:0<=n)(n1:n<=8)(hR:(yp w n ps).length<=4000)(hq:yan w n ps<=4000)(ha:ak1 w n ps<=500000)(hrow:∀x∈yp w n ps,ybC x)
  (hit:∀s,yc T (k+16) zH [.tp b vs] s=.ok (.bl AB) s) (st:SO):yc T (k+19) zaZ [deed,.int w,.int n] st=.ok (.tp AC (yp w n ps)) st:=by
 have hT:T zaZ=AA zaC:=rfl;have hnl:nLs [deed,.int w,.int n]=true:=by simp[nLs,nL,hd]
 have e:=unrolled k hv hp w0 w1 n0 n1 hR hq ha hrow hit [];have nl:=zhg w n ps;rw[zc hT rfl rfl hnl];generalize PV.tp b vs=tv at *;generalize yp w n ps=rows at *;simp! [zaC,ht,e];simp[ybE,nL,nl]
def Dg(W:Int)(M:Mem)(c n:Nat):Prop:=∀i:Nat,i<n->0<=M c i/\M c i<W
theorem Dg.mono{W:Int}{M:Mem}{c n:Nat}(h:Dg W M c (n+1)):Dg W M c n:=λi hi=>h i (by lia)
theorem zh{W:Int}{M M':Mem}{c c':Nat}:∀n,(∀i:Nat,i<n->M c i=M' c' i)->yt W M c n=yt W M' c' n
 |0,_=>rfl
 |n+1,h=>by rw[yt,yt,zh n λi hi=>h i (by lia),h n (by lia)]
theorem zaE{W:Int}(hW:0<W){M:Mem}{c:Nat}:∀n,Dg W M c n->0<=yt W M c n/\yt W M c n<W^n
 |0,_=>by simp[yt]
 |n+1,h=>by
  let⟨a,b⟩:=zaE hW n h.mono;let⟨c0,c1⟩:=h n (by lia);have hp:0<W^n:=Af hW;have h1:0<=M c n*W^n:=By c0 (by lia);have h2:M c n*W^n<=(W - 1)*W^n:=BL (by lia) (by lia);rw[Bm,Ak]at h2;rw[yt,Ae,A7 (W^n) W];lia
theorem zbX{W:Int}(hW:0<W){M:Mem}{c:Nat}:∀n,Dg W M c n->(yt W M c n=0 ↔ ∀i:Nat,i<n->M c i=0)
 |0,_=>by simp[yt]
 |n+1,h=>by
  have ih:=zbX hW n h.mono;let⟨a,b⟩:=zaE hW n h.mono;let⟨c0,c1⟩:=h n (by lia);have hp:0<W^n:=Af hW;have h1:0<=M c n*W^n:=By c0 (by lia);rw[yt];constructor
  .intro h2 i hi;have h3:M c n*W^n=0:=by omega
   rcases CF i n with z|z
   .exact ih.1 (by lia) i z
   .rw[show i=n by lia];rcases Gf.1 h3 with e|e
    .exact e
    .lia
  .intro h2;rw[h2 n (by lia),ih.2 λi hi=>h2 i (by lia)];simp
theorem zaH{w:Nat}(hw:0<w){M:Mem}{c n:Nat}(h:Dg (2^w) M c (n+1)):tb w (M c n)=if (2^w:Int)^(n+1)<=2*yt (2^w) M c (n+1)then 1 else 0:=by
 let⟨c0,c1⟩:=h n (by lia);let⟨a,b⟩:=zaE (Af (by lia)) n h.mono;rw[zjg hw c0 c1,yt];obtain⟨v,rfl⟩:∃v,w=v+1:=⟨w - 1,by lia⟩;have hp:0<((2:Int)^(v+1))^n:=Af (Af (by lia));rw[Ae ((2:Int)^(v+1)) n];generalize ((2:Int)^(v+1))^n=P at *;generalize hV:yt (2^(v+1)) M c n=V at *;rw[Ae]at *;generalize (2:Int)^v=H at *;generalize M c (n:Int)=d at *
 by_cases hd:H<=d
 .have h1:=BL hd (show 0<=P by lia);have h2:P*(H*2)=2*(H*P):=by rw[A7 P,BX,A7 2 P,<- BX,A7 2]
  rw[if_pos (by lia),if_pos (by rw[h2];lia)]
 .have h1:=BL (show d<=H - 1 by lia) (show 0<=P by lia);rw[Bm,Ak]at h1;have h2:P*(H*2)=2*(H*P):=by rw[A7 P,BX,A7 2 P,<- BX,A7 2]
  rw[if_neg (by lia),if_neg (by rw[h2];lia)]
theorem zf7{W:Int}(M:Mem)(k:Int)(hS:0<=M 115 0):∀n,(∀i:Nat,i<n->0<=M 99 i) ->
  (yu W (yw (λi=>Rw.any cS cS (99,i)) n) M k).2=k/\(∀d j,d≠115->(yu W (yw (λi=>Rw.any cS cS (99,i)) n) M k).1 d j=M d j)/\0<=(yu W (yw (λi=>Rw.any cS cS (99,i)) n) M k).1 115 0/\((yu W (yw (λi=>Rw.any cS cS (99,i)) n) M k).1 115 0=0 ↔ M 115 0=0/\∀i:Nat,i<n->M 99 i=0)
 |0,_=>⟨rfl,λ_ _ _=>rfl,hS,by simp[yw,yu]⟩
 |n+1,h=>by
  let⟨h1,h2,h3,h4⟩:=zf7 (W:=W) M k hS n λi hi=>h i (by lia);rw[yw,zm];generalize yu W (yw (λi=>Rw.any cS cS (99,i)) n) M k=R at *;let⟨M1,k'⟩:=R;simp only at *;have hb:=h n (by lia);erw[yu,stepM,rd,wr,cS,h2 99 n (by decide)];have hz:=zfQ h3 hb;refine⟨h1,λd j hd=>?_,?_,?_⟩
  .unfold upd;rw[if_neg (by lia),h2 d j hd]
  .unfold upd;rw[if_pos ⟨rfl,rfl⟩];obtain⟨x,hx⟩:∃x:Nat,M1 115 0=x:=⟨(M1 115 0).toNat,by lia⟩;obtain⟨y,hy⟩:∃y:Nat,M 99 n=y:=⟨(M 99 n).toNat,by lia⟩;rw[hx,hy,zd7];lia
  .unfold upd;rw[if_pos ⟨rfl,rfl⟩,hz,h4];constructor
   .rintro⟨⟨a,b⟩,c⟩
    refine⟨a,λi hi=>?_⟩;rcases CF i n with z|z
    .exact b i z
    .rw[show i=n by lia];exact c
   .rintro⟨a,b⟩
    exact⟨⟨a,λi hi=>b i (by lia)⟩,b n (by lia)⟩
theorem zG{W:Int}{r:Rw}{rs:List Rw}{M:Mem}{k:Int}:yu W (r::rs) M k=yu W rs (stepM W M k r).1 (stepM W M k r).2:=rfl
theorem zca(b:Bool):0<=bi b/\bi b<=1:=by cases b<;>decide
theorem zeF{w:Nat}(hw:1<w){n:Nat}(M:Mem)(k:Int)(hc:Dg (2^w) M 99 (n+1))(hz:M 122 0=0) :
  (∀j,(yu (2^w) (yq (n+1)) M k).1 99 j=M 99 j)/\(yu (2^w) (yq (n+1)) M k).1 109 0=M 109 0/\(yu (2^w) (yq (n+1)) M k).1 109 1=M 109 1 /\
  (yu (2^w) (yq (n+1)) M k).1 109 2=bi (yt (2^w) M 99 (n+1) == 0)/\(yu (2^w) (yq (n+1)) M k).1 109 3=bi (decide ((2^w:Int)^(n+1)<=2*yt (2^w) M 99 (n+1))):=by
 have hW:(0:Int)<2^w:=Af (by lia);have hW4:(4:Int)<=2^w:=by
  have h:(2:Nat)^2<=2^w:=Al (by lia) (by lia);have h2:=pw w;lia
 let⟨h1,h2,h3,h4⟩:=zf7 (W:=2^w) (wr M cS 0) k (by simp[wr,upd]) (n+1) (λi hi=>by simp[wr,upd];exact(hc i hi).1);have e:yq (n+1)=.set cS 0::(yw (λi=>Rw.any cS cS (99,i)) (n+1)++[.ask cS,.set (109,2) 1,.less (109,2) (109,2) cZ,.twice cT (99,((n+1:Nat):Int) - 1),.sum (109,3) cZ cZ]):=rfl;have hst:stepM (2^w) M k (.set cS 0)=(wr M cS 0,k):=rfl;rw[e,zG,hst,zm];generalize yu (2^w) (yw (λi=>Rw.any cS cS (99,i)) (n+1)) (wr M cS 0) k=R at *;let⟨M1,k'⟩:=R;simp only at *;subst h1;have g:∀d j,d≠115->M1 d j=M d j:=λd j hd=>by
  rw[h2 d j hd];erw[wr,upd,cS];rw[if_neg (by lia)]
 have hn:((n+1:Nat):Int) - 1=n:=by lia
 have h5:M1 115 0=0 ↔ yt (2^w) M 99 (n+1)=0:=by
  rw[h4,zbX hW (n+1) hc];constructor
  .rintro⟨_,b⟩ i hi
   have:=b i hi;simpa [wr,upd] using this
  .intro b;exact⟨by simp[wr,upd],λi hi=>by simpa [wr,upd] using b i hi⟩
 have ht:=zaH (by lia) hc;have hb:bi (!(M1 115 0 == 0))=1 - bi (yt (2^w) M 99 (n+1) == 0):=by
  by_cases hv:yt (2^w) M 99 (n+1)=0
  .rw[h5.2 hv,hv];rfl
  .have:¬M1 115 0=0:=λz=>hv (h5.1 z);rw[beq_eq_false_iff_ne.2 this,beq_eq_false_iff_ne.2 hv];rfl
 have hbr:=zca (yt (2^w) M 99 (n+1) == 0);rw[hn];erw[yu,stepM,rd,wr,upd,cS,cT,cZ];rw[hb];generalize bi (yt (2^w) M 99 (n+1) == 0)=v at *;have hm:bi (decide ((1:Int) - 0 - (1 - v)<0))=0:=by
  rw[decide_eq_false (by lia)];rfl
 have hm2:(1 - 0 - (1 - v))%(2:Int)^w=v:=by
  rw[show 1 - 0 - (1 - v)=v by lia];exact A3 (by lia) (by lia)
 have hT:(2*M 99 n+0) / 2^w=bi (decide ((2^w:Int)^(n+1)<=2*yt (2^w) M 99 (n+1))):=by
  rw[BJ];show tb w (M 99 n)=_;rw[ht]
  by_cases q:(2^w:Int)^(n+1)<=2*yt (2^w) M 99 (n+1)
  .rw[if_pos q,decide_eq_true q];rfl
  .rw[if_neg q,decide_eq_false q];rfl
 have hTr:=zca (decide ((2^w:Int)^(n+1)<=2*yt (2^w) M 99 (n+1)));erw[Cg,false_and,if_false,Int.reduceEq,and_false,and_self,if_true,g _ _ (show (99:Nat)≠115 by decide),g _ _ (show (109:Nat)≠115 by decide),g _ _ (show (122:Nat)≠115 by decide),hz,hm,hm2,hT];refine⟨λj=>trivial,trivial,trivial,trivial,?_⟩;rw[show (0:Int)+0+bi (decide ((2^w:Int)^(n+1)<=2*yt (2^w) M 99 (n+1)))=bi (decide ((2^w:Int)^(n+1)<=2*yt (2^w) M 99 (n+1)))by lia];exact A3 (by lia) (by lia)
theorem zbQ{c d:Nat}(h:d≠c)(j:Int):∀(vs:List Int) (i:Nat) (M:Mem),yaF c i vs M d j=M d j
 | [],_,_=>rfl
 |v::vs,i,M=>by
  rw[yaF,zbQ h j vs,upd,if_neg (by lia)]
theorem zdh{c:Nat}(j:Int):∀(vs:List Int) (i:Nat) (M:Mem),j<i->yaF c i vs M c j=M c j
 | [],_,_,_=>rfl
 |v::vs,i,M,h=>by
  rw[yaF,zdh j vs (i+1) _ (by lia),upd,if_neg (by lia)]
theorem zeK{c:Nat}:∀(vs:List Int) (i:Nat) (M:Mem) (k:Nat),k<vs.length->yaF c i vs M c ((i+k:Nat):Int)=vs.getD k 0
 | [],_,_,_,h=>by simp at h
 |v::vs,i,M,0,h=>by
  rw[yaF,zdh _ vs (i+1) _ (by lia),upd,if_pos ⟨rfl,by simp⟩];rfl
 |v::vs,i,M,k+1,h=>by
  rw[yaF,show i+(k+1)=i+1+k by lia,zeK vs (i+1) _ k (by simpa using h)];rfl
theorem zdn{W:Int}(hW:0<W):∀(n:Nat) (x:Int) (k:Nat),k<n->(ye W n x).getD k 0=x / W^k%W
 |0,_,_,h=>by lia
 |n+1,x,0,h=>by simp[ye]
 |n+1,x,k+1,h=>by
  rw[ye];show (ye W n (x / W)).getD k 0=_;rw[zdn hW n (x / W) k (by lia),Ae,A7 (W^k),BO (by lia)]
theorem zev{W x:Int}(hW:0<W)(n:Nat):x%W^(n+1)=x%W^n+x / W^n%W*W^n:=by
 have hp:0<W^n:=Af hW;rw[Ae];generalize W^n=P at *;have e1:=BE x P;have e2:=BE (x / P) W;have a0:=Ao x (show P≠0 by lia);have a1:=Ad x hp;have b0:=Ao (x / P) (show W≠0 by lia);have b1:=Ad (x / P) hW;generalize x%P=r at *;generalize x / P=q at *;generalize q%W=s at *;generalize q / W=t at *;subst e2;have e3:x=r+s*P+P*W*t:=by
  rw[<- e1,CJ,A7 P s,BX P W t];lia
 have c1:s*P<=(W - 1)*P:=BL (by lia) (by lia);have c0:0<=s*P:=By b0 (by lia);rw[Bm,Ak]at c1;rw[e3,BZ,A3 (by lia) (by rw[A7 P W];lia)]
theorem zc3{W:Int}(hW:0<W){M:Mem}{c:Nat}{x:Int}:∀n,(∀i:Nat,i<n->M c i=x / W^i%W)->yt W M c n=x%W^n
 |0,_=>by simp[yt,Int.emod_one]
 |n+1,h=>by rw[yt,zc3 hW n λi hi=>h i (by lia),h n (by lia),zev hW]
section
variable {W:Int}(n:Nat)(x y:Int)
theorem zdR{d:Nat}(h1:d≠97)(h2:d≠98)(j:Int):yZ W n x y d j=0:=by
 rw[yZ,zbQ h2,zbQ h1];rfl
variable (hW:0<W)
include hW
theorem zlQ{i:Nat}(h:i<n):yZ W n x y 97 i=x / W^i%W:=by
 rw[yZ,zbQ (by decide)];have:=zeK (c:=97) (ye W n x) 0 M0 i (by rw[zq];exact h);rw[CS]at this;rw[this,zdn hW n x i h]
theorem zoq{i:Nat}(h:i<n):yZ W n x y 98 i=y / W^i%W:=by
 rw[yZ];have:=zeK (c:=98) (ye W n y) 0 (yaF 97 0 (ye W n x) M0) i (by rw[zq];exact h);rw[CS]at this;rw[this,zdn hW n y i h]
theorem zgb:Dg W (yZ W n x y) 97 n:=λi hi=>by
 rw[zlQ n x y hW hi];exact⟨Ao _ (by lia),Ad _ hW⟩
theorem zkW:Dg W (yZ W n x y) 98 n:=λi hi=>by
 rw[zoq n x y hW hi];exact⟨Ao _ (by lia),Ad _ hW⟩
theorem zcL(h0:0<=x)(h1:x<W^n):yt W (yZ W n x y) 97 n=x:=by
 rw[zc3 hW n λi hi=>zlQ n x y hW hi,A3 h0 h1]
theorem zgs(h0:0<=y)(h1:y<W^n):yt W (yZ W n x y) 98 n=y:=by
 rw[zc3 hW n λi hi=>zoq n x y hW hi,A3 h0 h1]
end
theorem ziW{w:Nat}(hw:1<w)(M:Mem)(a b c:Cel)(ha:a.1≠115/\a.1≠116)(hb:b.1≠115/\b.1≠116)(hc:c.1≠115/\c.1≠116)(hz:M 122 0=0)
  (a0:0<=rd M a/\rd M a<2^w) (b0:0<=rd M b/\rd M b<2^w) (c0:0<=rd M c/\rd M c<2^w) :
  (∀d j,d≠115->d≠116->(d≠109 \/ j≠1)->(yu (2^w) (yU a b c) M 0).1 d j=M d j)/\(yu (2^w) (yU a b c) M 0).2=0/\(yu (2^w) (yU a b c) M 0).1 109 1=(tb w (rd M a)+tb w (rd M b))%2*((tb w (rd M a)+tb w (rd M c))%2):=by
 have hW:(0:Int)<2^w:=Af (by lia);have hW4:(4:Int)<=2^w:=by
  have h:(2:Nat)^2<=2^w:=Al (by lia) (by lia);have h2:=pw w;lia
 have x1:=zhW a0.1 a0.2 b0.1 b0.2;have x2:=zhW a0.1 a0.2 c0.1 c0.2;have t1:=znX (by lia:0<w) x1.1 x1.2 x2.1 x2.2;rw[zlc (by lia) a0.1 a0.2 b0.1 b0.2,zlc (by lia) a0.1 a0.2 c0.1 c0.2]at t1;let⟨a1,a2⟩:=a;let⟨b1,b2⟩:=b;let⟨c1,c2⟩:=c;erw[rd]at *;have m1:=Ao (tb w (M a1 a2)+tb w (M b1 b2)) (show (2:Int)≠0 by decide);have m2:=Ad (tb w (M a1 a2)+tb w (M b1 b2)) (show (0:Int)<2 by decide);have m3:=Ao (tb w (M a1 a2)+tb w (M c1 c2)) (show (2:Int)≠0 by decide);have m4:=Ad (tb w (M a1 a2)+tb w (M c1 c2)) (show (0:Int)<2 by decide);have hr:0<=(tb w (M a1 a2)+tb w (M b1 b2))%2*((tb w (M a1 a2)+tb w (M c1 c2))%2)/\(tb w (M a1 a2)+tb w (M b1 b2))%2*((tb w (M a1 a2)+tb w (M c1 c2))%2)<=1:=by
  rcases (by lia:(tb w (M a1 a2)+tb w (M b1 b2))%2=0 \/ (tb w (M a1 a2)+tb w (M b1 b2))%2=1)with e|e<;>rw[e]<;>lia
 generalize (tb w (M a1 a2)+tb w (M b1 b2))%2*((tb w (M a1 a2)+tb w (M c1 c2))%2)=v at *;have n1:¬(c1=116):=hc.2;have n2:¬(a1=116):=ha.2;erw[yU,yu,stepM,rd,wr,upd,cS,cT,cZ,n1,n2,Cg,false_and,if_false,and_self,if_true,hz,BJ];unfold tb at t1;rw[t1];refine⟨λd j h1 h2 h3=>?_,?_,?_⟩
 .simp only[h1,h2,false_and,if_false];rw[if_neg (by lia)]
 .exact BU (by lia) (by lia)
 .rw[GO];exact A3 (by lia) (by lia)
theorem zlL{X:Fl}{v:PV}{st:SO}(h:ybE [] X=.ok v []):ybE st X=.ok v st:=by
 cases X with
 |rt u s =>
  erw[ybE]at h ⊢
  by_cases c:nL u=AB
  .rw[if_pos c]at h ⊢;cases h;rfl
  .rw[if_neg c]at h;cases h
 |nx ρ s=>erw[ybE]at h ⊢;cases h;rfl
 |_=>cases h
theorem zcq{k f:Nat}{fn:IC.Fn}{args:List PV}{v:PV}(hT:T f=AA fn)(hp:fn.pure=AB)(hl:args.length=fn.np)(hn:nLs args=AB)(h:yc T (k+1) f args []=.ok v [])(st:SO):yc T (k+1) f args st=.ok v st:=by
 rw[zc hT hp hl hn]at h ⊢;exact zlL h
def ybs(W:Int):List Rw->Mem->Int->Prop
 | [],_,_=>True
 |r::rs,M,k=>((∀t x,r=.half t x->0<=rd M x/\rd M x<W/\0<=k/\k<2)/\∀a b x y,r=.times a b x y->(rd M x).natAbs<18446744073709551616)/\ybs W rs (stepM W M k r).1 (stepM W M k r).2
noncomputable def rnA:Css:=match yH.body with
 | .cons (.for _ _ b) _=>b
 |x=>x
noncomputable def rnB:Css:=match yH.body with
 | .cons _ (.cons (.for _ _ b) _)=>b
 |x=>x
theorem rnS:yH.body=.cons (.for (.n 2) (.seq (.var 1)) rnA) (.cons (.for (.n 2) (.seq (.var 1)) rnB) .nil):=rfl
theorem zks(r:Rw):nLs [yJ r]=true:=by cases r<;>rfl
section
variable {m l n:Nat}
theorem zdp(k:Nat){v:Option PV}(st:SO):∀(rs:List Rw),(∀r∈rs,yc T (k+1) zab [yJ r] []=.ok .non [])->∀p2,∃q2,ybj (yc T (k+1)) (.n 2) rnA (rs.map yJ) [AA (.loc m),v,p2] st=.nx [AA (.loc m),v,q2] st
 | [],h,p2=>⟨p2,by rw[A5,zU]⟩
 |r::rs,h,p2=>by
  let⟨q2,e⟩:=zdp k (v:=v) st rs (λq hq=>h q (AT _ hq)) (AA (yJ r));have e1:=zcq (f:=zab) (fn:=zap) rfl rfl rfl (zks r) (h r (by simp)) st;refine⟨q2,?_⟩;rw[AL,zK (ρ1:=[AA (.loc m),v,AA (yJ r)]) rfl];generalize yJ r=row at *;have hb:exs (yc T (k+1)) [AA (.loc m),v,AA row] st rnA=.nx [AA (.loc m),v,AA row] st:=by
   simp! [rnA,yH,e1]
  rw[hb];exact e
theorem zhF(k:Nat)(hn:n<=100)(hn1:1<=n){v:Option PV}:∀(rs:List Rw) (M:Mem) (mk:Int) (st:SO) (L:Nat) (p2:Option PV),MM st m l n M mk L->L+2*rs.length<999999->ybs (2^n) rs M mk ->
  ∃st' q2,MM st' m l n (yu (2^n) rs M mk).1 (yu (2^n) rs M mk).2 (L+2*rs.length)/\(∀q,q≠m->q≠l->st'[q]?=st[q]?)/\st'.length=st.length/\ybj (yc T (k+6)) (.n 2) rnB (rs.map yJ) [AA (.loc m),v,p2] st=.nx [AA (.loc m),v,q2] st'
 | [],M,mk,st,L,p2,h,hL,hh=>⟨st,p2,h,λ_ _ _=>rfl,rfl,by rw[A5,zU]⟩
 |r::rs,M,mk,st,L,p2,h,hL,hh=>by
  erw[AZ]at hL;let⟨s1,h1,o1,l1,e1⟩:=zoF k h (by lia) hn hn1 r hh.1.1 hh.1.2;let⟨s2,q2,h2,o2,l2,e2⟩:=zhF k hn hn1 (v:=v) rs _ _ s1 (L+2) (AA (yJ r)) h1 (by lia) hh.2;refine⟨s2,q2,?_,λq a b=>(o2 q a b).trans (o1 q a b),l2.trans l1,?_⟩
  .rw[yu,AZ,show L+2*(rs.length+1)=L+2+2*rs.length by lia];exact h2
  .have ih:=h.ins (AF "go_row");rw[AL,zK (ρ1:=[AA (.loc m),v,AA (yJ r)]) rfl];generalize yJ r=row at *;have hb:exs (yc T (k+6)) [AA (.loc m),v,AA row] st rnB=.nx [AA (.loc m),v,AA row] s1:=by
    simp! [rnB,yH,ih,e1,IC.ve37]
   rw[hb];exact e2
theorem zke(k:Nat)(hn:n<=100)(hn1:1<=n){rs:List Rw}{M:Mem}{mk:Int}{st:SO}{L:Nat}(h:MM st m l n M mk L)(hL:L+2*rs.length<999999)(hh:ybs (2^n) rs M mk)(hA:∀r∈rs,yc T (k+6) zab [yJ r] []=.ok .non []) :
  okM (yc T (k+7) zaR [.loc m,.tp AC (rs.map yJ)] st) st m l n (yu (2^n) rs M mk).1 (yu (2^n) rs M mk).2 (L+2*rs.length):=by
 have hT:T zaR=AA ⟨2,3,AC,yH.body⟩:=rfl;let⟨q2,e1⟩:=zdp (m:=m) (k+5) (v:=AA (.tp AC (rs.map yJ))) st rs hA AD;let⟨s2,q3,h2,o2,l2,e2⟩:=zhF k hn hn1 (v:=AA (.tp AC (rs.map yJ))) rs M mk st L q2 h hL hh;refine⟨s2,h2,o2,l2,?_⟩;rw[zp hT rfl rfl];show outI (exs (yc T (k+6)) [AA (.loc m),AA (.tp AC (rs.map yJ)),AD] st yH.body)=_;rw[rnS,xs_cons,x_for];generalize rs.map yJ=rows at *;simp! [e1,e2];rfl
theorem zis:([97,98,99,100,109].all λc=>(Cq 9).all λi=>isOk (yc T 8 za6 [.str ⟨#[c]⟩,.int (i:Nat)] []) (yS c (i:Nat)))=true:=by decide +kernel
theorem known(k:Nat){c i:Nat}(hc:c∈[97,98,99,100,109])(hi:i<9)(st:SO):yc T (8+k) za6 [.str ⟨#[c]⟩,.int (i:Int)] st=.ok (yS c i) st:=by
 have h:=Bg.1 zis c hc;have h:=Bg.1 h i (by simpa using hi);have h:=zav (zcw h) k;rw[show 8+k=7+k+1 by lia]at h ⊢;exact zcq (f:=za6) (fn:=zbd) rfl rfl rfl rfl h st
theorem yex(k:Nat){st:SO}{L:Nat}{w mk:Int}{M:Mem}(h:MM st m l w M mk L){c i:Nat}(hc:c∈[97,98,99,100,109])(hi:i<9):yc T (9+k) zZ [.loc m,.str ⟨#[c]⟩,.int (i:Int)] st=.ok (.int (M c i)) st:=by
 have hT:T zZ=AA zak:=rfl;have e1:=known k hc hi st;have e2:yc T (8+k) zw [.loc m,yS c i] st=.ok (.int (M c i)) st:=by
  rw[show 8+k=7+k+1 by lia];exact zcy (7+k) h (c,(i:Int))
 have ih:=h.ins (AF "held_in");rw[show 9+k=8+k+1 by lia,zp hT rfl rfl];generalize yS c i=q at *;simp! [zak,ih,e1,e2,zbD,IC.ve37]
theorem zfp(k:Nat)(v lo hi:Int)(h1:lo<=v)(h2:v<=hi)(st:SO):yc T (k+1) zaN [.int v,.int lo,.int hi] st=.ok (.bl AB) st:=by
 have hT:T zaN=AA zaw:=rfl;rw[zc hT rfl rfl rfl];have e1:ya1 (.int v) [.int]=AA (.bl AB):=rfl;have e2:ya1 (.int v) [.bool]=AA (.bl AC):=rfl;simp! [zaw,e1,e2,decide_eq_true h1,decide_eq_true h2];rfl
theorem yf6(k:Nat)(hn:n<=100){st:SO}{L:Nat}{mk:Int}{M:Mem}(h:MM st m l n M mk L)(hL:L<999999){c i:Nat}(hc:c∈[97,98,99,100,109])(hi:i<9){v:Int}(v0:0<=v)(v1:v<2^n) :
  okM (yc T (9+k) zbM [.loc m,.str ⟨#[c]⟩,.int (i:Int),.int v] st) st m l n (upd M c i v) mk (L+1):=by
 have hT:T zbM=AA zat:=rfl;have e1:=known k hc hi st;have e2:yc T (8+k) zdo [.int n] st=.ok (.int (2^n - 1)) st:=by rw[show 8+k=7+k+1 by lia];exact highest (7+k) n hn st
 have e3:yc T (8+k) zaN [.int v,.int 0,.int (2^n - 1)] st=.ok (.bl AB) st:=by rw[show 8+k=7+k+1 by lia];exact zfp (7+k) v 0 (2^n - 1) v0 (by lia) st
 let⟨s1,d1,⟨o,ho⟩,h1⟩:=h.sd hL (c,(i:Int)) v;refine⟨s1,h1,λq a b=>by rw[ho,AO (BM b)],by simp[ho],?_⟩;have d1:ybp st (.loc l) (yS c i) (.int v)=AA s1:=d1;rw[show 9+k=8+k+1 by lia,zp hT rfl rfl];generalize yS c i=q at *;simp! [zat,e1,h.fw,e2,e3,h.fd,zf9,d1,zam,IC.ve32];rfl
end
theorem yem{v:PV}:ybY sw v []=[(sw,v)]:=rfl
theorem yeR{a v:PV}:ybY sws v [(sw,a)]=[(sw,a),(sws,v)]:=by ac_rfl
theorem yeX{a b v:PV}:ybY smk v [(sw,a),(sws,b)]=[(sw,a),(sws,b),(smk,v)]:=by ac_rfl
theorem yeZ(k:Nat)(w:Int)(st:SO):yc T (k+1) zaf [.loc st.length,.int w] (st++[.ins cM []])=.ok .non (st++[mob w (st.length+1) 0]++[.dct AB []]):=by
 have hT:T zaf=AA zN:=rfl;have g0:(st++[Ob.ins cM []])[st.length]?=AA (.ins cM []):=by simp
 have s1:ybc cM (st++[Ob.ins cM []]) (.loc st.length) sw (.int w)=AA (st++[.ins cM [(sw,.int w)]]):=by
  erw[ybc,g0];rw[if_pos ⟨trivial,by simp⟩,yem];simp
 have g1:(st++[Ob.ins cM [(sw,.int w)]]++[Ob.dct AB []])[st.length]?=AA (.ins cM [(sw,.int w)]):=by simp
 have s2:ybc cM (st++[Ob.ins cM [(sw,.int w)]]++[Ob.dct AB []]) (.loc st.length) sws (.loc (st.length+1))=AA (st++[.ins cM [(sw,.int w),(sws,.loc (st.length+1))]]++[.dct AB []]):=by
  erw[ybc,g1];rw[if_pos ⟨trivial,by simp⟩,yeR];simp
 have g2:(st++[Ob.ins cM [(sw,.int w),(sws,.loc (st.length+1))]]++[Ob.dct AB []])[st.length]?=AA (.ins cM [(sw,.int w),(sws,.loc (st.length+1))]):=by simp
 have s3:ybc cM (st++[Ob.ins cM [(sw,.int w),(sws,.loc (st.length+1))]]++[Ob.dct AB []]) (.loc st.length) smk (.int 0)=AA (st++[mob w (st.length+1) 0]++[.dct AB []]):=by
  erw[ybc,g2];rw[if_pos ⟨trivial,by simp⟩,yeX];simp[mob]
 have hd:∀(ρ:IC.Env),ev (yc T k) ρ (st++[Ob.ins cM [(sw,.int w)]]) (.dict0 AB)=.ok (.loc (st.length+1)) (st++[Ob.ins cM [(sw,.int w)]]++[.dct AB []]):=λρ=>by
  erw[ev,Ac,D2]
 rw[zp hT rfl rfl];erw[zN,xs_cons,zfH,hd];have hlen:(st++[Ob.ins cM [(sw,.int w)]]).length=st.length+1:=by simp
 simp! [s1,zam,hlen,s2,s3];rfl
theorem zfy(W:Int)(hW:0<W)(x:Int):∀(n a:Nat),(yr n (a:Int) 1).map (λp=>match p with | .int j=>PV.int (x / W^j.toNat%W)|q=>q)=(ye W n (x / W^a)).map .int
 |0,a=>rfl
 |n+1,a=>by
  have h:=zfy W hW x n (a+1);rw[yr,AL,ye,AL]
  congr 1
  .rw[show ((a:Int)+1)=((a+1:Nat):Int)by lia,h,Ae,BO (Int.le_of_lt (Af hW))]
theorem zou(n:Nat)(hn:n<=1000):yE .shl (.int 1) (.int (n:Int))=AA (.int (2^n)):=by
 erw[yE,binI];rw[if_pos ⟨by lia,by lia,by decide⟩];simp
theorem zkO(a b:Nat)(ha:a<=1000):yE .mul (.int (a:Int)) (.int (b:Int))=AA (.int ((a*b:Nat):Int)):=by
 have h:yaI (a:Int) (b:Int)=true:=by
  erw[yaI,DL,decide_eq_true_eq];exact .inl (by simp;lia)
 erw[yE,binI,h,if_true];simp
theorem lowest(k:Nat)(x:Int)(w n:Nat)(hw:w<=16)(hn:n<=8)(st:SO):yc T (k+1) z4 [.int x,.int w,.int n] st=.ok (.tp AC ((ye (2^w) n x).map .int)) st:=by
 have hT:T z4=AA zal:=rfl;have e1:=zou w (by lia);have hr:=zb2 n (by lia);have hc:yal (yc T k) [AD,AA (.int (2^w - 1)),AA (.int x),AA (.int w)] (.n 0) (.cst (.bl AB)) (.bin .band (.bin .shr (.var 2) (.bin .mul (.var 3) (.var 0))) (.var 1)) (yr n 0 1) []=.ok ((ye (2^w) n x).map .int) []:=by
  have h:=zfy (2^w) (Af (by decide)) x n 0;rw[CT,DD]at h;rw[<- h];refine zaJ _ λp hp=>?_;obtain⟨j,hj,rfl⟩:∃j:Nat,j<n/\p=.int (j:Int):=by
   have:∀(n a:Nat) (p:PV),p∈yr n (a:Int) 1->∃j:Nat,a<=j/\j<a+n/\p=.int (j:Int):=by
    intro n
    induction n with
    |zero=>intro a p h;cases h
    |succ n ih =>
     intro a p h;rw[yr]at h;rcases AQ.1 h with rfl|h
     .exact⟨a,AS _,by lia,rfl⟩
     .let⟨j,h1,h2,h3⟩:=ih (a+1) p (by rw[show ((a+1:Nat):Int)=(a:Int)+1 by lia];exact h);exact⟨j,by lia,by lia,h3⟩
   let⟨j,_,h2,h3⟩:=this n 0 p hp;exact⟨j,by lia,h3⟩
  have m1:=zkO w j (by lia);have s1:yE .shr (.int x) (.int ((w*j:Nat):Int))=AA (.int (x / 2^(w*j))):=by
   erw[yE,binI];rw[if_pos (by lia),CK]
  have b1:=band (x / 2^(w*j)) (2^w - 1);rw[zfb (n:=w) (x / 2^(w*j))]at b1;simp! [yaP,m1,s1,b1];rw[CK,<- CU]
 rw[zc hT rfl rfl rfl];simp! [zal,e1,hr,hc];rw[zcA _ (by simp[zq];lia)];have ht:yaD .tuple [] [.lst ((ye (2^w) n x).map .int)]=AA (.tp AC ((ye (2^w) n x).map .int)):=rfl;simp! [ht];simp[ybE,nL,noLocs_ints]
theorem zbs{W:Int}(hW:0<W):∀(n:Nat) (x:Int),∀v∈ye W n x,0<=v/\v<W
 |0,x,v,h=>by cases h
 |n+1,x,v,h=>by
  rw[ye]at h;rcases AQ.1 h with rfl|h
  .exact⟨Ao _ (by lia),Ad _ hW⟩
  .exact zbs hW n _ v h
noncomputable def mwB:Css:=match yC.body with
 | .cons _ (.cons (.for _ _ b) _)=>b
 |x=>x
noncomputable def mwC:Css:=match mwB with
 | .cons (.for _ _ b) _=>b
 |x=>x
section
variable {m l n:Nat}
theorem zf1(k:Nat)(hn:n<=100){c:Nat}(hc:c∈[97,98,99,100,109]){p0 p1 p2 p3 p6:Option PV}:∀(ws:List Int) (i:Nat) (M:Mem) (st:SO) (L:Nat) (p7 p8:Option PV),(∀v∈ws,0<=v/\v<2^n)->i+ws.length<=9->MM st m l n M 0 L->L+ws.length<999999 ->
  ∃st' q7 q8,MM st' m l n (yaF c i ws M) 0 (L+ws.length)/\(∀q,q≠m->q≠l->st'[q]?=st[q]?)/\st'.length=st.length /\
   ybj (yc T (9+k)) (.t [7,8]) mwC (yG i (ws.map .int)) [p0,p1,p2,p3,AA (.loc m),AA (.str ⟨#[c]⟩),p6,p7,p8] st=.nx [p0,p1,p2,p3,AA (.loc m),AA (.str ⟨#[c]⟩),p6,q7,q8] st'
 | [],i,M,st,L,p7,p8,hv,hi,h,hL=>⟨st,p7,p8,h,λ_ _ _=>rfl,rfl,by rw[A5,yG,zU]⟩
 |v::ws,i,M,st,L,p7,p8,hv,hi,h,hL=>by
  erw[AZ]at hi hL;let⟨v0,v1⟩:=hv v (by simp);let⟨s1,h1,o1,l1,e1⟩:=yf6 k hn h (by lia) hc (i:=i) (by lia) v0 v1;let⟨s2,q7,q8,h2,o2,l2,e2⟩:=zf1 k hn hc (p0:=p0) (p1:=p1) (p2:=p2) (p3:=p3) (p6:=p6) ws (i+1) (upd M c i v) s1 (L+1) (AA (.int i)) (AA (.int v)) (λu hu=>hv u (AT _ hu)) (by lia) h1 (by lia);refine⟨s2,q7,q8,?_,λq a b=>(o2 q a b).trans (o1 q a b),l2.trans l1,?_⟩
  .rw[yaF,AZ,show L+(ws.length+1)=L+1+ws.length by lia];exact h2
  .have ih:=h.ins (AF "put");have bt:yO (.t [7,8]) (.tup [.int (i:Int),.int v]) [p0,p1,p2,p3,AA (.loc m),AA (.str ⟨#[c]⟩),p6,p7,p8]=AA [p0,p1,p2,p3,AA (.loc m),AA (.str ⟨#[c]⟩),p6,AA (.int i),AA (.int v)]:=rfl;rw[AL,yG,zK bt];have hb:exs (yc T (9+k)) [p0,p1,p2,p3,AA (.loc m),AA (.str ⟨#[c]⟩),p6,AA (.int i),AA (.int v)] st mwC=.nx [p0,p1,p2,p3,AA (.loc m),AA (.str ⟨#[c]⟩),p6,AA (.int i),AA (.int v)] s1:=by
    simp! [mwC,mwB,yC,ih,e1,IC.ve37]
   rw[hb];exact e2
end
theorem zfi(k:Nat)(w n:Nat)(hw:w<=16)(hn:n<=8)(x y:Int)(st:SO) :
  ∃st' m l,st.length<=m/\st.length<=l/\MM st' m l w (yZ (2^w) n x y) 0 (2*n)/\(∀q,q<st.length->st'[q]?=st[q]?)/\yc T (10+k) zaI [.int w,.int n,.int x,.int y] st=.ok (.loc m) st':=by
 have hT:T zaI=AA ⟨4,9,AC,yC.body⟩:=rfl;have e1:yc T (9+k) zaf [.loc st.length,.int w] (st++[.ins cM []])=.ok .non (st++[mob w (st.length+1) 0]++[.dct AB []]):=by rw[show 9+k=8+k+1 by lia];exact yeZ (8+k) w st
 obtain⟨s1,hs1⟩:∃s1,s1=st++[mob w (st.length+1) 0]++[.dct AB []]:=⟨_,rfl⟩;rw[<- hs1]at e1;have h1:MM s1 st.length (st.length+1) w M0 0 0:=by
  rw[hs1];exact⟨by simp,⟨[],by simp,λp hp=>(by cases hp),λc i=>rfl,by simp⟩,by lia⟩
 have eA:∀s,yc T (9+k) z4 [.int x,.int w,.int n] s=.ok (.tp AC ((ye (2^w) n x).map .int)) s:=λs=>by rw[show 9+k=8+k+1 by lia];exact lowest (8+k) x w n hw hn s
 have eB:∀s,yc T (9+k) z4 [.int y,.int w,.int n] s=.ok (.tp AC ((ye (2^w) n y).map .int)) s:=λs=>by rw[show 9+k=8+k+1 by lia];exact lowest (8+k) y w n hw hn s
 have lA:=zq (2^w) n x;have lB:=zq (2^w) n y;let⟨s2,q7,q8,h2,o2,l2,f2⟩:=zf1 k (by lia) (c:=97) (by simp) (p0:=AA (.int w)) (p1:=AA (.int n)) (p2:=AA (.int x)) (p3:=AA (.int y)) (p6:=AA (.int x)) (ye (2^w) n x) 0 M0 s1 0 AD AD (zbs (Af (by decide)) n x) (by lia) h1 (by lia);let⟨s3,r7,r8,h3,o3,l3,f3⟩:=zf1 k (by lia) (c:=98) (by simp) (p0:=AA (.int w)) (p1:=AA (.int n)) (p2:=AA (.int x)) (p3:=AA (.int y)) (p6:=AA (.int y)) (ye (2^w) n y) 0 _ s2 _ q7 q8 (zbs (Af (by decide)) n y) (by lia) h2 (by lia);refine⟨s3,st.length,st.length+1,AS _,by lia,?_,λq hq=>?_,?_⟩
 .rw[show 2*n=0+(ye (2^w) n x).length+(ye (2^w) n y).length by lia];exact h3
 .rw[o3 q (by lia) (by lia),o2 q (by lia) (by lia),hs1,B0,Ai hq]
 .have hb:yC.body=(match yC.body with
   | .cons a (.cons (.for t i _) r)=>.cons a (.cons (.for t i mwB) r)
   |x=>x):=rfl
  have hc:mwB=(match mwB with
   | .cons (.for t i _) r=>.cons (.for t i mwC) r
   |x=>x):=rfl
  have bt:∀(a b:PV) (p4 p5 p6 p7 p8:Option PV),yO (.t [5,6]) (.tp AC [a,b]) [AA (.int w),AA (.int n),AA (.int x),AA (.int y),p4,p5,p6,p7,p8]=AA [AA (.int w),AA (.int n),AA (.int x),AA (.int y),p4,AA a,AA b,p7,p8]:=λ_ _ _ _ _ _ _=>rfl;have cA:(AF "a")=⟨#[97]⟩:=by ac_rfl
  have cB:(AF "b")=⟨#[98]⟩:=by ac_rfl
  have g1:exs (yc T (9+k)) [AA (.int w),AA (.int n),AA (.int x),AA (.int y),AA (.loc st.length),AA (.str ⟨#[97]⟩),AA (.int x),AD,AD] s1 mwB=.nx [AA (.int w),AA (.int n),AA (.int x),AA (.int y),AA (.loc st.length),AA (.str ⟨#[97]⟩),AA (.int x),q7,q8] s2:=by
   rw[hc];simp! [mwB,yC,eA,f2]
  have g2:exs (yc T (9+k)) [AA (.int w),AA (.int n),AA (.int x),AA (.int y),AA (.loc st.length),AA (.str ⟨#[98]⟩),AA (.int y),q7,q8] s2 mwB=.nx [AA (.int w),AA (.int n),AA (.int x),AA (.int y),AA (.loc st.length),AA (.str ⟨#[98]⟩),AA (.int y),r7,r8] s3:=by
   rw[hc];simp! [mwB,yC,eB,f3]
  have ag:∀(ρ:IC.Env) (s:SO) (k:IC.Env->SO->Fl),yaK (.nx ρ s) k=k ρ s:=λ_ _ _=>rfl;rw[show 10+k=9+k+1 by lia,zp hT rfl rfl];dsimp only;rw[hb];simp! [yC,e1,ybJ,newV,hs1.symm,cA,cB,zK (bt _ _ _ _ _ _ _),zU,g1,g2,ag,zbD,IC.ve33]
noncomputable def getM(M:Mem)(c:Nat):Nat->Nat->List Int
 |_,0=>[]
 |a,n+1=>M c a::getM M c (a+1) n
theorem zdr(k:Nat){m l L:Nat}{w mk:Int}{M:Mem}{st:SO}(h:MM st m l w M mk L){c:Nat}(hc:c∈[97,98,99,100,109])(n:Nat)(hn:n<=8) :
  yc T (10+k) zay [.loc m,.str ⟨#[c]⟩,.int n] st=.ok (.tp AC ((getM M c 0 n).map .int)) st:=by
 have hT:T zay=AA ⟨3,3,AC,yat.body⟩:=rfl;have hr:=zb2 n (by lia);have ih:=h.ins (AF "word");have hl:∀(n a:Nat),(getM M c a n).length=n:=by
  intro n
  induction n with
  |zero=>intro a;rfl
  |succ n ihn=>intro a;simp[getM,ihn]
 have hcm:∀(n a:Nat),a+n<=9->yal (yc T (9+k)) [AD,AA (.str ⟨#[c]⟩),AA (.loc m)] (.n 0) (.cst (.bl AB)) (.mcl cM zZ (AF "word") (.var 2) (.cons (.var 1) (.cons (.var 0) .nil))) (yr n (a:Int) 1) st=.ok ((getM M c a n).map .int) st:=by
  intro n
  induction n with
  |zero=>intro a _;rw[yr,zaL];rfl
  |succ n ihn =>
   intro a ha;have e:=yex k h hc (i:=a) (by lia);have one:yaP (yc T (9+k)) [AD,AA (.str ⟨#[c]⟩),AA (.loc m)] (.n 0) (.cst (.bl AB)) (.mcl cM zZ (AF "word") (.var 2) (.cons (.var 1) (.cons (.var 0) .nil))) (.int (a:Int)) st=.ok (AA (.int (M c a))) st:=by
    simp! [yaP,ih,e,IC.ve37]
   have q:=ihn (a+1) (by lia);rw[yr,zL,one,bd_ok,show ((a:Int)+1)=((a+1:Nat):Int)by lia,q,bd_ok];rfl
 have hcm:=hcm n 0 (by lia);have ht:yaD .tuple st [.lst ((getM M c 0 n).map .int)]=AA (.tp AC ((getM M c 0 n).map .int)):=rfl;rw[show 10+k=9+k+1 by lia,zp hT rfl rfl];have hcm:yal (yc T (9+k)) [AD,AA (.str ⟨#[c]⟩),AA (.loc m)] (.n 0) (.cst (.bl AB)) (.mcl cM zZ (AF "word") (.var 2) (.cons (.var 1) (.cons (.var 0) .nil))) (yr n 0 1) st=_:=hcm;simp! [yat,hr,hcm];rw[zcA _ (by simp[hl];lia)];simp! [ht,zbD]
theorem zgk(k:Nat)(x:Int)(w n:Nat)(hw:w<=16)(hn:n<=8)(x0:0<=x)(x1:x<2^(w*n))(st:SO):yc T (k+2) zbo [.int x,.int w,.int n] st=.ok (.tp AC ((ye (2^w) n x).map .int)) st:=by
 have hT:T zbo=AA zbl:=rfl;have hwn:w*n<=1000:=by
  have:w*n<=16*8:=BH hw hn;lia
 have m1:=zkO w n (by lia);have s1:=zou (w*n) hwn;have e1:∀s,yc T (k+1) z4 [.int x,.int w,.int n] s=_:=λs=>lowest k x w n hw hn s;have c1:decide (x<0)=false:=decide_eq_false (by lia);have c2:decide ((2:Int)^(w*n)<=x)=false:=decide_eq_false (by lia);rw[zc hT rfl rfl rfl];generalize hL:ye (2^w) n x=ws at *;simp! [zbl,c1,m1,s1,c2,e1];simp[ybE,nL,noLocs_ints]
structure ycy(pr:Prop)(deed:PV)(w n na:Nat)(rs:List Rw):Prop where
 nl:nL deed=AB
 isd:yc T 20 zb6 [deed] []=.ok (.bl AB) []
 isp:pr->yc T 20 zR [deed] []=.ok (.bl AB) []
 quo:∀st,(idxV st deed (.int 0)).bind (λv=>yF .isin v zaj)=AA (.bl AC)
 rows:yc T 20 zaZ [deed,.int w,.int n] []=.ok (.tp AC (rs.map yJ)) []
 ref:∀r∈rs,yc T 20 zab [yJ r] []=.ok .non []
 ans:yc T 20 zC [deed,.int n] []=.ok (.int na) []
 rest:yc T 20 zba [deed,.int n] []=.ok (.int 0) []
theorem zfS(k:Nat){pr:Prop}{deed:PV}{w n na:Nat}{rs:List Rw}(D:ycy pr deed w n na rs)(hw:w<=16)(hn:n<=8){x y:Int}(x0:0<=x)(x1:x<2^(w*n))(y0:0<=y)(y1:y<2^(w*n))(hp:y≠0->pr)(st:SO) :
  yc T (21+k) zb0 [deed,.int w,.int n,.int x,.int y] st=.ok .non st:=by
 have hT:T zb0=AA zag:=rfl;have hnl:nLs [deed,.int w,.int n,.int x,.int y]=true:=by simp[nLs,D.nl,nL]
 have e1:=zav D.isd k;have e3:∀s,yc T (20+k) zbo [.int x,.int w,.int n] s=.ok (.tp AC ((ye (2^w) n x).map .int)) s:=λs=>by rw[show 20+k=18+k+2 by lia];exact zgk (18+k) x w n hw hn x0 x1 s
 have e4:∀s,yc T (20+k) zbo [.int y,.int w,.int n] s=.ok (.tp AC ((ye (2^w) n y).map .int)) s:=λs=>by rw[show 20+k=18+k+2 by lia];exact zgk (18+k) y w n hw hn y0 y1 s
 rw[show 21+k=20+k+1 by lia,zc hT rfl rfl hnl];have q:=D.quo []
 cases hi:idxV [] deed (.int 0)with
 |none=>rw[hi]at q;cases q
 |some v =>
  rw[hi,B7]at q;generalize ye (2^w) n x=xs at *;generalize ye (2^w) n y=ys at *
  cases hy:(y == 0)with
  |true=>simp! [zag,e1,e3,e4,hy,hi,q];rfl
  |false =>
   have e2:=zav (D.isp (hp (by intro h;rw[h]at hy;exact absurd hy (by decide)))) k;simp! [zag,e1,e2,e3,e4,hy];rfl
theorem ran(k:Nat){pr:Prop}{deed:PV}{w n na:Nat}{rs:List Rw}(D:ycy pr deed w n na rs)(hw:w<=16)(hw1:1<=w)(hn:n<=4)(hna:na<=8)(hrs:rs.length<5000){x y:Int}(x0:0<=x)(x1:x<2^(w*n))(y0:0<=y)(y1:y<2^(w*n))(hp:y≠0->pr)(hh:ybs (2^w) rs (yZ (2^w) n x y) 0)(st:SO) :
  yc T (22+k) zom [deed,.int w,.int n,.int x,.int y] st=.ok (.tp AC [.tp AC ((getM (yu (2^w) rs (yZ (2^w) n x y) 0).1 99 0 na).map .int),.tp AC [],.tp AC ((getM (yu (2^w) rs (yZ (2^w) n x y) 0).1 109 0 4).map .int)]) st:=by
 have hT:T zom=AA ⟨5,7,AB,yco.body⟩:=rfl;have hnl:nLs [deed,.int w,.int n,.int x,.int y]=true:=by simp[nLs,D.nl,nL]
 have e1:=zfS k D hw (by lia) x0 x1 y0 y1 hp [];let⟨s2,m,l,_,_,h2,_,e2⟩:=zfi (11+k) w n hw (by lia) x y [];have e2:yc T (21+k) zaI [.int w,.int n,.int x,.int y] []=.ok (.loc m) s2:=by rw[show 21+k=10+(11+k)by lia];exact e2
 have nl3:nLs [deed,.int w,.int n]=true:=by simp[nLs,D.nl,nL]
 have nl2:nLs [deed,.int n]=true:=by simp[nLs,D.nl,nL]
 have up:∀{f:Nat} {fn:IC.Fn} {args:List PV} {v:PV},T f=AA fn->fn.pure=AB->args.length=fn.np->nLs args=AB->yc T 20 f args []=.ok v []->∀s,yc T (21+k) f args s=.ok v s:=λ{f fn args v} a b c d e s=>by
  have:=zav e (1+k);rw[show 20+(1+k)=20+k+1 by lia]at this;rw[show 21+k=20+k+1 by lia];exact zcq a b c d this s
 have e3:=up (f:=zaZ) (fn:=zaC) rfl rfl rfl nl3 D.rows s2;let⟨s4,h4,_,_,e4⟩:=zke (14+k) (n:=w) (by lia) hw1 h2 (rs:=rs) (by lia) hh (λr hr=>by
  have:=zav (D.ref r hr) k;rw[show 20+k=14+k+6 by lia]at this;exact this)
 have e4:yc T (21+k) zaR [.loc m,.tp AC (rs.map yJ)] s2=.ok .non s4:=by rw[show 21+k=14+k+7 by lia];exact e4
 have e5:=up (f:=zC) (fn:=zB) rfl rfl rfl nl2 D.ans s4;have e6:=up (f:=zba) (fn:=zan) rfl rfl rfl nl2 D.rest s4;have n1:yc T (21+k) zay [.loc m,.str ⟨#[99]⟩,.int na] s4=.ok (.tp AC ((getM (yu (2^w) rs (yZ (2^w) n x y) 0).1 99 0 na).map .int)) s4:=by
  have:=zdr (11+k) h4 (c:=99) (by simp) na hna;rw[show 10+(11+k)=21+k by lia]at this;exact this
 have n2:yc T (21+k) zay [.loc m,.str ⟨#[100]⟩,.int 0] s4=.ok (.tp AC []) s4:=by
  have:=zdr (11+k) h4 (c:=100) (by simp) 0 (by lia);rw[show 10+(11+k)=21+k by lia]at this;exact this
 have n3:yc T (21+k) zay [.loc m,.str ⟨#[109]⟩,.int 4] s4=.ok (.tp AC ((getM (yu (2^w) rs (yZ (2^w) n x y) 0).1 109 0 4).map .int)) s4:=by
  have:=zdr (11+k) h4 (c:=109) (by simp) 4 (by lia);rw[show 10+(11+k)=21+k by lia]at this;exact this
 have ih:=h2.ins (AF "run");have cC:(AF "c")=⟨#[99]⟩:=by ac_rfl
 have cD:(AF "d")=⟨#[100]⟩:=by ac_rfl
 have cE:(AF "m")=⟨#[109]⟩:=by ac_rfl
 have vM:zcK=.int 4:=rfl;rw[show 22+k=21+k+1 by lia,zc hT rfl rfl hnl];dsimp only;generalize rs.map yJ=rows at *;generalize getM (yu (2^w) rs (yZ (2^w) n x y) 0).1 99 0 na=A at *;generalize getM (yu (2^w) rs (yZ (2^w) n x y) 0).1 109 0 4=B at *;simp! [yco,e1,e2,ih,e3,e4,e5,e6,cC,cD,cE,vM,n1,n2,n3,IC.ve37];simp[ybE,nL,nLs,noLocs_ints]
theorem letters:((Cq 26).all λj=>isOk (yc T 2 zbH [.str (chS (97+j))] []) (.bl AB))=true:=by decide +kernel
theorem zgR(k:Nat){c:Nat}(h1:97<=c)(h2:c<=122)(s:SO):yc T (k+2) zbH [.str (chS c)] s=.ok (.bl AB) s:=by
 have h:=Bg.1 letters (c - 97) (by simp;lia);rw[show 97+(c - 97)=c by lia]at h;have h:=zav (zcw h) k;rw[show 2+k=k+1+1 by lia]at h;exact zcq (f:=zbH) (fn:=zbJ) rfl rfl rfl rfl h s
theorem zeN(k:Nat){i a b:Int}(h1:a<=i)(h2:i<=b)(s:SO):yc T (k+1) zaN [.int i,.int a,.int b] s=.ok (.bl AB) s:=by
 have hT:T zaN=AA zaw:=rfl;have e1:ya1 (.int i) [.int]=AA (.bl AB):=rfl;have e2:ya1 (.int i) [.bool]=AA (.bl AC):=rfl;have c1:decide (a<=i)=true:=decide_eq_true h1;have c2:decide (i<=b)=true:=decide_eq_true h2;rw[zc hT rfl rfl rfl];simp! [zaw,e1,e2,c1,c2,IC.ve9];rfl
theorem zjh(k:Nat){x:Cel}(h1:97<=x.1)(h2:x.1<=122)(h3:0<=x.2)(h4:x.2<=99)(s:SO):yc T (k+4) zfa [yx x] s=.ok (.bl AB) s:=by
 have hT:T zfa=AA zb7:=rfl;have hT2:T zb5=AA zau:=rfl;have el:∀s,yc T (k+3) zb5 [yx x] s=.ok (.bl AB) s:=λs=>by
  have e:=λs=>zgR k h1 h2 s;rw[zc hT2 rfl rfl rfl];have e1:ya1 (yx x) [.tuple]=AA (.bl AB):=rfl;have e2:∀st,yaD .len st [yx x]=AA (.int 2):=λ_=>rfl;have e3:∀st,idxV st (yx x) (.int 0)=AA (.str (chS x.1)):=λ_=>rfl;generalize yx x=v at *;simp! [zau,e1,e2,e3,e];rfl
 have ew:=λs=>zeN (k+2) h3 h4 s;have e3:∀st,idxV st (yx x) (.int 1)=AA (.int x.2):=λ_=>rfl;rw[zc hT rfl rfl rfl];generalize yx x=v at *;simp! [zb7,el,e3,ew];rfl
noncomputable abbrev kC:PV:=.str "cell"
noncomputable abbrev kF:PV:=.str "figure"
theorem zmW(k:Nat){x:Cel}(h1:97<=x.1)(h2:x.1<=122)(h3:0<=x.2)(h4:x.2<=99)(s:SO):yc T (k+5) zA [kC,yx x,.bl AC] s=.ok (.bl AB) s:=by
 have hT:T zA=AA zad:=rfl;have e:=λs=>zjh k h1 h2 h3 h4 s;have c:yF .eq kC kF=AA (.bl AC):=by ac_rfl
 have hnl:nLs [kC,yx x,.bl AC]=true:=rfl;rw[zc hT rfl rfl hnl];generalize yx x=v at *;simp! [zad,c,e];rfl
theorem zk2(k:Nat){d:Int}(h1:0<=d)(h2:d<=1)(s:SO):yc T (k+5) zA [kF,.int d,.bl AC] s=.ok (.bl AB) s:=by
 have hT:T zA=AA zad:=rfl;have e:=λs=>zeN (k+3) h1 h2 s;have c:yF .eq kF kF=AA (.bl AB):=by ac_rfl
 rw[zc hT rfl rfl rfl];simp! [zad,c,e];rfl
noncomputable def hfB:Css:=match yK.body with
 | .cons _ (.cons (.for _ _ b) _)=>b
 |x=>x
theorem ziz(k:Nat){p0 p1:PV}(hp1:p1=.bl AC){st:SO}:∀(l:List (PV×PV)) (p2 p3:Option PV),(∀x∈l,∀s,yc T k zA [x.1,x.2,.bl AC] s=.ok (.bl AB) s) ->
  ∃q2 q3,ybj (yc T k) (.t [2,3]) hfB (l.map λx=>.tp AC [x.1,x.2]) [AA p0,AA p1,p2,p3] st=.nx [AA p0,AA p1,q2,q3] st
 | [],p2,p3,_=>⟨p2,p3,zU⟩
 | (a,b)::l,p2,p3,h=>by
  subst hp1;let⟨q2,q3,e⟩:=ziz k (p0:=p0) rfl (st:=st) l (AA a) (AA b) (λx hx=>h x (by simp[hx]));refine⟨q2,q3,?_⟩;have e1:=h (a,b) (by simp) st;have one:exs (yc T k) [AA p0,AA (.bl AC),AA a,AA b] st hfB=.nx [AA p0,AA (.bl AC),AA a,AA b] st:=by
   simp only at e1;simp! [hfB,yK,e1]
  rw[AL,zK (ρ1:=[AA p0,AA (.bl AC),AA a,AA b]) rfl,one];exact e
theorem ziY(k:Nat){nm:AR}{ops:List PV}(ho:nLs ops=AB)(hl:0<(.str nm::ops:List PV).length)(hd:ycr zah (.str nm)=AA (.bl AB))(s:SO):yc T (k+1) zcp [.tp AC (.str nm::ops)] s=.ok (.bl AB) s:=by
 have hT:T zcp=AA zbi:=rfl;have hnl:nLs [.tp AC (.str nm::ops)]=true:=by simp[nLs,nL,ho]
 have e1:ya1 (.tp AC (.str nm::ops)) [.tuple]=AA (.bl AB):=rfl;have e2:∀st,yaD .len st [.tp AC (.str nm::ops)]=AA (.int ((.str nm::ops:List PV).length:Nat)):=λ_=>rfl;have e3:∀st,idxV st (.tp AC (.str nm::ops)) (.int 0)=AA (.str nm):=λ_=>ix0;have e4:ya1 (.str nm) [.str]=AA (.bl AB):=rfl;have c:decide (((.str nm::ops:List PV).length:Int) > 0)=true:=decide_eq_true (by lia);rw[zc hT rfl rfl hnl];generalize (PV.str nm::ops).length=L at *;generalize PV.tp AC (.str nm::ops)=v at *;simp! [zbi,e1,e2,e3,e4,c,hd,IC.ve29];rfl
theorem zgD:∀l:List (PV×PV),yaY (l.map (·.1)) (l.map (·.2))=l.map λx=>.tp AC [x.1,x.2]
 | []=>rfl
 | (a,b)::l=>by erw[AL,yaY,zgD l,PV.tup]
noncomputable def hfE:Ce:=match yK.body with
 | .cons _ (.cons _ (.cons (.ret e) _))=>e
 |_=>.nope
theorem ziX(k:Nat){nm:AR}(l:List (PV×PV))(hd:ycr zah (.str nm)=AA (.bl AB))(hr:ycH zah (.str nm)=AA (.tp AB (l.map (·.1))))(ho:∀x∈l,∀s,yc T (k+1) zA [x.1,x.2,.bl AC] s=.ok (.bl AB) s)(hnl:nLs (l.map (·.2))=AB)
  (ht:∀q2 q3 st,ev (yc T (k+1)) [AA (.tp AC (.str nm::l.map (·.2))),AA (.bl AC),q2,q3] st hfE=.ok (.bl AB) st) (s:SO):yc T (k+2) zct [.tp AC (.str nm::l.map (·.2)),.bl AC] s=.ok (.bl AB) s:=by
 have hT:T zct=AA yK:=rfl;have hn2:nLs [.tp AC (.str nm::l.map (·.2)),.bl AC]=true:=by simp[nLs,nL,hnl]
 have e0:∀st,yc T (k+1) zcp [.tp AC (.str nm::l.map (·.2))] st=.ok (.bl AB) st:=λst=>ziY k hnl (by simp) hd st;have e1:∀st,yaD .len st [.tp AC (.str nm::l.map (·.2))]=AA (.int ((l.length+1:Nat):Int)):=λst=>by
  show AA (PV.int (((PV.str nm::l.map (·.2)).length:Nat):Int))=_;simp
 have e2:∀st,idxV st (.tp AC (.str nm::l.map (·.2))) (.int 0)=AA (.str nm):=λ_=>ix0;have e3:∀st,yaD .len st [.tp AB (l.map (·.1))]=AA (.int (l.length:Nat)):=λst=>by
  show AA (PV.int (((l.map (·.1)).length:Nat):Int))=_;simp
 have c1:((((l.length+1:Nat):Int) == (l.length:Int)+1):Bool)=true:=by simp
 have o1:yb8 (.int 1)=AA (AA 1):=rfl;have e5:ycJ (.tp AC (.str nm::l.map (·.2))) (AA 1) .non=AA (.tp AC (l.map (·.2))):=by
  have hc:ybw (l.length+1) 1=1:=by simp[ybw]
  erw[ycJ,yb8,ycB,cut,ycU,yc8,AZ,Ax,hc,List.drop_succ_cons,Gr]
  first
  | (rw[DV (by simp)];done)
  | (simp;done)
  | (simp[DV])
 have e6:ydQ (.tp AB (l.map (·.1))) (.tp AC (l.map (·.2)))=AA (l.map λx=>.tp AC [x.1,x.2]):=by
  simp[ydQ,zgD]
 let⟨q2,q3,e7⟩:=ziz (k+1) (p0:=.tp AC (.str nm::l.map (·.2))) (p1:=.bl AC) rfl (st:=[]) l AD AD ho
 have hb:yK.body=(match yK.body with
  | .cons a (.cons (.for t i _) (.cons _ r))=>.cons a (.cons (.for t i hfB) (.cons (.ret hfE) r))
  |x=>x):=rfl
 rw[zc hT rfl rfl hn2];rw[hb];generalize hfE=E at *;generalize hv:PV.tp AC (.str nm::l.map (·.2))=v at *;generalize hz:(l.map λx=>PV.tp AC [x.1,x.2])=zs at *;generalize PV.tp AB (l.map (·.1))=ks at *;simp! [yK,e0,e1,e2,hr,e3,c1,e5,e6,e7,ht,o1,onP];rfl
def yN(x:Cel):Prop:=97<=x.1/\x.1<=122/\0<=x.2/\x.2<=99
def yaz:Rw->Prop
 | .mark d=>0<=d/\d<=1
 | .ask x=>yN x
 | .set t d=>yN t/\0<=d/\d<=1
 | .move t x | .bare t x | .twice t x | .half t x=>yN t/\yN x
 | .sum t x y | .less t x y | .both t x y | .any t x y | .odd t x y=>yN t/\yN x/\yN y
 | .times a b x y=>yN a/\yN b/\yN x/\yN y/\yF .ne (yx a) (yx b)=AA (.bl AB)
theorem zfh{r:PV}{nm:AR}(l:List (PV×PV))(hr:r=.tp AC (.str nm::l.map (·.2)))(hd:ycr zah (.str nm)=AA (.bl AB))(hx:ycH zah (.str nm)=AA (.tp AB (l.map (·.1))))(ho:∀x∈l,∀k s,yc T (k+5) zA [x.1,x.2,.bl AC] s=.ok (.bl AB) s)(hnl:nLs (l.map (·.2))=AB)
  (ht:∀k q2 q3 st,ev (yc T k) [AA r,AA (.bl AC),q2,q3] st hfE=.ok (.bl AB) st):ybC r:=λk s=>by
 have hT:T zbj=AA zc4:=rfl;have e:∀s,yc T (9+k) zct [r,.bl AC] s=.ok (.bl AB) s:=λs=>by
  subst hr;rw[show 9+k=7+k+2 by lia];exact ziX (7+k) l hd hx (λx hx s=>by rw[show 7+k+1=3+k+5 by lia];exact ho x hx (3+k) s) hnl (ht _) s
 have hn2:nLs [r]=true:=by subst hr;simp[nLs,nL,hnl]
 rw[show 10+k=9+k+1 by lia,zc hT rfl rfl hn2];simp! [zc4,e];rfl
theorem zb8{r:PV}{nm:AR}(l:List (PV×PV))(hr:r=.tp AC (.str nm::l.map (·.2)))(hd:ycr zah (.str nm)=AA (.bl AB))(hx:ycH zah (.str nm)=AA (.tp AB (l.map (·.1))))(ho:∀x∈l,∀k s,yc T (k+5) zA [x.1,x.2,.bl AC] s=.ok (.bl AB) s)(hnl:nLs (l.map (·.2))=AB)
  (ht:yF .ne (.str nm) (.str "times")=AA (.bl AB)):ybC r:=zfh l hr hd hx ho hnl λk q2 q3 st=>by
 subst hr;have e2:∀st,idxV st (.tp AC (.str nm::l.map (·.2))) (.int 0)=AA (.str nm):=λ_=>ix0;simp! [hfE,yK,e2,ht]
theorem oC{x:Cel}(h:yN x)(k:Nat)(s:SO):yc T (k+5) zA [kC,yx x,.bl AC] s=.ok (.bl AB) s:=zmW k h.1 h.2.1 h.2.2.1 h.2.2.2 s
theorem ygm{nm:AR}{x:Cel}(h:yN x)(hd:ycr zah (.str nm)=AA (.bl AB))(hx:ycH zah (.str nm)=AA (.tp AB [kC]))(ht:yF .ne (.str nm) (.str "times")=AA (.bl AB)):ybC (.tp AC [.str nm,yx x]) :=
 zb8 [(kC,yx x)] rfl hd hx (λa ha=>by erw[AQ,A1,or_false]at ha;subst ha;exact oC h) rfl ht
theorem row2{nm:AR}{t x:Cel}(h0:yN t)(h:yN x)(hd:ycr zah (.str nm)=AA (.bl AB))(hx:ycH zah (.str nm)=AA (.tp AB [kC,kC]))(ht:yF .ne (.str nm) (.str "times")=AA (.bl AB)):ybC (.tp AC [.str nm,yx t,yx x]) :=
 zb8 [(kC,yx t),(kC,yx x)] rfl hd hx (λa ha=>by erw[AQ,A1,or_false]at ha;rcases ha with rfl|rfl;exact oC h0;exact oC h) rfl ht
theorem ydB{nm:AR}{t x y:Cel}(h0:yN t)(h:yN x)(h2:yN y)(hd:ycr zah (.str nm)=AA (.bl AB))(hx:ycH zah (.str nm)=AA (.tp AB [kC,kC,kC]))(ht:yF .ne (.str nm) (.str "times")=AA (.bl AB)):ybC (.tp AC [.str nm,yx t,yx x,yx y]) :=
 zb8 [(kC,yx t),(kC,yx x),(kC,yx y)] rfl hd hx (λa ha=>by erw[AQ,A1,or_false]at ha;rcases ha with rfl|rfl|rfl;exact oC h0;exact oC h;exact oC h2) rfl ht
theorem zgc:∀r,yaz r->ybC (yJ r)
 | .mark d,h=>zb8 [(kF,.int d)] rfl (by ac_rfl) (by ac_rfl) (λa ha=>by erw[AQ,A1,or_false]at ha;subst ha;exact λk s=>zk2 k h.1 h.2 s) rfl (by ac_rfl)
 | .ask x,h=>ygm h (by ac_rfl) (by ac_rfl) (by ac_rfl)
 | .set t d,h=>zb8 [(kC,yx t),(kF,.int d)] rfl (by ac_rfl) (by ac_rfl) (λa ha=>by erw[AQ,A1,or_false]at ha;rcases ha with rfl|rfl;exact oC h.1;exact λk s=>zk2 k h.2.1 h.2.2 s) rfl (by ac_rfl)
 | .move t x,h=>row2 h.1 h.2 (by ac_rfl) (by ac_rfl) (by ac_rfl)
 | .bare t x,h=>row2 h.1 h.2 (by ac_rfl) (by ac_rfl) (by ac_rfl)
 | .twice t x,h=>row2 h.1 h.2 (by ac_rfl) (by ac_rfl) (by ac_rfl)
 | .half t x,h=>row2 h.1 h.2 (by ac_rfl) (by ac_rfl) (by ac_rfl)
 | .sum t x y,h=>ydB h.1 h.2.1 h.2.2 (by ac_rfl) (by ac_rfl) (by ac_rfl)
 | .less t x y,h=>ydB h.1 h.2.1 h.2.2 (by ac_rfl) (by ac_rfl) (by ac_rfl)
 | .both t x y,h=>ydB h.1 h.2.1 h.2.2 (by ac_rfl) (by ac_rfl) (by ac_rfl)
 | .any t x y,h=>ydB h.1 h.2.1 h.2.2 (by ac_rfl) (by ac_rfl) (by ac_rfl)
 | .odd t x y,h=>ydB h.1 h.2.1 h.2.2 (by ac_rfl) (by ac_rfl) (by ac_rfl)
 | .times a b x y,h=>zfh [(kC,yx a),(kC,yx b),(kC,yx x),(kC,yx y)] rfl (by ac_rfl) (by ac_rfl) (λz hz=>by erw[AQ,A1,or_false]at hz;rcases hz with rfl|rfl|rfl|rfl;exact oC h.1;exact oC h.2.1;exact oC h.2.2.1;exact oC h.2.2.2.1) rfl λk q2 q3 st=>by
  have q:yF .ne (.str "times") (.str "times")=AA (.bl AC):=by ac_rfl
  have h:=h.2.2.2.2;erw[yJ];generalize yx a=ca at *;generalize yx b=cb at *;simp! [hfE,yK,ix0,ix1,ix2,q,h]
theorem zlX{v:PV}(hn:nL v=AB)(h:ybC v)(k:Nat)(s:SO):yc T (11+k) zab [v] s=.ok .non s:=by
 have hT:T zab=AA zap:=rfl;have e:=λs=>h k s;rw[show 11+k=10+k+1 by lia,zc hT rfl rfl (by simp[nLs,hn])];simp! [zap,e];rfl
def Good(w:Nat)(M:Mem)(k:Int):Prop:=(∀c i,0<=M c i/\M c i<2^w)/\0<=k/\k<=1
noncomputable def okD:Rw->Prop
 | .mark d=>0<=d/\d<=1
 | .set _ d=>0<=d/\d<=1
 |_=>True
theorem z8{w:Nat}{M:Mem}(h:∀c i,0<=M c i/\M c i<2^w)(t:Cel){v:Int}(v0:0<=v)(v1:v<2^w):∀c i,0<=wr M t v c i/\wr M t v c i<2^w:=by
 intro c i;unfold wr upd;split
 .exact⟨v0,v1⟩
 .exact h c i
theorem ze6{w:Nat}(hw:1<=w){M:Mem}{k:Int}(h:Good w M k){r:Rw}(hd:okD r):Good w (stepM (2^w) M k r).1 (stepM (2^w) M k r).2:=by
 let⟨g,k0,k1⟩:=h;have hW2:(2:Int)<=2^w:=by
  have h:(2:Nat)^1<=2^w:=Al (by lia) hw;have h2:=pw w;lia
 have hW0:(2:Int)^w≠0:=by lia
 have hWp:(0:Int)<2^w:=by lia
 have md:∀z:Int,0<=z%2^w/\z%2^w<2^w:=λz=>⟨Ao _ hW0,Ad _ hWp⟩;have dv:∀z:Int,0<=z->z<2*2^w->0<=z / 2^w/\z / 2^w<=1:=λz z0 z1=>⟨Bq z0 (by lia),by
  have:=BY hWp (a:=z) (b:=2) (by lia);lia⟩
 cases r with
 |mark d=>exact⟨g,hd⟩
 |ask x=>exact⟨g,zca _⟩
 |set t d=>exact⟨z8 g t hd.1 (by have:=hd.2;lia),k0,k1⟩
 |move t x=>exact⟨z8 g t (g _ _).1 (g _ _).2,k0,k1⟩
 |bare t x =>
  have:=g x.1 x.2;exact⟨z8 g t (by erw[rd];lia) (by erw[rd];lia),k0,k1⟩
 |twice t x =>
  have:=g x.1 x.2;exact⟨z8 g t (md _).1 (md _).2,dv _ (by erw[rd];lia) (by erw[rd];lia)⟩
 |half t x =>
  have:=g x.1 x.2;have hH:(2:Int)^w=2*(2^w / 2):=by
   obtain⟨v,rfl⟩:∃v,w=v+1:=⟨w - 1,by lia⟩;rw[Ae];lia
  have hk:k*(2^w / 2)=0 \/ k*((2:Int)^w / 2)=2^w / 2:=by
   rcases (by lia:k=0 \/ k=1)with rfl|rfl
   .left;lia
   .right;lia
  refine⟨z8 g t ?_ ?_,?_,?_⟩
  .simp only[rd];lia
  .simp only[rd];lia
  .simp only[stepM,rd];lia
  .simp only[stepM,rd];lia
 |sum t x y =>
  have:=g x.1 x.2;have:=g y.1 y.2;exact⟨z8 g t (md _).1 (md _).2,dv _ (by erw[rd];lia) (by erw[rd];lia)⟩
 |less t x y=>exact⟨z8 g t (md _).1 (md _).2,zca _⟩
 |both t x y =>
  have h:=zoA (w:=w) (g x.1 x.2).1 (g y.1 y.2).1 (g y.1 y.2).2;exact⟨z8 g t h.1 h.2,k0,k1⟩
 |any t x y =>
  have h:=znq (w:=w) (g x.1 x.2).1 (g x.1 x.2).2 (g y.1 y.2).1 (g y.1 y.2).2;exact⟨z8 g t h.1 h.2,k0,k1⟩
 |odd t x y =>
  have h:=zhW (w:=w) (g x.1 x.2).1 (g x.1 x.2).2 (g y.1 y.2).1 (g y.1 y.2).2;exact⟨z8 g t h.1 h.2,k0,k1⟩
 |times l t x y =>
  have a:=g x.1 x.2;have b:=g y.1 y.2;have p0:0<=M x.1 x.2*M y.1 y.2:=By a.1 b.1;have p1:M x.1 x.2*M y.1 y.2<2^w*2^w:=by
   rcases (by lia:M x.1 x.2=0 \/ 0<M x.1 x.2)with z|z
   .rw[z,Aq];exact HX hWp hWp
   .exact Int.lt_of_lt_of_le (Int.mul_lt_mul_of_pos_left b.2 z) (BL (by lia) (by lia))
  refine⟨z8 (z8 g l (md _).1 (md _).2) t ?_ ?_,k0,k1⟩
  .exact Bq p0 (by lia)
  .exact BY hWp p1
theorem zbU{w:Nat}(hw:1<=w):∀(rs:List Rw) {M:Mem} {k:Int},Good w M k->(∀r∈rs,okD r)->Good w (yu (2^w) rs M k).1 (yu (2^w) rs M k).2
 | [],_,_,h,_=>h
 |r::rs,_,_,h,hd=>zbU hw rs (ze6 hw h (hd r Aj)) λq hq=>hd q (AT _ hq)
theorem zdw{w:Nat}{c:Nat}:∀(vs:List Int) (i:Nat) (M:Mem),(∀c i,0<=M c i/\M c i<2^w)->(∀v∈vs,0<=v/\v<2^w)->∀d j,0<=yaF c i vs M d j/\yaF c i vs M d j<2^w
 | [],_,_,h,_=>h
 |v::vs,i,M,h,hv=>by
  rw[yaF];refine zdw vs (i+1) _ (λc' j=>?_) λu hu=>hv u (AT _ hu);unfold upd;split
  .exact hv v Aj
  .exact h c' j
theorem zcs{w:Nat}:∀(n:Nat) (x:Int),∀v∈ye (2^w) n x,0<=v/\v<2^w
 |0,_,v,h=>by cases h
 |n+1,x,v,h=>by
  have hWp:(0:Int)<2^w:=Af (by lia);rw[ye,AQ]at h;rcases h with rfl|h
  .exact⟨Ao _ (by lia),Ad _ hWp⟩
  .exact zcs n _ v h
theorem zcS{w:Nat}(hw:1<=w)(n:Nat)(x y:Int):Good w (yZ (2^w) n x y) 0:=by
 have hWp:(0:Int)<2^w:=Af (by lia);exact⟨zdw _ _ _ (zdw _ _ _ (λc i=>⟨G9 _,hWp⟩) (zcs n x)) (zcs n y),by lia,by lia⟩
def yeB(W:Int)(M:Mem):Prop:=∀c i,0<=M c i/\M c i<W
theorem zgf{w:Nat}(hw:1<=w)(hw2:w<=16):∀(rs:List Rw) (M:Mem) (k:Int),(∀r∈rs,okD r)->Good w M k->ybs (2^w) rs M k
 | [],M,k,_,_=>trivial
 |r::rs,M,k,hr,g=>by
  let⟨h,k0,k1⟩:=g;exact⟨⟨λt x _=>⟨(h x.1 x.2).1,(h x.1 x.2).2,k0,by lia⟩,λ_ _ x _ _=>by
   have:=h x.1 x.2;have p:(2:Nat)^w<=2^16:=Al (by lia) hw2;have q:=pw w;show (M x.1 x.2).natAbs<_;have:(2:Nat)^16=65536:=rfl;lia⟩,zgf hw hw2 rs _ _ (λx hx=>hr x (by simp[hx])) (ze6 hw ⟨h,k0,k1⟩ (hr r (by simp)))⟩
def sgd(T x:Int):Int:=if T<=2*x then x - T else x
def yaS(T s:Int):Bool:=decide (0 - T<=2*s) && decide (2*s<T)
noncomputable def yb6(W:Int)(f:Nat->Int):Nat->Int
 |0=>0
 |n+1=>yb6 W f n+f n*W^n
theorem zgG(W:Int)(M:Mem)(c:Nat):∀n,yb6 W (λi=>M c i) n=yt W M c n
 |0=>rfl
 |n+1=>by rw[yb6,yt,zgG W M c n]
theorem zk7(W:Int):∀n,yb6 W (λ_=>0) n=0
 |0=>rfl
 |n+1=>by rw[yb6,zk7 W n];simp
theorem zeM{W:Int}(hW:0<W)(M:Mem)(k:Int)(k0:0<=k)(k1:k<=1)(X Y:Int->Cel)(hX:∀i,(X i).1≠99)(hY:∀i,(Y i).1≠99):∀n:Nat,(∀i:Nat,i<n->0<=rd M (X i)/\rd M (X i)<W)->(∀i:Nat,i<n->0<=rd M (Y i)/\rd M (Y i)<W) ->
  (∀d j,(d≠99 \/ (n:Int)<=j)->(yu W (yw (λi=>.less (99,i) (X i) (Y i)) n) M k).1 d j=M d j)/\Dg W (yu W (yw (λi=>.less (99,i) (X i) (Y i)) n) M k).1 99 n/\0<=(yu W (yw (λi=>.less (99,i) (X i) (Y i)) n) M k).2/\(yu W (yw (λi=>.less (99,i) (X i) (Y i)) n) M k).2<=1/\yt W (yu W (yw (λi=>.less (99,i) (X i) (Y i)) n) M k).1 99 n - (yu W (yw (λi=>.less (99,i) (X i) (Y i)) n) M k).2*W^n=yb6 W (λi=>rd M (X i)) n - yb6 W (λi=>rd M (Y i)) n - k
 |0,_,_=>⟨λ_ _ _=>rfl,λi hi=>by lia,k0,k1,by simp[yt,yb6,yw,yu]⟩
 |n+1,ha,hb=>by
  let⟨h1,h2,h3,h4,h5⟩:=zeM hW M k k0 k1 X Y hX hY n (λi hi=>ha i (by lia)) (λi hi=>hb i (by lia));rw[yw,zm];generalize yu W (yw (λi=>.less (99,i) (X i) (Y i)) n) M k=R at *;let⟨M1,k'⟩:=R;simp only at *;let⟨a0,a1⟩:=ha n (by lia);let⟨b0,b1⟩:=hb n (by lia);have rx:rd M1 (X n)=rd M (X n):=h1 _ _ (.inl (hX _));have ry:rd M1 (Y n)=rd M (Y n):=h1 _ _ (.inl (hY _));erw[yu,stepM,wr,rx,ry];rw[yb6,yb6];generalize rd M (X n)=A at *;generalize rd M (Y n)=B at *;have hq:∃q,0<=q/\q<=1/\bi (decide (A - B - k' < 0))=q/\(A - B - k')%W=A - B - k'+q*W:=by
   by_cases hl:A - B - k' < 0
   .refine⟨1,by lia,by lia,by rw[decide_eq_true hl];rfl,?_⟩;rw[Ak,<- DO];exact A3 (by lia) (by lia)
   .refine⟨0,by lia,by lia,by rw[decide_eq_false hl];rfl,?_⟩;rw[Aq,BJ];exact A3 (by lia) (by lia)
  let⟨q,q0,q1,e1,e2⟩:=hq;have d1:=Ao (A - B - k') (show W≠0 by lia);have d2:=Ad (A - B - k') hW;rw[e1];refine⟨λd j hd=>?_,λi hi=>?_,q0,q1,?_⟩
  .unfold upd;rw[if_neg (by lia),h1 d j (by lia)]
  .unfold upd
   by_cases hin:i=n
   .subst hin;rw[if_pos ⟨rfl,rfl⟩];exact⟨d1,d2⟩
   .rw[if_neg (by lia)];exact h2 i (by lia)
  .have hv:yt W (upd M1 99 (n:Int) ((A - B - k')%W)) 99 (n+1)=yt W M1 99 n+(A - B - k')%W*W^n:=by
    rw[yt,zh (M':=M1) (c':=99) n λi hi=>by unfold upd;rw[if_neg (by lia)]];unfold upd;rw[if_pos ⟨rfl,rfl⟩]
   rw[hv,e2,Ae];generalize W^n=P at *;have e3:(A - B - k'+q*W)*P - q*(P*W)=A*P - B*P - k' * P:=by
    rw[Cy,Bm,Bm,BX q W P,A7 W P];lia
   generalize (A - B - k'+q*W)*P=X1 at *;generalize q*(P*W)=X2 at *;lia
theorem zeW{w:Nat}(hw:1<w){n:Nat}(M:Mem)(X Y:Int->Cel)(L0 L1:Cel)(hX:∀i,(X i).1≠99)(hY:∀i,(Y i).1≠99)
  (ha:∀i:Nat,i<n+1->0<=rd M (X i)/\rd M (X i)<2^w) (hb:∀i:Nat,i<n+1->0<=rd M (Y i)/\rd M (Y i)<2^w) (zo:M 122 0=0)
  (hL0:L0=X n) (hL1:L1=Y n) (l0:L0.1≠115/\L0.1≠116/\L0.1≠109) (l1:L1.1≠115/\L1.1≠116/\L1.1≠109) :
  ∃z k1,0<=z/\z<(2^w:Int)^(n+1)/\(k1=0 \/ k1=1)/\z - k1*(2^w:Int)^(n+1)=yb6 (2^w) (λi=>rd M (X i)) (n+1) - yb6 (2^w) (λi=>rd M (Y i)) (n+1) /\
   ∃M4 k4,yu (2^w) (.mark 0::(yw (λi=>.less (99,i) (X i) (Y i)) (n+1)++(.sum (109,0) cZ cZ::(yU L0 L1 (99,n)++yq (n+1))))) M 0=(M4,k4) /\
    yt (2^w) M4 99 (n+1)=z/\M4 109 0=k1/\M4 109 1=(tb w (rd M L0)+tb w (rd M L1))%2*((tb w (rd M L0)+if (2^w:Int)^(n+1)<=2*z then 1 else 0)%2)/\M4 109 2=bi (z == 0)/\M4 109 3=bi (decide ((2^w:Int)^(n+1)<=2*z)):=by
 have hW:(0:Int)<2^w:=Af (by lia);have hW4:(4:Int)<=2^w:=by
  have h:(2:Nat)^2<=2^w:=Al (by lia) (by lia);have h2:=pw w;lia
 let⟨s1,s2,s3,s4,s5⟩:=zeM hW M 0 (by lia) (by lia) X Y hX hY (n+1) ha hb;have hs0:stepM (2^w) M 0 (.mark 0)=(M,0):=rfl;rw[zG,hs0,zm,zG];generalize yu (2^w) (yw (λi=>.less (99,i) (X i) (Y i)) (n+1)) M 0=R at *;let⟨M1,k1⟩:=R;simp only at *;have z1:M1 122 0=0:=by rw[s1 122 0 (.inl (by decide)),zo]
 have hs:stepM (2^w) M1 k1 (.sum (109,0) cZ cZ)=(wr M1 (109,0) k1,0):=by
  erw[stepM,rd,cZ,z1];rw[show (0:Int)+0+k1=k1 by lia,A3 s3 (by lia),BU s3 (by lia)]
 rw[hs,zm];simp only;have g2:∀d j,(d≠109 \/ j≠0)->wr M1 (109,0) k1 d j=M1 d j:=λd j h=>by
  erw[wr,upd];rw[if_neg (by lia)]
 have g3:wr M1 (109,0) k1 109 0=k1:=by simp[wr,upd]
 generalize wr M1 (109,0) k1=M2 at *;have gc:∀j,M2 99 j=M1 99 j:=λj=>g2 99 j (.inl (by decide));have dc2:Dg (2^w) M2 99 (n+1):=λi hi=>by rw[gc];exact s2 i hi
 have tc:=zaH (by lia) dc2;let⟨r0,r1⟩:=zaE hW (n+1) dc2;have vc:yt (2^w) M2 99 (n+1)=yt (2^w) M1 99 (n+1):=zh _ λi hi=>gc i;rw[<- vc]at s5;have n0:L0.1≠99:=by rw[hL0];exact hX _
 have n1:L1.1≠99:=by rw[hL1];exact hY _
 have q0:rd M2 L0=rd M L0:=by
  show M2 L0.1 L0.2=M L0.1 L0.2;rw[g2 _ _ (.inl l0.2.2),s1 _ _ (.inl n0)]
 have q1:rd M2 L1=rd M L1:=by
  show M2 L1.1 L1.2=M L1.1 L1.2;rw[g2 _ _ (.inl l1.2.2),s1 _ _ (.inl n1)]
 have a0:=ha n (by lia);have b0:=hb n (by lia);rw[<- hL0,<- q0]at a0;rw[<- hL1,<- q1]at b0;let⟨e1,e2,e3⟩:=ziW hw M2 L0 L1 (99,n) ⟨l0.1,l0.2.1⟩ ⟨l1.1,l1.2.1⟩ ⟨by simp,by simp⟩ (by rw[g2 122 0 (.inl (by decide)),z1]) a0 b0 (dc2 n (by lia));rw[q0,q1,show rd M2 (99,(n:Int))=M2 99 n from rfl,tc]at e3;generalize yu (2^w) (yU L0 L1 (99,(n:Int))) M2 0=R at *;let⟨M3,k3⟩:=R;simp only at *;have gc3:∀j,M3 99 j=M2 99 j:=λj=>e1 99 j (by decide) (by decide) (.inl (by decide));have dc3:Dg (2^w) M3 99 (n+1):=λi hi=>by rw[gc3];exact dc2 i hi
 have vc3:yt (2^w) M3 99 (n+1)=yt (2^w) M2 99 (n+1):=zh _ λi hi=>gc3 i;let⟨f1,f2,f3,f4,f5⟩:=zeF hw M3 k3 dc3 (by rw[e1 122 0 (by decide) (by decide) (.inl (by decide)),g2 122 0 (.inl (by decide)),z1]);refine⟨yt (2^w) M2 99 (n+1),k1,r0,r1,by lia,by lia,(yu (2^w) (yq (n+1)) M3 k3).1,(yu (2^w) (yq (n+1)) M3 k3).2,rfl,?_,?_,?_,?_,?_⟩
 .rw[zh (M':=M3) (c':=99) _ λi hi=>f1 i,vc3]
 .rw[f2,e1 109 0 (by decide) (by decide) (.inr (by decide)),g3]
 .rw[f3,e3]
 .rw[f4,vc3]
 .rw[f5,vc3]
theorem zhi{w:Nat}(hw:1<w){n:Nat}{x y:Int}(x0:0<=x)(x1:x<(2^w:Int)^(n+1)) :
  yt (2^w) (yu (2^w) (yR (n+1)) (yZ (2^w) (n+1) x y) 0).1 99 (n+1)=(0 - x)%(2^w:Int)^(n+1) /\
  (yu (2^w) (yR (n+1)) (yZ (2^w) (n+1) x y) 0).1 109 0=bi (!(x == 0)) /\
  (yu (2^w) (yR (n+1)) (yZ (2^w) (n+1) x y) 0).1 109 1=bi (2*x == (2^w:Int)^(n+1)) /\
  (yu (2^w) (yR (n+1)) (yZ (2^w) (n+1) x y) 0).1 109 2=bi ((0 - x)%(2^w:Int)^(n+1) == 0) /\
  (yu (2^w) (yR (n+1)) (yZ (2^w) (n+1) x y) 0).1 109 3=bi (decide ((2^w:Int)^(n+1)<=2*((0 - x)%(2^w:Int)^(n+1)))):=by
 have hW:(0:Int)<2^w:=Af (by lia);have hn:((n+1:Nat):Int) - 1=n:=by lia
 have e:yR (n+1)=.mark 0::(yw (λi=>.less (99,i) ((λ_=>cZ) i) ((λi=>(97,i)) i)) (n+1)++(.sum (109,0) cZ cZ::(yU cZ (97,n) (99,n)++yq (n+1)))):=by
  erw[yR,hn,B0,Ab,Au]
 have da:=zgb (n+1) x y hW;have zo:yZ (2^w) (n+1) x y 122 0=0:=zdR _ _ _ (by decide) (by decide) _;let⟨z,k1,r0,r1,hk,s5,M4,k4,e0,v1,v2,v3,v4,v5⟩:=zeW hw (n:=n) (yZ (2^w) (n+1) x y) (λ_=>cZ) (λi=>(97,i)) cZ (97,n) (λ_=>by simp) (λ_=>by simp) (λi hi=>by erw[rd,cZ,zo];lia) (λi hi=>da i hi) zo rfl rfl ⟨by simp,by simp,by simp⟩ ⟨by simp,by simp,by simp⟩;rw[e,e0];erw[rd,cZ,zo]at v3 s5;rw[zk7,zgG (2^w) (yZ (2^w) (n+1) x y) 97,zcL (n+1) x y hW x0 x1]at s5;rw[zaH (by lia) da,zcL (n+1) x y hW x0 x1,show tb w 0=0 by simp[tb]]at v3;generalize (2^w:Int)^(n+1)=T at *;have hz:(0 - x)%T=z:=by
  rw[show 0 - x=z+(-k1)*T by rw[Int.neg_mul];lia,ED,A3 r0 r1]
 erw[v1,v2,v3,v4,v5,hz];refine⟨trivial,?_,?_,trivial,trivial⟩
 .rcases hk with rfl|rfl
  .rw[show x=0 by lia];rfl
  .rw[beq_eq_false_iff_ne.2 (by lia)];rfl
 .rcases hk with rfl|rfl<;>by_cases q1:T<=2*x<;>by_cases q3:T<=2*z<;>erw[q1,q3,if_true,if_false]
  all_goals first
   | (exfalso;lia)
   | (rw[beq_eq_false_iff_ne.2 (by lia)];rfl)
   | (rw[beq_iff_eq.2 (by lia)];rfl)
theorem zge{W:Int}(M:Mem)(k:Int)(f:Int->Rw)(g:Int->Int)(hf:∀(M1:Mem) (i:Int),(∀d j,d≠99->M1 d j=M d j)->stepM W M1 k (f i)=(wr M1 (99,i) (g i),k)):∀n:Nat,
  (yu W (yw f n) M k).2=k/\(∀d j,d≠99->(yu W (yw f n) M k).1 d j=M d j)/\∀i:Nat,i<n->(yu W (yw f n) M k).1 99 i=g i
 |0=>⟨rfl,λ_ _ _=>rfl,λi hi=>by lia⟩
 |n+1=>by
  let⟨h1,h2,h3⟩:=zge M k f g hf n;rw[yw,zm];generalize yu W (yw f n) M k=R at *;let⟨M1,k'⟩:=R;simp only at *;subst h1;erw[yu,hf M1 n h2];refine⟨trivial,λd j hd=>?_,λi hi=>?_⟩
  .simp only[wr,upd];rw[if_neg (by lia),h2 d j hd]
  .simp only[wr,upd]
   by_cases hin:i=n
   .subst hin;rw[if_pos ⟨trivial,rfl⟩]
   .rw[if_neg (by lia)];exact h3 i (by lia)
def yaU(n:Nat):List Rw:=yw (λi=>.move (99,i) (97,i)) n
structure Shf(W:Int)(n:Nat)(M0 M:Mem)(v:Int):Prop where
 dg:Dg W M 99 n
 val:yt W M 99 n=v
 keep:∀d j,d≠99->d≠116->M d j=M0 d j
noncomputable def cx(l:Nat)(c i j m:Int):Op:=.cel ⟨l,c,i,j,m⟩
noncomputable def rS(nm:String)(ops:List Op):Rs:=⟨AF nm,ops⟩
def oZ:Op:=cx 122 0 0 0 0
def oS:Op:=cx 115 0 0 0 0
def oT:Op:=cx 116 0 0 0 0
def oM(i:Int):Op:=cx 109 i 0 0 0
def ya7(c m:Int):List T1:=[.row (rS "set" [oS,.fig 0]),.rounds c m 0 [.row (rS "any" [oS,oS,cx 99 0 1 0 0])],.row (rS "ask" [oS]),.row (rS "set" [oM 2,.fig 1]),.row (rS "less" [oM 2,oM 2,oZ]),.row (rS "twice" [oT,cx 99 (c - 1) 0 0 m]),.row (rS "sum" [oM 3,oZ,oZ])]
def ybZ:T1:=.row (rS "sum" [oM 0,oZ,oZ])
theorem zaF{g:Nat->List PV}{f:Int->Rw}(h:∀I:Nat,g I=[yJ (f I)]):∀n,upTo g n=(yw f n).map yJ
 |0=>rfl
 |n+1=>by rw[upTo,yw,zaF h n,h n,B6];rfl
theorem za5(w:Int)(n:Nat):cnt 0 1 0 w n=n:=by simp[cnt]
theorem zhU(I:Nat)(n:Int):(rS "any" [oS,oS,cx 99 0 1 0 0]).pv I 0 n=yJ (.any cS cS (99,I)):=by simp[Rs.pv,rS,Op.pv,oS,cx,Cx.at,yJ,yx]
theorem znu(w:Int)(n:Nat):yp w n (ya7 0 1)=(yq n).map yJ:=by
 have h:=zaF (g:=λI=>yX w n I [.row (rS "any" [oS,oS,cx 99 0 1 0 0])]) (f:=λi=>.any cS cS (99,i)) (λI=>by simp[yX,T2.rows,zhU]) n;erw[yp,ya7,Aa,Ag,T1.rows,za5,h,yq,B6,AL,A5,A2];simp[Rs.pv,rS,Op.pv,oS,oT,oZ,oM,cx,Cx.at,yJ,yx,Int.sub_eq_add_neg,EC]
theorem zmE(w:Int)(n:Nat):T1.rows w n ybZ=[yJ (.sum (109,0) cZ cZ)]:=by simp[ybZ,T1.rows,Rs.pv,rS,Op.pv,oM,oZ,cx,Cx.at,yJ,yx]
theorem zt(w n:Int)(a b:List T1):yp w n (a++b)=yp w n a++yp w n b:=by simp[yp]
theorem zE(w n:Int)(a b:List T1):yan w n (a++b)=yan w n a+yan w n b:=by simp[yan]
theorem zaY(f:Int->Rw)(m:Nat):(yw f m).length=m:=by
 induction m with
 |zero=>rfl
 |succ m ih=>simp[yw,ih]
noncomputable abbrev cL:Cel:=(108,0)
noncomputable abbrev cHi:Cel:=(104,0)
noncomputable abbrev cO:Cel:=(111,0)
def inR(I J:Nat):List Rw:=[.times cL cHi (97,J) (98,I),.sum cL cL cO,.sum cHi cHi cZ,.sum (99,(I:Int)+J) (99,(I:Int)+J) cL,.sum cO cHi cZ]
def yaG(n I:Nat):List Rw:=.mark 0 :: .set cO 0::(upTo (inR I) n++[.move (99,(I:Int)+n) cO])
def yaj(n:Nat):List Rw:=upTo (yaG n) n
def yas(n:Nat):List Rw:=.set cS 0::(yw (λi=>.any cS cS (99,(n:Int)+i)) n++[.ask cS,.sum (109,1) cZ cZ])
def yP(n:Nat):List Rw:=yaj n++(yas n++yq (2*n))
theorem zg0{w:Nat}(hw:1<=w):(2:Int)<=2^w:=by
 have h:(2:Nat)^1<=2^w:=Al (by lia) hw;have h2:=pw w;lia
theorem zjC{W A B o c:Int}(hW:2<=W)(a0:0<=A)(a1:A<W)(b0:0<=B)(b1:B<W)(o0:0<=o)(o1:o<W)(c0:0<=c)(c1:c<W) :
  (A*B / W+0+(A*B%W+o+0) / W) / W=0/\((A*B / W+0+(A*B%W+o+0) / W)%W+0+(c+(A*B%W+o+0)%W+0) / W) / W=0 /\
  (c+(A*B%W+o+0)%W+0)%W+W*(((A*B / W+0+(A*B%W+o+0) / W)%W+0+(c+(A*B%W+o+0)%W+0) / W)%W)=A*B+o+c:=by
 have hW0:W≠0:=by lia
 have hWp:0<W:=by lia
 have hP:A*B<=(W - 1)*(W - 1):=EX (by lia) (by lia) b0 (by lia);have hP0:0<=A*B:=By a0 b0;have hE:(W - 1)*(W - 1)=W*W - 2*W+1:=by rw[Bm,CB];lia
 have hE2:(W - 1)*W=W*W - W:=by rw[Bm];lia
 generalize A*B=P at *;have h1:P / W<W - 1:=BY hWp (by lia);have h0:0<=P / W:=Bq hP0 (by lia);have e1:=BE P W;have l0:=Ao P hW0;have l1:=Ad P hWp;generalize P / W=h at *;generalize P%W=l at *;erw[BJ];have e2:=BE (l+o) W;have k0:0<=(l+o) / W:=Bq (by lia) (by lia);have k1:(l+o) / W<2:=BY hWp (by lia);have m0:=Ao (l+o) hW0;have m1:=Ad (l+o) hWp;generalize (l+o) / W=k at *;generalize (l+o)%W=l2 at *;have q1:(h+k) / W=0:=BU (by lia) (by lia);have q2:(h+k)%W=h+k:=A3 (by lia) (by lia);rw[q2];have e3:=BE (c+l2) W;have j0:0<=(c+l2) / W:=Bq (by lia) (by lia);have n0:=Ao (c+l2) hW0;have n1:=Ad (c+l2) hWp;generalize (c+l2) / W=k3 at *;generalize (c+l2)%W=c2 at *;have hT:c2+W*(h+k+k3)=P+o+c:=by
  rw[CJ,CJ];lia
 have hlt:W*(h+k+k3)<W*W:=by lia
 have hlt2:h+k+k3<W:=Int.lt_of_mul_lt_mul_left hlt (by lia);refine⟨q1,BU (by lia) hlt2,?_⟩;rw[A3 (by lia) hlt2];exact hT
theorem zoD{I J:Nat}:∀r∈inR I J,okD r:=by
 intro r hr;erw[inR,AQ,A1,or_false]at hr;rcases hr with rfl|rfl|rfl|rfl|rfl<;>trivial
theorem zll{w:Nat}(hw:1<=w){M:Mem}{I J:Nat}(hg:Good w M 0)(hz:M 122 0=0) :
  ∃M',yu (2^w) (inR I J) M 0=(M',0)/\Good w M' 0/\M' 99 ((I+J:Nat):Int)+2^w*M' 111 0=M 97 J*M 98 I+M 111 0+M 99 ((I+J:Nat):Int)/\∀d j,d≠108->d≠104->d≠111->(d≠99 \/ j≠((I+J:Nat):Int))->M' d j=M d j:=by
 have hgg:=zbU hw (inR I J) hg zoD;have hc:(I:Int)+(J:Int)=((I+J:Nat):Int):=by lia
 let⟨s1,s2,s3⟩:=zjC (zg0 hw) (hg.1 97 J).1 (hg.1 97 J).2 (hg.1 98 I).1 (hg.1 98 I).2 (hg.1 111 0).1 (hg.1 111 0).2 (hg.1 99 ((I+J:Nat):Int)).1 (hg.1 99 ((I+J:Nat):Int)).2;have hr:(yu (2^w) (inR I J) M 0).2=0:=by
  erw[inR,yu,stepM,rd,wr,upd,cL,cHi,cO,cZ,hc,Cg,false_and,if_false,and_self,if_true,hz,s1,s2]
 refine⟨_,HV rfl hr,by rw[hr]at hgg;exact hgg,?_,λd j h1 h2 h3 h4=>?_⟩
 .simp only[inR,yu,stepM,rd,wr,upd,cL,cHi,cO,cZ,hc,Cg,false_and,if_false,and_self,if_true,hz,s1,s2];exact s3
 .simp only[inR,yu,stepM,rd,wr,upd,cL,cHi,cO,cZ,hc,h1,h2,h3,false_and,if_false];rw[if_neg (by lia)]
noncomputable def sh(o:Nat)(M:Mem):Mem:=λd i=>M d ((o:Int)+i)
theorem zbe(W:Int)(M:Mem)(c I:Nat):∀n,yt W M c (I+n)=yt W M c I+W^I*yt W (sh I M) c n
 |0=>by simp[yt]
 |n+1=>by
  rw[show I+(n+1)=I+n+1 by lia,yt,zbe W M c I n,yt,CJ,DA];have:M c ((I+n:Nat):Int)=sh I M c n:=by unfold sh;congr 1
  rw[this,C7 (sh I M c n)];rw[Gz]
theorem zcc{M:Mem}{o c:Nat}(n:Nat):sh o M c n=M c ((o+n:Nat):Int):=by unfold sh;congr 1
theorem ziC{w:Nat}(hw:1<=w){M:Mem}{I:Nat}(hg:Good w M 0)(hz:M 122 0=0):∀j:Nat,∃M',yu (2^w) (upTo (inR I) j) M 0=(M',0)/\Good w M' 0/\(∀d (i:Int),d≠108->d≠104->d≠111->(d≠99 \/ i<I \/ (I:Int)+j<=i)->M' d i=M d i) /\
  yt (2^w) (sh I M') 99 j+M' 111 0*(2^w)^j=yt (2^w) (sh I M) 99 j+yt (2^w) M 97 j*M 98 I+M 111 0
 |0=>⟨M,rfl,hg,λ_ _ _ _ _ _=>rfl,by simp[yt]⟩
 |j+1=>by
  let⟨M1,e1,g1,o1,v1⟩:=ziC hw hg hz j;let⟨M2,e2,g2,s2,o2⟩:=zll hw (I:=I) (J:=j) g1 (by rw[o1 122 0 (by decide) (by decide) (by decide) (.inl (by decide))];exact hz);refine⟨M2,?_,g2,λd i h1 h2 h3 h4=>?_,?_⟩
  .rw[upTo,zm,e1];exact e2
  .rw[o2 d i h1 h2 h3 (by lia),o1 d i h1 h2 h3 (by lia)]
  .rw[o1 97 j (by decide) (by decide) (by decide) (.inl (by decide)),o1 98 I (by decide) (by decide) (by decide) (.inl (by decide)),o1 99 ((I+j:Nat):Int) (by decide) (by decide) (by decide) (.inr (.inr (by lia)))]at s2;have hv:yt (2^w) (sh I M2) 99 j=yt (2^w) (sh I M1) 99 j:=zh j λt ht=>by
    rw[zcc,zcc,o2 99 _ (by decide) (by decide) (by decide) (.inr (by lia))]
   rw[yt,yt,yt,zcc,zcc,hv,Ae];generalize ((2:Int)^w)^j=P at *;generalize (2:Int)^w=W at *;have e3:M2 99 ((I+j:Nat):Int)*P+M2 111 0*(P*W)=(M 97 j*M 98 I+M1 111 0+M 99 ((I+j:Nat):Int))*P:=by
    rw[<- s2,Cy,A7 P W,<- BX,A7 (M2 111 0) W]
   rw[Cy,Cy]at e3;have e4:(yt W M 97 j+M 97 j*P)*M 98 I=yt W M 97 j*M 98 I+M 97 j*M 98 I*P:=by rw[Cy,Fu]
   rw[e4];generalize M2 99 ((I+j:Nat):Int)*P=x1 at *;generalize M2 111 0*(P*W)=x2 at *;generalize M 97 j*M 98 I*P=x3 at *;generalize M1 111 0*P=x4 at *;generalize M 99 ((I+j:Nat):Int)*P=x5 at *;generalize yt W M 97 j*M 98 I=x6 at *;lia
theorem zoN{w:Nat}(hw:1<=w){M:Mem}{k:Int}{n I:Nat}(hg:Good w M k)(hz:M 122 0=0):∃M',yu (2^w) (yaG n I) M k=(M',0)/\Good w M' 0/\(∀d (i:Int),d≠108->d≠104->d≠111->d≠99->M' d i=M d i) /\
  yt (2^w) M' 99 (n+I+1)=yt (2^w) M 99 (n+I)+yt (2^w) M 97 n*(M 98 I*(2^w)^I):=by
 have hW0:=zg0 hw;have g1:Good w (wr M cO 0) 0:=⟨z8 hg.1 cO (by lia) (by lia),by lia,by lia⟩;have q1:∀d j,d≠111->wr M cO 0 d j=M d j:=λd j h=>by erw[wr,upd,cO,h,false_and,if_false]
 have q2:wr M cO 0 111 0=0:=by simp[wr,upd]
 have hst:yu (2^w) (yaG n I) M k=yu (2^w) (upTo (inR I) n++[.move (99,(I:Int)+n) cO]) (wr M cO 0) 0:=rfl;generalize wr M cO 0=M1 at *;let⟨M2,e2,g2,o2,v2⟩:=ziC hw (I:=I) g1 (by rw[q1 122 0 (by decide)];exact hz) n;have hmv:yu (2^w) [.move (99,(I:Int)+n) cO] M2 0=(wr M2 (99,(I:Int)+n) (M2 111 0),0):=rfl;rw[hst,zm,e2];refine⟨_,hmv,⟨z8 g2.1 _ (g2.1 _ _).1 (g2.1 _ _).2,by lia,by lia⟩,λd i h1 h2 h3 h4=>?_,?_⟩
 .simp only[wr,upd,h4,false_and,if_false];rw[o2 d i h1 h2 h3 (.inl h4),q1 d i h3]
 .have hlow:∀i:Nat,i<n+I->wr M2 (99,(I:Int)+n) (M2 111 0) 99 i=M2 99 i:=λi hi=>by
   erw[wr,upd];rw[if_neg (by lia)]
  have htop:wr M2 (99,(I:Int)+n) (M2 111 0) 99 ((n+I:Nat):Int)=M2 111 0:=by
   erw[wr,upd];rw[if_pos ⟨trivial,by lia⟩]
  rw[yt,zh (M':=M2) (c':=99) _ hlow,htop,Nat.add_comm n I,zbe,zbe (2^w) M,DA];have hv1:yt (2^w) M2 99 I=yt (2^w) M 99 I:=zh I λi hi=>by
   rw[o2 99 i (by decide) (by decide) (by decide) (.inr (.inl (by lia))),q1 99 i (by decide)]
  have hv2:yt (2^w) (sh I M1) 99 n=yt (2^w) (sh I M) 99 n:=zh n λi hi=>by
   rw[zcc,zcc,q1 99 _ (by decide)]
  have hv3:yt (2^w) M1 97 n=yt (2^w) M 97 n:=zh n λi hi=>q1 97 i (by decide);rw[hv2,hv3,q1 98 I (by decide),q2,BJ]at v2;rw[hv1];generalize ((2:Int)^w)^I=P at *;generalize ((2:Int)^w)^n=N at *;generalize yt (2^w) (sh I M2) 99 n=x1 at *;generalize yt (2^w) (sh I M) 99 n=x2 at *;generalize yt (2^w) M 97 n=A at *;have e:P*x1+M2 111 0*(P*N)=P*(x2+A*M 98 I):=by
   rw[<- v2,CJ,C7 (M2 111 0) P N]
  rw[CJ,C7 P A,A7 P (M 98 I)]at e;lia
theorem zfJ{w:Nat}(hw:1<=w){M:Mem}{n:Nat}(hg:Good w M 0)(hz:M 122 0=0)(hc:yt (2^w) M 99 n=0):∀I:Nat,∃M',yu (2^w) (upTo (yaG n) I) M 0=(M',0)/\Good w M' 0/\(∀d (i:Int),d≠108->d≠104->d≠111->d≠99->M' d i=M d i) /\
  yt (2^w) M' 99 (n+I)=yt (2^w) M 97 n*yt (2^w) M 98 I
 |0=>⟨M,rfl,hg,λ_ _ _ _ _ _=>rfl,by simp[yt,hc]⟩
 |I+1=>by
  let⟨M1,e1,g1,o1,v1⟩:=zfJ hw hg hz hc I;let⟨M2,e2,g2,o2,v2⟩:=zoN hw (n:=n) (I:=I) g1 (by rw[o1 122 0 (by decide) (by decide) (by decide) (by decide)];exact hz);refine⟨M2,?_,g2,λd i h1 h2 h3 h4=>by rw[o2 d i h1 h2 h3 h4,o1 d i h1 h2 h3 h4],?_⟩
  .rw[upTo,zm,e1];exact e2
  .rw[show n+(I+1)=n+I+1 by lia,v2,v1,zh (M:=M1) (M':=M) (c:=97) (c':=97) n λi hi=>o1 97 i (by decide) (by decide) (by decide) (by decide),o1 98 I (by decide) (by decide) (by decide) (by decide),yt,CJ]
def oL:Op:=cx 108 0 0 0 0
def oHi:Op:=cx 104 0 0 0 0
def oO:Op:=cx 111 0 0 0 0
def inT:List Rs:=[rS "times" [oL,oHi,cx 97 0 0 1 0,cx 98 0 1 0 0],rS "sum" [oL,oL,oO],rS "sum" [oHi,oHi,oZ],rS "sum" [cx 99 0 1 1 0,cx 99 0 1 1 0,oL],rS "sum" [oO,oHi,oZ]]
def yaR:T1:=.rounds 0 1 0 [.row (rS "mark" [.fig 0]),.row (rS "set" [oO,.fig 0]),.rounds 0 1 0 inT,.row (rS "move" [cx 99 0 1 0 1,oO])]
def yaO:List T1:=[.row (rS "set" [oS,.fig 0]),.rounds 0 1 0 [.row (rS "any" [oS,oS,cx 99 0 1 0 1])],.row (rS "ask" [oS]),.row (rS "sum" [oM 1,oZ,oZ])]
def ybt:List T1:=yaR::(yaO++ya7 0 2)
theorem zbz{g:Nat->List PV}{f:Nat->List Rw}(h:∀I:Nat,g I=(f I).map yJ):∀n,upTo g n=(upTo f n).map yJ
 |0=>rfl
 |n+1=>by rw[upTo,upTo,zbz h n,h n,B6]
theorem zkM(w:Int)(n:Nat):cnt 0 2 0 w n=2*n:=by simp[cnt];lia
theorem zht(w:Int)(n:Nat):yp w n (ya7 0 2)=(yq (2*n)).map yJ:=by
 have hh:=zaF (g:=λI=>yX w n I [.row (rS "any" [oS,oS,cx 99 0 1 0 0])]) (f:=λi=>.any cS cS (99,i)) (λI=>by simp[yX,T2.rows,zhU]) (2*n);have hl:(0:Int) - 1+2*(n:Int)=((2*n:Nat):Int) - 1:=by lia
 erw[yp,ya7,Aa,Ag,T1.rows,zkM,hh,yq,B6,AL,A5,A2];erw[Rs.pv,rS,Op.pv,oS,oT,oZ,oM,cx,Cx.at,yJ,yx,hl,AL,A5,Ab,Au,Aq,BJ]
theorem zpt(n:Int)(I J:Nat):(inT.map λr=>r.pv I J n)=(inR I J).map yJ:=by
 simp[inT,inR,Rs.pv,rS,Op.pv,oL,oHi,oO,oZ,cx,Cx.at,yJ,yx]
theorem ziu(w:Int)(n:Nat):T1.rows w n yaR=(yaj n).map yJ:=by
 unfold yaR yaj;rw[T1.rows,za5];refine zbz (λI=>?_) n;have h:=zbz (g:=λJ=>inT.map λr=>r.pv I J n) (f:=inR I) (zpt n I) n;have hm:(0:Int)+1*(I:Int)+1*(n:Int)=(I:Int)+n:=by lia
 erw[yX,Aa,Ag,A2,T2.rows,za5,h,yaG,AL,B6,A5,Ab,Au];erw[Rs.pv,rS,Op.pv,oO,cx,Cx.at,yJ,yx,AL,A5,Aq,BJ,hm]
theorem zjO(w:Int)(n:Nat):yp w n yaO=(yas n).map yJ:=by
 have hh:=zaF (g:=λI=>yX w n I [.row (rS "any" [oS,oS,cx 99 0 1 0 1])]) (f:=λi=>.any cS cS (99,(n:Int)+i)) (λI=>by
  have hm:(0:Int)+1*(I:Int)+1*(n:Int)=(n:Int)+I:=by lia
  erw[yX,Aa,Ag,A2,T2.rows,Rs.pv,rS,oS,Op.pv,cx,Cx.at,yJ,yx,AL,A5,Aq,BJ,hm]) n
 erw[yp,yaO,Aa,Ag,T1.rows,za5,hh,yas,B6,AL,A5,A2];erw[Rs.pv,rS,Op.pv,oS,oZ,oM,cx,Cx.at,yJ,yx,AL,A5,Ab,Au,Aq,BJ]
theorem zmm(w:Int)(n:Nat):yp w n ybt=(yP n).map yJ:=by
 have:yp w n ybt=T1.rows w n yaR++yp w n (yaO++ya7 0 2):=by simp[yp,ybt]
 rw[this,zt,ziu,zjO,zht,yP,B6,B6]
theorem zf8(w:Int)(n:Nat):T1.rnd w n yaR=n*(1+n):=by simp[yaR,T1.rnd,ya5,T2.rnd,za5]
theorem zii(w:Int)(n:Nat):yan w n yaO=n:=by simp[yaO,yan,T1.rnd,ya5,T2.rnd,za5]
theorem zgi(w:Int)(n:Nat):yan w n (ya7 0 2)=2*n:=by simp[yan,ya7,T1.rnd,zkM,ya5,T2.rnd]
theorem zjx(w:Int)(n:Nat):yan w n ybt=n*(1+n)+(n+2*n):=by
 have:yan w n ybt=T1.rnd w n yaR+yan w n (yaO++ya7 0 2):=by simp[yan,ybt]
 rw[this,zE,zf8,zii,zgi]
theorem zbZ{f:Nat->List Rw}{c:Nat}(h:∀i,(f i).length=c):∀k,(upTo f k).length=k*c
 |0=>by simp[upTo]
 |k+1=>by rw[upTo,Ac,zbZ h k,h,FI]
theorem zcE(n:Nat):(yaj n).length=n*(n*5+3):=zbZ (λI=>by simp[yaG,zbZ (f:=inR I) (c:=5) (λ_=>rfl)]) n
theorem zdq{n:Nat}(hn:n<=4):(yP n).length<=4000:=by
 have:n*(n*5+3)<=4*23:=BH hn (by lia);simp[yP,zcE,yas,yq,zaY];lia
theorem zae{f:Int->Rw}{r:Rw}:∀{n:Nat},r∈yw f n->∃i:Nat,i<n/\r=f i
 |0,h=>by simp[yw]at h
 |n+1,h=>by
  rw[yw,Ar]at h;rcases h with h|h
  .let⟨i,hi,e⟩:=zae h;exact⟨i,by lia,e⟩
  .simp at h;exact⟨n,by lia,h⟩
theorem zby{f:Nat->List Rw}{r:Rw}:∀{n:Nat},r∈upTo f n->∃i:Nat,i<n/\r∈f i
 |0,h=>by simp[upTo]at h
 |n+1,h=>by
  rw[upTo,Ar]at h;rcases h with h|h
  .let⟨i,hi,e⟩:=zby h;exact⟨i,by lia,e⟩
  .exact⟨n,by lia,h⟩
theorem zgJ{n:Nat}(hn:1<=n)(hn2:n<=8):∀r∈yq n,yaz r:=by
 intro r hr;erw[yq,Ar,AQ,A1,or_false]at hr;rcases hr with (rfl|hr)|rfl|rfl|rfl|rfl|rfl
 case inl.inr=>let⟨i,hi,rfl⟩:=zae hr;erw[yaz,yN];lia
 all_goals erw[yaz,yN];lia
theorem zoc:∀r,yaz r->okD r
 | .mark _,h=>h
 | .set _ _,h=>h.2
 | .times _ _ _ _,_ | .ask _,_ | .move _ _,_ | .bare _ _,_ | .twice _ _,_ | .half _ _,_ | .sum _ _ _,_ | .less _ _ _,_ | .both _ _ _,_ | .any _ _ _,_ | .odd _ _ _,_=>trivial
theorem ycE{pr:Prop}{nm:AR}{xs:List PV}{b:Bool}{vs:List PV}{ps:List T1}{rs:List Rw}{w n na:Nat}(hw:w<=16)(hn2:n<=4)(nl:nLs xs=AB)(i0:∀st,idxV st (.tp AC (.str nm::xs)) (.int 0)=AA (.str nm))
  (e0:yc T 18 zaM [.tp AC (.str nm::xs)] []=.ok (.tp b vs) []) (c1:yaL vs=AA ps) (c2:nLs vs=AB) (c3:isOk (yc T 16 zH [.tp b vs] []) (.bl AB)=AB) (c4:isOk (yc T 20 zb6 [.tp AC (.str nm::xs)] []) (.bl AB)=AB)
  (hp:pr->yc T 20 zR [.tp AC (.str nm::xs)] []=.ok (.bl AB) []) (pv:yp w n ps=rs.map yJ) (ok:∀r∈rs,yaz r) (hl:rs.length<=4000) (hr:yan w n ps<=4000) (ha:ak1 w n ps<=500000)
  (q3:yF .isin (.str nm) zaj=AA (.bl AC)) (hA:yc T 20 zC [.tp AC (.str nm::xs),.int n] []=.ok (.int na) []):ycy pr (.tp AC (.str nm::xs)) w n na rs:=by
 have nl:nL (.tp AC (.str nm::xs))=true:=by simp[nL,nLs,nl]
 generalize PV.tp AC (.str nm::xs)=d at *;have nl1:nLs [d]=true:=by simp[nLs,nl]
 have rw':∀x∈yp w n ps,ybC x:=λx hx=>by
  rw[pv,D0]at hx;let⟨r,hr,rfl⟩:=hx;exact zgc r (ok r hr)
 have ht:∀st,yc T (1+18) zaM [d] st=.ok (.tp b vs) st:=λst=>by
  have:=zav e0 1;rw[show 18+1=18+0+1 by lia]at this;exact zcq (f:=zaM) (fn:=zc8) rfl rfl rfl nl1 this st
 have hit:∀st,yc T (1+16) zH [.tp b vs] st=.ok (.bl AB) st:=λst=>by
  have:=zav (zcw c3) 1;exact zcq (f:=zH) (fn:=zbg) rfl rfl rfl (by simp[nLs,nL,c2]) this st
 have rows:=ziJ 1 (w:=w) (n:=n) nl ht c2 c1 (by lia) (by lia) (by lia) (by lia) (by rw[pv,Ax];exact hl) hr ha rw' hit [];rw[pv]at rows;have hT2:T zba=AA zan:=rfl;have nl2:nLs [d,.int n]=true:=by simp[nLs,nl,nL]
 refine⟨nl,zcw c4,hp,λst=>by rw[i0,B7,q3],rows,λr hr=>?_,hA,?_⟩
 .have hv:nL (yJ r)=true:=by cases r<;>rfl
  exact zlX hv (zgc r (ok r hr)) 9 []
 .rw[show (20:Nat)=19+1 from rfl,zc hT2 rfl rfl nl2];simp! [zan,i0,q3,IC.ve9];rfl
theorem aw{pb:Bool}{nm:AR}{xs:List PV}{n:Nat}(nl:nLs xs=AB)(i0:∀st,idxV st (.tp AC (.str nm::xs)) (.int 0)=AA (.str nm))(q1:yF .eq (.str nm) (.str "compare")=AA (.bl AC))(q2:yF .eq (.str nm) (.str "led")=AA (.bl AC))(q4:yF .isin (.str nm) zbu=AA (.bl pb)):yc T 20 zC [.tp AC (.str nm::xs),.int n] []=.ok (.int (if pb=AB then 2*n else n:Nat)) []:=by
 have nl:nL (.tp AC (.str nm::xs))=true:=by simp[nL,nLs,nl]
 generalize PV.tp AC (.str nm::xs)=d at *;have hT1:T zC=AA zB:=rfl;have nl2:nLs [d,.int n]=true:=by simp[nLs,nl,nL]
 rw[show (20:Nat)=19+1 from rfl,zc hT1 rfl rfl nl2]
 cases pb<;>simp! [zB,i0,q1,q2,q4]<;>rfl
def tgC:Rw->Prop
 | .mark _ | .ask _=>True
 | .set t _ | .move t _ | .bare t _ | .twice t _ | .half t _ | .sum t _ _ | .less t _ _ | .both t _ _ | .any t _ _ | .odd t _ _=>t.1≠99
 | .times a b _ _=>a.1≠99/\b.1≠99
theorem yds{W:Int}:∀(rs:List Rw) (M:Mem) (k:Int),(∀r∈rs,tgC r)->∀j,(yu W rs M k).1 99 j=M 99 j
 | [],M,k,_,j=>rfl
 |r::rs,M,k,h,j=>by
  have w1:∀(M:Mem) (t:Cel) (v:Int),t.1≠99->wr M t v 99 j=M 99 j:=λM t v ht=>by
   erw[wr,upd];rw[if_neg (λe=>ht e.1.symm)]
  rw[yu,yds rs _ _ (λa ha=>h a (by simp[ha])) j];have hr:=h r (by simp)
  cases r<;>first|rfl|exact w1 _ _ _ hr|exact(w1 _ _ _ hr.2).trans (w1 _ _ _ hr.1)
theorem zoT(n:Nat):∀r∈yq n,tgC r:=by
 intro r hr;erw[yq,Ar,AQ,A1,or_false]at hr;rcases hr with (rfl|hr)|rfl|rfl|rfl|rfl|rfl
 case inl.inr=>let⟨i,hi,rfl⟩:=zae hr;simp[tgC]
 all_goals simp[tgC]
theorem zjM{w:Nat}(hw:1<w){n:Nat}{x y:Int}(x0:0<=x)(x1:x<(2^w:Int)^(n+1))(y0:0<=y)(y1:y<(2^w:Int)^(n+1)) :
  yt (2^w) (yu (2^w) (yP (n+1)) (yZ (2^w) (n+1) x y) 0).1 99 (2*(n+1))=x*y:=by
 have hW:(0:Int)<2^w:=Af (by lia);have hg:=zcS (w:=w) (by lia) (n+1) x y;have hZ0:yZ (2^w) (n+1) x y 122 0=0:=zdR _ _ _ (by decide) (by decide) _;have hc0:yt (2^w) (yZ (2^w) (n+1) x y) 99 (n+1)=0:=(zbX hW (n+1) λi hi=>hg.1 99 i).2 λi hi=>zdR _ _ _ (by decide) (by decide) _;let⟨M1,e1,g1,o1,v1⟩:=zfJ (w:=w) (by lia) hg hZ0 hc0 (n+1);rw[zcL (n+1) x y hW x0 x1,zgs (n+1) x y hW y0 y1]at v1;rw[yP,yaj,zm,e1,<- v1,show 2*(n+1)=n+1+(n+1)by lia];refine zh _ λi _=>yds _ _ _ (λr hr=>?_) _;rcases Ar.1 hr with hr|hr
 .simp only[yas,AQ,Ar,A1,or_false]at hr;rcases hr with rfl|hr|rfl|rfl
  case inr.inl=>let⟨i,hi,rfl⟩:=zae hr;simp[tgC]
  all_goals simp[tgC]
 .exact zoT _ r hr
noncomputable abbrev cF:Cel:=(102,0)
noncomputable abbrev cG:Cel:=(103,0)
noncomputable abbrev cH:Cel:=(104,0)
def yau(to last:Cel)(sg:Bool):List Rw:=[if sg=AB then .twice cT last else .mark 0,.less to cZ cZ]
def yaA(N:Nat)(k:Nat):List Rw:=upTo (λi=>[.odd cT (97,(N:Int)+i) cG,.any cH cH cT]) k
def ybd(n e:Nat):List Rw:=yw (λi=>.move (99,(n:Int)+i) cF) e
def yb0(sr sm:Bool)(n N:Nat):List Rw:=yaU (min n N)++(yau cF (97,(n:Int) - 1) sr++(ybd n (N - n)++(yau cG (99,(N:Int) - 1) sm++(.odd cH cF cG::(yaA N (n - N)++(.ask cH :: .sum (109,1) cZ cZ::yq N))))))
theorem zgQ{P C t kG:Int}{sm:Bool}(c0:0<=C)(c1:C<P)(hk:kG=if sm=AB/\P<=2*C then 1 else 0):(if sm=AB then yaS P (C+P*t)else decide (0<=C+P*t) && decide (C+P*t<P))=decide (t=-kG):=by
 have hP:0<P:=by lia
 rcases (by lia:t<=-2 \/ t=-1 \/ t=0 \/ 1<=t)with h|rfl|rfl|h
 .have h1:P*t<=P*(-2):=B1 h (by lia);rw[decide_eq_false (by split at hk<;>lia:¬t=-kG)];generalize P*t=Q at *
  cases sm<;>simp[yaS]<;>lia
 .cases sm
  .rw[if_neg (by simp)]at hk ⊢;subst hk;simp;lia
  .by_cases q:P<=2*C
   .rw[if_pos ⟨rfl,q⟩]at hk;subst hk;simp[yaS];lia
   .rw[if_neg (by simp[q])]at hk;subst hk;simp[yaS];lia
 .cases sm
  .rw[if_neg (by simp)]at hk ⊢;subst hk;simp;lia
  .by_cases q:P<=2*C
   .rw[if_pos ⟨rfl,q⟩]at hk;subst hk;simp[yaS];lia
   .rw[if_neg (by simp[q])]at hk;subst hk;simp[yaS];lia
 .have h1:P*1<=P*t:=B1 h (by lia);rw[decide_eq_false (by split at hk<;>lia:¬t=-kG)];generalize P*t=Q at *
  cases sm<;>simp[yaS]<;>lia
theorem zfl{W:Int}(hW:0<W):∀(k:Nat) (D:Int),0<=D->D<W^k->((∀i:Nat,i<k->D / W^i%W=0) ↔ D=0)
 |0,D,h0,h1=>⟨λ_=>by simp at h1;lia,λ_ i hi=>by lia⟩
 |k+1,D,h0,h1=>by
  have hd:D / W<W^k:=BY hW (by rw[<- Ae];exact h1);have ih:=zfl hW k (D / W) (Bq h0 (by lia)) hd;have e:=BE D W;constructor
  .intro h;have a:=h 0 (by lia);rw[CT,DD]at a;have b:=ih.1 λi hi=>by
    have:=h (i+1) (by lia);rw[Ae,A7 (W^i),<- BO (by lia)]at this;exact this
   rw[a,b]at e;simp at e;exact e.symm
  .rintro rfl i _
   simp
theorem zeT{W:Int}(hW:0<W):∀(k:Nat) (D:Int),0<=D->D<W^k->((∀i:Nat,i<k->D / W^i%W=W - 1) ↔ D=W^k - 1)
 |0,D,h0,h1=>⟨λ_=>by simp at h1;rw[CT];lia,λ_ i hi=>by lia⟩
 |k+1,D,h0,h1=>by
  have hd:D / W<W^k:=BY hW (by rw[<- Ae];exact h1);have ih:=zeT hW k (D / W) (Bq h0 (by lia)) hd;have e:=BE D W;have hs:∀i:Nat,D / W^(i+1)%W=D / W / W^i%W:=λi=>by
   rw[Ae,A7 (W^i),<- BO (by lia)]
  constructor
  .intro h;have a:=h 0 (by lia);rw[CT,DD]at a;have b:=ih.1 λi hi=>by rw[<- hs];exact h (i+1) (by lia)
   rw[a,b,CB]at e;rw[Ae,A7];generalize W*W^k=Q at *;lia
  .intro h;have e2:D=(W - 1)+W*(W^k - 1):=by
    rw[h,Ae,A7,CB];generalize W*W^k=Q at *;lia
   have e3:D%W=W - 1:=by
    rw[e2,BZ];exact A3 (by lia) (by lia)
   have e4:D / W=W^k - 1:=by
    rw[e2,Int.add_mul_ediv_left _ _ (by lia),BU (by lia) (by lia),GO]
   intro i hi
   cases i with
   |zero=>rw[CT,DD];exact e3
   |succ i=>rw[hs];exact ih.2 e4 i (by lia)
theorem zde{w:Nat}(hw:1<w)(M:Mem){k:Int}(k0:0<=k)(k1:k<=1)(to last:Cel)(sg:Bool)(ht:to.1≠116)(hl:last.1≠116)(hz:M 122 0=0)(l0:0<=rd M last)(l1:rd M last<2^w) :
  ∃M' k',yu (2^w) (yau to last sg) M k=(M',k')/\0<=k'/\k'<=1/\k'=(if sg=AB then tb w (rd M last)else 0)/\M' to.1 to.2=k' * (2^w - 1)/\∀d j,d≠116->(d≠to.1 \/ j≠to.2)->M' d j=M d j:=by
 have hW4:(4:Int)<=2^w:=by
  have h:(2:Nat)^2<=2^w:=Al (by lia) (by lia);have h2:=pw w;lia
 have hv:∀q:Int,0<=q->q<=1->(0 - 0 - q)%(2:Int)^w=q*(2^w - 1)/\bi (decide (0 - 0 - q<0))=q:=λq q0 q1=>by
  rcases (by lia:q=0 \/ q=1)with rfl|rfl
  .simp;rfl
  .refine⟨?_,rfl⟩;rw[show (0:Int) - 0 - 1=(2^w - 1)+2^w*(-1)by lia,BZ,A3 (by lia) (by lia),Ak]
 cases sg
 .simp only[yau,yu,stepM,BW,if_false,rd,cZ,hz];let⟨a,b⟩:=hv 0 (by lia) (by lia);refine⟨_,_,rfl,?_,?_,?_,?_,λd j h1 h2=>?_⟩
  .rw[b];lia
  .rw[b];lia
  .rw[b]
  .rw[b];simp[wr,upd]
  .simp only[wr,upd];rw[if_neg (by lia)]
 .have hm:(2*rd M last+k) / 2^w=tb w (rd M last):=by
   have hH:(2:Int)^w=2*2^(w - 1):=by
    obtain⟨v,rfl⟩:∃v,w=v+1:=⟨w - 1,by lia⟩;rw[show v+1 - 1=v by lia,Ae,A7]
   unfold tb;rw[hH,<- BO (by lia),<- BO (by lia),show (2*rd M last+k) / 2=rd M last by lia,show 2*rd M last / 2=rd M last by lia]
  have hq:0<=tb w (rd M last)/\tb w (rd M last)<=1:=by
   rw[zjg (by lia) l0 l1];split<;>lia
  let⟨a,b⟩:=hv _ hq.1 hq.2;have hz2:∀v:Int,wr M cT v 122 0=0:=λv=>by simp[wr,upd,hz]
  erw[yau,yu,stepM,if_true,hm];refine⟨_,_,rfl,?_,?_,?_,?_,λd j h1 h2=>?_⟩<;>erw[rd,cZ,hz2]
  .rw[show bi (decide (0 - 0 - tb w (M last.1 last.2)<0))=tb w (M last.1 last.2)from b];exact hq.1
  .rw[show bi (decide (0 - 0 - tb w (M last.1 last.2)<0))=tb w (M last.1 last.2)from b];exact hq.2
  .exact b
  .rw[show bi (decide (0 - 0 - tb w (M last.1 last.2)<0))=tb w (M last.1 last.2)from b,show (0 - 0 - tb w (M last.1 last.2))%2^w=tb w (M last.1 last.2)*(2^w - 1)from a];simp[wr,upd]
  .simp only[wr,upd,cT];rw[if_neg (by lia),if_neg (by lia)]
theorem zfv{W:Int}(M:Mem)(k:Int)(n:Nat):∀e:Nat,(yu W (ybd n e) M k).2=k/\(∀(d:Nat) (j:Int),(d≠99 \/ j<n)->(yu W (ybd n e) M k).1 d j=M d j)/\∀i:Nat,i<e->(yu W (ybd n e) M k).1 99 ((n+i:Nat):Int)=M 102 0
 |0=>⟨rfl,λ_ _ _=>rfl,λi hi=>by lia⟩
 |e+1=>by
  let⟨h1,h2,h3⟩:=zfv (W:=W) M k n e;have ee:ybd n (e+1)=ybd n e++[.move (99,(n:Int)+e) cF]:=rfl;rw[ee,zm];generalize yu W (ybd n e) M k=R at *;let⟨M1,k'⟩:=R;simp only at *;subst h1;erw[yu,stepM,wr,rd,cF];refine⟨trivial,λd j hd=>?_,λi hi=>?_⟩
  .unfold upd;rw[if_neg (by lia),h2 d j hd]
  .unfold upd
   by_cases hin:i=e
   .subst hin;rw[if_pos ⟨rfl,by lia⟩,h2 102 0 (.inl (by decide))]
   .rw[if_neg (by lia)];exact h3 i (by lia)
theorem zfN{a b:Int}(a0:0<=a)(b0:0<=b):0<=BB a b/\(BB a b=0 ↔ a=b):=by
 obtain⟨x,rfl⟩:∃x:Nat,a=x:=⟨a.toNat,by lia⟩;obtain⟨y,rfl⟩:∃y:Nat,b=y:=⟨b.toNat,by lia⟩;rw[zje];refine⟨by lia,?_⟩;have:x ^^^ y=0 ↔ x=y:=⟨λh=>by
  have e:(x ^^^ y) ^^^ y=x:=by rw[Nat.xor_assoc,HN,Nat.xor_zero]
  rw[h,Nat.zero_xor]at e;exact e.symm,λh=>by rw[h,HN]⟩
 lia
theorem zoz{a b:Int}(a0:0<=a)(b0:0<=b):0<=Bd a b:=by
 obtain⟨x,rfl⟩:∃x:Nat,a=x:=⟨a.toNat,by lia⟩;obtain⟨y,rfl⟩:∃y:Nat,b=y:=⟨b.toNat,by lia⟩;rw[zd7];lia
theorem zeX{W:Int}(M:Mem)(k:Int)(N:Nat)(hH:0<=M 104 0)(hG:0<=M 103 0):∀e:Nat,(∀i:Nat,i<e->0<=M 97 ((N+i:Nat):Int)) ->
  (yu W (yaA N e) M k).2=k/\(∀d j,d≠116->d≠104->(yu W (yaA N e) M k).1 d j=M d j)/\0<=(yu W (yaA N e) M k).1 104 0/\((yu W (yaA N e) M k).1 104 0=0 ↔ M 104 0=0/\∀i:Nat,i<e->M 97 ((N+i:Nat):Int)=M 103 0)
 |0,_=>⟨rfl,λ_ _ _ _=>rfl,hH,by simp[yaA,upTo,yu]⟩
 |e+1,h=>by
  let⟨h1,h2,h3,h4⟩:=zeX (W:=W) M k N hH hG e λi hi=>h i (by lia);have ee:yaA N (e+1)=yaA N e++[.odd cT (97,(N:Int)+e) cG,.any cH cH cT]:=rfl;rw[ee,zm];generalize yu W (yaA N e) M k=R at *;let⟨M1,k'⟩:=R;simp only at *;subst h1;have hb:=h e (by lia);let⟨x0,x1⟩:=zfN hb hG;have z0:=zoz h3 x0;have z1:=zfQ h3 x0;have hc:(N:Int)+(e:Int)=((N+e:Nat):Int):=by lia
  erw[yu,stepM,wr,rd,cT,cG,cH,hc,h2 97 _ (by decide) (by decide),h2 103 _ (by decide) (by decide)];erw[upd,Cg,false_and,if_false,and_self,if_true];refine⟨trivial,λd j a b=>?_,z0,?_⟩
  .rw[if_neg (by lia),if_neg (by lia),h2 d j a b]
  .rw[z1,h4,x1];constructor
   .rintro⟨⟨a,b⟩,c⟩
    refine⟨a,λi hi=>?_⟩;rcases CF i e with z|z
    .exact b i z
    .rw[show i=e by lia];exact c
   .rintro⟨a,b⟩
    exact⟨⟨a,λi hi=>b i (by lia)⟩,b e (by lia)⟩
theorem zeQ{W:Int}{M:Mem}{n:Nat}{v q:Int}(hq:q=0 \/ q=1)(h1:yt W M 99 n=v):∀e:Nat,(∀i:Nat,i<e->M 99 ((n+i:Nat):Int)=q*(W - 1))->yt W M 99 (n+e)=v+q*(W^(n+e) - W^n)
 |0,_=>by rw[Nat.add_zero,h1,Int.sub_self,FJ,BJ]
 |e+1,h=>by
  rw[show n+(e+1)=n+e+1 by lia,yt,zeQ hq h1 e λi hi=>h i (by lia),h e (by lia),Ae];generalize W^(n+e)=P;generalize W^n=R;rcases hq with rfl|rfl
  .simp
  .rw[Ak,Ak,Ak,Bm,A7 P W,Ak];lia
theorem zms{W x xr k3:Int}{n N:Nat}{A M3:Mem}(hW:0<W)(x0:0<=x)(x1:x<W^(n+1))(hxk:xr=x - k3*W^(n+1))(hq:k3=0 \/ k3=1)(hVa:yt W A 97 (n+1)=x)(hAd:∀i:Nat,i<n+1->A 97 i=x / W^i%W)
  (c3:∀i:Nat,i<n+1->i<N+1->M3 99 i=A 97 i) (w3:∀i:Nat,i<N+1 - (n+1)->M3 99 ((n+1+i:Nat):Int)=k3*(W - 1)) :
  ∃t:Int,xr=yt W M3 99 (N+1)+W^(N+1)*t/\∀kG:Int,(kG=0 \/ kG=1)->((k3=kG/\∀i:Nat,i<n+1 - (N+1)->A 97 ((N+1+i:Nat):Int)=kG*(W - 1)) ↔ t=-kG):=by
 by_cases hle:n+1<=N+1
 .obtain⟨e,he⟩:∃e,N+1=n+1+e:=⟨N - n,by lia⟩;have hv0:yt W M3 99 (n+1)=x:=(zh (M':=A) (c':=97) (n+1) λi hi=>c3 i hi (by lia)).trans hVa;have hv:=zeQ hq hv0 e λi hi=>w3 i (by lia);rw[<- he]at hv;refine⟨-k3,?_,λkG hk=>?_⟩
  .rw[hxk,hv,HY,A7 (W^(N+1)),CB];lia
  .constructor
   .rintro⟨rfl,_⟩;rfl
   .intro h;exact⟨by lia,λi hi=>by lia⟩
 .obtain⟨e,he⟩:∃e,n+1=N+1+e:=⟨n - N,by lia⟩;have hP:0<W^(N+1):=Af hW;have hQ:0<W^e:=Af hW;have hv:yt W M3 99 (N+1)=x%W^(N+1):=zc3 hW (N+1) λi hi=>by rw[c3 i (by lia) hi,hAd i (by lia)]
  have hD0:0<=x / W^(N+1):=Bq x0 (by lia);have hD1:x / W^(N+1)<W^e:=BY hP (by rw[A7,<- DA,<- he];exact x1);have hdg:∀i:Nat,i<e->A 97 ((N+1+i:Nat):Int)=x / W^(N+1) / W^i%W:=λi hi=>by
   rw[hAd _ (by lia),DA,BO (by lia)]
  have hm:=BE x (W^(N+1));have hz:=zfl hW e _ hD0 hD1;have hf:=zeT hW e _ hD0 hD1;refine⟨x / W^(N+1) - k3*W^e,?_,λkG hk=>?_⟩
  .rw[hxk,hv,he,DA,CB,C7 (W^(N+1)) k3];generalize k3*(W^(N+1)*W^e)=Y;lia
  .rw[show n+1 - (N+1)=e by lia];rcases hk with rfl|rfl
   .have:(∀i:Nat,i<e->A 97 ((N+1+i:Nat):Int)=0*(W - 1)) ↔ x / W^(N+1)=0:=by
     rw[<- hz];exact⟨λh i hi=>by rw[<- hdg i hi,h i hi,Aq],λh i hi=>by rw[hdg i hi,h i hi,Aq]⟩
    rw[this];generalize x / W^(N+1)=D at *;rcases hq with rfl|rfl
    .rw[Aq];lia
    .rw[Ak];lia
   .have:(∀i:Nat,i<e->A 97 ((N+1+i:Nat):Int)=1*(W - 1)) ↔ x / W^(N+1)=W^e - 1:=by
     rw[<- hf];exact⟨λh i hi=>by rw[<- hdg i hi,h i hi,Ak],λh i hi=>by rw[hdg i hi,h i hi,Ak]⟩
    rw[this];generalize x / W^(N+1)=D at *;rcases hq with rfl|rfl
    .rw[Aq];lia
    .rw[Ak];lia
theorem zjw{w:Nat}(hw:1<w)(sm:Bool){n N:Nat}{A M3:Mem}{k3 xr t:Int}(hW:(0:Int)<2^w)(hW4:(4:Int)<=2^w)(f0:0<=k3)(f1:k3<=1)(hq:k3=0 \/ k3=1)(da:Dg (2^w) A 97 (n+1))(o3:∀d j,d≠99->d≠116->(d≠102 \/ j≠0)->M3 d j=A d j)(hZ0:A 122 0=0)(hM0:∀i,A 109 i=0)(d3:Dg (2^w) M3 99 (N+1))(hF3:M3 102 0=k3*(2^w - 1))(hFr:0<=k3*((2:Int)^w - 1)/\k3*((2:Int)^w - 1)<2^w)(ht:xr=yt (2^w) M3 99 (N+1)+(2^w:Int)^(N+1)*t)
  (htk:∀kG:Int,(kG=0 \/ kG=1)->((k3=kG/\∀i:Nat,i<n+1 - (N+1)->A 97 ((N+1+i:Nat):Int)=kG*(2^w - 1)) ↔ t=-kG)) (hr3:0<=yt (2^w) M3 99 (N+1)/\yt (2^w) M3 99 (N+1)<(2^w:Int)^(N+1)) (hmod:xr%(2^w:Int)^(N+1)=yt (2^w) M3 99 (N+1)) :
  yt (2^w) (yu (2^w) (yau cG (99,(N:Int)) sm++Rw.odd cH cF cG::(yaA (N+1) (n+1 - (N+1))++Rw.ask cH::Rw.sum (109,1) cZ cZ::yq (N+1))) M3 k3).1 99 (N+1)=xr%(2^w:Int)^(N+1)/\(yu (2^w) (yau cG (99,(N:Int)) sm++Rw.odd cH cF cG::(yaA (N+1) (n+1 - (N+1))++Rw.ask cH::Rw.sum (109,1) cZ cZ::yq (N+1))) M3 k3).1 109 0=0/\(yu (2^w) (yau cG (99,(N:Int)) sm++Rw.odd cH cF cG::(yaA (N+1) (n+1 - (N+1))++Rw.ask cH::Rw.sum (109,1) cZ cZ::yq (N+1))) M3 k3).1 109 1=bi (!(if sm=AB then yaS ((2^w:Int)^(N+1)) xr else decide (0<=xr) && decide (xr<(2^w:Int)^(N+1))))/\(yu (2^w) (yau cG (99,(N:Int)) sm++Rw.odd cH cF cG::(yaA (N+1) (n+1 - (N+1))++Rw.ask cH::Rw.sum (109,1) cZ cZ::yq (N+1))) M3 k3).1 109 2=bi (xr%(2^w:Int)^(N+1) == 0)/\(yu (2^w) (yau cG (99,(N:Int)) sm++Rw.odd cH cF cG::(yaA (N+1) (n+1 - (N+1))++Rw.ask cH::Rw.sum (109,1) cZ cZ::yq (N+1))) M3 k3).1 109 3=bi (decide ((2^w:Int)^(N+1)<=2*(xr%(2^w:Int)^(N+1)))):=by
 let⟨M4,kG,r4,g0,g1,g2,g3,g4⟩:=zde hw M3 (k:=k3) f0 f1 cG (99,N) sm (by decide) (by simp) (by rw[o3 122 0 (by decide) (by decide) (.inl (by decide))];exact hZ0) (d3 N (by lia)).1 (d3 N (by lia)).2;rw[zm,r4];have hkG:kG=if sm=AB/\(2^w:Int)^(N+1)<=2*yt (2^w) M3 99 (N+1)then 1 else 0:=by
  rw[g2,rd]
  cases sm
  .simp
  .simp only[if_true,true_and];exact zaH (by lia) d3
 have hkk:kG=0 \/ kG=1:=by lia
 have hfit:=zgQ (t:=t) hr3.1 hr3.2 hkG;rw[<- ht]at hfit;have hGr:0<=kG*((2:Int)^w - 1):=by rcases hkk with rfl|rfl<;>lia
 simp only at g3 g4;have hF4:M4 102 0=k3*(2^w - 1):=by rw[g4 102 0 (by decide) (.inl (by decide))];exact hF3
 have hx:=zfN (a:=k3*(2^w - 1)) (b:=kG*(2^w - 1)) hFr.1 hGr;have hst:stepM (2^w) M4 kG (.odd cH cF cG)=(wr M4 cH (BB (k3*(2^w - 1)) (kG*(2^w - 1))),kG):=by
  erw[stepM,rd];rw[show M4 103 0=kG*(2^w - 1)from g3,hF4]
 simp only;rw[zG,hst];simp only;have h5:∀d j,(d≠104 \/ j≠0)->wr M4 cH (BB (k3*(2^w - 1)) (kG*(2^w - 1))) d j=M4 d j:=λd j h=>by
  erw[wr,upd,cH];rw[if_neg (by lia)]
 have h5b:wr M4 cH (BB (k3*(2^w - 1)) (kG*(2^w - 1))) 104 0=BB (k3*(2^w - 1)) (kG*(2^w - 1)):=by simp[wr,upd]
 generalize wr M4 cH (BB (k3*(2^w - 1)) (kG*(2^w - 1)))=M5 at *;have o5:∀d j,d≠116->d≠102->d≠103->d≠104->M5 d j=M3 d j:=λd j a b c e=>by
  rw[h5 d j (.inl e),g4 d j a (.inl c)]
 have a5:∀j,M5 97 j=A 97 j:=λj=>by rw[o5 97 j (by decide) (by decide) (by decide) (by decide),o3 97 j (by decide) (by decide) (.inl (by decide))]
 have hG5:M5 103 0=kG*(2^w - 1):=by rw[h5 103 0 (.inl (by decide))];exact g3
 let⟨q1,q2,q3,q4⟩:=zeX (W:=2^w) M5 kG (N+1) (by rw[h5b];exact hx.1) (by rw[hG5];exact hGr) (n+1 - (N+1)) (λi hi=>by rw[a5];exact(da _ (by lia)).1);rw[zm];generalize yu (2^w) (yaA (N+1) (n+1 - (N+1))) M5 kG=R6 at *;let⟨M6,k6⟩:=R6;simp only at q1 q2 q3 q4 ⊢;subst q1;have hH:M6 104 0=0 ↔ t=-k6:=by
  rw[q4,h5b,hx.2,<- htk k6 hkk,hG5];constructor
  .rintro⟨a,b⟩
   refine⟨?_,λi hi=>by rw[<- a5];exact b i hi⟩;rcases hq with rfl|rfl<;>rcases hkk with rfl|rfl<;>lia
  .rintro⟨rfl,b⟩
   exact⟨rfl,λi hi=>by rw[a5];exact b i hi⟩
 have z6:M6 122 0=0:=by rw[q2 122 0 (by decide) (by decide),o5 122 0 (by decide) (by decide) (by decide) (by decide),o3 122 0 (by decide) (by decide) (.inl (by decide))];exact hZ0
 have m6:∀i,M6 109 i=0:=λi=>by rw[q2 109 i (by decide) (by decide),o5 109 i (by decide) (by decide) (by decide) (by decide),o3 109 i (by decide) (by decide) (.inl (by decide))];exact hM0 i
 have c6:∀i,M6 99 i=M3 99 i:=λi=>by rw[q2 99 i (by decide) (by decide),o5 99 i (by decide) (by decide) (by decide) (by decide)]
 have hb:bi (!(M6 104 0 == 0))=bi (!(decide (t=-k6))):=by
  by_cases z:t=-k6
  .rw[hH.2 z,decide_eq_true z];rfl
  .rw[decide_eq_false z,beq_eq_false_iff_ne.2 λy=>z (hH.1 y)]
 have hs1:stepM (2^w) M6 k6 (.ask cH)=(M6,bi (!(decide (t=-k6)))):=by
  erw[stepM,rd];rw[hb]
 rw[zG,hs1];have hbr:=zca (!(decide (t=-k6)));generalize hbv:bi (!(decide (t=-k6)))=v at *;have hs2:stepM (2^w) M6 v (.sum (109,1) cZ cZ)=(wr M6 (109,1) v,0):=by
  erw[stepM,rd,cZ,z6];rw[show (0:Int)+0+v=v by lia,A3 hbr.1 (by lia),BU hbr.1 (by lia)]
 simp only;rw[zG,hs2];simp only;have j1:∀d j,(d≠109 \/ j≠1)->wr M6 (109,1) v d j=M6 d j:=λd j h=>by
  erw[wr,upd];rw[if_neg (by lia)]
 have j2:wr M6 (109,1) v 109 1=v:=by simp[wr,upd]
 generalize wr M6 (109,1) v=M7 at *;have c7:∀i:Nat,i<N+1->M7 99 i=M3 99 i:=λi _=>by rw[j1 99 i (.inl (by decide)),c6]
 have d7:Dg (2^w) M7 99 (N+1):=λi hi=>by rw[c7 i hi];exact d3 i hi
 let⟨e1,e2,e3,e4,e5⟩:=zeF hw M7 0 d7 (by rw[j1 122 0 (.inl (by decide)),z6]);have v7:yt (2^w) M7 99 (N+1)=yt (2^w) M3 99 (N+1):=zh _ c7;rw[zh (M':=M7) (c':=99) _ λi hi=>e1 i,e2,e3,e4,e5,v7,j2,j1 109 0 (.inr (by decide)),m6,hmod,hfit,hbv];exact⟨rfl,rfl,rfl,rfl,rfl⟩
theorem zkg{w:Nat}(hw:1<w)(sr sm:Bool){n N:Nat}{x:Int}(x0:0<=x)(x1:x<(2^w:Int)^(n+1)){xr:Int}(hxr:xr=if sr=AB then sgd ((2^w:Int)^(n+1)) x else x) :
  yt (2^w) (yu (2^w) (yb0 sr sm (n+1) (N+1)) (yZ (2^w) (n+1) x 0) 0).1 99 (N+1)=xr%(2^w:Int)^(N+1) /\
  (yu (2^w) (yb0 sr sm (n+1) (N+1)) (yZ (2^w) (n+1) x 0) 0).1 109 0=0 /\
  (yu (2^w) (yb0 sr sm (n+1) (N+1)) (yZ (2^w) (n+1) x 0) 0).1 109 1=bi (!(if sm=AB then yaS ((2^w:Int)^(N+1)) xr else decide (0<=xr) && decide (xr<(2^w:Int)^(N+1)))) /\
  (yu (2^w) (yb0 sr sm (n+1) (N+1)) (yZ (2^w) (n+1) x 0) 0).1 109 2=bi (xr%(2^w:Int)^(N+1) == 0) /\
  (yu (2^w) (yb0 sr sm (n+1) (N+1)) (yZ (2^w) (n+1) x 0) 0).1 109 3=bi (decide ((2^w:Int)^(N+1)<=2*(xr%(2^w:Int)^(N+1)))):=by
 have hW:(0:Int)<2^w:=Af (by lia);have hW4:(4:Int)<=2^w:=by
  have h:(2:Nat)^2<=2^w:=Al (by lia) (by lia);have h2:=pw w;lia
 have da:=zgb (n+1) x 0 hW;have hZ0:yZ (2^w) (n+1) x 0 122 0=0:=zdR _ _ _ (by decide) (by decide) _;have hM0:∀i,yZ (2^w) (n+1) x 0 109 i=0:=λi=>zdR _ _ _ (by decide) (by decide) _;have hAt:tb w (yZ (2^w) (n+1) x 0 97 n)=if (2^w:Int)^(n+1)<=2*x then 1 else 0:=by
  rw[zaH (by lia) da,zcL _ _ _ hW x0 x1]
 have hAd:∀i:Nat,i<n+1->yZ (2^w) (n+1) x 0 97 i=x / (2^w)^i%2^w:=λi hi=>zlQ _ _ _ hW hi;have hVa:=zcL (n+1) x 0 hW x0 x1;generalize yZ (2^w) (n+1) x 0=A at *;let⟨p1,p2,p3⟩:=zge (W:=2^w) A 0 (λi=>.move (99,i) (97,i)) (λi=>A 97 i) (λM1 i h=>by erw[stepM,rd,h 97 i (by decide)]) (min (n+1) (N+1));have e0:yaU (min (n+1) (N+1))=yw (λi=>.move (99,i) (97,i)) (min (n+1) (N+1)):=rfl;rw[yb0,e0,zm];generalize yu (2^w) (yw (λi=>.move (99,i) (97,i)) (min (n+1) (N+1))) A 0=R1 at *;let⟨M1,k1⟩:=R1;simp only at p1 p2 p3 ⊢;subst p1;have hn1:((n+1:Nat):Int) - 1=n:=by lia
 have hN1:((N+1:Nat):Int) - 1=N:=by lia
 rw[hn1,hN1];let⟨M2,kF,r2,f0,f1,f2,f3,f4⟩:=zde hw M1 (k:=0) (by lia) (by lia) cF (97,n) sr (by decide) (by simp) (by rw[p2 122 0 (by decide)];exact hZ0) (by rw[rd,p2 97 n (by decide)];exact(da n (by lia)).1) (by rw[rd,p2 97 n (by decide)];exact(da n (by lia)).2);have f2:kF=if sr=AB then tb w (A 97 n)else 0:=by rw[f2,rd,p2 97 n (by decide)]
 rw[zm,r2];simp only at f3 f4 ⊢;let⟨w1,w2,w3⟩:=zfv (W:=2^w) M2 kF (n+1) (N+1 - (n+1));rw[zm];generalize yu (2^w) (ybd (n+1) (N+1 - (n+1))) M2 kF=R3 at *;let⟨M3,k3⟩:=R3;simp only at w1 w2 w3 ⊢;subst w1;have c3:∀i:Nat,i<n+1->i<N+1->M3 99 i=A 97 i:=λi h1 h2=>by
  rw[w2 99 i (.inr (by lia)),f4 99 i (by decide) (.inl (by decide)),p3 i (by lia)]
 have o3:∀d j,d≠99->d≠116->(d≠102 \/ j≠0)->M3 d j=A d j:=λd j h1 h2 h3=>by
  rw[w2 d j (.inl h1),f4 d j h2 h3,p2 d j h1]
 have hF3:M3 102 0=k3*(2^w - 1):=by rw[w2 102 0 (.inl (by decide))];exact f3
 have hq:k3=0 \/ k3=1:=by lia
 have hFr:0<=k3*((2:Int)^w - 1)/\k3*((2:Int)^w - 1)<2^w:=by
  rcases hq with rfl|rfl<;>lia
 have d3:Dg (2^w) M3 99 (N+1):=λi hi=>by
  by_cases h:i<n+1
  .rw[c3 i h hi];exact da i h
  .have:=w3 (i - (n+1)) (by lia);rw[show n+1+(i - (n+1))=i by lia]at this;rw[this,f3];exact hFr
 have hC:=zms (n:=n) (N:=N) hW x0 x1 (by
   rw[hxr,f2,hAt];unfold sgd
   cases sr
   .simp
   .simp only[if_true]
    by_cases q:(2^w:Int)^(n+1)<=2*x
    .rw[if_pos q,if_pos q,Ak]
    .rw[if_neg q,if_neg q,Aq,Int.sub_zero]:xr=x - k3*(2^w:Int)^(n+1)) hq hVa hAd c3 (λi hi=>by rw[w3 i hi,f3])
 let⟨t,ht,htk⟩:=hC;have hr3:=zaE hW (N+1) d3;have hmod:xr%(2^w:Int)^(N+1)=yt (2^w) M3 99 (N+1):=by
  rw[ht,BZ];exact A3 hr3.1 hr3.2
 exact zjw hw sm hW hW4 f0 f1 hq da o3 hZ0 hM0 d3 hF3 hFr ht htk hr3 hmod
noncomputable abbrev cI:Cel:=(105,0)
noncomputable abbrev cJ:Cel:=(106,0)
noncomputable abbrev cP:Cel:=(112,0)
noncomputable abbrev cW:Cel:=(119,0)
def yac(c2:Nat)(sg:Cel)(n I:Nat):List Rw:=[.times cL cHi (c2,I) sg,.less (99,(n:Int)+I) (99,(n:Int)+I) cL]
def yap(c2:Nat)(sg:Cel)(n:Nat):List Rw:=upTo (yac c2 sg n) n
def yae(n:Nat):List Rw:=upTo (λi=>[.odd cT (99,(n:Int)+i) cG,.any cW cW cT]) n
def yaa(n:Nat):List Rw:=[.twice cT (97,(n:Int) - 1),.sum cI cZ cZ,.twice cT (98,(n:Int) - 1),.sum cJ cZ cZ]
def yM(n:Nat):List Rw:=yaa n++(yaj n++(yap 98 cI n++(.sum cP cZ cZ::(yap 97 cJ n++(yau cG (99,(n:Int) - 1) AB++(yae n++(.ask cW :: .sum (109,1) cZ cZ::yq (2*n))))))))
theorem zcB{w:Nat}(hw:1<=w){c2:Nat}{sg:Cel}{n:Nat}(hc:c2=97 \/ c2=98)(hsg:sg=cI \/ sg=cJ){M:Mem}(hg:Good w M 0)(s:Int)(hs:rd M sg=s)(s01:s=0 \/ s=1):∀j:Nat,∃M' k',yu (2^w) (upTo (yac c2 sg n) j) M 0=(M',k')/\Good w M' k'/\(∀d (i:Int),d≠108->d≠104->(d≠99 \/ i<n \/ (n:Int)+j<=i)->M' d i=M d i) /\
  yt (2^w) (sh n M') 99 j=yt (2^w) (sh n M) 99 j - s*yt (2^w) M c2 j+k' * (2^w)^j
 |0=>⟨M,0,rfl,hg,λ_ _ _ _ _=>rfl,by simp[yt]⟩
 |j+1=>by
  let⟨M1,k1,e1,g1,o1,v1⟩:=zcB hw (n:=n) hc hsg hg s hs s01 j;have hW2:=zg0 hw;have hc2:c2≠108/\c2≠104/\c2≠99:=by rcases hc with rfl|rfl<;>decide
  have hA:M1 c2 j=M c2 j:=o1 c2 j hc2.1 hc2.2.1 (.inl hc2.2.2);have hS:rd M1 sg=s:=by
   rw[<- hs];rcases hsg with rfl|rfl
   .exact o1 105 0 (by decide) (by decide) (.inl (by decide))
   .exact o1 106 0 (by decide) (by decide) (.inl (by decide))
  have hC:M1 99 ((n+j:Nat):Int)=M 99 ((n+j:Nat):Int):=o1 99 _ (by decide) (by decide) (.inr (.inr (by lia)));have hcc:(n:Int)+(j:Int)=((n+j:Nat):Int):=by lia
  let⟨a0,a1⟩:=hg.1 c2 j;let⟨c0,c1⟩:=hg.1 99 ((n+j:Nat):Int);let⟨_,k0,k1'⟩:=id g1;have hp:M c2 j*s%2^w=M c2 j*s:=by
   rcases s01 with rfl|rfl
   .simp
   .rw[Cr];exact A3 a0 a1
  have hpr:0<=M c2 j*s/\M c2 j*s<2^w:=by
   rcases s01 with rfl|rfl
   .rw[FJ];lia
   .rw[Cr];exact⟨a0,a1⟩
  have hgg:=zbU hw (yac c2 sg n j) g1 (λr hr=>by
   erw[yac,AQ,A1,or_false]at hr;rcases hr with rfl|rfl<;>trivial)
  have hrun:yu (2^w) (yac c2 sg n j) M1 k1=(wr (wr (wr M1 cL (M c2 j*s)) cHi (M c2 j*s / 2^w)) (99,((n+j:Nat):Int)) ((M 99 ((n+j:Nat):Int) - M c2 j*s - k1)%2^w),bi (decide (M 99 ((n+j:Nat):Int) - M c2 j*s - k1<0))):=by
   erw[yac,yu,stepM,hS,hcc];have r1:rd M1 (c2,(j:Int))=M c2 j:=hA;rw[r1,hp];have r2:rd (wr (wr M1 cL (M c2 j*s)) cHi (M c2 j*s / 2^w)) (99,((n+j:Nat):Int))=M 99 ((n+j:Nat):Int):=by
    erw[rd,wr,upd,cL,cHi];simp;exact hC
   have r3:rd (wr (wr M1 cL (M c2 j*s)) cHi (M c2 j*s / 2^w)) cL=M c2 j*s:=by
    simp[rd,wr,upd]
   rw[r2,r3]
  rw[hrun]at hgg;refine⟨_,_,by rw[upTo,zm,e1];exact hrun,hgg,λd i h1 h2 h3=>?_,?_⟩
  .simp only[wr,upd,cL,cHi,h1,h2,false_and,if_false];rw[if_neg (by lia),o1 d i h1 h2 (by lia)]
  .have hv:yt (2^w) (sh n (wr (wr (wr M1 cL (M c2 j*s)) cHi (M c2 j*s / 2^w)) (99,((n+j:Nat):Int)) ((M 99 ((n+j:Nat):Int) - M c2 j*s - k1)%2^w))) 99 j=yt (2^w) (sh n M1) 99 j:=zh j λt ht=>by
    rw[zcc,zcc];erw[wr,upd,cL,cHi];simp;lia
   have ht:sh n (wr (wr (wr M1 cL (M c2 j*s)) cHi (M c2 j*s / 2^w)) (99,((n+j:Nat):Int)) ((M 99 ((n+j:Nat):Int) - M c2 j*s - k1)%2^w)) 99 j=(M 99 ((n+j:Nat):Int) - M c2 j*s - k1)%2^w:=by
    rw[zcc];simp[wr,upd]
   rw[yt,hv,ht,v1,yt,zcc,yt,Ae];generalize hx:M c2 j*s=x at *;have hb:(M 99 ((n+j:Nat):Int) - x - k1)%2^w=M 99 ((n+j:Nat):Int) - x - k1+bi (decide (M 99 ((n+j:Nat):Int) - x - k1<0))*2^w:=by
    by_cases q:M 99 ((n+j:Nat):Int) - x - k1<0
    .rw[decide_eq_true q,show bi AB=1 from rfl,Ak,<- DO,A3 (by lia) (by lia)]
    .rw[decide_eq_false q,show bi AC=0 from rfl,Aq,BJ,A3 (by lia) (by lia)]
   rw[hb,CJ s,<- BX s,A7 s (M c2 j),hx];generalize bi (decide (M 99 ((n+j:Nat):Int) - x - k1<0))=k2;generalize ((2:Int)^w)^j=P;generalize (2:Int)^w=W;rw[Cy,Bm,Bm,BX k2 W P,A7 W P];generalize M 99 ((n+j:Nat):Int)*P=y1;generalize x*P=y2;generalize k1*P=y3;generalize k2*(P*W)=y4;generalize s*yt W M c2 j=y5;lia
theorem zdO{W:Int}(M:Mem)(k:Int)(n:Nat)(hH:0<=M 119 0)(hG:0<=M 103 0):∀e:Nat,(∀i:Nat,i<e->0<=M 99 ((n+i:Nat):Int)) ->
  (yu W (upTo (λi=>[.odd cT (99,(n:Int)+i) cG,.any cW cW cT]) e) M k).2=k/\(∀d j,d≠116->d≠119->(yu W (upTo (λi=>[.odd cT (99,(n:Int)+i) cG,.any cW cW cT]) e) M k).1 d j=M d j)/\0<=(yu W (upTo (λi=>[.odd cT (99,(n:Int)+i) cG,.any cW cW cT]) e) M k).1 119 0/\((yu W (upTo (λi=>[.odd cT (99,(n:Int)+i) cG,.any cW cW cT]) e) M k).1 119 0=0 ↔ M 119 0=0/\∀i:Nat,i<e->M 99 ((n+i:Nat):Int)=M 103 0)
 |0,_=>⟨rfl,λ_ _ _ _=>rfl,hH,by simp[upTo,yu]⟩
 |e+1,h=>by
  let⟨h1,h2,h3,h4⟩:=zdO (W:=W) M k n hH hG e λi hi=>h i (by lia);rw[upTo,zm];generalize yu W (upTo (λi=>[.odd cT (99,(n:Int)+i) cG,.any cW cW cT]) e) M k=R at *;let⟨M1,k'⟩:=R;simp only at *;subst h1;have hb:=h e (by lia);let⟨x0,x1⟩:=zfN hb hG;have z0:=zoz h3 x0;have z1:=zfQ h3 x0;have hc:(n:Int)+(e:Int)=((n+e:Nat):Int):=by lia
  erw[yu,stepM,wr,rd,cT,cG,cW,hc,h2 99 _ (by decide) (by decide),h2 103 _ (by decide) (by decide)];erw[upd,Cg,false_and,if_false,and_self,if_true];refine⟨trivial,λd j a b=>?_,z0,?_⟩
  .rw[if_neg (by lia),if_neg (by lia),h2 d j a b]
  .rw[z1,h4,x1];constructor
   .rintro⟨⟨a,b⟩,c⟩
    refine⟨a,λi hi=>?_⟩;rcases CF i e with z|z
    .exact b i z
    .rw[show i=e by lia];exact c
   .rintro⟨a,b⟩
    exact⟨⟨a,λi hi=>b i (by lia)⟩,b e (by lia)⟩
theorem zf4{W:Int}(hW:0<W){M:Mem}{c:Nat}{q:Int}(hq:q=0 \/ q=1):∀n,Dg W M c n->((∀i:Nat,i<n->M c i=q*(W - 1)) ↔ yt W M c n=q*(W^n - 1))
 |0,_=>by simp[yt]
 |n+1,h=>by
  have ih:=zf4 hW hq n h.mono;let⟨a,b⟩:=zaE hW n h.mono;let⟨c0,c1⟩:=h n (by lia);have hp:0<W^n:=Af hW;rw[yt,Ae];constructor
  .intro h2;rw[ih.1 λi hi=>h2 i (by lia),h2 n (by lia)];rcases hq with rfl|rfl
   .simp
   .rw[Ak,Ak,Ak,Bm,Ak,A7 W];lia
  .intro h2;have hd:M c n=q*(W - 1):=by
    rcases hq with rfl|rfl
    .rw[Aq]at h2 ⊢;have h1:0<=M c n*W^n:=By c0 (by omega);have h3:M c n*W^n=0:=by omega
     rcases Gf.1 h3 with z|z
     .exact z
     .lia
    .rw[Ak]at h2 ⊢;rcases (by lia:M c n=W - 1 \/ M c n<=W - 2)with z|z
     .exact z
     .have h1:M c n*W^n<=(W - 2)*W^n:=BL z (by lia);rw[Bm,A7 W]at h1;generalize W^n*W=y at *;lia
   have hv:yt W M c n=q*(W^n - 1):=by
    rw[hd]at h2;rcases hq with rfl|rfl
    .rw[Aq,Aq,Aq]at h2;rw[Aq];lia
    .rw[Ak,Ak,Bm,Ak,A7 W]at h2;rw[Ak];lia
   intro i hi;rcases CF i n with z|z
   .exact(ih.2 hv) i z
   .rw[show i=n by lia];exact hd
theorem zho{T X Y L H H1 H2 k1 k2 sx sy kG:Int}(hT:2<=T)(x0:0<=X)(x1:X<T)(y0:0<=Y)(y1:Y<T)(hsx:sx=if T<=2*X then 1 else 0)(hsy:sy=if T<=2*Y then 1 else 0)
  (hxy:X*Y=L+T*H) (l0:0<=L) (l1:L<T) (h1:H1=H - sx*Y+k1*T) (h2:H2=H1 - sy*X+k2*T) (a0:0<=H2) (a1:H2<T) (hkG:kG=if T<=2*L then 1 else 0) :
  (sgd T X*sgd T Y)%(T*T)=L+T*H2/\yaS T (sgd T X*sgd T Y)=decide (H2=kG*(T - 1)):=by
 have hX:sgd T X=X - sx*T:=by
  unfold sgd;rw[hsx];split<;>lia
 have hY:sgd T Y=Y - sy*T:=by
  unfold sgd;rw[hsy];split<;>lia
 have bx:-T<=2*sgd T X/\2*sgd T X<T:=by unfold sgd;split<;>lia
 have bw:-T<=2*sgd T Y/\2*sgd T Y<T:=by unfold sgd;split<;>lia
 have hP:sgd T X*sgd T Y=L+T*H2+T*T*(sx*sy - k1 - k2):=by
  rw[hX,hY,h2,h1];have e1:(X - sx*T)*(Y - sy*T)=X*Y - T*(sx*Y) - T*(sy*X)+T*T*(sx*sy):=by
   rw[Bm,CB,CB];have z1:X*(sy*T)=T*(sy*X):=by ac_rfl
   have z2:sx*T*Y=T*(sx*Y):=by ac_rfl
   have z3:sx*T*(sy*T)=T*T*(sx*sy):=by ac_rfl
   lia
  have e2:T*(H - sx*Y+k1*T - sy*X+k2*T)=T*H - T*(sx*Y) - T*(sy*X)+T*T*k1+T*T*k2:=by
   rw[CJ,CB,CJ,CB];have z1:T*(k1*T)=T*T*k1:=by ac_rfl
   have z2:T*(k2*T)=T*T*k2:=by ac_rfl
   lia
  rw[e1,e2,hxy,CB,CB];lia
 have hTT:0<T*T:=HX (by lia) (by lia);have hC0:0<=T*H2:=By (by lia) a0;have hC1:T*H2<=T*(T - 1):=B1 (by lia) (by lia);rw[CB]at hC1;have hab:∀a b:Int,-T<=a->a<=T->-T<=b->b<=T->-(T*T)<=a*b/\a*b<=T*T:=λa b p1 p2 p3 p4=>by
  have n1:a.natAbs<=T.natAbs:=by lia
  have n2:b.natAbs<=T.natAbs:=by lia
  have n3:=BH n1 n2;rw[<- Cf,<- Cf]at n3;lia
 have hb:=hab (2*sgd T X) (2*sgd T Y) bx.1 (by lia) bw.1 (by lia);rw[show 2*sgd T X*(2*sgd T Y)=4*(sgd T X*sgd T Y)by rw[BX,C7 (sgd T X)];lia]at hb;generalize sx*sy - k1 - k2=e at *;generalize sgd T X*sgd T Y=P at *;refine⟨by rw[hP,BZ];exact A3 (by lia) (by lia),?_⟩;have hfit:=zgQ (P:=T) (C:=L) (t:=H2+T*e) (kG:=kG) (sm:=AB) l0 l1 (by rw[hkG];simp);rw[if_pos rfl,show L+T*(H2+T*e)=P by rw[hP,CJ,BX];lia]at hfit;rw[hfit];have he:e=0 \/ e=-1:=by
  rcases (by lia:e<=-2 \/ e=-1 \/ e=0 \/ 1<=e)with z|z|z|z
  .have:=B1 z (show 0<=T*T by lia);lia
  .exact .inr z
  .exact .inl z
  .have:=B1 z (show 0<=T*T by lia);lia
 have hTL:T*2<=T*T:=B1 hT (by lia)
 congr 1
 apply propext;rcases (show kG=0 \/ kG=1 by rw[hkG];split<;>simp)with z|z<;>subst z
 .rw[Aq];rcases he with rfl|rfl
  .rw[FJ];lia
  .constructor
   .intro q;lia
   .intro q;subst q;rw[FJ]at hP;lia
 .rw[Ak];rcases he with rfl|rfl
  .constructor
   .intro q;lia
   .intro q;subst q;rw[CB]at hP;lia
  .lia
theorem zcP{w:Nat}(hw:1<=w){M:Mem}{k:Int}(c:Cel)(hz:M 122 0=0)(k0:0<=k)(k1:k<=1):stepM (2^w) M k (.sum c cZ cZ)=(wr M c k,0):=by
 have hW2:=zg0 hw;erw[stepM,rd,cZ,hz];rw[show (0:Int)+0+k=k by lia,A3 k0 (by lia),BU k0 (by lia)]
theorem ziU{w:Nat}(hw:1<w){n:Nat}{M:Mem}(hg:Good w M 0)(hz:M 122 0=0):∃M',yu (2^w) (yaa (n+1)) M 0=(M',0)/\Good w M' 0/\M' 105 0=tb w (M 97 n)/\M' 106 0=tb w (M 98 n)/\∀d j,d≠116->d≠105->d≠106->M' d j=M d j:=by
 have hgg:=zbU (by lia:1<=w) (yaa (n+1)) hg (λr hr=>by
  erw[yaa,AQ,A1,or_false]at hr;rcases hr with rfl|rfl|rfl|rfl<;>trivial)
 have hn:((n+1:Nat):Int) - 1=n:=by lia
 have q:∀a:Int,0<=a->a<2^w->0<=tb w a/\tb w a<=1:=λa a0 a1=>by rw[zjg (by lia) a0 a1];split<;>lia
 have qa:=q _ (hg.1 97 n).1 (hg.1 97 n).2;have qb:=q _ (hg.1 98 n).1 (hg.1 98 n).2;have hrun:yu (2^w) (yaa (n+1)) M 0=(wr (wr (wr (wr M cT ((2*M 97 n+0)%2^w)) cI (tb w (M 97 n))) cT ((2*M 98 n+0)%2^w)) cJ (tb w (M 98 n)),0):=by
  have e:yaa (n+1)=[.twice cT (97,(n:Int)),.sum cI cZ cZ,.twice cT (98,(n:Int)),.sum cJ cZ cZ]:=by rw[yaa,hn]
  rw[e,zG,zG,zG,zG,yu];have s1:stepM (2^w) M 0 (.twice cT (97,(n:Int)))=(wr M cT ((2*M 97 n+0)%2^w),tb w (M 97 n)):=by erw[stepM,rd,tb,BJ]
  rw[s1];simp only;rw[zcP (by lia) cI (by simp[wr,upd,hz]) qa.1 qa.2];simp only;have s3:stepM (2^w) (wr (wr M cT ((2*M 97 n+0)%2^w)) cI (tb w (M 97 n))) 0 (.twice cT (98,(n:Int)))=(wr (wr (wr M cT ((2*M 97 n+0)%2^w)) cI (tb w (M 97 n))) cT ((2*M 98 n+0)%2^w),tb w (M 98 n)):=by
   have:rd (wr (wr M cT ((2*M 97 n+0)%2^w)) cI (tb w (M 97 n))) (98,(n:Int))=M 98 n:=by simp[rd,wr,upd]
   refine HV ?_ ?_
   .simp only[stepM];rw[this]
   .simp only[stepM];rw[this,BJ];rfl
  rw[s3];simp only;rw[zcP (by lia) cJ (by simp[wr,upd,hz]) qb.1 qb.2]
 rw[hrun]at hgg;refine⟨_,hrun,hgg,by simp[wr,upd],by simp[wr,upd],λd j h1 h2 h3=>?_⟩;erw[wr,upd,cT,cI,cJ,h1,h2,h3,false_and,if_false]
theorem zgW{w:Nat}(hw:1<w){n:Nat}{x y:Int}(x0:0<=x)(x1:x<(2^w:Int)^(n+1))(y0:0<=y)(y1:y<(2^w:Int)^(n+1)){P:Int}(hP:P=sgd ((2^w:Int)^(n+1)) x*sgd ((2^w:Int)^(n+1)) y) :
  yt (2^w) (yu (2^w) (yM (n+1)) (yZ (2^w) (n+1) x y) 0).1 99 (2*(n+1))=P%(2^w:Int)^(2*(n+1)) /\
  (yu (2^w) (yM (n+1)) (yZ (2^w) (n+1) x y) 0).1 109 0=0 /\
  (yu (2^w) (yM (n+1)) (yZ (2^w) (n+1) x y) 0).1 109 1=bi (!yaS ((2^w:Int)^(n+1)) P) /\
  (yu (2^w) (yM (n+1)) (yZ (2^w) (n+1) x y) 0).1 109 2=bi (P%(2^w:Int)^(2*(n+1)) == 0) /\
  (yu (2^w) (yM (n+1)) (yZ (2^w) (n+1) x y) 0).1 109 3=bi (decide ((2^w:Int)^(2*(n+1))<=2*(P%(2^w:Int)^(2*(n+1))))):=by
 have hW:(0:Int)<2^w:=Af (by lia);have hw1:1<=w:=by lia
 have hg:=zcS (w:=w) hw1 (n+1) x y;have hZ0:yZ (2^w) (n+1) x y 122 0=0:=zdR _ _ _ (by decide) (by decide) _;have hM0:∀i,yZ (2^w) (n+1) x y 109 i=0:=λi=>zdR _ _ _ (by decide) (by decide) _;have hL0:yZ (2^w) (n+1) x y 119 0=0:=zdR _ _ _ (by decide) (by decide) _;have hc0:∀i:Int,yZ (2^w) (n+1) x y 99 i=0:=λi=>zdR _ _ _ (by decide) (by decide) _;have hva:=zcL (n+1) x y hW x0 x1;have hvb:=zgs (n+1) x y hW y0 y1;have hta:=zaH (w:=w) (by lia) (zgb (n+1) x y hW);have htb:=zaH (w:=w) (by lia) (zkW (n+1) x y hW);rw[hva]at hta;rw[hvb]at htb;generalize yZ (2^w) (n+1) x y=A at *;let⟨M1,e1,g1,i1,j1,o1⟩:=ziU hw (n:=n) hg hZ0;have ha1:yt (2^w) M1 97 (n+1)=x:=(zh _ λi _=>o1 97 i (by decide) (by decide) (by decide)).trans hva;have hb1:yt (2^w) M1 98 (n+1)=y:=(zh _ λi _=>o1 98 i (by decide) (by decide) (by decide)).trans hvb;have hc1:yt (2^w) M1 99 (n+1)=0:=(zbX hW (n+1) λi hi=>g1.1 99 i).2 λi hi=>by rw[o1 99 i (by decide) (by decide) (by decide)];exact hc0 i
 have hz1:M1 122 0=0:=by rw[o1 122 0 (by decide) (by decide) (by decide)];exact hZ0
 let⟨M2,e2,g2,o2,v2⟩:=zfJ hw1 g1 hz1 hc1 (n+1);rw[ha1,hb1]at v2;have hs2:=zbe (2^w) M2 99 (n+1) (n+1);rw[v2]at hs2;have hLr:=zaE hW (n+1) (λi hi=>g2.1 99 i:Dg (2^w) M2 99 (n+1));have q2:∀d j,d≠116->d≠105->d≠106->d≠108->d≠104->d≠111->d≠99->M2 d j=A d j:=λd j a b c e f g h=>by rw[o2 d j e f g h,o1 d j a b c]
 have sx01:tb w (A 97 n)=0 \/ tb w (A 97 n)=1:=by rw[hta];split<;>simp
 have sy01:tb w (A 98 n)=0 \/ tb w (A 98 n)=1:=by rw[htb];split<;>simp
 let⟨M3,k1,e3,g3,o3,v3⟩:=zcB hw1 (c2:=98) (sg:=cI) (n:=n+1) (.inr rfl) (.inl rfl) g2 (tb w (A 97 n)) (by show M2 105 0=_;rw[o2 105 0 (by decide) (by decide) (by decide) (by decide)];exact i1) sx01 (n+1);rw[show yt (2^w) M2 98 (n+1)=y from (zh _ λi _=>o2 98 i (by decide) (by decide) (by decide) (by decide)).trans hb1]at v3;have z3:M3 122 0=0:=by rw[o3 122 0 (by decide) (by decide) (.inl (by decide)),o2 122 0 (by decide) (by decide) (by decide) (by decide)];exact hz1
 have hsum:=zcP hw1 cP z3 g3.2.1 g3.2.2;have g4:Good w (wr M3 cP k1) 0:=⟨z8 g3.1 cP g3.2.1 (by have:=zg0 hw1;have:=g3.2.2;lia),by lia,by lia⟩;have o4:∀d j,d≠112->wr M3 cP k1 d j=M3 d j:=λd j h=>by erw[wr,upd,cP,h,false_and,if_false]
 let⟨M5,k2,e5,g5,o5,v5⟩:=zcB hw1 (c2:=97) (sg:=cJ) (n:=n+1) (.inl rfl) (.inr rfl) g4 (tb w (A 98 n)) (by show wr M3 cP k1 106 0=_;rw[o4 106 0 (by decide),o3 106 0 (by decide) (by decide) (.inl (by decide)),o2 106 0 (by decide) (by decide) (by decide) (by decide)];exact j1) sy01 (n+1);have ha4:yt (2^w) (wr M3 cP k1) 97 (n+1)=x:=(zh _ λi _=>by rw[o4 97 i (by decide),o3 97 i (by decide) (by decide) (.inl (by decide)),o2 97 i (by decide) (by decide) (by decide) (by decide)]).trans ha1;have hc4:yt (2^w) (sh (n+1) (wr M3 cP k1)) 99 (n+1)=yt (2^w) (sh (n+1) M3) 99 (n+1):=zh _ λi _=>by rw[zcc,zcc,o4 99 _ (by decide)]
 rw[ha4,hc4]at v5;have d5:Dg (2^w) (sh (n+1) M5) 99 (n+1):=λi hi=>g5.1 _ _;have hHr:=zaE hW (n+1) d5;have c5:∀i:Nat,i<n+1->M5 99 i=M2 99 i:=λi hi=>by
  rw[o5 99 i (by decide) (by decide) (.inr (.inl (by lia))),o4 99 i (by decide),o3 99 i (by decide) (by decide) (.inr (.inl (by lia)))]
 have hL5:yt (2^w) M5 99 (n+1)=yt (2^w) M2 99 (n+1):=zh _ c5;have z5:M5 122 0=0:=by rw[o5 122 0 (by decide) (by decide) (.inl (by decide)),o4 122 0 (by decide)];exact z3
 let⟨M6,kG,e6,f0,f1,f2,f3,f4⟩:=zde hw M5 (k:=k2) g5.2.1 g5.2.2 cG (99,n) AB (by decide) (by simp) z5 (g5.1 _ _).1 (g5.1 _ _).2;have hkG:kG=if (2^w:Int)^(n+1)<=2*yt (2^w) M2 99 (n+1)then 1 else 0:=by
  rw[f2,if_pos rfl,<- hL5];exact zaH (by lia) (λi hi=>g5.1 99 i)
 have hkk:kG=0 \/ kG=1:=by lia
 have hT2:(2:Int)<=(2^w)^(n+1):=by
  have h1:=zg0 hw1;have h2:(1:Int)<=(2^w)^n:=by have:(0:Int)<(2^w)^n:=Af hW;lia
  rw[Ae];have:=EX h2 h1 (by lia) (show (0:Int)<=(2^w)^n by lia);lia
 let⟨N1,N2⟩:=zho hT2 x0 x1 y0 y1 hta htb hs2 hLr.1 hLr.2 v3 v5 hHr.1 hHr.2 hkG;rw[<- hP]at N1 N2;have hTT:(2^w:Int)^(n+1)*(2^w)^(n+1)=(2^w)^(2*(n+1)):=by rw[<- DA];congr 1;lia
 rw[hTT]at N1;have hv5:yt (2^w) M5 99 (2*(n+1))=P%(2^w)^(2*(n+1)):=by
  rw[N1,show 2*(n+1)=n+1+(n+1)by lia,zbe,hL5]
 have hG6:M6 103 0=kG*(2^w - 1):=f3;have hGr:0<=kG*((2:Int)^w - 1):=by rcases hkk with z|z<;>rw[z]<;>lia
 have o6:∀d j,d≠116->d≠103->M6 d j=M5 d j:=λd j a b=>f4 d j a (.inl b);have l6:M6 119 0=0:=by
  rw[o6 119 0 (by decide) (by decide),o5 119 0 (by decide) (by decide) (.inl (by decide)),o4 119 0 (by decide),o3 119 0 (by decide) (by decide) (.inl (by decide)),q2 119 0 (by decide) (by decide) (by decide) (by decide) (by decide) (by decide) (by decide)];exact hL0
 let⟨u1,u2,u3,u4⟩:=zdO (W:=2^w) M6 kG (n+1) (by rw[l6];lia) (by rw[hG6];exact hGr) (n+1) (λi hi=>by rw[o6 99 _ (by decide) (by decide)];exact(g5.1 _ _).1);have hH:(yu (2^w) (yae (n+1)) M6 kG).1 119 0=0 ↔ yt (2^w) (sh (n+1) M5) 99 (n+1)=kG*((2^w)^(n+1) - 1):=by
  rw[<- zf4 hW hkk (n+1) d5];show (yu (2^w) (upTo (λi=>[.odd cT (99,((n+1:Nat):Int)+i) cG,.any cW cW cT]) (n+1)) M6 kG).1 119 0=0 ↔ _;rw[u4,l6,hG6];constructor
  .rintro⟨_,b⟩ i hi
   have:=b i hi;rw[o6 99 _ (by decide) (by decide)]at this;rw[zcc];exact this
  .intro b;exact⟨rfl,λi hi=>by
    have:=b i hi;rw[zcc]at this;rw[o6 99 _ (by decide) (by decide)];exact this⟩
 have U1:(yu (2^w) (yae (n+1)) M6 kG).2=kG:=u1;have U2:∀d j,d≠116->d≠119->(yu (2^w) (yae (n+1)) M6 kG).1 d j=M6 d j:=u2
 clear u1 u2 u3 u4
 have hn1:((n+1:Nat):Int) - 1=n:=by lia
 rw[yM,zm,e1,yaj,zm,e2,zm,show yap 98 cI (n+1)=upTo (yac 98 cI (n+1)) (n+1)from rfl,e3,zG,hsum,zm,show yap 97 cJ (n+1)=upTo (yac 97 cJ (n+1)) (n+1)from rfl,e5,zm,hn1,e6,zm];generalize yu (2^w) (yae (n+1)) M6 kG=R7 at *;let⟨M7,k7⟩:=R7;simp only at U1 U2 hH ⊢;subst U1;have hb:bi (!(M7 119 0 == 0))=bi (!yaS ((2^w:Int)^(n+1)) P):=by
  rw[N2]
  by_cases z:yt (2^w) (sh (n+1) M5) 99 (n+1)=k7*((2^w)^(n+1) - 1)
  .rw[hH.2 z,decide_eq_true z];rfl
  .rw[decide_eq_false z,beq_eq_false_iff_ne.2 λq=>z (hH.1 q)]
 have hs1:stepM (2^w) M7 k7 (.ask cW)=(M7,bi (!yaS ((2^w:Int)^(n+1)) P)):=by
  erw[stepM,rd];rw[hb]
 have z7:M7 122 0=0:=by rw[U2 122 0 (by decide) (by decide),o6 122 0 (by decide) (by decide)];exact z5
 have hbr:=zca (!yaS ((2^w:Int)^(n+1)) P);rw[zG,hs1];simp only;rw[zG,zcP hw1 (109,1) z7 hbr.1 hbr.2];simp only;generalize bi (!yaS ((2^w:Int)^(n+1)) P)=v at *;have p1:∀d j,(d≠109 \/ j≠1)->wr M7 (109,1) v d j=M7 d j:=λd j h=>by
  erw[wr,upd];rw[if_neg (by lia)]
 have p2:wr M7 (109,1) v 109 1=v:=by simp[wr,upd]
 generalize wr M7 (109,1) v=M8 at *;have c8:∀i,M8 99 i=M5 99 i:=λi=>by rw[p1 99 i (.inl (by decide)),U2 99 i (by decide) (by decide),o6 99 i (by decide) (by decide)]
 have d8:Dg (2^w) M8 99 (2*(n+1)):=λi hi=>by rw[c8];exact g5.1 _ _
 have hv8:yt (2^w) M8 99 (2*(n+1))=P%(2^w)^(2*(n+1)):=(zh _ λi _=>c8 i).trans hv5;have m8:M8 109 0=0:=by
  rw[p1 109 0 (.inr (by decide)),U2 109 0 (by decide) (by decide),o6 109 0 (by decide) (by decide),o5 109 0 (by decide) (by decide) (.inl (by decide)),o4 109 0 (by decide),o3 109 0 (by decide) (by decide) (.inl (by decide)),q2 109 0 (by decide) (by decide) (by decide) (by decide) (by decide) (by decide) (by decide)];exact hM0 0
 have hN:2*(n+1)=(2*n+1)+1:=by lia
 rw[hN]at d8 hv8 ⊢;let⟨r1,r2,r3,r4,r5⟩:=zeF hw M8 0 d8 (by rw[p1 122 0 (.inl (by decide)),z7]);rw[zh (M':=M8) (c':=99) _ λi hi=>r1 i,r2,r3,r4,r5,hv8,p2,m8];exact⟨rfl,rfl,rfl,rfl,rfl⟩
def oI:Op:=cx 105 0 0 0 0
def oJ:Op:=cx 106 0 0 0 0
def oP:Op:=cx 112 0 0 0 0
def oG':Op:=cx 103 0 0 0 0
def oW:Op:=cx 119 0 0 0 0
def ybr(l:Nat)(sg:Op):T1:=.rounds 0 1 0 [.row (rS "times" [oL,oHi,cx l 0 1 0 0,sg]),.row (rS "less" [cx 99 0 1 0 1,cx 99 0 1 0 1,oL])]
def yaH:T1:=.rounds 0 1 0 [.row (rS "odd" [oT,cx 99 0 1 0 1,oG']),.row (rS "any" [oW,oW,oT])]
def ybU:List T1:=[.row (rS "twice" [oT,cx 97 (-1) 0 0 1]),.row (rS "sum" [oI,oZ,oZ]),.row (rS "twice" [oT,cx 98 (-1) 0 0 1]),.row (rS "sum" [oJ,oZ,oZ])]
def ybe:List T1:=[.row (rS "twice" [oT,cx 99 (-1) 0 0 1]),.row (rS "less" [oG',oZ,oZ])]
def ybh:List T1:=ybU++([yaR]++([ybr 98 oI]++([.row (rS "sum" [oP,oZ,oZ])]++([ybr 97 oJ]++(ybe++([yaH]++([.row (rS "ask" [oW]),.row (rS "sum" [oM 1,oZ,oZ])]++ya7 0 2)))))))
theorem zh6(w:Int)(n:Nat)(l:Nat)(sg:Op)(c:Cel)(h:∀I:Int,Op.pv I 0 n sg=yx c):yp w n [ybr l sg]=(yap l c n).map yJ:=by
 have e:yp w n [ybr l sg]=upTo (λI=>yX w n I [.row (rS "times" [oL,oHi,cx l 0 1 0 0,sg]),.row (rS "less" [cx 99 0 1 0 1,cx 99 0 1 0 1,oL])]) n:=by
  erw[yp,Aa,Ag,A2,ybr,T1.rows,za5]
 rw[e];refine zbz (λI=>?_) n;have hm:(0:Int)+1*(I:Int)+1*(n:Int)=(n:Int)+I:=by lia
 have hi:(0:Int)+1*(I:Int)=I:=by lia
 have hm2:(I:Int)+1*(n:Int)=(n:Int)+I:=by lia
 erw[yX,Aa,Ag,A2,T2.rows,Rs.pv,rS,AL,A5,h,yac,yJ,Ab,Au];erw[Op.pv,oL,oHi,cx,Cx.at,yx,Aq,BJ,hi,hm2]
theorem zim(w:Int)(n:Nat):yp w n [yaH]=(yae n).map yJ:=by
 have e:yp w n [yaH]=upTo (λI=>yX w n I [.row (rS "odd" [oT,cx 99 0 1 0 1,oG']),.row (rS "any" [oW,oW,oT])]) n:=by
  erw[yp,Aa,Ag,A2,yaH,T1.rows,za5]
 rw[e];refine zbz (λI=>?_) n;have hm:(0:Int)+1*(I:Int)+1*(n:Int)=(n:Int)+I:=by lia
 erw[yX,Aa,Ag,A2,T2.rows,Rs.pv,rS,AL,A5,yJ,Ab,Au,Op.pv,oT,oG',oW,cx,Cx.at,yx,Aq,BJ,hm]
theorem zjW(w:Int)(n:Nat):yp w n ybh=(yM n).map yJ:=by
 have hl:(-1:Int)+1*(n:Int)=(n:Int) - 1:=by lia
 have p1:yp w n ybU=(yaa n).map yJ:=by
  erw[ybU,yaa,yp,Aa,Ag,A2,T1.rows,Rs.pv,rS,AL,A5,yJ,Ab,Au,Op.pv,oT,oZ,oI,oJ,cx,Cx.at,yx,Aq,BJ,hl]
 have p2:yp w n [yaR]=(yaj n).map yJ:=by
  erw[yp,Aa,Ag,A2];exact ziu w n
 have p3:=zh6 w n 98 oI cI (λI=>by simp[Op.pv,oI,cx,Cx.at,yx]);have p5:=zh6 w n 97 oJ cJ (λI=>by simp[Op.pv,oJ,cx,Cx.at,yx]);have p4:yp w n [.row (rS "sum" [oP,oZ,oZ])]=[yJ (.sum cP cZ cZ)]:=by simp[yp,T1.rows,Rs.pv,rS,oP,oZ,Op.pv,cx,Cx.at,yJ,yx]
 have p6:yp w n ybe=(yau cG (99,(n:Int) - 1) AB).map yJ:=by
  erw[ybe,yau,if_true,yp,Aa,Ag,A2,T1.rows,Rs.pv,rS,AL,A5,yJ,Ab,Au,Op.pv,oT,oZ,oG',cx,Cx.at,yx,Aq,BJ,hl]
 have p8:yp w n [.row (rS "ask" [oW]),.row (rS "sum" [oM 1,oZ,oZ])]=[yJ (.ask cW),yJ (.sum (109,1) cZ cZ)]:=by simp[yp,T1.rows,Rs.pv,rS,oW,oM,oZ,Op.pv,cx,Cx.at,yJ,yx]
 rw[ybh,zt,zt,zt,zt,zt,zt,zt,zt,p1,p2,p3,p4,p5,p6,zim,p8,zht];erw[yM,B6,AL,B0,Ab,Au]
theorem zh7(w:Int)(n:Nat):yan w n ybh=n*(1+n)+5*n:=by
 have h1:yan w n ybU=0:=by simp[ybU,yan,T1.rnd]
 have h2:yan w n [yaR]=n*(1+n):=by erw[yan,AL,A5,De,FK,zf8];lia
 have h3:∀l s,yan w n [ybr l s]=n:=λl s=>by simp[ybr,yan,T1.rnd,ya5,T2.rnd,za5]
 have h4:yan w n [yaH]=n:=by simp[yaH,yan,T1.rnd,ya5,T2.rnd,za5]
 have h5:yan w n ybe=0:=by simp[ybe,yan,T1.rnd]
 have h6:yan w n [.row (rS "sum" [oP,oZ,oZ])]=0:=by simp[yan,T1.rnd]
 have h7:yan w n [.row (rS "ask" [oW]),.row (rS "sum" [oM 1,oZ,oZ])]=0:=by simp[yan,T1.rnd]
 rw[ybh,zE,zE,zE,zE,zE,zE,zE,zE,h1,h2,h3,h3,h4,h5,h6,h7,zgi];lia
theorem zeP{n:Nat}(hn:n<=4):(yM n).length<=4000:=by
 have:n*(n*5+3)<=4*23:=BH hn (by lia);have h1:∀l s,(yap l s n).length=n*2:=λl s=>zbZ (f:=yac l s n) (c:=2) (λ_=>rfl) _;have h2:(yae n).length=n*2:=zbZ (f:=λi=>[.odd cT (99,(n:Int)+i) cG,.any cW cW cT]) (c:=2) (λ_=>rfl) _;simp[yM,zcE,yaa,yau,h1,h2,yq,zaY];lia
def oF:Op:=cx 102 0 0 0 0
def oG:Op:=cx 103 0 0 0 0
def oH:Op:=cx 104 0 0 0 0
def ybk(to last:Op)(sg:Bool):List T1:=[.row (if sg=AB then rS "twice" [oT,last]else rS "mark" [.fig 0]),.row (rS "less" [to,oZ,oZ])]
def ycN(sr sm:Bool)(e:Int):List T1 :=
 [.rounds (if e<0 then e else 0) 1 0 [.row (rS "move" [cx 99 0 1 0 0,cx 97 0 1 0 0])]]++ybk oF (cx 97 (-1) 0 0 1) sr ++
 (if 0<e then [.rounds e 0 0 [.row (rS "move" [cx 99 0 1 0 1,oF])]]else [])++ybk oG (cx 99 (e - 1) 0 0 1) sm++[.row (rS "odd" [oH,oF,oG])] ++
 (if e<0 then [.rounds (-e) 0 0 [.row (rS "odd" [oT,cx 97 e 1 0 1,oG]),.row (rS "any" [oH,oH,oT])]]else []) ++
 [.row (rS "ask" [oH]),.row (rS "sum" [oM 1,oZ,oZ])]++ya7 e 1
theorem zmt(w:Int){n N:Nat}{e:Int}(h:e=N - n):cnt e 1 0 w n=N:=by simp[cnt];lia
theorem ze0(w:Int)(n:Nat)(e:Int):cnt e 0 0 w n=e.toNat:=by simp[cnt]
theorem zlD(w:Int){n N:Nat}{e:Int}(h:e=N - n):yp w n (ya7 e 1)=(yq N).map yJ:=by
 have hh:=zaF (g:=λI=>yX w n I [.row (rS "any" [oS,oS,cx 99 0 1 0 0])]) (f:=λi=>.any cS cS (99,i)) (λI=>by simp[yX,T2.rows,zhU]) N;have hl:e - 1+1*(n:Int)=(N:Int) - 1:=by lia
 erw[yp,ya7,Aa,Ag,T1.rows,zmt w h,hh,yq,B6,AL,A5,A2];erw[Rs.pv,rS,Op.pv,oS,oT,oZ,oM,cx,Cx.at,yJ,yx,hl,AL,A5,Ab,Au,Aq,BJ]
theorem zhE(w:Int)(n:Nat)(to last:Op)(t l:Cel)(h1:Op.pv 0 0 n to=yx t)(h2:Op.pv 0 0 n last=yx l)(sg:Bool):yp w n (ybk to last sg)=(yau t l sg).map yJ:=by
 have hT:Op.pv 0 0 n oT=yx cT:=by simp[oT,Op.pv,cx,Cx.at,yx]
 have hZ:Op.pv 0 0 n oZ=yx cZ:=by simp[oZ,Op.pv,cx,Cx.at,yx]
 cases sg<;>erw[ybk,yau,yp,Aa,Ag,A2,T1.rows,Rs.pv,rS,AL,A5,h1,h2,hT,hZ,if_true,BW,if_false,Ab,Au,yJ]<;>rfl
theorem zoy(w:Int)(sr sm:Bool){n N:Nat}{e:Int}(h:e=N - n):yp w n (ycN sr sm e)=(yb0 sr sm n N).map yJ:=by
 have p1:yp w n [.rounds (if e<0 then e else 0) 1 0 [.row (rS "move" [cx 99 0 1 0 0,cx 97 0 1 0 0])]]=(yaU (min n N)).map yJ:=by
  have hc:cnt (if e<0 then e else 0) 1 0 w n=min n N:=by
   erw[cnt];split<;>lia
  erw[yp,Aa,Ag,A2,T1.rows,hc];exact zaF (λI=>by simp[yX,T2.rows,Rs.pv,rS,Op.pv,cx,Cx.at,yJ,yx]) _
 have p2:=zhE w n oF (cx 97 (-1) 0 0 1) cF (97,(n:Int) - 1) (by simp[oF,Op.pv,cx,Cx.at,yx]) (by show yS _ (-1+0*0+0*0+1*(n:Int))=yS _ _;congr 1;lia) sr;have p4:=zhE w n oG (cx 99 (e - 1) 0 0 1) cG (99,(N:Int) - 1) (by simp[oG,Op.pv,cx,Cx.at,yx]) (by show yS _ (e - 1+0*0+0*0+1*(n:Int))=yS _ _;congr 1;lia) sm;have p3:yp w n (if 0<e then [.rounds e 0 0 [.row (rS "move" [cx 99 0 1 0 1,oF])]]else [])=(ybd n (N - n)).map yJ:=by
  by_cases q:0<e
  .rw[if_pos q];erw[yp,Aa,Ag,A2,T1.rows,ze0];rw[show e.toNat=N - n by lia];exact zaF (λI=>by
    have:(0:Int)+1*(I:Int)+1*(n:Int)=(n:Int)+I:=by lia
    erw[yX,Aa,Ag,A2,T2.rows,Rs.pv,rS,oF,Op.pv,cx,Cx.at,yJ,yx,AL,A5,this,Aq,BJ]) _
  .rw[if_neg q,show N - n=0 by lia];rfl
 have p5:yp w n (if e<0 then [.rounds (-e) 0 0 [.row (rS "odd" [oT,cx 97 e 1 0 1,oG]),.row (rS "any" [oH,oH,oT])]]else [])=(yaA N (n - N)).map yJ:=by
  by_cases q:e<0
  .rw[if_pos q];erw[yp,Aa,Ag,A2,T1.rows,ze0];rw[show (-e).toNat=n - N by lia];exact zbz (λI=>by
    have:e+1*(I:Int)+1*(n:Int)=(N:Int)+I:=by lia
    erw[yX,Aa,Ag,A2,T2.rows,Rs.pv,rS,oT,oG,oH,Op.pv,cx,Cx.at,yJ,yx,AL,A5,this,Aq,BJ,Ab,Au]) _
  .rw[if_neg q,show n - N=0 by lia];rfl
 have p6:yp w n [.row (rS "odd" [oH,oF,oG])]=[yJ (.odd cH cF cG)]:=by simp[yp,T1.rows,Rs.pv,rS,oF,oG,oH,Op.pv,cx,Cx.at,yJ,yx]
 have p7:yp w n [.row (rS "ask" [oH]),.row (rS "sum" [oM 1,oZ,oZ])]=[yJ (.ask cH),yJ (.sum (109,1) cZ cZ)]:=by simp[yp,T1.rows,Rs.pv,rS,oH,oM,oZ,Op.pv,cx,Cx.at,yJ,yx]
 rw[ycN,zt,zt,zt,zt,zt,zt,zt,p1,p2,p3,p4,p5,p6,p7,zlD w h];erw[yb0,B6,AL,B0,Ab,Au]
theorem zkq(w:Int){n N:Nat}{e:Int}(h:e=N - n):yan w n (ya7 e 1)=N:=by simp[yan,ya7,T1.rnd,zmt w h,ya5,T2.rnd]
theorem zld(w:Int)(sr sm:Bool){n N:Nat}{e:Int}(h:e=N - n):yan w n (ycN sr sm e)<=n+N+N+n:=by
 have hc:cnt (if e<0 then e else 0) 1 0 w n=min n N:=by
  erw[cnt];split<;>lia
 rw[ycN,zE,zE,zE,zE,zE,zE,zE,zkq w h]
 by_cases q:0<e
 .rw[if_pos q,if_neg (by lia:¬e<0),if_neg (by lia:¬e<0)];simp[yan,ybk,T1.rnd,ya5,T2.rnd,ze0,za5];lia
 .by_cases q2:e<0
  .simp only[yan,ybk,T1.rnd,ya5,T2.rnd,ze0,hc,if_neg q,if_pos q2]at hc ⊢;simp[T1.rnd,ya5,T2.rnd,ze0,hc];lia
  .rw[if_neg q,if_neg q2,if_neg q2];simp[yan,ybk,T1.rnd,ya5,T2.rnd,ze0,za5];lia
theorem zeY{f:Nat->List Rw}{c:Nat}(h:∀i,(f i).length=c):∀k,(upTo f k).length=k*c
 |0=>by simp[upTo]
 |k+1=>by rw[upTo,Ac,zeY h k,h,FI]
theorem zi9(sr sm:Bool)(n N:Nat):(yb0 sr sm n N).length<=3*n+3*N+20:=by
 have h1:(yaA N (n - N)).length=(n - N)*2:=zeY (f:=λi=>[.odd cT (97,(N:Int)+i) cG,.any cH cH cT]) (c:=2) (λ_=>rfl) _;simp[yb0,yaU,yau,ybd,yq,zaY,h1];lia
def yfq(nm:String)(ps:List T1):Bool:=match yc T 18 zaM [.tp AC [.str (AF nm)]] []with
 | .ok (.tp b vs) []=>decide (yaL vs=AA ps) && nLs vs && isOk (yc T 16 zH [.tp b vs] []) (.bl AB) && isOk (yc T 20 zb6 [.tp AC [.str (AF nm)]] []) (.bl AB)
 |_=>AC
theorem yca{nm:String}{pb:Bool}{ps:List T1}{rs:List Rw}{w n:Nat}(hc:yfq nm ps=AB)(hw:w<=16)(hn2:n<=4)(pv:yp w n ps=rs.map yJ)(ok:∀r∈rs,yaz r)(hl:rs.length<=4000)(hr:yan w n ps<=4000)(ha:ak1 w n ps<=500000)
  (q1:yF .eq (.str (AF nm)) (.str "compare")=AA (.bl AC)) (q2:yF .eq (.str (AF nm)) (.str "led")=AA (.bl AC)) (q3:yF .isin (.str (AF nm)) zaj=AA (.bl AC)) (q4:yF .isin (.str (AF nm)) zbu=AA (.bl pb)):ycy (yc T 20 zR [.tp AC [.str (AF nm)]] []=.ok (.bl AB) []) (.tp AC [.str (AF nm)]) w n (if pb=AB then 2*n else n) rs:=by
 unfold yfq at hc;split at hc
 .rename_i b vs e0;erw[AK,decide_eq_true_eq]at hc;let⟨⟨⟨c1,c2⟩,c3⟩,c4⟩:=hc;exact ycE hw hn2 rfl (λ_=>rfl) e0 c1 c2 c3 c4 id pv ok hl hr ha q3 (aw rfl (λ_=>rfl) q1 q2 q4)
 .cases hc
theorem zdI{n:Nat}(hn:1<=n)(hn2:n<=4):∀r∈yaj n,yaz r:=by
 intro r hr;let⟨I,hI,hr⟩:=zby hr;erw[yaG,AQ,Ar,A1,or_false]at hr;rcases hr with rfl|rfl|hr|rfl
 .simp[yaz]
 .simp only[yaz,yN];lia
 .let⟨J,hJ,hr⟩:=zby hr;erw[inR,AQ,A1,or_false]at hr;have hc:yF .ne (yx cL) (yx cHi)=AA (.bl AB):=by ac_rfl
  rcases hr with rfl|rfl|rfl|rfl|rfl<;>erw[yaz,yN,hc,and_true]<;>lia
 .simp only[yaz,yN];lia
theorem zee{n:Nat}(hn:1<=n)(hn2:n<=4):∀r∈yP n,yaz r:=by
 intro r hr;erw[yP,Ar]at hr;rcases hr with hr|hr|hr
 .exact zdI hn hn2 r hr
 .simp only[yas,AQ,Ar,A1,or_false]at hr;rcases hr with rfl|hr|rfl|rfl
  .simp only[yaz,yN];lia
  .let⟨i,hi,rfl⟩:=zae hr;erw[yaz,yN];lia
  all_goals erw[yaz,yN];lia
 .exact zgJ (by lia) (by lia) r hr
theorem ycn{w n:Nat}(hw:w<=16)(hn:1<=n)(hn2:n<=4):ycy (yc T 20 zR [.tp AC [.str "product"]] []=.ok (.bl AB) []) (.tp AC [.str "product"]) w n (2*n) (yP n):=by
 have hm:n*(1+n)<=4*5:=BH hn2 (by lia);have hm2:n*n<=4*4:=BH hn2 hn2;refine yca (pb:=AB) (ps:=ybt) (by decide +kernel) hw hn2 (zmm w n) (zee hn hn2) (zdq hn2) (by rw[zjx];lia) ?_ (by ac_rfl) (by ac_rfl) (by ac_rfl) (by ac_rfl);simp[ybt,yaR,yaO,ak1,ya7,T1.ak,za5,ak2,T2.ak,cnt,HZ];lia
theorem zgj{n:Nat}(hn2:n<=4){c2:Nat}{sg:Cel}(hc2:c2=97 \/ c2=98)(hs:sg=cI \/ sg=cJ):∀r∈yap c2 sg n,yaz r:=by
 intro r hr;let⟨I,hI,hr⟩:=zby hr;erw[yac,AQ,A1,or_false]at hr;have hc:yF .ne (yx cL) (yx cHi)=AA (.bl AB):=by ac_rfl
 rcases hs with rfl|rfl<;>rcases hc2 with rfl|rfl<;>rcases hr with rfl|rfl<;>erw[yaz,yN,hc,and_true]<;>lia
theorem zgd{n:Nat}(hn:1<=n)(hn2:n<=4):∀r∈yM n,yaz r:=by
 intro r hr;erw[yM,yaa,yau,if_true,Ar,AQ,A1,or_false]at hr;rcases hr with (h|h|h|h)|hr|hr|h|hr|(h|h)|hr|h|h|hr
 any_goals (subst h;erw[yaz,yN];lia)
 .exact zdI hn hn2 r hr
 .exact zgj hn2 (.inr rfl) (.inl rfl) r hr
 .exact zgj hn2 (.inl rfl) (.inr rfl) r hr
 .let⟨I,hI,hr⟩:=zby hr;erw[AQ,A1,or_false]at hr;rcases hr with rfl|rfl<;>erw[yaz,yN]<;>lia
 .exact zgJ (by lia) (by lia) r hr
theorem yce{w n:Nat}(hw:w<=16)(hn:1<=n)(hn2:n<=4):ycy (yc T 20 zR [.tp AC [.str "signed product"]] []=.ok (.bl AB) []) (.tp AC [.str "signed product"]) w n (2*n) (yM n):=by
 have hm:n*(1+n)<=4*5:=BH hn2 (by lia);have hm2:n*n<=4*4:=BH hn2 hn2;refine yca (pb:=AB) (ps:=ybh) (by decide +kernel) hw hn2 (zjW w n) (zgd hn hn2) (zeP hn2) (by rw[zh7];lia) ?_ (by ac_rfl) (by ac_rfl) (by ac_rfl) (by ac_rfl);simp[ybh,ybU,yaR,ybr,ybe,yaH,ak1,ya7,T1.ak,za5,ak2,T2.ak,cnt,HZ];lia
def turnT:List T1:=[.row (rS "mark" [.fig 0]),.rounds 0 1 0 [.row (rS "less" [cx 99 0 1 0 0,oZ,cx 97 0 1 0 0])],ybZ,.row (rS "odd" [oT,oZ,cx 97 (-1) 0 0 1]),.row (rS "odd" [oS,oZ,cx 99 (-1) 0 0 1]),.row (rS "both" [oT,oT,oS]),.row (rS "twice" [oT,oT]),.row (rS "sum" [oM 1,oZ,oZ])]++ya7 0 1
theorem zl9(w:Int)(n:Nat):yp w n turnT=(yR n).map yJ:=by
 have hl:(-1:Int)+0*0+0*0+1*(n:Int)=(n:Int) - 1:=by lia
 have h:=zaF (g:=λI=>yX w n I [.row (rS "less" [cx 99 0 1 0 0,oZ,cx 97 0 1 0 0])]) (f:=λi=>.less (99,i) cZ (97,i)) (λI=>by simp[yX,T2.rows,Rs.pv,rS,Op.pv,oZ,cx,Cx.at,yJ,yx]) n;rw[turnT,zt,znu];erw[yp,Aa,Ag,A2,T1.rows,za5,h,zmE,yR,yU,B6,AL,A5,B0];erw[Rs.pv,rS,AL,A5,Op.pv,cx,Cx.at,hl];simp[ybZ,rS,Op.pv,oM,oZ,oT,oS,cx,Cx.at,yJ,yx]
theorem zjd{n:Nat}(hn:1<=n)(hn2:n<=4):∀r∈yR n,yaz r:=by
 intro r hr;erw[yR,yU,Ar,AQ,A1,or_false]at hr;rcases hr with (((h|h)|h)|(h|h|h|h|h))|h
 any_goals (subst h;erw[yaz,yN];lia)
 .let⟨i,hi,rfl⟩:=zae h;erw[yaz,yN];lia
 .exact zgJ hn (by lia) r h
theorem zgC{n:Nat}(hn2:n<=4):(yR n).length<=4000:=by simp[yR,yU,yq,zaY];lia
theorem ycm{w n:Nat}(hw:w<=16)(hn:1<=n)(hn2:n<=4):ycy (yc T 20 zR [.tp AC [.str "turned"]] []=.ok (.bl AB) []) (.tp AC [.str "turned"]) w n n (yR n):=by
 refine yca (pb:=AC) (ps:=turnT) (by decide +kernel) hw hn2 (zl9 w n) (zjd hn hn2) (zgC hn2) ?_ ?_ (by ac_rfl) (by ac_rfl) (by ac_rfl) (by ac_rfl)
 .simp[turnT,yan,ybZ,ya7,T1.rnd,za5,ya5,T2.rnd];lia
 .simp[turnT,ak1,ybZ,ya7,T1.ak,za5,ak2,T2.ak];lia
noncomputable abbrev sSg:PV:=.str "signed"
def ybn(e:Int):PV:=.tp AC [.str "led",sSg,sSg,.int e]
def yd2(e:Int):Bool:=match yc T 18 zaM [ybn e] []with
 | .ok (.tp b vs) []=>decide (yaL vs=AA (ycN AB AB e)) && nLs vs && isOk (yc T 16 zH [.tp b vs] []) (.bl AB) && isOk (yc T 20 zb6 [ybn e] []) (.bl AB)
 |_=>AC
theorem ygA:([-2,-1,1,2].all yd2)=true:=by decide +kernel
theorem zkR{n N:Nat}(hn:1<=n)(hn2:n<=8)(hN:1<=N)(hN2:N<=8)(sr sm:Bool):∀r∈yb0 sr sm n N,yaz r:=by
 intro r hr;erw[yb0,Ar,AQ,yau,A1,or_false]at hr;rcases hr with hr|(hr|hr)|hr|(hr|hr)|hr|hr|hr|hr|hr
 .let⟨i,hi,rfl⟩:=zae hr;erw[yaz,yN];lia
 .subst hr;cases sr<;>erw[if_true,BW,if_false,yaz,yN]<;>lia
 .subst hr;erw[yaz,yN];lia
 .let⟨i,hi,rfl⟩:=zae hr;erw[yaz,yN];lia
 .subst hr;cases sm<;>erw[if_true,BW,if_false,yaz,yN]<;>lia
 .subst hr;erw[yaz,yN];lia
 .subst hr;erw[yaz,yN];lia
 .let⟨i,hi,hr⟩:=zby hr;erw[AQ,A1,or_false]at hr;rcases hr with rfl|rfl<;>erw[yaz,yN]<;>lia
 .subst hr;erw[yaz,yN];lia
 .subst hr;erw[yaz,yN];lia
 .exact zgJ hN hN2 r hr
theorem zbF(w n:Int)(a b:List T1):ak1 w n (a++b)=ak1 w n a+ak1 w n b:=by simp[ak1]
theorem znW(w:Int)(sr sm:Bool){n N:Nat}{e:Int}(h:e=N - n):ak1 w n (ycN sr sm e)<=n+N+N+n+10:=by
 have hc:cnt (if e<0 then e else 0) 1 0 w n=min n N:=by
  erw[cnt];split<;>lia
 have he:ak1 w n (ya7 e 1)=N+1:=by simp[ak1,ya7,T1.ak,zmt w h,ak2,T2.ak]
 have f1:∀a b s,ak1 w n (ybk a b s)=0:=λa b s=>by cases s<;>simp[ak1,ybk,T1.ak]
 rw[ycN,zbF,zbF,zbF,zbF,zbF,zbF,zbF,he,f1,f1];have p1:ak1 w n [.rounds (if e<0 then e else 0) 1 0 [.row (rS "move" [cx 99 0 1 0 0,cx 97 0 1 0 0])]]=min n N+1:=by erw[ak1,T1.ak,hc,AL,A5,De,FK,ak2,T2.ak];lia
 have p2:∀a,ak1 w n (if 0<e then [.rounds e 0 0 [.row a]]else [])<=N+1:=λa=>by
  split
  .simp only[ak1,T1.ak,ze0,AL,A5,De,FK,ak2,T2.ak];lia
  .simp[ak1]
 have p3:∀a b,ak1 w n (if e<0 then [.rounds (-e) 0 0 [.row a,.row b]]else [])<=n+1:=λa b=>by
  split
  .simp only[ak1,T1.ak,ze0,AL,A5,De,FK,ak2,T2.ak];lia
  .simp[ak1]
 have q2:=p2 (rS "move" [cx 99 0 1 0 1,oF]);have q3:=p3 (rS "odd" [oT,cx 97 e 1 0 1,oG]) (rS "any" [oH,oH,oT]);have p4:∀a,ak1 w n [.row a]=0:=λa=>rfl;have p5:∀a b,ak1 w n [.row a,.row b]=0:=λa b=>rfl;rw[p1,p4,p5];lia
theorem ycW{e:Int}{w n N:Nat}(hw:w<=16)(he:e=N - n)(h:e=-2 \/ e=-1 \/ e=1 \/ e=2)(hn:1<=n)(hn2:n<=4)(hN:1<=N)(hN2:N<=4):ycy False (ybn e) w n N (yb0 AB AB n N):=by
 have hc:yd2 e=true:=Bg.1 ygA e (by simp;lia);unfold yd2 at hc;split at hc
 .rename_i b vs e0;erw[AK,decide_eq_true_eq]at hc;let⟨⟨⟨c1,c2⟩,c3⟩,c4⟩:=hc;refine ycE hw hn2 rfl (λ_=>rfl) e0 c1 c2 c3 c4 Br (zoy (w:Int) AB AB he) (zkR hn (by lia) hN (by lia) AB AB) (by have:=zi9 AB AB n N;lia) (by have:=zld w AB AB he;lia) (by have:=znW w AB AB he;lia) (by ac_rfl) ?_;have i0:∀st,idxV st (ybn e) (.int 0)=AA (.str "led"):=λ_=>rfl;have i3:∀st,idxV st (ybn e) (.int 3)=AA (.int e):=λ_=>rfl;have q1:yF .eq (.str "led") (.str "compare")=AA (.bl AC):=by ac_rfl
  have q2:yF .eq (.str "led") (.str "led")=AA (.bl AB):=by ac_rfl
  have hT1:T zC=AA zB:=rfl;have nl2:nLs [ybn e,.int n]=true:=rfl;show yc T 20 zC [ybn e,.int n] []=_;rw[show (20:Nat)=19+1 from rfl,zc hT1 rfl rfl nl2];generalize ybn e=d at *;simp! [zB,i0,i3,q1,q2];rw[show (n:Int)+e=N by lia];rfl
 .cases hc
noncomputable def dv(W:Int):List Int->Int
 | []=>0
 |d::ds=>d+W*dv W ds
def inW(W:Int)(ds:List Int):Prop:=∀d∈ds,0<=d/\d<W
theorem zj5{c:Cl}{N acc lo:Int}{st:SO}:exs c [AA (.int N),AA (.int acc),AA (.int lo)] st (.cons (.asg (.n 1) (.bin .mul (.cst (.int 2)) (.var 1))) .nil)=.nx [AA (.int N),AA (.int (2*acc)),AA (.int lo)] st:=by
 erw[xs_nil,xs_cons,x_asg,yaJ,nxO,IC.ve1,IC.ve2,IC.ve3,R.bind,R.fl,yO,yE,binI,yaI,toR,B4,B5,BD,Ap];simp
theorem zk4(k n:Nat)(hn:n<1000)(st:SO):yc T (k+1) zb9 [.int n] st=.ok (.int (2^n)) st:=by
 let⟨ρ',st',h,u,e1,e2⟩:=zej (call:=yc T k) (t:=.n 2) (b:=.cons (.asg (.n 1) (.bin .mul (.cst (.int 2)) (.var 1))) .nil) (λi ρ st=>∃u,ρ=[AA (.int n),AA (.int (2^i)),u]/\st=[]) (yr n 0 1) 0 [AA (.int n),AA (.int 1),AD] [] ⟨_,rfl,rfl⟩ (by
  rintro j x ρ st hx ⟨u,rfl,rfl⟩
  have hx:∃i,x=.int i:=by
   have:∀(n:Nat) (a d:Int) (j:Nat) x,(yr n a d)[j]?=AA x->∃i,x=.int i:=by
    intro n
    induction n with
    |zero=>intro a d j x h;simp[yr]at h
    |succ n ih =>
     intro a d j x h
     cases j with
     |zero=>simp[yr]at h;exact⟨a,h.symm⟩
     |succ j=>simp[yr]at h;exact ih _ _ _ _ h
   exact this _ _ _ _ _ hx
  let⟨i,rfl⟩:=hx;exact⟨_,_,_,rfl,zj5,_,by rw[Ae,A7],rfl⟩)
 have hl:(yr n 0 1).length=n:=by
  have:∀(n:Nat) (a d:Int),(yr n a d).length=n:=by
   intro n
   induction n with
   |zero=>intro a d;rfl
   |succ n ih=>intro a d;simp[yr,ih]
  exact this _ _ _
 rw[hl,CS]at e1;subst e1 e2;rw[yc,show T zb9=AA zcj from rfl];erw[zcj,AZ,CA,if_true,nLs,nL,Eg,AL,A5,Di,BG,Ab,Au,xs_cons,xs_nil,x_asg,x_for,x_ret,yaJ,nxO,IC.ve1,IC.ve2,R.fl,yO,B4,B5,evi,R.bind,BD,yb3,toL];erw[show (n:Int).natAbs<1000000000 by lia,if_true,CK,h];simp[nL]
noncomputable def yb4(W:Int)(M:Mem)(c:Nat):Nat->Nat->Int
 |_,0=>0
 |a,n+1=>yb4 W M c (a+1) n*W+M c a
theorem zf5(W:Int)(M:Mem)(c:Nat):∀(n a:Nat),yb4 W M c a (n+1)=yb4 W M c a n+M c ((a+n:Nat):Int)*W^n
 |0,a=>by simp[yb4]
 |n+1,a=>by
  have h:=zf5 W M c n (a+1);rw[yb4,h,yb4,show a+1+n=a+(n+1)by lia,Ae,Cy,BX];lia
theorem zk9(W:Int)(M:Mem)(c:Nat):∀n,yb4 W M c 0 n=yt W M c n
 |0=>rfl
 |n+1=>by rw[zf5,zk9 W M c n,yt,CS]
theorem zhj{W:Int}(hW:0<W){M:Mem}(h:yeB W M)(c:Nat):∀n a,ye W n (yb4 W M c a n)=getM M c a n
 |0,a=>rfl
 |n+1,a=>by
  let⟨h0,h1⟩:=h c a;have e1:(yb4 W M c (a+1) n*W+M c a)%W=M c a:=by
   rw[EC,ED];exact A3 h0 h1
  have e2:(yb4 W M c (a+1) n*W+M c a) / W=yb4 W M c (a+1) n:=by
   rw[EC,FL _ _ (by lia),BU h0 h1,GO]
  rw[yb4,ye,e1,e2,zhj hW h c n (a+1),getM]
theorem zlW{W:Int}(hW:0<W){M:Mem}(h:yeB W M)(c n:Nat){v:Int}(hv:yt W M c n=v):getM M c 0 n=ye W n v:=by
 rw[<- zhj hW h c n 0,zk9,hv]
theorem zpL{i:Int}{j:Nat}(h:i.natAbs<18446744073709551616)(hj:j<=1000000):yE .shl (.int i) (.int j)=AA (.int (i*2^j)):=by
 simp[yE,binI,h];lia
theorem zpU{w:Nat}(hw:w<=16):(2:Int)^w<=65536:=by
 have h:(2:Nat)^w<=2^16:=Al (by lia) hw;have h2:((2^w:Nat):Int)=2^w:=by simp
 lia
theorem zfu{w:Nat}:∀(ds:List Int) (k:Nat),ycI (((yG k (ds.map .int))).map λp=>match p with
  | .tp _ [.int i,.int d]=>.int (d*2^(w*i.toNat))
  |_=>.non)=AA ((2^w)^k*dv (2^w) ds)
 | [],k=>by simp[yG,ycI,dv]
 |d::ds,k=>by
  have ih:=zfu (w:=w) ds (k+1);erw[AL,yG,ycI];erw[CK];rw[ih];erw[dv]
  congr 1
  rw[Ae,CU,CJ,A7 d,BX]
theorem zgx(k:Nat)(ds:List Int)(w:Nat)(hw:w<=16)(h:inW (2^w) ds)(hl:ds.length<=8)(st:SO):yc T (k+1) zdb [.tup (ds.map .int),.int w] st=.ok (.int (dv (2^w) ds)) st:=by
 have hT:T zdb=AA zeC:=rfl;have hW:=zpU hw
 have hc:yal (yc T k) [AD,AD,AA (.int w)] (.t [0,1]) (.cst (.bl AB)) (.bin .shl (.var 1) (.bin .mul (.var 2) (.var 0))) (yG 0 (ds.map .int)) []=.ok (((yG 0 (ds.map .int))).map λp=>match p with
  | .tp _ [.int i,.int d]=>.int (d*2^(w*i.toNat))
  |_=>.non) []:=by
  refine zaJ _ λp hp=>?_;have hx:∀(ds:List Int) (j:Nat),inW (2^w) ds->j+ds.length<=8->∀p∈yG j (ds.map .int),∃(i:Nat) (d:Int),p=.tup [.int i,.int d]/\0<=d/\d<2^w/\i<=8:=by
   intro ds
   induction ds with
   |nil=>intro j _ _ p hp;simp[yG]at hp
   |cons d ds ih =>
    intro j hd hj p hp;erw[AL,yG,AQ]at hp;rcases hp with rfl|hp
    .have:=hd d Aj;erw[AZ]at hj;exact⟨j,d,rfl,this.1,this.2,by lia⟩
    .exact ih (j+1) (λx hx=>hd x (AT _ hx)) (by erw[AZ]at hj;lia) p hp
  let⟨i,d,rfl,d0,d1,hi⟩:=hx ds 0 h (by lia) p hp;have hwa:(w:Int).natAbs<18446744073709551616:=by lia
  have hm:(w:Int)*(i:Int)=((w*i:Nat):Int):=by simp
  have hwi:w*i<=16*8:=BH hw hi;have hbt:yO (.t [0,1]) (.tup [.int i,.int d]) [AD,AD,AA (.int w)]=AA [AA (.int i),AA (.int d),AA (.int w)]:=rfl;simp only[yaP,hbt,IC.ve1,IC.ve2,IC.ve3,BD,Ap,bd_ok,t_bl,ono,cond_true,za1 hwa,hm,toR_some,zpL (show d.natAbs<18446744073709551616 by lia) (show w*i<=1000000 by lia)];rfl
 have hs:=zfu (w:=w) ds 0;have hlr:∀ys:List PV,ys.length<=1000000->∀st,ycg (.ok ys st)=.ok (.lst ys) st:=λys h st=>by simp[ycg,h]
 have hpl:(yG 0 (ds.map .int)).length=ds.length:=by
  have:∀(xs:List PV) (j:Nat),(yG j xs).length=xs.length:=by
   intro xs
   induction xs with
   |nil=>intro j;rfl
   |cons x xs ih=>intro j;simp[yG,ih]
  rw[this,Ax]
 rw[yc,hT];erw[zeC,AZ,CA,CS,Ei,if_true,nLs,nL,noLocs_ints,Eg,AL,A5,Di,BG,A2,xs_cons,xs_nil,x_ret,IC.ve19,evs,v_comp,evi,IC.ve2,BD,Ap,bd_ok,fl_ok,PV.tup,Option.bind_none,B7,G0,hc];rw[hlr _ (by rw[Ax,hpl];lia)];erw[bd_ok,yaD,yah,B7,hs,DM,toR_some,fl_ok,th_rt,nL,if_true,CT,Ak]
theorem zeu{W:Int}(hW:0<W):∀(n:Nat) (x:Int),0<=x->x<W^n->dv W (ye W n x)=x
 |0,x,h0,h1=>by rw[CT]at h1;erw[ye,dv];lia
 |n+1,x,h0,h1=>by
  have q0:0<=x / W:=Bq h0 (by lia);have q1:x / W<W^n:=BY hW (by rw[Ae]at h1;exact h1);rw[ye,dv,zeu hW n _ q0 q1];have:=BE x W;lia
theorem zdf:∀ds:List Int,ybz (ds.map .int) (ds.map .int)=AB
 | []=>rfl
 |d::ds=>by simp[ybz,peq,zdf ds]
theorem zdm(n:Nat):∀ds:List Int,ybQ n (ds.map .int)=AB
 | []=>rfl
 |d::ds=>by simp[ybQ,shd,zdm n ds]
theorem ziq(ds:List Int):yF .ne (.tp AC (ds.map .int)) (.tp AC (ds.map .int))=AA (.bl AC):=by
 simp[yF,shd,zdm,peq,zdf]
theorem zlq(ds:List Int):yF .eq (.tp AC (ds.map .int)) (.tp AC (ds.map .int))=AA (.bl AB):=by
 simp[yF,shd,zdm,peq,zdf]
theorem answer(k:Nat){pr:Prop}{deed:PV}{w n na:Nat}{rs:List Rw}(D:ycy pr deed w n na rs)(ok:∀r∈rs,yaz r)(hw:w<=16)(hw1:1<=w)(hn:n<=4)(hna:na<=8)(hrs:rs.length<=4000){x y V:Int}(x0:0<=x)(x1:x<2^(w*n))(y0:0<=y)(y1:y<2^(w*n))(hp:y≠0->pr)
  (hv:yt (2^w) (yu (2^w) rs (yZ (2^w) n x y) 0).1 99 na=V) (st:SO):yc T (23+k) zP [deed,.int w,.int n,.int x,.int y] st=.ok (.tp AC [.tp AC ((ye (2^w) na V).map .int),.tp AC ((getM (yu (2^w) rs (yZ (2^w) n x y) 0).1 109 0 4).map .int)]) st:=by
 have hW:(0:Int)<2^w:=Af (by lia);have rd:=λr hr=>zoc r (ok r hr);have e:=ran k D hw hw1 hn hna (by lia) x0 x1 y0 y1 hp (zgf hw1 hw _ _ _ rd (zcS hw1 n x y)) [];have al:yeB (2^w) _:=(zbU hw1 rs (zcS hw1 n x y) rd).1;rw[zlW hW al 99 na hv]at e;have hT:T zP=AA zbV:=rfl;have hnl:nLs [deed,.int w,.int n,.int x,.int y]=true:=by simp[nLs,D.nl,nL]
 have ln:∀(st:SO) (a b c:PV),yaD .len st [.tp AC [a,b,c]]=AA (.int 3):=λ_ _ _ _=>rfl;have hi:∀(a:List PV),ya1 (.tp AC a) [.tuple]=AA (.bl AB):=λ_=>rfl;have i0:∀(st:SO) (a b c:PV),idxV st (.tp AC [a,b,c]) (.int 0)=AA a:=λ_ _ _ _=>rfl;have i2:∀(st:SO) (a b c:PV),idxV st (.tp AC [a,b,c]) (.int 2)=AA c:=λ_ _ _ _=>rfl;rw[show 23+k=22+k+1 by lia,zc hT rfl rfl hnl];generalize ye (2^w) na V=ws at *;generalize getM _ 109 0 4=ms at *;simp! [zbV,e,ln,hi,i0,i2,beq_self_eq_true];simp[ybE,nL,nLs,noLocs_ints]
noncomputable def ybG:Ce:=match yaf.body with
 | .cons _ (.cons (.while c _) _)=>c
 |_=>.nope
noncomputable def ybV:Css:=match yaf.body with
 | .cons _ (.cons (.while _ b) _)=>b
 |_=>.nil
theorem zhV{c:Cl}{n:Nat}{ns:List Int}{a p m t:Int}{f:Bool}{u:Option PV}{st:SO}(h:st[n]?=AA (.lst [.lst (ns.map .int),.int a,.int p,.bl f])) :
  ∃B,ev c [AA (.loc n),AA (.int m),AA (.int t),u] st ybG=.ok (.bl B) st/\(B=AB->t<64):=by
 by_cases h1:t<64
 .by_cases h2:p=0
  .refine⟨AB,?_,λ_=>h1⟩;simp! [ybG,yaf,R.bind,h,idxV,ybg,at?,ixI,yE,binI,yaI,toR,yF,ybM];simp[h1,h2,zdN,peq]
  .have h2:(p == 0)=false:=by simp[h2]
   cases f
   .refine⟨AC,?_,λ_=>h1⟩;simp! [ybG,yaf,R.bind,h,idxV,ybg,at?,ixI,yE,binI,yaI,toR,yF,ybM];simp[h,h1,h2,zdN,peq]
   .refine⟨decide (p<m*4096),?_,λ_=>h1⟩;simp! [ybG,yaf,R.bind,h,idxV,ybg,at?,ixI,yE,binI,yaI,toR,yF,ybM];simp[h,h1,h2,zdN,peq]
 .refine⟨AC,?_,λz=>by cases z⟩;simp! [ybG,yaf,R.bind,h,idxV,ybg,at?,ixI,yE,binI,yaI,toR,yF,ybM];simp[h1]
theorem zhl(k:Nat){n:Nat}{ns:List Int}(hns:ns.length<=1000){a p m t:Int}(ha:0<=a){f:Bool}{u:Option PV}{st:SO}(h:st[n]?=AA (.lst [.lst (ns.map .int),.int a,.int p,.bl f])) :
  ∃p' f',exs (yc T (k+2)) [AA (.loc n),AA (.int m),AA (.int t),u] st ybV=.nx [AA (.loc n),AA (.int m),AA (.int (t+1)),u] (st.set n (.lst [.lst (ns.map .int),.int (a+1),.int p',.bl f'])):=by
 let⟨q,g,hq⟩:=fill k n ns hns a p ha f st h;have hm:(1+q%4093).natAbs<18446744073709551616:=by lia
 have hau:∀st,ex (yc T (k+2)) [AA (.loc n),AA (.int m),AA (.int t),u] st (.aug 2 .add (.cst (.int 1)))=.nx [AA (.loc n),AA (.int m),AA (.int (t+1)),u] st:=λst=>by
  rw[zpJ (x:=.int t) rfl];simp[IC.ve1,R.fl,ybX,yE,binI,nxO]
 cases g
 .refine⟨q,AC,?_⟩;simp! [ybV,yaf,hau,yaJ,nxO,R.fl,R.bind,hq,ybX,yE,binI,DM,rdS h,idxV,ybg,at?,ixI,yaI,toR,yF,ybM,onF,yaT];simp[rdS h]
 .by_cases hl:q<m*4096
  .refine⟨q+m*4096*(1+q%4093),AB,?_⟩;simp! [ybV,yaf,hau,yaJ,nxO,R.fl,R.bind,hq,ybX,yE,binI,DM,rdS h,idxV,ybg,at?,ixI,yaI,toR,yF,ybM,onF,yaT,stO,ybD];simp[rdS h,hl,hm]
  .refine⟨q,AB,?_⟩;simp! [ybV,yaf,hau,yaJ,nxO,R.fl,R.bind,hq,ybX,yE,binI,DM,rdS h,idxV,ybg,at?,ixI,yaI,toR,yF,ybM,onF,yaT];simp[rdS h,hl]
theorem zfk(k:Nat){n:Nat}{ns:List Int}(hns:ns.length<=1000){m:Int}{u:Option PV}:∀(r N:Nat) (t a p:Int) (f:Bool) (st:SO),r<=N->64 - t<=r->0<=a->st[n]?=AA (.lst [.lst (ns.map .int),.int a,.int p,.bl f]) ->
  ∃t' a' p' f',0<=a'/\yaX (yc T (k+2)) ybG ybV (N+1) [AA (.loc n),AA (.int m),AA (.int t),u] st=.nx [AA (.loc n),AA (.int m),AA (.int t'),u] (st.set n (.lst [.lst (ns.map .int),.int a',.int p',.bl f']))
 |r,N,t,a,p,f,st,hN,ht,ha,h=>by
  let⟨B,hB,hb⟩:=zhV (c:=yc T (k+2)) (m:=m) (t:=t) (u:=u) h;have hs:st.set n (.lst [.lst (ns.map .int),.int a,.int p,.bl f])=st:=by
   refine DY λi=>?_;rw[Co];split
   .rename_i e;subst e;split
    .exact h.symm
    .rename_i z;rw[BN (by lia)]at h
     cases h
   .rfl
  cases B with
  |false=>exact⟨t,a,p,f,ha,by rw[zf2 hB rfl,hs]⟩
  |true =>
   have h64:=hb rfl
   match r,N with
   |0,_=>exact absurd ht (by lia)
   |r+1,N+1 =>
    let⟨p1,f1,hx⟩:=zhl k hns (m:=m) (t:=t) ha (u:=u) h;let⟨t',a',p',f',h0,h2⟩:=zfk k hns (m:=m) (u:=u) r N (t+1) (a+1) p1 f1 _ (by lia) (by lia) (by lia) (rdS h);refine⟨t',a',p',f',h0,?_⟩;rw[ziP hB rfl hx,h2,D1]
theorem take(k n:Nat)(ns:List Int)(hns:ns.length<=1000)(a p m:Int)(ha:0<=a)(hm:0<m)(hm2:m<10000000000000000000000000000000000000000000000000000000000000000000000)(f:Bool)(st:SO)(h:st[n]?=AA (.lst [.lst (ns.map .int),.int a,.int p,.bl f])) :
  ∃d a' p' f',0<=d/\d<m/\0<=a'/\yc T (k+3) zfX [.loc n,.int m] st=.ok (.int d) (st.set n (.lst [.lst (ns.map .int),.int a',.int p',.bl f'])):=by
 let⟨t',a',p',f',h0,h2⟩:=zfk k hns (m:=m) (u:=AD) 64 99999 0 a p f st (by lia) (by lia) ha h;refine⟨p'%m,a',p' / m,f',Ao _ (by lia),Ad _ hm,h0,?_⟩;have hb:yaf.body=.cons (.asg (.n 2) (.cst (.int 0))) (.cons (.while ybG ybV) (.cons (.asg (.n 3) (.bin .mod (.idx (.var 0) (.cst (.int 2))) (.var 1))) (.cons (.six (.var 0) (.cst (.int 2)) (.bin .fdiv (.idx (.var 0) (.cst (.int 2))) (.var 1))) (.cons (.ret (.var 3)) .nil)))):=rfl;have hT:T zfX=AA ⟨2,4,AC,yaf.body⟩:=rfl;rw[yc,hT,hb];simp! [zl6,yaJ,nxO,stO,R.fl,R.bind,yO,h2,rdS h,idxV,ybg,at?,ixI,yE,binI,hm,hm2,and_self,toR,ybD];simp[rdS h,hm,hm2]
def Drw(ns:List Int)(n:Nat)(st:SO):Prop:=∃a p f,0<=a/\st[n]?=AA (.lst [.lst (ns.map .int),.int a,.int p,.bl f])
def Onl(ns:List Int)(n:Nat)(st st':SO):Prop:=∃a p f,0<=a/\st'=st.set n (.lst [.lst (ns.map .int),.int a,.int p,.bl f])
theorem Onl.drw{ns:List Int}{n:Nat}{st st':SO}(h:Drw ns n st)(o:Onl ns n st st'):Drw ns n st':=by
 let⟨a,p,f,ha,h⟩:=h;let⟨b,q,g,hb,rfl⟩:=o;exact⟨b,q,g,hb,rdS h⟩
theorem Onl.trans{ns:List Int}{n:Nat}{st st1 st2:SO}(o:Onl ns n st st1)(o2:Onl ns n st1 st2):Onl ns n st st2:=by
 let⟨b,q,g,hb,rfl⟩:=o;let⟨c,r,j,hc,rfl⟩:=o2;exact⟨c,r,j,hc,by rw[D1]⟩
theorem ybx(k:Nat){n:Nat}{ns:List Int}(hns:ns.length<=1000){m:Int}(hm:0<m)(hm2:m<10000000000000000000000000000000000000000000000000000000000000000000000){st:SO}(h:Drw ns n st) :
  ∃d st',0<=d/\d<m/\Onl ns n st st'/\yc T (k+3) zfX [.loc n,.int m] st=.ok (.int d) st':=by
 let⟨a,p,f,ha,h⟩:=h;let⟨d,a',p',f',h1,h2,h3,h4⟩:=take k n ns hns a p m ha hm hm2 f st h;exact⟨d,_,h1,h2,⟨_,_,_,h3,rfl⟩,h4⟩
theorem sizes(k:Nat){n:Nat}{ns:List Int}(hns:ns.length<=1000){m:Int}(hm:0<m)(hm2:m<=100){st:SO}(h:Drw ns n st) :
  ∃w z st',4<=w/\w<=16/\1<=z/\z<=m/\Onl ns n st st'/\yc T (k+4) zer [.loc n,.int m] st=.ok (.tup [.int w,.int z]) st':=by
 let⟨d,s1,d1,d2,o1,e1⟩:=ybx k hns (m:=13) (by lia) (by lia) h;let⟨e,s2,d3,d4,o2,e2⟩:=ybx k hns (m:=m) hm (by lia) (o1.drw h);refine⟨4+d,1+e,s2,by lia,by lia,by lia,by lia,o1.trans o2,?_⟩;have hT:T zer=AA zcQ:=rfl;rw[yc,hT];simp! [zcQ,yaJ,R.fl,R.bind,e1,e2,yE,binI,toR];simp[sizeMax]
theorem fresh(k:Nat)(ns:List Int)(h:ns.length<=63)(st:SO):∃v,yc T (k+1) zeE [.scr (ns.map .int)] st=.ok (.loc st.length) (st++[v])/\v=.lst [.lst (ns.map .int),.int 0,.int 0,.bl AC]:=by
 have hT:T zeE=AA zc2:=rfl;refine⟨_,?_,rfl⟩;rw[yc,hT];simp! [zc2,yaJ,ev,R.fl,R.bind,toR];have hc:ycJ (.scr (ns.map PV.int)) AD (.int 63)=AA (.lst (ns.map .int)):=by
  have hk:ybw ns.length 63=ns.length:=by
   show min 63 ns.length=ns.length;lia
  simp[ycJ,yb8,ycB,cut,ycU,yc8,hk]
  try rw[<- Ax (f:=PV.int),GY]
 simp[yb8,onP,hc,sizeMax]
theorem dbl{call:Cl}{i j:Nat}(hij:i≠j):∀(N:Nat) (a:Int) (ρ:IC.Env) (v:Int) (st:SO),ρ[i]?=AA (AA (.int v)) ->
  ∃u,ybj call (.n j) (.cons (.asg (.n i) (.bin .mul (.cst (.int 2)) (.var i))) .nil) (yr N a 1) ρ st=.nx ((ρ.set i (AA (.int (2^N*v)))).set j u) st/\(N=0->ρ[j]?=AA u \/ ρ.length<=j)
 |0,a,ρ,v,st,h=>by
  have hi:ρ.set i (AA (.int v))=ρ:=by
   refine DY λz=>?_;rw[Co];split
   .rename_i e;subst e;split
    .exact h.symm
    .rw[BN (by lia)]at h
     cases h
   .rfl
  rcases CF j ρ.length with hj|hj
  .refine⟨ρ[j],?_,λ_=>.inl (CD hj)⟩;rw[yr,zU,CT,Ak,hi,List.set_getElem_self]
  .refine⟨AD,?_,λ_=>.inr hj⟩;rw[yr,zU,CT,Ak,hi,List.set_eq_of_length_le hj]
 |N+1,a,ρ,v,st,h=>by
  have h1:(ρ.set j (AA (.int a)))[i]?=AA (AA (.int v)):=by
   rw[AO (BM hij)];exact h
  have hil:i<ρ.length:=by
   rcases CF i ρ.length with z|z
   .exact z
   .rw[BN z]at h;cases h
  have h2:exs call (ρ.set j (AA (.int a))) st (.cons (.asg (.n i) (.bin .mul (.cst (.int 2)) (.var i))) .nil)=.nx ((ρ.set j (AA (.int a))).set i (AA (.int (2*v)))) st:=by
   erw[xs_nil,xs_cons,x_asg,yaJ,nxO,IC.ve1,IC.ve2,IC.ve3,R.bind,R.fl,h1,yO,yE,binI,yaI,toR];simp
  let⟨u,h3,_⟩:=dbl (call:=call) hij N (a+1) ((ρ.set j (AA (.int a))).set i (AA (.int (2*v)))) (2*v) st (by rw[A9 (by rw[Be];exact hil)]);refine⟨u,?_,λz=>by cases z⟩;rw[yr,zK (ρ1:=ρ.set j (AA (.int a))) rfl,h2];show ybj call _ _ _ _ _=_;rw[h3,D1,Gx _ _ (BM hij),D1,Ae,BX]
theorem zeB(K:Nat):(0:Int)<2^K:=Af (by lia)
noncomputable def yL:Css:=match yab.body with
 | .cons _ (.cons _ (.cons _ r))=>r
 |_=>.nil
noncomputable def wT2:Css:=match yL with
 | .cons _ (.cons _ (r))=>r
 |_=>.nil
theorem wE2:yL=(match yL with
 | .cons q0 (.cons q1 (_))=>.cons q0 (.cons q1 (wT2))
 |_=>.nil):=rfl
noncomputable def wT4:Css:=match yL with
 | .cons _ (.cons _ (.cons _ (.cons _ (r))))=>r
 |_=>.nil
theorem wE4:yL=(match yL with
 | .cons q0 (.cons q1 (.cons q2 (.cons q3 (_))))=>.cons q0 (.cons q1 (.cons q2 (.cons q3 (wT4))))
 |_=>.nil):=rfl
noncomputable def wT5:Css:=match yL with
 | .cons _ (.cons _ (.cons _ (.cons _ (.cons _ (r)))))=>r
 |_=>.nil
theorem wE5:yL=(match yL with
 | .cons q0 (.cons q1 (.cons q2 (.cons q3 (.cons q4 (_)))))=>.cons q0 (.cons q1 (.cons q2 (.cons q3 (.cons q4 (wT5)))))
 |_=>.nil):=rfl
noncomputable def wT6:Css:=match yL with
 | .cons _ (.cons _ (.cons _ (.cons _ (.cons _ (.cons _ (r))))))=>r
 |_=>.nil
theorem wE6:yL=(match yL with
 | .cons q0 (.cons q1 (.cons q2 (.cons q3 (.cons q4 (.cons q5 (_))))))=>.cons q0 (.cons q1 (.cons q2 (.cons q3 (.cons q4 (.cons q5 (wT6))))))
 |_=>.nil):=rfl
theorem zhh{c:Cl}{n:Nat}{w z kd m:Int}{u5 u6 u7 u8 u9 u10 u11 u12:Option PV}{st:SO}(h0:0<=kd)(h6:kd<6)(hm:16<=m) :
  ∃x,0<=x/\x<m/\exs c [AA (.loc n),AA (.int w),AA (.int z),AA (.int kd),AA (.int m),u5,u6,u7,u8,u9,u10,u11,u12] st yL=.rt (.int x) st:=by
 obtain⟨x,x0,x1,hv⟩:∃x:Int,0<=x/\x<m/\∀st,idxV st (.tup [.int 0,.int 1,.int (m - 1),.int (m / 2),.int (m / 2 - 1),.int (m - 2)]) (.int kd)=AA (.int x):=by
  rcases (by lia:kd=0 \/ kd=1 \/ kd=2 \/ kd=3 \/ kd=4 \/ kd=5)with rfl|rfl|rfl|rfl|rfl|rfl
  .exact⟨0,by lia,by lia,λ_=>rfl⟩
  .exact⟨1,by lia,by lia,λ_=>rfl⟩
  .exact⟨m - 1,by lia,by lia,λ_=>rfl⟩
  .exact⟨m / 2,by lia,by lia,λ_=>rfl⟩
  .exact⟨m / 2 - 1,by lia,by lia,λ_=>rfl⟩
  .exact⟨m - 2,by lia,by lia,λ_=>rfl⟩
 refine⟨x,x0,x1,?_⟩;rw[wE2];erw[yL,yab,AZ,CA,CS,Ei,if_true,xs_cons,xs_nil,x_asg,x_ite,x_ret,IC.ve1,IC.ve2,IC.ve3,IC.ve8,IC.ve11,IC.ve16,IC.ve18,evs,BD,Ap,bd_ok,fl_ok,toR_some,bT_n,nxO_some,th_nx,th_rt,B4,B5,t_bl,on_t,sizeMax,G5,b_sub,b_div2,c_lt,c_eq,c_gt,cond_true,cond_false,hv,h6,decide_true]
theorem zja(k:Nat){n:Nat}{ns:List Int}(hns:ns.length<=1000){w z kd m:Int}{u5 u6 u7 u8 u9 u10 u11 u12:Option PV}{st:SO}(h:Drw ns n st)(h9:9<kd)(hm:16<=m)(hm2:m<=18446744073709551616) :
  ∃x st',0<=x/\x<m/\Onl ns n st st'/\exs (yc T (k+3)) [AA (.loc n),AA (.int w),AA (.int z),AA (.int kd),AA (.int m),u5,u6,u7,u8,u9,u10,u11,u12] st yL=.rt (.int x) st':=by
 let⟨d,s1,d1,d2,o1,e1⟩:=ybx k hns (m:=m) (by lia) (by lia) h;refine⟨d,s1,d1,d2,o1,?_⟩;have k1:decide (kd<6)=false:=decide_eq_false (by lia);have k2:(kd == 6)=false:=beq_eq_false_iff_ne.2 (by lia);have k3:(kd == 7)=false:=beq_eq_false_iff_ne.2 (by lia);rw[wE6];erw[yL,yab,AZ,CA,CS,Ei,if_true,xs_cons,xs_nil,x_asg,x_ite,x_ret,IC.ve1,IC.ve2,IC.ve3,IC.ve8,IC.ve11,IC.ve16,IC.ve18,evs,BD,Ap,bd_ok,fl_ok,toR_some,bT_n,nxO_some,th_nx,th_rt,B4,B5,t_bl,on_t,sizeMax,G5,b_sub,b_div2,c_lt,c_eq,c_gt,cond_true,cond_false,e1,h9,decide_true,k1,k2,k3]
theorem zhf(k:Nat){n:Nat}{ns:List Int}(hns:ns.length<=1000){w z kd m:Int}{u5 u6 u7 u8 u9 u10 u11 u12:Option PV}{st:SO}(h:Drw ns n st)(hk:kd=6 \/ kd=7)(hw:4<=w)(hw2:w<=16)(hz:1<=z)(hz2:z<=4)(hm:m=2^(w*z).toNat) :
  ∃x st',0<=x/\x<m/\Onl ns n st st'/\exs (yc T (k+3)) [AA (.loc n),AA (.int w),AA (.int z),AA (.int kd),AA (.int m),u5,u6,u7,u8,u9,u10,u11,u12] st yL=.rt (.int x) st':=by
 have hwz:4<=w*z:=by
  have:=EX hw hz (by lia) (by lia);lia
 have hwz2:w*z<=64:=by
  have:=EX hw2 hz2 (by lia) (by lia);lia
 have hm1:0<m:=hm ▸ zeB _;have hm2:m<=18446744073709551616:=by
  have h64:(2:Nat)^(w*z).toNat<=2^64:=Al (by lia) (by lia);have h65:((2^(w*z).toNat:Nat):Int)=2^(w*z).toNat:=by simp
  rw[hm,<- h65];lia
 let⟨d,s1,d1,d2,o1,e1⟩:=ybx k hns (m:=m) (by lia) (by lia) h;let⟨e,s2,d3,d4,o2,e2⟩:=ybx k hns (m:=w*z) (by lia) (by lia) (o1.drw h);have hj:(2:Int)^e.toNat<m:=by
  rw[hm];exact Int.pow_lt_pow_of_lt (by lia) (by lia)
 have hj1:=zeB e.toNat;have hj2:(2:Int)^e.toNat<10000000000000000000000000000000000000000000000000000000000000000000000:=by lia
 have hj3:((2:Int)^e.toNat).natAbs<18446744073709551616:=by lia
 have hj4:(2:Nat)^e.toNat<18446744073709551616:=by
  have h65:((2^e.toNat:Nat):Int)=2^e.toNat:=by simp
  lia
 have hwa:w.natAbs<18446744073709551616:=by lia
 have hea:e.natAbs<1000000000:=by lia
 have hr:yb3 (.int e)=AA (yr e.toNat 0 1):=by erw[yb3,hea,if_true]
 have q1:=zmr (i:=d) hj1 (by lia);have q2:yE .mul (.int (d / 2^e.toNat)) (.int (2^e.toNat))=AA (.int (d / 2^e.toNat*2^e.toNat)):=zdF hj3;have q3:yE .mul (.int w) (.int z)=AA (.int (w*z)):=za1 hwa
 clear hj2 hj4 hea hwa hj3 hwz hwz2
 rcases hk with rfl|rfl
 .let⟨u,hd,_⟩:=dbl (call:=yc T (k+3)) (i:=8) (j:=5) (by lia) e.toNat 0 [AA (.loc n),AA (.int w),AA (.int z),AA (.int 6),AA (.int m),u5,AA (.tup [.int 0,.int 1,.int (m - 1),.int (m / 2),.int (m / 2 - 1),.int (m - 2)]),AA (.int d),AA (.int 1),u9,u10,u11,u12] 1 s2 rfl;refine⟨d / 2^e.toNat*2^e.toNat,s2,By (Bq d1 (by lia)) (by lia),Int.lt_of_le_of_lt (Int.ediv_mul_le d (by lia)) d2,o1.trans o2,?_⟩;have k1:decide ((6:Int)<6)=false:=rfl;have k2:((6:Int) == 6)=true:=rfl;rw[Cr]at hd;rw[wE4];generalize wT4=F at *;generalize (2:Int)^e.toNat=P at *;erw[IC.PV.tup]at hd;simp! [yL,yab,e1,k1,k2,q3,e2,hr,hd,q1,q2]
 .let⟨u,hd,_⟩:=dbl (call:=yc T (k+3)) (i:=8) (j:=5) (by lia) e.toNat 0 [AA (.loc n),AA (.int w),AA (.int z),AA (.int 7),AA (.int m),u5,AA (.tup [.int 0,.int 1,.int (m - 1),.int (m / 2),.int (m / 2 - 1),.int (m - 2)]),AA (.int d),AA (.int 1),u9,u10,u11,u12] 1 s2 rfl;refine⟨m - 2^e.toNat,s2,by lia,by lia,o1.trans o2,?_⟩;have k1:decide ((7:Int)<6)=false:=rfl;have k2:((7:Int) == 6)=false:=rfl;have k3:((7:Int) == 7)=true:=rfl;rw[Cr]at hd;rw[wE5];generalize wT5=F at *;generalize (2:Int)^e.toNat=P at *;erw[IC.PV.tup]at hd;simp! [yL,yab,e1,k1,k2,k3,q3,e2,hr,hd]
theorem Drw.refl{ns:List Int}{n:Nat}{st:SO}(h:Drw ns n st):Onl ns n st st:=by
 let⟨a,p,f,ha,h⟩:=h;exact⟨a,p,f,ha,zkv h⟩
noncomputable def ybT:Css:=match yL with
 | .cons _ (.cons _ (.cons _ (.cons _ (.cons _ (.cons _ (.cons _ (.cons _ (.cons _ (.cons (.for _ _ b) _)))))))))=>b
 |_=>.nil
theorem zha(k:Nat){n:Nat}{ns:List Int}(hns:ns.length<=1000){p1 p2 p3 p4 p6 p8 u11 u12:Option PV}{d W acc a:Int}{st:SO}(h:Drw ns n st)(ha:0<=a)(ha2:a<1000)(hW:4<=W)(hW2:W<18446744073709551616) :
  ∃e st' v11 v12,0<=e/\e<W/\Onl ns n st st'/\exs (yc T (k+3)) [AA (.loc n),p1,p2,p3,p4,AA (.int a),p6,AA (.int d),p8,AA (.int W),AA (.int acc),u11,u12] st ybT=.nx [AA (.loc n),p1,p2,p3,p4,AA (.int a),p6,AA (.int d),p8,AA (.int W),AA (.int (acc*W+e)),v11,v12] st':=by
 let⟨t,s1,d1,d2,o1,e1⟩:=ybx k hns (m:=5) (by lia) (by lia) h;have hW0:0<W:=by lia
 have hWm:W.natAbs<18446744073709551616:=by lia
 have ha3:0<a+1:=by lia
 have ha4:a+1<18446744073709551616*18446744073709551616:=by lia
 have q0:=Ao (d / (a+1)) (show W≠0 by lia);have q1:=Ad (d / (a+1)) hW0;obtain⟨e,x0,x1,hv⟩:∃e:Int,0<=e/\e<W/\∀st,idxV st (.tp AC [.int 0,.int 1,.int (W - 1),.int (W / 2),.int (d / (a+1)%W)]) (.int t)=AA (.int e):=by
  rcases (by lia:t=0 \/ t=1 \/ t=2 \/ t=3 \/ t=4)with rfl|rfl|rfl|rfl|rfl
  .exact⟨0,by lia,by lia,λ_=>rfl⟩
  .exact⟨1,by lia,by lia,λ_=>rfl⟩
  .exact⟨W - 1,by lia,by lia,λ_=>rfl⟩
  .exact⟨W / 2,by lia,by lia,λ_=>rfl⟩
  .exact⟨d / (a+1)%W,q0,q1,λ_=>rfl⟩
 refine⟨e,s1,AA (.int (d / (a+1)%W)),AA (.tp AC [.int 0,.int 1,.int (W - 1),.int (W / 2),.int (d / (a+1)%W)]),x0,x1,o1,?_⟩;simp! [ybT,yL,yab,zmr ha3 ha4,ziS hW0,zdF hWm,e1,hv]
theorem zd6(k:Nat){n:Nat}{ns:List Int}(hns:ns.length<=1000){p1 p2 p3 p4 p6 p8:Option PV}{d W:Int}(hW:4<=W)(hW2:W<18446744073709551616):∀(r i:Nat) (a acc:Int) (u5 u11 u12:Option PV) (st:SO),0<=a->a+r<1000->0<=acc->acc<W^i->Drw ns n st ->
  ∃acc' st' v5 v11 v12,0<=acc'/\acc' < W^(i+r)/\Onl ns n st st'/\ybj (yc T (k+3)) (.n 5) ybT (yr r a 1) [AA (.loc n),p1,p2,p3,p4,u5,p6,AA (.int d),p8,AA (.int W),AA (.int acc),u11,u12] st=.nx [AA (.loc n),p1,p2,p3,p4,v5,p6,AA (.int d),p8,AA (.int W),AA (.int acc'),v11,v12] st'
 |0,i,a,acc,u5,u11,u12,st,_,_,h0,h1,h=>⟨acc,st,u5,u11,u12,h0,h1,h.refl,by rw[yr,zU]⟩
 |r+1,i,a,acc,u5,u11,u12,st,ha,hr,h0,h1,h=>by
  let⟨e,s1,v11,v12,e0,e1,o1,hs⟩:=zha k hns (p1:=p1) (p2:=p2) (p3:=p3) (p4:=p4) (p6:=p6) (p8:=p8) (u11:=u11) (u12:=u12) (d:=d) (acc:=acc) h ha (by lia) hW hW2;have hb:acc*W+e<W^(i+1):=by
   have:=BL (show acc<=W^i - 1 by lia) (show 0<=W by lia);rw[Bm,Ak]at this;rw[Ae];lia
  have hb0:0<=acc*W:=By h0 (by lia);let⟨acc',s2,w5,w11,w12,f0,f1,o2,hf⟩:=zd6 k hns (p1:=p1) (p2:=p2) (p3:=p3) (p4:=p4) (p6:=p6) (p8:=p8) (d:=d) hW hW2 r (i+1) (a+1) (acc*W+e) (AA (.int a)) v11 v12 s1 (by lia) (by lia) (by lia) hb (o1.drw h);refine⟨acc',s2,w5,w11,w12,f0,by rw[show i+(r+1)=i+1+r by lia];exact f1,o1.trans o2,?_⟩;rw[yr,zK (ρ1:=[AA (.loc n),p1,p2,p3,p4,AA (.int a),p6,AA (.int d),p8,AA (.int W),AA (.int acc),u11,u12]) rfl,hs];exact hf
theorem zfU(k:Nat){n:Nat}{ns:List Int}(hns:ns.length<=1000){w z:Nat}{kd m:Int}{u5 u6 u7 u8 u9 u10 u11 u12:Option PV}{st:SO}(h:Drw ns n st)(hk:kd=8 \/ kd=9)(hw:4<=w)(hw2:w<=16)(hz:1<=z)(hz2:z<=4)(hm:m=2^(w*z)) :
  ∃x st',0<=x/\x<m/\Onl ns n st st'/\exs (yc T (k+3)) [AA (.loc n),AA (.int w),AA (.int z),AA (.int kd),AA (.int m),u5,u6,u7,u8,u9,u10,u11,u12] st yL=.rt (.int x) st':=by
 have hwz2:w*z<=64:=BH hw2 hz2;have hm1:0<m:=hm ▸ zeB _;have hm2:m<=18446744073709551616:=by
  have h64:(2:Nat)^(w*z)<=2^64:=Al (by lia) hwz2;rw[hm,<- pw];lia
 let⟨d,s1,d1,d2,o1,e1⟩:=ybx k hns (m:=m) (by lia) (by lia) h;have hW4:(4:Int)<=2^w:=by
  have h:(2:Nat)^2<=2^w:=Al (by lia) (by lia);have h2:=pw w;lia
 have hWl:(2:Int)^w<18446744073709551616:=by
  have h:(2:Nat)^w<=2^16:=Al (by lia) hw2;have h2:=pw w;lia
 have r1:yb3 (.int (w:Int))=AA (yr w 0 1):=zb2 w (by lia);have r2:yb3 (.int (z:Int))=AA (yr z 0 1):=zb2 z (by lia);have k1:¬kd<6:=by lia
 have k2:(kd == 6)=false:=by simp;lia
 have k3:(kd == 7)=false:=by simp;lia
 have k4:¬9<kd:=by lia
 let⟨u,hd,_⟩:=dbl (call:=yc T (k+3)) (i:=9) (j:=5) (by lia) w 0 [AA (.loc n),AA (.int w),AA (.int z),AA (.int kd),AA (.int m),u5,AA (.tup [.int 0,.int 1,.int (m - 1),.int (m / 2),.int (m / 2 - 1),.int (m - 2)]),AA (.int d),u8,AA (.int 1),u10,u11,u12] 1 s1 rfl;erw[B4,B5,Cr]at hd;let⟨acc',s2,w5,w11,w12,f0,f1,o2,hf⟩:=zd6 k hns (p1:=AA (.int w)) (p2:=AA (.int z)) (p3:=AA (.int kd)) (p4:=AA (.int m)) (p6:=AA (.tup [.int 0,.int 1,.int (m - 1),.int (m / 2),.int (m / 2 - 1),.int (m - 2)])) (p8:=u8) (d:=d) (W:=2^w) hW4 hWl z 0 0 0 u u11 u12 s1 (by lia) (by lia) (by lia) (by simp) (o1.drw h);rw[CS,<- CU,<- hm]at f1;refine⟨acc',s2,f0,f1,o1.trans o2,?_⟩
 have hR:yL=.cons (.asg (.n 6) (.tup (.cons (.cst (.int 0)) (.cons (.cst (.int 1)) (.cons (.bin .sub (.var 4) (.cst (.int 1))) (.cons (.bin .fdiv (.var 4) (.cst (.int 2))) (.cons (.bin .sub (.bin .fdiv (.var 4) (.cst (.int 2))) (.cst (.int 1))) (.cons (.bin .sub (.var 4) (.cst (.int 2))) .nil)))))))) (match yL with
  | .cons _ (.cons a (.cons b (.cons c (.cons d (.cons e (.cons f (.cons g (.cons h (.cons (.for t i _) r)))))))))=>.cons a (.cons b (.cons c (.cons d (.cons e (.cons f (.cons g (.cons h (.cons (.for t i ybT) r))))))))
  |_=>.nil):=rfl
 rw[hR];simp! [yL,yab,r1,r2,k1,k2,k3,k4,decide_false,e1,hd,hf]
theorem worth(k:Nat){n:Nat}{ns:List Int}(hns:ns.length<=1000)(w z:Nat)(hw:4<=w)(hw2:w<=16)(hz:1<=z)(hz2:z<=4){st:SO}(h:Drw ns n st) :
  ∃x st',0<=x/\x<2^(w*z)/\Onl ns n st st'/\yc T (k+4) zcT [.loc n,.int w,.int z] st=.ok (.int x) st':=by
 let⟨kd,s1,d1,d2,o1,e1⟩:=ybx k hns (m:=12) (by lia) (by lia) h;have h1:=o1.drw h;have hwz2:w*z<=64:=BH hw2 hz2;have hwz:4<=w*z:=BH hw hz;have hm:(16:Int)<=2^(w*z):=by
  have h:(2:Nat)^4<=2^(w*z):=Al (by lia) hwz;have h2:=pw (w*z);lia
 have hm2:(2:Int)^(w*z)<=18446744073709551616:=by
  have h:(2:Nat)^(w*z)<=2^64:=Al (by lia) hwz2;have h2:=pw (w*z);lia
 have hwa:(w:Int).natAbs<18446744073709551616:=by lia
 have hwm:(w:Int)*(z:Int)=((w*z:Nat):Int):=by simp
 have r1:yb3 (.int ((w*z:Nat):Int))=AA (yr (w*z) 0 1):=zb2 _ (by lia);let⟨u,hd,_⟩:=dbl (call:=yc T (k+3)) (i:=4) (j:=5) (by lia) (w*z) 0 [AA (.loc n),AA (.int w),AA (.int z),AA (.int kd),AA (.int 1),AD,AD,AD,AD,AD,AD,AD,AD] 1 s1 rfl;erw[B4,B5,Cr]at hd;have key:∃x st',0<=x/\x<2^(w*z)/\Onl ns n s1 st'/\exs (yc T (k+3)) [AA (.loc n),AA (.int w),AA (.int z),AA (.int kd),AA (.int (2^(w*z))),u,AD,AD,AD,AD,AD,AD,AD] s1 yL=.rt (.int x) st':=by
  rcases (by lia:kd<6 \/ (kd=6 \/ kd=7) \/ (kd=8 \/ kd=9) \/ 9<kd)with q|q|q|q
  .let⟨x,a,b,e⟩:=zhh (c:=yc T (k+3)) (n:=n) (w:=w) (z:=z) (st:=s1) (u5:=u) (u6:=AD) (u7:=AD) (u8:=AD) (u9:=AD) (u10:=AD) (u11:=AD) (u12:=AD) d1 q hm;exact⟨x,s1,a,b,h1.refl,e⟩
  .exact zhf k hns h1 q (by lia) (by lia) (by lia) (by lia) (by rw[hwm,CK])
  .exact zfU k hns h1 q hw hw2 hz hz2 rfl
  .exact zja k hns h1 q hm hm2
 let⟨x,s2,a,b,o2,e2⟩:=key;refine⟨x,s2,a,b,o1.trans o2,?_⟩;have hT:T zcT=AA ⟨3,13,AC,yab.body⟩:=rfl;have hb:yab.body=.cons (.asg (.n 3) (.call 100 (.cons (.var 0) (.cons (.cst (.int 12)) .nil)))) (.cons (.asg (.n 4) (.cst (.int 1))) (.cons (.for (.n 5) (.range1 (.bin .mul (.var 1) (.var 2))) (.cons (.asg (.n 4) (.bin .mul (.cst (.int 2)) (.var 4))) .nil)) yL)):=rfl;rw[yc,hT,hb];erw[AZ,CA,CS,Ei,if_true,BW,if_false,AL,A5,Di,BG,Ab,Au];rw[xs_cons,x_asg];erw[IC.ve18,IC.ve1,IC.ve2,evs,BD,Ap,bd_ok,fl_ok,e1,bT_n,nxO_some,th_nx,B4,B5];rw[xs_cons,x_asg];erw[IC.ve1,bd_ok,fl_ok,bT_n,nxO_some,th_nx,B4,B5];rw[xs_cons,x_for];erw[evi,IC.ve2,IC.ve3,BD,Ap,bd_ok,fl_ok,za1 hwa,hwm,r1,toL,toR_some,hd,th_nx,e2]
theorem zn1(st:SO)(xs:List PV):yaD .all st [.lst (xs.map λ_=>.bl AB)]=AA (.bl AB):=by
 have h:∀xs:List PV,allB (xs.map λ_=>PV.bl AB)=AA true:=λxs=>by
  induction xs with
  |nil=>rfl
  |cons x xs ih=>simp[allB,ih]
 simp[yaD,yah,h]
theorem number(k:Nat)(ws:List Int){w N:Nat}(hw:w<=16)(h:inW (2^w) ws)(hN:ws.length=N)(hN2:N<=8)(st:SO):yc T (k+3) zaz [.tp AC (ws.map .int),.int w,.int N] st=.ok (.bl AB) st:=by
 have hT:T zaz=AA zb4:=rfl;have hnl:nLs [.tp AC (ws.map .int),.int w,.int N]=true:=by simp[nLs,nL,noLocs_ints]
 have ln:∀st,yaD .len st [.tp AC (ws.map .int)]=AA (.int N):=λst=>by
  show AA (PV.int (((ws.map PV.int).length:Nat):Int))=_;rw[Ax,hN]
 have hi:ya1 (.tp AC (ws.map .int)) [.tuple]=AA (.bl AB):=rfl;have wh:∀(v:Int) st,yc T (k+2) zbv [.int v] st=.ok (.bl AB) st:=λv st=>by
  have hT:T zbv=AA zcR:=rfl;rw[zc hT rfl rfl rfl];ac_rfl
 have c1:yal (yc T (k+2)) [AD] (.n 0) (.cst (.bl AB)) (.call zbv (.cons (.var 0) .nil)) (ws.map .int) []=.ok ((ws.map PV.int).map λ_=>.bl AB) []:=by
  refine zaJ _ λp hp=>?_;let⟨v,_,rfl⟩:=D0.1 hp;simp! [yaP,wh]
 have ht:=zk4 (k+1) w (by lia) [];have c2:yal (yc T (k+2)) [AD,AA (.int w)] (.n 0) (.cst (.bl AB)) (.chain .le .lt (.cst (.int 0)) (.var 0) (.call zb9 (.cons (.var 1) .nil))) (ws.map .int) []=.ok ((ws.map PV.int).map λ_=>.bl AB) []:=by
  refine zaJ _ λp hp=>?_;let⟨v,hv,rfl⟩:=D0.1 hp;have d1:decide (0<=v)=true:=decide_eq_true (h v hv).1;have d2:decide (v<2^w)=true:=decide_eq_true (h v hv).2;simp! [yaP,ht,d1,d2,blO]
 have lr:=λst=>zcA ((ws.map PV.int).map λ_=>PV.bl AB) (by simp[hN];lia) st;have al:=λst=>zn1 st (ws.map .int);rw[show k+3=k+2+1 by lia,zc hT rfl rfl hnl];generalize (ws.map PV.int).map (λ_=>PV.bl AB)=L at *;generalize ws.map PV.int=W at *;simp! [zb4,hi,ln,c1,c2,lr,al,beq_self_eq_true];rfl
theorem zbY{W:Int}(hW:0<W)(n:Nat)(x:Int):inW W (ye W n x):=λv hv=>zbs hW n x v hv
theorem wholes(k:Nat)(ms:List Int)(hN:ms.length=4)(h:∀v∈ms,-1<=v/\v<=1)(st:SO):yc T (k+3) zc9 [.tp AC (ms.map .int),.int 4,.int 1] st=.ok (.bl AB) st:=by
 have hT:T zc9=AA zbN:=rfl;have hnl:nLs [.tp AC (ms.map .int),.int 4,.int 1]=true:=by simp[nLs,nL,noLocs_ints]
 have ln:∀st,yaD .len st [.tp AC (ms.map .int)]=AA (.int 4):=λst=>by
  show AA (PV.int (((ms.map PV.int).length:Nat):Int))=_;rw[Ax,hN];rfl
 have hi:ya1 (.tp AC (ms.map .int)) [.tuple]=AA (.bl AB):=rfl;have wh:∀(v:Int) st,yc T (k+2) zbv [.int v] st=.ok (.bl AB) st:=λv st=>by
  have hT:T zbv=AA zcR:=rfl;rw[zc hT rfl rfl rfl];ac_rfl
 have c2:yal (yc T (k+2)) [AD,AA (.int 1)] (.n 0) (.cst (.bl AB)) (.and (.call zbv (.cons (.var 0) .nil)) (.chain .le .le (.bin .sub (.cst (.int 0)) (.var 1)) (.var 0) (.var 1))) (ms.map .int) []=.ok ((ms.map PV.int).map λ_=>.bl AB) []:=by
  refine zaJ _ λp hp=>?_;let⟨v,hv,rfl⟩:=D0.1 hp;have d1:decide (0 - 1<=v)=true:=decide_eq_true (by have:=(h v hv).1;lia);have d2:decide (v<=1)=true:=decide_eq_true (h v hv).2;simp! [yaP,wh,d1,d2,blO]
 have lr:=λst=>zcA ((ms.map PV.int).map λ_=>PV.bl AB) (by simp[hN]) st;have al:=λst=>zn1 st (ms.map .int);rw[show k+3=k+2+1 by lia,zc hT rfl rfl hnl];generalize (ms.map PV.int).map (λ_=>PV.bl AB)=L at *;generalize ms.map PV.int=W at *;simp! [zbN,hi,ln,c2,lr,al,beq_self_eq_true];rfl
theorem zcn{W:Int}(hW:0<W)(m:Nat):∀(n:Nat) (V:Int),ye W (n+m) V=ye W n V++ye W m (V / W^n)
 |0,V=>by rw[CS,CT,DD];rfl
 |n+1,V=>by
  rw[show n+1+m=(n+m)+1 by lia,ye,zcn hW m n,ye,Ab,Ae,A7,BO (by lia)]
theorem zcm{W:Int}(hW:0<W):∀(n:Nat) (V:Int),ye W n (V%W^n)=ye W n V
 |0,V=>rfl
 |n+1,V=>by
  have h1:V%W^(n+1)%W=V%W:=by rw[Ae];exact F2 V ⟨W^n,A7 _ _⟩
  have h2:V%W^(n+1) / W=V / W%W^n:=by
   have e:=BE V (W^(n+1));have e1:=BE (V / W) (W^n);have e2:V / W / W^n=V / W^(n+1):=by rw[BO (by lia),Ae,A7]
   rw[e2]at e1;have e3:V=V%W^(n+1)+W^n*(V / W^(n+1))*W:=by
    rw[Ae]at e ⊢;rw[Fu];lia
   have e4:V / W=V%W^(n+1) / W+W^n*(V / W^(n+1)):=by
    conv=>lhs;rw[e3]
    rw[FL _ _ (by lia)]
   lia
  rw[ye,ye,h1,h2,zcm hW n]
theorem zhb(l:List Int):nLs [PV.scr (l.map .int)]=true:=by simp[nLs,nL,noLocs_ints]
theorem zgP{M:Mem}{u:Int}{a b:Bool}(h0:M 109 0=0)(h1:M 109 1=u)(h2:M 109 2=bi a)(h3:M 109 3=bi b):getM M 109 0 4=[0,u,bi a,bi b]:=by
 show [M 109 0,M 109 1,M 109 2,M 109 3]=_;rw[h0,h1,h2,h3]
theorem ygl:yc T 20 zR [.tp AC [.str "product"]] []=.ok (.bl AB) []:=zcw (by decide +kernel)
theorem yha:yc T 20 zR [.tp AC [.str "signed product"]] []=.ok (.bl AB) []:=zcw (by decide +kernel)
section
variable {w n:Nat}(hw:4<=w)(hw2:w<=16)(hn:1<=n){x y:Int}(x0:0<=x)(x1:x<2^(w*n))(y0:0<=y)(y1:y<2^(w*n))(st:SO)
include hw hw2 hn x0 x1
theorem zkX(hn2:n<=4)(y0:0<=y)(y1:y<2^(w*n)):∃ms,yc T 24 zP [.tp AC [.str "product"],.int w,.int n,.int x,.int y] st=.ok (.tp AC [.tp AC ((ye (2^w) (2*n) (x*y)).map .int),ms]) st:=by
 have hp:(2:Int)^(w*n)=(2^w:Int)^n:=CU;obtain⟨m,rfl⟩:∃m,n=m+1:=⟨n - 1,by lia⟩;exact⟨_,answer 1 (ycn hw2 hn hn2) (zee hn hn2) hw2 (by lia) hn2 (by lia) (zdq hn2) x0 x1 y0 y1 (λ_=>ygl) (zjM (by lia) x0 (by rw[<- hp];exact x1) y0 (by rw[<- hp];exact y1)) st⟩
theorem yfg(hn2:n<=2)(y0:0<=y)(y1:y<2^(w*n)){P:Int}(hP:P=sgd (2^(w*n)) x*sgd (2^(w*n)) y):∃a b:Bool,yc T 24 zP [.tp AC [.str "signed product"],.int w,.int n,.int x,.int y] st=.ok (.tp AC [.tp AC ((ye (2^w) (2*n) (P%(2^w:Int)^(2*n))).map .int),.tp AC (([0,bi (!yaS (2^(w*n)) P),bi a,bi b]:List Int).map .int)]) st:=by
 have hp:(2:Int)^(w*n)=(2^w:Int)^n:=CU;rw[hp]at hP x1 y1 ⊢;obtain⟨m,rfl⟩:∃m,n=m+1:=⟨n - 1,by lia⟩;let⟨q1,q2,q3,q4,q5⟩:=zgW (w:=w) (by lia) x0 x1 y0 y1 hP;have e:=answer 1 (yce hw2 hn (by lia)) (zgd hn (by lia)) hw2 (by lia) (by lia) (by lia) (zeP (by lia)) x0 (by rw[hp];exact x1) y0 (by rw[hp];exact y1) (λ_=>yha) q1 st;rw[zgP q2 q3 q4 q5]at e;exact⟨_,_,e⟩
theorem zod{N:Nat}{e:Int}(hn2:n<=4)(hN:1<=N)(hN2:N<=4)(he:e=N - n)(h:e=-2 \/ e=-1 \/ e=1 \/ e=2):∃a b:Bool,yc T 24 zP [ybn e,.int w,.int n,.int x,.int 0] st=.ok (.tp AC [.tp AC ((ye (2^w) N (sgd (2^(w*n)) x%(2^w:Int)^N)).map .int),.tp AC (([0,bi (!yaS ((2^w:Int)^N) (sgd (2^(w*n)) x)),bi a,bi b]:List Int).map .int)]) st:=by
 have hp:(2:Int)^(w*n)=(2^w:Int)^n:=CU;have hP0:(0:Int)<2^(w*n):=Af (by lia);obtain⟨m,rfl⟩:∃m,n=m+1:=⟨n - 1,by lia⟩;obtain⟨M,rfl⟩:∃M,N=M+1:=⟨N - 1,by lia⟩;let⟨q1,q2,q3,q4,q5⟩:=zkg (w:=w) (by lia) AB AB (n:=m) (N:=M) (x:=x) x0 (by rw[<- hp];exact x1) rfl;rw[if_pos rfl,<- hp]at q1 q3 q4 q5;rw[if_pos rfl]at q3;have e:=answer 1 (ycW hw2 he h hn hn2 hN hN2) (zkR hn (by lia) hN (by lia) AB AB) hw2 (by lia) hn2 (by lia) (by have:=zi9 AB AB (m+1) (M+1);lia) x0 x1 (G9 0) hP0 (λh=>absurd rfl h) q1 st;rw[zgP q2 q3 q4 q5]at e;exact⟨_,_,e⟩
theorem znj(hn2:n<=4):∃ms,yc T 24 zP [.tp AC [.str "turned"],.int w,.int n,.int x,.int 0] st=.ok (.tp AC [.tp AC ((ye (2^w) n ((0 - x)%(2^w:Int)^n)).map .int),ms]) st:=by
 have hp:(2:Int)^(w*n)=(2^w:Int)^n:=CU;have hP0:(0:Int)<2^(w*n):=Af (by lia);obtain⟨m,rfl⟩:∃m,n=m+1:=⟨n - 1,by lia⟩;exact⟨_,answer 1 (ycm hw2 hn hn2) (zjd hn hn2) hw2 (by lia) hn2 (by lia) (zgC hn2) x0 x1 (G9 0) hP0 (λh=>absurd rfl h) (zhi (w:=w) (by lia) x0 (by rw[<- hp];exact x1)).1 st⟩
end
theorem zeI{T x:Int}(x0:0<=x)(x1:x<T):-T<=2*sgd T x/\2*sgd T x<T/\∃q,sgd T x=x+T*q:=by
 unfold sgd;split
 .exact⟨by lia,by lia,-1,by lia⟩
 .exact⟨by lia,by lia,0,by lia⟩
theorem zjn{T a b:Int}(a0:-T<=2*a)(a1:2*a<T)(b0:-T<=2*b)(b1:2*b<T):-(T*T)<=4*(a*b)/\4*(a*b)<=T*T:=by
 have h:=BH (show (2*a).natAbs<=T.natAbs by lia) (show (2*b).natAbs<=T.natAbs by lia);rw[<- Cf,<- Cf]at h;have e:2*a*(2*b)=4*(a*b):=by rw[BX,C7 a 2 b,<- BX];rfl
 rw[e]at h;have h0:0<=T*T:=By (by lia) (by lia);lia
theorem zlP{Q P:Int}(h0:-Q<=4*P)(h1:4*P<=Q)(hQ:0<Q):sgd Q (P%Q)=P:=by
 unfold sgd;rcases Int.lt_or_le P 0 with h|h
 .have e:P%Q=P+Q:=by rw[<- DO];exact A3 (by lia) (by lia)
  rw[e,if_pos (by lia)];lia
 .rw[A3 h (by lia),if_neg (by lia)]
theorem zmv{T y:Int}(y0:0<=y)(y1:y<T)(h:2*y≠T):sgd T ((0 - y)%T)=- sgd T y:=by
 by_cases z:y=0
 .subst z;unfold sgd;simp;lia
 .have e:(0 - y)%T=T - y:=by rw[<- DO];exact(A3 (by lia) (by lia)).trans (by lia)
  rw[e];unfold sgd;split<;>split<;>lia
noncomputable def tB:Css:=match yaV.body with
 | .cons _ (.cons _ (.cons _ (.cons _ t)))=>t
 |x=>x
noncomputable def tC:Css:=match tB with
 | .cons _ (.cons _ (.cons _ t))=>t
 |x=>x
noncomputable def tD:Css:=match tC with
 | .cons _ (.cons _ (.cons _ t))=>t
 |x=>x
theorem zfR{A B:List Int}{m:Nat}(ha:A.length=m)(hb:B.length=m)(h:m=1 \/ m=2 \/ m=4):ycJ (.tp AC ((A++B).map .int)) AD (.int m)=AA (.tp AC (A.map .int)):=by
 rcases h with rfl|rfl|rfl
 .match A,B,ha,hb with
  | [a],[b],_,_=>rfl
 .match A,B,ha,hb with
  | [a,a2],[b,b2],_,_=>rfl
 .match A,B,ha,hb with
  | [a,a2,a3,a4],[b,b2,b3,b4],_,_=>rfl
theorem bt2(i j:Nat)(a b:PV)(ρ:IC.Env):yO (.t [i,j]) (.tp AC [a,b]) ρ=AA ((ρ.set i (AA a)).set j (AA b)):=rfl
section
variable {w n:Nat}(hw:4<=w)(hw2:w<=16)(hn:1<=n)(hn2:n<=2){x y:Int}(x0:0<=x)(x1:x<2^(w*n))(y0:0<=y)(y1:y<2^(w*n))(st:SO){p0 p1:Option PV}{P:Int}(hP:P=sgd (2^(w*n)) x*sgd (2^(w*n)) y)
include hw hw2 hn hn2 x0 x1 y0 y1 hP
theorem yed:∃a b:Bool,exs (yc T 24) [p0,p1,AA (.int w),AA (.int n),AA (.int x),AA (.int y),AD,AD,AD,AD,AD] st tB =
  exs (yc T 24) [p0,p1,AA (.int w),AA (.int n),AA (.int x),AA (.int y),AA (.tp AC ((ye (2^w) (2*n) (P%(2^w:Int)^(2*n))).map .int)),AA (.tp AC (([0,bi (!yaS (2^(w*n)) P),bi a,bi b]:List Int).map .int)),AD,AD,AD] st tC:=by
 have hW:(0:Int)<2^w:=Af (by lia);have hp:(2:Int)^(w*n)=(2^w:Int)^n:=CU;let⟨a,b,e1⟩:=yfg hw hw2 hn x0 x1 st hn2 y0 y1 hP;let⟨ms,e2⟩:=zkX hw hw2 hn x0 x1 st (by lia) y0 y1;refine⟨a,b,?_⟩;have h2n:(2:Int)*(n:Int)=((2*n:Nat):Int):=by lia
 have n1:yc T 24 zaz [.tp AC ((ye (2^w) (2*n) (P%(2^w:Int)^(2*n))).map .int),.int w,.int ((2*n:Nat):Int)] st=.ok (.bl AB) st:=number 21 _ hw2 (zbY hW _ _) (zq _ _ _) (by lia) st;have n2:yc T 24 zc9 [.tp AC (([0,bi (!yaS (2^(w*n)) P),bi a,bi b]:List Int).map .int),.int 4,.int 1] st=.ok (.bl AB) st:=wholes 21 _ rfl (λv hv=>by
  have h1:=zca (!yaS (2^(w*n)) P);have h2:=zca a;have h3:=zca b;erw[AQ,A1,or_false]at hv;lia) st
 have hm:ye (2^w) n (P%(2^w:Int)^(2*n))=ye (2^w) n (x*y):=by
  let⟨_,_,q,hq⟩:=zeI x0 x1;let⟨_,_,r,hr⟩:=zeI y0 y1;rw[<- zcm hW n,<- zcm hW n (x*y),F2 P ⟨(2^w:Int)^n,by rw[<- DA,show n+n=2*n by lia]⟩,hP,hq,hr,<- hp];generalize (2:Int)^(w*n)=T;rw[GP,BZ,BZ,<- GP]
 have w1:ye (2^w) (2*n) (P%(2^w:Int)^(2*n))=ye (2^w) n (x*y)++ye (2^w) n (P%(2^w:Int)^(2*n) / (2^w)^n):=by
  rw[show ye (2^w) (2*n) (P%(2^w:Int)^(2*n))=ye (2^w) (n+n) (P%(2^w:Int)^(2*n))by rw[show n+n=2*n by lia],zcn hW,hm]
 have w2:ye (2^w) (2*n) (x*y)=ye (2^w) n (x*y)++ye (2^w) n (x*y / (2^w)^n):=by
  rw[show 2*n=n+n by lia,zcn hW]
 have c1:=zfR (zq (2^w:Int) n (x*y)) (zq (2^w:Int) n (P%(2^w:Int)^(2*n) / (2^w)^n)) (by lia);have c2:=zfR (zq (2^w:Int) n (x*y)) (zq (2^w:Int) n (x*y / (2^w)^n)) (by lia);rw[<- w1]at c1;rw[<- w2]at c2;have q:=ziq (ye (2^w) n (x*y));have o0:yb8 .non=AA none:=rfl
 have hb:tB=(match tB with
  | .cons a (.cons b (.cons c _))=>.cons a (.cons b (.cons c tC))
  |x=>x):=rfl
 have i0:∀(st:SO) (a b:PV),idxV st (.tp AC [a,b]) (.int 0)=AA a:=λ_ _ _=>rfl;rw[hb];generalize tC=F at *;generalize PV.tp AC ((ye (2^w) (2*n) (P%(2^w:Int)^(2*n))).map .int)=A at *;generalize PV.tp AC ((ye (2^w) (2*n) (x*y)).map .int)=B at *;generalize PV.tp AC ((ye (2^w) n (x*y)).map .int)=C at *;generalize PV.tp AC (([0,bi (!yaS (2^(w*n)) P),bi a,bi b]:List Int).map .int)=M at *;simp! [tB,yaV,e1,bt2,h2n,n1,n2,e2,i0,c1,c2,o0,onP,q]
theorem yeH{M:PV}:exs (yc T 24) [p0,p1,AA (.int w),AA (.int n),AA (.int x),AA (.int y),AA (.tp AC ((ye (2^w) (2*n) (P%(2^w:Int)^(2*n))).map .int)),AA M,AD,AD,AD] st tC=exs (yc T 24) [p0,p1,AA (.int w),AA (.int n),AA (.int x),AA (.int y),AA (.tp AC ((ye (2^w) (2*n) (P%(2^w:Int)^(2*n))).map .int)),AA M,AA (.lst [.tp AC ((ye (2^w) (2*n) (sgd (2^(w*n)) x%(2^w:Int)^(2*n))).map .int),.tp AC ((ye (2^w) (2*n) (sgd (2^(w*n)) y%(2^w:Int)^(2*n))).map .int)]),AD,AD] st tD:=by
 have hW:(0:Int)<2^w:=Af (by lia);have hQ:(0:Int)<(2^w:Int)^(2*n):=Af hW;have hp2:(2:Int)^(w*(2*n))=(2^w:Int)^(2*n):=CU;have h2n:(2:Int)*(n:Int)=((2*n:Nat):Int):=by lia
 have el:∀{v:Int},0<=v->v<2^(w*n)->∃ms,yc T 24 zP [.tp AC [.str "led",.str "signed",.str "signed",.int n],.int w,.int n,.int v,.int 0] st=.ok (.tp AC [.tp AC ((ye (2^w) (2*n) (sgd (2^(w*n)) v%(2^w:Int)^(2*n))).map .int),ms]) st:=λv0 v1=>by
  let⟨a,b,e⟩:=zod hw hw2 hn v0 v1 st (N:=2*n) (e:=n) (by lia) (by lia) (by lia) (by lia) (by lia);exact⟨_,e⟩
 let⟨m1,e1⟩:=el x0 x1;let⟨m2,e2⟩:=el y0 y1;have nb:∀V,yc T 24 zaz [.tp AC ((ye (2^w) (2*n) V).map .int),.int w,.int ((2*n:Nat):Int)] st=.ok (.bl AB) st:=λV=>number 21 _ hw2 (zbY hW _ _) (zq _ _ _) (by lia) st;have n1:=nb (sgd (2^(w*n)) x%(2^w:Int)^(2*n));have n2:=nb (sgd (2^(w*n)) y%(2^w:Int)^(2*n));have pl:∀V,0<=V%(2^w:Int)^(2*n)/\V%(2^w:Int)^(2*n)<(2^w:Int)^(2*n)/\yc T 24 zdb [.tp AC ((ye (2^w) (2*n) (V%(2^w:Int)^(2*n))).map .int),.int w] st=.ok (.int (V%(2^w:Int)^(2*n))) st:=λV=>by
  have a:=Ao V (by lia:(2^w:Int)^(2*n)≠0);have b:=Ad V hQ;have f:yc T 24 zdb [.tp AC ((ye (2^w) (2*n) (V%(2^w:Int)^(2*n))).map .int),.int w] st=_:=zgx 23 _ w hw2 (zbY hW _ _) (by rw[zq];lia) st;rw[zeu hW _ _ a b]at f;exact⟨a,b,f⟩
 let⟨u0,u1,f1⟩:=pl (sgd (2^(w*n)) x);let⟨v0,v1,f2⟩:=pl (sgd (2^(w*n)) y);let⟨m3,e3⟩:=zkX hw hw2 (n:=2*n) (by lia) u0 (by rw[hp2];exact u1) st (by lia) v0 (by rw[hp2];exact v1);have w1:ye (2^w) (2*(2*n)) (sgd (2^(w*n)) x%(2^w:Int)^(2*n)*(sgd (2^(w*n)) y%(2^w:Int)^(2*n)))=ye (2^w) (2*n) (P%(2^w:Int)^(2*n))++ye (2^w) (2*n) (sgd (2^(w*n)) x%(2^w:Int)^(2*n)*(sgd (2^(w*n)) y%(2^w:Int)^(2*n)) / (2^w)^(2*n)):=by
  rw[show 2*(2*n)=2*n+2*n by lia,zcn hW,<- zcm hW (2*n) (_*_),<- GP,<- hP]
 have c1:=zfR (zq (2^w:Int) (2*n) (P%(2^w:Int)^(2*n))) (zq (2^w:Int) (2*n) (sgd (2^(w*n)) x%(2^w:Int)^(2*n)*(sgd (2^(w*n)) y%(2^w:Int)^(2*n)) / (2^w)^(2*n))) (by lia);rw[<- w1]at c1;have q:=ziq (ye (2^w) (2*n) (P%(2^w:Int)^(2*n)));generalize PV.tp AC ((ye (2^w) (2*n) (P%(2^w:Int)^(2*n))).map .int)=C at *;generalize PV.tp AC ((ye (2^w) (2*n) (sgd (2^(w*n)) x%(2^w:Int)^(2*n))).map .int)=A at *;generalize PV.tp AC ((ye (2^w) (2*n) (sgd (2^(w*n)) y%(2^w:Int)^(2*n))).map .int)=B at *;generalize PV.tp AC ((ye (2^w) (2*(2*n)) (sgd (2^(w*n)) x%(2^w:Int)^(2*n)*(sgd (2^(w*n)) y%(2^w:Int)^(2*n)))).map .int)=E at *;have i0:∀(st:SO) (a b:PV),idxV st (.tp AC [a,b]) (.int 0)=AA a:=λ_ _ _=>rfl;have j0:∀(st:SO) (a b:PV),idxV st (.lst [a,b]) (.int 0)=AA a:=λ_ _ _=>rfl;have j1:∀(st:SO) (a b:PV),idxV st (.lst [a,b]) (.int 1)=AA b:=λ_ _ _=>rfl;have o0:yb8 .non=AA none:=rfl;have cm:yal (yc T 24) [AD,AA (.int w),AA (.int n)] (.n 0) (.cst (.bl AB)) (.idx (.call zP (.cons (.tup (.cons (.cst (.str "led")) (.cons (.cst (.str "signed")) (.cons (.cst (.str "signed")) (.cons (.var 2) .nil))))) (.cons (.var 1) (.cons (.var 2) (.cons (.var 0) (.cons (.cst (.int 0)) .nil)))))) (.cst (.int 0))) [.int x,.int y] st=.ok [A,B] st:=by
  have o1:=show yaP (yc T 24) [AD,AA (.int w),AA (.int n)] (.n 0) (.cst (.bl AB)) (.idx (.call zP (.cons (.tup (.cons (.cst (.str "led")) (.cons (.cst (.str "signed")) (.cons (.cst (.str "signed")) (.cons (.var 2) .nil))))) (.cons (.var 1) (.cons (.var 2) (.cons (.var 0) (.cons (.cst (.int 0)) .nil)))))) (.cst (.int 0))) (.int x) st=.ok (AA A) st by simp! [yaP,e1,i0]
  have o2:=show yaP (yc T 24) [AD,AA (.int w),AA (.int n)] (.n 0) (.cst (.bl AB)) (.idx (.call zP (.cons (.tup (.cons (.cst (.str "led")) (.cons (.cst (.str "signed")) (.cons (.cst (.str "signed")) (.cons (.var 2) .nil))))) (.cons (.var 1) (.cons (.var 2) (.cons (.var 0) (.cons (.cst (.int 0)) .nil)))))) (.cst (.int 0))) (.int y) st=.ok (AA B) st by simp! [yaP,e2,i0]
  rw[zL,o1,bd_ok,zL,o2,bd_ok,zaL];rfl
 have cn:yal (yc T 24) [AD,AA (.int w),AA (.int n)] (.n 0) (.cst (.bl AB)) (.call zaz (.cons (.var 0) (.cons (.var 1) (.cons (.bin .mul (.cst (.int 2)) (.var 2)) .nil)))) [A,B] st=.ok [.bl AB,.bl AB] st:=by
  have o1:=show yaP (yc T 24) [AD,AA (.int w),AA (.int n)] (.n 0) (.cst (.bl AB)) (.call zaz (.cons (.var 0) (.cons (.var 1) (.cons (.bin .mul (.cst (.int 2)) (.var 2)) .nil)))) A st=.ok (AA (.bl AB)) st by simp! [yaP,h2n,n1]
  have o2:=show yaP (yc T 24) [AD,AA (.int w),AA (.int n)] (.n 0) (.cst (.bl AB)) (.call zaz (.cons (.var 0) (.cons (.var 1) (.cons (.bin .mul (.cst (.int 2)) (.var 2)) .nil)))) B st=.ok (AA (.bl AB)) st by simp! [yaP,h2n,n2]
  rw[zL,o1,bd_ok,zL,o2,bd_ok,zaL];rfl
 have lr:∀a b,ycg (.ok [a,b] st)=.ok (.lst [a,b]) st:=λ_ _=>rfl;have al:yaD .all st [.lst [.bl AB,.bl AB]]=AA (.bl AB):=rfl
 have hb:tC=(match tC with
  | .cons a (.cons b (.cons c _))=>.cons a (.cons b (.cons c tD))
  |x=>x):=rfl
 rw[hb];generalize tD=F at *;simp! [tC,tB,yaV,cm,cn,lr,al,j0,j1,f1,f2,h2n,e3,i0,o0,onP,c1,q]
theorem yeh{a b:Bool}{v8:Option PV}:exs (yc T 24) [p0,p1,AA (.int w),AA (.int n),AA (.int x),AA (.int y),AA (.tp AC ((ye (2^w) (2*n) (P%(2^w:Int)^(2*n))).map .int)),AA (.tp AC (([0,bi (!yaS (2^(w*n)) P),bi a,bi b]:List Int).map .int)),v8,AD,AD] st tD=.rt (.bl AB) st:=by
 have hW:(0:Int)<2^w:=Af (by lia);have hQ:(0:Int)<(2^w:Int)^(2*n):=Af hW;have hT0:(0:Int)<2^(w*n):=Af (by lia);have hp:(2:Int)^(w*n)=(2^w:Int)^n:=CU;have hp2:(2:Int)^(w*(2*n))=(2^w:Int)^(2*n):=CU;have hq:(2^w:Int)^(2*n)=2^(w*n)*2^(w*n):=by rw[hp,show 2*n=n+n by lia,DA]
 have h2n:(2:Int)*(n:Int)=((2*n:Nat):Int):=by lia
 have hK:w*n<=16*2:=BH hw2 hn2;have hwm:yE .mul (.int (w:Int)) (.int (n:Int))=AA (.int ((w*n:Nat):Int)):=by rw[za1 (by lia)];simp
 have X0:=Ao P (by lia:(2^w:Int)^(2*n)≠0);have X1:=Ad P hQ;have f1:yc T 24 zdb [.tp AC ((ye (2^w) (2*n) (P%(2^w:Int)^(2*n))).map .int),.int w] st=_:=zgx 23 _ w hw2 (zbY hW _ _) (by rw[zq];lia) st;rw[zeu hW _ _ X0 X1]at f1;let⟨xa,xb,_⟩:=zeI x0 x1;let⟨ya,yb,_⟩:=zeI y0 y1;let⟨pa,pb⟩:=zjn xa xb ya yb;rw[<- hP,<- hq]at pa pb;let⟨c,d,e1⟩:=zod hw hw2 (n:=2*n) (by lia) X0 (by rw[hp2];exact X1) st (N:=n) (e:=0 - n) (by lia) (by lia) (by lia) (by lia) (by lia);rw[hp2,zlP pa pb hQ,<- hp]at e1;have e1:yc T 24 zP [.tp AC [.str "led",.str "signed",.str "signed",.int (0 - n)],.int w,.int ((2*n:Nat):Int),.int (P%(2^w:Int)^(2*n)),.int 0] st=_:=e1;let⟨mt,e2⟩:=znj hw hw2 (n:=2*n) (by lia) X0 (by rw[hp2];exact X1) st (by lia);have t1:yc T 24 zb9 [.int ((w*n:Nat):Int)] st=_:=zk4 23 (w*n) (by lia) st;have i1:∀(st:SO) (a b:PV),idxV st (.tp AC [a,b]) (.int 1)=AA b:=λ_ _ _=>rfl;have i0:∀(st:SO) (a b:PV),idxV st (.tp AC [a,b]) (.int 0)=AA a:=λ_ _ _=>rfl;have k1:∀(st:SO) (a b c d:PV),idxV st (.tp AC [a,b,c,d]) (.int 1)=AA b:=λ_ _ _ _ _=>rfl
 by_cases hy:2*y=2^(w*n)
 .have b1:(2*y == (2:Int)^(w*n))=true:=by rw[hy];exact beq_self_eq_true _
  generalize PV.tp AC (ye (2^w) (2*n) (P%(2^w:Int)^(2*n)) |>.map .int)=A at *;simp! [tD,tC,tB,yaV,h2n,f1,e1,i1,k1,hwm,t1,b1,beq_self_eq_true]
 .have b1:(2*y == (2:Int)^(w*n))=false:=beq_eq_false_iff_ne.2 hy;have o0:=Ao (0 - y) (by lia:(2:Int)^(w*n)≠0);have o1:=Ad (0 - y) hT0;let⟨g,h,e3⟩:=yfg hw hw2 hn x0 x1 st hn2 o0 o1 (P:=-P) (by rw[zmv y0 y1 hy,HY,<- hP]);have hm:(0 - P%(2^w:Int)^(2*n))%(2^w:Int)^(2*n)=-P%(2^w:Int)^(2*n):=by
   rw[HP,Int.emod_emod,<- HP,Int.zero_sub]
  rw[hm]at e2;have q:=zlq (ye (2^w) (2*n) (-P%(2^w:Int)^(2*n)));have bm:=ziS hT0 (i:=0 - y);generalize PV.tp AC (ye (2^w) (2*n) (P%(2^w:Int)^(2*n)) |>.map .int)=A at *;generalize PV.tp AC (ye (2^w) (2*n) (-P%(2^w:Int)^(2*n)) |>.map .int)=B at *;simp! [tD,tC,tB,yaV,h2n,f1,e1,i1,i0,k1,hwm,t1,b1,ziS hT0,e2,e3,q,beq_self_eq_true]
end
theorem zki(ns:List Int)(hns:ns.length<=63):yc T 25 zkk [.scr (ns.map .int)] []=.ok (.bl AB) []:=by
 let⟨o,e1,ho⟩:=fresh 23 ns hns [];have h0:Drw ns 0 [o]:=⟨0,0,AC,by lia,by rw[ho];rfl⟩;have hl:ns.length<=1000:=by lia
 let⟨wi,zi,s1,a1,a2,a3,a4,o1,e2⟩:=sizes 20 hl (m:=2) (by lia) (by lia) h0;let⟨w,rfl⟩:=zeo (show 0<=wi by lia);let⟨n,rfl⟩:=zeo (show 0<=zi by lia);have d1:=o1.drw h0;have hw:4<=w:=by lia
 have hw2:w<=16:=by lia
 have hn:1<=n:=by lia
 have hn2:n<=2:=by lia
 let⟨x,s2,x0,x1,o2,e3⟩:=worth 20 hl w n hw hw2 hn (by lia) d1;have d2:=o2.drw d1;let⟨y,s3,y0,y1,o3,e4⟩:=worth 20 hl w n hw hw2 hn (by lia) d2;let⟨a,b,g1⟩:=yed hw hw2 hn hn2 x0 x1 y0 y1 s3 (p0:=AA (.scr (ns.map .int))) (p1:=AA (.loc 0)) rfl;rw[yeH hw hw2 hn hn2 x0 x1 y0 y1 s3 rfl,yeh hw hw2 hn hn2 x0 x1 y0 y1 s3 rfl]at g1;have hT:T zkk=AA ⟨1,11,AB,yaV.body⟩:=rfl
 have hb:yaV.body=(match yaV.body with
  | .cons a (.cons b (.cons c (.cons d _)))=>.cons a (.cons b (.cons c (.cons d tB)))
  |x=>x):=rfl
 rw[zc hT rfl rfl (zhb ns)];dsimp only;rw[hb];have e1:yc T 24 zeE [.scr (ns.map .int)] []=.ok (.loc 0) [o]:=e1;have E2:yc T 24 zer [.loc 0,.int 2] [o]=_:=e2;have E3:yc T 24 zcT [.loc 0,.int w,.int n] s1=_:=e3;have E4:yc T 24 zcT [.loc 0,.int w,.int n] s2=_:=e4;generalize tB=F at *;simp! [yaV,e1,E2,bt2,E3,E4,g1,zn5]
end WK
namespace WK
open PySem L2 IC
theorem walk{l:Eu}{q:A8}{loose:List AR}{XP:(AR->Option AG)->BI->Prop}{YP:An->BI->Prop}{d:DefRec}{K:Params->AE}(hn:l.most=AA 63)(hdf:d.params.defaults=[])
  (hY:∀(w:An) (h:BI),YP w h->(K w.params).In h)
  (F:∀(w:An) (mg:AR->Option AG) (fa:AI) (h:BI),(K w.params).In h->h.Ns mainGlobals mg->mg d.name=AA (.ref fa) ->
   ∃fd:BK,(∀(s:AJ) (u:AG),F5 s fd ⟨[u],[]⟩ [("_law_script",u)])/\∀base:BI,(K w.params).In base->base.Ns mainGlobals mg->yaQ l.prog w (K w.params) mg base (CX1 l.prog w) (2*25) fa fd ["_law_script"] (spX (K w.params) (yc T 25) zkk)) :
  Gh q loose XP YP l.row.toRowW d [] (λf vs=>Gp f vs) :=
 L2.walk_of (n:=63) (k:=2*25) (x:="_law_script") (CX:=λw=>CX1 l.prog w) (sp:=λw=>spX (K w.params) (yc T 25) zkk) hn (by decide) hdf ⟨rfl,by decide,by decide⟩ hY F (λw H a ns hl _ hS=>zhs zki hl hS) λ_ _ _ _ _ z=>zoC z
end WK
end
open PySem PySem.W PyProof.Rows
theorem PySem.Challenge.cw_widewords_k38_whole_signed_products_holds : PySem.Challenge.rw_widewords_k38_whole_signed_products.Holds := by
 refine hd0 ?_
 k_fill
 refine WK.walk (l:=PySem.Challenge.rw_widewords_k38_whole_signed_products) rfl rfl (λw h Y=>PySem.W.kIn_of Y) ?F
 case F =>
  intro w mg fa h KX G hmg
  refine' L2.all_mk2 (t:=WK.tbQ) KX G hmg ?R ?B ?D WK.kb_all ?Ml WK.ok_all WK.T_ok (L:=108) rfl 25
  case R =>
   repeat' (first|exact trivial|apply And.intro|(refine' L2.rowFn ?a9 ?l9 ?c9 ?p9 ?b9;(case a9|l9|c9|p9=>k_is);(case b9=>((repeat intro _);first|rfl|kernel_rfl)))|(refine' L2.rowMe ?z9 ?a9 ?i9 ?l9 ?c9 ?p9 ?b9;(case z9=>((first|rw[WK.cn_20]|rw[WK.cn_21]);k_is));(case a9|i9|l9|c9|p9=>k_is);(case b9=>((repeat intro _);first|rfl|kernel_rfl)))|(refine' L2.rowIni ?z9 ?a9 ?i9 ?l9 ?c9 ?p9 ?b9 ?m9 ?k9;(case z9=>((first|rw[WK.cn_20]|rw[WK.cn_21]);k_is));(case a9|i9|l9|c9|p9=>k_is);(case b9=>((repeat intro _);first|rfl|kernel_rfl));(case m9|k9=>k_is))|(refine' L2.rowFd ?a9 ?l9 ?c9 ?p9 ?d9 ?e9 ?v9;(case a9|l9|c9|p9|d9=>k_is);(case e9=>rfl);(case v9=>(repeat first|exact .nil|refine .cons ⟨_,rfl⟩ ?_))))
  case B=>kernel_rfl
  case D =>
   repeat' (first|exact trivial|apply And.intro|intro _|(refine' L2.gd_mk KX G ?a9 ?l9 ?s9 ?r9 ?n9;(case a9|l9=>k_is);(case s9=>rfl);(case r9=>(repeat first|exact .nil|refine L2.con_row (by kernel_rfl) ?_));(case n9=>decide +kernel)))
  case Ml =>
   repeat' (first|exact trivial|apply And.intro|(refine' L2.gdf_mk KX G ?a9 ?l9 ?r9 ?n9;(case a9|l9=>k_is);(case r9=>(repeat first|exact .nil|refine L2.frow_cons (by kernel_rfl) ?_));(case n9=>decide +kernel)))
